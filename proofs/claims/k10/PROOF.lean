import PyProof.Rows.All
import Wide.All
import OpenK.AllK
import Wide.FinOn
import Lean
import PyProof.EqAt
import PyProof.EqKinds
import PyProof.TupleCall
import PySem.Challenge.RW_mothloom_k10_joined_and_apart
set_option Elab.async false
set_option linter.all false
set_option maxRecDepth 100000
set_option genSizeOf false
set_option backward.eqns.nonrecursive false
set_option bootstrap.genMatcherCode false
namespace L2
open PySem PySem.Spec PyProof.Rows
noncomputable abbrev Key:=Sum Int Str
noncomputable def kD:Key->Value->Bool
 | .inl k,v=>Value.isInt k v
 | .inr x,v=>Value.isStrOf x v
noncomputable def AZ (w:World):Key->Int
 | .inl k=>hashInt k
 | .inr x=>hashStr w x
theorem bh:∀ {k:Key}{v:Value},kD k v=true->(∃ i t,k=Sum.inl i/\v=Value.int i t) \/ (∃ x t,k=Sum.inr x/\v=Value.str x t)
 | .inl i,v,h=>by
  obtain ⟨t,e⟩:=Value.isInt_shape (k:=i) (v:=v) h
  exact .inl ⟨i,t,rfl,e⟩
 | .inr x,v,h=>by
  obtain ⟨t,e⟩:=Value.isStrOf_shape (x:=x) (v:=v) h
  exact .inr ⟨x,t,rfl,e⟩
theorem pR (i:Int) (t:Tok):kD (.inl i) (.int i t)=true:=by simp [kD,Value.isInt]
theorem pS (x:Str) (t:Tok):kD (.inr x) (.str x t)=true:=by simp [kD,Value.isStrOf]
theorem wq (a b:Int):decide ((Sum.inl a:Key)=Sum.inl b)=(a == b):=by
 by_cases e:a=b
 ·subst e;simp
 ·have h:¬ (Sum.inl a:Key)=Sum.inl b:=λq=>e (Sum.inl.inj q)
  rw [decide_eq_false h]
  exact (beq_eq_false_iff_ne.mpr e).symm
theorem wt (a b:Str):decide ((Sum.inr a:Key)=Sum.inr b)=decide (a=b):=by
 by_cases e:a=b
 ·subst e;simp
 ·have h:¬ (Sum.inr a:Key)=Sum.inr b:=λq=>e (Sum.inr.inj q)
  rw [decide_eq_false h,decide_eq_false e]
theorem wu (a:Int) (b:Str):decide ((Sum.inl a:Key)=Sum.inr b)=false:=decide_eq_false (λq=>nomatch q)
theorem wv (a:Str) (b:Int):decide ((Sum.inr a:Key)=Sum.inl b)=false:=decide_eq_false (λq=>nomatch q)
noncomputable def de (prog:Program) (w:World):PySem.KeyKind prog w Key where
 is:=kD
 hash:=AZ w
 inj:=λv a b ha hb=>by
  rcases bh ha with ⟨i,t,rfl,rfl⟩|⟨x,t,rfl,rfl⟩
  ·rcases bh hb with ⟨j,u,rfl,e⟩|⟨y,u,rfl,e⟩
   ·injection e with e1 _;rw [e1]
   ·exact nomatch e
  ·rcases bh hb with ⟨j,u,rfl,e⟩|⟨y,u,rfl,e⟩
   ·exact nomatch e
   ·injection e with e1 _;rw [e1]
 byValue:=λk v h=>by
  rcases bh h with ⟨i,t,rfl,rfl⟩|⟨x,t,rfl,rfl⟩ <;> rfl
 pyHash:=λhv h=>by
  rcases bh hv with ⟨i,t,rfl,rfl⟩|⟨x,t,rfl,rfl⟩
  ·exact wpAny_pyHash_int h
  ·exact wpAny_pyHash_str h
 eqBool:=λhu hv h=>by
  rcases bh hu with ⟨i,t,rfl,rfl⟩|⟨x,t,rfl,rfl⟩
  ·rcases bh hv with ⟨j,u,rfl,rfl⟩|⟨y,u,rfl,rfl⟩
   ·rw [wq] at h;exact wpAny_eqBool_int h
   ·rw [wu] at h;exact SeqAt.EqAt.int_str i t y u _ _ _ _ h
  ·rcases bh hv with ⟨j,u,rfl,rfl⟩|⟨y,u,rfl,rfl⟩
   ·rw [wv] at h;exact SeqAt.EqAt.str_int x t j u _ _ _ _ h
   ·rw [wt] at h;exact wpAny_eqBool_str h
 «strs»:=λk x t v h=>by
  rcases bh h with ⟨i,u,rfl,e⟩|⟨y,u,rfl,e⟩
  ·exact nomatch e
  ·injection e with e1 _
   subst e1
   cases v <;> rfl
theorem l7 (prog:Program) (w:World) (i:Int) (t:Tok):(de prog w).is (.inl i) (.int i t)=true:=pR i t
theorem l8 (prog:Program) (w:World) (x:Str) (t:Tok):(de prog w).is (.inr x) (.str x t)=true:=pS x t
end L2
namespace L2
open PySem PySem.Spec PyProof.Rows
inductive V where
 | non|bl (b:Bool)|int (i:Int)|str (x:Str)|byt (b:Array UInt8)|flt (b:UInt64)|ref (a:Addr)|ty (n:String)
 deriving DecidableEq
noncomputable def ar:V->Value->Prop
 | .non,u=>u=Value.none
 | .bl b,u=>u=Value.bool b
 | .int i,u=>∃ t,u=Value.int i t
 | .str x,u=>∃ t,u=Value.str x t
 | .byt b,u=>∃ t,u=Value.bytes b t
 | .flt b,u=>∃ t,u=Value.float b t
 | .ref a,u=>u=Value.ref a
 | .ty n,u=>u=Value.type n
noncomputable abbrev am:List V->List Value->Prop:=Paired ar
theorem am.length {xs:List V}{us:List Value} (r:am xs us):xs.length=us.length:=Paired.length r
theorem am.get:∀ {xs:List V}{us:List Value}{i:Nat}{x:V},am xs us->xs[i]?=some x->∃ u,us[i]?=some u/\ar x u
 | _,_,_,_,.nil,e=>by simp at e
 | _,_,0,_,.cons r _,e=>by simp at e;subst e;exact ⟨_,rfl,r⟩
 | _,_,i + 1,x,.cons _ t,e=>by
  obtain ⟨u,h1,h2⟩:=am.get (i:=i) (x:=x) t (by simpa using e)
  exact ⟨u,by simpa using h1,h2⟩
theorem am.set {x:V}{u:Value} (r:ar x u):∀ {xs:List V}{us:List Value} (i:Nat),am xs us->am (xs.set i x) (us.set i u)
 | _,_,_,.nil=>.nil
 | _,_,0,.cons _ t=>.cons r t
 | _,_,i + 1,.cons q t=>.cons q (am.set r i t)
theorem am.append:∀ {xs ys:List V}{us ws:List Value},am xs us->am ys ws->am (xs ++ ys) (us ++ ws)
 | _,_,_,_,.nil,s=>s
 | _,_,_,_,.cons r t,s=>.cons r (am.append t s)
theorem am.take:∀ {xs:List V}{us:List Value} (n:Nat),am xs us->am (xs.take n) (us.take n)
 | _,_,0,_=>.nil
 | _,_,_ + 1,.nil=>.nil
 | _,_,n + 1,.cons r t=>.cons r (am.take n t)
theorem am.drop:∀ {xs:List V}{us:List Value} (n:Nat),am xs us->am (xs.drop n) (us.drop n)
 | _,_,0,r=>r
 | _,_,_ + 1,.nil=>.nil
 | _,_,n + 1,.cons _ t=>am.drop n t
noncomputable def l9:Option V->Option Value->Prop
 | some v,some u=>ar v u
 | none,none=>True
 | _,_=>False
noncomputable def KV {κ:Type}:List (κ × V)->List (κ × Value)->Prop:=Paired λ(p:κ × V) (q:κ × Value)=>p.1=q.1/\ar p.2 q.2
noncomputable def kV:Key->V
 | .inl i=>.int i
 | .inr x=>.str x
inductive HO where
 | lst (xs:List V)
 | tup (xs:List V)
 | dK (kvs:List (Key × V))|dT (kvs:List (List Key × V))
 | set (S:Int->Bool) (n:Nat)
 | ins (C dx:Addr) (fs:List (Str × V))
 | own (x:Addr)
 | xd (fs:List (Str × V))
 | met (f x:Addr)
 | rng (lo hi:Int)
 | frz (o:Obj) (u:HO)
 | tbl (ps:Array Value)
 | ext (φ:Heap->Prop)
noncomputable abbrev Hp:=Addr->Option HO
noncomputable def upd (H:Hp) (a:Addr) (o:HO):Hp:=λb=>if b=a then some o else H b
theorem aB {H:Hp}{a:Addr}{o:HO}:upd H a o a=some o:=by unfold upd;rw [if_pos rfl]
theorem au {H:Hp}{a b:Addr}{o:HO} (h:b ≠ a):upd H a o b=H b:=by unfold upd;rw [if_neg h]
theorem bn {H:Hp}{a b:Addr}{o:HO} (h:H a=some o) (h':H b=none):a ≠ b:=by
 intro e;subst e;rw [h] at h';cases h'
section
variable (P:Program) (w:World)
noncomputable def bC (H:Hp) (h:Heap) (a:Addr):HO->Prop
 | .lst xs=>xs.length <= sizeLine/\∃ (its:List Value) (n:Nat),am xs its/\h.get? a=some { cls:=.type "list",data:=.seq its.toArray n }
 | .tup xs=>xs.length <= sizeLine/\∃ its:List Value,am xs its/\IsTup h a its.toArray
 | .dK kvs=>kvs.length <= sizeLine/\(a == sysModules)=false/\∃ vs,KV kvs vs/\h.DictOf (de P w) a vs
 | .dT kvs=>kvs.length <= sizeLine/\(a == sysModules)=false/\∃ xs:List (List Key × Addr × Value),
   Paired (λ(p:List Key × V) (q:List Key × Addr × Value)=>p.1=q.1/\H q.2.1=some (.tup (p.1.map kV))/\ar p.2 q.2.2) kvs xs /\
   ∃ o es ep,h.get? a=some o/\o.ExactDict/\o.data=.dict es ep/\es.toList=xs.map (entryOfKey (tupleKind (de P w)))/\(xs.map (·.1)).Nodup
 | .set S n=>h.SetOf (intKind P w) a S n
 | .ins C dx fs=>H dx=some (.own a)/\fs.length <= 1000/\dx ≠ a/\h.get? a=some (PySem.W.instObj C dx) /\
   ∃ mA,h.Ns1 dx mA/\(∀ f,l9 (fs.lookup f) (mA f))/\PySem.Within mA (fs.map (·.1))
 | .own _=>∃ o,h.get? a=some o
 | .xd fs=>∃ mA,h.Ns1 a mA/\∀ f,l9 (fs.lookup f) (mA f)
 | .rng lo hi=>∃ t u v,h.get? a=some { cls:=.type "range",data:=.fields #[.int lo t,.int hi u,.int 1 v] }
 | .frz o u=>h.get? a=some o/\bC H h a u
 | .tbl ps=>h.get? a=some { cls:=.none,data:=.fields ps }
 | .met f x=>h.get? a=some (PySem.W.methodObj (.ref f) (.ref x))
 | .ext φ=>φ h/\(∃ o,h.get? a=some o)/\∀ h1 h2:Heap,φ h1->(∀ o,h1.get? a=some o->h2.get? a=some o)->φ h2
noncomputable def HOk (H:Hp) (h:Heap):Prop:=∀ a o,H a=some o->bC P w H h a o
end
section
variable {P:Program}{w:World}{H H':Hp}{h h':Heap}{a:Addr}{o:HO}
theorem bC.lt (x:bC P w H h a o):a < h.objs.size:=by
 cases o with
 | lst xs=>obtain ⟨_,_,_,_,e⟩:=x;exact Heap.lt_size e
 | tup xs=>obtain ⟨_,_,_,p⟩:=x;exact p.lt
 | dK kvs=>obtain ⟨_,_,_,_,o,_,_,e,_⟩:=x;exact Heap.lt_size e
 | dT kvs=>obtain ⟨_,_,_,_,o,_,_,e,_⟩:=x;exact Heap.lt_size e
 | set S n=>obtain ⟨o,_,_,_,e,_⟩:=x;exact Heap.lt_size e
 | ins C dx fs=>obtain ⟨_,_,_,e,_⟩:=x;exact Heap.lt_size e
 | own y=>obtain ⟨_,e⟩:=x;exact Heap.lt_size e
 | xd fs=>obtain ⟨_,⟨_,_,_,e,_⟩,_⟩:=x;exact Heap.lt_size e
 | rng lo hi=>obtain ⟨_,_,_,e⟩:=x;exact Heap.lt_size e
 | frz ob u=>obtain ⟨e,_⟩:=x;exact Heap.lt_size e
 | tbl ps=>exact Heap.lt_size (show h.get? a=some _ from x)
 | met f y=>exact Heap.lt_size (show h.get? a=some _ from x)
 | ext φ=>obtain ⟨_,⟨_,e⟩,_⟩:=x;exact Heap.lt_size e
theorem Paired.mapP {α β:Type}{F G:α->β->Prop}:∀ {l₁:List α}{l₂:List β},Paired F l₁ l₂->(∀ a b,F a b->G a b)->Paired G l₁ l₂
 | _,_,.nil,_=>.nil
 | _,_,.cons r t,f=>.cons (f _ _ r) (Paired.mapP t f)
theorem bC.stay (x:bC P w H h a o) (k:∀ b u,(b=a \/ H b=some (.own a))->h.get? b=some u->h'.get? b=some u)
  (ho:∀ b,H b=some (.own a)->H' b=some (.own a)) (ht:∀ b xs,H b=some (.tup xs)->H' b=some (.tup xs)):bC P w H' h' a o:=by
 induction o with
 | lst xs=>obtain ⟨z,its,n,r,e⟩:=x;exact ⟨z,its,n,r,k _ _ (.inl rfl) e⟩
 | tup xs=>obtain ⟨z,its,r,ob,e,c⟩:=x;exact ⟨z,its,r,ob,k _ _ (.inl rfl) e,c⟩
 | dK kvs=>obtain ⟨z,y,vs,r,ob,es,ep,e,c⟩:=x;exact ⟨z,y,vs,r,ob,es,ep,k _ _ (.inl rfl) e,c⟩
 | dT kvs =>
  obtain ⟨z,y,xs,r,ob,es,ep,e,c⟩:=x
  exact ⟨z,y,xs,Paired.mapP r λp q z=>⟨z.1,ht _ _ z.2.1,z.2.2⟩,ob,es,ep,k _ _ (.inl rfl) e,c⟩
 | set S n=>obtain ⟨ob,es,ep,t,e,c⟩:=x;exact ⟨ob,es,ep,t,k _ _ (.inl rfl) e,c⟩
 | ins C dx fs =>
  obtain ⟨d,z,ne,e,mA,⟨od,es,ep,e2,c⟩,r⟩:=x
  exact ⟨ho _ d,z,ne,k _ _ (.inl rfl) e,mA,⟨od,es,ep,k _ _ (.inr d) e2,c⟩,r⟩
 | own y=>obtain ⟨ob,e⟩:=x;exact ⟨ob,k _ _ (.inl rfl) e⟩
 | xd fs=>obtain ⟨mA,⟨od,es,ep,e,c⟩,r⟩:=x;exact ⟨mA,⟨od,es,ep,k _ _ (.inl rfl) e,c⟩,r⟩
 | rng lo hi=>obtain ⟨t,u,v,e⟩:=x;exact ⟨t,u,v,k _ _ (.inl rfl) e⟩
 | frz ob u ih=>obtain ⟨e,q⟩:=x;exact ⟨k _ _ (.inl rfl) e,ih q⟩
 | tbl ps =>
  have e:h.get? a=some { cls:=.none,data:=.fields ps }:=x
  show h'.get? a=some { cls:=.none,data:=.fields ps }
  exact k a _ (.inl rfl) e
 | met f y =>
  have e:h.get? a=some (PySem.W.methodObj (.ref f) (.ref y)):=x
  show h'.get? a=some (PySem.W.methodObj (.ref f) (.ref y))
  exact k a _ (.inl rfl) e
 | ext φ=>obtain ⟨p,⟨o,e⟩,st⟩:=x;exact ⟨st _ _ p λo q=>k _ _ (.inl rfl) q,⟨o,k _ _ (.inl rfl) e⟩,st⟩
theorem HOk.lt (x:HOk P w H h) (e:H a=some o):a < h.objs.size:=(x a o e).lt
theorem HOk.fresh (x:HOk P w H h) (e:h.objs.size <= a):H a=none:=by
 cases q:H a with
 | none=>rfl
 | some u=>exact absurd (Nat.lt_of_lt_of_le (x.lt q) e) (Nat.lt_irrefl _)
theorem HOk.kept (x:HOk P w H h) (k:∀ b u,h.get? b=some u->h'.get? b=some u):HOk P w H h':=λa o e =>
 (x a o e).stay (λb u _ q=>k b u q) (λ_ q=>q) λ_ _ q=>q
theorem HOk.laid (x:HOk P w H h) (k:∀ b u,h.get? b=some u->h'.get? b=some u) (hp:h.objs.size <= a) (new:bC P w (upd H a o) h' a o):HOk P w (upd H a o) h':=λb u e=>by
 have hn:=x.fresh hp
 by_cases hb:b=a
 ·subst hb;rw [aB] at e;cases e;exact new
 ·rw [au hb] at e
  exact (x b u e).stay (λc v _ q=>k c v q) (λc q=>by rw [au (bn q hn)];exact q) λc xs q=>by rw [au (bn q hn)];exact q
end
noncomputable def Rd (H:Hp) (a:Addr) (u:HO):Prop:=H a=some u \/ ∃ o,H a=some (.frz o u)
theorem Rd.ok {P:Program}{w:World}{H:Hp}{h:Heap}{a:Addr}{u:HO} (r:Rd H a u) (x:HOk P w H h):bC P w H h a u:=by
 rcases r with r|⟨o,r⟩
 ·exact x a u r
 ·obtain ⟨_,q⟩:=x a _ r
  exact q
noncomputable def Mut:Option HO->Prop
 | some (.lst _)=>True
 | some (.dK _)=>True
 | some (.dT _)=>True
 | some (.set _ _)=>True
 | some (.ins _ _ _)=>True
 | some (.ext _)=>True
 | _=>False
section
variable {P:Program}{w:World}{H:Hp}{h h':Heap}{x e:Addr}{o':HO}
theorem HOk.write (ok:HOk P w H h) (mu:Mut (H x)) (he:e=x \/ H e=some (.own x)) (k:∀ b u,b ≠ e->h.get? b=some u->h'.get? b=some u) (heo:∃ u,h'.get? e=some u)
  (new:bC P w (upd H x o') h' x o'):HOk P w (upd H x o') h':=λb u q=>by
 have nown:∀ c y,H c=some (.own y)->c ≠ x:=λc y r z=>by subst z;rw [r] at mu;exact mu
 have ntup:∀ c xs,H c=some (.tup xs)->c ≠ x:=λc xs r z=>by subst z;rw [r] at mu;exact mu
 by_cases hb:b=x
 ·subst hb;rw [aB] at q;cases q;exact new
 ·rw [au hb] at q
  by_cases hbe:b=e
  ·have q':H b=some (.own x):=by
    rcases he with z|z
    ·exact absurd (hbe.trans z) hb
    ·rw [hbe];exact z
   rw [q] at q';cases q'
   obtain ⟨v,hv⟩:=heo
   exact ⟨v,by rw [hbe];exact hv⟩
  ·refine (ok b u q).stay (λc v hc r=>k c v ?_ r) (λc r=>by rw [au (nown c b r)];exact r) λc xs r=>by rw [au (ntup c xs r)];exact r
   rcases hc with rfl|hc
   ·exact hbe
   ·rintro rfl
    rcases he with z|z
    ·exact nown c b hc z
    ·rw [hc] at z;cases z;exact hb rfl
end
structure Un (fs ex:List Addr) (H H':Hp) (h h':Heap):Prop where
 keep:∀ b o,h.get? b=some o->H b=none->b ∉ fs->b ∉ ex->h'.get? b=some o
 slot:∀ b o,h.get? b=some o->H b=none->b ∈ fs->b ∉ ex->∃ sl,h'.get? b=some { o with slots:=sl }
 free:∀ b o,h.get? b=some o->H b=none->b ∉ ex->H' b=none
 there:∀ b o,h.get? b=some o->b ∉ ex->∃ o',h'.get? b=some o'
 tups:∀ b xs,H b=some (.tup xs)->H' b=some (.tup xs)
 frzs:∀ b o u,H b=some (.frz o u)->H' b=some (.frz o u)
 tbls:∀ b ps,H b=some (.tbl ps)->∃ more,H' b=some (.tbl (ps ++ more))
section
variable {fs fs' ex ex':List Addr}{H H1 H2:Hp}{h h1 h2 h':Heap}{a x e:Addr}{o:HO}
theorem Un.any (u:Un fs ex H H1 h h1) {b:Addr}{ob:Obj} (q:h.get? b=some ob) (n:H b=none) (hx:b ∉ ex):∃ sl,h1.get? b=some { ob with slots:=sl }:=by
 by_cases hb:b ∈ fs
 ·exact u.slot b ob q n hb hx
 ·exact ⟨ob.slots,u.keep b ob q n hb hx⟩
theorem Un.kept (k:∀ b u,h.get? b=some u->h'.get? b=some u):Un fs ex H H h h' :=
 ⟨λb ob q _ _ _=>k b ob q,λb ob q _ _ _=>⟨ob.slots,k b ob q⟩,λ_ _ _ n _=>n,λb ob q _=>⟨ob,k b ob q⟩,λ_ _ q=>q,λ_ _ _ q=>q,λ_ ps q=>⟨#[],by rw [q];simp⟩⟩
theorem Un.refl:Un fs ex H H h h:=Un.kept λ_ _ q=>q
theorem Un.laid (k:∀ b u,h.get? b=some u->h'.get? b=some u) (hp:h.objs.size <= a) (hn:H a=none):Un fs ex H (upd H a o) h h' where
 keep:=λb u q _ _ _=>k b u q
 slot:=λb u q _ _ _=>⟨u.slots,k b u q⟩
 free:=λb u q n _=>by rw [au (Nat.ne_of_lt (Nat.lt_of_lt_of_le (Heap.lt_size q) hp))];exact n
 there:=λb u q _=>⟨u,k b u q⟩
 tups:=λb xs q=>by rw [au (bn q hn)];exact q
 frzs:=λb u xs q=>by rw [au (bn q hn)];exact q
 tbls:=λb ps q=>⟨#[],by rw [au (bn q hn),q];simp⟩
theorem Un.write (mu:Mut (H x)) (he:e=x \/ H e=some (.own x)) (k:∀ b u,b ≠ e->h.get? b=some u->h'.get? b=some u) (heo:∃ u,h'.get? e=some u):Un fs ex H (upd H x o) h h':=by
 have hx:∀ b,H b=none->b ≠ x:=λb n z=>by subst z;rw [n] at mu;exact mu
 have hb:∀ b,H b=none->b ≠ e:=λb n z=>by
  subst z
  rcases he with r|r
  ·exact hx b n r
  ·rw [n] at r;cases r
 have hm:∀ b u,H b=some u->¬ Mut (some u)->b ≠ x:=λb u q nm z=>by subst z;rw [q] at mu;exact nm mu
 refine ⟨λb u q n _ _=>k b u (hb b n) q,λb u q n _ _=>⟨u.slots,k b u (hb b n) q⟩,λb u q n _=>by rw [au (hx b n)];exact n,λb u q _=>?_,
  λb xs q=>by rw [au (hm b _ q λz=>z)];exact q,λb u xs q=>by rw [au (hm b _ q λz=>z)];exact q,λb ps q=>⟨#[],by rw [au (hm b _ q λz=>z),q];simp⟩⟩
 by_cases hbe:b=e
 ·subst hbe;exact heo
 ·exact ⟨u,k b u hbe q⟩
end
noncomputable def trk (h:Heap) (H:Hp):List Addr:=(List.range h.objs.size).filter λa=>(H a).isSome
noncomputable def lu (h:Heap) (H:Hp):Heap:=PySem.W.hideAll h (trk h H)
theorem pT (h:Heap) (H:Hp):(lu h H).objs.size=h.objs.size:=PySem.W.hideAll_size _ _
theorem qT {h:Heap}{H:Hp}{b:Addr}{o:Obj} (e:h.get? b=some o) (n:H b=none):(lu h H).get? b=some o :=
 PySem.W.hideAll_get _ e λhm=>by
  have q:(H b).isSome=true:=(List.mem_filter.mp hm).2
  rw [n] at q;simp at q
theorem uq {h:Heap}{H:Hp}{b:Addr}{o:Obj} (e:(lu h H).get? b=some o):h.get? b=some o/\H b=none:=by
 have e':h.get? b=some o:=PySem.W.of_hideAll (trk h H) e
 refine ⟨e',?_⟩
 cases q:H b with
 | none=>rfl
 | some x =>
  have hm:b ∈ trk h H:=List.mem_filter.mpr ⟨List.mem_range.mpr (Heap.lt_size e'),by simp [q]⟩
  have z:(lu h H).get? b=none:=PySem.W.hideAll_none (trk h H) hm
  rw [z] at e;cases e
noncomputable def ur (g h:Heap) (L:Addr):List (Addr × Obj):=(List.range h.objs.size).filterMap λa=>if a=L \/ (g.get? a).isSome=true then none else (h.get? a).map λo=>(a,o)
noncomputable def bR (g h:Heap) (L d:Addr):List (Addr × Obj):=(ur g h L).filter λp=>decide (p.1 ≠ d)
end L2
namespace L2
open PySem PySem.Spec PyProof.Rows
structure Mod (K:PySem.W.Frag) (mg:Str->Option Value) (base:Heap):Prop where
 kin:K.In base
 glob:base.Ns mainGlobals mg
 blt:∃ mb,base.Ns builtinsNs mb/\∀ x:Str,x ≠ "__name__"->mb x=bootBuiltins x
 nolimit:base.NoLimit
structure Cx where
 prog:Program
 w:World
 K:PySem.W.Frag
 mg:Str->Option Value
 base:Heap
 A:Around
 N:List Str
 s₀:Shared
 H₀:Hp
 env:Env
 outer:List Env
 stack:List Env
 ex:List Addr
 fn:Str->Bool
 calm:Bool
 pn:List (Addr × Obj)
 xe:Value->Shared->Prop
noncomputable def frs (l:List Env):List Addr:=l.filterMap (·.frame)
noncomputable abbrev Cx.fs (X:Cx):List Addr:=frs X.outer
noncomputable def Vis (sc:Scope) (x:Str):Prop:=sc.names.lookup x=some .local \/ sc.names.lookup x=some .cell \/ sc.names.lookup x=some .free
noncomputable def Loc (sc:Scope) (x:Str):Prop:=sc.names.lookup x=some .local \/ sc.names.lookup x=some .cell
noncomputable def A0 (env:Env) (h:Heap) (m:Str->Option Value) (x:Str) (u:Value):Prop :=
 (env.kindOf x=some .local/\m x=some u) \/ ((env.kindOf x=some .cell \/ env.kindOf x=some .free)/\∃ c,env.cells.lookup x=some c/\h.IsCell c (some u))
structure Cx.Ok (X:Cx):Prop where
 mod:Mod X.K X.mg X.base
 kind:X.env.scope.kind=.function
 glob:X.env.globals=mainGlobals
 blt:X.env.builtins=builtinsNs
 above:X.s₀.heap.objs.size <= X.env.locals
 inj:∀ x y c,X.env.cells.lookup x=some c->X.env.cells.lookup y=some c->x=y
 has:∀ x,(X.env.kindOf x=some .cell \/ X.env.kindOf x=some .free)->∃ c,X.env.cells.lookup x=some c
 cab:∀ x c,X.fn x=true->X.env.cells.lookup x=some c->X.s₀.heap.objs.size <= c
 hd:X.calm=true->X.A.handled=none
 frames:X.A.frames=some X.stack
 stk:X.stack=X.outer \/ (X.stack=X.env::X.outer/\X.env.frame=some X.env.locals)
 exf:∀ b ∈ X.ex,b ≠ X.env.locals/\∀ x c,X.env.cells.lookup x=some c->c ≠ b
 bs:∀ b o,X.base.get? b=some o->X.s₀.heap.get? b=some o/\X.H₀ b=none
 bsz:X.base.objs.size <= X.s₀.heap.objs.size
 noex:∀ b o,X.base.get? b=some o->b ∉ X.ex
 exfs:∀ b ∈ X.ex,b ∉ X.fs
 funs:X.s₀.heap.FunFrames X.base X.outer
 frf:∀ b ∈ X.fs,X.H₀ b=none
structure Inv (X:Cx) (pins:List (Addr × Obj)) (σ:List (Option V)) (H:Hp) (s:Shared):Prop where
 ok:X.Ok
 os:s.os=X.s₀.os
 bare:AllBare s.gens
 base:Un X.fs X.ex X.H₀ H X.s₀.heap s.heap
 loc:∃ m,s.heap.Ns X.env.locals m/\∀ (i:Nat) (x:Str) (v:V),X.N[i]?=some x->σ[i]?=some (some v)->Vis X.env.scope x->∃ u,ar v u/\A0 X.env s.heap m x u
 cell:∀ x c,X.env.cells.lookup x=some c->∃ v,s.heap.IsCell c v
 free:H X.env.locals=none
 freeC:∀ x c,X.env.cells.lookup x=some c->H c=none
 pin:∀ p ∈ X.pn ++ pins,s.heap.get? p.1=some p.2/\H p.1=none/\p.1 ≠ X.env.locals/\p.1 ∉ X.fs/\∀ v,p.2.data ≠ .cell v
 hok:HOk X.prog X.w H s.heap
 len:σ.length=X.N.length
section
variable {X:Cx}{pins:List (Addr × Obj)}{σ:List (Option V)}{H H':Hp}{s:Shared}{h':Heap}
theorem Cx.Ok.nofr (ok:X.Ok) {b:Addr}{o:Obj} (e:X.base.get? b=some o):b ∉ X.fs:=λhb=>by
 have:=(ok.funs.mem hb).1
 rw [e] at this;cases this
theorem Inv.bs (I:Inv X pins σ H s):∀ b o,X.base.get? b=some o->s.heap.get? b=some o/\H b=none:=λb o e =>
 ⟨I.base.keep b o (I.ok.bs b o e).1 (I.ok.bs b o e).2 (I.ok.nofr e) (I.ok.noex b o e),I.base.free b o (I.ok.bs b o e).1 (I.ok.bs b o e).2 (I.ok.noex b o e)⟩
theorem Inv.bk (I:Inv X pins σ H s):∀ b o,X.base.get? b=some o->s.heap.get? b=some o:=λb o e=>(I.bs b o e).1
theorem Inv.mod (I:Inv X pins σ H s):Mod X.K X.mg X.base:=I.ok.mod
theorem Inv.kIn (I:Inv X pins σ H s):X.K.In s.heap:=I.ok.mod.kin.keeps I.bk
theorem Inv.lt (I:Inv X pins σ H s):X.env.locals < s.heap.objs.size:=let ⟨_,hn,_⟩:=I.loc;hn.lt
theorem Inv.sz (I:Inv X pins σ H s):X.s₀.heap.objs.size <= s.heap.objs.size:=Nat.le_trans I.ok.above (Nat.le_of_lt I.lt)
theorem Inv.nofs (I:Inv X pins σ H s) {a:Addr} (h:s.heap.objs.size <= a):a ∉ X.fs:=λhb=>by
 obtain ⟨_,o,ho,_⟩:=I.ok.funs.mem hb
 exact absurd (Nat.lt_of_lt_of_le (Heap.lt_size ho) (Nat.le_trans I.sz h)) (Nat.lt_irrefl _)
theorem Inv.cne (I:Inv X pins σ H s):∀ x c,X.env.cells.lookup x=some c->c ≠ X.env.locals:=λx c e z=>by
 obtain ⟨v,o,ho,hd⟩:=I.cell x c e
 obtain ⟨m,⟨o',es,ep,ho',hd',_⟩,_⟩:=I.loc
 rw [z,ho'] at ho;cases ho;rw [hd'] at hd;cases hd
theorem Inv.funs (I:Inv X pins σ H s):s.heap.FunFrames X.base X.outer:=by
 have all:∀ (l:List Env),(∀ b ∈ frs l,b ∈ X.fs)->X.s₀.heap.FunFrames X.base l->s.heap.FunFrames X.base l:=by
  intro l
  induction l with
  | nil=>intro _ _;trivial
  | cons env r ih =>
   intro hs hl
   obtain ⟨hk,⟨L,o,hf,hn,ho,hd⟩,hr⟩:=hl
   have hL:L ∈ X.fs:=hs L (by unfold frs;rw [List.filterMap_cons,hf];exact List.mem_cons_self)
   obtain ⟨sl,e⟩:=I.base.slot L o ho (I.ok.frf L hL) hL λz=>I.ok.exfs L z hL
   exact ⟨hk,⟨L,_,hf,hn,e,hd⟩,ih (λb hb=>hs b (by unfold frs;rw [List.filterMap_cons,hf];exact List.mem_cons_of_mem _ hb)) hr⟩
 exact all X.outer (λ_ hb=>hb) I.ok.funs
theorem Inv.stack (I:Inv X pins σ H s):s.heap.FunFrames X.base X.stack:=by
 rcases I.ok.stk with e|⟨e,hf⟩
 ·rw [e];exact I.funs
 ·rw [e]
  obtain ⟨m,hn,_⟩:=I.loc
  refine .cons (by rw [I.ok.kind];decide) hf hn ?_ I.funs
  exact Heap.get?_none_of_le (Nat.le_trans I.ok.bsz I.ok.above)
theorem Inv.stkSub (I:Inv X pins σ H s):∀ b ∈ frs X.stack,b ∈ X.env.locals::X.fs:=λb hb=>by
 rcases I.ok.stk with e|⟨e,hf⟩
 ·rw [e] at hb;exact List.mem_cons_of_mem _ hb
 ·rw [e] at hb
  unfold frs at hb
  rw [List.filterMap_cons,hf] at hb
  exact hb
theorem Inv.stkFree (I:Inv X pins σ H s):∀ b ∈ frs X.stack,H b=none:=λb hb=>by
 rcases List.mem_cons.mp (I.stkSub b hb) with e|hb
 ·rw [e];exact I.free
 ·obtain ⟨_,o,ho,_⟩:=I.ok.funs.mem hb
  exact I.base.free b o ho (I.ok.frf b hb) λz=>I.ok.exfs b z hb
theorem Inv.step {g':Array GenState}{t':Nat}{d':Drawn}{ch:List Addr} (I:Inv X pins σ H s)
  (hch:∀ b ∈ ch,(b ∈ X.ex \/ X.s₀.heap.objs.size <= b)/\b ≠ X.env.locals/\(∀ x c,X.env.cells.lookup x=some c->c ≠ b)/\∀ p ∈ X.pn ++ pins,p.1 ≠ b)
  (keep:∀ b o,b ≠ X.env.locals->b ∉ X.fs->b ∉ ch->s.heap.get? b=some o->H b=none->h'.get? b=some o)
  (slot:∀ b o,b ≠ X.env.locals->b ∈ X.fs->b ∉ ch->s.heap.get? b=some o->H b=none->∃ sl,h'.get? b=some { o with slots:=sl }) (free:∀ b o,b ∉ ch->s.heap.get? b=some o->H b=none->H' b=none)
  (there:∀ b o,b ∉ ch->s.heap.get? b=some o->∃ o',h'.get? b=some o')
  (tups:∀ b xs,H b=some (.tup xs)->H' b=some (.tup xs)) (frzs:∀ b o u,H b=some (.frz o u)->H' b=some (.frz o u)) (tbls:∀ b ps,H b=some (.tbl ps)->∃ more,H' b=some (.tbl (ps ++ more)))
  (ns:∀ m,s.heap.Ns X.env.locals m->h'.Ns X.env.locals m) (hok:HOk X.prog X.w H' h') (hg:AllBare g') :
  Inv X pins σ H' { s with heap:=h',gens:=g',drawn:=d',toks:=t' }:=by
 have neL:∀ b o,X.s₀.heap.get? b=some o->b ≠ X.env.locals:=λb o e=>Nat.ne_of_lt (Nat.lt_of_lt_of_le (Heap.lt_size e) I.ok.above)
 have neC:∀ b o,X.s₀.heap.get? b=some o->b ∉ X.ex->b ∉ ch:=λb o e hx hb=>by
  rcases (hch b hb).1 with z|z
  ·exact hx z
  ·exact absurd (Nat.lt_of_lt_of_le (Heap.lt_size e) z) (Nat.lt_irrefl _)
 have cellK:∀ x c,X.env.cells.lookup x=some c->∀ v,s.heap.IsCell c v->h'.IsCell c v:=λx c e v ⟨o,ho,hd⟩=>by
  have nch:c ∉ ch:=λz=>(hch c z).2.2.1 x c e rfl
  by_cases hc:c ∈ X.fs
  ·obtain ⟨sl,q⟩:=slot c o (I.cne x c e) hc nch ho (I.freeC x c e)
   exact ⟨_,q,hd⟩
  ·exact ⟨o,keep c o (I.cne x c e) hc nch ho (I.freeC x c e),hd⟩
 refine ⟨I.ok,I.os,hg,⟨λb o e n hb hx=>?_,λb o e n hb hx=>?_,λb o e n hx=>?_,λb o e hx=>?_,λb xs e=>tups b xs (I.base.tups b xs e),λb o xs e=>frzs b o xs (I.base.frzs b o xs e),λb ps e=>?_⟩,?_,λx c e=>?_,?_,λx c e=>?_,λp hp=>?_,hok,I.len⟩
 ·exact keep b o (neL b o e) hb (neC b o e hx) (I.base.keep b o e n hb hx) (I.base.free b o e n hx)
 ·obtain ⟨sl,e1⟩:=I.base.slot b o e n hb hx
  obtain ⟨sl',e2⟩:=slot b _ (neL b o e) hb (neC b o e hx) e1 (I.base.free b o e n hx)
  exact ⟨sl',e2⟩
 ·obtain ⟨o',e1⟩:=I.base.there b o e hx
  exact free b o' (neC b o e hx) e1 (I.base.free b o e n hx)
 ·obtain ⟨o',e1⟩:=I.base.there b o e hx
  exact there b o' (neC b o e hx) e1
 ·obtain ⟨m1,e1⟩:=I.base.tbls b ps e
  obtain ⟨m2,e2⟩:=tbls b _ e1
  exact ⟨m1 ++ m2,by rw [e2,Array.append_assoc]⟩
 ·obtain ⟨m,hn,hl⟩:=I.loc
  refine ⟨m,ns m hn,λi x v e1 e2 e3=>?_⟩
  obtain ⟨u,r,l⟩:=hl i x v e1 e2 e3
  refine ⟨u,r,?_⟩
  rcases l with l|⟨k,c,e,z⟩
  ·exact .inl l
  ·exact .inr ⟨k,c,e,cellK x c e _ z⟩
 ·obtain ⟨v,z⟩:=I.cell x c e
  exact ⟨v,cellK x c e v z⟩
 ·obtain ⟨m,⟨o,_,_,ho,_⟩,_⟩:=I.loc
  exact free _ o (λz=>(hch _ z).2.1 rfl) ho I.free
 ·obtain ⟨v,o,ho,hd⟩:=I.cell x c e
  exact free c o (λz=>(hch c z).2.2.1 x c e rfl) ho (I.freeC x c e)
 ·obtain ⟨e,n,ne,nf,d⟩:=I.pin p hp
  have nch:p.1 ∉ ch:=λz=>(hch p.1 z).2.2.2 p hp rfl
  exact ⟨keep p.1 p.2 ne nf nch e n,free p.1 p.2 nch e n,ne,nf,d⟩
theorem Inv.un {t':Nat} (I:Inv X pins σ H s) (u:Un X.fs [] H H' s.heap h') (hok:HOk X.prog X.w H' h'):Inv X pins σ H' { s with heap:=h',toks:=t' }:=by
 obtain ⟨m,⟨o,es,ep,ho,r⟩,_⟩:=id I.loc
 obtain ⟨sl,hL⟩:=u.any ho I.free (by simp)
 exact I.step (g':=s.gens) (d':=s.drawn) (ch:=[]) (λ_ z=>nomatch z) (λb o _ hb _ e n=>u.keep b o e n hb (by simp)) (λb o _ hb _ e n=>u.slot b o e n hb (by simp)) (λb o _ e n=>u.free b o e n (by simp)) (λb o _ e=>u.there b o e (by simp)) u.tups u.frzs u.tbls (λm' hm=>by
  obtain ⟨o',es',ep',ho',r'⟩:=hm
  rw [ho] at ho';cases ho'
  exact ⟨_,es',ep',hL,r'⟩) hok I.bare
theorem Inv.call {g':Array GenState}{t':Nat}{d':Drawn}{ch:List Addr} (I:Inv X pins σ H s) (u:Un (frs X.stack) ch H H' s.heap h') (hok:HOk X.prog X.w H' h') (hg:AllBare g')
  (hch:∀ b ∈ ch,(b ∈ X.ex \/ X.s₀.heap.objs.size <= b)/\b ≠ X.env.locals/\(∀ x c,X.env.cells.lookup x=some c->c ≠ b)/\∀ p ∈ X.pn ++ pins,p.1 ≠ b) :
  Inv X pins σ H' { s with heap:=h',gens:=g',drawn:=d',toks:=t' }:=by
 obtain ⟨m,⟨o,es,ep,ho,r⟩,_⟩:=id I.loc
 obtain ⟨sl,hL⟩:=u.any ho I.free λz=>(hch _ z).2.1 rfl
 exact I.step (ch:=ch) hch (λb o hL hb hc e n=>u.keep b o e n (λz=>(List.mem_cons.mp (I.stkSub b z)).elim hL hb) hc) (λb o _ _ hc e n=>u.any e n hc) (λb o hc e n=>u.free b o e n hc) (λb o hc e=>u.there b o e hc) u.tups u.frzs u.tbls (λm' hm=>by
  obtain ⟨o',es',ep',ho',r'⟩:=hm
  rw [ho] at ho';cases ho'
  exact ⟨_,es',ep',hL,r'⟩) hok hg
theorem Inv.turned {t':Nat}{it:Addr} (I:Inv X pins σ H s) (k:∀ b o,b ≠ it->s.heap.get? b=some o->h'.get? b=some o) (hn:H it=none) (hL:it ≠ X.env.locals)
  (h1:it ∈ X.ex \/ X.s₀.heap.objs.size <= it) (h2:∀ x c,X.env.cells.lookup x=some c->c ≠ it) (h3:∀ p ∈ X.pn ++ pins,p.1 ≠ it):Inv X pins σ H { s with heap:=h',toks:=t' }:=by
 have nit:∀ b u,H b=some u->b ≠ it:=λb u e z=>by rw [z,hn] at e;cases e
 refine I.step (g':=s.gens) (d':=s.drawn) (ch:=[it]) (λb hb=>?_) (λb o _ _ hc e _=>k b o (λz=>hc (by simp [z])) e) (λb o _ _ hc e _=>⟨o.slots,k b o (λz=>hc (by simp [z])) e⟩) (λ_ _ _ _ n=>n)
  (λb o hc e=>⟨o,k b o (λz=>hc (by simp [z])) e⟩) (λ_ _ e=>e) (λ_ _ _ e=>e) (λb ps e=>⟨#[],by rw [e];simp⟩) (λm hm=>?_) (λb u e=>?_) I.bare
 ·have e:b=it:=by simpa using hb
  subst e
  exact ⟨h1,hL,h2,h3⟩
 ·obtain ⟨o,es,ep,ho,r⟩:=hm
  exact ⟨o,es,ep,k _ o (Ne.symm hL) ho,r⟩
 ·refine (I.hok b u e).stay (λc v hc q=>k c v ?_ q) (λ_ q=>q) λ_ _ q=>q
  rcases hc with z|z
  ·rw [z];exact nit b u e
  ·exact nit c _ z
theorem Inv.tok (I:Inv X pins σ H s) (t:Nat):Inv X pins σ H { s with toks:=t }:=I.un (h':=s.heap) (t':=t) Un.refl I.hok
theorem Inv.kept {t':Nat} (I:Inv X pins σ H s) (k:∀ b u,s.heap.get? b=some u->h'.get? b=some u):Inv X pins σ H { s with heap:=h',toks:=t' }:=I.un (Un.kept k) (I.hok.kept k)
theorem Inv.laid {a:Addr}{o:HO}{t':Nat} (I:Inv X pins σ H s) (k:∀ b u,s.heap.get? b=some u->h'.get? b=some u) (hp:s.heap.objs.size <= a) (new:bC X.prog X.w (upd H a o) h' a o) :
  Inv X pins σ (upd H a o) { s with heap:=h',toks:=t' }:=I.un (Un.laid k hp (I.hok.fresh hp)) (I.hok.laid k hp new)
theorem Inv.write {x e:Addr}{o:HO}{t':Nat} (I:Inv X pins σ H s) (mu:Mut (H x)) (he:e=x \/ H e=some (.own x)) (k:∀ b u,b ≠ e->s.heap.get? b=some u->h'.get? b=some u) (heo:∃ u,h'.get? e=some u)
  (new:bC X.prog X.w (upd H x o) h' x o):Inv X pins σ (upd H x o) { s with heap:=h',toks:=t' }:=I.un (Un.write mu he k heo) (I.hok.write mu he k heo new)
theorem Inv.pins_of {pins':List (Addr × Obj)} (I:Inv X pins σ H s) (h:∀ p ∈ pins',s.heap.get? p.1=some p.2/\H p.1=none/\p.1 ≠ X.env.locals/\p.1 ∉ X.fs/\∀ v,p.2.data ≠ .cell v):Inv X pins' σ H s :=
 ⟨I.ok,I.os,I.bare,I.base,I.loc,I.cell,I.free,I.freeC,λp hp=>(List.mem_append.mp hp).elim (λz=>I.pin p (List.mem_append_left _ z)) (h p),I.hok,I.len⟩
theorem i9 {N:List Str} (hN:N.Nodup) {i j:Nat}{x:Str} (a:N[i]?=some x) (b:N[j]?=some x):i=j:=by
 obtain ⟨h1,e1⟩:=List.getElem?_eq_some_iff.mp a
 obtain ⟨h2,e2⟩:=List.getElem?_eq_some_iff.mp b
 exact (List.getElem_inj hN).mp (e1.trans e2.symm)
theorem kE {M:Model}{A:Around}{E:Value->Shared->Prop}{i:Nat}{x:Str}{v:V}{u:Value}{Q:Unit->Shared->Prop} (I:Inv X pins σ H s) (hN:X.N.Nodup) (hi:X.N[i]?=some x) (hx:Loc X.env.scope x) (r:ar v u)
  (h:∀ s',Inv X pins (σ.set i (some v)) H s'->(∃ a,Heap.SameBut a s.heap s'.heap/\(a=X.env.locals \/ X.env.cells.lookup x=some a))->Q () s') (hf:X.fn x=true \/ X.env.scope.names.lookup x=some .local:=by first|exact .inl rfl|exact .inr rfl|assumption):wpAny M A (storeName X.env x u) Q E s:=by
 obtain ⟨m,hn,hl⟩:=id I.loc
 have hcls:(X.env.scope.kind == .class || (X.env.scope.kind == .module&&X.env.locals != X.env.globals))=false:=by rw [I.ok.kind];rfl
 have hiσ:i < σ.length:=by rw [I.len];exact (List.getElem?_eq_some_iff.mp hi).1
 have cne:=I.cne
 have tracked:∀ {a:Addr}{h':Heap},(∃ o,s.heap.get? a=some o/\H a=none)->Heap.SameBut a s.heap h'->HOk X.prog X.w H h':=λ{a h'} ha hs b ob e=>by
  obtain ⟨_,_,hfree⟩:=ha
  refine (I.hok b ob e).stay (λc w' hc q=>(hs.2 c ?_).trans q) (λ_ q=>q) λ_ _ q=>q
  rintro rfl
  rcases hc with rfl|hc
  ·rw [hfree] at e;cases e
  ·rw [hfree] at hc;cases hc
 rcases hx with hk|hk
 ·refine wpAny_storeName_local hk hn (λh' hn' hs=>?_) hcls
  obtain ⟨oL,_,_,hoL,_⟩:=id hn
  refine h _ ⟨I.ok,I.os,I.bare,⟨λb o e n hb hx=>?_,λb o e n hb hx=>?_,I.base.free,λb o e hx=>?_,I.base.tups,I.base.frzs,I.base.tbls⟩,⟨_,hn',λj y v' e1 e2 e3=>?_⟩,λy c e=>?_,I.free,I.freeC,λp hp=>?_,tracked ⟨oL,hoL,I.free⟩ hs,by simpa using I.len⟩ ⟨_,hs,.inl rfl⟩
  ·exact (hs.2 b (Nat.ne_of_lt (Nat.lt_of_lt_of_le (Heap.lt_size e) I.ok.above))).trans (I.base.keep b o e n hb hx)
  ·obtain ⟨sl,e1⟩:=I.base.slot b o e n hb hx
   exact ⟨sl,(hs.2 b (Nat.ne_of_lt (Nat.lt_of_lt_of_le (Heap.lt_size e) I.ok.above))).trans e1⟩
  ·obtain ⟨o',e1⟩:=I.base.there b o e hx
   exact ⟨o',(hs.2 b (Nat.ne_of_lt (Nat.lt_of_lt_of_le (Heap.lt_size e) I.ok.above))).trans e1⟩
  ·by_cases hj:j=i
   ·subst hj
    rw [hi] at e1;cases e1
    rw [List.getElem?_set_self hiσ] at e2
    cases e2
    exact ⟨u,r,.inl ⟨hk,by simp⟩⟩
   ·rw [List.getElem?_set_ne (Ne.symm hj)] at e2
    obtain ⟨u',r',q⟩:=hl j y v' e1 e2 e3
    refine ⟨u',r',?_⟩
    rcases q with ⟨k,e⟩|⟨k,c,e,z⟩
    ·refine .inl ⟨k,?_⟩
     have:y ≠ x:=λe=>hj (i9 hN e1 (e ▸ hi))
     simp [this,e]
    ·exact .inr ⟨k,c,e,z.sameBut hs (cne y c e)⟩
  ·obtain ⟨w',z⟩:=I.cell y c e
   exact ⟨w',z.sameBut hs (cne y c e)⟩
  ·obtain ⟨e,n,ne,nf,d⟩:=I.pin p hp
   exact ⟨(hs.2 p.1 ne).trans e,n,ne,nf,d⟩
 ·have hfn:X.fn x=true:=by
   rcases hf with z|z
   ·exact z
   ·rw [z] at hk;cases hk
  obtain ⟨c,hc⟩:=I.ok.has x (.inl hk)
  obtain ⟨w',z⟩:=I.cell x c hc
  refine wpAny_storeName_cell I.ok.kind hk hc z (λh' hc' hs=>?_)
  obtain ⟨oc,hoc,hocd⟩:=id z
  refine h { s with heap:=h' } ⟨I.ok,I.os,I.bare,⟨λb o e n hb hx=>?_,λb o e n hb hx=>?_,I.base.free,λb o e hx=>?_,I.base.tups,I.base.frzs,I.base.tbls⟩,⟨m,hn.sameBut hs (Ne.symm (cne x c hc)),λj y v' e1 e2 e3=>?_⟩,λy c' e=>?_,I.free,I.freeC,λp hp=>?_,tracked ⟨oc,hoc,I.freeC x c hc⟩ hs,by simpa using I.len⟩ ⟨c,hs,.inr hc⟩
  ·exact (hs.2 b (Nat.ne_of_lt (Nat.lt_of_lt_of_le (Heap.lt_size e) (I.ok.cab x c hfn hc)))).trans (I.base.keep b o e n hb hx)
  ·obtain ⟨sl,e1⟩:=I.base.slot b o e n hb hx
   exact ⟨sl,(hs.2 b (Nat.ne_of_lt (Nat.lt_of_lt_of_le (Heap.lt_size e) (I.ok.cab x c hfn hc)))).trans e1⟩
  ·obtain ⟨o',e1⟩:=I.base.there b o e hx
   exact ⟨o',(hs.2 b (Nat.ne_of_lt (Nat.lt_of_lt_of_le (Heap.lt_size e) (I.ok.cab x c hfn hc)))).trans e1⟩
  ·by_cases hj:j=i
   ·subst hj
    rw [hi] at e1;cases e1
    rw [List.getElem?_set_self hiσ] at e2
    cases e2
    exact ⟨u,r,.inr ⟨.inl hk,c,hc,hc'⟩⟩
   ·rw [List.getElem?_set_ne (Ne.symm hj)] at e2
    obtain ⟨u',r',q⟩:=hl j y v' e1 e2 e3
    refine ⟨u',r',?_⟩
    rcases q with q|⟨k,c',e,z'⟩
    ·exact .inl q
    ·refine .inr ⟨k,c',e,z'.sameBut hs ?_⟩
     rintro rfl
     exact hj (i9 hN e1 (I.ok.inj _ _ _ e hc ▸ hi))
  ·by_cases hcc:c'=c
   ·subst hcc;exact ⟨_,hc'⟩
   ·obtain ⟨w2,z2⟩:=I.cell y c' e
    exact ⟨w2,z2.sameBut hs hcc⟩
  ·obtain ⟨e,n,ne,nf,d⟩:=I.pin p hp
   refine ⟨(hs.2 p.1 ?_).trans e,n,ne,nf,d⟩
   intro q
   rw [q,hoc] at e
   have q':oc=p.2:=Option.some.inj e
   exact d w' (by rw [<- q'];exact hocd)
theorem gE {M:Model}{A:Around}{E:Value->Shared->Prop}{i:Nat}{x:Str}{v:V}{u:Value}{Q:Unit->Shared->Prop} (I:Inv X pins σ H s) (hN:X.N.Nodup) (hi:X.N[i]?=some x) (hx:Loc X.env.scope x) (r:ar v u)
  (h:∀ s',Inv X pins (σ.set i (some v)) H s'->Q () s') (hf:X.fn x=true \/ X.env.scope.names.lookup x=some .local:=by first|exact .inl rfl|exact .inr rfl|assumption):wpAny M A (storeName X.env x u) Q E s :=
 kE I hN hi hx r (λs' I' _=>h s' I') hf
theorem Inv.call' {s':Shared}{ch:List Addr} (I:Inv X pins σ H s) (ho:s'.os=s.os) (u:Un (frs X.stack) ch H H' s.heap s'.heap) (hok:HOk X.prog X.w H' s'.heap) (hg:AllBare s'.gens)
  (hch:∀ b ∈ ch,(b ∈ X.ex \/ X.s₀.heap.objs.size <= b)/\b ≠ X.env.locals/\(∀ x c,X.env.cells.lookup x=some c->c ≠ b)/\∀ p ∈ X.pn ++ pins,p.1 ≠ b):Inv X pins σ H' s':=by
 obtain ⟨h',g',d',t',o'⟩:=s'
 have e:o'=s.os:=ho
 subst e
 exact I.call (g':=g') (t':=t') (d':=d') u hok hg hch
end
noncomputable abbrev XK:=Value->Option Addr->Hp->Prop
noncomputable abbrev St:=List (Option V)
noncomputable abbrev VK:=V->Hp->Prop
noncomputable abbrev TE:=St->Hp->VK->Prop
noncomputable abbrev TT:=St->Hp->(Bool->Hp->Prop)->Prop
noncomputable abbrev TA:=St->Hp->(List V->Hp->Prop)->Prop
structure fk where
 nx:St->Hp->Prop
 rt:VK
 bk:St->Hp->Prop:=λ_ _=>False
 ct:St->Hp->Prop:=λ_ _=>False
noncomputable abbrev TS:=fk->St->Hp->Prop
noncomputable def EP (X:Cx) (pins:List (Addr × Obj)) (σ:St) (Q:VK) (u:Value) (s':Shared):Prop:=∃ v H',Inv X pins σ H' s'/\ar v u/\Q v H'
noncomputable def TP (X:Cx) (pins:List (Addr × Obj)) (σ:St) (Q:Bool->Hp->Prop) (b:Bool) (s':Shared):Prop:=∃ H',Inv X pins σ H' s'/\Q b H'
noncomputable def AP (X:Cx) (pins:List (Addr × Obj)) (σ:St) (Q:List V->Hp->Prop) (us:List Value) (s':Shared):Prop:=∃ vs H',Inv X pins σ H' s'/\am vs us/\Q vs H'
noncomputable def SP (X:Cx) (pins:List (Addr × Obj)) (D:fk) (f:Flow) (s':Shared):Prop :=
 match f with
 | .next=>∃ σ' H',Inv X pins σ' H' s'/\D.nx σ' H'
 | .brk=>∃ σ' H',Inv X pins σ' H' s'/\D.bk σ' H'
 | .cont=>∃ σ' H',Inv X pins σ' H' s'/\D.ct σ' H'
 | .ret u=>∃ v σ' H',Inv X pins σ' H' s'/\ar v u/\D.rt v H'
noncomputable def PE (X:Cx) (e:Expr) (t:TE):Prop :=
 ∀ (pins:List (Addr × Obj)) (s:Shared) (σ:St) (H:Hp) (Q:VK),Inv X pins σ H s->t σ H Q->wpAny (model X.prog X.w) X.A (eval e X.env) (EP X pins σ Q) X.xe s
noncomputable def PT (X:Cx) (e:Expr) (t:TT):Prop :=
 ∀ (pins:List (Addr × Obj)) (s:Shared) (σ:St) (H:Hp) (Q:Bool->Hp->Prop),Inv X pins σ H s->t σ H Q->wpAny (model X.prog X.w) X.A (isTrue e X.env (eval e X.env)) (TP X pins σ Q) X.xe s
noncomputable def PW (X:Cx) (e:Expr) (t:TT):Prop :=
 ∀ (whole:Sem Value) (pins:List (Addr × Obj)) (s:Shared) (σ:St) (H:Hp) (Q:Bool->Hp->Prop),Inv X pins σ H s->t σ H Q->wpAny (model X.prog X.w) X.A (isTrue e X.env whole) (TP X pins σ Q) X.xe s
theorem PW.pt {X:Cx}{e:Expr}{t:TT} (h:PW X e t):PT X e t:=h _
noncomputable def PA (X:Cx) (es:List Expr) (t:TA):Prop :=
 ∀ (pos:Pos) (pins:List (Addr × Obj)) (s:Shared) (σ:St) (H:Hp) (Q:List V->Hp->Prop),Inv X pins σ H s->t σ H Q->wpAny (model X.prog X.w) X.A (spliced (backTo pos (starEach es X.env))) (AP X pins σ Q) X.xe s
noncomputable def PS (X:Cx) (st:Stmt) (t:TS):Prop :=
 ∀ (pins:List (Addr × Obj)) (s:Shared) (σ:St) (H:Hp) (D:fk),Inv X pins σ H s->t D σ H->wpAny (model X.prog X.w) X.A (exec st X.env) (SP X pins D) X.xe s
noncomputable def PSs (X:Cx) (st:List Stmt) (t:TS):Prop :=
 ∀ (pins:List (Addr × Obj)) (s:Shared) (σ:St) (H:Hp) (D:fk),Inv X pins σ H s->t D σ H->wpAny (model X.prog X.w) X.A (execs st X.env) (SP X pins D) X.xe s
theorem thn {α:Type}{t:Sem α}{Q Q':α->Shared->Prop}{M:Model}{A:Around}{E:Value->Shared->Prop}{s:Shared} (h:wpAny M A t Q E s) (hQ:∀ a s,Q a s->Q' a s):wpAny M A t Q' E s:=wpAny_mono h hQ λ_ _ x=>x
end L2
namespace L2
open PySem PySem.Spec PyProof.Rows
section
variable {X:Cx}
theorem bin {a b:Expr}{ta tb:TE} (ha:PE X a ta) (hb:PE X b tb) {pins:List (Addr × Obj)}{s:Shared}{σ:St}{H:Hp}{R:V->V->Hp->Prop} (I:Inv X pins σ H s) (h:ta σ H λx H1=>tb σ H1 λy H2=>R x y H2)
  {α:Type}{Q:α->Shared->Prop}{f:Value->Value->Sem α}
  (hf:∀ v u s2 x y H2,Inv X pins σ H2 s2->ar x v->ar y u->R x y H2->wpAny (model X.prog X.w) X.A (f v u) Q X.xe s2) :
  wpAny (model X.prog X.w) X.A (eval a X.env) (λv s₁=>wpAny (model X.prog X.w) X.A (eval b X.env) (λu s₂=>wpAny (model X.prog X.w) X.A (f v u) Q X.xe s₂) X.xe s₁) X.xe s:=by
 refine thn (ha pins s σ H _ I h) λv s1 ⟨x,H1,I1,r1,q1⟩=>?_
 refine thn (hb pins s1 σ H1 _ I1 q1) λu s2 ⟨y,H2,I2,r2,q2⟩=>?_
 exact hf v u s2 x y H2 I2 r1 r2 q2
noncomputable def ww (i:Nat):TE:=λσ H Q=>∃ v,σ[i]?=some (some v)/\Q v H
noncomputable def tC (v:V):TE:=λ_ H Q=>Q v H
theorem wz {i:Nat}{x:Str}{pos:Pos} (hN:X.N[i]?=some x) (hv:Vis X.env.scope x) (hd:(x == ("__debug__":Str))=false:=by decide) (hcd:(x == ("__classdict__":Str))=false:=by decide):PE X (.Name x pos) (ww i):=by
 intro pins s σ H Q I h
 obtain ⟨v,e,h⟩:=h
 obtain ⟨m,hn,hl⟩:=I.loc
 obtain ⟨u,r,l⟩:=hl i x v hN e hv
 have fin:EP X pins σ Q u s:=⟨v,H,I,r,h⟩
 rcases l with ⟨hk,hm⟩|⟨hk,c,hc,hcell⟩
 ·exact wpAny_Name (wpAny_loadName_local I.ok.kind hk hn hm fin) hd
 ·rcases hk with hk|hk
  ·exact wpAny_Name (wpAny_loadName_cell I.ok.kind hk hc hcell fin) hd
  ·exact wpAny_Name (wpAny_loadName_free I.ok.kind hk hc hcell fin hcd) hd
theorem wA {i j pos}:PE X (.Constant (.int i) j pos) (tC (.int i)):=λ_ _ _ H _ I h=>wpAny_Constant_int ⟨.int i,H,I.tok _,⟨_,rfl⟩,h⟩
theorem vZ {b j pos}:PE X (.Constant (.bool b) j pos) (tC (.bl b)):=λ_ _ _ H _ I h=>Constant_bool ⟨.bl b,H,I,rfl,h⟩
theorem wB {j pos}:PE X (.Constant .none j pos) (tC .non):=λ_ _ _ H _ I h=>Constant_none ⟨.non,H,I,rfl,h⟩
theorem ny {x j pos}:PE X (.Constant (.str x) j pos) (tC (.str x)):=λ_ _ _ H _ I h=>Calls.Constant_str ⟨.str x,H,I.tok _,⟨_,rfl⟩,h⟩
noncomputable def Gl (X:Cx) (x:Str):Prop:=X.env.kindOf x=some .globalImplicit
theorem fR {E:Value->Shared->Prop}{pins:List (Addr × Obj)}{s:Shared}{σ:St}{H:Hp}{x:Str}{u:Value}{pos:Pos}{Q:Value->Shared->Prop} (I:Inv X pins σ H s) (hg:Gl X x) (hm:X.mg x=some u) (h:Q u s)
  (hd:(x == ("__debug__":Str))=false:=by decide):wpAny (model X.prog X.w) X.A (eval (.Name x pos) X.env) Q E s :=
 Calls.Name_function_global I.ok.kind hg (Calls.loadGlobal_global (by rw [I.ok.glob];exact I.mod.glob.keeps I.bk) hm h) hd
theorem hZ {E:Value->Shared->Prop}{pins:List (Addr × Obj)}{s:Shared}{σ:St}{H:Hp}{x:Str}{u:Value}{pos:Pos}{Q:Value->Shared->Prop} (I:Inv X pins σ H s) (hg:Gl X x) (hm:X.mg x=none) (hv:bootBuiltins x=some u) (h:Q u s)
  (hn:x ≠ "__name__":=by decide) (hd:(x == ("__debug__":Str))=false:=by decide):wpAny (model X.prog X.w) X.A (eval (.Name x pos) X.env) Q E s:=by
 obtain ⟨mb,h1,h2⟩:=I.mod.blt
 exact Calls.Name_function_global I.ok.kind hg (Calls.loadGlobal_builtin (by rw [I.ok.glob];exact I.mod.glob.keeps I.bk) hm (by rw [I.ok.blt];exact h1.keeps I.bk) ((h2 x hn).trans hv) h) hd
theorem oD {x:Str}{v:V}{u:Value}{pos:Pos} (hg:Gl X x) (hm:X.mg x=some u) (r:ar v u) (hd:(x == ("__debug__":Str))=false:=by decide):PE X (.Name x pos) (tC v) :=
 λ_ _ _ H _ I h=>fR I hg hm ⟨v,H,I,r,h⟩ hd
theorem oE {x:Str}{v:V}{u:Value}{pos:Pos} (hg:Gl X x) (hm:X.mg x=none) (hv:bootBuiltins x=some u) (r:ar v u) (hn:x ≠ "__name__":=by decide) (hd:(x == ("__debug__":Str))=false:=by decide):PE X (.Name x pos) (tC v) :=
 λ_ _ _ H _ I h=>hZ I hg hm hv ⟨v,H,I,r,h⟩ hn hd
variable {a b:Expr}{ta tb:TE}{pos:Pos}
theorem qU (b:Expr) {op:CmpOp} (h:op ≠ .In) (h2:op ≠ .NotIn):behindInMarks op b=false:=by
 have e1:(op == CmpOp.In)=false:=by cases op <;> first|rfl|exact absurd rfl h
 have e2:(op == CmpOp.NotIn)=false:=by cases op <;> first|rfl|exact absurd rfl h2
 cases b <;> simp [behindInMarks,e1,e2]
noncomputable def tB (t:TE):TT:=λσ H Q=>t σ H λx H1=>∃ c,x=.bl c/\Q c H1
theorem wC {e:Expr}{t:TE} (h:PE X e t) (he:∀ whole,isTrue e X.env whole=(do let v <- whole;standAt e.pos;holding [v] (truthy v)):=by intro _;rfl):PT X e (tB t):=by
 intro pins s σ H Q I hw
 refine isTrue_plain (thn (h pins s σ H _ I hw) λv s1 ⟨x,H1,I1,r1,q1⟩=>?_) (he _)
 obtain ⟨d,rfl,q⟩:=q1
 cases r1
 exact wpAny_truthy_bool ⟨H1,I1,q⟩
variable {tA tB':TT}{bR:List Expr}
noncomputable def A1 (t u:TT):TT:=λσ H Q=>t σ H λc H1=>if c=true then u σ H1 Q else Q false H1
noncomputable def tOr (t u:TT):TT:=λσ H Q=>t σ H λc H1=>if c=true then Q true H1 else u σ H1 Q
noncomputable def A2 (t:TT):TT:=λσ H Q=>t σ H λc H1=>Q (!c) H1
theorem ut (ha:PT X a tA):PW X (.BoolOp .And [a] pos) tA:=by
 intro wh pins s σ H Q I h
 refine isTrue_and (thn (ha pins s σ H Q I h) λc s1 e=>?_)
 cases c with
 | true=>exact isTrue_and_nil e
 | false=>exact e
theorem wD (ha:PT X a tA):PW X (.BoolOp .Or [a] pos) tA:=by
 intro wh pins s σ H Q I h
 refine isTrue_or (thn (ha pins s σ H Q I h) λc s1 e=>?_)
 cases c with
 | false=>exact isTrue_or_nil e
 | true=>exact e
theorem wE (ha:PT X a tA) (hb:PW X (.BoolOp .And (b::bR) pos) tB'):PW X (.BoolOp .And (a::b::bR) pos) (A1 tA tB'):=by
 intro wh pins s σ H Q I h
 refine isTrue_and (thn (ha pins s σ H _ I h) λc s1 ⟨H1,I1,q1⟩=>?_)
 cases c with
 | true=>exact hb wh pins s1 σ H1 Q I1 q1
 | false=>exact ⟨H1,I1,q1⟩
theorem y1 (ha:PT X a tA) (hb:PW X (.BoolOp .Or (b::bR) pos) tB'):PW X (.BoolOp .Or (a::b::bR) pos) (tOr tA tB'):=by
 intro wh pins s σ H Q I h
 refine isTrue_or (thn (ha pins s σ H _ I h) λc s1 ⟨H1,I1,q1⟩=>?_)
 cases c with
 | true=>exact ⟨H1,I1,q1⟩
 | false=>exact hb wh pins s1 σ H1 Q I1 q1
theorem wF (ha:PT X a tA):PT X (.UnaryOp .Not a pos) (A2 tA):=by
 intro pins s σ H Q I h
 exact isTrue_not (ha pins s σ H (λc H1=>Q (!c) H1) I h)
noncomputable def y2 (ta tb:TE):TE:=λσ H Q=>ta σ H λx H1=>∃ c,x=.bl c/\if c=true then tb σ H1 Q else Q (.bl false) H1
noncomputable def A3 (ta tb:TE):TE:=λσ H Q=>ta σ H λx H1=>∃ c,x=.bl c/\if c=true then Q (.bl true) H1 else tb σ H1 Q
noncomputable def y3 (ta:TE):TE:=λσ H Q=>ta σ H λx H1=>∃ c,x=.bl c/\Q (.bl (!c)) H1
theorem qV {op}{t:TE} (h:PE X a t):PE X (.BoolOp op [a] pos) t:=λpins s σ H Q I hw=>BoolOp_one (h pins s σ H Q I hw)
theorem wG (ha:PE X a ta) (hb:PE X (.BoolOp .And (b::bR) pos) tb):PE X (.BoolOp .And (a::b::bR) pos) (y2 ta tb):=by
 intro pins s σ H Q I h
 refine BoolOp_and (thn (ha pins s σ H _ I h) λv s1 ⟨x,H1,I1,r1,q1⟩=>?_)
 obtain ⟨c,rfl,q1⟩:=q1
 cases r1
 refine wpAny_truthy_bool ?_
 cases c with
 | true=>exact hb pins s1 σ H1 Q I1 q1
 | false=>exact ⟨.bl false,H1,I1,rfl,q1⟩
theorem y4 (ha:PE X a ta) (hb:PE X (.BoolOp .Or (b::bR) pos) tb):PE X (.BoolOp .Or (a::b::bR) pos) (A3 ta tb):=by
 intro pins s σ H Q I h
 refine BoolOp_or (thn (ha pins s σ H _ I h) λv s1 ⟨x,H1,I1,r1,q1⟩=>?_)
 obtain ⟨c,rfl,q1⟩:=q1
 cases r1
 refine wpAny_truthy_bool ?_
 cases c with
 | false=>exact hb pins s1 σ H1 Q I1 q1
 | true=>exact ⟨.bl true,H1,I1,rfl,q1⟩
theorem wH (ha:PE X a ta):PE X (.UnaryOp .Not a pos) (y3 ta):=by
 intro pins s σ H Q I h
 refine UnaryOp_ (thn (ha pins s σ H _ I h) λv s1 ⟨x,H1,I1,r1,q1⟩=>?_)
 obtain ⟨c,rfl,q1⟩:=q1
 cases r1
 exact not_of (wpAny_truthy_bool ⟨.bl (!c),H1,I1,rfl,q1⟩)
noncomputable def tIf (t:TT) (ta tb:TE):TE:=λσ H Q=>t σ H λc H1=>if c=true then ta σ H1 Q else tb σ H1 Q
theorem qW {c:Expr} (hc:PT X c tA) (ha:PE X a ta) (hb:PE X b tb):PE X (.IfExp c a b pos) (tIf tA ta tb):=by
 intro pins s σ H Q I h
 refine wpAny_IfExp (thn (hc pins s σ H _ I h) λd s1 ⟨H1,I1,q1⟩=>?_)
 cases d with
 | true=>exact ha pins s1 σ H1 Q I1 q1
 | false=>exact hb pins s1 σ H1 Q I1 q1
end
end L2
namespace L2
open PySem PySem.Spec PyProof.Rows
noncomputable def SqL (K:PySem.W.Frag) (H:Hp) (a:Addr) (xs:List V):Prop :=
 Rd H a (.lst xs) \/
  ∃ (o:Obj) (its:Array Value) (n:Nat),K.lookup a=some o/\o.cls=.type "list"/\o.dict=none/\o.data=.seq its n/\its.size <= sizeLine/\am xs its.toList
noncomputable def SqT (K:PySem.W.Frag) (H:Hp) (a:Addr) (xs:List V):Prop :=
 Rd H a (.tup xs) \/
  ∃ (o:Obj) (its:Array Value) (n:Nat),K.lookup a=some o/\o.cls=.type "tuple"/\o.data=.seq its n/\its.size <= sizeLine/\am xs its.toList
noncomputable def A4:Value->Option V
 | .none=>some .non
 | .bool b=>some (.bl b)
 | .int i _=>some (.int i)
 | .str x _=>some (.str x)
 | .bytes b _=>some (.byt b)
 | .float b _=>some (.flt b)
 | .ref a=>some (.ref a)
 | .type n=>some (.ty n)
 | _=>none
theorem ar.abs {x:V}{u:Value} (r:ar x u):A4 u=some x:=by
 cases x with
 | non=>cases r;rfl
 | bl _=>cases r;rfl
 | int _=>obtain ⟨t,rfl⟩:=r;rfl
 | str _=>obtain ⟨t,rfl⟩:=r;rfl
 | byt _=>obtain ⟨t,rfl⟩:=r;rfl
 | flt _=>obtain ⟨t,rfl⟩:=r;rfl
 | ref _=>cases r;rfl
 | ty _=>cases r;rfl
theorem ar.inj {x y:V}{u:Value} (r:ar x u) (q:ar y u):x=y:=Option.some.inj (r.abs.symm.trans q.abs)
theorem am.inj:∀ {xs ys:List V}{us:List Value},am xs us->am ys us->xs=ys
 | _,_,_,.nil,.nil=>rfl
 | _,_,_,.cons r t,.cons r' t'=>by rw [r.inj r',am.inj t t']
section
variable {X:Cx}{pins:List (Addr × Obj)}{σ:St}{H:Hp}{s:Shared}{a:Addr}{xs ys:List V}
theorem SqL.of {K:PySem.W.Frag} (h:H a=some (.lst xs)):SqL K H a xs:=.inl (.inl h)
theorem SqT.of {K:PySem.W.Frag} (h:H a=some (.tup xs)):SqT K H a xs:=.inl (.inl h)
theorem Inv.list (I:Inv X pins σ H s) (h:SqL X.K H a xs):∃ its:List Value,am xs its/\PlainL s.heap a its.toArray/\xs.length <= sizeLine:=by
 rcases h with h|⟨o,its,n,hk,hc,hd,hs,hz,r⟩
 ·obtain ⟨z,its,n,r,e⟩:=h.ok I.hok
  exact ⟨its,r,⟨_,n,e,rfl,rfl,rfl⟩,z⟩
 ·refine ⟨its.toList,r,⟨o,n,I.kIn a o hk,hc,hd,by simpa using hs⟩,?_⟩
  have e:=r.length
  simp only [Array.length_toList] at e
  omega
theorem Inv.tuple (I:Inv X pins σ H s) (h:SqT X.K H a xs):∃ its:List Value,am xs its/\IsTup s.heap a its.toArray/\xs.length <= sizeLine:=by
 rcases h with h|⟨o,its,n,hk,hc,hs,hz,r⟩
 ·obtain ⟨z,its,r,p⟩:=h.ok I.hok
  exact ⟨its,r,p,z⟩
 ·refine ⟨its.toList,r,⟨o,I.kIn a o hk,hc,n,by simpa using hs⟩,?_⟩
  have e:=r.length
  simp only [Array.length_toList] at e
  omega
theorem Inv.list_inj (I:Inv X pins σ H s) (h:SqL X.K H a xs) (h':SqL X.K H a ys):xs=ys:=by
 obtain ⟨its,r,⟨o,n,e,_,_,d⟩,_⟩:=I.list h
 obtain ⟨its',r',⟨o',n',e',_,_,d'⟩,_⟩:=I.list h'
 rw [e] at e';cases e'
 rw [d] at d'
 injection d' with d1 _
 have:its=its':=by simpa using congrArg Array.toList d1
 subst this
 exact r.inj r'
theorem Inv.tuple_inj (I:Inv X pins σ H s) (h:SqT X.K H a xs) (h':SqT X.K H a ys):xs=ys:=by
 obtain ⟨its,r,⟨o,e,_,n,d⟩,_⟩:=I.tuple h
 obtain ⟨its',r',⟨o',e',_,n',d'⟩,_⟩:=I.tuple h'
 rw [e] at e';cases e'
 rw [d] at d'
 injection d' with d1 _
 have:its=its':=by simpa using congrArg Array.toList d1
 subst this
 exact r.inj r'
end
noncomputable abbrev Cx.wish (X:Cx) (E:Value->Shared->Prop):Cx:={ X with xe:=E }
noncomputable abbrev Cx.nox (X:Cx):Cx:=X.wish λ_ _=>False
theorem Cx.Ok.wish {X:Cx} (ok:X.Ok) (E:Value->Shared->Prop):(X.wish E).Ok :=
 ⟨ok.mod,ok.kind,ok.glob,ok.blt,ok.above,ok.inj,ok.has,ok.cab,ok.hd,ok.frames,ok.stk,ok.exf,ok.bs,ok.bsz,ok.noex,ok.exfs,ok.funs,ok.frf⟩
theorem Cx.Ok.unwish {X:Cx}{E:Value->Shared->Prop} (ok:(X.wish E).Ok):X.Ok :=
 ⟨ok.mod,ok.kind,ok.glob,ok.blt,ok.above,ok.inj,ok.has,ok.cab,ok.hd,ok.frames,ok.stk,ok.exf,ok.bs,ok.bsz,ok.noex,ok.exfs,ok.funs,ok.frf⟩
section
variable {X:Cx}{pins:List (Addr × Obj)}{σ:St}{H:Hp}{s:Shared}{E:Value->Shared->Prop}
theorem Inv.wish (I:Inv X pins σ H s) (E:Value->Shared->Prop):Inv (X.wish E) pins σ H s:=⟨I.ok.wish E,I.os,I.bare,I.base,I.loc,I.cell,I.free,I.freeC,I.pin,I.hok,I.len⟩
theorem Inv.unwish (I:Inv (X.wish E) pins σ H s):Inv X pins σ H s:=⟨I.ok.unwish,I.os,I.bare,I.base,I.loc,I.cell,I.free,I.freeC,I.pin,I.hok,I.len⟩
theorem SP.unwish {D:fk}{f:Flow}{s':Shared} (h:SP (X.wish E) pins D f s'):SP X pins D f s':=by
 cases f with
 | next=>obtain ⟨σ',H',I,q⟩:=h;exact ⟨σ',H',I.unwish,q⟩
 | brk=>obtain ⟨σ',H',I,q⟩:=h;exact ⟨σ',H',I.unwish,q⟩
 | cont=>obtain ⟨σ',H',I,q⟩:=h;exact ⟨σ',H',I.unwish,q⟩
 | ret u=>obtain ⟨v,σ',H',I,r,q⟩:=h;exact ⟨v,σ',H',I.unwish,r,q⟩
theorem PSs.nox {st:List Stmt}{t:TS} (h:PSs X.nox st t):PSs X st t:=λpins s σ H D I hw =>
 wpAny_mono (h pins s σ H D (I.wish _) hw) (λ_ _ q=>q.unwish) λ_ _ z=>False.elim z
end
section
variable {X:Cx}{st:Stmt}{bR:List Stmt}{t u:TS}{e:Expr}{te:TE}{pos:Pos}
noncomputable def y6:TS:=λD σ H=>D.nx σ H
noncomputable def A5 (t u:TS):TS:=λD σ H=>t { D with nx:=u D } σ H
theorem lv:PSs X [] y6:=λ_ _ σ H _ I h=>wpAny_execs_nil ⟨σ,H,I,h⟩
theorem fm (h1:PS X st t) (h2:PSs X bR u):PSs X (st::bR) (A5 t u):=by
 intro pins s σ H D I h
 refine wpAny_execs_cons (thn (h1 pins s σ H { D with nx:=u D } I h) λf s1 q=>?_)
 cases f with
 | next =>
  obtain ⟨σ',H',I',q⟩:=q
  exact h2 pins s1 σ' H' D I' q
 | ret v=>exact q
 | brk=>exact q
 | cont=>exact q
theorem iW (h1:PS X st t):PSs X [st] t:=by
 intro pins s σ H D I h
 refine wpAny_execs_cons (thn (h1 pins s σ H D I h) λf s1 q=>?_)
 cases f with
 | next=>exact wpAny_execs_nil q
 | ret v=>exact q
 | brk=>exact q
 | cont=>exact q
theorem Inv.quiet {pins:List (Addr × Obj)}{σ:St}{H:Hp}{s:Shared} (I:Inv X pins σ H s):interactive X.env=false:=by simp [interactive,I.ok.kind]
noncomputable def y7 (te:TE):TS:=λD σ H=>te σ H λ_ H1=>D.nx σ H1
theorem lw (he:PE X e te) (hs:swapsWith e none pos.line X.env=pure false:=by rfl):PS X (.Expr e pos) (y7 te):=by
 intro pins s σ H D I h
 exact wpAny_Expr_any (thn (he pins s σ H _ I h) λv s1 ⟨x,H1,I1,r1,q1⟩=>⟨σ,H1,I1,q1⟩) I.quiet hs
noncomputable def A6 (te:TE):TS:=λD σ H=>te σ H D.rt
theorem nz (he:PE X e te):PS X (.Return (some e) pos) (A6 te):=by
 intro pins s σ H D I h
 exact wpAny_Return_some (thn (he pins s σ H _ I h) λv s1 ⟨x,H1,I1,r1,q1⟩=>⟨x,σ,H1,I1,r1,q1⟩)
noncomputable def A7 (c:TT) (t u:TS):TS:=λD σ H=>c σ H λb H1=>if b=true then t D σ H1 else u D σ H1
theorem oF {c:Expr}{a b:List Stmt}{tc:TT} (hc:PT X c tc) (ha:PSs X a t) (hb:PSs X b u):PS X (.If c a b pos) (A7 tc t u):=by
 intro pins s σ H D I h
 refine wpAny_If (thn (hc pins s σ H _ I h) λd s1 ⟨H1,I1,q1⟩=>?_)
 cases d with
 | true=>exact ha pins s1 σ H1 D I1 q1
 | false=>exact hb pins s1 σ H1 D I1 q1
noncomputable def qX:TS:=λ_ _ _=>False
theorem l_:PS X st qX:=λ_ _ _ _ _ _ h=>h.elim
theorem h_ {sts:List Stmt}:PSs X sts qX:=λ_ _ _ _ _ _ h=>h.elim
end
noncomputable abbrev TG:=V->St->Hp->(St->Hp->Prop)->Prop
noncomputable def PG (X:Cx) (target:Expr) (t:TG):Prop :=
 ∀ (pins:List (Addr × Obj)) (s:Shared) (σ:St) (H:Hp) (v:V) (u:Value) (Q:St->Hp->Prop),Inv X pins σ H s->ar v u->t v σ H Q ->
  wpAny (model X.prog X.w) X.A (assign target X.env u) (λ_ s'=>∃ σ' H',Inv X pins σ' H' s'/\Q σ' H') X.xe s
noncomputable abbrev A8:=V->V->V->Hp->(Hp->Prop)->Prop
noncomputable def A9 (X:Cx) (t:A8):Prop :=
 ∀ (pins:List (Addr × Obj)) (s:Shared) (σ:St) (H:Hp) (o i v:V) (ov iv u:Value) (Q:Hp->Prop),Inv X pins σ H s->ar o ov->ar i iv->ar v u->t o i v H Q ->
  wpAny (model X.prog X.w) X.A (setItem ov iv u) (λ_ s'=>∃ H',Inv X pins σ H' s'/\Q H') X.xe s
section
variable {X:Cx}{pos:Pos}
noncomputable def fZ (i:Nat):TG:=λv σ H Q=>Q (σ.set i (some v)) H
theorem oG {i:Nat}{x:Str} (hN:X.N.Nodup) (hi:X.N[i]?=some x) (hx:Loc X.env.scope x) (hf:X.fn x=true \/ X.env.scope.names.lookup x=some .local:=by first|exact .inl rfl|exact .inr rfl|assumption):PG X (.Name x pos) (fZ i):=by
 intro pins s σ H v u Q I r h
 exact wpAny_assign_Name (gE I hN hi hx r (λs' I'=>⟨_,H,I',h⟩) hf)
noncomputable def pU (te:TE) (g:TG):TS:=λD σ H=>te σ H λx H1=>g x σ H1 D.nx
theorem i_ {i:Nat}{x:Str}{e:Expr}{te:TE}{pos':Pos} (hN:X.N.Nodup) (hi:X.N[i]?=some x) (hx:Loc X.env.scope x) (he:PE X e te) (hs:swapsWith e (some (.Name x pos')) pos.line X.env=pure false:=by rfl) (hf:X.fn x=true \/ X.env.scope.names.lookup x=some .local:=by first|exact .inl rfl|exact .inr rfl|assumption) :
  PS X (.Assign [.Name x pos'] e pos) (pU te (fZ i)):=by
 intro pins s σ H D I h
 refine wpAny_Assign_Name (thn (he pins s σ H _ I h) λv s1 ⟨y,H1,I1,r1,q1⟩=>?_) hs
 exact gE I1 hN hi hx r1 (λs2 I2=>⟨_,H1,I2,q1⟩) hf
end
section
variable {X:Cx}{pos:Pos}
end
structure It where
 go:Nat->Hp->Prop
 yld:Nat->Hp->V->Hp->Prop
 stop:Nat->Hp->Prop
noncomputable def lx (X:Cx) (pins:List (Addr × Obj)) (H:Hp) (b:Addr):Prop :=
 H b=none/\b ≠ X.env.locals/\b ∉ X.fs/\(b ∈ X.ex \/ X.s₀.heap.objs.size <= b)/\(∀ x c,X.env.cells.lookup x=some c->c ≠ b)/\∀ p ∈ X.pn ++ pins,p.1 ≠ b
theorem Inv.fpOk {X:Cx}{pins:List (Addr × Obj)}{σ:St}{H H':Hp}{s:Shared}{b:Addr} (I:Inv X pins σ H s) (hb:s.heap.objs.size <= b) (hn:H' b=none):lx X pins H' b:=by
 refine ⟨hn,Nat.ne_of_gt (Nat.lt_of_lt_of_le I.lt hb),I.nofs hb,.inr (Nat.le_trans I.sz hb),λx c e z=>?_,λp hp z=>?_⟩
 ·obtain ⟨v,q⟩:=I.cell x c e
  exact absurd (Nat.lt_of_lt_of_le q.lt (by rw [z];exact hb)) (Nat.lt_irrefl _)
 ·exact absurd (Nat.lt_of_lt_of_le (Heap.lt_size (I.pin p hp).1) (by rw [z];exact hb)) (Nat.lt_irrefl _)
structure nA (P:Program) (w:World) (K:PySem.W.Frag) (tg:Expr) (J:It) (fp:List Addr) (it:Addr) (tn:Nat->Heap->Prop):Prop where
 mem:it ∈ fp
 obj:∀ i h,tn i h->∀ b ∈ fp,∃ o,h.get? b=some o/\∀ v,o.data ≠ .cell v
 keep:∀ i h h',tn i h->(∀ b ∈ fp,∀ o,h.get? b=some o->h'.get? b=some o)->tn i h'
 item:∀ (X:Cx),X.prog=P->X.w=w->X.K=K->X.calm=true->∀ (i:Nat) (pins:List (Addr × Obj)) (s:Shared) (σ:St) (H:Hp) (E:Value->Shared->Prop),Inv X pins σ H s->(∀ b ∈ fp,lx X pins H b)->tn i s.heap->J.go i H ->
  wpAny (model P w) X.A (pyNext (.ref it)) (λr s1=>∃ u,r=some u /\
   wpAny (model P w) X.A (letOwnedTupleGo tg (.ref it) u) (λ_ s2=>∃ x H',Inv X pins σ H' s2/\ar x u/\J.yld i H x H'/\tn (i + 1) s2.heap/\∀ b ∈ fp,H' b=none) E s1) E s
 done:∀ (X:Cx),X.prog=P->X.w=w->X.K=K->X.calm=true->∀ (i:Nat) (pins:List (Addr × Obj)) (s:Shared) (σ:St) (H:Hp) (E:Value->Shared->Prop),Inv X pins σ H s->(∀ b ∈ fp,lx X pins H b)->tn i s.heap->J.stop i H ->
  wpAny (model P w) X.A (pyNext (.ref it)) (λr s1=>r=none/\Inv X pins σ H s1) E s
 self:∀ (A:Around) (i:Nat) (s:Shared) (Q:Value->Shared->Prop) (E:Value->Shared->Prop),tn i s.heap->Q (.ref it) s->wpAny (model P w) A (pyIter (.ref it)) Q E s
noncomputable abbrev TI:=St->Hp->(It->Hp->Prop)->Prop
noncomputable def PIE (X:Cx) (pins:List (Addr × Obj)) (σ:St) (tg:Expr) (R:It->Hp->Prop) (itv:Value) (s2:Shared):Prop :=
 ∃ (it:Addr) (fp:List Addr) (tn:Nat->Heap->Prop) (J:It) (H':Hp),itv=.ref it/\Inv X pins σ H' s2/\nA X.prog X.w X.K tg J fp it tn/\tn 0 s2.heap/\(∀ b ∈ fp,lx X pins H' b)/\R J H'
noncomputable def PI (X:Cx) (tg iter:Expr) (wi:TI):Prop :=
 ∀ (pins:List (Addr × Obj)) (s:Shared) (σ:St) (H:Hp) (R:It->Hp->Prop),Inv X pins σ H s->wi σ H R ->
  wpAny (model X.prog X.w) X.A (eval iter X.env) (λv s1=>wpAny (model X.prog X.w) X.A (pyIter v) (PIE X pins σ tg R) X.xe s1) X.xe s
theorem oH {M:Model}{A:Around}{E:Value->Shared->Prop}{s:Shared}{tg:Expr}{it:Addr}{u:Value}{o:Obj}{n:String}{vs:Array Value}{Q:Unit->Shared->Prop} (ho:s.heap.get? it=some o) (hc:o.cls=.type n) (hd:o.data=.fields vs)
    (hn:["enumerate","zip","dict_itemiterator","dict_reverseitemiterator","odict_iterator","itertools.zip_longest","itertools.pairwise"].contains n=false) (hQ:Q () s):wpAny M A (letOwnedTupleGo tg (.ref it) u) Q E s:=by
  unfold letOwnedTupleGo
  cases tg <;> first
    | exact wpAny_pure hQ
    | (cases u <;> first
        | exact wpAny_pure hQ
        | (refine wpAny_bind (wpAny_load ho ?_)
           rw [hc,hd]
           show wpAny M A (if (["enumerate","zip","dict_itemiterator","dict_reverseitemiterator","odict_iterator","itertools.zip_longest","itertools.pairwise"].contains n&&vs[0]? == some (rawInt _))=true then _ else _) Q E s
           rw [if_neg (by intro h;rw [hn,Bool.false_and] at h;cases h)]
           exact wpAny_pure hQ))
noncomputable def Itl (K:PySem.W.Frag) (a:Addr):It :=
 ⟨λi H=>∃ xs x,SqL K H a xs/\xs[i]?=some x,λi H x H'=>H'=H/\∀ xs,SqL K H a xs->xs[i]?=some x,λi H=>∃ xs,SqL K H a xs/\xs.length <= i⟩
noncomputable def Itt (K:PySem.W.Frag) (a:Addr):It :=
 ⟨λi H=>∃ xs x,SqT K H a xs/\xs[i]?=some x,λi H x H'=>H'=H/\∀ xs,SqT K H a xs->xs[i]?=some x,λi H=>∃ xs,SqT K H a xs/\xs.length <= i⟩
noncomputable def Itr (lo:Int) (n:Nat):It:=⟨λi _=>i < n,λi H x H'=>H'=H/\x=.int (lo + i),λi _=>n <= i⟩
theorem pV {P:Program}{w:World}{K:PySem.W.Frag}{tg:Expr} (a it:Addr):nA P w K tg (Itl K a) [it] it (λi h=>h.IsListIter it a i) where
 mem:=by simp
 obj:=λi h st b hb=>by
  have e:b=it:=by simpa using hb
  subst e
  obtain ⟨o,e,c,d⟩:=st
  exact ⟨o,e,λv z=>by rw [d] at z;cases z⟩
 keep:=λi h h' st k=>st.at λo e=>k it (by simp) o e
 item:=by
  intro X hP hw hK hc i pins s σ H E I hf st hg
  subst hP hw hK
  obtain ⟨xs,x,hq,hx⟩:=hg
  obtain ⟨its,rv,p,hz⟩:=I.list hq
  obtain ⟨u,hu,ru⟩:=rv.get hx
  obtain ⟨f0,f1,f2,f3,f4,f5⟩:=hf it (by simp)
  refine wpAny_pyNext_list_item st p.isList (x:=u) (by simpa using hu) λh' st' sb=>?_
  have I1:Inv X pins σ H { s with heap:=h' }:=I.turned (t':=s.toks) (λb o hb e=>(sb.2 b hb).trans e) f0 f1 f3 f4 f5
  obtain ⟨o,e,c,d⟩:=id st'
  exact ⟨u,rfl,oH (s:={ s with heap:=h' }) e c d (by decide) ⟨x,H,I1,ru,⟨rfl,λys hy=>by rw [I.list_inj hy hq];exact hx⟩,st',λb hb=>(hf b hb).1⟩⟩
 done:=by
  intro X hP hw hK hc i pins s σ H E I hf st hg
  subst hP hw hK
  obtain ⟨xs,hq,hx⟩:=hg
  obtain ⟨its,rv,p,hz⟩:=I.list hq
  obtain ⟨f0,f1,f2,f3,f4,f5⟩:=hf it (by simp)
  have hl:=rv.length
  exact wpAny_pyNext_list_end (I.ok.hd hc) st p.isList (by simp;omega) λh' eb=>⟨rfl,I.turned (t':=s.toks) (λb o hb e=>eb b o hb e) f0 f1 f3 f4 f5⟩
 self:=λ_ _ _ _ _ st h=>wpAny_pyIter_listiter st h
theorem nB {P:Program}{w:World}{K:PySem.W.Frag}{tg:Expr} (a it:Addr):nA P w K tg (Itt K a) [it] it (λi h=>h.IsTupleIter it a i) where
 mem:=by simp
 obj:=λi h st b hb=>by
  have e:b=it:=by simpa using hb
  subst e
  obtain ⟨o,e,c,d⟩:=st
  exact ⟨o,e,λv z=>by rw [d] at z;cases z⟩
 keep:=λi h h' st k=>st.at λo e=>k it (by simp) o e
 item:=by
  intro X hP hw hK hc i pins s σ H E I hf st hg
  subst hP hw hK
  obtain ⟨xs,x,hq,hx⟩:=hg
  obtain ⟨its,rv,p,hz⟩:=I.tuple hq
  obtain ⟨u,hu,ru⟩:=rv.get hx
  obtain ⟨f0,f1,f2,f3,f4,f5⟩:=hf it (by simp)
  refine wpAny_pyNext_tuple_item st (show s.heap.IsTuple a its.toArray from p) (x:=u) (by simpa using hu) λh' st' sb=>?_
  have I1:Inv X pins σ H { s with heap:=h' }:=I.turned (t':=s.toks) (λb o hb e=>(sb.2 b hb).trans e) f0 f1 f3 f4 f5
  obtain ⟨o,e,c,d⟩:=id st'
  exact ⟨u,rfl,oH (s:={ s with heap:=h' }) e c d (by decide) ⟨x,H,I1,ru,⟨rfl,λys hy=>by rw [I.tuple_inj hy hq];exact hx⟩,st',λb hb=>(hf b hb).1⟩⟩
 done:=by
  intro X hP hw hK hc i pins s σ H E I hf st hg
  subst hP hw hK
  obtain ⟨xs,hq,hx⟩:=hg
  obtain ⟨its,rv,p,hz⟩:=I.tuple hq
  obtain ⟨f0,f1,f2,f3,f4,f5⟩:=hf it (by simp)
  have hl:=rv.length
  exact wpAny_pyNext_tuple_end (I.ok.hd hc) st (show s.heap.IsTuple a its.toArray from p) (by simp;omega) λh' eb=>⟨rfl,I.turned (t':=s.toks) (λb o hb e=>eb b o hb e) f0 f1 f3 f4 f5⟩
 self:=λ_ _ _ _ _ st h=>wpAny_pyIter_tupleiter st h
theorem nE {P:Program}{w:World}{K:PySem.W.Frag}{tg:Expr} (it:Addr) (lo:Int) (n:Nat):nA P w K tg (Itr lo n) [it] it (λi h=>IsRangeIter h it (lo + (i:Nat) * 1) ((n:Int) - (i:Nat)) 1) where
 mem:=by simp
 obj:=λi h st b hb=>by
  have e:b=it:=by simpa using hb
  subst e
  exact ⟨_,st,λv z=>by
   have z':Data.fields _=Data.cell v:=z
   cases z'⟩
 keep:=λi h h' st k=>k it (by simp) _ st
 item:=by
  intro X hP hw hK hc i pins s σ H E I hf st hg
  subst hP hw hK
  obtain ⟨f0,f1,f2,f3,f4,f5⟩:=hf it (by simp)
  have W:=Walks.range (prog:=X.prog) (w:=X.w) (I.ok.hd hc) it lo 1 n
  refine W.item i s _ _ hg st λv h' tk hv st' kk=>?_
  obtain ⟨t,rfl⟩:=hv
  have I1:Inv X pins σ H { s with heap:=h',toks:=tk }:=I.turned (λb o hb e=>kk b o (by simpa using hb) e) f0 f1 f3 f4 f5
  refine ⟨_,rfl,oH (s:={ s with heap:=h',toks:=tk }) (n:="range_iterator") st' rfl rfl (by decide) ⟨.int (lo + i),H,I1,⟨t,?_⟩,⟨rfl,rfl⟩,st',λb hb=>(hf b hb).1⟩⟩
  rw [Int.mul_one]
 done:=by
  intro X hP hw hK hc i pins s σ H E I hf st hg
  subst hP hw hK
  obtain ⟨f0,f1,f2,f3,f4,f5⟩:=hf it (by simp)
  exact wpAny_pyNext_range_end (I.ok.hd hc) st (by have:n <= i:=hg;omega) λh' eb=>⟨rfl,I.turned (t':=s.toks) (λb o hb e=>eb b o hb e) f0 f1 f3 f4 f5⟩
 self:=λ_ _ _ _ _ st h=>wpAny_pyIter_rangeiter st h
end L2
namespace L2
open PySem PySem.Spec PyProof.Rows
section
variable {X:Cx}{tg:Expr}
noncomputable def y9 (K:PySem.W.Frag) (tl:TE):TI:=λσ H R=>tl σ H λx H1=>∃ a,x=.ref a/\(∃ xs,SqL K H1 a xs)/\R (Itl K a) H1
noncomputable def A_ (K:PySem.W.Frag) (tl:TE):TI:=λσ H R=>tl σ H λx H1=>∃ a,x=.ref a/\(∃ xs,SqT K H1 a xs)/\R (Itt K a) H1
theorem oI {l:Expr}{tl:TE} (hl:PE X l tl):PI X tg l (y9 X.K tl):=by
 intro pins s σ H R I h
 refine thn (hl pins s σ H _ I h) λv s1 ⟨x,H1,I1,r1,q1⟩=>?_
 obtain ⟨a,e,⟨xs,hq⟩,q⟩:=q1
 subst e
 cases r1
 obtain ⟨its,rv,p,hz⟩:=I1.list hq
 refine wpAny_pyIter_list p.isList ?_
 refine ⟨s1.heap.objs.size,[s1.heap.objs.size],_,_,H1,rfl,I1.kept (t':=s1.toks) λb o e=>Heap.get?_push_of_some _ e,pV a _,⟨_,Heap.get?_push_size _ rfl,rfl,rfl⟩,λb hb=>?_,q⟩
 have e:b=s1.heap.objs.size:=by simpa using hb
 subst e
 exact I1.fpOk (Nat.le_refl _) (I1.hok.fresh (Nat.le_refl _))
theorem qY {l:Expr}{tl:TE} (hl:PE X l tl):PI X tg l (A_ X.K tl):=by
 intro pins s σ H R I h
 refine thn (hl pins s σ H _ I h) λv s1 ⟨x,H1,I1,r1,q1⟩=>?_
 obtain ⟨a,e,⟨xs,hq⟩,q⟩:=q1
 subst e
 cases r1
 obtain ⟨its,rv,p,hz⟩:=I1.tuple hq
 refine wpAny_pyIter_tuple (show s1.heap.IsTuple a its.toArray from p) ?_
 refine ⟨s1.heap.objs.size,[s1.heap.objs.size],_,_,H1,rfl,I1.kept (t':=s1.toks) λb o e=>Heap.get?_push_of_some _ e,nB a _,⟨_,Heap.get?_push_size _ rfl,rfl,rfl⟩,λb hb=>?_,q⟩
 have e:b=s1.heap.objs.size:=by simpa using hb
 subst e
 exact I1.fpOk (Nat.le_refl _) (I1.hok.fresh (Nat.le_refl _))
theorem ma {pins:List (Addr × Obj)}{σ:St}{H:Hp}{s:Shared}{R:It->Hp->Prop}{E:Value->Shared->Prop}{lo hi:Int}{t u v:Tok}{tk:Nat} (I:Inv X pins σ H s) (h1:-(2 ^ 62) <= lo) (h2:lo < 2 ^ 62) (h3:-(2 ^ 62) <= hi) (h4:hi < 2 ^ 62)
  (q:R (Itr lo (hi - lo).toNat) H):wpAny (model X.prog X.w) X.A (pyIter (.ref s.heap.objs.size)) (PIE X pins σ tg R) E { s with heap:=s.heap.push { cls:=.type "range",data:=.fields #[.int lo t,.int hi u,.int 1 v] },toks:=tk }:=by
 refine wpAny_pyIter_range (IsRange.new ..) (small_one h1 h2 h3 h4) ?_
 have I1:Inv X pins σ H { s with heap:=s.heap.push { cls:=.type "range",data:=.fields #[.int lo t,.int hi u,.int 1 v] },toks:=tk }:=I.kept λb o e=>Heap.get?_push_of_some _ e
 refine ⟨(s.heap.push { cls:=.type "range",data:=.fields #[.int lo t,.int hi u,.int 1 v] }).objs.size,[(s.heap.push { cls:=.type "range",data:=.fields #[.int lo t,.int hi u,.int 1 v] }).objs.size],_,_,H,rfl,
  I1.kept (t':=tk) λb o e=>Heap.get?_push_of_some _ e,nE _ lo (hi - lo).toNat,?_,λb hb=>?_,q⟩
 ·have e1:lo + ((0:Nat):Int) * 1=lo:=by simp
  have e2:(((hi - lo).toNat:Nat):Int) - ((0:Nat):Int)=Builtin.Range.rangeSize lo hi 1:=by rw [rangeSize_one];split <;> omega
  show IsRangeIter _ _ (lo + ((0:Nat):Int) * 1) ((((hi - lo).toNat:Nat):Int) - ((0:Nat):Int)) 1
  rw [e1,e2]
  exact Heap.get?_push_size _ rfl
 ·have e:b=(s.heap.push { cls:=.type "range",data:=.fields #[.int lo t,.int hi u,.int 1 v] }).objs.size:=by simpa using hb
  subst e
  exact I1.fpOk (Nat.le_refl _) (I1.hok.fresh (Nat.le_refl _))
noncomputable def y_ (ta:TA):TI:=λσ H R=>ta σ H λvs H1=>∃ j:Int,vs=[.int j]/\-(2 ^ 62) <= j/\j < 2 ^ 62/\R (Itr 0 j.toNat) H1
noncomputable def za (ta:TA):TI:=λσ H R=>ta σ H λvs H1=>∃ i j:Int,vs=[.int i,.int j]/\(-(2 ^ 62) <= i/\i < 2 ^ 62/\-(2 ^ 62) <= j/\j < 2 ^ 62)/\R (Itr i (j - i).toNat) H1
theorem pW {a:Expr}{ta:TA}{p pos:Pos} (hg:Gl X "range") (hm:X.mg "range"=none) (ha:PA X [a] ta) (hs:starEach [a] X.env=[(false,eval a X.env)]:=by rfl):PI X tg (.Call (.Name "range" p) [a] [] pos) (y_ ta):=by
 intro pins s σ H R I h
 refine Call_ (hZ I hg hm boot_range (PyProof.Rows.callWith_type1 (thn (ha pos pins s σ H _ I h) λus s1 ⟨vs,H1,I1,r1,q1⟩=>?_) hs rfl))
 obtain ⟨j,e,q1,q2,q⟩:=q1
 subst e
 cases r1 with
 | cons r rr =>
  cases rr
  obtain ⟨t,rfl⟩:=r
  exact call_range_1 (ma I1 (by omega) (by omega) q1 q2 (by simpa using q))
theorem pX {a b:Expr}{ta:TA}{p pos:Pos} (hg:Gl X "range") (hm:X.mg "range"=none) (ha:PA X [a,b] ta) (hs:starEach [a,b] X.env=[(false,eval a X.env),(false,eval b X.env)]:=by rfl) (hs2:starEach [b] X.env=[(false,eval b X.env)]:=by rfl) :
  PI X tg (.Call (.Name "range" p) [a,b] [] pos) (za ta):=by
 intro pins s σ H R I h
 refine Call_ (hZ I hg hm boot_range (PyProof.Rows.callWith_type1 (thn (ha pos pins s σ H _ I h) λus s1 ⟨vs,H1,I1,r1,q1⟩=>?_) (by rw [hs,hs2]) (by rw [hs2];rfl)))
 obtain ⟨i,j,e,⟨q1,q2,q3,q4⟩,q⟩:=q1
 subst e
 cases r1 with
 | cons r rr =>
  cases rr with
  | cons r' rr =>
   cases rr
   obtain ⟨t,rfl⟩:=r
   obtain ⟨t',rfl⟩:=r'
   exact call_range_2 (ma I1 q1 q2 q3 q4 q)
noncomputable def zb (wi:TI) (g:TG) (tb:TS):TS:=λD σ H=>wi σ H λJ H1=>∃ W:Nat->Nat->St->Hp->Prop,(∃ m,W 0 m σ H1)/\∀ i m σ H,W i m σ H ->
 (J.stop i H/\D.nx σ H) \/ (J.go i H/\∃ N:St->Hp->Prop,(∀ σ' H',N σ' H'->∃ m',m' < m/\W (i + 1) m' σ' H')/\∀ x H',J.yld i H x H'->g x σ H' λσ2 H2=>tb { D with nx:=N,ct:=N,bk:=D.nx } σ2 H2)
noncomputable def jc (fp:List Addr) (h:Heap):List (Addr × Obj):=fp.filterMap λb=>(h.get? b).map λo=>(b,o)
theorem eS {fp:List Addr}{h:Heap}{b:Addr}{o:Obj} (hb:b ∈ fp) (e:h.get? b=some o):(b,o) ∈ jc fp h:=List.mem_filterMap.mpr ⟨b,hb,by rw [e];rfl⟩
theorem pY {fp:List Addr}{h:Heap}{p:Addr × Obj} (hp:p ∈ jc fp h):p.1 ∈ fp/\h.get? p.1=some p.2:=by
 obtain ⟨b,hb,e⟩:=List.mem_filterMap.mp hp
 cases q:h.get? b with
 | none=>rw [q] at e;cases e
 | some o =>
  rw [q] at e
  have e':(b,o)=p:=Option.some.inj e
  subst e'
  exact ⟨hb,q⟩
theorem Inv.pinned {pins:List (Addr × Obj)}{σ:St}{H:Hp}{s:Shared}{fp:List Addr} (I:Inv X pins σ H s) (hf:∀ b ∈ fp,lx X pins H b) (ho:∀ b ∈ fp,∃ o,s.heap.get? b=some o/\∀ v,o.data ≠ .cell v):Inv X (pins ++ jc fp s.heap) σ H s :=
 I.pins_of λp hp=>(List.mem_append.mp hp).elim (λz=>I.pin p (List.mem_append_right _ z)) λz=>by
  obtain ⟨hb,e⟩:=pY z
  obtain ⟨f0,f1,f2,_⟩:=hf p.1 hb
  obtain ⟨o,e',d⟩:=ho p.1 hb
  rw [e] at e';cases e'
  exact ⟨e,f0,f1,f2,d⟩
theorem Inv.unpinned {pins pl:List (Addr × Obj)}{σ:St}{H:Hp}{s:Shared} (I:Inv X (pins ++ pl) σ H s):Inv X pins σ H s:=I.pins_of λp hp=>I.pin p (List.mem_append_right _ (List.mem_append_left _ hp))
theorem wI {iter:Expr}{body:List Stmt}{wi:TI}{g:TG}{tb:TS}{pos:Pos} (hp:PassesOwn (model X.prog X.w) X.A X.env X.xe) (hc:X.calm=true) (hi:PI X tg iter wi) (hg:PG X tg g) (hb:PSs X body tb)
  (hs:∀ x,foldedSetIterable iter X.env x=pure x:=by intro _;rfl):PS X (.For tg iter body [] pos) (zb wi g tb):=by
 intro pins s σ H D I h
 refine wpAny_For (thn (hi pins s σ H _ I h) λv s1 h1=>thn h1 λitv s2 h2=>?_) hs
 obtain ⟨it,fp,tn,J,H2,e,I2,T,st2,f2,W,⟨m0,w0⟩,turn⟩:=h2
 subst e
 have stat:∀ {H':Hp},(∀ b ∈ fp,H' b=none)->∀ b ∈ fp,lx X pins H' b:=λhn b hb=>⟨hn b hb,(f2 b hb).2⟩
 refine codeAny_forLoop_any (λn s'=>∃ i σ' H',Inv X pins σ' H' s'/\tn i s'.heap/\(∀ b ∈ fp,H' b=none)/\W i n σ' H') ?_ m0 ⟨0,σ,H2,I2,st2,λb hb=>(f2 b hb).1,w0⟩
 rintro n s3 ⟨i,σ3,H3,I3,st3,fr3,w3⟩
 rcases turn i n σ3 H3 w3 with ⟨stop,qn⟩|⟨go,N,hN,step⟩
 ·refine wpAny_passesOwn hp (thn (T.done X rfl rfl rfl hc i pins s3 σ3 H3 X.xe I3 (stat fr3) st3 stop) λr s4 ⟨hr,I4⟩=>?_)
  subst hr
  exact wpAny_execs_nil ⟨σ3,H3,I4,qn⟩
 ·refine wpAny_passesOwn hp (thn (T.item X rfl rfl rfl hc i pins s3 σ3 H3 X.xe I3 (stat fr3) st3 go) λr s4 ⟨u,hr,h4⟩=>?_)
  subst hr
  refine wpAny_passesOwn hp (thn h4 λ_ s5 ⟨x,H5,I5,r5,y5,st5,fr5⟩=>?_)
  have I5':=I5.pinned (stat fr5) (T.obj _ _ st5)
  refine wpAny_passesOwn hp (thn (hg _ s5 σ3 H5 x u _ I5' r5 (step x H5 y5)) λ_ s6 ⟨σ6,H6,I6,q6⟩=>?_)
  refine wpAny_passesOwn hp (thn (hb _ s6 σ6 H6 _ I6 q6) λf s7 q7=>?_)
  have again:∀ {σ7:St}{H7:Hp},Inv X (pins ++ jc fp s5.heap) σ7 H7 s7->N σ7 H7->∃ m,m < n/\∃ i σ' H',Inv X pins σ' H' s7/\tn i s7.heap/\(∀ b ∈ fp,H' b=none)/\W i m σ' H':=λ{σ7 H7} I7 n7=>by
   obtain ⟨m',hm,w7⟩:=hN σ7 H7 n7
   refine ⟨m',hm,i + 1,σ7,H7,I7.unpinned,T.keep _ _ _ st5 λb hb o e=>(I7.pin (b,o) (List.mem_append_right _ (List.mem_append_right _ (eS hb e)))).1,λb hb=>?_,w7⟩
   obtain ⟨o,e,d⟩:=T.obj _ _ st5 b hb
   exact (I7.pin (b,o) (List.mem_append_right _ (List.mem_append_right _ (eS hb e)))).2.1
  cases f with
  | next=>obtain ⟨σ7,H7,I7,n7⟩:=q7;exact again I7 n7
  | cont=>obtain ⟨σ7,H7,I7,n7⟩:=q7;exact again I7 n7
  | brk=>obtain ⟨σ7,H7,I7,q7⟩:=q7;exact ⟨σ7,H7,I7.unpinned,q7⟩
  | ret v=>obtain ⟨x7,σ7,H7,I7,r7,q7⟩:=q7;exact ⟨x7,σ7,H7,I7.unpinned,r7,q7⟩
end
end L2
namespace L2
open PySem PySem.Spec PyProof.Rows
noncomputable abbrev R2:=V->V->Hp->VK->Prop
noncomputable def OpR (X:Cx) (f:Value->Value->Sem Value) (r:R2):Prop :=
 ∀ (pins:List (Addr × Obj)) (s:Shared) (σ:St) (H:Hp) (x y:V) (v u:Value) (Q:VK),Inv X pins σ H s->ar x v->ar y u->r x y H Q ->
  wpAny (model X.prog X.w) X.A (f v u) (EP X pins σ Q) X.xe s
noncomputable def bq (X:Cx) (f:Value) (r:List V->Hp->VK->Prop):Prop :=
 ∀ (pins:List (Addr × Obj)) (s:Shared) (σ:St) (H:Hp) (xs:List V) (us:List Value) (Q:VK),Inv X pins σ H s->am xs us->r xs H Q ->
  wpAny (model X.prog X.w) X.A (call f us) (EP X pins σ Q) X.xe s
noncomputable def tOp (r:R2) (ta tb:TE):TE:=λσ H Q=>ta σ H λx H1=>tb σ H1 λy H2=>r x y H2 Q
noncomputable def rI (C:Int->Int->Prop) (g:Int->Int->V):R2:=λx y H Q=>∃ i j,x=.int i/\y=.int j/\C i j/\Q (g i j) H
noncomputable def rI0 (g:Int->Int->V):R2:=λx y H Q=>∃ i j,x=.int i/\y=.int j/\Q (g i j) H
section
variable {X:Cx}{a b c:Expr}{ta tb tc:TE}{pos:Pos}
theorem wJ (ha:PE X a ta) (hb:PE X b tb) {pins:List (Addr × Obj)}{s:Shared}{σ:St}{H:Hp}{R:V->V->Hp->Prop} (I:Inv X pins σ H s)
  (h:ta σ H λx H1=>tb σ H1 λy H2=>R x y H2) {Q:Value->Shared->Prop}{f:Value->Value->Sem Value}
  (hf:∀ v u s2 x y H2,Inv X pins σ H2 s2->ar x v->ar y u->R x y H2->wpAny (model X.prog X.w) X.A (f v u) Q X.xe s2) :
  wpAny (model X.prog X.w) X.A (eval a X.env) (λv s₁=>wpAny (model X.prog X.w) X.A (eval b X.env) (λu s₂=>wpAny (model X.prog X.w) X.A (f v u) Q X.xe s₂) X.xe s₁) X.xe s:=by
 refine thn (ha pins s σ H _ I h) λv s1 ⟨x,H1,I1,r1,q1⟩=>?_
 refine thn (hb pins s1 σ H1 _ I1 q1) λu s2 ⟨y,H2,I2,r2,q2⟩=>?_
 exact hf v u s2 x y H2 I2 r1 r2 q2
theorem zc {op:Operator}{r:R2} (ho:OpR X (binaryOp op) r) (ha:PE X a ta) (hb:PE X b tb):PE X (.BinOp a op b pos) (tOp r ta tb):=by
 intro pins s σ H Q I h
 exact wpAny_BinOp (wJ ha hb I h λv u s2 x y H2 I2 rx ry q=>ho pins s2 σ H2 x y v u Q I2 rx ry q)
theorem opI {f:Value->Value->Sem Value}{C:Int->Int->Prop}{g:Int->Int->Int}
  (rule:∀ (i j:Int) (t u:Tok) (s:Shared) (Q:Value->Shared->Prop) (E:Value->Shared->Prop),C i j->Q (.int (g i j) s.toks) { s with toks:=s.toks + 1 }->wpAny (model X.prog X.w) X.A (f (.int i t) (.int j u)) Q E s) :
  OpR X f (rI C λi j=>.int (g i j)):=by
 intro pins s σ H x y v u Q I rx ry h
 obtain ⟨i,j,rfl,rfl,hc,q⟩:=h
 obtain ⟨t,rfl⟩:=rx
 obtain ⟨t',rfl⟩:=ry
 exact rule i j t t' s _ _ hc ⟨.int (g i j),H,I.tok _,⟨_,rfl⟩,q⟩
theorem zd {f:Value->Value->Sem Value}{g:Int->Int->Int}
  (rule:∀ (i j:Int) (t u:Tok) (s:Shared) (Q:Value->Shared->Prop) (E:Value->Shared->Prop),Q (.int (g i j) s.toks) { s with toks:=s.toks + 1 }->wpAny (model X.prog X.w) X.A (f (.int i t) (.int j u)) Q E s) :
  OpR X f (rI0 λi j=>.int (g i j)):=by
 intro pins s σ H x y v u Q I rx ry h
 obtain ⟨i,j,rfl,rfl,q⟩:=h
 obtain ⟨t,rfl⟩:=rx
 obtain ⟨t',rfl⟩:=ry
 exact rule i j t t' s _ _ ⟨.int (g i j),H,I.tok _,⟨_,rfl⟩,q⟩
theorem uu {f:Value->Value->Sem Value}{g:Int->Int->Bool}
  (rule:∀ (i j:Int) (t u:Tok) (s:Shared) (Q:Value->Shared->Prop) (E:Value->Shared->Prop),Q (.bool (g i j)) s->wpAny (model X.prog X.w) X.A (f (.int i t) (.int j u)) Q E s) :
  OpR X f (rI0 λi j=>.bl (g i j)):=by
 intro pins s σ H x y v u Q I rx ry h
 obtain ⟨i,j,rfl,rfl,q⟩:=h
 obtain ⟨t,rfl⟩:=rx
 obtain ⟨t',rfl⟩:=ry
 exact rule i j t t' s _ _ ⟨.bl (g i j),H,I,rfl,q⟩
noncomputable def Ba (i j:Int):Prop:=0 < j/\j < 1073741824
noncomputable def Bb (i j:Int):Prop:=0 <= j/\j <= 1000000/\i.natAbs < 2 ^ 64
noncomputable def wK (i j:Int):Prop:=(-(2 ^ 64) < i/\i < 2 ^ 64) \/ (-(2 ^ 64) < j/\j < 2 ^ 64)
theorem wK.ok {i j:Int} (h:wK i j):IntMulOk i j:=by
 rcases h with ⟨h1,h2⟩|⟨h1,h2⟩
 ·exact .of_left (intBits_le_64 h1 h2)
 ·exact .of_right (intBits_le_64 h1 h2)
theorem nF (k:Nat):(0:Int) <= 2 ^ k:=by
 rw [two_pow_cast]
 exact Int.natCast_nonneg _
theorem wL:OpR X (binaryOp .Add) (rI0 λi j=>.int (i + j)):=zd λ_ _ _ _ _ _ _ q=>add_int q
theorem wM:OpR X (binaryOp .Sub) (rI0 λi j=>.int (i - j)):=zd λ_ _ _ _ _ _ _ q=>sub_int q
theorem wN:OpR X (binaryOp .Mult) (rI wK λi j=>.int (i * j)):=opI λ_ _ _ _ _ _ _ hc q=>mul_int q hc.ok
theorem uv:OpR X (binaryOp .FloorDiv) (rI Ba λi j=>.int (i / j)):=opI λi j _ _ _ _ _ hc q=>by
 have h1:(0:Int) < j:=hc.1
 have h2:j < 1073741824:=hc.2
 exact floordiv_int (by omega) (by rw [Int.fdiv_eq_ediv_of_nonneg i (by omega)];exact q) (.inl (PyProof.noPylong_small (by omega)))
theorem wO:OpR X (binaryOp .Mod) (rI (λ_ j=>0 < j) λi j=>.int (i % j)):=opI λi j _ _ _ _ _ hc q=>by
 have h1:(0:Int) < j:=hc
 exact mod_int' (by omega) (by rw [Int.fmod_eq_emod_of_nonneg i (by omega)];exact q)
theorem wP:OpR X (binaryOp .Pow) (rI Bb λi j=>.int (i ^ j.toNat)):=opI λ_ _ _ _ _ _ _ hc q=>pow_int_small hc.1 hc.2.1 hc.2.2 q
theorem wQ:OpR X (binaryOp .RShift) (rI (λ_ j=>0 <= j) λi j=>.int (i / 2 ^ j.toNat)):=opI λi j _ _ _ _ _ hc q =>
 rshift_int hc (by rw [Int.fdiv_eq_ediv_of_nonneg i (nF _)];exact q)
end
noncomputable def scal:V->V->Bool
 | .non,.non=>true|.non,.int _=>true|.int _,.non=>true|.non,.bl _=>true|.bl _,.non=>true|.non,.str _=>true|.str _,.non=>true
 | .int _,.int _=>true|.bl _,.bl _=>true|.str _,.str _=>true|.byt _,.byt _=>true
 | .int _,.str _=>true|.str _,.int _=>true|.bl _,.str _=>true|.str _,.bl _=>true
 | _,_=>false
noncomputable def rNe:R2:=λx y H Q=>scal x y=true/\Q (.bl (!decide (x=y))) H
theorem oJ {i j:Int}:decide (V.int i=V.int j)=(i == j):=by
 rw [Bool.eq_iff_iff]
 simp
theorem qZ {i j:Bool}:decide (V.bl i=V.bl j)=(i == j):=by
 rw [Bool.eq_iff_iff]
 simp
theorem oK {i j:Str}:decide (V.str i=V.str j)=(i == j):=by
 rw [Bool.eq_iff_iff]
 simp
theorem uz {i j:Array UInt8}:decide (V.byt i=V.byt j)=(i.toList == j.toList):=by
 rw [Bool.eq_iff_iff]
 cases i
 cases j
 simp
section
variable {X:Cx}{a b c:Expr}{ta tb tc:TE}{pos:Pos}
theorem bE {pins:List (Addr × Obj)}{σ:St}{H:Hp}{s:Shared}{Q:VK}{k k':Bool} (I:Inv X pins σ H s) (q:Q (.bl k) H) (e:k=k'):EP X pins σ Q (.bool k') s:=by
 subst e
 exact ⟨.bl k,H,I,rfl,q⟩
theorem ze:OpR X (compareOp .NotEq) rNe:=by
 intro pins s σ H x y v u Q I rx ry h
 obtain ⟨hs,q⟩:=h
 cases x with
 | non =>
  cases rx
  cases y with
  | non=>cases ry;exact PySem.EqNone.ne_none_none (bE I q (by simp))
  | bl j=>cases ry;exact PySem.EqNone.ne_none_bool (bE I q (by simp))
  | int j=>obtain ⟨t',rfl⟩:=ry;exact PySem.EqNone.ne_none_int (bE I q (by simp))
  | str j=>obtain ⟨t',rfl⟩:=ry;exact PySem.EqNone.ne_none_str (bE I q (by simp))
  | _=>exact absurd (show false=true from hs) Bool.false_ne_true
 | bl i =>
  cases rx
  cases y with
  | non=>cases ry;exact PySem.EqNone.ne_bool_none (bE I q (by simp))
  | bl j=>cases ry;exact ne_bool (bE I q (congrArg not qZ))
  | str j=>obtain ⟨t',rfl⟩:=ry;exact PySem.EqMixed.ne_bool_str (bE I q (by simp))
  | _=>exact absurd (show false=true from hs) Bool.false_ne_true
 | int i =>
  obtain ⟨t,rfl⟩:=rx
  cases y with
  | non=>cases ry;exact PySem.EqNone.ne_int_none (bE I q (by simp))
  | int j=>obtain ⟨t',rfl⟩:=ry;exact ne_int (bE I q (congrArg not oJ))
  | str j=>obtain ⟨t',rfl⟩:=ry;exact PySem.EqMixed.ne_int_str (bE I q (by simp))
  | _=>exact absurd (show false=true from hs) Bool.false_ne_true
 | str i =>
  obtain ⟨t,rfl⟩:=rx
  cases y with
  | non=>cases ry;exact PySem.EqNone.ne_str_none (bE I q (by simp))
  | bl j=>cases ry;exact PySem.EqMixed.ne_str_bool (bE I q (by simp))
  | int j=>obtain ⟨t',rfl⟩:=ry;exact PySem.EqMixed.ne_str_int (bE I q (by simp))
  | str j=>obtain ⟨t',rfl⟩:=ry;exact ne_str (bE I q (congrArg not oK))
  | _=>exact absurd (show false=true from hs) Bool.false_ne_true
 | byt i =>
  obtain ⟨t,rfl⟩:=rx
  cases y with
  | byt j=>obtain ⟨t',rfl⟩:=ry;exact PySem.W.ne_bytes (bE I q (congrArg not uz))
  | _=>exact absurd (show false=true from hs) Bool.false_ne_true
 | _=>cases y <;> exact absurd (show false=true from hs) Bool.false_ne_true
theorem zf:OpR X (compareOp .Lt) (rI0 λi j=>.bl (decide (i < j))):=uu λ_ _ _ _ _ _ _ q=>lt_int q
theorem zg:OpR X (compareOp .LtE) (rI0 λi j=>.bl (decide (i <= j))):=uu λ_ _ _ _ _ _ _ q=>le_int q
theorem zh:OpR X (compareOp .Gt) (rI0 λi j=>.bl (decide (j < i))):=uu λ_ _ _ _ _ _ _ q=>gt_int q
theorem zi:OpR X (compareOp .GtE) (rI0 λi j=>.bl (decide (j <= i))):=uu λ_ _ _ _ _ _ _ q=>ge_int q
theorem wR:OpR X (compareOp .Is) (λx y H Q=>y=.non/\Q (.bl (decide (x=.non))) H):=by
 intro pins s σ H x y v u Q I rx ry h
 obtain ⟨rfl,q⟩:=h
 cases ry
 refine is_none_gen (bE I q ?_)
 cases x <;> first
  | (cases rx;rfl)
  | (obtain ⟨t,rfl⟩:=rx;rfl)
theorem uA:OpR X (compareOp .IsNot) (λx y H Q=>y=.non/\Q (.bl (!decide (x=.non))) H):=by
 intro pins s σ H x y v u Q I rx ry h
 obtain ⟨rfl,q⟩:=h
 cases ry
 refine isnot_none_gen (bE I q ?_)
 cases x <;> first
  | (cases rx;rfl)
  | (obtain ⟨t,rfl⟩:=rx;rfl)
theorem uB {op:CmpOp}{r:R2} (ho:OpR X (compareOp op) r) (ha:PE X a ta) (hb:PE X b tb) (hm:behindInMarks op b=false):PE X (.Compare a [op] [b] pos) (tOp r ta tb):=by
 intro pins s σ H Q I h
 exact wpAny_Compare1 (wJ ha hb I h λv u s2 x y H2 I2 rx ry q=>ho pins s2 σ H2 x y v u Q I2 rx ry q) hm
noncomputable def zj (t:TE):TT:=λσ H Q=>t σ H λx H'=>∃ k,x=.bl k/\Q k H'
theorem oM {op:CmpOp}{r:R2} (ho:OpR X (compareOp op) r) (ha:PE X a ta) (hb:PE X b tb) (hm:behindInMarks op b=false):PT X (.Compare a [op] [b] pos) (zj (tOp r ta tb)):=by
 intro pins s σ H Q I h
 refine wpAny_isTrue_Compare1 (thn (ha pins s σ H _ I h) λv s1 ⟨x,H1,I1,r1,q1⟩=>thn (hb pins s1 σ H1 _ I1 q1) λu s2 ⟨y,H2,I2,r2,q2⟩ =>
  thn (ho pins s2 σ H2 x y v u _ I2 r1 r2 q2) λc s3 ⟨z,H3,I3,r3,k,e,q3⟩=>?_) hm
 subst e
 cases r3
 exact wpAny_truthy_bool ⟨H3,I3,q3⟩
theorem ic:(sizeLine:Nat) < 2 ^ 63:=by rw [sizeLine_eq];decide
theorem nG:OpR X (binaryOp .Add) (λx y H Q=>∃ i j,x=.str i/\y=.str j/\i.length + j.length <= sizeLine/\Q (.str (i ++ j)) H):=by
 intro pins s σ H x y v u Q I rx ry h
 obtain ⟨i,j,rfl,rfl,hz,q⟩:=h
 obtain ⟨t,rfl⟩:=rx
 obtain ⟨t',rfl⟩:=ry
 exact add_str (λt' tk=>⟨.str (i ++ j),H,I.tok _,⟨_,rfl⟩,q⟩) hz
theorem fo {x:V}{us:List Value} (r:am [x] us):∃ u,us=[u]/\ar x u:=by
 cases r with
 | cons r1 r2=>cases r2;exact ⟨_,rfl,r1⟩
theorem q_ {x y:V}{us:List Value} (r:am [x,y] us):∃ u w',us=[u,w']/\ar x u/\ar y w':=by
 cases r with
 | cons r1 r2 =>
  cases r2 with
  | cons r3 r4=>cases r4;exact ⟨_,_,rfl,r1,r3⟩
theorem pZ (hc:X.calm=true):bq X (.builtin "max") (λxs H Q=>∃ i j,xs=[.int i,.int j]/\Q (.int (if j > i then j else i)) H):=by
 intro pins s σ H xs us Q I r h
 obtain ⟨i,j,rfl,q⟩:=h
 obtain ⟨u,w',rfl,⟨t,rfl⟩,⟨t',rfl⟩⟩:=q_ r
 refine max_two_ints (I.ok.hd hc) λh' tk k=>⟨_,H,I.kept k,?_,q⟩
 by_cases hj:j > i
 ·rw [if_pos hj,if_pos hj];exact ⟨_,rfl⟩
 ·rw [if_neg hj,if_neg hj];exact ⟨_,rfl⟩
theorem p5 (hc:X.calm=true):bq X (.builtin "min") (λxs H Q=>∃ i j,xs=[.int i,.int j]/\Q (.int (if j < i then j else i)) H):=by
 intro pins s σ H xs us Q I r h
 obtain ⟨i,j,rfl,q⟩:=h
 obtain ⟨u,w',rfl,⟨t,rfl⟩,⟨t',rfl⟩⟩:=q_ r
 refine min_two_ints (I.ok.hd hc) λh' tk k=>⟨_,H,I.kept k,?_,q⟩
 by_cases hj:j < i
 ·rw [if_pos hj,if_pos hj];exact ⟨_,rfl⟩
 ·rw [if_neg hj,if_neg hj];exact ⟨_,rfl⟩
end
end L2
namespace L2
open PySem PySem.Spec PyProof.Rows
section
variable {prog:Program}{w:World}{A:Around}{E:Value->Shared->Prop}{s:Shared}{K:PySem.W.Frag}{x dx C f:Addr}{mA:Str->Option Value}{name:Str}{v:Value}
end
section
variable {P:Program}{w:World}{H H':Hp}{h h':Heap}{a C dx:Addr}{fs fs':List (Str × V)}
end
section
variable {X:Cx}{pins:List (Addr × Obj)}{σ:St}{H:Hp}{s:Shared}{a C dx:Addr}{fs:List (Str × V)}{f:Str}{v:V}{A:Around}{E:Value->Shared->Prop}
end
section
variable {X:Cx}{o e value:Expr}{f:Str}{pos pos' tpos:Pos}{ta tv:TE}
end
section
variable {X:Cx}{pins:List (Addr × Obj)}{σ:St}{H:Hp}{s:Shared}{A:Around}{E:Value->Shared->Prop}{Q:Value->Shared->Prop}{c:Value}{b:Bool}
end
end L2
namespace L2
open PySem PySem.Spec PyProof.Rows
structure gm (k:Nat) (A:Around):Prop where
 hd:A.handled=none
 dp:A.depth + 3 * k + 5 < recursionLimit
 un:A.units + 16 * k + 200 < cLine
theorem gm.deeper {k:Nat}{A:Around} (r:gm (k + 1) A) (env:Env):gm k (A.deeper env) :=
 ⟨r.hd,by have:=r.dp;show A.depth + 1 + 3 * k + 5 < _;omega,by have:=r.un;show A.units + 3 + 16 * k + 200 < _;omega⟩
theorem gm.depth {k:Nat}{A:Around} (r:gm k A):A.depth < recursionLimit:=by have:=r.dp;omega
noncomputable def p6:TA:=λ_ H Q=>Q [] H
noncomputable def md (ta:TE) (tr:TA):TA:=λσ H Q=>ta σ H λx H1=>tr σ H1 λxs H2=>Q (x::xs) H2
section
variable {X:Cx}{e:Expr}{es:List Expr}{te:TE}{t:TA}{pos:Pos}
theorem a_:PA X [] p6:=λ_ _ _ _ H Q I h=>Calls.spliced_nil ⟨[],H,I,.nil,h⟩
theorem aG (ha:PE X e te) (hr:PA X es t) (hs:starEach (e::es) X.env=(false,eval e X.env)::starEach es X.env:=by rfl):PA X (e::es) (md te t):=by
 intro pos pins s σ H Q I h
 rw [hs]
 show wpAny _ _ (spliced ((false,eval e X.env)::backTo pos (starEach es X.env))) _ _ s
 refine Calls.spliced_cons (thn (ha pins s σ H _ I h) λu s1 ⟨x,H1,I1,r1,q1⟩=>?_)
 exact thn (hr pos pins s1 σ H1 _ I1 q1) λus s2 ⟨xs,H2,I2,r2,q2⟩=>⟨x::xs,H2,I2,.cons r1 r2,q2⟩
noncomputable def Bc (t:TA):TE:=λσ H Q=>t σ H λxs H1=>xs.length <= sizeLine/\∀ p,H1 p=none->Q (.ref p) (upd H1 p (.tup xs))
noncomputable def wS (t:TA):TE:=λσ H Q=>t σ H λxs H1=>xs.length <= sizeLine/\∀ p,H1 p=none->Q (.ref p) (upd H1 p (.lst xs))
theorem wT {x1} (h:PA X es t):PE X (.Tuple es x1 pos) (Bc t):=by
 intro pins s σ H Q I hq
 refine wpAny_Tuple_spliced (thn (h pos pins s σ H _ I hq) λus s1 ⟨xs,H1,I1,r,z,q⟩=>⟨by rw [<- r.length];exact z,?_⟩)
 have hf:H1 s1.heap.objs.size=none:=I1.hok.fresh (Nat.le_refl _)
 refine ⟨.ref s1.heap.objs.size,upd H1 s1.heap.objs.size (.tup xs),I1.laid (t':=s1.toks) (λb u e=>Heap.get?_push_of_some _ e) (Nat.le_refl _) ?_,rfl,q _ hf⟩
 exact ⟨z,us,r,⟨_,Heap.get?_push_size _ rfl,rfl,_,rfl⟩⟩
theorem jd (h:PA X es t):PE X (.List es pos) (wS t):=by
 intro pins s σ H Q I hq
 refine wpAny_List_spliced (thn (h pos pins s σ H _ I hq) λus s1 ⟨xs,H1,I1,r,z,q⟩=>⟨by rw [<- r.length];exact z,?_⟩)
 have hf:H1 s1.heap.objs.size=none:=I1.hok.fresh (Nat.le_refl _)
 refine ⟨.ref s1.heap.objs.size,upd H1 s1.heap.objs.size (.lst xs),I1.laid (t':=s1.toks) (λb u e=>Heap.get?_push_of_some _ e) (Nat.le_refl _) ?_,rfl,q _ hf⟩
 exact ⟨z,us,0,r,Heap.get?_push_size _ rfl⟩
end
noncomputable abbrev Sp:=List V->Hp->VK->XK->Prop
noncomputable abbrev CXT:=List Env->Hp->Shared->XK->Value->Shared->Prop
structure uC (P:Program) (w:World) (K:PySem.W.Frag) (mg:Str->Option Value) (base:Heap) (A:Around) (outer:List Env) (s:Shared) (H:Hp):Prop where
 frames:A.frames=some outer
 mod:Mod K mg base
 bs:∀ b o,base.get? b=some o->s.heap.get? b=some o/\H b=none
 bsz:base.objs.size <= s.heap.objs.size
 funs:s.heap.FunFrames base outer
 frf:∀ b ∈ frs outer,H b=none
 hok:HOk P w H s.heap
 bare:AllBare s.gens
noncomputable def CE (outer:List Env) (P:Program) (w:World) (H:Hp) (s:Shared) (Q:VK) (u:Value) (s':Shared):Prop :=
 ∃ v H',s'.os=s.os/\AllBare s'.gens/\Un (frs outer) [] H H' s.heap s'.heap/\HOk P w H' s'.heap/\ar v u/\Q v H'
noncomputable def CR (CX:CXT) (outer:List Env) (P:Program) (w:World) (H:Hp) (s:Shared) (Q:VK) (E:XK) (r:Result) (s':Shared):Prop :=
 match r with
 | .ok (.ret u)=>CE outer P w H s Q u s'
 | .ok _=>False
 | .error e=>CX outer H s E e s'
structure eT (P:Program) (w:World) (K:PySem.W.Frag) (mg:Str->Option Value) (base:Heap) (CX:CXT) (k:Nat) (f:Addr) (fd:FuncData) (ps:List Str) (sp:Sp):Prop where
 len:∀ vs H Q E,sp vs H Q E->vs.length=ps.length
 run:∀ (A:Around) (outer:List Env) (s:Shared) (H:Hp) (args:Args) (us:List Value) (vs:List V) (Q:VK) (E:XK),gm k A->uC P w K mg base A outer s H->BindsTo s fd args (ps.zip us)->am vs us->sp vs H Q E ->
  codeAny (model P w) A (.call (.ref f) args) (CR CX outer P w H s Q E) s
section
variable {X:Cx}{pins:List (Addr × Obj)}{σ:St}{H:Hp}{s s':Shared}
theorem Inv.env0 (I:Inv X pins σ H s):uC X.prog X.w X.K X.mg X.base X.A X.stack s H :=
 ⟨I.ok.frames,I.ok.mod,I.bs,Nat.le_trans I.ok.bsz I.sz,I.stack,I.stkFree,I.hok,I.bare⟩
theorem Inv.after {Q:VK}{u:Value} (I:Inv X pins σ H s) (h:CE X.stack X.prog X.w H s Q u s'):EP X pins σ Q u s':=by
 obtain ⟨v,H',os,bare,un,hok,r,q⟩:=h
 obtain ⟨hh,g,d,t,os'⟩:=s'
 obtain rfl:os'=s.os:=os
 exact ⟨v,H',I.call (h':=hh) (g':=g) (d':=d) (t':=t) (ch:=[]) un hok bare (λb z=>absurd z (by simp)),r,q⟩
end
noncomputable def ra (sp:Sp) (dvs:List V) (E:XK) (t:TA):TE:=λσ H Q=>t σ H λvs H1=>sp (vs ++ dvs) H1 Q E
noncomputable def cU (K:PySem.W.Frag) (fd:FuncData) (ps:List Str) (ds:List Value):Prop :=
 ∀ (s:Shared) (us:List Value),K.In s.heap->(us ++ ds).length=ps.length->BindsTo s fd ⟨us,[]⟩ (ps.zip (us ++ ds))
theorem cU.all {K:PySem.W.Frag}{fd:FuncData}{ps:List Str} (h:∀ us:List Value,us.length=ps.length->bindArgs fd ⟨us,[]⟩=pure (ps.zip us)):cU K fd ps []:=λs us _ hl=>by
 rw [List.append_nil] at hl ⊢
 exact .of_eq (h us hl)
noncomputable def ly (CX:CXT) (X:Cx) (E:XK):Prop:=∀ (pins:List (Addr × Obj)) (σ:St) (H:Hp) (s:Shared) (e:Value) (s':Shared),Inv X pins σ H s->CX X.stack H s E e s'->X.xe e s'
section
variable {X:Cx}{CX:CXT}{k:Nat}{f C:Addr}{fd:FuncData}{ps:List Str}{sp:Sp}{dvs:List V}{ds:List Value}{E:XK}{x m:Str}{p pos apos:Pos}{e o:Expr}{es:List Expr}{ta:TE}{t:TA}
theorem rb {pins:List (Addr × Obj)}{σ:St}{H:Hp}{s:Shared}{Q:VK}{us:List Value}{vs:List V} (F:eT X.prog X.w X.K X.mg X.base CX k f fd ps sp) (hr:gm k X.A) (hb:cU X.K fd ps ds) (hd:am dvs ds) (hx:ly CX X E)
  (I:Inv X pins σ H s) (r:am vs us) (h:sp (vs ++ dvs) H Q E):wpAny (model X.prog X.w) X.A (call (.ref f) us) (EP X pins σ Q) X.xe s:=by
 have r2:am (vs ++ dvs) (us ++ ds):=r.append hd
 have hl:(us ++ ds).length=ps.length:=by rw [<- r2.length];exact F.len _ _ _ _ h
 refine wpAny_call (codeAny_mono (F.run X.A X.stack s H ⟨us,[]⟩ (us ++ ds) (vs ++ dvs) Q E hr I.env0 (hb s us I.kIn hl) r2 h) λr s' hq=>?_)
 cases r with
 | error e=>exact hx pins σ H s e s' I hq
 | ok fl =>
  cases fl with
  | ret u=>exact I.after hq
  | next=>exact False.elim hq
  | brk=>exact False.elim hq
  | cont=>exact False.elim hq
theorem oN (F:eT X.prog X.w X.K X.mg X.base CX k f fd ps sp) (hr:gm k X.A) (hg:Gl X x) (hm:X.mg x=some (.ref f)) (hk:PySem.W.keepIn X.K (.ref f)=true) (hb:cU X.K fd ps ds) (hd:am dvs ds) (hx:ly CX X E)
  (ha:PA X (e::es) t) (hdb:(x == ("__debug__":Str))=false:=by decide) (he:starEach (e::es) X.env=(false,eval e X.env)::starEach es X.env:=by rfl) (hpl:(backTo pos (starEach es X.env)).any (·.1)=false:=by rfl) :
  PE X (.Call (.Name x p) (e::es) [] pos) (ra sp dvs E t):=by
 intro pins s σ H Q I h
 refine wpAny_Call_Name_kw (fR I hg hm ?_ hdb)
 refine PySem.W.callWith_K (h₀:=X.base) I.ok.mod.kin hk (thn (ha pos pins s σ H _ I h) λus s1 ⟨vs,H1,I1,r,q⟩=>⟨I1.kIn,?_⟩) he hpl
 exact rb F hr hb hd hx I1 r q
theorem re (F:eT X.prog X.w X.K X.mg X.base CX k f fd ps sp) (hr:gm k X.A) (hg:Gl X x) (hm:X.mg x=some (.ref f)) (hk:PySem.W.keepIn X.K (.ref f)=true) (hb:cU X.K fd ps ds) (hd:am dvs ds) (hx:ly CX X E)
  (hdb:(x == ("__debug__":Str))=false:=by decide):PE X (.Call (.Name x p) [] [] pos) (ra sp dvs E p6):=by
 intro pins s σ H Q I h
 refine wpAny_Call_Name_kw (fR I hg hm ?_ hdb)
 exact PySem.W.callWith_K0 I.kIn hk (rb (us:=[]) F hr hb hd hx I .nil h)
end
section
variable {X:Cx}{CX:CXT}{k:Nat}{f C:Addr}{fd:FuncData}{ps ks:List Str}{sp:Sp}{E:XK}{x m:Str}{p pos apos kpos:Pos}{e o:Expr}{es:List Expr}{kws:List Keyword}{te ta:TE}{t tk:TA}{nm:Option Str}
variable {g:List Value->List Value->List Value}{gV:List V->List V->List V}
end
structure lz (N P:List Str) (sc:Scope):Prop where
 kind:sc.kind=.function
 co:sc.isCoroutine=false
 gen:sc.isGenerator=false
 nd:N.Nodup
 pre:N.take P.length=P
 par:∀ x ∈ P,sc.names.lookup x=some .local \/ sc.names.lookup x=some .cell
 nofree:∀ y ∈ sc.names,y.2 ≠ .free
theorem kF {kindOf:Str->Option NameKind}{x:Str}:∀ {binds:List (Str × Value)}{m:Str->Option Value},(∀ v,(x,v) ∉ binds)->bindL kindOf binds m x=m x
 | [],_,_=>rfl
 | (n,v)::r,m,h=>by
  unfold bindL
  rw [kF λw hw=>h w (List.mem_cons_of_mem _ hw)]
  split
  ·have:x ≠ n:=by rintro rfl;exact h v List.mem_cons_self
   simp [this]
  ·rfl
theorem kG {kindOf:Str->Option NameKind}{x:Str}:∀ {binds:List (Str × Value)}{m:Str->Option Value},(∀ v,(x,v) ∉ binds)->bindC kindOf binds m x=m x
 | [],_,_=>rfl
 | (n,v)::r,m,h=>by
  unfold bindC
  rw [kG λw hw=>h w (List.mem_cons_of_mem _ hw)]
  split
  ·rfl
  ·have:x ≠ n:=by rintro rfl;exact h v List.mem_cons_self
   simp [this]
theorem kH {kindOf:Str->Option NameKind}{x:Str}{v:Value}:∀ {P:List Str}{vs:List Value}{i:Nat}{m:Str->Option Value},P.Nodup->P[i]?=some x->vs[i]?=some v->kindOf x=some .local ->
  bindL kindOf (P.zip vs) m x=some v
 | [],_,_,_,_,h,_,_=>by simp at h
 | _::_,[],_,_,_,_,h,_=>by simp at h
 | p::P,w::vs,0,m,nd,h1,h2,hk=>by
  simp at h1 h2;subst h1;subst h2
  show bindL kindOf ((p,w)::P.zip vs) m p=_
  unfold bindL
  rw [kF λv hv=>(List.nodup_cons.mp nd).1 (List.of_mem_zip hv).1,if_pos hk]
  simp
 | p::P,w::vs,i + 1,m,nd,h1,h2,hk=>by
  show bindL kindOf ((p,w)::P.zip vs) m x=_
  unfold bindL
  exact kH (i:=i) (List.nodup_cons.mp nd).2 (by simpa using h1) (by simpa using h2) hk
theorem kI {kindOf:Str->Option NameKind}{x:Str}{v:Value}:∀ {P:List Str}{vs:List Value}{i:Nat}{m:Str->Option Value},P.Nodup->P[i]?=some x->vs[i]?=some v->kindOf x ≠ some .local ->
  bindC kindOf (P.zip vs) m x=some v
 | [],_,_,_,_,h,_,_=>by simp at h
 | _::_,[],_,_,_,_,h,_=>by simp at h
 | p::P,w::vs,0,m,nd,h1,h2,hk=>by
  simp at h1 h2;subst h1;subst h2
  show bindC kindOf ((p,w)::P.zip vs) m p=_
  unfold bindC
  rw [kG λv hv=>(List.nodup_cons.mp nd).1 (List.of_mem_zip hv).1,if_neg hk]
  simp
 | p::P,w::vs,i + 1,m,nd,h1,h2,hk=>by
  show bindC kindOf ((p,w)::P.zip vs) m x=_
  unfold bindC
  exact kI (i:=i) (List.nodup_cons.mp nd).2 (by simpa using h1) (by simpa using h2) hk
noncomputable def fq (N:List Str) (vs:List V):St:=vs.map some ++ List.replicate (N.length - vs.length) none
noncomputable def ki (CX:CXT) (P:Program) (w:World) (K:PySem.W.Frag) (mg:Str->Option Value) (base:Heap) (N:List Str) (qual:Str) (scope:Scope) (f:Addr) (cd:Value) (A:Around) (outer:List Env) (s:Shared) (H:Hp) (E:XK):Cx where
 prog:=P
 w:=w
 K:=K
 mg:=mg
 base:=base
 A:=A.deeper (envOfC qual scope s.heap.objs.size f cd)
 N:=N
 s₀:=s
 H₀:=H
 env:=envOfC qual scope s.heap.objs.size f cd
 outer:=outer
 stack:=envOfC qual scope s.heap.objs.size f cd::outer
 ex:=[]
 calm:=true
 fn:=λ_=>true
 pn:=[]
 xe:=λe s'=>wpAny (model P w) (A.deeper (envOfC qual scope s.heap.objs.size f cd)) (leaving (envOfC qual scope s.heap.objs.size f cd) e) (λ_ s''=>CX outer H s E e s'') (λe' s''=>CX outer H s E e' s'') s'
theorem mf {sc:Scope}{n:Nat}{x:Str} (h:sc.names.lookup x=some .cell):∃ c,(cellsFrom n sc.names []).lookup x=some c:=by
 have q:=PySem.W.cellsFrom_some sc.names n [] (.inl h)
 exact Option.isSome_iff_exists.mp q
theorem p7 {CX:CXT}{P:Program}{w:World}{K:PySem.W.Frag}{mg:Str->Option Value}{base:Heap}{N ps:List Str}{qual:Str}{scope:Scope}{f:Addr}{cd:Value}{A:Around}{outer:List Env}{s s1:Shared}{H:Hp}{E:XK}{us:List Value}{vs:List V}
  (S:lz N ps scope) (hd:A.handled=none) (e0:uC P w K mg base A outer s H) (hl:vs.length=ps.length) (r:am vs us)
  (x:InCallC s s.heap.objs.size (bindL (envOfC qual scope s.heap.objs.size f cd).kindOf (ps.zip us) λ_=>none) (cellsFrom (s.heap.objs.size + 1) scope.names []) (bindC (envOfC qual scope s.heap.objs.size f cd).kindOf (ps.zip us) λ_=>none) s1) :
  Inv (ki CX P w K mg base N qual scope f cd A outer s H E) [] (fq N vs) H s1:=by
 have hpl:ps.length <= N.length:=by have:=congrArg List.length S.pre;rw [List.length_take] at this;omega
 obtain ⟨h1,tk,rfl,hk⟩:=x.done
 have noA:∀ b:Addr,b ∉ (ki CX P w K mg base N qual scope f cd A outer s H E).ex:=λb z=>absurd (show b ∈ ([]:List Addr) from z) (by simp)
 refine ⟨⟨e0.mod,S.kind,rfl,rfl,Nat.le_refl _,λy z c h1 h2=>?_,λy hy=>?_,λy c _ h=>?_,λ_=>hd,Around.frames_deeper e0.frames,.inr ⟨rfl,rfl⟩,λb z=>absurd z (noA b),e0.bs,e0.bsz,λb _ _=>noA b,λb z=>absurd z (noA b),e0.funs,e0.frf⟩,
  rfl,e0.bare,Un.kept hk,⟨_,x.toInCall.ns,λi y v h1 h2 h3=>?_⟩,λy c h=>⟨_,x.cell y c h⟩,e0.hok.fresh (Nat.le_refl _),λy c h=>?_,λp hp=>absurd (show p ∈ ([]:List (Addr × Obj)) from hp) (by simp),e0.hok.kept hk,?_⟩
 ·exact name_of_addr x.apart (PySem.mem_of_lookup h1) (PySem.mem_of_lookup h2)
 ·have hy:scope.names.lookup y=some .cell \/ scope.names.lookup y=some .free:=hy
  rcases hy with hy|hy
  ·exact mf hy
  ·exact absurd rfl (S.nofree _ (PySem.mem_of_lookup hy))
 ·exact Nat.le_of_lt (x.above y c (PySem.mem_of_lookup h))
 ·have hi:i < vs.length:=by
   unfold fq at h2
   by_cases hi:i < vs.length
   ·exact hi
   ·rw [List.getElem?_append_right (by simpa using hi)] at h2
    rw [List.getElem?_replicate] at h2
    split at h2 <;> cases h2
  have ha:vs[i]?=some v:=by
   unfold fq at h2
   rw [List.getElem?_append_left (by simpa using hi),List.getElem?_map] at h2
   cases e:vs[i]? with
   | none=>rw [e] at h2;cases h2
   | some a=>rw [e] at h2;cases h2;rfl
  obtain ⟨u,hu,rv⟩:=r.get ha
  have hp:ps[i]?=some y:=by
   rw [<- S.pre,List.getElem?_take_of_lt (by omega)];exact h1
  have ndP:ps.Nodup:=by rw [<- S.pre];exact S.nd.sublist (List.take_sublist _ _)
  refine ⟨u,rv,?_⟩
  rcases S.par y (List.mem_of_getElem? hp) with k|k
  ·exact .inl ⟨k,kH ndP hp hu k⟩
  ·obtain ⟨c,e⟩:=mf (n:=s.heap.objs.size + 1) k
   refine .inr ⟨.inl k,c,e,?_⟩
   have q:=x.cell y c e
   rw [kI ndP hp hu (by show scope.names.lookup y ≠ _;rw [k];decide)] at q
   exact q
 ·exact e0.hok.fresh (Nat.le_of_lt (x.above y c (PySem.mem_of_lookup h)))
 ·unfold fq
  show _=N.length
  rw [List.length_append,List.length_map,List.length_replicate]
  omega
theorem oO {CX:CXT}{P:Program}{w:World}{K:PySem.W.Frag}{mg:Str->Option Value}{base:Heap}{k:Nat}{f:Addr}{name qual:Str}{params:Arguments}{body:List Stmt}{scope:Scope}{dV kV doc pm cdv ct oc:Value}{an od:Option Addr}
  {osl:Array (Option Value)}{N ps:List Str}{sp:Sp} (lk:K.lookup f=some ⟨oc,od,.func (PySem.W.fnOf name qual params body scope dV kV doc pm an cdv ct),osl⟩) (hcd:PySem.W.codeIn K cdv qual=true) (S:lz N ps scope)
  (len:∀ vs H Q E,sp vs H Q E->vs.length=ps.length)
  (hbody:∀ (A:Around) (outer:List Env) (s:Shared) (H:Hp) (vs:List V) (Q:VK) (E:XK),gm k (A.deeper (envOfC qual scope s.heap.objs.size f cdv))->sp vs H Q E ->
   ∃ t,PSs (ki CX P w K mg base N qual scope f cdv A outer s H E) body t/\t { nx:=λ_ H'=>Q .non H',rt:=Q } (fq N vs) H) :
  eT P w K mg base CX (k + 1) f (PySem.W.fnOf name qual params body scope dV kV doc pm an cdv ct) ps sp:=by
 refine ⟨len,λA outer s H args us vs Q E hr e0 hb r hsp=>?_⟩
 have hl:=len _ _ _ _ hsp
 have KX:K.In s.heap:=e0.mod.kin.keeps λb o e=>(e0.bs b o e).1
 have lim:s.heap.NoLimit:=e0.mod.nolimit.keeps λb o e=>(e0.bs b o e).1
 have hkind:∀ y ∈ ps.zip us,scope.names.lookup y.1=some .local \/ (scope.names.lookup y.1=some .cell/\((cellsFrom (s.heap.objs.size + 1) scope.names []).lookup y.1).isSome=true):=λ⟨n,v⟩ hy=>by
  rcases S.par n (List.of_mem_zip hy).1 with q|q
  ·exact .inl q
  ·exact .inr ⟨q,PySem.W.cellsFrom_some _ _ _ (.inl q)⟩
 refine codeAny_call_function hr.depth (KX _ _ lk) rfl S.co S.gen rfl (PySem.W.codeRec_of KX hcd) (hb _ _ _ _ ?_)
 refine wpAny_newFunctionEnv_cells S.kind hkind λenv he s1 x=>?_
 subst he
 refine ⟨lim.keeps x.toInCall.keep,codeAny_func ?_⟩
 obtain ⟨t,ht,hq⟩:=hbody A outer s H vs Q E (hr.deeper _) hsp
 have I:Inv (ki CX P w K mg base N qual scope f cdv A outer s H E) [] (fq N vs) H s1:=p7 S hr.hd e0 hl r x
 refine wpAny_mono (ht [] s1 (fq N vs) H _ I hq) (λfl s' hs=>?_) λe s' hs=>hs
 have fin:∀ {σ':St}{H':Hp}{v:V}{u:Value},Inv (ki CX P w K mg base N qual scope f cdv A outer s H E) [] σ' H' s'->ar v u->Q v H'->CE outer P w H s Q u s' :=
  λ{σ' H' v u} J rv q=>⟨v,H',J.os,J.bare,J.base,J.hok,rv,q⟩
 cases fl with
 | ret u =>
  obtain ⟨v,σ',H',J,rv,q⟩:=hs
  exact fin J rv q
 | next =>
  obtain ⟨σ',H',J,q⟩:=hs
  exact fin (v:=V.non) (u:=Value.none) J rfl q
 | brk =>
  obtain ⟨_,_,_,q⟩:=hs
  exact False.elim q
 | cont =>
  obtain ⟨_,_,_,q⟩:=hs
  exact False.elim q
end L2
namespace L2
open PySem PySem.Spec PyProof.Rows
section
variable {X:Cx}{x:Str}{p pos:Pos}{e:Expr}{es:List Expr}{t:TA}{id T:String}{r:List V->Hp->VK->Prop}
noncomputable def tCB (r:List V->Hp->VK->Prop) (t:TA):TE:=λσ H Q=>t σ H λvs H1=>r vs H1 Q
theorem cw (hc:bq X (.builtin id) r) (hg:Gl X x) (hm:X.mg x=none) (hv:bootBuiltins x=some (.builtin id)) (ha:PA X (e::es) t) (hn:x ≠ "__name__":=by decide) (hdb:(x == ("__debug__":Str))=false:=by decide)
  (he:starEach (e::es) X.env=(false,eval e X.env)::starEach es X.env:=by rfl) (hpl:(backTo pos (starEach es X.env)).any (·.1)=false:=by rfl):PE X (.Call (.Name x p) (e::es) [] pos) (tCB r t):=by
 intro pins s σ H Q I h
 refine wpAny_Call_Name_kw (hZ I hg hm hv ?_ hn hdb)
 exact PyProof.Rows.callWith_builtin1 (thn (ha pos pins s σ H _ I h) λus s1 ⟨vs,H1,I1,r1,q1⟩=>hc pins s1 σ H1 vs us Q I1 r1 q1) he hpl
theorem eI (hc:bq X (.type T) r) (hg:Gl X x) (hm:X.mg x=none) (hv:bootBuiltins x=some (.type T)) (ha:PA X (e::es) t) (hn:x ≠ "__name__":=by decide) (hdb:(x == ("__debug__":Str))=false:=by decide)
  (he:starEach (e::es) X.env=(false,eval e X.env)::starEach es X.env:=by rfl) (hpl:(backTo pos (starEach es X.env)).any (·.1)=false:=by rfl):PE X (.Call (.Name x p) (e::es) [] pos) (tCB r t):=by
 intro pins s σ H Q I h
 refine wpAny_Call_Name_kw (hZ I hg hm hv ?_ hn hdb)
 exact PyProof.Rows.callWith_type1 (thn (ha pos pins s σ H _ I h) λus s1 ⟨vs,H1,I1,r1,q1⟩=>hc pins s1 σ H1 vs us Q I1 r1 q1) he hpl
end
end L2
namespace HT
open PySem PyProof.Rows
noncomputable def lexLt:List Int->List Int->Bool
 | [],[]=>false
 | [],_::_=>true
 | _::_,[]=>false
 | x::xs,y::ys=>if x=y then lexLt xs ys else decide (x < y)
theorem lexLt_cons (x y:Int) (xs ys:List Int):lexLt (x::xs) (y::ys)=if x=y then lexLt xs ys else decide (x < y):=rfl
theorem kj:lexLt [] []=false:=rfl
theorem je (y:Int) (ys:List Int):lexLt [] (y::ys)=true:=rfl
theorem jf (x:Int) (xs:List Int):lexLt (x::xs) []=false:=rfl
theorem rf (A:Around) (s:Shared) (a:Int) (t:Tok) (c:Int) (u:Tok):∃ e,SeqAt.EqAt A s (.int a t) (.int c u) e/\(e=true ↔ a=c) :=
 ⟨(a == c),SeqAt.EqAt.int_int a t c u,by simp⟩
theorem rg (A:Around) (s:Shared) (a:Int) (t:Tok) (c:Int) (u:Tok) (prog:Program) (w:World) (E:Value->Shared->Prop) (Q:Value->Shared->Prop) (h:Q (.bool (decide (a < c))) s) :
  wpAny (model prog w) A (richCompare .Lt (.int a t) (.int c u)) Q E s :=
 (PyProof.Rows.lt_int h:wpAny (model prog w) A (compareOp .Lt (.int a t) (.int c u)) Q E s)
section
open PySem.SeqAt
open PySem.AutoSeq1 (wpAny_loadPart')
open PySem.MeetsSeq PySem.MeetsSeq2 PySem.MeetsSeq3
theorem tuple_lt_ints (l b:Addr) (items items2:Array Value) (n n2:Nat) (dd dd2:Option Addr) (sl sl2:Array (Option Value)) (ns ms:List Int) (hi:IntsAre items.toList ns) (hj:IntsAre items2.toList ms) :
  Meets (Builtin.«tuple.__lt__» ⟨[.ref l,.ref b],[]⟩)
   (λ_ R s=>s.heap.get? l=some { cls:=.type "tuple",dict:=dd,data:=.seq items n,slots:=sl }/\s.heap.get? b=some { cls:=.type "tuple",dict:=dd2,data:=.seq items2 n2,slots:=sl2 } /\
    R (.ok (.ret (.bool (lexLt ns ms)))) s) :=
 .of_wp λprog w A R s h=>by
  obtain ⟨hp,g,d,tk,os⟩:=s;obtain ⟨hl,hb,h⟩:=h
  have f2:=AutoSeq1.sub_tuple_tuple
  have z1:items.size=ns.length:=by rw [<- hi.length];simp
  have z2:items2.size=ms.length:=by rw [<- hj.length];simp
  wp_walk using wpAny_loadPart' hl,wpAny_loadPart' hb,wpAny_forIn_list _ (λbR b s'=>b.1=none/\s'=⟨hp,g,d,tk,os⟩/\∃ (vs ws:List Value) (ns' ms':List Int),bR=vs.zip ws /\
   IntsAre vs ns'/\IntsAre ws ms'/\ns'.length + items2.size=ms'.length + items.size/\R (.ok (.ret (.bool (lexLt ns' ms')))) ⟨hp,g,d,tk,os⟩) _
  case turn =>
   rintro ⟨y,x⟩ bR b s' ⟨hb',rfl,vs,ws,ns',ms',hz,hvi,hwi,hlen,hR⟩
   cases hvi with
   | nil=>rw [List.zip_nil_left] at hz;cases hz
   | cons a t hvi' =>
    cases hwi with
    | nil=>rw [List.zip_nil_right] at hz;cases hz
    | cons c u hwi' =>
     rw [List.zip_cons_cons] at hz
     injection hz with hyx hrest
     injection hyx with hy hx
     subst hy hx
     rw [lexLt_cons] at hR
     simp only [List.length_cons] at hlen
     obtain ⟨e,he,hiff⟩:=rf A.in1 ⟨hp,g,d,tk,os⟩ a t c u
     refine wpAny_bind (he prog w _ _ ?_)
     cases e with
     | true =>
      rw [if_pos (hiff.mp rfl)] at hR
      wp_walk
      exact ⟨rfl,rfl,_,_,_,_,hrest,hvi',hwi',by omega,hR⟩
     | false =>
      rw [if_neg (λq=>absurd (hiff.mpr q) Bool.false_ne_true)] at hR
      have hri:=rg A.in1 ⟨hp,g,d,tk,os⟩ a t c u prog w
      wp_walk using hri
      exact ⟨_,rfl,by simpa using hR⟩
  case fin =>
   rintro ⟨b1,b2⟩ s' ⟨hb',rfl,vs,ws,ns',ms',hz,hvi,hwi,hlen,hR⟩
   simp only at hb'
   subst hb'
   have hv:lexLt ns' ms'=decide (items.size < items2.size):=by
    cases hvi with
    | nil =>
     cases hwi with
     | nil =>
      simp only [List.length_nil] at hlen
      rw [kj]
      exact (decide_eq_false (by omega)).symm
     | cons c u hw =>
      simp only [List.length_nil,List.length_cons] at hlen
      rw [je]
      exact (decide_eq_true (by omega)).symm
    | cons a t hv =>
     cases hwi with
     | nil =>
      simp only [List.length_nil,List.length_cons] at hlen
      rw [jf]
      exact (decide_eq_false (by omega)).symm
     | cons c u hw =>
      rw [List.zip_cons_cons] at hz
      cases hz
   rw [hv] at hR
   wp_walk
   exact ⟨_,rfl,by simpa [Builtin.Tuple.tupleCompareSizes] using hR⟩
  case h =>
   exact ⟨rfl,rfl,items.toList,items2.toList,ns,ms,rfl,hi,hj,by omega,h⟩
end
section
variable {prog:Program}{w:World}{A:Around}{E:Value->Shared->Prop}{s:Shared}
theorem lt_tupInts {l b:Addr}{items items2:Array Value}{ns ms:List Int}{Q:Value->Shared->Prop} (hl:IsTup s.heap l items) (hb:IsTup s.heap b items2) (hi:IntsAre items.toList ns) (hj:IntsAre items2.toList ms)
  (hu:A.units < cLine) (h:Q (.bool (lexLt ns ms)) s):wpAny (model prog w) A (compareOp .Lt (.ref l) (.ref b)) Q E s:=by
 obtain ⟨⟨cls,dd,data,sl⟩,ho,hc,n,hd⟩:=id hl
 obtain ⟨⟨cls2,dd2,data2,sl2⟩,ho2,hc2,n2,hd2⟩:=id hb
 simp only at hc hd hc2 hd2
 subst hc hd hc2 hd2
 exact richCompare_meets_room (op:=.Lt) ⟨_,ho,rfl⟩ ⟨_,ho2,rfl⟩ PySem.F.slot_tuple_lt PySem.F.entry_tuple_lt (PySem.F.args_tuple_lt_2 _ _) (tuple_lt_ints l b items items2 n n2 dd dd2 sl sl2 ns ms hi hj)
  ⟨ho,ho2,show Value.bool (lexLt ns ms) ≠ Value.notImplemented/\Q (.bool (lexLt ns ms)) s from ⟨(λx=>nomatch x),h⟩⟩ hu
theorem cat_tup {t b:Addr}{vs ws:List Value}{Q:Value->Shared->Prop} (ht:IsTup s.heap t vs.toArray) (hb:IsTup s.heap b ws.toArray) (hv:vs ≠ [])
  (h1:ws=[]->Q (.ref t) s) (h2:ws ≠ []->Q (.ref s.heap.objs.size) { s with heap:=s.heap.push { cls:=.type "tuple",data:=.seq (vs ++ ws).toArray } })
  (hsz:vs.length + ws.length <= sizeLine):wpAny (model prog w) A (binaryOp .Add (.ref t) (.ref b)) Q E s:=by
 obtain ⟨⟨cls,dd,data,sl⟩,ho,hc,n,hd⟩:=id ht
 obtain ⟨⟨cls2,dd2,data2,sl2⟩,ho2,hc2,n2,hd2⟩:=id hb
 simp only at hc hd hc2 hd2
 subst hc hd hc2 hd2
 have e:vs.toArray ++ ws.toArray=(vs ++ ws).toArray:=by simp
 by_cases hw:ws=[]
 ·exact concat_meets ⟨_,ho,rfl⟩ ⟨_,ho2,rfl⟩ noFill_tuple_add seq_tuple_add PySem.F.slot_tuple_add PySem.F.entry_tuple_add (PySem.F.args_tuple_add_2 _ _)
   (tuple_addW1 t b vs.toArray ws.toArray n n2 dd dd2 sl sl2 (by simpa using hv) (by simp [hw])) ⟨ho,ho2,h1 hw⟩
 ·refine concat_meets ⟨_,ho,rfl⟩ ⟨_,ho2,rfl⟩ noFill_tuple_add seq_tuple_add PySem.F.slot_tuple_add PySem.F.entry_tuple_add (PySem.F.args_tuple_add_2 _ _)
   (tuple_addW2 t b vs.toArray ws.toArray n n2 dd dd2 sl sl2 (by simpa using hv) (by simpa using hw) (by rw [List.size_toArray,List.size_toArray];exact hsz)) ⟨ho,ho2,?_⟩
  rw [e]
  exact h2 hw
noncomputable def sIx (n d:Nat):Option Int->Nat
 | none=>d
 | some v=>if v < 0 then (v + (n:Int)).toNat else min v.toNat n
theorem wU (n d:Nat) (hd:d <= n) (o:Option Int):sIx n d o <= n:=by
 cases o with
 | none=>exact hd
 | some v =>
  show (if v < 0 then (v + (n:Int)).toNat else min v.toNat n) <= n
  by_cases hv:v < 0
  ·rw [if_pos hv];omega
  ·rw [if_neg hv];exact Nat.min_le_right _ _
theorem oP (v:Int) (n d:Nat):(if v < 0 then max (v + (n:Int)) 0 else min v (n:Int))=((sIx n d (some v):Nat):Int):=by
 show (if v < 0 then max (v + (n:Int)) 0 else min v (n:Int))=(((if v < 0 then (v + (n:Int)).toNat else min v.toNat n):Nat):Int)
 by_cases hv:v < 0
 ·simp only [if_pos hv];omega
 ·simp only [if_neg hv];omega
theorem nH (lo hi:Option Int) (n:Nat):Builtin.Slice.sliceAdjust lo hi 1 (n:Int)=(((sIx n 0 lo:Nat):Int),((sIx n n hi:Nat):Int)):=by
 have h1:¬ ((1:Int) < 0):=by omega
 unfold Builtin.Slice.sliceAdjust
 simp only [h1,if_false]
 refine Prod.ext ?_ ?_
 ·cases lo with
  | none=>rfl
  | some v=>exact oP v n 0
 ·cases hi with
  | none=>rfl
  | some v=>exact oP v n n
theorem nI (i j:Nat):Builtin.Slice.slicePlaces (i:Int) (j:Int) 1=j - i:=by
 unfold Builtin.Slice.slicePlaces
 have h1:(1:Int) > 0:=by omega
 simp only [h1,if_true,Int.ediv_one]
 split <;> omega
theorem jg {v:Value}{o:Option Int}{Q:Option Int->Shared->Prop} (p:IsPart v o) (h:Q o s):wpAny (model prog w) A (Builtin.Slice.slicePartIndex v) Q E s:=by
 cases p with
 | none=>exact slicePart_none h
 | int i t=>exact slicePart_int h
theorem eJ {sl:Addr}{vl vu:Value}{lo hi:Option Int}{n:Nat}{Q:Int × Int × Nat->Shared->Prop} (hs:s.heap.IsSliceOf sl vl vu .none) (pl:IsPart vl lo) (pu:IsPart vu hi)
  (h:Q (((sIx n 0 lo:Nat):Int),1,sIx n n hi - sIx n 0 lo) s):wpAny (model prog w) A (Builtin.Slice.sliceApplied (.ref sl) (pure (n:Int))) Q E s:=by
 obtain ⟨os,hos,hcs,hds⟩:=id hs
 unfold Builtin.Slice.sliceApplied Builtin.Slice.sliceFields
 refine wpAny_bind (wpAny_bind (wpAny_field hos hds (x:=vl) rfl (wpAny_bind (wpAny_field hos hds (x:=vu) rfl (wpAny_bind (wpAny_field hos hds (x:=.none) rfl (wpAny_pure ?_)))))))
 refine wpAny_bind (slicePart_none ?_)
 show wpAny _ _ (if ((1:Int) == 0)=true then _ else _) _ _ s
 rw [if_neg (by decide)]
 refine wpAny_bind (jg pl (wpAny_bind (jg pu (wpAny_bind (wpAny_pure ?_)))))
 show wpAny _ _ (match Builtin.Slice.sliceAdjust lo hi 1 (n:Int) with|(lo,hi)=>pure (lo,(1:Int),Builtin.Slice.slicePlaces lo hi 1)) _ _ s
 rw [nH lo hi n]
 show wpAny _ _ (pure (((sIx n 0 lo:Nat):Int),(1:Int),Builtin.Slice.slicePlaces ((sIx n 0 lo:Nat):Int) ((sIx n n hi:Nat):Int) 1)) _ _ s
 rw [nI]
 exact wpAny_pure h
theorem rh (xs:Array Value) (i k:Nat):((List.range k).filterMap λ(m:Nat)=>xs[((i:Int) + (m:Int) * 1).toNat]?).toArray=((xs.toList.drop i).take k).toArray:=by
 have e:(λ(m:Nat)=>xs[((i:Int) + (m:Int) * 1).toNat]?)=λm=>xs[i + m]?:=by
  funext m
  have:((i:Int) + (m:Int) * 1).toNat=i + m:=by omega
  rw [this]
 rw [e]
 have:=pick_run xs i k
 rw [List.filterMap_map] at this
 have e2:((λx=>xs[x]?) ∘ λx=>i + x)=λm=>xs[i + m]?:=rfl
 rw [e2] at this
 rw [this]
theorem getItem_tuple_cut {t sl:Addr}{items:Array Value}{vl vu:Value}{lo hi:Option Int}{Q:Value->Shared->Prop} (ht:IsTup s.heap t items) (hs:s.heap.IsSliceOf sl vl vu .none) (pl:IsPart vl lo) (pu:IsPart vu hi)
  (hw:¬ (sIx items.size 0 lo=0/\sIx items.size items.size hi=items.size))
  (h:Q (.ref s.heap.objs.size) { s with heap:=s.heap.push { cls:=.type "tuple",data:=.seq ((items.toList.drop (sIx items.size 0 lo)).take (sIx items.size items.size hi - sIx items.size 0 lo)).toArray } })
  (hsz:items.size <= sizeLine):wpAny (model prog w) A (getItem (.ref t) (.ref sl)) Q E s:=by
 have htake:sizeOk (.seq ((items.toList.drop (sIx items.size 0 lo)).take (sIx items.size items.size hi - sIx items.size 0 lo)).toArray):=by
  show ((items.toList.drop (sIx items.size 0 lo)).take (sIx items.size items.size hi - sIx items.size 0 lo)).toArray.size <= sizeLine
  rw [List.size_toArray,List.length_take,List.length_drop,Array.length_toList]
  omega
 have hj:sIx items.size items.size hi <= items.size:=wU _ _ (Nat.le_refl _) hi
 obtain ⟨os,hos,hcs,hds⟩:=id hs
 have hTs:s.TypeIs (.ref sl) "slice":=⟨os,hos,hcs⟩
 unfold getItem
 try with_reducible refine wpAny_holding ?_
 first|refine wpAny_bind (wpAny_pure ?_)|skip
 refine wpAny_bind (wpAny_sequenceKey ht.typeIs (by decide) ?_)
 refine wpAny_bind (wpAny_callSpecial?_slot (name:=Str.ofString "__getitem__") ht.typeIs PyProof.Rows.slot_tuple_getitem
  (wpAny_call_entry PyProof.Rows.slot_tuple_getitem ht.typeIs entry_tuple_getitem ?_ (args_tuple_getitem _ _)))
 show wpAny _ _ (Builtin.Tuple.tupleItemsOf (.ref t) >>= _) _ _ s
 refine wpAny_bind (tupleItemsOf_ ht ?_)
 refine wpAny_bind (wpAny_typeOf hTs ?_)
 rw [if_pos (by decide)]
 refine wpAny_bind (eJ hs pl pu ?_)
 have hno:¬ ((((sIx items.size 0 lo:Nat):Int) == 0&&(1:Int) == 1&&(sIx items.size items.size hi - sIx items.size 0 lo) == items.size)=true):=by
  intro q
  rw [Bool.and_eq_true,Bool.and_eq_true] at q
  have q1:((sIx items.size 0 lo:Nat):Int)=0:=eq_of_beq q.1.1
  have q2:sIx items.size items.size hi - sIx items.size 0 lo=items.size:=eq_of_beq q.2
  exact hw ⟨by omega,by omega⟩
 show wpAny _ _ (if (((sIx items.size 0 lo:Nat):Int) == 0&&(1:Int) == 1&&(sIx items.size items.size hi - sIx items.size 0 lo) == items.size)=true then _ else _) _ _ s
 rw [if_neg hno,rh]
 first
  | exact wpAny_bind (m:=Builtin.Tuple.tupleExact _) (wpAny_newObj_type (wpAny_pure ⟨_,rfl,wpAny_pure h⟩) htake)
  | exact wpAny_bind (m:=Builtin.Tuple.tupleExact _) (wpAny_newObj_type (wpAny_bind (wpAny_pure (wpAny_pure ⟨_,rfl,wpAny_pure h⟩))) htake)
  | exact wpAny_bind (wpAny_bind (m:=Builtin.Tuple.tupleExact _) (wpAny_newObj_type (wpAny_pure (wpAny_pure ⟨_,rfl,wpAny_pure h⟩)) htake))
  | exact wpAny_bind (wpAny_bind (m:=Builtin.Tuple.tupleExact _) (wpAny_newObj_type (wpAny_pure ⟨_,rfl,wpAny_pure h⟩) htake))
end
end HT
namespace L2
open PySem PySem.Spec PyProof.Rows
noncomputable abbrev TO:=St->Hp->(Option Int->Hp->Prop)->Prop
noncomputable def PO (X:Cx) (e:Option Expr) (t:TO):Prop :=
 ∀ (pins:List (Addr × Obj)) (s:Shared) (σ:St) (H:Hp) (Q:Option Int->Hp->Prop),Inv X pins σ H s->t σ H Q ->
  wpAny (model X.prog X.w) X.A (evalPart e X.env) (λu s'=>∃ o H',Inv X pins σ H' s'/\IsPart u o/\Q o H') X.xe s
noncomputable def uD:TO:=λ_ H Q=>Q none H
noncomputable def zk (t:TE):TO:=λσ H Q=>t σ H λx H1=>∃ i,x=.int i/\Q (some i) H1
theorem dJ {ns:List Int}:∀ {us:List Value},am (ns.map V.int) us->IntsAre us ns:=by
 induction ns with
 | nil=>intro us r;rw [List.map_nil] at r;cases r;exact .nil
 | cons n ns ih =>
  intro us r
  rw [List.map_cons] at r
  cases r with
  | cons r1 r2 =>
   obtain ⟨t,e⟩:=r1
   subst e
   exact .cons n t (ih r2)
section
variable {X:Cx}{e:Expr}{te:TE}{lo hi:Option Expr}{tl th:TO}{pos p2:Pos}
theorem uE:PO X none uD:=by
 intro pins s σ H Q I h
 rw [evalPart_none]
 exact wpAny_pure ⟨none,H,I,.none,h⟩
theorem uF (h:PE X e te):PO X (some e) (zk te):=by
 intro pins s σ H Q I hw
 rw [evalPart_some]
 refine thn (h pins s σ H _ I hw) λu s1 ⟨x,H1,I1,r1,q1⟩=>?_
 obtain ⟨i,rfl,q⟩:=q1
 obtain ⟨t,rfl⟩:=r1
 exact ⟨some i,H1,I1,.int i t,q⟩
noncomputable def SlR (X:Cx) (r:V->Option Int->Option Int->Hp->VK->Prop):Prop :=
 ∀ (pins:List (Addr × Obj)) (s:Shared) (σ:St) (H:Hp) (x:V) (v vl vu:Value) (lo hi:Option Int) (sl:Addr) (Q:VK),Inv X pins σ H s->ar x v->s.heap.IsSliceOf sl vl vu .none->IsPart vl lo->IsPart vu hi->r x lo hi H Q ->
  ∃ T id,typeLookup (.type T) "__getitem__"=pure (some (.builtin id))/\s.TypeIs v T/\wpAny (model X.prog X.w) X.A (getItem v (.ref sl)) (EP X pins σ Q) X.xe s
noncomputable def tSl (r:V->Option Int->Option Int->Hp->VK->Prop) (te:TE) (tl th:TO):TE:=λσ H Q=>te σ H λx H1=>tl σ H1 λl H2=>th σ H2 λu H3=>r x l u H3 Q
theorem rj {r:V->Option Int->Option Int->Hp->VK->Prop} (hr:SlR X r) (he:PE X e te) (hl:PO X lo tl) (hu:PO X hi th):PE X (.Subscript e (.Slice lo hi none p2) pos) (tSl r te tl th):=by
 intro pins s σ H Q I h
 refine Subscript_ (thn (he pins s σ H _ I h) λv s1 ⟨x,H1,I1,r1,q1⟩=>?_)
 refine wpAny_Slice (thn (hl pins s1 σ H1 _ I1 q1) λvl s2 ⟨l,H2,I2,pl,q2⟩=>thn (hu pins s2 σ H2 _ I2 q2) λvu s3 ⟨u,H3,I3,pu,q3⟩=>?_)
 rw [evalPart_none]
 refine wpAny_pure ?_
 have I4:Inv X pins σ H3 { s3 with heap:=s3.heap.push { cls:=.type "slice",data:=.fields #[vl,vu,.none] } }:=I3.kept (t':=s3.toks) λb ob q=>Heap.get?_push_of_some _ q
 obtain ⟨T,id,hT,ht,hg⟩:=hr pins { s3 with heap:=s3.heap.push { cls:=.type "slice",data:=.fields #[vl,vu,.none] } } σ H3 x v vl vu l u s3.heap.objs.size Q I4 r1 (Heap.IsSliceOf.new ..) pl pu q3
 show wpAny (model X.prog X.w) X.A (subscriptTail e (.Slice lo hi none p2) v (.ref s3.heap.objs.size)) (EP X pins σ Q) X.xe { s3 with heap:=s3.heap.push { cls:=.type "slice",data:=.fields #[vl,vu,.none] } }
 exact tail_any (ops:=[.ref s3.heap.objs.size,v]) ht hT hg (by with_unfolding_all rfl)
noncomputable def mh (xs:List V) (lo hi:Option Int):List V:=(xs.drop (HT.sIx xs.length 0 lo)).take (HT.sIx xs.length xs.length hi - HT.sIx xs.length 0 lo)
theorem iK (xs:List V) (lo hi:Option Int):(mh xs lo hi).length <= xs.length:=by
 unfold mh
 rw [List.length_take,List.length_drop]
 omega
noncomputable def Bd (K:PySem.W.Frag):V->Option Int->Option Int->Hp->VK->Prop:=λx lo hi H Q=>∃ a xs,x=.ref a/\SqT K H a xs /\
 ¬ (HT.sIx xs.length 0 lo=0/\HT.sIx xs.length xs.length hi=xs.length)/\∀ p,H p=none->Q (.ref p) (upd H p (.tup (mh xs lo hi)))
theorem wV:SlR X (Bd X.K):=by
 intro pins s σ H x v vl vu lo hi sl Q I rx hs pl pu h
 obtain ⟨a,xs,rfl,hx,hw,q⟩:=h
 cases rx
 obtain ⟨its,r,ht,hz⟩:=I.tuple hx
 have hlen:its.toArray.size=xs.length:=by rw [List.size_toArray];exact r.length.symm
 refine ⟨"tuple",_,PyProof.Rows.slot_tuple_getitem.lookup,ht.typeIs,?_⟩
 refine HT.getItem_tuple_cut ht hs pl pu (by rw [hlen];exact hw) ?_ (by rw [hlen];exact hz)
 rw [hlen]
 refine ⟨.ref s.heap.objs.size,_,I.laid (t':=s.toks) (o:=.tup (mh xs lo hi)) (λb ob q=>Heap.get?_push_of_some _ q) (Nat.le_refl _) ?_,rfl,q _ (I.hok.fresh (Nat.le_refl _))⟩
 exact ⟨Nat.le_trans (iK xs lo hi) hz,_,(r.drop (HT.sIx xs.length 0 lo)).take (HT.sIx xs.length xs.length hi - HT.sIx xs.length 0 lo),IsTup.new _ _⟩
noncomputable def zl (K:PySem.W.Frag):R2:=λx y H Q=>∃ a b xs ys,x=.ref a/\y=.ref b/\SqT K H a xs/\SqT K H b ys/\xs ≠ []/\xs.length + ys.length <= sizeLine /\
 (ys=[]->Q (.ref a) H)/\(ys ≠ []->∀ p,H p=none->Q (.ref p) (upd H p (.tup (xs ++ ys))))
theorem am.nil_iff {xs:List V}{us:List Value} (r:am xs us):us=[] ↔ xs=[]:=by
 cases r with
 | nil=>simp
 | cons _ _=>simp
theorem uG:OpR X (binaryOp .Add) (zl X.K):=by
 intro pins s σ H x y v u Q I rx ry h
 obtain ⟨a,b,xs,ys,rfl,rfl,ha,hb,hx,hz,q1,q2⟩:=h
 cases rx
 cases ry
 obtain ⟨its,r1,p1,_⟩:=I.tuple ha
 obtain ⟨its2,r2,p2,_⟩:=I.tuple hb
 refine HT.cat_tup p1 p2 (λz=>hx (r1.nil_iff.mp z)) (λz=>⟨.ref a,H,I,rfl,q1 (r2.nil_iff.mp z)⟩) (λz=>?_) (by rw [<- r1.length,<- r2.length];exact hz)
 refine ⟨.ref s.heap.objs.size,_,I.laid (t':=s.toks) (o:=.tup (xs ++ ys)) (λb ob q=>Heap.get?_push_of_some _ q) (Nat.le_refl _) ?_,rfl,q2 (λw=>z (r2.nil_iff.mpr w)) _ (I.hok.fresh (Nat.le_refl _))⟩
 exact ⟨by rw [List.length_append];exact hz,_,r1.append r2,IsTup.new _ _⟩
end
end L2
namespace L2
open PySem PySem.Spec PyProof.Rows
noncomputable def ixN (n:Nat) (i:Int):Option Nat:=if 0 <= i then (if i < n then some i.toNat else none) else if -(n:Int) <= i then some (i + n).toNat else none
noncomputable def atI {α:Type} (xs:List α) (i:Int):Option α:=(ixN xs.length i).bind λj=>xs[j]?
theorem oQ {n:Nat}{i:Int}{j:Nat} (h:ixN n i=some j):seqIndex? i n=some j/\j < n/\-(n:Int) <= i/\i < n:=by
 unfold ixN at h
 by_cases h0:0 <= i
 ·rw [if_pos h0] at h
  by_cases h1:i < n
  ·rw [if_pos h1] at h
   have e:i.toNat=j:=Option.some.inj h
   exact ⟨by rw [seqIndex_of h0 h1,e],by omega,by omega,h1⟩
  ·rw [if_neg h1] at h;cases h
 ·rw [if_neg h0] at h
  by_cases h1:-(n:Int) <= i
  ·rw [if_pos h1] at h
   have e:(i + n).toNat=j:=Option.some.inj h
   exact ⟨by rw [seqIndex_neg (by omega) h1,e],by omega,h1,by omega⟩
  ·rw [if_neg h1] at h;cases h
theorem lA {α:Type}{xs:List α}{i:Int}{v:α} (h:atI xs i=some v):∃ j,seqIndex? i xs.length=some j/\xs[j]?=some v/\j < xs.length/\-(xs.length:Int) <= i/\i < xs.length:=by
 unfold atI at h
 cases e:ixN xs.length i with
 | none=>rw [e] at h;cases h
 | some j =>
  rw [e] at h
  obtain ⟨h1,h2,h3,h4⟩:=oQ e
  exact ⟨j,h1,h,h2,h3,h4⟩
noncomputable def oR (b:Expr):Prop:=∀ o i,subscripted b false o i=operate [o,i] (getItem o i)
noncomputable def IxR (X:Cx) (r:R2):Prop :=
 ∀ (value slice:Expr) (pins:List (Addr × Obj)) (s:Shared) (σ:St) (H:Hp) (x y:V) (v u:Value) (Q:VK),Inv X pins σ H s->ar x v->ar y u->r x y H Q ->
  subscripted slice false v u=operate [v,u] (getItem v u)->wpAny (model X.prog X.w) X.A (subscriptTail value slice v u) (EP X pins σ Q) X.xe s
noncomputable def MtR (X:Cx) (id:String) (r:V->List V->Hp->VK->Prop):Prop :=
 ∀ (pins:List (Addr × Obj)) (s:Shared) (σ:St) (H:Hp) (x:V) (xs:List V) (v:Value) (us:List Value) (Q:VK),Inv X pins σ H s->ar x v->am xs us->r x xs H Q ->
  wpAny (model X.prog X.w) X.A (call (.builtin id) (v::us)) (EP X pins σ Q) X.xe s
section
variable {X:Cx}{a b:Expr}{ta tb:TE}{pos:Pos}
theorem IxR.or {r r':R2} (h:IxR X r) (h':IxR X r'):IxR X (λx y H Q=>r x y H Q \/ r' x y H Q):=by
 intro value slice pins s σ H x y v u Q I rx ry q hs
 rcases q with q|q
 ·exact h value slice pins s σ H x y v u Q I rx ry q hs
 ·exact h' value slice pins s σ H x y v u Q I rx ry q hs
theorem rk {r:R2} (hr:IxR X r) (ha:PE X a ta) (hb:PE X b tb) (hs:oR b):PE X (.Subscript a b pos) (tOp r ta tb):=by
 intro pins s σ H Q I h
 exact Subscript_ (wJ ha hb I h λv u s2 x y H2 I2 rx ry q=>hr a b pins s2 σ H2 x y v u Q I2 rx ry q (hs _ _))
noncomputable def zm (K:PySem.W.Frag):R2:=λx y H Q=>∃ p xs i v,x=.ref p/\y=.int i/\SqL K H p xs/\atI xs i=some v/\Q v H
noncomputable def zn (K:PySem.W.Frag):R2:=λx y H Q=>∃ p xs i v,x=.ref p/\y=.int i/\SqT K H p xs/\atI xs i=some v/\Q v H
noncomputable def zo:R2:=λx y H Q=>∃ z i c,x=.str z/\y=.int i/\z.length <= sizeLine/\atI z.cps.toList i=some c/\Q (.str ⟨#[c]⟩) H
theorem lB:IxR X (zm X.K):=by
 intro value slice pins s σ H x y v u Q I rx ry h hs
 obtain ⟨p,xs,i,z,rfl,rfl,hq,he,q⟩:=h
 cases rx
 obtain ⟨t,rfl⟩:=ry
 obtain ⟨its,r,pl,hz⟩:=I.list hq
 obtain ⟨j,h1,h2,h3,h4,h5⟩:=lA he
 obtain ⟨w,ew,rw'⟩:=r.get h2
 have hl:=r.length
 have hn:=ic
 have fin:EP X pins σ Q w s:=⟨z,H,I,rw',q⟩
 by_cases h0:0 <= i
 ·have hj:i.toNat=j:=by
   rw [seqIndex_of h0 h5] at h1
   exact Option.some.inj h1
  exact item_listR pl.isList h0 (by omega) (by rw [hj];simpa using ew) fin hs
 ·have hj:(i + (its.toArray.size:Int)).toNat=j:=by
   rw [seqIndex_neg (by omega) h4] at h1
   rw [List.size_toArray,<- hl]
   exact Option.some.inj h1
  exact subscriptTail_builtinR (x:=w) pl.isList.typeIs slot_list_getitem.lookup
   (wpAny_getItem_list_neg (Q:=λr s'=>r=w/\EP X pins σ Q r s') pl.isList (by omega) (by rw [List.size_toArray] <;> omega) (by omega) (by rw [hj];simpa using ew) ⟨rfl,fin⟩) hs
theorem wW:IxR X (zn X.K):=by
 intro value slice pins s σ H x y v u Q I rx ry h hs
 obtain ⟨p,xs,i,z,rfl,rfl,hq,he,q⟩:=h
 cases rx
 obtain ⟨t,rfl⟩:=ry
 obtain ⟨its,r,pl,hz⟩:=I.tuple hq
 obtain ⟨j,h1,h2,h3,h4,h5⟩:=lA he
 obtain ⟨w,ew,rw'⟩:=r.get h2
 have hl:=r.length
 have hn:=ic
 have fin:EP X pins σ Q w s:=⟨z,H,I,rw',q⟩
 exact subscriptTail_builtinR (x:=w) pl.typeIs slot_tuple_getitem.lookup
  (getItem_tuple (j:=j) (Q:=λr s'=>r=w/\EP X pins σ Q r s') pl (by omega) (by omega) (by rw [List.size_toArray,<- hl];exact h1) (by simpa using ew) ⟨rfl,fin⟩) hs
theorem wX:IxR X zo:=by
 intro value slice pins s σ H x y v u Q I rx ry h hs
 obtain ⟨z,i,c,rfl,rfl,hz,he,q⟩:=h
 obtain ⟨t,rfl⟩:=rx
 obtain ⟨t',rfl⟩:=ry
 obtain ⟨j,h1,h2,h3,h4,h5⟩:=lA he
 have hl:z.cps.toList.length=z.length:=by simp [Str.length]
 rw [hl] at h1 h4 h5
 have hn:=ic
 exact tail_any (typeIs_str s z t) slot_str_getitem.lookup (getItem_str (c:=c) (by
  have e1:decide (i < -(2 ^ 63:Int))=false:=decide_eq_false (by omega)
  have e2:decide (i >= 2 ^ 63)=false:=decide_eq_false (by omega)
  rw [e1,e2,Bool.or_false]) (by rw [h1];simpa using h2) ⟨.str ⟨#[c]⟩,H,I.tok _,⟨_,rfl⟩,q⟩) hs
noncomputable def rIx (K:PySem.W.Frag):R2:=λx y H Q=>zm K x y H Q \/ zn K x y H Q \/ zo x y H Q
theorem rl:IxR X (rIx X.K):=lB.or (wW.or wX)
theorem nJ (its:List Value) (n j:Nat) (u:Value):Obj.mapSeq (·.setIfInBounds j u) { cls:=.type "list",data:=.seq its.toArray n }={ cls:=.type "list",data:=.seq (its.set j u).toArray n }:=by
 simp [Obj.mapSeq]
theorem Inv.lst {pins:List (Addr × Obj)}{σ:St}{H:Hp}{s:Shared}{p:Addr}{xs:List V} (I:Inv X pins σ H s) (h:H p=some (.lst xs)) :
  ∃ (its:List Value) (n:Nat),am xs its/\s.heap.get? p=some { cls:=.type "list",data:=.seq its.toArray n }/\xs.length <= sizeLine:=by
 obtain ⟨z,its,n,r,e⟩:=I.hok p _ h
 exact ⟨its,n,r,e,z⟩
theorem Inv.lstUpd {pins:List (Addr × Obj)}{σ:St}{H:Hp}{s:Shared}{p:Addr}{xs ys:List V}{its its':List Value}{n n':Nat}{f:Obj->Obj} (I:Inv X pins σ H s) (h:H p=some (.lst xs))
  (ho:s.heap.get? p=some { cls:=.type "list",data:=.seq its.toArray n }) (hf:f { cls:=.type "list",data:=.seq its.toArray n }={ cls:=.type "list",data:=.seq its'.toArray n' }) (r:am ys its') (hz:ys.length <= sizeLine) (t:Nat) :
  Inv X pins σ (upd H p (.lst ys)) { s with heap:=s.heap.update p f,toks:=t }:=by
 have e:(s.heap.update p f).get? p=some { cls:=.type "list",data:=.seq its'.toArray n' }:=by
  rw [Heap.get?_update_self f ho (by rw [hf] <;> rfl),hf]
 refine I.write (x:=p) (e:=p) (by rw [h];trivial) (.inl rfl) (λb u hb q=>(Heap.get?_update_other _ _ (Ne.symm hb)).trans q) ⟨_,e⟩ ?_
 exact ⟨hz,its',n',r,e⟩
noncomputable def zp:V->V->V->Hp->(Hp->Prop)->Prop:=λo i v H Q=>∃ p xs k j,o=.ref p/\i=.int k/\H p=some (.lst xs)/\ixN xs.length k=some j/\Q (upd H p (.lst (xs.set j v)))
theorem set_list:A9 X zp:=by
 intro pins s σ H o i v ov iv u Q I ro ri rv h
 obtain ⟨p,xs,k,j,rfl,rfl,hp,hj,q⟩:=h
 cases ro
 obtain ⟨t,rfl⟩:=ri
 obtain ⟨its,n,r,ho,hz⟩:=I.lst hp
 obtain ⟨h1,h2,h3,h4⟩:=oQ hj
 have hl:=r.length
 have hn:=ic
 have I':Inv X pins σ (upd H p (.lst (xs.set j v))) { s with heap:=s.heap.update p (Obj.mapSeq (·.setIfInBounds j u)) } :=
  I.lstUpd hp ho (nJ its n j u) (r.set rv j) (by rw [List.length_set];exact hz) s.toks
 by_cases h0:0 <= k
 ·have hk:k.toNat=j:=by
   rw [seqIndex_of h0 h4] at h1
   exact Option.some.inj h1
  exact PySem.W.ki_setAt ho h0 (by omega) (by rw [List.size_toArray,<- hl];exact h4) (by rw [hk];exact ⟨_,I',q⟩)
 ·have hk:(k + (its.toArray.size:Int)).toNat=j:=by
   rw [seqIndex_neg (by omega) h3] at h1
   rw [List.size_toArray,<- hl]
   exact Option.some.inj h1
  exact PySem.W.ki_setBack ho (by omega) (by rw [List.size_toArray,<- hl];exact h3) (by omega) (by rw [hk];exact ⟨_,I',q⟩)
theorem lC (lo hi:Option Int) (n:Nat):(sliceBounds lo hi none n).1=((HT.sIx n 0 lo:Nat):Int)/\(sliceBounds lo hi none n).2.1=((HT.sIx n n hi:Nat):Int)/\(sliceBounds lo hi none n).2.2=1:=by
 refine ⟨?_,?_,rfl⟩
 ·cases lo with
  | none=>simp [sliceBounds,HT.sIx]
  | some i =>
   simp only [sliceBounds,HT.sIx,Option.getD_none,show (1:Int) > 0 by decide,if_true]
   by_cases h:i < 0
   ·simp only [h,if_true] <;> omega
   ·simp only [h,if_false] <;> omega
 ·cases hi with
  | none=>simp [sliceBounds,HT.sIx]
  | some i =>
   simp only [sliceBounds,HT.sIx,Option.getD_none,show (1:Int) > 0 by decide,if_true]
   by_cases h:i < 0
   ·simp only [h,if_true] <;> omega
   ·simp only [h,if_false] <;> omega
theorem km (its:List Value) (lo hi:Option Int):slicePick its.toArray lo hi none=((its.drop (HT.sIx its.length 0 lo)).take (HT.sIx its.length its.length hi - HT.sIx its.length 0 lo)).toArray:=by
 obtain ⟨h1,h2,h3⟩:=lC lo hi its.toArray.size
 unfold slicePick
 rw [h1,h2,h3]
 simp only [sliceRange_one,pick_run,List.size_toArray] <;> rfl
noncomputable def Be (K:PySem.W.Frag):V->Option Int->Option Int->Hp->VK->Prop:=λx lo hi H Q=>∃ a xs,x=.ref a/\SqL K H a xs/\∀ p,H p=none->Q (.ref p) (upd H p (.lst (mh xs lo hi)))
theorem uH:SlR X (Be X.K):=by
 intro pins s σ H x v vl vu lo hi sl Q I rx hs pl pu h
 obtain ⟨a,xs,rfl,hx,q⟩:=h
 cases rx
 obtain ⟨its,r,ht,hz⟩:=I.list hx
 have hlen:=r.length
 refine ⟨"list",_,slot_list_getitem.lookup,ht.isList.typeIs,?_⟩
 refine wpAny_getItem_list_slice ht.isList hs pl pu .none (by simp) ?_ (by rw [List.size_toArray] <;> omega)
 rw [km,<- hlen]
 refine ⟨.ref s.heap.objs.size,_,I.laid (t':=s.toks) (o:=.lst (mh xs lo hi)) (λb ob q=>Heap.get?_push_of_some _ q) (Nat.le_refl _) ?_,rfl,q _ (I.hok.fresh (Nat.le_refl _))⟩
 exact ⟨Nat.le_trans (iK xs lo hi) hz,_,0,(r.drop (HT.sIx xs.length 0 lo)).take (HT.sIx xs.length xs.length hi - HT.sIx xs.length 0 lo),Heap.get?_push_size _ rfl⟩
noncomputable def f_:V->Bool
 | .non=>true
 | .bl _=>true
 | .int _=>true
 | .str _=>true
 | _=>false
noncomputable def eqV:V->V->Bool
 | .non,.non=>true
 | .bl a,.bl b=>a == b
 | .bl a,.int b=>(if a then 1 else 0) == b
 | .int a,.bl b=>a == (if b then 1 else 0)
 | .int a,.int b=>a == b
 | .str a,.str b=>a == b
 | _,_=>false
theorem rm {A:Around}{s:Shared}{y x:V}{u v:Value} (ry:ar y u) (rx:ar x v) (fy:f_ y=true) (fx:f_ x=true):SeqAt.EqAt A s u v (eqV y x):=by
 cases y with
 | non =>
  cases ry
  cases x with
  | non=>cases rx;exact SeqAt.EqAt.same _
  | bl b=>cases rx;exact SeqAt.EqAt.none_bool b
  | int b=>obtain ⟨t,rfl⟩:=rx;exact SeqAt.EqAt.none_int b t
  | str b=>obtain ⟨t,rfl⟩:=rx;exact SeqAt.EqAt.none_str b t
  | _=>exact absurd (show false=true from fx) Bool.false_ne_true
 | bl a =>
  cases ry
  cases x with
  | non=>cases rx;exact SeqAt.EqAt.bool_none a
  | bl b=>cases rx;exact SeqAt.EqAt.bool_bool a b
  | int b=>obtain ⟨t,rfl⟩:=rx;exact SeqAt.EqAt.bool_int a b t
  | str b=>obtain ⟨t,rfl⟩:=rx;exact SeqAt.EqAt.bool_str a b t
  | _=>exact absurd (show false=true from fx) Bool.false_ne_true
 | int a =>
  obtain ⟨t',rfl⟩:=ry
  cases x with
  | non=>cases rx;exact SeqAt.EqAt.int_none a t'
  | bl b=>cases rx;exact SeqAt.EqAt.int_bool a t' b
  | int b=>obtain ⟨t,rfl⟩:=rx;exact SeqAt.EqAt.int_int a t' b t
  | str b=>obtain ⟨t,rfl⟩:=rx;exact SeqAt.EqAt.int_str a t' b t
  | _=>exact absurd (show false=true from fx) Bool.false_ne_true
 | str a =>
  obtain ⟨t',rfl⟩:=ry
  cases x with
  | non=>cases rx;exact SeqAt.EqAt.str_none a t'
  | bl b=>cases rx;exact SeqAt.EqAt.str_bool a t' b
  | int b=>obtain ⟨t,rfl⟩:=rx;exact SeqAt.EqAt.str_int a t' b t
  | str b=>obtain ⟨t,rfl⟩:=rx;exact SeqAt.EqAt.str_str a t' b t
  | _=>exact absurd (show false=true from fx) Bool.false_ne_true
 | _=>exact absurd (show false=true from fy) Bool.false_ne_true
theorem cV:bq X (.builtin "len") (λxs H Q=>∃ p ys,xs=[.ref p]/\(SqL X.K H p ys \/ SqT X.K H p ys)/\Q (.int ys.length) H):=by
 intro pins s σ H xs us Q I r h
 obtain ⟨p,ys,rfl,hq,q⟩:=h
 obtain ⟨u,rfl,rx⟩:=fo r
 cases rx
 have hn:=ic
 rcases hq with hq|hq
 ·obtain ⟨its,r',pl,hz⟩:=I.list hq
  have hlen:=r'.length
  exact Calls.call_len_list pl.isList (by simp only [List.size_toArray] <;> omega) ⟨.int ys.length,H,I.tok _,⟨s.toks + 1,by rw [List.size_toArray,hlen]⟩,q⟩
 ·obtain ⟨its,r',pl,hz⟩:=I.tuple hq
  have hlen:=r'.length
  exact len_tuple pl (by simp only [List.size_toArray] <;> omega) ⟨.int ys.length,H,I.tok _,⟨s.toks + 1,by rw [List.size_toArray,hlen]⟩,q⟩
theorem lD:bq X (.type "list") (λxs H Q=>∃ p ys,xs=[.ref p]/\(SqL X.K H p ys \/ SqT X.K H p ys)/\∀ l,H l=none->Q (.ref l) (upd H l (.lst ys))):=by
 intro pins s σ H xs us Q I r h
 obtain ⟨p,ys,rfl,hq,q⟩:=h
 obtain ⟨u,rfl,rx⟩:=fo r
 cases rx
 have fin:∀ (its:List Value),am ys its->ys.length <= sizeLine->∀ (h':Heap) (c':Nat),(∀ b o',s.heap.get? b=some o'->h'.get? b=some o') ->
   h'.get? s.heap.objs.size=some { cls:=.type "list",dict:=none,data:=.seq its.toArray c',slots:=#[] }->EP X pins σ Q (.ref s.heap.objs.size) { s with heap:=h' }:=λits r' hz h' c' kp e =>
  ⟨.ref s.heap.objs.size,_,I.laid (t':=s.toks) kp (Nat.le_refl _) (show bC X.prog X.w _ h' _ (.lst ys) from ⟨hz,its,c',r',e⟩),rfl,q _ (I.hok.fresh (Nat.le_refl _))⟩
 rcases hq with hq|hq
 ·obtain ⟨its,r',pl,hz⟩:=I.list hq
  have hlen:=r'.length
  obtain ⟨o,ho,hc,n,hd⟩:=pl.isList
  exact call_list_seq p (.inl rfl) ho hc hd (λh' c' kp e=>fin its r' hz h' c' kp e) (by simp only [List.size_toArray] <;> omega)
 ·obtain ⟨its,r',pl,hz⟩:=I.tuple hq
  have hlen:=r'.length
  obtain ⟨o,ho,hc,n,hd⟩:=pl
  exact call_list_seq p (.inr rfl) ho hc hd (λh' c' kp e=>fin its r' hz h' c' kp e) (by simp only [List.size_toArray] <;> omega)
theorem ez:bq X (.type "tuple") (λxs H Q=>∃ p ys,xs=[.ref p]/\((SqL X.K H p ys/\∀ l,H l=none->Q (.ref l) (upd H l (.tup ys))) \/ (SqT X.K H p ys/\Q (.ref p) H))):=by
 intro pins s σ H xs us Q I r h
 obtain ⟨p,ys,rfl,h⟩:=h
 obtain ⟨u,rfl,rx⟩:=fo r
 cases rx
 rcases h with ⟨hq,q⟩|⟨hq,q⟩
 ·obtain ⟨its,r',pl,hz⟩:=I.list hq
  have hlen:=r'.length
  refine call_tuple_list pl.isList (λh' kp=>?_) (by simp only [List.size_toArray] <;> omega)
  have I1:Inv X pins σ H { s with heap:=h' }:=I.kept (t':=s.toks) kp
  have I2:Inv X pins σ (upd H h'.objs.size (.tup ys)) { s with heap:=h'.push { cls:=.type "tuple",data:=.seq its.toArray } } :=
   I1.laid (t':=s.toks) (λb o e=>Heap.get?_push_of_some _ e) (Nat.le_refl _) (show bC X.prog X.w _ _ _ (.tup ys) from ⟨hz,its,r',IsTup.new _ _⟩)
  exact ⟨.ref h'.objs.size,_,I2,rfl,q _ (I1.hok.fresh (Nat.le_refl _))⟩
 ·obtain ⟨its,r',pl,hz⟩:=I.tuple hq
  exact call_tuple_same pl ⟨.ref p,H,I,rfl,q⟩
noncomputable def tyV (K:PySem.W.Frag) (T:String) (x:V) (H:Hp):Prop:=match x with
 | .str _=>T="str"
 | .int _=>T="int"
 | .ref p=>(T="list"/\∃ xs,SqL K H p xs) \/ (T="tuple"/\∃ o,K.lookup p=some o/\o.cls=.type "tuple"/\o.dict=none) \/
   (T="dict"/\((∃ kvs,H p=some (.dK kvs)) \/ ∃ kvs,H p=some (.dT kvs))) \/ (T="set"/\∃ S n,H p=some (.set S n))
 | _=>False
theorem wY {pins:List (Addr × Obj)}{σ:St}{H:Hp}{s:Shared}{T:String}{x:V}{v:Value} (I:Inv X pins σ H s) (r:ar x v) (ty:tyV X.K T x H) :
  s.TypeIs v T/\∀ a,v=.ref a->∃ ob,s.heap.get? a=some ob/\ob.dict=none:=by
 cases x with
 | str z =>
  obtain ⟨t,rfl⟩:=r
  cases (show T="str" from ty)
  exact ⟨typeIs_str s z t,λ_ e=>nomatch e⟩
 | int i =>
  obtain ⟨t,rfl⟩:=r
  cases (show T="int" from ty)
  exact ⟨typeIs_int s i t,λ_ e=>nomatch e⟩
 | ref p =>
  cases r
  rcases ty with ⟨rfl,xs,hq⟩|⟨rfl,o,hk,hc,hd⟩|⟨rfl,hk⟩|⟨rfl,S,n,hk⟩
  ·obtain ⟨its,_,pl,_⟩:=I.list hq
   refine ⟨pl.isList.typeIs,λa e=>?_⟩
   cases e
   obtain ⟨o,n,e,c,hd,_⟩:=pl
   exact ⟨o,e,hd⟩
  ·refine ⟨⟨o,I.kIn p o hk,hc⟩,λa e=>?_⟩
   cases e
   exact ⟨o,I.kIn _ o hk,hd⟩
  ·have z:∃ o,s.heap.get? p=some o/\o.ExactDict:=by
    rcases hk with ⟨kvs,hk⟩|⟨kvs,hk⟩
    ·obtain ⟨_,_,_,_,o,_,_,e,ex,_⟩:=I.hok p _ hk
     exact ⟨o,e,ex⟩
    ·obtain ⟨_,_,_,_,o,_,_,e,ex,_⟩:=I.hok p _ hk
     exact ⟨o,e,ex⟩
   obtain ⟨o,e,ex⟩:=z
   refine ⟨⟨o,e,ex.1⟩,λa e2=>?_⟩
   cases e2
   exact ⟨o,e,ex.2.1⟩
  ·obtain ⟨o,_,_,_,e,ex,_⟩:=I.hok p _ hk
   refine ⟨⟨o,e,ex.1⟩,λa e2=>?_⟩
   cases e2
   exact ⟨o,e,ex.2.1⟩
 | _=>exact False.elim ty
noncomputable def tBM (K:PySem.W.Frag) (T:String) (r:V->List V->Hp->VK->Prop) (to:TE) (t:TA):TE:=λσ H Q=>to σ H λx H1=>tyV K T x H1/\t σ H1 λxs H2=>r x xs H2 Q
variable {o e:Expr}{es:List Expr}{to:TE}{t:TA}{name:Str}{apos cpos:Pos}{T id:String}{r:V->List V->Hp->VK->Prop}
theorem rn (pa:PlainAttrs T) (slot:Slot T name id) (hty:typeOf (.builtin id)=pure (.type "method_descriptor")) (hm:MtR X id r) (ho:PE X o to) (ha:PA X (e::es) t)
  (hbase:attributeBase o name X.env (eval o X.env)=eval o X.env:=by rfl)
  (hfew:((backTo cpos (starEach (e::es) X.env)).all (λx=>!x.1)&&(backToKw cpos (keywordEach [] X.env)).all (λx=>x.1.isSome)
  &&decide ((e::es).length + ([]:List Keyword).length + (if ([]:List Keyword).isEmpty then 0 else 1) < 30))=true:=by rfl)
  (hline:(apos.endLine == cpos.line)=true:=by rfl) (hs:starEach (e::es) X.env=(false,eval e X.env)::starEach es X.env:=by rfl) (hplain:(backTo cpos (starEach es X.env)).any (·.1)=false:=by rfl) :
  PE X (.Call (.Attribute o name apos) (e::es) [] cpos) (tBM X.K T r to t):=by
 intro pins s σ H Q I h
 refine wpAny_Call_method_late hbase hfew hline rfl (thn (ho pins s σ H _ I h) λv s1 ⟨x,H1,I1,r1,ty,q1⟩=>?_)
 obtain ⟨h1,h2⟩:=wY I1 r1 ty
 refine ⟨T,id,pa,slot,hty,h1,h2,?_⟩
 have hA:=ha cpos pins s1 σ H1 _ I1 q1
 rw [hs] at hA ⊢
 refine Calls.callWith_builtin (by show (false || (backTo cpos (starEach es X.env)).any (·.1))=false;rw [hplain] <;> rfl) (Calls.evalArgs_plain ?_)
 exact thn hA λus s2 ⟨vs,H2,I2,r2,q2⟩=>hm pins s2 σ H2 x vs v us Q I2 r1 r2 q2
end
end L2
namespace L2
open PySem PySem.Spec PyProof.Rows
noncomputable def MtM (X:Cx) (id:String) (r:V->List V->Hp->VK->Prop):Prop :=
 ∀ (pins:List (Addr × Obj)) (s:Shared) (σ:St) (H:Hp) (x:V) (xs:List V) (v:Value) (us:List Value) (Q:VK),Inv X pins σ H s->ar x v->am xs us->r x xs H Q ->
  wpAny (model X.prog X.w) X.A (call (.builtin id) (v::us)) (EP X pins σ Q) X.xe s
theorem am.one:∀ {x:V}{us:List Value},am [x] us->∃ u,us=[u]/\ar x u
 | _,_,.cons r .nil=>⟨_,rfl,r⟩
theorem am.zero:∀ {us:List Value},am [] us->us=[]
 | _,.nil=>rfl
theorem am.reverse {xs:List V}{us:List Value} (h:am xs us):am xs.reverse us.reverse:=by
 induction h with
 | nil=>exact .nil
 | cons r t ih=>rw [List.reverse_cons,List.reverse_cons];exact am.append ih (.cons r .nil)
theorem am.rep {xs:List V}{us:List Value} (h:am xs us):∀ k:Nat,am (List.replicate k xs).flatten (List.replicate k us).flatten
 | 0=>.nil
 | k + 1=>by
  rw [List.replicate_succ,List.replicate_succ,List.flatten_cons,List.flatten_cons]
  exact am.append h (am.rep h k)
theorem kJ (its:List Value):∀ (k:Nat) (acc:List Value),
  List.foldl (λx1 x2=>x1 ++ x2) acc.toArray (List.replicate k its.toArray)=(acc ++ (List.replicate k its).flatten).toArray
 | 0,acc=>by simp
 | k + 1,acc=>by
  have e:acc.toArray ++ its.toArray=(acc ++ its).toArray:=by simp
  have e2:(acc ++ its) ++ (List.replicate k its).flatten=acc ++ (List.replicate (k + 1) its).flatten:=by
   rw [List.replicate_succ,List.flatten_cons,List.append_assoc]
  rw [<- e2,<- kJ its k (acc ++ its),<- e,List.replicate_succ,List.foldl_cons]
section
variable {X:Cx}{pins:List (Addr × Obj)}{σ:St}{H:Hp}{s:Shared}{l b:Addr}{xs ys zs:List V}
theorem Inv.lset {its its':List Value}{n:Nat}{f:Array Value->Array Value}{t':Nat} (I:Inv X pins σ H s) (hH:H l=some (.lst xs))
  (e:s.heap.get? l=some { cls:=.type "list",data:=.seq its.toArray n }) (hf:f its.toArray=its'.toArray) (hv:am ys its') (hz:ys.length <= sizeLine) :
  Inv X pins σ (upd H l (.lst ys)) { s with heap:=s.heap.update l (Obj.mapSeq f),toks:=t' }:=by
 have q:=PySem.IsL.update e f
 rw [hf] at q
 refine I.write (x:=l) (e:=l) (by rw [hH];exact trivial) (.inl rfl) (λb' u hb hu=>(Heap.get?_update_other s.heap (Obj.mapSeq f) (Ne.symm hb)).trans hu) ⟨_,q⟩ ?_
 exact ⟨hz,its',_,hv,q⟩
theorem Inv.lnew {its:List Value}{t':Nat} (I:Inv X pins σ H s) (hv:am ys its) (hz:ys.length <= sizeLine) :
  Inv X pins σ (upd H s.heap.objs.size (.lst ys)) { s with heap:=s.heap.push { cls:=.type "list",data:=.seq its.toArray },toks:=t' } :=
 I.laid (λ_ _ q=>Heap.get?_push_of_some _ q) (Nat.le_refl _) ⟨hz,its,0,hv,Heap.get?_push_size _ rfl⟩
theorem Inv.fresh (I:Inv X pins σ H s):H s.heap.objs.size=none:=I.hok.fresh (Nat.le_refl _)
theorem Inv.lstM (I:Inv X pins σ H s) (hH:H l=some (.lst xs)):xs.length <= sizeLine/\∃ (its:List Value) (n:Nat),am xs its/\xs.length=its.length/\s.heap.get? l=some { cls:=.type "list",data:=.seq its.toArray n }:=by
 obtain ⟨z,its,n,r,e⟩:=I.hok l _ hH
 exact ⟨z,its,n,r,r.length,e⟩
theorem mi {n:Nat} (h:n <= sizeLine):Builtin.List.listTooLong n=false:=by
 unfold Builtin.List.listTooLong
 exact decide_eq_false (by omega)
end
section
variable {X:Cx}
noncomputable def uI:V->List V->Hp->VK->Prop:=λx vs H Q=>∃ l xs y,x=.ref l/\vs=[y]/\H l=some (.lst xs)/\xs.length < sizeLine/\Q .non (upd H l (.lst (xs ++ [y])))
theorem ie:MtM X "list.append" uI:=by
 intro pins s σ H x vs v us Q I rx rv h
 obtain ⟨l,xs,y,rfl,rfl,hH,hz,q⟩:=h
 cases rx
 obtain ⟨u,rfl,ru⟩:=rv.one
 obtain ⟨z,its,n,r,hl,e⟩:=I.lstM hH
 refine call_meets F.slot_list_append ⟨_,e,rfl⟩ F.entry_list_append (F.args_list_append_2 _ _) (PySem.list_append l its.toArray n u (by rw [List.size_toArray];omega)) ⟨e,?_⟩
 refine ⟨.non,_,I.lset (its':=its ++ [u]) hH e (by simp) (r.append (.cons ru .nil)) ?_,rfl,q⟩
 rw [List.length_append,List.length_singleton]
 omega
theorem oS {α:Type} (xs:List α) (k:Nat):(List.replicate k xs).flatten.length=k * xs.length:=by
 induction k with
 | zero=>simp
 | succ k ih=>rw [List.replicate_succ,List.flatten_cons,List.length_append,ih,Nat.succ_mul,Nat.add_comm]
end
section
variable {prog:Program}{w:World}{A:Around}{E:Value->Shared->Prop}{s:Shared}
end
section
variable {X:Cx}
end
end L2
namespace Att
open PySem PySem.W PySem.Calls PyProof.Rows
theorem iT {P:Params}{h:Heap}:∀ (ns:List Int) (vs:List Value),WellAll P h vs (ns.map WData.int)->IntsAre vs ns:=by
 intro ns
 induction ns with
 | nil =>
  intro vs w
  rw [List.map_nil] at w
  cases w
  exact .nil
 | cons n ns ih =>
  intro vs w
  rw [List.map_cons] at w
  cases w with
  | cons a b =>
   cases a
   exact .cons _ _ (ih _ b)
theorem p8 {l:OpenLaw}{n:Nat} (hn:l.most=some n) {P:Params}{h:Heap}{args:List WData}{vals:List Value}
  (hpre:l.row.toRowW.claim.pre args=true) (hwl:WellAll P h vals args) :
  ∃ a vs ns,vals=[Value.ref a]/\args=[WData.list (ns.map WData.int)]/\h.get? a=some { cls:=.type "list",data:=.seq vs.toArray }/\IntsAre vs ns/\ns.length <= n:=by
 have hsh:WShape.hasAll [] args [.list .int]=true:=(pre_splitW hpre).1
 have hc:l.pre.holds [] { args:=args }=true:=(pre_splitW hpre).2
 obtain ⟨d,r,rfl,h1,h2⟩:=hasAllW_cons hsh
 obtain rfl:=hasAllW_nil h2
 obtain ⟨xs,rfl,h3⟩:=hasW_list h1
 obtain ⟨ns,rfl⟩:=items_int h3
 have hlen:ns.length <= n:=by
  unfold OpenLaw.pre at hc
  have h4:(WTm.not (.lt (.lit (.int (n:Int))) (.len (.arg 0)))).holds [] { args:=[.list (ns.map .int)] }=true:=by
   have h4:=(holds_andW hc).1
   rw [hn] at h4
   exact h4
  have h5:=condW_of h4 (w_not (w_lt w_lit (w_len_list (w_arg rfl))))
  rw [List.length_map] at h5
  refine Nat.le_of_not_lt λq=>?_
  have q':(n:Int) < ((ns.length:Nat):Int):=by omega
  first
   | (rw [decide_eq_true q'] at h5;exact absurd h5 (by decide))
   | (simp at h5;omega)
 cases hwl with
 | cons w1 w2 =>
  cases w2
  cases w1 with
  | list ho hall=>exact ⟨_,_,ns,rfl,rfl,ho,iT ns _ hall,hlen⟩
theorem p9 (l:OpenLaw) (args:List WData):l.row.toRowW.claim.post args (.bool true) args=true :=
 postW_of (r:=l.row.toRowW) (X:=(true == true))
  (show WShape.has [] (.bool true) .bool=true by first|rfl|decide|simp [WShape.has,WShape.arms,WShape.armsAll])
  (show (WTm.eq .res (.lit (.bool true))).value [] { args:=args,res:=some (.bool true),after:=args }=some (.bool (true == true)) from w_eq_bool (w_res rfl) w_lit) rfl
theorem attach_call {l:OpenLaw}{n:Nat}{q:Program}{loose:List Str}{XP:(Str->Option Value)->Heap->Prop}{YP:World->Heap->Prop}{d:DefRec}
  (hn:l.most=some n) (hdf:d.params.defaults=[])
  (call:∀ (w:World) (s₀ s₁:Shared) (mg mb:Str->Option Value) (fa:Addr) (o:Obj) (pm cd doc:Value) (a:Addr) (vs:List Value) (ns:List Int),
   Ground q loose [] XP w s₀ mg mb s₁.heap->YP w s₁.heap ->
   s₁.heap.get? fa=some o->o.data=.func (docDef d.name d.params d.body d.scope pm cd doc)->s₁.heap.CodeRec cd d.name->mg d.name=some (.ref fa) ->
   s₁.heap.get? a=some { cls:=.type "list",data:=.seq vs.toArray }->IntsAre vs ns->ns.length <= n->s₁.gens=#[] ->
   codeAny (model l.prog w) callerA (.call (.ref fa) ⟨[.ref a],[]⟩) (λr s'=>r=.ok (.ret (.bool true))/\OldK s₁.heap s'.heap/\s'.os=s₁.os/\AllBare s'.gens) s₁) :
  WalkO q loose XP YP l.row.toRowW d [] (λf vs=>PySem.call f vs):=by
 intro w s₀ s₁ mg mb G Y fa o pm cd doc dV kV ho hd hcd hD hmg hg args vals as hpre hlay hrd hwl hlo
 obtain rfl:dV=.none:=Dflts.none hD hdf
 obtain rfl:kV=.none:=Dflts.noKw hD
 obtain ⟨a,vs,ns,rfl,rfl,hobj,hints,hlen⟩:=p8 hn hpre hwl
 refine enter_call (codeAny_mono (call w s₀ s₁ mg mb fa o pm cd doc a vs ns G Y ho (fd_plain hd) hcd hmg hobj hints hlen hg) λr s' hq=>?_)
 obtain ⟨rfl,h2,h3,h4⟩:=hq
 exact ⟨.inl ⟨.bool true,.bool true,[],rfl,λ_=>rfl,.bool true,p9 l _,λ_=>⟨List.Pairwise.nil,λ_ hm=>(nomatch hm)⟩⟩,h2,h3,h4⟩
section
variable {prog:Program}{w:World}{A:Around}{E:Value->Shared->Prop}{s:Shared}{K:Frag}
end
end Att
namespace L2
open PySem PySem.Spec PyProof.Rows
theorem ig:∀ {vs:List Value}{ns:List Int},IntsAre vs ns->am (ns.map V.int) vs
 | _,_,.nil=>.nil
 | _,_,.cons n t h=>.cons ⟨t,rfl⟩ (ig h)
noncomputable def wZ (H:Hp):Prop:=∀ b,H b=none \/ ∃ o xs,H b=some (.frz o (.lst xs))
theorem rp {P:Program}{w:World}{K:PySem.W.Frag}{mg mb:Str->Option Value}{CX:CXT}{k:Nat}{fa a:Addr}{fd:FuncData}{x:Str}{sp:Sp}{s₁:Shared}{vs:List Value}{ns:List Int}
  (KX:K.In s₁.heap) (hns:s₁.heap.Ns mainGlobals mg) (hb:s₁.heap.Ns builtinsNs mb) (hbb:∀ x:Str,x ≠ "__name__"->mb x=bootBuiltins x) (hlim:s₁.heap.NoLimit) (hg:s₁.gens=#[])
  (ha:s₁.heap.get? a=some { cls:=.type "list",data:=.seq vs.toArray }) (hi:IntsAre vs ns) (hl:ns.length <= sizeLine) (hr:gm k callerA)
  (F:∀ base:Heap,K.In base->base.Ns mainGlobals mg->eT P w K mg base CX k fa fd [x] sp) (hbind:∀ (s:Shared) (u:Value),BindsTo s fd ⟨[u],[]⟩ [(x,u)])
  (hsp:∀ H:Hp,wZ H->SqL K H a (ns.map V.int)->sp [.ref a] H (λv _=>v=.bl true) λ_ _ _=>False)
  (hCX:∀ H e s',CX [] H s₁ (λ_ _ _=>False) e s'->False) :
  codeAny (model P w) callerA (.call (.ref fa) ⟨[.ref a],[]⟩) (λr s'=>r=.ok (.ret (.bool true))/\OldK s₁.heap s'.heap/\s'.os=s₁.os/\AllBare s'.gens) s₁:=by
 have rv:=ig hi
 have lenV:=hi.length
 have core:∀ H:Hp,wZ H->SqL K H a (ns.map V.int)->HOk P w H s₁.heap->(∀ b,H b ≠ none->b=a)->(H a ≠ none->K.lookup a=none) ->
   codeAny (model P w) callerA (.call (.ref fa) ⟨[.ref a],[]⟩) (λr s'=>r=.ok (.ret (.bool true))/\OldK s₁.heap s'.heap/\s'.os=s₁.os/\AllBare s'.gens) s₁:=by
  intro H hO hS hok hA hK
  have base_of:∀ {b:Addr}{o:Obj},s₁.heap.get? b=some o->H b=none->(lu s₁.heap H).get? b=some o:=λe n=>qT e n
  have noA:∀ {b:Addr}{o:Obj}{es:Array DictEntry}{ep:Nat},s₁.heap.get? b=some o->o.data=.dict es ep->H b=none:=λ{b o es ep} e d=>by
   cases q:H b with
   | none=>rfl
   | some u =>
    have e':b=a:=hA b (by rw [q];simp)
    subst e'
    rw [ha] at e;cases e
    have d':Data.seq vs.toArray _=Data.dict es ep:=d
    cases d'
  have nsK:∀ {b:Addr}{m:Str->Option Value},s₁.heap.Ns b m->(lu s₁.heap H).Ns b m:=λ{b m} ⟨o,es,ep,e,d,r⟩=>⟨o,es,ep,base_of e (noA e d),d,r⟩
  have hKb:K.In (lu s₁.heap H):=λb o e=>base_of (KX b o e) (by
   cases q:H b with
   | none=>rfl
   | some u =>
    have e':b=a:=hA b (by rw [q];simp)
    subst e'
    rw [hK (by rw [q];simp)] at e;cases e)
  have hM:Mod K mg (lu s₁.heap H):=⟨hKb,nsK hns,⟨mb,nsK hb,hbb⟩,let ⟨mc,h1,h2⟩:=hlim;⟨mc,nsK h1,h2⟩⟩
  have e0:uC P w K mg (lu s₁.heap H) callerA [] s₁ H:=⟨rfl,hM,λb o e=>uq e,Nat.le_of_eq (pT _ _),trivial,λb hb=>absurd (show b ∈ ([]:List Addr) from hb) (by simp),hok,.of_eq hg⟩
  refine codeAny_mono ((F _ hKb (nsK hns)).run callerA [] s₁ H ⟨[.ref a],[]⟩ [.ref a] [.ref a] _ _ hr e0 (hbind s₁ (.ref a)) (.cons rfl .nil) (hsp H hO hS)) λr s' h=>?_
  cases r with
  | error e=>exact (hCX H e s' h).elim
  | ok fl =>
   cases fl with
   | next=>exact False.elim h
   | brk=>exact False.elim h
   | cont=>exact False.elim h
   | ret u =>
    obtain ⟨v,H',os,bare,un,hok',r',q⟩:=h
    have q':v=.bl true:=q
    subst q'
    obtain rfl:u=Value.bool true:=r'
    refine ⟨rfl,OldK.of_keep λb o e=>?_,os,bare⟩
    cases q:H b with
    | none=>exact un.keep b o e q (by intro z;exact absurd (show b ∈ ([]:List Addr) from z) (by simp)) (by simp)
    | some u =>
     rcases hO b with z|⟨ob,xs,z⟩
     ·rw [q] at z;cases z
     ·have z2:=un.frzs b ob _ z
      obtain ⟨e1,_⟩:=hok b _ z
      obtain ⟨e2,_⟩:=hok' b _ z2
      rw [e] at e1;cases e1
      exact e2
 cases hk:K.lookup a with
 | some o =>
  have e:=KX a o hk
  rw [ha] at e
  cases e
  refine core (λ_=>none) (λ_=>.inl rfl) (.inr ⟨_,vs.toArray,_,hk,rfl,rfl,rfl,by rw [List.size_toArray,lenV];exact hl,by simpa using rv⟩) (λb u z=>by have z':(none:Option HO)=some u:=z;cases z') (λb z=>absurd rfl z) λz=>absurd rfl z
 | none =>
  refine core (λb=>if b=a then some (.frz { cls:=.type "list",data:=.seq vs.toArray } (.lst (ns.map V.int))) else none) (λb=>?_) (.inl (.inr ⟨{ cls:=.type "list",data:=.seq vs.toArray },if_pos rfl⟩)) (λb u z=>?_) (λb z=>?_) λ_=>hk
  ·by_cases hb:b=a
   ·exact .inr ⟨_,_,if_pos hb⟩
   ·exact .inl (if_neg hb)
  ·by_cases hb:b=a
   ·have z':=(if_pos hb).symm.trans z
    cases z'
    subst hb
    exact ⟨ha,by rw [List.length_map];exact hl,vs,_,rv,ha⟩
   ·have z':=(if_neg hb).symm.trans z
    cases z'
  ·by_cases hb:b=a
   ·exact hb
   ·exact absurd (if_neg hb) z
end L2
namespace L2
open PySem PySem.Spec PyProof.Rows
theorem uJ {l:PySem.W.OpenLaw}{n k:Nat}{q:Program}{loose:List Str}{XP:(Str->Option Value)->Heap->Prop}{YP:World->Heap->Prop}{d:DefRec}{K:Params->PySem.W.Frag}{CX:World->CXT}{sp:World->Sp}{x:Str}
  (hn:l.most=some n) (hn2:n <= sizeLine) (hdf:d.params.defaults=[]) (hr:gm k callerA)
  (hY:∀ (w:World) (h:Heap),YP w h->(K w.params).In h)
  (F:∀ (w:World) (mg:Str->Option Value) (fa:Addr) (h:Heap),(K w.params).In h->h.Ns mainGlobals mg->mg d.name=some (.ref fa) ->
   ∃ fd:FuncData,(∀ (s:Shared) (u:Value),BindsTo s fd ⟨[u],[]⟩ [(x,u)]) /\
    ∀ base:Heap,(K w.params).In base->base.Ns mainGlobals mg->eT l.prog w (K w.params) mg base (CX w) k fa fd [x] (sp w))
  (hsp:∀ (w:World) (H:Hp) (a:Addr) (ns:List Int),ns.length <= n->wZ H->SqL (K w.params) H a (ns.map V.int)->sp w [.ref a] H (λv _=>v=.bl true) λ_ _ _=>False)
  (hCX:∀ (w:World) (H:Hp) (s:Shared) (e:Value) (s':Shared),CX w [] H s (λ_ _ _=>False) e s'->False) :
  PySem.W.WalkO q loose XP YP l.row.toRowW d [] (λf vs=>PySem.call f vs):=by
 refine Att.attach_call hn hdf λw s₀ s₁ mg mb fa o pm cd doc a vs ns G Y ho hd hcd hmg hobj hints hlen hg=>?_
 have KX:=hY w _ Y
 obtain ⟨fd,hb,hF⟩:=F w mg fa _ KX G.T.g hmg
 exact rp KX G.T.g G.T.b G.T.builtins G.T.nolimit hg hobj hints (Nat.le_trans hlen hn2) hr hF hb (λH hO hS=>hsp w H a ns hlen hO hS) λH e s'=>hCX w H s₁ e s'
end L2
namespace L2
open PySem PySem.Spec PyProof.Rows
noncomputable def lE (s:Stmt):Arguments:=match s with
 | .FunctionDef _ a _ _ _ _ _ _ _ _=>a
 | _=>{ posonlyargs:=[],args:=[],vararg:=none,kwonlyargs:=[],kw_defaults:=[],kwarg:=none,defaults:=[] }
noncomputable def dC (s:Stmt):List Stmt:=match s with
 | .FunctionDef _ _ b _ _ _ _ _ _ _=>b
 | _=>[]
noncomputable def aH (s:Stmt):Scope:=match s with
 | .FunctionDef _ _ _ _ _ _ sc _ _ _=>sc
 | _=>{ kind:=.function,names:=[],isGenerator:=false,isCoroutine:=false }
noncomputable abbrev CX0:CXT:=λ_ _ _ _ _ _=>False
noncomputable abbrev E0:XK:=λ_ _ _=>False
theorem rq {X:Cx}:ly CX0 X E0:=λ_ _ _ _ _ _ _ h=>h.elim
section
variable {P:Program}{w:World}{K:PySem.W.Frag}{mg:Str->Option Value}{base:Heap}
end
section
variable {X:Cx}
end
noncomputable def ag (H H':Hp):Prop:=∀ b o,H b=some o->H' b=some o
theorem ag.refl (H:Hp):ag H H:=λ_ _ h=>h
theorem ag.trans {H H1 H2:Hp} (a:ag H H1) (b:ag H1 H2):ag H H2:=λc o h=>b c o (a c o h)
theorem ag.free {H H':Hp} (e:ag H H') {l:Addr} (h:H' l=Option.none):H l=Option.none:=by
 cases q:H l with
 | none=>rfl
 | some o =>
  rw [e l o q] at h
  cases h
theorem ag.seq {K:PySem.W.Frag}{H H':Hp}{a:Addr}{xs:List V} (e:ag H H') (h:SqL K H a xs):SqL K H' a xs:=by
 rcases h with (h|⟨o,h⟩)|h
 ·exact .inl (.inl (e _ _ h))
 ·exact .inl (.inr ⟨o,e _ _ h⟩)
 ·exact .inr h
end L2
namespace L2
open PySem PySem.Spec PyProof.Rows
section
variable {κ:Type} [DecidableEq κ]
noncomputable def mj (kvs:List (κ × V)) (k:κ):Option V:=(kvs.find? λkv=>decide (kv.1=k)).map (·.2)
noncomputable def uK (kvs:List (κ × V)) (k:κ) (v:V):List (κ × V) :=
 if (kvs.any λkv=>decide (kv.1=k))=true then kvs.map (λkv=>if kv.1=k then (kv.1,v) else kv) else kvs ++ [(k,v)]
noncomputable def BA (kvs:List (κ × V)) (k:κ):List (κ × V):=kvs.filter λkv=>decide (kv.1 ≠ k)
theorem jh {p:κ × V}{r:List (κ × V)}{k:κ} (e:p.1=k):mj (p::r) k=some p.2:=by simp [mj,List.find?_cons,e]
theorem ji {p:κ × V}{r:List (κ × V)}{k:κ} (e:¬ p.1=k):mj (p::r) k=mj r k:=by simp [mj,List.find?_cons,e]
theorem ml (k:κ):∀ kvs:List (κ × V),(kvs.any λkv=>decide (kv.1=k))=(mj kvs k).isSome
 | []=>rfl
 | p::r=>by
  rw [List.any_cons]
  by_cases e:p.1=k
  ·simp only [jh e,decide_eq_true e,Bool.true_or,Option.isSome_some]
  ·rw [ji e,decide_eq_false e,Bool.false_or];exact ml k r
theorem l9.isSome_eq {o:Option V}{u:Option Value} (r:l9 o u):o.isSome=u.isSome:=by
 cases o with
 | none=>cases u with
  | none=>rfl
  | some _=>exact (show False from r).elim
 | some _=>cases u with
  | none=>exact (show False from r).elim
  | some _=>rfl
theorem l9.getD {o:Option V}{u:Option Value}{d:V}{d':Value} (r:l9 o u) (rd:ar d d'):ar (o.getD d) (u.getD d'):=by
 cases o with
 | none=>cases u with
  | none=>exact rd
  | some _=>exact (show False from r).elim
 | some _=>cases u with
  | none=>exact (show False from r).elim
  | some _=>exact r
theorem KV.val {kvs:List (κ × V)}{vs:List (κ × Value)} (r:KV kvs vs) (k:κ):l9 (mj kvs k) (valueAt vs k):=by
 unfold KV at r
 induction r with
 | nil=>exact True.intro
 | @cons p q ps qs h t ih =>
  obtain ⟨h1,h2⟩:=h
  by_cases e:p.1=k
  ·have e':q.1=k:=h1.symm.trans e
   have b:valueAt (q::qs) k=some q.2:=by simp [valueAt,List.find?_cons,e']
   rw [jh e,b];exact h2
  ·have e':¬ q.1=k:=λz=>e (h1.trans z)
   have b:valueAt (q::qs) k=valueAt qs k:=by simp [valueAt,List.find?_cons,e']
   rw [ji e,b];exact ih
theorem KV.any {kvs:List (κ × V)}{vs:List (κ × Value)} (r:KV kvs vs) (k:κ):(kvs.any λkv=>decide (kv.1=k))=vs.any λkv=>decide (kv.1=k):=by
 unfold KV at r
 induction r with
 | nil=>rfl
 | cons h t ih=>rw [List.any_cons,List.any_cons,ih,h.1]
theorem KV.repl {kvs:List (κ × V)}{vs:List (κ × Value)} (r:KV kvs vs) (k:κ) {y:V}{u:Value} (ry:ar y u) :
  KV (kvs.map λkv=>if kv.1=k then (kv.1,y) else kv) (vs.map λkv=>if kv.1=k then (kv.1,u) else kv):=by
 unfold KV at r ⊢
 induction r with
 | nil=>exact .nil
 | @cons p q ps qs h t ih =>
  rw [List.map_cons,List.map_cons]
  refine .cons ?_ ih
  obtain ⟨h1,h2⟩:=h
  by_cases e:p.1=k
  ·rw [if_pos e,if_pos (h1.symm.trans e)];exact ⟨h1,ry⟩
  ·rw [if_neg e,if_neg (λz=>e (h1.trans z))];exact ⟨h1,h2⟩
theorem KV.put {kvs:List (κ × V)}{vs:List (κ × Value)} (r:KV kvs vs) (k:κ) {y:V}{u:Value} (ry:ar y u):KV (uK kvs k y) (stored vs k u):=by
 unfold uK stored
 rw [r.any k]
 by_cases e:(vs.any λkv=>decide (kv.1=k))=true
 ·rw [if_pos e,if_pos e];exact r.repl k ry
 ·rw [if_neg e,if_neg e];exact Paired.snoc r ⟨rfl,ry⟩
theorem KV.length {kvs:List (κ × V)}{vs:List (κ × Value)} (r:KV kvs vs):kvs.length=vs.length:=Paired.length r
end
theorem zq {P:Program}{w:World}{k:Key}{u:Value} (r:ar (kV k) u):(de P w).is k u=true:=by
 cases k with
 | inl i=>obtain ⟨t,e⟩:=(show ∃ t,u=Value.int i t from r);subst e;exact l7 P w i t
 | inr x=>obtain ⟨t,e⟩:=(show ∃ t,u=Value.str x t from r);subst e;exact l8 P w x t
theorem kK {P:Program}{w:World}:∀ {ks:List Key}{us:List Value},am (ks.map kV) us->ItemsAre (de P w) ks us
 | [],_,r=>by rw [List.map_nil] at r;cases r;exact .nil
 | k::ks,_,r=>by
  rw [List.map_cons] at r
  cases r with
  | cons h t=>exact .cons (zq h) (kK t)
noncomputable abbrev KT (H:Hp):List (List Key × V)->List (List Key × Addr × Value)->Prop:=Paired λp q=>p.1=q.1/\H q.2.1=some (.tup (p.1.map kV))/\ar p.2 q.2.2
theorem KT.val {H:Hp}{kvs:List (List Key × V)}{xs:List (List Key × Addr × Value)} (r:KT H kvs xs) (k:List Key):l9 (mj kvs k) ((atKey xs k).map (·.2)):=by
 induction r with
 | nil=>exact True.intro
 | @cons p q ps qs h t ih =>
  obtain ⟨h1,_,h2⟩:=h
  by_cases e:p.1=k
  ·have e':q.1=k:=h1.symm.trans e
   have b:atKey (q::qs) k=some q.2:=by simp [atKey,List.find?_cons,e']
   rw [jh e,b];exact h2
  ·have e':¬ q.1=k:=λz=>e (h1.trans z)
   have b:atKey (q::qs) k=atKey qs k:=by simp [atKey,List.find?_cons,e']
   rw [ji e,b];exact ih
theorem KT.repl {H:Hp}{kvs:List (List Key × V)}{xs:List (List Key × Addr × Value)} (r:KT H kvs xs) (k:List Key) {y:V}{u:Value} (ry:ar y u) :
  KT H (kvs.map λkv=>if kv.1=k then (kv.1,y) else kv) (xs.map (putAt k u)):=by
 induction r with
 | nil=>exact .nil
 | @cons p q ps qs h t ih =>
  rw [List.map_cons,List.map_cons]
  refine .cons ?_ ih
  obtain ⟨h1,h2,h3⟩:=h
  unfold putAt
  by_cases e:p.1=k
  ·rw [if_pos e,if_pos (h1.symm.trans e)];exact ⟨h1,h2,ry⟩
  ·rw [if_neg e,if_neg (λz=>e (h1.trans z))];exact ⟨h1,h2,h3⟩
theorem KT.put {H:Hp}{kvs:List (List Key × V)}{xs:List (List Key × Addr × Value)} (r:KT H kvs xs) (k:List Key) {b:Addr}{y:V}{u:Value} (hb:H b=some (.tup (k.map kV))) (ry:ar y u) :
  KT H (uK kvs k y) (storedH xs k b u):=by
 have e:(kvs.any λkv=>decide (kv.1=k))=(atKey xs k).isSome:=by
  rw [ml,(r.val k).isSome_eq,Option.isSome_map]
 unfold uK storedH
 rw [e]
 by_cases q:(atKey xs k).isSome=true
 ·rw [if_pos q,if_pos q];exact r.repl k ry
 ·rw [if_neg q,if_neg q];exact Paired.snoc r ⟨rfl,hb,ry⟩
theorem KT.keeps {H H':Hp}{kvs:List (List Key × V)}{xs:List (List Key × Addr × Value)} (r:KT H kvs xs) (ht:∀ b ys,H b=some (.tup ys)->H' b=some (.tup ys)):KT H' kvs xs :=
 Paired.mapP r λ_ _ z=>⟨z.1,ht _ _ z.2.1,z.2.2⟩
section
variable {P:Program}{w:World}{H:Hp}{h:Heap}{a:Addr}
theorem v0 {u:HO} (ok:HOk P w H h) (e:Rd H a u):bC P w H h a u:=e.ok ok
theorem v3 {kvs:List (Key × V)} (ok:HOk P w H h) (e:Rd H a (.dK kvs)):kvs.length <= sizeLine/\(a == sysModules)=false/\∃ vs,KV kvs vs/\h.DictOf (de P w) a vs :=
 show bC P w H h a (.dK kvs) from v0 ok e
theorem w4 {ks:List Key} (ok:HOk P w H h) (e:H a=some (.tup (ks.map kV))):(tupleKind (de P w)).is h ks a:=by
 obtain ⟨_,its,r,o,h1,h2,n,h3⟩:=(show bC P w H h a (.tup (ks.map kV)) from ok a _ e)
 exact ⟨o,its.toArray,n,h1,h2,h3,by simpa using kK r⟩
theorem zr {kvs:List (List Key × V)} (ok:HOk P w H h) (e:Rd H a (.dT kvs)):kvs.length <= sizeLine/\(a == sysModules)=false /\
  ∃ xs,KT H kvs xs/\h.DictOfH (tupleKind (de P w)) a xs:=by
 obtain ⟨z,y,xs,r,o,es,ep,h1,h2,h3,h4,h5⟩:=(show bC P w H h a (.dT kvs) from v0 ok e)
 refine ⟨z,y,xs,r,o,es,ep,h1,h2,h3,h4,λx hx=>?_,h5⟩
 have all:∀ {l:List (List Key × V)}{m:List (List Key × Addr × Value)},KT H l m->∀ x ∈ m,(tupleKind (de P w)).is h x.1 x.2.1:=by
  intro l m q
  induction q with
  | nil=>intro x hx;exact nomatch hx
  | @cons p q ps qs hq t ih =>
   intro x hx
   rcases List.mem_cons.mp hx with e|hx
   ·subst e
    exact w4 ok (by rw [<- hq.1];exact hq.2.1)
   ·exact ih x hx
 exact all r x hx
end
section
variable {X:Cx}{pins:List (Addr × Obj)}{σ:St}{H:Hp}{s:Shared}{a:Addr}{y v:V}{u r:Value}{o:Option V}{A:Around}{E:Value->Shared->Prop}
end
section
variable {X:Cx}{pins:List (Addr × Obj)}{σ:St}{H:Hp}{s:Shared}{a:Addr}{kvs:List (Key × V)}{k:Key}{u:Value}{A:Around}{E:Value->Shared->Prop}
end
section
variable {X:Cx}{o i e value:Expr}{pos pos' tpos:Pos}{td ty tv:TE}
end
section
variable {X:Cx}{pos:Pos}
end
noncomputable def IsD (H:Hp) (a:Addr):Prop:=(∃ kvs,Rd H a (.dK kvs)) \/ ∃ kvs,Rd H a (.dT kvs)
theorem w5 {X:Cx}{pins:List (Addr × Obj)}{σ:St}{H:Hp}{s:Shared}{a:Addr} (I:Inv X pins σ H s) (d:IsD H a) :
  s.TypeIs (.ref a) "dict"/\(∀ b,Value.ref a=.ref b->∃ ob,s.heap.get? b=some ob/\ob.dict=none)/\(a == sysModules)=false:=by
 rcases d with ⟨kvs,e⟩|⟨kvs,e⟩
 ·obtain ⟨_,hd,vs,_,dd⟩:=v3 I.hok e
  refine ⟨dd.typeIs,λb q=>?_,hd⟩
  cases q
  obtain ⟨ob,_,_,h1,h2,_⟩:=dd
  exact ⟨ob,h1,h2.2.1⟩
 ·obtain ⟨_,hd,xs,_,dd⟩:=zr I.hok e
  refine ⟨dd.typeIs,λb q=>?_,hd⟩
  cases q
  obtain ⟨ob,_,_,h1,h2,_⟩:=dd
  exact ⟨ob,h1,h2.2.1⟩
section
variable {X:Cx}{pins:List (Addr × Obj)}{σ:St}{H:Hp}{s:Shared}{a:Addr}{y d:V}{u r:Value}{o:Option V}{A:Around}{E:Value->Shared->Prop}
end
section
variable {X:Cx}{o e f:Expr}{apos cpos:Pos}{td ty tx:TE}
end
section
variable {X:Cx}{pins:List (Addr × Obj)}{σ:St}{H:Hp}{s:Shared}{a:Addr}{kvs:List (Key × V)}{A:Around}{E:Value->Shared->Prop}
end
section
variable {X:Cx}{pins:List (Addr × Obj)}{σ:St}{H:Hp}{s:Shared}{a:Addr}{y:V}{u:Value}{A:Around}{E:Value->Shared->Prop}
end
end L2
namespace L2.Srt
open PySem PySem.W PyProof.Rows
section
variable {O:KeyOrd}{key:Nat->O.α}{N:Nat}{cmp:Nat->Nat->(Bool->Shared->Prop)->Shared->Prop}{s:Shared}
noncomputable def kk (key:Nat->O.α) (p:Array Nat) (i:Nat):O.α:=key (p.getD i 0)
noncomputable def dX (key:Nat->O.α) (p:Array Nat) (k:Nat):Prop:=∀ i j,i <= j->j < k->O.kle (kk key p i) (kk key p j)
noncomputable def mo (key:Nat->O.α) (p:Array Nat) (k:Nat):Prop:=∀ i j,i <= j->j < k->O.kle (kk key p j) (kk key p i)
noncomputable def PB (N:Nat) (p:Array Nat):Prop:=p.Perm (List.range N).toArray
theorem PB.size {p:Array Nat} (h:PB N p):p.size=N:=by have:=h.size_eq;simpa using this
theorem PB.lt {p:Array Nat} (h:PB N p) {i:Nat} (hi:i < N):p.getD i 0 < N:=by
 have hs:i < p.size:=by rw [h.size];exact hi
 have hm:p[i] ∈ (List.range N):=by
  have e:=(Array.perm_iff_toList_perm.mp h).mem_iff (a:=p[i])
  simpa using e.mp (by simp)
 have e:p.getD i 0=p[i]:=by simp [Array.getD,hs]
 rw [e];exact List.mem_range.mp hm
theorem PB.rev {p:Array Nat} (h:PB N p) (i j:Nat):PB N (kas_rev p i j):=(mirror_perm _ _ _ _).trans h
theorem PB.bub {p:Array Nat} (h:PB N p) (i j:Nat):PB N (bubble p i j):=(bubble_perm _ _ _).trans h
theorem fv {p q:Array Nat}{i j:Nat} (h:p[i]?=q[j]?):kk key p i=kk key q j:=by
 unfold kk;rw [Array.getD_eq_getD_getElem?,Array.getD_eq_getD_getElem?,h]
theorem kL {p:Array Nat}{src d:Nat} (hs:src < p.size) (hd:d <= src) (k:Nat) :
  kk key (bubble p src d) k=if k=src - d then kk key p src else if src - d < k/\k <= src then kk key p (k - 1) else kk key p k:=by
 have e:=getElem?_bubble hs d hd k
 by_cases h1:k=src - d
 ·rw [if_pos h1] at e ⊢;exact fv e
 ·rw [if_neg h1] at e ⊢
  by_cases h2:src - d < k/\k <= src
  ·rw [if_pos h2] at e ⊢;exact fv e
  ·rw [if_neg h2] at e ⊢;exact fv e
theorem nK {p:Array Nat}{i j:Nat} (hj:j <= p.size) (k:Nat) :
  kk key (kas_rev p i j) k=if i <= k/\k < j then kk key p (i + j - 1 - k) else kk key p k:=by
 have e:=getElem?_mirror_all (i:=i) hj k
 unfold kas_rev
 by_cases h1:i <= k/\k < j
 ·rw [if_pos h1] at e ⊢;exact fv e
 ·rw [if_neg h1] at e ⊢;exact fv e
theorem cW {p:Array Nat}{i j:Nat} (hj:j <= p.size) (heq:∀ k,i <= k->k < j->kk key p k=kk key p (j - 1)) (k:Nat) :
  kk key (kas_rev p i j) k=kk key p k:=by
 rw [nK hj]
 split
 ·rw [heq _ (by omega) (by omega),heq k (by omega) (by omega)]
 ·rfl
variable (hc:∀ a b C,a < N->b < N->C (O.blt (key a) (key b)) s->cmp a b C s)
include hc
theorem mq {α:Type}{p:Array Nat}{i j:Nat}{k:Bool->KasT α}{Q:α->Shared->Prop} (hp:PB N p) (hi:i < N) (hj:j < N)
  (h:(k (O.blt (kk key p i) (kk key p j))).kasWp cmp Q s):(KasT.ask (p.getD i 0) (p.getD j 0) k).kasWp cmp Q s :=
 hc _ _ _ (hp.lt hi) (hp.lt hj) h
theorem rA {p:Array Nat}{nrem:Nat}{Q:Nat->Shared->Prop} (hp:PB N p) (hn:nrem <= N):∀ (f n:Nat),n + f=nrem->1 <= n->dX key p n ->
  (∀ m,n <= m->m <= nrem->dX key p m->(m=nrem \/ O.klt (kk key p m) (kk key p (m - 1)))->Q m s)->(kas_asc p f n).kasWp cmp Q s
 | 0,n,e,h1,hs,h=>h n (Nat.le_refl _) (by omega) hs (.inl (by omega))
 | f + 1,n,e,h1,hs,h=>by
  show (KasT.ask (p.getD n 0) (p.getD (n - 1) 0) λc=>if c=true then .ret n else kas_asc p f (n + 1)).kasWp cmp Q s
  refine mq hc hp (by omega) (by omega) ?_
  cases hless:O.blt (kk key p n) (kk key p (n - 1)) with
  | true =>
   rw [if_pos rfl]
   exact h n (Nat.le_refl _) (by omega) hs (.inr hless)
  | false =>
   rw [if_neg (by simp)]
   refine rA hp hn f (n + 1) (by omega) (by omega) (λi j hij hj=>?_) λm a b c d=>h m (by omega) b c d
   by_cases hjx:j < n
   ·exact hs i j hij hjx
   ·have hj':j=n:=by omega
    subst hj'
    by_cases hi':i=j
    ·subst hi';exact KeyOrd.kle_refl _
    ·exact KeyOrd.kle_trans (hs i (j - 1) (by omega) (by omega)) hless
theorem oT {p:Array Nat}{n nrem:Nat}{Q:Nat × Array Nat->Shared->Prop} (hp:PB N p) (hn:nrem <= N) (h1:1 <= n) (hnn:n <= nrem) (hs:mo key p n)
  (h:∀ m p',PB N p'->1 <= m->m <= nrem->dX key p' m->Q (m,p') s):(kas_tail3 n nrem p).kasWp cmp Q s:=by
 unfold kas_tail3
 rw [KasT.kasWp_bind]
 have hz:n <= p.size:=by rw [hp.size];omega
 refine rA hc (hp.rev 0 n) hn (nrem - n) n (by omega) h1 (λi j hij hj=>?_) λm a b c _=>h m _ (hp.rev 0 n) (by omega) b c
 rw [nK hz,nK hz,if_pos (by omega),if_pos (by omega)]
 exact hs _ _ (by omega) (by omega)
theorem lF {nrem:Nat}{Q:Array Nat × Nat × Nat->Shared->Prop} (hn:nrem <= N):∀ (f:Nat) (p:Array Nat) (n q:Nat),n + f=nrem->PB N p->mo key p n->q + 1 <= n ->
  (∀ i,n - (q + 1) <= i->i < n->kk key p i=kk key p (n - 1)) ->
  (∀ p' m q',n <= m->m <= nrem->PB N p'->mo key p' m->q' + 1 <= m->(∀ i,m - (q' + 1) <= i->i < m->kk key p' i=kk key p' (m - 1))->Q (p',m,q') s) ->
  (kas_desc f p n q).kasWp cmp Q s
 | 0,p,n,q,e,hp,hs,hq,he,h=>h p n q (Nat.le_refl _) (by omega) hp hs hq he
 | f + 1,p,n,q,e,hp,hs,hq,he,h=>by
  show (KasT.ask (p.getD n 0) (p.getD (n - 1) 0) λc =>
   if c=true then (if q > 0 then kas_desc f (kas_rev p (n - (q + 1)) n) (n + 1) 0 else kas_desc f p (n + 1) 0)
   else .ask (p.getD (n - 1) 0) (p.getD n 0) λd=>if d=true then .ret (p,n,q) else kas_desc f p (n + 1) (q + 1)).kasWp cmp Q s
  have hz:n <= p.size:=by rw [hp.size];omega
  refine mq hc hp (by omega) (by omega) ?_
  cases hless:O.blt (kk key p n) (kk key p (n - 1)) with
  | true =>
   rw [if_pos rfl]
   have step1:∀ p':Array Nat,(∀ k,kk key p' k=kk key p k)->mo key p' (n + 1):=by
    intro p' hk i j hij hj
    rw [hk,hk]
    by_cases hjx:j < n
    ·exact hs i j hij hjx
    ·have hj':j=n:=by omega
     subst hj'
     by_cases hi':i=j
     ·subst hi';exact KeyOrd.kle_refl _
     ·exact KeyOrd.kle_trans (KeyOrd.kle_of_klt hless) (hs i (j - 1) (by omega) (by omega))
   by_cases hneq:q > 0
   ·rw [if_pos hneq]
    exact lF hn f _ (n + 1) 0 (by omega) (hp.rev _ _) (step1 _ (cW hz he)) (by omega) (λi a b=>by congr 1;omega)
     λp' m q' a=>h p' m q' (by omega)
   ·rw [if_neg hneq]
    exact lF hn f p (n + 1) 0 (by omega) hp (step1 _ λ_=>rfl) (by omega) (λi a b=>by congr 1;omega) λp' m q' a=>h p' m q' (by omega)
  | false =>
   rw [if_neg (by simp)]
   refine mq hc hp (by omega) (by omega) ?_
   cases hlarger:O.blt (kk key p (n - 1)) (kk key p n) with
   | true =>
    rw [if_pos rfl]
    exact h p n q (Nat.le_refl _) (by omega) hp hs hq he
   | false =>
    rw [if_neg (by simp)]
    have heqx:kk key p n=kk key p (n - 1):=KeyOrd.kle_antisymm hlarger hless
    refine lF hn f p (n + 1) (q + 1) (by omega) hp (λi j hij hj=>?_) (by omega) (λi a b=>?_) λp' m q' a=>h p' m q' (by omega)
    ·by_cases hjx:j < n
     ·exact hs i j hij hjx
     ·have hj':j=n:=by omega
      subst hj'
      by_cases hi':i=j
      ·subst hi';exact KeyOrd.kle_refl _
      ·rw [heqx];exact hs i (j - 1) (by omega) (by omega)
    ·rw [show n + 1 - 1=n by omega]
     by_cases hix:i=n
     ·subst hix;rfl
     ·rw [heqx];exact he i (by omega) (by omega)
theorem jj {p:Array Nat}{n nrem:Nat}{Q:Nat × Array Nat->Shared->Prop} (hp:PB N p) (hn:nrem <= N) (hnn:n + 1 <= nrem) (hs:mo key p (n + 1))
  (h:∀ m p',PB N p'->1 <= m->m <= nrem->dX key p' m->Q (m,p') s):(kas_descPart n nrem p).kasWp cmp Q s:=by
 unfold kas_descPart
 rw [KasT.kasWp_bind]
 refine lF hc hn (nrem - (n + 1)) p (n + 1) 0 (by omega) hp hs (by omega) (λi a b=>by congr 1;omega) λp' m q' hm1 hm2 hp' hs' hq he=>?_
 dsimp only
 have hz:m <= p'.size:=by rw [hp'.size];omega
 by_cases hneq:q' > 0
 ·rw [if_pos hneq]
  refine oT hc (hp'.rev _ _) hn (by omega) hm2 (λi j hij hj=>?_) h
  rw [cW hz he,cW hz he]
  exact hs' i j hij hj
 ·rw [if_neg hneq]
  exact oT hc hp' hn (by omega) hm2 hs' h
theorem uL {p:Array Nat}{nrem:Nat}{Q:Nat × Array Nat->Shared->Prop} (hp:PB N p) (hn:nrem <= N) (h1:1 <= nrem)
  (h:∀ m p',PB N p'->1 <= m->m <= nrem->dX key p' m->Q (m,p') s):(kas_count nrem p).kasWp cmp Q s:=by
 unfold kas_count
 rw [KasT.kasWp_bind]
 refine rA hc hp hn (nrem - 1) 1 (by omega) (Nat.le_refl _) (λi j hij hj=>by have:i=j:=(by omega);subst this;exact KeyOrd.kle_refl _) λn hn1 hn2 hsn hor=>?_
 by_cases hnn:n=nrem
 ·rw [if_pos (by simpa using hnn)]
  exact h n p hp hn1 hn2 hsn
 ·rw [if_neg (by simpa using hnn)]
  have hlt:O.klt (kk key p n) (kk key p (n - 1)):=hor.resolve_left hnn
  by_cases hgt:n > 1
  ·rw [if_pos hgt]
   refine mq hc hp (by omega) (by omega) ?_
   cases hrose:O.blt (kk key p 0) (kk key p (n - 1)) with
   | true =>
    rw [if_pos rfl]
    exact h n p hp hn1 hn2 hsn
   | false =>
    rw [if_neg (by simp)]
    have hsz:n <= p.size:=by rw [hp.size];omega
    have hall:∀ k,0 <= k->k < n->kk key p k=kk key p (n - 1):=by
     intro k _ hk
     have a1:=hsn 0 k (by omega) hk
     have a2:=hsn k (n - 1) (by omega) (by omega)
     exact KeyOrd.kle_antisymm a2 (KeyOrd.kle_trans hrose a1)
    refine jj hc (hp.rev _ _) hn (by omega) (λi j hij hj=>?_) h
    rw [cW hsz hall,cW hsz hall]
    by_cases hjn:j < n
    ·rw [hall i (by omega) (by omega),hall j (by omega) hjn];exact KeyOrd.kle_refl _
    ·have hj':j=n:=by omega
     subst hj'
     by_cases hi':i=j
     ·subst hi';exact KeyOrd.kle_refl _
     ·rw [hall i (by omega) (by omega)];exact KeyOrd.kle_of_klt hlt
  ·rw [if_neg hgt]
   have hn1':n=1:=by omega
   subst hn1'
   refine jj hc hp hn (by omega) (λi j hij hj=>?_) h
   by_cases hi':i=j
   ·subst hi';exact KeyOrd.kle_refl _
   ·have hi0:i=0:=by omega
    have hj1:j=1:=by omega
    subst hi0;subst hj1
    exact KeyOrd.kle_of_klt hlt
theorem lH {p:Array Nat}{k:Nat}{Q:Nat->Shared->Prop} (hp:PB N p) (hk:k < N) (hs:dX key p k):∀ (f l r:Nat),r - l <= f->l <= r->r <= k ->
  (∀ i,i < l->O.kle (kk key p i) (kk key p k))->(∀ i,r <= i->i < k->O.klt (kk key p k) (kk key p i)) ->
  (∀ l,l <= k->(∀ i,i < l->O.kle (kk key p i) (kk key p k))->(∀ i,l <= i->i < k->O.klt (kk key p k) (kk key p i))->Q l s)->(kas_place p k f l r).kasWp cmp Q s
 | 0,l,r,hf,hlr,hrk,hlo,hhi,h=>by
  have:l=r:=by omega
  subst this
  exact h l hrk hlo hhi
 | f + 1,l,r,hf,hlr,hrk,hlo,hhi,h=>by
  show (if l >= r then KasT.ret l else .ask (p.getD k 0) (p.getD ((l + r) / 2) 0) λc=>if c=true then kas_place p k f l ((l + r) / 2) else kas_place p k f ((l + r) / 2 + 1) r).kasWp cmp Q s
  by_cases hge:l >= r
  ·rw [if_pos hge]
   have:l=r:=by omega
   subst this
   exact h l hrk hlo hhi
  ·rw [if_neg hge]
   refine mq hc hp hk (by omega) ?_
   cases hless:O.blt (kk key p k) (kk key p ((l + r) / 2)) with
   | true =>
    rw [if_pos rfl]
    exact lH hp hk hs f l ((l + r) / 2) (by omega) (by omega) (by omega) hlo (λi a b=>KeyOrd.klt_of_klt_of_kle hless (hs _ _ a b)) h
   | false =>
    rw [if_neg (by simp)]
    exact lH hp hk hs f ((l + r) / 2 + 1) r (by omega) (by omega) (by omega) (λi a=>KeyOrd.kle_trans (hs i ((l + r) / 2) (by omega) (by omega)) (show O.kle _ _ from hless)) hhi h
theorem v4 {Q:Array Nat->Shared->Prop}:∀ (f:Nat) (p:Array Nat) (k:Nat),k + f=N->PB N p->dX key p k->(∀ p',PB N p'->dX key p' N->Q p' s)->(kas_bin f p k).kasWp cmp Q s
 | 0,p,k,e,hp,hs,h=>by
  have:k=N:=by omega
  subst this
  exact h p hp hs
 | f + 1,p,k,e,hp,hs,h=>by
  show ((kas_place p k k 0 k).bind λl=>kas_bin f (bubble p k (k - l)) (k + 1)).kasWp cmp Q s
  rw [KasT.kasWp_bind]
  refine lH hc hp (by omega) hs k 0 k (by omega) (by omega) (by omega) (λi a=>by omega) (λi a b=>by omega) λl hl hlo hhi=>?_
  refine v4 f _ (k + 1) (by omega) (hp.bub _ _) (λi j hij hj=>?_) h
  have hks:k < p.size:=by rw [hp.size];omega
  rw [kL hks (by omega),kL hks (by omega),show k - (k - l)=l by omega]
  repeat' split
  all_goals first
   | (exfalso;omega)
   | exact KeyOrd.kle_refl _
   | exact hlo _ (by omega)
   | exact KeyOrd.kle_of_klt (hhi _ (by omega) (by omega))
   | exact hs _ _ (by omega) (by omega)
theorem w8 {Q:Array Nat->Shared->Prop} (h1:1 <= N) (h:∀ p,PB N p->dX key p N->Q p s):(kas_sort N).kasWp cmp Q s:=by
 unfold kas_sort
 rw [KasT.kasWp_bind]
 refine uL hc (Array.Perm.refl _) (Nat.le_refl _) h1 λm p' hp' hm1 hm2 hs'=>?_
 dsimp only
 by_cases hlt:m < N
 ·rw [if_pos hlt,show max m 1=m by omega]
  exact v4 hc _ _ _ (by omega) hp' hs' h
 ·rw [if_neg hlt]
  have:m=N:=by omega
  subst this
  exact h p' hp' hs'
end
end L2.Srt
namespace L2.Srt
open PySem PyProof.Rows
theorem jk:∀ a:List Int,HT.lexLt a a=false
 | []=>rfl
 | x::r=>by rw [HT.lexLt_cons,if_pos rfl];exact jk r
theorem ii:∀ a b c:List Int,HT.lexLt a b=true->HT.lexLt b c=true->HT.lexLt a c=true
 | [],[],_,h,_=>by cases h
 | [],_::_,[],_,h=>by cases h
 | [],_::_,_::_,_,_=>rfl
 | _::_,[],_,h,_=>by cases h
 | _::_,_::_,[],_,h=>by cases h
 | x::a,y::b,z::c,h1,h2=>by
  rw [HT.lexLt_cons] at h1 h2 ⊢
  by_cases e1:x=y
  ·rw [if_pos e1] at h1
   by_cases e2:y=z
   ·rw [if_pos e2] at h2
    rw [if_pos (e1.trans e2)]
    exact ii a b c h1 h2
   ·rw [if_neg e2] at h2
    rw [if_neg (λq=>e2 (e1.symm.trans q)),e1]
    exact h2
  ·rw [if_neg e1] at h1
   have q1:=of_decide_eq_true h1
   by_cases e2:y=z
   ·rw [if_neg (λq=>e1 (q.trans e2.symm)),<- e2]
    exact h1
   ·rw [if_neg e2] at h2
    have q2:=of_decide_eq_true h2
    rw [if_neg (by omega)]
    exact decide_eq_true (by omega)
theorem ij:∀ a b:List Int,HT.lexLt a b=false->HT.lexLt b a=false->a=b
 | [],[],_,_=>rfl
 | [],_::_,h,_=>by cases h
 | _::_,[],_,h=>by cases h
 | x::a,y::b,h1,h2=>by
  rw [HT.lexLt_cons] at h1 h2
  by_cases e:x=y
  ·rw [if_pos e] at h1
   rw [if_pos e.symm] at h2
   rw [e,ij a b h1 h2]
  ·rw [if_neg e] at h1
   rw [if_neg (λq=>e q.symm)] at h2
   have q1:=of_decide_eq_false h1
   have q2:=of_decide_eq_false h2
   omega
theorem uM (a b c:List Int) (h:HT.lexLt a c=true):HT.lexLt a b=true \/ HT.lexLt b c=true:=by
 cases h1:HT.lexLt a b with
 | true=>exact .inl rfl
 | false =>
  cases h2:HT.lexLt b a with
  | true=>exact .inr (ii b a c h2 h)
  | false=>rw [ij a b h1 h2] at h;exact .inr h
noncomputable def dz:KeyOrd:=⟨List Int,HT.lexLt,jk,ii,uM,ij⟩
noncomputable def cX:KeyOrd:=⟨Int,λa b=>decide (a < b),λa=>decide_eq_false (by omega),λa b c h1 h2=>decide_eq_true (by have:=of_decide_eq_true h1;have:=of_decide_eq_true h2;omega),
 λa b c h=>by
  have:=of_decide_eq_true h
  by_cases q:a < b
  ·exact .inl (decide_eq_true q)
  ·exact .inr (decide_eq_true (by omega)),
 λa b h1 h2=>by have:=of_decide_eq_false h1;have:=of_decide_eq_false h2;omega⟩
section
variable (O:KeyOrd)
noncomputable def iU (x:O.α):List O.α->List O.α
 | []=>[x]
 | y::r=>if O.blt y x then y::iU x r else x::y::r
noncomputable def fc:List O.α->List O.α
 | []=>[]
 | x::r=>iU O x (fc r)
theorem ik (x:O.α):∀ l,(iU O x l).Perm (x::l)
 | []=>.refl _
 | y::r=>by
  show (if O.blt y x then y::iU O x r else x::y::r).Perm _
  split
  ·exact (List.Perm.cons y (ik x r)).trans (.swap x y r)
  ·exact .refl _
theorem dL:∀ l,(fc O l).Perm l
 | []=>.refl _
 | x::r=>(ik O x _).trans (.cons x (dL r))
theorem jl (x:O.α):∀ l:List O.α,l.Pairwise O.kle->(iU O x l).Pairwise O.kle
 | [],_=>List.pairwise_singleton _ _
 | y::r,h=>by
  show (if O.blt y x then y::iU O x r else x::y::r).Pairwise O.kle
  obtain ⟨h1,h2⟩:=List.pairwise_cons.mp h
  by_cases q:O.blt y x=true
  ·rw [if_pos q]
   refine List.pairwise_cons.mpr ⟨λz hz=>?_,jl x r h2⟩
   rcases List.mem_cons.mp ((ik O x r).mem_iff.mp hz) with e|e
   ·rw [e];exact KeyOrd.kle_of_klt q
   ·exact h1 z e
  ·rw [if_neg q]
   have q':O.kle x y:=Bool.eq_false_iff.mpr q
   refine List.pairwise_cons.mpr ⟨λz hz=>?_,h⟩
   rcases List.mem_cons.mp hz with e|e
   ·rw [e];exact q'
   ·exact KeyOrd.kle_trans q' (h1 z e)
theorem dq:∀ l,(fc O l).Pairwise O.kle
 | []=>List.Pairwise.nil
 | x::r=>jl O x _ (dq r)
theorem gF:∀ {a b:List O.α},a.Perm b->a.Pairwise O.kle->b.Pairwise O.kle->a=b
 | [],b,p,_,_=>p.nil_eq
 | x::a,[],p,_,_=>by have:=p.length_eq;simp at this
 | x::a,y::b,p,ha,hb=>by
  obtain ⟨a1,a2⟩:=List.pairwise_cons.mp ha
  obtain ⟨b1,b2⟩:=List.pairwise_cons.mp hb
  have e:x=y:=by
   have hx:x ∈ y::b:=p.mem_iff.mp (.head _)
   have hy:y ∈ x::a:=p.mem_iff.mpr (.head _)
   rcases List.mem_cons.mp hx with q|q
   ·exact q
   ·rcases List.mem_cons.mp hy with q'|q'
    ·exact q'.symm
    ·exact KeyOrd.kle_antisymm (a1 y q') (b1 x q)
  subst e
  rw [gF (p.cons_inv) a2 b2]
theorem gG {a l:List O.α} (p:a.Perm l) (h:a.Pairwise O.kle):a=fc O l:=gF O (p.trans (dL O l).symm) h (dq O l)
theorem kn {a b:List O.α} (p:a.Perm b):fc O a=fc O b:=gG O ((dL O a).trans p) (dq O a)
theorem mw {a:List O.α} (h:a.Pairwise O.kle):fc O a=a:=(gG O (.refl a) h).symm
end
theorem fS {α:Type} (xs:List α) (d:α):(List.range xs.length).map (λi=>xs.getD i d)=xs:=by
 apply List.ext_getElem?
 intro i
 rw [List.getElem?_map]
 by_cases q:i < xs.length
 ·simp [List.getElem?_range,q]
 ·simp [List.getElem?_range,q]
theorem w9 {O:KeyOrd}{d:O.α}{xs:List O.α}{p:Array Nat} (hp:PB xs.length p) (hr:dX (λi=>xs.getD i d) p xs.length):p.toList.map (λi=>xs.getD i d)=fc O xs:=by
 refine gG O ?_ ?_
 ·have h:=(Array.perm_iff_toList_perm.mp hp).map λi=>xs.getD i d
  have e:(List.map (λi=>xs.getD i d) (List.range xs.length).toArray.toList)=xs:=fS xs d
  rw [e] at h
  exact h
 ·rw [List.pairwise_iff_getElem]
  intro i j hi hj hij
  rw [List.length_map,Array.length_toList] at hi hj
  have hz:=hp.size
  have q:=hr i j (Nat.le_of_lt hij) (by omega)
  simp only [List.getElem_map,Array.getElem_toList]
  have ei:p.getD i 0=p[i]:=by simp [Array.getD,hi]
  have ej:p.getD j 0=p[j]:=by simp [Array.getD,hj]
  unfold kk at q
  rw [ei,ej] at q
  exact q
end L2.Srt
namespace L2.Srt
open PySem PySem.W PySem.Calls PyProof.Rows
section
variable {prog:Program}{w:World}{A:Around}{E:Value->Shared->Prop}{s:Shared}
noncomputable def KOk (κ:SortKind):Prop:=κ=tuples' true \/ κ=general' \/ κ=oneType'
theorem lI {KO:SortKind->Prop}{O:KeyOrd}{key:Nat->O.α}{a:Addr}{vs:List Value}{n:Nat}{R:PySem.Fin->Shared->Prop} (ho:s.heap.get? a=some (seqObj "list" vs.toArray n)) (h64:vs.length < 64)
  (hk:2 <= vs.length->∀ (s':Shared) (Q:SortKind->Shared->Prop),(∀ b o,b ≠ a->s.heap.get? b=some o->s'.heap.get? b=some o)->(∀ κ,KO κ->Q κ s')->wpAny (model prog w) A (keyKind' vs.toArray) Q (λ_ _=>False) s')
  (hc:∀ κ,KO κ->∀ (s':Shared) (i j:Nat) (C:Bool->Shared->Prop),(∀ b o,b ≠ a->s.heap.get? b=some o->s'.heap.get? b=some o)->i < vs.length->j < vs.length->C (O.blt (key i) (key j)) s' ->
   wpAny (model prog w) A (keyLt' κ (vs.getD i Value.none) (vs.getD j Value.none)) C (λ_ _=>False) s')
  (h:∀ p:Array Nat,PB vs.length p->dX key p vs.length->R (.done (.ret .none)) { s with heap:=sortedHeap s.heap a vs (p.toList.map λi=>vs.getD i Value.none).toArray }) :
  wpAny (model prog w) A (Builtin.«list.sort» ⟨[.ref a],[]⟩) R E s:=by
 rw [list_sort_plain]
 have ha:a < s.heap.objs.size:=Heap.lt_size ho
 refine wpAny_bind (listItems_at ho rfl ?_)
 refine wpAny_bind (listUpdate_at ho rfl ?_ (by rw [List.size_toArray,sizeLine_eq];omega) (Nat.zero_le _))
 obtain ⟨e1,ho1⟩:∃ e1,(s.heap.update a (Obj.mapSeq λ_=>(#[]:Array Value))).get? a=some (seqObj "list" #[] e1):=⟨_,get?_update_seq ho λ_=>#[]⟩
 refine wpAny_bind (seqEpoch_at ho1 rfl ?_)
 refine wpAny_bind (wpAny_newTuple ?_ (by show vs.length <= _;rw [sizeLine_eq];omega))
 refine wpAny_bind (wpAny_newList ?_ (Nat.zero_le _))
 refine wpAny_holding ?_
 have ho6:(((s.heap.update a (Obj.mapSeq λ_=>(#[]:Array Value))).push (seqObj "tuple" vs.toArray 0)).push (seqObj "list" #[] 0)).get? a=some (seqObj "list" #[] e1):=Heap.get?_push_of_some _ (Heap.get?_push_of_some _ ho1)
 have kp:∀ b o,b ≠ a->s.heap.get? b=some o->(((s.heap.update a (Obj.mapSeq λ_=>(#[]:Array Value))).push (seqObj "tuple" vs.toArray 0)).push (seqObj "list" #[] 0)).get? b=some o:=λb o hb e =>
  Heap.get?_push_of_some _ (Heap.get?_push_of_some _ ((Heap.get?_update_other _ _ (Ne.symm hb)).trans e))
 show wpAny (model prog w) A _ R E { s with heap:=((s.heap.update a (Obj.mapSeq λ_=>(#[]:Array Value))).push (seqObj "tuple" vs.toArray 0)).push (seqObj "list" #[] 0) }
 dsimp only
 have hsz:vs.toArray.size=vs.length:=by simp
 by_cases h2:vs.toArray.size < 2
 ·rw [if_pos h2,if_pos h2]
  refine wpAny_bind (wpAny_pure ?_)
  rw [StateT.run_pure]
  refine wpAny_bind (wpAny_pure ?_)
  dsimp only
  refine wpAny_bind (seqEpoch_at ho6 rfl ?_)
  refine wpAny_bind (listUpdate_at ho6 rfl ?_ (Nat.zero_le _) (by rw [Array.size_map];show (pairsOf vs).size <= _;rw [pairsOf_size,sizeLine_eq];omega))
  simp only [bne_self_eq_false,Bool.false_eq_true,if_false]
  have e:((arrOf (SortSt.mk' general' (vs.toArray.zip vs.toArray) #[] 7 none)).map (·.2))=((List.range vs.length).toArray.toList.map λi=>vs.getD i Value.none).toArray:=by
   have e2:(arrOf (SortSt.mk' general' (vs.toArray.zip vs.toArray) #[] 7 none))=vs.toArray.zip vs.toArray:=rfl
   rw [e2]
   apply Array.toList_inj.mp
   rw [fS]
   simp [List.map_snd_zip]
  refine wpAny_pure ?_
  have q:=h (List.range vs.length).toArray (Array.Perm.refl _) (λi j hij hj=>by
   have:i=j:=by omega
   subst this;exact KeyOrd.kle_refl _)
  rw [<- e] at q
  exact q
 ·rw [if_neg h2,if_neg h2]
  have h2':2 <= vs.length:=by omega
  refine wpAny_bind (wpAny_mono (hk h2' _ (λκ s0=>KO κ/\s0={ s with heap:=((s.heap.update a (Obj.mapSeq λ_=>(#[]:Array Value))).push (seqObj "tuple" vs.toArray 0)).push (seqObj "list" #[] 0) }) kp λκ hκ=>⟨hκ,rfl⟩) (λκ s0 hκ=>?_) λ_ _ x=>x.elim)
  obtain ⟨hκ,rfl⟩:=hκ
  refine wpAny_bind (wpAny_mono (kat_run (Q:=λst' s'=>∃ p:Array Nat,p.size=vs.length/\arrOf st'=p.map (kas_item (vs.toArray.zip vs.toArray))/\failedOf st'=none/\PB vs.length p/\dX key p vs.length/\s'={ s with heap:=((s.heap.update a (Obj.mapSeq λ_=>(#[]:Array Value))).push (seqObj "tuple" vs.toArray 0)).push (seqObj "list" #[] 0) })
   (G:=λp s'=>PB vs.length p/\dX key p vs.length/\s'={ s with heap:=((s.heap.update a (Obj.mapSeq λ_=>(#[]:Array Value))).push (seqObj "tuple" vs.toArray 0)).push (seqObj "list" #[] 0) })
   rfl h2' h64 (λp' st' s' a1 a2 a3 a4=>⟨p',a1,a2,a3,a4⟩)
   (w8 (key:=key) (λi j C hi hj q=>hc κ hκ _ i j C kp hi hj q) (by omega) λp hp hr=>⟨hp,hr,rfl⟩)) ?_ λ_ _ e=>e)
  rintro ⟨⟨⟩,st'⟩ s' ⟨p,hp,har,hf,hpb,hrs,rfl⟩
  dsimp only
  have hout:=kat_snds rfl har
  refine wpAny_bind (seqEpoch_at ho6 rfl ?_)
  refine wpAny_bind (listUpdate_at ho6 rfl ?_ (Nat.zero_le _) (by rw [hout];refine Nat.le_trans (Nat.le_of_eq ?_) (show vs.length <= _ by rw [sizeLine_eq];omega);simp [hp]))
  rw [hf,hout]
  simp only [bne_self_eq_false,Bool.false_eq_true,if_false]
  exact wpAny_pure (h p hpb hrs)
theorem iL {fin:Bool}{C:Bool->Shared->Prop}:∀ {vs ws:List Value}{ns ms:List Int} (i:Nat),IntsAre vs ns->IntsAre ws ms->fin=decide (ns.length < ms.length)->C (HT.lexLt ns ms) s->KatLex prog w A true fin C (vs.zip ws) i s
 | _,_,_,_,i,.nil,.nil,hf,h=>by
  rw [List.zip_nil_left]
  refine kat_nil ?_
  rw [hf]
  exact h
 | _,_,_,_,i,.nil,.cons c u hw,hf,h=>by
  rw [List.zip_nil_left]
  refine kat_nil ?_
  rw [hf,decide_eq_true (by simp)]
  exact h
 | _,_,_,_,i,.cons a t hv,.nil,hf,h=>by
  rw [List.zip_nil_right]
  refine kat_nil ?_
  rw [hf,decide_eq_false (by simp)]
  exact h
 | _,_,_,_,i,.cons (ns:=ns) a t hv,.cons (ns:=ms) c u hw,hf,h=>by
  rw [List.zip_cons_cons]
  rw [HT.lexLt_cons] at h
  refine kat_cons (wpAny_eqBool_int ?_)
  by_cases e:a=c
  ·rw [if_pos e] at h
   have q:(a == c)=true:=by rw [e];exact beq_self_eq_true c
   rw [q]
   refine kat_yes (iL (i + 1) hv hw ?_ h)
   rw [hf]
   simp
  ·rw [if_neg e] at h
   have q:(a == c)=false:=beq_eq_false_iff_ne.mpr e
   rw [q]
   refine kat_no ?_
   cases i with
   | zero=>exact oneLt_int h
   | succ i=>exact kat_one _ _ (lt_int h)
theorem oU {κ:SortKind} (hk:KOk κ) {a b:Addr}{its its2:Array Value}{ns ms:List Int}{C:Bool->Shared->Prop} (ha:IsTup s.heap a its) (hb:IsTup s.heap b its2) (hi:IntsAre its.toList ns) (hj:IntsAre its2.toList ms)
  (hu:A.units < cLine) (h:C (HT.lexLt ns ms) s):wpAny (model prog w) A (keyLt' κ (.ref a) (.ref b)) C E s:=by
 rcases hk with rfl|rfl|rfl
 ·obtain ⟨o,ho,_,n,hd⟩:=id ha
  obtain ⟨o2,ho2,_,n2,hd2⟩:=id hb
  refine kat_lt ho hd ho2 hd2 (iL 0 hi hj ?_ h)
  have z1:its.size=ns.length:=by rw [<- hi.length];simp
  have z2:its2.size=ms.length:=by rw [<- hj.length];simp
  rw [z1,z2]
 ·show wpAny _ _ (oneLt' false (.ref a) (.ref b)) _ _ _
  exact kat_one _ _ (HT.lt_tupInts ha hb hi hj hu h)
 ·rw [keyLt'_oneType,oneLt'_eq]
  simp only [if_true]
  refine wpAny_bind (wpAny_cRoomFor hu ?_)
  obtain ⟨⟨cls,dd,data,sl⟩,ho,hc,n,hd⟩:=id ha
  obtain ⟨⟨cls2,dd2,data2,sl2⟩,ho2,hc2,n2,hd2⟩:=id hb
  simp only at hc hd hc2 hd2
  subst hc hd hc2 hd2
  refine wpAny_bind (wpAny_callSpecialIfBound?_slot (T:="tuple") ⟨_,ho,rfl⟩ PySem.F.slot_tuple_lt (call_meets PySem.F.slot_tuple_lt (T:="tuple") ⟨_,ho,rfl⟩ PySem.F.entry_tuple_lt (PySem.F.args_tuple_lt_2 _ _) (HT.tuple_lt_ints a b its its2 n n2 dd dd2 sl sl2 ns ms hi hj) ⟨ho,ho2,?_⟩))
  exact wpAny_truthy_bool h
theorem iM:∀ (vs:List Value) {Q:List (Option Value)->Shared->Prop},(∀ v ∈ vs,∃ a its ns,v=.ref a/\IsTup s.heap a its/\IntsAre its.toList ns) ->
  (∀ fs:List (Option Value),fs.length=vs.length->(∀ f ∈ fs,∀ v,f=some v->∃ n t,v=Value.int n t)->Q fs s)->wpAny (model prog w) A (vs.mapM firstOfTuple') Q E s
 | [],Q,_,h=>by rw [List.mapM_nil];exact wpAny_pure (h [] rfl (by simp))
 | v::vs,Q,hv,h=>by
  obtain ⟨a,its,ns,rfl,⟨o,ho,hc,n,hd⟩,hi⟩:=hv v (.head _)
  rw [List.mapM_cons]
  refine wpAny_bind ?_
  rw [kas_first_eq]
  refine wpAny_bind (Looks.here (show Looks (model prog w) s.heap (typeOf (.ref a)) o.cls from (Looks.ld ho).andThen .now) ?_)
  rw [hc,if_neg (by first|decide|simp)]
  refine wpAny_bind (listItems_at ho hd (wpAny_pure ?_))
  refine wpAny_bind (iM vs (Q:=λbs s'=>wpAny (model prog w) A (pure (its[0]?::bs)) Q E s') (λu hu=>hv u (.tail _ hu)) λfs hl hf=>?_)
  refine wpAny_pure (h _ (by simp [hl]) λf hm u e=>?_)
  rcases List.mem_cons.mp hm with z|z
  ·rw [z] at e
   have hmem:u ∈ its.toList:=by
    rw [<- Array.getElem?_toList] at e
    exact List.mem_of_getElem? e
   exact hi.all u hmem
  ·exact hf f z u e
theorem kM {vs:List Value}{Q:SortKind->Shared->Prop} (h2:2 <= vs.length) (hv:∀ v ∈ vs,∃ a its ns,v=.ref a/\IsTup s.heap a its/\IntsAre its.toList ns) (h:∀ κ,KOk κ->Q κ s) :
  wpAny (model prog w) A (keyKind' vs.toArray) Q E s:=by
 rw [kat_kind_eq,List.mapM_toArray,map_eq_pure_bind]
 refine wpAny_bind (wpAny_bind (iM vs hv λfs hl hf=>wpAny_pure ?_))
 by_cases hall:(fs.toArray.all λx=>x.isSome)=true
 ·rw [if_pos hall]
  refine wpAny_bind (wpAny_rule ?_)
  have hfm:(fs.toArray.filterMap id)=(fs.filterMap id).toArray:=by simp
  rw [hfm,oneTypeOnly'_eq,List.mapM_toArray,map_eq_pure_bind]
  have hints:∀ v ∈ fs.filterMap id,∃ n t,v=Value.int n t:=λv hm=>by
   obtain ⟨f,hm',e⟩:=List.mem_filterMap.mp hm
   exact hf f hm' v e
  have hne:0 < (fs.filterMap id).length:=by
   match fs,hl,hall with
   | [],hl,_=>simp at hl;omega
   | f::r,_,hall =>
    have:f.isSome=true:=by simp at hall;exact hall.1
    obtain ⟨u,rfl⟩:=Option.isSome_iff_exists.mp this
    simp
  refine wpAny_bind (wpAny_bind (wpAny_bind (kas_mapM (r:=Value.type "int") _ (λv hm Q' hq=>?_) (wpAny_pure ?_))))
  ·obtain ⟨n,t,rfl⟩:=hints v hm
   exact wpAny_pure hq
  ·have h0:(List.map (λ_=>Value.type "int") (fs.filterMap id)).toArray[0]?=some (Value.type "int"):=by
    simp [hne]
   rw [h0]
   have hall2:((List.map (λ_=>Value.type "int") (fs.filterMap id)).toArray.all λx=>x == Value.type "int")=true:=by
    simp only [List.all_toArray,List.all_map,List.all_eq_true]
    intro _ _
    rfl
   simp only [hall2,if_true]
   exact wpAny_pure (wpAny_pure (h _ (.inl rfl)))
 ·rw [if_neg hall]
  by_cases hf0:((fs.toArray[0]?).bind id).isSome=true
  ·rw [if_pos hf0]
   exact wpAny_pure (h _ (.inr (.inl rfl)))
  ·rw [if_neg hf0]
   rw [oneTypeOnly'_eq,List.mapM_toArray,map_eq_pure_bind]
   refine wpAny_bind (wpAny_bind (wpAny_bind (kas_mapM (r:=Value.type "tuple") _ (λv hm Q' hq=>?_) (wpAny_pure ?_))))
   ·obtain ⟨a,its,ns,rfl,⟨o,ho,hc,n,hd⟩,hi⟩:=hv v hm
    have q:Looks (model prog w) s.heap (typeOf (.ref a)) o.cls:=(Looks.ld ho).andThen .now
    rw [hc] at q
    exact q.here hq
   ·have h0:(List.map (λ_=>Value.type "tuple") vs).toArray[0]?=some (Value.type "tuple"):=by
     have:0 < vs.length:=by omega
     simp [this]
    rw [h0]
    have hall2:((List.map (λ_=>Value.type "tuple") vs).toArray.all λx=>x == Value.type "tuple")=true:=by
     simp only [List.all_toArray,List.all_map,List.all_eq_true]
     intro _ _
     rfl
    simp only [hall2,if_true]
    exact wpAny_pure (wpAny_pure (h _ (.inr (.inr rfl))))
end
end L2.Srt
namespace L2.St
open PySem PyProof.Rows
section
variable {P:Program}{w:World}{A:Around}{E:Value->Shared->Prop}{s:Shared}
theorem oV {items:Array Value}{ns:List Int} (hi:IntsAre items.toList ns):∀ (i:Nat) (v:Value),items[i]?=some v->∃ t,v=.int (ns.getD i 0) t :=
 λi v e=>IntsAre.int_at hi i v (by rw [Array.getElem?_toList];exact e)
theorem il {v:Value}{vs:Array Value}{it:Addr}{Q:Option Value->Shared->Prop} (hh:A.handled=none) {R:Value->Shared->Prop}
  (hR:∀ e s',(∀ b o,s.heap.get? b=some o->s'.heap.get? b=some o)->(∃ h',s'={ s with heap:=h' })->s'.TypeIs e "StopIteration"->R e s') {QQ:PySem.Fin->Shared->Prop} :
  wpAny (model P w) A (newExc (.type "StopIteration") [] >>= λe=>(raiseNew e:Sem PySem.Fin)) QQ R s:=by
 refine wpAny_bind ?_
 simp only [newExc,newTuple]
 refine wpAny_bind (wpAny_newObj_type ?_ (by size_fits))
 refine wpAny_bind (m:=firstArgMember _ _) (wpAny_of_eq (a:=Value.none) (by first|rfl|(simp only [firstArgMember];rfl)) ?_)
 refine wpAny_newObj_type ?_ (by size_fits)
 simp only [raiseNew]
 refine wpAny_bind (wpAny_handled ?_)
 rw [hh]
 refine wpAny_bind (wpAny_pure (wpAny_throw ?_))
 exact hR _ _ (λb o e=>Heap.get?_push_of_some _ (Heap.get?_push_of_some _ e)) ⟨_,rfl⟩ ⟨_,Heap.get?_push_size _ rfl,rfl⟩
theorem ko {order:List Int}{acc:Array Value} (h:ItemsOf (λi v=>∃ t,v=Value.int (order.getD i 0) t) acc order.length):IntsAre acc.toList order:=by
 obtain ⟨hz,hv⟩:=h
 have hl:acc.toList.length=order.length:=by simpa using hz
 have hv':∀ j v,acc.toList[j]?=some v->∃ t,v=Value.int (order.getD j 0) t:=λj v e=>hv j v (by rw [<- Array.getElem?_toList];exact e)
 clear hv hz
 generalize acc.toList=vs at hl hv'
 induction vs generalizing order with
 | nil =>
  have:order=[]:=List.length_eq_zero_iff.mp hl.symm
  rw [this];exact .nil
 | cons v r ih =>
  match order,hl,hv' with
  | [],hl,_=>simp at hl
  | k::ks,hl,hv' =>
   obtain ⟨t,e⟩:=hv' 0 v rfl
   have e':v=Value.int k t:=e
   rw [e']
   exact .cons k t (ih (by simpa using hl) λj u q=>hv' (j + 1) u (by simpa using q))
end
end L2.St
namespace L2.St
open PySem
noncomputable def kq (xs:Array Nat):Prop:=∀ i j:Nat,i < j->j < xs.size->xs.getD i 0 < xs.getD j 0
theorem rB {xs:Array Nat}{i:Nat} (h:i < xs.size) (d e:Nat):xs.getD i d=xs.getD i e:=by simp [Array.getD,h]
theorem jm {xs:Array Nat}{j:Nat} (hr:kq xs):∀ (fuel lo hi:Nat),hi - lo <= fuel->lo <= hi->hi <= xs.size->(∀ i,i < lo->xs.getD i 0 < j)->(∀ i,hi <= i->i < xs.size->j <= xs.getD i 0) ->
  (SetTable.below.go xs j fuel lo hi <= xs.size/\(∀ i,i < SetTable.below.go xs j fuel lo hi->xs.getD i 0 < j)/\∀ i,SetTable.below.go xs j fuel lo hi <= i->i < xs.size->j <= xs.getD i 0)
 | 0,lo,hi,hf,h1,h2,a,b=>by
  have e:SetTable.below.go xs j 0 lo hi=lo:=rfl
  rw [e]
  have:lo=hi:=by omega
  subst this
  exact ⟨h2,a,b⟩
 | fuel + 1,lo,hi,hf,h1,h2,a,b=>by
  have e:SetTable.below.go xs j (fuel + 1) lo hi=if lo < hi then (if xs.getD ((lo + hi) / 2) j < j then SetTable.below.go xs j fuel ((lo + hi) / 2 + 1) hi else SetTable.below.go xs j fuel lo ((lo + hi) / 2)) else lo:=rfl
  rw [e]
  by_cases hl:lo < hi
  ·rw [if_pos hl]
   have hm:(lo + hi) / 2 < xs.size:=by omega
   rw [rB hm j 0]
   by_cases hq:xs.getD ((lo + hi) / 2) 0 < j
   ·rw [if_pos hq]
    refine jm hr fuel _ hi (by omega) (by omega) h2 (λi hi'=>?_) b
    by_cases z:i=(lo + hi) / 2
    ·rw [z];exact hq
    ·exact Nat.lt_trans (hr i ((lo + hi) / 2) (by omega) hm) hq
   ·rw [if_neg hq]
    refine jm hr fuel lo _ (by omega) (by omega) (by omega) a λi hi' hz=>?_
    by_cases z:i=(lo + hi) / 2
    ·rw [z];omega
    ·have:=hr ((lo + hi) / 2) i (by omega) hz;omega
  ·rw [if_neg hl]
   have:lo=hi:=by omega
   subst this
   exact ⟨h2,a,b⟩
theorem gn {xs:Array Nat} (hr:kq xs) (j:Nat):SetTable.below xs j <= xs.size/\(∀ i,i < SetTable.below xs j->xs.getD i 0 < j)/\∀ i,SetTable.below xs j <= i->i < xs.size->j <= xs.getD i 0 :=
 jm hr xs.size 0 xs.size (by omega) (by omega) (Nat.le_refl _) (λi h=>by omega) λi h1 h2=>by omega
theorem ku {α:Type} (xs:Array α) (p:Nat) (x:α) (hp:p <= xs.size):(SetTable.insertAt xs p x).size=xs.size + 1:=by
 unfold SetTable.insertAt;simp;omega
theorem gH {α:Type} (xs:Array α) (p:Nat) (x:α) (hp:p <= xs.size) (i:Nat):(SetTable.insertAt xs p x)[i]?=if i < p then xs[i]? else if i=p then some x else xs[i - 1]?:=by
 unfold SetTable.insertAt
 have hz:((xs.extract 0 p).push x).size=p + 1:=by simp;omega
 by_cases h1:i < p
 ·rw [if_pos h1,Array.getElem?_append_left (by omega)]
  rw [Array.getElem?_push,if_neg (by simp;omega),Array.getElem?_extract,if_pos (by omega),Nat.zero_add]
 ·rw [if_neg h1]
  by_cases h2:i=p
  ·subst h2
   rw [if_pos rfl,Array.getElem?_append_left (by omega)]
   rw [Array.getElem?_push,if_pos (by simp;omega)]
  ·rw [if_neg h2,Array.getElem?_append_right (by omega),hz]
   simp only [Array.getElem?_extract]
   by_cases h3:i - (p + 1) < xs.size - p
   ·rw [if_pos (by simpa using h3)];congr 1;omega
   ·rw [if_neg (by simpa using h3)];exact (Array.getElem?_eq_none (by omega)).symm
theorem dg {xs:Array Nat}{i:Nat}:xs.getD i 0=(xs[i]?).getD 0:=Array.getD_eq_getD_getElem?
theorem mx {xs:Array Nat} (hr:kq xs) {j:Nat} (hn:xs[SetTable.below xs j]? ≠ some j):kq (SetTable.insertAt xs (SetTable.below xs j) j):=by
 obtain ⟨hp,ha,hb⟩:=gn hr j
 have hb':∀ i,SetTable.below xs j <= i->i < xs.size->j < xs.getD i 0:=λi h1 h2=>by
  have q:=hb i h1 h2
  by_cases z:i=SetTable.below xs j
  ·subst z
   have e:xs[SetTable.below xs j]?=some (xs.getD (SetTable.below xs j) 0):=by rw [Array.getElem?_eq_getElem h2];simp [Array.getD,h2]
   have:xs.getD (SetTable.below xs j) 0 ≠ j:=λz=>hn (by rw [e,z])
   omega
  ·have q':=hb _ (Nat.le_refl _) (by omega:SetTable.below xs j < xs.size)
   have:=hr _ i (by omega:SetTable.below xs j < i) h2
   omega
 intro i k hik hk
 rw [ku _ _ _ hp] at hk
 rw [dg,dg,gH _ _ _ hp,gH _ _ _ hp]
 by_cases h1:k < SetTable.below xs j
 ·rw [if_pos h1,if_pos (by omega),<- dg,<- dg]
  exact hr i k hik (by omega)
 ·rw [if_neg h1]
  by_cases h2:k=SetTable.below xs j
  ·rw [if_pos h2,if_pos (by omega),<- dg]
   exact ha i (by omega)
  ·rw [if_neg h2]
   by_cases h3:i < SetTable.below xs j
   ·rw [if_pos h3,<- dg,<- dg]
    exact hr i (k - 1) (by omega) (by omega)
   ·rw [if_neg h3]
    by_cases h4:i=SetTable.below xs j
    ·rw [if_pos h4,<- dg]
     exact hb' (k - 1) (by omega) (by omega)
    ·rw [if_neg h4,<- dg,<- dg]
     exact hr (i - 1) (k - 1) (by omega) (by omega)
theorem nL (n:Nat):kq (Array.range n):=λi j h1 h2=>by
 rw [Array.size_range] at h2
 simp [Array.getD,h2,Nat.lt_trans h1 h2];exact h1
theorem rC:kq #[]:=λi j _ h=>by simp at h
structure Gd (L:Bool) (t:SetTable):Prop where
 led:t.led=L
 dum:t.dummies=#[]
 rise:kq t.place
theorem Gd.fresh (L:Bool):Gd L (.fresh 0 0 L):=⟨rfl,rfl,rC⟩
theorem Gd.standIn {L:Bool}{t:SetTable} (h:Gd L t) (n:Nat):Gd L (t.standIn n):=⟨h.led,rfl,nL n⟩
theorem Gd.orStandIn {L:Bool}{t:SetTable} (h:Gd L t) (n:Nat):Gd L (t.orStandIn n):=by
 unfold SetTable.orStandIn;split
 ·exact h
 ·exact h.standIn n
theorem Gd.unplain {L:Bool}{t:SetTable} (h:Gd L t):Gd L { t with plain:=false }:=⟨h.led,h.dum,h.rise⟩
theorem lJ {t:SetTable} (hd:t.dummies=#[]) (j:Nat):t.slot j ≠ .dummy:=by
 unfold SetTable.slot SetTable.has
 rw [hd]
 dsimp only
 split
 ·simp
 ·simp
theorem nM {t:SetTable}{j:Nat} (h:t.slot j=.empty):t.place[SetTable.below t.place j]? ≠ some j:=by
 intro e
 unfold SetTable.slot at h
 dsimp only at h
 rw [if_pos (by rw [e];simp)] at h
 cases h
theorem my {t:SetTable} (hd:t.dummies=#[]) {ha:Nat->Int}{h:Int}:∀ (fuel:Nat) (p:SetTable.Probe),p.dummy=none->∀ j d,SetTable.probe.go t ha h fuel p=some (.empty j d)->d=none/\t.slot j=.empty
 | 0,p,hp,j,d,e=>by
  have:SetTable.probe.go t ha h 0 p=none:=rfl
  rw [this] at e;cases e
 | fuel + 1,p,hp,j,d,e=>by
  have step:SetTable.probe.go t ha h (fuel + 1) p=(match t.slot p.j with
   | .empty=>some (.empty p.j p.dummy)
   | .dummy=>SetTable.probe.go t ha h fuel (t.advance { p with dummy:=some p.j })
   | .live i=>if ha i == h then some (.candidate p.j i (t.advance p)) else SetTable.probe.go t ha h fuel (t.advance p)):=rfl
  rw [step] at e
  have adv:(t.advance p).dummy=none:=by unfold SetTable.advance;split <;> simp [hp]
  cases hs:t.slot p.j with
  | empty =>
   rw [hs] at e
   dsimp only at e
   cases e
   exact ⟨hp,hs⟩
  | dummy=>exact absurd hs (lJ hd _)
  | live i =>
   rw [hs] at e
   dsimp only at e
   split at e
   ·cases e
   ·exact my hd fuel _ adv j d e
theorem p_ {t:SetTable} (hd:t.dummies=#[]) {h:Int}{j:Nat}{b:Bool} (e:t.freeSlot h=some (j,b)):t.slot j=.empty:=by
 unfold SetTable.freeSlot at e
 split at e
 ·rename_i j' d he
  obtain ⟨rfl,hs⟩:=my hd _ _ rfl j' d he
  have:j'=j:=by
   have:=Option.some.inj e
   exact (Prod.mk.inj this).1
  exact this ▸ hs
 ·cases e
theorem Gd.put {L:Bool}{t:SetTable} (h:Gd L t) {j:Nat} (hs:t.slot j=.empty):Gd L (t.put j).1:=by
 refine ⟨h.led,?_,mx h.rise (nM hs)⟩
 show (if SetTable.has t.dummies j then _ else t.dummies)=#[]
 rw [if_neg (by unfold SetTable.has;rw [h.dum];simp)]
 exact h.dum
theorem Gd.layNew {L:Bool}{t:SetTable} (g:Gd L t) (es:Array (Int × Value)) (h:Int) (x:Value):Gd L (layNew t es h x).2.1:=by
 unfold PySem.layNew
 cases e:t.freeSlot h with
 | none=>exact g.standIn _
 | some q =>
  obtain ⟨j,b⟩:=q
  exact (g.put (p_ g.dum e)).orStandIn _
theorem rD (f:Nat->Option Nat) (n:Nat):kq ((((List.range n).filterMap λj=>(f j).map λi=>(j,i)).map λq:Nat × Nat=>q.1).toArray):=by
 have e:((List.range n).filterMap λj=>(f j).map λi=>(j,i)).map (λq:Nat × Nat=>q.1)=(List.range n).filter λj=>(f j).isSome:=by
  generalize List.range n=l
  induction l with
  | nil=>rfl
  | cons a l ih =>
   cases h:f a <;> simp [List.filterMap_cons,List.filter_cons,h,ih]
 rw [e]
 have hp:((List.range n).filter λj=>(f j).isSome).Pairwise (· < ·):=List.Pairwise.filter _ List.pairwise_lt_range
 intro i j hij hj
 have hj':j < ((List.range n).filter λj=>(f j).isSome).length:=by simpa using hj
 have hi':i < ((List.range n).filter λj=>(f j).isSome).length:=Nat.lt_trans hij hj'
 have:=List.pairwise_iff_getElem.mp hp i j hi' hj' hij
 simpa [Array.getD,hj',hi'] using this
theorem Gd.relaid {L:Bool}{t t':SetTable} (g:Gd L t) {hs:Array Int}{n:Nat}{o:Array Nat} (e:t.relaid hs n=some (t',o)):Gd L t':=by
 unfold SetTable.relaid SetTable.laid at e
 cases h:SetTable.layClean (SetTable.sizeAbove n - 1) hs with
 | none=>rw [h] at e;cases e
 | some ow =>
  rw [h] at e
  cases e
  exact ⟨g.led,rfl,rD (λj=>ow.getD j none) _⟩
theorem Gd.relayAll {L:Bool}{t:SetTable} (g:Gd L t) (es:Array (Int × Value)) (n:Nat):Gd L (relayAll t es n).2.1:=by
 unfold PySem.relayAll
 cases e:t.relaid (es.map (·.1)) n with
 | none=>exact g.standIn _
 | some q =>
  obtain ⟨t',o⟩:=q
  dsimp only
  split
  ·exact g.relaid e
  ·exact g.standIn _
end L2.St
namespace L2.St
open PySem PyProof.Rows
noncomputable def byT (w:World):Bool:=w.params.followText "set-order"
structure Arr (P:Program) (w:World) (ks:List Int) (es:Array (Int × Value)) (t:SetTable):Prop where
 el:ElemsOf (intKind P w) es.toList
 pm:(es.toList.map λe=>numOf e.2).Perm ks
 nd:ks.Nodup
 bd:es.size < scanBound
 fi:t.fits es.size=true
 gd:Gd (!byT w) t
noncomputable def da (P:Program) (w:World) (h:Heap) (a:Addr) (ks:List Int):Prop :=
 ∃ o es ep t,h.get? a=some o/\o.ExactSet/\o.data=.set es ep t/\ElemsOf (intKind P w) es.toList/\(es.toList.map λe=>numOf e.2).Perm ks/\ks.Nodup/\es.size < scanBound/\t.fits es.size=true/\Gd (!byT w) t
section
variable {P:Program}{w:World}{h h':Heap}{a:Addr}{ks ks':List Int}{o:Obj}{es:Array (Int × Value)}{ep:Nat}{t:SetTable}
theorem da.arr (g:da P w h a ks):∃ o es ep t,(h.get? a=some o/\o.ExactSet/\o.data=.set es ep t)/\Arr P w ks es t:=by
 obtain ⟨o,es,ep,t,ho,hex,hd,c1,c2,c3,c4,c5,c6⟩:=g
 exact ⟨o,es,ep,t,⟨ho,hex,hd⟩,⟨c1,c2,c3,c4,c5,c6⟩⟩
theorem Arr.set (r:Arr P w ks es t) (ho:h.get? a=some o) (hex:o.ExactSet) (hd:o.data=.set es ep t):da P w h a ks :=
 ⟨o,es,ep,t,ho,hex,hd,r.el,r.pm,r.nd,r.bd,r.fi,r.gd⟩
theorem Arr.len (r:Arr P w ks es t):es.size=ks.length:=by simpa using r.pm.length_eq
theorem Arr.bare (r:Arr P w ks es t) (b:Bool):Arr P w ks es (if b=true then t else { t with plain:=false }):=by
 cases b
 ·exact ⟨r.el,r.pm,r.nd,r.bd,SetTable.fits_plain_off r.fi,r.gd.unplain⟩
 ·exact r
theorem Arr.lay (r:Arr P w ks es t) {k:Int} (tk:Tok) (hk:k ∉ ks) (hb:ks.length + 1 < scanBound):Arr P w (k::ks) (layNew t es (hashInt k) (.int k tk)).1 (layNew t es (hashInt k) (.int k tk)).2.1:=by
 have p:(layNew t es (hashInt k) (.int k tk)).1.toList.Perm (es.toList ++ [(hashInt k,.int k tk)]):=by simpa using layNew_perm t es (hashInt k) (.int k tk)
 have z:=p.length_eq
 have l:=r.len
 constructor
 ·exact ElemsOf.perm (r.el.push (k:=k) (x:=.int k tk) (intKind_is _ _ _ _) rfl) p
 ·have q:((es.toList ++ [(hashInt k,Value.int k tk)]).map λe=>numOf e.2).Perm (k::ks):=by
   rw [List.map_append]
   exact List.perm_append_comm.trans (r.pm.cons k)
  exact (p.map _).trans q
 ·exact List.nodup_cons.mpr ⟨hk,r.nd⟩
 ·simp at z;omega
 ·exact layNew_fits _ _ _ _
 ·exact r.gd.layNew _ _ _
theorem Arr.relay (r:Arr P w ks es t) (n:Nat):Arr P w ks (relayAll t es n).1 (relayAll t es n).2.1:=by
 have p:=relayAll_perm t es n
 have z:=p.length_eq
 have b:=r.bd
 exact ⟨r.el.perm p,(p.map _).trans r.pm,r.nd,by simp at z;omega,relayAll_fits t es n,r.gd.relayAll es n⟩
theorem da.at (g:da P w h a ks) (k:∀ o,h.get? a=some o->h'.get? a=some o):da P w h' a ks:=by
 obtain ⟨o,es,ep,t,⟨ho,hex,hd⟩,r⟩:=g.arr
 exact r.set (k o ho) hex hd
end
theorem im {P:Program}{w:World}{es:List (Int × Value)} (h:ElemsOf (intKind P w) es):∀ e ∈ es,∃ t,e.2=.int (numOf e.2) t:=λe he=>by
 obtain ⟨⟨k,hk,_⟩,_⟩:=h e he
 obtain ⟨t,q⟩:=Value.isInt_shape (show Value.isInt k e.2=true from hk)
 exact ⟨t,by rw [q];rfl⟩
theorem lK {P:Program}{w:World}{es:List (Int × Value)} (h:ElemsOf (intKind P w) es) {e:Int × Value} (he:e ∈ es) (k:Int):(intKind P w).is k e.2=true ↔ numOf e.2=k:=by
 obtain ⟨t,q⟩:=im h e he
 constructor
 ·intro z
  obtain ⟨t',q'⟩:=Value.isInt_shape (show Value.isInt k e.2=true from z)
  rw [q'];rfl
 ·intro z
  rw [q,z]
  exact intKind_is _ _ _ _
section
variable {P:Program}{w:World}{A:Around}{E:Value->Shared->Prop}{s:Shared}
noncomputable def Now (P:Program) (w:World) (a:Addr) (s:Shared) (ks:List Int) (s':Shared):Prop :=
 ∃ h',s'={ s with heap:=h' }/\Heap.SameBut a s.heap h'/\da P w h' a ks
theorem Now.stay {a:Addr}{ks:List Int} (g:da P w s.heap a ks):Now P w a s ks s:=⟨s.heap,rfl,Heap.SameBut.refl a s.heap,g⟩
theorem uN {h:Heap}{a:Addr}{o:Obj}{es:Array (Int × Value)}{ep:Nat}{t:SetTable} (ho:h.get? a=some o) (hex:o.ExactSet) (hd:o.data=.set es ep t)
  {es':Array (Int × Value)}{t':SetTable}{ks:List Int} (r:Arr P w ks es' t'):da P w (h.update a (Obj.putSet es' t')) a ks:=by
 refine r.set (o:={ o with data:=.set es' (ep + 1) t' }) (ep:=ep + 1) ?_ hex rfl
 have e:Obj.putSet es' t' o={ o with data:=.set es' (ep + 1) t' }:=putSet_of es' t' hd
 rw [<- e]
 exact Heap.get?_update_self _ ho (by rw [e];rfl)
theorem Now.put {a:Addr}{ks ks':List Int}{s':Shared} (n:Now P w a s ks s') {es:Array (Int × Value)}{t:SetTable} (r:Arr P w ks' es t) {Q:Unit->Shared->Prop} (h:∀ s'',Now P w a s ks' s''->Q () s'') :
  wpAny (model P w) A (storeSet a es t) Q E s':=by
 obtain ⟨h',rfl,sb,g⟩:=n
 obtain ⟨o,_,_,_,⟨ho,hex,hd⟩,_⟩:=g.arr
 exact wpAny_storeSet_of ho hd (h _ ⟨_,rfl,sb.trans (Heap.SameBut.update h' a _),uN ho hex hd r⟩) (fits_of_scanBound r.bd)
theorem zt {m:Sem Unit}{s':Shared}{Q:Unit->Shared->Prop} (hm:m=pure () \/ ∃ n,m=rule n) (h:Q () s'):wpAny (model P w) A m Q E s':=by
 rcases hm with rfl|⟨n,rfl⟩
 ·exact wpAny_pure h
 ·exact wpAny_rule h
theorem zu (k:Int) (tk:Tok) (c:Bool) {s':Shared}{f:Bool->Sem (Option Bool)}{Q:Option Bool->Shared->Prop} (h:∀ b,wpAny (model P w) A (f b) Q E s') :
  wpAny (model P w) A (if c=true then hashByValue 8 (.int k tk) >>= f else (pure true:Sem Bool) >>= f) Q E s':=by
 cases c
 ·exact wpAny_bind (wpAny_pure (h true))
 ·rw [if_pos rfl,hashByValue_scannable 8 (show (Value.int k tk).scannable=true from rfl)]
  exact wpAny_bind (wpAny_pure (h _))
theorem qa {a:Addr}{ks:List Int}{k:Int}{tk:Tok}{Q:Bool->Shared->Prop} (hS:da P w s.heap a ks) (hroom:ks.length + 1 < scanBound)
  (h:∀ h' b,Heap.SameBut a s.heap h'->da P w h' a (if k ∈ ks then ks else k::ks)->Q b { s with heap:=h' }) :
  wpAny (model P w) A (setAddHashed a (.int k tk) (hashInt k)) Q E s:=by
 have fin:∀ b s',Now P w a s (if k ∈ ks then ks else k::ks) s'->Q b s':=by
  rintro b _ ⟨h',rfl,sb,g⟩
  exact h h' b sb g
 have now:=Now.stay hS
 obtain ⟨o,es,ep,t,⟨ho,hex,hd⟩,r⟩:=hS.arr
 have here:k ∈ ks ↔ ((es.toList.findIdx? λe=>(intKind P w).is k e.2).isSome=true):=by
  rw [List.findIdx?_isSome,List.any_eq_true,<- r.pm.mem_iff,List.mem_map]
  exact ⟨λ⟨e,he,q⟩=>⟨e,he,(lK r.el he k).mpr q⟩,λ⟨e,he,q⟩=>⟨e,he,(lK r.el he k).mp q⟩⟩
 unfold setAddHashed setAddHashedIn
 refine wpAny_holding (wpAny_bind (wpAny_setState_of ho hd r.fi ?_))
 dsimp only
 rw [byScan_of (x:=.int k tk) rfl r.bd r.el,if_pos rfl]
 refine wpAny_bind ?_
 unfold setAddByScan
 refine wpAny_bind (wpAny_rule (wpAny_bind (wpAny_setScan_of (knd:=intKind P w) (intKind_is _ _ _ _) ho hd r.fi r.el ?_)))
 rcases hf:es.toList.findIdx? λe=>(intKind P w).is k e.2 with _|j
 ·rw [hf]
  have hk:k ∉ ks:=λz=>by rw [here,hf] at z;exact Bool.noConfusion z
  rw [if_neg hk] at fin
  have r1:=r.lay tk hk hroom
  rcases hl:layNew t es (hashInt k) (.int k tk) with ⟨es1,t1,dm,gv⟩
  rw [hl] at r1
  dsimp only at r1 ⊢
  refine wpAny_bind (zt ?_ ?_)
  ·cases gv
   ·exact .inl rfl
   ·exact .inr ⟨_,rfl⟩
  refine zu k tk _ λb=>?_
  have r2:=r1.bare b
  generalize (if b=true then t1 else _)=t2 at r2 ⊢
  refine wpAny_bind (now.put r2 λs2 n2=>?_)
  refine wpAny_ite_split (λ_=>?_) (λ_=>wpAny_pure (wpAny_pure (fin _ _ n2)))
  have r3:=r2.relay (SetTable.grown es1.size)
  rcases hm:relayAll t2 es1 (SetTable.grown es1.size) with ⟨es3,t3,gv3⟩
  rw [hm] at r3
  dsimp only at r3 ⊢
  refine wpAny_bind (zt ?_ ?_)
  ·cases gv3
   ·exact .inl rfl
   ·exact .inr ⟨_,rfl⟩
  exact wpAny_bind (n2.put r3 λs3 n3=>wpAny_pure (wpAny_pure (fin _ _ n3)))
 ·rw [hf]
  have hk:k ∈ ks:=here.mpr (by rw [hf];rfl)
  rw [if_pos hk] at fin
  exact wpAny_pure (wpAny_pure (fin _ _ now))
end
noncomputable def dd:List Int->List Int
 | []=>[]
 | k::r=>if k ∈ dd r then dd r else k::dd r
theorem gp {k:Int}:∀ {l:List Int},k ∈ dd l ↔ k ∈ l
 | []=>Iff.rfl
 | x::r=>by
  show k ∈ (if x ∈ dd r then dd r else x::dd r) ↔ _
  have ih:=@gp k r
  by_cases h:x ∈ dd r
  ·rw [if_pos h,ih,List.mem_cons]
   exact ⟨.inr,λz=>z.elim (λe=>by rw [e];exact gp.mp h) id⟩
  ·rw [if_neg h,List.mem_cons,List.mem_cons,ih]
theorem dd_nodup:∀ l:List Int,(dd l).Nodup
 | []=>List.nodup_nil
 | x::r=>by
  show (if x ∈ dd r then dd r else x::dd r).Nodup
  by_cases h:x ∈ dd r
  ·rw [if_pos h];exact dd_nodup r
  ·rw [if_neg h];exact List.nodup_cons.mpr ⟨h,dd_nodup r⟩
theorem rE:∀ l:List Int,(dd l).length <= l.length
 | []=>Nat.le_refl _
 | x::r=>by
  show (if x ∈ dd r then dd r else x::dd r).length <= _
  have:=rE r
  by_cases h:x ∈ dd r
  ·rw [if_pos h,List.length_cons];omega
  ·rw [if_neg h,List.length_cons,List.length_cons];omega
theorem uO (xs:List Int):(List.range xs.length).map (λi=>xs.getD i 0)=xs:=by
 apply List.ext_getElem?
 intro i
 rw [List.getElem?_map]
 by_cases q:i < xs.length
 ·simp [List.getElem?_range,q]
 ·simp [List.getElem?_range,q]
noncomputable def But (ws:List Addr) (s s':Shared):Prop :=
 ∃ h' tk,s'={ s with heap:=h',toks:=tk }/\∀ b o,b ∉ ws->s.heap.get? b=some o->h'.get? b=some o
theorem But.on {ws vs:List Addr}{s s' s'':Shared} (x:But ws s s') (y:But vs s' s'') (hs:∀ b ∈ ws,b ∈ vs):But vs s s'':=by
 obtain ⟨h1,t1,rfl,k1⟩:=x
 obtain ⟨h2,t2,rfl,k2⟩:=y
 exact ⟨h2,t2,rfl,λb o hb e=>k2 b o hb (k1 b o (λz=>hb (hs b z)) e)⟩
section
variable {P:Program}{w:World}{A:Around}{R:Result->Shared->Prop}{I S:Addr}{fp wr:List Addr}{n:Nat}{Pv:Nat->Value->Prop}{St:Nat->Heap->Prop}
noncomputable abbrev upd (S I:Addr):Code:=.builtin "set.update.loop" ⟨[.ref S,.ref I],[]⟩
theorem mz {s:Shared} (h:wpAny (model P w) A.in1 (pyNext (.ref I)) (λv s'=>match v with
   | none=>R (.ok (.ret .none)) s'
   | some x=>wpAny (model P w) A.in1 (setAdd S x) (λ_ s''=>codeAny (model P w) A (upd S I) R s'') (λe s''=>R (.error e) s'') s') (λe s'=>R (.error e) s') s) :
  codeAny (model P w) A (upd S I) R s:=by
 have pl:=PyProof.Rows.F.plain_set_update_loop
 apply codeAny_builtin PyProof.Rows.F.entry_set_update_loop
 rw [Around.under_plainId pl]
 apply wpAny_bind (m:=pyNext (.ref I))
 refine wpAny_mono h (λv s' hv=>?_) λ_ _ x=>x
 cases v with
 | none=>exact wpAny_pure hv
 | some x =>
  refine wpAny_bind (wpAny_holding (wpAny_mono hv (λ_ s'' hc=>?_) λ_ _ x=>x))
  exact wpAny_pure ⟨plainId_quiet pl _,hc⟩
theorem add_int {s:Shared}{E:Value->Shared->Prop}{B:Around}{ks:List Int}{k:Int}{t:Tok} (g:da P w s.heap S ks) (room:ks.length + 1 < scanBound) {Q:Bool->Shared->Prop}
  (h:∀ b s',But [S] s s'->da P w s'.heap S (if k ∈ ks then ks else k::ks)->(∀ b,b ≠ S->s'.heap.get? b=s.heap.get? b)->Q b s'):wpAny (model P w) B (setAdd S (.int k t)) Q E s:=by
 unfold setAdd
 refine wpAny_holding (wpAny_bind ((intKind P w).pyHash (k:=k) (intKind_is _ _ _ _) ?_))
 refine qa (s:={ s with toks:=s.toks + 1 }) g room λh' b sb g'=>h b _ ⟨h',_,rfl,λc o hc e=>?_⟩ g' λc hc=>?_
 ·rw [sb.2 c (by simpa using hc)];exact e
 ·exact sb.2 c hc
theorem oW (W:Walks P w A.in1 I fp wr n Pv St) (hS:S ∉ fp) (xs:List Int) (hn:xs.length=n) (hv:∀ i v,Pv i v->∃ t,v=.int (xs.getD i 0) t) (hb:n + 1 < scanBound) :
  ∀ (m i:Nat) (s:Shared),i + m=n->St i s.heap->da P w s.heap S (dd (xs.take i).reverse)->(∀ s',But (S::wr) s s'->da P w s'.heap S (dd xs.reverse)->R (.ok (.ret .none)) s') ->
   codeAny (model P w) A (upd S I) R s
 | 0,i,s,e,st,g,h=>by
  have hi:i=n:=e
  subst hi
  refine mz (W.done s _ _ st λh' tk kp=>h _ ⟨h',tk,rfl,λb o hb'=>kp b o λz=>hb' (.tail _ z)⟩ ?_)
  rw [List.take_of_length_le (by omega)] at g
  exact g.at λo=>kp S o λz=>hS (W.sub S z)
 | m + 1,i,s,e,st,g,h=>by
  have hi:i < n:=by omega
  refine mz (W.item i s _ _ hi st λv h1 tk1 pv st1 kp=>?_)
  obtain ⟨t,rfl⟩:=hv i v pv
  have b1:But wr s { s with heap:=h1,toks:=tk1 }:=⟨h1,tk1,rfl,kp⟩
  have l:(dd (xs.take i).reverse).length + 1 < scanBound:=by
   have:=rE (xs.take i).reverse
   simp at this;omega
  refine add_int (g.at λo=>kp S o λz=>hS (W.sub S z)) l λ_ s2 b2 g2 st2=>?_
  refine oW W hS xs hn hv hb m (i + 1) s2 (by omega) (W.frame _ h1 _ st1 λb hb' o e'=>?_) ?_ λs3 b3 g3=>h s3 ?_ g3
  ·rw [st2 b λz=>hS (z ▸ hb')];exact e'
  ·have:xs.take (i + 1)=xs.take i ++ [xs.getD i 0]:=by
    rw [List.take_succ,List.getD_eq_getElem?_getD,List.getElem?_eq_getElem (by omega)];rfl
   rw [this,List.reverse_append]
   exact g2
  ·exact (b1.on (b2.on b3 (by simp)) λb z=>.tail _ z)
end
end L2.St
namespace L2.St
open PySem PyProof.Rows
section
variable {P:Program}{w:World}{A:Around}{E:Value->Shared->Prop}{s:Shared}
theorem eK {Q:Bool->Shared->Prop} (h:Q (byT w) s):wpAny (model P w) A setsByText Q E s:=by
 unfold setsByText
 exact wpAny_bind (wpAny_askSetting (wpAny_pure h))
noncomputable abbrev ip (w:World):Obj:={ cls:=.type "set",dict:=none,data:=.set #[] 0 (.fresh 0 0 (!byT w)) }
noncomputable abbrev aK (w:World) (s:Shared):Shared:={ s with heap:=s.heap.push (ip w) }
theorem uP {Q:Value->Shared->Prop} (h:Q (.ref s.heap.objs.size) (aK w s)):wpAny (model P w) A (newSet (.type "set")) Q E s:=by
 unfold newSet
 refine wpAny_bind (eK ?_)
 dsimp only
 simp only [newObj]
 exact wpAny_bind (wpAny_alloc (wpAny_pure h))
theorem rF (h:Heap):da P w (h.push (ip w)) h.objs.size [] :=
 Arr.set (es:=#[]) (ep:=0) ⟨λe he=>by simp at he,by simp,List.nodup_nil,by decide,rfl,Gd.fresh _⟩ (Heap.get?_push_size _ rfl) ⟨rfl,rfl,rfl⟩ rfl
theorem uQ (x:Value) {Q:Value->Shared->Prop} (h:Q (.ref s.heap.objs.size) (aK w s)):codeAny (model P w) A (.call (.builtin "set.__new__") ⟨[.type "set",x],[]⟩) (wants Q E) s:=by
 refine codeAny_call_builtin PySem.F.plain_set_new PySem.F.entry_set_new (wpAny_of_eq (PySem.F.newCall_set_1 x) ?_)
 have cls:∀ {R:Value × List Value->Shared->Prop}{F:Value->Shared->Prop},R (.type "set",[x]) s->wpAny (model P w) A.in1 (Builtin.Frozenset.newClass "set" ⟨[.type "set",x],[]⟩) R F s:=by
  intro R F hr
  have hsub:=sub_set_self
  unfold Builtin.Frozenset.newClass
  obtain ⟨hp,g,d,tk,os⟩:=s
  wp_walk
  exact hr
 unfold Builtin.«set.__new__»
 exact wpAny_bind (cls (wpAny_bind (uP (wpAny_pure h))))
theorem rG (x:Value) {Q:Value->Shared->Prop}
  (hU:∀ B:Around,B.handled=A.handled->wpAny (model P w) B (Builtin.Frozenset.updateFrom "set.__init__" s.heap.objs.size x) (λ_ s'=>Q (.ref s.heap.objs.size) s') E (aK w s)) :
  wpAny (model P w) A (call (.type "set") [x]) Q E s:=by
 have at0:(aK w s).heap.get? s.heap.objs.size=some (ip w):=Heap.get?_push_size _ rfl
 have init:codeAny (model P w) A.in1 (.call (.builtin "set.__init__") ⟨[.ref s.heap.objs.size,x],[]⟩) (wants (λr s'=>r=.none/\Q (.ref s.heap.objs.size) s') E) (aK w s):=by
  refine codeAny_call_builtin PySem.F.called_set.init.plain PySem.F.entry_set_init (check_set_init_1 ⟨_,at0,rfl⟩ ?_)
  have hu:=hU A.in1.in1 (by simp)
  generalize hw:aK w s=s1 at at0 hu ⊢
  generalize s.heap.objs.size=S at at0 hu ⊢
  obtain ⟨hp,g,d,tk,os⟩:=s1
  unfold Builtin.«set.__init__» noKeywords
  generalize Builtin.Frozenset.updateFrom=U at hu ⊢
  wp_walk
  exact wpAny_mono hu (λ_ s' hq=>wpAny_pure ⟨rfl,hq⟩) λ_ _ z=>z
 have ft:=PySem.F.called_set
 refine wpAny_call (codeAny_of_tree (wpAny_pure ⟨Code.quiet_builtin _ (by decide +kernel),codeAny_builtin PySem.F.entry_type_call ?_⟩))
 rw [Around.under_plain (weight_type_call_type "set" [x] []) rfl]
 have f1:=ft.notType;have f2:=ft.canCreate;have f3:=ft.made;have f4:=ft.sub
 have f5:=PySem.F.typeCall_set_1 x
 obtain ⟨c,tl,f6⟩:=ft.mro
 repeat (any_goals (first|assumption|wp_step))
 refine codeAny_mono (uQ x (E:=E) (Q:=λv s'=>v=.ref s.heap.objs.size/\s'=aK w s) ⟨rfl,rfl⟩) λr s1 hr=>?_
 match r,hr with
 | .error e,hr=>exact hr
 | .ok (.ret v),hr =>
  obtain ⟨rfl,rfl⟩:=hr
  have f7:Shared.TypeIs (aK w s) (.ref s.heap.objs.size) "set":=⟨_,at0,rfl⟩
  have f8:=ft.init.lookup;have f9:=ft.init.bind (.ref s.heap.objs.size)
  repeat (any_goals (first|assumption|wp_step))
  refine codeAny_mono init λr s2 hr=>?_
  match r,hr with
  | .error e,hr=>exact hr
  | .ok (.ret v),hr =>
   obtain ⟨rfl,hq⟩:=hr
   show wpAny _ A.in1 (pure (some Value.none)) _ _ _
   exact wpAny_pure (wpAny_pure hq)
theorem jn {l:Addr}{tn:String}{o:Obj} (x:s.heap.get? l=some o) (hc:o.cls=.type tn) (hd:(Value.type tn == .type "dict")=false)
  (ns1:isSubtype (.type tn) (.type "set")=pure false) (ns2:isSubtype (.type tn) (.type "frozenset")=pure false)
  {ns:List Int}{Pv:Nat->Value->Prop}{St:Nat->Heap->Prop} (hv:∀ i v,Pv i v->∃ t,v=.int (ns.getD i 0) t) (hb:ns.length + 1 < scanBound) {io:Obj}
  (W:∀ B:Around,B.handled=A.handled->Walks P w B ((aK w s).heap.objs.size) [(aK w s).heap.objs.size,l] [(aK w s).heap.objs.size] ns.length Pv St)
  (it:∀ (B:Around) (E':Value->Shared->Prop) (R:Value->Shared->Prop),R (.ref (aK w s).heap.objs.size) { s with heap:=(aK w s).heap.push io }->wpAny (model P w) B (pyIter (.ref l)) R E' (aK w s))
  (st:St 0 ((aK w s).heap.push io)) {Q:Value->Shared->Prop}
  (h:∀ (h':Heap) (tk:Nat),da P w h' s.heap.objs.size (dd ns.reverse)->(∀ b o,s.heap.get? b=some o->h'.get? b=some o)->Q (.ref s.heap.objs.size) { s with heap:=h',toks:=tk }) :
  wpAny (model P w) A (call (.type "set") [.ref l]) Q E s:=by
 have z1:(aK w s).heap.objs.size=s.heap.objs.size + 1:=Heap.size_push ..
 have far:∀ b,b < s.heap.objs.size->b ∉ [s.heap.objs.size,(aK w s).heap.objs.size]:=λb hb=>by
  rw [z1]
  simp only [List.mem_cons,List.not_mem_nil,or_false,not_or]
  exact ⟨Nat.ne_of_lt hb,Nat.ne_of_lt (Nat.lt_succ_of_lt hb)⟩
 have kept:∀ b o,s.heap.get? b=some o->((aK w s).heap.push io).get? b=some o:=λb o e=>Heap.get?_push_of_some _ (Heap.get?_push_of_some _ e)
 refine rG _ λB hB=>?_
 have hT:(aK w s).TypeIs (.ref l) tn:=⟨o,Heap.get?_push_of_some _ x,hc⟩
 unfold Builtin.Frozenset.updateFrom Builtin.Frozenset.isAnySet
 refine wpAny_bind (wpAny_bind (wpAny_isInstance hT ns1 ?_))
 show wpAny _ _ (isInstance (.ref l) (.type "frozenset")) _ _ _
 refine wpAny_isInstance hT ns2 ?_
 rw [if_neg Bool.false_ne_true]
 refine wpAny_bind (wpAny_typeOf hT ?_)
 rw [hd,if_neg Bool.false_ne_true]
 refine wpAny_bind (it _ _ _ (wpAny_bind (wpAny_runValue ?_)))
 have hS:s.heap.objs.size ∉ [(aK w s).heap.objs.size,l]:=by
  have:=Heap.lt_size x
  rw [z1]
  simp only [List.mem_cons,List.not_mem_nil,or_false,not_or]
  exact ⟨Nat.ne_of_lt (Nat.lt_succ_self _),Nat.ne_of_gt this⟩
 refine oW (W _ (by simpa using hB)) hS ns rfl hv hb ns.length 0 _ (by omega) st ((rF s.heap).at λo e=>Heap.get?_push_of_some _ e) ?_
 rintro s' ⟨h',tk,rfl,kp⟩ g
 exact wpAny_pure (h h' tk g λb o e=>kp b o (far b (Heap.lt_size e)) (kept b o e))
theorem set_list {l:Addr}{items:Array Value}{ns:List Int}{Q:Value->Shared->Prop}
  (hh:A.handled=none) (hl:s.heap.IsList l items) (hi:IntsAre items.toList ns) (hb:items.size + 1 < scanBound)
  (h:∀ (h':Heap) (tk:Nat),da P w h' s.heap.objs.size (dd ns.reverse)->(∀ b o,s.heap.get? b=some o->h'.get? b=some o)->Q (.ref s.heap.objs.size) { s with heap:=h',toks:=tk }) :
  wpAny (model P w) A (call (.type "set") [.ref l]) Q E s:=by
 have z:items.size=ns.length:=by simpa using IntsAre.length hi
 obtain ⟨o,ho,hc,hr⟩:=hl
 have l1:(aK w s).heap.IsList l items:=⟨o,Heap.get?_push_of_some _ ho,hc,hr⟩
 refine jn (io:={ cls:=.type "list_iterator",data:=.fields #[.ref l,Value.int 0 0] }) ho hc (by decide) PySem.F.sub_list_set PySem.F.sub_list_frozenset (oV hi) (z ▸ hb) (λB hB=>z ▸ Walks.list (hB.trans hh) _ l ?_ items)
  (λB E' R=>wpAny_pyIter_list l1) ⟨⟨_,Heap.get?_push_size _ rfl,rfl,rfl⟩,l1.push _⟩ h
 exact Nat.ne_of_lt (Nat.lt_of_lt_of_eq (Nat.lt_succ_of_lt (Heap.lt_size ho)) (Heap.size_push ..).symm)
theorem qb {l:Addr}{items:Array Value}{ns:List Int}{Q:Value->Shared->Prop}
  (hh:A.handled=none) (hl:s.heap.IsTuple l items) (hi:IntsAre items.toList ns) (hb:items.size + 1 < scanBound)
  (h:∀ (h':Heap) (tk:Nat),da P w h' s.heap.objs.size (dd ns.reverse)->(∀ b o,s.heap.get? b=some o->h'.get? b=some o)->Q (.ref s.heap.objs.size) { s with heap:=h',toks:=tk }) :
  wpAny (model P w) A (call (.type "set") [.ref l]) Q E s:=by
 have z:items.size=ns.length:=by simpa using IntsAre.length hi
 obtain ⟨o,ho,hc,hr⟩:=hl
 have l1:(aK w s).heap.IsTuple l items:=⟨o,Heap.get?_push_of_some _ ho,hc,hr⟩
 refine jn (io:={ cls:=.type "tuple_iterator",data:=.fields #[.ref l,Value.int 0 0] }) ho hc (by decide) PySem.F.sub_tuple_set PySem.F.sub_tuple_frozenset (oV hi) (z ▸ hb) (λB hB=>z ▸ Walks.tuple (hB.trans hh) _ l ?_ items)
  (λB E' R=>wpAny_pyIter_tuple l1) ⟨⟨_,Heap.get?_push_size _ rfl,rfl,rfl⟩,l1.push _⟩ h
 exact Nat.ne_of_lt (Nat.lt_of_lt_of_eq (Nat.lt_succ_of_lt (Heap.lt_size ho)) (Heap.size_push ..).symm)
end
end L2.St
namespace L2.St
open PySem PyProof.Rows
set_option maxRecDepth 100000 in
theorem jo:entryFor table "set.__iter__"=some Builtin.«frozenset.__iter__» :=
 entryFor_alias (id':="frozenset.__iter__") (by kernel_rfl) rfl (by decide +kernel) (by kernel_rfl)
set_option maxRecDepth 100000 in
theorem kN:Manifest.owners.lookup (String.ofList ['r','o','t','a','r','e','t','i','_','t','e','s'].reverse)=some Manifest.sig_set_iterator:=by kernel_rfl
set_option maxRecDepth 100000 in
theorem az:Slot "set_iterator" "__next__" "set_iterator.__next__" :=
 .of (owner:="set_iterator") (n:="__next__") (by rw [typeLookup_type,builtinLookup_eq_fast];kernel_rfl) (by decide +kernel) (by decide +kernel) (by decide +kernel)
  (by first|exact .inl (by decide +kernel)|exact .inr (by decide +kernel)) (by rw [isSubtype_type];kernel_rfl)
set_option maxRecDepth 100000 in
theorem cY:entryFor table "set_iterator.__next__"=some Builtin.«set_iterator.__next__»:=entryFor_of_tree (by kernel_rfl)
set_option maxRecDepth 100000 in
theorem di (a:Value):argsOk "set_iterator.__next__" ⟨[a],[]⟩:=by
 unfold argsOk;rw [signature?_of (id:="set_iterator.__next__") (n:=['_','_','t','x','e','n','_','_']) (o:=['r','o','t','a','r','e','t','i','_','t','e','s']) (by kernel_rfl) kN];kernel_rfl
set_option maxRecDepth 100000 in
theorem gb:Slot "set_iterator" "__iter__" "set_iterator.__iter__" :=
 .of (owner:="set_iterator") (n:="__iter__") (by rw [typeLookup_type,builtinLookup_eq_fast];kernel_rfl) (by decide +kernel) (by decide +kernel) (by decide +kernel)
  (by first|exact .inl (by decide +kernel)|exact .inr (by decide +kernel)) (by rw [isSubtype_type];kernel_rfl)
set_option maxRecDepth 100000 in
theorem jp:entryFor table "set_iterator.__iter__"=some Builtin.«dict_keyiterator.__iter__» :=
 entryFor_alias (id':="dict_keyiterator.__iter__") (by kernel_rfl) rfl (by decide +kernel) (by kernel_rfl)
set_option maxRecDepth 100000 in
theorem kw (a:Value):argsOk "set_iterator.__iter__" ⟨[a],[]⟩:=by
 unfold argsOk;rw [signature?_of (id:="set_iterator.__iter__") (n:=['_','_','r','e','t','i','_','_']) (o:=['r','o','t','a','r','e','t','i','_','t','e','s']) (by kernel_rfl) kN];kernel_rfl
theorem rH {P:Program}{w:World}{A:Around}{E:Value->Shared->Prop}{s:Shared}{I:Addr}{Q:Value->Shared->Prop} (hT:s.TypeIs (.ref I) "set_iterator") (h:Q (.ref I) s):wpAny (model P w) A (pyIter (.ref I)) Q E s:=by
 refine wpAny_pyIter_slot hT gb (wpAny_call_entry gb hT jp ?_ (kw _))
 show wpAny _ _ (ret (.ref I)) _ _ s
 exact wpAny_pure ⟨_,rfl,"set_iterator",_,hT,az.lookup,h⟩
theorem gq {α:Type}:∀ {l:List α}{i:Nat}{x:α},l[i]?=some x->(x::l.eraseIdx i).Perm l
 | [],i,x,h=>by simp at h
 | a::l,0,x,h=>by
  have e:a=x:=by simpa using h
  subst e
  exact .refl _
 | a::l,i + 1,x,h=>by
  have h':l[i]?=some x:=by simpa using h
  exact (List.Perm.swap a x _).trans (.cons a (gq h'))
theorem oX {α:Type} (next:Nat->Nat):∀ (fuel k:Nat) (left:List α) (out:Array α),fuel=left.length->(pickOrder.go next fuel k left out).toList.Perm (out.toList ++ left)
 | 0,k,left,out,h=>by
  have:left=[]:=List.length_eq_zero_iff.mp h.symm
  subst this
  rw [List.append_nil]
  exact .refl _
 | fuel + 1,k,left,out,h=>by
  have hl:next k % left.length < left.length:=Nat.mod_lt _ (by omega)
  obtain ⟨x,hx⟩:∃ x,left[next k % left.length]?=some x:=⟨_,List.getElem?_eq_getElem hl⟩
  have e:pickOrder.go next (fuel + 1) k left out=pickOrder.go next fuel (k + 1) (left.eraseIdx (next k % left.length)) (out.push x):=by
   show (match left[next k % left.length]? with
    | some x=>pickOrder.go next fuel (k + 1) (left.eraseIdx (next k % left.length)) (out.push x)
    | none=>out)=_
   rw [hx]
  rw [e]
  refine (oX next fuel (k + 1) _ _ (by rw [List.length_eraseIdx_of_lt hl];omega)).trans ?_
  rw [Array.toList_push,List.append_assoc]
  exact List.Perm.append_left _ (gq hx)
theorem qc {α:Type} (next:Nat->Nat) (xs:Array α):(pickOrder next xs).toList.Perm xs.toList:=by
 have:=oX next xs.size 0 xs.toList #[] (by simp)
 simpa [pickOrder] using this
section
variable {M:Model}{A:Around}{E:Value->Shared->Prop}{s:Shared}
theorem nN {src:Source}{n:Nat}{Q:Nat->Shared->Prop} (hn:n ≠ 0) (h:∀ i d',i < n->Q i { s with drawn:=d' }):wpAny M A (choose src n) Q E s:=λ_ _ _ =>
 ⟨hn,h _ _ (Nat.mod_lt _ (Nat.pos_of_ne_zero hn))⟩
theorem jq {α:Type}:∀ (n:Nat) (xs:List α) (s:Shared) {Q:List α->Shared->Prop},n=xs.length->(∀ ys d',ys.Perm xs->Q ys { s with drawn:=d' })->wpAny M A (drawOrder n xs) Q E s
 | 0,xs,s,Q,h,q=>by
  have:xs=[]:=List.length_eq_zero_iff.mp h.symm
  subst this
  show wpAny M A (pure []) Q E s
  exact wpAny_pure (q [] s.drawn (.refl _))
 | n + 1,[],s,Q,h,q=>by simp at h
 | n + 1,x::r,s,Q,h,q=>by
  show wpAny M A (choose .order (x::r).length >>= _) Q E s
  refine wpAny_bind (nN (by simp) λi d' hi=>?_)
  obtain ⟨y,hy⟩:∃ y,(x::r)[i]?=some y:=⟨_,List.getElem?_eq_getElem hi⟩
  rw [hy]
  dsimp only
  refine wpAny_bind (jq n _ _ (by rw [List.length_eraseIdx_of_lt hi];simp at h ⊢;omega) λys d'' hp=>wpAny_pure ?_)
  exact q (y::ys) d'' ((List.Perm.cons y hp).trans (gq hy))
end
noncomputable def SIt (h:Heap) (I S:Addr) (o:Obj) (f:Value) (i n ep:Nat):Prop :=
 h.get? I=some { cls:=.type "set_iterator",dict:=none,data:=.fields #[f,.int i 0,.ref S,.int n 0,.int ep 0],slots:=#[] }/\h.get? S=some o
theorem SIt.type {s:Shared}{I S:Addr}{o:Obj}{f:Value}{i n ep:Nat} (h:SIt s.heap I S o f i n ep):s.TypeIs (.ref I) "set_iterator":=⟨_,h.1,rfl⟩
section
variable {P:Program}{w:World}{A:Around}{E:Value->Shared->Prop}{s:Shared}
theorem dM {S:Addr}{o:Obj}{es:Array (Int × Value)}{ep:Nat}{t:SetTable}{Q:Array (Int × Value)->Shared->Prop} (ho:s.heap.get? S=some o) (hd:o.data=.set es ep t) (hf:t.fits es.size=true) (h:Q es s) :
  wpAny (model P w) A (setEntries S) Q E s:=wpAny_setEntries_of ho hd hf h
theorem kO {S:Addr}{o:Obj}{es:Array (Int × Value)}{ep slot i:Nat}{t:SetTable}{Q:Option (Value × Nat)->Shared->Prop} (ho:s.heap.get? S=some o) (hd:o.data=.set es ep t) (hf:t.fits es.size=true) (hb:byT w=true)
  (h:Q (((pickOrder (w.params.setOrder S ep) es)[i]?).map λe=>(e.2,slot)) s):wpAny (model P w) A (setNext S slot i ep) Q E s:=by
 unfold setNext
 refine wpAny_bind (wpAny_setState_of ho hd hf ?_)
 dsimp only
 refine wpAny_bind (eK ?_)
 rw [if_pos hb]
 simp only [bne_self_eq_false,Bool.false_eq_true,if_false]
 refine wpAny_bind ?_
 unfold setWalk
 refine wpAny_bind (wpAny_setState_of ho hd hf ?_)
 dsimp only
 refine wpAny_bind (eK ?_)
 rw [if_pos hb]
 refine wpAny_bind (wpAny_askSetting (wpAny_pure ?_))
 exact wpAny_pure h
theorem jr {S:Addr}{o:Obj}{es:Array (Int × Value)}{ep slot i:Nat}{t:SetTable}{Q:Option (Value × Nat)->Shared->Prop} (ho:s.heap.get? S=some o) (hd:o.data=.set es ep t) (hf:t.fits es.size=true) (hb:byT w=false)
  (hdr:(!t.plain&&decide (es.size > 1))=false) (hled:t.led=true)
  (h:Q (match es[SetTable.below t.place slot]?,t.place[SetTable.below t.place slot]? with|some (_,x),some j=>some (x,j + 1)|_,_=>none) s):wpAny (model P w) A (setNext S slot i ep) Q E s:=by
 unfold setNext
 refine wpAny_bind (wpAny_setState_of ho hd hf ?_)
 dsimp only
 refine wpAny_bind (eK ?_)
 rw [if_neg (by rw [hb];simp)]
 refine wpAny_ite_split (λhab=>absurd (show (!t.plain&&decide (es.size > 1))=true from hab) (by rw [hdr];simp)) (λ_=>?_)
 refine wpAny_bind ?_
 show wpAny _ _ (if (!t.led&&!es.isEmpty)=true then _ else _) _ _ s
 rw [if_neg (by rw [hled];simp)]
 exact wpAny_pure (wpAny_pure h)
theorem rJ {xs:Array Nat} (hr:kq xs) {i:Nat} (hi:i < xs.size):SetTable.below xs (xs.getD i 0 + 1)=i + 1:=by
 obtain ⟨h1,h2,h3⟩:=gn hr (xs.getD i 0 + 1)
 have a:i < SetTable.below xs (xs.getD i 0 + 1):=by
  by_cases q:SetTable.below xs (xs.getD i 0 + 1) <= i
  ·have:=h3 i q hi;omega
  ·omega
 have b:SetTable.below xs (xs.getD i 0 + 1) <= i + 1:=by
  by_cases q:i + 1 < SetTable.below xs (xs.getD i 0 + 1)
  ·have:=h2 (i + 1) q
   have:=hr i (i + 1) (by omega) (by omega)
   omega
  ·omega
 omega
theorem nO (xs:Array Nat) (hr:kq xs):SetTable.below xs 0=0:=by
 obtain ⟨h1,h2,h3⟩:=gn hr 0
 by_cases q:0 < SetTable.below xs 0
 ·have:=h2 0 q;omega
 ·omega
end
end L2.St
namespace L2.St
open PySem PyProof.Rows
section
variable {P:Program}{w:World}{A:Around}{E:Value->Shared->Prop}{s:Shared}{I S:Addr}{o:Obj}{es:Array (Int × Value)}{t:SetTable}{i n ep:Nat}
theorem ky {slot nx:Nat}{x:Value}{Q:Option Value->Shared->Prop} (hit:SIt s.heap I S o (.int slot 0) i n ep) (hd:o.data=.set es ep t) (hf:t.fits es.size=true) (hn:es.size=n) (hSI:S ≠ I)
  (hnx:∀ (A':Around) (s':Shared) (Q':Option (Value × Nat)->Shared->Prop) (E':Value->Shared->Prop),s'.heap.get? S=some o->Q' (some (x,nx)) s'->wpAny (model P w) A' (setNext S slot i ep) Q' E' s')
  (hQ:∀ h',SIt h' I S o (.int nx 0) (i + 1) n ep->Heap.SameBut I s.heap h'->Q (some x) { s with heap:=h' }):wpAny (model P w) A (pyNext (.ref I)) Q E s:=by
 unfold pyNext
 refine wpAny_bind (wpAny_attempt (wpAny_callSpecial?_slot (name:=Str.ofString "__next__") hit.type az (wpAny_call_entry az hit.type cY ?_ (di _))))
 unfold Builtin.«set_iterator.__next__»
 refine wpAny_bind (m:=slotArgs "__next__" 0 _) (wpAny_pure ?_)
 refine wpAny_bind (wpAny_fieldsOf hit.1 rfl ?_)
 dsimp only
 refine wpAny_bind (dM hit.2 hd hf ?_)
 rw [if_neg (by simp [hn])]
 try dsimp only
 simp only [Int.toNat_natCast]
 refine wpAny_bind (hnx _ _ _ _ hit.2 ?_)
 dsimp only
 refine wpAny_bind (wpAny_setField_rec hit.1 (by simp) λh1 e1 sb1=>?_)
 refine wpAny_bind (wpAny_setField_rec e1 (by simp) λh2 e2 sb2=>?_)
 refine wpAny_pure ⟨x,rfl,wpAny_pure (hQ h2 ⟨?_,?_⟩ (sb1.trans sb2))⟩
 ·simpa [rawInt] using e2
 ·exact ((sb1.trans sb2).2 S hSI).trans hit.2
theorem kz {slot:Nat}{Q:Option Value->Shared->Prop} (hh:A.handled=none) (hit:SIt s.heap I S o (.int slot 0) i n ep) (hd:o.data=.set es ep t) (hf:t.fits es.size=true) (hn:es.size=n)
  (hnx:∀ (A':Around) (s':Shared) (Q':Option (Value × Nat)->Shared->Prop) (E':Value->Shared->Prop),s'.heap.get? S=some o->Q' none s'->wpAny (model P w) A' (setNext S slot i ep) Q' E' s')
  (hQ:∀ h',(∀ b o,b ≠ I->s.heap.get? b=some o->h'.get? b=some o)->Q none { s with heap:=h' }):wpAny (model P w) A (pyNext (.ref I)) Q E s:=by
 unfold pyNext
 refine wpAny_bind (wpAny_attempt (wpAny_callSpecial?_slot (name:=Str.ofString "__next__") hit.type az (wpAny_call_entry az hit.type cY ?_ (di _))))
 unfold Builtin.«set_iterator.__next__»
 refine wpAny_bind (m:=slotArgs "__next__" 0 _) (wpAny_pure ?_)
 refine wpAny_bind (wpAny_fieldsOf hit.1 rfl ?_)
 dsimp only
 refine wpAny_bind (dM hit.2 hd hf ?_)
 rw [if_neg (by simp [hn])]
 try dsimp only
 simp only [Int.toNat_natCast]
 refine wpAny_bind (hnx _ _ _ _ hit.2 ?_)
 dsimp only
 refine wpAny_bind (wpAny_setField_rec hit.1 (by simp) λh1 e1 sb1=>?_)
 refine il (v:=.none) (vs:=#[]) (it:=0) (Q:=λ_ _=>True) (by first|exact hh|simpa using hh) λe s' kp ⟨h',eq⟩ hT=>?_
 subst eq
 refine wpAny_bind (wpAny_isInstance (T:="StopIteration") (b:=true) hT isSubtype_stop ?_)
 exact wpAny_pure (hQ h' λb o hb q=>kp b o ((sb1.2 b hb).trans q))
theorem jt {Tp:Addr}{ot:Obj}{ps:Array Value}{pn place:Nat}{pt:Tok}{hx:Int}{x:Value}{Q:Option Value->Shared->Prop} (hit:SIt s.heap I S o (.ref Tp) i n ep) (hd:o.data=.set es ep t) (hf:t.fits es.size=true) (hn:es.size=n) (hSI:S ≠ I)
  (hTp:s.heap.get? Tp=some ot) (hTd:ot.data=.seq ps pn) (hp:ps[i]?=some (.int place pt)) (hx':es[place]?=some (hx,x))
  (hQ:∀ h',SIt h' I S o (.ref Tp) (i + 1) n ep->Heap.SameBut I s.heap h'->Q (some x) { s with heap:=h' }):wpAny (model P w) A (pyNext (.ref I)) Q E s:=by
 unfold pyNext
 refine wpAny_bind (wpAny_attempt (wpAny_callSpecial?_slot (name:=Str.ofString "__next__") hit.type az (wpAny_call_entry az hit.type cY ?_ (di _))))
 unfold Builtin.«set_iterator.__next__»
 refine wpAny_bind (m:=slotArgs "__next__" 0 _) (wpAny_pure ?_)
 refine wpAny_bind (wpAny_fieldsOf hit.1 rfl ?_)
 dsimp only
 refine wpAny_bind (dM hit.2 hd hf ?_)
 rw [if_neg (by simp [hn])]
 try dsimp only
 refine wpAny_bind (wpAny_seqItems hTp hTd ?_)
 dsimp only
 simp only [Int.toNat_natCast,hp]
 refine wpAny_bind ?_
 unfold setNextDrawn
 refine wpAny_bind (wpAny_setState_of hit.2 hd hf ?_)
 dsimp only
 simp only [bne_self_eq_false,Bool.false_eq_true,if_false,Int.toNat_natCast,hx']
 refine wpAny_pure ?_
 refine wpAny_bind (wpAny_setField_rec hit.1 (by simp) λh1 e1 sb1=>?_)
 refine wpAny_pure ⟨x,rfl,wpAny_pure (hQ h1 ⟨?_,?_⟩ sb1)⟩
 ·simpa [rawInt] using e1
 ·exact (sb1.2 S hSI).trans hit.2
theorem ju {Tp:Addr}{ot:Obj}{ps:Array Value}{pn:Nat}{Q:Option Value->Shared->Prop} (hh:A.handled=none) (hit:SIt s.heap I S o (.ref Tp) i n ep) (hd:o.data=.set es ep t) (hf:t.fits es.size=true) (hn:es.size=n)
  (hTp:s.heap.get? Tp=some ot) (hTd:ot.data=.seq ps pn) (hp:ps[i]?=none)
  (hQ:∀ h',(∀ b o,b ≠ I->s.heap.get? b=some o->h'.get? b=some o)->Q none { s with heap:=h' }):wpAny (model P w) A (pyNext (.ref I)) Q E s:=by
 unfold pyNext
 refine wpAny_bind (wpAny_attempt (wpAny_callSpecial?_slot (name:=Str.ofString "__next__") hit.type az (wpAny_call_entry az hit.type cY ?_ (di _))))
 unfold Builtin.«set_iterator.__next__»
 refine wpAny_bind (m:=slotArgs "__next__" 0 _) (wpAny_pure ?_)
 refine wpAny_bind (wpAny_fieldsOf hit.1 rfl ?_)
 dsimp only
 refine wpAny_bind (dM hit.2 hd hf ?_)
 rw [if_neg (by simp [hn])]
 try dsimp only
 refine wpAny_bind (wpAny_seqItems hTp hTd ?_)
 dsimp only
 simp only [Int.toNat_natCast,hp]
 refine wpAny_bind (wpAny_setField_rec hit.1 (by simp) λh1 e1 sb1=>?_)
 refine wpAny_bind (wpAny_setField_rec e1 (by simp) λh2 e2 sb2=>?_)
 refine il (v:=.none) (vs:=#[]) (it:=0) (Q:=λ_ _=>True) (by first|exact hh|simpa using hh) λe s' kp ⟨h',eq⟩ hT=>?_
 subst eq
 refine wpAny_bind (wpAny_isInstance (T:="StopIteration") (b:=true) hT isSubtype_stop ?_)
 exact wpAny_pure (hQ h' λb o hb q=>kp b o (((sb1.trans sb2).2 b hb).trans q))
end
structure lL (P:Program) (w:World) (I:Addr) (fp:List Addr) (order:List Int) (St:Nat->Heap->Prop):Prop where
 mem:I ∈ fp
 ty:∀ i h,St i h->∃ o,h.get? I=some o/\o.cls=.type "set_iterator"
 frame:∀ i h h',St i h->(∀ b ∈ fp,∀ o,h.get? b=some o->h'.get? b=some o)->St i h'
 item:∀ (A:Around) i (s:Shared) (Q:Option Value->Shared->Prop) (E:Value->Shared->Prop),i < order.length->St i s.heap ->
  (∀ t h',St (i + 1) h'->(∀ b o,b ≠ I->s.heap.get? b=some o->h'.get? b=some o)->Q (some (.int (order.getD i 0) t)) { s with heap:=h' })->wpAny (model P w) A (pyNext (.ref I)) Q E s
 done:∀ (A:Around) (s:Shared) (Q:Option Value->Shared->Prop) (E:Value->Shared->Prop),A.handled=none->St order.length s.heap ->
  (∀ h',(∀ b o,b ≠ I->s.heap.get? b=some o->h'.get? b=some o)->Q none { s with heap:=h' })->wpAny (model P w) A (pyNext (.ref I)) Q E s
theorem lL.walks {P:Program}{w:World}{I:Addr}{fp:List Addr}{order:List Int}{St:Nat->Heap->Prop} (W:lL P w I fp order St) {A:Around} (hh:A.handled=none) :
  Walks P w A I fp [I] order.length (λi v=>∃ t,v=.int (order.getD i 0) t) St where
 sub:=λb hb=>by rw [List.mem_singleton.mp hb];exact W.mem
 frame:=W.frame
 item:=λi s Q E hi st hQ=>W.item A i s Q E hi st λt h' st' kp=>hQ _ h' s.toks ⟨t,rfl⟩ st' λb o hb e=>kp b o (λz=>hb (by rw [z];exact List.mem_singleton.mpr rfl)) e
 done:=λs Q E st hQ=>W.done A s Q E hh st λh' kp=>hQ h' s.toks λb o hb e=>kp b o (λz=>hb (by rw [z];exact List.mem_singleton.mpr rfl)) e
 self:=λi s Q E st h=>by
  obtain ⟨o,e,c⟩:=W.ty i _ st
  exact rH ⟨o,e,c⟩ h
section
variable {P:Program}{w:World}{A:Around}{E:Value->Shared->Prop}{s:Shared}
theorem gI {l:List (Int × Value)}{i:Nat}{e:Int × Value} (h:l[i]?=some e):(l.map λe=>numOf e.2).getD i 0=numOf e.2:=by
 rw [List.getD_eq_getElem?_getD,List.getElem?_map,h];rfl
set_option maxRecDepth 100000 in
theorem rK {S:Addr}{ks:List Int}{Q:Value->Shared->Prop} (g:da P w s.heap S ks)
  (hQ:∀ (I:Addr) (h':Heap) (d':Drawn) (fp:List Addr) (order:List Int) (St:Nat->Heap->Prop),order.Perm ks->(∀ b o,s.heap.get? b=some o->h'.get? b=some o)->s.heap.objs.size <= I->(∀ b ∈ fp,b=S \/ s.heap.objs.size <= b)->(∀ b ∈ fp,b < h'.objs.size) ->
   lL P w I fp order St->St 0 h'->Q (.ref I) { s with heap:=h',drawn:=d' }):wpAny (model P w) A (pyIter (.ref S)) Q E s:=by
 obtain ⟨o,es,ep,t,ho,hex,hd,hel,hpm,hnd,hb,hf,hgd⟩:=g
 have hT:s.TypeIs (.ref S) "set":=⟨o,ho,hex.1⟩
 have hSlt:S < s.heap.objs.size:=Heap.lt_size ho
 have hps:t.place.size=es.size:=by simp [SetTable.fits] at hf;exact hf.1
 have hlen:es.size=ks.length:=by have:=hpm.length_eq;simpa using this
 refine wpAny_pyIter_slot hT PySem.F.slot_set_iter (wpAny_call_entry PySem.F.slot_set_iter hT jo ?_ (PySem.F.args_set_iter_1 _))
 unfold Builtin.«frozenset.__iter__»
 refine wpAny_bind (m:=Builtin.Frozenset.slot0 "__iter__" _) (wpAny_pure ?_)
 refine wpAny_bind (m:=Builtin.Frozenset.sizeOf S) (wpAny_bind (dM ho hd hf (wpAny_pure ?_)))
 refine wpAny_bind (m:=setDrawn S) ?_
 unfold setDrawn
 refine wpAny_bind (wpAny_setState_of ho hd hf ?_)
 dsimp only
 refine wpAny_bind (eK (wpAny_pure ?_))
 have slotted:∀ (order:List (Int × Value)) (fs:Nat->Nat),order.Perm es.toList->fs 0=0 ->
   (∀ (A':Around) i (s':Shared) (Q':Option (Value × Nat)->Shared->Prop) (E':Value->Shared->Prop) e,order[i]?=some e->s'.heap.get? S=some o->Q' (some (e.2,fs (i + 1))) s'->wpAny (model P w) A' (setNext S (fs i) i ep) Q' E' s') ->
   (∀ (A':Around) (s':Shared) (Q':Option (Value × Nat)->Shared->Prop) (E':Value->Shared->Prop),s'.heap.get? S=some o->Q' none s'->wpAny (model P w) A' (setNext S (fs order.length) order.length ep) Q' E' s') ->
   Q (.ref s.heap.objs.size) { s with heap:=s.heap.push { cls:=.type "set_iterator",data:=.fields #[.int 0 0,.int 0 0,.ref S,.int (es.size:Nat) 0,.int (ep:Nat) 0] } }:=by
  intro order fs hp h0 hstep hend
  have hol:order.length=es.size:=by have:=hp.length_eq;simpa using this
  refine hQ s.heap.objs.size _ s.drawn [s.heap.objs.size,S] (order.map λe=>numOf e.2) (λi h=>SIt h s.heap.objs.size S o (.int (fs i) 0) i es.size ep) ((hp.map _).trans hpm) (λb o e=>Heap.get?_push_of_some _ e) (Nat.le_refl _) (λb hb=>?_) (λb hb=>?_) ?_ ?_
  ·rcases List.mem_cons.mp hb with e|e
   ·exact .inr (Nat.le_of_eq e.symm)
   ·exact .inl (List.mem_singleton.mp e)
  ·rw [Heap.size_push]
   rcases List.mem_cons.mp hb with e|e
   ·rw [e];exact Nat.lt_succ_self _
   ·rw [List.mem_singleton.mp e];exact Nat.lt_succ_of_lt hSlt
  ·refine ⟨.head _,λi h st=>⟨_,st.1,rfl⟩,λi h h' st k=>⟨k _ (.head _) _ st.1,k _ (.tail _ (.head _)) _ st.2⟩,λA' i s' Q' E' hi st hq=>?_,λA' s' Q' E' hh st hq=>?_⟩
   ·rw [List.length_map] at hi
    obtain ⟨e,he⟩:∃ e,order[i]?=some e:=⟨_,List.getElem?_eq_getElem hi⟩
    have hm:e ∈ es.toList:=hp.mem_iff.mp (List.mem_of_getElem? he)
    obtain ⟨tk,hv⟩:=im hel e hm
    rw [gI he] at hq
    refine ky (slot:=fs i) (nx:=fs (i + 1)) (x:=e.2) st hd hf rfl (Nat.ne_of_lt hSlt) (λA'' s'' Q'' E'' hs'' q=>hstep A'' i s'' Q'' E'' e he hs'' q) λh' st' sb=>?_
    rw [hv]
    exact hq tk h' st' λb o hb q=>(sb.2 b hb).trans q
   ·rw [List.length_map] at st
    exact kz (slot:=fs order.length) hh st hd hf rfl (λA'' s'' Q'' E'' hs'' q=>hend A'' s'' Q'' E'' hs'' q) hq
  ·refine ⟨?_,Heap.get?_push_of_some _ ho⟩
   rw [h0]
   exact Heap.get?_push_size _ rfl
 cases hbt:byT w with
 | true =>
  simp only [Bool.not_true,Bool.false_and,Bool.false_eq_true,if_false]
  refine wpAny_bind (wpAny_pure ?_)
  refine wpAny_bind (wpAny_setEpoch_of ho hd hf ?_)
  refine wpAny_bind (wpAny_newObj_type (wpAny_pure ⟨_,rfl,"set_iterator",_,⟨_,Heap.get?_push_size _ rfl,rfl⟩,az.lookup,?_⟩))
  have q:=slotted (pickOrder (w.params.setOrder S ep) es).toList (λ_=>0) (qc _ _) rfl
   (λA' i s' Q' E' e he hs' q=>kO hs' hd hf hbt (by rw [<- Array.getElem?_toList,he];exact q))
   (λA' s' Q' E' hs' q=>kO hs' hd hf hbt (by rw [Array.getElem?_eq_none (by simp)];exact q))
  simpa [rawInt] using q
 | false =>
  cases hdr:(!t.plain&&decide (es.size > 1)) with
  | false =>
   refine wpAny_ite_split (λhab=>absurd (show (!false&&(!t.plain&&decide (es.size > 1)))=true from hab) (by rw [hdr];simp)) (λ_=>?_)
   refine wpAny_bind (wpAny_pure ?_)
   refine wpAny_bind (wpAny_setEpoch_of ho hd hf ?_)
   refine wpAny_bind (wpAny_newObj_type (wpAny_pure ⟨_,rfl,"set_iterator",_,⟨_,Heap.get?_push_size _ rfl,rfl⟩,az.lookup,?_⟩))
   have hled:t.led=true:=by rw [hgd.led,hbt];rfl
   have hfs:∀ i,i <= t.place.size->SetTable.below t.place (match i with|0=>0|j + 1=>t.place.getD j 0 + 1)=i:=λi hi=>by
    cases i with
    | zero=>exact nO _ hgd.rise
    | succ j=>exact rJ hgd.rise (by omega)
   have q:=slotted es.toList (λi=>match i with|0=>0|j + 1=>t.place.getD j 0 + 1) (.refl _) rfl
    (λA' i s' Q' E' e he hs' q=>jr hs' hd hf hbt hdr hled (by
     have hi:i < es.size:=by have:=(List.getElem?_eq_some_iff.mp he).1;simpa using this
     rw [hfs i (by omega)]
     rw [<- Array.getElem?_toList,he,Array.getElem?_eq_getElem (by omega:i < t.place.size)]
     have e2:t.place.getD i 0=t.place[i]:=by simp [Array.getD,(by omega:i < t.place.size)]
     dsimp only at q ⊢
     rw [e2] at q
     exact q))
    (λA' s' Q' E' hs' q=>jr hs' hd hf hbt hdr hled (by
     rw [hfs _ (by simp [hps]),Array.getElem?_eq_none (by simp)]
     exact q))
   simpa [rawInt] using q
  | true =>
   refine wpAny_ite_split (λ_=>?_) (λhab=>absurd (show (!false&&(!t.plain&&decide (es.size > 1)))=true by rw [hdr];rfl) hab)
   refine wpAny_bind (jq _ _ _ (by simp) λplaces d' hperm=>?_)
   refine wpAny_bind (wpAny_newTuple ?_ (by simp;have:=hperm.length_eq;simp at this;rw [this,sizeLine_eq];unfold scanBound at hb;omega))
   refine wpAny_bind (wpAny_setEpoch_of (Heap.get?_push_of_some _ ho) hd hf ?_)
   refine wpAny_bind (wpAny_newObj_type (wpAny_pure ⟨_,rfl,"set_iterator",_,⟨_,Heap.get?_push_size _ rfl,rfl⟩,az.lookup,?_⟩))
   have hpl:places.length=es.size:=by have:=hperm.length_eq;simpa using this
   have hat:∀ p ∈ places,p < es.size:=λp hp=>by have:=hperm.mem_iff.mp hp;simpa using this
   have hT0:((s.heap.push { cls:=.type "tuple",data:=.seq (List.map (λ(i:Nat)=>rawInt i) places).toArray }).push { cls:=.type "set_iterator",data:=.fields #[.ref s.heap.objs.size,.int 0 0,.ref S,.int (es.size:Nat) 0,.int (ep:Nat) 0] }).get? s.heap.objs.size=some { cls:=.type "tuple",data:=.seq (List.map (λ(i:Nat)=>rawInt i) places).toArray } :=
    Heap.get?_push_of_some _ (Heap.get?_push_size _ rfl)
   have q:=hQ (s.heap.push { cls:=.type "tuple",data:=.seq (List.map (λ(i:Nat)=>rawInt i) places).toArray }).objs.size
    ((s.heap.push { cls:=.type "tuple",data:=.seq (List.map (λ(i:Nat)=>rawInt i) places).toArray }).push { cls:=.type "set_iterator",data:=.fields #[.ref s.heap.objs.size,.int 0 0,.ref S,.int (es.size:Nat) 0,.int (ep:Nat) 0] }) d'
    [(s.heap.push { cls:=.type "tuple",data:=.seq (List.map (λ(i:Nat)=>rawInt i) places).toArray }).objs.size,S,s.heap.objs.size]
    (places.map λp=>(es.toList.map λe=>numOf e.2).getD p 0)
    (λi h=>SIt h (s.heap.push { cls:=.type "tuple",data:=.seq (List.map (λ(i:Nat)=>rawInt i) places).toArray }).objs.size S o (.ref s.heap.objs.size) i es.size ep/\h.get? s.heap.objs.size=some { cls:=.type "tuple",data:=.seq (List.map (λ(i:Nat)=>rawInt i) places).toArray })
    ?p1 (λb o e=>Heap.get?_push_of_some _ (Heap.get?_push_of_some _ e)) (by rw [Heap.size_push];exact Nat.le_succ _) ?p2 ?p3 ?p4 ⟨⟨Heap.get?_push_size _ rfl,Heap.get?_push_of_some _ (Heap.get?_push_of_some _ ho)⟩,hT0⟩
   ·simpa [rawInt] using q
   case p1 =>
    have e1:(es.toList.map λe=>numOf e.2).length=es.size:=by simp
    have h1:=hperm.map λp=>(es.toList.map λe=>numOf e.2).getD p 0
    rw [<- e1,uO] at h1
    exact h1.trans hpm
   case p2 =>
    intro b hb
    simp only [List.mem_cons,List.not_mem_nil,or_false] at hb
    rcases hb with e|e|e
    ·exact .inr (by rw [e,Heap.size_push];exact Nat.le_succ _)
    ·exact .inl e
    ·exact .inr (Nat.le_of_eq e.symm)
   case p3 =>
    intro b hb
    rw [Heap.size_push]
    simp only [List.mem_cons,List.not_mem_nil,or_false] at hb
    rcases hb with e|e|e
    ·rw [e];exact Nat.lt_succ_self _
    ·rw [e,Heap.size_push];exact Nat.lt_succ_of_lt (Nat.lt_succ_of_lt hSlt)
    ·rw [e,Heap.size_push];exact Nat.lt_succ_of_lt (Nat.lt_succ_self _)
   case p4 =>
    refine ⟨.head _,λi h st=>⟨_,st.1.1,rfl⟩,λi h h' st k=>⟨⟨k _ (.head _) _ st.1.1,k _ (.tail _ (.head _)) _ st.1.2⟩,k _ (.tail _ (.tail _ (.head _))) _ st.2⟩,λA' i s' Q' E' hi st hq=>?_,λA' s' Q' E' hh st hq=>?_⟩
    ·rw [List.length_map] at hi
     obtain ⟨p,hp⟩:∃ p,places[i]?=some p:=⟨_,List.getElem?_eq_getElem hi⟩
     have hpz:p < es.size:=hat p (List.mem_of_getElem? hp)
     obtain ⟨e,he⟩:∃ e,es.toList[p]?=some e:=⟨_,List.getElem?_eq_getElem (by simpa using hpz)⟩
     obtain ⟨tk,hv⟩:=im hel e (List.mem_of_getElem? he)
     have e3:(places.map λp=>(es.toList.map λe=>numOf e.2).getD p 0).getD i 0=numOf e.2:=by
      rw [List.getD_eq_getElem?_getD,List.getElem?_map,hp]
      exact gI he
     rw [e3] at hq
     refine jt (place:=p) (pt:=0) (hx:=e.1) (x:=e.2) st.1 hd hf rfl (by rw [Heap.size_push];exact Nat.ne_of_lt (Nat.lt_succ_of_lt hSlt)) st.2 rfl (by simp [hp,rawInt]) (by rw [<- Array.getElem?_toList,he]) λh' st' sb=>?_
     rw [hv]
     exact hq tk h' ⟨st',(sb.2 _ (by rw [Heap.size_push];exact Nat.ne_of_lt (Nat.lt_succ_self _))).trans st.2⟩ λb o hb q=>(sb.2 b hb).trans q
    ·rw [List.length_map] at st
     exact ju hh st.1 hd hf rfl st.2 rfl (by simp) hq
end
end L2.St
namespace L2.St
open PySem PyProof.Rows
section
variable {P:Program}{w:World}{A:Around}{E:Value->Shared->Prop}{s:Shared}
theorem rL {r:Addr}{Q:Bool->Shared->Prop} (hT:s.TypeIs (.ref r) "set") (h:Q false s):wpAny (model P w) A (Builtin.List.listLengthHint (.ref r)) Q E s:=by
 unfold Builtin.List.listLengthHint
 refine wpAny_bind (wpAny_specialOf hT PySem.F.slot_set_len.lookup ?_)
 generalize hid:("set.__len__":String)=id0
 wp_delta
 rw [show splitId id0=some ("set","__len__") from by subst hid;decide +kernel]
 subst hid
 refine wpAny_bind (wpAny_isInstance (T:="set") (b:=true) hT (by rw [isSubtype_type];kernel_rfl) ?_)
 refine wpAny_ite_split (λhab=>absurd hab (by decide)) (λ_=>?_)
 refine wpAny_ite_split (λ_=>?_) (λhab=>absurd (by decide +kernel) hab)
 refine wpAny_bind (wpAny_typeOf hT ?_)
 exact wpAny_pure h
set_option maxRecDepth 100000 in
theorem mB {S:Addr}{ks:List Int}{R:List Value->Shared->Prop} (hh:A.handled=none) (g:da P w s.heap S ks)
  (h:∀ (h':Heap) (tk:Nat) (d':Drawn) (acc:List Value) (order:List Int),(∀ b o,s.heap.get? b=some o->h'.get? b=some o)->order.Perm ks->IntsAre acc order->R acc { s with heap:=h',toks:=tk,drawn:=d' }) :
  wpAny (model P w) A (collect (.ref S)) R E s:=by
 have hks:ks.length < scanBound:=by
  obtain ⟨o,es,ep,t,ho,hex,hd,hel,hp,hn,hb,_⟩:=g
  have:=hp.length_eq
  have e:es.size=ks.length:=by simpa using this
  omega
 have hSlt:S < s.heap.objs.size:=by
  obtain ⟨o,es,ep,t,ho,_⟩:=g
  exact Heap.lt_size ho
 unfold collect
 refine wpAny_bind (wpAny_runValue (codeAny_builtin entry_proto_collect' ?_))
 rw [Around.under_plainId PySem.F.plain_proto_collect _]
 show wpAny _ A.in1 (newList [] >>= λl=>again (.builtin "list.__iadd__" ⟨[l,.ref S],[]⟩)) _ _ s
 refine wpAny_bind (wpAny_newObj_type ?_)
 refine wpAny_pure ⟨plainId_quiet PySem.F.plain_list_iadd _,codeAny_builtin entry_list_iadd' ?_⟩
 rw [Around.under_plainId PySem.F.plain_list_iadd _]
 have hS0:(s.heap.push { cls:=.type "list",data:=.seq ([]:List Value).toArray }).get? s.heap.objs.size=some { cls:=.type "list",data:=.seq #[] }:=Heap.get?_push_size _ rfl
 show wpAny _ A.in1 (Builtin.List.listExtendWith (.ref s.heap.objs.size) (.ref S) (.ref s.heap.objs.size)) _ _ _
 have g1:da P w (s.heap.push { cls:=.type "list",data:=.seq ([]:List Value).toArray }) S ks:=g.at λo e=>Heap.get?_push_of_some _ e
 have hT:Shared.TypeIs { s with heap:=s.heap.push { cls:=.type "list",data:=.seq ([]:List Value).toArray } } (.ref S) "set":=by
  obtain ⟨o,es,ep,t,ho,hex,_⟩:=g1
  exact ⟨o,ho,hex.1⟩
 unfold Builtin.List.listExtendWith
 refine wpAny_bind (wpAny_typeOf (T:="set") hT ?_)
 have q1:Builtin.List.listSameRef (.ref s.heap.objs.size) (.ref S)=false:=by simp [Builtin.List.listSameRef,Nat.ne_of_gt hSlt]
 have q2:(Value.type "set" == Value.type "list")=false:=by decide
 have q3:(Value.type "set" == Value.type "tuple")=false:=by decide
 simp only [q1,q2,q3,Bool.or_false,Bool.false_eq_true,if_false]
 refine wpAny_bind (rK g1 λI h1 d1 fp order St hperm kp hI hfp hlt W st=>?_)
 have hz0:(s.heap.push { cls:=.type "list",data:=.seq ([]:List Value).toArray }).objs.size=s.heap.objs.size + 1:=Heap.size_push ..
 have hLf:s.heap.objs.size ∉ fp:=λhm=>by
  rcases hfp _ hm with e|e
  ·exact Nat.lt_irrefl _ (by rw [<- e] at hSlt;exact hSlt)
  ·dsimp only at e
   rw [hz0] at e
   exact Nat.not_succ_le_self _ e
 have hol:order.length <= sizeLine:=by
  have:=hperm.length_eq
  rw [this]
  exact fits_of_scanBound hks
 have hT1:Shared.TypeIs { s with heap:=h1,drawn:=d1 } (.ref S) "set":=by
  obtain ⟨o,e,c⟩:=hT
  exact ⟨o,kp S o e,c⟩
 refine wpAny_bind (wpAny_holding (rL hT1 ?_))
 have WS:=(W.walks (A:=A.in1) (by first|exact hh|simpa using hh)).toS
 have fin:∀ (h2:Heap) (c1:Nat),St 0 h2->(∀ b o,b ≠ s.heap.objs.size->h1.get? b=some o->h2.get? b=some o)->h2.get? s.heap.objs.size=some { cls:=.type "list",dict:=none,data:=.seq #[] c1,slots:=#[] } ->
   codeAny (model P w) A (.builtin "list.extend.loop" ⟨[.ref s.heap.objs.size,.ref I,.ref s.heap.objs.size],[]⟩)
    (λr s'=>∃ (h':Heap) (tk:Nat) (acc':Array Value) (c':Nat),r=.ok (.ret (.ref s.heap.objs.size))/\s'={ s with heap:=h',toks:=tk,drawn:=d1 }/\(∀ b o,s.heap.get? b=some o->h'.get? b=some o) /\
     h'.get? s.heap.objs.size=some { cls:=.type "list",dict:=none,data:=.seq acc' c',slots:=#[] }/\IntsAre acc'.toList order) { s with heap:=h2,drawn:=d1 }:=by
  intro h2 c1 st2 k2 hS2
  refine codeAny_extend_loopS WS hol s.heap.objs.size hLf _ order.length 0 _ #[] c1 rfl (Nat.zero_le _) st2 hS2 (ItemsOf.nil _) λs' acc' c' hm hS' hacc=>?_
  refine ⟨s'.heap,s'.toks,acc',c',rfl,(by
   obtain ⟨h',g',dr',tk',os'⟩:=s'
   have eg:g'=s.gens:=hm.gens
   have ed:dr'=d1:=hm.drawn
   have eo:os'=s.os:=hm.os
   subst eg;subst ed;subst eo;rfl),λb o e=>?_,hS',ko hacc⟩
  have hbl:b ≠ s.heap.objs.size:=Nat.ne_of_lt (Heap.lt_size e)
  refine hm.heap b o (λhmem=>?_) (k2 b o hbl (kp b o (Heap.get?_push_of_some _ e)))
  rcases List.mem_cons.mp hmem with z|z
  ·exact hbl z
  ·have hbI:b=I:=List.mem_singleton.mp z
   rw [hbI] at e
   have hI':(s.heap.push { cls:=.type "list",data:=.seq ([]:List Value).toArray }).objs.size <= I:=hI
   rw [hz0] at hI'
   exact absurd (Nat.lt_of_lt_of_le (Heap.lt_size e) (Nat.le_of_succ_le hI')) (Nat.lt_irrefl _)
 have done:∀ (r:Result) (s':Shared),(∃ (h':Heap) (tk:Nat) (acc':Array Value) (c':Nat),r=.ok (.ret (.ref s.heap.objs.size))/\s'={ s with heap:=h',toks:=tk,drawn:=d1 }/\(∀ b o,s.heap.get? b=some o->h'.get? b=some o) /\
     h'.get? s.heap.objs.size=some { cls:=.type "list",dict:=none,data:=.seq acc' c',slots:=#[] }/\IntsAre acc'.toList order) ->
   wants (λv s'=>wpAny (model P w) A (match v with
    | Value.ref a=>do
     match (<- load a).data with
      | Data.seq xs _=>pure xs.toList
      | _=>unsupported "internal:collect"
    | _=>unsupported "internal:collect") R E s') E r s':=by
  rintro r s' ⟨h',tk,acc',c',rfl,rfl,k',hS',hi⟩
  show wpAny _ A (load s.heap.objs.size >>= _) _ _ _
  refine wpAny_bind (wpAny_load hS' ?_)
  exact wpAny_pure (h h' tk d1 acc'.toList order k' hperm hi)
 have h1L:h1.get? s.heap.objs.size=some { cls:=.type "list",dict:=none,data:=.seq #[] 0,slots:=#[] }:=kp _ _ hS0
 refine wpAny_ite_split (λ_=>?_) (λ_=>wpAny_pure ⟨plainId_quiet PySem.F.plain_extend_loop _,codeAny_mono (fin h1 0 st (λ_ _ _ e=>e) h1L) done⟩)
 refine wpAny_bind (wpAny_rule ?_)
 refine wpAny_bind ?_
 show wpAny _ _ (updateSeq s.heap.objs.size (·.push .none) >>= λ_=>updateSeq s.heap.objs.size (·.pop)) _ _ _
 refine wpAny_bind (wpAny_updateSeq h1L rfl ?_)
 have hS2:=Heap.get?_update_self (Obj.mapSeq (·.push Value.none)) h1L rfl
 refine wpAny_updateSeq (hz:=by seq_fits) hS2 rfl ?_
 have hS3:=Heap.get?_update_self (Obj.mapSeq (·.pop)) hS2 rfl
 refine wpAny_pure ⟨plainId_quiet PySem.F.plain_extend_loop _,codeAny_mono (fin _ _ ?_ (λb o hb e=>?_) hS3) done⟩
 ·refine W.frame 0 _ _ st λb hb o e=>?_
  have hbS:b ≠ s.heap.objs.size:=λz=>hLf (z ▸ hb)
  exact (Heap.get?_update_other _ _ (Ne.symm hbS)).trans ((Heap.get?_update_other _ _ (Ne.symm hbS)).trans e)
 ·exact (Heap.get?_update_other _ _ (Ne.symm hb)).trans ((Heap.get?_update_other _ _ (Ne.symm hb)).trans e)
end
end L2.St
namespace L2
open PySem PySem.Spec PyProof.Rows
noncomputable def fW (scope osc:Scope):Scope :=
 { scope with names:=scope.names.map λ(n,k)=>if (k == .free&&osc.kind == .function&&osc.names.lookup n == some .cell) then (n,.cell) else (n,k) }
noncomputable def kA (osc:Scope) (n:Str) (k:NameKind):NameKind:=if (k == .free&&osc.kind == .function&&osc.names.lookup n == some .cell) then .cell else k
theorem gr (scope osc:Scope):(fW scope osc).names=scope.names.map λq=>(q.1,kA osc q.1 q.2):=by
 show List.map _ scope.names=_
 refine List.map_congr_left λq _=>?_
 obtain ⟨n,k⟩:=q
 show (if (k == NameKind.free&&osc.kind == .function&&osc.names.lookup n == some .cell)=true then (n,NameKind.cell) else (n,k))=(n,kA osc n k)
 unfold kA
 split <;> rfl
theorem dY {α β:Type} (g:Str->α->β) (y:Str):∀ names:List (Str × α),(names.map λq=>(q.1,g q.1 q.2)).lookup y=(names.lookup y).map (g y)
 | []=>rfl
 | (n,k)::r=>by
  rw [List.map_cons]
  cases hx:y == n with
  | true =>
   simp only [List.lookup_cons,hx,Option.map_some]
   rw [eq_of_beq hx]
  | false =>
   simp only [List.lookup_cons,hx]
   exact dY g y r
theorem qd (osc:Scope) (n:Str):kA osc n .free=.cell \/ kA osc n .free=.free:=by
 unfold kA
 split
 ·exact .inl rfl
 ·exact .inr rfl
theorem qe {osc:Scope}{n:Str}{k:NameKind} (hk:k ≠ .cell) (h:kA osc n k=.cell \/ kA osc n k=.free):k=.free:=by
 unfold kA at h
 by_cases hc:(k == NameKind.free&&osc.kind == .function&&osc.names.lookup n == some .cell)=true
 ·simp only [Bool.and_eq_true] at hc
  exact eq_of_beq hc.1.1
 ·rw [if_neg hc] at h
  rcases h with h|h
  ·exact absurd h hk
  ·exact h
theorem gu {α:Type}{y:Str}{k:α}:∀ {l:List (Str × α)},l.lookup y=some k->(y,k) ∈ l
 | [],h=>by simp at h
 | (n,k')::r,h=>by
  cases hx:y == n with
  | true =>
   simp only [List.lookup_cons,hx] at h
   rw [eq_of_beq hx,Option.some.inj h];exact .head _
  | false =>
   simp only [List.lookup_cons,hx] at h
   exact .tail _ (gu h)
theorem qf {scope osc:Scope}{y:Str} (h:scope.names.lookup y=some .free):(fW scope osc).names.lookup y=some .cell \/ (fW scope osc).names.lookup y=some .free:=by
 rw [gr,dY,h,Option.map_some]
 rcases qd osc y with e|e
 ·exact .inl (by rw [e])
 ·exact .inr (by rw [e])
theorem qg {scope osc:Scope}{x y:Str} (hn:∀ z ∈ scope.names,z.2=.cell->z.1=x) (h:(fW scope osc).names.lookup y=some .cell \/ (fW scope osc).names.lookup y=some .free):(y,NameKind.free) ∈ scope.names \/ (y=x/\scope.names.lookup x=some .cell):=by
 rw [gr,dY] at h
 cases e:scope.names.lookup y with
 | none=>rw [e] at h;rcases h with h|h <;> cases h
 | some k =>
  rw [e,Option.map_some] at h
  have hm:=gu e
  by_cases hc:k=.cell
  ·subst hc
   have q:y=x:=hn _ hm rfl
   exact .inr ⟨q,by rw [<- q];exact e⟩
  ·have hk:k=.free:=qe hc (h.elim (λz=>.inl (Option.some.inj z)) λz=>.inr (Option.some.inj z))
   rw [hk] at hm
   exact .inl hm
theorem qh {scope osc:Scope}{y:Str} (h:scope.names.lookup y=some .cell):(fW scope osc).names.lookup y=some .cell:=by
 rw [gr,dY,h,Option.map_some]
 unfold kA
 split
 ·rfl
 ·rfl
noncomputable def eA (env:Env):List (Str × NameKind)->List (Str × Addr)->List (Str × Addr)
 | [],acc=>acc
 | (n,k)::r,acc=>if k == .free then eA env r ((n,(env.cells.lookup n).getD 0)::acc) else eA env r acc
theorem iq {env:Env}:∀ (names:List (Str × NameKind)) (acc:List (Str × Addr)),(∀ y ∈ names,y.2=.free->∃ c,env.cells.lookup y.1=some c) ->
  (forIn names acc λx r=>(match x with|(name,kind)=>if (kind == NameKind.free)=true then do let c <- cellOf env name;pure (ForInStep.yield ((name,c)::r)) else pure (ForInStep.yield r)):Sem (List (Str × Addr)))=pure (eA env names acc)
 | [],acc,_=>rfl
 | (n,k)::r,acc,h=>by
  rw [List.forIn_cons]
  have hr:∀ y ∈ r,y.2=.free->∃ c,env.cells.lookup y.1=some c:=λy hy=>h y (.tail _ hy)
  by_cases hk:(k == NameKind.free)=true
  ·obtain ⟨c,hc⟩:=h (n,k) (.head _) (eq_of_beq hk)
   dsimp only
   rw [if_pos hk]
   have e1:cellOf env n=pure c:=by unfold cellOf;rw [hc]
   rw [e1]
   simp only [pure_bind]
   rw [iq r _ hr]
   show _=pure (if (k == NameKind.free)=true then _ else _)
   rw [if_pos hk,hc]
   all_goals rfl
  ·dsimp only
   rw [if_neg hk]
   simp only [pure_bind]
   rw [iq r _ hr]
   show _=pure (if (k == NameKind.free)=true then _ else _)
   rw [if_neg hk]
theorem jv {scope:Scope}{env:Env} (h:∀ y ∈ scope.names,y.2=.free->∃ c,env.cells.lookup y.1=some c):closureFor scope env=pure (eA env scope.names []):=by
 unfold closureFor
 have:=iq (env:=env) scope.names [] h
 first
  | exact this
  | (rw [bind_pure];exact this)
  | simpa using this
theorem jw {env:Env}{y:Str}{c:Addr}:∀ (names:List (Str × NameKind)) (acc:List (Str × Addr)),(∀ z ∈ names,z.2=.free->∃ c,env.cells.lookup z.1=some c)->(∀ c,acc.lookup y=some c->env.cells.lookup y=some c) ->
  (eA env names acc).lookup y=some c->env.cells.lookup y=some c
 | [],acc,_,ha,e=>ha c e
 | (n,k)::r,acc,h,ha,e=>by
  have hr:∀ y ∈ r,y.2=.free->∃ c,env.cells.lookup y.1=some c:=λy hy=>h y (.tail _ hy)
  have e':(if (k == NameKind.free)=true then eA env r ((n,(env.cells.lookup n).getD 0)::acc) else eA env r acc).lookup y=some c:=e
  by_cases hk:(k == NameKind.free)=true
  ·rw [if_pos hk] at e'
   refine jw r _ hr (λc' q=>?_) e'
   cases hx:y == n with
   | true =>
    simp only [List.lookup_cons,hx] at q
    obtain ⟨c0,hc0⟩:=h (n,k) (.head _) (eq_of_beq hk)
    have en:y=n:=eq_of_beq hx
    have hc1:env.cells.lookup n=some c0:=hc0
    rw [hc1] at q
    rw [en,hc1]
    exact q
   | false =>
    simp only [List.lookup_cons,hx] at q
    exact ha c' q
  ·rw [if_neg hk] at e'
   exact jw r _ hr ha e'
theorem gJ {env:Env}{y:Str}:∀ (names:List (Str × NameKind)) (acc:List (Str × Addr)),((y,NameKind.free) ∈ names \/ ∃ c,acc.lookup y=some c)->∃ c,(eA env names acc).lookup y=some c
 | [],acc,h=>by
  rcases h with h|h
  ·simp at h
  ·exact h
 | (n,k)::r,acc,h=>by
  show ∃ c,(if (k == NameKind.free)=true then eA env r ((n,(env.cells.lookup n).getD 0)::acc) else eA env r acc).lookup y=some c
  by_cases hk:(k == NameKind.free)=true
  ·rw [if_pos hk]
   refine gJ r _ ?_
   cases hx:y == n with
   | true=>exact .inr ⟨(env.cells.lookup n).getD 0,by simp only [List.lookup_cons,hx]⟩
   | false =>
    rcases h with h|⟨c,h⟩
    ·rcases List.mem_cons.mp h with z|z
     ·have:y=n:=(Prod.mk.inj z).1
      rw [this] at hx
      simp at hx
     ·exact .inl z
    ·exact .inr ⟨c,by simp only [List.lookup_cons,hx];exact h⟩
  ·rw [if_neg hk]
   refine gJ r _ ?_
   rcases h with h|h
   ·rcases List.mem_cons.mp h with z|z
    ·have:NameKind.free=k:=(Prod.mk.inj z).2
     rw [<- this] at hk
     simp at hk
    ·exact .inl z
   ·exact .inr h
structure ir (osc:Scope) (N:List Str) (scope:Scope) (x:Str) (fvs:List Str) (js:List Nat):Prop where
 cells:∀ y ∈ scope.names,y.2=.cell->y.1=x
 once:scope.names.lookup x=some .local/\(scope.names.filter λy=>y.2 == .cell)=[] \/ scope.names.lookup x=some .cell/\(scope.names.filter λy=>y.2 == .cell)=[(x,.cell)]
 xf:∀ y ∈ scope.names,y.2=.free->y.1 ≠ x
 kind:scope.kind=.function
 names:∀ y ∈ scope.names,y.2=.local->scope.names.lookup y.1=some .local
 nd:(x::fvs).Nodup
 out:∀ y ∈ scope.names,y.2=.free->osc.names.lookup y.1=some .cell \/ osc.names.lookup y.1=some .free
 slots:(js.map λj=>N[j]?)=fvs.map some
 free:∀ y ∈ fvs,scope.names.lookup y=some .free
structure oY (osc:Scope) (N:List Str) (scope:Scope) (x:Str) (ys fvs:List Str) (js:List Nat):Prop where
 cells:∀ y ∈ scope.names,y.2=.cell->y.1=x
 once:scope.names.lookup x=some .local/\(scope.names.filter λy=>y.2 == .cell)=[] \/ scope.names.lookup x=some .cell/\(scope.names.filter λy=>y.2 == .cell)=[(x,.cell)]
 xf:∀ y ∈ scope.names,y.2=.free->y.1 ≠ x
 kind:scope.kind=.function
 names:∀ y ∈ scope.names,y.2=.local->scope.names.lookup y.1=some .local
 nd:(x::(ys ++ fvs)).Nodup
 out:∀ y ∈ scope.names,y.2=.free->osc.names.lookup y.1=some .cell \/ osc.names.lookup y.1=some .free
 slots:(js.map λj=>N[j]?)=fvs.map some
 free:∀ y ∈ fvs,scope.names.lookup y=some .free
theorem ir.g {osc:Scope}{N:List Str}{scope:Scope}{x:Str}{fvs:List Str}{js:List Nat} (h:ir osc N scope x fvs js):oY osc N scope x [] fvs js:=⟨h.cells,h.once,h.xf,h.kind,h.names,h.nd,h.out,h.slots,h.free⟩
noncomputable def iu (scope:Scope) (x:Str) (C:Addr):List (Str × Addr):=if scope.names.lookup x=some .cell then [(x,C + 1)] else []
noncomputable def Cx.blk (X:Cx) (x:Str) (fvs:List Str) (scope:Scope) (s₁:Shared) (H₁:Hp) (C:Addr) (fp:List Addr):Cx :=
 { X with N:=x::fvs,s₀:=s₁,H₀:=H₁,env:=compEnvC scope (iu scope x C ++ eA X.env scope.names []) C X.env,outer:=X.stack,ex:=fp,fn:=λy=>decide (y=x/\scope.names.lookup x=some .cell),pn:=[],xe:=λ_ _=>False }
theorem jx {M:Model}{A:Around}{E:Value->Shared->Prop}:∀ {names:List (Str × NameKind)}{acc:List (Str × Addr)}{s:Shared}{Q:List (Str × Addr)->Shared->Prop},(names.filter λy=>y.2 == .cell)=[]->Q acc s ->
  wpAny M A (forIn names acc λx r=>(match x with|(name,kind)=>if (kind == NameKind.cell)=true then do let c <- alloc { cls:=.type "cell",data:=.cell none };pure (ForInStep.yield ((name,c)::r)) else pure (ForInStep.yield r)):Sem (List (Str × Addr))) Q E s
 | [],_,_,_,_,h=>wpAny_pure h
 | (n,k)::r,acc,s,Q,hf,h=>by
  rw [List.forIn_cons]
  have hk:(k == NameKind.cell)=false:=by
   cases q:(k == NameKind.cell) with
   | false=>rfl
   | true=>rw [List.filter_cons_of_pos (by exact q)] at hf;cases hf
  rw [List.filter_cons_of_neg (by rw [hk];decide)] at hf
  dsimp only
  rw [if_neg (by rw [hk];decide)]
  exact wpAny_bind (wpAny_pure (jx hf h))
theorem kP {M:Model}{A:Around}{E:Value->Shared->Prop}{x:Str}:∀ {names:List (Str × NameKind)}{acc:List (Str × Addr)}{s:Shared}{Q:List (Str × Addr)->Shared->Prop},(names.filter λy=>y.2 == .cell)=[(x,.cell)] ->
  Q ((x,s.heap.objs.size)::acc) { s with heap:=s.heap.push { cls:=.type "cell",data:=.cell none } } ->
  wpAny M A (forIn names acc λx r=>(match x with|(name,kind)=>if (kind == NameKind.cell)=true then do let c <- alloc { cls:=.type "cell",data:=.cell none };pure (ForInStep.yield ((name,c)::r)) else pure (ForInStep.yield r)):Sem (List (Str × Addr))) Q E s
 | [],_,_,_,hf,_=>by cases hf
 | (n,k)::r,acc,s,Q,hf,h=>by
  rw [List.forIn_cons]
  dsimp only
  cases hk:(k == NameKind.cell) with
  | false =>
   rw [List.filter_cons_of_neg (by rw [hk];decide)] at hf
   rw [if_neg (by decide)]
   exact wpAny_bind (wpAny_pure (kP hf h))
  | true =>
   rw [List.filter_cons_of_pos (by exact hk)] at hf
   obtain ⟨e1,e2⟩:=List.cons.inj hf
   cases e1
   rw [if_pos rfl]
   exact wpAny_bind (wpAny_bind (wpAny_alloc (wpAny_pure (jx e2 h))))
theorem nP {M:Model}{A:Around}{E:Value->Shared->Prop}{scope:Scope}{x:Str}{globals:Addr}{cl:List (Str × Addr)}{qual:Str}{env:Env}{s:Shared}{Q:Env->Shared->Prop} (hk:scope.kind=.function)
  (ho:scope.names.lookup x=some .local/\(scope.names.filter λy=>y.2 == .cell)=[] \/ scope.names.lookup x=some .cell/\(scope.names.filter λy=>y.2 == .cell)=[(x,.cell)])
  (h:∀ h' m,h'.Ns s.heap.objs.size m->(∀ b u,s.heap.get? b=some u->h'.get? b=some u)->(scope.names.lookup x=some .cell->h'.IsCell (s.heap.objs.size + 1) none)->Q (newEnv scope s.heap.objs.size globals (iu scope x s.heap.objs.size ++ cl) qual none .none (some env) builtinsNs) { s with heap:=h' }) :
  wpAny M A (newFunctionEnv scope globals cl [] qual none .none (some env)) Q E s:=by
 rcases ho with ⟨h1,h2⟩|⟨h1,h2⟩
 ·refine wpAny_newFunctionEnv (λy hy z=>?_) (by intro y hy;simp at hy) (λh' hns hsb=>?_) hk
  ·have:y ∈ scope.names.filter λy=>y.2 == .cell:=List.mem_filter.mpr ⟨hy,by rw [z];rfl⟩
   rw [h2] at this
   cases this
  ·have q:=h h' _ hns (λb u e=>hsb.extBut b u (Nat.ne_of_lt (Heap.lt_size e)) (Heap.get?_push_of_some _ e)) λz=>by rw [h1] at z;cases z
   unfold iu at q
   rw [if_neg (by rw [h1];simp)] at q
   exact q
 ·unfold newFunctionEnv
  refine wpAny_bind (wpAny_alloc (wpAny_bind (kP h2 ?_)))
  have hn:=Heap.Ns.new s.heap (.type "dict")
  have hs:(s.heap.push { cls:=.type "dict",data:=.dict #[] }).objs.size=s.heap.objs.size + 1:=Heap.size_push _ _
  have q:=h ((s.heap.push { cls:=.type "dict",data:=.dict #[] }).push { cls:=.type "cell",data:=.cell none }) _ (hn.keeps λb o e=>Heap.get?_push_of_some _ e) (λb u e=>Heap.get?_push_of_some _ (Heap.get?_push_of_some _ e)) λ_=>⟨_,by rw [<- hs];exact Heap.get?_push_size _ rfl,rfl⟩
  unfold iu at q
  rw [if_pos h1] at q
  rw [<- hs] at q
  exact wpAny_bind (wpAny_pure (wpAny_pure q))
noncomputable def jy (js:List Nat) (σ:St):St:=none::js.map λj=>(σ[j]?).join
noncomputable def qi (n:Nat) (js:List Nat) (σ:St):St:=none::(List.replicate n none ++ js.map λj=>(σ[j]?).join)
noncomputable def PF (X:Cx) (ifs:List Expr) (t:TT):Prop :=
 ∀ (pins:List (Addr × Obj)) (s:Shared) (σ:St) (H:Hp) (Q:Bool->Hp->Prop),Inv X pins σ H s->t σ H Q ->
  wpAny (model X.prog X.w) X.A (forIn ifs true λc r=>if r=true then do let ok <- isTrue c X.env (eval c X.env);pure (ForInStep.yield ok) else pure (ForInStep.yield r)) (TP X pins σ Q) X.xe s
noncomputable def w_:TT:=λ_ H Q=>Q true H
theorem rM {X:Cx}:PF X [] w_:=λ_ _ _ H _ I h=>wpAny_tests_nil ⟨H,I,h⟩
theorem xa {X:Cx}{c:Expr}{t:TT} (h:PT X c t):PF X [c] t:=λpins s σ H Q I q=>wpAny_tests_one (h pins s σ H Q I q)
section
variable {prog:Program}{w:World}{A:Around}{R:Result->Shared->Prop}{s:Shared}
theorem qj {elt target iter:Expr}{ifs:List Expr}{scope:Scope}{pos:Pos}{it acc:Value}{env:Env} (J:Nat->Shared->Prop)
  (turn:∀ n s,J n s->wpAny (model prog w) A (pyNext it) (λr s1=>match r with
   | none=>R (.ok .next) s1
   | some v=>wpAny (model prog w) A (letOwnedTupleGo target it v) (λ_ s2=>wpAny (model prog w) A (assign target env v) (λ_ s3 =>
     wpAny (model prog w) A (forIn ifs true λc r=>if r=true then do let ok <- isTrue c env (eval c env);pure (ForInStep.yield ok) else pure (ForInStep.yield r)) (λok s4 =>
      if ok=true then wpAny (model prog w) A (eval elt env) (λx s5 =>
       wpAny (model prog w) A (call (.builtin "list.append") [acc,x]) (λ_ s6=>∃ m,m < n/\J m s6) (λ_ _=>False) s5) (λ_ _=>False) s4
      else ∃ m,m < n/\J m s4) (λ_ _=>False) s3) (λ_ _=>False) s2) (λ_ _=>False) s1) (λ_ _=>False) s)
  (n:Nat) (h:J n s):codeAny (model prog w) A (.compLoop (.ListComp elt [⟨target,iter,ifs,0⟩] scope pos) 0 it acc env) R s:=by
 have up:∀ {α:Type}{t:Sem α}{Q:α->Shared->Prop}{E:Value->Shared->Prop}{s:Shared},wpAny (model prog w) A t Q (λ_ _=>False) s->wpAny (model prog w) A t Q E s:=λq=>wpAny_mono q (λ_ _ z=>z) λ_ _ z=>z.elim
 refine codeAny_loop rfl J (λn s hJ=>?_) n h
 show wpAny _ A ((compTurn (.ListComp elt [⟨target,iter,ifs,0⟩] scope pos) 0 it acc env).onRaise (λx=>do noteFrame x env;theTreesLotGoes x)) _ _ s
 refine wpAny_noted ?_
 rw [compTurn_list]
 refine wpAny_bind (wpAny_standAt (wpAny_bind (wpAny_mono (up (turn n s hJ)) (λr s1 h1=>?_) λ_ _ z=>z)))
 cases r with
 | none=>exact wpAny_pure h1
 | some v =>
  refine wpAny_bind (wpAny_mono (up h1) (λ_ s2 h2=>?_) λ_ _ z=>z)
  refine wpAny_bind (wpAny_mono (up h2) (λ_ s3 h3=>wpAny_bind (wpAny_mono (up h3) (λok s4 h4=>?_) λ_ _ z=>z)) λ_ _ z=>z)
  cases ok with
  | false=>exact wpAny_pure ⟨rfl,h4⟩
  | true=>exact wpAny_bind (wpAny_bind (wpAny_mono (up h4) (λx s5 h5=>wpAny_bind (wpAny_mono (up h5) (λ_ s6 h6=>wpAny_pure (wpAny_pure ⟨rfl,h6⟩)) λ_ _ z=>z)) λ_ _ z=>z))
end
noncomputable def mC (J:It) (σ0:St) (H1:Hp) (tt:TT) (te:TE) (D:Addr) (Q:VK):Prop :=
 ∃ W:Nat->Nat->St->Hp->Prop,(∃ m,W 0 m σ0 (upd H1 D (.lst [])))/\∀ i m σ' H',W i m σ' H' ->
  (J.stop i H'/\Q (.ref D) H') \/ (J.go i H'/\∃ N:St->Hp->Prop,(∀ σ2 H2,N σ2 H2->∃ m',m' < m/\W (i + 1) m' σ2 H2)/\∀ x H2,J.yld i H' x H2 ->
   tt (σ'.set 0 (some x)) H2 λb H3=>if b=true then te (σ'.set 0 (some x)) H3 λy H4=>∃ ys,H4 D=some (.lst ys)/\ys.length < sizeLine/\N (σ'.set 0 (some x)) (upd H4 D (.lst (ys ++ [y]))) else N (σ'.set 0 (some x)) H3)
noncomputable def rN (J:It) (g:TG) (σ0:St) (H1:Hp) (tt:TT) (te:TE) (D:Addr) (Q:VK):Prop :=
 ∃ W:Nat->Nat->St->Hp->Prop,(∃ m,W 0 m σ0 (upd H1 D (.lst [])))/\∀ i m σ' H',W i m σ' H' ->
  (J.stop i H'/\Q (.ref D) H') \/ (J.go i H'/\∃ N:St->Hp->Prop,(∀ σ2 H2,N σ2 H2->∃ m',m' < m/\W (i + 1) m' σ2 H2)/\∀ x H2,J.yld i H' x H2 ->
   g x σ' H2 λσ3 H3=>tt σ3 H3 λb H4=>if b=true then te σ3 H4 λy H5=>∃ ys,H5 D=some (.lst ys)/\ys.length < sizeLine/\N σ3 (upd H5 D (.lst (ys ++ [y]))) else N σ3 H4)
theorem mC.g {J:It}{σ0:St}{H1:Hp}{tt:TT}{te:TE}{D:Addr}{Q:VK} (h:mC J σ0 H1 tt te D Q):rN J (fZ 0) σ0 H1 tt te D Q:=h
noncomputable def rO (wi:TI) (js:List Nat) (tt:TT) (te:TE):TE:=λσ H Q=>wi σ H λJ H1=>∀ D,H1 D=none->mC J (jy js σ) H1 tt te D Q
section
variable {X:Cx}{elt iter:Expr}{x:Str}{px:Pos}{ifs:List Expr}{scope:Scope}{pos:Pos}{fvs:List Str}{js:List Nat}{wi:TI}{tt:TT}{te:TE}
theorem nQ {tg:Expr}{g:TG}{ys:List Str} (hsc:oY X.env.scope X.N scope x ys fvs js) (hc:X.calm=true) (hg:∀ s₁ H₁ C fp,PG (X.blk x (ys ++ fvs) scope s₁ H₁ C fp) tg g)
  (ht:∀ s₁ H₁ C fp,PF (X.blk x (ys ++ fvs) scope s₁ H₁ C fp) ifs tt) (he:∀ s₁ H₁ C fp,PE (X.blk x (ys ++ fvs) scope s₁ H₁ C fp) elt te)
  {pins:List (Addr × Obj)}{σ:St}{H2:Hp}{s2:Shared}{Q:VK}{it:Addr}{fp:List Addr}{tn:Nat->Heap->Prop}{J:It}{RR:Value->Addr->Result->Shared->Prop}
  (I2:Inv X pins σ H2 s2) (T:nA X.prog X.w X.K tg J fp it tn) (st2:tn 0 s2.heap) (f2:∀ b ∈ fp,lx X pins H2 b)
  (hh:∀ D,H2 D=none->rN J g (qi ys.length js σ) H2 tt te D Q)
  (fin:∀ (D C:Addr) (H':Hp) (s':Shared),Inv X pins σ H' s'->(∃ m,s'.heap.Ns C m)->H' C=none->C ≠ X.env.locals->X.s₀.heap.objs.size <= C->(∀ y c,X.env.cells.lookup y=some c->c ≠ C)->(∀ p ∈ X.pn ++ pins,p.1 ≠ C)->Q (.ref D) H' ->
   RR (.ref D) C (.ok .next) s') {E:Value->Shared->Prop} :
  wpAny (model X.prog X.w) X.A (newList []) (λacc s3=>wpAny (model X.prog X.w) X.A (newFunctionEnv scope X.env.globals (eA X.env scope.names []) [] X.env.qual none .none (some X.env)) (λcenv s4 =>
   codeAny (model X.prog X.w) X.A (.compStart (.ListComp elt [⟨tg,iter,ifs,0⟩] scope pos) 0 (.ref it) acc { cenv with scope:=relabel scope X.env }) (RR acc cenv.locals) s4) E s3) E s2:=by
 have fr:∀ y ∈ scope.names,y.2=.free->∃ c,X.env.cells.lookup y.1=some c:=λy hy hk=>I2.ok.has y.1 (hsc.out y hy hk)
 have sub:∀ y c,(eA X.env scope.names []).lookup y=some c->X.env.cells.lookup y=some c:=λy c e=>jw scope.names [] fr (λ_ q=>by simp at q) e
 refine wpAny_newObj_type (nP (x:=x) hsc.kind hsc.once λh1 m1 hns1 hsb1 hcl1=>?_)
 dsimp only at hns1 hsb1 hcl1 ⊢
 have I3:Inv X pins σ (upd H2 s2.heap.objs.size (.lst [])) { s2 with heap:=s2.heap.push { cls:=.type "list",data:=.seq ([]:List Value).toArray },toks:=s2.toks }:=I2.lnew (ys:=[]) (its:=[]) .nil (Nat.zero_le _)
 generalize hG:s2.heap.push { cls:=.type "list",dict:=none,data:=.seq ([]:List Value).toArray }=G at hns1 hsb1 hcl1 I3 ⊢
 have hC:G.objs.size=s2.heap.objs.size + 1:=by rw [<- hG,Heap.size_push]
 obtain ⟨W,⟨m0,w0⟩,turn⟩:=hh s2.heap.objs.size I2.fresh
 have up:∀ b u,G.get? b=some u->h1.get? b=some u:=hsb1
 have look:∀ {y:Str}{c:Addr},(iu scope x G.objs.size ++ eA X.env scope.names []).lookup y=some c->(y=x/\scope.names.lookup x=some .cell/\c=G.objs.size + 1) \/ (eA X.env scope.names []).lookup y=some c:=λ{y c} e=>by
  unfold iu at e
  by_cases q:scope.names.lookup x=some .cell
  ·rw [if_pos q] at e
   by_cases z:(y == x)=true
   ·rw [List.cons_append,List.lookup_cons,z] at e
    exact .inl ⟨eq_of_beq z,q,(Option.some.inj e).symm⟩
   ·rw [List.cons_append,List.lookup_cons,(Bool.not_eq_true _).mp z] at e
    exact .inr e
  ·rw [if_neg q] at e
   exact .inr e
 have Cfr:∀ {H':Hp}{s':Shared},Inv X pins σ H' s'->True:=λ_=>trivial
 have nC:(upd H2 s2.heap.objs.size (.lst [])) G.objs.size=none:=I3.hok.fresh (Nat.le_refl _)
 have cL:G.objs.size ≠ X.env.locals:=Nat.ne_of_gt I3.lt
 have cS:X.s₀.heap.objs.size <= G.objs.size:=I3.sz
 have cC:∀ y c,X.env.cells.lookup y=some c->c ≠ G.objs.size:=λy c e z=>by
  obtain ⟨v,q⟩:=I3.cell y c e
  exact absurd (show c < G.objs.size from q.lt) (by rw [z];exact Nat.lt_irrefl _)
 have cP:∀ p ∈ X.pn ++ pins,p.1 ≠ G.objs.size:=λp hp z=>absurd (show p.1 < G.objs.size from Heap.lt_size (I3.pin p hp).1) (by rw [z];exact Nat.lt_irrefl _)
 have fpl:∀ b ∈ fp,b < s2.heap.objs.size:=λb hb=>by
  obtain ⟨o,e,_⟩:=T.obj 0 _ st2 b hb
  exact Heap.lt_size e
 have ok:(X.blk x (ys ++ fvs) scope { s2 with heap:=G,toks:=s2.toks } (upd H2 s2.heap.objs.size (.lst [])) G.objs.size fp).Ok:=by
  have hb:∀ b ∈ fp,b ∉ frs X.stack:=λb hb z=>(List.mem_cons.mp (I2.stkSub b z)).elim (f2 b hb).2.1 (f2 b hb).2.2.1
  exact {
   mod:=I3.ok.mod
   kind:=by show (relabel scope X.env).kind=_;exact hsc.kind
   glob:=I3.ok.glob
   blt:=I3.ok.blt
   above:=Nat.le_refl _
   inj:=λy z c e1 e2=>by
    have lt:∀ {y:Str},(eA X.env scope.names []).lookup y=some c->c < G.objs.size:=λ{y} e=>by
     obtain ⟨v,q⟩:=I3.cell y c (sub y c e)
     exact q.lt
    rcases look e1 with ⟨a1,_,a2⟩|a1
    ·rcases look e2 with ⟨b1,_,_⟩|b1
     ·rw [a1,b1]
     ·exact absurd (lt b1) (by rw [a2];exact Nat.not_lt.mpr (Nat.le_succ _))
    ·rcases look e2 with ⟨_,_,b2⟩|b1
     ·exact absurd (lt a1) (by rw [b2];exact Nat.not_lt.mpr (Nat.le_succ _))
     ·exact I3.ok.inj y z c (sub y c a1) (sub z c b1)
   has:=λy hy=>by
    show ∃ c,(iu scope x G.objs.size ++ eA X.env scope.names []).lookup y=some c
    unfold iu
    rcases qg hsc.cells hy with hm|⟨e,q⟩
    ·obtain ⟨c,ec⟩:=gJ (env:=X.env) scope.names [] (.inl hm)
     by_cases q:scope.names.lookup x=some .cell
     ·have z:(y == x)=false:=beq_eq_false_iff_ne.mpr (hsc.xf _ hm rfl)
      exact ⟨c,by rw [if_pos q,List.cons_append,List.lookup_cons,z];exact ec⟩
     ·exact ⟨c,by rw [if_neg q];exact ec⟩
    ·subst e
     exact ⟨G.objs.size + 1,by rw [if_pos q,List.cons_append,List.lookup_cons,beq_self_eq_true]⟩
   cab:=λy c h e=>by
    obtain ⟨h1,h2⟩:=of_decide_eq_true h
    have e':(iu scope x G.objs.size ++ eA X.env scope.names []).lookup y=some c:=e
    unfold iu at e'
    rw [if_pos h2,h1,List.cons_append,List.lookup_cons,beq_self_eq_true] at e'
    rw [<- Option.some.inj e']
    exact Nat.le_succ _
   hd:=I3.ok.hd
   frames:=I3.ok.frames
   stk:=.inl rfl
   exf:=λb hb'=>⟨Nat.ne_of_lt (show b < G.objs.size from Nat.lt_of_lt_of_le (fpl b hb') (by rw [hC];exact Nat.le_succ _)),λy c e=>by
    rcases look e with ⟨_,_,a⟩|a
    ·rw [a,hC];exact Nat.ne_of_gt (Nat.lt_of_lt_of_le (fpl b hb') (Nat.le_trans (Nat.le_succ _) (Nat.le_succ _)))
    ·exact (f2 b hb').2.2.2.2.1 y c (sub y c a)⟩
   bs:=I3.bs
   bsz:=Nat.le_trans I3.ok.bsz I3.sz
   noex:=λb o e hb'=>by
    have q:=(f2 b hb').2.2.2.1
    rcases q with q|q
    ·exact I3.ok.noex b o e q
    ·exact absurd (Nat.lt_of_lt_of_le (Heap.lt_size e) (Nat.le_trans I3.ok.bsz q)) (Nat.lt_irrefl _)
   exfs:=hb
   funs:=I3.stack
   frf:=I3.stkFree }
 have hlen:(qi ys.length js σ).length=(x::(ys ++ fvs)).length:=by
  have e:=congrArg List.length hsc.slots
  simp only [List.length_map] at e
  simp [qi,e]
 have I4:Inv (X.blk x (ys ++ fvs) scope { s2 with heap:=G,toks:=s2.toks } (upd H2 s2.heap.objs.size (.lst [])) G.objs.size fp) [] (qi ys.length js σ) (upd H2 s2.heap.objs.size (.lst [])) { s2 with heap:=h1,toks:=s2.toks }:=by
  refine ⟨ok,rfl,I3.bare,Un.kept up,⟨_,hns1,λi y v e1 e2 e3=>?_⟩,λy c e=>?_,nC,λy c e=>(look e).elim (λ⟨_,_,a⟩=>by rw [a];exact I3.hok.fresh (Nat.le_succ _)) λa=>I3.freeC y c (sub y c a),λp hp=>by simp [Cx.blk] at hp,I3.hok.kept up,hlen⟩
  ·cases i with
   | zero=>simp [qi] at e2
   | succ i0 =>
    have e10:(ys ++ fvs)[i0]?=some y:=e1
    have e20:(List.replicate ys.length none ++ js.map λj=>(σ[j]?).join)[i0]?=some (some v):=by simpa [qi] using e2
    by_cases hlt:i0 < ys.length
    ·rw [List.getElem?_append_left (by simpa using hlt),List.getElem?_replicate,if_pos hlt] at e20
     cases e20
    rw [List.getElem?_append_right (by simpa using Nat.le_of_not_lt hlt),List.length_replicate] at e20
    rw [List.getElem?_append_right (Nat.le_of_not_lt hlt)] at e10
    generalize i0 - ys.length=i at e10 e20
    have e1':fvs[i]?=some y:=e10
    have hm:y ∈ fvs:=List.mem_of_getElem? e1'
    have hfy:=hsc.free y hm
    have hmy:(y,NameKind.free) ∈ scope.names:=gu hfy
    have e2':(js.map λj=>(σ[j]?).join)[i]?=some (some v):=e20
    rw [List.getElem?_map] at e2'
    cases ej:js[i]? with
    | none=>rw [ej] at e2';cases e2'
    | some j =>
     rw [ej] at e2'
     have e3':(σ[j]?).join=some v:=Option.some.inj e2'
     have e4:σ[j]?=some (some v):=by
      cases q:σ[j]? with
      | none=>rw [q] at e3';cases e3'
      | some z=>rw [q] at e3';exact congrArg some e3'
     have e5:X.N[j]?=some y:=by
      have q:=congrArg (λl=>l[i]?) hsc.slots
      simp only [List.getElem?_map,ej,e1',Option.map_some] at q
      exact Option.some.inj q
     obtain ⟨m,hn,hl⟩:=I3.loc
     have hout:=hsc.out (y,.free) hmy rfl
     obtain ⟨u,ru,lk⟩:=hl j y v e5 e4 (.inr hout)
     refine ⟨u,ru,.inr ⟨?_,?_⟩⟩
     ·show (relabel scope X.env).names.lookup y=_ \/ (relabel scope X.env).names.lookup y=_
      exact qf (osc:=X.env.scope) hfy
     ·obtain ⟨c,ec⟩:=gJ (env:=X.env) scope.names [] (.inl hmy)
      have nx:(y == x)=false:=beq_eq_false_iff_ne.mpr (hsc.xf _ hmy rfl)
      refine ⟨c,?_,?_⟩
      ·show (iu scope x G.objs.size ++ eA X.env scope.names []).lookup y=some c
       unfold iu
       split
       ·rw [List.cons_append,List.lookup_cons,nx];exact ec
       ·exact ec
      rcases lk with ⟨z,_⟩|⟨_,c',ec',q⟩
      ·have z':X.env.scope.names.lookup y=some .local:=z
       rcases hout with w|w
       ·rw [show X.env.scope.names.lookup y=some .cell from w] at z';cases z'
       ·rw [show X.env.scope.names.lookup y=some .free from w] at z';cases z'
      ·have:=sub y c ec
       rw [ec'] at this
       cases this
       obtain ⟨o,ho,hd⟩:=q
       exact ⟨o,up _ _ ho,hd⟩
  ·rcases look e with ⟨_,q,a⟩|a
   ·exact ⟨none,by rw [a];exact hcl1 q⟩
   ·obtain ⟨v,o,ho,hd⟩:=I3.cell y c (sub y c a)
    exact ⟨v,o,up _ _ ho,hd⟩
 have st4:tn 0 h1:=T.keep 0 _ _ st2 λb hb o e=>up b o (by rw [<- hG];exact Heap.get?_push_of_some _ e)
 have fr4:∀ b ∈ fp,(upd H2 s2.heap.objs.size (.lst [])) b=none:=λb hb=>by
  rw [au (Nat.ne_of_lt (fpl b hb))];exact (f2 b hb).1
 have stat:∀ {H':Hp},(∀ b ∈ fp,H' b=none)->∀ b ∈ fp,lx (X.blk x (ys ++ fvs) scope { s2 with heap:=G,toks:=s2.toks } (upd H2 s2.heap.objs.size (.lst [])) G.objs.size fp) [] H' b:=λhn b hb =>
  ⟨hn b hb,(ok.exf b hb).1,ok.exfs b hb,.inl hb,(ok.exf b hb).2,λp hp=>by simp [Cx.blk] at hp⟩
 have hch:∀ b ∈ fp,(b ∈ X.ex \/ X.s₀.heap.objs.size <= b)/\b ≠ X.env.locals/\(∀ x c,X.env.cells.lookup x=some c->c ≠ b)/\∀ p ∈ X.pn ++ pins,p.1 ≠ b:=λb hb =>
  let ⟨_,q1,_,q2,q3,q4⟩:=f2 b hb;⟨q2,q1,q3,q4⟩
 have loop:∀ s5:Shared,s5={ s2 with heap:=h1,toks:=s2.toks } ->
   codeAny (model X.prog X.w) X.A (.compLoop (.ListComp elt [⟨tg,iter,ifs,0⟩] scope pos) 0 (.ref it) (.ref s2.heap.objs.size) (compEnvC scope (iu scope x G.objs.size ++ eA X.env scope.names []) G.objs.size X.env)) (RR (.ref s2.heap.objs.size) G.objs.size) s5:=by
  rintro s5 rfl
  refine qj (λn s'=>∃ i σ' H',Inv (X.blk x (ys ++ fvs) scope { s2 with heap:=G,toks:=s2.toks } (upd H2 s2.heap.objs.size (.lst [])) G.objs.size fp) [] σ' H' s'/\tn i s'.heap/\(∀ b ∈ fp,H' b=none)/\W i n σ' H') ?_ m0 ⟨0,_,_,I4,st4,fr4,w0⟩
  rintro n s6 ⟨i,σ6,H6,I6,st6,fr6,w6⟩
  rcases turn i n σ6 H6 w6 with ⟨stop,qn⟩|⟨go,N,hN,step⟩
  ·refine thn (T.done (X.blk x (ys ++ fvs) scope { s2 with heap:=G,toks:=s2.toks } (upd H2 s2.heap.objs.size (.lst [])) G.objs.size fp) rfl rfl rfl hc i [] s6 σ6 H6 _ I6 (stat fr6) st6 stop) λr s7 ⟨hr,I7⟩=>?_
   subst hr
   have I8:Inv X pins σ H6 s7:=I3.call' (ch:=fp) I7.os I7.base I7.hok I7.bare hch
   obtain ⟨m,hn,_⟩:=I7.loc
   exact fin _ _ H6 s7 I8 ⟨m,hn⟩ I7.free cL cS cC cP qn
  ·refine thn (T.item (X.blk x (ys ++ fvs) scope { s2 with heap:=G,toks:=s2.toks } (upd H2 s2.heap.objs.size (.lst [])) G.objs.size fp) rfl rfl rfl hc i [] s6 σ6 H6 _ I6 (stat fr6) st6 go) λr s7 ⟨u,hr,h7⟩=>?_
   subst hr
   refine thn h7 λ_ s8 ⟨x8,H8,I8,r8,y8,st8,fr8⟩=>?_
   have I8':=I8.pinned (stat fr8) (T.obj _ _ st8)
   refine thn (hg _ _ _ _ _ s8 σ6 H8 x8 u _ I8' r8 (step x8 H8 y8)) λ_ s9 ⟨σ9,H9,I9,q9⟩=>?_
   refine thn (ht _ _ _ _ _ s9 _ H9 _ I9 q9) λok' s10 ⟨H10,I10,q10⟩=>?_
   have again:∀ {s11:Shared}{H11:Hp},Inv (X.blk x (ys ++ fvs) scope { s2 with heap:=G,toks:=s2.toks } (upd H2 s2.heap.objs.size (.lst [])) G.objs.size fp) ([] ++ jc fp s8.heap) σ9 H11 s11->N σ9 H11 ->
     ∃ m,m < n/\∃ i σ' H',Inv (X.blk x (ys ++ fvs) scope { s2 with heap:=G,toks:=s2.toks } (upd H2 s2.heap.objs.size (.lst [])) G.objs.size fp) [] σ' H' s11/\tn i s11.heap/\(∀ b ∈ fp,H' b=none)/\W i m σ' H':=λ{s11 H11} I11 n11=>by
    obtain ⟨m',hm,w11⟩:=hN _ H11 n11
    refine ⟨m',hm,i + 1,_,H11,I11.unpinned,T.keep _ _ _ st8 λb hb o e=>(I11.pin (b,o) (List.mem_append_right _ (List.mem_append_right _ (eS hb e)))).1,λb hb=>?_,w11⟩
    obtain ⟨o,e,d⟩:=T.obj _ _ st8 b hb
    exact (I11.pin (b,o) (List.mem_append_right _ (List.mem_append_right _ (eS hb e)))).2.1
   cases ok' with
   | false =>
    rw [if_neg (by simp)] at q10 ⊢
    exact again I10 q10
   | true =>
    rw [if_pos rfl] at q10 ⊢
    refine thn (he _ _ _ _ _ s10 _ H10 _ I10 q10) λy s11 ⟨yv,H11,I11,ry,ys,hys,hl,n11⟩=>?_
    refine thn (ie _ s11 _ H11 (.ref s2.heap.objs.size) [yv] (.ref s2.heap.objs.size) [y] (λ_ H12=>N σ9 H12) I11 rfl (.cons ry .nil) ⟨_,ys,yv,rfl,rfl,hys,hl,n11⟩) λ_ s12 ⟨_,H12,I12,_,n12⟩=>again I12 n12
 exact codeAny_compStart_list (loop _ rfl) (T.self _ 0 _ _ _ st4 (loop _ rfl))
theorem kQ (hsc:ir X.env.scope X.N scope x fvs js) (hc:X.calm=true)
  (ht:∀ s₁ H₁ C fp,PF (X.blk x fvs scope s₁ H₁ C fp) ifs tt) (he:∀ s₁ H₁ C fp,PE (X.blk x fvs scope s₁ H₁ C fp) elt te)
  {pins:List (Addr × Obj)}{σ:St}{H2:Hp}{s2:Shared}{Q:VK}{it:Addr}{fp:List Addr}{tn:Nat->Heap->Prop}{J:It}{RR:Value->Addr->Result->Shared->Prop}
  (I2:Inv X pins σ H2 s2) (T:nA X.prog X.w X.K (.Name x px) J fp it tn) (st2:tn 0 s2.heap) (f2:∀ b ∈ fp,lx X pins H2 b)
  (hh:∀ D,H2 D=none->mC J (jy js σ) H2 tt te D Q)
  (fin:∀ (D C:Addr) (H':Hp) (s':Shared),Inv X pins σ H' s'->(∃ m,s'.heap.Ns C m)->H' C=none->C ≠ X.env.locals->X.s₀.heap.objs.size <= C->(∀ y c,X.env.cells.lookup y=some c->c ≠ C)->(∀ p ∈ X.pn ++ pins,p.1 ≠ C)->Q (.ref D) H' ->
   RR (.ref D) C (.ok .next) s') {E:Value->Shared->Prop} :
  wpAny (model X.prog X.w) X.A (newList []) (λacc s3=>wpAny (model X.prog X.w) X.A (newFunctionEnv scope X.env.globals (eA X.env scope.names []) [] X.env.qual none .none (some X.env)) (λcenv s4 =>
   codeAny (model X.prog X.w) X.A (.compStart (.ListComp elt [⟨.Name x px,iter,ifs,0⟩] scope pos) 0 (.ref it) acc { cenv with scope:=relabel scope X.env }) (RR acc cenv.locals) s4) E s3) E s2 :=
 nQ (ys:=[]) hsc.g hc (λs₁ H₁ C fp=>oG (X:=X.blk x fvs scope s₁ H₁ C fp) (i:=0) (x:=x) (pos:=px) hsc.nd rfl (hsc.once.elim (λq=>.inl (lookup_relabel_local q.1)) λq=>.inr (qh q.1)) (hsc.once.elim (λq=>.inr (lookup_relabel_local q.1)) λq=>.inl (decide_eq_true ⟨rfl,q.1⟩))) ht he I2 T st2 f2 (λD hD=>(hh D hD).g) fin
theorem uR (hsc:ir X.env.scope X.N scope x fvs js) (hc:X.calm=true) (hi:PI X (.Name x px) iter wi)
  (ht:∀ s₁ H₁ C fp,PF (X.blk x fvs scope s₁ H₁ C fp) ifs tt) (he:∀ s₁ H₁ C fp,PE (X.blk x fvs scope s₁ H₁ C fp) elt te)
  (hs:∀ v,foldedSetIterable iter X.env v=pure v:=by intro _;rfl):PE X (.ListComp elt [⟨.Name x px,iter,ifs,0⟩] scope pos) (rO wi js tt te):=by
 intro pins s σ H Q I h
 have fr:∀ y ∈ scope.names,y.2=.free->∃ c,X.env.cells.lookup y.1=some c:=λy hy hk=>I.ok.has y.1 (hsc.out y hy hk)
 rw [eval_ListComp]
 refine wpAny_comprehension_free (use:=none) rfl hs (jv fr) hsc.kind hsc.names (thn (hi pins s σ H _ I h) λv s1 h1=>thn h1 λitv s2 h2=>?_)
 obtain ⟨it,fp,tn,J,H2,e,I2,T,st2,f2,hh⟩:=h2
 subst e
 refine kQ (RR:=λacc C=>compPost (model X.prog X.w) X.A X.xe none (EP X pins σ Q) acc C) hsc hc ht he I2 T st2 f2 hh λD C H' s' I' hn nC cL cS cC cP q=>?_
 obtain ⟨m,hn⟩:=hn
 refine ⟨m,hn,λh' sb=>⟨.ref D,H',?_,rfl,q⟩⟩
 exact I'.turned (t':=s'.toks) (λb o hb e=>(sb.2 b hb).trans e) nC cL (.inr cS) cC cP
theorem jz {i:Nat}{y:Str}{py spos:Pos} (hN:X.N.Nodup) (hi':X.N[i]?=some y) (hy:Loc X.env.scope y) (hsc:ir X.env.scope X.N scope x fvs js) (hc:X.calm=true) (hi:PI X (.Name x px) iter wi)
  (ht:∀ s₁ H₁ C fp,PF (X.blk x fvs scope s₁ H₁ C fp) ifs tt) (he:∀ s₁ H₁ C fp,PE (X.blk x fvs scope s₁ H₁ C fp) elt te)
  (hsw:swapsWith (.ListComp elt [⟨.Name x px,iter,ifs,0⟩] scope pos) (some (.Name y py)) spos.line X.env=pure true:=by rfl)
  (hs:∀ v,foldedSetIterable iter X.env v=pure v:=by intro _;rfl) (hf:X.fn y=true \/ X.env.scope.names.lookup y=some .local:=by first|exact .inl rfl|exact .inr rfl|assumption) :
  PS X (.Assign [.Name y py] (.ListComp elt [⟨.Name x px,iter,ifs,0⟩] scope pos) spos) (pU (rO wi js tt te) (fZ i)):=by
 intro pins s σ H D I h
 have fr:∀ y ∈ scope.names,y.2=.free->∃ c,X.env.cells.lookup y.1=some c:=λy hy hk=>I.ok.has y.1 (hsc.out y hy hk)
 rw [exec_Assign_Name_used _ _ _ _ hsw]
 refine wpAny_bind (wpAny_standAt (wpAny_bind ?_))
 show wpAny _ X.A (do let _ <- comprehension (.ListComp elt [⟨.Name x px,iter,ifs,0⟩] scope pos) scope X.env _ (newList []) false (eval iter X.env) (some (assign (.Name y py) X.env))) _ _ s
 refine wpAny_bind (thn (wpAny_comprehension_free (use:=some (assign (.Name y py) X.env)) (Q:=λ_ s'=>SP X pins D .next s') rfl hs (jv fr) hsc.kind hsc.names (thn (hi pins s σ H _ I h) λv s1 h1=>thn h1 λitv s2 h2=>?_)) λ_ s' q=>?_)
 ·obtain ⟨it,fp,tn,J,H2,e,I2,T,st2,f2,hh⟩:=h2
  subst e
  refine kQ (RR:=λacc C=>compPost (model X.prog X.w) X.A X.xe (some (assign (.Name y py) X.env)) (λ_ s'=>SP X pins D .next s') acc C) (Q:=λv H'=>fZ i v σ H' D.nx) hsc hc ht he I2 T st2 f2 hh λD' C H' s' I' hn nC cL cS cC cP q=>?_
  obtain ⟨m,hn⟩:=hn
  show wpAny _ _ (assign (.Name y py) X.env (.ref D')) _ _ s'
  refine wpAny_assign_Name (kE I' hN hi' hy (v:=.ref D') rfl (λs'' I'' ⟨a,sb,ha⟩=>?_) hf)
  have ne:C ≠ a:=by
   rcases ha with z|z
   ·rw [z];exact cL
   ·exact λw=>cC y a z w.symm
  refine ⟨m,hn.sameBut sb ne,λh' sb'=>?_⟩
  exact ⟨_,H',I''.turned (t':=s''.toks) (λb o hb e=>(sb'.2 b hb).trans e) nC cL (.inr cS) cC cP,q⟩
 ·exact wpAny_pure (wpAny_pure q)
end
end L2
namespace L2
open PySem PySem.Spec PyProof.Rows
noncomputable abbrev mD (K:PySem.W.Frag) (H:Hp):List V->List (List Int)->Prop:=Paired λx ts=>∃ a,x=V.ref a/\SqT K H a (ts.map V.int)
theorem mD.len {K:PySem.W.Frag}{H:Hp}{xs:List V}{tss:List (List Int)} (h:mD K H xs tss):xs.length=tss.length:=Paired.length h
theorem aC {H:Hp}{p:Addr} (h:H p=none) (o:HO):ag H (upd H p o):=λb u q=>by rw [au (bn q h)];exact q
theorem ag.seqT {K:PySem.W.Frag}{H H':Hp}{a:Addr}{xs:List V} (e:ag H H') (h:SqT K H a xs):SqT K H' a xs:=by
 rcases h with (h|⟨o,h⟩)|h
 ·exact .inl (.inl (e _ _ h))
 ·exact .inl (.inr ⟨o,e _ _ h⟩)
 ·exact .inr h
section
variable {X:Cx}{pins:List (Addr × Obj)}{σ:St}{H:Hp}{s:Shared}
theorem Inv.laidD {h':Heap}{a:Addr}{o:HO}{t':Nat}{d':Drawn} (I:Inv X pins σ H s) (k:∀ b u,s.heap.get? b=some u->h'.get? b=some u) (hp:s.heap.objs.size <= a) (new:bC X.prog X.w (upd H a o) h' a o) :
  Inv X pins σ (upd H a o) { s with heap:=h',toks:=t',drawn:=d' } :=
 I.call (g':=s.gens) (d':=d') (t':=t') (ch:=[]) (Un.laid k hp (I.hok.fresh hp)) (I.hok.laid k hp new) I.bare λ_ z=>nomatch z
theorem Inv.tupInts {a:Addr}{ns:List Int} (I:Inv X pins σ H s) (h:SqT X.K H a (ns.map V.int)):∃ its:List Value,IsTup s.heap a its.toArray/\IntsAre its ns:=by
 obtain ⟨its,r,p,_⟩:=I.tuple h
 exact ⟨its,p,dJ r⟩
theorem Inv.tupsAt (I:Inv X pins σ H s):∀ {xs:List V}{us:List Value}{tss:List (List Int)},mD X.K H xs tss->am xs us->Paired (λu ts=>∃ a its,u=Value.ref a/\IsTup s.heap a its/\IntsAre its.toList ts) us tss
 | _,_,_,.nil,.nil=>.nil
 | _,_,_,.cons ⟨a,e1,e2⟩ t,.cons r q=>by
  obtain ⟨its,p,hi⟩:=I.tupInts e2
  rw [e1] at r
  exact .cons ⟨a,its.toArray,r,p,by simpa using hi⟩ (I.tupsAt t q)
end
noncomputable def iN (P:Program) (w:World) (a:Addr) (ks:List Int):HO:=.ext λh=>St.da P w h a ks
theorem mE {P:Program}{w:World}{H:Hp}{h:Heap}{a:Addr}{ks:List Int} (g:St.da P w h a ks):bC P w H h a (iN P w a ks):=by
 obtain ⟨o,es,ep,t,ho,r⟩:=id g
 exact ⟨g,⟨o,ho⟩,λh1 h2 g1 k=>g1.at k⟩
theorem Inv.set {X:Cx}{pins:List (Addr × Obj)}{σ:St}{H:Hp}{s:Shared}{a:Addr}{ks:List Int} (I:Inv X pins σ H s) (h:H a=some (iN X.prog X.w a ks)):St.da X.prog X.w s.heap a ks :=
 (show bC X.prog X.w H s.heap a (iN X.prog X.w a ks) from I.hok a _ h).1
section
variable {X:Cx}
theorem rP (hc:X.calm=true):bq X (.type "set") (λxs H Q=>∃ (p:Addr) (ns:List Int),xs=[.ref p]/\(SqL X.K H p (ns.map V.int) \/ SqT X.K H p (ns.map V.int))/\ns.length <= 1000/\∀ l:Addr,H l=none->Q (.ref l) (upd H l (iN X.prog X.w l (St.dd ns.reverse)))):=by
 intro pins s σ H xs us Q I r h
 obtain ⟨p,ns,rfl,hq,hz,q⟩:=h
 obtain ⟨u,rfl,rx⟩:=fo r
 cases rx
 have hh:=I.ok.hd hc
 rcases hq with hq|hq
 ·obtain ⟨its,r',pl,_⟩:=I.list hq
  have hi:=dJ r'
  have hl:=hi.length
  refine St.set_list hh pl.isList (ns:=ns) (by simpa using hi) (by simp;unfold scanBound;omega) λh' tk g kp=>?_
  exact ⟨.ref s.heap.objs.size,_,I.laidD (d':=s.drawn) kp (Nat.le_refl _) (mE g),rfl,q _ (I.hok.fresh (Nat.le_refl _))⟩
 ·obtain ⟨its,r',pl,_⟩:=I.tuple hq
  have hi:=dJ r'
  have hl:=hi.length
  refine St.qb hh (show s.heap.IsTuple p its.toArray from pl) (ns:=ns) (by simpa using hi) (by simp;unfold scanBound;omega) λh' tk g kp=>?_
  exact ⟨.ref s.heap.objs.size,_,I.laidD (d':=s.drawn) kp (Nat.le_refl _) (mE g),rfl,q _ (I.hok.fresh (Nat.le_refl _))⟩
end
namespace Srt
noncomputable def sortI (l:List Int):List Int:=fc cX l
noncomputable def sortT (l:List (List Int)):List (List Int):=fc dz l
noncomputable def leT (a b:List Int):Prop:=HT.lexLt b a=false
theorem sortI_perm (l:List Int):(sortI l).Perm l:=dL cX l
theorem sortT_perm (l:List (List Int)):(sortT l).Perm l:=dL dz l
theorem sortI_len (l:List Int):(sortI l).length=l.length:=(sortI_perm l).length_eq
theorem sortT_len (l:List (List Int)):(sortT l).length=l.length:=(sortT_perm l).length_eq
theorem sortT_rises (l:List (List Int)):(sortT l).Pairwise leT:=dq dz l
theorem sortT_id {l:List (List Int)} (h:l.Pairwise leT):sortT l=l:=mw dz h
theorem sortI_of_perm {a b:List Int} (p:a.Perm b):sortI a=sortI b:=kn cX p
theorem oZ {a b:Int}:cX.kle a b ↔ a <= b:=by
 show decide (b < a)=false ↔ a <= b
 rw [decide_eq_false_iff_not]
 omega
theorem sortI_rises (l:List Int):(sortI l).Pairwise (· <= ·):=(dq cX l).imp λh=>oZ.mp h
theorem sortI_id {l:List Int} (h:l.Pairwise (· <= ·)):sortI l=l:=mw cX (h.imp λq=>oZ.mpr q)
section
variable {P:Program}{w:World}{A:Around}{E:Value->Shared->Prop}{s:Shared}
theorem mF {ks ns:List Int} (hp:ns.Perm ks) (hs:ns.Pairwise (· <= ·)):ns=sortI ks:=by
 refine gG cX hp (hs.imp λ{a b} h=>?_)
 show decide (b < a)=false
 exact decide_eq_false (by omega)
theorem jA {x:Value}{ks:List Int}{Q:Value->Shared->Prop} (h64:ks.length < 64)
  (hcol:∀ (Q':List Value->Shared->Prop),(∀ (h':Heap) (tk:Nat) (d':Drawn) (acc:List Value) (order:List Int),(∀ b o,s.heap.get? b=some o->h'.get? b=some o)->order.Perm ks->IntsAre acc order->Q' acc { s with heap:=h',toks:=tk,drawn:=d' }) ->
   wpAny (model P w) A.in1 (collect x) Q' E s)
  (h:∀ (h1 h':Heap) (tk:Nat) (d':Drawn) (out:List Value) (c:Nat),(∀ b o,s.heap.get? b=some o->h1.get? b=some o)->(∀ b o,h1.get? b=some o->h'.get? b=some o)->h'.get? h1.objs.size=some { cls:=.type "list",data:=.seq out.toArray c } ->
   IntsAre out (sortI ks)->Q (.ref h1.objs.size) { s with heap:=h',toks:=tk,drawn:=d' }) :
  wpAny (model P w) A (call (.builtin "sorted") [x]) Q E s:=by
 refine Calls.call_function_entry kind_sorted plain_sorted entry_sorted (args_sorted1 _) ?_
 unfold Builtin.«sorted»
 refine wpAny_bind (m:=checkCount "sorted" 1 1 _) (wpAny_pure ?_)
 refine wpAny_bind (hcol _ λh1 tk d1 acc order kp hp hi=>?_)
 have hla:acc.length=order.length:=hi.length
 have hlo:order.length=ks.length:=hp.length_eq
 refine wpAny_bind (wpAny_newList ?_ (by rw [sizeLine_eq];omega))
 have hoL:(h1.push (seqObj "list" acc.toArray 0)).get? h1.objs.size=some (seqObj "list" acc.toArray 0):=Heap.get?_push_size _ rfl
 refine wpAny_bind (wpAny_holding (wpAny_call_entry slot_list_sort ⟨_,hoL,rfl⟩ entry_list_sort (list_sort_tree hoL hi (by omega) λout ns' hi' hp' hs'=>⟨_,rfl,?_⟩) (args_list_sort _)))
 obtain ⟨c,hc⟩:=sortedHeap_at (out:=out) (vs:=acc) hoL
 refine wpAny_pure ⟨_,rfl,h h1 _ tk d1 out.toList c kp (λb o e=>?_) ?_ ?_⟩
 ·have hb:b < h1.objs.size:=Heap.lt_size e
  rw [sortedHeap_old (Nat.ne_of_lt hb) (by rw [Heap.size_push];exact Nat.lt_succ_of_lt hb)]
  exact Heap.get?_push_of_some _ e
 ·rw [Array.toArray_toList];exact hc
 ·rw [<- mF (hp'.trans hp) hs'];exact hi'
theorem jC {x:Value}{vs:List Value}{tss:List (List Int)}{Q:Value->Shared->Prop} (h64:vs.length < 64) (hu:A.units + 2 < cLine)
  (hv:Paired (λu ts=>∃ a its,u=Value.ref a/\IsTup s.heap a its/\IntsAre its.toList ts) vs tss)
  (hcol:∀ (Q':List Value->Shared->Prop),(∀ (h':Heap),(∀ b o,s.heap.get? b=some o->h'.get? b=some o)->Q' vs { s with heap:=h' })->wpAny (model P w) A.in1 (collect x) Q' E s)
  (h:∀ (h1 h':Heap) (p:Array Nat) (c:Nat),(∀ b o,s.heap.get? b=some o->h1.get? b=some o)->(∀ b o,h1.get? b=some o->h'.get? b=some o)->h'.get? h1.objs.size=some { cls:=.type "list",data:=.seq (p.toList.map λi=>vs.getD i Value.none).toArray c } ->
   PB vs.length p->p.toList.map (λi=>tss.getD i [])=sortT tss->Q (.ref h1.objs.size) { s with heap:=h' }) :
  wpAny (model P w) A (call (.builtin "sorted") [x]) Q E s:=by
 have hlen:vs.length=tss.length:=Paired.length hv
 refine Calls.call_function_entry kind_sorted plain_sorted entry_sorted (args_sorted1 _) ?_
 unfold Builtin.«sorted»
 refine wpAny_bind (m:=checkCount "sorted" 1 1 _) (wpAny_pure ?_)
 refine wpAny_bind (hcol _ λh1 kp=>?_)
 refine wpAny_bind (wpAny_newList ?_ (by rw [sizeLine_eq];omega))
 have hoL:(h1.push (seqObj "list" vs.toArray 0)).get? h1.objs.size=some (seqObj "list" vs.toArray 0):=Heap.get?_push_size _ rfl
 have at_:∀ (s':Shared),(∀ b o,b ≠ h1.objs.size->(h1.push (seqObj "list" vs.toArray 0)).get? b=some o->s'.heap.get? b=some o)->∀ i,i < vs.length->∃ a its,vs.getD i Value.none=.ref a/\IsTup s'.heap a its/\IntsAre its.toList (tss.getD i []):=λs' k i hi=>by
  have gen:∀ {us:List Value}{uss:List (List Int)},Paired (λu ts=>∃ a its,u=Value.ref a/\IsTup s.heap a its/\IntsAre its.toList ts) us uss->∀ i,i < us.length->∃ a its,us.getD i Value.none=.ref a/\IsTup s.heap a its/\IntsAre its.toList (uss.getD i []):=by
   intro us uss hp
   induction hp with
   | nil=>intro i hi;simp at hi
   | cons q _ ih =>
    intro i hi
    cases i with
    | zero=>obtain ⟨a,its,e,r⟩:=q;exact ⟨a,its,by simpa using e,by simpa using r⟩
    | succ i=>obtain ⟨a,its,e,r⟩:=ih i (by simpa using hi);exact ⟨a,its,by simpa using e,by simpa using r⟩
  obtain ⟨a,its,e,⟨o,ho,r⟩,hin⟩:=gen hv i hi
  have ho1:=kp a o ho
  exact ⟨a,its,e,⟨o,k a o (Nat.ne_of_lt (Heap.lt_size ho1)) (Heap.get?_push_of_some _ ho1),r⟩,hin⟩
 refine wpAny_bind (wpAny_holding (wpAny_call_entry slot_list_sort ⟨_,hoL,rfl⟩ entry_list_sort (lI (O:=dz) (key:=λi=>tss.getD i []) hoL h64 (λh2 s' Q' k q=>kM h2 (λv hm=>?_) q) (λκ hκ s' i j C k hi hj q=>?_) λp hp hr=>⟨_,rfl,?_⟩) (args_list_sort _)))
 ·obtain ⟨i,hi,e⟩:=List.getElem_of_mem hm
  obtain ⟨a,its,e',r1,r2⟩:=at_ s' k i hi
  exact ⟨a,its,_,by rw [<- e',<- e];simp [hi],r1,r2⟩
 ·obtain ⟨a,its,e,r1,r2⟩:=at_ s' k i hi
  obtain ⟨a',its',e',r1',r2'⟩:=at_ s' k j hj
  rw [e,e']
  exact oU hκ r1 r1' r2 r2' (show A.units + 1 + 1 < cLine from hu) q
 ·obtain ⟨c,hc⟩:=sortedHeap_at (out:=(p.toList.map λi=>vs.getD i Value.none).toArray) (vs:=vs) hoL
  have hp':PB tss.length p:=by rw [<- hlen];exact hp
  have hr':dX (O:=dz) (λi=>tss.getD i []) p tss.length:=by rw [<- hlen];exact hr
  refine wpAny_pure ⟨_,rfl,h h1 _ p c kp (λb o e=>?_) hc hp (w9 (O:=dz) (d:=([]:List Int)) (xs:=tss) hp' hr')⟩
  have hb:b < h1.objs.size:=Heap.lt_size e
  rw [sortedHeap_old (Nat.ne_of_lt hb) (by rw [Heap.size_push];exact Nat.lt_succ_of_lt hb)]
  exact Heap.get?_push_of_some _ e
end
end Srt
section
variable {X:Cx}
theorem Inv.keptD {pins:List (Addr × Obj)}{σ:St}{H:Hp}{s:Shared}{h':Heap}{t':Nat}{d':Drawn} (I:Inv X pins σ H s) (k:∀ b u,s.heap.get? b=some u->h'.get? b=some u):Inv X pins σ H { s with heap:=h',toks:=t',drawn:=d' } :=
 I.call (g':=s.gens) (d':=d') (t':=t') (ch:=[]) (Un.kept k) (I.hok.kept k) I.bare λ_ z=>nomatch z
theorem qk:∀ {vs:List Value}{ns:List Int},IntsAre vs ns->am (ns.map V.int) vs:=ig
noncomputable def xb (X:Cx):List V->Hp->VK->Prop:=λxs H Q=>∃ (p:Addr) (ks:List Int),xs=[.ref p]/\(SqL X.K H p (ks.map V.int) \/ SqT X.K H p (ks.map V.int) \/ H p=some (iN X.prog X.w p ks))/\ks.length < 64/\∀ l:Addr,H l=none->Q (.ref l) (upd H l (.lst ((Srt.sortI ks).map V.int)))
theorem gK (hc:X.calm=true):bq X (.builtin "sorted") (xb X):=by
 intro pins s σ H xs us Q I r h
 obtain ⟨p,ks,rfl,hq,h64,q⟩:=h
 obtain ⟨u,rfl,rx⟩:=fo r
 cases rx
 have hh:=I.ok.hd hc
 refine Srt.jA (ks:=ks) h64 (λQ' hQ'=>?_) λh1 h' tk d' out c k1 k2 e hi=>?_
 ·rcases hq with hq|hq|hq
  ·obtain ⟨its,r',pl,hz⟩:=I.list hq
   obtain ⟨o,ho,hcl,n,hd⟩:=pl.isList
   refine wpAny_collect_seq p (.inl rfl) ho hcl hd (λh' kp=>?_) (by have:=r'.length;simp only [List.size_toArray] <;> omega)
   exact hQ' h' s.toks s.drawn _ ks kp (.refl _) (by simpa using dJ r')
  ·obtain ⟨its,r',pl,hz⟩:=I.tuple hq
   obtain ⟨o,ho,hcl,n,hd⟩:=pl
   refine wpAny_collect_seq p (.inr rfl) ho hcl hd (λh' kp=>?_) (by have:=r'.length;simp only [List.size_toArray] <;> omega)
   exact hQ' h' s.toks s.drawn _ ks kp (.refl _) (by simpa using dJ r')
  ·exact St.mB (by first|exact hh|simpa using hh) (I.set hq) λh' tk d' acc order kp hp hi=>hQ' h' tk d' acc order kp hp hi
 ·have I1:Inv X pins σ H { s with heap:=h1,toks:=tk,drawn:=d' }:=I.keptD k1
  have I2:Inv X pins σ (upd H h1.objs.size (.lst ((Srt.sortI ks).map V.int))) { s with heap:=h',toks:=tk,drawn:=d' } :=
   I1.laid (t':=tk) k2 (Nat.le_refl _) (show bC X.prog X.w _ h' _ (.lst _) from ⟨by rw [List.length_map,Srt.sortI_len,sizeLine_eq];omega,out,c,qk hi,e⟩)
  exact ⟨.ref h1.objs.size,_,I2,rfl,q _ (I1.hok.fresh (Nat.le_refl _))⟩
noncomputable def xc (X:Cx):List V->Hp->VK->Prop:=λxs H Q=>∃ (p:Addr) (vs:List V) (tss:List (List Int)),xs=[.ref p]/\(SqL X.K H p vs \/ SqT X.K H p vs)/\mD X.K H vs tss/\tss.length < 64 /\
 ∀ (l:Addr) (pm:List Nat),H l=none->(∀ i ∈ pm,i < vs.length)->pm.map (λi=>tss.getD i [])=Srt.sortT tss->Q (.ref l) (upd H l (.lst (pm.map λi=>vs.getD i .non)))
theorem kR {vs:List V}{us:List Value} (h:am vs us):∀ (l:List Nat),(∀ i ∈ l,i < vs.length)->am (l.map λi=>vs.getD i .non) (l.map λi=>us.getD i Value.none)
 | [],_=>.nil
 | i::l,hl=>by
  have hi:=hl i (.head _)
  obtain ⟨u,e1,e2⟩:=h.get (i:=i) (x:=vs[i]) (List.getElem?_eq_getElem hi)
  refine .cons ?_ (kR h l λj hj=>hl j (.tail _ hj))
  have q1:vs.getD i .non=vs[i]:=by simp [hi]
  have q2:us.getD i Value.none=u:=by rw [List.getD_eq_getElem?_getD,e1];rfl
  show ar (vs.getD i V.non) (us.getD i Value.none)
  rw [q1,q2];exact e2
theorem lM (hu:X.A.units + 64 < cLine):bq X (.builtin "sorted") (xc X):=by
 intro pins s σ H xs us Q I r h
 obtain ⟨p,vs,tss,rfl,hq,ht,h64,q⟩:=h
 obtain ⟨u,rfl,rx⟩:=fo r
 cases rx
 have key:∀ (its:List Value),am vs its->vs.length <= sizeLine->(∀ (Q':List Value->Shared->Prop),(∀ (h':Heap),(∀ b o,s.heap.get? b=some o->h'.get? b=some o)->Q' its { s with heap:=h' })->wpAny (model X.prog X.w) X.A.in1 (collect (.ref p)) Q' X.xe s) ->
   wpAny (model X.prog X.w) X.A (call (.builtin "sorted") [.ref p]) (EP X pins σ Q) X.xe s:=λits r' hz hcol=>by
  have hl:=r'.length
  have hl2:=ht.len
  refine Srt.jC (vs:=its) (tss:=tss) (by omega) (by omega) (I.tupsAt ht r') hcol λh1 h' pm c k1 k2 e hp ho=>?_
  have hpl:∀ i ∈ pm.toList,i < vs.length:=λi hi=>by
   have:=(Array.perm_iff_toList_perm.mp hp).mem_iff.mp hi
   have:=List.mem_range.mp (by simpa using this)
   omega
  have I1:Inv X pins σ H { s with heap:=h1 }:=I.kept (t':=s.toks) k1
  have I2:Inv X pins σ (upd H h1.objs.size (.lst (pm.toList.map λi=>vs.getD i .non))) { s with heap:=h' } :=
   I1.laid (t':=s.toks) k2 (Nat.le_refl _) (show bC X.prog X.w _ h' _ (.lst _) from ⟨by have:=hp.size;rw [List.length_map,Array.length_toList,sizeLine_eq];omega,_,c,kR r' _ hpl,e⟩)
  exact ⟨.ref h1.objs.size,_,I2,rfl,q _ pm.toList (I1.hok.fresh (Nat.le_refl _)) hpl ho⟩
 rcases hq with hq|hq
 ·obtain ⟨its,r',pl,hz⟩:=I.list hq
  obtain ⟨o,ho,hcl,n,hd⟩:=pl.isList
  refine key its r' hz λQ' hQ'=>wpAny_collect_seq p (.inl rfl) ho hcl hd (λh' kp=>?_) (by have:=r'.length;simp only [List.size_toArray] <;> omega)
  have:=hQ' h' kp
  simpa using this
 ·obtain ⟨its,r',pl,hz⟩:=I.tuple hq
  obtain ⟨o,ho,hcl,n,hd⟩:=pl
  refine key its r' hz λQ' hQ'=>wpAny_collect_seq p (.inr rfl) ho hcl hd (λh' kp=>?_) (by have:=r'.length;simp only [List.size_toArray] <;> omega)
  have:=hQ' h' kp
  simpa using this
end
end L2
namespace L2.St
open PySem PyProof.Rows
structure kB (P:Program) (w:World) (h:Heap) (a:Addr) (ks:List Int) (o:Obj) (es:Array (Int × Value)) (ep:Nat) (t:SetTable):Prop where
 ho:h.get? a=some o
 ex:o.ExactSet
 hd:o.data=.set es ep t
 el:ElemsOf (intKind P w) es.toList
 pm:(es.toList.map λe=>numOf e.2).Perm ks
 nd:ks.Nodup
 bd:es.size < scanBound
 fi:t.fits es.size=true
theorem da.w {P:Program}{w:World}{h:Heap}{a:Addr}{ks:List Int} (g:da P w h a ks):∃ o es ep t,kB P w h a ks o es ep t/\Gd (!byT w) t:=by
 obtain ⟨o,es,ep,t,ho,hex,hd,hel,hp,hn,hb,hf,hg⟩:=g
 exact ⟨o,es,ep,t,⟨ho,hex,hd,hel,hp,hn,hb,hf⟩,hg⟩
theorem kB.len {P:Program}{w:World}{h:Heap}{a:Addr}{ks:List Int}{o:Obj}{es:Array (Int × Value)}{ep:Nat}{t:SetTable} (g:kB P w h a ks o es ep t):es.size=ks.length:=by
 have:=g.pm.length_eq;simpa using this
theorem kB.at {P:Program}{w:World}{h h':Heap}{a:Addr}{ks:List Int}{o:Obj}{es:Array (Int × Value)}{ep:Nat}{t:SetTable} (g:kB P w h a ks o es ep t) (k:∀ o,h.get? a=some o->h'.get? a=some o):kB P w h' a ks o es ep t :=
 ⟨k o g.ho,g.ex,g.hd,g.el,g.pm,g.nd,g.bd,g.fi⟩
section
variable {P:Program}{w:World}{A:Around}{E:Value->Shared->Prop}{s:Shared}
variable {a:Addr}{ks:List Int}{o:Obj}{es:Array (Int × Value)}{ep:Nat}{t:SetTable}
theorem kB.mem (g:kB P w s.heap a ks o es ep t) {k:Int}:k ∈ ks ↔ ∃ e ∈ es.toList,(intKind P w).is k e.2=true:=by
 rw [<- g.pm.mem_iff,List.mem_map]
 constructor
 ·rintro ⟨e,he,q⟩;exact ⟨e,he,(lK g.el he k).mpr q⟩
 ·rintro ⟨e,he,q⟩;exact ⟨e,he,(lK g.el he k).mp q⟩
end
end L2.St
namespace L2.St
open PySem PyProof.Rows
section
variable {P:Program}{w:World}{A:Around}{E:Value->Shared->Prop}{s:Shared}
theorem kB.type {a:Addr}{ks:List Int}{o:Obj}{es:Array (Int × Value)}{ep:Nat}{t:SetTable} (g:kB P w s.heap a ks o es ep t):s.TypeIs (.ref a) "set":=⟨o,g.ho,g.ex.1⟩
end
end L2.St
namespace L2.St
open PySem PyProof.Rows
noncomputable def itL (m:Nat):Nat->Nat->Nat
 | 0,i=>i
 | t + 1,i=>itL m t ((i * 5 + 1) % (m + 1))
theorem lN (m:Nat):∀ (a b i:Nat),itL m (a + b) i=itL m b (itL m a i)
 | 0,b,i=>by rw [Nat.zero_add];rfl
 | a + 1,b,i=>by rw [Nat.add_right_comm];exact lN m a b _
noncomputable def v5 (m:Nat):Bool:=itL m (m + 1) 0 == 0&&(List.range (m + 1)).all λj=>(List.range (m + 1)).any λt=>itL m t 0 == j
theorem o4 {m:Nat} (h:itL m (m + 1) 0=0):∀ (q r:Nat),itL m (q * (m + 1) + r) 0=itL m r 0
 | 0,r=>by simp
 | q + 1,r=>by
  have e:(q + 1) * (m + 1) + r=(m + 1) + (q * (m + 1) + r):=by rw [Nat.succ_mul];omega
  rw [e,lN,h,o4 h q r]
theorem cov {m:Nat} (h:v5 m=true) {i j:Nat} (hi:i <= m) (hj:j <= m):∃ t,t <= m/\itL m t i=j:=by
 unfold v5 at h
 rw [Bool.and_eq_true,beq_iff_eq,List.all_eq_true] at h
 obtain ⟨h0,h1⟩:=h
 have at_:∀ x,x <= m->∃ t,t <= m/\itL m t 0=x:=λx hx=>by
  have:=h1 x (List.mem_range.mpr (by omega))
  rw [List.any_eq_true] at this
  obtain ⟨t,ht,e⟩:=this
  exact ⟨t,by have:=List.mem_range.mp ht;omega,by simpa using e⟩
 obtain ⟨a,ha,ea⟩:=at_ i hi
 obtain ⟨b,hb,eb⟩:=at_ j hj
 refine ⟨(b + (m + 1) - a) % (m + 1),by have:=Nat.mod_lt (b + (m + 1) - a) (show 0 < m + 1 by omega);omega,?_⟩
 have e2:itL m ((b + (m + 1) - a) % (m + 1)) i=itL m (a + (b + (m + 1) - a) % (m + 1)) 0:=by rw [lN,ea]
 rw [e2,<- eb]
 by_cases c:a <= b
 ·have:(b + (m + 1) - a) % (m + 1)=b - a:=by
   have:b + (m + 1) - a=(b - a) + (m + 1):=by omega
   rw [this,Nat.add_mod_right,Nat.mod_eq_of_lt (by omega)]
  rw [this]
  congr 1;omega
 ·have:(b + (m + 1) - a) % (m + 1)=b + (m + 1) - a:=Nat.mod_eq_of_lt (by omega)
  rw [this]
  have e3:a + (b + (m + 1) - a)=1 * (m + 1) + b:=by omega
  rw [e3,o4 h0]
noncomputable def lp (m:Nat):Nat->Nat × Nat->Nat × Nat
 | 0,p=>p
 | t + 1,p=>lp m t (SetTable.leap m p.1 p.2)
noncomputable def vals (m:Nat) (ow:Array (Option Nat)):List Nat:=(List.range (m + 1)).filterMap λj=>ow.getD j none
end L2.St
namespace L2.St
open PySem PyProof.Rows
section
variable {P:Program}{w:World}{A:Around}{E:Value->Shared->Prop}{s:Shared}
variable {a:Addr}{ks:List Int}{o:Obj}{es:Array (Int × Value)}{ep:Nat}{t:SetTable}
end
end L2.St
namespace L2.St
open PySem PyProof.Rows
section
variable {P:Program}{w:World}{A:Around}{E:Value->Shared->Prop}{s:Shared}
variable {a:Addr}{ks:List Int}{o:Obj}{es:Array (Int × Value)}{ep:Nat}{t:SetTable}
end
end L2.St
namespace L2.St
open PySem PyProof.Rows
section
variable {P:Program}{w:World}{A:Around}{E:Value->Shared->Prop}{s:Shared}
end
end L2.St
namespace L2
open PySem PySem.Spec PyProof.Rows
section
variable {X:Cx}
theorem lO:bq X (.builtin "len") (λxs H Q=>∃ a ks,xs=[.ref a]/\H a=some (iN X.prog X.w a ks)/\Q (.int ks.length) H):=by
 intro pins s σ H xs us Q I r h
 obtain ⟨a,ks,rfl,e,q⟩:=h
 obtain ⟨u,rfl,ru⟩:=fo r
 cases ru
 obtain ⟨o,es,ep,t,g,_⟩:=(I.set e).w
 have hb:=g.bd
 have hsb:scanBound=4096:=rfl
 refine call_len_set g.ho g.ex g.hd g.fi (by omega) ⟨.int ks.length,H,I.tok _,⟨s.toks + 1,?_⟩,q⟩
 rw [g.len]
end
end L2
namespace L2.Dv
open PySem PyProof.Rows
open AutoSeq1 (wpAny_loadPart')
section
variable {P:Program}{w:World}{A:Around}{E:Value->Shared->Prop}{s:Shared}
noncomputable def lP (h:Heap) (d:Addr) (es:Array DictEntry) (ep:Nat):Prop:=∃ o,h.get? d=some o/\o.ExactDict/\o.data=.dict es ep
theorem lP.at {h h':Heap}{d:Addr}{es:Array DictEntry}{ep:Nat} (x:lP h d es ep) (k:∀ o,h.get? d=some o->h'.get? d=some o):lP h' d es ep:=by
 obtain ⟨o,ho,r⟩:=x
 exact ⟨o,k o ho,r⟩
theorem lP.type {d:Addr}{es:Array DictEntry}{ep:Nat} (x:lP s.heap d es ep):s.TypeIs (.ref d) "dict":=by
 obtain ⟨o,ho,r,_⟩:=x
 exact ⟨o,ho,r.1⟩
theorem uS {v d:Addr}{es:Array DictEntry}{ep:Nat}{Q:Value->Shared->Prop} (hv:s.heap.IsValuesView v d) (x:lP s.heap d es ep)
  (h:Q (.ref s.heap.objs.size) { s with heap:=s.heap.push { cls:=.type "dict_valueiterator",data:=.fields #[.ref d,.int 0 0,.int es.size 0,.int ep 0] } }):wpAny (model P w) A (pyIter (.ref v)) Q E s:=by
 refine wpAny_pyIter_slot hv.typeIs F.slot_dict_values_iter (wpAny_call_entry F.slot_dict_values_iter hv.typeIs F.entry_dict_values_iter ?_ (F.args_dict_values_iter_1 _))
 obtain ⟨⟨c1,d1,t1,l1⟩,h1,hx,e2⟩:=x
 have e1:=hx.1
 cases e1
 cases e2
 obtain ⟨⟨c3,d3,t3,l3⟩,h3,e3,e4⟩:=hv
 cases e3
 cases e4
 obtain ⟨hp,g,dr,tk,os⟩:=s
 unfold Builtin.«dict_values.__iter__»
 wp_walk using wpAny_loadPart' h1,wpAny_loadPart' h3
 exact ⟨_,rfl,_,_,⟨_,Heap.get?_push_size _ rfl,rfl⟩,F.slot_dict_valueiterator_next.lookup,h⟩
theorem o5 {it d:Addr}{i:Nat}{es:Array DictEntry}{ep:Nat}{Q:Option Value->Shared->Prop} (hh:A.handled=none) (hv:s.heap.IsValIter it d i es.size ep) (x:lP s.heap d es ep)
  (h1:∀ e h',es[i]?=some e->h'.IsValIter it d (i + 1) es.size ep->Heap.SameBut it s.heap h'->Q (some e.val) { s with heap:=h' })
  (h2:∀ h',es[i]?=none->Heap.ExtBut it s.heap h'->Q none { s with heap:=h' }):wpAny (model P w) A (pyNext (.ref it)) Q E s:=by
 have ty:=hv.typeIs
 obtain ⟨⟨c1,d1,t1,l1⟩,g1,hx,e2⟩:=x
 have e1:=hx.1
 cases e1
 cases e2
 obtain ⟨⟨c3,d3,t3,l3⟩,g3,e3,e4⟩:=hv
 cases e3
 cases e4
 obtain ⟨hp,g,dr,tk,os⟩:=s
 unfold pyNext
 refine wpAny_bind (wpAny_attempt (wpAny_callSpecial?_slot (name:=Str.ofString "__next__") ty F.slot_dict_valueiterator_next (wpAny_call_entry F.slot_dict_valueiterator_next ty F.entry_dict_valueiterator_next ?_ (F.args_dict_valueiterator_next_1 _))))
 unfold Builtin.«dict_valueiterator.__next__»
 wp_walk using wpAny_loadPart' g1,wpAny_loadPart' g3
 rw [if_neg (by omega),Int.toNat_natCast]
 have self:∀ (k:Nat) (v:Value),(hp.update it (Obj.mapFields (·.setIfInBounds k v))).get? it=some { cls:=.type "dict_valueiterator",dict:=d3,data:=.fields ((#[.ref d,.int (i:Int) 0,.int (es.size:Int) 0,.int (ep:Int) 0]:Array Value).setIfInBounds k v),slots:=l3 }:=λk v=>Heap.get?_update_self _ g3 rfl
 cases hx:es[i]? with
 | some e =>
  have g4:=self 1 (rawInt ((i:Int) + 1))
  wp_walk using wpAny_loadPart' g3,wpAny_loadPart' g4
  exact ⟨_,rfl,wpAny_pure (h1 e _ hx ⟨_,g4,rfl,rfl⟩ (Heap.SameBut.update ..))⟩
 | none =>
  refine wpAny_bind (wpAny_mono (Q:=λ(n:Nat) (s':Shared)=>n=0/\s'=⟨hp,g,dr,tk,os⟩) (E:=λ_ _=>False) ?_ (λn s' q=>?_) λ_ _ z=>z.elim)
  ·wp_walk using wpAny_loadPart' g3
   exact ⟨by decide +kernel,rfl⟩
  obtain ⟨rfl,rfl⟩:=q
  refine wpAny_bind (wpAny_setField g3 rfl (by simp) ?_)
  refine St.il (v:=.none) (vs:=#[]) (it:=0) (Q:=λ_ _=>True) (by simpa using hh) λe s' kp ⟨h',eq⟩ hT=>?_
  subst eq
  refine wpAny_bind (wpAny_isInstance (T:="StopIteration") (b:=true) hT isSubtype_stop ?_)
  exact wpAny_pure (h2 h' hx λb o hb q=>kp b o ((Heap.SameBut.update hp it _).extBut b o hb q))
theorem src {r d:Addr}{es:Array DictEntry}{ep:Nat}:PySem.W.KdlSrc P w "dict_values" r d es.size (λi v=>∃ e,es[i]?=some e/\v=e.val) (λh=>h.IsValuesView r d/\lP h d es ep) where
 type:=λ_ q=>q.1.typeIs
 there:=λ_ ⟨⟨o,ho,_⟩,⟨o',ho',_⟩⟩=>⟨Heap.lt_size ho,Heap.lt_size ho'⟩
 keep:=λ_ _ ⟨⟨o,ho,z⟩,x⟩ k=>⟨⟨o,k r (.inl rfl) o ho,z⟩,x.at λo e=>k d (.inr rfl) o e⟩
 notList:=by decide
 notTuple:=by decide
 hint:=λ_ _ _ _ q z=>PySem.W.kdl_hint_values q.1.typeIs z
 iter:=λA s hh ⟨q,x⟩=>by
  have lt:d < s.heap.objs.size:=by obtain ⟨o,ho,_⟩:=x;exact Heap.lt_size ho
  have ne:d ≠ s.heap.objs.size:=Nat.ne_of_lt lt
  refine ⟨{ cls:=.type "dict_valueiterator",data:=.fields #[.ref d,.int 0 0,.int es.size 0,.int ep 0] },λi h=>h.IsValIter s.heap.objs.size d i es.size ep/\lP h d es ep,λE Q z=>uS q x z,?_,⟨_,Heap.get?_push_size _ rfl,rfl,rfl⟩,x.at λo e=>Heap.get?_push_of_some _ e⟩
  refine ⟨λb hb=>by simp at hb;simp [hb],λi h h' ⟨⟨o,ho,z⟩,y⟩ k=>⟨⟨o,k _ (by simp) o ho,z⟩,y.at λo e=>k d (by simp) o e⟩,λi s' Q E hi ⟨y,z⟩ hQ=>?_,λs' Q E ⟨y,z⟩ hQ=>?_,λi s' Q E ⟨y,z⟩ hQ=>?_⟩
  ·refine o5 hh y z (λe h' he y' sb=>?_) λh' he _=>absurd he (by simp;omega)
   exact hQ _ h' s'.toks ⟨e,he,rfl⟩ ⟨y',z.at λo q=>sb.extBut d o ne q⟩ λb o hb q=>sb.extBut b o (λw=>hb (by simp [w])) q
  ·refine o5 hh y z (λe h' he _ _=>absurd he (by simp)) λh' _ eb=>?_
   exact hQ h' s'.toks λb o hb q=>eb b o (λw=>hb (by simp [w])) q
  ·exact wpAny_pyIter_valiter y hQ
end
end L2.Dv
namespace HT
open PySem PyProof.Rows
section
variable {prog:Program}{w:World}{A:Around}{E:Value->Shared->Prop}{s:Shared}
theorem getItem_tuple_whole {t sl:Addr}{items:Array Value}{vl vu:Value}{lo hi:Option Int}{Q:Value->Shared->Prop} (ht:IsTup s.heap t items) (hs:s.heap.IsSliceOf sl vl vu .none) (pl:IsPart vl lo) (pu:IsPart vu hi)
  (h0:sIx items.size 0 lo=0) (h1:sIx items.size items.size hi=items.size) (h:Q (.ref t) s):wpAny (model prog w) A (getItem (.ref t) (.ref sl)) Q E s:=by
 have hTs:s.TypeIs (.ref sl) "slice":=by obtain ⟨os,hos,hcs,_⟩:=hs;exact ⟨os,hos,hcs⟩
 unfold getItem
 try with_reducible refine wpAny_holding ?_
 first|refine wpAny_bind (wpAny_pure ?_)|skip
 refine wpAny_bind (wpAny_sequenceKey ht.typeIs (by decide) ?_)
 refine wpAny_bind (wpAny_callSpecial?_slot (name:=Str.ofString "__getitem__") ht.typeIs PyProof.Rows.slot_tuple_getitem
  (wpAny_call_entry PyProof.Rows.slot_tuple_getitem ht.typeIs entry_tuple_getitem ?_ (args_tuple_getitem _ _)))
 show wpAny _ _ (Builtin.Tuple.tupleItemsOf (.ref t) >>= _) _ _ s
 refine wpAny_bind (tupleItemsOf_ ht ?_)
 refine wpAny_bind (wpAny_typeOf hTs ?_)
 rw [if_pos (by decide)]
 refine wpAny_bind (eJ hs pl pu ?_)
 show wpAny _ _ (if (((sIx items.size 0 lo:Nat):Int) == 0&&(1:Int) == 1&&(sIx items.size items.size hi - sIx items.size 0 lo) == items.size)=true then _ else _) _ _ s
 rw [h0,h1,if_pos (by simp)]
 unfold Builtin.Tuple.tupleIsExact
 refine wpAny_bind (wpAny_bind (wpAny_typeOf ht.typeIs (wpAny_pure ?_)))
 rw [if_pos (by decide)]
 refine wpAny_bind (wpAny_rule ?_)
 exact wpAny_pure ⟨_,rfl,wpAny_pure h⟩
end
end HT
namespace L2
open PySem PySem.Spec PyProof.Rows
section
variable {X:Cx}
theorem uT:SlR X (λx lo hi H Q=>∃ a xs,x=.ref a/\SqT X.K H a xs/\HT.sIx xs.length 0 lo=0/\HT.sIx xs.length xs.length hi=xs.length/\Q (.ref a) H):=by
 intro pins s σ H x v vl vu lo hi sl Q I rx hs pl pu h
 obtain ⟨a,xs,rfl,hx,h0,h1,q⟩:=h
 cases rx
 obtain ⟨its,r,ht,hz⟩:=I.tuple hx
 have hlen:its.toArray.size=xs.length:=by rw [List.size_toArray];exact r.length.symm
 refine ⟨"tuple",_,PyProof.Rows.slot_tuple_getitem.lookup,ht.typeIs,?_⟩
 exact HT.getItem_tuple_whole ht hs pl pu (by rw [hlen];exact h0) (by rw [hlen];exact h1) ⟨.ref a,H,I,rfl,q⟩
end
end L2
namespace L2.Rv
open PySem PyProof.Rows
section
variable {P:Program}{w:World}{A:Around}{E:Value->Shared->Prop}{s:Shared}
noncomputable def Drawn (items:Array Value) (i:Nat) (v:Value):Prop:=items[items.size - 1 - i]?=some v
end
end L2.Rv
namespace L2
open PySem PySem.Spec PyProof.Rows
section
variable {X:Cx}
end
end L2
namespace L2.Rg
open PySem PyProof.Rows
section
variable {P:Program}{w:World}{A:Around}{E:Value->Shared->Prop}{s:Shared}
end
end L2.Rg
namespace L2
open PySem PySem.Spec PyProof.Rows
section
variable {X:Cx}
end
end L2
namespace L2
open PySem PySem.Spec PyProof.Rows
noncomputable abbrev bmV:List Value:=[.type "ValueError",.type "Exception",.type "BaseException",.type "object"]
noncomputable def dN (K:PySem.W.Frag) (C:Addr) (ms:List Value):Bool:=match K.lookup C with
 | some ⟨.type "type",_,.cls cd,sl⟩=>(match sl.toList with
  | [_,_,_,_,some (.builtin n),_]=>cd.mro == .ref C::ms&&n == "ValueError.__new__"&&!cd.hasDel&&PySem.W.tailIn K bmV ms&&PySem.W.nsOkIn K cd.ns&&PySem.W.nsIn K cd.ns "__init__" == some none
  | _=>false)
 | _=>false
structure o6 (h:Heap) (C:Addr) (ms:List Value):Prop where
 obj:∃ N nm q bs hdct sn sub ab col dd k0 k1 k2 k3 k5 mN,h.get? C=some (excClassObj nm q C N bs ms hdct sn sub ab col dd k0 k1 k2 k3 k5 "ValueError.__new__")/\h.Ns N mN/\mN "__init__"=none
 tail:OwnTail h bmV ms
theorem lQ {K:PySem.W.Frag}{h:Heap}{C:Addr}{ms:List Value} (X:K.In h) (e:dN K C ms=true):o6 h C ms:=by
 unfold dN at e
 split at e
 ·rename_i dd cd sl ho
  split at e
  ·rename_i k0 k1 k2 k3 n k5 hs
   simp only [Bool.and_eq_true,beq_iff_eq,Bool.not_eq_true'] at e
   obtain ⟨⟨⟨⟨⟨e1,rfl⟩,e3⟩,e4⟩,e5⟩,e6⟩:=e
   obtain ⟨nm,bs,mro,ns,qn,hd,sn,sub,ab,col,del⟩:=cd
   obtain rfl:mro=.ref C::ms:=e1
   obtain rfl:del=false:=e3
   obtain ⟨l⟩:=sl
   obtain rfl:l=_:=hs
   exact ⟨⟨ns,nm,qn,bs,hd,sn,sub,ab,col,dd,k0,k1,k2,k3,k5,_,X _ _ ho,.of_isNs (PySem.W.isNs_of_in X e5),PySem.W.nsMap_none_of_in X e5 e6⟩,PySem.W.tail_of_in X e4⟩
  ·cases e
 ·cases e
section
variable {X:Cx}{x:Str}{C:Addr}{ms:List Value}{np cpos pos p1:Pos}{tx:Str}
noncomputable def rQ (X:Cx) (C:Addr):TS:=λ_ σ H=>∀ pins s h' ea vs,Inv X pins σ H s->Heap.MadeExcOf s.heap h' ea (.ref C) vs->X.xe (.ref ea) { s with heap:=h' }
theorem mG {j:Nat} (hc:X.calm=true) (hg:Gl X x) (hm:X.mg x=some (.ref C)) (he:dN X.K C ms=true) (hd:(x == ("__debug__":Str))=false):PS X (.Raise (some (.Call (.Name x np) [.Constant (.str tx) j p1] [] cpos)) none pos) (rQ X C):=by
 intro pins s σ H D I h
 obtain ⟨⟨N,nm,q,bs,hdct,sn,sub,ab,col,dd,k0,k1,k2,k3,k5,mN,hC,hN,hni⟩,TL⟩:=lQ I.mod.kin he
 refine wpAny_Raise_call_subT (C:=C) (nm:=nm) (q:=q) (N:=N) (bs:=bs) (bm:=ms) (hdct:=hdct) (sn:=sn) (sub:=sub) (ab:=ab) (col:=col) (dd:=dd) (k0:=k0) (k1:=k1) (k2:=k2) (k3:=k3) (k5:=k5)
  PySem.F.excBase_ValueError (mN:=mN) (TL.hasType PySem.F.excBase_ValueError.hasBase) (I.ok.hd hc) rfl hni (fR I hg hm ⟨rfl,?_⟩ hd)
 have hpa:PA X [.Constant (.str tx) j p1] (md (tC (.str tx)) p6):=aG ny a_
 have hs:starEach [Expr.Constant (.str tx) j p1] X.env=(false,eval (.Constant (.str tx) j p1) X.env)::starEach [] X.env:=rfl
 have hq:=hpa cpos pins s σ H (λvs H1=>vs.length=1/\H1=H) I ⟨rfl,rfl⟩
 rw [hs] at hq ⊢
 refine Calls.evalArgs_plain (wpAny_mono hq (λus s₂ ⟨vs,H1,I1,r,hl,hH⟩=>?_) λ_ _ y=>y)
 subst hH
 refine ⟨rfl,?_,I1.bk _ _ hC,hN.keeps I1.bk,TL.keeps I1.bk,λh' ea hx=>h pins s₂ h' ea us I1 hx⟩
 show us.length <= sizeLine
 rw [<- r.length,hl]
 decide
end
end L2
namespace L2
open PySem PySem.Spec PyProof.Rows
theorem bC.there {P:Program}{w:World}{H:Hp}{h:Heap}{a:Addr}{o:HO} (x:bC P w H h a o):∃ u,h.get? a=some u:=by
 cases o <;> first
  | exact ⟨_,(show h.get? a=some _ from x)⟩
  | (obtain ⟨_,e⟩:=x;exact ⟨_,e⟩)
  | (obtain ⟨e,_⟩:=x;exact ⟨_,e⟩)
  | (obtain ⟨_,_,_,e⟩:=x;exact ⟨_,e⟩)
  | (obtain ⟨_,_,_,_,e⟩:=x;exact ⟨_,e⟩)
  | (obtain ⟨_,_,_,e,_⟩:=x;exact ⟨_,e⟩)
  | (obtain ⟨_,⟨_,e⟩,_⟩:=x;exact ⟨_,e⟩)
  | (obtain ⟨_,_,_,_,e,_⟩:=x;exact ⟨_,e⟩)
  | (obtain ⟨_,⟨_,_,_,e,_⟩,_⟩:=x;exact ⟨_,e⟩)
  | (obtain ⟨_,_,_,_,_,_,_,e,_⟩:=x;exact ⟨_,e⟩)
structure bL (P:Program) (w:World) (outer:List Env) (H:Hp) (s:Shared) (ea C:Addr) (H':Hp) (s':Shared):Prop where
 os:s'.os=s.os
 bare:AllBare s'.gens
 un:Un (frs outer) [] H H' s.heap s'.heap
 hok:HOk P w H' s'.heap
 fly:∃ B a0,Heap.FlyingW B outer ea (.ref C) a0 s'.heap/\(∀ b o,s'.heap.get? b=some o->B.get? b=some o \/ b ∈ frs outer \/ (s.heap.get? b=none/\H' b=none))
 new:s.heap.get? ea=none/\H' ea=none
noncomputable def CXE (P:Program) (w:World):CXT:=λouter H s E e s'=>∃ ea C H',e=.ref ea/\bL P w outer H s ea C H' s'/\E (.ref C) none H'
theorem fw {h b b':Heap}:∀ {l:List Env},h.FunFrames b l->(∀ a ∈ frs l,b'.get? a=none)->h.FunFrames b' l
 | [],_,_=>trivial
 | env::l,⟨hk,⟨L,o,hf,_,ho,hd⟩,hr⟩,hb=>by
  have e:frs (env::l)=L::frs l:=by unfold frs;rw [List.filterMap_cons,hf]
  rw [e] at hb
  exact ⟨hk,⟨L,o,hf,hb L (.head _),ho,hd⟩,fw hr λa ha=>hb a (.tail _ ha)⟩
theorem HOk.but {P:Program}{w:World}{H:Hp}{h h':Heap}{fs:List Addr} (x:HOk P w H h) (k:∀ b u,b ∉ fs->h.get? b=some u->h'.get? b=some u) (hf:∀ b ∈ fs,H b=none):HOk P w H h':=λa o e =>
 (x a o e).stay (λb u hb q=>k b u (λz=>by
  rcases hb with rfl|hb
  ·rw [hf b z] at e;cases e
  ·rw [hf b z] at hb;cases hb) q) (λ_ q=>q) λ_ _ q=>q
section
variable {X:Cx}{pins:List (Addr × Obj)}{σ:St}{H:Hp}{s:Shared}{C ea:Addr}{h':Heap}{vs:List Value}
theorem ql (hst:X.stack=X.env::X.outer) (hf:X.env.frame=some X.env.locals):frs X.stack=X.env.locals::X.fs:=by rw [hst];unfold frs Cx.fs frs;rw [List.filterMap_cons,hf]
theorem kS {B h2:Heap}{a0:Value} (I:Inv X pins σ H s) (hst:X.stack=X.env::X.outer) (hf:X.env.frame=some X.env.locals) (hex:X.ex=[]) (fl:Heap.FlyingW B X.outer ea (.ref C) a0 h2)
  (cov:∀ b o,s.heap.get? b=some o->B.get? b=some o \/ b ∈ frs X.stack \/ (X.s₀.heap.get? b=none/\H b=none)) (slot:∀ b o,b ∈ frs X.stack->s.heap.get? b=some o->∃ sl,h2.get? b=some { o with slots:=sl }) (e0:X.s₀.heap.get? ea=none/\H ea=none) :
  bL X.prog X.w X.outer X.H₀ X.s₀ ea C H { s with heap:=h2 }:=by
 have efr:=ql hst hf
 have keep:∀ b o,b ∉ frs X.stack->(X.s₀.heap.get? b ≠ none \/ H b ≠ none)->s.heap.get? b=some o->h2.get? b=some o:=λb o hb hn e=>by
  rcases cov b o e with z|z|⟨z1,z2⟩
  ·exact fl.1 b o z
  ·exact absurd z hb
  ·exact (hn.elim (λq=>q z1) λq=>q z2).elim
 have old:∀ b o,X.s₀.heap.get? b=some o->b ≠ X.env.locals:=λb o e z=>by
  rw [z] at e
  exact absurd (Nat.lt_of_lt_of_le (Heap.lt_size e) I.ok.above) (Nat.lt_irrefl _)
 have out:∀ b o,X.s₀.heap.get? b=some o->b ∉ X.fs->b ∉ frs X.stack:=λb o e hb z=>by
  rw [efr] at z
  rcases List.mem_cons.mp z with z|z
  ·exact old b o e z
  ·exact hb z
 have nx:∀ b:Addr,b ∉ X.ex:=λb=>by rw [hex];simp
 refine ⟨I.os,I.bare,⟨λb o e n hb _=>keep b o (out b o e hb) (.inl (by rw [e];simp)) (I.base.keep b o e n hb (nx b)),λb o e n hb _=>?_,λb o e n _=>I.base.free b o e n (nx b),λb o e _=>?_,I.base.tups,I.base.frzs,I.base.tbls⟩,
  λa o e=>(I.hok a o e).stay (λb u hb q=>keep b u (λz=>?_) (.inr ?_) q) (λ_ q=>q) λ_ _ q=>q,⟨B,a0,fl,λb o e=>?_⟩,e0⟩
 ·obtain ⟨sl,e1⟩:=I.base.slot b o e n hb (nx b)
  obtain ⟨sl',e2⟩:=slot b _ (by rw [efr];exact .tail _ hb) e1
  exact ⟨sl',e2⟩
 ·obtain ⟨o',e1⟩:=I.base.there b o e (nx b)
  by_cases hb:b ∈ frs X.stack
  ·obtain ⟨sl,q⟩:=slot b o' hb e1
   exact ⟨_,q⟩
  ·exact ⟨o',keep b o' hb (.inl (by rw [e];simp)) e1⟩
 ·have n:=I.stkFree b z
  rcases hb with rfl|hb
  ·rw [n] at e;cases e
  ·rw [n] at hb;cases hb
 ·rcases hb with rfl|hb
  ·rw [e];simp
  ·rw [hb];simp
 ·have e:h2.get? b=some o:=e
  cases q:B.get? b with
  | some o' =>
   have:=fl.1 b o' q
   rw [e] at this
   exact .inl this.symm
  | none =>
   by_cases hb:b ∈ frs X.stack
   ·rw [efr] at hb
    rcases List.mem_cons.mp hb with rfl|hb
    ·refine .inr (.inr ⟨?_,I.free⟩)
     cases q:X.s₀.heap.get? X.env.locals with
     | none=>rfl
     | some o'=>exact absurd rfl (old _ o' q)
    ·exact .inr (.inl hb)
   ·refine .inr (.inr ?_)
    cases q':s.heap.get? b with
    | some o' =>
     rcases cov b o' q' with z|z|z
     ·rw [q] at z;cases z
     ·exact absurd z hb
     ·exact z
    | none =>
     constructor
     ·cases z:X.s₀.heap.get? b with
      | none=>rfl
      | some o' =>
       obtain ⟨o2,e2⟩:=I.base.there b o' z (nx b)
       rw [q'] at e2
       cases e2
     ·cases z:H b with
      | none=>rfl
      | some u =>
       obtain ⟨o2,e2⟩:=(I.hok b u z).there
       rw [q'] at e2
       cases e2
theorem Inv.gone {b:Addr} (I:Inv X pins σ H s) (hex:X.ex=[]) (e:s.heap.get? b=none):X.s₀.heap.get? b=none:=by
 cases q:X.s₀.heap.get? b with
 | none=>rfl
 | some o =>
  obtain ⟨o',e'⟩:=I.base.there b o q (by rw [hex];simp)
  rw [e] at e'
  cases e'
theorem nR {M:Model}{Q:Unit->Shared->Prop}{E:Value->Shared->Prop} (I:Inv X pins σ H s) (hst:X.stack=X.env::X.outer) (hf:X.env.frame=some X.env.locals) (hex:X.ex=[]) (hx:Heap.MadeExcOf s.heap h' ea (.ref C) vs)
  (k:∀ s',bL X.prog X.w X.outer X.H₀ X.s₀ ea C H s'->Q () s'):wpAny M X.A (leaving X.env (.ref ea)) Q E { s with heap:=h' }:=by
 have hB:∀ b o,(PySem.W.hideAll s.heap (frs X.stack)).get? b=some o->s.heap.get? b=some o:=λb o e=>PySem.W.of_hideAll _ e
 have fu':=I.stack
 have fu:s.heap.FunFrames (PySem.W.hideAll s.heap (frs X.stack)) (X.env::X.outer):=hst ▸ fw I.stack λb hb=>PySem.W.hideAll_none _ hb
 have hn:H ea=none:=by
  cases q:H ea with
  | none=>rfl
  | some o =>
   obtain ⟨u,e⟩:=(I.hok ea o q).there
   rw [hx.new] at e
   cases e
 refine wpAny_leaves_madeW (base:=PySem.W.hideAll s.heap (frs X.stack)) (h:=s.heap) (by rw [I.ok.frames,hst]) hf hB fu hx λh2 t fl _ _ up=>k _ (kS (s:=s) I hst hf hex fl (λb o e=>?_) (λb o hb e=>?_) ⟨I.gone hex hx.new,hn⟩)
 ·by_cases hb:b ∈ frs X.stack
  ·exact .inr (.inl hb)
  ·exact .inl (PySem.W.hideAll_get _ e hb)
 ·obtain ⟨_,o',ho',hd⟩:=fu'.mem hb
  rw [e] at ho'
  cases ho'
  exact up b o (hx.keeps b o e) hd
end
end L2
namespace L2
open PySem PySem.Spec PyProof.Rows
section
variable {P:Program}{w:World}{outer:List Env}{H H':Hp}{s s':Shared}{ea C:Addr}
theorem bL.on {B:Heap}{a0:Value}{h2:Heap} (F:bL P w outer H s ea C H' s') (fn:s'.heap.FunFrames B outer) (hB:∀ b o,s'.heap.get? b=some o->B.get? b=some o \/ b ∈ frs outer \/ (s.heap.get? b=none/\H' b=none))
  (fl:Heap.FlyingW B outer ea (.ref C) a0 h2) (up:s'.heap.UpToSlots h2) (hf:∀ b ∈ frs outer,H' b=none) (h0:∀ b ∈ frs outer,H b=none):bL P w outer H s ea C H' { s' with heap:=h2 }:=by
 have tr:∀ b u,H' b=some u->∃ o,s'.heap.get? b=some o:=λb u e=>(F.hok b u e).there
 have keep:∀ b o,b ∉ frs outer->(H' b ≠ none \/ s.heap.get? b ≠ none)->s'.heap.get? b=some o->h2.get? b=some o:=λb o hb hn e=>by
  rcases hB b o e with z|z|⟨z1,z2⟩
  ·exact fl.1 b o z
  ·exact absurd z hb
  ·exact (hn.elim (λq=>q z2) λq=>q z1).elim
 have slot:∀ b o,b ∈ frs outer->s'.heap.get? b=some o->∃ sl,h2.get? b=some { o with slots:=sl }:=λb o hb e=>by
  obtain ⟨_,o',ho',hd⟩:=fn.mem hb
  rw [e] at ho'
  cases ho'
  exact up b o e hd
 refine ⟨F.os,F.bare,⟨λb o e n hb hx=>keep b o hb (.inr (by rw [e];simp)) (F.un.keep b o e n hb hx),λb o e n hb hx=>?_,F.un.free,λb o e hx=>?_,F.un.tups,F.un.frzs,F.un.tbls⟩,
  λa o e=>(F.hok a o e).stay (λb u hb q=>keep b u (λz=>?_) (.inl ?_) q) (λ_ q=>q) λ_ _ q=>q,⟨B,a0,fl,λb o e=>?_⟩,F.new⟩
 ·obtain ⟨sl,e1⟩:=F.un.slot b o e n hb hx
  obtain ⟨sl',e2⟩:=slot b _ hb e1
  exact ⟨sl',e2⟩
 ·obtain ⟨o',e1⟩:=F.un.there b o e hx
  by_cases hb:b ∈ frs outer
  ·obtain ⟨sl,e2⟩:=slot b o' hb e1
   exact ⟨_,e2⟩
  ·exact ⟨o',keep b o' hb (.inr (by rw [e];simp)) e1⟩
 ·rcases hb with rfl|hb
  ·rw [hf b z] at e;cases e
  ·rw [hf b z] at hb;cases hb
 ·rcases hb with rfl|hb
  ·rw [e];simp
  ·rw [hb];simp
 ·have e:h2.get? b=some o:=e
  cases q:B.get? b with
  | some o' =>
   have:=fl.1 b o' q
   rw [e] at this
   exact .inl this.symm
  | none =>
   by_cases hb:b ∈ frs outer
   ·exact .inr (.inl hb)
   ·refine .inr (.inr ?_)
    cases q':s'.heap.get? b with
    | some o' =>
     rcases hB b o' q' with z|z|z
     ·rw [q] at z;cases z
     ·exact absurd z hb
     ·exact z
    | none =>
     constructor
     ·cases z:s.heap.get? b with
      | none=>rfl
      | some o' =>
       obtain ⟨o2,e2⟩:=F.un.there b o' z (by simp)
       rw [q'] at e2
       cases e2
     ·cases z:H' b with
      | none=>rfl
      | some u =>
       obtain ⟨o2,e2⟩:=tr b u z
       rw [q'] at e2
       cases e2
end
section
variable {X:Cx}{pins:List (Addr × Obj)}{σ:St}{H H':Hp}{s s':Shared}{ea C:Addr}
theorem Inv.caught (I:Inv X pins σ H s) (F:bL X.prog X.w X.stack H s ea C H' s'):Inv X pins σ H' s':=I.call' F.os F.un F.hok F.bare λb z=>absurd z (by simp)
theorem bL.next {h2:Heap}{B:Heap}{a0:Value} (I:Inv X pins σ H s) (F:bL X.prog X.w X.stack H s ea C H' s') (hB:∀ b o,s'.heap.get? b=some o->B.get? b=some o \/ b ∈ frs X.stack \/ (s.heap.get? b=none/\H' b=none))
  (f0:s'.heap.FunFrames B X.stack) (fl:Heap.FlyingW B X.stack ea (.ref C) a0 h2) (up:s'.heap.UpToSlots h2):bL X.prog X.w X.stack H s ea C H' { s' with heap:=h2 } :=
 F.on f0 hB fl up (I.caught F).stkFree I.stkFree
theorem qm {M:Model}{Q:Unit->Shared->Prop}{E:Value->Shared->Prop} (I:Inv X pins σ H s) (hst:X.stack=X.env::X.outer) (hf:X.env.frame=some X.env.locals) (hex:X.ex=[]) (F:bL X.prog X.w X.stack H s ea C H' s')
  (k:∀ s2,bL X.prog X.w X.outer X.H₀ X.s₀ ea C H' s2->Q () s2):wpAny M X.A (leaving X.env (.ref ea)) Q E s':=by
 obtain ⟨B,a0,fl,hB⟩:=F.fly
 have J:=I.caught F
 have fl':Heap.FlyingW B (X.env::X.outer) ea (.ref C) a0 s'.heap:=hst ▸ fl
 refine wpAny_leaves_onW (by rw [I.ok.frames,hst]) hf fl' λh2 fl2 up=>k _ (kS (s:=s') J hst hf hex fl2 (λb o e=>?_) (λb o hb e=>?_) ⟨I.gone hex F.new.1,F.new.2⟩)
 ·rcases hB b o e with z|z|z
  ·exact .inl z
  ·exact .inr (.inl z)
  ·exact .inr (.inr ⟨I.gone hex z.1,z.2⟩)
 ·obtain ⟨_,o',ho',hd⟩:=J.stack.mem hb
  rw [e] at ho'
  cases ho'
  exact up b o e hd
theorem mH {M:Model}{Q:Flow->Shared->Prop}{E:Value->Shared->Prop}{hs:List ExceptHandler} (I:Inv X pins σ H s) (hst:X.stack=X.env::X.outer) (hf:X.env.frame=some X.env.locals) (F:bL X.prog X.w X.stack H s ea C H' s')
  (k:∀ s3,bL X.prog X.w X.stack H s ea C H' s3->wpAny M X.A (handleBy (.ref ea) X.env hs) Q E s3) :
  wpAny M X.A (noteFrame (.ref ea) X.env) (λ_ s₂=>wpAny M X.A (setFlight (.ref ea) none) (λ_ s₃=>wpAny M X.A (handleBy (.ref ea) X.env hs) Q E s₃) E s₂) E s':=by
 obtain ⟨B,a0,fl,hB⟩:=F.fly
 have fl':Heap.FlyingW B (X.env::X.outer) ea (.ref C) a0 s'.heap:=hst ▸ fl
 refine wpAny_looks_onW (by rw [I.ok.frames,hst]) hf fl' λh2 he up=>?_
 refine wpAny_landsW he λh3 fl3 up3=>k _ ?_
 exact bL.next (s':=s') I F hB fl.2.2.1 (hst ▸ fl3) (up.trans up3)
theorem iO {M:Model}{A:Around}{Q:Unit->Shared->Prop}{E:Value->Shared->Prop} (I:Inv X pins σ H s) (F:bL X.prog X.w X.stack H s ea C H' s') (k:∀ s3,bL X.prog X.w X.stack H s ea C H' s3->Q () s3):wpAny M A (setFlight (.ref ea) none) Q E s':=by
 obtain ⟨B,a0,fl,hB⟩:=F.fly
 exact lands_againW fl λh3 fl3 up3=>k _ (bL.next I F hB fl.2.2.1 fl3 up3)
noncomputable abbrev Cx.within (X:Cx) (ea:Addr) (oe:Obj):Cx:={ X with A:=X.A.mark (some (.ref ea)),calm:=false,xe:=λ_ _=>False,pn:=(ea,oe)::X.pn }
theorem Inv.within {oe:Obj} (I:Inv X pins σ H s) (h1:s.heap.get? ea=some oe) (h2:H ea=none) (h3:ea ≠ X.env.locals) (h4:ea ∉ X.fs) (h5:∀ v,oe.data ≠ .cell v):Inv (X.within ea oe) pins σ H s :=
 ⟨⟨I.ok.mod,I.ok.kind,I.ok.glob,I.ok.blt,I.ok.above,I.ok.inj,I.ok.has,I.ok.cab,λz=>(by cases z),I.ok.frames,I.ok.stk,I.ok.exf,I.ok.bs,I.ok.bsz,I.ok.noex,I.ok.exfs,I.ok.funs,I.ok.frf⟩,
  I.os,I.bare,I.base,I.loc,I.cell,I.free,I.freeC,λp hp=>(List.mem_cons.mp hp).elim (λe=>by subst e;exact ⟨h1,h2,h3,h4,h5⟩) λhp=>I.pin p hp,I.hok,I.len⟩
theorem Inv.without {oe:Obj} (ok:X.Ok) (I:Inv (X.within ea oe) pins σ H s):Inv X pins σ H s:=⟨ok,I.os,I.bare,I.base,I.loc,I.cell,I.free,I.freeC,λp hp=>I.pin p (.tail _ hp),I.hok,I.len⟩
theorem SP.without {oe:Obj}{D:fk}{f:Flow}{s':Shared} (ok:X.Ok) (h:SP (X.within ea oe) pins D f s'):SP X pins D f s':=by
 cases f with
 | next=>obtain ⟨σ',H',I,q⟩:=h;exact ⟨σ',H',I.without ok,q⟩
 | brk=>obtain ⟨σ',H',I,q⟩:=h;exact ⟨σ',H',I.without ok,q⟩
 | cont=>obtain ⟨σ',H',I,q⟩:=h;exact ⟨σ',H',I.without ok,q⟩
 | ret u=>obtain ⟨v,σ',H',I,r,q⟩:=h;exact ⟨v,σ',H',I.without ok,r,q⟩
theorem bL.obj (I:Inv X pins σ H s) (F:bL X.prog X.w X.stack H s ea C H' s'):∃ oe,s'.heap.get? ea=some oe/\oe.cls=.ref C/\ea ≠ X.env.locals/\ea ∉ X.fs/\∀ v,oe.data ≠ .cell v:=by
 obtain ⟨B,a0,fl,hB⟩:=F.fly
 obtain ⟨oe,vs,e,ec,ed,_⟩:=fl.first
 obtain ⟨m,⟨ol,_,_,hl,_⟩,_⟩:=I.loc
 refine ⟨oe,e,ec,λz=>?_,λz=>?_,λv q=>?_⟩
 ·have:=F.new.1
  rw [z,hl] at this
  cases this
 ·obtain ⟨_,o,ho,_⟩:=I.funs.mem z
  rw [F.new.1] at ho
  cases ho
 ·rw [ed] at q
  cases q
theorem mI {M:Model}{A:Around}{E:Value->Shared->Prop}{Q:Bool->Shared->Prop}{D:Addr}{oe:Obj}{ms ds:List Value}{h:Heap}{g:Array GenState}{d:Drawn}{t:Nat}{os:OsState} (c1:o6 h C ms) (c2:o6 h D ds) (he:h.get? ea=some oe) (hc:oe.cls=.ref C)
  (hq:Q ((Value.ref C::ms).contains (.ref D)) ⟨h,g,d,t,os⟩):wpAny M A (excMatches (.ref ea) (.ref D)) Q E ⟨h,g,d,t,os⟩:=by
 obtain ⟨⟨N,nm,q,bs,hdct,sn,sub,ab,col,dd,k0,k1,k2,k3,k5,mN,hC,hN,hni⟩,TL⟩:=c1
 obtain ⟨⟨N',nm',q',bs',hdct',sn',sub',ab',col',dd',k0',k1',k2',k3',k5',mN',hD,_,_⟩,TD⟩:=c2
 have hB:(Value.ref D::ds).contains (.type "BaseException")=true:=by rw [List.contains_cons,TD.hasType PySem.F.excBase_ValueError.hasBase,Bool.or_true]
 have f:=tc_notTuple
 unfold excMatches
 generalize hb:(Value.ref C::ms).contains (Value.ref D)=b at hq
 cases b <;>
 ·repeat (first|(with_reducible refine wpAny_loadPart_at he ?_;rw [hc])|with_reducible refine wpAny_loadPart_at hD ?_|(with_reducible refine wpAny_isSubtype_exc hD ?_;rw [hB])|(with_reducible refine wpAny_isSubtype_exc hC ?_;rw [hb])|wp_step)
  exact hq
end
end L2
namespace L2
open PySem PySem.Spec PyProof.Rows
noncomputable abbrev TX:=St->Hp->VK->XK->Prop
noncomputable def PX (X:Cx) (e:Expr) (t:TX):Prop:=∀ (pins:List (Addr × Obj)) (s:Shared) (σ:St) (H:Hp) (Q:VK) (E:XK) (Ex:Value->Shared->Prop),Inv X pins σ H s->t σ H Q E ->
 (∀ H1 s1 er s',Inv X pins σ H1 s1->CXE X.prog X.w X.stack H1 s1 E er s'->Ex er s')->wpAny (model X.prog X.w) X.A (eval e X.env) (EP X pins σ Q) Ex s
noncomputable def PH (X:Cx) (hs:List ExceptHandler) (t:Addr->TS):Prop:=∀ (pins:List (Addr × Obj)) (σ:St) (H:Hp) (s:Shared) (ea C:Addr) (H':Hp) (s':Shared) (D:fk),Inv X pins σ H s->bL X.prog X.w X.stack H s ea C H' s'->t C D σ H' ->
 wpAny (model X.prog X.w) X.A (handleBy (.ref ea) X.env hs) (SP X pins D) X.xe s'
section
variable {X:Cx}{k:Nat}{f:Addr}{fd:FuncData}{ps:List Str}{sp:Sp}{x:Str}{p pos:Pos}{e:Expr}{es:List Expr}{t:TA}
noncomputable def xg (sp:Sp) (t:TA):TX:=λσ H Q E=>t σ H λvs H1=>sp vs H1 Q E
theorem uU {pins:List (Addr × Obj)}{σ:St}{H:Hp}{s:Shared}{Q:VK}{E:XK}{Ex:Value->Shared->Prop}{us:List Value}{vs:List V} (F:eT X.prog X.w X.K X.mg X.base (CXE X.prog X.w) k f fd ps sp) (hr:gm k X.A) (hb:cU X.K fd ps []) (J:Inv X pins σ H s) (r:am vs us) (q:sp vs H Q E)
  (hx:∀ H1 s1 er s',Inv X pins σ H1 s1->CXE X.prog X.w X.stack H1 s1 E er s'->Ex er s'):wpAny (model X.prog X.w) X.A (call (.ref f) us) (EP X pins σ Q) Ex s:=by
 have hl:us.length=ps.length:=by rw [<- r.length];exact F.len _ _ _ _ q
 have r2:am vs (us ++ []):=by rw [List.append_nil];exact r
 have hb':=hb s us J.kIn (by rw [List.append_nil];exact hl)
 refine wpAny_call (codeAny_mono (F.run X.A X.stack s H ⟨us,[]⟩ (us ++ []) vs Q E hr J.env0 hb' r2 q) λr s' hq=>?_)
 cases r with
 | error er=>exact hx H s er s' J hq
 | ok fl =>
  cases fl with
  | ret u=>exact J.after hq
  | next=>exact False.elim hq
  | brk=>exact False.elim hq
  | cont=>exact False.elim hq
theorem uV (F:eT X.prog X.w X.K X.mg X.base (CXE X.prog X.w) k f fd ps sp) (hr:gm k X.A) (hg:Gl X x) (hm:X.mg x=some (.ref f)) (hk:PySem.W.keepIn X.K (.ref f)=true) (hb:cU X.K fd ps []) (ha:PA X.nox (e::es) t)
  (hdb:(x == ("__debug__":Str))=false) (he:starEach (e::es) X.env=(false,eval e X.env)::starEach es X.env) (hpl:(backTo pos (starEach es X.env)).any (·.1)=false):PX X (.Call (.Name x p) (e::es) [] pos) (xg sp t):=by
 intro pins s σ H Q E Ex I h hx
 refine wpAny_Call_Name_kw (fR I hg hm ?_ hdb)
 refine PySem.W.callWith_K (h₀:=X.base) I.ok.mod.kin hk (wpAny_mono (ha pos pins s σ H _ (I.wish _) h) (λus s1 ⟨vs,H1,I1,r,q⟩=>?_) λ_ _ z=>z.elim) he hpl
 have J:Inv X pins σ H1 s1:=I1.unwish
 exact ⟨J.kIn,uU F hr hb J r q hx⟩
variable {te:TX}{th:Addr->TS}{h₀:ExceptHandler}{hs:List ExceptHandler}
noncomputable def Bf (te:TX) (th:Addr->TS):TS:=λD σ H=>te σ H (λ_ H1=>D.nx σ H1) λc _ H1=>∃ C,c=.ref C/\th C D σ H1
theorem xh (hst:X.stack=X.env::X.outer) (hf:X.env.frame=some X.env.locals) (he:PX X e te) (hh:PH X (h₀::hs) th) (hw:swapsWith e none p.line X.env=pure false):PS X (.Try [.Expr e p] (h₀::hs) [] [] pos) (Bf te th):=by
 intro pins s σ H D I h
 refine wpAny_Try_except (wpAny_execs_cons (wpAny_Expr_any (wpAny_mono (he pins s σ H _ _ _ I h λH1 s1 er s' I1 hx=>?_) (λv s1 ⟨y,H1,I1,r1,q1⟩=>?_) λ_ _ z=>z) I.quiet hw))
 ·obtain ⟨ea,C,H',rfl,F,C',e',q⟩:=hx
  cases e'
  exact mH I1 hst hf F λs3 F3=>hh pins σ H1 s1 ea C H' s3 D I1 F3 q
 ·exact wpAny_execs_nil (wpAny_execs_nil ⟨σ,H1,I1,q1⟩)
noncomputable def zv (i:Nat) (te:TX) (th:Addr->TS):TS:=λD σ H=>te σ H (λv H1=>D.nx (σ.set i (some v)) H1) λc _ H1=>∃ C,c=.ref C/\th C D σ H1
theorem uW {i:Nat}{y:Str}{py:Pos} (hst:X.stack=X.env::X.outer) (hf:X.env.frame=some X.env.locals) (hN:X.N.Nodup) (hi:X.N[i]?=some y) (hy:Loc X.env.scope y) (hfn:X.fn y=true \/ X.env.scope.names.lookup y=some .local) (he:PX X e te) (hh:PH X (h₀::hs) th)
  (hw:swapsWith e (some (.Name y py)) p.line X.env=pure false):PS X (.Try [.Assign [.Name y py] e p] (h₀::hs) [] [] pos) (zv i te th):=by
 intro pins s σ H D I h
 refine wpAny_Try_except (wpAny_execs_cons (wpAny_Assign_Name (wpAny_mono (he pins s σ H _ _ _ I h λH1 s1 er s' I1 hx=>?_) (λv s1 ⟨z,H1,I1,r1,q1⟩=>?_) λ_ _ z=>z) hw))
 ·obtain ⟨ea,C,H',rfl,F,C',e',q⟩:=hx
  cases e'
  exact mH I1 hst hf F λs3 F3=>hh pins σ H1 s1 ea C H' s3 D I1 F3 q
 ·exact gE I1 hN hi hy r1 (λs2 I2=>wpAny_execs_nil (wpAny_execs_nil ⟨_,H1,I2,q1⟩)) hfn
end
section
variable {X:Cx}{x:Str}{Dc:Addr}{ds:List Value}{np pos:Pos}{b₀:Stmt}{suite:List Stmt}{bR:List ExceptHandler}{ts:Addr->Addr->Obj->TS}{tr:Addr->TS}
noncomputable def v6 (K:PySem.W.Frag) (Dc:Addr) (ts:Addr->Addr->Obj->TS) (tr:Addr->TS):Addr->TS:=λC D σ H=>∃ ms,dN K C ms=true/\if (Value.ref C::ms).contains (.ref Dc)=true then ∀ ea oe,oe.cls=.ref C->ts C ea oe D σ H else tr C D σ H
theorem kT {pins:List (Addr × Obj)}{σ:St}{H H':Hp}{s s':Shared}{ea C:Addr}{ms:List Value}{R:Result->Shared->Prop} (hg:Gl X x) (hm:X.mg x=some (.ref Dc)) (hD:dN X.K Dc ds=true) (hd:(x == ("__debug__":Str))=false)
  (I:Inv X pins σ H s) (F:bL X.prog X.w X.stack H s ea C H' s') (hC:dN X.K C ms=true) (k:R (.ok (if (Value.ref C::ms).contains (.ref Dc)=true then .brk else .next)) s') :
  codeAny (model X.prog X.w) (X.A.mark (some (.ref ea))) (.handlers (.ref ea) [.ExceptHandler (some (.Name x np)) none [] pos] X.env) R s':=by
 have J:=I.caught F
 obtain ⟨oe,e1,e2,e3,e4,e5⟩:=F.obj I
 have J':=J.within e1 F.new.2 e3 e4 e5
 refine codeAny_handlers_test (fR (X:=X.within ea oe) J' hg hm ?_ hd)
 obtain ⟨h,g,d,t,os⟩:=s'
 exact mI (lQ J.kIn hC) (lQ J.kIn hD) e1 e2 k
theorem uX (hg:Gl X x) (hm:X.mg x=some (.ref Dc)) (hD:dN X.K Dc ds=true) (hd:(x == ("__debug__":Str))=false) (hs:∀ C ea oe,oe.cls=.ref C->PSs (X.within ea oe) (b₀::suite) (ts C ea oe)) (hr:PH X bR tr) :
  PH X (.ExceptHandler (some (.Name x np)) none (b₀::suite) pos::bR) (v6 X.K Dc ts tr):=by
 intro pins σ H s ea C H' s' D I F ⟨ms,hC,q⟩
 refine wpAny_handleBy_cons (kT hg hm hD hd I F hC ?_) (by intro q;cases q)
 split at q
 ·rename_i hb
  rw [if_pos hb]
  refine codeAny_handlers_suite (iO I F λs3 F3=>?_)
  obtain ⟨oe,e1,e2,e3,e4,e5⟩:=F3.obj I
  have J:=(I.caught F3).within e1 F3.new.2 e3 e4 e5
  exact wpAny_mono (hs C ea oe e2 pins s3 σ H' D J (q ea oe e2)) (λfl s4 h4=>SP.without I.ok h4) λ_ _ z=>z.elim
 ·rename_i hb
  rw [if_neg hb]
  exact hr pins σ H s ea C H' s' D I F q
theorem xi:PH X [] λ_ _ _ _=>False:=λ_ _ _ _ _ _ _ _ _ _ _ q=>q.elim
variable {n:Str}{i:Nat}
theorem qo {pins:List (Addr × Obj)}{σ:St}{H:Hp}{s:Shared}{M:Model}{A:Around}{E:Value->Shared->Prop}{Q:Unit->Shared->Prop} (I:Inv X pins σ H s) (hN:X.N.Nodup) (hi:X.N[i]?=some n) (hk:X.env.scope.names.lookup n=some .local)
  (k:∀ s',Inv X pins (σ.set i none) H s'->Q () s'):wpAny M A (do bindName X.env n .none;unbindBehindTheSuite X.env n pos) Q E s:=by
 obtain ⟨m,hn,hl⟩:=id I.loc
 have hcls:(X.env.scope.kind == .class || (X.env.scope.kind == .module&&X.env.locals != X.env.globals))=false:=by rw [I.ok.kind];rfl
 obtain ⟨oL,_,_,hoL,_⟩:=id hn
 refine wpAny_nameGoes_keeps hk hn hcls λh' v hn' hs=>k _ ?_
 have ne:∀ b o,X.s₀.heap.get? b=some o->b ≠ X.env.locals:=λb o e=>Nat.ne_of_lt (Nat.lt_of_lt_of_le (Heap.lt_size e) I.ok.above)
 refine ⟨I.ok,I.os,I.bare,⟨λb o e n hb hx=>(hs.2 b (ne b o e)).trans (I.base.keep b o e n hb hx),λb o e n hb hx=>?_,I.base.free,λb o e hx=>?_,I.base.tups,I.base.frzs,I.base.tbls⟩,⟨_,hn',λj y v' e1 e2 e3=>?_⟩,λy c e=>?_,I.free,I.freeC,λp hp=>?_,?_,by rw [List.length_set];exact I.len⟩
 ·obtain ⟨sl,e1⟩:=I.base.slot b o e n hb hx
  exact ⟨sl,(hs.2 b (ne b o e)).trans e1⟩
 ·obtain ⟨o',e1⟩:=I.base.there b o e hx
  exact ⟨o',(hs.2 b (ne b o e)).trans e1⟩
 ·by_cases hj:i=j
  ·subst hj
   have hiσ:i < σ.length:=by rw [I.len];exact (List.getElem?_eq_some_iff.mp hi).1
   rw [List.getElem?_set_self hiσ] at e2
   cases e2
  ·rw [List.getElem?_set_ne hj] at e2
   obtain ⟨u,r,q⟩:=hl j y v' e1 e2 e3
   refine ⟨u,r,?_⟩
   rcases q with ⟨k,e⟩|⟨k,c,e,z⟩
   ·refine .inl ⟨k,?_⟩
    show (if y=n then v else m y)=some u
    rw [if_neg λ(z:y=n)=>hj (i9 hN (z.symm ▸ hi) e1)]
    exact e
   ·exact .inr ⟨k,c,e,z.sameBut hs (I.cne y c e)⟩
 ·obtain ⟨w',z⟩:=I.cell y c e
  exact ⟨w',z.sameBut hs (I.cne y c e)⟩
 ·obtain ⟨e,n,ne,nf,d⟩:=I.pin p hp
  exact ⟨(hs.2 p.1 ne).trans e,n,ne,nf,d⟩
 ·exact I.hok.but (fs:=[X.env.locals]) (λb u hb e=>(hs.2 b λz=>hb (List.mem_singleton.mpr z)).trans e) λb hb=>by rw [List.mem_singleton.mp hb];exact I.free
noncomputable def Bg (i:Nat) (ts:Addr->Addr->Obj->TS):Addr->Addr->Obj->TS:=λC ea oe D σ H=>ts C ea oe { nx:=λσ' H'=>D.nx (σ'.set i none) H',rt:=λ_ _=>False } (σ.set i (some (.ref ea))) H
theorem zw (hg:Gl X x) (hm:X.mg x=some (.ref Dc)) (hD:dN X.K Dc ds=true) (hd:(x == ("__debug__":Str))=false) (hN:X.N.Nodup) (hi:X.N[i]?=some n) (hk:X.env.scope.names.lookup n=some .local) (hs:∀ C ea oe,oe.cls=.ref C->PSs (X.within ea oe) (b₀::suite) (ts C ea oe)) (hr:PH X bR tr) :
  PH X (.ExceptHandler (some (.Name x np)) (some n) (b₀::suite) pos::bR) (v6 X.K Dc (Bg i ts) tr):=by
 intro pins σ H s ea C H' s' D I F ⟨ms,hC,q⟩
 refine wpAny_handleBy_cons (kT hg hm hD hd I F hC ?_) (by intro q;cases q)
 split at q
 ·rename_i hb
  rw [if_pos hb]
  refine codeAny_handlers_suite_as (iO I F λs3 F3=>?_)
  obtain ⟨oe,e1,e2,e3,e4,e5⟩:=F3.obj I
  have J:=(I.caught F3).within e1 F3.new.2 e3 e4 e5
  refine gE (X:=X.within ea oe) (v:=.ref ea) J hN hi (.inl hk) rfl (λs4 J4=>?_) (.inr hk)
  refine wpAny_mono (hs C ea oe e2 pins s4 _ H' _ J4 (q ea oe e2)) (λfl s5 h5=>?_) λ_ _ z=>z.elim
  cases fl with
  | next =>
   obtain ⟨σ',H2,J5,q5⟩:=h5
   exact qo (J5.without I.ok) hN hi hk λs6 J6=>⟨_,H2,J6,q5⟩
  | ret u =>
   obtain ⟨_,_,_,_,_,z⟩:=h5
   exact z.elim
  | brk =>
   obtain ⟨_,_,_,z⟩:=h5
   exact z.elim
  | cont =>
   obtain ⟨_,_,_,z⟩:=h5
   exact z.elim
 ·rename_i hb
  rw [if_neg hb]
  exact hr pins σ H s ea C H' s' D I F q
end
end L2
namespace L2
open PySem PySem.W PySem.Spec PySem.Calls PyProof.Rows Builtin.ObjectAttr Builtin.Getset_descriptor
section
variable {prog:Program}{w:World}{A:Around}{E:Value->Shared->Prop}{K:Frag}{ea C:Addr}{oe:Obj}{ms:List Value}{hh:Heap}{g:Array GenState}{d:Drawn}{t:Nat}{os:OsState}
theorem uY {R:Result->Shared->Prop} (X:K.In hh) (L0:Looks (model prog w) hh (typeOf (.ref ea)) (.ref C)) (hm:mroIn K C (.type "object")=some true) (h:R (.ok (.ret (.ref C))) ⟨hh,g,d,t,os⟩) :
  codeAny (model prog w) A (.call (.builtin "getset_descriptor.__get__") ⟨[.builtin "object.__class__",.ref ea,.ref C],[]⟩) R ⟨hh,g,d,t,os⟩:=by
 have L1:=looks_mroIn (M:=model prog w) X hm
 refine codeAny_call_builtin KF.slot_gs.plain KF.entry_gs (KF.slot_gs.check _ _ _ _ _ _ _ _ KF.type_class (KF.args_gs _ _ _) ?_)
 unfold Builtin.«getset_descriptor.__get__» descrGet
 rw [dga_obj]
 refine wpAny_bind (wpAny_pure ?_)
 unfold descrGetter descrCheckInstance descrNameAndClass isInstance
 simp only [KF.owner_class]
 repeat lk
 refine ⟨Code.quiet_builtin _ (by decide +kernel),codeAny_builtin KF.entry_class ?_⟩
 unfold Builtin.«object.__class__» shownTypeOf
 repeat lk
 exact h
theorem qp {Q:Option Value->Shared->Prop} (X:K.In hh) (c1:o6 hh C ms) (he:hh.get? ea=some oe) (hc:oe.cls=.ref C)
  (hga:findIn K (.ref C) "__getattribute__"=some (some (.builtin "BaseException.__getattribute__"))) (hgt:findIn K (.ref C) "__getattr__"=some none) (ha:findIn K (.ref C) "__class__"=some (some (.builtin "object.__class__")))
  (hn:specialIn K (.builtin "object.__class__") "__get__"=some (some (.builtin "getset_descriptor.__get__"))) (htk:takesIn K (.builtin "object.__class__")=some true) (hm:mroIn K C (.type "object")=some true)
  (h:Q (some (.ref C)) ⟨hh,g,d,t + 1,os⟩):wpAny (model prog w) A (getAttr? (.ref ea) "__class__") Q E ⟨hh,g,d,t,os⟩:=by
 have L0:Looks (model prog w) hh (typeOf (.ref ea)) (.ref C):=hc ▸ (Looks.ld he).andThen .now
 have L1:=looks_findIn (M:=model prog w) X hga
 have L2:=looks_findIn (M:=model prog w) X hgt
 have L3:=looks_findIn (M:=model prog w) X ha
 have L4:Looks (model prog w) hh (getOf (some (.builtin "object.__class__"))) (some (.builtin "getset_descriptor.__get__")):=looks_specialIn X hn
 have L5:Looks (model prog w) hh (dataDescriptor? (some (.builtin "object.__class__")) (some (.builtin "getset_descriptor.__get__"))) (some (.builtin "getset_descriptor.__get__",.builtin "object.__class__")):=(looks_takesIn X htk).andThen .now
 have hb:=PySem.F.attr_ValueError.ga.bind (.ref ea)
 obtain ⟨⟨N,nm,q,bs,hdct,sn,sub,ab,col,dd,k0,k1,k2,k3,k5,mN,hC,hN,hni⟩,TL⟩:=c1
 have hcB:(Value.ref C::ms).contains (.type "BaseException")=true:=by rw [List.contains_cons,TL.hasType PySem.F.excBase_ValueError.hasBase,Bool.or_true]
 unfold getAttr? getAttrBy? getAttrBy
 refine wpAny_bind (wpAny_mkText (wpAny_bind (wpAny_attempt (wpAny_holding (wpAny_bind (L0.at (wpAny_bind (L1.at ?_))))))))
 show wpAny _ _ (getAttrByItsOwn _ _ _ _ _ _) _ _ _
 unfold getAttrByItsOwn
 refine wpAny_bind (L2.at ?_)
 refine wpAny_bind (wpAny_attempt (wpAny_holding ?_))
 show wpAny _ _ (boundAndCalled _ _ _) _ _ _
 unfold boundAndCalled
 refine wpAny_bind (wpAny_of_eq hb ?_)
 refine wpAny_call (codeAny_call_builtin PySem.F.attr_ValueError.ga.plain F.entry_bexc_ga ?_)
 have hk:builtinKind "BaseException.__getattribute__"=some .slot:=by decide +kernel
 have hsplit:splitId "BaseException.__getattribute__"=some ("BaseException","__getattribute__"):=by decide +kernel
 have hargs:=F.args_bexc_ga (.ref ea) (.str "__class__" t)
 simp only [checkBuiltinCall,hk,hsplit]
 refine wpAny_bind ?_
 unfold isInstance
 repeat (first|(with_reducible refine wpAny_loadPart_at he ?_;rw [hc])|(with_reducible refine wpAny_isSubtype_exc hC ?_;rw [hcB])|wp_step)
 refine L3.at (wpAny_bind (L4.at (wpAny_bind (L5.at ?_))))
 refine wpAny_bind (wpAny_rule (wpAny_pure ?_))
 show wpAny _ _ (do ret (<- holding [Value.builtin "object.__class__"] (call (.builtin "getset_descriptor.__get__") [.builtin "object.__class__",.ref ea,.ref C]))) _ _ _
 refine wpAny_bind (wpAny_holding (wpAny_call (uY X L0 hm ?_)))
 show wpAny _ _ (ret (Value.ref C)) _ _ _
 refine wpAny_pure ?_
 show wpAny _ _ (handedOut (Value.ref C)) _ _ _
 exact handed_on rfl (wpAny_pure h)
end
noncomputable def jD (K:Frag) (C:Addr):Bool:=findIn K (.ref C) "__getattribute__" == some (some (.builtin "BaseException.__getattribute__"))&&findIn K (.ref C) "__getattr__" == some none&&findIn K (.ref C) "__class__" == some (some (.builtin "object.__class__"))
&&specialIn K (.builtin "object.__class__") "__get__" == some (some (.builtin "getset_descriptor.__get__"))&&takesIn K (.builtin "object.__class__") == some true&&mroIn K C (.type "object") == some true
section
variable {K:Frag}{ea C:Addr}{oe:Obj}{ms:List Value}
theorem o7 {h:Heap} (X:K.In h) (e:dN K C ms=true):∃ c d cd sl,h.get? C=some ⟨c,d,.cls cd,sl⟩:=by
 unfold dN at e
 split at e
 ·rename_i dd cd sl ho
  exact ⟨_,_,_,_,X _ _ ho⟩
 ·cases e
theorem rR (e:dN K C ms=true) (q:jD K C=true) (hc:oe.cls=.ref C):KitX K (.ref ea) (.ref C) (λh=>h.get? ea=some oe) where
 ty:=λ_ _ _ he=>hc ▸ (Looks.ld he).andThen .now
 it:=λM h X _=>by
  obtain ⟨c,d,cd,sl,ho⟩:=o7 X e
  intro A' Q' E' s' k q
  unfold isType loadHead
  exact wpAny_bind (wpAny_loadPart (k _ _ ho) (wpAny_pure q))
 ne:=λh tp dd its n sl X htp=>by
  obtain ⟨c,d,cd,sl',ho⟩:=o7 X e
  refine Bool.eq_false_iff.mpr λz=>?_
  obtain rfl:C=tp:=Value.ref.inj (beq_iff_eq.mp z)
  have:=ho.symm.trans htp
  cases this
 ca:=λ{prog w A E Q s} X he k=>by
  obtain ⟨hh,g,d,t,os⟩:=s
  unfold jD at q
  simp only [Bool.and_eq_true,beq_iff_eq] at q
  exact qp X (lQ X e) he hc q.1.1.1.1.1 q.1.1.1.1.2 q.1.1.1.2 q.1.1.2 q.1.2 q.2 k
end
section
variable {X:Cx}{ea C:Addr}{oe:Obj}{ms:List Value}
theorem nS (hC:dN X.K C ms=true) (hG:jD X.K C=true) (hc:oe.cls=.ref C):bq (X.within ea oe) (.builtin "isinstance") (λus H Q=>∃ y c b,us=[.ref ea,y]/\(∀ u,ar y u->u=c)/\kitOne X.K (.ref C) c=some b/\Q (.bl b) H):=by
 intro pins s σ H xs us Q I r h
 obtain ⟨y,c,b,rfl,hy,e,q⟩:=h
 cases r with
 | cons r1 r2 =>
  cases r2 with
  | cons r3 r4 =>
   cases r4
   cases (show _=Value.ref ea from r1)
   cases hy _ r3
   have he:s.heap.get? ea=some oe:=(I.pin (ea,oe) (.head _)).1
   exact kia_one (rR hC hG hc) I.kIn he e (λz=>nomatch z) λtk=>⟨.bl b,H,I.tok tk,rfl,q⟩
end
end L2
namespace L2
open PySem PySem.Spec PyProof.Rows
open Builtin
theorem nT:fillsNumberSlot (.type "tuple") "mul"=pure false :=
 PySem.fillsNumberSlot_seq (id:="tuple.__mul__") (r:=some (.builtin "tuple.__rmul__")) F.slot_tuple_mul.lookup (by decide +kernel) F.slot_tuple_rmul.lookup (by decide +kernel)
theorem nU:seqRepeat? (.type "tuple")=pure (some (.builtin "tuple.__mul__")):=by
 unfold seqRepeat?
 rw [PySem.seqSlot_of (T:="tuple") (name:="__mul__") (id:="tuple.__mul__") F.slot_tuple_mul.lookup (by decide +kernel),PySem.seqSlot_of (T:="tuple") (name:="__rmul__") (id:="tuple.__rmul__") F.slot_tuple_rmul.lookup (by decide +kernel)]
 rfl
section
variable (l:Addr) (dd:Option Addr) (items:Array Value) (n:Nat) (sl:Array (Option Value))
theorem rS (a:Int) (t:Tok):Meets (Builtin.«int.__rmul__» ⟨[.int a t,.ref l],[]⟩) (λ_ R s=>s.heap.get? l=some ⟨.type "tuple",dd,.seq items n,sl⟩/\R (.ok (.ret Value.notImplemented)) s) :=
 .of_wp λprog w A R s h=>by
  obtain ⟨hp,g,d,tk,os⟩:=s
  obtain ⟨hl,h⟩:=h
  wp_walk
  exact ⟨_,rfl,h⟩
theorem rT (u:Tok):Meets (Builtin.«tuple.__mul__» ⟨[.ref l,.int 1 u],[]⟩) (λ_ R s=>s.heap.get? l=some ⟨.type "tuple",dd,.seq items n,sl⟩/\R (.ok (.ret (.ref l))) s) :=
 .of_wp λprog w A R s h=>by
  obtain ⟨hp,g,d,tk,os⟩:=s
  obtain ⟨hl,h⟩:=h
  unfold Builtin.«tuple.__mul__»
  k_delta "repeated"
  wp_walk
  exact ⟨_,rfl,h⟩
theorem rU (u:Tok) (he:items.isEmpty=false):Meets (Builtin.«tuple.__mul__» ⟨[.ref l,.int 0 u],[]⟩) (λ_ R s=>s.heap.get? l=some ⟨.type "tuple",dd,.seq items n,sl⟩/\R (.ok (.ret (.ref s.heap.objs.size))) { s with heap:=s.heap.push { cls:=.type "tuple",data:=.seq #[] } }) :=
 .of_wp λprog w A R s h=>by
  obtain ⟨hp,g,d,tk,os⟩:=s
  obtain ⟨hl,h⟩:=h
  have c2:(items.isEmpty || (0:Int) == 1)=false:=by
   rw [he]
   rfl
  unfold Builtin.«tuple.__mul__»
  k_delta "repeated"
  wp_walk
  exact ⟨_,rfl,h⟩
theorem rV (k:Int) (u:Tok) (h1:1 < k) (h2:k < 2 ^ 63) (he:items.isEmpty=false) (hz:items.size * k.toNat <= sizeLine) (hf:((List.replicate k.toNat items).foldl (· ++ ·) #[]).size <= sizeLine):Meets (Builtin.«tuple.__mul__» ⟨[.ref l,.int k u],[]⟩) (λ_ R s=>s.heap.get? l=some ⟨.type "tuple",dd,.seq items n,sl⟩ /\
  R (.ok (.ret (.ref s.heap.objs.size))) { s with heap:=s.heap.push { cls:=.type "tuple",data:=.seq ((List.replicate k.toNat items).foldl (· ++ ·) #[]) } }) :=
 .of_wp λprog w A R s h=>by
  obtain ⟨hp,g,d,tk,os⟩:=s
  obtain ⟨hl,h⟩:=h
  have c1:(decide (k < -(2 ^ 63)) || decide (k >= 2 ^ 63))=false:=by
   rw [decide_eq_false (by omega),decide_eq_false (by omega)]
   rfl
  have c2:(items.isEmpty || k == 1)=false:=by
   rw [he,Bool.false_or,beq_eq_false_iff_ne]
   omega
  have c3:(decide (k <= 0) || items.isEmpty)=false:=by
   rw [he,decide_eq_false (by omega)]
   rfl
  have ek:((items.size:Int) * k)=((items.size * k.toNat:Nat):Int):=by
   rw [Int.natCast_mul,Int.toNat_of_nonneg (by omega)]
  have hs:(sizeLine:Nat) <= (2 ^ 63 - 1) / 8:=by decide
  have c4:¬ ((items.size:Int) * k > (2 ^ 63 - 1) / 8):=by
   rw [ek]
   omega
  have c5:Tuple.tupleTooMany ((items.size:Int) * k)=false:=by
   unfold Tuple.tupleTooMany
   rw [ek]
   exact decide_eq_false (by omega)
  unfold Builtin.«tuple.__mul__»
  k_delta "repeated"
  wp_walk
  refine wpAny_ite_false (decide_eq_false (Bool.eq_false_iff.mp c1)) ?_
  wp_walk
  refine wpAny_ite_false (decide_eq_false (Bool.eq_false_iff.mp c2)) ?_
  wp_walk
  refine wpAny_ite_false (decide_eq_false (Bool.eq_false_iff.mp c3)) ?_
  wp_walk
  refine wpAny_ite_false (decide_eq_false c4) ?_
  wp_walk
  refine wpAny_ite_false (decide_eq_false (Bool.eq_false_iff.mp c5)) ?_
  wp_walk
  exact ⟨_,rfl,h⟩
end
section
variable {X:Cx}
theorem uZ:OpR X (binaryOp .Mult) (λx y H Q=>∃ a k xs,x=.ref a/\y=.int k/\SqT X.K H a xs/\xs ≠ []/\0 <= k/\k <= 10000/\xs.length * k.toNat <= 10000/\(k=1->Q (.ref a) H)/\(k ≠ 1->∀ p,H p=none->Q (.ref p) (upd H p (.tup (List.replicate k.toNat xs).flatten)))):=by
 intro pins s σ H x y v u Q I rx ry h
 obtain ⟨a,k,xs,rfl,rfl,sq,hne,h1,h2,hz,q1,q2⟩:=h
 cases (show v=Value.ref a from rx)
 obtain ⟨t,rfl⟩:=(show ∃ t,u=Value.int k t from ry)
 obtain ⟨its,r1,⟨⟨c1,d1,t1,l1⟩,ho,hc,n,hd⟩,_⟩:=I.tuple sq
 cases hc
 cases hd
 have hl:=r1.length
 have hie:its.toArray.isEmpty=false:=by
  cases its with
  | nil=>exact absurd (List.length_eq_zero_iff.mp hl) hne
  | cons _ _=>simp
 have road:∀ {Q':Value->Shared->Prop},wpAny (model X.prog X.w) X.A (call (.builtin "tuple.__mul__") [.ref a,.int k t]) Q' X.xe s->wpAny (model X.prog X.w) X.A (binaryOp .Mult (.ref a) (.int k t)) Q' X.xe s:=λhq =>
  wpAny_binaryOp_repeat_ref (T:="tuple") (U:="int") (by decide) ⟨_,ho,rfl⟩ (λs'=>typeIs_int s' k t) nT F.fills_int_mul F.slot_int_rmul nU F.slot_int_index.lookup
   (call_meets F.slot_int_rmul (typeIs_int s k t) F.entry_int_rmul (F.args_int_rmul_2 _ _) (rS a d1 its.toArray n l1 k t) ⟨ho,rfl,⟨_,ho,rfl⟩,hq⟩)
 by_cases e1:k=1
 ·subst e1
  exact road (call_meets F.slot_tuple_mul ⟨_,ho,rfl⟩ F.entry_tuple_mul (F.args_tuple_mul_2 _ _) (rT a d1 its.toArray n l1 t) ⟨ho,.ref a,H,I,rfl,q1 rfl⟩)
 ·have hfl:(List.replicate k.toNat xs).flatten.length <= sizeLine:=by
   rw [oS,Nat.mul_comm]
   exact Nat.le_trans hz (by decide)
  have new:∀ (ys:List Value),am (List.replicate k.toNat xs).flatten ys->EP X pins σ Q (.ref s.heap.objs.size) { s with heap:=s.heap.push { cls:=.type "tuple",data:=.seq ys.toArray } }:=λys r =>
   ⟨.ref s.heap.objs.size,_,I.laid (o:=.tup (List.replicate k.toNat xs).flatten) (t':=s.toks) (λb u e=>Heap.get?_push_of_some _ e) (Nat.le_refl _) ⟨hfl,ys,r,_,Heap.get?_push_size _ rfl,rfl,0,rfl⟩,rfl,q2 e1 _ I.fresh⟩
  by_cases e0:k=0
  ·subst e0
   exact road (call_meets F.slot_tuple_mul ⟨_,ho,rfl⟩ F.entry_tuple_mul (F.args_tuple_mul_2 _ _) (rU a d1 its.toArray n l1 t hie) ⟨ho,new [] (by simpa using Paired.nil)⟩)
  ·have hf0:(List.replicate k.toNat its.toArray).foldl (· ++ ·) #[]=(List.replicate k.toNat its).flatten.toArray:=by
    have:=kJ its k.toNat []
    rw [List.nil_append] at this
    exact this
   have hzz:its.toArray.size * k.toNat <= sizeLine:=by
    rw [List.size_toArray,<- hl]
    exact Nat.le_trans hz (by decide)
   have meets:=rV a d1 its.toArray n l1 k t (by omega) (by omega) hie hzz (by rw [hf0,List.size_toArray,oS,Nat.mul_comm,<- List.size_toArray];exact hzz)
   rw [hf0] at meets
   exact road (call_meets F.slot_tuple_mul ⟨_,ho,rfl⟩ F.entry_tuple_mul (F.args_tuple_mul_2 _ _) meets ⟨ho,new _ (r1.rep k.toNat)⟩)
end
end L2
namespace L2.Sw
open PySem PyProof.Rows
noncomputable def gal:Bool->Keyed->Array Keyed->Nat->Nat->Nat->StateT SortSt Sem (Option Nat):=sortPriv% PySem.Builtin.gallop
noncomputable def mLo:Array Keyed->Array Keyed->StateT SortSt Sem (Array Keyed):=sortPriv% PySem.Builtin.mergeLo
noncomputable def mHi:Array Keyed->Array Keyed->StateT SortSt Sem (Array Keyed):=sortPriv% PySem.Builtin.mergeHi
section
variable {prog:Program}{w:World}{A:Around}{E:Value->Shared->Prop}{s:Shared}{κ:SortKind}{P:Keyed->Prop}{st:SortSt}
noncomputable def Ask (prog:Program) (w:World) (A:Around) (s:Shared) (κ:SortKind) (P:Keyed->Prop):Prop:=∀ x y,P x->P y->∀ C:Bool->Shared->Prop,(∀ b,C b s)->wpAny (model prog w) A (keyLt' κ x.1 y.1) C (λ_ _=>False) s
noncomputable def Ok (κ:SortKind) (st:SortSt):Prop:=kindOf st=κ/\failedOf st=none
theorem w_lt (hq:Ask prog w A s κ P) {x y:Keyed}{Q:Option Bool->SortSt->Prop} (hk:Ok κ st) (hx:P x) (hy:P y) (h:∀ b,Q (some b) st):wpS (model prog w) A E s (lt' x y) Q st:=by
 rw [lt'_eq]
 refine wpS_bind (wpS_get ?_)
 have hq':wpAny (model prog w) A (keyLt' (kindOf st) x.1 y.1) (λ_ s'=>s'=s) (λ_ _=>False) s:=by
  rw [hk.1]
  exact hq x y hx hy _ λ_=>rfl
 refine wpS_bind (wpS_lift (wpAny_attempt (wpAny_mono hq' (λc s' e=>?_) λ_ _ (z:False)=>z.elim)))
 exact ⟨e,wpS_pure (h c)⟩
theorem aU {arr:Array Keyed}{i:Nat}{p:Keyed}{Q:Keyed->SortSt->Prop} (e:arr[i]?=some p) (h:Q p st):wpS (model prog w) A E s (elem' arr i) Q st:=by
 rw [elem'_eq,e]
 exact wpS_pure h
theorem eM (hq:Ask prog w A s κ P) {left:Bool}{key:Keyed}{arr:Array Keyed}{base n hint:Nat}{Q:Option Nat->SortSt->Prop} (hk:Ok κ st) (ha:∀ i,i < n->∃ p,arr[base + i]?=some p/\P p) (hp:P key) (hh:hint < n) (h:∀ k,k <= n->Q (some k) st):wpS (model prog w) A E s (gal left key arr base n hint) Q st:=by
 have bey:∀ (i:Nat) (R:Option Bool->SortSt->Prop),i < n->(∀ b,R (some b) st)->wpS (model prog w) A E s (do
   let x <- elem' arr (base + i)
   if left=true then lt' x key else do
    let r <- lt' key x
    pure (Option.map (λx=>!x) r)) R st:=λi R hi hR=>by
  obtain ⟨p,e,pp⟩:=ha i hi
  refine wpS_bind (aU e ?_)
  cases left with
  | true=>exact w_lt hq hk pp hp hR
  | false=>exact wpS_bind (w_lt hq hk hp pp λb=>wpS_pure (hR _))
 refine wpS_bind (bey hint _ hh λright=>?_)
 cases right with
 | true =>
  refine wpS_bind (wpS_mono (wpS_forRange (I:=λ_ c st'=>c.1=none/\st=st') (Q:=λc st'=>c.1=none/\st=st') ?_ (λc st' q=>q) ⟨rfl,rfl⟩) ?_)
  ·rintro i ⟨r,la,of⟩ st' _ _ ⟨rfl,rfl⟩
   dsimp only
   split
   ·exact wpS_pure ⟨rfl,rfl⟩
   ·refine wpS_bind (bey _ _ (by omega) λb=>?_)
    cases b with
    | true=>exact wpS_pure ⟨rfl,rfl⟩
    | false=>exact wpS_pure ⟨rfl,rfl⟩
  ·rintro ⟨r,la,of⟩ st' ⟨rfl,rfl⟩
   refine wpS_bind (wpS_mono (wpS_forRange (I:=λ_ c st'=>c.1=none/\c.2.2 <= n/\st=st') (Q:=λc st'=>c.1=none/\c.2.2 <= n/\st=st') ?_ (λc st' q=>q) ⟨rfl,by dsimp only;omega,rfl⟩) ?_)
   ·rintro i ⟨r,lo,hi⟩ st' _ _ ⟨rfl,h1,rfl⟩
    dsimp only at h1 ⊢
    split
    ·exact wpS_pure ⟨rfl,h1,rfl⟩
    ·refine wpS_bind (bey _ _ (by omega) λb=>?_)
     cases b with
     | true=>exact wpS_pure ⟨rfl,h1,rfl⟩
     | false=>exact wpS_pure ⟨rfl,by dsimp only;omega,rfl⟩
   ·rintro ⟨r,lo,hi⟩ st' ⟨rfl,h1,rfl⟩
    exact wpS_pure (h _ h1)
 | false =>
  refine wpS_bind (wpS_mono (wpS_forRange (I:=λ_ c st'=>c.1=none/\st=st') (Q:=λc st'=>c.1=none/\st=st') ?_ (λc st' q=>q) ⟨rfl,rfl⟩) ?_)
  ·rintro i ⟨r,la,of⟩ st' _ _ ⟨rfl,rfl⟩
   dsimp only
   split
   ·exact wpS_pure ⟨rfl,rfl⟩
   ·refine wpS_bind (bey _ _ (by omega) λb=>?_)
    cases b with
    | true=>exact wpS_pure ⟨rfl,rfl⟩
    | false=>exact wpS_pure ⟨rfl,rfl⟩
  ·rintro ⟨r,la,of⟩ st' ⟨rfl,rfl⟩
   refine wpS_bind (wpS_mono (wpS_forRange (I:=λ_ c st'=>c.1=none/\c.2.2 <= n/\st=st') (Q:=λc st'=>c.1=none/\c.2.2 <= n/\st=st') ?_ (λc st' q=>q) ⟨rfl,by dsimp only;omega,rfl⟩) ?_)
   ·rintro i ⟨r,lo,hi⟩ st' _ _ ⟨rfl,h1,rfl⟩
    dsimp only at h1 ⊢
    split
    ·exact wpS_pure ⟨rfl,h1,rfl⟩
    ·refine wpS_bind (bey _ _ (by omega) λb=>?_)
     cases b with
     | true=>exact wpS_pure ⟨rfl,h1,rfl⟩
     | false=>exact wpS_pure ⟨rfl,by dsimp only;omega,rfl⟩
   ·rintro ⟨r,lo,hi⟩ st' ⟨rfl,h1,rfl⟩
    exact wpS_pure (h _ h1)
end
end L2.Sw
namespace L2.Sw
open PySem PyProof.Rows
section
variable {prog:Program}{w:World}{A:Around}{E:Value->Shared->Prop}{s:Shared}{κ:SortKind}{P:Keyed->Prop}{st:SortSt}
noncomputable def Eqv (st st':SortSt):Prop:=kindOf st'=kindOf st/\arrOf st'=arrOf st/\pendingOf st'=pendingOf st/\failedOf st'=failedOf st
theorem Eqv.refl:Eqv st st:=⟨rfl,rfl,rfl,rfl⟩
theorem Ok.eqv {st':SortSt} (h:Ok κ st) (e:Eqv st st'):Ok κ st':=⟨e.1.trans h.1,e.2.2.2.trans h.2⟩
theorem Eqv.trans {st' st'':SortSt} (h:Eqv st st') (e:Eqv st' st''):Eqv st st'':=⟨e.1.trans h.1,e.2.1.trans h.2.1,e.2.2.1.trans h.2.2.1,e.2.2.2.trans h.2.2.2⟩
noncomputable def Al (P:Keyed->Prop) (a:Array Keyed):Prop:=∀ p ∈ a,P p
theorem Al.at {a:Array Keyed} (h:Al P a) {i:Nat} (hi:i < a.size):∃ p,a[i]?=some p/\P p:=⟨a[i],by simp [hi],h _ (Array.getElem_mem hi)⟩
theorem Al.push {a:Array Keyed}{p:Keyed} (h:Al P a) (hp:P p):Al P (a.push p):=λq hq=>by
 rcases Array.mem_push.mp hq with z|z
 ·exact h q z
 ·rw [z];exact hp
theorem Al.app {a b:Array Keyed} (h:Al P a) (h':Al P b):Al P (a ++ b):=λq hq=>(Array.mem_append.mp hq).elim (h q) (h' q)
theorem Al.ext {a:Array Keyed} (h:Al P a) (i j:Nat):Al P (a.extract i j):=λq hq=>by
 obtain ⟨k,hk,e⟩:=Array.getElem_of_mem hq
 rw [Array.getElem_extract] at e
 rw [<- e]
 exact h _ (Array.getElem_mem _)
theorem Al.rev {a:Array Keyed} (h:Al P a):Al P a.reverse:=λq hq=>h q (Array.mem_reverse.mp hq)
noncomputable def Mg (P:Keyed->Prop) (a b out:Array Keyed) (ia ib:Nat):Prop:=out.size=ia + ib/\Al P out/\ia + 1 < a.size/\ib < b.size
noncomputable def Dn (P:Keyed->Prop) (a b r:Array Keyed):Prop:=r.size=a.size + b.size/\Al P r
theorem dn1 {a b out:Array Keyed}{ia ib:Nat} (ha:Al P a) (hb:Al P b) (h1:out.size=ia + ib) (h2:Al P out) (h3:ia <= a.size) (h4:ib <= b.size):Dn P a b (out ++ a.extract ia ++ b.extract ib)/\Dn P a b (out ++ b.extract ib ++ a.extract ia):=by
 refine ⟨⟨?_,(h2.app (ha.ext _ _)).app (hb.ext _ _)⟩,?_,(h2.app (hb.ext _ _)).app (ha.ext _ _)⟩
 ·simp only [Array.size_append,Array.size_extract];omega
 ·simp only [Array.size_append,Array.size_extract];omega
theorem aX {α:Type}{c:Prop} [d:Decidable c] {m1 m2:StateT SortSt Sem α}{Q:α->SortSt->Prop} (h1:c->wpS (model prog w) A E s m1 Q st) (h2:¬ c->wpS (model prog w) A E s m2 Q st):wpS (model prog w) A E s (if c then m1 else m2) Q st:=by
 cases d with
 | isTrue z=>exact h1 z
 | isFalse z=>exact h2 z
theorem cx {α:Type}{x y:Nat}{m1 m2:StateT SortSt Sem α}{Q:α->SortSt->Prop} (h1:x=y->wpS (model prog w) A E s m1 Q st) (h2:x ≠ y->wpS (model prog w) A E s m2 Q st):wpS (model prog w) A E s (if (x == y)=true then m1 else m2) Q st :=
 aX (λz=>h1 (beq_iff_eq.mp z)) λz=>h2 λe=>z (beq_iff_eq.mpr e)
theorem o8 {g:Nat}{Q:PUnit->SortSt->Prop} (h:∀ st',Eqv st st'->Q ⟨⟩ st'):wpS (model prog w) A E s ((sortPriv% PySem.Builtin.setMinGallop) g) Q st:=wpS_modify (h _ ⟨rfl,rfl,rfl,rfl⟩)
theorem Bh {b o:Array Keyed}{ka kb k:Nat} (hb:Al P b) (h1:o.size=ka + kb) (h2:Al P o) (hk:k <= b.size - kb):(o ++ b.extract kb (kb + k)).size=ka + (kb + k)/\Al P (o ++ b.extract kb (kb + k)):=by
 refine ⟨?_,h2.app (hb.ext _ _)⟩
 simp only [Array.size_append,Array.size_extract];omega
theorem nd {a b o:Array Keyed}{ka kb m:Nat}{p:Keyed} (h5:m <= o.size) (h1:o.size=ka + kb) (h2:Al P o) (h3:ka + 1 < a.size) (h4:kb < b.size) (hp:P p):(o.push p).size=ka + 1 + kb/\Al P (o.push p)/\(ka + 1 + 1 ≠ a.size->Mg P a b (o.push p) (ka + 1) kb)/\m <= (o.push p).size:=by
 have e:(o.push p).size=ka + 1 + kb:=by rw [Array.size_push];omega
 exact ⟨e,h2.push hp,λz=>⟨e,h2.push hp,by omega,h4⟩,by omega⟩
theorem zx (hq:Ask prog w A s κ P) {a b:Array Keyed}{Q:Array Keyed->SortSt->Prop} (hk:Ok κ st) (ha:Al P a) (hb:Al P b) (h1:1 <= a.size) (h2:1 <= b.size) (h:∀ out st',Dn P a b out->Eqv st st'->Q out st'):wpS (model prog w) A E s (mLo a b) Q st:=by
 refine wpS_bind (wpS_lift (wpAny_rule ⟨rfl,?_⟩))
 obtain ⟨p0,e0,pp0⟩:=hb.at (i:=0) (by omega)
 refine wpS_bind (aU e0 ?_)
 have m0:Al P #[p0]:=λq hq=>by
  rw [Array.mem_singleton.mp hq];exact pp0
 refine cx (λ_=>wpS_pure (h _ _ (dn1 (ia:=0) (ib:=1) ha hb rfl m0 (by omega) (by omega)).1 .refl)) λn1=>?_
 refine cx (λ_=>wpS_pure (h _ _ (dn1 (ia:=0) (ib:=1) ha hb rfl m0 (by omega) (by omega)).2 .refl)) λn2=>?_
 refine wpS_bind (wpS_get ?_)
 refine wpS_bind (wpS_mono (wpS_forRange (I:=λi c st'=>c.1=none/\Mg P a b c.2.1 c.2.2.1 c.2.2.2.1/\i + 1 <= c.2.1.size/\Eqv st st') (Q:=λc st'=>(∃ r,c.1=some r/\Dn P a b r)/\Eqv st st') ?_ ?_ ⟨rfl,(show Mg P a b #[p0] 0 1 from ⟨rfl,m0,by omega,by omega⟩),Nat.le_refl 1,.refl⟩) ?_)
 ·rintro i ⟨r,out,ia,ib,mg⟩ st1 _ hi ⟨rfl,hM,hsz,he⟩
  dsimp only at hM hsz
  refine wpS_bind (wpS_mono (wpS_forRange (I:=λj c st'=>c.1=none/\Mg P a b c.2.1 c.2.2.1 c.2.2.2.1/\out.size + min j 1 <= c.2.1.size/\st1=st') (Q:=λc st'=>((∃ r,c.1=some r/\Dn P a b r) \/ (c.1=none/\Mg P a b c.2.1 c.2.2.1 c.2.2.2.1/\out.size + 1 <= c.2.1.size))/\st1=st') ?_ (λc st' q=>⟨.inr ⟨q.1,q.2.1,by have:=q.2.2.1;omega⟩,q.2.2.2⟩) ⟨rfl,hM,by dsimp only;omega,rfl⟩) ?_)
  ·rintro j ⟨r,o1,ja,jb,ac,bc⟩ st2 _ hj ⟨rfl,⟨q1,q2,q3,q4⟩,q5,rfl⟩
   dsimp only at q1 q2 q3 q4 q5
   obtain ⟨pb,eb,ppb⟩:=hb.at q4
   obtain ⟨pa,ea,ppa⟩:=ha.at (i:=ja) (by omega)
   refine wpS_bind (aU eb (wpS_bind (aU ea (wpS_bind (w_lt hq (hk.eqv he) ppb ppa λc=>?_)))))
   cases c with
   | true =>
    refine wpS_bind (aU eb ?_)
    have s1:(o1.push pb).size=ja + (jb + 1):=by rw [Array.size_push];omega
    refine cx (λ_=>wpS_pure ⟨.inl ⟨_,rfl,(dn1 ha hb s1 (q2.push ppb) (by omega) (by omega)).1⟩,rfl⟩) λz=>?_
    have z:jb + 1 ≠ b.size:=z
    have m1:Mg P a b (o1.push pb) ja (jb + 1):=⟨s1,q2.push ppb,q3,by omega⟩
    have f1:out.size + 1 <= (o1.push pb).size:=by omega
    have f2:out.size + min (j + 1) 1 <= (o1.push pb).size:=by omega
    exact aX (λ_=>wpS_pure ⟨.inr ⟨rfl,m1,f1⟩,rfl⟩) λ_=>wpS_pure ⟨rfl,m1,f2,rfl⟩
   | false =>
    refine wpS_bind (aU ea ?_)
    have s1:(o1.push pa).size=(ja + 1) + jb:=by rw [Array.size_push];omega
    refine cx (λ_=>wpS_pure ⟨.inl ⟨_,rfl,(dn1 ha hb s1 (q2.push ppa) (by omega) (by omega)).2⟩,rfl⟩) λz=>?_
    have z:ja + 1 + 1 ≠ a.size:=z
    have m1:Mg P a b (o1.push pa) (ja + 1) jb:=⟨s1,q2.push ppa,by omega,q4⟩
    have f1:out.size + 1 <= (o1.push pa).size:=by omega
    have f2:out.size + min (j + 1) 1 <= (o1.push pa).size:=by omega
    exact aX (λ_=>wpS_pure ⟨.inr ⟨rfl,m1,f1⟩,rfl⟩) λ_=>wpS_pure ⟨rfl,m1,f2,rfl⟩
  rintro ⟨r,o1,ja,jb,ac,bc⟩ st2 ⟨(⟨r',er,dr⟩|⟨er,hM1,hs1⟩),rfl⟩
  ·dsimp only at er
   subst er
   exact wpS_pure ⟨⟨r',rfl,dr⟩,he⟩
  dsimp only at er hM1 hs1
  subst er
  dsimp only
  refine wpS_bind (wpS_lift (wpAny_rule ⟨rfl,?_⟩))
  refine wpS_bind (wpS_mono (wpS_forRange (I:=λj c st'=>c.1=none/\Mg P a b c.2.1 c.2.2.1 c.2.2.2.1/\o1.size <= c.2.1.size/\Eqv st st') (Q:=λc st'=>((∃ r,c.1=some r/\Dn P a b r) \/ (c.1=none/\Mg P a b c.2.1 c.2.2.1 c.2.2.2.1/\o1.size <= c.2.1.size))/\Eqv st st') ?_ (λc st' q=>⟨.inr ⟨q.1,q.2.1,q.2.2.1⟩,q.2.2.2⟩) ⟨rfl,hM1,Nat.le_refl _,he⟩) ?_)
  ·rintro j ⟨r,o2,ka,kb,mg2,ac2,bc2⟩ st3 _ hj ⟨rfl,⟨q1,q2,q3,q4⟩,q5,he3⟩
   dsimp only at q1 q2 q3 q4 q5
   obtain ⟨pb,eb,ppb⟩:=hb.at q4
   have ask:∀ (st4:SortSt) (R:Option Nat->SortSt->Prop),Eqv st st4->(∀ k,k <= a.size - ka->R (some k) st4)->wpS (model prog w) A E s (gal false pb a ka (a.size - ka) 0) R st4:=λst4 R e4 hR=>eM hq (hk.eqv e4) (λi hi=>ha.at (by omega)) ppb (by omega) hR
   have half:∀ (o3:Array Keyed) (ka3:Nat) (st4:SortSt),o3.size=ka3 + kb->Al P o3->ka3 + 1 < a.size->o1.size <= o3.size->Eqv st st4->(o3.push pb).size=ka3 + (kb + 1)/\Al P (o3.push pb)/\(kb + 1 ≠ b.size->∃ pa,a[ka3]?=some pa/\P pa/\∀ (R:Option Nat->SortSt->Prop),(∀ k,k <= b.size - (kb + 1)->R (some k) st4)->wpS (model prog w) A E s (gal true pa b (kb + 1) (b.size - (kb + 1)) 0) R st4):=λo3 ka3 st4 c1 c2 c3 c4 c5=>by
    refine ⟨by rw [Array.size_push];omega,c2.push ppb,λz=>?_⟩
    obtain ⟨pa,ea,ppa⟩:=ha.at (i:=ka3) (by omega)
    exact ⟨pa,ea,ppa,λR hR=>eM hq (hk.eqv c5) (λi hi=>hb.at (by omega)) ppa (by omega) hR⟩
   have cl:∀ k,k > 0->k <= a.size - ka->ka + k + 1 ≠ a.size->ka + k ≠ a.size->(o2 ++ a.extract ka (ka + k)).size=ka + k + kb/\Al P (o2 ++ a.extract ka (ka + k))/\ka + k + 1 < a.size/\o1.size <= (o2 ++ a.extract ka (ka + k)).size:=λk k0 k1 z1 z2=>by
    have e:(o2 ++ a.extract ka (ka + k)).size=ka + k + kb:=by simp only [Array.size_append,Array.size_extract];omega
    exact ⟨e,q2.app (ha.ext _ _),by omega,by omega⟩
   have cs:∀ k,k <= a.size - ka->(o2 ++ a.extract ka (ka + k)).size=ka + k + kb:=λk k1=>by simp only [Array.size_append,Array.size_extract];omega
   refine aX (λ_=>?_) λ_=>?_
   all_goals
    refine wpS_bind (o8 λst4 e4=>wpS_bind (aU eb (wpS_bind (ask st4 _ (he3.trans e4) λk hk'=>?_))))
    have e5:=he3.trans e4
    refine aX (λk0=>cx (λ_=>wpS_pure ⟨.inl ⟨_,rfl,(dn1 ha hb (cs k hk') (q2.app (ha.ext _ _)) (by omega) (by omega)).2⟩,e5⟩) λ(z1:ka + k + 1 ≠ a.size)=>cx (λ_=>wpS_pure ⟨.inl ⟨_,rfl,(dn1 ha hb (cs k hk') (q2.app (ha.ext _ _)) (by omega) (by omega)).1⟩,e5⟩) λ(z2:ka + k ≠ a.size)=>have cc:=cl k k0 hk' z1 z2;?_) λk0=>have cc:o2.size=ka + kb/\Al P o2/\ka + 1 < a.size/\o1.size <= o2.size:=⟨q1,q2,q3,q5⟩;?_
    all_goals
     obtain ⟨c1,c2,c3,c4⟩:=cc
     obtain ⟨d1,d2,d3⟩:=half _ _ st4 c1 c2 c3 c4 e5
     refine wpS_bind (aU eb ?_)
     refine cx (λ_=>wpS_pure ⟨.inl ⟨_,rfl,(dn1 ha hb d1 d2 (by omega) (by omega)).1⟩,e5⟩) λ(z:kb + 1 ≠ b.size)=>?_
     obtain ⟨pa,ea,ppa,d4⟩:=d3 z
     refine wpS_bind (aU ea (wpS_bind (d4 _ λk2 hk2=>?_)))
     have f1:=Bh hb d1 d2 (k:=k2) (by omega)
     refine aX (λj0=>cx (λ_=>wpS_pure ⟨.inl ⟨_,rfl,(dn1 ha hb f1.1 f1.2 (by omega) (by omega)).1⟩,e5⟩) λ(z3:kb + 1 + k2 ≠ b.size)=>have n0:=nd (a:=a) (b:=b) (m:=o1.size) (by omega) f1.1 f1.2 c3 (by omega) ppa;?_) λj0=>have n0:=nd (a:=a) (b:=b) (m:=o1.size) (by omega) d1 d2 c3 (by omega) ppa;?_
     all_goals
      obtain ⟨n1,n2,n3,n4⟩:=n0
      refine wpS_bind (aU ea ?_)
      refine cx (λ_=>wpS_pure ⟨.inl ⟨_,rfl,(dn1 ha hb n1 n2 (by omega) (by omega)).2⟩,e5⟩) λz4=>?_
      exact aX (λ_=>wpS_pure ⟨.inr ⟨rfl,n3 z4,n4⟩,e5⟩) λ_=>wpS_pure ⟨rfl,n3 z4,n4,e5⟩
  rintro ⟨r,o2,ka,kb,mg2,ac2,bc2⟩ st3 ⟨(⟨r',er,dr⟩|⟨er,hM2,hs2⟩),he3⟩
  ·dsimp only at er
   subst er
   exact wpS_pure ⟨⟨r',rfl,dr⟩,he3⟩
  dsimp only at er hM2 hs2
  subst er
  refine wpS_bind (o8 λst4 e4=>wpS_pure ⟨rfl,hM2,?_,he3.trans e4⟩)
  show i + 1 + 1 <= o2.size
  omega
 ·rintro ⟨r,out,ia,ib,mg⟩ st1 ⟨rfl,⟨q1,q2,q3,q4⟩,hs,he⟩
  dsimp only at q1 q3 q4 hs
  omega
 ·rintro ⟨r,out,ia,ib,mg⟩ st1 ⟨⟨r',er,dr⟩,he⟩
  dsimp only at er
  subst er
  exact wpS_pure (h _ _ dr he)
end
end L2.Sw
namespace L2.Sw
open PySem PyProof.Rows
section
variable {prog:Program}{w:World}{A:Around}{E:Value->Shared->Prop}{s:Shared}{κ:SortKind}{P:Keyed->Prop}{st:SortSt}
noncomputable def Mh (P:Keyed->Prop) (a b out:Array Keyed) (na nb:Nat):Prop:=out.size + na + nb=a.size + b.size/\Al P out/\1 <= na/\2 <= nb/\na <= a.size/\nb <= b.size
theorem dh {a b out:Array Keyed}{na nb:Nat} (ha:Al P a) (hb:Al P b) (h1:out.size + na + nb=a.size + b.size) (h2:Al P out) (h3:na <= a.size) (h4:nb <= b.size):Dn P a b (a.extract 0 na ++ b.extract 0 nb ++ out.reverse)/\Dn P a b (b.extract 0 nb ++ a.extract 0 na ++ out.reverse):=by
 refine ⟨⟨?_,((ha.ext _ _).app (hb.ext _ _)).app h2.rev⟩,?_,((hb.ext _ _).app (ha.ext _ _)).app h2.rev⟩
 ·simp only [Array.size_append,Array.size_extract,Array.size_reverse];omega
 ·simp only [Array.size_append,Array.size_extract,Array.size_reverse];omega
theorem ha1 {a b o:Array Keyed}{na nb m:Nat}{p:Keyed} (h5:m <= o.size) (h1:o.size + na + nb=a.size + b.size) (h2:Al P o) (hn:1 <= na) (hp:P p):(o.push p).size + (na - 1) + nb=a.size + b.size/\Al P (o.push p)/\m + 1 <= (o.push p).size:=by
 have e:(o.push p).size=o.size + 1:=Array.size_push ..
 exact ⟨by omega,h2.push hp,by omega⟩
theorem hb1 {a b o:Array Keyed}{na nb m:Nat}{p:Keyed} (h5:m <= o.size) (h1:o.size + na + nb=a.size + b.size) (h2:Al P o) (hn:1 <= nb) (hp:P p):(o.push p).size + na + (nb - 1)=a.size + b.size/\Al P (o.push p)/\m + 1 <= (o.push p).size:=by
 have e:(o.push p).size=o.size + 1:=Array.size_push ..
 exact ⟨by omega,h2.push hp,by omega⟩
theorem hx {c o:Array Keyed}{t n k m:Nat} (hc:Al P c) (h5:m <= o.size) (h1:o.size + n=t) (h2:Al P o) (hk:k <= n) (hn:n <= c.size):(o ++ (c.extract k n).reverse).size + k=t/\Al P (o ++ (c.extract k n).reverse)/\m <= (o ++ (c.extract k n).reverse).size:=by
 have e:(o ++ (c.extract k n).reverse).size=o.size + (n - k):=by simp only [Array.size_append,Array.size_extract,Array.size_reverse];omega
 exact ⟨by omega,h2.app (hc.ext _ _).rev,by omega⟩
theorem zy (hq:Ask prog w A s κ P) {a b:Array Keyed}{Q:Array Keyed->SortSt->Prop} (hk:Ok κ st) (ha:Al P a) (hb:Al P b) (h1:1 <= a.size) (h2:1 <= b.size) (h:∀ out st',Dn P a b out->Eqv st st'->Q out st'):wpS (model prog w) A E s (mHi a b) Q st:=by
 refine wpS_bind (wpS_lift (wpAny_rule ⟨rfl,?_⟩))
 obtain ⟨p0,e0,pp0⟩:=ha.at (i:=a.size - 1) (by omega)
 refine wpS_bind (aU e0 ?_)
 have m0:Al P #[p0]:=λq hq=>by
  rw [Array.mem_singleton.mp hq];exact pp0
 have z0:(#[p0]:Array Keyed).size + (a.size - 1) + b.size=a.size + b.size:=by show 1 + _ + _=_;omega
 refine cx (λ_=>wpS_pure (h _ _ (dh ha hb z0 m0 (by omega) (by omega)).1 .refl)) λn1=>?_
 refine cx (λ_=>wpS_pure (h _ _ (dh ha hb z0 m0 (by omega) (by omega)).2 .refl)) λn2=>?_
 refine wpS_bind (wpS_get ?_)
 refine wpS_bind (wpS_mono (wpS_forRange (I:=λi c st'=>c.1=none/\Mh P a b c.2.2.2.1 c.2.1 c.2.2.1/\i + 1 <= c.2.2.2.1.size/\Eqv st st') (Q:=λc st'=>(∃ r,c.1=some r/\Dn P a b r)/\Eqv st st') ?_ ?_ ⟨rfl,(show Mh P a b #[p0] (a.size - 1) b.size from ⟨z0,m0,by omega,by omega,by omega,by omega⟩),Nat.le_refl 1,.refl⟩) ?_)
 ·rintro i ⟨r,na,nb,out,mg⟩ st1 _ hi ⟨rfl,hM,hsz,he⟩
  dsimp only at hM hsz
  refine wpS_bind (wpS_mono (wpS_forRange (I:=λj c st'=>c.1=none/\Mh P a b c.2.2.2.1 c.2.1 c.2.2.1/\out.size + min j 1 <= c.2.2.2.1.size/\st1=st') (Q:=λc st'=>((∃ r,c.1=some r/\Dn P a b r) \/ (c.1=none/\Mh P a b c.2.2.2.1 c.2.1 c.2.2.1/\out.size + 1 <= c.2.2.2.1.size))/\st1=st') ?_ (λc st' q=>⟨.inr ⟨q.1,q.2.1,by have:=q.2.2.1;omega⟩,q.2.2.2⟩) ⟨rfl,hM,by dsimp only;omega,rfl⟩) ?_)
  ·rintro j ⟨r,ja,jb,o1,ac,bc⟩ st2 _ hj ⟨rfl,⟨q1,q2,q3,q4,q5,q6⟩,q7,rfl⟩
   dsimp only at q1 q2 q3 q4 q5 q6 q7
   obtain ⟨pb,eb,ppb⟩:=hb.at (i:=jb - 1) (by omega)
   obtain ⟨pa,ea,ppa⟩:=ha.at (i:=ja - 1) (by omega)
   refine wpS_bind (aU eb (wpS_bind (aU ea (wpS_bind (w_lt hq (hk.eqv he) ppb ppa λc=>?_)))))
   cases c with
   | true =>
    refine wpS_bind (aU ea ?_)
    obtain ⟨s1,s2,s3⟩:=ha1 (m:=out.size) (by omega) q1 q2 q3 ppa
    refine cx (λ_=>wpS_pure ⟨.inl ⟨_,rfl,(dh ha hb s1 s2 (by omega) (by omega)).1⟩,rfl⟩) λ(z:ja - 1 ≠ 0)=>?_
    have m1:Mh P a b (o1.push pa) (ja - 1) jb:=⟨s1,s2,by omega,q4,by omega,q6⟩
    have f2:out.size + min (j + 1) 1 <= (o1.push pa).size:=by omega
    exact aX (λ_=>wpS_pure ⟨.inr ⟨rfl,m1,s3⟩,rfl⟩) λ_=>wpS_pure ⟨rfl,m1,f2,rfl⟩
   | false =>
    refine wpS_bind (aU eb ?_)
    obtain ⟨s1,s2,s3⟩:=hb1 (m:=out.size) (by omega) q1 q2 (by omega) ppb
    refine cx (λ_=>wpS_pure ⟨.inl ⟨_,rfl,(dh ha hb s1 s2 (by omega) (by omega)).2⟩,rfl⟩) λ(z:jb - 1 ≠ 1)=>?_
    have m1:Mh P a b (o1.push pb) ja (jb - 1):=⟨s1,s2,q3,by omega,q5,by omega⟩
    have f2:out.size + min (j + 1) 1 <= (o1.push pb).size:=by omega
    exact aX (λ_=>wpS_pure ⟨.inr ⟨rfl,m1,s3⟩,rfl⟩) λ_=>wpS_pure ⟨rfl,m1,f2,rfl⟩
  rintro ⟨r,ja,jb,o1,ac,bc⟩ st2 ⟨(⟨r',er,dr⟩|⟨er,hM1,hs1⟩),rfl⟩
  ·dsimp only at er
   subst er
   exact wpS_pure ⟨⟨r',rfl,dr⟩,he⟩
  dsimp only at er hM1 hs1
  subst er
  refine wpS_bind (wpS_lift (wpAny_rule ⟨rfl,?_⟩))
  refine wpS_bind (wpS_mono (wpS_forRange (I:=λj c st'=>c.1=none/\Mh P a b c.2.2.2.1 c.2.1 c.2.2.1/\o1.size <= c.2.2.2.1.size/\Eqv st st') (Q:=λc st'=>((∃ r,c.1=some r/\Dn P a b r) \/ (c.1=none/\Mh P a b c.2.2.2.1 c.2.1 c.2.2.1/\o1.size <= c.2.2.2.1.size))/\Eqv st st') ?_ (λc st' q=>⟨.inr ⟨q.1,q.2.1,q.2.2.1⟩,q.2.2.2⟩) ⟨rfl,hM1,Nat.le_refl _,he⟩) ?_)
  ·rintro j ⟨r,ka,kb,o2,mg2,ac2,bc2⟩ st3 _ hj ⟨rfl,⟨q1,q2,q3,q4,q5,q6⟩,q7,he3⟩
   dsimp only at q1 q2 q3 q4 q5 q6 q7
   obtain ⟨pb,eb,ppb⟩:=hb.at (i:=kb - 1) (by omega)
   refine aX (λ_=>?_) λ_=>?_
   all_goals
    refine wpS_bind (o8 λst4 e4=>wpS_bind (aU eb (wpS_bind (eM hq (hk.eqv (he3.trans e4)) (λi (hi:i < ka)=>by rw [Nat.zero_add];exact ha.at (by omega)) ppb (show ka - 1 < ka by omega) λk (hk':k <= ka)=>?_))))
    have e5:=he3.trans e4
    have g1:=hx (k:=k) (n:=ka) (t:=a.size + b.size - kb) ha q7 (by omega) q2 hk' q5
    refine aX (λk0=>cx (λ_=>wpS_pure ⟨.inl ⟨_,rfl,(dh ha hb (show _ + k + kb=_ by omega) g1.2.1 (by omega) (by omega)).1⟩,e5⟩) λ(z1:k ≠ 0)=>have cc:(o2 ++ (a.extract k ka).reverse).size + k + kb=a.size + b.size/\Al P (o2 ++ (a.extract k ka).reverse)/\1 <= k/\k <= a.size/\o1.size <= (o2 ++ (a.extract k ka).reverse).size:=⟨by omega,g1.2.1,by omega,by omega,g1.2.2⟩;?_) λk0=>have cc:o2.size + ka + kb=a.size + b.size/\Al P o2/\1 <= ka/\ka <= a.size/\o1.size <= o2.size:=⟨q1,q2,q3,q5,q7⟩;?_
    all_goals
     obtain ⟨c1,c2,c3,c4,c5⟩:=cc
     obtain ⟨d1,d2,d3⟩:=hb1 c5 c1 c2 (by omega) ppb
     refine wpS_bind (aU eb ?_)
     refine cx (λ_=>wpS_pure ⟨.inl ⟨_,rfl,(dh ha hb d1 d2 (by omega) (by omega)).2⟩,e5⟩) λ(z:kb - 1 ≠ 1)=>?_
     obtain ⟨pa,ea,ppa⟩:=ha.at (show _ - 1 < a.size from Nat.lt_of_lt_of_le (Nat.sub_lt c3 Nat.one_pos) c4)
     refine wpS_bind (aU ea (wpS_bind (eM hq (hk.eqv e5) (λi (hi:i < kb - 1)=>by rw [Nat.zero_add];exact hb.at (by omega)) ppa (show kb - 1 - 1 < kb - 1 by omega) λk2 (hk2:k2 <= kb - 1)=>?_)))
     have g2:=hx (c:=b) (k:=k2) (n:=kb - 1) hb (Nat.le_of_succ_le d3) rfl d2 hk2 (by omega)
     refine aX (λj0=>cx (λ_=>wpS_pure ⟨.inl ⟨_,rfl,(dh ha hb (by omega) g2.2.1 c4 (by omega)).2⟩,e5⟩) λ(z3:k2 ≠ 1)=>cx (λ_=>wpS_pure ⟨.inl ⟨_,rfl,(dh ha hb (by omega) g2.2.1 c4 (by omega)).1⟩,e5⟩) λ(z4:k2 ≠ 0)=>have n0:=ha1 (a:=a) (b:=b) (nb:=k2) g2.2.2 (by omega) g2.2.1 c3 ppa;have n9:2 <= k2/\k2 <= b.size:=⟨by omega,by omega⟩;?_) λj0=>have n0:=ha1 (a:=a) (b:=b) (Nat.le_of_succ_le d3) d1 d2 c3 ppa;have n9:2 <= kb - 1/\kb - 1 <= b.size:=⟨by omega,by omega⟩;?_
     all_goals
      obtain ⟨n1,n2,n3⟩:=n0
      have n3:=Nat.le_of_succ_le n3
      refine wpS_bind (aU ea ?_)
      refine cx (λ_=>wpS_pure ⟨.inl ⟨_,rfl,(dh ha hb n1 n2 (Nat.le_trans (Nat.sub_le _ _) c4) n9.2).1⟩,e5⟩) λz5=>?_
      have m1:Mh P a b _ _ _:=⟨n1,n2,Nat.one_le_iff_ne_zero.mpr z5,n9.1,Nat.le_trans (Nat.sub_le _ _) c4,n9.2⟩
      exact aX (λ_=>wpS_pure ⟨.inr ⟨rfl,m1,n3⟩,e5⟩) λ_=>wpS_pure ⟨rfl,m1,n3,e5⟩
  rintro ⟨r,ka,kb,o2,mg2,ac2,bc2⟩ st3 ⟨(⟨r',er,dr⟩|⟨er,hM2,hs2⟩),he3⟩
  ·dsimp only at er
   subst er
   exact wpS_pure ⟨⟨r',rfl,dr⟩,he3⟩
  dsimp only at er hM2 hs2
  subst er
  refine wpS_bind (o8 λst4 e4=>wpS_pure ⟨rfl,hM2,?_,he3.trans e4⟩)
  show i + 1 + 1 <= o2.size
  omega
 ·rintro ⟨r,na,nb,out,mg⟩ st1 ⟨rfl,⟨q1,q2,q3,q4,q5,q6⟩,hs,he⟩
  dsimp only at q1 q3 q4 hs
  omega
 ·rintro ⟨r,na,nb,out,mg⟩ st1 ⟨⟨r',er,dr⟩,he⟩
  dsimp only at er
  subst er
  exact wpS_pure (h _ _ dr he)
end
end L2.Sw
namespace L2.Sw
open PySem PyProof.Rows
section
variable {prog:Program}{w:World}{A:Around}{E:Value->Shared->Prop}{s:Shared}{κ:SortKind}{P:Keyed->Prop}{st:SortSt}{N:Nat}
noncomputable def Wb (κ:SortKind) (P:Keyed->Prop) (N:Nat) (st:SortSt):Prop:=Ok κ st/\(arrOf st).size=N/\Al P (arrOf st)
noncomputable def Wp (κ:SortKind) (P:Keyed->Prop) (N:Nat) (st st':SortSt):Prop:=Wb κ P N st'/\pendingOf st'=pendingOf st
theorem Wp.refl (h:Wb κ P N st):Wp κ P N st st:=⟨h,rfl⟩
theorem Wp.trans {st' st'':SortSt} (h:Wp κ P N st st') (h':Wp κ P N st' st''):Wp κ P N st st'':=⟨h'.1,h'.2.trans h.2⟩
theorem Wb.perm {xs:Array Keyed} (h:Wb κ P N st) (hp:xs.Perm (arrOf st)):Wp κ P N st (setArr st xs) :=
 ⟨⟨h.1,hp.size_eq.trans h.2.1,λp hp'=>h.2.2 p (hp.mem_iff.mp hp')⟩,rfl⟩
theorem iw (hq:Ask prog w A s κ P) {i j:Nat}{Q:Option Bool->SortSt->Prop} (hB:Wb κ P N st) (hi:i < N) (hj:j < N) (h:∀ b,Q (some b) st):wpS (model prog w) A E s (ltAt' i j) Q st:=by
 rw [ltAt'_eq]
 obtain ⟨p,e1,h1⟩:=hB.2.2.at (i:=i) (by rw [hB.2.1];exact hi)
 obtain ⟨p',e2,h2⟩:=hB.2.2.at (i:=j) (by rw [hB.2.1];exact hj)
 exact wpS_bind (wpS_get (wpS_bind (aU e1 (wpS_bind (aU e2 (w_lt hq hB.1 h1 h2 h))))))
theorem w_rev {i j:Nat}{Q:Unit->SortSt->Prop} (hB:Wb κ P N st) (h:∀ st',Wp κ P N st st'->Q () st'):wpS (model prog w) A E s (reverseSlice' i j) Q st:=by
 rw [reverseSlice'_eq]
 exact wpS_modify (h _ (hB.perm (mirror_perm _ _ _ _)))
theorem xj {i j:Nat}{Q:Unit->SortSt->Prop} (hB:Wb κ P N st) (h:∀ st',Wp κ P N st st'->Q () st'):wpS (model prog w) A E s (moveDown' i j) Q st:=by
 rw [moveDown'_eq]
 exact wpS_modify (h _ (hB.perm (bubble_perm _ _ _)))
theorem u0 (hq:Ask prog w A s κ P) {lo nrem:Nat}{Q:Option Nat->SortSt->Prop} (hB:Wb κ P N st) (h1:1 <= nrem) (hn:lo + nrem <= N) (h:∀ m st',1 <= m->m <= nrem->Wp κ P N st st'->Q (some m) st'):wpS (model prog w) A E s (countRun' lo nrem) Q st:=by
 refine wpS_bind (wpS_mono (wpS_forRange (I:=λi c st'=>c.1=none/\c.2=i/\st=st') (Q:=λc st'=>c.1=none/\1 <= c.2/\c.2 <= nrem/\st=st') ?_ (λc st' q=>⟨q.1,by have:=q.2.1;omega,by have:=q.2.1;omega,q.2.2⟩) ⟨rfl,rfl,rfl⟩) ?_)
 ·rintro i ⟨r,n⟩ st' hi1 hi ⟨rfl,rfl,rfl⟩
  refine wpS_bind (iw hq hB (show lo + n < N by omega) (show lo + n - 1 < N by omega) λb=>?_)
  cases b with
  | true=>exact wpS_pure ⟨rfl,hi1,Nat.le_of_lt hi,rfl⟩
  | false=>exact wpS_pure ⟨rfl,rfl,rfl⟩
 rintro ⟨r,n⟩ st' ⟨rfl,n1,n2,rfl⟩
 dsimp only at n1 n2
 refine cx (λ_=>wpS_pure (h n st n1 n2 (.refl hB))) λ(z:n ≠ nrem)=>?_
 refine aX (λn0=>wpS_bind (iw hq hB (show lo < N by omega) (show lo + n - 1 < N by omega) λb=>aX (λ_=>wpS_pure (h n st n1 n2 (.refl hB))) λ_=>wpS_bind (w_rev hB λst1 hw=>?_))) λn0=>have hw:Wp κ P N st st:=.refl hB;?_
 all_goals
  refine wpS_bind (wpS_lift (wpAny_rule ⟨rfl,?_⟩))
  refine wpS_bind (wpS_mono (wpS_forRange (I:=λi c st'=>c.1=none/\c.2.1=i/\Wp κ P N st st') (Q:=λc st'=>c.1=none/\n + 1 <= c.2.1/\c.2.1 <= nrem/\Wp κ P N st st') ?_ (λc st' q=>⟨q.1,by have:c.2.1=max (n + 1) nrem:=q.2.1;omega,by have:c.2.1=max (n + 1) nrem:=q.2.1;omega,q.2.2⟩) ⟨rfl,rfl,hw⟩) ?_)
  ·rintro i ⟨r,m,q⟩ st2 (hi1:n + 1 <= i) (hi:i < nrem) ⟨rfl,rfl,hw2⟩
   dsimp only at hi1 hi
   refine wpS_bind (iw hq hw2.1 (show lo + m < N by omega) (show lo + m - 1 < N by omega) λb=>?_)
   refine aX (λ_=>aX (λ_=>wpS_bind (w_rev hw2.1 λst3 h3=>wpS_pure ⟨rfl,rfl,hw2.trans h3⟩)) λ_=>wpS_pure ⟨rfl,rfl,hw2⟩) λ_=>?_
   refine wpS_bind (iw hq hw2.1 (show lo + m - 1 < N by omega) (show lo + m < N by omega) λb=>?_)
   exact aX (λ_=>wpS_pure ⟨rfl,hi1,Nat.le_of_lt hi,hw2⟩) λ_=>wpS_pure ⟨rfl,rfl,hw2⟩
  rintro ⟨r,m,q⟩ st2 ⟨rfl,m1,m2,hw2⟩
  dsimp only at m1 m2
  refine aX (λ_=>wpS_bind (w_rev hw2.1 λst3 h3=>have hw3:=hw2.trans h3;?_)) λ_=>have hw3:=hw2;?_
  all_goals
   refine wpS_bind (w_rev hw3.1 λst4 h4=>?_)
   have hw4:=hw3.trans h4
   refine wpS_bind (wpS_mono (wpS_forRange (I:=λi c st'=>c.1=none/\c.2=i/\st4=st') (Q:=λc st'=>c.1=none/\1 <= c.2/\c.2 <= nrem/\st4=st') ?_ (λc st' q=>⟨q.1,by have:c.2=max m nrem:=q.2.1;omega,by have:c.2=max m nrem:=q.2.1;omega,q.2.2⟩) ⟨rfl,rfl,rfl⟩) ?_)
   ·rintro i ⟨r,m'⟩ st5 (hi1:m <= i) (hi:i < nrem) ⟨rfl,rfl,rfl⟩
    dsimp only at hi1 hi
    refine wpS_bind (iw hq hw4.1 (show lo + m' < N by omega) (show lo + m' - 1 < N by omega) λb=>?_)
    exact aX (λ_=>wpS_pure ⟨rfl,by dsimp only;omega,Nat.le_of_lt hi,rfl⟩) λ_=>wpS_pure ⟨rfl,rfl,rfl⟩
   rintro ⟨r,m'⟩ st5 ⟨rfl,m3,m4,rfl⟩
   exact wpS_pure (h m' st4 m3 m4 hw4)
theorem zz (hq:Ask prog w A s κ P) {lo n ok:Nat}{Q:Bool->SortSt->Prop} (hB:Wb κ P N st) (hn:lo + n <= N) (h:∀ st',Wp κ P N st st'->Q true st'):wpS (model prog w) A E s (binarySort' lo n ok) Q st:=by
 refine wpS_bind (wpS_mono (wpS_forRange (I:=λ_ c st'=>c.1=none/\Wp κ P N st st') (Q:=λc st'=>c.1=none/\Wp κ P N st st') ?_ (λc st' q=>q) ⟨rfl,.refl hB⟩) ?_)
 ·rintro k ⟨r,u⟩ st1 _ hk ⟨rfl,hw⟩
  refine wpS_bind (wpS_mono (wpS_forRange (I:=λ_ c st'=>c.1=none/\c.2.2 <= k/\st1=st') (Q:=λc st'=>c.1=none/\st1=st') ?_ (λc st' q=>⟨q.1,q.2.2⟩) ⟨rfl,Nat.le_refl k,rfl⟩) ?_)
  ·rintro i ⟨r,l,e⟩ st2 _ _ ⟨rfl,h2,rfl⟩
   dsimp only at h2
   refine aX (λ_=>wpS_pure ⟨rfl,rfl⟩) λ(z:¬ l >= e)=>?_
   refine wpS_bind (iw hq hw.1 (show lo + k < N by omega) (show lo + (l + e) / 2 < N by omega) λb=>?_)
   exact aX (λ_=>wpS_pure ⟨rfl,(show (l + e) / 2 <= k by omega),rfl⟩) λ_=>wpS_pure ⟨rfl,h2,rfl⟩
  rintro ⟨r,l,e⟩ st2 ⟨rfl,rfl⟩
  exact wpS_bind (xj hw.1 λst3 h3=>wpS_pure ⟨rfl,hw.trans h3⟩)
 rintro ⟨r,u⟩ st1 ⟨rfl,hw⟩
 exact wpS_pure (h st1 hw)
end
end L2.Sw
namespace L2.Sw
open PySem PyProof.Rows
noncomputable def Ch:Nat->List (Nat × Nat × Nat)->Nat->Prop
 | a,[],b=>a=b
 | a,x::r,b=>x.1=a/\1 <= x.2.1/\Ch (a + x.2.1) r b
theorem Ch.le:∀ {a b:Nat}{l:List (Nat × Nat × Nat)},Ch a l b->a <= b
 | _,_,[],h=>Nat.le_of_eq h
 | _,_,x::r,h=>Nat.le_trans (Nat.le_add_right _ _) (Ch.le h.2.2)
theorem Ch.snoc:∀ {a b n k:Nat}{l:List (Nat × Nat × Nat)},Ch a l b->1 <= n->Ch a (l ++ [(b,n,k)]) (b + n)
 | _,_,_,_,[],h,hn=>⟨h.symm,hn,by rw [h];rfl⟩
 | _,_,_,_,x::r,h,hn=>⟨h.1,h.2.1,Ch.snoc h.2.2 hn⟩
theorem Ch.two:∀ {a b i:Nat}{l:List (Nat × Nat × Nat)}{x y:Nat × Nat × Nat},Ch a l b->l[i]?=some x->l[i + 1]?=some y->(1 <= x.2.1/\1 <= y.2.1/\y.1=x.1 + x.2.1/\y.1 + y.2.1 <= b)/\Ch a ((l.set i (x.1,x.2.1 + y.2.1,x.2.2)).eraseIdx (i + 1)) b
 | _,_,_,[],_,_,_,h,_=>by simp at h
 | _,_,0,[x],_,_,_,_,h=>by simp at h
 | a,b,0,x::y::r,_,_,hc,h1,h2=>by
  simp only [List.getElem?_cons_zero,List.getElem?_cons_succ,Option.some.injEq,Nat.zero_add] at h1 h2
  subst h1
  subst h2
  obtain ⟨c1,c2,c3,c4,c5⟩:=hc
  have:=Ch.le c5
  refine ⟨⟨c2,c4,by omega,by omega⟩,c1,(by show 1 <= _ + _;omega),?_⟩
  show Ch (a + (x.2.1 + y.2.1)) r b
  rw [<- Nat.add_assoc]
  exact c5
 | a,b,i + 1,x::r,x',y',hc,h1,h2=>by
  obtain ⟨c1,c2,c3⟩:=hc
  obtain ⟨d1,d2⟩:=Ch.two (i:=i) c3 (by simpa using h1) (by simpa using h2)
  exact ⟨d1,c1,c2,d2⟩
theorem Ch.mod:∀ {a b i p:Nat}{l:List (Nat × Nat × Nat)},Ch a l b->Ch a (l.modify i λx=>(x.1,x.2.1,p)) b
 | _,_,i,_,[],h=>by cases i <;> exact h
 | _,_,0,_,x::r,h=>h
 | _,_,i + 1,_,x::r,h=>⟨h.1,h.2.1,Ch.mod h.2.2⟩
section
variable {prog:Program}{w:World}{A:Around}{E:Value->Shared->Prop}{s:Shared}{κ:SortKind}{P:Keyed->Prop}{st:SortSt}{N:Nat}
theorem zA (sa:Nat):∀ (l:List Keyed) (k:Nat) (a:Array Keyed),(∀ p ∈ l,P p)->Al P a->Al P ((l.zipIdx k).foldl (λa x=>a.setIfInBounds (sa + x.2) x.1) a)/\((l.zipIdx k).foldl (λa x=>a.setIfInBounds (sa + x.2) x.1) a).size=a.size
 | [],k,a,_,h=>⟨h,rfl⟩
 | p::l,k,a,hl,h=>by
  rw [List.zipIdx_cons,List.foldl_cons]
  have h2:Al P (a.setIfInBounds (sa + k) p):=λq hq=>by
   rcases Array.mem_or_eq_of_mem_setIfInBounds hq with z|z
   ·exact h q z
   ·rw [z];exact hl p (.head _)
  obtain ⟨f1,f2⟩:=zA sa l (k + 1) (a.setIfInBounds (sa + k) p) (λq hq=>hl q (.tail _ hq)) h2
  exact ⟨f1,f2.trans (Array.size_setIfInBounds ..)⟩
theorem zB {x:SortSt}{Q:PUnit->SortSt->Prop} (h:∀ x',x=x'->Q ⟨⟩ x'):wpS (model prog w) A E s (set x:StateT SortSt Sem PUnit) Q st:=by
 unfold wpS;rw [StateT.run_set];exact wpAny_pure ⟨rfl,h _ rfl⟩
noncomputable def Wr (κ:SortKind) (P:Keyed->Prop) (N lo:Nat) (st:SortSt):Prop:=Wb κ P N st/\Ch 0 (pendingOf st).toList lo
theorem v7 (hq:Ask prog w A s κ P) {i lo:Nat}{Q:Bool->SortSt->Prop} (hB:Wr κ P N lo st) (hlo:lo <= N) (hi:i + 1 < (pendingOf st).size) (h:∀ st',Wr κ P N lo st'->Q true st'):wpS (model prog w) A E s (mergeAt' i) Q st:=by
 refine wpS_bind (wpS_get ?_)
 have e1:(pendingOf st)[i]?=some (pendingOf st)[i]:=by simp [show i < (pendingOf st).size by omega]
 have e2:(pendingOf st)[i + 1]?=some (pendingOf st)[i + 1]:=by simp [hi]
 obtain ⟨⟨x1,x2,x3,x4⟩,x5⟩:=hB.2.two (i:=i) (by rw [Array.getElem?_toList];exact e1) (by rw [Array.getElem?_toList];exact e2)
 generalize (pendingOf st)[i]=x at e1 x1 x2 x3 x4 x5
 generalize (pendingOf st)[i + 1]=y at e2 x1 x2 x3 x4 x5
 obtain ⟨sa,na,pw⟩:=x
 obtain ⟨sb,nb,pw'⟩:=y
 dsimp only at x1 x2 x3 x4 x5
 obtain ⟨⟨hO,hz,hA⟩,hc⟩:=hB
 rw [e1,e2]
 have pe:Ch 0 (((pendingOf st).setIfInBounds i (sa,na + nb,pw)).eraseIdxIfInBounds (i + 1)).toList lo:=by
  rw [Array.toList_eraseIdxIfInBounds,Array.toList_setIfInBounds]
  exact x5
 refine wpS_bind (zB λst1 e0=>?_)
 have B1:Wr κ P N lo st1:=by
  rw [<- e0]
  exact ⟨⟨hO,hz,hA⟩,pe⟩
 clear e0
 obtain ⟨p1,f1,g1⟩:=hA.at (i:=sb) (by omega)
 refine wpS_bind (aU f1 (wpS_bind (eM hq B1.1.1 (λi hi=>hA.at (by omega)) g1 (show 0 < na by omega) λk hk=>?_)))
 refine cx (λ_=>wpS_pure (h _ B1)) λ(n1:na - k ≠ 0)=>?_
 obtain ⟨p2,f2,g2⟩:=hA.at (i:=sa + k + (na - k) - 1) (by omega)
 refine wpS_bind (aU f2 (wpS_bind (eM hq B1.1.1 (λi hi=>hA.at (by omega)) g2 (show nb - 1 < nb by omega) λk2 hk2=>?_)))
 refine cx (λ_=>wpS_pure (h _ B1)) λ(n2:k2 ≠ 0)=>?_
 have z1:1 <= ((arrOf st).extract (sa + k) sb).size:=by rw [Array.size_extract];omega
 have z2:1 <= ((arrOf st).extract sb (sb + k2)).size:=by rw [Array.size_extract];omega
 have fin:∀ (out:Array Keyed) (st2:SortSt),Dn P ((arrOf st).extract (sa + k) sb) ((arrOf st).extract sb (sb + k2)) out->Eqv st1 st2->Wr κ P N lo (setArr st2 (out.toList.zipIdx.foldl (λa x=>a.setIfInBounds (sa + k + x.2) x.1) (arrOf st2))):=λout st2 d e=>by
  obtain ⟨q1,q2⟩:=zA (P:=P) (sa + k) out.toList 0 (arrOf st2) (λp hp=>d.2 p (Array.mem_toList_iff.mp hp)) (by rw [e.2.1];exact B1.1.2.2)
  exact ⟨⟨⟨(B1.1.1.eqv e).1,(B1.1.1.eqv e).2⟩,q2.trans (by rw [e.2.1];exact B1.1.2.1),q1⟩,(by show Ch 0 (pendingOf st2).toList lo;rw [e.2.2.1];exact B1.2)⟩
 have yes:∀ st':SortSt,Wr κ P N lo st'->(failedOf st').isNone=true:=λst' h=>by rw [h.1.1.2];rfl
 refine aX (λ_=>wpS_bind (zx hq B1.1.1 (hA.ext _ _) (hA.ext _ _) z1 z2 λout st2 d e=>?_)) λ_=>wpS_bind (zy hq B1.1.1 (hA.ext _ _) (hA.ext _ _) z1 z2 λout st2 d e=>?_)
 all_goals
  refine wpS_bind (wpS_modify (wpS_bind (wpS_get (wpS_pure ?_))))
  have w0:=fin out st2 d e
  have:=yes _ w0
  refine Eq.mp ?_ (h _ w0)
  exact congrArg (λb=>Q b _) this.symm
end
end L2.Sw
namespace L2.Sw
open PySem PyProof.Rows
section
variable {prog:Program}{w:World}{A:Around}{E:Value->Shared->Prop}{s:Shared}{κ:SortKind}{P:Keyed->Prop}{st:SortSt}{N:Nat}
theorem Wr.run {lo n:Nat} (h:Wr κ P N lo st) (hn:1 <= n):Wr κ P N (lo + n) (SortSt.mk' (kindOf st) (arrOf st) ((pendingOf st).push (lo,n,0)) (gallopOf st) (failedOf st)) :=
 ⟨⟨⟨h.1.1.1,h.1.1.2⟩,h.1.2⟩,by
  show Ch 0 ((pendingOf st).push (lo,n,0)).toList (lo + n)
  rw [Array.toList_push]
  exact h.2.snoc hn⟩
theorem Wr.pow {lo p:Nat} (h:Wr κ P N lo st):Wr κ P N lo (SortSt.mk' (kindOf st) (arrOf st) ((pendingOf st).modify ((pendingOf st).size - 1) λx=>(x.1,x.2.1,p)) (gallopOf st) (failedOf st)) :=
 ⟨⟨⟨h.1.1.1,h.1.1.2⟩,h.1.2⟩,by
  show Ch 0 ((pendingOf st).modify ((pendingOf st).size - 1) λx=>(x.1,x.2.1,p)).toList lo
  rw [Array.toList_modify]
  exact h.2.mod⟩
theorem idx {c:Prop} [Decidable c] {n:Nat} (h:¬ n <= 1):(if c then n - 2 - 1 else n - 2) + 1 < n:=by split <;> omega
theorem w_runs (hq:Ask prog w A s κ P) {Q:Unit->SortSt->Prop} (hB:Wb κ P N st) (hp:pendingOf st=#[]) (h:∀ st',Wb κ P N st'->Q () st'):wpS (model prog w) A E s sortRuns' Q st:=by
 refine wpS_bind (wpS_get ?_)
 have hz:(arrOf st).size=N:=hB.2.1
 refine wpS_bind (wpS_mono (wpS_forRange (I:=λ_ c st'=>c.1=none/\c.2 <= N/\Wr κ P N c.2 st') (Q:=λc st'=>c.1=none/\∃ lo,lo <= N/\Wr κ P N lo st') ?_ (λc st' q=>⟨q.1,c.2,q.2⟩) ⟨rfl,Nat.zero_le _,hB,by rw [hp];rfl⟩) ?_)
 ·rintro i ⟨r,lo⟩ st1 _ hi ⟨rfl,hlo,hW⟩
  dsimp only at hlo hW
  refine aX (λ_=>wpS_pure ⟨rfl,lo,hlo,hW⟩) λ(z:¬ lo >= (arrOf st).size)=>?_
  refine wpS_bind (u0 (lo:=lo) (nrem:=(arrOf st).size - lo) hq hW.1 (by omega) (by omega) λm st2 m1 m2 hw2=>?_)
  have W2:Wr κ P N lo st2:=⟨hw2.1,by rw [hw2.2];exact hW.2⟩
  refine aX (λmr=>wpS_bind (wpS_lift (wpAny_rule ⟨rfl,wpS_bind (zz hq hw2.1 (show lo + min ((arrOf st).size - lo) _ <= N by omega) λst3 hw3=>aX (λz=>by cases z) λ_=>have cc:1 <= min ((arrOf st).size - lo) (minRun' (arrOf st).size (arrOf st).size 0)/\lo + min ((arrOf st).size - lo) (minRun' (arrOf st).size (arrOf st).size 0) <= N:=⟨by have:m < minRun' (arrOf st).size (arrOf st).size 0:=mr;omega,by omega⟩;have W3:Wr κ P N lo st3:=⟨hw3.1,by rw [hw3.2];exact W2.2⟩;?_)⟩))) λ_=>have cc:1 <= m/\lo + m <= N:=⟨m1,by omega⟩;have W3:=W2;?_
  all_goals
   obtain ⟨c1,c2⟩:=cc
   refine wpS_bind (wpS_get ?_)
   generalize Array.back? _=o
   cases o with
   | none=>exact wpS_bind (wpS_modify (wpS_pure ⟨rfl,c2,W3.run c1⟩))
   | some x =>
    refine wpS_bind (wpS_mono (wpS_forRange (I:=λ_ c st'=>c.1=none/\Wr κ P N lo st') (Q:=λc st'=>c.1=none/\Wr κ P N lo st') ?_ (λc st' q=>q) ⟨rfl,W3⟩) ?_)
    ·rintro j ⟨r,u⟩ st4 _ _ ⟨rfl,W4⟩
     refine wpS_bind (wpS_get ?_)
     dsimp only
     generalize he:(if (pendingOf st4).size > 1 then (pendingOf st4)[(pendingOf st4).size - 2]? else none)=o
     cases o with
     | none=>exact wpS_pure ⟨rfl,W4⟩
     | some y =>
      have hs:(pendingOf st4).size > 1:=by
       cases Nat.decLt 1 (pendingOf st4).size with
       | isTrue z=>exact z
       | isFalse z=>rw [if_neg z] at he;cases he
      refine aX (λ_=>wpS_pure ⟨rfl,W4⟩) λ_=>?_
      exact wpS_bind (v7 hq W4 hlo (show (pendingOf st4).size - 2 + 1 < (pendingOf st4).size by omega) λst5 W5=>aX (λz=>by cases z) λ_=>wpS_pure ⟨rfl,W5⟩)
    rintro ⟨r,u⟩ st4 ⟨rfl,W4⟩
    exact wpS_bind (wpS_modify (wpS_bind (wpS_modify (wpS_pure ⟨rfl,c2,(W4.pow (p:=_)).run c1⟩))))
 rintro ⟨r,lo0⟩ st1 ⟨rfl,lo,hlo,hW⟩
 refine wpS_bind (wpS_mono (wpS_forRange (I:=λ_ c st'=>c.1=none/\Wr κ P N lo st') (Q:=λc st'=>c.1=none/\Wr κ P N lo st') ?_ (λc st' q=>q) ⟨rfl,hW⟩) ?_)
 ·rintro j ⟨r,u⟩ st4 _ _ ⟨rfl,W4⟩
  refine wpS_bind (wpS_get ?_)
  refine aX (λ_=>wpS_pure ⟨rfl,W4⟩) λ(z:¬ (pendingOf st4).size <= 1)=>?_
  exact wpS_bind (v7 hq W4 hlo (idx z) λst5 W5=>aX (λz=>by cases z) λ_=>wpS_pure ⟨rfl,W5⟩)
 rintro ⟨r,u⟩ st4 ⟨rfl,W4⟩
 exact wpS_pure (h _ W4.1)
end
end L2.Sw
namespace L2.Srt
open PySem PySem.W PySem.Calls PyProof.Rows
section
variable {prog:Program}{w:World}{A:Around}{E:Value->Shared->Prop}{s:Shared}
theorem jE {KO:SortKind->Prop}{a:Addr}{vs:List Value}{n:Nat}{R:PySem.Fin->Shared->Prop} (ho:s.heap.get? a=some (seqObj "list" vs.toArray n)) (h2:2 <= vs.length) (hle:vs.length <= 10000)
  (hk:∀ (s':Shared) (Q:SortKind->Shared->Prop),(∀ b o,b ≠ a->s.heap.get? b=some o->s'.heap.get? b=some o)->(∀ κ,KO κ->Q κ s')->wpAny (model prog w) A (keyKind' vs.toArray) Q (λ_ _=>False) s')
  (hc:∀ κ,KO κ->∀ (s':Shared) (u v:Value) (C:Bool->Shared->Prop),(∀ b o,b ≠ a->s.heap.get? b=some o->s'.heap.get? b=some o)->u ∈ vs->v ∈ vs->(∀ b,C b s')->wpAny (model prog w) A (keyLt' κ u v) C (λ_ _=>False) s')
  (h:∀ out:Array Value,out.size=vs.length->(∀ v ∈ out,v ∈ vs)->R (.done (.ret .none)) { s with heap:=sortedHeap s.heap a vs out }) :
  wpAny (model prog w) A (Builtin.«list.sort» ⟨[.ref a],[]⟩) R E s:=by
 rw [list_sort_plain]
 have ha:a < s.heap.objs.size:=Heap.lt_size ho
 refine wpAny_bind (listItems_at ho rfl ?_)
 refine wpAny_bind (listUpdate_at ho rfl ?_ (by rw [List.size_toArray,sizeLine_eq];omega) (Nat.zero_le _))
 obtain ⟨e1,ho1⟩:∃ e1,(s.heap.update a (Obj.mapSeq λ_=>(#[]:Array Value))).get? a=some (seqObj "list" #[] e1):=⟨_,get?_update_seq ho λ_=>#[]⟩
 refine wpAny_bind (seqEpoch_at ho1 rfl ?_)
 refine wpAny_bind (wpAny_newTuple ?_ (by show vs.length <= _;rw [sizeLine_eq];omega))
 refine wpAny_bind (wpAny_newList ?_ (Nat.zero_le _))
 refine wpAny_holding ?_
 have ho6:(((s.heap.update a (Obj.mapSeq λ_=>(#[]:Array Value))).push (seqObj "tuple" vs.toArray 0)).push (seqObj "list" #[] 0)).get? a=some (seqObj "list" #[] e1):=Heap.get?_push_of_some _ (Heap.get?_push_of_some _ ho1)
 have kp:∀ b o,b ≠ a->s.heap.get? b=some o->(((s.heap.update a (Obj.mapSeq λ_=>(#[]:Array Value))).push (seqObj "tuple" vs.toArray 0)).push (seqObj "list" #[] 0)).get? b=some o:=λb o hb e =>
  Heap.get?_push_of_some _ (Heap.get?_push_of_some _ ((Heap.get?_update_other _ _ (Ne.symm hb)).trans e))
 show wpAny (model prog w) A _ R E { s with heap:=((s.heap.update a (Obj.mapSeq λ_=>(#[]:Array Value))).push (seqObj "tuple" vs.toArray 0)).push (seqObj "list" #[] 0) }
 dsimp only
 have hsz:vs.toArray.size=vs.length:=by simp
 rw [if_neg (by omega),if_neg (by omega)]
 refine wpAny_bind (wpAny_mono (hk _ (λκ s0=>KO κ/\s0={ s with heap:=((s.heap.update a (Obj.mapSeq λ_=>(#[]:Array Value))).push (seqObj "tuple" vs.toArray 0)).push (seqObj "list" #[] 0) }) kp λκ hκ=>⟨hκ,rfl⟩) (λκ s0 hκ=>?_) λ_ _ x=>x.elim)
 obtain ⟨hκ,rfl⟩:=hκ
 have hP:∀ p ∈ vs.toArray.zip vs.toArray,∃ v ∈ vs,p=(v,v):=λp hp=>by
  obtain ⟨i,hi,e⟩:=Array.getElem_of_mem hp
  have hi':i < vs.length:=by simpa using hi
  refine ⟨vs[i],List.getElem_mem hi',?_⟩
  rw [<- e]
  simp
 refine wpAny_bind (wpAny_mono (Sw.w_runs (P:=λp=>∃ v ∈ vs,p=(v,v)) (N:=vs.length) (κ:=κ) (st:=SortSt.mk' κ (vs.toArray.zip vs.toArray) #[] 7 none) (Q:=λ_ st'=>Sw.Wb κ (λp=>∃ v ∈ vs,p=(v,v)) vs.length st') (λx y ⟨u,hu,ex⟩ ⟨v,hv,ey⟩ C hC=>by
  rw [ex,ey]
  exact hc κ hκ _ u v C kp hu hv hC) ⟨⟨rfl,rfl⟩,by show (vs.toArray.zip vs.toArray).size=_;simp,hP⟩ rfl λst' q=>q) ?_ λ_ _ e=>e)
 rintro ⟨⟨⟩,st'⟩ s' ⟨rfl,hb⟩
 dsimp only at hb ⊢
 have hout:((arrOf st').map (·.2)).size=vs.length:=by rw [Array.size_map];exact hb.2.1
 refine wpAny_bind (seqEpoch_at ho6 rfl ?_)
 refine wpAny_bind (listUpdate_at ho6 rfl ?_ (Nat.zero_le _) (by rw [hout,sizeLine_eq];omega))
 rw [hb.1.2]
 simp only [bne_self_eq_false,Bool.false_eq_true,if_false]
 refine wpAny_pure (h _ hout λv hv=>?_)
 obtain ⟨p,hp,rfl⟩:=Array.mem_map.mp hv
 obtain ⟨v,hv',ep⟩:=hb.2.2 p hp
 rw [ep]
 exact hv'
end
end L2.Srt
namespace L2
open PySem PySem.Spec PyProof.Rows
namespace Srt
open PySem PySem.W PySem.Calls PyProof.Rows
section
variable {P:Program}{w:World}{A:Around}{E:Value->Shared->Prop}{s:Shared}
theorem mJ {x:Value}{vs:List Value}{tss:List (List Int)}{Q:Value->Shared->Prop} (h2:2 <= vs.length) (hle:vs.length <= 10000) (hu:A.units + 2 < cLine)
  (hv:Paired (λu ts=>∃ a its,u=Value.ref a/\IsTup s.heap a its/\IntsAre its.toList ts) vs tss)
  (hcol:∀ (Q':List Value->Shared->Prop),(∀ (h':Heap),(∀ b o,s.heap.get? b=some o->h'.get? b=some o)->Q' vs { s with heap:=h' })->wpAny (model P w) A.in1 (collect x) Q' E s)
  (h:∀ (h1 h':Heap) (out:Array Value) (c:Nat),(∀ b o,s.heap.get? b=some o->h1.get? b=some o)->(∀ b o,h1.get? b=some o->h'.get? b=some o)->h'.get? h1.objs.size=some { cls:=.type "list",data:=.seq out c }->out.size=vs.length->(∀ v ∈ out,v ∈ vs)->Q (.ref h1.objs.size) { s with heap:=h' }) :
  wpAny (model P w) A (call (.builtin "sorted") [x]) Q E s:=by
 refine Calls.call_function_entry kind_sorted plain_sorted entry_sorted (args_sorted1 _) ?_
 unfold Builtin.«sorted»
 refine wpAny_bind (m:=checkCount "sorted" 1 1 _) (wpAny_pure ?_)
 refine wpAny_bind (hcol _ λh1 kp=>?_)
 refine wpAny_bind (wpAny_newList ?_ (by rw [sizeLine_eq];omega))
 have hoL:(h1.push (seqObj "list" vs.toArray 0)).get? h1.objs.size=some (seqObj "list" vs.toArray 0):=Heap.get?_push_size _ rfl
 have at_:∀ (s':Shared),(∀ b o,b ≠ h1.objs.size->(h1.push (seqObj "list" vs.toArray 0)).get? b=some o->s'.heap.get? b=some o)->∀ v ∈ vs,∃ a its ns,v=.ref a/\IsTup s'.heap a its/\IntsAre its.toList ns:=λs' k v hm=>by
  have gen:∀ {us:List Value}{uss:List (List Int)},Paired (λu ts=>∃ a its,u=Value.ref a/\IsTup s.heap a its/\IntsAre its.toList ts) us uss->∀ v ∈ us,∃ a its ns,v=.ref a/\IsTup s.heap a its/\IntsAre its.toList ns:=by
   intro us uss hp
   induction hp with
   | nil=>intro v hv;cases hv
   | cons q _ ih =>
    intro v hv
    rcases List.mem_cons.mp hv with rfl|hv
    ·obtain ⟨a,its,e,r⟩:=q;exact ⟨a,its,_,e,r⟩
    ·exact ih v hv
  obtain ⟨a,its,ns,e,⟨o,ho,r⟩,hin⟩:=gen hv v hm
  have ho1:=kp a o ho
  exact ⟨a,its,ns,e,⟨o,k a o (Nat.ne_of_lt (Heap.lt_size ho1)) (Heap.get?_push_of_some _ ho1),r⟩,hin⟩
 refine wpAny_bind (wpAny_holding (wpAny_call_entry slot_list_sort ⟨_,hoL,rfl⟩ entry_list_sort (jE (KO:=KOk) hoL h2 hle (λs' Q' k q=>kM h2 (at_ s' k) q) (λκ hκ s' u v C k hu' hv' q=>?_) λout hz hm=>⟨_,rfl,?_⟩) (args_list_sort _)))
 ·obtain ⟨a,its,ns,e,r1,r2⟩:=at_ s' k u hu'
  obtain ⟨a',its',ns',e',r1',r2'⟩:=at_ s' k v hv'
  rw [e,e']
  exact oU hκ r1 r1' r2 r2' (show A.units + 1 + 1 < cLine from hu) (q _)
 ·obtain ⟨c,hc⟩:=sortedHeap_at (out:=out) (vs:=vs) hoL
  refine wpAny_pure ⟨_,rfl,h h1 _ out c kp (λb o e=>?_) hc hz hm⟩
  have hb:b < h1.objs.size:=Heap.lt_size e
  rw [sortedHeap_old (Nat.ne_of_lt hb) (by rw [Heap.size_push];exact Nat.lt_succ_of_lt hb)]
  exact Heap.get?_push_of_some _ e
end
end Srt
section
variable {X:Cx}
theorem kU {vs:List V}{us:List Value} (h:am vs us):∀ (l:List Value),(∀ v ∈ l,v ∈ us)->∃ ws:List V,am ws l
 | [],_=>⟨[],.nil⟩
 | v::l,hl=>by
  obtain ⟨ws,q⟩:=kU h l λu hu=>hl u (.tail _ hu)
  obtain ⟨i,hi,e⟩:=List.getElem_of_mem (hl v (.head _))
  have hi':i < vs.length:=by have:=h.length;omega
  obtain ⟨u,e1,e2⟩:=h.get (i:=i) (x:=vs[i]) (List.getElem?_eq_getElem hi')
  rw [List.getElem?_eq_getElem hi,e] at e1
  cases e1
  exact ⟨vs[i]::ws,.cons e2 q⟩
noncomputable def xk (X:Cx):List V->Hp->VK->Prop:=λxs H Q=>∃ (p:Addr) (vs:List V) (tss:List (List Int)),xs=[.ref p]/\(SqL X.K H p vs \/ SqT X.K H p vs)/\mD X.K H vs tss/\2 <= tss.length/\tss.length <= 10000 /\
 ∀ (l:Addr) (ws:List V),H l=none->ws.length=vs.length->Q (.ref l) (upd H l (.lst ws))
theorem lR (hu:X.A.units + 64 < cLine):bq X (.builtin "sorted") (xk X):=by
 intro pins s σ H xs us Q I r h
 obtain ⟨p,vs,tss,rfl,hq,ht,h2,hle,q⟩:=h
 obtain ⟨u,rfl,rx⟩:=fo r
 cases rx
 have key:∀ (its:List Value),am vs its->vs.length <= sizeLine->(∀ (Q':List Value->Shared->Prop),(∀ (h':Heap),(∀ b o,s.heap.get? b=some o->h'.get? b=some o)->Q' its { s with heap:=h' })->wpAny (model X.prog X.w) X.A.in1 (collect (.ref p)) Q' X.xe s) ->
   wpAny (model X.prog X.w) X.A (call (.builtin "sorted") [.ref p]) (EP X pins σ Q) X.xe s:=λits r' hz hcol=>by
  have hl:=r'.length
  have hl2:=ht.len
  refine Srt.mJ (vs:=its) (tss:=tss) (by omega) (by omega) (by omega) (I.tupsAt ht r') hcol λh1 h' out c k1 k2 e ho hm=>?_
  obtain ⟨ws,hws⟩:=kU r' out.toList λv hv=>hm v (Array.mem_toList_iff.mp hv)
  have hwl:ws.length=vs.length:=by rw [hws.length,Array.length_toList,ho,hl]
  have I1:Inv X pins σ H { s with heap:=h1 }:=I.kept (t':=s.toks) k1
  have I2:Inv X pins σ (upd H h1.objs.size (.lst ws)) { s with heap:=h' } :=
   I1.laid (t':=s.toks) k2 (Nat.le_refl _) (show bC X.prog X.w _ h' _ (.lst _) from ⟨by rw [hwl];exact hz,_,c,hws,by simpa using e⟩)
  exact ⟨.ref h1.objs.size,_,I2,rfl,q _ ws (I1.hok.fresh (Nat.le_refl _)) hwl⟩
 rcases hq with hq|hq
 ·obtain ⟨its,r',pl,hz⟩:=I.list hq
  obtain ⟨o,ho,hcl,n,hd⟩:=pl.isList
  refine key its r' hz λQ' hQ'=>wpAny_collect_seq p (.inl rfl) ho hcl hd (λh' kp=>?_) (by have:=r'.length;simp only [List.size_toArray] <;> omega)
  have:=hQ' h' kp
  simpa using this
 ·obtain ⟨its,r',pl,hz⟩:=I.tuple hq
  obtain ⟨o,ho,hcl,n,hd⟩:=pl
  refine key its r' hz λQ' hQ'=>wpAny_collect_seq p (.inr rfl) ho hcl hd (λh' kp=>?_) (by have:=r'.length;simp only [List.size_toArray] <;> omega)
  have:=hQ' h' kp
  simpa using this
end
end L2
namespace MM
open PySem
inductive Sc where
 | non|bl (b:Bool)|int (i:Int)|str (x:Str)
 deriving Inhabited,DecidableEq
inductive DD where
 | k (kvs:List (Int × Sc))|t (kvs:List (List Int × Sc))
 deriving Inhabited
inductive PV where
 | non|bl (b:Bool)|int (i:Int)|str (x:Str)|tup (xs:List PV)|lst (xs:List PV)|dI (d:DD)
 deriving Inhabited
noncomputable def Sc.pv:Sc->PV
 | .non=>.non
 | .bl b=>.bl b
 | .int i=>.int i
 | .str x=>.str x
noncomputable def sc?:PV->Option Sc
 | .non=>some .non
 | .bl b=>some (.bl b)
 | .int i=>some (.int i)
 | .str x=>some (.str x)
 | _=>none
noncomputable def mK {α:Type} [DecidableEq α] (kvs:List (α × Sc)) (k:α):Option Sc:=(kvs.find? λp=>decide (p.1=k)).map (·.2)
noncomputable def mL {α:Type} [DecidableEq α] (kvs:List (α × Sc)) (k:α) (v:Sc):List (α × Sc) :=
 if (kvs.any λp=>decide (p.1=k))=true then kvs.map (λp=>if p.1=k then (p.1,v) else p) else kvs ++ [(k,v)]
noncomputable def eqL (f:PV->PV->Option Bool):List PV->List PV->Option Bool
 | [],[]=>some true
 | x::xs,y::ys=>(f x y).bind λp=>(eqL f xs ys).map λq=>p&&q
 | _,_=>some false
noncomputable def eqF:Nat->PV->PV->Option Bool
 | _,.non,.non=>some true
 | _,.bl a,.bl b=>some (a == b)
 | _,.bl a,.int b=>some ((if a then 1 else 0) == b)
 | _,.int a,.bl b=>some (a == (if b then 1 else 0))
 | _,.int a,.int b=>some (a == b)
 | _,.str a,.str b=>some (a == b)
 | 0,.tup _,.tup _=>none
 | 0,.lst _,.lst _=>none
 | _,.dI _,_=>none
 | _,_,.dI _=>none
 | n + 1,.tup a,.tup b=>eqL (eqF n) a b
 | n + 1,.lst a,.lst b=>if a.length=b.length then eqL (eqF n) a b else some false
 | _,_,_=>some false
noncomputable def qr:PV->PV->Bool
 | .tup _,.tup _=>true
 | .lst _,.lst _=>true
 | .tup _,_=>false
 | _,.tup _=>false
 | .lst _,_=>false
 | _,.lst _=>false
 | .bl _,.int _=>false
 | .int _,.bl _=>false
 | .dI _,_=>false
 | _,.dI _=>false
 | _,_=>true
noncomputable def inL (f:PV->Option Bool):List PV->Option Bool
 | []=>some false
 | y::ys=>(f y).bind λp=>(inL f ys).map λq=>p || q
inductive MV where
 | val (v:PV)|own (xs:List PV)|brw (xs:List PV)|ownD (d:DD)|brwD (d:DD)
 | ownL (xss:List (List PV))
 deriving Inhabited
noncomputable abbrev Rho:=List (Option MV)
inductive Op2 where
 | add|sub|mul|fdiv|mod|pow|shr
 deriving DecidableEq
inductive Cp where
 | eq|ne|lt|le|gt|ge|isN|notN|isIn|notIn
 deriving DecidableEq
inductive Blt where
 | len|tupleOf|listOf|sorted|any|all|sum|max1|min1|max2|min2|intOf|boolOf|isInt|isBool|isStr|isList|isTuple
 | sortedSet|lenSet|lenSetSub|sortedKeys|valuesOf|tupleRev
 deriving DecidableEq
inductive Sk where
 | seq|rng|enm|rev
 deriving DecidableEq
set_option genInjectivity false in
inductive ME where
 | var (i:Nat)
 | bor (i:Nat)
 | cst (v:PV)
 | glob (x:Str) (v:PV)
 | bin (op:Op2) (a b:ME)
 | neg (a:ME)
 | not (a:ME)
 | and (a b:ME)
 | or (a b:ME)
 | ite (c a b:ME)
 | cmp (op:Cp) (a b:ME)
 | chain (op op':Cp) (a b c:ME)
 | tup (es:List ME)
 | lst (es:List ME)
 | idx (a i:ME)
 | slice (a lo hi:ME)
 | blt (b:Blt) (es:List ME)
 | call (f:Nat) (es:List ME)
 | callD (f:Nat) (es:List ME) (d:List Sc)
 | comp (k:Sk) (src:List ME) (js:List Nat) (cond elt:ME)
 | dget (a k d:ME)
 | dat (a k:ME)
 | dIn (neg:Bool) (k a:ME)
 | lenL (i:Nat)
 | lenI (i:Nat) (k:ME)
 deriving Inhabited
noncomputable def aY:List PV->Option (List Int)
 | []=>some []
 | .int i::r=>(aY r).map (i::·)
 | _=>none
noncomputable def dt:List PV->Option (List (List Int))
 | []=>some []
 | .tup xs::r=>(aY xs).bind λx=>(dt r).map (x::·)
 | _=>none
noncomputable def bY:List PV->Option (List Bool)
 | []=>some []
 | .bl i::r=>(bY r).map (i::·)
 | _=>none
noncomputable def rW:PV->PV->Option (Option Sc)
 | .dI (.k kvs),.int i=>some (mK kvs i)
 | .dI (.t kvs),.tup xs=>(aY xs).map (mK kvs)
 | _,_=>none
noncomputable def xl:DD->PV->Sc->Option DD
 | .k kvs,.int i,s=>if kvs.length < 10000 then some (.k (mL kvs i s)) else none
 | .t kvs,.tup xs,s=>(aY xs).bind λk=>if kvs.length < 10000 then some (.t (mL kvs k s)) else none
 | _,_,_=>none
noncomputable def dSc:DD->List Sc
 | .k kvs=>kvs.map (·.2)
 | .t kvs=>kvs.map (·.2)
noncomputable def o9 (d:DD):List PV:=(dSc d).map Sc.pv
noncomputable def lexLt:List Int->List Int->Bool
 | [],[]=>false
 | [],_::_=>true
 | _::_,[]=>false
 | x::xs,y::ys=>if x=y then lexLt xs ys else decide (x < y)
noncomputable def rX (x:Int):List Int->List Int
 | []=>[x]
 | y::r=>if y < x then y::rX x r else x::y::r
noncomputable def sortI:List Int->List Int
 | []=>[]
 | x::r=>rX x (sortI r)
noncomputable def rY (x:List Int):List (List Int)->List (List Int)
 | []=>[x]
 | y::r=>if lexLt y x=true then y::rY x r else x::y::r
noncomputable def sortT:List (List Int)->List (List Int)
 | []=>[]
 | x::r=>rY x (sortT r)
noncomputable def dd:List Int->List Int
 | []=>[]
 | x::r=>if x ∈ dd r then dd r else x::dd r
noncomputable def gw {α:Type} (f:Int->Int->Option α):PV->PV->Option α
 | .int i,.int j=>f i j
 | _,_=>none
noncomputable def v8:PV->PV->Option PV
 | .int i,.int j=>some (.int (i + j))
 | .lst a,.lst b=>if a.length + b.length <= 10000 then some (.lst (a ++ b)) else none
 | .tup a,.tup b=>if a.length + b.length <= 10000 then some (.tup (a ++ b)) else none
 | .str a,.str b=>if a.length + b.length <= 1000000 then some (.str (a ++ b)) else none
 | _,_=>none
noncomputable def rZ:PV->PV->Option PV
 | .tup xs,.int k=>if xs.isEmpty=false/\0 <= k/\k <= 10000/\xs.length * k.toNat <= 10000 then some (.tup (List.replicate k.toNat xs).flatten) else none
 | x,y=>gw (λi j=>if (-(2 ^ 64) < i/\i < 2 ^ 64) \/ (-(2 ^ 64) < j/\j < 2 ^ 64) then some (.int (i * j)) else none) x y
noncomputable def gc (op:Op2):PV->PV->Option PV:=match op with
 | .add=>v8
 | .sub=>gw λi j=>some (.int (i - j))
 | .mul=>rZ
 | .fdiv=>gw λi j=>if 0 < j/\j < 1073741824 then some (.int (i / j)) else none
 | .mod=>gw λi j=>if 0 < j then some (.int (i % j)) else none
 | .pow=>gw λi j=>if 0 <= j/\j <= 1000000/\i.natAbs < 2 ^ 64 then some (.int (i ^ j.toNat)) else none
 | .shr=>gw λi j=>if 0 <= j then some (.int (i / 2 ^ j.toNat)) else none
noncomputable def kW:PV->Bool
 | .non=>true
 | _=>false
noncomputable def isIn (x:PV) (xs:List PV):Option Bool:=inL (λy=>eqF 100 y x) xs
noncomputable def zC (a b:PV):Option Bool:=match b with
 | .non=>some (kW a)
 | .bl q=>(match a with|.bl p=>some (p == q)|_=>none)
 | _=>none
noncomputable def aI:PV->Option (List PV)
 | .tup xs=>some xs
 | .lst xs=>some xs
 | _=>none
noncomputable def fX:PV->Option (List PV)
 | .lst xs=>some xs
 | _=>none
noncomputable def bX (op:Cp):PV->PV->Option Bool:=match op with
 | .eq=>eqF 100
 | .ne=>λa b=>if qr a b=true then (eqF 100 a b).map λp=>!p else none
 | .lt=>gw λi j=>some (decide (i < j))
 | .le=>gw λi j=>some (decide (i <= j))
 | .gt=>gw λi j=>some (decide (j < i))
 | .ge=>gw λi j=>some (decide (j <= i))
 | .isN=>zC
 | .notN=>λa b=>(zC a b).map λp=>!p
 | .isIn=>λa b=>(aI b).bind (isIn a)
 | .notIn=>λa b=>((aI b).bind (isIn a)).map λp=>!p
noncomputable def place (n:Nat) (i:Int):Option Nat :=
 if 0 <= i then (if i < n then some i.toNat else none) else if -(n:Int) <= i then some (i + n).toNat else none
noncomputable def kX:PV->PV->Option PV
 | .tup xs,.int i=>(place xs.length i).bind λj=>xs[j]?
 | .lst xs,.int i=>(place xs.length i).bind λj=>xs[j]?
 | _,_=>none
noncomputable def fe (n d:Nat):Option Int->Nat
 | none=>d
 | some i=>if i < 0 then (i + n).toNat else min i.toNat n
noncomputable def cut (xs:List PV) (lo hi:Option Int):List PV:=(xs.drop (fe xs.length 0 lo)).take (fe xs.length xs.length hi - fe xs.length 0 lo)
noncomputable def iX:PV->Option Int->Option Int->Option PV
 | .lst xs,lo,hi=>some (.lst (cut xs lo hi))
 | .tup xs,lo,hi=>some (.tup (cut xs lo hi))
 | _,_,_=>none
noncomputable def bnd:ME->PV->Option (Option Int)
 | .cst .non,_=>some none
 | _,.int i=>some (some i)
 | _,_=>none
noncomputable def zD:List Int->Option Int
 | []=>none
 | x::r=>some (r.foldl (λa b=>if a < b then b else a) x)
noncomputable def eB (xs:List PV):Option PV :=
 if xs.length < 64 then
  match aY xs with
  | some ns=>some (.lst ((sortI ns).map .int))
  | none=>(dt xs).map λts=>.lst ((sortT ts).map λt=>.tup (t.map .int))
 else none
noncomputable def isT (b:Blt):PV->Bool
 | .int _=>b == .isInt
 | .bl _=>b == .isInt || b == .isBool
 | .str _=>b == .isStr
 | .lst _=>b == .isList
 | .tup _=>b == .isTuple
 | .non=>false
 | .dI _=>false
noncomputable def isD:PV->Bool
 | .dI _=>true
 | _=>false
noncomputable def bZ (vs:List PV) (f:PV->Option PV):Option PV:=match vs with
 | [a]=>f a
 | _=>none
noncomputable def fY (vs:List PV) (f:PV->PV->Option PV):Option PV:=match vs with
 | [a,b]=>f a b
 | _=>none
noncomputable def fz (b:Blt) (vs:List PV):Option PV:=bZ vs λa=>if isD a=true then none else some (.bl (isT b a))
noncomputable def v9:PV->Option PV
 | .tup xs=>some (.int xs.length)
 | .lst xs=>some (.int xs.length)
 | .dI (.k kvs)=>some (.int kvs.length)
 | _=>none
noncomputable def aq (b:Blt) (vs:List PV):Option PV:=match b with
 | .len=>bZ vs v9
 | .tupleOf=>bZ vs λa=>(aI a).map .tup
 | .listOf=>bZ vs λa=>(aI a).map .lst
 | .sorted=>bZ vs λa=>(aI a).bind eB
 | .any=>bZ vs λa=>(fX a).bind λxs=>(bY xs).map λbs=>.bl (bs.any id)
 | .all=>bZ vs λa=>(fX a).bind λxs=>(bY xs).map λbs=>.bl (bs.all id)
 | .sum=>bZ vs λa=>(fX a).bind λxs=>(aY xs).map λns=>.int ns.sum
 | .max1=>bZ vs λa=>(fX a).bind λxs=>(aY xs).bind λns=>(zD ns).map .int
 | .min1=>none
 | .max2=>fY vs (gw λi j=>some (.int (if j > i then j else i)))
 | .min2=>fY vs (gw λi j=>some (.int (if j < i then j else i)))
 | .intOf=>bZ vs λa=>match a with|.int i=>some (.int i)|.bl b=>some (.int (if b then 1 else 0))|_=>none
 | .boolOf=>bZ vs λa=>match a with|.bl b=>some (.bl b)|_=>none
 | .isInt=>fz .isInt vs
 | .isBool=>fz .isBool vs
 | .isStr=>fz .isStr vs
 | .isList=>fz .isList vs
 | .isTuple=>fz .isTuple vs
 | .sortedSet=>bZ vs λa=>(aI a).bind λxs=>(aY xs).bind λns=>if ns.length <= 1000/\(dd ns).length < 64 then some (.lst ((sortI (dd ns)).map .int)) else none
 | .lenSet=>bZ vs λa=>(aI a).bind λxs=>(aY xs).bind λns=>if ns.length <= 1000 then some (.int (dd ns).length) else none
 | .lenSetSub=>fY vs λa b=>(aI a).bind λxs=>(aY xs).bind λns=>(aI b).bind λys=>(aY ys).bind λms =>
   if ns.length <= 1000/\ms.length <= 1000/\(dd ns).length <= 60 then some (.int ((dd ns).filter λn=>!decide (n ∈ ms)).length) else none
 | .sortedKeys=>bZ vs λa=>match a with|.dI (.k kvs)=>if kvs.length < 64 then some (.lst ((sortI (kvs.map (·.1))).map .int)) else none|_=>none
 | .tupleRev=>bZ vs λa=>(fX a).map λxs=>.tup xs.reverse
 | .valuesOf=>bZ vs λa=>match a with|.dI d=>if (o9 d).length <= 10000 then some (.lst (o9 d)) else none|_=>none
noncomputable def mM (n:Nat):List PV->List PV
 | []=>[]
 | x::r=>.tup [.int (n:Nat),x]::mM (n + 1) r
noncomputable def dA:Sk->List PV->Option (List PV)
 | .seq,[a]=>aI a
 | .rng,[.int j]=>if -(2 ^ 62) <= j/\j < 2 ^ 62 then some ((List.range j.toNat).map λ(k:Nat)=>.int ((0:Int) + k)) else none
 | .rng,[.int i,.int j]=>if -(2 ^ 62) <= i/\i < 2 ^ 62/\-(2 ^ 62) <= j/\j < 2 ^ 62 then some ((List.range (j - i).toNat).map λ(k:Nat)=>.int (i + k)) else none
 | .enm,[a]=>(aI a).map (mM 0)
 | .rev,[.lst xs]=>some xs.reverse
 | _,_=>none
noncomputable def eC (c:PV->Option Bool) (f:PV->Option PV):List PV->Option (List PV)
 | []=>some []
 | x::r=>(c x).bind λb=>if b=true then (f x).bind λy=>(eC c f r).map (y::·) else eC c f r
noncomputable def aL:PV->Option Bool
 | .bl b=>some b
 | _=>none
noncomputable abbrev Cal:=Nat->List MV->Option PV
noncomputable def r6:Option MV->Option PV
 | some (.val v)=>some v
 | _=>none
noncomputable def bM:Option MV->Option PV
 | some (.val v)=>some v
 | some (.own xs)=>some (.lst xs)
 | some (.brw xs)=>some (.lst xs)
 | some (.ownD kvs)=>some (.dI kvs)
 | some (.brwD kvs)=>some (.dI kvs)
 | some (.ownL _)=>none
 | none=>none
noncomputable def ff:Option MV->Option MV
 | some (.val v)=>some (.val v)
 | some (.own xs)=>some (.brw xs)
 | some (.brw xs)=>some (.brw xs)
 | some (.ownD xs)=>some (.brwD xs)
 | some (.brwD xs)=>some (.brwD xs)
 | some (.ownL _)=>none
 | none=>none
noncomputable def dZ:Option MV->Option MV
 | some (.own xs)=>some (.brw xs)
 | some (.ownD xs)=>some (.brwD xs)
 | some (.ownL _)=>none
 | o=>o
noncomputable def fh (js:List Nat) (ρ:Rho) (x:PV):Rho:=some (.val x)::js.map λj=>dZ (ρ[j]?).join
noncomputable def xm:Option MV->Option PV
 | some (.ownL xss)=>some (.int xss.length)
 | _=>none
noncomputable def r9:Option MV->PV->Option PV
 | some (.ownL xss),.int j=>(place xss.length j).bind λq=>(xss[q]?).map λxs=>.int xs.length
 | _,_=>none
mutual
noncomputable def ev (cal:Cal):ME->Rho->Option PV
 | .var i,ρ=>r6 (ρ[i]?).join
 | .bor i,ρ=>bM (ρ[i]?).join
 | .cst v,_=>some v
 | .glob _ v,_=>some v
 | .bin op a b,ρ=>(ev cal a ρ).bind λx=>(ev cal b ρ).bind λy=>gc op x y
 | .neg a,ρ=>(ev cal a ρ).bind λx=>match x with|.int i=>some (.int (-i))|_=>none
 | .not a,ρ=>((ev cal a ρ).bind aL).map λb=>.bl (!b)
 | .and a b,ρ=>((ev cal a ρ).bind aL).bind λc=>if c=true then (ev cal b ρ).bind λy=>(aL y).map .bl else some (.bl false)
 | .or a b,ρ=>((ev cal a ρ).bind aL).bind λc=>if c=true then some (.bl true) else (ev cal b ρ).bind λy=>(aL y).map .bl
 | .ite c a b,ρ=>((ev cal c ρ).bind aL).bind λk=>if k=true then ev cal a ρ else ev cal b ρ
 | .cmp op a b,ρ=>(ev cal a ρ).bind λx=>(ev cal b ρ).bind λy=>(bX op x y).map .bl
 | .chain op op' a b c,ρ=>(ev cal a ρ).bind λx=>(ev cal b ρ).bind λy=>(bX op x y).bind λk=>if k=true then (ev cal c ρ).bind λz=>(bX op' y z).map .bl else some (.bl false)
 | .tup es,ρ=>(evs cal es ρ).bind λvs=>if vs.length <= 10000 then some (.tup vs) else none
 | .lst es,ρ=>(evs cal es ρ).bind λvs=>if vs.length <= 10000 then some (.lst vs) else none
 | .idx a i,ρ=>(ev cal a ρ).bind λx=>(ev cal i ρ).bind λy=>kX x y
 | .slice a lo hi,ρ=>(ev cal a ρ).bind λx=>((ev cal lo ρ).bind λl=>bnd lo l).bind λl=>((ev cal hi ρ).bind λh=>bnd hi h).bind λh=>iX x l h
 | .blt b es,ρ=>(evs cal es ρ).bind λvs=>aq b vs
 | .call f es,ρ=>(evA cal es ρ).bind λvs=>cal f vs
 | .callD f es d,ρ=>(evA cal es ρ).bind λvs=>cal f (vs ++ d.map λx=>.val x.pv)
 | .comp k src js cond elt,ρ=>(evs cal src ρ).bind λvs=>(dA k vs).bind λxs =>
   if xs.length <= 10000 then (eC (λx=>(ev cal cond (fh js ρ x)).bind aL) (λx=>ev cal elt (fh js ρ x)) xs).map .lst else none
 | .dget a k d,ρ=>(ev cal a ρ).bind λx=>(ev cal k ρ).bind λy=>(ev cal d ρ).bind λz=>(rW x y).bind λo=>(sc? z).map λs=>(o.getD s).pv
 | .dat a k,ρ=>(ev cal a ρ).bind λx=>(ev cal k ρ).bind λy=>(rW x y).bind λo=>o.map Sc.pv
 | .dIn neg k a,ρ=>(ev cal k ρ).bind λy=>(ev cal a ρ).bind λx=>(rW x y).map λo=>.bl (if neg=true then !o.isSome else o.isSome)
 | .lenL i,ρ=>xm (ρ[i]?).join
 | .lenI i k,ρ=>(ev cal k ρ).bind λkv=>r9 (ρ[i]?).join kv
noncomputable def evs (cal:Cal):List ME->Rho->Option (List PV)
 | [],_=>some []
 | e::es,ρ=>(ev cal e ρ).bind λv=>(evs cal es ρ).map (v::·)
noncomputable def evA (cal:Cal):List ME->Rho->Option (List MV)
 | [],_=>some []
 | .bor i::es,ρ=>(ff (ρ[i]?).join).bind λv=>(evA cal es ρ).map (v::·)
 | e::es,ρ=>(ev cal e ρ).bind λv=>(evA cal es ρ).map (MV.val v::·)
end
noncomputable def evB (cal:Cal) (e:ME) (ρ:Rho):Option Bool:=(ev cal e ρ).bind aL
set_option genInjectivity false in
inductive HA where
 | cst (v:PV)
 | isi (c:Str)
 | inc (i:Nat) (m:Int)
 deriving Inhabited
inductive HE where
 | one (a:HA)
 | lst (as:List HA)
 deriving Inhabited
structure HH where
 cls:Str
 e:Option Nat
 i:Nat
 v:HE
 deriving Inhabited
noncomputable def gx (c d:Str):Bool:=d == c || d == ("LoomError":Str)
noncomputable def HA.val (c:Str) (ρ:Rho):HA->Option Sc
 | .cst v=>sc? v
 | .isi d=>some (.bl (d == ("ValueError":Str) || gx c d))
 | .inc i m=>match (ρ[i]?).join with
  | some (.val (.int n))=>some (.int (n + m))
  | _=>none
noncomputable def HA.vals (c:Str) (ρ:Rho):List HA->Option (List Sc)
 | []=>some []
 | a::as=>(a.val c ρ).bind λs=>(HA.vals c ρ as).map (s::·)
noncomputable def HE.val (c:Str) (ρ:Rho):HE->Option PV
 | .one a=>(a.val c ρ).map Sc.pv
 | .lst as=>if as.length <= 100 then (HA.vals c ρ as).map λss=>.lst (ss.map Sc.pv) else none
noncomputable def HH.free (ρ:Rho) (h:HH):Bool:=match h.e with
 | none=>true
 | some k=>(ρ[k]?).join.isNone
inductive MS where
 | set (i:Nat) (e:ME)
 | setOwn (i:Nat) (e:ME)
 | freeze (i:Nat)
 | append (i:Nat) (e:ME)
 | extend (i:Nat) (e:ME)
 | setL (i n:Nat)
 | setLN (i:Nat) (e:ME)
 | appI (i:Nat) (k e:ME)
 | freezeL (i:Nat)
 | raise (c:Str)
 | tryC (j:Option Nat) (f:Nat) (es:List ME) (hs:List HH)
 | setU (i f:Nat) (es:List ME) (x:Str) (k:Int) (c:Str)
 | retMany (e:ME)
 | setIdx (i:Nat) (k v:ME)
 | unpack (is:List Nat) (e:ME)
 | expr (e:ME)
 | ite (c:ME) (a b:List MS)
 | for1 (i:Nat) (k:Sk) (src:List ME) (body:List MS)
 | forT (is:List Nat) (k:Sk) (src:List ME) (body:List MS)
 | while (n:Nat) (c:ME) (body:List MS)
 | ret (e:ME)
 | retOwn (i:Nat)
 | retN
 | brk
 | cont
 | pass
 | never
 | newD (m:Bool) (i:Nat)
 | retF (e:ME)
 | setCall (i f:Nat) (es:List ME)
 | clear (i:Nat)
 | dput (i:Nat) (k v:ME)
 deriving Inhabited
inductive R where
 | next (ρ:Rho)|brk (ρ:Rho)|cont (ρ:Rho)|ret (v:PV)|bad
 | retF (xs:List PV)
 deriving Inhabited
noncomputable def R.andThen:R->(Rho->R)->R
 | .next ρ,k=>k ρ
 | r,_=>r
noncomputable def put (ρ:Rho) (i:Nat) (v:MV):Rho:=ρ.set i (some v)
noncomputable def cZ (o:Option PV) (k:PV->R):R:=match o with
 | some v=>k v
 | none=>.bad
noncomputable def mO (o:Option Bool) (k:Bool->R):R:=match o with
 | some v=>k v
 | none=>.bad
noncomputable def zE:List Nat->List PV->Rho->Option Rho
 | [],[],ρ=>some ρ
 | i::is,v::vs,ρ=>zE is vs (put ρ i (.val v))
 | _,_,_=>none
noncomputable def v_ (is:List Nat):PV->Rho->Option Rho
 | .tup vs,ρ=>zE is vs ρ
 | _,_=>none
noncomputable def gM (o:Option Rho) (f:Rho->R):R:=match o with
 | some ρ=>f ρ
 | none=>.bad
noncomputable def aE (body:PV->Rho->R):List PV->Rho->R
 | [],ρ=>.next ρ
 | x::r,ρ=>match body x ρ with
  | .next ρ'=>aE body r ρ'
  | .cont ρ'=>aE body r ρ'
  | .brk ρ'=>.next ρ'
  | .ret v=>.ret v
  | .bad=>.bad
  | .retF xs=>.retF xs
noncomputable def lS (c:Rho->Option Bool) (body:Rho->R):Nat->Rho->R
 | 0,_=>.bad
 | n + 1,ρ=>match c ρ with
  | none=>.bad
  | some false=>.next ρ
  | some true=>match body ρ with
   | .next ρ'=>lS c body n ρ'
   | .cont ρ'=>lS c body n ρ'
   | .brk ρ'=>.next ρ'
   | .ret v=>.ret v
   | .bad=>.bad
   | .retF xs=>.retF xs
noncomputable def bA (src:List ME) (ρ:Rho):Rho:=match src with
 | [.bor i]=>(match (ρ[i]?).join with|some (.own xs)=>put ρ i (.brw xs)|_=>ρ)
 | _=>ρ
noncomputable def aN (src:List ME) (ρ₀ ρ:Rho):Rho:=match src with
 | [.bor i]=>(match (ρ₀[i]?).join,(ρ[i]?).join with|some (.own _),some (.brw xs)=>put ρ i (.own xs)|_,_=>ρ)
 | _=>ρ
noncomputable def R.back (src:List ME) (ρ₀:Rho):R->R
 | .next ρ=>.next (aN src ρ₀ ρ)
 | .brk ρ=>.brk (aN src ρ₀ ρ)
 | .cont ρ=>.cont (aN src ρ₀ ρ)
 | r=>r
noncomputable def isL:MV->Bool
 | .ownL _=>true
 | _=>false
noncomputable def noL (ρ:Rho):Bool:=ρ.all λo=>match o with|some m=>!isL m|none=>true
noncomputable def qt (xss:List (List PV)) (k v:PV):Option (List (List PV)):=match k with
 | .int j=>(place xss.length j).bind λq=>(xss[q]?).bind λxs=>if xs.length < 10000 then some (xss.set q (xs ++ [v])) else none
 | _=>none
mutual
noncomputable def ex (cal:Cal):MS->Rho->R
 | .set i e,ρ=>cZ (ev cal e ρ) λv=>.next (put ρ i (.val v))
 | .setOwn i e,ρ=>cZ (ev cal e ρ) λv=>match v with|.lst xs=>.next (put ρ i (.own xs))|_=>.bad
 | .freeze i,ρ=>match (ρ[i]?).join with|some (.own xs)=>.next (put ρ i (.val (.lst xs)))|some _=>.next ρ|none=>.bad
 | .append i e,ρ=>cZ (ev cal e ρ) λv=>match (ρ[i]?).join with
  | some (.own xs)=>if xs.length < 10000 then .next (put ρ i (.own (xs ++ [v]))) else .bad
  | _=>.bad
 | .extend i e,ρ=>cZ (ev cal e ρ) λv=>match (ρ[i]?).join,aI v with
  | some (.own xs),some ys=>if xs.length + ys.length <= 10000 then .next (put ρ i (.own (xs ++ ys))) else .bad
  | _,_=>.bad
 | .setLN i e,ρ=>match ev cal e ρ with
  | some (.int n)=>if noL ρ=true/\0 <= n/\n <= 10000 then .next (put ρ i (.ownL (List.replicate n.toNat []))) else .bad
  | _=>.bad
 | .setL i n,ρ=>if noL ρ=true/\n <= 10000 then .next (put ρ i (.ownL (List.replicate n []))) else .bad
 | .appI i k e,ρ=>cZ (ev cal k ρ) λk=>cZ (ev cal e ρ) λv=>match (ρ[i]?).join with
  | some (.ownL xss)=>(match qt xss k v with|some yss=>.next (put ρ i (.ownL yss))|none=>.bad)
  | _=>.bad
 | .freezeL i,ρ=>match (ρ[i]?).join with|some (.ownL xss)=>.next (put ρ i (.val (.lst (xss.map .lst))))|_=>.bad
 | .raise _,_=>.bad
 | .setU i f es x k _,ρ=>cZ (ev cal (.call f es) ρ) λv=>mO (evB cal (.cmp .gt (.blt .len [.bor i]) (.glob x (.int k))) (put ρ i (.val v))) λp=>if p=true then .bad else .next (put ρ i (.val v))
 | .retMany e,ρ=>cZ (ev cal (.blt .tupleOf [.blt .sorted [e]]) ρ) .ret
 | .tryC j f es hs,ρ=>match (evA cal es ρ).bind λvs=>cal (f + 5000) vs with
  | some (.tup [v])=>(match j with
   | some j=>.next (put ρ j (.val v))
   | none=>.next ρ)
  | some (.str c)=>(match hs.find? λh=>gx c h.cls with
   | some h=>(match h.v.val c ρ with
    | some v=>if h.free ρ=true then .next (put ρ h.i (.val v)) else .bad
    | none=>.bad)
   | none=>.bad)
  | _=>.bad
 | .setIdx i k v,ρ=>cZ (ev cal v ρ) λv=>cZ (ev cal k ρ) λk=>match (ρ[i]?).join,k with
  | some (.own xs),.int k=>(match place xs.length k with|some j=>.next (put ρ i (.own (xs.set j v)))|none=>.bad)
  | _,_=>.bad
 | .unpack is e,ρ=>cZ (ev cal e ρ) λv=>gM (v_ is v ρ) .next
 | .expr e,ρ=>cZ (ev cal e ρ) λ_=>.next ρ
 | .ite c a b,ρ=>mO (evB cal c ρ) λk=>if k=true then exs cal a ρ else exs cal b ρ
 | .for1 i k src body,ρ=>match (evs cal src ρ).bind (dA k) with
  | some xs=>(aE (λx ρ'=>exs cal body (put ρ' i (.val x))) xs (bA src ρ)).back src ρ
  | none=>.bad
 | .forT is k src body,ρ=>match (evs cal src ρ).bind (dA k) with
  | some xs=>(aE (λx ρ'=>gM (v_ is x ρ') λρ''=>exs cal body ρ'') xs (bA src ρ)).back src ρ
  | none=>.bad
 | .while n c body,ρ=>lS (evB cal c) (λρ'=>exs cal body ρ') n ρ
 | .ret e,ρ=>cZ (ev cal e ρ) .ret
 | .retOwn i,ρ=>match (ρ[i]?).join with|some (.own xs)=>.ret (.lst xs)|some (.ownD kvs)=>.ret (.dI kvs)|some (.val v)=>.ret v|_=>.bad
 | .newD m i,ρ=>.next (put ρ i (.ownD (if m=true then .t [] else .k [])))
 | .dput i k v,ρ=>cZ (ev cal v ρ) λv=>cZ (ev cal k ρ) λk=>match (ρ[i]?).join,sc? v with
  | some (.ownD d),some s=>match xl d k s with|some d'=>.next (put ρ i (.ownD d'))|none=>.bad
  | _,_=>.bad
 | .retF e,ρ=>cZ (ev cal e ρ) λv=>match v with|.lst xs=>.retF xs|_=>.bad
 | .setCall i f es,ρ=>cZ ((evA cal es ρ).bind λvs=>cal (f + 1000) vs) λv=>match v with|.lst xs=>.next (put ρ i (.own xs))|_=>.bad
 | .clear i,ρ=>match (ρ[i]?).join with|some (.own _)=>.next (put ρ i (.own []))|_=>.bad
 | .retN,_=>.ret .non
 | .brk,ρ=>.brk ρ
 | .cont,ρ=>.cont ρ
 | .pass,ρ=>.next ρ
 | .never,_=>.bad
noncomputable def exs (cal:Cal):List MS->Rho->R
 | [],ρ=>.next ρ
 | s::ss,ρ=>(ex cal s ρ).andThen λρ'=>exs cal ss ρ'
end
structure MD where
 name:Str
 params:List Str
 names:List Str
 body:List MS
 deriving Inhabited
inductive RE where
 | fin (r:R)|err (c:Str)
noncomputable def iV:MS->Bool
 | .freeze _=>true
 | .freezeL _=>true
 | _=>false
noncomputable def RE.back (src:List ME) (ρ₀:Rho):RE->RE
 | .fin r=>.fin (r.back src ρ₀)
 | .err c=>.err c
mutual
noncomputable def exE (cal:Cal):MS->Rho->RE
 | .raise k,_=>.err k
 | .setU i f es x k c,ρ=>(match ev cal (.call f es) ρ with
  | some v=>(match evB cal (.cmp .gt (.blt .len [.bor i]) (.glob x (.int k))) (put ρ i (.val v)) with
   | some p=>if p=true then .err c else .fin (.next (put ρ i (.val v)))
   | none=>.fin .bad)
  | none=>(match (evA cal es ρ).bind (cal (f + 7000)) with
   | some (.int n)=>if (k < n/\(ρ[i]?).join.isNone=true) then .err c else .fin .bad
   | _=>.fin .bad))
 | .ite c a b,ρ=>(match evB cal c ρ with
  | some k=>if k=true then exsE cal a ρ else exsE cal b ρ
  | none=>.fin .bad)
 | m,ρ=>.fin (ex cal m ρ)
noncomputable def exsE (cal:Cal):List MS->Rho->RE
 | [],ρ=>.fin (.next ρ)
 | m::ms,ρ=>if iV m=true then .fin .bad else (match exE cal m ρ with
  | .fin (.next ρ')=>exsE cal ms ρ'
  | r=>r)
end
noncomputable def r_:RE->Option PV
 | .fin (.next _)=>some (.tup [.non])
 | .fin (.ret v)=>some (.tup [v])
 | .err c=>some (.str c)
 | _=>none
noncomputable def zF:MS->Option ME
 | .retMany e=>some e
 | _=>none
noncomputable def jF (cal:Cal):List MS->Rho->Option PV
 | [m],ρ=>(zF m).bind λe=>(ev cal e ρ).bind λv=>(aI v).bind λxs=>(dt xs).bind λts=>if 64 <= ts.length/\ts.length <= 10000 then some (.int ts.length) else none
 | _,_=>none
noncomputable def af (ds:List MD):Nat->Cal
 | 0,_,_=>none
 | n + 1,f,args=>match ds[f]? with
  | none=>if 7000 <= f then (match ds[f - 7000]? with
   | none=>none
   | some d=>if args.length=d.params.length then jF (af ds n) d.body (args.map some ++ List.replicate (d.names.length - args.length) none) else none) else if 2000 <= f then (match ds[f - 5000]? with
   | none=>none
   | some d=>if args.length=d.params.length then r_ (exsE (af ds n) d.body (args.map some ++ List.replicate (d.names.length - args.length) none)) else none) else
   (match ds[f - 1000]? with
   | none=>none
   | some d=>if args.length=d.params.length then
     (match exs (af ds n) d.body (args.map some ++ List.replicate (d.names.length - args.length) none) with
     | .retF xs=>some (.lst xs)
     | _=>none) else none)
  | some d=>if args.length=d.params.length then
    (match exs (af ds n) d.body (args.map some ++ List.replicate (d.names.length - args.length) none) with
    | .next _=>some .non
    | .ret v=>some v
    | .retF xs=>some (.lst xs)
    | _=>none) else none
end MM
namespace MM
open PySem PySem.Spec PyProof.Rows L2
noncomputable abbrev St:=L2.St
noncomputable def ai (H:Hp) (O:List Addr):Hp:=λb=>if b ∈ O then none else H b
theorem lU {H:Hp}{O:List Addr}{b:Addr} (h:b ∈ O):ai H O b=none:=if_pos h
theorem bH {H:Hp}{O:List Addr}{b:Addr} (h:b ∉ O):ai H O b=H b:=if_neg h
theorem ag.rd {H H':Hp} (s:ag H H') {a:Addr}{u:HO} (h:Rd H a u):Rd H' a u:=h.elim (λe=>.inl (s a _ e)) λ⟨o,e⟩=>.inr ⟨o,s a _ e⟩
theorem bK (H:Hp) (O:List Addr):ag (ai H O) H:=λb u e=>by
 unfold ai at e
 split at e
 ·cases e
 ·exact e
theorem bf {H H':Hp}{O O':List Addr} (s:ag H H') (h:∀ b ∈ O',b ∈ O \/ H b=none):ag (ai H O) (ai H' O'):=λb u e=>by
 have hb:b ∉ O:=λz=>by rw [lU z] at e;cases e
 rw [bH hb] at e
 rw [bH]
 ·exact s b u e
 ·intro z
  rcases h b z with q|q
  ·exact hb q
  ·rw [q] at e;cases e
theorem ax {H H':Hp}{O:List Addr} (s:ag H H'):ag (ai H O) (ai H' O):=bf s λ_ h=>.inl h
noncomputable def Sc.v:Sc->V
 | .non=>.non
 | .bl b=>.bl b
 | .int i=>.int i
 | .str x=>.str x
noncomputable def nV (kvs:List (Int × Sc)):List (Key × V):=kvs.map λp=>(Sum.inl p.1,p.2.v)
noncomputable def u1 (kvs:List (List Int × Sc)):List (List Key × V):=kvs.map λp=>(p.1.map Sum.inl,p.2.v)
noncomputable def ix:DD->HO
 | .k kvs=>.dK (nV kvs)
 | .t kvs=>.dT (u1 kvs)
mutual
noncomputable def Rep (K:PySem.W.Frag) (F:Hp):PV->V->Prop
 | .non,u=>u=.non
 | .bl b,u=>u=.bl b
 | .int i,u=>u=.int i
 | .str x,u=>u=.str x
 | .tup xs,u=>∃ a us,u=.ref a/\F a=some (.tup us)/\Reps K F xs us
 | .lst xs,u=>∃ a us,u=.ref a/\SqL K F a us/\Reps K F xs us
 | .dI kvs,u=>∃ a,u=.ref a/\Rd F a (ix kvs)
noncomputable def Reps (K:PySem.W.Frag) (F:Hp):List PV->List V->Prop
 | [],us=>us=[]
 | x::xs,us=>∃ u r,us=u::r/\Rep K F x u/\Reps K F xs r
end
section
variable {K:PySem.W.Frag}{F F':Hp}
mutual
theorem Rep.mono (s:ag F F'):∀ (x:PV) {u:V},Rep K F x u->Rep K F' x u
 | .non,_,h=>by simpa only [Rep] using h
 | .bl _,_,h=>by simpa only [Rep] using h
 | .int _,_,h=>by simpa only [Rep] using h
 | .str _,_,h=>by simpa only [Rep] using h
 | .tup xs,_,h=>by
  rw [Rep] at h ⊢
  obtain ⟨a,us,e,q,r⟩:=h
  exact ⟨a,us,e,s a _ q,Reps.mono s xs r⟩
 | .lst xs,_,h=>by
  rw [Rep] at h ⊢
  obtain ⟨a,us,e,q,r⟩:=h
  exact ⟨a,us,e,s.seq q,Reps.mono s xs r⟩
 | .dI kvs,_,h=>by
  rw [Rep] at h ⊢
  obtain ⟨a,e,q⟩:=h
  exact ⟨a,e,ag.rd s q⟩
theorem Reps.mono (s:ag F F'):∀ (xs:List PV) {us:List V},Reps K F xs us->Reps K F' xs us
 | [],_,h=>by simpa only [Reps] using h
 | x::xs,_,h=>by
  rw [Reps] at h ⊢
  obtain ⟨u,r,e,q,t⟩:=h
  exact ⟨u,r,e,Rep.mono s x q,Reps.mono s xs t⟩
end
theorem Reps.nil:Reps K F [] []:=by rw [Reps]
theorem Reps.cons {x:PV}{xs:List PV}{u:V}{us:List V} (h:Rep K F x u) (t:Reps K F xs us):Reps K F (x::xs) (u::us):=by
 rw [Reps];exact ⟨u,us,rfl,h,t⟩
theorem Reps.length:∀ {xs:List PV}{us:List V},Reps K F xs us->xs.length=us.length
 | [],_,h=>by rw [Reps] at h;subst h;rfl
 | x::xs,_,h=>by
  rw [Reps] at h
  obtain ⟨u,r,e,_,t⟩:=h
  subst e
  simp [Reps.length t]
theorem Reps.get:∀ {xs:List PV}{us:List V}{i:Nat}{x:PV},Reps K F xs us->xs[i]?=some x->∃ u,us[i]?=some u/\Rep K F x u
 | [],_,_,_,_,e=>by simp at e
 | x::xs,_,i,y,h,e=>by
  rw [Reps] at h
  obtain ⟨u,r,rfl,q,t⟩:=h
  cases i with
  | zero=>simp at e;subst e;exact ⟨u,by simp,q⟩
  | succ i=>obtain ⟨w,h1,h2⟩:=Reps.get (i:=i) t (by simpa using e);exact ⟨w,by simpa using h1,h2⟩
theorem Reps.get':∀ {xs:List PV}{us:List V}{i:Nat}{u:V},Reps K F xs us->us[i]?=some u->∃ x,xs[i]?=some x/\Rep K F x u
 | [],_,i,_,h,e=>by rw [Reps] at h;subst h;simp at e
 | x::xs,_,i,y,h,e=>by
  rw [Reps] at h
  obtain ⟨u,r,rfl,q,t⟩:=h
  cases i with
  | zero=>simp at e;subst e;exact ⟨x,by simp,q⟩
  | succ i=>obtain ⟨w,h1,h2⟩:=Reps.get' (i:=i) t (by simpa using e);exact ⟨w,by simpa using h1,h2⟩
theorem Reps.append:∀ {xs ys:List PV}{us ws:List V},Reps K F xs us->Reps K F ys ws->Reps K F (xs ++ ys) (us ++ ws)
 | [],_,_,_,h,g=>by rw [Reps] at h;subst h;exact g
 | x::xs,_,_,_,h,g=>by
  rw [Reps] at h
  obtain ⟨u,r,rfl,q,t⟩:=h
  exact .cons q (Reps.append t g)
theorem Reps.snoc {xs:List PV}{us:List V}{x:PV}{u:V} (h:Reps K F xs us) (g:Rep K F x u):Reps K F (xs ++ [x]) (us ++ [u]):=h.append (.cons g .nil)
theorem Reps.take:∀ {xs:List PV}{us:List V} (n:Nat),Reps K F xs us->Reps K F (xs.take n) (us.take n)
 | _,_,0,_=>by simpa using Reps.nil
 | [],_,n + 1,h=>by rw [Reps] at h;subst h;simpa using Reps.nil
 | x::xs,_,n + 1,h=>by
  rw [Reps] at h
  obtain ⟨u,r,rfl,q,t⟩:=h
  exact .cons q (Reps.take n t)
theorem Reps.drop:∀ {xs:List PV}{us:List V} (n:Nat),Reps K F xs us->Reps K F (xs.drop n) (us.drop n)
 | _,_,0,h=>h
 | [],_,n + 1,h=>by rw [Reps] at h;subst h;simpa using Reps.nil
 | x::xs,_,n + 1,h=>by
  rw [Reps] at h
  obtain ⟨u,r,rfl,q,t⟩:=h
  exact Reps.drop n t
theorem Reps.set:∀ {xs:List PV}{us:List V}{x:PV}{u:V} (n:Nat),Reps K F xs us->Rep K F x u->Reps K F (xs.set n x) (us.set n u)
 | [],_,_,_,n,h,_=>by rw [Reps] at h;subst h;simpa using Reps.nil
 | x::xs,_,_,_,0,h,g=>by
  rw [Reps] at h
  obtain ⟨u,r,rfl,q,t⟩:=h
  exact .cons g t
 | x::xs,_,_,_,n + 1,h,g=>by
  rw [Reps] at h
  obtain ⟨u,r,rfl,q,t⟩:=h
  exact .cons q (Reps.set n t g)
theorem Reps.ints:∀ {ns:List Int}{us:List V},Reps K F (ns.map .int) us->us=ns.map V.int
 | [],_,h=>by simpa [Reps] using h
 | n::ns,_,h=>by
  rw [List.map_cons,Reps] at h
  obtain ⟨u,r,rfl,q,t⟩:=h
  rw [Rep] at q
  rw [q,Reps.ints t];rfl
theorem Reps.of_ints:∀ (ns:List Int),Reps K F (ns.map .int) (ns.map V.int)
 | []=>.nil
 | n::ns=>.cons (by rw [Rep]) (Reps.of_ints ns)
theorem gN:∀ {xs:List PV}{ns:List Int},aY xs=some ns->xs=ns.map .int
 | [],_,h=>by simp [aY] at h;subst h;rfl
 | .int i::r,ns,h=>by
  simp only [aY,Option.map_eq_some_iff] at h
  obtain ⟨ms,h1,rfl⟩:=h
  rw [gN h1];rfl
 | .non::_,_,h=>by simp [aY] at h
 | .bl _::_,_,h=>by simp [aY] at h
 | .str _::_,_,h=>by simp [aY] at h
 | .tup _::_,_,h=>by simp [aY] at h
 | .lst _::_,_,h=>by simp [aY] at h
 | .dI _::_,_,h=>by simp [aY] at h
theorem jG:∀ {xs:List PV}{ns:List (List Int)},dt xs=some ns->xs=ns.map λt=>.tup (t.map .int)
 | [],_,h=>by simp [dt] at h;subst h;rfl
 | .tup i::r,ns,h=>by
  simp only [dt,Option.bind_eq_some_iff,Option.map_eq_some_iff] at h
  obtain ⟨t,h0,ms,h1,rfl⟩:=h
  rw [jG h1,gN h0];rfl
 | .non::_,_,h=>by simp [dt] at h
 | .bl _::_,_,h=>by simp [dt] at h
 | .str _::_,_,h=>by simp [dt] at h
 | .int _::_,_,h=>by simp [dt] at h
 | .lst _::_,_,h=>by simp [dt] at h
 | .dI _::_,_,h=>by simp [dt] at h
theorem iy:∀ {xs:List PV}{ns:List Bool},bY xs=some ns->xs=ns.map .bl
 | [],_,h=>by simp [bY] at h;subst h;rfl
 | .bl i::r,ns,h=>by
  simp only [bY,Option.map_eq_some_iff] at h
  obtain ⟨ms,h1,rfl⟩:=h
  rw [iy h1];rfl
 | .non::_,_,h=>by simp [bY] at h
 | .int _::_,_,h=>by simp [bY] at h
 | .str _::_,_,h=>by simp [bY] at h
 | .tup _::_,_,h=>by simp [bY] at h
 | .lst _::_,_,h=>by simp [bY] at h
 | .dI _::_,_,h=>by simp [bY] at h
end
noncomputable def ba (K:PySem.W.Frag) (H:Hp) (O:List Addr) (v:PV) (u:V):Prop :=
 Rep K (ai H O) v u \/ (∃ xs a us,v=.lst xs/\u=.ref a/\SqL K H a us/\Reps K (ai H O) xs us) \/ ∃ kvs a,v=.dI kvs/\u=.ref a/\Rd H a (ix kvs)
section
variable {K:PySem.W.Frag}{H H':Hp}{O:List Addr}
theorem ba.of {v:PV}{u:V} (h:Rep K (ai H O) v u):ba K H O v u:=.inl h
theorem ba.mono (s:ag H H') {v:PV}{u:V} (h:ba K H O v u):ba K H' O v u:=by
 rcases h with h|⟨xs,a,us,e1,e2,q,r⟩|⟨kvs,a,e1,e2,q⟩
 ·exact .inl (Rep.mono (ax s) _ h)
 ·exact .inr (.inl ⟨xs,a,us,e1,e2,s.seq q,Reps.mono (ax s) _ r⟩)
 ·exact .inr (.inr ⟨kvs,a,e1,e2,ag.rd s q⟩)
theorem ba.lst {xs:List PV}{u:V} (h:ba K H O (.lst xs) u):∃ a us,u=.ref a/\SqL K H a us/\Reps K (ai H O) xs us:=by
 rcases h with h|⟨ys,a,us,e1,e2,q,r⟩|⟨kvs,a,e1,e2,q⟩
 ·rw [Rep] at h
  obtain ⟨a,us,e,q,r⟩:=h
  exact ⟨a,us,e,(bK H O).seq q,r⟩
 ·cases e1
  exact ⟨a,us,e2,q,r⟩
 ·cases e1
theorem ba.tupH {xs:List PV}{u:V} (h:ba K H O (.tup xs) u):∃ a us,u=.ref a/\H a=some (.tup us)/\Reps K (ai H O) xs us:=by
 rcases h with h|⟨ys,a,us,e1,e2,q,r⟩|⟨kvs,a,e1,e2,q⟩
 ·rw [Rep] at h
  obtain ⟨a,us,e,q,r⟩:=h
  exact ⟨a,us,e,bK H O a _ q,r⟩
 ·cases e1
 ·cases e1
theorem ba.tup {xs:List PV}{u:V} (h:ba K H O (.tup xs) u):∃ a us,u=.ref a/\SqT K H a us/\Reps K (ai H O) xs us:=by
 obtain ⟨a,us,e,q,r⟩:=h.tupH
 exact ⟨a,us,e,SqT.of q,r⟩
theorem ba.tupR {xs:List PV}{u:V} (h:ba K H O (.tup xs) u):Rep K (ai H O) (.tup xs) u:=by
 rcases h with h|⟨ys,a,us,e1,e2,q,r⟩|⟨kvs,a,e1,e2,q⟩
 ·exact h
 ·cases e1
 ·cases e1
theorem ba.dI {kvs:DD}{u:V} (h:ba K H O (.dI kvs) u):∃ a,u=.ref a/\Rd H a (ix kvs):=by
 rcases h with h|⟨ys,a,us,e1,e2,q,r⟩|⟨kvs,a,e1,e2,q⟩
 ·rw [Rep] at h
  obtain ⟨a,e,q⟩:=h
  exact ⟨a,e,ag.rd (bK H O) q⟩
 ·cases e1
 ·cases e1
  exact ⟨a,e2,q⟩
theorem ba.int {i:Int}{u:V} (h:ba K H O (.int i) u):u=.int i:=by
 rcases h with h|⟨ys,a,us,e1,e2,q,r⟩|⟨kvs,a,e1,e2,q⟩
 ·rw [Rep] at h;exact h
 ·cases e1
 ·cases e1
theorem ba.bl {i:Bool}{u:V} (h:ba K H O (.bl i) u):u=.bl i:=by
 rcases h with h|⟨ys,a,us,e1,e2,q,r⟩|⟨kvs,a,e1,e2,q⟩
 ·rw [Rep] at h;exact h
 ·cases e1
 ·cases e1
theorem ba.str {i:Str}{u:V} (h:ba K H O (.str i) u):u=.str i:=by
 rcases h with h|⟨ys,a,us,e1,e2,q,r⟩|⟨kvs,a,e1,e2,q⟩
 ·rw [Rep] at h;exact h
 ·cases e1
 ·cases e1
theorem ba.non {u:V} (h:ba K H O .non u):u=.non:=by
 rcases h with h|⟨ys,a,us,e1,e2,q,r⟩|⟨kvs,a,e1,e2,q⟩
 ·rw [Rep] at h;exact h
 ·cases e1
 ·cases e1
theorem ba.seq {v:PV}{xs:List PV}{u:V} (h:ba K H O v u) (e:aI v=some xs):∃ a us,u=.ref a/\(SqL K H a us \/ SqT K H a us)/\Reps K (ai H O) xs us:=by
 cases v with
 | lst ys=>simp [aI] at e;subst e;obtain ⟨a,us,e,q,r⟩:=h.lst;exact ⟨a,us,e,.inl q,r⟩
 | tup ys=>simp [aI] at e;subst e;obtain ⟨a,us,e,q,r⟩:=h.tup;exact ⟨a,us,e,.inr q,r⟩
 | _=>simp [aI] at e
theorem ba.whole {v:PV}{u:V} (h:ba K H O v u):Rep K H v u:=by
 rcases h with h|⟨xs,a,us,rfl,e2,q,r⟩|⟨kvs,a,rfl,e2,q⟩
 ·exact Rep.mono (bK H O) _ h
 ·rw [Rep];exact ⟨a,us,e2,q,Reps.mono (bK H O) _ r⟩
 ·rw [Rep];exact ⟨a,e2,q⟩
end
inductive cA (K:PySem.W.Frag) (H:Hp) (O:List Addr) (B:Hp):List (List PV)->List Addr->Prop where
 | nil:cA K H O B [] []
 | cons {xs:List PV}{xss:List (List PV)}{b:Addr}{bs:List Addr}{us:List V} (h:H b=some (.lst us)) (r:Reps K (ai H O) xs us) (ho:b ∈ O) (hb:B b=none) (t:cA K H O B xss bs):cA K H O B (xs::xss) (b::bs)
noncomputable def eE (K:PySem.W.Frag) (B:Hp) (O:List Addr) (H:Hp):MV->V->Prop
 | .val v,u=>Rep K (ai H O) v u
 | .own xs,u=>∃ a us,u=.ref a/\H a=some (.lst us)/\Reps K (ai H O) xs us/\a ∈ O/\B a=none
 | .brw xs,u=>∃ a us,u=.ref a/\SqL K B a us/\Reps K (ai H O) xs us
 | .ownD kvs,u=>∃ a,u=.ref a/\H a=some (ix kvs)/\a ∈ O/\B a=none
 | .ownL xss,u=>∃ a bs,u=.ref a/\H a=some (.lst (bs.map .ref))/\cA K H O B xss bs/\a ∈ O/\B a=none/\(a::bs).Nodup
 | .brwD kvs,u=>∃ a,u=.ref a/\Rd B a (ix kvs)
noncomputable def dO:MV->Bool
 | .own _=>true
 | .ownD _=>true
 | .ownL _=>true
 | _=>false
noncomputable def u2 (H:Hp) (ρ:Rho) (σ:St):Prop:=∀ (i:Nat) (xss:List (List PV)) (a:Addr) (us:List V),ρ[i]?=some (some (.ownL xss))->σ[i]?=some (some (.ref a))->H a=some (.lst us)->∀ (j:Nat) (m:MV),j ≠ i->ρ[j]?=some (some m)->isL m=false/\∀ c,dO m=true->σ[j]?=some (some (.ref c))->V.ref c ∉ us
theorem mP {H:Hp}{ρ:Rho}{σ:St} (h:∀ (i:Nat) (xss:List (List PV)),ρ[i]? ≠ some (some (.ownL xss))):u2 H ρ σ:=λi xss _ _ e=>absurd e (h i xss)
theorem c7 {H H':Hp}{ρ ρ':Rho}{σ σ':St} (h:u2 H ρ σ) (hL:∀ (i:Nat) (xss:List (List PV)),ρ'[i]?=some (some (.ownL xss))->ρ[i]?=some (some (.ownL xss))/\σ'[i]?=σ[i]?/\∀ a us,σ[i]?=some (some (.ref a))->H' a=some (.lst us)->H a=some (.lst us))
  (hj:∀ (j:Nat) (m:MV) (c:Addr),ρ'[j]?=some (some m)->isL m=false->dO m=true->σ'[j]?=some (some (.ref c))->(∃ m0,ρ[j]?=some (some m0)/\dO m0=true/\σ[j]?=some (some (.ref c))) \/ ∀ (i:Nat) (xss:List (List PV)) (a:Addr) (us:List V),ρ[i]?=some (some (.ownL xss))->σ[i]?=some (some (.ref a))->H a=some (.lst us)->V.ref c ∉ us):u2 H' ρ' σ':=λi xss a us e1 e2 e3 j m hji e4=>by
 obtain ⟨f1,f2,f3⟩:=hL i xss e1
 rw [f2] at e2
 have f4:=f3 a us e2 e3
 have hl:isL m=false:=by
  cases q:isL m with
  | false=>rfl
  | true =>
   cases m <;> try (cases q;done)
   have:=(h i xss a us f1 e2 f4 j _ hji (hL j _ e4).1).1
   cases this
 refine ⟨hl,λc o e5=>?_⟩
 rcases hj j m c e4 hl o e5 with ⟨m0,g1,g2,g3⟩|g
 ·exact (h i xss a us f1 e2 f4 j m0 hji g1).2 c g2 g3
 ·exact g i xss a us f1 e2 f4
structure aw (K:PySem.W.Frag) (B:Hp) (O₀ O:List Addr) (H:Hp) (ρ:Rho) (σ:St):Prop where
 keep:ag B H
 here:∀ a ∈ O,H a ≠ none
 sub:∀ a ∈ O₀,a ∈ O
 old:∀ a ∈ O₀,B a ≠ none
 len:ρ.length=σ.length
 slot:∀ (i:Nat) (m:MV),ρ[i]?=some (some m)->∃ u,σ[i]?=some (some u)/\eE K B O H m u
 apart:∀ (i j:Nat) (m m':MV) (a:Addr),i ≠ j->ρ[i]?=some (some m)->ρ[j]?=some (some m')->dO m=true->dO m'=true->σ[i]?=some (some (.ref a))->σ[j]? ≠ some (some (.ref a))
 inn:u2 H ρ σ
section
variable {K:PySem.W.Frag}{B H H':Hp}{O₀ O:List Addr}{ρ:Rho}{σ:St}
theorem cA.mono (s:ag H H') {xss:List (List PV)}{bs:List Addr} (h:cA K H O B xss bs):cA K H' O B xss bs:=by
 induction h with
 | nil=>exact .nil
 | cons h r ho hb t ih=>exact .cons (s _ _ h) (Reps.mono (ax s) _ r) ho hb ih
theorem cA.at {xss:List (List PV)}{bs:List Addr} (h:cA K H O B xss bs):∀ b ∈ bs,H b ≠ none/\b ∈ O/\B b=none:=by
 induction h with
 | nil=>intro b hb;cases hb
 | cons h r ho hb t ih =>
  intro c hc
  rcases List.mem_cons.mp hc with rfl|hc
  ·exact ⟨by rw [h];simp,ho,hb⟩
  ·exact ih c hc
theorem cA.len {xss:List (List PV)}{bs:List Addr} (h:cA K H O B xss bs):xss.length=bs.length:=by
 induction h with
 | nil=>rfl
 | cons _ _ _ _ _ ih=>rw [List.length_cons,List.length_cons,ih]
theorem cA.get {xss:List (List PV)}{bs:List Addr} (h:cA K H O B xss bs):∀ {q:Nat}{xs:List PV},xss[q]?=some xs->∃ b us,bs[q]?=some b/\H b=some (.lst us)/\Reps K (ai H O) xs us/\b ∈ O/\B b=none:=by
 induction h with
 | nil=>intro q xs e;simp at e
 | cons h r ho hb t ih =>
  intro q xs e
  cases q with
  | zero=>simp at e;subst e;exact ⟨_,_,rfl,h,r,ho,hb⟩
  | succ q =>
   obtain ⟨b,us,e1,e2⟩:=ih (q:=q) (xs:=xs) (by simpa using e)
   exact ⟨b,us,by simpa using e1,e2⟩
theorem d5 {b:Addr}{bs:List Addr}:V.ref b ∈ bs.map V.ref ↔ b ∈ bs:=by
 rw [List.mem_map]
 exact ⟨λ⟨c,h,e⟩=>by cases e;exact h,λh=>⟨b,h,rfl⟩⟩
theorem eE.mono (s:ag H H') {m:MV}{u:V} (h:eE K B O H m u):eE K B O H' m u:=by
 cases m with
 | val v=>exact Rep.mono (ax s) _ h
 | own xs=>obtain ⟨a,us,e,q,r,h1,h2⟩:=h;exact ⟨a,us,e,s _ _ q,Reps.mono (ax s) _ r,h1,h2⟩
 | brw xs=>obtain ⟨a,us,e,q,r⟩:=h;exact ⟨a,us,e,q,Reps.mono (ax s) _ r⟩
 | ownD kvs=>obtain ⟨a,e,q,h1,h2⟩:=h;exact ⟨a,e,s _ _ q,h1,h2⟩
 | ownL xss=>obtain ⟨a,bs,e,q,r,h1,h2,h3⟩:=h;exact ⟨a,bs,e,s _ _ q,r.mono s,h1,h2,h3⟩
 | brwD kvs=>exact h
theorem aw.mono (s:ag H H') (h:aw K B O₀ O H ρ σ):aw K B O₀ O H' ρ σ where
 keep:=h.keep.trans s
 here:=λa ha e=>h.here a ha (s.free e)
 sub:=h.sub
 old:=h.old
 len:=h.len
 slot:=λi m e=>let ⟨u,e1,q⟩:=h.slot i m e;⟨u,e1,q.mono s⟩
 apart:=h.apart
 inn:=c7 h.inn (λi xss e=>⟨e,rfl,λa us e1 e2=>by
  obtain ⟨u,e3,a',bs,rfl,q,_⟩:=h.slot i _ e
  rw [e1] at e3
  cases e3
  have:=s _ _ q
  rw [e2] at this
  rw [q,this]⟩) λj m c e _ o e1=>.inl ⟨m,e,o,e1⟩
theorem eE.bor {m:MV}{u:V}{v:PV} (hB:ag B H) (h:eE K B O H m u) (e:bM (some m)=some v):ba K H O v u:=by
 cases m with
 | val w=>simp [bM] at e;subst e;exact .inl h
 | own xs=>simp [bM] at e;subst e;obtain ⟨a,us,e,q,r,_⟩:=h;exact .inr (.inl ⟨xs,a,us,rfl,e,SqL.of q,r⟩)
 | brw xs=>simp [bM] at e;subst e;obtain ⟨a,us,e,q,r⟩:=h;exact .inr (.inl ⟨xs,a,us,rfl,e,hB.seq q,r⟩)
 | ownD kvs=>simp [bM] at e;subst e;obtain ⟨a,e,q,_⟩:=h;exact .inr (.inr ⟨kvs,a,rfl,e,.inl q⟩)
 | ownL _=>simp [bM] at e
 | brwD kvs=>simp [bM] at e;subst e;obtain ⟨a,e,q⟩:=h;exact .inr (.inr ⟨kvs,a,rfl,e,ag.rd hB q⟩)
end
theorem bw {α:Type}{o:Option (Option α)}{x:α} (h:o.join=some x):o=some (some x):=by
 cases o with
 | none=>simp at h
 | some y=>cases y with
  | none=>simp at h
  | some z=>simp at h;rw [h]
end MM
namespace MM
open PySem PySem.Spec PyProof.Rows L2
structure Tab where
 fs:List Str
 gs:List (Str × PV)
 ds:List (List Sc)
 es:List Str
noncomputable def xo (sc:Scope) (x:Str):Bool:=sc.names.lookup x == some .local || sc.names.lookup x == some .cell || sc.names.lookup x == some .free
noncomputable def fA (sc:Scope) (x:Str):Bool:=sc.names.lookup x == some .local || sc.names.lookup x == some .cell
noncomputable def glB (sc:Scope) (x:Str):Bool:=sc.names.lookup x == some .globalImplicit
noncomputable def ah (x:Str):Bool:=!(x == ("__debug__":Str))&&!(x == ("__classdict__":Str))&&!(x == ("__name__":Str))
noncomputable def aD (N:List Str) (sc:Scope) (i:Nat) (x:Str):Bool:=N[i]? == some x&&xo sc x&&ah x
noncomputable def aF:ME->Bool
 | .bor _=>true
 | _=>false
noncomputable def u3:Op2->Operator
 | .add=>.Add|.sub=>.Sub|.mul=>.Mult|.fdiv=>.FloorDiv|.mod=>.Mod|.pow=>.Pow|.shr=>.RShift
noncomputable def qu:Cp->CmpOp
 | .eq=>.Eq|.ne=>.NotEq|.lt=>.Lt|.le=>.LtE|.gt=>.Gt|.ge=>.GtE|.isN=>.Is|.notN=>.IsNot|.isIn=>.In|.notIn=>.NotIn
noncomputable def lV:PV->Const->Bool
 | .non,.none=>true
 | .bl a,.bool b=>a == b
 | .int a,.int b=>a == b
 | .str a,.str b=>a == b
 | _,_=>false
noncomputable def wa:PV->PV->Bool
 | .non,.non=>true
 | .bl a,.bl b=>a == b
 | .int a,.int b=>a == b
 | .str a,.str b=>a == b
 | _,_=>false
noncomputable def sd (gs:List (Str × PV)) (x:Str) (v:PV):Bool:=gs.any λp=>p.1 == x&&wa p.2 v
noncomputable def ak:Expr->Bool
 | .Starred ..=>false
 | _=>true
noncomputable def eU:Expr->Bool
 | .Set ..=>false
 | _=>true
noncomputable def bN:Expr->Bool
 | .Slice ..=>false
 | _=>true
noncomputable def cI:Expr->Bool
 | .ListComp ..=>false
 | .SetComp ..=>false
 | .DictComp ..=>false
 | _=>true
noncomputable def iz:Expr->Bool
 | .UnaryOp .Not _ _=>false
 | .BoolOp ..=>false
 | .IfExp ..=>false
 | .Compare ..=>false
 | _=>true
noncomputable def kY:Blt->String
 | .len=>"len" | .tupleOf=>"tuple" | .listOf=>"list" | .sorted=>"sorted" | .any=>"any" | .all=>"all" | .sum=>"sum" | .max1=>"max" | .min1=>"min" | .max2=>"max" | .min2=>"min"
 | .intOf=>"int" | .boolOf=>"bool" | .isInt=>"isinstance" | .isBool=>"isinstance" | .isStr=>"isinstance" | .isList=>"isinstance" | .isTuple=>"isinstance" | .sortedKeys=>"sorted" | .valuesOf=>"list" | .sortedSet=>"sorted" | .lenSet=>"len" | .lenSetSub=>"len" | .tupleRev=>"tuple"
noncomputable def b0:Blt->Option String
 | .isInt=>some "int" | .isBool=>some "bool" | .isStr=>some "str" | .isList=>some "list" | .isTuple=>some "tuple"
 | _=>none
noncomputable def dF:Blt->Option Nat
 | .len|.tupleOf|.listOf|.sorted|.any|.all|.sum|.intOf|.boolOf|.max1|.sortedKeys=>some 1
 | .max2|.min2=>some 2
 | _=>none
noncomputable def dj (osc:Scope) (N:List Str) (scope:Scope) (x:Str) (fvs:List Str) (js:List Nat):Bool :=
 decide (∀ y ∈ scope.names,y.2=.cell->y.1=x)&&decide (scope.names.lookup x=some .local/\(scope.names.filter λy=>y.2 == .cell)=[] \/ scope.names.lookup x=some .cell/\(scope.names.filter λy=>y.2 == .cell)=[(x,.cell)])
 &&decide (∀ y ∈ scope.names,y.2=.free->y.1 ≠ x)&&scope.kind == .function&&decide (∀ y ∈ scope.names,y.2=.local->scope.names.lookup y.1=some .local)
 &&decide ((x::fvs).Nodup)&&decide (∀ y ∈ scope.names,y.2=.free->osc.names.lookup y.1=some .cell \/ osc.names.lookup y.1=some .free)&&decide ((js.map λj=>N[j]?)=fvs.map some)
 &&decide (∀ y ∈ fvs,scope.names.lookup y=some .free)
noncomputable def bD (N:List Str) (js:List Nat):List Str:=js.map λj=>(N[j]?).getD Str.empty
noncomputable def fB (sc:Scope) (tup:Bool) (f:List Expr->Bool):Sk->Expr->Bool
 | .seq,it=>eU it&&f [it]
 | .rng,.Call (.Name x _) args [] _=>x == ("range":Str)&&glB sc x&&f args&&(args.length == 1 || args.length == 2)
 | .rev,_=>false
 | .enm,_=>false
 | _,_=>false
noncomputable def jH (sc:Scope) (f:List Expr->Bool) (n:Nat) (c:String):List Expr->Bool
 | [x,.Name t _]=>t == (c:Str)&&glB sc t&&f [x]&&n == 1
 | _=>false
noncomputable def se:Expr->Bool
 | .Name _ _=>true
 | .Call _ (_::_) _ _=>true
 | _=>false
noncomputable def cJ (sc:Scope) (f:List Expr->Bool) (n:Nat) (b:Blt) (args:List Expr):Bool:=match b with
 | .sortedSet=>(match args with|[.Call (.Name g _) [x] [] _]=>g == ("set":Str)&&glB sc g&&f [x]&&n == 1|_=>false)
 | .lenSet=>(match args with|[.Call (.Name g _) [x] [] _]=>g == ("set":Str)&&glB sc g&&f [x]&&n == 1|_=>false)
 | .lenSetSub=>false
 | .tupleRev=>false
 | .valuesOf=>false
 | .sortedKeys=>false
 | .max1=>false
 | .sum=>false
 | .intOf=>false
 | .boolOf=>false
 | .isStr=>false
 | .isList=>false
 | b=>match b0 b with
  | some c=>jH sc f n c args
  | none=>dF b == some n&&f args
noncomputable def eF:ME->Bool
 | .cst .non=>true
 | _=>false
noncomputable def fC (f:Expr->Bool) (non:Bool):Option Expr->Bool
 | none=>non
 | some l=>f l&&!non
noncomputable def jI (f:Expr->Bool) (m:ME):List Expr->Bool
 | []=>(match m with|.cst (.bl true)=>true|_=>false)
 | [c]=>f c
 | _=>false
noncomputable def o_ (f:Expr->Bool) (op:BoolOp) (pos:Pos) (y:Expr):List Expr->Bool
 | []=>f y
 | z::r=>f (.BoolOp op (y::z::r) pos)
noncomputable def qv:Expr->Option (Str × Option Str × Option Expr)
 | .Call (.Name x _) [.Name y _] [] _=>some (x,some y,none)
 | .Call (.Name x _) [.Subscript (.Name y _) s _] [] _=>some (x,some y,some s)
 | _=>none
theorem pd {e:Expr}{q:Str × Option Str × Option Expr} (h:qv e=some q):(∃ p yp pos y,e=.Call (.Name q.1 p) [.Name y yp] [] pos/\q.2.1=some y/\q.2.2=none) \/ ∃ p yp sp pos y s,e=.Call (.Name q.1 p) [.Subscript (.Name y yp) s sp] [] pos/\q.2.1=some y/\q.2.2=some s:=by
 unfold qv at h
 split at h
 ·cases h;exact .inl ⟨_,_,_,_,rfl,rfl,rfl⟩
 ·cases h;exact .inr ⟨_,_,_,_,_,_,rfl,rfl,rfl⟩
 ·cases h
mutual
noncomputable def chk (T:Tab):ME->List Str->Scope->Expr->Bool
 | .var i,N,sc,e0=>(match e0 with|.Name x _=>aD N sc i x|_=>false)
 | .bor i,N,sc,e0=>(match e0 with|.Name x _=>aD N sc i x|_=>false)
 | .cst v,_,_,e0=>(match e0 with|.Constant c _ _=>lV v c|_=>false)
 | .glob x v,_,sc,e0=>(match e0 with|.Name y _=>x == y&&glB sc x&&sd T.gs x v&&ah x|_=>false)
 | .bin op a b,N,sc,e0=>(match e0 with|.BinOp l o r _=>o == u3 op&&chk T a N sc l&&chk T b N sc r|_=>false)
 | .neg _,_,_,_=>false
 | .not a,N,sc,e0=>(match e0 with|.UnaryOp .Not e _=>chk T a N sc e|_=>false)
 | .and a b,N,sc,e0=>(match e0 with|.BoolOp .And (x::y::r) pos=>chk T a N sc x&&o_ (λe=>chk T b N sc e) .And pos y r|_=>false)
 | .or a b,N,sc,e0=>(match e0 with|.BoolOp .Or (x::y::r) pos=>chk T a N sc x&&o_ (λe=>chk T b N sc e) .Or pos y r|_=>false)
 | .ite c a b,N,sc,e0=>(match e0 with|.IfExp t x y _=>chk T c N sc t&&chk T a N sc x&&chk T b N sc y&&!aF a&&!aF b|_=>false)
 | .cmp op a b,N,sc,e0=>(match e0 with|.Compare l [o] [r] _=>o == qu op&&chk T a N sc l&&chk T b N sc r&&!behindInMarks o r|_=>false)
 | .chain _ _ _ _ _,_,_,_=>false
 | .tup es,N,sc,e0=>(match e0 with|.Tuple xs _ _=>chks T es N sc xs&&es.all (λe=>!aF e)|_=>false)
 | .lst es,N,sc,e0=>(match e0 with|.List xs _=>chks T es N sc xs&&es.all (λe=>!aF e)|_=>false)
 | .idx a i,N,sc,e0=>(match e0 with|.Subscript v s _=>chk T a N sc v&&chk T i N sc s&&bN s|_=>false)
 | .slice a lo hi,N,sc,e0=>(match e0 with|.Subscript v (.Slice l u none _) _=>chk T a N sc v&&fC (λe=>chk T lo N sc e) (eF lo) l&&fC (λe=>chk T hi N sc e) (eF hi) u|_=>false)
 | .blt b es,N,sc,e0=>(match e0 with|.Call (.Name f _) args [] _=>f == (kY b:Str)&&glB sc f&&cJ sc (λxs=>chks T es N sc xs) es.length b args|_=>false)
 | .call f es,N,sc,e0=>(match e0 with|.Call (.Name x _) args [] _=>T.fs[f]? == some x&&glB sc x&&ah x&&chks T es N sc args|_=>false)
 | .callD _ _ _,_,_,_=>false
 | .comp k src js cond elt,N,sc,e0=>(match e0 with|.ListComp e [⟨.Name x _,it,ifs,0⟩] scope _=>dj sc N scope x (bD N js) js&&fB sc false (λxs=>chks T src N sc xs) k it&&jI (λc=>chk T cond (x::bD N js) (fW scope sc) c) cond ifs&&chk T elt (x::bD N js) (fW scope sc) e&&!aF elt|_=>false)
 | .dget _ _ _,_,_,_=>false
 | .dat _ _,_,_,_=>false
 | .dIn _ _ _,_,_,_=>false
 | .lenL i,N,sc,e0=>(match qv e0 with|some (x,some y,none)=>x == ("len":Str)&&glB sc x&&aD N sc i y|_=>false)
 | .lenI i k,N,sc,e0=>(match qv e0 with|some (x,some y,some s)=>x == ("len":Str)&&glB sc x&&aD N sc i y&&chk T k N sc s&&bN s|_=>false)
noncomputable def chks (T:Tab):List ME->List Str->Scope->List Expr->Bool
 | [],_,_,[]=>true
 | m::ms,N,sc,e::es=>chk T m N sc e&&ak e&&chks T ms N sc es
 | _,_,_,_=>false
end
theorem b9 (T:Tab) (i:Nat) (N:List Str) (sc:Scope) (e0:Expr):chk T (.var i) N sc e0=(match e0 with|.Name x _=>aD N sc i x|_=>false):=rfl
theorem b_ (T:Tab) (i:Nat) (N:List Str) (sc:Scope) (e0:Expr):chk T (.bor i) N sc e0=(match e0 with|.Name x _=>aD N sc i x|_=>false):=rfl
theorem cb (T:Tab) (v:PV) (N:List Str) (sc:Scope) (e0:Expr):chk T (.cst v) N sc e0=(match e0 with|.Constant c _ _=>lV v c|_=>false):=rfl
theorem bt (T:Tab) (x:Str) (v:PV) (N:List Str) (sc:Scope) (e0:Expr):chk T (.glob x v) N sc e0=(match e0 with|.Name y _=>x == y&&glB sc x&&sd T.gs x v&&ah x|_=>false):=rfl
theorem ce (T:Tab) (op:Op2) (a b:ME) (N:List Str) (sc:Scope) (e0:Expr):chk T (.bin op a b) N sc e0=(match e0 with|.BinOp l o r _=>o == u3 op&&chk T a N sc l&&chk T b N sc r|_=>false):=rfl
theorem cf (T:Tab) (a:ME) (N:List Str) (sc:Scope) (e0:Expr):chk T (.neg a) N sc e0=false:=rfl
theorem cg (T:Tab) (a:ME) (N:List Str) (sc:Scope) (e0:Expr):chk T (.not a) N sc e0=(match e0 with|.UnaryOp .Not e _=>chk T a N sc e|_=>false):=rfl
theorem ci (T:Tab) (a b:ME) (N:List Str) (sc:Scope) (e0:Expr):chk T (.and a b) N sc e0=(match e0 with|.BoolOp .And (x::y::r) pos=>chk T a N sc x&&o_ (λe=>chk T b N sc e) .And pos y r|_=>false):=rfl
theorem dB (T:Tab) (a b:ME) (N:List Str) (sc:Scope) (e0:Expr):chk T (.or a b) N sc e0=(match e0 with|.BoolOp .Or (x::y::r) pos=>chk T a N sc x&&o_ (λe=>chk T b N sc e) .Or pos y r|_=>false):=rfl
theorem cj (T:Tab) (c a b:ME) (N:List Str) (sc:Scope) (e0:Expr):chk T (.ite c a b) N sc e0=(match e0 with|.IfExp t x y _=>chk T c N sc t&&chk T a N sc x&&chk T b N sc y&&!aF a&&!aF b|_=>false):=rfl
theorem cm (T:Tab) (op:Cp) (a b:ME) (N:List Str) (sc:Scope) (e0:Expr):chk T (.cmp op a b) N sc e0=(match e0 with|.Compare l [o] [r] _=>o == qu op&&chk T a N sc l&&chk T b N sc r&&!behindInMarks o r|_=>false):=rfl
theorem aQ (T:Tab) (op op':Cp) (a b c:ME) (N:List Str) (sc:Scope) (e0:Expr):chk T (.chain op op' a b c) N sc e0=false:=rfl
theorem cq (T:Tab) (es:List ME) (N:List Str) (sc:Scope) (e0:Expr):chk T (.tup es) N sc e0=(match e0 with|.Tuple xs _ _=>chks T es N sc xs&&es.all (λe=>!aF e)|_=>false):=rfl
theorem cr (T:Tab) (es:List ME) (N:List Str) (sc:Scope) (e0:Expr):chk T (.lst es) N sc e0=(match e0 with|.List xs _=>chks T es N sc xs&&es.all (λe=>!aF e)|_=>false):=rfl
theorem cu (T:Tab) (a i:ME) (N:List Str) (sc:Scope) (e0:Expr):chk T (.idx a i) N sc e0=(match e0 with|.Subscript v s _=>chk T a N sc v&&chk T i N sc s&&bN s|_=>false):=rfl
theorem aR (T:Tab) (a lo hi:ME) (N:List Str) (sc:Scope) (e0:Expr):chk T (.slice a lo hi) N sc e0=(match e0 with|.Subscript v (.Slice l u none _) _=>chk T a N sc v&&fC (λe=>chk T lo N sc e) (eF lo) l&&fC (λe=>chk T hi N sc e) (eF hi) u|_=>false):=rfl
theorem cv (T:Tab) (b:Blt) (es:List ME) (N:List Str) (sc:Scope) (e0:Expr):chk T (.blt b es) N sc e0=(match e0 with|.Call (.Name f _) args [] _=>f == (kY b:Str)&&glB sc f&&cJ sc (λxs=>chks T es N sc xs) es.length b args|_=>false):=rfl
theorem bu (T:Tab) (f:Nat) (es:List ME) (N:List Str) (sc:Scope) (e0:Expr):chk T (.call f es) N sc e0=(match e0 with|.Call (.Name x _) args [] _=>T.fs[f]? == some x&&glB sc x&&ah x&&chks T es N sc args|_=>false):=rfl
theorem aM (T:Tab) (k:Sk) (src:List ME) (js:List Nat) (cond elt:ME) (N:List Str) (sc:Scope) (e0:Expr):chk T (.comp k src js cond elt) N sc e0=(match e0 with|.ListComp e [⟨.Name x _,it,ifs,0⟩] scope _=>dj sc N scope x (bD N js) js&&fB sc false (λxs=>chks T src N sc xs) k it&&jI (λc=>chk T cond (x::bD N js) (fW scope sc) c) cond ifs&&chk T elt (x::bD N js) (fW scope sc) e&&!aF elt|_=>false):=rfl
noncomputable def bF:ME->Bool
 | .lst _=>true
 | .comp ..=>true
 | .blt .listOf _=>true
 | .blt .sorted _=>true
 | .blt .sortedSet _=>true
 | .blt .sortedKeys _=>true
 | .blt .valuesOf _=>true
 | _=>false
noncomputable def kZ (sc:Scope) (t:Str) (tpos:Pos):Expr->Bool
 | .ListComp _ _ s p=>sc.names.lookup t == some .local&&tpos.line == p.line&&!(s.names.any λ(n,k)=>n == t&&(k == .local || k == .cell))
 | _=>false
noncomputable def jJ (sc:Scope) (t:Str) (tpos:Pos) (v:Expr) (e:ME):Bool:=kZ sc t tpos v
noncomputable def lW:Stmt->Option (Str × Pos × Expr)
 | .Assign [.Name x px] v _=>some (x,px,v)
 | _=>none
theorem gO {s:Stmt}{q:Str × Pos × Expr} (h:lW s=some q):∃ pos,s=.Assign [.Name q.1 q.2.1] q.2.2 pos:=by
 unfold lW at h
 split at h
 ·cases h;exact ⟨_,rfl⟩
 ·cases h
noncomputable def u4:Stmt->Option (Str × Str × Pos × List Expr × Pos)
 | .Expr (.Call (.Attribute (.Name x _) m ap) args [] cp) _=>some (x,m,ap,args,cp)
 | _=>none
theorem pf {s:Stmt}{q:Str × Str × Pos × List Expr × Pos} (h:u4 s=some q):∃ p pos,s=.Expr (.Call (.Attribute (.Name q.1 p) q.2.1 q.2.2.1) q.2.2.2.1 [] q.2.2.2.2) pos:=by
 unfold u4 at h
 split at h
 ·cases h;exact ⟨_,_,rfl⟩
 ·cases h
noncomputable def u5:Stmt->Option Expr
 | .Return (some v) _=>some v
 | _=>none
theorem pg {s:Stmt}{v:Expr} (h:u5 s=some v):∃ pos,s=.Return (some v) pos:=by
 unfold u5 at h
 split at h
 ·cases h;exact ⟨_,rfl⟩
 ·cases h
noncomputable def sf:Expr->Option Str
 | .Name x _=>some x
 | _=>none
theorem sg {e:Expr}{x:Str} (h:sf e=some x):∃ p,e=.Name x p:=by
 unfold sf at h
 split at h
 ·cases h;exact ⟨_,rfl⟩
 ·cases h
noncomputable def sh:Expr->Option (Str × List Expr)
 | .Call (.Name y _) args [] _=>some (y,args)
 | _=>none
theorem pi {e:Expr}{q:Str × List Expr} (h:sh e=some q):∃ p cp,e=.Call (.Name q.1 p) q.2 [] cp:=by
 unfold sh at h
 split at h
 ·cases h;exact ⟨_,_,rfl⟩
 ·cases h
noncomputable def pj:List Expr->Option Expr
 | [a]=>some a
 | _=>none
theorem jK {l:List Expr}{a:Expr} (h:pj l=some a):l=[a]:=by
 match l,h with
 | [_],h=>cases h;rfl
noncomputable def u6:Expr->Bool
 | .List [] _=>true
 | _=>false
noncomputable def si:Expr->Option (List Expr)
 | .List es _=>some es
 | _=>none
theorem sj {e:Expr}{es:List Expr} (h:si e=some es):∃ p,e=.List es p:=by
 unfold si at h
 split at h
 ·cases h;exact ⟨_,rfl⟩
 ·cases h
noncomputable def xp:Stmt->Option (Str × Expr × Str × Pos × List Expr × Pos)
 | .Expr (.Call (.Attribute (.Subscript (.Name x _) s _) m ap) args [] cp) _=>some (x,s,m,ap,args,cp)
 | _=>none
theorem u7 {s:Stmt}{q:Str × Expr × Str × Pos × List Expr × Pos} (h:xp s=some q):∃ p sp pos,s=.Expr (.Call (.Attribute (.Subscript (.Name q.1 p) q.2.1 sp) q.2.2.1 q.2.2.2.1) q.2.2.2.2.1 [] q.2.2.2.2.2) pos:=by
 unfold xp at h
 split at h
 ·cases h;exact ⟨_,_,_,rfl⟩
 ·cases h
noncomputable def onO {α:Type} (o:Option α) (f:α->Bool):Bool:=match o with
 | some a=>f a
 | none=>false
theorem aA {α:Type}{o:Option α}{f:α->Bool} (h:onO o f=true):∃ a,o=some a/\f a=true:=by
 cases o with
 | none=>cases h
 | some a=>exact ⟨a,rfl,h⟩
noncomputable def xq:Stmt->Option (Stmt × ExceptHandler × List ExceptHandler)
 | .Try [b] (h::t) [] [] _=>some (b,h,t)
 | _=>none
theorem u8 {s:Stmt}{q:Stmt × ExceptHandler × List ExceptHandler} (h:xq s=some q):∃ pos,s=.Try [q.1] (q.2.1::q.2.2) [] [] pos:=by
 unfold xq at h
 split at h
 ·cases h;exact ⟨_,rfl⟩
 ·cases h
noncomputable def xr:Stmt->Option (Option (Str × Pos) × Expr × Pos)
 | .Expr v p=>some (none,v,p)
 | .Assign [.Name x px] v p=>some (some (x,px),v,p)
 | _=>none
theorem u9 {s:Stmt}{q:Option (Str × Pos) × Expr × Pos} (h:xr s=some q):(q.1=none/\s=.Expr q.2.1 q.2.2) \/ ∃ x px,q.1=some (x,px)/\s=.Assign [.Name x px] q.2.1 q.2.2:=by
 unfold xr at h
 split at h
 ·cases h;exact .inl ⟨rfl,rfl⟩
 ·cases h;exact .inr ⟨_,_,rfl,rfl⟩
 ·cases h
noncomputable def jB (N:List Str) (sc:Scope):Option Nat->Option (Str × Pos)->Bool
 | none,none=>true
 | some j,some q=>N[j]? == some q.1&&fA sc q.1&&ah q.1
 | _,_=>false
noncomputable def xt:List Stmt->Option (Stmt × Stmt × List Stmt)
 | a::b::r=>some (a,b,r)
 | _=>none
theorem pk {l:List Stmt}{q:Stmt × Stmt × List Stmt} (h:xt l=some q):l=q.1::q.2.1::q.2.2:=by
 unfold xt at h
 split at h
 ·cases h;rfl
 ·cases h
noncomputable def lenI:Stmt->Option (Str × Str × Expr × Stmt)
 | .If (.Compare (.Call (.Name l _) [.Name y _] [] _) [.Gt] [ge] _) [r] [] _=>some (l,y,ge,r)
 | _=>none
theorem u_ {s:Stmt}{q:Str × Str × Expr × Stmt} (h:lenI s=some q):∃ p p1 p2 p3 pos,s=.If (.Compare (.Call (.Name q.1 p) [.Name q.2.1 p1] [] p2) [.Gt] [q.2.2.1] p3) [q.2.2.2] [] pos:=by
 unfold lenI at h
 split at h
 ·cases h;exact ⟨_,_,_,_,_,rfl⟩
 ·cases h
noncomputable def sk:Stmt->Option (Str × Str × Expr × Expr)
 | .Return (some (.Call (.Name a p) [.Call (.Name b p1) [w] [] p2] [] p3)) _=>some (a,b,w,.Call (.Name a p) [.Call (.Name b p1) [w] [] p2] [] p3)
 | _=>none
theorem mQ {s:Stmt}{q:Str × Str × Expr × Expr} (h:sk s=some q):∃ p p1 p2 p3 pos,q.2.2.2=.Call (.Name q.1 p) [.Call (.Name q.2.1 p1) [q.2.2.1] [] p2] [] p3/\s=.Return (some q.2.2.2) pos:=by
 unfold sk at h
 split at h
 ·cases h;exact ⟨_,_,_,_,_,rfl,rfl⟩
 ·cases h
noncomputable def sm:ExceptHandler->Option (Str × Option Str × Str × Expr)
 | .ExceptHandler (some (.Name x _)) nm [.Assign [.Name y _] v _] _=>some (x,nm,y,v)
 | _=>none
theorem sr {e:ExceptHandler}{q:Str × Option Str × Str × Expr} (h:sm e=some q):∃ np py p pos,e=.ExceptHandler (some (.Name q.1 np)) q.2.1 [.Assign [.Name q.2.2.1 py] q.2.2.2 p] pos:=by
 unfold sm at h
 split at h
 ·cases h;exact ⟨_,_,_,_,rfl⟩
 ·cases h
noncomputable def nmB (N:List Str) (sc:Scope):Option Nat->Option Str->Bool
 | none,none=>true
 | some k,some n=>N[k]? == some n&&sc.names.lookup n == some .local
 | _,_=>false
noncomputable def xu:Expr->Option (Str × Str)
 | .Call (.Name f _) [.Name e _,.Name d _] [] _=>if f == ("isinstance":Str) then some (e,d) else none
 | _=>none
theorem va {e:Expr}{q:Str × Str} (h:xu e=some q):∃ p p1 p2 pos,e=.Call (.Name "isinstance" p) [.Name q.1 p1,.Name q.2 p2] [] pos:=by
 unfold xu at h
 split at h
 ·split at h
  ·rename_i hf
   cases h
   rw [beq_iff_eq.mp hf]
   exact ⟨_,_,_,_,rfl⟩
  ·cases h
 ·cases h
noncomputable def xv:Expr->Option Sc
 | .Constant (.bool b) _ _=>some (.bl b)
 | .Constant (.str x) _ _=>some (.str x)
 | _=>none
theorem vb {e:Expr}{v:Sc} (h:xv e=some v):(∃ b j p,v=.bl b/\e=.Constant (.bool b) j p) \/ ∃ x j p,v=.str x/\e=.Constant (.str x) j p:=by
 unfold xv at h
 split at h
 ·cases h;exact .inl ⟨_,_,_,rfl,rfl⟩
 ·cases h;exact .inr ⟨_,_,_,rfl,rfl⟩
 ·cases h
noncomputable def xw (es:List Str) (N:List Str) (sc:Scope) (e:Option Nat):HA->Expr->Bool
 | .cst v,x=>onO (xv x) λa=>decide (sc? v=some a)
 | .inc _ _,_=>false
 | .isi c,x=>onO (xu x) λq=>onO e λk=>aD N sc k q.1&&q.2 == c&&glB sc q.2&&ah q.2&&glB sc "isinstance"&&(es.contains q.2 || q.2 == ("ValueError":Str))
noncomputable def xx:Expr->Option (List Expr × Pos)
 | .List xs p=>some (xs,p)
 | _=>none
theorem vc {e:Expr}{q:List Expr × Pos} (h:xx e=some q):e=.List q.1 q.2:=by
 unfold xx at h
 split at h
 ·cases h;rfl
 ·cases h
noncomputable def su (es:List Str) (N:List Str) (sc:Scope) (e:Option Nat):List HA->List Expr->Bool
 | [],[]=>true
 | a::as,x::xs=>xw es N sc e a x&&su es N sc e as xs
 | _,_=>false
noncomputable def zG (es:List Str) (N:List Str) (sc:Scope) (e:Option Nat):HE->Expr->Bool
 | .one a,x=>xw es N sc e a x
 | .lst as,x=>onO (xx x) λq=>su es N sc e as q.1
noncomputable def zH (es:List Str) (N:List Str) (sc:Scope) (h:HH) (x:ExceptHandler):Bool:=onO (sm x) λq=>q.1 == h.cls&&glB sc q.1&&ah q.1&&es.contains q.1&&N[h.i]? == some q.2.2.1&&fA sc q.2.2.1&&ah q.2.2.1&&nmB N sc h.e q.2.1&&decide (h.e ≠ some h.i)&&zG es N sc h.e h.v q.2.2.2
noncomputable def po (es:List Str) (N:List Str) (sc:Scope):List HH->List ExceptHandler->Bool
 | [],[]=>true
 | h::hs,x::xs=>zH es N sc h x&&po es N sc hs xs
 | _,_=>false
noncomputable def qw:Stmt->Option Str
 | .Raise (some (.Call (.Name x _) [.Constant (.str _) _ _] [] _)) none _=>some x
 | _=>none
theorem pq {s:Stmt}{x:Str} (h:qw s=some x):∃ np tx j p1 cpos pos,s=.Raise (some (.Call (.Name x np) [.Constant (.str tx) j p1] [] cpos)) none pos:=by
 unfold qw at h
 split at h
 ·cases h;exact ⟨_,_,_,_,_,_,rfl⟩
 ·cases h
noncomputable def sw:Expr->Option (Str × Pos × Expr × Scope × Pos × Pos)
 | .ListComp (.List [] lp) [⟨.Name y py,it,[],0⟩] scope p=>some (y,py,it,scope,p,lp)
 | _=>none
theorem sx {e:Expr}{q:Str × Pos × Expr × Scope × Pos × Pos} (h:sw e=some q):e=.ListComp (.List [] q.2.2.2.2.2) [⟨.Name q.1 q.2.1,q.2.2.1,[],0⟩] q.2.2.2.1 q.2.2.2.2.1:=by
 unfold sw at h
 split at h
 ·cases h;rfl
 ·cases h
noncomputable def wb (T:Tab) (N:List Str) (sc:Scope) (i:Nat) (e:ME) (s0:Stmt):Bool:=onO (lW s0) λq=>N[i]? == some q.1&&fA sc q.1&&ah q.1&&chk T e N sc q.2.2&&!aF e&&(cI q.2.2 || jJ sc q.1 q.2.1 q.2.2 e)
noncomputable def sy (T:Tab) (N:List Str) (sc:Scope) (m:ME) (c:Str) (s0:Stmt):Bool:=match s0 with|.If t x y _=>chk T m N sc t&&(match x with|[s]=>onO (qw s) λx=>x == c&&glB sc x&&ah x&&T.es.contains x|_=>false)&&(match y with|[]=>true|_=>false)|_=>false
mutual
noncomputable def c_ (T:Tab) (N:List Str) (sc:Scope):MS->Stmt->Bool
 | .set i e,s0=>onO (lW s0) λq=>N[i]? == some q.1&&fA sc q.1&&ah q.1&&chk T e N sc q.2.2&&!aF e&&(cI q.2.2 || jJ sc q.1 q.2.1 q.2.2 e)
 | .setOwn i e,s0=>onO (lW s0) λq=>N[i]? == some q.1&&fA sc q.1&&ah q.1&&chk T e N sc q.2.2&&bF e&&(cI q.2.2 || jJ sc q.1 q.2.1 q.2.2 e)
 | .append i e,s0=>onO (u4 s0) λq=>onO (pj q.2.2.2.1) λv=>aD N sc i q.1&&q.2.1 == ("append":Str)&&chk T e N sc v&&!aF e&&ak v&&q.2.2.1.endLine == q.2.2.2.2.line
 | .extend i e,s0=>onO (u4 s0) λq=>onO (pj q.2.2.2.1) λv=>aD N sc i q.1&&q.2.1 == ("extend":Str)&&chk T e N sc v&&ak v&&q.2.2.1.endLine == q.2.2.2.2.line
 | .setLN i e,s0=>onO (lW s0) λq=>N[i]? == some q.1&&fA sc q.1&&ah q.1&&kZ sc q.1 q.2.1 q.2.2&&onO (sw q.2.2) λc=>dj sc N c.2.2.2.1 c.1 (bD N []) []&&fB sc false (λxs=>chks T [e] N sc xs) .rng c.2.2.1
 | .setL i n,s0=>onO (lW s0) λq=>onO (si q.2.2) λes=>N[i]? == some q.1&&fA sc q.1&&ah q.1&&es.all u6&&es.length == n
 | .appI i k e,s0=>onO (xp s0) λq=>onO (pj q.2.2.2.2.1) λv=>aD N sc i q.1&&q.2.2.1 == ("append":Str)&&chk T k N sc q.2.1&&bN q.2.1&&chk T e N sc v&&!aF e&&ak v&&q.2.2.2.1.endLine == q.2.2.2.2.2.line
 | .setIdx _ _ _,_=>false
 | .unpack _ _,_=>false
 | .ite c a b,s0=>(match s0 with|.If t x y _=>chk T c N sc t&&chkSs T N sc a x&&chkSs T N sc b y|_=>false)
 | .for1 i k src body,s0=>(match s0 with|.For (.Name x _) it b [] _=>N[i]? == some x&&fA sc x&&ah x&&fB sc false (λxs=>chks T src N sc xs) k it&&chkSs T N sc body b|_=>false)
 | .ret e,s0=>onO (u5 s0) λv=>chk T e N sc v&&!aF e
 | .retOwn i,s0=>onO (u5 s0) λv=>onO (sf v) λx=>aD N sc i x
 | .never,_=>true
 | .raise c,s0=>onO (qw s0) λx=>x == c&&glB sc x&&ah x&&T.es.contains x
 | .retMany e,s0=>onO (sk s0) λq=>q.1 == ("tuple":Str)&&q.2.1 == ("sorted":Str)&&glB sc q.1&&glB sc q.2.1&&chk T e N sc q.2.2.1&&ak q.2.2.1&&chk T (.blt .tupleOf [.blt .sorted [e]]) N sc q.2.2.2
 | .tryC j f es hs,s0=>onO (xq s0) λq=>onO (xr q.1) λb=>onO (sh b.2.1) λc=>jB N sc j b.1&&T.fs[f]? == some c.1&&glB sc c.1&&ah c.1&&chks T es N sc c.2&&!c.2.isEmpty&&po T.es N sc hs (q.2.1::q.2.2)
 | _,_=>false
noncomputable def chkSs (T:Tab) (N:List Str) (sc:Scope):List MS->List Stmt->Bool
 | [],[]=>true
 | .freeze _::_,_=>false
 | .freezeL _::ms,ss=>chkSs T N sc ms ss
 | .setU i f es x k c::ms,ss=>onO (xt ss) λz=>wb T N sc i (.call f es) z.1&&sy T N sc (.cmp .gt (.blt .len [.bor i]) (.glob x (.int k))) c z.2.1&&onO (lW z.1) (λq=>onO (sh q.2.2) λd=>N[i]? == some q.1&&fA sc q.1&&T.fs[f]? == some d.1&&glB sc d.1&&ah d.1&&chks T es N sc d.2&&!d.2.isEmpty)&&onO (lenI z.2.1) (λw=>w.1 == ("len":Str)&&glB sc w.1&&aD N sc i w.2.1&&chk T (.glob x (.int k)) N sc w.2.2.1&&onO (qw w.2.2.2) λxn=>xn == c&&glB sc xn&&ah xn&&T.es.contains xn)&&chkSs T N sc ms z.2.2
 | m::ms,s::ss=>c_ T N sc m s&&chkSs T N sc ms ss
 | _,_=>false
end
theorem mR {T:Tab}{N:List Str}{sc:Scope}{i:Nat}{e:ME}{s0:Stmt} (h:wb T N sc i e s0=true):c_ T N sc (.set i e) s0=true:=h
theorem mS {T:Tab}{N:List Str}{sc:Scope}{m:ME}{c:Str}{s0:Stmt} (h:sy T N sc m c s0=true):c_ T N sc (.ite m [.raise c] []) s0=true:=by
 unfold sy at h
 split at h <;> try exact absurd h (by decide)
 rename_i t x y p
 have h:=Bool.and_eq_true_iff.mp h
 have h':=Bool.and_eq_true_iff.mp h.1
 have hy:=h.2
 have hx:=h'.2
 cases y with
 | cons _ _=>cases hy
 | nil =>
  cases x with
  | nil=>cases hx
  | cons a b =>
   cases b with
   | cons _ _=>cases hx
   | nil =>
    show (chk T m N sc t&&chkSs T N sc [.raise c] [a]&&chkSs T N sc [] [])=true
    rw [h'.1]
    show (true&&(c_ T N sc (.raise c) a&&chkSs T N sc [] [])&&chkSs T N sc [] [])=true
    rw [show c_ T N sc (.raise c) a=true from hx];rfl
theorem vd (T:Tab) (N:List Str) (sc:Scope) (i:Nat) (k:Sk) (src:List ME) (body:List MS) (s0:Stmt):c_ T N sc (.for1 i k src body) s0=(match s0 with|.For (.Name x _) it b [] _=>N[i]? == some x&&fA sc x&&ah x&&fB sc false (λxs=>chks T src N sc xs) k it&&chkSs T N sc body b|_=>false):=rfl
end MM
namespace MM
open PySem PySem.Spec PyProof.Rows L2
theorem jL {f:PV->PV->Option Bool} (hf:∀ x b,f x x=some b->b=true):∀ (xs:List PV) {b:Bool},eqL f xs xs=some b->b=true
 | [],b,h=>by simp [eqL] at h;exact h
 | x::xs,b,h=>by
  simp only [eqL,Option.bind_eq_some_iff,Option.map_eq_some_iff] at h
  obtain ⟨p,h1,q,h2,rfl⟩:=h
  rw [hf x p h1,jL hf xs h2];rfl
theorem gP:∀ (n:Nat) (x:PV) {b:Bool},eqF n x x=some b->b=true
 | n,.non,b,h=>by simp [eqF] at h;exact h
 | n,.bl _,b,h=>by simp [eqF] at h;exact h
 | n,.int _,b,h=>by simp [eqF] at h;exact h
 | n,.str _,b,h=>by simp [eqF] at h;exact h
 | 0,.tup _,b,h=>by simp [eqF] at h
 | 0,.lst _,b,h=>by simp [eqF] at h
 | n + 1,.tup xs,b,h=>by rw [eqF] at h;exact jL (λx b=>gP n x) xs h
 | n + 1,.lst xs,b,h=>by rw [eqF,if_pos rfl] at h;exact jL (λx b=>gP n x) xs h
 | n,.dI _,b,h=>by cases n <;> simp [eqF] at h
theorem eG {n:Nat}{x y:PV}{b:Bool} (h:eqF n x y=some b):isD x=false/\isD y=false:=by
 cases x <;> cases y <;> first|exact ⟨rfl,rfl⟩|(cases n <;> simp [eqF] at h)
theorem gQ {f:PV->PV->Option Bool}:∀ (xs ys:List PV) {b:Bool},eqL f xs ys=some b ->
  (∀ (j:Nat) x y,xs[j]?=some x->ys[j]?=some y->∃ c,f x y=some c) /\
   b=((List.range (min xs.length ys.length)).all (λj=>(f (xs.getD j .non) (ys.getD j .non)).getD false)&&xs.length == ys.length)
 | [],[],b,h=>by simp [eqL] at h;subst h;simp
 | [],y::ys,b,h=>by simp [eqL] at h;subst h;simp
 | x::xs,[],b,h=>by simp [eqL] at h;subst h;simp
 | x::xs,y::ys,b,h=>by
  simp only [eqL,Option.bind_eq_some_iff,Option.map_eq_some_iff] at h
  obtain ⟨p,h1,q,h2,rfl⟩:=h
  obtain ⟨ih1,ih2⟩:=gQ xs ys h2
  refine ⟨λj x' y' e1 e2=>?_,?_⟩
  ·cases j with
   | zero=>simp at e1 e2;subst e1 e2;exact ⟨p,h1⟩
   | succ j=>exact ih1 j x' y' (by simpa using e1) (by simpa using e2)
  ·rw [ih2]
   have hm:min (x::xs).length (y::ys).length=min xs.length ys.length + 1:=by simp only [List.length_cons];omega
   rw [hm,List.range_succ_eq_map,List.all_cons,List.all_map]
   have hl:((x::xs).length == (y::ys).length)=(xs.length == ys.length):=by
    rw [Bool.eq_iff_iff];simp
   rw [hl,Bool.and_assoc]
   simp only [List.getD_cons_zero,h1,Option.getD_some,Function.comp_def,List.getD_cons_succ]
theorem pz {f:PV->Option Bool}:∀ (xs:List PV) {b:Bool},inL f xs=some b->(∀ x ∈ xs,∃ c,f x=some c)/\b=xs.any λx=>(f x).getD false
 | [],b,h=>by simp [inL] at h;subst h;simp
 | x::xs,b,h=>by
  simp only [inL,Option.bind_eq_some_iff,Option.map_eq_some_iff] at h
  obtain ⟨p,h1,q,h2,rfl⟩:=h
  obtain ⟨ih1,ih2⟩:=pz xs h2
  refine ⟨λy hy=>?_,?_⟩
  ·rcases List.mem_cons.mp hy with rfl|hy
   ·exact ⟨p,h1⟩
   ·exact ih1 y hy
  ·rw [List.any_cons,h1,ih2];rfl
section
variable {X:Cx}{pins:List (Addr × Obj)}{σ:St}{H:Hp}{s:Shared}
theorem mT (I:Inv X pins σ H s) {a:Addr}{xs ys:List V} (h1:SqL X.K H a xs) (h2:SqT X.K H a ys):False:=by
 obtain ⟨its,_,p,_⟩:=I.list h1
 obtain ⟨its2,_,q,_⟩:=I.tuple h2
 exact SeqAt.ne_of_list_tuple p.isList (show s.heap.IsTuple a its2.toArray from q) rfl
theorem ve {H:Hp}{a:Addr}{d:DD} (h:Rd H a (ix d)):IsD H a:=by
 cases d with
 | k kvs=>exact .inl ⟨_,h⟩
 | t kvs=>exact .inr ⟨_,h⟩
theorem iY (I:Inv X pins σ H s) {a:Addr}{xs:List V}{d:DD} (h1:SqL X.K H a xs \/ SqT X.K H a xs) (h2:Rd H a (ix d)):False:=by
 obtain ⟨o,ho,hc⟩:=(w5 I (ve h2)).1
 rcases h1 with h1|h1
 ·obtain ⟨its,_,p,_⟩:=I.list h1
  obtain ⟨o',ho',hc',_⟩:=p.isList
  rw [ho] at ho'
  cases ho'
  rw [hc] at hc'
  exact absurd hc' (by decide)
 ·obtain ⟨its,_,⟨o',ho',hc',_⟩,_⟩:=I.tuple h1
  rw [ho] at ho'
  cases ho'
  rw [hc] at hc'
  exact absurd hc' (by decide)
theorem Sc.v_inj:∀ {a b:Sc},a.v=b.v->a=b:=by
 intro a b h
 cases a <;> cases b <;> simp [Sc.v] at h ⊢ <;> exact h
theorem mU:∀ {a b:List (Int × Sc)},nV a=nV b->a=b
 | [],[],_=>rfl
 | [],_::_,h=>by cases h
 | _::_,[],h=>by cases h
 | (k,v)::a,(k',v')::b,h=>by
  simp only [nV,List.map_cons,List.cons.injEq,Prod.mk.injEq,Sum.inl.injEq] at h
  obtain ⟨⟨h1,h2⟩,h3⟩:=h
  rw [h1,Sc.v_inj h2,mU h3]
theorem pA:∀ {a b:List Int},(a.map Sum.inl:List Key)=b.map Sum.inl->a=b
 | [],[],_=>rfl
 | [],_::_,h=>by cases h
 | _::_,[],h=>by cases h
 | x::a,y::b,h=>by
  simp only [List.map_cons,List.cons.injEq,Sum.inl.injEq] at h
  rw [h.1,pA h.2]
theorem mV:∀ {a b:List (List Int × Sc)},u1 a=u1 b->a=b
 | [],[],_=>rfl
 | [],_::_,h=>by cases h
 | _::_,[],h=>by cases h
 | (k,v)::a,(k',v')::b,h=>by
  simp only [u1,List.map_cons,List.cons.injEq,Prod.mk.injEq] at h
  obtain ⟨⟨h1,h2⟩,h3⟩:=h
  rw [pA h1,Sc.v_inj h2,mV h3]
theorem mW {a b:DD} (h:ix a=ix b):a=b:=by
 cases a <;> cases b
 ·rw [mU (HO.dK.inj h)]
 ·cases h
 ·cases h
 ·rw [mV (HO.dT.inj h)]
theorem xy {H:Hp}{a:Addr}{x y:DD} (h:Rd H a (ix x)) (g:Rd H a (ix y)):x=y:=by
 have ne:∀ (x:DD) (o:Obj) (u:HO),ix x ≠ .frz o u:=λx o u e=>by cases x <;> cases e
 rcases h with h|⟨o,h⟩ <;> rcases g with g|⟨o',g⟩
 ·rw [h] at g;exact mW (Option.some.inj g)
 ·rw [h] at g;exact absurd (Option.some.inj g) (ne x _ _)
 ·rw [g] at h;exact absurd (Option.some.inj h) (ne y _ _)
 ·rw [h] at g;exact mW (HO.frz.inj (Option.some.inj g)).2
mutual
theorem iZ (I:Inv X pins σ H s):∀ (x y:PV) {u:V},Rep X.K H x u->Rep X.K H y u->x=y
 | .non,y,u,h,g=>by rw [Rep] at h;subst h;cases y <;> simp [Rep] at g ⊢
 | .bl b,y,u,h,g=>by rw [Rep] at h;subst h;cases y <;> simp [Rep] at g ⊢;exact g
 | .int b,y,u,h,g=>by rw [Rep] at h;subst h;cases y <;> simp [Rep] at g ⊢;exact g
 | .str b,y,u,h,g=>by rw [Rep] at h;subst h;cases y <;> simp [Rep] at g ⊢;exact g
 | .tup xs,y,u,h,g=>by
  rw [Rep] at h
  obtain ⟨a,us,rfl,q,r⟩:=h
  cases y with
  | tup ys =>
   rw [Rep] at g
   obtain ⟨b,vs,e,q',r'⟩:=g
   cases e
   have:=I.tuple_inj (SqT.of q) (SqT.of q')
   subst this
   rw [reps_inj I xs ys r r']
  | lst ys =>
   rw [Rep] at g
   obtain ⟨b,vs,e,q',r'⟩:=g
   cases e
   exact (mT I q' (SqT.of q)).elim
  | dI kvs =>
   rw [Rep] at g
   obtain ⟨b,e,q'⟩:=g
   cases e
   exact (iY I (.inr (SqT.of q)) q').elim
  | _=>simp [Rep] at g
 | .lst xs,y,u,h,g=>by
  rw [Rep] at h
  obtain ⟨a,us,rfl,q,r⟩:=h
  cases y with
  | lst ys =>
   rw [Rep] at g
   obtain ⟨b,vs,e,q',r'⟩:=g
   cases e
   have:=I.list_inj q q'
   subst this
   rw [reps_inj I xs ys r r']
  | tup ys =>
   rw [Rep] at g
   obtain ⟨b,vs,e,q',r'⟩:=g
   cases e
   exact (mT I q (SqT.of q')).elim
  | dI kvs =>
   rw [Rep] at g
   obtain ⟨b,e,q'⟩:=g
   cases e
   exact (iY I (.inl q) q').elim
  | _=>simp [Rep] at g
 | .dI kvs,y,u,h,g=>by
  rw [Rep] at h
  obtain ⟨a,rfl,q⟩:=h
  cases y with
  | dI ks =>
   rw [Rep] at g
   obtain ⟨b,e,q'⟩:=g
   cases e
   rw [xy q q']
  | tup ys =>
   rw [Rep] at g
   obtain ⟨b,vs,e,q',r'⟩:=g
   cases e
   exact (iY I (.inr (SqT.of q')) q).elim
  | lst ys =>
   rw [Rep] at g
   obtain ⟨b,vs,e,q',r'⟩:=g
   cases e
   exact (iY I (.inl q') q).elim
  | _=>simp [Rep] at g
theorem reps_inj (I:Inv X pins σ H s):∀ (xs ys:List PV) {us:List V},Reps X.K H xs us->Reps X.K H ys us->xs=ys
 | [],ys,us,h,g=>by
  rw [Reps] at h;subst h
  cases ys with
  | nil=>rfl
  | cons y ys=>rw [Reps] at g;obtain ⟨_,_,e,_⟩:=g;cases e
 | x::xs,ys,us,h,g=>by
  rw [Reps] at h
  obtain ⟨u,r,rfl,q,t⟩:=h
  cases ys with
  | nil=>rw [Reps] at g;cases g
  | cons y ys =>
   rw [Reps] at g
   obtain ⟨u',r',e,q',t'⟩:=g
   cases e
   rw [iZ I x y q q',reps_inj I xs ys t t']
end
theorem Rep.tupAt (I:Inv X pins σ H s) {xs:List PV}{u:V}{v:Value} (h:Rep X.K H (.tup xs) u) (r:ar u v) :
  ∃ (a:Addr) (us:List V) (its:List Value),u=.ref a/\v=.ref a/\Reps X.K H xs us/\am us its/\s.heap.IsTuple a its.toArray/\xs.length=its.length:=by
 rw [Rep] at h
 obtain ⟨a,us,rfl,q,t⟩:=h
 obtain ⟨its,rv,p,_⟩:=I.tuple (SqT.of q)
 exact ⟨a,us,its,rfl,r,t,rv,p,t.length.trans rv.length⟩
theorem Rep.lstAt (I:Inv X pins σ H s) {xs:List PV}{u:V}{v:Value} (h:Rep X.K H (.lst xs) u) (r:ar u v) :
  ∃ (a:Addr) (us:List V) (its:List Value),u=.ref a/\v=.ref a/\Reps X.K H xs us/\am us its/\s.heap.IsList a its.toArray/\xs.length=its.length:=by
 rw [Rep] at h
 obtain ⟨a,us,rfl,q,t⟩:=h
 obtain ⟨its,rv,p,_⟩:=I.list q
 exact ⟨a,us,its,rfl,r,t,rv,p.isList,t.length.trans rv.length⟩
theorem gS {A:Around}{n:Nat} (ih:∀ (x y:PV) {ux uy:V}{vx vy:Value}{b:Bool}{A:Around},A.units + n < cLine->eqF n x y=some b->Rep X.K H x ux->Rep X.K H y uy->ar ux vx->ar uy vy->SeqAt.EqAt A s vx vy b)
  {xs ys:List PV}{us ws:List V}{its its2:List Value} (hu:A.units + (n + 1) < cLine) (rx:Reps X.K H xs us) (ry:Reps X.K H ys ws) (vx:am us its) (vy:am ws its2)
  (hs:∀ (j:Nat) x y,xs[j]?=some x->ys[j]?=some y->∃ c,eqF n x y=some c) :
  ∀ j (h1:j < its.toArray.size) (h2:j < its2.toArray.size),SeqAt.EqAt A.in1 s its.toArray[j] its2.toArray[j] ((eqF n (xs.getD j .non) (ys.getD j .non)).getD false):=λj h1 h2=>by
 have l1:=rx.length.trans vx.length
 have l2:=ry.length.trans vy.length
 simp only [List.size_toArray] at h1 h2
 have e1:xs[j]?=some xs[j]:=List.getElem?_eq_getElem (by omega)
 have e2:ys[j]?=some ys[j]:=List.getElem?_eq_getElem (by omega)
 obtain ⟨ux,q1,p1⟩:=rx.get e1
 obtain ⟨uy,q2,p2⟩:=ry.get e2
 obtain ⟨wx,q3,p3⟩:=vx.get q1
 obtain ⟨wy,q4,p4⟩:=vy.get q2
 obtain ⟨c,hc⟩:=hs j _ _ e1 e2
 have d1:xs.getD j .non=xs[j]:=by simp [List.getD,e1]
 have d2:ys.getD j .non=ys[j]:=by simp [List.getD,e2]
 have g1:its.toArray[j]=wx:=by
  have:its[j]?=some its[j]:=List.getElem?_eq_getElem h1
  rw [this] at q3;simpa using q3
 have g2:its2.toArray[j]=wy:=by
  have:its2[j]?=some its2[j]:=List.getElem?_eq_getElem h2
  rw [this] at q4;simpa using q4
 rw [d1,d2,hc,g1,g2]
 exact ih _ _ (show A.units + 1 + n < cLine by omega) hc p1 p2 p3 p4
theorem vf {A:Around}{n:Nat} (I:Inv X pins σ H s) (ih:∀ (x y:PV) {ux uy:V}{vx vy:Value}{b:Bool}{A:Around},A.units + n < cLine->eqF n x y=some b->Rep X.K H x ux->Rep X.K H y uy->ar ux vx->ar uy vy->SeqAt.EqAt A s vx vy b)
  (hu:A.units + (n + 1) < cLine):(∀ {xs ys:List PV}{ux uy:V}{vx vy:Value}{b:Bool},eqF (n + 1) (.tup xs) (.tup ys)=some b->Rep X.K H (.tup xs) ux->Rep X.K H (.tup ys) uy->ar ux vx->ar uy vy->SeqAt.RcAt A s vx vy b) /\
   (∀ {xs ys:List PV}{ux uy:V}{vx vy:Value}{b:Bool},eqF (n + 1) (.lst xs) (.lst ys)=some b->Rep X.K H (.lst xs) ux->Rep X.K H (.lst ys) uy->ar ux vx->ar uy vy->SeqAt.RcAt A s vx vy b):=by
 refine ⟨λ{xs ys ux uy vx vy b} h rx ry r1 r2=>?_,λ{xs ys ux uy vx vy b} h rx ry r1 r2=>?_⟩
 ·obtain ⟨a,us,its,rfl,rfl,t1,w1,p1,l1⟩:=rx.tupAt I r1
  obtain ⟨c,ws,its2,rfl,rfl,t2,w2,p2,l2⟩:=ry.tupAt I r2
  rw [eqF] at h
  obtain ⟨hs,hb⟩:=gQ xs ys h
  have q:=SeqAt.RcAt.tuples (A:=A) p1 p2 (by omega) (gS ih hu t1 t2 w1 w2 hs)
  rw [hb]
  simpa [l1,l2] using q
 ·obtain ⟨a,us,its,rfl,rfl,t1,w1,p1,l1⟩:=rx.lstAt I r1
  obtain ⟨c,ws,its2,rfl,rfl,t2,w2,p2,l2⟩:=ry.lstAt I r2
  rw [eqF] at h
  by_cases hl:xs.length=ys.length
  ·rw [if_pos hl] at h
   obtain ⟨hs,hb⟩:=gQ xs ys h
   have q:=SeqAt.RcAt.lists (A:=A) p1 p2 (by simp only [List.size_toArray];omega) (by omega) (gS ih hu t1 t2 w1 w2 hs)
   rw [hb,hl,Nat.min_self]
   simpa [<- l1,hl] using q
  ·rw [if_neg hl] at h
   cases h
   exact SeqAt.RcAt.lists_lengths (A:=A) p1 p2 (by simp only [List.size_toArray,bne_iff_ne];omega) (by omega)
theorem cB {x:PV}{u:V} (hd:isD x=false) (h:Rep X.K H x u):(∃ xs,x=.tup xs) \/ (∃ xs,x=.lst xs) \/ f_ u=true:=by
 cases x with
 | tup xs=>exact .inl ⟨xs,rfl⟩
 | lst xs=>exact .inr (.inl ⟨xs,rfl⟩)
 | non=>rw [Rep] at h;subst h;exact .inr (.inr rfl)
 | bl b=>rw [Rep] at h;subst h;exact .inr (.inr rfl)
 | int b=>rw [Rep] at h;subst h;exact .inr (.inr rfl)
 | str b=>rw [Rep] at h;subst h;exact .inr (.inr rfl)
 | dI _=>cases hd
theorem eV {A:Around} (hu:A.units < cLine) {u:V}{v:Value} (f:f_ u=true) (r:ar u v) {a:Addr}{its:Array Value} (p:s.heap.IsTuple a its) :
  SeqAt.EqAt A s v (.ref a) false/\SeqAt.EqAt A s (.ref a) v false/\SeqAt.RcAt A s v (.ref a) false/\SeqAt.RcAt A s (.ref a) v false:=by
 cases u with
 | non=>cases r;exact ⟨.none_tuple p hu,.tuple_none p hu,.none_tuple p hu,.tuple_none p hu⟩
 | bl b=>cases r;exact ⟨.bool_tuple b p hu,.tuple_bool b p hu,.bool_tuple b p hu,.tuple_bool b p hu⟩
 | int b=>obtain ⟨t,rfl⟩:=r;exact ⟨.int_tuple b t p hu,.tuple_int b t p hu,.int_tuple b t p hu,.tuple_int b t p hu⟩
 | str b=>obtain ⟨t,rfl⟩:=r;exact ⟨.str_tuple b t p hu,.tuple_str b t p hu,.str_tuple b t p hu,.tuple_str b t p hu⟩
 | _=>exact absurd (show false=true from f) Bool.false_ne_true
theorem fT {A:Around} (hu:A.units < cLine) {u:V}{v:Value} (f:f_ u=true) (r:ar u v) {a:Addr}{its:Array Value} (p:s.heap.IsList a its) :
  SeqAt.EqAt A s v (.ref a) false/\SeqAt.EqAt A s (.ref a) v false/\SeqAt.RcAt A s v (.ref a) false/\SeqAt.RcAt A s (.ref a) v false:=by
 cases u with
 | non=>cases r;exact ⟨.none_list p hu,.list_none p hu,.none_list p hu,.list_none p hu⟩
 | bl b=>cases r;exact ⟨.bool_list b p hu,.list_bool b p hu,.bool_list b p hu,.list_bool b p hu⟩
 | int b=>obtain ⟨t,rfl⟩:=r;exact ⟨.int_list b t p hu,.list_int b t p hu,.int_list b t p hu,.list_int b t p hu⟩
 | str b=>obtain ⟨t,rfl⟩:=r;exact ⟨.str_list b t p hu,.list_str b t p hu,.str_list b t p hu,.list_str b t p hu⟩
 | _=>exact absurd (show false=true from f) Bool.false_ne_true
theorem sA {A:Around}{y x:V}{u v:Value} (ry:ar y u) (rx:ar x v) (fy:f_ y=true) (fx:f_ x=true):SeqAt.RcAt A s u v (eqV y x):=by
 cases y with
 | non =>
  cases ry
  cases x with
  | non=>cases rx;exact SeqAt.RcAt.none_none
  | bl b=>cases rx;exact SeqAt.RcAt.none_bool b
  | int b=>obtain ⟨t,rfl⟩:=rx;exact SeqAt.RcAt.none_int b t
  | str b=>obtain ⟨t,rfl⟩:=rx;exact SeqAt.RcAt.none_str b t
  | _=>exact absurd (show false=true from fx) Bool.false_ne_true
 | bl a =>
  cases ry
  cases x with
  | non=>cases rx;exact SeqAt.RcAt.bool_none a
  | bl b=>cases rx;exact SeqAt.RcAt.bool_bool a b
  | int b=>obtain ⟨t,rfl⟩:=rx;exact SeqAt.RcAt.bool_int a b t
  | str b=>obtain ⟨t,rfl⟩:=rx;exact SeqAt.RcAt.bool_str a b t
  | _=>exact absurd (show false=true from fx) Bool.false_ne_true
 | int a =>
  obtain ⟨t',rfl⟩:=ry
  cases x with
  | non=>cases rx;exact SeqAt.RcAt.int_none a t'
  | bl b=>cases rx;exact SeqAt.RcAt.int_bool a t' b
  | int b=>obtain ⟨t,rfl⟩:=rx;exact SeqAt.RcAt.int_int a t' b t
  | str b=>obtain ⟨t,rfl⟩:=rx;exact SeqAt.RcAt.int_str a t' b t
  | _=>exact absurd (show false=true from fx) Bool.false_ne_true
 | str a =>
  obtain ⟨t',rfl⟩:=ry
  cases x with
  | non=>cases rx;exact SeqAt.RcAt.str_none a t'
  | bl b=>cases rx;exact SeqAt.RcAt.str_bool a t' b
  | int b=>obtain ⟨t,rfl⟩:=rx;exact SeqAt.RcAt.str_int a t' b t
  | str b=>obtain ⟨t,rfl⟩:=rx;exact SeqAt.RcAt.str_str a t' b t
  | _=>exact absurd (show false=true from fx) Bool.false_ne_true
 | _=>exact absurd (show false=true from fy) Bool.false_ne_true
theorem jM {n:Nat}{x y:PV}{u v:V}{b:Bool} (rx:Rep X.K H x u) (ry:Rep X.K H y v) (fx:f_ u=true) (fy:f_ v=true) (h:eqF n x y=some b):b=eqV u v:=by
 cases x <;> cases y <;> simp only [Rep] at rx ry
 all_goals first
  | (obtain ⟨_,_,rfl,_⟩:=rx;exact absurd (show false=true from fx) Bool.false_ne_true)
  | (obtain ⟨_,_,rfl,_⟩:=ry;exact absurd (show false=true from fy) Bool.false_ne_true)
  | (obtain ⟨_,rfl,_⟩:=rx;exact absurd (show false=true from fx) Bool.false_ne_true)
  | (obtain ⟨_,rfl,_⟩:=ry;exact absurd (show false=true from fy) Bool.false_ne_true)
  | (subst rx ry;simp only [eqF,Option.some.injEq] at h;subst h;rfl)
theorem lX (I:Inv X pins σ H s):∀ (n:Nat) (x y:PV) {ux uy:V}{vx vy:Value}{b:Bool}{A:Around},A.units + n < cLine->eqF n x y=some b->Rep X.K H x ux->Rep X.K H y uy->ar ux vx->ar uy vy ->
  SeqAt.EqAt A s vx vy b/\SeqAt.RcAt A s vx vy b:=by
 intro n
 induction n with
 | zero =>
  intro x y ux uy vx vy b A hu h rx ry r1 r2
  have hu0:A.units < cLine:=by omega
  rcases cB (eG h).1 rx with ⟨xs,rfl⟩|⟨xs,rfl⟩|fx
  ·obtain ⟨a,us,its,rfl,rfl,t1,w1,p1,l1⟩:=rx.tupAt I r1
   rcases cB (eG h).2 ry with ⟨ys,rfl⟩|⟨ys,rfl⟩|fy
   ·simp [eqF] at h
   ·obtain ⟨c,ws,its2,rfl,rfl,t2,w2,p2,l2⟩:=ry.lstAt I r2
    simp [eqF] at h;subst h
    exact ⟨.tuple_list p1 p2 hu0,.tuple_list p1 p2 hu0⟩
   ·obtain ⟨z1,z2,z3,z4⟩:=eV hu0 fy r2 p1
    have:b=false:=by cases y <;> simp [eqF,Rep] at h ry <;> first|exact h.symm|exact h|(obtain ⟨_,rfl,_⟩:=ry;exact absurd (show false=true from fy) Bool.false_ne_true)
    subst this
    exact ⟨z2,z4⟩
  ·obtain ⟨a,us,its,rfl,rfl,t1,w1,p1,l1⟩:=rx.lstAt I r1
   rcases cB (eG h).2 ry with ⟨ys,rfl⟩|⟨ys,rfl⟩|fy
   ·obtain ⟨c,ws,its2,rfl,rfl,t2,w2,p2,l2⟩:=ry.tupAt I r2
    simp [eqF] at h;subst h
    exact ⟨.list_tuple p1 p2 hu0,.list_tuple p1 p2 hu0⟩
   ·simp [eqF] at h
   ·obtain ⟨z1,z2,z3,z4⟩:=fT hu0 fy r2 p1
    have:b=false:=by cases y <;> simp [eqF,Rep] at h ry <;> first|exact h.symm|exact h|(obtain ⟨_,rfl,_⟩:=ry;exact absurd (show false=true from fy) Bool.false_ne_true)
    subst this
    exact ⟨z2,z4⟩
  ·rcases cB (eG h).2 ry with ⟨ys,rfl⟩|⟨ys,rfl⟩|fy
   ·obtain ⟨c,ws,its2,rfl,rfl,t2,w2,p2,l2⟩:=ry.tupAt I r2
    obtain ⟨z1,z2,z3,z4⟩:=eV hu0 fx r1 p2
    have:b=false:=by cases x <;> simp [eqF,Rep] at h rx <;> first|exact h.symm|exact h|(obtain ⟨_,rfl,_⟩:=rx;exact absurd (show false=true from fx) Bool.false_ne_true)
    subst this
    exact ⟨z1,z3⟩
   ·obtain ⟨c,ws,its2,rfl,rfl,t2,w2,p2,l2⟩:=ry.lstAt I r2
    obtain ⟨z1,z2,z3,z4⟩:=fT hu0 fx r1 p2
    have:b=false:=by cases x <;> simp [eqF,Rep] at h rx <;> first|exact h.symm|exact h|(obtain ⟨_,rfl,_⟩:=rx;exact absurd (show false=true from fx) Bool.false_ne_true)
    subst this
    exact ⟨z1,z3⟩
   ·rw [jM rx ry fx fy h]
    exact ⟨rm r1 r2 fx fy,sA r1 r2 fx fy⟩
 | succ n ih =>
  intro x y ux uy vx vy b A hu h rx ry r1 r2
  have hu0:A.units < cLine:=by omega
  obtain ⟨kt,kl⟩:=vf I (λx y {_ _ _ _ _ _} a1 a2 a3 a4 a5 a6=>(ih x y a1 a2 a3 a4 a5 a6).1) hu
  rcases cB (eG h).1 rx with ⟨xs,rfl⟩|⟨xs,rfl⟩|fx
  ·obtain ⟨a,us,its,e1,e1',t1,w1,p1,l1⟩:=rx.tupAt I r1
   rcases cB (eG h).2 ry with ⟨ys,rfl⟩|⟨ys,rfl⟩|fy
   ·have q:=kt h rx ry r1 r2
    obtain ⟨c,ws,its2,e2,e2',t2,w2,p2,l2⟩:=ry.tupAt I r2
    subst e1 e1' e2 e2'
    refine ⟨?_,q⟩
    by_cases hac:a=c
    ·subst hac
     have e:=iZ I _ _ rx ry
     rw [e] at h
     rw [gP _ _ h]
     exact .same _
    ·exact .of_refs hac q
   ·obtain ⟨c,ws,its2,e2,e2',t2,w2,p2,l2⟩:=ry.lstAt I r2
    subst e1 e1' e2 e2'
    simp [eqF] at h;subst h
    exact ⟨.tuple_list p1 p2 hu0,.tuple_list p1 p2 hu0⟩
   ·subst e1 e1'
    obtain ⟨z1,z2,z3,z4⟩:=eV hu0 fy r2 p1
    have:b=false:=by cases y <;> simp [eqF,Rep] at h ry <;> first|exact h.symm|exact h|(obtain ⟨_,rfl,_⟩:=ry;exact absurd (show false=true from fy) Bool.false_ne_true)
    subst this
    exact ⟨z2,z4⟩
  ·obtain ⟨a,us,its,e1,e1',t1,w1,p1,l1⟩:=rx.lstAt I r1
   rcases cB (eG h).2 ry with ⟨ys,rfl⟩|⟨ys,rfl⟩|fy
   ·obtain ⟨c,ws,its2,e2,e2',t2,w2,p2,l2⟩:=ry.tupAt I r2
    subst e1 e1' e2 e2'
    simp [eqF] at h;subst h
    exact ⟨.list_tuple p1 p2 hu0,.list_tuple p1 p2 hu0⟩
   ·have q:=kl h rx ry r1 r2
    obtain ⟨c,ws,its2,e2,e2',t2,w2,p2,l2⟩:=ry.lstAt I r2
    subst e1 e1' e2 e2'
    refine ⟨?_,q⟩
    by_cases hac:a=c
    ·subst hac
     have e:=iZ I _ _ rx ry
     rw [e] at h
     rw [gP _ _ h]
     exact .same _
    ·exact .of_refs hac q
   ·subst e1 e1'
    obtain ⟨z1,z2,z3,z4⟩:=fT hu0 fy r2 p1
    have:b=false:=by cases y <;> simp [eqF,Rep] at h ry <;> first|exact h.symm|exact h|(obtain ⟨_,rfl,_⟩:=ry;exact absurd (show false=true from fy) Bool.false_ne_true)
    subst this
    exact ⟨z2,z4⟩
  ·rcases cB (eG h).2 ry with ⟨ys,rfl⟩|⟨ys,rfl⟩|fy
   ·obtain ⟨c,ws,its2,rfl,rfl,t2,w2,p2,l2⟩:=ry.tupAt I r2
    obtain ⟨z1,z2,z3,z4⟩:=eV hu0 fx r1 p2
    have:b=false:=by cases x <;> simp [eqF,Rep] at h rx <;> first|exact h.symm|exact h|(obtain ⟨_,rfl,_⟩:=rx;exact absurd (show false=true from fx) Bool.false_ne_true)
    subst this
    exact ⟨z1,z3⟩
   ·obtain ⟨c,ws,its2,rfl,rfl,t2,w2,p2,l2⟩:=ry.lstAt I r2
    obtain ⟨z1,z2,z3,z4⟩:=fT hu0 fx r1 p2
    have:b=false:=by cases x <;> simp [eqF,Rep] at h rx <;> first|exact h.symm|exact h|(obtain ⟨_,rfl,_⟩:=rx;exact absurd (show false=true from fx) Bool.false_ne_true)
    subst this
    exact ⟨z1,z3⟩
   ·rw [jM rx ry fx fy h]
    exact ⟨rm r1 r2 fx fy,sA r1 r2 fx fy⟩
end
section
variable {X:Cx}
theorem xz (hu:X.A.units + 101 < cLine):OpR X (compareOp .Eq) (λux uy H Q=>∃ x y b,Rep X.K H x ux/\Rep X.K H y uy/\eqF 100 x y=some b/\Q (.bl b) H):=by
 intro pins s σ H ux uy v u Q I rx ry h
 obtain ⟨x,y,b,r1,r2,e,q⟩:=h
 exact (lX I 100 x y (by omega) e r1 r2 rx ry).2 _ _ _ _ ⟨.bl b,H,I,rfl,q⟩
theorem xA (hu:X.A.units + 101 < cLine):OpR X (compareOp .NotEq) (λux uy H Q=>∃ x y b,Rep X.K H x ux/\Rep X.K H y uy/\qr x y=true/\eqF 100 x y=some b/\Q (.bl (!b)) H):=by
 intro pins s σ H ux uy v u Q I rx ry h
 obtain ⟨x,y,b,r1,r2,ok,e,q⟩:=h
 rcases cB (eG e).1 r1 with ⟨xs,rfl⟩|⟨xs,rfl⟩|fx
 ·cases y with
  | tup ys =>
   obtain ⟨a,us,its,rfl,rfl,t1,w1,p1,l1⟩:=r1.tupAt I rx
   obtain ⟨c,ws,its2,rfl,rfl,t2,w2,p2,l2⟩:=r2.tupAt I ry
   rw [eqF] at e
   obtain ⟨hs,hb⟩:=gQ xs ys e
   obtain ⟨⟨cls,dd,data,sl⟩,ho,hc,n,hd⟩:=id p1
   obtain ⟨⟨cls2,dd2,data2,sl2⟩,ho2,hc2,n2,hd2⟩:=id p2
   simp only at hc hd hc2 hd2
   subst hc hd hc2 hd2
   refine richCompare_meets_room (op:=.NotEq) ⟨_,ho,rfl⟩ ⟨_,ho2,rfl⟩ PySem.F.slot_tuple_ne PySem.F.entry_tuple_ne (PySem.F.args_tuple_ne_2 _ _) (SeqAt.tuple_neAt a c its.toArray its2.toArray n n2 dd dd2 sl sl2 _)
    ⟨ho,ho2,gS (n:=99) (λx y {_ _ _ _ _ _} a1 a2 a3 a4 a5 a6=>(lX I 99 x y a1 a2 a3 a4 a5 a6).1) (by omega) t1 t2 w1 w2 hs,?_⟩ (by omega)
   refine ⟨(λx=>nomatch x),⟨.bl (!b),H,I,?_,q⟩⟩
   rw [hb]
   simp [l1,l2,L2.ar]
  | _=>cases ok
 ·cases y with
  | lst ys =>
   obtain ⟨a,us,its,rfl,rfl,t1,w1,p1,l1⟩:=r1.lstAt I rx
   obtain ⟨c,ws,its2,rfl,rfl,t2,w2,p2,l2⟩:=r2.lstAt I ry
   rw [eqF] at e
   obtain ⟨⟨cls,dd,data,sl⟩,ho,hc,n,hd⟩:=id p1
   obtain ⟨⟨cls2,dd2,data2,sl2⟩,ho2,hc2,n2,hd2⟩:=id p2
   simp only at hc hd hc2 hd2
   subst hc hd hc2 hd2
   by_cases hl:xs.length=ys.length
   ·rw [if_pos hl] at e
    obtain ⟨hs,hb⟩:=gQ xs ys e
    refine richCompare_meets_room (op:=.NotEq) ⟨_,ho,rfl⟩ ⟨_,ho2,rfl⟩ PySem.F.slot_list_ne PySem.F.entry_list_ne (PySem.F.args_list_ne_2 _ _) (SeqAt.list_neAt a c its.toArray its2.toArray n n2 dd dd2 sl sl2 (by simp only [List.size_toArray];omega) _)
     ⟨ho,ho2,gS (n:=99) (λx y {_ _ _ _ _ _} a1 a2 a3 a4 a5 a6=>(lX I 99 x y a1 a2 a3 a4 a5 a6).1) (by omega) t1 t2 w1 w2 hs,?_⟩ (by omega)
    refine ⟨(λx=>nomatch x),⟨.bl (!b),H,I,?_,q⟩⟩
    rw [hb,hl,Nat.min_self]
    simp [<- l1,hl,L2.ar]
   ·rw [if_neg hl] at e
    cases e
    refine richCompare_meets_room (op:=.NotEq) ⟨_,ho,rfl⟩ ⟨_,ho2,rfl⟩ PySem.F.slot_list_ne PySem.F.entry_list_ne (PySem.F.args_list_ne_2 _ _) (SeqAt.list_ne_lengthsAt a c its.toArray its2.toArray n n2 dd dd2 sl sl2 (by simp only [List.size_toArray,bne_iff_ne];omega)) ⟨ho,ho2,?_⟩ (by omega)
    exact ⟨(λx=>nomatch x),⟨.bl true,H,I,rfl,q⟩⟩
  | _=>cases ok
 ·have fy:f_ uy=true:=by
   rcases cB (eG e).2 r2 with ⟨ys,rfl⟩|⟨ys,rfl⟩|fy
   ·cases x <;> cases ok
    obtain ⟨_,_,rfl,_⟩:∃ a us,ux=V.ref a/\_:=by rw [Rep] at r1;exact r1
    exact absurd (show false=true from fx) Bool.false_ne_true
   ·cases x <;> cases ok
    obtain ⟨_,_,rfl,_⟩:∃ a us,ux=V.ref a/\_:=by rw [Rep] at r1;exact r1
    exact absurd (show false=true from fx) Bool.false_ne_true
   ·exact fy
  have hb:=jM r1 r2 fx fy e
  subst hb
  refine ze pins s σ H ux uy v u Q I rx ry ?_
  have key:scal ux uy=true/\decide (ux=uy)=eqV ux uy:=by
   cases x <;> cases y <;> simp only [Rep] at r1 r2 <;> first
    | (obtain ⟨_,_,rfl,_⟩:=r1;exact absurd (show false=true from fx) Bool.false_ne_true)
    | (obtain ⟨_,_,rfl,_⟩:=r2;exact absurd (show false=true from fy) Bool.false_ne_true)
    | (obtain ⟨_,rfl,_⟩:=r1;exact absurd (show false=true from fx) Bool.false_ne_true)
    | (obtain ⟨_,rfl,_⟩:=r2;exact absurd (show false=true from fy) Bool.false_ne_true)
    | (subst r1 r2;first|(cases ok;done)|exact ⟨rfl,by first|exact oJ|exact qZ|exact oK|exact decide_eq_true rfl|exact decide_eq_false (λz=>by cases z)⟩)
  exact ⟨key.1,by rw [key.2];exact q⟩
theorem gU {pins:List (Addr × Obj)}{σ:St}{H:Hp}{s:Shared} (I:Inv X pins σ H s) (hu:X.A.units + 101 < cLine) {x:PV}{ux:V}{vx:Value} (rx:Rep X.K H x ux) (r1:ar ux vx) {xs:List PV}{us:List V}{its:List Value} (t:Reps X.K H xs us) (w:am us its) {b:Bool} (h:isIn x xs=some b) :
  ∃ e:Value->Bool,(∀ y,y ∈ its.toArray->SeqAt.EqAt X.A.in1 s y vx (e y))/\its.toArray.any e=b:=by
 obtain ⟨h1,h2⟩:=pz xs h
 classical
 have uniq:∀ (z:PV) (u:V) (y:Value),ar u y->Rep X.K H z u->∀ p:(∃ z u,ar u y/\Rep X.K H z u),p.choose=z:=λz u y r q p=>by
  obtain ⟨u',r',q'⟩:=p.choose_spec
  have e:=r.inj r'
  subst e
  exact iZ I _ _ q' q
 refine ⟨λy=>if p:∃ z u,ar u y/\Rep X.K H z u then (eqF 100 p.choose x).getD false else false,?_,?_⟩
 ·intro y hy
  obtain ⟨j,hj,e⟩:=List.getElem_of_mem (by simpa using hy:y ∈ its)
  have ej:its[j]?=some y:=by rw [List.getElem?_eq_getElem hj,e]
  have l1:=w.length
  obtain ⟨uy,e1⟩:∃ uy,us[j]?=some uy:=⟨_,List.getElem?_eq_getElem (by omega)⟩
  obtain ⟨wy,e2,ry⟩:=w.get e1
  rw [ej] at e2
  cases e2
  obtain ⟨z,e3,rz⟩:=t.get' e1
  obtain ⟨c,hc⟩:=h1 z (List.mem_of_getElem? e3)
  have q:=(lX I 100 z x (A:=X.A.in1) (show X.A.units + 1 + 100 < cLine by omega) hc rz rx ry r1).1
  have p:∃ z u,ar u y/\Rep X.K H z u:=⟨z,uy,ry,rz⟩
  have e4:=uniq z uy y ry rz p
  simp only [p,dite_true,e4,hc,Option.getD_some]
  exact q
 ·rw [h2]
  simp only [List.any_toArray]
  clear h h1 h2
  induction xs generalizing us its with
  | nil =>
   rw [Reps] at t
   subst t
   cases w
   rfl
  | cons z zs ih =>
   rw [Reps] at t
   obtain ⟨u,r,rfl,q,t⟩:=t
   cases w with
   | cons rv w =>
    rename_i y ys
    have p:∃ z u,ar u y/\Rep X.K H z u:=⟨z,u,rv,q⟩
    have e4:=uniq z u y rv q p
    rw [List.any_cons,List.any_cons,ih t w]
    simp only [p,dite_true,e4]
theorem xB (hu:X.A.units + 101 < cLine):OpR X (compareOp .In) (λux uy H Q=>∃ x xs a us b,Rep X.K H x ux/\uy=.ref a/\(SqL X.K H a us \/ SqT X.K H a us)/\Reps X.K H xs us/\isIn x xs=some b/\Q (.bl b) H):=by
 intro pins s σ H ux uy v u Q I rx ry h
 obtain ⟨x,xs,a,us,b,r1,rfl,hq,r2,e,q⟩:=h
 cases ry
 rcases hq with hq|hq
 ·obtain ⟨its,r,pl,hz⟩:=I.list hq
  obtain ⟨f,h1,h2⟩:=gU I hu r1 rx r2 r e
  refine SeqAt.in_listAt f pl.isList h1 ?_
  rw [h2]
  exact ⟨.bl b,H,I,rfl,q⟩
 ·obtain ⟨its,r,pl,hz⟩:=I.tuple hq
  obtain ⟨f,h1,h2⟩:=gU I hu r1 rx r2 r e
  refine SeqAt.in_tupleAt f pl h1 ?_
  rw [h2]
  exact ⟨.bl b,H,I,rfl,q⟩
theorem qx (hu:X.A.units + 101 < cLine):OpR X (compareOp .NotIn) (λux uy H Q=>∃ x xs a us b,Rep X.K H x ux/\uy=.ref a/\(SqL X.K H a us \/ SqT X.K H a us)/\Reps X.K H xs us/\isIn x xs=some b/\Q (.bl (!b)) H):=by
 intro pins s σ H ux uy v u Q I rx ry h
 obtain ⟨x,xs,a,us,b,r1,rfl,hq,r2,e,q⟩:=h
 cases ry
 rcases hq with hq|hq
 ·obtain ⟨its,r,pl,hz⟩:=I.list hq
  obtain ⟨f,h1,h2⟩:=gU I hu r1 rx r2 r e
  refine SeqAt.notIn_listAt f pl.isList h1 ?_
  rw [h2]
  exact ⟨.bl (!b),H,I,rfl,q⟩
 ·obtain ⟨its,r,pl,hz⟩:=I.tuple hq
  obtain ⟨f,h1,h2⟩:=gU I hu r1 rx r2 r e
  refine SeqAt.notIn_tupleAt f pl h1 ?_
  rw [h2]
  exact ⟨.bl (!b),H,I,rfl,q⟩
end
end MM
namespace L2
open PySem PySem.Spec PyProof.Rows
theorem PE.imp {X:Cx}{e:Expr}{t t':TE} (h:PE X e t) (i:∀ σ H Q,t' σ H Q->t σ H Q):PE X e t':=λpins s σ H Q I q=>h pins s σ H Q I (i σ H Q q)
theorem PT.imp {X:Cx}{e:Expr}{t t':TT} (h:PT X e t) (i:∀ σ H Q,t' σ H Q->t σ H Q):PT X e t':=λpins s σ H Q I q=>h pins s σ H Q I (i σ H Q q)
theorem PA.imp {X:Cx}{e:List Expr}{t t':TA} (h:PA X e t) (i:∀ σ H Q,t' σ H Q->t σ H Q):PA X e t':=λpos pins s σ H Q I q=>h pos pins s σ H Q I (i σ H Q q)
theorem PS.imp {X:Cx}{e:Stmt}{t t':TS} (h:PS X e t) (i:∀ D σ H,t' D σ H->t D σ H):PS X e t':=λpins s σ H D I q=>h pins s σ H D I (i D σ H q)
theorem PSs.imp {X:Cx}{e:List Stmt}{t t':TS} (h:PSs X e t) (i:∀ D σ H,t' D σ H->t D σ H):PSs X e t':=λpins s σ H D I q=>h pins s σ H D I (i D σ H q)
theorem PI.imp {X:Cx}{tg e:Expr}{t t':TI} (h:PI X tg e t) (i:∀ σ H R,t' σ H R->t σ H R):PI X tg e t':=λpins s σ H R I q=>h pins s σ H R I (i σ H R q)
end L2
namespace MM
open PySem PySem.Spec PyProof.Rows L2
noncomputable def gf (K:PySem.W.Frag) (O:List Addr) (H:Hp):MV->V->Prop
 | .val v,u=>Rep K (ai H O) v u
 | .brw xs,u=>∃ a us,u=.ref a/\SqL K H a us/\Reps K (ai H O) xs us
 | .own _,_=>False
 | .ownD _,_=>False
 | .ownL _,_=>False
 | .brwD kvs,u=>∃ a,u=.ref a/\Rd H a (ix kvs)
noncomputable def spM (K:PySem.W.Frag) (cal:Cal) (f:Nat):Sp:=λvs H Q _ =>
 ∃ (O:List Addr) (args:List MV) (r:PV),(∀ a ∈ O,H a ≠ none)/\Paired (gf K O H) args vs/\cal f args=some r/\∀ u H',ag H H'->Rep K (ai H' O) r u->Q u H'
noncomputable def spF (K:PySem.W.Frag) (cal:Cal) (f:Nat):Sp:=λvs H Q _ =>
 ∃ (O:List Addr) (args:List MV) (xs:List PV),(∀ a ∈ O,H a ≠ none)/\Paired (gf K O H) args vs/\cal (f + 1000) args=some (.lst xs)/\∀ p us H',ag H H'->H p=none->H' p=some (.lst us)->Reps K (ai H' (p::O)) xs us->Q (.ref p) H'
noncomputable def spU (K:PySem.W.Frag) (cal:Cal) (f:Nat):Sp:=λvs H Q _ =>
 ∃ (O:List Addr) (args:List MV) (n:Int),(∀ a ∈ O,H a ≠ none)/\Paired (gf K O H) args vs/\cal (f + 7000) args=some (.int n)/\∀ (a:Addr) (us:List V) (H':Hp),ag H H'->H' a=some (.tup us)->(us.length:Int)=n->Q (.ref a) H'
noncomputable def spE (K:PySem.W.Frag) (mg:Str->Option Value) (es:List Str) (cal:Cal) (f:Nat):Sp:=λvs H Q E =>
 ∃ (O:List Addr) (args:List MV) (r:PV),(∀ a ∈ O,H a ≠ none)/\Paired (gf K O H) args vs/\cal (f + 5000) args=some r /\
  ((∃ v,r=.tup [v]/\∀ u H',ag H H'->Rep K (ai H' O) v u->Q u H') \/ ∃ c,r=.str c/\∀ C H',es.contains c=true->mg c=some (.ref C)->ag H H'->E (.ref C) none H')
noncomputable def Bi (K:PySem.W.Frag) (C:Addr):Option (List Value):=match K.lookup C with
 | some ⟨_,_,.cls cd,_⟩=>(match cd.mro with
  | _::ms=>some ms
  | []=>none)
 | _=>none
noncomputable def zI (K:PySem.W.Frag) (c d:Str) (C:Addr) (ms:List Value):Bool:=match PySem.W.nsIn K mainGlobals d with
 | some (some (.ref D))=>(Value.ref C::ms).contains (.ref D) == gx c d&&PySem.W.kitOne K (.ref C) (.ref D) == some (gx c d)
 | _=>false
noncomputable def mX (K:PySem.W.Frag) (es:List Str):Bool:=PySem.W.nsIn K mainGlobals "ValueError" == some none&&es.all λc=>match PySem.W.nsIn K mainGlobals c with
 | some (some (.ref C))=>(match Bi K C with
  | some ms=>dN K C ms&&jD K C&&PySem.W.kitOne K (.ref C) (.type "ValueError") == some true&&es.all λd=>zI K c d C ms
  | none=>false)
 | _=>false
noncomputable def fD:List String:=["len","tuple","list","sorted","any","all","sum","max","min","int","bool","str","isinstance","set","range","enumerate","reversed"]
noncomputable def toV:PV->V
 | .non=>.non
 | .bl b=>.bl b
 | .int i=>.int i
 | .str x=>.str x
 | _=>.non
structure Gf (X:Cx) (T:Tab) (k:Nat) (cal:Cal):Prop where
 calm:X.calm=true
 room:gm k X.A
 fns:∀ (f:Nat) (x:Str),T.fs[f]?=some x->∃ (fa:Addr) (fd:FuncData) (ps:List Str),X.mg x=some (.ref fa)/\PySem.W.keepIn X.K (.ref fa)=true/\cU X.K fd ps []/\eT X.prog X.w X.K X.mg X.base CX0 k fa fd ps (spM X.K cal f)/\∀ l,T.ds[f]?=some l->∃ vs,cU X.K fd ps vs/\am (l.map Sc.v) vs
 blt:∀ x ∈ fD,X.mg (x:Str)=none
 gs:∀ p ∈ T.gs,∃ u,X.mg p.1=some u/\ar (toV p.2) u
 fnsF:∀ (f:Nat) (x:Str),T.fs[f]?=some x->∃ (fa:Addr) (fd:FuncData) (ps:List Str),X.mg x=some (.ref fa)/\PySem.W.keepIn X.K (.ref fa)=true/\cU X.K fd ps []/\eT X.prog X.w X.K X.mg X.base CX0 k fa fd ps (spF X.K cal f)
 fnsU:∀ (f:Nat) (x:Str),T.fs[f]?=some x->∃ (fa:Addr) (fd:FuncData) (ps:List Str),X.mg x=some (.ref fa)/\PySem.W.keepIn X.K (.ref fa)=true/\cU X.K fd ps []/\eT X.prog X.w X.K X.mg X.base CX0 k fa fd ps (spU X.K cal f)
 errs:mX X.K T.es=true
 mgs:∀ c u,PySem.W.nsIn X.K mainGlobals c=some u->X.mg c=u
 fnsE:∀ (f:Nat) (x:Str),T.fs[f]?=some x->∃ (fa:Addr) (fd:FuncData) (ps:List Str),X.mg x=some (.ref fa)/\PySem.W.keepIn X.K (.ref fa)=true/\cU X.K fd ps []/\eT X.prog X.w X.K X.mg X.base (CXE X.prog X.w) k fa fd ps (spE X.K X.mg T.es cal f)
theorem Gf.units {X:Cx}{T:Tab}{k:Nat}{cal:Cal} (g:Gf X T k cal):X.A.units + 200 < cLine:=by have:=g.room.un;omega
noncomputable def Got (K:PySem.W.Frag) (H:Hp) (O:List Addr) (me:ME) (v:PV) (u:V):Prop:=ba K H O v u/\(aF me=false->Rep K (ai H O) v u)
noncomputable def tE (K:PySem.W.Frag) (cal:Cal) (me:ME):TE:=λσ H Q=>∃ B O₀ O ρ v,aw K B O₀ O H ρ σ/\ev cal me ρ=some v/\∀ u H',ag H H'->Got K H' O me v u->Q u H'
noncomputable def tT (K:PySem.W.Frag) (cal:Cal) (me:ME):TT:=λσ H Q=>∃ B O₀ O ρ b,aw K B O₀ O H ρ σ/\evB cal me ρ=some b/\∀ H',ag H H'->Q b H'
noncomputable def Bj (K:PySem.W.Frag) (H:Hp) (O:List Addr) (ms:List ME) (vs:List PV) (us:List V):Prop:=Paired (ba K H O) vs us/\((ms.all λm=>!aF m)=true->Reps K (ai H O) vs us)
noncomputable def tEs (K:PySem.W.Frag) (cal:Cal) (ms:List ME):TA:=λσ H Q=>∃ B O₀ O ρ vs,aw K B O₀ O H ρ σ/\evs cal ms ρ=some vs/\∀ us H',ag H H'->Bj K H' O ms vs us->Q us H'
noncomputable def tAs (K:PySem.W.Frag) (cal:Cal) (ms:List ME):TA:=λσ H Q=>∃ B O₀ O ρ vs,aw K B O₀ O H ρ σ/\evA cal ms ρ=some vs/\∀ us H',ag H H'->Paired (gf K O H') vs us->Q us H'
section
variable {K:PySem.W.Frag}{H H':Hp}{O:List Addr}
theorem Got.of {me:ME}{v:PV}{u:V} (h:Rep K (ai H O) v u):Got K H O me v u:=⟨.inl h,λ_=>h⟩
theorem Got.scal {me:ME}{v:PV}{u:V} (h:∀ F,Rep K F v u):Got K H O me v u:=.of (h _)
theorem Got.mono {me:ME}{v:PV}{u:V} (s:ag H H') (h:Got K H O me v u):Got K H' O me v u:=⟨h.1.mono s,λe=>Rep.mono (ax s) _ (h.2 e)⟩
theorem dP (F:Hp) (b:Bool):Rep K F (.bl b) (.bl b):=by rw [Rep]
theorem bS (F:Hp) (b:Int):Rep K F (.int b) (.int b):=by rw [Rep]
theorem lY (F:Hp) (b:Str):Rep K F (.str b) (.str b):=by rw [Rep]
theorem i2 (F:Hp):Rep K F .non .non:=by rw [Rep]
theorem fE {H1:Hp}{p:Addr}{xs:List PV}{us:List V} (hO:∀ a ∈ O,H1 a ≠ none) (hp:H1 p=none) (h:Reps K (ai H1 O) xs us):Rep K (ai (upd H1 p (.tup us)) O) (.tup xs) (.ref p):=by
 rw [Rep]
 refine ⟨p,us,rfl,?_,Reps.mono (ax (aC hp _)) _ h⟩
 rw [bH (λz=>hO p z hp)]
 exact aB
theorem jN {H1:Hp}{p:Addr}{xs:List PV}{us:List V} (hO:∀ a ∈ O,H1 a ≠ none) (hp:H1 p=none) (h:Reps K (ai H1 O) xs us):Rep K (ai (upd H1 p (.lst us)) O) (.lst xs) (.ref p):=by
 rw [Rep]
 refine ⟨p,us,rfl,SqL.of ?_,Reps.mono (ax (aC hp _)) _ h⟩
 rw [bH (λz=>hO p z hp)]
 exact aB
theorem bg (s:ag H H') (h:∀ a ∈ O,H a ≠ none):∀ a ∈ O,H' a ≠ none:=λa ha e=>h a ha (s.free e)
theorem dG {n:Nat} (h:n <= 10000):n <= sizeLine:=Nat.le_trans h (by decide)
end
section
variable {X:Cx}{T:Tab}{k:Nat}{cal:Cal}
theorem zJ {sc:Scope}{x:Str} (h:xo sc x=true):Vis sc x:=by
 unfold xo at h
 simp only [Bool.or_eq_true,beq_iff_eq] at h
 rcases h with (h|h)|h
 ·exact .inl h
 ·exact .inr (.inl h)
 ·exact .inr (.inr h)
theorem gh {sc:Scope}{x:Str} (h:fA sc x=true):Loc sc x:=by
 unfold fA at h
 simp only [Bool.or_eq_true,beq_iff_eq] at h
 exact h
theorem c8 {x:Str} (h:ah x=true):(x == ("__debug__":Str))=false/\(x == ("__classdict__":Str))=false/\x ≠ "__name__":=by
 unfold ah at h
 simp only [Bool.and_eq_true,Bool.not_eq_true'] at h
 obtain ⟨⟨h1,h2⟩,h3⟩:=h
 exact ⟨h1,h2,λe=>by rw [e] at h3;simp at h3⟩
theorem cR {x:Str} (h:glB X.env.scope x=true):Gl X x:=by
 unfold glB at h
 simp only [beq_iff_eq] at h
 exact h
theorem bT {i:Nat}{x:Str}{pos:Pos} (h:aD X.N X.env.scope i x=true):PE X (.Name x pos) (ww i):=by
 unfold aD at h
 simp only [Bool.and_eq_true,beq_iff_eq] at h
 obtain ⟨⟨h1,h2⟩,h3⟩:=h
 obtain ⟨p1,p2,_⟩:=c8 h3
 exact wz h1 (zJ h2) p1 p2
theorem bU {K:PySem.W.Frag}{B H:Hp}{O₀ O:List Addr}{ρ:Rho}{σ:St} (st:aw K B O₀ O H ρ σ) {i:Nat}{m:MV} (e:(ρ[i]?).join=some m):∃ u,σ[i]?=some (some u)/\eE K B O H m u:=st.slot i m (bw e)
theorem wc {i:Nat}{x:Str}{pos:Pos} (h:aD X.N X.env.scope i x=true):PE X (.Name x pos) (tE X.K cal (.var i)):=by
 refine (bT h).imp λσ H Q hq=>?_
 obtain ⟨B,O₀,O,ρ,v,st,he,q⟩:=hq
 rw [ev] at he
 cases hj:(ρ[i]?).join with
 | none=>rw [hj] at he;cases he
 | some m =>
  rw [hj] at he
  cases m with
  | val w =>
   simp only [r6,Option.some.injEq] at he
   subst he
   obtain ⟨u,e1,r⟩:=bU st hj
   exact ⟨u,e1,q u H (ag.refl H) (.of r)⟩
  | own _=>cases he
  | brw _=>cases he
  | ownD _=>cases he
  | ownL _=>cases he
  | brwD _=>cases he
theorem wd {i:Nat}{x:Str}{pos:Pos} (h:aD X.N X.env.scope i x=true):PE X (.Name x pos) (tE X.K cal (.bor i)):=by
 refine (bT h).imp λσ H Q hq=>?_
 obtain ⟨B,O₀,O,ρ,v,st,he,q⟩:=hq
 rw [ev] at he
 cases hj:(ρ[i]?).join with
 | none=>rw [hj] at he;cases he
 | some m =>
  rw [hj] at he
  obtain ⟨u,e1,r⟩:=bU st hj
  exact ⟨u,e1,q u H (ag.refl H) ⟨r.bor st.keep he,λz=>by cases z⟩⟩
theorem we {v:PV}{c:Const}{j:Nat}{pos:Pos} (h:lV v c=true):PE X (.Constant c j pos) (tE X.K cal (.cst v)):=by
 have key:∀ (u:V),(∀ F,Rep X.K F v u)->PE X (.Constant c j pos) (tC u)->PE X (.Constant c j pos) (tE X.K cal (.cst v)):=λu r p=>p.imp λσ H Q hq=>by
  obtain ⟨B,O₀,O,ρ,w,st,he,q⟩:=hq
  rw [ev] at he
  cases he
  exact q u H (ag.refl H) (.scal r)
 cases v <;> cases c <;> simp only [lV,Bool.false_eq_true,beq_iff_eq] at h
 ·exact key .non (λF=>i2 F) wB
 ·subst h;exact key _ (λF=>dP F _) vZ
 ·subst h;exact key _ (λF=>bS F _) wA
 ·subst h;exact key _ (λF=>lY F _) ny
theorem sB {x y:Str}{v:PV}{pos:Pos} (g:Gf X T k cal) (h:chk T (.glob x v) X.N X.env.scope (.Name y pos)=true):PE X (.Name y pos) (tE X.K cal (.glob x v)):=by
 simp only [b9,b_,cb,bt,ce,cf,cg,ci,dB,cj,cm,aQ,cq,cr,cu,aR,cv,bu,aM,Bool.and_eq_true,beq_iff_eq] at h
 obtain ⟨⟨⟨rfl,hg⟩,hs⟩,hp⟩:=h
 unfold sd at hs
 obtain ⟨p,hp1,hp2⟩:=List.any_eq_true.mp hs
 simp only [Bool.and_eq_true,beq_iff_eq] at hp2
 obtain ⟨rfl,hv⟩:=hp2
 obtain ⟨u,e1,r⟩:=g.gs p hp1
 have e:p.2=v/\∀ F,Rep X.K F v (toV v):=by
  revert hv
  generalize p.2=z
  intro hv
  cases z <;> cases v <;> simp only [wa,Bool.false_eq_true,beq_iff_eq] at hv
  ·exact ⟨rfl,λF=>i2 F⟩
  ·subst hv;exact ⟨rfl,λF=>dP F _⟩
  ·subst hv;exact ⟨rfl,λF=>bS F _⟩
  ·subst hv;exact ⟨rfl,λF=>lY F _⟩
 rw [e.1] at r
 refine (oD (cR hg) e1 r (c8 hp).1).imp λσ H Q hq=>?_
 obtain ⟨B,O₀,O,ρ,w,st,he,q⟩:=hq
 rw [ev] at he
 cases he
 exact q _ H (ag.refl H) (.scal e.2)
end
section
variable {X:Cx}
noncomputable def R2M (K:PySem.W.Frag) (f:PV->PV->Option PV):R2:=λux uy H Q =>
 ∃ O x y v,(∀ a ∈ O,H a ≠ none)/\ba K H O x ux/\ba K H O y uy/\f x y=some v/\∀ u H',ag H H'->Rep K (ai H' O) v u->Q u H'
theorem iA {op:Operator}{C:Int->Int->Prop}{g:Int->Int->Int}{f:PV->PV->Option PV} (h:OpR X (binaryOp op) (rI C λi j=>.int (g i j)))
  (hf:∀ x y v,f x y=some v->∃ i j,x=.int i/\y=.int j/\C i j/\v=.int (g i j)):OpR X (binaryOp op) (R2M X.K f):=by
 intro pins s σ H ux uy v u Q I rx ry hq
 obtain ⟨O,x,y,w,hO,r1,r2,e,q⟩:=hq
 obtain ⟨i,j,rfl,rfl,c,rfl⟩:=hf x y w e
 have e1:=r1.int
 have e2:=r2.int
 subst e1 e2
 exact h pins s σ H _ _ v u Q I rx ry ⟨i,j,rfl,rfl,c,q _ H (ag.refl H) (bS _ _)⟩
theorem vg:OpR X (binaryOp .Add) (λx y H Q=>∃ l b xs zs,x=.ref l/\y=.ref b/\SqL X.K H l xs/\SqL X.K H b zs/\xs.length + zs.length <= sizeLine/\∀ p,H p=none->Q (.ref p) (upd H p (.lst (xs ++ zs)))):=by
 intro pins s σ H x y v u Q I rx ry h
 obtain ⟨l,b,xs,zs,rfl,rfl,hH,hB,hz,q⟩:=h
 cases rx
 cases ry
 obtain ⟨its,r,pl,_⟩:=I.list hH
 obtain ⟨its2,r2,pl2,_⟩:=I.list hB
 have l1:=r.length
 have l2:=r2.length
 obtain ⟨⟨cls,dd,data,sl⟩,ho,hc,n,hd⟩:=pl.isList
 obtain ⟨⟨cls2,dd2,data2,sl2⟩,ho2,hc2,n2,hd2⟩:=pl2.isList
 simp only at hc hd hc2 hd2
 subst hc hd hc2 hd2
 have e:its.toArray ++ its2.toArray=(its ++ its2).toArray:=by simp
 refine concat_meets ⟨_,ho,rfl⟩ ⟨_,ho2,rfl⟩ noFill_list_add seq_list_add PySem.F.slot_list_add PySem.F.entry_list_add (PySem.F.args_list_add_2 _ _) (list_addW l b its.toArray its2.toArray n n2 dd dd2 sl sl2 (by rw [List.size_toArray,List.size_toArray];omega)) ⟨ho,ho2,?_⟩
 rw [e]
 exact ⟨.ref _,_,I.lnew (t':=s.toks) (r.append r2) (by rw [List.length_append];omega),rfl,q _ I.fresh⟩
theorem vh:OpR X (binaryOp .Add) (λx y H Q=>∃ a b ys,x=.ref a/\y=.ref b/\SqT X.K H a []/\SqT X.K H b ys/\Q (.ref b) H):=by
 intro pins s σ H x y v u Q I rx ry h
 obtain ⟨a,b,ys,rfl,rfl,ha,hb,q⟩:=h
 cases rx
 cases ry
 obtain ⟨its,r1,⟨⟨c1,d1,t1,l1⟩,ho,hc,n,hd⟩,_⟩:=I.tuple ha
 obtain ⟨its2,r2,⟨⟨c2,d2,t2,l2⟩,ho2,hc2,n2,hd2⟩,_⟩:=I.tuple hb
 cases hc
 cases hd
 cases hc2
 cases hd2
 have none0:its=[]:=r1.nil_iff.mpr rfl
 have meets:=tuple_addW0 a b its.toArray its2.toArray n n2 d1 d2 l1 l2 (by simp [none0])
 exact concat_meets ⟨_,ho,rfl⟩ ⟨_,ho2,rfl⟩ noFill_tuple_add seq_tuple_add PySem.F.slot_tuple_add PySem.F.entry_tuple_add (PySem.F.args_tuple_add_2 _ _) meets ⟨ho,ho2,.ref b,H,I,rfl,q⟩
theorem cO {α:Type}{f:Int->Int->Option α}{x y:PV}{v:α} (h:gw f x y=some v):∃ i j,x=.int i/\y=.int j/\f i j=some v:=by
 cases x <;> try (cases h;done)
 cases y <;> try (cases h;done)
 exact ⟨_,_,rfl,rfl,h⟩
theorem gW {C:Int->Int->Prop} [∀ i j,Decidable (C i j)] {g:Int->Int->Int}{x y v:PV} (h:gw (λi j=>if C i j then some (.int (g i j)) else none) x y=some v):∃ i j,x=.int i/\y=.int j/\C i j/\v=.int (g i j):=by
 obtain ⟨i,j,e1,e2,e3⟩:=cO h
 by_cases c:C i j
 ·rw [if_pos c] at e3
  exact ⟨i,j,e1,e2,c,(Option.some.inj e3).symm⟩
 ·rw [if_neg c] at e3
  cases e3
theorem mY {K:PySem.W.Frag}{F:Hp}{xs:List PV}{us:List V} (h:Reps K F xs us):∀ k:Nat,Reps K F (List.replicate k xs).flatten (List.replicate k us).flatten
 | 0=>.nil
 | k + 1=>by
  rw [List.replicate_succ,List.replicate_succ,List.flatten_cons,List.flatten_cons]
  exact h.append (mY h k)
theorem vi:OpR X (binaryOp .Mult) (R2M X.K rZ):=by
 intro pins s σ H ux uy v u Q I rx ry hq
 obtain ⟨O,x,y,w,hO,r1,r2,e,q⟩:=hq
 by_cases ht:∃ xs k,x=.tup xs/\y=.int k
 ·obtain ⟨xs,k,rfl,rfl⟩:=ht
  have e:(if xs.isEmpty=false/\0 <= k/\k <= 10000/\xs.length * k.toNat <= 10000 then some (PV.tup (List.replicate k.toNat xs).flatten) else none)=some w:=e
  split at e
  ·rename_i c
   cases e
   obtain ⟨a,us,rfl,s1,t1⟩:=r1.tup
   have e2:=r2.int
   subst e2
   have w1:=r1.tupR
   have l1:=t1.length
   refine uZ pins s σ H _ _ v u Q I rx ry ⟨a,k,us,rfl,rfl,s1,λz=>?_,c.2.1,c.2.2.1,by rw [<- l1];exact c.2.2.2,λz=>?_,λz p hp=>?_⟩
   ·rw [z,List.length_nil] at l1
    rw [List.eq_nil_of_length_eq_zero l1] at c
    cases c.1
   ·subst z
    refine q _ H (ag.refl H) ?_
    have:(List.replicate (1:Int).toNat xs).flatten=xs:=by simp
    rw [this]
    exact w1
   ·exact q _ _ (aC hp _) (fE hO hp (mY t1 _))
  ·cases e
 ·have e:gw (λi j=>if (-(2 ^ 64) < i/\i < 2 ^ 64) \/ (-(2 ^ 64) < j/\j < 2 ^ 64) then some (.int (i * j)) else none) x y=some w:=by
   unfold rZ at e
   split at e
   ·exact absurd ⟨_,_,rfl,rfl⟩ ht
   ·exact e
  exact iA wN (λx y v h=>by have q:=gW h;exact q) pins s σ H ux uy v u Q I rx ry ⟨O,x,y,w,hO,r1,r2,e,q⟩
theorem xC (op:Op2):OpR X (binaryOp (u3 op)) (R2M X.K (gc op)):=by
 cases op with
 | sub=>exact iA (C:=λ_ _=>True) (g:=λi j=>i - j) (λpins s σ H x y v u Q I rx ry h=>wM pins s σ H x y v u Q I rx ry (by obtain ⟨i,j,e1,e2,_,q⟩:=h;exact ⟨i,j,e1,e2,q⟩)) (λx y v h=>by
   obtain ⟨i,j,e1,e2,e3⟩:=cO h
   exact ⟨i,j,e1,e2,trivial,(Option.some.inj e3).symm⟩)
 | mul=>exact vi
 | fdiv=>exact iA uv λx y v h=>by have q:=gW h;exact q
 | mod=>exact iA wO λx y v h=>by have q:=gW h;exact q
 | pow=>exact iA wP λx y v h=>by have q:=gW h;exact q
 | shr=>exact iA wQ λx y v h=>by have q:=gW h;exact q
 | add =>
  intro pins s σ H ux uy v u Q I rx ry hq
  obtain ⟨O,x,y,w,hO,r1,r2,e,q⟩:=hq
  cases x <;> try (cases e;done)
  all_goals (cases y <;> simp only [gc,v8] at e <;> try (cases e;done))
  ·cases e
   have e1:=r1.int
   have e2:=r2.int
   subst e1 e2
   exact wL pins s σ H _ _ v u Q I rx ry ⟨_,_,rfl,rfl,q _ H (ag.refl H) (bS _ _)⟩
  ·split at e
   ·rename_i c
    cases e
    have e1:=r1.str
    have e2:=r2.str
    subst e1 e2
    exact nG pins s σ H _ _ v u Q I rx ry ⟨_,_,rfl,rfl,Nat.le_trans c (by decide),q _ H (ag.refl H) (lY _ _)⟩
   ·cases e
  ·split at e
   ·rename_i c
    cases e
    obtain ⟨a,us,rfl,s1,t1⟩:=r1.tup
    obtain ⟨b,ws,rfl,s2,t2⟩:=r2.tup
    have l1:=t1.length
    have l2:=t2.length
    have w1:=r1.tupR
    have w2:=r2.tupR
    by_cases z0:us=[]
    ·subst z0
     have z1:=List.eq_nil_of_length_eq_zero l1
     subst z1
     exact vh pins s σ H _ _ v u Q I rx ry ⟨a,b,ws,rfl,rfl,s1,s2,q _ H (ag.refl H) w2⟩
    refine uG pins s σ H _ _ v u Q I rx ry ⟨a,b,us,ws,rfl,rfl,s1,s2,z0,dG (by omega),λz=>?_,λz p hp=>?_⟩
    ·rw [z,List.length_nil] at l2
     have z1:=List.eq_nil_of_length_eq_zero l2
     subst z1
     rw [List.append_nil] at q
     exact q _ H (ag.refl H) w1
    ·exact q _ _ (aC hp _) (fE hO hp (t1.append t2))
   ·cases e
  ·split at e
   ·rename_i c
    cases e
    obtain ⟨a,us,rfl,s1,t1⟩:=r1.lst
    obtain ⟨b,ws,rfl,s2,t2⟩:=r2.lst
    have l1:=t1.length
    have l2:=t2.length
    exact vg pins s σ H _ _ v u Q I rx ry ⟨a,b,us,ws,rfl,rfl,s1,s2,dG (by omega),λp hp=>q _ _ (aC hp _) (jN hO hp (t1.append t2))⟩
   ·cases e
noncomputable def R2C (K:PySem.W.Frag) (f:PV->PV->Option Bool):R2:=λux uy H Q =>
 ∃ O x y b,ba K H O x ux/\ba K H O y uy/\f x y=some b/\Q (.bl b) H
theorem i3 {op:CmpOp}{g:Int->Int->Bool}{f:PV->PV->Option Bool} (h:OpR X (compareOp op) (rI0 λi j=>.bl (g i j)))
  (hf:∀ x y v,f x y=some v->∃ i j,x=.int i/\y=.int j/\v=g i j):OpR X (compareOp op) (R2C X.K f):=by
 intro pins s σ H ux uy v u Q I rx ry hq
 obtain ⟨O,x,y,w,r1,r2,e,q⟩:=hq
 obtain ⟨i,j,rfl,rfl,rfl⟩:=hf x y w e
 have e1:=r1.int
 have e2:=r2.int
 subst e1 e2
 exact h pins s σ H _ _ v u Q I rx ry ⟨i,j,rfl,rfl,q⟩
theorem xD:OpR X (compareOp .Is) (λx y H Q=>∃ p q,x=.bl p/\y=.bl q/\Q (.bl (p == q)) H):=by
 rintro pins s σ H x y v u Q I rx ry ⟨p,q,rfl,rfl,hq⟩
 cases rx
 cases ry
 exact wpAny_pure (bE I hq (by cases p <;> cases q <;> rfl))
theorem qy:OpR X (compareOp .IsNot) (λx y H Q=>∃ p q,x=.bl p/\y=.bl q/\Q (.bl (!(p == q))) H):=by
 rintro pins s σ H x y v u Q I rx ry ⟨p,q,rfl,rfl,hq⟩
 cases rx
 cases ry
 exact wpAny_pure (bE I hq (by cases p <;> cases q <;> rfl))
theorem pB {K:PySem.W.Frag}{H:Hp}{O:List Addr}{x:PV}{u:V} (r:ba K H O x u):decide (u=.non)=kW x:=by
 cases x with
 | non=>rw [r.non];rfl
 | bl b=>rw [r.bl];rfl
 | int b=>rw [r.int];rfl
 | str b=>rw [r.str];rfl
 | tup xs=>obtain ⟨a,us,rfl,_⟩:=r.tup;rfl
 | lst xs=>obtain ⟨a,us,rfl,_⟩:=r.lst;rfl
 | dI kvs=>obtain ⟨a,rfl,_⟩:=r.dI;rfl
theorem nW (hu:X.A.units + 200 < cLine) (op:Cp):OpR X (compareOp (qu op)) (R2C X.K (bX op)):=by
 cases op with
 | lt=>exact i3 zf λx y v h=>by obtain ⟨i,j,e1,e2,e3⟩:=cO h;exact ⟨i,j,e1,e2,(Option.some.inj e3).symm⟩
 | le=>exact i3 zg λx y v h=>by obtain ⟨i,j,e1,e2,e3⟩:=cO h;exact ⟨i,j,e1,e2,(Option.some.inj e3).symm⟩
 | gt=>exact i3 zh λx y v h=>by obtain ⟨i,j,e1,e2,e3⟩:=cO h;exact ⟨i,j,e1,e2,(Option.some.inj e3).symm⟩
 | ge=>exact i3 zi λx y v h=>by obtain ⟨i,j,e1,e2,e3⟩:=cO h;exact ⟨i,j,e1,e2,(Option.some.inj e3).symm⟩
 | eq =>
  intro pins s σ H ux uy v u Q I rx ry hq
  obtain ⟨O,x,y,w,r1,r2,e,q⟩:=hq
  exact xz (by omega) pins s σ H ux uy v u Q I rx ry ⟨x,y,w,r1.whole,r2.whole,e,q⟩
 | ne =>
  intro pins s σ H ux uy v u Q I rx ry hq
  obtain ⟨O,x,y,w,r1,r2,e,q⟩:=hq
  simp only [bX] at e
  split at e
  ·rename_i c
   simp only [Option.map_eq_some_iff] at e
   obtain ⟨b,e,rfl⟩:=e
   exact xA (by omega) pins s σ H ux uy v u Q I rx ry ⟨x,y,b,r1.whole,r2.whole,c,e,q⟩
  ·cases e
 | isN =>
  intro pins s σ H ux uy v u Q I rx ry hq
  obtain ⟨O,x,y,w,r1,r2,e,q⟩:=hq
  cases y <;> try (cases e;done)
  ·have e2:=r2.non
   subst e2
   refine wR pins s σ H ux _ v u Q I rx ry ⟨rfl,?_⟩
   have e:some (kW x)=some w:=e
   rw [pB r1,Option.some.inj e]
   exact q
  ·cases x <;> try (cases e;done)
   have e1:=r1.bl
   have e2:=r2.bl
   subst e1 e2
   exact xD pins s σ H _ _ v u Q I rx ry ⟨_,_,rfl,rfl,by rw [Option.some.inj e];exact q⟩
 | notN =>
  intro pins s σ H ux uy v u Q I rx ry hq
  obtain ⟨O,x,y,w,r1,r2,e,q⟩:=hq
  cases y <;> try (cases e;done)
  ·have e2:=r2.non
   subst e2
   refine uA pins s σ H ux _ v u Q I rx ry ⟨rfl,?_⟩
   have e:some (!kW x)=some w:=e
   rw [pB r1,Option.some.inj e]
   exact q
  ·cases x <;> try (cases e;done)
   have e1:=r1.bl
   have e2:=r2.bl
   subst e1 e2
   cases e
   exact qy pins s σ H _ _ v u Q I rx ry ⟨_,_,rfl,rfl,q⟩
 | isIn =>
  intro pins s σ H ux uy v u Q I rx ry hq
  obtain ⟨O,x,y,w,r1,r2,e,q⟩:=hq
  simp only [bX,Option.bind_eq_some_iff] at e
  obtain ⟨xs,e1,e2⟩:=e
  obtain ⟨a,us,rfl,s2,t2⟩:=r2.seq e1
  exact xB (by omega) pins s σ H ux _ v u Q I rx ry ⟨x,_,a,us,w,r1.whole,rfl,s2,Reps.mono (bK H O) _ t2,e2,q⟩
 | notIn =>
  intro pins s σ H ux uy v u Q I rx ry hq
  obtain ⟨O,x,y,w,r1,r2,e,q⟩:=hq
  simp only [bX,Option.bind_eq_some_iff,Option.map_eq_some_iff] at e
  obtain ⟨b,⟨xs,e1,e2⟩,rfl⟩:=e
  obtain ⟨a,us,rfl,s2,t2⟩:=r2.seq e1
  exact qx (by omega) pins s σ H ux _ v u Q I rx ry ⟨x,_,a,us,b,r1.whole,rfl,s2,Reps.mono (bK H O) _ t2,e2,q⟩
theorem gX (n:Nat) (i:Int):place n i=ixN n i:=rfl
theorem xE:IxR X (R2M X.K kX):=by
 intro value slice pins s σ H ux uy v u Q I rx ry hq hsub
 obtain ⟨O,x,y,w,hO,r1,r2,e,q⟩:=hq
 cases x <;> cases y <;> simp only [kX] at e <;> try (cases e;done)
 ·simp only [Option.bind_eq_some_iff] at e
  obtain ⟨j,e1,e2⟩:=e
  obtain ⟨a,us,rfl,s1,t1⟩:=r1.tup
  have e3:=r2.int
  subst e3
  obtain ⟨uw,e4,rw'⟩:=t1.get e2
  refine rl value slice pins s σ H _ _ v u Q I rx ry (.inr (.inl ⟨a,us,_,uw,rfl,rfl,s1,?_,q uw H (ag.refl H) rw'⟩)) hsub
  unfold atI
  rw [<- t1.length,<- gX,e1]
  exact e4
 ·simp only [Option.bind_eq_some_iff] at e
  obtain ⟨j,e1,e2⟩:=e
  obtain ⟨a,us,rfl,s1,t1⟩:=r1.lst
  have e3:=r2.int
  subst e3
  obtain ⟨uw,e4,rw'⟩:=t1.get e2
  refine rl value slice pins s σ H _ _ v u Q I rx ry (.inl ⟨a,us,_,uw,rfl,rfl,s1,?_,q uw H (ag.refl H) rw'⟩) hsub
  unfold atI
  rw [<- t1.length,<- gX,e1]
  exact e4
theorem gz {b:Expr} (h:bN b=true):oR b:=by
 intro o i
 cases b <;> first|rfl|(simp [bN] at h)
theorem mZ {K:PySem.W.Frag}{F:Hp}{xs:List PV}{us:List V} (h:Reps K F xs us) (lo hi:Option Int):Reps K F (cut xs lo hi) (mh us lo hi):=by
 have hl:=h.length
 have e:∀ (n d:Nat) (o:Option Int),fe n d o=HT.sIx n d o:=λn d o=>by cases o <;> rfl
 unfold cut mh
 rw [e,e,hl]
 exact (h.drop _).take _
theorem xF:SlR X (λx lo hi H Q=>∃ O v w,(∀ a ∈ O,H a ≠ none)/\ba X.K H O v x/\iX v lo hi=some w/\∀ u H',ag H H'->Rep X.K (ai H' O) w u->Q u H'):=by
 intro pins s σ H x v vl vu lo hi sl Q I rx hs pl pu hq
 obtain ⟨O,pv,w,hO,r1,e,q⟩:=hq
 cases pv <;> simp only [iX] at e <;> try (cases e;done)
 ·rename_i xs
  cases e
  obtain ⟨a,us,rfl,s1,t1⟩:=r1.tup
  have e:∀ (n d:Nat) (o:Option Int),fe n d o=HT.sIx n d o:=λn d o=>by cases o <;> rfl
  by_cases hn:HT.sIx us.length 0 lo=0/\HT.sIx us.length us.length hi=us.length
  ·refine uT pins s σ H _ v vl vu lo hi sl Q I rx hs pl pu ⟨a,us,rfl,s1,hn.1,hn.2,q _ _ (ag.refl H) ?_⟩
   have:cut xs lo hi=xs:=by
    unfold cut
    rw [e,e,t1.length,hn.1,hn.2,List.drop_zero,<- t1.length,Nat.sub_zero,List.take_length]
   rw [this]
   exact r1.tupR
  ·exact wV pins s σ H _ v vl vu lo hi sl Q I rx hs pl pu ⟨a,us,rfl,s1,hn,λp hp=>q _ _ (aC hp _) (fE hO hp (mZ t1 lo hi))⟩
 ·cases e
  obtain ⟨a,us,rfl,s1,t1⟩:=r1.lst
  exact uH pins s σ H _ v vl vu lo hi sl Q I rx hs pl pu ⟨a,us,rfl,s1,λp hp=>q _ _ (aC hp _) (jN hO hp (mZ t1 lo hi))⟩
end
end MM
namespace MM
open PySem PySem.Spec PyProof.Rows L2
theorem pC (x:Int):∀ l,rX x l=Srt.iU Srt.cX x l
 | []=>rfl
 | y::r=>by
  show (if y < x then y::rX x r else x::y::r)=(if Srt.cX.blt y x=true then y::Srt.iU Srt.cX x r else x::y::r)
  rw [pC x r]
  by_cases h:y < x
  ·have e:Srt.cX.blt y x=true:=decide_eq_true h
   rw [if_pos h,if_pos e]
  ·have e:Srt.cX.blt y x=false:=decide_eq_false h
   rw [if_neg h,if_neg (by rw [e];exact Bool.false_ne_true)]
theorem du:∀ l,sortI l=Srt.sortI l
 | []=>rfl
 | x::r=>by
  show rX x (sortI r)=Srt.iU Srt.cX x (Srt.fc Srt.cX r)
  rw [du r,pC];rfl
theorem gY:∀ a b,lexLt a b=HT.lexLt a b
 | [],[]=>rfl
 | [],_::_=>rfl
 | _::_,[]=>rfl
 | x::xs,y::ys=>by
  rw [lexLt,HT.lexLt_cons,gY xs ys]
theorem pD (x:List Int):∀ l,rY x l=Srt.iU Srt.dz x l
 | []=>rfl
 | y::r=>by
  show (if lexLt y x=true then y::rY x r else x::y::r)=(if Srt.dz.blt y x=true then y::Srt.iU Srt.dz x r else x::y::r)
  rw [pD x r,gY]
  rfl
theorem fF:∀ l,sortT l=Srt.sortT l
 | []=>rfl
 | x::r=>by
  show rY x (sortT r)=Srt.iU Srt.dz x (Srt.fc Srt.dz r)
  rw [fF r,pD];rfl
theorem m5:∀ l,dd l=St.dd l
 | []=>rfl
 | x::r=>by
  unfold dd St.dd
  rw [m5 r]
theorem vj (ns:List Int):Srt.sortI (St.dd ns.reverse)=sortI (dd ns):=by
 rw [du,m5]
 refine Srt.sortI_of_perm ?_
 refine (List.perm_ext_iff_of_nodup (St.dd_nodup _) (St.dd_nodup _)).mpr λa=>?_
 rw [St.gp,St.gp,List.mem_reverse]
theorem sC (ns:List Int):(St.dd ns.reverse).length=(dd ns).length:=by
 rw [m5]
 refine List.Perm.length_eq ((List.perm_ext_iff_of_nodup (St.dd_nodup _) (St.dd_nodup _)).mpr λa=>?_)
 rw [St.gp,St.gp,List.mem_reverse]
section
variable {X:Cx}{T:Tab}{k:Nat}{cal:Cal}
noncomputable def RBM (K:PySem.W.Frag) (f:List PV->Option PV):List V->Hp->VK->Prop:=λus H Q =>
 ∃ O vs v,(∀ a ∈ O,H a ≠ none)/\Paired (ba K H O) vs us/\f vs=some v/\∀ u H',ag H H'->Rep K (ai H' O) v u->Q u H'
theorem p1 {K:PySem.W.Frag}{H:Hp}{O:List Addr}{x:PV}{us:List V} (h:Paired (ba K H O) [x] us):∃ u,us=[u]/\ba K H O x u:=by
 cases h with
 | cons r t=>cases t;exact ⟨_,rfl,r⟩
theorem p2 {K:PySem.W.Frag}{H:Hp}{O:List Addr}{x y:PV}{us:List V} (h:Paired (ba K H O) [x,y] us):∃ u w,us=[u,w]/\ba K H O x u/\ba K H O y w:=by
 cases h with
 | cons r t=>cases t with
  | cons r' t'=>cases t';exact ⟨_,_,rfl,r,r'⟩
theorem dQ {f:Blt}{vs:List PV}{v:PV} (h:aq f vs=some v) (hf:dF f=some 1 \/ (b0 f).isSome=true \/ f=.sortedSet \/ f=.lenSet \/ f=.valuesOf):∃ x,vs=[x]:=by
 cases vs with
 | nil=>cases f <;> simp [aq,bZ,fY,fz] at h
 | cons x r=>cases r with
  | nil=>exact ⟨x,rfl⟩
  | cons y r=>cases f <;> simp [aq,bZ,fY,fz,dF,b0] at h hf
theorem zK:bq X (.builtin "len") (RBM X.K (aq .len)):=by
 intro pins s σ H xs us Q I r h
 obtain ⟨O,vs,v,hO,rs,e,q⟩:=h
 obtain ⟨x,rfl⟩:=dQ e (.inl rfl)
 obtain ⟨u,rfl,rx⟩:=p1 rs
 cases x <;> simp only [aq,bZ,v9] at e <;> try (cases e;done)
 ·cases e
  obtain ⟨a,ws,rfl,s1,t1⟩:=rx.tup
  exact cV pins s σ H _ us Q I r ⟨a,ws,rfl,.inr s1,by rw [<- t1.length];exact q _ H (ag.refl H) (bS _ _)⟩
 ·cases e
  obtain ⟨a,ws,rfl,s1,t1⟩:=rx.lst
  exact cV pins s σ H _ us Q I r ⟨a,ws,rfl,.inl s1,by rw [<- t1.length];exact q _ H (ag.refl H) (bS _ _)⟩
 ·rename_i d
  cases d with
  | t kvs=>cases e
  | k kvs =>
   cases e
   obtain ⟨a,rfl,ha⟩:=rx.dI
   obtain ⟨u,rfl,ru⟩:=fo r
   cases ru
   obtain ⟨hz,hs,ws,rel,dd⟩:=v3 I.hok (show Rd H a (.dK (nV kvs)) from ha)
   have hlen:ws.length=kvs.length:=by rw [<- rel.length];unfold nV;rw [List.length_map]
   have hz:kvs.length <= sizeLine:=by unfold nV at hz;rw [List.length_map] at hz;exact hz
   have hn:=ic
   exact call_len_dict hs dd (by rw [hlen];omega) ⟨.int kvs.length,H,I.tok _,⟨s.toks + 1,by rw [hlen]⟩,q _ H (ag.refl H) (bS _ _)⟩
theorem vk:bq X (.type "tuple") (RBM X.K (aq .tupleOf)):=by
 intro pins s σ H xs us Q I r h
 obtain ⟨O,vs,v,hO,rs,e,q⟩:=h
 obtain ⟨x,rfl⟩:=dQ e (.inl rfl)
 obtain ⟨u,rfl,rx⟩:=p1 rs
 simp only [aq,bZ,fY,fX,fz,Option.map_eq_some_iff] at e
 obtain ⟨ys,e,rfl⟩:=e
 cases x <;> simp [aI] at e
 ·subst e
  obtain ⟨a,ws,rfl,s1,t1⟩:=rx.tup
  refine ez pins s σ H _ us Q I r ⟨a,ws,rfl,.inr ⟨s1,q _ H (ag.refl H) ?_⟩⟩
  exact rx.tupR
 ·subst e
  obtain ⟨a,ws,rfl,s1,t1⟩:=rx.lst
  exact ez pins s σ H _ us Q I r ⟨a,ws,rfl,.inl ⟨s1,λl hl=>q _ _ (aC hl _) (fE hO hl t1)⟩⟩
noncomputable def RBF (K:PySem.W.Frag) (f:List PV->Option PV):List V->Hp->VK->Prop:=λus H Q =>
 ∃ O vs xs,(∀ a ∈ O,H a ≠ none)/\Paired (ba K H O) vs us/\f vs=some (.lst xs)/\∀ l ws,H l=none->Reps K (ai H O) xs ws->Q (.ref l) (upd H l (.lst ws))
theorem xG:bq X (.type "list") (RBF X.K (aq .listOf)):=by
 intro pins s σ H xs us Q I r h
 obtain ⟨O,vs,v,hO,rs,e,q⟩:=h
 obtain ⟨x,rfl⟩:=dQ e (.inl rfl)
 obtain ⟨u,rfl,rx⟩:=p1 rs
 simp only [aq,bZ,fY,fX,fz,Option.map_eq_some_iff,PV.lst.injEq,exists_eq_right] at e
 obtain ⟨a,ws,rfl,s1,t1⟩:=rx.seq e
 exact lD pins s σ H _ us Q I r ⟨a,ws,rfl,s1,λl hl=>q l ws hl t1⟩
theorem iB {K:PySem.W.Frag}{F:Hp}:∀ {tss:List (List Int)}{us:List V},Reps K F (tss.map λt=>.tup (t.map .int)) us->mD K F us tss
 | [],_,h=>by rw [List.map_nil,Reps] at h;subst h;exact .nil
 | t::tss,_,h=>by
  rw [List.map_cons,Reps] at h
  obtain ⟨u,r,rfl,q,z⟩:=h
  rw [Rep] at q
  obtain ⟨a,vs,e,s1,r1⟩:=q
  rw [r1.ints] at s1
  exact .cons ⟨a,e,SqT.of s1⟩ (iB z)
theorem iC {K:PySem.W.Frag}{F F':Hp} (s:ag F F'):∀ {us:List V}{tss:List (List Int)},mD K F us tss->mD K F' us tss
 | _,_,.nil=>.nil
 | _,_,.cons ⟨a,e1,e2⟩ t=>.cons ⟨a,e1,s.seqT e2⟩ (iC s t)
theorem k6 {K:PySem.W.Frag}{F:Hp}{xs:List PV}{us:List V} (h:Reps K F xs us):∀ (l:List Nat),(∀ i ∈ l,i < us.length)->Reps K F (l.map λi=>xs.getD i .non) (l.map λi=>us.getD i .non)
 | [],_=>.nil
 | i::l,hl=>by
  have hi:=hl i (.head _)
  have hx:i < xs.length:=by rw [h.length];exact hi
  obtain ⟨u,e1,e2⟩:=h.get (i:=i) (x:=xs[i]) (List.getElem?_eq_getElem hx)
  refine .cons ?_ (k6 h l λj hj=>hl j (.tail _ hj))
  have q1:xs.getD i .non=xs[i]:=by simp [hx]
  have q2:us.getD i .non=u:=by rw [List.getD_eq_getElem?_getD,e1];rfl
  show Rep K F (xs.getD i .non) (us.getD i .non)
  rw [q1,q2];exact e2
theorem sD (g:Gf X T k cal):bq X (.builtin "sorted") (RBF X.K (aq .sorted)):=by
 intro pins s σ H xs us Q I r h
 obtain ⟨O,vs,v,hO,rs,e,q⟩:=h
 obtain ⟨x,rfl⟩:=dQ e (.inl rfl)
 obtain ⟨u,rfl,rx⟩:=p1 rs
 simp only [aq,bZ,fY,fX,fz,Option.bind_eq_some_iff] at e
 obtain ⟨ys,e,e2⟩:=e
 obtain ⟨a,ws,rfl,s1,t1⟩:=rx.seq e
 unfold eB at e2
 split at e2
 ·rename_i h64
  split at e2
  ·rename_i ns hn
   cases e2
   have:=gN hn
   subst this
   have e3:=t1.ints
   subst e3
   rw [List.length_map] at h64
   refine gK g.calm pins s σ H _ us Q I r ⟨a,ns,rfl,s1.imp id .inl,h64,λl hl=>?_⟩
   rw [<- du]
   exact q l _ hl (.of_ints _)
  ·simp only [Option.map_eq_some_iff,PV.lst.injEq] at e2
   obtain ⟨ts,e3,rfl⟩:=e2
   have:=jG e3
   subst this
   rw [List.length_map] at h64
   refine lM (by have:=g.units;omega) pins s σ H _ us Q I r ⟨a,ws,ts,rfl,s1,iC (bK H O) (iB t1),h64,λl pm hl hp e=>q l _ hl ?_⟩
   have q2:=k6 t1 pm hp
   have e4:(pm.map λi=>(ts.map λt=>PV.tup (t.map .int)).getD i .non)=(sortT ts).map λt=>.tup (t.map .int):=by
    rw [fF,<- e,List.map_map]
    refine List.map_congr_left λi hi=>?_
    have hi':i < ts.length:=by have:=hp i hi;rw [<- t1.length,List.length_map] at this;exact this
    simp [hi']
   rw [e4] at q2
   exact q2
 ·cases e2
theorem sE {f:PV->PV->Option PV}{vs:List PV}{v:PV} (h:fY vs f=some v):∃ x y,vs=[x,y]/\f x y=some v:=by
 match vs,h with
 | [x,y],h=>exact ⟨x,y,rfl,h⟩
theorem xH (hc:X.calm=true):bq X (.builtin "max") (RBM X.K (aq .max2)):=by
 intro pins s σ H xs us Q I r h
 obtain ⟨O,vs,v,hO,rs,e,q⟩:=h
 obtain ⟨x,y,rfl,e⟩:=sE e
 obtain ⟨i,j,rfl,rfl,e⟩:=cO e
 cases e
 obtain ⟨u,w',rfl,r1,r2⟩:=p2 rs
 have e1:=r1.int
 have e2:=r2.int
 subst e1 e2
 exact pZ hc pins s σ H _ us Q I r ⟨_,_,rfl,q _ H (ag.refl H) (bS _ _)⟩
theorem xI (hc:X.calm=true):bq X (.builtin "min") (RBM X.K (aq .min2)):=by
 intro pins s σ H xs us Q I r h
 obtain ⟨O,vs,v,hO,rs,e,q⟩:=h
 obtain ⟨x,y,rfl,e⟩:=sE e
 obtain ⟨i,j,rfl,rfl,e⟩:=cO e
 cases e
 obtain ⟨u,w',rfl,r1,r2⟩:=p2 rs
 have e1:=r1.int
 have e2:=r2.int
 subst e1 e2
 exact p5 hc pins s σ H _ us Q I r ⟨_,_,rfl,q _ H (ag.refl H) (bS _ _)⟩
theorem pE {x:PV}{ys:List PV} (h:fX x=some ys):x=.lst ys:=by
 cases x <;> cases h
 rfl
end
end MM
namespace MM
open PySem PySem.Spec PyProof.Rows L2
section
variable {X:Cx}{T:Tab}{k:Nat}{cal:Cal}
theorem xJ {b:Blt}{c:String} (hb:b0 b=some c):bq X (.builtin "isinstance") (λus H Q=>∃ O v u,us=[u,.ty c]/\isD v=false/\ba X.K H O v u/\Q (.bl (isT b v)) H):=by
 intro pins s σ H xs us Q I r h
 obtain ⟨O,v,x,rfl,nd,rx,q⟩:=h
 obtain ⟨u,t,rfl,r1,rc⟩:=q_ r
 have rc':t=.type c:=rc
 subst rc'
 have fin:∀ (z:Bool) (tk:Nat),z=isT b v->EP X pins σ Q (.bool z) { s with toks:=tk }:=λz tk e=>⟨.bl z,H,I.tok tk,rfl,by rw [e];exact q⟩
 cases v with
 | dI _=>cases nd
 | non =>
  have e:=rx.non
  subst e
  cases (show u=Value.none from r1)
  cases b <;> simp only [b0,Option.some.injEq,reduceCtorEq] at hb <;> subst hb <;>
   exact PySem.W.kia_one PySem.W.kitx_none I.kIn True.intro (b:=false) (by first|rfl|kernel_rfl|decide) (λz=>nomatch z) λtk=>fin _ tk rfl
 | bl y =>
  have e:=rx.bl
  subst e
  cases (show u=Value.bool y from r1)
  cases b <;> simp only [b0,Option.some.injEq,reduceCtorEq] at hb <;> subst hb <;> first
   | exact PySem.W.kia_one PySem.W.kitx_bool I.kIn True.intro (b:=true) (by first|rfl|kernel_rfl|decide) (λz=>nomatch z) λtk=>fin _ tk rfl
   | exact PySem.W.kia_one PySem.W.kitx_bool I.kIn True.intro (b:=false) (by first|rfl|kernel_rfl|decide) (λz=>nomatch z) λtk=>fin _ tk rfl
 | int y =>
  have e:=rx.int
  subst e
  obtain ⟨t,z⟩:=(show ∃ t,u=Value.int y t from r1)
  cases z
  cases b <;> simp only [b0,Option.some.injEq,reduceCtorEq] at hb <;> subst hb <;> first
   | exact PySem.W.kia_one PySem.W.kitx_int I.kIn True.intro (b:=true) (by first|rfl|kernel_rfl|decide) (λz=>nomatch z) λtk=>fin _ tk rfl
   | exact PySem.W.kia_one PySem.W.kitx_int I.kIn True.intro (b:=false) (by first|rfl|kernel_rfl|decide) (λz=>nomatch z) λtk=>fin _ tk rfl
 | str y =>
  have e:=rx.str
  subst e
  obtain ⟨t,z⟩:=(show ∃ t,u=Value.str y t from r1)
  cases z
  cases b <;> simp only [b0,Option.some.injEq,reduceCtorEq] at hb <;> subst hb <;> first
   | exact PySem.W.kia_one PySem.W.kitx_str I.kIn True.intro (b:=true) (by first|rfl|kernel_rfl|decide) (λz=>nomatch z) λtk=>fin _ tk rfl
   | exact PySem.W.kia_one PySem.W.kitx_str I.kIn True.intro (b:=false) (by first|rfl|kernel_rfl|decide) (λz=>nomatch z) λtk=>fin _ tk rfl
 | lst ys =>
  obtain ⟨a,us,rfl,s1,t1⟩:=rx.lst
  cases (show u=Value.ref a from r1)
  obtain ⟨its,_,p,_⟩:=I.list s1
  obtain ⟨o,h1,h2,_⟩:=p.isList
  cases b <;> simp only [b0,Option.some.injEq,reduceCtorEq] at hb <;> subst hb <;> first
   | exact PySem.W.kia_one PySem.W.kitx_list I.kIn ⟨o,h1,h2⟩ (b:=true) (by first|rfl|kernel_rfl|decide) (λz=>nomatch z) λtk=>fin _ tk rfl
   | exact PySem.W.kia_one PySem.W.kitx_list I.kIn ⟨o,h1,h2⟩ (b:=false) (by first|rfl|kernel_rfl|decide) (λz=>nomatch z) λtk=>fin _ tk rfl
 | tup ys =>
  obtain ⟨a,us,rfl,s1,t1⟩:=rx.tup
  cases (show u=Value.ref a from r1)
  obtain ⟨its,_,p,_⟩:=I.tuple s1
  obtain ⟨o,h1,h2,_⟩:=p
  cases b <;> simp only [b0,Option.some.injEq,reduceCtorEq] at hb <;> subst hb <;> first
   | exact PySem.W.kia_one PySem.W.kitx_tuple I.kIn ⟨o,h1,h2⟩ (b:=true) (by first|rfl|kernel_rfl|decide) (λz=>nomatch z) λtk=>fin _ tk rfl
   | exact PySem.W.kia_one PySem.W.kitx_tuple I.kIn ⟨o,h1,h2⟩ (b:=false) (by first|rfl|kernel_rfl|decide) (λz=>nomatch z) λtk=>fin _ tk rfl
theorem gA {K:PySem.W.Frag}{F:Hp}:∀ {bs:List Bool}{us:List V}{its:List Value},Reps K F (bs.map .bl) us->am us its->its=bs.map Value.bool
 | [],_,_,h,w=>by rw [List.map_nil,Reps] at h;subst h;cases w;rfl
 | b::bs,_,_,h,w=>by
  rw [List.map_cons,Reps] at h
  obtain ⟨u,r,rfl,q,t⟩:=h
  rw [Rep] at q
  subst q
  cases w with
  | cons r1 w1 =>
   cases r1
   rw [gA t w1];rfl
theorem qz (bs:List Bool):(List.range bs.length).all (λi=>bs.getD i false)=bs.all id:=by
 conv=>rhs;rw [<- Srt.fS bs false]
 rw [List.all_map]
 rfl
theorem qA (bs:List Bool):(List.range bs.length).any (λi=>bs.getD i false)=bs.any id:=by
 conv=>rhs;rw [<- Srt.fS bs false]
 rw [List.any_map]
 rfl
theorem iP {P:Program}{w:World}{A:Around} (bs:List Bool):TruthOf P w A (λi v=>(bs.map Value.bool).toArray[i]?=some v) (λi=>bs.getD i false):=by
 intro i v s Q E h q
 simp only [List.getElem?_toArray,List.getElem?_map,Option.map_eq_some_iff] at h
 obtain ⟨b,e,rfl⟩:=h
 have:bs.getD i false=b:=by rw [List.getD_eq_getElem?_getD,e];rfl
 have q':Q (bs.getD i false) s:=q
 rw [this] at q'
 exact wpAny_truthy_bool q'
theorem zL (hc:X.calm=true):bq X (.builtin "any") (RBM X.K (aq .any)):=by
 intro pins s σ H xs us Q I r h
 obtain ⟨O,vs,v,hO,rs,e,q⟩:=h
 obtain ⟨x,rfl⟩:=dQ e (.inl rfl)
 obtain ⟨u,rfl,rx⟩:=p1 rs
 simp only [aq,bZ,Option.bind_eq_some_iff,Option.map_eq_some_iff] at e
 obtain ⟨ys,e0,bs,e,rfl⟩:=e
 obtain rfl:=pE e0
 have:=iy e
 subst this
 obtain ⟨a,ws,rfl,s1,t1⟩:=rx.lst
 obtain ⟨u,rfl,ru⟩:=fo r
 cases ru
 obtain ⟨its,r',pl,hz⟩:=I.list s1
 have:=gA t1 r'
 subst this
 have hlt:a < s.heap.objs.size:=by obtain ⟨o,ho,_⟩:=pl.isList;exact Heap.lt_size ho
 refine call_any_walk (wpAny_pyIter_list pl.isList ?_)
 refine ⟨s.heap.objs.size,_,_,_,_,_,λi=>bs.getD i false,rfl,Walks.list (by first|exact I.ok.hd hc|simpa using I.ok.hd hc) s.heap.objs.size a (Nat.ne_of_lt hlt) (bs.map Value.bool).toArray,⟨⟨_,Heap.get?_push_size _ rfl,rfl,rfl⟩,pl.isList.push _⟩,iP bs,λh' tk hk=>?_⟩
 have e2:(List.range (bs.map Value.bool).toArray.size).any (λi=>bs.getD i false)=bs.any id:=by
  rw [List.size_toArray,List.length_map];exact qA bs
 rw [e2]
 refine ⟨.bl _,H,?_,rfl,q _ H (ag.refl H) (dP _ _)⟩
 refine I.kept (t':=tk) λb o e=>hk b o ?_ (Heap.get?_push_of_some _ e)
 intro hm
 have hb:=Heap.lt_size e
 simp at hm
 exact absurd hm (Nat.ne_of_lt hb)
theorem zM (hc:X.calm=true):bq X (.builtin "all") (RBM X.K (aq .all)):=by
 intro pins s σ H xs us Q I r h
 obtain ⟨O,vs,v,hO,rs,e,q⟩:=h
 obtain ⟨x,rfl⟩:=dQ e (.inl rfl)
 obtain ⟨u,rfl,rx⟩:=p1 rs
 simp only [aq,bZ,Option.bind_eq_some_iff,Option.map_eq_some_iff] at e
 obtain ⟨ys,e0,bs,e,rfl⟩:=e
 obtain rfl:=pE e0
 have:=iy e
 subst this
 obtain ⟨a,ws,rfl,s1,t1⟩:=rx.lst
 obtain ⟨u,rfl,ru⟩:=fo r
 cases ru
 obtain ⟨its,r',pl,hz⟩:=I.list s1
 have:=gA t1 r'
 subst this
 have hlt:a < s.heap.objs.size:=by obtain ⟨o,ho,_⟩:=pl.isList;exact Heap.lt_size ho
 refine call_all_walk (wpAny_pyIter_list pl.isList ?_)
 refine ⟨s.heap.objs.size,_,_,_,_,_,λi=>bs.getD i false,rfl,Walks.list (by first|exact I.ok.hd hc|simpa using I.ok.hd hc) s.heap.objs.size a (Nat.ne_of_lt hlt) (bs.map Value.bool).toArray,⟨⟨_,Heap.get?_push_size _ rfl,rfl,rfl⟩,pl.isList.push _⟩,iP bs,λh' tk hk=>?_⟩
 have e2:(List.range (bs.map Value.bool).toArray.size).all (λi=>bs.getD i false)=bs.all id:=by
  rw [List.size_toArray,List.length_map];exact qz bs
 rw [e2]
 refine ⟨.bl _,H,?_,rfl,q _ H (ag.refl H) (dP _ _)⟩
 refine I.kept (t':=tk) λb o e=>hk b o ?_ (Heap.get?_push_of_some _ e)
 intro hm
 have hb:=Heap.lt_size e
 simp at hm
 exact absurd hm (Nat.ne_of_lt hb)
theorem wf (hc:X.calm=true):bq X (.type "set") (λus H Q=>∃ O v u ns,us=[u]/\ba X.K H O v u/\((aI v).bind aY)=some ns/\ns.length <= 1000/\∀ l,H l=none->Q (.ref l) (upd H l (iN X.prog X.w l (St.dd ns.reverse)))):=by
 intro pins s σ H xs us Q I r h
 obtain ⟨O,v,u,ns,rfl,rx,e,h1000,q⟩:=h
 simp only [Option.bind_eq_some_iff] at e
 obtain ⟨ys,e1,e2⟩:=e
 obtain ⟨a,ws,rfl,s1,t1⟩:=rx.seq e1
 have:=gN e2
 subst this
 have e3:=t1.ints
 subst e3
 exact rP hc pins s σ H _ us Q I r ⟨a,ns,rfl,s1,h1000,λl hl=>q l hl⟩
theorem m6 (hc:X.calm=true):bq X (.builtin "sorted") (λus H Q=>∃ (l:Addr) (ks:List Int),us=[.ref l]/\H l=some (iN X.prog X.w l ks)/\ks.length < 64/\∀ p,H p=none->Q (.ref p) (upd H p (.lst ((Srt.sortI ks).map V.int)))):=by
 intro pins s σ H xs us Q I r h
 obtain ⟨l,ks,rfl,e,h64,q⟩:=h
 exact gK hc pins s σ H _ us Q I r ⟨l,ks,rfl,.inr (.inr e),h64,q⟩
end
end MM
namespace L2
open PySem PySem.Spec PyProof.Rows
noncomputable def Itv (K:PySem.W.Frag) (a:Addr) (n:Nat):It :=
 ⟨λi H=>∃ xs,SqL K H a xs/\xs.length=n/\i < n,λi H x H'=>H'=H/\∀ xs,SqL K H a xs->xs.reverse[i]?=some x,λi _=>i=n⟩
theorem sF {P:Program}{w:World}{K:PySem.W.Frag}{tg:Expr} (a it:Addr) (n:Nat):nA P w K tg (Itv K a n) [it] it (λi h=>h.IsRevIter it a ((n:Int) - 1 - (i:Nat))) where
 mem:=by simp
 obj:=λi h st b hb=>by
  have e:b=it:=by simpa using hb
  subst e
  obtain ⟨o,e,c,d⟩:=st
  exact ⟨o,e,λv z=>by rw [d] at z;cases z⟩
 keep:=λi h h' st k=>st.at λo e=>k it (by simp) o e
 item:=by
  intro X hP hw hK hc i pins s σ H E I hf st hg
  subst hP hw hK
  obtain ⟨xs,hq,hn,hi⟩:=hg
  obtain ⟨its,rv,p,hz⟩:=I.list hq
  have hi2:n - 1 - i < xs.length:=by omega
  obtain ⟨u,hu,ru⟩:=rv.get (List.getElem?_eq_getElem hi2)
  obtain ⟨f0,f1,f2,f3,f4,f5⟩:=hf it (by simp)
  have e1:(n:Int) - 1 - (i:Nat)=((n - 1 - i:Nat):Int):=by omega
  have st2:s.heap.IsRevIter it a ((n - 1 - i:Nat):Int):=by rw [<- e1];exact st
  refine wpAny_pyNext_rev_item st2 p.isList (x:=u) (by simpa using hu) λh' st' sb=>?_
  have I1:Inv X pins σ H { s with heap:=h' }:=I.turned (t':=s.toks) (λb o hb e=>(sb.2 b hb).trans e) f0 f1 f3 f4 f5
  obtain ⟨o,e,c,d⟩:=id st'
  have e2:((n - 1 - i:Nat):Int) - 1=(n:Int) - 1 - ((i + 1:Nat):Nat):=by omega
  have st3:Heap.IsRevIter h' it a ((n:Int) - 1 - ((i + 1:Nat):Nat)):=by rw [<- e2];exact st'
  refine ⟨u,rfl,oH (s:={ s with heap:=h' }) e c d (by decide) ⟨_,H,I1,ru,⟨rfl,λys hy=>?_⟩,st3,λb hb=>(hf b hb).1⟩⟩
  rw [I.list_inj hy hq,List.getElem?_reverse (by omega),hn]
  exact List.getElem?_eq_getElem hi2
 done:=by
  intro X hP hw hK hc i pins s σ H E I hf st hg
  subst hP hw hK
  have hg:i=n:=hg
  subst hg
  obtain ⟨f0,f1,f2,f3,f4,f5⟩:=hf it (by simp)
  have st2:s.heap.IsRevIter it a (-1):=by
   have e1:(i:Int) - 1 - (i:Nat)=-1:=by omega
   rw [<- e1];exact st
  exact wpAny_pyNext_rev_end (I.ok.hd hc) st2 λh' eb=>⟨rfl,I.turned (t':=s.toks) (λb o hb e=>eb b o hb e) f0 f1 f3 f4 f5⟩
 self:=λ_ _ _ _ _ st h=>wpAny_pyIter_revIter st h
noncomputable def Bk (K:PySem.W.Frag) (tl:TE):TI:=λσ H R=>tl σ H λx H1=>∃ a xs,x=.ref a/\SqL K H1 a xs/\R (Itv K a xs.length) H1
theorem xK {X:Cx}{tg l:Expr}{tl:TE}{p pos:Pos} (hg:Gl X "reversed") (hm:X.mg "reversed"=none) (hl:PE X l tl) (hs:starEach [l] X.env=[(false,eval l X.env)]:=by rfl):PI X tg (.Call (.Name "reversed" p) [l] [] pos) (Bk X.K tl):=by
 intro pins s σ H R I h
 refine Call_ (hZ I hg hm PyProof.Rows.boot_reversed (PyProof.Rows.callWith_type1 (thn (aG hl a_ hs pos pins s σ H (λvs H1=>match vs with|[x]=>∃ a xs,x=.ref a/\SqL X.K H1 a xs/\R (Itv X.K a xs.length) H1|_=>False) I h) λus s1 ⟨vs,H1,I1,r1,q1⟩=>?_) hs rfl))
 ·cases r1 with
  | nil=>exact q1.elim
  | cons r rr =>
   cases rr with
   | cons _ _=>exact q1.elim
   | nil =>
   obtain ⟨a,xs,e,hq,q⟩:=q1
   subst e
   cases r
   obtain ⟨its,rv,pp,hz⟩:=I1.list hq
   refine call_reversed_list pp.isList ?_
   have hsz:((its.toArray.size:Nat):Int) - 1=(xs.length:Int) - 1:=by have:=rv.length;simp;omega
   have I2:Inv X pins σ H1 { s1 with heap:=s1.heap.push (revObj a ((xs.length:Int) - 1)) }:=I1.kept (t':=s1.toks) λb o e=>Heap.get?_push_of_some _ e
   rw [hsz]
   refine wpAny_pyIter_revIter (l:=a) (i:=(xs.length:Int) - 1) ⟨_,Heap.get?_push_size _ rfl,rfl,rfl⟩ ?_
   refine ⟨s1.heap.objs.size,[s1.heap.objs.size],_,_,H1,rfl,I2,sF a _ xs.length,?_,λb hb=>?_,q⟩
   ·have e1:(xs.length:Int) - 1 - ((0:Nat):Nat)=(xs.length:Int) - 1:=by omega
    show Heap.IsRevIter _ _ _ ((xs.length:Int) - 1 - ((0:Nat):Nat))
    rw [e1]
    exact ⟨_,Heap.get?_push_size _ rfl,rfl,rfl⟩
   ·have e:b=s1.heap.objs.size:=by simpa using hb
    subst e
    exact ⟨I1.hok.fresh (Nat.le_refl _),(I1.fpOk (Nat.le_refl _) (I1.hok.fresh (Nat.le_refl _))).2⟩
end L2
namespace L2
open PySem PySem.Spec PyProof.Rows
end L2
namespace MM
open PySem PySem.Spec PyProof.Rows L2
structure lZ (K:PySem.W.Frag) (J:It) (xs:List PV) (V G:Hp):Prop where
 stop:∀ H',ag G H'->J.stop xs.length H'
 go:∀ (i:Nat) x H',ag G H'->xs[i]?=some x->J.go i H'
 yld:∀ (i:Nat) x H' u H2,ag G H'->xs[i]?=some x->J.yld i H' u H2->ag H' H2/\∀ O',(∀ a ∈ O',H' a ≠ none)->ag V (ai H2 O')->Rep K (ai H2 O') x u
theorem lZ.weak {K:PySem.W.Frag}{J:It}{xs:List PV}{V G G':Hp} (h:lZ K J xs V G) (s:ag G G'):lZ K J xs V G' :=
 ⟨λH' s'=>h.stop H' (s.trans s'),λi x H' s'=>h.go i x H' (s.trans s'),λi x H' u H2 s'=>h.yld i x H' u H2 (s.trans s')⟩
noncomputable def aO (ms:List ME) (ρ:Rho) (σ:St):List Addr:=match ms with
 | [.bor i]=>(match (ρ[i]?).join,(σ[i]?).join with|some (.own _),some (.ref a)=>[a]|_,_=>[])
 | _=>[]
noncomputable def bx (B:Hp) (O:List Addr) (H:Hp) (L:List Addr):Hp:=λb=>if b ∈ O then (if b ∈ L then H b else B b) else H b
section
variable {K:PySem.W.Frag}{B H:Hp}{O L:List Addr}
theorem jO (s:ag B H):ag (bx B O H L) H:=λb u e=>by
 unfold bx at e
 split at e
 ·split at e
  ·exact e
  ·exact s b u e
 ·exact e
theorem eN (s:ag B H):ag B (bx B O H L):=λb u e=>by
 unfold bx
 split
 ·split
  ·exact s b u e
  ·exact e
 ·exact s b u e
theorem db:ag (ai H O) (bx B O H L):=λb u e=>by
 have hb:b ∉ O:=λz=>by rw [lU z] at e;cases e
 unfold bx
 rw [if_neg hb]
 rw [bH hb] at e
 exact e
end
theorem i4 {K:PySem.W.Frag}{V G:Hp}{a:Addr}{xs:List PV}{us:List L2.V} (h:SqL K G a us) (r:Reps K V xs us):lZ K (Itl K a) xs V G where
 stop:=λH' s=>⟨us,s.seq h,Nat.le_of_eq r.length.symm⟩
 go:=λi x H' s e=>by
  obtain ⟨u,e1,_⟩:=r.get e
  exact ⟨us,u,s.seq h,e1⟩
 yld:=λi x H' u H2 s e y=>by
  obtain ⟨rfl,y⟩:=y
  obtain ⟨w,e1,q⟩:=r.get e
  have e2:=y us (s.seq h)
  rw [e1] at e2
  cases e2
  exact ⟨ag.refl _,λO' _ sv=>Rep.mono sv _ q⟩
theorem sG {K:PySem.W.Frag}{V G:Hp}{a:Addr}{xs:List PV}{us:List L2.V} (h:SqT K G a us) (r:Reps K V xs us):lZ K (Itt K a) xs V G where
 stop:=λH' s=>⟨us,s.seqT h,Nat.le_of_eq r.length.symm⟩
 go:=λi x H' s e=>by
  obtain ⟨u,e1,_⟩:=r.get e
  exact ⟨us,u,s.seqT h,e1⟩
 yld:=λi x H' u H2 s e y=>by
  obtain ⟨rfl,y⟩:=y
  obtain ⟨w,e1,q⟩:=r.get e
  have e2:=y us (s.seqT h)
  rw [e1] at e2
  cases e2
  exact ⟨ag.refl _,λO' _ sv=>Rep.mono sv _ q⟩
theorem m7 {K:PySem.W.Frag}{V G:Hp}{lo:Int}{n:Nat}:lZ K (Itr lo n) ((List.range n).map λ(k:Nat)=>.int (lo + k)) V G where
 stop:=λH' s=>by simp [Itr]
 go:=λi x H' s e=>by
  have:=(List.getElem?_eq_some_iff.mp e).1
  simpa [Itr] using this
 yld:=λi x H' u H2 s e y=>by
  obtain ⟨rfl,rfl⟩:=y
  refine ⟨ag.refl _,λO' _ sv=>?_⟩
  have hi:i < n:=by have:=(List.getElem?_eq_some_iff.mp e).1;simpa using this
  rw [List.getElem?_map,List.getElem?_range hi] at e
  cases e
  rw [Rep]
theorem xL {K:PySem.W.Frag}{V G:Hp}{a:Addr}{xs:List PV}{us:List L2.V} (h:SqL K G a us) (r:Reps K V xs us):lZ K (Itv K a us.length) xs.reverse V G where
 stop:=λH' s=>by show xs.reverse.length=us.length;rw [List.length_reverse,r.length]
 go:=λi x H' s e=>by
  have:=(List.getElem?_eq_some_iff.mp e).1
  rw [List.length_reverse,r.length] at this
  exact ⟨us,s.seq h,rfl,this⟩
 yld:=λi x H' u H2 s e y=>by
  obtain ⟨rfl,y⟩:=y
  have hi:=(List.getElem?_eq_some_iff.mp e).1
  rw [List.length_reverse] at hi
  have hl:=r.length
  rw [List.getElem?_reverse hi] at e
  obtain ⟨w,e1,q⟩:=r.get e
  have e2:=y us (s.seq h)
  rw [List.getElem?_reverse (by omega),<- hl,e1] at e2
  cases e2
  exact ⟨ag.refl _,λO' _ sv=>Rep.mono sv _ q⟩
noncomputable def tW (K:PySem.W.Frag) (cal:Cal) (k:Sk) (ms:List ME):TI:=λσ H R =>
 ∃ B O₀ O ρ vs xs,aw K B O₀ O H ρ σ/\evs cal ms ρ=some vs/\dA k vs=some xs/\∀ J H1,ag H H1->lZ K J xs (ai H1 O) (bx B O H1 (aO ms ρ σ))->R J H1
section
variable {X:Cx}{cal:Cal}{tg:Expr}
theorem PI.or {e:Expr}{t u:TI} (h:PI X tg e t) (g:PI X tg e u):PI X tg e (λσ H R=>t σ H R \/ u σ H R):=λpins s σ H R I q=>q.elim (h pins s σ H R I) (g pins s σ H R I)
theorem l0:∀ {ms:List ME}{ρ:Rho}{vs:List PV},evs cal ms ρ=some vs->vs.length=ms.length
 | [],_,_,h=>by simp [evs] at h;subst h;rfl
 | m::ms,_,_,h=>by
  simp only [evs,Option.bind_eq_some_iff,Option.map_eq_some_iff] at h
  obtain ⟨v,_,w,e2,rfl⟩:=h
  simp [l0 e2]
theorem qB {m:ME}{ρ:Rho}{vs:List PV} (h:evs cal [m] ρ=some vs):∃ v,vs=[v]/\ev cal m ρ=some v:=by
 simp only [evs,Option.bind_eq_some_iff,Option.map_eq_some_iff] at h
 obtain ⟨v,e,w,e2,rfl⟩:=h
 cases e2
 exact ⟨v,rfl,e⟩
theorem vm {K:PySem.W.Frag}{F:Hp}{v:PV}{u:L2.V}{xs:List PV} (h:Rep K F v u) (e:aI v=some xs):∃ a us,u=.ref a/\Reps K F xs us/\((v=.lst xs/\SqL K F a us) \/ (v=.tup xs/\SqT K F a us)):=by
 cases v with
 | lst ys=>simp [aI] at e;subst e;rw [Rep] at h;obtain ⟨a,us,e,q,r⟩:=h;exact ⟨a,us,e,r,.inl ⟨rfl,q⟩⟩
 | tup ys=>simp [aI] at e;subst e;rw [Rep] at h;obtain ⟨a,us,e,q,r⟩:=h;exact ⟨a,us,e,r,.inr ⟨rfl,SqT.of q⟩⟩
 | _=>simp [aI] at e
theorem zN {m:ME}{e:Expr} (hb:aF m=false) (h:PE X e (tE X.K cal m)):PI X tg e (tW X.K cal .seq [m]):=by
 refine (PI.or (oI h) (qY h)).imp λσ H R q=>?_
 obtain ⟨B,O₀,O,ρ,vs,xs,st,e1,e2,q⟩:=q
 obtain ⟨v,rfl,e3⟩:=qB e1
 have e4:aI v=some xs:=e2
 have hl:aO [m] ρ σ=[]:=by cases m <;> first|rfl|cases hb
 rw [hl] at q
 cases v with
 | lst ys =>
  simp [aI] at e4;subst e4
  refine .inl ⟨B,O₀,O,ρ,_,st,e3,λu H' s g=>?_⟩
  have r:=g.2 hb
  rw [Rep] at r
  obtain ⟨a,us,rfl,sq,rs⟩:=r
  exact ⟨a,rfl,⟨us,(bK H' O).seq sq⟩,q _ _ s (i4 (db.seq sq) rs)⟩
 | tup ys =>
  simp [aI] at e4;subst e4
  refine .inr ⟨B,O₀,O,ρ,_,st,e3,λu H' s g=>?_⟩
  have r:=g.2 hb
  rw [Rep] at r
  obtain ⟨a,us,rfl,sq,rs⟩:=r
  exact ⟨a,rfl,⟨us,(bK H' O).seqT (SqT.of sq)⟩,q _ _ s (sG (db.seqT (SqT.of sq)) rs)⟩
 | _=>simp [aI] at e4
theorem zO {i:Nat}{x:Str}{pos:Pos} (h:aD X.N X.env.scope i x=true):PI X tg (.Name x pos) (tW X.K cal .seq [.bor i]):=by
 refine (PI.or (oI (bT h)) (qY (bT h))).imp λσ H R q=>?_
 obtain ⟨B,O₀,O,ρ,vs,xs,st,e1,e2,q⟩:=q
 obtain ⟨v,rfl,e3⟩:=qB e1
 have e4:aI v=some xs:=e2
 rw [ev] at e3
 cases hj:(ρ[i]?).join with
 | none=>rw [hj] at e3;cases e3
 | some m =>
  rw [hj] at e3
  obtain ⟨u,eu,so⟩:=bU st hj
  cases m with
  | val w =>
   simp only [bM,Option.some.injEq] at e3
   subst e3
   have so':Rep X.K (ai H O) w u:=so
   obtain ⟨a,us,rfl,rs,z⟩:=vm so' e4
   rcases z with ⟨rfl,sq⟩|⟨rfl,sq⟩
   ·exact .inl ⟨_,eu,a,rfl,⟨us,(bK H O).seq sq⟩,q _ _ (ag.refl H) (i4 (db.seq sq) rs)⟩
   ·exact .inr ⟨_,eu,a,rfl,⟨us,(bK H O).seqT sq⟩,q _ _ (ag.refl H) (sG (db.seqT sq) rs)⟩
  | own ys =>
   simp only [bM,Option.some.injEq] at e3
   subst e3
   simp [aI] at e4;subst e4
   obtain ⟨a,us,rfl,ha,rs,hO,_⟩:=so
   refine .inl ⟨_,eu,a,rfl,⟨us,SqL.of ha⟩,q _ _ (ag.refl H) (i4 (SqL.of ?_) rs)⟩
   have hl:aO [.bor i] ρ σ=[a]:=by simp [aO,hj,eu]
   unfold bx
   rw [hl,if_pos hO,if_pos (by simp)]
   exact ha
  | brw ys =>
   simp only [bM,Option.some.injEq] at e3
   subst e3
   simp [aI] at e4;subst e4
   obtain ⟨a,us,rfl,sq,rs⟩:=so
   exact .inl ⟨_,eu,a,rfl,⟨us,st.keep.seq sq⟩,q _ _ (ag.refl H) (i4 ((eN st.keep).seq sq) rs)⟩
  | ownD ys =>
   simp only [bM,Option.some.injEq] at e3
   subst e3
   simp [aI] at e4
  | ownL ys=>simp [bM] at e3
  | brwD ys =>
   simp only [bM,Option.some.injEq] at e3
   subst e3
   simp [aI] at e4
theorem w_rev {m:ME}{e:Expr}{f:Str}{p pos:Pos}{T:Tab}{k:Nat} (g:Gf X T k cal) (hf:f=("reversed":Str)) (hg:glB X.env.scope f=true) (hs:ak e=true) (hb:aF m=false) (h:PE X e (tE X.K cal m)):PI X tg (.Call (.Name f p) [e] [] pos) (tW X.K cal .rev [m]):=by
 subst hf
 have star:starEach [e] X.env=[(false,eval e X.env)]:=by cases e <;> first|rfl|(simp [ak] at hs)
 refine (xK (cR hg) (g.blt "reversed" (by decide)) h star).imp λσ H R q=>?_
 obtain ⟨B,O₀,O,ρ,vs,xs,st,e1,e2,q⟩:=q
 obtain ⟨v,rfl,e3⟩:=qB e1
 have hl:aO [m] ρ σ=[]:=by cases m <;> first|rfl|cases hb
 rw [hl] at q
 cases v with
 | lst ys =>
  simp only [dA,Option.some.injEq] at e2
  subst e2
  refine ⟨B,O₀,O,ρ,_,st,e3,λu H' s g=>?_⟩
  have r:=g.2 hb
  rw [Rep] at r
  obtain ⟨a,us,rfl,sq,rs⟩:=r
  exact ⟨a,us,rfl,(bK H' O).seq sq,q _ _ s (xL (db.seq sq) rs)⟩
 | _=>simp [dA] at e2
theorem vn {T:Tab}{k:Nat}{ms:List ME}{args:List Expr}{f:Str}{p pos:Pos} (g:Gf X T k cal) (hf:f=("range":Str)) (hg:glB X.env.scope f=true) (ha:PA X args (tEs X.K cal ms)) (hn:args.length=1 \/ args.length=2) (hs:args.all ak=true) (hm:ms.length=args.length) :
  PI X tg (.Call (.Name f p) args [] pos) (tW X.K cal .rng ms):=by
 subst hf
 have star:∀ e,ak e=true->∀ es env,starEach (e::es) env=(false,eval e env)::starEach es env:=λe he es env=>by
  cases e <;> first|rfl|(simp [ak] at he)
 match args,hn with
 | [a],_ =>
  simp only [List.all_cons,List.all_nil,Bool.and_true] at hs
  refine (pW (cR hg) (g.blt "range" (by decide)) ha (by rw [star a hs];rfl)).imp λσ H R q=>?_
  obtain ⟨B,O₀,O,ρ,vs,xs,st,e1,e2,q⟩:=q
  refine ⟨B,O₀,O,ρ,vs,st,e1,λus H' s gs=>?_⟩
  match vs,e2,gs with
  | [.int j],e2,gs =>
   simp only [dA] at e2
   split at e2
   ·rename_i c
    cases e2
    obtain ⟨u,rfl,ru⟩:=p1 gs.1
    have e3:=ru.int
    subst e3
    exact ⟨j,rfl,c.1,c.2,q _ _ s m7⟩
   ·cases e2
  | [.int j,.int j'],e2,gs =>
   have:=l0 e1
   simp at this hm
   omega
 | [a,b],_ =>
  simp only [List.all_cons,List.all_nil,Bool.and_true,Bool.and_eq_true] at hs
  refine (pX (cR hg) (g.blt "range" (by decide)) ha (by rw [star a hs.1,star b hs.2];rfl) (by rw [star b hs.2];rfl)).imp λσ H R q=>?_
  obtain ⟨B,O₀,O,ρ,vs,xs,st,e1,e2,q⟩:=q
  refine ⟨B,O₀,O,ρ,vs,st,e1,λus H' s gs=>?_⟩
  match vs,e2,gs with
  | [.int i,.int j],e2,gs =>
   simp only [dA] at e2
   split at e2
   ·rename_i c
    cases e2
    obtain ⟨u,u',rfl,ru,ru'⟩:=p2 gs.1
    have e3:=ru.int
    have e4:=ru'.int
    subst e3 e4
    exact ⟨i,j,rfl,c,q _ _ s m7⟩
   ·cases e2
  | [.int j],e2,gs =>
   have:=l0 e1
   simp at this hm
   omega
end
end MM
namespace MM
open PySem PySem.Spec PyProof.Rows L2
noncomputable def tF (K:PySem.W.Frag) (cal:Cal) (me:ME):TE:=λσ H Q=>∃ B O₀ O ρ xs,aw K B O₀ O H ρ σ/\ev cal me ρ=some (.lst xs) /\
 ∀ p us H',ag H H'->H p=none->H' p=some (.lst us)->Reps K (ai H' (p::O)) xs us->Q (.ref p) H'
theorem gZ {H:Hp}{O:List Addr}{p:Addr}:ag (ai H (p::O)) (ai H O):=bf (ag.refl H) λb hb=>.inl (List.mem_cons_of_mem _ hb)
theorem fG {H:Hp}{O:List Addr}{p:Addr}{o:HO} (h:p ∈ O):ai (upd H p o) O=ai H O:=by
 funext b
 unfold ai
 split
 ·rfl
 ·rename_i hb
  exact au λz=>hb (by rw [z];exact h)
theorem pF {K:PySem.W.Frag}{H H':Hp}{O:List Addr}{me:ME}{xs:List PV}{p:Addr}{us:List V} (hO:∀ a ∈ O,H a ≠ none) (hp:H p=none) (e:H' p=some (.lst us)) (r:Reps K (ai H' (p::O)) xs us):Got K H' O me (.lst xs) (.ref p):=by
 refine .of ?_
 rw [Rep]
 refine ⟨p,us,rfl,SqL.of ?_,Reps.mono gZ _ r⟩
 rw [bH λz=>hO p z hp]
 exact e
section
variable {X:Cx}{T:Tab}{k:Nat}{cal:Cal}
theorem eO {e:Expr}{me:ME} (hf:∀ ρ v,ev cal me ρ=some v->∃ xs,v=.lst xs) (h:PE X e (tF X.K cal me)):PE X e (tE X.K cal me):=by
 refine h.imp λσ H Q q=>?_
 obtain ⟨B,O₀,O,ρ,v,st,e1,q⟩:=q
 obtain ⟨xs,rfl⟩:=hf ρ v e1
 exact ⟨B,O₀,O,ρ,xs,st,e1,λp us H' s hp he r=>q _ _ s (pF st.here hp he r)⟩
theorem Gf.blk (g:Gf X T k cal) (x:Str) (fvs:List Str) (scope:Scope) (s₁:Shared) (H₁:Hp) (C:Addr) (fp:List Addr):Gf (X.blk x fvs scope s₁ H₁ C fp) T k cal:={ g with }
theorem iD {osc:Scope}{N:List Str}{scope:Scope}{x:Str}{fvs:List Str}{js:List Nat} (h:dj osc N scope x fvs js=true):ir osc N scope x fvs js:=by
 unfold dj at h
 simp only [Bool.and_eq_true,beq_iff_eq,decide_eq_true_eq] at h
 obtain ⟨⟨⟨⟨⟨⟨⟨⟨h1,h2⟩,h3⟩,h4⟩,h5⟩,h6⟩,h7⟩,h8⟩,h9⟩:=h
 exact ⟨h1,h2,h3,h4,h5,h6,h7,h8,h9⟩
theorem xM {K:PySem.W.Frag}{B H H1 H2:Hp}{O₀ O:List Addr}{ρ:Rho}{σ σ':St}{js:List Nat}{D:Addr}{x:PV}{ux:V} (st:aw K B O₀ O H ρ σ) (s1:ag H H1) (s2:ag H1 H2) (hD:H1 D=none) (hD2:H2 D ≠ none)
  (hσ:∀ z,σ'.set 0 z=(jy js σ).set 0 z) (hl:0 < σ'.length) (hx:Rep K (ai H2 (D::O)) x ux):aw K H1 [] (D::O) H2 (fh js ρ x) (σ'.set 0 (some ux)):=by
 have hv:ag (ai H O) (ai H2 (D::O)):=bf (s1.trans s2) λb hb=>by
  rcases List.mem_cons.mp hb with rfl|hb
  ·exact .inr (s1.free hD)
  ·exact .inl hb
 rw [hσ]
 have noown:∀ (i:Nat) (m:MV),dO m=true->(fh js ρ x)[i]? ≠ some (some m):=λi m hm e=>by
  unfold fh at e
  cases i with
  | zero =>
   simp at e
   subst e
   cases hm
  | succ i =>
   simp only [List.getElem?_cons_succ,List.getElem?_map,Option.map_eq_some_iff] at e
   obtain ⟨j,_,e⟩:=e
   cases hj:(ρ[j]?).join with
   | none=>rw [hj] at e;cases e
   | some mm =>
    rw [hj] at e
    cases mm <;> first|(simp [dZ] at e;done)|(simp only [dZ,Option.some.injEq] at e;subst e;cases hm)
 refine ⟨s2,λa ha=>?_,λa ha=>by simp at ha,λa ha=>by simp at ha,?_,λi m e=>?_,λi j m m' a _ e _ hm=>absurd e (noown i m hm)
  ,mP λi xss=>noown i _ rfl
  ⟩
 ·rcases List.mem_cons.mp ha with rfl|ha
  ·exact hD2
  ·exact λe=>st.here a ha ((s1.trans s2).free e)
 ·simp [fh,jy]
 ·cases i with
  | zero =>
   simp only [fh,List.getElem?_cons_zero,Option.some.injEq] at e
   subst e
   exact ⟨ux,by simp [jy],hx⟩
  | succ i =>
   simp only [fh,List.getElem?_cons_succ,List.getElem?_map,Option.map_eq_some_iff] at e
   obtain ⟨j,ej,e⟩:=e
   cases hj:(ρ[j]?).join with
   | none=>rw [hj] at e;cases e
   | some mm =>
    rw [hj] at e
    obtain ⟨u,eu,so⟩:=bU st hj
    have eσ:((jy js σ).set 0 (some ux))[i + 1]?=some (some u):=by
     simp [jy,ej,eu]
    refine ⟨u,eσ,?_⟩
    cases mm with
    | val w =>
     simp only [dZ,Option.some.injEq] at e
     subst e
     exact Rep.mono hv _ so
    | own ys =>
     simp only [dZ,Option.some.injEq] at e
     subst e
     obtain ⟨a,us,rfl,ha,rs,hO,_⟩:=so
     exact ⟨a,us,rfl,SqL.of (s1 _ _ ha),Reps.mono hv _ rs⟩
    | brw ys =>
     simp only [dZ,Option.some.injEq] at e
     subst e
     obtain ⟨a,us,rfl,sq,rs⟩:=so
     exact ⟨a,us,rfl,(st.keep.trans s1).seq sq,Reps.mono hv _ rs⟩
    | ownD kvs =>
     simp only [dZ,Option.some.injEq] at e
     subst e
     obtain ⟨a,rfl,ha,_⟩:=so
     exact ⟨a,rfl,.inl (s1 _ _ ha)⟩
    | ownL _=>simp [dZ] at e
    | brwD kvs =>
     simp only [dZ,Option.some.injEq] at e
     subst e
     obtain ⟨a,rfl,ha⟩:=so
     exact ⟨a,rfl,ag.rd (st.keep.trans s1) ha⟩
theorem nX {k':Sk}{ms:List ME}{js:List Nat}{cond elt:ME}{e it:Expr}{x:Str}{px:Pos}{ifs:List Expr}{scope:Scope}{pos:Pos} (g:Gf X T k cal) (hsc:dj X.env.scope X.N scope x (bD X.N js) js=true)
  (hw:PI X (.Name x px) it (tW X.K cal k' ms)) (hns:eU it=true)
  (hc:∀ s₁ H₁ C fp,PF (X.blk x (bD X.N js) scope s₁ H₁ C fp) ifs (tT X.K cal cond)) (he:∀ s₁ H₁ C fp,PE (X.blk x (bD X.N js) scope s₁ H₁ C fp) e (tE X.K cal elt)) (hb:aF elt=false) :
  PE X (.ListComp e [⟨.Name x px,it,ifs,0⟩] scope pos) (tF X.K cal (.comp k' ms js cond elt)):=by
 refine (uR (iD hsc) g.calm hw hc he (by intro v;cases it <;> first|rfl|(simp [eU] at hns))).imp λσ H Q q=>?_
 exact comp_go hb q
where
 comp_go {k':Sk}{ms:List ME}{js:List Nat}{cond elt:ME}{K:PySem.W.Frag}{σ:St}{H:Hp}{Q:VK} (hb:aF elt=false) (q:tF K cal (.comp k' ms js cond elt) σ H Q):rO (tW K cal k' ms) js (tT K cal cond) (tE K cal elt) σ H Q:=by
  obtain ⟨B,O₀,O,ρ,ws,st,e1,q⟩:=q
  rw [ev] at e1
  simp only [Option.bind_eq_some_iff] at e1
  obtain ⟨vs,e1,xs,e2,e3⟩:=e1
  split at e3
  ·rename_i hlen
   simp only [Option.map_eq_some_iff,PV.lst.injEq,exists_eq_right] at e3
   refine ⟨B,O₀,O,ρ,vs,xs,st,e1,e2,λJ H1 s1 it D hD=>?_⟩
   have hDO:D ∉ O:=λz=>bg s1 st.here D z hD
   have it1:=it.weak (jO (st.keep.trans s1))
   refine ⟨λi m σ' H'=>m=xs.length - i/\i <= xs.length/\ag H1 H'/\(∀ z,σ'.set 0 z=(jy js σ).set 0 z)/\0 < σ'.length/\∃ done bR ys,eC (λx=>(ev cal cond (fh js ρ x)).bind aL) (λx=>ev cal elt (fh js ρ x)) (xs.drop i)=some bR/\ws=done ++ bR/\done.length <= i/\H' D=some (.lst ys)/\Reps K (ai H' (D::O)) done ys,⟨xs.length,by simp,Nat.zero_le _,aC hD _,λ_=>rfl,by simp [jy],[],ws,[],by simpa using e3,rfl,Nat.le_refl _,aB,.nil⟩,?_⟩
   rintro i m σ' H' ⟨rfl,hi,s2,hσ,hl,done,bR,ys,eg,ew,hdl,hDy,rs⟩
   by_cases hlt:i < xs.length
   ·right
    have ex:xs[i]?=some xs[i]:=List.getElem?_eq_getElem hlt
    refine ⟨it1.go i _ H' s2 ex,λσ2 H2=>∃ m',m' < xs.length - i/\(m'=xs.length - (i + 1)/\i + 1 <= xs.length/\ag H1 H2/\(∀ z,σ2.set 0 z=(jy js σ).set 0 z)/\0 < σ2.length/\∃ done bR ys,eC (λx=>(ev cal cond (fh js ρ x)).bind aL) (λx=>ev cal elt (fh js ρ x)) (xs.drop (i + 1))=some bR/\ws=done ++ bR/\done.length <= i + 1/\H2 D=some (.lst ys)/\Reps K (ai H2 (D::O)) done ys),λσ2 H2 z=>z,λux H2 y=>?_⟩
    obtain ⟨s3,hr⟩:=it1.yld i _ H' ux H2 s2 ex y
    have sv:ag (ai H1 O) (ai H2 (D::O)):=bf (s2.trans s3) λb hb=>by
     rcases List.mem_cons.mp hb with rfl|hb
     ·exact .inr hD
     ·exact .inl hb
    have hx:=hr (D::O) (λa ha=>by
     rcases List.mem_cons.mp ha with rfl|ha
     ·rw [hDy];simp
     ·exact λz=>bg s1 st.here a ha (s2.free z)) sv
    have hD2:H2 D=some (.lst ys):=s3 _ _ hDy
    have stb:=xM (js:=js) (ρ:=ρ) st s1 (s2.trans s3) hD (by rw [hD2];simp) hσ hl hx
    rw [List.drop_eq_getElem_cons hlt,eC] at eg
    simp only [Option.bind_eq_some_iff] at eg
    obtain ⟨b,eb,eg⟩:=eg
    refine ⟨H1,[],D::O,_,b,stb,by simpa [evB,Option.bind_eq_some_iff] using eb,λH3 s4=>?_⟩
    have hσ2:∀ z,(σ'.set 0 (some ux)).set 0 z=(jy js σ).set 0 z:=λz=>by rw [List.set_set];exact hσ z
    have hl2:0 < (σ'.set 0 (some ux)).length:=by rw [List.length_set];exact hl
    cases b with
    | false =>
     rw [if_neg (by simp)] at eg
     dsimp only
     rw [if_neg (by simp)]
     refine ⟨_,by omega,rfl,hlt,(s2.trans s3).trans s4,hσ2,hl2,done,bR,ys,eg,ew,by omega,s4 _ _ hD2,Reps.mono ?_ _ rs⟩
     exact (ax s3).trans (ax s4)
    | true =>
     rw [if_pos rfl] at eg
     dsimp only
     rw [if_pos rfl]
     simp only [Option.bind_eq_some_iff,Option.map_eq_some_iff] at eg
     obtain ⟨y',ey,rest',eg,rfl⟩:=eg
     refine ⟨H1,[],D::O,_,y',stb.mono s4,ey,λuy H4 s5 gy=>?_⟩
     have hD4:H4 D=some (.lst ys):=s5 _ _ (s4 _ _ hD2)
     have ry:=gy.2 hb
     have rs4:Reps K (ai H4 (D::O)) done ys:=Reps.mono (((ax s3).trans (ax s4)).trans (ax s5)) _ rs
     have hyl:ys.length <= 10000:=by rw [<- rs.length];omega
     refine ⟨ys,hD4,Nat.lt_of_le_of_lt hyl (by decide),_,by omega,rfl,hlt,?_,hσ2,hl2,done ++ [y'],rest',ys ++ [uy],eg,by simp [ew],by simp;omega,aB,?_⟩
     ·intro b u eb
      rw [au (bn eb hD)]
      exact s5 _ _ (s4 _ _ ((s2.trans s3) _ _ eb))
     ·rw [fG (List.mem_cons_self)]
      exact rs4.snoc ry
   ·left
    have ei:i=xs.length:=by omega
    subst ei
    rw [List.drop_length,eC] at eg
    cases eg
    rw [List.append_nil] at ew
    subst ew
    exact ⟨it1.stop H' s2,q D ys H' (s1.trans s2) (s1.free hD) hDy rs⟩
  ·cases e3
end
end MM
namespace MM
open PySem PySem.Spec PyProof.Rows L2
section
variable {X:Cx}{T:Tab}{k:Nat}{cal:Cal}
theorem br {e:Expr} (he:ak e=true) (es:List Expr) (env:Env):starEach (e::es) env=(false,eval e env)::starEach es env:=by
 cases e <;> first|rfl|(simp [ak] at he)
theorem bP {pos:Pos}{env:Env}:∀ {es:List Expr},es.all ak=true->(backTo pos (starEach es env)).any (·.1)=false
 | [],_=>rfl
 | e::es,h=>by
  simp only [List.all_cons,Bool.and_eq_true] at h
  rw [br h.1]
  show (false || (backTo pos (starEach es env)).any (·.1))=false
  rw [bP h.2];rfl
theorem bz:∀ {ms:List ME}{N:List Str}{sc:Scope}{es:List Expr},chks T ms N sc es=true->es.all ak=true/\ms.length=es.length
 | [],_,_,[],_=>⟨rfl,rfl⟩
 | [],_,_,_::_,h=>by simp [chks] at h
 | _::_,_,_,[],h=>by simp [chks] at h
 | m::ms,N,sc,e::es,h=>by
  simp only [chks,Bool.and_eq_true] at h
  obtain ⟨h1,h2⟩:=bz h.2
  exact ⟨by simp [h.1.2,h1],by simp [h2]⟩
theorem bi {e:Expr}{me:ME} (h:PE X e (tE X.K cal me)) (hp:iz e=true):PT X e (tT X.K cal me):=by
 refine (wC h (by intro w;cases e <;> first|rfl|(simp [iz] at hp;done)|(rename_i op _ _;cases op <;> first|rfl|(simp [iz] at hp)))).imp λσ H Q q=>?_
 obtain ⟨B,O₀,O,ρ,b,st,e1,q⟩:=q
 simp only [evB,Option.bind_eq_some_iff] at e1
 obtain ⟨v,e1,e2⟩:=e1
 refine ⟨B,O₀,O,ρ,v,st,e1,λu H' s g=>?_⟩
 cases v <;> simp [aL] at e2
 subst e2
 exact ⟨_,g.1.bl,q H' s⟩
theorem sH {m:ME}{ms:List ME}{e:Expr}{es:List Expr} (h:PE X e (tE X.K cal m)) (hs:PA X es (tEs X.K cal ms)) (hn:ak e=true):PA X (e::es) (tEs X.K cal (m::ms)):=by
 refine (aG h hs (br hn es _)).imp λσ H Q q=>?_
 obtain ⟨B,O₀,O,ρ,vs,st,e1,q⟩:=q
 simp only [evs,Option.bind_eq_some_iff,Option.map_eq_some_iff] at e1
 obtain ⟨v,e1,ws,e2,rfl⟩:=e1
 refine ⟨B,O₀,O,ρ,v,st,e1,λu H1 s1 g1=>⟨B,O₀,O,ρ,ws,st.mono s1,e2,λus H2 s2 g2=>q (u::us) H2 (s1.trans s2) ⟨.cons (g1.1.mono s2) g2.1,λhb=>?_⟩⟩⟩
 simp only [List.all_cons,Bool.and_eq_true,Bool.not_eq_true'] at hb
 exact .cons ((g1.mono s2).2 hb.1) (g2.2 hb.2)
theorem vo:PA X [] (tEs X.K cal []):=by
 refine a_.imp λσ H Q q=>?_
 obtain ⟨B,O₀,O,ρ,vs,st,e1,q⟩:=q
 simp only [evs,Option.some.injEq] at e1
 subst e1
 exact q [] H (ag.refl H) ⟨.nil,λ_=>.nil⟩
theorem sI:PA X [] (tAs X.K cal []):=by
 refine a_.imp λσ H Q q=>?_
 obtain ⟨B,O₀,O,ρ,vs,st,e1,q⟩:=q
 simp only [evA,Option.some.injEq] at e1
 subst e1
 exact q [] H (ag.refl H) .nil
theorem sJ {K:PySem.W.Frag}{H H':Hp}{O:List Addr} (s:ag H H') {m:MV}{u:V} (h:gf K O H m u):gf K O H' m u:=by
 cases m with
 | val v=>exact Rep.mono (ax s) _ h
 | own _=>exact h
 | brw xs=>obtain ⟨a,us,e,q,r⟩:=h;exact ⟨a,us,e,s.seq q,Reps.mono (ax s) _ r⟩
 | ownD _=>exact h
 | ownL _=>exact h
 | brwD kvs=>obtain ⟨a,e,q⟩:=h;exact ⟨a,e,ag.rd s q⟩
theorem qC {m:ME}{ms:List ME}{e:Expr}{es:List Expr} (hb:aF m=false) (h:PE X e (tE X.K cal m)) (hs:PA X es (tAs X.K cal ms)) (hn:ak e=true):PA X (e::es) (tAs X.K cal (m::ms)):=by
 refine (aG h hs (br hn es _)).imp λσ H Q q=>?_
 obtain ⟨B,O₀,O,ρ,vs,st,e1,q⟩:=q
 have e1':(ev cal m ρ).bind (λv=>(evA cal ms ρ).map (MV.val v::·))=some vs:=by
  rw [<- e1]
  cases m <;> first|(cases hb;done)|(simp only [evA];done)|rfl
 simp only [Option.bind_eq_some_iff,Option.map_eq_some_iff] at e1'
 obtain ⟨v,e9,ws,e2,rfl⟩:=e1'
 exact ⟨B,O₀,O,ρ,v,st,e9,λu H1 s1 g1=>⟨B,O₀,O,ρ,ws,st.mono s1,e2,λus H2 s2 g2=>q (u::us) H2 (s1.trans s2) (.cons ((g1.mono s2).2 hb) g2)⟩⟩
theorem sK {i:Nat}{ms:List ME}{x:Str}{pos:Pos}{es:List Expr} (h:aD X.N X.env.scope i x=true) (hs:PA X es (tAs X.K cal ms)):PA X (.Name x pos::es) (tAs X.K cal (.bor i::ms)):=by
 refine (aG (bT h) hs rfl).imp λσ H Q q=>?_
 obtain ⟨B,O₀,O,ρ,vs,st,e1,q⟩:=q
 rw [evA] at e1
 simp only [Option.bind_eq_some_iff,Option.map_eq_some_iff] at e1
 obtain ⟨m',e1,ws,e2,rfl⟩:=e1
 cases hj:(ρ[i]?).join with
 | none=>rw [hj] at e1;cases e1
 | some m =>
  rw [hj] at e1
  obtain ⟨u,eu,so⟩:=bU st hj
  have ao:gf X.K O H m' u:=by
   cases m with
   | val w=>simp only [ff,Option.some.injEq] at e1;subst e1;exact so
   | own ys=>simp only [ff,Option.some.injEq] at e1;subst e1;obtain ⟨a,us,rfl,ha,rs,_⟩:=so;exact ⟨a,us,rfl,SqL.of ha,rs⟩
   | brw ys=>simp only [ff,Option.some.injEq] at e1;subst e1;obtain ⟨a,us,rfl,sq,rs⟩:=so;exact ⟨a,us,rfl,st.keep.seq sq,rs⟩
   | ownD kvs=>simp only [ff,Option.some.injEq] at e1;subst e1;obtain ⟨a,rfl,ha,_⟩:=so;exact ⟨a,rfl,.inl ha⟩
   | ownL _=>simp [ff] at e1
   | brwD kvs=>simp only [ff,Option.some.injEq] at e1;subst e1;obtain ⟨a,rfl,ha⟩:=so;exact ⟨a,rfl,ag.rd st.keep ha⟩
  exact ⟨u,eu,⟨B,O₀,O,ρ,ws,st,e2,λus H2 s2 g2=>q (u::us) H2 s2 (.cons (sJ s2 ao) g2)⟩⟩
theorem zP {op:Op2}{a b:ME}{l r:Expr}{pos:Pos} (ha:PE X l (tE X.K cal a)) (hb:PE X r (tE X.K cal b)):PE X (.BinOp l (u3 op) r pos) (tE X.K cal (.bin op a b)):=by
 refine (zc (xC op) ha hb).imp λσ H Q q=>?_
 obtain ⟨B,O₀,O,ρ,v,st,e1,q⟩:=q
 rw [ev] at e1
 simp only [Option.bind_eq_some_iff] at e1
 obtain ⟨x,e1,y,e2,e3⟩:=e1
 exact ⟨B,O₀,O,ρ,x,st,e1,λux H1 s1 g1=>⟨B,O₀,O,ρ,y,st.mono s1,e2,λuy H2 s2 g2=>⟨O,x,y,v,bg (s1.trans s2) st.here,g1.1.mono s2,g2.1,e3,λu H3 s3 r=>q u H3 ((s1.trans s2).trans s3) (.of r)⟩⟩⟩
theorem zQ {a:ME}{e:Expr}{pos:Pos} (ha:PE X e (tE X.K cal a)):PE X (.UnaryOp .Not e pos) (tE X.K cal (.not a)):=by
 refine (wH ha).imp λσ H Q q=>?_
 obtain ⟨B,O₀,O,ρ,v,st,e1,q⟩:=q
 rw [ev] at e1
 simp only [Option.bind_eq_some_iff,Option.map_eq_some_iff] at e1
 obtain ⟨b,⟨x,e1,e2⟩,rfl⟩:=e1
 cases x <;> simp only [aL,Option.some.injEq,reduceCtorEq] at e2
 subst e2
 exact ⟨B,O₀,O,ρ,_,st,e1,λux H1 s1 g1=>⟨_,g1.1.bl,q _ H1 s1 (.of (dP _ _))⟩⟩
theorem zR {a:ME}{e:Expr}{pos:Pos} (ha:PT X e (tT X.K cal a)):PT X (.UnaryOp .Not e pos) (tT X.K cal (.not a)):=by
 refine (wF ha).imp λσ H Q q=>?_
 obtain ⟨B,O₀,O,ρ,b,st,e1,q⟩:=q
 simp only [evB,ev,Option.bind_eq_some_iff,Option.map_eq_some_iff] at e1
 obtain ⟨v,⟨c,⟨x,e1,e2⟩,rfl⟩,e3⟩:=e1
 simp only [aL,Option.some.injEq] at e3
 subst e3
 exact ⟨B,O₀,O,ρ,c,st,by simp [evB,e1,e2],λH' s=>q H' s⟩
theorem wg {a b:ME}{x y:Expr}{r:List Expr}{pos:Pos} (ha:PE X x (tE X.K cal a)) (hb:PE X (.BoolOp .And (y::r) pos) (tE X.K cal b)):PE X (.BoolOp .And (x::y::r) pos) (tE X.K cal (.and a b)):=by
 refine (wG ha hb).imp λσ H Q q=>?_
 obtain ⟨B,O₀,O,ρ,v,st,e1,q⟩:=q
 rw [ev] at e1
 simp only [Option.bind_eq_some_iff] at e1
 obtain ⟨c,⟨z,e1,e2⟩,e3⟩:=e1
 cases z <;> simp only [aL,Option.some.injEq,reduceCtorEq] at e2
 subst e2
 refine ⟨B,O₀,O,ρ,_,st,e1,λux H1 s1 g1=>⟨_,g1.1.bl,?_⟩⟩
 split at e3
 ·rename_i h
  rw [if_pos h]
  simp only [Option.bind_eq_some_iff,Option.map_eq_some_iff] at e3
  obtain ⟨z',e3,c',e4,rfl⟩:=e3
  cases z' <;> simp only [aL,Option.some.injEq,reduceCtorEq] at e4
  subst e4
  exact ⟨B,O₀,O,ρ,_,st.mono s1,e3,λu H2 s2 g2=>q u H2 (s1.trans s2) (by rw [g2.1.bl];exact .of (dP _ _))⟩
 ·rename_i h
  rw [if_neg h]
  cases e3
  exact q _ H1 s1 (.of (dP _ _))
theorem zS {a b:ME}{x y:Expr}{r:List Expr}{pos:Pos} (ha:PE X x (tE X.K cal a)) (hb:PE X (.BoolOp .Or (y::r) pos) (tE X.K cal b)):PE X (.BoolOp .Or (x::y::r) pos) (tE X.K cal (.or a b)):=by
 refine (y4 ha hb).imp λσ H Q q=>?_
 obtain ⟨B,O₀,O,ρ,v,st,e1,q⟩:=q
 rw [ev] at e1
 simp only [Option.bind_eq_some_iff] at e1
 obtain ⟨c,⟨z,e1,e2⟩,e3⟩:=e1
 cases z <;> simp only [aL,Option.some.injEq,reduceCtorEq] at e2
 subst e2
 refine ⟨B,O₀,O,ρ,_,st,e1,λux H1 s1 g1=>⟨_,g1.1.bl,?_⟩⟩
 split at e3
 ·rename_i h
  rw [if_pos h]
  cases e3
  exact q _ H1 s1 (.of (dP _ _))
 ·rename_i h
  rw [if_neg h]
  simp only [Option.bind_eq_some_iff,Option.map_eq_some_iff] at e3
  obtain ⟨z',e3,c',e4,rfl⟩:=e3
  cases z' <;> simp only [aL,Option.some.injEq,reduceCtorEq] at e4
  subst e4
  exact ⟨B,O₀,O,ρ,_,st.mono s1,e3,λu H2 s2 g2=>q u H2 (s1.trans s2) (by rw [g2.1.bl];exact .of (dP _ _))⟩
theorem wj {op:BoolOp}{vs:List Expr}{pos:Pos}{t:TT} (h:PT X (.BoolOp op vs pos) t):PW X (.BoolOp op vs pos) t:=λw pins s σ H Q I q=>by
 have:=h pins s σ H Q I q
 rw [show PySem.isTrue (.BoolOp op vs pos) X.env w=PySem.isTrue (.BoolOp op vs pos) X.env (eval (.BoolOp op vs pos) X.env) from rfl]
 exact this
theorem wk {a b:ME}{x y:Expr}{r:List Expr}{pos:Pos} (ha:PT X x (tT X.K cal a)) (hb:PW X (.BoolOp .And (y::r) pos) (tT X.K cal b)):PT X (.BoolOp .And (x::y::r) pos) (tT X.K cal (.and a b)):=by
 refine (wE ha hb).pt.imp λσ H Q q=>?_
 obtain ⟨B,O₀,O,ρ,v,st,e1,q⟩:=q
 simp only [evB,ev,Option.bind_eq_some_iff] at e1
 obtain ⟨w,⟨c,⟨z,e1,e2⟩,e3⟩,e4⟩:=e1
 refine ⟨B,O₀,O,ρ,c,st,by simp [evB,e1,e2],λH1 s1=>?_⟩
 split at e3
 ·rename_i h
  rw [if_pos h]
  simp only [Option.bind_eq_some_iff,Option.map_eq_some_iff] at e3
  obtain ⟨z',e3,c',e5,rfl⟩:=e3
  simp only [aL,Option.some.injEq] at e4
  subst e4
  exact ⟨B,O₀,O,ρ,_,st.mono s1,by simp [evB,e3,e5],λH2 s2=>q H2 (s1.trans s2)⟩
 ·rename_i h
  rw [if_neg h]
  cases e3
  cases e4
  exact q H1 s1
theorem zT {a b:ME}{x y:Expr}{r:List Expr}{pos:Pos} (ha:PT X x (tT X.K cal a)) (hb:PW X (.BoolOp .Or (y::r) pos) (tT X.K cal b)):PT X (.BoolOp .Or (x::y::r) pos) (tT X.K cal (.or a b)):=by
 refine (y1 ha hb).pt.imp λσ H Q q=>?_
 obtain ⟨B,O₀,O,ρ,v,st,e1,q⟩:=q
 simp only [evB,ev,Option.bind_eq_some_iff] at e1
 obtain ⟨w,⟨c,⟨z,e1,e2⟩,e3⟩,e4⟩:=e1
 refine ⟨B,O₀,O,ρ,c,st,by simp [evB,e1,e2],λH1 s1=>?_⟩
 split at e3
 ·rename_i h
  rw [if_pos h]
  cases e3
  cases e4
  exact q H1 s1
 ·rename_i h
  rw [if_neg h]
  simp only [Option.bind_eq_some_iff,Option.map_eq_some_iff] at e3
  obtain ⟨z',e3,c',e5,rfl⟩:=e3
  simp only [aL,Option.some.injEq] at e4
  subst e4
  exact ⟨B,O₀,O,ρ,_,st.mono s1,by simp [evB,e3,e5],λH2 s2=>q H2 (s1.trans s2)⟩
theorem zU {c a b:ME}{t x y:Expr}{pos:Pos} (hc:PT X t (tT X.K cal c)) (ha:PE X x (tE X.K cal a)) (hb:PE X y (tE X.K cal b)) (na:aF a=false) (nb:aF b=false):PE X (.IfExp t x y pos) (tE X.K cal (.ite c a b)):=by
 refine (qW hc ha hb).imp λσ H Q q=>?_
 obtain ⟨B,O₀,O,ρ,v,st,e1,q⟩:=q
 rw [ev] at e1
 simp only [Option.bind_eq_some_iff] at e1
 obtain ⟨k',e1,e3⟩:=e1
 refine ⟨B,O₀,O,ρ,k',st,by simpa [evB,Option.bind_eq_some_iff] using e1,λH1 s1=>?_⟩
 split at e3
 ·rename_i h
  rw [if_pos h]
  exact ⟨B,O₀,O,ρ,v,st.mono s1,e3,λu H2 s2 g2=>q u H2 (s1.trans s2) (.of (g2.2 na))⟩
 ·rename_i h
  rw [if_neg h]
  exact ⟨B,O₀,O,ρ,v,st.mono s1,e3,λu H2 s2 g2=>q u H2 (s1.trans s2) (.of (g2.2 nb))⟩
theorem zV {c a b:ME}{t x y:Expr}{pos:Pos} (hc:PT X t (tT X.K cal c)) (ha:PT X x (tT X.K cal a)) (hb:PT X y (tT X.K cal b)):PT X (.IfExp t x y pos) (tT X.K cal (.ite c a b)):=by
 intro pins s σ H Q I q
 obtain ⟨B,O₀,O,ρ,v,st,e1,q⟩:=q
 simp only [evB,ev,Option.bind_eq_some_iff] at e1
 obtain ⟨w,⟨k',e1,e3⟩,e4⟩:=e1
 refine isTrue_IfExp (thn (hc pins s σ H (λb H1=>b=k'/\ag H H1) I ⟨B,O₀,O,ρ,k',st,by simpa [evB,Option.bind_eq_some_iff] using e1,λH1 s1=>⟨rfl,s1⟩⟩) λb s1 ⟨H1,I1,eb,hs⟩=>?_)
 subst eb
 split at e3
 ·rename_i h
  subst h
  exact ha pins s1 σ H1 Q I1 ⟨B,O₀,O,ρ,v,st.mono hs,by simp [evB,e3,e4],λH2 s2=>q H2 (hs.trans s2)⟩
 ·rename_i h
  have:b=false:=by cases b <;> simp at h ⊢
  subst this
  exact hb pins s1 σ H1 Q I1 ⟨B,O₀,O,ρ,v,st.mono hs,by simp [evB,e3,e4],λH2 s2=>q H2 (hs.trans s2)⟩
theorem zW {op:Cp}{a b:ME}{l r:Expr}{pos:Pos} (g:Gf X T k cal) (ha:PE X l (tE X.K cal a)) (hb:PE X r (tE X.K cal b)) (hm:behindInMarks (qu op) r=false):PE X (.Compare l [qu op] [r] pos) (tE X.K cal (.cmp op a b))/\PT X (.Compare l [qu op] [r] pos) (tT X.K cal (.cmp op a b)):=by
 refine ⟨(uB (nW g.units op) ha hb hm).imp λσ H Q q=>?_,(oM (nW g.units op) ha hb hm).imp λσ H Q q=>?_⟩
 ·obtain ⟨B,O₀,O,ρ,v,st,e1,q⟩:=q
  rw [ev] at e1
  simp only [Option.bind_eq_some_iff,Option.map_eq_some_iff] at e1
  obtain ⟨x,e1,y,e2,c,e3,rfl⟩:=e1
  exact ⟨B,O₀,O,ρ,x,st,e1,λux H1 s1 g1=>⟨B,O₀,O,ρ,y,st.mono s1,e2,λuy H2 s2 g2=>⟨O,x,y,c,g1.1.mono s2,g2.1,e3,q _ H2 (s1.trans s2) (.of (dP _ _))⟩⟩⟩
 ·obtain ⟨B,O₀,O,ρ,v,st,e1,q⟩:=q
  simp only [evB,ev,Option.bind_eq_some_iff,Option.map_eq_some_iff] at e1
  obtain ⟨w,⟨x,e1,y,e2,c,e3,rfl⟩,e4⟩:=e1
  simp only [aL,Option.some.injEq] at e4
  subst e4
  exact ⟨B,O₀,O,ρ,x,st,e1,λux H1 s1 g1=>⟨B,O₀,O,ρ,y,st.mono s1,e2,λuy H2 s2 g2=>⟨O,x,y,c,g1.1.mono s2,g2.1,e3,_,rfl,q H2 (s1.trans s2)⟩⟩⟩
theorem zX {ms:List ME}{es:List Expr}{j:Nat}{pos:Pos} (h:PA X es (tEs X.K cal ms)) (hb:(ms.all λm=>!aF m)=true):PE X (.Tuple es j pos) (tE X.K cal (.tup ms)):=by
 refine (wT h).imp λσ H Q q=>?_
 obtain ⟨B,O₀,O,ρ,v,st,e1,q⟩:=q
 rw [ev] at e1
 simp only [Option.bind_eq_some_iff] at e1
 obtain ⟨vs,e1,e2⟩:=e1
 split at e2
 ·rename_i hl
  cases e2
  refine ⟨B,O₀,O,ρ,vs,st,e1,λus H1 s1 g1=>⟨?_,λp hp=>?_⟩⟩
  ·rw [<- (g1.2 hb).length];exact dG hl
  ·exact q _ _ (s1.trans (aC hp _)) (.of (fE (bg s1 st.here) hp (g1.2 hb)))
 ·cases e2
theorem wl {ms:List ME}{es:List Expr}{pos:Pos} (h:PA X es (tEs X.K cal ms)) (hb:(ms.all λm=>!aF m)=true):PE X (.List es pos) (tF X.K cal (.lst ms)):=by
 refine (jd h).imp λσ H Q q=>?_
 obtain ⟨B,O₀,O,ρ,xs,st,e1,q⟩:=q
 rw [ev] at e1
 simp only [Option.bind_eq_some_iff] at e1
 obtain ⟨vs,e1,e2⟩:=e1
 split at e2
 ·rename_i hl
  cases e2
  refine ⟨B,O₀,O,ρ,xs,st,e1,λus H1 s1 g1=>⟨?_,λp hp=>?_⟩⟩
  ·rw [<- (g1.2 hb).length];exact dG hl
  ·refine q p us _ (s1.trans (aC hp _)) (s1.free hp) aB ?_
   rw [fG (List.mem_cons_self)]
   refine Reps.mono (bf (ag.refl H1) λb hb=>?_) _ (g1.2 hb)
   rcases List.mem_cons.mp hb with rfl|hb
   ·exact .inr hp
   ·exact .inl hb
 ·cases e2
theorem zY {a i:ME}{v s:Expr}{pos:Pos} (ha:PE X v (tE X.K cal a)) (hi:PE X s (tE X.K cal i)) (hs:bN s=true):PE X (.Subscript v s pos) (tE X.K cal (.idx a i)):=by
 refine (rk xE ha hi (gz hs)).imp λσ H Q q=>?_
 obtain ⟨B,O₀,O,ρ,v,st,e1,q⟩:=q
 rw [ev] at e1
 simp only [Option.bind_eq_some_iff] at e1
 obtain ⟨x,e1,y,e2,e3⟩:=e1
 exact ⟨B,O₀,O,ρ,x,st,e1,λux H1 s1 g1=>⟨B,O₀,O,ρ,y,st.mono s1,e2,λuy H2 s2 g2=>⟨O,x,y,v,bg (s1.trans s2) st.here,g1.1.mono s2,g2.1,e3,λu H3 s3 r=>q u H3 ((s1.trans s2).trans s3) (.of r)⟩⟩⟩
noncomputable def tB1 (K:PySem.W.Frag) (cal:Cal) (me:ME):TO:=λσ H Q=>∃ B O₀ O ρ o,aw K B O₀ O H ρ σ/\((ev cal me ρ).bind λv=>bnd me v)=some o/\∀ H',ag H H'->Q o H'
theorem sL {m:ME} (h:eF m=true):PO X none (tB1 X.K cal m):=by
 have e:m=.cst .non:=by
  unfold eF at h
  split at h
  ·rfl
  ·cases h
 subst e
 intro pins s σ H Q I q
 obtain ⟨B,O₀,O,ρ,o,st,e1,q⟩:=q
 simp only [ev,Option.bind_some,bnd,Option.some.injEq] at e1
 subst e1
 exact uE pins s σ H Q I (q H (ag.refl H))
theorem sM {m:ME}{l:Expr} (h:PE X l (tE X.K cal m)) (hn:eF m=false):PO X (some l) (tB1 X.K cal m):=by
 intro pins s σ H Q I q
 obtain ⟨B,O₀,O,ρ,o,st,e1,q⟩:=q
 simp only [Option.bind_eq_some_iff] at e1
 obtain ⟨v,e1,e2⟩:=e1
 obtain ⟨i,rfl,rfl⟩:∃ i,v=.int i/\o=some i:=by
  unfold bnd at e2
  split at e2
  ·simp [eF] at hn
  ·cases e2;exact ⟨_,rfl,rfl⟩
  ·cases e2
 exact uF h pins s σ H Q I ⟨B,O₀,O,ρ,_,st,e1,λu H' s' g=>⟨i,g.1.int,q H' s'⟩⟩
theorem vp {a lo hi:ME}{v:Expr}{l u:Option Expr}{p2 pos:Pos} (ha:PE X v (tE X.K cal a)) (hl:PO X l (tB1 X.K cal lo)) (hu:PO X u (tB1 X.K cal hi)):PE X (.Subscript v (.Slice l u none p2) pos) (tE X.K cal (.slice a lo hi)):=by
 refine (rj xF ha hl hu).imp λσ H Q q=>?_
 obtain ⟨B,O₀,O,ρ,w,st,e1,q⟩:=q
 rw [ev,Option.bind_eq_some_iff] at e1
 obtain ⟨x,e1,e2⟩:=e1
 rw [Option.bind_eq_some_iff] at e2
 obtain ⟨lo',e2,e3⟩:=e2
 rw [Option.bind_eq_some_iff] at e3
 obtain ⟨hi',e3,e4⟩:=e3
 exact ⟨B,O₀,O,ρ,x,st,e1,λux H1 s1 g1=>⟨B,O₀,O,ρ,lo',st.mono s1,e2,λH2 s2=>⟨B,O₀,O,ρ,hi',(st.mono s1).mono s2,e3,λH3 s3 =>
  ⟨O,x,w,bg ((s1.trans s2).trans s3) st.here,g1.1.mono (s2.trans s3),e4,λu H4 s4 r=>q u H4 (((s1.trans s2).trans s3).trans s4) (.of r)⟩⟩⟩⟩
theorem m8 {f:Blt}{ms:List ME}{x:Str}{e:Expr}{es:List Expr}{p pos:Pos}{id:String} (hc:bq X (.builtin id) (RBM X.K (aq f))) (hg:glB X.env.scope x=true) (hm:X.mg x=none) (hv:bootBuiltins x=some (.builtin id)) (hn:x ≠ "__name__") (hd:(x == ("__debug__":Str))=false)
  (ha:PA X (e::es) (tEs X.K cal ms)) (hs:(e::es).all ak=true):PE X (.Call (.Name x p) (e::es) [] pos) (tE X.K cal (.blt f ms)):=by
 simp only [List.all_cons,Bool.and_eq_true] at hs
 refine (cw hc (cR hg) hm hv ha hn hd (br hs.1 es _) (bP hs.2)).imp λσ H Q q=>?_
 obtain ⟨B,O₀,O,ρ,v,st,e1,q⟩:=q
 rw [ev,Option.bind_eq_some_iff] at e1
 obtain ⟨vs,e1,e2⟩:=e1
 exact ⟨B,O₀,O,ρ,vs,st,e1,λus H1 s1 g1=>⟨O,vs,v,bg s1 st.here,g1.1,e2,λu H2 s2 r=>q u H2 (s1.trans s2) (.of r)⟩⟩
theorem xN {f:Blt}{ms:List ME}{x:Str}{e:Expr}{es:List Expr}{p pos:Pos}{id:String} (hc:bq X (.type id) (RBM X.K (aq f))) (hg:glB X.env.scope x=true) (hm:X.mg x=none) (hv:bootBuiltins x=some (.type id)) (hn:x ≠ "__name__") (hd:(x == ("__debug__":Str))=false)
  (ha:PA X (e::es) (tEs X.K cal ms)) (hs:(e::es).all ak=true):PE X (.Call (.Name x p) (e::es) [] pos) (tE X.K cal (.blt f ms)):=by
 simp only [List.all_cons,Bool.and_eq_true] at hs
 refine (eI hc (cR hg) hm hv ha hn hd (br hs.1 es _) (bP hs.2)).imp λσ H Q q=>?_
 obtain ⟨B,O₀,O,ρ,v,st,e1,q⟩:=q
 rw [ev,Option.bind_eq_some_iff] at e1
 obtain ⟨vs,e1,e2⟩:=e1
 exact ⟨B,O₀,O,ρ,vs,st,e1,λus H1 s1 g1=>⟨O,vs,v,bg s1 st.here,g1.1,e2,λu H2 s2 r=>q u H2 (s1.trans s2) (.of r)⟩⟩
theorem k7 {f:Blt}{ms:List ME}{σ:St}{H:Hp}{Q:VK}{K:PySem.W.Frag} (q:tF K cal (.blt f ms) σ H Q):tCB (RBF K (aq f)) (tEs K cal ms) σ H Q:=by
 obtain ⟨B,O₀,O,ρ,xs,st,e1,q⟩:=q
 rw [ev,Option.bind_eq_some_iff] at e1
 obtain ⟨vs,e1,e2⟩:=e1
 refine ⟨B,O₀,O,ρ,vs,st,e1,λus H1 s1 g1=>⟨O,vs,xs,bg s1 st.here,g1.1,e2,λl ws hl r=>q l ws _ (s1.trans (aC hl _)) (s1.free hl) aB ?_⟩⟩
 rw [fG (List.mem_cons_self)]
 refine Reps.mono (bf (ag.refl H1) λb hb=>?_) _ r
 rcases List.mem_cons.mp hb with rfl|hb
 ·exact .inr hl
 ·exact .inl hb
theorem xO {f:Blt}{ms:List ME}{x:Str}{e:Expr}{es:List Expr}{p pos:Pos}{id:String} (hc:bq X (.builtin id) (RBF X.K (aq f))) (hg:glB X.env.scope x=true) (hm:X.mg x=none) (hv:bootBuiltins x=some (.builtin id)) (hn:x ≠ "__name__") (hd:(x == ("__debug__":Str))=false)
  (ha:PA X (e::es) (tEs X.K cal ms)) (hs:(e::es).all ak=true):PE X (.Call (.Name x p) (e::es) [] pos) (tF X.K cal (.blt f ms)):=by
 simp only [List.all_cons,Bool.and_eq_true] at hs
 exact (cw hc (cR hg) hm hv ha hn hd (br hs.1 es _) (bP hs.2)).imp λσ H Q q=>k7 q
theorem vq {f:Blt}{ms:List ME}{x:Str}{e:Expr}{es:List Expr}{p pos:Pos}{id:String} (hc:bq X (.type id) (RBF X.K (aq f))) (hg:glB X.env.scope x=true) (hm:X.mg x=none) (hv:bootBuiltins x=some (.type id)) (hn:x ≠ "__name__") (hd:(x == ("__debug__":Str))=false)
  (ha:PA X (e::es) (tEs X.K cal ms)) (hs:(e::es).all ak=true):PE X (.Call (.Name x p) (e::es) [] pos) (tF X.K cal (.blt f ms)):=by
 simp only [List.all_cons,Bool.and_eq_true] at hs
 exact (eI hc (cR hg) hm hv ha hn hd (br hs.1 es _) (bP hs.2)).imp λσ H Q q=>k7 q
theorem xP {f:Nat}{ms:List ME}{x:Str}{es:List Expr}{p pos:Pos} (g:Gf X T k cal) (hf:T.fs[f]?=some x) (hg:glB X.env.scope x=true) (hn:ah x=true) (ha:PA X es (tAs X.K cal ms)) (hs:es.all ak=true) (hl:ms.length=es.length):PE X (.Call (.Name x p) es [] pos) (tE X.K cal (.call f ms)):=by
 obtain ⟨fa,fd,ps,h1,h2,h3,F,_⟩:=g.fns f x hf
 have key:∀ σ H Q,tE X.K cal (.call f ms) σ H Q->ra (spM X.K cal f) [] E0 (tAs X.K cal ms) σ H Q:=λσ H Q q=>by
  obtain ⟨B,O₀,O,ρ,v,st,e1,q⟩:=q
  rw [ev,Option.bind_eq_some_iff] at e1
  obtain ⟨vs,e1,e2⟩:=e1
  refine ⟨B,O₀,O,ρ,vs,st,e1,λus H1 s1 g1=>⟨O,vs,v,bg s1 st.here,?_,e2,λu H2 s2 r=>q u H2 (s1.trans s2) (.of r)⟩⟩
  rw [List.append_nil]
  exact g1
 cases es with
 | nil =>
  refine (re F g.room (cR hg) h1 h2 h3 .nil rq (c8 hn).1).imp λσ H Q q=>?_
  obtain ⟨B,O₀,O,ρ,vs,st,e1,q⟩:=key σ H Q q
  cases ms with
  | nil =>
   simp only [evA,Option.some.injEq] at e1
   subst e1
   exact q [] H (ag.refl H) .nil
  | cons m ms=>simp at hl
 | cons e es =>
  simp only [List.all_cons,Bool.and_eq_true] at hs
  exact (oN F g.room (cR hg) h1 h2 h3 .nil rq ha (c8 hn).1 (br hs.1 es _) (bP hs.2)).imp key
end
end MM
namespace MM
open PySem PySem.Spec PyProof.Rows L2
section
variable {K:PySem.W.Frag}{H:Hp}{O:List Addr}
end
section
variable {X:Cx}{pins:List (Addr × Obj)}{σ:St}{H:Hp}{s:Shared}
end
section
variable {X:Cx}{T:Tab}{k:Nat}{cal:Cal}
end
end MM
namespace MM
open PySem PySem.Spec PyProof.Rows L2
theorem jP:bootBuiltins "len"=some (.builtin "len"):=by decide +kernel
theorem jQ:bootBuiltins "tuple"=some (.type "tuple"):=by decide +kernel
theorem vr:bootBuiltins "list"=some (.type "list"):=by decide +kernel
theorem iE:bootBuiltins "sorted"=some (.builtin "sorted"):=by decide +kernel
theorem xQ:bootBuiltins "any"=some (.builtin "any"):=by decide +kernel
theorem xR:bootBuiltins "all"=some (.builtin "all"):=by decide +kernel
theorem xS:bootBuiltins "max"=some (.builtin "max"):=by decide +kernel
theorem xT:bootBuiltins "min"=some (.builtin "min"):=by decide +kernel
theorem xU:bootBuiltins "int"=some (.type "int"):=by decide +kernel
theorem vt:bootBuiltins "bool"=some (.type "bool"):=by decide +kernel
theorem sN:bootBuiltins "set"=some (.type "set"):=by decide +kernel
theorem kC:bootBuiltins "isinstance"=some (.builtin "isinstance"):=by decide +kernel
section
variable {X:Cx}{T:Tab}{k:Nat}{cal:Cal}
theorem xV {f:Blt}{c:String}{m:ME}{e:Expr}{t:Str}{p p2 pos:Pos} (g:Gf X T k cal) (hf:b0 f=some c) (hg:glB X.env.scope "isinstance"=true) (ht:t=(c:Str)) (hgt:glB X.env.scope t=true)
  (hbt:bootBuiltins c=some (.type c)) (hmt:X.mg c=none) (hn:(c:Str) ≠ "__name__") (hd:((c:Str) == ("__debug__":Str))=false) (h:PE X e (tE X.K cal m)) (hs:ak e=true):PE X (.Call (.Name "isinstance" p) [e,.Name t p2] [] pos) (tE X.K cal (.blt f [m])):=by
 subst ht
 refine (cw (xJ hf) (cR hg) (g.blt "isinstance" (by decide)) kC (aG h (aG (oE (v:=.ty c) (cR hgt) hmt hbt rfl hn hd) a_ rfl) (br hs _ _)) (by decide) (by decide) (br hs _ _) rfl).imp λσ H Q q=>?_
 obtain ⟨B,O₀,O,ρ,v,st,e1,q⟩:=q
 rw [ev,Option.bind_eq_some_iff] at e1
 obtain ⟨vs,e1,e2⟩:=e1
 obtain ⟨w,rfl,e3⟩:=qB e1
 have e5:isD w=false/\v=.bl (isT f w):=by
  cases hd:isD w with
  | true=>cases f <;> simp only [b0,reduceCtorEq] at hf <;> (simp only [aq,bZ,fY,fX,fz,hd] at e2;cases e2)
  | false=>cases f <;> simp only [b0,reduceCtorEq] at hf <;> (simp only [aq,bZ,fY,fX,fz,hd,Bool.false_eq_true,if_false,Option.some.injEq] at e2;exact ⟨rfl,e2.symm⟩)
 obtain ⟨e5,rfl⟩:=e5
 refine ⟨B,O₀,O,ρ,w,st,e3,λu H1 s1 g1=>⟨O,w,u,rfl,e5,g1.1,q _ H1 s1 (.of (dP _ _))⟩⟩
theorem m9 {m:ME}{e:Expr}{x y:Str}{p p2 pos pos2:Pos} (g:Gf X T k cal) (hx:x=("sorted":Str)) (hy:y=("set":Str)) (hg:glB X.env.scope x=true) (hg2:glB X.env.scope y=true) (h:PE X e (tE X.K cal m)) (hs:ak e=true):PE X (.Call (.Name x p) [.Call (.Name y p2) [e] [] pos2] [] pos) (tF X.K cal (.blt .sortedSet [m])):=by
 subst hx hy
 refine (cw (m6 g.calm) (cR hg) (g.blt "sorted" (by decide)) iE (aG (eI (wf g.calm) (cR hg2) (g.blt "set" (by decide)) sN (aG h a_ (br hs _ _)) (by decide) (by decide) (br hs _ _) rfl) a_ rfl) (by decide) (by decide) rfl rfl).imp λσ H Q q=>?_
 obtain ⟨B,O₀,O,ρ,xs,st,e1,q⟩:=q
 rw [ev,Option.bind_eq_some_iff] at e1
 obtain ⟨vs,e1,e2⟩:=e1
 obtain ⟨w,rfl,e3⟩:=qB e1
 simp only [aq,bZ,fY,fX,fz,Option.bind_eq_some_iff] at e2
 obtain ⟨ys,e4,ns,e5,e6⟩:=e2
 split at e6
 ·rename_i hc
  cases e6
  refine ⟨B,O₀,O,ρ,w,st,e3,λu H1 s1 g1=>⟨O,w,u,ns,rfl,g1.1,by simp [e4,e5],hc.1,λl hl=>⟨l,_,rfl,aB,?_,λp' hp'=>?_⟩⟩⟩
  ·rw [sC];exact hc.2
  ·rw [vj]
   refine q p' _ _ ((s1.trans (aC hl _)).trans (aC hp' _)) (s1.free ((aC hl _).free hp')) aB (.of_ints _)
 ·cases e6
theorem xW {i:Nat}{y:Str}{p yp pos:Pos} (g:Gf X T k cal) (hg:glB X.env.scope ("len":Str)=true) (hn:aD X.N X.env.scope i y=true):PE X (.Call (.Name ("len":Str) p) [.Name y yp] [] pos) (tE X.K cal (.lenL i)):=by
 refine (cw cV (cR hg) (g.blt "len" (by decide)) jP (aG (bT hn) a_ rfl) (by decide) (by decide) rfl rfl).imp λσ H Q q=>?_
 obtain ⟨B,O₀,O,ρ,v,st,e1,q⟩:=q
 rw [ev] at e1
 cases hj:(ρ[i]?).join with
 | none=>rw [hj] at e1;cases e1
 | some m =>
  rw [hj] at e1
  cases m with
  | ownL xss =>
   cases e1
   obtain ⟨u,eu,a,bs,rfl,ha,r,_⟩:=bU st hj
   refine ⟨_,eu,a,bs.map .ref,rfl,.inl (SqL.of ha),?_⟩
   rw [List.length_map,<- r.len]
   exact q _ H (ag.refl H) (.of (bS _ _))
  | _=>cases e1
theorem xX {i:Nat}{mk:ME}{y:Str}{s:Expr}{p yp sp pos:Pos} (g:Gf X T k cal) (hg:glB X.env.scope ("len":Str)=true) (hn:aD X.N X.env.scope i y=true) (hk:PE X s (tE X.K cal mk)) (hs:bN s=true):PE X (.Call (.Name ("len":Str) p) [.Subscript (.Name y yp) s sp] [] pos) (tE X.K cal (.lenI i mk)):=by
 refine (cw cV (cR hg) (g.blt "len" (by decide)) jP (aG (rk lB (bT hn) hk (gz hs)) a_ rfl) (by decide) (by decide) rfl rfl).imp λσ H Q q=>?_
 obtain ⟨B,O₀,O,ρ,v,st,e1,q⟩:=q
 rw [ev,Option.bind_eq_some_iff] at e1
 obtain ⟨kv,ek,e1⟩:=e1
 cases hj:(ρ[i]?).join with
 | none=>rw [hj] at e1;cases kv <;> cases e1
 | some m =>
  rw [hj] at e1
  cases m with
  | ownL xss =>
   cases kv with
   | int j =>
    simp only [r9,Option.bind_eq_some_iff,Option.map_eq_some_iff] at e1
    obtain ⟨pl,f1,xs,f2,rfl⟩:=e1
    obtain ⟨u,eu,a,bs,rfl,ha,r,_⟩:=bU st hj
    obtain ⟨b,us,c1,c2,c3,_⟩:=r.get f2
    refine ⟨_,eu,B,O₀,O,ρ,_,st,ek,λuk H1 s1 g1=>?_⟩
    have e4:=g1.1.int
    subst e4
    refine ⟨a,bs.map .ref,j,.ref b,rfl,rfl,SqL.of (s1 _ _ ha),?_,b,us,rfl,.inl (SqL.of (s1 _ _ c2)),?_⟩
    ·unfold atI
     rw [List.length_map,<- r.len,<- gX,f1,Option.bind_some,List.getElem?_map,c1]
     rfl
    ·rw [<- c3.length]
     exact q _ H1 s1 (.of (bS _ _))
   | _=>cases e1
  | _=>cases kv <;> cases e1
theorem sO {m:ME}{e:Expr}{x y:Str}{p p2 pos pos2:Pos} (g:Gf X T k cal) (hx:x=("len":Str)) (hy:y=("set":Str)) (hg:glB X.env.scope x=true) (hg2:glB X.env.scope y=true) (h:PE X e (tE X.K cal m)) (hs:ak e=true):PE X (.Call (.Name x p) [.Call (.Name y p2) [e] [] pos2] [] pos) (tE X.K cal (.blt .lenSet [m])):=by
 subst hx hy
 refine (cw lO (cR hg) (g.blt "len" (by decide)) jP (aG (eI (wf g.calm) (cR hg2) (g.blt "set" (by decide)) sN (aG h a_ (br hs _ _)) (by decide) (by decide) (br hs _ _) rfl) a_ rfl) (by decide) (by decide) rfl rfl).imp λσ H Q q=>?_
 obtain ⟨B,O₀,O,ρ,v,st,e1,q⟩:=q
 rw [ev,Option.bind_eq_some_iff] at e1
 obtain ⟨vs,e1,e2⟩:=e1
 obtain ⟨w,rfl,e3⟩:=qB e1
 simp only [aq,bZ,fY,fX,fz,Option.bind_eq_some_iff] at e2
 obtain ⟨ys,e4,ns,e5,e6⟩:=e2
 split at e6
 ·rename_i hc
  cases e6
  refine ⟨B,O₀,O,ρ,w,st,e3,λu H1 s1 g1=>⟨O,w,u,ns,rfl,g1.1,by simp [e4,e5],hc,λl hl=>⟨l,_,rfl,aB,?_⟩⟩⟩
  rw [sC]
  exact q _ _ (s1.trans (aC hl _)) (.of (bS _ _))
 ·cases e6
end
section
variable {X:Cx}{T:Tab}{k:Nat}{cal:Cal}
theorem m_ {k':Sk}{src:List ME}{js:List Nat}{cond elt:ME}:∀ ρ v,ev cal (.comp k' src js cond elt) ρ=some v->∃ xs,v=.lst xs:=λρ v hv=>by
 rw [ev,Option.bind_eq_some_iff] at hv
 obtain ⟨vs,_,hv⟩:=hv
 rw [Option.bind_eq_some_iff] at hv
 obtain ⟨xs,_,hv⟩:=hv
 split at hv
 ·simp only [Option.map_eq_some_iff] at hv
  obtain ⟨ys,_,rfl⟩:=hv
  exact ⟨_,rfl⟩
 ·cases hv
theorem d6 {f:Blt} (hf:f=.listOf \/ f=.sorted \/ f=.sortedSet \/ f=.sortedKeys \/ f=.valuesOf) {ms:List ME}:∀ ρ v,ev cal (.blt f ms) ρ=some v->∃ xs,v=.lst xs:=λρ v hv=>by
 rw [ev,Option.bind_eq_some_iff] at hv
 obtain ⟨vs,_,hv⟩:=hv
 rcases hf with rfl|rfl|rfl|rfl|rfl
 ·obtain ⟨x,rfl⟩:=dQ hv (.inl rfl)
  simp only [aq,bZ,fY,fX,fz,Option.map_eq_some_iff] at hv
  obtain ⟨ys,_,rfl⟩:=hv
  exact ⟨_,rfl⟩
 ·obtain ⟨x,rfl⟩:=dQ hv (.inl rfl)
  simp only [aq,bZ,fY,fX,fz,Option.bind_eq_some_iff] at hv
  obtain ⟨ys,_,hv⟩:=hv
  unfold eB at hv
  split at hv
  ·split at hv
   ·cases hv;exact ⟨_,rfl⟩
   ·simp only [Option.map_eq_some_iff] at hv
    obtain ⟨ts,_,rfl⟩:=hv
    exact ⟨_,rfl⟩
  ·cases hv
 ·obtain ⟨x,rfl⟩:=dQ hv (.inr (.inr (.inl rfl)))
  simp only [aq,bZ,fY,fX,fz,Option.bind_eq_some_iff] at hv
  obtain ⟨ys,_,ns,_,hv⟩:=hv
  split at hv
  ·cases hv;exact ⟨_,rfl⟩
  ·cases hv
 ·obtain ⟨x,rfl⟩:=dQ hv (.inl rfl)
  simp only [aq,bZ] at hv
  split at hv
  ·split at hv
   ·cases hv;exact ⟨_,rfl⟩
   ·cases hv
  ·cases hv
 ·obtain ⟨x,rfl⟩:=dQ hv (.inr (.inr (.inr (.inr rfl))))
  simp only [aq,bZ] at hv
  split at hv
  ·split at hv
   ·cases hv;exact ⟨_,rfl⟩
   ·cases hv
  ·cases hv
theorem nY {ifs:List Expr}{cond:ME}{f:Expr->Bool} (h:jI f cond ifs=true) (hc:∀ c,f c=true->PT X c (tT X.K cal cond)):PF X ifs (tT X.K cal cond):=by
 match ifs,h with
 | [],h =>
  have e:cond=.cst (.bl true):=by
   simp only [jI] at h
   split at h
   ·rfl
   ·cases h
  subst e
  intro pins s σ H Q I q
  obtain ⟨B,O₀,O,ρ,b,st,e1,q⟩:=q
  simp only [evB,ev,Option.bind_some,aL,Option.some.injEq] at e1
  subst e1
  exact rM pins s σ H Q I (q H (ag.refl H))
 | [c],h=>exact xa (hc c h)
theorem jR {k':Sk}{src:List ME}{it tg:Expr}{tup:Bool} (htg:tup=true->∃ ts j tp,tg=.Tuple ts j tp) (g:Gf X T k cal) (h:fB X.env.scope tup (λxs=>chks T src X.N X.env.scope xs) k' it=true) (hs:∀ xs,chks T src X.N X.env.scope xs=true->PA X xs (tEs X.K cal src)/\xs.all ak=true/\src.length=xs.length)
  (h1:∀ m x,src=[m]->chks T src X.N X.env.scope [x]=true->PE X x (tE X.K cal m)):PI X tg it (tW X.K cal k' src)/\eU it=true:=by
 cases k' with
 | seq =>
  simp only [fB,Bool.and_eq_true] at h
  refine ⟨?_,h.1⟩
  obtain ⟨_,_,hl⟩:=hs _ h.2
  match src,hl,h1,h with
  | [m],_,h1,h =>
   cases hb:aF m with
   | false=>exact zN hb (h1 m it rfl h.2)
   | true =>
    cases m <;> simp [aF] at hb
    have q:=h.2
    simp only [chks,Bool.and_eq_true] at q
    have q1:=q.1.1
    cases it <;> simp only [b9,b_,cb,bt,ce,cf,cg,ci,dB,cj,cm,aQ,cq,cr,cu,aR,cv,bu,aM,Bool.false_eq_true] at q1
    exact zO q1
 | rng =>
  cases it with
  | Call fn args kws pos =>
   cases fn with
   | Name x p =>
    cases kws with
    | nil =>
     simp only [fB,Bool.and_eq_true,beq_iff_eq,Bool.or_eq_true] at h
     obtain ⟨⟨⟨hx,hg⟩,ha⟩,hn⟩:=h
     obtain ⟨q,hst,hl⟩:=hs _ ha
     exact ⟨vn g hx hg q hn hst hl,rfl⟩
    | cons _ _=>simp [fB] at h
   | _=>simp [fB] at h
  | _=>simp [fB] at h
 | enm=>cases it <;> simp [fB] at h
 | rev=>cases it <;> simp [fB] at h
theorem sP (K:PySem.W.Frag) (F:Hp) (s:Sc):Rep K F s.pv s.v:=by cases s <;> simp only [Sc.pv,Sc.v,Rep]
theorem base_of {o:Expr}{n:Str} (hb:se o=true):attributeBase o n X.env (eval o X.env)=eval o X.env:=by
 cases o <;> first|rfl|(simp [se] at hb;done)|skip
 rename_i fn args kws pos
 cases args with
 | nil=>simp [se] at hb
 | cons _ _=>cases fn <;> rfl
theorem pG (K:PySem.W.Frag) (F:Hp):∀ ss:List Sc,Reps K F (ss.map Sc.pv) (ss.map Sc.v)
 | []=>rfl
 | s::ss=>⟨_,_,rfl,sP K F s,pG K F ss⟩
theorem ng {b:Blt}{es:List ME}{x:Str}{args:List Expr}{p pos:Pos} (g:Gf X T k cal) (hx:x=(kY b:Str)) (hg:glB X.env.scope x=true) (ha:cJ X.env.scope (λxs=>chks T es X.N X.env.scope xs) es.length b args=true)
  (hs:∀ xs,chks T es X.N X.env.scope xs=true->PA X xs (tEs X.K cal es)/\xs.all ak=true/\es.length=xs.length)
  (h1:∀ m x,es=[m]->chks T es X.N X.env.scope [x]=true->PE X x (tE X.K cal m))
  (hh2:∀ m m' x x',es=[m,m']->chks T es X.N X.env.scope [x,x']=true->PE X x (tE X.K cal m)/\PE X x' (tE X.K cal m')) :
  (bF (.blt b es)=true->PE X (.Call (.Name x p) args [] pos) (tF X.K cal (.blt b es)))/\PE X (.Call (.Name x p) args [] pos) (tE X.K cal (.blt b es)):=by
 have inst:∀ c,b0 b=some c->kY b="isinstance"->bootBuiltins c=some (.type c)->X.mg c=none->(c:Str) ≠ "__name__"->((c:Str) == ("__debug__":Str))=false->cJ X.env.scope (λxs=>chks T es X.N X.env.scope xs) es.length b args=jH X.env.scope (λxs=>chks T es X.N X.env.scope xs) es.length c args ->
   PE X (.Call (.Name x p) args [] pos) (tE X.K cal (.blt b es)):=λc hc hb hbt hm hn hd e=>by
  rw [e] at ha
  unfold jH at ha
  split at ha
  ·rename_i y t p2
   simp only [Bool.and_eq_true,beq_iff_eq] at ha
   obtain ⟨⟨⟨h2,h3⟩,h4⟩,h5⟩:=ha
   obtain ⟨_,hst,_⟩:=hs _ h4
   match es,h5,h1,h4 with
   | [m],_,h1,h4 =>
    rw [hx,hb] at hg ⊢
    exact xV g hc hg h2 h3 hbt hm hn hd (h1 m y rfl h4) (by simpa using hst)
  ·cases ha
 have plain:∀ n,b0 b=none->dF b=some n->0 < n->cJ X.env.scope (λxs=>chks T es X.N X.env.scope xs) es.length b args=(dF b == some es.length&&chks T es X.N X.env.scope args) ->
   ∃ e r,args=e::r/\PA X (e::r) (tEs X.K cal es)/\(e::r).all ak=true:=λn _ hn hpos eq=>by
  rw [eq,hn] at ha
  simp only [Bool.and_eq_true,beq_iff_eq,Option.some.injEq] at ha
  obtain ⟨q1,q2,q3⟩:=hs _ ha.2
  cases args with
  | nil=>rw [<- ha.1] at q3;simp at q3;omega
  | cons e r=>exact ⟨e,r,rfl,q1,q2⟩
 cases b with
 | len =>
  obtain ⟨e,r,rfl,q1,q2⟩:=plain 1 rfl rfl (by decide) rfl
  subst hx
  exact ⟨λz=>(by simp [bF] at z),m8 zK hg (g.blt "len" (by decide)) jP (by decide) (by decide) q1 q2⟩
 | tupleOf =>
  obtain ⟨e,r,rfl,q1,q2⟩:=plain 1 rfl rfl (by decide) rfl
  subst hx
  exact ⟨λz=>(by simp [bF] at z),xN vk hg (g.blt "tuple" (by decide)) jQ (by decide) (by decide) q1 q2⟩
 | listOf =>
  obtain ⟨e,r,rfl,q1,q2⟩:=plain 1 rfl rfl (by decide) rfl
  subst hx
  have q:=vq (p:=p) (pos:=pos) xG hg (g.blt "list" (by decide)) vr (by decide) (by decide) q1 q2
  exact ⟨λ_=>q,eO (d6 (.inl rfl)) q⟩
 | sorted =>
  obtain ⟨e,r,rfl,q1,q2⟩:=plain 1 rfl rfl (by decide) rfl
  subst hx
  have q:=xO (p:=p) (pos:=pos) (sD g) hg (g.blt "sorted" (by decide)) iE (by decide) (by decide) q1 q2
  exact ⟨λ_=>q,eO (d6 (.inr (.inl rfl))) q⟩
 | any =>
  obtain ⟨e,r,rfl,q1,q2⟩:=plain 1 rfl rfl (by decide) rfl
  subst hx
  exact ⟨λz=>(by simp [bF] at z),m8 (zL g.calm) hg (g.blt "any" (by decide)) xQ (by decide) (by decide) q1 q2⟩
 | all =>
  obtain ⟨e,r,rfl,q1,q2⟩:=plain 1 rfl rfl (by decide) rfl
  subst hx
  exact ⟨λz=>(by simp [bF] at z),m8 (zM g.calm) hg (g.blt "all" (by decide)) xR (by decide) (by decide) q1 q2⟩
 | intOf=>exact absurd ha Bool.false_ne_true
 | boolOf=>exact absurd ha Bool.false_ne_true
 | max2 =>
  obtain ⟨e,r,rfl,q1,q2⟩:=plain 2 rfl rfl (by decide) rfl
  subst hx
  exact ⟨λz=>(by simp [bF] at z),m8 (xH g.calm) hg (g.blt "max" (by decide)) xS (by decide) (by decide) q1 q2⟩
 | min2 =>
  obtain ⟨e,r,rfl,q1,q2⟩:=plain 2 rfl rfl (by decide) rfl
  subst hx
  exact ⟨λz=>(by simp [bF] at z),m8 (xI g.calm) hg (g.blt "min" (by decide)) xT (by decide) (by decide) q1 q2⟩
 | isInt=>exact ⟨λz=>(by simp [bF] at z),inst "int" rfl rfl xU (g.blt "int" (by decide)) (by decide) (by decide) rfl⟩
 | isBool=>exact ⟨λz=>(by simp [bF] at z),inst "bool" rfl rfl vt (g.blt "bool" (by decide)) (by decide) (by decide) rfl⟩
 | isStr=>exact absurd ha Bool.false_ne_true
 | isList=>exact absurd ha Bool.false_ne_true
 | isTuple=>exact ⟨λz=>(by simp [bF] at z),inst "tuple" rfl rfl jQ (g.blt "tuple" (by decide)) (by decide) (by decide) rfl⟩
 | sortedSet =>
  simp only [cJ] at ha
  split at ha
  ·rename_i gg p2 y pos2
   simp only [Bool.and_eq_true,beq_iff_eq] at ha
   obtain ⟨⟨⟨h2,h3⟩,h4⟩,h5⟩:=ha
   obtain ⟨_,hst,_⟩:=hs _ h4
   match es,h5,h1,h4 with
   | [m],_,h1,h4 =>
    have q:=m9 (p:=p) (p2:=p2) (pos:=pos) (pos2:=pos2) g hx h2 hg h3 (h1 m y rfl h4) (by simpa using hst)
    exact ⟨λ_=>q,eO (d6 (.inr (.inr (.inl rfl)))) q⟩
  ·cases ha
 | sum=>exact absurd ha Bool.false_ne_true
 | max1=>exact absurd ha Bool.false_ne_true
 | sortedKeys=>exact absurd ha Bool.false_ne_true
 | valuesOf=>exact absurd ha Bool.false_ne_true
 | min1=>simp [cJ,b0,dF] at ha
 | tupleRev=>simp [cJ] at ha
 | lenSet =>
  simp only [cJ] at ha
  split at ha
  ·rename_i gg p2 y pos2
   simp only [Bool.and_eq_true,beq_iff_eq] at ha
   obtain ⟨⟨⟨h2,h3⟩,h4⟩,h5⟩:=ha
   obtain ⟨_,hst,_⟩:=hs _ h4
   match es,h5,h1,h4 with
   | [m],_,h1,h4=>exact ⟨λz=>(by simp [bF] at z),sO g hx h2 hg h3 (h1 m y rfl h4) (by simpa using hst)⟩
  ·cases ha
 | lenSetSub=>simp [cJ] at ha
end
section
variable {X:Cx}{T:Tab}{k:Nat}{cal:Cal}
end
mutual
theorem aj {T:Tab}{k:Nat}{cal:Cal}:∀ (me:ME) {X:Cx}{e:Expr},Gf X T k cal->chk T me X.N X.env.scope e=true->PE X e (tE X.K cal me)/\PT X e (tT X.K cal me)
  | .var i,X,e,g,h=>by
    cases e <;> simp only [b9,b_,cb,bt,ce,cf,cg,ci,dB,cj,cm,aQ,cq,cr,cu,aR,cv,bu,aM,Bool.false_eq_true] at h
    exact ⟨wc h,bi (wc h) rfl⟩
  | .bor i,X,e,g,h=>by
    cases e <;> simp only [b9,b_,cb,bt,ce,cf,cg,ci,dB,cj,cm,aQ,cq,cr,cu,aR,cv,bu,aM,Bool.false_eq_true] at h
    exact ⟨wd h,bi (wd h) rfl⟩
  | .cst v,X,e,g,h=>by
    cases e <;> simp only [b9,b_,cb,bt,ce,cf,cg,ci,dB,cj,cm,aQ,cq,cr,cu,aR,cv,bu,aM,Bool.false_eq_true] at h
    exact ⟨we h,bi (we h) rfl⟩
  | .glob x v,X,e,g,h=>by
    cases e <;> try (simp only [b9,b_,cb,bt,ce,cf,cg,ci,dB,cj,cm,aQ,cq,cr,cu,aR,cv,bu,aM,Bool.false_eq_true] at h;done)
    exact ⟨sB g h,bi (sB g h) rfl⟩
  | .bin op a b,X,e,g,h=>by
    cases e <;> simp only [b9,b_,cb,bt,ce,cf,cg,ci,dB,cj,cm,aQ,cq,cr,cu,aR,cv,bu,aM,Bool.false_eq_true,Bool.and_eq_true,beq_iff_eq] at h
    obtain ⟨⟨rfl,h1⟩,h2⟩:=h
    have p:=λ(pos:Pos)=>zP (op:=op) (pos:=pos) (aj a g h1).1 (aj b g h2).1
    exact ⟨p _,bi (p _) rfl⟩
  | .neg _,X,e,g,h=>absurd (show false=true from h) Bool.false_ne_true
  | .not a,X,e,g,h=>by
    cases e with
    | UnaryOp op x pos =>
      cases op <;> simp only [b9,b_,cb,bt,ce,cf,cg,ci,dB,cj,cm,aQ,cq,cr,cu,aR,cv,bu,aM,Bool.false_eq_true] at h
      exact ⟨zQ (aj a g h).1,zR (aj a g h).2⟩
    | _=>cases (show false=true from h)
  | .and a b,X,e,g,h=>by
    cases e with
    | BoolOp op vs pos =>
      cases op with
      | Or=>cases (show false=true from h)
      | And =>
        match vs,h with
        | [],h=>cases (show false=true from h)
        | [x],h=>cases (show false=true from h)
        | [x,y],h =>
          have h:(chk T a X.N X.env.scope x&&chk T b X.N X.env.scope y)=true:=h
          simp only [Bool.and_eq_true] at h
          exact ⟨wg (aj a g h.1).1 (qV (aj b g h.2).1),wk (aj a g h.1).2 (ut (aj b g h.2).2)⟩
        | x::y::z::r,h =>
          have h:(chk T a X.N X.env.scope x&&chk T b X.N X.env.scope (.BoolOp .And (y::z::r) pos))=true:=h
          simp only [Bool.and_eq_true] at h
          exact ⟨wg (aj a g h.1).1 (aj b g h.2).1,wk (aj a g h.1).2 (wj (aj b g h.2).2)⟩
    | _=>cases (show false=true from h)
  | .or a b,X,e,g,h=>by
    cases e with
    | BoolOp op vs pos =>
      cases op with
      | And=>cases (show false=true from h)
      | Or =>
        match vs,h with
        | [],h=>cases (show false=true from h)
        | [x],h=>cases (show false=true from h)
        | [x,y],h =>
          have h:(chk T a X.N X.env.scope x&&chk T b X.N X.env.scope y)=true:=h
          simp only [Bool.and_eq_true] at h
          exact ⟨zS (aj a g h.1).1 (qV (aj b g h.2).1),zT (aj a g h.1).2 (wD (aj b g h.2).2)⟩
        | x::y::z::r,h =>
          have h:(chk T a X.N X.env.scope x&&chk T b X.N X.env.scope (.BoolOp .Or (y::z::r) pos))=true:=h
          simp only [Bool.and_eq_true] at h
          exact ⟨zS (aj a g h.1).1 (aj b g h.2).1,zT (aj a g h.1).2 (wj (aj b g h.2).2)⟩
    | _=>cases (show false=true from h)
  | .ite c a b,X,e,g,h=>by
    cases e <;> simp only [b9,b_,cb,bt,ce,cf,cg,ci,dB,cj,cm,aQ,cq,cr,cu,aR,cv,bu,aM,Bool.false_eq_true,Bool.and_eq_true,Bool.not_eq_true'] at h
    obtain ⟨⟨⟨⟨h1,h2⟩,h3⟩,h4⟩,h5⟩:=h
    exact ⟨zU (aj c g h1).2 (aj a g h2).1 (aj b g h3).1 h4 h5,zV (aj c g h1).2 (aj a g h2).2 (aj b g h3).2⟩
  | .cmp op a b,X,e,g,h=>by
    cases e with
    | Compare l ops rs pos =>
      match ops,rs,h with
      | [o],[r],h =>
        simp only [b9,b_,cb,bt,ce,cf,cg,ci,dB,cj,cm,aQ,cq,cr,cu,aR,cv,bu,aM,Bool.and_eq_true,beq_iff_eq,Bool.not_eq_true'] at h
        obtain ⟨⟨⟨rfl,h1⟩,h2⟩,h3⟩:=h
        exact zW g (aj a g h1).1 (aj b g h2).1 h3
      | [],_,h=>cases (show false=true from h)
      | [_],[],h=>cases (show false=true from h)
      | [_],_::_::_,h=>cases (show false=true from h)
      | _::_::_,_,h=>cases (show false=true from h)
    | _=>cases (show false=true from h)
  | .chain _ _ _ _ _,X,e,g,h=>absurd (show false=true from h) Bool.false_ne_true
  | .tup es,X,e,g,h=>by
    cases e <;> simp only [b9,b_,cb,bt,ce,cf,cg,ci,dB,cj,cm,aQ,cq,cr,cu,aR,cv,bu,aM,Bool.false_eq_true,Bool.and_eq_true] at h
    have p:=λ(j:Nat) (pos:Pos)=>zX (j:=j) (pos:=pos) (sounds es g h.1) h.2
    exact ⟨p _ _,bi (p _ _) rfl⟩
  | .lst es,X,e,g,h=>by
    cases e <;> simp only [b9,b_,cb,bt,ce,cf,cg,ci,dB,cj,cm,aQ,cq,cr,cu,aR,cv,bu,aM,Bool.false_eq_true,Bool.and_eq_true] at h
    have p:=λ(pos:Pos)=>eO (λρ v hv=>by
      rw [ev,Option.bind_eq_some_iff] at hv
      obtain ⟨vs,_,hv⟩:=hv
      split at hv
      · cases hv;exact ⟨_,rfl⟩
      · cases hv) (wl (pos:=pos) (sounds es g h.1) h.2)
    exact ⟨p _,bi (p _) rfl⟩
  | .idx a i,X,e,g,h=>by
    cases e with
    | Subscript v s pos =>
      cases s <;> first
        | (simp only [b9,b_,cb,bt,ce,cf,cg,ci,dB,cj,cm,aQ,cq,cr,cu,aR,cv,bu,aM,Bool.and_eq_true,Bool.false_eq_true] at h
           obtain ⟨⟨h1,h2⟩,h3⟩:=h
           have p:=zY (pos:=pos) (aj a g h1).1 (aj i g h2).1 h3
           exact ⟨p,bi p rfl⟩)
        | (simp [b9,b_,cb,bt,ce,cf,cg,ci,dB,cj,cm,aQ,cq,cr,cu,aR,cv,bu,aM,bN] at h)
    | _=>cases (show false=true from h)
  | .slice a lo hi,X,e,g,h=>by
    cases e with
    | Subscript v s pos =>
      cases s with
      | Slice l u st p2 =>
        cases st with
        | none =>
          have h:(chk T a X.N X.env.scope v&&fC (λe=>chk T lo X.N X.env.scope e) (eF lo) l&&fC (λe=>chk T hi X.N X.env.scope e) (eF hi) u)=true:=h
          simp only [Bool.and_eq_true] at h
          obtain ⟨⟨h1,h2⟩,h3⟩:=h
          have q1:PO X l (tB1 X.K cal lo):=by
            cases l with
            | none=>exact sL h2
            | some l =>
              simp only [fC,Bool.and_eq_true,Bool.not_eq_true'] at h2
              exact sM (aj lo g h2.1).1 h2.2
          have q2:PO X u (tB1 X.K cal hi):=by
            cases u with
            | none=>exact sL h3
            | some u =>
              simp only [fC,Bool.and_eq_true,Bool.not_eq_true'] at h3
              exact sM (aj hi g h3.1).1 h3.2
          have p:=vp (p2:=p2) (pos:=pos) (aj a g h1).1 q1 q2
          exact ⟨p,bi p rfl⟩
        | some _=>cases (show false=true from h)
      | _=>cases (show false=true from h)
    | _=>cases (show false=true from h)
  | .blt b es,X,e,g,h=>by
    cases e with
    | Call fn args kws pos =>
      cases fn with
      | Name x p =>
        cases kws with
        | nil =>
          have h:(x == (kY b:Str)&&glB X.env.scope x&&cJ X.env.scope (λxs=>chks T es X.N X.env.scope xs) es.length b args)=true:=h
          simp only [Bool.and_eq_true,beq_iff_eq] at h
          obtain ⟨⟨hx,hg⟩,ha⟩:=h
          have q:=(ng (p:=p) (pos:=pos) g hx hg ha (λxs hxs=>⟨sounds es g hxs,bz hxs⟩) (λm x hm hx=>match es,hm with|[m'],rfl=>(aj m' g (by simp only [chks,Bool.and_eq_true] at hx;exact hx.1.1)).1) (λa b x x' hm hx=>match es,hm with|[m1,m2],rfl=>⟨(aj m1 g (by simp only [chks,Bool.and_eq_true] at hx;exact hx.1.1)).1,(aj m2 g (by simp only [chks,Bool.and_eq_true] at hx;exact hx.2.1.1)).1⟩)).2
          exact ⟨q,bi q rfl⟩
        | cons _ _=>cases (show false=true from h)
      | _=>cases (show false=true from h)
    | _=>cases (show false=true from h)
  | .call f es,X,e,g,h=>by
    cases e with
    | Call fn args kws pos =>
      cases fn with
      | Name x p =>
        cases kws with
        | nil =>
          have h:(T.fs[f]? == some x&&glB X.env.scope x&&ah x&&chks T es X.N X.env.scope args)=true:=h
          simp only [Bool.and_eq_true,beq_iff_eq] at h
          obtain ⟨⟨⟨h1,h2⟩,h3⟩,h4⟩:=h
          obtain ⟨hs,hl⟩:=bz h4
          have q:=xP (p:=p) (pos:=pos) g h1 h2 h3 (soundA es g h4) hs hl
          exact ⟨q,bi q rfl⟩
        | cons _ _=>cases (show false=true from h)
      | _=>cases (show false=true from h)
    | _=>cases (show false=true from h)
  | .callD _ _ _,X,e,g,h=>absurd (show false=true from h) Bool.false_ne_true
  | .lenL i,X,e,g,h=>by
    have h:(match qv e with|some (x,some y,none)=>x == ("len":Str)&&glB X.env.scope x&&aD X.N X.env.scope i y|_=>false)=true:=h
    split at h
    · rename_i x y hl
      rcases pd hl with ⟨p,yp,pos,y',rfl,h1,_⟩|⟨_,_,_,_,_,_,_,_,z⟩
      · cases h1
        obtain ⟨h5,h3⟩:=(iff_of_eq (Bool.and_eq_true _ _)).mp h
        obtain ⟨h4,h2⟩:=(iff_of_eq (Bool.and_eq_true _ _)).mp h5
        have hx:x=("len":Str):=eq_of_beq h4
        subst hx
        have q:PE X (.Call (.Name ("len":Str) p) [.Name y yp] [] pos) (tE X.K cal (.lenL i)):=xW g h2 h3
        exact ⟨q,bi q rfl⟩
      · cases z
    · cases h
  | .lenI i mk,X,e,g,h=>by
    have h:(match qv e with|some (x,some y,some s)=>x == ("len":Str)&&glB X.env.scope x&&aD X.N X.env.scope i y&&chk T mk X.N X.env.scope s&&bN s|_=>false)=true:=h
    split at h
    · rename_i x y s hl
      rcases pd hl with ⟨_,_,_,_,_,_,z⟩|⟨p,yp,sp,pos,y',s',rfl,h1,h0⟩
      · cases z
      · cases h1
        cases h0
        obtain ⟨a1,h5⟩:=(iff_of_eq (Bool.and_eq_true _ _)).mp h
        obtain ⟨a2,h4⟩:=(iff_of_eq (Bool.and_eq_true _ _)).mp a1
        obtain ⟨a3,h3⟩:=(iff_of_eq (Bool.and_eq_true _ _)).mp a2
        obtain ⟨a4,h2⟩:=(iff_of_eq (Bool.and_eq_true _ _)).mp a3
        have hx:x=("len":Str):=eq_of_beq a4
        subst hx
        have q:PE X (.Call (.Name ("len":Str) p) [.Subscript (.Name y yp) s sp] [] pos) (tE X.K cal (.lenI i mk)):=xX g h2 h3 (aj mk g h4).1 h5
        exact ⟨q,bi q rfl⟩
    · cases h
  | .dIn _ _ _,X,e,g,h=>absurd (show false=true from h) Bool.false_ne_true
  | .dat _ _,X,e,g,h=>absurd (show false=true from h) Bool.false_ne_true
  | .dget _ _ _,X,e,g,h=>absurd (show false=true from h) Bool.false_ne_true
  | .comp k' src js cond elt,X,e,g,h=>by
    cases e with
    | ListComp e gens scope pos =>
      match gens,h with
      | [],h=>cases (show false=true from h)
      | ⟨tg,it,ifs,as⟩::[],h =>
        cases tg with
        | Name x px =>
          by_cases has:as=0
          · subst has
            have h:(dj X.env.scope X.N scope x (bD X.N js) js&&fB X.env.scope false (λxs=>chks T src X.N X.env.scope xs) k' it&&jI (λc=>chk T cond (x::bD X.N js) (fW scope X.env.scope) c) cond ifs&&chk T elt (x::bD X.N js) (fW scope X.env.scope) e&&!aF elt)=true:=h
            simp only [Bool.and_eq_true,Bool.not_eq_true'] at h
            obtain ⟨⟨⟨⟨h1,h2⟩,h3⟩,h4⟩,h5⟩:=h
            have hw:=jR (tg:=.Name x px) (λz=>by cases z) g h2 (λxs hxs=>⟨sounds src g hxs,bz hxs⟩) (λm x hm hx=>match src,hm with|[m'],rfl=>(aj m' g (by simp only [chks,Bool.and_eq_true] at hx;exact hx.1.1)).1)
            have q:=eO m_ (nX (pos:=pos) g h1 hw.1 hw.2 (λs₁ H₁ C fp=>nY h3 λc hc=>(aj cond (g.blk x (bD X.N js) scope s₁ H₁ C fp) hc).2) (λs₁ H₁ C fp=>(aj elt (g.blk x (bD X.N js) scope s₁ H₁ C fp) h4).1) h5)
            exact ⟨q,bi q rfl⟩
          · exact absurd h (by
              have:chk T (.comp k' src js cond elt) X.N X.env.scope (.ListComp e [⟨.Name x px,it,ifs,as⟩] scope pos)=false:=by
                rw [aM]
                split <;> first|rfl|(rename_i z;simp_all)
              rw [this];exact Bool.false_ne_true)
        | _=>cases (show false=true from h)
      | _::_::_,h=>simp [aM] at h
    | _=>cases (show false=true from h)
theorem sounds {T:Tab}{k:Nat}{cal:Cal}:∀ (ms:List ME) {X:Cx}{es:List Expr},Gf X T k cal->chks T ms X.N X.env.scope es=true->PA X es (tEs X.K cal ms)
 | [],X,es,g,h=>by
  cases es with
  | nil=>exact vo
  | cons _ _=>simp [chks] at h
 | m::ms,X,es,g,h=>by
  cases es with
  | nil=>simp [chks] at h
  | cons e es =>
   simp only [chks,Bool.and_eq_true] at h
   exact sH (aj m g h.1.1).1 (sounds ms g h.2) h.1.2
theorem soundA {T:Tab}{k:Nat}{cal:Cal}:∀ (ms:List ME) {X:Cx}{es:List Expr},Gf X T k cal->chks T ms X.N X.env.scope es=true->PA X es (tAs X.K cal ms)
 | [],X,es,g,h=>by
  cases es with
  | nil=>exact sI
  | cons _ _=>simp [chks] at h
 | m::ms,X,es,g,h=>by
  cases es with
  | nil=>simp [chks] at h
  | cons e es =>
   simp only [chks,Bool.and_eq_true] at h
   have hs:=soundA ms g h.2
   cases hb:aF m with
   | false=>exact qC hb (aj m g h.1.1).1 hs h.1.2
   | true =>
    cases m <;> simp [aF] at hb
    have h1:=h.1.1
    cases e <;> simp only [b9,b_,cb,bt,ce,cf,cg,ci,dB,cj,cm,aQ,cq,cr,cu,aR,cv,bu,aM,Bool.false_eq_true] at h1
    exact sK h1 hs
end
theorem xY {T:Tab}{k:Nat}{cal:Cal}{me:ME}{X:Cx}{e:Expr} (g:Gf X T k cal) (h:chk T me X.N X.env.scope e=true) (hf:bF me=true):PE X e (tF X.K cal me):=by
 cases me with
 | lst es =>
  cases e <;> simp only [b9,b_,cb,bt,ce,cf,cg,ci,dB,cj,cm,aQ,cq,cr,cu,aR,cv,bu,aM,Bool.false_eq_true,Bool.and_eq_true] at h
  exact wl (sounds es g h.1) h.2
 | blt b es =>
  cases e with
  | Call fn args kws pos =>
   cases fn with
   | Name x p =>
    cases kws with
    | nil =>
     have h:(x == (kY b:Str)&&glB X.env.scope x&&cJ X.env.scope (λxs=>chks T es X.N X.env.scope xs) es.length b args)=true:=h
     simp only [Bool.and_eq_true,beq_iff_eq] at h
     obtain ⟨⟨hx,hg⟩,ha⟩:=h
     exact (ng (p:=p) (pos:=pos) g hx hg ha (λxs hxs=>⟨sounds es g hxs,bz hxs⟩) (λm x hm hx=>match es,hm with|[m'],rfl=>(aj m' g (by simp only [chks,Bool.and_eq_true] at hx;exact hx.1.1)).1) (λa b x x' hm hx=>match es,hm with|[m1,m2],rfl=>⟨(aj m1 g (by simp only [chks,Bool.and_eq_true] at hx;exact hx.1.1)).1,(aj m2 g (by simp only [chks,Bool.and_eq_true] at hx;exact hx.2.1.1)).1⟩)).1 hf
    | cons _ _=>cases (show false=true from h)
   | _=>cases (show false=true from h)
  | _=>cases (show false=true from h)
 | comp k' src js cond elt =>
  cases e with
  | ListComp e gens scope pos =>
   match gens,h with
   | [],h=>cases (show false=true from h)
   | ⟨tg,it,ifs,as⟩::[],h =>
    cases tg with
    | Name x px =>
     by_cases has:as=0
     ·subst has
      have h:(dj X.env.scope X.N scope x (bD X.N js) js&&fB X.env.scope false (λxs=>chks T src X.N X.env.scope xs) k' it&&jI (λc=>chk T cond (x::bD X.N js) (fW scope X.env.scope) c) cond ifs&&chk T elt (x::bD X.N js) (fW scope X.env.scope) e&&!aF elt)=true:=h
      simp only [Bool.and_eq_true,Bool.not_eq_true'] at h
      obtain ⟨⟨⟨⟨h1,h2⟩,h3⟩,h4⟩,h5⟩:=h
      have hw:=jR (tg:=.Name x px) (λz=>by cases z) g h2 (λxs hxs=>⟨sounds src g hxs,bz hxs⟩) (λm x hm hx=>match src,hm with|[m'],rfl=>(aj m' g (by simp only [chks,Bool.and_eq_true] at hx;exact hx.1.1)).1)
      exact nX (pos:=pos) g h1 hw.1 hw.2 (λs₁ H₁ C fp=>nY h3 λc hc=>(aj cond (g.blk x (bD X.N js) scope s₁ H₁ C fp) hc).2) (λs₁ H₁ C fp=>(aj elt (g.blk x (bD X.N js) scope s₁ H₁ C fp) h4).1) h5
     ·exact absurd h (by
       have:chk T (.comp k' src js cond elt) X.N X.env.scope (.ListComp e [⟨.Name x px,it,ifs,as⟩] scope pos)=false:=by
        rw [aM]
        split <;> first|rfl|(rename_i z;simp_all)
       rw [this];exact Bool.false_ne_true)
    | _=>cases (show false=true from h)
   | _::_::_,h=>simp [aM] at h
  | _=>cases (show false=true from h)
 | _=>simp [bF] at hf
end MM
namespace MM
open PySem PySem.Spec PyProof.Rows L2
noncomputable def zZ:MV->Bool
 | .brw _=>true
 | .brwD _=>true
 | _=>false
theorem pH {m:MV} (h1:dO m=true) (h2:zZ m=true):False:=by cases m <;> first|(cases h2;done)|(cases h1;done)
structure aZ (B:Hp) (O O':List Addr) (ρ ρ':Rho) (σ σ':St):Prop where
 stay:∀ a,B a ≠ none->a ∈ O->a ∈ O'
 new:∀ a ∈ O',a ∈ O \/ B a=none
 brw:∀ (i:Nat) (m:MV),zZ m=true->ρ'[i]?=some (some m)->ρ[i]?=some (some m)/\σ'[i]?=σ[i]?
 len:ρ'.length=ρ.length
theorem aZ.refl {B:Hp}{O:List Addr}{ρ:Rho}{σ:St}:aZ B O O ρ ρ σ σ:=⟨λ_ _ h=>h,λ_ h=>.inl h,λ_ _ _ h=>⟨h,rfl⟩,rfl⟩
theorem aZ.trans {B:Hp}{O O1 O2:List Addr}{ρ ρ1 ρ2:Rho}{σ σ1 σ2:St} (a:aZ B O O1 ρ ρ1 σ σ1) (b:aZ B O1 O2 ρ1 ρ2 σ1 σ2):aZ B O O2 ρ ρ2 σ σ2 where
 stay:=λx h1 h2=>b.stay x h1 (a.stay x h1 h2)
 new:=λx h=>(b.new x h).elim (a.new x) .inr
 brw:=λi xs hm h=>by
  obtain ⟨h1,e1⟩:=b.brw i xs hm h
  obtain ⟨h2,e2⟩:=a.brw i xs hm h1
  exact ⟨h2,e1.trans e2⟩
 len:=b.len.trans a.len
noncomputable def dR (K:PySem.W.Frag) (B:Hp) (O₀ O:List Addr) (ρ:Rho) (σ:St) (D:fk):R->Prop
 | .next ρ'=>∀ σ' H' O',aw K B O₀ O' H' ρ' σ'->aZ B O O' ρ ρ' σ σ'->D.nx σ' H'
 | .brk ρ'=>∀ σ' H' O',aw K B O₀ O' H' ρ' σ'->aZ B O O' ρ ρ' σ σ'->D.bk σ' H'
 | .cont ρ'=>∀ σ' H' O',aw K B O₀ O' H' ρ' σ'->aZ B O O' ρ ρ' σ σ'->D.ct σ' H'
 | .ret v=>∀ u H',ag B H'->Rep K (ai H' O₀) v u->D.rt u H'
 | .retF xs=>∀ p us H',ag B H'->B p=none->H' p=some (.lst us)->Reps K (ai H' (p::O₀)) xs us->D.rt (.ref p) H'
 | .bad=>False
theorem dR.trans {K:PySem.W.Frag}{B:Hp}{O₀ O O':List Addr}{ρ ρ':Rho}{σ σ':St}{D:fk}{r:R} (h:dR K B O₀ O ρ σ D r) (k:aZ B O O' ρ ρ' σ σ'):dR K B O₀ O' ρ' σ' D r:=by
 cases r with
 | next ρ2=>exact λσ2 H2 O2 st k2=>h σ2 H2 O2 st (k.trans k2)
 | brk ρ2=>exact λσ2 H2 O2 st k2=>h σ2 H2 O2 st (k.trans k2)
 | cont ρ2=>exact λσ2 H2 O2 st k2=>h σ2 H2 O2 st (k.trans k2)
 | ret v=>exact h
 | bad=>exact h
 | retF xs=>exact h
noncomputable def tS (K:PySem.W.Frag) (cal:Cal) (m:MS):TS:=λD σ H=>∃ B O₀ O ρ,aw K B O₀ O H ρ σ/\dR K B O₀ O ρ σ D (ex cal m ρ)
noncomputable def tSs (K:PySem.W.Frag) (cal:Cal) (ms:List MS):TS:=λD σ H=>∃ B O₀ O ρ,aw K B O₀ O H ρ σ/\dR K B O₀ O ρ σ D (exs cal ms ρ)
section
variable {K:PySem.W.Frag}{B H H':Hp}{O₀ O:List Addr}{ρ:Rho}{σ:St}
theorem ae {i:Nat}{m:MV} (h:i < ρ.length):(put ρ i m)[i]?=some (some m):=by unfold put;exact List.getElem?_set_self h
theorem aa {i j:Nat}{m:MV} (h:i ≠ j):(put ρ i m)[j]?=ρ[j]?:=by unfold put;exact List.getElem?_set_ne h
theorem aS {i:Nat}{m:MV}:(put ρ i m).length=ρ.length:=by unfold put;exact List.length_set
theorem cA.view {O':List Addr} (s:ag H H') (v:ag (ai H O) (ai H' O')) (ho:∀ b ∈ O,b ∈ O') {xss:List (List PV)}{bs:List Addr} (h:cA K H O B xss bs):cA K H' O' B xss bs:=by
 induction h with
 | nil=>exact .nil
 | cons h r o hb t ih=>exact .cons (s _ _ h) (Reps.mono v _ r) (ho _ o) hb ih
theorem cA.upd {a:Addr}{ob:HO} (hid:ai (L2.upd H a ob) O=ai H O) {xss:List (List PV)}{bs:List Addr} (h:cA K H O B xss bs) (hn:∀ b ∈ bs,b ≠ a):cA K (L2.upd H a ob) O B xss bs:=by
 induction h with
 | nil=>exact .nil
 | cons h r o hb t ih=>exact .cons (by rw [au (hn _ (.head _))];exact h) (by rw [hid];exact r) o hb (ih λb hb=>hn b (.tail _ hb))
theorem cA.less {O':List Addr} (v:ag (ai H O) (ai H O')) {xss:List (List PV)}{bs:List Addr} (h:cA K H O B xss bs) (ho:∀ b ∈ bs,b ∈ O->b ∈ O'):cA K H O' B xss bs:=by
 induction h with
 | nil=>exact .nil
 | cons h r o hb t ih=>exact .cons h (Reps.mono v _ r) (ho _ (.head _) o) hb (ih λb hb=>ho b (.tail _ hb))
theorem cA.base {B':Hp}{xss:List (List PV)}{bs:List Addr} (h:cA K H O B xss bs) (hb:∀ b ∈ bs,b ∈ O->B b=none->B' b=none):cA K H O B' xss bs:=by
 induction h with
 | nil=>exact .nil
 | cons h r o hb' t ih=>exact .cons h r o (hb _ (.head _) o hb') (ih λb h=>hb b (.tail _ h))
theorem aw.store (st:aw K B O₀ O H ρ σ) {i:Nat}{v:PV}{u:V} (hi:i < σ.length) (r:Rep K (ai H O) v u):aw K B O₀ O H (put ρ i (.val v)) (σ.set i (some u))/\aZ B O O ρ (put ρ i (.val v)) σ (σ.set i (some u)):=by
 have hi':i < ρ.length:=by rw [st.len];exact hi
 refine ⟨⟨st.keep,st.here,st.sub,st.old,by rw [aS,List.length_set];exact st.len,λj m e=>?_,λa b xs ys ad hab e1 e2 o1 o2 e3 e4=>?_
  ,c7 st.inn (λj xss e=>by
   have hj:i ≠ j:=λz=>by subst z;rw [ae hi'] at e;cases e
   rw [aa hj] at e
   exact ⟨e,List.getElem?_set_ne hj,λ_ _ _ h=>h⟩) λj m c e _ o es=>.inl (by
   have hj:i ≠ j:=λz=>by subst z;rw [ae hi'] at e;cases e;cases o
   rw [aa hj] at e
   rw [List.getElem?_set_ne hj] at es
   exact ⟨m,e,o,es⟩)
  ⟩,⟨λ_ _ h=>h,λ_ h=>.inl h,λj xs hbm e=>?_,aS
  ⟩⟩
 ·by_cases hj:i=j
  ·subst hj
   rw [ae hi'] at e
   cases e
   exact ⟨u,List.getElem?_set_self hi,r⟩
  ·rw [aa hj] at e
   obtain ⟨w,e1,q⟩:=st.slot j m e
   exact ⟨w,by rw [List.getElem?_set_ne hj];exact e1,q⟩
 ·have h1:i ≠ a:=λz=>by subst z;rw [ae hi'] at e1;cases e1;cases o1
  have h2:i ≠ b:=λz=>by subst z;rw [ae hi'] at e2;cases e2;cases o2
  rw [aa h1] at e1
  rw [aa h2] at e2
  rw [List.getElem?_set_ne h1] at e3
  rw [List.getElem?_set_ne h2] at e4
  exact st.apart a b xs ys ad hab e1 e2 o1 o2 e3 e4
 ·have hj:i ≠ j:=λz=>by subst z;rw [ae hi'] at e;cases e;cases hbm
  rw [aa hj] at e
  exact ⟨e,List.getElem?_set_ne hj⟩
theorem aw.storeM (st:aw K B O₀ O H ρ σ) {i:Nat}{mm:MV}{p:Addr} (hi:i < σ.length) (s:ag H H') (hp:H p=none) (e:H' p ≠ none) (hm:dO mm=true)
  (r:B p=none->eE K B (p::O) H' mm (.ref p))
  (hLL:isL mm=false:=by rfl)
  :
  aw K B O₀ (p::O) H' (put ρ i mm) (σ.set i (some (.ref p)))/\aZ B O (p::O) ρ (put ρ i mm) σ (σ.set i (some (.ref p))):=by
 have hi':i < ρ.length:=by rw [st.len];exact hi
 have hBp:B p=none:=st.keep.free hp
 have vis:ag (ai H O) (ai H' (p::O)):=bf s λb hb=>by
  rcases List.mem_cons.mp hb with rfl|hb
  ·exact .inr hp
  ·exact .inl hb
 refine ⟨⟨st.keep.trans s,λa ha=>?_,λa ha=>List.mem_cons_of_mem _ (st.sub a ha),st.old,by rw [aS,List.length_set];exact st.len,λj m ej=>?_,λa b xs ys ad hab e1 e2 o1 o2 e3 e4=>?_
  ,c7 st.inn (λj xss e=>by
   have hj:i ≠ j:=λz=>by subst z;rw [ae hi'] at e;cases e;cases hLL
   rw [aa hj] at e
   refine ⟨e,List.getElem?_set_ne hj,λa us e1 e2=>?_⟩
   obtain ⟨u,e3,a',bs,rfl,q,_⟩:=st.slot j _ e
   rw [e1] at e3
   cases e3
   have:=s _ _ q
   rw [e2] at this
   rw [q,this]) λj m c e _ o es=>by
   by_cases hj:i=j
   ·subst hj
    rw [List.getElem?_set_self hi] at es
    cases es
    refine .inr λk xss a us f1 f2 f3 z=>?_
    obtain ⟨u,e3,a',bs,rfl,q,r,_⟩:=st.slot k _ f1
    rw [f2] at e3
    cases e3
    rw [q] at f3
    cases f3
    exact (r.at p (d5.mp z)).1 hp
   ·rw [aa hj] at e
    rw [List.getElem?_set_ne hj] at es
    exact .inl ⟨m,e,o,es⟩
  ⟩,⟨λ_ _ h=>List.mem_cons_of_mem _ h,λa ha=>?_,λj xs hbm ej=>?_,aS
  ⟩⟩
 ·rcases List.mem_cons.mp ha with rfl|ha
  ·exact e
  ·exact λz=>st.here a ha (s.free z)
 ·by_cases hj:i=j
  ·subst hj
   rw [ae hi'] at ej
   cases ej
   exact ⟨_,List.getElem?_set_self hi,r hBp⟩
  ·rw [aa hj] at ej
   obtain ⟨w,e1,q⟩:=st.slot j m ej
   refine ⟨w,by rw [List.getElem?_set_ne hj];exact e1,?_⟩
   cases m with
   | val v=>exact Rep.mono vis _ q
   | own ys=>obtain ⟨a,ws,e2,h1,h2,h3,h4⟩:=q;exact ⟨a,ws,e2,s _ _ h1,Reps.mono vis _ h2,List.mem_cons_of_mem _ h3,h4⟩
   | brw ys=>obtain ⟨a,ws,e2,h1,h2⟩:=q;exact ⟨a,ws,e2,h1,Reps.mono vis _ h2⟩
   | ownD ys=>obtain ⟨a,e2,h1,h3,h4⟩:=q;exact ⟨a,e2,s _ _ h1,List.mem_cons_of_mem _ h3,h4⟩
   | ownL yss =>
    obtain ⟨a,bs,e2,h1,h2,h3,h4,h5⟩:=q
    exact ⟨a,bs,e2,s _ _ h1,h2.view s vis λb hb=>List.mem_cons_of_mem _ hb,List.mem_cons_of_mem _ h3,h4,h5⟩
   | brwD ys=>exact q
 ·have other:∀ (j:Nat) (zs:MV) (ad:Addr),ρ[j]?=some (some zs)->dO zs=true->σ[j]?=some (some (.ref ad))->ad ≠ p:=λj zs ad h1 ho h2 z=>by
   obtain ⟨w,e1,q⟩:=st.slot j _ h1
   rw [h2] at e1
   cases e1
   cases zs with
   | own zs =>
    obtain ⟨a,ws,e2,h1,_⟩:=q
    cases e2
    rw [z,hp] at h1;cases h1
   | ownD zs =>
    obtain ⟨a,e2,h1,_⟩:=q
    cases e2
    rw [z,hp] at h1;cases h1
   | ownL zs =>
    obtain ⟨a,bs,e2,h1,_⟩:=q
    cases e2
    rw [z,hp] at h1;cases h1
   | val _=>cases ho
   | brw _=>cases ho
   | brwD _=>cases ho
  by_cases ha:i=a
  ·subst ha
   have hb:i ≠ b:=hab
   rw [List.getElem?_set_self hi] at e3
   rw [aa hb] at e2
   rw [List.getElem?_set_ne hb] at e4
   cases e3
   exact other b ys _ e2 o2 e4 rfl
  ·by_cases hb:i=b
   ·subst hb
    rw [List.getElem?_set_self hi] at e4
    rw [aa ha] at e1
    rw [List.getElem?_set_ne ha] at e3
    cases e4
    exact other a xs _ e1 o1 e3 rfl
   ·rw [aa ha] at e1
    rw [aa hb] at e2
    rw [List.getElem?_set_ne ha] at e3
    rw [List.getElem?_set_ne hb] at e4
    exact st.apart a b _ _ ad hab e1 e2 o1 o2 e3 e4
 ·rcases List.mem_cons.mp ha with rfl|ha
  ·exact .inr hBp
  ·exact .inl ha
 ·have hj:i ≠ j:=λz=>by subst z;rw [ae hi'] at ej;cases ej;exact pH hm hbm
  rw [aa hj] at ej
  exact ⟨ej,List.getElem?_set_ne hj⟩
theorem aw.storeOwn (st:aw K B O₀ O H ρ σ) {i:Nat}{xs:List PV}{p:Addr}{us:List V} (hi:i < σ.length) (s:ag H H') (hp:H p=none) (e:H' p=some (.lst us)) (r:Reps K (ai H' (p::O)) xs us) :
  aw K B O₀ (p::O) H' (put ρ i (.own xs)) (σ.set i (some (.ref p)))/\aZ B O (p::O) ρ (put ρ i (.own xs)) σ (σ.set i (some (.ref p))) :=
 st.storeM hi s hp (by rw [e];simp) rfl λhB=>⟨p,us,rfl,e,r,List.mem_cons_self,hB⟩
theorem aw.changeM (st:aw K B O₀ O H ρ σ) {i:Nat}{m0 m1:MV}{a:Addr}{ob:HO} (e:ρ[i]?=some (some m0)) (o0:dO m0=true) (o1:dO m1=true)
  (es:σ[i]?=some (some (.ref a))) (h3:a ∈ O) (h4:B a=none) (r:ai (upd H a ob) O=ai H O->eE K B O (upd H a ob) m1 (.ref a))
  (hLL:isL m1=false:=by rfl)
  :
  aw K B O₀ O (upd H a ob) (put ρ i m1) σ/\aZ B O O ρ (put ρ i m1) σ σ:=by
 have hi':i < ρ.length:=(List.getElem?_eq_some_iff.mp e).1
 have hid:ai (upd H a ob) O=ai H O:=fG h3
 have other:∀ (j:Nat) (zs:MV) (ad:Addr),i ≠ j->ρ[j]?=some (some zs)->dO zs=true->σ[j]?=some (some (.ref ad))->ad ≠ a:=λj zs ad hj q1 o2 q2 z=>by
  subst z
  exact st.apart i j m0 zs ad hj e q1 o0 o2 es q2
 refine ⟨⟨λb u eb=>?_,λb hb=>?_,st.sub,st.old,by rw [aS];exact st.len,λj m ej=>?_,λc d ps qs ad hcd e1 e2 p1 p2 e3 e4=>?_
  ,c7 st.inn (λj xss ej=>by
   have hj:i ≠ j:=λz=>by subst z;rw [ae hi'] at ej;cases ej;cases hLL
   rw [aa hj] at ej
   refine ⟨ej,rfl,λb us e1 e2=>?_⟩
   rw [au (other j _ b hj ej rfl e1)] at e2
   exact e2) λj m c ej _ o ec=>.inl (by
   by_cases hj:i=j
   ·subst hj
    exact ⟨m0,e,o0,ec⟩
   ·rw [aa hj] at ej
    exact ⟨m,ej,o,ec⟩)
  ⟩,⟨λ_ _ h=>h,λ_ h=>.inl h,λj zs hbm ej=>?_,aS
  ⟩⟩
 ·rw [au (bn eb h4)]
  exact st.keep b u eb
 ·unfold upd
  split
  ·simp
  ·exact st.here b hb
 ·by_cases hj:i=j
  ·subst hj
   rw [ae hi'] at ej
   cases ej
   exact ⟨_,es,r hid⟩
  ·rw [aa hj] at ej
   obtain ⟨w,ew,q⟩:=st.slot j m ej
   refine ⟨w,ew,?_⟩
   cases m with
   | val v=>show Rep K (ai (upd H a ob) O) v w;rw [hid];exact q
   | own zs =>
    obtain ⟨ad,ws,rfl,q1,q2,q3,q4⟩:=q
    refine ⟨ad,ws,rfl,?_,by rw [hid];exact q2,q3,q4⟩
    rw [au (other j (.own zs) ad hj ej rfl ew)]
    exact q1
   | ownD zs =>
    obtain ⟨ad,rfl,q1,q3,q4⟩:=q
    refine ⟨ad,rfl,?_,q3,q4⟩
    rw [au (other j (.ownD zs) ad hj ej rfl ew)]
    exact q1
   | ownL zss =>
    obtain ⟨ad,bs,rfl,q1,q2,q3,q4,q5⟩:=q
    refine ⟨ad,bs,rfl,?_,q2.upd hid λb hb z=>?_,q3,q4,q5⟩
    ·rw [au (other j (.ownL zss) ad hj ej rfl ew)]
     exact q1
    ·have:=(st.inn j zss ad _ ej ew q1 i m0 (λz=>hj z) e).2 a o0 es
     exact this (d5.mpr (z ▸ hb))
   | brwD zs=>exact q
   | brw zs=>obtain ⟨ad,ws,rfl,q1,q2⟩:=q;exact ⟨ad,ws,rfl,q1,by rw [hid];exact q2⟩
 ·have h1:∀ (j:Nat) (zs:MV),(put ρ i m1)[j]?=some (some zs)->dO zs=true->∃ zs,ρ[j]?=some (some zs)/\dO zs=true:=λj zs q oz=>by
   by_cases hj:i=j
   ·subst hj;exact ⟨m0,e,o0⟩
   ·rw [aa hj] at q;exact ⟨zs,q,oz⟩
  obtain ⟨q1,e1,p1⟩:=h1 c ps e1 p1
  obtain ⟨q2,e2,p2⟩:=h1 d qs e2 p2
  exact st.apart c d q1 q2 ad hcd e1 e2 p1 p2 e3 e4
 ·have hj:i ≠ j:=λz=>by subst z;rw [ae hi'] at ej;cases ej;exact pH o1 hbm
  rw [aa hj] at ej
  exact ⟨ej,rfl⟩
theorem aw.change (st:aw K B O₀ O H ρ σ) {i:Nat}{xs ys:List PV}{a:Addr}{us:List V} (e:ρ[i]?=some (some (.own xs))) (es:σ[i]?=some (some (.ref a))) (r:Reps K (ai H O) ys us) :
  aw K B O₀ O (upd H a (.lst us)) (put ρ i (.own ys)) σ/\aZ B O O ρ (put ρ i (.own ys)) σ σ:=by
 obtain ⟨w,e1,a',us',e2,h1,h2,h3,h4⟩:=st.slot i _ e
 rw [es] at e1
 cases e1
 cases e2
 exact st.changeM e rfl rfl es h3 h4 λhid=>⟨a,us,rfl,aB,by rw [hid];exact r,h3,h4⟩
theorem aw.freeze (st:aw K B O₀ O H ρ σ) {i:Nat}{xs:List PV} (e:ρ[i]?=some (some (.own xs))):∃ O',aw K B O₀ O' H (put ρ i (.val (.lst xs))) σ/\aZ B O O' ρ (put ρ i (.val (.lst xs))) σ σ:=by
 obtain ⟨w,es,a,us,rfl,h1,h2,h3,h4⟩:=st.slot i _ e
 have hi':i < ρ.length:=(List.getElem?_eq_some_iff.mp e).1
 have vis:ag (ai H O) (ai H (O.filter λb=>decide (b ≠ a))):=bf (ag.refl H) λb hb=>.inl (List.mem_filter.mp hb).1
 have mem:∀ b,b ≠ a->b ∈ O->b ∈ O.filter λb=>decide (b ≠ a):=λb hb ho=>List.mem_filter.mpr ⟨ho,decide_eq_true hb⟩
 refine ⟨O.filter λb=>decide (b ≠ a),⟨st.keep,λb hb=>st.here b (List.mem_filter.mp hb).1,λb hb=>mem b (λz=>st.old b hb (z ▸ h4)) (st.sub b hb),st.old,by rw [aS];exact st.len,λj m ej=>?_,λc d ps qs ad hcd e1 e2 p1 p2 e3 e4=>?_
  ,c7 st.inn (λj xss ej=>by
   have hj:i ≠ j:=λz=>by subst z;rw [ae hi'] at ej;cases ej
   rw [aa hj] at ej
   exact ⟨ej,rfl,λ_ _ _ h=>h⟩) λj m c ej _ o ec=>.inl (by
   have hj:i ≠ j:=λz=>by subst z;rw [ae hi'] at ej;cases ej;cases o
   rw [aa hj] at ej
   exact ⟨m,ej,o,ec⟩)
  ⟩,⟨λb hb ho=>mem b (λz=>hb (z ▸ h4)) ho,λb hb=>.inl (List.mem_filter.mp hb).1,λj zs hbm ej=>?_,aS
  ⟩⟩
 ·by_cases hj:i=j
  ·subst hj
   rw [ae hi'] at ej
   cases ej
   refine ⟨_,es,?_⟩
   show Rep K _ (.lst xs) (.ref a)
   rw [Rep]
   refine ⟨a,us,rfl,SqL.of ?_,Reps.mono vis _ h2⟩
   have hna:a ∉ O.filter λb=>decide (b ≠ a):=λz=>by simpa using (List.mem_filter.mp z).2
   rw [bH hna]
   exact h1
  ·rw [aa hj] at ej
   obtain ⟨w,ew,q⟩:=st.slot j m ej
   refine ⟨w,ew,?_⟩
   cases m with
   | val v=>exact Rep.mono vis _ q
   | own zs =>
    obtain ⟨ad,ws,rfl,q1,q2,q3,q4⟩:=q
    exact ⟨ad,ws,rfl,q1,Reps.mono vis _ q2,mem ad (λz=>st.apart i j (.own xs) (.own zs) a hj e ej rfl rfl es (by rw [ew,z])) q3,q4⟩
   | ownD zs =>
    obtain ⟨ad,rfl,q1,q3,q4⟩:=q
    exact ⟨ad,rfl,q1,mem ad (λz=>st.apart i j (.own xs) (.ownD zs) a hj e ej rfl rfl es (by rw [ew,z])) q3,q4⟩
   | ownL zss =>
    obtain ⟨ad,bs,rfl,q1,q2,q3,q4,q5⟩:=q
    refine ⟨ad,bs,rfl,q1,q2.less vis λb hb ho=>mem b (λz=>?_) ho,mem ad (λz=>st.apart i j (.own xs) (.ownL zss) a hj e ej rfl rfl es (by rw [ew,z])) q3,q4,q5⟩
    have:=(st.inn j zss ad _ ej ew q1 i (.own xs) (λz=>hj z) e).2 a rfl es
    exact this (d5.mpr (z ▸ hb))
   | brwD zs=>exact q
   | brw zs=>obtain ⟨ad,ws,rfl,q1,q2⟩:=q;exact ⟨ad,ws,rfl,q1,Reps.mono vis _ q2⟩
 ·have h1:∀ (j:Nat) (zs:MV),dO zs=true->(put ρ i (.val (.lst xs)))[j]?=some (some zs)->ρ[j]?=some (some zs):=λj zs oz q=>by
   by_cases hj:i=j
   ·subst hj;rw [ae hi'] at q;cases q;cases oz
   ·rw [aa hj] at q;exact q
  exact st.apart c d ps qs ad hcd (h1 c ps p1 e1) (h1 d qs p2 e2) p1 p2 e3 e4
 ·have hj:i ≠ j:=λz=>by subst z;rw [ae hi'] at ej;cases ej;cases hbm
  rw [aa hj] at ej
  exact ⟨ej,rfl⟩
end
end MM
namespace MM
open PySem PySem.Spec PyProof.Rows L2
section
open AutoSeq1 (wpAny_loadPart')
open MeetsSeq MeetsSeq2 MeetsSeq3 SeqRoads2 AutoSeq1
theorem l4 (l:Addr) (items:Array Value) (n:Nat) (b:Addr) (items2:Array Value) (n2:Nat) (dd2:Option Addr) (sl2:Array (Option Value)) (hs0:¬(!items.isEmpty&&Builtin.List.listTooLong (items.size + items2.size))=true) (hs1:items.size <= sizeLine) (hs2:items.size + items2.size <= sizeLine + 1) :
  Meets (Builtin.«list.extend» ⟨[.ref l,.ref b],[]⟩) (λ_ R s=>s.heap.get? l=some { cls:=.type "list",dict:=none,data:=.seq items n,slots:=#[] }/\s.heap.get? b=some { cls:=.type "tuple",dict:=dd2,data:=.seq items2 n2,slots:=sl2 }/\R (.ok (.ret Value.none)) { s with heap:=s.heap.update l (Obj.mapSeq λx=>x ++ items2),toks:=s.toks }) :=
 .of_wp λprog w A R s h=>by
  obtain ⟨hp,g,d,tk,os⟩:=s;obtain ⟨hl,hb,h⟩:=h;have f1:=AutoSeq1.idx_int;have f2:=AutoSeq1.sub_tuple_tuple;have f3:=AutoSeq1.sub_list_list;have f4:=AutoSeq1.sub_tuple_list;have f5:=AutoSeq1.sub_list_tuple;
  have hz':(items ++ items2).size <= sizeLine + 1:=by rw [Array.size_append];exact hs2
  wp_walk using (wpAny_updateSeq hl rfl (hz:=hs1) (_hz':=hz')),wpAny_loadPart' hl,wpAny_loadPart' hb;exact ⟨_,rfl,h⟩
theorem l5 (l:Addr) (items:Array Value) (n:Nat) (b:Addr) (items2:Array Value) (n2:Nat) (dd2:Option Addr) (sl2:Array (Option Value)) (hs0:¬(!items.isEmpty&&Builtin.List.listTooLong (items.size + items2.size))=true) (hs1:items.size <= sizeLine) (hs2:items.size + items2.size <= sizeLine + 1) :
  Meets (Builtin.«list.extend» ⟨[.ref l,.ref b],[]⟩) (λ_ R s=>s.heap.get? l=some { cls:=.type "list",dict:=none,data:=.seq items n,slots:=#[] }/\s.heap.get? b=some { cls:=.type "list",dict:=dd2,data:=.seq items2 n2,slots:=sl2 }/\R (.ok (.ret Value.none)) { s with heap:=s.heap.update l (Obj.mapSeq λx=>x ++ items2),toks:=s.toks }) :=
 .of_wp λprog w A R s h=>by
  obtain ⟨hp,g,d,tk,os⟩:=s;obtain ⟨hl,hb,h⟩:=h;have f1:=AutoSeq1.idx_int;have f2:=AutoSeq1.sub_tuple_tuple;have f3:=AutoSeq1.sub_list_list;have f4:=AutoSeq1.sub_tuple_list;have f5:=AutoSeq1.sub_list_tuple;
  have hz':(items ++ items2).size <= sizeLine + 1:=by rw [Array.size_append];exact hs2
  wp_walk using (wpAny_updateSeq hl rfl (hz:=hs1) (_hz':=hz')),wpAny_loadPart' hl,wpAny_loadPart' hb;exact ⟨_,rfl,h⟩
end
section
variable {X:Cx}{T:Tab}{k:Nat}{cal:Cal}
theorem nZ:MtM X "list.extend" (λx vs H Q=>∃ l b xs zs,x=.ref l/\vs=[.ref b]/\H l=some (.lst xs)/\(SqL X.K H b zs \/ SqT X.K H b zs)/\xs.length + zs.length <= sizeLine/\Q .non (upd H l (.lst (xs ++ zs)))):=by
 intro pins s σ H x vs v us Q I rx rv h
 obtain ⟨l,b,xs,zs,rfl,rfl,hH,hB,hz,q⟩:=h
 cases rx
 obtain ⟨u,rfl,ru⟩:=rv.one
 cases ru
 obtain ⟨z,its,n,r,hl,e⟩:=I.lstM hH
 have fin:∀ its2:List Value,am zs its2->EP X pins σ Q .none { s with heap:=s.heap.update l (Obj.mapSeq λx=>x ++ its2.toArray),toks:=s.toks }:=λits2 r2 =>
  ⟨.non,_,I.lset (its':=its ++ its2) hH e (by simp) (r.append r2) (by rw [List.length_append];omega),rfl,q⟩
 rcases hB with hB|hB
 ·obtain ⟨its2,r2,pl,z2⟩:=I.list hB
  have hl2:=r2.length
  have hsz:its.toArray.size + its2.toArray.size <= sizeLine:=by rw [List.size_toArray,List.size_toArray];omega
  have hlong:¬ (!its.toArray.isEmpty&&Builtin.List.listTooLong (its.toArray.size + its2.toArray.size))=true:=by
   rw [mi hsz,Bool.and_false]
   exact Bool.false_ne_true
  obtain ⟨⟨cls,dd,data,sl⟩,ho,hc,n2,hd⟩:=pl.isList
  simp only at hc hd
  subst hc hd
  exact call_meets PySem.F.slot_list_extend ⟨_,e,rfl⟩ PySem.F.entry_list_extend (PySem.F.args_list_extend_2 _ _) (l5 l its.toArray n b its2.toArray n2 dd sl hlong (by rw [List.size_toArray];omega) (by omega)) ⟨e,ho,fin its2 r2⟩
 ·obtain ⟨its2,r2,pl,z2⟩:=I.tuple hB
  have hl2:=r2.length
  have hsz:its.toArray.size + its2.toArray.size <= sizeLine:=by rw [List.size_toArray,List.size_toArray];omega
  have hlong:¬ (!its.toArray.isEmpty&&Builtin.List.listTooLong (its.toArray.size + its2.toArray.size))=true:=by
   rw [mi hsz,Bool.and_false]
   exact Bool.false_ne_true
  obtain ⟨⟨cls,dd,data,sl⟩,ho,hc,n2,hd⟩:=pl
  simp only at hc hd
  subst hc hd
  exact call_meets PySem.F.slot_list_extend ⟨_,e,rfl⟩ PySem.F.entry_list_extend (PySem.F.args_list_extend_2 _ _) (l4 l its.toArray n b its2.toArray n2 dd sl hlong (by rw [List.size_toArray];omega) (by omega)) ⟨e,ho,fin its2 r2⟩
structure Df (X:Cx):Prop where
 nd:X.N.Nodup
 fn:∀ x,X.fn x=true
 own:PassesOwn (model X.prog X.w) X.A X.env X.xe
 blk:(X.env.blockKind == .function)=true
 stk:X.stack=X.env::X.outer/\X.env.frame=some X.env.locals
theorem dS {v:Expr} (h:cI v=true) (t:Option Expr) (n:Nat) (env:Env):swapsWith v t n env=pure false:=by
 cases v <;> first|rfl|(simp [cI] at h)
theorem k8 {v:Expr}{x:Str}{px:Pos}{n:Nat} (d:Df X) (h:kZ X.env.scope x px v=true):swapsWith v (some (.Name x px)) n X.env=pure true:=by
 cases v with
 | ListComp e gs s p =>
  show pure (X.env.blockKind == .function&&X.env.kindOf x == some .local&&px.line == p.line&&!(s.names.any λ(n,k)=>n == x&&(k == .local || k == .cell)))=pure true
  have h':(X.env.scope.names.lookup x == some .local&&px.line == p.line&&!(s.names.any λ(n,k)=>n == x&&(k == .local || k == .cell)))=true:=h
  rw [d.blk,Bool.true_and]
  exact congrArg pure h'
 | _=>simp [kZ] at h
theorem PS.imp' {e:Stmt}{t t':TS} (h:PS X e t) (i:∀ D σ H,σ.length=X.N.length->t' D σ H->t D σ H):PS X e t':=λpins s σ H D I q=>h pins s σ H D I (i D σ H I.len q)
theorem ltN {N:List Str}{i:Nat}{x:Str}{σ:St} (h:N[i]?=some x) (hl:σ.length=N.length):i < σ.length:=by rw [hl];exact (List.getElem?_eq_some_iff.mp h).1
theorem dc {K:PySem.W.Frag}{B:Hp}{O₀ O:List Addr}{ρ:Rho}{σ:St}{D:fk}{o:Option PV}{f:PV->R} (h:dR K B O₀ O ρ σ D (cZ o f)):∃ v,o=some v/\dR K B O₀ O ρ σ D (f v):=by
 cases o with
 | none=>exact (show False from h).elim
 | some v=>exact ⟨v,rfl,h⟩
theorem qD {K:PySem.W.Frag}{B:Hp}{O₀ O:List Addr}{ρ:Rho}{σ:St}{D:fk}{o:Option Bool}{f:Bool->R} (h:dR K B O₀ O ρ σ D (mO o f)):∃ v,o=some v/\dR K B O₀ O ρ σ D (f v):=by
 cases o with
 | none=>exact (show False from h).elim
 | some v=>exact ⟨v,rfl,h⟩
theorem sQ {i:Nat}{me:ME}{σ:St}{H:Hp}{D:fk}{K:PySem.W.Frag} (hi:i < σ.length) (hb:aF me=false) (q:tS K cal (.set i me) D σ H):pU (tE K cal me) (fZ i) D σ H:=by
 obtain ⟨B,O₀,O,ρ,st,q⟩:=q
 rw [ex] at q
 obtain ⟨w,e,q⟩:=dc q
 refine ⟨B,O₀,O,ρ,w,st,e,λu H' s g=>?_⟩
 obtain ⟨st',k'⟩:=(st.mono s).store hi (g.2 hb)
 exact q _ H' O st' k'
theorem z6 {i:Nat}{me:ME}{x:Str}{v:Expr}{px pos:Pos} (d:Df X) (hi:X.N[i]?=some x) (hx:Loc X.env.scope x) (h:PE X v (tE X.K cal me)) (hb:aF me=false) (hc:cI v=true):PS X (.Assign [.Name x px] v pos) (tS X.K cal (.set i me)) :=
 PS.imp' (i_ d.nd hi hx h (dS hc _ _ _) (.inl (d.fn x))) λD σ H hl q=>sQ (ltN hi hl) hb q
theorem sR {i:Nat}{me:ME}{σ:St}{H:Hp}{D:fk}{K:PySem.W.Frag} (hi:i < σ.length) (q:tS K cal (.setOwn i me) D σ H):pU (tF K cal me) (fZ i) D σ H:=by
 obtain ⟨B,O₀,O,ρ,st,q⟩:=q
 rw [ex] at q
 obtain ⟨w,e,q⟩:=dc q
 cases w with
 | lst xs =>
  refine ⟨B,O₀,O,ρ,xs,st,e,λp us H' s hp he r=>?_⟩
  obtain ⟨st',k'⟩:=st.storeOwn hi s hp he r
  exact q _ H' _ st' k'
 | _=>exact (show False from q).elim
theorem z7 {i:Nat}{me:ME}{x:Str}{v:Expr}{px pos:Pos} (d:Df X) (hi:X.N[i]?=some x) (hx:Loc X.env.scope x) (h:PE X v (tF X.K cal me)) (hc:cI v=true):PS X (.Assign [.Name x px] v pos) (tS X.K cal (.setOwn i me)) :=
 PS.imp' (i_ d.nd hi hx h (dS hc _ _ _) (.inl (d.fn x))) λD σ H hl q=>sR (ltN hi hl) q
theorem sS {i:Nat}{me:ME}{x:Str}{v:Expr}{p apos cpos pos:Pos} (h:PE X v (tE X.K cal me)) (hn:aD X.N X.env.scope i x=true) (hb:aF me=false) (hs:ak v=true) (hline:(apos.endLine == cpos.line)=true) :
  PS X (.Expr (.Call (.Attribute (.Name x p) "append" apos) [v] [] cpos) pos) (tS X.K cal (.append i me)):=by
 refine (lw (rn PySem.F.plainAttrs_list PySem.F.slot_list_append PySem.F.type_list_append ie (bT hn) (aG h a_ (br hs _ _)) rfl (by rw [br hs];rfl) hline (br hs _ _) rfl) rfl).imp λD σ H q=>?_
 obtain ⟨B,O₀,O,ρ,st,q⟩:=q
 rw [ex] at q
 obtain ⟨w,e,q⟩:=dc q
 cases hj:(ρ[i]?).join with
 | none=>rw [hj] at q;exact (show False from q).elim
 | some m =>
  rw [hj] at q
  cases m with
  | own xs =>
   dsimp only at q
   split at q
   ·rename_i hl
    obtain ⟨u,eu,a,us,rfl,ha,rs,hO,hB⟩:=bU st hj
    refine ⟨_,eu,.inl ⟨rfl,us,SqL.of ha⟩,B,O₀,O,ρ,w,st,e,λu H1 s g=>⟨a,us,u,rfl,rfl,s _ _ ha,?_,?_⟩⟩
    ·rw [<- rs.length];exact Nat.lt_of_lt_of_le hl (by decide)
    ·obtain ⟨st',k'⟩:=(st.mono s).change (us:=us ++ [u]) (ys:=xs ++ [w]) (bw hj) eu ((Reps.mono (ax s) _ rs).snoc (g.2 hb))
     exact q _ _ _ st' k'
   ·exact (show False from q).elim
  | val _=>exact (show False from q).elim
  | brw _=>exact (show False from q).elim
  | ownD _=>exact (show False from q).elim
  | ownL _=>exact (show False from q).elim
  | brwD _=>exact (show False from q).elim
theorem sT {i:Nat}{me:ME}{x:Str}{v:Expr}{p apos cpos pos:Pos} (h:PE X v (tE X.K cal me)) (hn:aD X.N X.env.scope i x=true) (hs:ak v=true) (hline:(apos.endLine == cpos.line)=true) :
  PS X (.Expr (.Call (.Attribute (.Name x p) "extend" apos) [v] [] cpos) pos) (tS X.K cal (.extend i me)):=by
 refine (lw (rn PySem.F.plainAttrs_list PySem.F.slot_list_extend PySem.F.type_list_extend nZ (bT hn) (aG h a_ (br hs _ _)) rfl (by rw [br hs];rfl) hline (br hs _ _) rfl) rfl).imp λD σ H q=>?_
 obtain ⟨B,O₀,O,ρ,st,q⟩:=q
 rw [ex] at q
 obtain ⟨w,e,q⟩:=dc q
 cases hj:(ρ[i]?).join with
 | none=>rw [hj] at q;exact (show False from q).elim
 | some m =>
  rw [hj] at q
  cases m with
  | own xs =>
   cases hw:aI w with
   | none=>rw [hw] at q;exact (show False from q).elim
   | some ys =>
    rw [hw] at q
    dsimp only at q
    split at q
    ·rename_i hl
     obtain ⟨u,eu,a,us,rfl,ha,rs,hO,hB⟩:=bU st hj
     refine ⟨_,eu,.inl ⟨rfl,us,SqL.of ha⟩,B,O₀,O,ρ,w,st,e,λu H1 s g=>?_⟩
     obtain ⟨b,ws,rfl,sq,rw'⟩:=g.1.seq hw
     refine ⟨a,b,us,ws,rfl,rfl,s _ _ ha,sq,?_,?_⟩
     ·rw [<- rs.length,<- rw'.length];exact dG hl
     ·obtain ⟨st',k'⟩:=(st.mono s).change (us:=us ++ ws) (ys:=xs ++ ys) (bw hj) eu ((Reps.mono (ax s) _ rs).append rw')
      exact q _ _ _ st' k'
    ·exact (show False from q).elim
  | val _=>exact (show False from q).elim
  | brw _=>exact (show False from q).elim
  | ownD _=>exact (show False from q).elim
  | ownL _=>exact (show False from q).elim
  | brwD _=>exact (show False from q).elim
theorem wm {me:ME}{v:Expr}{pos:Pos} (h:PE X v (tE X.K cal me)) (hb:aF me=false):PS X (.Return (some v) pos) (tS X.K cal (.ret me)):=by
 refine (nz h).imp λD σ H q=>?_
 obtain ⟨B,O₀,O,ρ,st,q⟩:=q
 rw [ex] at q
 obtain ⟨w,e,q⟩:=dc q
 exact ⟨B,O₀,O,ρ,w,st,e,λu H' s g=>q u H' (st.keep.trans s) (Rep.mono (bf (ag.refl H') λb hb=>.inl (st.sub b hb)) _ (g.2 hb))⟩
theorem sU {i:Nat}{x:Str}{p pos:Pos} (hn:aD X.N X.env.scope i x=true):PS X (.Return (some (.Name x p)) pos) (tS X.K cal (.retOwn i)):=by
 refine (nz (bT hn)).imp λD σ H q=>?_
 obtain ⟨B,O₀,O,ρ,st,q⟩:=q
 rw [ex] at q
 have low:ag (ai H O) (ai H O₀):=bf (ag.refl H) λb hb=>.inl (st.sub b hb)
 cases hj:(ρ[i]?).join with
 | none=>rw [hj] at q;exact (show False from q).elim
 | some m =>
  rw [hj] at q
  cases m with
  | own xs =>
   obtain ⟨u,eu,a,us,rfl,ha,rs,hO,hB⟩:=bU st hj
   refine ⟨_,eu,q _ H st.keep ?_⟩
   rw [Rep]
   refine ⟨a,us,rfl,SqL.of ?_,Reps.mono low _ rs⟩
   rw [bH λz=>st.old a z hB]
   exact ha
  | val v =>
   obtain ⟨u,eu,so⟩:=bU st hj
   exact ⟨_,eu,q _ H st.keep (Rep.mono low _ so)⟩
  | brw _=>exact (show False from q).elim
  | ownD kvs =>
   obtain ⟨u,eu,a,rfl,ha,hO,hB⟩:=bU st hj
   refine ⟨_,eu,q _ H st.keep ?_⟩
   rw [Rep]
   refine ⟨a,rfl,.inl ?_⟩
   rw [bH λz=>st.old a z hB]
   exact ha
  | ownL _=>exact (show False from q).elim
  | brwD _=>exact (show False from q).elim
theorem z8 {c:ME}{a b:List MS}{t:Expr}{x y:List Stmt}{pos:Pos} (hc:PT X t (tT X.K cal c)) (ha:PSs X x (tSs X.K cal a)) (hb:PSs X y (tSs X.K cal b)):PS X (.If t x y pos) (tS X.K cal (.ite c a b)):=by
 refine (oF hc ha hb).imp λD σ H q=>?_
 obtain ⟨B,O₀,O,ρ,st,q⟩:=q
 rw [ex] at q
 obtain ⟨w,e,q⟩:=qD q
 refine ⟨B,O₀,O,ρ,w,st,e,λH' s=>?_⟩
 cases w with
 | true=>rw [if_pos rfl] at q ⊢;exact ⟨B,O₀,O,ρ,st.mono s,q⟩
 | false=>rw [if_neg (by simp)] at q ⊢;exact ⟨B,O₀,O,ρ,st.mono s,q⟩
theorem n5 {m:MS}{ms:List MS}{st:Stmt}{ss:List Stmt} (h1:PS X st (tS X.K cal m)) (h2:PSs X ss (tSs X.K cal ms)):PSs X (st::ss) (tSs X.K cal (m::ms)):=by
 refine (fm h1 h2).imp λD σ H q=>?_
 obtain ⟨B,O₀,O,ρ,st,q⟩:=q
 refine ⟨B,O₀,O,ρ,st,?_⟩
 rw [exs] at q
 cases e:ex cal m ρ with
 | next ρ'=>rw [e] at q;exact λσ' H' O' st' k=>⟨B,O₀,O',ρ',st',dR.trans q k⟩
 | brk ρ'=>rw [e] at q;exact q
 | cont ρ'=>rw [e] at q;exact q
 | ret v=>rw [e] at q;exact q
 | bad=>rw [e] at q;exact q
 | retF xs=>rw [e] at q;exact q
theorem wn:PSs X [] (tSs X.K cal []):=by
 refine lv.imp λD σ H q=>?_
 obtain ⟨B,O₀,O,ρ,st,q⟩:=q
 rw [exs] at q
 exact q σ H O st .refl
end
end MM
namespace MM
open PySem PySem.Spec PyProof.Rows L2
section
variable {K:PySem.W.Frag}{B H H':Hp}{O₀ O:List Addr}{ρ:Rho}{σ:St}
theorem xZ (h:noL ρ=true) {j:Nat}{m:MV} (e:ρ[j]?=some (some m)):isL m=false:=by
 have:=List.all_eq_true.mp h (some m) (List.mem_of_getElem? e)
 simpa using this
theorem jS (st:aw K B O₀ O H ρ σ) {j:Nat}{m:MV}{c:Addr} (e:ρ[j]?=some (some m)) (o:dO m=true) (es:σ[j]?=some (some (.ref c))):H c ≠ none:=by
 obtain ⟨w,e1,q⟩:=st.slot j _ e
 rw [es] at e1
 cases e1
 cases m with
 | own zs=>obtain ⟨a,ws,e2,h1,_⟩:=q;cases e2;rw [h1];simp
 | ownD zs=>obtain ⟨a,e2,h1,_⟩:=q;cases e2;rw [h1];simp
 | ownL zs=>obtain ⟨a,bs,e2,h1,_⟩:=q;cases e2;rw [h1];simp
 | val _=>cases o
 | brw _=>cases o
 | brwD _=>cases o
theorem sV {n:Nat}{bs:List Addr} (hl:bs.length=n) (h:∀ b ∈ bs,H b=some (.lst [])/\b ∈ O/\B b=none):cA K H O B (List.replicate n []) bs:=by
 subst hl
 induction bs with
 | nil=>exact .nil
 | cons b bs ih =>
  obtain ⟨h1,h2,h3⟩:=h b (.head _)
  exact .cons h1 .nil h2 h3 (ih λc hc=>h c (.tail _ hc))
theorem cA.put {b:Addr}{ws:List V}{ys:List PV} (hid:ai (L2.upd H b (.lst ws)) O=ai H O) (r':Reps K (ai H O) ys ws) {xss:List (List PV)}{bs:List Addr} (h:cA K H O B xss bs):∀ {q:Nat},bs.Nodup->bs[q]?=some b->cA K (L2.upd H b (.lst ws)) O B (xss.set q ys) bs:=by
 induction h with
 | nil=>intro q _ e;simp at e
 | cons h r ho hb t ih =>
  intro q nd e
  obtain ⟨n1,n2⟩:=List.nodup_cons.mp nd
  cases q with
  | zero =>
   simp at e
   subst e
   exact .cons aB (by rw [hid];exact r') ho hb (t.upd hid λc hc z=>n1 (z ▸ hc))
  | succ q =>
   have e':=(List.getElem?_cons_succ ..).symm.trans e
   refine .cons ?_ (by rw [hid];exact r) ho hb (ih n2 e')
   have hm:=List.mem_of_getElem? e'
   rw [au λz=>by rw [z] at n1;exact n1 hm]
   exact h
theorem aw.storeLs (st:aw K B O₀ O H ρ σ) {i:Nat}{a:Addr}{bs:List Addr}{xss:List (List PV)} (hi:i < σ.length) (hn:noL ρ=true) (s:ag H H') (ha:H a=none) (ea:H' a=some (.lst (bs.map .ref))) (nd:(a::bs).Nodup) (hb:∀ b ∈ bs,H b=none/\H' b ≠ none) (rr:cA K H' (a::bs ++ O) B xss bs) :
  aw K B O₀ (a::bs ++ O) H' (put ρ i (.ownL xss)) (σ.set i (some (.ref a)))/\aZ B O (a::bs ++ O) ρ (put ρ i (.ownL xss)) σ (σ.set i (some (.ref a))):=by
 have hi':i < ρ.length:=by rw [st.len];exact hi
 have free:∀ b ∈ a::bs,H b=none/\H' b ≠ none:=λb hb'=>by
  rcases List.mem_cons.mp hb' with rfl|h
  ·exact ⟨ha,by rw [ea];simp⟩
  ·exact hb b h
 have vis:ag (ai H O) (ai H' (a::bs ++ O)):=bf s λb h=>by
  rcases List.mem_append.mp h with h|h
  ·exact .inr (free b h).1
  ·exact .inl h
 have inO:∀ b ∈ O,b ∈ a::bs ++ O:=λb h=>List.mem_append.mpr (.inr h)
 refine ⟨⟨st.keep.trans s,λb h=>?_,λb h=>inO b (st.sub b h),st.old,by rw [aS,List.length_set];exact st.len,λj m ej=>?_,λc d xs ys ad hcd e1 e2 o1 o2 e3 e4=>?_,λk xss a' us e1 e2 e3 j m hjk ej=>?_⟩,⟨λ_ _ h=>inO _ h,λb h=>?_,λj xs hbm ej=>?_,aS
  ⟩⟩
 ·rcases List.mem_append.mp h with h|h
  ·exact (free b h).2
  ·exact λz=>st.here b h (s.free z)
 ·by_cases hj:i=j
  ·subst hj
   rw [ae hi'] at ej
   cases ej
   exact ⟨_,List.getElem?_set_self hi,a,bs,rfl,ea,rr,List.mem_append.mpr (.inl (.head _)),st.keep.free ha,nd⟩
  ·rw [aa hj] at ej
   obtain ⟨w,e1,q⟩:=st.slot j m ej
   refine ⟨w,by rw [List.getElem?_set_ne hj];exact e1,?_⟩
   cases m with
   | val v=>exact Rep.mono vis _ q
   | own ys=>obtain ⟨a,ws,e2,h1,h2,h3,h4⟩:=q;exact ⟨a,ws,e2,s _ _ h1,Reps.mono vis _ h2,inO _ h3,h4⟩
   | brw ys=>obtain ⟨a,ws,e2,h1,h2⟩:=q;exact ⟨a,ws,e2,h1,Reps.mono vis _ h2⟩
   | ownD ys=>obtain ⟨a,e2,h1,h3,h4⟩:=q;exact ⟨a,e2,s _ _ h1,inO _ h3,h4⟩
   | ownL yss=>cases xZ hn ej
   | brwD ys=>exact q
 ·by_cases hc:i=c
  ·subst hc
   rw [List.getElem?_set_self hi] at e3
   cases e3
   rw [aa hcd] at e2
   rw [List.getElem?_set_ne hcd] at e4
   exact jS st e2 o2 e4 ha
  ·by_cases hd:i=d
   ·subst hd
    rw [List.getElem?_set_self hi] at e4
    cases e4
    rw [aa hc] at e1
    rw [List.getElem?_set_ne hc] at e3
    exact jS st e1 o1 e3 ha
   ·rw [aa hc] at e1
    rw [aa hd] at e2
    rw [List.getElem?_set_ne hc] at e3
    rw [List.getElem?_set_ne hd] at e4
    exact st.apart c d _ _ ad hcd e1 e2 o1 o2 e3 e4
 ·have hk:i=k:=by
   cases Nat.decEq i k with
   | isTrue z=>exact z
   | isFalse z =>
    rw [aa z] at e1
    cases xZ hn e1
  subst hk
  rw [List.getElem?_set_self hi] at e2
  cases e2
  rw [ea] at e3
  cases e3
  rw [aa (Ne.symm hjk)] at ej
  refine ⟨xZ hn ej,λc o ec z=>?_⟩
  rw [List.getElem?_set_ne (Ne.symm hjk)] at ec
  exact jS st ej o ec (hb c (d5.mp z)).1
 ·rcases List.mem_append.mp h with h|h
  ·exact .inr (st.keep.free (free b h).1)
  ·exact .inl h
 ·have hj:i ≠ j:=λz=>by subst z;rw [ae hi'] at ej;cases ej;cases hbm
  rw [aa hj] at ej
  exact ⟨ej,List.getElem?_set_ne hj⟩
theorem aw.storeL (st:aw K B O₀ O H ρ σ) {i n:Nat}{a:Addr}{bs:List Addr} (hi:i < σ.length) (hn:noL ρ=true) (s:ag H H') (ha:H a=none) (ea:H' a=some (.lst (bs.map .ref))) (hl:bs.length=n) (nd:(a::bs).Nodup) (hb:∀ b ∈ bs,H b=none/\H' b=some (.lst [])) :
  aw K B O₀ (a::bs ++ O) H' (put ρ i (.ownL (List.replicate n []))) (σ.set i (some (.ref a)))/\aZ B O (a::bs ++ O) ρ (put ρ i (.ownL (List.replicate n []))) σ (σ.set i (some (.ref a))) :=
 st.storeLs hi hn s ha ea nd (λb h=>⟨(hb b h).1,by rw [(hb b h).2];simp⟩) (sV hl λb h=>⟨(hb b h).2,List.mem_append.mpr (.inl (.tail _ h)),st.keep.free (hb b h).1⟩)
theorem aw.changeI (st:aw K B O₀ O H ρ σ) {i q:Nat}{xss:List (List PV)}{a b:Addr}{bs:List Addr}{ys:List PV}{ws:List V} (e:ρ[i]?=some (some (.ownL xss))) (es:σ[i]?=some (some (.ref a))) (ha:H a=some (.lst (bs.map .ref))) (r:cA K H O B xss bs) (hO:a ∈ O) (hB:B a=none) (nd:(a::bs).Nodup)
  (eb:bs[q]?=some b) (r':Reps K (ai H O) ys ws):aw K B O₀ O (upd H b (.lst ws)) (put ρ i (.ownL (xss.set q ys))) σ/\aZ B O O ρ (put ρ i (.ownL (xss.set q ys))) σ σ:=by
 have hi':i < ρ.length:=(List.getElem?_eq_some_iff.mp e).1
 have hbm:=List.mem_of_getElem? eb
 obtain ⟨_,bO,bB⟩:=r.at b hbm
 obtain ⟨n1,n2⟩:=List.nodup_cons.mp nd
 have hid:ai (upd H b (.lst ws)) O=ai H O:=fG bO
 have other:∀ (j:Nat) (m:MV) (c:Addr),i ≠ j->ρ[j]?=some (some m)->dO m=true->σ[j]?=some (some (.ref c))->c ≠ b:=λj m c hj ej o ec z=>(st.inn i xss a _ e es ha j m (Ne.symm hj) ej).2 c o ec (d5.mpr (z ▸ hbm))
 have hab:a ≠ b:=λz=>n1 (z ▸ hbm)
 refine ⟨⟨λc u ec=>?_,λc hc=>?_,st.sub,st.old,by rw [aS];exact st.len,λj m ej=>?_,λc d ps qs ad hcd e1 e2 p1 p2 e3 e4=>?_,λk yss a' us e1 e2 e3 j m hjk ej=>?_⟩,⟨λ_ _ h=>h,λ_ h=>.inl h,λj zs hbm ej=>?_,aS
  ⟩⟩
 ·rw [au (bn ec bB)]
  exact st.keep c u ec
 ·unfold upd
  split
  ·simp
  ·exact st.here c hc
 ·by_cases hj:i=j
  ·subst hj
   rw [ae hi'] at ej
   cases ej
   exact ⟨_,es,a,bs,rfl,by rw [au hab];exact ha,r.put hid r' n2 eb,hO,hB,nd⟩
  ·rw [aa hj] at ej
   obtain ⟨w,ew,q⟩:=st.slot j m ej
   refine ⟨w,ew,?_⟩
   cases m with
   | val v=>show Rep K (ai (upd H b (.lst ws)) O) v w;rw [hid];exact q
   | own zs=>obtain ⟨ad,us,rfl,q1,q2,q3,q4⟩:=q;exact ⟨ad,us,rfl,by rw [au (other j _ ad hj ej rfl ew)];exact q1,by rw [hid];exact q2,q3,q4⟩
   | ownD zs=>obtain ⟨ad,rfl,q1,q3,q4⟩:=q;exact ⟨ad,rfl,by rw [au (other j _ ad hj ej rfl ew)];exact q1,q3,q4⟩
   | ownL zss=>cases (st.inn i xss a _ e es ha j _ (Ne.symm hj) ej).1
   | brwD zs=>exact q
   | brw zs=>obtain ⟨ad,us,rfl,q1,q2⟩:=q;exact ⟨ad,us,rfl,q1,by rw [hid];exact q2⟩
 ·have h1:∀ (j:Nat) (zs:MV),(put ρ i (.ownL (xss.set q ys)))[j]?=some (some zs)->dO zs=true->∃ zs,ρ[j]?=some (some zs)/\dO zs=true:=λj zs q oz=>by
   by_cases hj:i=j
   ·subst hj;exact ⟨_,e,rfl⟩
   ·rw [aa hj] at q;exact ⟨zs,q,oz⟩
  obtain ⟨q1,e1,p1⟩:=h1 c ps e1 p1
  obtain ⟨q2,e2,p2⟩:=h1 d qs e2 p2
  exact st.apart c d q1 q2 ad hcd e1 e2 p1 p2 e3 e4
 ·have hk:i=k:=by
   cases Nat.decEq i k with
   | isTrue z=>exact z
   | isFalse z =>
    rw [aa z] at e1
    cases (st.inn i xss a _ e es ha k _ (Ne.symm z) e1).1
  subst hk
  rw [es] at e2
  cases e2
  rw [au hab] at e3
  rw [aa (Ne.symm hjk)] at ej
  exact st.inn i xss a us e es e3 j m hjk ej
 ·have hj:i ≠ j:=λz=>by subst z;rw [ae hi'] at ej;cases ej;cases hbm
  rw [aa hj] at ej
  exact ⟨ej,rfl⟩
theorem qE {F:Hp}{xss:List (List PV)}{bs:List Addr} (h:cA K H O B xss bs) (v:ag (ai H O) F) (hb:∀ b ∈ bs,∀ o,H b=some o->F b=some o):Reps K F (xss.map .lst) (bs.map .ref):=by
 induction h with
 | nil=>exact .nil
 | cons h r ho hb' t ih =>
  refine .cons ?_ (ih λb h=>hb b (.tail _ h))
  rw [Rep]
  exact ⟨_,_,rfl,SqL.of (hb _ (.head _) _ h),Reps.mono v _ r⟩
theorem aw.freezeL (st:aw K B O₀ O H ρ σ) {i:Nat}{xss:List (List PV)} (e:ρ[i]?=some (some (.ownL xss))):∃ O',aw K B O₀ O' H (put ρ i (.val (.lst (xss.map .lst)))) σ/\aZ B O O' ρ (put ρ i (.val (.lst (xss.map .lst)))) σ σ:=by
 obtain ⟨w,es,a,bs,rfl,ha,r,hO,hB,nd⟩:=st.slot i _ e
 have hi':i < ρ.length:=(List.getElem?_eq_some_iff.mp e).1
 have vis:ag (ai H O) (ai H (O.filter λb=>decide (b ∉ a::bs))):=bf (ag.refl H) λb hb=>.inl (List.mem_filter.mp hb).1
 have mem:∀ b,b ∉ a::bs->b ∈ O->b ∈ O.filter λb=>decide (b ∉ a::bs):=λb hb ho=>List.mem_filter.mpr ⟨ho,decide_eq_true hb⟩
 have out:∀ b ∈ a::bs,∀ o,H b=some o->ai H (O.filter λb=>decide (b ∉ a::bs)) b=some o:=λb hb o eo=>by
  have hn:b ∉ O.filter λb=>decide (b ∉ a::bs):=λz=>absurd hb (by simpa using (List.mem_filter.mp z).2)
  rw [bH hn]
  exact eo
 have none:∀ b ∈ a::bs,B b=none:=λb hb=>by
  rcases List.mem_cons.mp hb with rfl|h
  ·exact hB
  ·exact (r.at b h).2.2
 have apart:∀ (j:Nat) (m:MV) (c:Addr),i ≠ j->ρ[j]?=some (some m)->dO m=true->σ[j]?=some (some (.ref c))->c ∉ a::bs:=λj m c hj ej o ec z=>by
  rcases List.mem_cons.mp z with rfl|z
  ·exact st.apart i j _ m _ hj e ej rfl o es ec
  ·exact (st.inn i xss a _ e es ha j m (Ne.symm hj) ej).2 c o ec (d5.mpr z)
 refine ⟨O.filter λb=>decide (b ∉ a::bs),⟨st.keep,λb hb=>st.here b (List.mem_filter.mp hb).1,λb hb=>mem b (λz=>st.old b hb (none b z)) (st.sub b hb),st.old,by rw [aS];exact st.len,λj m ej=>?_,λc d ps qs ad hcd e1 e2 p1 p2 e3 e4=>?_,λk yss a' us e1 e2 e3 j m hjk ej=>?_⟩,⟨λb hb ho=>mem b (λz=>hb (none b z)) ho,λb hb=>.inl (List.mem_filter.mp hb).1,λj zs hbm ej=>?_,aS
  ⟩⟩
 ·by_cases hj:i=j
  ·subst hj
   rw [ae hi'] at ej
   cases ej
   refine ⟨_,es,?_⟩
   show Rep K _ (.lst (xss.map .lst)) (.ref a)
   rw [Rep]
   exact ⟨a,_,rfl,SqL.of (out a (.head _) _ ha),qE r vis λb hb=>out b (.tail _ hb)⟩
  ·rw [aa hj] at ej
   obtain ⟨w,ew,q⟩:=st.slot j m ej
   refine ⟨w,ew,?_⟩
   cases m with
   | val v=>exact Rep.mono vis _ q
   | own zs=>obtain ⟨ad,ws,rfl,q1,q2,q3,q4⟩:=q;exact ⟨ad,ws,rfl,q1,Reps.mono vis _ q2,mem ad (apart j _ ad hj ej rfl ew) q3,q4⟩
   | ownD zs=>obtain ⟨ad,rfl,q1,q3,q4⟩:=q;exact ⟨ad,rfl,q1,mem ad (apart j _ ad hj ej rfl ew) q3,q4⟩
   | ownL zss=>cases (st.inn i xss a _ e es ha j _ (Ne.symm hj) ej).1
   | brwD zs=>exact q
   | brw zs=>obtain ⟨ad,ws,rfl,q1,q2⟩:=q;exact ⟨ad,ws,rfl,q1,Reps.mono vis _ q2⟩
 ·have h1:∀ (j:Nat) (zs:MV),dO zs=true->(put ρ i (.val (.lst (xss.map .lst))))[j]?=some (some zs)->ρ[j]?=some (some zs):=λj zs oz q=>by
   by_cases hj:i=j
   ·subst hj;rw [ae hi'] at q;cases q;cases oz
   ·rw [aa hj] at q;exact q
  exact st.apart c d ps qs ad hcd (h1 c ps p1 e1) (h1 d qs p2 e2) p1 p2 e3 e4
 ·have hk:i ≠ k:=λz=>by subst z;rw [ae hi'] at e1;cases e1
  rw [aa hk] at e1
  cases (st.inn i xss a _ e es ha k _ (Ne.symm hk) e1).1
 ·have hj:i ≠ j:=λz=>by subst z;rw [ae hi'] at ej;cases ej;cases hbm
  rw [aa hj] at ej
  exact ⟨ej,rfl⟩
end
section
variable {X:Cx}{T:Tab}{k:Nat}{cal:Cal}
theorem qF {i:Nat}{ms:List MS}{ss:List Stmt} (h:PSs X ss (tSs X.K cal ms)):PSs X ss (tSs X.K cal (.freezeL i::ms)):=by
 refine h.imp λD σ H q=>?_
 obtain ⟨B,O₀,O,ρ,st,q⟩:=q
 rw [exs,ex] at q
 cases hj:(ρ[i]?).join with
 | none=>rw [hj] at q;exact (show False from q).elim
 | some m =>
  rw [hj] at q
  cases m with
  | ownL xss =>
   obtain ⟨O',st',k'⟩:=st.freezeL (bw hj)
   exact ⟨B,O₀,O',_,st',dR.trans q k'⟩
  | _=>exact (show False from q).elim
theorem x6 {i:Nat}{mk me:ME}{x:Str}{sl v:Expr}{p sp apos cpos pos:Pos} (hk:PE X sl (tE X.K cal mk)) (hsl:bN sl=true) (h:PE X v (tE X.K cal me)) (hn:aD X.N X.env.scope i x=true) (hb:aF me=false) (hs:ak v=true) (hline:(apos.endLine == cpos.line)=true) :
  PS X (.Expr (.Call (.Attribute (.Subscript (.Name x p) sl sp) "append" apos) [v] [] cpos) pos) (tS X.K cal (.appI i mk me)):=by
 refine (lw (rn PySem.F.plainAttrs_list PySem.F.slot_list_append PySem.F.type_list_append ie (rk lB (bT hn) hk (gz hsl)) (aG h a_ (br hs _ _)) rfl (by rw [br hs];rfl) hline (br hs _ _) rfl) rfl).imp λD σ H q=>?_
 obtain ⟨B,O₀,O,ρ,st,q⟩:=q
 rw [ex] at q
 obtain ⟨kv,ek,q⟩:=dc q
 obtain ⟨w,e,q⟩:=dc q
 cases hj:(ρ[i]?).join with
 | none=>rw [hj] at q;exact (show False from q).elim
 | some m =>
  rw [hj] at q
  cases m with
  | ownL xss =>
   dsimp only at q
   cases ea:qt xss kv w with
   | none=>rw [ea] at q;exact (show False from q).elim
   | some yss =>
    rw [ea] at q
    cases kv <;> try (cases ea;done)
    rename_i j
    simp only [qt,Option.bind_eq_some_iff] at ea
    obtain ⟨pl,e1,xs,e2,e3⟩:=ea
    split at e3
    ·rename_i hl
     cases e3
     obtain ⟨u,eu,a,bs,rfl,ha,r,hO,hB,nd⟩:=bU st hj
     obtain ⟨b,us,f1,f2,f3,f4,f5⟩:=r.get e2
     refine ⟨_,eu,B,O₀,O,ρ,_,st,ek,λuk H1 s1 g1=>?_⟩
     have e4:=g1.1.int
     subst e4
     refine ⟨a,bs.map .ref,j,.ref b,rfl,rfl,SqL.of (s1 _ _ ha),?_,.inl ⟨rfl,us,SqL.of (s1 _ _ f2)⟩,B,O₀,O,ρ,w,st.mono s1,e,λu H2 s2 g2=>⟨b,us,u,rfl,rfl,s2 _ _ (s1 _ _ f2),?_,?_⟩⟩
     ·unfold atI
      rw [List.length_map,<- r.len,<- gX,e1,Option.bind_some,List.getElem?_map,f1]
      rfl
     ·rw [<- f3.length];exact Nat.lt_of_lt_of_le hl (by decide)
     ·have s3:=s1.trans s2
      obtain ⟨st',k'⟩:=(st.mono s3).changeI (q:=pl) (ys:=xs ++ [w]) (ws:=us ++ [u]) (bw hj) eu (s3 _ _ ha) (r.mono s3) hO hB nd f1 ((Reps.mono (ax s3) _ f3).snoc (g2.2 hb))
      exact q _ _ _ st' k'
    ·cases e3
  | _=>exact (show False from q).elim
noncomputable def tEn (n:Nat):TA:=λ_ H Q=>∀ (bs:List Addr) (H':Hp),ag H H'->bs.length=n->bs.Nodup->(∀ b ∈ bs,H b=none/\H' b=some (.lst []))->Q (bs.map .ref) H'
theorem jT:∀ (es:List Expr),es.all u6=true->PA X es (tEn es.length)
 | [],_=>a_.imp λσ H Q q=>q [] H (ag.refl H) rfl .nil λb hb=>nomatch hb
 | e::es,h=>by
  simp only [List.all_cons,Bool.and_eq_true] at h
  have he:∃ p,e=.List [] p:=by
   have h1:=h.1
   unfold u6 at h1
   split at h1
   ·exact ⟨_,rfl⟩
   ·cases h1
  obtain ⟨p,rfl⟩:=he
  refine (aG (jd a_) (jT es h.2) rfl).imp λσ H Q q=>?_
  refine ⟨Nat.zero_le _,λp hp bs H' s hl nd hb=>q (p::bs) H' ((aC hp _).trans s) (by rw [List.length_cons,hl];rfl) (List.nodup_cons.mpr ⟨λz=>?_,nd⟩) λb hb'=>?_⟩
  ·have:=(hb p z).1
   rw [aB] at this
   cases this
  ·rcases List.mem_cons.mp hb' with rfl|h
   ·exact ⟨hp,s _ _ aB⟩
   ·exact ⟨(aC hp _).free (hb b h).1,(hb b h).2⟩
theorem x9 {i:Nat}{es:List Expr}{x:Str}{px lp pos:Pos} (d:Df X) (hi:X.N[i]?=some x) (hx:Loc X.env.scope x) (h:es.all u6=true):PS X (.Assign [.Name x px] (.List es lp) pos) (tS X.K cal (.setL i es.length)):=by
 refine PS.imp' (i_ d.nd hi hx (jd (jT es h)) (dS (v:=.List es lp) rfl _ _ _) (.inl (d.fn x))) λD σ H hl q=>?_
 obtain ⟨B,O₀,O,ρ,st,q⟩:=q
 rw [ex] at q
 by_cases c:noL ρ=true/\es.length <= 10000
 ·rw [if_pos c] at q
  refine λbs H' s hlen nd hb=>⟨by rw [List.length_map,hlen];exact dG c.2,λa ha=>?_⟩
  have hab:∀ b ∈ bs,b ≠ a:=λb h z=>by rw [z] at h;rw [(hb a h).2] at ha;cases ha
  obtain ⟨st',k'⟩:=st.storeL (ltN hi hl) c.1 (s.trans (aC ha _)) (s.free ha) aB hlen (List.nodup_cons.mpr ⟨λz=>hab a z rfl,nd⟩) λb h=>⟨(hb b h).1,by rw [au (hab b h)];exact (hb b h).2⟩
  exact q _ _ _ st' k'
 ·rw [if_neg c] at q
  exact (show False from q).elim
theorem n6 {J:It}{xs:List PV}{V H1:Hp}{K:PySem.W.Frag}{σ0:St}{D:Addr}{Q:VK} (it:lZ K J xs V H1) (hn:xs.length <= 10000) (hD:H1 D=none)
  (q:∀ bs H',bs.length=xs.length->ag H1 H'->H' D=some (.lst (bs.map .ref))->(D::bs).Nodup->(∀ b ∈ bs,H1 b=none/\H' b=some (.lst []))->Q (.ref D) H'):mC J σ0 H1 w_ (wS p6) D Q:=by
 refine ⟨λi m _ H'=>m=xs.length - i/\i <= xs.length/\ag H1 H'/\∃ bs:List Addr,bs.length=i/\H' D=some (.lst (bs.map .ref))/\(D::bs).Nodup/\∀ b ∈ bs,H1 b=none/\H' b=some (.lst []),⟨xs.length,by simp,Nat.zero_le _,aC hD _,[],rfl,aB,by simp,λb hb=>by cases hb⟩,?_⟩
 rintro i m σ' H' ⟨rfl,hi,s2,bs,hl,hDy,nd,hb⟩
 by_cases hlt:i < xs.length
 ·right
  have ex:xs[i]?=some xs[i]:=List.getElem?_eq_getElem hlt
  refine ⟨it.go i _ H' s2 ex,λ_ H2=>∃ m',m' < xs.length - i/\(m'=xs.length - (i + 1)/\i + 1 <= xs.length/\ag H1 H2/\∃ bs:List Addr,bs.length=i + 1/\H2 D=some (.lst (bs.map .ref))/\(D::bs).Nodup/\∀ b ∈ bs,H1 b=none/\H2 b=some (.lst [])),λσ2 H2 z=>z,λux H2 y=>?_⟩
  obtain ⟨s3,_⟩:=it.yld i _ H' ux H2 s2 ex y
  unfold w_
  dsimp only
  rw [if_pos rfl]
  refine ⟨Nat.zero_le _,λp hp=>?_⟩
  have hDp:D ≠ p:=λz=>by rw [<- z,s3 _ _ hDy] at hp;cases hp
  have hbp:∀ b ∈ bs,b ≠ p:=λb h z=>by rw [<- z,s3 _ _ (hb b h).2] at hp;cases hp
  refine ⟨bs.map .ref,by rw [au hDp];exact s3 _ _ hDy,by rw [List.length_map,hl];exact Nat.lt_of_lt_of_le (Nat.lt_of_lt_of_le hlt hn) (by decide),xs.length - (i + 1),by omega,rfl,hlt,λb o e=>?_,bs ++ [p],by simp [hl],?_,?_,λb h=>?_⟩
  ·have nD:b ≠ D:=bn e hD
   have np:b ≠ p:=λz=>by rw [<- z,s3 _ _ (s2 _ _ e)] at hp;cases hp
   rw [au nD,au np]
   exact s3 _ _ (s2 _ _ e)
  ·rw [aB,List.map_append]
   rfl
  ·rw [<- List.cons_append,List.nodup_append]
   refine ⟨nd,by simp,λa ha b hb' z=>?_⟩
   rw [List.mem_singleton.mp hb'] at z
   subst z
   rcases List.mem_cons.mp ha with z|z
   ·exact hDp z.symm
   ·exact hbp _ z rfl
  ·rcases List.mem_append.mp h with h|h
   ·obtain ⟨h1,h2⟩:=hb b h
    have nD:b ≠ D:=λz=>(List.nodup_cons.mp nd).1 (z ▸ h)
    rw [au nD,au (hbp b h)]
    exact ⟨h1,s3 _ _ h2⟩
   ·rw [List.mem_singleton.mp h]
    refine ⟨(s2.trans s3).free hp,?_⟩
    rw [au (Ne.symm hDp)]
    exact aB
 ·left
  have hi':i=xs.length:=by omega
  subst hi'
  exact ⟨it.stop H' s2,q bs H' hl s2 hDy nd hb⟩
theorem vv {i:Nat}{me:ME}{x y:Str}{px py lp cpos pos:Pos}{it:Expr}{scope:Scope} (g:Gf X T k cal) (d:Df X) (hi:X.N[i]?=some x) (hx:Loc X.env.scope x) (hs:kZ X.env.scope x px (.ListComp (.List [] lp) [⟨.Name y py,it,[],0⟩] scope cpos)=true) (hsc:dj X.env.scope X.N scope y (bD X.N []) []=true) (hw:PI X (.Name y py) it (tW X.K cal .rng [me])) (hns:eU it=true) :
  PS X (.Assign [.Name x px] (.ListComp (.List [] lp) [⟨.Name y py,it,[],0⟩] scope cpos) pos) (tS X.K cal (.setLN i me)):=by
 refine PS.imp' (jz d.nd hi hx (iD hsc) g.calm hw (λs₁ H₁ C fp=>rM) (λs₁ H₁ C fp=>jd a_) (k8 d hs) (by intro v;cases it <;> first|rfl|(simp [eU] at hns)) (.inl (d.fn x))) λD σ H hl q=>?_
 obtain ⟨B,O₀,O,ρ,st,q⟩:=q
 rw [ex] at q
 cases e:ev cal me ρ with
 | none=>rw [e] at q;exact (show False from q).elim
 | some v =>
  rw [e] at q
  cases v <;> first|exact (show False from q).elim|skip
  rename_i n
  dsimp only at q
  by_cases c:noL ρ=true/\0 <= n/\n <= 10000
  ·rw [if_pos c] at q
   refine ⟨B,O₀,O,ρ,[.int n],(List.range n.toNat).map λ(k:Nat)=>.int ((0:Int) + k),st,by rw [evs,e];rfl,(show dA .rng [.int n]=if -(2 ^ 62) <= n/\n < 2 ^ 62 then some ((List.range n.toNat).map λ(k:Nat)=>.int ((0:Int) + k)) else none from rfl).trans (if_pos ⟨by omega,by omega⟩),λJ H1 s1 hit D' hD=>?_⟩
   have it1:=hit.weak (jO (st.keep.trans s1))
   refine n6 it1 (by simp;omega) hD λbs H' hlen s2 eD nd hb=>?_
   obtain ⟨st',k'⟩:=st.storeL (n:=n.toNat) (ltN hi hl) c.1 (s1.trans s2) (s1.free hD) eD (by simpa using hlen) nd λb h=>⟨s1.free (hb b h).1,(hb b h).2⟩
   exact q _ _ _ st' k'
  ·rw [if_neg c] at q
   exact (show False from q).elim
end
end MM
namespace MM
open PySem PySem.Spec PyProof.Rows L2
section
variable {X:Cx}{T:Tab}{k:Nat}{cal:Cal}
theorem Gf.nox (g:Gf X T k cal):Gf X.nox T k cal:=by cases g;constructor <;> assumption
theorem Gf.unnox (g:Gf X.nox T k cal):Gf X T k cal:=by cases g;constructor <;> assumption
theorem x_ {st:Stmt}{t:TS} (h:PS X.nox st t):PS X st t:=λpins s σ H D I hw=>wpAny_mono (h pins s σ H D (I.wish _) hw) (λ_ _ q=>q.unwish) λ_ _ z=>False.elim z
theorem Df.nox (d:Df X):Df X.nox:=⟨d.nd,d.fn,PassesOwn.never,d.blk,d.stk⟩
theorem fH (g:Gf X T k cal) {c:Str} (h:T.es.contains c=true):∃ C ms,X.mg c=some (.ref C)/\dN X.K C ms=true/\jD X.K C=true/\PySem.W.kitOne X.K (.ref C) (.type "ValueError")=some true /\
  ∀ d D,T.es.contains d=true->X.mg d=some (.ref D)->(Value.ref C::ms).contains (.ref D)=gx c d/\PySem.W.kitOne X.K (.ref C) (.ref D)=some (gx c d):=by
 have e:=g.errs
 unfold mX at e
 rw [Bool.and_eq_true,List.all_eq_true] at e
 have q:=e.2 c (List.contains_iff_mem.mp h)
 split at q
 ·rename_i C hC
  split at q
  ·rename_i ms hm
   simp only [Bool.and_eq_true,beq_iff_eq,List.all_eq_true] at q
   refine ⟨C,ms,g.mgs c _ hC,q.1.1.1,q.1.1.2,q.1.2,λd D hd hD=>?_⟩
   have z:=q.2 d (List.contains_iff_mem.mp hd)
   unfold zI at z
   split at z
   ·rename_i D' hD'
    have w:=g.mgs d _ hD'
    rw [hD] at w
    cases w
    simp only [Bool.and_eq_true,beq_iff_eq] at z
    exact z
   ·cases z
  ·cases q
 ·cases q
theorem sW (g:Gf X T k cal):X.mg ("ValueError":Str)=none:=by
 have e:=g.errs
 unfold mX at e
 rw [Bool.and_eq_true,beq_iff_eq] at e
 exact g.mgs _ _ e.1
theorem sX:bootBuiltins ("ValueError":Str)=some (.type "ValueError"):=by decide +kernel
theorem sY:bootBuiltins ("isinstance":Str)=some (.builtin "isinstance"):=by decide +kernel
noncomputable def nh (ρ:Rho) (σ:St):Prop:=∀ (i:Nat) (n:Int),(ρ[i]?).join=some (MV.val (PV.int n))->σ[i]?=some (some (V.int n))
noncomputable def qG (h:HH) (σ:St) (u:V):St:=match h.e with
 | none=>σ.set h.i (some u)
 | some k=>(σ.set h.i (some u)).set k none
theorem wo (g:Gf X T k cal) {e:Option Nat}{a:HA}{v:Expr} (hc:xw T.es X.N X.env.scope e a v=true):∃ t:Addr->Addr->Obj->TE,(∀ c C ea oe,T.es.contains c=true->X.mg c=some (.ref C)->oe.cls=.ref C->PE (X.within ea oe) v (t C ea oe))/\cI v=true/\ak v=true /\
  ∀ c C ea oe ρ σ H Q s,T.es.contains c=true->X.mg c=some (.ref C)->oe.cls=.ref C->(∀ k,e=some k->σ[k]?=some (some (.ref ea)))->nh ρ σ->a.val c ρ=some s->Q s.v H->t C ea oe σ H Q:=by
 cases a with
 | cst w =>
  obtain ⟨s0,e1,e2⟩:=aA hc
  have e2:=of_decide_eq_true e2
  rcases vb e1 with ⟨b,j,p,rfl,rfl⟩|⟨x,j,p,rfl,rfl⟩
  ·refine ⟨λ_ _ _=>tC (.bl b),λ_ _ _ _ _ _ _=>vZ,rfl,rfl,λc C ea oe ρ σ H Q s _ _ _ _ _ hs q=>?_⟩
   have:s=.bl b:=by
    have hs:sc? w=some s:=hs
    rw [e2] at hs
    cases hs
    rfl
   subst this
   exact q
  ·refine ⟨λ_ _ _=>tC (.str x),λ_ _ _ _ _ _ _=>ny,rfl,rfl,λc C ea oe ρ σ H Q s _ _ _ _ _ hs q=>?_⟩
   have:s=.str x:=by
    have hs:sc? w=some s:=hs
    rw [e2] at hs
    cases hs
    rfl
   subst this
   exact q
 | isi dn =>
  obtain ⟨⟨en,d2⟩,e1,hc1⟩:=aA hc
  obtain ⟨ke,e2,hc2⟩:=aA hc1
  subst e2
  simp only [Bool.and_eq_true,beq_iff_eq,Bool.or_eq_true] at hc2
  obtain ⟨⟨⟨⟨⟨h1,rfl⟩,h3⟩,h4⟩,h5⟩,h6⟩:=hc2
  obtain ⟨p,p1,p2,pos,rfl⟩:=va e1
  have hi:X.mg ("isinstance":Str)=none:=g.blt _ (by simp [fD])
  have key:∃ (dv:V) (dx:Value),(∀ ea oe,PE (X.within ea oe) (.Name d2 p2) (tC dv))/\(∀ u,ar dv u->u=dx)/\∀ c C,T.es.contains c=true->X.mg c=some (.ref C)->PySem.W.kitOne X.K (.ref C) dx=some (d2 == ("ValueError":Str) || gx c d2):=by
   rcases h6 with h6|h6
   ·obtain ⟨D,ds,m1,_,_,_,_⟩:=fH g h6
    refine ⟨.ref D,.ref D,λea oe=>oD (X:=X.within ea oe) (v:=.ref D) (cR (X:=X.within ea oe) h3) m1 rfl (c8 h4).1,λu z=>z,λc C hc hm=>?_⟩
    obtain ⟨C',ms,m2,_,_,_,m3⟩:=fH g hc
    rw [hm] at m2
    cases m2
    have hv:(d2 == ("ValueError":Str))=false:=by
     rw [beq_eq_false_iff_ne]
     intro z
     rw [z,sW g] at m1
     cases m1
    rw [hv,Bool.false_or]
    exact (m3 _ D h6 m1).2
   ·have h6:d2="ValueError":=h6
    subst h6
    have mv:=sW g
    refine ⟨.ty "ValueError",.type "ValueError",λea oe=>oE (X:=X.within ea oe) (x:="ValueError") (v:=.ty "ValueError") (cR (X:=X.within ea oe) h3) mv sX rfl,λu z=>z,λc C hc hm=>?_⟩
    obtain ⟨C',ms,m2,_,_,m3,_⟩:=fH g hc
    rw [hm] at m2
    cases m2
    rw [m3,beq_self_eq_true,Bool.true_or]
  obtain ⟨dv,dx,kp,kr,kk⟩:=key
  refine ⟨λC ea _=>tCB (λus H Q=>∃ y c b,us=[.ref ea,y]/\(∀ u,ar y u->u=c)/\PySem.W.kitOne X.K (.ref C) c=some b/\Q (.bl b) H) (md (ww ke) (md (tC dv) p6)),λc C ea oe hc hm ho=>?_,rfl,rfl,λc C ea oe ρ σ H Q s hc hm ho hk _ hs q=>?_⟩
  ·obtain ⟨C',ms,m2,m3,m4,_,_⟩:=fH g hc
   rw [hm] at m2
   cases m2
   exact cw (X:=X.within ea oe) (nS m3 m4 ho) (cR (X:=X.within ea oe) h5) hi sY (aG (bT (X:=X.within ea oe) h1) (aG (kp ea oe) a_))
  ·have hs:some (Sc.bl (d2 == ("ValueError":Str) || gx c d2))=some s:=hs
   cases hs
   exact ⟨_,hk ke rfl,dv,dx,_,rfl,kr,kk c C hc hm,q⟩
 | inc i m=>cases hc
theorem sZ (g:Gf X T k cal) {e:Option Nat}:∀ {as:List HA}{vs:List Expr},su T.es X.N X.env.scope e as vs=true->∃ t:Addr->Addr->Obj->TA,(∀ c C ea oe,T.es.contains c=true->X.mg c=some (.ref C)->oe.cls=.ref C->PA (X.within ea oe) vs (t C ea oe)) /\
  ∀ c C ea oe ρ σ H Q ss,T.es.contains c=true->X.mg c=some (.ref C)->oe.cls=.ref C->(∀ k,e=some k->σ[k]?=some (some (.ref ea)))->nh ρ σ->HA.vals c ρ as=some ss->Q (ss.map Sc.v) H->t C ea oe σ H Q
 | [],[],_=>⟨λ_ _ _=>p6,λ_ _ _ _ _ _ _=>a_,λc C ea oe ρ σ H Q ss _ _ _ _ _ hs q=>by
   have hs:some ([]:List Sc)=some ss:=hs
   cases hs
   exact q⟩
 | [],_::_,z=>by cases z
 | _::_,[],z=>by cases z
 | a::as,v::vs,hc=>by
  obtain ⟨c1,c2⟩:=Bool.and_eq_true_iff.mp hc
  obtain ⟨t1,p1,_,ns,q1⟩:=wo g c1
  obtain ⟨t2,p2,q2⟩:=sZ g c2
  refine ⟨λC ea oe=>md (t1 C ea oe) (t2 C ea oe),λc C ea oe hc hm ho=>aG (p1 c C ea oe hc hm ho) (p2 c C ea oe hc hm ho) (br ns vs _),λc C ea oe ρ σ H Q ss hc hm ho hk hρ hs q=>?_⟩
  have hs:((a.val c ρ).bind λs=>(HA.vals c ρ as).map (s::·))=some ss:=hs
  obtain ⟨s,e1,e2⟩:=Option.bind_eq_some_iff.mp hs
  obtain ⟨ss',e3,rfl⟩:=Option.map_eq_some_iff.mp e2
  exact q1 c C ea oe ρ σ H _ s hc hm ho hk hρ e1 (q2 c C ea oe ρ σ H _ ss' hc hm ho hk hρ e3 q)
theorem z9 (g:Gf X T k cal) {e:Option Nat}{a:HE}{v:Expr} (hc:zG T.es X.N X.env.scope e a v=true):∃ t:Addr->Addr->Obj->TE,(∀ c C ea oe,T.es.contains c=true->X.mg c=some (.ref C)->oe.cls=.ref C->PE (X.within ea oe) v (t C ea oe))/\cI v=true /\
  ∀ c C ea oe ρ σ H Q w,T.es.contains c=true->X.mg c=some (.ref C)->oe.cls=.ref C->(∀ k,e=some k->σ[k]?=some (some (.ref ea)))->nh ρ σ->a.val c ρ=some w->(∀ u H2,ag H H2->(∀ O,(∀ a ∈ O,H a ≠ none)->Rep X.K (ai H2 O) w u)->Q u H2)->t C ea oe σ H Q:=by
 cases a with
 | one a =>
  obtain ⟨t,p,n,_,q⟩:=wo g hc
  refine ⟨t,p,n,λc C ea oe ρ σ H Q w hc hm ho hk hρ hs hq=>?_⟩
  obtain ⟨s,e1,rfl⟩:=Option.map_eq_some_iff.mp (show (a.val c ρ).map Sc.pv=some w from hs)
  exact q c C ea oe ρ σ H Q s hc hm ho hk hρ e1 (hq _ H (ag.refl H) λO _=>sP X.K _ s)
 | lst as =>
  obtain ⟨⟨xs,lp⟩,e1,hc1⟩:=aA hc
  have e2:=vc e1
  subst e2
  obtain ⟨t,p,q⟩:=sZ g hc1
  refine ⟨λC ea oe=>wS (t C ea oe),λc C ea oe hc hm ho=>jd (p c C ea oe hc hm ho),rfl,λc C ea oe ρ σ H Q w hc hm ho hk hρ hs hq=>?_⟩
  have hs:(if as.length <= 100 then (HA.vals c ρ as).map λss=>PV.lst (ss.map Sc.pv) else none)=some w:=hs
  split at hs
  ·rename_i hl
   obtain ⟨ss,e3,rfl⟩:=Option.map_eq_some_iff.mp hs
   refine q c C ea oe ρ σ H _ ss hc hm ho hk hρ e3 ⟨?_,λp hp=>hq _ _ (aC hp _) λO hO=>jN hO hp (pG X.K _ ss)⟩
   have hlen:∀ {as:List HA}{ss:List Sc},HA.vals c ρ as=some ss->ss.length=as.length:=by
    intro as
    induction as with
    | nil=>intro ss h;cases (show some ([]:List Sc)=some ss from h);rfl
    | cons a as ih =>
     intro ss h
     obtain ⟨s,_,e2⟩:=Option.bind_eq_some_iff.mp (show ((a.val c ρ).bind λs=>(HA.vals c ρ as).map (s::·))=some ss from h)
     obtain ⟨ss',e3,rfl⟩:=Option.map_eq_some_iff.mp e2
     rw [List.length_cons,List.length_cons,ih e3]
   rw [List.length_map,hlen e3]
   exact Nat.le_trans hl (by decide)
  ·cases hs
theorem s_ {σ:St}{i j:Nat}{a b c:Option V} (h:i ≠ j):((σ.set i a).set j b).set i c=(σ.set j b).set i c:=by
 rw [List.set_comm _ _ h,List.set_set]
theorem vw (g:Gf X T k cal) (d:Df X) {h:HH}{x:ExceptHandler}{bR:List ExceptHandler}{tr:Addr->TS} (hc:zH T.es X.N X.env.scope h x=true) (hr:PH X bR tr):∃ th:Addr->TS,PH X (x::bR) th /\
  ∀ c C D ρ σ H,T.es.contains c=true->X.mg c=some (.ref C)->σ.length=X.N.length->nh ρ σ->(gx c h.cls=true->h.free ρ=true/\∃ w,h.v.val c ρ=some w/\∀ u H2,ag H H2->(∀ O,(∀ a ∈ O,H a ≠ none)->Rep X.K (ai H2 O) w u)->D.nx (qG h σ u) H2)->(gx c h.cls=false->tr C D σ H)->th C D σ H:=by
 obtain ⟨⟨cn,nm,y,v⟩,e1,hc1⟩:=aA hc
 simp only [Bool.and_eq_true,beq_iff_eq] at hc1
 obtain ⟨⟨⟨⟨⟨⟨⟨⟨⟨rfl,h2⟩,h3⟩,h4⟩,h5⟩,h6⟩,h7⟩,h8⟩,h9⟩,h10⟩:=hc1
 obtain ⟨np,py,p,pos,rfl⟩:=sr e1
 obtain ⟨Dc,ds,m1,m2,_,_,_⟩:=fH g h4
 obtain ⟨t,ht,hn,hv⟩:=z9 g h10
 have hset:∀ C ea oe,oe.cls=.ref C->PSs (X.within ea oe) [.Assign [.Name y py] v p] (λD σ H=>(∃ c,T.es.contains c=true/\X.mg c=some (.ref C))/\pU (t C ea oe) (fZ h.i) D σ H):=λC ea oe ho pins s σ H D I q=>by
  obtain ⟨⟨c,hc,hm⟩,q⟩:=q
  exact iW (i_ (X:=X.within ea oe) d.nd h5 (gh h6) (ht c C ea oe hc hm ho) (dS hn _ _ _) (.inl (d.fn y))) pins s σ H D I q
 have key:∀ c C,T.es.contains c=true->X.mg c=some (.ref C)->∃ ms,dN X.K C ms=true/\(Value.ref C::ms).contains (.ref Dc)=gx c h.cls:=λc C hc hm=>by
  obtain ⟨C',ms,n1,n2,_,_,n3⟩:=fH g hc
  rw [hm] at n1
  cases n1
  exact ⟨ms,n2,(n3 _ Dc h4 m1).1⟩
 cases nm with
 | none =>
  have he:h.e=none:=by
   cases z:h.e with
   | none=>rfl
   | some k=>rw [z] at h8;cases h8
  refine ⟨_,uX (cR h2) m1 m2 (c8 h3).1 hset hr,λc C D ρ σ H hc hm hl hρ k1 k2=>?_⟩
  obtain ⟨ms,n2,n3⟩:=key c C hc hm
  refine ⟨ms,n2,?_⟩
  rw [n3]
  split
  ·rename_i z
   intro ea oe ho
   obtain ⟨_,s,e2,q⟩:=k1 z
   refine ⟨⟨c,hc,hm⟩,hv c C ea oe ρ σ H _ s hc hm ho (λk z=>by rw [he] at z;cases z) hρ e2 λu H2 s2 ru=>?_⟩
   have q:=q u H2 s2 ru
   unfold qG at q
   rw [he] at q
   exact q
  ·rename_i z
   exact k2 (Bool.eq_false_iff.mpr z)
 | some n =>
  have ⟨ke,he⟩:∃ ke,h.e=some ke:=by
   cases z:h.e with
   | none=>rw [z] at h8;cases h8
   | some k=>exact ⟨k,rfl⟩
  rw [he] at h8 h9
  have h8:(X.N[ke]? == some n&&X.env.scope.names.lookup n == some .local)=true:=h8
  simp only [Bool.and_eq_true,beq_iff_eq] at h8
  have hne:ke ≠ h.i:=λz=>(of_decide_eq_true h9) (by rw [z])
  refine ⟨_,zw (cR h2) m1 m2 (c8 h3).1 d.nd h8.1 h8.2 hset hr,λc C D ρ σ H hc hm hl hρ k1 k2=>?_⟩
  obtain ⟨ms,n2,n3⟩:=key c C hc hm
  refine ⟨ms,n2,?_⟩
  rw [n3]
  split
  ·rename_i z
   intro ea oe ho
   obtain ⟨hfr,s,e2,q⟩:=k1 z
   unfold HH.free at hfr
   rw [he] at hfr
   have hfr:(ρ[ke]?).join=none:=Option.isNone_iff_eq_none.mp hfr
   have hρ':nh ρ (σ.set ke (some (.ref ea))):=λi n e=>by
    rw [List.getElem?_set_ne λ(z:ke=i)=>by rw [<- z,hfr] at e;cases e]
    exact hρ i n e
   have hlt:ke < σ.length:=by rw [hl];exact (List.getElem?_eq_some_iff.mp h8.1).1
   refine ⟨⟨c,hc,hm⟩,hv c C ea oe ρ (σ.set ke (some (.ref ea))) H _ s hc hm ho (λk z=>?_) hρ' e2 λu H2 s2 ru=>?_⟩
   ·rw [he] at z
    cases z
    exact List.getElem?_set_self hlt
   ·have q:=q u H2 s2 ru
    unfold qG at q
    rw [he] at q
    show D.nx (((σ.set ke (some (.ref ea))).set h.i (some u)).set ke none) H2
    rw [s_ hne]
    exact q
  ·rename_i z
   exact k2 (Bool.eq_false_iff.mpr z)
theorem ni (g:Gf X T k cal) (d:Df X):∀ {hs:List HH}{xs:List ExceptHandler},po T.es X.N X.env.scope hs xs=true->∃ th:Addr->TS,PH X xs th /\
  ∀ c C D ρ σ H h,T.es.contains c=true->X.mg c=some (.ref C)->σ.length=X.N.length->nh ρ σ->(hs.find? λh=>gx c h.cls)=some h->(h.free ρ=true/\∃ w,h.v.val c ρ=some w/\∀ u H2,ag H H2->(∀ O,(∀ a ∈ O,H a ≠ none)->Rep X.K (ai H2 O) w u)->D.nx (qG h σ u) H2)->th C D σ H
 | [],[],_=>⟨_,xi,λc C D ρ σ H h _ _ _ _ z=>by cases z⟩
 | [],_::_,z=>by cases z
 | _::_,[],z=>by cases z
 | h::hs,x::xs,hc=>by
  obtain ⟨c1,c2⟩:=Bool.and_eq_true_iff.mp hc
  obtain ⟨tr,pr,kr⟩:=ni g d c2
  obtain ⟨th,ph,kh⟩:=vw g d c1 pr
  refine ⟨th,ph,λc C D ρ σ H h' hc hm hl hρ hf q=>kh c C D ρ σ H hc hm hl hρ (λz=>?_) λz=>?_⟩
  ·rw [List.find?_cons_of_pos (p:=λh:HH=>gx c h.cls) z] at hf
   cases hf
   exact q
  ·rw [List.find?_cons_of_neg (p:=λh:HH=>gx c h.cls) (by rw [z];simp)] at hf
   exact kr c C D ρ σ H h' hc hm hl hρ hf q
theorem nj:∀ {hs:List HH}{xs:List ExceptHandler},po T.es X.N X.env.scope hs xs=true->∀ h ∈ hs,h.i < X.N.length/\h.e ≠ some h.i
 | [],[],_=>λh hh=>by cases hh
 | [],_::_,z=>by cases z
 | _::_,[],z=>by cases z
 | h::hs,x::xs,hc=>λh' hh=>by
  obtain ⟨c1,c2⟩:=Bool.and_eq_true_iff.mp hc
  rcases List.mem_cons.mp hh with rfl|hh
  ·obtain ⟨q,e1,c1⟩:=aA c1
   simp only [Bool.and_eq_true,beq_iff_eq] at c1
   exact ⟨(List.getElem?_eq_some_iff.mp c1.1.1.1.1.1.2).1,of_decide_eq_true c1.1.2⟩
  ·exact nj c2 h' hh
theorem aw.forget {K:PySem.W.Frag}{B H:Hp}{O₀ O:List Addr}{ρ:Rho}{σ:St}{j:Nat} (st:aw K B O₀ O H ρ σ) (hj:(ρ[j]?).join=none):aw K B O₀ O H ρ (σ.set j none):=by
 have ne:∀ (i:Nat) (m:MV),ρ[i]?=some (some m)->j ≠ i:=λi m e z=>by
  subst z
  rw [e] at hj
  cases hj
 refine ⟨st.keep,st.here,st.sub,st.old,by rw [List.length_set];exact st.len,λi m e=>?_,λi i' m m' a hij e1 e2 o1 o2 e3 e4=>?_
  ,?_
  ⟩
 ·rw [List.getElem?_set_ne (ne i m e)]
  exact st.slot i m e
 ·rw [List.getElem?_set_ne (ne i m e1)] at e3
  rw [List.getElem?_set_ne (ne i' m' e2)] at e4
  exact st.apart i i' m m' a hij e1 e2 o1 o2 e3 e4
 ·exact c7 st.inn (λi xss e=>⟨e,List.getElem?_set_ne (ne i _ e),λ_ _ _ h=>h⟩) λi m c e _ o es=>.inl ⟨m,e,o,by rw [List.getElem?_set_ne (ne i m e)] at es;exact es⟩
theorem aZ.forget {B:Hp}{O O':List Addr}{ρ ρ':Rho}{σ σ':St}{j:Nat} (k:aZ B O O' ρ ρ' σ σ') (hj:(ρ'[j]?).join=none):aZ B O O' ρ ρ' σ (σ'.set j none):=by
 have ne:∀ (i:Nat) (m:MV),ρ'[i]?=some (some m)->j ≠ i:=λi m e z=>by
  subst z
  rw [e] at hj
  cases hj
 refine ⟨k.stay,k.new,λi m b e=>?_,k.len
  ⟩
 ·rw [List.getElem?_set_ne (ne i m e)]
  exact k.brw i m b e
theorem vz {K:PySem.W.Frag}{B H:Hp}{O₀ O:List Addr}{ρ:Rho}{σ:St} (st:aw K B O₀ O H ρ σ):nh ρ σ:=λi n e=>by
 obtain ⟨u,e1,r⟩:=st.slot i _ (bw e)
 have r:Rep K (ai H O) (.int n) u:=r
 rw [e1,show u=.int n from by simpa only [Rep] using r]
theorem tf {j:Option Nat}{f:Nat}{ms:List ME}{hs:List HH}{th:Addr->TS}{D:fk}{σ:St}{H:Hp} (hl:σ.length=X.N.length) (hj:∀ i,j=some i->i < X.N.length) (hi:∀ h ∈ hs,h.i < X.N.length/\h.e ≠ some h.i)
  (kh:∀ c C D ρ σ H h,T.es.contains c=true->X.mg c=some (.ref C)->σ.length=X.N.length->nh ρ σ->(hs.find? λh=>gx c h.cls)=some h->(h.free ρ=true/\∃ w,h.v.val c ρ=some w/\∀ u H2,ag H H2->(∀ O,(∀ a ∈ O,H a ≠ none)->Rep X.K (ai H2 O) w u)->D.nx (qG h σ u) H2)->th C D σ H) (q:tS X.K cal (.tryC j f ms hs) D σ H) :
  tAs X.K cal ms σ H λvs H1=>spE X.K X.mg T.es cal f vs H1 (λu H2=>match j with|none=>D.nx σ H2|some i=>D.nx (σ.set i (some u)) H2) λc _ H2=>∃ C,c=.ref C/\th C D σ H2:=by
 obtain ⟨B,O₀,O,ρ,st,q⟩:=q
 rw [ex] at q
 cases e:(evA cal ms ρ).bind λvs=>cal (f + 5000) vs with
 | none=>rw [e] at q;exact (show False from q).elim
 | some r =>
  rw [e] at q
  obtain ⟨vs,e1,e2⟩:=Option.bind_eq_some_iff.mp e
  refine ⟨B,O₀,O,ρ,vs,st,e1,λus H1 s1 pa=>⟨O,vs,r,bg s1 st.here,pa,e2,?_⟩⟩
  clear e e1 e2
  split at q
  ·rename_i v hr
   cases hr
   refine .inl ⟨v,rfl,λu H2 s2 ru=>?_⟩
   have st':=(st.mono s1).mono s2
   cases j with
   | none=>exact q σ H2 O st' .refl
   | some i =>
    obtain ⟨st2,k2⟩:=st'.store (i:=i) (by rw [hl];exact hj i rfl) ru
    exact q _ H2 O st2 k2
  ·rename_i c hr
   cases hr
   split at q
   ·rename_i h hf
    split at q
    ·rename_i s hv
     split at q
     ·rename_i hfree
      refine .inr ⟨c,rfl,λC H2 hc hm s2=>⟨C,rfl,kh c C D ρ σ H2 h hc hm hl (vz st) hf ⟨hfree,s,hv,λu H3 s3 ru=>?_⟩⟩⟩
      have st0:=(st.mono s1).mono s2
      have st':=st0.mono s3
      have hlt:h.i < σ.length:=by rw [hl];exact (hi h (List.mem_of_find?_eq_some hf)).1
      obtain ⟨st2,k2⟩:=st'.store (i:=h.i) hlt (ru O st0.here)
      unfold qG
      unfold HH.free at hfree
      cases he:h.e with
      | none=>exact q _ H3 O st2 k2
      | some ke =>
       rw [he] at hfree
       have hn:(ρ[ke]?).join=none:=Option.isNone_iff_eq_none.mp hfree
       have hp:((put ρ h.i (.val s))[ke]?).join=none:=by
        rw [aa λz=>(hi h (List.mem_of_find?_eq_some hf)).2 (by rw [he,z])]
        exact hn
       exact q _ H3 O (st2.forget hp) (k2.forget hp)
     ·exact (show False from q).elim
    ·exact (show False from q).elim
   ·exact (show False from q).elim
  ·exact (show False from q).elim
theorem ya {j:Option Nat}{f:Nat}{ms:List ME}{hs:List HH}{s:Stmt} (g:Gf X T k cal) (d:Df X) (hc:c_ T X.N X.env.scope (.tryC j f ms hs) s=true) (ha:∀ es,chks T ms X.N X.env.scope es=true->PA X.nox es (tAs X.K cal ms)/\es.all ak=true):PS X s (tS X.K cal (.tryC j f ms hs)):=by
 obtain ⟨q,e1,hc⟩:=aA hc
 obtain ⟨b,e2,hc⟩:=aA hc
 obtain ⟨cl,e3,hc⟩:=aA hc
 obtain ⟨pos,rfl⟩:=u8 e1
 obtain ⟨bs,h0,ht⟩:=q
 obtain ⟨bj,be,bp⟩:=b
 obtain ⟨cp,cpos,he⟩:=pi e3
 have he:be=.Call (.Name cl.1 cp) cl.2 [] cpos:=he
 subst he
 simp only [Bool.and_eq_true,beq_iff_eq,Bool.not_eq_true'] at hc
 obtain ⟨⟨⟨⟨⟨⟨h1,h2⟩,h3⟩,h4⟩,h5⟩,h6⟩,h7⟩:=hc
 obtain ⟨fn,args⟩:=cl
 obtain ⟨fa,fd,ps,m1,m2,m3,F⟩:=g.fnsE f fn h2
 obtain ⟨pa,hst⟩:=ha args h5
 obtain ⟨th,ph,kh⟩:=ni g d h7
 have hi:∀ h ∈ hs,h.i < X.N.length/\h.e ≠ some h.i:=nj h7
 match args,h6,pa,hst,e2 with
 | [],h6,_,_,_=>cases h6
 | e::es,_,pa,hst,e2 =>
  have hs2:=List.all_cons (f:=ak) ▸ hst
  rw [Bool.and_eq_true] at hs2
  have px:=uV (X:=X) (p:=cp) (pos:=cpos) F g.room (cR h3) m1 m2 m3 pa (c8 h4).1 (br hs2.1 es _) (bP hs2.2)
  rcases u9 e2 with ⟨z,rfl⟩|⟨x,px',z,rfl⟩
  ·have z:bj=none:=z
   subst z
   have hj:j=none:=by
    cases j with
    | none=>rfl
    | some i=>cases h1
   subst hj
   exact PS.imp' (xh d.stk.1 d.stk.2 px ph rfl) λD σ H hl q=>tf hl (λi z=>by cases z) hi kh q
  ·have z:bj=some (x,px'):=z
   subst z
   cases j with
   | none=>cases h1
   | some i =>
    have h1:(X.N[i]? == some x&&fA X.env.scope x&&ah x)=true:=h1
    simp only [Bool.and_eq_true,beq_iff_eq] at h1
    exact PS.imp' (uW d.stk.1 d.stk.2 d.nd h1.1.1 (gh h1.1.2) (.inl (d.fn x)) px ph rfl) λD σ H hl q=>tf hl (λi' z=>by cases z;exact (List.getElem?_eq_some_iff.mp h1.1.1).1) hi kh q
end
end MM
namespace MM
open PySem PySem.Spec PyProof.Rows L2
section
variable {X:Cx}{T:Tab}{k:Nat}{cal:Cal}
theorem aw.anyAt {K:PySem.W.Frag}{B H:Hp}{O₀ O:List Addr}{ρ:Rho}{σ:St}{j:Nat} (st:aw K B O₀ O H ρ σ) (hj:(ρ[j]?).join=none) (w:Option V):aw K B O₀ O H ρ (σ.set j w):=by
 have ne:∀ (i:Nat) (m:MV),ρ[i]?=some (some m)->j ≠ i:=λi m e z=>by
  subst z
  rw [e] at hj
  cases hj
 refine ⟨st.keep,st.here,st.sub,st.old,by rw [List.length_set];exact st.len,λi m e=>?_,λi i' m m' a hij e1 e2 o1 o2 e3 e4=>?_
  ,?_
  ⟩
 ·rw [List.getElem?_set_ne (ne i m e)]
  exact st.slot i m e
 ·rw [List.getElem?_set_ne (ne i m e1)] at e3
  rw [List.getElem?_set_ne (ne i' m' e2)] at e4
  exact st.apart i i' m m' a hij e1 e2 o1 o2 e3 e4
 ·exact c7 st.inn (λi xss e=>⟨e,List.getElem?_set_ne (ne i _ e),λ_ _ _ h=>h⟩) λi m c e _ o es=>.inl ⟨m,e,o,by rw [List.getElem?_set_ne (ne i m e)] at es;exact es⟩
noncomputable def tU (K:PySem.W.Frag) (cal:Cal) (f:Nat) (ms:List ME):TE:=λσ H Q=>∃ B O₀ O ρ vs n,aw K B O₀ O H ρ σ/\evA cal ms ρ=some vs/\cal (f + 7000) vs=some (.int n)/\∀ (a:Addr) (us:List V) (H':Hp),ag H H'->H' a=some (.tup us)->(us.length:Int)=n->Q (.ref a) H'
theorem vA {f:Nat}{ms:List ME}{x:Str}{es:List Expr}{p pos:Pos} (g:Gf X T k cal) (hf:T.fs[f]?=some x) (hg:glB X.env.scope x=true) (hn:ah x=true) (ha:PA X es (tAs X.K cal ms)) (hs:es.all ak=true) (hne:es.isEmpty=false):PE X (.Call (.Name x p) es [] pos) (tU X.K cal f ms):=by
 obtain ⟨fa,fd,ps,h1,h2,h3,F⟩:=g.fnsU f x hf
 cases es with
 | nil=>cases hne
 | cons e es =>
  simp only [List.all_cons,Bool.and_eq_true] at hs
  refine (oN (x:=x) F g.room (cR hg) h1 h2 h3 .nil rq ha (c8 hn).1 (br hs.1 _ _) (bP hs.2)).imp λσ H Q q=>?_
  obtain ⟨B,O₀,O,ρ,vs,n,st,e1,e2,q⟩:=q
  refine ⟨B,O₀,O,ρ,vs,st,e1,λus H1 s1 g1=>?_⟩
  show spU X.K cal f (us ++ []) H1 Q E0
  rw [List.append_nil]
  exact ⟨O,vs,n,bg s1 st.here,g1,e2,λa ws H' s' ha hl=>q a ws H' (s1.trans s') ha hl⟩
noncomputable def z_ (K:PySem.W.Frag) (cal:Cal) (me:ME):TE:=λσ H Q=>∃ B O₀ O ρ v xs ts,aw K B O₀ O H ρ σ/\ev cal me ρ=some v/\aI v=some xs/\dt xs=some ts/\64 <= ts.length/\ts.length <= 10000/\∀ (a:Addr) (us:List V) (H':Hp),ag H H'->H' a=some (.tup us)->us.length=ts.length->Q (.ref a) H'
theorem vB {me:ME}{e:Expr}{x y:Str}{p p1 p2 p3:Pos} (g:Gf X T k cal) (hx:x=("tuple":Str)) (hy:y=("sorted":Str)) (g1:glB X.env.scope x=true) (g2:glB X.env.scope y=true) (he:chk T me X.N X.env.scope e=true) (hs:ak e=true):PE X (.Call (.Name x p) [.Call (.Name y p1) [e] [] p2] [] p3) (z_ X.K cal me):=by
 subst hx
 subst hy
 refine (eI ez (cR g1) (g.blt "tuple" (by decide)) jQ (aG (cw (lR (by have:=g.units;omega)) (cR g2) (g.blt "sorted" (by decide)) iE (aG (aj me g he).1 a_ (br hs _ _)) (by decide) (by decide) (br hs _ _) rfl) a_ rfl) (by decide) (by decide) rfl rfl).imp λσ H Q q=>?_
 obtain ⟨B,O₀,O,ρ,v,xs,ts,st,e1,e2,e3,l1,l2,q⟩:=q
 have ex:=jG e3
 subst ex
 refine ⟨B,O₀,O,ρ,v,st,e1,λu H1 s1 g1=>?_⟩
 obtain ⟨a,ws,rfl,sq,rs⟩:=g1.1.seq e2
 have hl:=rs.length
 rw [List.length_map] at hl
 refine ⟨a,ws,ts,rfl,sq,iC (bK H1 O) (iB rs),by omega,l2,λl ws' hf hw=>?_⟩
 refine ⟨l,ws',rfl,.inl ⟨SqL.of aB,λt ht=>q t ws' _ (λb o eb=>?_) aB (by omega)⟩⟩
 have e0:=s1 b o eb
 have n1:b ≠ l:=λz=>by rw [z,hf] at e0;cases e0
 have e4:upd H1 l (.lst ws') b=some o:=by rw [au n1];exact e0
 rw [au λz=>by rw [z,ht] at e4;cases e4]
 exact e4
noncomputable def tLU (K:PySem.W.Frag) (i:Nat) (k:Int):TT:=λσ H Q=>∃ B O₀ O ρ a us,aw K B O₀ O H ρ σ/\σ[i]?=some (some (.ref a))/\H a=some (.tup us)/\∀ H',ag H H'->Q (decide (k < us.length)) H'
theorem yb {i:Nat}{x:Str}{c:Int}{l y:Str}{ge:Expr}{p p1 p2 pos:Pos} (g:Gf X T k cal) (hl:l=("len":Str)) (hg:glB X.env.scope l=true) (hn:aD X.N X.env.scope i y=true) (hx:chk T (.glob x (.int c)) X.N X.env.scope ge=true):PT X (.Compare (.Call (.Name l p) [.Name y p1] [] p2) [.Gt] [ge] pos) (tLU X.K i c):=by
 subst hl
 refine (oM (nW g.units .gt) (cw cV (cR hg) (g.blt "len" (by decide)) jP (aG (bT hn) a_ rfl) (by decide) (by decide) rfl rfl) (aj (.glob x (.int c)) g hx).1 (qU _ (by decide) (by decide))).imp λσ H Q q=>?_
 obtain ⟨B,O₀,O,ρ,a,us,st,ea,hH,q⟩:=q
 exact ⟨_,ea,a,us,rfl,.inr (SqT.of hH),B,O₀,O,ρ,.int c,st,rfl,λu H1 s1 g1=>⟨O,.int us.length,.int c,decide (c < us.length),.inl (bS _ _),g1.1,rfl,_,rfl,q H1 s1⟩⟩
end
end MM
namespace MM
open PySem PySem.Spec PyProof.Rows L2
section
variable {K:PySem.W.Frag}{B H:Hp}{O₀ O:List Addr}{ρ:Rho}{σ:St}
theorem cT {H1 H':Hp}{O' L:List Addr}{ρ':Rho}{σ':St} (st':aw K (bx B O H1 L) O₀ O' H' ρ' σ') (k:aZ (bx B O H1 L) O O' ρ ρ' σ σ'):ag (ai H1 O) (ai H' O'):=λb u e=>by
 have hb:b ∉ O:=λz=>by rw [lU z] at e;cases e
 have hg:bx B O H1 L b=some u:=db b u e
 rw [bH]
 ·exact st'.keep b u hg
 ·intro z
  rcases k.new b z with q|q
  ·exact hb q
  ·rw [hg] at q;cases q
theorem vC {ms:List ME} (st:aw K B O₀ O H ρ σ):aw K (bx B O H (aO ms ρ σ)) O₀ O H (bA ms ρ) σ/\(bA ms ρ).length=ρ.length:=by
 have base:∀ L:List Addr,(∀ a ∈ L,∀ (j:Nat) (ys:MV),(bA ms ρ)[j]?=some (some ys)->dO ys=true->σ[j]? ≠ some (some (.ref a)))->(∀ (j:Nat) (m:MV),(bA ms ρ)[j]?=some (some m)->(∃ ys,m=.brw ys/\ρ[j]?=some (some (.own ys))/\∃ a,σ[j]?=some (some (.ref a))/\a ∈ L) \/ ρ[j]?=some (some m))->(bA ms ρ).length=ρ.length ->
   (∀ a ∈ L,∀ (j:Nat) (zss:List (List PV)) (c:Addr) (us:List V),ρ[j]?=some (some (.ownL zss))->σ[j]?=some (some (.ref c))->H c=some (.lst us)->V.ref a ∉ us) ->
   aw K (bx B O H L) O₀ O H (bA ms ρ) σ:=λL h1 h2 h3 h4=>by
  have gl:=jO (O:=O) (L:=L) st.keep
  have lg:=eN (O:=O) (L:=L) st.keep
  refine ⟨gl,st.here,st.sub,λa ha z=>st.old a ha (lg.free z),h3.trans st.len,λj m e=>?_,λc d ps qs ad hcd e1 e2 p1 p2 e3 e4=>?_
   ,c7 st.inn (λj xss e=>by
    rcases h2 j _ e with ⟨_,z,_⟩|e2
    ·cases z
    ·exact ⟨e2,rfl,λ_ _ _ h=>h⟩) λj m c e _ o ec=>.inl (by
    rcases h2 j _ e with ⟨_,z,_⟩|e2
    ·rw [z] at o;cases o
    ·exact ⟨m,e2,o,ec⟩)
   ⟩
  ·rcases h2 j m e with ⟨ys,rfl,e2,a,ea,haL⟩|e2
   ·obtain ⟨u,eu,a',us,rfl,q1,q2,q3,q4⟩:=st.slot j _ e2
    rw [ea] at eu
    cases eu
    refine ⟨_,ea,a,us,rfl,SqL.of ?_,q2⟩
    unfold bx
    rw [if_pos q3,if_pos haL]
    exact q1
   ·obtain ⟨u,eu,q⟩:=st.slot j m e2
    refine ⟨u,eu,?_⟩
    cases m with
    | val v=>exact q
    | own ys =>
     obtain ⟨a,us,rfl,q1,q2,q3,q4⟩:=q
     refine ⟨a,us,rfl,q1,q2,q3,?_⟩
     unfold bx
     rw [if_pos q3,if_neg λhaL=>h1 a haL j (.own ys) e rfl eu]
     exact q4
    | ownD ys =>
     obtain ⟨a,rfl,q1,q3,q4⟩:=q
     refine ⟨a,rfl,q1,q3,?_⟩
     unfold bx
     rw [if_pos q3,if_neg λhaL=>h1 a haL j (.ownD ys) e rfl eu]
     exact q4
    | ownL yss =>
     obtain ⟨a,bs,rfl,q1,q2,q3,q4,q5⟩:=q
     refine ⟨a,bs,rfl,q1,q2.base λb hb ho hB=>?_,q3,?_,q5⟩
     ·unfold bx
      rw [if_pos ho,if_neg λhbL=>h4 b hbL j yss a _ e2 eu q1 (d5.mpr hb)]
      exact hB
     ·unfold bx
      rw [if_pos q3,if_neg λhaL=>h1 a haL j (.ownL yss) e rfl eu]
      exact q4
    | brwD ys=>obtain ⟨a,rfl,q1⟩:=q;exact ⟨a,rfl,ag.rd lg q1⟩
    | brw ys=>obtain ⟨a,us,rfl,q1,q2⟩:=q;exact ⟨a,us,rfl,lg.seq q1,q2⟩
  ·rcases h2 c _ e1 with ⟨_,rfl,_⟩|e1
   ·cases p1
   ·rcases h2 d _ e2 with ⟨_,rfl,_⟩|e2
    ·cases p2
    ·exact st.apart c d ps qs ad hcd e1 e2 p1 p2 e3 e4
 have plain:bA ms ρ=ρ->aO ms ρ σ=[]->aw K (bx B O H (aO ms ρ σ)) O₀ O H (bA ms ρ) σ/\(bA ms ρ).length=ρ.length:=λe1 e2=>by
  rw [e2]
  exact ⟨base [] (λa ha=>by simp at ha) (λj m e=>.inr (by rw [e1] at e;exact e)) (by rw [e1]) (λa ha=>by simp at ha),by rw [e1]⟩
 match ms with
 | []=>exact plain rfl rfl
 | [.bor i] =>
  cases hj:(ρ[i]?).join with
  | none=>exact plain (by simp [bA,hj]) (by simp [aO,hj])
  | some m =>
   cases m with
   | val _=>exact plain (by simp [bA,hj]) (by simp [aO,hj])
   | brw _=>exact plain (by simp [bA,hj]) (by simp [aO,hj])
   | ownD _=>exact plain (by simp [bA,hj]) (by simp [aO,hj])
   | ownL _=>exact plain (by simp [bA,hj]) (by simp [aO,hj])
   | brwD _=>exact plain (by simp [bA,hj]) (by simp [aO,hj])
   | own xs =>
    have el:bA [.bor i] ρ=put ρ i (.brw xs):=by simp [bA,hj]
    have e0:=bw hj
    obtain ⟨u,eu,a,us,rfl,q1,q2,q3,q4⟩:=st.slot i _ e0
    have eL:aO [.bor i] ρ σ=[a]:=by simp [aO,hj,eu]
    have hi':i < ρ.length:=(List.getElem?_eq_some_iff.mp e0).1
    rw [eL]
    refine ⟨base [a] (λb hb j ys e oy z=>?_) (λj m e=>?_) (by rw [el,aS]) (λb hb j zss c us f1 f2 f3=>by
     rw [List.mem_singleton.mp hb]
     exact (st.inn j zss c us f1 f2 f3 i (.own xs) (λz=>by subst z;rw [e0] at f1;cases f1) e0).2 a rfl eu),by rw [el,aS]⟩
    ·have:b=a:=by simpa using hb
     subst this
     rw [el] at e
     have hj':i ≠ j:=λz=>by subst z;rw [ae hi'] at e;cases e;cases oy
     rw [aa hj'] at e
     exact st.apart i j (.own xs) ys b hj' e0 e rfl oy eu z
    ·rw [el] at e
     by_cases hij:i=j
     ·subst hij
      rw [ae hi'] at e
      cases e
      exact .inl ⟨xs,rfl,e0,a,eu,by simp⟩
     ·rw [aa hij] at e
      exact .inr e
 | .var _::_=>exact plain rfl rfl
 | .cst _::_=>exact plain rfl rfl
 | .glob _ _::_=>exact plain rfl rfl
 | .bin _ _ _::_=>exact plain rfl rfl
 | .neg _::_=>exact plain rfl rfl
 | .not _::_=>exact plain rfl rfl
 | .and _ _::_=>exact plain rfl rfl
 | .or _ _::_=>exact plain rfl rfl
 | .ite _ _ _::_=>exact plain rfl rfl
 | .cmp _ _ _::_=>exact plain rfl rfl
 | .chain _ _ _ _ _::_=>exact plain rfl rfl
 | .tup _::_=>exact plain rfl rfl
 | .lst _::_=>exact plain rfl rfl
 | .idx _ _::_=>exact plain rfl rfl
 | .slice _ _ _::_=>exact plain rfl rfl
 | .blt _ _::_=>exact plain rfl rfl
 | .call _ _::_=>exact plain rfl rfl
 | .callD _ _ _::_=>exact plain rfl rfl
 | .comp _ _ _ _ _::_=>exact plain rfl rfl
 | .dget _ _ _::_=>exact plain rfl rfl
 | .dat _ _::_=>exact plain rfl rfl
 | .dIn _ _ _::_=>exact plain rfl rfl
 | .lenL _::_=>exact plain rfl rfl
 | .lenI _ _::_=>exact plain rfl rfl
 | .bor _::_::_=>exact plain rfl rfl
theorem g5 {ms:List ME}{j:Nat}{ys:List PV} (h:(bA ms ρ)[j]?=some (some (.brw ys))):ρ[j]?=some (some (.brw ys)) \/ (ms=[.bor j]/\ρ[j]?=some (some (.own ys))):=by
 unfold bA at h
 split at h
 ·rename_i i
  split at h
  ·rename_i xs hj
   have e0:=bw hj
   have hi':i < ρ.length:=(List.getElem?_eq_some_iff.mp e0).1
   by_cases hij:i=j
   ·subst hij
    rw [ae hi'] at h
    cases h
    exact .inr ⟨rfl,e0⟩
   ·rw [aa hij] at h
    exact .inl h
  ·exact .inl h
 ·exact .inl h
theorem iF {ms:List ME}{j:Nat}{ys:DD} (h:(bA ms ρ)[j]?=some (some (.brwD ys))):ρ[j]?=some (some (.brwD ys)):=by
 unfold bA at h
 split at h
 ·rename_i i
  split at h
  ·rename_i xs hj
   have e0:=bw hj
   have hi':i < ρ.length:=(List.getElem?_eq_some_iff.mp e0).1
   by_cases hij:i=j
   ·subst hij
    rw [ae hi'] at h
    cases h
   ·rw [aa hij] at h
    exact h
  ·exact h
 ·exact h
theorem jU {ms:List ME}:(bA ms ρ).length=ρ.length:=by
 unfold bA
 split
 ·split
  ·exact aS
  ·rfl
 ·rfl
theorem pI {ms:List ME}{H1 H':Hp}{O':List Addr}{ρ':Rho}{σ':St} (st:aw K B O₀ O H1 ρ σ) (st':aw K (bx B O H1 (aO ms ρ σ)) O₀ O' H' ρ' σ') (k:aZ (bx B O H1 (aO ms ρ σ)) O O' (bA ms ρ) ρ' σ σ') :
  aw K B O₀ O' H' (aN ms ρ ρ') σ'/\aZ B O O' ρ (aN ms ρ ρ') σ σ':=by
 have lg:=eN (O:=O) (L:=aO ms ρ σ) st.keep
 have vis:=cT st' k
 have stay:∀ a,B a ≠ none->a ∈ O->a ∈ O':=λa h1 h2=>k.stay a (λz=>h1 (lg.free z)) h2
 have new:∀ a ∈ O',a ∈ O \/ B a=none:=λa h=>(k.new a h).imp id lg.free
 have slot:∀ (j:Nat) (m:MV),ρ'[j]?=some (some m)->(∀ ys,m=.brw ys->¬ (ms=[.bor j]/\ρ[j]?=some (some (.own ys))))->∃ u,σ'[j]?=some (some u)/\eE K B O' H' m u:=λj m e hn=>by
  obtain ⟨u,eu,q⟩:=st'.slot j m e
  refine ⟨u,eu,?_⟩
  cases m with
  | val v=>exact q
  | own ys=>obtain ⟨a,us,rfl,q1,q2,q3,q4⟩:=q;exact ⟨a,us,rfl,q1,q2,q3,lg.free q4⟩
  | brw ys =>
   obtain ⟨e1,e2⟩:=k.brw j (.brw ys) rfl e
   rcases g5 e1 with e3|e3
   ·obtain ⟨w,ew,a,us,rfl,q1,q2⟩:=st.slot j _ e3
    rw [eu,ew] at e2
    cases e2
    exact ⟨a,us,rfl,q1,Reps.mono vis _ q2⟩
   ·exact absurd e3 (hn ys rfl)
  | ownD ys=>obtain ⟨a,rfl,q1,q3,q4⟩:=q;exact ⟨a,rfl,q1,q3,lg.free q4⟩
  | ownL yss=>obtain ⟨a,bs,rfl,q1,q2,q3,q4,q5⟩:=q;exact ⟨a,bs,rfl,q1,q2.base λ_ _ _ h=>lg.free h,q3,lg.free q4,q5⟩
  | brwD ys =>
   obtain ⟨e1,e2⟩:=k.brw j (.brwD ys) rfl e
   obtain ⟨w,ew,a,rfl,q1⟩:=st.slot j _ (iF e1)
   rw [eu,ew] at e2
   cases e2
   exact ⟨a,rfl,q1⟩
 by_cases hA:∃ i xs0 xs,ms=[.bor i]/\(ρ[i]?).join=some (.own xs0)/\(ρ'[i]?).join=some (.brw xs)
 ·obtain ⟨i,xs0,xs,rfl,h0,h1⟩:=hA
  have eb:aN [.bor i] ρ ρ'=put ρ' i (.own xs):=by simp [aN,h0,h1]
  rw [eb]
  have e0:=bw h0
  have e1:=bw h1
  have hi':i < ρ'.length:=(List.getElem?_eq_some_iff.mp e1).1
  obtain ⟨el,es⟩:=k.brw i (.brw xs) rfl e1
  have exs:xs=xs0:=by
   rcases g5 el with e3|⟨_,e3⟩
   ·rw [e0] at e3;cases e3
   ·rw [e0] at e3;cases e3;rfl
  subst exs
  obtain ⟨w,ew,a,us,rfl,q1,q2,q3,q4⟩:=st.slot i _ e0
  have eL:aO [.bor i] ρ σ=[a]:=by simp [aO,h0,ew]
  have ga:bx B O H1 (aO [.bor i] ρ σ) a=some (.lst us):=by
   unfold bx
   rw [eL,if_pos q3,if_pos (by simp)]
   exact q1
  have other:∀ (j:Nat) (ys:MV) (ad:Addr),ρ'[j]?=some (some ys)->dO ys=true->σ'[j]?=some (some (.ref ad))->ad ≠ a:=λj ys ad h1 oy h2 z=>by
   obtain ⟨u,eu,qq⟩:=st'.slot j _ h1
   rw [h2] at eu
   cases eu
   cases ys with
   | own ys =>
    obtain ⟨b,_,e2,_,_,_,q⟩:=qq
    cases e2
    rw [z,ga] at q
    cases q
   | ownD ys =>
    obtain ⟨b,e2,_,_,q⟩:=qq
    cases e2
    rw [z,ga] at q
    cases q
   | ownL yss =>
    obtain ⟨b,bs,e2,_,_,_,q,_⟩:=qq
    cases e2
    rw [z,ga] at q
    cases q
   | val _=>cases oy
   | brw _=>cases oy
   | brwD _=>cases oy
  refine ⟨⟨lg.trans st'.keep,st'.here,st'.sub,st.old,by rw [aS];exact st'.len,λj m e=>?_,λc d ps qs ad hcd e1 e2 p1 p2 e3 e4=>?_
   ,c7 st'.inn (λj xss e=>by
    have hj:i ≠ j:=λz=>by subst z;rw [ae hi'] at e;cases e
    rw [aa hj] at e
    exact ⟨e,rfl,λ_ _ _ h=>h⟩) λj m c e _ o ec=>by
    by_cases hj:i=j
    ·subst hj
     rw [es,ew] at ec
     cases ec
     refine .inr λk' xss a' us' f1 f2 f3 z=>?_
     obtain ⟨u,e3,a'',bs,rfl,qq,r,_⟩:=st'.slot k' _ f1
     rw [f2] at e3
     cases e3
     rw [qq] at f3
     cases f3
     have:=(r.at a (d5.mp z)).2.2
     rw [ga] at this
     cases this
    ·rw [aa hj] at e
     exact .inl ⟨m,e,o,ec⟩
   ⟩,⟨stay,new,λj ys hbm e=>?_,by rw [aS];exact k.len.trans jU
   ⟩⟩
  ·by_cases hij:i=j
   ·subst hij
    rw [ae hi'] at e
    cases e
    refine ⟨_,by rw [es];exact ew,a,us,rfl,st'.keep _ _ ga,Reps.mono vis _ q2,k.stay a (by rw [ga];simp) q3,q4⟩
   ·rw [aa hij] at e
    exact slot j m e λys _ ⟨z,_⟩=>hij (by cases z;rfl)
  ·by_cases hc:i=c
   ·subst hc
    rw [es,ew] at e3
    cases e3
    rw [aa hcd] at e2
    exact other d qs _ e2 p2 e4 rfl
   ·rw [aa hc] at e1
    by_cases hd:i=d
    ·subst hd
     rw [es,ew] at e4
     cases e4
     exact other c ps _ e1 p1 e3 rfl
    ·rw [aa hd] at e2
     exact st'.apart c d ps qs ad hcd e1 e2 p1 p2 e3 e4
  ·by_cases hij:i=j
   ·subst hij
    rw [ae hi'] at e
    cases e
    cases hbm
   ·rw [aa hij] at e
    obtain ⟨e1,e2⟩:=k.brw j ys hbm e
    cases ys with
    | brw ys =>
     rcases g5 e1 with e3|⟨z,_⟩
     ·exact ⟨e3,e2⟩
     ·cases z;exact absurd rfl hij
    | brwD ys=>exact ⟨iF e1,e2⟩
    | val _=>cases hbm
    | own _=>cases hbm
    | ownD _=>cases hbm
    | ownL _=>cases hbm
 ·have eb:aN ms ρ ρ'=ρ':=by
   unfold aN
   split
   ·rename_i i
    split
    ·rename_i xs0 xs h0 h1
     exact absurd ⟨i,xs0,xs,rfl,h0,h1⟩ hA
    ·rfl
   ·rfl
  rw [eb]
  have no:∀ (j:Nat) (ys:List PV),ρ'[j]?=some (some (.brw ys))->¬ (ms=[.bor j]/\ρ[j]?=some (some (.own ys))):=λj ys e ⟨h1,h2⟩=>hA ⟨j,ys,ys,h1,by rw [h2];rfl,by rw [e];rfl⟩
  refine ⟨⟨lg.trans st'.keep,st'.here,st'.sub,st.old,st'.len,λj m e=>slot j m e λys z=>no j ys (by rw [e,z]),st'.apart
   ,st'.inn
   ⟩,⟨stay,new,λj ys hbm e=>?_,k.len.trans jU
   ⟩⟩
  obtain ⟨e1,e2⟩:=k.brw j ys hbm e
  cases ys with
  | brw ys =>
   rcases g5 e1 with e3|e3
   ·exact ⟨e3,e2⟩
   ·exact absurd e3 (no j ys e)
  | brwD ys=>exact ⟨iF e1,e2⟩
  | val _=>cases hbm
  | own _=>cases hbm
  | ownD _=>cases hbm
  | ownL _=>cases hbm
end
section
variable {X:Cx}{T:Tab}{k:Nat}{cal:Cal}
noncomputable def Aa (K:PySem.W.Frag) (n:Nat) (g:TG) (tk:PV->Rho->Option Rho):Prop :=
 ∀ (B:Hp) (O₀ O:List Addr) (H:Hp) (ρ ρ':Rho) (σ:St) (x:PV) (u:V) (Q:St->Hp->Prop),σ.length=n->aw K B O₀ O H ρ σ->Rep K (ai H O) x u->tk x ρ=some ρ' ->
  (∀ σ',aw K B O₀ O H ρ' σ'->aZ B O O ρ ρ' σ σ'->Q σ' H)->g u σ H Q
theorem yc {K:PySem.W.Frag}{n:Nat}{k':Sk}{ms:List ME}{g:TG}{tk:PV->Rho->Option Rho}{body:List MS}{D:fk}{σ:St}{H:Hp} (hn:σ.length=n) (hg:Aa K n g tk) {B:Hp}{O₀ O:List Addr}{ρ:Rho}{vs xs:List PV} (st:aw K B O₀ O H ρ σ) (e1:evs cal ms ρ=some vs) (e2:dA k' vs=some xs)
  (q:dR K B O₀ O ρ σ D ((aE (λx ρ'=>gM (tk x ρ') λρ''=>exs cal body ρ'') xs (bA ms ρ)).back ms ρ)):zb (tW K cal k' ms) g (tSs K cal body) D σ H:=by
 refine ⟨B,O₀,O,ρ,vs,xs,st,e1,e2,λJ H1 s1 it=>?_⟩
 have st1:=st.mono s1
 obtain ⟨stL,_⟩:=vC (ms:=ms) st1
 refine ⟨λi m σ' H'=>m=xs.length - i/\i <= xs.length/\∃ ρ' O',aw K (bx B O H1 (aO ms ρ σ)) O₀ O' H' ρ' σ'/\aZ (bx B O H1 (aO ms ρ σ)) O O' (bA ms ρ) ρ' σ σ' /\
  aE (λx ρ'=>gM (tk x ρ') λρ''=>exs cal body ρ'') (xs.drop i) ρ'=aE (λx ρ'=>gM (tk x ρ') λρ''=>exs cal body ρ'') xs (bA ms ρ),⟨xs.length,by simp,Nat.zero_le _,bA ms ρ,O,stL,.refl,by simp⟩,?_⟩
 rintro i m σ' H' ⟨rfl,hi,ρ',O',st',k',eq⟩
 by_cases hlt:i < xs.length
 ·right
  have ex:xs[i]?=some xs[i]:=List.getElem?_eq_getElem hlt
  refine ⟨it.go i _ H' st'.keep ex,λσ2 H2=>∃ m',m' < xs.length - i/\(m'=xs.length - (i + 1)/\i + 1 <= xs.length/\∃ ρ' O',aw K (bx B O H1 (aO ms ρ σ)) O₀ O' H2 ρ' σ2/\aZ (bx B O H1 (aO ms ρ σ)) O O' (bA ms ρ) ρ' σ σ2 /\
   aE (λx ρ'=>gM (tk x ρ') λρ''=>exs cal body ρ'') (xs.drop (i + 1)) ρ'=aE (λx ρ'=>gM (tk x ρ') λρ''=>exs cal body ρ'') xs (bA ms ρ)),λσ2 H2 z=>z,λu H2 y=>?_⟩
  obtain ⟨s2,hr⟩:=it.yld i _ H' u H2 st'.keep ex y
  have vis:=cT st' k'
  have hx:Rep K (ai H2 O') xs[i] u:=hr O' st'.here (vis.trans (ax s2))
  rw [List.drop_eq_getElem_cons hlt,aE] at eq
  cases et:tk xs[i] ρ' with
  | none =>
   rw [et] at eq
   rw [<- eq] at q
   exact (show False from q).elim
  | some ρ2 =>
   rw [et,show gM (some ρ2) (λρ''=>exs cal body ρ'')=exs cal body ρ2 from rfl] at eq
   have hlen:σ'.length=n:=by rw [<- st'.len,k'.len,jU,st.len];exact hn
   refine hg _ O₀ O' H2 ρ' ρ2 σ' _ u _ hlen (st'.mono s2) hx et λσ2 st2 k2=>?_
   refine ⟨_,O₀,O',ρ2,st2,?_⟩
   have kk:=k'.trans k2
   cases er:exs cal body ρ2 with
   | next ρ3 =>
    rw [er] at eq
    exact λσ3 H3 O3 st3 k3=>⟨_,by omega,rfl,hlt,ρ3,O3,st3,kk.trans k3,eq⟩
   | cont ρ3 =>
    rw [er] at eq
    exact λσ3 H3 O3 st3 k3=>⟨_,by omega,rfl,hlt,ρ3,O3,st3,kk.trans k3,eq⟩
   | brk ρ3 =>
    rw [er] at eq
    rw [<- eq] at q
    exact λσ3 H3 O3 st3 k3=>by
     obtain ⟨stb,kb⟩:=pI st1 st3 (kk.trans k3)
     exact q σ3 H3 O3 stb kb
   | ret v =>
    rw [er] at eq
    rw [<- eq] at q
    exact λw H3 s3 r=>q w H3 ((eN st1.keep).trans s3) r
   | retF ys =>
    rw [er] at eq
    rw [<- eq] at q
    exact λp us H3 s3 hp he r=>q p us H3 ((eN st1.keep).trans s3) ((eN st1.keep).free hp) he r
   | bad =>
    rw [er] at eq
    rw [<- eq] at q
    exact (show False from q).elim
 ·left
  have ei:i=xs.length:=by omega
  subst ei
  rw [List.drop_length,aE] at eq
  rw [<- eq] at q
  obtain ⟨stb,kb⟩:=pI st1 st' k'
  exact ⟨it.stop H' st'.keep,q σ' H' O' stb kb⟩
theorem vD {K:PySem.W.Frag}{n i:Nat} (hi:i < n):Aa K n (fZ i) (λx ρ=>some (put ρ i (.val x))):=by
 intro B O₀ O H ρ ρ' σ x u Q hn st r e q
 cases e
 obtain ⟨st',k'⟩:=st.store (i:=i) (by omega) r
 exact q _ st' k'
theorem yd {i:Nat}{k':Sk}{src:List ME}{body:List MS}{x:Str}{px pos:Pos}{it:Expr}{b:List Stmt} (g:Gf X T k cal) (d:Df X) (hi:X.N[i]?=some x) (hx:Loc X.env.scope x) (hw:PI X (.Name x px) it (tW X.K cal k' src)) (hns:eU it=true) (hb:PSs X b (tSs X.K cal body)) :
  PS X (.For (.Name x px) it b [] pos) (tS X.K cal (.for1 i k' src body)):=by
 refine PS.imp' (wI d.own g.calm hw (oG d.nd hi hx (.inl (d.fn x))) hb (by intro v;cases it <;> first|rfl|(simp [eU] at hns))) λD σ H hl q=>?_
 obtain ⟨B,O₀,O,ρ,st,q⟩:=q
 rw [ex] at q
 cases e:(evs cal src ρ).bind (dA k') with
 | none=>rw [e] at q;exact (show False from q).elim
 | some xs =>
  rw [e] at q
  simp only [Option.bind_eq_some_iff] at e
  obtain ⟨vs,e1,e2⟩:=e
  exact yc (tk:=λx ρ=>some (put ρ i (.val x))) rfl (vD (ltN hi hl)) st e1 e2 q
end
end MM
namespace MM
open PySem PySem.Spec PyProof.Rows L2
section
variable {X:Cx}{T:Tab}{k:Nat}{cal:Cal}
theorem pJ {i:Nat}{me:ME}{x:Str}{v:Expr}{px pos:Pos} (g:Gf X T k cal) (d:Df X) (hi:X.N[i]?=some x) (hx:Loc X.env.scope x) (hc:chk T me X.N X.env.scope v=true) (hs:jJ X.env.scope x px v me=true):∃ t,PS X (.Assign [.Name x px] v pos) (pU t (fZ i))/\(∀ σ H Q,tF X.K cal me σ H Q->t σ H Q)/\bF me=true:=by
 unfold jJ at hs
 cases v with
 | ListComp e gens scope cpos =>
  cases me with
  | comp k' src js cond elt =>
   match gens,hc,hs with
   | [],hc,_=>cases (show false=true from hc)
   | ⟨tg,it,ifs,as⟩::[],h,hs =>
    cases tg with
    | Name y py =>
     by_cases has:as=0
     ·subst has
      have h:(dj X.env.scope X.N scope y (bD X.N js) js&&fB X.env.scope false (λxs=>chks T src X.N X.env.scope xs) k' it&&jI (λc=>chk T cond (y::bD X.N js) (fW scope X.env.scope) c) cond ifs&&chk T elt (y::bD X.N js) (fW scope X.env.scope) e&&!aF elt)=true:=h
      simp only [Bool.and_eq_true,Bool.not_eq_true'] at h
      obtain ⟨⟨⟨⟨h1,h2⟩,h3⟩,h4⟩,h5⟩:=h
      have hw:=jR (tg:=.Name y py) (λz=>by cases z) g h2 (λxs hxs=>⟨sounds src g hxs,bz hxs⟩) (λm x hm hx=>match src,hm with|[m'],rfl=>(aj m' g (by simp only [chks,Bool.and_eq_true] at hx;exact hx.1.1)).1)
      exact ⟨_,jz d.nd hi hx (iD h1) g.calm hw.1 (λs₁ H₁ C fp=>nY h3 λc hc=>(aj cond (g.blk y (bD X.N js) scope s₁ H₁ C fp) hc).2) (λs₁ H₁ C fp=>(aj elt (g.blk y (bD X.N js) scope s₁ H₁ C fp) h4).1) (k8 d hs) (by have:=hw.2;intro v;cases it <;> first|rfl|(simp [eU] at this)) (.inl (d.fn x)),
       λσ H Q q=>nX.comp_go h5 q,rfl⟩
     ·exact absurd h (by
       have:chk T (.comp k' src js cond elt) X.N X.env.scope (.ListComp e [⟨.Name y py,it,ifs,as⟩] scope cpos)=false:=by
        rw [aM]
        split <;> first|rfl|(rename_i z;simp_all)
       rw [this];exact Bool.false_ne_true)
    | _=>cases (show false=true from h)
   | _::_::_,h,_=>simp [aM] at h
  | _=>cases (show false=true from hc)
 | _=>simp [kZ] at hs
theorem Ab {me:ME} (hf:bF me=true) {σ:St}{H:Hp}{Q:VK}{K:PySem.W.Frag} (q:tE K cal me σ H Q):tF K cal me σ H Q:=by
 obtain ⟨B,O₀,O,ρ,v,st,e1,q⟩:=q
 have hv:∃ xs,v=.lst xs:=by
  cases me with
  | lst es =>
   rw [ev,Option.bind_eq_some_iff] at e1
   obtain ⟨vs,_,hv⟩:=e1
   split at hv
   ·cases hv;exact ⟨_,rfl⟩
   ·cases hv
  | comp _ _ _ _ _=>exact m_ ρ v e1
  | blt b es=>cases b <;> first|exact d6 (.inl rfl) ρ v e1|exact d6 (.inr (.inl rfl)) ρ v e1|exact d6 (.inr (.inr (.inl rfl))) ρ v e1|exact d6 (.inr (.inr (.inr (.inl rfl)))) ρ v e1|exact d6 (.inr (.inr (.inr (.inr rfl)))) ρ v e1|(simp [bF] at hf)
  | _=>simp [bF] at hf
 obtain ⟨xs,rfl⟩:=hv
 exact ⟨B,O₀,O,ρ,xs,st,e1,λp us H' s hp he r=>q _ _ s (pF st.here hp he r)⟩
end
section
variable {T:Tab}{N:List Str}{sc:Scope}
theorem vE {i:Nat}{e:ME}{s:Stmt} (h:c_ T N sc (.set i e) s=true):∃ x px v pos,s=.Assign [.Name x px] v pos/\(N[i]? == some x&&fA sc x&&ah x&&chk T e N sc v&&!aF e&&(cI v || jJ sc x px v e))=true:=by
 obtain ⟨q,e1,h1⟩:=aA h
 obtain ⟨pos,rfl⟩:=gO e1
 exact ⟨_,_,_,_,rfl,h1⟩
theorem vF {i:Nat}{e:ME}{s:Stmt} (h:c_ T N sc (.setOwn i e) s=true):∃ x px v pos,s=.Assign [.Name x px] v pos/\(N[i]? == some x&&fA sc x&&ah x&&chk T e N sc v&&bF e&&(cI v || jJ sc x px v e))=true:=by
 obtain ⟨q,e1,h1⟩:=aA h
 obtain ⟨pos,rfl⟩:=gO e1
 exact ⟨_,_,_,_,rfl,h1⟩
theorem n8 {i:Nat}{e:ME}{s:Stmt} (h:c_ T N sc (.append i e) s=true):∃ x p m ap v cp pos,s=.Expr (.Call (.Attribute (.Name x p) m ap) [v] [] cp) pos/\(aD N sc i x&&m == ("append":Str)&&chk T e N sc v&&!aF e&&ak v&&ap.endLine == cp.line)=true:=by
 obtain ⟨q,e1,h1⟩:=aA h
 obtain ⟨v,e2,h2⟩:=aA h1
 obtain ⟨p,pos,rfl⟩:=pf e1
 rw [jK e2]
 exact ⟨_,_,_,_,_,_,_,rfl,h2⟩
theorem n_ {i:Nat}{e:ME}{s:Stmt} (h:c_ T N sc (.extend i e) s=true):∃ x p m ap v cp pos,s=.Expr (.Call (.Attribute (.Name x p) m ap) [v] [] cp) pos/\(aD N sc i x&&m == ("extend":Str)&&chk T e N sc v&&ak v&&ap.endLine == cp.line)=true:=by
 obtain ⟨q,e1,h1⟩:=aA h
 obtain ⟨v,e2,h2⟩:=aA h1
 obtain ⟨p,pos,rfl⟩:=pf e1
 rw [jK e2]
 exact ⟨_,_,_,_,_,_,_,rfl,h2⟩
theorem i5 {c:ME}{a b:List MS}{s:Stmt} (h:c_ T N sc (.ite c a b) s=true):∃ t x y pos,s=.If t x y pos/\(chk T c N sc t&&chkSs T N sc a x&&chkSs T N sc b y)=true:=by
 cases s with
 | If t x y pos=>exact ⟨t,x,y,pos,rfl,h⟩
 | _=>cases (show false=true from h)
theorem ti {i:Nat}{k:Sk}{src:List ME}{body:List MS}{s:Stmt} (h:c_ T N sc (.for1 i k src body) s=true):∃ x px it b pos,s=.For (.Name x px) it b [] pos/\(N[i]? == some x&&fA sc x&&ah x&&fB sc false (λxs=>chks T src N sc xs) k it&&chkSs T N sc body b)=true:=by
 simp only [vd] at h
 split at h <;> first|(cases h;done)|(rename_i heq;cases heq;exact ⟨_,_,_,_,_,rfl,h⟩)|(injections;done)|(injections;subst_vars;exact ⟨_,_,_,_,_,rfl,h⟩)
theorem vG {e:ME}{s:Stmt} (h:c_ T N sc (.ret e) s=true):∃ v pos,s=.Return (some v) pos/\(chk T e N sc v&&!aF e)=true:=by
 obtain ⟨v,e1,h1⟩:=aA h
 obtain ⟨pos,rfl⟩:=pg e1
 exact ⟨_,_,rfl,h1⟩
theorem oa {i:Nat}{s:Stmt} (h:c_ T N sc (.retOwn i) s=true):∃ x p pos,s=.Return (some (.Name x p)) pos/\(aD N sc i x)=true:=by
 obtain ⟨v,e1,h1⟩:=aA h
 obtain ⟨x,e2,h2⟩:=aA h1
 obtain ⟨pos,rfl⟩:=pg e1
 obtain ⟨p,rfl⟩:=sg e2
 exact ⟨_,_,_,rfl,h2⟩
end
theorem k9 {T:Tab}{k:Nat}{cal:Cal}{X:Cx} (g:Gf X T k cal) (d:Df X) {i:Nat}{e:ME}{s:Stmt} (h:c_ T X.N X.env.scope (.set i e) s=true):PS X s (tS X.K cal (.set i e)):=by
 obtain ⟨x,px,v,pos,rfl,hc⟩:=vE h
 simp only [Bool.and_eq_true,Bool.or_eq_true,beq_iff_eq,Bool.not_eq_true'] at hc
 obtain ⟨⟨⟨⟨⟨h1,h2⟩,h3⟩,h4⟩,h5⟩,h6⟩:=hc
 rcases h6 with h6|h6
 ·exact z6 d h1 (gh h2) (aj e g h4).1 h5 h6
 ·obtain ⟨t,p,hp,hf⟩:=pJ (pos:=pos) g d h1 (gh h2) h4 h6
  exact PS.imp' p λD σ H hl q=>hp _ _ _ (Ab hf (sQ (ltN h1 hl) h5 q))
theorem qH {T:Tab}{k:Nat}{cal:Cal}{X:Cx} (g:Gf X T k cal) {e:ME}{c:Str}{s:Stmt} (h:c_ T X.N X.env.scope (.ite e [.raise c] []) s=true):PS X s (tS X.K cal (.ite e [.raise c] [])):=by
 obtain ⟨t,x,y,pos,rfl,hc⟩:=i5 h
 simp only [Bool.and_eq_true] at hc
 refine z8 (aj e g hc.1.1).2 ((h_ (X:=X) (sts:=x)).imp λD σ H q=>?_) ?_
 ·obtain ⟨B,O₀,O,ρ,st,q⟩:=q
  rw [exs,ex] at q
  exact q
 ·cases y with
  | nil=>exact wn
  | cons _ _=>cases hc.2
noncomputable def ye:MS->Bool
 | .freeze _=>true
 | .freezeL _=>true
 | .setU _ _ _ _ _ _=>true
 | _=>false
theorem exU {cal:Cal}{i f:Nat}{es:List ME}{x:Str}{k:Int}{c:Str}{ρ:Rho}:ex cal (.setU i f es x k c) ρ=(ex cal (.set i (.call f es)) ρ).andThen λρ'=>ex cal (.ite (.cmp .gt (.blt .len [.bor i]) (.glob x (.int k))) [.raise c] []) ρ':=by
 have e2:∀ ρ',exs cal [.raise c] ρ'=.bad:=λρ'=>by rw [exs,ex];rfl
 have e3:∀ ρ',exs cal [] ρ'=.next ρ':=λρ'=>by rw [exs]
 rw [ex,ex]
 cases ev cal (.call f es) ρ with
 | none=>rfl
 | some v =>
  show mO _ _=ex cal (.ite _ _ _) (put ρ i (.val v))
  rw [ex,e2,e3]
mutual
theorem tj {T:Tab}{k:Nat}{cal:Cal}{X:Cx} (g:Gf X T k cal) (d:Df X):∀ (m:MS) (s:Stmt),c_ T X.N X.env.scope m s=true->PS X s (tS X.K cal m)
 | .set i e,s,h=>k9 g d h
 | .setOwn i e,s,h=>by
  obtain ⟨x,px,v,pos,rfl,hc⟩:=vF h
  simp only [Bool.and_eq_true,Bool.or_eq_true,beq_iff_eq] at hc
  obtain ⟨⟨⟨⟨⟨h1,h2⟩,h3⟩,h4⟩,h5⟩,h6⟩:=hc
  rcases h6 with h6|h6
  ·exact z7 d h1 (gh h2) (xY g h4 h5) h6
  ·obtain ⟨t,p,hp,hf⟩:=pJ (pos:=pos) g d h1 (gh h2) h4 h6
   exact PS.imp' p λD σ H hl q=>hp _ _ _ (sR (ltN h1 hl) q)
 | .append i e,s,h=>by
  obtain ⟨x,p,m,ap,v,cp,pos,rfl,hc⟩:=n8 h
  simp only [Bool.and_eq_true,beq_iff_eq,Bool.not_eq_true'] at hc
  obtain ⟨⟨⟨⟨⟨h1,rfl⟩,h3⟩,h4⟩,h5⟩,h6⟩:=hc
  exact sS (aj e g h3).1 h1 h4 h5 (beq_iff_eq.mpr h6)
 | .setLN i e,s,h=>by
  obtain ⟨⟨x,px,v⟩,e1,hc⟩:=aA h
  obtain ⟨pos,rfl⟩:=gO e1
  obtain ⟨hc,hd0⟩:=Bool.and_eq_true_iff.mp hc
  obtain ⟨⟨y,py,it,scope,cpos,lp⟩,e2,hd⟩:=aA hd0
  have e3:v=_:=sx e2
  subst e3
  simp only [Bool.and_eq_true,beq_iff_eq] at hc hd
  have hw:=jR (tg:=.Name y py) (λz=>by cases z) g hd.2 (λxs hxs=>⟨sounds [e] g hxs,bz hxs⟩) (λm x hm hx=>by cases hm;exact (aj e g (by simp only [chks,Bool.and_eq_true] at hx;exact hx.1.1)).1)
  exact vv g d hc.1.1.1 (gh hc.1.1.2) hc.2 hd.1 hw.1 hw.2
 | .setL i n,s,h=>by
  obtain ⟨q,e1,h1⟩:=aA h
  obtain ⟨es,e2,h2⟩:=aA h1
  obtain ⟨pos,rfl⟩:=gO e1
  obtain ⟨x,px,v⟩:=q
  dsimp only at e2 h2 ⊢
  obtain ⟨lp,rfl⟩:=sj e2
  simp only [Bool.and_eq_true,beq_iff_eq] at h2
  obtain ⟨⟨⟨⟨c1,c2⟩,c3⟩,c4⟩,rfl⟩:=h2
  exact x9 d c1 (gh c2) c4
 | .appI i k' e,s,h=>by
  obtain ⟨q,e1,h1⟩:=aA h
  obtain ⟨v,e2,h2⟩:=aA h1
  obtain ⟨p,sp,pos,rfl⟩:=u7 e1
  obtain ⟨x,sl,m,ap,args,cp⟩:=q
  dsimp only at e2 h2 ⊢
  have:=jK e2
  subst this
  simp only [Bool.and_eq_true,Bool.not_eq_true',beq_iff_eq] at h2
  obtain ⟨⟨⟨⟨⟨⟨⟨c1,rfl⟩,h3⟩,h4⟩,h5⟩,h6⟩,h7⟩,h8⟩:=h2
  exact x6 (aj k' g h3).1 h4 (aj e g h5).1 c1 h6 h7 (beq_iff_eq.mpr h8)
 | .freezeL _,s,h=>absurd (show false=true from h) Bool.false_ne_true
 | .extend i e,s,h=>by
  obtain ⟨x,p,m,ap,v,cp,pos,rfl,hc⟩:=n_ h
  simp only [Bool.and_eq_true,beq_iff_eq] at hc
  obtain ⟨⟨⟨⟨h1,rfl⟩,h3⟩,h5⟩,h6⟩:=hc
  exact sT (aj e g h3).1 h1 h5 (beq_iff_eq.mpr h6)
 | .setIdx _ _ _,s,h=>absurd (show false=true from h) Bool.false_ne_true
 | .unpack _ _,s,h=>absurd (show false=true from h) Bool.false_ne_true
 | .expr _,s,h=>absurd (show false=true from h) Bool.false_ne_true
 | .ite c a b,s,h=>by
  obtain ⟨t,x,y,pos,rfl,hc⟩:=i5 h
  simp only [Bool.and_eq_true] at hc
  exact z8 (aj c g hc.1.1).2 (soundSs g d a x hc.1.2) (soundSs g d b y hc.2)
 | .for1 i k' src body,s,h=>by
  obtain ⟨x,px,it,b,pos,rfl,hc⟩:=ti h
  simp only [Bool.and_eq_true,beq_iff_eq] at hc
  obtain ⟨⟨⟨⟨h1,h2⟩,h3⟩,h4⟩,h5⟩:=hc
  have hw:=jR (tg:=.Name x px) (λz=>by cases z) g h4 (λxs hxs=>⟨sounds src g hxs,bz hxs⟩) (λm x hm hx=>match src,hm with|[m'],rfl=>(aj m' g (by simp only [chks,Bool.and_eq_true] at hx;exact hx.1.1)).1)
  exact yd g d h1 (gh h2) hw.1 hw.2 (soundSs g d body b h5)
 | .forT _ _ _ _,s,h=>absurd (show false=true from h) Bool.false_ne_true
 | .while _ _ _,s,h=>absurd (show false=true from h) Bool.false_ne_true
 | .ret e,s,h=>by
  obtain ⟨v,pos,rfl,hc⟩:=vG h
  simp only [Bool.and_eq_true,Bool.not_eq_true'] at hc
  exact wm (aj e g hc.1).1 hc.2
 | .retF _,s,h=>absurd (show false=true from h) Bool.false_ne_true
 | .setCall _ _ _,s,h=>absurd (show false=true from h) Bool.false_ne_true
 | .clear _,s,h=>absurd (show false=true from h) Bool.false_ne_true
 | .retOwn i,s,h=>by
  obtain ⟨x,p,pos,rfl,hc⟩:=oa h
  exact sU hc
 | .retN,s,h=>absurd (show false=true from h) Bool.false_ne_true
 | .brk,s,h=>absurd (show false=true from h) Bool.false_ne_true
 | .cont,s,h=>absurd (show false=true from h) Bool.false_ne_true
 | .pass,s,h=>absurd (show false=true from h) Bool.false_ne_true
 | .never,s,h=>by
  refine l_.imp λD σ H q=>?_
  obtain ⟨B,O₀,O,ρ,st,q⟩:=q
  rw [ex] at q
  exact q
 | .raise c,s,h=>by
  refine l_.imp λD σ H q=>?_
  obtain ⟨B,O₀,O,ρ,st,q⟩:=q
  rw [ex] at q
  exact q
 | .setU _ _ _ _ _ _,s,h=>(by cases h)
 | .retMany e,s,h=>by
  obtain ⟨q,e1,hc⟩:=aA h
  obtain ⟨p,p1,p2,p3,pos,e2,rfl⟩:=mQ e1
  obtain ⟨_,h7⟩:=Bool.and_eq_true_iff.mp hc
  refine (wm (me:=.blt .tupleOf [.blt .sorted [e]]) (aj (.blt .tupleOf [.blt .sorted [e]]) g h7).1 rfl).imp λD σ H q=>?_
  obtain ⟨B,O₀,O,ρ,st,q⟩:=q
  rw [ex] at q
  exact ⟨B,O₀,O,ρ,st,by rw [ex];exact q⟩
 | .tryC j f es hs,s,h=>ya g d h λxs hx=>⟨soundA es g.nox hx,(bz hx).1⟩
 | .newD _ _,s,h=>absurd (show false=true from h) Bool.false_ne_true
 | .dput _ _ _,s,h=>absurd (show false=true from h) Bool.false_ne_true
 | .freeze _,s,h=>absurd (show false=true from h) Bool.false_ne_true
theorem soundSs {T:Tab}{k:Nat}{cal:Cal}{X:Cx} (g:Gf X T k cal) (d:Df X):∀ (ms:List MS) (ss:List Stmt),chkSs T X.N X.env.scope ms ss=true->PSs X ss (tSs X.K cal ms)
 | [],ss,h=>by
  cases ss with
  | nil=>exact wn
  | cons _ _=>cases h
 | m::ms,ss,h=>by
  cases hm:ye m with
  | true =>
   cases m <;> simp [ye] at hm
   ·cases h
   ·exact qF (soundSs g d ms ss h)
   ·rename_i i f es x k c
    obtain ⟨z,e1,h⟩:=aA h
    have e1:=pk e1
    subst e1
    obtain ⟨h,h5⟩:=Bool.and_eq_true_iff.mp h
    obtain ⟨h,_⟩:=Bool.and_eq_true_iff.mp h
    obtain ⟨h,_⟩:=Bool.and_eq_true_iff.mp h
    obtain ⟨h1,h2⟩:=Bool.and_eq_true_iff.mp h
    refine (n5 (k9 g d (mR h1)) (n5 (qH g (mS h2)) (soundSs g d ms _ h5))).imp λD σ H q=>?_
    obtain ⟨B,O₀,O,ρ,st,q⟩:=q
    refine ⟨B,O₀,O,ρ,st,?_⟩
    rw [exs,exU] at q
    rw [exs]
    revert q
    cases ex cal (.set i (.call f es)) ρ with
    | next ρ' =>
     intro q
     show dR _ _ _ _ _ _ _ (exs cal (_::ms) ρ')
     rw [exs]
     exact q
    | _=>exact λq=>q
  | false =>
   cases ss with
   | nil=>cases m <;> first|(cases h;done)|cases hm
   | cons s ss =>
    have h:(c_ T X.N X.env.scope m s&&chkSs T X.N X.env.scope ms ss)=true:=by cases m <;> first|exact h|(simp [ye] at hm)
    simp only [Bool.and_eq_true] at h
    exact n5 (tj g d m s h.1) (soundSs g d ms ss h.2)
end
end MM
namespace MM
open PySem PySem.Spec PyProof.Rows L2
noncomputable def yf (X:Cx) (C:Addr) (H':Hp):Prop:=(∀ pins s σ' h' ea vs,Inv X pins σ' H' s->Heap.MadeExcOf s.heap h' ea (.ref C) vs->X.xe (.ref ea) { s with heap:=h' }) /\
 ∀ pins σ' H1 s1 ea s',Inv X pins σ' H1 s1->bL X.prog X.w X.stack H1 s1 ea C H' s'->X.xe (.ref ea) s'
noncomputable def nk (es:List Str) (X:Cx) (B:Hp) (O₀ O:List Addr) (ρ:Rho) (σ:St) (D:fk):RE->Prop
 | .fin r=>dR X.K B O₀ O ρ σ D r
 | .err c=>∀ C H',es.contains c=true->X.mg c=some (.ref C)->ag B H'->yf X C H'
theorem nk.trans {es:List Str}{X:Cx}{B:Hp}{O₀ O O':List Addr}{ρ ρ':Rho}{σ σ':St}{D:fk}{r:RE} (h:nk es X B O₀ O ρ σ D r) (k:aZ B O O' ρ ρ' σ σ'):nk es X B O₀ O' ρ' σ' D r:=by
 cases r with
 | fin r=>exact dR.trans h k
 | err c=>exact h
noncomputable def tX (es:List Str) (X:Cx) (cal:Cal) (ms:List MS):TS:=λD σ H=>∃ B O₀ O ρ,aw X.K B O₀ O H ρ σ/\nk es X B O₀ O ρ σ D (exsE cal ms ρ)
noncomputable def tX1 (es:List Str) (X:Cx) (cal:Cal) (m:MS):TS:=λD σ H=>∃ B O₀ O ρ,aw X.K B O₀ O H ρ σ/\nk es X B O₀ O ρ σ D (exE cal m ρ)
noncomputable def isX:MS->Bool
 | .raise _=>true
 | .setU _ _ _ _ _ _=>true
 | .ite _ _ _=>true
 | _=>false
theorem k_ {cal:Cal}{m:MS}{ρ:Rho} (h:isX m=false):exE cal m ρ=.fin (ex cal m ρ):=by
 cases m <;> first|(cases h;done)|rfl
theorem av {T:Tab}{k:Nat}{cal:Cal}{X:Cx} (g:Gf X T k cal) (d:Df X) {m:MS}{s:Stmt} (hm:isX m=false) (h:c_ T X.N X.env.scope m s=true):PS X s (tX1 T.es X cal m):=by
 refine PS.imp (x_ (tj g.nox d.nox m s h)) λD σ H q=>?_
 obtain ⟨B,O₀,O,ρ,st,q⟩:=q
 rw [k_ hm] at q
 exact ⟨B,O₀,O,ρ,st,q⟩
theorem pK {T:Tab}{k:Nat}{cal:Cal}{X:Cx} (g:Gf X T k cal) {kx:Str}{s:Stmt} (h:c_ T X.N X.env.scope (.raise kx) s=true):PS X s (tX1 T.es X cal (.raise kx)):=by
 obtain ⟨xn,e1,hc1⟩:=aA h
 simp only [Bool.and_eq_true,beq_iff_eq] at hc1
 obtain ⟨⟨⟨rfl,h6⟩,h7⟩,h8⟩:=hc1
 obtain ⟨np,tx,j,p1,cpos,pos',rfl⟩:=pq e1
 obtain ⟨C,msC,m1,m2,_,_,_⟩:=fH g h8
 refine PS.imp (mG g.calm (cR h6) m1 m2 (c8 h7).1) λD σ H q=>?_
 obtain ⟨B,O₀,O,ρ,st,q⟩:=q
 rw [exE] at q
 exact λpins s0 h' ea vs I hx=>(q C H h8 m1 st.keep).1 pins s0 σ h' ea vs I hx
noncomputable def isU:MS->Bool
 | .setU _ _ _ _ _ _=>true
 | _=>false
theorem Ac {T:Tab}{k:Nat}{cal:Cal}{X:Cx} (g:Gf X T k cal) {e:ME}{c:Str}{s:Stmt} (h:c_ T X.N X.env.scope (.ite e [.raise c] []) s=true):PS X s (tX1 T.es X cal (.ite e [.raise c] [])):=by
 obtain ⟨t,x,y,pos,rfl,hc⟩:=i5 h
 simp only [Bool.and_eq_true] at hc
 obtain ⟨⟨h1,h2⟩,h3⟩:=hc
 cases x with
 | nil=>cases h2
 | cons r bR =>
  obtain ⟨h4,h5⟩:=Bool.and_eq_true_iff.mp (show (c_ T X.N X.env.scope (.raise c) r&&chkSs T X.N X.env.scope [] bR)=true from h2)
  cases bR with
  | cons _ _=>cases h5
  | nil =>
   cases y with
   | cons _ _=>cases h3
   | nil =>
    refine PS.imp (oF (aj e g h1).2 (iW (pK (cal:=cal) g h4)) lv) λD σ H q=>?_
    obtain ⟨B,O₀,O,ρ,st,q⟩:=q
    rw [exE] at q
    cases ee:evB cal e ρ with
    | none=>rw [ee] at q;exact (show False from q).elim
    | some b =>
     rw [ee] at q
     refine ⟨B,O₀,O,ρ,b,st,ee,λH' s'=>?_⟩
     cases b with
     | true =>
      refine ⟨B,O₀,O,ρ,st.mono s',?_⟩
      rw [exE]
      have:exsE cal [.raise c] ρ=.err c:=by rw [exsE,show iV (.raise c)=false from rfl,if_neg (by decide),exE]
      dsimp only at q
      rw [if_pos rfl,this] at q
      exact q
     | false =>
      dsimp only at q
      rw [if_neg (by decide),exsE] at q
      exact q σ H' O (st.mono s') .refl
theorem nl {T:Tab}{k:Nat}{cal:Cal}{X:Cx} (g:Gf X T k cal) {m:MS}{ms:List MS}{s:Stmt}{ss:List Stmt} (hz:iV m=false) (h1:PS X s (tX1 T.es X cal m)) (h2:PSs X ss (tX T.es X cal ms)):PSs X (s::ss) (tX T.es X cal (m::ms)):=by
 refine PSs.imp (fm h1 h2) λD σ H q=>?_
 obtain ⟨B,O₀,O,ρ,st,q⟩:=q
 rw [exsE,hz,if_neg (by decide)] at q
 refine ⟨B,O₀,O,ρ,st,?_⟩
 cases e:exE cal m ρ with
 | err c=>rw [e] at q;exact q
 | fin r =>
  rw [e] at q
  cases r with
  | next ρ'=>exact λσ' H' O' st' k'=>⟨B,O₀,O',ρ',st',nk.trans q k'⟩
  | _=>exact q
theorem vH {T:Tab}{n:Nat}{cal:Cal}{X:Cx} (g:Gf X T n cal) (d:Df X) {i f:Nat}{es:List ME}{x:Str}{k:Int}{c:Str}{ms:List MS}{s1 s2:Stmt}{ss:List Stmt} (h1:c_ T X.N X.env.scope (.set i (.call f es)) s1=true) (h2:c_ T X.N X.env.scope (.ite (.cmp .gt (.blt .len [.bor i]) (.glob x (.int k))) [.raise c] []) s2=true) (hs:PSs X ss (tX T.es X cal ms))
  (h3:onO (lW s1) (λq=>onO (sh q.2.2) λd=>X.N[i]? == some q.1&&fA X.env.scope q.1&&T.fs[f]? == some d.1&&glB X.env.scope d.1&&ah d.1&&chks T es X.N X.env.scope d.2&&!d.2.isEmpty)=true) (h4:onO (lenI s2) (λw=>w.1 == ("len":Str)&&glB X.env.scope w.1&&aD X.N X.env.scope i w.2.1&&chk T (.glob x (.int k)) X.N X.env.scope w.2.2.1&&onO (qw w.2.2.2) λxn=>xn == c&&glB X.env.scope xn&&ah xn&&T.es.contains xn)=true) :
  PSs X (s1::s2::ss) (tX T.es X cal (.setU i f es x k c::ms)):=by
 have pn:=nl g rfl (av g d (m:=.set i (.call f es)) rfl h1) (nl g rfl (Ac g h2) hs)
 obtain ⟨q,e1,k3⟩:=aA h3
 obtain ⟨cl,e2,l3⟩:=aA k3
 obtain ⟨pos,rfl⟩:=gO e1
 obtain ⟨cp,cpos,e3⟩:=pi e2
 obtain ⟨h3,a7⟩:=Bool.and_eq_true_iff.mp l3
 obtain ⟨h3,a6⟩:=Bool.and_eq_true_iff.mp h3
 obtain ⟨h3,a5⟩:=Bool.and_eq_true_iff.mp h3
 obtain ⟨h3,a4⟩:=Bool.and_eq_true_iff.mp h3
 obtain ⟨h3,a3⟩:=Bool.and_eq_true_iff.mp h3
 obtain ⟨a1,a2⟩:=Bool.and_eq_true_iff.mp h3
 obtain ⟨w,e4,k4⟩:=aA h4
 obtain ⟨p,p1,p2,p3,pos2,rfl⟩:=u_ e4
 obtain ⟨h4,b5⟩:=Bool.and_eq_true_iff.mp k4
 obtain ⟨h4,b4⟩:=Bool.and_eq_true_iff.mp h4
 obtain ⟨h4,b3⟩:=Bool.and_eq_true_iff.mp h4
 obtain ⟨b1,b2⟩:=Bool.and_eq_true_iff.mp h4
 obtain ⟨xn,e5,b5⟩:=aA b5
 simp only [Bool.and_eq_true,beq_iff_eq] at b5
 obtain ⟨⟨⟨rfl,h6⟩,h7⟩,h8⟩:=b5
 obtain ⟨np,tx,j,q1,cpos',pos',e6⟩:=pq e5
 obtain ⟨C,msC,m1,m2,_,_,_⟩:=fH g h8
 have hN:=eq_of_beq a1
 have call:PE X q.2.2 (tU X.K cal f es):=by
  rw [e3]
  exact vA g (eq_of_beq a3) a4 a5 (soundA es g a6) (bz a6).1 (by simpa using a7)
 have nc:cI q.2.2=true:=by rw [e3];rfl
 have pr:PS X w.2.2.2 (rQ X C):=by
  rw [e6]
  exact mG g.calm (cR h6) m1 m2 (c8 h7).1
 have pu:=fm (i_ (pos:=pos) (pos':=q.2.1) d.nd hN (gh a2) call (dS nc _ _ _) (.inl (d.fn q.1))) (fm (oF (pos:=pos2) (yb (p:=p) (p1:=p1) (p2:=p2) (pos:=p3) g (eq_of_beq b1) b2 b3 b4) (iW pr) (h_ (X:=X) (sts:=[]))) (h_ (X:=X) (sts:=ss)))
 intro pins s σ H D I q0
 obtain ⟨B,O₀,O,ρ,st,q0⟩:=q0
 rw [exsE,show iV (.setU i f es x k xn)=false from rfl,if_neg (by decide),exE] at q0
 cases ec:ev cal (.call f es) ρ with
 | some v =>
  rw [ec] at q0
  dsimp only at q0
  refine pn pins s σ H D I ⟨B,O₀,O,ρ,st,?_⟩
  rw [exsE,show iV (.set i (.call f es))=false from rfl,if_neg (by decide),k_ (m:=.set i (.call f es)) rfl,ex,ec]
  show nk _ _ _ _ _ _ _ _ (exsE cal (.ite _ _ _::ms) (put ρ i (.val v)))
  rw [exsE,show iV (.ite (.cmp .gt (.blt .len [.bor i]) (.glob x (.int k))) [.raise xn] [])=false from rfl,if_neg (by decide),exE]
  have er:exsE cal [.raise xn] (put ρ i (.val v))=.err xn:=by rw [exsE,show iV (.raise xn)=false from rfl,if_neg (by decide),exE]
  have en:exsE cal [] (put ρ i (.val v))=.fin (.next (put ρ i (.val v))):=by rw [exsE]
  cases eb:evB cal (.cmp .gt (.blt .len [.bor i]) (.glob x (.int k))) (put ρ i (.val v)) with
  | none=>rw [eb] at q0;exact q0
  | some b =>
   rw [eb] at q0
   cases b with
   | true =>
    dsimp only at q0 ⊢
    rw [if_pos rfl,er]
    exact q0
   | false =>
    dsimp only
    rw [if_neg (by decide),en]
    exact q0
 | none =>
  rw [ec] at q0
  refine pu pins s σ H D I ?_
  cases eu:(evA cal es ρ).bind (cal (f + 7000)) with
  | none=>rw [eu] at q0;exact (show False from q0).elim
  | some r =>
   rw [eu] at q0
   obtain ⟨vs,v1,v2⟩:=Option.bind_eq_some_iff.mp eu
   cases r with
   | int m =>
    dsimp only at q0
    by_cases hk:k < m/\(ρ[i]?).join.isNone=true
    ·rw [if_pos hk] at q0
     refine ⟨B,O₀,O,ρ,vs,m,st,v1,v2,λa us H1 s1 ha hl=>?_⟩
     have hi:i < σ.length:=by rw [I.len];exact (List.getElem?_eq_some_iff.mp hN).1
     have st1:=(st.mono s1).anyAt (Option.isNone_iff_eq_none.mp hk.2) (some (.ref a))
     refine ⟨B,O₀,O,ρ,a,us,st1,List.getElem?_set_self hi,ha,λH2 s2=>?_⟩
     rw [decide_eq_true (by omega)]
     dsimp only
     rw [if_pos rfl]
     exact λpins s0 h' ea vs I hx=>(q0 C H2 h8 m1 (st1.mono s2).keep).1 pins s0 _ h' ea vs I hx
    ·rw [if_neg hk] at q0
     exact (show False from q0).elim
   | _=>exact (show False from q0).elim
mutual
theorem vI {T:Tab}{k:Nat}{cal:Cal}{X:Cx} (g:Gf X T k cal) (d:Df X):∀ (m:MS) (s:Stmt),iV m=false->c_ T X.N X.env.scope m s=true->PS X s (tX1 T.es X cal m)
 | .raise kx,s,_,h=>pK g h
 | .ite c a b,s,_,h=>by
  obtain ⟨t,x,y,pos,rfl,hc⟩:=i5 h
  simp only [Bool.and_eq_true] at hc
  refine PS.imp (oF (aj c g hc.1.1).2 (soundE g d a x hc.1.2) (soundE g d b y hc.2)) λD σ H q=>?_
  obtain ⟨B,O₀,O,ρ,st,q⟩:=q
  rw [exE] at q
  cases e:evB cal c ρ with
  | none=>rw [e] at q;exact (show False from q).elim
  | some k =>
   rw [e] at q
   refine ⟨B,O₀,O,ρ,k,st,e,λH' s'=>?_⟩
   cases k with
   | true=>exact ⟨B,O₀,O,ρ,st.mono s',q⟩
   | false=>exact ⟨B,O₀,O,ρ,st.mono s',q⟩
 | .for1 _ _ _ _,s,hz,h=>av g d rfl h
 | .expr _,s,hz,h=>av g d rfl h
 | .set _ _,s,hz,h=>av g d rfl h
 | .setOwn _ _,s,hz,h=>av g d rfl h
 | .freeze _,s,hz,h=>av g d rfl h
 | .append _ _,s,hz,h=>av g d rfl h
 | .extend _ _,s,hz,h=>av g d rfl h
 | .setL _ _,s,hz,h=>av g d rfl h
 | .setLN _ _,s,hz,h=>av g d rfl h
 | .appI _ _ _,s,hz,h=>av g d rfl h
 | .freezeL _,s,hz,h=>av g d rfl h
 | .setU _ _ _ _ _ _,s,hz,h=>(by cases h)
 | .retMany _,s,hz,h=>av g d rfl h
 | .tryC _ _ _ _,s,hz,h=>av g d rfl h
 | .setIdx _ _ _,s,hz,h=>av g d rfl h
 | .unpack _ _,s,hz,h=>av g d rfl h
 | .forT _ _ _ _,s,hz,h=>av g d rfl h
 | .while _ _ _,s,hz,h=>av g d rfl h
 | .ret _,s,hz,h=>av g d rfl h
 | .retOwn _,s,hz,h=>av g d rfl h
 | .retN,s,hz,h=>av g d rfl h
 | .brk,s,hz,h=>av g d rfl h
 | .cont,s,hz,h=>av g d rfl h
 | .pass,s,hz,h=>av g d rfl h
 | .never,s,hz,h=>av g d rfl h
 | .newD _ _,s,hz,h=>av g d rfl h
 | .retF _,s,hz,h=>av g d rfl h
 | .setCall _ _ _,s,hz,h=>av g d rfl h
 | .clear _,s,hz,h=>av g d rfl h
 | .dput _ _ _,s,hz,h=>av g d rfl h
theorem soundE {T:Tab}{k:Nat}{cal:Cal}{X:Cx} (g:Gf X T k cal) (d:Df X):∀ (ms:List MS) (ss:List Stmt),chkSs T X.N X.env.scope ms ss=true->PSs X ss (tX T.es X cal ms)
 | [],ss,h=>by
  cases ss with
  | nil =>
   refine PSs.imp lv λD σ H q=>?_
   obtain ⟨B,O₀,O,ρ,st,q⟩:=q
   exact q σ H O st .refl
  | cons _ _=>cases h
 | m::ms,ss,h=>by
  cases hu:isU m with
  | true =>
   cases m <;> simp [isU] at hu
   rename_i i f es x k' c
   obtain ⟨z,e1,h⟩:=aA h
   have e1:=pk e1
   subst e1
   obtain ⟨h,h5⟩:=Bool.and_eq_true_iff.mp h
   obtain ⟨h,h4⟩:=Bool.and_eq_true_iff.mp h
   obtain ⟨h,h3⟩:=Bool.and_eq_true_iff.mp h
   obtain ⟨h1,h2⟩:=Bool.and_eq_true_iff.mp h
   exact vH g d (mR h1) (mS h2) (soundE g d ms _ h5) h3 h4
  | false =>
  cases hz:iV m with
  | true =>
   refine PSs.imp (t:=λ_ _ _=>False) (λ_ _ _ _ _ _ z=>z.elim) λD σ H q=>?_
   obtain ⟨B,O₀,O,ρ,st,q⟩:=q
   rw [exsE,hz] at q
   exact q
  | false =>
   cases ss with
   | nil=>cases m <;> first|(cases h;done)|cases hz
   | cons s ss =>
    have h:(c_ T X.N X.env.scope m s&&chkSs T X.N X.env.scope ms ss)=true:=by cases m <;> first|exact h|(cases hz;done)|cases hu
    obtain ⟨h1,h2⟩:=Bool.and_eq_true_iff.mp h
    refine PSs.imp (fm (vI g d m s hz h1) (soundE g d ms ss h2)) λD σ H q=>?_
    obtain ⟨B,O₀,O,ρ,st,q⟩:=q
    rw [exsE,hz,if_neg (by decide)] at q
    refine ⟨B,O₀,O,ρ,st,?_⟩
    cases e:exE cal m ρ with
    | err c=>rw [e] at q;exact q
    | fin r =>
     rw [e] at q
     cases r with
     | next ρ'=>exact λσ' H' O' st' k'=>⟨B,O₀,O',ρ',st',nk.trans q k'⟩
     | brk _=>exact q
     | cont _=>exact q
     | ret _=>exact q
     | bad=>exact q
     | retF _=>exact q
end
structure FnD (K:PySem.W.Frag) (x y:Str) (st:Stmt) (fa:Addr) (fd:FuncData):Prop where
 it:∃ (c0 d0 k0 o0 m0:Value) (a0:Option Addr) (c1 t1:Value) (a1:Option Addr) (sl:Array (Option Value)),
  K.lookup fa=some ⟨c0,a1,.func fd,sl⟩/\PySem.W.codeIn K c1 y=true/\fd=PySem.W.fnOf x y (lE st) (dC st) (aH st) d0 k0 o0 m0 a0 c1 t1
 kp:PySem.W.keepIn K (.ref fa)=true
theorem FnD.mk' {K:PySem.W.Frag}{x y:Str}{st:Stmt}{fa:Addr}{c0 d0 k0 o0 m0 c1 t1:Value}{a0 a1:Option Addr}{sl:Array (Option Value)}
  (l:K.lookup fa=some ⟨c0,a1,.func (PySem.W.fnOf x y (lE st) (dC st) (aH st) d0 k0 o0 m0 a0 c1 t1),sl⟩) (c:PySem.W.codeIn K c1 y=true) (k:PySem.W.keepIn K (.ref fa)=true) :
  FnD K x y st fa (PySem.W.fnOf x y (lE st) (dC st) (aH st) d0 k0 o0 m0 a0 c1 t1):=⟨⟨_,_,_,_,_,_,_,_,_,_,l,c,rfl⟩,k⟩
structure nn (T:Tab) (K:PySem.W.Frag) (mg:Str->Option Value) (st:Stmt) (d:MD) (fa:Addr) (fd:FuncData):Prop where
 fn:FnD K d.name d.name st fa fd
 binds:cU K fd d.params []
 named:mg d.name=some (.ref fa)
 scope:lz d.names d.params (aH st)
 body:chkSs T d.names (aH st) d.body (dC st)=true
theorem bn1 {K:PySem.W.Frag}{fd:FuncData}{pa:Str} (h:∀ a,bindArgs fd ⟨[a],[]⟩=pure [(pa,a)]):cU K fd [pa] []:=.all λus hl=>match us,hl with|[a],_=>h a
theorem bn2 {K:PySem.W.Frag}{fd:FuncData}{pa pb:Str} (h:∀ a b,bindArgs fd ⟨[a,b],[]⟩=pure [(pa,a),(pb,b)]):cU K fd [pa,pb] []:=.all λus hl=>match us,hl with|[a,b],_=>h a b
theorem bn3 {K:PySem.W.Frag}{fd:FuncData}{pa pb pc:Str} (h:∀ a b c,bindArgs fd ⟨[a,b,c],[]⟩=pure [(pa,a),(pb,b),(pc,c)]):cU K fd [pa,pb,pc] []:=.all λus hl=>match us,hl with|[a,b,c],_=>h a b c
noncomputable def HD (K:PySem.W.Frag) (x:Str) (st:Stmt) (d:MD) (q:FuncData->Prop:=λ_=>True):Prop:=d.name=x/\∃ fa fd,PySem.W.nsIn K mainGlobals x=some (some (.ref fa))/\FnD K x x st fa fd/\cU K fd d.params []/\q fd
noncomputable def okD (T:Tab) (st:Stmt) (d:MD):Bool :=
 decide ((aH st).kind=.function/\(aH st).isCoroutine=false/\(aH st).isGenerator=false/\d.names.Nodup/\d.names.take d.params.length=d.params/\(∀ x ∈ d.params,(aH st).names.lookup x=some .local \/ (aH st).names.lookup x=some .cell)/\∀ y ∈ (aH st).names,y.2 ≠ .free)
 &&chkSs T d.names (aH st) d.body (dC st)
theorem bQ {T:Tab}{K:PySem.W.Frag}{mg:Str->Option Value}{h:Heap}{st:Stmt}{d:MD} (X:K.In h) (G:h.Ns mainGlobals mg) {q:FuncData->Prop}{x:Str} (hd:HD K x st d q) (ck:okD T st d=true):∃ fa fd,nn T K mg st d fa fd/\q fd:=by
 obtain ⟨e,_,_,n,f,b,z⟩:=hd
 obtain ⟨c1,c2⟩:=Bool.and_eq_true_iff.mp ck
 obtain ⟨s1,s2,s3,s4,s5,s6,s7⟩:=of_decide_eq_true c1
 subst e
 exact ⟨_,_,⟨f,b,PySem.W.mg_of X G n,⟨s1,s2,s3,s4,s5,s6,s7⟩,c2⟩,z⟩
noncomputable def tm (T:Tab) (K:PySem.W.Frag) (mg:Str->Option Value):List MD->List (List Sc)->Prop
 | [],[]=>True
 | d::ds,l::ls=>(∃ st fa fd,nn T K mg st d fa fd/\∃ vs,cU K fd d.params vs/\am (l.map Sc.v) vs)/\tm T K mg ds ls
 | _,_=>False
theorem tm.get {T:Tab}{K:PySem.W.Frag}{mg:Str->Option Value}:∀ {ds:List MD}{ls:List (List Sc)}{f:Nat}{d:MD},tm T K mg ds ls->ds[f]?=some d->∃ l st fa fd,ls[f]?=some l/\nn T K mg st d fa fd/\∃ vs,cU K fd d.params vs/\am (l.map Sc.v) vs
 | [],_,f,d,_,e=>by simp at e
 | _::_,[],f,d,h,e=>h.elim
 | d0::ds,l::ls,0,d,h,e=>by
  cases e
  obtain ⟨⟨st,fa,fd,r⟩,_⟩:=h
  exact ⟨l,st,fa,fd,rfl,r⟩
 | d0::ds,l::ls,f + 1,d,h,e=>by
  obtain ⟨k,st,fa,fd,q,r⟩:=tm.get h.2 (show ds[f]?=some d from by simpa using e)
  exact ⟨k,st,fa,fd,by simpa using q,r⟩
structure yg (T:Tab) (K:PySem.W.Frag) (mg:Str->Option Value) (ds:List MD):Prop where
 tab:T.fs=ds.map (·.name)
 defs:tm T K mg ds T.ds
 blt:∀ x ∈ fD,mg (x:Str)=none
 gs:∀ p ∈ T.gs,∃ u,mg p.1=some u/\ar (toV p.2) u
 errs:mX K T.es=true
 mgs:∀ c u,PySem.W.nsIn K mainGlobals c=some u->mg c=u
theorem yh {K:PySem.W.Frag}{h:Heap}{mg:Str->Option Value}{c:Str}{u:Option Value} (X:K.In h) (G:h.Ns mainGlobals mg) (e:PySem.W.nsIn K mainGlobals c=some u):mg c=u:=by
 cases u with
 | none=>exact PySem.W.mg_none_of X G e
 | some v=>exact PySem.W.mg_of X G e
theorem lb {ds:List MD}{n f:Nat}{d:MD}{args:List MV}{r:PV} (hn:ds[f + 5000]?=none) (hd:ds[f]?=some d)
  (hf:f < 1000)
  (h:af ds (n + 1) (f + 5000) args=some r):args.length=d.params.length /\
  r_ (exsE (af ds n) d.body (args.map some ++ List.replicate (d.names.length - args.length) none))=some r:=by
 rw [af,hn] at h
 dsimp only at h
 rw [if_neg (by omega)] at h
 rw [if_pos (by omega)] at h
 rw [Nat.add_sub_cancel,hd] at h
 dsimp only at h
 by_cases hl:args.length=d.params.length
 ·rw [if_pos hl] at h
  exact ⟨hl,h⟩
 ·rw [if_neg hl] at h
  cases h
theorem jV {ds:List MD}{n f:Nat}{d:MD}{args:List MV}{r:PV} (hd:ds[f]?=some d) (h:af ds (n + 1) f args=some r):args.length=d.params.length /\
  ((∃ ρ,exs (af ds n) d.body (args.map some ++ List.replicate (d.names.length - args.length) none)=.next ρ/\r=.non) \/ exs (af ds n) d.body (args.map some ++ List.replicate (d.names.length - args.length) none)=.ret r \/
   ∃ xs,exs (af ds n) d.body (args.map some ++ List.replicate (d.names.length - args.length) none)=.retF xs/\r=.lst xs):=by
 rw [af,hd] at h
 dsimp only at h
 by_cases hl:args.length=d.params.length
 ·rw [if_pos hl] at h
  refine ⟨hl,?_⟩
  cases he:exs (af ds n) d.body (args.map some ++ List.replicate (d.names.length - args.length) none) with
  | next ρ=>rw [he] at h;cases h;exact .inl ⟨ρ,rfl,rfl⟩
  | ret v=>rw [he] at h;cases h;exact .inr (.inl rfl)
  | retF xs=>rw [he] at h;cases h;exact .inr (.inr ⟨xs,rfl,rfl⟩)
  | brk ρ=>rw [he] at h;cases h
  | cont ρ=>rw [he] at h;cases h
  | bad=>rw [he] at h;cases h
 ·rw [if_neg hl] at h
  cases h
theorem jW {ds:List MD}{n f:Nat}{d:MD}{args:List MV}{r:PV} (hn:ds[f + 7000]?=none) (hd:ds[f]?=some d) (h:af ds (n + 1) (f + 7000) args=some r):args.length=d.params.length /\
  jF (af ds n) d.body (args.map some ++ List.replicate (d.names.length - args.length) none)=some r:=by
 rw [af,hn] at h
 dsimp only at h
 rw [if_pos (by omega),Nat.add_sub_cancel,hd] at h
 dsimp only at h
 by_cases hl:args.length=d.params.length
 ·rw [if_pos hl] at h
  exact ⟨hl,h⟩
 ·rw [if_neg hl] at h
  cases h
theorem tq {cal:Cal}{ms:List MS}{ρ:Rho}{r:PV} (h:jF cal ms ρ=some r):∃ e v xs ts,ms=[.retMany e]/\ev cal e ρ=some v/\aI v=some xs/\dt xs=some ts/\64 <= ts.length/\ts.length <= 10000/\r=.int ts.length:=by
 unfold jF at h
 split at h
 ·rename_i m
  simp only [Option.bind_eq_some_iff] at h
  obtain ⟨e,e1,v,e2,xs,e3,ts,e4,e5⟩:=h
  split at e5
  ·rename_i hl
   cases e5
   have em:m=.retMany e:=by cases m <;> first|(cases e1;done)|(cases e1;rfl)
   exact ⟨e,v,xs,ts,by rw [em],e2,e3,e4,hl.1,hl.2,rfl⟩
  ·cases e5
 ·cases h
theorem iQ {ds:List MD}{n f:Nat}{d:MD}{args:List MV}{r:PV} (hf:f < 1000) (hn:ds[f + 1000]?=none) (hd:ds[f]?=some d) (h:af ds (n + 1) (f + 1000) args=some r):args.length=d.params.length /\
  ∃ xs,exs (af ds n) d.body (args.map some ++ List.replicate (d.names.length - args.length) none)=.retF xs/\r=.lst xs:=by
 rw [af,hn] at h
 dsimp only at h
 rw [if_neg (by omega)] at h
 rw [if_neg (by omega),Nat.add_sub_cancel,hd] at h
 dsimp only at h
 by_cases hl:args.length=d.params.length
 ·rw [if_pos hl] at h
  refine ⟨hl,?_⟩
  cases he:exs (af ds n) d.body (args.map some ++ List.replicate (d.names.length - args.length) none) with
  | retF xs=>rw [he] at h;cases h;exact ⟨xs,rfl,rfl⟩
  | next ρ=>rw [he] at h;cases h
  | ret v=>rw [he] at h;cases h
  | brk ρ=>rw [he] at h;cases h
  | cont ρ=>rw [he] at h;cases h
  | bad=>rw [he] at h;cases h
 ·rw [if_neg hl] at h
  cases h
theorem jX {α β:Type}{F:α->β->Prop}:∀ {xs:List α}{ys:List β}{i:Nat}{x:α},Paired F xs ys->xs[i]?=some x->∃ y,ys[i]?=some y/\F x y
 | _,_,_,_,.nil,e=>by simp at e
 | _,_,0,_,.cons r _,e=>by simp at e;subst e;exact ⟨_,rfl,r⟩
 | _,_,i + 1,x,.cons _ t,e=>by
  obtain ⟨u,h1,h2⟩:=jX (i:=i) (x:=x) t (by simpa using e)
  exact ⟨u,by simpa using h1,h2⟩
theorem g6 {K:PySem.W.Frag}{H:Hp}{O:List Addr}{args:List MV}{vs:List V}{N:List Str} (hO:∀ a ∈ O,H a ≠ none) (h:Paired (gf K O H) args vs):aw K H O O H (args.map some ++ List.replicate (N.length - args.length) none) (fq N vs):=by
 have hl:args.length=vs.length:=Paired.length h
 have get:∀ (i:Nat) (m:MV),(args.map some ++ List.replicate (N.length - args.length) none)[i]?=some (some m)->∃ u,(fq N vs)[i]?=some (some u)/\gf K O H m u:=λi m e=>by
  by_cases hi:i < args.length
  ·rw [List.getElem?_append_left (by simpa using hi),List.getElem?_map] at e
   cases ea:args[i]? with
   | none=>rw [ea] at e;cases e
   | some m' =>
    rw [ea] at e
    cases e
    obtain ⟨u,eu,q⟩:=jX h ea
    refine ⟨u,?_,q⟩
    unfold L2.fq
    rw [List.getElem?_append_left (by rw [List.length_map,<- hl];exact hi),List.getElem?_map,eu]
    rfl
  ·rw [List.getElem?_append_right (by simpa using hi),List.getElem?_replicate] at e
   split at e <;> cases e
 refine ⟨ag.refl H,hO,λa ha=>ha,hO,by unfold L2.fq;simp [hl],λi m e=>?_,λi j xs ys a _ e _ ox _=>?_
  ,?_
  ⟩
 ·obtain ⟨u,eu,q⟩:=get i m e
  refine ⟨u,eu,?_⟩
  cases m with
  | val v=>exact q
  | own _=>exact q.elim
  | brw ys=>exact q
  | ownD _=>exact q.elim
  | ownL _=>exact q.elim
  | brwD _=>exact q
 ·obtain ⟨u,eu,q⟩:=get i _ e
  cases xs with
  | own _=>exact q.elim
  | ownD _=>exact q.elim
  | ownL _=>exact q.elim
  | val _=>cases ox
  | brw _=>cases ox
  | brwD _=>cases ox
 ·exact mP λi xss e=>by
   obtain ⟨u,eu,q⟩:=get i _ e
   exact q.elim
section
variable {T:Tab}{P:Program}{w:World}{K:PySem.W.Frag}{mg:Str->Option Value}{base:Heap}{ds:List MD}
structure Ad (T:Tab) (P:Program) (w:World) (K:PySem.W.Frag) (mg:Str->Option Value) (base:Heap) (ds:List MD) (n g:Nat) (fa:Addr) (fd:FuncData) (ps:List Str):Prop where
 m:eT P w K mg base CX0 n fa fd ps (spM K (af ds n) g)
 f:eT P w K mg base CX0 n fa fd ps (spF K (af ds n) g)
 e:eT P w K mg base (CXE P w) n fa fd ps (spE K mg T.es (af ds n) g)
 u:eT P w K mg base CX0 n fa fd ps (spU K (af ds n) g)
theorem g7 (hlen:ds.length <= 1000) (pr:yg T K mg ds):∀ (n f:Nat) (d:MD),ds[f]?=some d->∀ st fa fd,nn T K mg st d fa fd->Ad T P w K mg base ds n f fa fd d.params
 | 0,f,d,hd,st,fa,fd,D=>{
   m:=⟨λvs H Q E h=>(by obtain ⟨O,args,r,_,_,e,_⟩:=h;exact absurd e (by simp [af])),λA outer s H args us vs Q E _ _ _ _ h=>(by obtain ⟨O,args,r,_,_,e,_⟩:=h;exact absurd e (by simp [af]))⟩
   f:=⟨λvs H Q E h=>(by obtain ⟨O,args,r,_,_,e,_⟩:=h;exact absurd e (by simp [af])),λA outer s H args us vs Q E _ _ _ _ h=>(by obtain ⟨O,args,r,_,_,e,_⟩:=h;exact absurd e (by simp [af]))⟩
   e:=⟨λvs H Q E h=>(by obtain ⟨O,args,r,_,_,e,_⟩:=h;exact absurd e (by simp [af])),λA outer s H args us vs Q E _ _ _ _ h=>(by obtain ⟨O,args,r,_,_,e,_⟩:=h;exact absurd e (by simp [af]))⟩
   u:=⟨λvs H Q E h=>(by obtain ⟨O,args,n,_,_,e,_⟩:=h;exact absurd e (by simp [af])),λA outer s H args us vs Q E _ _ _ _ h=>(by obtain ⟨O,args,n,_,_,e,_⟩:=h;exact absurd e (by simp [af]))⟩
   }
 | n + 1,f,d,hd,st,fa,fd,D=>by
  obtain ⟨c0,d0,k0,o0,m0,a0,cdv,t1,a1,sl,lk,hc,rfl⟩:=D.fn.it
  have hf:f < 1000:=Nat.lt_of_lt_of_le (List.getElem?_eq_some_iff.mp hd).1 hlen
  have hn:ds[f + 1000]?=none:=List.getElem?_eq_none (by omega)
  have hn5:ds[f + 5000]?=none:=List.getElem?_eq_none (by omega)
  have hn7:ds[f + 7000]?=none:=List.getElem?_eq_none (by omega)
  have gg:∀ {CX:CXT}{A:Around}{outer:_}{s:Shared}{H:Hp}{E:_},_->Gf (ki CX P w K mg base d.names d.name (aH st) fa cdv A outer s H E).nox T n (af ds n):=λ{CX A outer s H E} hr=>{
   calm:=rfl
   room:=hr
   fns:=λf' x hx=>by
    rw [pr.tab,List.getElem?_map] at hx
    cases hd2:ds[f']? with
    | none=>rw [hd2] at hx;cases hx
    | some d2 =>
     rw [hd2] at hx
     cases hx
     obtain ⟨l2,st2,fa2,fd2,el,D2,bd⟩:=pr.defs.get hd2
     exact ⟨fa2,fd2,d2.params,D2.named,D2.fn.kp,D2.binds,(g7 hlen pr n f' d2 hd2 st2 fa2 fd2 D2).m,λl hl=>by rw [el] at hl;cases hl;exact bd⟩
   blt:=pr.blt
   gs:=pr.gs
   fnsF:=λf' x hx=>by
    rw [pr.tab,List.getElem?_map] at hx
    cases hd2:ds[f']? with
    | none=>rw [hd2] at hx;cases hx
    | some d2 =>
     rw [hd2] at hx
     cases hx
     obtain ⟨l2,st2,fa2,fd2,el,D2,bd⟩:=pr.defs.get hd2
     exact ⟨fa2,fd2,d2.params,D2.named,D2.fn.kp,D2.binds,(g7 hlen pr n f' d2 hd2 st2 fa2 fd2 D2).f⟩
   fnsU:=λf' x hx=>by
    rw [pr.tab,List.getElem?_map] at hx
    cases hd2:ds[f']? with
    | none=>rw [hd2] at hx;cases hx
    | some d2 =>
     rw [hd2] at hx
     cases hx
     obtain ⟨l2,st2,fa2,fd2,el,D2,bd⟩:=pr.defs.get hd2
     exact ⟨fa2,fd2,d2.params,D2.named,D2.fn.kp,D2.binds,(g7 hlen pr n f' d2 hd2 st2 fa2 fd2 D2).u⟩
   errs:=pr.errs
   mgs:=pr.mgs
   fnsE:=λf' x hx=>by
    rw [pr.tab,List.getElem?_map] at hx
    cases hd2:ds[f']? with
    | none=>rw [hd2] at hx;cases hx
    | some d2 =>
     rw [hd2] at hx
     cases hx
     obtain ⟨l2,st2,fa2,fd2,el,D2,bd⟩:=pr.defs.get hd2
     exact ⟨fa2,fd2,d2.params,D2.named,D2.fn.kp,D2.binds,(g7 hlen pr n f' d2 hd2 st2 fa2 fd2 D2).e⟩
   }
  have df:∀ {CX:CXT}{A:Around}{outer:_}{s:Shared}{H:Hp}{E:_},Df (ki CX P w K mg base d.names d.name (aH st) fa cdv A outer s H E).nox:=λ{CX A outer s H E}=>⟨D.scope.nd,λ_=>rfl,PassesOwn.never,by
    have hk:(ki CX P w K mg base d.names d.name (aH st) fa cdv A outer s H E).nox.env.scope.kind=.function:=D.scope.kind
    unfold Env.blockKind
    rw [hk]
    rfl
    ,⟨rfl,rfl⟩
    ⟩
  refine {
   m:=?_
   f:=?_
   e:=?_
   u:=?_
   }
  ·refine oO lk hc D.scope (λvs H Q E h=>?_) (λA outer s H vs Q E hr h=>?_)
   ·obtain ⟨O,args,r,_,hp,e,_⟩:=h
    rw [<- (jV hd e).1]
    exact (Paired.length hp).symm
   ·obtain ⟨O,args,r,hO,hp,e,q⟩:=h
    obtain ⟨hl,hr'⟩:=jV hd e
    refine ⟨_,(soundSs (gg hr) df d.body (dC st) D.body).nox,H,O,O,_,g6 hO hp,?_⟩
    rcases hr' with ⟨ρ,he,rfl⟩|he|⟨xs,he,rfl⟩
    ·rw [he]
     exact λσ' H' O' st' _=>q _ H' st'.keep (i2 _)
    ·rw [he]
     exact λu H' s' r'=>q u H' s' r'
    ·rw [he]
     refine λp us H' s' hp' he' r'=>q _ H' s' ?_
     rw [Rep]
     refine ⟨p,us,rfl,SqL.of ?_,Reps.mono gZ _ r'⟩
     rw [bH λz=>hO p z hp']
     exact he'
  ·refine oO lk hc D.scope (λvs H Q E h=>?_) (λA outer s H vs Q E hr h=>?_)
   ·obtain ⟨O,args,r,_,hp,e,_⟩:=h
    rw [<- (iQ hf hn hd e).1]
    exact (Paired.length hp).symm
   ·obtain ⟨O,args,xs,hO,hp,e,q⟩:=h
    obtain ⟨hl,ys,he,ey⟩:=iQ hf hn hd e
    cases ey
    refine ⟨_,(soundSs (gg hr) df d.body (dC st) D.body).nox,H,O,O,_,g6 hO hp,?_⟩
    rw [he]
    exact λp us H' s' hp' he' r'=>q p us H' s' hp' he' r'
  ·refine oO lk hc D.scope (λvs H Q E h=>?_) (λA outer s H vs Q E hr h=>?_)
   ·obtain ⟨O,args,r,_,hp,e,_⟩:=h
    rw [<- (lb hn5 hd hf e).1]
    exact (Paired.length hp).symm
   ·obtain ⟨O,args,r,hO,hp,e,q⟩:=h
    obtain ⟨hl,he⟩:=lb hn5 hd hf e
    have dy:Df (ki (CXE P w) P w K mg base d.names d.name (aH st) fa cdv A outer s H E).nox:=df
    have dx:Df (ki (CXE P w) P w K mg base d.names d.name (aH st) fa cdv A outer s H E):=⟨dy.nd,dy.fn,PassesOwn.leaving,dy.blk,dy.stk⟩
    refine ⟨_,soundE (Gf.unnox (gg hr)) dx d.body (dC st) D.body,H,O,O,_,g6 hO hp,?_⟩
    cases hx:exsE (af ds n) d.body (args.map some ++ List.replicate (d.names.length - args.length) none) with
    | err c =>
     rw [hx] at he
     cases he
     rcases q with ⟨v,z,_⟩|⟨c',z,q⟩
     ·cases z
     ·cases z
      exact λC H' hc1 hm s1=>⟨λpins s' σ' h' ea vs I hx=>nR I rfl rfl rfl hx λs2 fl=>⟨ea,C,H',rfl,fl,q C H' hc1 hm s1⟩,λpins σ' H1 s1' ea s' I fl=>qm I rfl rfl rfl fl λs2 fl2=>⟨ea,C,H',rfl,fl2,q C H' hc1 hm s1⟩⟩
    | fin r0 =>
     rw [hx] at he
     rcases q with ⟨v,z,q⟩|⟨c',z,q⟩
     ·subst z
      cases r0 with
      | next ρ =>
       cases he
       exact λσ' H' O' st' _=>q _ H' st'.keep (i2 _)
      | ret u =>
       cases he
       exact λu H' s' r'=>q u H' s' r'
      | brk _=>cases he
      | cont _=>cases he
      | bad=>cases he
      | retF _=>cases he
     ·subst z
      cases r0 <;> cases he
  ·refine oO lk hc D.scope (λvs H Q E h=>?_) (λA outer s H vs Q E hr h=>?_)
   ·obtain ⟨O,args,m,_,hp,e,_⟩:=h
    rw [<- (jW hn7 hd e).1]
    exact (Paired.length hp).symm
   ·obtain ⟨O,args,m,hO,hp,e,q⟩:=h
    obtain ⟨hl,e'⟩:=jW hn7 hd e
    obtain ⟨me,v,xs,ts,hb,e1,e2,e3,l1,l2,hm⟩:=tq e'
    cases hm
    have hbd:=D.body
    rw [hb] at hbd
    cases hss:dC st with
    | nil=>rw [hss] at hbd;cases hbd
    | cons s1 ss1 =>
     rw [hss] at hbd
     obtain ⟨c1,c2⟩:=Bool.and_eq_true_iff.mp (show (c_ T d.names (aH st) (.retMany me) s1&&chkSs T d.names (aH st) [] ss1)=true from hbd)
     obtain rfl:ss1=[]:=by
      cases ss1 with
      | nil=>rfl
      | cons _ _=>cases c2
     obtain ⟨z,z1,c0⟩:=aA c1
     obtain ⟨p,p1,p2,p3,pos,z2,rfl⟩:=mQ z1
     obtain ⟨c1,b7⟩:=Bool.and_eq_true_iff.mp c0
     obtain ⟨c1,b6⟩:=Bool.and_eq_true_iff.mp c1
     obtain ⟨c1,b5⟩:=Bool.and_eq_true_iff.mp c1
     obtain ⟨c1,b4⟩:=Bool.and_eq_true_iff.mp c1
     obtain ⟨c1,b3⟩:=Bool.and_eq_true_iff.mp c1
     obtain ⟨b1,b2⟩:=Bool.and_eq_true_iff.mp c1
     have g:=gg (CX:=CX0) (outer:=outer) (s:=s) (H:=H) (E:=E) hr
     have pe:=vB g (eq_of_beq b1) (eq_of_beq b2) b3 b4 b5 b6 (p:=p) (p1:=p1) (p2:=p2) (p3:=p3)
     rw [<- z2] at pe
     refine ⟨_,(iW (nz (pos:=pos) pe)).nox,H,O,O,_,v,xs,ts,g6 hO hp,e1,e2,e3,l1,l2,λa us H' s' ha hl'=>q a us H' s' ha (by rw [hl'])⟩
theorem Ae (hlen:ds.length <= 1000) (pr:yg T K mg ds) (n f:Nat) (d:MD) (hd:ds[f]?=some d) (st:Stmt) (fa:Addr) (fd:FuncData) (D:nn T K mg st d fa fd):eT P w K mg base CX0 n fa fd d.params (spM K (af ds n) f):=(g7 hlen pr n f d hd st fa fd D).m
end
theorem yi {K:PySem.W.Frag}{ds:List MD}{n li:Nat}{H:Hp}{a:Addr}{ns:List Int} (h:af ds n li [.brw (ns.map .int)]=some (.bl true)) (hS:SqL K H a (ns.map V.int)):spM K (af ds n) li [.ref a] H (λv _=>v=.bl true) λ_ _ _=>False :=
 ⟨[],[.brw (ns.map .int)],.bl true,λ_ z=>by simp at z,.cons ⟨a,_,rfl,hS,.of_ints ns⟩ .nil,h,λu H' _ r=>by rw [Rep] at r;exact r⟩
end MM
namespace MM
open PySem
noncomputable abbrev ofS (ts:List Int):PV:=.tup (ts.map .int)
noncomputable abbrev ofR (R:List (List Int)):PV:=.tup (R.map ofS)
noncomputable abbrev ofL (ns:List Int):PV:=.lst (ns.map .int)
theorem bV:∀ ns:List Int,aY (ns.map .int)=some ns
 | []=>rfl
 | n::ns=>by simp [aY,bV ns]
theorem iH:∀ R:List (List Int),dt (R.map ofS)=some R
 | []=>rfl
 | t::R=>by simp [dt,bV,iH R]
theorem jY:∀ ns:List Bool,bY (ns.map .bl)=some ns
 | []=>rfl
 | n::ns=>by simp [bY,jY ns]
theorem lc {ns:List Int} (h:ns.length < 64):eB (ns.map .int)=some (ofL (sortI ns)):=by
 unfold eB
 rw [if_pos (by simpa using h),bV]
theorem fU {R:List (List Int)} (h:R.length < 64):eB (R.map ofS)=some (.lst ((sortT R).map ofS)):=by
 unfold eB
 rw [if_pos (by simpa using h)]
 cases R with
 | nil=>rfl
 | cons t R =>
  have:aY ((t::R).map ofS)=none:=rfl
  rw [this]
  simp only [iH,Option.map_some]
theorem jZ {α:Type}{g:α->PV}{c:PV->Option Bool}{f:PV->Option PV}{p:α->Bool}{h:α->PV}:∀ {xs:List α},(∀ x ∈ xs,c (g x)=some (p x))->(∀ x ∈ xs,p x=true->f (g x)=some (h x))->eC c f (xs.map g)=some ((xs.filter p).map h)
 | [],_,_=>rfl
 | x::xs,hc,hf=>by
  rw [List.map_cons,eC,hc x (.head _),Option.bind_some]
  have ih:=jZ (xs:=xs) (λy hy=>hc y (.tail _ hy)) (λy hy=>hf y (.tail _ hy))
  cases hp:p x with
  | true=>rw [if_pos rfl,hf x (.head _) hp,Option.bind_some,ih,List.filter_cons_of_pos hp];rfl
  | false=>rw [if_neg (by simp),ih,List.filter_cons_of_neg (by simp [hp])]
theorem og {α:Type}{g:α->PV}{c:PV->Option Bool}{f:PV->Option PV}{h:α->PV}{xs:List α} (hc:∀ x ∈ xs,c (g x)=some true) (hf:∀ x ∈ xs,f (g x)=some (h x)):eC c f (xs.map g)=some (xs.map h):=by
 rw [jZ (p:=λ_=>true) hc (λx hx _=>hf x hx),List.filter_eq_self.mpr λ_ _=>rfl]
theorem yj (a b:Int) (ts:List Int):((b == a) || decide (a ∈ ts))=decide (a=b \/ a ∈ ts):=by
 by_cases e:a=b
 ·subst e;rw [beq_self_eq_true,Bool.true_or];exact (decide_eq_true (.inl rfl)).symm
 ·rw [beq_eq_false_iff_ne.mpr (Ne.symm e),Bool.false_or]
  by_cases q:a ∈ ts
  ·rw [decide_eq_true q,decide_eq_true (.inr q)]
  ·rw [decide_eq_false q,decide_eq_false (λz=>z.elim e q)]
theorem dH (h:Int):∀ ts:List Int,isIn (.int h) (ts.map .int)=some (decide (h ∈ ts))
 | []=>rfl
 | t::ts=>by
  have ih:=dH h ts
  unfold isIn at ih ⊢
  rw [List.map_cons,inL,ih]
  simp only [eqF,Option.bind_some,Option.map_some,List.mem_cons,yj]
theorem j1 (n:Nat):∀ a b:List Int,eqL (eqF n) (a.map .int) (b.map .int)=some (decide (a=b))
 | [],[]=>rfl
 | [],_::_=>rfl
 | _::_,[]=>rfl
 | x::a,y::b=>by
  rw [List.map_cons,List.map_cons,eqL,j1 n a b]
  simp only [eqF,Option.bind_some,Option.map_some,List.cons.injEq]
  congr 1
  rw [Bool.eq_iff_iff]
  simp
theorem Af (n:Nat) (a b:List Int):eqF (n + 1) (ofS a) (ofS b)=some (decide (a=b)):=by rw [eqF,j1]
theorem Ag (n:Nat) (a b:List Int):eqF (n + 1) (ofL a) (ofL b)=some (decide (a=b)):=by
 rw [eqF,j1]
 split
 ·rfl
 ·rename_i h
  congr 1
  exact (decide_eq_false λe=>h (by rw [e])).symm
theorem tu (n:Nat):∀ a b:List (List Int),eqL (eqF (n + 1)) (a.map ofS) (b.map ofS)=some (decide (a=b))
 | [],[]=>rfl
 | [],_::_=>rfl
 | _::_,[]=>rfl
 | x::a,y::b=>by
  rw [List.map_cons,List.map_cons,eqL,tu n a b,Af]
  simp only [Option.bind_some,Option.map_some,List.cons.injEq]
  congr 1
  rw [Bool.eq_iff_iff]
  simp
theorem tw (n:Nat) (a b:List (List Int)):eqF (n + 2) (ofR a) (ofR b)=some (decide (a=b)):=by rw [eqF,tu]
noncomputable def aV:R->Option PV
 | .next _=>some .non
 | .ret v=>some v
 | .retF xs=>some (.lst xs)
 | _=>none
theorem aJ {ds:List MD}{n f:Nat}{d:MD}{args:List MV} (hd:ds[f]?=some d) (hl:args.length=d.params.length):af ds (n + 1) f args=aV (exs (af ds n) d.body (args.map some ++ List.replicate (d.names.length - args.length) none)):=by
 rw [af,hd]
 simp only [hl,if_true]
 unfold aV
 rfl
theorem lf {ds:List MD}{n f:Nat}{d:MD}{args:List MV} (hn:ds[f + 5000]?=none) (hd:ds[f]?=some d) (hl:args.length=d.params.length)
  (hf:f < 1000:=by decide)
 :af ds (n + 1) (f + 5000) args=r_ (exsE (af ds n) d.body (args.map some ++ List.replicate (d.names.length - args.length) none)):=by
 rw [af,hn]
 dsimp only
 rw [if_neg (by omega)]
 rw [if_pos (by omega)]
 rw [Nat.add_sub_cancel,hd]
 dsimp only
 rw [if_pos hl]
theorem qI {ds:List MD}{n f:Nat}{d:MD}{args:List MV} (hn:ds[f + 7000]?=none) (hd:ds[f]?=some d) (hl:args.length=d.params.length):af ds (n + 1) (f + 7000) args=jF (af ds n) d.body (args.map some ++ List.replicate (d.names.length - args.length) none):=by
 rw [af,hn]
 dsimp only
 rw [if_pos (by omega),Nat.add_sub_cancel,hd]
 dsimp only
 rw [if_pos hl]
@[simp] theorem yK (xs:List PV) (k:Rho->R):(R.retF xs).andThen k=.retF xs:=rfl
@[simp] theorem yL (v:PV):bM (some (.val v))=some v:=rfl
@[simp] theorem yM (v:List PV):bM (some (.own v))=some (.lst v):=rfl
@[simp] theorem yN (v:List PV):bM (some (.brw v))=some (.lst v):=rfl
@[simp] theorem yk (v:DD):bM (some (.ownD v))=some (.dI v):=rfl
@[simp] theorem yl (v:DD):bM (some (.brwD v))=some (.dI v):=rfl
@[simp] theorem ym (v:DD):ff (some (.ownD v))=some (.brwD v):=rfl
@[simp] theorem yn (v:DD):ff (some (.brwD v))=some (.brwD v):=rfl
@[simp] theorem yo (v:DD):dZ (some (.ownD v))=some (.brwD v):=rfl
@[simp] theorem yq (v:DD):dZ (some (.brwD v))=some (.brwD v):=rfl
@[simp] theorem Bl (i:Int):sc? (.int i)=some (.int i):=rfl
@[simp] theorem BB (i:Bool):sc? (.bl i)=some (.bl i):=rfl
@[simp] theorem Bm:sc? .non=some .non:=rfl
@[simp] theorem Bn (i:Int):(Sc.int i).pv=.int i:=rfl
@[simp] theorem BC (i:Bool):(Sc.bl i).pv=.bl i:=rfl
@[simp] theorem yO (v:PV):r6 (some (.val v))=some v:=rfl
@[simp] theorem yP (v:PV):ff (some (.val v))=some (.val v):=rfl
@[simp] theorem yQ (v:List PV):ff (some (.own v))=some (.brw v):=rfl
@[simp] theorem yR (v:List PV):ff (some (.brw v))=some (.brw v):=rfl
@[simp] theorem yS (v:PV):dZ (some (.val v))=some (.val v):=rfl
@[simp] theorem yT (v:List PV):dZ (some (.own v))=some (.brw v):=rfl
@[simp] theorem yU (v:List PV):dZ (some (.brw v))=some (.brw v):=rfl
@[simp] theorem yV (b:Bool):aL (.bl b)=some b:=rfl
@[simp] theorem AB (i j:Int):gc .add (.int i) (.int j)=some (.int (i + j)):=rfl
@[simp] theorem AC (i j:Int):gc .sub (.int i) (.int j)=some (.int (i - j)):=rfl
@[simp] theorem AD (i j:Int):gc .mul (.int i) (.int j)=if (-(2 ^ 64) < i/\i < 2 ^ 64) \/ (-(2 ^ 64) < j/\j < 2 ^ 64) then some (.int (i * j)) else none:=rfl
@[simp] theorem tz (i j:Int):gc .fdiv (.int i) (.int j)=if 0 < j/\j < 1073741824 then some (.int (i / j)) else none:=rfl
@[simp] theorem eW (i j:Int):gc .mod (.int i) (.int j)=if 0 < j then some (.int (i % j)) else none:=rfl
@[simp] theorem AE (x y:List PV):gc .add (.lst x) (.lst y)=if x.length + y.length <= 10000 then some (.lst (x ++ y)) else none:=rfl
@[simp] theorem Bo (i j:Int):bX .lt (.int i) (.int j)=some (decide (i < j)):=rfl
@[simp] theorem Bp (i j:Int):bX .le (.int i) (.int j)=some (decide (i <= j)):=rfl
@[simp] theorem Bq (i j:Int):bX .gt (.int i) (.int j)=some (decide (j < i)):=rfl
@[simp] theorem Br (i j:Int):bX .ge (.int i) (.int j)=some (decide (j <= i)):=rfl
@[simp] theorem yr (x y:PV):bX .eq x y=eqF 100 x y:=rfl
@[simp] theorem Bs (x y:PV):bX .ne x y=if qr x y=true then (eqF 100 x y).map (λp=>!p) else none:=rfl
@[simp] theorem AF (x:PV):bX .isN x .non=some (kW x):=rfl
@[simp] theorem Ah (x:PV):bX .notN x .non=some (!kW x):=rfl
@[simp] theorem AG (x:PV) (xs:List PV):bX .isIn x (.tup xs)=isIn x xs:=rfl
@[simp] theorem AH (x:PV) (xs:List PV):bX .isIn x (.lst xs)=isIn x xs:=rfl
@[simp] theorem Ai (x:PV) (xs:List PV):bX .notIn x (.tup xs)=(isIn x xs).map λp=>!p:=rfl
@[simp] theorem Aj (x:PV) (xs:List PV):bX .notIn x (.lst xs)=(isIn x xs).map λp=>!p:=rfl
@[simp] theorem vJ (n:Nat) (i j:Int):eqF n (.int i) (.int j)=some (i == j):=by cases n <;> rfl
@[simp] theorem Bt (n:Nat) (i j:Bool):eqF n (.bl i) (.bl j)=some (i == j):=by cases n <;> rfl
@[simp] theorem AI (n:Nat) (i j:Str):eqF n (.str i) (.str j)=some (i == j):=by cases n <;> rfl
@[simp] theorem AJ (x y:List PV):qr (.tup x) (.tup y)=true:=rfl
@[simp] theorem AK (x y:List PV):qr (.lst x) (.lst y)=true:=rfl
@[simp] theorem AL (x y:Int):qr (.int x) (.int y)=true:=rfl
@[simp] theorem AM (x:List PV):aI (.tup x)=some x:=rfl
@[simp] theorem vK (x:List PV):aI (.lst x)=some x:=rfl
@[simp] theorem Ak (x:List PV):aq .len [.tup x]=some (.int x.length):=rfl
@[simp] theorem Am (x:List PV):aq .len [.lst x]=some (.int x.length):=rfl
@[simp] theorem An (x:List (Int × Sc)):aq .len [.dI (.k x)]=some (.int x.length):=rfl
@[simp] theorem AN (x:PV):aq .tupleOf [x]=(aI x).map .tup:=rfl
@[simp] theorem Ao (x:PV):aq .listOf [x]=(aI x).map .lst:=rfl
@[simp] theorem yt (x:PV):aq .sorted [x]=(aI x).bind eB:=rfl
@[simp] theorem vL (x:List PV):aq .any [.lst x]=(bY x).map λbs=>.bl (bs.any id):=rfl
@[simp] theorem AO (x:List PV):aq .all [.lst x]=(bY x).map λbs=>.bl (bs.all id):=rfl
@[simp] theorem Ap (i:Int):aq .intOf [.int i]=some (.int i):=rfl
@[simp] theorem Aq (b:Bool):aq .intOf [.bl b]=some (.int (if b then 1 else 0)):=rfl
@[simp] theorem AQ (i:Int):isD (.int i)=false:=rfl
@[simp] theorem Bu (i:Bool):isD (.bl i)=false:=rfl
@[simp] theorem AR (i:Str):isD (.str i)=false:=rfl
@[simp] theorem AS (i:List PV):isD (.tup i)=false:=rfl
@[simp] theorem AT (i:List PV):isD (.lst i)=false:=rfl
@[simp] theorem AU:isD .non=false:=rfl
@[simp] theorem yW (x:PV):aq .isInt [x]=if isD x=true then none else some (.bl (isT .isInt x)):=rfl
@[simp] theorem ua (i:Int):isT .isInt (.int i)=true:=rfl
@[simp] theorem vM (i:Bool):isT .isInt (.bl i)=true:=rfl
@[simp] theorem ub (i:Str):isT .isInt (.str i)=false:=rfl
@[simp] theorem uc (i:List PV):isT .isInt (.lst i)=false:=rfl
@[simp] theorem ud (i:List PV):isT .isInt (.tup i)=false:=rfl
@[simp] theorem ue:isT .isInt .non=false:=rfl
@[simp] theorem yu (x:PV):aq .isBool [x]=if isD x=true then none else some (.bl (isT .isBool x)):=rfl
@[simp] theorem tD (i:Int):isT .isBool (.int i)=false:=rfl
@[simp] theorem uf (i:Bool):isT .isBool (.bl i)=true:=rfl
@[simp] theorem tG (i:Str):isT .isBool (.str i)=false:=rfl
@[simp] theorem tH (i:List PV):isT .isBool (.lst i)=false:=rfl
@[simp] theorem tI (i:List PV):isT .isBool (.tup i)=false:=rfl
@[simp] theorem tJ:isT .isBool .non=false:=rfl
@[simp] theorem yX (x:PV):aq .isStr [x]=if isD x=true then none else some (.bl (isT .isStr x)):=rfl
@[simp] theorem ug (i:Int):isT .isStr (.int i)=false:=rfl
@[simp] theorem vN (i:Bool):isT .isStr (.bl i)=false:=rfl
@[simp] theorem uh (i:Str):isT .isStr (.str i)=true:=rfl
@[simp] theorem ui (i:List PV):isT .isStr (.lst i)=false:=rfl
@[simp] theorem uj (i:List PV):isT .isStr (.tup i)=false:=rfl
@[simp] theorem ul:isT .isStr .non=false:=rfl
@[simp] theorem yw (x:PV):aq .isList [x]=if isD x=true then none else some (.bl (isT .isList x)):=rfl
@[simp] theorem tK (i:Int):isT .isList (.int i)=false:=rfl
@[simp] theorem um (i:Bool):isT .isList (.bl i)=false:=rfl
@[simp] theorem tL (i:Str):isT .isList (.str i)=false:=rfl
@[simp] theorem tM (i:List PV):isT .isList (.lst i)=true:=rfl
@[simp] theorem tN (i:List PV):isT .isList (.tup i)=false:=rfl
@[simp] theorem tO:isT .isList .non=false:=rfl
@[simp] theorem wp (x:PV):aq .isTuple [x]=if isD x=true then none else some (.bl (isT .isTuple x)):=rfl
@[simp] theorem qO (i:Int):isT .isTuple (.int i)=false:=rfl
@[simp] theorem tP (i:Bool):isT .isTuple (.bl i)=false:=rfl
@[simp] theorem qP (i:Str):isT .isTuple (.str i)=false:=rfl
@[simp] theorem qQ (i:List PV):isT .isTuple (.lst i)=false:=rfl
@[simp] theorem qR (i:List PV):isT .isTuple (.tup i)=true:=rfl
@[simp] theorem qS:isT .isTuple .non=false:=rfl
@[simp] theorem Ar (xs:List PV):aq .max1 [.lst xs]=(aY xs).bind λns=>(zD ns).map .int:=rfl
@[simp] theorem yx (d:DD):aq .valuesOf [.dI d]=if (o9 d).length <= 10000 then some (.lst (o9 d)) else none:=rfl
@[simp] theorem tQ (kvs:List (Int × Sc)):aq .sortedKeys [.dI (.k kvs)]=if kvs.length < 64 then some (ofL (sortI (kvs.map (·.1)))) else none:=rfl
@[simp] theorem Bv (kvs:List (Int × Sc)) (i:Int):rW (.dI (.k kvs)) (.int i)=some (mK kvs i):=rfl
@[simp] theorem Bw (kvs:List (List Int × Sc)) (ns:List Int):rW (.dI (.t kvs)) (.tup (ns.map .int))=some (mK kvs ns):=by
 show (aY (ns.map .int)).map (mK kvs)=_
 rw [bV]
 rfl
@[simp] theorem Bx (kvs:List (Int × Sc)) (i:Int) (s:Sc):xl (.k kvs) (.int i) s=if kvs.length < 10000 then some (.k (mL kvs i s)) else none:=rfl
@[simp] theorem By (kvs:List (List Int × Sc)) (ns:List Int) (s:Sc):xl (.t kvs) (.tup (ns.map .int)) s=if kvs.length < 10000 then some (.t (mL kvs ns s)) else none:=by
 show ((aY (ns.map .int)).bind λk=>if kvs.length < 10000 then some (DD.t (mL kvs k s)) else none)=_
 rw [bV]
 rfl
@[simp] theorem AV (p q:Bool):bX .isN (.bl p) (.bl q)=some (p == q):=rfl
@[simp] theorem As (p q:Bool):bX .notN (.bl p) (.bl q)=some (!(p == q)):=rfl
@[simp] theorem vO (xs:List PV):aq .tupleRev [.lst xs]=some (.tup xs.reverse):=rfl
@[simp] theorem uo (x:PV):aq .sortedSet [x]=(aI x).bind λxs=>(aY xs).bind λns=>if ns.length <= 1000/\(dd ns).length < 64 then some (.lst ((sortI (dd ns)).map .int)) else none:=rfl
@[simp] theorem At (x:List PV) (i:Int):kX (.lst x) (.int i)=(place x.length i).bind λj=>x[j]?:=rfl
@[simp] theorem BD (x:List PV) (i:Int):kX (.tup x) (.int i)=(place x.length i).bind λj=>x[j]?:=rfl
@[simp] theorem AW (x:List PV) (lo hi:Option Int):iX (.lst x) lo hi=some (.lst (cut x lo hi)):=rfl
@[simp] theorem AX (i j:Int):bnd (.cst (.int i)) (.int j)=some (some j):=rfl
@[simp] theorem AY (x:PV):dA .seq [x]=aI x:=rfl
theorem vP (j:Int):dA .rng [.int j]=if -(2 ^ 62) <= j/\j < 2 ^ 62 then some ((List.range j.toNat).map λ(k:Nat)=>.int ((0:Int) + k)) else none:=rfl
@[simp] theorem bI (ρ:Rho) (k:Rho->R):(R.next ρ).andThen k=k ρ:=rfl
@[simp] theorem Au (v:PV) (k:Rho->R):(R.ret v).andThen k=.ret v:=rfl
@[simp] theorem Av (k:Rho->R):R.bad.andThen k=.bad:=rfl
@[simp] theorem Aw (ρ:Rho) (k:Rho->R):(R.brk ρ).andThen k=.brk ρ:=rfl
@[simp] theorem yY (ρ:Rho) (k:Rho->R):(R.cont ρ).andThen k=.cont ρ:=rfl
@[simp] theorem gB (v:PV) (k:PV->R):cZ (some v) k=k v:=rfl
@[simp] theorem oh (v:Bool) (k:Bool->R):mO (some v) k=k v:=rfl
@[simp] theorem yy (v:Rho) (k:Rho->R):gM (some v) k=k v:=rfl
@[simp] theorem yZ (v:PV):aV (.ret v)=some v:=rfl
@[simp] theorem yz (ρ:Rho):aV (.next ρ)=some .non:=rfl
@[simp] theorem fI (a:Option MV) (l:Rho) (m:MV):put (a::l) 0 m=some m::l:=rfl
@[simp] theorem fJ (a:Option MV) (l:Rho) (n:Nat) (m:MV):put (a::l) (n + 1) m=a::put l n m:=rfl
@[simp] theorem qJ (src:List ME) (ρ₀ ρ:Rho):(R.next ρ).back src ρ₀=.next (aN src ρ₀ ρ):=rfl
@[simp] theorem Ax (src:List ME) (ρ₀:Rho) (v:PV):(R.ret v).back src ρ₀=.ret v:=rfl
@[simp] theorem y0 (body:PV->Rho->R) (ρ:Rho):aE body [] ρ=.next ρ:=rfl
theorem oi {j:Int} (h0:0 <= j) (h1:j < 4611686018427387904):dA .rng [.int j]=some ((List.range j.toNat).map λ(k:Nat)=>.int (k:Int)):=by
 rw [vP,if_pos ⟨by omega,by omega⟩]
 congr 1
 exact List.map_congr_left λk _=>by rw [Int.zero_add]
theorem j2 {n:Nat}{i:Int} (h0:0 <= i) (h:i < n):place n i=some i.toNat:=by unfold place;rw [if_pos h0,if_pos h]
noncomputable def leT (a b:List Int):Prop:=lexLt b a=false
theorem sortI_perm (l:List Int):(sortI l).Perm l:=by rw [du];exact L2.Srt.sortI_perm l
theorem sortT_perm (l:List (List Int)):(sortT l).Perm l:=by rw [fF];exact L2.Srt.sortT_perm l
theorem sortI_len (l:List Int):(sortI l).length=l.length:=(sortI_perm l).length_eq
theorem sortT_len (l:List (List Int)):(sortT l).length=l.length:=(sortT_perm l).length_eq
theorem iI {l:List Int}{x:Int}:x ∈ sortI l ↔ x ∈ l:=(sortI_perm l).mem_iff
theorem iJ {l:List (List Int)}{x:List Int}:x ∈ sortT l ↔ x ∈ l:=(sortT_perm l).mem_iff
theorem sortI_rises (l:List Int):(sortI l).Pairwise (· <= ·):=by rw [du];exact L2.Srt.sortI_rises l
theorem sortT_rises (l:List (List Int)):(sortT l).Pairwise leT:=by
 rw [fF]
 exact (L2.Srt.sortT_rises l).imp λh=>by unfold leT;rw [gY];exact h
theorem sortI_id {l:List Int} (h:l.Pairwise (· <= ·)):sortI l=l:=by rw [du];exact L2.Srt.sortI_id h
theorem sortT_id {l:List (List Int)} (h:l.Pairwise leT):sortT l=l:=by
 rw [fF]
 exact L2.Srt.sortT_id (h.imp λh=>by unfold leT at h;rw [gY] at h;exact h)
theorem sortI_of_perm {a b:List Int} (p:a.Perm b):sortI a=sortI b:=by rw [du,du];exact L2.Srt.sortI_of_perm p
theorem j3 {l:List Int} (h:l.Nodup):(sortI l).Pairwise (· < ·):=by
 have h1:=sortI_rises l
 have h2:(sortI l).Nodup:=(sortI_perm l).nodup_iff.mpr h
 exact (h1.and h2).imp λ⟨a,b⟩=>by omega
theorem j4 {k:Int}{l:List Int}:k ∈ dd l ↔ k ∈ l:=by rw [m5];exact L2.St.gp
theorem dd_nodup (l:List Int):(dd l).Nodup:=by rw [m5];exact L2.St.dd_nodup l
theorem tR:∀ {l:List Int},l.Nodup->dd l=l
 | [],_=>rfl
 | x::r,h=>by
  rw [dd,tR (List.nodup_cons.mp h).2,if_neg (List.nodup_cons.mp h).1]
theorem g8 {l:List Int} (h:l.Pairwise (· < ·)):l.Nodup:=h.imp λ{a b} q=>by omega
theorem oj {l:List Int} (h:l.Pairwise (· < ·)):sortI (dd l)=l:=by
 rw [tR (g8 h)]
 exact sortI_id (h.imp λ{a b} q=>by omega)
noncomputable def cD (ts:List Int):Prop:=ts.Pairwise (· < ·)/\∀ h ∈ ts,0 <= h/\h <= 59
noncomputable def g9 (R:List (List Int)):Prop:=(∀ ts ∈ R,cD ts)/\R.Pairwise leT/\R.length <= 60
theorem om:∀ (n:Nat) (l:List Int),l.Nodup->(∀ x ∈ l,0 <= x/\x < (n:Int))->l.length <= n
 | 0,l,_,h=>by
  cases l with
  | nil=>simp
  | cons x r=>have:=h x (.head _);omega
 | n + 1,l,hn,h=>by
  have h1:=om n (l.filter λx=>decide (x ≠ (n:Int))) (hn.filter _) (λx hx=>by
   obtain ⟨h2,h3⟩:=List.mem_filter.mp hx
   have h4:=of_decide_eq_true h3
   have:=h x h2
   omega)
  have h2:∀ l:List Int,l.Nodup->l.length <= (l.filter λx=>decide (x ≠ (n:Int))).length + 1:=by
   intro l
   induction l with
   | nil=>intro _;simp
   | cons x r ih =>
    intro hn
    by_cases e:x=(n:Int)
    ·have hr:r.filter (λx=>decide (x ≠ (n:Int)))=r:=List.filter_eq_self.mpr λy hy=>decide_eq_true λz=>(List.nodup_cons.mp hn).1 (by rw [e,<- z];exact hy)
     rw [List.filter_cons_of_neg (by simp [e]),hr]
     simp
    ·rw [List.filter_cons_of_pos (by simp [e])]
     have:=ih (List.nodup_cons.mp hn).2
     simp only [List.length_cons]
     omega
  have:=h2 l hn
  omega
theorem eP {ts:List Int} (h:cD ts):ts.length <= 60:=om 60 ts (g8 h.1) λx hx=>by have:=h.2 x hx;omega
noncomputable def oo (ns:List Int) (lo hi:Option Int):List Int:=(ns.drop (fe ns.length 0 lo)).take (fe ns.length ns.length hi - fe ns.length 0 lo)
@[simp] theorem tV (ns:List Int) (lo hi:Option Int):cut (ns.map .int) lo hi=(oo ns lo hi).map .int:=by
 unfold cut oo
 rw [List.length_map,List.map_take,List.map_drop]
theorem tY (ns:List Int) {a b:Int} (ha:0 <= a) (hb:0 <= b):(oo ns (some a) (some b)).length <= (b - a).toNat:=by
 unfold oo
 rw [List.length_take,List.length_drop]
 have e1:fe ns.length ns.length (some b)=min b.toNat ns.length:=by show (if b < 0 then _ else _)=_;rw [if_neg (by omega)]
 have e2:fe ns.length 0 (some a)=min a.toNat ns.length:=by show (if a < 0 then _ else _)=_;rw [if_neg (by omega)]
 rw [e1,e2]
 omega
end MM
namespace PySem.W.Fast
theorem tw18047716819792953210:True:=⟨⟩
theorem tw17714012482549070080:True:=⟨⟩
theorem tw15931994538089407419:True:=⟨⟩
theorem tw4591999916440207979:True:=⟨⟩
theorem tw12715552547803056433:True:=⟨⟩
theorem tw9374646157991895741:True:=⟨⟩
theorem tw6448315324321725797:True:=⟨⟩
theorem tw9275451015184180398:True:=⟨⟩
theorem tw7354164463564342587:True:=⟨⟩
theorem tw10738802421697368008:True:=⟨⟩
theorem tw1143946991881933875:True:=⟨⟩
theorem tw6245726046574089708:True:=⟨⟩
theorem tw14547518491121444170:True:=⟨⟩
theorem tw16410847022980599003:True:=⟨⟩
theorem tw2135133864737134535:True:=⟨⟩
theorem tw6336447681024549138:True:=⟨⟩
theorem tw8306434998302084169:True:=⟨⟩
theorem tw8485546059488649423:True:=⟨⟩
theorem tw7551563719558993750:True:=⟨⟩
theorem tw15192834055439946154:True:=⟨⟩
theorem tw9651188492262340023:True:=⟨⟩
theorem tw10381669595171636777:True:=⟨⟩
theorem tw15879864841401426864:True:=⟨⟩
theorem tw14057633145973910583:True:=⟨⟩
theorem tw17425733494547349476:True:=⟨⟩
theorem tw19046849304724773:True:=⟨⟩
theorem tw6226649858233100463:True:=⟨⟩
theorem tw16777451572993773663:True:=⟨⟩
theorem tw3721394091258867293:True:=⟨⟩
theorem tw6122783856403358893:True:=⟨⟩
theorem tw4375931244021444501:True:=⟨⟩
theorem tw15490924351067363539:True:=⟨⟩
theorem tw14306449230406319105:True:=⟨⟩
theorem tw8033998602542217424:True:=⟨⟩
theorem tw12190611378445001201:True:=⟨⟩
theorem tw7660537126449591918:True:=⟨⟩
theorem tw1025500311369986611:True:=⟨⟩
theorem tw16442838680628761305:True:=⟨⟩
theorem tw8142003693622412415:True:=⟨⟩
theorem tw13471639272542860707:True:=⟨⟩
theorem tw7501969567752649731:True:=⟨⟩
theorem tw13236730992189050367:True:=⟨⟩
theorem tw7055429165974283884:True:=⟨⟩
theorem tw4324745847407476684:True:=⟨⟩
theorem tw4506917462127959228:True:=⟨⟩
theorem tw9184295395156568858:True:=⟨⟩
theorem tw5733209591523345052:True:=⟨⟩
theorem tw18153823540816720044:True:=⟨⟩
theorem tw1614122050420973706:True:=⟨⟩
theorem tw16220008117885932439:True:=⟨⟩
theorem tw5025181091339851822:True:=⟨⟩
theorem tw7441855841982803145:True:=⟨⟩
theorem tw15413704111895276567:True:=⟨⟩
theorem tw4825665172742564773:True:=⟨⟩
theorem tw9938472373752734084:True:=⟨⟩
theorem tw2009922956010622175:True:=⟨⟩
theorem tw2115758682652361825:True:=⟨⟩
theorem tw6994950404789304582:True:=⟨⟩
theorem tw1229185640226461932:True:=⟨⟩
theorem tw17004640919259398784:True:=⟨⟩
theorem tw9211327880021968287:True:=⟨⟩
theorem tw2913675428003090362:True:=⟨⟩
theorem tw18245535014281310956:True:=⟨⟩
theorem tw6243916359807853255:True:=⟨⟩
theorem tw11628548274852515600:True:=⟨⟩
theorem tw14877334613333211153:True:=⟨⟩
theorem tw11178483891744253641:True:=⟨⟩
theorem tw12703732205599109013:True:=⟨⟩
theorem tw16788663302852527944:True:=⟨⟩
theorem tw17456075283750923398:True:=⟨⟩
theorem tw13797668494840854524:True:=⟨⟩
theorem tw16925458335992747338:True:=⟨⟩
theorem tw7929446069629935153:True:=⟨⟩
theorem tw17454857109743520244:True:=⟨⟩
theorem tw17574874015527473301:True:=⟨⟩
theorem tw9011756495893065525:True:=⟨⟩
theorem tw11402987781223184998:True:=⟨⟩
theorem tw4793553862343459716:True:=⟨⟩
theorem tw829258113224027696:True:=⟨⟩
theorem tw9265534308830310447:True:=⟨⟩
theorem tw11911261701068672108:True:=⟨⟩
theorem tw17073066968666816966:True:=⟨⟩
theorem tw7137096178382497829:True:=⟨⟩
theorem tw3197730072293440044:True:=⟨⟩
theorem tw13478654655583982794:True:=⟨⟩
theorem tw8855692897817938943:True:=⟨⟩
theorem tw684472681096261713:True:=⟨⟩
theorem tw8325653655191060833:True:=⟨⟩
theorem tw2087726310643995383:True:=⟨⟩
theorem tw14698057988179039090:True:=⟨⟩
theorem tw14454105948705187586:True:=⟨⟩
theorem tw6178902480741269748:True:=⟨⟩
theorem tw16261189208143717581:True:=⟨⟩
theorem tw18292179122438266443:True:=⟨⟩
theorem tw13913999607914457397:True:=⟨⟩
theorem tw12342115796354866567:True:=⟨⟩
theorem tw5457792290716477255:True:=⟨⟩
theorem tw711865065612264926:True:=⟨⟩
theorem tw2800272047024522871:True:=⟨⟩
theorem tw1601334828964898715:True:=⟨⟩
theorem tw9715396569616771800:True:=⟨⟩
theorem tw5280155127297141398:True:=⟨⟩
theorem tw13259363092800838843:True:=⟨⟩
theorem tw6235669335042755700:True:=⟨⟩
theorem tw6455981461755723174:True:=⟨⟩
theorem tw16781516894898901776:True:=⟨⟩
theorem tw13258113802700090825:True:=⟨⟩
theorem tw15747503822659211580:True:=⟨⟩
theorem tw11237352061190807879:True:=⟨⟩
theorem tw3258782942044885455:True:=⟨⟩
theorem tw13817800915815254337:True:=⟨⟩
theorem tw925646949722837059:True:=⟨⟩
theorem tw5399530150728406938:True:=⟨⟩
theorem tw1528633036878853036:True:=⟨⟩
theorem tw17636621889397928584:True:=⟨⟩
theorem tw15645014528132560667:True:=⟨⟩
theorem tw11901146946107793203:True:=⟨⟩
theorem tw13292754141855713626:True:=⟨⟩
theorem tw7663927281611358744:True:=⟨⟩
theorem tw13552446209650849642:True:=⟨⟩
theorem tw17301519786795711877:True:=⟨⟩
theorem tw17600150768520845347:True:=⟨⟩
theorem tw17431843635018427763:True:=⟨⟩
theorem tw12716423715315810690:True:=⟨⟩
theorem tw7144259849567635889:True:=⟨⟩
theorem tw15729296409575097850:True:=⟨⟩
theorem tw18291188521545487442:True:=⟨⟩
theorem tw11805686483904038070:True:=⟨⟩
theorem tw15527905894663717974:True:=⟨⟩
theorem tw787846275539143996:True:=⟨⟩
theorem tw3796720465212587567:True:=⟨⟩
theorem tw7197376334429402231:True:=⟨⟩
theorem tw8431756277066160994:True:=⟨⟩
theorem tw6638367601914969954:True:=⟨⟩
theorem tw8401816006984871780:True:=⟨⟩
theorem tw13372050461636975043:True:=⟨⟩
theorem tw15555967450461852066:True:=⟨⟩
theorem tw12872459077428194401:True:=⟨⟩
theorem tw17496517851552275792:True:=⟨⟩
theorem tw13767886637351059660:True:=⟨⟩
end PySem.W.Fast
namespace My
open PySem L2 MM
noncomputable def aW:List MS:=[.extend 1 (.bor 2)]
noncomputable def bW:MD:=⟨"members_of",["rows"],["rows","members","row"],
  [.setOwn 1 (.lst []),
  .for1 2 .seq [(.bor 0)] aW,
  .retOwn 1]⟩
noncomputable def d7:MD:=⟨"each_once",["members"],["members"],
  [.ret (.cmp .eq (.blt .lenSet [(.bor 0)]) (.blt .len [(.bor 0)]))]⟩
noncomputable def eX:MD:=⟨"holes_of",["rest"],["rest"],
  [.ret (.blt .sortedSet [(.call 0 [(.bor 0)])])]⟩
noncomputable def dU:MD:=⟨"together",["rests"],["rests"],
  [.retMany (.call 0 [(.bor 0)])]⟩
noncomputable def fK:MD:=⟨"joined",["rests"],["rests","strips"],
  [.setU 1 3 [(.bor 0)] "MOST_STRIPS" 60 "NoRest",
  .ret (.var 1)]⟩
noncomputable def fL:MD:=⟨"are_apart",["rests"],["rests"],
  [.ret (.call 1 [(.call 0 [(.comp .seq [(.bor 0)] [] (.cst (.bl true)) (.call 2 [(.bor 0)]))])])]⟩
noncomputable def eY:MD:=⟨"_law_cell",["script","k"],["script","k"],
  [.ite (.cmp .lt (.bor 1) (.blt .len [(.bor 0)]))
   [.ret (.idx (.bor 0) (.bor 1))]
   [],
  .ret (.cst (.int 0))]⟩
noncomputable def d8:MD:=⟨"_law_mixed",["cell","by"],["cell","by"],
  [.ret (.bin .mod (.bin .mul (.bin .mod (.bor 0) (.cst (.int 2305843009213693951))) (.bor 1)) (.cst (.int 2305843009213693951)))]⟩
noncomputable def cE:List MS:=[.ite (.cmp .notIn (.bin .mod (.bor 3) (.bor 1)) (.bor 5))
   [.append 5 (.bin .mod (.bor 3) (.bor 1))]
   [],
  .set 3 (.bin .fdiv (.bor 3) (.bor 1))]
noncomputable def d9:MD:=⟨"_law_strip",["cell","many","most"],["cell","many","most","left","size","strip","k"],
  [.set 3 (.call 7 [(.bor 0),(.cst (.int 1181783497276652981))]),
  .set 4 (.bin .mod (.bor 3) (.bin .add (.bor 2) (.cst (.int 1)))),
  .set 3 (.bin .fdiv (.bor 3) (.bin .add (.bor 2) (.cst (.int 1)))),
  .setOwn 5 (.lst []),
  .for1 6 .rng [(.bor 4)] cE,
  .ret (.blt .tupleOf [(.blt .sorted [(.bor 5)])])]⟩
noncomputable def d_:MD:=⟨"_law_whole",["found"],["found"],
  [.ret (.and (.blt .isInt [(.bor 0)]) (.not (.blt .isBool [(.bor 0)])))]⟩
noncomputable def cK:List MS:=[.ite (.or (.not (.call 9 [(.bor 2)])) (.or (.cmp .lt (.bor 2) (.cst (.int 0))) (.cmp .gt (.bor 2) (.cst (.int 59)))))
   [.ret (.cst (.bl false))]
   []]
noncomputable def cM:List MS:=[.ite (.not (.blt .isTuple [(.bor 1)]))
   [.ret (.cst (.bl false))]
   [],
  .for1 2 .seq [(.bor 1)] cK,
  .ite (.cmp .ne (.blt .listOf [(.bor 1)]) (.blt .sortedSet [(.bor 1)]))
   [.ret (.cst (.bl false))]
   []]
noncomputable def dk:MD:=⟨"_law_is_rest",["found"],["found","strip","hole"],
  [.ite (.or (.not (.blt .isTuple [(.bor 0)])) (.cmp .gt (.blt .len [(.bor 0)]) (.cst (.int 60))))
   [.ret (.cst (.bl false))]
   [],
  .for1 1 .seq [(.bor 0)] cM,
  .ret (.cmp .eq (.blt .listOf [(.bor 0)]) (.blt .sorted [(.bor 0)]))]⟩
noncomputable def cF:List MS:=[.ite (.cmp .notIn (.bor 3) (.bor 1))
   [.append 1 (.var 3)]
   []]
noncomputable def dl:List MS:=[.for1 3 .seq [(.bor 2)] cF]
noncomputable def eh:MD:=⟨"_law_holes",["rest"],["rest","found","strip","hole"],
  [.setOwn 1 (.lst []),
  .for1 2 .seq [(.bor 0)] dl,
  .ret (.blt .sorted [(.bor 1)])]⟩
noncomputable def gC:MD:=⟨"_law_bool",["found","due"],["found","due"],
  [.ret (.and (.blt .isBool [(.bor 0)]) (.cmp .eq (.bor 0) (.bor 1)))]⟩
noncomputable def cG:List MS:=[.ite (.cmp .gt (.lenL 1) (.cst (.int 0)))
   [.set 4 (.bin .mod (.bor 3) (.lenL 1)),
   .set 5 (.call 8 [(.bin .fdiv (.bor 3) (.cst (.int 4))),(.cst (.int 60)),(.cst (.int 3))]),
   .ite (.bor 2)
    [.set 5 (.blt .tupleOf [(.blt .sortedSet [(.comp .seq [(.bor 5)] [4] (.cst (.bl true)) (.bin .add (.bin .mul (.bin .fdiv (.bor 0) (.cst (.int 4))) (.cst (.int 4))) (.bor 1)))])])]
    [],
   .appI 1 (.bor 4) (.var 5)]
   []]
noncomputable def cH:List MS:=[.set 7 (.bin .add (.bor 7) (.blt .len [(.bor 8)]))]
noncomputable def cQ:MD:=⟨"_law_rests",["script"],["script","groups","parted","cell","at","strip","rests","many","rest","more","like"],
  [.setLN 1 (.bin .mod (.call 6 [(.bor 0),(.cst (.int 0))]) (.cst (.int 5))),
  .set 2 (.cmp .eq (.bin .mod (.bin .fdiv (.call 6 [(.bor 0),(.cst (.int 0))]) (.cst (.int 5))) (.cst (.int 2))) (.cst (.int 1))),
  .for1 3 .seq [(.slice (.bor 0) (.cst (.int 4)) (.cst (.int 63)))] cG,
  .ite (.and (.bor 2) (.cmp .gt (.lenL 1) (.cst (.int 1))))
   [.appI 1 (.bin .mod (.call 6 [(.bor 0),(.cst (.int 3))]) (.lenL 1)) (.call 8 [(.bin .fdiv (.call 6 [(.bor 0),(.cst (.int 3))]) (.cst (.int 4))),(.cst (.int 60)),(.cst (.int 1))])]
   [],
  .freezeL 1,
  .set 6 (.comp .seq [(.bor 1)] [] (.cst (.bl true)) (.blt .tupleOf [(.blt .sorted [(.bor 0)])])),
  .set 7 (.cst (.int 0)),
  .for1 8 .seq [(.bor 6)] cH,
  .set 9 (.bin .mod (.bin .fdiv (.call 6 [(.bor 0),(.cst (.int 1))]) (.cst (.int 3))) (.cst (.int 61))),
  .ite (.cmp .eq (.bin .mod (.call 6 [(.bor 0),(.cst (.int 1))]) (.cst (.int 3))) (.cst (.int 1)))
   [.set 9 (.blt .min2 [(.cst (.int 60)),(.blt .max2 [(.cst (.int 0)),(.bin .add (.bin .sub (.cst (.int 59)) (.bor 7)) (.bin .mod (.bin .fdiv (.call 6 [(.bor 0),(.cst (.int 1))]) (.cst (.int 3))) (.cst (.int 4))))])])]
   [],
  .set 10 (.lst [(.bin .mul (.tup [(.tup [(.bin .mod (.bin .fdiv (.call 6 [(.bor 0),(.cst (.int 2))]) (.cst (.int 2))) (.cst (.int 60)))])]) (.bor 9))]),
  .ite (.cmp .eq (.bin .mod (.call 6 [(.bor 0),(.cst (.int 1))]) (.cst (.int 3))) (.cst (.int 0)))
   [.ret (.var 6)]
   [],
  .ite (.cmp .eq (.bin .mod (.call 6 [(.bor 0),(.cst (.int 2))]) (.cst (.int 2))) (.cst (.int 1)))
   [.ret (.bin .add (.bor 10) (.bor 6))]
   [],
  .ret (.bin .add (.bor 6) (.bor 10))]⟩
noncomputable def bo:List MS:=[.set 3 (.call 11 [(.bor 2)]),
  .ite (.blt .any [(.comp .seq [(.bor 3)] [1] (.cst (.bl true)) (.cmp .isIn (.bor 0) (.bor 1)))])
   [.ret (.cst (.bl false))]
   [],
  .set 1 (.bin .add (.bor 1) (.bor 3))]
noncomputable def fM:MD:=⟨"_law_apart",["rests"],["rests","seen","rest","here"],
  [.set 1 (.lst []),
  .for1 2 .seq [(.bor 0)] bo,
  .ret (.cst (.bl true))]⟩
noncomputable def eZ:MD:=⟨"_law_caught",["rests"],["rests","kind","e"],
  [.set 1 (.cst (.bl false)),
  .tryC none 4 [(.bor 0)] [⟨"LoomError",some 2,1,(.one (.isi "ValueError"))⟩],
  .ret (.var 1)]⟩
noncomputable def i6:List MS:=[.set 3 (.bin .add (.bor 3) (.blt .listOf [(.bor 4)]))]
noncomputable def pL:MD:=⟨"law",["script"],["script","rests","handed","strips","rest","refused","found","twice","alone"],
  [.set 1 (.call 13 [(.bor 0)]),
  .set 2 (.blt .listOf [(.bor 1)]),
  .ite (.cmp .eq (.bin .mod (.blt .len [(.bor 0)]) (.cst (.int 2))) (.cst (.int 1)))
   [.set 2 (.blt .tupleOf [(.bor 1)])]
   [],
  .set 3 (.lst []),
  .for1 4 .seq [(.bor 1)] i6,
  .set 5 (.cst (.bl false)),
  .set 6 (.cst .non),
  .tryC (some 6) 4 [(.bor 2)] [⟨"NoRest",none,5,(.one (.cst (.bl true)))⟩],
  .ite (.cmp .gt (.blt .len [(.bor 3)]) (.cst (.int 60)))
   [.ite (.or (.not (.bor 5)) (.not (.call 15 [(.bor 2)])))
    [.ret (.cst (.bl false))]
    []]
   [.ite (.or (.bor 5) (.or (.not (.call 10 [(.bor 6)])) (.cmp .ne (.bor 6) (.blt .tupleOf [(.blt .sorted [(.bor 3)])]))))
    [.ret (.cst (.bl false))]
    []],
  .ite (.or (.not (.call 12 [(.call 5 [(.bor 2)]),(.call 14 [(.bor 1)])])) (.cmp .ne (.blt .listOf [(.bor 2)]) (.bor 1)))
   [.ret (.cst (.bl false))]
   [],
  .set 7 (.bin .add (.bor 1) (.slice (.bor 1) (.cst .non) (.cst (.int 1)))),
  .ite (.not (.call 12 [(.call 5 [(.bor 7)]),(.call 14 [(.bor 7)])]))
   [.ret (.cst (.bl false))]
   [],
  .set 8 (.tup []),
  .ite (.cmp .gt (.blt .len [(.bor 1)]) (.cst (.int 0)))
   [.set 8 (.idx (.bor 1) (.cst (.int 0)))]
   [],
  .ret (.cmp .eq (.call 4 [(.slice (.bor 1) (.cst .non) (.cst (.int 1)))]) (.bor 8))]⟩
noncomputable def defs:List MD:=[bW,d7,eX,dU,fK,fL,eY,d8,d9,d_,dk,eh,gC,cQ,fM,eZ,pL]
noncomputable def tab:Tab:=⟨defs.map (·.name),[("MOST_STRIPS",(.int 60))],[[],[],[],[],[],[],[],[],[],[],[],[],[],[],[],[],[]],["LoomError","NoRest"]⟩
noncomputable def cellOf (ns:List Int) (k:Int):Int:=ns.getD k.toNat 0
theorem yA (n:Nat) (m:MV) (ns:List Int) (k:Int) (hm:bM (some m)=some (ofL ns)) (h0:0 <= k):af defs (n + 1) 6 [m,.val (.int k)]=some (.int (cellOf ns k)):=by
 rw [aJ (d:=eY) rfl rfl]
 unfold cellOf
 simp [eY,exs,ex,ev,evs,evB,hm]
 by_cases h:k < (ns.length:Int)
 ·have h2:k.toNat < ns.length:=by omega
  simp [h,j2 h0 h,h2]
 ·have h2:ns.length <= k.toNat:=by omega
  simp [h,h2]
noncomputable def c9 (c b:Int):Int:=c % 2305843009213693951 * b % 2305843009213693951
theorem vQ (n:Nat) (c b:Int):af defs (n + 1) 7 [.val (.int c),.val (.int b)]=some (.int (c9 c b)):=by
 rw [aJ (d:=d8) rfl rfl]
 have h1:0 <= c % 2305843009213693951:=Int.emod_nonneg _ (by decide)
 have h2:c % 2305843009213693951 < 2305843009213693951:=Int.emod_lt_of_pos _ (by decide)
 have h3:(-18446744073709551616 < c % 2305843009213693951/\c % 2305843009213693951 < 18446744073709551616 \/ -18446744073709551616 < b/\b < 18446744073709551616):=.inl ⟨by omega,by omega⟩
 simp [d8,exs,ex,ev,evs,h3,c9]
noncomputable def dD (many:Int):Nat->Int->List Int->List Int
 | 0,_,acc=>acc
 | n + 1,left,acc=>dD many n (left / many) (if left % many ∈ acc then acc else acc ++ [left % many])
theorem dW (many:Int) (hm:0 < many):∀ (n:Nat) (left:Int) (acc:List Int),acc.Nodup->(∀ h ∈ acc,0 <= h/\h < many)->(dD many n left acc).Nodup/\(∀ h ∈ dD many n left acc,0 <= h/\h < many)/\(dD many n left acc).length <= acc.length + n
 | 0,_,acc,h1,h2=>⟨h1,h2,by simp [dD]⟩
 | n + 1,left,acc,h1,h2=>by
  rw [dD]
  by_cases q:left % many ∈ acc
  ·rw [if_pos q]
   obtain ⟨a,b,c⟩:=dW many hm n (left / many) acc h1 h2
   exact ⟨a,b,by omega⟩
  ·rw [if_neg q]
   obtain ⟨a,b,c⟩:=dW many hm n (left / many) (acc ++ [left % many]) (List.nodup_append.mpr ⟨h1,by simp,λx hx y hy=>by rw [List.mem_singleton.mp hy];exact λz=>q (z ▸ hx)⟩) (λh hh=>by
    rcases List.mem_append.mp hh with hh|hh
    ·exact h2 h hh
    ·rw [List.mem_singleton.mp hh];exact ⟨Int.emod_nonneg _ (by omega),Int.emod_lt_of_pos _ hm⟩)
   exact ⟨a,b,by rw [List.length_append,List.length_singleton] at c;omega⟩
noncomputable def cN (c many most:Int):List Int:=sortI (dD many (c9 c 1181783497276652981 % (most + 1)).toNat (c9 c 1181783497276652981 / (most + 1)) [])
theorem j5 (cal:Cal) (c many most size:MV) (mn:Int) (hmn:bM (some many)=some (.int mn)) (h1:0 < mn) (h2:mn < 1073741824):∀ (xs:List PV) (left:Int) (acc:List Int) (kk:Option MV),acc.length + xs.length <= 10000 ->
  ∃ left' kk',aE (λx ρ'=>exs cal cE (put ρ' 6 (.val x))) xs
   [some c,some many,some most,some (.val (.int left)),some size,some (.own (acc.map .int)),kk]=.next [some c,some many,some most,some (.val (.int left')),some size,some (.own ((dD mn xs.length left acc).map .int)),kk']
 | [],left,acc,kk,_=>⟨left,kk,rfl⟩
 | x::xs,left,acc,kk,hl=>by
  simp only [List.length_cons] at hl
  rw [aE]
  have e:exs cal cE (put [some c,some many,some most,some (.val (.int left)),some size,some (.own (acc.map .int)),kk] 6 (.val x)) =
    .next [some c,some many,some most,some (.val (.int (left / mn))),some size,some (.own ((if left % mn ∈ acc then acc else acc ++ [left % mn]).map .int)),some (.val x)]:=by
   by_cases q:left % mn ∈ acc
   ·simp [cE,exs,ex,ev,evs,evB,hmn,h1,h2,dH,q]
   ·have hlt:acc.length < 10000:=by omega
    simp [cE,exs,ex,ev,evs,evB,hmn,h1,h2,dH,q,hlt]
  rw [e]
  obtain ⟨l',k',e2⟩:=j5 cal c many most size mn hmn h1 h2 xs (left / mn) (if left % mn ∈ acc then acc else acc ++ [left % mn]) (some (.val x)) (by
   split
   ·omega
   ·rw [List.length_append,List.length_singleton];omega)
  exact ⟨l',k',e2⟩
theorem pM (n:Nat) (c many most:Int) (h1:0 < many) (h2:many < 1073741824) (h3:0 <= most) (h4:most <= 60):af defs (n + 2) 8 [.val (.int c),.val (.int many),.val (.int most)]=some (ofS (cN c many most)):=by
 rw [aJ (d:=d9) rfl rfl]
 have hp:0 < most + 1:=by omega
 have hp2:most + 1 < 1073741824:=by omega
 have q0:0 <= c9 c 1181783497276652981 % (most + 1):=Int.emod_nonneg _ (by omega)
 have q1:c9 c 1181783497276652981 % (most + 1) < most + 1:=Int.emod_lt_of_pos _ hp
 obtain ⟨l',k',e⟩:=j5 (af defs (n + 1)) (.val (.int c)) (.val (.int many)) (.val (.int most)) (.val (.int (c9 c 1181783497276652981 % (most + 1)))) many rfl h1 h2 ((List.range (c9 c 1181783497276652981 % (most + 1)).toNat).map λ(k:Nat)=>PV.int (k:Int)) (c9 c 1181783497276652981 / (most + 1)) [] none (by simp;omega)
 rw [List.length_map,List.length_range] at e
 obtain ⟨g1,g2,g3⟩:=dW many h1 (c9 c 1181783497276652981 % (most + 1)).toNat (c9 c 1181783497276652981 / (most + 1)) [] List.nodup_nil (λ_ h=>by cases h)
 have hlen:(dD many (c9 c 1181783497276652981 % (most + 1)).toNat (c9 c 1181783497276652981 / (most + 1)) []).length < 64:=by simp at g3;omega
 simp only [List.map_nil] at e
 simp [d9,exs,ex,ev,evs,evA,evB,vQ,hp,hp2,bA,oi q0 (by omega),e,aN,lc hlen,cN]
theorem j6 (c many most:Int) (h1:0 < many) (h2:many <= 60):cD (cN c many most):=by
 obtain ⟨a,b,_⟩:=dW many h1 (c9 c 1181783497276652981 % (most + 1)).toNat (c9 c 1181783497276652981 / (most + 1)) [] List.nodup_nil (λ_ h=>by cases h)
 exact ⟨j3 a,λh hh=>by have:=b h (iI.mp hh);omega⟩
theorem l6 {m:Nat}:∀ {R:List (List Int)},(∀ t ∈ R,t.length <= m)->R.flatten.length <= R.length * m
 | [],_=>by simp
 | t::R,h=>by
  have h1:=h t (.head _)
  have h2:=l6 (R:=R) λt ht=>h t (.tail _ ht)
  rw [List.flatten_cons,List.length_append,List.length_cons,Nat.succ_mul]
  omega
noncomputable def fj (acc:List Int) (h:Int):List Int:=if h ∈ acc then acc else acc ++ [h]
noncomputable def g_ (R:List (List Int)):List Int:=R.foldl (λacc ts=>ts.foldl fj acc) []
noncomputable def al (R:List (List Int)):List Int:=sortI (g_ R)
theorem pN {acc:List Int}{h:Int} (hn:acc.Nodup):(fj acc h).Nodup/\∀ x,x ∈ fj acc h ↔ x ∈ acc \/ x=h:=by
 unfold fj
 by_cases q:h ∈ acc
 ·rw [if_pos q]
  exact ⟨hn,λx=>⟨.inl,λz=>z.elim id λe=>e ▸ q⟩⟩
 ·rw [if_neg q]
  refine ⟨List.nodup_append.mpr ⟨hn,by simp,λx hx y hy=>by rw [List.mem_singleton.mp hy];exact λz=>q (z ▸ hx)⟩,λx=>?_⟩
  rw [List.mem_append,List.mem_singleton]
theorem j7:∀ (ts acc:List Int),acc.Nodup->(ts.foldl fj acc).Nodup/\∀ x,x ∈ ts.foldl fj acc ↔ x ∈ acc \/ x ∈ ts
 | [],acc,hn=>⟨hn,λx=>by simp⟩
 | t::ts,acc,hn=>by
  obtain ⟨h1,h2⟩:=pN (h:=t) hn
  obtain ⟨h3,h4⟩:=j7 ts (fj acc t) h1
  refine ⟨h3,λx=>?_⟩
  rw [List.foldl_cons,h4,h2,List.mem_cons,or_assoc]
theorem eQ:∀ (R:List (List Int)) (acc:List Int),acc.Nodup->(R.foldl (λacc ts=>ts.foldl fj acc) acc).Nodup/\∀ x,x ∈ R.foldl (λacc ts=>ts.foldl fj acc) acc ↔ x ∈ acc \/ ∃ ts ∈ R,x ∈ ts
 | [],acc,hn=>⟨hn,λx=>by simp⟩
 | t::ts,acc,hn=>by
  obtain ⟨h1,h2⟩:=j7 t acc hn
  obtain ⟨h3,h4⟩:=eQ ts (t.foldl fj acc) h1
  refine ⟨h3,λx=>?_⟩
  rw [List.foldl_cons,h4,h2]
  simp [or_assoc]
theorem nq {R:List (List Int)}{x:Int}:x ∈ al R ↔ ∃ ts ∈ R,x ∈ ts:=by
 unfold al
 rw [iI]
 have:=(eQ R [] List.nodup_nil).2 x
 unfold g_
 rw [this]
 simp
theorem oq (R:List (List Int)):(al R).Pairwise (· < ·):=j3 (eQ R [] List.nodup_nil).1
theorem dE {R:List (List Int)} (g:∀ ts ∈ R,cD ts):cD (al R):=⟨oq R,λh hh=>by
 obtain ⟨ts,h1,h2⟩:=nq.mp hh
 exact (g ts h1).2 h h2⟩
theorem qK {R:List (List Int)} (g:∀ ts ∈ R,cD ts):(g_ R).length <= 60:=by
 have:=eP (dE g)
 unfold al at this
 rw [sortI_len] at this
 exact this
theorem vR {R:List (List Int)}{acc:List Int} (hn:acc.Nodup) (h:∀ x ∈ acc,0 <= x/\x <= 59):acc.length <= 60:=om 60 acc hn λx hx=>by have:=h x hx;omega
theorem iR (cal:Cal) (a s:MV):∀ (ts acc:List Int) (kk:Option MV),acc.Nodup->(∀ x ∈ acc,0 <= x/\x <= 59)->(∀ x ∈ ts,0 <= x/\x <= 59) ->
  ∃ kk',aE (λx ρ'=>exs cal cF (put ρ' 3 (.val x))) (ts.map .int) [some a,some (.own (acc.map .int)),some s,kk]=.next [some a,some (.own ((ts.foldl fj acc).map .int)),some s,kk']
 | [],acc,kk,_,_,_=>⟨kk,rfl⟩
 | t::ts,acc,kk,h1,h2,h3=>by
  rw [List.map_cons,aE]
  have hl:acc.length < 10000:=by have:=vR (R:=[]) h1 h2;omega
  have e:exs cal cF (put [some a,some (.own (acc.map .int)),some s,kk] 3 (.val (.int t)))=.next [some a,some (.own ((fj acc t).map .int)),some s,some (.val (.int t))]:=by
   by_cases q:t ∈ acc
   ·simp [cF,exs,ex,ev,evB,dH,fj,q]
   ·simp [cF,exs,ex,ev,evB,dH,fj,q,hl]
  rw [e]
  obtain ⟨q1,q2⟩:=pN (h:=t) h1
  exact iR cal a s ts (fj acc t) _ q1 (λx hx=>((q2 x).mp hx).elim (h2 x) λz=>z ▸ h3 t (.head _)) λx hx=>h3 x (.tail _ hx)
theorem j8 (cal:Cal) (a:MV):∀ (R:List (List Int)) (acc:List Int) (s kk:Option MV),acc.Nodup->(∀ x ∈ acc,0 <= x/\x <= 59)->(∀ ts ∈ R,∀ x ∈ ts,0 <= x/\x <= 59) ->
  ∃ s' kk',aE (λx ρ'=>exs cal dl (put ρ' 2 (.val x))) (R.map ofS) [some a,some (.own (acc.map .int)),s,kk]=.next [some a,some (.own ((R.foldl (λacc ts=>ts.foldl fj acc) acc).map .int)),s',kk']
 | [],acc,s,kk,_,_,_=>⟨s,kk,rfl⟩
 | t::R,acc,s,kk,h1,h2,h3=>by
  rw [List.map_cons,aE]
  obtain ⟨k',e2⟩:=iR cal a (.val (ofS t)) t acc kk h1 h2 (h3 t (.head _))
  have e:exs cal dl (put [some a,some (.own (acc.map .int)),s,kk] 2 (.val (ofS t)))=.next [some a,some (.own ((t.foldl fj acc).map .int)),some (.val (ofS t)),k']:=by
   simp [dl,exs,ex,ev,evs,bA,e2,aN]
  rw [e]
  obtain ⟨q1,q2⟩:=j7 t acc h1
  exact j8 cal a R _ _ _ q1 (λx hx=>((q2 x).mp hx).elim (h2 x) λz=>h3 t (.head _) x z) λts hts=>h3 ts (.tail _ hts)
theorem vS (n:Nat) (R:List (List Int)) (g:∀ ts ∈ R,cD ts):af defs (n + 1) 11 [.val (ofR R)]=some (ofL (al R)):=by
 rw [aJ (d:=eh) rfl rfl]
 obtain ⟨s',k',e⟩:=j8 (af defs n) (.val (ofR R)) R [] none none List.nodup_nil (λx h=>by cases h) λts hts=>(g ts hts).2
 have hl:(g_ R).length < 64:=by have:=qK g;omega
 simp only [List.map_nil] at e
 have e':R.foldl (λacc ts=>ts.foldl fj acc) []=g_ R:=rfl
 rw [e'] at e
 simp [eh,exs,ex,ev,evs,bA,e,aN,lc hl,al]
theorem vT (n:Nat) (i:Int):af defs (n + 1) 9 [.val (.int i)]=some (.bl true):=by
 rw [aJ (d:=d_) rfl rfl]
 simp [d_,exs,ex,ev,evs]
theorem gi (n:Nat) (a s:MV):∀ (ts:List Int) (kk:Option MV),(∀ x ∈ ts,0 <= x/\x <= 59) ->
  ∃ kk',aE (λx ρ'=>exs (af defs (n + 1)) cK (put ρ' 2 (.val x))) (ts.map .int) [some a,some s,kk]=.next [some a,some s,kk']
 | [],kk,_=>⟨kk,rfl⟩
 | t::ts,kk,h=>by
  rw [List.map_cons,aE]
  have h1:=h t (.head _)
  have h2:¬ t < 0:=by omega
  have h3:¬ 59 < t:=by omega
  have e:exs (af defs (n + 1)) cK (put [some a,some s,kk] 2 (.val (.int t)))=.next [some a,some s,some (.val (.int t))]:=by
   simp [cK,exs,ex,ev,evB,evA,vT,h2,h3]
  rw [e]
  exact gi n a s ts _ λx hx=>h x (.tail _ hx)
theorem hE (n:Nat) (a:MV):∀ (R:List (List Int)) (s kk:Option MV),(∀ ts ∈ R,cD ts) ->
  ∃ s' kk',aE (λx ρ'=>exs (af defs (n + 1)) cM (put ρ' 1 (.val x))) (R.map ofS) [some a,s,kk]=.next [some a,s',kk']
 | [],s,kk,_=>⟨s,kk,rfl⟩
 | t::R,s,kk,h=>by
  rw [List.map_cons,aE]
  have g:=h t (.head _)
  obtain ⟨k',e2⟩:=gi n a (.val (ofS t)) t kk g.2
  have hl:=eP g
  have hl1:t.length <= 1000:=by omega
  have hl2:(dd t).length < 64:=by rw [tR (g8 g.1)];omega
  have e3:=Ag 99 t t
  have e:exs (af defs (n + 1)) cM (put [some a,s,kk] 1 (.val (ofS t)))=.next [some a,some (.val (ofS t)),k']:=by
   simp [cM,exs,ex,ev,evs,evB,bA,e2,aN,bV,hl1,hl2,oj g.1,e3]
  rw [e]
  exact hE n a R _ _ λts hts=>h ts (.tail _ hts)
theorem yB (n:Nat) (a b:List (List Int)):eqF (n + 2) (.lst (a.map ofS)) (.lst (b.map ofS))=some (decide (a=b)):=by
 rw [eqF,tu]
 split
 ·rfl
 ·rename_i h
  congr 1
  exact (decide_eq_false λe=>h (by rw [e])).symm
theorem qL (n:Nat) (R:List (List Int)) (g:g9 R):af defs (n + 2) 10 [.val (ofR R)]=some (.bl true):=by
 rw [aJ (d:=dk) rfl rfl]
 obtain ⟨s',k',e⟩:=hE n (.val (ofR R)) R none none g.1
 have h1:¬ (60:Int) < (R.length:Int):=by have:=g.2.2;omega
 have h2:R.length < 64:=by have:=g.2.2;omega
 simp [dk,exs,ex,ev,evs,evB,bA,e,aN,h1,fU h2,sortT_id g.2.1,yB 98]
theorem i7 {cal:Cal}{i:Nat}{k:Sk}{src:List ME}{body:List MS}{ρ:Rho}{xs:List PV} (h:(evs cal src ρ).bind (dA k)=some xs):ex cal (.for1 i k src body) ρ=(aE (λx ρ'=>exs cal body (put ρ' i (.val x))) xs (bA src ρ)).back src ρ:=by
 rw [ex,h]
theorem ay (cal:Cal) (m:MS) (ms:List MS) (ρ:Rho):exs cal (m::ms) ρ=(ex cal m ρ).andThen λρ'=>exs cal ms ρ':=by rw [exs]
theorem aT {cal:Cal}{b:Blt}{e:ME}{ρ:Rho}{v:PV} (h:ev cal e ρ=some v):ev cal (.blt b [e]) ρ=aq b [v]:=by
 rw [ev,evs,h,Option.bind_some,evs,Option.map_some,Option.bind_some]
theorem e_ {cal:Cal}{i:Nat}{e:ME}{ρ:Rho}{v:PV} (h:ev cal e ρ=some v):ex cal (.set i e) ρ=.next (put ρ i (.val v)):=by
 rw [ex,h];rfl
theorem yC {cal:Cal}{a b:ME}{ρ:Rho}{p q:Bool} (h:ev cal a ρ=some (.bl p)) (h':p=true->ev cal b ρ=some (.bl q)):ev cal (.and a b) ρ=some (.bl (p&&q)):=by
 rw [ev,h]
 cases p with
 | false=>rfl
 | true=>simp [h' rfl]
theorem fN {cal:Cal}{e:ME}{ρ:Rho}{v:PV} (h:ev cal e ρ=some v):ex cal (.ret e) ρ=.ret v:=by
 rw [ex,h];rfl
theorem bv {cal:Cal}{f:Nat}{es:List ME}{ρ:Rho}{vs:List MV}{v:PV} (h:evA cal es ρ=some vs) (h':cal f vs=some v):ev cal (.call f es) ρ=some v:=by
 rw [ev,h,Option.bind_some,h']
theorem i8 {α:Type}{cal:Cal}{k:Sk}{src:List ME}{js:List Nat}{elt:ME}{ρ:Rho}{vs:List PV}{xs:List α}{g h:α->PV} (h1:evs cal src ρ=some vs) (h2:dA k vs=some (xs.map g)) (hl:xs.length <= 10000)
  (h3:∀ x ∈ xs,ev cal elt (fh js ρ (g x))=some (h x)):ev cal (.comp k src js (.cst (.bl true)) elt) ρ=some (.lst (xs.map h)):=by
 rw [ev,h1,Option.bind_some,h2,Option.bind_some,if_pos (by simpa using hl),og (h:=h) (λx _=>by simp [ev]) h3]
 rfl
theorem aP (cal:Cal) (v:PV) (ρ:Rho):ev cal (.cst v) ρ=some v:=by rw [ev]
theorem bG {cal:Cal}{op:Op2}{a b:ME}{ρ:Rho}{x y:PV} (h:ev cal a ρ=some x) (h':ev cal b ρ=some y):ev cal (.bin op a b) ρ=gc op x y:=by
 rw [ev,h,Option.bind_some,h',Option.bind_some]
theorem eH {cal:Cal}{op:Cp}{a b:ME}{ρ:Rho}{x y:PV} (h:ev cal a ρ=some x) (h':ev cal b ρ=some y):ev cal (.cmp op a b) ρ=(bX op x y).map .bl:=by
 rw [ev,h,Option.bind_some,h',Option.bind_some]
theorem fO {cal:Cal}{a:ME}{ρ:Rho}{x k j:Int} (h:ev cal a ρ=some (.int x)) (hk:0 < k):ev cal (.cmp .eq (.bin .mod a (.cst (.int k))) (.cst (.int j))) ρ=some (.bl (x % k == j)):=by
 rw [eH (bG h (aP _ _ _) |>.trans (by rw [eW,if_pos hk])) (aP _ _ _),yr,vJ]
 rfl
theorem fb {cal:Cal}{a:ME}{ρ:Rho}{x k:Int} (h:ev cal a ρ=some (.int x)) (hk:0 < k/\k < 1073741824):ev cal (.bin .fdiv a (.cst (.int k))) ρ=some (.int (x / k)):=by
 rw [bG h (aP _ _ _),tz,if_pos hk]
theorem tZ {cal:Cal}{a:ME}{ρ:Rho}{b:Bool} (h:ev cal a ρ=some (.bl b)):evB cal a ρ=some b:=by
 unfold evB
 rw [h]
 rfl
theorem vU {cal:Cal}{e:ME}{ρ:Rho}{v:PV} (hn:∀ i,e ≠ .bor i) (h:ev cal e ρ=some v):evA cal [e] ρ=some [.val v]:=by
 rw [evA,h,Option.bind_some,evA]
 ·rfl
 ·exact λi z=>hn i z
theorem j9 {cal:Cal}{f:Nat}{e:ME}{ρ:Rho}{v r:PV} (hn:∀ i,e ≠ .bor i) (h:ev cal e ρ=some v) (h':cal f [.val v]=some r):ev cal (.call f [e]) ρ=some r:=bv (vU hn h) h'
theorem yD {cal:Cal}{a i:ME}{ρ:Rho}{x y:PV} (h:ev cal a ρ=some x) (h':ev cal i ρ=some y):ev cal (.idx a i) ρ=kX x y:=by
 rw [ev,h,Option.bind_some,h',Option.bind_some]
theorem dw {cal:Cal}{i:Nat}{e:ME}{ρ:Rho}{v:PV}{ms:List MS}{X:Option PV} (h:ev cal e ρ=some v) (k:aV (exs cal ms (put ρ i (.val v)))=X):aV (exs cal (.set i e::ms) ρ)=X:=by
 rw [ay,e_ h,bI,k]
theorem bJ {cal:Cal}{m:MS}{ρ ρ':Rho}{ms:List MS}{X:Option PV} (h:ex cal m ρ=.next ρ') (k:aV (exs cal ms ρ')=X):aV (exs cal (m::ms) ρ)=X:=by
 rw [ay,h,bI,k]
theorem t0 {cal:Cal}{e:ME}{ρ:Rho}{v:PV}{ms:List MS} (h:ev cal e ρ=some v):aV (exs cal (.ret e::ms) ρ)=some v:=by
 rw [ay,fN h];rfl
theorem pO {cal:Cal}{i:Nat}{e:ME}{ρ:Rho}{v:PV}{ms:List MS}{r:R} (h:ev cal e ρ=some v) (k:exs cal ms (put ρ i (.val v))=r):exs cal (.set i e::ms) ρ=r:=by
 rw [ay,e_ h,bI,k]
theorem yE {cal:Cal}{m:MS}{ρ ρ':Rho}{ms:List MS}{r:R} (h:ex cal m ρ=.next ρ') (k:exs cal ms ρ'=r):exs cal (m::ms) ρ=r:=by
 rw [ay,h,bI,k]
theorem eR {cal:Cal}{m:MS}{ρ ρ':Rho} (h:ex cal m ρ=.next ρ'):exs cal [m] ρ=.next ρ':=by
 rw [ay,h,bI,exs]
theorem bb {cal:Cal}{c:ME}{a b:List MS}{ρ:Rho}{p:Bool} (h:ev cal c ρ=some (.bl p)):ex cal (.ite c a b) ρ=if p=true then exs cal a ρ else exs cal b ρ:=by
 rw [ex,tZ h,oh]
theorem yF {cal:Cal}{m:MS}{ms:List MS}{ρ ρ':Rho} (hz:iV m=false) (h:exE cal m ρ=.fin (.next ρ')):exsE cal (m::ms) ρ=exsE cal ms ρ':=by
 rw [exsE,hz,if_neg (by decide),h]
theorem Ay {cal:Cal}{m:MS}{ms:List MS}{ρ:Rho}{c:Str} (hz:iV m=false) (h:exE cal m ρ=.err c):exsE cal (m::ms) ρ=.err c:=by
 rw [exsE,hz,if_neg (by decide),h]
theorem Az {cal:Cal}{e:ME}{ms:List MS}{ρ:Rho}{v:PV} (h:ev cal e ρ=some v):exsE cal (.ret e::ms) ρ=.fin (.ret v):=by
 rw [exsE,show iV (.ret e)=false from rfl,if_neg (by decide),show exE cal (.ret e) ρ=.fin (ex cal (.ret e) ρ) from rfl,fN h]
theorem hV (cal:Cal) (a:MV):∀ (R:List (List Int)) (g:List Int->PV) (hg:∀ t,aI (g t)=some (t.map .int)) (acc:List Int) (s:Option MV),acc.length + R.flatten.length <= 10000 ->
  ∃ s',aE (λx ρ'=>exs cal aW (put ρ' 2 (.val x))) (R.map g) [some a,some (.own (acc.map .int)),s]=.next [some a,some (.own ((acc ++ R.flatten).map .int)),s']
 | [],g,hg,acc,s,_=>⟨s,by simp⟩
 | t::R,g,hg,acc,s,h=>by
  rw [List.map_cons,aE]
  rw [List.flatten_cons,List.length_append] at h
  have h2:acc.length + t.length <= 10000:=by omega
  have e:exs cal aW (put [some a,some (.own (acc.map .int)),s] 2 (.val (g t)))=.next [some a,some (.own ((acc ++ t).map .int)),some (.val (g t))]:=by
   simp [aW,exs,ex,ev,hg,h2]
  rw [e]
  obtain ⟨s',e2⟩:=hV cal a R g hg (acc ++ t) (some (.val (g t))) (by rw [List.length_append];omega)
  exact ⟨s',by rw [List.flatten_cons,<- List.append_assoc];exact e2⟩
theorem lh (n:Nat) (m:MV) (ho:∀ xs,m ≠ .own xs) (R:List (List Int)) (g:List Int->PV) (hg:∀ t,aI (g t)=some (t.map .int)) (hp:(bM (some m)).bind aI=some (R.map g)) (hl:R.flatten.length <= 10000):af defs (n + 1) 0 [m]=some (ofL R.flatten):=by
 rw [aJ (d:=bW) rfl rfl]
 obtain ⟨s',e⟩:=hV (af defs n) m R g hg [] none (by simpa using hl)
 simp only [List.map_nil,List.nil_append] at e
 cases hb:bM (some m) with
 | none=>rw [hb] at hp;cases hp
 | some v =>
  rw [hb] at hp
  have hp:aI v=some (R.map g):=hp
  cases m <;> first|exact absurd rfl (ho _)|simp [bW,exs,ex,ev,evs,bA,hb,hp,e,aN,-List.map_flatten]
theorem nr (R:List (List Int)):sortI (dd R.flatten)=al R:=by
 refine sortI_of_perm ((List.perm_ext_iff_of_nodup (dd_nodup _) (eQ R [] List.nodup_nil).1).mpr λx=>?_)
 rw [j4,(eQ R [] List.nodup_nil).2 x,List.mem_flatten]
 simp
theorem ou (n:Nat) (R:List (List Int)) (g:∀ ts ∈ R,cD ts) (hl:R.flatten.length <= 1000):af defs (n + 2) 2 [.val (ofR R)]=some (ofL (al R)):=by
 rw [aJ (d:=eX) rfl rfl]
 have e:=lh n (.val (ofR R)) (λ_ z=>by cases z) R ofS (λ_=>rfl) rfl (by omega)
 have hd:(dd R.flatten).length < 64:=by
  have:=eP (dE g)
  rw [<- nr,sortI_len] at this
  omega
 simp [eX,exs,ex,ev,evs,evA,e,-List.map_flatten,bV,-List.length_flatten,hl,hd,nr]
theorem lj:∀ l:List Int,(dd l).length <= l.length
 | []=>Nat.le_refl _
 | x::r=>by
  have:=lj r
  rw [dd]
  split
  ·rw [List.length_cons];omega
  ·rw [List.length_cons,List.length_cons];omega
theorem hX:∀ l:List Int,(dd l).length=l.length ↔ l.Nodup
 | []=>by simp [dd]
 | x::r=>by
  have h:=lj r
  have ih:=hX r
  rw [dd,List.nodup_cons,<- ih]
  by_cases q:x ∈ dd r
  ·rw [if_pos q,List.length_cons]
   exact ⟨λz=>by omega,λz=>absurd (j4.mp q) z.1⟩
  ·rw [if_neg q,List.length_cons,List.length_cons]
   exact ⟨λz=>⟨λw=>q (j4.mpr w),by omega⟩,λz=>by omega⟩
theorem yG (n:Nat) (l:List Int) (hl:l.length <= 1000):af defs (n + 1) 1 [.val (ofL l)]=some (.bl (decide l.Nodup)):=by
 rw [aJ (d:=d7) rfl rfl]
 have e:aq .lenSet [ofL l]=some (.int (dd l).length):=by
  show ((aI (ofL l)).bind λxs=>(aY xs).bind λns=>if ns.length <= 1000 then some (PV.int (dd ns).length) else none)=_
  rw [vK,Option.bind_some,bV,Option.bind_some,if_pos hl]
 have h:(((dd l).length:Int) == (l.length:Int))=decide l.Nodup:=by
  rw [Bool.eq_iff_iff,beq_iff_eq,decide_eq_true_iff,<- hX]
  omega
 simp [d7,exs,ex,ev,evs,e,h]
theorem j_ (cal:Cal) (a:MV):∀ (Rs:List (List (List Int))) (acc:List (List Int)) (s:Option MV),acc.length + Rs.flatten.length <= 10000 ->
  ∃ s',aE (λx ρ'=>exs cal aW (put ρ' 2 (.val x))) (Rs.map ofR) [some a,some (.own (acc.map ofS)),s]=.next [some a,some (.own ((acc ++ Rs.flatten).map ofS)),s']
 | [],acc,s,_=>⟨s,by simp⟩
 | R::Rs,acc,s,h=>by
  rw [List.map_cons,aE]
  rw [List.flatten_cons,List.length_append] at h
  have h2:acc.length + R.length <= 10000:=by omega
  have e:exs cal aW (put [some a,some (.own (acc.map ofS)),s] 2 (.val (ofR R)))=.next [some a,some (.own ((acc ++ R).map ofS)),some (.val (ofR R))]:=by
   simp [aW,exs,ex,ev,h2]
  rw [e]
  obtain ⟨s',e2⟩:=j_ cal a Rs (acc ++ R) (some (.val (ofR R))) (by rw [List.length_append];omega)
  exact ⟨s',by rw [List.flatten_cons,<- List.append_assoc];exact e2⟩
theorem vV (n:Nat) {v:PV}{Rs:List (List (List Int))} (hp:aI v=some (Rs.map ofR)) (hl:Rs.flatten.length <= 10000):af defs (n + 1) 0 [.val v]=some (.lst (Rs.flatten.map ofS)):=by
 rw [aJ (d:=bW) rfl rfl]
 obtain ⟨s',e⟩:=j_ (af defs n) (.val v) Rs [] none (by simpa using hl)
 simp only [List.map_nil,List.nil_append] at e
 simp [bW,exs,ex,ev,evs,bA,hp,e,aN,-List.map_flatten]
theorem kd (n:Nat) {v:PV}{Rs:List (List (List Int))} (hp:aI v=some (Rs.map ofR)) (hl:Rs.flatten.length <= 10000):ev (af defs (n + 1)) (.call 0 [(.bor 0)]) [some (.val v)]=some (.lst (Rs.flatten.map ofS)):=bv (vs:=[.val v]) (by simp [evA]) (vV n hp hl)
theorem oA (n:Nat) {v:PV}{Rs:List (List (List Int))} (hp:aI v=some (Rs.map ofR)) (hl:Rs.flatten.length < 64):af defs (n + 2) 3 [.val v]=some (ofR (sortT Rs.flatten)):=by
 rw [aJ (d:=dU) rfl rfl]
 show aV (exs (af defs (n + 1)) [.retMany (.call 0 [(.bor 0)])] [some (.val v)])=_
 rw [ay,ex,aT (v:=.lst ((sortT Rs.flatten).map ofS)) (by rw [aT (kd n hp (by omega))];exact fU hl)]
 rfl
theorem nt (n:Nat) {v:PV}{Rs:List (List (List Int))} (hp:aI v=some (Rs.map ofR)) (h1:64 <= Rs.flatten.length) (hl:Rs.flatten.length <= 10000):af defs (n + 2) 3 [.val v]=none:=by
 rw [aJ (d:=dU) rfl rfl]
 show aV (exs (af defs (n + 1)) [.retMany (.call 0 [(.bor 0)])] [some (.val v)])=_
 have hs:eB (Rs.flatten.map ofS)=none:=by
  unfold eB
  rw [if_neg (by rw [List.length_map];omega)]
 have e1:ev (af defs (n + 1)) (.blt .sorted [(.call 0 [(.bor 0)])]) [some (.val v)]=none:=by
  rw [aT (kd n hp hl)];exact hs
 rw [ay,ex,show ev (af defs (n + 1)) (.blt .tupleOf [(.blt .sorted [(.call 0 [(.bor 0)])])]) [some (.val v)]=none from by rw [ev,evs,e1];rfl]
 rfl
theorem oB (n:Nat) {v:PV}{Rs:List (List (List Int))} (hp:aI v=some (Rs.map ofR)) (h1:64 <= Rs.flatten.length) (hl:Rs.flatten.length <= 10000):af defs (n + 2) (3 + 7000) [.val v]=some (.int Rs.flatten.length):=by
 rw [qI (d:=dU) rfl rfl rfl]
 show jF (af defs (n + 1)) [.retMany (.call 0 [(.bor 0)])] [some (.val v)]=_
 rw [jF]
 show (ev (af defs (n + 1)) (.call 0 [(.bor 0)]) [some (.val v)]).bind _=_
 rw [kd n hp hl,Option.bind_some]
 show (dt (Rs.flatten.map ofS)).bind _=_
 rw [iH,Option.bind_some,if_pos ⟨h1,hl⟩]
theorem kf (n:Nat) {v:PV}{Rs:List (List (List Int))} (hp:aI v=some (Rs.map ofR)) (hl:Rs.flatten.length < 64):ev (af defs (n + 2)) (.call 3 [(.bor 0)]) [some (.val v),none]=some (ofR (sortT Rs.flatten)):=bv (vs:=[.val v]) (by simp [evA]) (oA n hp hl)
theorem kg (cal:Cal) (a:Option MV) (R:List (List Int)):evB cal (.cmp .gt (.blt .len [.bor 1]) (.glob "MOST_STRIPS" (.int 60))) [a,some (.val (ofR R))]=some (decide (60 < R.length)):=by
 refine tZ ?_
 rw [eH (x:=.int R.length) (y:=.int 60) (by rw [aT (v:=ofR R) (by simp [ev])];simp) (by rw [ev])]
 show some (PV.bl (decide ((60:Int) < (R.length:Int))))=_
 congr 2
 by_cases q:60 < R.length
 ·rw [decide_eq_true q,decide_eq_true (by omega)]
 ·rw [decide_eq_false q,decide_eq_false (by omega)]
theorem t4 (n:Nat) {v:PV}{Rs:List (List (List Int))} (hp:aI v=some (Rs.map ofR)) (hl:Rs.flatten.length <= 60):af defs (n + 3) 4 [.val v]=some (ofR (sortT Rs.flatten)):=by
 rw [aJ (d:=fK) rfl rfl]
 show aV (exs (af defs (n + 2)) [.setU 1 3 [(.bor 0)] "MOST_STRIPS" 60 "NoRest",.ret (.var 1)] [some (.val v),none])=_
 refine bJ (ρ':=[some (.val v),some (.val (ofR (sortT Rs.flatten)))]) ?_ (t0 (by simp [ev]))
 rw [ex,kf n hp (by omega)]
 simp only [gB,fJ,fI]
 rw [kg,sortT_len,decide_eq_false (by omega)]
 rfl
theorem qM (n:Nat) {v:PV}{Rs:List (List (List Int))} (hp:aI v=some (Rs.map ofR)) (hl:Rs.flatten.length <= 60):af defs (n + 3) (4 + 5000) [.val v]=some (.tup [ofR (sortT Rs.flatten)]):=by
 rw [lf (d:=fK) rfl rfl rfl]
 show r_ (exsE (af defs (n + 2)) [.setU 1 3 [(.bor 0)] "MOST_STRIPS" 60 "NoRest",.ret (.var 1)] [some (.val v),none])=_
 rw [yF (ρ':=[some (.val v),some (.val (ofR (sortT Rs.flatten)))]) rfl,Az (v:=ofR (sortT Rs.flatten)) (by simp [ev])]
 ·rfl
 ·rw [exE,kf n hp (by omega)]
  dsimp only
  rw [show put [some (.val v),none] 1 (.val (ofR (sortT Rs.flatten)))=[some (.val v),some (.val (ofR (sortT Rs.flatten)))] from rfl,kg,sortT_len,decide_eq_false (by omega)]
  rfl
theorem ll (n:Nat) {v:PV}{Rs:List (List (List Int))} (hp:aI v=some (Rs.map ofR)) (hb:60 < Rs.flatten.length) (hl:Rs.flatten.length <= 10000):af defs (n + 3) (4 + 5000) [.val v]=some (.str "NoRest"):=by
 rw [lf (d:=fK) rfl rfl rfl]
 show r_ (exsE (af defs (n + 2)) [.setU 1 3 [(.bor 0)] "MOST_STRIPS" 60 "NoRest",.ret (.var 1)] [some (.val v),none])=_
 rw [Ay (c:="NoRest") rfl]
 ·rfl
 ·by_cases q:Rs.flatten.length < 64
  ·rw [exE,kf n hp q]
   dsimp only
   rw [show put [some (.val v),none] 1 (.val (ofR (sortT Rs.flatten)))=[some (.val v),some (.val (ofR (sortT Rs.flatten)))] from rfl,kg,sortT_len,decide_eq_true (by omega)]
   rfl
  ·have ea:evA (af defs (n + 2)) [(.bor 0)] [some (.val v),none]=some [.val v]:=by simp [evA]
   rw [exE,show ev (af defs (n + 2)) (.call 3 [(.bor 0)]) [some (.val v),none]=none from by rw [ev,ea];exact nt n hp (by omega) hl]
   dsimp only
   rw [ea,Option.bind_some,oB n hp (by omega) hl]
   dsimp only
   rw [if_pos ⟨by omega,rfl⟩]
theorem oC (n:Nat) {v:PV}{Rs:List (List (List Int))} (hp:aI v=some (Rs.map ofR)) (hb:60 < Rs.flatten.length) (hl:Rs.flatten.length <= 10000):af defs (n + 4) 15 [.val v]=some (.bl true):=by
 rw [aJ (d:=eZ) rfl rfl]
 show aV (exs _ [.set 1 _,.tryC _ _ _ _,.ret _] (some _::[none,none]))=_
 refine dw (v:=.bl false) (aP _ _ _) ?_
 simp only [fJ,fI]
 refine bJ (ρ':=[some (.val v),some (.val (.bl true)),none]) ?_ (t0 (by simp [ev]))
 rw [ex,show evA (af defs (n + 3)) [(.bor 0)] [some (.val v),some (.val (.bl false)),none]=some [.val v] from by simp [evA],Option.bind_some,ll n hp hb hl]
 rfl
theorem lm (n:Nat) {v:PV}{Rs:List (List (List Int))} (hp:aI v=some (Rs.map ofR)) (hg:∀ R ∈ Rs,(∀ t ∈ R,cD t)/\R.flatten.length <= 1000) (hl:Rs.length <= 16):af defs (n + 3) 5 [.val v]=some (.bl (decide (Rs.map al).flatten.Nodup)):=by
 rw [aJ (d:=fL) rfl rfl]
 have hf:∀ Rs:List (List (List Int)),(∀ R ∈ Rs,(∀ t ∈ R,cD t)/\R.flatten.length <= 1000)->(Rs.map al).flatten.length <= 60 * Rs.length:=λRs=>by
  induction Rs with
  | nil=>intro _;simp
  | cons R Rs ih =>
   intro hg
   have h1:=eP (dE (hg R (.head _)).1)
   have h2:=ih λR hR=>hg R (.tail _ hR)
   rw [List.map_cons,List.flatten_cons,List.length_append,List.length_cons]
   omega
 have hF:=hf Rs hg
 have c1:ev (af defs (n + 2)) (.comp .seq [(.bor 0)] [] (.cst (.bl true)) (.call 2 [(.bor 0)])) [some (.val v)]=some (.lst ((Rs.map al).map ofL)):=by
  refine (i8 (g:=ofR) (h:=λR=>ofL (al R)) (vs:=[v]) (by simp [evs,ev]) (by simpa using hp) (by omega) λR hR=>?_).trans (by rw [List.map_map];rfl)
  exact bv (vs:=[.val (ofR R)]) (by simp [evA,fh]) (ou n R (hg R hR).1 (hg R hR).2)
 have e1:=lh (n + 1) (.val (.lst ((Rs.map al).map ofL))) (λ_ z=>by cases z) (Rs.map al) ofL (λ_=>rfl) rfl (by omega)
 have e2:=yG (n + 1) (Rs.map al).flatten (by omega)
 show aV (exs (af defs (n + 2)) [.ret _] [some (.val v)])=_
 rw [ay,fN (j9 (λ_ z=>by cases z) (j9 (λ_ z=>by cases z) c1 e1) e2)]
 rfl
theorem ln (n:Nat) (a:MV):∀ (Rs:List (List (List Int))) (cT:List Int) (s h:Option MV),(∀ R ∈ Rs,∀ t ∈ R,cD t)->cT.length + 60 * Rs.length <= 2000->cT.Nodup ->
  (∃ ρ',aE (λx ρ'=>exs (af defs (n + 1)) bo (put ρ' 2 (.val x))) (Rs.map ofR) [some a,some (.val (ofL cT)),s,h]=.next ρ'/\(cT ++ (Rs.map al).flatten).Nodup) \/
  (aE (λx ρ'=>exs (af defs (n + 1)) bo (put ρ' 2 (.val x))) (Rs.map ofR) [some a,some (.val (ofL cT)),s,h]=.ret (.bl false)/\¬ (cT ++ (Rs.map al).flatten).Nodup)
 | [],cT,s,h,_,_,hn=>.inl ⟨_,rfl,by simpa using hn⟩
 | R::Rs,cT,s,h,hg,hl,hn=>by
  rw [List.map_cons,aE]
  rw [List.length_cons] at hl
  have gR:=dE (hg R (.head _))
  have l1:=eP gR
  have nd:=g8 gR.1
  have e1:ev (af defs (n + 1)) (.call 11 [(.bor 2)]) [some a,some (.val (ofL cT)),some (.val (ofR R)),h]=some (ofL (al R)):=bv (vs:=[.val (ofR R)]) (by simp [evA]) (vS n R (hg R (.head _)))
  have e2:ev (af defs (n + 1)) (.blt .any [(.comp .seq [(.bor 3)] [1] (.cst (.bl true)) (.cmp .isIn (.bor 0) (.bor 1)))]) [some a,some (.val (ofL cT)),some (.val (ofR R)),some (.val (ofL (al R)))]=some (.bl ((al R).any λx=>decide (x ∈ cT))):=by
   rw [aT (v:=.lst ((al R).map λx=>.bl (decide (x ∈ cT))))]
   ·rw [vL,show (al R).map (λx=>PV.bl (decide (x ∈ cT)))=((al R).map λx=>decide (x ∈ cT)).map PV.bl from by rw [List.map_map];rfl,jY,Option.map_some,List.any_map]
    rfl
   ·refine i8 (vs:=[ofL (al R)]) (g:=PV.int) (by simp [evs,ev]) (by simp) (by omega) λx _=>?_
    simp [ev,fh,dH]
  have e3:ev (af defs (n + 1)) (.bin .add (.bor 1) (.bor 3)) [some a,some (.val (ofL cT)),some (.val (ofR R)),some (.val (ofL (al R)))]=some (ofL (cT ++ al R)):=by
   rw [bG (x:=ofL cT) (y:=ofL (al R)) (by simp [ev]) (by simp [ev])]
   show (if (cT.map PV.int).length + ((al R).map PV.int).length <= 10000 then _ else _)=_
   rw [if_pos (by rw [List.length_map,List.length_map];omega),List.map_append.symm]
  have eq:cT ++ (List.map al (R::Rs)).flatten=(cT ++ al R) ++ (Rs.map al).flatten:=by rw [List.map_cons,List.flatten_cons,List.append_assoc]
  cases hq:(al R).any λx=>decide (x ∈ cT) with
  | true =>
   right
   have eb:exs (af defs (n + 1)) bo (put [some a,some (.val (ofL cT)),s,h] 2 (.val (ofR R)))=.ret (.bl false):=by
    show exs (af defs (n + 1)) [.set 3 _,.ite _ [.ret _] [],.set 1 _] [some a,some (.val (ofL cT)),some (.val (ofR R)),h]=_
    refine pO e1 ?_
    simp only [fJ,fI]
    rw [ay,bb e2,hq,if_pos rfl,ay,fN (aP _ _ _)]
    rfl
   rw [eb]
   refine ⟨rfl,λz=>?_⟩
   obtain ⟨x,hx,hs⟩:=List.any_eq_true.mp hq
   rw [eq] at z
   have z:=(List.nodup_append.mp z).1
   exact (List.nodup_append.mp z).2.2 x (of_decide_eq_true hs) x hx rfl
  | false =>
   have eb:exs (af defs (n + 1)) bo (put [some a,some (.val (ofL cT)),s,h] 2 (.val (ofR R)))=.next [some a,some (.val (ofL (cT ++ al R))),some (.val (ofR R)),some (.val (ofL (al R)))]:=by
    show exs (af defs (n + 1)) [.set 3 _,.ite _ [.ret _] [],.set 1 _] [some a,some (.val (ofL cT)),some (.val (ofR R)),h]=_
    refine pO e1 ?_
    simp only [fJ,fI]
    rw [ay,bb e2,hq,if_neg Bool.false_ne_true,exs,bI]
    refine eR ?_
    rw [e_ e3]
    rfl
   rw [eb,eq]
   refine ln n a Rs (cT ++ al R) _ _ (λR hR=>hg R (.tail _ hR)) (by rw [List.length_append];omega) ?_
   refine List.nodup_append.mpr ⟨hn,nd,λx hx y hy e=>?_⟩
   subst e
   have:=List.any_eq_false.mp hq x hy
   exact this (decide_eq_true hx)
theorem nu (n:Nat) {Rs:List (List (List Int))} (hg:∀ R ∈ Rs,∀ t ∈ R,cD t) (hl:Rs.length <= 16):af defs (n + 2) 14 [.val (.lst (Rs.map ofR))]=some (.bl (decide (Rs.map al).flatten.Nodup)):=by
 rw [aJ (d:=fM) rfl rfl]
 show aV (exs (af defs (n + 1)) [.set 1 (.lst []),.for1 2 .seq [(.bor 0)] bo,.ret _] [some (.val (.lst (Rs.map ofR))),none,none,none])=_
 refine dw (v:=.lst []) (by simp [ev,evs]) ?_
 simp only [fJ,fI]
 have ef:=i7 (cal:=af defs (n + 1)) (i:=2) (k:=.seq) (src:=[.bor 0]) (body:=bo) (ρ:=[some (.val (.lst (Rs.map ofR))),some (.val (.lst [])),none,none]) (xs:=Rs.map ofR) (by simp [evs,ev])
 rcases ln n (.val (.lst (Rs.map ofR))) Rs [] none none hg (by simp;omega) List.nodup_nil with ⟨ρ',e,hn⟩|⟨e,hn⟩
 ·rw [List.nil_append] at hn
  rw [decide_eq_true hn,ay,ef]
  show aV (((aE _ _ [some (.val (.lst (Rs.map ofR))),some (.val (ofL [])),none,none]).back _ _).andThen _)=_
  rw [e,qJ,bI,ay,fN (aP _ _ _)]
  rfl
 ·rw [List.nil_append] at hn
  rw [decide_eq_false hn,ay,ef]
  show aV (((aE _ _ [some (.val (.lst (Rs.map ofR))),some (.val (ofL [])),none,none]).back _ _).andThen _)=_
  rw [e]
  rfl
theorem t5 (n:Nat) (p q:Bool):af defs (n + 1) 12 [.val (.bl p),.val (.bl q)]=some (.bl (p == q)):=by
 rw [aJ (d:=gC) rfl rfl]
 cases p <;> cases q <;> rfl
noncomputable def grp (G:List (List (List Int))):MV:=.ownL (G.map λR=>R.map ofS)
noncomputable def fg (G:List (List (List Int))) (i:Nat) (s:List Int):List (List (List Int)):=G.set i (G.getD i [] ++ [s])
theorem nv:∀ (G:List (List (List Int))) (i:Nat) (s:List Int),i < G.length->(fg G i s).flatten.length=G.flatten.length + 1
 | [],i,s,h=>by cases h
 | R::G,0,s,_=>by
  show ((R ++ [s])::G).flatten.length=_
  rw [List.flatten_cons,List.flatten_cons,List.length_append,List.length_append,List.length_append,List.length_singleton]
  omega
 | R::G,i + 1,s,h=>by
  have:=nv G i s (by rw [List.length_cons] at h;omega)
  show (R::fg G i s).flatten.length=_
  rw [List.flatten_cons,List.flatten_cons,List.length_append,List.length_append,this]
  omega
theorem fP {G:List (List (List Int))}{R:List (List Int)} (h:R ∈ G):R.length <= G.flatten.length:=by
 induction G with
 | nil=>cases h
 | cons Q G ih =>
  rw [List.flatten_cons,List.length_append]
  rcases List.mem_cons.mp h with rfl|h
  ·omega
  ·have:=ih h;omega
noncomputable def lq (k:Nat) (G:List (List (List Int))):Prop:=(∀ R ∈ G,∀ t ∈ R,cD t/\t.length <= 3)/\G.flatten.length <= k
theorem pP {k:Nat}{G:List (List (List Int))} (h:lq k G) {i:Nat} (hi:i < G.length) {s:List Int} (hs:cD s/\s.length <= 3):lq (k + 1) (fg G i s):=by
 refine ⟨λR hR t ht=>?_,by rw [nv G i s hi];have:=h.2;omega⟩
 rcases List.mem_or_eq_of_mem_set hR with hR|rfl
 ·exact h.1 R hR t ht
 ·rcases List.mem_append.mp ht with ht|ht
  ·have eg:G.getD i []=G[i]:=by simp [List.getD,hi]
   rw [eg] at ht
   exact h.1 _ (List.getElem_mem hi) t ht
  ·rw [List.mem_singleton.mp ht];exact hs
theorem yH {G:List (List (List Int))}{q:Int} (h0:0 <= q) (h1:q < (G.length:Int)) (hl:G.flatten.length <= 1000) (s:List Int):qt (G.map λR=>R.map ofS) (.int q) (ofS s)=some ((fg G q.toNat s).map λR=>R.map ofS):=by
 have hi:q.toNat < G.length:=by omega
 have eg:G.getD q.toNat []=G[q.toNat]:=by simp [List.getD,hi]
 have hb:=fP (List.getElem_mem hi)
 unfold qt
 dsimp only
 rw [List.length_map,j2 h0 h1,Option.bind_some,List.getElem?_map,List.getElem?_eq_getElem hi,Option.map_some,Option.bind_some,if_pos (by rw [List.length_map];omega)]
 unfold fg
 rw [eg,List.map_set,List.map_append]
 rfl
theorem t6 {cal:Cal}{ρ:Rho}{i:Nat}{k e:ME}{G:List (List (List Int))}{q:Int}{s:List Int} (hk:ev cal k ρ=some (.int q)) (he:ev cal e ρ=some (ofS s)) (hG:(ρ[i]?).join=some (grp G)) (h0:0 <= q) (h1:q < (G.length:Int)) (hl:G.flatten.length <= 1000):ex cal (.appI i k e) ρ=.next (put ρ i (grp (fg G q.toNat s))):=by
 rw [ex,hk,gB,he,gB,hG]
 show (match qt (G.map λR=>R.map ofS) (.int q) (ofS s) with|some yss=>MM.R.next (put ρ i (.ownL yss))|none=>MM.R.bad)=_
 rw [yH h0 h1 hl s]
 rfl
theorem fQ {cal:Cal}{ρ:Rho}{i:Nat}{G:List (List (List Int))} (hG:(ρ[i]?).join=some (grp G)):ev cal (.lenL i) ρ=some (.int (G.length:Int)):=by
 rw [ev,hG]
 show some (PV.int ((G.map λR=>R.map ofS).length:Int))=_
 rw [List.length_map]
theorem fV (n:Nat) (ns:List Int) (k:Int) (h:0 <= k) (r:Rho):ev (af defs (n + 1)) (.call 6 [(.bor 0),(.cst (.int k))]) (some (.brw (ns.map .int))::r)=some (.int (cellOf ns k)):=bv (vs:=[.brw (ns.map .int),.val (.int k)]) (by simp [evA,ev]) (yA n _ ns k rfl h)
theorem iS (c many most:Int) (h1:0 < many) (h3:0 <= most):(cN c many most).length <= most.toNat:=by
 obtain ⟨_,_,g3⟩:=dW many h1 (c9 c 1181783497276652981 % (most + 1)).toNat (c9 c 1181783497276652981 / (most + 1)) [] List.nodup_nil (λ_ h=>by cases h)
 unfold cN
 rw [sortI_len]
 have q0:0 <= c9 c 1181783497276652981 % (most + 1):=Int.emod_nonneg _ (by omega)
 have q1:c9 c 1181783497276652981 % (most + 1) < most + 1:=Int.emod_lt_of_pos _ (by omega)
 simp only [List.length_nil] at g3
 omega
theorem vW (l:List Int):(dd l).length <= l.length:=by
 have:=(dd_nodup l)
 exact this.length_le_of_subset λx hx=>j4.mp hx
noncomputable abbrev f10 (ns:List Int) (g:Option MV) (p:Bool) (a3 a4 a5 a6 a7 a8 a9 a10:Option MV):Rho:=[some (.brw (ns.map .int)),g,some (.val (.bl p)),a3,a4,a5,a6,a7,a8,a9,a10]
theorem t7 {ns:List Int}{n:Nat}{G:List (List (List Int))}{p:Bool}{c q:Int} (h0:0 <= q) (h1:q < 4) {s:List Int} (hs:cD s/\s.length <= 3):∃ s',(cD s'/\s'.length <= 3)/\ex (af defs n) (.ite (.bor 2) [.set 5 (.blt .tupleOf [(.blt .sortedSet [(.comp .seq [(.bor 5)] [4] (.cst (.bl true)) (.bin .add (.bin .mul (.bin .fdiv (.bor 0) (.cst (.int 4))) (.cst (.int 4))) (.bor 1)))])])] []) (f10 ns (some (grp G)) p (some (.val (.int c))) (some (.val (.int q))) (some (.val (ofS s))) none none none none none)=.next (f10 ns (some (grp G)) p (some (.val (.int c))) (some (.val (.int q))) (some (.val (ofS s'))) none none none none none):=by
 cases p with
 | false=>exact ⟨s,hs,by rw [bb (p:=false) (by simp [ev,f10]),if_neg Bool.false_ne_true,exs]⟩
 | true =>
  have hl:(dd (s.map λx=>x / 4 * 4 + q)).length <= 3:=by have:=vW (s.map λx=>x / 4 * 4 + q);rw [List.length_map] at this;omega
  refine ⟨sortI (dd (s.map λx=>x / 4 * 4 + q)),⟨⟨j3 (dd_nodup _),λx hx=>?_⟩,by rw [sortI_len];exact hl⟩,?_⟩
  ·obtain ⟨y,hy,rfl⟩:=List.mem_map.mp (j4.mp (iI.mp hx))
   have:=hs.1.2 y hy
   omega
  ·rw [bb (p:=true) (by simp [ev,f10]),if_pos rfl]
   refine eR ?_
   have e1:ev (af defs n) (.comp .seq [(.bor 5)] [4] (.cst (.bl true)) (.bin .add (.bin .mul (.bin .fdiv (.bor 0) (.cst (.int 4))) (.cst (.int 4))) (.bor 1))) (f10 ns (some (grp G)) true (some (.val (.int c))) (some (.val (.int q))) (some (.val (ofS s))) none none none none none)=some (.lst (s.map λx=>.int (x / 4 * 4 + q))):=by
    refine i8 (vs:=[ofS s]) (g:=PV.int) (by simp [evs,ev,f10]) (by simp) (by omega) λx _=>?_
    rw [bG (x:=.int (x / 4 * 4)) (y:=.int q) (by
     rw [bG (x:=.int (x / 4)) (y:=.int 4) (fb (by simp [ev,fh]) (by omega)) (aP _ _ _)]
     show (if _ then _ else _)=_
     rw [if_pos (.inr ⟨by decide,by decide⟩)]) (by simp [ev,fh,f10])]
    rfl
   have e2:aq .sortedSet [.lst (s.map λx=>.int (x / 4 * 4 + q))]=some (ofL (sortI (dd (s.map λx=>x / 4 * 4 + q)))):=by
    rw [show (s.map λx=>PV.int (x / 4 * 4 + q))=(s.map λx=>x / 4 * 4 + q).map .int from by rw [List.map_map];rfl]
    show (aY ((s.map λx=>x / 4 * 4 + q).map .int)).bind _=_
    rw [bV,Option.bind_some,if_pos ⟨by rw [List.length_map];omega,by omega⟩]
   rw [e_ (v:=ofS (sortI (dd (s.map λx=>x / 4 * 4 + q)))) (by rw [aT (v:=ofL (sortI (dd (s.map λx=>x / 4 * 4 + q)))) (by rw [aT e1,e2])];rfl)]
   rfl
theorem gD (n:Nat) (ns:List Int) (p:Bool):∀ (cs:List Int) (G:List (List (List Int))) (k:Nat) (a3 a4 a5:Option MV),lq k G->G.length <= 4->k + cs.length <= 100 ->
  ∃ G' b3 b4 b5,aE (λx ρ'=>exs (af defs (n + 2)) cG (put ρ' 3 (.val x))) (cs.map .int) (f10 ns (some (grp G)) p a3 a4 a5 none none none none none)=.next (f10 ns (some (grp G')) p b3 b4 b5 none none none none none)/\lq (k + cs.length) G'/\G'.length=G.length
 | [],G,k,a3,a4,a5,h,_,_=>⟨G,a3,a4,a5,rfl,h,rfl⟩
 | c::cs,G,k,a3,a4,a5,h,hg,hk=>by
  rw [List.length_cons] at hk
  rw [List.map_cons,aE]
  by_cases hG:G=[]
  ·subst hG
   have eb:exs (af defs (n + 2)) cG (put (f10 ns (some (grp [])) p a3 a4 a5 none none none none none) 3 (.val (.int c)))=.next (f10 ns (some (grp [])) p (some (.val (.int c))) a4 a5 none none none none none):=by
    show exs (af defs (n + 2)) [.ite _ _ []] (f10 ns (some (grp [])) p (some (.val (.int c))) a4 a5 none none none none none)=_
    refine eR ?_
    rw [bb (p:=false) (by rw [eH (fQ (G:=[]) rfl) (aP _ _ _)];rfl),if_neg Bool.false_ne_true,exs]
   rw [eb]
   obtain ⟨G',b3,b4,b5,e,i,l⟩:=gD n ns p cs [] (k + 1) (some (.val (.int c))) a4 a5 ⟨h.1,by have:=h.2;omega⟩ hg (by omega)
   exact ⟨G',b3,b4,b5,e,⟨i.1,by have:=i.2;rw [List.length_cons];omega⟩,l⟩
  ·have hpos:0 < G.length:=List.length_pos_iff.mpr hG
   have q0:0 <= c % (G.length:Int):=Int.emod_nonneg _ (by omega)
   have q1:c % (G.length:Int) < (G.length:Int):=Int.emod_lt_of_pos _ (by omega)
   generalize hq:c % (G.length:Int)=q at q0 q1
   have hs:cD (cN (c / 4) 60 3)/\(cN (c / 4) 60 3).length <= 3:=⟨j6 _ _ _ (by decide) (by decide),iS _ _ _ (by decide) (by decide)⟩
   obtain ⟨s',gs,e2⟩:=t7 (ns:=ns) (n:=n + 2) (G:=G) (p:=p) (c:=c) q0 (by omega) hs
   have hfl:=h.2
   have eb:exs (af defs (n + 2)) cG (put (f10 ns (some (grp G)) p a3 a4 a5 none none none none none) 3 (.val (.int c)))=.next (f10 ns (some (grp (fg G q.toNat s'))) p (some (.val (.int c))) (some (.val (.int q))) (some (.val (ofS s'))) none none none none none):=by
    show exs (af defs (n + 2)) [.ite _ [.set 4 _,.set 5 _,.ite _ _ [],.appI 1 _ _] []] (f10 ns (some (grp G)) p (some (.val (.int c))) a4 a5 none none none none none)=_
    refine eR ?_
    rw [bb (p:=true) (by
     rw [eH (fQ (G:=G) rfl) (aP _ _ _)]
     show some (PV.bl (decide ((0:Int) < (G.length:Int))))=_
     rw [decide_eq_true (by omega)]),if_pos rfl]
    refine pO (v:=.int q) (by rw [bG (x:=.int c) (y:=.int (G.length:Int)) (by simp [ev,f10]) (fQ (G:=G) rfl),eW,if_pos (by omega),hq]) ?_
    refine pO (v:=ofS (cN (c / 4) 60 3)) (bv (vs:=[.val (.int (c / 4)),.val (.int 60),.val (.int 3)]) (by
     have:∀ r,ev (af defs (n + 2)) (.bin .fdiv (.bor 3) (.cst (.int 4))) (f10 ns (some (grp G)) p (some (.val (.int c))) r a5 none none none none none)=some (.int (c / 4)):=λr=>fb (by simp [ev,f10]) (by omega)
     show evA _ _ (f10 ns (some (grp G)) p (some (.val (.int c))) (some (.val (.int q))) a5 none none none none none)=_
     simp only [evA,this,aP,Option.bind_some,Option.map_some]) (pM n _ _ _ (by decide) (by decide) (by decide) (by decide))) ?_
    refine yE e2 ?_
    refine eR ?_
    rw [t6 (G:=G) (q:=q) (s:=s') (by simp [ev,f10]) (by simp [ev,f10]) rfl q0 q1 (by omega)]
    rfl
   rw [eb]
   have hi:q.toNat < G.length:=by omega
   obtain ⟨G',b3,b4,b5,e,i,l⟩:=gD n ns p cs (fg G q.toNat s') (k + 1) (some (.val (.int c))) (some (.val (.int q))) (some (.val (ofS s'))) (pP h hi gs) (by unfold fg;rw [List.length_set];exact hg) (by omega)
   exact ⟨G',b3,b4,b5,e,⟨i.1,by have:=i.2;rw [List.length_cons];omega⟩,by rw [l];unfold fg;rw [List.length_set]⟩
structure yI (Rs:List (List (List Int))):Prop where
 good:∀ R ∈ Rs,g9 R/\R.flatten.length <= 1000
 few:Rs.length <= 5
 len:Rs.flatten.length <= 200
theorem gj:∀ (G:List (List (List Int))),(G.map sortT).flatten.length=G.flatten.length
 | []=>rfl
 | R::G=>by rw [List.map_cons,List.flatten_cons,List.flatten_cons,List.length_append,List.length_append,sortT_len,gj G]
theorem lr (cal:Cal) (ns:List Int) (g:Option MV) (p:Bool) (a3 a4 a5 a6:Option MV):∀ (Rs:List (List (List Int))) (m:Int) (a8:Option MV),∃ m' b8,aE (λx ρ'=>exs cal cH (put ρ' 8 (.val x))) (Rs.map ofR) (f10 ns g p a3 a4 a5 a6 (some (.val (.int m))) a8 none none)=.next (f10 ns g p a3 a4 a5 a6 (some (.val (.int m'))) b8 none none)
 | [],m,a8=>⟨m,a8,rfl⟩
 | R::Rs,m,a8=>by
  obtain ⟨m',b8,e⟩:=lr cal ns g p a3 a4 a5 a6 Rs (m + (R.length:Int)) (some (.val (ofR R)))
  refine ⟨m',b8,?_⟩
  rw [List.map_cons,aE]
  have eb:exs cal cH (put (f10 ns g p a3 a4 a5 a6 (some (.val (.int m))) a8 none none) 8 (.val (ofR R)))=.next (f10 ns g p a3 a4 a5 a6 (some (.val (.int (m + (R.length:Int))))) (some (.val (ofR R))) none none):=by
   show exs cal [.set 7 _] (f10 ns g p a3 a4 a5 a6 (some (.val (.int m))) (some (.val (ofR R))) none none)=_
   refine eR ?_
   rw [e_ (v:=.int (m + (R.length:Int))) (by
    rw [bG (x:=.int m) (y:=.int (R.length:Int)) (by simp [ev,f10]) (by rw [aT (v:=ofR R) (by simp [ev,f10])];simp)]
    rfl)]
   rfl
  rw [eb]
  exact e
theorem t8 (h:Int) (m:Nat):(List.replicate m [ofS [h]]).flatten=(List.replicate m [h]).map ofS:=by
 induction m with
 | zero=>rfl
 | succ m ih=>rw [List.replicate_succ,List.replicate_succ,List.flatten_cons,ih,List.map_cons];rfl
theorem qN (h:Int) (h0:0 <= h) (h1:h <= 59) (m:Nat) (hm:m <= 60):g9 (List.replicate m [h])/\(List.replicate m [h]).flatten.length <= 1000:=by
 refine ⟨⟨λt ht=>?_,?_,by rw [List.length_replicate];exact hm⟩,?_⟩
 ·rw [(List.mem_replicate.mp ht).2]
  exact ⟨by simp,λx hx=>by rw [List.mem_singleton.mp hx];omega⟩
 ·refine List.pairwise_replicate.mpr (.inr ?_)
  show MM.lexLt [h] [h]=false
  simp [MM.lexLt]
 ·have:=l6 (R:=List.replicate m [h]) (m:=1) λt ht=>by rw [(List.mem_replicate.mp ht).2];simp
  rw [List.length_replicate] at this
  omega
theorem vX (n:Nat) (ns:List Int) (hl:ns.length <= 63):∃ Rs,af defs (n + 3) 13 [.brw (ns.map .int)]=some (.lst (Rs.map ofR))/\yI Rs:=by
 rw [aJ (d:=cQ) rfl rfl]
 have c0:=λr=>fV (n + 1) ns 0 (by decide) r
 have c1:=λr=>fV (n + 1) ns 1 (by decide) r
 have c2:=λr=>fV (n + 1) ns 2 (by decide) r
 have c3:=λr=>fV (n + 1) ns 3 (by decide) r
 generalize hx0:cellOf ns 0=x0 at c0
 generalize hx1:cellOf ns 1=x1 at c1
 generalize hx2:cellOf ns 2=x2 at c2
 generalize hx3:cellOf ns 3=x3 at c3
 have g0:0 <= x0 % 5:=by omega
 have g1:x0 % 5 <= 4:=by omega
 have hcs:(oo ns (some 4) (some 63)).length <= 59:=tY ns (by decide) (by decide)
 have i0:lq 0 (List.replicate (x0 % 5).toNat []):=⟨λR hR t ht=>(by rw [(List.mem_replicate.mp hR).2] at ht;cases ht),by simp⟩
 obtain ⟨G1,b3,b4,b5,e1,i1,l1⟩:=gD n ns (x0 / 5 % 2 == 1) (oo ns (some 4) (some 63)) (List.replicate (x0 % 5).toNat []) 0 none none none i0 (by rw [List.length_replicate];omega) (by omega)
 rw [List.length_replicate] at l1
 have e0:ex (af defs (n + 2)) (.setLN 1 (.bin .mod (.call 6 [(.bor 0),(.cst (.int 0))]) (.cst (.int 5)))) [some (.brw (ns.map .int)),none,none,none,none,none,none,none,none,none,none]=.next [some (.brw (ns.map .int)),some (grp (List.replicate (x0 % 5).toNat [])),none,none,none,none,none,none,none,none,none]:=by
  rw [ex,bG (x:=.int x0) (y:=.int 5) (c0 _) (aP _ _ _),eW,if_pos (by decide)]
  dsimp only
  rw [if_pos ⟨rfl,g0,by omega⟩]
  unfold grp
  rw [List.map_replicate]
  rfl
 show ∃ Rs,aV (exs (af defs (n + 2)) (.setLN 1 _::.set 2 _::.for1 3 .seq _ cG::.ite _ _ []::.freezeL 1::.set 6 _::.set 7 _::.for1 8 .seq _ cH::.set 9 _::.ite _ _ []::.set 10 _::.ite _ _ []::.ite _ _ []::[.ret _]) [some (.brw (ns.map .int)),none,none,none,none,none,none,none,none,none,none])=_/\_
 suffices key:∃ Rs,aV (exs (af defs (n + 2)) (.ite (.and (.bor 2) (.cmp .gt (.lenL 1) (.cst (.int 1)))) [.appI 1 (.bin .mod (.call 6 [(.bor 0),(.cst (.int 3))]) (.lenL 1)) (.call 8 [(.bin .fdiv (.call 6 [(.bor 0),(.cst (.int 3))]) (.cst (.int 4))),(.cst (.int 60)),(.cst (.int 1))])] []::cQ.body.drop 4) (f10 ns (some (grp G1)) (x0 / 5 % 2 == 1) b3 b4 b5 none none none none none))=some (.lst (Rs.map ofR))/\yI Rs by
  obtain ⟨Rs,e,ok⟩:=key
  refine ⟨Rs,?_,ok⟩
  refine bJ e0 ?_
  refine dw (v:=.bl (x0 / 5 % 2 == 1)) (fO (fb (c0 _) (by omega)) (by decide)) ?_
  refine bJ (ρ':=f10 ns (some (grp G1)) (x0 / 5 % 2 == 1) b3 b4 b5 none none none none none) ?_ e
  rw [i7 (xs:=(oo ns (some 4) (some 63)).map .int) (by simp [evs,ev,bnd,tV])]
  show (aE _ _ (f10 ns (some (grp (List.replicate (x0 % 5).toNat []))) (x0 / 5 % 2 == 1) none none none none none none none none)).back _ _=_
  rw [e1]
  rfl
 have h2:∃ G2,ex (af defs (n + 2)) (.ite (.and (.bor 2) (.cmp .gt (.lenL 1) (.cst (.int 1)))) [.appI 1 (.bin .mod (.call 6 [(.bor 0),(.cst (.int 3))]) (.lenL 1)) (.call 8 [(.bin .fdiv (.call 6 [(.bor 0),(.cst (.int 3))]) (.cst (.int 4))),(.cst (.int 60)),(.cst (.int 1))])] []) (f10 ns (some (grp G1)) (x0 / 5 % 2 == 1) b3 b4 b5 none none none none none)=.next (f10 ns (some (grp G2)) (x0 / 5 % 2 == 1) b3 b4 b5 none none none none none)/\lq 60 G2/\G2.length <= 4:=by
  have ec:ev (af defs (n + 2)) (.and (.bor 2) (.cmp .gt (.lenL 1) (.cst (.int 1)))) (f10 ns (some (grp G1)) (x0 / 5 % 2 == 1) b3 b4 b5 none none none none none)=some (.bl ((x0 / 5 % 2 == 1)&&decide ((1:Int) < (G1.length:Int)))):=by
   refine yC (by simp [ev,f10]) λ_=>?_
   rw [eH (fQ (G:=G1) rfl) (aP _ _ _)]
   rfl
  rw [bb ec]
  by_cases q:((x0 / 5 % 2 == 1)&&decide ((1:Int) < (G1.length:Int)))=true
  ·rw [if_pos q]
   have hG:(1:Int) < (G1.length:Int):=of_decide_eq_true (Bool.and_eq_true_iff.mp q).2
   have q0:0 <= x3 % (G1.length:Int):=Int.emod_nonneg _ (by omega)
   have q1:x3 % (G1.length:Int) < (G1.length:Int):=Int.emod_lt_of_pos _ (by omega)
   have hs:cD (cN (x3 / 4) 60 1)/\(cN (x3 / 4) 60 1).length <= 3:=⟨j6 _ _ _ (by decide) (by decide),by have:=iS (x3 / 4) 60 1 (by decide) (by decide);omega⟩
   have hi:(x3 % (G1.length:Int)).toNat < G1.length:=by omega
   have ia:=pP i1 hi hs
   refine ⟨fg G1 (x3 % (G1.length:Int)).toNat (cN (x3 / 4) 60 1),?_,⟨ia.1,by have:=ia.2;omega⟩,by unfold fg;rw [List.length_set];omega⟩
   refine eR ?_
   rw [t6 (G:=G1) (q:=x3 % (G1.length:Int)) (s:=cN (x3 / 4) 60 1) (by rw [bG (x:=.int x3) (y:=.int (G1.length:Int)) (c3 _) (fQ (G:=G1) rfl),eW,if_pos (by omega)]) (bv (vs:=[.val (.int (x3 / 4)),.val (.int 60),.val (.int 1)]) (by
    have:ev (af defs (n + 2)) (.bin .fdiv (.call 6 [(.bor 0),(.cst (.int 3))]) (.cst (.int 4))) (f10 ns (some (grp G1)) (x0 / 5 % 2 == 1) b3 b4 b5 none none none none none)=some (.int (x3 / 4)):=fb (c3 _) (by omega)
    simp only [evA,this,aP,Option.bind_some,Option.map_some]) (pM n _ _ _ (by decide) (by decide) (by decide) (by decide))) rfl q0 q1 (by have:=i1.2;omega)]
   rfl
  ·rw [if_neg q]
   exact ⟨G1,by rw [exs],⟨i1.1,by have:=i1.2;omega⟩,by omega⟩
 obtain ⟨G,e2,iG,lG⟩:=h2
 generalize (x0 / 5 % 2 == 1)=p at *
 have good0:∀ R ∈ G.map sortT,g9 R/\R.flatten.length <= 1000:=λR hR=>by
  obtain ⟨Q,hQ,rfl⟩:=List.mem_map.mp hR
  have hlen:Q.length <= 60:=by have:=fP hQ;have:=iG.2;omega
  refine ⟨⟨λt ht=>(iG.1 Q hQ t (iJ.mp ht)).1,sortT_rises _,by rw [sortT_len];exact hlen⟩,?_⟩
  have:=l6 (R:=sortT Q) (m:=3) λt ht=>(iG.1 Q hQ t (iJ.mp ht)).2
  rw [sortT_len] at this
  omega
 have len0:(G.map sortT).flatten.length <= 60:=by rw [gj];exact iG.2
 have few0:(G.map sortT).length <= 4:=by rw [List.length_map];exact lG
 have er:ev (af defs (n + 2)) (.comp .seq [(.bor 1)] [] (.cst (.bl true)) (.blt .tupleOf [(.blt .sorted [(.bor 0)])])) (f10 ns (some (.val (.lst ((G.map λR=>R.map ofS).map .lst)))) p b3 b4 b5 none none none none none)=some (.lst ((G.map sortT).map ofR)):=by
  refine (i8 (xs:=G) (g:=λR=>.lst (R.map ofS)) (h:=λR=>ofR (sortT R)) (vs:=[.lst ((G.map λR=>R.map ofS).map .lst)]) (by simp [evs,ev,f10]) (by simp) (by omega) λR hR=>?_).trans (by rw [List.map_map];rfl)
  have hlen:R.length <= 60:=by have:=fP hR;have:=iG.2;omega
  rw [aT (v:=.lst ((sortT R).map ofS)) (by rw [aT (v:=.lst (R.map ofS)) (by simp [ev,fh])];exact fU (by omega))]
  rfl
 generalize hRs:G.map sortT=Rs at *
 obtain ⟨m',b8,e3⟩:=lr (af defs (n + 2)) ns (some (.val (.lst ((G.map λR=>R.map ofS).map .lst)))) p b3 b4 b5 (some (.val (.lst (Rs.map ofR)))) Rs 0 none
 generalize hg2:some (MV.val (.lst ((G.map λR=>R.map ofS).map .lst)))=g2 at *
 have h9:∃ m:Int,0 <= m/\m <= 60/\∀ (X:Option PV) (ms:List MS),aV (exs (af defs (n + 2)) ms (f10 ns g2 p b3 b4 b5 (some (.val (.lst (Rs.map ofR)))) (some (.val (.int m'))) b8 (some (.val (.int m))) none))=X->aV (exs (af defs (n + 2)) (.set 9 (.bin .mod (.bin .fdiv (.call 6 [(.bor 0),(.cst (.int 1))]) (.cst (.int 3))) (.cst (.int 61)))::.ite (.cmp .eq (.bin .mod (.call 6 [(.bor 0),(.cst (.int 1))]) (.cst (.int 3))) (.cst (.int 1))) [.set 9 (.blt .min2 [(.cst (.int 60)),(.blt .max2 [(.cst (.int 0)),(.bin .add (.bin .sub (.cst (.int 59)) (.bor 7)) (.bin .mod (.bin .fdiv (.call 6 [(.bor 0),(.cst (.int 1))]) (.cst (.int 3))) (.cst (.int 4))))])])] []::ms) (f10 ns g2 p b3 b4 b5 (some (.val (.lst (Rs.map ofR)))) (some (.val (.int m'))) b8 none none))=X:=by
  have ea:∀ r,ev (af defs (n + 2)) (.bin .mod (.bin .fdiv (.call 6 [(.bor 0),(.cst (.int 1))]) (.cst (.int 3))) (.cst (.int 61))) (some (.brw (ns.map .int))::r)=some (.int (x1 / 3 % 61)):=λr=>by rw [bG (fb (c1 r) (by omega)) (aP _ _ _),eW,if_pos (by decide)]
  have eb:∀ r,ev (af defs (n + 2)) (.bin .mod (.bin .fdiv (.call 6 [(.bor 0),(.cst (.int 1))]) (.cst (.int 3))) (.cst (.int 4))) (some (.brw (ns.map .int))::r)=some (.int (x1 / 3 % 4)):=λr=>by rw [bG (fb (c1 r) (by omega)) (aP _ _ _),eW,if_pos (by decide)]
  have ec:∀ r,ev (af defs (n + 2)) (.cmp .eq (.bin .mod (.call 6 [(.bor 0),(.cst (.int 1))]) (.cst (.int 3))) (.cst (.int 1))) (some (.brw (ns.map .int))::r)=some (.bl (x1 % 3 == 1)):=λr=>fO (c1 r) (by decide)
  cases hq:(x1 % 3 == 1) with
  | false =>
   refine ⟨x1 / 3 % 61,by omega,by omega,λX ms k=>?_⟩
   refine dw (ea _) ?_
   refine bJ (ρ':=f10 ns g2 p b3 b4 b5 (some (.val (.lst (Rs.map ofR)))) (some (.val (.int m'))) b8 (some (.val (.int (x1 / 3 % 61)))) none) ?_ k
   show ex _ _ (f10 ns g2 p b3 b4 b5 (some (.val (.lst (Rs.map ofR)))) (some (.val (.int m'))) b8 (some (.val (.int (x1 / 3 % 61)))) none)=_
   rw [bb (ec _),hq,if_neg Bool.false_ne_true,exs]
  | true =>
   refine ⟨if (if 59 - m' + x1 / 3 % 4 > 0 then 59 - m' + x1 / 3 % 4 else 0) < 60 then (if 59 - m' + x1 / 3 % 4 > 0 then 59 - m' + x1 / 3 % 4 else 0) else 60,by split <;> split <;> omega,by split <;> split <;> omega,λX ms k=>?_⟩
   refine dw (ea _) ?_
   refine bJ ?_ k
   show ex _ _ (f10 ns g2 p b3 b4 b5 (some (.val (.lst (Rs.map ofR)))) (some (.val (.int m'))) b8 (some (.val (.int (x1 / 3 % 61)))) none)=_
   rw [bb (ec _),hq,if_pos rfl]
   refine eR ?_
   have e5:ev (af defs (n + 2)) (.bin .add (.bin .sub (.cst (.int 59)) (.bor 7)) (.bin .mod (.bin .fdiv (.call 6 [(.bor 0),(.cst (.int 1))]) (.cst (.int 3))) (.cst (.int 4)))) (f10 ns g2 p b3 b4 b5 (some (.val (.lst (Rs.map ofR)))) (some (.val (.int m'))) b8 (some (.val (.int (x1 / 3 % 61)))) none)=some (.int (59 - m' + x1 / 3 % 4)):=by
    rw [bG (x:=.int (59 - m')) (y:=.int (x1 / 3 % 4)) (by rw [bG (x:=.int 59) (y:=.int m') (aP _ _ _) (by simp [ev,f10])];rfl) (eb _)]
    rfl
   show ex _ _ (f10 ns g2 p b3 b4 b5 (some (.val (.lst (Rs.map ofR)))) (some (.val (.int m'))) b8 (some (.val (.int (x1 / 3 % 61)))) none)=_
   rw [e_ (v:=.int (if (if 59 - m' + x1 / 3 % 4 > 0 then 59 - m' + x1 / 3 % 4 else 0) < 60 then (if 59 - m' + x1 / 3 % 4 > 0 then 59 - m' + x1 / 3 % 4 else 0) else 60)) (by
    rw [ev,evs,aP,Option.bind_some,evs,show ev (af defs (n + 2)) (.blt .max2 [(.cst (.int 0)),(.bin .add (.bin .sub (.cst (.int 59)) (.bor 7)) (.bin .mod (.bin .fdiv (.call 6 [(.bor 0),(.cst (.int 1))]) (.cst (.int 3))) (.cst (.int 4))))]) (f10 ns g2 p b3 b4 b5 (some (.val (.lst (Rs.map ofR)))) (some (.val (.int m'))) b8 (some (.val (.int (x1 / 3 % 61)))) none)=some (.int (if 59 - m' + x1 / 3 % 4 > 0 then 59 - m' + x1 / 3 % 4 else 0)) from by
     rw [ev,evs,aP,Option.bind_some,evs,e5]
     rfl]
    rfl)]
   rfl
 obtain ⟨m,m0,m1,e9⟩:=h9
 have hb0:0 <= x2 / 2 % 60:=by omega
 have hb1:x2 / 2 % 60 <= 59:=by omega
 have like:=qN (x2 / 2 % 60) hb0 hb1 m.toNat (by omega)
 have llen:[List.replicate m.toNat [x2 / 2 % 60]].flatten.length <= 60:=by simp;omega
 suffices key:∃ Rs',aV (exs (af defs (n + 2)) (cQ.body.drop 10) (f10 ns g2 p b3 b4 b5 (some (.val (.lst (Rs.map ofR)))) (some (.val (.int m'))) b8 (some (.val (.int m))) none))=some (.lst (Rs'.map ofR))/\yI Rs' by
  obtain ⟨Rs',e,ok⟩:=key
  refine ⟨Rs',?_,ok⟩
  refine bJ e2 ?_
  show aV (exs (af defs (n + 2)) (.freezeL 1::.set 6 _::.set 7 _::.for1 8 .seq [(.bor 6)] cH::.set 9 _::.ite _ _ []::cQ.body.drop 10) _)=_
  refine bJ (ρ':=f10 ns g2 p b3 b4 b5 none none none none none) (by rw [ex,<- hg2];rfl) ?_
  refine dw er ?_
  refine dw (aP _ _ _) ?_
  refine bJ (ρ':=f10 ns g2 p b3 b4 b5 (some (.val (.lst (Rs.map ofR)))) (some (.val (.int m'))) b8 none none) ?_ (e9 _ _ e)
  show ex _ _ (f10 ns g2 p b3 b4 b5 (some (.val (.lst (Rs.map ofR)))) (some (.val (.int 0))) none none none)=_
  rw [i7 (xs:=Rs.map ofR) (by simp [evs,ev,f10])]
  show (aE _ _ (f10 ns g2 p b3 b4 b5 (some (.val (.lst (Rs.map ofR)))) (some (.val (.int 0))) none none none)).back _ _=_
  rw [e3]
  rfl
 show ∃ Rs',aV (exs (af defs (n + 2)) [.set 10 _,.ite _ _ [],.ite _ _ [],.ret _] _)=_/\_
 have e10:ev (af defs (n + 2)) (.lst [(.bin .mul (.tup [(.tup [(.bin .mod (.bin .fdiv (.call 6 [(.bor 0),(.cst (.int 2))]) (.cst (.int 2))) (.cst (.int 60)))])]) (.bor 9))]) (f10 ns g2 p b3 b4 b5 (some (.val (.lst (Rs.map ofR)))) (some (.val (.int m'))) b8 (some (.val (.int m))) none)=some (.lst [ofR (List.replicate m.toNat [x2 / 2 % 60])]):=by
  have ea:ev (af defs (n + 2)) (.bin .mod (.bin .fdiv (.call 6 [(.bor 0),(.cst (.int 2))]) (.cst (.int 2))) (.cst (.int 60))) (f10 ns g2 p b3 b4 b5 (some (.val (.lst (Rs.map ofR)))) (some (.val (.int m'))) b8 (some (.val (.int m))) none)=some (.int (x2 / 2 % 60)):=by rw [bG (fb (c2 _) (by omega)) (aP _ _ _),eW,if_pos (by decide)]
  have eb:ev (af defs (n + 2)) (.bin .mul (.tup [(.tup [(.bin .mod (.bin .fdiv (.call 6 [(.bor 0),(.cst (.int 2))]) (.cst (.int 2))) (.cst (.int 60)))])]) (.bor 9)) (f10 ns g2 p b3 b4 b5 (some (.val (.lst (Rs.map ofR)))) (some (.val (.int m'))) b8 (some (.val (.int m))) none)=some (ofR (List.replicate m.toNat [x2 / 2 % 60])):=by
   rw [bG (x:=.tup [ofS [x2 / 2 % 60]]) (y:=.int m) (by simp only [ev,evs] at ea ⊢;rw [ea];rfl) (by simp [ev,f10])]
   show (if _ then _ else _)=_
   rw [if_pos ⟨rfl,m0,by omega,by rw [List.length_singleton];omega⟩,t8]
  rw [ev,evs,eb]
  rfl
 have cz:∀ r,ev (af defs (n + 2)) (.cmp .eq (.bin .mod (.call 6 [(.bor 0),(.cst (.int 1))]) (.cst (.int 3))) (.cst (.int 0))) (some (.brw (ns.map .int))::r)=some (.bl (x1 % 3 == 0)):=λr=>fO (c1 r) (by decide)
 have cy:∀ r,ev (af defs (n + 2)) (.cmp .eq (.bin .mod (.call 6 [(.bor 0),(.cst (.int 2))]) (.cst (.int 2))) (.cst (.int 1))) (some (.brw (ns.map .int))::r)=some (.bl (x2 % 2 == 1)):=λr=>fO (c2 r) (by decide)
 generalize hlk:List.replicate m.toNat [x2 / 2 % 60]=L at *
 have mem1:∀ {A B:List (List (List Int))},(∀ R ∈ A,g9 R/\R.flatten.length <= 1000)->(∀ R ∈ B,g9 R/\R.flatten.length <= 1000)->∀ R ∈ A ++ B,g9 R/\R.flatten.length <= 1000:=λha hb R hR=>(List.mem_append.mp hR).elim (ha R) (hb R)
 have gL:∀ R ∈ [L],g9 R/\R.flatten.length <= 1000:=λR hR=>by rw [List.mem_singleton.mp hR];exact like
 cases hz:(x1 % 3 == 0) with
 | true =>
  refine ⟨Rs,?_,⟨good0,by omega,by omega⟩⟩
  refine dw e10 ?_
  show aV (exs _ _ (f10 ns g2 p b3 b4 b5 (some (.val (.lst (Rs.map ofR)))) (some (.val (.int m'))) b8 (some (.val (.int m))) (some (.val (.lst [ofR L])))))=_
  rw [ay,bb (cz _),hz,if_pos rfl,ay,fN (v:=.lst (Rs.map ofR)) (by simp [ev,f10,put])]
  rfl
 | false =>
  cases hy:(x2 % 2 == 1) with
  | true =>
   refine ⟨[L] ++ Rs,?_,⟨mem1 gL good0,by simp;omega,by rw [List.flatten_append,List.length_append];omega⟩⟩
   refine dw e10 ?_
   show aV (exs _ _ (f10 ns g2 p b3 b4 b5 (some (.val (.lst (Rs.map ofR)))) (some (.val (.int m'))) b8 (some (.val (.int m))) (some (.val (.lst [ofR L])))))=_
   rw [ay,bb (cz _),hz,if_neg Bool.false_ne_true,exs,bI,ay,bb (cy _),hy,if_pos rfl,ay,fN (v:=.lst (([L] ++ Rs).map ofR)) (by
    rw [bG (x:=.lst [ofR L]) (y:=.lst (Rs.map ofR)) (by simp [ev,f10,put]) (by simp [ev,f10,put])]
    show (if _ then _ else _)=_
    rw [if_pos (by rw [List.length_singleton,List.length_map];omega)]
    rfl)]
   rfl
  | false =>
   refine ⟨Rs ++ [L],?_,⟨mem1 good0 gL,by simp;omega,by rw [List.flatten_append,List.length_append];omega⟩⟩
   refine dw e10 ?_
   show aV (exs _ _ (f10 ns g2 p b3 b4 b5 (some (.val (.lst (Rs.map ofR)))) (some (.val (.int m'))) b8 (some (.val (.int m))) (some (.val (.lst [ofR L])))))=_
   rw [ay,bb (cz _),hz,if_neg Bool.false_ne_true,exs,bI,ay,bb (cy _),hy,if_neg Bool.false_ne_true,exs,bI,ay,fN (v:=.lst ((Rs ++ [L]).map ofR)) (by
    rw [bG (x:=.lst (Rs.map ofR)) (y:=.lst [ofR L]) (by simp [ev,f10,put]) (by simp [ev,f10,put])]
    show (if _ then _ else _)=_
    rw [if_pos (by rw [List.length_singleton,List.length_map];omega),List.map_append]
    rfl)]
   rfl
theorem nw {cal:Cal}{a:ME}{ρ:Rho} (h:ev cal a ρ=some (.bl true)):ev cal (.not a) ρ=some (.bl false):=by
 rw [ev,h]
 rfl
theorem vY {cal:Cal}{a b:ME}{ρ:Rho}{q:Bool} (h:ev cal a ρ=some (.bl false)) (h':ev cal b ρ=some (.bl q)):ev cal (.or a b) ρ=some (.bl q):=by
 rw [ev,h]
 simp [h']
theorem t9 (n:Nat) {a b:ME}{ρ:Rho}{p:Bool} (ha:ev (af defs (n + 1)) a ρ=some (.bl p)) (hb:ev (af defs (n + 1)) b ρ=some (.bl p)) (na:∀ i,a ≠ .bor i:=by intro i z;cases z) (nb:∀ i,b ≠ .bor i:=by intro i z;cases z):ev (af defs (n + 1)) (.call 12 [a,b]) ρ=some (.bl true):=by
 refine bv (vs:=[.val (.bl p),.val (.bl p)]) ?_ ((t5 n p p).trans (by rw [beq_self_eq_true]))
 rw [evA,ha,Option.bind_some,evA,hb]
 ·rfl
 ·exact λi z=>nb i z
 ·exact λi z=>na i z
theorem pQ (n:Nat):∀ a:List (List (List Int)),eqL (eqF (n + 2)) (a.map ofR) (a.map ofR)=some true
 | []=>rfl
 | x::a=>by
  rw [List.map_cons,eqL,pQ n a,tw,decide_eq_true rfl]
  rfl
theorem AA (Rs:List (List (List Int))):cut (Rs.map ofR) none (some 1)=(Rs.take 1).map ofR:=by
 cases Rs with
 | nil=>rfl
 | cons R Rs =>
  unfold cut
  have e1:fe (List.map ofR (R::Rs)).length (List.map ofR (R::Rs)).length (some 1)=1:=by
   unfold fe
   dsimp only
   rw [if_neg (by decide),List.length_map,List.length_cons]
   show min 1 (Rs.length + 1)=1
   omega
  rw [e1]
  rfl
noncomputable abbrev l10 (ns:List Int) (a1 a2 a3 a4 a5 a6 a7 a8:Option MV):Rho:=[some (.brw (ns.map .int)),a1,a2,a3,a4,a5,a6,a7,a8]
theorem gk (cal:Cal) (ns:List Int) (a1 a2 a5 a6 a7 a8:Option MV):∀ (Rs:List (List (List Int))) (acc:List (List Int)) (a4:Option MV),acc.length + Rs.flatten.length <= 10000 ->
  ∃ b4,aE (λx ρ'=>exs cal i6 (put ρ' 4 (.val x))) (Rs.map ofR) (l10 ns a1 a2 (some (.val (.lst (acc.map ofS)))) a4 a5 a6 a7 a8)=.next (l10 ns a1 a2 (some (.val (.lst ((acc ++ Rs.flatten).map ofS)))) b4 a5 a6 a7 a8)
 | [],acc,a4,_=>⟨a4,by simp⟩
 | R::Rs,acc,a4,h=>by
  rw [List.flatten_cons,List.length_append] at h
  obtain ⟨b4,e⟩:=gk cal ns a1 a2 a5 a6 a7 a8 Rs (acc ++ R) (some (.val (ofR R))) (by rw [List.length_append];omega)
  refine ⟨b4,?_⟩
  rw [List.map_cons,aE]
  have eb:exs cal i6 (put (l10 ns a1 a2 (some (.val (.lst (acc.map ofS)))) a4 a5 a6 a7 a8) 4 (.val (ofR R)))=.next (l10 ns a1 a2 (some (.val (.lst ((acc ++ R).map ofS)))) (some (.val (ofR R))) a5 a6 a7 a8):=by
   show exs cal [.set 3 _] (l10 ns a1 a2 (some (.val (.lst (acc.map ofS)))) (some (.val (ofR R))) a5 a6 a7 a8)=_
   refine eR ?_
   rw [e_ (v:=.lst ((acc ++ R).map ofS)) (by
    rw [bG (x:=.lst (acc.map ofS)) (y:=.lst (R.map ofS)) (by simp [ev]) (by rw [aT (v:=ofR R) (by simp [ev])];rfl)]
    show (if _ then _ else _)=_
    rw [if_pos (by rw [List.length_map,List.length_map];omega),List.map_append])]
   rfl
  rw [eb,List.flatten_cons,<- List.append_assoc]
  exact e
theorem t_ (ns:List Int) (hl:ns.length <= 63):af defs 40 16 [.brw (ns.map .int)]=some (.bl true):=by
 rw [aJ (d:=pL) rfl rfl]
 obtain ⟨Rs,e1,ok⟩:=vX 36 ns hl
 have hT:=ok.len
 have hfew:=ok.few
 show aV (exs (af defs 39) (.set 1 _::.set 2 _::.ite _ _ []::.set 3 _::.for1 4 .seq _ i6::.set 5 _::.set 6 _::.tryC _ _ _ _::.ite _ _ _::.ite _ _ []::.set 7 _::.ite _ _ []::.set 8 _::.ite _ _ []::[.ret _]) (l10 ns none none none none none none none none))=_
 refine dw (bv (vs:=[.brw (ns.map .int)]) (by simp [evA]) e1) ?_
 refine dw (v:=.lst (Rs.map ofR)) (by rw [aT (v:=.lst (Rs.map ofR)) (by simp [ev])];rfl) ?_
 obtain ⟨hv,hp,hls,e2⟩:∃ hv,aI hv=some (Rs.map ofR)/\aq .listOf [hv]=some (.lst (Rs.map ofR))/\ex (af defs 39) (.ite (.cmp .eq (.bin .mod (.blt .len [(.bor 0)]) (.cst (.int 2))) (.cst (.int 1))) [.set 2 (.blt .tupleOf [(.bor 1)])] []) (l10 ns (some (.val (.lst (Rs.map ofR)))) (some (.val (.lst (Rs.map ofR)))) none none none none none none)=.next (l10 ns (some (.val (.lst (Rs.map ofR)))) (some (.val hv)) none none none none none none):=by
  have ec:ev (af defs 39) (.cmp .eq (.bin .mod (.blt .len [(.bor 0)]) (.cst (.int 2))) (.cst (.int 1))) (l10 ns (some (.val (.lst (Rs.map ofR)))) (some (.val (.lst (Rs.map ofR)))) none none none none none none)=some (.bl ((ns.length:Int) % 2 == 1)):=fO (by rw [aT (v:=ofL ns) (by simp [ev])];simp) (by decide)
  rw [bb ec]
  cases ((ns.length:Int) % 2 == 1) with
  | false=>exact ⟨_,rfl,rfl,by rw [if_neg Bool.false_ne_true,exs]⟩
  | true =>
   refine ⟨.tup (Rs.map ofR),rfl,rfl,?_⟩
   rw [if_pos rfl]
   refine eR ?_
   rw [e_ (v:=.tup (Rs.map ofR)) (by rw [aT (v:=.lst (Rs.map ofR)) (by simp [ev])];rfl)]
   rfl
 refine bJ e2 ?_
 refine dw (v:=.lst []) (by simp [ev,evs]) ?_
 obtain ⟨b4,e4⟩:=gk (af defs 39) ns (some (.val (.lst (Rs.map ofR)))) (some (.val hv)) none none none none Rs [] none (by rw [List.length_nil];omega)
 rw [List.nil_append] at e4
 refine bJ (ρ':=l10 ns (some (.val (.lst (Rs.map ofR)))) (some (.val hv)) (some (.val (.lst (Rs.flatten.map ofS)))) b4 none none none none) (by
  show ex _ _ (l10 ns (some (.val (.lst (Rs.map ofR)))) (some (.val hv)) (some (.val (.lst []))) none none none none none)=_
  rw [i7 (xs:=Rs.map ofR) (by simp [evs,ev])]
  show (aE _ _ (l10 ns (some (.val (.lst (Rs.map ofR)))) (some (.val hv)) (some (.val (.lst (([]:List (List Int)).map ofS)))) none none none none none)).back _ _=_
  rw [e4]
  rfl) ?_
 refine dw (aP _ _ _) ?_
 refine dw (aP _ _ _) ?_
 show aV (exs (af defs 39) _ (l10 ns (some (.val (.lst (Rs.map ofR)))) (some (.val hv)) (some (.val (.lst (Rs.flatten.map ofS)))) b4 (some (.val (.bl false))) (some (.val .non)) none none))=_
 have elen:∀ a5 a6,ev (af defs 39) (.cmp .gt (.blt .len [(.bor 3)]) (.cst (.int 60))) (l10 ns (some (.val (.lst (Rs.map ofR)))) (some (.val hv)) (some (.val (.lst (Rs.flatten.map ofS)))) b4 a5 a6 none none)=some (.bl (decide ((60:Int) < (Rs.flatten.length:Int)))):=λa5 a6=>by
  rw [eH (x:=.int (Rs.flatten.length:Int)) (y:=.int 60) (by
   rw [aT (v:=.lst (Rs.flatten.map ofS)) (by simp [ev])]
   show some (PV.int ((Rs.flatten.map ofS).length:Int))=_
   rw [List.length_map]) (aP _ _ _)]
  rfl
 obtain ⟨a5,a6,e78⟩:∃ a5 a6,∀ (X:Option PV) (ms:List MS),aV (exs (af defs 39) ms (l10 ns (some (.val (.lst (Rs.map ofR)))) (some (.val hv)) (some (.val (.lst (Rs.flatten.map ofS)))) b4 a5 a6 none none))=X ->
   aV (exs (af defs 39) (.tryC (some 6) 4 [(.bor 2)] [⟨"NoRest",none,5,(.one (.cst (.bl true)))⟩]::.ite (.cmp .gt (.blt .len [(.bor 3)]) (.cst (.int 60))) [.ite (.or (.not (.bor 5)) (.not (.call 15 [(.bor 2)]))) [.ret (.cst (.bl false))] []] [.ite (.or (.bor 5) (.or (.not (.call 10 [(.bor 6)])) (.cmp .ne (.bor 6) (.blt .tupleOf [(.blt .sorted [(.bor 3)])])))) [.ret (.cst (.bl false))] []]::ms) (l10 ns (some (.val (.lst (Rs.map ofR)))) (some (.val hv)) (some (.val (.lst (Rs.flatten.map ofS)))) b4 (some (.val (.bl false))) (some (.val .non)) none none))=X:=by
  have ea:evA (af defs 39) [(.bor 2)] (l10 ns (some (.val (.lst (Rs.map ofR)))) (some (.val hv)) (some (.val (.lst (Rs.flatten.map ofS)))) b4 (some (.val (.bl false))) (some (.val .non)) none none)=some [.val hv]:=by simp [evA]
  by_cases q:Rs.flatten.length <= 60
  ·refine ⟨some (.val (.bl false)),some (.val (ofR (sortT Rs.flatten))),λX ms k=>?_⟩
   refine bJ (ρ':=l10 ns (some (.val (.lst (Rs.map ofR)))) (some (.val hv)) (some (.val (.lst (Rs.flatten.map ofS)))) b4 (some (.val (.bl false))) (some (.val (ofR (sortT Rs.flatten)))) none none) (by
    rw [ex,ea,Option.bind_some,qM 36 hp q]
    rfl) ?_
   refine bJ ?_ k
   have gT:g9 (sortT Rs.flatten):=⟨λt ht=>by
    obtain ⟨R,hR,ht⟩:=List.mem_flatten.mp (iJ.mp ht)
    exact (ok.good R hR).1.1 t ht,sortT_rises _,by rw [sortT_len];exact q⟩
   rw [bb (elen _ _),decide_eq_false (by omega),if_neg Bool.false_ne_true]
   refine eR ?_
   have er:ev (af defs 39) (.or (.bor 5) (.or (.not (.call 10 [(.bor 6)])) (.cmp .ne (.bor 6) (.blt .tupleOf [(.blt .sorted [(.bor 3)])])))) (l10 ns (some (.val (.lst (Rs.map ofR)))) (some (.val hv)) (some (.val (.lst (Rs.flatten.map ofS)))) b4 (some (.val (.bl false))) (some (.val (ofR (sortT Rs.flatten)))) none none)=some (.bl false):=by
    refine vY (by simp [ev]) (vY (nw (bv (vs:=[.val (ofR (sortT Rs.flatten))]) (by simp [evA]) (qL 37 _ gT))) ?_)
    rw [eH (x:=ofR (sortT Rs.flatten)) (y:=ofR (sortT Rs.flatten)) (by simp [ev]) (by
     rw [aT (v:=.lst ((sortT Rs.flatten).map ofS)) (by rw [aT (v:=.lst (Rs.flatten.map ofS)) (by simp [ev])];exact fU (by omega))]
     rfl)]
    show Option.map PV.bl ((eqF 100 (ofR (sortT Rs.flatten)) (ofR (sortT Rs.flatten))).map λp=>!p)=_
    rw [tw 98,decide_eq_true rfl]
    rfl
   rw [bb er,if_neg Bool.false_ne_true,exs]
  ·refine ⟨some (.val (.bl true)),some (.val .non),λX ms k=>?_⟩
   refine bJ (ρ':=l10 ns (some (.val (.lst (Rs.map ofR)))) (some (.val hv)) (some (.val (.lst (Rs.flatten.map ofS)))) b4 (some (.val (.bl true))) (some (.val .non)) none none) (by
    rw [ex,ea,Option.bind_some,ll 36 hp (by omega) (by omega)]
    rfl) ?_
   refine bJ ?_ k
   rw [bb (elen _ _),decide_eq_true (by omega),if_pos rfl]
   refine eR ?_
   have er:ev (af defs 39) (.or (.not (.bor 5)) (.not (.call 15 [(.bor 2)]))) (l10 ns (some (.val (.lst (Rs.map ofR)))) (some (.val hv)) (some (.val (.lst (Rs.flatten.map ofS)))) b4 (some (.val (.bl true))) (some (.val .non)) none none)=some (.bl false) :=
    vY (nw (by simp [ev])) (nw (bv (vs:=[.val hv]) (by simp [evA]) (oC 35 hp (by omega) (by omega))))
   rw [bb er,if_neg Bool.false_ne_true,exs]
 refine e78 _ _ ?_
 have hgA:∀ R ∈ Rs,(∀ t ∈ R,cD t)/\R.flatten.length <= 1000:=λR hR=>⟨(ok.good R hR).1.1,(ok.good R hR).2⟩
 refine bJ (ρ':=l10 ns (some (.val (.lst (Rs.map ofR)))) (some (.val hv)) (some (.val (.lst (Rs.flatten.map ofS)))) b4 a5 a6 none none) (by
  have er:ev (af defs 39) (.or (.not (.call 12 [(.call 5 [(.bor 2)]),(.call 14 [(.bor 1)])])) (.cmp .ne (.blt .listOf [(.bor 2)]) (.bor 1))) (l10 ns (some (.val (.lst (Rs.map ofR)))) (some (.val hv)) (some (.val (.lst (Rs.flatten.map ofS)))) b4 a5 a6 none none)=some (.bl false):=by
   refine vY (nw (t9 38 (bv (vs:=[.val hv]) (by simp [evA]) (lm 36 hp hgA (by omega))) (bv (vs:=[.val (.lst (Rs.map ofR))]) (by simp [evA]) (nu 37 (λR hR=>(hgA R hR).1) (by omega))))) ?_
   rw [eH (x:=.lst (Rs.map ofR)) (y:=.lst (Rs.map ofR)) (by rw [aT (v:=hv) (by simp [ev])];exact hls) (by simp [ev])]
   show Option.map PV.bl ((if (Rs.map ofR).length=(Rs.map ofR).length then eqL (eqF 99) (Rs.map ofR) (Rs.map ofR) else some false).map λp=>!p)=_
   rw [if_pos rfl,pQ 97]
   rfl
  rw [bb er,if_neg Bool.false_ne_true,exs]) ?_
 have hgT:∀ R ∈ Rs ++ Rs.take 1,(∀ t ∈ R,cD t)/\R.flatten.length <= 1000:=λR hR=>(List.mem_append.mp hR).elim (hgA R) λh=>hgA R (List.mem_of_mem_take h)
 have lT:(Rs ++ Rs.take 1).length <= 6:=by rw [List.length_append,List.length_take];omega
 have esl:∀ a7 a8,ev (af defs 39) (.slice (.bor 1) (.cst .non) (.cst (.int 1))) (l10 ns (some (.val (.lst (Rs.map ofR)))) (some (.val hv)) (some (.val (.lst (Rs.flatten.map ofS)))) b4 a5 a6 a7 a8)=some (.lst ((Rs.take 1).map ofR)):=λa7 a8=>by
  rw [<- AA]
  simp [ev,bnd]
 refine dw (v:=.lst ((Rs ++ Rs.take 1).map ofR)) (by
  rw [bG (x:=.lst (Rs.map ofR)) (y:=.lst ((Rs.take 1).map ofR)) (by simp [ev]) (esl _ _)]
  show (if _ then _ else _)=_
  rw [if_pos (by rw [List.length_map,List.length_map,List.length_take];omega),List.map_append]) ?_
 refine bJ (ρ':=l10 ns (some (.val (.lst (Rs.map ofR)))) (some (.val hv)) (some (.val (.lst (Rs.flatten.map ofS)))) b4 a5 a6 (some (.val (.lst ((Rs ++ Rs.take 1).map ofR)))) none) (by
  show ex _ _ (l10 ns (some (.val (.lst (Rs.map ofR)))) (some (.val hv)) (some (.val (.lst (Rs.flatten.map ofS)))) b4 a5 a6 (some (.val (.lst ((Rs ++ Rs.take 1).map ofR)))) none)=_
  rw [bb (p:=false) (nw (t9 38 (bv (vs:=[.val (.lst ((Rs ++ Rs.take 1).map ofR))]) (by simp [evA]) (lm 36 rfl hgT (by omega))) (bv (vs:=[.val (.lst ((Rs ++ Rs.take 1).map ofR))]) (by simp [evA]) (nu 37 (λR hR=>(hgT R hR).1) (by omega))))),if_neg Bool.false_ne_true,exs]) ?_
 refine dw (v:=.tup []) (by simp [ev,evs]) ?_
 refine bJ (ρ':=l10 ns (some (.val (.lst (Rs.map ofR)))) (some (.val hv)) (some (.val (.lst (Rs.flatten.map ofS)))) b4 a5 a6 (some (.val (.lst ((Rs ++ Rs.take 1).map ofR)))) (some (.val (ofR (Rs.getD 0 []))))) (by
  show ex _ _ (l10 ns (some (.val (.lst (Rs.map ofR)))) (some (.val hv)) (some (.val (.lst (Rs.flatten.map ofS)))) b4 a5 a6 (some (.val (.lst ((Rs ++ Rs.take 1).map ofR)))) (some (.val (.tup []))))=_
  have ec:ev (af defs 39) (.cmp .gt (.blt .len [(.bor 1)]) (.cst (.int 0))) (l10 ns (some (.val (.lst (Rs.map ofR)))) (some (.val hv)) (some (.val (.lst (Rs.flatten.map ofS)))) b4 a5 a6 (some (.val (.lst ((Rs ++ Rs.take 1).map ofR)))) (some (.val (.tup []))))=some (.bl (decide ((0:Int) < (Rs.length:Int)))):=by
   rw [eH (x:=.int (Rs.length:Int)) (y:=.int 0) (by rw [aT (v:=.lst (Rs.map ofR)) (by simp [ev])];simp) (aP _ _ _)]
   rfl
  rw [bb ec]
  cases Rs with
  | nil=>rw [decide_eq_false (by decide),if_neg Bool.false_ne_true,exs];rfl
  | cons R Rs =>
   rw [decide_eq_true (by rw [List.length_cons];omega),if_pos rfl]
   refine eR ?_
   rw [e_ (v:=ofR R) (by
    rw [yD (x:=.lst ((R::Rs).map ofR)) (y:=.int 0) (by simp [ev]) (aP _ _ _),At,List.length_map,j2 (by decide) (by rw [List.length_cons];omega)]
    rfl)]
   rfl) ?_
 have hJ:(Rs.take 1).flatten.length <= 60/\sortT (Rs.take 1).flatten=Rs.getD 0 []:=by
  cases Rs with
  | nil=>exact ⟨by decide,rfl⟩
  | cons R Rs =>
   have g:=(ok.good R (.head _)).1
   rw [show (R::Rs).take 1=[R] from rfl,List.flatten_singleton]
   exact ⟨g.2.2,sortT_id g.2.1⟩
 refine t0 ?_
 rw [eH (x:=ofR (sortT (Rs.take 1).flatten)) (y:=ofR (Rs.getD 0 [])) (j9 (λ_ z=>by cases z) (esl _ _) (t4 36 rfl hJ.1)) (by simp [ev]),hJ.2]
 show Option.map PV.bl (eqF 100 (ofR (Rs.getD 0 [])) (ofR (Rs.getD 0 [])))=_
 rw [tw 98,decide_eq_true rfl]
 rfl
noncomputable def top (i:Nat):Stmt:=PySem.Challenge.pw_mothloom_k10_joined_and_apart.main.body.getD i (.Pass ⟨0,0,0,0⟩)
theorem yJ {l:PySem.W.OpenLaw}{w:World}{K:PySem.W.Frag}{h:Heap}{mg:Str->Option Value}{fa:Addr} (X:K.In h) (G:h.Ns mainGlobals mg) (hfa:mg "law"=some (.ref fa))
  (h0:HD K "members_of" (top 5) bW) (h1:HD K "each_once" (top 6) d7) (h2:HD K "holes_of" (top 7) eX) (h3:HD K "together" (top 9) dU) (h4:HD K "joined" (top 10) fK) (h5:HD K "are_apart" (top 11) fL) (h6:HD K "_law_cell" (top 13) eY) (h7:HD K "_law_mixed" (top 14) d8) (h8:HD K "_law_strip" (top 15) d9) (h9:HD K "_law_whole" (top 16) d_) (h10:HD K "_law_is_rest" (top 17) dk) (h11:HD K "_law_holes" (top 18) eh) (h12:HD K "_law_bool" (top 19) gC) (h13:HD K "_law_rests" (top 20) cQ) (h14:HD K "_law_apart" (top 21) fM) (h15:HD K "_law_caught" (top 22) eZ) (h16:HD K "law" (top 23) pL λfd=>∀ (s:Shared) (v:Value),BindsTo s fd ⟨[v],[]⟩ [("script",v)]) (er:mX K ["LoomError","NoRest"]=true)
  (zs:∀ x ∈ fD,PySem.W.nsIn K mainGlobals x=some none)
  {gv0:Value} (g0:PySem.W.nsIn K mainGlobals "MOST_STRIPS"=some (some gv0)) (r0:ar (toV (.int 60)) gv0)
 :∃ fd:FuncData,(∀ (s:Shared) (v:Value),BindsTo s fd ⟨[v],[]⟩ [("script",v)])/\∀ base:Heap,K.In base->base.Ns mainGlobals mg->eT l.prog w K mg base CX0 40 fa fd ["script"] (spM K (af defs 40) 16):=by
 obtain ⟨_,e0,D0,q0⟩:=bQ (T:=tab) X G h0 (by kernel_rfl)
 obtain ⟨_,e1,D1,q1⟩:=bQ (T:=tab) X G h1 (by kernel_rfl)
 obtain ⟨_,e2,D2,q2⟩:=bQ (T:=tab) X G h2 (by kernel_rfl)
 obtain ⟨_,e3,D3,q3⟩:=bQ (T:=tab) X G h3 (by kernel_rfl)
 obtain ⟨_,e4,D4,q4⟩:=bQ (T:=tab) X G h4 (by kernel_rfl)
 obtain ⟨_,e5,D5,q5⟩:=bQ (T:=tab) X G h5 (by kernel_rfl)
 obtain ⟨_,e6,D6,q6⟩:=bQ (T:=tab) X G h6 (by kernel_rfl)
 obtain ⟨_,e7,D7,q7⟩:=bQ (T:=tab) X G h7 (by kernel_rfl)
 obtain ⟨_,e8,D8,q8⟩:=bQ (T:=tab) X G h8 (by kernel_rfl)
 obtain ⟨_,e9,D9,q9⟩:=bQ (T:=tab) X G h9 (by kernel_rfl)
 obtain ⟨_,e10,D10,q10⟩:=bQ (T:=tab) X G h10 (by kernel_rfl)
 obtain ⟨_,e11,D11,q11⟩:=bQ (T:=tab) X G h11 (by kernel_rfl)
 obtain ⟨_,e12,D12,q12⟩:=bQ (T:=tab) X G h12 (by kernel_rfl)
 obtain ⟨_,e13,D13,q13⟩:=bQ (T:=tab) X G h13 (by kernel_rfl)
 obtain ⟨_,e14,D14,q14⟩:=bQ (T:=tab) X G h14 (by kernel_rfl)
 obtain ⟨_,e15,D15,q15⟩:=bQ (T:=tab) X G h15 (by kernel_rfl)
 obtain ⟨_,e16,D16,q16⟩:=bQ (T:=tab) X G h16 (by kernel_rfl)
 cases hfa.symm.trans D16.named
 have pr:yg tab K mg defs:=by
  refine ⟨rfl,⟨⟨_,_,_,D0,_,D0.binds,.nil⟩,⟨_,_,_,D1,_,D1.binds,.nil⟩,⟨_,_,_,D2,_,D2.binds,.nil⟩,⟨_,_,_,D3,_,D3.binds,.nil⟩,⟨_,_,_,D4,_,D4.binds,.nil⟩,⟨_,_,_,D5,_,D5.binds,.nil⟩,⟨_,_,_,D6,_,D6.binds,.nil⟩,⟨_,_,_,D7,_,D7.binds,.nil⟩,⟨_,_,_,D8,_,D8.binds,.nil⟩,⟨_,_,_,D9,_,D9.binds,.nil⟩,⟨_,_,_,D10,_,D10.binds,.nil⟩,⟨_,_,_,D11,_,D11.binds,.nil⟩,⟨_,_,_,D12,_,D12.binds,.nil⟩,⟨_,_,_,D13,_,D13.binds,.nil⟩,⟨_,_,_,D14,_,D14.binds,.nil⟩,⟨_,_,_,D15,_,D15.binds,.nil⟩,⟨_,_,_,D16,_,D16.binds,.nil⟩,trivial⟩,λx hx=>PySem.W.mg_none_of X G (zs x hx),λp hp=>?_,er,λc u e=>yh X G e⟩
  ·simp only [tab,List.mem_cons,List.not_mem_nil,or_false] at hp
   rcases hp with rfl
   ·exact ⟨_,PySem.W.mg_of X G g0,r0⟩
 exact ⟨e16,q16,λbase _ _=>Ae (by decide) pr 40 16 pL rfl _ _ _ D16⟩
theorem Bz {l:PySem.W.OpenLaw}{q:Program}{loose:List Str}{XP:(Str->Option Value)->Heap->Prop}{YP:World->Heap->Prop}{d:DefRec}{K:Params->PySem.W.Frag} (hn:l.most=some 63) (hdf:d.params.defaults=[])
  (hY:∀ (w:World) (h:Heap),YP w h->(K w.params).In h)
  (F:∀ (w:World) (mg:Str->Option Value) (fa:Addr) (h:Heap),(K w.params).In h->h.Ns mainGlobals mg->mg d.name=some (.ref fa) ->
   ∃ fd:FuncData,(∀ (s:Shared) (u:Value),BindsTo s fd ⟨[u],[]⟩ [("script",u)])/\∀ base:Heap,(K w.params).In base->base.Ns mainGlobals mg->eT l.prog w (K w.params) mg base CX0 40 fa fd ["script"] (spM (K w.params) (af defs 40) 16)) :
  PySem.W.WalkO q loose XP YP l.row.toRowW d [] (λf vs=>PySem.call f vs) :=
 L2.uJ (n:=63) (k:=40) (x:="script") (CX:=λ_=>CX0) (sp:=λw=>spM (K w.params) (af defs 40) 16) hn (by decide) hdf ⟨rfl,by decide,by decide⟩ hY F (λ_ _ a ns hl _ hS=>yi (t_ ns hl) hS) λ_ _ _ _ _ z=>z
end My
open PySem PySem.W PyProof.Rows
set_option maxRecDepth 100000 in
set_option maxHeartbeats 0 in
theorem PySem.Challenge.cw_mothloom_k10_joined_and_apart_holds : PySem.Challenge.rw_mothloom_k10_joined_and_apart.Holds := by
 w_on;o_law;k_head;(case hw=>w_witness2)
 k_fill
 refine My.Bz (l:=PySem.Challenge.rw_mothloom_k10_joined_and_apart) rfl rfl (λw h Y=>PySem.W.kIn_of Y) ?F
 case F =>
  intro w mg fa h KX G hmg
  refine' My.yJ KX G hmg ?h0 ?h1 ?h2 ?h3 ?h4 ?h5 ?h6 ?h7 ?h8 ?h9 ?h10 ?h11 ?h12 ?h13 ?h14 ?h15 ?h16 ?er ?zs ?gq0 ?rq0
  (case er=>kernel_rfl)
  (case h0|h1|h2|h3|h4|h5|h9|h10|h11|h13|h14|h15=>refine' ⟨rfl,_,_,?ka,.mk' (d0:=.none) ?kl ?kc ?kk,MM.bn1 λ_=>rfl,trivial⟩;(case ka=>k_is);(case kl=>k_is);(case kc=>k_is);(case kk=>k_is))
  (case h6|h7|h12=>refine' ⟨rfl,_,_,?ka,.mk' (d0:=.none) ?kl ?kc ?kk,MM.bn2 λ_ _=>rfl,trivial⟩;(case ka=>k_is);(case kl=>k_is);(case kc=>k_is);(case kk=>k_is))
  (case h8=>refine' ⟨rfl,_,_,?ka,.mk' (d0:=.none) ?kl ?kc ?kk,MM.bn3 λ_ _ _=>rfl,trivial⟩;(case ka=>k_is);(case kl=>k_is);(case kc=>k_is);(case kk=>k_is))
  (case h16=>refine' ⟨rfl,_,_,?ka,.mk' (d0:=.none) ?kl ?kc ?kk,MM.bn1 λ_=>rfl,λs v=>.of_eq rfl⟩;(case ka=>k_is);(case kl=>k_is);(case kc=>k_is);(case kk=>k_is))
  (case zs=>intro x hx;simp only [MM.fD,List.mem_cons,List.not_mem_nil,or_false] at hx;rcases hx with rfl|rfl|rfl|rfl|rfl|rfl|rfl|rfl|rfl|rfl|rfl|rfl|rfl|rfl|rfl|rfl|rfl <;> k_is)
  (case gq0=>k_is);(case rq0=>exact ⟨_,rfl⟩)
