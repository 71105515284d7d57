import PyProof.Rows.All
import Wide.All
import OpenK.AllK
import Wide.FinOn
import Lean
import PyProof.EqAt
import PyProof.EqKinds
import PyProof.TupleCall
import PySem.Challenge.RW_mothloom_k46_deeds_taken_back
set_option Elab.async false
set_option linter.all false
set_option maxRecDepth 100000
set_option genSizeOf false
set_option backward.eqns.nonrecursive false
set_option bootstrap.genMatcherCode false
namespace L2
open PySem PySem.Spec PyProof.Rows
noncomputable abbrev Key:=Sum Int Str
noncomputable def jY:Key->Value->Bool
 | .inl k,v=>Value.isInt k v
 | .inr x,v=>Value.isStrOf x v
noncomputable def Cg (w:World):Key->Int
 | .inl k=>hashInt k
 | .inr x=>hashStr w x
theorem bg:∀ {k:Key}{v:Value},jY k v=true->(∃ i t,k=Sum.inl i/\v=Value.int i t) \/ (∃ x t,k=Sum.inr x/\v=Value.str x t)
 | .inl i,v,h=>by
  obtain ⟨t,e⟩:=Value.isInt_shape (k:=i) (v:=v) h
  exact .inl ⟨i,t,rfl,e⟩
 | .inr x,v,h=>by
  obtain ⟨t,e⟩:=Value.isStrOf_shape (x:=x) (v:=v) h
  exact .inr ⟨x,t,rfl,e⟩
theorem pP (i:Int) (t:Tok):jY (.inl i) (.int i t)=true:=by simp [jY,Value.isInt]
theorem pQ (x:Str) (t:Tok):jY (.inr x) (.str x t)=true:=by simp [jY,Value.isStrOf]
theorem xP (a b:Int):decide ((Sum.inl a:Key)=Sum.inl b)=(a == b):=by
 by_cases e:a=b
 ·subst e;simp
 ·have h:¬ (Sum.inl a:Key)=Sum.inl b:=λq=>e (Sum.inl.inj q)
  rw [decide_eq_false h]
  exact (beq_eq_false_iff_ne.mpr e).symm
theorem xQ (a b:Str):decide ((Sum.inr a:Key)=Sum.inr b)=decide (a=b):=by
 by_cases e:a=b
 ·subst e;simp
 ·have h:¬ (Sum.inr a:Key)=Sum.inr b:=λq=>e (Sum.inr.inj q)
  rw [decide_eq_false h,decide_eq_false e]
theorem xR (a:Int) (b:Str):decide ((Sum.inl a:Key)=Sum.inr b)=false:=decide_eq_false (λq=>nomatch q)
theorem xS (a:Str) (b:Int):decide ((Sum.inr a:Key)=Sum.inl b)=false:=decide_eq_false (λq=>nomatch q)
noncomputable def bB (prog:Program) (w:World):PySem.KeyKind prog w Key where
 is:=jY
 hash:=Cg w
 inj:=λv a b ha hb=>by
  rcases bg ha with ⟨i,t,rfl,rfl⟩|⟨x,t,rfl,rfl⟩
  ·rcases bg hb with ⟨j,u,rfl,e⟩|⟨y,u,rfl,e⟩
   ·injection e with e1 _;rw [e1]
   ·exact nomatch e
  ·rcases bg hb with ⟨j,u,rfl,e⟩|⟨y,u,rfl,e⟩
   ·exact nomatch e
   ·injection e with e1 _;rw [e1]
 byValue:=λk v h=>by
  rcases bg h with ⟨i,t,rfl,rfl⟩|⟨x,t,rfl,rfl⟩ <;> rfl
 pyHash:=λhv h=>by
  rcases bg hv with ⟨i,t,rfl,rfl⟩|⟨x,t,rfl,rfl⟩
  ·exact wpAny_pyHash_int h
  ·exact wpAny_pyHash_str h
 eqBool:=λhu hv h=>by
  rcases bg hu with ⟨i,t,rfl,rfl⟩|⟨x,t,rfl,rfl⟩
  ·rcases bg hv with ⟨j,u,rfl,rfl⟩|⟨y,u,rfl,rfl⟩
   ·rw [xP] at h;exact wpAny_eqBool_int h
   ·rw [xR] at h;exact SeqAt.EqAt.int_str i t y u _ _ _ _ h
  ·rcases bg hv with ⟨j,u,rfl,rfl⟩|⟨y,u,rfl,rfl⟩
   ·rw [xS] at h;exact SeqAt.EqAt.str_int x t j u _ _ _ _ h
   ·rw [xQ] at h;exact wpAny_eqBool_str h
 «strs»:=λk x t v h=>by
  rcases bg h with ⟨i,u,rfl,e⟩|⟨y,u,rfl,e⟩
  ·exact nomatch e
  ·injection e with e1 _
   subst e1
   cases v <;> rfl
theorem lW (prog:Program) (w:World) (i:Int) (t:Tok):(bB prog w).is (.inl i) (.int i t)=true:=pP i t
theorem lX (prog:Program) (w:World) (x:Str) (t:Tok):(bB prog w).is (.inr x) (.str x t)=true:=pQ x t
end L2
namespace L2
open PySem PySem.Spec PyProof.Rows
inductive V where
 | non|bl (b:Bool)|int (i:Int)|str (x:Str)|byt (b:Array UInt8)|flt (b:UInt64)|ref (a:Addr)|ty (n:String)
 deriving DecidableEq
noncomputable def aw:V->Value->Prop
 | .non,u=>u=Value.none
 | .bl b,u=>u=Value.bool b
 | .int i,u=>∃ t,u=Value.int i t
 | .str x,u=>∃ t,u=Value.str x t
 | .byt b,u=>∃ t,u=Value.bytes b t
 | .flt b,u=>∃ t,u=Value.float b t
 | .ref a,u=>u=Value.ref a
 | .ty n,u=>u=Value.type n
noncomputable abbrev ar:List V->List Value->Prop:=Paired aw
theorem ar.length {xs:List V}{us:List Value} (r:ar xs us):xs.length=us.length:=Paired.length r
theorem ar.get:∀ {xs:List V}{us:List Value}{i:Nat}{x:V},ar xs us->xs[i]?=some x->∃ u,us[i]?=some u/\aw x u
 | _,_,_,_,.nil,e=>by simp at e
 | _,_,0,_,.cons r _,e=>by simp at e;subst e;exact ⟨_,rfl,r⟩
 | _,_,i + 1,x,.cons _ t,e=>by
  obtain ⟨u,h1,h2⟩:=ar.get (i:=i) (x:=x) t (by simpa using e)
  exact ⟨u,by simpa using h1,h2⟩
theorem ar.set {x:V}{u:Value} (r:aw x u):∀ {xs:List V}{us:List Value} (i:Nat),ar xs us->ar (xs.set i x) (us.set i u)
 | _,_,_,.nil=>.nil
 | _,_,0,.cons _ t=>.cons r t
 | _,_,i + 1,.cons q t=>.cons q (ar.set r i t)
theorem ar.append:∀ {xs ys:List V}{us ws:List Value},ar xs us->ar ys ws->ar (xs ++ ys) (us ++ ws)
 | _,_,_,_,.nil,s=>s
 | _,_,_,_,.cons r t,s=>.cons r (ar.append t s)
theorem ar.take:∀ {xs:List V}{us:List Value} (n:Nat),ar xs us->ar (xs.take n) (us.take n)
 | _,_,0,_=>.nil
 | _,_,_ + 1,.nil=>.nil
 | _,_,n + 1,.cons r t=>.cons r (ar.take n t)
theorem ar.drop:∀ {xs:List V}{us:List Value} (n:Nat),ar xs us->ar (xs.drop n) (us.drop n)
 | _,_,0,r=>r
 | _,_,_ + 1,.nil=>.nil
 | _,_,n + 1,.cons _ t=>ar.drop n t
noncomputable def fk:Option V->Option Value->Prop
 | some v,some u=>aw v u
 | none,none=>True
 | _,_=>False
noncomputable def KV {κ:Type}:List (κ × V)->List (κ × Value)->Prop:=Paired λ(p:κ × V) (q:κ × Value)=>p.1=q.1/\aw p.2 q.2
noncomputable def kV:Key->V
 | .inl i=>.int i
 | .inr x=>.str x
inductive HO where
 | lst (xs:List V)
 | tup (xs:List V)
 | dK (kvs:List (Key × V))|dT (kvs:List (List Key × V))
 | set (S:Int->Bool) (n:Nat)
 | ins (C dx:Addr) (fs:List (Str × V))
 | own (x:Addr)
 | xd (fs:List (Str × V))
 | met (f x:Addr)
 | rng (lo hi:Int)
 | frz (o:Obj) (u:HO)
 | tbl (ps:Array Value)
 | ext (φ:Heap->Prop)
noncomputable abbrev Hp:=Addr->Option HO
noncomputable def upd (H:Hp) (a:Addr) (o:HO):Hp:=λb=>if b=a then some o else H b
theorem av {H:Hp}{a:Addr}{o:HO}:upd H a o a=some o:=by unfold upd;rw [if_pos rfl]
theorem ak {H:Hp}{a b:Addr}{o:HO} (h:b ≠ a):upd H a o b=H b:=by unfold upd;rw [if_neg h]
theorem Al {H:Hp}{a b:Addr}{o u:HO} (h:H a=some o) (h':H b=some u) (d:o ≠ u):a ≠ b:=by
 intro e;subst e;rw [h] at h';exact d (Option.some.inj h')
theorem aX {H:Hp}{a b:Addr}{o:HO} (h:H a=some o) (h':H b=none):a ≠ b:=by
 intro e;subst e;rw [h] at h';cases h'
section
variable (P:Program) (w:World)
noncomputable def bw (H:Hp) (h:Heap) (a:Addr):HO->Prop
 | .lst xs=>xs.length <= sizeLine/\∃ (its:List Value) (n:Nat),ar xs its/\h.get? a=some { cls:=.type "list",data:=.seq its.toArray n }
 | .tup xs=>xs.length <= sizeLine/\∃ its:List Value,ar xs its/\IsTup h a its.toArray
 | .dK kvs=>kvs.length <= sizeLine/\(a == sysModules)=false/\∃ vs,KV kvs vs/\h.DictOf (bB P w) a vs
 | .dT kvs=>kvs.length <= sizeLine/\(a == sysModules)=false/\∃ xs:List (List Key × Addr × Value),
   Paired (λ(p:List Key × V) (q:List Key × Addr × Value)=>p.1=q.1/\H q.2.1=some (.tup (p.1.map kV))/\aw p.2 q.2.2) kvs xs /\
   ∃ o es ep,h.get? a=some o/\o.ExactDict/\o.data=.dict es ep/\es.toList=xs.map (entryOfKey (tupleKind (bB P w)))/\(xs.map (·.1)).Nodup
 | .set S n=>h.SetOf (intKind P w) a S n
 | .ins C dx fs=>H dx=some (.own a)/\fs.length <= 1000/\dx ≠ a/\h.get? a=some (PySem.W.instObj C dx) /\
   ∃ mA,h.Ns1 dx mA/\(∀ f,fk (fs.lookup f) (mA f))/\PySem.Within mA (fs.map (·.1))
 | .own _=>∃ o,h.get? a=some o
 | .xd fs=>∃ mA,h.Ns1 a mA/\∀ f,fk (fs.lookup f) (mA f)
 | .rng lo hi=>∃ t u v,h.get? a=some { cls:=.type "range",data:=.fields #[.int lo t,.int hi u,.int 1 v] }
 | .frz o u=>h.get? a=some o/\bw H h a u
 | .tbl ps=>h.get? a=some { cls:=.none,data:=.fields ps }
 | .met f x=>h.get? a=some (PySem.W.methodObj (.ref f) (.ref x))
 | .ext φ=>φ h/\(∃ o,h.get? a=some o)/\∀ h1 h2:Heap,φ h1->(∀ o,h1.get? a=some o->h2.get? a=some o)->φ h2
noncomputable def HOk (H:Hp) (h:Heap):Prop:=∀ a o,H a=some o->bw P w H h a o
end
section
variable {P:Program}{w:World}{H H':Hp}{h h':Heap}{a:Addr}{o:HO}
theorem bw.lt (x:bw P w H h a o):a < h.objs.size:=by
 cases o with
 | lst xs=>obtain ⟨_,_,_,_,e⟩:=x;exact Heap.lt_size e
 | tup xs=>obtain ⟨_,_,_,p⟩:=x;exact p.lt
 | dK kvs=>obtain ⟨_,_,_,_,o,_,_,e,_⟩:=x;exact Heap.lt_size e
 | dT kvs=>obtain ⟨_,_,_,_,o,_,_,e,_⟩:=x;exact Heap.lt_size e
 | set S n=>obtain ⟨o,_,_,_,e,_⟩:=x;exact Heap.lt_size e
 | ins C dx fs=>obtain ⟨_,_,_,e,_⟩:=x;exact Heap.lt_size e
 | own y=>obtain ⟨_,e⟩:=x;exact Heap.lt_size e
 | xd fs=>obtain ⟨_,⟨_,_,_,e,_⟩,_⟩:=x;exact Heap.lt_size e
 | rng lo hi=>obtain ⟨_,_,_,e⟩:=x;exact Heap.lt_size e
 | frz ob u=>obtain ⟨e,_⟩:=x;exact Heap.lt_size e
 | tbl ps=>exact Heap.lt_size (show h.get? a=some _ from x)
 | met f y=>exact Heap.lt_size (show h.get? a=some _ from x)
 | ext φ=>obtain ⟨_,⟨_,e⟩,_⟩:=x;exact Heap.lt_size e
theorem Paired.mapP {α β:Type}{F G:α->β->Prop}:∀ {l₁:List α}{l₂:List β},Paired F l₁ l₂->(∀ a b,F a b->G a b)->Paired G l₁ l₂
 | _,_,.nil,_=>.nil
 | _,_,.cons r t,f=>.cons (f _ _ r) (Paired.mapP t f)
theorem bw.stay (x:bw P w H h a o) (k:∀ b u,(b=a \/ H b=some (.own a))->h.get? b=some u->h'.get? b=some u)
  (ho:∀ b,H b=some (.own a)->H' b=some (.own a)) (ht:∀ b xs,H b=some (.tup xs)->H' b=some (.tup xs)):bw P w H' h' a o:=by
 induction o with
 | lst xs=>obtain ⟨z,its,n,r,e⟩:=x;exact ⟨z,its,n,r,k _ _ (.inl rfl) e⟩
 | tup xs=>obtain ⟨z,its,r,ob,e,c⟩:=x;exact ⟨z,its,r,ob,k _ _ (.inl rfl) e,c⟩
 | dK kvs=>obtain ⟨z,y,vs,r,ob,es,ep,e,c⟩:=x;exact ⟨z,y,vs,r,ob,es,ep,k _ _ (.inl rfl) e,c⟩
 | dT kvs =>
  obtain ⟨z,y,xs,r,ob,es,ep,e,c⟩:=x
  exact ⟨z,y,xs,Paired.mapP r λp q z=>⟨z.1,ht _ _ z.2.1,z.2.2⟩,ob,es,ep,k _ _ (.inl rfl) e,c⟩
 | set S n=>obtain ⟨ob,es,ep,t,e,c⟩:=x;exact ⟨ob,es,ep,t,k _ _ (.inl rfl) e,c⟩
 | ins C dx fs =>
  obtain ⟨d,z,ne,e,mA,⟨od,es,ep,e2,c⟩,r⟩:=x
  exact ⟨ho _ d,z,ne,k _ _ (.inl rfl) e,mA,⟨od,es,ep,k _ _ (.inr d) e2,c⟩,r⟩
 | own y=>obtain ⟨ob,e⟩:=x;exact ⟨ob,k _ _ (.inl rfl) e⟩
 | xd fs=>obtain ⟨mA,⟨od,es,ep,e,c⟩,r⟩:=x;exact ⟨mA,⟨od,es,ep,k _ _ (.inl rfl) e,c⟩,r⟩
 | rng lo hi=>obtain ⟨t,u,v,e⟩:=x;exact ⟨t,u,v,k _ _ (.inl rfl) e⟩
 | frz ob u ih=>obtain ⟨e,q⟩:=x;exact ⟨k _ _ (.inl rfl) e,ih q⟩
 | tbl ps =>
  have e:h.get? a=some { cls:=.none,data:=.fields ps }:=x
  show h'.get? a=some { cls:=.none,data:=.fields ps }
  exact k a _ (.inl rfl) e
 | met f y =>
  have e:h.get? a=some (PySem.W.methodObj (.ref f) (.ref y)):=x
  show h'.get? a=some (PySem.W.methodObj (.ref f) (.ref y))
  exact k a _ (.inl rfl) e
 | ext φ=>obtain ⟨p,⟨o,e⟩,st⟩:=x;exact ⟨st _ _ p λo q=>k _ _ (.inl rfl) q,⟨o,k _ _ (.inl rfl) e⟩,st⟩
theorem HOk.lt (x:HOk P w H h) (e:H a=some o):a < h.objs.size:=(x a o e).lt
theorem HOk.fresh (x:HOk P w H h) (e:h.objs.size <= a):H a=none:=by
 cases q:H a with
 | none=>rfl
 | some u=>exact absurd (Nat.lt_of_lt_of_le (x.lt q) e) (Nat.lt_irrefl _)
theorem HOk.kept (x:HOk P w H h) (k:∀ b u,h.get? b=some u->h'.get? b=some u):HOk P w H h':=λa o e =>
 (x a o e).stay (λb u _ q=>k b u q) (λ_ q=>q) λ_ _ q=>q
theorem HOk.laid (x:HOk P w H h) (k:∀ b u,h.get? b=some u->h'.get? b=some u) (hp:h.objs.size <= a) (new:bw P w (upd H a o) h' a o):HOk P w (upd H a o) h':=λb u e=>by
 have hn:=x.fresh hp
 by_cases hb:b=a
 ·subst hb;rw [av] at e;cases e;exact new
 ·rw [ak hb] at e
  exact (x b u e).stay (λc v _ q=>k c v q) (λc q=>by rw [ak (aX q hn)];exact q) λc xs q=>by rw [ak (aX q hn)];exact q
end
noncomputable def Rd (H:Hp) (a:Addr) (u:HO):Prop:=H a=some u \/ ∃ o,H a=some (.frz o u)
theorem Rd.ok {P:Program}{w:World}{H:Hp}{h:Heap}{a:Addr}{u:HO} (r:Rd H a u) (x:HOk P w H h):bw P w H h a u:=by
 rcases r with r|⟨o,r⟩
 ·exact x a u r
 ·obtain ⟨_,q⟩:=x a _ r
  exact q
noncomputable def Mut:Option HO->Prop
 | some (.lst _)=>True
 | some (.dK _)=>True
 | some (.dT _)=>True
 | some (.set _ _)=>True
 | some (.ins _ _ _)=>True
 | some (.ext _)=>True
 | _=>False
section
variable {P:Program}{w:World}{H:Hp}{h h':Heap}{x e:Addr}{o':HO}
theorem HOk.write (ok:HOk P w H h) (mu:Mut (H x)) (he:e=x \/ H e=some (.own x)) (k:∀ b u,b ≠ e->h.get? b=some u->h'.get? b=some u) (heo:∃ u,h'.get? e=some u)
  (new:bw P w (upd H x o') h' x o'):HOk P w (upd H x o') h':=λb u q=>by
 have nown:∀ c y,H c=some (.own y)->c ≠ x:=λc y r z=>by subst z;rw [r] at mu;exact mu
 have ntup:∀ c xs,H c=some (.tup xs)->c ≠ x:=λc xs r z=>by subst z;rw [r] at mu;exact mu
 by_cases hb:b=x
 ·subst hb;rw [av] at q;cases q;exact new
 ·rw [ak hb] at q
  by_cases hbe:b=e
  ·have q':H b=some (.own x):=by
    rcases he with z|z
    ·exact absurd (hbe.trans z) hb
    ·rw [hbe];exact z
   rw [q] at q';cases q'
   obtain ⟨v,hv⟩:=heo
   exact ⟨v,by rw [hbe];exact hv⟩
  ·refine (ok b u q).stay (λc v hc r=>k c v ?_ r) (λc r=>by rw [ak (nown c b r)];exact r) λc xs r=>by rw [ak (ntup c xs r)];exact r
   rcases hc with rfl|hc
   ·exact hbe
   ·rintro rfl
    rcases he with z|z
    ·exact nown c b hc z
    ·rw [hc] at z;cases z;exact hb rfl
end
structure Un (fs ex:List Addr) (H H':Hp) (h h':Heap):Prop where
 keep:∀ b o,h.get? b=some o->H b=none->b ∉ fs->b ∉ ex->h'.get? b=some o
 slot:∀ b o,h.get? b=some o->H b=none->b ∈ fs->b ∉ ex->∃ sl,h'.get? b=some { o with slots:=sl }
 free:∀ b o,h.get? b=some o->H b=none->b ∉ ex->H' b=none
 there:∀ b o,h.get? b=some o->b ∉ ex->∃ o',h'.get? b=some o'
 tups:∀ b xs,H b=some (.tup xs)->H' b=some (.tup xs)
 frzs:∀ b o u,H b=some (.frz o u)->H' b=some (.frz o u)
 tbls:∀ b ps,H b=some (.tbl ps)->∃ more,H' b=some (.tbl (ps ++ more))
section
variable {fs fs' ex ex':List Addr}{H H1 H2:Hp}{h h1 h2 h':Heap}{a x e:Addr}{o:HO}
theorem Un.any (u:Un fs ex H H1 h h1) {b:Addr}{ob:Obj} (q:h.get? b=some ob) (n:H b=none) (hx:b ∉ ex):∃ sl,h1.get? b=some { ob with slots:=sl }:=by
 by_cases hb:b ∈ fs
 ·exact u.slot b ob q n hb hx
 ·exact ⟨ob.slots,u.keep b ob q n hb hx⟩
theorem Un.kept (k:∀ b u,h.get? b=some u->h'.get? b=some u):Un fs ex H H h h' :=
 ⟨λb ob q _ _ _=>k b ob q,λb ob q _ _ _=>⟨ob.slots,k b ob q⟩,λ_ _ _ n _=>n,λb ob q _=>⟨ob,k b ob q⟩,λ_ _ q=>q,λ_ _ _ q=>q,λ_ ps q=>⟨#[],by rw [q];simp⟩⟩
theorem Un.refl:Un fs ex H H h h:=Un.kept λ_ _ q=>q
theorem Un.laid (k:∀ b u,h.get? b=some u->h'.get? b=some u) (hp:h.objs.size <= a) (hn:H a=none):Un fs ex H (upd H a o) h h' where
 keep:=λb u q _ _ _=>k b u q
 slot:=λb u q _ _ _=>⟨u.slots,k b u q⟩
 free:=λb u q n _=>by rw [ak (Nat.ne_of_lt (Nat.lt_of_lt_of_le (Heap.lt_size q) hp))];exact n
 there:=λb u q _=>⟨u,k b u q⟩
 tups:=λb xs q=>by rw [ak (aX q hn)];exact q
 frzs:=λb u xs q=>by rw [ak (aX q hn)];exact q
 tbls:=λb ps q=>⟨#[],by rw [ak (aX q hn),q];simp⟩
theorem Un.write (mu:Mut (H x)) (he:e=x \/ H e=some (.own x)) (k:∀ b u,b ≠ e->h.get? b=some u->h'.get? b=some u) (heo:∃ u,h'.get? e=some u):Un fs ex H (upd H x o) h h':=by
 have hx:∀ b,H b=none->b ≠ x:=λb n z=>by subst z;rw [n] at mu;exact mu
 have hb:∀ b,H b=none->b ≠ e:=λb n z=>by
  subst z
  rcases he with r|r
  ·exact hx b n r
  ·rw [n] at r;cases r
 have hm:∀ b u,H b=some u->¬ Mut (some u)->b ≠ x:=λb u q nm z=>by subst z;rw [q] at mu;exact nm mu
 refine ⟨λb u q n _ _=>k b u (hb b n) q,λb u q n _ _=>⟨u.slots,k b u (hb b n) q⟩,λb u q n _=>by rw [ak (hx b n)];exact n,λb u q _=>?_,
  λb xs q=>by rw [ak (hm b _ q λz=>z)];exact q,λb u xs q=>by rw [ak (hm b _ q λz=>z)];exact q,λb ps q=>⟨#[],by rw [ak (hm b _ q λz=>z),q];simp⟩⟩
 by_cases hbe:b=e
 ·subst hbe;exact heo
 ·exact ⟨u,k b u hbe q⟩
end
noncomputable def trk (h:Heap) (H:Hp):List Addr:=(List.range h.objs.size).filter λa=>(H a).isSome
noncomputable def kY (h:Heap) (H:Hp):Heap:=PySem.W.hideAll h (trk h H)
theorem pR (h:Heap) (H:Hp):(kY h H).objs.size=h.objs.size:=PySem.W.hideAll_size _ _
theorem qU {h:Heap}{H:Hp}{b:Addr}{o:Obj} (e:h.get? b=some o) (n:H b=none):(kY h H).get? b=some o :=
 PySem.W.hideAll_get _ e λhm=>by
  have q:(H b).isSome=true:=(List.mem_filter.mp hm).2
  rw [n] at q;simp at q
theorem vc {h:Heap}{H:Hp}{b:Addr}{o:Obj} (e:(kY h H).get? b=some o):h.get? b=some o/\H b=none:=by
 have e':h.get? b=some o:=PySem.W.of_hideAll (trk h H) e
 refine ⟨e',?_⟩
 cases q:H b with
 | none=>rfl
 | some x =>
  have hm:b ∈ trk h H:=List.mem_filter.mpr ⟨List.mem_range.mpr (Heap.lt_size e'),by simp [q]⟩
  have z:(kY h H).get? b=none:=PySem.W.hideAll_none (trk h H) hm
  rw [z] at e;cases e
noncomputable def vd (g h:Heap) (L:Addr):List (Addr × Obj):=(List.range h.objs.size).filterMap λa=>if a=L \/ (g.get? a).isSome=true then none else (h.get? a).map λo=>(a,o)
noncomputable def cu (g h:Heap) (L d:Addr):List (Addr × Obj):=(vd g h L).filter λp=>decide (p.1 ≠ d)
end L2
namespace L2
open PySem PySem.Spec PyProof.Rows
structure Mod (K:PySem.W.Frag) (mg:Str->Option Value) (base:Heap):Prop where
 kin:K.In base
 glob:base.Ns mainGlobals mg
 blt:∃ mb,base.Ns builtinsNs mb/\∀ x:Str,x ≠ "__name__"->mb x=bootBuiltins x
 nolimit:base.NoLimit
structure Cx where
 prog:Program
 w:World
 K:PySem.W.Frag
 mg:Str->Option Value
 base:Heap
 A:Around
 N:List Str
 s₀:Shared
 H₀:Hp
 env:Env
 outer:List Env
 stack:List Env
 ex:List Addr
 fn:Str->Bool
 calm:Bool
 pn:List (Addr × Obj)
 xe:Value->Shared->Prop
noncomputable def frs (l:List Env):List Addr:=l.filterMap (·.frame)
noncomputable abbrev Cx.fs (X:Cx):List Addr:=frs X.outer
noncomputable def Vis (sc:Scope) (x:Str):Prop:=sc.names.lookup x=some .local \/ sc.names.lookup x=some .cell \/ sc.names.lookup x=some .free
noncomputable def Loc (sc:Scope) (x:Str):Prop:=sc.names.lookup x=some .local \/ sc.names.lookup x=some .cell
noncomputable def Ch (env:Env) (h:Heap) (m:Str->Option Value) (x:Str) (u:Value):Prop :=
 (env.kindOf x=some .local/\m x=some u) \/ ((env.kindOf x=some .cell \/ env.kindOf x=some .free)/\∃ c,env.cells.lookup x=some c/\h.IsCell c (some u))
structure Cx.Ok (X:Cx):Prop where
 mod:Mod X.K X.mg X.base
 kind:X.env.scope.kind=.function
 glob:X.env.globals=mainGlobals
 blt:X.env.builtins=builtinsNs
 above:X.s₀.heap.objs.size <= X.env.locals
 inj:∀ x y c,X.env.cells.lookup x=some c->X.env.cells.lookup y=some c->x=y
 has:∀ x,(X.env.kindOf x=some .cell \/ X.env.kindOf x=some .free)->∃ c,X.env.cells.lookup x=some c
 cab:∀ x c,X.fn x=true->X.env.cells.lookup x=some c->X.s₀.heap.objs.size <= c
 hd:X.calm=true->X.A.handled=none
 frames:X.A.frames=some X.stack
 stk:X.stack=X.outer \/ (X.stack=X.env::X.outer/\X.env.frame=some X.env.locals)
 exf:∀ b ∈ X.ex,b ≠ X.env.locals/\∀ x c,X.env.cells.lookup x=some c->c ≠ b
 bs:∀ b o,X.base.get? b=some o->X.s₀.heap.get? b=some o/\X.H₀ b=none
 bsz:X.base.objs.size <= X.s₀.heap.objs.size
 noex:∀ b o,X.base.get? b=some o->b ∉ X.ex
 exfs:∀ b ∈ X.ex,b ∉ X.fs
 funs:X.s₀.heap.FunFrames X.base X.outer
 frf:∀ b ∈ X.fs,X.H₀ b=none
structure Inv (X:Cx) (pins:List (Addr × Obj)) (σ:List (Option V)) (H:Hp) (s:Shared):Prop where
 ok:X.Ok
 os:s.os=X.s₀.os
 bare:AllBare s.gens
 base:Un X.fs X.ex X.H₀ H X.s₀.heap s.heap
 loc:∃ m,s.heap.Ns X.env.locals m/\∀ (i:Nat) (x:Str) (v:V),X.N[i]?=some x->σ[i]?=some (some v)->Vis X.env.scope x->∃ u,aw v u/\Ch X.env s.heap m x u
 cell:∀ x c,X.env.cells.lookup x=some c->∃ v,s.heap.IsCell c v
 free:H X.env.locals=none
 freeC:∀ x c,X.env.cells.lookup x=some c->H c=none
 pin:∀ p ∈ X.pn ++ pins,s.heap.get? p.1=some p.2/\H p.1=none/\p.1 ≠ X.env.locals/\p.1 ∉ X.fs/\∀ v,p.2.data ≠ .cell v
 hok:HOk X.prog X.w H s.heap
 len:σ.length=X.N.length
section
variable {X:Cx}{pins:List (Addr × Obj)}{σ:List (Option V)}{H H':Hp}{s:Shared}{h':Heap}
theorem Cx.Ok.nofr (ok:X.Ok) {b:Addr}{o:Obj} (e:X.base.get? b=some o):b ∉ X.fs:=λhb=>by
 have:=(ok.funs.mem hb).1
 rw [e] at this;cases this
theorem Inv.bs (I:Inv X pins σ H s):∀ b o,X.base.get? b=some o->s.heap.get? b=some o/\H b=none:=λb o e =>
 ⟨I.base.keep b o (I.ok.bs b o e).1 (I.ok.bs b o e).2 (I.ok.nofr e) (I.ok.noex b o e),I.base.free b o (I.ok.bs b o e).1 (I.ok.bs b o e).2 (I.ok.noex b o e)⟩
theorem Inv.bk (I:Inv X pins σ H s):∀ b o,X.base.get? b=some o->s.heap.get? b=some o:=λb o e=>(I.bs b o e).1
theorem Inv.mod (I:Inv X pins σ H s):Mod X.K X.mg X.base:=I.ok.mod
theorem Inv.kIn (I:Inv X pins σ H s):X.K.In s.heap:=I.ok.mod.kin.keeps I.bk
theorem Inv.lt (I:Inv X pins σ H s):X.env.locals < s.heap.objs.size:=let ⟨_,hn,_⟩:=I.loc;hn.lt
theorem Inv.sz (I:Inv X pins σ H s):X.s₀.heap.objs.size <= s.heap.objs.size:=Nat.le_trans I.ok.above (Nat.le_of_lt I.lt)
theorem Inv.nofs (I:Inv X pins σ H s) {a:Addr} (h:s.heap.objs.size <= a):a ∉ X.fs:=λhb=>by
 obtain ⟨_,o,ho,_⟩:=I.ok.funs.mem hb
 exact absurd (Nat.lt_of_lt_of_le (Heap.lt_size ho) (Nat.le_trans I.sz h)) (Nat.lt_irrefl _)
theorem Inv.cne (I:Inv X pins σ H s):∀ x c,X.env.cells.lookup x=some c->c ≠ X.env.locals:=λx c e z=>by
 obtain ⟨v,o,ho,hd⟩:=I.cell x c e
 obtain ⟨m,⟨o',es,ep,ho',hd',_⟩,_⟩:=I.loc
 rw [z,ho'] at ho;cases ho;rw [hd'] at hd;cases hd
theorem Inv.funs (I:Inv X pins σ H s):s.heap.FunFrames X.base X.outer:=by
 have all:∀ (l:List Env),(∀ b ∈ frs l,b ∈ X.fs)->X.s₀.heap.FunFrames X.base l->s.heap.FunFrames X.base l:=by
  intro l
  induction l with
  | nil=>intro _ _;trivial
  | cons env r ih =>
   intro hs hl
   obtain ⟨hk,⟨L,o,hf,hn,ho,hd⟩,hr⟩:=hl
   have hL:L ∈ X.fs:=hs L (by unfold frs;rw [List.filterMap_cons,hf];exact List.mem_cons_self)
   obtain ⟨sl,e⟩:=I.base.slot L o ho (I.ok.frf L hL) hL λz=>I.ok.exfs L z hL
   exact ⟨hk,⟨L,_,hf,hn,e,hd⟩,ih (λb hb=>hs b (by unfold frs;rw [List.filterMap_cons,hf];exact List.mem_cons_of_mem _ hb)) hr⟩
 exact all X.outer (λ_ hb=>hb) I.ok.funs
theorem Inv.stack (I:Inv X pins σ H s):s.heap.FunFrames X.base X.stack:=by
 rcases I.ok.stk with e|⟨e,hf⟩
 ·rw [e];exact I.funs
 ·rw [e]
  obtain ⟨m,hn,_⟩:=I.loc
  refine .cons (by rw [I.ok.kind];decide) hf hn ?_ I.funs
  exact Heap.get?_none_of_le (Nat.le_trans I.ok.bsz I.ok.above)
theorem Inv.stkSub (I:Inv X pins σ H s):∀ b ∈ frs X.stack,b ∈ X.env.locals::X.fs:=λb hb=>by
 rcases I.ok.stk with e|⟨e,hf⟩
 ·rw [e] at hb;exact List.mem_cons_of_mem _ hb
 ·rw [e] at hb
  unfold frs at hb
  rw [List.filterMap_cons,hf] at hb
  exact hb
theorem Inv.stkFree (I:Inv X pins σ H s):∀ b ∈ frs X.stack,H b=none:=λb hb=>by
 rcases List.mem_cons.mp (I.stkSub b hb) with e|hb
 ·rw [e];exact I.free
 ·obtain ⟨_,o,ho,_⟩:=I.ok.funs.mem hb
  exact I.base.free b o ho (I.ok.frf b hb) λz=>I.ok.exfs b z hb
theorem Inv.step {g':Array GenState}{t':Nat}{d':Drawn}{ch:List Addr} (I:Inv X pins σ H s)
  (hch:∀ b ∈ ch,(b ∈ X.ex \/ X.s₀.heap.objs.size <= b)/\b ≠ X.env.locals/\(∀ x c,X.env.cells.lookup x=some c->c ≠ b)/\∀ p ∈ X.pn ++ pins,p.1 ≠ b)
  (keep:∀ b o,b ≠ X.env.locals->b ∉ X.fs->b ∉ ch->s.heap.get? b=some o->H b=none->h'.get? b=some o)
  (slot:∀ b o,b ≠ X.env.locals->b ∈ X.fs->b ∉ ch->s.heap.get? b=some o->H b=none->∃ sl,h'.get? b=some { o with slots:=sl }) (free:∀ b o,b ∉ ch->s.heap.get? b=some o->H b=none->H' b=none)
  (there:∀ b o,b ∉ ch->s.heap.get? b=some o->∃ o',h'.get? b=some o')
  (tups:∀ b xs,H b=some (.tup xs)->H' b=some (.tup xs)) (frzs:∀ b o u,H b=some (.frz o u)->H' b=some (.frz o u)) (tbls:∀ b ps,H b=some (.tbl ps)->∃ more,H' b=some (.tbl (ps ++ more)))
  (ns:∀ m,s.heap.Ns X.env.locals m->h'.Ns X.env.locals m) (hok:HOk X.prog X.w H' h') (hg:AllBare g') :
  Inv X pins σ H' { s with heap:=h',gens:=g',drawn:=d',toks:=t' }:=by
 have neL:∀ b o,X.s₀.heap.get? b=some o->b ≠ X.env.locals:=λb o e=>Nat.ne_of_lt (Nat.lt_of_lt_of_le (Heap.lt_size e) I.ok.above)
 have neC:∀ b o,X.s₀.heap.get? b=some o->b ∉ X.ex->b ∉ ch:=λb o e hx hb=>by
  rcases (hch b hb).1 with z|z
  ·exact hx z
  ·exact absurd (Nat.lt_of_lt_of_le (Heap.lt_size e) z) (Nat.lt_irrefl _)
 have cellK:∀ x c,X.env.cells.lookup x=some c->∀ v,s.heap.IsCell c v->h'.IsCell c v:=λx c e v ⟨o,ho,hd⟩=>by
  have nch:c ∉ ch:=λz=>(hch c z).2.2.1 x c e rfl
  by_cases hc:c ∈ X.fs
  ·obtain ⟨sl,q⟩:=slot c o (I.cne x c e) hc nch ho (I.freeC x c e)
   exact ⟨_,q,hd⟩
  ·exact ⟨o,keep c o (I.cne x c e) hc nch ho (I.freeC x c e),hd⟩
 refine ⟨I.ok,I.os,hg,⟨λb o e n hb hx=>?_,λb o e n hb hx=>?_,λb o e n hx=>?_,λb o e hx=>?_,λb xs e=>tups b xs (I.base.tups b xs e),λb o xs e=>frzs b o xs (I.base.frzs b o xs e),λb ps e=>?_⟩,?_,λx c e=>?_,?_,λx c e=>?_,λp hp=>?_,hok,I.len⟩
 ·exact keep b o (neL b o e) hb (neC b o e hx) (I.base.keep b o e n hb hx) (I.base.free b o e n hx)
 ·obtain ⟨sl,e1⟩:=I.base.slot b o e n hb hx
  obtain ⟨sl',e2⟩:=slot b _ (neL b o e) hb (neC b o e hx) e1 (I.base.free b o e n hx)
  exact ⟨sl',e2⟩
 ·obtain ⟨o',e1⟩:=I.base.there b o e hx
  exact free b o' (neC b o e hx) e1 (I.base.free b o e n hx)
 ·obtain ⟨o',e1⟩:=I.base.there b o e hx
  exact there b o' (neC b o e hx) e1
 ·obtain ⟨m1,e1⟩:=I.base.tbls b ps e
  obtain ⟨m2,e2⟩:=tbls b _ e1
  exact ⟨m1 ++ m2,by rw [e2,Array.append_assoc]⟩
 ·obtain ⟨m,hn,hl⟩:=I.loc
  refine ⟨m,ns m hn,λi x v e1 e2 e3=>?_⟩
  obtain ⟨u,r,l⟩:=hl i x v e1 e2 e3
  refine ⟨u,r,?_⟩
  rcases l with l|⟨k,c,e,z⟩
  ·exact .inl l
  ·exact .inr ⟨k,c,e,cellK x c e _ z⟩
 ·obtain ⟨v,z⟩:=I.cell x c e
  exact ⟨v,cellK x c e v z⟩
 ·obtain ⟨m,⟨o,_,_,ho,_⟩,_⟩:=I.loc
  exact free _ o (λz=>(hch _ z).2.1 rfl) ho I.free
 ·obtain ⟨v,o,ho,hd⟩:=I.cell x c e
  exact free c o (λz=>(hch c z).2.2.1 x c e rfl) ho (I.freeC x c e)
 ·obtain ⟨e,n,ne,nf,d⟩:=I.pin p hp
  have nch:p.1 ∉ ch:=λz=>(hch p.1 z).2.2.2 p hp rfl
  exact ⟨keep p.1 p.2 ne nf nch e n,free p.1 p.2 nch e n,ne,nf,d⟩
theorem Inv.un {t':Nat} (I:Inv X pins σ H s) (u:Un X.fs [] H H' s.heap h') (hok:HOk X.prog X.w H' h'):Inv X pins σ H' { s with heap:=h',toks:=t' }:=by
 obtain ⟨m,⟨o,es,ep,ho,r⟩,_⟩:=id I.loc
 obtain ⟨sl,hL⟩:=u.any ho I.free (by simp)
 exact I.step (g':=s.gens) (d':=s.drawn) (ch:=[]) (λ_ z=>nomatch z) (λb o _ hb _ e n=>u.keep b o e n hb (by simp)) (λb o _ hb _ e n=>u.slot b o e n hb (by simp)) (λb o _ e n=>u.free b o e n (by simp)) (λb o _ e=>u.there b o e (by simp)) u.tups u.frzs u.tbls (λm' hm=>by
  obtain ⟨o',es',ep',ho',r'⟩:=hm
  rw [ho] at ho';cases ho'
  exact ⟨_,es',ep',hL,r'⟩) hok I.bare
theorem Inv.call {g':Array GenState}{t':Nat}{d':Drawn}{ch:List Addr} (I:Inv X pins σ H s) (u:Un (frs X.stack) ch H H' s.heap h') (hok:HOk X.prog X.w H' h') (hg:AllBare g')
  (hch:∀ b ∈ ch,(b ∈ X.ex \/ X.s₀.heap.objs.size <= b)/\b ≠ X.env.locals/\(∀ x c,X.env.cells.lookup x=some c->c ≠ b)/\∀ p ∈ X.pn ++ pins,p.1 ≠ b) :
  Inv X pins σ H' { s with heap:=h',gens:=g',drawn:=d',toks:=t' }:=by
 obtain ⟨m,⟨o,es,ep,ho,r⟩,_⟩:=id I.loc
 obtain ⟨sl,hL⟩:=u.any ho I.free λz=>(hch _ z).2.1 rfl
 exact I.step (ch:=ch) hch (λb o hL hb hc e n=>u.keep b o e n (λz=>(List.mem_cons.mp (I.stkSub b z)).elim hL hb) hc) (λb o _ _ hc e n=>u.any e n hc) (λb o hc e n=>u.free b o e n hc) (λb o hc e=>u.there b o e hc) u.tups u.frzs u.tbls (λm' hm=>by
  obtain ⟨o',es',ep',ho',r'⟩:=hm
  rw [ho] at ho';cases ho'
  exact ⟨_,es',ep',hL,r'⟩) hok hg
theorem Inv.turned {t':Nat}{it:Addr} (I:Inv X pins σ H s) (k:∀ b o,b ≠ it->s.heap.get? b=some o->h'.get? b=some o) (hn:H it=none) (hL:it ≠ X.env.locals)
  (h1:it ∈ X.ex \/ X.s₀.heap.objs.size <= it) (h2:∀ x c,X.env.cells.lookup x=some c->c ≠ it) (h3:∀ p ∈ X.pn ++ pins,p.1 ≠ it):Inv X pins σ H { s with heap:=h',toks:=t' }:=by
 have nit:∀ b u,H b=some u->b ≠ it:=λb u e z=>by rw [z,hn] at e;cases e
 refine I.step (g':=s.gens) (d':=s.drawn) (ch:=[it]) (λb hb=>?_) (λb o _ _ hc e _=>k b o (λz=>hc (by simp [z])) e) (λb o _ _ hc e _=>⟨o.slots,k b o (λz=>hc (by simp [z])) e⟩) (λ_ _ _ _ n=>n)
  (λb o hc e=>⟨o,k b o (λz=>hc (by simp [z])) e⟩) (λ_ _ e=>e) (λ_ _ _ e=>e) (λb ps e=>⟨#[],by rw [e];simp⟩) (λm hm=>?_) (λb u e=>?_) I.bare
 ·have e:b=it:=by simpa using hb
  subst e
  exact ⟨h1,hL,h2,h3⟩
 ·obtain ⟨o,es,ep,ho,r⟩:=hm
  exact ⟨o,es,ep,k _ o (Ne.symm hL) ho,r⟩
 ·refine (I.hok b u e).stay (λc v hc q=>k c v ?_ q) (λ_ q=>q) λ_ _ q=>q
  rcases hc with z|z
  ·rw [z];exact nit b u e
  ·exact nit c _ z
theorem Inv.tok (I:Inv X pins σ H s) (t:Nat):Inv X pins σ H { s with toks:=t }:=I.un (h':=s.heap) (t':=t) Un.refl I.hok
theorem Inv.kept {t':Nat} (I:Inv X pins σ H s) (k:∀ b u,s.heap.get? b=some u->h'.get? b=some u):Inv X pins σ H { s with heap:=h',toks:=t' }:=I.un (Un.kept k) (I.hok.kept k)
theorem Inv.laid {a:Addr}{o:HO}{t':Nat} (I:Inv X pins σ H s) (k:∀ b u,s.heap.get? b=some u->h'.get? b=some u) (hp:s.heap.objs.size <= a) (new:bw X.prog X.w (upd H a o) h' a o) :
  Inv X pins σ (upd H a o) { s with heap:=h',toks:=t' }:=I.un (Un.laid k hp (I.hok.fresh hp)) (I.hok.laid k hp new)
theorem Inv.write {x e:Addr}{o:HO}{t':Nat} (I:Inv X pins σ H s) (mu:Mut (H x)) (he:e=x \/ H e=some (.own x)) (k:∀ b u,b ≠ e->s.heap.get? b=some u->h'.get? b=some u) (heo:∃ u,h'.get? e=some u)
  (new:bw X.prog X.w (upd H x o) h' x o):Inv X pins σ (upd H x o) { s with heap:=h',toks:=t' }:=I.un (Un.write mu he k heo) (I.hok.write mu he k heo new)
theorem Inv.pins_of {pins':List (Addr × Obj)} (I:Inv X pins σ H s) (h:∀ p ∈ pins',s.heap.get? p.1=some p.2/\H p.1=none/\p.1 ≠ X.env.locals/\p.1 ∉ X.fs/\∀ v,p.2.data ≠ .cell v):Inv X pins' σ H s :=
 ⟨I.ok,I.os,I.bare,I.base,I.loc,I.cell,I.free,I.freeC,λp hp=>(List.mem_append.mp hp).elim (λz=>I.pin p (List.mem_append_left _ z)) (h p),I.hok,I.len⟩
theorem iU {N:List Str} (hN:N.Nodup) {i j:Nat}{x:Str} (a:N[i]?=some x) (b:N[j]?=some x):i=j:=by
 obtain ⟨h1,e1⟩:=List.getElem?_eq_some_iff.mp a
 obtain ⟨h2,e2⟩:=List.getElem?_eq_some_iff.mp b
 exact (List.getElem_inj hN).mp (e1.trans e2.symm)
theorem jZ {M:Model}{A:Around}{E:Value->Shared->Prop}{i:Nat}{x:Str}{v:V}{u:Value}{Q:Unit->Shared->Prop} (I:Inv X pins σ H s) (hN:X.N.Nodup) (hi:X.N[i]?=some x) (hx:Loc X.env.scope x) (r:aw v u)
  (h:∀ s',Inv X pins (σ.set i (some v)) H s'->(∃ a,Heap.SameBut a s.heap s'.heap/\(a=X.env.locals \/ X.env.cells.lookup x=some a))->Q () s') (hf:X.fn x=true \/ X.env.scope.names.lookup x=some .local:=by first|exact .inl rfl|exact .inr rfl|assumption):wpAny M A (storeName X.env x u) Q E s:=by
 obtain ⟨m,hn,hl⟩:=id I.loc
 have hcls:(X.env.scope.kind == .class || (X.env.scope.kind == .module&&X.env.locals != X.env.globals))=false:=by rw [I.ok.kind];rfl
 have hiσ:i < σ.length:=by rw [I.len];exact (List.getElem?_eq_some_iff.mp hi).1
 have cne:=I.cne
 have tracked:∀ {a:Addr}{h':Heap},(∃ o,s.heap.get? a=some o/\H a=none)->Heap.SameBut a s.heap h'->HOk X.prog X.w H h':=λ{a h'} ha hs b ob e=>by
  obtain ⟨_,_,hfree⟩:=ha
  refine (I.hok b ob e).stay (λc w' hc q=>(hs.2 c ?_).trans q) (λ_ q=>q) λ_ _ q=>q
  rintro rfl
  rcases hc with rfl|hc
  ·rw [hfree] at e;cases e
  ·rw [hfree] at hc;cases hc
 rcases hx with hk|hk
 ·refine wpAny_storeName_local hk hn (λh' hn' hs=>?_) hcls
  obtain ⟨oL,_,_,hoL,_⟩:=id hn
  refine h _ ⟨I.ok,I.os,I.bare,⟨λb o e n hb hx=>?_,λb o e n hb hx=>?_,I.base.free,λb o e hx=>?_,I.base.tups,I.base.frzs,I.base.tbls⟩,⟨_,hn',λj y v' e1 e2 e3=>?_⟩,λy c e=>?_,I.free,I.freeC,λp hp=>?_,tracked ⟨oL,hoL,I.free⟩ hs,by simpa using I.len⟩ ⟨_,hs,.inl rfl⟩
  ·exact (hs.2 b (Nat.ne_of_lt (Nat.lt_of_lt_of_le (Heap.lt_size e) I.ok.above))).trans (I.base.keep b o e n hb hx)
  ·obtain ⟨sl,e1⟩:=I.base.slot b o e n hb hx
   exact ⟨sl,(hs.2 b (Nat.ne_of_lt (Nat.lt_of_lt_of_le (Heap.lt_size e) I.ok.above))).trans e1⟩
  ·obtain ⟨o',e1⟩:=I.base.there b o e hx
   exact ⟨o',(hs.2 b (Nat.ne_of_lt (Nat.lt_of_lt_of_le (Heap.lt_size e) I.ok.above))).trans e1⟩
  ·by_cases hj:j=i
   ·subst hj
    rw [hi] at e1;cases e1
    rw [List.getElem?_set_self hiσ] at e2
    cases e2
    exact ⟨u,r,.inl ⟨hk,by simp⟩⟩
   ·rw [List.getElem?_set_ne (Ne.symm hj)] at e2
    obtain ⟨u',r',q⟩:=hl j y v' e1 e2 e3
    refine ⟨u',r',?_⟩
    rcases q with ⟨k,e⟩|⟨k,c,e,z⟩
    ·refine .inl ⟨k,?_⟩
     have:y ≠ x:=λe=>hj (iU hN e1 (e ▸ hi))
     simp [this,e]
    ·exact .inr ⟨k,c,e,z.sameBut hs (cne y c e)⟩
  ·obtain ⟨w',z⟩:=I.cell y c e
   exact ⟨w',z.sameBut hs (cne y c e)⟩
  ·obtain ⟨e,n,ne,nf,d⟩:=I.pin p hp
   exact ⟨(hs.2 p.1 ne).trans e,n,ne,nf,d⟩
 ·have hfn:X.fn x=true:=by
   rcases hf with z|z
   ·exact z
   ·rw [z] at hk;cases hk
  obtain ⟨c,hc⟩:=I.ok.has x (.inl hk)
  obtain ⟨w',z⟩:=I.cell x c hc
  refine wpAny_storeName_cell I.ok.kind hk hc z (λh' hc' hs=>?_)
  obtain ⟨oc,hoc,hocd⟩:=id z
  refine h { s with heap:=h' } ⟨I.ok,I.os,I.bare,⟨λb o e n hb hx=>?_,λb o e n hb hx=>?_,I.base.free,λb o e hx=>?_,I.base.tups,I.base.frzs,I.base.tbls⟩,⟨m,hn.sameBut hs (Ne.symm (cne x c hc)),λj y v' e1 e2 e3=>?_⟩,λy c' e=>?_,I.free,I.freeC,λp hp=>?_,tracked ⟨oc,hoc,I.freeC x c hc⟩ hs,by simpa using I.len⟩ ⟨c,hs,.inr hc⟩
  ·exact (hs.2 b (Nat.ne_of_lt (Nat.lt_of_lt_of_le (Heap.lt_size e) (I.ok.cab x c hfn hc)))).trans (I.base.keep b o e n hb hx)
  ·obtain ⟨sl,e1⟩:=I.base.slot b o e n hb hx
   exact ⟨sl,(hs.2 b (Nat.ne_of_lt (Nat.lt_of_lt_of_le (Heap.lt_size e) (I.ok.cab x c hfn hc)))).trans e1⟩
  ·obtain ⟨o',e1⟩:=I.base.there b o e hx
   exact ⟨o',(hs.2 b (Nat.ne_of_lt (Nat.lt_of_lt_of_le (Heap.lt_size e) (I.ok.cab x c hfn hc)))).trans e1⟩
  ·by_cases hj:j=i
   ·subst hj
    rw [hi] at e1;cases e1
    rw [List.getElem?_set_self hiσ] at e2
    cases e2
    exact ⟨u,r,.inr ⟨.inl hk,c,hc,hc'⟩⟩
   ·rw [List.getElem?_set_ne (Ne.symm hj)] at e2
    obtain ⟨u',r',q⟩:=hl j y v' e1 e2 e3
    refine ⟨u',r',?_⟩
    rcases q with q|⟨k,c',e,z'⟩
    ·exact .inl q
    ·refine .inr ⟨k,c',e,z'.sameBut hs ?_⟩
     rintro rfl
     exact hj (iU hN e1 (I.ok.inj _ _ _ e hc ▸ hi))
  ·by_cases hcc:c'=c
   ·subst hcc;exact ⟨_,hc'⟩
   ·obtain ⟨w2,z2⟩:=I.cell y c' e
    exact ⟨w2,z2.sameBut hs hcc⟩
  ·obtain ⟨e,n,ne,nf,d⟩:=I.pin p hp
   refine ⟨(hs.2 p.1 ?_).trans e,n,ne,nf,d⟩
   intro q
   rw [q,hoc] at e
   have q':oc=p.2:=Option.some.inj e
   exact d w' (by rw [<- q'];exact hocd)
theorem iV {M:Model}{A:Around}{E:Value->Shared->Prop}{i:Nat}{x:Str}{v:V}{u:Value}{Q:Unit->Shared->Prop} (I:Inv X pins σ H s) (hN:X.N.Nodup) (hi:X.N[i]?=some x) (hx:Loc X.env.scope x) (r:aw v u)
  (h:∀ s',Inv X pins (σ.set i (some v)) H s'->Q () s') (hf:X.fn x=true \/ X.env.scope.names.lookup x=some .local:=by first|exact .inl rfl|exact .inr rfl|assumption):wpAny M A (storeName X.env x u) Q E s :=
 jZ I hN hi hx r (λs' I' _=>h s' I') hf
theorem Inv.call' {s':Shared}{ch:List Addr} (I:Inv X pins σ H s) (ho:s'.os=s.os) (u:Un (frs X.stack) ch H H' s.heap s'.heap) (hok:HOk X.prog X.w H' s'.heap) (hg:AllBare s'.gens)
  (hch:∀ b ∈ ch,(b ∈ X.ex \/ X.s₀.heap.objs.size <= b)/\b ≠ X.env.locals/\(∀ x c,X.env.cells.lookup x=some c->c ≠ b)/\∀ p ∈ X.pn ++ pins,p.1 ≠ b):Inv X pins σ H' s':=by
 obtain ⟨h',g',d',t',o'⟩:=s'
 have e:o'=s.os:=ho
 subst e
 exact I.call (g':=g') (t':=t') (d':=d') u hok hg hch
end
noncomputable abbrev XK:=Value->Option Addr->Hp->Prop
noncomputable abbrev St:=List (Option V)
noncomputable abbrev VK:=V->Hp->Prop
noncomputable abbrev TE:=St->Hp->VK->Prop
noncomputable abbrev TT:=St->Hp->(Bool->Hp->Prop)->Prop
noncomputable abbrev TA:=St->Hp->(List V->Hp->Prop)->Prop
structure fm where
 nx:St->Hp->Prop
 rt:VK
 bk:St->Hp->Prop:=λ_ _=>False
 ct:St->Hp->Prop:=λ_ _=>False
noncomputable abbrev TS:=fm->St->Hp->Prop
noncomputable def EP (X:Cx) (pins:List (Addr × Obj)) (σ:St) (Q:VK) (u:Value) (s':Shared):Prop:=∃ v H',Inv X pins σ H' s'/\aw v u/\Q v H'
noncomputable def TP (X:Cx) (pins:List (Addr × Obj)) (σ:St) (Q:Bool->Hp->Prop) (b:Bool) (s':Shared):Prop:=∃ H',Inv X pins σ H' s'/\Q b H'
noncomputable def AP (X:Cx) (pins:List (Addr × Obj)) (σ:St) (Q:List V->Hp->Prop) (us:List Value) (s':Shared):Prop:=∃ vs H',Inv X pins σ H' s'/\ar vs us/\Q vs H'
noncomputable def SP (X:Cx) (pins:List (Addr × Obj)) (D:fm) (f:Flow) (s':Shared):Prop :=
 match f with
 | .next=>∃ σ' H',Inv X pins σ' H' s'/\D.nx σ' H'
 | .brk=>∃ σ' H',Inv X pins σ' H' s'/\D.bk σ' H'
 | .cont=>∃ σ' H',Inv X pins σ' H' s'/\D.ct σ' H'
 | .ret u=>∃ v σ' H',Inv X pins σ' H' s'/\aw v u/\D.rt v H'
noncomputable def PE (X:Cx) (e:Expr) (t:TE):Prop :=
 ∀ (pins:List (Addr × Obj)) (s:Shared) (σ:St) (H:Hp) (Q:VK),Inv X pins σ H s->t σ H Q->wpAny (model X.prog X.w) X.A (eval e X.env) (EP X pins σ Q) X.xe s
noncomputable def PT (X:Cx) (e:Expr) (t:TT):Prop :=
 ∀ (pins:List (Addr × Obj)) (s:Shared) (σ:St) (H:Hp) (Q:Bool->Hp->Prop),Inv X pins σ H s->t σ H Q->wpAny (model X.prog X.w) X.A (isTrue e X.env (eval e X.env)) (TP X pins σ Q) X.xe s
noncomputable def PW (X:Cx) (e:Expr) (t:TT):Prop :=
 ∀ (whole:Sem Value) (pins:List (Addr × Obj)) (s:Shared) (σ:St) (H:Hp) (Q:Bool->Hp->Prop),Inv X pins σ H s->t σ H Q->wpAny (model X.prog X.w) X.A (isTrue e X.env whole) (TP X pins σ Q) X.xe s
theorem PW.pt {X:Cx}{e:Expr}{t:TT} (h:PW X e t):PT X e t:=h _
noncomputable def PA (X:Cx) (es:List Expr) (t:TA):Prop :=
 ∀ (pos:Pos) (pins:List (Addr × Obj)) (s:Shared) (σ:St) (H:Hp) (Q:List V->Hp->Prop),Inv X pins σ H s->t σ H Q->wpAny (model X.prog X.w) X.A (spliced (backTo pos (starEach es X.env))) (AP X pins σ Q) X.xe s
noncomputable def PS (X:Cx) (st:Stmt) (t:TS):Prop :=
 ∀ (pins:List (Addr × Obj)) (s:Shared) (σ:St) (H:Hp) (D:fm),Inv X pins σ H s->t D σ H->wpAny (model X.prog X.w) X.A (exec st X.env) (SP X pins D) X.xe s
noncomputable def PSs (X:Cx) (st:List Stmt) (t:TS):Prop :=
 ∀ (pins:List (Addr × Obj)) (s:Shared) (σ:St) (H:Hp) (D:fm),Inv X pins σ H s->t D σ H->wpAny (model X.prog X.w) X.A (execs st X.env) (SP X pins D) X.xe s
theorem thn {α:Type}{t:Sem α}{Q Q':α->Shared->Prop}{M:Model}{A:Around}{E:Value->Shared->Prop}{s:Shared} (h:wpAny M A t Q E s) (hQ:∀ a s,Q a s->Q' a s):wpAny M A t Q' E s:=wpAny_mono h hQ λ_ _ x=>x
end L2
namespace L2
open PySem PySem.Spec PyProof.Rows
section
variable {X:Cx}
theorem bin {a b:Expr}{ta tb:TE} (ha:PE X a ta) (hb:PE X b tb) {pins:List (Addr × Obj)}{s:Shared}{σ:St}{H:Hp}{R:V->V->Hp->Prop} (I:Inv X pins σ H s) (h:ta σ H λx H1=>tb σ H1 λy H2=>R x y H2)
  {α:Type}{Q:α->Shared->Prop}{f:Value->Value->Sem α}
  (hf:∀ v u s2 x y H2,Inv X pins σ H2 s2->aw x v->aw y u->R x y H2->wpAny (model X.prog X.w) X.A (f v u) Q X.xe s2) :
  wpAny (model X.prog X.w) X.A (eval a X.env) (λv s₁=>wpAny (model X.prog X.w) X.A (eval b X.env) (λu s₂=>wpAny (model X.prog X.w) X.A (f v u) Q X.xe s₂) X.xe s₁) X.xe s:=by
 refine thn (ha pins s σ H _ I h) λv s1 ⟨x,H1,I1,r1,q1⟩=>?_
 refine thn (hb pins s1 σ H1 _ I1 q1) λu s2 ⟨y,H2,I2,r2,q2⟩=>?_
 exact hf v u s2 x y H2 I2 r1 r2 q2
noncomputable def iW (i:Nat):TE:=λσ H Q=>∃ v,σ[i]?=some (some v)/\Q v H
noncomputable def tC (v:V):TE:=λ_ H Q=>Q v H
theorem qV {i:Nat}{x:Str}{pos:Pos} (hN:X.N[i]?=some x) (hv:Vis X.env.scope x) (hd:(x == ("__debug__":Str))=false:=by decide) (hcd:(x == ("__classdict__":Str))=false:=by decide):PE X (.Name x pos) (iW i):=by
 intro pins s σ H Q I h
 obtain ⟨v,e,h⟩:=h
 obtain ⟨m,hn,hl⟩:=I.loc
 obtain ⟨u,r,l⟩:=hl i x v hN e hv
 have fin:EP X pins σ Q u s:=⟨v,H,I,r,h⟩
 rcases l with ⟨hk,hm⟩|⟨hk,c,hc,hcell⟩
 ·exact wpAny_Name (wpAny_loadName_local I.ok.kind hk hn hm fin) hd
 ·rcases hk with hk|hk
  ·exact wpAny_Name (wpAny_loadName_cell I.ok.kind hk hc hcell fin) hd
  ·exact wpAny_Name (wpAny_loadName_free I.ok.kind hk hc hcell fin hcd) hd
theorem m7 {i j pos}:PE X (.Constant (.int i) j pos) (tC (.int i)):=λ_ _ _ H _ I h=>wpAny_Constant_int ⟨.int i,H,I.tok _,⟨_,rfl⟩,h⟩
theorem xj {b j pos}:PE X (.Constant (.bool b) j pos) (tC (.bl b)):=λ_ _ _ H _ I h=>Constant_bool ⟨.bl b,H,I,rfl,h⟩
theorem xT {j pos}:PE X (.Constant .none j pos) (tC .non):=λ_ _ _ H _ I h=>Constant_none ⟨.non,H,I,rfl,h⟩
theorem m8 {x j pos}:PE X (.Constant (.str x) j pos) (tC (.str x)):=λ_ _ _ H _ I h=>Calls.Constant_str ⟨.str x,H,I.tok _,⟨_,rfl⟩,h⟩
noncomputable def Gl (X:Cx) (x:Str):Prop:=X.env.kindOf x=some .globalImplicit
theorem fM {E:Value->Shared->Prop}{pins:List (Addr × Obj)}{s:Shared}{σ:St}{H:Hp}{x:Str}{u:Value}{pos:Pos}{Q:Value->Shared->Prop} (I:Inv X pins σ H s) (hg:Gl X x) (hm:X.mg x=some u) (h:Q u s)
  (hd:(x == ("__debug__":Str))=false:=by decide):wpAny (model X.prog X.w) X.A (eval (.Name x pos) X.env) Q E s :=
 Calls.Name_function_global I.ok.kind hg (Calls.loadGlobal_global (by rw [I.ok.glob];exact I.mod.glob.keeps I.bk) hm h) hd
theorem g6 {E:Value->Shared->Prop}{pins:List (Addr × Obj)}{s:Shared}{σ:St}{H:Hp}{x:Str}{u:Value}{pos:Pos}{Q:Value->Shared->Prop} (I:Inv X pins σ H s) (hg:Gl X x) (hm:X.mg x=none) (hv:bootBuiltins x=some u) (h:Q u s)
  (hn:x ≠ "__name__":=by decide) (hd:(x == ("__debug__":Str))=false:=by decide):wpAny (model X.prog X.w) X.A (eval (.Name x pos) X.env) Q E s:=by
 obtain ⟨mb,h1,h2⟩:=I.mod.blt
 exact Calls.Name_function_global I.ok.kind hg (Calls.loadGlobal_builtin (by rw [I.ok.glob];exact I.mod.glob.keeps I.bk) hm (by rw [I.ok.blt];exact h1.keeps I.bk) ((h2 x hn).trans hv) h) hd
theorem ou {x:Str}{v:V}{u:Value}{pos:Pos} (hg:Gl X x) (hm:X.mg x=some u) (r:aw v u) (hd:(x == ("__debug__":Str))=false:=by decide):PE X (.Name x pos) (tC v) :=
 λ_ _ _ H _ I h=>fM I hg hm ⟨v,H,I,r,h⟩ hd
theorem ow {x:Str}{v:V}{u:Value}{pos:Pos} (hg:Gl X x) (hm:X.mg x=none) (hv:bootBuiltins x=some u) (r:aw v u) (hn:x ≠ "__name__":=by decide) (hd:(x == ("__debug__":Str))=false:=by decide):PE X (.Name x pos) (tC v) :=
 λ_ _ _ H _ I h=>g6 I hg hm hv ⟨v,H,I,r,h⟩ hn hd
variable {a b:Expr}{ta tb:TE}{pos:Pos}
noncomputable def PC (X:Cx) (op:CmpOp) (a b:Expr) (t:TE):Prop :=
 ∀ (pins:List (Addr × Obj)) (s:Shared) (σ:St) (H:Hp) (Q:VK),Inv X pins σ H s->t σ H Q ->
  wpAny (model X.prog X.w) X.A (eval a X.env) (λv s₁=>wpAny (model X.prog X.w) X.A (eval b X.env) (λu s₂=>wpAny (model X.prog X.w) X.A (compareOp op v u) (EP X pins σ Q) X.xe s₂) X.xe s₁) X.xe s
theorem iX (b:Expr) {op:CmpOp} (h:op ≠ .In) (h2:op ≠ .NotIn):behindInMarks op b=false:=by
 have e1:(op == CmpOp.In)=false:=by cases op <;> first|rfl|exact absurd rfl h
 have e2:(op == CmpOp.NotIn)=false:=by cases op <;> first|rfl|exact absurd rfl h2
 cases b <;> simp [behindInMarks,e1,e2]
noncomputable def tB (t:TE):TT:=λσ H Q=>t σ H λx H1=>∃ c,x=.bl c/\Q c H1
theorem qW {op:CmpOp}{t:TE} (h:PC X op a b t) (h1:behindInMarks op b=false:=by first|exact iX _ (by decide) (by decide)|rfl):PE X (.Compare a [op] [b] pos) t:=λpins s σ H Q I hw=>wpAny_Compare1 (h pins s σ H Q I hw) h1
theorem qX {op:CmpOp}{t:TE} (h:PC X op a b t) (h1:behindInMarks op b=false:=by first|exact iX _ (by decide) (by decide)|rfl):PT X (.Compare a [op] [b] pos) (tB t):=by
 intro pins s σ H Q I hw
 refine wpAny_isTrue_Compare1 (thn (h pins s σ H _ I hw) λv s1 h1=>thn h1 λu s2 h2=>thn h2 λc s3 ⟨x,H1,I1,r1,q1⟩=>?_) h1
 obtain ⟨d,rfl,q⟩:=q1
 cases r1
 exact wpAny_truthy_bool ⟨H1,I1,q⟩
theorem qY {e:Expr}{t:TE} (h:PE X e t) (he:∀ whole,isTrue e X.env whole=(do let v <- whole;standAt e.pos;holding [v] (truthy v)):=by intro _;rfl):PT X e (tB t):=by
 intro pins s σ H Q I hw
 refine isTrue_plain (thn (h pins s σ H _ I hw) λv s1 ⟨x,H1,I1,r1,q1⟩=>?_) (he _)
 obtain ⟨d,rfl,q⟩:=q1
 cases r1
 exact wpAny_truthy_bool ⟨H1,I1,q⟩
variable {tA tB':TT}{cu:List Expr}
noncomputable def Ci (t u:TT):TT:=λσ H Q=>t σ H λc H1=>if c=true then u σ H1 Q else Q false H1
noncomputable def tOr (t u:TT):TT:=λσ H Q=>t σ H λc H1=>if c=true then Q true H1 else u σ H1 Q
noncomputable def Cj (t:TT):TT:=λσ H Q=>t σ H λc H1=>Q (!c) H1
theorem ve (ha:PT X a tA):PW X (.BoolOp .And [a] pos) tA:=by
 intro wh pins s σ H Q I h
 refine isTrue_and (thn (ha pins s σ H Q I h) λc s1 e=>?_)
 cases c with
 | true=>exact isTrue_and_nil e
 | false=>exact e
theorem xU (ha:PT X a tA):PW X (.BoolOp .Or [a] pos) tA:=by
 intro wh pins s σ H Q I h
 refine isTrue_or (thn (ha pins s σ H Q I h) λc s1 e=>?_)
 cases c with
 | false=>exact isTrue_or_nil e
 | true=>exact e
theorem xV (ha:PT X a tA) (hb:PW X (.BoolOp .And (b::cu) pos) tB'):PW X (.BoolOp .And (a::b::cu) pos) (Ci tA tB'):=by
 intro wh pins s σ H Q I h
 refine isTrue_and (thn (ha pins s σ H _ I h) λc s1 ⟨H1,I1,q1⟩=>?_)
 cases c with
 | true=>exact hb wh pins s1 σ H1 Q I1 q1
 | false=>exact ⟨H1,I1,q1⟩
theorem Am (ha:PT X a tA) (hb:PW X (.BoolOp .Or (b::cu) pos) tB'):PW X (.BoolOp .Or (a::b::cu) pos) (tOr tA tB'):=by
 intro wh pins s σ H Q I h
 refine isTrue_or (thn (ha pins s σ H _ I h) λc s1 ⟨H1,I1,q1⟩=>?_)
 cases c with
 | true=>exact ⟨H1,I1,q1⟩
 | false=>exact hb wh pins s1 σ H1 Q I1 q1
theorem qZ (ha:PT X a tA):PT X (.UnaryOp .Not a pos) (Cj tA):=by
 intro pins s σ H Q I h
 exact isTrue_not (ha pins s σ H (λc H1=>Q (!c) H1) I h)
noncomputable def An (ta tb:TE):TE:=λσ H Q=>ta σ H λx H1=>∃ c,x=.bl c/\if c=true then tb σ H1 Q else Q (.bl false) H1
noncomputable def Ck (ta tb:TE):TE:=λσ H Q=>ta σ H λx H1=>∃ c,x=.bl c/\if c=true then Q (.bl true) H1 else tb σ H1 Q
noncomputable def Ao (ta:TE):TE:=λσ H Q=>ta σ H λx H1=>∃ c,x=.bl c/\Q (.bl (!c)) H1
theorem m9 {op}{t:TE} (h:PE X a t):PE X (.BoolOp op [a] pos) t:=λpins s σ H Q I hw=>BoolOp_one (h pins s σ H Q I hw)
theorem q_ (ha:PE X a ta) (hb:PE X (.BoolOp .And (b::cu) pos) tb):PE X (.BoolOp .And (a::b::cu) pos) (An ta tb):=by
 intro pins s σ H Q I h
 refine BoolOp_and (thn (ha pins s σ H _ I h) λv s1 ⟨x,H1,I1,r1,q1⟩=>?_)
 obtain ⟨c,rfl,q1⟩:=q1
 cases r1
 refine wpAny_truthy_bool ?_
 cases c with
 | true=>exact hb pins s1 σ H1 Q I1 q1
 | false=>exact ⟨.bl false,H1,I1,rfl,q1⟩
theorem Ap (ha:PE X a ta) (hb:PE X (.BoolOp .Or (b::cu) pos) tb):PE X (.BoolOp .Or (a::b::cu) pos) (Ck ta tb):=by
 intro pins s σ H Q I h
 refine BoolOp_or (thn (ha pins s σ H _ I h) λv s1 ⟨x,H1,I1,r1,q1⟩=>?_)
 obtain ⟨c,rfl,q1⟩:=q1
 cases r1
 refine wpAny_truthy_bool ?_
 cases c with
 | false=>exact hb pins s1 σ H1 Q I1 q1
 | true=>exact ⟨.bl true,H1,I1,rfl,q1⟩
theorem xW (ha:PE X a ta):PE X (.UnaryOp .Not a pos) (Ao ta):=by
 intro pins s σ H Q I h
 refine UnaryOp_ (thn (ha pins s σ H _ I h) λv s1 ⟨x,H1,I1,r1,q1⟩=>?_)
 obtain ⟨c,rfl,q1⟩:=q1
 cases r1
 exact not_of (wpAny_truthy_bool ⟨.bl (!c),H1,I1,rfl,q1⟩)
noncomputable def tIf (t:TT) (ta tb:TE):TE:=λσ H Q=>t σ H λc H1=>if c=true then ta σ H1 Q else tb σ H1 Q
theorem ra {c:Expr} (hc:PT X c tA) (ha:PE X a ta) (hb:PE X b tb):PE X (.IfExp c a b pos) (tIf tA ta tb):=by
 intro pins s σ H Q I h
 refine wpAny_IfExp (thn (hc pins s σ H _ I h) λd s1 ⟨H1,I1,q1⟩=>?_)
 cases d with
 | true=>exact ha pins s1 σ H1 Q I1 q1
 | false=>exact hb pins s1 σ H1 Q I1 q1
end
end L2
namespace L2
open PySem PySem.Spec PyProof.Rows
noncomputable def SqL (K:PySem.W.Frag) (H:Hp) (a:Addr) (xs:List V):Prop :=
 Rd H a (.lst xs) \/
  ∃ (o:Obj) (its:Array Value) (n:Nat),K.lookup a=some o/\o.cls=.type "list"/\o.dict=none/\o.data=.seq its n/\its.size <= sizeLine/\ar xs its.toList
noncomputable def SqT (K:PySem.W.Frag) (H:Hp) (a:Addr) (xs:List V):Prop :=
 Rd H a (.tup xs) \/
  ∃ (o:Obj) (its:Array Value) (n:Nat),K.lookup a=some o/\o.cls=.type "tuple"/\o.data=.seq its n/\its.size <= sizeLine/\ar xs its.toList
noncomputable def Cl:Value->Option V
 | .none=>some .non
 | .bool b=>some (.bl b)
 | .int i _=>some (.int i)
 | .str x _=>some (.str x)
 | .bytes b _=>some (.byt b)
 | .float b _=>some (.flt b)
 | .ref a=>some (.ref a)
 | .type n=>some (.ty n)
 | _=>none
theorem aw.abs {x:V}{u:Value} (r:aw x u):Cl u=some x:=by
 cases x with
 | non=>cases r;rfl
 | bl _=>cases r;rfl
 | int _=>obtain ⟨t,rfl⟩:=r;rfl
 | str _=>obtain ⟨t,rfl⟩:=r;rfl
 | byt _=>obtain ⟨t,rfl⟩:=r;rfl
 | flt _=>obtain ⟨t,rfl⟩:=r;rfl
 | ref _=>cases r;rfl
 | ty _=>cases r;rfl
theorem aw.inj {x y:V}{u:Value} (r:aw x u) (q:aw y u):x=y:=Option.some.inj (r.abs.symm.trans q.abs)
theorem ar.inj:∀ {xs ys:List V}{us:List Value},ar xs us->ar ys us->xs=ys
 | _,_,_,.nil,.nil=>rfl
 | _,_,_,.cons r t,.cons r' t'=>by rw [r.inj r',ar.inj t t']
section
variable {X:Cx}{pins:List (Addr × Obj)}{σ:St}{H:Hp}{s:Shared}{a:Addr}{xs ys:List V}
theorem SqL.of {K:PySem.W.Frag} (h:H a=some (.lst xs)):SqL K H a xs:=.inl (.inl h)
theorem SqT.of {K:PySem.W.Frag} (h:H a=some (.tup xs)):SqT K H a xs:=.inl (.inl h)
theorem Inv.list (I:Inv X pins σ H s) (h:SqL X.K H a xs):∃ its:List Value,ar xs its/\PlainL s.heap a its.toArray/\xs.length <= sizeLine:=by
 rcases h with h|⟨o,its,n,hk,hc,hd,hs,hz,r⟩
 ·obtain ⟨z,its,n,r,e⟩:=h.ok I.hok
  exact ⟨its,r,⟨_,n,e,rfl,rfl,rfl⟩,z⟩
 ·refine ⟨its.toList,r,⟨o,n,I.kIn a o hk,hc,hd,by simpa using hs⟩,?_⟩
  have e:=r.length
  simp only [Array.length_toList] at e
  omega
theorem Inv.tuple (I:Inv X pins σ H s) (h:SqT X.K H a xs):∃ its:List Value,ar xs its/\IsTup s.heap a its.toArray/\xs.length <= sizeLine:=by
 rcases h with h|⟨o,its,n,hk,hc,hs,hz,r⟩
 ·obtain ⟨z,its,r,p⟩:=h.ok I.hok
  exact ⟨its,r,p,z⟩
 ·refine ⟨its.toList,r,⟨o,I.kIn a o hk,hc,n,by simpa using hs⟩,?_⟩
  have e:=r.length
  simp only [Array.length_toList] at e
  omega
theorem Inv.list_inj (I:Inv X pins σ H s) (h:SqL X.K H a xs) (h':SqL X.K H a ys):xs=ys:=by
 obtain ⟨its,r,⟨o,n,e,_,_,d⟩,_⟩:=I.list h
 obtain ⟨its',r',⟨o',n',e',_,_,d'⟩,_⟩:=I.list h'
 rw [e] at e';cases e'
 rw [d] at d'
 injection d' with d1 _
 have:its=its':=by simpa using congrArg Array.toList d1
 subst this
 exact r.inj r'
theorem Inv.tuple_inj (I:Inv X pins σ H s) (h:SqT X.K H a xs) (h':SqT X.K H a ys):xs=ys:=by
 obtain ⟨its,r,⟨o,e,_,n,d⟩,_⟩:=I.tuple h
 obtain ⟨its',r',⟨o',e',_,n',d'⟩,_⟩:=I.tuple h'
 rw [e] at e';cases e'
 rw [d] at d'
 injection d' with d1 _
 have:its=its':=by simpa using congrArg Array.toList d1
 subst this
 exact r.inj r'
end
noncomputable abbrev Cx.wish (X:Cx) (E:Value->Shared->Prop):Cx:={ X with xe:=E }
noncomputable abbrev Cx.nox (X:Cx):Cx:=X.wish λ_ _=>False
theorem Cx.Ok.wish {X:Cx} (ok:X.Ok) (E:Value->Shared->Prop):(X.wish E).Ok :=
 ⟨ok.mod,ok.kind,ok.glob,ok.blt,ok.above,ok.inj,ok.has,ok.cab,ok.hd,ok.frames,ok.stk,ok.exf,ok.bs,ok.bsz,ok.noex,ok.exfs,ok.funs,ok.frf⟩
theorem Cx.Ok.unwish {X:Cx}{E:Value->Shared->Prop} (ok:(X.wish E).Ok):X.Ok :=
 ⟨ok.mod,ok.kind,ok.glob,ok.blt,ok.above,ok.inj,ok.has,ok.cab,ok.hd,ok.frames,ok.stk,ok.exf,ok.bs,ok.bsz,ok.noex,ok.exfs,ok.funs,ok.frf⟩
section
variable {X:Cx}{pins:List (Addr × Obj)}{σ:St}{H:Hp}{s:Shared}{E:Value->Shared->Prop}
theorem Inv.wish (I:Inv X pins σ H s) (E:Value->Shared->Prop):Inv (X.wish E) pins σ H s:=⟨I.ok.wish E,I.os,I.bare,I.base,I.loc,I.cell,I.free,I.freeC,I.pin,I.hok,I.len⟩
theorem Inv.unwish (I:Inv (X.wish E) pins σ H s):Inv X pins σ H s:=⟨I.ok.unwish,I.os,I.bare,I.base,I.loc,I.cell,I.free,I.freeC,I.pin,I.hok,I.len⟩
theorem SP.unwish {D:fm}{f:Flow}{s':Shared} (h:SP (X.wish E) pins D f s'):SP X pins D f s':=by
 cases f with
 | next=>obtain ⟨σ',H',I,q⟩:=h;exact ⟨σ',H',I.unwish,q⟩
 | brk=>obtain ⟨σ',H',I,q⟩:=h;exact ⟨σ',H',I.unwish,q⟩
 | cont=>obtain ⟨σ',H',I,q⟩:=h;exact ⟨σ',H',I.unwish,q⟩
 | ret u=>obtain ⟨v,σ',H',I,r,q⟩:=h;exact ⟨v,σ',H',I.unwish,r,q⟩
theorem PSs.nox {st:List Stmt}{t:TS} (h:PSs X.nox st t):PSs X st t:=λpins s σ H D I hw =>
 wpAny_mono (h pins s σ H D (I.wish _) hw) (λ_ _ q=>q.unwish) λ_ _ z=>False.elim z
end
section
variable {X:Cx}{st:Stmt}{cu:List Stmt}{t u:TS}{e:Expr}{te:TE}{pos:Pos}
noncomputable def Aq:TS:=λD σ H=>D.nx σ H
noncomputable def Cm (t u:TS):TS:=λD σ H=>t { D with nx:=u D } σ H
theorem oA:PSs X [] Aq:=λ_ _ σ H _ I h=>wpAny_execs_nil ⟨σ,H,I,h⟩
theorem dG (h1:PS X st t) (h2:PSs X cu u):PSs X (st::cu) (Cm t u):=by
 intro pins s σ H D I h
 refine wpAny_execs_cons (thn (h1 pins s σ H { D with nx:=u D } I h) λf s1 q=>?_)
 cases f with
 | next =>
  obtain ⟨σ',H',I',q⟩:=q
  exact h2 pins s1 σ' H' D I' q
 | ret v=>exact q
 | brk=>exact q
 | cont=>exact q
theorem kZ (h1:PS X st t):PSs X [st] t:=by
 intro pins s σ H D I h
 refine wpAny_execs_cons (thn (h1 pins s σ H D I h) λf s1 q=>?_)
 cases f with
 | next=>exact wpAny_execs_nil q
 | ret v=>exact q
 | brk=>exact q
 | cont=>exact q
theorem Inv.quiet {pins:List (Addr × Obj)}{σ:St}{H:Hp}{s:Shared} (I:Inv X pins σ H s):interactive X.env=false:=by simp [interactive,I.ok.kind]
noncomputable def Ar (te:TE):TS:=λD σ H=>te σ H λ_ H1=>D.nx σ H1
theorem iK (he:PE X e te) (hs:swapsWith e none pos.line X.env=pure false:=by rfl):PS X (.Expr e pos) (Ar te):=by
 intro pins s σ H D I h
 exact wpAny_Expr_any (thn (he pins s σ H _ I h) λv s1 ⟨x,H1,I1,r1,q1⟩=>⟨σ,H1,I1,q1⟩) I.quiet hs
noncomputable def Cn (te:TE):TS:=λD σ H=>te σ H D.rt
theorem iY (he:PE X e te):PS X (.Return (some e) pos) (Cn te):=by
 intro pins s σ H D I h
 exact wpAny_Return_some (thn (he pins s σ H _ I h) λv s1 ⟨x,H1,I1,r1,q1⟩=>⟨x,σ,H1,I1,r1,q1⟩)
noncomputable def Co (c:TT) (t u:TS):TS:=λD σ H=>c σ H λb H1=>if b=true then t D σ H1 else u D σ H1
theorem re {c:Expr}{a b:List Stmt}{tc:TT} (hc:PT X c tc) (ha:PSs X a t) (hb:PSs X b u):PS X (.If c a b pos) (Co tc t u):=by
 intro pins s σ H D I h
 refine wpAny_If (thn (hc pins s σ H _ I h) λd s1 ⟨H1,I1,q1⟩=>?_)
 cases d with
 | true=>exact ha pins s1 σ H1 D I1 q1
 | false=>exact hb pins s1 σ H1 D I1 q1
noncomputable def xX:TS:=λ_ _ _=>False
theorem lY:PS X st xX:=λ_ _ _ _ _ _ h=>h.elim
end
noncomputable abbrev TG:=V->St->Hp->(St->Hp->Prop)->Prop
noncomputable abbrev TGs:=List V->St->Hp->(St->Hp->Prop)->Prop
noncomputable def PG (X:Cx) (target:Expr) (t:TG):Prop :=
 ∀ (pins:List (Addr × Obj)) (s:Shared) (σ:St) (H:Hp) (v:V) (u:Value) (Q:St->Hp->Prop),Inv X pins σ H s->aw v u->t v σ H Q ->
  wpAny (model X.prog X.w) X.A (assign target X.env u) (λ_ s'=>∃ σ' H',Inv X pins σ' H' s'/\Q σ' H') X.xe s
noncomputable def PGs (X:Cx) (ts:List Expr) (t:TGs):Prop :=
 ∀ (pins:List (Addr × Obj)) (s:Shared) (σ:St) (H:Hp) (vs:List V) (us:List Value) (Q:St->Hp->Prop),Inv X pins σ H s->ar vs us->t vs σ H Q ->
  wpAny (model X.prog X.w) X.A (assignInOrder ((assignEach ts X.env).map (·.2)) us) (λ_ s'=>∃ σ' H',Inv X pins σ' H' s'/\Q σ' H') X.xe s
section
variable {X:Cx}{pos:Pos}
noncomputable def fq (i:Nat):TG:=λv σ H Q=>Q (σ.set i (some v)) H
theorem k4 {i:Nat}{x:Str} (hN:X.N.Nodup) (hi:X.N[i]?=some x) (hx:Loc X.env.scope x) (hf:X.fn x=true \/ X.env.scope.names.lookup x=some .local:=by first|exact .inl rfl|exact .inr rfl|assumption):PG X (.Name x pos) (fq i):=by
 intro pins s σ H v u Q I r h
 exact wpAny_assign_Name (iV I hN hi hx r (λs' I'=>⟨_,H,I',h⟩) hf)
noncomputable def As:TGs:=λvs σ H Q=>vs=[]/\Q σ H
noncomputable def xk (t:TG) (u:TGs):TGs:=λvs σ H Q=>∃ v r,vs=v::r/\t v σ H λσ' H'=>u r σ' H' Q
theorem vf:PGs X [] As:=by
 intro pins s σ H vs us Q I r h
 obtain ⟨e,h⟩:=h
 subst e
 cases r
 exact assignInOrder_nil ⟨σ,H,I,h⟩
theorem rf {e:Expr}{es:List Expr}{t:TG}{u:TGs} (h1:PG X e t) (h2:PGs X es u)
  (hs:(assignEach (e::es) X.env).map (·.2)=assign e X.env::(assignEach es X.env).map (·.2):=by rfl):PGs X (e::es) (xk t u):=by
 intro pins s σ H vs us Q I r h
 obtain ⟨v,vr,e1,h⟩:=h
 subst e1
 cases r with
 | cons r rr =>
  rw [hs]
  refine assignInOrder_cons (thn (h1 pins s σ H _ _ _ I r h) λ_ s1 ⟨σ1,H1,I1,q1⟩=>?_)
  exact h2 pins s1 σ1 H1 _ _ Q I1 rr q1
noncomputable def At (K:PySem.W.Frag) (n:Nat) (t:TGs):TG:=λv σ H Q=>∃ a xs,v=.ref a/\SqT K H a xs/\xs.length=n/\t xs σ H Q
theorem xY {es:List Expr}{k:Nat}{t:TGs}{n:Nat} (hc:X.calm=true) (h:PGs X es t)
  (hn:(assignEach es X.env).length=n:=by rfl) (hst:(assignEach es X.env).findIdx? (·.1)=none:=by rfl):PG X (.Tuple es k pos) (At X.K n t):=by
 intro pins s σ H v u Q I r hw
 obtain ⟨a,xs,e1,hq,hl,hw⟩:=hw
 subst e1
 cases r
 obtain ⟨its,rv,ht,hz⟩:=I.tuple hq
 refine assign_Tuple_tuple (I.ok.hd hc) ht (by simp [hn,<- hl,rv.length]) hst λh' hx=>?_
 have I1:Inv X pins σ H { s with heap:=h' }:=I.kept (t':=s.toks) λb o e=>hx b o (Nat.ne_of_lt (Heap.lt_size e)) e
 exact h pins _ σ H xs _ Q I1 (by simpa using rv) hw
noncomputable def pS (te:TE) (g:TG):TS:=λD σ H=>te σ H λx H1=>g x σ H1 D.nx
theorem ft {i:Nat}{x:Str}{e:Expr}{te:TE}{pos':Pos} (hN:X.N.Nodup) (hi:X.N[i]?=some x) (hx:Loc X.env.scope x) (he:PE X e te) (hs:swapsWith e (some (.Name x pos')) pos.line X.env=pure false:=by rfl) (hf:X.fn x=true \/ X.env.scope.names.lookup x=some .local:=by first|exact .inl rfl|exact .inr rfl|assumption) :
  PS X (.Assign [.Name x pos'] e pos) (pS te (fq i)):=by
 intro pins s σ H D I h
 refine wpAny_Assign_Name (thn (he pins s σ H _ I h) λv s1 ⟨y,H1,I1,r1,q1⟩=>?_) hs
 exact iV I1 hN hi hx r1 (λs2 I2=>⟨_,H1,I2,q1⟩) hf
end
section
variable {X:Cx}{pos:Pos}
end
structure It where
 go:Nat->Hp->Prop
 yld:Nat->Hp->V->Hp->Prop
 stop:Nat->Hp->Prop
noncomputable def g7 (X:Cx) (pins:List (Addr × Obj)) (H:Hp) (b:Addr):Prop :=
 H b=none/\b ≠ X.env.locals/\b ∉ X.fs/\(b ∈ X.ex \/ X.s₀.heap.objs.size <= b)/\(∀ x c,X.env.cells.lookup x=some c->c ≠ b)/\∀ p ∈ X.pn ++ pins,p.1 ≠ b
theorem Inv.fpOk {X:Cx}{pins:List (Addr × Obj)}{σ:St}{H H':Hp}{s:Shared}{b:Addr} (I:Inv X pins σ H s) (hb:s.heap.objs.size <= b) (hn:H' b=none):g7 X pins H' b:=by
 refine ⟨hn,Nat.ne_of_gt (Nat.lt_of_lt_of_le I.lt hb),I.nofs hb,.inr (Nat.le_trans I.sz hb),λx c e z=>?_,λp hp z=>?_⟩
 ·obtain ⟨v,q⟩:=I.cell x c e
  exact absurd (Nat.lt_of_lt_of_le q.lt (by rw [z];exact hb)) (Nat.lt_irrefl _)
 ·exact absurd (Nat.lt_of_lt_of_le (Heap.lt_size (I.pin p hp).1) (by rw [z];exact hb)) (Nat.lt_irrefl _)
structure m_ (P:Program) (w:World) (K:PySem.W.Frag) (tg:Expr) (J:It) (fp:List Addr) (it:Addr) (tn:Nat->Heap->Prop):Prop where
 mem:it ∈ fp
 obj:∀ i h,tn i h->∀ b ∈ fp,∃ o,h.get? b=some o/\∀ v,o.data ≠ .cell v
 keep:∀ i h h',tn i h->(∀ b ∈ fp,∀ o,h.get? b=some o->h'.get? b=some o)->tn i h'
 item:∀ (X:Cx),X.prog=P->X.w=w->X.K=K->X.calm=true->∀ (i:Nat) (pins:List (Addr × Obj)) (s:Shared) (σ:St) (H:Hp) (E:Value->Shared->Prop),Inv X pins σ H s->(∀ b ∈ fp,g7 X pins H b)->tn i s.heap->J.go i H ->
  wpAny (model P w) X.A (pyNext (.ref it)) (λr s1=>∃ u,r=some u /\
   wpAny (model P w) X.A (letOwnedTupleGo tg (.ref it) u) (λ_ s2=>∃ x H',Inv X pins σ H' s2/\aw x u/\J.yld i H x H'/\tn (i + 1) s2.heap/\∀ b ∈ fp,H' b=none) E s1) E s
 done:∀ (X:Cx),X.prog=P->X.w=w->X.K=K->X.calm=true->∀ (i:Nat) (pins:List (Addr × Obj)) (s:Shared) (σ:St) (H:Hp) (E:Value->Shared->Prop),Inv X pins σ H s->(∀ b ∈ fp,g7 X pins H b)->tn i s.heap->J.stop i H ->
  wpAny (model P w) X.A (pyNext (.ref it)) (λr s1=>r=none/\Inv X pins σ H s1) E s
 self:∀ (A:Around) (i:Nat) (s:Shared) (Q:Value->Shared->Prop) (E:Value->Shared->Prop),tn i s.heap->Q (.ref it) s->wpAny (model P w) A (pyIter (.ref it)) Q E s
noncomputable abbrev TI:=St->Hp->(It->Hp->Prop)->Prop
noncomputable def PIE (X:Cx) (pins:List (Addr × Obj)) (σ:St) (tg:Expr) (R:It->Hp->Prop) (itv:Value) (s2:Shared):Prop :=
 ∃ (it:Addr) (fp:List Addr) (tn:Nat->Heap->Prop) (J:It) (H':Hp),itv=.ref it/\Inv X pins σ H' s2/\m_ X.prog X.w X.K tg J fp it tn/\tn 0 s2.heap/\(∀ b ∈ fp,g7 X pins H' b)/\R J H'
noncomputable def PI (X:Cx) (tg iter:Expr) (wi:TI):Prop :=
 ∀ (pins:List (Addr × Obj)) (s:Shared) (σ:St) (H:Hp) (R:It->Hp->Prop),Inv X pins σ H s->wi σ H R ->
  wpAny (model X.prog X.w) X.A (eval iter X.env) (λv s1=>wpAny (model X.prog X.w) X.A (pyIter v) (PIE X pins σ tg R) X.xe s1) X.xe s
theorem rg {M:Model}{A:Around}{E:Value->Shared->Prop}{s:Shared}{tg:Expr}{it:Addr}{u:Value}{o:Obj}{n:String}{vs:Array Value}{Q:Unit->Shared->Prop} (ho:s.heap.get? it=some o) (hc:o.cls=.type n) (hd:o.data=.fields vs)
    (hn:["enumerate","zip","dict_itemiterator","dict_reverseitemiterator","odict_iterator","itertools.zip_longest","itertools.pairwise"].contains n=false) (hQ:Q () s):wpAny M A (letOwnedTupleGo tg (.ref it) u) Q E s:=by
  unfold letOwnedTupleGo
  cases tg <;> first
    | exact wpAny_pure hQ
    | (cases u <;> first
        | exact wpAny_pure hQ
        | (refine wpAny_bind (wpAny_load ho ?_)
           rw [hc,hd]
           show wpAny M A (if (["enumerate","zip","dict_itemiterator","dict_reverseitemiterator","odict_iterator","itertools.zip_longest","itertools.pairwise"].contains n&&vs[0]? == some (rawInt _))=true then _ else _) Q E s
           rw [if_neg (by intro h;rw [hn,Bool.false_and] at h;cases h)]
           exact wpAny_pure hQ))
noncomputable def Itl (K:PySem.W.Frag) (a:Addr):It :=
 ⟨λi H=>∃ xs x,SqL K H a xs/\xs[i]?=some x,λi H x H'=>H'=H/\∀ xs,SqL K H a xs->xs[i]?=some x,λi H=>∃ xs,SqL K H a xs/\xs.length <= i⟩
noncomputable def Itt (K:PySem.W.Frag) (a:Addr):It :=
 ⟨λi H=>∃ xs x,SqT K H a xs/\xs[i]?=some x,λi H x H'=>H'=H/\∀ xs,SqT K H a xs->xs[i]?=some x,λi H=>∃ xs,SqT K H a xs/\xs.length <= i⟩
noncomputable def Itr (lo:Int) (n:Nat):It:=⟨λi _=>i < n,λi H x H'=>H'=H/\x=.int (lo + i),λi _=>n <= i⟩
theorem pT {P:Program}{w:World}{K:PySem.W.Frag}{tg:Expr} (a it:Addr):m_ P w K tg (Itl K a) [it] it (λi h=>h.IsListIter it a i) where
 mem:=by simp
 obj:=λi h st b hb=>by
  have e:b=it:=by simpa using hb
  subst e
  obtain ⟨o,e,c,d⟩:=st
  exact ⟨o,e,λv z=>by rw [d] at z;cases z⟩
 keep:=λi h h' st k=>st.at λo e=>k it (by simp) o e
 item:=by
  intro X hP hw hK hc i pins s σ H E I hf st hg
  subst hP hw hK
  obtain ⟨xs,x,hq,hx⟩:=hg
  obtain ⟨its,rv,p,hz⟩:=I.list hq
  obtain ⟨u,hu,ru⟩:=rv.get hx
  obtain ⟨f0,f1,f2,f3,f4,f5⟩:=hf it (by simp)
  refine wpAny_pyNext_list_item st p.isList (x:=u) (by simpa using hu) λh' st' sb=>?_
  have I1:Inv X pins σ H { s with heap:=h' }:=I.turned (t':=s.toks) (λb o hb e=>(sb.2 b hb).trans e) f0 f1 f3 f4 f5
  obtain ⟨o,e,c,d⟩:=id st'
  exact ⟨u,rfl,rg (s:={ s with heap:=h' }) e c d (by decide) ⟨x,H,I1,ru,⟨rfl,λys hy=>by rw [I.list_inj hy hq];exact hx⟩,st',λb hb=>(hf b hb).1⟩⟩
 done:=by
  intro X hP hw hK hc i pins s σ H E I hf st hg
  subst hP hw hK
  obtain ⟨xs,hq,hx⟩:=hg
  obtain ⟨its,rv,p,hz⟩:=I.list hq
  obtain ⟨f0,f1,f2,f3,f4,f5⟩:=hf it (by simp)
  have hl:=rv.length
  exact wpAny_pyNext_list_end (I.ok.hd hc) st p.isList (by simp;omega) λh' eb=>⟨rfl,I.turned (t':=s.toks) (λb o hb e=>eb b o hb e) f0 f1 f3 f4 f5⟩
 self:=λ_ _ _ _ _ st h=>wpAny_pyIter_listiter st h
theorem nc {P:Program}{w:World}{K:PySem.W.Frag}{tg:Expr} (a it:Addr):m_ P w K tg (Itt K a) [it] it (λi h=>h.IsTupleIter it a i) where
 mem:=by simp
 obj:=λi h st b hb=>by
  have e:b=it:=by simpa using hb
  subst e
  obtain ⟨o,e,c,d⟩:=st
  exact ⟨o,e,λv z=>by rw [d] at z;cases z⟩
 keep:=λi h h' st k=>st.at λo e=>k it (by simp) o e
 item:=by
  intro X hP hw hK hc i pins s σ H E I hf st hg
  subst hP hw hK
  obtain ⟨xs,x,hq,hx⟩:=hg
  obtain ⟨its,rv,p,hz⟩:=I.tuple hq
  obtain ⟨u,hu,ru⟩:=rv.get hx
  obtain ⟨f0,f1,f2,f3,f4,f5⟩:=hf it (by simp)
  refine wpAny_pyNext_tuple_item st (show s.heap.IsTuple a its.toArray from p) (x:=u) (by simpa using hu) λh' st' sb=>?_
  have I1:Inv X pins σ H { s with heap:=h' }:=I.turned (t':=s.toks) (λb o hb e=>(sb.2 b hb).trans e) f0 f1 f3 f4 f5
  obtain ⟨o,e,c,d⟩:=id st'
  exact ⟨u,rfl,rg (s:={ s with heap:=h' }) e c d (by decide) ⟨x,H,I1,ru,⟨rfl,λys hy=>by rw [I.tuple_inj hy hq];exact hx⟩,st',λb hb=>(hf b hb).1⟩⟩
 done:=by
  intro X hP hw hK hc i pins s σ H E I hf st hg
  subst hP hw hK
  obtain ⟨xs,hq,hx⟩:=hg
  obtain ⟨its,rv,p,hz⟩:=I.tuple hq
  obtain ⟨f0,f1,f2,f3,f4,f5⟩:=hf it (by simp)
  have hl:=rv.length
  exact wpAny_pyNext_tuple_end (I.ok.hd hc) st (show s.heap.IsTuple a its.toArray from p) (by simp;omega) λh' eb=>⟨rfl,I.turned (t':=s.toks) (λb o hb e=>eb b o hb e) f0 f1 f3 f4 f5⟩
 self:=λ_ _ _ _ _ st h=>wpAny_pyIter_tupleiter st h
theorem ng {P:Program}{w:World}{K:PySem.W.Frag}{tg:Expr} (it:Addr) (lo:Int) (n:Nat):m_ P w K tg (Itr lo n) [it] it (λi h=>IsRangeIter h it (lo + (i:Nat) * 1) ((n:Int) - (i:Nat)) 1) where
 mem:=by simp
 obj:=λi h st b hb=>by
  have e:b=it:=by simpa using hb
  subst e
  exact ⟨_,st,λv z=>by
   have z':Data.fields _=Data.cell v:=z
   cases z'⟩
 keep:=λi h h' st k=>k it (by simp) _ st
 item:=by
  intro X hP hw hK hc i pins s σ H E I hf st hg
  subst hP hw hK
  obtain ⟨f0,f1,f2,f3,f4,f5⟩:=hf it (by simp)
  have W:=Walks.range (prog:=X.prog) (w:=X.w) (I.ok.hd hc) it lo 1 n
  refine W.item i s _ _ hg st λv h' tk hv st' kk=>?_
  obtain ⟨t,rfl⟩:=hv
  have I1:Inv X pins σ H { s with heap:=h',toks:=tk }:=I.turned (λb o hb e=>kk b o (by simpa using hb) e) f0 f1 f3 f4 f5
  refine ⟨_,rfl,rg (s:={ s with heap:=h',toks:=tk }) (n:="range_iterator") st' rfl rfl (by decide) ⟨.int (lo + i),H,I1,⟨t,?_⟩,⟨rfl,rfl⟩,st',λb hb=>(hf b hb).1⟩⟩
  rw [Int.mul_one]
 done:=by
  intro X hP hw hK hc i pins s σ H E I hf st hg
  subst hP hw hK
  obtain ⟨f0,f1,f2,f3,f4,f5⟩:=hf it (by simp)
  exact wpAny_pyNext_range_end (I.ok.hd hc) st (by have:n <= i:=hg;omega) λh' eb=>⟨rfl,I.turned (t':=s.toks) (λb o hb e=>eb b o hb e) f0 f1 f3 f4 f5⟩
 self:=λ_ _ _ _ _ st h=>wpAny_pyIter_rangeiter st h
end L2
namespace L2
open PySem PySem.Spec PyProof.Rows
section
variable {X:Cx}{tg:Expr}
noncomputable def Au (K:PySem.W.Frag) (tl:TE):TI:=λσ H R=>tl σ H λx H1=>∃ a,x=.ref a/\(∃ xs,SqL K H1 a xs)/\R (Itl K a) H1
noncomputable def Cq (K:PySem.W.Frag) (tl:TE):TI:=λσ H R=>tl σ H λx H1=>∃ a,x=.ref a/\(∃ xs,SqT K H1 a xs)/\R (Itt K a) H1
theorem k6 {l:Expr}{tl:TE} (hl:PE X l tl):PI X tg l (Au X.K tl):=by
 intro pins s σ H R I h
 refine thn (hl pins s σ H _ I h) λv s1 ⟨x,H1,I1,r1,q1⟩=>?_
 obtain ⟨a,e,⟨xs,hq⟩,q⟩:=q1
 subst e
 cases r1
 obtain ⟨its,rv,p,hz⟩:=I1.list hq
 refine wpAny_pyIter_list p.isList ?_
 refine ⟨s1.heap.objs.size,[s1.heap.objs.size],_,_,H1,rfl,I1.kept (t':=s1.toks) λb o e=>Heap.get?_push_of_some _ e,pT a _,⟨_,Heap.get?_push_size _ rfl,rfl,rfl⟩,λb hb=>?_,q⟩
 have e:b=s1.heap.objs.size:=by simpa using hb
 subst e
 exact I1.fpOk (Nat.le_refl _) (I1.hok.fresh (Nat.le_refl _))
theorem rh {l:Expr}{tl:TE} (hl:PE X l tl):PI X tg l (Cq X.K tl):=by
 intro pins s σ H R I h
 refine thn (hl pins s σ H _ I h) λv s1 ⟨x,H1,I1,r1,q1⟩=>?_
 obtain ⟨a,e,⟨xs,hq⟩,q⟩:=q1
 subst e
 cases r1
 obtain ⟨its,rv,p,hz⟩:=I1.tuple hq
 refine wpAny_pyIter_tuple (show s1.heap.IsTuple a its.toArray from p) ?_
 refine ⟨s1.heap.objs.size,[s1.heap.objs.size],_,_,H1,rfl,I1.kept (t':=s1.toks) λb o e=>Heap.get?_push_of_some _ e,nc a _,⟨_,Heap.get?_push_size _ rfl,rfl,rfl⟩,λb hb=>?_,q⟩
 have e:b=s1.heap.objs.size:=by simpa using hb
 subst e
 exact I1.fpOk (Nat.le_refl _) (I1.hok.fresh (Nat.le_refl _))
theorem lZ {pins:List (Addr × Obj)}{σ:St}{H:Hp}{s:Shared}{R:It->Hp->Prop}{E:Value->Shared->Prop}{lo hi:Int}{t u v:Tok}{tk:Nat} (I:Inv X pins σ H s) (h1:-(2 ^ 62) <= lo) (h2:lo < 2 ^ 62) (h3:-(2 ^ 62) <= hi) (h4:hi < 2 ^ 62)
  (q:R (Itr lo (hi - lo).toNat) H):wpAny (model X.prog X.w) X.A (pyIter (.ref s.heap.objs.size)) (PIE X pins σ tg R) E { s with heap:=s.heap.push { cls:=.type "range",data:=.fields #[.int lo t,.int hi u,.int 1 v] },toks:=tk }:=by
 refine wpAny_pyIter_range (IsRange.new ..) (small_one h1 h2 h3 h4) ?_
 have I1:Inv X pins σ H { s with heap:=s.heap.push { cls:=.type "range",data:=.fields #[.int lo t,.int hi u,.int 1 v] },toks:=tk }:=I.kept λb o e=>Heap.get?_push_of_some _ e
 refine ⟨(s.heap.push { cls:=.type "range",data:=.fields #[.int lo t,.int hi u,.int 1 v] }).objs.size,[(s.heap.push { cls:=.type "range",data:=.fields #[.int lo t,.int hi u,.int 1 v] }).objs.size],_,_,H,rfl,
  I1.kept (t':=tk) λb o e=>Heap.get?_push_of_some _ e,ng _ lo (hi - lo).toNat,?_,λb hb=>?_,q⟩
 ·have e1:lo + ((0:Nat):Int) * 1=lo:=by simp
  have e2:(((hi - lo).toNat:Nat):Int) - ((0:Nat):Int)=Builtin.Range.rangeSize lo hi 1:=by rw [rangeSize_one];split <;> omega
  show IsRangeIter _ _ (lo + ((0:Nat):Int) * 1) ((((hi - lo).toNat:Nat):Int) - ((0:Nat):Int)) 1
  rw [e1,e2]
  exact Heap.get?_push_size _ rfl
 ·have e:b=(s.heap.push { cls:=.type "range",data:=.fields #[.int lo t,.int hi u,.int 1 v] }).objs.size:=by simpa using hb
  subst e
  exact I1.fpOk (Nat.le_refl _) (I1.hok.fresh (Nat.le_refl _))
noncomputable def Av (ta:TA):TI:=λσ H R=>ta σ H λvs H1=>∃ j:Int,vs=[.int j]/\-(2 ^ 62) <= j/\j < 2 ^ 62/\R (Itr 0 j.toNat) H1
noncomputable def Aw (ta:TA):TI:=λσ H R=>ta σ H λvs H1=>∃ i j:Int,vs=[.int i,.int j]/\(-(2 ^ 62) <= i/\i < 2 ^ 62/\-(2 ^ 62) <= j/\j < 2 ^ 62)/\R (Itr i (j - i).toNat) H1
theorem pU {a:Expr}{ta:TA}{p pos:Pos} (hg:Gl X "range") (hm:X.mg "range"=none) (ha:PA X [a] ta) (hs:starEach [a] X.env=[(false,eval a X.env)]:=by rfl):PI X tg (.Call (.Name "range" p) [a] [] pos) (Av ta):=by
 intro pins s σ H R I h
 refine Call_ (g6 I hg hm boot_range (PyProof.Rows.callWith_type1 (thn (ha pos pins s σ H _ I h) λus s1 ⟨vs,H1,I1,r1,q1⟩=>?_) hs rfl))
 obtain ⟨j,e,q1,q2,q⟩:=q1
 subst e
 cases r1 with
 | cons r rr =>
  cases rr
  obtain ⟨t,rfl⟩:=r
  exact call_range_1 (lZ I1 (by omega) (by omega) q1 q2 (by simpa using q))
theorem pV {a b:Expr}{ta:TA}{p pos:Pos} (hg:Gl X "range") (hm:X.mg "range"=none) (ha:PA X [a,b] ta) (hs:starEach [a,b] X.env=[(false,eval a X.env),(false,eval b X.env)]:=by rfl) (hs2:starEach [b] X.env=[(false,eval b X.env)]:=by rfl) :
  PI X tg (.Call (.Name "range" p) [a,b] [] pos) (Aw ta):=by
 intro pins s σ H R I h
 refine Call_ (g6 I hg hm boot_range (PyProof.Rows.callWith_type1 (thn (ha pos pins s σ H _ I h) λus s1 ⟨vs,H1,I1,r1,q1⟩=>?_) (by rw [hs,hs2]) (by rw [hs2];rfl)))
 obtain ⟨i,j,e,⟨q1,q2,q3,q4⟩,q⟩:=q1
 subst e
 cases r1 with
 | cons r rr =>
  cases rr with
  | cons r' rr =>
   cases rr
   obtain ⟨t,rfl⟩:=r
   obtain ⟨t',rfl⟩:=r'
   exact call_range_2 (lZ I1 q1 q2 q3 q4 q)
noncomputable def Ax (wi:TI) (g:TG) (tb:TS):TS:=λD σ H=>wi σ H λJ H1=>∃ W:Nat->Nat->St->Hp->Prop,(∃ m,W 0 m σ H1)/\∀ i m σ H,W i m σ H ->
 (J.stop i H/\D.nx σ H) \/ (J.go i H/\∃ N:St->Hp->Prop,(∀ σ' H',N σ' H'->∃ m',m' < m/\W (i + 1) m' σ' H')/\∀ x H',J.yld i H x H'->g x σ H' λσ2 H2=>tb { D with nx:=N,ct:=N,bk:=D.nx } σ2 H2)
noncomputable def iZ (fp:List Addr) (h:Heap):List (Addr × Obj):=fp.filterMap λb=>(h.get? b).map λo=>(b,o)
theorem eP {fp:List Addr}{h:Heap}{b:Addr}{o:Obj} (hb:b ∈ fp) (e:h.get? b=some o):(b,o) ∈ iZ fp h:=List.mem_filterMap.mpr ⟨b,hb,by rw [e];rfl⟩
theorem pW {fp:List Addr}{h:Heap}{p:Addr × Obj} (hp:p ∈ iZ fp h):p.1 ∈ fp/\h.get? p.1=some p.2:=by
 obtain ⟨b,hb,e⟩:=List.mem_filterMap.mp hp
 cases q:h.get? b with
 | none=>rw [q] at e;cases e
 | some o =>
  rw [q] at e
  have e':(b,o)=p:=Option.some.inj e
  subst e'
  exact ⟨hb,q⟩
theorem Inv.pinned {pins:List (Addr × Obj)}{σ:St}{H:Hp}{s:Shared}{fp:List Addr} (I:Inv X pins σ H s) (hf:∀ b ∈ fp,g7 X pins H b) (ho:∀ b ∈ fp,∃ o,s.heap.get? b=some o/\∀ v,o.data ≠ .cell v):Inv X (pins ++ iZ fp s.heap) σ H s :=
 I.pins_of λp hp=>(List.mem_append.mp hp).elim (λz=>I.pin p (List.mem_append_right _ z)) λz=>by
  obtain ⟨hb,e⟩:=pW z
  obtain ⟨f0,f1,f2,_⟩:=hf p.1 hb
  obtain ⟨o,e',d⟩:=ho p.1 hb
  rw [e] at e';cases e'
  exact ⟨e,f0,f1,f2,d⟩
theorem Inv.unpinned {pins pl:List (Addr × Obj)}{σ:St}{H:Hp}{s:Shared} (I:Inv X (pins ++ pl) σ H s):Inv X pins σ H s:=I.pins_of λp hp=>I.pin p (List.mem_append_right _ (List.mem_append_left _ hp))
theorem ri {iter:Expr}{body:List Stmt}{wi:TI}{g:TG}{tb:TS}{pos:Pos} (hp:PassesOwn (model X.prog X.w) X.A X.env X.xe) (hc:X.calm=true) (hi:PI X tg iter wi) (hg:PG X tg g) (hb:PSs X body tb)
  (hs:∀ x,foldedSetIterable iter X.env x=pure x:=by intro _;rfl):PS X (.For tg iter body [] pos) (Ax wi g tb):=by
 intro pins s σ H D I h
 refine wpAny_For (thn (hi pins s σ H _ I h) λv s1 h1=>thn h1 λitv s2 h2=>?_) hs
 obtain ⟨it,fp,tn,J,H2,e,I2,T,st2,f2,W,⟨m0,w0⟩,turn⟩:=h2
 subst e
 have stat:∀ {H':Hp},(∀ b ∈ fp,H' b=none)->∀ b ∈ fp,g7 X pins H' b:=λhn b hb=>⟨hn b hb,(f2 b hb).2⟩
 refine codeAny_forLoop_any (λn s'=>∃ i σ' H',Inv X pins σ' H' s'/\tn i s'.heap/\(∀ b ∈ fp,H' b=none)/\W i n σ' H') ?_ m0 ⟨0,σ,H2,I2,st2,λb hb=>(f2 b hb).1,w0⟩
 rintro n s3 ⟨i,σ3,H3,I3,st3,fr3,w3⟩
 rcases turn i n σ3 H3 w3 with ⟨stop,qn⟩|⟨go,N,hN,step⟩
 ·refine wpAny_passesOwn hp (thn (T.done X rfl rfl rfl hc i pins s3 σ3 H3 X.xe I3 (stat fr3) st3 stop) λr s4 ⟨hr,I4⟩=>?_)
  subst hr
  exact wpAny_execs_nil ⟨σ3,H3,I4,qn⟩
 ·refine wpAny_passesOwn hp (thn (T.item X rfl rfl rfl hc i pins s3 σ3 H3 X.xe I3 (stat fr3) st3 go) λr s4 ⟨u,hr,h4⟩=>?_)
  subst hr
  refine wpAny_passesOwn hp (thn h4 λ_ s5 ⟨x,H5,I5,r5,y5,st5,fr5⟩=>?_)
  have I5':=I5.pinned (stat fr5) (T.obj _ _ st5)
  refine wpAny_passesOwn hp (thn (hg _ s5 σ3 H5 x u _ I5' r5 (step x H5 y5)) λ_ s6 ⟨σ6,H6,I6,q6⟩=>?_)
  refine wpAny_passesOwn hp (thn (hb _ s6 σ6 H6 _ I6 q6) λf s7 q7=>?_)
  have again:∀ {σ7:St}{H7:Hp},Inv X (pins ++ iZ fp s5.heap) σ7 H7 s7->N σ7 H7->∃ m,m < n/\∃ i σ' H',Inv X pins σ' H' s7/\tn i s7.heap/\(∀ b ∈ fp,H' b=none)/\W i m σ' H':=λ{σ7 H7} I7 n7=>by
   obtain ⟨m',hm,w7⟩:=hN σ7 H7 n7
   refine ⟨m',hm,i + 1,σ7,H7,I7.unpinned,T.keep _ _ _ st5 λb hb o e=>(I7.pin (b,o) (List.mem_append_right _ (List.mem_append_right _ (eP hb e)))).1,λb hb=>?_,w7⟩
   obtain ⟨o,e,d⟩:=T.obj _ _ st5 b hb
   exact (I7.pin (b,o) (List.mem_append_right _ (List.mem_append_right _ (eP hb e)))).2.1
  cases f with
  | next=>obtain ⟨σ7,H7,I7,n7⟩:=q7;exact again I7 n7
  | cont=>obtain ⟨σ7,H7,I7,n7⟩:=q7;exact again I7 n7
  | brk=>obtain ⟨σ7,H7,I7,q7⟩:=q7;exact ⟨σ7,H7,I7.unpinned,q7⟩
  | ret v=>obtain ⟨x7,σ7,H7,I7,r7,q7⟩:=q7;exact ⟨x7,σ7,H7,I7.unpinned,r7,q7⟩
end
end L2
namespace L2
open PySem PySem.Spec PyProof.Rows
noncomputable abbrev R2:=V->V->Hp->VK->Prop
noncomputable def OpR (X:Cx) (f:Value->Value->Sem Value) (r:R2):Prop :=
 ∀ (pins:List (Addr × Obj)) (s:Shared) (σ:St) (H:Hp) (x y:V) (v u:Value) (Q:VK),Inv X pins σ H s->aw x v->aw y u->r x y H Q ->
  wpAny (model X.prog X.w) X.A (f v u) (EP X pins σ Q) X.xe s
noncomputable def cD (X:Cx) (f:Value) (r:List V->Hp->VK->Prop):Prop :=
 ∀ (pins:List (Addr × Obj)) (s:Shared) (σ:St) (H:Hp) (xs:List V) (us:List Value) (Q:VK),Inv X pins σ H s->ar xs us->r xs H Q ->
  wpAny (model X.prog X.w) X.A (call f us) (EP X pins σ Q) X.xe s
noncomputable def tOp (r:R2) (ta tb:TE):TE:=λσ H Q=>ta σ H λx H1=>tb σ H1 λy H2=>r x y H2 Q
noncomputable def rI (C:Int->Int->Prop) (g:Int->Int->V):R2:=λx y H Q=>∃ i j,x=.int i/\y=.int j/\C i j/\Q (g i j) H
noncomputable def rI0 (g:Int->Int->V):R2:=λx y H Q=>∃ i j,x=.int i/\y=.int j/\Q (g i j) H
section
variable {X:Cx}{a b c:Expr}{ta tb tc:TE}{pos:Pos}
theorem xZ (ha:PE X a ta) (hb:PE X b tb) {pins:List (Addr × Obj)}{s:Shared}{σ:St}{H:Hp}{R:V->V->Hp->Prop} (I:Inv X pins σ H s)
  (h:ta σ H λx H1=>tb σ H1 λy H2=>R x y H2) {Q:Value->Shared->Prop}{f:Value->Value->Sem Value}
  (hf:∀ v u s2 x y H2,Inv X pins σ H2 s2->aw x v->aw y u->R x y H2->wpAny (model X.prog X.w) X.A (f v u) Q X.xe s2) :
  wpAny (model X.prog X.w) X.A (eval a X.env) (λv s₁=>wpAny (model X.prog X.w) X.A (eval b X.env) (λu s₂=>wpAny (model X.prog X.w) X.A (f v u) Q X.xe s₂) X.xe s₁) X.xe s:=by
 refine thn (ha pins s σ H _ I h) λv s1 ⟨x,H1,I1,r1,q1⟩=>?_
 refine thn (hb pins s1 σ H1 _ I1 q1) λu s2 ⟨y,H2,I2,r2,q2⟩=>?_
 exact hf v u s2 x y H2 I2 r1 r2 q2
theorem Ay {op:Operator}{r:R2} (ho:OpR X (binaryOp op) r) (ha:PE X a ta) (hb:PE X b tb):PE X (.BinOp a op b pos) (tOp r ta tb):=by
 intro pins s σ H Q I h
 exact wpAny_BinOp (xZ ha hb I h λv u s2 x y H2 I2 rx ry q=>ho pins s2 σ H2 x y v u Q I2 rx ry q)
theorem opI {f:Value->Value->Sem Value}{C:Int->Int->Prop}{g:Int->Int->Int}
  (rule:∀ (i j:Int) (t u:Tok) (s:Shared) (Q:Value->Shared->Prop) (E:Value->Shared->Prop),C i j->Q (.int (g i j) s.toks) { s with toks:=s.toks + 1 }->wpAny (model X.prog X.w) X.A (f (.int i t) (.int j u)) Q E s) :
  OpR X f (rI C λi j=>.int (g i j)):=by
 intro pins s σ H x y v u Q I rx ry h
 obtain ⟨i,j,rfl,rfl,hc,q⟩:=h
 obtain ⟨t,rfl⟩:=rx
 obtain ⟨t',rfl⟩:=ry
 exact rule i j t t' s _ _ hc ⟨.int (g i j),H,I.tok _,⟨_,rfl⟩,q⟩
theorem Az {f:Value->Value->Sem Value}{g:Int->Int->Int}
  (rule:∀ (i j:Int) (t u:Tok) (s:Shared) (Q:Value->Shared->Prop) (E:Value->Shared->Prop),Q (.int (g i j) s.toks) { s with toks:=s.toks + 1 }->wpAny (model X.prog X.w) X.A (f (.int i t) (.int j u)) Q E s) :
  OpR X f (rI0 λi j=>.int (g i j)):=by
 intro pins s σ H x y v u Q I rx ry h
 obtain ⟨i,j,rfl,rfl,q⟩:=h
 obtain ⟨t,rfl⟩:=rx
 obtain ⟨t',rfl⟩:=ry
 exact rule i j t t' s _ _ ⟨.int (g i j),H,I.tok _,⟨_,rfl⟩,q⟩
theorem vg {f:Value->Value->Sem Value}{g:Int->Int->Bool}
  (rule:∀ (i j:Int) (t u:Tok) (s:Shared) (Q:Value->Shared->Prop) (E:Value->Shared->Prop),Q (.bool (g i j)) s->wpAny (model X.prog X.w) X.A (f (.int i t) (.int j u)) Q E s) :
  OpR X f (rI0 λi j=>.bl (g i j)):=by
 intro pins s σ H x y v u Q I rx ry h
 obtain ⟨i,j,rfl,rfl,q⟩:=h
 obtain ⟨t,rfl⟩:=rx
 obtain ⟨t',rfl⟩:=ry
 exact rule i j t t' s _ _ ⟨.bl (g i j),H,I,rfl,q⟩
noncomputable def Cr (i j:Int):Prop:=0 < j/\j < 1073741824
noncomputable def Cs (i j:Int):Prop:=0 <= j/\j <= 1000000/\i.natAbs < 2 ^ 64
noncomputable def x0 (i j:Int):Prop:=(-(2 ^ 64) < i/\i < 2 ^ 64) \/ (-(2 ^ 64) < j/\j < 2 ^ 64)
theorem x0.ok {i j:Int} (h:x0 i j):IntMulOk i j:=by
 rcases h with ⟨h1,h2⟩|⟨h1,h2⟩
 ·exact .of_left (intBits_le_64 h1 h2)
 ·exact .of_right (intBits_le_64 h1 h2)
theorem nh (k:Nat):(0:Int) <= 2 ^ k:=by
 rw [two_pow_cast]
 exact Int.natCast_nonneg _
theorem x2:OpR X (binaryOp .Add) (rI0 λi j=>.int (i + j)):=Az λ_ _ _ _ _ _ _ q=>add_int q
theorem x3:OpR X (binaryOp .Sub) (rI0 λi j=>.int (i - j)):=Az λ_ _ _ _ _ _ _ q=>sub_int q
theorem x4:OpR X (binaryOp .Mult) (rI x0 λi j=>.int (i * j)):=opI λ_ _ _ _ _ _ _ hc q=>mul_int q hc.ok
theorem vh:OpR X (binaryOp .FloorDiv) (rI Cr λi j=>.int (i / j)):=opI λi j _ _ _ _ _ hc q=>by
 have h1:(0:Int) < j:=hc.1
 have h2:j < 1073741824:=hc.2
 exact floordiv_int (by omega) (by rw [Int.fdiv_eq_ediv_of_nonneg i (by omega)];exact q) (.inl (PyProof.noPylong_small (by omega)))
theorem x5:OpR X (binaryOp .Mod) (rI (λ_ j=>0 < j) λi j=>.int (i % j)):=opI λi j _ _ _ _ _ hc q=>by
 have h1:(0:Int) < j:=hc
 exact mod_int' (by omega) (by rw [Int.fmod_eq_emod_of_nonneg i (by omega)];exact q)
theorem x6:OpR X (binaryOp .Pow) (rI Cs λi j=>.int (i ^ j.toNat)):=opI λ_ _ _ _ _ _ _ hc q=>pow_int_small hc.1 hc.2.1 hc.2.2 q
theorem x9:OpR X (binaryOp .RShift) (rI (λ_ j=>0 <= j) λi j=>.int (i / 2 ^ j.toNat)):=opI λi j _ _ _ _ _ hc q =>
 rshift_int hc (by rw [Int.fdiv_eq_ediv_of_nonneg i (nh _)];exact q)
end
noncomputable def scal:V->V->Bool
 | .non,.non=>true|.non,.int _=>true|.int _,.non=>true|.non,.bl _=>true|.bl _,.non=>true|.non,.str _=>true|.str _,.non=>true
 | .int _,.int _=>true|.bl _,.bl _=>true|.str _,.str _=>true|.byt _,.byt _=>true
 | .int _,.str _=>true|.str _,.int _=>true|.bl _,.str _=>true|.str _,.bl _=>true
 | _,_=>false
noncomputable def rNe:R2:=λx y H Q=>scal x y=true/\Q (.bl (!decide (x=y))) H
theorem oB {i j:Int}:decide (V.int i=V.int j)=(i == j):=by
 rw [Bool.eq_iff_iff]
 simp
theorem rj {i j:Bool}:decide (V.bl i=V.bl j)=(i == j):=by
 rw [Bool.eq_iff_iff]
 simp
theorem oC {i j:Str}:decide (V.str i=V.str j)=(i == j):=by
 rw [Bool.eq_iff_iff]
 simp
theorem vi {i j:Array UInt8}:decide (V.byt i=V.byt j)=(i.toList == j.toList):=by
 rw [Bool.eq_iff_iff]
 cases i
 cases j
 simp
section
variable {X:Cx}{a b c:Expr}{ta tb tc:TE}{pos:Pos}
theorem bC {pins:List (Addr × Obj)}{σ:St}{H:Hp}{s:Shared}{Q:VK}{k k':Bool} (I:Inv X pins σ H s) (q:Q (.bl k) H) (e:k=k'):EP X pins σ Q (.bool k') s:=by
 subst e
 exact ⟨.bl k,H,I,rfl,q⟩
theorem AA:OpR X (compareOp .NotEq) rNe:=by
 intro pins s σ H x y v u Q I rx ry h
 obtain ⟨hs,q⟩:=h
 cases x with
 | non =>
  cases rx
  cases y with
  | non=>cases ry;exact PySem.EqNone.ne_none_none (bC I q (by simp))
  | bl j=>cases ry;exact PySem.EqNone.ne_none_bool (bC I q (by simp))
  | int j=>obtain ⟨t',rfl⟩:=ry;exact PySem.EqNone.ne_none_int (bC I q (by simp))
  | str j=>obtain ⟨t',rfl⟩:=ry;exact PySem.EqNone.ne_none_str (bC I q (by simp))
  | _=>exact absurd (show false=true from hs) Bool.false_ne_true
 | bl i =>
  cases rx
  cases y with
  | non=>cases ry;exact PySem.EqNone.ne_bool_none (bC I q (by simp))
  | bl j=>cases ry;exact ne_bool (bC I q (congrArg not rj))
  | str j=>obtain ⟨t',rfl⟩:=ry;exact PySem.EqMixed.ne_bool_str (bC I q (by simp))
  | _=>exact absurd (show false=true from hs) Bool.false_ne_true
 | int i =>
  obtain ⟨t,rfl⟩:=rx
  cases y with
  | non=>cases ry;exact PySem.EqNone.ne_int_none (bC I q (by simp))
  | int j=>obtain ⟨t',rfl⟩:=ry;exact ne_int (bC I q (congrArg not oB))
  | str j=>obtain ⟨t',rfl⟩:=ry;exact PySem.EqMixed.ne_int_str (bC I q (by simp))
  | _=>exact absurd (show false=true from hs) Bool.false_ne_true
 | str i =>
  obtain ⟨t,rfl⟩:=rx
  cases y with
  | non=>cases ry;exact PySem.EqNone.ne_str_none (bC I q (by simp))
  | bl j=>cases ry;exact PySem.EqMixed.ne_str_bool (bC I q (by simp))
  | int j=>obtain ⟨t',rfl⟩:=ry;exact PySem.EqMixed.ne_str_int (bC I q (by simp))
  | str j=>obtain ⟨t',rfl⟩:=ry;exact ne_str (bC I q (congrArg not oC))
  | _=>exact absurd (show false=true from hs) Bool.false_ne_true
 | byt i =>
  obtain ⟨t,rfl⟩:=rx
  cases y with
  | byt j=>obtain ⟨t',rfl⟩:=ry;exact PySem.W.ne_bytes (bC I q (congrArg not vi))
  | _=>exact absurd (show false=true from hs) Bool.false_ne_true
 | _=>cases y <;> exact absurd (show false=true from hs) Bool.false_ne_true
theorem AB:OpR X (compareOp .Lt) (rI0 λi j=>.bl (decide (i < j))):=vg λ_ _ _ _ _ _ _ q=>lt_int q
theorem AC:OpR X (compareOp .LtE) (rI0 λi j=>.bl (decide (i <= j))):=vg λ_ _ _ _ _ _ _ q=>le_int q
theorem AD:OpR X (compareOp .Gt) (rI0 λi j=>.bl (decide (j < i))):=vg λ_ _ _ _ _ _ _ q=>gt_int q
theorem AE:OpR X (compareOp .GtE) (rI0 λi j=>.bl (decide (j <= i))):=vg λ_ _ _ _ _ _ _ q=>ge_int q
theorem x_:OpR X (compareOp .Is) (λx y H Q=>y=.non/\Q (.bl (decide (x=.non))) H):=by
 intro pins s σ H x y v u Q I rx ry h
 obtain ⟨rfl,q⟩:=h
 cases ry
 refine is_none_gen (bC I q ?_)
 cases x <;> first
  | (cases rx;rfl)
  | (obtain ⟨t,rfl⟩:=rx;rfl)
theorem vj:OpR X (compareOp .IsNot) (λx y H Q=>y=.non/\Q (.bl (!decide (x=.non))) H):=by
 intro pins s σ H x y v u Q I rx ry h
 obtain ⟨rfl,q⟩:=h
 cases ry
 refine isnot_none_gen (bC I q ?_)
 cases x <;> first
  | (cases rx;rfl)
  | (obtain ⟨t,rfl⟩:=rx;rfl)
theorem k7 {op:CmpOp}{r:R2} (ho:OpR X (compareOp op) r) (ha:PE X a ta) (hb:PE X b tb) (hm:behindInMarks op b=false):PE X (.Compare a [op] [b] pos) (tOp r ta tb):=by
 intro pins s σ H Q I h
 exact wpAny_Compare1 (xZ ha hb I h λv u s2 x y H2 I2 rx ry q=>ho pins s2 σ H2 x y v u Q I2 rx ry q) hm
noncomputable def xl (t:TE):TT:=λσ H Q=>t σ H λx H'=>∃ k,x=.bl k/\Q k H'
theorem oE {op:CmpOp}{r:R2} (ho:OpR X (compareOp op) r) (ha:PE X a ta) (hb:PE X b tb) (hm:behindInMarks op b=false):PT X (.Compare a [op] [b] pos) (xl (tOp r ta tb)):=by
 intro pins s σ H Q I h
 refine wpAny_isTrue_Compare1 (thn (ha pins s σ H _ I h) λv s1 ⟨x,H1,I1,r1,q1⟩=>thn (hb pins s1 σ H1 _ I1 q1) λu s2 ⟨y,H2,I2,r2,q2⟩ =>
  thn (ho pins s2 σ H2 x y v u _ I2 r1 r2 q2) λc s3 ⟨z,H3,I3,r3,k,e,q3⟩=>?_) hm
 subst e
 cases r3
 exact wpAny_truthy_bool ⟨H3,I3,q3⟩
noncomputable def rk (r r':R2) (ta tb tc:TE):TE:=λσ H Q=>ta σ H λx H1=>tb σ H1 λy H2=>r x y H2 λz H3=>∃ k,z=.bl k /\
 (if k=true then tc σ H3 λw' H4=>r' y w' H4 Q else Q (.bl false) H3)
theorem rl {op op':CmpOp}{r r':R2} (ho:OpR X (compareOp op) r) (ho':OpR X (compareOp op') r') (ha:PE X a ta) (hb:PE X b tb) (hc:PE X c tc)
  (hm:lastMarks [op,op'] [b,c]=false:=by with_unfolding_all rfl):PE X (.Compare a [op,op'] [b,c] pos) (rk r r' ta tb tc):=by
 intro pins s σ H Q I h
 refine Compare_chain (thn (ha pins s σ H _ I h) λv s1 ⟨x,H1,I1,r1,q1⟩=>chain_link (thn (hb pins s1 σ H1 _ I1 q1) λu s2 ⟨y,H2,I2,r2,q2⟩ =>
  thn (ho pins s2 σ H2 x y v u _ I2 r1 r2 q2) λd s3 ⟨z,H3,I3,r3,k,e,q3⟩=>?_)) hm
 subst e
 cases r3
 refine wpAny_truthy_bool ?_
 cases k with
 | false=>exact ite_ff ⟨.bl false,H3,I3,rfl,q3⟩
 | true=>exact ite_tt (chain_last (thn (hc pins s3 σ H3 _ I3 q3) λw' s4 ⟨z',H4,I4,r4,q4⟩=>ho' pins s4 σ H4 y z' u w' Q I4 r2 r4 q4))
theorem rm {op op':CmpOp}{r r':R2} (ho:OpR X (compareOp op) r) (ho':OpR X (compareOp op') r') (ha:PE X a ta) (hb:PE X b tb) (hc:PE X c tc)
  (hm:lastMarks [op,op'] [b,c]=false:=by with_unfolding_all rfl):PT X (.Compare a [op,op'] [b,c] pos) (xl (rk r r' ta tb tc)):=by
 intro pins s σ H Q I h
 refine isTrue_chain (thn (ha pins s σ H _ I h) λv s1 ⟨x,H1,I1,r1,q1⟩=>test_link (thn (hb pins s1 σ H1 _ I1 q1) λu s2 ⟨y,H2,I2,r2,q2⟩ =>
  thn (ho pins s2 σ H2 x y v u _ I2 r1 r2 q2) λd s3 ⟨z,H3,I3,r3,k,e,q3⟩=>?_)) hm
 subst e
 cases r3
 refine wpAny_truthy_bool ?_
 cases k with
 | false =>
  obtain ⟨k',e',q'⟩:=q3
  cases e'
  exact ite_ff ⟨H3,I3,q'⟩
 | true =>
  refine ite_tt (test_last (thn (hc pins s3 σ H3 _ I3 q3) λw' s4 ⟨z',H4,I4,r4,q4⟩=>thn (ho' pins s4 σ H4 y z' u w' _ I4 r2 r4 q4) λd' s5 ⟨z2,H5,I5,r5,k2,e2,q5⟩=>?_))
  subst e2
  cases r5
  exact wpAny_truthy_bool ⟨H5,I5,q5⟩
theorem i3:(sizeLine:Nat) < 2 ^ 63:=by rw [sizeLine_eq];decide
theorem ni:OpR X (binaryOp .Add) (λx y H Q=>∃ i j,x=.str i/\y=.str j/\i.length + j.length <= sizeLine/\Q (.str (i ++ j)) H):=by
 intro pins s σ H x y v u Q I rx ry h
 obtain ⟨i,j,rfl,rfl,hz,q⟩:=h
 obtain ⟨t,rfl⟩:=rx
 obtain ⟨t',rfl⟩:=ry
 exact add_str (λt' tk=>⟨.str (i ++ j),H,I.tok _,⟨_,rfl⟩,q⟩) hz
theorem ir {x:V}{us:List Value} (r:ar [x] us):∃ u,us=[u]/\aw x u:=by
 cases r with
 | cons r1 r2=>cases r2;exact ⟨_,rfl,r1⟩
theorem AF {x y:V}{us:List Value} (r:ar [x,y] us):∃ u w',us=[u,w']/\aw x u/\aw y w':=by
 cases r with
 | cons r1 r2 =>
  cases r2 with
  | cons r3 r4=>cases r4;exact ⟨_,_,rfl,r1,r3⟩
end
end L2
namespace L2
open PySem PySem.Spec PyProof.Rows
structure nj (h:Heap) (x dx C:Addr) (mA:Str->Option Value):Prop where
 obj:h.get? x=some (PySem.W.instObj C dx)
 ns:h.Ns1 dx mA
 ne:dx ≠ x
theorem pX {h:Heap}{dx:Addr}{mA:Str->Option Value} (n:h.Ns1 dx mA):∃ od,h.get? dx=some od/\∀ name,PySem.W.lookIn name od=some (mA name):=by
 obtain ⟨o,es,ep,ho,hd,hk,_,hm⟩:=n
 refine ⟨o,ho,λname=>?_⟩
 have e:=hm name
 unfold nsFind findBy at e
 rw [<- Array.find?_toList] at e
 unfold PySem.W.lookIn
 rw [hd]
 dsimp only
 split
 ·rename_i y q
  rw [q] at e
  exact congrArg some e
 ·rename_i q
  rw [q] at e
  have a:es.toList.any (·.refKey)=false:=by
   rw [List.any_eq_false]
   intro y hy
   obtain ⟨z,t,hkey⟩:=hk y (Array.mem_toList_iff.mp hy)
   simp [DictEntry.refKey,hkey]
  have a':¬ es.toList.any (·.refKey)=true:=by rw [a];exact Bool.false_ne_true
  rw [if_neg a']
  exact congrArg some e
theorem nj.look {h:Heap}{x dx C:Addr}{mA:Str->Option Value} (I:nj h x dx C mA):∃ od,PySem.W.InstAt h x (PySem.W.instObj C dx) C (some od)/\∀ name,PySem.W.lookIn name od=some (mA name) :=
 let ⟨od,ho,hl⟩:=pX I.ns
 ⟨od,⟨I.obj,rfl,rfl,ho⟩,hl⟩
section
variable {prog:Program}{w:World}{A:Around}{E:Value->Shared->Prop}{s:Shared}{K:PySem.W.Frag}{x dx C f:Addr}{mA:Str->Option Value}{name:Str}{v:Value}
theorem vk {expr:Bool}{Q:Value->Shared->Prop} (X:K.In s.heap) (I:nj s.heap x dx C mA) (hg:PySem.W.plainGet K C name=true) (hh:PySem.W.hasDictIn K C=true)
  (ha:PySem.W.findIn K (.ref C) name=some none) (hv:mA name=some v) (hv':PySem.W.handedIn v=true) (h:Q v { s with toks:=s.toks + 1 }) :
  wpAny (model prog w) A (getAttr (.ref x) name expr) Q E s:=by
 obtain ⟨od,J,hl⟩:=I.look
 exact PySem.W.get_value X J (PySem.W.plainGet_of hg).1 (PySem.W.findObj_own hh ha rfl (by rw [hl,hv])) hv' h
theorem rn {pl:Sem Bool}{Q:Value × List Value->Shared->Prop} (X:K.In s.heap) (I:nj s.heap x dx C mA) (hg:PySem.W.plainGet K C name=true)
  (hf:PySem.W.findIn K (.ref C) name=some (some (.ref f))) (ht:PySem.W.isFn K (.ref f)=true) (hv:mA name=none) (h:Q (.ref f,[.ref x]) s) :
  wpAny (model prog w) A (getMethod (.ref x) name pl) Q E s:=by
 obtain ⟨od,J,hl⟩:=I.look
 exact PySem.W.method_fn X J (PySem.W.plainGet_of hg).1 (PySem.W.plainGet_of hg).2 hf (beq_iff_eq.mp ht) (by show (PySem.W.lookIn name od).map (·.isSome)=some false;rw [hl,hv];rfl) h
theorem vm {ns:List Str}{Q:Unit->Shared->Prop} (X:K.In s.heap) (I:nj s.heap x dx C mA)
  (hs:PySem.W.findIn K (.ref C) "__setattr__"=some (some (.builtin "object.__setattr__"))) (hp:PySem.W.plainOver K C=true) (ht:PySem.W.takerIn K C name=some none) (hh:PySem.W.hasDictIn K C=true)
  (hw:PySem.Within mA ns) (hsz:ns.length <= sizeLine)
  (h:∀ h',nj h' x dx C (λy=>if y=name then some v else mA y)->Heap.SameBut dx s.heap h'->Q () { s with heap:=h',toks:=s.toks + 2 }) :
  wpAny (model prog w) A (setAttr (.ref x) name v) Q E s:=by
 obtain ⟨od,J,hl⟩:=I.look
 refine PySem.W.set_plain X J hs (PySem.W.osa_open (s:={ s with toks:=s.toks + 1 }) (r:=none) X J hp ht λb=>?_)
 obtain ⟨cd,hc,hd'⟩:=PySem.W.any_some hh
 have hx:s.heap.get? x=some ⟨.ref C,some dx,.plain,#[]⟩:=I.obj
 refine wpAny_bind (wpAny_pure (wpAny_bind (wpAny_bind (wpAny_loadPart hx (wpAny_bind (PySem.W.Looks.here (s:={ s with toks:=s.toks + 1 }) (PySem.W.looks_clsIn X hc) ?_))))))
 rw [hd']
 refine wpAny_pure (a:=some dx) (wpAny_bind (wpAny_pure (wpAny_bind ?_)))
 refine wpAny_nsSet1 (s:={ s with toks:=s.toks + 1 }) I.ns λh' hn2 hs2=>?_
 obtain ⟨oD,esD,epD,hoD,hdD,hcD⟩:=hn2.count (PySem.Within.cons name v hw)
 refine wpAny_bind (wpAny_lookBehind hoD (by rw [hdD];exact pastItsLine_dict (Nat.le_trans hcD (by rw [List.length_cons];omega))) ?_)
 exact wpAny_pure (h _ ⟨(hs2.2 _ (Ne.symm I.ne)).trans I.obj,hn2,I.ne⟩ hs2)
theorem rq {R:Result->Shared->Prop}{vs:List Value}{kw:List (Str × Value)} (X:K.In s.heap) (hm:PySem.W.makesIn K C=true)
  (hi:PySem.W.findIn K (.ref C) "__init__"=some (some (.ref f))) (hf:PySem.W.typeIn K (.ref f)=some (.type "function"))
  (h:codeAny (model prog w) (A.under (.builtin "type.__call__" ⟨.ref C::vs,kw⟩)) (.call (.ref f) ⟨.ref (s.heap.objs.size + 1)::vs,kw⟩) (PySem.W.InitBack (s.heap.objs.size + 1) R)
   { s with heap:=(s.heap.push PySem.W.emptyDict).push (PySem.W.instObj C s.heap.objs.size) }) :
  codeAny (model prog w) A (.call (.ref C) ⟨vs,kw⟩) R s:=by
 obtain ⟨hh,g,d,t,os⟩:=s
 exact PySem.W.make_core (PySem.W.makes_of X hm) (PySem.W.looks_findIn X hi) (λself=>PySem.W.bind_fn X self hf) (.inl rfl) h
end
noncomputable def dH (f:Str) (v:V):List (Str × V)->List (Str × V)
 | []=>[(f,v)]
 | (g,x)::r=>if g=f then (g,v)::r else (g,x)::dH f v r
theorem aE (f g:Str) (v:V):∀ fs:List (Str × V),(dH f v fs).lookup g=if g=f then some v else fs.lookup g
 | []=>by
  show List.lookup g [(f,v)]=_
  by_cases h:g=f
  ·have hb:(g == f)=true:=beq_iff_eq.mpr h
   simp only [List.lookup,hb,if_pos h]
  ·have hb:(g == f)=false:=beq_eq_false_iff_ne.mpr h
   simp only [List.lookup,hb,if_neg h]
 | (k,x)::r=>by
  have ih:=aE f g v r
  rw [show dH f v ((k,x)::r)=(if k=f then (k,v)::r else (k,x)::dH f v r) from rfl]
  by_cases hk:k=f
  ·rw [if_pos hk]
   by_cases h:g=k
   ·have hb:(g == k)=true:=beq_iff_eq.mpr h
    simp only [List.lookup,hb,if_pos (h.trans hk)]
   ·have hb:(g == k)=false:=beq_eq_false_iff_ne.mpr h
    simp only [List.lookup,hb,if_neg (λe:g=f=>h (e.trans hk.symm))]
  ·rw [if_neg hk]
   by_cases h:g=k
   ·have hb:(g == k)=true:=beq_iff_eq.mpr h
    simp only [List.lookup,hb,if_neg (λe:g=f=>hk (h.symm.trans e))]
   ·have hb:(g == k)=false:=beq_eq_false_iff_ne.mpr h
    simp only [List.lookup,hb]
    exact ih
theorem g8 (f:Str) (v:V):∀ fs:List (Str × V),f ∈ (dH f v fs).map (·.1)/\∀ g,g ∈ fs.map (·.1)->g ∈ (dH f v fs).map (·.1)
 | []=>⟨by simp [dH],λg h=>by simp at h⟩
 | (k,x)::r=>by
  obtain ⟨i1,i2⟩:=g8 f v r
  rw [show dH f v ((k,x)::r)=(if k=f then (k,v)::r else (k,x)::dH f v r) from rfl]
  by_cases hk:k=f
  ·rw [if_pos hk]
   subst hk
   exact ⟨by simp,λg h=>by simpa using h⟩
  ·rw [if_neg hk]
   refine ⟨?_,λg h=>?_⟩
   ·rw [List.map_cons]
    exact List.mem_cons_of_mem _ i1
   ·rw [List.map_cons] at h ⊢
    rcases List.mem_cons.mp h with e|e
    ·exact List.mem_cons.mpr (.inl e)
    ·exact List.mem_cons_of_mem _ (i2 g e)
theorem iu (f:Str) (v:V):∀ fs:List (Str × V),(dH f v fs).length <= fs.length + 1
 | []=>by simp [dH]
 | (k,x)::r=>by
  have ih:=iu f v r
  rw [show dH f v ((k,x)::r)=(if k=f then (k,v)::r else (k,x)::dH f v r) from rfl]
  by_cases hk:k=f
  ·rw [if_pos hk,List.length_cons,List.length_cons];omega
  ·rw [if_neg hk,List.length_cons,List.length_cons];omega
theorem fk.some_of {v:V}{o:Option Value} (r:fk (some v) o):∃ u,o=some u/\aw v u:=by
 cases o with
 | none=>exact (show False from r).elim
 | some u=>exact ⟨u,rfl,r⟩
theorem fk.none_of {o:Option Value} (r:fk none o):o=none:=by
 cases o with
 | none=>rfl
 | some u=>exact (show False from r).elim
theorem pY {v:V}{u:Value} (r:aw v u):PySem.W.handedIn u=true:=by
 cases v with
 | non=>cases (show u=Value.none from r);rfl
 | bl b=>cases (show u=Value.bool b from r);rfl
 | int i=>obtain ⟨t,e⟩:=(show ∃ t,u=Value.int i t from r);cases e;rfl
 | str x=>obtain ⟨t,e⟩:=(show ∃ t,u=Value.str x t from r);cases e;rfl
 | byt b=>obtain ⟨t,e⟩:=(show ∃ t,u=Value.bytes b t from r);cases e;rfl
 | flt b=>obtain ⟨t,e⟩:=(show ∃ t,u=Value.float b t from r);cases e;rfl
 | ref a=>cases (show u=Value.ref a from r);rfl
 | ty n=>cases (show u=Value.type n from r);rfl
section
variable {P:Program}{w:World}{H H':Hp}{h h':Heap}{a C dx:Addr}{fs fs':List (Str × V)}
theorem k8 (hok:HOk P w H h) (e:H a=some (.ins C dx fs)):∃ mA,nj h a dx C mA/\(∀ f,fk (fs.lookup f) (mA f))/\PySem.Within mA (fs.map (·.1))/\fs.length <= 1000/\H dx=some (.own a):=by
 obtain ⟨d,z,ne,ob,mA,n,r,q⟩:=(show bw P w H h a (.ins C dx fs) from hok a _ e)
 exact ⟨mA,⟨ob,n,ne⟩,r,q,z,d⟩
end
structure Cls (K:PySem.W.Frag) (C:Addr):Prop where
 pg:PySem.W.plainGet K C Str.empty=true
 hd:PySem.W.hasDictIn K C=true
 po:PySem.W.plainOver K C=true
 sa:PySem.W.findIn K (.ref C) "__setattr__"=some (some (.builtin "object.__setattr__"))
theorem Cls.get {K:PySem.W.Frag}{C:Addr} (c:Cls K C) (f:Str):PySem.W.plainGet K C f=true:=c.pg
noncomputable def dJ (K:PySem.W.Frag) (C:Addr) (f:Str):Prop:=PySem.W.findIn K (.ref C) f=some none
theorem dJ.taker {K:PySem.W.Frag}{C:Addr}{f:Str} (n:dJ K C f):PySem.W.takerIn K C f=some none:=by
 unfold PySem.W.takerIn
 rw [show PySem.W.findIn K (.ref C) f=some none from n]
 rfl
structure jP (K:PySem.W.Frag) (C:Addr) (m:Str) (f:Addr):Prop where
 at_:PySem.W.findIn K (.ref C) m=some (some (.ref f))
 fn:PySem.W.isFn K (.ref f)=true
 kp:PySem.W.keepIn K (.ref f)=true
section
variable {X:Cx}{pins:List (Addr × Obj)}{σ:St}{H:Hp}{s:Shared}{a C dx:Addr}{fs:List (Str × V)}{f:Str}{v:V}{A:Around}{E:Value->Shared->Prop}
theorem nk {b:Bool}{Q:Value->Shared->Prop} (I:Inv X pins σ H s) (e:H a=some (.ins C dx fs)) (c:Cls X.K C) (n:dJ X.K C f) (l:fs.lookup f=some v)
  (h:∀ u s',Inv X pins σ H s'->aw v u->Q u s'):wpAny (model X.prog X.w) A (getAttr (.ref a) f b) Q E s:=by
 obtain ⟨mA,O,r,_,_,_⟩:=k8 I.hok e
 obtain ⟨u,hu,ru⟩:=fk.some_of (v:=v) (o:=mA f) (by rw [<- l];exact r f)
 exact vk I.kIn O (c.get f) c.hd n hu (pY ru) (h u _ (I.tok _) ru)
theorem eQ {m:Str}{g:Addr}{pl:Sem Bool}{Q:Value × List Value->Shared->Prop} (I:Inv X pins σ H s) (e:H a=some (.ins C dx fs)) (c:Cls X.K C) (k:jP X.K C m g) (l:fs.lookup m=none)
  (h:Q (.ref g,[.ref a]) s):wpAny (model X.prog X.w) A (getMethod (.ref a) m pl) Q E s:=by
 obtain ⟨mA,O,r,_,_,_⟩:=k8 I.hok e
 have hn:mA m=none:=fk.none_of (by rw [<- l];exact r m)
 exact rn I.kIn O (c.get m) k.at_ k.fn hn h
theorem nn {y:V}{u:Value}{Q:Unit->Shared->Prop} (I:Inv X pins σ H s) (e:H a=some (.ins C dx fs)) (c:Cls X.K C) (n:dJ X.K C f) (hl:fs.length < 1000) (ry:aw y u)
  (h:∀ s',Inv X pins σ (upd H a (.ins C dx (dH f y fs))) s'->Q () s'):wpAny (model X.prog X.w) A (setAttr (.ref a) f u) Q E s:=by
 obtain ⟨mA,O,r,wi,_,ho⟩:=k8 I.hok e
 have hz:(fs.map (·.1)).length <= sizeLine:=by rw [List.length_map,sizeLine_eq];omega
 refine vm I.kIn O c.sa c.po n.taker c.hd wi hz λh' O' sb=>h _ ?_
 have hd:∃ o,h'.get? dx=some o:=let ⟨o,_,_,e',_⟩:=O'.ns;⟨o,e'⟩
 refine I.write (x:=a) (e:=dx) (by rw [e];exact True.intro) (.inr ho) (λb q hb z=>(sb.2 b hb).trans z) hd ?_
 refine ⟨by rw [ak O.ne];exact ho,?_,O.ne,O'.obj,_,O'.ns,λg=>?_,λg hg=>?_⟩
 ·have:=iu f y fs;omega
 ·show fk ((dH f y fs).lookup g) (if g=f then some u else mA g)
  rw [aE]
  by_cases q:g=f
  ·rw [if_pos q,if_pos q];exact ry
  ·rw [if_neg q,if_neg q];exact r g
 ·by_cases q:g=f
  ·rw [q];exact (g8 f y fs).1
  ·refine (g8 f y fs).2 g (wi g λz=>hg ?_)
   show (if g=f then some u else mA g)=none
   rw [if_neg q];exact z
theorem Inv.made (I:Inv X pins σ H s):Inv X pins σ (upd (upd H s.heap.objs.size (.own (s.heap.objs.size + 1))) (s.heap.objs.size + 1) (.ins C s.heap.objs.size []))
  { s with heap:=(s.heap.push PySem.W.emptyDict).push (PySem.W.instObj C s.heap.objs.size) }:=by
 have e1:(s.heap.push PySem.W.emptyDict).get? s.heap.objs.size=some PySem.W.emptyDict:=Heap.get?_push_size s.heap rfl
 have e2:((s.heap.push PySem.W.emptyDict).push (PySem.W.instObj C s.heap.objs.size)).get? (s.heap.objs.size + 1)=some (PySem.W.instObj C s.heap.objs.size):=by
  have:=Heap.get?_push_size (s.heap.push PySem.W.emptyDict) (o:=PySem.W.instObj C s.heap.objs.size) rfl
  rwa [Heap.size_push] at this
 have e3:(s.heap.push PySem.W.emptyDict).Ns s.heap.objs.size (λ_=>none):=⟨PySem.W.emptyDict,#[],_,e1,rfl,(λe he=>absurd he (by simp)),λ_=>rfl⟩
 have I1:=I.laid (a:=s.heap.objs.size) (o:=.own (s.heap.objs.size + 1)) (h':=s.heap.push PySem.W.emptyDict) (t':=s.toks) (λb u q=>Heap.get?_push_of_some _ q) (Nat.le_refl _) ⟨_,e1⟩
 refine I1.laid (a:=s.heap.objs.size + 1) (o:=.ins C s.heap.objs.size []) (t':=s.toks) (λb u q=>Heap.get?_push_of_some _ q) (Nat.le_of_eq (Heap.size_push _ _)) ?_
 have ne:s.heap.objs.size ≠ s.heap.objs.size + 1:=Nat.ne_of_lt (Nat.lt_succ_self _)
 refine ⟨by rw [ak ne,av],Nat.zero_le _,ne,e2,λ_=>none,(Heap.Ns1.of_empty e3).at λo q=>Heap.get?_push_of_some _ q,λ_=>True.intro,λy hy=>absurd rfl hy⟩
theorem vn {prog:Program}{w:World}{env:Env}{e:Expr}{f:Str}{pos:Pos}{s:Shared}{Q:Value->Shared->Prop} (hb:attributeBase e f env (eval e env)=eval e env)
  (h:wpAny (model prog w) A (eval e env) (λo s₁=>wpAny (model prog w) A (getAttr o f true) Q E s₁) E s):wpAny (model prog w) A (eval (.Attribute e f pos) env) Q E s :=
 Attribute_any_ h (by rw [arm_eval_Attribute,hb])
end
noncomputable def AG (K:PySem.W.Frag) (ta:TE) (f:Str):TE:=λσ H Q=>ta σ H λx H1=>∃ a C dx fs v,x=.ref a/\H1 a=some (.ins C dx fs)/\Cls K C/\dJ K C f/\fs.lookup f=some v/\Q v H1
noncomputable def Ct (K:PySem.W.Frag) (ta tv:TE) (f:Str):TS:=λD σ H=>tv σ H λy H1=>ta σ H1 λx H2=>∃ a C dx fs,x=.ref a/\H2 a=some (.ins C dx fs)/\Cls K C/\dJ K C f/\fs.length < 1000 /\
 D.nx σ (upd H2 a (.ins C dx (dH f y fs)))
section
variable {X:Cx}{o e value:Expr}{f:Str}{pos pos' tpos:Pos}{ta tv:TE}
theorem ya (he:PE X e ta) (hb:attributeBase e f X.env (eval e X.env)=eval e X.env):PE X (.Attribute e f pos) (AG X.K ta f):=by
 intro pins s σ H Q I h
 refine vn hb (thn (he pins s σ H _ I h) λu s1 ⟨x,H1,I1,rx,a,C,dx,fs,v,ex,ea,c,n,l,q⟩=>?_)
 subst ex
 obtain rfl:u=Value.ref a:=rx
 exact nk I1 ea c n l λu' s2 I2 ru=>⟨v,H1,I2,ru,q⟩
theorem k9 (ha:PE X o ta) (hv:PE X value tv) (hs:swapsWith value (some (.Attribute o f pos')) pos.line X.env=pure false):PS X (.Assign [.Attribute o f pos'] value pos) (Ct X.K ta tv f):=by
 intro pins s σ H D I h
 refine plainObj_wpAny_Assign_Attribute (thn (hv pins s σ H _ I h) λu s1 ⟨y,H1,I1,ry,q⟩=>thn (ha pins s1 σ H1 _ I1 q) λov s2 ⟨x,H2,I2,rx,a,C,dx,fs,ex,ea,c,n,l,q2⟩=>?_) hs
 subst ex
 obtain rfl:ov=Value.ref a:=rx
 exact nn I2 ea c n l ry λs3 I3=>⟨σ,_,I3,q2⟩
end
section
variable {X:Cx}{pins:List (Addr × Obj)}{σ:St}{H:Hp}{s:Shared}{A:Around}{E:Value->Shared->Prop}{Q:Value->Shared->Prop}{c:Value}{b:Bool}
end
end L2
namespace L2
open PySem PySem.Spec PyProof.Rows
structure cX (k:Nat) (A:Around):Prop where
 hd:A.handled=none
 dp:A.depth + 3 * k + 5 < recursionLimit
 un:A.units + 16 * k + 200 < cLine
theorem cX.mono {j k:Nat}{A:Around} (r:cX k A) (h:j <= k):cX j A:=⟨r.hd,by have:=r.dp;omega,by have:=r.un;omega⟩
theorem cX.deeper {k:Nat}{A:Around} (r:cX (k + 1) A) (env:Env):cX k (A.deeper env) :=
 ⟨r.hd,by have:=r.dp;show A.depth + 1 + 3 * k + 5 < _;omega,by have:=r.un;show A.units + 3 + 16 * k + 200 < _;omega⟩
theorem nq {A:Around}{C:Addr}{us:List Value}{kw:List (Str × Value)}:(A.under (.builtin "type.__call__" ⟨.ref C::us,kw⟩)).depth=A.depth + 1:=by
 first|rfl|simp [Around.under,Code.weight,Code.isCreation,Code.isGuard,Code.isCaller,Code.frames,Code.isFrame,guardIds]
theorem nr {A:Around}{C:Addr}{us:List Value}{kw:List (Str × Value)}:(A.under (.builtin "type.__call__" ⟨.ref C::us,kw⟩)).units=A.units + 1:=by
 first|rfl|simp [Around.under,Code.cUnits,Code.frames,Code.isFrame]
theorem cX.make {k:Nat}{A:Around} (r:cX (k + 1) A) (C:Addr) (us:List Value) (kw:List (Str × Value)):cX k (A.under (.builtin "type.__call__" ⟨.ref C::us,kw⟩)) :=
 ⟨r.hd,by have:=r.dp;rw [nq];omega,by have:=r.un;rw [nr];omega⟩
theorem cX.depth {k:Nat}{A:Around} (r:cX k A):A.depth < recursionLimit:=by have:=r.dp;omega
noncomputable def l4:TA:=λ_ H Q=>Q [] H
noncomputable def i4 (ta:TE) (tr:TA):TA:=λσ H Q=>ta σ H λx H1=>tr σ H1 λxs H2=>Q (x::xs) H2
section
variable {X:Cx}{e:Expr}{es:List Expr}{te:TE}{t:TA}{pos:Pos}
theorem cE:PA X [] l4:=λ_ _ _ _ H Q I h=>Calls.spliced_nil ⟨[],H,I,.nil,h⟩
theorem aU (ha:PE X e te) (hr:PA X es t) (hs:starEach (e::es) X.env=(false,eval e X.env)::starEach es X.env:=by rfl):PA X (e::es) (i4 te t):=by
 intro pos pins s σ H Q I h
 rw [hs]
 show wpAny _ _ (spliced ((false,eval e X.env)::backTo pos (starEach es X.env))) _ _ s
 refine Calls.spliced_cons (thn (ha pins s σ H _ I h) λu s1 ⟨x,H1,I1,r1,q1⟩=>?_)
 exact thn (hr pos pins s1 σ H1 _ I1 q1) λus s2 ⟨xs,H2,I2,r2,q2⟩=>⟨x::xs,H2,I2,.cons r1 r2,q2⟩
noncomputable def Cu (t:TA):TE:=λσ H Q=>t σ H λxs H1=>xs.length <= sizeLine/\∀ p,H1 p=none->Q (.ref p) (upd H1 p (.tup xs))
noncomputable def AH (t:TA):TE:=λσ H Q=>t σ H λxs H1=>xs.length <= sizeLine/\∀ p,H1 p=none->Q (.ref p) (upd H1 p (.lst xs))
theorem yb {x1} (h:PA X es t):PE X (.Tuple es x1 pos) (Cu t):=by
 intro pins s σ H Q I hq
 refine wpAny_Tuple_spliced (thn (h pos pins s σ H _ I hq) λus s1 ⟨xs,H1,I1,r,z,q⟩=>⟨by rw [<- r.length];exact z,?_⟩)
 have hf:H1 s1.heap.objs.size=none:=I1.hok.fresh (Nat.le_refl _)
 refine ⟨.ref s1.heap.objs.size,upd H1 s1.heap.objs.size (.tup xs),I1.laid (t':=s1.toks) (λb u e=>Heap.get?_push_of_some _ e) (Nat.le_refl _) ?_,rfl,q _ hf⟩
 exact ⟨z,us,r,⟨_,Heap.get?_push_size _ rfl,rfl,_,rfl⟩⟩
theorem nu (h:PA X es t):PE X (.List es pos) (AH t):=by
 intro pins s σ H Q I hq
 refine wpAny_List_spliced (thn (h pos pins s σ H _ I hq) λus s1 ⟨xs,H1,I1,r,z,q⟩=>⟨by rw [<- r.length];exact z,?_⟩)
 have hf:H1 s1.heap.objs.size=none:=I1.hok.fresh (Nat.le_refl _)
 refine ⟨.ref s1.heap.objs.size,upd H1 s1.heap.objs.size (.lst xs),I1.laid (t':=s1.toks) (λb u e=>Heap.get?_push_of_some _ e) (Nat.le_refl _) ?_,rfl,q _ hf⟩
 exact ⟨z,us,0,r,Heap.get?_push_size _ rfl⟩
end
noncomputable abbrev Sp:=List V->Hp->VK->XK->Prop
noncomputable abbrev CXT:=List Env->Hp->Shared->XK->Value->Shared->Prop
structure nv (P:Program) (w:World) (K:PySem.W.Frag) (mg:Str->Option Value) (base:Heap) (A:Around) (outer:List Env) (s:Shared) (H:Hp):Prop where
 frames:A.frames=some outer
 mod:Mod K mg base
 bs:∀ b o,base.get? b=some o->s.heap.get? b=some o/\H b=none
 bsz:base.objs.size <= s.heap.objs.size
 funs:s.heap.FunFrames base outer
 frf:∀ b ∈ frs outer,H b=none
 hok:HOk P w H s.heap
 bare:AllBare s.gens
noncomputable def CE (outer:List Env) (P:Program) (w:World) (H:Hp) (s:Shared) (Q:VK) (u:Value) (s':Shared):Prop :=
 ∃ v H',s'.os=s.os/\AllBare s'.gens/\Un (frs outer) [] H H' s.heap s'.heap/\HOk P w H' s'.heap/\aw v u/\Q v H'
noncomputable def CR (CX:CXT) (outer:List Env) (P:Program) (w:World) (H:Hp) (s:Shared) (Q:VK) (E:XK) (r:Result) (s':Shared):Prop :=
 match r with
 | .ok (.ret u)=>CE outer P w H s Q u s'
 | .ok _=>False
 | .error e=>CX outer H s E e s'
structure cf (P:Program) (w:World) (K:PySem.W.Frag) (mg:Str->Option Value) (base:Heap) (CX:CXT) (k:Nat) (f:Addr) (fd:FuncData) (ps:List Str) (sp:Sp):Prop where
 len:∀ vs H Q E,sp vs H Q E->vs.length=ps.length
 run:∀ (A:Around) (outer:List Env) (s:Shared) (H:Hp) (args:Args) (us:List Value) (vs:List V) (Q:VK) (E:XK),cX k A->nv P w K mg base A outer s H->BindsTo s fd args (ps.zip us)->ar vs us->sp vs H Q E ->
  codeAny (model P w) A (.call (.ref f) args) (CR CX outer P w H s Q E) s
theorem nv.make {P:Program}{w:World}{K:PySem.W.Frag}{mg:Str->Option Value}{base:Heap}{A:Around}{outer:List Env}{s:Shared}{H:Hp} (e:nv P w K mg base A outer s H) (C:Addr) (us:List Value) (kw:List (Str × Value)) :
  nv P w K mg base (A.under (.builtin "type.__call__" ⟨.ref C::us,kw⟩)) outer s H:=⟨by first|exact e.frames|(simpa [Around.under,Code.envs,Code.isFrame,pushEnvs] using e.frames),e.mod,e.bs,e.bsz,e.funs,e.frf,e.hok,e.bare⟩
section
variable {X:Cx}{pins:List (Addr × Obj)}{σ:St}{H:Hp}{s s':Shared}
theorem Inv.env0 (I:Inv X pins σ H s):nv X.prog X.w X.K X.mg X.base X.A X.stack s H :=
 ⟨I.ok.frames,I.ok.mod,I.bs,Nat.le_trans I.ok.bsz I.sz,I.stack,I.stkFree,I.hok,I.bare⟩
theorem Inv.after {Q:VK}{u:Value} (I:Inv X pins σ H s) (h:CE X.stack X.prog X.w H s Q u s'):EP X pins σ Q u s':=by
 obtain ⟨v,H',os,bare,un,hok,r,q⟩:=h
 obtain ⟨hh,g,d,t,os'⟩:=s'
 obtain rfl:os'=s.os:=os
 exact ⟨v,H',I.call (h':=hh) (g':=g) (d':=d) (t':=t) (ch:=[]) un hok bare (λb z=>absurd z (by simp)),r,q⟩
end
noncomputable def rA (sp:Sp) (dvs:List V) (E:XK) (t:TA):TE:=λσ H Q=>t σ H λvs H1=>sp (vs ++ dvs) H1 Q E
noncomputable def l5 (C:Addr) (m:Str) (sp:Sp) (dvs:List V) (E:XK) (ta:TE) (t:TA):TE:=λσ H Q=>ta σ H λx H1=>∃ a dx fs,x=.ref a/\H1 a=some (.ins C dx fs)/\fs.lookup m=none /\
 t σ H1 λvs H2=>sp (x::(vs ++ dvs)) H2 Q E
noncomputable def AI (C:Addr) (sp:Sp) (dvs:List V) (E:XK) (t:TA):TE:=λσ H Q=>t σ H λvs H1=>∀ x dx,H1 x=none->H1 dx=none->dx ≠ x ->
 sp (.ref x::(vs ++ dvs)) (upd (upd H1 dx (.own x)) x (.ins C dx [])) (λv H2=>v=.non/\Q (.ref x) H2) E
noncomputable def aN (K:PySem.W.Frag) (fd:FuncData) (ps:List Str) (ds:List Value):Prop :=
 ∀ (s:Shared) (us:List Value),K.In s.heap->(us ++ ds).length=ps.length->BindsTo s fd ⟨us,[]⟩ (ps.zip (us ++ ds))
theorem aN.all {K:PySem.W.Frag}{fd:FuncData}{ps:List Str} (h:∀ us:List Value,us.length=ps.length->bindArgs fd ⟨us,[]⟩=pure (ps.zip us)):aN K fd ps []:=λs us _ hl=>by
 rw [List.append_nil] at hl ⊢
 exact .of_eq (h us hl)
noncomputable def fw (CX:CXT) (X:Cx) (E:XK):Prop:=∀ (pins:List (Addr × Obj)) (σ:St) (H:Hp) (s:Shared) (e:Value) (s':Shared),Inv X pins σ H s->CX X.stack H s E e s'->X.xe e s'
section
variable {X:Cx}{CX:CXT}{k:Nat}{f C:Addr}{fd:FuncData}{ps:List Str}{sp:Sp}{dvs:List V}{ds:List Value}{E:XK}{x m:Str}{p pos apos:Pos}{e o:Expr}{es:List Expr}{ta:TE}{t:TA}
theorem k_ {pins:List (Addr × Obj)}{σ:St}{H:Hp}{s:Shared}{Q:VK}{us:List Value}{vs:List V} (F:cf X.prog X.w X.K X.mg X.base CX k f fd ps sp) (hr:cX k X.A) (hb:aN X.K fd ps ds) (hd:ar dvs ds) (hx:fw CX X E)
  (I:Inv X pins σ H s) (r:ar vs us) (h:sp (vs ++ dvs) H Q E):wpAny (model X.prog X.w) X.A (call (.ref f) us) (EP X pins σ Q) X.xe s:=by
 have r2:ar (vs ++ dvs) (us ++ ds):=r.append hd
 have hl:(us ++ ds).length=ps.length:=by rw [<- r2.length];exact F.len _ _ _ _ h
 refine wpAny_call (codeAny_mono (F.run X.A X.stack s H ⟨us,[]⟩ (us ++ ds) (vs ++ dvs) Q E hr I.env0 (hb s us I.kIn hl) r2 h) λr s' hq=>?_)
 cases r with
 | error e=>exact hx pins σ H s e s' I hq
 | ok fl =>
  cases fl with
  | ret u=>exact I.after hq
  | next=>exact False.elim hq
  | brk=>exact False.elim hq
  | cont=>exact False.elim hq
theorem iL (F:cf X.prog X.w X.K X.mg X.base CX k f fd ps sp) (hr:cX k X.A) (hg:Gl X x) (hm:X.mg x=some (.ref f)) (hk:PySem.W.keepIn X.K (.ref f)=true) (hb:aN X.K fd ps ds) (hd:ar dvs ds) (hx:fw CX X E)
  (ha:PA X (e::es) t) (hdb:(x == ("__debug__":Str))=false:=by decide) (he:starEach (e::es) X.env=(false,eval e X.env)::starEach es X.env:=by rfl) (hpl:(backTo pos (starEach es X.env)).any (·.1)=false:=by rfl) :
  PE X (.Call (.Name x p) (e::es) [] pos) (rA sp dvs E t):=by
 intro pins s σ H Q I h
 refine wpAny_Call_Name_kw (fM I hg hm ?_ hdb)
 refine PySem.W.callWith_K (h₀:=X.base) I.ok.mod.kin hk (thn (ha pos pins s σ H _ I h) λus s1 ⟨vs,H1,I1,r,q⟩=>⟨I1.kIn,?_⟩) he hpl
 exact k_ F hr hb hd hx I1 r q
theorem rB (F:cf X.prog X.w X.K X.mg X.base CX k f fd ps sp) (hr:cX k X.A) (hg:Gl X x) (hm:X.mg x=some (.ref f)) (hk:PySem.W.keepIn X.K (.ref f)=true) (hb:aN X.K fd ps ds) (hd:ar dvs ds) (hx:fw CX X E)
  (hdb:(x == ("__debug__":Str))=false:=by decide):PE X (.Call (.Name x p) [] [] pos) (rA sp dvs E l4):=by
 intro pins s σ H Q I h
 refine wpAny_Call_Name_kw (fM I hg hm ?_ hdb)
 exact PySem.W.callWith_K0 I.kIn hk (k_ (us:=[]) F hr hb hd hx I .nil h)
theorem lb {pl:Sem Bool} (he:PE X o ta) (c:Cls X.K C) (hm:jP X.K C m f) (F:cf X.prog X.w X.K X.mg X.base CX k f fd ps sp) (hr:cX k X.A) (hb:aN X.K fd ps ds) (hd:ar dvs ds) (hx:fw CX X E) (ha:PA X (e::es) t)
  (hst:starEach (e::es) X.env=(false,eval e X.env)::starEach es X.env:=by rfl) (hpl:(backTo pos (starEach es X.env)).any (·.1)=false:=by rfl)
  (ht:eval (.Call (.Attribute o m apos) (e::es) [] pos) X.env=(do
   let ov <- eval o X.env
   standAt apos.atName
   let (f,first) <- holding [ov] (getMethod ov m pl)
   callWith pos f first (backTo pos (starEach (e::es) X.env)) (backToKw pos (keywordEach [] X.env))):=by rfl) :
  PE X (.Call (.Attribute o m apos) (e::es) [] pos) (l5 C m sp dvs E ta t):=by
 intro pins s σ H Q I h
 refine PySem.W.methodCall_KW (pl:=pl) (thn (he pins s σ H _ I h) λu s1 ⟨x,H1,I1,rx,a,dx,fs,ex,ea,l,q⟩=>?_) ht
 subst ex
 obtain rfl:u=Value.ref a:=rx
 refine eQ I1 ea c hm l ?_
 refine PySem.W.callWith_K (first:=[.ref a]) (h₀:=X.base) I.ok.mod.kin hm.kp (thn (ha pos pins s1 σ H1 _ I1 q) λus s2 ⟨vs,H2,I2,r,q2⟩=>⟨I2.kIn,?_⟩) hst hpl
 exact k_ (us:=.ref a::us) (vs:=.ref a::vs) F hr hb hd hx I2 (.cons rfl r) q2
theorem i5 {pl:Sem Bool} (he:PE X o ta) (c:Cls X.K C) (hm:jP X.K C m f) (F:cf X.prog X.w X.K X.mg X.base CX k f fd ps sp) (hr:cX k X.A) (hb:aN X.K fd ps ds) (hd:ar dvs ds) (hx:fw CX X E)
  (ht:eval (.Call (.Attribute o m apos) [] [] pos) X.env=(do
   let ov <- eval o X.env
   standAt apos.atName
   let (f,first) <- holding [ov] (getMethod ov m pl)
   callWith pos f first (backTo pos (starEach [] X.env)) (backToKw pos (keywordEach [] X.env))):=by rfl) :
  PE X (.Call (.Attribute o m apos) [] [] pos) (l5 C m sp dvs E ta l4):=by
 intro pins s σ H Q I h
 refine PySem.W.methodCall_KW (pl:=pl) (thn (he pins s σ H _ I h) λu s1 ⟨x,H1,I1,rx,a,dx,fs,ex,ea,l,q⟩=>?_) ht
 subst ex
 obtain rfl:u=Value.ref a:=rx
 refine eQ I1 ea c hm l ?_
 exact PySem.W.callWith_K0 (first:=[.ref a]) I1.kIn hm.kp (k_ (us:=[.ref a]) (vs:=[.ref a]) F hr hb hd hx I1 (.cons rfl .nil) q)
structure Mk (K:PySem.W.Frag) (C f:Addr):Prop where
 makes:PySem.W.makesIn K C=true
 init:PySem.W.findIn K (.ref C) "__init__"=some (some (.ref f))
 fn:PySem.W.isFn K (.ref f)=true
 kp:PySem.W.keepIn K (.ref C)=true
theorem rC {pins:List (Addr × Obj)}{σ:St}{H:Hp}{s:Shared}{Q:VK}{us:List Value}{vs:List V} (M:Mk X.K C f) (F:cf X.prog X.w X.K X.mg X.base CX k f fd ps sp) (hr:cX (k + 1) X.A) (hb:aN X.K fd ps ds) (hd:ar dvs ds)
  (hx:fw CX X E) (I:Inv X pins σ H s) (r:ar vs us)
  (h:∀ x dx,H x=none->H dx=none->dx ≠ x->sp (.ref x::(vs ++ dvs)) (upd (upd H dx (.own x)) x (.ins C dx [])) (λv H2=>v=.non/\Q (.ref x) H2) E) :
  wpAny (model X.prog X.w) X.A (call (.ref C) us) (EP X pins σ Q) X.xe s:=by
 have hq:=h (s.heap.objs.size + 1) s.heap.objs.size (I.hok.fresh (Nat.le_succ _)) (I.hok.fresh (Nat.le_refl _)) (Nat.ne_of_lt (Nat.lt_succ_self _))
 have I2:=Inv.made (C:=C) I
 have r2:ar (V.ref (s.heap.objs.size + 1)::(vs ++ dvs)) (Value.ref (s.heap.objs.size + 1)::(us ++ ds)):=.cons rfl (r.append hd)
 have hl:(Value.ref (s.heap.objs.size + 1)::us ++ ds).length=ps.length:=by
  have e:=r2.length
  rw [F.len _ _ _ _ hq] at e
  exact e.symm
 refine wpAny_call (rq (f:=f) I.kIn M.makes M.init (beq_iff_eq.mp M.fn) (codeAny_mono (F.run _ X.stack _ _ ⟨Value.ref (s.heap.objs.size + 1)::us,[]⟩ (Value.ref (s.heap.objs.size + 1)::(us ++ ds)) _ _ E (hr.make C us [])
  (I2.env0.make C us []) (hb _ (Value.ref (s.heap.objs.size + 1)::us) I2.kIn hl) r2 hq) λr s' hq'=>?_))
 cases r with
 | error e=>exact hx pins σ _ _ e s' I2 hq'
 | ok fl =>
  cases fl with
  | ret u =>
   obtain ⟨v,H',I3,rv,ev,q3⟩:=I2.after hq'
   subst ev
   exact ⟨rv,⟨V.ref (s.heap.objs.size + 1),H',I3,rfl,q3⟩⟩
  | next=>exact False.elim hq'
  | brk=>exact False.elim hq'
  | cont=>exact False.elim hq'
theorem oF (M:Mk X.K C f) (F:cf X.prog X.w X.K X.mg X.base CX k f fd ps sp) (hr:cX (k + 1) X.A) (hg:Gl X x) (hm:X.mg x=some (.ref C)) (hb:aN X.K fd ps ds) (hd:ar dvs ds) (hx:fw CX X E)
  (ha:PA X (e::es) t) (hdb:(x == ("__debug__":Str))=false:=by decide) (he:starEach (e::es) X.env=(false,eval e X.env)::starEach es X.env:=by rfl) (hpl:(backTo pos (starEach es X.env)).any (·.1)=false:=by rfl) :
  PE X (.Call (.Name x p) (e::es) [] pos) (AI C sp dvs E t):=by
 intro pins s σ H Q I h
 refine wpAny_Call_Name_kw (fM I hg hm ?_ hdb)
 refine PySem.W.callWith_K (h₀:=X.base) I.ok.mod.kin M.kp (thn (ha pos pins s σ H _ I h) λus s1 ⟨vs,H1,I1,r,q⟩=>⟨I1.kIn,?_⟩) he hpl
 exact rC M F hr hb hd hx I1 r q
end
section
variable {X:Cx}{CX:CXT}{k:Nat}{f C:Addr}{fd:FuncData}{ps ks:List Str}{sp:Sp}{E:XK}{x m:Str}{p pos apos kpos:Pos}{e o:Expr}{es:List Expr}{kws:List Keyword}{te ta:TE}{t tk:TA}{nm:Option Str}
variable {g:List Value->List Value->List Value}{gV:List V->List V->List V}
end
structure iM (N P:List Str) (sc:Scope):Prop where
 kind:sc.kind=.function
 co:sc.isCoroutine=false
 gen:sc.isGenerator=false
 nd:N.Nodup
 pre:N.take P.length=P
 par:∀ x ∈ P,sc.names.lookup x=some .local \/ sc.names.lookup x=some .cell
 nofree:∀ y ∈ sc.names,y.2 ≠ .free
theorem j0 {kindOf:Str->Option NameKind}{x:Str}:∀ {binds:List (Str × Value)}{m:Str->Option Value},(∀ v,(x,v) ∉ binds)->bindL kindOf binds m x=m x
 | [],_,_=>rfl
 | (n,v)::r,m,h=>by
  unfold bindL
  rw [j0 λw hw=>h w (List.mem_cons_of_mem _ hw)]
  split
  ·have:x ≠ n:=by rintro rfl;exact h v List.mem_cons_self
   simp [this]
  ·rfl
theorem j1 {kindOf:Str->Option NameKind}{x:Str}:∀ {binds:List (Str × Value)}{m:Str->Option Value},(∀ v,(x,v) ∉ binds)->bindC kindOf binds m x=m x
 | [],_,_=>rfl
 | (n,v)::r,m,h=>by
  unfold bindC
  rw [j1 λw hw=>h w (List.mem_cons_of_mem _ hw)]
  split
  ·rfl
  ·have:x ≠ n:=by rintro rfl;exact h v List.mem_cons_self
   simp [this]
theorem j2 {kindOf:Str->Option NameKind}{x:Str}{v:Value}:∀ {P:List Str}{vs:List Value}{i:Nat}{m:Str->Option Value},P.Nodup->P[i]?=some x->vs[i]?=some v->kindOf x=some .local ->
  bindL kindOf (P.zip vs) m x=some v
 | [],_,_,_,_,h,_,_=>by simp at h
 | _::_,[],_,_,_,_,h,_=>by simp at h
 | p::P,w::vs,0,m,nd,h1,h2,hk=>by
  simp at h1 h2;subst h1;subst h2
  show bindL kindOf ((p,w)::P.zip vs) m p=_
  unfold bindL
  rw [j0 λv hv=>(List.nodup_cons.mp nd).1 (List.of_mem_zip hv).1,if_pos hk]
  simp
 | p::P,w::vs,i + 1,m,nd,h1,h2,hk=>by
  show bindL kindOf ((p,w)::P.zip vs) m x=_
  unfold bindL
  exact j2 (i:=i) (List.nodup_cons.mp nd).2 (by simpa using h1) (by simpa using h2) hk
theorem j3 {kindOf:Str->Option NameKind}{x:Str}{v:Value}:∀ {P:List Str}{vs:List Value}{i:Nat}{m:Str->Option Value},P.Nodup->P[i]?=some x->vs[i]?=some v->kindOf x ≠ some .local ->
  bindC kindOf (P.zip vs) m x=some v
 | [],_,_,_,_,h,_,_=>by simp at h
 | _::_,[],_,_,_,_,h,_=>by simp at h
 | p::P,w::vs,0,m,nd,h1,h2,hk=>by
  simp at h1 h2;subst h1;subst h2
  show bindC kindOf ((p,w)::P.zip vs) m p=_
  unfold bindC
  rw [j1 λv hv=>(List.nodup_cons.mp nd).1 (List.of_mem_zip hv).1,if_neg hk]
  simp
 | p::P,w::vs,i + 1,m,nd,h1,h2,hk=>by
  show bindC kindOf ((p,w)::P.zip vs) m x=_
  unfold bindC
  exact j3 (i:=i) (List.nodup_cons.mp nd).2 (by simpa using h1) (by simpa using h2) hk
noncomputable def dL (N:List Str) (vs:List V):St:=vs.map some ++ List.replicate (N.length - vs.length) none
noncomputable def jQ (CX:CXT) (P:Program) (w:World) (K:PySem.W.Frag) (mg:Str->Option Value) (base:Heap) (N:List Str) (qual:Str) (scope:Scope) (f:Addr) (cd:Value) (A:Around) (outer:List Env) (s:Shared) (H:Hp) (E:XK):Cx where
 prog:=P
 w:=w
 K:=K
 mg:=mg
 base:=base
 A:=A.deeper (envOfC qual scope s.heap.objs.size f cd)
 N:=N
 s₀:=s
 H₀:=H
 env:=envOfC qual scope s.heap.objs.size f cd
 outer:=outer
 stack:=envOfC qual scope s.heap.objs.size f cd::outer
 ex:=[]
 calm:=true
 fn:=λ_=>true
 pn:=[]
 xe:=λe s'=>wpAny (model P w) (A.deeper (envOfC qual scope s.heap.objs.size f cd)) (leaving (envOfC qual scope s.heap.objs.size f cd) e) (λ_ s''=>CX outer H s E e s'') (λe' s''=>CX outer H s E e' s'') s'
theorem l6 {sc:Scope}{n:Nat}{x:Str} (h:sc.names.lookup x=some .cell):∃ c,(cellsFrom n sc.names []).lookup x=some c:=by
 have q:=PySem.W.cellsFrom_some sc.names n [] (.inl h)
 exact Option.isSome_iff_exists.mp q
theorem pZ {CX:CXT}{P:Program}{w:World}{K:PySem.W.Frag}{mg:Str->Option Value}{base:Heap}{N ps:List Str}{qual:Str}{scope:Scope}{f:Addr}{cd:Value}{A:Around}{outer:List Env}{s s1:Shared}{H:Hp}{E:XK}{us:List Value}{vs:List V}
  (S:iM N ps scope) (hd:A.handled=none) (e0:nv P w K mg base A outer s H) (hl:vs.length=ps.length) (r:ar vs us)
  (x:InCallC s s.heap.objs.size (bindL (envOfC qual scope s.heap.objs.size f cd).kindOf (ps.zip us) λ_=>none) (cellsFrom (s.heap.objs.size + 1) scope.names []) (bindC (envOfC qual scope s.heap.objs.size f cd).kindOf (ps.zip us) λ_=>none) s1) :
  Inv (jQ CX P w K mg base N qual scope f cd A outer s H E) [] (dL N vs) H s1:=by
 have hpl:ps.length <= N.length:=by have:=congrArg List.length S.pre;rw [List.length_take] at this;omega
 obtain ⟨h1,tk,rfl,hk⟩:=x.done
 have noA:∀ b:Addr,b ∉ (jQ CX P w K mg base N qual scope f cd A outer s H E).ex:=λb z=>absurd (show b ∈ ([]:List Addr) from z) (by simp)
 refine ⟨⟨e0.mod,S.kind,rfl,rfl,Nat.le_refl _,λy z c h1 h2=>?_,λy hy=>?_,λy c _ h=>?_,λ_=>hd,Around.frames_deeper e0.frames,.inr ⟨rfl,rfl⟩,λb z=>absurd z (noA b),e0.bs,e0.bsz,λb _ _=>noA b,λb z=>absurd z (noA b),e0.funs,e0.frf⟩,
  rfl,e0.bare,Un.kept hk,⟨_,x.toInCall.ns,λi y v h1 h2 h3=>?_⟩,λy c h=>⟨_,x.cell y c h⟩,e0.hok.fresh (Nat.le_refl _),λy c h=>?_,λp hp=>absurd (show p ∈ ([]:List (Addr × Obj)) from hp) (by simp),e0.hok.kept hk,?_⟩
 ·exact name_of_addr x.apart (PySem.mem_of_lookup h1) (PySem.mem_of_lookup h2)
 ·have hy:scope.names.lookup y=some .cell \/ scope.names.lookup y=some .free:=hy
  rcases hy with hy|hy
  ·exact l6 hy
  ·exact absurd rfl (S.nofree _ (PySem.mem_of_lookup hy))
 ·exact Nat.le_of_lt (x.above y c (PySem.mem_of_lookup h))
 ·have hi:i < vs.length:=by
   unfold dL at h2
   by_cases hi:i < vs.length
   ·exact hi
   ·rw [List.getElem?_append_right (by simpa using hi)] at h2
    rw [List.getElem?_replicate] at h2
    split at h2 <;> cases h2
  have ha:vs[i]?=some v:=by
   unfold dL at h2
   rw [List.getElem?_append_left (by simpa using hi),List.getElem?_map] at h2
   cases e:vs[i]? with
   | none=>rw [e] at h2;cases h2
   | some a=>rw [e] at h2;cases h2;rfl
  obtain ⟨u,hu,rv⟩:=r.get ha
  have hp:ps[i]?=some y:=by
   rw [<- S.pre,List.getElem?_take_of_lt (by omega)];exact h1
  have ndP:ps.Nodup:=by rw [<- S.pre];exact S.nd.sublist (List.take_sublist _ _)
  refine ⟨u,rv,?_⟩
  rcases S.par y (List.mem_of_getElem? hp) with k|k
  ·exact .inl ⟨k,j2 ndP hp hu k⟩
  ·obtain ⟨c,e⟩:=l6 (n:=s.heap.objs.size + 1) k
   refine .inr ⟨.inl k,c,e,?_⟩
   have q:=x.cell y c e
   rw [j3 ndP hp hu (by show scope.names.lookup y ≠ _;rw [k];decide)] at q
   exact q
 ·exact e0.hok.fresh (Nat.le_of_lt (x.above y c (PySem.mem_of_lookup h)))
 ·unfold dL
  show _=N.length
  rw [List.length_append,List.length_map,List.length_replicate]
  omega
theorem j4 {CX:CXT}{P:Program}{w:World}{K:PySem.W.Frag}{mg:Str->Option Value}{base:Heap}{k:Nat}{f:Addr}{name qual:Str}{params:Arguments}{body:List Stmt}{scope:Scope}{dV kV doc pm cdv ct oc:Value}{an od:Option Addr}
  {osl:Array (Option Value)}{N ps:List Str}{sp:Sp} (lk:K.lookup f=some ⟨oc,od,.func (PySem.W.fnOf name qual params body scope dV kV doc pm an cdv ct),osl⟩) (hcd:PySem.W.codeIn K cdv qual=true) (S:iM N ps scope)
  (len:∀ vs H Q E,sp vs H Q E->vs.length=ps.length)
  (hbody:∀ (A:Around) (outer:List Env) (s:Shared) (H:Hp) (vs:List V) (Q:VK) (E:XK),cX k (A.deeper (envOfC qual scope s.heap.objs.size f cdv))->sp vs H Q E ->
   ∃ t,PSs (jQ CX P w K mg base N qual scope f cdv A outer s H E) body t/\t { nx:=λ_ H'=>Q .non H',rt:=Q } (dL N vs) H) :
  cf P w K mg base CX (k + 1) f (PySem.W.fnOf name qual params body scope dV kV doc pm an cdv ct) ps sp:=by
 refine ⟨len,λA outer s H args us vs Q E hr e0 hb r hsp=>?_⟩
 have hl:=len _ _ _ _ hsp
 have KX:K.In s.heap:=e0.mod.kin.keeps λb o e=>(e0.bs b o e).1
 have lim:s.heap.NoLimit:=e0.mod.nolimit.keeps λb o e=>(e0.bs b o e).1
 have hkind:∀ y ∈ ps.zip us,scope.names.lookup y.1=some .local \/ (scope.names.lookup y.1=some .cell/\((cellsFrom (s.heap.objs.size + 1) scope.names []).lookup y.1).isSome=true):=λ⟨n,v⟩ hy=>by
  rcases S.par n (List.of_mem_zip hy).1 with q|q
  ·exact .inl q
  ·exact .inr ⟨q,PySem.W.cellsFrom_some _ _ _ (.inl q)⟩
 refine codeAny_call_function hr.depth (KX _ _ lk) rfl S.co S.gen rfl (PySem.W.codeRec_of KX hcd) (hb _ _ _ _ ?_)
 refine wpAny_newFunctionEnv_cells S.kind hkind λenv he s1 x=>?_
 subst he
 refine ⟨lim.keeps x.toInCall.keep,codeAny_func ?_⟩
 obtain ⟨t,ht,hq⟩:=hbody A outer s H vs Q E (hr.deeper _) hsp
 have I:Inv (jQ CX P w K mg base N qual scope f cdv A outer s H E) [] (dL N vs) H s1:=pZ S hr.hd e0 hl r x
 refine wpAny_mono (ht [] s1 (dL N vs) H _ I hq) (λfl s' hs=>?_) λe s' hs=>hs
 have fin:∀ {σ':St}{H':Hp}{v:V}{u:Value},Inv (jQ CX P w K mg base N qual scope f cdv A outer s H E) [] σ' H' s'->aw v u->Q v H'->CE outer P w H s Q u s' :=
  λ{σ' H' v u} J rv q=>⟨v,H',J.os,J.bare,J.base,J.hok,rv,q⟩
 cases fl with
 | ret u =>
  obtain ⟨v,σ',H',J,rv,q⟩:=hs
  exact fin J rv q
 | next =>
  obtain ⟨σ',H',J,q⟩:=hs
  exact fin (v:=V.non) (u:=Value.none) J rfl q
 | brk =>
  obtain ⟨_,_,_,q⟩:=hs
  exact False.elim q
 | cont =>
  obtain ⟨_,_,_,q⟩:=hs
  exact False.elim q
end L2
namespace L2
open PySem PySem.Spec PyProof.Rows
section
variable {X:Cx}{x:Str}{p pos:Pos}{e:Expr}{es:List Expr}{t:TA}{id T:String}{r:List V->Hp->VK->Prop}
noncomputable def tCB (r:List V->Hp->VK->Prop) (t:TA):TE:=λσ H Q=>t σ H λvs H1=>r vs H1 Q
theorem fz (hc:cD X (.builtin id) r) (hg:Gl X x) (hm:X.mg x=none) (hv:bootBuiltins x=some (.builtin id)) (ha:PA X (e::es) t) (hn:x ≠ "__name__":=by decide) (hdb:(x == ("__debug__":Str))=false:=by decide)
  (he:starEach (e::es) X.env=(false,eval e X.env)::starEach es X.env:=by rfl) (hpl:(backTo pos (starEach es X.env)).any (·.1)=false:=by rfl):PE X (.Call (.Name x p) (e::es) [] pos) (tCB r t):=by
 intro pins s σ H Q I h
 refine wpAny_Call_Name_kw (g6 I hg hm hv ?_ hn hdb)
 exact PyProof.Rows.callWith_builtin1 (thn (ha pos pins s σ H _ I h) λus s1 ⟨vs,H1,I1,r1,q1⟩=>hc pins s1 σ H1 vs us Q I1 r1 q1) he hpl
theorem j5 (hc:cD X (.type T) r) (hg:Gl X x) (hm:X.mg x=none) (hv:bootBuiltins x=some (.type T)) (ha:PA X (e::es) t) (hn:x ≠ "__name__":=by decide) (hdb:(x == ("__debug__":Str))=false:=by decide)
  (he:starEach (e::es) X.env=(false,eval e X.env)::starEach es X.env:=by rfl) (hpl:(backTo pos (starEach es X.env)).any (·.1)=false:=by rfl):PE X (.Call (.Name x p) (e::es) [] pos) (tCB r t):=by
 intro pins s σ H Q I h
 refine wpAny_Call_Name_kw (g6 I hg hm hv ?_ hn hdb)
 exact PyProof.Rows.callWith_type1 (thn (ha pos pins s σ H _ I h) λus s1 ⟨vs,H1,I1,r1,q1⟩=>hc pins s1 σ H1 vs us Q I1 r1 q1) he hpl
end
end L2
namespace HT
open PySem PyProof.Rows
noncomputable def lexLt:List Int->List Int->Bool
 | [],[]=>false
 | [],_::_=>true
 | _::_,[]=>false
 | x::xs,y::ys=>if x=y then lexLt xs ys else decide (x < y)
theorem lexLt_cons (x y:Int) (xs ys:List Int):lexLt (x::xs) (y::ys)=if x=y then lexLt xs ys else decide (x < y):=rfl
theorem jR:lexLt [] []=false:=rfl
theorem i6 (y:Int) (ys:List Int):lexLt [] (y::ys)=true:=rfl
theorem i7 (x:Int) (xs:List Int):lexLt (x::xs) []=false:=rfl
theorem rD (A:Around) (s:Shared) (a:Int) (t:Tok) (c:Int) (u:Tok):∃ e,SeqAt.EqAt A s (.int a t) (.int c u) e/\(e=true ↔ a=c) :=
 ⟨(a == c),SeqAt.EqAt.int_int a t c u,by simp⟩
theorem rE (A:Around) (s:Shared) (a:Int) (t:Tok) (c:Int) (u:Tok) (prog:Program) (w:World) (E:Value->Shared->Prop) (Q:Value->Shared->Prop) (h:Q (.bool (decide (a < c))) s) :
  wpAny (model prog w) A (richCompare .Lt (.int a t) (.int c u)) Q E s :=
 (PyProof.Rows.lt_int h:wpAny (model prog w) A (compareOp .Lt (.int a t) (.int c u)) Q E s)
section
open PySem.SeqAt
open PySem.AutoSeq1 (wpAny_loadPart')
open PySem.MeetsSeq PySem.MeetsSeq2 PySem.MeetsSeq3
theorem tuple_lt_ints (l b:Addr) (items items2:Array Value) (n n2:Nat) (dd dd2:Option Addr) (sl sl2:Array (Option Value)) (ns ms:List Int) (hi:IntsAre items.toList ns) (hj:IntsAre items2.toList ms) :
  Meets (Builtin.«tuple.__lt__» ⟨[.ref l,.ref b],[]⟩)
   (λ_ R s=>s.heap.get? l=some { cls:=.type "tuple",dict:=dd,data:=.seq items n,slots:=sl }/\s.heap.get? b=some { cls:=.type "tuple",dict:=dd2,data:=.seq items2 n2,slots:=sl2 } /\
    R (.ok (.ret (.bool (lexLt ns ms)))) s) :=
 .of_wp λprog w A R s h=>by
  obtain ⟨hp,g,d,tk,os⟩:=s;obtain ⟨hl,hb,h⟩:=h
  have f2:=AutoSeq1.sub_tuple_tuple
  have z1:items.size=ns.length:=by rw [<- hi.length];simp
  have z2:items2.size=ms.length:=by rw [<- hj.length];simp
  wp_walk using wpAny_loadPart' hl,wpAny_loadPart' hb,wpAny_forIn_list _ (λcu b s'=>b.1=none/\s'=⟨hp,g,d,tk,os⟩/\∃ (vs ws:List Value) (ns' ms':List Int),cu=vs.zip ws /\
   IntsAre vs ns'/\IntsAre ws ms'/\ns'.length + items2.size=ms'.length + items.size/\R (.ok (.ret (.bool (lexLt ns' ms')))) ⟨hp,g,d,tk,os⟩) _
  case turn =>
   rintro ⟨y,x⟩ cu b s' ⟨hb',rfl,vs,ws,ns',ms',hz,hvi,hwi,hlen,hR⟩
   cases hvi with
   | nil=>rw [List.zip_nil_left] at hz;cases hz
   | cons a t hvi' =>
    cases hwi with
    | nil=>rw [List.zip_nil_right] at hz;cases hz
    | cons c u hwi' =>
     rw [List.zip_cons_cons] at hz
     injection hz with hyx hrest
     injection hyx with hy hx
     subst hy hx
     rw [lexLt_cons] at hR
     simp only [List.length_cons] at hlen
     obtain ⟨e,he,hiff⟩:=rD A.in1 ⟨hp,g,d,tk,os⟩ a t c u
     refine wpAny_bind (he prog w _ _ ?_)
     cases e with
     | true =>
      rw [if_pos (hiff.mp rfl)] at hR
      wp_walk
      exact ⟨rfl,rfl,_,_,_,_,hrest,hvi',hwi',by omega,hR⟩
     | false =>
      rw [if_neg (λq=>absurd (hiff.mpr q) Bool.false_ne_true)] at hR
      have hri:=rE A.in1 ⟨hp,g,d,tk,os⟩ a t c u prog w
      wp_walk using hri
      exact ⟨_,rfl,by simpa using hR⟩
  case fin =>
   rintro ⟨b1,b2⟩ s' ⟨hb',rfl,vs,ws,ns',ms',hz,hvi,hwi,hlen,hR⟩
   simp only at hb'
   subst hb'
   have hv:lexLt ns' ms'=decide (items.size < items2.size):=by
    cases hvi with
    | nil =>
     cases hwi with
     | nil =>
      simp only [List.length_nil] at hlen
      rw [jR]
      exact (decide_eq_false (by omega)).symm
     | cons c u hw =>
      simp only [List.length_nil,List.length_cons] at hlen
      rw [i6]
      exact (decide_eq_true (by omega)).symm
    | cons a t hv =>
     cases hwi with
     | nil =>
      simp only [List.length_nil,List.length_cons] at hlen
      rw [i7]
      exact (decide_eq_false (by omega)).symm
     | cons c u hw =>
      rw [List.zip_cons_cons] at hz
      cases hz
   rw [hv] at hR
   wp_walk
   exact ⟨_,rfl,by simpa [Builtin.Tuple.tupleCompareSizes] using hR⟩
  case h =>
   exact ⟨rfl,rfl,items.toList,items2.toList,ns,ms,rfl,hi,hj,by omega,h⟩
end
section
variable {prog:Program}{w:World}{A:Around}{E:Value->Shared->Prop}{s:Shared}
theorem lt_tupInts {l b:Addr}{items items2:Array Value}{ns ms:List Int}{Q:Value->Shared->Prop} (hl:IsTup s.heap l items) (hb:IsTup s.heap b items2) (hi:IntsAre items.toList ns) (hj:IntsAre items2.toList ms)
  (hu:A.units < cLine) (h:Q (.bool (lexLt ns ms)) s):wpAny (model prog w) A (compareOp .Lt (.ref l) (.ref b)) Q E s:=by
 obtain ⟨⟨cls,dd,data,sl⟩,ho,hc,n,hd⟩:=id hl
 obtain ⟨⟨cls2,dd2,data2,sl2⟩,ho2,hc2,n2,hd2⟩:=id hb
 simp only at hc hd hc2 hd2
 subst hc hd hc2 hd2
 exact richCompare_meets_room (op:=.Lt) ⟨_,ho,rfl⟩ ⟨_,ho2,rfl⟩ PySem.F.slot_tuple_lt PySem.F.entry_tuple_lt (PySem.F.args_tuple_lt_2 _ _) (tuple_lt_ints l b items items2 n n2 dd dd2 sl sl2 ns ms hi hj)
  ⟨ho,ho2,show Value.bool (lexLt ns ms) ≠ Value.notImplemented/\Q (.bool (lexLt ns ms)) s from ⟨(λx=>nomatch x),h⟩⟩ hu
theorem cat_tup {t b:Addr}{vs ws:List Value}{Q:Value->Shared->Prop} (ht:IsTup s.heap t vs.toArray) (hb:IsTup s.heap b ws.toArray) (hv:vs ≠ [])
  (h1:ws=[]->Q (.ref t) s) (h2:ws ≠ []->Q (.ref s.heap.objs.size) { s with heap:=s.heap.push { cls:=.type "tuple",data:=.seq (vs ++ ws).toArray } })
  (hsz:vs.length + ws.length <= sizeLine):wpAny (model prog w) A (binaryOp .Add (.ref t) (.ref b)) Q E s:=by
 obtain ⟨⟨cls,dd,data,sl⟩,ho,hc,n,hd⟩:=id ht
 obtain ⟨⟨cls2,dd2,data2,sl2⟩,ho2,hc2,n2,hd2⟩:=id hb
 simp only at hc hd hc2 hd2
 subst hc hd hc2 hd2
 have e:vs.toArray ++ ws.toArray=(vs ++ ws).toArray:=by simp
 by_cases hw:ws=[]
 ·exact concat_meets ⟨_,ho,rfl⟩ ⟨_,ho2,rfl⟩ noFill_tuple_add seq_tuple_add PySem.F.slot_tuple_add PySem.F.entry_tuple_add (PySem.F.args_tuple_add_2 _ _)
   (tuple_addW1 t b vs.toArray ws.toArray n n2 dd dd2 sl sl2 (by simpa using hv) (by simp [hw])) ⟨ho,ho2,h1 hw⟩
 ·refine concat_meets ⟨_,ho,rfl⟩ ⟨_,ho2,rfl⟩ noFill_tuple_add seq_tuple_add PySem.F.slot_tuple_add PySem.F.entry_tuple_add (PySem.F.args_tuple_add_2 _ _)
   (tuple_addW2 t b vs.toArray ws.toArray n n2 dd dd2 sl sl2 (by simpa using hv) (by simpa using hw) (by rw [List.size_toArray,List.size_toArray];exact hsz)) ⟨ho,ho2,?_⟩
  rw [e]
  exact h2 hw
noncomputable def sIx (n d:Nat):Option Int->Nat
 | none=>d
 | some v=>if v < 0 then (v + (n:Int)).toNat else min v.toNat n
theorem yc (n d:Nat) (hd:d <= n) (o:Option Int):sIx n d o <= n:=by
 cases o with
 | none=>exact hd
 | some v =>
  show (if v < 0 then (v + (n:Int)).toNat else min v.toNat n) <= n
  by_cases hv:v < 0
  ·rw [if_pos hv];omega
  ·rw [if_neg hv];exact Nat.min_le_right _ _
theorem oG (v:Int) (n d:Nat):(if v < 0 then max (v + (n:Int)) 0 else min v (n:Int))=((sIx n d (some v):Nat):Int):=by
 show (if v < 0 then max (v + (n:Int)) 0 else min v (n:Int))=(((if v < 0 then (v + (n:Int)).toNat else min v.toNat n):Nat):Int)
 by_cases hv:v < 0
 ·simp only [if_pos hv];omega
 ·simp only [if_neg hv];omega
theorem nw (lo hi:Option Int) (n:Nat):Builtin.Slice.sliceAdjust lo hi 1 (n:Int)=(((sIx n 0 lo:Nat):Int),((sIx n n hi:Nat):Int)):=by
 have h1:¬ ((1:Int) < 0):=by omega
 unfold Builtin.Slice.sliceAdjust
 simp only [h1,if_false]
 refine Prod.ext ?_ ?_
 ·cases lo with
  | none=>rfl
  | some v=>exact oG v n 0
 ·cases hi with
  | none=>rfl
  | some v=>exact oG v n n
theorem nz (i j:Nat):Builtin.Slice.slicePlaces (i:Int) (j:Int) 1=j - i:=by
 unfold Builtin.Slice.slicePlaces
 have h1:(1:Int) > 0:=by omega
 simp only [h1,if_true,Int.ediv_one]
 split <;> omega
theorem i8 {v:Value}{o:Option Int}{Q:Option Int->Shared->Prop} (p:IsPart v o) (h:Q o s):wpAny (model prog w) A (Builtin.Slice.slicePartIndex v) Q E s:=by
 cases p with
 | none=>exact slicePart_none h
 | int i t=>exact slicePart_int h
theorem eF {sl:Addr}{vl vu:Value}{lo hi:Option Int}{n:Nat}{Q:Int × Int × Nat->Shared->Prop} (hs:s.heap.IsSliceOf sl vl vu .none) (pl:IsPart vl lo) (pu:IsPart vu hi)
  (h:Q (((sIx n 0 lo:Nat):Int),1,sIx n n hi - sIx n 0 lo) s):wpAny (model prog w) A (Builtin.Slice.sliceApplied (.ref sl) (pure (n:Int))) Q E s:=by
 obtain ⟨os,hos,hcs,hds⟩:=id hs
 unfold Builtin.Slice.sliceApplied Builtin.Slice.sliceFields
 refine wpAny_bind (wpAny_bind (wpAny_field hos hds (x:=vl) rfl (wpAny_bind (wpAny_field hos hds (x:=vu) rfl (wpAny_bind (wpAny_field hos hds (x:=.none) rfl (wpAny_pure ?_)))))))
 refine wpAny_bind (slicePart_none ?_)
 show wpAny _ _ (if ((1:Int) == 0)=true then _ else _) _ _ s
 rw [if_neg (by decide)]
 refine wpAny_bind (i8 pl (wpAny_bind (i8 pu (wpAny_bind (wpAny_pure ?_)))))
 show wpAny _ _ (match Builtin.Slice.sliceAdjust lo hi 1 (n:Int) with|(lo,hi)=>pure (lo,(1:Int),Builtin.Slice.slicePlaces lo hi 1)) _ _ s
 rw [nw lo hi n]
 show wpAny _ _ (pure (((sIx n 0 lo:Nat):Int),(1:Int),Builtin.Slice.slicePlaces ((sIx n 0 lo:Nat):Int) ((sIx n n hi:Nat):Int) 1)) _ _ s
 rw [nz]
 exact wpAny_pure h
theorem rF (xs:Array Value) (i k:Nat):((List.range k).filterMap λ(m:Nat)=>xs[((i:Int) + (m:Int) * 1).toNat]?).toArray=((xs.toList.drop i).take k).toArray:=by
 have e:(λ(m:Nat)=>xs[((i:Int) + (m:Int) * 1).toNat]?)=λm=>xs[i + m]?:=by
  funext m
  have:((i:Int) + (m:Int) * 1).toNat=i + m:=by omega
  rw [this]
 rw [e]
 have:=pick_run xs i k
 rw [List.filterMap_map] at this
 have e2:((λx=>xs[x]?) ∘ λx=>i + x)=λm=>xs[i + m]?:=rfl
 rw [e2] at this
 rw [this]
theorem getItem_tuple_cut {t sl:Addr}{items:Array Value}{vl vu:Value}{lo hi:Option Int}{Q:Value->Shared->Prop} (ht:IsTup s.heap t items) (hs:s.heap.IsSliceOf sl vl vu .none) (pl:IsPart vl lo) (pu:IsPart vu hi)
  (hw:¬ (sIx items.size 0 lo=0/\sIx items.size items.size hi=items.size))
  (h:Q (.ref s.heap.objs.size) { s with heap:=s.heap.push { cls:=.type "tuple",data:=.seq ((items.toList.drop (sIx items.size 0 lo)).take (sIx items.size items.size hi - sIx items.size 0 lo)).toArray } })
  (hsz:items.size <= sizeLine):wpAny (model prog w) A (getItem (.ref t) (.ref sl)) Q E s:=by
 have htake:sizeOk (.seq ((items.toList.drop (sIx items.size 0 lo)).take (sIx items.size items.size hi - sIx items.size 0 lo)).toArray):=by
  show ((items.toList.drop (sIx items.size 0 lo)).take (sIx items.size items.size hi - sIx items.size 0 lo)).toArray.size <= sizeLine
  rw [List.size_toArray,List.length_take,List.length_drop,Array.length_toList]
  omega
 have hj:sIx items.size items.size hi <= items.size:=yc _ _ (Nat.le_refl _) hi
 obtain ⟨os,hos,hcs,hds⟩:=id hs
 have hTs:s.TypeIs (.ref sl) "slice":=⟨os,hos,hcs⟩
 unfold getItem
 try with_reducible refine wpAny_holding ?_
 first|refine wpAny_bind (wpAny_pure ?_)|skip
 refine wpAny_bind (wpAny_sequenceKey ht.typeIs (by decide) ?_)
 refine wpAny_bind (wpAny_callSpecial?_slot (name:=Str.ofString "__getitem__") ht.typeIs PyProof.Rows.slot_tuple_getitem
  (wpAny_call_entry PyProof.Rows.slot_tuple_getitem ht.typeIs entry_tuple_getitem ?_ (args_tuple_getitem _ _)))
 show wpAny _ _ (Builtin.Tuple.tupleItemsOf (.ref t) >>= _) _ _ s
 refine wpAny_bind (tupleItemsOf_ ht ?_)
 refine wpAny_bind (wpAny_typeOf hTs ?_)
 rw [if_pos (by decide)]
 refine wpAny_bind (eF hs pl pu ?_)
 have hno:¬ ((((sIx items.size 0 lo:Nat):Int) == 0&&(1:Int) == 1&&(sIx items.size items.size hi - sIx items.size 0 lo) == items.size)=true):=by
  intro q
  rw [Bool.and_eq_true,Bool.and_eq_true] at q
  have q1:((sIx items.size 0 lo:Nat):Int)=0:=eq_of_beq q.1.1
  have q2:sIx items.size items.size hi - sIx items.size 0 lo=items.size:=eq_of_beq q.2
  exact hw ⟨by omega,by omega⟩
 show wpAny _ _ (if (((sIx items.size 0 lo:Nat):Int) == 0&&(1:Int) == 1&&(sIx items.size items.size hi - sIx items.size 0 lo) == items.size)=true then _ else _) _ _ s
 rw [if_neg hno,rF]
 first
  | exact wpAny_bind (m:=Builtin.Tuple.tupleExact _) (wpAny_newObj_type (wpAny_pure ⟨_,rfl,wpAny_pure h⟩) htake)
  | exact wpAny_bind (m:=Builtin.Tuple.tupleExact _) (wpAny_newObj_type (wpAny_bind (wpAny_pure (wpAny_pure ⟨_,rfl,wpAny_pure h⟩))) htake)
  | exact wpAny_bind (wpAny_bind (m:=Builtin.Tuple.tupleExact _) (wpAny_newObj_type (wpAny_pure (wpAny_pure ⟨_,rfl,wpAny_pure h⟩)) htake))
  | exact wpAny_bind (wpAny_bind (m:=Builtin.Tuple.tupleExact _) (wpAny_newObj_type (wpAny_pure ⟨_,rfl,wpAny_pure h⟩) htake))
end
end HT
namespace L2
open PySem PySem.Spec PyProof.Rows
noncomputable abbrev TO:=St->Hp->(Option Int->Hp->Prop)->Prop
noncomputable def PO (X:Cx) (e:Option Expr) (t:TO):Prop :=
 ∀ (pins:List (Addr × Obj)) (s:Shared) (σ:St) (H:Hp) (Q:Option Int->Hp->Prop),Inv X pins σ H s->t σ H Q ->
  wpAny (model X.prog X.w) X.A (evalPart e X.env) (λu s'=>∃ o H',Inv X pins σ H' s'/\IsPart u o/\Q o H') X.xe s
noncomputable def vo:TO:=λ_ H Q=>Q none H
noncomputable def AJ (t:TE):TO:=λσ H Q=>t σ H λx H1=>∃ i,x=.int i/\Q (some i) H1
theorem f9 {ns:List Int}:∀ {us:List Value},ar (ns.map V.int) us->IntsAre us ns:=by
 induction ns with
 | nil=>intro us r;rw [List.map_nil] at r;cases r;exact .nil
 | cons n ns ih =>
  intro us r
  rw [List.map_cons] at r
  cases r with
  | cons r1 r2 =>
   obtain ⟨t,e⟩:=r1
   subst e
   exact .cons n t (ih r2)
section
variable {X:Cx}{e:Expr}{te:TE}{lo hi:Option Expr}{tl th:TO}{pos p2:Pos}
theorem vp:PO X none vo:=by
 intro pins s σ H Q I h
 rw [evalPart_none]
 exact wpAny_pure ⟨none,H,I,.none,h⟩
theorem vq (h:PE X e te):PO X (some e) (AJ te):=by
 intro pins s σ H Q I hw
 rw [evalPart_some]
 refine thn (h pins s σ H _ I hw) λu s1 ⟨x,H1,I1,r1,q1⟩=>?_
 obtain ⟨i,rfl,q⟩:=q1
 obtain ⟨t,rfl⟩:=r1
 exact ⟨some i,H1,I1,.int i t,q⟩
noncomputable def SlR (X:Cx) (r:V->Option Int->Option Int->Hp->VK->Prop):Prop :=
 ∀ (pins:List (Addr × Obj)) (s:Shared) (σ:St) (H:Hp) (x:V) (v vl vu:Value) (lo hi:Option Int) (sl:Addr) (Q:VK),Inv X pins σ H s->aw x v->s.heap.IsSliceOf sl vl vu .none->IsPart vl lo->IsPart vu hi->r x lo hi H Q ->
  ∃ T id,typeLookup (.type T) "__getitem__"=pure (some (.builtin id))/\s.TypeIs v T/\wpAny (model X.prog X.w) X.A (getItem v (.ref sl)) (EP X pins σ Q) X.xe s
noncomputable def tSl (r:V->Option Int->Option Int->Hp->VK->Prop) (te:TE) (tl th:TO):TE:=λσ H Q=>te σ H λx H1=>tl σ H1 λl H2=>th σ H2 λu H3=>r x l u H3 Q
theorem rG {r:V->Option Int->Option Int->Hp->VK->Prop} (hr:SlR X r) (he:PE X e te) (hl:PO X lo tl) (hu:PO X hi th):PE X (.Subscript e (.Slice lo hi none p2) pos) (tSl r te tl th):=by
 intro pins s σ H Q I h
 refine Subscript_ (thn (he pins s σ H _ I h) λv s1 ⟨x,H1,I1,r1,q1⟩=>?_)
 refine wpAny_Slice (thn (hl pins s1 σ H1 _ I1 q1) λvl s2 ⟨l,H2,I2,pl,q2⟩=>thn (hu pins s2 σ H2 _ I2 q2) λvu s3 ⟨u,H3,I3,pu,q3⟩=>?_)
 rw [evalPart_none]
 refine wpAny_pure ?_
 have I4:Inv X pins σ H3 { s3 with heap:=s3.heap.push { cls:=.type "slice",data:=.fields #[vl,vu,.none] } }:=I3.kept (t':=s3.toks) λb ob q=>Heap.get?_push_of_some _ q
 obtain ⟨T,id,hT,ht,hg⟩:=hr pins { s3 with heap:=s3.heap.push { cls:=.type "slice",data:=.fields #[vl,vu,.none] } } σ H3 x v vl vu l u s3.heap.objs.size Q I4 r1 (Heap.IsSliceOf.new ..) pl pu q3
 show wpAny (model X.prog X.w) X.A (subscriptTail e (.Slice lo hi none p2) v (.ref s3.heap.objs.size)) (EP X pins σ Q) X.xe { s3 with heap:=s3.heap.push { cls:=.type "slice",data:=.fields #[vl,vu,.none] } }
 exact tail_any (ops:=[.ref s3.heap.objs.size,v]) ht hT hg (by with_unfolding_all rfl)
noncomputable def l7 (xs:List V) (lo hi:Option Int):List V:=(xs.drop (HT.sIx xs.length 0 lo)).take (HT.sIx xs.length xs.length hi - HT.sIx xs.length 0 lo)
theorem iw (xs:List V) (lo hi:Option Int):(l7 xs lo hi).length <= xs.length:=by
 unfold l7
 rw [List.length_take,List.length_drop]
 omega
noncomputable def Cv (K:PySem.W.Frag):V->Option Int->Option Int->Hp->VK->Prop:=λx lo hi H Q=>∃ a xs,x=.ref a/\SqT K H a xs /\
 ¬ (HT.sIx xs.length 0 lo=0/\HT.sIx xs.length xs.length hi=xs.length)/\∀ p,H p=none->Q (.ref p) (upd H p (.tup (l7 xs lo hi)))
theorem yd:SlR X (Cv X.K):=by
 intro pins s σ H x v vl vu lo hi sl Q I rx hs pl pu h
 obtain ⟨a,xs,rfl,hx,hw,q⟩:=h
 cases rx
 obtain ⟨its,r,ht,hz⟩:=I.tuple hx
 have hlen:its.toArray.size=xs.length:=by rw [List.size_toArray];exact r.length.symm
 refine ⟨"tuple",_,PyProof.Rows.slot_tuple_getitem.lookup,ht.typeIs,?_⟩
 refine HT.getItem_tuple_cut ht hs pl pu (by rw [hlen];exact hw) ?_ (by rw [hlen];exact hz)
 rw [hlen]
 refine ⟨.ref s.heap.objs.size,_,I.laid (t':=s.toks) (o:=.tup (l7 xs lo hi)) (λb ob q=>Heap.get?_push_of_some _ q) (Nat.le_refl _) ?_,rfl,q _ (I.hok.fresh (Nat.le_refl _))⟩
 exact ⟨Nat.le_trans (iw xs lo hi) hz,_,(r.drop (HT.sIx xs.length 0 lo)).take (HT.sIx xs.length xs.length hi - HT.sIx xs.length 0 lo),IsTup.new _ _⟩
noncomputable def AK (K:PySem.W.Frag):R2:=λx y H Q=>∃ a b xs ys,x=.ref a/\y=.ref b/\SqT K H a xs/\SqT K H b ys/\xs ≠ []/\xs.length + ys.length <= sizeLine /\
 (ys=[]->Q (.ref a) H)/\(ys ≠ []->∀ p,H p=none->Q (.ref p) (upd H p (.tup (xs ++ ys))))
theorem ar.nil_iff {xs:List V}{us:List Value} (r:ar xs us):us=[] ↔ xs=[]:=by
 cases r with
 | nil=>simp
 | cons _ _=>simp
theorem vt:OpR X (binaryOp .Add) (AK X.K):=by
 intro pins s σ H x y v u Q I rx ry h
 obtain ⟨a,b,xs,ys,rfl,rfl,ha,hb,hx,hz,q1,q2⟩:=h
 cases rx
 cases ry
 obtain ⟨its,r1,p1,_⟩:=I.tuple ha
 obtain ⟨its2,r2,p2,_⟩:=I.tuple hb
 refine HT.cat_tup p1 p2 (λz=>hx (r1.nil_iff.mp z)) (λz=>⟨.ref a,H,I,rfl,q1 (r2.nil_iff.mp z)⟩) (λz=>?_) (by rw [<- r1.length,<- r2.length];exact hz)
 refine ⟨.ref s.heap.objs.size,_,I.laid (t':=s.toks) (o:=.tup (xs ++ ys)) (λb ob q=>Heap.get?_push_of_some _ q) (Nat.le_refl _) ?_,rfl,q2 (λw=>z (r2.nil_iff.mpr w)) _ (I.hok.fresh (Nat.le_refl _))⟩
 exact ⟨by rw [List.length_append];exact hz,_,r1.append r2,IsTup.new _ _⟩
end
end L2
namespace L2
open PySem PySem.Spec PyProof.Rows
noncomputable def ixN (n:Nat) (i:Int):Option Nat:=if 0 <= i then (if i < n then some i.toNat else none) else if -(n:Int) <= i then some (i + n).toNat else none
noncomputable def atI {α:Type} (xs:List α) (i:Int):Option α:=(ixN xs.length i).bind λj=>xs[j]?
theorem vv {n:Nat}{i:Int}{j:Nat} (h:ixN n i=some j):seqIndex? i n=some j/\j < n/\-(n:Int) <= i/\i < n:=by
 unfold ixN at h
 by_cases h0:0 <= i
 ·rw [if_pos h0] at h
  by_cases h1:i < n
  ·rw [if_pos h1] at h
   have e:i.toNat=j:=Option.some.inj h
   exact ⟨by rw [seqIndex_of h0 h1,e],by omega,by omega,h1⟩
  ·rw [if_neg h1] at h;cases h
 ·rw [if_neg h0] at h
  by_cases h1:-(n:Int) <= i
  ·rw [if_pos h1] at h
   have e:(i + n).toNat=j:=Option.some.inj h
   exact ⟨by rw [seqIndex_neg (by omega) h1,e],by omega,h1,by omega⟩
  ·rw [if_neg h1] at h;cases h
theorem lc {α:Type}{xs:List α}{i:Int}{v:α} (h:atI xs i=some v):∃ j,seqIndex? i xs.length=some j/\xs[j]?=some v/\j < xs.length/\-(xs.length:Int) <= i/\i < xs.length:=by
 unfold atI at h
 cases e:ixN xs.length i with
 | none=>rw [e] at h;cases h
 | some j =>
  rw [e] at h
  obtain ⟨h1,h2,h3,h4⟩:=vv e
  exact ⟨j,h1,h,h2,h3,h4⟩
noncomputable def oH (b:Expr):Prop:=∀ o i,subscripted b false o i=operate [o,i] (getItem o i)
noncomputable def IxR (X:Cx) (r:R2):Prop :=
 ∀ (value slice:Expr) (pins:List (Addr × Obj)) (s:Shared) (σ:St) (H:Hp) (x y:V) (v u:Value) (Q:VK),Inv X pins σ H s->aw x v->aw y u->r x y H Q ->
  subscripted slice false v u=operate [v,u] (getItem v u)->wpAny (model X.prog X.w) X.A (subscriptTail value slice v u) (EP X pins σ Q) X.xe s
noncomputable def MtR (X:Cx) (id:String) (r:V->List V->Hp->VK->Prop):Prop :=
 ∀ (pins:List (Addr × Obj)) (s:Shared) (σ:St) (H:Hp) (x:V) (xs:List V) (v:Value) (us:List Value) (Q:VK),Inv X pins σ H s->aw x v->ar xs us->r x xs H Q ->
  wpAny (model X.prog X.w) X.A (call (.builtin id) (v::us)) (EP X pins σ Q) X.xe s
section
variable {X:Cx}{a b:Expr}{ta tb:TE}{pos:Pos}
theorem IxR.or {r r':R2} (h:IxR X r) (h':IxR X r'):IxR X (λx y H Q=>r x y H Q \/ r' x y H Q):=by
 intro value slice pins s σ H x y v u Q I rx ry q hs
 rcases q with q|q
 ·exact h value slice pins s σ H x y v u Q I rx ry q hs
 ·exact h' value slice pins s σ H x y v u Q I rx ry q hs
theorem rH {r:R2} (hr:IxR X r) (ha:PE X a ta) (hb:PE X b tb) (hs:oH b):PE X (.Subscript a b pos) (tOp r ta tb):=by
 intro pins s σ H Q I h
 exact Subscript_ (xZ ha hb I h λv u s2 x y H2 I2 rx ry q=>hr a b pins s2 σ H2 x y v u Q I2 rx ry q (hs _ _))
noncomputable def AL (K:PySem.W.Frag):R2:=λx y H Q=>∃ p xs i v,x=.ref p/\y=.int i/\SqL K H p xs/\atI xs i=some v/\Q v H
noncomputable def AM (K:PySem.W.Frag):R2:=λx y H Q=>∃ p xs i v,x=.ref p/\y=.int i/\SqT K H p xs/\atI xs i=some v/\Q v H
noncomputable def AN:R2:=λx y H Q=>∃ z i c,x=.str z/\y=.int i/\z.length <= sizeLine/\atI z.cps.toList i=some c/\Q (.str ⟨#[c]⟩) H
theorem vw:IxR X (AL X.K):=by
 intro value slice pins s σ H x y v u Q I rx ry h hs
 obtain ⟨p,xs,i,z,rfl,rfl,hq,he,q⟩:=h
 cases rx
 obtain ⟨t,rfl⟩:=ry
 obtain ⟨its,r,pl,hz⟩:=I.list hq
 obtain ⟨j,h1,h2,h3,h4,h5⟩:=lc he
 obtain ⟨w,ew,rw'⟩:=r.get h2
 have hl:=r.length
 have hn:=i3
 have fin:EP X pins σ Q w s:=⟨z,H,I,rw',q⟩
 by_cases h0:0 <= i
 ·have hj:i.toNat=j:=by
   rw [seqIndex_of h0 h5] at h1
   exact Option.some.inj h1
  exact item_listR pl.isList h0 (by omega) (by rw [hj];simpa using ew) fin hs
 ·have hj:(i + (its.toArray.size:Int)).toNat=j:=by
   rw [seqIndex_neg (by omega) h4] at h1
   rw [List.size_toArray,<- hl]
   exact Option.some.inj h1
  exact subscriptTail_builtinR (x:=w) pl.isList.typeIs slot_list_getitem.lookup
   (wpAny_getItem_list_neg (Q:=λr s'=>r=w/\EP X pins σ Q r s') pl.isList (by omega) (by rw [List.size_toArray] <;> omega) (by omega) (by rw [hj];simpa using ew) ⟨rfl,fin⟩) hs
theorem nA:IxR X (AM X.K):=by
 intro value slice pins s σ H x y v u Q I rx ry h hs
 obtain ⟨p,xs,i,z,rfl,rfl,hq,he,q⟩:=h
 cases rx
 obtain ⟨t,rfl⟩:=ry
 obtain ⟨its,r,pl,hz⟩:=I.tuple hq
 obtain ⟨j,h1,h2,h3,h4,h5⟩:=lc he
 obtain ⟨w,ew,rw'⟩:=r.get h2
 have hl:=r.length
 have hn:=i3
 have fin:EP X pins σ Q w s:=⟨z,H,I,rw',q⟩
 exact subscriptTail_builtinR (x:=w) pl.typeIs slot_tuple_getitem.lookup
  (getItem_tuple (j:=j) (Q:=λr s'=>r=w/\EP X pins σ Q r s') pl (by omega) (by omega) (by rw [List.size_toArray,<- hl];exact h1) (by simpa using ew) ⟨rfl,fin⟩) hs
theorem ye:IxR X AN:=by
 intro value slice pins s σ H x y v u Q I rx ry h hs
 obtain ⟨z,i,c,rfl,rfl,hz,he,q⟩:=h
 obtain ⟨t,rfl⟩:=rx
 obtain ⟨t',rfl⟩:=ry
 obtain ⟨j,h1,h2,h3,h4,h5⟩:=lc he
 have hl:z.cps.toList.length=z.length:=by simp [Str.length]
 rw [hl] at h1 h4 h5
 have hn:=i3
 exact tail_any (typeIs_str s z t) slot_str_getitem.lookup (getItem_str (c:=c) (by
  have e1:decide (i < -(2 ^ 63:Int))=false:=decide_eq_false (by omega)
  have e2:decide (i >= 2 ^ 63)=false:=decide_eq_false (by omega)
  rw [e1,e2,Bool.or_false]) (by rw [h1];simpa using h2) ⟨.str ⟨#[c]⟩,H,I.tok _,⟨_,rfl⟩,q⟩) hs
noncomputable def rIx (K:PySem.W.Frag):R2:=λx y H Q=>AL K x y H Q \/ AM K x y H Q \/ AN x y H Q
theorem rJ:IxR X (rIx X.K):=vw.or (nA.or ye)
theorem Inv.lst {pins:List (Addr × Obj)}{σ:St}{H:Hp}{s:Shared}{p:Addr}{xs:List V} (I:Inv X pins σ H s) (h:H p=some (.lst xs)) :
  ∃ (its:List Value) (n:Nat),ar xs its/\s.heap.get? p=some { cls:=.type "list",data:=.seq its.toArray n }/\xs.length <= sizeLine:=by
 obtain ⟨z,its,n,r,e⟩:=I.hok p _ h
 exact ⟨its,n,r,e,z⟩
theorem lh (lo hi:Option Int) (n:Nat):(sliceBounds lo hi none n).1=((HT.sIx n 0 lo:Nat):Int)/\(sliceBounds lo hi none n).2.1=((HT.sIx n n hi:Nat):Int)/\(sliceBounds lo hi none n).2.2=1:=by
 refine ⟨?_,?_,rfl⟩
 ·cases lo with
  | none=>simp [sliceBounds,HT.sIx]
  | some i =>
   simp only [sliceBounds,HT.sIx,Option.getD_none,show (1:Int) > 0 by decide,if_true]
   by_cases h:i < 0
   ·simp only [h,if_true] <;> omega
   ·simp only [h,if_false] <;> omega
 ·cases hi with
  | none=>simp [sliceBounds,HT.sIx]
  | some i =>
   simp only [sliceBounds,HT.sIx,Option.getD_none,show (1:Int) > 0 by decide,if_true]
   by_cases h:i < 0
   ·simp only [h,if_true] <;> omega
   ·simp only [h,if_false] <;> omega
theorem jS (its:List Value) (lo hi:Option Int):slicePick its.toArray lo hi none=((its.drop (HT.sIx its.length 0 lo)).take (HT.sIx its.length its.length hi - HT.sIx its.length 0 lo)).toArray:=by
 obtain ⟨h1,h2,h3⟩:=lh lo hi its.toArray.size
 unfold slicePick
 rw [h1,h2,h3]
 simp only [sliceRange_one,pick_run,List.size_toArray] <;> rfl
noncomputable def Cw (K:PySem.W.Frag):V->Option Int->Option Int->Hp->VK->Prop:=λx lo hi H Q=>∃ a xs,x=.ref a/\SqL K H a xs/\∀ p,H p=none->Q (.ref p) (upd H p (.lst (l7 xs lo hi)))
theorem vz:SlR X (Cw X.K):=by
 intro pins s σ H x v vl vu lo hi sl Q I rx hs pl pu h
 obtain ⟨a,xs,rfl,hx,q⟩:=h
 cases rx
 obtain ⟨its,r,ht,hz⟩:=I.list hx
 have hlen:=r.length
 refine ⟨"list",_,slot_list_getitem.lookup,ht.isList.typeIs,?_⟩
 refine wpAny_getItem_list_slice ht.isList hs pl pu .none (by simp) ?_ (by rw [List.size_toArray] <;> omega)
 rw [jS,<- hlen]
 refine ⟨.ref s.heap.objs.size,_,I.laid (t':=s.toks) (o:=.lst (l7 xs lo hi)) (λb ob q=>Heap.get?_push_of_some _ q) (Nat.le_refl _) ?_,rfl,q _ (I.hok.fresh (Nat.le_refl _))⟩
 exact ⟨Nat.le_trans (iw xs lo hi) hz,_,0,(r.drop (HT.sIx xs.length 0 lo)).take (HT.sIx xs.length xs.length hi - HT.sIx xs.length 0 lo),Heap.get?_push_size _ rfl⟩
noncomputable def fX:V->Bool
 | .non=>true
 | .bl _=>true
 | .int _=>true
 | .str _=>true
 | _=>false
noncomputable def eqV:V->V->Bool
 | .non,.non=>true
 | .bl a,.bl b=>a == b
 | .bl a,.int b=>(if a then 1 else 0) == b
 | .int a,.bl b=>a == (if b then 1 else 0)
 | .int a,.int b=>a == b
 | .str a,.str b=>a == b
 | _,_=>false
theorem rK {A:Around}{s:Shared}{y x:V}{u v:Value} (ry:aw y u) (rx:aw x v) (fy:fX y=true) (fx:fX x=true):SeqAt.EqAt A s u v (eqV y x):=by
 cases y with
 | non =>
  cases ry
  cases x with
  | non=>cases rx;exact SeqAt.EqAt.same _
  | bl b=>cases rx;exact SeqAt.EqAt.none_bool b
  | int b=>obtain ⟨t,rfl⟩:=rx;exact SeqAt.EqAt.none_int b t
  | str b=>obtain ⟨t,rfl⟩:=rx;exact SeqAt.EqAt.none_str b t
  | _=>exact absurd (show false=true from fx) Bool.false_ne_true
 | bl a =>
  cases ry
  cases x with
  | non=>cases rx;exact SeqAt.EqAt.bool_none a
  | bl b=>cases rx;exact SeqAt.EqAt.bool_bool a b
  | int b=>obtain ⟨t,rfl⟩:=rx;exact SeqAt.EqAt.bool_int a b t
  | str b=>obtain ⟨t,rfl⟩:=rx;exact SeqAt.EqAt.bool_str a b t
  | _=>exact absurd (show false=true from fx) Bool.false_ne_true
 | int a =>
  obtain ⟨t',rfl⟩:=ry
  cases x with
  | non=>cases rx;exact SeqAt.EqAt.int_none a t'
  | bl b=>cases rx;exact SeqAt.EqAt.int_bool a t' b
  | int b=>obtain ⟨t,rfl⟩:=rx;exact SeqAt.EqAt.int_int a t' b t
  | str b=>obtain ⟨t,rfl⟩:=rx;exact SeqAt.EqAt.int_str a t' b t
  | _=>exact absurd (show false=true from fx) Bool.false_ne_true
 | str a =>
  obtain ⟨t',rfl⟩:=ry
  cases x with
  | non=>cases rx;exact SeqAt.EqAt.str_none a t'
  | bl b=>cases rx;exact SeqAt.EqAt.str_bool a t' b
  | int b=>obtain ⟨t,rfl⟩:=rx;exact SeqAt.EqAt.str_int a t' b t
  | str b=>obtain ⟨t,rfl⟩:=rx;exact SeqAt.EqAt.str_str a t' b t
  | _=>exact absurd (show false=true from fx) Bool.false_ne_true
 | _=>exact absurd (show false=true from fy) Bool.false_ne_true
theorem eS:cD X (.builtin "len") (λxs H Q=>∃ p ys,xs=[.ref p]/\(SqL X.K H p ys \/ SqT X.K H p ys)/\Q (.int ys.length) H):=by
 intro pins s σ H xs us Q I r h
 obtain ⟨p,ys,rfl,hq,q⟩:=h
 obtain ⟨u,rfl,rx⟩:=ir r
 cases rx
 have hn:=i3
 rcases hq with hq|hq
 ·obtain ⟨its,r',pl,hz⟩:=I.list hq
  have hlen:=r'.length
  exact Calls.call_len_list pl.isList (by simp only [List.size_toArray] <;> omega) ⟨.int ys.length,H,I.tok _,⟨s.toks + 1,by rw [List.size_toArray,hlen]⟩,q⟩
 ·obtain ⟨its,r',pl,hz⟩:=I.tuple hq
  have hlen:=r'.length
  exact len_tuple pl (by simp only [List.size_toArray] <;> omega) ⟨.int ys.length,H,I.tok _,⟨s.toks + 1,by rw [List.size_toArray,hlen]⟩,q⟩
theorem lj:cD X (.type "list") (λxs H Q=>∃ p ys,xs=[.ref p]/\(SqL X.K H p ys \/ SqT X.K H p ys)/\∀ l,H l=none->Q (.ref l) (upd H l (.lst ys))):=by
 intro pins s σ H xs us Q I r h
 obtain ⟨p,ys,rfl,hq,q⟩:=h
 obtain ⟨u,rfl,rx⟩:=ir r
 cases rx
 have fin:∀ (its:List Value),ar ys its->ys.length <= sizeLine->∀ (h':Heap) (c':Nat),(∀ b o',s.heap.get? b=some o'->h'.get? b=some o') ->
   h'.get? s.heap.objs.size=some { cls:=.type "list",dict:=none,data:=.seq its.toArray c',slots:=#[] }->EP X pins σ Q (.ref s.heap.objs.size) { s with heap:=h' }:=λits r' hz h' c' kp e =>
  ⟨.ref s.heap.objs.size,_,I.laid (t':=s.toks) kp (Nat.le_refl _) (show bw X.prog X.w _ h' _ (.lst ys) from ⟨hz,its,c',r',e⟩),rfl,q _ (I.hok.fresh (Nat.le_refl _))⟩
 rcases hq with hq|hq
 ·obtain ⟨its,r',pl,hz⟩:=I.list hq
  have hlen:=r'.length
  obtain ⟨o,ho,hc,n,hd⟩:=pl.isList
  exact call_list_seq p (.inl rfl) ho hc hd (λh' c' kp e=>fin its r' hz h' c' kp e) (by simp only [List.size_toArray] <;> omega)
 ·obtain ⟨its,r',pl,hz⟩:=I.tuple hq
  have hlen:=r'.length
  obtain ⟨o,ho,hc,n,hd⟩:=pl
  exact call_list_seq p (.inr rfl) ho hc hd (λh' c' kp e=>fin its r' hz h' c' kp e) (by simp only [List.size_toArray] <;> omega)
theorem fY:cD X (.type "tuple") (λxs H Q=>∃ p ys,xs=[.ref p]/\((SqL X.K H p ys/\∀ l,H l=none->Q (.ref l) (upd H l (.tup ys))) \/ (SqT X.K H p ys/\Q (.ref p) H))):=by
 intro pins s σ H xs us Q I r h
 obtain ⟨p,ys,rfl,h⟩:=h
 obtain ⟨u,rfl,rx⟩:=ir r
 cases rx
 rcases h with ⟨hq,q⟩|⟨hq,q⟩
 ·obtain ⟨its,r',pl,hz⟩:=I.list hq
  have hlen:=r'.length
  refine call_tuple_list pl.isList (λh' kp=>?_) (by simp only [List.size_toArray] <;> omega)
  have I1:Inv X pins σ H { s with heap:=h' }:=I.kept (t':=s.toks) kp
  have I2:Inv X pins σ (upd H h'.objs.size (.tup ys)) { s with heap:=h'.push { cls:=.type "tuple",data:=.seq its.toArray } } :=
   I1.laid (t':=s.toks) (λb o e=>Heap.get?_push_of_some _ e) (Nat.le_refl _) (show bw X.prog X.w _ _ _ (.tup ys) from ⟨hz,its,r',IsTup.new _ _⟩)
  exact ⟨.ref h'.objs.size,_,I2,rfl,q _ (I1.hok.fresh (Nat.le_refl _))⟩
 ·obtain ⟨its,r',pl,hz⟩:=I.tuple hq
  exact call_tuple_same pl ⟨.ref p,H,I,rfl,q⟩
noncomputable def tyV (K:PySem.W.Frag) (T:String) (x:V) (H:Hp):Prop:=match x with
 | .str _=>T="str"
 | .int _=>T="int"
 | .ref p=>(T="list"/\∃ xs,SqL K H p xs) \/ (T="tuple"/\∃ o,K.lookup p=some o/\o.cls=.type "tuple"/\o.dict=none) \/
   (T="dict"/\((∃ kvs,H p=some (.dK kvs)) \/ ∃ kvs,H p=some (.dT kvs))) \/ (T="set"/\∃ S n,H p=some (.set S n))
 | _=>False
theorem rL {pins:List (Addr × Obj)}{σ:St}{H:Hp}{s:Shared}{T:String}{x:V}{v:Value} (I:Inv X pins σ H s) (r:aw x v) (ty:tyV X.K T x H) :
  s.TypeIs v T/\∀ a,v=.ref a->∃ ob,s.heap.get? a=some ob/\ob.dict=none:=by
 cases x with
 | str z =>
  obtain ⟨t,rfl⟩:=r
  cases (show T="str" from ty)
  exact ⟨typeIs_str s z t,λ_ e=>nomatch e⟩
 | int i =>
  obtain ⟨t,rfl⟩:=r
  cases (show T="int" from ty)
  exact ⟨typeIs_int s i t,λ_ e=>nomatch e⟩
 | ref p =>
  cases r
  rcases ty with ⟨rfl,xs,hq⟩|⟨rfl,o,hk,hc,hd⟩|⟨rfl,hk⟩|⟨rfl,S,n,hk⟩
  ·obtain ⟨its,_,pl,_⟩:=I.list hq
   refine ⟨pl.isList.typeIs,λa e=>?_⟩
   cases e
   obtain ⟨o,n,e,c,hd,_⟩:=pl
   exact ⟨o,e,hd⟩
  ·refine ⟨⟨o,I.kIn p o hk,hc⟩,λa e=>?_⟩
   cases e
   exact ⟨o,I.kIn _ o hk,hd⟩
  ·have z:∃ o,s.heap.get? p=some o/\o.ExactDict:=by
    rcases hk with ⟨kvs,hk⟩|⟨kvs,hk⟩
    ·obtain ⟨_,_,_,_,o,_,_,e,ex,_⟩:=I.hok p _ hk
     exact ⟨o,e,ex⟩
    ·obtain ⟨_,_,_,_,o,_,_,e,ex,_⟩:=I.hok p _ hk
     exact ⟨o,e,ex⟩
   obtain ⟨o,e,ex⟩:=z
   refine ⟨⟨o,e,ex.1⟩,λa e2=>?_⟩
   cases e2
   exact ⟨o,e,ex.2.1⟩
  ·obtain ⟨o,_,_,_,e,ex,_⟩:=I.hok p _ hk
   refine ⟨⟨o,e,ex.1⟩,λa e2=>?_⟩
   cases e2
   exact ⟨o,e,ex.2.1⟩
 | _=>exact False.elim ty
noncomputable def Cy (K:PySem.W.Frag) (T:String) (r:V->List V->Hp->VK->Prop) (to:TE):TE:=λσ H Q=>to σ H λx H1=>tyV K T x H1/\r x [] H1 Q
noncomputable def tBM (K:PySem.W.Frag) (T:String) (r:V->List V->Hp->VK->Prop) (to:TE) (t:TA):TE:=λσ H Q=>to σ H λx H1=>tyV K T x H1/\t σ H1 λxs H2=>r x xs H2 Q
variable {o e:Expr}{es:List Expr}{to:TE}{t:TA}{name:Str}{apos cpos:Pos}{T id:String}{r:V->List V->Hp->VK->Prop}
theorem rM (pa:PlainAttrs T) (slot:Slot T name id) (hty:typeOf (.builtin id)=pure (.type "method_descriptor")) (hm:MtR X id r) (ho:PE X o to)
  (hbase:attributeBase o name X.env (eval o X.env)=eval o X.env:=by rfl) (hline:(apos.endLine == cpos.line)=true:=by rfl):PE X (.Call (.Attribute o name apos) [] [] cpos) (Cy X.K T r to):=by
 intro pins s σ H Q I h
 refine wpAny_Call_method0_late hbase hline (thn (ho pins s σ H _ I h) λv s1 ⟨x,H1,I1,r1,ty,q1⟩=>?_)
 obtain ⟨h1,h2⟩:=rL I1 r1 ty
 exact ⟨T,id,pa,slot,hty,h1,h2,Calls.callWith_builtin rfl (PySem.evalArgs_none (hm pins s1 σ H1 x [] v [] Q I1 r1 .nil q1))⟩
theorem rN (pa:PlainAttrs T) (slot:Slot T name id) (hty:typeOf (.builtin id)=pure (.type "method_descriptor")) (hm:MtR X id r) (ho:PE X o to) (ha:PA X (e::es) t)
  (hbase:attributeBase o name X.env (eval o X.env)=eval o X.env:=by rfl)
  (hfew:((backTo cpos (starEach (e::es) X.env)).all (λx=>!x.1)&&(backToKw cpos (keywordEach [] X.env)).all (λx=>x.1.isSome)
  &&decide ((e::es).length + ([]:List Keyword).length + (if ([]:List Keyword).isEmpty then 0 else 1) < 30))=true:=by rfl)
  (hline:(apos.endLine == cpos.line)=true:=by rfl) (hs:starEach (e::es) X.env=(false,eval e X.env)::starEach es X.env:=by rfl) (hplain:(backTo cpos (starEach es X.env)).any (·.1)=false:=by rfl) :
  PE X (.Call (.Attribute o name apos) (e::es) [] cpos) (tBM X.K T r to t):=by
 intro pins s σ H Q I h
 refine wpAny_Call_method_late hbase hfew hline rfl (thn (ho pins s σ H _ I h) λv s1 ⟨x,H1,I1,r1,ty,q1⟩=>?_)
 obtain ⟨h1,h2⟩:=rL I1 r1 ty
 refine ⟨T,id,pa,slot,hty,h1,h2,?_⟩
 have hA:=ha cpos pins s1 σ H1 _ I1 q1
 rw [hs] at hA ⊢
 refine Calls.callWith_builtin (by show (false || (backTo cpos (starEach es X.env)).any (·.1))=false;rw [hplain] <;> rfl) (Calls.evalArgs_plain ?_)
 exact thn hA λus s2 ⟨vs,H2,I2,r2,q2⟩=>hm pins s2 σ H2 x vs v us Q I2 r1 r2 q2
end
end L2
namespace L2
open PySem PySem.Spec PyProof.Rows
noncomputable def MtM (X:Cx) (id:String) (r:V->List V->Hp->VK->Prop):Prop :=
 ∀ (pins:List (Addr × Obj)) (s:Shared) (σ:St) (H:Hp) (x:V) (xs:List V) (v:Value) (us:List Value) (Q:VK),Inv X pins σ H s->aw x v->ar xs us->r x xs H Q ->
  wpAny (model X.prog X.w) X.A (call (.builtin id) (v::us)) (EP X pins σ Q) X.xe s
theorem ar.one:∀ {x:V}{us:List Value},ar [x] us->∃ u,us=[u]/\aw x u
 | _,_,.cons r .nil=>⟨_,rfl,r⟩
theorem ar.zero:∀ {us:List Value},ar [] us->us=[]
 | _,.nil=>rfl
theorem ar.dropLast {xs:List V}{us:List Value} (h:ar xs us):ar xs.dropLast us.dropLast:=by
 induction h with
 | nil=>exact .nil
 | cons r t ih =>
  cases t with
  | nil=>exact .nil
  | cons q t'=>exact .cons r ih
theorem ar.reverse {xs:List V}{us:List Value} (h:ar xs us):ar xs.reverse us.reverse:=by
 induction h with
 | nil=>exact .nil
 | cons r t ih=>rw [List.reverse_cons,List.reverse_cons];exact ar.append ih (.cons r .nil)
theorem nB {α:Type} (l:List α):l.eraseIdx (l.length - 1)=l.dropLast:=by
 induction l with
 | nil=>rfl
 | cons a r ih =>
  cases r with
  | nil=>rfl
  | cons b r =>
   have e:(a::b::r).length - 1=((b::r).length - 1) + 1:=by
    have h1:(a::b::r).length=r.length + 2:=rfl
    have h2:(b::r).length=r.length + 1:=rfl
    omega
   rw [e,List.eraseIdx_cons_succ,ih]
   all_goals rfl
section
variable {X:Cx}{pins:List (Addr × Obj)}{σ:St}{H:Hp}{s:Shared}{l b:Addr}{xs ys zs:List V}
theorem Inv.lset {its its':List Value}{n:Nat}{f:Array Value->Array Value}{t':Nat} (I:Inv X pins σ H s) (hH:H l=some (.lst xs))
  (e:s.heap.get? l=some { cls:=.type "list",data:=.seq its.toArray n }) (hf:f its.toArray=its'.toArray) (hv:ar ys its') (hz:ys.length <= sizeLine) :
  Inv X pins σ (upd H l (.lst ys)) { s with heap:=s.heap.update l (Obj.mapSeq f),toks:=t' }:=by
 have q:=PySem.IsL.update e f
 rw [hf] at q
 refine I.write (x:=l) (e:=l) (by rw [hH];exact trivial) (.inl rfl) (λb' u hb hu=>(Heap.get?_update_other s.heap (Obj.mapSeq f) (Ne.symm hb)).trans hu) ⟨_,q⟩ ?_
 exact ⟨hz,its',_,hv,q⟩
theorem Inv.lnew {its:List Value}{t':Nat} (I:Inv X pins σ H s) (hv:ar ys its) (hz:ys.length <= sizeLine) :
  Inv X pins σ (upd H s.heap.objs.size (.lst ys)) { s with heap:=s.heap.push { cls:=.type "list",data:=.seq its.toArray },toks:=t' } :=
 I.laid (λ_ _ q=>Heap.get?_push_of_some _ q) (Nat.le_refl _) ⟨hz,its,0,hv,Heap.get?_push_size _ rfl⟩
theorem Inv.fresh (I:Inv X pins σ H s):H s.heap.objs.size=none:=I.hok.fresh (Nat.le_refl _)
theorem Inv.lstM (I:Inv X pins σ H s) (hH:H l=some (.lst xs)):xs.length <= sizeLine/\∃ (its:List Value) (n:Nat),ar xs its/\xs.length=its.length/\s.heap.get? l=some { cls:=.type "list",data:=.seq its.toArray n }:=by
 obtain ⟨z,its,n,r,e⟩:=I.hok l _ hH
 exact ⟨z,its,n,r,r.length,e⟩
theorem l8 {n:Nat} (h:n <= sizeLine):Builtin.List.listTooLong n=false:=by
 unfold Builtin.List.listTooLong
 exact decide_eq_false (by omega)
end
section
variable {X:Cx}
noncomputable def vA:V->List V->Hp->VK->Prop:=λx vs H Q=>∃ l xs y,x=.ref l/\vs=[y]/\H l=some (.lst xs)/\xs.length < sizeLine/\Q .non (upd H l (.lst (xs ++ [y])))
theorem g9:MtM X "list.append" vA:=by
 intro pins s σ H x vs v us Q I rx rv h
 obtain ⟨l,xs,y,rfl,rfl,hH,hz,q⟩:=h
 cases rx
 obtain ⟨u,rfl,ru⟩:=rv.one
 obtain ⟨z,its,n,r,hl,e⟩:=I.lstM hH
 refine call_meets F.slot_list_append ⟨_,e,rfl⟩ F.entry_list_append (F.args_list_append_2 _ _) (PySem.list_append l its.toArray n u (by rw [List.size_toArray];omega)) ⟨e,?_⟩
 refine ⟨.non,_,I.lset (its':=its ++ [u]) hH e (by simp) (r.append (.cons ru .nil)) ?_,rfl,q⟩
 rw [List.length_append,List.length_singleton]
 omega
noncomputable def Cz:V->List V->Hp->VK->Prop:=λx vs H Q=>∃ l xs y,x=.ref l/\vs=[]/\H l=some (.lst xs)/\xs[xs.length - 1]?=some y/\Q y (upd H l (.lst xs.dropLast))
theorem rO:MtM X "list.pop" Cz:=by
 intro pins s σ H x vs v us Q I rx rv h
 obtain ⟨l,xs,y,rfl,rfl,hH,hy,q⟩:=h
 cases rx
 have hus:=rv.zero
 subst hus
 obtain ⟨z,its,n,r,hl,e⟩:=I.lstM hH
 obtain ⟨u,hu,ru⟩:=r.get hy
 have hy':its.toArray[its.toArray.size - 1]?=some u:=by
  show its.toArray[its.length - 1]?=some u
  rw [<- Array.getElem?_toList,<- hl]
  exact hu
 refine call_meets F.slot_list_pop ⟨_,e,rfl⟩ F.entry_list_pop (F.args_list_pop_1 _) (MeetsSeq.list_pop_last l its.toArray n u hy' (by rw [List.size_toArray];omega)) ⟨e,?_⟩
 refine ⟨y,_,I.lset (its':=its.dropLast) hH e ?_ r.dropLast ?_,ru,q⟩
 ·show its.toArray.eraseIdxIfInBounds (its.toArray.size - 1)=its.dropLast.toArray
  rw [List.size_toArray,List.eraseIdxIfInBounds_toArray,nB]
 ·rw [List.length_dropLast]
  omega
end
section
variable {prog:Program}{w:World}{A:Around}{E:Value->Shared->Prop}{s:Shared}
end
section
variable {X:Cx}
end
end L2
namespace Att
open PySem PySem.W PySem.Calls PyProof.Rows
theorem iH {P:Params}{h:Heap}:∀ (ns:List Int) (vs:List Value),WellAll P h vs (ns.map WData.int)->IntsAre vs ns:=by
 intro ns
 induction ns with
 | nil =>
  intro vs w
  rw [List.map_nil] at w
  cases w
  exact .nil
 | cons n ns ih =>
  intro vs w
  rw [List.map_cons] at w
  cases w with
  | cons a b =>
   cases a
   exact .cons _ _ (ih _ b)
theorem p0 {l:OpenLaw}{n:Nat} (hn:l.most=some n) {P:Params}{h:Heap}{args:List WData}{vals:List Value}
  (hpre:l.row.toRowW.claim.pre args=true) (hwl:WellAll P h vals args) :
  ∃ a vs ns,vals=[Value.ref a]/\args=[WData.list (ns.map WData.int)]/\h.get? a=some { cls:=.type "list",data:=.seq vs.toArray }/\IntsAre vs ns/\ns.length <= n:=by
 have hsh:WShape.hasAll [] args [.list .int]=true:=(pre_splitW hpre).1
 have hc:l.pre.holds [] { args:=args }=true:=(pre_splitW hpre).2
 obtain ⟨d,r,rfl,h1,h2⟩:=hasAllW_cons hsh
 obtain rfl:=hasAllW_nil h2
 obtain ⟨xs,rfl,h3⟩:=hasW_list h1
 obtain ⟨ns,rfl⟩:=items_int h3
 have hlen:ns.length <= n:=by
  unfold OpenLaw.pre at hc
  have h4:(WTm.not (.lt (.lit (.int (n:Int))) (.len (.arg 0)))).holds [] { args:=[.list (ns.map .int)] }=true:=by
   have h4:=(holds_andW hc).1
   rw [hn] at h4
   exact h4
  have h5:=condW_of h4 (w_not (w_lt w_lit (w_len_list (w_arg rfl))))
  rw [List.length_map] at h5
  refine Nat.le_of_not_lt λq=>?_
  have q':(n:Int) < ((ns.length:Nat):Int):=by omega
  first
   | (rw [decide_eq_true q'] at h5;exact absurd h5 (by decide))
   | (simp at h5;omega)
 cases hwl with
 | cons w1 w2 =>
  cases w2
  cases w1 with
  | list ho hall=>exact ⟨_,_,ns,rfl,rfl,ho,iH ns _ hall,hlen⟩
theorem p5 (l:OpenLaw) (args:List WData):l.row.toRowW.claim.post args (.bool true) args=true :=
 postW_of (r:=l.row.toRowW) (X:=(true == true))
  (show WShape.has [] (.bool true) .bool=true by first|rfl|decide|simp [WShape.has,WShape.arms,WShape.armsAll])
  (show (WTm.eq .res (.lit (.bool true))).value [] { args:=args,res:=some (.bool true),after:=args }=some (.bool (true == true)) from w_eq_bool (w_res rfl) w_lit) rfl
theorem attach_call {l:OpenLaw}{n:Nat}{q:Program}{loose:List Str}{XP:(Str->Option Value)->Heap->Prop}{YP:World->Heap->Prop}{d:DefRec}
  (hn:l.most=some n) (hdf:d.params.defaults=[])
  (call:∀ (w:World) (s₀ s₁:Shared) (mg mb:Str->Option Value) (fa:Addr) (o:Obj) (pm cd doc:Value) (a:Addr) (vs:List Value) (ns:List Int),
   Ground q loose [] XP w s₀ mg mb s₁.heap->YP w s₁.heap ->
   s₁.heap.get? fa=some o->o.data=.func (docDef d.name d.params d.body d.scope pm cd doc)->s₁.heap.CodeRec cd d.name->mg d.name=some (.ref fa) ->
   s₁.heap.get? a=some { cls:=.type "list",data:=.seq vs.toArray }->IntsAre vs ns->ns.length <= n->s₁.gens=#[] ->
   codeAny (model l.prog w) callerA (.call (.ref fa) ⟨[.ref a],[]⟩) (λr s'=>r=.ok (.ret (.bool true))/\OldK s₁.heap s'.heap/\s'.os=s₁.os/\AllBare s'.gens) s₁) :
  WalkO q loose XP YP l.row.toRowW d [] (λf vs=>PySem.call f vs):=by
 intro w s₀ s₁ mg mb G Y fa o pm cd doc dV kV ho hd hcd hD hmg hg args vals as hpre hlay hrd hwl hlo
 obtain rfl:dV=.none:=Dflts.none hD hdf
 obtain rfl:kV=.none:=Dflts.noKw hD
 obtain ⟨a,vs,ns,rfl,rfl,hobj,hints,hlen⟩:=p0 hn hpre hwl
 refine enter_call (codeAny_mono (call w s₀ s₁ mg mb fa o pm cd doc a vs ns G Y ho (fd_plain hd) hcd hmg hobj hints hlen hg) λr s' hq=>?_)
 obtain ⟨rfl,h2,h3,h4⟩:=hq
 exact ⟨.inl ⟨.bool true,.bool true,[],rfl,λ_=>rfl,.bool true,p5 l _,λ_=>⟨List.Pairwise.nil,λ_ hm=>(nomatch hm)⟩⟩,h2,h3,h4⟩
section
variable {prog:Program}{w:World}{A:Around}{E:Value->Shared->Prop}{s:Shared}{K:Frag}
end
end Att
namespace L2
open PySem PySem.Spec PyProof.Rows
theorem g_:∀ {vs:List Value}{ns:List Int},IntsAre vs ns->ar (ns.map V.int) vs
 | _,_,.nil=>.nil
 | _,_,.cons n t h=>.cons ⟨t,rfl⟩ (g_ h)
noncomputable def yf (H:Hp):Prop:=∀ b,H b=none \/ ∃ o xs,H b=some (.frz o (.lst xs))
theorem rP {P:Program}{w:World}{K:PySem.W.Frag}{mg mb:Str->Option Value}{CX:CXT}{k:Nat}{fa a:Addr}{fd:FuncData}{x:Str}{sp:Sp}{s₁:Shared}{vs:List Value}{ns:List Int}
  (KX:K.In s₁.heap) (hns:s₁.heap.Ns mainGlobals mg) (hb:s₁.heap.Ns builtinsNs mb) (hbb:∀ x:Str,x ≠ "__name__"->mb x=bootBuiltins x) (hlim:s₁.heap.NoLimit) (hg:s₁.gens=#[])
  (ha:s₁.heap.get? a=some { cls:=.type "list",data:=.seq vs.toArray }) (hi:IntsAre vs ns) (hl:ns.length <= sizeLine) (hr:cX k callerA)
  (F:∀ base:Heap,K.In base->base.Ns mainGlobals mg->cf P w K mg base CX k fa fd [x] sp) (hbind:∀ (s:Shared) (u:Value),BindsTo s fd ⟨[u],[]⟩ [(x,u)])
  (hsp:∀ H:Hp,yf H->SqL K H a (ns.map V.int)->sp [.ref a] H (λv _=>v=.bl true) λ_ _ _=>False)
  (hCX:∀ H e s',CX [] H s₁ (λ_ _ _=>False) e s'->False) :
  codeAny (model P w) callerA (.call (.ref fa) ⟨[.ref a],[]⟩) (λr s'=>r=.ok (.ret (.bool true))/\OldK s₁.heap s'.heap/\s'.os=s₁.os/\AllBare s'.gens) s₁:=by
 have rv:=g_ hi
 have lenV:=hi.length
 have core:∀ H:Hp,yf H->SqL K H a (ns.map V.int)->HOk P w H s₁.heap->(∀ b,H b ≠ none->b=a)->(H a ≠ none->K.lookup a=none) ->
   codeAny (model P w) callerA (.call (.ref fa) ⟨[.ref a],[]⟩) (λr s'=>r=.ok (.ret (.bool true))/\OldK s₁.heap s'.heap/\s'.os=s₁.os/\AllBare s'.gens) s₁:=by
  intro H hO hS hok hA hK
  have base_of:∀ {b:Addr}{o:Obj},s₁.heap.get? b=some o->H b=none->(kY s₁.heap H).get? b=some o:=λe n=>qU e n
  have noA:∀ {b:Addr}{o:Obj}{es:Array DictEntry}{ep:Nat},s₁.heap.get? b=some o->o.data=.dict es ep->H b=none:=λ{b o es ep} e d=>by
   cases q:H b with
   | none=>rfl
   | some u =>
    have e':b=a:=hA b (by rw [q];simp)
    subst e'
    rw [ha] at e;cases e
    have d':Data.seq vs.toArray _=Data.dict es ep:=d
    cases d'
  have nsK:∀ {b:Addr}{m:Str->Option Value},s₁.heap.Ns b m->(kY s₁.heap H).Ns b m:=λ{b m} ⟨o,es,ep,e,d,r⟩=>⟨o,es,ep,base_of e (noA e d),d,r⟩
  have hKb:K.In (kY s₁.heap H):=λb o e=>base_of (KX b o e) (by
   cases q:H b with
   | none=>rfl
   | some u =>
    have e':b=a:=hA b (by rw [q];simp)
    subst e'
    rw [hK (by rw [q];simp)] at e;cases e)
  have hM:Mod K mg (kY s₁.heap H):=⟨hKb,nsK hns,⟨mb,nsK hb,hbb⟩,let ⟨mc,h1,h2⟩:=hlim;⟨mc,nsK h1,h2⟩⟩
  have e0:nv P w K mg (kY s₁.heap H) callerA [] s₁ H:=⟨rfl,hM,λb o e=>vc e,Nat.le_of_eq (pR _ _),trivial,λb hb=>absurd (show b ∈ ([]:List Addr) from hb) (by simp),hok,.of_eq hg⟩
  refine codeAny_mono ((F _ hKb (nsK hns)).run callerA [] s₁ H ⟨[.ref a],[]⟩ [.ref a] [.ref a] _ _ hr e0 (hbind s₁ (.ref a)) (.cons rfl .nil) (hsp H hO hS)) λr s' h=>?_
  cases r with
  | error e=>exact (hCX H e s' h).elim
  | ok fl =>
   cases fl with
   | next=>exact False.elim h
   | brk=>exact False.elim h
   | cont=>exact False.elim h
   | ret u =>
    obtain ⟨v,H',os,bare,un,hok',r',q⟩:=h
    have q':v=.bl true:=q
    subst q'
    obtain rfl:u=Value.bool true:=r'
    refine ⟨rfl,OldK.of_keep λb o e=>?_,os,bare⟩
    cases q:H b with
    | none=>exact un.keep b o e q (by intro z;exact absurd (show b ∈ ([]:List Addr) from z) (by simp)) (by simp)
    | some u =>
     rcases hO b with z|⟨ob,xs,z⟩
     ·rw [q] at z;cases z
     ·have z2:=un.frzs b ob _ z
      obtain ⟨e1,_⟩:=hok b _ z
      obtain ⟨e2,_⟩:=hok' b _ z2
      rw [e] at e1;cases e1
      exact e2
 cases hk:K.lookup a with
 | some o =>
  have e:=KX a o hk
  rw [ha] at e
  cases e
  refine core (λ_=>none) (λ_=>.inl rfl) (.inr ⟨_,vs.toArray,_,hk,rfl,rfl,rfl,by rw [List.size_toArray,lenV];exact hl,by simpa using rv⟩) (λb u z=>by have z':(none:Option HO)=some u:=z;cases z') (λb z=>absurd rfl z) λz=>absurd rfl z
 | none =>
  refine core (λb=>if b=a then some (.frz { cls:=.type "list",data:=.seq vs.toArray } (.lst (ns.map V.int))) else none) (λb=>?_) (.inl (.inr ⟨{ cls:=.type "list",data:=.seq vs.toArray },if_pos rfl⟩)) (λb u z=>?_) (λb z=>?_) λ_=>hk
  ·by_cases hb:b=a
   ·exact .inr ⟨_,_,if_pos hb⟩
   ·exact .inl (if_neg hb)
  ·by_cases hb:b=a
   ·have z':=(if_pos hb).symm.trans z
    cases z'
    subst hb
    exact ⟨ha,by rw [List.length_map];exact hl,vs,_,rv,ha⟩
   ·have z':=(if_neg hb).symm.trans z
    cases z'
  ·by_cases hb:b=a
   ·exact hb
   ·exact absurd (if_neg hb) z
end L2
namespace L2
open PySem PySem.Spec PyProof.Rows
theorem vB {l:PySem.W.OpenLaw}{n k:Nat}{q:Program}{loose:List Str}{XP:(Str->Option Value)->Heap->Prop}{YP:World->Heap->Prop}{d:DefRec}{K:Params->PySem.W.Frag}{CX:World->CXT}{sp:World->Sp}{x:Str}
  (hn:l.most=some n) (hn2:n <= sizeLine) (hdf:d.params.defaults=[]) (hr:cX k callerA)
  (hY:∀ (w:World) (h:Heap),YP w h->(K w.params).In h)
  (F:∀ (w:World) (mg:Str->Option Value) (fa:Addr) (h:Heap),(K w.params).In h->h.Ns mainGlobals mg->mg d.name=some (.ref fa) ->
   ∃ fd:FuncData,(∀ (s:Shared) (u:Value),BindsTo s fd ⟨[u],[]⟩ [(x,u)]) /\
    ∀ base:Heap,(K w.params).In base->base.Ns mainGlobals mg->cf l.prog w (K w.params) mg base (CX w) k fa fd [x] (sp w))
  (hsp:∀ (w:World) (H:Hp) (a:Addr) (ns:List Int),ns.length <= n->yf H->SqL (K w.params) H a (ns.map V.int)->sp w [.ref a] H (λv _=>v=.bl true) λ_ _ _=>False)
  (hCX:∀ (w:World) (H:Hp) (s:Shared) (e:Value) (s':Shared),CX w [] H s (λ_ _ _=>False) e s'->False) :
  PySem.W.WalkO q loose XP YP l.row.toRowW d [] (λf vs=>PySem.call f vs):=by
 refine Att.attach_call hn hdf λw s₀ s₁ mg mb fa o pm cd doc a vs ns G Y ho hd hcd hmg hobj hints hlen hg=>?_
 have KX:=hY w _ Y
 obtain ⟨fd,hb,hF⟩:=F w mg fa _ KX G.T.g hmg
 exact rP KX G.T.g G.T.b G.T.builtins G.T.nolimit hg hobj hints (Nat.le_trans hlen hn2) hr hF hb (λH hO hS=>hsp w H a ns hlen hO hS) λH e s'=>hCX w H s₁ e s'
end L2
namespace L2
open PySem PySem.Spec PyProof.Rows
noncomputable def dj (s:Stmt) (j:Nat):Stmt:=match s with
 | .ClassDef _ _ _ body _ _ _ _ _ _ _=>body.getD j (.Pass ⟨0,0,0,0⟩)
 | _=>.Pass ⟨0,0,0,0⟩
noncomputable def gn (s:Stmt):Arguments:=match s with
 | .FunctionDef _ a _ _ _ _ _ _ _ _=>a
 | _=>{ posonlyargs:=[],args:=[],vararg:=none,kwonlyargs:=[],kw_defaults:=[],kwarg:=none,defaults:=[] }
noncomputable def cj (s:Stmt):List Stmt:=match s with
 | .FunctionDef _ _ b _ _ _ _ _ _ _=>b
 | _=>[]
noncomputable def aA (s:Stmt):Scope:=match s with
 | .FunctionDef _ _ _ _ _ _ sc _ _ _=>sc
 | _=>{ kind:=.function,names:=[],isGenerator:=false,isCoroutine:=false }
noncomputable abbrev CX0:CXT:=λ_ _ _ _ _ _=>False
noncomputable abbrev E0:XK:=λ_ _ _=>False
theorem eG {X:Cx}:fw CX0 X E0:=λ_ _ _ _ _ _ _ h=>h.elim
section
variable {P:Program}{w:World}{K:PySem.W.Frag}{mg:Str->Option Value}{base:Heap}
end
section
variable {X:Cx}
theorem pv (i:Nat) {x:Str}{pos:Pos} (hN:X.N[i]?=some x:=by rfl) (hv:Vis X.env.scope x:=by first|exact Or.inl rfl|exact Or.inr (Or.inl rfl)|exact Or.inr (Or.inr rfl)) (hd:(x == ("__debug__":Str))=false:=by decide)
  (hcd:(x == ("__classdict__":Str))=false:=by decide):PE X (.Name x pos) (iW i):=qV hN hv hd hcd
end
noncomputable def af (H H':Hp):Prop:=∀ b o,H b=some o->H' b=some o
theorem af.refl (H:Hp):af H H:=λ_ _ h=>h
theorem af.trans {H H1 H2:Hp} (a:af H H1) (b:af H1 H2):af H H2:=λc o h=>b c o (a c o h)
theorem af.free {H H':Hp} (e:af H H') {l:Addr} (h:H' l=Option.none):H l=Option.none:=by
 cases q:H l with
 | none=>rfl
 | some o =>
  rw [e l o q] at h
  cases h
theorem af.seq {K:PySem.W.Frag}{H H':Hp}{a:Addr}{xs:List V} (e:af H H') (h:SqL K H a xs):SqL K H' a xs:=by
 rcases h with (h|⟨o,h⟩)|h
 ·exact .inl (.inl (e _ _ h))
 ·exact .inl (.inr ⟨o,e _ _ h⟩)
 ·exact .inr h
end L2
namespace L2
open PySem PySem.Spec PyProof.Rows
section
variable {κ:Type} [DecidableEq κ]
noncomputable def gp (kvs:List (κ × V)) (k:κ):Option V:=(kvs.find? λkv=>decide (kv.1=k)).map (·.2)
noncomputable def fU (kvs:List (κ × V)) (k:κ) (v:V):List (κ × V) :=
 if (kvs.any λkv=>decide (kv.1=k))=true then kvs.map (λkv=>if kv.1=k then (kv.1,v) else kv) else kvs ++ [(k,v)]
noncomputable def C5 (kvs:List (κ × V)) (k:κ):List (κ × V):=kvs.filter λkv=>decide (kv.1 ≠ k)
theorem i9 {p:κ × V}{r:List (κ × V)}{k:κ} (e:p.1=k):gp (p::r) k=some p.2:=by simp [gp,List.find?_cons,e]
theorem i_ {p:κ × V}{r:List (κ × V)}{k:κ} (e:¬ p.1=k):gp (p::r) k=gp r k:=by simp [gp,List.find?_cons,e]
theorem l9 (k:κ):∀ kvs:List (κ × V),(kvs.any λkv=>decide (kv.1=k))=(gp kvs k).isSome
 | []=>rfl
 | p::r=>by
  rw [List.any_cons]
  by_cases e:p.1=k
  ·simp only [i9 e,decide_eq_true e,Bool.true_or,Option.isSome_some]
  ·rw [i_ e,decide_eq_false e,Bool.false_or];exact l9 k r
theorem ix (kvs:List (κ × V)) (k:κ) (v:V):(fU kvs k v).length <= kvs.length + 1:=by
 unfold fU
 split
 ·rw [List.length_map];omega
 ·rw [List.length_append,List.length_cons,List.length_nil];omega
theorem fk.isSome_eq {o:Option V}{u:Option Value} (r:fk o u):o.isSome=u.isSome:=by
 cases o with
 | none=>cases u with
  | none=>rfl
  | some _=>exact (show False from r).elim
 | some _=>cases u with
  | none=>exact (show False from r).elim
  | some _=>rfl
theorem fk.getD {o:Option V}{u:Option Value}{d:V}{d':Value} (r:fk o u) (rd:aw d d'):aw (o.getD d) (u.getD d'):=by
 cases o with
 | none=>cases u with
  | none=>exact rd
  | some _=>exact (show False from r).elim
 | some _=>cases u with
  | none=>exact (show False from r).elim
  | some _=>exact r
theorem KV.val {kvs:List (κ × V)}{vs:List (κ × Value)} (r:KV kvs vs) (k:κ):fk (gp kvs k) (valueAt vs k):=by
 unfold KV at r
 induction r with
 | nil=>exact True.intro
 | @cons p q ps qs h t ih =>
  obtain ⟨h1,h2⟩:=h
  by_cases e:p.1=k
  ·have e':q.1=k:=h1.symm.trans e
   have b:valueAt (q::qs) k=some q.2:=by simp [valueAt,List.find?_cons,e']
   rw [i9 e,b];exact h2
  ·have e':¬ q.1=k:=λz=>e (h1.trans z)
   have b:valueAt (q::qs) k=valueAt qs k:=by simp [valueAt,List.find?_cons,e']
   rw [i_ e,b];exact ih
theorem KV.any {kvs:List (κ × V)}{vs:List (κ × Value)} (r:KV kvs vs) (k:κ):(kvs.any λkv=>decide (kv.1=k))=vs.any λkv=>decide (kv.1=k):=by
 unfold KV at r
 induction r with
 | nil=>rfl
 | cons h t ih=>rw [List.any_cons,List.any_cons,ih,h.1]
theorem KV.repl {kvs:List (κ × V)}{vs:List (κ × Value)} (r:KV kvs vs) (k:κ) {y:V}{u:Value} (ry:aw y u) :
  KV (kvs.map λkv=>if kv.1=k then (kv.1,y) else kv) (vs.map λkv=>if kv.1=k then (kv.1,u) else kv):=by
 unfold KV at r ⊢
 induction r with
 | nil=>exact .nil
 | @cons p q ps qs h t ih =>
  rw [List.map_cons,List.map_cons]
  refine .cons ?_ ih
  obtain ⟨h1,h2⟩:=h
  by_cases e:p.1=k
  ·rw [if_pos e,if_pos (h1.symm.trans e)];exact ⟨h1,ry⟩
  ·rw [if_neg e,if_neg (λz=>e (h1.trans z))];exact ⟨h1,h2⟩
theorem KV.put {kvs:List (κ × V)}{vs:List (κ × Value)} (r:KV kvs vs) (k:κ) {y:V}{u:Value} (ry:aw y u):KV (fU kvs k y) (stored vs k u):=by
 unfold fU stored
 rw [r.any k]
 by_cases e:(vs.any λkv=>decide (kv.1=k))=true
 ·rw [if_pos e,if_pos e];exact r.repl k ry
 ·rw [if_neg e,if_neg e];exact Paired.snoc r ⟨rfl,ry⟩
theorem KV.length {kvs:List (κ × V)}{vs:List (κ × Value)} (r:KV kvs vs):kvs.length=vs.length:=Paired.length r
end
theorem j6 {P:Program}{w:World}{k:Key}{u:Value} (r:aw (kV k) u):(bB P w).is k u=true:=by
 cases k with
 | inl i=>obtain ⟨t,e⟩:=(show ∃ t,u=Value.int i t from r);subst e;exact lW P w i t
 | inr x=>obtain ⟨t,e⟩:=(show ∃ t,u=Value.str x t from r);subst e;exact lX P w x t
theorem j7 {P:Program}{w:World}:∀ {ks:List Key}{us:List Value},ar (ks.map kV) us->ItemsAre (bB P w) ks us
 | [],_,r=>by rw [List.map_nil] at r;cases r;exact .nil
 | k::ks,_,r=>by
  rw [List.map_cons] at r
  cases r with
  | cons h t=>exact .cons (j6 h) (j7 t)
noncomputable abbrev KT (H:Hp):List (List Key × V)->List (List Key × Addr × Value)->Prop:=Paired λp q=>p.1=q.1/\H q.2.1=some (.tup (p.1.map kV))/\aw p.2 q.2.2
theorem KT.val {H:Hp}{kvs:List (List Key × V)}{xs:List (List Key × Addr × Value)} (r:KT H kvs xs) (k:List Key):fk (gp kvs k) ((atKey xs k).map (·.2)):=by
 induction r with
 | nil=>exact True.intro
 | @cons p q ps qs h t ih =>
  obtain ⟨h1,_,h2⟩:=h
  by_cases e:p.1=k
  ·have e':q.1=k:=h1.symm.trans e
   have b:atKey (q::qs) k=some q.2:=by simp [atKey,List.find?_cons,e']
   rw [i9 e,b];exact h2
  ·have e':¬ q.1=k:=λz=>e (h1.trans z)
   have b:atKey (q::qs) k=atKey qs k:=by simp [atKey,List.find?_cons,e']
   rw [i_ e,b];exact ih
theorem KT.repl {H:Hp}{kvs:List (List Key × V)}{xs:List (List Key × Addr × Value)} (r:KT H kvs xs) (k:List Key) {y:V}{u:Value} (ry:aw y u) :
  KT H (kvs.map λkv=>if kv.1=k then (kv.1,y) else kv) (xs.map (putAt k u)):=by
 induction r with
 | nil=>exact .nil
 | @cons p q ps qs h t ih =>
  rw [List.map_cons,List.map_cons]
  refine .cons ?_ ih
  obtain ⟨h1,h2,h3⟩:=h
  unfold putAt
  by_cases e:p.1=k
  ·rw [if_pos e,if_pos (h1.symm.trans e)];exact ⟨h1,h2,ry⟩
  ·rw [if_neg e,if_neg (λz=>e (h1.trans z))];exact ⟨h1,h2,h3⟩
theorem KT.put {H:Hp}{kvs:List (List Key × V)}{xs:List (List Key × Addr × Value)} (r:KT H kvs xs) (k:List Key) {b:Addr}{y:V}{u:Value} (hb:H b=some (.tup (k.map kV))) (ry:aw y u) :
  KT H (fU kvs k y) (storedH xs k b u):=by
 have e:(kvs.any λkv=>decide (kv.1=k))=(atKey xs k).isSome:=by
  rw [l9,(r.val k).isSome_eq,Option.isSome_map]
 unfold fU storedH
 rw [e]
 by_cases q:(atKey xs k).isSome=true
 ·rw [if_pos q,if_pos q];exact r.repl k ry
 ·rw [if_neg q,if_neg q];exact Paired.snoc r ⟨rfl,hb,ry⟩
theorem KT.keeps {H H':Hp}{kvs:List (List Key × V)}{xs:List (List Key × Addr × Value)} (r:KT H kvs xs) (ht:∀ b ys,H b=some (.tup ys)->H' b=some (.tup ys)):KT H' kvs xs :=
 Paired.mapP r λ_ _ z=>⟨z.1,ht _ _ z.2.1,z.2.2⟩
section
variable {P:Program}{w:World}{H:Hp}{h:Heap}{a:Addr}
theorem xm {u:HO} (ok:HOk P w H h) (e:Rd H a u):bw P w H h a u:=e.ok ok
theorem iy {kvs:List (Key × V)} (ok:HOk P w H h) (e:Rd H a (.dK kvs)):kvs.length <= sizeLine/\(a == sysModules)=false/\∃ vs,KV kvs vs/\h.DictOf (bB P w) a vs :=
 show bw P w H h a (.dK kvs) from xm ok e
theorem AO {kvs:List (Key × V)} (ok:HOk P w H h) (e:H a=some (.dK kvs)):kvs.length <= sizeLine/\(a == sysModules)=false/\∃ vs,KV kvs vs/\h.DictOf (bB P w) a vs:=iy ok (.inl e)
theorem hU {ks:List Key} (ok:HOk P w H h) (e:H a=some (.tup (ks.map kV))):(tupleKind (bB P w)).is h ks a:=by
 obtain ⟨_,its,r,o,h1,h2,n,h3⟩:=(show bw P w H h a (.tup (ks.map kV)) from ok a _ e)
 exact ⟨o,its.toArray,n,h1,h2,h3,by simpa using j7 r⟩
theorem ja {kvs:List (List Key × V)} (ok:HOk P w H h) (e:Rd H a (.dT kvs)):kvs.length <= sizeLine/\(a == sysModules)=false /\
  ∃ xs,KT H kvs xs/\h.DictOfH (tupleKind (bB P w)) a xs:=by
 obtain ⟨z,y,xs,r,o,es,ep,h1,h2,h3,h4,h5⟩:=(show bw P w H h a (.dT kvs) from xm ok e)
 refine ⟨z,y,xs,r,o,es,ep,h1,h2,h3,h4,λx hx=>?_,h5⟩
 have all:∀ {l:List (List Key × V)}{m:List (List Key × Addr × Value)},KT H l m->∀ x ∈ m,(tupleKind (bB P w)).is h x.1 x.2.1:=by
  intro l m q
  induction q with
  | nil=>intro x hx;exact nomatch hx
  | @cons p q ps qs hq t ih =>
   intro x hx
   rcases List.mem_cons.mp hx with e|hx
   ·subst e
    exact hU ok (by rw [<- hq.1];exact hq.2.1)
   ·exact ih x hx
 exact all r x hx
theorem AQ {kvs:List (List Key × V)} (ok:HOk P w H h) (e:H a=some (.dT kvs)):kvs.length <= sizeLine/\(a == sysModules)=false /\
  ∃ xs,KT H kvs xs/\h.DictOfH (tupleKind (bB P w)) a xs:=ja ok (.inl e)
end
noncomputable def jb (H:Hp) (a:Addr) (y:V) (r:Option V):Prop :=
 (∃ kvs k,Rd H a (.dK kvs)/\y=kV k/\r=gp kvs k) \/ ∃ kvs k b,Rd H a (.dT kvs)/\y=.ref b/\H b=some (.tup (k.map kV))/\r=gp kvs k
noncomputable def jc (H:Hp) (a:Addr) (y v:V) (H':Hp):Prop :=
 (∃ kvs k,H a=some (.dK kvs)/\y=kV k/\kvs.length < sizeLine/\H'=upd H a (.dK (fU kvs k v))) \/
 ∃ kvs k b,H a=some (.dT kvs)/\y=.ref b/\H b=some (.tup (k.map kV))/\kvs.length < sizeLine/\H'=upd H a (.dT (fU kvs k v))
theorem jc.k {H:Hp}{a:Addr}{kvs:List (Key × V)}{k:Key}{v:V} (e:H a=some (.dK kvs)) (hl:kvs.length < sizeLine):jc H a (kV k) v (upd H a (.dK (fU kvs k v))):=.inl ⟨kvs,k,e,rfl,hl,rfl⟩
theorem jc.t {H:Hp}{a b:Addr}{kvs:List (List Key × V)}{k:List Key}{v:V} (e:H a=some (.dT kvs)) (eb:H b=some (.tup (k.map kV))) (hl:kvs.length < sizeLine) :
  jc H a (.ref b) v (upd H a (.dT (fU kvs k v))):=.inr ⟨kvs,k,b,e,rfl,eb,hl,rfl⟩
section
variable {X:Cx}{pins:List (Addr × Obj)}{σ:St}{H:Hp}{s:Shared}{a:Addr}{y v:V}{u r:Value}{o:Option V}{A:Around}{E:Value->Shared->Prop}
theorem Inv.big (I:Inv X pins σ H s):sysModules < s.heap.objs.size:=by
 have h:mainGlobals < s.heap.objs.size:=(I.mod.glob.keeps I.bk).lt
 exact Nat.lt_trans (by decide) h
theorem p6 {Q:Value->Shared->Prop} (hu:A.units + 1 < cLine) (I:Inv X pins σ H s) (g:jb H a y (some v)) (ry:aw y u) (h:∀ w' s',Inv X pins σ H s'->aw v w'->Q w' s') :
  wpAny (model X.prog X.w) A (getItem (.ref a) u) Q E s:=by
 rcases g with ⟨kvs,k,e,ey,l⟩|⟨kvs,k,b,e,ey,eb,l⟩
 ·subst ey
  obtain ⟨z,hd,vs,rel,dd⟩:=iy I.hok e
  obtain ⟨w',hw,rw'⟩:=fk.some_of (v:=v) (o:=valueAt vs k) (by rw [l];exact rel.val k)
  exact wpAny_getItem_of (j6 ry) dd.mapOf hw (h w' _ (I.tok _) rw')
 ·subst ey
  cases (show u=Value.ref b from ry)
  obtain ⟨z,hd,xs,rel,dd⟩:=ja I.hok e
  obtain ⟨w',hw,rw'⟩:=fk.some_of (v:=v) (o:=(atKey xs k).map (·.2)) (by rw [l];exact rel.val k)
  obtain ⟨p,hp,hp2⟩:=Option.map_eq_some_iff.mp hw
  refine wpAny_getItem_heap (tupleKind_room_in1 hu) (hU I.hok eb) dd hp ?_
  rw [hp2]
  exact h w' _ (I.tok _) rw'
theorem CA {Q:Value->Shared->Prop} (hu:A.units + 1 < cLine) (I:Inv X pins σ H s) (g:jb H a y o) (ry:aw y u) (h:∀ s',Inv X pins σ H s'->Q (.bool o.isSome) s') :
  wpAny (model X.prog X.w) A (compareOp .In u (.ref a)) Q E s:=by
 rcases g with ⟨kvs,k,e,ey,l⟩|⟨kvs,k,b,e,ey,eb,l⟩
 ·subst ey
  obtain ⟨z,hd,vs,rel,dd⟩:=iy I.hok e
  refine wpAny_in_of (j6 ry) hd dd.mapOf ?_
  rw [<- (rel.val k).isSome_eq,<- l]
  exact h _ (I.tok _)
 ·subst ey
  cases (show u=Value.ref b from ry)
  obtain ⟨z,hd,xs,rel,dd⟩:=ja I.hok e
  refine wpAny_in_heap (tupleKind_room_in1 hu) (hU I.hok eb) hd dd ?_
  have q:=(rel.val k).isSome_eq
  rw [Option.isSome_map] at q
  rw [<- q,<- l]
  exact h _ (I.tok _)
theorem vC {Q:Value->Shared->Prop} (hu:A.units + 1 < cLine) (I:Inv X pins σ H s) (g:jb H a y o) (ry:aw y u) (h:∀ s',Inv X pins σ H s'->Q (.bool (!o.isSome)) s') :
  wpAny (model X.prog X.w) A (compareOp .NotIn u (.ref a)) Q E s:=by
 rcases g with ⟨kvs,k,e,ey,l⟩|⟨kvs,k,b,e,ey,eb,l⟩
 ·subst ey
  obtain ⟨z,hd,vs,rel,dd⟩:=iy I.hok e
  refine wpAny_notIn_of (j6 ry) hd dd.mapOf ?_
  rw [<- (rel.val k).isSome_eq,<- l]
  exact h _ (I.tok _)
 ·subst ey
  cases (show u=Value.ref b from ry)
  obtain ⟨z,hd,xs,rel,dd⟩:=ja I.hok e
  refine wpAny_notIn_heap (tupleKind_room_in1 hu) (hU I.hok eb) hd dd ?_
  have q:=(rel.val k).isSome_eq
  rw [Option.isSome_map] at q
  rw [<- q,<- l]
  exact h _ (I.tok _)
theorem oI {h':Heap}{t':Nat}{ob:HO} (I:Inv X pins σ H s) (mu:Mut (H a)) (hs:Heap.SameBut a s.heap h') (he:∃ q,h'.get? a=some q) (new:bw X.prog X.w (upd H a ob) h' a ob) :
  Inv X pins σ (upd H a ob) { s with heap:=h',toks:=t' } :=
 I.write (x:=a) (e:=a) mu (.inl rfl) (λb q hb z=>(hs.2 b hb).trans z) he new
theorem yg {P:Program}{w:World}{H':Hp}{h':Heap}{kvs:List (Key × V)}{vs:List (Key × Value)} (z:kvs.length <= sizeLine) (hd:(a == sysModules)=false) (rel:KV kvs vs) (dd:h'.DictOf (bB P w) a vs) :
  bw P w H' h' a (.dK kvs):=⟨z,hd,vs,rel,dd⟩
theorem p7 {H':Hp}{Q:Unit->Shared->Prop} (hu:A.units + 1 < cLine) (I:Inv X pins σ H s) (g:jc H a y v H') (ry:aw y u) (rv:aw v r) (h:∀ s',Inv X pins σ H' s'->Q () s') :
  wpAny (model X.prog X.w) A (setItem (.ref a) u r) Q E s:=by
 rcases g with ⟨kvs,k,e,ey,l,eH⟩|⟨kvs,k,b,e,ey,eb,l,eH⟩
 ·subst ey eH
  obtain ⟨z,hd,vs,rel,dd⟩:=AO I.hok e
  have hz:vs.length <= sizeLine:=by rw [<- rel.length];exact z
  have hl:(fU kvs k v).length <= sizeLine:=by have:=ix kvs k v;omega
  refine wpAny_setItem_pairs (hsz:=hz) (j6 ry) dd λh' dd' hs=>h _ ?_
  have he:∃ q,h'.get? a=some q:=let ⟨q,_,_,hq,_⟩:=dd';⟨q,hq⟩
  exact oI I (by rw [e];exact True.intro) hs he (yg hl hd (rel.put k rv) dd')
 ·subst ey eH
  cases (show u=Value.ref b from ry)
  obtain ⟨z,hd,xs,rel,dd⟩:=AQ I.hok e
  have hz:xs.length <= sizeLine:=by rw [<- Paired.length rel];exact z
  have hl:(fU kvs k v).length <= sizeLine:=by have:=ix kvs k v;omega
  refine wpAny_setItem_heap (hsz:=hz) (tupleKind_room_in1 hu) (hU I.hok eb) dd λh' dd' hs=>h _ ?_
  obtain ⟨q,es,ep,hq,h2,h3,h4,_,h5⟩:=dd'
  refine oI I (by rw [e];exact True.intro) hs ⟨q,hq⟩ ⟨hl,hd,_,(rel.put k eb rv).keeps λc ys ec=>?_,q,es,ep,hq,h2,h3,h4,h5⟩
  rw [ak (Al ec e (λz=>nomatch z))]
  exact ec
end
section
variable {X:Cx}{pins:List (Addr × Obj)}{σ:St}{H:Hp}{s:Shared}{a:Addr}{kvs:List (Key × V)}{k:Key}{u:Value}{A:Around}{E:Value->Shared->Prop}
end
noncomputable def AR (i:Expr):Prop:=∀ ov iv,subscripted i false ov iv=operate [ov,iv] (getItem ov iv)
theorem vD {prog:Program}{w:World}{A:Around}{E:Value->Shared->Prop}{s:Shared}{env:Env}{value slice:Expr}{pos:Pos}{T id:String}{Q:Value->Shared->Prop}
  (hl:typeLookup (.type T) "__getitem__"=pure (some (.builtin id))) (hs:AR slice)
  (h:wpAny (model prog w) A (eval value env) (λo s₁=>wpAny (model prog w) A (eval slice env) (λi s₂=>s₂.TypeIs o T/\wpAny (model prog w) A (getItem o i) Q E s₂) E s₁) E s) :
  wpAny (model prog w) A (eval (.Subscript value slice pos) env) Q E s:=by
 refine Subscript_ (wpAny_mono h (λo s₁ h₁=>wpAny_mono h₁ (λi s₂ h₂=>?_) λ_ _ x=>x) λ_ _ x=>x)
 obtain ⟨hT,h₂⟩:=h₂
 unfold subscriptTail
 refine wpAny_bind ?_
 rw [getitemInPython_of_ne hT.not_modules]
 refine wpAny_bind (wpAny_specialOf hT hl ?_)
 have fin:wpAny (model prog w) A (subscripted slice false o i) (λr s₃=>wpAny (model prog w) A (letTemporaryGo value o r >>= λ_=>pure r) Q E s₃) E s₂:=by
  rw [hs o i]
  exact wpAny_operating (wpAny_mono h₂ (λr s₃ h₃=>wpAny_bind (wpAny_letTemporaryGo (wpAny_pure h₃))) λ_ _ x=>x)
 first
  | exact wpAny_pure (wpAny_bind fin)
  | exact wpAny_bind (wpAny_pure (wpAny_bind fin))
  | exact wpAny_bind fin
theorem l_ {X:Cx}{pins:List (Addr × Obj)}{σ:St}{H:Hp}{s:Shared}{a:Addr}{y:V}{o:Option V} (I:Inv X pins σ H s) (g:jb H a y o):s.TypeIs (.ref a) "dict":=by
 rcases g with ⟨kvs,k,e,_,_⟩|⟨kvs,k,b,e,_,_,_⟩
 ·obtain ⟨_,_,vs,_,dd⟩:=iy I.hok e
  exact dd.typeIs
 ·obtain ⟨_,_,xs,_,dd⟩:=ja I.hok e
  exact dd.typeIs
noncomputable def AS (td ty:TE):TE:=λσ H Q=>td σ H λx H1=>ty σ H1 λy H2=>∃ a v,x=.ref a/\jb H2 a y (some v)/\Q v H2
noncomputable def CB (ty td:TE):TE:=λσ H Q=>ty σ H λy H1=>td σ H1 λx H2=>∃ a o,x=.ref a/\jb H2 a y o/\Q (.bl o.isSome) H2
noncomputable def vE (ty td:TE):TE:=λσ H Q=>ty σ H λy H1=>td σ H1 λx H2=>∃ a o,x=.ref a/\jb H2 a y o/\Q (.bl (!o.isSome)) H2
noncomputable def AT (td ty tv:TE):TS:=λD σ H=>tv σ H λv H1=>td σ H1 λx H2=>ty σ H2 λy H3=>∃ a H4,x=.ref a/\jc H3 a y v H4/\D.nx σ H4
section
variable {X:Cx}{o i e value:Expr}{pos pos' tpos:Pos}{td ty tv:TE}
theorem vF (hu:X.A.units + 1 < cLine) (ho:PE X o td) (hi:PE X i ty) (hs:AR i):PE X (.Subscript o i pos) (AS td ty):=by
 intro pins s σ H Q I h
 refine vD PySem.F.slot_dict_getitem.lookup hs (thn (ho pins s σ H _ I h) λu s1 ⟨x,H1,I1,rx,q1⟩=>thn (hi pins s1 σ H1 _ I1 q1) λiv s2 ⟨y,H2,I2,ry,a,v,ex,g,q2⟩=>?_)
 subst ex
 obtain rfl:u=Value.ref a:=rx
 exact ⟨l_ I2 g,p6 hu I2 g ry λw' s3 I3 rw'=>⟨v,H2,I3,rw',q2⟩⟩
theorem rQ (hu:X.A.units + 1 < cLine) (hi:PE X i ty) (ho:PE X o td):PC X .In i o (CB ty td):=by
 intro pins s σ H Q I h
 refine thn (hi pins s σ H _ I h) λiv s1 ⟨y,H1,I1,ry,q1⟩=>thn (ho pins s1 σ H1 _ I1 q1) λu s2 ⟨x,H2,I2,rx,a,ov,ex,g,q2⟩=>?_
 subst ex
 obtain rfl:u=Value.ref a:=rx
 exact CA hu I2 g ry λs3 I3=>⟨.bl ov.isSome,H2,I3,rfl,q2⟩
theorem j8 (hu:X.A.units + 1 < cLine) (hi:PE X i ty) (ho:PE X o td):PC X .NotIn i o (vE ty td):=by
 intro pins s σ H Q I h
 refine thn (hi pins s σ H _ I h) λiv s1 ⟨y,H1,I1,ry,q1⟩=>thn (ho pins s1 σ H1 _ I1 q1) λu s2 ⟨x,H2,I2,rx,a,ov,ex,g,q2⟩=>?_
 subst ex
 obtain rfl:u=Value.ref a:=rx
 exact vC hu I2 g ry λs3 I3=>⟨.bl (!ov.isSome),H2,I3,rfl,q2⟩
theorem vG (hu:X.A.units + 1 < cLine) (ho:PE X o td) (hi:PE X i ty) (hv:PE X value tv) (hs:swapsWith value (some (.Subscript o i pos')) pos.line X.env=pure false) :
  PS X (.Assign [.Subscript o i pos'] value pos) (AT td ty tv):=by
 intro pins s σ H D I h
 refine wpAny_Assign_Subscript (thn (hv pins s σ H _ I h) λr s1 ⟨v,H1,I1,rv,q1⟩=>thn (ho pins s1 σ H1 _ I1 q1) λu s2 ⟨x,H2,I2,rx,q2⟩=>thn (hi pins s2 σ H2 _ I2 q2) λiv s3 ⟨y,H3,I3,ry,a,H4,ex,g,q3⟩=>?_) hs
 subst ex
 obtain rfl:u=Value.ref a:=rx
 exact p7 hu I3 g ry rv λs4 I4=>⟨σ,H4,I4,q3⟩
end
theorem rR {P:Program}{w:World}{H:Hp} (h:Heap) (hb:sysModules < h.objs.size):bw P w H (h.push { cls:=.type "dict",data:=.dict #[] }) h.objs.size (.dK []) :=
 ⟨Nat.zero_le _,beq_eq_false_iff_ne.mpr (Ne.symm (Nat.ne_of_lt hb)),[],.nil,Heap.DictOf.new h⟩
theorem rS {P:Program}{w:World}{H:Hp} (h:Heap) (hb:sysModules < h.objs.size):bw P w H (h.push { cls:=.type "dict",data:=.dict #[] }) h.objs.size (.dT []) :=
 ⟨Nat.zero_le _,beq_eq_false_iff_ne.mpr (Ne.symm (Nat.ne_of_lt hb)),[],.nil,_,#[],0,Heap.get?_push_size _ rfl,⟨rfl,rfl,rfl⟩,rfl,rfl,List.nodup_nil⟩
noncomputable def yh:TE:=λ_ H Q=>∀ p,H p=none->Q (.ref p) (upd H p (.dK []))
noncomputable def yi:TE:=λ_ H Q=>∀ p,H p=none->Q (.ref p) (upd H p (.dT []))
section
variable {X:Cx}{pos:Pos}
theorem rT:PE X (.Dict [] [] pos) yh:=λpins s σ H Q I h =>
 wpAny_Dict_empty ⟨.ref s.heap.objs.size,_,I.laid (a:=s.heap.objs.size) (o:=.dK []) (t':=s.toks) (λ_ _ q=>Heap.get?_push_of_some _ q) (Nat.le_refl _) (rR s.heap I.big),rfl,h _ (I.hok.fresh (Nat.le_refl _))⟩
theorem rU:PE X (.Dict [] [] pos) yi:=λpins s σ H Q I h =>
 wpAny_Dict_empty ⟨.ref s.heap.objs.size,_,I.laid (a:=s.heap.objs.size) (o:=.dT []) (t':=s.toks) (λ_ _ q=>Heap.get?_push_of_some _ q) (Nat.le_refl _) (rS s.heap I.big),rfl,h _ (I.hok.fresh (Nat.le_refl _))⟩
end
structure M2 (X:Cx) (o:Expr) (m:Str) (apos:Pos) (e f:Expr) (cpos:Pos):Prop where
 base:attributeBase o m X.env (eval o X.env)=eval o X.env
 few:((backTo cpos (starEach [e,f] X.env)).all (λx=>!x.1)&&(backToKw cpos (keywordEach [] X.env)).all (λx=>x.1.isSome)
 &&decide (([e,f]:List Expr).length + ([]:List Keyword).length + (if ([]:List Keyword).isEmpty then 0 else 1) < 30))=true
 line:(apos.endLine == cpos.line)=true
 trees:backTo cpos (starEach [e,f] X.env)=[(false,eval e X.env),(false,eval f X.env)]
noncomputable def IsD (H:Hp) (a:Addr):Prop:=(∃ kvs,Rd H a (.dK kvs)) \/ ∃ kvs,Rd H a (.dT kvs)
theorem rV {X:Cx}{pins:List (Addr × Obj)}{σ:St}{H:Hp}{s:Shared}{a:Addr} (I:Inv X pins σ H s) (d:IsD H a) :
  s.TypeIs (.ref a) "dict"/\(∀ b,Value.ref a=.ref b->∃ ob,s.heap.get? b=some ob/\ob.dict=none)/\(a == sysModules)=false:=by
 rcases d with ⟨kvs,e⟩|⟨kvs,e⟩
 ·obtain ⟨_,hd,vs,_,dd⟩:=iy I.hok e
  refine ⟨dd.typeIs,λb q=>?_,hd⟩
  cases q
  obtain ⟨ob,_,_,h1,h2,_⟩:=dd
  exact ⟨ob,h1,h2.2.1⟩
 ·obtain ⟨_,hd,xs,_,dd⟩:=ja I.hok e
  refine ⟨dd.typeIs,λb q=>?_,hd⟩
  cases q
  obtain ⟨ob,_,_,h1,h2,_⟩:=dd
  exact ⟨ob,h1,h2.2.1⟩
section
variable {X:Cx}{pins:List (Addr × Obj)}{σ:St}{H:Hp}{s:Shared}{a:Addr}{y d:V}{u r:Value}{o:Option V}{A:Around}{E:Value->Shared->Prop}
theorem yj {Q:Value->Shared->Prop} (hu:A.units + 1 < cLine) (I:Inv X pins σ H s) (g:jb H a y o) (ry:aw y u) (rd:aw d r) (h:∀ w' s',Inv X pins σ H s'->aw (o.getD d) w'->Q w' s') :
  wpAny (model X.prog X.w) A (call (.builtin "dict.get") [.ref a,u,r]) Q E s:=by
 rcases g with ⟨kvs,k,e,ey,l⟩|⟨kvs,k,b,e,ey,eb,l⟩
 ·subst ey
  obtain ⟨z,hd,vs,rel,dd⟩:=iy I.hok e
  refine call_meetsIn PySem.F.slot_dict_get dd.typeIs PySem.F.entry_dict_get (PySem.F.args_dict_get_3 _ _ _) (meets_dict_get_default (bB X.prog X.w) a (j6 ry) hd r) ⟨_,dd.mapOf,h _ _ (I.tok _) ?_⟩
  rw [l]
  exact (rel.val k).getD rd
 ·subst ey
  cases (show u=Value.ref b from ry)
  obtain ⟨z,hd,xs,rel,dd⟩:=ja I.hok e
  refine call_meetsIn PySem.F.slot_dict_get dd.typeIs PySem.F.entry_dict_get (PySem.F.args_dict_get_3 _ _ _) (meetsH_dict_get_default (tupleKind (bB X.prog X.w)) a b hd r) ⟨tupleKind_room_in1 hu,k,xs,hU I.hok eb,dd,h _ _ (I.tok _) ?_⟩
  rw [l]
  exact (rel.val k).getD rd
end
noncomputable def yk (td ty tx:TE):TE:=λσ H Q=>td σ H λx H1=>∃ a,x=.ref a/\IsD H1 a/\ty σ H1 λy H2=>tx σ H2 λz H3=>∃ o,jb H3 a y o/\Q (o.getD z) H3
section
variable {X:Cx}{o e f:Expr}{apos cpos:Pos}{td ty tx:TE}
theorem rW (hu:X.A.units + 1 < cLine) (ho:PE X o td) (he:PE X e ty) (hf:PE X f tx) (m:M2 X o "get" apos e f cpos):PE X (.Call (.Attribute o "get" apos) [e,f] [] cpos) (yk td ty tx):=by
 intro pins s σ H Q I h
 refine wpAny_Call_method m.base m.few m.line PySem.F.plainAttrs_dict PySem.F.slot_dict_get PySem.F.type_dict_get (thn (ho pins s σ H _ I h) λu s1 ⟨x,H1,I1,rx,a,ex,d,q1⟩=>?_)
 subst ex
 obtain rfl:u=Value.ref a:=rx
 obtain ⟨t1,t2,_⟩:=rV I1 d
 refine ⟨t1,t2,?_⟩
 rw [m.trees]
 refine Calls.callWith_builtin rfl (Calls.evalArgs_plain (Calls.spliced_cons (thn (he pins s1 σ H1 _ I1 q1) λiv s2 ⟨y,H2,I2,ry,q2⟩ =>
  Calls.spliced_cons (thn (hf pins s2 σ H2 _ I2 q2) λfv s3 ⟨z,H3,I3,rz,ov,g,q3⟩=>Calls.spliced_nil ?_))))
 exact yj hu I3 g ry rz λw' s4 I4 rw'=>⟨_,H3,I4,rw',q3⟩
end
section
variable {X:Cx}{pins:List (Addr × Obj)}{σ:St}{H:Hp}{s:Shared}{a:Addr}{kvs:List (Key × V)}{A:Around}{E:Value->Shared->Prop}
end
section
variable {X:Cx}{pins:List (Addr × Obj)}{σ:St}{H:Hp}{s:Shared}{a:Addr}{y:V}{u:Value}{A:Around}{E:Value->Shared->Prop}
end
end L2
namespace L2.Srt
open PySem PySem.W PyProof.Rows
section
variable {O:KeyOrd}{key:Nat->O.α}{N:Nat}{cmp:Nat->Nat->(Bool->Shared->Prop)->Shared->Prop}{s:Shared}
noncomputable def kk (key:Nat->O.α) (p:Array Nat) (i:Nat):O.α:=key (p.getD i 0)
noncomputable def dZ (key:Nat->O.α) (p:Array Nat) (k:Nat):Prop:=∀ i j,i <= j->j < k->O.kle (kk key p i) (kk key p j)
noncomputable def mf (key:Nat->O.α) (p:Array Nat) (k:Nat):Prop:=∀ i j,i <= j->j < k->O.kle (kk key p j) (kk key p i)
noncomputable def PB (N:Nat) (p:Array Nat):Prop:=p.Perm (List.range N).toArray
theorem PB.size {p:Array Nat} (h:PB N p):p.size=N:=by have:=h.size_eq;simpa using this
theorem PB.lt {p:Array Nat} (h:PB N p) {i:Nat} (hi:i < N):p.getD i 0 < N:=by
 have hs:i < p.size:=by rw [h.size];exact hi
 have hm:p[i] ∈ (List.range N):=by
  have e:=(Array.perm_iff_toList_perm.mp h).mem_iff (a:=p[i])
  simpa using e.mp (by simp)
 have e:p.getD i 0=p[i]:=by simp [Array.getD,hs]
 rw [e];exact List.mem_range.mp hm
theorem PB.rev {p:Array Nat} (h:PB N p) (i j:Nat):PB N (kas_rev p i j):=(mirror_perm _ _ _ _).trans h
theorem PB.bub {p:Array Nat} (h:PB N p) (i j:Nat):PB N (bubble p i j):=(bubble_perm _ _ _).trans h
theorem fA {p q:Array Nat}{i j:Nat} (h:p[i]?=q[j]?):kk key p i=kk key q j:=by
 unfold kk;rw [Array.getD_eq_getD_getElem?,Array.getD_eq_getD_getElem?,h]
theorem j9 {p:Array Nat}{src d:Nat} (hs:src < p.size) (hd:d <= src) (k:Nat) :
  kk key (bubble p src d) k=if k=src - d then kk key p src else if src - d < k/\k <= src then kk key p (k - 1) else kk key p k:=by
 have e:=getElem?_bubble hs d hd k
 by_cases h1:k=src - d
 ·rw [if_pos h1] at e ⊢;exact fA e
 ·rw [if_neg h1] at e ⊢
  by_cases h2:src - d < k/\k <= src
  ·rw [if_pos h2] at e ⊢;exact fA e
  ·rw [if_neg h2] at e ⊢;exact fA e
theorem nD {p:Array Nat}{i j:Nat} (hj:j <= p.size) (k:Nat) :
  kk key (kas_rev p i j) k=if i <= k/\k < j then kk key p (i + j - 1 - k) else kk key p k:=by
 have e:=getElem?_mirror_all (i:=i) hj k
 unfold kas_rev
 by_cases h1:i <= k/\k < j
 ·rw [if_pos h1] at e ⊢;exact fA e
 ·rw [if_neg h1] at e ⊢;exact fA e
theorem cF {p:Array Nat}{i j:Nat} (hj:j <= p.size) (heq:∀ k,i <= k->k < j->kk key p k=kk key p (j - 1)) (k:Nat) :
  kk key (kas_rev p i j) k=kk key p k:=by
 rw [nD hj]
 split
 ·rw [heq _ (by omega) (by omega),heq k (by omega) (by omega)]
 ·rfl
variable (hc:∀ a b C,a < N->b < N->C (O.blt (key a) (key b)) s->cmp a b C s)
include hc
theorem ml {α:Type}{p:Array Nat}{i j:Nat}{k:Bool->KasT α}{Q:α->Shared->Prop} (hp:PB N p) (hi:i < N) (hj:j < N)
  (h:(k (O.blt (kk key p i) (kk key p j))).kasWp cmp Q s):(KasT.ask (p.getD i 0) (p.getD j 0) k).kasWp cmp Q s :=
 hc _ _ _ (hp.lt hi) (hp.lt hj) h
theorem rX {p:Array Nat}{nrem:Nat}{Q:Nat->Shared->Prop} (hp:PB N p) (hn:nrem <= N):∀ (f n:Nat),n + f=nrem->1 <= n->dZ key p n ->
  (∀ m,n <= m->m <= nrem->dZ key p m->(m=nrem \/ O.klt (kk key p m) (kk key p (m - 1)))->Q m s)->(kas_asc p f n).kasWp cmp Q s
 | 0,n,e,h1,hs,h=>h n (Nat.le_refl _) (by omega) hs (.inl (by omega))
 | f + 1,n,e,h1,hs,h=>by
  show (KasT.ask (p.getD n 0) (p.getD (n - 1) 0) λc=>if c=true then .ret n else kas_asc p f (n + 1)).kasWp cmp Q s
  refine ml hc hp (by omega) (by omega) ?_
  cases hless:O.blt (kk key p n) (kk key p (n - 1)) with
  | true =>
   rw [if_pos rfl]
   exact h n (Nat.le_refl _) (by omega) hs (.inr hless)
  | false =>
   rw [if_neg (by simp)]
   refine rX hp hn f (n + 1) (by omega) (by omega) (λi j hij hj=>?_) λm a b c d=>h m (by omega) b c d
   by_cases hjx:j < n
   ·exact hs i j hij hjx
   ·have hj':j=n:=by omega
    subst hj'
    by_cases hi':i=j
    ·subst hi';exact KeyOrd.kle_refl _
    ·exact KeyOrd.kle_trans (hs i (j - 1) (by omega) (by omega)) hless
theorem oJ {p:Array Nat}{n nrem:Nat}{Q:Nat × Array Nat->Shared->Prop} (hp:PB N p) (hn:nrem <= N) (h1:1 <= n) (hnn:n <= nrem) (hs:mf key p n)
  (h:∀ m p',PB N p'->1 <= m->m <= nrem->dZ key p' m->Q (m,p') s):(kas_tail3 n nrem p).kasWp cmp Q s:=by
 unfold kas_tail3
 rw [KasT.kasWp_bind]
 have hz:n <= p.size:=by rw [hp.size];omega
 refine rX hc (hp.rev 0 n) hn (nrem - n) n (by omega) h1 (λi j hij hj=>?_) λm a b c _=>h m _ (hp.rev 0 n) (by omega) b c
 rw [nD hz,nD hz,if_pos (by omega),if_pos (by omega)]
 exact hs _ _ (by omega) (by omega)
theorem lm {nrem:Nat}{Q:Array Nat × Nat × Nat->Shared->Prop} (hn:nrem <= N):∀ (f:Nat) (p:Array Nat) (n q:Nat),n + f=nrem->PB N p->mf key p n->q + 1 <= n ->
  (∀ i,n - (q + 1) <= i->i < n->kk key p i=kk key p (n - 1)) ->
  (∀ p' m q',n <= m->m <= nrem->PB N p'->mf key p' m->q' + 1 <= m->(∀ i,m - (q' + 1) <= i->i < m->kk key p' i=kk key p' (m - 1))->Q (p',m,q') s) ->
  (kas_desc f p n q).kasWp cmp Q s
 | 0,p,n,q,e,hp,hs,hq,he,h=>h p n q (Nat.le_refl _) (by omega) hp hs hq he
 | f + 1,p,n,q,e,hp,hs,hq,he,h=>by
  show (KasT.ask (p.getD n 0) (p.getD (n - 1) 0) λc =>
   if c=true then (if q > 0 then kas_desc f (kas_rev p (n - (q + 1)) n) (n + 1) 0 else kas_desc f p (n + 1) 0)
   else .ask (p.getD (n - 1) 0) (p.getD n 0) λd=>if d=true then .ret (p,n,q) else kas_desc f p (n + 1) (q + 1)).kasWp cmp Q s
  have hz:n <= p.size:=by rw [hp.size];omega
  refine ml hc hp (by omega) (by omega) ?_
  cases hless:O.blt (kk key p n) (kk key p (n - 1)) with
  | true =>
   rw [if_pos rfl]
   have step1:∀ p':Array Nat,(∀ k,kk key p' k=kk key p k)->mf key p' (n + 1):=by
    intro p' hk i j hij hj
    rw [hk,hk]
    by_cases hjx:j < n
    ·exact hs i j hij hjx
    ·have hj':j=n:=by omega
     subst hj'
     by_cases hi':i=j
     ·subst hi';exact KeyOrd.kle_refl _
     ·exact KeyOrd.kle_trans (KeyOrd.kle_of_klt hless) (hs i (j - 1) (by omega) (by omega))
   by_cases hneq:q > 0
   ·rw [if_pos hneq]
    exact lm hn f _ (n + 1) 0 (by omega) (hp.rev _ _) (step1 _ (cF hz he)) (by omega) (λi a b=>by congr 1;omega)
     λp' m q' a=>h p' m q' (by omega)
   ·rw [if_neg hneq]
    exact lm hn f p (n + 1) 0 (by omega) hp (step1 _ λ_=>rfl) (by omega) (λi a b=>by congr 1;omega) λp' m q' a=>h p' m q' (by omega)
  | false =>
   rw [if_neg (by simp)]
   refine ml hc hp (by omega) (by omega) ?_
   cases hlarger:O.blt (kk key p (n - 1)) (kk key p n) with
   | true =>
    rw [if_pos rfl]
    exact h p n q (Nat.le_refl _) (by omega) hp hs hq he
   | false =>
    rw [if_neg (by simp)]
    have heqx:kk key p n=kk key p (n - 1):=KeyOrd.kle_antisymm hlarger hless
    refine lm hn f p (n + 1) (q + 1) (by omega) hp (λi j hij hj=>?_) (by omega) (λi a b=>?_) λp' m q' a=>h p' m q' (by omega)
    ·by_cases hjx:j < n
     ·exact hs i j hij hjx
     ·have hj':j=n:=by omega
      subst hj'
      by_cases hi':i=j
      ·subst hi';exact KeyOrd.kle_refl _
      ·rw [heqx];exact hs i (j - 1) (by omega) (by omega)
    ·rw [show n + 1 - 1=n by omega]
     by_cases hix:i=n
     ·subst hix;rfl
     ·rw [heqx];exact he i (by omega) (by omega)
theorem jd {p:Array Nat}{n nrem:Nat}{Q:Nat × Array Nat->Shared->Prop} (hp:PB N p) (hn:nrem <= N) (hnn:n + 1 <= nrem) (hs:mf key p (n + 1))
  (h:∀ m p',PB N p'->1 <= m->m <= nrem->dZ key p' m->Q (m,p') s):(kas_descPart n nrem p).kasWp cmp Q s:=by
 unfold kas_descPart
 rw [KasT.kasWp_bind]
 refine lm hc hn (nrem - (n + 1)) p (n + 1) 0 (by omega) hp hs (by omega) (λi a b=>by congr 1;omega) λp' m q' hm1 hm2 hp' hs' hq he=>?_
 dsimp only
 have hz:m <= p'.size:=by rw [hp'.size];omega
 by_cases hneq:q' > 0
 ·rw [if_pos hneq]
  refine oJ hc (hp'.rev _ _) hn (by omega) hm2 (λi j hij hj=>?_) h
  rw [cF hz he,cF hz he]
  exact hs' i j hij hj
 ·rw [if_neg hneq]
  exact oJ hc hp' hn (by omega) hm2 hs' h
theorem vH {p:Array Nat}{nrem:Nat}{Q:Nat × Array Nat->Shared->Prop} (hp:PB N p) (hn:nrem <= N) (h1:1 <= nrem)
  (h:∀ m p',PB N p'->1 <= m->m <= nrem->dZ key p' m->Q (m,p') s):(kas_count nrem p).kasWp cmp Q s:=by
 unfold kas_count
 rw [KasT.kasWp_bind]
 refine rX hc hp hn (nrem - 1) 1 (by omega) (Nat.le_refl _) (λi j hij hj=>by have:i=j:=(by omega);subst this;exact KeyOrd.kle_refl _) λn hn1 hn2 hsn hor=>?_
 by_cases hnn:n=nrem
 ·rw [if_pos (by simpa using hnn)]
  exact h n p hp hn1 hn2 hsn
 ·rw [if_neg (by simpa using hnn)]
  have hlt:O.klt (kk key p n) (kk key p (n - 1)):=hor.resolve_left hnn
  by_cases hgt:n > 1
  ·rw [if_pos hgt]
   refine ml hc hp (by omega) (by omega) ?_
   cases hrose:O.blt (kk key p 0) (kk key p (n - 1)) with
   | true =>
    rw [if_pos rfl]
    exact h n p hp hn1 hn2 hsn
   | false =>
    rw [if_neg (by simp)]
    have hsz:n <= p.size:=by rw [hp.size];omega
    have hall:∀ k,0 <= k->k < n->kk key p k=kk key p (n - 1):=by
     intro k _ hk
     have a1:=hsn 0 k (by omega) hk
     have a2:=hsn k (n - 1) (by omega) (by omega)
     exact KeyOrd.kle_antisymm a2 (KeyOrd.kle_trans hrose a1)
    refine jd hc (hp.rev _ _) hn (by omega) (λi j hij hj=>?_) h
    rw [cF hsz hall,cF hsz hall]
    by_cases hjn:j < n
    ·rw [hall i (by omega) (by omega),hall j (by omega) hjn];exact KeyOrd.kle_refl _
    ·have hj':j=n:=by omega
     subst hj'
     by_cases hi':i=j
     ·subst hi';exact KeyOrd.kle_refl _
     ·rw [hall i (by omega) (by omega)];exact KeyOrd.kle_of_klt hlt
  ·rw [if_neg hgt]
   have hn1':n=1:=by omega
   subst hn1'
   refine jd hc hp hn (by omega) (λi j hij hj=>?_) h
   by_cases hi':i=j
   ·subst hi';exact KeyOrd.kle_refl _
   ·have hi0:i=0:=by omega
    have hj1:j=1:=by omega
    subst hi0;subst hj1
    exact KeyOrd.kle_of_klt hlt
theorem ln {p:Array Nat}{k:Nat}{Q:Nat->Shared->Prop} (hp:PB N p) (hk:k < N) (hs:dZ key p k):∀ (f l r:Nat),r - l <= f->l <= r->r <= k ->
  (∀ i,i < l->O.kle (kk key p i) (kk key p k))->(∀ i,r <= i->i < k->O.klt (kk key p k) (kk key p i)) ->
  (∀ l,l <= k->(∀ i,i < l->O.kle (kk key p i) (kk key p k))->(∀ i,l <= i->i < k->O.klt (kk key p k) (kk key p i))->Q l s)->(kas_place p k f l r).kasWp cmp Q s
 | 0,l,r,hf,hlr,hrk,hlo,hhi,h=>by
  have:l=r:=by omega
  subst this
  exact h l hrk hlo hhi
 | f + 1,l,r,hf,hlr,hrk,hlo,hhi,h=>by
  show (if l >= r then KasT.ret l else .ask (p.getD k 0) (p.getD ((l + r) / 2) 0) λc=>if c=true then kas_place p k f l ((l + r) / 2) else kas_place p k f ((l + r) / 2 + 1) r).kasWp cmp Q s
  by_cases hge:l >= r
  ·rw [if_pos hge]
   have:l=r:=by omega
   subst this
   exact h l hrk hlo hhi
  ·rw [if_neg hge]
   refine ml hc hp hk (by omega) ?_
   cases hless:O.blt (kk key p k) (kk key p ((l + r) / 2)) with
   | true =>
    rw [if_pos rfl]
    exact ln hp hk hs f l ((l + r) / 2) (by omega) (by omega) (by omega) hlo (λi a b=>KeyOrd.klt_of_klt_of_kle hless (hs _ _ a b)) h
   | false =>
    rw [if_neg (by simp)]
    exact ln hp hk hs f ((l + r) / 2 + 1) r (by omega) (by omega) (by omega) (λi a=>KeyOrd.kle_trans (hs i ((l + r) / 2) (by omega) (by omega)) (show O.kle _ _ from hless)) hhi h
theorem xo {Q:Array Nat->Shared->Prop}:∀ (f:Nat) (p:Array Nat) (k:Nat),k + f=N->PB N p->dZ key p k->(∀ p',PB N p'->dZ key p' N->Q p' s)->(kas_bin f p k).kasWp cmp Q s
 | 0,p,k,e,hp,hs,h=>by
  have:k=N:=by omega
  subst this
  exact h p hp hs
 | f + 1,p,k,e,hp,hs,h=>by
  show ((kas_place p k k 0 k).bind λl=>kas_bin f (bubble p k (k - l)) (k + 1)).kasWp cmp Q s
  rw [KasT.kasWp_bind]
  refine ln hc hp (by omega) hs k 0 k (by omega) (by omega) (by omega) (λi a=>by omega) (λi a b=>by omega) λl hl hlo hhi=>?_
  refine xo f _ (k + 1) (by omega) (hp.bub _ _) (λi j hij hj=>?_) h
  have hks:k < p.size:=by rw [hp.size];omega
  rw [j9 hks (by omega),j9 hks (by omega),show k - (k - l)=l by omega]
  repeat' split
  all_goals first
   | (exfalso;omega)
   | exact KeyOrd.kle_refl _
   | exact hlo _ (by omega)
   | exact KeyOrd.kle_of_klt (hhi _ (by omega) (by omega))
   | exact hs _ _ (by omega) (by omega)
theorem yl {Q:Array Nat->Shared->Prop} (h1:1 <= N) (h:∀ p,PB N p->dZ key p N->Q p s):(kas_sort N).kasWp cmp Q s:=by
 unfold kas_sort
 rw [KasT.kasWp_bind]
 refine vH hc (Array.Perm.refl _) (Nat.le_refl _) h1 λm p' hp' hm1 hm2 hs'=>?_
 dsimp only
 by_cases hlt:m < N
 ·rw [if_pos hlt,show max m 1=m by omega]
  exact xo hc _ _ _ (by omega) hp' hs' h
 ·rw [if_neg hlt]
  have:m=N:=by omega
  subst this
  exact h p' hp' hs'
end
end L2.Srt
namespace L2.Srt
open PySem PyProof.Rows
theorem je:∀ a:List Int,HT.lexLt a a=false
 | []=>rfl
 | x::r=>by rw [HT.lexLt_cons,if_pos rfl];exact je r
theorem hV:∀ a b c:List Int,HT.lexLt a b=true->HT.lexLt b c=true->HT.lexLt a c=true
 | [],[],_,h,_=>by cases h
 | [],_::_,[],_,h=>by cases h
 | [],_::_,_::_,_,_=>rfl
 | _::_,[],_,h,_=>by cases h
 | _::_,_::_,[],_,h=>by cases h
 | x::a,y::b,z::c,h1,h2=>by
  rw [HT.lexLt_cons] at h1 h2 ⊢
  by_cases e1:x=y
  ·rw [if_pos e1] at h1
   by_cases e2:y=z
   ·rw [if_pos e2] at h2
    rw [if_pos (e1.trans e2)]
    exact hV a b c h1 h2
   ·rw [if_neg e2] at h2
    rw [if_neg (λq=>e2 (e1.symm.trans q)),e1]
    exact h2
  ·rw [if_neg e1] at h1
   have q1:=of_decide_eq_true h1
   by_cases e2:y=z
   ·rw [if_neg (λq=>e1 (q.trans e2.symm)),<- e2]
    exact h1
   ·rw [if_neg e2] at h2
    have q2:=of_decide_eq_true h2
    rw [if_neg (by omega)]
    exact decide_eq_true (by omega)
theorem hW:∀ a b:List Int,HT.lexLt a b=false->HT.lexLt b a=false->a=b
 | [],[],_,_=>rfl
 | [],_::_,h,_=>by cases h
 | _::_,[],_,h=>by cases h
 | x::a,y::b,h1,h2=>by
  rw [HT.lexLt_cons] at h1 h2
  by_cases e:x=y
  ·rw [if_pos e] at h1
   rw [if_pos e.symm] at h2
   rw [e,hW a b h1 h2]
  ·rw [if_neg e] at h1
   rw [if_neg (λq=>e q.symm)] at h2
   have q1:=of_decide_eq_false h1
   have q2:=of_decide_eq_false h2
   omega
theorem vI (a b c:List Int) (h:HT.lexLt a c=true):HT.lexLt a b=true \/ HT.lexLt b c=true:=by
 cases h1:HT.lexLt a b with
 | true=>exact .inl rfl
 | false =>
  cases h2:HT.lexLt b a with
  | true=>exact .inr (hV b a c h2 h)
  | false=>rw [hW a b h1 h2] at h;exact .inr h
noncomputable def cZ:KeyOrd:=⟨List Int,HT.lexLt,je,hV,vI,hW⟩
noncomputable def dc:KeyOrd:=⟨Int,λa b=>decide (a < b),λa=>decide_eq_false (by omega),λa b c h1 h2=>decide_eq_true (by have:=of_decide_eq_true h1;have:=of_decide_eq_true h2;omega),
 λa b c h=>by
  have:=of_decide_eq_true h
  by_cases q:a < b
  ·exact .inl (decide_eq_true q)
  ·exact .inr (decide_eq_true (by omega)),
 λa b h1 h2=>by have:=of_decide_eq_false h1;have:=of_decide_eq_false h2;omega⟩
section
variable (O:KeyOrd)
noncomputable def iI (x:O.α):List O.α->List O.α
 | []=>[x]
 | y::r=>if O.blt y x then y::iI x r else x::y::r
noncomputable def fj:List O.α->List O.α
 | []=>[]
 | x::r=>iI O x (fj r)
theorem hZ (x:O.α):∀ l,(iI O x l).Perm (x::l)
 | []=>.refl _
 | y::r=>by
  show (if O.blt y x then y::iI O x r else x::y::r).Perm _
  split
  ·exact (List.Perm.cons y (hZ x r)).trans (.swap x y r)
  ·exact .refl _
theorem dM:∀ l,(fj O l).Perm l
 | []=>.refl _
 | x::r=>(hZ O x _).trans (.cons x (dM r))
theorem jf (x:O.α):∀ l:List O.α,l.Pairwise O.kle->(iI O x l).Pairwise O.kle
 | [],_=>List.pairwise_singleton _ _
 | y::r,h=>by
  show (if O.blt y x then y::iI O x r else x::y::r).Pairwise O.kle
  obtain ⟨h1,h2⟩:=List.pairwise_cons.mp h
  by_cases q:O.blt y x=true
  ·rw [if_pos q]
   refine List.pairwise_cons.mpr ⟨λz hz=>?_,jf x r h2⟩
   rcases List.mem_cons.mp ((hZ O x r).mem_iff.mp hz) with e|e
   ·rw [e];exact KeyOrd.kle_of_klt q
   ·exact h1 z e
  ·rw [if_neg q]
   have q':O.kle x y:=Bool.eq_false_iff.mpr q
   refine List.pairwise_cons.mpr ⟨λz hz=>?_,h⟩
   rcases List.mem_cons.mp hz with e|e
   ·rw [e];exact q'
   ·exact KeyOrd.kle_trans q' (h1 z e)
theorem c8:∀ l,(fj O l).Pairwise O.kle
 | []=>List.Pairwise.nil
 | x::r=>jf O x _ (c8 r)
theorem gq:∀ {a b:List O.α},a.Perm b->a.Pairwise O.kle->b.Pairwise O.kle->a=b
 | [],b,p,_,_=>p.nil_eq
 | x::a,[],p,_,_=>by have:=p.length_eq;simp at this
 | x::a,y::b,p,ha,hb=>by
  obtain ⟨a1,a2⟩:=List.pairwise_cons.mp ha
  obtain ⟨b1,b2⟩:=List.pairwise_cons.mp hb
  have e:x=y:=by
   have hx:x ∈ y::b:=p.mem_iff.mp (.head _)
   have hy:y ∈ x::a:=p.mem_iff.mpr (.head _)
   rcases List.mem_cons.mp hx with q|q
   ·exact q
   ·rcases List.mem_cons.mp hy with q'|q'
    ·exact q'.symm
    ·exact KeyOrd.kle_antisymm (a1 y q') (b1 x q)
  subst e
  rw [gq (p.cons_inv) a2 b2]
theorem gr {a l:List O.α} (p:a.Perm l) (h:a.Pairwise O.kle):a=fj O l:=gq O (p.trans (dM O l).symm) h (c8 O l)
theorem jT {a b:List O.α} (p:a.Perm b):fj O a=fj O b:=gr O ((dM O a).trans p) (c8 O a)
theorem rY {a:List O.α} (h:a.Pairwise O.kle):fj O a=a:=(gr O (.refl a) h).symm
end
theorem fN {α:Type} (xs:List α) (d:α):(List.range xs.length).map (λi=>xs.getD i d)=xs:=by
 apply List.ext_getElem?
 intro i
 rw [List.getElem?_map]
 by_cases q:i < xs.length
 ·simp [List.getElem?_range,q]
 ·simp [List.getElem?_range,q]
theorem ym {O:KeyOrd}{d:O.α}{xs:List O.α}{p:Array Nat} (hp:PB xs.length p) (hr:dZ (λi=>xs.getD i d) p xs.length):p.toList.map (λi=>xs.getD i d)=fj O xs:=by
 refine gr O ?_ ?_
 ·have h:=(Array.perm_iff_toList_perm.mp hp).map λi=>xs.getD i d
  have e:(List.map (λi=>xs.getD i d) (List.range xs.length).toArray.toList)=xs:=fN xs d
  rw [e] at h
  exact h
 ·rw [List.pairwise_iff_getElem]
  intro i j hi hj hij
  rw [List.length_map,Array.length_toList] at hi hj
  have hz:=hp.size
  have q:=hr i j (Nat.le_of_lt hij) (by omega)
  simp only [List.getElem_map,Array.getElem_toList]
  have ei:p.getD i 0=p[i]:=by simp [Array.getD,hi]
  have ej:p.getD j 0=p[j]:=by simp [Array.getD,hj]
  unfold kk at q
  rw [ei,ej] at q
  exact q
end L2.Srt
namespace L2.Srt
open PySem PySem.W PySem.Calls PyProof.Rows
section
variable {prog:Program}{w:World}{A:Around}{E:Value->Shared->Prop}{s:Shared}
noncomputable def KOk (κ:SortKind):Prop:=κ=tuples' true \/ κ=general' \/ κ=oneType'
theorem lq {KO:SortKind->Prop}{O:KeyOrd}{key:Nat->O.α}{a:Addr}{vs:List Value}{n:Nat}{R:PySem.Fin->Shared->Prop} (ho:s.heap.get? a=some (seqObj "list" vs.toArray n)) (h64:vs.length < 64)
  (hk:2 <= vs.length->∀ (s':Shared) (Q:SortKind->Shared->Prop),(∀ b o,b ≠ a->s.heap.get? b=some o->s'.heap.get? b=some o)->(∀ κ,KO κ->Q κ s')->wpAny (model prog w) A (keyKind' vs.toArray) Q (λ_ _=>False) s')
  (hc:∀ κ,KO κ->∀ (s':Shared) (i j:Nat) (C:Bool->Shared->Prop),(∀ b o,b ≠ a->s.heap.get? b=some o->s'.heap.get? b=some o)->i < vs.length->j < vs.length->C (O.blt (key i) (key j)) s' ->
   wpAny (model prog w) A (keyLt' κ (vs.getD i Value.none) (vs.getD j Value.none)) C (λ_ _=>False) s')
  (h:∀ p:Array Nat,PB vs.length p->dZ key p vs.length->R (.done (.ret .none)) { s with heap:=sortedHeap s.heap a vs (p.toList.map λi=>vs.getD i Value.none).toArray }) :
  wpAny (model prog w) A (Builtin.«list.sort» ⟨[.ref a],[]⟩) R E s:=by
 rw [list_sort_plain]
 have ha:a < s.heap.objs.size:=Heap.lt_size ho
 refine wpAny_bind (listItems_at ho rfl ?_)
 refine wpAny_bind (listUpdate_at ho rfl ?_ (by rw [List.size_toArray,sizeLine_eq];omega) (Nat.zero_le _))
 obtain ⟨e1,ho1⟩:∃ e1,(s.heap.update a (Obj.mapSeq λ_=>(#[]:Array Value))).get? a=some (seqObj "list" #[] e1):=⟨_,get?_update_seq ho λ_=>#[]⟩
 refine wpAny_bind (seqEpoch_at ho1 rfl ?_)
 refine wpAny_bind (wpAny_newTuple ?_ (by show vs.length <= _;rw [sizeLine_eq];omega))
 refine wpAny_bind (wpAny_newList ?_ (Nat.zero_le _))
 refine wpAny_holding ?_
 have ho6:(((s.heap.update a (Obj.mapSeq λ_=>(#[]:Array Value))).push (seqObj "tuple" vs.toArray 0)).push (seqObj "list" #[] 0)).get? a=some (seqObj "list" #[] e1):=Heap.get?_push_of_some _ (Heap.get?_push_of_some _ ho1)
 have kp:∀ b o,b ≠ a->s.heap.get? b=some o->(((s.heap.update a (Obj.mapSeq λ_=>(#[]:Array Value))).push (seqObj "tuple" vs.toArray 0)).push (seqObj "list" #[] 0)).get? b=some o:=λb o hb e =>
  Heap.get?_push_of_some _ (Heap.get?_push_of_some _ ((Heap.get?_update_other _ _ (Ne.symm hb)).trans e))
 show wpAny (model prog w) A _ R E { s with heap:=((s.heap.update a (Obj.mapSeq λ_=>(#[]:Array Value))).push (seqObj "tuple" vs.toArray 0)).push (seqObj "list" #[] 0) }
 dsimp only
 have hsz:vs.toArray.size=vs.length:=by simp
 by_cases h2:vs.toArray.size < 2
 ·rw [if_pos h2,if_pos h2]
  refine wpAny_bind (wpAny_pure ?_)
  rw [StateT.run_pure]
  refine wpAny_bind (wpAny_pure ?_)
  dsimp only
  refine wpAny_bind (seqEpoch_at ho6 rfl ?_)
  refine wpAny_bind (listUpdate_at ho6 rfl ?_ (Nat.zero_le _) (by rw [Array.size_map];show (pairsOf vs).size <= _;rw [pairsOf_size,sizeLine_eq];omega))
  simp only [bne_self_eq_false,Bool.false_eq_true,if_false]
  have e:((arrOf (SortSt.mk' general' (vs.toArray.zip vs.toArray) #[] 7 none)).map (·.2))=((List.range vs.length).toArray.toList.map λi=>vs.getD i Value.none).toArray:=by
   have e2:(arrOf (SortSt.mk' general' (vs.toArray.zip vs.toArray) #[] 7 none))=vs.toArray.zip vs.toArray:=rfl
   rw [e2]
   apply Array.toList_inj.mp
   rw [fN]
   simp [List.map_snd_zip]
  refine wpAny_pure ?_
  have q:=h (List.range vs.length).toArray (Array.Perm.refl _) (λi j hij hj=>by
   have:i=j:=by omega
   subst this;exact KeyOrd.kle_refl _)
  rw [<- e] at q
  exact q
 ·rw [if_neg h2,if_neg h2]
  have h2':2 <= vs.length:=by omega
  refine wpAny_bind (wpAny_mono (hk h2' _ (λκ s0=>KO κ/\s0={ s with heap:=((s.heap.update a (Obj.mapSeq λ_=>(#[]:Array Value))).push (seqObj "tuple" vs.toArray 0)).push (seqObj "list" #[] 0) }) kp λκ hκ=>⟨hκ,rfl⟩) (λκ s0 hκ=>?_) λ_ _ x=>x.elim)
  obtain ⟨hκ,rfl⟩:=hκ
  refine wpAny_bind (wpAny_mono (kat_run (Q:=λst' s'=>∃ p:Array Nat,p.size=vs.length/\arrOf st'=p.map (kas_item (vs.toArray.zip vs.toArray))/\failedOf st'=none/\PB vs.length p/\dZ key p vs.length/\s'={ s with heap:=((s.heap.update a (Obj.mapSeq λ_=>(#[]:Array Value))).push (seqObj "tuple" vs.toArray 0)).push (seqObj "list" #[] 0) })
   (G:=λp s'=>PB vs.length p/\dZ key p vs.length/\s'={ s with heap:=((s.heap.update a (Obj.mapSeq λ_=>(#[]:Array Value))).push (seqObj "tuple" vs.toArray 0)).push (seqObj "list" #[] 0) })
   rfl h2' h64 (λp' st' s' a1 a2 a3 a4=>⟨p',a1,a2,a3,a4⟩)
   (yl (key:=key) (λi j C hi hj q=>hc κ hκ _ i j C kp hi hj q) (by omega) λp hp hr=>⟨hp,hr,rfl⟩)) ?_ λ_ _ e=>e)
  rintro ⟨⟨⟩,st'⟩ s' ⟨p,hp,har,hf,hpb,hrs,rfl⟩
  dsimp only
  have hout:=kat_snds rfl har
  refine wpAny_bind (seqEpoch_at ho6 rfl ?_)
  refine wpAny_bind (listUpdate_at ho6 rfl ?_ (Nat.zero_le _) (by rw [hout];refine Nat.le_trans (Nat.le_of_eq ?_) (show vs.length <= _ by rw [sizeLine_eq];omega);simp [hp]))
  rw [hf,hout]
  simp only [bne_self_eq_false,Bool.false_eq_true,if_false]
  exact wpAny_pure (h p hpb hrs)
theorem iz {fin:Bool}{C:Bool->Shared->Prop}:∀ {vs ws:List Value}{ns ms:List Int} (i:Nat),IntsAre vs ns->IntsAre ws ms->fin=decide (ns.length < ms.length)->C (HT.lexLt ns ms) s->KatLex prog w A true fin C (vs.zip ws) i s
 | _,_,_,_,i,.nil,.nil,hf,h=>by
  rw [List.zip_nil_left]
  refine kat_nil ?_
  rw [hf]
  exact h
 | _,_,_,_,i,.nil,.cons c u hw,hf,h=>by
  rw [List.zip_nil_left]
  refine kat_nil ?_
  rw [hf,decide_eq_true (by simp)]
  exact h
 | _,_,_,_,i,.cons a t hv,.nil,hf,h=>by
  rw [List.zip_nil_right]
  refine kat_nil ?_
  rw [hf,decide_eq_false (by simp)]
  exact h
 | _,_,_,_,i,.cons (ns:=ns) a t hv,.cons (ns:=ms) c u hw,hf,h=>by
  rw [List.zip_cons_cons]
  rw [HT.lexLt_cons] at h
  refine kat_cons (wpAny_eqBool_int ?_)
  by_cases e:a=c
  ·rw [if_pos e] at h
   have q:(a == c)=true:=by rw [e];exact beq_self_eq_true c
   rw [q]
   refine kat_yes (iz (i + 1) hv hw ?_ h)
   rw [hf]
   simp
  ·rw [if_neg e] at h
   have q:(a == c)=false:=beq_eq_false_iff_ne.mpr e
   rw [q]
   refine kat_no ?_
   cases i with
   | zero=>exact oneLt_int h
   | succ i=>exact kat_one _ _ (lt_int h)
theorem vJ {κ:SortKind} (hk:KOk κ) {a b:Addr}{its its2:Array Value}{ns ms:List Int}{C:Bool->Shared->Prop} (ha:IsTup s.heap a its) (hb:IsTup s.heap b its2) (hi:IntsAre its.toList ns) (hj:IntsAre its2.toList ms)
  (hu:A.units < cLine) (h:C (HT.lexLt ns ms) s):wpAny (model prog w) A (keyLt' κ (.ref a) (.ref b)) C E s:=by
 rcases hk with rfl|rfl|rfl
 ·obtain ⟨o,ho,_,n,hd⟩:=id ha
  obtain ⟨o2,ho2,_,n2,hd2⟩:=id hb
  refine kat_lt ho hd ho2 hd2 (iz 0 hi hj ?_ h)
  have z1:its.size=ns.length:=by rw [<- hi.length];simp
  have z2:its2.size=ms.length:=by rw [<- hj.length];simp
  rw [z1,z2]
 ·show wpAny _ _ (oneLt' false (.ref a) (.ref b)) _ _ _
  exact kat_one _ _ (HT.lt_tupInts ha hb hi hj hu h)
 ·rw [keyLt'_oneType,oneLt'_eq]
  simp only [if_true]
  refine wpAny_bind (wpAny_cRoomFor hu ?_)
  obtain ⟨⟨cls,dd,data,sl⟩,ho,hc,n,hd⟩:=id ha
  obtain ⟨⟨cls2,dd2,data2,sl2⟩,ho2,hc2,n2,hd2⟩:=id hb
  simp only at hc hd hc2 hd2
  subst hc hd hc2 hd2
  refine wpAny_bind (wpAny_callSpecialIfBound?_slot (T:="tuple") ⟨_,ho,rfl⟩ PySem.F.slot_tuple_lt (call_meets PySem.F.slot_tuple_lt (T:="tuple") ⟨_,ho,rfl⟩ PySem.F.entry_tuple_lt (PySem.F.args_tuple_lt_2 _ _) (HT.tuple_lt_ints a b its its2 n n2 dd dd2 sl sl2 ns ms hi hj) ⟨ho,ho2,?_⟩))
  exact wpAny_truthy_bool h
theorem iA:∀ (vs:List Value) {Q:List (Option Value)->Shared->Prop},(∀ v ∈ vs,∃ a its ns,v=.ref a/\IsTup s.heap a its/\IntsAre its.toList ns) ->
  (∀ fs:List (Option Value),fs.length=vs.length->(∀ f ∈ fs,∀ v,f=some v->∃ n t,v=Value.int n t)->Q fs s)->wpAny (model prog w) A (vs.mapM firstOfTuple') Q E s
 | [],Q,_,h=>by rw [List.mapM_nil];exact wpAny_pure (h [] rfl (by simp))
 | v::vs,Q,hv,h=>by
  obtain ⟨a,its,ns,rfl,⟨o,ho,hc,n,hd⟩,hi⟩:=hv v (.head _)
  rw [List.mapM_cons]
  refine wpAny_bind ?_
  rw [kas_first_eq]
  refine wpAny_bind (Looks.here (show Looks (model prog w) s.heap (typeOf (.ref a)) o.cls from (Looks.ld ho).andThen .now) ?_)
  rw [hc,if_neg (by first|decide|simp)]
  refine wpAny_bind (listItems_at ho hd (wpAny_pure ?_))
  refine wpAny_bind (iA vs (Q:=λbs s'=>wpAny (model prog w) A (pure (its[0]?::bs)) Q E s') (λu hu=>hv u (.tail _ hu)) λfs hl hf=>?_)
  refine wpAny_pure (h _ (by simp [hl]) λf hm u e=>?_)
  rcases List.mem_cons.mp hm with z|z
  ·rw [z] at e
   have hmem:u ∈ its.toList:=by
    rw [<- Array.getElem?_toList] at e
    exact List.mem_of_getElem? e
   exact hi.all u hmem
  ·exact hf f z u e
theorem p8 {vs:List Value}{Q:SortKind->Shared->Prop} (h2:2 <= vs.length) (hv:∀ v ∈ vs,∃ a its ns,v=.ref a/\IsTup s.heap a its/\IntsAre its.toList ns) (h:∀ κ,KOk κ->Q κ s) :
  wpAny (model prog w) A (keyKind' vs.toArray) Q E s:=by
 rw [kat_kind_eq,List.mapM_toArray,map_eq_pure_bind]
 refine wpAny_bind (wpAny_bind (iA vs hv λfs hl hf=>wpAny_pure ?_))
 by_cases hall:(fs.toArray.all λx=>x.isSome)=true
 ·rw [if_pos hall]
  refine wpAny_bind (wpAny_rule ?_)
  have hfm:(fs.toArray.filterMap id)=(fs.filterMap id).toArray:=by simp
  rw [hfm,oneTypeOnly'_eq,List.mapM_toArray,map_eq_pure_bind]
  have hints:∀ v ∈ fs.filterMap id,∃ n t,v=Value.int n t:=λv hm=>by
   obtain ⟨f,hm',e⟩:=List.mem_filterMap.mp hm
   exact hf f hm' v e
  have hne:0 < (fs.filterMap id).length:=by
   match fs,hl,hall with
   | [],hl,_=>simp at hl;omega
   | f::r,_,hall =>
    have:f.isSome=true:=by simp at hall;exact hall.1
    obtain ⟨u,rfl⟩:=Option.isSome_iff_exists.mp this
    simp
  refine wpAny_bind (wpAny_bind (wpAny_bind (kas_mapM (r:=Value.type "int") _ (λv hm Q' hq=>?_) (wpAny_pure ?_))))
  ·obtain ⟨n,t,rfl⟩:=hints v hm
   exact wpAny_pure hq
  ·have h0:(List.map (λ_=>Value.type "int") (fs.filterMap id)).toArray[0]?=some (Value.type "int"):=by
    simp [hne]
   rw [h0]
   have hall2:((List.map (λ_=>Value.type "int") (fs.filterMap id)).toArray.all λx=>x == Value.type "int")=true:=by
    simp only [List.all_toArray,List.all_map,List.all_eq_true]
    intro _ _
    rfl
   simp only [hall2,if_true]
   exact wpAny_pure (wpAny_pure (h _ (.inl rfl)))
 ·rw [if_neg hall]
  by_cases hf0:((fs.toArray[0]?).bind id).isSome=true
  ·rw [if_pos hf0]
   exact wpAny_pure (h _ (.inr (.inl rfl)))
  ·rw [if_neg hf0]
   rw [oneTypeOnly'_eq,List.mapM_toArray,map_eq_pure_bind]
   refine wpAny_bind (wpAny_bind (wpAny_bind (kas_mapM (r:=Value.type "tuple") _ (λv hm Q' hq=>?_) (wpAny_pure ?_))))
   ·obtain ⟨a,its,ns,rfl,⟨o,ho,hc,n,hd⟩,hi⟩:=hv v hm
    have q:Looks (model prog w) s.heap (typeOf (.ref a)) o.cls:=(Looks.ld ho).andThen .now
    rw [hc] at q
    exact q.here hq
   ·have h0:(List.map (λ_=>Value.type "tuple") vs).toArray[0]?=some (Value.type "tuple"):=by
     have:0 < vs.length:=by omega
     simp [this]
    rw [h0]
    have hall2:((List.map (λ_=>Value.type "tuple") vs).toArray.all λx=>x == Value.type "tuple")=true:=by
     simp only [List.all_toArray,List.all_map,List.all_eq_true]
     intro _ _
     rfl
    simp only [hall2,if_true]
    exact wpAny_pure (wpAny_pure (h _ (.inr (.inr rfl))))
end
end L2.Srt
namespace L2.St
open PySem PyProof.Rows
section
variable {P:Program}{w:World}{A:Around}{E:Value->Shared->Prop}{s:Shared}
theorem p9 {v:Value}{vs:Array Value}{it:Addr}{Q:Option Value->Shared->Prop} (hh:A.handled=none) {R:Value->Shared->Prop}
  (hR:∀ e s',(∀ b o,s.heap.get? b=some o->s'.heap.get? b=some o)->(∃ h',s'={ s with heap:=h' })->s'.TypeIs e "StopIteration"->R e s') {QQ:PySem.Fin->Shared->Prop} :
  wpAny (model P w) A (newExc (.type "StopIteration") [] >>= λe=>(raiseNew e:Sem PySem.Fin)) QQ R s:=by
 refine wpAny_bind ?_
 simp only [newExc,newTuple]
 refine wpAny_bind (wpAny_newObj_type ?_ (by size_fits))
 refine wpAny_bind (m:=firstArgMember _ _) (wpAny_of_eq (a:=Value.none) (by first|rfl|(simp only [firstArgMember];rfl)) ?_)
 refine wpAny_newObj_type ?_ (by size_fits)
 simp only [raiseNew]
 refine wpAny_bind (wpAny_handled ?_)
 rw [hh]
 refine wpAny_bind (wpAny_pure (wpAny_throw ?_))
 exact hR _ _ (λb o e=>Heap.get?_push_of_some _ (Heap.get?_push_of_some _ e)) ⟨_,rfl⟩ ⟨_,Heap.get?_push_size _ rfl,rfl⟩
end
end L2.St
namespace L2
open PySem PySem.Spec PyProof.Rows
noncomputable def fV (scope osc:Scope):Scope :=
 { scope with names:=scope.names.map λ(n,k)=>if (k == .free&&osc.kind == .function&&osc.names.lookup n == some .cell) then (n,.cell) else (n,k) }
noncomputable def jU (osc:Scope) (n:Str) (k:NameKind):NameKind:=if (k == .free&&osc.kind == .function&&osc.names.lookup n == some .cell) then .cell else k
theorem f_ (scope osc:Scope):(fV scope osc).names=scope.names.map λq=>(q.1,jU osc q.1 q.2):=by
 show List.map _ scope.names=_
 refine List.map_congr_left λq _=>?_
 obtain ⟨n,k⟩:=q
 show (if (k == NameKind.free&&osc.kind == .function&&osc.names.lookup n == some .cell)=true then (n,NameKind.cell) else (n,k))=(n,jU osc n k)
 unfold jU
 split <;> rfl
theorem d4 {α β:Type} (g:Str->α->β) (y:Str):∀ names:List (Str × α),(names.map λq=>(q.1,g q.1 q.2)).lookup y=(names.lookup y).map (g y)
 | []=>rfl
 | (n,k)::r=>by
  rw [List.map_cons]
  cases hx:y == n with
  | true =>
   simp only [List.lookup_cons,hx,Option.map_some]
   rw [eq_of_beq hx]
  | false =>
   simp only [List.lookup_cons,hx]
   exact d4 g y r
theorem p_ (osc:Scope) (n:Str):jU osc n .free=.cell \/ jU osc n .free=.free:=by
 unfold jU
 split
 ·exact .inl rfl
 ·exact .inr rfl
theorem qa {osc:Scope}{n:Str}{k:NameKind} (hk:k ≠ .cell) (h:jU osc n k=.cell \/ jU osc n k=.free):k=.free:=by
 unfold jU at h
 by_cases hc:(k == NameKind.free&&osc.kind == .function&&osc.names.lookup n == some .cell)=true
 ·simp only [Bool.and_eq_true] at hc
  exact eq_of_beq hc.1.1
 ·rw [if_neg hc] at h
  rcases h with h|h
  ·exact absurd h hk
  ·exact h
theorem gb {α:Type}{y:Str}{k:α}:∀ {l:List (Str × α)},l.lookup y=some k->(y,k) ∈ l
 | [],h=>by simp at h
 | (n,k')::r,h=>by
  cases hx:y == n with
  | true =>
   simp only [List.lookup_cons,hx] at h
   rw [eq_of_beq hx,Option.some.inj h];exact .head _
  | false =>
   simp only [List.lookup_cons,hx] at h
   exact .tail _ (gb h)
theorem qb {scope osc:Scope}{y:Str} (h:scope.names.lookup y=some .free):(fV scope osc).names.lookup y=some .cell \/ (fV scope osc).names.lookup y=some .free:=by
 rw [f_,d4,h,Option.map_some]
 rcases p_ osc y with e|e
 ·exact .inl (by rw [e])
 ·exact .inr (by rw [e])
theorem qc {scope osc:Scope}{x y:Str} (hn:∀ z ∈ scope.names,z.2=.cell->z.1=x) (h:(fV scope osc).names.lookup y=some .cell \/ (fV scope osc).names.lookup y=some .free):(y,NameKind.free) ∈ scope.names \/ (y=x/\scope.names.lookup x=some .cell):=by
 rw [f_,d4] at h
 cases e:scope.names.lookup y with
 | none=>rw [e] at h;rcases h with h|h <;> cases h
 | some k =>
  rw [e,Option.map_some] at h
  have hm:=gb e
  by_cases hc:k=.cell
  ·subst hc
   have q:y=x:=hn _ hm rfl
   exact .inr ⟨q,by rw [<- q];exact e⟩
  ·have hk:k=.free:=qa hc (h.elim (λz=>.inl (Option.some.inj z)) λz=>.inr (Option.some.inj z))
   rw [hk] at hm
   exact .inl hm
theorem qd {scope osc:Scope}{y:Str} (h:scope.names.lookup y=some .cell):(fV scope osc).names.lookup y=some .cell:=by
 rw [f_,d4,h,Option.map_some]
 unfold jU
 split
 ·rfl
 ·rfl
noncomputable def ez (env:Env):List (Str × NameKind)->List (Str × Addr)->List (Str × Addr)
 | [],acc=>acc
 | (n,k)::r,acc=>if k == .free then ez env r ((n,(env.cells.lookup n).getD 0)::acc) else ez env r acc
theorem h_ {env:Env}:∀ (names:List (Str × NameKind)) (acc:List (Str × Addr)),(∀ y ∈ names,y.2=.free->∃ c,env.cells.lookup y.1=some c) ->
  (forIn names acc λx r=>(match x with|(name,kind)=>if (kind == NameKind.free)=true then do let c <- cellOf env name;pure (ForInStep.yield ((name,c)::r)) else pure (ForInStep.yield r)):Sem (List (Str × Addr)))=pure (ez env names acc)
 | [],acc,_=>rfl
 | (n,k)::r,acc,h=>by
  rw [List.forIn_cons]
  have hr:∀ y ∈ r,y.2=.free->∃ c,env.cells.lookup y.1=some c:=λy hy=>h y (.tail _ hy)
  by_cases hk:(k == NameKind.free)=true
  ·obtain ⟨c,hc⟩:=h (n,k) (.head _) (eq_of_beq hk)
   dsimp only
   rw [if_pos hk]
   have e1:cellOf env n=pure c:=by unfold cellOf;rw [hc]
   rw [e1]
   simp only [pure_bind]
   rw [h_ r _ hr]
   show _=pure (if (k == NameKind.free)=true then _ else _)
   rw [if_pos hk,hc]
   all_goals rfl
  ·dsimp only
   rw [if_neg hk]
   simp only [pure_bind]
   rw [h_ r _ hr]
   show _=pure (if (k == NameKind.free)=true then _ else _)
   rw [if_neg hk]
theorem jg {scope:Scope}{env:Env} (h:∀ y ∈ scope.names,y.2=.free->∃ c,env.cells.lookup y.1=some c):closureFor scope env=pure (ez env scope.names []):=by
 unfold closureFor
 have:=h_ (env:=env) scope.names [] h
 first
  | exact this
  | (rw [bind_pure];exact this)
  | simpa using this
theorem jh {env:Env}{y:Str}{c:Addr}:∀ (names:List (Str × NameKind)) (acc:List (Str × Addr)),(∀ z ∈ names,z.2=.free->∃ c,env.cells.lookup z.1=some c)->(∀ c,acc.lookup y=some c->env.cells.lookup y=some c) ->
  (ez env names acc).lookup y=some c->env.cells.lookup y=some c
 | [],acc,_,ha,e=>ha c e
 | (n,k)::r,acc,h,ha,e=>by
  have hr:∀ y ∈ r,y.2=.free->∃ c,env.cells.lookup y.1=some c:=λy hy=>h y (.tail _ hy)
  have e':(if (k == NameKind.free)=true then ez env r ((n,(env.cells.lookup n).getD 0)::acc) else ez env r acc).lookup y=some c:=e
  by_cases hk:(k == NameKind.free)=true
  ·rw [if_pos hk] at e'
   refine jh r _ hr (λc' q=>?_) e'
   cases hx:y == n with
   | true =>
    simp only [List.lookup_cons,hx] at q
    obtain ⟨c0,hc0⟩:=h (n,k) (.head _) (eq_of_beq hk)
    have en:y=n:=eq_of_beq hx
    have hc1:env.cells.lookup n=some c0:=hc0
    rw [hc1] at q
    rw [en,hc1]
    exact q
   | false =>
    simp only [List.lookup_cons,hx] at q
    exact ha c' q
  ·rw [if_neg hk] at e'
   exact jh r _ hr ha e'
theorem gu {env:Env}{y:Str}:∀ (names:List (Str × NameKind)) (acc:List (Str × Addr)),((y,NameKind.free) ∈ names \/ ∃ c,acc.lookup y=some c)->∃ c,(ez env names acc).lookup y=some c
 | [],acc,h=>by
  rcases h with h|h
  ·simp at h
  ·exact h
 | (n,k)::r,acc,h=>by
  show ∃ c,(if (k == NameKind.free)=true then ez env r ((n,(env.cells.lookup n).getD 0)::acc) else ez env r acc).lookup y=some c
  by_cases hk:(k == NameKind.free)=true
  ·rw [if_pos hk]
   refine gu r _ ?_
   cases hx:y == n with
   | true=>exact .inr ⟨(env.cells.lookup n).getD 0,by simp only [List.lookup_cons,hx]⟩
   | false =>
    rcases h with h|⟨c,h⟩
    ·rcases List.mem_cons.mp h with z|z
     ·have:y=n:=(Prod.mk.inj z).1
      rw [this] at hx
      simp at hx
     ·exact .inl z
    ·exact .inr ⟨c,by simp only [List.lookup_cons,hx];exact h⟩
  ·rw [if_neg hk]
   refine gu r _ ?_
   rcases h with h|h
   ·rcases List.mem_cons.mp h with z|z
    ·have:NameKind.free=k:=(Prod.mk.inj z).2
     rw [<- this] at hk
     simp at hk
    ·exact .inl z
   ·exact .inr h
structure ia (osc:Scope) (N:List Str) (scope:Scope) (x:Str) (fvs:List Str) (js:List Nat):Prop where
 cells:∀ y ∈ scope.names,y.2=.cell->y.1=x
 once:scope.names.lookup x=some .local/\(scope.names.filter λy=>y.2 == .cell)=[] \/ scope.names.lookup x=some .cell/\(scope.names.filter λy=>y.2 == .cell)=[(x,.cell)]
 xf:∀ y ∈ scope.names,y.2=.free->y.1 ≠ x
 kind:scope.kind=.function
 names:∀ y ∈ scope.names,y.2=.local->scope.names.lookup y.1=some .local
 nd:(x::fvs).Nodup
 out:∀ y ∈ scope.names,y.2=.free->osc.names.lookup y.1=some .cell \/ osc.names.lookup y.1=some .free
 slots:(js.map λj=>N[j]?)=fvs.map some
 free:∀ y ∈ fvs,scope.names.lookup y=some .free
structure oK (osc:Scope) (N:List Str) (scope:Scope) (x:Str) (ys fvs:List Str) (js:List Nat):Prop where
 cells:∀ y ∈ scope.names,y.2=.cell->y.1=x
 once:scope.names.lookup x=some .local/\(scope.names.filter λy=>y.2 == .cell)=[] \/ scope.names.lookup x=some .cell/\(scope.names.filter λy=>y.2 == .cell)=[(x,.cell)]
 xf:∀ y ∈ scope.names,y.2=.free->y.1 ≠ x
 kind:scope.kind=.function
 names:∀ y ∈ scope.names,y.2=.local->scope.names.lookup y.1=some .local
 nd:(x::(ys ++ fvs)).Nodup
 out:∀ y ∈ scope.names,y.2=.free->osc.names.lookup y.1=some .cell \/ osc.names.lookup y.1=some .free
 slots:(js.map λj=>N[j]?)=fvs.map some
 free:∀ y ∈ fvs,scope.names.lookup y=some .free
theorem ia.g {osc:Scope}{N:List Str}{scope:Scope}{x:Str}{fvs:List Str}{js:List Nat} (h:ia osc N scope x fvs js):oK osc N scope x [] fvs js:=⟨h.cells,h.once,h.xf,h.kind,h.names,h.nd,h.out,h.slots,h.free⟩
noncomputable def ib (scope:Scope) (x:Str) (C:Addr):List (Str × Addr):=if scope.names.lookup x=some .cell then [(x,C + 1)] else []
noncomputable def Cx.blk (X:Cx) (x:Str) (fvs:List Str) (scope:Scope) (s₁:Shared) (H₁:Hp) (C:Addr) (fp:List Addr):Cx :=
 { X with N:=x::fvs,s₀:=s₁,H₀:=H₁,env:=compEnvC scope (ib scope x C ++ ez X.env scope.names []) C X.env,outer:=X.stack,ex:=fp,fn:=λy=>decide (y=x/\scope.names.lookup x=some .cell),pn:=[],xe:=λ_ _=>False }
theorem ji {M:Model}{A:Around}{E:Value->Shared->Prop}:∀ {names:List (Str × NameKind)}{acc:List (Str × Addr)}{s:Shared}{Q:List (Str × Addr)->Shared->Prop},(names.filter λy=>y.2 == .cell)=[]->Q acc s ->
  wpAny M A (forIn names acc λx r=>(match x with|(name,kind)=>if (kind == NameKind.cell)=true then do let c <- alloc { cls:=.type "cell",data:=.cell none };pure (ForInStep.yield ((name,c)::r)) else pure (ForInStep.yield r)):Sem (List (Str × Addr))) Q E s
 | [],_,_,_,_,h=>wpAny_pure h
 | (n,k)::r,acc,s,Q,hf,h=>by
  rw [List.forIn_cons]
  have hk:(k == NameKind.cell)=false:=by
   cases q:(k == NameKind.cell) with
   | false=>rfl
   | true=>rw [List.filter_cons_of_pos (by exact q)] at hf;cases hf
  rw [List.filter_cons_of_neg (by rw [hk];decide)] at hf
  dsimp only
  rw [if_neg (by rw [hk];decide)]
  exact wpAny_bind (wpAny_pure (ji hf h))
theorem j_ {M:Model}{A:Around}{E:Value->Shared->Prop}{x:Str}:∀ {names:List (Str × NameKind)}{acc:List (Str × Addr)}{s:Shared}{Q:List (Str × Addr)->Shared->Prop},(names.filter λy=>y.2 == .cell)=[(x,.cell)] ->
  Q ((x,s.heap.objs.size)::acc) { s with heap:=s.heap.push { cls:=.type "cell",data:=.cell none } } ->
  wpAny M A (forIn names acc λx r=>(match x with|(name,kind)=>if (kind == NameKind.cell)=true then do let c <- alloc { cls:=.type "cell",data:=.cell none };pure (ForInStep.yield ((name,c)::r)) else pure (ForInStep.yield r)):Sem (List (Str × Addr))) Q E s
 | [],_,_,_,hf,_=>by cases hf
 | (n,k)::r,acc,s,Q,hf,h=>by
  rw [List.forIn_cons]
  dsimp only
  cases hk:(k == NameKind.cell) with
  | false =>
   rw [List.filter_cons_of_neg (by rw [hk];decide)] at hf
   rw [if_neg (by decide)]
   exact wpAny_bind (wpAny_pure (j_ hf h))
  | true =>
   rw [List.filter_cons_of_pos (by exact hk)] at hf
   obtain ⟨e1,e2⟩:=List.cons.inj hf
   cases e1
   rw [if_pos rfl]
   exact wpAny_bind (wpAny_bind (wpAny_alloc (wpAny_pure (ji e2 h))))
theorem nE {M:Model}{A:Around}{E:Value->Shared->Prop}{scope:Scope}{x:Str}{globals:Addr}{cl:List (Str × Addr)}{qual:Str}{env:Env}{s:Shared}{Q:Env->Shared->Prop} (hk:scope.kind=.function)
  (ho:scope.names.lookup x=some .local/\(scope.names.filter λy=>y.2 == .cell)=[] \/ scope.names.lookup x=some .cell/\(scope.names.filter λy=>y.2 == .cell)=[(x,.cell)])
  (h:∀ h' m,h'.Ns s.heap.objs.size m->(∀ b u,s.heap.get? b=some u->h'.get? b=some u)->(scope.names.lookup x=some .cell->h'.IsCell (s.heap.objs.size + 1) none)->Q (newEnv scope s.heap.objs.size globals (ib scope x s.heap.objs.size ++ cl) qual none .none (some env) builtinsNs) { s with heap:=h' }) :
  wpAny M A (newFunctionEnv scope globals cl [] qual none .none (some env)) Q E s:=by
 rcases ho with ⟨h1,h2⟩|⟨h1,h2⟩
 ·refine wpAny_newFunctionEnv (λy hy z=>?_) (by intro y hy;simp at hy) (λh' hns hsb=>?_) hk
  ·have:y ∈ scope.names.filter λy=>y.2 == .cell:=List.mem_filter.mpr ⟨hy,by rw [z];rfl⟩
   rw [h2] at this
   cases this
  ·have q:=h h' _ hns (λb u e=>hsb.extBut b u (Nat.ne_of_lt (Heap.lt_size e)) (Heap.get?_push_of_some _ e)) λz=>by rw [h1] at z;cases z
   unfold ib at q
   rw [if_neg (by rw [h1];simp)] at q
   exact q
 ·unfold newFunctionEnv
  refine wpAny_bind (wpAny_alloc (wpAny_bind (j_ h2 ?_)))
  have hn:=Heap.Ns.new s.heap (.type "dict")
  have hs:(s.heap.push { cls:=.type "dict",data:=.dict #[] }).objs.size=s.heap.objs.size + 1:=Heap.size_push _ _
  have q:=h ((s.heap.push { cls:=.type "dict",data:=.dict #[] }).push { cls:=.type "cell",data:=.cell none }) _ (hn.keeps λb o e=>Heap.get?_push_of_some _ e) (λb u e=>Heap.get?_push_of_some _ (Heap.get?_push_of_some _ e)) λ_=>⟨_,by rw [<- hs];exact Heap.get?_push_size _ rfl,rfl⟩
  unfold ib at q
  rw [if_pos h1] at q
  rw [<- hs] at q
  exact wpAny_bind (wpAny_pure (wpAny_pure q))
noncomputable def jj (js:List Nat) (σ:St):St:=none::js.map λj=>(σ[j]?).join
noncomputable def qe (n:Nat) (js:List Nat) (σ:St):St:=none::(List.replicate n none ++ js.map λj=>(σ[j]?).join)
noncomputable def PF (X:Cx) (ifs:List Expr) (t:TT):Prop :=
 ∀ (pins:List (Addr × Obj)) (s:Shared) (σ:St) (H:Hp) (Q:Bool->Hp->Prop),Inv X pins σ H s->t σ H Q ->
  wpAny (model X.prog X.w) X.A (forIn ifs true λc r=>if r=true then do let ok <- isTrue c X.env (eval c X.env);pure (ForInStep.yield ok) else pure (ForInStep.yield r)) (TP X pins σ Q) X.xe s
noncomputable def CC:TT:=λ_ H Q=>Q true H
theorem yn {X:Cx}:PF X [] CC:=λ_ _ _ H _ I h=>wpAny_tests_nil ⟨H,I,h⟩
theorem yo {X:Cx}{c:Expr}{t:TT} (h:PT X c t):PF X [c] t:=λpins s σ H Q I q=>wpAny_tests_one (h pins s σ H Q I q)
section
variable {prog:Program}{w:World}{A:Around}{R:Result->Shared->Prop}{s:Shared}
theorem qf {elt target iter:Expr}{ifs:List Expr}{scope:Scope}{pos:Pos}{it acc:Value}{env:Env} (J:Nat->Shared->Prop)
  (turn:∀ n s,J n s->wpAny (model prog w) A (pyNext it) (λr s1=>match r with
   | none=>R (.ok .next) s1
   | some v=>wpAny (model prog w) A (letOwnedTupleGo target it v) (λ_ s2=>wpAny (model prog w) A (assign target env v) (λ_ s3 =>
     wpAny (model prog w) A (forIn ifs true λc r=>if r=true then do let ok <- isTrue c env (eval c env);pure (ForInStep.yield ok) else pure (ForInStep.yield r)) (λok s4 =>
      if ok=true then wpAny (model prog w) A (eval elt env) (λx s5 =>
       wpAny (model prog w) A (call (.builtin "list.append") [acc,x]) (λ_ s6=>∃ m,m < n/\J m s6) (λ_ _=>False) s5) (λ_ _=>False) s4
      else ∃ m,m < n/\J m s4) (λ_ _=>False) s3) (λ_ _=>False) s2) (λ_ _=>False) s1) (λ_ _=>False) s)
  (n:Nat) (h:J n s):codeAny (model prog w) A (.compLoop (.ListComp elt [⟨target,iter,ifs,0⟩] scope pos) 0 it acc env) R s:=by
 have up:∀ {α:Type}{t:Sem α}{Q:α->Shared->Prop}{E:Value->Shared->Prop}{s:Shared},wpAny (model prog w) A t Q (λ_ _=>False) s->wpAny (model prog w) A t Q E s:=λq=>wpAny_mono q (λ_ _ z=>z) λ_ _ z=>z.elim
 refine codeAny_loop rfl J (λn s hJ=>?_) n h
 show wpAny _ A ((compTurn (.ListComp elt [⟨target,iter,ifs,0⟩] scope pos) 0 it acc env).onRaise (λx=>do noteFrame x env;theTreesLotGoes x)) _ _ s
 refine wpAny_noted ?_
 rw [compTurn_list]
 refine wpAny_bind (wpAny_standAt (wpAny_bind (wpAny_mono (up (turn n s hJ)) (λr s1 h1=>?_) λ_ _ z=>z)))
 cases r with
 | none=>exact wpAny_pure h1
 | some v =>
  refine wpAny_bind (wpAny_mono (up h1) (λ_ s2 h2=>?_) λ_ _ z=>z)
  refine wpAny_bind (wpAny_mono (up h2) (λ_ s3 h3=>wpAny_bind (wpAny_mono (up h3) (λok s4 h4=>?_) λ_ _ z=>z)) λ_ _ z=>z)
  cases ok with
  | false=>exact wpAny_pure ⟨rfl,h4⟩
  | true=>exact wpAny_bind (wpAny_bind (wpAny_mono (up h4) (λx s5 h5=>wpAny_bind (wpAny_mono (up h5) (λ_ s6 h6=>wpAny_pure (wpAny_pure ⟨rfl,h6⟩)) λ_ _ z=>z)) λ_ _ z=>z))
end
noncomputable def oM (J:It) (σ0:St) (H1:Hp) (tt:TT) (te:TE) (D:Addr) (Q:VK):Prop :=
 ∃ W:Nat->Nat->St->Hp->Prop,(∃ m,W 0 m σ0 (upd H1 D (.lst [])))/\∀ i m σ' H',W i m σ' H' ->
  (J.stop i H'/\Q (.ref D) H') \/ (J.go i H'/\∃ N:St->Hp->Prop,(∀ σ2 H2,N σ2 H2->∃ m',m' < m/\W (i + 1) m' σ2 H2)/\∀ x H2,J.yld i H' x H2 ->
   tt (σ'.set 0 (some x)) H2 λb H3=>if b=true then te (σ'.set 0 (some x)) H3 λy H4=>∃ ys,H4 D=some (.lst ys)/\ys.length < sizeLine/\N (σ'.set 0 (some x)) (upd H4 D (.lst (ys ++ [y]))) else N (σ'.set 0 (some x)) H3)
noncomputable def rZ (J:It) (g:TG) (σ0:St) (H1:Hp) (tt:TT) (te:TE) (D:Addr) (Q:VK):Prop :=
 ∃ W:Nat->Nat->St->Hp->Prop,(∃ m,W 0 m σ0 (upd H1 D (.lst [])))/\∀ i m σ' H',W i m σ' H' ->
  (J.stop i H'/\Q (.ref D) H') \/ (J.go i H'/\∃ N:St->Hp->Prop,(∀ σ2 H2,N σ2 H2->∃ m',m' < m/\W (i + 1) m' σ2 H2)/\∀ x H2,J.yld i H' x H2 ->
   g x σ' H2 λσ3 H3=>tt σ3 H3 λb H4=>if b=true then te σ3 H4 λy H5=>∃ ys,H5 D=some (.lst ys)/\ys.length < sizeLine/\N σ3 (upd H5 D (.lst (ys ++ [y]))) else N σ3 H4)
theorem oM.g {J:It}{σ0:St}{H1:Hp}{tt:TT}{te:TE}{D:Addr}{Q:VK} (h:oM J σ0 H1 tt te D Q):rZ J (fq 0) σ0 H1 tt te D Q:=h
noncomputable def r6 (wi:TI) (js:List Nat) (tt:TT) (te:TE):TE:=λσ H Q=>wi σ H λJ H1=>∀ D,H1 D=none->oM J (jj js σ) H1 tt te D Q
section
variable {X:Cx}{elt iter:Expr}{x:Str}{px:Pos}{ifs:List Expr}{scope:Scope}{pos:Pos}{fvs:List Str}{js:List Nat}{wi:TI}{tt:TT}{te:TE}
theorem nF {tg:Expr}{g:TG}{ys:List Str} (hsc:oK X.env.scope X.N scope x ys fvs js) (hc:X.calm=true) (hg:∀ s₁ H₁ C fp,PG (X.blk x (ys ++ fvs) scope s₁ H₁ C fp) tg g)
  (ht:∀ s₁ H₁ C fp,PF (X.blk x (ys ++ fvs) scope s₁ H₁ C fp) ifs tt) (he:∀ s₁ H₁ C fp,PE (X.blk x (ys ++ fvs) scope s₁ H₁ C fp) elt te)
  {pins:List (Addr × Obj)}{σ:St}{H2:Hp}{s2:Shared}{Q:VK}{it:Addr}{fp:List Addr}{tn:Nat->Heap->Prop}{J:It}{RR:Value->Addr->Result->Shared->Prop}
  (I2:Inv X pins σ H2 s2) (T:m_ X.prog X.w X.K tg J fp it tn) (st2:tn 0 s2.heap) (f2:∀ b ∈ fp,g7 X pins H2 b)
  (hh:∀ D,H2 D=none->rZ J g (qe ys.length js σ) H2 tt te D Q)
  (fin:∀ (D C:Addr) (H':Hp) (s':Shared),Inv X pins σ H' s'->(∃ m,s'.heap.Ns C m)->H' C=none->C ≠ X.env.locals->X.s₀.heap.objs.size <= C->(∀ y c,X.env.cells.lookup y=some c->c ≠ C)->(∀ p ∈ X.pn ++ pins,p.1 ≠ C)->Q (.ref D) H' ->
   RR (.ref D) C (.ok .next) s') {E:Value->Shared->Prop} :
  wpAny (model X.prog X.w) X.A (newList []) (λacc s3=>wpAny (model X.prog X.w) X.A (newFunctionEnv scope X.env.globals (ez X.env scope.names []) [] X.env.qual none .none (some X.env)) (λcenv s4 =>
   codeAny (model X.prog X.w) X.A (.compStart (.ListComp elt [⟨tg,iter,ifs,0⟩] scope pos) 0 (.ref it) acc { cenv with scope:=relabel scope X.env }) (RR acc cenv.locals) s4) E s3) E s2:=by
 have fr:∀ y ∈ scope.names,y.2=.free->∃ c,X.env.cells.lookup y.1=some c:=λy hy hk=>I2.ok.has y.1 (hsc.out y hy hk)
 have sub:∀ y c,(ez X.env scope.names []).lookup y=some c->X.env.cells.lookup y=some c:=λy c e=>jh scope.names [] fr (λ_ q=>by simp at q) e
 refine wpAny_newObj_type (nE (x:=x) hsc.kind hsc.once λh1 m1 hns1 hsb1 hcl1=>?_)
 dsimp only at hns1 hsb1 hcl1 ⊢
 have I3:Inv X pins σ (upd H2 s2.heap.objs.size (.lst [])) { s2 with heap:=s2.heap.push { cls:=.type "list",data:=.seq ([]:List Value).toArray },toks:=s2.toks }:=I2.lnew (ys:=[]) (its:=[]) .nil (Nat.zero_le _)
 generalize hG:s2.heap.push { cls:=.type "list",dict:=none,data:=.seq ([]:List Value).toArray }=G at hns1 hsb1 hcl1 I3 ⊢
 have hC:G.objs.size=s2.heap.objs.size + 1:=by rw [<- hG,Heap.size_push]
 obtain ⟨W,⟨m0,w0⟩,turn⟩:=hh s2.heap.objs.size I2.fresh
 have up:∀ b u,G.get? b=some u->h1.get? b=some u:=hsb1
 have look:∀ {y:Str}{c:Addr},(ib scope x G.objs.size ++ ez X.env scope.names []).lookup y=some c->(y=x/\scope.names.lookup x=some .cell/\c=G.objs.size + 1) \/ (ez X.env scope.names []).lookup y=some c:=λ{y c} e=>by
  unfold ib at e
  by_cases q:scope.names.lookup x=some .cell
  ·rw [if_pos q] at e
   by_cases z:(y == x)=true
   ·rw [List.cons_append,List.lookup_cons,z] at e
    exact .inl ⟨eq_of_beq z,q,(Option.some.inj e).symm⟩
   ·rw [List.cons_append,List.lookup_cons,(Bool.not_eq_true _).mp z] at e
    exact .inr e
  ·rw [if_neg q] at e
   exact .inr e
 have Cfr:∀ {H':Hp}{s':Shared},Inv X pins σ H' s'->True:=λ_=>trivial
 have nC:(upd H2 s2.heap.objs.size (.lst [])) G.objs.size=none:=I3.hok.fresh (Nat.le_refl _)
 have cL:G.objs.size ≠ X.env.locals:=Nat.ne_of_gt I3.lt
 have cS:X.s₀.heap.objs.size <= G.objs.size:=I3.sz
 have cC:∀ y c,X.env.cells.lookup y=some c->c ≠ G.objs.size:=λy c e z=>by
  obtain ⟨v,q⟩:=I3.cell y c e
  exact absurd (show c < G.objs.size from q.lt) (by rw [z];exact Nat.lt_irrefl _)
 have cP:∀ p ∈ X.pn ++ pins,p.1 ≠ G.objs.size:=λp hp z=>absurd (show p.1 < G.objs.size from Heap.lt_size (I3.pin p hp).1) (by rw [z];exact Nat.lt_irrefl _)
 have fpl:∀ b ∈ fp,b < s2.heap.objs.size:=λb hb=>by
  obtain ⟨o,e,_⟩:=T.obj 0 _ st2 b hb
  exact Heap.lt_size e
 have ok:(X.blk x (ys ++ fvs) scope { s2 with heap:=G,toks:=s2.toks } (upd H2 s2.heap.objs.size (.lst [])) G.objs.size fp).Ok:=by
  have hb:∀ b ∈ fp,b ∉ frs X.stack:=λb hb z=>(List.mem_cons.mp (I2.stkSub b z)).elim (f2 b hb).2.1 (f2 b hb).2.2.1
  exact {
   mod:=I3.ok.mod
   kind:=by show (relabel scope X.env).kind=_;exact hsc.kind
   glob:=I3.ok.glob
   blt:=I3.ok.blt
   above:=Nat.le_refl _
   inj:=λy z c e1 e2=>by
    have lt:∀ {y:Str},(ez X.env scope.names []).lookup y=some c->c < G.objs.size:=λ{y} e=>by
     obtain ⟨v,q⟩:=I3.cell y c (sub y c e)
     exact q.lt
    rcases look e1 with ⟨a1,_,a2⟩|a1
    ·rcases look e2 with ⟨b1,_,_⟩|b1
     ·rw [a1,b1]
     ·exact absurd (lt b1) (by rw [a2];exact Nat.not_lt.mpr (Nat.le_succ _))
    ·rcases look e2 with ⟨_,_,b2⟩|b1
     ·exact absurd (lt a1) (by rw [b2];exact Nat.not_lt.mpr (Nat.le_succ _))
     ·exact I3.ok.inj y z c (sub y c a1) (sub z c b1)
   has:=λy hy=>by
    show ∃ c,(ib scope x G.objs.size ++ ez X.env scope.names []).lookup y=some c
    unfold ib
    rcases qc hsc.cells hy with hm|⟨e,q⟩
    ·obtain ⟨c,ec⟩:=gu (env:=X.env) scope.names [] (.inl hm)
     by_cases q:scope.names.lookup x=some .cell
     ·have z:(y == x)=false:=beq_eq_false_iff_ne.mpr (hsc.xf _ hm rfl)
      exact ⟨c,by rw [if_pos q,List.cons_append,List.lookup_cons,z];exact ec⟩
     ·exact ⟨c,by rw [if_neg q];exact ec⟩
    ·subst e
     exact ⟨G.objs.size + 1,by rw [if_pos q,List.cons_append,List.lookup_cons,beq_self_eq_true]⟩
   cab:=λy c h e=>by
    obtain ⟨h1,h2⟩:=of_decide_eq_true h
    have e':(ib scope x G.objs.size ++ ez X.env scope.names []).lookup y=some c:=e
    unfold ib at e'
    rw [if_pos h2,h1,List.cons_append,List.lookup_cons,beq_self_eq_true] at e'
    rw [<- Option.some.inj e']
    exact Nat.le_succ _
   hd:=I3.ok.hd
   frames:=I3.ok.frames
   stk:=.inl rfl
   exf:=λb hb'=>⟨Nat.ne_of_lt (show b < G.objs.size from Nat.lt_of_lt_of_le (fpl b hb') (by rw [hC];exact Nat.le_succ _)),λy c e=>by
    rcases look e with ⟨_,_,a⟩|a
    ·rw [a,hC];exact Nat.ne_of_gt (Nat.lt_of_lt_of_le (fpl b hb') (Nat.le_trans (Nat.le_succ _) (Nat.le_succ _)))
    ·exact (f2 b hb').2.2.2.2.1 y c (sub y c a)⟩
   bs:=I3.bs
   bsz:=Nat.le_trans I3.ok.bsz I3.sz
   noex:=λb o e hb'=>by
    have q:=(f2 b hb').2.2.2.1
    rcases q with q|q
    ·exact I3.ok.noex b o e q
    ·exact absurd (Nat.lt_of_lt_of_le (Heap.lt_size e) (Nat.le_trans I3.ok.bsz q)) (Nat.lt_irrefl _)
   exfs:=hb
   funs:=I3.stack
   frf:=I3.stkFree }
 have hlen:(qe ys.length js σ).length=(x::(ys ++ fvs)).length:=by
  have e:=congrArg List.length hsc.slots
  simp only [List.length_map] at e
  simp [qe,e]
 have I4:Inv (X.blk x (ys ++ fvs) scope { s2 with heap:=G,toks:=s2.toks } (upd H2 s2.heap.objs.size (.lst [])) G.objs.size fp) [] (qe ys.length js σ) (upd H2 s2.heap.objs.size (.lst [])) { s2 with heap:=h1,toks:=s2.toks }:=by
  refine ⟨ok,rfl,I3.bare,Un.kept up,⟨_,hns1,λi y v e1 e2 e3=>?_⟩,λy c e=>?_,nC,λy c e=>(look e).elim (λ⟨_,_,a⟩=>by rw [a];exact I3.hok.fresh (Nat.le_succ _)) λa=>I3.freeC y c (sub y c a),λp hp=>by simp [Cx.blk] at hp,I3.hok.kept up,hlen⟩
  ·cases i with
   | zero=>simp [qe] at e2
   | succ i0 =>
    have e10:(ys ++ fvs)[i0]?=some y:=e1
    have e20:(List.replicate ys.length none ++ js.map λj=>(σ[j]?).join)[i0]?=some (some v):=by simpa [qe] using e2
    by_cases hlt:i0 < ys.length
    ·rw [List.getElem?_append_left (by simpa using hlt),List.getElem?_replicate,if_pos hlt] at e20
     cases e20
    rw [List.getElem?_append_right (by simpa using Nat.le_of_not_lt hlt),List.length_replicate] at e20
    rw [List.getElem?_append_right (Nat.le_of_not_lt hlt)] at e10
    generalize i0 - ys.length=i at e10 e20
    have e1':fvs[i]?=some y:=e10
    have hm:y ∈ fvs:=List.mem_of_getElem? e1'
    have hfy:=hsc.free y hm
    have hmy:(y,NameKind.free) ∈ scope.names:=gb hfy
    have e2':(js.map λj=>(σ[j]?).join)[i]?=some (some v):=e20
    rw [List.getElem?_map] at e2'
    cases ej:js[i]? with
    | none=>rw [ej] at e2';cases e2'
    | some j =>
     rw [ej] at e2'
     have e3':(σ[j]?).join=some v:=Option.some.inj e2'
     have e4:σ[j]?=some (some v):=by
      cases q:σ[j]? with
      | none=>rw [q] at e3';cases e3'
      | some z=>rw [q] at e3';exact congrArg some e3'
     have e5:X.N[j]?=some y:=by
      have q:=congrArg (λl=>l[i]?) hsc.slots
      simp only [List.getElem?_map,ej,e1',Option.map_some] at q
      exact Option.some.inj q
     obtain ⟨m,hn,hl⟩:=I3.loc
     have hout:=hsc.out (y,.free) hmy rfl
     obtain ⟨u,ru,lk⟩:=hl j y v e5 e4 (.inr hout)
     refine ⟨u,ru,.inr ⟨?_,?_⟩⟩
     ·show (relabel scope X.env).names.lookup y=_ \/ (relabel scope X.env).names.lookup y=_
      exact qb (osc:=X.env.scope) hfy
     ·obtain ⟨c,ec⟩:=gu (env:=X.env) scope.names [] (.inl hmy)
      have nx:(y == x)=false:=beq_eq_false_iff_ne.mpr (hsc.xf _ hmy rfl)
      refine ⟨c,?_,?_⟩
      ·show (ib scope x G.objs.size ++ ez X.env scope.names []).lookup y=some c
       unfold ib
       split
       ·rw [List.cons_append,List.lookup_cons,nx];exact ec
       ·exact ec
      rcases lk with ⟨z,_⟩|⟨_,c',ec',q⟩
      ·have z':X.env.scope.names.lookup y=some .local:=z
       rcases hout with w|w
       ·rw [show X.env.scope.names.lookup y=some .cell from w] at z';cases z'
       ·rw [show X.env.scope.names.lookup y=some .free from w] at z';cases z'
      ·have:=sub y c ec
       rw [ec'] at this
       cases this
       obtain ⟨o,ho,hd⟩:=q
       exact ⟨o,up _ _ ho,hd⟩
  ·rcases look e with ⟨_,q,a⟩|a
   ·exact ⟨none,by rw [a];exact hcl1 q⟩
   ·obtain ⟨v,o,ho,hd⟩:=I3.cell y c (sub y c a)
    exact ⟨v,o,up _ _ ho,hd⟩
 have st4:tn 0 h1:=T.keep 0 _ _ st2 λb hb o e=>up b o (by rw [<- hG];exact Heap.get?_push_of_some _ e)
 have fr4:∀ b ∈ fp,(upd H2 s2.heap.objs.size (.lst [])) b=none:=λb hb=>by
  rw [ak (Nat.ne_of_lt (fpl b hb))];exact (f2 b hb).1
 have stat:∀ {H':Hp},(∀ b ∈ fp,H' b=none)->∀ b ∈ fp,g7 (X.blk x (ys ++ fvs) scope { s2 with heap:=G,toks:=s2.toks } (upd H2 s2.heap.objs.size (.lst [])) G.objs.size fp) [] H' b:=λhn b hb =>
  ⟨hn b hb,(ok.exf b hb).1,ok.exfs b hb,.inl hb,(ok.exf b hb).2,λp hp=>by simp [Cx.blk] at hp⟩
 have hch:∀ b ∈ fp,(b ∈ X.ex \/ X.s₀.heap.objs.size <= b)/\b ≠ X.env.locals/\(∀ x c,X.env.cells.lookup x=some c->c ≠ b)/\∀ p ∈ X.pn ++ pins,p.1 ≠ b:=λb hb =>
  let ⟨_,q1,_,q2,q3,q4⟩:=f2 b hb;⟨q2,q1,q3,q4⟩
 have loop:∀ s5:Shared,s5={ s2 with heap:=h1,toks:=s2.toks } ->
   codeAny (model X.prog X.w) X.A (.compLoop (.ListComp elt [⟨tg,iter,ifs,0⟩] scope pos) 0 (.ref it) (.ref s2.heap.objs.size) (compEnvC scope (ib scope x G.objs.size ++ ez X.env scope.names []) G.objs.size X.env)) (RR (.ref s2.heap.objs.size) G.objs.size) s5:=by
  rintro s5 rfl
  refine qf (λn s'=>∃ i σ' H',Inv (X.blk x (ys ++ fvs) scope { s2 with heap:=G,toks:=s2.toks } (upd H2 s2.heap.objs.size (.lst [])) G.objs.size fp) [] σ' H' s'/\tn i s'.heap/\(∀ b ∈ fp,H' b=none)/\W i n σ' H') ?_ m0 ⟨0,_,_,I4,st4,fr4,w0⟩
  rintro n s6 ⟨i,σ6,H6,I6,st6,fr6,w6⟩
  rcases turn i n σ6 H6 w6 with ⟨stop,qn⟩|⟨go,N,hN,step⟩
  ·refine thn (T.done (X.blk x (ys ++ fvs) scope { s2 with heap:=G,toks:=s2.toks } (upd H2 s2.heap.objs.size (.lst [])) G.objs.size fp) rfl rfl rfl hc i [] s6 σ6 H6 _ I6 (stat fr6) st6 stop) λr s7 ⟨hr,I7⟩=>?_
   subst hr
   have I8:Inv X pins σ H6 s7:=I3.call' (ch:=fp) I7.os I7.base I7.hok I7.bare hch
   obtain ⟨m,hn,_⟩:=I7.loc
   exact fin _ _ H6 s7 I8 ⟨m,hn⟩ I7.free cL cS cC cP qn
  ·refine thn (T.item (X.blk x (ys ++ fvs) scope { s2 with heap:=G,toks:=s2.toks } (upd H2 s2.heap.objs.size (.lst [])) G.objs.size fp) rfl rfl rfl hc i [] s6 σ6 H6 _ I6 (stat fr6) st6 go) λr s7 ⟨u,hr,h7⟩=>?_
   subst hr
   refine thn h7 λ_ s8 ⟨x8,H8,I8,r8,y8,st8,fr8⟩=>?_
   have I8':=I8.pinned (stat fr8) (T.obj _ _ st8)
   refine thn (hg _ _ _ _ _ s8 σ6 H8 x8 u _ I8' r8 (step x8 H8 y8)) λ_ s9 ⟨σ9,H9,I9,q9⟩=>?_
   refine thn (ht _ _ _ _ _ s9 _ H9 _ I9 q9) λok' s10 ⟨H10,I10,q10⟩=>?_
   have again:∀ {s11:Shared}{H11:Hp},Inv (X.blk x (ys ++ fvs) scope { s2 with heap:=G,toks:=s2.toks } (upd H2 s2.heap.objs.size (.lst [])) G.objs.size fp) ([] ++ iZ fp s8.heap) σ9 H11 s11->N σ9 H11 ->
     ∃ m,m < n/\∃ i σ' H',Inv (X.blk x (ys ++ fvs) scope { s2 with heap:=G,toks:=s2.toks } (upd H2 s2.heap.objs.size (.lst [])) G.objs.size fp) [] σ' H' s11/\tn i s11.heap/\(∀ b ∈ fp,H' b=none)/\W i m σ' H':=λ{s11 H11} I11 n11=>by
    obtain ⟨m',hm,w11⟩:=hN _ H11 n11
    refine ⟨m',hm,i + 1,_,H11,I11.unpinned,T.keep _ _ _ st8 λb hb o e=>(I11.pin (b,o) (List.mem_append_right _ (List.mem_append_right _ (eP hb e)))).1,λb hb=>?_,w11⟩
    obtain ⟨o,e,d⟩:=T.obj _ _ st8 b hb
    exact (I11.pin (b,o) (List.mem_append_right _ (List.mem_append_right _ (eP hb e)))).2.1
   cases ok' with
   | false =>
    rw [if_neg (by simp)] at q10 ⊢
    exact again I10 q10
   | true =>
    rw [if_pos rfl] at q10 ⊢
    refine thn (he _ _ _ _ _ s10 _ H10 _ I10 q10) λy s11 ⟨yv,H11,I11,ry,ys,hys,hl,n11⟩=>?_
    refine thn (g9 _ s11 _ H11 (.ref s2.heap.objs.size) [yv] (.ref s2.heap.objs.size) [y] (λ_ H12=>N σ9 H12) I11 rfl (.cons ry .nil) ⟨_,ys,yv,rfl,rfl,hys,hl,n11⟩) λ_ s12 ⟨_,H12,I12,_,n12⟩=>again I12 n12
 exact codeAny_compStart_list (loop _ rfl) (T.self _ 0 _ _ _ st4 (loop _ rfl))
theorem kd (hsc:ia X.env.scope X.N scope x fvs js) (hc:X.calm=true)
  (ht:∀ s₁ H₁ C fp,PF (X.blk x fvs scope s₁ H₁ C fp) ifs tt) (he:∀ s₁ H₁ C fp,PE (X.blk x fvs scope s₁ H₁ C fp) elt te)
  {pins:List (Addr × Obj)}{σ:St}{H2:Hp}{s2:Shared}{Q:VK}{it:Addr}{fp:List Addr}{tn:Nat->Heap->Prop}{J:It}{RR:Value->Addr->Result->Shared->Prop}
  (I2:Inv X pins σ H2 s2) (T:m_ X.prog X.w X.K (.Name x px) J fp it tn) (st2:tn 0 s2.heap) (f2:∀ b ∈ fp,g7 X pins H2 b)
  (hh:∀ D,H2 D=none->oM J (jj js σ) H2 tt te D Q)
  (fin:∀ (D C:Addr) (H':Hp) (s':Shared),Inv X pins σ H' s'->(∃ m,s'.heap.Ns C m)->H' C=none->C ≠ X.env.locals->X.s₀.heap.objs.size <= C->(∀ y c,X.env.cells.lookup y=some c->c ≠ C)->(∀ p ∈ X.pn ++ pins,p.1 ≠ C)->Q (.ref D) H' ->
   RR (.ref D) C (.ok .next) s') {E:Value->Shared->Prop} :
  wpAny (model X.prog X.w) X.A (newList []) (λacc s3=>wpAny (model X.prog X.w) X.A (newFunctionEnv scope X.env.globals (ez X.env scope.names []) [] X.env.qual none .none (some X.env)) (λcenv s4 =>
   codeAny (model X.prog X.w) X.A (.compStart (.ListComp elt [⟨.Name x px,iter,ifs,0⟩] scope pos) 0 (.ref it) acc { cenv with scope:=relabel scope X.env }) (RR acc cenv.locals) s4) E s3) E s2 :=
 nF (ys:=[]) hsc.g hc (λs₁ H₁ C fp=>k4 (X:=X.blk x fvs scope s₁ H₁ C fp) (i:=0) (x:=x) (pos:=px) hsc.nd rfl (hsc.once.elim (λq=>.inl (lookup_relabel_local q.1)) λq=>.inr (qd q.1)) (hsc.once.elim (λq=>.inr (lookup_relabel_local q.1)) λq=>.inl (decide_eq_true ⟨rfl,q.1⟩))) ht he I2 T st2 f2 (λD hD=>(hh D hD).g) fin
theorem vK (hsc:ia X.env.scope X.N scope x fvs js) (hc:X.calm=true) (hi:PI X (.Name x px) iter wi)
  (ht:∀ s₁ H₁ C fp,PF (X.blk x fvs scope s₁ H₁ C fp) ifs tt) (he:∀ s₁ H₁ C fp,PE (X.blk x fvs scope s₁ H₁ C fp) elt te)
  (hs:∀ v,foldedSetIterable iter X.env v=pure v:=by intro _;rfl):PE X (.ListComp elt [⟨.Name x px,iter,ifs,0⟩] scope pos) (r6 wi js tt te):=by
 intro pins s σ H Q I h
 have fr:∀ y ∈ scope.names,y.2=.free->∃ c,X.env.cells.lookup y.1=some c:=λy hy hk=>I.ok.has y.1 (hsc.out y hy hk)
 rw [eval_ListComp]
 refine wpAny_comprehension_free (use:=none) rfl hs (jg fr) hsc.kind hsc.names (thn (hi pins s σ H _ I h) λv s1 h1=>thn h1 λitv s2 h2=>?_)
 obtain ⟨it,fp,tn,J,H2,e,I2,T,st2,f2,hh⟩:=h2
 subst e
 refine kd (RR:=λacc C=>compPost (model X.prog X.w) X.A X.xe none (EP X pins σ Q) acc C) hsc hc ht he I2 T st2 f2 hh λD C H' s' I' hn nC cL cS cC cP q=>?_
 obtain ⟨m,hn⟩:=hn
 refine ⟨m,hn,λh' sb=>⟨.ref D,H',?_,rfl,q⟩⟩
 exact I'.turned (t':=s'.toks) (λb o hb e=>(sb.2 b hb).trans e) nC cL (.inr cS) cC cP
theorem nG {i:Nat}{y:Str}{py spos:Pos} (hN:X.N.Nodup) (hi':X.N[i]?=some y) (hy:Loc X.env.scope y) (hsc:ia X.env.scope X.N scope x fvs js) (hc:X.calm=true) (hi:PI X (.Name x px) iter wi)
  (ht:∀ s₁ H₁ C fp,PF (X.blk x fvs scope s₁ H₁ C fp) ifs tt) (he:∀ s₁ H₁ C fp,PE (X.blk x fvs scope s₁ H₁ C fp) elt te)
  (hsw:swapsWith (.ListComp elt [⟨.Name x px,iter,ifs,0⟩] scope pos) (some (.Name y py)) spos.line X.env=pure true:=by rfl)
  (hs:∀ v,foldedSetIterable iter X.env v=pure v:=by intro _;rfl) (hf:X.fn y=true \/ X.env.scope.names.lookup y=some .local:=by first|exact .inl rfl|exact .inr rfl|assumption) :
  PS X (.Assign [.Name y py] (.ListComp elt [⟨.Name x px,iter,ifs,0⟩] scope pos) spos) (pS (r6 wi js tt te) (fq i)):=by
 intro pins s σ H D I h
 have fr:∀ y ∈ scope.names,y.2=.free->∃ c,X.env.cells.lookup y.1=some c:=λy hy hk=>I.ok.has y.1 (hsc.out y hy hk)
 rw [exec_Assign_Name_used _ _ _ _ hsw]
 refine wpAny_bind (wpAny_standAt (wpAny_bind ?_))
 show wpAny _ X.A (do let _ <- comprehension (.ListComp elt [⟨.Name x px,iter,ifs,0⟩] scope pos) scope X.env _ (newList []) false (eval iter X.env) (some (assign (.Name y py) X.env))) _ _ s
 refine wpAny_bind (thn (wpAny_comprehension_free (use:=some (assign (.Name y py) X.env)) (Q:=λ_ s'=>SP X pins D .next s') rfl hs (jg fr) hsc.kind hsc.names (thn (hi pins s σ H _ I h) λv s1 h1=>thn h1 λitv s2 h2=>?_)) λ_ s' q=>?_)
 ·obtain ⟨it,fp,tn,J,H2,e,I2,T,st2,f2,hh⟩:=h2
  subst e
  refine kd (RR:=λacc C=>compPost (model X.prog X.w) X.A X.xe (some (assign (.Name y py) X.env)) (λ_ s'=>SP X pins D .next s') acc C) (Q:=λv H'=>fq i v σ H' D.nx) hsc hc ht he I2 T st2 f2 hh λD' C H' s' I' hn nC cL cS cC cP q=>?_
  obtain ⟨m,hn⟩:=hn
  show wpAny _ _ (assign (.Name y py) X.env (.ref D')) _ _ s'
  refine wpAny_assign_Name (jZ I' hN hi' hy (v:=.ref D') rfl (λs'' I'' ⟨a,sb,ha⟩=>?_) hf)
  have ne:C ≠ a:=by
   rcases ha with z|z
   ·rw [z];exact cL
   ·exact λw=>cC y a z w.symm
  refine ⟨m,hn.sameBut sb ne,λh' sb'=>?_⟩
  exact ⟨_,H',I''.turned (t':=s''.toks) (λb o hb e=>(sb'.2 b hb).trans e) nC cL (.inr cS) cC cP,q⟩
 ·exact wpAny_pure (wpAny_pure q)
end
end L2
namespace L2
open PySem PySem.Spec PyProof.Rows
noncomputable abbrev nH (K:PySem.W.Frag) (H:Hp):List V->List (List Int)->Prop:=Paired λx ts=>∃ a,x=V.ref a/\SqT K H a (ts.map V.int)
theorem nH.len {K:PySem.W.Frag}{H:Hp}{xs:List V}{tss:List (List Int)} (h:nH K H xs tss):xs.length=tss.length:=Paired.length h
theorem a8 {H:Hp}{p:Addr} (h:H p=none) (o:HO):af H (upd H p o):=λb u q=>by rw [ak (aX q h)];exact q
theorem af.seqT {K:PySem.W.Frag}{H H':Hp}{a:Addr}{xs:List V} (e:af H H') (h:SqT K H a xs):SqT K H' a xs:=by
 rcases h with (h|⟨o,h⟩)|h
 ·exact .inl (.inl (e _ _ h))
 ·exact .inl (.inr ⟨o,e _ _ h⟩)
 ·exact .inr h
section
variable {X:Cx}{pins:List (Addr × Obj)}{σ:St}{H:Hp}{s:Shared}
theorem Inv.tupInts {a:Addr}{ns:List Int} (I:Inv X pins σ H s) (h:SqT X.K H a (ns.map V.int)):∃ its:List Value,IsTup s.heap a its.toArray/\IntsAre its ns:=by
 obtain ⟨its,r,p,_⟩:=I.tuple h
 exact ⟨its,p,f9 r⟩
theorem Inv.tupsAt (I:Inv X pins σ H s):∀ {xs:List V}{us:List Value}{tss:List (List Int)},nH X.K H xs tss->ar xs us->Paired (λu ts=>∃ a its,u=Value.ref a/\IsTup s.heap a its/\IntsAre its.toList ts) us tss
 | _,_,_,.nil,.nil=>.nil
 | _,_,_,.cons ⟨a,e1,e2⟩ t,.cons r q=>by
  obtain ⟨its,p,hi⟩:=I.tupInts e2
  rw [e1] at r
  exact .cons ⟨a,its.toArray,r,p,by simpa using hi⟩ (I.tupsAt t q)
end
namespace Srt
noncomputable def sortI (l:List Int):List Int:=fj dc l
noncomputable def sortT (l:List (List Int)):List (List Int):=fj cZ l
noncomputable def leT (a b:List Int):Prop:=HT.lexLt b a=false
theorem sortI_perm (l:List Int):(sortI l).Perm l:=dM dc l
theorem sortT_perm (l:List (List Int)):(sortT l).Perm l:=dM cZ l
theorem sortI_len (l:List Int):(sortI l).length=l.length:=(sortI_perm l).length_eq
theorem sortT_len (l:List (List Int)):(sortT l).length=l.length:=(sortT_perm l).length_eq
theorem sortT_rises (l:List (List Int)):(sortT l).Pairwise leT:=c8 cZ l
theorem sortT_id {l:List (List Int)} (h:l.Pairwise leT):sortT l=l:=rY cZ h
theorem sortT_of_perm {a b:List (List Int)} (p:a.Perm b):sortT a=sortT b:=jT cZ p
theorem vL {a b:Int}:dc.kle a b ↔ a <= b:=by
 show decide (b < a)=false ↔ a <= b
 rw [decide_eq_false_iff_not]
 omega
theorem sortI_rises (l:List Int):(sortI l).Pairwise (· <= ·):=(c8 dc l).imp λh=>vL.mp h
section
variable {P:Program}{w:World}{A:Around}{E:Value->Shared->Prop}{s:Shared}
theorem mq {ks ns:List Int} (hp:ns.Perm ks) (hs:ns.Pairwise (· <= ·)):ns=sortI ks:=by
 refine gr dc hp (hs.imp λ{a b} h=>?_)
 show decide (b < a)=false
 exact decide_eq_false (by omega)
theorem jk {x:Value}{ks:List Int}{Q:Value->Shared->Prop} (h64:ks.length < 64)
  (hcol:∀ (Q':List Value->Shared->Prop),(∀ (h':Heap) (tk:Nat) (d':Drawn) (acc:List Value) (order:List Int),(∀ b o,s.heap.get? b=some o->h'.get? b=some o)->order.Perm ks->IntsAre acc order->Q' acc { s with heap:=h',toks:=tk,drawn:=d' }) ->
   wpAny (model P w) A.in1 (collect x) Q' E s)
  (h:∀ (h1 h':Heap) (tk:Nat) (d':Drawn) (out:List Value) (c:Nat),(∀ b o,s.heap.get? b=some o->h1.get? b=some o)->(∀ b o,h1.get? b=some o->h'.get? b=some o)->h'.get? h1.objs.size=some { cls:=.type "list",data:=.seq out.toArray c } ->
   IntsAre out (sortI ks)->Q (.ref h1.objs.size) { s with heap:=h',toks:=tk,drawn:=d' }) :
  wpAny (model P w) A (call (.builtin "sorted") [x]) Q E s:=by
 refine Calls.call_function_entry kind_sorted plain_sorted entry_sorted (args_sorted1 _) ?_
 unfold Builtin.«sorted»
 refine wpAny_bind (m:=checkCount "sorted" 1 1 _) (wpAny_pure ?_)
 refine wpAny_bind (hcol _ λh1 tk d1 acc order kp hp hi=>?_)
 have hla:acc.length=order.length:=hi.length
 have hlo:order.length=ks.length:=hp.length_eq
 refine wpAny_bind (wpAny_newList ?_ (by rw [sizeLine_eq];omega))
 have hoL:(h1.push (seqObj "list" acc.toArray 0)).get? h1.objs.size=some (seqObj "list" acc.toArray 0):=Heap.get?_push_size _ rfl
 refine wpAny_bind (wpAny_holding (wpAny_call_entry slot_list_sort ⟨_,hoL,rfl⟩ entry_list_sort (list_sort_tree hoL hi (by omega) λout ns' hi' hp' hs'=>⟨_,rfl,?_⟩) (args_list_sort _)))
 obtain ⟨c,hc⟩:=sortedHeap_at (out:=out) (vs:=acc) hoL
 refine wpAny_pure ⟨_,rfl,h h1 _ tk d1 out.toList c kp (λb o e=>?_) ?_ ?_⟩
 ·have hb:b < h1.objs.size:=Heap.lt_size e
  rw [sortedHeap_old (Nat.ne_of_lt hb) (by rw [Heap.size_push];exact Nat.lt_succ_of_lt hb)]
  exact Heap.get?_push_of_some _ e
 ·rw [Array.toArray_toList];exact hc
 ·rw [<- mq (hp'.trans hp) hs'];exact hi'
theorem jl {x:Value}{vs:List Value}{tss:List (List Int)}{Q:Value->Shared->Prop} (h64:vs.length < 64) (hu:A.units + 2 < cLine)
  (hv:Paired (λu ts=>∃ a its,u=Value.ref a/\IsTup s.heap a its/\IntsAre its.toList ts) vs tss)
  (hcol:∀ (Q':List Value->Shared->Prop),(∀ (h':Heap),(∀ b o,s.heap.get? b=some o->h'.get? b=some o)->Q' vs { s with heap:=h' })->wpAny (model P w) A.in1 (collect x) Q' E s)
  (h:∀ (h1 h':Heap) (p:Array Nat) (c:Nat),(∀ b o,s.heap.get? b=some o->h1.get? b=some o)->(∀ b o,h1.get? b=some o->h'.get? b=some o)->h'.get? h1.objs.size=some { cls:=.type "list",data:=.seq (p.toList.map λi=>vs.getD i Value.none).toArray c } ->
   PB vs.length p->p.toList.map (λi=>tss.getD i [])=sortT tss->Q (.ref h1.objs.size) { s with heap:=h' }) :
  wpAny (model P w) A (call (.builtin "sorted") [x]) Q E s:=by
 have hlen:vs.length=tss.length:=Paired.length hv
 refine Calls.call_function_entry kind_sorted plain_sorted entry_sorted (args_sorted1 _) ?_
 unfold Builtin.«sorted»
 refine wpAny_bind (m:=checkCount "sorted" 1 1 _) (wpAny_pure ?_)
 refine wpAny_bind (hcol _ λh1 kp=>?_)
 refine wpAny_bind (wpAny_newList ?_ (by rw [sizeLine_eq];omega))
 have hoL:(h1.push (seqObj "list" vs.toArray 0)).get? h1.objs.size=some (seqObj "list" vs.toArray 0):=Heap.get?_push_size _ rfl
 have at_:∀ (s':Shared),(∀ b o,b ≠ h1.objs.size->(h1.push (seqObj "list" vs.toArray 0)).get? b=some o->s'.heap.get? b=some o)->∀ i,i < vs.length->∃ a its,vs.getD i Value.none=.ref a/\IsTup s'.heap a its/\IntsAre its.toList (tss.getD i []):=λs' k i hi=>by
  have gen:∀ {us:List Value}{uss:List (List Int)},Paired (λu ts=>∃ a its,u=Value.ref a/\IsTup s.heap a its/\IntsAre its.toList ts) us uss->∀ i,i < us.length->∃ a its,us.getD i Value.none=.ref a/\IsTup s.heap a its/\IntsAre its.toList (uss.getD i []):=by
   intro us uss hp
   induction hp with
   | nil=>intro i hi;simp at hi
   | cons q _ ih =>
    intro i hi
    cases i with
    | zero=>obtain ⟨a,its,e,r⟩:=q;exact ⟨a,its,by simpa using e,by simpa using r⟩
    | succ i=>obtain ⟨a,its,e,r⟩:=ih i (by simpa using hi);exact ⟨a,its,by simpa using e,by simpa using r⟩
  obtain ⟨a,its,e,⟨o,ho,r⟩,hin⟩:=gen hv i hi
  have ho1:=kp a o ho
  exact ⟨a,its,e,⟨o,k a o (Nat.ne_of_lt (Heap.lt_size ho1)) (Heap.get?_push_of_some _ ho1),r⟩,hin⟩
 refine wpAny_bind (wpAny_holding (wpAny_call_entry slot_list_sort ⟨_,hoL,rfl⟩ entry_list_sort (lq (O:=cZ) (key:=λi=>tss.getD i []) hoL h64 (λh2 s' Q' k q=>p8 h2 (λv hm=>?_) q) (λκ hκ s' i j C k hi hj q=>?_) λp hp hr=>⟨_,rfl,?_⟩) (args_list_sort _)))
 ·obtain ⟨i,hi,e⟩:=List.getElem_of_mem hm
  obtain ⟨a,its,e',r1,r2⟩:=at_ s' k i hi
  exact ⟨a,its,_,by rw [<- e',<- e];simp [hi],r1,r2⟩
 ·obtain ⟨a,its,e,r1,r2⟩:=at_ s' k i hi
  obtain ⟨a',its',e',r1',r2'⟩:=at_ s' k j hj
  rw [e,e']
  exact vJ hκ r1 r1' r2 r2' (show A.units + 1 + 1 < cLine from hu) q
 ·obtain ⟨c,hc⟩:=sortedHeap_at (out:=(p.toList.map λi=>vs.getD i Value.none).toArray) (vs:=vs) hoL
  have hp':PB tss.length p:=by rw [<- hlen];exact hp
  have hr':dZ (O:=cZ) (λi=>tss.getD i []) p tss.length:=by rw [<- hlen];exact hr
  refine wpAny_pure ⟨_,rfl,h h1 _ p c kp (λb o e=>?_) hc hp (ym (O:=cZ) (d:=([]:List Int)) (xs:=tss) hp' hr')⟩
  have hb:b < h1.objs.size:=Heap.lt_size e
  rw [sortedHeap_old (Nat.ne_of_lt hb) (by rw [Heap.size_push];exact Nat.lt_succ_of_lt hb)]
  exact Heap.get?_push_of_some _ e
end
end Srt
section
variable {X:Cx}
theorem Inv.keptD {pins:List (Addr × Obj)}{σ:St}{H:Hp}{s:Shared}{h':Heap}{t':Nat}{d':Drawn} (I:Inv X pins σ H s) (k:∀ b u,s.heap.get? b=some u->h'.get? b=some u):Inv X pins σ H { s with heap:=h',toks:=t',drawn:=d' } :=
 I.call (g':=s.gens) (d':=d') (t':=t') (ch:=[]) (Un.kept k) (I.hok.kept k) I.bare λ_ z=>nomatch z
theorem qg:∀ {vs:List Value}{ns:List Int},IntsAre vs ns->ar (ns.map V.int) vs:=g_
noncomputable def yq (X:Cx):List V->Hp->VK->Prop:=λxs H Q=>∃ (p:Addr) (ks:List Int),xs=[.ref p]/\(SqL X.K H p (ks.map V.int) \/ SqT X.K H p (ks.map V.int) \/ False)/\ks.length < 64/\∀ l:Addr,H l=none->Q (.ref l) (upd H l (.lst ((Srt.sortI ks).map V.int)))
theorem lr (hc:X.calm=true):cD X (.builtin "sorted") (yq X):=by
 intro pins s σ H xs us Q I r h
 obtain ⟨p,ks,rfl,hq,h64,q⟩:=h
 obtain ⟨u,rfl,rx⟩:=ir r
 cases rx
 have hh:=I.ok.hd hc
 refine Srt.jk (ks:=ks) h64 (λQ' hQ'=>?_) λh1 h' tk d' out c k1 k2 e hi=>?_
 ·rcases hq with hq|hq|hq
  ·obtain ⟨its,r',pl,hz⟩:=I.list hq
   obtain ⟨o,ho,hcl,n,hd⟩:=pl.isList
   refine wpAny_collect_seq p (.inl rfl) ho hcl hd (λh' kp=>?_) (by have:=r'.length;simp only [List.size_toArray] <;> omega)
   exact hQ' h' s.toks s.drawn _ ks kp (.refl _) (by simpa using f9 r')
  ·obtain ⟨its,r',pl,hz⟩:=I.tuple hq
   obtain ⟨o,ho,hcl,n,hd⟩:=pl
   refine wpAny_collect_seq p (.inr rfl) ho hcl hd (λh' kp=>?_) (by have:=r'.length;simp only [List.size_toArray] <;> omega)
   exact hQ' h' s.toks s.drawn _ ks kp (.refl _) (by simpa using f9 r')
  ·exact hq.elim
 ·have I1:Inv X pins σ H { s with heap:=h1,toks:=tk,drawn:=d' }:=I.keptD k1
  have I2:Inv X pins σ (upd H h1.objs.size (.lst ((Srt.sortI ks).map V.int))) { s with heap:=h',toks:=tk,drawn:=d' } :=
   I1.laid (t':=tk) k2 (Nat.le_refl _) (show bw X.prog X.w _ h' _ (.lst _) from ⟨by rw [List.length_map,Srt.sortI_len,sizeLine_eq];omega,out,c,qg hi,e⟩)
  exact ⟨.ref h1.objs.size,_,I2,rfl,q _ (I1.hok.fresh (Nat.le_refl _))⟩
noncomputable def yr (X:Cx):List V->Hp->VK->Prop:=λxs H Q=>∃ (p:Addr) (vs:List V) (tss:List (List Int)),xs=[.ref p]/\(SqL X.K H p vs \/ SqT X.K H p vs)/\nH X.K H vs tss/\tss.length < 64 /\
 ∀ (l:Addr) (pm:List Nat),H l=none->(∀ i ∈ pm,i < vs.length)->pm.map (λi=>tss.getD i [])=Srt.sortT tss->Q (.ref l) (upd H l (.lst (pm.map λi=>vs.getD i .non)))
theorem kf {vs:List V}{us:List Value} (h:ar vs us):∀ (l:List Nat),(∀ i ∈ l,i < vs.length)->ar (l.map λi=>vs.getD i .non) (l.map λi=>us.getD i Value.none)
 | [],_=>.nil
 | i::l,hl=>by
  have hi:=hl i (.head _)
  obtain ⟨u,e1,e2⟩:=h.get (i:=i) (x:=vs[i]) (List.getElem?_eq_getElem hi)
  refine .cons ?_ (kf h l λj hj=>hl j (.tail _ hj))
  have q1:vs.getD i .non=vs[i]:=by simp [hi]
  have q2:us.getD i Value.none=u:=by rw [List.getD_eq_getElem?_getD,e1];rfl
  show aw (vs.getD i V.non) (us.getD i Value.none)
  rw [q1,q2];exact e2
theorem lu (hu:X.A.units + 64 < cLine):cD X (.builtin "sorted") (yr X):=by
 intro pins s σ H xs us Q I r h
 obtain ⟨p,vs,tss,rfl,hq,ht,h64,q⟩:=h
 obtain ⟨u,rfl,rx⟩:=ir r
 cases rx
 have key:∀ (its:List Value),ar vs its->vs.length <= sizeLine->(∀ (Q':List Value->Shared->Prop),(∀ (h':Heap),(∀ b o,s.heap.get? b=some o->h'.get? b=some o)->Q' its { s with heap:=h' })->wpAny (model X.prog X.w) X.A.in1 (collect (.ref p)) Q' X.xe s) ->
   wpAny (model X.prog X.w) X.A (call (.builtin "sorted") [.ref p]) (EP X pins σ Q) X.xe s:=λits r' hz hcol=>by
  have hl:=r'.length
  have hl2:=ht.len
  refine Srt.jl (vs:=its) (tss:=tss) (by omega) (by omega) (I.tupsAt ht r') hcol λh1 h' pm c k1 k2 e hp ho=>?_
  have hpl:∀ i ∈ pm.toList,i < vs.length:=λi hi=>by
   have:=(Array.perm_iff_toList_perm.mp hp).mem_iff.mp hi
   have:=List.mem_range.mp (by simpa using this)
   omega
  have I1:Inv X pins σ H { s with heap:=h1 }:=I.kept (t':=s.toks) k1
  have I2:Inv X pins σ (upd H h1.objs.size (.lst (pm.toList.map λi=>vs.getD i .non))) { s with heap:=h' } :=
   I1.laid (t':=s.toks) k2 (Nat.le_refl _) (show bw X.prog X.w _ h' _ (.lst _) from ⟨by have:=hp.size;rw [List.length_map,Array.length_toList,sizeLine_eq];omega,_,c,kf r' _ hpl,e⟩)
  exact ⟨.ref h1.objs.size,_,I2,rfl,q _ pm.toList (I1.hok.fresh (Nat.le_refl _)) hpl ho⟩
 rcases hq with hq|hq
 ·obtain ⟨its,r',pl,hz⟩:=I.list hq
  obtain ⟨o,ho,hcl,n,hd⟩:=pl.isList
  refine key its r' hz λQ' hQ'=>wpAny_collect_seq p (.inl rfl) ho hcl hd (λh' kp=>?_) (by have:=r'.length;simp only [List.size_toArray] <;> omega)
  have:=hQ' h' kp
  simpa using this
 ·obtain ⟨its,r',pl,hz⟩:=I.tuple hq
  obtain ⟨o,ho,hcl,n,hd⟩:=pl
  refine key its r' hz λQ' hQ'=>wpAny_collect_seq p (.inr rfl) ho hcl hd (λh' kp=>?_) (by have:=r'.length;simp only [List.size_toArray] <;> omega)
  have:=hQ' h' kp
  simpa using this
end
end L2
namespace L2.En
open PySem PyProof.Rows
open AutoSeq1 (wpAny_loadPart')
section
variable {P:Program}{w:World}{A:Around}{E:Value->Shared->Prop}{s:Shared}
theorem nI {it t:Addr}{i:Nat}{Q:Value->Shared->Prop} (hit:s.heap.IsTupleIter it t i)
  (h:wpAny (model P w) A.in1 (Builtin.«tuple_iterator.__next__» ⟨[.ref it],[]⟩) (λfin s'=>∃ v,fin=.done (.ret v)/\Q v s') E s):wpAny (model P w) A (Builtin.SmallTypes.nextOf (.ref it)) Q E s:=by
 unfold Builtin.SmallTypes.nextOf
 refine wpAny_bind (wpAny_callSpecial?_slot (name:=Str.ofString "__next__") hit.typeIs F.slot_tuple_iterator_next ?_)
 refine wpAny_call_entry F.slot_tuple_iterator_next hit.typeIs F.entry_tuple_iterator_next ?_ (F.args_tuple_iterator_next_1 _)
 refine wpAny_mono h (λfin s' hv=>?_) λ_ _ z=>z
 obtain ⟨v,rfl,q⟩:=hv
 exact ⟨v,rfl,wpAny_pure q⟩
theorem AU {α:Type}{Q:α->Shared->Prop} (hh:A.handled=none) (h:∀ h' e,(∀ b o,s.heap.get? b=some o->h'.get? b=some o)->(∃ o,h'.get? e=some o/\o.cls=.type "StopIteration")->E (.ref e) { s with heap:=h' }) :
  wpAny (model P w) A (Builtin.SmallTypes.stopIteration:Sem α) Q E s:=by
 unfold Builtin.SmallTypes.stopIteration newExc
 obtain ⟨hp,g,d,tk,os⟩:=s
 wp_walk
 exact wpAny_raiseNew_none hh (h _ _ (λb o q=>Heap.get?_push_of_some _ (Heap.get?_push_of_some _ q)) ⟨_,Heap.get?_push_size _ rfl,rfl⟩)
theorem kg {it t:Addr}{i:Nat}{items:Array Value}{Q:Value->Shared->Prop} (hh:A.handled=none) (hit:s.heap.IsTupleIter it t i) (ht:s.heap.IsTuple t items)
  (hQ:∀ x h',items[i]?=some x->h'.IsTupleIter it t (i + 1)->Heap.SameBut it s.heap h'->Q x { s with heap:=h' })
  (hE:∀ h' e,items[i]?=none->Heap.ExtBut it s.heap h'->(∃ o,h'.get? e=some o/\o.cls=.type "StopIteration")->E (.ref e) { s with heap:=h' }):wpAny (model P w) A (Builtin.SmallTypes.nextOf (.ref it)) Q E s:=by
 refine nI hit ?_
 obtain ⟨⟨c1,d1,t1,l1⟩,h1,e1,e2⟩:=hit
 obtain ⟨⟨c2,d2,t2,l2⟩,h2,e3,n2,e4⟩:=ht
 cases e1
 cases e2
 cases e3
 cases e4
 obtain ⟨hp,g,d,tk,os⟩:=s
 unfold Builtin.«tuple_iterator.__next__»
 wp_walk using wpAny_loadPart' h1,wpAny_loadPart' h2
 have self:∀ (k:Nat) (v:Value),(hp.update it (Obj.mapFields (·.setIfInBounds k v))).get? it=some { cls:=.type "tuple_iterator",dict:=d1,data:=.fields ((#[.ref t,.int (i:Int) 0]:Array Value).setIfInBounds k v),slots:=l1 }:=λk v=>Heap.get?_update_self _ h1 rfl
 rw [Int.toNat_natCast]
 cases hx:items[i]? with
 | some x =>
  refine wpAny_bind (wpAny_setField h1 rfl (by simp) (wpAny_pure ⟨x,rfl,hQ x _ hx ⟨_,self 1 _,rfl,?_⟩ (Heap.SameBut.update ..)⟩))
  simp [rawInt]
 | none =>
  refine wpAny_bind (wpAny_rule (wpAny_bind (wpAny_setField h1 rfl (by simp) (AU (by simpa using hh) λh' e k st=>?_))))
  exact hE h' e hx (λb o hb q=>k b o ((Heap.SameBut.update hp it _).extBut b o hb q)) st
theorem draws (hh:A.handled=none) (it t:Addr) (hne:t ≠ it) (items:Array Value):Draws P w A it [it,t] items.size (λi v=>items[i]?=some v) (λi h=>h.IsTupleIter it t i/\h.IsTuple t items) where
 live:=λ_ _ ⟨⟨o,ho,_⟩,_⟩=>⟨o,ho⟩
 frame:=λi h h' ⟨⟨o,ho,r⟩,⟨o2,ho2,r2⟩⟩ k=>⟨⟨o,k it (.head _) o ho,r⟩,⟨o2,k t (.tail _ (.head _)) o2 ho2,r2⟩⟩
 item:=λi s Q E hi ⟨h1,h2⟩ hQ=>kg hh h1 h2 (λx h' hx h3 sb=>hQ x h' s.toks hx ⟨h3,h2.extBut sb.extBut hne⟩ sb) λh' e hx _ _=>absurd hx (by simp;omega)
 done:=λs Q E ⟨h1,h2⟩ hE=>kg hh h1 h2 (λx h' hx _ _=>absurd hx (by simp)) λh' e _ eb st=>hE h' e eb st
theorem r9 {b:Bool}{Q:Bool->Shared->Prop} (h:∀ c,Q c s):wpAny (model P w) A (pure b) Q E s:=wpAny_pure (h b)
theorem vM (l:Addr) (items:Array Value) (n:Nat) (dct:Option Addr) (sl:Array (Option Value)) :
  Meets (Builtin.«enumerate.__new__» ⟨[.type "enumerate",.ref l],[]⟩) (λ_ R s=>s.heap.get? l=some { cls:=.type "tuple",dict:=dct,data:=.seq items n,slots:=sl } /\
   R (.ok (.ret (.ref (s.heap.push { cls:=.type "tuple_iterator",data:=.fields #[.ref l,.int 0 0] }).objs.size)))
    { s with heap:=(s.heap.push { cls:=.type "tuple_iterator",data:=.fields #[.ref l,.int 0 0] }).push { cls:=.type "enumerate",data:=.fields #[.none,.bool false,.ref s.heap.objs.size,rawInt 0,.none,.none] } }):=by
 refine .of_wp λP w A R s h=>?_
 obtain ⟨hp,g,d,tk,os⟩:=s
 have tl:Heap.IsTuple (Shared.heap ⟨hp,g,d,tk,os⟩) l items:=⟨_,h.1,rfl,n,rfl⟩
 have en:=sub_enumerate
 wp_walk using wpAny_loadPart' h.1
 apply wpAny_stack_any
 intro st
 refine r9 λc=>?_
 cases c
 ·wp_walk using wpAny_pyIter_tuple tl
  exact ⟨_,rfl,h.2⟩
 ·wp_walk using wpAny_pyIter_tuple tl
  exact ⟨_,rfl,h.2⟩
theorem call_tup {l:Addr}{items:Array Value}{Q:Value->Shared->Prop} (ht:s.heap.IsTuple l items)
  (h:∀ h',IsEnum h' (s.heap.objs.size + 1) s.heap.objs.size 0 .none->h'.IsTupleIter s.heap.objs.size l 0->h'.objs.size=s.heap.objs.size + 2 ->
   (∀ b o,s.heap.get? b=some o->h'.get? b=some o)->Q (.ref (s.heap.objs.size + 1)) { s with heap:=h' }):wpAny (model P w) A (call (.type "enumerate") [.ref l]) Q E s:=by
 obtain ⟨⟨c,dct,dt,sl⟩,hl,hc,n,hd⟩:=ht
 cases hc
 cases hd
 have made:=vM l items n dct sl
 refine callType_new F.called_enumerate (by decide) (F.typeCall_enumerate_1 _) (F.newCall_enumerate_1 _) (λv=>F.args_object_init_2 v _) F.entry_enumerate_new made ⟨hl,?_⟩
 generalize hi:({ cls:=.type "tuple_iterator",data:=.fields #[.ref l,.int 0 0] }:Obj)=io
 generalize ho:({ cls:=.type "enumerate",data:=.fields #[.none,.bool false,.ref s.heap.objs.size,rawInt 0,.none,.none] }:Obj)=eo
 have z:(s.heap.push io).objs.size=s.heap.objs.size + 1:=Heap.size_push ..
 have g1:((s.heap.push io).push eo).get? (s.heap.objs.size + 1)=some eo:=by
  rw [<- z]
  exact Heap.get?_push_size _ (by rw [<- ho];rfl)
 have g2:((s.heap.push io).push eo).get? s.heap.objs.size=some io:=Heap.get?_push_of_some _ (Heap.get?_push_size _ (by rw [<- hi];rfl))
 show Shared.TypeIs _ (.ref (s.heap.push io).objs.size) _/\Q (.ref (s.heap.push io).objs.size) _
 rw [z]
 refine ⟨⟨_,g1,by rw [<- ho]⟩,h _ (by rw [<- ho] at g1;rw [<- ho];exact g1) ⟨_,g2,by rw [<- hi],by rw [<- hi];rfl⟩ (by rw [Heap.size_push,z]) λb o q=>Heap.get?_push_of_some _ (Heap.get?_push_of_some _ q)⟩
end
end L2.En
namespace L2.Dv
open PySem PyProof.Rows
open AutoSeq1 (wpAny_loadPart')
section
variable {P:Program}{w:World}{A:Around}{E:Value->Shared->Prop}{s:Shared}
noncomputable def lv (h:Heap) (d:Addr) (es:Array DictEntry) (ep:Nat):Prop:=∃ o,h.get? d=some o/\o.ExactDict/\o.data=.dict es ep
theorem lv.at {h h':Heap}{d:Addr}{es:Array DictEntry}{ep:Nat} (x:lv h d es ep) (k:∀ o,h.get? d=some o->h'.get? d=some o):lv h' d es ep:=by
 obtain ⟨o,ho,r⟩:=x
 exact ⟨o,k o ho,r⟩
theorem lv.type {d:Addr}{es:Array DictEntry}{ep:Nat} (x:lv s.heap d es ep):s.TypeIs (.ref d) "dict":=by
 obtain ⟨o,ho,r,_⟩:=x
 exact ⟨o,ho,r.1⟩
theorem vN {v d:Addr}{es:Array DictEntry}{ep:Nat}{Q:Value->Shared->Prop} (hv:s.heap.IsValuesView v d) (x:lv s.heap d es ep)
  (h:Q (.ref s.heap.objs.size) { s with heap:=s.heap.push { cls:=.type "dict_valueiterator",data:=.fields #[.ref d,.int 0 0,.int es.size 0,.int ep 0] } }):wpAny (model P w) A (pyIter (.ref v)) Q E s:=by
 refine wpAny_pyIter_slot hv.typeIs F.slot_dict_values_iter (wpAny_call_entry F.slot_dict_values_iter hv.typeIs F.entry_dict_values_iter ?_ (F.args_dict_values_iter_1 _))
 obtain ⟨⟨c1,d1,t1,l1⟩,h1,hx,e2⟩:=x
 have e1:=hx.1
 cases e1
 cases e2
 obtain ⟨⟨c3,d3,t3,l3⟩,h3,e3,e4⟩:=hv
 cases e3
 cases e4
 obtain ⟨hp,g,dr,tk,os⟩:=s
 unfold Builtin.«dict_values.__iter__»
 wp_walk using wpAny_loadPart' h1,wpAny_loadPart' h3
 exact ⟨_,rfl,_,_,⟨_,Heap.get?_push_size _ rfl,rfl⟩,F.slot_dict_valueiterator_next.lookup,h⟩
theorem oN {it d:Addr}{i:Nat}{es:Array DictEntry}{ep:Nat}{Q:Option Value->Shared->Prop} (hh:A.handled=none) (hv:s.heap.IsValIter it d i es.size ep) (x:lv s.heap d es ep)
  (h1:∀ e h',es[i]?=some e->h'.IsValIter it d (i + 1) es.size ep->Heap.SameBut it s.heap h'->Q (some e.val) { s with heap:=h' })
  (h2:∀ h',es[i]?=none->Heap.ExtBut it s.heap h'->Q none { s with heap:=h' }):wpAny (model P w) A (pyNext (.ref it)) Q E s:=by
 have ty:=hv.typeIs
 obtain ⟨⟨c1,d1,t1,l1⟩,g1,hx,e2⟩:=x
 have e1:=hx.1
 cases e1
 cases e2
 obtain ⟨⟨c3,d3,t3,l3⟩,g3,e3,e4⟩:=hv
 cases e3
 cases e4
 obtain ⟨hp,g,dr,tk,os⟩:=s
 unfold pyNext
 refine wpAny_bind (wpAny_attempt (wpAny_callSpecial?_slot (name:=Str.ofString "__next__") ty F.slot_dict_valueiterator_next (wpAny_call_entry F.slot_dict_valueiterator_next ty F.entry_dict_valueiterator_next ?_ (F.args_dict_valueiterator_next_1 _))))
 unfold Builtin.«dict_valueiterator.__next__»
 wp_walk using wpAny_loadPart' g1,wpAny_loadPart' g3
 rw [if_neg (by omega),Int.toNat_natCast]
 have self:∀ (k:Nat) (v:Value),(hp.update it (Obj.mapFields (·.setIfInBounds k v))).get? it=some { cls:=.type "dict_valueiterator",dict:=d3,data:=.fields ((#[.ref d,.int (i:Int) 0,.int (es.size:Int) 0,.int (ep:Int) 0]:Array Value).setIfInBounds k v),slots:=l3 }:=λk v=>Heap.get?_update_self _ g3 rfl
 cases hx:es[i]? with
 | some e =>
  have g4:=self 1 (rawInt ((i:Int) + 1))
  wp_walk using wpAny_loadPart' g3,wpAny_loadPart' g4
  exact ⟨_,rfl,wpAny_pure (h1 e _ hx ⟨_,g4,rfl,rfl⟩ (Heap.SameBut.update ..))⟩
 | none =>
  refine wpAny_bind (wpAny_mono (Q:=λ(n:Nat) (s':Shared)=>n=0/\s'=⟨hp,g,dr,tk,os⟩) (E:=λ_ _=>False) ?_ (λn s' q=>?_) λ_ _ z=>z.elim)
  ·wp_walk using wpAny_loadPart' g3
   exact ⟨by decide +kernel,rfl⟩
  obtain ⟨rfl,rfl⟩:=q
  refine wpAny_bind (wpAny_setField g3 rfl (by simp) ?_)
  refine St.p9 (v:=.none) (vs:=#[]) (it:=0) (Q:=λ_ _=>True) (by simpa using hh) λe s' kp ⟨h',eq⟩ hT=>?_
  subst eq
  refine wpAny_bind (wpAny_isInstance (T:="StopIteration") (b:=true) hT isSubtype_stop ?_)
  exact wpAny_pure (h2 h' hx λb o hb q=>kp b o ((Heap.SameBut.update hp it _).extBut b o hb q))
theorem src {r d:Addr}{es:Array DictEntry}{ep:Nat}:PySem.W.KdlSrc P w "dict_values" r d es.size (λi v=>∃ e,es[i]?=some e/\v=e.val) (λh=>h.IsValuesView r d/\lv h d es ep) where
 type:=λ_ q=>q.1.typeIs
 there:=λ_ ⟨⟨o,ho,_⟩,⟨o',ho',_⟩⟩=>⟨Heap.lt_size ho,Heap.lt_size ho'⟩
 keep:=λ_ _ ⟨⟨o,ho,z⟩,x⟩ k=>⟨⟨o,k r (.inl rfl) o ho,z⟩,x.at λo e=>k d (.inr rfl) o e⟩
 notList:=by decide
 notTuple:=by decide
 hint:=λ_ _ _ _ q z=>PySem.W.kdl_hint_values q.1.typeIs z
 iter:=λA s hh ⟨q,x⟩=>by
  have lt:d < s.heap.objs.size:=by obtain ⟨o,ho,_⟩:=x;exact Heap.lt_size ho
  have ne:d ≠ s.heap.objs.size:=Nat.ne_of_lt lt
  refine ⟨{ cls:=.type "dict_valueiterator",data:=.fields #[.ref d,.int 0 0,.int es.size 0,.int ep 0] },λi h=>h.IsValIter s.heap.objs.size d i es.size ep/\lv h d es ep,λE Q z=>vN q x z,?_,⟨_,Heap.get?_push_size _ rfl,rfl,rfl⟩,x.at λo e=>Heap.get?_push_of_some _ e⟩
  refine ⟨λb hb=>by simp at hb;simp [hb],λi h h' ⟨⟨o,ho,z⟩,y⟩ k=>⟨⟨o,k _ (by simp) o ho,z⟩,y.at λo e=>k d (by simp) o e⟩,λi s' Q E hi ⟨y,z⟩ hQ=>?_,λs' Q E ⟨y,z⟩ hQ=>?_,λi s' Q E ⟨y,z⟩ hQ=>?_⟩
  ·refine oN hh y z (λe h' he y' sb=>?_) λh' he _=>absurd he (by simp;omega)
   exact hQ _ h' s'.toks ⟨e,he,rfl⟩ ⟨y',z.at λo q=>sb.extBut d o ne q⟩ λb o hb q=>sb.extBut b o (λw=>hb (by simp [w])) q
  ·refine oN hh y z (λe h' he _ _=>absurd he (by simp)) λh' _ eb=>?_
   exact hQ h' s'.toks λb o hb q=>eb b o (λw=>hb (by simp [w])) q
  ·exact wpAny_pyIter_valiter y hQ
end
end L2.Dv
namespace HT
open PySem PyProof.Rows
section
variable {prog:Program}{w:World}{A:Around}{E:Value->Shared->Prop}{s:Shared}
theorem getItem_tuple_whole {t sl:Addr}{items:Array Value}{vl vu:Value}{lo hi:Option Int}{Q:Value->Shared->Prop} (ht:IsTup s.heap t items) (hs:s.heap.IsSliceOf sl vl vu .none) (pl:IsPart vl lo) (pu:IsPart vu hi)
  (h0:sIx items.size 0 lo=0) (h1:sIx items.size items.size hi=items.size) (h:Q (.ref t) s):wpAny (model prog w) A (getItem (.ref t) (.ref sl)) Q E s:=by
 have hTs:s.TypeIs (.ref sl) "slice":=by obtain ⟨os,hos,hcs,_⟩:=hs;exact ⟨os,hos,hcs⟩
 unfold getItem
 try with_reducible refine wpAny_holding ?_
 first|refine wpAny_bind (wpAny_pure ?_)|skip
 refine wpAny_bind (wpAny_sequenceKey ht.typeIs (by decide) ?_)
 refine wpAny_bind (wpAny_callSpecial?_slot (name:=Str.ofString "__getitem__") ht.typeIs PyProof.Rows.slot_tuple_getitem
  (wpAny_call_entry PyProof.Rows.slot_tuple_getitem ht.typeIs entry_tuple_getitem ?_ (args_tuple_getitem _ _)))
 show wpAny _ _ (Builtin.Tuple.tupleItemsOf (.ref t) >>= _) _ _ s
 refine wpAny_bind (tupleItemsOf_ ht ?_)
 refine wpAny_bind (wpAny_typeOf hTs ?_)
 rw [if_pos (by decide)]
 refine wpAny_bind (eF hs pl pu ?_)
 show wpAny _ _ (if (((sIx items.size 0 lo:Nat):Int) == 0&&(1:Int) == 1&&(sIx items.size items.size hi - sIx items.size 0 lo) == items.size)=true then _ else _) _ _ s
 rw [h0,h1,if_pos (by simp)]
 unfold Builtin.Tuple.tupleIsExact
 refine wpAny_bind (wpAny_bind (wpAny_typeOf ht.typeIs (wpAny_pure ?_)))
 rw [if_pos (by decide)]
 refine wpAny_bind (wpAny_rule ?_)
 exact wpAny_pure ⟨_,rfl,wpAny_pure h⟩
end
end HT
namespace L2
open PySem PySem.Spec PyProof.Rows
section
variable {X:Cx}
theorem vO:SlR X (λx lo hi H Q=>∃ a xs,x=.ref a/\SqT X.K H a xs/\HT.sIx xs.length 0 lo=0/\HT.sIx xs.length xs.length hi=xs.length/\Q (.ref a) H):=by
 intro pins s σ H x v vl vu lo hi sl Q I rx hs pl pu h
 obtain ⟨a,xs,rfl,hx,h0,h1,q⟩:=h
 cases rx
 obtain ⟨its,r,ht,hz⟩:=I.tuple hx
 have hlen:its.toArray.size=xs.length:=by rw [List.size_toArray];exact r.length.symm
 refine ⟨"tuple",_,PyProof.Rows.slot_tuple_getitem.lookup,ht.typeIs,?_⟩
 exact HT.getItem_tuple_whole ht hs pl pu (by rw [hlen];exact h0) (by rw [hlen];exact h1) ⟨.ref a,H,I,rfl,q⟩
end
end L2
namespace L2.Rv
open PySem PyProof.Rows
section
variable {P:Program}{w:World}{A:Around}{E:Value->Shared->Prop}{s:Shared}
noncomputable def Drawn (items:Array Value) (i:Nat) (v:Value):Prop:=items[items.size - 1 - i]?=some v
end
end L2.Rv
namespace L2
open PySem PySem.Spec PyProof.Rows
section
variable {X:Cx}
end
end L2
namespace L2.Rg
open PySem PyProof.Rows
section
variable {P:Program}{w:World}{A:Around}{E:Value->Shared->Prop}{s:Shared}
end
end L2.Rg
namespace L2
open PySem PySem.Spec PyProof.Rows
section
variable {X:Cx}
end
end L2
namespace L2
open PySem PySem.Spec PyProof.Rows
noncomputable abbrev bmV:List Value:=[.type "ValueError",.type "Exception",.type "BaseException",.type "object"]
noncomputable def dN (K:PySem.W.Frag) (C:Addr) (ms:List Value):Bool:=match K.lookup C with
 | some ⟨.type "type",_,.cls cd,sl⟩=>(match sl.toList with
  | [_,_,_,_,some (.builtin n),_]=>cd.mro == .ref C::ms&&n == "ValueError.__new__"&&!cd.hasDel&&PySem.W.tailIn K bmV ms&&PySem.W.nsOkIn K cd.ns&&PySem.W.nsIn K cd.ns "__init__" == some none
  | _=>false)
 | _=>false
structure oO (h:Heap) (C:Addr) (ms:List Value):Prop where
 obj:∃ N nm q bs hdct sn sub ab col dd k0 k1 k2 k3 k5 mN,h.get? C=some (excClassObj nm q C N bs ms hdct sn sub ab col dd k0 k1 k2 k3 k5 "ValueError.__new__")/\h.Ns N mN/\mN "__init__"=none
 tail:OwnTail h bmV ms
theorem lw {K:PySem.W.Frag}{h:Heap}{C:Addr}{ms:List Value} (X:K.In h) (e:dN K C ms=true):oO h C ms:=by
 unfold dN at e
 split at e
 ·rename_i dd cd sl ho
  split at e
  ·rename_i k0 k1 k2 k3 n k5 hs
   simp only [Bool.and_eq_true,beq_iff_eq,Bool.not_eq_true'] at e
   obtain ⟨⟨⟨⟨⟨e1,rfl⟩,e3⟩,e4⟩,e5⟩,e6⟩:=e
   obtain ⟨nm,bs,mro,ns,qn,hd,sn,sub,ab,col,del⟩:=cd
   obtain rfl:mro=.ref C::ms:=e1
   obtain rfl:del=false:=e3
   obtain ⟨l⟩:=sl
   obtain rfl:l=_:=hs
   exact ⟨⟨ns,nm,qn,bs,hd,sn,sub,ab,col,dd,k0,k1,k2,k3,k5,_,X _ _ ho,.of_isNs (PySem.W.isNs_of_in X e5),PySem.W.nsMap_none_of_in X e5 e6⟩,PySem.W.tail_of_in X e4⟩
  ·cases e
 ·cases e
section
variable {X:Cx}{x:Str}{C:Addr}{ms:List Value}{np cpos pos p1:Pos}{tx:Str}
noncomputable def yt (X:Cx) (C:Addr):TS:=λ_ σ H=>∀ pins s h' ea vs,Inv X pins σ H s->Heap.MadeExcOf s.heap h' ea (.ref C) vs->X.xe (.ref ea) { s with heap:=h' }
theorem r_ {j:Nat} (hc:X.calm=true) (hg:Gl X x) (hm:X.mg x=some (.ref C)) (he:dN X.K C ms=true) (hd:(x == ("__debug__":Str))=false):PS X (.Raise (some (.Call (.Name x np) [.Constant (.str tx) j p1] [] cpos)) none pos) (yt X C):=by
 intro pins s σ H D I h
 obtain ⟨⟨N,nm,q,bs,hdct,sn,sub,ab,col,dd,k0,k1,k2,k3,k5,mN,hC,hN,hni⟩,TL⟩:=lw I.mod.kin he
 refine wpAny_Raise_call_subT (C:=C) (nm:=nm) (q:=q) (N:=N) (bs:=bs) (bm:=ms) (hdct:=hdct) (sn:=sn) (sub:=sub) (ab:=ab) (col:=col) (dd:=dd) (k0:=k0) (k1:=k1) (k2:=k2) (k3:=k3) (k5:=k5)
  PySem.F.excBase_ValueError (mN:=mN) (TL.hasType PySem.F.excBase_ValueError.hasBase) (I.ok.hd hc) rfl hni (fM I hg hm ⟨rfl,?_⟩ hd)
 have hpa:PA X [.Constant (.str tx) j p1] (i4 (tC (.str tx)) l4):=aU m8 cE
 have hs:starEach [Expr.Constant (.str tx) j p1] X.env=(false,eval (.Constant (.str tx) j p1) X.env)::starEach [] X.env:=rfl
 have hq:=hpa cpos pins s σ H (λvs H1=>vs.length=1/\H1=H) I ⟨rfl,rfl⟩
 rw [hs] at hq ⊢
 refine Calls.evalArgs_plain (wpAny_mono hq (λus s₂ ⟨vs,H1,I1,r,hl,hH⟩=>?_) λ_ _ y=>y)
 subst hH
 refine ⟨rfl,?_,I1.bk _ _ hC,hN.keeps I1.bk,TL.keeps I1.bk,λh' ea hx=>h pins s₂ h' ea us I1 hx⟩
 show us.length <= sizeLine
 rw [<- r.length,hl]
 decide
end
end L2
namespace L2
open PySem PySem.Spec PyProof.Rows
theorem bw.there {P:Program}{w:World}{H:Hp}{h:Heap}{a:Addr}{o:HO} (x:bw P w H h a o):∃ u,h.get? a=some u:=by
 cases o <;> first
  | exact ⟨_,(show h.get? a=some _ from x)⟩
  | (obtain ⟨_,e⟩:=x;exact ⟨_,e⟩)
  | (obtain ⟨e,_⟩:=x;exact ⟨_,e⟩)
  | (obtain ⟨_,_,_,e⟩:=x;exact ⟨_,e⟩)
  | (obtain ⟨_,_,_,_,e⟩:=x;exact ⟨_,e⟩)
  | (obtain ⟨_,_,_,e,_⟩:=x;exact ⟨_,e⟩)
  | (obtain ⟨_,⟨_,e⟩,_⟩:=x;exact ⟨_,e⟩)
  | (obtain ⟨_,_,_,_,e,_⟩:=x;exact ⟨_,e⟩)
  | (obtain ⟨_,⟨_,_,_,e,_⟩,_⟩:=x;exact ⟨_,e⟩)
  | (obtain ⟨_,_,_,_,_,_,_,e,_⟩:=x;exact ⟨_,e⟩)
structure bZ (P:Program) (w:World) (outer:List Env) (H:Hp) (s:Shared) (ea C:Addr) (H':Hp) (s':Shared):Prop where
 os:s'.os=s.os
 bare:AllBare s'.gens
 un:Un (frs outer) [] H H' s.heap s'.heap
 hok:HOk P w H' s'.heap
 fly:∃ B a0,Heap.FlyingW B outer ea (.ref C) a0 s'.heap/\(∀ b o,s'.heap.get? b=some o->B.get? b=some o \/ b ∈ frs outer \/ (s.heap.get? b=none/\H' b=none))
 new:s.heap.get? ea=none/\H' ea=none
noncomputable def CXE (P:Program) (w:World):CXT:=λouter H s E e s'=>∃ ea C H',e=.ref ea/\bZ P w outer H s ea C H' s'/\E (.ref C) none H'
theorem fB {h b b':Heap}:∀ {l:List Env},h.FunFrames b l->(∀ a ∈ frs l,b'.get? a=none)->h.FunFrames b' l
 | [],_,_=>trivial
 | env::l,⟨hk,⟨L,o,hf,_,ho,hd⟩,hr⟩,hb=>by
  have e:frs (env::l)=L::frs l:=by unfold frs;rw [List.filterMap_cons,hf]
  rw [e] at hb
  exact ⟨hk,⟨L,o,hf,hb L (.head _),ho,hd⟩,fB hr λa ha=>hb a (.tail _ ha)⟩
theorem HOk.but {P:Program}{w:World}{H:Hp}{h h':Heap}{fs:List Addr} (x:HOk P w H h) (k:∀ b u,b ∉ fs->h.get? b=some u->h'.get? b=some u) (hf:∀ b ∈ fs,H b=none):HOk P w H h':=λa o e =>
 (x a o e).stay (λb u hb q=>k b u (λz=>by
  rcases hb with rfl|hb
  ·rw [hf b z] at e;cases e
  ·rw [hf b z] at hb;cases hb) q) (λ_ q=>q) λ_ _ q=>q
section
variable {X:Cx}{pins:List (Addr × Obj)}{σ:St}{H:Hp}{s:Shared}{C ea:Addr}{h':Heap}{vs:List Value}
theorem qh (hst:X.stack=X.env::X.outer) (hf:X.env.frame=some X.env.locals):frs X.stack=X.env.locals::X.fs:=by rw [hst];unfold frs Cx.fs frs;rw [List.filterMap_cons,hf]
theorem kj {B h2:Heap}{a0:Value} (I:Inv X pins σ H s) (hst:X.stack=X.env::X.outer) (hf:X.env.frame=some X.env.locals) (hex:X.ex=[]) (fl:Heap.FlyingW B X.outer ea (.ref C) a0 h2)
  (cov:∀ b o,s.heap.get? b=some o->B.get? b=some o \/ b ∈ frs X.stack \/ (X.s₀.heap.get? b=none/\H b=none)) (slot:∀ b o,b ∈ frs X.stack->s.heap.get? b=some o->∃ sl,h2.get? b=some { o with slots:=sl }) (e0:X.s₀.heap.get? ea=none/\H ea=none) :
  bZ X.prog X.w X.outer X.H₀ X.s₀ ea C H { s with heap:=h2 }:=by
 have efr:=qh hst hf
 have keep:∀ b o,b ∉ frs X.stack->(X.s₀.heap.get? b ≠ none \/ H b ≠ none)->s.heap.get? b=some o->h2.get? b=some o:=λb o hb hn e=>by
  rcases cov b o e with z|z|⟨z1,z2⟩
  ·exact fl.1 b o z
  ·exact absurd z hb
  ·exact (hn.elim (λq=>q z1) λq=>q z2).elim
 have old:∀ b o,X.s₀.heap.get? b=some o->b ≠ X.env.locals:=λb o e z=>by
  rw [z] at e
  exact absurd (Nat.lt_of_lt_of_le (Heap.lt_size e) I.ok.above) (Nat.lt_irrefl _)
 have out:∀ b o,X.s₀.heap.get? b=some o->b ∉ X.fs->b ∉ frs X.stack:=λb o e hb z=>by
  rw [efr] at z
  rcases List.mem_cons.mp z with z|z
  ·exact old b o e z
  ·exact hb z
 have nx:∀ b:Addr,b ∉ X.ex:=λb=>by rw [hex];simp
 refine ⟨I.os,I.bare,⟨λb o e n hb _=>keep b o (out b o e hb) (.inl (by rw [e];simp)) (I.base.keep b o e n hb (nx b)),λb o e n hb _=>?_,λb o e n _=>I.base.free b o e n (nx b),λb o e _=>?_,I.base.tups,I.base.frzs,I.base.tbls⟩,
  λa o e=>(I.hok a o e).stay (λb u hb q=>keep b u (λz=>?_) (.inr ?_) q) (λ_ q=>q) λ_ _ q=>q,⟨B,a0,fl,λb o e=>?_⟩,e0⟩
 ·obtain ⟨sl,e1⟩:=I.base.slot b o e n hb (nx b)
  obtain ⟨sl',e2⟩:=slot b _ (by rw [efr];exact .tail _ hb) e1
  exact ⟨sl',e2⟩
 ·obtain ⟨o',e1⟩:=I.base.there b o e (nx b)
  by_cases hb:b ∈ frs X.stack
  ·obtain ⟨sl,q⟩:=slot b o' hb e1
   exact ⟨_,q⟩
  ·exact ⟨o',keep b o' hb (.inl (by rw [e];simp)) e1⟩
 ·have n:=I.stkFree b z
  rcases hb with rfl|hb
  ·rw [n] at e;cases e
  ·rw [n] at hb;cases hb
 ·rcases hb with rfl|hb
  ·rw [e];simp
  ·rw [hb];simp
 ·have e:h2.get? b=some o:=e
  cases q:B.get? b with
  | some o' =>
   have:=fl.1 b o' q
   rw [e] at this
   exact .inl this.symm
  | none =>
   by_cases hb:b ∈ frs X.stack
   ·rw [efr] at hb
    rcases List.mem_cons.mp hb with rfl|hb
    ·refine .inr (.inr ⟨?_,I.free⟩)
     cases q:X.s₀.heap.get? X.env.locals with
     | none=>rfl
     | some o'=>exact absurd rfl (old _ o' q)
    ·exact .inr (.inl hb)
   ·refine .inr (.inr ?_)
    cases q':s.heap.get? b with
    | some o' =>
     rcases cov b o' q' with z|z|z
     ·rw [q] at z;cases z
     ·exact absurd z hb
     ·exact z
    | none =>
     constructor
     ·cases z:X.s₀.heap.get? b with
      | none=>rfl
      | some o' =>
       obtain ⟨o2,e2⟩:=I.base.there b o' z (nx b)
       rw [q'] at e2
       cases e2
     ·cases z:H b with
      | none=>rfl
      | some u =>
       obtain ⟨o2,e2⟩:=(I.hok b u z).there
       rw [q'] at e2
       cases e2
theorem Inv.gone {b:Addr} (I:Inv X pins σ H s) (hex:X.ex=[]) (e:s.heap.get? b=none):X.s₀.heap.get? b=none:=by
 cases q:X.s₀.heap.get? b with
 | none=>rfl
 | some o =>
  obtain ⟨o',e'⟩:=I.base.there b o q (by rw [hex];simp)
  rw [e] at e'
  cases e'
theorem nJ {M:Model}{Q:Unit->Shared->Prop}{E:Value->Shared->Prop} (I:Inv X pins σ H s) (hst:X.stack=X.env::X.outer) (hf:X.env.frame=some X.env.locals) (hex:X.ex=[]) (hx:Heap.MadeExcOf s.heap h' ea (.ref C) vs)
  (k:∀ s',bZ X.prog X.w X.outer X.H₀ X.s₀ ea C H s'->Q () s'):wpAny M X.A (leaving X.env (.ref ea)) Q E { s with heap:=h' }:=by
 have hB:∀ b o,(PySem.W.hideAll s.heap (frs X.stack)).get? b=some o->s.heap.get? b=some o:=λb o e=>PySem.W.of_hideAll _ e
 have fu':=I.stack
 have fu:s.heap.FunFrames (PySem.W.hideAll s.heap (frs X.stack)) (X.env::X.outer):=hst ▸ fB I.stack λb hb=>PySem.W.hideAll_none _ hb
 have hn:H ea=none:=by
  cases q:H ea with
  | none=>rfl
  | some o =>
   obtain ⟨u,e⟩:=(I.hok ea o q).there
   rw [hx.new] at e
   cases e
 refine wpAny_leaves_madeW (base:=PySem.W.hideAll s.heap (frs X.stack)) (h:=s.heap) (by rw [I.ok.frames,hst]) hf hB fu hx λh2 t fl _ _ up=>k _ (kj (s:=s) I hst hf hex fl (λb o e=>?_) (λb o hb e=>?_) ⟨I.gone hex hx.new,hn⟩)
 ·by_cases hb:b ∈ frs X.stack
  ·exact .inr (.inl hb)
  ·exact .inl (PySem.W.hideAll_get _ e hb)
 ·obtain ⟨_,o',ho',hd⟩:=fu'.mem hb
  rw [e] at ho'
  cases ho'
  exact up b o (hx.keeps b o e) hd
end
end L2
namespace L2
open PySem PySem.Spec PyProof.Rows
section
variable {P:Program}{w:World}{outer:List Env}{H H':Hp}{s s':Shared}{ea C:Addr}
theorem bZ.on {B:Heap}{a0:Value}{h2:Heap} (F:bZ P w outer H s ea C H' s') (fn:s'.heap.FunFrames B outer) (hB:∀ b o,s'.heap.get? b=some o->B.get? b=some o \/ b ∈ frs outer \/ (s.heap.get? b=none/\H' b=none))
  (fl:Heap.FlyingW B outer ea (.ref C) a0 h2) (up:s'.heap.UpToSlots h2) (hf:∀ b ∈ frs outer,H' b=none) (h0:∀ b ∈ frs outer,H b=none):bZ P w outer H s ea C H' { s' with heap:=h2 }:=by
 have tr:∀ b u,H' b=some u->∃ o,s'.heap.get? b=some o:=λb u e=>(F.hok b u e).there
 have keep:∀ b o,b ∉ frs outer->(H' b ≠ none \/ s.heap.get? b ≠ none)->s'.heap.get? b=some o->h2.get? b=some o:=λb o hb hn e=>by
  rcases hB b o e with z|z|⟨z1,z2⟩
  ·exact fl.1 b o z
  ·exact absurd z hb
  ·exact (hn.elim (λq=>q z2) λq=>q z1).elim
 have slot:∀ b o,b ∈ frs outer->s'.heap.get? b=some o->∃ sl,h2.get? b=some { o with slots:=sl }:=λb o hb e=>by
  obtain ⟨_,o',ho',hd⟩:=fn.mem hb
  rw [e] at ho'
  cases ho'
  exact up b o e hd
 refine ⟨F.os,F.bare,⟨λb o e n hb hx=>keep b o hb (.inr (by rw [e];simp)) (F.un.keep b o e n hb hx),λb o e n hb hx=>?_,F.un.free,λb o e hx=>?_,F.un.tups,F.un.frzs,F.un.tbls⟩,
  λa o e=>(F.hok a o e).stay (λb u hb q=>keep b u (λz=>?_) (.inl ?_) q) (λ_ q=>q) λ_ _ q=>q,⟨B,a0,fl,λb o e=>?_⟩,F.new⟩
 ·obtain ⟨sl,e1⟩:=F.un.slot b o e n hb hx
  obtain ⟨sl',e2⟩:=slot b _ hb e1
  exact ⟨sl',e2⟩
 ·obtain ⟨o',e1⟩:=F.un.there b o e hx
  by_cases hb:b ∈ frs outer
  ·obtain ⟨sl,e2⟩:=slot b o' hb e1
   exact ⟨_,e2⟩
  ·exact ⟨o',keep b o' hb (.inr (by rw [e];simp)) e1⟩
 ·rcases hb with rfl|hb
  ·rw [hf b z] at e;cases e
  ·rw [hf b z] at hb;cases hb
 ·rcases hb with rfl|hb
  ·rw [e];simp
  ·rw [hb];simp
 ·have e:h2.get? b=some o:=e
  cases q:B.get? b with
  | some o' =>
   have:=fl.1 b o' q
   rw [e] at this
   exact .inl this.symm
  | none =>
   by_cases hb:b ∈ frs outer
   ·exact .inr (.inl hb)
   ·refine .inr (.inr ?_)
    cases q':s'.heap.get? b with
    | some o' =>
     rcases hB b o' q' with z|z|z
     ·rw [q] at z;cases z
     ·exact absurd z hb
     ·exact z
    | none =>
     constructor
     ·cases z:s.heap.get? b with
      | none=>rfl
      | some o' =>
       obtain ⟨o2,e2⟩:=F.un.there b o' z (by simp)
       rw [q'] at e2
       cases e2
     ·cases z:H' b with
      | none=>rfl
      | some u =>
       obtain ⟨o2,e2⟩:=tr b u z
       rw [q'] at e2
       cases e2
end
section
variable {X:Cx}{pins:List (Addr × Obj)}{σ:St}{H H':Hp}{s s':Shared}{ea C:Addr}
theorem Inv.caught (I:Inv X pins σ H s) (F:bZ X.prog X.w X.stack H s ea C H' s'):Inv X pins σ H' s':=I.call' F.os F.un F.hok F.bare λb z=>absurd z (by simp)
theorem bZ.next {h2:Heap}{B:Heap}{a0:Value} (I:Inv X pins σ H s) (F:bZ X.prog X.w X.stack H s ea C H' s') (hB:∀ b o,s'.heap.get? b=some o->B.get? b=some o \/ b ∈ frs X.stack \/ (s.heap.get? b=none/\H' b=none))
  (f0:s'.heap.FunFrames B X.stack) (fl:Heap.FlyingW B X.stack ea (.ref C) a0 h2) (up:s'.heap.UpToSlots h2):bZ X.prog X.w X.stack H s ea C H' { s' with heap:=h2 } :=
 F.on f0 hB fl up (I.caught F).stkFree I.stkFree
theorem qi {M:Model}{Q:Unit->Shared->Prop}{E:Value->Shared->Prop} (I:Inv X pins σ H s) (hst:X.stack=X.env::X.outer) (hf:X.env.frame=some X.env.locals) (hex:X.ex=[]) (F:bZ X.prog X.w X.stack H s ea C H' s')
  (k:∀ s2,bZ X.prog X.w X.outer X.H₀ X.s₀ ea C H' s2->Q () s2):wpAny M X.A (leaving X.env (.ref ea)) Q E s':=by
 obtain ⟨B,a0,fl,hB⟩:=F.fly
 have J:=I.caught F
 have fl':Heap.FlyingW B (X.env::X.outer) ea (.ref C) a0 s'.heap:=hst ▸ fl
 refine wpAny_leaves_onW (by rw [I.ok.frames,hst]) hf fl' λh2 fl2 up=>k _ (kj (s:=s') J hst hf hex fl2 (λb o e=>?_) (λb o hb e=>?_) ⟨I.gone hex F.new.1,F.new.2⟩)
 ·rcases hB b o e with z|z|z
  ·exact .inl z
  ·exact .inr (.inl z)
  ·exact .inr (.inr ⟨I.gone hex z.1,z.2⟩)
 ·obtain ⟨_,o',ho',hd⟩:=J.stack.mem hb
  rw [e] at ho'
  cases ho'
  exact up b o e hd
theorem sd {M:Model}{Q:Flow->Shared->Prop}{E:Value->Shared->Prop}{hs:List ExceptHandler} (I:Inv X pins σ H s) (hst:X.stack=X.env::X.outer) (hf:X.env.frame=some X.env.locals) (F:bZ X.prog X.w X.stack H s ea C H' s')
  (k:∀ s3,bZ X.prog X.w X.stack H s ea C H' s3->wpAny M X.A (handleBy (.ref ea) X.env hs) Q E s3) :
  wpAny M X.A (noteFrame (.ref ea) X.env) (λ_ s₂=>wpAny M X.A (setFlight (.ref ea) none) (λ_ s₃=>wpAny M X.A (handleBy (.ref ea) X.env hs) Q E s₃) E s₂) E s':=by
 obtain ⟨B,a0,fl,hB⟩:=F.fly
 have fl':Heap.FlyingW B (X.env::X.outer) ea (.ref C) a0 s'.heap:=hst ▸ fl
 refine wpAny_looks_onW (by rw [I.ok.frames,hst]) hf fl' λh2 he up=>?_
 refine wpAny_landsW he λh3 fl3 up3=>k _ ?_
 exact bZ.next (s':=s') I F hB fl.2.2.1 (hst ▸ fl3) (up.trans up3)
theorem iB {M:Model}{A:Around}{Q:Unit->Shared->Prop}{E:Value->Shared->Prop} (I:Inv X pins σ H s) (F:bZ X.prog X.w X.stack H s ea C H' s') (k:∀ s3,bZ X.prog X.w X.stack H s ea C H' s3->Q () s3):wpAny M A (setFlight (.ref ea) none) Q E s':=by
 obtain ⟨B,a0,fl,hB⟩:=F.fly
 exact lands_againW fl λh3 fl3 up3=>k _ (bZ.next I F hB fl.2.2.1 fl3 up3)
noncomputable abbrev Cx.within (X:Cx) (ea:Addr) (oe:Obj):Cx:={ X with A:=X.A.mark (some (.ref ea)),calm:=false,xe:=λ_ _=>False,pn:=(ea,oe)::X.pn }
theorem Inv.within {oe:Obj} (I:Inv X pins σ H s) (h1:s.heap.get? ea=some oe) (h2:H ea=none) (h3:ea ≠ X.env.locals) (h4:ea ∉ X.fs) (h5:∀ v,oe.data ≠ .cell v):Inv (X.within ea oe) pins σ H s :=
 ⟨⟨I.ok.mod,I.ok.kind,I.ok.glob,I.ok.blt,I.ok.above,I.ok.inj,I.ok.has,I.ok.cab,λz=>(by cases z),I.ok.frames,I.ok.stk,I.ok.exf,I.ok.bs,I.ok.bsz,I.ok.noex,I.ok.exfs,I.ok.funs,I.ok.frf⟩,
  I.os,I.bare,I.base,I.loc,I.cell,I.free,I.freeC,λp hp=>(List.mem_cons.mp hp).elim (λe=>by subst e;exact ⟨h1,h2,h3,h4,h5⟩) λhp=>I.pin p hp,I.hok,I.len⟩
theorem Inv.without {oe:Obj} (ok:X.Ok) (I:Inv (X.within ea oe) pins σ H s):Inv X pins σ H s:=⟨ok,I.os,I.bare,I.base,I.loc,I.cell,I.free,I.freeC,λp hp=>I.pin p (.tail _ hp),I.hok,I.len⟩
theorem SP.without {oe:Obj}{D:fm}{f:Flow}{s':Shared} (ok:X.Ok) (h:SP (X.within ea oe) pins D f s'):SP X pins D f s':=by
 cases f with
 | next=>obtain ⟨σ',H',I,q⟩:=h;exact ⟨σ',H',I.without ok,q⟩
 | brk=>obtain ⟨σ',H',I,q⟩:=h;exact ⟨σ',H',I.without ok,q⟩
 | cont=>obtain ⟨σ',H',I,q⟩:=h;exact ⟨σ',H',I.without ok,q⟩
 | ret u=>obtain ⟨v,σ',H',I,r,q⟩:=h;exact ⟨v,σ',H',I.without ok,r,q⟩
theorem bZ.obj (I:Inv X pins σ H s) (F:bZ X.prog X.w X.stack H s ea C H' s'):∃ oe,s'.heap.get? ea=some oe/\oe.cls=.ref C/\ea ≠ X.env.locals/\ea ∉ X.fs/\∀ v,oe.data ≠ .cell v:=by
 obtain ⟨B,a0,fl,hB⟩:=F.fly
 obtain ⟨oe,vs,e,ec,ed,_⟩:=fl.first
 obtain ⟨m,⟨ol,_,_,hl,_⟩,_⟩:=I.loc
 refine ⟨oe,e,ec,λz=>?_,λz=>?_,λv q=>?_⟩
 ·have:=F.new.1
  rw [z,hl] at this
  cases this
 ·obtain ⟨_,o,ho,_⟩:=I.funs.mem z
  rw [F.new.1] at ho
  cases ho
 ·rw [ed] at q
  cases q
theorem mr {M:Model}{A:Around}{E:Value->Shared->Prop}{Q:Bool->Shared->Prop}{D:Addr}{oe:Obj}{ms ds:List Value}{h:Heap}{g:Array GenState}{d:Drawn}{t:Nat}{os:OsState} (c1:oO h C ms) (c2:oO h D ds) (he:h.get? ea=some oe) (hc:oe.cls=.ref C)
  (hq:Q ((Value.ref C::ms).contains (.ref D)) ⟨h,g,d,t,os⟩):wpAny M A (excMatches (.ref ea) (.ref D)) Q E ⟨h,g,d,t,os⟩:=by
 obtain ⟨⟨N,nm,q,bs,hdct,sn,sub,ab,col,dd,k0,k1,k2,k3,k5,mN,hC,hN,hni⟩,TL⟩:=c1
 obtain ⟨⟨N',nm',q',bs',hdct',sn',sub',ab',col',dd',k0',k1',k2',k3',k5',mN',hD,_,_⟩,TD⟩:=c2
 have hB:(Value.ref D::ds).contains (.type "BaseException")=true:=by rw [List.contains_cons,TD.hasType PySem.F.excBase_ValueError.hasBase,Bool.or_true]
 have f:=tc_notTuple
 unfold excMatches
 generalize hb:(Value.ref C::ms).contains (Value.ref D)=b at hq
 cases b <;>
 ·repeat (first|(with_reducible refine wpAny_loadPart_at he ?_;rw [hc])|with_reducible refine wpAny_loadPart_at hD ?_|(with_reducible refine wpAny_isSubtype_exc hD ?_;rw [hB])|(with_reducible refine wpAny_isSubtype_exc hC ?_;rw [hb])|wp_step)
  exact hq
end
end L2
namespace L2
open PySem PySem.Spec PyProof.Rows
noncomputable abbrev TX:=St->Hp->VK->XK->Prop
noncomputable def PX (X:Cx) (e:Expr) (t:TX):Prop:=∀ (pins:List (Addr × Obj)) (s:Shared) (σ:St) (H:Hp) (Q:VK) (E:XK) (Ex:Value->Shared->Prop),Inv X pins σ H s->t σ H Q E ->
 (∀ H1 s1 er s',Inv X pins σ H1 s1->CXE X.prog X.w X.stack H1 s1 E er s'->Ex er s')->wpAny (model X.prog X.w) X.A (eval e X.env) (EP X pins σ Q) Ex s
noncomputable def PH (X:Cx) (hs:List ExceptHandler) (t:Addr->TS):Prop:=∀ (pins:List (Addr × Obj)) (σ:St) (H:Hp) (s:Shared) (ea C:Addr) (H':Hp) (s':Shared) (D:fm),Inv X pins σ H s->bZ X.prog X.w X.stack H s ea C H' s'->t C D σ H' ->
 wpAny (model X.prog X.w) X.A (handleBy (.ref ea) X.env hs) (SP X pins D) X.xe s'
section
variable {X:Cx}{k:Nat}{f:Addr}{fd:FuncData}{ps:List Str}{sp:Sp}{x:Str}{p pos:Pos}{e:Expr}{es:List Expr}{t:TA}
theorem oP {pins:List (Addr × Obj)}{σ:St}{H:Hp}{s:Shared}{Q:VK}{E:XK}{Ex:Value->Shared->Prop}{us:List Value}{vs:List V} (F:cf X.prog X.w X.K X.mg X.base (CXE X.prog X.w) k f fd ps sp) (hr:cX k X.A) (hb:aN X.K fd ps []) (J:Inv X pins σ H s) (r:ar vs us) (q:sp vs H Q E)
  (hx:∀ H1 s1 er s',Inv X pins σ H1 s1->CXE X.prog X.w X.stack H1 s1 E er s'->Ex er s'):wpAny (model X.prog X.w) X.A (call (.ref f) us) (EP X pins σ Q) Ex s:=by
 have hl:us.length=ps.length:=by rw [<- r.length];exact F.len _ _ _ _ q
 have r2:ar vs (us ++ []):=by rw [List.append_nil];exact r
 have hb':=hb s us J.kIn (by rw [List.append_nil];exact hl)
 refine wpAny_call (codeAny_mono (F.run X.A X.stack s H ⟨us,[]⟩ (us ++ []) vs Q E hr J.env0 hb' r2 q) λr s' hq=>?_)
 cases r with
 | error er=>exact hx H s er s' J hq
 | ok fl =>
  cases fl with
  | ret u=>exact J.after hq
  | next=>exact False.elim hq
  | brk=>exact False.elim hq
  | cont=>exact False.elim hq
variable {te:TX}{th:Addr->TS}{h₀:ExceptHandler}{hs:List ExceptHandler}
noncomputable def CD (te:TX) (th:Addr->TS):TS:=λD σ H=>te σ H (λ_ H1=>D.nx σ H1) λc _ H1=>∃ C,c=.ref C/\th C D σ H1
theorem yu (hst:X.stack=X.env::X.outer) (hf:X.env.frame=some X.env.locals) (he:PX X e te) (hh:PH X (h₀::hs) th) (hw:swapsWith e none p.line X.env=pure false):PS X (.Try [.Expr e p] (h₀::hs) [] [] pos) (CD te th):=by
 intro pins s σ H D I h
 refine wpAny_Try_except (wpAny_execs_cons (wpAny_Expr_any (wpAny_mono (he pins s σ H _ _ _ I h λH1 s1 er s' I1 hx=>?_) (λv s1 ⟨y,H1,I1,r1,q1⟩=>?_) λ_ _ z=>z) I.quiet hw))
 ·obtain ⟨ea,C,H',rfl,F,C',e',q⟩:=hx
  cases e'
  exact sd I1 hst hf F λs3 F3=>hh pins σ H1 s1 ea C H' s3 D I1 F3 q
 ·exact wpAny_execs_nil (wpAny_execs_nil ⟨σ,H1,I1,q1⟩)
end
section
variable {X:Cx}{x:Str}{Dc:Addr}{ds:List Value}{np pos:Pos}{b₀:Stmt}{suite:List Stmt}{cu:List ExceptHandler}{ts:Addr->Addr->Obj->TS}{tr:Addr->TS}
noncomputable def xp (K:PySem.W.Frag) (Dc:Addr) (ts:Addr->Addr->Obj->TS) (tr:Addr->TS):Addr->TS:=λC D σ H=>∃ ms,dN K C ms=true/\if (Value.ref C::ms).contains (.ref Dc)=true then ∀ ea oe,oe.cls=.ref C->ts C ea oe D σ H else tr C D σ H
theorem km {pins:List (Addr × Obj)}{σ:St}{H H':Hp}{s s':Shared}{ea C:Addr}{ms:List Value}{R:Result->Shared->Prop} (hg:Gl X x) (hm:X.mg x=some (.ref Dc)) (hD:dN X.K Dc ds=true) (hd:(x == ("__debug__":Str))=false)
  (I:Inv X pins σ H s) (F:bZ X.prog X.w X.stack H s ea C H' s') (hC:dN X.K C ms=true) (k:R (.ok (if (Value.ref C::ms).contains (.ref Dc)=true then .brk else .next)) s') :
  codeAny (model X.prog X.w) (X.A.mark (some (.ref ea))) (.handlers (.ref ea) [.ExceptHandler (some (.Name x np)) none [] pos] X.env) R s':=by
 have J:=I.caught F
 obtain ⟨oe,e1,e2,e3,e4,e5⟩:=F.obj I
 have J':=J.within e1 F.new.2 e3 e4 e5
 refine codeAny_handlers_test (fM (X:=X.within ea oe) J' hg hm ?_ hd)
 obtain ⟨h,g,d,t,os⟩:=s'
 exact mr (lw J.kIn hC) (lw J.kIn hD) e1 e2 k
theorem vP (hg:Gl X x) (hm:X.mg x=some (.ref Dc)) (hD:dN X.K Dc ds=true) (hd:(x == ("__debug__":Str))=false) (hs:∀ C ea oe,oe.cls=.ref C->PSs (X.within ea oe) (b₀::suite) (ts C ea oe)) (hr:PH X cu tr) :
  PH X (.ExceptHandler (some (.Name x np)) none (b₀::suite) pos::cu) (xp X.K Dc ts tr):=by
 intro pins σ H s ea C H' s' D I F ⟨ms,hC,q⟩
 refine wpAny_handleBy_cons (km hg hm hD hd I F hC ?_) (by intro q;cases q)
 split at q
 ·rename_i hb
  rw [if_pos hb]
  refine codeAny_handlers_suite (iB I F λs3 F3=>?_)
  obtain ⟨oe,e1,e2,e3,e4,e5⟩:=F3.obj I
  have J:=(I.caught F3).within e1 F3.new.2 e3 e4 e5
  exact wpAny_mono (hs C ea oe e2 pins s3 σ H' D J (q ea oe e2)) (λfl s4 h4=>SP.without I.ok h4) λ_ _ z=>z.elim
 ·rename_i hb
  rw [if_neg hb]
  exact hr pins σ H s ea C H' s' D I F q
theorem yw:PH X [] λ_ _ _ _=>False:=λ_ _ _ _ _ _ _ _ _ _ _ q=>q.elim
variable {n:Str}{i:Nat}
theorem qj {pins:List (Addr × Obj)}{σ:St}{H:Hp}{s:Shared}{M:Model}{A:Around}{E:Value->Shared->Prop}{Q:Unit->Shared->Prop} (I:Inv X pins σ H s) (hN:X.N.Nodup) (hi:X.N[i]?=some n) (hk:X.env.scope.names.lookup n=some .local)
  (k:∀ s',Inv X pins (σ.set i none) H s'->Q () s'):wpAny M A (do bindName X.env n .none;unbindBehindTheSuite X.env n pos) Q E s:=by
 obtain ⟨m,hn,hl⟩:=id I.loc
 have hcls:(X.env.scope.kind == .class || (X.env.scope.kind == .module&&X.env.locals != X.env.globals))=false:=by rw [I.ok.kind];rfl
 obtain ⟨oL,_,_,hoL,_⟩:=id hn
 refine wpAny_nameGoes_keeps hk hn hcls λh' v hn' hs=>k _ ?_
 have ne:∀ b o,X.s₀.heap.get? b=some o->b ≠ X.env.locals:=λb o e=>Nat.ne_of_lt (Nat.lt_of_lt_of_le (Heap.lt_size e) I.ok.above)
 refine ⟨I.ok,I.os,I.bare,⟨λb o e n hb hx=>(hs.2 b (ne b o e)).trans (I.base.keep b o e n hb hx),λb o e n hb hx=>?_,I.base.free,λb o e hx=>?_,I.base.tups,I.base.frzs,I.base.tbls⟩,⟨_,hn',λj y v' e1 e2 e3=>?_⟩,λy c e=>?_,I.free,I.freeC,λp hp=>?_,?_,by rw [List.length_set];exact I.len⟩
 ·obtain ⟨sl,e1⟩:=I.base.slot b o e n hb hx
  exact ⟨sl,(hs.2 b (ne b o e)).trans e1⟩
 ·obtain ⟨o',e1⟩:=I.base.there b o e hx
  exact ⟨o',(hs.2 b (ne b o e)).trans e1⟩
 ·by_cases hj:i=j
  ·subst hj
   have hiσ:i < σ.length:=by rw [I.len];exact (List.getElem?_eq_some_iff.mp hi).1
   rw [List.getElem?_set_self hiσ] at e2
   cases e2
  ·rw [List.getElem?_set_ne hj] at e2
   obtain ⟨u,r,q⟩:=hl j y v' e1 e2 e3
   refine ⟨u,r,?_⟩
   rcases q with ⟨k,e⟩|⟨k,c,e,z⟩
   ·refine .inl ⟨k,?_⟩
    show (if y=n then v else m y)=some u
    rw [if_neg λ(z:y=n)=>hj (iU hN (z.symm ▸ hi) e1)]
    exact e
   ·exact .inr ⟨k,c,e,z.sameBut hs (I.cne y c e)⟩
 ·obtain ⟨w',z⟩:=I.cell y c e
  exact ⟨w',z.sameBut hs (I.cne y c e)⟩
 ·obtain ⟨e,n,ne,nf,d⟩:=I.pin p hp
  exact ⟨(hs.2 p.1 ne).trans e,n,ne,nf,d⟩
 ·exact I.hok.but (fs:=[X.env.locals]) (λb u hb e=>(hs.2 b λz=>hb (List.mem_singleton.mpr z)).trans e) λb hb=>by rw [List.mem_singleton.mp hb];exact I.free
noncomputable def CF (i:Nat) (ts:Addr->Addr->Obj->TS):Addr->Addr->Obj->TS:=λC ea oe D σ H=>ts C ea oe { nx:=λσ' H'=>D.nx (σ'.set i none) H',rt:=λ_ _=>False } (σ.set i (some (.ref ea))) H
theorem AV (hg:Gl X x) (hm:X.mg x=some (.ref Dc)) (hD:dN X.K Dc ds=true) (hd:(x == ("__debug__":Str))=false) (hN:X.N.Nodup) (hi:X.N[i]?=some n) (hk:X.env.scope.names.lookup n=some .local) (hs:∀ C ea oe,oe.cls=.ref C->PSs (X.within ea oe) (b₀::suite) (ts C ea oe)) (hr:PH X cu tr) :
  PH X (.ExceptHandler (some (.Name x np)) (some n) (b₀::suite) pos::cu) (xp X.K Dc (CF i ts) tr):=by
 intro pins σ H s ea C H' s' D I F ⟨ms,hC,q⟩
 refine wpAny_handleBy_cons (km hg hm hD hd I F hC ?_) (by intro q;cases q)
 split at q
 ·rename_i hb
  rw [if_pos hb]
  refine codeAny_handlers_suite_as (iB I F λs3 F3=>?_)
  obtain ⟨oe,e1,e2,e3,e4,e5⟩:=F3.obj I
  have J:=(I.caught F3).within e1 F3.new.2 e3 e4 e5
  refine iV (X:=X.within ea oe) (v:=.ref ea) J hN hi (.inl hk) rfl (λs4 J4=>?_) (.inr hk)
  refine wpAny_mono (hs C ea oe e2 pins s4 _ H' _ J4 (q ea oe e2)) (λfl s5 h5=>?_) λ_ _ z=>z.elim
  cases fl with
  | next =>
   obtain ⟨σ',H2,J5,q5⟩:=h5
   exact qj (J5.without I.ok) hN hi hk λs6 J6=>⟨_,H2,J6,q5⟩
  | ret u =>
   obtain ⟨_,_,_,_,_,z⟩:=h5
   exact z.elim
  | brk =>
   obtain ⟨_,_,_,z⟩:=h5
   exact z.elim
  | cont =>
   obtain ⟨_,_,_,z⟩:=h5
   exact z.elim
 ·rename_i hb
  rw [if_neg hb]
  exact hr pins σ H s ea C H' s' D I F q
end
end L2
namespace L2
open PySem PySem.W PySem.Spec PySem.Calls PyProof.Rows Builtin.ObjectAttr Builtin.Getset_descriptor
section
variable {prog:Program}{w:World}{A:Around}{E:Value->Shared->Prop}{K:Frag}{ea C:Addr}{oe:Obj}{ms:List Value}{hh:Heap}{g:Array GenState}{d:Drawn}{t:Nat}{os:OsState}
theorem vQ {R:Result->Shared->Prop} (X:K.In hh) (L0:Looks (model prog w) hh (typeOf (.ref ea)) (.ref C)) (hm:mroIn K C (.type "object")=some true) (h:R (.ok (.ret (.ref C))) ⟨hh,g,d,t,os⟩) :
  codeAny (model prog w) A (.call (.builtin "getset_descriptor.__get__") ⟨[.builtin "object.__class__",.ref ea,.ref C],[]⟩) R ⟨hh,g,d,t,os⟩:=by
 have L1:=looks_mroIn (M:=model prog w) X hm
 refine codeAny_call_builtin KF.slot_gs.plain KF.entry_gs (KF.slot_gs.check _ _ _ _ _ _ _ _ KF.type_class (KF.args_gs _ _ _) ?_)
 unfold Builtin.«getset_descriptor.__get__» descrGet
 rw [dga_obj]
 refine wpAny_bind (wpAny_pure ?_)
 unfold descrGetter descrCheckInstance descrNameAndClass isInstance
 simp only [KF.owner_class]
 repeat lk
 refine ⟨Code.quiet_builtin _ (by decide +kernel),codeAny_builtin KF.entry_class ?_⟩
 unfold Builtin.«object.__class__» shownTypeOf
 repeat lk
 exact h
theorem qk {Q:Option Value->Shared->Prop} (X:K.In hh) (c1:oO hh C ms) (he:hh.get? ea=some oe) (hc:oe.cls=.ref C)
  (hga:findIn K (.ref C) "__getattribute__"=some (some (.builtin "BaseException.__getattribute__"))) (hgt:findIn K (.ref C) "__getattr__"=some none) (ha:findIn K (.ref C) "__class__"=some (some (.builtin "object.__class__")))
  (hn:specialIn K (.builtin "object.__class__") "__get__"=some (some (.builtin "getset_descriptor.__get__"))) (htk:takesIn K (.builtin "object.__class__")=some true) (hm:mroIn K C (.type "object")=some true)
  (h:Q (some (.ref C)) ⟨hh,g,d,t + 1,os⟩):wpAny (model prog w) A (getAttr? (.ref ea) "__class__") Q E ⟨hh,g,d,t,os⟩:=by
 have L0:Looks (model prog w) hh (typeOf (.ref ea)) (.ref C):=hc ▸ (Looks.ld he).andThen .now
 have L1:=looks_findIn (M:=model prog w) X hga
 have L2:=looks_findIn (M:=model prog w) X hgt
 have L3:=looks_findIn (M:=model prog w) X ha
 have L4:Looks (model prog w) hh (getOf (some (.builtin "object.__class__"))) (some (.builtin "getset_descriptor.__get__")):=looks_specialIn X hn
 have L5:Looks (model prog w) hh (dataDescriptor? (some (.builtin "object.__class__")) (some (.builtin "getset_descriptor.__get__"))) (some (.builtin "getset_descriptor.__get__",.builtin "object.__class__")):=(looks_takesIn X htk).andThen .now
 have hb:=PySem.F.attr_ValueError.ga.bind (.ref ea)
 obtain ⟨⟨N,nm,q,bs,hdct,sn,sub,ab,col,dd,k0,k1,k2,k3,k5,mN,hC,hN,hni⟩,TL⟩:=c1
 have hcB:(Value.ref C::ms).contains (.type "BaseException")=true:=by rw [List.contains_cons,TL.hasType PySem.F.excBase_ValueError.hasBase,Bool.or_true]
 unfold getAttr? getAttrBy? getAttrBy
 refine wpAny_bind (wpAny_mkText (wpAny_bind (wpAny_attempt (wpAny_holding (wpAny_bind (L0.at (wpAny_bind (L1.at ?_))))))))
 show wpAny _ _ (getAttrByItsOwn _ _ _ _ _ _) _ _ _
 unfold getAttrByItsOwn
 refine wpAny_bind (L2.at ?_)
 refine wpAny_bind (wpAny_attempt (wpAny_holding ?_))
 show wpAny _ _ (boundAndCalled _ _ _) _ _ _
 unfold boundAndCalled
 refine wpAny_bind (wpAny_of_eq hb ?_)
 refine wpAny_call (codeAny_call_builtin PySem.F.attr_ValueError.ga.plain F.entry_bexc_ga ?_)
 have hk:builtinKind "BaseException.__getattribute__"=some .slot:=by decide +kernel
 have hsplit:splitId "BaseException.__getattribute__"=some ("BaseException","__getattribute__"):=by decide +kernel
 have hargs:=F.args_bexc_ga (.ref ea) (.str "__class__" t)
 simp only [checkBuiltinCall,hk,hsplit]
 refine wpAny_bind ?_
 unfold isInstance
 repeat (first|(with_reducible refine wpAny_loadPart_at he ?_;rw [hc])|(with_reducible refine wpAny_isSubtype_exc hC ?_;rw [hcB])|wp_step)
 refine L3.at (wpAny_bind (L4.at (wpAny_bind (L5.at ?_))))
 refine wpAny_bind (wpAny_rule (wpAny_pure ?_))
 show wpAny _ _ (do ret (<- holding [Value.builtin "object.__class__"] (call (.builtin "getset_descriptor.__get__") [.builtin "object.__class__",.ref ea,.ref C]))) _ _ _
 refine wpAny_bind (wpAny_holding (wpAny_call (vQ X L0 hm ?_)))
 show wpAny _ _ (ret (Value.ref C)) _ _ _
 refine wpAny_pure ?_
 show wpAny _ _ (handedOut (Value.ref C)) _ _ _
 exact handed_on rfl (wpAny_pure h)
end
noncomputable def jm (K:Frag) (C:Addr):Bool:=findIn K (.ref C) "__getattribute__" == some (some (.builtin "BaseException.__getattribute__"))&&findIn K (.ref C) "__getattr__" == some none&&findIn K (.ref C) "__class__" == some (some (.builtin "object.__class__"))
&&specialIn K (.builtin "object.__class__") "__get__" == some (some (.builtin "getset_descriptor.__get__"))&&takesIn K (.builtin "object.__class__") == some true&&mroIn K C (.type "object") == some true
section
variable {K:Frag}{ea C:Addr}{oe:Obj}{ms:List Value}
theorem oQ {h:Heap} (X:K.In h) (e:dN K C ms=true):∃ c d cd sl,h.get? C=some ⟨c,d,.cls cd,sl⟩:=by
 unfold dN at e
 split at e
 ·rename_i dd cd sl ho
  exact ⟨_,_,_,_,X _ _ ho⟩
 ·cases e
theorem se (e:dN K C ms=true) (q:jm K C=true) (hc:oe.cls=.ref C):KitX K (.ref ea) (.ref C) (λh=>h.get? ea=some oe) where
 ty:=λ_ _ _ he=>hc ▸ (Looks.ld he).andThen .now
 it:=λM h X _=>by
  obtain ⟨c,d,cd,sl,ho⟩:=oQ X e
  intro A' Q' E' s' k q
  unfold isType loadHead
  exact wpAny_bind (wpAny_loadPart (k _ _ ho) (wpAny_pure q))
 ne:=λh tp dd its n sl X htp=>by
  obtain ⟨c,d,cd,sl',ho⟩:=oQ X e
  refine Bool.eq_false_iff.mpr λz=>?_
  obtain rfl:C=tp:=Value.ref.inj (beq_iff_eq.mp z)
  have:=ho.symm.trans htp
  cases this
 ca:=λ{prog w A E Q s} X he k=>by
  obtain ⟨hh,g,d,t,os⟩:=s
  unfold jm at q
  simp only [Bool.and_eq_true,beq_iff_eq] at q
  exact qk X (lw X e) he hc q.1.1.1.1.1 q.1.1.1.1.2 q.1.1.1.2 q.1.1.2 q.1.2 q.2 k
end
section
variable {X:Cx}{ea C:Addr}{oe:Obj}{ms:List Value}
theorem nK (hC:dN X.K C ms=true) (hG:jm X.K C=true) (hc:oe.cls=.ref C):cD (X.within ea oe) (.builtin "isinstance") (λus H Q=>∃ y c b,us=[.ref ea,y]/\(∀ u,aw y u->u=c)/\kitOne X.K (.ref C) c=some b/\Q (.bl b) H):=by
 intro pins s σ H xs us Q I r h
 obtain ⟨y,c,b,rfl,hy,e,q⟩:=h
 cases r with
 | cons r1 r2 =>
  cases r2 with
  | cons r3 r4 =>
   cases r4
   cases (show _=Value.ref ea from r1)
   cases hy _ r3
   have he:s.heap.get? ea=some oe:=(I.pin (ea,oe) (.head _)).1
   exact kia_one (se hC hG hc) I.kIn he e (λz=>nomatch z) λtk=>⟨.bl b,H,I.tok tk,rfl,q⟩
end
end L2
namespace L2
open PySem PySem.Spec PyProof.Rows
section
variable {X:Cx}{k:Nat}{f C:Addr}{fd:FuncData}{ps:List Str}{sp:Sp}{m:Str}{pos apos:Pos}{e o:Expr}{es:List Expr}{ta:TE}{t:TA}
noncomputable def nL (C:Addr) (m:Str) (sp:Sp) (ta:TE) (t:TA):TX:=λσ H Q E=>ta σ H λx H1=>∃ a dx fs,x=.ref a/\H1 a=some (.ins C dx fs)/\fs.lookup m=none/\t σ H1 λvs H2=>sp (x::vs) H2 Q E
theorem vR {pl:Sem Bool} (he:PE X.nox o ta) (c:Cls X.K C) (hm:jP X.K C m f) (F:cf X.prog X.w X.K X.mg X.base (CXE X.prog X.w) k f fd ps sp) (hr:cX k X.A) (hb:aN X.K fd ps []) (ha:PA X.nox (e::es) t)
  (hst:starEach (e::es) X.env=(false,eval e X.env)::starEach es X.env) (hpl:(backTo pos (starEach es X.env)).any (·.1)=false)
  (ht:eval (.Call (.Attribute o m apos) (e::es) [] pos) X.env=(do
   let ov <- eval o X.env
   standAt apos.atName
   let (f,first) <- holding [ov] (getMethod ov m pl)
   callWith pos f first (backTo pos (starEach (e::es) X.env)) (backToKw pos (keywordEach [] X.env)))):PX X (.Call (.Attribute o m apos) (e::es) [] pos) (nL C m sp ta t):=by
 intro pins s σ H Q E Ex I h hx
 refine PySem.W.methodCall_KW (pl:=pl) (wpAny_mono (he pins s σ H _ (I.wish _) h) (λu s1 ⟨x,H1,I1,rx,a,dx,fs,ex,ea,l,q⟩=>?_) λ_ _ z=>z.elim) ht
 subst ex
 obtain rfl:u=Value.ref a:=rx
 have J:Inv X pins σ H1 s1:=I1.unwish
 refine eQ J ea c hm l ?_
 refine PySem.W.callWith_K (first:=[.ref a]) (h₀:=X.base) J.ok.mod.kin hm.kp (wpAny_mono (ha pos pins s1 σ H1 _ (J.wish _) q) (λus s2 ⟨vs,H2,I2,r,q2⟩=>?_) λ_ _ z=>z.elim) hst hpl
 have J2:Inv X pins σ H2 s2:=I2.unwish
 exact ⟨J2.kIn,oP (us:=.ref a::us) (vs:=.ref a::vs) F hr hb J2 (.cons rfl r) q2 hx⟩
theorem sf {pl:Sem Bool} (he:PE X.nox o ta) (c:Cls X.K C) (hm:jP X.K C m f) (F:cf X.prog X.w X.K X.mg X.base (CXE X.prog X.w) k f fd ps sp) (hr:cX k X.A) (hb:aN X.K fd ps [])
  (ht:eval (.Call (.Attribute o m apos) [] [] pos) X.env=(do
   let ov <- eval o X.env
   standAt apos.atName
   let (f,first) <- holding [ov] (getMethod ov m pl)
   callWith pos f first (backTo pos (starEach [] X.env)) (backToKw pos (keywordEach [] X.env)))):PX X (.Call (.Attribute o m apos) [] [] pos) (nL C m sp ta l4):=by
 intro pins s σ H Q E Ex I h hx
 refine PySem.W.methodCall_KW (pl:=pl) (wpAny_mono (he pins s σ H _ (I.wish _) h) (λu s1 ⟨x,H1,I1,rx,a,dx,fs,ex,ea,l,q⟩=>?_) λ_ _ z=>z.elim) ht
 subst ex
 obtain rfl:u=Value.ref a:=rx
 have J:Inv X pins σ H1 s1:=I1.unwish
 refine eQ J ea c hm l ?_
 exact PySem.W.callWith_K0 (first:=[.ref a]) J.kIn hm.kp (oP (us:=[.ref a]) (vs:=[.ref a]) F hr hb J (.cons rfl .nil) q hx)
theorem vS {e:Expr}{t:TE} (h:PE X.nox e t):PX X e λσ H Q _=>t σ H Q:=λpins s σ H Q E Ex I q hx =>
 wpAny_mono (h pins s σ H Q (I.wish _) q) (λv s1 z=>z.imp λx ⟨H1,I1,r,q⟩=>⟨H1,I1.unwish,r,q⟩) λ_ _ z=>z.elim
end
end L2
namespace MM
open PySem
inductive Sc where
 | non|bl (b:Bool)|int (i:Int)|str (x:Str)
 deriving Inhabited,DecidableEq
inductive DD where
 | k (kvs:List (Int × Sc))|t (kvs:List (List Int × Sc))
 deriving Inhabited
inductive PV where
 | non|bl (b:Bool)|int (i:Int)|str (x:Str)|tup (xs:List PV)|lst (xs:List PV)|dI (d:DD)
 deriving Inhabited
noncomputable def Sc.pv:Sc->PV
 | .non=>.non
 | .bl b=>.bl b
 | .int i=>.int i
 | .str x=>.str x
noncomputable def sc?:PV->Option Sc
 | .non=>some .non
 | .bl b=>some (.bl b)
 | .int i=>some (.int i)
 | .str x=>some (.str x)
 | _=>none
noncomputable def dh {α:Type} [DecidableEq α] (kvs:List (α × Sc)) (k:α):Option Sc:=(kvs.find? λp=>decide (p.1=k)).map (·.2)
noncomputable def cG {α:Type} [DecidableEq α] (kvs:List (α × Sc)) (k:α) (v:Sc):List (α × Sc) :=
 if (kvs.any λp=>decide (p.1=k))=true then kvs.map (λp=>if p.1=k then (p.1,v) else p) else kvs ++ [(k,v)]
noncomputable def eqL (f:PV->PV->Option Bool):List PV->List PV->Option Bool
 | [],[]=>some true
 | x::xs,y::ys=>(f x y).bind λp=>(eqL f xs ys).map λq=>p&&q
 | _,_=>some false
noncomputable def eqF:Nat->PV->PV->Option Bool
 | _,.non,.non=>some true
 | _,.bl a,.bl b=>some (a == b)
 | _,.bl a,.int b=>some ((if a then 1 else 0) == b)
 | _,.int a,.bl b=>some (a == (if b then 1 else 0))
 | _,.int a,.int b=>some (a == b)
 | _,.str a,.str b=>some (a == b)
 | 0,.tup _,.tup _=>none
 | 0,.lst _,.lst _=>none
 | _,.dI _,_=>none
 | _,_,.dI _=>none
 | n + 1,.tup a,.tup b=>eqL (eqF n) a b
 | n + 1,.lst a,.lst b=>if a.length=b.length then eqL (eqF n) a b else some false
 | _,_,_=>some false
noncomputable def nM:PV->PV->Bool
 | .tup _,.tup _=>true
 | .lst _,.lst _=>true
 | .tup _,_=>false
 | _,.tup _=>false
 | .lst _,_=>false
 | _,.lst _=>false
 | .bl _,.int _=>false
 | .int _,.bl _=>false
 | .dI _,_=>false
 | _,.dI _=>false
 | _,_=>true
noncomputable def inL (f:PV->Option Bool):List PV->Option Bool
 | []=>some false
 | y::ys=>(f y).bind λp=>(inL f ys).map λq=>p || q
inductive MV where
 | val (v:PV)|own (xs:List PV)|brw (xs:List PV)|ownD (d:DD)|brwD (d:DD)
 | ownO (m:Bool) (fs xs:List PV)|brwO (fs xs:List PV)
 deriving Inhabited
noncomputable abbrev Rho:=List (Option MV)
inductive Op2 where
 | add|sub|mul|fdiv|mod|pow|shr
 deriving DecidableEq
inductive Cp where
 | eq|ne|lt|le|gt|ge|isN|notN|isIn|notIn
 deriving DecidableEq
inductive Blt where
 | len|tupleOf|listOf|sorted|any|all|sum|max1|min1|max2|min2|intOf|boolOf|isInt|isBool|isStr|isList|isTuple
 | sortedSet|lenSet|lenSetSub|sortedKeys|valuesOf|tupleRev
 deriving DecidableEq
inductive Sk where
 | seq|rng|enm|rev
 deriving DecidableEq
set_option genInjectivity false in
inductive ME where
 | var (i:Nat)
 | bor (i:Nat)
 | cst (v:PV)
 | glob (x:Str) (v:PV)
 | bin (op:Op2) (a b:ME)
 | neg (a:ME)
 | not (a:ME)
 | and (a b:ME)
 | or (a b:ME)
 | ite (c a b:ME)
 | cmp (op:Cp) (a b:ME)
 | chain (op op':Cp) (a b c:ME)
 | tup (es:List ME)
 | lst (es:List ME)
 | idx (a i:ME)
 | slice (a lo hi:ME)
 | blt (b:Blt) (es:List ME)
 | call (f:Nat) (es:List ME)
 | callD (f:Nat) (es:List ME) (d:List Sc)
 | comp (k:Sk) (src:List ME) (js:List Nat) (cond elt:ME)
 | dget (a k d:ME)
 | dat (a k:ME)
 | dIn (neg:Bool) (k a:ME)
 | fld (i n:Nat)
 | fldL (i:Nat)
 | inO (neg:Bool) (e:ME) (i:Nat)
 | lenO (i:Nat)
 | callM (f i:Nat) (es:List ME)
 | comp2 (src:List ME) (js:List Nat) (cond elt:ME)
 | callV (f:Nat) (es:List ME)
 deriving Inhabited
noncomputable def bc:List PV->Option (List Int)
 | []=>some []
 | .int i::r=>(bc r).map (i::·)
 | _=>none
noncomputable def eI:List PV->Option (List (List Int))
 | []=>some []
 | .tup xs::r=>(bc xs).bind λx=>(eI r).map (x::·)
 | _=>none
noncomputable def cb:List PV->Option (List Bool)
 | []=>some []
 | .bl i::r=>(cb r).map (i::·)
 | _=>none
noncomputable def ql:PV->PV->Option (Option Sc)
 | .dI (.k kvs),.int i=>some (dh kvs i)
 | .dI (.t kvs),.tup xs=>(bc xs).map (dh kvs)
 | _,_=>none
noncomputable def sg:DD->PV->Sc->Option DD
 | .k kvs,.int i,s=>if kvs.length < 10000 then some (.k (cG kvs i s)) else none
 | .t kvs,.tup xs,s=>(bc xs).bind λk=>if kvs.length < 10000 then some (.t (cG kvs k s)) else none
 | _,_,_=>none
noncomputable def dSc:DD->List Sc
 | .k kvs=>kvs.map (·.2)
 | .t kvs=>kvs.map (·.2)
noncomputable def oR (d:DD):List PV:=(dSc d).map Sc.pv
noncomputable def lexLt:List Int->List Int->Bool
 | [],[]=>false
 | [],_::_=>true
 | _::_,[]=>false
 | x::xs,y::ys=>if x=y then lexLt xs ys else decide (x < y)
noncomputable def sh (x:Int):List Int->List Int
 | []=>[x]
 | y::r=>if y < x then y::sh x r else x::y::r
noncomputable def sortI:List Int->List Int
 | []=>[]
 | x::r=>sh x (sortI r)
noncomputable def si (x:List Int):List (List Int)->List (List Int)
 | []=>[x]
 | y::r=>if lexLt y x=true then y::si x r else x::y::r
noncomputable def sortT:List (List Int)->List (List Int)
 | []=>[]
 | x::r=>si x (sortT r)
noncomputable def dd:List Int->List Int
 | []=>[]
 | x::r=>if x ∈ dd r then dd r else x::dd r
noncomputable def gv {α:Type} (f:Int->Int->Option α):PV->PV->Option α
 | .int i,.int j=>f i j
 | _,_=>none
noncomputable def xq:PV->PV->Option PV
 | .int i,.int j=>some (.int (i + j))
 | .lst a,.lst b=>if a.length + b.length <= 10000 then some (.lst (a ++ b)) else none
 | .tup a,.tup b=>if a.length + b.length <= 10000 then some (.tup (a ++ b)) else none
 | .str a,.str b=>if a.length + b.length <= 1000000 then some (.str (a ++ b)) else none
 | _,_=>none
noncomputable def gw (op:Op2):PV->PV->Option PV:=match op with
 | .add=>xq
 | .sub=>gv λi j=>some (.int (i - j))
 | .mul=>gv λi j=>if (-(2 ^ 64) < i/\i < 2 ^ 64) \/ (-(2 ^ 64) < j/\j < 2 ^ 64) then some (.int (i * j)) else none
 | .fdiv=>gv λi j=>if 0 < j/\j < 1073741824 then some (.int (i / j)) else none
 | .mod=>gv λi j=>if 0 < j then some (.int (i % j)) else none
 | .pow=>gv λi j=>if 0 <= j/\j <= 1000000/\i.natAbs < 2 ^ 64 then some (.int (i ^ j.toNat)) else none
 | .shr=>gv λi j=>if 0 <= j then some (.int (i / 2 ^ j.toNat)) else none
noncomputable def di:PV->Bool
 | .non=>true
 | _=>false
noncomputable def isIn (x:PV) (xs:List PV):Option Bool:=inL (λy=>eqF 100 y x) xs
noncomputable def AW (a b:PV):Option Bool:=match b with
 | .non=>some (di a)
 | .bl q=>(match a with|.bl p=>some (p == q)|_=>none)
 | _=>none
noncomputable def br:PV->Option (List PV)
 | .tup xs=>some xs
 | .lst xs=>some xs
 | _=>none
noncomputable def gx:PV->Option (List PV)
 | .lst xs=>some xs
 | _=>none
noncomputable def bX (op:Cp):PV->PV->Option Bool:=match op with
 | .eq=>eqF 100
 | .ne=>λa b=>if nM a b=true then (eqF 100 a b).map λp=>!p else none
 | .lt=>gv λi j=>some (decide (i < j))
 | .le=>gv λi j=>some (decide (i <= j))
 | .gt=>gv λi j=>some (decide (j < i))
 | .ge=>gv λi j=>some (decide (j <= i))
 | .isN=>AW
 | .notN=>λa b=>(AW a b).map λp=>!p
 | .isIn=>λa b=>(br b).bind (isIn a)
 | .notIn=>λa b=>((br b).bind (isIn a)).map λp=>!p
noncomputable def fC (n:Nat) (i:Int):Option Nat :=
 if 0 <= i then (if i < n then some i.toNat else none) else if -(n:Int) <= i then some (i + n).toNat else none
noncomputable def ko:PV->PV->Option PV
 | .tup xs,.int i=>(fC xs.length i).bind λj=>xs[j]?
 | .lst xs,.int i=>(fC xs.length i).bind λj=>xs[j]?
 | _,_=>none
noncomputable def fZ (n d:Nat):Option Int->Nat
 | none=>d
 | some i=>if i < 0 then (i + n).toNat else min i.toNat n
noncomputable def cut (xs:List PV) (lo hi:Option Int):List PV:=(xs.drop (fZ xs.length 0 lo)).take (fZ xs.length xs.length hi - fZ xs.length 0 lo)
noncomputable def iN:PV->Option Int->Option Int->Option PV
 | .lst xs,lo,hi=>some (.lst (cut xs lo hi))
 | .tup xs,lo,hi=>some (.tup (cut xs lo hi))
 | _,_,_=>none
noncomputable def bnd:ME->PV->Option (Option Int)
 | .cst .non,_=>some none
 | _,.int i=>some (some i)
 | _,_=>none
noncomputable def AX:List Int->Option Int
 | []=>none
 | x::r=>some (r.foldl (λa b=>if a < b then b else a) x)
noncomputable def eT (xs:List PV):Option PV :=
 if xs.length < 64 then
  match bc xs with
  | some ns=>some (.lst ((sortI ns).map .int))
  | none=>(eI xs).map λts=>.lst ((sortT ts).map λt=>.tup (t.map .int))
 else none
noncomputable def isT (b:Blt):PV->Bool
 | .int _=>b == .isInt
 | .bl _=>b == .isInt || b == .isBool
 | .str _=>b == .isStr
 | .lst _=>b == .isList
 | .tup _=>b == .isTuple
 | .non=>false
 | .dI _=>false
noncomputable def isD:PV->Bool
 | .dI _=>true
 | _=>false
noncomputable def cv (vs:List PV) (f:PV->Option PV):Option PV:=match vs with
 | [a]=>f a
 | _=>none
noncomputable def ic (vs:List PV) (f:PV->PV->Option PV):Option PV:=match vs with
 | [a,b]=>f a b
 | _=>none
noncomputable def gc (b:Blt) (vs:List PV):Option PV:=cv vs λa=>if isD a=true then none else some (.bl (isT b a))
noncomputable def xr:PV->Option PV
 | .tup xs=>some (.int xs.length)
 | .lst xs=>some (.int xs.length)
 | .dI (.k kvs)=>some (.int kvs.length)
 | _=>none
noncomputable def aF (b:Blt) (vs:List PV):Option PV:=match b with
 | .len=>cv vs xr
 | .tupleOf=>cv vs λa=>(br a).map .tup
 | .listOf=>cv vs λa=>(br a).map .lst
 | .sorted=>cv vs λa=>(br a).bind eT
 | .any=>cv vs λa=>(gx a).bind λxs=>(cb xs).map λbs=>.bl (bs.any id)
 | .all=>cv vs λa=>(gx a).bind λxs=>(cb xs).map λbs=>.bl (bs.all id)
 | .sum=>cv vs λa=>(gx a).bind λxs=>(bc xs).map λns=>.int ns.sum
 | .max1=>cv vs λa=>(gx a).bind λxs=>(bc xs).bind λns=>(AX ns).map .int
 | .min1=>none
 | .max2=>ic vs (gv λi j=>some (.int (if j > i then j else i)))
 | .min2=>ic vs (gv λi j=>some (.int (if j < i then j else i)))
 | .intOf=>cv vs λa=>match a with|.int i=>some (.int i)|.bl b=>some (.int (if b then 1 else 0))|_=>none
 | .boolOf=>cv vs λa=>match a with|.bl b=>some (.bl b)|_=>none
 | .isInt=>gc .isInt vs
 | .isBool=>gc .isBool vs
 | .isStr=>gc .isStr vs
 | .isList=>gc .isList vs
 | .isTuple=>gc .isTuple vs
 | .sortedSet=>cv vs λa=>(br a).bind λxs=>(bc xs).bind λns=>if ns.length <= 1000/\(dd ns).length < 64 then some (.lst ((sortI (dd ns)).map .int)) else none
 | .lenSet=>cv vs λa=>(br a).bind λxs=>(bc xs).bind λns=>if ns.length <= 1000 then some (.int (dd ns).length) else none
 | .lenSetSub=>ic vs λa b=>(br a).bind λxs=>(bc xs).bind λns=>(br b).bind λys=>(bc ys).bind λms =>
   if ns.length <= 1000/\ms.length <= 1000/\(dd ns).length <= 60 then some (.int ((dd ns).filter λn=>!decide (n ∈ ms)).length) else none
 | .sortedKeys=>cv vs λa=>match a with|.dI (.k kvs)=>if kvs.length < 64 then some (.lst ((sortI (kvs.map (·.1))).map .int)) else none|_=>none
 | .tupleRev=>cv vs λa=>(gx a).map λxs=>.tup xs.reverse
 | .valuesOf=>cv vs λa=>match a with|.dI d=>if (oR d).length <= 10000 then some (.lst (oR d)) else none|_=>none
noncomputable def b6 (n:Nat):List PV->List PV
 | []=>[]
 | x::r=>.tup [.int (n:Nat),x]::b6 (n + 1) r
noncomputable def cw:Sk->List PV->Option (List PV)
 | .seq,[a]=>br a
 | .rng,[.int j]=>if -(2 ^ 62) <= j/\j < 2 ^ 62 then some ((List.range j.toNat).map λ(k:Nat)=>.int ((0:Int) + k)) else none
 | .rng,[.int i,.int j]=>if -(2 ^ 62) <= i/\i < 2 ^ 62/\-(2 ^ 62) <= j/\j < 2 ^ 62 then some ((List.range (j - i).toNat).map λ(k:Nat)=>.int (i + k)) else none
 | .enm,[a]=>(br a).map (b6 0)
 | .rev,[.lst xs]=>some xs.reverse
 | _,_=>none
noncomputable def dO (c:PV->Option Bool) (f:PV->Option PV):List PV->Option (List PV)
 | []=>some []
 | x::r=>(c x).bind λb=>if b=true then (f x).bind λy=>(dO c f r).map (y::·) else dO c f r
noncomputable def aH:PV->Option Bool
 | .bl b=>some b
 | _=>none
noncomputable abbrev Cal:=Nat->List MV->Option PV
noncomputable def sj:Option MV->Option PV
 | some (.val v)=>some v
 | _=>none
noncomputable def a9:Option MV->Option PV
 | some (.val v)=>some v
 | some (.own xs)=>some (.lst xs)
 | some (.brw xs)=>some (.lst xs)
 | some (.ownD kvs)=>some (.dI kvs)
 | some (.brwD kvs)=>some (.dI kvs)
 | some (.ownO _ _ _)=>none
 | some (.brwO _ _)=>none
 | none=>none
noncomputable def bu:Option MV->Option MV
 | some (.val v)=>some (.val v)
 | some (.own xs)=>some (.brw xs)
 | some (.brw xs)=>some (.brw xs)
 | some (.ownD xs)=>some (.brwD xs)
 | some (.brwD xs)=>some (.brwD xs)
 | some (.ownO _ fs xs)=>some (.brwO fs xs)
 | some (.brwO fs xs)=>some (.brwO fs xs)
 | none=>none
noncomputable def cY:Option MV->Option MV
 | some (.own xs)=>some (.brw xs)
 | some (.ownD xs)=>some (.brwD xs)
 | some (.ownO _ fs xs)=>some (.brwO fs xs)
 | o=>o
noncomputable def cA (js:List Nat) (ρ:Rho) (x:PV):Rho:=some (.val x)::js.map λj=>cY (ρ[j]?).join
noncomputable def dk:Option MV->Option (List PV × List PV)
 | some (.ownO _ fs xs)=>some (fs,xs)
 | some (.brwO fs xs)=>some (fs,xs)
 | _=>none
noncomputable def kz:Option MV->Option PV
 | some (.brwO _ xs)=>some (.lst xs)
 | _=>none
noncomputable def unB:MV->MV
 | .brw xs=>.val (.lst xs)
 | m=>m
noncomputable def AY (js:List Nat) (ρ:Rho):PV->Rho
 | .tup [a,b]=>some (.val a)::some (.val b)::js.map λj=>cY (ρ[j]?).join
 | _=>[]
noncomputable def xt:Option MV->Option PV
 | some (.ownO _ _ xs)=>some (.lst xs)
 | some (.brwO _ xs)=>some (.lst xs)
 | _=>none
mutual
noncomputable def ev (cal:Cal):ME->Rho->Option PV
 | .var i,ρ=>sj (ρ[i]?).join
 | .bor i,ρ=>a9 (ρ[i]?).join
 | .cst v,_=>some v
 | .glob _ v,_=>some v
 | .bin op a b,ρ=>(ev cal a ρ).bind λx=>(ev cal b ρ).bind λy=>gw op x y
 | .neg a,ρ=>(ev cal a ρ).bind λx=>match x with|.int i=>some (.int (-i))|_=>none
 | .not a,ρ=>((ev cal a ρ).bind aH).map λb=>.bl (!b)
 | .and a b,ρ=>((ev cal a ρ).bind aH).bind λc=>if c=true then (ev cal b ρ).bind λy=>(aH y).map .bl else some (.bl false)
 | .or a b,ρ=>((ev cal a ρ).bind aH).bind λc=>if c=true then some (.bl true) else (ev cal b ρ).bind λy=>(aH y).map .bl
 | .ite c a b,ρ=>((ev cal c ρ).bind aH).bind λk=>if k=true then ev cal a ρ else ev cal b ρ
 | .cmp op a b,ρ=>(ev cal a ρ).bind λx=>(ev cal b ρ).bind λy=>(bX op x y).map .bl
 | .chain op op' a b c,ρ=>(ev cal a ρ).bind λx=>(ev cal b ρ).bind λy=>(bX op x y).bind λk=>if k=true then (ev cal c ρ).bind λz=>(bX op' y z).map .bl else some (.bl false)
 | .tup es,ρ=>(evs cal es ρ).bind λvs=>if vs.length <= 10000 then some (.tup vs) else none
 | .lst es,ρ=>(evs cal es ρ).bind λvs=>if vs.length <= 10000 then some (.lst vs) else none
 | .idx a i,ρ=>(ev cal a ρ).bind λx=>(ev cal i ρ).bind λy=>ko x y
 | .slice a lo hi,ρ=>(ev cal a ρ).bind λx=>((ev cal lo ρ).bind λl=>bnd lo l).bind λl=>((ev cal hi ρ).bind λh=>bnd hi h).bind λh=>iN x l h
 | .blt b es,ρ=>(evs cal es ρ).bind λvs=>aF b vs
 | .call f es,ρ=>(evA cal es ρ).bind λvs=>cal f vs
 | .callD f es d,ρ=>(evA cal es ρ).bind λvs=>cal f (vs ++ d.map λx=>.val x.pv)
 | .comp k src js cond elt,ρ=>(evs cal src ρ).bind λvs=>(cw k vs).bind λxs =>
   if xs.length <= 10000 then (dO (λx=>(ev cal cond (cA js ρ x)).bind aH) (λx=>ev cal elt (cA js ρ x)) xs).map .lst else none
 | .dget a k d,ρ=>(ev cal a ρ).bind λx=>(ev cal k ρ).bind λy=>(ev cal d ρ).bind λz=>(ql x y).bind λo=>(sc? z).map λs=>(o.getD s).pv
 | .dat a k,ρ=>(ev cal a ρ).bind λx=>(ev cal k ρ).bind λy=>(ql x y).bind λo=>o.map Sc.pv
 | .dIn neg k a,ρ=>(ev cal k ρ).bind λy=>(ev cal a ρ).bind λx=>(ql x y).map λo=>.bl (if neg=true then !o.isSome else o.isSome)
 | .fld i n,ρ=>(dk (ρ[i]?).join).bind λo=>o.1[n]?
 | .fldL i,ρ=>kz (ρ[i]?).join
 | .lenO i,ρ=>(dk (ρ[i]?).join).map λo=>.int o.2.length
 | .inO neg e i,ρ=>(ev cal e ρ).bind λy=>(xt (ρ[i]?).join).bind λx=>(bX (if neg=true then .notIn else .isIn) y x).map .bl
 | .callM f i es,ρ=>(dk (ρ[i]?).join).bind λo=>(evA cal es ρ).bind λvs=>cal f (.brwO o.1 o.2::vs)
 | .callV f es,ρ=>(evA cal es ρ).bind λvs=>(cal f (vs.map unB)).bind λr=>(sc? r).map λ_=>r
 | .comp2 src js cond elt,ρ=>(evs cal src ρ).bind λvs=>(cw .enm vs).bind λxs =>
   if xs.length <= 10000 then (dO (λx=>(ev cal cond (AY js ρ x)).bind aH) (λx=>ev cal elt (AY js ρ x)) xs).map .lst else none
noncomputable def evs (cal:Cal):List ME->Rho->Option (List PV)
 | [],_=>some []
 | e::es,ρ=>(ev cal e ρ).bind λv=>(evs cal es ρ).map (v::·)
noncomputable def evA (cal:Cal):List ME->Rho->Option (List MV)
 | [],_=>some []
 | .bor i::es,ρ=>(bu (ρ[i]?).join).bind λv=>(evA cal es ρ).map (v::·)
 | .fldL _::_,_=>none
 | e::es,ρ=>(ev cal e ρ).bind λv=>(evA cal es ρ).map (MV.val v::·)
end
noncomputable def evB (cal:Cal) (e:ME) (ρ:Rho):Option Bool:=(ev cal e ρ).bind aH
set_option genInjectivity false in
inductive HA where
 | cst (v:PV)
 | isi (c:Str)
 | inc (i:Nat) (m:Int)
 | orI (a b:HA)
 deriving Inhabited
inductive HE where
 | one (a:HA)
 | lst (as:List HA)
 deriving Inhabited
structure HH where
 cls:Str
 e:Option Nat
 i:Nat
 v:HE
 deriving Inhabited
noncomputable def fW (c d:Str):Bool:=d == c || d == ("LoomError":Str)
noncomputable def HA.val (c:Str) (ρ:Rho):HA->Option Sc
 | .cst v=>sc? v
 | .isi d=>some (.bl (d == ("ValueError":Str) || fW c d))
 | .inc i m=>match (ρ[i]?).join with
  | some (.val (.int n))=>some (.int (n + m))
  | _=>none
 | .orI a b=>match a.val c ρ,b.val c ρ with
  | some (.bl p),some (.bl q)=>some (.bl (p || q))
  | _,_=>none
noncomputable def HA.vals (c:Str) (ρ:Rho):List HA->Option (List Sc)
 | []=>some []
 | a::as=>(a.val c ρ).bind λs=>(HA.vals c ρ as).map (s::·)
noncomputable def HE.val (c:Str) (ρ:Rho):HE->Option PV
 | .one a=>(a.val c ρ).map Sc.pv
 | .lst as=>if as.length <= 100 then (HA.vals c ρ as).map λss=>.lst (ss.map Sc.pv) else none
noncomputable def HH.free (ρ:Rho) (h:HH):Bool:=match h.e with
 | none=>true
 | some k=>(ρ[k]?).join.isNone
structure MX where
 meth:Bool
 f:Nat
 i:Nat
 es:List ME
 deriving Inhabited
inductive MC where
 | ne (x:MX) (e:ME)
 | no (x:MX)
 | or (x:MX) (e:ME) (y:MX) (e':ME)
 deriving Inhabited
inductive MS where
 | set (i:Nat) (e:ME)
 | setOwn (i:Nat) (e:ME)
 | freeze (i:Nat)
 | append (i:Nat) (e:ME)
 | extend (i:Nat) (e:ME)
 | mkO (i:Nat) (es:List ME)
 | appO (i:Nat) (e:ME)
 | retT (e:ME)
 | takeO (j:Option Nat) (i f:Nat) (es:List ME)
 | raise (c:Str)
 | tryC (j:Option Nat) (f:Nat) (es:List ME) (hs:List HH)
 | iteX (c:MC) (a b:List MS)
 | retX (x:MX)
 | retPop (i:Nat)
 | tryO (i f:Nat) (es:List ME) (hs:List HH)
 | iteB (i j f:Nat) (a:List MS)
 | retAP (w x:ME) (i:Nat)
 | setIdx (i:Nat) (k v:ME)
 | unpack (is:List Nat) (e:ME)
 | expr (e:ME)
 | ite (c:ME) (a b:List MS)
 | for1 (i:Nat) (k:Sk) (src:List ME) (body:List MS)
 | forT (is:List Nat) (k:Sk) (src:List ME) (body:List MS)
 | while (n:Nat) (c:ME) (body:List MS)
 | ret (e:ME)
 | retOwn (i:Nat)
 | retN
 | brk
 | cont
 | pass
 | never
 | newD (m:Bool) (i:Nat)
 | retF (e:ME)
 | setCall (i f:Nat) (es:List ME)
 | clear (i:Nat)
 | dput (i:Nat) (k v:ME)
 deriving Inhabited
inductive R where
 | next (ρ:Rho)|brk (ρ:Rho)|cont (ρ:Rho)|ret (v:PV)|bad
 | retF (xs:List PV)
 | retT (v:Sc) (ρ:Rho)
 deriving Inhabited
noncomputable def R.andThen:R->(Rho->R)->R
 | .next ρ,k=>k ρ
 | r,_=>r
noncomputable def put (ρ:Rho) (i:Nat) (v:MV):Rho:=ρ.set i (some v)
noncomputable def c9 (o:Option PV) (k:PV->R):R:=match o with
 | some v=>k v
 | none=>.bad
noncomputable def sk (o:Option Bool) (k:Bool->R):R:=match o with
 | some v=>k v
 | none=>.bad
noncomputable def jV:List Nat->List PV->Rho->Option Rho
 | [],[],ρ=>some ρ
 | i::is,v::vs,ρ=>jV is vs (put ρ i (.val v))
 | _,_,_=>none
noncomputable def jn (is:List Nat):PV->Rho->Option Rho
 | .tup vs,ρ=>jV is vs ρ
 | _,_=>none
noncomputable def fD (o:Option Rho) (f:Rho->R):R:=match o with
 | some ρ=>f ρ
 | none=>.bad
noncomputable def bU (body:PV->Rho->R):List PV->Rho->R
 | [],ρ=>.next ρ
 | x::r,ρ=>match body x ρ with
  | .next ρ'=>bU body r ρ'
  | .cont ρ'=>bU body r ρ'
  | .brk ρ'=>.next ρ'
  | .ret v=>.ret v
  | .bad=>.bad
  | .retF xs=>.retF xs
  | .retT v ρ'=>.retT v ρ'
noncomputable def lx (c:Rho->Option Bool) (body:Rho->R):Nat->Rho->R
 | 0,_=>.bad
 | n + 1,ρ=>match c ρ with
  | none=>.bad
  | some false=>.next ρ
  | some true=>match body ρ with
   | .next ρ'=>lx c body n ρ'
   | .cont ρ'=>lx c body n ρ'
   | .brk ρ'=>.next ρ'
   | .ret v=>.ret v
   | .bad=>.bad
   | .retF xs=>.retF xs
   | .retT v ρ'=>.retT v ρ'
noncomputable def bv (src:List ME) (ρ:Rho):Rho:=match src with
 | [.bor i]=>(match (ρ[i]?).join with|some (.own xs)=>put ρ i (.brw xs)|_=>ρ)
 | _=>ρ
noncomputable def bh (src:List ME) (ρ₀ ρ:Rho):Rho:=match src with
 | [.bor i]=>(match (ρ₀[i]?).join,(ρ[i]?).join with|some (.own _),some (.brw xs)=>put ρ i (.own xs)|_,_=>ρ)
 | _=>ρ
noncomputable def R.back (src:List ME) (ρ₀:Rho):R->R
 | .next ρ=>.next (bh src ρ₀ ρ)
 | .brk ρ=>.brk (bh src ρ₀ ρ)
 | .cont ρ=>.cont (bh src ρ₀ ρ)
 | .retT v ρ=>.retT v (bh src ρ₀ ρ)
 | r=>r
noncomputable def isL:MV->Bool
 | .ownO _ _ _=>true
 | _=>false
noncomputable def sr (ρ:Rho) (i:Nat):Bool:=(ρ.set i none).all λo=>match o with|some m=>!isL m|none=>true
noncomputable def qm:List PV->Option (List PV)
 | [.tup [c,r],o]=>some [c,r,o]
 | [.tup [c,r]]=>some [c,r,.str "weaver"]
 | _=>none
noncomputable def yx:MV->Bool
 | .val _=>true
 | .brw _=>true
 | _=>false
noncomputable def vT (i:Nat):ME->Bool
 | .bor j=>!(j == i)
 | _=>true
noncomputable def nN (cal:Cal) (x:MX) (ρ:Rho):Option (Sc × Rho):=match (ρ[x.i]?).join with
 | some (.ownO m fs xs)=>(match (evA cal x.es ρ).bind λvs=>if (vs.all yx&&x.es.all (vT x.i))=true then cal (x.f + 3000) (.ownO true fs xs::vs) else none with
  | some (.tup [v,.lst ys])=>(sc? v).map λs=>(s,put ρ x.i (.ownO m fs ys))
  | _=>none)
 | _=>none
noncomputable def neX (cal:Cal) (x:MX) (e:ME) (ρ:Rho):Option (Bool × Rho):=(nN cal x ρ).bind λq=>(ev cal e q.2).bind λv=>(bX .ne q.1.pv v).map λb=>(b,q.2)
noncomputable def evX (cal:Cal):MC->Rho->Option (Bool × Rho)
 | .ne x e,ρ=>neX cal x e ρ
 | .no x,ρ=>(nN cal x ρ).bind λq=>(aH q.1.pv).map λb=>(!b,q.2)
 | .or x e y e',ρ=>(neX cal x e ρ).bind λq=>if q.1=true then some q else neX cal y e' q.2
mutual
noncomputable def ex (cal:Cal):MS->Rho->R
 | .set i e,ρ=>c9 (ev cal e ρ) λv=>.next (put ρ i (.val v))
 | .setOwn i e,ρ=>c9 (ev cal e ρ) λv=>match v with|.lst xs=>.next (put ρ i (.own xs))|_=>.bad
 | .freeze i,ρ=>match (ρ[i]?).join with|some (.own xs)=>.next (put ρ i (.val (.lst xs)))|some _=>.next ρ|none=>.bad
 | .append i e,ρ=>c9 (ev cal e ρ) λv=>match (ρ[i]?).join with
  | some (.own xs)=>if xs.length < 10000 then .next (put ρ i (.own (xs ++ [v]))) else .bad
  | _=>.bad
 | .extend i e,ρ=>c9 (ev cal e ρ) λv=>match (ρ[i]?).join,br v with
  | some (.own xs),some ys=>if xs.length + ys.length <= 10000 then .next (put ρ i (.own (xs ++ ys))) else .bad
  | _,_=>.bad
 | .mkO i es,ρ=>match (evs cal es ρ).bind qm with
  | some fs=>if sr ρ i=true/\cal 4000 [] ≠ none then .next (put ρ i (.ownO false fs [])) else .bad
  | none=>.bad
 | .appO i e,ρ=>c9 (ev cal e ρ) λv=>match (ρ[i]?).join with
  | some (.ownO m fs xs)=>if xs.length < 10000 then .next (put ρ i (.ownO m fs (xs ++ [v]))) else .bad
  | _=>.bad
 | .retT e,ρ=>c9 (ev cal e ρ) λv=>match sc? v with
  | some s=>.retT s ρ
  | none=>.bad
 | .takeO j i f es,ρ=>match (ρ[i]?).join with
  | some (.ownO m fs xs)=>(match (evs cal es ρ).bind λvs=>cal (f + 3000) (.ownO true fs xs::vs.map .val) with
   | some (.tup [v,.lst ys])=>(match sc? v with
    | some _=>(match j with
     | some j=>if i=j then .bad else .next (put (put ρ i (.ownO m fs ys)) j (.val v))
     | none=>.next (put ρ i (.ownO m fs ys)))
    | none=>.bad)
   | _=>.bad)
  | _=>.bad
 | .raise _,_=>.bad
 | .tryC j f es hs,ρ=>match (evA cal es ρ).bind λvs=>cal (f + 5000) vs with
  | some (.tup [v])=>(match j with
   | some j=>.next (put ρ j (.val v))
   | none=>.next ρ)
  | some (.str c)=>(match hs.find? λh=>fW c h.cls with
   | some h=>(match h.v.val c ρ with
    | some v=>if h.free ρ=true then .next (put ρ h.i (.val v)) else .bad
    | none=>.bad)
   | none=>.bad)
  | _=>.bad
 | .iteX c a b,ρ=>(match evX cal c ρ with
  | some (p,ρ')=>if p=true then exs cal a ρ' else exs cal b ρ'
  | none=>.bad)
 | .retX x,ρ=>(match nN cal x ρ with
  | some (s,ρ')=>.retT s ρ'
  | none=>.bad)
 | .retPop i,ρ=>(match (ρ[i]?).join with
  | some (.ownO m fs xs)=>(match xs.getLast?.bind sc? with
   | some s=>.retT s (put ρ i (.ownO m fs xs.dropLast))
   | none=>.bad)
  | _=>.bad)
 | .iteB i j f a,ρ=>(match (ρ[i]?).join,(ρ[j]?).join with
  | some (.ownO m fs xs),some (.own zs)=>(match cal f [.brwO fs xs,.brw zs] with
   | some (.bl p)=>if p=true then .next ρ else exs cal a ρ
   | _=>(match cal (f + 6000) [.ownO true fs xs,.brw zs] with
    | some (.tup [.bl p,.lst ys])=>if p=true then .next (put (put ρ i (.ownO m fs ys)) j (.own zs.dropLast)) else .bad
    | _=>.bad))
  | _,_=>.bad)
 | .retAP _ _ _,_=>.bad
 | .tryO i f es hs,ρ=>(match dk (ρ[i]?).join,evA cal es ρ with
  | some o,some vs=>(match cal (f + 5000) (.brwO o.1 o.2::vs) with
   | some (.str c)=>(match hs.find? λh=>fW c h.cls with
    | some h=>(match h.v.val c ρ with
     | some v=>if h.free ρ=true then .next (put ρ h.i (.val v)) else .bad
     | none=>.bad)
    | none=>.bad)
   | _=>(match nN cal ⟨true,f,i,es⟩ ρ with
    | some (_,ρ')=>.next ρ'
    | none=>.bad))
  | _,_=>.bad)
 | .setIdx i k v,ρ=>c9 (ev cal v ρ) λv=>c9 (ev cal k ρ) λk=>match (ρ[i]?).join,k with
  | some (.own xs),.int k=>(match fC xs.length k with|some j=>.next (put ρ i (.own (xs.set j v)))|none=>.bad)
  | _,_=>.bad
 | .unpack is e,ρ=>c9 (ev cal e ρ) λv=>fD (jn is v ρ) .next
 | .expr e,ρ=>c9 (ev cal e ρ) λ_=>.next ρ
 | .ite c a b,ρ=>sk (evB cal c ρ) λk=>if k=true then exs cal a ρ else exs cal b ρ
 | .for1 i k src body,ρ=>match (evs cal src ρ).bind (cw k) with
  | some xs=>(bU (λx ρ'=>exs cal body (put ρ' i (.val x))) xs (bv src ρ)).back src ρ
  | none=>.bad
 | .forT is k src body,ρ=>match (evs cal src ρ).bind (cw k) with
  | some xs=>(bU (λx ρ'=>fD (jn is x ρ') λρ''=>exs cal body ρ'') xs (bv src ρ)).back src ρ
  | none=>.bad
 | .while n c body,ρ=>lx (evB cal c) (λρ'=>exs cal body ρ') n ρ
 | .ret e,ρ=>c9 (ev cal e ρ) .ret
 | .retOwn i,ρ=>match (ρ[i]?).join with|some (.own xs)=>.ret (.lst xs)|some (.ownD kvs)=>.ret (.dI kvs)|some (.val v)=>.ret v|_=>.bad
 | .newD m i,ρ=>.next (put ρ i (.ownD (if m=true then .t [] else .k [])))
 | .dput i k v,ρ=>c9 (ev cal v ρ) λv=>c9 (ev cal k ρ) λk=>match (ρ[i]?).join,sc? v with
  | some (.ownD d),some s=>match sg d k s with|some d'=>.next (put ρ i (.ownD d'))|none=>.bad
  | _,_=>.bad
 | .retF e,ρ=>c9 (ev cal e ρ) λv=>match v with|.lst xs=>.retF xs|_=>.bad
 | .setCall i f es,ρ=>c9 ((evA cal es ρ).bind λvs=>cal (f + 1000) vs) λv=>match v with|.lst xs=>.next (put ρ i (.own xs))|_=>.bad
 | .clear i,ρ=>match (ρ[i]?).join with|some (.own _)=>.next (put ρ i (.own []))|_=>.bad
 | .retN,_=>.ret .non
 | .brk,ρ=>.brk ρ
 | .cont,ρ=>.cont ρ
 | .pass,ρ=>.next ρ
 | .never,_=>.bad
noncomputable def exs (cal:Cal):List MS->Rho->R
 | [],ρ=>.next ρ
 | s::ss,ρ=>(ex cal s ρ).andThen λρ'=>exs cal ss ρ'
end
structure MD where
 name:Str
 params:List Str
 names:List Str
 body:List MS
 meth:Option Str:=none
 deriving Inhabited
noncomputable def nO:Sc->Rho->Option PV
 | v,some (.ownO true _ xs)::_=>some (.tup [v.pv,.lst xs])
 | _,_=>none
inductive RE where
 | fin (r:R)|err (c:Str)
noncomputable def ie:MS->Bool
 | .freeze _=>true
 | _=>false
noncomputable def RE.back (src:List ME) (ρ₀:Rho):RE->RE
 | .fin r=>.fin (r.back src ρ₀)
 | .err c=>.err c
mutual
noncomputable def exE (cal:Cal):MS->Rho->RE
 | .raise k,_=>.err k
 | .ite c a b,ρ=>(match evB cal c ρ with
  | some k=>if k=true then exsE cal a ρ else exsE cal b ρ
  | none=>.fin .bad)
 | m,ρ=>.fin (ex cal m ρ)
noncomputable def exsE (cal:Cal):List MS->Rho->RE
 | [],ρ=>.fin (.next ρ)
 | m::ms,ρ=>if ie m=true then .fin .bad else (match exE cal m ρ with
  | .fin (.next ρ')=>exsE cal ms ρ'
  | r=>r)
end
noncomputable def vU:RE->Option PV
 | .fin (.next _)=>some (.tup [.non])
 | .fin (.ret v)=>some (.tup [v])
 | .fin (.retT v _)=>some (.tup [v.pv])
 | .err c=>some (.str c)
 | _=>none
noncomputable def mw (cal:Cal) (w x:ME) (i:Nat) (ρ:Rho):Option PV:=match (ρ[(0:Nat)]?).join,(ρ[i]?).join with
 | some (.ownO true _ ys),some (.brw zs)=>(match evB cal w ρ,ev cal x ρ,zs.getLast? with
  | some true,some (.int a),some (.int b)=>some (.tup [.bl (a == b),.lst ys])
  | _,_,_=>none)
 | _,_=>none
noncomputable def R.nxt:R->Option Rho
 | .next ρ=>some ρ
 | _=>none
noncomputable def yy:MS->Option (ME × ME × Nat)
 | .retAP w x i=>some (w,x,i)
 | _=>none
noncomputable def nP (cal:Cal):List MS->Rho->Option PV
 | [m1,m2,m3],ρ=>if (ie m1 || ie m2)=true then none else (ex cal m1 ρ).nxt.bind λρ1=>(ex cal m2 ρ1).nxt.bind λρ2=>(yy m3).bind λq=>mw cal q.1 q.2.1 q.2.2 ρ2
 | _,_=>none
noncomputable def ae (ds:List MD):Nat->Cal
 | 0,_,_=>none
 | n + 1,f,args=>match ds[f]? with
  | none=>if f=4000 then (if 1 <= n then some (.bl true) else none) else if 2000 <= f then (
   if 6000 <= f then (match ds[f - 6000]? with
   | none=>none
   | some d=>if args.length=d.params.length then nP (ae ds n) d.body (args.map some ++ List.replicate (d.names.length - args.length) none) else none) else
   if 5000 <= f then (match ds[f - 5000]? with
   | none=>none
   | some d=>if args.length=d.params.length then vU (exsE (ae ds n) d.body (args.map some ++ List.replicate (d.names.length - args.length) none)) else none) else
   match ds[f - 3000]? with
   | none=>none
   | some d=>if args.length=d.params.length then
     (match exs (ae ds n) d.body (args.map some ++ List.replicate (d.names.length - args.length) none) with
     | .retT v ρ=>nO v ρ
     | _=>none) else none) else
   (match ds[f - 1000]? with
   | none=>none
   | some d=>if args.length=d.params.length then
     (match exs (ae ds n) d.body (args.map some ++ List.replicate (d.names.length - args.length) none) with
     | .retF xs=>some (.lst xs)
     | _=>none) else none)
  | some d=>if args.length=d.params.length then
    (match exs (ae ds n) d.body (args.map some ++ List.replicate (d.names.length - args.length) none) with
    | .next _=>some .non
    | .ret v=>some v
    | .retF xs=>some (.lst xs)
    | .retT v _=>some v.pv
    | _=>none) else none
end MM
namespace MM
open PySem PySem.Spec PyProof.Rows L2
noncomputable abbrev St:=L2.St
noncomputable def aj (H:Hp) (O:List Addr):Hp:=λb=>if b ∈ O then none else H b
theorem c5 {H:Hp}{O:List Addr}{b:Addr} (h:b ∈ O):aj H O b=none:=if_pos h
theorem aJ {H:Hp}{O:List Addr}{b:Addr} (h:b ∉ O):aj H O b=H b:=if_neg h
theorem af.rd {H H':Hp} (s:af H H') {a:Addr}{u:HO} (h:Rd H a u):Rd H' a u:=h.elim (λe=>.inl (s a _ e)) λ⟨o,e⟩=>.inr ⟨o,s a _ e⟩
theorem bb (H:Hp) (O:List Addr):af (aj H O) H:=λb u e=>by
 unfold aj at e
 split at e
 ·cases e
 ·exact e
theorem aW {H H':Hp}{O O':List Addr} (s:af H H') (h:∀ b ∈ O',b ∈ O \/ H b=none):af (aj H O) (aj H' O'):=λb u e=>by
 have hb:b ∉ O:=λz=>by rw [c5 z] at e;cases e
 rw [aJ hb] at e
 rw [aJ]
 ·exact s b u e
 ·intro z
  rcases h b z with q|q
  ·exact hb q
  ·rw [q] at e;cases e
theorem am {H H':Hp}{O:List Addr} (s:af H H'):af (aj H O) (aj H' O):=aW s λ_ h=>.inl h
noncomputable def Sc.v:Sc->V
 | .non=>.non
 | .bl b=>.bl b
 | .int i=>.int i
 | .str x=>.str x
noncomputable def fE (kvs:List (Int × Sc)):List (Key × V):=kvs.map λp=>(Sum.inl p.1,p.2.v)
noncomputable def gz (kvs:List (List Int × Sc)):List (List Key × V):=kvs.map λp=>(p.1.map Sum.inl,p.2.v)
noncomputable def fF:DD->HO
 | .k kvs=>.dK (fE kvs)
 | .t kvs=>.dT (gz kvs)
mutual
noncomputable def Rep (K:PySem.W.Frag) (F:Hp):PV->V->Prop
 | .non,u=>u=.non
 | .bl b,u=>u=.bl b
 | .int i,u=>u=.int i
 | .str x,u=>u=.str x
 | .tup xs,u=>∃ a us,u=.ref a/\F a=some (.tup us)/\Reps K F xs us
 | .lst xs,u=>∃ a us,u=.ref a/\SqL K F a us/\Reps K F xs us
 | .dI kvs,u=>∃ a,u=.ref a/\Rd F a (fF kvs)
noncomputable def Reps (K:PySem.W.Frag) (F:Hp):List PV->List V->Prop
 | [],us=>us=[]
 | x::xs,us=>∃ u r,us=u::r/\Rep K F x u/\Reps K F xs r
end
section
variable {K:PySem.W.Frag}{F F':Hp}
mutual
theorem Rep.mono (s:af F F'):∀ (x:PV) {u:V},Rep K F x u->Rep K F' x u
 | .non,_,h=>by simpa only [Rep] using h
 | .bl _,_,h=>by simpa only [Rep] using h
 | .int _,_,h=>by simpa only [Rep] using h
 | .str _,_,h=>by simpa only [Rep] using h
 | .tup xs,_,h=>by
  rw [Rep] at h ⊢
  obtain ⟨a,us,e,q,r⟩:=h
  exact ⟨a,us,e,s a _ q,Reps.mono s xs r⟩
 | .lst xs,_,h=>by
  rw [Rep] at h ⊢
  obtain ⟨a,us,e,q,r⟩:=h
  exact ⟨a,us,e,s.seq q,Reps.mono s xs r⟩
 | .dI kvs,_,h=>by
  rw [Rep] at h ⊢
  obtain ⟨a,e,q⟩:=h
  exact ⟨a,e,af.rd s q⟩
theorem Reps.mono (s:af F F'):∀ (xs:List PV) {us:List V},Reps K F xs us->Reps K F' xs us
 | [],_,h=>by simpa only [Reps] using h
 | x::xs,_,h=>by
  rw [Reps] at h ⊢
  obtain ⟨u,r,e,q,t⟩:=h
  exact ⟨u,r,e,Rep.mono s x q,Reps.mono s xs t⟩
end
theorem Reps.nil:Reps K F [] []:=by rw [Reps]
theorem Reps.cons {x:PV}{xs:List PV}{u:V}{us:List V} (h:Rep K F x u) (t:Reps K F xs us):Reps K F (x::xs) (u::us):=by
 rw [Reps];exact ⟨u,us,rfl,h,t⟩
theorem Reps.length:∀ {xs:List PV}{us:List V},Reps K F xs us->xs.length=us.length
 | [],_,h=>by rw [Reps] at h;subst h;rfl
 | x::xs,_,h=>by
  rw [Reps] at h
  obtain ⟨u,r,e,_,t⟩:=h
  subst e
  simp [Reps.length t]
theorem Reps.get:∀ {xs:List PV}{us:List V}{i:Nat}{x:PV},Reps K F xs us->xs[i]?=some x->∃ u,us[i]?=some u/\Rep K F x u
 | [],_,_,_,_,e=>by simp at e
 | x::xs,_,i,y,h,e=>by
  rw [Reps] at h
  obtain ⟨u,r,rfl,q,t⟩:=h
  cases i with
  | zero=>simp at e;subst e;exact ⟨u,by simp,q⟩
  | succ i=>obtain ⟨w,h1,h2⟩:=Reps.get (i:=i) t (by simpa using e);exact ⟨w,by simpa using h1,h2⟩
theorem Reps.get':∀ {xs:List PV}{us:List V}{i:Nat}{u:V},Reps K F xs us->us[i]?=some u->∃ x,xs[i]?=some x/\Rep K F x u
 | [],_,i,_,h,e=>by rw [Reps] at h;subst h;simp at e
 | x::xs,_,i,y,h,e=>by
  rw [Reps] at h
  obtain ⟨u,r,rfl,q,t⟩:=h
  cases i with
  | zero=>simp at e;subst e;exact ⟨x,by simp,q⟩
  | succ i=>obtain ⟨w,h1,h2⟩:=Reps.get' (i:=i) t (by simpa using e);exact ⟨w,by simpa using h1,h2⟩
theorem Reps.append:∀ {xs ys:List PV}{us ws:List V},Reps K F xs us->Reps K F ys ws->Reps K F (xs ++ ys) (us ++ ws)
 | [],_,_,_,h,g=>by rw [Reps] at h;subst h;exact g
 | x::xs,_,_,_,h,g=>by
  rw [Reps] at h
  obtain ⟨u,r,rfl,q,t⟩:=h
  exact .cons q (Reps.append t g)
theorem Reps.snoc {xs:List PV}{us:List V}{x:PV}{u:V} (h:Reps K F xs us) (g:Rep K F x u):Reps K F (xs ++ [x]) (us ++ [u]):=h.append (.cons g .nil)
theorem Reps.take:∀ {xs:List PV}{us:List V} (n:Nat),Reps K F xs us->Reps K F (xs.take n) (us.take n)
 | _,_,0,_=>by simpa using Reps.nil
 | [],_,n + 1,h=>by rw [Reps] at h;subst h;simpa using Reps.nil
 | x::xs,_,n + 1,h=>by
  rw [Reps] at h
  obtain ⟨u,r,rfl,q,t⟩:=h
  exact .cons q (Reps.take n t)
theorem Reps.drop:∀ {xs:List PV}{us:List V} (n:Nat),Reps K F xs us->Reps K F (xs.drop n) (us.drop n)
 | _,_,0,h=>h
 | [],_,n + 1,h=>by rw [Reps] at h;subst h;simpa using Reps.nil
 | x::xs,_,n + 1,h=>by
  rw [Reps] at h
  obtain ⟨u,r,rfl,q,t⟩:=h
  exact Reps.drop n t
theorem Reps.set:∀ {xs:List PV}{us:List V}{x:PV}{u:V} (n:Nat),Reps K F xs us->Rep K F x u->Reps K F (xs.set n x) (us.set n u)
 | [],_,_,_,n,h,_=>by rw [Reps] at h;subst h;simpa using Reps.nil
 | x::xs,_,_,_,0,h,g=>by
  rw [Reps] at h
  obtain ⟨u,r,rfl,q,t⟩:=h
  exact .cons g t
 | x::xs,_,_,_,n + 1,h,g=>by
  rw [Reps] at h
  obtain ⟨u,r,rfl,q,t⟩:=h
  exact .cons q (Reps.set n t g)
theorem Reps.dropLast {xs:List PV}{us:List V} (h:Reps K F xs us):Reps K F xs.dropLast us.dropLast:=by
 rw [List.dropLast_eq_take,List.dropLast_eq_take,<- h.length];exact h.take _
theorem Reps.ints:∀ {ns:List Int}{us:List V},Reps K F (ns.map .int) us->us=ns.map V.int
 | [],_,h=>by simpa [Reps] using h
 | n::ns,_,h=>by
  rw [List.map_cons,Reps] at h
  obtain ⟨u,r,rfl,q,t⟩:=h
  rw [Rep] at q
  rw [q,Reps.ints t];rfl
theorem Reps.of_ints:∀ (ns:List Int),Reps K F (ns.map .int) (ns.map V.int)
 | []=>.nil
 | n::ns=>.cons (by rw [Rep]) (Reps.of_ints ns)
theorem gA:∀ {xs:List PV}{ns:List Int},bc xs=some ns->xs=ns.map .int
 | [],_,h=>by simp [bc] at h;subst h;rfl
 | .int i::r,ns,h=>by
  simp only [bc,Option.map_eq_some_iff] at h
  obtain ⟨ms,h1,rfl⟩:=h
  rw [gA h1];rfl
 | .non::_,_,h=>by simp [bc] at h
 | .bl _::_,_,h=>by simp [bc] at h
 | .str _::_,_,h=>by simp [bc] at h
 | .tup _::_,_,h=>by simp [bc] at h
 | .lst _::_,_,h=>by simp [bc] at h
 | .dI _::_,_,h=>by simp [bc] at h
theorem mx:∀ {xs:List PV}{ns:List (List Int)},eI xs=some ns->xs=ns.map λt=>.tup (t.map .int)
 | [],_,h=>by simp [eI] at h;subst h;rfl
 | .tup i::r,ns,h=>by
  simp only [eI,Option.bind_eq_some_iff,Option.map_eq_some_iff] at h
  obtain ⟨t,h0,ms,h1,rfl⟩:=h
  rw [mx h1,gA h0];rfl
 | .non::_,_,h=>by simp [eI] at h
 | .bl _::_,_,h=>by simp [eI] at h
 | .str _::_,_,h=>by simp [eI] at h
 | .int _::_,_,h=>by simp [eI] at h
 | .lst _::_,_,h=>by simp [eI] at h
 | .dI _::_,_,h=>by simp [eI] at h
theorem ig:∀ {xs:List PV}{ns:List Bool},cb xs=some ns->xs=ns.map .bl
 | [],_,h=>by simp [cb] at h;subst h;rfl
 | .bl i::r,ns,h=>by
  simp only [cb,Option.map_eq_some_iff] at h
  obtain ⟨ms,h1,rfl⟩:=h
  rw [ig h1];rfl
 | .non::_,_,h=>by simp [cb] at h
 | .int _::_,_,h=>by simp [cb] at h
 | .str _::_,_,h=>by simp [cb] at h
 | .tup _::_,_,h=>by simp [cb] at h
 | .lst _::_,_,h=>by simp [cb] at h
 | .dI _::_,_,h=>by simp [cb] at h
end
noncomputable def a7 (K:PySem.W.Frag) (H:Hp) (O:List Addr) (v:PV) (u:V):Prop :=
 Rep K (aj H O) v u \/ (∃ xs a us,v=.lst xs/\u=.ref a/\SqL K H a us/\Reps K (aj H O) xs us) \/ ∃ kvs a,v=.dI kvs/\u=.ref a/\Rd H a (fF kvs)
section
variable {K:PySem.W.Frag}{H H':Hp}{O:List Addr}
theorem a7.of {v:PV}{u:V} (h:Rep K (aj H O) v u):a7 K H O v u:=.inl h
theorem a7.mono (s:af H H') {v:PV}{u:V} (h:a7 K H O v u):a7 K H' O v u:=by
 rcases h with h|⟨xs,a,us,e1,e2,q,r⟩|⟨kvs,a,e1,e2,q⟩
 ·exact .inl (Rep.mono (am s) _ h)
 ·exact .inr (.inl ⟨xs,a,us,e1,e2,s.seq q,Reps.mono (am s) _ r⟩)
 ·exact .inr (.inr ⟨kvs,a,e1,e2,af.rd s q⟩)
theorem a7.lst {xs:List PV}{u:V} (h:a7 K H O (.lst xs) u):∃ a us,u=.ref a/\SqL K H a us/\Reps K (aj H O) xs us:=by
 rcases h with h|⟨ys,a,us,e1,e2,q,r⟩|⟨kvs,a,e1,e2,q⟩
 ·rw [Rep] at h
  obtain ⟨a,us,e,q,r⟩:=h
  exact ⟨a,us,e,(bb H O).seq q,r⟩
 ·cases e1
  exact ⟨a,us,e2,q,r⟩
 ·cases e1
theorem a7.tupH {xs:List PV}{u:V} (h:a7 K H O (.tup xs) u):∃ a us,u=.ref a/\H a=some (.tup us)/\Reps K (aj H O) xs us:=by
 rcases h with h|⟨ys,a,us,e1,e2,q,r⟩|⟨kvs,a,e1,e2,q⟩
 ·rw [Rep] at h
  obtain ⟨a,us,e,q,r⟩:=h
  exact ⟨a,us,e,bb H O a _ q,r⟩
 ·cases e1
 ·cases e1
theorem a7.tup {xs:List PV}{u:V} (h:a7 K H O (.tup xs) u):∃ a us,u=.ref a/\SqT K H a us/\Reps K (aj H O) xs us:=by
 obtain ⟨a,us,e,q,r⟩:=h.tupH
 exact ⟨a,us,e,SqT.of q,r⟩
theorem a7.tupR {xs:List PV}{u:V} (h:a7 K H O (.tup xs) u):Rep K (aj H O) (.tup xs) u:=by
 rcases h with h|⟨ys,a,us,e1,e2,q,r⟩|⟨kvs,a,e1,e2,q⟩
 ·exact h
 ·cases e1
 ·cases e1
theorem a7.dI {kvs:DD}{u:V} (h:a7 K H O (.dI kvs) u):∃ a,u=.ref a/\Rd H a (fF kvs):=by
 rcases h with h|⟨ys,a,us,e1,e2,q,r⟩|⟨kvs,a,e1,e2,q⟩
 ·rw [Rep] at h
  obtain ⟨a,e,q⟩:=h
  exact ⟨a,e,af.rd (bb H O) q⟩
 ·cases e1
 ·cases e1
  exact ⟨a,e2,q⟩
theorem a7.int {i:Int}{u:V} (h:a7 K H O (.int i) u):u=.int i:=by
 rcases h with h|⟨ys,a,us,e1,e2,q,r⟩|⟨kvs,a,e1,e2,q⟩
 ·rw [Rep] at h;exact h
 ·cases e1
 ·cases e1
theorem a7.bl {i:Bool}{u:V} (h:a7 K H O (.bl i) u):u=.bl i:=by
 rcases h with h|⟨ys,a,us,e1,e2,q,r⟩|⟨kvs,a,e1,e2,q⟩
 ·rw [Rep] at h;exact h
 ·cases e1
 ·cases e1
theorem a7.str {i:Str}{u:V} (h:a7 K H O (.str i) u):u=.str i:=by
 rcases h with h|⟨ys,a,us,e1,e2,q,r⟩|⟨kvs,a,e1,e2,q⟩
 ·rw [Rep] at h;exact h
 ·cases e1
 ·cases e1
theorem a7.non {u:V} (h:a7 K H O .non u):u=.non:=by
 rcases h with h|⟨ys,a,us,e1,e2,q,r⟩|⟨kvs,a,e1,e2,q⟩
 ·rw [Rep] at h;exact h
 ·cases e1
 ·cases e1
theorem a7.seq {v:PV}{xs:List PV}{u:V} (h:a7 K H O v u) (e:br v=some xs):∃ a us,u=.ref a/\(SqL K H a us \/ SqT K H a us)/\Reps K (aj H O) xs us:=by
 cases v with
 | lst ys=>simp [br] at e;subst e;obtain ⟨a,us,e,q,r⟩:=h.lst;exact ⟨a,us,e,.inl q,r⟩
 | tup ys=>simp [br] at e;subst e;obtain ⟨a,us,e,q,r⟩:=h.tup;exact ⟨a,us,e,.inr q,r⟩
 | _=>simp [br] at e
theorem a7.whole {v:PV}{u:V} (h:a7 K H O v u):Rep K H v u:=by
 rcases h with h|⟨xs,a,us,rfl,e2,q,r⟩|⟨kvs,a,rfl,e2,q⟩
 ·exact Rep.mono (bb H O) _ h
 ·rw [Rep];exact ⟨a,us,e2,q,Reps.mono (bb H O) _ r⟩
 ·rw [Rep];exact ⟨a,e2,q⟩
end
noncomputable def IsC (K:PySem.W.Frag) (C:Addr):Prop:=PySem.W.nsIn K mainGlobals "Table"=some (some (.ref C))
noncomputable def gd:List Str:=["hole_count","ribbons","opener"]
noncomputable def jo:List Str:=["hand_at","holes_taken_by","turn","deeds","knots","bites","free","rest","winner","take","back"]
structure ObF (K:PySem.W.Frag) (C:Addr) (F:Hp) (fs:List PV) (l:Addr) (gs:List (Str × V)):Prop where
 cls:IsC K C
 fld:∀ (n:Nat) (x:Str) (v:PV),gd[n]?=some x->fs[n]?=some v->∃ u,gs.lookup x=some u/\Rep K F v u
 lst:gs.lookup ("taken":Str)=some (.ref l)
 no:∀ m ∈ jo,gs.lookup m=none
theorem ObF.mono {K:PySem.W.Frag}{C:Addr}{F F':Hp}{fs:List PV}{l:Addr}{gs:List (Str × V)} (s:af F F') (h:ObF K C F fs l gs):ObF K C F' fs l gs :=
 ⟨h.cls,λn x v e1 e2=>let ⟨u,q1,q2⟩:=h.fld n x v e1 e2;⟨u,q1,Rep.mono s _ q2⟩,h.lst,h.no⟩
structure b7 (K:PySem.W.Frag) (B:Hp) (O:List Addr) (H:Hp) (fs xs:List PV) (a l:Addr):Prop where
 ob:∃ C dx gs,H a=some (.ins C dx gs)/\ObF K C (aj H O) fs l gs
 li:∃ us,H l=some (.lst us)/\Reps K (aj H O) xs us
 aO:a ∈ O
 lO:l ∈ O
 aB:B a=none
 lB:B l=none
 ne:a ≠ l
theorem b7.move {K:PySem.W.Frag}{B B' H H':Hp}{O O':List Addr}{fs xs:List PV}{a l:Addr} (h:b7 K B O H fs xs a l) (v:af (aj H O) (aj H' O')) (ha:∀ o,H a=some o->H' a=some o) (hl:∀ o,H l=some o->H' l=some o) (aO:a ∈ O') (lO:l ∈ O') (aB:B' a=none) (lB:B' l=none):b7 K B' O' H' fs xs a l:=by
 obtain ⟨C,dx,gs,e1,q1⟩:=h.ob
 obtain ⟨us,e2,q2⟩:=h.li
 exact ⟨⟨C,dx,gs,ha _ e1,q1.mono v⟩,⟨us,hl _ e2,Reps.mono v _ q2⟩,aO,lO,aB,lB,h.ne⟩
noncomputable def eA (K:PySem.W.Frag) (B F:Hp) (fs xs:List PV) (a:Addr):Prop:=∃ C dx gs l us,B a=some (.ins C dx gs)/\ObF K C F fs l gs/\SqL K B l us/\Reps K F xs us
theorem eA.move {K:PySem.W.Frag}{B B' F F':Hp}{fs xs:List PV}{a:Addr} (h:eA K B F fs xs a) (b:af B B') (v:af F F'):eA K B' F' fs xs a:=by
 obtain ⟨C,dx,gs,l,us,e1,q1,e2,q2⟩:=h
 exact ⟨C,dx,gs,l,us,b _ _ e1,q1.mono v,b.seq e2,Reps.mono v _ q2⟩
theorem b7.lent {K:PySem.W.Frag}{B H:Hp}{O:List Addr}{fs xs:List PV}{a l:Addr} (h:b7 K B O H fs xs a l):eA K H (aj H O) fs xs a:=by
 obtain ⟨C,dx,gs,e1,q1⟩:=h.ob
 obtain ⟨us,e2,q2⟩:=h.li
 exact ⟨C,dx,gs,l,us,e1,q1,SqL.of e2,q2⟩
noncomputable def lOf:Option HO->Option Addr
 | some (.ins _ _ gs)=>(match gs.lookup ("taken":Str) with|some (.ref l)=>some l|_=>none)
 | _=>none
theorem b7.l {K:PySem.W.Frag}{B H:Hp}{O:List Addr}{fs xs:List PV}{a l:Addr} (h:b7 K B O H fs xs a l):lOf (H a)=some l:=by
 obtain ⟨C,dx,gs,e1,q1⟩:=h.ob
 rw [e1]
 show (match gs.lookup ("taken":Str) with|some (.ref l)=>some l|_=>none)=some l
 rw [q1.lst]
noncomputable def dP (K:PySem.W.Frag) (B:Hp) (O:List Addr) (H:Hp):MV->V->Prop
 | .val v,u=>Rep K (aj H O) v u
 | .own xs,u=>∃ a us,u=.ref a/\H a=some (.lst us)/\Reps K (aj H O) xs us/\a ∈ O/\B a=none
 | .brw xs,u=>∃ a us,u=.ref a/\SqL K B a us/\Reps K (aj H O) xs us
 | .ownD kvs,u=>∃ a,u=.ref a/\H a=some (fF kvs)/\a ∈ O/\B a=none
 | .ownO _ fs xs,u=>∃ a l,u=.ref a/\b7 K B O H fs xs a l
 | .brwO fs xs,u=>∃ a,u=.ref a/\eA K B (aj H O) fs xs a
 | .brwD kvs,u=>∃ a,u=.ref a/\Rd B a (fF kvs)
noncomputable def dl:MV->Bool
 | .own _=>true
 | .ownD _=>true
 | .ownO _ _ _=>true
 | _=>false
noncomputable def vV (H:Hp) (ρ:Rho) (σ:St):Prop:=∀ (i:Nat) (m0:MV) (a l:Addr),ρ[i]?=some (some m0)->isL m0=true->σ[i]?=some (some (.ref a))->lOf (H a)=some l->∀ (j:Nat) (m:MV),j ≠ i->ρ[j]?=some (some m)->isL m=false/\∀ c,dl m=true->σ[j]?=some (some (.ref c))->c ≠ l
theorem my {H:Hp}{ρ:Rho}{σ:St} (h:∀ (i:Nat) (m:MV),ρ[i]?=some (some m)->isL m=false):vV H ρ σ:=λi m _ _ e l=>by rw [h i m e] at l;cases l
theorem c_ {H H':Hp}{ρ ρ':Rho}{σ σ':St} (h:vV H ρ σ) (hL:∀ (i:Nat) (m0:MV),ρ'[i]?=some (some m0)->isL m0=true->(∃ m1,ρ[i]?=some (some m1)/\isL m1=true)/\σ'[i]?=σ[i]?/\∀ a l,σ[i]?=some (some (.ref a))->lOf (H' a)=some l->lOf (H a)=some l)
  (hj:∀ (j:Nat) (m:MV) (c:Addr),ρ'[j]?=some (some m)->isL m=false->dl m=true->σ'[j]?=some (some (.ref c))->(∃ m0,ρ[j]?=some (some m0)/\dl m0=true/\σ[j]?=some (some (.ref c))) \/ ∀ (i:Nat) (m1:MV) (a l:Addr),ρ[i]?=some (some m1)->isL m1=true->σ[i]?=some (some (.ref a))->lOf (H a)=some l->c ≠ l):vV H' ρ' σ':=λi m0 a l e1 l0 e2 e3 j m hji e4=>by
 obtain ⟨⟨m1,f1,l1⟩,f2,f3⟩:=hL i m0 e1 l0
 rw [f2] at e2
 have f4:=f3 a l e2 e3
 have hl:isL m=false:=by
  cases q:isL m with
  | false=>rfl
  | true =>
   obtain ⟨⟨m2,g1,g2⟩,_⟩:=hL j m e4 q
   rw [(h i m1 a l f1 l1 e2 f4 j m2 hji g1).1] at g2
   cases g2
 refine ⟨hl,λc o e5=>?_⟩
 rcases hj j m c e4 hl o e5 with ⟨m0,g1,g2,g3⟩|g
 ·exact (h i m1 a l f1 l1 e2 f4 j m0 hji g1).2 c g2 g3
 ·exact g i m1 a l f1 l1 e2 f4
structure az (K:PySem.W.Frag) (B:Hp) (O₀ O:List Addr) (H:Hp) (ρ:Rho) (σ:St):Prop where
 keep:af B H
 here:∀ a ∈ O,H a ≠ none
 sub:∀ a ∈ O₀,a ∈ O
 old:∀ a ∈ O₀,B a ≠ none
 len:ρ.length=σ.length
 slot:∀ (i:Nat) (m:MV),ρ[i]?=some (some m)->∃ u,σ[i]?=some (some u)/\dP K B O H m u
 apart:∀ (i j:Nat) (m m':MV) (a:Addr),i ≠ j->ρ[i]?=some (some m)->ρ[j]?=some (some m')->dl m=true->dl m'=true->σ[i]?=some (some (.ref a))->σ[j]? ≠ some (some (.ref a))
 inn:vV H ρ σ
section
variable {K:PySem.W.Frag}{B H H':Hp}{O₀ O:List Addr}{ρ:Rho}{σ:St}
theorem dP.mono (s:af H H') {m:MV}{u:V} (h:dP K B O H m u):dP K B O H' m u:=by
 cases m with
 | val v=>exact Rep.mono (am s) _ h
 | own xs=>obtain ⟨a,us,e,q,r,h1,h2⟩:=h;exact ⟨a,us,e,s _ _ q,Reps.mono (am s) _ r,h1,h2⟩
 | brw xs=>obtain ⟨a,us,e,q,r⟩:=h;exact ⟨a,us,e,q,Reps.mono (am s) _ r⟩
 | ownD kvs=>obtain ⟨a,e,q,h1,h2⟩:=h;exact ⟨a,e,s _ _ q,h1,h2⟩
 | ownO _ fs xs=>obtain ⟨a,l,e,q⟩:=h;exact ⟨a,l,e,q.move (am s) (λ_=>s _ _) (λ_=>s _ _) q.aO q.lO q.aB q.lB⟩
 | brwO fs xs=>obtain ⟨a,e,q⟩:=h;exact ⟨a,e,q.move (af.refl B) (am s)⟩
 | brwD kvs=>exact h
theorem az.mono (s:af H H') (h:az K B O₀ O H ρ σ):az K B O₀ O H' ρ σ where
 keep:=h.keep.trans s
 here:=λa ha e=>h.here a ha (s.free e)
 sub:=h.sub
 old:=h.old
 len:=h.len
 slot:=λi m e=>let ⟨u,e1,q⟩:=h.slot i m e;⟨u,e1,q.mono s⟩
 apart:=h.apart
 inn:=c_ h.inn (λi m0 e l0=>⟨⟨m0,e,l0⟩,rfl,λa l e1 e2=>by
  obtain ⟨u,e3,q⟩:=h.slot i _ e
  rw [e1] at e3
  cases e3
  cases m0 <;> try (cases l0;done)
  obtain ⟨a',l',e4,q⟩:=q
  cases e4
  obtain ⟨C,dx,gs,e5,_⟩:=q.ob
  rw [s _ _ e5] at e2
  rw [e5]
  exact e2⟩) λj m c e _ o e1=>.inl ⟨m,e,o,e1⟩
theorem dP.bor {m:MV}{u:V}{v:PV} (hB:af B H) (h:dP K B O H m u) (e:a9 (some m)=some v):a7 K H O v u:=by
 cases m with
 | val w=>simp [a9] at e;subst e;exact .inl h
 | own xs=>simp [a9] at e;subst e;obtain ⟨a,us,e,q,r,_⟩:=h;exact .inr (.inl ⟨xs,a,us,rfl,e,SqL.of q,r⟩)
 | brw xs=>simp [a9] at e;subst e;obtain ⟨a,us,e,q,r⟩:=h;exact .inr (.inl ⟨xs,a,us,rfl,e,hB.seq q,r⟩)
 | ownD kvs=>simp [a9] at e;subst e;obtain ⟨a,e,q,_⟩:=h;exact .inr (.inr ⟨kvs,a,rfl,e,.inl q⟩)
 | ownO _ _ _=>simp [a9] at e
 | brwO _ _=>simp [a9] at e
 | brwD kvs=>simp [a9] at e;subst e;obtain ⟨a,e,q⟩:=h;exact .inr (.inr ⟨kvs,a,rfl,e,af.rd hB q⟩)
end
theorem join_some {α:Type}{o:Option (Option α)}{x:α} (h:o.join=some x):o=some (some x):=by
 cases o with
 | none=>simp at h
 | some y=>cases y with
  | none=>simp at h
  | some z=>simp at h;rw [h]
end MM
namespace MM
open PySem PySem.Spec PyProof.Rows L2
structure Tab where
 fs:List Str
 gs:List (Str × PV)
 ds:List (List Sc)
 ms:List (Option Str)
 es:List Str
noncomputable def yz (sc:Scope) (x:Str):Bool:=sc.names.lookup x == some .local || sc.names.lookup x == some .cell || sc.names.lookup x == some .free
noncomputable def fo (sc:Scope) (x:Str):Bool:=sc.names.lookup x == some .local || sc.names.lookup x == some .cell
noncomputable def glB (sc:Scope) (x:Str):Bool:=sc.names.lookup x == some .globalImplicit
noncomputable def ag (x:Str):Bool:=!(x == ("__debug__":Str))&&!(x == ("__classdict__":Str))&&!(x == ("__name__":Str))
noncomputable def ah (N:List Str) (sc:Scope) (i:Nat) (x:Str):Bool:=N[i]? == some x&&yz sc x&&ag x
noncomputable def aD:ME->Bool
 | .bor _=>true
 | .fldL _=>true
 | _=>false
theorem ly {m:ME} (h:aD m=true):(∃ i,m=.bor i) \/ ∃ i,m=.fldL i:=by
 cases m <;> first|(cases h;done)|exact .inl ⟨_,rfl⟩|exact .inr ⟨_,rfl⟩
noncomputable def jp:Expr->Option (Str × Str)
 | .Attribute (.Name y _) m _=>some (y,m)
 | _=>none
theorem gB {e:Expr}{q:Str × Str} (h:jp e=some q):∃ p ap,e=.Attribute (.Name q.1 p) q.2 ap:=by
 unfold jp at h
 split at h
 ·cases h;exact ⟨_,_,rfl⟩
 ·cases h
noncomputable def mz:Expr->Option (Str × Str × List Expr × Pos × Pos)
 | .Call (.Attribute (.Name y _) m ap) args [] cp=>some (y,m,args,ap,cp)
 | _=>none
theorem gC {e:Expr}{q:Str × Str × List Expr × Pos × Pos} (h:mz e=some q):∃ p,e=.Call (.Attribute (.Name q.1 p) q.2.1 q.2.2.2.1) q.2.2.1 [] q.2.2.2.2:=by
 unfold mz at h
 split at h
 ·cases h;exact ⟨_,rfl⟩
 ·cases h
noncomputable def vW:Expr->Option (Str × Str × Str)
 | .Call (.Name x _) [.Attribute (.Name y _) f _] [] _=>some (x,y,f)
 | _=>none
theorem vX {e:Expr}{q:Str × Str × Str} (h:vW e=some q):∃ p p1 p2 pos,e=.Call (.Name q.1 p) [.Attribute (.Name q.2.1 p1) q.2.2 p2] [] pos:=by
 unfold vW at h
 split at h
 ·cases h;exact ⟨_,_,_,_,rfl⟩
 ·cases h
noncomputable def mB:Expr->Option (Str × List Expr)
 | .Call (.Name y _) args [] _=>some (y,args)
 | _=>none
theorem su {e:Expr}{q:Str × List Expr} (h:mB e=some q):∃ p cp,e=.Call (.Name q.1 p) q.2 [] cp:=by
 unfold mB at h
 split at h
 ·cases h;exact ⟨_,_,rfl⟩
 ·cases h
noncomputable def jW (N:List Str) (sc:Scope) (ms:List (Option Str)) (f i:Nat) (ck:List Expr->Bool) (q:Str × Str × List Expr × Pos × Pos):Bool:=ms[f]? == some (some q.2.1)&&jo.contains q.2.1&&ah N sc i q.1&&ck q.2.2.1&&q.2.2.2.1.endLine == q.2.2.2.2.line&&decide (q.2.2.1.length < 30)
noncomputable def sw:Expr->Option (Expr × CmpOp × Expr)
 | .Compare l [o] [r] _=>some (l,o,r)
 | _=>none
theorem vY {e:Expr}{q:Expr × CmpOp × Expr} (h:sw e=some q):∃ pos,e=.Compare q.1 [q.2.1] [q.2.2] pos:=by
 unfold sw at h
 split at h
 ·cases h;exact ⟨_,rfl⟩
 ·cases h
noncomputable def onO {α:Type} (o:Option α) (f:α->Bool):Bool:=match o with
 | some a=>f a
 | none=>false
theorem au {α:Type}{o:Option α}{f:α->Bool} (h:onO o f=true):∃ a,o=some a/\f a=true:=by
 cases o with
 | none=>cases h
 | some a=>exact ⟨a,rfl,h⟩
noncomputable def vZ:Op2->Operator
 | .add=>.Add|.sub=>.Sub|.mul=>.Mult|.fdiv=>.FloorDiv|.mod=>.Mod|.pow=>.Pow|.shr=>.RShift
noncomputable def eJ:Cp->CmpOp
 | .eq=>.Eq|.ne=>.NotEq|.lt=>.Lt|.le=>.LtE|.gt=>.Gt|.ge=>.GtE|.isN=>.Is|.notN=>.IsNot|.isIn=>.In|.notIn=>.NotIn
noncomputable def lz:PV->Const->Bool
 | .non,.none=>true
 | .bl a,.bool b=>a == b
 | .int a,.int b=>a == b
 | .str a,.str b=>a == b
 | _,_=>false
noncomputable def xu:PV->PV->Bool
 | .non,.non=>true
 | .bl a,.bl b=>a == b
 | .int a,.int b=>a == b
 | .str a,.str b=>a == b
 | _,_=>false
noncomputable def sx (gs:List (Str × PV)) (x:Str) (v:PV):Bool:=gs.any λp=>p.1 == x&&xu p.2 v
noncomputable def aq:Expr->Bool
 | .Starred ..=>false
 | _=>true
noncomputable def eU:Expr->Bool
 | .Set ..=>false
 | _=>true
noncomputable def bV:Expr->Bool
 | .Slice ..=>false
 | _=>true
noncomputable def bi:Expr->Bool
 | .ListComp ..=>false
 | .SetComp ..=>false
 | .DictComp ..=>false
 | _=>true
noncomputable def ij:Expr->Bool
 | .UnaryOp .Not _ _=>false
 | .BoolOp ..=>false
 | .IfExp ..=>false
 | .Compare ..=>false
 | _=>true
noncomputable def kA:Blt->String
 | .len=>"len" | .tupleOf=>"tuple" | .listOf=>"list" | .sorted=>"sorted" | .any=>"any" | .all=>"all" | .sum=>"sum" | .max1=>"max" | .min1=>"min" | .max2=>"max" | .min2=>"min"
 | .intOf=>"int" | .boolOf=>"bool" | .isInt=>"isinstance" | .isBool=>"isinstance" | .isStr=>"isinstance" | .isList=>"isinstance" | .isTuple=>"isinstance" | .sortedKeys=>"sorted" | .valuesOf=>"list" | .sortedSet=>"sorted" | .lenSet=>"len" | .lenSetSub=>"len" | .tupleRev=>"tuple"
noncomputable def cc:Blt->Option String
 | .isInt=>some "int" | .isBool=>some "bool" | .isStr=>some "str" | .isList=>some "list" | .isTuple=>some "tuple"
 | _=>none
noncomputable def dD:Blt->Option Nat
 | .len|.tupleOf|.listOf|.sorted|.any|.all|.sum|.intOf|.boolOf|.max1|.sortedKeys=>some 1
 | .max2|.min2=>some 2
 | _=>none
noncomputable def d5 (osc:Scope) (N:List Str) (scope:Scope) (x:Str) (fvs:List Str) (js:List Nat):Bool :=
 decide (∀ y ∈ scope.names,y.2=.cell->y.1=x)&&decide (scope.names.lookup x=some .local/\(scope.names.filter λy=>y.2 == .cell)=[] \/ scope.names.lookup x=some .cell/\(scope.names.filter λy=>y.2 == .cell)=[(x,.cell)])
 &&decide (∀ y ∈ scope.names,y.2=.free->y.1 ≠ x)&&scope.kind == .function&&decide (∀ y ∈ scope.names,y.2=.local->scope.names.lookup y.1=some .local)
 &&decide ((x::fvs).Nodup)&&decide (∀ y ∈ scope.names,y.2=.free->osc.names.lookup y.1=some .cell \/ osc.names.lookup y.1=some .free)&&decide ((js.map λj=>N[j]?)=fvs.map some)
 &&decide (∀ y ∈ fvs,scope.names.lookup y=some .free)
noncomputable def bY (N:List Str) (js:List Nat):List Str:=js.map λj=>(N[j]?).getD Str.empty
noncomputable def dm (sc:Scope) (tup:Bool) (f:List Expr->Bool):Sk->Expr->Bool
 | .seq,it=>eU it&&f [it]
 | .rng,.Call (.Name x _) args [] _=>x == ("range":Str)&&glB sc x&&f args&&(args.length == 1 || args.length == 2)
 | .rev,_=>false
 | .enm,.Call (.Name x _) [a] [] _=>tup&&x == ("enumerate":Str)&&glB sc x&&f [a]&&aq a
 | _,_=>false
noncomputable def jq (sc:Scope) (f:List Expr->Bool) (n:Nat) (c:String):List Expr->Bool
 | [x,.Name t _]=>t == (c:Str)&&glB sc t&&f [x]&&n == 1
 | _=>false
noncomputable def kB:Expr->Bool
 | .Name _ _=>true
 | .Call _ (_::_) _ _=>true
 | _=>false
noncomputable def cm (sc:Scope) (f:List Expr->Bool) (n:Nat) (b:Blt) (args:List Expr):Bool:=match b with
 | .sortedSet=>false
 | .lenSet=>false
 | .lenSetSub=>false
 | .tupleRev=>false
 | .valuesOf=>false
 | .sortedKeys=>false
 | .max1=>false
 | .sum=>false
 | .max2=>false
 | .min2=>false
 | .intOf=>false
 | .boolOf=>false
 | .isStr=>false
 | b=>match cc b with
  | some c=>jq sc f n c args
  | none=>dD b == some n&&f args
noncomputable def eB:ME->Bool
 | .cst .non=>true
 | _=>false
noncomputable def fG (f:Expr->Bool) (non:Bool):Option Expr->Bool
 | none=>non
 | some l=>f l&&!non
noncomputable def jr (f:Expr->Bool) (m:ME):List Expr->Bool
 | []=>(match m with|.cst (.bl true)=>true|_=>false)
 | [c]=>f c
 | _=>false
noncomputable def oS (f:Expr->Bool) (op:BoolOp) (pos:Pos) (y:Expr):List Expr->Bool
 | []=>f y
 | z::r=>f (.BoolOp op (y::z::r) pos)
mutual
noncomputable def chk (T:Tab):ME->List Str->Scope->Expr->Bool
 | .var i,N,sc,e0=>(match e0 with|.Name x _=>ah N sc i x|_=>false)
 | .bor i,N,sc,e0=>(match e0 with|.Name x _=>ah N sc i x|_=>false)
 | .cst v,_,_,e0=>(match e0 with|.Constant c _ _=>lz v c|_=>false)
 | .glob x v,_,sc,e0=>(match e0 with|.Name y _=>x == y&&glB sc x&&sx T.gs x v&&ag x|_=>false)
 | .bin op a b,N,sc,e0=>(match e0 with|.BinOp l o r _=>o == vZ op&&chk T a N sc l&&chk T b N sc r|_=>false)
 | .neg _,_,_,_=>false
 | .not a,N,sc,e0=>(match e0 with|.UnaryOp .Not e _=>chk T a N sc e|_=>false)
 | .and a b,N,sc,e0=>(match e0 with|.BoolOp .And (x::y::r) pos=>chk T a N sc x&&oS (λe=>chk T b N sc e) .And pos y r|_=>false)
 | .or a b,N,sc,e0=>(match e0 with|.BoolOp .Or (x::y::r) pos=>chk T a N sc x&&oS (λe=>chk T b N sc e) .Or pos y r|_=>false)
 | .ite c a b,N,sc,e0=>(match e0 with|.IfExp t x y _=>chk T c N sc t&&chk T a N sc x&&chk T b N sc y&&!aD a&&!aD b|_=>false)
 | .cmp op a b,N,sc,e0=>(match e0 with|.Compare l [o] [r] _=>o == eJ op&&chk T a N sc l&&chk T b N sc r&&!behindInMarks o r|_=>false)
 | .chain op op' a b c,N,sc,e0=>(match e0 with|.Compare l [o,o'] [m,r] _=>o == eJ op&&o' == eJ op'&&chk T a N sc l&&chk T b N sc m&&chk T c N sc r&&!lastMarks [o,o'] [m,r]|_=>false)
 | .tup es,N,sc,e0=>(match e0 with|.Tuple xs _ _=>chks T es N sc xs&&es.all (λe=>!aD e)|_=>false)
 | .lst es,N,sc,e0=>(match e0 with|.List xs _=>chks T es N sc xs&&es.all (λe=>!aD e)|_=>false)
 | .idx a i,N,sc,e0=>(match e0 with|.Subscript v s _=>chk T a N sc v&&chk T i N sc s&&bV s|_=>false)
 | .slice a lo hi,N,sc,e0=>(match e0 with|.Subscript v (.Slice l u none _) _=>chk T a N sc v&&fG (λe=>chk T lo N sc e) (eB lo) l&&fG (λe=>chk T hi N sc e) (eB hi) u|_=>false)
 | .blt b es,N,sc,e0=>(match e0 with|.Call (.Name f _) args [] _=>f == (kA b:Str)&&glB sc f&&cm sc (λxs=>chks T es N sc xs) es.length b args|_=>false)
 | .call f es,N,sc,e0=>(match e0 with|.Call (.Name x _) args [] _=>T.fs[f]? == some x&&glB sc x&&ag x&&chks T es N sc args|_=>false)
 | .callD _ _ _,_,_,_=>false
 | .comp k src js cond elt,N,sc,e0=>(match e0 with|.ListComp e [⟨.Name x _,it,ifs,0⟩] scope _=>d5 sc N scope x (bY N js) js&&dm sc false (λxs=>chks T src N sc xs) k it&&jr (λc=>chk T cond (x::bY N js) (fV scope sc) c) cond ifs&&chk T elt (x::bY N js) (fV scope sc) e&&!aD elt|_=>false)
 | .dget a k d,N,sc,e0=>(match e0 with|.Call (.Attribute o m ap) [x,y] [] cp=>m == ("get":Str)&&kB o&&ap.endLine == cp.line&&chk T a N sc o&&chk T k N sc x&&chk T d N sc y&&aq x&&aq y|_=>false)
 | .dat a k,N,sc,e0=>(match e0 with|.Subscript v s _=>chk T a N sc v&&chk T k N sc s&&bV s|_=>false)
 | .dIn neg k a,N,sc,e0=>(match e0 with|.Compare l [o] [r] _=>o == (if neg=true then CmpOp.NotIn else CmpOp.In)&&chk T k N sc l&&chk T a N sc r&&!behindInMarks o r|_=>false)
 | .fld i n,N,sc,e0=>onO (jp e0) λq=>gd[n]? == some q.2&&ah N sc i q.1
 | .fldL i,N,sc,e0=>onO (jp e0) λq=>q.2 == ("taken":Str)&&ah N sc i q.1
 | .lenO i,N,sc,e0=>onO (vW e0) λq=>q.1 == ("len":Str)&&glB sc q.1&&q.2.2 == ("taken":Str)&&ah N sc i q.2.1
 | .inO neg e i,N,sc,e0=>onO (sw e0) λz=>onO (jp z.2.2) λq=>z.2.1 == (if neg=true then CmpOp.NotIn else CmpOp.In)&&chk T e N sc z.1&&q.2 == ("taken":Str)&&ah N sc i q.1
 | .callV _ _,_,_,_=>false
 | .comp2 _ _ _ _,_,_,_=>false
 | .callM f i es,N,sc,e0=>onO (mz e0) λq=>jW N sc T.ms f i (λxs=>chks T es N sc xs) q
noncomputable def chks (T:Tab):List ME->List Str->Scope->List Expr->Bool
 | [],_,_,[]=>true
 | m::ms,N,sc,e::es=>chk T m N sc e&&aq e&&chks T ms N sc es
 | _,_,_,_=>false
end
theorem bD (T:Tab) (i:Nat) (N:List Str) (sc:Scope) (e0:Expr):chk T (.var i) N sc e0=(match e0 with|.Name x _=>ah N sc i x|_=>false):=rfl
theorem bE (T:Tab) (i:Nat) (N:List Str) (sc:Scope) (e0:Expr):chk T (.bor i) N sc e0=(match e0 with|.Name x _=>ah N sc i x|_=>false):=rfl
theorem bF (T:Tab) (v:PV) (N:List Str) (sc:Scope) (e0:Expr):chk T (.cst v) N sc e0=(match e0 with|.Constant c _ _=>lz v c|_=>false):=rfl
theorem aY (T:Tab) (x:Str) (v:PV) (N:List Str) (sc:Scope) (e0:Expr):chk T (.glob x v) N sc e0=(match e0 with|.Name y _=>x == y&&glB sc x&&sx T.gs x v&&ag x|_=>false):=rfl
theorem bG (T:Tab) (op:Op2) (a b:ME) (N:List Str) (sc:Scope) (e0:Expr):chk T (.bin op a b) N sc e0=(match e0 with|.BinOp l o r _=>o == vZ op&&chk T a N sc l&&chk T b N sc r|_=>false):=rfl
theorem bH (T:Tab) (a:ME) (N:List Str) (sc:Scope) (e0:Expr):chk T (.neg a) N sc e0=false:=rfl
theorem bJ (T:Tab) (a:ME) (N:List Str) (sc:Scope) (e0:Expr):chk T (.not a) N sc e0=(match e0 with|.UnaryOp .Not e _=>chk T a N sc e|_=>false):=rfl
theorem bK (T:Tab) (a b:ME) (N:List Str) (sc:Scope) (e0:Expr):chk T (.and a b) N sc e0=(match e0 with|.BoolOp .And (x::y::r) pos=>chk T a N sc x&&oS (λe=>chk T b N sc e) .And pos y r|_=>false):=rfl
theorem cH (T:Tab) (a b:ME) (N:List Str) (sc:Scope) (e0:Expr):chk T (.or a b) N sc e0=(match e0 with|.BoolOp .Or (x::y::r) pos=>chk T a N sc x&&oS (λe=>chk T b N sc e) .Or pos y r|_=>false):=rfl
theorem bM (T:Tab) (c a b:ME) (N:List Str) (sc:Scope) (e0:Expr):chk T (.ite c a b) N sc e0=(match e0 with|.IfExp t x y _=>chk T c N sc t&&chk T a N sc x&&chk T b N sc y&&!aD a&&!aD b|_=>false):=rfl
theorem bN (T:Tab) (op:Cp) (a b:ME) (N:List Str) (sc:Scope) (e0:Expr):chk T (.cmp op a b) N sc e0=(match e0 with|.Compare l [o] [r] _=>o == eJ op&&chk T a N sc l&&chk T b N sc r&&!behindInMarks o r|_=>false):=rfl
theorem aP (T:Tab) (op op':Cp) (a b c:ME) (N:List Str) (sc:Scope) (e0:Expr):chk T (.chain op op' a b c) N sc e0=(match e0 with|.Compare l [o,o'] [m,r] _=>o == eJ op&&o' == eJ op'&&chk T a N sc l&&chk T b N sc m&&chk T c N sc r&&!lastMarks [o,o'] [m,r]|_=>false):=rfl
theorem bO (T:Tab) (es:List ME) (N:List Str) (sc:Scope) (e0:Expr):chk T (.tup es) N sc e0=(match e0 with|.Tuple xs _ _=>chks T es N sc xs&&es.all (λe=>!aD e)|_=>false):=rfl
theorem bP (T:Tab) (es:List ME) (N:List Str) (sc:Scope) (e0:Expr):chk T (.lst es) N sc e0=(match e0 with|.List xs _=>chks T es N sc xs&&es.all (λe=>!aD e)|_=>false):=rfl
theorem bQ (T:Tab) (a i:ME) (N:List Str) (sc:Scope) (e0:Expr):chk T (.idx a i) N sc e0=(match e0 with|.Subscript v s _=>chk T a N sc v&&chk T i N sc s&&bV s|_=>false):=rfl
theorem aQ (T:Tab) (a lo hi:ME) (N:List Str) (sc:Scope) (e0:Expr):chk T (.slice a lo hi) N sc e0=(match e0 with|.Subscript v (.Slice l u none _) _=>chk T a N sc v&&fG (λe=>chk T lo N sc e) (eB lo) l&&fG (λe=>chk T hi N sc e) (eB hi) u|_=>false):=rfl
theorem bR (T:Tab) (b:Blt) (es:List ME) (N:List Str) (sc:Scope) (e0:Expr):chk T (.blt b es) N sc e0=(match e0 with|.Call (.Name f _) args [] _=>f == (kA b:Str)&&glB sc f&&cm sc (λxs=>chks T es N sc xs) es.length b args|_=>false):=rfl
theorem aZ (T:Tab) (f:Nat) (es:List ME) (N:List Str) (sc:Scope) (e0:Expr):chk T (.call f es) N sc e0=(match e0 with|.Call (.Name x _) args [] _=>T.fs[f]? == some x&&glB sc x&&ag x&&chks T es N sc args|_=>false):=rfl
theorem aK (T:Tab) (k:Sk) (src:List ME) (js:List Nat) (cond elt:ME) (N:List Str) (sc:Scope) (e0:Expr):chk T (.comp k src js cond elt) N sc e0=(match e0 with|.ListComp e [⟨.Name x _,it,ifs,0⟩] scope _=>d5 sc N scope x (bY N js) js&&dm sc false (λxs=>chks T src N sc xs) k it&&jr (λc=>chk T cond (x::bY N js) (fV scope sc) c) cond ifs&&chk T elt (x::bY N js) (fV scope sc) e&&!aD elt|_=>false):=rfl
theorem v0 (T:Tab) (a k d:ME) (N:List Str) (sc:Scope) (e0:Expr):chk T (.dget a k d) N sc e0=(match e0 with|.Call (.Attribute o m ap) [x,y] [] cp=>m == ("get":Str)&&kB o&&ap.endLine == cp.line&&chk T a N sc o&&chk T k N sc x&&chk T d N sc y&&aq x&&aq y|_=>false):=rfl
theorem sy (T:Tab) (a k:ME) (N:List Str) (sc:Scope) (e0:Expr):chk T (.dat a k) N sc e0=(match e0 with|.Subscript v s _=>chk T a N sc v&&chk T k N sc s&&bV s|_=>false):=rfl
theorem yA (T:Tab) (neg:Bool) (k a:ME) (N:List Str) (sc:Scope) (e0:Expr):chk T (.dIn neg k a) N sc e0=(match e0 with|.Compare l [o] [r] _=>o == (if neg=true then CmpOp.NotIn else CmpOp.In)&&chk T k N sc l&&chk T a N sc r&&!behindInMarks o r|_=>false):=rfl
noncomputable def b8:ME->Bool
 | .lst _=>true
 | .comp ..=>true
 | .blt .listOf _=>true
 | .blt .sorted _=>true
 | .blt .sortedSet _=>true
 | .blt .sortedKeys _=>true
 | .blt .valuesOf _=>true
 | _=>false
noncomputable def oT (sc:Scope) (t:Str) (tpos:Pos):Expr->Bool
 | .ListComp _ _ s p=>sc.names.lookup t == some .local&&tpos.line == p.line&&!(s.names.any λ(n,k)=>n == t&&(k == .local || k == .cell))
 | _=>false
noncomputable def CG:ME->Bool
 | .comp2 ..=>true
 | _=>false
noncomputable def kC (sc:Scope) (t:Str) (tpos:Pos) (v:Expr) (e:ME):Bool:=oT sc t tpos v&&!CG e
noncomputable def c6 (N:List Str) (sc:Scope):List Nat->List Expr->Bool
 | [],[]=>true
 | i::is,.Name x _::es=>N[i]? == some x&&fo sc x&&ag x&&c6 N sc is es
 | _,_=>false
theorem lA (N:List Str) (sc:Scope) (i:Nat) (is:List Nat) (x:Str) (p:Pos) (es:List Expr):c6 N sc (i::is) (.Name x p::es)=(N[i]? == some x&&fo sc x&&ag x&&c6 N sc is es):=rfl
noncomputable def nQ:Stmt->Option (Str × Pos × Expr)
 | .Assign [.Name x px] v _=>some (x,px,v)
 | _=>none
theorem gD {s:Stmt}{q:Str × Pos × Expr} (h:nQ s=some q):∃ pos,s=.Assign [.Name q.1 q.2.1] q.2.2 pos:=by
 unfold nQ at h
 split at h
 ·cases h;exact ⟨_,rfl⟩
 ·cases h
noncomputable def v3:Stmt->Option (Str × Str × Pos × List Expr × Pos)
 | .Expr (.Call (.Attribute (.Name x _) m ap) args [] cp) _=>some (x,m,ap,args,cp)
 | _=>none
theorem oU {s:Stmt}{q:Str × Str × Pos × List Expr × Pos} (h:v3 s=some q):∃ p pos,s=.Expr (.Call (.Attribute (.Name q.1 p) q.2.1 q.2.2.1) q.2.2.2.1 [] q.2.2.2.2) pos:=by
 unfold v3 at h
 split at h
 ·cases h;exact ⟨_,_,rfl⟩
 ·cases h
noncomputable def yB:Stmt->Option (Str × Expr × Expr)
 | .Assign [.Subscript (.Name x _) s _] v _=>some (x,s,v)
 | _=>none
theorem v4 {s:Stmt}{q:Str × Expr × Expr} (h:yB s=some q):∃ p sp pos,s=.Assign [.Subscript (.Name q.1 p) q.2.1 sp] q.2.2 pos:=by
 unfold yB at h
 split at h
 ·cases h;exact ⟨_,_,_,rfl⟩
 ·cases h
noncomputable def nR:Stmt->Option Expr
 | .Return (some v) _=>some v
 | _=>none
theorem gE {s:Stmt}{v:Expr} (h:nR s=some v):∃ pos,s=.Return (some v) pos:=by
 unfold nR at h
 split at h
 ·cases h;exact ⟨_,rfl⟩
 ·cases h
noncomputable def sA:Expr->Option Str
 | .Name x _=>some x
 | _=>none
theorem sB {e:Expr}{x:Str} (h:sA e=some x):∃ p,e=.Name x p:=by
 unfold sA at h
 split at h
 ·cases h;exact ⟨_,rfl⟩
 ·cases h
noncomputable def yC:Expr->Option (Str × List Expr)
 | .Call (.Name y _) args [] _=>some (y,args)
 | _=>none
theorem v5 {e:Expr}{q:Str × List Expr} (h:yC e=some q):∃ p cp,e=.Call (.Name q.1 p) q.2 [] cp:=by
 unfold yC at h
 split at h
 ·cases h;exact ⟨_,_,rfl⟩
 ·cases h
noncomputable def oV:List Expr->Option Expr
 | [a]=>some a
 | _=>none
theorem jt {l:List Expr}{a:Expr} (h:oV l=some a):l=[a]:=by
 match l,h with
 | [_],h=>cases h;rfl
noncomputable def oW:List Expr->Option (Expr × Expr)
 | [a,b]=>some (a,b)
 | _=>none
theorem sC {l:List Expr}{q:Expr × Expr} (h:oW l=some q):l=[q.1,q.2]:=by
 match l,h with
 | [_,_],h=>cases h;rfl
noncomputable def sD:Expr->Bool
 | .Dict [] [] _=>true
 | _=>false
theorem sE {e:Expr} (h:sD e=true):∃ p,e=.Dict [] [] p:=by
 unfold sD at h
 split at h
 ·exact ⟨_,rfl⟩
 ·cases h
noncomputable def yD:Stmt->Option (Str × Str × Str × Pos × List Expr × Pos)
 | .Expr (.Call (.Attribute (.Attribute (.Name x _) f _) m ap) args [] cp) _=>some (x,f,m,ap,args,cp)
 | _=>none
theorem v6 {s:Stmt}{q:Str × Str × Str × Pos × List Expr × Pos} (h:yD s=some q):∃ p fp pos,s=.Expr (.Call (.Attribute (.Attribute (.Name q.1 p) q.2.1 fp) q.2.2.1 q.2.2.2.1) q.2.2.2.2.1 [] q.2.2.2.2.2) pos:=by
 unfold yD at h
 split at h
 ·cases h;exact ⟨_,_,_,rfl⟩
 ·cases h
noncomputable def sF:Stmt->Option Expr
 | .Expr e _=>some e
 | _=>none
theorem sG {s:Stmt}{e:Expr} (h:sF s=some e):∃ pos,s=.Expr e pos:=by
 unfold sF at h
 split at h
 ·cases h;exact ⟨_,rfl⟩
 ·cases h
noncomputable def yE:Stmt->Option (Stmt × ExceptHandler × List ExceptHandler)
 | .Try [b] (h::t) [] [] _=>some (b,h,t)
 | _=>none
theorem v7 {s:Stmt}{q:Stmt × ExceptHandler × List ExceptHandler} (h:yE s=some q):∃ pos,s=.Try [q.1] (q.2.1::q.2.2) [] [] pos:=by
 unfold yE at h
 split at h
 ·cases h;exact ⟨_,rfl⟩
 ·cases h
noncomputable def yF:Stmt->Option (Option (Str × Pos) × Expr × Pos)
 | .Expr v p=>some (none,v,p)
 | .Assign [.Name x px] v p=>some (some (x,px),v,p)
 | _=>none
theorem v8 {s:Stmt}{q:Option (Str × Pos) × Expr × Pos} (h:yF s=some q):(q.1=none/\s=.Expr q.2.1 q.2.2) \/ ∃ x px,q.1=some (x,px)/\s=.Assign [.Name x px] q.2.1 q.2.2:=by
 unfold yF at h
 split at h
 ·cases h;exact .inl ⟨rfl,rfl⟩
 ·cases h;exact .inr ⟨_,_,rfl,rfl⟩
 ·cases h
noncomputable def sH:ExceptHandler->Option (Str × Option Str × Str × Expr)
 | .ExceptHandler (some (.Name x _)) nm [.Assign [.Name y _] v _] _=>some (x,nm,y,v)
 | _=>none
theorem sI {e:ExceptHandler}{q:Str × Option Str × Str × Expr} (h:sH e=some q):∃ np py p pos,e=.ExceptHandler (some (.Name q.1 np)) q.2.1 [.Assign [.Name q.2.2.1 py] q.2.2.2 p] pos:=by
 unfold sH at h
 split at h
 ·cases h;exact ⟨_,_,_,_,rfl⟩
 ·cases h
noncomputable def nmB (N:List Str) (sc:Scope):Option Nat->Option Str->Bool
 | none,none=>true
 | some k,some n=>N[k]? == some n&&sc.names.lookup n == some .local
 | _,_=>false
noncomputable def yG:Expr->Option (Str × Str)
 | .Call (.Name f _) [.Name e _,.Name d _] [] _=>if f == ("isinstance":Str) then some (e,d) else none
 | _=>none
theorem v9 {e:Expr}{q:Str × Str} (h:yG e=some q):∃ p p1 p2 pos,e=.Call (.Name "isinstance" p) [.Name q.1 p1,.Name q.2 p2] [] pos:=by
 unfold yG at h
 split at h
 ·split at h
  ·rename_i hf
   cases h
   rw [beq_iff_eq.mp hf]
   exact ⟨_,_,_,_,rfl⟩
  ·cases h
 ·cases h
noncomputable def yH:Expr->Option Sc
 | .Constant (.bool b) _ _=>some (.bl b)
 | .Constant (.str x) _ _=>some (.str x)
 | _=>none
theorem v_ {e:Expr}{v:Sc} (h:yH e=some v):(∃ b j p,v=.bl b/\e=.Constant (.bool b) j p) \/ ∃ x j p,v=.str x/\e=.Constant (.str x) j p:=by
 unfold yH at h
 split at h
 ·cases h;exact .inl ⟨_,_,_,rfl,rfl⟩
 ·cases h;exact .inr ⟨_,_,_,rfl,rfl⟩
 ·cases h
noncomputable def yI (es:List Str) (N:List Str) (sc:Scope) (e:Option Nat):HA->Expr->Bool
 | .cst v,x=>onO (yH x) λa=>decide (sc? v=some a)
 | .inc _ _,_=>false
 | .orI _ _,_=>false
 | .isi c,x=>onO (yG x) λq=>onO e λk=>ah N sc k q.1&&q.2 == c&&glB sc q.2&&ag q.2&&glB sc "isinstance"&&(es.contains q.2 || q.2 == ("ValueError":Str))
noncomputable def yJ:Expr->Option (List Expr × Pos)
 | .List xs p=>some (xs,p)
 | _=>none
theorem wa {e:Expr}{q:List Expr × Pos} (h:yJ e=some q):e=.List q.1 q.2:=by
 unfold yJ at h
 split at h
 ·cases h;rfl
 ·cases h
noncomputable def sJ (es:List Str) (N:List Str) (sc:Scope) (e:Option Nat):List HA->List Expr->Bool
 | [],[]=>true
 | a::as,x::xs=>yI es N sc e a x&&sJ es N sc e as xs
 | _,_=>false
noncomputable def AZ (es:List Str) (N:List Str) (sc:Scope) (e:Option Nat):HE->Expr->Bool
 | .one a,x=>yI es N sc e a x
 | .lst as,x=>onO (yJ x) λq=>sJ es N sc e as q.1
noncomputable def A0 (es:List Str) (N:List Str) (sc:Scope) (h:HH) (x:ExceptHandler):Bool:=onO (sH x) λq=>q.1 == h.cls&&glB sc q.1&&ag q.1&&es.contains q.1&&N[h.i]? == some q.2.2.1&&fo sc q.2.2.1&&ag q.2.2.1&&nmB N sc h.e q.2.1&&decide (h.e ≠ some h.i)&&AZ es N sc h.e h.v q.2.2.2
noncomputable def oX (es:List Str) (N:List Str) (sc:Scope):List HH->List ExceptHandler->Bool
 | [],[]=>true
 | h::hs,x::xs=>A0 es N sc h x&&oX es N sc hs xs
 | _,_=>false
noncomputable def yK:Stmt->Option Str
 | .Raise (some (.Call (.Name x _) [.Constant (.str _) _ _] [] _)) none _=>some x
 | _=>none
theorem wb {s:Stmt}{x:Str} (h:yK s=some x):∃ np tx j p1 cpos pos,s=.Raise (some (.Call (.Name x np) [.Constant (.str tx) j p1] [] cpos)) none pos:=by
 unfold yK at h
 split at h
 ·cases h;exact ⟨_,_,_,_,_,_,rfl⟩
 ·cases h
noncomputable def yL:Expr->Option (Str × Str × List Expr)
 | .Call (.Name f _) (.Name y _::args) [] _=>some (f,y,args)
 | _=>none
theorem wc {e:Expr}{q:Str × Str × List Expr} (h:yL e=some q):∃ p yp cp,e=.Call (.Name q.1 p) (.Name q.2.1 yp::q.2.2) [] cp:=by
 unfold yL at h
 split at h
 ·cases h;exact ⟨_,_,_,rfl⟩
 ·cases h
noncomputable def A1 (T:Tab) (N:List Str) (sc:Scope) (x:MX) (e:Expr):Bool:=match x.meth with
 | true=>onO (mz e) λc=>jW N sc T.ms x.f x.i (λxs=>chks T x.es N sc xs) c
 | false=>onO (yL e) λq=>T.fs[x.f]? == some q.1&&glB sc q.1&&ag q.1&&ah N sc x.i q.2.1&&chks T x.es N sc q.2.2
noncomputable def nmX (N:List Str) (sc:Scope) (i:Nat):Expr->Bool
 | .Name x _=>ah N sc i x
 | _=>false
theorem sK {N:List Str}{sc:Scope}{i:Nat}{e:Expr} (h:nmX N sc i e=true):∃ x p,e=.Name x p/\ah N sc i x=true:=by
 unfold nmX at h
 split at h
 ·exact ⟨_,_,rfl,h⟩
 ·cases h
noncomputable def yM:Expr->Option (Expr × Expr × Str × Str × Pos × Pos)
 | .BoolOp .And [a,.Compare b [.Eq] [.Call (.Attribute (.Name y _) m ap) [] [] cp] _] _=>some (a,b,y,m,ap,cp)
 | _=>none
theorem wd {e:Expr}{q:Expr × Expr × Str × Str × Pos × Pos} (h:yM e=some q):∃ yp p1 p2,e=.BoolOp .And [q.1,.Compare q.2.1 [.Eq] [.Call (.Attribute (.Name q.2.2.1 yp) q.2.2.2.1 q.2.2.2.2.1) [] [] q.2.2.2.2.2] p1] p2:=by
 unfold yM at h
 split at h
 ·cases h;exact ⟨_,_,_,rfl⟩
 ·cases h
noncomputable def sL:Expr->Option Expr
 | .UnaryOp .Not v _=>some v
 | _=>none
theorem we {e v:Expr} (h:sL e=some v):∃ pos,e=.UnaryOp .Not v pos:=by
 unfold sL at h
 split at h
 ·cases h;exact ⟨_,rfl⟩
 ·cases h
noncomputable def yN:Expr->Option (Str × Str × Str × Pos × Pos)
 | .Call (.Attribute (.Attribute (.Name x _) f _) m ap) [] [] cp=>some (x,f,m,ap,cp)
 | _=>none
theorem wf {e:Expr}{q:Str × Str × Str × Pos × Pos} (h:yN e=some q):∃ p fp,e=.Call (.Attribute (.Attribute (.Name q.1 p) q.2.1 fp) q.2.2.1 q.2.2.2.1) [] [] q.2.2.2.2:=by
 unfold yN at h
 split at h
 ·cases h;exact ⟨_,_,rfl⟩
 ·cases h
mutual
noncomputable def cI (T:Tab) (N:List Str) (sc:Scope):MS->Stmt->Bool
 | .set i e,s0=>onO (nQ s0) λq=>N[i]? == some q.1&&fo sc q.1&&ag q.1&&chk T e N sc q.2.2&&!aD e&&(bi q.2.2 || kC sc q.1 q.2.1 q.2.2 e)
 | .setOwn i e,s0=>onO (nQ s0) λq=>N[i]? == some q.1&&fo sc q.1&&ag q.1&&chk T e N sc q.2.2&&b8 e&&(bi q.2.2 || kC sc q.1 q.2.1 q.2.2 e)
 | .append i e,s0=>onO (v3 s0) λq=>onO (oV q.2.2.2.1) λv=>ah N sc i q.1&&q.2.1 == ("append":Str)&&chk T e N sc v&&!aD e&&aq v&&q.2.2.1.endLine == q.2.2.2.2.line
 | .extend i e,s0=>onO (v3 s0) λq=>onO (oV q.2.2.2.1) λv=>ah N sc i q.1&&q.2.1 == ("extend":Str)&&chk T e N sc v&&aq v&&q.2.2.1.endLine == q.2.2.2.2.line
 | .mkO i es,s0=>onO (nQ s0) λq=>onO (yC q.2.2) λc=>N[i]? == some q.1&&fo sc q.1&&ag q.1&&c.1 == ("Table":Str)&&glB sc c.1&&chks T es N sc c.2&&(es.all λm=>!aD m)&&!c.2.isEmpty
 | .appO i e,s0=>onO (yD s0) λq=>onO (oV q.2.2.2.2.1) λv=>ah N sc i q.1&&q.2.1 == ("taken":Str)&&q.2.2.1 == ("append":Str)&&chk T e N sc v&&!aD e&&aq v&&q.2.2.2.1.endLine == q.2.2.2.2.2.line
 | .retT e,s0=>onO (nR s0) λv=>chk T e N sc v&&!aD e
 | .takeO (some j) i f es,s0=>onO (nQ s0) λq=>onO (mz q.2.2) λc=>N[j]? == some q.1&&fo sc q.1&&ag q.1&&(jW N sc T.ms f i (λxs=>chks T es N sc xs) c&&(es.all λm=>!aD m))
 | .iteX _ _ _,_=>false
 | .retX _,_=>false
 | .retPop i,s0=>onO (nR s0) λv=>onO (yN v) λq=>ah N sc i q.1&&q.2.1 == ("taken":Str)&&q.2.2.1 == ("pop":Str)&&q.2.2.2.1.endLine == q.2.2.2.2.line
 | .iteB i j f a,s0=>(match s0 with|.If t x [] _=>onO (sL t) (λv=>onO (mB v) λc=>onO (oW c.2) λz=>T.fs[f]? == some c.1&&glB sc c.1&&ag c.1&&nmX N sc i z.1&&nmX N sc j z.2&&!(i == j))&&chkSs T N sc a x|_=>false)
 | .retAP w x i,s0=>onO (nR s0) λv=>onO (yM v) λq=>chk T w N sc q.1&&chk T x N sc q.2.1&&ah N sc i q.2.2.1&&q.2.2.2.1 == ("pop":Str)&&q.2.2.2.2.1.endLine == q.2.2.2.2.2.line
 | .tryO i f es hs,s0=>onO (yE s0) λq=>onO (yF q.1) λb=>onO (mz b.2.1) λc=>b.1.isNone&&jW N sc T.ms f i (λxs=>chks T es N sc xs) c&&oX T.es N sc hs (q.2.1::q.2.2)
 | .takeO none i f es,s0=>onO (sF s0) λv=>onO (mz v) λc=>jW N sc T.ms f i (λxs=>chks T es N sc xs) c&&(es.all λm=>!aD m)
 | .setIdx _ _ _,_=>false
 | .unpack _ _,_=>false
 | .ite c a b,s0=>(match s0 with|.If t x y _=>chk T c N sc t&&chkSs T N sc a x&&chkSs T N sc b y|_=>false)
 | .for1 i k src body,s0=>(match s0 with|.For (.Name x _) it b [] _=>N[i]? == some x&&fo sc x&&ag x&&dm sc false (λxs=>chks T src N sc xs) k it&&chkSs T N sc body b|_=>false)
 | .forT is k src body,s0=>(match s0 with|.For (.Tuple ts _ _) it b [] _=>c6 N sc is ts&&dm sc true (λxs=>chks T src N sc xs) k it&&chkSs T N sc body b|_=>false)
 | .ret e,s0=>onO (nR s0) λv=>chk T e N sc v&&!aD e
 | .retOwn i,s0=>onO (nR s0) λv=>onO (sA v) λx=>ah N sc i x
 | .never,_=>true
 | .raise c,s0=>onO (yK s0) λx=>x == c&&glB sc x&&ag x&&T.es.contains x
 | .tryC _ _ _ _,_=>false
 | .newD _ i,s0=>onO (nQ s0) λq=>sD q.2.2&&(N[i]? == some q.1&&fo sc q.1&&ag q.1)
 | .dput i k e,s0=>onO (yB s0) λq=>ah N sc i q.1&&chk T k N sc q.2.1&&bV q.2.1&&chk T e N sc q.2.2&&!aD e&&bi q.2.2
 | _,_=>false
noncomputable def chkSs (T:Tab) (N:List Str) (sc:Scope):List MS->List Stmt->Bool
 | [],[]=>true
 | .freeze _::_,_=>false
 | m::ms,s::ss=>cI T N sc m s&&chkSs T N sc ms ss
 | _,_=>false
end
theorem wg (T:Tab) (N:List Str) (sc:Scope) (i:Nat) (k:Sk) (src:List ME) (body:List MS) (s0:Stmt):cI T N sc (.for1 i k src body) s0=(match s0 with|.For (.Name x _) it b [] _=>N[i]? == some x&&fo sc x&&ag x&&dm sc false (λxs=>chks T src N sc xs) k it&&chkSs T N sc body b|_=>false):=rfl
theorem wj (T:Tab) (N:List Str) (sc:Scope) (is:List Nat) (k:Sk) (src:List ME) (body:List MS) (s0:Stmt):cI T N sc (.forT is k src body) s0=(match s0 with|.For (.Tuple ts _ _) it b [] _=>c6 N sc is ts&&dm sc true (λxs=>chks T src N sc xs) k it&&chkSs T N sc body b|_=>false):=rfl
end MM
namespace MM
open PySem PySem.Spec PyProof.Rows L2
theorem ju {f:PV->PV->Option Bool} (hf:∀ x b,f x x=some b->b=true):∀ (xs:List PV) {b:Bool},eqL f xs xs=some b->b=true
 | [],b,h=>by simp [eqL] at h;exact h
 | x::xs,b,h=>by
  simp only [eqL,Option.bind_eq_some_iff,Option.map_eq_some_iff] at h
  obtain ⟨p,h1,q,h2,rfl⟩:=h
  rw [hf x p h1,ju hf xs h2];rfl
theorem gF:∀ (n:Nat) (x:PV) {b:Bool},eqF n x x=some b->b=true
 | n,.non,b,h=>by simp [eqF] at h;exact h
 | n,.bl _,b,h=>by simp [eqF] at h;exact h
 | n,.int _,b,h=>by simp [eqF] at h;exact h
 | n,.str _,b,h=>by simp [eqF] at h;exact h
 | 0,.tup _,b,h=>by simp [eqF] at h
 | 0,.lst _,b,h=>by simp [eqF] at h
 | n + 1,.tup xs,b,h=>by rw [eqF] at h;exact ju (λx b=>gF n x) xs h
 | n + 1,.lst xs,b,h=>by rw [eqF,if_pos rfl] at h;exact ju (λx b=>gF n x) xs h
 | n,.dI _,b,h=>by cases n <;> simp [eqF] at h
theorem eC {n:Nat}{x y:PV}{b:Bool} (h:eqF n x y=some b):isD x=false/\isD y=false:=by
 cases x <;> cases y <;> first|exact ⟨rfl,rfl⟩|(cases n <;> simp [eqF] at h)
theorem gG {f:PV->PV->Option Bool}:∀ (xs ys:List PV) {b:Bool},eqL f xs ys=some b ->
  (∀ (j:Nat) x y,xs[j]?=some x->ys[j]?=some y->∃ c,f x y=some c) /\
   b=((List.range (min xs.length ys.length)).all (λj=>(f (xs.getD j .non) (ys.getD j .non)).getD false)&&xs.length == ys.length)
 | [],[],b,h=>by simp [eqL] at h;subst h;simp
 | [],y::ys,b,h=>by simp [eqL] at h;subst h;simp
 | x::xs,[],b,h=>by simp [eqL] at h;subst h;simp
 | x::xs,y::ys,b,h=>by
  simp only [eqL,Option.bind_eq_some_iff,Option.map_eq_some_iff] at h
  obtain ⟨p,h1,q,h2,rfl⟩:=h
  obtain ⟨ih1,ih2⟩:=gG xs ys h2
  refine ⟨λj x' y' e1 e2=>?_,?_⟩
  ·cases j with
   | zero=>simp at e1 e2;subst e1 e2;exact ⟨p,h1⟩
   | succ j=>exact ih1 j x' y' (by simpa using e1) (by simpa using e2)
  ·rw [ih2]
   have hm:min (x::xs).length (y::ys).length=min xs.length ys.length + 1:=by simp only [List.length_cons];omega
   rw [hm,List.range_succ_eq_map,List.all_cons,List.all_map]
   have hl:((x::xs).length == (y::ys).length)=(xs.length == ys.length):=by
    rw [Bool.eq_iff_iff];simp
   rw [hl,Bool.and_assoc]
   simp only [List.getD_cons_zero,h1,Option.getD_some,Function.comp_def,List.getD_cons_succ]
theorem oY {f:PV->Option Bool}:∀ (xs:List PV) {b:Bool},inL f xs=some b->(∀ x ∈ xs,∃ c,f x=some c)/\b=xs.any λx=>(f x).getD false
 | [],b,h=>by simp [inL] at h;subst h;simp
 | x::xs,b,h=>by
  simp only [inL,Option.bind_eq_some_iff,Option.map_eq_some_iff] at h
  obtain ⟨p,h1,q,h2,rfl⟩:=h
  obtain ⟨ih1,ih2⟩:=oY xs h2
  refine ⟨λy hy=>?_,?_⟩
  ·rcases List.mem_cons.mp hy with rfl|hy
   ·exact ⟨p,h1⟩
   ·exact ih1 y hy
  ·rw [List.any_cons,h1,ih2];rfl
section
variable {X:Cx}{pins:List (Addr × Obj)}{σ:St}{H:Hp}{s:Shared}
theorem mC (I:Inv X pins σ H s) {a:Addr}{xs ys:List V} (h1:SqL X.K H a xs) (h2:SqT X.K H a ys):False:=by
 obtain ⟨its,_,p,_⟩:=I.list h1
 obtain ⟨its2,_,q,_⟩:=I.tuple h2
 exact SeqAt.ne_of_list_tuple p.isList (show s.heap.IsTuple a its2.toArray from q) rfl
theorem oZ {H:Hp}{a:Addr}{d:DD} (h:Rd H a (fF d)):IsD H a:=by
 cases d with
 | k kvs=>exact .inl ⟨_,h⟩
 | t kvs=>exact .inr ⟨_,h⟩
theorem iO (I:Inv X pins σ H s) {a:Addr}{xs:List V}{d:DD} (h1:SqL X.K H a xs \/ SqT X.K H a xs) (h2:Rd H a (fF d)):False:=by
 obtain ⟨o,ho,hc⟩:=(rV I (oZ h2)).1
 rcases h1 with h1|h1
 ·obtain ⟨its,_,p,_⟩:=I.list h1
  obtain ⟨o',ho',hc',_⟩:=p.isList
  rw [ho] at ho'
  cases ho'
  rw [hc] at hc'
  exact absurd hc' (by decide)
 ·obtain ⟨its,_,⟨o',ho',hc',_⟩,_⟩:=I.tuple h1
  rw [ho] at ho'
  cases ho'
  rw [hc] at hc'
  exact absurd hc' (by decide)
theorem Sc.v_inj:∀ {a b:Sc},a.v=b.v->a=b:=by
 intro a b h
 cases a <;> cases b <;> simp [Sc.v] at h ⊢ <;> exact h
theorem mD:∀ {a b:List (Int × Sc)},fE a=fE b->a=b
 | [],[],_=>rfl
 | [],_::_,h=>by cases h
 | _::_,[],h=>by cases h
 | (k,v)::a,(k',v')::b,h=>by
  simp only [fE,List.map_cons,List.cons.injEq,Prod.mk.injEq,Sum.inl.injEq] at h
  obtain ⟨⟨h1,h2⟩,h3⟩:=h
  rw [h1,Sc.v_inj h2,mD h3]
theorem iP:∀ {a b:List Int},(a.map Sum.inl:List Key)=b.map Sum.inl->a=b
 | [],[],_=>rfl
 | [],_::_,h=>by cases h
 | _::_,[],h=>by cases h
 | x::a,y::b,h=>by
  simp only [List.map_cons,List.cons.injEq,Sum.inl.injEq] at h
  rw [h.1,iP h.2]
theorem mE:∀ {a b:List (List Int × Sc)},gz a=gz b->a=b
 | [],[],_=>rfl
 | [],_::_,h=>by cases h
 | _::_,[],h=>by cases h
 | (k,v)::a,(k',v')::b,h=>by
  simp only [gz,List.map_cons,List.cons.injEq,Prod.mk.injEq] at h
  obtain ⟨⟨h1,h2⟩,h3⟩:=h
  rw [iP h1,Sc.v_inj h2,mE h3]
theorem mF {a b:DD} (h:fF a=fF b):a=b:=by
 cases a <;> cases b
 ·rw [mD (HO.dK.inj h)]
 ·cases h
 ·cases h
 ·rw [mE (HO.dT.inj h)]
theorem yO {H:Hp}{a:Addr}{x y:DD} (h:Rd H a (fF x)) (g:Rd H a (fF y)):x=y:=by
 have ne:∀ (x:DD) (o:Obj) (u:HO),fF x ≠ .frz o u:=λx o u e=>by cases x <;> cases e
 rcases h with h|⟨o,h⟩ <;> rcases g with g|⟨o',g⟩
 ·rw [h] at g;exact mF (Option.some.inj g)
 ·rw [h] at g;exact absurd (Option.some.inj g) (ne x _ _)
 ·rw [g] at h;exact absurd (Option.some.inj h) (ne y _ _)
 ·rw [h] at g;exact mF (HO.frz.inj (Option.some.inj g)).2
mutual
theorem iQ (I:Inv X pins σ H s):∀ (x y:PV) {u:V},Rep X.K H x u->Rep X.K H y u->x=y
 | .non,y,u,h,g=>by rw [Rep] at h;subst h;cases y <;> simp [Rep] at g ⊢
 | .bl b,y,u,h,g=>by rw [Rep] at h;subst h;cases y <;> simp [Rep] at g ⊢;exact g
 | .int b,y,u,h,g=>by rw [Rep] at h;subst h;cases y <;> simp [Rep] at g ⊢;exact g
 | .str b,y,u,h,g=>by rw [Rep] at h;subst h;cases y <;> simp [Rep] at g ⊢;exact g
 | .tup xs,y,u,h,g=>by
  rw [Rep] at h
  obtain ⟨a,us,rfl,q,r⟩:=h
  cases y with
  | tup ys =>
   rw [Rep] at g
   obtain ⟨b,vs,e,q',r'⟩:=g
   cases e
   have:=I.tuple_inj (SqT.of q) (SqT.of q')
   subst this
   rw [reps_inj I xs ys r r']
  | lst ys =>
   rw [Rep] at g
   obtain ⟨b,vs,e,q',r'⟩:=g
   cases e
   exact (mC I q' (SqT.of q)).elim
  | dI kvs =>
   rw [Rep] at g
   obtain ⟨b,e,q'⟩:=g
   cases e
   exact (iO I (.inr (SqT.of q)) q').elim
  | _=>simp [Rep] at g
 | .lst xs,y,u,h,g=>by
  rw [Rep] at h
  obtain ⟨a,us,rfl,q,r⟩:=h
  cases y with
  | lst ys =>
   rw [Rep] at g
   obtain ⟨b,vs,e,q',r'⟩:=g
   cases e
   have:=I.list_inj q q'
   subst this
   rw [reps_inj I xs ys r r']
  | tup ys =>
   rw [Rep] at g
   obtain ⟨b,vs,e,q',r'⟩:=g
   cases e
   exact (mC I q (SqT.of q')).elim
  | dI kvs =>
   rw [Rep] at g
   obtain ⟨b,e,q'⟩:=g
   cases e
   exact (iO I (.inl q) q').elim
  | _=>simp [Rep] at g
 | .dI kvs,y,u,h,g=>by
  rw [Rep] at h
  obtain ⟨a,rfl,q⟩:=h
  cases y with
  | dI ks =>
   rw [Rep] at g
   obtain ⟨b,e,q'⟩:=g
   cases e
   rw [yO q q']
  | tup ys =>
   rw [Rep] at g
   obtain ⟨b,vs,e,q',r'⟩:=g
   cases e
   exact (iO I (.inr (SqT.of q')) q).elim
  | lst ys =>
   rw [Rep] at g
   obtain ⟨b,vs,e,q',r'⟩:=g
   cases e
   exact (iO I (.inl q') q).elim
  | _=>simp [Rep] at g
theorem reps_inj (I:Inv X pins σ H s):∀ (xs ys:List PV) {us:List V},Reps X.K H xs us->Reps X.K H ys us->xs=ys
 | [],ys,us,h,g=>by
  rw [Reps] at h;subst h
  cases ys with
  | nil=>rfl
  | cons y ys=>rw [Reps] at g;obtain ⟨_,_,e,_⟩:=g;cases e
 | x::xs,ys,us,h,g=>by
  rw [Reps] at h
  obtain ⟨u,r,rfl,q,t⟩:=h
  cases ys with
  | nil=>rw [Reps] at g;cases g
  | cons y ys =>
   rw [Reps] at g
   obtain ⟨u',r',e,q',t'⟩:=g
   cases e
   rw [iQ I x y q q',reps_inj I xs ys t t']
end
theorem Rep.tupAt (I:Inv X pins σ H s) {xs:List PV}{u:V}{v:Value} (h:Rep X.K H (.tup xs) u) (r:aw u v) :
  ∃ (a:Addr) (us:List V) (its:List Value),u=.ref a/\v=.ref a/\Reps X.K H xs us/\ar us its/\s.heap.IsTuple a its.toArray/\xs.length=its.length:=by
 rw [Rep] at h
 obtain ⟨a,us,rfl,q,t⟩:=h
 obtain ⟨its,rv,p,_⟩:=I.tuple (SqT.of q)
 exact ⟨a,us,its,rfl,r,t,rv,p,t.length.trans rv.length⟩
theorem Rep.lstAt (I:Inv X pins σ H s) {xs:List PV}{u:V}{v:Value} (h:Rep X.K H (.lst xs) u) (r:aw u v) :
  ∃ (a:Addr) (us:List V) (its:List Value),u=.ref a/\v=.ref a/\Reps X.K H xs us/\ar us its/\s.heap.IsList a its.toArray/\xs.length=its.length:=by
 rw [Rep] at h
 obtain ⟨a,us,rfl,q,t⟩:=h
 obtain ⟨its,rv,p,_⟩:=I.list q
 exact ⟨a,us,its,rfl,r,t,rv,p.isList,t.length.trans rv.length⟩
theorem gH {A:Around}{n:Nat} (ih:∀ (x y:PV) {ux uy:V}{vx vy:Value}{b:Bool}{A:Around},A.units + n < cLine->eqF n x y=some b->Rep X.K H x ux->Rep X.K H y uy->aw ux vx->aw uy vy->SeqAt.EqAt A s vx vy b)
  {xs ys:List PV}{us ws:List V}{its its2:List Value} (hu:A.units + (n + 1) < cLine) (rx:Reps X.K H xs us) (ry:Reps X.K H ys ws) (vx:ar us its) (vy:ar ws its2)
  (hs:∀ (j:Nat) x y,xs[j]?=some x->ys[j]?=some y->∃ c,eqF n x y=some c) :
  ∀ j (h1:j < its.toArray.size) (h2:j < its2.toArray.size),SeqAt.EqAt A.in1 s its.toArray[j] its2.toArray[j] ((eqF n (xs.getD j .non) (ys.getD j .non)).getD false):=λj h1 h2=>by
 have l1:=rx.length.trans vx.length
 have l2:=ry.length.trans vy.length
 simp only [List.size_toArray] at h1 h2
 have e1:xs[j]?=some xs[j]:=List.getElem?_eq_getElem (by omega)
 have e2:ys[j]?=some ys[j]:=List.getElem?_eq_getElem (by omega)
 obtain ⟨ux,q1,p1⟩:=rx.get e1
 obtain ⟨uy,q2,p2⟩:=ry.get e2
 obtain ⟨wx,q3,p3⟩:=vx.get q1
 obtain ⟨wy,q4,p4⟩:=vy.get q2
 obtain ⟨c,hc⟩:=hs j _ _ e1 e2
 have d1:xs.getD j .non=xs[j]:=by simp [List.getD,e1]
 have d2:ys.getD j .non=ys[j]:=by simp [List.getD,e2]
 have g1:its.toArray[j]=wx:=by
  have:its[j]?=some its[j]:=List.getElem?_eq_getElem h1
  rw [this] at q3;simpa using q3
 have g2:its2.toArray[j]=wy:=by
  have:its2[j]?=some its2[j]:=List.getElem?_eq_getElem h2
  rw [this] at q4;simpa using q4
 rw [d1,d2,hc,g1,g2]
 exact ih _ _ (show A.units + 1 + n < cLine by omega) hc p1 p2 p3 p4
theorem wk {A:Around}{n:Nat} (I:Inv X pins σ H s) (ih:∀ (x y:PV) {ux uy:V}{vx vy:Value}{b:Bool}{A:Around},A.units + n < cLine->eqF n x y=some b->Rep X.K H x ux->Rep X.K H y uy->aw ux vx->aw uy vy->SeqAt.EqAt A s vx vy b)
  (hu:A.units + (n + 1) < cLine):(∀ {xs ys:List PV}{ux uy:V}{vx vy:Value}{b:Bool},eqF (n + 1) (.tup xs) (.tup ys)=some b->Rep X.K H (.tup xs) ux->Rep X.K H (.tup ys) uy->aw ux vx->aw uy vy->SeqAt.RcAt A s vx vy b) /\
   (∀ {xs ys:List PV}{ux uy:V}{vx vy:Value}{b:Bool},eqF (n + 1) (.lst xs) (.lst ys)=some b->Rep X.K H (.lst xs) ux->Rep X.K H (.lst ys) uy->aw ux vx->aw uy vy->SeqAt.RcAt A s vx vy b):=by
 refine ⟨λ{xs ys ux uy vx vy b} h rx ry r1 r2=>?_,λ{xs ys ux uy vx vy b} h rx ry r1 r2=>?_⟩
 ·obtain ⟨a,us,its,rfl,rfl,t1,w1,p1,l1⟩:=rx.tupAt I r1
  obtain ⟨c,ws,its2,rfl,rfl,t2,w2,p2,l2⟩:=ry.tupAt I r2
  rw [eqF] at h
  obtain ⟨hs,hb⟩:=gG xs ys h
  have q:=SeqAt.RcAt.tuples (A:=A) p1 p2 (by omega) (gH ih hu t1 t2 w1 w2 hs)
  rw [hb]
  simpa [l1,l2] using q
 ·obtain ⟨a,us,its,rfl,rfl,t1,w1,p1,l1⟩:=rx.lstAt I r1
  obtain ⟨c,ws,its2,rfl,rfl,t2,w2,p2,l2⟩:=ry.lstAt I r2
  rw [eqF] at h
  by_cases hl:xs.length=ys.length
  ·rw [if_pos hl] at h
   obtain ⟨hs,hb⟩:=gG xs ys h
   have q:=SeqAt.RcAt.lists (A:=A) p1 p2 (by simp only [List.size_toArray];omega) (by omega) (gH ih hu t1 t2 w1 w2 hs)
   rw [hb,hl,Nat.min_self]
   simpa [<- l1,hl] using q
  ·rw [if_neg hl] at h
   cases h
   exact SeqAt.RcAt.lists_lengths (A:=A) p1 p2 (by simp only [List.size_toArray,bne_iff_ne];omega) (by omega)
theorem cg {x:PV}{u:V} (hd:isD x=false) (h:Rep X.K H x u):(∃ xs,x=.tup xs) \/ (∃ xs,x=.lst xs) \/ fX u=true:=by
 cases x with
 | tup xs=>exact .inl ⟨xs,rfl⟩
 | lst xs=>exact .inr (.inl ⟨xs,rfl⟩)
 | non=>rw [Rep] at h;subst h;exact .inr (.inr rfl)
 | bl b=>rw [Rep] at h;subst h;exact .inr (.inr rfl)
 | int b=>rw [Rep] at h;subst h;exact .inr (.inr rfl)
 | str b=>rw [Rep] at h;subst h;exact .inr (.inr rfl)
 | dI _=>cases hd
theorem eV {A:Around} (hu:A.units < cLine) {u:V}{v:Value} (f:fX u=true) (r:aw u v) {a:Addr}{its:Array Value} (p:s.heap.IsTuple a its) :
  SeqAt.EqAt A s v (.ref a) false/\SeqAt.EqAt A s (.ref a) v false/\SeqAt.RcAt A s v (.ref a) false/\SeqAt.RcAt A s (.ref a) v false:=by
 cases u with
 | non=>cases r;exact ⟨.none_tuple p hu,.tuple_none p hu,.none_tuple p hu,.tuple_none p hu⟩
 | bl b=>cases r;exact ⟨.bool_tuple b p hu,.tuple_bool b p hu,.bool_tuple b p hu,.tuple_bool b p hu⟩
 | int b=>obtain ⟨t,rfl⟩:=r;exact ⟨.int_tuple b t p hu,.tuple_int b t p hu,.int_tuple b t p hu,.tuple_int b t p hu⟩
 | str b=>obtain ⟨t,rfl⟩:=r;exact ⟨.str_tuple b t p hu,.tuple_str b t p hu,.str_tuple b t p hu,.tuple_str b t p hu⟩
 | _=>exact absurd (show false=true from f) Bool.false_ne_true
theorem fO {A:Around} (hu:A.units < cLine) {u:V}{v:Value} (f:fX u=true) (r:aw u v) {a:Addr}{its:Array Value} (p:s.heap.IsList a its) :
  SeqAt.EqAt A s v (.ref a) false/\SeqAt.EqAt A s (.ref a) v false/\SeqAt.RcAt A s v (.ref a) false/\SeqAt.RcAt A s (.ref a) v false:=by
 cases u with
 | non=>cases r;exact ⟨.none_list p hu,.list_none p hu,.none_list p hu,.list_none p hu⟩
 | bl b=>cases r;exact ⟨.bool_list b p hu,.list_bool b p hu,.bool_list b p hu,.list_bool b p hu⟩
 | int b=>obtain ⟨t,rfl⟩:=r;exact ⟨.int_list b t p hu,.list_int b t p hu,.int_list b t p hu,.list_int b t p hu⟩
 | str b=>obtain ⟨t,rfl⟩:=r;exact ⟨.str_list b t p hu,.list_str b t p hu,.str_list b t p hu,.list_str b t p hu⟩
 | _=>exact absurd (show false=true from f) Bool.false_ne_true
theorem sM {A:Around}{y x:V}{u v:Value} (ry:aw y u) (rx:aw x v) (fy:fX y=true) (fx:fX x=true):SeqAt.RcAt A s u v (eqV y x):=by
 cases y with
 | non =>
  cases ry
  cases x with
  | non=>cases rx;exact SeqAt.RcAt.none_none
  | bl b=>cases rx;exact SeqAt.RcAt.none_bool b
  | int b=>obtain ⟨t,rfl⟩:=rx;exact SeqAt.RcAt.none_int b t
  | str b=>obtain ⟨t,rfl⟩:=rx;exact SeqAt.RcAt.none_str b t
  | _=>exact absurd (show false=true from fx) Bool.false_ne_true
 | bl a =>
  cases ry
  cases x with
  | non=>cases rx;exact SeqAt.RcAt.bool_none a
  | bl b=>cases rx;exact SeqAt.RcAt.bool_bool a b
  | int b=>obtain ⟨t,rfl⟩:=rx;exact SeqAt.RcAt.bool_int a b t
  | str b=>obtain ⟨t,rfl⟩:=rx;exact SeqAt.RcAt.bool_str a b t
  | _=>exact absurd (show false=true from fx) Bool.false_ne_true
 | int a =>
  obtain ⟨t',rfl⟩:=ry
  cases x with
  | non=>cases rx;exact SeqAt.RcAt.int_none a t'
  | bl b=>cases rx;exact SeqAt.RcAt.int_bool a t' b
  | int b=>obtain ⟨t,rfl⟩:=rx;exact SeqAt.RcAt.int_int a t' b t
  | str b=>obtain ⟨t,rfl⟩:=rx;exact SeqAt.RcAt.int_str a t' b t
  | _=>exact absurd (show false=true from fx) Bool.false_ne_true
 | str a =>
  obtain ⟨t',rfl⟩:=ry
  cases x with
  | non=>cases rx;exact SeqAt.RcAt.str_none a t'
  | bl b=>cases rx;exact SeqAt.RcAt.str_bool a t' b
  | int b=>obtain ⟨t,rfl⟩:=rx;exact SeqAt.RcAt.str_int a t' b t
  | str b=>obtain ⟨t,rfl⟩:=rx;exact SeqAt.RcAt.str_str a t' b t
  | _=>exact absurd (show false=true from fx) Bool.false_ne_true
 | _=>exact absurd (show false=true from fy) Bool.false_ne_true
theorem jv {n:Nat}{x y:PV}{u v:V}{b:Bool} (rx:Rep X.K H x u) (ry:Rep X.K H y v) (fx:fX u=true) (fy:fX v=true) (h:eqF n x y=some b):b=eqV u v:=by
 cases x <;> cases y <;> simp only [Rep] at rx ry
 all_goals first
  | (obtain ⟨_,_,rfl,_⟩:=rx;exact absurd (show false=true from fx) Bool.false_ne_true)
  | (obtain ⟨_,_,rfl,_⟩:=ry;exact absurd (show false=true from fy) Bool.false_ne_true)
  | (obtain ⟨_,rfl,_⟩:=rx;exact absurd (show false=true from fx) Bool.false_ne_true)
  | (obtain ⟨_,rfl,_⟩:=ry;exact absurd (show false=true from fy) Bool.false_ne_true)
  | (subst rx ry;simp only [eqF,Option.some.injEq] at h;subst h;rfl)
theorem lC (I:Inv X pins σ H s):∀ (n:Nat) (x y:PV) {ux uy:V}{vx vy:Value}{b:Bool}{A:Around},A.units + n < cLine->eqF n x y=some b->Rep X.K H x ux->Rep X.K H y uy->aw ux vx->aw uy vy ->
  SeqAt.EqAt A s vx vy b/\SeqAt.RcAt A s vx vy b:=by
 intro n
 induction n with
 | zero =>
  intro x y ux uy vx vy b A hu h rx ry r1 r2
  have hu0:A.units < cLine:=by omega
  rcases cg (eC h).1 rx with ⟨xs,rfl⟩|⟨xs,rfl⟩|fx
  ·obtain ⟨a,us,its,rfl,rfl,t1,w1,p1,l1⟩:=rx.tupAt I r1
   rcases cg (eC h).2 ry with ⟨ys,rfl⟩|⟨ys,rfl⟩|fy
   ·simp [eqF] at h
   ·obtain ⟨c,ws,its2,rfl,rfl,t2,w2,p2,l2⟩:=ry.lstAt I r2
    simp [eqF] at h;subst h
    exact ⟨.tuple_list p1 p2 hu0,.tuple_list p1 p2 hu0⟩
   ·obtain ⟨z1,z2,z3,z4⟩:=eV hu0 fy r2 p1
    have:b=false:=by cases y <;> simp [eqF,Rep] at h ry <;> first|exact h.symm|exact h|(obtain ⟨_,rfl,_⟩:=ry;exact absurd (show false=true from fy) Bool.false_ne_true)
    subst this
    exact ⟨z2,z4⟩
  ·obtain ⟨a,us,its,rfl,rfl,t1,w1,p1,l1⟩:=rx.lstAt I r1
   rcases cg (eC h).2 ry with ⟨ys,rfl⟩|⟨ys,rfl⟩|fy
   ·obtain ⟨c,ws,its2,rfl,rfl,t2,w2,p2,l2⟩:=ry.tupAt I r2
    simp [eqF] at h;subst h
    exact ⟨.list_tuple p1 p2 hu0,.list_tuple p1 p2 hu0⟩
   ·simp [eqF] at h
   ·obtain ⟨z1,z2,z3,z4⟩:=fO hu0 fy r2 p1
    have:b=false:=by cases y <;> simp [eqF,Rep] at h ry <;> first|exact h.symm|exact h|(obtain ⟨_,rfl,_⟩:=ry;exact absurd (show false=true from fy) Bool.false_ne_true)
    subst this
    exact ⟨z2,z4⟩
  ·rcases cg (eC h).2 ry with ⟨ys,rfl⟩|⟨ys,rfl⟩|fy
   ·obtain ⟨c,ws,its2,rfl,rfl,t2,w2,p2,l2⟩:=ry.tupAt I r2
    obtain ⟨z1,z2,z3,z4⟩:=eV hu0 fx r1 p2
    have:b=false:=by cases x <;> simp [eqF,Rep] at h rx <;> first|exact h.symm|exact h|(obtain ⟨_,rfl,_⟩:=rx;exact absurd (show false=true from fx) Bool.false_ne_true)
    subst this
    exact ⟨z1,z3⟩
   ·obtain ⟨c,ws,its2,rfl,rfl,t2,w2,p2,l2⟩:=ry.lstAt I r2
    obtain ⟨z1,z2,z3,z4⟩:=fO hu0 fx r1 p2
    have:b=false:=by cases x <;> simp [eqF,Rep] at h rx <;> first|exact h.symm|exact h|(obtain ⟨_,rfl,_⟩:=rx;exact absurd (show false=true from fx) Bool.false_ne_true)
    subst this
    exact ⟨z1,z3⟩
   ·rw [jv rx ry fx fy h]
    exact ⟨rK r1 r2 fx fy,sM r1 r2 fx fy⟩
 | succ n ih =>
  intro x y ux uy vx vy b A hu h rx ry r1 r2
  have hu0:A.units < cLine:=by omega
  obtain ⟨kt,kl⟩:=wk I (λx y {_ _ _ _ _ _} a1 a2 a3 a4 a5 a6=>(ih x y a1 a2 a3 a4 a5 a6).1) hu
  rcases cg (eC h).1 rx with ⟨xs,rfl⟩|⟨xs,rfl⟩|fx
  ·obtain ⟨a,us,its,e1,e1',t1,w1,p1,l1⟩:=rx.tupAt I r1
   rcases cg (eC h).2 ry with ⟨ys,rfl⟩|⟨ys,rfl⟩|fy
   ·have q:=kt h rx ry r1 r2
    obtain ⟨c,ws,its2,e2,e2',t2,w2,p2,l2⟩:=ry.tupAt I r2
    subst e1 e1' e2 e2'
    refine ⟨?_,q⟩
    by_cases hac:a=c
    ·subst hac
     have e:=iQ I _ _ rx ry
     rw [e] at h
     rw [gF _ _ h]
     exact .same _
    ·exact .of_refs hac q
   ·obtain ⟨c,ws,its2,e2,e2',t2,w2,p2,l2⟩:=ry.lstAt I r2
    subst e1 e1' e2 e2'
    simp [eqF] at h;subst h
    exact ⟨.tuple_list p1 p2 hu0,.tuple_list p1 p2 hu0⟩
   ·subst e1 e1'
    obtain ⟨z1,z2,z3,z4⟩:=eV hu0 fy r2 p1
    have:b=false:=by cases y <;> simp [eqF,Rep] at h ry <;> first|exact h.symm|exact h|(obtain ⟨_,rfl,_⟩:=ry;exact absurd (show false=true from fy) Bool.false_ne_true)
    subst this
    exact ⟨z2,z4⟩
  ·obtain ⟨a,us,its,e1,e1',t1,w1,p1,l1⟩:=rx.lstAt I r1
   rcases cg (eC h).2 ry with ⟨ys,rfl⟩|⟨ys,rfl⟩|fy
   ·obtain ⟨c,ws,its2,e2,e2',t2,w2,p2,l2⟩:=ry.tupAt I r2
    subst e1 e1' e2 e2'
    simp [eqF] at h;subst h
    exact ⟨.list_tuple p1 p2 hu0,.list_tuple p1 p2 hu0⟩
   ·have q:=kl h rx ry r1 r2
    obtain ⟨c,ws,its2,e2,e2',t2,w2,p2,l2⟩:=ry.lstAt I r2
    subst e1 e1' e2 e2'
    refine ⟨?_,q⟩
    by_cases hac:a=c
    ·subst hac
     have e:=iQ I _ _ rx ry
     rw [e] at h
     rw [gF _ _ h]
     exact .same _
    ·exact .of_refs hac q
   ·subst e1 e1'
    obtain ⟨z1,z2,z3,z4⟩:=fO hu0 fy r2 p1
    have:b=false:=by cases y <;> simp [eqF,Rep] at h ry <;> first|exact h.symm|exact h|(obtain ⟨_,rfl,_⟩:=ry;exact absurd (show false=true from fy) Bool.false_ne_true)
    subst this
    exact ⟨z2,z4⟩
  ·rcases cg (eC h).2 ry with ⟨ys,rfl⟩|⟨ys,rfl⟩|fy
   ·obtain ⟨c,ws,its2,rfl,rfl,t2,w2,p2,l2⟩:=ry.tupAt I r2
    obtain ⟨z1,z2,z3,z4⟩:=eV hu0 fx r1 p2
    have:b=false:=by cases x <;> simp [eqF,Rep] at h rx <;> first|exact h.symm|exact h|(obtain ⟨_,rfl,_⟩:=rx;exact absurd (show false=true from fx) Bool.false_ne_true)
    subst this
    exact ⟨z1,z3⟩
   ·obtain ⟨c,ws,its2,rfl,rfl,t2,w2,p2,l2⟩:=ry.lstAt I r2
    obtain ⟨z1,z2,z3,z4⟩:=fO hu0 fx r1 p2
    have:b=false:=by cases x <;> simp [eqF,Rep] at h rx <;> first|exact h.symm|exact h|(obtain ⟨_,rfl,_⟩:=rx;exact absurd (show false=true from fx) Bool.false_ne_true)
    subst this
    exact ⟨z1,z3⟩
   ·rw [jv rx ry fx fy h]
    exact ⟨rK r1 r2 fx fy,sM r1 r2 fx fy⟩
end
section
variable {X:Cx}
theorem yP (hu:X.A.units + 101 < cLine):OpR X (compareOp .Eq) (λux uy H Q=>∃ x y b,Rep X.K H x ux/\Rep X.K H y uy/\eqF 100 x y=some b/\Q (.bl b) H):=by
 intro pins s σ H ux uy v u Q I rx ry h
 obtain ⟨x,y,b,r1,r2,e,q⟩:=h
 exact (lC I 100 x y (by omega) e r1 r2 rx ry).2 _ _ _ _ ⟨.bl b,H,I,rfl,q⟩
theorem yQ (hu:X.A.units + 101 < cLine):OpR X (compareOp .NotEq) (λux uy H Q=>∃ x y b,Rep X.K H x ux/\Rep X.K H y uy/\nM x y=true/\eqF 100 x y=some b/\Q (.bl (!b)) H):=by
 intro pins s σ H ux uy v u Q I rx ry h
 obtain ⟨x,y,b,r1,r2,ok,e,q⟩:=h
 rcases cg (eC e).1 r1 with ⟨xs,rfl⟩|⟨xs,rfl⟩|fx
 ·cases y with
  | tup ys =>
   obtain ⟨a,us,its,rfl,rfl,t1,w1,p1,l1⟩:=r1.tupAt I rx
   obtain ⟨c,ws,its2,rfl,rfl,t2,w2,p2,l2⟩:=r2.tupAt I ry
   rw [eqF] at e
   obtain ⟨hs,hb⟩:=gG xs ys e
   obtain ⟨⟨cls,dd,data,sl⟩,ho,hc,n,hd⟩:=id p1
   obtain ⟨⟨cls2,dd2,data2,sl2⟩,ho2,hc2,n2,hd2⟩:=id p2
   simp only at hc hd hc2 hd2
   subst hc hd hc2 hd2
   refine richCompare_meets_room (op:=.NotEq) ⟨_,ho,rfl⟩ ⟨_,ho2,rfl⟩ PySem.F.slot_tuple_ne PySem.F.entry_tuple_ne (PySem.F.args_tuple_ne_2 _ _) (SeqAt.tuple_neAt a c its.toArray its2.toArray n n2 dd dd2 sl sl2 _)
    ⟨ho,ho2,gH (n:=99) (λx y {_ _ _ _ _ _} a1 a2 a3 a4 a5 a6=>(lC I 99 x y a1 a2 a3 a4 a5 a6).1) (by omega) t1 t2 w1 w2 hs,?_⟩ (by omega)
   refine ⟨(λx=>nomatch x),⟨.bl (!b),H,I,?_,q⟩⟩
   rw [hb]
   simp [l1,l2,L2.aw]
  | _=>cases ok
 ·cases y with
  | lst ys =>
   obtain ⟨a,us,its,rfl,rfl,t1,w1,p1,l1⟩:=r1.lstAt I rx
   obtain ⟨c,ws,its2,rfl,rfl,t2,w2,p2,l2⟩:=r2.lstAt I ry
   rw [eqF] at e
   obtain ⟨⟨cls,dd,data,sl⟩,ho,hc,n,hd⟩:=id p1
   obtain ⟨⟨cls2,dd2,data2,sl2⟩,ho2,hc2,n2,hd2⟩:=id p2
   simp only at hc hd hc2 hd2
   subst hc hd hc2 hd2
   by_cases hl:xs.length=ys.length
   ·rw [if_pos hl] at e
    obtain ⟨hs,hb⟩:=gG xs ys e
    refine richCompare_meets_room (op:=.NotEq) ⟨_,ho,rfl⟩ ⟨_,ho2,rfl⟩ PySem.F.slot_list_ne PySem.F.entry_list_ne (PySem.F.args_list_ne_2 _ _) (SeqAt.list_neAt a c its.toArray its2.toArray n n2 dd dd2 sl sl2 (by simp only [List.size_toArray];omega) _)
     ⟨ho,ho2,gH (n:=99) (λx y {_ _ _ _ _ _} a1 a2 a3 a4 a5 a6=>(lC I 99 x y a1 a2 a3 a4 a5 a6).1) (by omega) t1 t2 w1 w2 hs,?_⟩ (by omega)
    refine ⟨(λx=>nomatch x),⟨.bl (!b),H,I,?_,q⟩⟩
    rw [hb,hl,Nat.min_self]
    simp [<- l1,hl,L2.aw]
   ·rw [if_neg hl] at e
    cases e
    refine richCompare_meets_room (op:=.NotEq) ⟨_,ho,rfl⟩ ⟨_,ho2,rfl⟩ PySem.F.slot_list_ne PySem.F.entry_list_ne (PySem.F.args_list_ne_2 _ _) (SeqAt.list_ne_lengthsAt a c its.toArray its2.toArray n n2 dd dd2 sl sl2 (by simp only [List.size_toArray,bne_iff_ne];omega)) ⟨ho,ho2,?_⟩ (by omega)
    exact ⟨(λx=>nomatch x),⟨.bl true,H,I,rfl,q⟩⟩
  | _=>cases ok
 ·have fy:fX uy=true:=by
   rcases cg (eC e).2 r2 with ⟨ys,rfl⟩|⟨ys,rfl⟩|fy
   ·cases x <;> cases ok
    obtain ⟨_,_,rfl,_⟩:∃ a us,ux=V.ref a/\_:=by rw [Rep] at r1;exact r1
    exact absurd (show false=true from fx) Bool.false_ne_true
   ·cases x <;> cases ok
    obtain ⟨_,_,rfl,_⟩:∃ a us,ux=V.ref a/\_:=by rw [Rep] at r1;exact r1
    exact absurd (show false=true from fx) Bool.false_ne_true
   ·exact fy
  have hb:=jv r1 r2 fx fy e
  subst hb
  refine AA pins s σ H ux uy v u Q I rx ry ?_
  have key:scal ux uy=true/\decide (ux=uy)=eqV ux uy:=by
   cases x <;> cases y <;> simp only [Rep] at r1 r2 <;> first
    | (obtain ⟨_,_,rfl,_⟩:=r1;exact absurd (show false=true from fx) Bool.false_ne_true)
    | (obtain ⟨_,_,rfl,_⟩:=r2;exact absurd (show false=true from fy) Bool.false_ne_true)
    | (obtain ⟨_,rfl,_⟩:=r1;exact absurd (show false=true from fx) Bool.false_ne_true)
    | (obtain ⟨_,rfl,_⟩:=r2;exact absurd (show false=true from fy) Bool.false_ne_true)
    | (subst r1 r2;first|(cases ok;done)|exact ⟨rfl,by first|exact oB|exact rj|exact oC|exact decide_eq_true rfl|exact decide_eq_false (λz=>by cases z)⟩)
  exact ⟨key.1,by rw [key.2];exact q⟩
theorem gI {pins:List (Addr × Obj)}{σ:St}{H:Hp}{s:Shared} (I:Inv X pins σ H s) (hu:X.A.units + 101 < cLine) {x:PV}{ux:V}{vx:Value} (rx:Rep X.K H x ux) (r1:aw ux vx) {xs:List PV}{us:List V}{its:List Value} (t:Reps X.K H xs us) (w:ar us its) {b:Bool} (h:isIn x xs=some b) :
  ∃ e:Value->Bool,(∀ y,y ∈ its.toArray->SeqAt.EqAt X.A.in1 s y vx (e y))/\its.toArray.any e=b:=by
 obtain ⟨h1,h2⟩:=oY xs h
 classical
 have uniq:∀ (z:PV) (u:V) (y:Value),aw u y->Rep X.K H z u->∀ p:(∃ z u,aw u y/\Rep X.K H z u),p.choose=z:=λz u y r q p=>by
  obtain ⟨u',r',q'⟩:=p.choose_spec
  have e:=r.inj r'
  subst e
  exact iQ I _ _ q' q
 refine ⟨λy=>if p:∃ z u,aw u y/\Rep X.K H z u then (eqF 100 p.choose x).getD false else false,?_,?_⟩
 ·intro y hy
  obtain ⟨j,hj,e⟩:=List.getElem_of_mem (by simpa using hy:y ∈ its)
  have ej:its[j]?=some y:=by rw [List.getElem?_eq_getElem hj,e]
  have l1:=w.length
  obtain ⟨uy,e1⟩:∃ uy,us[j]?=some uy:=⟨_,List.getElem?_eq_getElem (by omega)⟩
  obtain ⟨wy,e2,ry⟩:=w.get e1
  rw [ej] at e2
  cases e2
  obtain ⟨z,e3,rz⟩:=t.get' e1
  obtain ⟨c,hc⟩:=h1 z (List.mem_of_getElem? e3)
  have q:=(lC I 100 z x (A:=X.A.in1) (show X.A.units + 1 + 100 < cLine by omega) hc rz rx ry r1).1
  have p:∃ z u,aw u y/\Rep X.K H z u:=⟨z,uy,ry,rz⟩
  have e4:=uniq z uy y ry rz p
  simp only [p,dite_true,e4,hc,Option.getD_some]
  exact q
 ·rw [h2]
  simp only [List.any_toArray]
  clear h h1 h2
  induction xs generalizing us its with
  | nil =>
   rw [Reps] at t
   subst t
   cases w
   rfl
  | cons z zs ih =>
   rw [Reps] at t
   obtain ⟨u,r,rfl,q,t⟩:=t
   cases w with
   | cons rv w =>
    rename_i y ys
    have p:∃ z u,aw u y/\Rep X.K H z u:=⟨z,u,rv,q⟩
    have e4:=uniq z u y rv q p
    rw [List.any_cons,List.any_cons,ih t w]
    simp only [p,dite_true,e4]
theorem yR (hu:X.A.units + 101 < cLine):OpR X (compareOp .In) (λux uy H Q=>∃ x xs a us b,Rep X.K H x ux/\uy=.ref a/\(SqL X.K H a us \/ SqT X.K H a us)/\Reps X.K H xs us/\isIn x xs=some b/\Q (.bl b) H):=by
 intro pins s σ H ux uy v u Q I rx ry h
 obtain ⟨x,xs,a,us,b,r1,rfl,hq,r2,e,q⟩:=h
 cases ry
 rcases hq with hq|hq
 ·obtain ⟨its,r,pl,hz⟩:=I.list hq
  obtain ⟨f,h1,h2⟩:=gI I hu r1 rx r2 r e
  refine SeqAt.in_listAt f pl.isList h1 ?_
  rw [h2]
  exact ⟨.bl b,H,I,rfl,q⟩
 ·obtain ⟨its,r,pl,hz⟩:=I.tuple hq
  obtain ⟨f,h1,h2⟩:=gI I hu r1 rx r2 r e
  refine SeqAt.in_tupleAt f pl h1 ?_
  rw [h2]
  exact ⟨.bl b,H,I,rfl,q⟩
theorem qo (hu:X.A.units + 101 < cLine):OpR X (compareOp .NotIn) (λux uy H Q=>∃ x xs a us b,Rep X.K H x ux/\uy=.ref a/\(SqL X.K H a us \/ SqT X.K H a us)/\Reps X.K H xs us/\isIn x xs=some b/\Q (.bl (!b)) H):=by
 intro pins s σ H ux uy v u Q I rx ry h
 obtain ⟨x,xs,a,us,b,r1,rfl,hq,r2,e,q⟩:=h
 cases ry
 rcases hq with hq|hq
 ·obtain ⟨its,r,pl,hz⟩:=I.list hq
  obtain ⟨f,h1,h2⟩:=gI I hu r1 rx r2 r e
  refine SeqAt.notIn_listAt f pl.isList h1 ?_
  rw [h2]
  exact ⟨.bl (!b),H,I,rfl,q⟩
 ·obtain ⟨its,r,pl,hz⟩:=I.tuple hq
  obtain ⟨f,h1,h2⟩:=gI I hu r1 rx r2 r e
  refine SeqAt.notIn_tupleAt f pl h1 ?_
  rw [h2]
  exact ⟨.bl (!b),H,I,rfl,q⟩
end
end MM
namespace L2
open PySem PySem.Spec PyProof.Rows
theorem PE.imp {X:Cx}{e:Expr}{t t':TE} (h:PE X e t) (i:∀ σ H Q,t' σ H Q->t σ H Q):PE X e t':=λpins s σ H Q I q=>h pins s σ H Q I (i σ H Q q)
theorem PT.imp {X:Cx}{e:Expr}{t t':TT} (h:PT X e t) (i:∀ σ H Q,t' σ H Q->t σ H Q):PT X e t':=λpins s σ H Q I q=>h pins s σ H Q I (i σ H Q q)
theorem PA.imp {X:Cx}{e:List Expr}{t t':TA} (h:PA X e t) (i:∀ σ H Q,t' σ H Q->t σ H Q):PA X e t':=λpos pins s σ H Q I q=>h pos pins s σ H Q I (i σ H Q q)
theorem PS.imp {X:Cx}{e:Stmt}{t t':TS} (h:PS X e t) (i:∀ D σ H,t' D σ H->t D σ H):PS X e t':=λpins s σ H D I q=>h pins s σ H D I (i D σ H q)
theorem PSs.imp {X:Cx}{e:List Stmt}{t t':TS} (h:PSs X e t) (i:∀ D σ H,t' D σ H->t D σ H):PSs X e t':=λpins s σ H D I q=>h pins s σ H D I (i D σ H q)
theorem PI.imp {X:Cx}{tg e:Expr}{t t':TI} (h:PI X tg e t) (i:∀ σ H R,t' σ H R->t σ H R):PI X tg e t':=λpins s σ H R I q=>h pins s σ H R I (i σ H R q)
end L2
namespace MM
open PySem PySem.Spec PyProof.Rows L2
noncomputable def bn (H:Hp) (ms:List Addr):Hp:=λb=>if b ∈ ms then none else H b
theorem c4 {H:Hp}{O:List Addr}{a l:Addr} (ha:a ∈ O) (hl:l ∈ O):aj (bn H [a,l]) O=aj H O:=by
 funext b
 by_cases hb:b ∈ O
 ·rw [c5 hb,c5 hb]
 ·rw [aJ hb,aJ hb]
  unfold bn
  rw [if_neg λz=>hb (by
   rcases List.mem_cons.mp z with rfl|z
   ·exact ha
   ·rw [List.mem_singleton.mp z];exact hl)]
theorem jw {α β:Type}{F G:α->β->Prop} (h:∀ a b,F a b->G a b):∀ {as:List α}{bs:List β},Paired F as bs->Paired G as bs
 | _,_,.nil=>.nil
 | _,_,.cons x t=>.cons (h _ _ x) (jw h t)
noncomputable def cJ (K:PySem.W.Frag) (O:List Addr) (H:Hp):MV->V->Prop
 | .val v,u=>Rep K (aj H O) v u
 | .brw xs,u=>∃ a us,u=.ref a/\SqL K H a us/\Reps K (aj H O) xs us
 | .own _,_=>False
 | .ownD _,_=>False
 | .ownO _ _ _,_=>False
 | .brwO fs xs,u=>∃ a,u=.ref a/\eA K H (aj H O) fs xs a
 | .brwD kvs,u=>∃ a,u=.ref a/\Rd H a (fF kvs)
noncomputable def spM (K:PySem.W.Frag) (cal:Cal) (f:Nat):Sp:=λvs H Q _ =>
 ∃ (O:List Addr) (args:List MV) (r:PV),(∀ a ∈ O,H a ≠ none)/\Paired (cJ K O H) args vs/\cal f args=some r/\∀ u H',af H H'->Rep K (aj H' O) r u->Q u H'
noncomputable def spF (K:PySem.W.Frag) (cal:Cal) (f:Nat):Sp:=λvs H Q _ =>
 ∃ (O:List Addr) (args:List MV) (xs:List PV),(∀ a ∈ O,H a ≠ none)/\Paired (cJ K O H) args vs/\cal (f + 1000) args=some (.lst xs)/\∀ p us H',af H H'->H p=none->H' p=some (.lst us)->Reps K (aj H' (p::O)) xs us->Q (.ref p) H'
noncomputable def spT (K:PySem.W.Frag) (cal:Cal) (f:Nat):Sp:=λvs H Q _ =>
 ∃ (O:List Addr) (a l:Addr) (fs xs:List PV) (as:List MV) (ws:List V) (v:Sc) (ys:List PV),vs=.ref a::ws/\(∀ b ∈ O,H b ≠ none)/\b7 K (λ_=>none) O H fs xs a l/\Paired (cJ K O (bn H [a,l])) as ws/\cal (f + 3000) (.ownO true fs xs::as)=some (.tup [v.pv,.lst ys]) /\
  ∀ l' H',(∀ b o,b ≠ a->b ≠ l->H b=some o->H' b=some o)->(l'=l \/ H l'=none)->b7 K (λ_=>none) (l'::O.filter λb=>decide (b ≠ l)) H' fs ys a l'->Q v.v H'
noncomputable def spB (K:PySem.W.Frag) (cal:Cal) (f:Nat):Sp:=λvs H Q _ =>
 ∃ (O:List Addr) (a l c:Addr) (fs xs zs:List PV) (us:List V) (v:Sc) (ys:List PV),vs=[.ref a,.ref c]/\(∀ b ∈ O,H b ≠ none)/\b7 K (λ_=>none) O H fs xs a l/\H c=some (.lst us)/\c ≠ a/\c ≠ l/\c ∈ O/\Reps K (aj H O) zs us/\cal (f + 6000) [.ownO true fs xs,.brw zs]=some (.tup [v.pv,.lst ys]) /\
  ∀ l' H',(∀ b o,b ≠ a->b ≠ l->b ≠ c->H b=some o->H' b=some o)->(l'=l \/ H l'=none)->b7 K (λ_=>none) (l'::O.filter λb=>decide (b ≠ l)) H' fs ys a l'->H' c=some (.lst us.dropLast)->Q v.v H'
noncomputable def mG (c r o:V) (l:Addr):List (Str × V):=dH "taken" (.ref l) (dH "opener" o (dH "ribbons" r (dH "hole_count" c [])))
noncomputable def spI (K:PySem.W.Frag) (C:Addr):Sp:=λvs H Q _ =>
 ∃ (x dx la:Addr) (c r o:V),vs=[.ref x,.ref la,o]/\H x=some (.ins C dx [])/\SqT K H la [c,r] /\
  ∀ (l:Addr) (H':Hp),H l=none->H' x=some (.ins C dx (mG c r o l))->H' l=some (.lst [])->(∀ b u,b ≠ x->H b=some u->H' b=some u)->Q .non H'
noncomputable def spE (K:PySem.W.Frag) (mg:Str->Option Value) (es:List Str) (cal:Cal) (f:Nat):Sp:=λvs H Q E =>
 ∃ (O:List Addr) (args:List MV) (r:PV),(∀ a ∈ O,H a ≠ none)/\Paired (cJ K O H) args vs/\cal (f + 5000) args=some r /\
  ((∃ v,r=.tup [v]/\∀ u H',af H H'->Rep K (aj H' O) v u->Q u H') \/ ∃ c,r=.str c/\∀ C H',es.contains c=true->mg c=some (.ref C)->af H H'->E (.ref C) none H')
noncomputable def CH (K:PySem.W.Frag) (C:Addr):Option (List Value):=match K.lookup C with
 | some ⟨_,_,.cls cd,_⟩=>(match cd.mro with
  | _::ms=>some ms
  | []=>none)
 | _=>none
noncomputable def A2 (K:PySem.W.Frag) (c d:Str) (C:Addr) (ms:List Value):Bool:=match PySem.W.nsIn K mainGlobals d with
 | some (some (.ref D))=>(Value.ref C::ms).contains (.ref D) == fW c d&&PySem.W.kitOne K (.ref C) (.ref D) == some (fW c d)
 | _=>false
noncomputable def mH (K:PySem.W.Frag) (es:List Str):Bool:=PySem.W.nsIn K mainGlobals "ValueError" == some none&&es.all λc=>match PySem.W.nsIn K mainGlobals c with
 | some (some (.ref C))=>(match CH K C with
  | some ms=>dN K C ms&&jm K C&&PySem.W.kitOne K (.ref C) (.type "ValueError") == some true&&es.all λd=>A2 K c d C ms
  | none=>false)
 | _=>false
noncomputable def fH:List String:=["len","tuple","list","sorted","any","all","sum","max","min","int","bool","str","isinstance","set","range","enumerate","reversed"]
noncomputable def toV:PV->V
 | .non=>.non
 | .bl b=>.bl b
 | .int i=>.int i
 | .str x=>.str x
 | _=>.non
structure Gf (X:Cx) (T:Tab) (k:Nat) (cal:Cal):Prop where
 calm:X.calm=true
 room:cX k X.A
 fns:∀ (f:Nat) (x:Str),T.fs[f]?=some x->ag x=true->∃ (fa:Addr) (fd:FuncData) (ps:List Str),X.mg x=some (.ref fa)/\PySem.W.keepIn X.K (.ref fa)=true/\aN X.K fd ps []/\cf X.prog X.w X.K X.mg X.base CX0 k fa fd ps (spM X.K cal f)/\∀ l,T.ds[f]?=some l->∃ vs,aN X.K fd ps vs/\ar (l.map Sc.v) vs
 blt:∀ x ∈ fH,X.mg (x:Str)=none
 gs:∀ p ∈ T.gs,∃ u,X.mg p.1=some u/\aw (toV p.2) u
 cls:∀ C,IsC X.K C->Cls X.K C/\(∀ x ∈ gd,dJ X.K C x)/\dJ X.K C "taken"
 meths:∀ (f:Nat) (m:Str),T.ms[f]?=some (some m)->∀ C,IsC X.K C->∃ (fa:Addr) (fd:FuncData) (ps:List Str),jP X.K C m fa/\aN X.K fd ps []/\cf X.prog X.w X.K X.mg X.base CX0 k fa fd ps (spM X.K cal f)
 methsT:∀ (f:Nat) (m:Str),T.ms[f]?=some (some m)->∀ C,IsC X.K C->∃ (fa:Addr) (fd:FuncData) (ps:List Str),jP X.K C m fa/\aN X.K fd ps []/\cf X.prog X.w X.K X.mg X.base CX0 k fa fd ps (spT X.K cal f)
 lvl:cal 4000 [] ≠ none->cX 2 X.A
 ini:cal 4000 [] ≠ none->∃ C,IsC X.K C/\X.mg ("Table":Str)=some (.ref C)/\∃ (fa:Addr) (fd:FuncData) (ps:List Str),Mk X.K C fa/\aN X.K fd ps []/\cf X.prog X.w X.K X.mg X.base CX0 1 fa fd ps (spI X.K C)/\∃ vs,aN X.K fd ps vs/\ar [V.str "weaver"] vs
 fnsF:∀ (f:Nat) (x:Str),T.fs[f]?=some x->ag x=true->∃ (fa:Addr) (fd:FuncData) (ps:List Str),X.mg x=some (.ref fa)/\PySem.W.keepIn X.K (.ref fa)=true/\aN X.K fd ps []/\cf X.prog X.w X.K X.mg X.base CX0 k fa fd ps (spF X.K cal f)
 fnsB:∀ (f:Nat) (x:Str),T.fs[f]?=some x->ag x=true->∃ (fa:Addr) (fd:FuncData) (ps:List Str),X.mg x=some (.ref fa)/\PySem.W.keepIn X.K (.ref fa)=true/\aN X.K fd ps []/\cf X.prog X.w X.K X.mg X.base CX0 k fa fd ps (spB X.K cal f)
 fnsT:∀ (f:Nat) (x:Str),T.fs[f]?=some x->ag x=true->∃ (fa:Addr) (fd:FuncData) (ps:List Str),X.mg x=some (.ref fa)/\PySem.W.keepIn X.K (.ref fa)=true/\aN X.K fd ps []/\cf X.prog X.w X.K X.mg X.base CX0 k fa fd ps (spT X.K cal f)
 errs:mH X.K T.es=true
 mgs:∀ c u,PySem.W.nsIn X.K mainGlobals c=some u->X.mg c=u
 fnsE:∀ (f:Nat) (x:Str),T.fs[f]?=some x->ag x=true->∃ (fa:Addr) (fd:FuncData) (ps:List Str),X.mg x=some (.ref fa)/\PySem.W.keepIn X.K (.ref fa)=true/\aN X.K fd ps []/\cf X.prog X.w X.K X.mg X.base (CXE X.prog X.w) k fa fd ps (spE X.K X.mg T.es cal f)
 methsE:∀ (f:Nat) (m:Str),T.ms[f]?=some (some m)->∀ C,IsC X.K C->∃ (fa:Addr) (fd:FuncData) (ps:List Str),jP X.K C m fa/\aN X.K fd ps []/\cf X.prog X.w X.K X.mg X.base (CXE X.prog X.w) k fa fd ps (spE X.K X.mg T.es cal f)
theorem Gf.units {X:Cx}{T:Tab}{k:Nat}{cal:Cal} (g:Gf X T k cal):X.A.units + 200 < cLine:=by have:=g.room.un;omega
noncomputable def Got (K:PySem.W.Frag) (H:Hp) (O:List Addr) (me:ME) (v:PV) (u:V):Prop:=a7 K H O v u/\(aD me=false->Rep K (aj H O) v u)
noncomputable def tE (K:PySem.W.Frag) (cal:Cal) (me:ME):TE:=λσ H Q=>∃ B O₀ O ρ v,az K B O₀ O H ρ σ/\ev cal me ρ=some v/\∀ u H',af H H'->Got K H' O me v u->Q u H'
noncomputable def tT (K:PySem.W.Frag) (cal:Cal) (me:ME):TT:=λσ H Q=>∃ B O₀ O ρ b,az K B O₀ O H ρ σ/\evB cal me ρ=some b/\∀ H',af H H'->Q b H'
noncomputable def CI (K:PySem.W.Frag) (H:Hp) (O:List Addr) (ms:List ME) (vs:List PV) (us:List V):Prop:=Paired (a7 K H O) vs us/\((ms.all λm=>!aD m)=true->Reps K (aj H O) vs us)
noncomputable def tEs (K:PySem.W.Frag) (cal:Cal) (ms:List ME):TA:=λσ H Q=>∃ B O₀ O ρ vs,az K B O₀ O H ρ σ/\evs cal ms ρ=some vs/\∀ us H',af H H'->CI K H' O ms vs us->Q us H'
noncomputable def tAs (K:PySem.W.Frag) (cal:Cal) (ms:List ME):TA:=λσ H Q=>∃ B O₀ O ρ vs,az K B O₀ O H ρ σ/\evA cal ms ρ=some vs/\∀ us H',af H H'->Paired (cJ K O H') vs us->Q us H'
section
variable {K:PySem.W.Frag}{H H':Hp}{O:List Addr}
theorem Got.of {me:ME}{v:PV}{u:V} (h:Rep K (aj H O) v u):Got K H O me v u:=⟨.inl h,λ_=>h⟩
theorem Got.scal {me:ME}{v:PV}{u:V} (h:∀ F,Rep K F v u):Got K H O me v u:=.of (h _)
theorem Got.mono {me:ME}{v:PV}{u:V} (s:af H H') (h:Got K H O me v u):Got K H' O me v u:=⟨h.1.mono s,λe=>Rep.mono (am s) _ (h.2 e)⟩
theorem ce (F:Hp) (b:Bool):Rep K F (.bl b) (.bl b):=by rw [Rep]
theorem cK (F:Hp) (b:Int):Rep K F (.int b) (.int b):=by rw [Rep]
theorem lD (F:Hp) (b:Str):Rep K F (.str b) (.str b):=by rw [Rep]
theorem iR (F:Hp):Rep K F .non .non:=by rw [Rep]
theorem gJ {H1:Hp}{p:Addr}{xs:List PV}{us:List V} (hO:∀ a ∈ O,H1 a ≠ none) (hp:H1 p=none) (h:Reps K (aj H1 O) xs us):Rep K (aj (upd H1 p (.tup us)) O) (.tup xs) (.ref p):=by
 rw [Rep]
 refine ⟨p,us,rfl,?_,Reps.mono (am (a8 hp _)) _ h⟩
 rw [aJ (λz=>hO p z hp)]
 exact av
theorem jx {H1:Hp}{p:Addr}{xs:List PV}{us:List V} (hO:∀ a ∈ O,H1 a ≠ none) (hp:H1 p=none) (h:Reps K (aj H1 O) xs us):Rep K (aj (upd H1 p (.lst us)) O) (.lst xs) (.ref p):=by
 rw [Rep]
 refine ⟨p,us,rfl,SqL.of ?_,Reps.mono (am (a8 hp _)) _ h⟩
 rw [aJ (λz=>hO p z hp)]
 exact av
theorem aT (s:af H H') (h:∀ a ∈ O,H a ≠ none):∀ a ∈ O,H' a ≠ none:=λa ha e=>h a ha (s.free e)
theorem eK {n:Nat} (h:n <= 10000):n <= sizeLine:=Nat.le_trans h (by decide)
end
section
variable {X:Cx}{T:Tab}{k:Nat}{cal:Cal}
theorem A3 {sc:Scope}{x:Str} (h:yz sc x=true):Vis sc x:=by
 unfold yz at h
 simp only [Bool.or_eq_true,beq_iff_eq] at h
 rcases h with (h|h)|h
 ·exact .inl h
 ·exact .inr (.inl h)
 ·exact .inr (.inr h)
theorem f6 {sc:Scope}{x:Str} (h:fo sc x=true):Loc sc x:=by
 unfold fo at h
 simp only [Bool.or_eq_true,beq_iff_eq] at h
 exact h
theorem cM {x:Str} (h:ag x=true):(x == ("__debug__":Str))=false/\(x == ("__classdict__":Str))=false/\x ≠ "__name__":=by
 unfold ag at h
 simp only [Bool.and_eq_true,Bool.not_eq_true'] at h
 obtain ⟨⟨h1,h2⟩,h3⟩:=h
 exact ⟨h1,h2,λe=>by rw [e] at h3;simp at h3⟩
theorem da {x:Str} (h:glB X.env.scope x=true):Gl X x:=by
 unfold glB at h
 simp only [beq_iff_eq] at h
 exact h
theorem aL {i:Nat}{x:Str}{pos:Pos} (h:ah X.N X.env.scope i x=true):PE X (.Name x pos) (iW i):=by
 unfold ah at h
 simp only [Bool.and_eq_true,beq_iff_eq] at h
 obtain ⟨⟨h1,h2⟩,h3⟩:=h
 obtain ⟨p1,p2,_⟩:=cM h3
 exact qV h1 (A3 h2) p1 p2
theorem aG {K:PySem.W.Frag}{B H:Hp}{O₀ O:List Addr}{ρ:Rho}{σ:St} (st:az K B O₀ O H ρ σ) {i:Nat}{m:MV} (e:(ρ[i]?).join=some m):∃ u,σ[i]?=some (some u)/\dP K B O H m u:=st.slot i m (join_some e)
theorem xv {i:Nat}{x:Str}{pos:Pos} (h:ah X.N X.env.scope i x=true):PE X (.Name x pos) (tE X.K cal (.var i)):=by
 refine (aL h).imp λσ H Q hq=>?_
 obtain ⟨B,O₀,O,ρ,v,st,he,q⟩:=hq
 rw [ev] at he
 cases hj:(ρ[i]?).join with
 | none=>rw [hj] at he;cases he
 | some m =>
  rw [hj] at he
  cases m with
  | val w =>
   simp only [sj,Option.some.injEq] at he
   subst he
   obtain ⟨u,e1,r⟩:=aG st hj
   exact ⟨u,e1,q u H (af.refl H) (.of r)⟩
  | own _=>cases he
  | brw _=>cases he
  | ownD _=>cases he
  | ownO _ _ _=>cases he
  | brwO _ _=>cases he
  | brwD _=>cases he
theorem xw {i:Nat}{x:Str}{pos:Pos} (h:ah X.N X.env.scope i x=true):PE X (.Name x pos) (tE X.K cal (.bor i)):=by
 refine (aL h).imp λσ H Q hq=>?_
 obtain ⟨B,O₀,O,ρ,v,st,he,q⟩:=hq
 rw [ev] at he
 cases hj:(ρ[i]?).join with
 | none=>rw [hj] at he;cases he
 | some m =>
  rw [hj] at he
  obtain ⟨u,e1,r⟩:=aG st hj
  exact ⟨u,e1,q u H (af.refl H) ⟨r.bor st.keep he,λz=>by cases z⟩⟩
theorem xx {v:PV}{c:Const}{j:Nat}{pos:Pos} (h:lz v c=true):PE X (.Constant c j pos) (tE X.K cal (.cst v)):=by
 have key:∀ (u:V),(∀ F,Rep X.K F v u)->PE X (.Constant c j pos) (tC u)->PE X (.Constant c j pos) (tE X.K cal (.cst v)):=λu r p=>p.imp λσ H Q hq=>by
  obtain ⟨B,O₀,O,ρ,w,st,he,q⟩:=hq
  rw [ev] at he
  cases he
  exact q u H (af.refl H) (.scal r)
 cases v <;> cases c <;> simp only [lz,Bool.false_eq_true,beq_iff_eq] at h
 ·exact key .non (λF=>iR F) xT
 ·subst h;exact key _ (λF=>ce F _) xj
 ·subst h;exact key _ (λF=>cK F _) m7
 ·subst h;exact key _ (λF=>lD F _) m8
theorem sN {x y:Str}{v:PV}{pos:Pos} (g:Gf X T k cal) (h:chk T (.glob x v) X.N X.env.scope (.Name y pos)=true):PE X (.Name y pos) (tE X.K cal (.glob x v)):=by
 simp only [bD,bE,bF,aY,bG,bH,bJ,bK,cH,bM,bN,aP,bO,bP,bQ,aQ,bR,aZ,aK,Bool.and_eq_true,beq_iff_eq] at h
 obtain ⟨⟨⟨rfl,hg⟩,hs⟩,hp⟩:=h
 unfold sx at hs
 obtain ⟨p,hp1,hp2⟩:=List.any_eq_true.mp hs
 simp only [Bool.and_eq_true,beq_iff_eq] at hp2
 obtain ⟨rfl,hv⟩:=hp2
 obtain ⟨u,e1,r⟩:=g.gs p hp1
 have e:p.2=v/\∀ F,Rep X.K F v (toV v):=by
  revert hv
  generalize p.2=z
  intro hv
  cases z <;> cases v <;> simp only [xu,Bool.false_eq_true,beq_iff_eq] at hv
  ·exact ⟨rfl,λF=>iR F⟩
  ·subst hv;exact ⟨rfl,λF=>ce F _⟩
  ·subst hv;exact ⟨rfl,λF=>cK F _⟩
  ·subst hv;exact ⟨rfl,λF=>lD F _⟩
 rw [e.1] at r
 refine (ou (da hg) e1 r (cM hp).1).imp λσ H Q hq=>?_
 obtain ⟨B,O₀,O,ρ,w,st,he,q⟩:=hq
 rw [ev] at he
 cases he
 exact q _ H (af.refl H) (.scal e.2)
end
section
variable {X:Cx}
noncomputable def R2M (K:PySem.W.Frag) (f:PV->PV->Option PV):R2:=λux uy H Q =>
 ∃ O x y v,(∀ a ∈ O,H a ≠ none)/\a7 K H O x ux/\a7 K H O y uy/\f x y=some v/\∀ u H',af H H'->Rep K (aj H' O) v u->Q u H'
theorem ik {op:Operator}{C:Int->Int->Prop}{g:Int->Int->Int}{f:PV->PV->Option PV} (h:OpR X (binaryOp op) (rI C λi j=>.int (g i j)))
  (hf:∀ x y v,f x y=some v->∃ i j,x=.int i/\y=.int j/\C i j/\v=.int (g i j)):OpR X (binaryOp op) (R2M X.K f):=by
 intro pins s σ H ux uy v u Q I rx ry hq
 obtain ⟨O,x,y,w,hO,r1,r2,e,q⟩:=hq
 obtain ⟨i,j,rfl,rfl,c,rfl⟩:=hf x y w e
 have e1:=r1.int
 have e2:=r2.int
 subst e1 e2
 exact h pins s σ H _ _ v u Q I rx ry ⟨i,j,rfl,rfl,c,q _ H (af.refl H) (cK _ _)⟩
theorem wl:OpR X (binaryOp .Add) (λx y H Q=>∃ l b xs zs,x=.ref l/\y=.ref b/\SqL X.K H l xs/\SqL X.K H b zs/\xs.length + zs.length <= sizeLine/\∀ p,H p=none->Q (.ref p) (upd H p (.lst (xs ++ zs)))):=by
 intro pins s σ H x y v u Q I rx ry h
 obtain ⟨l,b,xs,zs,rfl,rfl,hH,hB,hz,q⟩:=h
 cases rx
 cases ry
 obtain ⟨its,r,pl,_⟩:=I.list hH
 obtain ⟨its2,r2,pl2,_⟩:=I.list hB
 have l1:=r.length
 have l2:=r2.length
 obtain ⟨⟨cls,dd,data,sl⟩,ho,hc,n,hd⟩:=pl.isList
 obtain ⟨⟨cls2,dd2,data2,sl2⟩,ho2,hc2,n2,hd2⟩:=pl2.isList
 simp only at hc hd hc2 hd2
 subst hc hd hc2 hd2
 have e:its.toArray ++ its2.toArray=(its ++ its2).toArray:=by simp
 refine concat_meets ⟨_,ho,rfl⟩ ⟨_,ho2,rfl⟩ noFill_list_add seq_list_add PySem.F.slot_list_add PySem.F.entry_list_add (PySem.F.args_list_add_2 _ _) (list_addW l b its.toArray its2.toArray n n2 dd dd2 sl sl2 (by rw [List.size_toArray,List.size_toArray];omega)) ⟨ho,ho2,?_⟩
 rw [e]
 exact ⟨.ref _,_,I.lnew (t':=s.toks) (r.append r2) (by rw [List.length_append];omega),rfl,q _ I.fresh⟩
theorem wm:OpR X (binaryOp .Add) (λx y H Q=>∃ a b ys,x=.ref a/\y=.ref b/\SqT X.K H a []/\SqT X.K H b ys/\Q (.ref b) H):=by
 intro pins s σ H x y v u Q I rx ry h
 obtain ⟨a,b,ys,rfl,rfl,ha,hb,q⟩:=h
 cases rx
 cases ry
 obtain ⟨its,r1,⟨⟨c1,d1,t1,l1⟩,ho,hc,n,hd⟩,_⟩:=I.tuple ha
 obtain ⟨its2,r2,⟨⟨c2,d2,t2,l2⟩,ho2,hc2,n2,hd2⟩,_⟩:=I.tuple hb
 cases hc
 cases hd
 cases hc2
 cases hd2
 have none0:its=[]:=r1.nil_iff.mpr rfl
 have meets:=tuple_addW0 a b its.toArray its2.toArray n n2 d1 d2 l1 l2 (by simp [none0])
 exact concat_meets ⟨_,ho,rfl⟩ ⟨_,ho2,rfl⟩ noFill_tuple_add seq_tuple_add PySem.F.slot_tuple_add PySem.F.entry_tuple_add (PySem.F.args_tuple_add_2 _ _) meets ⟨ho,ho2,.ref b,H,I,rfl,q⟩
theorem dE {α:Type}{f:Int->Int->Option α}{x y:PV}{v:α} (h:gv f x y=some v):∃ i j,x=.int i/\y=.int j/\f i j=some v:=by
 cases x <;> try (cases h;done)
 cases y <;> try (cases h;done)
 exact ⟨_,_,rfl,rfl,h⟩
theorem gK {C:Int->Int->Prop} [∀ i j,Decidable (C i j)] {g:Int->Int->Int}{x y v:PV} (h:gv (λi j=>if C i j then some (.int (g i j)) else none) x y=some v):∃ i j,x=.int i/\y=.int j/\C i j/\v=.int (g i j):=by
 obtain ⟨i,j,e1,e2,e3⟩:=dE h
 by_cases c:C i j
 ·rw [if_pos c] at e3
  exact ⟨i,j,e1,e2,c,(Option.some.inj e3).symm⟩
 ·rw [if_neg c] at e3
  cases e3
theorem yS (op:Op2):OpR X (binaryOp (vZ op)) (R2M X.K (gw op)):=by
 cases op with
 | sub=>exact ik (C:=λ_ _=>True) (g:=λi j=>i - j) (λpins s σ H x y v u Q I rx ry h=>x3 pins s σ H x y v u Q I rx ry (by obtain ⟨i,j,e1,e2,_,q⟩:=h;exact ⟨i,j,e1,e2,q⟩)) (λx y v h=>by
   obtain ⟨i,j,e1,e2,e3⟩:=dE h
   exact ⟨i,j,e1,e2,trivial,(Option.some.inj e3).symm⟩)
 | mul=>exact ik x4 λx y v h=>by have q:=gK h;exact q
 | fdiv=>exact ik vh λx y v h=>by have q:=gK h;exact q
 | mod=>exact ik x5 λx y v h=>by have q:=gK h;exact q
 | pow=>exact ik x6 λx y v h=>by have q:=gK h;exact q
 | shr=>exact ik x9 λx y v h=>by have q:=gK h;exact q
 | add =>
  intro pins s σ H ux uy v u Q I rx ry hq
  obtain ⟨O,x,y,w,hO,r1,r2,e,q⟩:=hq
  cases x <;> try (cases e;done)
  all_goals (cases y <;> simp only [gw,xq] at e <;> try (cases e;done))
  ·cases e
   have e1:=r1.int
   have e2:=r2.int
   subst e1 e2
   exact x2 pins s σ H _ _ v u Q I rx ry ⟨_,_,rfl,rfl,q _ H (af.refl H) (cK _ _)⟩
  ·split at e
   ·rename_i c
    cases e
    have e1:=r1.str
    have e2:=r2.str
    subst e1 e2
    exact ni pins s σ H _ _ v u Q I rx ry ⟨_,_,rfl,rfl,Nat.le_trans c (by decide),q _ H (af.refl H) (lD _ _)⟩
   ·cases e
  ·split at e
   ·rename_i c
    cases e
    obtain ⟨a,us,rfl,s1,t1⟩:=r1.tup
    obtain ⟨b,ws,rfl,s2,t2⟩:=r2.tup
    have l1:=t1.length
    have l2:=t2.length
    have w1:=r1.tupR
    have w2:=r2.tupR
    by_cases z0:us=[]
    ·subst z0
     have z1:=List.eq_nil_of_length_eq_zero l1
     subst z1
     exact wm pins s σ H _ _ v u Q I rx ry ⟨a,b,ws,rfl,rfl,s1,s2,q _ H (af.refl H) w2⟩
    refine vt pins s σ H _ _ v u Q I rx ry ⟨a,b,us,ws,rfl,rfl,s1,s2,z0,eK (by omega),λz=>?_,λz p hp=>?_⟩
    ·rw [z,List.length_nil] at l2
     have z1:=List.eq_nil_of_length_eq_zero l2
     subst z1
     rw [List.append_nil] at q
     exact q _ H (af.refl H) w1
    ·exact q _ _ (a8 hp _) (gJ hO hp (t1.append t2))
   ·cases e
  ·split at e
   ·rename_i c
    cases e
    obtain ⟨a,us,rfl,s1,t1⟩:=r1.lst
    obtain ⟨b,ws,rfl,s2,t2⟩:=r2.lst
    have l1:=t1.length
    have l2:=t2.length
    exact wl pins s σ H _ _ v u Q I rx ry ⟨a,b,us,ws,rfl,rfl,s1,s2,eK (by omega),λp hp=>q _ _ (a8 hp _) (jx hO hp (t1.append t2))⟩
   ·cases e
noncomputable def R2C (K:PySem.W.Frag) (f:PV->PV->Option Bool):R2:=λux uy H Q =>
 ∃ O x y b,a7 K H O x ux/\a7 K H O y uy/\f x y=some b/\Q (.bl b) H
theorem iS {op:CmpOp}{g:Int->Int->Bool}{f:PV->PV->Option Bool} (h:OpR X (compareOp op) (rI0 λi j=>.bl (g i j)))
  (hf:∀ x y v,f x y=some v->∃ i j,x=.int i/\y=.int j/\v=g i j):OpR X (compareOp op) (R2C X.K f):=by
 intro pins s σ H ux uy v u Q I rx ry hq
 obtain ⟨O,x,y,w,r1,r2,e,q⟩:=hq
 obtain ⟨i,j,rfl,rfl,rfl⟩:=hf x y w e
 have e1:=r1.int
 have e2:=r2.int
 subst e1 e2
 exact h pins s σ H _ _ v u Q I rx ry ⟨i,j,rfl,rfl,q⟩
theorem yT:OpR X (compareOp .Is) (λx y H Q=>∃ p q,x=.bl p/\y=.bl q/\Q (.bl (p == q)) H):=by
 rintro pins s σ H x y v u Q I rx ry ⟨p,q,rfl,rfl,hq⟩
 cases rx
 cases ry
 exact wpAny_pure (bC I hq (by cases p <;> cases q <;> rfl))
theorem qp:OpR X (compareOp .IsNot) (λx y H Q=>∃ p q,x=.bl p/\y=.bl q/\Q (.bl (!(p == q))) H):=by
 rintro pins s σ H x y v u Q I rx ry ⟨p,q,rfl,rfl,hq⟩
 cases rx
 cases ry
 exact wpAny_pure (bC I hq (by cases p <;> cases q <;> rfl))
theorem o3 {K:PySem.W.Frag}{H:Hp}{O:List Addr}{x:PV}{u:V} (r:a7 K H O x u):decide (u=.non)=di x:=by
 cases x with
 | non=>rw [r.non];rfl
 | bl b=>rw [r.bl];rfl
 | int b=>rw [r.int];rfl
 | str b=>rw [r.str];rfl
 | tup xs=>obtain ⟨a,us,rfl,_⟩:=r.tup;rfl
 | lst xs=>obtain ⟨a,us,rfl,_⟩:=r.lst;rfl
 | dI kvs=>obtain ⟨a,rfl,_⟩:=r.dI;rfl
theorem eX (hu:X.A.units + 200 < cLine) (op:Cp):OpR X (compareOp (eJ op)) (R2C X.K (bX op)):=by
 cases op with
 | lt=>exact iS AB λx y v h=>by obtain ⟨i,j,e1,e2,e3⟩:=dE h;exact ⟨i,j,e1,e2,(Option.some.inj e3).symm⟩
 | le=>exact iS AC λx y v h=>by obtain ⟨i,j,e1,e2,e3⟩:=dE h;exact ⟨i,j,e1,e2,(Option.some.inj e3).symm⟩
 | gt=>exact iS AD λx y v h=>by obtain ⟨i,j,e1,e2,e3⟩:=dE h;exact ⟨i,j,e1,e2,(Option.some.inj e3).symm⟩
 | ge=>exact iS AE λx y v h=>by obtain ⟨i,j,e1,e2,e3⟩:=dE h;exact ⟨i,j,e1,e2,(Option.some.inj e3).symm⟩
 | eq =>
  intro pins s σ H ux uy v u Q I rx ry hq
  obtain ⟨O,x,y,w,r1,r2,e,q⟩:=hq
  exact yP (by omega) pins s σ H ux uy v u Q I rx ry ⟨x,y,w,r1.whole,r2.whole,e,q⟩
 | ne =>
  intro pins s σ H ux uy v u Q I rx ry hq
  obtain ⟨O,x,y,w,r1,r2,e,q⟩:=hq
  simp only [bX] at e
  split at e
  ·rename_i c
   simp only [Option.map_eq_some_iff] at e
   obtain ⟨b,e,rfl⟩:=e
   exact yQ (by omega) pins s σ H ux uy v u Q I rx ry ⟨x,y,b,r1.whole,r2.whole,c,e,q⟩
  ·cases e
 | isN =>
  intro pins s σ H ux uy v u Q I rx ry hq
  obtain ⟨O,x,y,w,r1,r2,e,q⟩:=hq
  cases y <;> try (cases e;done)
  ·have e2:=r2.non
   subst e2
   refine x_ pins s σ H ux _ v u Q I rx ry ⟨rfl,?_⟩
   have e:some (di x)=some w:=e
   rw [o3 r1,Option.some.inj e]
   exact q
  ·cases x <;> try (cases e;done)
   have e1:=r1.bl
   have e2:=r2.bl
   subst e1 e2
   exact yT pins s σ H _ _ v u Q I rx ry ⟨_,_,rfl,rfl,by rw [Option.some.inj e];exact q⟩
 | notN =>
  intro pins s σ H ux uy v u Q I rx ry hq
  obtain ⟨O,x,y,w,r1,r2,e,q⟩:=hq
  cases y <;> try (cases e;done)
  ·have e2:=r2.non
   subst e2
   refine vj pins s σ H ux _ v u Q I rx ry ⟨rfl,?_⟩
   have e:some (!di x)=some w:=e
   rw [o3 r1,Option.some.inj e]
   exact q
  ·cases x <;> try (cases e;done)
   have e1:=r1.bl
   have e2:=r2.bl
   subst e1 e2
   cases e
   exact qp pins s σ H _ _ v u Q I rx ry ⟨_,_,rfl,rfl,q⟩
 | isIn =>
  intro pins s σ H ux uy v u Q I rx ry hq
  obtain ⟨O,x,y,w,r1,r2,e,q⟩:=hq
  simp only [bX,Option.bind_eq_some_iff] at e
  obtain ⟨xs,e1,e2⟩:=e
  obtain ⟨a,us,rfl,s2,t2⟩:=r2.seq e1
  exact yR (by omega) pins s σ H ux _ v u Q I rx ry ⟨x,_,a,us,w,r1.whole,rfl,s2,Reps.mono (bb H O) _ t2,e2,q⟩
 | notIn =>
  intro pins s σ H ux uy v u Q I rx ry hq
  obtain ⟨O,x,y,w,r1,r2,e,q⟩:=hq
  simp only [bX,Option.bind_eq_some_iff,Option.map_eq_some_iff] at e
  obtain ⟨b,⟨xs,e1,e2⟩,rfl⟩:=e
  obtain ⟨a,us,rfl,s2,t2⟩:=r2.seq e1
  exact qo (by omega) pins s σ H ux _ v u Q I rx ry ⟨x,_,a,us,b,r1.whole,rfl,s2,Reps.mono (bb H O) _ t2,e2,q⟩
theorem mI (n:Nat) (i:Int):fC n i=ixN n i:=rfl
theorem yU:IxR X (R2M X.K ko):=by
 intro value slice pins s σ H ux uy v u Q I rx ry hq hsub
 obtain ⟨O,x,y,w,hO,r1,r2,e,q⟩:=hq
 cases x <;> cases y <;> simp only [ko] at e <;> try (cases e;done)
 ·simp only [Option.bind_eq_some_iff] at e
  obtain ⟨j,e1,e2⟩:=e
  obtain ⟨a,us,rfl,s1,t1⟩:=r1.tup
  have e3:=r2.int
  subst e3
  obtain ⟨uw,e4,rw'⟩:=t1.get e2
  refine rJ value slice pins s σ H _ _ v u Q I rx ry (.inr (.inl ⟨a,us,_,uw,rfl,rfl,s1,?_,q uw H (af.refl H) rw'⟩)) hsub
  unfold atI
  rw [<- t1.length,<- mI,e1]
  exact e4
 ·simp only [Option.bind_eq_some_iff] at e
  obtain ⟨j,e1,e2⟩:=e
  obtain ⟨a,us,rfl,s1,t1⟩:=r1.lst
  have e3:=r2.int
  subst e3
  obtain ⟨uw,e4,rw'⟩:=t1.get e2
  refine rJ value slice pins s σ H _ _ v u Q I rx ry (.inl ⟨a,us,_,uw,rfl,rfl,s1,?_,q uw H (af.refl H) rw'⟩) hsub
  unfold atI
  rw [<- t1.length,<- mI,e1]
  exact e4
theorem nS {b:Expr} (h:bV b=true):oH b:=by
 intro o i
 cases b <;> first|rfl|(simp [bV] at h)
theorem mJ {K:PySem.W.Frag}{F:Hp}{xs:List PV}{us:List V} (h:Reps K F xs us) (lo hi:Option Int):Reps K F (cut xs lo hi) (l7 us lo hi):=by
 have hl:=h.length
 have e:∀ (n d:Nat) (o:Option Int),fZ n d o=HT.sIx n d o:=λn d o=>by cases o <;> rfl
 unfold cut l7
 rw [e,e,hl]
 exact (h.drop _).take _
theorem yV:SlR X (λx lo hi H Q=>∃ O v w,(∀ a ∈ O,H a ≠ none)/\a7 X.K H O v x/\iN v lo hi=some w/\∀ u H',af H H'->Rep X.K (aj H' O) w u->Q u H'):=by
 intro pins s σ H x v vl vu lo hi sl Q I rx hs pl pu hq
 obtain ⟨O,pv,w,hO,r1,e,q⟩:=hq
 cases pv <;> simp only [iN] at e <;> try (cases e;done)
 ·rename_i xs
  cases e
  obtain ⟨a,us,rfl,s1,t1⟩:=r1.tup
  have e:∀ (n d:Nat) (o:Option Int),fZ n d o=HT.sIx n d o:=λn d o=>by cases o <;> rfl
  by_cases hn:HT.sIx us.length 0 lo=0/\HT.sIx us.length us.length hi=us.length
  ·refine vO pins s σ H _ v vl vu lo hi sl Q I rx hs pl pu ⟨a,us,rfl,s1,hn.1,hn.2,q _ _ (af.refl H) ?_⟩
   have:cut xs lo hi=xs:=by
    unfold cut
    rw [e,e,t1.length,hn.1,hn.2,List.drop_zero,<- t1.length,Nat.sub_zero,List.take_length]
   rw [this]
   exact r1.tupR
  ·exact yd pins s σ H _ v vl vu lo hi sl Q I rx hs pl pu ⟨a,us,rfl,s1,hn,λp hp=>q _ _ (a8 hp _) (gJ hO hp (mJ t1 lo hi))⟩
 ·cases e
  obtain ⟨a,us,rfl,s1,t1⟩:=r1.lst
  exact vz pins s σ H _ v vl vu lo hi sl Q I rx hs pl pu ⟨a,us,rfl,s1,λp hp=>q _ _ (a8 hp _) (jx hO hp (mJ t1 lo hi))⟩
end
end MM
namespace MM
open PySem PySem.Spec PyProof.Rows L2
theorem o4 (x:Int):∀ l,sh x l=Srt.iI Srt.dc x l
 | []=>rfl
 | y::r=>by
  show (if y < x then y::sh x r else x::y::r)=(if Srt.dc.blt y x=true then y::Srt.iI Srt.dc x r else x::y::r)
  rw [o4 x r]
  by_cases h:y < x
  ·have e:Srt.dc.blt y x=true:=decide_eq_true h
   rw [if_pos h,if_pos e]
  ·have e:Srt.dc.blt y x=false:=decide_eq_false h
   rw [if_neg h,if_neg (by rw [e];exact Bool.false_ne_true)]
theorem gL:∀ l,sortI l=Srt.sortI l
 | []=>rfl
 | x::r=>by
  show sh x (sortI r)=Srt.iI Srt.dc x (Srt.fj Srt.dc r)
  rw [gL r,o4];rfl
theorem gM:∀ a b,lexLt a b=HT.lexLt a b
 | [],[]=>rfl
 | [],_::_=>rfl
 | _::_,[]=>rfl
 | x::xs,y::ys=>by
  rw [lexLt,HT.lexLt_cons,gM xs ys]
theorem o5 (x:List Int):∀ l,si x l=Srt.iI Srt.cZ x l
 | []=>rfl
 | y::r=>by
  show (if lexLt y x=true then y::si x r else x::y::r)=(if Srt.cZ.blt y x=true then y::Srt.iI Srt.cZ x r else x::y::r)
  rw [o5 x r,gM]
  rfl
theorem dQ:∀ l,sortT l=Srt.sortT l
 | []=>rfl
 | x::r=>by
  show si x (sortT r)=Srt.iI Srt.cZ x (Srt.fj Srt.cZ r)
  rw [dQ r,o5];rfl
section
variable {X:Cx}{T:Tab}{k:Nat}{cal:Cal}
noncomputable def RBM (K:PySem.W.Frag) (f:List PV->Option PV):List V->Hp->VK->Prop:=λus H Q =>
 ∃ O vs v,(∀ a ∈ O,H a ≠ none)/\Paired (a7 K H O) vs us/\f vs=some v/\∀ u H',af H H'->Rep K (aj H' O) v u->Q u H'
theorem p1 {K:PySem.W.Frag}{H:Hp}{O:List Addr}{x:PV}{us:List V} (h:Paired (a7 K H O) [x] us):∃ u,us=[u]/\a7 K H O x u:=by
 cases h with
 | cons r t=>cases t;exact ⟨_,rfl,r⟩
theorem p2 {K:PySem.W.Frag}{H:Hp}{O:List Addr}{x y:PV}{us:List V} (h:Paired (a7 K H O) [x,y] us):∃ u w,us=[u,w]/\a7 K H O x u/\a7 K H O y w:=by
 cases h with
 | cons r t=>cases t with
  | cons r' t'=>cases t';exact ⟨_,_,rfl,r,r'⟩
theorem dR {f:Blt}{vs:List PV}{v:PV} (h:aF f vs=some v) (hf:dD f=some 1 \/ (cc f).isSome=true \/ f=.sortedSet \/ f=.lenSet \/ f=.valuesOf):∃ x,vs=[x]:=by
 cases vs with
 | nil=>cases f <;> simp [aF,cv,ic,gc] at h
 | cons x r=>cases r with
  | nil=>exact ⟨x,rfl⟩
  | cons y r=>cases f <;> simp [aF,cv,ic,gc,dD,cc] at h hf
theorem A4:cD X (.builtin "len") (RBM X.K (aF .len)):=by
 intro pins s σ H xs us Q I r h
 obtain ⟨O,vs,v,hO,rs,e,q⟩:=h
 obtain ⟨x,rfl⟩:=dR e (.inl rfl)
 obtain ⟨u,rfl,rx⟩:=p1 rs
 cases x <;> simp only [aF,cv,xr] at e <;> try (cases e;done)
 ·cases e
  obtain ⟨a,ws,rfl,s1,t1⟩:=rx.tup
  exact eS pins s σ H _ us Q I r ⟨a,ws,rfl,.inr s1,by rw [<- t1.length];exact q _ H (af.refl H) (cK _ _)⟩
 ·cases e
  obtain ⟨a,ws,rfl,s1,t1⟩:=rx.lst
  exact eS pins s σ H _ us Q I r ⟨a,ws,rfl,.inl s1,by rw [<- t1.length];exact q _ H (af.refl H) (cK _ _)⟩
 ·rename_i d
  cases d with
  | t kvs=>cases e
  | k kvs =>
   cases e
   obtain ⟨a,rfl,ha⟩:=rx.dI
   obtain ⟨u,rfl,ru⟩:=ir r
   cases ru
   obtain ⟨hz,hs,ws,rel,dd⟩:=iy I.hok (show Rd H a (.dK (fE kvs)) from ha)
   have hlen:ws.length=kvs.length:=by rw [<- rel.length];unfold fE;rw [List.length_map]
   have hz:kvs.length <= sizeLine:=by unfold fE at hz;rw [List.length_map] at hz;exact hz
   have hn:=i3
   exact call_len_dict hs dd (by rw [hlen];omega) ⟨.int kvs.length,H,I.tok _,⟨s.toks + 1,by rw [hlen]⟩,q _ H (af.refl H) (cK _ _)⟩
theorem wn:cD X (.type "tuple") (RBM X.K (aF .tupleOf)):=by
 intro pins s σ H xs us Q I r h
 obtain ⟨O,vs,v,hO,rs,e,q⟩:=h
 obtain ⟨x,rfl⟩:=dR e (.inl rfl)
 obtain ⟨u,rfl,rx⟩:=p1 rs
 simp only [aF,cv,ic,gx,gc,Option.map_eq_some_iff] at e
 obtain ⟨ys,e,rfl⟩:=e
 cases x <;> simp [br] at e
 ·subst e
  obtain ⟨a,ws,rfl,s1,t1⟩:=rx.tup
  refine fY pins s σ H _ us Q I r ⟨a,ws,rfl,.inr ⟨s1,q _ H (af.refl H) ?_⟩⟩
  exact rx.tupR
 ·subst e
  obtain ⟨a,ws,rfl,s1,t1⟩:=rx.lst
  exact fY pins s σ H _ us Q I r ⟨a,ws,rfl,.inl ⟨s1,λl hl=>q _ _ (a8 hl _) (gJ hO hl t1)⟩⟩
noncomputable def RBF (K:PySem.W.Frag) (f:List PV->Option PV):List V->Hp->VK->Prop:=λus H Q =>
 ∃ O vs xs,(∀ a ∈ O,H a ≠ none)/\Paired (a7 K H O) vs us/\f vs=some (.lst xs)/\∀ l ws,H l=none->Reps K (aj H O) xs ws->Q (.ref l) (upd H l (.lst ws))
theorem yW:cD X (.type "list") (RBF X.K (aF .listOf)):=by
 intro pins s σ H xs us Q I r h
 obtain ⟨O,vs,v,hO,rs,e,q⟩:=h
 obtain ⟨x,rfl⟩:=dR e (.inl rfl)
 obtain ⟨u,rfl,rx⟩:=p1 rs
 simp only [aF,cv,ic,gx,gc,Option.map_eq_some_iff,PV.lst.injEq,exists_eq_right] at e
 obtain ⟨a,ws,rfl,s1,t1⟩:=rx.seq e
 exact lj pins s σ H _ us Q I r ⟨a,ws,rfl,s1,λl hl=>q l ws hl t1⟩
theorem kD {K:PySem.W.Frag}{F:Hp}:∀ {tss:List (List Int)}{us:List V},Reps K F (tss.map λt=>.tup (t.map .int)) us->nH K F us tss
 | [],_,h=>by rw [List.map_nil,Reps] at h;subst h;exact .nil
 | t::tss,_,h=>by
  rw [List.map_cons,Reps] at h
  obtain ⟨u,r,rfl,q,z⟩:=h
  rw [Rep] at q
  obtain ⟨a,vs,e,s1,r1⟩:=q
  rw [r1.ints] at s1
  exact .cons ⟨a,e,SqT.of s1⟩ (kD z)
theorem kE {K:PySem.W.Frag}{F F':Hp} (s:af F F'):∀ {us:List V}{tss:List (List Int)},nH K F us tss->nH K F' us tss
 | _,_,.nil=>.nil
 | _,_,.cons ⟨a,e1,e2⟩ t=>.cons ⟨a,e1,s.seqT e2⟩ (kE s t)
theorem kF {K:PySem.W.Frag}{F:Hp}{xs:List PV}{us:List V} (h:Reps K F xs us):∀ (l:List Nat),(∀ i ∈ l,i < us.length)->Reps K F (l.map λi=>xs.getD i .non) (l.map λi=>us.getD i .non)
 | [],_=>.nil
 | i::l,hl=>by
  have hi:=hl i (.head _)
  have hx:i < xs.length:=by rw [h.length];exact hi
  obtain ⟨u,e1,e2⟩:=h.get (i:=i) (x:=xs[i]) (List.getElem?_eq_getElem hx)
  refine .cons ?_ (kF h l λj hj=>hl j (.tail _ hj))
  have q1:xs.getD i .non=xs[i]:=by simp [hx]
  have q2:us.getD i .non=u:=by rw [List.getD_eq_getElem?_getD,e1];rfl
  show Rep K F (xs.getD i .non) (us.getD i .non)
  rw [q1,q2];exact e2
theorem sO (g:Gf X T k cal):cD X (.builtin "sorted") (RBF X.K (aF .sorted)):=by
 intro pins s σ H xs us Q I r h
 obtain ⟨O,vs,v,hO,rs,e,q⟩:=h
 obtain ⟨x,rfl⟩:=dR e (.inl rfl)
 obtain ⟨u,rfl,rx⟩:=p1 rs
 simp only [aF,cv,ic,gx,gc,Option.bind_eq_some_iff] at e
 obtain ⟨ys,e,e2⟩:=e
 obtain ⟨a,ws,rfl,s1,t1⟩:=rx.seq e
 unfold eT at e2
 split at e2
 ·rename_i h64
  split at e2
  ·rename_i ns hn
   cases e2
   have:=gA hn
   subst this
   have e3:=t1.ints
   subst e3
   rw [List.length_map] at h64
   refine lr g.calm pins s σ H _ us Q I r ⟨a,ns,rfl,s1.imp id .inl,h64,λl hl=>?_⟩
   rw [<- gL]
   exact q l _ hl (.of_ints _)
  ·simp only [Option.map_eq_some_iff,PV.lst.injEq] at e2
   obtain ⟨ts,e3,rfl⟩:=e2
   have:=mx e3
   subst this
   rw [List.length_map] at h64
   refine lu (by have:=g.units;omega) pins s σ H _ us Q I r ⟨a,ws,ts,rfl,s1,kE (bb H O) (kD t1),h64,λl pm hl hp e=>q l _ hl ?_⟩
   have q2:=kF t1 pm hp
   have e4:(pm.map λi=>(ts.map λt=>PV.tup (t.map .int)).getD i .non)=(sortT ts).map λt=>.tup (t.map .int):=by
    rw [dQ,<- e,List.map_map]
    refine List.map_congr_left λi hi=>?_
    have hi':i < ts.length:=by have:=hp i hi;rw [<- t1.length,List.length_map] at this;exact this
    simp [hi']
   rw [e4] at q2
   exact q2
 ·cases e2
theorem o6 {x:PV}{ys:List PV} (h:gx x=some ys):x=.lst ys:=by
 cases x <;> cases h
 rfl
end
end MM
namespace MM
open PySem PySem.Spec PyProof.Rows L2
section
variable {X:Cx}{T:Tab}{k:Nat}{cal:Cal}
theorem yX {b:Blt}{c:String} (hb:cc b=some c):cD X (.builtin "isinstance") (λus H Q=>∃ O v u,us=[u,.ty c]/\isD v=false/\a7 X.K H O v u/\Q (.bl (isT b v)) H):=by
 intro pins s σ H xs us Q I r h
 obtain ⟨O,v,x,rfl,nd,rx,q⟩:=h
 obtain ⟨u,t,rfl,r1,rc⟩:=AF r
 have rc':t=.type c:=rc
 subst rc'
 have fin:∀ (z:Bool) (tk:Nat),z=isT b v->EP X pins σ Q (.bool z) { s with toks:=tk }:=λz tk e=>⟨.bl z,H,I.tok tk,rfl,by rw [e];exact q⟩
 cases v with
 | dI _=>cases nd
 | non =>
  have e:=rx.non
  subst e
  cases (show u=Value.none from r1)
  cases b <;> simp only [cc,Option.some.injEq,reduceCtorEq] at hb <;> subst hb <;>
   exact PySem.W.kia_one PySem.W.kitx_none I.kIn True.intro (b:=false) (by first|rfl|kernel_rfl|decide) (λz=>nomatch z) λtk=>fin _ tk rfl
 | bl y =>
  have e:=rx.bl
  subst e
  cases (show u=Value.bool y from r1)
  cases b <;> simp only [cc,Option.some.injEq,reduceCtorEq] at hb <;> subst hb <;> first
   | exact PySem.W.kia_one PySem.W.kitx_bool I.kIn True.intro (b:=true) (by first|rfl|kernel_rfl|decide) (λz=>nomatch z) λtk=>fin _ tk rfl
   | exact PySem.W.kia_one PySem.W.kitx_bool I.kIn True.intro (b:=false) (by first|rfl|kernel_rfl|decide) (λz=>nomatch z) λtk=>fin _ tk rfl
 | int y =>
  have e:=rx.int
  subst e
  obtain ⟨t,z⟩:=(show ∃ t,u=Value.int y t from r1)
  cases z
  cases b <;> simp only [cc,Option.some.injEq,reduceCtorEq] at hb <;> subst hb <;> first
   | exact PySem.W.kia_one PySem.W.kitx_int I.kIn True.intro (b:=true) (by first|rfl|kernel_rfl|decide) (λz=>nomatch z) λtk=>fin _ tk rfl
   | exact PySem.W.kia_one PySem.W.kitx_int I.kIn True.intro (b:=false) (by first|rfl|kernel_rfl|decide) (λz=>nomatch z) λtk=>fin _ tk rfl
 | str y =>
  have e:=rx.str
  subst e
  obtain ⟨t,z⟩:=(show ∃ t,u=Value.str y t from r1)
  cases z
  cases b <;> simp only [cc,Option.some.injEq,reduceCtorEq] at hb <;> subst hb <;> first
   | exact PySem.W.kia_one PySem.W.kitx_str I.kIn True.intro (b:=true) (by first|rfl|kernel_rfl|decide) (λz=>nomatch z) λtk=>fin _ tk rfl
   | exact PySem.W.kia_one PySem.W.kitx_str I.kIn True.intro (b:=false) (by first|rfl|kernel_rfl|decide) (λz=>nomatch z) λtk=>fin _ tk rfl
 | lst ys =>
  obtain ⟨a,us,rfl,s1,t1⟩:=rx.lst
  cases (show u=Value.ref a from r1)
  obtain ⟨its,_,p,_⟩:=I.list s1
  obtain ⟨o,h1,h2,_⟩:=p.isList
  cases b <;> simp only [cc,Option.some.injEq,reduceCtorEq] at hb <;> subst hb <;> first
   | exact PySem.W.kia_one PySem.W.kitx_list I.kIn ⟨o,h1,h2⟩ (b:=true) (by first|rfl|kernel_rfl|decide) (λz=>nomatch z) λtk=>fin _ tk rfl
   | exact PySem.W.kia_one PySem.W.kitx_list I.kIn ⟨o,h1,h2⟩ (b:=false) (by first|rfl|kernel_rfl|decide) (λz=>nomatch z) λtk=>fin _ tk rfl
 | tup ys =>
  obtain ⟨a,us,rfl,s1,t1⟩:=rx.tup
  cases (show u=Value.ref a from r1)
  obtain ⟨its,_,p,_⟩:=I.tuple s1
  obtain ⟨o,h1,h2,_⟩:=p
  cases b <;> simp only [cc,Option.some.injEq,reduceCtorEq] at hb <;> subst hb <;> first
   | exact PySem.W.kia_one PySem.W.kitx_tuple I.kIn ⟨o,h1,h2⟩ (b:=true) (by first|rfl|kernel_rfl|decide) (λz=>nomatch z) λtk=>fin _ tk rfl
   | exact PySem.W.kia_one PySem.W.kitx_tuple I.kIn ⟨o,h1,h2⟩ (b:=false) (by first|rfl|kernel_rfl|decide) (λz=>nomatch z) λtk=>fin _ tk rfl
theorem gf {K:PySem.W.Frag}{F:Hp}:∀ {bs:List Bool}{us:List V}{its:List Value},Reps K F (bs.map .bl) us->ar us its->its=bs.map Value.bool
 | [],_,_,h,w=>by rw [List.map_nil,Reps] at h;subst h;cases w;rfl
 | b::bs,_,_,h,w=>by
  rw [List.map_cons,Reps] at h
  obtain ⟨u,r,rfl,q,t⟩:=h
  rw [Rep] at q
  subst q
  cases w with
  | cons r1 w1 =>
   cases r1
   rw [gf t w1];rfl
theorem qr (bs:List Bool):(List.range bs.length).all (λi=>bs.getD i false)=bs.all id:=by
 conv=>rhs;rw [<- Srt.fN bs false]
 rw [List.all_map]
 rfl
theorem qt (bs:List Bool):(List.range bs.length).any (λi=>bs.getD i false)=bs.any id:=by
 conv=>rhs;rw [<- Srt.fN bs false]
 rw [List.any_map]
 rfl
theorem iC {P:Program}{w:World}{A:Around} (bs:List Bool):TruthOf P w A (λi v=>(bs.map Value.bool).toArray[i]?=some v) (λi=>bs.getD i false):=by
 intro i v s Q E h q
 simp only [List.getElem?_toArray,List.getElem?_map,Option.map_eq_some_iff] at h
 obtain ⟨b,e,rfl⟩:=h
 have:bs.getD i false=b:=by rw [List.getD_eq_getElem?_getD,e];rfl
 have q':Q (bs.getD i false) s:=q
 rw [this] at q'
 exact wpAny_truthy_bool q'
theorem A5 (hc:X.calm=true):cD X (.builtin "any") (RBM X.K (aF .any)):=by
 intro pins s σ H xs us Q I r h
 obtain ⟨O,vs,v,hO,rs,e,q⟩:=h
 obtain ⟨x,rfl⟩:=dR e (.inl rfl)
 obtain ⟨u,rfl,rx⟩:=p1 rs
 simp only [aF,cv,Option.bind_eq_some_iff,Option.map_eq_some_iff] at e
 obtain ⟨ys,e0,bs,e,rfl⟩:=e
 obtain rfl:=o6 e0
 have:=ig e
 subst this
 obtain ⟨a,ws,rfl,s1,t1⟩:=rx.lst
 obtain ⟨u,rfl,ru⟩:=ir r
 cases ru
 obtain ⟨its,r',pl,hz⟩:=I.list s1
 have:=gf t1 r'
 subst this
 have hlt:a < s.heap.objs.size:=by obtain ⟨o,ho,_⟩:=pl.isList;exact Heap.lt_size ho
 refine call_any_walk (wpAny_pyIter_list pl.isList ?_)
 refine ⟨s.heap.objs.size,_,_,_,_,_,λi=>bs.getD i false,rfl,Walks.list (by first|exact I.ok.hd hc|simpa using I.ok.hd hc) s.heap.objs.size a (Nat.ne_of_lt hlt) (bs.map Value.bool).toArray,⟨⟨_,Heap.get?_push_size _ rfl,rfl,rfl⟩,pl.isList.push _⟩,iC bs,λh' tk hk=>?_⟩
 have e2:(List.range (bs.map Value.bool).toArray.size).any (λi=>bs.getD i false)=bs.any id:=by
  rw [List.size_toArray,List.length_map];exact qt bs
 rw [e2]
 refine ⟨.bl _,H,?_,rfl,q _ H (af.refl H) (ce _ _)⟩
 refine I.kept (t':=tk) λb o e=>hk b o ?_ (Heap.get?_push_of_some _ e)
 intro hm
 have hb:=Heap.lt_size e
 simp at hm
 exact absurd hm (Nat.ne_of_lt hb)
theorem A6 (hc:X.calm=true):cD X (.builtin "all") (RBM X.K (aF .all)):=by
 intro pins s σ H xs us Q I r h
 obtain ⟨O,vs,v,hO,rs,e,q⟩:=h
 obtain ⟨x,rfl⟩:=dR e (.inl rfl)
 obtain ⟨u,rfl,rx⟩:=p1 rs
 simp only [aF,cv,Option.bind_eq_some_iff,Option.map_eq_some_iff] at e
 obtain ⟨ys,e0,bs,e,rfl⟩:=e
 obtain rfl:=o6 e0
 have:=ig e
 subst this
 obtain ⟨a,ws,rfl,s1,t1⟩:=rx.lst
 obtain ⟨u,rfl,ru⟩:=ir r
 cases ru
 obtain ⟨its,r',pl,hz⟩:=I.list s1
 have:=gf t1 r'
 subst this
 have hlt:a < s.heap.objs.size:=by obtain ⟨o,ho,_⟩:=pl.isList;exact Heap.lt_size ho
 refine call_all_walk (wpAny_pyIter_list pl.isList ?_)
 refine ⟨s.heap.objs.size,_,_,_,_,_,λi=>bs.getD i false,rfl,Walks.list (by first|exact I.ok.hd hc|simpa using I.ok.hd hc) s.heap.objs.size a (Nat.ne_of_lt hlt) (bs.map Value.bool).toArray,⟨⟨_,Heap.get?_push_size _ rfl,rfl,rfl⟩,pl.isList.push _⟩,iC bs,λh' tk hk=>?_⟩
 have e2:(List.range (bs.map Value.bool).toArray.size).all (λi=>bs.getD i false)=bs.all id:=by
  rw [List.size_toArray,List.length_map];exact qr bs
 rw [e2]
 refine ⟨.bl _,H,?_,rfl,q _ H (af.refl H) (ce _ _)⟩
 refine I.kept (t':=tk) λb o e=>hk b o ?_ (Heap.get?_push_of_some _ e)
 intro hm
 have hb:=Heap.lt_size e
 simp at hm
 exact absurd hm (Nat.ne_of_lt hb)
end
end MM
namespace L2
open PySem PySem.Spec PyProof.Rows
end L2
namespace L2
open PySem PySem.Spec PyProof.Rows
theorem Inv.turned2 {X:Cx}{pins:List (Addr × Obj)}{σ:St}{H:Hp}{s:Shared}{h':Heap}{t':Nat}{e it:Addr}{oe:Obj} (I:Inv X pins σ H s) (he:s.heap.get? e=some oe) (hf:oe.isFreed=false) (he':∃ o,h'.get? e=some o)
  (k:∀ b o,b ≠ e->b ≠ it->s.heap.get? b=some o->h'.get? b=some o) (fe:g7 X pins H e) (fi:g7 X pins H it):Inv X pins σ H { s with heap:=h',toks:=t' }:=by
 obtain ⟨o',ho'⟩:=he'
 obtain ⟨a0,a1,a2,a3,a4,a5⟩:=fe
 obtain ⟨b0,b1,b2,b3,b4,b5⟩:=fi
 have at1:(h'.update e λ_=>oe).get? e=some oe:=Heap.get?_update_self _ ho' hf
 have oth:∀ b,b ≠ e->(h'.update e λ_=>oe).get? b=h'.get? b:=λb hb=>(Heap.SameBut.update h' e _).2 b hb
 have I1:Inv X pins σ H { s with heap:=h'.update e λ_=>oe,toks:=t' }:=I.turned (it:=it) (λb o hb q=>by
  by_cases z:b=e
  ·subst z
   rw [at1,<- he]
   exact q
  ·rw [oth b z]
   exact k b o z hb q) b0 b1 b3 b4 b5
 exact Inv.turned (s:={ s with heap:=h'.update e λ_=>oe,toks:=t' }) (it:=e) I1 (λb o hb q=>by
  have q:(h'.update e λ_=>oe).get? b=some o:=q
  rw [oth b hb] at q
  exact q) a0 a1 a3 a4 a5
noncomputable def Ite (q:Hp->List V->Prop):It :=
 ⟨λi H=>∃ xs,q H xs/\i < xs.length,λi H x H'=>∃ p,x=.ref p/\H p=none/\∃ u,H'=upd H p (.tup [.int i,u])/\∀ xs,q H xs->xs[i]?=some u,λi H=>∃ xs,q H xs/\i=xs.length⟩
structure Src (P:Program) (w:World) (K:PySem.W.Frag) (a it:Addr) (q:Hp->List V->Prop) (r:Nat->Heap->Prop):Prop where
 ne:a ≠ it
 keep:∀ i h h',r i h->(∀ o,h.get? it=some o->h'.get? it=some o)->r i h'
 live:∀ i h,r i h->∃ o,h.get? it=some o/\∀ v,o.data ≠ .cell v
 one:∀ (X:Cx),X.K=K->∀ (pins:List (Addr × Obj)) (s:Shared) (σ:St) (H:Hp) (xs ys:List V),Inv X pins σ H s->q H xs->q H ys->xs=ys
 row:∀ (X:Cx),X.prog=P->X.w=w->X.K=K->∀ (pins:List (Addr × Obj)) (s:Shared) (σ:St) (H:Hp) (xs:List V),Inv X pins σ H s->q H xs->∃ (its:List Value),ar xs its/\∀ (A:Around),A.handled=none ->
  ∃ St:Nat->Heap->Prop,Draws P w A it [it,a] its.length (λi v=>its[i]?=some v) St/\(∀ i,r i s.heap->St i s.heap)/\∀ i h,St i h->r i h
theorem sP {P:Program}{w:World}{K:PySem.W.Frag}{ts:List Expr}{j:Nat}{tp:Pos}{a it e:Addr}{q:Hp->List V->Prop}{r:Nat->Heap->Prop} (S:Src P w K a it q r) (hei:e ≠ it) (hea:e ≠ a) :
  m_ P w K (.Tuple ts j tp) (Ite q) [e,it] e (λi h=>(∃ old,IsEnum h e it (i:Nat) old)/\r i h) where
 mem:=.head _
 obj:=λi h st b hb=>by
  obtain ⟨⟨old,he⟩,hr⟩:=st
  rcases List.mem_cons.mp hb with rfl|hb
  ·exact ⟨_,he,λv z=>by cases z⟩
  ·have z:b=it:=by simpa using hb
   subst z
   exact S.live i h hr
 keep:=λi h h' ⟨⟨old,he⟩,hr⟩ k=>⟨⟨old,k e (.head _) _ he⟩,S.keep i h h' hr (k it (.tail _ (.head _)))⟩
 item:=by
  intro X hP hw hK hc i pins s σ H E I hf st hg
  obtain ⟨⟨old,he⟩,hr⟩:=st
  obtain ⟨xs,hq,hi⟩:=hg
  obtain ⟨its,rv,dr⟩:=S.row X hP hw hK pins s σ H xs I hq
  have hh:X.A.handled=none:=I.ok.hd hc
  obtain ⟨St,D,hst,hts⟩:=dr X.A.in1 (by simpa using hh)
  have hl:=rv.length
  have fe:=hf e (.head _)
  have fi:=hf it (.tail _ (.head _))
  refine wpAny_pyNext_enum_itemD D he (hst i hr) (by omega) hei (by simp only [List.mem_cons,List.not_mem_nil,or_false,not_or];exact ⟨hei,hea⟩) λx h' tk px eo st' tup sz kp=>?_
  refine ⟨_,rfl,wpAny_letOwnedTupleGo_enum eo λh2 en2 sb2=>?_⟩
  have hx:i < xs.length:=hi
  obtain ⟨u,hu,ru⟩:=rv.get (List.getElem?_eq_getElem hx)
  have ex:x=u:=by
   have:=px.symm.trans hu
   simpa using this
  subst ex
  have fresh:H s.heap.objs.size=none:=I.hok.fresh (Nat.le_refl _)
  have ne:∀ b o,s.heap.get? b=some o->b ≠ s.heap.objs.size:=λb o q z=>Nat.lt_irrefl _ (by have:=Heap.lt_size q;rw [z] at this;exact this)
  have en:e ≠ s.heap.objs.size:=ne _ _ he
  obtain ⟨oi,hoi,_⟩:=S.live i _ hr
  have inn:it ≠ s.heap.objs.size:=ne _ _ hoi
  have I1:Inv X pins σ (upd H s.heap.objs.size (.tup [.int i,xs[i]])) { s with heap:=s.heap.push { cls:=.type "tuple",data:=.seq #[.int i tk,x] } } :=
   I.laid (t':=s.toks) (λb o q=>Heap.get?_push_of_some _ q) (Nat.le_refl _) ⟨by show 2 <= sizeLine;decide,_,.cons ⟨_,rfl⟩ (.cons ru .nil),IsTup.new _ _⟩
  have up:∀ b,b ≠ s.heap.objs.size->g7 X pins H b->g7 X pins (upd H s.heap.objs.size (.tup [.int i,xs[i]])) b:=λb hb ⟨z,r⟩=>⟨by rw [ak hb];exact z,r⟩
  have I2:=I1.turned2 (h':=h2) (t':=tk + 1) (e:=e) (it:=it) (Heap.get?_push_of_some _ he) rfl ⟨_,en2⟩ (λb o hbe hbi q=>?_) (up e en fe) (up it inn fi)
  ·refine ⟨.ref s.heap.objs.size,_,I2,rfl,⟨_,rfl,fresh,_,rfl,λys hy=>?_⟩,⟨⟨_,by simpa using en2⟩,?_⟩,λb hb=>?_⟩
   ·rw [S.one X hK pins s σ H ys xs I hy hq]
    exact List.getElem?_eq_getElem hx
   ·refine hts _ _ (D.frame _ _ _ st' λb hb o q=>?_)
    rw [sb2.2 b λz=>?_]
    ·exact q
    ·subst z
     simp only [List.mem_cons,List.not_mem_nil,or_false] at hb
     exact hb.elim hei hea
   ·rcases List.mem_cons.mp hb with rfl|hb
    ·exact (up b en fe).1
    ·have z:b=it:=by simpa using hb
     subst z
     exact (up b inn fi).1
  ·rw [sb2.2 b hbe]
   rcases Heap.get?_push_cases q with ⟨rfl,rfl⟩|q
   ·exact tup
   ·exact kp b o hbe hbi q
 done:=by
  intro X hP hw hK hc i pins s σ H E I hf st hg
  obtain ⟨⟨old,he⟩,hr⟩:=st
  obtain ⟨xs,hq,hi⟩:=hg
  obtain ⟨its,rv,dr⟩:=S.row X hP hw hK pins s σ H xs I hq
  have hh:X.A.handled=none:=I.ok.hd hc
  obtain ⟨St,D,hst,hts⟩:=dr X.A.in1 (by simpa using hh)
  have hl:=rv.length
  obtain ⟨f0,f1,f2,f3,f4,f5⟩:=hf it (.tail _ (.head _))
  have e:i=its.length:=by omega
  subst e
  exact wpAny_pyNext_enum_endD D he (hst _ hr) λh' eb=>⟨rfl,I.turned (t':=s.toks) (λb o hb q=>eb b o hb q) f0 f1 f3 f4 f5⟩
 self:=λ_ i s Q E ⟨⟨old,he⟩,_⟩ h=>wpAny_pyIter_enum he h
theorem sQ {P:Program}{w:World}{K:PySem.W.Frag}{a it:Addr} (ne:a ≠ it):Src P w K a it (λH xs=>SqL K H a xs) (λi h=>h.IsListIter it a i) where
 ne:=ne
 keep:=λi h h' ⟨o,ho,r⟩ k=>⟨o,k o ho,r⟩
 live:=λi h ⟨o,ho,_,hd⟩=>⟨o,ho,λv z=>by rw [hd] at z;cases z⟩
 one:=λX hK pins s σ H xs ys I h h'=>by subst hK;exact I.list_inj h h'
 row:=λX hP hw hK pins s σ H xs I h=>by
  subst hP hw hK
  obtain ⟨its,rv,p,_⟩:=I.list h
  refine ⟨its,rv,λA hA=>⟨λi h=>h.IsListIter it a i/\h.IsList a its.toArray,?_,λi st=>⟨st,p.isList⟩,λi h' st=>st.1⟩⟩
  simpa using Draws.list (prog:=X.prog) (w:=X.w) hA it a ne its.toArray
theorem wo {P:Program}{w:World}{K:PySem.W.Frag}{a it:Addr} (ne:a ≠ it):Src P w K a it (λH xs=>SqT K H a xs) (λi h=>h.IsTupleIter it a i) where
 ne:=ne
 keep:=λi h h' ⟨o,ho,r⟩ k=>⟨o,k o ho,r⟩
 live:=λi h ⟨o,ho,_,hd⟩=>⟨o,ho,λv z=>by rw [hd] at z;cases z⟩
 one:=λX hK pins s σ H xs ys I h h'=>by subst hK;exact I.tuple_inj h h'
 row:=λX hP hw hK pins s σ H xs I h=>by
  subst hP hw hK
  obtain ⟨its,rv,p,_⟩:=I.tuple h
  refine ⟨its,rv,λA hA=>⟨λi h=>h.IsTupleIter it a i/\h.IsTuple a its.toArray,?_,λi st=>⟨st,(show s.heap.IsTuple a its.toArray from p)⟩,λi h' st=>st.1⟩⟩
  simpa using En.draws (P:=X.prog) (w:=X.w) hA it a ne its.toArray
noncomputable def CJ (K:PySem.W.Frag) (tl:TE):TI:=λσ H R=>tl σ H λx H1=>∃ a,x=.ref a/\(((∃ xs,SqL K H1 a xs)/\R (Ite λH xs=>SqL K H a xs) H1) \/ ((∃ xs,SqT K H1 a xs)/\R (Ite λH xs=>SqT K H a xs) H1))
theorem mK {X:Cx}{pins:List (Addr × Obj)}{σ:St}{H:Hp}{s:Shared}{E:Value->Shared->Prop}{h':Heap}{ts:List Expr}{j:Nat}{tp:Pos}{a:Addr}{q:Hp->List V->Prop}{r:Nat->Heap->Prop}{R:It->Hp->Prop} (I:Inv X pins σ H s) (la:a < s.heap.objs.size)
  (S:Src X.prog X.w X.K a s.heap.objs.size q r) (en:IsEnum h' (s.heap.objs.size + 1) s.heap.objs.size 0 .none) (hr:r 0 h') (k:∀ b o,s.heap.get? b=some o->h'.get? b=some o) (hR:R (Ite q) H) :
  wpAny (model X.prog X.w) X.A (pyIter (.ref (s.heap.objs.size + 1))) (PIE X pins σ (.Tuple ts j tp) R) E { s with heap:=h' }:=by
 have I1:Inv X pins σ H { s with heap:=h' }:=I.kept (t':=s.toks) k
 refine wpAny_pyIter_enum (s:={ s with heap:=h' }) en ⟨s.heap.objs.size + 1,[s.heap.objs.size + 1,s.heap.objs.size],_,_,H,rfl,I1,sP S (Nat.succ_ne_self _) (Nat.ne_of_gt (Nat.lt_succ_of_lt la)),⟨⟨_,en⟩,hr⟩,λb hb=>?_,hR⟩
 have hb:s.heap.objs.size <= b:=by
  simp only [List.mem_cons,List.not_mem_nil,or_false] at hb
  rcases hb with rfl|rfl
  ·exact Nat.le_succ _
  ·exact Nat.le_refl _
 exact I.fpOk hb (I.hok.fresh hb)
theorem nT {X:Cx}{ts:List Expr}{j:Nat}{tp:Pos}{l:Expr}{tl:TE}{p pos:Pos} (hg:Gl X "enumerate") (hm:X.mg "enumerate"=none) (hl:PE X l tl) (hs:starEach [l] X.env=[(false,eval l X.env)]:=by rfl) :
  PI X (.Tuple ts j tp) (.Call (.Name "enumerate" p) [l] [] pos) (CJ X.K tl):=by
 intro pins s σ H R I h
 refine Call_ (g6 I hg hm PyProof.Rows.boot_enumerate (PyProof.Rows.callWith_type1 (thn (aU hl cE hs pos pins s σ H (λvs H1=>match vs with
  | [x]=>∃ a,x=.ref a/\(((∃ xs,SqL X.K H1 a xs)/\R (Ite λH xs=>SqL X.K H a xs) H1) \/ ((∃ xs,SqT X.K H1 a xs)/\R (Ite λH xs=>SqT X.K H a xs) H1))
  | _=>False) I h) λus s1 ⟨vs,H1,I1,r1,q1⟩=>?_) hs rfl))
 cases r1 with
 | nil=>exact q1.elim
 | cons r rr =>
  cases rr with
  | cons _ _=>exact q1.elim
  | nil =>
   obtain ⟨a,e,q⟩:=q1
   subst e
   cases r
   rcases q with ⟨⟨xs,hq⟩,q⟩|⟨⟨xs,hq⟩,q⟩
   ·obtain ⟨its,_,pl,_⟩:=I1.list hq
    have la:a < s1.heap.objs.size:=let ⟨o,ho,_⟩:=pl.isList;Heap.lt_size ho
    exact call_enumerate_list pl.isList λh' en it _ k=>mK I1 la (sQ (Nat.ne_of_lt la)) en it k q
   ·obtain ⟨its,_,pt,_⟩:=I1.tuple hq
    have pt:s1.heap.IsTuple a its.toArray:=pt
    have la:a < s1.heap.objs.size:=let ⟨o,ho,_⟩:=pt;Heap.lt_size ho
    exact En.call_tup pt λh' en it _ k=>mK I1 la (wo (Nat.ne_of_lt la)) en it k q
end L2
namespace MM
open PySem PySem.Spec PyProof.Rows L2
structure mL (K:PySem.W.Frag) (J:It) (xs:List PV) (V G:Hp):Prop where
 stop:∀ H',af G H'->J.stop xs.length H'
 go:∀ (i:Nat) x H',af G H'->xs[i]?=some x->J.go i H'
 yld:∀ (i:Nat) x H' u H2,af G H'->xs[i]?=some x->J.yld i H' u H2->af H' H2/\∀ O',(∀ a ∈ O',H' a ≠ none)->af V (aj H2 O')->Rep K (aj H2 O') x u
theorem mL.weak {K:PySem.W.Frag}{J:It}{xs:List PV}{V G G':Hp} (h:mL K J xs V G) (s:af G G'):mL K J xs V G' :=
 ⟨λH' s'=>h.stop H' (s.trans s'),λi x H' s'=>h.go i x H' (s.trans s'),λi x H' u H2 s'=>h.yld i x H' u H2 (s.trans s')⟩
noncomputable def aM (ms:List ME) (ρ:Rho) (σ:St):List Addr:=match ms with
 | [.bor i]=>(match (ρ[i]?).join,(σ[i]?).join with|some (.own _),some (.ref a)=>[a]|_,_=>[])
 | _=>[]
noncomputable def bo (B:Hp) (O:List Addr) (H:Hp) (L:List Addr):Hp:=λb=>if b ∈ O then (if b ∈ L then H b else B b) else H b
section
variable {K:PySem.W.Frag}{B H:Hp}{O L:List Addr}
theorem mM (s:af B H):af (bo B O H L) H:=λb u e=>by
 unfold bo at e
 split at e
 ·split at e
  ·exact e
  ·exact s b u e
 ·exact e
theorem cN (s:af B H):af B (bo B O H L):=λb u e=>by
 unfold bo
 split
 ·split
  ·exact s b u e
  ·exact e
 ·exact s b u e
theorem bS:af (aj H O) (bo B O H L):=λb u e=>by
 have hb:b ∉ O:=λz=>by rw [c5 z] at e;cases e
 unfold bo
 rw [if_neg hb]
 rw [aJ hb] at e
 exact e
end
theorem gN {K:PySem.W.Frag}{V G:Hp}{a:Addr}{xs:List PV}{us:List L2.V} (h:SqL K G a us) (r:Reps K V xs us):mL K (Itl K a) xs V G where
 stop:=λH' s=>⟨us,s.seq h,Nat.le_of_eq r.length.symm⟩
 go:=λi x H' s e=>by
  obtain ⟨u,e1,_⟩:=r.get e
  exact ⟨us,u,s.seq h,e1⟩
 yld:=λi x H' u H2 s e y=>by
  obtain ⟨rfl,y⟩:=y
  obtain ⟨w,e1,q⟩:=r.get e
  have e2:=y us (s.seq h)
  rw [e1] at e2
  cases e2
  exact ⟨af.refl _,λO' _ sv=>Rep.mono sv _ q⟩
theorem sR {K:PySem.W.Frag}{V G:Hp}{a:Addr}{xs:List PV}{us:List L2.V} (h:SqT K G a us) (r:Reps K V xs us):mL K (Itt K a) xs V G where
 stop:=λH' s=>⟨us,s.seqT h,Nat.le_of_eq r.length.symm⟩
 go:=λi x H' s e=>by
  obtain ⟨u,e1,_⟩:=r.get e
  exact ⟨us,u,s.seqT h,e1⟩
 yld:=λi x H' u H2 s e y=>by
  obtain ⟨rfl,y⟩:=y
  obtain ⟨w,e1,q⟩:=r.get e
  have e2:=y us (s.seqT h)
  rw [e1] at e2
  cases e2
  exact ⟨af.refl _,λO' _ sv=>Rep.mono sv _ q⟩
theorem mO {K:PySem.W.Frag}{V G:Hp}{lo:Int}{n:Nat}:mL K (Itr lo n) ((List.range n).map λ(k:Nat)=>.int (lo + k)) V G where
 stop:=λH' s=>by simp [Itr]
 go:=λi x H' s e=>by
  have:=(List.getElem?_eq_some_iff.mp e).1
  simpa [Itr] using this
 yld:=λi x H' u H2 s e y=>by
  obtain ⟨rfl,rfl⟩:=y
  refine ⟨af.refl _,λO' _ sv=>?_⟩
  have hi:i < n:=by have:=(List.getElem?_eq_some_iff.mp e).1;simpa using this
  rw [List.getElem?_map,List.getElem?_range hi] at e
  cases e
  rw [Rep]
theorem yY {K:PySem.W.Frag}{H:Hp}{O:List Addr}{p:Addr}{xs:List PV}{us:List V} (hO:∀ a ∈ O,H a ≠ none) (hp:H p=none) (h:Reps K (aj (upd H p (.tup us)) O) xs us):Rep K (aj (upd H p (.tup us)) O) (.tup xs) (.ref p):=by
 rw [Rep]
 refine ⟨p,us,rfl,?_,h⟩
 rw [aJ λz=>hO p z hp]
 exact av ..
theorem o7:∀ (xs:List PV) (k i:Nat),(b6 k xs)[i]?=(xs[i]?).map λx=>.tup [.int ((k + i:Nat):Int),x]
 | [],k,i=>by simp [b6]
 | x::xs,k,0=>by simp [b6]
 | x::xs,k,i + 1=>by
  rw [b6,List.getElem?_cons_succ,List.getElem?_cons_succ,o7 xs (k + 1) i,show k + 1 + i=k + (i + 1) by omega]
theorem jy:∀ (xs:List PV) (k:Nat),(b6 k xs).length=xs.length
 | [],_=>rfl
 | x::xs,k=>by rw [b6,List.length_cons,List.length_cons,jy xs]
theorem gh {K:PySem.W.Frag}{V G:Hp}{q:Hp->List L2.V->Prop}{xs:List PV}{us:List L2.V} (h:∀ H',af G H'->q H' us) (r:Reps K V xs us):mL K (Ite q) (b6 0 xs) V G where
 stop:=λH' s=>⟨us,h H' s,by rw [jy];exact r.length⟩
 go:=λi x H' s e=>by
  refine ⟨us,h H' s,?_⟩
  have:=(List.getElem?_eq_some_iff.mp e).1
  rw [jy] at this
  rw [<- r.length]
  exact this
 yld:=λi x H' u H2 s e y=>by
  obtain ⟨p,rfl,hp,v,rfl,y⟩:=y
  rw [o7] at e
  obtain ⟨z,e1,rfl⟩:=Option.map_eq_some_iff.mp e
  obtain ⟨w,e2,rz⟩:=r.get e1
  have e3:=y us (h H' s)
  rw [e2] at e3
  cases e3
  refine ⟨a8 hp _,λO' hO sv=>?_⟩
  rw [Nat.zero_add]
  refine yY hO hp (.cons (cK _ _) (.cons (Rep.mono sv _ rz) .nil))
noncomputable def tW (K:PySem.W.Frag) (cal:Cal) (k:Sk) (ms:List ME):TI:=λσ H R =>
 ∃ B O₀ O ρ vs xs,az K B O₀ O H ρ σ/\evs cal ms ρ=some vs/\cw k vs=some xs/\∀ J H1,af H H1->mL K J xs (aj H1 O) (bo B O H1 (aM ms ρ σ))->R J H1
section
variable {X:Cx}{cal:Cal}{tg:Expr}
theorem PI.or {e:Expr}{t u:TI} (h:PI X tg e t) (g:PI X tg e u):PI X tg e (λσ H R=>t σ H R \/ u σ H R):=λpins s σ H R I q=>q.elim (h pins s σ H R I) (g pins s σ H R I)
theorem gO:∀ {ms:List ME}{ρ:Rho}{vs:List PV},evs cal ms ρ=some vs->vs.length=ms.length
 | [],_,_,h=>by simp [evs] at h;subst h;rfl
 | m::ms,_,_,h=>by
  simp only [evs,Option.bind_eq_some_iff,Option.map_eq_some_iff] at h
  obtain ⟨v,_,w,e2,rfl⟩:=h
  simp [gO e2]
theorem nU {m:ME}{ρ:Rho}{vs:List PV} (h:evs cal [m] ρ=some vs):∃ v,vs=[v]/\ev cal m ρ=some v:=by
 simp only [evs,Option.bind_eq_some_iff,Option.map_eq_some_iff] at h
 obtain ⟨v,e,w,e2,rfl⟩:=h
 cases e2
 exact ⟨v,rfl,e⟩
theorem lE {K:PySem.W.Frag}{F:Hp}{v:PV}{u:L2.V}{xs:List PV} (h:Rep K F v u) (e:br v=some xs):∃ a us,u=.ref a/\Reps K F xs us/\((v=.lst xs/\SqL K F a us) \/ (v=.tup xs/\SqT K F a us)):=by
 cases v with
 | lst ys=>simp [br] at e;subst e;rw [Rep] at h;obtain ⟨a,us,e,q,r⟩:=h;exact ⟨a,us,e,r,.inl ⟨rfl,q⟩⟩
 | tup ys=>simp [br] at e;subst e;rw [Rep] at h;obtain ⟨a,us,e,q,r⟩:=h;exact ⟨a,us,e,r,.inr ⟨rfl,SqT.of q⟩⟩
 | _=>simp [br] at e
theorem A7 {m:ME}{e:Expr} (hb:aD m=false) (h:PE X e (tE X.K cal m)):PI X tg e (tW X.K cal .seq [m]):=by
 refine (PI.or (k6 h) (rh h)).imp λσ H R q=>?_
 obtain ⟨B,O₀,O,ρ,vs,xs,st,e1,e2,q⟩:=q
 obtain ⟨v,rfl,e3⟩:=nU e1
 have e4:br v=some xs:=e2
 have hl:aM [m] ρ σ=[]:=by cases m <;> first|rfl|cases hb
 rw [hl] at q
 cases v with
 | lst ys =>
  simp [br] at e4;subst e4
  refine .inl ⟨B,O₀,O,ρ,_,st,e3,λu H' s g=>?_⟩
  have r:=g.2 hb
  rw [Rep] at r
  obtain ⟨a,us,rfl,sq,rs⟩:=r
  exact ⟨a,rfl,⟨us,(bb H' O).seq sq⟩,q _ _ s (gN (bS.seq sq) rs)⟩
 | tup ys =>
  simp [br] at e4;subst e4
  refine .inr ⟨B,O₀,O,ρ,_,st,e3,λu H' s g=>?_⟩
  have r:=g.2 hb
  rw [Rep] at r
  obtain ⟨a,us,rfl,sq,rs⟩:=r
  exact ⟨a,rfl,⟨us,(bb H' O).seqT (SqT.of sq)⟩,q _ _ s (sR (bS.seqT (SqT.of sq)) rs)⟩
 | _=>simp [br] at e4
theorem A8 {i:Nat}{x:Str}{pos:Pos} (h:ah X.N X.env.scope i x=true):PI X tg (.Name x pos) (tW X.K cal .seq [.bor i]):=by
 refine (PI.or (k6 (aL h)) (rh (aL h))).imp λσ H R q=>?_
 obtain ⟨B,O₀,O,ρ,vs,xs,st,e1,e2,q⟩:=q
 obtain ⟨v,rfl,e3⟩:=nU e1
 have e4:br v=some xs:=e2
 rw [ev] at e3
 cases hj:(ρ[i]?).join with
 | none=>rw [hj] at e3;cases e3
 | some m =>
  rw [hj] at e3
  obtain ⟨u,eu,so⟩:=aG st hj
  cases m with
  | val w =>
   simp only [a9,Option.some.injEq] at e3
   subst e3
   have so':Rep X.K (aj H O) w u:=so
   obtain ⟨a,us,rfl,rs,z⟩:=lE so' e4
   rcases z with ⟨rfl,sq⟩|⟨rfl,sq⟩
   ·exact .inl ⟨_,eu,a,rfl,⟨us,(bb H O).seq sq⟩,q _ _ (af.refl H) (gN (bS.seq sq) rs)⟩
   ·exact .inr ⟨_,eu,a,rfl,⟨us,(bb H O).seqT sq⟩,q _ _ (af.refl H) (sR (bS.seqT sq) rs)⟩
  | own ys =>
   simp only [a9,Option.some.injEq] at e3
   subst e3
   simp [br] at e4;subst e4
   obtain ⟨a,us,rfl,ha,rs,hO,_⟩:=so
   refine .inl ⟨_,eu,a,rfl,⟨us,SqL.of ha⟩,q _ _ (af.refl H) (gN (SqL.of ?_) rs)⟩
   have hl:aM [.bor i] ρ σ=[a]:=by simp [aM,hj,eu]
   unfold bo
   rw [hl,if_pos hO,if_pos (by simp)]
   exact ha
  | brw ys =>
   simp only [a9,Option.some.injEq] at e3
   subst e3
   simp [br] at e4;subst e4
   obtain ⟨a,us,rfl,sq,rs⟩:=so
   exact .inl ⟨_,eu,a,rfl,⟨us,st.keep.seq sq⟩,q _ _ (af.refl H) (gN ((cN st.keep).seq sq) rs)⟩
  | ownD ys =>
   simp only [a9,Option.some.injEq] at e3
   subst e3
   simp [br] at e4
  | ownO _ _ _=>simp [a9] at e3
  | brwO _ _=>simp [a9] at e3
  | brwD ys =>
   simp only [a9,Option.some.injEq] at e3
   subst e3
   simp [br] at e4
theorem A9 {m:ME}{e:Expr}{f:Str}{ts:List Expr}{j:Nat}{tp p pos:Pos}{T:Tab}{k:Nat} (g:Gf X T k cal) (hf:f=("enumerate":Str)) (hg:glB X.env.scope f=true) (hs:aq e=true) (hb:aD m=false) (h:PE X e (tE X.K cal m)):PI X (.Tuple ts j tp) (.Call (.Name f p) [e] [] pos) (tW X.K cal .enm [m]):=by
 subst hf
 have star:starEach [e] X.env=[(false,eval e X.env)]:=by cases e <;> first|rfl|(simp [aq] at hs)
 refine (nT (da hg) (g.blt "enumerate" (by decide)) h star).imp λσ H R q=>?_
 obtain ⟨B,O₀,O,ρ,vs,xs,st,e1,e2,q⟩:=q
 obtain ⟨v,rfl,e3⟩:=nU e1
 have hl:aM [m] ρ σ=[]:=by cases m <;> first|rfl|cases hb
 rw [hl] at q
 simp only [cw,Option.map_eq_some_iff] at e2
 obtain ⟨ys,e4,rfl⟩:=e2
 refine ⟨B,O₀,O,ρ,_,st,e3,λu H' s g=>?_⟩
 obtain ⟨a,us,rfl,rs,z⟩:=lE (g.2 hb) e4
 rcases z with ⟨_,sq⟩|⟨_,sq⟩
 ·exact ⟨a,rfl,.inl ⟨⟨us,(bb H' O).seq sq⟩,q _ _ s (gh (λH2 s2=>s2.seq (bS.seq sq)) rs)⟩⟩
 ·exact ⟨a,rfl,.inr ⟨⟨us,(bb H' O).seqT sq⟩,q _ _ s (gh (λH2 s2=>s2.seqT (bS.seqT sq)) rs)⟩⟩
theorem yZ {i:Nat}{x:Str}{px:Pos}{f:Str}{ts:List Expr}{j:Nat}{tp p pos:Pos}{T:Tab}{k:Nat} (g:Gf X T k cal) (hf:f=("enumerate":Str)) (hg:glB X.env.scope f=true) (h:ah X.N X.env.scope i x=true):PI X (.Tuple ts j tp) (.Call (.Name f p) [.Name x px] [] pos) (tW X.K cal .enm [.bor i]):=by
 subst hf
 refine (nT (da hg) (g.blt "enumerate" (by decide)) (aL h) rfl).imp λσ H R q=>?_
 obtain ⟨B,O₀,O,ρ,vs,xs,st,e1,e2,q⟩:=q
 obtain ⟨v,rfl,e3⟩:=nU e1
 simp only [cw,Option.map_eq_some_iff] at e2
 obtain ⟨zs,e4,rfl⟩:=e2
 rw [ev] at e3
 cases hj:(ρ[i]?).join with
 | none=>rw [hj] at e3;cases e3
 | some m =>
  rw [hj] at e3
  obtain ⟨u,eu,so⟩:=aG st hj
  cases m with
  | val w =>
   simp only [a9,Option.some.injEq] at e3
   subst e3
   have so':Rep X.K (aj H O) w u:=so
   obtain ⟨a,us,rfl,rs,z⟩:=lE so' e4
   rcases z with ⟨rfl,sq⟩|⟨rfl,sq⟩
   ·exact ⟨_,eu,a,rfl,.inl ⟨⟨us,(bb H O).seq sq⟩,q _ _ (af.refl H) (gh (λH2 s2=>s2.seq (bS.seq sq)) rs)⟩⟩
   ·exact ⟨_,eu,a,rfl,.inr ⟨⟨us,(bb H O).seqT sq⟩,q _ _ (af.refl H) (gh (λH2 s2=>s2.seqT (bS.seqT sq)) rs)⟩⟩
  | own ys =>
   simp only [a9,Option.some.injEq] at e3
   subst e3
   simp [br] at e4;subst e4
   obtain ⟨a,us,rfl,ha,rs,hO,_⟩:=so
   have hl:aM [.bor i] ρ σ=[a]:=by simp [aM,hj,eu]
   have hG:bo B O H (aM [.bor i] ρ σ) a=some (.lst us):=by
    unfold bo
    rw [hl,if_pos hO,if_pos (by simp)]
    exact ha
   exact ⟨_,eu,a,rfl,.inl ⟨⟨us,SqL.of ha⟩,q _ _ (af.refl H) (gh (λH2 s2=>s2.seq (SqL.of hG)) rs)⟩⟩
  | brw ys =>
   simp only [a9,Option.some.injEq] at e3
   subst e3
   simp [br] at e4;subst e4
   obtain ⟨a,us,rfl,sq,rs⟩:=so
   exact ⟨_,eu,a,rfl,.inl ⟨⟨us,st.keep.seq sq⟩,q _ _ (af.refl H) (gh (λH2 s2=>s2.seq ((cN st.keep).seq sq)) rs)⟩⟩
  | ownD ys =>
   simp only [a9,Option.some.injEq] at e3
   subst e3
   simp [br] at e4
  | ownO _ _ _=>simp [a9] at e3
  | brwO _ _=>simp [a9] at e3
  | brwD ys =>
   simp only [a9,Option.some.injEq] at e3
   subst e3
   simp [br] at e4
theorem wp {T:Tab}{k:Nat}{ms:List ME}{args:List Expr}{f:Str}{p pos:Pos} (g:Gf X T k cal) (hf:f=("range":Str)) (hg:glB X.env.scope f=true) (ha:PA X args (tEs X.K cal ms)) (hn:args.length=1 \/ args.length=2) (hs:args.all aq=true) (hm:ms.length=args.length) :
  PI X tg (.Call (.Name f p) args [] pos) (tW X.K cal .rng ms):=by
 subst hf
 have star:∀ e,aq e=true->∀ es env,starEach (e::es) env=(false,eval e env)::starEach es env:=λe he es env=>by
  cases e <;> first|rfl|(simp [aq] at he)
 match args,hn with
 | [a],_ =>
  simp only [List.all_cons,List.all_nil,Bool.and_true] at hs
  refine (pU (da hg) (g.blt "range" (by decide)) ha (by rw [star a hs];rfl)).imp λσ H R q=>?_
  obtain ⟨B,O₀,O,ρ,vs,xs,st,e1,e2,q⟩:=q
  refine ⟨B,O₀,O,ρ,vs,st,e1,λus H' s gs=>?_⟩
  match vs,e2,gs with
  | [.int j],e2,gs =>
   simp only [cw] at e2
   split at e2
   ·rename_i c
    cases e2
    obtain ⟨u,rfl,ru⟩:=p1 gs.1
    have e3:=ru.int
    subst e3
    exact ⟨j,rfl,c.1,c.2,q _ _ s mO⟩
   ·cases e2
  | [.int j,.int j'],e2,gs =>
   have:=gO e1
   simp at this hm
   omega
 | [a,b],_ =>
  simp only [List.all_cons,List.all_nil,Bool.and_true,Bool.and_eq_true] at hs
  refine (pV (da hg) (g.blt "range" (by decide)) ha (by rw [star a hs.1,star b hs.2];rfl) (by rw [star b hs.2];rfl)).imp λσ H R q=>?_
  obtain ⟨B,O₀,O,ρ,vs,xs,st,e1,e2,q⟩:=q
  refine ⟨B,O₀,O,ρ,vs,st,e1,λus H' s gs=>?_⟩
  match vs,e2,gs with
  | [.int i,.int j],e2,gs =>
   simp only [cw] at e2
   split at e2
   ·rename_i c
    cases e2
    obtain ⟨u,u',rfl,ru,ru'⟩:=p2 gs.1
    have e3:=ru.int
    have e4:=ru'.int
    subst e3 e4
    exact ⟨i,j,rfl,c,q _ _ s mO⟩
   ·cases e2
  | [.int j],e2,gs =>
   have:=gO e1
   simp at this hm
   omega
end
end MM
namespace MM
open PySem PySem.Spec PyProof.Rows L2
noncomputable def tF (K:PySem.W.Frag) (cal:Cal) (me:ME):TE:=λσ H Q=>∃ B O₀ O ρ xs,az K B O₀ O H ρ σ/\ev cal me ρ=some (.lst xs) /\
 ∀ p us H',af H H'->H p=none->H' p=some (.lst us)->Reps K (aj H' (p::O)) xs us->Q (.ref p) H'
theorem gP {H:Hp}{O:List Addr}{p:Addr}:af (aj H (p::O)) (aj H O):=aW (af.refl H) λb hb=>.inl (List.mem_cons_of_mem _ hb)
theorem gQ {H:Hp}{O:List Addr}{p:Addr}{o:HO} (h:p ∈ O):aj (upd H p o) O=aj H O:=by
 funext b
 unfold aj
 split
 ·rfl
 ·rename_i hb
  exact ak λz=>hb (by rw [z];exact h)
theorem o8 {K:PySem.W.Frag}{H H':Hp}{O:List Addr}{me:ME}{xs:List PV}{p:Addr}{us:List V} (hO:∀ a ∈ O,H a ≠ none) (hp:H p=none) (e:H' p=some (.lst us)) (r:Reps K (aj H' (p::O)) xs us):Got K H' O me (.lst xs) (.ref p):=by
 refine .of ?_
 rw [Rep]
 refine ⟨p,us,rfl,SqL.of ?_,Reps.mono gP _ r⟩
 rw [aJ λz=>hO p z hp]
 exact e
section
variable {X:Cx}{T:Tab}{k:Nat}{cal:Cal}
theorem fP {e:Expr}{me:ME} (hf:∀ ρ v,ev cal me ρ=some v->∃ xs,v=.lst xs) (h:PE X e (tF X.K cal me)):PE X e (tE X.K cal me):=by
 refine h.imp λσ H Q q=>?_
 obtain ⟨B,O₀,O,ρ,v,st,e1,q⟩:=q
 obtain ⟨xs,rfl⟩:=hf ρ v e1
 exact ⟨B,O₀,O,ρ,xs,st,e1,λp us H' s hp he r=>q _ _ s (o8 st.here hp he r)⟩
theorem Gf.blk (g:Gf X T k cal) (x:Str) (fvs:List Str) (scope:Scope) (s₁:Shared) (H₁:Hp) (C:Addr) (fp:List Addr):Gf (X.blk x fvs scope s₁ H₁ C fp) T k cal:={ g with }
theorem kG {osc:Scope}{N:List Str}{scope:Scope}{x:Str}{fvs:List Str}{js:List Nat} (h:d5 osc N scope x fvs js=true):ia osc N scope x fvs js:=by
 unfold d5 at h
 simp only [Bool.and_eq_true,beq_iff_eq,decide_eq_true_eq] at h
 obtain ⟨⟨⟨⟨⟨⟨⟨⟨h1,h2⟩,h3⟩,h4⟩,h5⟩,h6⟩,h7⟩,h8⟩,h9⟩:=h
 exact ⟨h1,h2,h3,h4,h5,h6,h7,h8,h9⟩
theorem y0 {K:PySem.W.Frag}{B H H1 H2:Hp}{O₀ O:List Addr}{ρ:Rho}{σ σ':St}{js:List Nat}{D:Addr}{x:PV}{ux:V} (st:az K B O₀ O H ρ σ) (s1:af H H1) (s2:af H1 H2) (hD:H1 D=none) (hD2:H2 D ≠ none)
  (hσ:∀ z,σ'.set 0 z=(jj js σ).set 0 z) (hl:0 < σ'.length) (hx:Rep K (aj H2 (D::O)) x ux):az K H1 [] (D::O) H2 (cA js ρ x) (σ'.set 0 (some ux)):=by
 have hv:af (aj H O) (aj H2 (D::O)):=aW (s1.trans s2) λb hb=>by
  rcases List.mem_cons.mp hb with rfl|hb
  ·exact .inr (s1.free hD)
  ·exact .inl hb
 rw [hσ]
 have noown:∀ (i:Nat) (m:MV),dl m=true->(cA js ρ x)[i]? ≠ some (some m):=λi m hm e=>by
  unfold cA at e
  cases i with
  | zero =>
   simp at e
   subst e
   cases hm
  | succ i =>
   simp only [List.getElem?_cons_succ,List.getElem?_map,Option.map_eq_some_iff] at e
   obtain ⟨j,_,e⟩:=e
   cases hj:(ρ[j]?).join with
   | none=>rw [hj] at e;cases e
   | some mm =>
    rw [hj] at e
    cases mm <;> first|(simp [cY] at e;done)|(simp only [cY,Option.some.injEq] at e;subst e;cases hm)
 refine ⟨s2,λa ha=>?_,λa ha=>by simp at ha,λa ha=>by simp at ha,?_,λi m e=>?_,λi j m m' a _ e _ hm=>absurd e (noown i m hm)
  ,my λi m e=>by
   cases q:isL m with
   | false=>rfl
   | true=>exact absurd e (noown i m (by cases m <;> first|(cases q;done)|rfl))
  ⟩
 ·rcases List.mem_cons.mp ha with rfl|ha
  ·exact hD2
  ·exact λe=>st.here a ha ((s1.trans s2).free e)
 ·simp [cA,jj]
 ·cases i with
  | zero =>
   simp only [cA,List.getElem?_cons_zero,Option.some.injEq] at e
   subst e
   exact ⟨ux,by simp [jj],hx⟩
  | succ i =>
   simp only [cA,List.getElem?_cons_succ,List.getElem?_map,Option.map_eq_some_iff] at e
   obtain ⟨j,ej,e⟩:=e
   cases hj:(ρ[j]?).join with
   | none=>rw [hj] at e;cases e
   | some mm =>
    rw [hj] at e
    obtain ⟨u,eu,so⟩:=aG st hj
    have eσ:((jj js σ).set 0 (some ux))[i + 1]?=some (some u):=by
     simp [jj,ej,eu]
    refine ⟨u,eσ,?_⟩
    cases mm with
    | val w =>
     simp only [cY,Option.some.injEq] at e
     subst e
     exact Rep.mono hv _ so
    | own ys =>
     simp only [cY,Option.some.injEq] at e
     subst e
     obtain ⟨a,us,rfl,ha,rs,hO,_⟩:=so
     exact ⟨a,us,rfl,SqL.of (s1 _ _ ha),Reps.mono hv _ rs⟩
    | brw ys =>
     simp only [cY,Option.some.injEq] at e
     subst e
     obtain ⟨a,us,rfl,sq,rs⟩:=so
     exact ⟨a,us,rfl,(st.keep.trans s1).seq sq,Reps.mono hv _ rs⟩
    | ownD kvs =>
     simp only [cY,Option.some.injEq] at e
     subst e
     obtain ⟨a,rfl,ha,_⟩:=so
     exact ⟨a,rfl,.inl (s1 _ _ ha)⟩
    | ownO _ fs ys =>
     simp only [cY,Option.some.injEq] at e
     subst e
     obtain ⟨a,l,rfl,q⟩:=so
     exact ⟨a,rfl,q.lent.move s1 hv⟩
    | brwO fs ys =>
     simp only [cY,Option.some.injEq] at e
     subst e
     obtain ⟨a,rfl,q⟩:=so
     exact ⟨a,rfl,q.move (st.keep.trans s1) hv⟩
    | brwD kvs =>
     simp only [cY,Option.some.injEq] at e
     subst e
     obtain ⟨a,rfl,ha⟩:=so
     exact ⟨a,rfl,af.rd (st.keep.trans s1) ha⟩
theorem nV {k':Sk}{ms:List ME}{js:List Nat}{cond elt:ME}{e it:Expr}{x:Str}{px:Pos}{ifs:List Expr}{scope:Scope}{pos:Pos} (g:Gf X T k cal) (hsc:d5 X.env.scope X.N scope x (bY X.N js) js=true)
  (hw:PI X (.Name x px) it (tW X.K cal k' ms)) (hns:eU it=true)
  (hc:∀ s₁ H₁ C fp,PF (X.blk x (bY X.N js) scope s₁ H₁ C fp) ifs (tT X.K cal cond)) (he:∀ s₁ H₁ C fp,PE (X.blk x (bY X.N js) scope s₁ H₁ C fp) e (tE X.K cal elt)) (hb:aD elt=false) :
  PE X (.ListComp e [⟨.Name x px,it,ifs,0⟩] scope pos) (tF X.K cal (.comp k' ms js cond elt)):=by
 refine (vK (kG hsc) g.calm hw hc he (by intro v;cases it <;> first|rfl|(simp [eU] at hns))).imp λσ H Q q=>?_
 exact comp_go hb q
where
 comp_go {k':Sk}{ms:List ME}{js:List Nat}{cond elt:ME}{K:PySem.W.Frag}{σ:St}{H:Hp}{Q:VK} (hb:aD elt=false) (q:tF K cal (.comp k' ms js cond elt) σ H Q):r6 (tW K cal k' ms) js (tT K cal cond) (tE K cal elt) σ H Q:=by
  obtain ⟨B,O₀,O,ρ,ws,st,e1,q⟩:=q
  rw [ev] at e1
  simp only [Option.bind_eq_some_iff] at e1
  obtain ⟨vs,e1,xs,e2,e3⟩:=e1
  split at e3
  ·rename_i hlen
   simp only [Option.map_eq_some_iff,PV.lst.injEq,exists_eq_right] at e3
   refine ⟨B,O₀,O,ρ,vs,xs,st,e1,e2,λJ H1 s1 it D hD=>?_⟩
   have hDO:D ∉ O:=λz=>aT s1 st.here D z hD
   have it1:=it.weak (mM (st.keep.trans s1))
   refine ⟨λi m σ' H'=>m=xs.length - i/\i <= xs.length/\af H1 H'/\(∀ z,σ'.set 0 z=(jj js σ).set 0 z)/\0 < σ'.length/\∃ done cu ys,dO (λx=>(ev cal cond (cA js ρ x)).bind aH) (λx=>ev cal elt (cA js ρ x)) (xs.drop i)=some cu/\ws=done ++ cu/\done.length <= i/\H' D=some (.lst ys)/\Reps K (aj H' (D::O)) done ys,⟨xs.length,by simp,Nat.zero_le _,a8 hD _,λ_=>rfl,by simp [jj],[],ws,[],by simpa using e3,rfl,Nat.le_refl _,av,.nil⟩,?_⟩
   rintro i m σ' H' ⟨rfl,hi,s2,hσ,hl,done,cu,ys,eg,ew,hdl,hDy,rs⟩
   by_cases hlt:i < xs.length
   ·right
    have ex:xs[i]?=some xs[i]:=List.getElem?_eq_getElem hlt
    refine ⟨it1.go i _ H' s2 ex,λσ2 H2=>∃ m',m' < xs.length - i/\(m'=xs.length - (i + 1)/\i + 1 <= xs.length/\af H1 H2/\(∀ z,σ2.set 0 z=(jj js σ).set 0 z)/\0 < σ2.length/\∃ done cu ys,dO (λx=>(ev cal cond (cA js ρ x)).bind aH) (λx=>ev cal elt (cA js ρ x)) (xs.drop (i + 1))=some cu/\ws=done ++ cu/\done.length <= i + 1/\H2 D=some (.lst ys)/\Reps K (aj H2 (D::O)) done ys),λσ2 H2 z=>z,λux H2 y=>?_⟩
    obtain ⟨s3,hr⟩:=it1.yld i _ H' ux H2 s2 ex y
    have sv:af (aj H1 O) (aj H2 (D::O)):=aW (s2.trans s3) λb hb=>by
     rcases List.mem_cons.mp hb with rfl|hb
     ·exact .inr hD
     ·exact .inl hb
    have hx:=hr (D::O) (λa ha=>by
     rcases List.mem_cons.mp ha with rfl|ha
     ·rw [hDy];simp
     ·exact λz=>aT s1 st.here a ha (s2.free z)) sv
    have hD2:H2 D=some (.lst ys):=s3 _ _ hDy
    have stb:=y0 (js:=js) (ρ:=ρ) st s1 (s2.trans s3) hD (by rw [hD2];simp) hσ hl hx
    rw [List.drop_eq_getElem_cons hlt,dO] at eg
    simp only [Option.bind_eq_some_iff] at eg
    obtain ⟨b,eb,eg⟩:=eg
    refine ⟨H1,[],D::O,_,b,stb,by simpa [evB,Option.bind_eq_some_iff] using eb,λH3 s4=>?_⟩
    have hσ2:∀ z,(σ'.set 0 (some ux)).set 0 z=(jj js σ).set 0 z:=λz=>by rw [List.set_set];exact hσ z
    have hl2:0 < (σ'.set 0 (some ux)).length:=by rw [List.length_set];exact hl
    cases b with
    | false =>
     rw [if_neg (by simp)] at eg
     dsimp only
     rw [if_neg (by simp)]
     refine ⟨_,by omega,rfl,hlt,(s2.trans s3).trans s4,hσ2,hl2,done,cu,ys,eg,ew,by omega,s4 _ _ hD2,Reps.mono ?_ _ rs⟩
     exact (am s3).trans (am s4)
    | true =>
     rw [if_pos rfl] at eg
     dsimp only
     rw [if_pos rfl]
     simp only [Option.bind_eq_some_iff,Option.map_eq_some_iff] at eg
     obtain ⟨y',ey,rest',eg,rfl⟩:=eg
     refine ⟨H1,[],D::O,_,y',stb.mono s4,ey,λuy H4 s5 gy=>?_⟩
     have hD4:H4 D=some (.lst ys):=s5 _ _ (s4 _ _ hD2)
     have ry:=gy.2 hb
     have rs4:Reps K (aj H4 (D::O)) done ys:=Reps.mono (((am s3).trans (am s4)).trans (am s5)) _ rs
     have hyl:ys.length <= 10000:=by rw [<- rs.length];omega
     refine ⟨ys,hD4,Nat.lt_of_le_of_lt hyl (by decide),_,by omega,rfl,hlt,?_,hσ2,hl2,done ++ [y'],rest',ys ++ [uy],eg,by simp [ew],by simp;omega,av,?_⟩
     ·intro b u eb
      rw [ak (aX eb hD)]
      exact s5 _ _ (s4 _ _ ((s2.trans s3) _ _ eb))
     ·rw [gQ (List.mem_cons_self)]
      exact rs4.snoc ry
   ·left
    have ei:i=xs.length:=by omega
    subst ei
    rw [List.drop_length,dO] at eg
    cases eg
    rw [List.append_nil] at ew
    subst ew
    exact ⟨it1.stop H' s2,q D ys H' (s1.trans s2) (s1.free hD) hDy rs⟩
  ·cases e3
end
end MM
namespace MM
open PySem PySem.Spec PyProof.Rows L2
section
variable {X:Cx}{T:Tab}{k:Nat}{cal:Cal}
theorem a_ {e:Expr} (he:aq e=true) (es:List Expr) (env:Env):starEach (e::es) env=(false,eval e env)::starEach es env:=by
 cases e <;> first|rfl|(simp [aq] at he)
theorem aR {pos:Pos}{env:Env}:∀ {es:List Expr},es.all aq=true->(backTo pos (starEach es env)).any (·.1)=false
 | [],_=>rfl
 | e::es,h=>by
  simp only [List.all_cons,Bool.and_eq_true] at h
  rw [a_ h.1]
  show (false || (backTo pos (starEach es env)).any (·.1))=false
  rw [aR h.2];rfl
theorem aI:∀ {ms:List ME}{N:List Str}{sc:Scope}{es:List Expr},chks T ms N sc es=true->es.all aq=true/\ms.length=es.length
 | [],_,_,[],_=>⟨rfl,rfl⟩
 | [],_,_,_::_,h=>by simp [chks] at h
 | _::_,_,_,[],h=>by simp [chks] at h
 | m::ms,N,sc,e::es,h=>by
  simp only [chks,Bool.and_eq_true] at h
  obtain ⟨h1,h2⟩:=aI h.2
  exact ⟨by simp [h.1.2,h1],by simp [h2]⟩
theorem aS {e:Expr}{me:ME} (h:PE X e (tE X.K cal me)) (hp:ij e=true):PT X e (tT X.K cal me):=by
 refine (qY h (by intro w;cases e <;> first|rfl|(simp [ij] at hp;done)|(rename_i op _ _;cases op <;> first|rfl|(simp [ij] at hp)))).imp λσ H Q q=>?_
 obtain ⟨B,O₀,O,ρ,b,st,e1,q⟩:=q
 simp only [evB,Option.bind_eq_some_iff] at e1
 obtain ⟨v,e1,e2⟩:=e1
 refine ⟨B,O₀,O,ρ,v,st,e1,λu H' s g=>?_⟩
 cases v <;> simp [aH] at e2
 subst e2
 exact ⟨_,g.1.bl,q H' s⟩
theorem sS {m:ME}{ms:List ME}{e:Expr}{es:List Expr} (h:PE X e (tE X.K cal m)) (hs:PA X es (tEs X.K cal ms)) (hn:aq e=true):PA X (e::es) (tEs X.K cal (m::ms)):=by
 refine (aU h hs (a_ hn es _)).imp λσ H Q q=>?_
 obtain ⟨B,O₀,O,ρ,vs,st,e1,q⟩:=q
 simp only [evs,Option.bind_eq_some_iff,Option.map_eq_some_iff] at e1
 obtain ⟨v,e1,ws,e2,rfl⟩:=e1
 refine ⟨B,O₀,O,ρ,v,st,e1,λu H1 s1 g1=>⟨B,O₀,O,ρ,ws,st.mono s1,e2,λus H2 s2 g2=>q (u::us) H2 (s1.trans s2) ⟨.cons (g1.1.mono s2) g2.1,λhb=>?_⟩⟩⟩
 simp only [List.all_cons,Bool.and_eq_true,Bool.not_eq_true'] at hb
 exact .cons ((g1.mono s2).2 hb.1) (g2.2 hb.2)
theorem wq:PA X [] (tEs X.K cal []):=by
 refine cE.imp λσ H Q q=>?_
 obtain ⟨B,O₀,O,ρ,vs,st,e1,q⟩:=q
 simp only [evs,Option.some.injEq] at e1
 subst e1
 exact q [] H (af.refl H) ⟨.nil,λ_=>.nil⟩
theorem sT:PA X [] (tAs X.K cal []):=by
 refine cE.imp λσ H Q q=>?_
 obtain ⟨B,O₀,O,ρ,vs,st,e1,q⟩:=q
 simp only [evA,Option.some.injEq] at e1
 subst e1
 exact q [] H (af.refl H) .nil
theorem sU {K:PySem.W.Frag}{H H':Hp}{O:List Addr} (s:af H H') {m:MV}{u:V} (h:cJ K O H m u):cJ K O H' m u:=by
 cases m with
 | val v=>exact Rep.mono (am s) _ h
 | own _=>exact h
 | brw xs=>obtain ⟨a,us,e,q,r⟩:=h;exact ⟨a,us,e,s.seq q,Reps.mono (am s) _ r⟩
 | ownD _=>exact h
 | ownO _ _ _=>exact h
 | brwO fs xs=>obtain ⟨a,e,q⟩:=h;exact ⟨a,e,q.move s (am s)⟩
 | brwD kvs=>obtain ⟨a,e,q⟩:=h;exact ⟨a,e,af.rd s q⟩
theorem qu {m:ME}{ms:List ME}{e:Expr}{es:List Expr} (hb:aD m=false) (h:PE X e (tE X.K cal m)) (hs:PA X es (tAs X.K cal ms)) (hn:aq e=true):PA X (e::es) (tAs X.K cal (m::ms)):=by
 refine (aU h hs (a_ hn es _)).imp λσ H Q q=>?_
 obtain ⟨B,O₀,O,ρ,vs,st,e1,q⟩:=q
 have e1':(ev cal m ρ).bind (λv=>(evA cal ms ρ).map (MV.val v::·))=some vs:=by
  rw [<- e1]
  cases m <;> first|(cases hb;done)|(simp only [evA];done)|rfl
 simp only [Option.bind_eq_some_iff,Option.map_eq_some_iff] at e1'
 obtain ⟨v,e9,ws,e2,rfl⟩:=e1'
 exact ⟨B,O₀,O,ρ,v,st,e9,λu H1 s1 g1=>⟨B,O₀,O,ρ,ws,st.mono s1,e2,λus H2 s2 g2=>q (u::us) H2 (s1.trans s2) (.cons ((g1.mono s2).2 hb) g2)⟩⟩
theorem sV {i:Nat}{ms:List ME}{x:Str}{pos:Pos}{es:List Expr} (h:ah X.N X.env.scope i x=true) (hs:PA X es (tAs X.K cal ms)):PA X (.Name x pos::es) (tAs X.K cal (.bor i::ms)):=by
 refine (aU (aL h) hs rfl).imp λσ H Q q=>?_
 obtain ⟨B,O₀,O,ρ,vs,st,e1,q⟩:=q
 rw [evA] at e1
 simp only [Option.bind_eq_some_iff,Option.map_eq_some_iff] at e1
 obtain ⟨m',e1,ws,e2,rfl⟩:=e1
 cases hj:(ρ[i]?).join with
 | none=>rw [hj] at e1;cases e1
 | some m =>
  rw [hj] at e1
  obtain ⟨u,eu,so⟩:=aG st hj
  have ao:cJ X.K O H m' u:=by
   cases m with
   | val w=>simp only [bu,Option.some.injEq] at e1;subst e1;exact so
   | own ys=>simp only [bu,Option.some.injEq] at e1;subst e1;obtain ⟨a,us,rfl,ha,rs,_⟩:=so;exact ⟨a,us,rfl,SqL.of ha,rs⟩
   | brw ys=>simp only [bu,Option.some.injEq] at e1;subst e1;obtain ⟨a,us,rfl,sq,rs⟩:=so;exact ⟨a,us,rfl,st.keep.seq sq,rs⟩
   | ownD kvs=>simp only [bu,Option.some.injEq] at e1;subst e1;obtain ⟨a,rfl,ha,_⟩:=so;exact ⟨a,rfl,.inl ha⟩
   | ownO _ fs ys=>simp only [bu,Option.some.injEq] at e1;subst e1;obtain ⟨a,l,rfl,q⟩:=so;exact ⟨a,rfl,q.lent⟩
   | brwO fs ys=>simp only [bu,Option.some.injEq] at e1;subst e1;obtain ⟨a,rfl,q⟩:=so;exact ⟨a,rfl,q.move st.keep (af.refl _)⟩
   | brwD kvs=>simp only [bu,Option.some.injEq] at e1;subst e1;obtain ⟨a,rfl,ha⟩:=so;exact ⟨a,rfl,af.rd st.keep ha⟩
  exact ⟨u,eu,⟨B,O₀,O,ρ,ws,st,e2,λus H2 s2 g2=>q (u::us) H2 s2 (.cons (sU s2 ao) g2)⟩⟩
theorem A_ {op:Op2}{a b:ME}{l r:Expr}{pos:Pos} (ha:PE X l (tE X.K cal a)) (hb:PE X r (tE X.K cal b)):PE X (.BinOp l (vZ op) r pos) (tE X.K cal (.bin op a b)):=by
 refine (Ay (yS op) ha hb).imp λσ H Q q=>?_
 obtain ⟨B,O₀,O,ρ,v,st,e1,q⟩:=q
 rw [ev] at e1
 simp only [Option.bind_eq_some_iff] at e1
 obtain ⟨x,e1,y,e2,e3⟩:=e1
 exact ⟨B,O₀,O,ρ,x,st,e1,λux H1 s1 g1=>⟨B,O₀,O,ρ,y,st.mono s1,e2,λuy H2 s2 g2=>⟨O,x,y,v,aT (s1.trans s2) st.here,g1.1.mono s2,g2.1,e3,λu H3 s3 r=>q u H3 ((s1.trans s2).trans s3) (.of r)⟩⟩⟩
theorem Ba {a:ME}{e:Expr}{pos:Pos} (ha:PE X e (tE X.K cal a)):PE X (.UnaryOp .Not e pos) (tE X.K cal (.not a)):=by
 refine (xW ha).imp λσ H Q q=>?_
 obtain ⟨B,O₀,O,ρ,v,st,e1,q⟩:=q
 rw [ev] at e1
 simp only [Option.bind_eq_some_iff,Option.map_eq_some_iff] at e1
 obtain ⟨b,⟨x,e1,e2⟩,rfl⟩:=e1
 cases x <;> simp only [aH,Option.some.injEq,reduceCtorEq] at e2
 subst e2
 exact ⟨B,O₀,O,ρ,_,st,e1,λux H1 s1 g1=>⟨_,g1.1.bl,q _ H1 s1 (.of (ce _ _))⟩⟩
theorem Bb {a:ME}{e:Expr}{pos:Pos} (ha:PT X e (tT X.K cal a)):PT X (.UnaryOp .Not e pos) (tT X.K cal (.not a)):=by
 refine (qZ ha).imp λσ H Q q=>?_
 obtain ⟨B,O₀,O,ρ,b,st,e1,q⟩:=q
 simp only [evB,ev,Option.bind_eq_some_iff,Option.map_eq_some_iff] at e1
 obtain ⟨v,⟨c,⟨x,e1,e2⟩,rfl⟩,e3⟩:=e1
 simp only [aH,Option.some.injEq] at e3
 subst e3
 exact ⟨B,O₀,O,ρ,c,st,by simp [evB,e1,e2],λH' s=>q H' s⟩
theorem xy {a b:ME}{x y:Expr}{r:List Expr}{pos:Pos} (ha:PE X x (tE X.K cal a)) (hb:PE X (.BoolOp .And (y::r) pos) (tE X.K cal b)):PE X (.BoolOp .And (x::y::r) pos) (tE X.K cal (.and a b)):=by
 refine (q_ ha hb).imp λσ H Q q=>?_
 obtain ⟨B,O₀,O,ρ,v,st,e1,q⟩:=q
 rw [ev] at e1
 simp only [Option.bind_eq_some_iff] at e1
 obtain ⟨c,⟨z,e1,e2⟩,e3⟩:=e1
 cases z <;> simp only [aH,Option.some.injEq,reduceCtorEq] at e2
 subst e2
 refine ⟨B,O₀,O,ρ,_,st,e1,λux H1 s1 g1=>⟨_,g1.1.bl,?_⟩⟩
 split at e3
 ·rename_i h
  rw [if_pos h]
  simp only [Option.bind_eq_some_iff,Option.map_eq_some_iff] at e3
  obtain ⟨z',e3,c',e4,rfl⟩:=e3
  cases z' <;> simp only [aH,Option.some.injEq,reduceCtorEq] at e4
  subst e4
  exact ⟨B,O₀,O,ρ,_,st.mono s1,e3,λu H2 s2 g2=>q u H2 (s1.trans s2) (by rw [g2.1.bl];exact .of (ce _ _))⟩
 ·rename_i h
  rw [if_neg h]
  cases e3
  exact q _ H1 s1 (.of (ce _ _))
theorem Bc {a b:ME}{x y:Expr}{r:List Expr}{pos:Pos} (ha:PE X x (tE X.K cal a)) (hb:PE X (.BoolOp .Or (y::r) pos) (tE X.K cal b)):PE X (.BoolOp .Or (x::y::r) pos) (tE X.K cal (.or a b)):=by
 refine (Ap ha hb).imp λσ H Q q=>?_
 obtain ⟨B,O₀,O,ρ,v,st,e1,q⟩:=q
 rw [ev] at e1
 simp only [Option.bind_eq_some_iff] at e1
 obtain ⟨c,⟨z,e1,e2⟩,e3⟩:=e1
 cases z <;> simp only [aH,Option.some.injEq,reduceCtorEq] at e2
 subst e2
 refine ⟨B,O₀,O,ρ,_,st,e1,λux H1 s1 g1=>⟨_,g1.1.bl,?_⟩⟩
 split at e3
 ·rename_i h
  rw [if_pos h]
  cases e3
  exact q _ H1 s1 (.of (ce _ _))
 ·rename_i h
  rw [if_neg h]
  simp only [Option.bind_eq_some_iff,Option.map_eq_some_iff] at e3
  obtain ⟨z',e3,c',e4,rfl⟩:=e3
  cases z' <;> simp only [aH,Option.some.injEq,reduceCtorEq] at e4
  subst e4
  exact ⟨B,O₀,O,ρ,_,st.mono s1,e3,λu H2 s2 g2=>q u H2 (s1.trans s2) (by rw [g2.1.bl];exact .of (ce _ _))⟩
theorem xz {op:BoolOp}{vs:List Expr}{pos:Pos}{t:TT} (h:PT X (.BoolOp op vs pos) t):PW X (.BoolOp op vs pos) t:=λw pins s σ H Q I q=>by
 have:=h pins s σ H Q I q
 rw [show PySem.isTrue (.BoolOp op vs pos) X.env w=PySem.isTrue (.BoolOp op vs pos) X.env (eval (.BoolOp op vs pos) X.env) from rfl]
 exact this
theorem xA {a b:ME}{x y:Expr}{r:List Expr}{pos:Pos} (ha:PT X x (tT X.K cal a)) (hb:PW X (.BoolOp .And (y::r) pos) (tT X.K cal b)):PT X (.BoolOp .And (x::y::r) pos) (tT X.K cal (.and a b)):=by
 refine (xV ha hb).pt.imp λσ H Q q=>?_
 obtain ⟨B,O₀,O,ρ,v,st,e1,q⟩:=q
 simp only [evB,ev,Option.bind_eq_some_iff] at e1
 obtain ⟨w,⟨c,⟨z,e1,e2⟩,e3⟩,e4⟩:=e1
 refine ⟨B,O₀,O,ρ,c,st,by simp [evB,e1,e2],λH1 s1=>?_⟩
 split at e3
 ·rename_i h
  rw [if_pos h]
  simp only [Option.bind_eq_some_iff,Option.map_eq_some_iff] at e3
  obtain ⟨z',e3,c',e5,rfl⟩:=e3
  simp only [aH,Option.some.injEq] at e4
  subst e4
  exact ⟨B,O₀,O,ρ,_,st.mono s1,by simp [evB,e3,e5],λH2 s2=>q H2 (s1.trans s2)⟩
 ·rename_i h
  rw [if_neg h]
  cases e3
  cases e4
  exact q H1 s1
theorem Bd {a b:ME}{x y:Expr}{r:List Expr}{pos:Pos} (ha:PT X x (tT X.K cal a)) (hb:PW X (.BoolOp .Or (y::r) pos) (tT X.K cal b)):PT X (.BoolOp .Or (x::y::r) pos) (tT X.K cal (.or a b)):=by
 refine (Am ha hb).pt.imp λσ H Q q=>?_
 obtain ⟨B,O₀,O,ρ,v,st,e1,q⟩:=q
 simp only [evB,ev,Option.bind_eq_some_iff] at e1
 obtain ⟨w,⟨c,⟨z,e1,e2⟩,e3⟩,e4⟩:=e1
 refine ⟨B,O₀,O,ρ,c,st,by simp [evB,e1,e2],λH1 s1=>?_⟩
 split at e3
 ·rename_i h
  rw [if_pos h]
  cases e3
  cases e4
  exact q H1 s1
 ·rename_i h
  rw [if_neg h]
  simp only [Option.bind_eq_some_iff,Option.map_eq_some_iff] at e3
  obtain ⟨z',e3,c',e5,rfl⟩:=e3
  simp only [aH,Option.some.injEq] at e4
  subst e4
  exact ⟨B,O₀,O,ρ,_,st.mono s1,by simp [evB,e3,e5],λH2 s2=>q H2 (s1.trans s2)⟩
theorem Be {c a b:ME}{t x y:Expr}{pos:Pos} (hc:PT X t (tT X.K cal c)) (ha:PE X x (tE X.K cal a)) (hb:PE X y (tE X.K cal b)) (na:aD a=false) (nb:aD b=false):PE X (.IfExp t x y pos) (tE X.K cal (.ite c a b)):=by
 refine (ra hc ha hb).imp λσ H Q q=>?_
 obtain ⟨B,O₀,O,ρ,v,st,e1,q⟩:=q
 rw [ev] at e1
 simp only [Option.bind_eq_some_iff] at e1
 obtain ⟨k',e1,e3⟩:=e1
 refine ⟨B,O₀,O,ρ,k',st,by simpa [evB,Option.bind_eq_some_iff] using e1,λH1 s1=>?_⟩
 split at e3
 ·rename_i h
  rw [if_pos h]
  exact ⟨B,O₀,O,ρ,v,st.mono s1,e3,λu H2 s2 g2=>q u H2 (s1.trans s2) (.of (g2.2 na))⟩
 ·rename_i h
  rw [if_neg h]
  exact ⟨B,O₀,O,ρ,v,st.mono s1,e3,λu H2 s2 g2=>q u H2 (s1.trans s2) (.of (g2.2 nb))⟩
theorem Bf {c a b:ME}{t x y:Expr}{pos:Pos} (hc:PT X t (tT X.K cal c)) (ha:PT X x (tT X.K cal a)) (hb:PT X y (tT X.K cal b)):PT X (.IfExp t x y pos) (tT X.K cal (.ite c a b)):=by
 intro pins s σ H Q I q
 obtain ⟨B,O₀,O,ρ,v,st,e1,q⟩:=q
 simp only [evB,ev,Option.bind_eq_some_iff] at e1
 obtain ⟨w,⟨k',e1,e3⟩,e4⟩:=e1
 refine isTrue_IfExp (thn (hc pins s σ H (λb H1=>b=k'/\af H H1) I ⟨B,O₀,O,ρ,k',st,by simpa [evB,Option.bind_eq_some_iff] using e1,λH1 s1=>⟨rfl,s1⟩⟩) λb s1 ⟨H1,I1,eb,hs⟩=>?_)
 subst eb
 split at e3
 ·rename_i h
  subst h
  exact ha pins s1 σ H1 Q I1 ⟨B,O₀,O,ρ,v,st.mono hs,by simp [evB,e3,e4],λH2 s2=>q H2 (hs.trans s2)⟩
 ·rename_i h
  have:b=false:=by cases b <;> simp at h ⊢
  subst this
  exact hb pins s1 σ H1 Q I1 ⟨B,O₀,O,ρ,v,st.mono hs,by simp [evB,e3,e4],λH2 s2=>q H2 (hs.trans s2)⟩
theorem Bg {op:Cp}{a b:ME}{l r:Expr}{pos:Pos} (g:Gf X T k cal) (ha:PE X l (tE X.K cal a)) (hb:PE X r (tE X.K cal b)) (hm:behindInMarks (eJ op) r=false):PE X (.Compare l [eJ op] [r] pos) (tE X.K cal (.cmp op a b))/\PT X (.Compare l [eJ op] [r] pos) (tT X.K cal (.cmp op a b)):=by
 refine ⟨(k7 (eX g.units op) ha hb hm).imp λσ H Q q=>?_,(oE (eX g.units op) ha hb hm).imp λσ H Q q=>?_⟩
 ·obtain ⟨B,O₀,O,ρ,v,st,e1,q⟩:=q
  rw [ev] at e1
  simp only [Option.bind_eq_some_iff,Option.map_eq_some_iff] at e1
  obtain ⟨x,e1,y,e2,c,e3,rfl⟩:=e1
  exact ⟨B,O₀,O,ρ,x,st,e1,λux H1 s1 g1=>⟨B,O₀,O,ρ,y,st.mono s1,e2,λuy H2 s2 g2=>⟨O,x,y,c,g1.1.mono s2,g2.1,e3,q _ H2 (s1.trans s2) (.of (ce _ _))⟩⟩⟩
 ·obtain ⟨B,O₀,O,ρ,v,st,e1,q⟩:=q
  simp only [evB,ev,Option.bind_eq_some_iff,Option.map_eq_some_iff] at e1
  obtain ⟨w,⟨x,e1,y,e2,c,e3,rfl⟩,e4⟩:=e1
  simp only [aH,Option.some.injEq] at e4
  subst e4
  exact ⟨B,O₀,O,ρ,x,st,e1,λux H1 s1 g1=>⟨B,O₀,O,ρ,y,st.mono s1,e2,λuy H2 s2 g2=>⟨O,x,y,c,g1.1.mono s2,g2.1,e3,_,rfl,q H2 (s1.trans s2)⟩⟩⟩
theorem wr {op op':Cp}{a b c:ME}{l m r:Expr}{pos:Pos} (g:Gf X T k cal) (ha:PE X l (tE X.K cal a)) (hb:PE X m (tE X.K cal b)) (hc:PE X r (tE X.K cal c)) (hm:lastMarks [eJ op,eJ op'] [m,r]=false) :
  PE X (.Compare l [eJ op,eJ op'] [m,r] pos) (tE X.K cal (.chain op op' a b c))/\PT X (.Compare l [eJ op,eJ op'] [m,r] pos) (tT X.K cal (.chain op op' a b c)):=by
 refine ⟨(rl (eX g.units op) (eX g.units op') ha hb hc hm).imp λσ H Q q=>?_,(rm (eX g.units op) (eX g.units op') ha hb hc hm).imp λσ H Q q=>?_⟩
 ·obtain ⟨B,O₀,O,ρ,v,st,e1,q⟩:=q
  rw [ev] at e1
  simp only [Option.bind_eq_some_iff] at e1
  obtain ⟨x,e1,y,e2,c',e3,e4⟩:=e1
  refine ⟨B,O₀,O,ρ,x,st,e1,λux H1 s1 g1=>⟨B,O₀,O,ρ,y,st.mono s1,e2,λuy H2 s2 g2=>⟨O,x,y,c',g1.1.mono s2,g2.1,e3,_,rfl,?_⟩⟩⟩
  split at e4
  ·rename_i h
   rw [if_pos h]
   simp only [Option.bind_eq_some_iff,Option.map_eq_some_iff] at e4
   obtain ⟨z,e4,d,e5,rfl⟩:=e4
   exact ⟨B,O₀,O,ρ,z,(st.mono s1).mono s2,e4,λuz H3 s3 g3=>⟨O,y,z,d,g2.1.mono s3,g3.1,e5,q _ H3 ((s1.trans s2).trans s3) (.of (ce _ _))⟩⟩
  ·rename_i h
   rw [if_neg h]
   cases e4
   exact q _ H2 (s1.trans s2) (.of (ce _ _))
 ·obtain ⟨B,O₀,O,ρ,v,st,e1,q⟩:=q
  simp only [evB,ev,Option.bind_eq_some_iff] at e1
  obtain ⟨w,⟨x,e1,y,e2,c',e3,e4⟩,e6⟩:=e1
  refine ⟨B,O₀,O,ρ,x,st,e1,λux H1 s1 g1=>⟨B,O₀,O,ρ,y,st.mono s1,e2,λuy H2 s2 g2=>⟨O,x,y,c',g1.1.mono s2,g2.1,e3,_,rfl,?_⟩⟩⟩
  split at e4
  ·rename_i h
   rw [if_pos h]
   simp only [Option.bind_eq_some_iff,Option.map_eq_some_iff] at e4
   obtain ⟨z,e4,d,e5,rfl⟩:=e4
   simp only [aH,Option.some.injEq] at e6
   subst e6
   exact ⟨B,O₀,O,ρ,z,(st.mono s1).mono s2,e4,λuz H3 s3 g3=>⟨O,y,z,d,g2.1.mono s3,g3.1,e5,_,rfl,q H3 ((s1.trans s2).trans s3)⟩⟩
  ·rename_i h
   rw [if_neg h]
   cases e4
   cases e6
   exact ⟨_,rfl,q H2 (s1.trans s2)⟩
theorem Bh {ms:List ME}{es:List Expr}{j:Nat}{pos:Pos} (h:PA X es (tEs X.K cal ms)) (hb:(ms.all λm=>!aD m)=true):PE X (.Tuple es j pos) (tE X.K cal (.tup ms)):=by
 refine (yb h).imp λσ H Q q=>?_
 obtain ⟨B,O₀,O,ρ,v,st,e1,q⟩:=q
 rw [ev] at e1
 simp only [Option.bind_eq_some_iff] at e1
 obtain ⟨vs,e1,e2⟩:=e1
 split at e2
 ·rename_i hl
  cases e2
  refine ⟨B,O₀,O,ρ,vs,st,e1,λus H1 s1 g1=>⟨?_,λp hp=>?_⟩⟩
  ·rw [<- (g1.2 hb).length];exact eK hl
  ·exact q _ _ (s1.trans (a8 hp _)) (.of (gJ (aT s1 st.here) hp (g1.2 hb)))
 ·cases e2
theorem xB {ms:List ME}{es:List Expr}{pos:Pos} (h:PA X es (tEs X.K cal ms)) (hb:(ms.all λm=>!aD m)=true):PE X (.List es pos) (tF X.K cal (.lst ms)):=by
 refine (nu h).imp λσ H Q q=>?_
 obtain ⟨B,O₀,O,ρ,xs,st,e1,q⟩:=q
 rw [ev] at e1
 simp only [Option.bind_eq_some_iff] at e1
 obtain ⟨vs,e1,e2⟩:=e1
 split at e2
 ·rename_i hl
  cases e2
  refine ⟨B,O₀,O,ρ,xs,st,e1,λus H1 s1 g1=>⟨?_,λp hp=>?_⟩⟩
  ·rw [<- (g1.2 hb).length];exact eK hl
  ·refine q p us _ (s1.trans (a8 hp _)) (s1.free hp) av ?_
   rw [gQ (List.mem_cons_self)]
   refine Reps.mono (aW (af.refl H1) λb hb=>?_) _ (g1.2 hb)
   rcases List.mem_cons.mp hb with rfl|hb
   ·exact .inr hp
   ·exact .inl hb
 ·cases e2
theorem Bi {a i:ME}{v s:Expr}{pos:Pos} (ha:PE X v (tE X.K cal a)) (hi:PE X s (tE X.K cal i)) (hs:bV s=true):PE X (.Subscript v s pos) (tE X.K cal (.idx a i)):=by
 refine (rH yU ha hi (nS hs)).imp λσ H Q q=>?_
 obtain ⟨B,O₀,O,ρ,v,st,e1,q⟩:=q
 rw [ev] at e1
 simp only [Option.bind_eq_some_iff] at e1
 obtain ⟨x,e1,y,e2,e3⟩:=e1
 exact ⟨B,O₀,O,ρ,x,st,e1,λux H1 s1 g1=>⟨B,O₀,O,ρ,y,st.mono s1,e2,λuy H2 s2 g2=>⟨O,x,y,v,aT (s1.trans s2) st.here,g1.1.mono s2,g2.1,e3,λu H3 s3 r=>q u H3 ((s1.trans s2).trans s3) (.of r)⟩⟩⟩
noncomputable def tB1 (K:PySem.W.Frag) (cal:Cal) (me:ME):TO:=λσ H Q=>∃ B O₀ O ρ o,az K B O₀ O H ρ σ/\((ev cal me ρ).bind λv=>bnd me v)=some o/\∀ H',af H H'->Q o H'
theorem sW {m:ME} (h:eB m=true):PO X none (tB1 X.K cal m):=by
 have e:m=.cst .non:=by
  unfold eB at h
  split at h
  ·rfl
  ·cases h
 subst e
 intro pins s σ H Q I q
 obtain ⟨B,O₀,O,ρ,o,st,e1,q⟩:=q
 simp only [ev,Option.bind_some,bnd,Option.some.injEq] at e1
 subst e1
 exact vp pins s σ H Q I (q H (af.refl H))
theorem sX {m:ME}{l:Expr} (h:PE X l (tE X.K cal m)) (hn:eB m=false):PO X (some l) (tB1 X.K cal m):=by
 intro pins s σ H Q I q
 obtain ⟨B,O₀,O,ρ,o,st,e1,q⟩:=q
 simp only [Option.bind_eq_some_iff] at e1
 obtain ⟨v,e1,e2⟩:=e1
 obtain ⟨i,rfl,rfl⟩:∃ i,v=.int i/\o=some i:=by
  unfold bnd at e2
  split at e2
  ·simp [eB] at hn
  ·cases e2;exact ⟨_,rfl,rfl⟩
  ·cases e2
 exact vq h pins s σ H Q I ⟨B,O₀,O,ρ,_,st,e1,λu H' s' g=>⟨i,g.1.int,q H' s'⟩⟩
theorem wt {a lo hi:ME}{v:Expr}{l u:Option Expr}{p2 pos:Pos} (ha:PE X v (tE X.K cal a)) (hl:PO X l (tB1 X.K cal lo)) (hu:PO X u (tB1 X.K cal hi)):PE X (.Subscript v (.Slice l u none p2) pos) (tE X.K cal (.slice a lo hi)):=by
 refine (rG yV ha hl hu).imp λσ H Q q=>?_
 obtain ⟨B,O₀,O,ρ,w,st,e1,q⟩:=q
 rw [ev,Option.bind_eq_some_iff] at e1
 obtain ⟨x,e1,e2⟩:=e1
 rw [Option.bind_eq_some_iff] at e2
 obtain ⟨lo',e2,e3⟩:=e2
 rw [Option.bind_eq_some_iff] at e3
 obtain ⟨hi',e3,e4⟩:=e3
 exact ⟨B,O₀,O,ρ,x,st,e1,λux H1 s1 g1=>⟨B,O₀,O,ρ,lo',st.mono s1,e2,λH2 s2=>⟨B,O₀,O,ρ,hi',(st.mono s1).mono s2,e3,λH3 s3 =>
  ⟨O,x,w,aT ((s1.trans s2).trans s3) st.here,g1.1.mono (s2.trans s3),e4,λu H4 s4 r=>q u H4 (((s1.trans s2).trans s3).trans s4) (.of r)⟩⟩⟩⟩
theorem sY {f:Blt}{ms:List ME}{x:Str}{e:Expr}{es:List Expr}{p pos:Pos}{id:String} (hc:cD X (.builtin id) (RBM X.K (aF f))) (hg:glB X.env.scope x=true) (hm:X.mg x=none) (hv:bootBuiltins x=some (.builtin id)) (hn:x ≠ "__name__") (hd:(x == ("__debug__":Str))=false)
  (ha:PA X (e::es) (tEs X.K cal ms)) (hs:(e::es).all aq=true):PE X (.Call (.Name x p) (e::es) [] pos) (tE X.K cal (.blt f ms)):=by
 simp only [List.all_cons,Bool.and_eq_true] at hs
 refine (fz hc (da hg) hm hv ha hn hd (a_ hs.1 es _) (aR hs.2)).imp λσ H Q q=>?_
 obtain ⟨B,O₀,O,ρ,v,st,e1,q⟩:=q
 rw [ev,Option.bind_eq_some_iff] at e1
 obtain ⟨vs,e1,e2⟩:=e1
 exact ⟨B,O₀,O,ρ,vs,st,e1,λus H1 s1 g1=>⟨O,vs,v,aT s1 st.here,g1.1,e2,λu H2 s2 r=>q u H2 (s1.trans s2) (.of r)⟩⟩
theorem y1 {f:Blt}{ms:List ME}{x:Str}{e:Expr}{es:List Expr}{p pos:Pos}{id:String} (hc:cD X (.type id) (RBM X.K (aF f))) (hg:glB X.env.scope x=true) (hm:X.mg x=none) (hv:bootBuiltins x=some (.type id)) (hn:x ≠ "__name__") (hd:(x == ("__debug__":Str))=false)
  (ha:PA X (e::es) (tEs X.K cal ms)) (hs:(e::es).all aq=true):PE X (.Call (.Name x p) (e::es) [] pos) (tE X.K cal (.blt f ms)):=by
 simp only [List.all_cons,Bool.and_eq_true] at hs
 refine (j5 hc (da hg) hm hv ha hn hd (a_ hs.1 es _) (aR hs.2)).imp λσ H Q q=>?_
 obtain ⟨B,O₀,O,ρ,v,st,e1,q⟩:=q
 rw [ev,Option.bind_eq_some_iff] at e1
 obtain ⟨vs,e1,e2⟩:=e1
 exact ⟨B,O₀,O,ρ,vs,st,e1,λus H1 s1 g1=>⟨O,vs,v,aT s1 st.here,g1.1,e2,λu H2 s2 r=>q u H2 (s1.trans s2) (.of r)⟩⟩
theorem kH {f:Blt}{ms:List ME}{σ:St}{H:Hp}{Q:VK}{K:PySem.W.Frag} (q:tF K cal (.blt f ms) σ H Q):tCB (RBF K (aF f)) (tEs K cal ms) σ H Q:=by
 obtain ⟨B,O₀,O,ρ,xs,st,e1,q⟩:=q
 rw [ev,Option.bind_eq_some_iff] at e1
 obtain ⟨vs,e1,e2⟩:=e1
 refine ⟨B,O₀,O,ρ,vs,st,e1,λus H1 s1 g1=>⟨O,vs,xs,aT s1 st.here,g1.1,e2,λl ws hl r=>q l ws _ (s1.trans (a8 hl _)) (s1.free hl) av ?_⟩⟩
 rw [gQ (List.mem_cons_self)]
 refine Reps.mono (aW (af.refl H1) λb hb=>?_) _ r
 rcases List.mem_cons.mp hb with rfl|hb
 ·exact .inr hl
 ·exact .inl hb
theorem y2 {f:Blt}{ms:List ME}{x:Str}{e:Expr}{es:List Expr}{p pos:Pos}{id:String} (hc:cD X (.builtin id) (RBF X.K (aF f))) (hg:glB X.env.scope x=true) (hm:X.mg x=none) (hv:bootBuiltins x=some (.builtin id)) (hn:x ≠ "__name__") (hd:(x == ("__debug__":Str))=false)
  (ha:PA X (e::es) (tEs X.K cal ms)) (hs:(e::es).all aq=true):PE X (.Call (.Name x p) (e::es) [] pos) (tF X.K cal (.blt f ms)):=by
 simp only [List.all_cons,Bool.and_eq_true] at hs
 exact (fz hc (da hg) hm hv ha hn hd (a_ hs.1 es _) (aR hs.2)).imp λσ H Q q=>kH q
theorem wu {f:Blt}{ms:List ME}{x:Str}{e:Expr}{es:List Expr}{p pos:Pos}{id:String} (hc:cD X (.type id) (RBF X.K (aF f))) (hg:glB X.env.scope x=true) (hm:X.mg x=none) (hv:bootBuiltins x=some (.type id)) (hn:x ≠ "__name__") (hd:(x == ("__debug__":Str))=false)
  (ha:PA X (e::es) (tEs X.K cal ms)) (hs:(e::es).all aq=true):PE X (.Call (.Name x p) (e::es) [] pos) (tF X.K cal (.blt f ms)):=by
 simp only [List.all_cons,Bool.and_eq_true] at hs
 exact (j5 hc (da hg) hm hv ha hn hd (a_ hs.1 es _) (aR hs.2)).imp λσ H Q q=>kH q
theorem y3 {f:Nat}{ms:List ME}{x:Str}{es:List Expr}{p pos:Pos} (g:Gf X T k cal) (hf:T.fs[f]?=some x) (hg:glB X.env.scope x=true) (hn:ag x=true) (ha:PA X es (tAs X.K cal ms)) (hs:es.all aq=true) (hl:ms.length=es.length):PE X (.Call (.Name x p) es [] pos) (tE X.K cal (.call f ms)):=by
 obtain ⟨fa,fd,ps,h1,h2,h3,F,_⟩:=g.fns f x hf hn
 have key:∀ σ H Q,tE X.K cal (.call f ms) σ H Q->rA (spM X.K cal f) [] E0 (tAs X.K cal ms) σ H Q:=λσ H Q q=>by
  obtain ⟨B,O₀,O,ρ,v,st,e1,q⟩:=q
  rw [ev,Option.bind_eq_some_iff] at e1
  obtain ⟨vs,e1,e2⟩:=e1
  refine ⟨B,O₀,O,ρ,vs,st,e1,λus H1 s1 g1=>⟨O,vs,v,aT s1 st.here,?_,e2,λu H2 s2 r=>q u H2 (s1.trans s2) (.of r)⟩⟩
  rw [List.append_nil]
  exact g1
 cases es with
 | nil =>
  refine (rB F g.room (da hg) h1 h2 h3 .nil eG (cM hn).1).imp λσ H Q q=>?_
  obtain ⟨B,O₀,O,ρ,vs,st,e1,q⟩:=key σ H Q q
  cases ms with
  | nil =>
   simp only [evA,Option.some.injEq] at e1
   subst e1
   exact q [] H (af.refl H) .nil
  | cons m ms=>simp at hl
 | cons e es =>
  simp only [List.all_cons,Bool.and_eq_true] at hs
  exact (iL F g.room (da hg) h1 h2 h3 .nil eG ha (cM hn).1 (a_ hs.1 es _) (aR hs.2)).imp key
end
end MM
namespace MM
open PySem PySem.Spec PyProof.Rows L2
section
variable {K:PySem.W.Frag}{H:Hp}{O:List Addr}
theorem sZ (kvs:List (Int × Sc)) (i:Int):gp (fE kvs) (Sum.inl i:Key)=(dh kvs i).map Sc.v:=by
 unfold gp fE dh
 rw [List.find?_map,Option.map_map,Option.map_map]
 have e:((λkv:Key × V=>decide (kv.1=(Sum.inl i:Key))) ∘ λp:Int × Sc=>((Sum.inl p.1:Key),p.2.v))=λp:Int × Sc=>decide (p.1=i):=by
  funext p
  simp
 rw [e]
 rfl
theorem s_ (kvs:List (List Int × Sc)) (k:List Int):gp (gz kvs) (k.map Sum.inl)=(dh kvs k).map Sc.v:=by
 unfold gp gz dh
 rw [List.find?_map,Option.map_map,Option.map_map]
 have e:((λkv:List Key × V=>decide (kv.1=k.map Sum.inl)) ∘ λp:List Int × Sc=>((p.1.map Sum.inl:List Key),p.2.v))=λp:List Int × Sc=>decide (p.1=k):=by
  funext p
  exact decide_eq_decide.mpr ⟨iP,λe=>congrArg (List.map Sum.inl) e⟩
 rw [e]
 rfl
theorem wv (ns:List Int):(ns.map Sum.inl:List Key).map kV=ns.map V.int:=by
 rw [List.map_map]
 rfl
theorem o9 {xs:List PV}{ns:List Int}{u:V} (e:bc xs=some ns) (r:a7 K H O (.tup xs) u):∃ b,u=.ref b/\H b=some (.tup ((ns.map Sum.inl:List Key).map kV)):=by
 have e1:=gA e
 subst e1
 obtain ⟨b,us,rfl,h,t⟩:=r.tupH
 have e2:=t.ints
 subst e2
 exact ⟨b,rfl,by rw [wv];exact h⟩
theorem lF {d:DD}{y:PV}{o:Option Sc}{a:Addr}{u:V} (e:ql (.dI d) y=some o) (ha:Rd H a (fF d)) (r:a7 K H O y u):jb H a u (o.map Sc.v):=by
 cases d with
 | k kvs =>
  cases y <;> try (cases e;done)
  rename_i i
  have e1:=r.int
  subst e1
  have e2:dh kvs i=o:=Option.some.inj e
  rw [<- e2,<- sZ]
  exact .inl ⟨_,Sum.inl i,ha,rfl,rfl⟩
 | t kvs =>
  cases y <;> try (cases e;done)
  rename_i xs
  have e:(bc xs).map (dh kvs)=some o:=e
  rw [Option.map_eq_some_iff] at e
  obtain ⟨ns,e1,e2⟩:=e
  obtain ⟨b,rfl,hb⟩:=o9 e1 r
  rw [<- e2,<- s_]
  exact .inr ⟨_,_,b,ha,rfl,hb,rfl⟩
theorem tf (kvs:List (Int × Sc)) (k:Int) (s:Sc):fU (fE kvs) (Sum.inl k:Key) s.v=fE (cG kvs k s):=by
 have e1:((fE kvs).any λkv=>decide (kv.1=(Sum.inl k:Key)))=kvs.any λp=>decide (p.1=k):=by
  unfold fE
  rw [List.any_map]
  congr 1
  funext p
  simp
 unfold fU cG
 rw [e1]
 split
 ·unfold fE
  rw [List.map_map,List.map_map]
  refine List.map_congr_left λp _=>?_
  by_cases h:p.1=k <;> simp [h]
 ·unfold fE
  rw [List.map_append]
  rfl
theorem ti (kvs:List (List Int × Sc)) (k:List Int) (s:Sc):fU (gz kvs) (k.map Sum.inl:List Key) s.v=gz (cG kvs k s):=by
 have ee:∀ q:List Int,((q.map Sum.inl:List Key)=k.map Sum.inl) ↔ q=k:=λq=>⟨iP,λe=>by rw [e]⟩
 have e1:((gz kvs).any λkv=>decide (kv.1=(k.map Sum.inl:List Key)))=kvs.any λp=>decide (p.1=k):=by
  unfold gz
  rw [List.any_map]
  congr 1
  funext p
  exact decide_eq_decide.mpr (ee p.1)
 unfold fU cG
 rw [e1]
 split
 ·unfold gz
  rw [List.map_map,List.map_map]
  refine List.map_congr_left λp _=>?_
  by_cases h:p.1=k
  ·have h2:=(ee p.1).mpr h
   simp [h]
  ·have h2:¬ (p.1.map Sum.inl:List Key)=k.map Sum.inl:=λz=>h ((ee p.1).mp z)
   simp [h,h2]
 ·unfold gz
  rw [List.map_append]
  rfl
theorem ww {d d':DD}{y:PV}{s:Sc}{a:Addr}{u:V} (e:sg d y s=some d') (ha:H a=some (fF d)) (r:a7 K H O y u):jc H a u s.v (upd H a (fF d')):=by
 cases d with
 | k kvs =>
  cases y <;> try (cases e;done)
  rename_i i
  have e1:=r.int
  subst e1
  have e2:(if kvs.length < 10000 then some (DD.k (cG kvs i s)) else none)=some d':=e
  split at e2
  ·rename_i hl
   cases e2
   show jc H a (.int i) s.v (upd H a (.dK (fE (cG kvs i s))))
   rw [<- tf]
   exact jc.k (k:=Sum.inl i) ha (by unfold fE;rw [List.length_map,sizeLine_eq];omega)
  ·cases e2
 | t kvs =>
  cases y <;> try (cases e;done)
  rename_i xs
  have e:((bc xs).bind λk=>if kvs.length < 10000 then some (DD.t (cG kvs k s)) else none)=some d':=e
  rw [Option.bind_eq_some_iff] at e
  obtain ⟨ns,e1,e2⟩:=e
  obtain ⟨b,rfl,hb⟩:=o9 e1 r
  split at e2
  ·rename_i hl
   cases e2
   show jc H a (.ref b) s.v (upd H a (.dT (gz (cG kvs ns s))))
   rw [<- ti]
   exact jc.t ha hb (by unfold gz;rw [List.length_map,sizeLine_eq];omega)
  ·cases e2
end
section
variable {X:Cx}{pins:List (Addr × Obj)}{σ:St}{H:Hp}{s:Shared}
end
section
variable {X:Cx}{T:Tab}{k:Nat}{cal:Cal}
end
end MM
namespace MM
open PySem PySem.Spec PyProof.Rows L2
theorem tj:bootBuiltins "len"=some (.builtin "len"):=by decide +kernel
theorem mP:bootBuiltins "tuple"=some (.type "tuple"):=by decide +kernel
theorem o_:bootBuiltins "list"=some (.type "list"):=by decide +kernel
theorem qv:bootBuiltins "sorted"=some (.builtin "sorted"):=by decide +kernel
theorem y4:bootBuiltins "any"=some (.builtin "any"):=by decide +kernel
theorem y6:bootBuiltins "all"=some (.builtin "all"):=by decide +kernel
theorem y7:bootBuiltins "int"=some (.type "int"):=by decide +kernel
theorem wz:bootBuiltins "bool"=some (.type "bool"):=by decide +kernel
theorem jX:bootBuiltins "isinstance"=some (.builtin "isinstance"):=by decide +kernel
section
variable {X:Cx}{T:Tab}{k:Nat}{cal:Cal}
theorem y9 {f:Blt}{c:String}{m:ME}{e:Expr}{t:Str}{p p2 pos:Pos} (g:Gf X T k cal) (hf:cc f=some c) (hg:glB X.env.scope "isinstance"=true) (ht:t=(c:Str)) (hgt:glB X.env.scope t=true)
  (hbt:bootBuiltins c=some (.type c)) (hmt:X.mg c=none) (hn:(c:Str) ≠ "__name__") (hd:((c:Str) == ("__debug__":Str))=false) (h:PE X e (tE X.K cal m)) (hs:aq e=true):PE X (.Call (.Name "isinstance" p) [e,.Name t p2] [] pos) (tE X.K cal (.blt f [m])):=by
 subst ht
 refine (fz (yX hf) (da hg) (g.blt "isinstance" (by decide)) jX (aU h (aU (ow (v:=.ty c) (da hgt) hmt hbt rfl hn hd) cE rfl) (a_ hs _ _)) (by decide) (by decide) (a_ hs _ _) rfl).imp λσ H Q q=>?_
 obtain ⟨B,O₀,O,ρ,v,st,e1,q⟩:=q
 rw [ev,Option.bind_eq_some_iff] at e1
 obtain ⟨vs,e1,e2⟩:=e1
 obtain ⟨w,rfl,e3⟩:=nU e1
 have e5:isD w=false/\v=.bl (isT f w):=by
  cases hd:isD w with
  | true=>cases f <;> simp only [cc,reduceCtorEq] at hf <;> (simp only [aF,cv,ic,gx,gc,hd] at e2;cases e2)
  | false=>cases f <;> simp only [cc,reduceCtorEq] at hf <;> (simp only [aF,cv,ic,gx,gc,hd,Bool.false_eq_true,if_false,Option.some.injEq] at e2;exact ⟨rfl,e2.symm⟩)
 obtain ⟨e5,rfl⟩:=e5
 refine ⟨B,O₀,O,ρ,w,st,e3,λu H1 s1 g1=>⟨O,w,u,rfl,e5,g1.1,q _ H1 s1 (.of (ce _ _))⟩⟩
end
section
variable {X:Cx}{T:Tab}{k:Nat}{cal:Cal}
theorem mQ {k':Sk}{src:List ME}{js:List Nat}{cond elt:ME}:∀ ρ v,ev cal (.comp k' src js cond elt) ρ=some v->∃ xs,v=.lst xs:=λρ v hv=>by
 rw [ev,Option.bind_eq_some_iff] at hv
 obtain ⟨vs,_,hv⟩:=hv
 rw [Option.bind_eq_some_iff] at hv
 obtain ⟨xs,_,hv⟩:=hv
 split at hv
 ·simp only [Option.map_eq_some_iff] at hv
  obtain ⟨ys,_,rfl⟩:=hv
  exact ⟨_,rfl⟩
 ·cases hv
theorem eY {f:Blt} (hf:f=.listOf \/ f=.sorted \/ f=.sortedSet \/ f=.sortedKeys \/ f=.valuesOf) {ms:List ME}:∀ ρ v,ev cal (.blt f ms) ρ=some v->∃ xs,v=.lst xs:=λρ v hv=>by
 rw [ev,Option.bind_eq_some_iff] at hv
 obtain ⟨vs,_,hv⟩:=hv
 rcases hf with rfl|rfl|rfl|rfl|rfl
 ·obtain ⟨x,rfl⟩:=dR hv (.inl rfl)
  simp only [aF,cv,ic,gx,gc,Option.map_eq_some_iff] at hv
  obtain ⟨ys,_,rfl⟩:=hv
  exact ⟨_,rfl⟩
 ·obtain ⟨x,rfl⟩:=dR hv (.inl rfl)
  simp only [aF,cv,ic,gx,gc,Option.bind_eq_some_iff] at hv
  obtain ⟨ys,_,hv⟩:=hv
  unfold eT at hv
  split at hv
  ·split at hv
   ·cases hv;exact ⟨_,rfl⟩
   ·simp only [Option.map_eq_some_iff] at hv
    obtain ⟨ts,_,rfl⟩:=hv
    exact ⟨_,rfl⟩
  ·cases hv
 ·obtain ⟨x,rfl⟩:=dR hv (.inr (.inr (.inl rfl)))
  simp only [aF,cv,ic,gx,gc,Option.bind_eq_some_iff] at hv
  obtain ⟨ys,_,ns,_,hv⟩:=hv
  split at hv
  ·cases hv;exact ⟨_,rfl⟩
  ·cases hv
 ·obtain ⟨x,rfl⟩:=dR hv (.inl rfl)
  simp only [aF,cv] at hv
  split at hv
  ·split at hv
   ·cases hv;exact ⟨_,rfl⟩
   ·cases hv
  ·cases hv
 ·obtain ⟨x,rfl⟩:=dR hv (.inr (.inr (.inr (.inr rfl))))
  simp only [aF,cv] at hv
  split at hv
  ·split at hv
   ·cases hv;exact ⟨_,rfl⟩
   ·cases hv
  ·cases hv
theorem nW {ifs:List Expr}{cond:ME}{f:Expr->Bool} (h:jr f cond ifs=true) (hc:∀ c,f c=true->PT X c (tT X.K cal cond)):PF X ifs (tT X.K cal cond):=by
 match ifs,h with
 | [],h =>
  have e:cond=.cst (.bl true):=by
   simp only [jr] at h
   split at h
   ·rfl
   ·cases h
  subst e
  intro pins s σ H Q I q
  obtain ⟨B,O₀,O,ρ,b,st,e1,q⟩:=q
  simp only [evB,ev,Option.bind_some,aH,Option.some.injEq] at e1
  subst e1
  exact yn pins s σ H Q I (q H (af.refl H))
 | [c],h=>exact yo (hc c h)
theorem gR {N:List Str}{sc:Scope}{ms:List (Option Str)}{f i:Nat}{ck:List Expr->Bool}{q:Str × Str × List Expr × Pos × Pos} (h:jW N sc ms f i ck q=true):ms[f]?=some (some q.2.1)/\q.2.1 ∈ jo/\ah N sc i q.1=true/\ck q.2.2.1=true/\(q.2.2.2.1.endLine == q.2.2.2.2.line)=true/\decide (q.2.2.1.length < 30)=true:=by
 unfold jW at h
 obtain ⟨a1,h6⟩:=Bool.and_eq_true_iff.mp h
 obtain ⟨a2,h5⟩:=Bool.and_eq_true_iff.mp a1
 obtain ⟨a3,h4⟩:=Bool.and_eq_true_iff.mp a2
 obtain ⟨a4,h3⟩:=Bool.and_eq_true_iff.mp a3
 obtain ⟨a5,h2⟩:=Bool.and_eq_true_iff.mp a4
 exact ⟨eq_of_beq a5,List.contains_iff_mem.mp h2,h3,h4,h5,h6⟩
theorem lG {i:Nat}{x m:Str}{p ap:Pos} (hn:ah X.N X.env.scope i x=true):PE X (.Attribute (.Name x p) m ap) (AG X.K (iW i) m):=ya (aL hn) rfl
theorem fQ {K:PySem.W.Frag}{B H:Hp}{O₀ O:List Addr}{ρ:Rho}{σ:St}{i:Nat}{o:List PV × List PV} (st:az K B O₀ O H ρ σ) (e:dk (ρ[i]?).join=some o):∃ a,σ[i]?=some (some (.ref a))/\eA K H (aj H O) o.1 o.2 a:=by
 cases hj:(ρ[i]?).join with
 | none=>rw [hj] at e;cases e
 | some m =>
  rw [hj] at e
  cases m with
  | ownO _ fs xs =>
   cases e
   obtain ⟨u,eu,a,l,rfl,q⟩:=aG st hj
   exact ⟨a,eu,q.lent⟩
  | brwO fs xs =>
   cases e
   obtain ⟨u,eu,a,rfl,q⟩:=aG st hj
   exact ⟨a,eu,q.move st.keep (af.refl _)⟩
  | _=>cases e
theorem nX {K:PySem.W.Frag}{B H:Hp}{O₀ O:List Addr}{ρ:Rho}{σ:St}{i:Nat}{v:PV} (st:az K B O₀ O H ρ σ) (e:kz (ρ[i]?).join=some v):∃ a fs xs,v=.lst xs/\σ[i]?=some (some (.ref a))/\eA K B (aj H O) fs xs a:=by
 cases hj:(ρ[i]?).join with
 | none=>rw [hj] at e;cases e
 | some m =>
  rw [hj] at e
  cases m with
  | brwO fs xs =>
   cases e
   obtain ⟨u,eu,a,rfl,q⟩:=aG st hj
   exact ⟨a,fs,xs,rfl,eu,q⟩
  | _=>cases e
theorem Bj {i n:Nat}{x m:Str}{p ap:Pos} (g:Gf X T k cal) (hm:gd[n]?=some m) (hn:ah X.N X.env.scope i x=true):PE X (.Attribute (.Name x p) m ap) (tE X.K cal (.fld i n)):=by
 refine (lG hn).imp λσ H Q q=>?_
 obtain ⟨B,O₀,O,ρ,v,st,e1,q⟩:=q
 rw [ev,Option.bind_eq_some_iff] at e1
 obtain ⟨o,e1,e2⟩:=e1
 obtain ⟨a,ea,C,dx,gs,l,us,h1,h2,_⟩:=fQ st e1
 obtain ⟨c1,c2,_⟩:=g.cls C h2.cls
 obtain ⟨u,f1,f2⟩:=h2.fld n m v hm e2
 exact ⟨_,ea,a,C,dx,gs,u,rfl,h1,c1,c2 m (List.mem_of_getElem? hm),f1,q u H (af.refl H) (.of f2)⟩
theorem y_ {i:Nat}{x:Str}{p ap:Pos} (g:Gf X T k cal) (hn:ah X.N X.env.scope i x=true):PE X (.Attribute (.Name x p) ("taken":Str) ap) (tE X.K cal (.fldL i)):=by
 refine (lG hn).imp λσ H Q q=>?_
 obtain ⟨B,O₀,O,ρ,v,st,e1,q⟩:=q
 rw [ev] at e1
 obtain ⟨a,fs,xs,rfl,ea,C,dx,gs,l,us,h1,h2,h3,h4⟩:=nX st e1
 obtain ⟨c1,_,c2⟩:=g.cls C h2.cls
 exact ⟨_,ea,a,C,dx,gs,.ref l,rfl,st.keep _ _ h1,c1,c2,h2.lst,q _ H (af.refl H) ⟨.inr (.inl ⟨xs,l,us,rfl,rfl,st.keep.seq h3,h4⟩),λz=>by cases z⟩⟩
theorem za {i:Nat}{l x:Str}{p p1 p2 pos:Pos} (g:Gf X T k cal) (hl:l=("len":Str)) (hg:glB X.env.scope l=true) (hn:ah X.N X.env.scope i x=true):PE X (.Call (.Name l p) [.Attribute (.Name x p1) ("taken":Str) p2] [] pos) (tE X.K cal (.lenO i)):=by
 subst hl
 refine (fz eS (da hg) (g.blt "len" (by decide)) tj (aU (lG hn) cE rfl) (by decide) (by decide) rfl rfl).imp λσ H Q q=>?_
 obtain ⟨B,O₀,O,ρ,v,st,e1,q⟩:=q
 rw [ev,Option.map_eq_some_iff] at e1
 obtain ⟨o,e1,rfl⟩:=e1
 obtain ⟨a,ea,C,dx,gs,l,us,h1,h2,h3,h4⟩:=fQ st e1
 obtain ⟨c1,_,c2⟩:=g.cls C h2.cls
 refine ⟨_,ea,a,C,dx,gs,.ref l,rfl,h1,c1,c2,h2.lst,l,us,rfl,.inl h3,?_⟩
 rw [<- h4.length]
 exact q _ H (af.refl H) (.of (cK _ _))
theorem zb {tg:Expr}{i:Nat}{x:Str}{p ap:Pos} (g:Gf X T k cal) (hn:ah X.N X.env.scope i x=true):PI X tg (.Attribute (.Name x p) ("taken":Str) ap) (tW X.K cal .seq [.fldL i]):=by
 refine (k6 (lG hn)).imp λσ H R q=>?_
 obtain ⟨B,O₀,O,ρ,vs,zs,st,e1,e2,q⟩:=q
 obtain ⟨v,rfl,e3⟩:=nU e1
 have e4:br v=some zs:=e2
 rw [ev] at e3
 obtain ⟨a,fs,xs,rfl,ea,C,dx,gs,l,us,h1,h2,h3,h4⟩:=nX st e3
 cases e4
 obtain ⟨c1,_,c2⟩:=g.cls C h2.cls
 exact ⟨_,ea,a,C,dx,gs,.ref l,rfl,st.keep _ _ h1,c1,c2,h2.lst,l,rfl,⟨us,st.keep.seq h3⟩,q _ _ (af.refl H) (gN ((cN st.keep).seq h3) h4)⟩
theorem zc {i:Nat}{x:Str}{px ap:Pos}{f:Str}{ts:List Expr}{j:Nat}{tp p pos:Pos} (g:Gf X T k cal) (hf:f=("enumerate":Str)) (hg:glB X.env.scope f=true) (hn:ah X.N X.env.scope i x=true):PI X (.Tuple ts j tp) (.Call (.Name f p) [.Attribute (.Name x px) ("taken":Str) ap] [] pos) (tW X.K cal .enm [.fldL i]):=by
 subst hf
 refine (nT (da hg) (g.blt "enumerate" (by decide)) (lG hn) rfl).imp λσ H R q=>?_
 obtain ⟨B,O₀,O,ρ,vs,zs,st,e1,e2,q⟩:=q
 obtain ⟨v,rfl,e3⟩:=nU e1
 simp only [cw,Option.map_eq_some_iff] at e2
 obtain ⟨ys,e4,rfl⟩:=e2
 rw [ev] at e3
 obtain ⟨a,fs,xs,rfl,ea,C,dx,gs,l,us,h1,h2,h3,h4⟩:=nX st e3
 cases e4
 obtain ⟨c1,_,c2⟩:=g.cls C h2.cls
 exact ⟨_,ea,a,C,dx,gs,.ref l,rfl,st.keep _ _ h1,c1,c2,h2.lst,l,rfl,.inl ⟨⟨us,st.keep.seq h3⟩,q _ _ (af.refl H) (gh (λH2 s2=>s2.seq ((cN st.keep).seq h3)) h4)⟩⟩
theorem Bk {neg:Bool}{me:ME}{i:Nat}{l:Expr}{x:Str}{p ap pos:Pos} (g:Gf X T k cal) (ha:PE X l (tE X.K cal me)) (hn:ah X.N X.env.scope i x=true):PE X (.Compare l [eJ (if neg=true then .notIn else .isIn)] [.Attribute (.Name x p) ("taken":Str) ap] pos) (tE X.K cal (.inO neg me i)):=by
 refine (k7 (eX g.units _) ha (lG hn) (by cases neg <;> rfl)).imp λσ H Q q=>?_
 obtain ⟨B,O₀,O,ρ,v,st,e1,q⟩:=q
 rw [ev] at e1
 simp only [Option.bind_eq_some_iff,Option.map_eq_some_iff] at e1
 obtain ⟨y,e1,w,e2,c,e3,rfl⟩:=e1
 refine ⟨B,O₀,O,ρ,y,st,e1,λux H1 s1 g1=>?_⟩
 cases hj:(ρ[i]?).join with
 | none=>rw [hj] at e2;cases e2
 | some m =>
  rw [hj] at e2
  cases m with
  | ownO b fs xs =>
   cases e2
   obtain ⟨u,eu,a,ll,rfl,qq⟩:=aG (st.mono s1) hj
   obtain ⟨C,dx,gs,h1,h2⟩:=qq.ob
   obtain ⟨us,h3,h4⟩:=qq.li
   obtain ⟨c1,_,c2⟩:=g.cls C h2.cls
   exact ⟨_,eu,a,C,dx,gs,.ref ll,rfl,h1,c1,c2,h2.lst,O,y,_,c,g1.1,.inr (.inl ⟨xs,ll,us,rfl,rfl,SqL.of h3,h4⟩),e3,q _ H1 s1 (.of (ce _ _))⟩
  | brwO fs xs =>
   cases e2
   obtain ⟨u,eu,a,rfl,qq⟩:=aG (st.mono s1) hj
   obtain ⟨C,dx,gs,ll,us,h1,h2,h3,h4⟩:=qq.move (st.mono s1).keep (af.refl _)
   obtain ⟨c1,_,c2⟩:=g.cls C h2.cls
   exact ⟨_,eu,a,C,dx,gs,.ref ll,rfl,h1,c1,c2,h2.lst,O,y,_,c,g1.1,.inr (.inl ⟨xs,ll,us,rfl,rfl,h3,h4⟩),e3,q _ H1 s1 (.of (ce _ _))⟩
  | _=>cases e2
theorem zd {neg:Bool}{me:ME}{i:Nat}{l:Expr}{x:Str}{p ap pos:Pos} (g:Gf X T k cal) (ha:PE X l (tE X.K cal me)) (hn:ah X.N X.env.scope i x=true):PT X (.Compare l [eJ (if neg=true then .notIn else .isIn)] [.Attribute (.Name x p) ("taken":Str) ap] pos) (tT X.K cal (.inO neg me i)):=by
 refine (oE (eX g.units _) ha (lG hn) (by cases neg <;> rfl)).imp λσ H Q q=>?_
 obtain ⟨B,O₀,O,ρ,v,st,e1,q⟩:=q
 rw [evB,ev] at e1
 simp only [Option.bind_eq_some_iff,Option.map_eq_some_iff] at e1
 obtain ⟨b,⟨y,e1,w,e2,c,e3,rfl⟩,e4⟩:=e1
 simp only [aH,Option.some.injEq] at e4
 subst e4
 refine ⟨B,O₀,O,ρ,y,st,e1,λux H1 s1 g1=>?_⟩
 cases hj:(ρ[i]?).join with
 | none=>rw [hj] at e2;cases e2
 | some m =>
  rw [hj] at e2
  cases m with
  | ownO b fs xs =>
   cases e2
   obtain ⟨u,eu,a,ll,rfl,qq⟩:=aG (st.mono s1) hj
   obtain ⟨C,dx,gs,h1,h2⟩:=qq.ob
   obtain ⟨us,h3,h4⟩:=qq.li
   obtain ⟨c1,_,c2⟩:=g.cls C h2.cls
   exact ⟨_,eu,a,C,dx,gs,.ref ll,rfl,h1,c1,c2,h2.lst,O,y,_,c,g1.1,.inr (.inl ⟨xs,ll,us,rfl,rfl,SqL.of h3,h4⟩),e3,_,rfl,q H1 s1⟩
  | brwO fs xs =>
   cases e2
   obtain ⟨u,eu,a,rfl,qq⟩:=aG (st.mono s1) hj
   obtain ⟨C,dx,gs,ll,us,h1,h2,h3,h4⟩:=qq.move (st.mono s1).keep (af.refl _)
   obtain ⟨c1,_,c2⟩:=g.cls C h2.cls
   exact ⟨_,eu,a,C,dx,gs,.ref ll,rfl,h1,c1,c2,h2.lst,O,y,_,c,g1.1,.inr (.inl ⟨xs,ll,us,rfl,rfl,h3,h4⟩),e3,_,rfl,q H1 s1⟩
  | _=>cases e2
theorem ze {neg:Bool}{i:Nat}{N:List Str}{sc:Scope}{ck:Expr->Bool}{e:Expr}{z:Expr × CmpOp × Expr} (e1:sw e=some z) (h:(onO (jp z.2.2) λq=>z.2.1 == (if neg=true then CmpOp.NotIn else CmpOp.In)&&ck z.1&&q.2 == ("taken":Str)&&ah N sc i q.1)=true):ck z.1=true/\∃ (x:Str) (p ap pos:Pos),ah N sc i x=true/\e=.Compare z.1 [eJ (if neg=true then .notIn else .isIn)] [.Attribute (.Name x p) ("taken":Str) ap] pos:=by
 obtain ⟨q,e2,h⟩:=au h
 obtain ⟨pos,rfl⟩:=vY e1
 obtain ⟨p,ap,e3⟩:=gB e2
 obtain ⟨a1,h4⟩:=Bool.and_eq_true_iff.mp h
 obtain ⟨a2,h3⟩:=Bool.and_eq_true_iff.mp a1
 obtain ⟨h1,h2⟩:=Bool.and_eq_true_iff.mp a2
 refine ⟨h2,q.1,p,ap,pos,h4,?_⟩
 rw [e3,eq_of_beq h1,eq_of_beq h3]
 cases neg <;> rfl
theorem zf {neg:Bool}{me:ME}{i:Nat}{e l:Expr}{c:Prop} (g:Gf X T k cal) (h:c/\∃ (x:Str) (p ap pos:Pos),ah X.N X.env.scope i x=true/\e=.Compare l [eJ (if neg=true then .notIn else .isIn)] [.Attribute (.Name x p) ("taken":Str) ap] pos) (ha:PE X l (tE X.K cal me)):PE X e (tE X.K cal (.inO neg me i))/\PT X e (tT X.K cal (.inO neg me i)):=by
 obtain ⟨_,x,p,ap,pos,h1,rfl⟩:=h
 exact ⟨Bk g ha h1,zd g ha h1⟩
theorem d6 {x m:Str}{es:List Expr}{p ap pos:Pos}{env:Env} (hs:es.all aq=true) (hl:decide (es.length < 30)=true) (hline:(ap.endLine == pos.line)=true):eval (.Call (.Attribute (.Name x p) m ap) es [] pos) env=(do
   let ov <- eval (.Name x p) env
   standAt ap.atName
   let (f,first) <- holding [ov] (getMethod ov m (do return (<- importBound (.Name x p) env).getD true))
   callWith pos f first (backTo pos (starEach es env)) (backToKw pos (keywordEach [] env))):=by
 have hf:methodCallForm (es.length + ([]:List Keyword).length) (backTo pos (starEach es env)) (backToKw pos (keywordEach [] env))=true:=by
  unfold methodCallForm
  have h1:((backTo pos (starEach es env)).all λx=>!x.1)=true:=by
   have:=aR (pos:=pos) (env:=env) hs
   rw [List.any_eq_false] at this
   rw [List.all_eq_true]
   intro x hx
   have:=this x hx
   simpa using this
  rw [h1]
  exact hl
 rw [arm_eval_Call]
 unfold methodCall calleeOf methodCallPos
 rw [hf,hline]
 rfl
theorem wA {f i:Nat}{ms:List ME}{x m:Str}{es:List Expr}{p ap pos:Pos} (g:Gf X T k cal) (hf:T.ms[f]?=some (some m)) (hM:m ∈ jo) (hn:ah X.N X.env.scope i x=true) (ha:PA X es (tAs X.K cal ms)) (hs:es.all aq=true) (hl:ms.length=es.length) (hline:(ap.endLine == pos.line)=true) (h30:decide (es.length < 30)=true):PE X (.Call (.Attribute (.Name x p) m ap) es [] pos) (tE X.K cal (.callM f i ms)):=by
 by_cases hC:∃ C,IsC X.K C
 ·obtain ⟨C,hC⟩:=hC
  have one:∀ C',IsC X.K C'->C'=C:=λC' h=>by
   have:=h.symm.trans hC
   cases this
   rfl
  obtain ⟨fa,fd,ps,h1,h3,F⟩:=g.meths f m hf C hC
  have key:∀ σ H Q,tE X.K cal (.callM f i ms) σ H Q->l5 C m (spM X.K cal f) [] E0 (iW i) (tAs X.K cal ms) σ H Q:=λσ H Q q=>by
   obtain ⟨B,O₀,O,ρ,v,st,e1,q⟩:=q
   rw [ev,Option.bind_eq_some_iff] at e1
   obtain ⟨o,e0,e1⟩:=e1
   rw [Option.bind_eq_some_iff] at e1
   obtain ⟨vs,e1,e2⟩:=e1
   obtain ⟨a,ea,C',dx,gs,l,us,f1,f2,f3⟩:=fQ st e0
   have hCC:=one C' f2.cls
   subst hCC
   refine ⟨_,ea,a,dx,gs,rfl,f1,f2.no m hM,B,O₀,O,ρ,vs,st,e1,λus' H1 s1 g1=>⟨O,_,v,aT s1 st.here,?_,e2,λu H2 s2 r=>q u H2 (s1.trans s2) (.of r)⟩⟩
   rw [List.append_nil]
   exact .cons ⟨a,rfl,eA.move ⟨C',dx,gs,l,us,f1,f2,f3⟩ s1 (am s1)⟩ g1
  cases es with
  | nil =>
   refine (i5 (aL hn) (g.cls C hC).1 h1 F g.room h3 .nil eG (d6 hs h30 hline)).imp λσ H Q q=>?_
   obtain ⟨u,eu,a,dx,gs,e,f1,f2,B,O₀,O,ρ,vs,st,e1,q⟩:=key σ H Q q
   cases ms with
   | nil =>
    simp only [evA,Option.some.injEq] at e1
    subst e1
    exact ⟨u,eu,a,dx,gs,e,f1,f2,q [] H (af.refl H) .nil⟩
   | cons _ _=>cases hl
  | cons e es =>
   simp only [List.all_cons,Bool.and_eq_true] at hs
   exact (lb (aL hn) (g.cls C hC).1 h1 F g.room h3 .nil eG ha (a_ hs.1 _ _) (aR hs.2) (d6 (by simp [hs]) h30 hline)).imp key
 ·exact λpins s σ H Q I q=>by
   obtain ⟨B,O₀,O,ρ,v,st,e1,q⟩:=q
   rw [ev,Option.bind_eq_some_iff] at e1
   obtain ⟨o,e0,_⟩:=e1
   obtain ⟨a,ea,C',dx,gs,l,us,f1,f2,f3⟩:=fQ st e0
   exact absurd ⟨C',f2.cls⟩ hC
theorem jz {k':Sk}{src:List ME}{it tg:Expr}{tup:Bool} (htg:tup=true->∃ ts j tp,tg=.Tuple ts j tp) (g:Gf X T k cal) (h:dm X.env.scope tup (λxs=>chks T src X.N X.env.scope xs) k' it=true) (hs:∀ xs,chks T src X.N X.env.scope xs=true->PA X xs (tEs X.K cal src)/\xs.all aq=true/\src.length=xs.length)
  (h1:∀ m x,src=[m]->chks T src X.N X.env.scope [x]=true->PE X x (tE X.K cal m)):PI X tg it (tW X.K cal k' src)/\eU it=true:=by
 cases k' with
 | seq =>
  simp only [dm,Bool.and_eq_true] at h
  refine ⟨?_,h.1⟩
  obtain ⟨_,_,hl⟩:=hs _ h.2
  match src,hl,h1,h with
  | [m],_,h1,h =>
   cases hb:aD m with
   | false=>exact A7 hb (h1 m it rfl h.2)
   | true =>
    have q:=h.2
    simp only [chks,Bool.and_eq_true] at q
    have q1:=q.1.1
    rcases ly hb with ⟨i,rfl⟩|⟨i,rfl⟩
    rotate_left
    ·obtain ⟨z,e,h2⟩:=au (show onO (jp it) (λq=>q.2 == ("taken":Str)&&ah X.N X.env.scope i q.1)=true from q1)
     obtain ⟨p,ap,rfl⟩:=gB e
     obtain ⟨h3,h4⟩:=Bool.and_eq_true_iff.mp h2
     rw [eq_of_beq h3]
     exact zb g h4
    cases it <;> simp only [bD,bE,bF,aY,bG,bH,bJ,bK,cH,bM,bN,aP,bO,bP,bQ,aQ,bR,aZ,aK,Bool.false_eq_true] at q1
    exact A8 q1
 | rng =>
  cases it with
  | Call fn args kws pos =>
   cases fn with
   | Name x p =>
    cases kws with
    | nil =>
     simp only [dm,Bool.and_eq_true,beq_iff_eq,Bool.or_eq_true] at h
     obtain ⟨⟨⟨hx,hg⟩,ha⟩,hn⟩:=h
     obtain ⟨q,hst,hl⟩:=hs _ ha
     exact ⟨wp g hx hg q hn hst hl,rfl⟩
    | cons _ _=>simp [dm] at h
   | _=>simp [dm] at h
  | _=>simp [dm] at h
 | enm =>
  cases it with
  | Call fn args kws pos =>
   cases fn with
   | Name x p =>
    match args,kws,h with
    | [a],[],h =>
     simp only [dm,Bool.and_eq_true,beq_iff_eq] at h
     obtain ⟨⟨⟨⟨ht,hx⟩,hg⟩,ha⟩,hn⟩:=h
     obtain ⟨ts,j,tp,rfl⟩:=htg ht
     obtain ⟨_,_,hl⟩:=hs _ ha
     refine ⟨?_,rfl⟩
     match src,hl,h1,ha with
     | [m],_,h1,ha =>
      cases hb:aD m with
      | false=>exact A9 g hx hg hn hb (h1 m a rfl ha)
      | true =>
       have q:=ha
       simp only [chks,Bool.and_eq_true] at q
       have q1:=q.1.1
       rcases ly hb with ⟨i,rfl⟩|⟨i,rfl⟩
       rotate_left
       ·obtain ⟨z,e,h2⟩:=au (show onO (jp a) (λq=>q.2 == ("taken":Str)&&ah X.N X.env.scope i q.1)=true from q1)
        obtain ⟨p,ap,rfl⟩:=gB e
        obtain ⟨h3,h4⟩:=Bool.and_eq_true_iff.mp h2
        rw [eq_of_beq h3]
        exact zc g hx hg h4
       cases a <;> simp only [bD,bE,bF,aY,bG,bH,bJ,bK,cH,bM,bN,aP,bO,bP,bQ,aQ,bR,aZ,aK,Bool.false_eq_true] at q1
       exact yZ g hx hg q1
    | [],_,h=>simp [dm] at h
    | _::_::_,_,h=>simp [dm] at h
    | [_],_::_,h=>simp [dm] at h
   | _=>simp [dm] at h
  | _=>simp [dm] at h
 | rev=>cases it <;> simp [dm] at h
theorem lH (K:PySem.W.Frag) (F:Hp) (s:Sc):Rep K F s.pv s.v:=by cases s <;> simp only [Sc.pv,Sc.v,Rep]
theorem tm {K:PySem.W.Frag}{H:Hp}{O:List Addr}{x:PV}{s:Sc}{u:V} (e:sc? x=some s) (r:a7 K H O x u):u=s.v:=by
 cases x <;> simp only [sc?,Option.some.injEq,reduceCtorEq] at e <;> subst e
 ·exact r.non
 ·exact r.bl
 ·exact r.int
 ·exact r.str
theorem base_of {o:Expr}{n:Str} (hb:kB o=true):attributeBase o n X.env (eval o X.env)=eval o X.env:=by
 cases o <;> first|rfl|(simp [kB] at hb;done)|skip
 rename_i fn args kws pos
 cases args with
 | nil=>simp [kB] at hb
 | cons _ _=>cases fn <;> rfl
theorem pf (K:PySem.W.Frag) (F:Hp):∀ ss:List Sc,Reps K F (ss.map Sc.pv) (ss.map Sc.v)
 | []=>rfl
 | s::ss=>⟨_,_,rfl,lH K F s,pf K F ss⟩
theorem mR {b:Blt}{es:List ME}{x:Str}{args:List Expr}{p pos:Pos} (g:Gf X T k cal) (hx:x=(kA b:Str)) (hg:glB X.env.scope x=true) (ha:cm X.env.scope (λxs=>chks T es X.N X.env.scope xs) es.length b args=true)
  (hs:∀ xs,chks T es X.N X.env.scope xs=true->PA X xs (tEs X.K cal es)/\xs.all aq=true/\es.length=xs.length)
  (h1:∀ m x,es=[m]->chks T es X.N X.env.scope [x]=true->PE X x (tE X.K cal m))
  (hh2:∀ m m' x x',es=[m,m']->chks T es X.N X.env.scope [x,x']=true->PE X x (tE X.K cal m)/\PE X x' (tE X.K cal m')) :
  (b8 (.blt b es)=true->PE X (.Call (.Name x p) args [] pos) (tF X.K cal (.blt b es)))/\PE X (.Call (.Name x p) args [] pos) (tE X.K cal (.blt b es)):=by
 have inst:∀ c,cc b=some c->kA b="isinstance"->bootBuiltins c=some (.type c)->X.mg c=none->(c:Str) ≠ "__name__"->((c:Str) == ("__debug__":Str))=false->cm X.env.scope (λxs=>chks T es X.N X.env.scope xs) es.length b args=jq X.env.scope (λxs=>chks T es X.N X.env.scope xs) es.length c args ->
   PE X (.Call (.Name x p) args [] pos) (tE X.K cal (.blt b es)):=λc hc hb hbt hm hn hd e=>by
  rw [e] at ha
  unfold jq at ha
  split at ha
  ·rename_i y t p2
   simp only [Bool.and_eq_true,beq_iff_eq] at ha
   obtain ⟨⟨⟨h2,h3⟩,h4⟩,h5⟩:=ha
   obtain ⟨_,hst,_⟩:=hs _ h4
   match es,h5,h1,h4 with
   | [m],_,h1,h4 =>
    rw [hx,hb] at hg ⊢
    exact y9 g hc hg h2 h3 hbt hm hn hd (h1 m y rfl h4) (by simpa using hst)
  ·cases ha
 have plain:∀ n,cc b=none->dD b=some n->0 < n->cm X.env.scope (λxs=>chks T es X.N X.env.scope xs) es.length b args=(dD b == some es.length&&chks T es X.N X.env.scope args) ->
   ∃ e r,args=e::r/\PA X (e::r) (tEs X.K cal es)/\(e::r).all aq=true:=λn _ hn hpos eq=>by
  rw [eq,hn] at ha
  simp only [Bool.and_eq_true,beq_iff_eq,Option.some.injEq] at ha
  obtain ⟨q1,q2,q3⟩:=hs _ ha.2
  cases args with
  | nil=>rw [<- ha.1] at q3;simp at q3;omega
  | cons e r=>exact ⟨e,r,rfl,q1,q2⟩
 cases b with
 | len =>
  obtain ⟨e,r,rfl,q1,q2⟩:=plain 1 rfl rfl (by decide) rfl
  subst hx
  exact ⟨λz=>(by simp [b8] at z),sY A4 hg (g.blt "len" (by decide)) tj (by decide) (by decide) q1 q2⟩
 | tupleOf =>
  obtain ⟨e,r,rfl,q1,q2⟩:=plain 1 rfl rfl (by decide) rfl
  subst hx
  exact ⟨λz=>(by simp [b8] at z),y1 wn hg (g.blt "tuple" (by decide)) mP (by decide) (by decide) q1 q2⟩
 | listOf =>
  obtain ⟨e,r,rfl,q1,q2⟩:=plain 1 rfl rfl (by decide) rfl
  subst hx
  have q:=wu (p:=p) (pos:=pos) yW hg (g.blt "list" (by decide)) o_ (by decide) (by decide) q1 q2
  exact ⟨λ_=>q,fP (eY (.inl rfl)) q⟩
 | sorted =>
  obtain ⟨e,r,rfl,q1,q2⟩:=plain 1 rfl rfl (by decide) rfl
  subst hx
  have q:=y2 (p:=p) (pos:=pos) (sO g) hg (g.blt "sorted" (by decide)) qv (by decide) (by decide) q1 q2
  exact ⟨λ_=>q,fP (eY (.inr (.inl rfl))) q⟩
 | any =>
  obtain ⟨e,r,rfl,q1,q2⟩:=plain 1 rfl rfl (by decide) rfl
  subst hx
  exact ⟨λz=>(by simp [b8] at z),sY (A5 g.calm) hg (g.blt "any" (by decide)) y4 (by decide) (by decide) q1 q2⟩
 | all =>
  obtain ⟨e,r,rfl,q1,q2⟩:=plain 1 rfl rfl (by decide) rfl
  subst hx
  exact ⟨λz=>(by simp [b8] at z),sY (A6 g.calm) hg (g.blt "all" (by decide)) y6 (by decide) (by decide) q1 q2⟩
 | intOf=>exact absurd ha Bool.false_ne_true
 | boolOf=>exact absurd ha Bool.false_ne_true
 | max2=>exact absurd ha Bool.false_ne_true
 | min2=>exact absurd ha Bool.false_ne_true
 | isInt=>exact ⟨λz=>(by simp [b8] at z),inst "int" rfl rfl y7 (g.blt "int" (by decide)) (by decide) (by decide) rfl⟩
 | isBool=>exact ⟨λz=>(by simp [b8] at z),inst "bool" rfl rfl wz (g.blt "bool" (by decide)) (by decide) (by decide) rfl⟩
 | isStr=>exact absurd ha Bool.false_ne_true
 | isList=>exact ⟨λz=>(by simp [b8] at z),inst "list" rfl rfl o_ (g.blt "list" (by decide)) (by decide) (by decide) rfl⟩
 | isTuple=>exact ⟨λz=>(by simp [b8] at z),inst "tuple" rfl rfl mP (g.blt "tuple" (by decide)) (by decide) (by decide) rfl⟩
 | sortedSet=>simp [cm] at ha
 | sum=>exact absurd ha Bool.false_ne_true
 | max1=>exact absurd ha Bool.false_ne_true
 | sortedKeys=>exact absurd ha Bool.false_ne_true
 | valuesOf=>exact absurd ha Bool.false_ne_true
 | min1=>simp [cm,cc,dD] at ha
 | tupleRev=>simp [cm] at ha
 | lenSet=>simp [cm] at ha
 | lenSetSub=>simp [cm] at ha
end
section
variable {X:Cx}{T:Tab}{k:Nat}{cal:Cal}
theorem Bl {neg:Bool}{mk ma:ME}{l r:Expr}{pos:Pos} (g:Gf X T k cal) (hk:PE X l (tE X.K cal mk)) (ha:PE X r (tE X.K cal ma)) (hm:behindInMarks (if neg=true then CmpOp.NotIn else CmpOp.In) r=false) :
  PE X (.Compare l [if neg=true then CmpOp.NotIn else CmpOp.In] [r] pos) (tE X.K cal (.dIn neg mk ma))/\PT X (.Compare l [if neg=true then CmpOp.NotIn else CmpOp.In] [r] pos) (tT X.K cal (.dIn neg mk ma)):=by
 have hu:X.A.units + 1 < cLine:=by have:=g.units;omega
 have go:∀ {σ:St}{H:Hp}{Q:Bool->Hp->Prop},(∃ B O₀ O ρ b,az X.K B O₀ O H ρ σ/\ev cal (.dIn neg mk ma) ρ=some (.bl b)/\∀ H',af H H'->Q b H') ->
   tE X.K cal mk σ H λy H1=>tE X.K cal ma σ H1 λx H2=>∃ a o,x=.ref a/\jb H2 a y o/\Q (if neg=true then !o.isSome else o.isSome) H2:=λ{σ H Q} q=>by
  obtain ⟨B,O₀,O,ρ,b,st,e1,q⟩:=q
  rw [ev] at e1
  simp only [Option.bind_eq_some_iff] at e1
  obtain ⟨y,e1,x,e2,e3⟩:=e1
  refine ⟨B,O₀,O,ρ,y,st,e1,λuy H1 s1 g1=>⟨B,O₀,O,ρ,x,st.mono s1,e2,λux H2 s2 g2=>?_⟩⟩
  rw [Option.map_eq_some_iff] at e3
  obtain ⟨o,e3,e4⟩:=e3
  cases x <;> try (cases e3;done)
  obtain ⟨a,rfl,ha⟩:=g2.1.dI
  refine ⟨a,_,rfl,lF e3 ha (g1.1.mono s2),?_⟩
  rw [Option.isSome_map,PV.bl.inj e4]
  exact q H2 (s1.trans s2)
 have unE:∀ {σ:St}{H:Hp}{Q:VK},tE X.K cal (.dIn neg mk ma) σ H Q->∃ B O₀ O ρ b,az X.K B O₀ O H ρ σ/\ev cal (.dIn neg mk ma) ρ=some (.bl b)/\∀ H',af H H'->Q (.bl b) H':=λ{σ H Q} q=>by
  obtain ⟨B,O₀,O,ρ,v,st,e1,q⟩:=q
  have hb:∃ b,v=.bl b:=by
   rw [ev] at e1
   simp only [Option.bind_eq_some_iff] at e1
   obtain ⟨y,_,x,_,e3⟩:=e1
   rw [Option.map_eq_some_iff] at e3
   obtain ⟨o,_,e4⟩:=e3
   exact ⟨_,e4.symm⟩
  obtain ⟨b,rfl⟩:=hb
  exact ⟨B,O₀,O,ρ,b,st,e1,λH' s=>q _ H' s (.of (ce _ _))⟩
 have unT:∀ {σ:St}{H:Hp}{Q:Bool->Hp->Prop},tT X.K cal (.dIn neg mk ma) σ H Q->∃ B O₀ O ρ b,az X.K B O₀ O H ρ σ/\ev cal (.dIn neg mk ma) ρ=some (.bl b)/\∀ H',af H H'->Q b H':=λ{σ H Q} q=>by
  obtain ⟨B,O₀,O,ρ,b,st,e1,q⟩:=q
  unfold evB at e1
  simp only [Option.bind_eq_some_iff] at e1
  obtain ⟨v,e1,e2⟩:=e1
  cases v <;> simp only [aH,reduceCtorEq,Option.some.injEq] at e2
  subst e2
  exact ⟨B,O₀,O,ρ,_,st,e1,q⟩
 cases neg with
 | false =>
  refine ⟨(qW (rQ hu hk ha) hm).imp λσ H Q q=>?_,(qX (rQ hu hk ha) hm).imp λσ H Q q=>?_⟩
  ·exact go (Q:=λb H'=>Q (.bl b) H') (unE q)
  ·exact go (Q:=λb H'=>∃ c,V.bl b=.bl c/\Q c H') (by
    obtain ⟨B,O₀,O,ρ,b,st,e1,q⟩:=unT q
    exact ⟨B,O₀,O,ρ,b,st,e1,λH' s=>⟨b,rfl,q H' s⟩⟩)
 | true =>
  refine ⟨(qW (j8 hu hk ha) hm).imp λσ H Q q=>?_,(qX (j8 hu hk ha) hm).imp λσ H Q q=>?_⟩
  ·exact go (Q:=λb H'=>Q (.bl b) H') (unE q)
  ·exact go (Q:=λb H'=>∃ c,V.bl b=.bl c/\Q c H') (by
    obtain ⟨B,O₀,O,ρ,b,st,e1,q⟩:=unT q
    exact ⟨B,O₀,O,ρ,b,st,e1,λH' s=>⟨b,rfl,q H' s⟩⟩)
theorem zg {ma mk md:ME}{o e f:Expr}{ap cp:Pos} (g:Gf X T k cal) (ha:PE X o (tE X.K cal ma)) (hk:PE X e (tE X.K cal mk)) (hd:PE X f (tE X.K cal md)) (hb:kB o=true) (hl:(ap.endLine == cp.line)=true) (h1:aq e=true) (h2:aq f=true) :
  PE X (.Call (.Attribute o "get" ap) [e,f] [] cp) (tE X.K cal (.dget ma mk md)):=by
 have hu:X.A.units + 1 < cLine:=by have:=g.units;omega
 have st2:starEach [e,f] X.env=[(false,eval e X.env),(false,eval f X.env)]:=by rw [a_ h1,a_ h2];rfl
 have m:M2 X o "get" ap e f cp:=by
  refine ⟨base_of hb,?_,hl,?_⟩
  ·rw [st2];rfl
  ·rw [st2];rfl
 refine (rW hu ha hk hd m).imp λσ H Q q=>?_
 obtain ⟨B,O₀,O,ρ,v,st,e1,q⟩:=q
 rw [ev] at e1
 simp only [Option.bind_eq_some_iff,Option.map_eq_some_iff] at e1
 obtain ⟨x,e1,y,e2,z,e3,oo,e4,sz,e5,e6⟩:=e1
 cases x <;> try (cases e4;done)
 refine ⟨B,O₀,O,ρ,_,st,e1,λux H1 s1 g1=>?_⟩
 obtain ⟨a,rfl,hH⟩:=g1.1.dI
 refine ⟨a,rfl,oZ hH,B,O₀,O,ρ,_,st.mono s1,e2,λuy H2 s2 g2=>⟨B,O₀,O,ρ,z,st.mono (s1.trans s2),e3,λuz H3 s3 g3=>?_⟩⟩
 refine ⟨_,lF e4 (af.rd s3 (af.rd s2 hH)) (g2.1.mono s3),?_⟩
 rw [tm e5 g3.1]
 have e7:(oo.map Sc.v).getD sz.v=(oo.getD sz).v:=by cases oo <;> rfl
 rw [e7]
 refine q _ H3 (s1.trans (s2.trans s3)) ?_
 rw [<- e6]
 exact .of (lH _ _ _)
theorem Bm {ma mk:ME}{o i:Expr}{pos:Pos} (g:Gf X T k cal) (ha:PE X o (tE X.K cal ma)) (hk:PE X i (tE X.K cal mk)) (hs:bV i=true):PE X (.Subscript o i pos) (tE X.K cal (.dat ma mk)):=by
 have hu:X.A.units + 1 < cLine:=by have:=g.units;omega
 refine (vF hu ha hk (by cases i <;> first|(intro _ _;rfl)|(simp [bV] at hs))).imp λσ H Q q=>?_
 obtain ⟨B,O₀,O,ρ,v,st,e1,q⟩:=q
 rw [ev] at e1
 simp only [Option.bind_eq_some_iff,Option.map_eq_some_iff] at e1
 obtain ⟨x,e1,y,e2,oo,e4,sz,rfl,e6⟩:=e1
 cases x <;> try (cases e4;done)
 refine ⟨B,O₀,O,ρ,_,st,e1,λux H1 s1 g1=>?_⟩
 obtain ⟨a,rfl,hH⟩:=g1.1.dI
 refine ⟨B,O₀,O,ρ,_,st.mono s1,e2,λuy H2 s2 g2=>?_⟩
 refine ⟨a,_,rfl,lF e4 (af.rd s2 hH) g2.1,q _ H2 (s1.trans s2) ?_⟩
 rw [<- e6]
 exact .of (lH _ _ _)
end
set_option maxHeartbeats 0 in
mutual
theorem al {T:Tab}{k:Nat}{cal:Cal}:∀ (me:ME) {X:Cx}{e:Expr},Gf X T k cal->chk T me X.N X.env.scope e=true->PE X e (tE X.K cal me)/\PT X e (tT X.K cal me)
  | .var i,X,e,g,h=>by
    cases e <;> simp only [bD,bE,bF,aY,bG,bH,bJ,bK,cH,bM,bN,aP,bO,bP,bQ,aQ,bR,aZ,aK,Bool.false_eq_true] at h
    exact ⟨xv h,aS (xv h) rfl⟩
  | .bor i,X,e,g,h=>by
    cases e <;> simp only [bD,bE,bF,aY,bG,bH,bJ,bK,cH,bM,bN,aP,bO,bP,bQ,aQ,bR,aZ,aK,Bool.false_eq_true] at h
    exact ⟨xw h,aS (xw h) rfl⟩
  | .cst v,X,e,g,h=>by
    cases e <;> simp only [bD,bE,bF,aY,bG,bH,bJ,bK,cH,bM,bN,aP,bO,bP,bQ,aQ,bR,aZ,aK,Bool.false_eq_true] at h
    exact ⟨xx h,aS (xx h) rfl⟩
  | .glob x v,X,e,g,h=>by
    cases e <;> try (simp only [bD,bE,bF,aY,bG,bH,bJ,bK,cH,bM,bN,aP,bO,bP,bQ,aQ,bR,aZ,aK,Bool.false_eq_true] at h;done)
    exact ⟨sN g h,aS (sN g h) rfl⟩
  | .bin op a b,X,e,g,h=>by
    cases e <;> simp only [bD,bE,bF,aY,bG,bH,bJ,bK,cH,bM,bN,aP,bO,bP,bQ,aQ,bR,aZ,aK,Bool.false_eq_true,Bool.and_eq_true,beq_iff_eq] at h
    obtain ⟨⟨rfl,h1⟩,h2⟩:=h
    have p:=λ(pos:Pos)=>A_ (op:=op) (pos:=pos) (al a g h1).1 (al b g h2).1
    exact ⟨p _,aS (p _) rfl⟩
  | .neg _,X,e,g,h=>absurd (show false=true from h) Bool.false_ne_true
  | .not a,X,e,g,h=>by
    cases e with
    | UnaryOp op x pos =>
      cases op <;> simp only [bD,bE,bF,aY,bG,bH,bJ,bK,cH,bM,bN,aP,bO,bP,bQ,aQ,bR,aZ,aK,Bool.false_eq_true] at h
      exact ⟨Ba (al a g h).1,Bb (al a g h).2⟩
    | _=>cases (show false=true from h)
  | .and a b,X,e,g,h=>by
    cases e with
    | BoolOp op vs pos =>
      cases op with
      | Or=>cases (show false=true from h)
      | And =>
        match vs,h with
        | [],h=>cases (show false=true from h)
        | [x],h=>cases (show false=true from h)
        | [x,y],h =>
          have h:(chk T a X.N X.env.scope x&&chk T b X.N X.env.scope y)=true:=h
          simp only [Bool.and_eq_true] at h
          exact ⟨xy (al a g h.1).1 (m9 (al b g h.2).1),xA (al a g h.1).2 (ve (al b g h.2).2)⟩
        | x::y::z::r,h =>
          have h:(chk T a X.N X.env.scope x&&chk T b X.N X.env.scope (.BoolOp .And (y::z::r) pos))=true:=h
          simp only [Bool.and_eq_true] at h
          exact ⟨xy (al a g h.1).1 (al b g h.2).1,xA (al a g h.1).2 (xz (al b g h.2).2)⟩
    | _=>cases (show false=true from h)
  | .or a b,X,e,g,h=>by
    cases e with
    | BoolOp op vs pos =>
      cases op with
      | And=>cases (show false=true from h)
      | Or =>
        match vs,h with
        | [],h=>cases (show false=true from h)
        | [x],h=>cases (show false=true from h)
        | [x,y],h =>
          have h:(chk T a X.N X.env.scope x&&chk T b X.N X.env.scope y)=true:=h
          simp only [Bool.and_eq_true] at h
          exact ⟨Bc (al a g h.1).1 (m9 (al b g h.2).1),Bd (al a g h.1).2 (xU (al b g h.2).2)⟩
        | x::y::z::r,h =>
          have h:(chk T a X.N X.env.scope x&&chk T b X.N X.env.scope (.BoolOp .Or (y::z::r) pos))=true:=h
          simp only [Bool.and_eq_true] at h
          exact ⟨Bc (al a g h.1).1 (al b g h.2).1,Bd (al a g h.1).2 (xz (al b g h.2).2)⟩
    | _=>cases (show false=true from h)
  | .ite c a b,X,e,g,h=>by
    cases e <;> simp only [bD,bE,bF,aY,bG,bH,bJ,bK,cH,bM,bN,aP,bO,bP,bQ,aQ,bR,aZ,aK,Bool.false_eq_true,Bool.and_eq_true,Bool.not_eq_true'] at h
    obtain ⟨⟨⟨⟨h1,h2⟩,h3⟩,h4⟩,h5⟩:=h
    exact ⟨Be (al c g h1).2 (al a g h2).1 (al b g h3).1 h4 h5,Bf (al c g h1).2 (al a g h2).2 (al b g h3).2⟩
  | .cmp op a b,X,e,g,h=>by
    cases e with
    | Compare l ops rs pos =>
      match ops,rs,h with
      | [o],[r],h =>
        simp only [bD,bE,bF,aY,bG,bH,bJ,bK,cH,bM,bN,aP,bO,bP,bQ,aQ,bR,aZ,aK,Bool.and_eq_true,beq_iff_eq,Bool.not_eq_true'] at h
        obtain ⟨⟨⟨rfl,h1⟩,h2⟩,h3⟩:=h
        exact Bg g (al a g h1).1 (al b g h2).1 h3
      | [],_,h=>cases (show false=true from h)
      | [_],[],h=>cases (show false=true from h)
      | [_],_::_::_,h=>cases (show false=true from h)
      | _::_::_,_,h=>cases (show false=true from h)
    | _=>cases (show false=true from h)
  | .chain op op' a b c,X,e,g,h=>by
    cases e with
    | Compare l ops rs pos =>
      match ops,rs,h with
      | [o,o'],[m,r],h =>
        simp only [bD,bE,bF,aY,bG,bH,bJ,bK,cH,bM,bN,aP,bO,bP,bQ,aQ,bR,aZ,aK,Bool.and_eq_true,beq_iff_eq,Bool.not_eq_true'] at h
        obtain ⟨⟨⟨⟨⟨rfl,rfl⟩,h1⟩,h2⟩,h3⟩,h4⟩:=h
        exact wr g (al a g h1).1 (al b g h2).1 (al c g h3).1 h4
      | [],_,h=>cases (show false=true from h)
      | [_],_,h=>cases (show false=true from h)
      | [_,_],[],h=>cases (show false=true from h)
      | [_,_],[_],h=>cases (show false=true from h)
      | [_,_],_::_::_::_,h=>cases (show false=true from h)
      | _::_::_::_,_,h=>cases (show false=true from h)
    | _=>cases (show false=true from h)
  | .tup es,X,e,g,h=>by
    cases e <;> simp only [bD,bE,bF,aY,bG,bH,bJ,bK,cH,bM,bN,aP,bO,bP,bQ,aQ,bR,aZ,aK,Bool.false_eq_true,Bool.and_eq_true] at h
    have p:=λ(j:Nat) (pos:Pos)=>Bh (j:=j) (pos:=pos) (sounds es g h.1) h.2
    exact ⟨p _ _,aS (p _ _) rfl⟩
  | .lst es,X,e,g,h=>by
    cases e <;> simp only [bD,bE,bF,aY,bG,bH,bJ,bK,cH,bM,bN,aP,bO,bP,bQ,aQ,bR,aZ,aK,Bool.false_eq_true,Bool.and_eq_true] at h
    have p:=λ(pos:Pos)=>fP (λρ v hv=>by
      rw [ev,Option.bind_eq_some_iff] at hv
      obtain ⟨vs,_,hv⟩:=hv
      split at hv
      · cases hv;exact ⟨_,rfl⟩
      · cases hv) (xB (pos:=pos) (sounds es g h.1) h.2)
    exact ⟨p _,aS (p _) rfl⟩
  | .idx a i,X,e,g,h=>by
    cases e with
    | Subscript v s pos =>
      cases s <;> first
        | (simp only [bD,bE,bF,aY,bG,bH,bJ,bK,cH,bM,bN,aP,bO,bP,bQ,aQ,bR,aZ,aK,Bool.and_eq_true,Bool.false_eq_true] at h
           obtain ⟨⟨h1,h2⟩,h3⟩:=h
           have p:=Bi (pos:=pos) (al a g h1).1 (al i g h2).1 h3
           exact ⟨p,aS p rfl⟩)
        | (simp [bD,bE,bF,aY,bG,bH,bJ,bK,cH,bM,bN,aP,bO,bP,bQ,aQ,bR,aZ,aK,bV] at h)
    | _=>cases (show false=true from h)
  | .slice a lo hi,X,e,g,h=>by
    cases e with
    | Subscript v s pos =>
      cases s with
      | Slice l u st p2 =>
        cases st with
        | none =>
          have h:(chk T a X.N X.env.scope v&&fG (λe=>chk T lo X.N X.env.scope e) (eB lo) l&&fG (λe=>chk T hi X.N X.env.scope e) (eB hi) u)=true:=h
          simp only [Bool.and_eq_true] at h
          obtain ⟨⟨h1,h2⟩,h3⟩:=h
          have q1:PO X l (tB1 X.K cal lo):=by
            cases l with
            | none=>exact sW h2
            | some l =>
              simp only [fG,Bool.and_eq_true,Bool.not_eq_true'] at h2
              exact sX (al lo g h2.1).1 h2.2
          have q2:PO X u (tB1 X.K cal hi):=by
            cases u with
            | none=>exact sW h3
            | some u =>
              simp only [fG,Bool.and_eq_true,Bool.not_eq_true'] at h3
              exact sX (al hi g h3.1).1 h3.2
          have p:=wt (p2:=p2) (pos:=pos) (al a g h1).1 q1 q2
          exact ⟨p,aS p rfl⟩
        | some _=>cases (show false=true from h)
      | _=>cases (show false=true from h)
    | _=>cases (show false=true from h)
  | .blt b es,X,e,g,h=>by
    cases e with
    | Call fn args kws pos =>
      cases fn with
      | Name x p =>
        cases kws with
        | nil =>
          have h:(x == (kA b:Str)&&glB X.env.scope x&&cm X.env.scope (λxs=>chks T es X.N X.env.scope xs) es.length b args)=true:=h
          simp only [Bool.and_eq_true,beq_iff_eq] at h
          obtain ⟨⟨hx,hg⟩,ha⟩:=h
          have q:=(mR (p:=p) (pos:=pos) g hx hg ha (λxs hxs=>⟨sounds es g hxs,aI hxs⟩) (λm x hm hx=>match es,hm with|[m'],rfl=>(al m' g (by simp only [chks,Bool.and_eq_true] at hx;exact hx.1.1)).1) (λa b x x' hm hx=>match es,hm with|[m1,m2],rfl=>⟨(al m1 g (by simp only [chks,Bool.and_eq_true] at hx;exact hx.1.1)).1,(al m2 g (by simp only [chks,Bool.and_eq_true] at hx;exact hx.2.1.1)).1⟩)).2
          exact ⟨q,aS q rfl⟩
        | cons _ _=>cases (show false=true from h)
      | _=>cases (show false=true from h)
    | _=>cases (show false=true from h)
  | .call f es,X,e,g,h=>by
    cases e with
    | Call fn args kws pos =>
      cases fn with
      | Name x p =>
        cases kws with
        | nil =>
          have h:(T.fs[f]? == some x&&glB X.env.scope x&&ag x&&chks T es X.N X.env.scope args)=true:=h
          simp only [Bool.and_eq_true,beq_iff_eq] at h
          obtain ⟨⟨⟨h1,h2⟩,h3⟩,h4⟩:=h
          obtain ⟨hs,hl⟩:=aI h4
          have q:=y3 (p:=p) (pos:=pos) g h1 h2 h3 (soundA es g h4) hs hl
          exact ⟨q,aS q rfl⟩
        | cons _ _=>cases (show false=true from h)
      | _=>cases (show false=true from h)
    | _=>cases (show false=true from h)
  | .callD _ _ _,X,e,g,h=>absurd (show false=true from h) Bool.false_ne_true
  | .fld i n,X,e,g,h=>by
    obtain ⟨z,e1,h2⟩:=au (show onO (jp e) (λq=>gd[n]? == some q.2&&ah X.N X.env.scope i q.1)=true from h)
    obtain ⟨p,ap,rfl⟩:=gB e1
    obtain ⟨h3,h4⟩:=Bool.and_eq_true_iff.mp h2
    have q:=Bj (p:=p) (ap:=ap) g (eq_of_beq h3) h4
    exact ⟨q,aS q rfl⟩
  | .fldL i,X,e,g,h=>by
    obtain ⟨z,e1,h2⟩:=au (show onO (jp e) (λq=>q.2 == ("taken":Str)&&ah X.N X.env.scope i q.1)=true from h)
    obtain ⟨p,ap,rfl⟩:=gB e1
    obtain ⟨h3,h4⟩:=Bool.and_eq_true_iff.mp h2
    rw [eq_of_beq h3]
    have q:=y_ (p:=p) (ap:=ap) g h4
    exact ⟨q,aS q rfl⟩
  | .lenO i,X,e,g,h=>by
    obtain ⟨z,e1,h⟩:=au (show onO (vW e) (λq=>q.1 == ("len":Str)&&glB X.env.scope q.1&&q.2.2 == ("taken":Str)&&ah X.N X.env.scope i q.2.1)=true from h)
    obtain ⟨p,p1,p2,pos,rfl⟩:=vX e1
    obtain ⟨a1,h4⟩:=Bool.and_eq_true_iff.mp h
    obtain ⟨a2,h3⟩:=Bool.and_eq_true_iff.mp a1
    obtain ⟨h1,h2⟩:=Bool.and_eq_true_iff.mp a2
    have q:=za (p:=p) (p1:=p1) (p2:=p2) (pos:=pos) g (eq_of_beq h1) h2 h4
    rw [eq_of_beq h3]
    exact ⟨q,aS q rfl⟩
  | .inO neg me i,X,e,g,h=>by
    obtain ⟨z,e1,h⟩:=au (show onO (sw e) (λz=>onO (jp z.2.2) λq=>z.2.1 == (if neg=true then CmpOp.NotIn else CmpOp.In)&&chk T me X.N X.env.scope z.1&&q.2 == ("taken":Str)&&ah X.N X.env.scope i q.1)=true from h)
    have hz:=ze e1 h
    exact zf g hz (al me g hz.1).1
  | .callV _ _,X,e,g,h=>(by cases h)
  | .comp2 _ _ _ _,X,e,g,h=>(by cases h)
  | .callM f i es,X,e,g,h=>by
    obtain ⟨z,e1,h⟩:=au (show onO (mz e) (λq=>jW X.N X.env.scope T.ms f i (λxs=>chks T es X.N X.env.scope xs) q)=true from h)
    obtain ⟨p,rfl⟩:=gC e1
    obtain ⟨h1,h2,h3,h4,h5,h6⟩:=gR h
    obtain ⟨hs,hl⟩:=aI h4
    have q:=wA (p:=p) g h1 h2 h3 (soundA es g h4) hs hl h5 h6
    exact ⟨q,aS q rfl⟩
  | .dIn neg mk ma,X,e,g,h=>by
    cases e with
    | Compare l ops rs pos =>
      match ops,rs,h with
      | [o],[r],h =>
        simp only [yA,Bool.and_eq_true,beq_iff_eq,Bool.not_eq_true'] at h
        obtain ⟨⟨⟨rfl,h1⟩,h2⟩,h3⟩:=h
        exact Bl g (al mk g h1).1 (al ma g h2).1 h3
      | [],_,h=>cases (show false=true from h)
      | [_],[],h=>cases (show false=true from h)
      | [_],_::_::_,h=>cases (show false=true from h)
      | _::_::_,_,h=>cases (show false=true from h)
    | _=>cases (show false=true from h)
  | .dat ma mk,X,e,g,h=>by
    cases e with
    | Subscript v s pos =>
      simp only [sy,Bool.and_eq_true] at h
      have p:=Bm (pos:=pos) g (al ma g h.1.1).1 (al mk g h.1.2).1 h.2
      exact ⟨p,aS p rfl⟩
    | _=>simp only [sy,Bool.false_eq_true] at h
  | .dget ma mk md,X,e,g,h=>by
    cases e with
    | Call fn args kws pos =>
      cases fn with
      | Attribute o m ap =>
        match args,kws,h with
        | [x,y],[],h =>
          simp only [v0,Bool.and_eq_true,beq_iff_eq] at h
          obtain ⟨⟨⟨⟨⟨⟨⟨rfl,h1⟩,h2⟩,h3⟩,h4⟩,h5⟩,h6⟩,h7⟩:=h
          have p:=zg (ap:=ap) (cp:=pos) g (al ma g h3).1 (al mk g h4).1 (al md g h5).1 h1 (by rw [h2];simp) h6 h7
          exact ⟨p,aS p rfl⟩
        | [],_,h=>cases (show false=true from h)
        | [_],_,h=>cases (show false=true from h)
        | _::_::_::_,_,h=>cases (show false=true from h)
        | [_,_],_::_,h=>cases (show false=true from h)
      | _=>cases (show false=true from h)
    | _=>cases (show false=true from h)
  | .comp k' src js cond elt,X,e,g,h=>by
    cases e with
    | ListComp e gens scope pos =>
      match gens,h with
      | [],h=>cases (show false=true from h)
      | ⟨tg,it,ifs,as⟩::[],h =>
        cases tg with
        | Name x px =>
          by_cases has:as=0
          · subst has
            have h:(d5 X.env.scope X.N scope x (bY X.N js) js&&dm X.env.scope false (λxs=>chks T src X.N X.env.scope xs) k' it&&jr (λc=>chk T cond (x::bY X.N js) (fV scope X.env.scope) c) cond ifs&&chk T elt (x::bY X.N js) (fV scope X.env.scope) e&&!aD elt)=true:=h
            simp only [Bool.and_eq_true,Bool.not_eq_true'] at h
            obtain ⟨⟨⟨⟨h1,h2⟩,h3⟩,h4⟩,h5⟩:=h
            have hw:=jz (tg:=.Name x px) (λz=>by cases z) g h2 (λxs hxs=>⟨sounds src g hxs,aI hxs⟩) (λm x hm hx=>match src,hm with|[m'],rfl=>(al m' g (by simp only [chks,Bool.and_eq_true] at hx;exact hx.1.1)).1)
            have q:=fP mQ (nV (pos:=pos) g h1 hw.1 hw.2 (λs₁ H₁ C fp=>nW h3 λc hc=>(al cond (g.blk x (bY X.N js) scope s₁ H₁ C fp) hc).2) (λs₁ H₁ C fp=>(al elt (g.blk x (bY X.N js) scope s₁ H₁ C fp) h4).1) h5)
            exact ⟨q,aS q rfl⟩
          · exact absurd h (by
              have:chk T (.comp k' src js cond elt) X.N X.env.scope (.ListComp e [⟨.Name x px,it,ifs,as⟩] scope pos)=false:=by
                rw [aK]
                split <;> first|rfl|(rename_i z;simp_all)
              rw [this];exact Bool.false_ne_true)
        | _=>cases (show false=true from h)
      | _::_::_,h=>simp [aK] at h
    | _=>cases (show false=true from h)
theorem sounds {T:Tab}{k:Nat}{cal:Cal}:∀ (ms:List ME) {X:Cx}{es:List Expr},Gf X T k cal->chks T ms X.N X.env.scope es=true->PA X es (tEs X.K cal ms)
 | [],X,es,g,h=>by
  cases es with
  | nil=>exact wq
  | cons _ _=>simp [chks] at h
 | m::ms,X,es,g,h=>by
  cases es with
  | nil=>simp [chks] at h
  | cons e es =>
   simp only [chks,Bool.and_eq_true] at h
   exact sS (al m g h.1.1).1 (sounds ms g h.2) h.1.2
theorem soundA {T:Tab}{k:Nat}{cal:Cal}:∀ (ms:List ME) {X:Cx}{es:List Expr},Gf X T k cal->chks T ms X.N X.env.scope es=true->PA X es (tAs X.K cal ms)
 | [],X,es,g,h=>by
  cases es with
  | nil=>exact sT
  | cons _ _=>simp [chks] at h
 | m::ms,X,es,g,h=>by
  cases es with
  | nil=>simp [chks] at h
  | cons e es =>
   simp only [chks,Bool.and_eq_true] at h
   have hs:=soundA ms g h.2
   cases hb:aD m with
   | false=>exact qu hb (al m g h.1.1).1 hs h.1.2
   | true =>
    have hp:=(al m g h.1.1).1
    rcases ly hb with ⟨i,rfl⟩|⟨i,rfl⟩
    rotate_left
    ·exact (aU hp hs (a_ h.1.2 es _)).imp λσ H Q q=>by
      obtain ⟨B,O₀,O,ρ,vs,st,e1,q⟩:=q
      cases (show none=some vs from e1)
    have h1:=h.1.1
    cases e <;> simp only [bD,bE,bF,aY,bG,bH,bJ,bK,cH,bM,bN,aP,bO,bP,bQ,aQ,bR,aZ,aK,Bool.false_eq_true] at h1
    exact sV h1 hs
end
theorem zh {T:Tab}{k:Nat}{cal:Cal}{me:ME}{X:Cx}{e:Expr} (g:Gf X T k cal) (h:chk T me X.N X.env.scope e=true) (hf:b8 me=true):PE X e (tF X.K cal me):=by
 cases me with
 | lst es =>
  cases e <;> simp only [bD,bE,bF,aY,bG,bH,bJ,bK,cH,bM,bN,aP,bO,bP,bQ,aQ,bR,aZ,aK,Bool.false_eq_true,Bool.and_eq_true] at h
  exact xB (sounds es g h.1) h.2
 | blt b es =>
  cases e with
  | Call fn args kws pos =>
   cases fn with
   | Name x p =>
    cases kws with
    | nil =>
     have h:(x == (kA b:Str)&&glB X.env.scope x&&cm X.env.scope (λxs=>chks T es X.N X.env.scope xs) es.length b args)=true:=h
     simp only [Bool.and_eq_true,beq_iff_eq] at h
     obtain ⟨⟨hx,hg⟩,ha⟩:=h
     exact (mR (p:=p) (pos:=pos) g hx hg ha (λxs hxs=>⟨sounds es g hxs,aI hxs⟩) (λm x hm hx=>match es,hm with|[m'],rfl=>(al m' g (by simp only [chks,Bool.and_eq_true] at hx;exact hx.1.1)).1) (λa b x x' hm hx=>match es,hm with|[m1,m2],rfl=>⟨(al m1 g (by simp only [chks,Bool.and_eq_true] at hx;exact hx.1.1)).1,(al m2 g (by simp only [chks,Bool.and_eq_true] at hx;exact hx.2.1.1)).1⟩)).1 hf
    | cons _ _=>cases (show false=true from h)
   | _=>cases (show false=true from h)
  | _=>cases (show false=true from h)
 | comp k' src js cond elt =>
  cases e with
  | ListComp e gens scope pos =>
   match gens,h with
   | [],h=>cases (show false=true from h)
   | ⟨tg,it,ifs,as⟩::[],h =>
    cases tg with
    | Name x px =>
     by_cases has:as=0
     ·subst has
      have h:(d5 X.env.scope X.N scope x (bY X.N js) js&&dm X.env.scope false (λxs=>chks T src X.N X.env.scope xs) k' it&&jr (λc=>chk T cond (x::bY X.N js) (fV scope X.env.scope) c) cond ifs&&chk T elt (x::bY X.N js) (fV scope X.env.scope) e&&!aD elt)=true:=h
      simp only [Bool.and_eq_true,Bool.not_eq_true'] at h
      obtain ⟨⟨⟨⟨h1,h2⟩,h3⟩,h4⟩,h5⟩:=h
      have hw:=jz (tg:=.Name x px) (λz=>by cases z) g h2 (λxs hxs=>⟨sounds src g hxs,aI hxs⟩) (λm x hm hx=>match src,hm with|[m'],rfl=>(al m' g (by simp only [chks,Bool.and_eq_true] at hx;exact hx.1.1)).1)
      exact nV (pos:=pos) g h1 hw.1 hw.2 (λs₁ H₁ C fp=>nW h3 λc hc=>(al cond (g.blk x (bY X.N js) scope s₁ H₁ C fp) hc).2) (λs₁ H₁ C fp=>(al elt (g.blk x (bY X.N js) scope s₁ H₁ C fp) h4).1) h5
     ·exact absurd h (by
       have:chk T (.comp k' src js cond elt) X.N X.env.scope (.ListComp e [⟨.Name x px,it,ifs,as⟩] scope pos)=false:=by
        rw [aK]
        split <;> first|rfl|(rename_i z;simp_all)
       rw [this];exact Bool.false_ne_true)
    | _=>cases (show false=true from h)
   | _::_::_,h=>simp [aK] at h
  | _=>cases (show false=true from h)
 | _=>simp [b8] at hf
end MM
namespace MM
open PySem PySem.Spec PyProof.Rows L2
noncomputable def Bn:MV->Bool
 | .brw _=>true
 | .brwD _=>true
 | .brwO _ _=>true
 | _=>false
theorem pi {m:MV} (h1:dl m=true) (h2:Bn m=true):False:=by cases m <;> first|(cases h2;done)|(cases h1;done)
structure aV (B:Hp) (O O':List Addr) (ρ ρ':Rho) (σ σ':St):Prop where
 stay:∀ a,B a ≠ none->a ∈ O->a ∈ O'
 new:∀ a ∈ O',a ∈ O \/ B a=none
 brw:∀ (i:Nat) (m:MV),Bn m=true->ρ'[i]?=some (some m)->ρ[i]?=some (some m)/\σ'[i]?=σ[i]?
 len:ρ'.length=ρ.length
 mutO:∀ (i:Nat) (fs xs:List PV),ρ'[i]?=some (some (.ownO true fs xs))->(∃ ys,ρ[i]?=some (some (.ownO true fs ys)))/\σ'[i]?=σ[i]?
theorem aV.refl {B:Hp}{O:List Addr}{ρ:Rho}{σ:St}:aV B O O ρ ρ σ σ:=⟨λ_ _ h=>h,λ_ h=>.inl h,λ_ _ _ h=>⟨h,rfl⟩,rfl,λ_ _ xs h=>⟨⟨xs,h⟩,rfl⟩⟩
theorem aV.trans {B:Hp}{O O1 O2:List Addr}{ρ ρ1 ρ2:Rho}{σ σ1 σ2:St} (a:aV B O O1 ρ ρ1 σ σ1) (b:aV B O1 O2 ρ1 ρ2 σ1 σ2):aV B O O2 ρ ρ2 σ σ2 where
 stay:=λx h1 h2=>b.stay x h1 (a.stay x h1 h2)
 new:=λx h=>(b.new x h).elim (a.new x) .inr
 brw:=λi xs hm h=>by
  obtain ⟨h1,e1⟩:=b.brw i xs hm h
  obtain ⟨h2,e2⟩:=a.brw i xs hm h1
  exact ⟨h2,e1.trans e2⟩
 len:=b.len.trans a.len
 mutO:=λi fs xs h=>by
  obtain ⟨⟨d1,h1⟩,e1⟩:=b.mutO i fs xs h
  obtain ⟨h2,e2⟩:=a.mutO i fs d1 h1
  exact ⟨h2,e1.trans e2⟩
noncomputable def cQ (K:PySem.W.Frag) (B:Hp) (O₀ O:List Addr) (ρ:Rho) (σ:St) (D:fm):R->Prop
 | .next ρ'=>∀ σ' H' O',az K B O₀ O' H' ρ' σ'->aV B O O' ρ ρ' σ σ'->D.nx σ' H'
 | .brk ρ'=>∀ σ' H' O',az K B O₀ O' H' ρ' σ'->aV B O O' ρ ρ' σ σ'->D.bk σ' H'
 | .cont ρ'=>∀ σ' H' O',az K B O₀ O' H' ρ' σ'->aV B O O' ρ ρ' σ σ'->D.ct σ' H'
 | .ret v=>∀ u H',af B H'->Rep K (aj H' O₀) v u->D.rt u H'
 | .retF xs=>∀ p us H',af B H'->B p=none->H' p=some (.lst us)->Reps K (aj H' (p::O₀)) xs us->D.rt (.ref p) H'
 | .retT v ρ'=>∀ σ' H' O',az K B O₀ O' H' ρ' σ'->aV B O O' ρ ρ' σ σ'->D.rt v.v H'
 | .bad=>False
theorem cQ.trans {K:PySem.W.Frag}{B:Hp}{O₀ O O':List Addr}{ρ ρ':Rho}{σ σ':St}{D:fm}{r:R} (h:cQ K B O₀ O ρ σ D r) (k:aV B O O' ρ ρ' σ σ'):cQ K B O₀ O' ρ' σ' D r:=by
 cases r with
 | next ρ2=>exact λσ2 H2 O2 st k2=>h σ2 H2 O2 st (k.trans k2)
 | brk ρ2=>exact λσ2 H2 O2 st k2=>h σ2 H2 O2 st (k.trans k2)
 | cont ρ2=>exact λσ2 H2 O2 st k2=>h σ2 H2 O2 st (k.trans k2)
 | ret v=>exact h
 | bad=>exact h
 | retF xs=>exact h
 | retT v ρ2=>exact λσ2 H2 O2 st k2=>h σ2 H2 O2 st (k.trans k2)
noncomputable def tS (K:PySem.W.Frag) (cal:Cal) (m:MS):TS:=λD σ H=>∃ B O₀ O ρ,az K B O₀ O H ρ σ/\cQ K B O₀ O ρ σ D (ex cal m ρ)
noncomputable def tSs (K:PySem.W.Frag) (cal:Cal) (ms:List MS):TS:=λD σ H=>∃ B O₀ O ρ,az K B O₀ O H ρ σ/\cQ K B O₀ O ρ σ D (exs cal ms ρ)
section
variable {K:PySem.W.Frag}{B H H':Hp}{O₀ O:List Addr}{ρ:Rho}{σ:St}
theorem ac {i:Nat}{m:MV} (h:i < ρ.length):(put ρ i m)[i]?=some (some m):=by unfold put;exact List.getElem?_set_self h
theorem aa {i j:Nat}{m:MV} (h:i ≠ j):(put ρ i m)[j]?=ρ[j]?:=by unfold put;exact List.getElem?_set_ne h
theorem put_len {i:Nat}{m:MV}:(put ρ i m).length=ρ.length:=by unfold put;exact List.length_set
theorem az.store (st:az K B O₀ O H ρ σ) {i:Nat}{v:PV}{u:V} (hi:i < σ.length) (r:Rep K (aj H O) v u):az K B O₀ O H (put ρ i (.val v)) (σ.set i (some u))/\aV B O O ρ (put ρ i (.val v)) σ (σ.set i (some u)):=by
 have hi':i < ρ.length:=by rw [st.len];exact hi
 refine ⟨⟨st.keep,st.here,st.sub,st.old,by rw [put_len,List.length_set];exact st.len,λj m e=>?_,λa b xs ys ad hab e1 e2 o1 o2 e3 e4=>?_
  ,c_ st.inn (λj m0 e l0=>by
   have hj:i ≠ j:=λz=>by subst z;rw [ac hi'] at e;cases e;cases l0
   rw [aa hj] at e
   exact ⟨⟨m0,e,l0⟩,List.getElem?_set_ne hj,λ_ _ _ h=>h⟩) λj m c e _ o es=>.inl (by
   have hj:i ≠ j:=λz=>by subst z;rw [ac hi'] at e;cases e;cases o
   rw [aa hj] at e
   rw [List.getElem?_set_ne hj] at es
   exact ⟨m,e,o,es⟩)
  ⟩,⟨λ_ _ h=>h,λ_ h=>.inl h,λj xs hbm e=>?_,put_len
  ,λj fs xs e=>by
   have hj:i ≠ j:=λz=>by subst z;rw [ac hi'] at e;cases e
   rw [aa hj] at e
   exact ⟨⟨xs,e⟩,List.getElem?_set_ne hj⟩
  ⟩⟩
 ·by_cases hj:i=j
  ·subst hj
   rw [ac hi'] at e
   cases e
   exact ⟨u,List.getElem?_set_self hi,r⟩
  ·rw [aa hj] at e
   obtain ⟨w,e1,q⟩:=st.slot j m e
   exact ⟨w,by rw [List.getElem?_set_ne hj];exact e1,q⟩
 ·have h1:i ≠ a:=λz=>by subst z;rw [ac hi'] at e1;cases e1;cases o1
  have h2:i ≠ b:=λz=>by subst z;rw [ac hi'] at e2;cases e2;cases o2
  rw [aa h1] at e1
  rw [aa h2] at e2
  rw [List.getElem?_set_ne h1] at e3
  rw [List.getElem?_set_ne h2] at e4
  exact st.apart a b xs ys ad hab e1 e2 o1 o2 e3 e4
 ·have hj:i ≠ j:=λz=>by subst z;rw [ac hi'] at e;cases e;cases hbm
  rw [aa hj] at e
  exact ⟨e,List.getElem?_set_ne hj⟩
theorem az.storeM (st:az K B O₀ O H ρ σ) {i:Nat}{mm:MV}{p:Addr} (hi:i < σ.length) (s:af H H') (hp:H p=none) (e:H' p ≠ none) (hm:dl mm=true)
  (r:B p=none->dP K B (p::O) H' mm (.ref p))
  (hLL:isL mm=false:=by rfl)
  :
  az K B O₀ (p::O) H' (put ρ i mm) (σ.set i (some (.ref p)))/\aV B O (p::O) ρ (put ρ i mm) σ (σ.set i (some (.ref p))):=by
 have hi':i < ρ.length:=by rw [st.len];exact hi
 have hBp:B p=none:=st.keep.free hp
 have vis:af (aj H O) (aj H' (p::O)):=aW s λb hb=>by
  rcases List.mem_cons.mp hb with rfl|hb
  ·exact .inr hp
  ·exact .inl hb
 refine ⟨⟨st.keep.trans s,λa ha=>?_,λa ha=>List.mem_cons_of_mem _ (st.sub a ha),st.old,by rw [put_len,List.length_set];exact st.len,λj m ej=>?_,λa b xs ys ad hab e1 e2 o1 o2 e3 e4=>?_
  ,c_ (st.mono s).inn (λj m0 e l0=>by
   have hj:i ≠ j:=λz=>by subst z;rw [ac hi'] at e;cases e;rw [hLL] at l0;cases l0
   rw [aa hj] at e
   exact ⟨⟨m0,e,l0⟩,List.getElem?_set_ne hj,λ_ _ _ h=>h⟩) λj m c e _ o es=>by
   by_cases hj:i=j
   ·subst hj
    rw [List.getElem?_set_self hi] at es
    cases es
    refine .inr λk m1 a l f1 f0 f2 f3 z=>?_
    subst z
    obtain ⟨u,e3,q⟩:=st.slot k _ f1
    rw [f2] at e3
    cases e3
    cases m1 <;> try (cases f0;done)
    obtain ⟨a',l',e4,q⟩:=q
    cases e4
    obtain ⟨C,dx,gs,e5,_⟩:=q.ob
    have e6:=q.l
    rw [s _ _ e5] at f3
    rw [e5] at e6
    rw [e6] at f3
    cases f3
    obtain ⟨us,e7,_⟩:=q.li
    rw [hp] at e7
    cases e7
   ·rw [aa hj] at e
    rw [List.getElem?_set_ne hj] at es
    exact .inl ⟨m,e,o,es⟩
  ⟩,⟨λ_ _ h=>List.mem_cons_of_mem _ h,λa ha=>?_,λj xs hbm ej=>?_,put_len
  ,λj fs xs ej=>by
   have hj:i ≠ j:=λz=>by subst z;rw [ac hi'] at ej;cases ej;cases hLL
   rw [aa hj] at ej
   exact ⟨⟨xs,ej⟩,List.getElem?_set_ne hj⟩
  ⟩⟩
 ·rcases List.mem_cons.mp ha with rfl|ha
  ·exact e
  ·exact λz=>st.here a ha (s.free z)
 ·by_cases hj:i=j
  ·subst hj
   rw [ac hi'] at ej
   cases ej
   exact ⟨_,List.getElem?_set_self hi,r hBp⟩
  ·rw [aa hj] at ej
   obtain ⟨w,e1,q⟩:=st.slot j m ej
   refine ⟨w,by rw [List.getElem?_set_ne hj];exact e1,?_⟩
   cases m with
   | val v=>exact Rep.mono vis _ q
   | own ys=>obtain ⟨a,ws,e2,h1,h2,h3,h4⟩:=q;exact ⟨a,ws,e2,s _ _ h1,Reps.mono vis _ h2,List.mem_cons_of_mem _ h3,h4⟩
   | brw ys=>obtain ⟨a,ws,e2,h1,h2⟩:=q;exact ⟨a,ws,e2,h1,Reps.mono vis _ h2⟩
   | ownD ys=>obtain ⟨a,e2,h1,h3,h4⟩:=q;exact ⟨a,e2,s _ _ h1,List.mem_cons_of_mem _ h3,h4⟩
   | ownO _ fs ys=>obtain ⟨a,l,e2,q⟩:=q;exact ⟨a,l,e2,q.move vis (λ_=>s _ _) (λ_=>s _ _) (List.mem_cons_of_mem _ q.aO) (List.mem_cons_of_mem _ q.lO) q.aB q.lB⟩
   | brwO fs ys=>obtain ⟨a,e2,q⟩:=q;exact ⟨a,e2,q.move (af.refl B) vis⟩
   | brwD ys=>exact q
 ·have other:∀ (j:Nat) (zs:MV) (ad:Addr),ρ[j]?=some (some zs)->dl zs=true->σ[j]?=some (some (.ref ad))->ad ≠ p:=λj zs ad h1 ho h2 z=>by
   obtain ⟨w,e1,q⟩:=st.slot j _ h1
   rw [h2] at e1
   cases e1
   cases zs with
   | own zs =>
    obtain ⟨a,ws,e2,h1,_⟩:=q
    cases e2
    rw [z,hp] at h1;cases h1
   | ownD zs =>
    obtain ⟨a,e2,h1,_⟩:=q
    cases e2
    rw [z,hp] at h1;cases h1
   | ownO _ fs zs =>
    obtain ⟨a,l,e2,q⟩:=q
    cases e2
    obtain ⟨C,dx,gs,h1,_⟩:=q.ob
    rw [z,hp] at h1;cases h1
   | brwO _ _=>cases ho
   | val _=>cases ho
   | brw _=>cases ho
   | brwD _=>cases ho
  by_cases ha:i=a
  ·subst ha
   have hb:i ≠ b:=hab
   rw [List.getElem?_set_self hi] at e3
   rw [aa hb] at e2
   rw [List.getElem?_set_ne hb] at e4
   cases e3
   exact other b ys _ e2 o2 e4 rfl
  ·by_cases hb:i=b
   ·subst hb
    rw [List.getElem?_set_self hi] at e4
    rw [aa ha] at e1
    rw [List.getElem?_set_ne ha] at e3
    cases e4
    exact other a xs _ e1 o1 e3 rfl
   ·rw [aa ha] at e1
    rw [aa hb] at e2
    rw [List.getElem?_set_ne ha] at e3
    rw [List.getElem?_set_ne hb] at e4
    exact st.apart a b _ _ ad hab e1 e2 o1 o2 e3 e4
 ·rcases List.mem_cons.mp ha with rfl|ha
  ·exact .inr hBp
  ·exact .inl ha
 ·have hj:i ≠ j:=λz=>by subst z;rw [ac hi'] at ej;cases ej;exact pi hm hbm
  rw [aa hj] at ej
  exact ⟨ej,List.getElem?_set_ne hj⟩
theorem az.storeOwn (st:az K B O₀ O H ρ σ) {i:Nat}{xs:List PV}{p:Addr}{us:List V} (hi:i < σ.length) (s:af H H') (hp:H p=none) (e:H' p=some (.lst us)) (r:Reps K (aj H' (p::O)) xs us) :
  az K B O₀ (p::O) H' (put ρ i (.own xs)) (σ.set i (some (.ref p)))/\aV B O (p::O) ρ (put ρ i (.own xs)) σ (σ.set i (some (.ref p))) :=
 st.storeM hi s hp (by rw [e];simp) rfl λhB=>⟨p,us,rfl,e,r,List.mem_cons_self,hB⟩
theorem az.changeM (st:az K B O₀ O H ρ σ) {i:Nat}{m0 m1:MV}{a:Addr}{ob:HO} (e:ρ[i]?=some (some m0)) (o0:dl m0=true) (o1:dl m1=true)
  (es:σ[i]?=some (some (.ref a))) (h3:a ∈ O) (h4:B a=none) (r:aj (upd H a ob) O=aj H O->dP K B O (upd H a ob) m1 (.ref a))
  (hLL:isL m1=false:=by rfl) (hL0:isL m0=false:=by rfl)
  :
  az K B O₀ O (upd H a ob) (put ρ i m1) σ/\aV B O O ρ (put ρ i m1) σ σ:=by
 have hi':i < ρ.length:=(List.getElem?_eq_some_iff.mp e).1
 have hid:aj (upd H a ob) O=aj H O:=gQ h3
 have other:∀ (j:Nat) (zs:MV) (ad:Addr),i ≠ j->ρ[j]?=some (some zs)->dl zs=true->σ[j]?=some (some (.ref ad))->ad ≠ a:=λj zs ad hj q1 o2 q2 z=>by
  subst z
  exact st.apart i j m0 zs ad hj e q1 o0 o2 es q2
 refine ⟨⟨λb u eb=>?_,λb hb=>?_,st.sub,st.old,by rw [put_len];exact st.len,λj m ej=>?_,λc d ps qs ad hcd e1 e2 p1 p2 e3 e4=>?_
  ,c_ st.inn (λj mo ej l0=>by
   have hj:i ≠ j:=λz=>by subst z;rw [ac hi'] at ej;cases ej;rw [hLL] at l0;cases l0
   rw [aa hj] at ej
   refine ⟨⟨mo,ej,l0⟩,rfl,λb l e1 e2=>?_⟩
   rw [ak (other j _ b hj ej (by cases mo <;> first|(cases l0;done)|rfl) e1)] at e2
   exact e2) λj m c ej _ o ec=>.inl (by
   by_cases hj:i=j
   ·subst hj
    exact ⟨m0,e,o0,ec⟩
   ·rw [aa hj] at ej
    exact ⟨m,ej,o,ec⟩)
  ⟩,⟨λ_ _ h=>h,λ_ h=>.inl h,λj zs hbm ej=>?_,put_len
  ,λj fs xs ej=>by
   have hj:i ≠ j:=λz=>by subst z;rw [ac hi'] at ej;cases ej;cases hLL
   rw [aa hj] at ej
   exact ⟨⟨xs,ej⟩,rfl⟩
  ⟩⟩
 ·rw [ak (aX eb h4)]
  exact st.keep b u eb
 ·unfold upd
  split
  ·simp
  ·exact st.here b hb
 ·by_cases hj:i=j
  ·subst hj
   rw [ac hi'] at ej
   cases ej
   exact ⟨_,es,r hid⟩
  ·rw [aa hj] at ej
   obtain ⟨w,ew,q⟩:=st.slot j m ej
   refine ⟨w,ew,?_⟩
   cases m with
   | val v=>show Rep K (aj (upd H a ob) O) v w;rw [hid];exact q
   | own zs =>
    obtain ⟨ad,ws,rfl,q1,q2,q3,q4⟩:=q
    refine ⟨ad,ws,rfl,?_,by rw [hid];exact q2,q3,q4⟩
    rw [ak (other j (.own zs) ad hj ej rfl ew)]
    exact q1
   | ownD zs =>
    obtain ⟨ad,rfl,q1,q3,q4⟩:=q
    refine ⟨ad,rfl,?_,q3,q4⟩
    rw [ak (other j (.ownD zs) ad hj ej rfl ew)]
    exact q1
   | ownO b fs zs =>
    obtain ⟨ad,l,rfl,q⟩:=q
    have n1:=other j (.ownO b fs zs) ad hj ej rfl ew
    have n2:=(st.inn j _ ad l ej rfl ew q.l i m0 (λz=>hj z) e).2 a o0 es
    exact ⟨ad,l,rfl,q.move (by rw [hid];exact af.refl _) (λo h=>by rw [ak n1];exact h) (λo h=>by rw [ak (Ne.symm n2)];exact h) q.aO q.lO q.aB q.lB⟩
   | brwO fs zs=>obtain ⟨ad,rfl,q⟩:=q;exact ⟨ad,rfl,q.move (af.refl B) (by rw [hid];exact af.refl _)⟩
   | brwD zs=>exact q
   | brw zs=>obtain ⟨ad,ws,rfl,q1,q2⟩:=q;exact ⟨ad,ws,rfl,q1,by rw [hid];exact q2⟩
 ·have h1:∀ (j:Nat) (zs:MV),(put ρ i m1)[j]?=some (some zs)->dl zs=true->∃ zs,ρ[j]?=some (some zs)/\dl zs=true:=λj zs q oz=>by
   by_cases hj:i=j
   ·subst hj;exact ⟨m0,e,o0⟩
   ·rw [aa hj] at q;exact ⟨zs,q,oz⟩
  obtain ⟨q1,e1,p1⟩:=h1 c ps e1 p1
  obtain ⟨q2,e2,p2⟩:=h1 d qs e2 p2
  exact st.apart c d q1 q2 ad hcd e1 e2 p1 p2 e3 e4
 ·have hj:i ≠ j:=λz=>by subst z;rw [ac hi'] at ej;cases ej;exact pi o1 hbm
  rw [aa hj] at ej
  exact ⟨ej,rfl⟩
theorem az.change (st:az K B O₀ O H ρ σ) {i:Nat}{xs ys:List PV}{a:Addr}{us:List V} (e:ρ[i]?=some (some (.own xs))) (es:σ[i]?=some (some (.ref a))) (r:Reps K (aj H O) ys us) :
  az K B O₀ O (upd H a (.lst us)) (put ρ i (.own ys)) σ/\aV B O O ρ (put ρ i (.own ys)) σ σ:=by
 obtain ⟨w,e1,a',us',e2,h1,h2,h3,h4⟩:=st.slot i _ e
 rw [es] at e1
 cases e1
 cases e2
 exact st.changeM e rfl rfl es h3 h4 λhid=>⟨a,us,rfl,av,by rw [hid];exact r,h3,h4⟩
theorem az.changeD (st:az K B O₀ O H ρ σ) {i:Nat}{xs ys:DD}{a:Addr} (e:ρ[i]?=some (some (.ownD xs))) (es:σ[i]?=some (some (.ref a))) :
  az K B O₀ O (upd H a (fF ys)) (put ρ i (.ownD ys)) σ/\aV B O O ρ (put ρ i (.ownD ys)) σ σ:=by
 obtain ⟨w,e1,a',e2,h1,h3,h4⟩:=st.slot i _ e
 rw [es] at e1
 cases e1
 cases e2
 exact st.changeM e rfl rfl es h3 h4 λ_=>⟨a,rfl,av,h3,h4⟩
theorem az.freeze (st:az K B O₀ O H ρ σ) {i:Nat}{xs:List PV} (e:ρ[i]?=some (some (.own xs))):∃ O',az K B O₀ O' H (put ρ i (.val (.lst xs))) σ/\aV B O O' ρ (put ρ i (.val (.lst xs))) σ σ:=by
 obtain ⟨w,es,a,us,rfl,h1,h2,h3,h4⟩:=st.slot i _ e
 have hi':i < ρ.length:=(List.getElem?_eq_some_iff.mp e).1
 have vis:af (aj H O) (aj H (O.filter λb=>decide (b ≠ a))):=aW (af.refl H) λb hb=>.inl (List.mem_filter.mp hb).1
 have mem:∀ b,b ≠ a->b ∈ O->b ∈ O.filter λb=>decide (b ≠ a):=λb hb ho=>List.mem_filter.mpr ⟨ho,decide_eq_true hb⟩
 refine ⟨O.filter λb=>decide (b ≠ a),⟨st.keep,λb hb=>st.here b (List.mem_filter.mp hb).1,λb hb=>mem b (λz=>st.old b hb (z ▸ h4)) (st.sub b hb),st.old,by rw [put_len];exact st.len,λj m ej=>?_,λc d ps qs ad hcd e1 e2 p1 p2 e3 e4=>?_
  ,c_ st.inn (λj mo ej l0=>by
   have hj:i ≠ j:=λz=>by subst z;rw [ac hi'] at ej;cases ej;cases l0
   rw [aa hj] at ej
   exact ⟨⟨mo,ej,l0⟩,rfl,λ_ _ _ h=>h⟩) λj m c ej _ o ec=>.inl (by
   have hj:i ≠ j:=λz=>by subst z;rw [ac hi'] at ej;cases ej;cases o
   rw [aa hj] at ej
   exact ⟨m,ej,o,ec⟩)
  ⟩,⟨λb hb ho=>mem b (λz=>hb (z ▸ h4)) ho,λb hb=>.inl (List.mem_filter.mp hb).1,λj zs hbm ej=>?_,put_len
  ,λj fs xs ej=>by
   have hj:i ≠ j:=λz=>by subst z;rw [ac hi'] at ej;cases ej
   rw [aa hj] at ej
   exact ⟨⟨xs,ej⟩,rfl⟩
  ⟩⟩
 ·by_cases hj:i=j
  ·subst hj
   rw [ac hi'] at ej
   cases ej
   refine ⟨_,es,?_⟩
   show Rep K _ (.lst xs) (.ref a)
   rw [Rep]
   refine ⟨a,us,rfl,SqL.of ?_,Reps.mono vis _ h2⟩
   have hna:a ∉ O.filter λb=>decide (b ≠ a):=λz=>by simpa using (List.mem_filter.mp z).2
   rw [aJ hna]
   exact h1
  ·rw [aa hj] at ej
   obtain ⟨w,ew,q⟩:=st.slot j m ej
   refine ⟨w,ew,?_⟩
   cases m with
   | val v=>exact Rep.mono vis _ q
   | own zs =>
    obtain ⟨ad,ws,rfl,q1,q2,q3,q4⟩:=q
    exact ⟨ad,ws,rfl,q1,Reps.mono vis _ q2,mem ad (λz=>st.apart i j (.own xs) (.own zs) a hj e ej rfl rfl es (by rw [ew,z])) q3,q4⟩
   | ownD zs =>
    obtain ⟨ad,rfl,q1,q3,q4⟩:=q
    exact ⟨ad,rfl,q1,mem ad (λz=>st.apart i j (.own xs) (.ownD zs) a hj e ej rfl rfl es (by rw [ew,z])) q3,q4⟩
   | ownO b fs zs =>
    obtain ⟨ad,l,rfl,q⟩:=q
    have n2:=(st.inn j _ ad l ej rfl ew q.l i (.own xs) (λz=>hj z) e).2 a rfl es
    exact ⟨ad,l,rfl,q.move vis (λ_ h=>h) (λ_ h=>h) (mem ad (λz=>st.apart i j (.own xs) (.ownO b fs zs) a hj e ej rfl rfl es (by rw [ew,z])) q.aO) (mem l (Ne.symm n2) q.lO) q.aB q.lB⟩
   | brwO fs zs=>obtain ⟨ad,rfl,q⟩:=q;exact ⟨ad,rfl,q.move (af.refl B) vis⟩
   | brwD zs=>exact q
   | brw zs=>obtain ⟨ad,ws,rfl,q1,q2⟩:=q;exact ⟨ad,ws,rfl,q1,Reps.mono vis _ q2⟩
 ·have h1:∀ (j:Nat) (zs:MV),dl zs=true->(put ρ i (.val (.lst xs)))[j]?=some (some zs)->ρ[j]?=some (some zs):=λj zs oz q=>by
   by_cases hj:i=j
   ·subst hj;rw [ac hi'] at q;cases q;cases oz
   ·rw [aa hj] at q;exact q
  exact st.apart c d ps qs ad hcd (h1 c ps p1 e1) (h1 d qs p2 e2) p1 p2 e3 e4
 ·have hj:i ≠ j:=λz=>by subst z;rw [ac hi'] at ej;cases ej;cases hbm
  rw [aa hj] at ej
  exact ⟨ej,rfl⟩
end
end MM
namespace MM
open PySem PySem.Spec PyProof.Rows L2
section
open AutoSeq1 (wpAny_loadPart')
open MeetsSeq MeetsSeq2 MeetsSeq3 SeqRoads2 AutoSeq1
theorem lI (l:Addr) (items:Array Value) (n:Nat) (b:Addr) (items2:Array Value) (n2:Nat) (dd2:Option Addr) (sl2:Array (Option Value)) (hs0:¬(!items.isEmpty&&Builtin.List.listTooLong (items.size + items2.size))=true) (hs1:items.size <= sizeLine) (hs2:items.size + items2.size <= sizeLine + 1) :
  Meets (Builtin.«list.extend» ⟨[.ref l,.ref b],[]⟩) (λ_ R s=>s.heap.get? l=some { cls:=.type "list",dict:=none,data:=.seq items n,slots:=#[] }/\s.heap.get? b=some { cls:=.type "tuple",dict:=dd2,data:=.seq items2 n2,slots:=sl2 }/\R (.ok (.ret Value.none)) { s with heap:=s.heap.update l (Obj.mapSeq λx=>x ++ items2),toks:=s.toks }) :=
 .of_wp λprog w A R s h=>by
  obtain ⟨hp,g,d,tk,os⟩:=s;obtain ⟨hl,hb,h⟩:=h;have f1:=AutoSeq1.idx_int;have f2:=AutoSeq1.sub_tuple_tuple;have f3:=AutoSeq1.sub_list_list;have f4:=AutoSeq1.sub_tuple_list;have f5:=AutoSeq1.sub_list_tuple;
  have hz':(items ++ items2).size <= sizeLine + 1:=by rw [Array.size_append];exact hs2
  wp_walk using (wpAny_updateSeq hl rfl (hz:=hs1) (_hz':=hz')),wpAny_loadPart' hl,wpAny_loadPart' hb;exact ⟨_,rfl,h⟩
theorem lJ (l:Addr) (items:Array Value) (n:Nat) (b:Addr) (items2:Array Value) (n2:Nat) (dd2:Option Addr) (sl2:Array (Option Value)) (hs0:¬(!items.isEmpty&&Builtin.List.listTooLong (items.size + items2.size))=true) (hs1:items.size <= sizeLine) (hs2:items.size + items2.size <= sizeLine + 1) :
  Meets (Builtin.«list.extend» ⟨[.ref l,.ref b],[]⟩) (λ_ R s=>s.heap.get? l=some { cls:=.type "list",dict:=none,data:=.seq items n,slots:=#[] }/\s.heap.get? b=some { cls:=.type "list",dict:=dd2,data:=.seq items2 n2,slots:=sl2 }/\R (.ok (.ret Value.none)) { s with heap:=s.heap.update l (Obj.mapSeq λx=>x ++ items2),toks:=s.toks }) :=
 .of_wp λprog w A R s h=>by
  obtain ⟨hp,g,d,tk,os⟩:=s;obtain ⟨hl,hb,h⟩:=h;have f1:=AutoSeq1.idx_int;have f2:=AutoSeq1.sub_tuple_tuple;have f3:=AutoSeq1.sub_list_list;have f4:=AutoSeq1.sub_tuple_list;have f5:=AutoSeq1.sub_list_tuple;
  have hz':(items ++ items2).size <= sizeLine + 1:=by rw [Array.size_append];exact hs2
  wp_walk using (wpAny_updateSeq hl rfl (hz:=hs1) (_hz':=hz')),wpAny_loadPart' hl,wpAny_loadPart' hb;exact ⟨_,rfl,h⟩
end
section
variable {X:Cx}{T:Tab}{k:Nat}{cal:Cal}
theorem nY:MtM X "list.extend" (λx vs H Q=>∃ l b xs zs,x=.ref l/\vs=[.ref b]/\H l=some (.lst xs)/\(SqL X.K H b zs \/ SqT X.K H b zs)/\xs.length + zs.length <= sizeLine/\Q .non (upd H l (.lst (xs ++ zs)))):=by
 intro pins s σ H x vs v us Q I rx rv h
 obtain ⟨l,b,xs,zs,rfl,rfl,hH,hB,hz,q⟩:=h
 cases rx
 obtain ⟨u,rfl,ru⟩:=rv.one
 cases ru
 obtain ⟨z,its,n,r,hl,e⟩:=I.lstM hH
 have fin:∀ its2:List Value,ar zs its2->EP X pins σ Q .none { s with heap:=s.heap.update l (Obj.mapSeq λx=>x ++ its2.toArray),toks:=s.toks }:=λits2 r2 =>
  ⟨.non,_,I.lset (its':=its ++ its2) hH e (by simp) (r.append r2) (by rw [List.length_append];omega),rfl,q⟩
 rcases hB with hB|hB
 ·obtain ⟨its2,r2,pl,z2⟩:=I.list hB
  have hl2:=r2.length
  have hsz:its.toArray.size + its2.toArray.size <= sizeLine:=by rw [List.size_toArray,List.size_toArray];omega
  have hlong:¬ (!its.toArray.isEmpty&&Builtin.List.listTooLong (its.toArray.size + its2.toArray.size))=true:=by
   rw [l8 hsz,Bool.and_false]
   exact Bool.false_ne_true
  obtain ⟨⟨cls,dd,data,sl⟩,ho,hc,n2,hd⟩:=pl.isList
  simp only at hc hd
  subst hc hd
  exact call_meets PySem.F.slot_list_extend ⟨_,e,rfl⟩ PySem.F.entry_list_extend (PySem.F.args_list_extend_2 _ _) (lJ l its.toArray n b its2.toArray n2 dd sl hlong (by rw [List.size_toArray];omega) (by omega)) ⟨e,ho,fin its2 r2⟩
 ·obtain ⟨its2,r2,pl,z2⟩:=I.tuple hB
  have hl2:=r2.length
  have hsz:its.toArray.size + its2.toArray.size <= sizeLine:=by rw [List.size_toArray,List.size_toArray];omega
  have hlong:¬ (!its.toArray.isEmpty&&Builtin.List.listTooLong (its.toArray.size + its2.toArray.size))=true:=by
   rw [l8 hsz,Bool.and_false]
   exact Bool.false_ne_true
  obtain ⟨⟨cls,dd,data,sl⟩,ho,hc,n2,hd⟩:=pl
  simp only at hc hd
  subst hc hd
  exact call_meets PySem.F.slot_list_extend ⟨_,e,rfl⟩ PySem.F.entry_list_extend (PySem.F.args_list_extend_2 _ _) (lI l its.toArray n b its2.toArray n2 dd sl hlong (by rw [List.size_toArray];omega) (by omega)) ⟨e,ho,fin its2 r2⟩
structure Df (X:Cx):Prop where
 nd:X.N.Nodup
 fn:∀ x,X.fn x=true
 own:PassesOwn (model X.prog X.w) X.A X.env X.xe
 blk:(X.env.blockKind == .function)=true
 stk:X.stack=X.env::X.outer/\X.env.frame=some X.env.locals
theorem b9 {v:Expr} (h:bi v=true) (t:Option Expr) (n:Nat) (env:Env):swapsWith v t n env=pure false:=by
 cases v <;> first|rfl|(simp [bi] at h)
theorem qw {v:Expr}{x:Str}{px:Pos}{n:Nat} (d:Df X) (h:oT X.env.scope x px v=true):swapsWith v (some (.Name x px)) n X.env=pure true:=by
 cases v with
 | ListComp e gs s p =>
  show pure (X.env.blockKind == .function&&X.env.kindOf x == some .local&&px.line == p.line&&!(s.names.any λ(n,k)=>n == x&&(k == .local || k == .cell)))=pure true
  have h':(X.env.scope.names.lookup x == some .local&&px.line == p.line&&!(s.names.any λ(n,k)=>n == x&&(k == .local || k == .cell)))=true:=h
  rw [d.blk,Bool.true_and]
  exact congrArg pure h'
 | _=>simp [oT] at h
theorem PS.imp' {e:Stmt}{t t':TS} (h:PS X e t) (i:∀ D σ H,σ.length=X.N.length->t' D σ H->t D σ H):PS X e t':=λpins s σ H D I q=>h pins s σ H D I (i D σ H I.len q)
theorem ltN {N:List Str}{i:Nat}{x:Str}{σ:St} (h:N[i]?=some x) (hl:σ.length=N.length):i < σ.length:=by rw [hl];exact (List.getElem?_eq_some_iff.mp h).1
theorem b_ {K:PySem.W.Frag}{B:Hp}{O₀ O:List Addr}{ρ:Rho}{σ:St}{D:fm}{o:Option PV}{f:PV->R} (h:cQ K B O₀ O ρ σ D (c9 o f)):∃ v,o=some v/\cQ K B O₀ O ρ σ D (f v):=by
 cases o with
 | none=>exact (show False from h).elim
 | some v=>exact ⟨v,rfl,h⟩
theorem qx {K:PySem.W.Frag}{B:Hp}{O₀ O:List Addr}{ρ:Rho}{σ:St}{D:fm}{o:Option Bool}{f:Bool->R} (h:cQ K B O₀ O ρ σ D (sk o f)):∃ v,o=some v/\cQ K B O₀ O ρ σ D (f v):=by
 cases o with
 | none=>exact (show False from h).elim
 | some v=>exact ⟨v,rfl,h⟩
theorem tq {i:Nat}{me:ME}{σ:St}{H:Hp}{D:fm}{K:PySem.W.Frag} (hi:i < σ.length) (hb:aD me=false) (q:tS K cal (.set i me) D σ H):pS (tE K cal me) (fq i) D σ H:=by
 obtain ⟨B,O₀,O,ρ,st,q⟩:=q
 rw [ex] at q
 obtain ⟨w,e,q⟩:=b_ q
 refine ⟨B,O₀,O,ρ,w,st,e,λu H' s g=>?_⟩
 obtain ⟨st',k'⟩:=(st.mono s).store hi (g.2 hb)
 exact q _ H' O st' k'
theorem Bo {i:Nat}{me:ME}{x:Str}{v:Expr}{px pos:Pos} (d:Df X) (hi:X.N[i]?=some x) (hx:Loc X.env.scope x) (h:PE X v (tE X.K cal me)) (hb:aD me=false) (hc:bi v=true):PS X (.Assign [.Name x px] v pos) (tS X.K cal (.set i me)) :=
 PS.imp' (ft d.nd hi hx h (b9 hc _ _ _) (.inl (d.fn x))) λD σ H hl q=>tq (ltN hi hl) hb q
theorem tu {i:Nat}{me:ME}{σ:St}{H:Hp}{D:fm}{K:PySem.W.Frag} (hi:i < σ.length) (q:tS K cal (.setOwn i me) D σ H):pS (tF K cal me) (fq i) D σ H:=by
 obtain ⟨B,O₀,O,ρ,st,q⟩:=q
 rw [ex] at q
 obtain ⟨w,e,q⟩:=b_ q
 cases w with
 | lst xs =>
  refine ⟨B,O₀,O,ρ,xs,st,e,λp us H' s hp he r=>?_⟩
  obtain ⟨st',k'⟩:=st.storeOwn hi s hp he r
  exact q _ H' _ st' k'
 | _=>exact (show False from q).elim
theorem Bp {i:Nat}{me:ME}{x:Str}{v:Expr}{px pos:Pos} (d:Df X) (hi:X.N[i]?=some x) (hx:Loc X.env.scope x) (h:PE X v (tF X.K cal me)) (hc:bi v=true):PS X (.Assign [.Name x px] v pos) (tS X.K cal (.setOwn i me)) :=
 PS.imp' (ft d.nd hi hx h (b9 hc _ _ _) (.inl (d.fn x))) λD σ H hl q=>tu (ltN hi hl) q
theorem tw {i:Nat}{me:ME}{x:Str}{v:Expr}{p apos cpos pos:Pos} (h:PE X v (tE X.K cal me)) (hn:ah X.N X.env.scope i x=true) (hb:aD me=false) (hs:aq v=true) (hline:(apos.endLine == cpos.line)=true) :
  PS X (.Expr (.Call (.Attribute (.Name x p) "append" apos) [v] [] cpos) pos) (tS X.K cal (.append i me)):=by
 refine (iK (rN PySem.F.plainAttrs_list PySem.F.slot_list_append PySem.F.type_list_append g9 (aL hn) (aU h cE (a_ hs _ _)) rfl (by rw [a_ hs];rfl) hline (a_ hs _ _) rfl) rfl).imp λD σ H q=>?_
 obtain ⟨B,O₀,O,ρ,st,q⟩:=q
 rw [ex] at q
 obtain ⟨w,e,q⟩:=b_ q
 cases hj:(ρ[i]?).join with
 | none=>rw [hj] at q;exact (show False from q).elim
 | some m =>
  rw [hj] at q
  cases m with
  | own xs =>
   dsimp only at q
   split at q
   ·rename_i hl
    obtain ⟨u,eu,a,us,rfl,ha,rs,hO,hB⟩:=aG st hj
    refine ⟨_,eu,.inl ⟨rfl,us,SqL.of ha⟩,B,O₀,O,ρ,w,st,e,λu H1 s g=>⟨a,us,u,rfl,rfl,s _ _ ha,?_,?_⟩⟩
    ·rw [<- rs.length];exact Nat.lt_of_lt_of_le hl (by decide)
    ·obtain ⟨st',k'⟩:=(st.mono s).change (us:=us ++ [u]) (ys:=xs ++ [w]) (join_some hj) eu ((Reps.mono (am s) _ rs).snoc (g.2 hb))
     exact q _ _ _ st' k'
   ·exact (show False from q).elim
  | val _=>exact (show False from q).elim
  | brw _=>exact (show False from q).elim
  | ownD _=>exact (show False from q).elim
  | ownO _ _ _=>exact (show False from q).elim
  | brwO _ _=>exact (show False from q).elim
  | brwD _=>exact (show False from q).elim
theorem tz {i:Nat}{me:ME}{x:Str}{v:Expr}{p apos cpos pos:Pos} (h:PE X v (tE X.K cal me)) (hn:ah X.N X.env.scope i x=true) (hs:aq v=true) (hline:(apos.endLine == cpos.line)=true) :
  PS X (.Expr (.Call (.Attribute (.Name x p) "extend" apos) [v] [] cpos) pos) (tS X.K cal (.extend i me)):=by
 refine (iK (rN PySem.F.plainAttrs_list PySem.F.slot_list_extend PySem.F.type_list_extend nY (aL hn) (aU h cE (a_ hs _ _)) rfl (by rw [a_ hs];rfl) hline (a_ hs _ _) rfl) rfl).imp λD σ H q=>?_
 obtain ⟨B,O₀,O,ρ,st,q⟩:=q
 rw [ex] at q
 obtain ⟨w,e,q⟩:=b_ q
 cases hj:(ρ[i]?).join with
 | none=>rw [hj] at q;exact (show False from q).elim
 | some m =>
  rw [hj] at q
  cases m with
  | own xs =>
   cases hw:br w with
   | none=>rw [hw] at q;exact (show False from q).elim
   | some ys =>
    rw [hw] at q
    dsimp only at q
    split at q
    ·rename_i hl
     obtain ⟨u,eu,a,us,rfl,ha,rs,hO,hB⟩:=aG st hj
     refine ⟨_,eu,.inl ⟨rfl,us,SqL.of ha⟩,B,O₀,O,ρ,w,st,e,λu H1 s g=>?_⟩
     obtain ⟨b,ws,rfl,sq,rw'⟩:=g.1.seq hw
     refine ⟨a,b,us,ws,rfl,rfl,s _ _ ha,sq,?_,?_⟩
     ·rw [<- rs.length,<- rw'.length];exact eK hl
     ·obtain ⟨st',k'⟩:=(st.mono s).change (us:=us ++ ws) (ys:=xs ++ ys) (join_some hj) eu ((Reps.mono (am s) _ rs).append rw')
      exact q _ _ _ st' k'
    ·exact (show False from q).elim
  | val _=>exact (show False from q).elim
  | brw _=>exact (show False from q).elim
  | ownD _=>exact (show False from q).elim
  | ownO _ _ _=>exact (show False from q).elim
  | brwO _ _=>exact (show False from q).elim
  | brwD _=>exact (show False from q).elim
theorem zi {m:Bool}{i:Nat}{x:Str}{px dp pos:Pos} (d:Df X) (hi:X.N[i]?=some x) (hx:Loc X.env.scope x):PS X (.Assign [.Name x px] (.Dict [] [] dp) pos) (tS X.K cal (.newD m i)):=by
 cases m with
 | false =>
  refine PS.imp' (ft d.nd hi hx rT (b9 (v:=.Dict [] [] dp) rfl _ _ _) (.inl (d.fn x))) λD σ H hl q=>?_
  obtain ⟨B,O₀,O,ρ,st,q⟩:=q
  rw [ex] at q
  intro p hp
  obtain ⟨st',k'⟩:=st.storeM (mm:=.ownD (.k [])) (ltN hi hl) (a8 hp (.dK [])) hp (by rw [av];simp) rfl λhB=>⟨p,rfl,av,List.mem_cons_self,hB⟩
  exact q _ _ _ st' k'
 | true =>
  refine PS.imp' (ft d.nd hi hx rU (b9 (v:=.Dict [] [] dp) rfl _ _ _) (.inl (d.fn x))) λD σ H hl q=>?_
  obtain ⟨B,O₀,O,ρ,st,q⟩:=q
  rw [ex] at q
  intro p hp
  obtain ⟨st',k'⟩:=st.storeM (mm:=.ownD (.t [])) (ltN hi hl) (a8 hp (.dT [])) hp (by rw [av];simp) rfl λhB=>⟨p,rfl,av,List.mem_cons_self,hB⟩
  exact q _ _ _ st' k'
theorem zj {i:Nat}{mk me:ME}{x:Str}{v s:Expr}{p spos pos:Pos} (g0:Gf X T k cal) (hk:PE X s (tE X.K cal mk)) (h:PE X v (tE X.K cal me)) (hn:ah X.N X.env.scope i x=true) (hc:bi v=true) :
  PS X (.Assign [.Subscript (.Name x p) s spos] v pos) (tS X.K cal (.dput i mk me)):=by
 have hu:X.A.units + 1 < cLine:=by have:=g0.units;omega
 refine (vG hu (aL hn) hk h (by cases v <;> first|rfl|(simp [bi] at hc))).imp λD σ H q=>?_
 obtain ⟨B,O₀,O,ρ,st,q⟩:=q
 rw [ex] at q
 obtain ⟨w,e,q⟩:=b_ q
 obtain ⟨kv,ek,q⟩:=b_ q
 cases hj:(ρ[i]?).join with
 | none=>rw [hj] at q;exact (show False from q).elim
 | some m =>
  rw [hj] at q
  cases m with
  | ownD d =>
   cases hz:sc? w with
   | none=>rw [hz] at q;exact (show False from q).elim
   | some sz =>
    rw [hz] at q
    dsimp only at q
    cases hd:sg d kv sz with
    | none=>rw [hd] at q;exact (show False from q).elim
    | some d' =>
     rw [hd] at q
     obtain ⟨u,eu,a,rfl,ha,hO,hB⟩:=aG st hj
     refine ⟨B,O₀,O,ρ,w,st,e,λu H1 s1 g1=>⟨_,eu,B,O₀,O,ρ,_,st.mono s1,ek,λuk H2 s2 g2=>?_⟩⟩
     refine ⟨a,_,rfl,by rw [tm hz g1.1];exact ww hd (s2 _ _ (s1 _ _ ha)) g2.1,?_⟩
     obtain ⟨st',k'⟩:=((st.mono s1).mono s2).changeD (ys:=d') (join_some hj) eu
     exact q _ _ _ st' k'
  | val _=>exact (show False from q).elim
  | brw _=>exact (show False from q).elim
  | own _=>exact (show False from q).elim
  | ownO _ _ _=>exact (show False from q).elim
  | brwO _ _=>exact (show False from q).elim
  | brwD _=>exact (show False from q).elim
theorem Bq {me:ME}{v:Expr}{pos:Pos} (h:PE X v (tE X.K cal me)) (hb:aD me=false):PS X (.Return (some v) pos) (tS X.K cal (.ret me)):=by
 refine (iY h).imp λD σ H q=>?_
 obtain ⟨B,O₀,O,ρ,st,q⟩:=q
 rw [ex] at q
 obtain ⟨w,e,q⟩:=b_ q
 exact ⟨B,O₀,O,ρ,w,st,e,λu H' s g=>q u H' (st.keep.trans s) (Rep.mono (aW (af.refl H') λb hb=>.inl (st.sub b hb)) _ (g.2 hb))⟩
theorem tD {i:Nat}{x:Str}{p pos:Pos} (hn:ah X.N X.env.scope i x=true):PS X (.Return (some (.Name x p)) pos) (tS X.K cal (.retOwn i)):=by
 refine (iY (aL hn)).imp λD σ H q=>?_
 obtain ⟨B,O₀,O,ρ,st,q⟩:=q
 rw [ex] at q
 have low:af (aj H O) (aj H O₀):=aW (af.refl H) λb hb=>.inl (st.sub b hb)
 cases hj:(ρ[i]?).join with
 | none=>rw [hj] at q;exact (show False from q).elim
 | some m =>
  rw [hj] at q
  cases m with
  | own xs =>
   obtain ⟨u,eu,a,us,rfl,ha,rs,hO,hB⟩:=aG st hj
   refine ⟨_,eu,q _ H st.keep ?_⟩
   rw [Rep]
   refine ⟨a,us,rfl,SqL.of ?_,Reps.mono low _ rs⟩
   rw [aJ λz=>st.old a z hB]
   exact ha
  | val v =>
   obtain ⟨u,eu,so⟩:=aG st hj
   exact ⟨_,eu,q _ H st.keep (Rep.mono low _ so)⟩
  | brw _=>exact (show False from q).elim
  | ownD kvs =>
   obtain ⟨u,eu,a,rfl,ha,hO,hB⟩:=aG st hj
   refine ⟨_,eu,q _ H st.keep ?_⟩
   rw [Rep]
   refine ⟨a,rfl,.inl ?_⟩
   rw [aJ λz=>st.old a z hB]
   exact ha
  | ownO _ _ _=>exact (show False from q).elim
  | brwO _ _=>exact (show False from q).elim
  | brwD _=>exact (show False from q).elim
theorem CK {c:ME}{a b:List MS}{t:Expr}{x y:List Stmt}{pos:Pos} (hc:PT X t (tT X.K cal c)) (ha:PSs X x (tSs X.K cal a)) (hb:PSs X y (tSs X.K cal b)):PS X (.If t x y pos) (tS X.K cal (.ite c a b)):=by
 refine (re hc ha hb).imp λD σ H q=>?_
 obtain ⟨B,O₀,O,ρ,st,q⟩:=q
 rw [ex] at q
 obtain ⟨w,e,q⟩:=qx q
 refine ⟨B,O₀,O,ρ,w,st,e,λH' s=>?_⟩
 cases w with
 | true=>rw [if_pos rfl] at q ⊢;exact ⟨B,O₀,O,ρ,st.mono s,q⟩
 | false=>rw [if_neg (by simp)] at q ⊢;exact ⟨B,O₀,O,ρ,st.mono s,q⟩
theorem zk {m:MS}{ms:List MS}{st:Stmt}{ss:List Stmt} (h1:PS X st (tS X.K cal m)) (h2:PSs X ss (tSs X.K cal ms)):PSs X (st::ss) (tSs X.K cal (m::ms)):=by
 refine (dG h1 h2).imp λD σ H q=>?_
 obtain ⟨B,O₀,O,ρ,st,q⟩:=q
 refine ⟨B,O₀,O,ρ,st,?_⟩
 rw [exs] at q
 cases e:ex cal m ρ with
 | next ρ'=>rw [e] at q;exact λσ' H' O' st' k=>⟨B,O₀,O',ρ',st',cQ.trans q k⟩
 | brk ρ'=>rw [e] at q;exact q
 | cont ρ'=>rw [e] at q;exact q
 | ret v=>rw [e] at q;exact q
 | bad=>rw [e] at q;exact q
 | retF xs=>rw [e] at q;exact q
 | retT v ρ2=>rw [e] at q;exact q
theorem xC:PSs X [] (tSs X.K cal []):=by
 refine oA.imp λD σ H q=>?_
 obtain ⟨B,O₀,O,ρ,st,q⟩:=q
 rw [exs] at q
 exact q σ H O st .refl
end
end MM
namespace MM
open PySem PySem.Spec PyProof.Rows L2
section
variable {K:PySem.W.Frag}{B H H':Hp}{O₀ O:List Addr}{ρ:Rho}{σ:St}
theorem tG {i j:Nat}{m:MV} (h:sr ρ i=true) (hj:i ≠ j) (e:ρ[j]?=some (some m)):isL m=false:=by
 have:=List.all_eq_true.mp h (some m) (List.mem_of_getElem? (show (ρ.set i none)[j]?=some (some m) by rw [List.getElem?_set_ne hj];exact e))
 simpa using this
theorem gS (st:az K B O₀ O H ρ σ) {j:Nat}{m:MV}{c:Addr} (e:ρ[j]?=some (some m)) (o:dl m=true) (es:σ[j]?=some (some (.ref c))):H c ≠ none:=by
 obtain ⟨w,e1,q⟩:=st.slot j _ e
 rw [es] at e1
 cases e1
 cases m with
 | own zs=>obtain ⟨a,ws,e2,h1,_⟩:=q;cases e2;rw [h1];simp
 | ownD zs=>obtain ⟨a,e2,h1,_⟩:=q;cases e2;rw [h1];simp
 | ownO _ _ _=>obtain ⟨a,l,e2,q⟩:=q;cases e2;obtain ⟨C,dx,gs,h1,_⟩:=q.ob;rw [h1];simp
 | val _=>cases o
 | brw _=>cases o
 | brwD _=>cases o
 | brwO _ _=>cases o
theorem az.changeO (st:az K B O₀ O H ρ σ) {i:Nat}{b:Bool}{fs xs ys:List PV}{a l l':Addr} (e:ρ[i]?=some (some (.ownO b fs xs))) (es:σ[i]?=some (some (.ref a))) (q:b7 K B O H fs xs a l) (kp:∀ c o,c ≠ a->c ≠ l->H c=some o->H' c=some o) (hl:l'=l \/ H l'=none)
  (q':b7 K (λ_=>none) (l'::O.filter λb=>decide (b ≠ l)) H' fs ys a l'):az K B O₀ (l'::O.filter λb=>decide (b ≠ l)) H' (put ρ i (.ownO b fs ys)) σ/\aV B O (l'::O.filter λb=>decide (b ≠ l)) ρ (put ρ i (.ownO b fs ys)) σ σ:=by
 have hi':i < ρ.length:=(List.getElem?_eq_some_iff.mp e).1
 have lB:B l'=none:=hl.elim (λz=>by rw [z];exact q.lB) st.keep.free
 have mem:∀ c,c ≠ l->c ∈ O->c ∈ l'::O.filter λb=>decide (b ≠ l):=λc hc ho=>List.mem_cons_of_mem _ (List.mem_filter.mpr ⟨ho,decide_eq_true hc⟩)
 have keep:af B H':=λc u ec=>kp c u (λz=>by rw [z,q.aB] at ec;cases ec) (λz=>by rw [z,q.lB] at ec;cases ec) (st.keep c u ec)
 have vis:af (aj H O) (aj H' (l'::O.filter λb=>decide (b ≠ l))):=λc u ec=>by
  have hc:c ∉ O:=λz=>by rw [c5 z] at ec;cases ec
  rw [aJ hc] at ec
  rw [aJ]
  ·exact kp c u (λz=>hc (z ▸ q.aO)) (λz=>hc (z ▸ q.lO)) ec
  ·intro z
   rcases List.mem_cons.mp z with z|z
   ·rcases hl with w|w
    ·exact hc (by rw [z,w];exact q.lO)
    ·rw [z,w] at ec;cases ec
   ·exact hc (List.mem_filter.mp z).1
 have oth:∀ (j:Nat) (m:MV) (c:Addr),i ≠ j->ρ[j]?=some (some m)->dl m=true->σ[j]?=some (some (.ref c))->c ≠ a/\c ≠ l:=λj m c hj ej o ec=>⟨λz=>st.apart i j _ m a hj e ej rfl o es (by rw [ec,z]),(st.inn i _ a l e rfl es q.l j m (Ne.symm hj) ej).2 c o ec⟩
 refine ⟨⟨keep,λc hc=>?_,λc hc=>mem c (λz=>st.old c hc (z ▸ q.lB)) (st.sub c hc),st.old,by rw [put_len];exact st.len,λj m ej=>?_,λc d ps qs ad hcd e1 e2 p1 p2 e3 e4=>?_,λk m0 a2 l2 e1 l0 e2 e3 j m hjk ej=>?_⟩,⟨λc hc ho=>mem c (λz=>hc (z ▸ q.lB)) ho,λc hc=>?_,λj zs hbm ej=>?_,put_len,λj gs zs ej=>?_⟩⟩
 ·rcases List.mem_cons.mp hc with rfl|hc
  ·obtain ⟨us,h1,_⟩:=q'.li
   rw [h1]
   simp
  ·obtain ⟨h1,h2⟩:=List.mem_filter.mp hc
   by_cases z:c=a
   ·subst z
    obtain ⟨C,dx,gs,h1,_⟩:=q'.ob
    rw [h1]
    simp
   ·cases eo:H c with
    | none=>exact absurd eo (st.here c h1)
    | some o=>rw [kp c o z (of_decide_eq_true h2) eo];simp
 ·by_cases hj:i=j
  ·subst hj
   rw [ac hi'] at ej
   cases ej
   exact ⟨_,es,a,l',rfl,q'.move (af.refl _) (λ_ h=>h) (λ_ h=>h) q'.aO q'.lO q.aB lB⟩
  ·rw [aa hj] at ej
   obtain ⟨w,ew,qq⟩:=st.slot j m ej
   refine ⟨w,ew,?_⟩
   cases m with
   | val v=>exact Rep.mono vis _ qq
   | own zs =>
    obtain ⟨ad,ws,rfl,q1,q2,q3,q4⟩:=qq
    obtain ⟨n1,n2⟩:=oth j _ ad hj ej rfl ew
    exact ⟨ad,ws,rfl,kp _ _ n1 n2 q1,Reps.mono vis _ q2,mem _ n2 q3,q4⟩
   | ownD zs =>
    obtain ⟨ad,rfl,q1,q3,q4⟩:=qq
    obtain ⟨n1,n2⟩:=oth j _ ad hj ej rfl ew
    exact ⟨ad,rfl,kp _ _ n1 n2 q1,mem _ n2 q3,q4⟩
   | ownO _ _ _=>cases (st.inn i _ a l e rfl es q.l j _ (Ne.symm hj) ej).1
   | brw zs=>obtain ⟨ad,ws,rfl,q1,q2⟩:=qq;exact ⟨ad,ws,rfl,q1,Reps.mono vis _ q2⟩
   | brwD zs=>exact qq
   | brwO gs zs=>obtain ⟨ad,rfl,q1⟩:=qq;exact ⟨ad,rfl,q1.move (af.refl B) vis⟩
 ·have h1:∀ (j:Nat) (zs:MV),(put ρ i (.ownO b fs ys))[j]?=some (some zs)->dl zs=true->∃ zs,ρ[j]?=some (some zs)/\dl zs=true:=λj zs q oz=>by
   by_cases hj:i=j
   ·subst hj;exact ⟨_,e,rfl⟩
   ·rw [aa hj] at q;exact ⟨zs,q,oz⟩
  obtain ⟨q1,e1,p1⟩:=h1 c ps e1 p1
  obtain ⟨q2,e2,p2⟩:=h1 d qs e2 p2
  exact st.apart c d q1 q2 ad hcd e1 e2 p1 p2 e3 e4
 ·have hk:i=k:=by
   cases Nat.decEq i k with
   | isTrue z=>exact z
   | isFalse z =>
    rw [aa z] at e1
    rw [(st.inn i _ a l e rfl es q.l k _ (Ne.symm z) e1).1] at l0
    cases l0
  subst hk
  rw [es] at e2
  cases e2
  rw [q'.l] at e3
  cases e3
  rw [aa (Ne.symm hjk)] at ej
  refine ⟨(st.inn i _ a l e rfl es q.l j m hjk ej).1,λc o ec z=>?_⟩
  rcases hl with w|w
  ·exact (st.inn i _ a l e rfl es q.l j m hjk ej).2 c o ec (by rw [z,w])
  ·exact gS st ej o ec (by rw [z,w])
 ·rcases List.mem_cons.mp hc with rfl|hc
  ·exact .inr lB
  ·exact .inl (List.mem_filter.mp hc).1
 ·have hj:i ≠ j:=λz=>by subst z;rw [ac hi'] at ej;cases ej;cases hbm
  rw [aa hj] at ej
  exact ⟨ej,rfl⟩
 ·by_cases hj:i=j
  ·subst hj
   rw [ac hi'] at ej
   cases ej
   exact ⟨⟨xs,e⟩,rfl⟩
  ·rw [aa hj] at ej
   exact ⟨⟨zs,ej⟩,rfl⟩
theorem az.storeO (st:az K B O₀ O H ρ σ) {i:Nat}{fs:List PV}{a l:Addr} (hi:i < σ.length) (hn:sr ρ i=true) (s:af H H') (ha:H a=none) (hl:H l=none) (q:b7 K (λ_=>none) (a::l::O) H' fs [] a l) :
  az K B O₀ (a::l::O) H' (put ρ i (.ownO false fs [])) (σ.set i (some (.ref a)))/\aV B O (a::l::O) ρ (put ρ i (.ownO false fs [])) σ (σ.set i (some (.ref a))):=by
 have hi':i < ρ.length:=by rw [st.len];exact hi
 have inO:∀ b ∈ O,b ∈ a::l::O:=λb h=>.tail _ (.tail _ h)
 have free:∀ b ∈ a::l::O,b ∈ O \/ H b=none:=λb h=>by
  rcases List.mem_cons.mp h with rfl|h
  ·exact .inr ha
  ·rcases List.mem_cons.mp h with rfl|h
   ·exact .inr hl
   ·exact .inl h
 have vis:af (aj H O) (aj H' (a::l::O)):=aW s free
 refine ⟨⟨st.keep.trans s,λb h=>?_,λb h=>inO b (st.sub b h),st.old,by rw [put_len,List.length_set];exact st.len,λj m ej=>?_,λc d xs ys ad hcd e1 e2 o1 o2 e3 e4=>?_,λk m0 a2 l2 e1 l0 e2 e3 j m hjk ej=>?_⟩,⟨λ_ _ h=>inO _ h,λb h=>(free b h).imp id st.keep.free,λj xs hbm ej=>?_,put_len,λj gs zs ej=>?_⟩⟩
 ·rcases List.mem_cons.mp h with rfl|h
  ·obtain ⟨C,dx,gs,h1,_⟩:=q.ob
   rw [h1]
   simp
  ·rcases List.mem_cons.mp h with rfl|h
   ·obtain ⟨us,h1,_⟩:=q.li
    rw [h1]
    simp
   ·exact λz=>st.here b h (s.free z)
 ·by_cases hj:i=j
  ·subst hj
   rw [ac hi'] at ej
   cases ej
   exact ⟨_,List.getElem?_set_self hi,a,l,rfl,q.move (af.refl _) (λ_ h=>h) (λ_ h=>h) q.aO q.lO (st.keep.free ha) (st.keep.free hl)⟩
  ·rw [aa hj] at ej
   obtain ⟨w,e1,qq⟩:=st.slot j m ej
   refine ⟨w,by rw [List.getElem?_set_ne hj];exact e1,?_⟩
   cases m with
   | val v=>exact Rep.mono vis _ qq
   | own ys=>obtain ⟨a,ws,e2,h1,h2,h3,h4⟩:=qq;exact ⟨a,ws,e2,s _ _ h1,Reps.mono vis _ h2,inO _ h3,h4⟩
   | brw ys=>obtain ⟨a,ws,e2,h1,h2⟩:=qq;exact ⟨a,ws,e2,h1,Reps.mono vis _ h2⟩
   | ownD ys=>obtain ⟨a,e2,h1,h3,h4⟩:=qq;exact ⟨a,e2,s _ _ h1,inO _ h3,h4⟩
   | ownO _ _ _=>cases tG hn hj ej
   | brwD ys=>exact qq
   | brwO gs zs=>obtain ⟨ad,e2,q1⟩:=qq;exact ⟨ad,e2,q1.move (af.refl B) vis⟩
 ·by_cases hc:i=c
  ·subst hc
   rw [List.getElem?_set_self hi] at e3
   cases e3
   rw [aa hcd] at e2
   rw [List.getElem?_set_ne hcd] at e4
   exact gS st e2 o2 e4 ha
  ·by_cases hd:i=d
   ·subst hd
    rw [List.getElem?_set_self hi] at e4
    cases e4
    rw [aa hc] at e1
    rw [List.getElem?_set_ne hc] at e3
    exact gS st e1 o1 e3 ha
   ·rw [aa hc] at e1
    rw [aa hd] at e2
    rw [List.getElem?_set_ne hc] at e3
    rw [List.getElem?_set_ne hd] at e4
    exact st.apart c d _ _ ad hcd e1 e2 o1 o2 e3 e4
 ·have hk:i=k:=by
   cases Nat.decEq i k with
   | isTrue z=>exact z
   | isFalse z =>
    rw [aa z] at e1
    rw [tG hn z e1] at l0
    cases l0
  subst hk
  rw [List.getElem?_set_self hi] at e2
  cases e2
  rw [q.l] at e3
  cases e3
  rw [aa (Ne.symm hjk)] at ej
  refine ⟨tG hn (Ne.symm hjk) ej,λc o ec z=>?_⟩
  rw [List.getElem?_set_ne (Ne.symm hjk)] at ec
  exact gS st ej o ec (by rw [z,hl])
 ·have hj:i ≠ j:=λz=>by subst z;rw [ac hi'] at ej;cases ej;cases hbm
  rw [aa hj] at ej
  exact ⟨ej,List.getElem?_set_ne hj⟩
 ·have hj:i ≠ j:=λz=>by subst z;rw [ac hi'] at ej;cases ej
  rw [aa hj] at ej
  exact ⟨⟨zs,ej⟩,List.getElem?_set_ne hj⟩
theorem pj {F:Hp}{v:PV}{s:Sc}{u:V} (h:sc? v=some s) (r:Rep K F v u):u=s.v:=by
 cases v <;> first|(cases h;done)|(cases h;rw [Rep] at r;exact r)
theorem xD {v:PV}{s:Sc} (h:sc? v=some s):v=s.pv:=by
 cases v <;> first|(cases h;done)|(cases h;rfl)
theorem lK (F:Hp) (s:Sc):Rep K F s.pv s.v:=by
 cases s <;> (show Rep K F _ _;unfold Sc.pv;rw [Rep];rfl)
end
section
variable {X:Cx}{T:Tab}{k:Nat}{cal:Cal}
theorem zl {me:ME}{v:Expr}{pos:Pos} (h:PE X v (tE X.K cal me)) (hb:aD me=false):PS X (.Return (some v) pos) (tS X.K cal (.retT me)):=by
 refine (iY h).imp λD σ H q=>?_
 obtain ⟨B,O₀,O,ρ,st,q⟩:=q
 rw [ex] at q
 obtain ⟨w,e,q⟩:=b_ q
 refine ⟨B,O₀,O,ρ,w,st,e,λu H' s g=>?_⟩
 cases es:sc? w with
 | none=>rw [es] at q;exact (show False from q).elim
 | some sv =>
  rw [es] at q
  rw [pj es (g.2 hb)]
  exact q σ H' O (st.mono s) .refl
theorem zm {i:Nat}{me:ME}{x:Str}{v:Expr}{p fp apos cpos pos:Pos} (g:Gf X T k cal) (h:PE X v (tE X.K cal me)) (hn:ah X.N X.env.scope i x=true) (hb:aD me=false) (hs:aq v=true) (hline:(apos.endLine == cpos.line)=true) :
  PS X (.Expr (.Call (.Attribute (.Attribute (.Name x p) "taken" fp) "append" apos) [v] [] cpos) pos) (tS X.K cal (.appO i me)):=by
 refine (iK (rN PySem.F.plainAttrs_list PySem.F.slot_list_append PySem.F.type_list_append g9 (lG hn) (aU h cE (a_ hs _ _)) rfl (by rw [a_ hs];rfl) hline (a_ hs _ _) rfl) rfl).imp λD σ H q=>?_
 obtain ⟨B,O₀,O,ρ,st,q⟩:=q
 rw [ex] at q
 obtain ⟨w,e,q⟩:=b_ q
 cases hj:(ρ[i]?).join with
 | none=>rw [hj] at q;exact (show False from q).elim
 | some m =>
  rw [hj] at q
  cases m with
  | ownO b fs xs =>
   dsimp only at q
   split at q
   ·rename_i hl
    obtain ⟨u,eu,a,l,rfl,qq⟩:=aG st hj
    obtain ⟨C,dx,gs,h1,h2⟩:=qq.ob
    obtain ⟨us,h3,h4⟩:=qq.li
    obtain ⟨c1,_,c2⟩:=g.cls C h2.cls
    refine ⟨_,eu,a,C,dx,gs,.ref l,rfl,h1,c1,c2,h2.lst,.inl ⟨rfl,us,SqL.of h3⟩,B,O₀,O,ρ,w,st,e,λu H1 s g1=>⟨l,us,u,rfl,rfl,s _ _ h3,?_,?_⟩⟩
    ·rw [<- h4.length];exact Nat.lt_of_lt_of_le hl (by decide)
    ·have st1:=st.mono s
     have q1:=qq.move (am s) (λ_=>s _ _) (λ_=>s _ _) qq.aO qq.lO qq.aB qq.lB
     have vis:af (aj H1 O) (aj (upd H1 l (.lst (us ++ [u]))) (l::O.filter λb=>decide (b ≠ l))):=λc o ec=>by
      have hc:c ∉ O:=λz=>by rw [c5 z] at ec;cases ec
      rw [aJ hc] at ec
      have hn:c ∉ l::O.filter λb=>decide (b ≠ l):=λz=>by
       rcases List.mem_cons.mp z with z|z
       ·exact hc (z ▸ qq.lO)
       ·exact hc (List.mem_filter.mp z).1
      have hcl:c ≠ l:=λz=>hc (z ▸ qq.lO)
      rw [aJ hn,ak hcl]
      exact ec
     obtain ⟨st',k'⟩:=st1.changeO (ys:=xs ++ [w]) (l':=l) (H':=upd H1 l (.lst (us ++ [u]))) (join_some hj) eu q1 (λc o _ n2 ec=>by rw [ak n2];exact ec) (.inl rfl)
      ⟨⟨C,dx,gs,by rw [ak qq.ne];exact s _ _ h1,(h2.mono (am s)).mono vis⟩,⟨_,av,Reps.mono vis _ ((Reps.mono (am s) _ h4).snoc (g1.2 hb))⟩,List.mem_cons_of_mem _ (List.mem_filter.mpr ⟨qq.aO,decide_eq_true qq.ne⟩),List.mem_cons_self,rfl,rfl,qq.ne⟩
     exact q _ _ _ st' k'
   ·exact (show False from q).elim
  | _=>exact (show False from q).elim
theorem kI {K:PySem.W.Frag}{O:List Addr}{H:Hp}{a l:Addr} (ha:a ∈ O) (hl:l ∈ O):∀ {as:List PV}{ws:List V},Reps K (aj H O) as ws->Paired (cJ K O (bn H [a,l])) (as.map .val) ws
 | [],ws,r=>by
  have e:ws=[]:=by simpa only [Reps] using r
  subst e
  exact .nil
 | v::as,ws,r=>by
  rw [Reps] at r
  obtain ⟨u,t,rfl,h1,h2⟩:=r
  exact .cons (by show Rep K (aj (bn H [a,l]) O) v u;rw [c4 ha hl];exact h1) (kI ha hl h2)
noncomputable def tTk (K:PySem.W.Frag) (cal:Cal) (f i:Nat) (ms:List ME):TE:=λσ H Q=>∃ B O₀ O ρ b fs xs vs v ys,az K B O₀ O H ρ σ/\(ρ[i]?).join=some (.ownO b fs xs)/\evs cal ms ρ=some vs/\cal (f + 3000) (.ownO true fs xs::vs.map .val)=some (.tup [Sc.pv v,.lst ys]) /\
 ∀ H' O',az K B O₀ O' H' (put ρ i (.ownO b fs ys)) σ->aV B O O' ρ (put ρ i (.ownO b fs ys)) σ σ->Q v.v H'
theorem pk {f i:Nat}{ms:List ME}{x m:Str}{es:List Expr}{p ap pos:Pos} (g:Gf X T k cal) (hf:T.ms[f]?=some (some m)) (hM:m ∈ jo) (hn:ah X.N X.env.scope i x=true) (ha:PA X es (tEs X.K cal ms)) (hb:(ms.all λm=>!aD m)=true) (hs:es.all aq=true) (hl:ms.length=es.length) (hline:(ap.endLine == pos.line)=true) (h30:decide (es.length < 30)=true):PE X (.Call (.Attribute (.Name x p) m ap) es [] pos) (tTk X.K cal f i ms):=by
 by_cases hC:∃ C,IsC X.K C
 ·obtain ⟨C,hC⟩:=hC
  have one:∀ C',IsC X.K C'->C'=C:=λC' h=>by
   have:=h.symm.trans hC
   cases this
   rfl
  obtain ⟨fa,fd,ps,h1,h3,F⟩:=g.methsT f m hf C hC
  have key:∀ σ H Q,tTk X.K cal f i ms σ H Q->l5 C m (spT X.K cal f) [] E0 (iW i) (tEs X.K cal ms) σ H Q:=λσ H Q q=>by
   obtain ⟨B,O₀,O,ρ,b,fs,xs,vs,v,ys,st,hj,e1,e2,q⟩:=q
   obtain ⟨u,eu,a,l,rfl,qq⟩:=aG st hj
   obtain ⟨C',dx,gs,f1,f2⟩:=id qq.ob
   have hCC:=one C' f2.cls
   subst hCC
   refine ⟨_,eu,a,dx,gs,rfl,f1,f2.no m hM,B,O₀,O,ρ,vs,st,e1,λus' H1 s1 g1=>?_⟩
   show spT X.K cal f (V.ref a::(us' ++ [])) H1 Q E0
   rw [List.append_nil]
   have q1:b7 X.K B O H1 fs xs a l:=qq.move (am s1) (λ_=>s1 _ _) (λ_=>s1 _ _) qq.aO qq.lO qq.aB qq.lB
   refine ⟨O,a,l,fs,xs,vs.map .val,us',v,ys,rfl,aT s1 st.here,q1.move (af.refl _) (λ_ h=>h) (λ_ h=>h) qq.aO qq.lO rfl rfl,kI qq.aO qq.lO (g1.2 hb),e2,λl' H' kp hl' q2=>?_⟩
   obtain ⟨st',k'⟩:=(st.mono s1).changeO (join_some hj) eu q1 kp hl' q2
   exact q _ _ st' k'
  cases es with
  | nil =>
   refine (i5 (aL hn) (g.cls C hC).1 h1 F g.room h3 .nil eG (d6 hs h30 hline)).imp λσ H Q q=>?_
   obtain ⟨u,eu,a,dx,gs,e,f1,f2,B,O₀,O,ρ,vs,st,e1,q⟩:=key σ H Q q
   cases ms with
   | nil =>
    simp only [evs,Option.some.injEq] at e1
    subst e1
    exact ⟨u,eu,a,dx,gs,e,f1,f2,q [] H (af.refl H) ⟨.nil,λ_=>.nil⟩⟩
   | cons _ _=>cases hl
  | cons e es =>
   simp only [List.all_cons,Bool.and_eq_true] at hs
   exact (lb (aL hn) (g.cls C hC).1 h1 F g.room h3 .nil eG ha (a_ hs.1 _ _) (aR hs.2) (d6 (by simp [hs]) h30 hline)).imp key
 ·exact λpins s σ H Q I q=>by
   obtain ⟨B,O₀,O,ρ,b,fs,xs,vs,v,ys,st,hj,_⟩:=q
   obtain ⟨u,eu,a,l,rfl,qq⟩:=aG st hj
   obtain ⟨C',dx,gs,f1,f2⟩:=id qq.ob
   exact absurd ⟨C',f2.cls⟩ hC
noncomputable def xE (ρ:Rho) (i:Nat) (m:MV) (v:PV):Option Nat->R
 | some j=>if i=j then .bad else .next (put (put ρ i m) j (.val v))
 | none=>.next (put ρ i m)
theorem kJ {B:Hp}{O₀ O:List Addr}{ρ:Rho}{σ:St}{D:fm}{j:Option Nat}{i f:Nat}{ms:List ME} (q:cQ X.K B O₀ O ρ σ D (ex cal (.takeO j i f ms) ρ)):∃ b fs xs vs v ys,(ρ[i]?).join=some (.ownO b fs xs)/\evs cal ms ρ=some vs/\cal (f + 3000) (.ownO true fs xs::vs.map .val)=some (.tup [Sc.pv v,.lst ys]) /\
  cQ X.K B O₀ O ρ σ D (xE ρ i (.ownO b fs ys) v.pv j):=by
 rw [ex] at q
 cases hj:(ρ[i]?).join with
 | none=>rw [hj] at q;exact (show False from q).elim
 | some m =>
  rw [hj] at q
  cases m with
  | ownO b fs xs =>
   dsimp only at q
   split at q
   ·rename_i v ys e
    rw [Option.bind_eq_some_iff] at e
    obtain ⟨vs,e1,e2⟩:=e
    cases es:sc? v with
    | none=>rw [es] at q;exact (show False from q).elim
    | some sv =>
     rw [es] at q
     have hv:=xD es
     subst hv
     cases j <;> exact ⟨b,fs,xs,vs,sv,ys,rfl,e1,e2,q⟩
   ·exact (show False from q).elim
  | _=>exact (show False from q).elim
theorem wB {i j f:Nat}{ms:List ME}{x:Str}{v:Expr}{px pos:Pos} (d:Df X) (hi:X.N[j]?=some x) (hx:Loc X.env.scope x) (h:PE X v (tTk X.K cal f i ms)) (hc:bi v=true):PS X (.Assign [.Name x px] v pos) (tS X.K cal (.takeO (some j) i f ms)) :=
 PS.imp' (ft d.nd hi hx h (b9 hc _ _ _) (.inl (d.fn x))) λD σ H hl q=>by
  obtain ⟨B,O₀,O,ρ,st,q⟩:=q
  obtain ⟨b,fs,xs,vs,w,ys,e1,e2,e3,q⟩:=kJ q
  refine ⟨B,O₀,O,ρ,b,fs,xs,vs,w,ys,st,e1,e2,e3,λH' O' st' k'=>?_⟩
  simp only [xE] at q
  split at q
  ·exact (show False from q).elim
  ·obtain ⟨st2,k2⟩:=st'.store (ltN hi hl) (lK (K:=X.K) _ w)
   exact q _ _ _ st2 (k'.trans k2)
theorem wC {i f:Nat}{ms:List ME}{v:Expr}{pos:Pos} (h:PE X v (tTk X.K cal f i ms)) (hs:bi v=true):PS X (.Expr v pos) (tS X.K cal (.takeO none i f ms)):=by
 refine (iK h (by cases v <;> first|rfl|(cases hs;done))).imp λD σ H q=>?_
 obtain ⟨B,O₀,O,ρ,st,q⟩:=q
 obtain ⟨b,fs,xs,vs,w,ys,e1,e2,e3,q⟩:=kJ q
 exact ⟨B,O₀,O,ρ,b,fs,xs,vs,w,ys,st,e1,e2,e3,λH' O' st' k'=>q _ _ _ st' k'⟩
theorem tH {c r o:V}{l:Addr}:(mG c r o l).lookup ("hole_count":Str)=some c/\(mG c r o l).lookup ("ribbons":Str)=some r/\(mG c r o l).lookup ("opener":Str)=some o/\(mG c r o l).lookup ("taken":Str)=some (.ref l)/\∀ m ∈ jo,(mG c r o l).lookup m=none:=by
 unfold mG
 refine ⟨?_,?_,?_,?_,λm hm=>?_⟩
 ·rw [aE,if_neg (by decide +kernel),aE,if_neg (by decide +kernel),aE,if_neg (by decide +kernel),aE,if_pos rfl]
 ·rw [aE,if_neg (by decide +kernel),aE,if_neg (by decide +kernel),aE,if_pos rfl]
 ·rw [aE,if_neg (by decide +kernel),aE,if_pos rfl]
 ·rw [aE,if_pos rfl]
 ·have ne:∀ x ∈ (["taken","opener","ribbons","hole_count"]:List Str),m ≠ x:=λx hx z=>by
   subst z
   exact absurd hx (by revert m;decide +kernel)
  rw [aE,if_neg (ne _ (by simp)),aE,if_neg (ne _ (by simp)),aE,if_neg (ne _ (by simp)),aE,if_neg (ne _ (by simp))]
  rfl
theorem pp {vs fs:List PV} (h:qm vs=some fs):∃ c r o,(vs=[.tup [c,r],o] \/ vs=[.tup [c,r]]/\o=.str "weaver")/\fs=[c,r,o]:=by
 unfold qm at h
 split at h
 ·cases h;exact ⟨_,_,_,.inl rfl,rfl⟩
 ·cases h;exact ⟨_,_,_,.inr ⟨rfl,rfl⟩,rfl⟩
 ·cases h
theorem tI {K:PySem.W.Frag}{B H H1:Hp}{O₀ O:List Addr}{ρ:Rho}{σ:St}{D:fm}{i:Nat}{c r o:PV}{C a dx la:Addr}{ts:List V}{uo:V} (hi:i < σ.length) (hC:IsC K C) (hn:sr ρ i=true) (st:az K B O₀ O H ρ σ) (s1:af H H1) (q:cQ K B O₀ O ρ σ D (.next (put ρ i (.ownO false [c,r,o] []))))
  (ht:aj H1 O la=some (.tup ts)) (rt:Reps K (aj H1 O) [c,r] ts) (ro:Rep K (aj H1 O) o uo) (na:H1 a=none) (nd:H1 dx=none):spI K C [.ref a,.ref la,uo] (upd (upd H1 dx (.own a)) a (.ins C dx [])) (λv H2=>v=.non/\D.nx (σ.set i (some (.ref a))) H2) E0:=by
 rw [Reps] at rt
 obtain ⟨uc,r3,rfl,rc,rt⟩:=rt
 rw [Reps] at rt
 obtain ⟨ur,r4,rfl,rr,rt⟩:=rt
 rw [Reps] at rt
 subst rt
 have s2:af H1 (upd (upd H1 dx (.own a)) a (.ins C dx [])):=λb u eb=>by rw [ak (aX eb na),ak (aX eb nd)];exact eb
 refine ⟨a,dx,la,uc,ur,uo,rfl,av,s2.seqT (SqT.of (bb H1 O _ _ ht)),λl H' nl ea el kp=>⟨rfl,?_⟩⟩
 have hla:a ≠ l:=λz=>by rw [<- z,av] at nl;cases nl
 have nl1:H1 l=none:=s2.free nl
 have s3:af H1 H':=λb u eb=>kp b u (aX eb na) (s2 b u eb)
 have vis:af (aj H1 O) (aj H' (a::l::O)):=aW s3 λb h=>by
  rcases List.mem_cons.mp h with rfl|h
  ·exact .inr na
  ·rcases List.mem_cons.mp h with rfl|h
   ·exact .inr nl1
   ·exact .inl h
 obtain ⟨f1,f2,f3,f4,f5⟩:=tH (c:=uc) (r:=ur) (o:=uo) (l:=l)
 have hf:∀ (n:Nat) (x:Str) (v:PV),gd[n]?=some x->([c,r,o]:List PV)[n]?=some v->∃ u,(mG uc ur uo l).lookup x=some u/\Rep K (aj H' (a::l::O)) v u:=λn x v en evv=>by
  match n,en,evv with
  | 0,en,evv=>cases en;cases evv;exact ⟨uc,f1,Rep.mono vis _ rc⟩
  | 1,en,evv=>cases en;cases evv;exact ⟨ur,f2,Rep.mono vis _ rr⟩
  | 2,en,evv=>cases en;cases evv;exact ⟨uo,f3,Rep.mono vis _ ro⟩
 obtain ⟨st',k'⟩:=st.storeO (fs:=[c,r,o]) hi hn (s1.trans s3) (s1.free na) (s1.free nl1) ⟨⟨C,dx,_,ea,hC,hf,f4,f5⟩,⟨[],el,.nil⟩,List.mem_cons_self,List.mem_cons_of_mem _ List.mem_cons_self,rfl,rfl,hla⟩
 exact q _ _ _ st' k'
theorem Br {i:Nat}{ms:List ME}{e:Expr}{es:List Expr}{x:Str}{px p cp pos:Pos} (g:Gf X T k cal) (d:Df X) (hi:X.N[i]?=some x) (hx:Loc X.env.scope x) (hg:glB X.env.scope ("Table":Str)=true) (ha:PA X (e::es) (tEs X.K cal ms)) (hb:(ms.all λm=>!aD m)=true) (hs:(e::es).all aq=true) (hln:ms.length=(e::es).length) :
  PS X (.Assign [.Name x px] (.Call (.Name ("Table":Str) p) (e::es) [] cp) pos) (tS X.K cal (.mkO i ms)):=by
 by_cases hL:cal 4000 [] ≠ none
 ·obtain ⟨C,hC,hm,fa,fd,ps,M,hbd,F,dv,hbl,hdv⟩:=g.ini hL
  simp only [List.all_cons,Bool.and_eq_true] at hs
  cases es with
  | nil =>
   refine PS.imp' (ft d.nd hi hx (oF M F (g.lvl hL) (da hg) hm hbl hdv eG ha (by decide) (a_ hs.1 _ _) (aR hs.2)) (b9 (v:=.Call (.Name ("Table":Str) p) [e] [] cp) rfl _ _ _) (.inl (d.fn x))) λD σ H hl q=>?_
   obtain ⟨B,O₀,O,ρ,st,q⟩:=q
   rw [ex] at q
   cases ev1:(evs cal ms ρ).bind qm with
   | none=>rw [ev1] at q;exact (show False from q).elim
   | some fs =>
    rw [ev1] at q
    dsimp only at q
    split at q
    ·rename_i c0
     rw [Option.bind_eq_some_iff] at ev1
     obtain ⟨vs,e1,e2⟩:=ev1
     obtain ⟨c,r,o,hv,rfl⟩:=pp e2
     have hvl:=gO e1
     rcases hv with rfl|⟨rfl,rfl⟩
     ·rw [hln] at hvl
      simp at hvl
     ·refine ⟨B,O₀,O,ρ,_,st,e1,λus H1 s1 g1 a dx na nd ne=>?_⟩
      have rs:=g1.2 hb
      rw [Reps] at rs
      obtain ⟨ut,r1,rfl,rt,rs⟩:=rs
      rw [Reps] at rs
      subst rs
      rw [Rep] at rt
      obtain ⟨la,ts,rfl,ht,rt⟩:=rt
      exact tI (ltN hi hl) hC c0.1 st s1 q ht rt (by rw [Rep]) na nd
    ·exact (show False from q).elim
  | cons e' es =>
   refine PS.imp' (ft d.nd hi hx (oF M F (g.lvl hL) (da hg) hm hbd .nil eG ha (by decide) (a_ hs.1 _ _) (aR (by simpa using hs.2))) (b9 (v:=.Call (.Name ("Table":Str) p) (e::e'::es) [] cp) rfl _ _ _) (.inl (d.fn x))) λD σ H hl q=>?_
   obtain ⟨B,O₀,O,ρ,st,q⟩:=q
   rw [ex] at q
   cases ev1:(evs cal ms ρ).bind qm with
   | none=>rw [ev1] at q;exact (show False from q).elim
   | some fs =>
    rw [ev1] at q
    dsimp only at q
    split at q
    ·rename_i c0
     rw [Option.bind_eq_some_iff] at ev1
     obtain ⟨vs,e1,e2⟩:=ev1
     obtain ⟨c,r,o,hv,rfl⟩:=pp e2
     have hvl:=gO e1
     rcases hv with rfl|⟨rfl,rfl⟩
     ·refine ⟨B,O₀,O,ρ,_,st,e1,λus H1 s1 g1 a dx na nd ne=>?_⟩
      have rs:=g1.2 hb
      rw [Reps] at rs
      obtain ⟨ut,r1,rfl,rt,rs⟩:=rs
      rw [Reps] at rs
      obtain ⟨uo,r2,rfl,ro,rs⟩:=rs
      rw [Reps] at rs
      subst rs
      rw [Rep] at rt
      obtain ⟨la,ts,rfl,ht,rt⟩:=rt
      exact tI (ltN hi hl) hC c0.1 st s1 q ht rt ro na nd
     ·rw [hln] at hvl
      simp at hvl
    ·exact (show False from q).elim
 ·exact λpins s σ H D I q=>by
   obtain ⟨B,O₀,O,ρ,st,q⟩:=q
   rw [ex] at q
   cases ev1:(evs cal ms ρ).bind qm with
   | none=>rw [ev1] at q;exact (show False from q).elim
   | some fs =>
    rw [ev1] at q
    dsimp only at q
    rw [if_neg λz=>hL z.2] at q
    exact (show False from q).elim
end
end MM
namespace MM
open PySem PySem.Spec PyProof.Rows L2
section
variable {X:Cx}{T:Tab}{k:Nat}{cal:Cal}
theorem Gf.nox (g:Gf X T k cal):Gf X.nox T k cal:=by cases g;constructor <;> assumption
theorem Gf.unnox (g:Gf X.nox T k cal):Gf X T k cal:=by cases g;constructor <;> assumption
theorem zn {st:Stmt}{t:TS} (h:PS X.nox st t):PS X st t:=λpins s σ H D I hw=>wpAny_mono (h pins s σ H D (I.wish _) hw) (λ_ _ q=>q.unwish) λ_ _ z=>False.elim z
theorem Df.nox (d:Df X):Df X.nox:=⟨d.nd,d.fn,PassesOwn.never,d.blk,d.stk⟩
theorem gi (g:Gf X T k cal) {c:Str} (h:T.es.contains c=true):∃ C ms,X.mg c=some (.ref C)/\dN X.K C ms=true/\jm X.K C=true/\PySem.W.kitOne X.K (.ref C) (.type "ValueError")=some true /\
  ∀ d D,T.es.contains d=true->X.mg d=some (.ref D)->(Value.ref C::ms).contains (.ref D)=fW c d/\PySem.W.kitOne X.K (.ref C) (.ref D)=some (fW c d):=by
 have e:=g.errs
 unfold mH at e
 rw [Bool.and_eq_true,List.all_eq_true] at e
 have q:=e.2 c (List.contains_iff_mem.mp h)
 split at q
 ·rename_i C hC
  split at q
  ·rename_i ms hm
   simp only [Bool.and_eq_true,beq_iff_eq,List.all_eq_true] at q
   refine ⟨C,ms,g.mgs c _ hC,q.1.1.1,q.1.1.2,q.1.2,λd D hd hD=>?_⟩
   have z:=q.2 d (List.contains_iff_mem.mp hd)
   unfold A2 at z
   split at z
   ·rename_i D' hD'
    have w:=g.mgs d _ hD'
    rw [hD] at w
    cases w
    simp only [Bool.and_eq_true,beq_iff_eq] at z
    exact z
   ·cases z
  ·cases q
 ·cases q
theorem tJ (g:Gf X T k cal):X.mg ("ValueError":Str)=none:=by
 have e:=g.errs
 unfold mH at e
 rw [Bool.and_eq_true,beq_iff_eq] at e
 exact g.mgs _ _ e.1
theorem tK:bootBuiltins ("ValueError":Str)=some (.type "ValueError"):=by decide +kernel
theorem tL:bootBuiltins ("isinstance":Str)=some (.builtin "isinstance"):=by decide +kernel
noncomputable def nZ (ρ:Rho) (σ:St):Prop:=∀ (i:Nat) (n:Int),(ρ[i]?).join=some (MV.val (PV.int n))->σ[i]?=some (some (V.int n))
noncomputable def tM (h:HH) (σ:St) (u:V):St:=match h.e with
 | none=>σ.set h.i (some u)
 | some k=>(σ.set h.i (some u)).set k none
theorem xF (g:Gf X T k cal) {e:Option Nat}{a:HA}{v:Expr} (hc:yI T.es X.N X.env.scope e a v=true):∃ t:Addr->Addr->Obj->TE,(∀ c C ea oe,T.es.contains c=true->X.mg c=some (.ref C)->oe.cls=.ref C->PE (X.within ea oe) v (t C ea oe))/\bi v=true/\aq v=true /\
  ∀ c C ea oe ρ σ H Q s,T.es.contains c=true->X.mg c=some (.ref C)->oe.cls=.ref C->(∀ k,e=some k->σ[k]?=some (some (.ref ea)))->nZ ρ σ->a.val c ρ=some s->Q s.v H->t C ea oe σ H Q:=by
 induction a generalizing v with
 | cst w =>
  obtain ⟨s0,e1,e2⟩:=au hc
  have e2:=of_decide_eq_true e2
  rcases v_ e1 with ⟨b,j,p,rfl,rfl⟩|⟨x,j,p,rfl,rfl⟩
  ·refine ⟨λ_ _ _=>tC (.bl b),λ_ _ _ _ _ _ _=>xj,rfl,rfl,λc C ea oe ρ σ H Q s _ _ _ _ _ hs q=>?_⟩
   have:s=.bl b:=by
    have hs:sc? w=some s:=hs
    rw [e2] at hs
    cases hs
    rfl
   subst this
   exact q
  ·refine ⟨λ_ _ _=>tC (.str x),λ_ _ _ _ _ _ _=>m8,rfl,rfl,λc C ea oe ρ σ H Q s _ _ _ _ _ hs q=>?_⟩
   have:s=.str x:=by
    have hs:sc? w=some s:=hs
    rw [e2] at hs
    cases hs
    rfl
   subst this
   exact q
 | isi dn =>
  obtain ⟨⟨en,d2⟩,e1,hc1⟩:=au hc
  obtain ⟨ke,e2,hc2⟩:=au hc1
  subst e2
  simp only [Bool.and_eq_true,beq_iff_eq,Bool.or_eq_true] at hc2
  obtain ⟨⟨⟨⟨⟨h1,rfl⟩,h3⟩,h4⟩,h5⟩,h6⟩:=hc2
  obtain ⟨p,p1,p2,pos,rfl⟩:=v9 e1
  have hi:X.mg ("isinstance":Str)=none:=g.blt _ (by simp [fH])
  have key:∃ (dv:V) (dx:Value),(∀ ea oe,PE (X.within ea oe) (.Name d2 p2) (tC dv))/\(∀ u,aw dv u->u=dx)/\∀ c C,T.es.contains c=true->X.mg c=some (.ref C)->PySem.W.kitOne X.K (.ref C) dx=some (d2 == ("ValueError":Str) || fW c d2):=by
   rcases h6 with h6|h6
   ·obtain ⟨D,ds,m1,_,_,_,_⟩:=gi g h6
    refine ⟨.ref D,.ref D,λea oe=>ou (X:=X.within ea oe) (v:=.ref D) (da (X:=X.within ea oe) h3) m1 rfl (cM h4).1,λu z=>z,λc C hc hm=>?_⟩
    obtain ⟨C',ms,m2,_,_,_,m3⟩:=gi g hc
    rw [hm] at m2
    cases m2
    have hv:(d2 == ("ValueError":Str))=false:=by
     rw [beq_eq_false_iff_ne]
     intro z
     rw [z,tJ g] at m1
     cases m1
    rw [hv,Bool.false_or]
    exact (m3 _ D h6 m1).2
   ·have h6:d2="ValueError":=h6
    subst h6
    have mv:=tJ g
    refine ⟨.ty "ValueError",.type "ValueError",λea oe=>ow (X:=X.within ea oe) (x:="ValueError") (v:=.ty "ValueError") (da (X:=X.within ea oe) h3) mv tK rfl,λu z=>z,λc C hc hm=>?_⟩
    obtain ⟨C',ms,m2,_,_,m3,_⟩:=gi g hc
    rw [hm] at m2
    cases m2
    rw [m3,beq_self_eq_true,Bool.true_or]
  obtain ⟨dv,dx,kp,kr,kk⟩:=key
  refine ⟨λC ea _=>tCB (λus H Q=>∃ y c b,us=[.ref ea,y]/\(∀ u,aw y u->u=c)/\PySem.W.kitOne X.K (.ref C) c=some b/\Q (.bl b) H) (i4 (iW ke) (i4 (tC dv) l4)),λc C ea oe hc hm ho=>?_,rfl,rfl,λc C ea oe ρ σ H Q s hc hm ho hk _ hs q=>?_⟩
  ·obtain ⟨C',ms,m2,m3,m4,_,_⟩:=gi g hc
   rw [hm] at m2
   cases m2
   exact fz (X:=X.within ea oe) (nK m3 m4 ho) (da (X:=X.within ea oe) h5) hi tL (aU (aL (X:=X.within ea oe) h1) (aU (kp ea oe) cE))
  ·have hs:some (Sc.bl (d2 == ("ValueError":Str) || fW c d2))=some s:=hs
   cases hs
   exact ⟨_,hk ke rfl,dv,dx,_,rfl,kr,kk c C hc hm,q⟩
 | inc i m=>cases hc
 | orI a b ih1 ih2=>cases hc
theorem tN (g:Gf X T k cal) {e:Option Nat}:∀ {as:List HA}{vs:List Expr},sJ T.es X.N X.env.scope e as vs=true->∃ t:Addr->Addr->Obj->TA,(∀ c C ea oe,T.es.contains c=true->X.mg c=some (.ref C)->oe.cls=.ref C->PA (X.within ea oe) vs (t C ea oe)) /\
  ∀ c C ea oe ρ σ H Q ss,T.es.contains c=true->X.mg c=some (.ref C)->oe.cls=.ref C->(∀ k,e=some k->σ[k]?=some (some (.ref ea)))->nZ ρ σ->HA.vals c ρ as=some ss->Q (ss.map Sc.v) H->t C ea oe σ H Q
 | [],[],_=>⟨λ_ _ _=>l4,λ_ _ _ _ _ _ _=>cE,λc C ea oe ρ σ H Q ss _ _ _ _ _ hs q=>by
   have hs:some ([]:List Sc)=some ss:=hs
   cases hs
   exact q⟩
 | [],_::_,z=>by cases z
 | _::_,[],z=>by cases z
 | a::as,v::vs,hc=>by
  obtain ⟨c1,c2⟩:=Bool.and_eq_true_iff.mp hc
  obtain ⟨t1,p1,_,ns,q1⟩:=xF g c1
  obtain ⟨t2,p2,q2⟩:=tN g c2
  refine ⟨λC ea oe=>i4 (t1 C ea oe) (t2 C ea oe),λc C ea oe hc hm ho=>aU (p1 c C ea oe hc hm ho) (p2 c C ea oe hc hm ho) (a_ ns vs _),λc C ea oe ρ σ H Q ss hc hm ho hk hρ hs q=>?_⟩
  have hs:((a.val c ρ).bind λs=>(HA.vals c ρ as).map (s::·))=some ss:=hs
  obtain ⟨s,e1,e2⟩:=Option.bind_eq_some_iff.mp hs
  obtain ⟨ss',e3,rfl⟩:=Option.map_eq_some_iff.mp e2
  exact q1 c C ea oe ρ σ H _ s hc hm ho hk hρ e1 (q2 c C ea oe ρ σ H _ ss' hc hm ho hk hρ e3 q)
theorem Bs (g:Gf X T k cal) {e:Option Nat}{a:HE}{v:Expr} (hc:AZ T.es X.N X.env.scope e a v=true):∃ t:Addr->Addr->Obj->TE,(∀ c C ea oe,T.es.contains c=true->X.mg c=some (.ref C)->oe.cls=.ref C->PE (X.within ea oe) v (t C ea oe))/\bi v=true /\
  ∀ c C ea oe ρ σ H Q w,T.es.contains c=true->X.mg c=some (.ref C)->oe.cls=.ref C->(∀ k,e=some k->σ[k]?=some (some (.ref ea)))->nZ ρ σ->a.val c ρ=some w->(∀ u H2,af H H2->(∀ O,(∀ a ∈ O,H a ≠ none)->Rep X.K (aj H2 O) w u)->Q u H2)->t C ea oe σ H Q:=by
 cases a with
 | one a =>
  obtain ⟨t,p,n,_,q⟩:=xF g hc
  refine ⟨t,p,n,λc C ea oe ρ σ H Q w hc hm ho hk hρ hs hq=>?_⟩
  obtain ⟨s,e1,rfl⟩:=Option.map_eq_some_iff.mp (show (a.val c ρ).map Sc.pv=some w from hs)
  exact q c C ea oe ρ σ H Q s hc hm ho hk hρ e1 (hq _ H (af.refl H) λO _=>lH X.K _ s)
 | lst as =>
  obtain ⟨⟨xs,lp⟩,e1,hc1⟩:=au hc
  have e2:=wa e1
  subst e2
  obtain ⟨t,p,q⟩:=tN g hc1
  refine ⟨λC ea oe=>AH (t C ea oe),λc C ea oe hc hm ho=>nu (p c C ea oe hc hm ho),rfl,λc C ea oe ρ σ H Q w hc hm ho hk hρ hs hq=>?_⟩
  have hs:(if as.length <= 100 then (HA.vals c ρ as).map λss=>PV.lst (ss.map Sc.pv) else none)=some w:=hs
  split at hs
  ·rename_i hl
   obtain ⟨ss,e3,rfl⟩:=Option.map_eq_some_iff.mp hs
   refine q c C ea oe ρ σ H _ ss hc hm ho hk hρ e3 ⟨?_,λp hp=>hq _ _ (a8 hp _) λO hO=>jx hO hp (pf X.K _ ss)⟩
   have hlen:∀ {as:List HA}{ss:List Sc},HA.vals c ρ as=some ss->ss.length=as.length:=by
    intro as
    induction as with
    | nil=>intro ss h;cases (show some ([]:List Sc)=some ss from h);rfl
    | cons a as ih =>
     intro ss h
     obtain ⟨s,_,e2⟩:=Option.bind_eq_some_iff.mp (show ((a.val c ρ).bind λs=>(HA.vals c ρ as).map (s::·))=some ss from h)
     obtain ⟨ss',e3,rfl⟩:=Option.map_eq_some_iff.mp e2
     rw [List.length_cons,List.length_cons,ih e3]
   rw [List.length_map,hlen e3]
   exact Nat.le_trans hl (by decide)
  ·cases hs
theorem tO {σ:St}{i j:Nat}{a b c:Option V} (h:i ≠ j):((σ.set i a).set j b).set i c=(σ.set j b).set i c:=by
 rw [List.set_comm _ _ h,List.set_set]
theorem wD (g:Gf X T k cal) (d:Df X) {h:HH}{x:ExceptHandler}{cu:List ExceptHandler}{tr:Addr->TS} (hc:A0 T.es X.N X.env.scope h x=true) (hr:PH X cu tr):∃ th:Addr->TS,PH X (x::cu) th /\
  ∀ c C D ρ σ H,T.es.contains c=true->X.mg c=some (.ref C)->σ.length=X.N.length->nZ ρ σ->(fW c h.cls=true->h.free ρ=true/\∃ w,h.v.val c ρ=some w/\∀ u H2,af H H2->(∀ O,(∀ a ∈ O,H a ≠ none)->Rep X.K (aj H2 O) w u)->D.nx (tM h σ u) H2)->(fW c h.cls=false->tr C D σ H)->th C D σ H:=by
 obtain ⟨⟨cn,nm,y,v⟩,e1,hc1⟩:=au hc
 simp only [Bool.and_eq_true,beq_iff_eq] at hc1
 obtain ⟨⟨⟨⟨⟨⟨⟨⟨⟨rfl,h2⟩,h3⟩,h4⟩,h5⟩,h6⟩,h7⟩,h8⟩,h9⟩,h10⟩:=hc1
 obtain ⟨np,py,p,pos,rfl⟩:=sI e1
 obtain ⟨Dc,ds,m1,m2,_,_,_⟩:=gi g h4
 obtain ⟨t,ht,hn,hv⟩:=Bs g h10
 have hset:∀ C ea oe,oe.cls=.ref C->PSs (X.within ea oe) [.Assign [.Name y py] v p] (λD σ H=>(∃ c,T.es.contains c=true/\X.mg c=some (.ref C))/\pS (t C ea oe) (fq h.i) D σ H):=λC ea oe ho pins s σ H D I q=>by
  obtain ⟨⟨c,hc,hm⟩,q⟩:=q
  exact kZ (ft (X:=X.within ea oe) d.nd h5 (f6 h6) (ht c C ea oe hc hm ho) (b9 hn _ _ _) (.inl (d.fn y))) pins s σ H D I q
 have key:∀ c C,T.es.contains c=true->X.mg c=some (.ref C)->∃ ms,dN X.K C ms=true/\(Value.ref C::ms).contains (.ref Dc)=fW c h.cls:=λc C hc hm=>by
  obtain ⟨C',ms,n1,n2,_,_,n3⟩:=gi g hc
  rw [hm] at n1
  cases n1
  exact ⟨ms,n2,(n3 _ Dc h4 m1).1⟩
 cases nm with
 | none =>
  have he:h.e=none:=by
   cases z:h.e with
   | none=>rfl
   | some k=>rw [z] at h8;cases h8
  refine ⟨_,vP (da h2) m1 m2 (cM h3).1 hset hr,λc C D ρ σ H hc hm hl hρ k1 k2=>?_⟩
  obtain ⟨ms,n2,n3⟩:=key c C hc hm
  refine ⟨ms,n2,?_⟩
  rw [n3]
  split
  ·rename_i z
   intro ea oe ho
   obtain ⟨_,s,e2,q⟩:=k1 z
   refine ⟨⟨c,hc,hm⟩,hv c C ea oe ρ σ H _ s hc hm ho (λk z=>by rw [he] at z;cases z) hρ e2 λu H2 s2 ru=>?_⟩
   have q:=q u H2 s2 ru
   unfold tM at q
   rw [he] at q
   exact q
  ·rename_i z
   exact k2 (Bool.eq_false_iff.mpr z)
 | some n =>
  have ⟨ke,he⟩:∃ ke,h.e=some ke:=by
   cases z:h.e with
   | none=>rw [z] at h8;cases h8
   | some k=>exact ⟨k,rfl⟩
  rw [he] at h8 h9
  have h8:(X.N[ke]? == some n&&X.env.scope.names.lookup n == some .local)=true:=h8
  simp only [Bool.and_eq_true,beq_iff_eq] at h8
  have hne:ke ≠ h.i:=λz=>(of_decide_eq_true h9) (by rw [z])
  refine ⟨_,AV (da h2) m1 m2 (cM h3).1 d.nd h8.1 h8.2 hset hr,λc C D ρ σ H hc hm hl hρ k1 k2=>?_⟩
  obtain ⟨ms,n2,n3⟩:=key c C hc hm
  refine ⟨ms,n2,?_⟩
  rw [n3]
  split
  ·rename_i z
   intro ea oe ho
   obtain ⟨hfr,s,e2,q⟩:=k1 z
   unfold HH.free at hfr
   rw [he] at hfr
   have hfr:(ρ[ke]?).join=none:=Option.isNone_iff_eq_none.mp hfr
   have hρ':nZ ρ (σ.set ke (some (.ref ea))):=λi n e=>by
    rw [List.getElem?_set_ne λ(z:ke=i)=>by rw [<- z,hfr] at e;cases e]
    exact hρ i n e
   have hlt:ke < σ.length:=by rw [hl];exact (List.getElem?_eq_some_iff.mp h8.1).1
   refine ⟨⟨c,hc,hm⟩,hv c C ea oe ρ (σ.set ke (some (.ref ea))) H _ s hc hm ho (λk z=>?_) hρ' e2 λu H2 s2 ru=>?_⟩
   ·rw [he] at z
    cases z
    exact List.getElem?_set_self hlt
   ·have q:=q u H2 s2 ru
    unfold tM at q
    rw [he] at q
    show D.nx (((σ.set ke (some (.ref ea))).set h.i (some u)).set ke none) H2
    rw [tO hne]
    exact q
  ·rename_i z
   exact k2 (Bool.eq_false_iff.mpr z)
theorem mS (g:Gf X T k cal) (d:Df X):∀ {hs:List HH}{xs:List ExceptHandler},oX T.es X.N X.env.scope hs xs=true->∃ th:Addr->TS,PH X xs th /\
  ∀ c C D ρ σ H h,T.es.contains c=true->X.mg c=some (.ref C)->σ.length=X.N.length->nZ ρ σ->(hs.find? λh=>fW c h.cls)=some h->(h.free ρ=true/\∃ w,h.v.val c ρ=some w/\∀ u H2,af H H2->(∀ O,(∀ a ∈ O,H a ≠ none)->Rep X.K (aj H2 O) w u)->D.nx (tM h σ u) H2)->th C D σ H
 | [],[],_=>⟨_,yw,λc C D ρ σ H h _ _ _ _ z=>by cases z⟩
 | [],_::_,z=>by cases z
 | _::_,[],z=>by cases z
 | h::hs,x::xs,hc=>by
  obtain ⟨c1,c2⟩:=Bool.and_eq_true_iff.mp hc
  obtain ⟨tr,pr,kr⟩:=mS g d c2
  obtain ⟨th,ph,kh⟩:=wD g d c1 pr
  refine ⟨th,ph,λc C D ρ σ H h' hc hm hl hρ hf q=>kh c C D ρ σ H hc hm hl hρ (λz=>?_) λz=>?_⟩
  ·rw [List.find?_cons_of_pos (p:=λh:HH=>fW c h.cls) z] at hf
   cases hf
   exact q
  ·rw [List.find?_cons_of_neg (p:=λh:HH=>fW c h.cls) (by rw [z];simp)] at hf
   exact kr c C D ρ σ H h' hc hm hl hρ hf q
theorem mT:∀ {hs:List HH}{xs:List ExceptHandler},oX T.es X.N X.env.scope hs xs=true->∀ h ∈ hs,h.i < X.N.length/\h.e ≠ some h.i
 | [],[],_=>λh hh=>by cases hh
 | [],_::_,z=>by cases z
 | _::_,[],z=>by cases z
 | h::hs,x::xs,hc=>λh' hh=>by
  obtain ⟨c1,c2⟩:=Bool.and_eq_true_iff.mp hc
  rcases List.mem_cons.mp hh with rfl|hh
  ·obtain ⟨q,e1,c1⟩:=au c1
   simp only [Bool.and_eq_true,beq_iff_eq] at c1
   exact ⟨(List.getElem?_eq_some_iff.mp c1.1.1.1.1.1.2).1,of_decide_eq_true c1.1.2⟩
  ·exact mT c2 h' hh
theorem az.forget {K:PySem.W.Frag}{B H:Hp}{O₀ O:List Addr}{ρ:Rho}{σ:St}{j:Nat} (st:az K B O₀ O H ρ σ) (hj:(ρ[j]?).join=none):az K B O₀ O H ρ (σ.set j none):=by
 have ne:∀ (i:Nat) (m:MV),ρ[i]?=some (some m)->j ≠ i:=λi m e z=>by
  subst z
  rw [e] at hj
  cases hj
 refine ⟨st.keep,st.here,st.sub,st.old,by rw [List.length_set];exact st.len,λi m e=>?_,λi i' m m' a hij e1 e2 o1 o2 e3 e4=>?_
  ,?_
  ⟩
 ·rw [List.getElem?_set_ne (ne i m e)]
  exact st.slot i m e
 ·rw [List.getElem?_set_ne (ne i m e1)] at e3
  rw [List.getElem?_set_ne (ne i' m' e2)] at e4
  exact st.apart i i' m m' a hij e1 e2 o1 o2 e3 e4
 ·exact c_ st.inn (λi m0 e l0=>⟨⟨m0,e,l0⟩,List.getElem?_set_ne (ne i m0 e),λ_ _ _ h=>h⟩) λi m c e _ o es=>.inl ⟨m,e,o,by rw [List.getElem?_set_ne (ne i m e)] at es;exact es⟩
theorem aV.forget {B:Hp}{O O':List Addr}{ρ ρ':Rho}{σ σ':St}{j:Nat} (k:aV B O O' ρ ρ' σ σ') (hj:(ρ'[j]?).join=none):aV B O O' ρ ρ' σ (σ'.set j none):=by
 have ne:∀ (i:Nat) (m:MV),ρ'[i]?=some (some m)->j ≠ i:=λi m e z=>by
  subst z
  rw [e] at hj
  cases hj
 refine ⟨k.stay,k.new,λi m b e=>?_,k.len
  ,λi fs xs e=>?_
  ⟩
 ·rw [List.getElem?_set_ne (ne i m e)]
  exact k.brw i m b e
 ·rw [List.getElem?_set_ne (ne i _ e)]
  exact k.mutO i fs xs e
theorem wE {K:PySem.W.Frag}{B H:Hp}{O₀ O:List Addr}{ρ:Rho}{σ:St} (st:az K B O₀ O H ρ σ):nZ ρ σ:=λi n e=>by
 obtain ⟨u,e1,r⟩:=st.slot i _ (join_some e)
 have r:Rep K (aj H O) (.int n) u:=r
 rw [e1,show u=.int n from by simpa only [Rep] using r]
end
end MM
namespace MM
open PySem PySem.Spec PyProof.Rows L2
section
variable {X:Cx}{T:Tab}{k:Nat}{cal:Cal}
noncomputable def tAx (K:PySem.W.Frag) (cal:Cal) (i:Nat) (ms:List ME):TA:=λσ H Q=>∃ B O₀ O ρ b fs xs a l vs,az K B O₀ O H ρ σ/\(ρ[i]?).join=some (.ownO b fs xs)/\σ[i]?=some (some (.ref a))/\b7 K B O H fs xs a l/\evA cal ms ρ=some vs/\vs.all yx=true/\ms.all (vT i)=true /\
 ∀ us H1,af H H1->Paired (cJ K O (bn H1 [a,l])) vs us->Q us H1
theorem b7.mono {K:PySem.W.Frag}{B H H':Hp}{O:List Addr}{fs xs:List PV}{a l:Addr} (q:b7 K B O H fs xs a l) (s:af H H'):b7 K B O H' fs xs a l:=q.move (am s) (λ_=>s _ _) (λ_=>s _ _) q.aO q.lO q.aB q.lB
theorem fJ {H:Hp}{a l c:Addr}{o:HO} (h1:c ≠ a) (h2:c ≠ l) (e:H c=some o):bn H [a,l] c=some o:=by
 unfold bn
 rw [if_neg λz=>by
  rcases List.mem_cons.mp z with z|z
  ·exact h1 z
  ·exact h2 (List.mem_singleton.mp z)]
 exact e
theorem lL (i:Nat):∀ (ms:List ME) {X:Cx}{es:List Expr},Gf X T k cal->chks T ms X.N X.env.scope es=true->PA X es (tAx X.K cal i ms)
 | [],X,es,g,h=>by
  cases es with
  | nil =>
   refine cE.imp λσ H Q q=>?_
   obtain ⟨B,O₀,O,ρ,b,fs,xs,a,l,vs,st,hj,ea,qq,e1,hv,hi,q⟩:=q
   simp only [evA,Option.some.injEq] at e1
   subst e1
   exact q [] H (af.refl H) .nil
  | cons _ _=>simp [chks] at h
 | m::ms,X,es,g,h=>by
  cases es with
  | nil=>simp [chks] at h
  | cons e es =>
   simp only [chks,Bool.and_eq_true] at h
   have hs:=lL i ms g h.2
   have hp:=(al m g h.1.1).1
   cases hb:aD m with
   | false =>
    refine (aU hp hs (a_ h.1.2 es _)).imp λσ H Q q=>?_
    obtain ⟨B,O₀,O,ρ,b,fs,xs,a,l,vs,st,hj,ea,qq,e1,hv,hi,q⟩:=q
    have e1':(ev cal m ρ).bind (λv=>(evA cal ms ρ).map (MV.val v::·))=some vs:=by
     rw [<- e1]
     cases m <;> first|(cases hb;done)|(simp only [evA];done)|rfl
    simp only [Option.bind_eq_some_iff,Option.map_eq_some_iff] at e1'
    obtain ⟨v,e9,ws,e2,rfl⟩:=e1'
    simp only [List.all_cons,Bool.and_eq_true] at hv hi
    exact ⟨B,O₀,O,ρ,v,st,e9,λu H1 s1 g1=>⟨B,O₀,O,ρ,b,fs,xs,a,l,ws,st.mono s1,hj,ea,qq.mono s1,e2,hv.2,hi.2,λus H2 s2 g2=>q (u::us) H2 (s1.trans s2) (.cons (by
     show Rep X.K (aj (bn H2 [a,l]) O) v u
     rw [c4 qq.aO qq.lO]
     exact (g1.mono s2).2 hb) g2)⟩⟩
   | true =>
    rcases ly hb with ⟨j,rfl⟩|⟨j,rfl⟩
    rotate_left
    ·exact (aU hp hs (a_ h.1.2 es _)).imp λσ H Q q=>by
      obtain ⟨B,O₀,O,ρ,b,fs,xs,a,l,vs,st,hj,ea,qq,e1,hv,hi,q⟩:=q
      cases (show none=some vs from e1)
    have h1:=h.1.1
    cases e <;> simp only [bD,bE,bF,aY,bG,bH,bJ,bK,cH,bM,bN,aP,bO,bP,bQ,aQ,bR,aZ,aK,Bool.false_eq_true] at h1
    refine (aU (aL h1) hs rfl).imp λσ H Q q=>?_
    obtain ⟨B,O₀,O,ρ,b,fs,xs,a,l,vs,st,hj,ea,qq,e1,hv,hi,q⟩:=q
    rw [evA] at e1
    simp only [Option.bind_eq_some_iff,Option.map_eq_some_iff] at e1
    obtain ⟨m',e1,ws,e2,rfl⟩:=e1
    simp only [List.all_cons,Bool.and_eq_true] at hv hi
    have hij:i ≠ j:=λz=>by
     have:=hi.1
     simp [vT,z] at this
    cases hm:(ρ[j]?).join with
    | none=>rw [hm] at e1;cases e1
    | some m =>
     rw [hm] at e1
     obtain ⟨u,eu,so⟩:=aG st hm
     have key:∀ H2,af H H2->cJ X.K O (bn H2 [a,l]) m' u:=λH2 s2=>by
      cases m with
      | val w =>
       simp only [bu,Option.some.injEq] at e1
       subst e1
       show Rep X.K (aj (bn H2 [a,l]) O) w u
       rw [c4 qq.aO qq.lO]
       exact Rep.mono (am s2) _ so
      | own ys =>
       simp only [bu,Option.some.injEq] at e1
       subst e1
       obtain ⟨c,us,rfl,hc,rs,_⟩:=so
       have n1:c ≠ a:=λz=>st.apart i j _ _ a hij (join_some hj) (join_some hm) rfl rfl ea (by rw [eu,z])
       have n2:c ≠ l:=(st.inn i _ a l (join_some hj) rfl ea qq.l j _ (Ne.symm hij) (join_some hm)).2 c rfl eu
       refine ⟨c,us,rfl,SqL.of (fJ n1 n2 (s2 _ _ hc)),?_⟩
       rw [c4 qq.aO qq.lO]
       exact Reps.mono (am s2) _ rs
      | brw ys =>
       simp only [bu,Option.some.injEq] at e1
       subst e1
       obtain ⟨c,us,rfl,sq,rs⟩:=so
       have sm:af B (bn H2 [a,l]):=λd o ed=>fJ (λz=>by rw [z,qq.aB] at ed;cases ed) (λz=>by rw [z,qq.lB] at ed;cases ed) (s2 _ _ (st.keep _ _ ed))
       refine ⟨c,us,rfl,sm.seq sq,?_⟩
       rw [c4 qq.aO qq.lO]
       exact Reps.mono (am s2) _ rs
      | ownD _=>simp only [bu,Option.some.injEq] at e1;subst e1;cases hv.1
      | brwD _=>simp only [bu,Option.some.injEq] at e1;subst e1;cases hv.1
      | ownO _ _ _=>simp only [bu,Option.some.injEq] at e1;subst e1;cases hv.1
      | brwO _ _=>simp only [bu,Option.some.injEq] at e1;subst e1;cases hv.1
     exact ⟨u,eu,B,O₀,O,ρ,b,fs,xs,a,l,ws,st,hj,ea,qq,e2,hv.2,hi.2,λus H2 s2 g2=>q (u::us) H2 s2 (.cons (key H2 s2) g2)⟩
noncomputable def tTx (K:PySem.W.Frag) (cal:Cal) (x:MX):TE:=λσ H Q=>∃ B O₀ O ρ s ρ',az K B O₀ O H ρ σ/\nN cal x ρ=some (s,ρ')/\∀ H' O',az K B O₀ O' H' ρ' σ->aV B O O' ρ ρ' σ σ->Q (Sc.v s) H'
theorem lM {x:MX}{ρ ρ':Rho}{s:Sc} (h:nN cal x ρ=some (s,ρ')):∃ b fs xs vs ys,(ρ[x.i]?).join=some (.ownO b fs xs)/\evA cal x.es ρ=some vs/\vs.all yx=true/\x.es.all (vT x.i)=true/\cal (x.f + 3000) (.ownO true fs xs::vs)=some (.tup [s.pv,.lst ys])/\ρ'=put ρ x.i (.ownO b fs ys):=by
 unfold nN at h
 split at h
 ·rename_i b fs xs hj
  split at h
  ·rename_i v ys e
   rw [Option.bind_eq_some_iff] at e
   obtain ⟨vs,e1,e2⟩:=e
   split at e2
   ·rename_i hc
    rw [Bool.and_eq_true] at hc
    rw [Option.map_eq_some_iff] at h
    obtain ⟨s',e3,e4⟩:=h
    cases e4
    have:=xD e3
    subst this
    exact ⟨b,fs,xs,vs,ys,hj,e1,hc.1,hc.2,e2,rfl⟩
   ·cases e2
  ·cases h
 ·cases h
theorem zo {x:MX}{e:Expr} (g:Gf X T k cal) (hc:A1 T X.N X.env.scope x e=true):PE X e (tTx X.K cal x)/\bi e=true/\(∀ whole,isTrue e X.env whole=(do let v <- whole;standAt e.pos;holding [v] (truthy v))):=by
 obtain ⟨me,f,i,ms⟩:=x
 cases me with
 | true =>
  obtain ⟨c,e1,h4⟩:=au hc
  obtain ⟨p,rfl⟩:=gC e1
  obtain ⟨hf,hM,hn,q4,hline,h30⟩:=gR h4
  obtain ⟨cn,m,es,ap,pos⟩:=c
  refine ⟨?_,rfl,λ_=>rfl⟩
  have ha:=lL i ms g q4
  obtain ⟨hs,hl⟩:=aI q4
  by_cases hC:∃ C,IsC X.K C
  ·obtain ⟨C,hC⟩:=hC
   have one:∀ C',IsC X.K C'->C'=C:=λC' h=>by
    have:=h.symm.trans hC
    cases this
    rfl
   obtain ⟨fa,fd,ps,h1,h3,F⟩:=g.methsT f m hf C hC
   have key:∀ σ H Q,tTx X.K cal ⟨true,f,i,ms⟩ σ H Q->l5 C m (spT X.K cal f) [] E0 (iW i) (tAx X.K cal i ms) σ H Q:=λσ H Q q=>by
    obtain ⟨B,O₀,O,ρ,s,ρ',st,hv,q⟩:=q
    obtain ⟨b,fs,xs,vs,ys,hj,e1,v1,v2,e2,rfl⟩:=lM hv
    obtain ⟨u,eu,a,l,rfl,qq⟩:=aG st hj
    obtain ⟨C',dx,gs,f1,f2⟩:=id qq.ob
    have hCC:=one C' f2.cls
    subst hCC
    refine ⟨_,eu,a,dx,gs,rfl,f1,f2.no m hM,B,O₀,O,ρ,b,fs,xs,a,l,vs,st,hj,eu,qq,e1,v1,v2,λus' H1 s1 g1=>?_⟩
    show spT X.K cal f (V.ref a::(us' ++ [])) H1 Q E0
    rw [List.append_nil]
    have q1:=qq.mono s1
    refine ⟨O,a,l,fs,xs,vs,us',s,ys,rfl,aT s1 st.here,q1.move (af.refl _) (λ_ h=>h) (λ_ h=>h) qq.aO qq.lO rfl rfl,g1,e2,λl' H' kp hl' q2=>?_⟩
    obtain ⟨st',k'⟩:=(st.mono s1).changeO (join_some hj) eu q1 kp hl' q2
    exact q _ _ st' k'
   cases es with
   | nil =>
    refine (i5 (aL hn) (g.cls C hC).1 h1 F g.room h3 .nil eG (d6 hs h30 hline)).imp λσ H Q q=>?_
    obtain ⟨u,eu,a,dx,gs,e,f1,f2,B,O₀,O,ρ,b,fs,xs,a',l,vs,st,hj,ea,qq,e1,v1,v2,q⟩:=key σ H Q q
    cases ms with
    | nil =>
     simp only [evA,Option.some.injEq] at e1
     subst e1
     exact ⟨u,eu,a,dx,gs,e,f1,f2,q [] H (af.refl H) .nil⟩
    | cons _ _=>cases hl
   | cons e es =>
    simp only [List.all_cons,Bool.and_eq_true] at hs
    exact (lb (aL hn) (g.cls C hC).1 h1 F g.room h3 .nil eG ha (a_ hs.1 _ _) (aR hs.2) (d6 (by simp [hs]) h30 hline)).imp key
  ·exact λpins s σ H Q I q=>by
    obtain ⟨B,O₀,O,ρ,s,ρ',st,hv,q⟩:=q
    obtain ⟨b,fs,xs,vs,ys,hj,e1,v1,v2,e2,rfl⟩:=lM hv
    obtain ⟨u,eu,a,l,rfl,qq⟩:=aG st hj
    obtain ⟨C',dx,gs,f1,f2⟩:=id qq.ob
    exact absurd ⟨C',f2.cls⟩ hC
 | false =>
  obtain ⟨c,e1,h4⟩:=au hc
  obtain ⟨p,yp,cp,rfl⟩:=wc e1
  simp only [Bool.and_eq_true,beq_iff_eq] at h4
  obtain ⟨⟨⟨⟨h1,h2⟩,h3⟩,hn⟩,q4⟩:=h4
  obtain ⟨fn,y,es⟩:=c
  refine ⟨?_,rfl,λ_=>rfl⟩
  obtain ⟨fa,fd,ps,m1,m2,m3,F⟩:=g.fnsT f fn h1 h3
  have ha:=lL i ms g q4
  obtain ⟨hs,hl⟩:=aI q4
  refine (iL (x:=fn) F g.room (da h2) m1 m2 m3 .nil eG (aU (aL hn) ha rfl) (cM h3).1 rfl (aR hs)).imp λσ H Q q=>?_
  obtain ⟨B,O₀,O,ρ,s,ρ',st,hv,q⟩:=q
  obtain ⟨b,fs,xs,vs,ys,hj,e1,v1,v2,e2,rfl⟩:=lM hv
  obtain ⟨u,eu,a,l,rfl,qq⟩:=aG st hj
  refine ⟨_,eu,B,O₀,O,ρ,b,fs,xs,a,l,vs,st,hj,eu,qq,e1,v1,v2,λus' H1 s1 g1=>?_⟩
  show spT X.K cal f (V.ref a::us' ++ []) H1 Q E0
  rw [List.append_nil]
  have q1:=qq.mono s1
  refine ⟨O,a,l,fs,xs,vs,us',s,ys,rfl,aT s1 st.here,q1.move (af.refl _) (λ_ h=>h) (λ_ h=>h) qq.aO qq.lO rfl rfl,g1,e2,λl' H' kp hl' q2=>?_⟩
  obtain ⟨st',k'⟩:=(st.mono s1).changeO (join_some hj) eu q1 kp hl' q2
  exact q _ _ st' k'
theorem f7 {K:PySem.W.Frag}{F:Hp}{xs:List PV}{us:List V} (r:Reps K F xs us):Reps K F xs.dropLast us.dropLast:=by
 rw [List.dropLast_eq_take,List.dropLast_eq_take,<- r.length]
 exact r.take _
theorem tQ {i:Nat}{x:Str}{p fp apos cpos pos:Pos} (g:Gf X T k cal) (hn:ah X.N X.env.scope i x=true) (hline:(apos.endLine == cpos.line)=true) :
  PS X (.Return (some (.Call (.Attribute (.Attribute (.Name x p) "taken" fp) "pop" apos) [] [] cpos)) pos) (tS X.K cal (.retPop i)):=by
 refine (iY (rM PySem.F.plainAttrs_list PySem.F.slot_list_pop PySem.F.type_list_pop rO (lG hn) rfl hline)).imp λD σ H q=>?_
 obtain ⟨B,O₀,O,ρ,st,q⟩:=q
 rw [ex] at q
 cases hj:(ρ[i]?).join with
 | none=>rw [hj] at q;exact (show False from q).elim
 | some m =>
  rw [hj] at q
  cases m with
  | ownO b fs xs =>
   dsimp only at q
   cases e:xs.getLast?.bind sc? with
   | none=>rw [e] at q;exact (show False from q).elim
   | some s =>
    rw [e] at q
    rw [Option.bind_eq_some_iff] at e
    obtain ⟨w,e1,e2⟩:=e
    obtain ⟨u,eu,a,l,rfl,qq⟩:=aG st hj
    obtain ⟨C,dx,gs,h1,h2⟩:=qq.ob
    obtain ⟨us,h3,h4⟩:=qq.li
    obtain ⟨c1,_,c2⟩:=g.cls C h2.cls
    have hl:=h4.length
    rw [List.getLast?_eq_getElem?] at e1
    obtain ⟨uw,e3,rw'⟩:=h4.get e1
    have hw:=pj e2 rw'
    subst hw
    rw [hl] at e3
    refine ⟨_,eu,a,C,dx,gs,.ref l,rfl,h1,c1,c2,h2.lst,.inl ⟨rfl,us,SqL.of h3⟩,l,us,s.v,rfl,rfl,h3,e3,?_⟩
    have vis:af (aj H O) (aj (upd H l (.lst us.dropLast)) (l::O.filter λb=>decide (b ≠ l))):=λc o ec=>by
     have hc:c ∉ O:=λz=>by rw [c5 z] at ec;cases ec
     rw [aJ hc] at ec
     have hn:c ∉ l::O.filter λb=>decide (b ≠ l):=λz=>by
      rcases List.mem_cons.mp z with z|z
      ·exact hc (z ▸ qq.lO)
      ·exact hc (List.mem_filter.mp z).1
     have hcl:c ≠ l:=λz=>hc (z ▸ qq.lO)
     rw [aJ hn,ak hcl]
     exact ec
    obtain ⟨st',k'⟩:=st.changeO (ys:=xs.dropLast) (l':=l) (H':=upd H l (.lst us.dropLast)) (join_some hj) eu qq (λc o _ n2 ec=>by rw [ak n2];exact ec) (.inl rfl)
     ⟨⟨C,dx,gs,by rw [ak qq.ne];exact h1,h2.mono vis⟩,⟨_,av,Reps.mono vis _ (f7 h4)⟩,List.mem_cons_of_mem _ (List.mem_filter.mpr ⟨qq.aO,decide_eq_true qq.ne⟩),List.mem_cons_self,rfl,rfl,qq.ne⟩
    exact q _ _ _ st' k'
  | _=>exact (show False from q).elim
theorem Bt {e:Expr}{t1 t2:TX} (h1:PX X e t1) (h2:PX X e t2):PX X e λσ H Q E=>t1 σ H Q E \/ t2 σ H Q E:=λpins s σ H Q E Ex I q hx=>q.elim (λq=>h1 pins s σ H Q E Ex I q hx) λq=>h2 pins s σ H Q E Ex I q hx
theorem zp {i f:Nat}{ms:List ME}{hs:List HH}{s:Stmt} (g:Gf X T k cal) (d:Df X) (hc:cI T X.N X.env.scope (.tryO i f ms hs) s=true):PS X s (tS X.K cal (.tryO i f ms hs)):=by
 obtain ⟨q,e1,hc⟩:=au hc
 obtain ⟨b,e2,hc⟩:=au hc
 obtain ⟨c,e3,hc⟩:=au hc
 obtain ⟨pos,rfl⟩:=v7 e1
 obtain ⟨bs,h0,ht⟩:=q
 obtain ⟨bj,be,bp⟩:=b
 obtain ⟨p,he⟩:=gC e3
 obtain ⟨cn,m,es,ap,cp⟩:=c
 have he:be=.Call (.Attribute (.Name cn p) m ap) es [] cp:=he
 subst he
 simp only [Bool.and_eq_true] at hc
 obtain ⟨⟨h1,h4⟩,h7⟩:=hc
 have hX:A1 T X.N X.env.scope ⟨true,f,i,ms⟩ (.Call (.Attribute (.Name cn p) m ap) es [] cp)=true:=h4
 obtain ⟨hf,hM,hn,q4,hline,h30⟩:=gR h4
 have hj:bj=none:=Option.isNone_iff_eq_none.mp h1
 subst hj
 have hbs:bs=.Expr (.Call (.Attribute (.Name cn p) m ap) es [] cp) bp:=by
  rcases v8 e2 with ⟨_,z⟩|⟨x,px,z,_⟩
  ·exact z
  ·cases z
 subst hbs
 have hf:T.ms[f]?=some (some m):=hf
 have hM:m ∈ jo:=hM
 have hn:ah X.N X.env.scope i cn=true:=hn
 have q4:chks T ms X.N X.env.scope es=true:=q4
 have h30:decide (es.length < 30)=true:=h30
 have hline:(ap.endLine == cp.line)=true:=hline
 obtain ⟨hst,hl⟩:=aI q4
 have pB:=(zo g.nox hX).1
 obtain ⟨th,ph,kh⟩:=mS g d h7
 have hi:∀ h ∈ hs,h.i < X.N.length/\h.e ≠ some h.i:=mT h7
 by_cases hC:∃ C,IsC X.K C
 ·obtain ⟨C,hC⟩:=hC
  have one:∀ C',IsC X.K C'->C'=C:=λC' h=>by
   have:=h.symm.trans hC
   cases this
   rfl
  obtain ⟨fa,fd,ps,k1,k3,F⟩:=g.methsE f m hf C hC
  have pA:PX X (.Call (.Attribute (.Name cn p) m ap) es [] cp) (nL C m (spE X.K X.mg T.es cal f) (iW i) (tAs X.K cal ms)):=by
   have ha:=soundA ms g.nox q4
   cases es with
   | nil =>
    cases ms with
    | nil =>
     refine λpins s σ H Q E Ex I q hx=>sf (aL (X:=X.nox) hn) (g.cls C hC).1 k1 F g.room k3 (d6 (env:=X.env) hst h30 hline) pins s σ H Q E Ex I ?_ hx
     obtain ⟨u,eu,a,dx,gs,e,f1,f2,B,O₀,O,ρ,vs,st,e1,q⟩:=q
     simp only [evA,Option.some.injEq] at e1
     subst e1
     exact ⟨u,eu,a,dx,gs,e,f1,f2,q [] H (af.refl H) .nil⟩
    | cons _ _=>cases hl
   | cons e es =>
    simp only [List.all_cons,Bool.and_eq_true] at hst
    exact vR (aL (X:=X.nox) hn) (g.cls C hC).1 k1 F g.room k3 ha (a_ hst.1 _ _) (aR hst.2) (d6 (env:=X.env) (by simp [hst]) h30 hline)
  refine PS.imp' (yu d.stk.1 d.stk.2 (Bt pA (vS pB)) ph rfl) λD σ H hl q=>?_
  obtain ⟨B,O₀,O,ρ,st,q⟩:=q
  rw [ex] at q
  cases eo:dk (ρ[i]?).join with
  | none=>rw [eo] at q;exact (show False from q).elim
  | some o =>
   cases ea:evA cal ms ρ with
   | none=>rw [eo,ea] at q;exact (show False from q).elim
   | some vs =>
    rw [eo,ea] at q
    dsimp only at q
    split at q
    ·rename_i c hr
     split at q
     ·rename_i h hf
      split at q
      ·rename_i sv hv
       split at q
       ·rename_i hfree
        obtain ⟨a,eu,C',dx,gs,l,us,f1,f2,f3,f4⟩:=fQ st eo
        have hCC:=one C' f2.cls
        subst hCC
        refine .inl ⟨_,eu,a,dx,gs,rfl,f1,f2.no m hM,B,O₀,O,ρ,vs,st,ea,λus' H1 s1 pa=>?_⟩
        refine ⟨O,.brwO o.1 o.2::vs,.str c,aT s1 st.here,.cons ⟨a,rfl,(show eA X.K H (aj H O) o.1 o.2 a from ⟨C',dx,gs,l,us,f1,f2,f3,f4⟩).move s1 (am s1)⟩ pa,hr,.inr ⟨c,rfl,λCe H2 hc hm s2=>⟨Ce,rfl,kh c Ce D ρ σ H2 h hc hm hl (wE st) hf ⟨hfree,sv,hv,λu H3 s3 ru=>?_⟩⟩⟩⟩
        have st0:=(st.mono s1).mono s2
        have st':=st0.mono s3
        have hlt:h.i < σ.length:=by rw [hl];exact (hi h (List.mem_of_find?_eq_some hf)).1
        obtain ⟨st2,k2⟩:=st'.store (i:=h.i) hlt (ru O st0.here)
        unfold tM
        unfold HH.free at hfree
        cases he:h.e with
        | none=>exact q _ H3 O st2 k2
        | some ke =>
         rw [he] at hfree
         have hn:(ρ[ke]?).join=none:=Option.isNone_iff_eq_none.mp hfree
         have hp:((put ρ h.i (.val sv))[ke]?).join=none:=by
          rw [aa λz=>(hi h (List.mem_of_find?_eq_some hf)).2 (by rw [he,z])]
          exact hn
         exact q _ H3 O (st2.forget hp) (k2.forget hp)
       ·exact (show False from q).elim
      ·exact (show False from q).elim
     ·exact (show False from q).elim
    ·split at q
     ·rename_i s ρ' hv
      exact .inr ⟨B,O₀,O,ρ,s,ρ',st,hv,λH' O' st' k'=>q σ H' O' st' k'⟩
     ·exact (show False from q).elim
 ·exact λpins s σ H D I q=>by
   obtain ⟨B,O₀,O,ρ,st,q⟩:=q
   rw [ex] at q
   cases eo:dk (ρ[i]?).join with
   | none=>rw [eo] at q;exact (show False from q).elim
   | some o =>
    obtain ⟨a,eu,C',dx,gs,l,us,f1,f2,f3,f4⟩:=fQ st eo
    exact absurd ⟨C',f2.cls⟩ hC
noncomputable def tIB (K:PySem.W.Frag) (cal:Cal) (i j f:Nat):TE:=λσ H Q=>∃ B O₀ O ρ m fs xs zs p ρ',az K B O₀ O H ρ σ/\(ρ[i]?).join=some (.ownO m fs xs)/\(ρ[j]?).join=some (.own zs)/\((cal f [.brwO fs xs,.brw zs]=some (.bl p)/\ρ'=ρ) \/ ∃ ys,cal (f + 6000) [.ownO true fs xs,.brw zs]=some (.tup [.bl p,.lst ys])/\ρ'=put (put ρ i (.ownO m fs ys)) j (.own zs.dropLast)) /\
 ∀ H' O',az K B O₀ O' H' ρ' σ->aV B O O' ρ ρ' σ σ->Q (.bl p) H'
theorem qy {e:Expr}{t1 t2:TE} (h1:PE X e t1) (h2:PE X e t2):PE X e λσ H Q=>t1 σ H Q \/ t2 σ H Q:=λpins s σ H Q I q=>q.elim (h1 pins s σ H Q I) (h2 pins s σ H Q I)
theorem zq {i j f:Nat}{fn x y:Str}{p px py cp:Pos} (g:Gf X T k cal) (h1:T.fs[f]?=some fn) (h2:glB X.env.scope fn=true) (h3:ag fn=true) (hx:ah X.N X.env.scope i x=true) (hy:ah X.N X.env.scope j y=true) (hij:i ≠ j):PE X (.Call (.Name fn p) [.Name x px,.Name y py] [] cp) (tIB X.K cal i j f):=by
 obtain ⟨fa,fd,ps,m1,m2,m3,F,_⟩:=g.fns f fn h1 h3
 obtain ⟨fa',fd',ps',n1,n2,n3,F'⟩:=g.fnsB f fn h1 h3
 have ha:PA X [.Name x px,.Name y py] (i4 (iW i) (i4 (iW j) l4)):=aU (aL hx) (aU (aL hy) cE rfl) rfl
 refine (qy (iL (x:=fn) (p:=p) (pos:=cp) F g.room (da h2) m1 m2 m3 .nil eG ha (cM h3).1 rfl rfl) (iL (x:=fn) (p:=p) (pos:=cp) F' g.room (da h2) n1 n2 n3 .nil eG ha (cM h3).1 rfl rfl)).imp λσ H Q q=>?_
 obtain ⟨B,O₀,O,ρ,m,fs,xs,zs,b,ρ',st,hi,hj,hr,q⟩:=q
 obtain ⟨u,eu,a,l,rfl,qq⟩:=aG st hi
 obtain ⟨u',eu',c,us,rfl,hc,rs,cO,cB⟩:=aG st hj
 have ca:c ≠ a:=λz=>st.apart i j _ _ a hij (join_some hi) (join_some hj) rfl rfl eu (by rw [eu',z])
 have cl:c ≠ l:=(st.inn i _ a l (join_some hi) rfl eu qq.l j _ (Ne.symm hij) (join_some hj)).2 c rfl eu'
 rcases hr with ⟨e,rfl⟩|⟨ys,e,rfl⟩
 ·refine .inl ⟨_,eu,_,eu',?_⟩
  show spM X.K cal f ([V.ref a,V.ref c] ++ []) H Q E0
  rw [List.append_nil]
  refine ⟨O,[.brwO fs xs,.brw zs],.bl b,st.here,.cons ⟨a,rfl,qq.lent⟩ (.cons ⟨c,us,rfl,SqL.of hc,rs⟩ .nil),e,λu H' s' r=>?_⟩
  rw [show u=.bl b from by simpa only [Rep] using r]
  exact q H' O (st.mono s') .refl
 ·refine .inr ⟨_,eu,_,eu',?_⟩
  show spB X.K cal f ([V.ref a,V.ref c] ++ []) H Q E0
  rw [List.append_nil]
  refine ⟨O,a,l,c,fs,xs,zs,us,.bl b,ys,rfl,st.here,qq.move (af.refl _) (λ_ h=>h) (λ_ h=>h) qq.aO qq.lO rfl rfl,hc,ca,cl,cO,rs,e,λl' H' kp hl q' hc'=>?_⟩
  have cl':c ≠ l':=λz=>hl.elim (λw=>cl (z.trans w)) λw=>by rw [<- z,hc] at w;cases w
  have cO':c ∈ l'::O.filter λb=>decide (b ≠ l):=List.mem_cons_of_mem _ (List.mem_filter.mpr ⟨cO,decide_eq_true cl⟩)
  have vis:af (aj H' (l'::O.filter λb=>decide (b ≠ l))) (aj (upd H' c (.lst us)) (l'::O.filter λb=>decide (b ≠ l))):=λd o ed=>by
   have hd:d ∉ l'::O.filter λb=>decide (b ≠ l):=λz=>by rw [c5 z] at ed;cases ed
   rw [aJ hd] at ed ⊢
   rw [ak λ(z:d=c)=>hd (by rw [z];exact cO')]
   exact ed
  obtain ⟨st1,k1⟩:=st.changeO (ys:=ys) (l':=l') (H':=upd H' c (.lst us)) (join_some hi) eu qq (λd o n1 n2 ed=>by
   by_cases z:d=c
   ·subst z
    rw [av,<- hc]
    exact ed
   ·rw [ak z]
    exact kp d o n1 n2 z ed) hl (q'.move vis (λo h=>by rw [ak (Ne.symm ca)];exact h) (λo h=>by rw [ak (Ne.symm cl')];exact h) q'.aO q'.lO rfl rfl)
  have e1:(put ρ i (.ownO m fs ys))[j]?=some (some (.own zs)):=by rw [aa hij];exact join_some hj
  obtain ⟨_,es1,c2,us2,ec,hc2,rs2,_,_⟩:=st1.slot j _ e1
  rw [eu'] at es1
  cases es1
  cases ec
  rw [av] at hc2
  cases hc2
  obtain ⟨st2,k2⟩:=st1.change (ys:=zs.dropLast) e1 eu' (f7 rs2)
  have eH:upd (upd H' c (.lst us)) c (.lst us.dropLast)=H':=by
   funext d
   by_cases z:d=c
   ·subst z
    rw [av,hc']
   ·rw [ak z,ak z]
  rw [eH] at st2
  exact q H' _ st2 (k1.trans k2)
theorem zr {i j f:Nat}{a:List MS}{t:Expr}{x:List Stmt}{pos:Pos} (g:Gf X T k cal) (hc:onO (sL t) (λv=>onO (mB v) λc=>onO (oW c.2) λz=>T.fs[f]? == some c.1&&glB X.env.scope c.1&&ag c.1&&nmX X.N X.env.scope i z.1&&nmX X.N X.env.scope j z.2&&!(i == j))=true) (ha:PSs X x (tSs X.K cal a)):PS X (.If t x [] pos) (tS X.K cal (.iteB i j f a)):=by
 obtain ⟨v,e1,hc⟩:=au hc
 obtain ⟨c,e2,hc⟩:=au hc
 obtain ⟨z,e3,hc⟩:=au hc
 obtain ⟨np,rfl⟩:=we e1
 obtain ⟨p,cp,rfl⟩:=su e2
 obtain ⟨fn,args⟩:=c
 have e3:=sC e3
 have e3:args=[z.1,z.2]:=e3
 subst e3
 obtain ⟨hc,h6⟩:=Bool.and_eq_true_iff.mp hc
 obtain ⟨hc,h5⟩:=Bool.and_eq_true_iff.mp hc
 obtain ⟨hc,h4⟩:=Bool.and_eq_true_iff.mp hc
 obtain ⟨hc,h3⟩:=Bool.and_eq_true_iff.mp hc
 obtain ⟨h1,h2⟩:=Bool.and_eq_true_iff.mp hc
 have h1:=eq_of_beq h1
 have h6:i ≠ j:=by simpa using h6
 obtain ⟨zx,zy⟩:=z
 obtain ⟨nx,px,ex1,hx⟩:=sK h4
 obtain ⟨ny,py,ey1,hy⟩:=sK h5
 have ex1:zx=.Name nx px:=ex1
 have ey1:zy=.Name ny py:=ey1
 subst ex1
 subst ey1
 have pB:=zq (p:=p) (px:=px) (py:=py) (cp:=cp) g h1 h2 h3 hx hy h6
 refine (re (qZ (qY pB λ_=>rfl)) ha (xC (cal:=cal))).imp λD σ H q=>?_
 obtain ⟨B,O₀,O,ρ,st,q⟩:=q
 rw [ex] at q
 cases hi:(ρ[i]?).join with
 | none=>rw [hi] at q;exact (show False from q).elim
 | some mi =>
  cases hj:(ρ[j]?).join with
  | none=>rw [hi,hj] at q;cases mi <;> exact (show False from q).elim
  | some mj =>
   rw [hi,hj] at q
   cases mi with
   | ownO m fs xs =>
    cases mj with
    | own zs =>
     dsimp only at q
     split at q
     ·rename_i b hb
      refine ⟨B,O₀,O,ρ,m,fs,xs,zs,b,ρ,st,hi,hj,.inl ⟨hb,rfl⟩,λH' O' st' k'=>⟨b,rfl,?_⟩⟩
      cases b with
      | true =>
       rw [if_pos rfl] at q
       exact ⟨B,O₀,O',ρ,st',cQ.trans q k'⟩
      | false =>
       rw [if_neg (by decide)] at q
       exact ⟨B,O₀,O',ρ,st',cQ.trans q k'⟩
     ·split at q
      ·rename_i b ys hb
       cases b with
       | true =>
        rw [if_pos rfl] at q
        refine ⟨B,O₀,O,ρ,m,fs,xs,zs,true,_,st,hi,hj,.inr ⟨ys,hb,rfl⟩,λH' O' st' k'=>⟨true,rfl,?_⟩⟩
        exact ⟨B,O₀,O',_,st',cQ.trans q k'⟩
       | false =>
        rw [if_neg (by decide)] at q
        exact (show False from q).elim
      ·exact (show False from q).elim
    | _=>exact (show False from q).elim
   | _=>exact (show False from q).elim
noncomputable def tP (K:PySem.W.Frag) (cal:Cal) (w x:ME) (i:Nat):TS:=λD σ H=>∃ B O₀ O ρ a b c us,az K B O₀ O H ρ σ/\evB cal w ρ=some true/\ev cal x ρ=some (.int a)/\σ[i]?=some (some (.ref c))/\H c=some (.lst us)/\us[us.length - 1]?=some (.int b)/\∀ H',af H H'->D.rt (.bl (a == b)) (upd H' c (.lst us.dropLast))
theorem wF {w x:ME}{i:Nat}{s:Stmt} (g:Gf X T k cal) (hc:cI T X.N X.env.scope (.retAP w x i) s=true):PS X s (tP X.K cal w x i):=by
 obtain ⟨v,e1,hc⟩:=au hc
 obtain ⟨q,e2,hc⟩:=au hc
 obtain ⟨rp,rfl⟩:=gE e1
 obtain ⟨yp,p1,p2,rfl⟩:=wd e2
 obtain ⟨hc,h5⟩:=Bool.and_eq_true_iff.mp hc
 obtain ⟨hc,h4⟩:=Bool.and_eq_true_iff.mp hc
 obtain ⟨hc,h3⟩:=Bool.and_eq_true_iff.mp hc
 obtain ⟨h1,h2⟩:=Bool.and_eq_true_iff.mp hc
 rw [eq_of_beq h4]
 refine (iY (q_ (al w g h1).1 (m9 (k7 (eX g.units .eq) (al x g h2).1 (rM PySem.F.plainAttrs_list PySem.F.slot_list_pop PySem.F.type_list_pop rO (aL h3) rfl h5) (iX _ (by decide) (by decide)))))).imp λD σ H q=>?_
 obtain ⟨B,O₀,O,ρ,a,b,c,us,st,ew,ex',eu,hcc,hb,q⟩:=q
 have ew':ev cal w ρ=some (.bl true):=by
  unfold evB at ew
  rw [Option.bind_eq_some_iff] at ew
  obtain ⟨z,z1,z2⟩:=ew
  cases z <;> first|(cases z2;done)|(cases z2;exact z1)
 refine ⟨B,O₀,O,ρ,.bl true,st,ew',λu H1 s1 g1=>⟨true,g1.1.bl,?_⟩⟩
 rw [if_pos rfl]
 refine ⟨B,O₀,O,ρ,.int a,st.mono s1,ex',λux H2 s2 g2=>?_⟩
 rw [g2.1.int]
 refine ⟨_,eu,.inl ⟨rfl,us,SqL.of (s2 _ _ (s1 _ _ hcc))⟩,c,us,.int b,rfl,rfl,s2 _ _ (s1 _ _ hcc),hb,?_⟩
 exact ⟨[],.int a,.int b,a == b,.inl (cK _ _),.inl (cK _ _),by show eqF 100 _ _=_;rw [eqF],q H2 (s1.trans s2)⟩
end
end MM
namespace MM
open PySem PySem.Spec PyProof.Rows L2
section
variable {K:PySem.W.Frag}{B H:Hp}{O₀ O:List Addr}{ρ:Rho}{σ:St}
theorem Bu {H1 H':Hp}{O' L:List Addr}{ρ':Rho}{σ':St} (st':az K (bo B O H1 L) O₀ O' H' ρ' σ') (k:aV (bo B O H1 L) O O' ρ ρ' σ σ'):af (aj H1 O) (aj H' O'):=λb u e=>by
 have hb:b ∉ O:=λz=>by rw [c5 z] at e;cases e
 have hg:bo B O H1 L b=some u:=bS b u e
 rw [aJ]
 ·exact st'.keep b u hg
 ·intro z
  rcases k.new b z with q|q
  ·exact hb q
  ·rw [hg] at q;cases q
theorem wG {ms:List ME} (st:az K B O₀ O H ρ σ):az K (bo B O H (aM ms ρ σ)) O₀ O H (bv ms ρ) σ/\(bv ms ρ).length=ρ.length:=by
 have base:∀ L:List Addr,(∀ a ∈ L,∀ (j:Nat) (ys:MV),(bv ms ρ)[j]?=some (some ys)->dl ys=true->σ[j]? ≠ some (some (.ref a)))->(∀ (j:Nat) (m:MV),(bv ms ρ)[j]?=some (some m)->(∃ ys,m=.brw ys/\ρ[j]?=some (some (.own ys))/\∃ a,σ[j]?=some (some (.ref a))/\a ∈ L) \/ ρ[j]?=some (some m))->(bv ms ρ).length=ρ.length ->
   (∀ a ∈ L,∀ (j:Nat) (m1:MV) (c l:Addr),ρ[j]?=some (some m1)->isL m1=true->σ[j]?=some (some (.ref c))->lOf (H c)=some l->a ≠ l) ->
   az K (bo B O H L) O₀ O H (bv ms ρ) σ:=λL h1 h2 h3 h4=>by
  have gl:=mM (O:=O) (L:=L) st.keep
  have lg:=cN (O:=O) (L:=L) st.keep
  refine ⟨gl,st.here,st.sub,λa ha z=>st.old a ha (lg.free z),h3.trans st.len,λj m e=>?_,λc d ps qs ad hcd e1 e2 p1 p2 e3 e4=>?_
   ,c_ st.inn (λj mo e l0=>by
    rcases h2 j _ e with ⟨_,z,_⟩|e2
    ·rw [z] at l0;cases l0
    ·exact ⟨⟨mo,e2,l0⟩,rfl,λ_ _ _ h=>h⟩) λj m c e _ o ec=>.inl (by
    rcases h2 j _ e with ⟨_,z,_⟩|e2
    ·rw [z] at o;cases o
    ·exact ⟨m,e2,o,ec⟩)
   ⟩
  ·rcases h2 j m e with ⟨ys,rfl,e2,a,ea,haL⟩|e2
   ·obtain ⟨u,eu,a',us,rfl,q1,q2,q3,q4⟩:=st.slot j _ e2
    rw [ea] at eu
    cases eu
    refine ⟨_,ea,a,us,rfl,SqL.of ?_,q2⟩
    unfold bo
    rw [if_pos q3,if_pos haL]
    exact q1
   ·obtain ⟨u,eu,q⟩:=st.slot j m e2
    refine ⟨u,eu,?_⟩
    cases m with
    | val v=>exact q
    | own ys =>
     obtain ⟨a,us,rfl,q1,q2,q3,q4⟩:=q
     refine ⟨a,us,rfl,q1,q2,q3,?_⟩
     unfold bo
     rw [if_pos q3,if_neg λhaL=>h1 a haL j (.own ys) e rfl eu]
     exact q4
    | ownD ys =>
     obtain ⟨a,rfl,q1,q3,q4⟩:=q
     refine ⟨a,rfl,q1,q3,?_⟩
     unfold bo
     rw [if_pos q3,if_neg λhaL=>h1 a haL j (.ownD ys) e rfl eu]
     exact q4
    | ownO b fs ys =>
     obtain ⟨a,l,rfl,q⟩:=q
     refine ⟨a,l,rfl,q.move (af.refl _) (λ_ h=>h) (λ_ h=>h) q.aO q.lO ?_ ?_⟩
     ·unfold bo
      rw [if_pos q.aO,if_neg λhaL=>h1 a haL j (.ownO b fs ys) e rfl eu]
      exact q.aB
     ·unfold bo
      rw [if_pos q.lO,if_neg λhbL=>h4 l hbL j _ a l e2 rfl eu q.l rfl]
      exact q.lB
    | brwO fs ys=>obtain ⟨a,rfl,q⟩:=q;exact ⟨a,rfl,q.move lg (af.refl _)⟩
    | brwD ys=>obtain ⟨a,rfl,q1⟩:=q;exact ⟨a,rfl,af.rd lg q1⟩
    | brw ys=>obtain ⟨a,us,rfl,q1,q2⟩:=q;exact ⟨a,us,rfl,lg.seq q1,q2⟩
  ·rcases h2 c _ e1 with ⟨_,rfl,_⟩|e1
   ·cases p1
   ·rcases h2 d _ e2 with ⟨_,rfl,_⟩|e2
    ·cases p2
    ·exact st.apart c d ps qs ad hcd e1 e2 p1 p2 e3 e4
 have plain:bv ms ρ=ρ->aM ms ρ σ=[]->az K (bo B O H (aM ms ρ σ)) O₀ O H (bv ms ρ) σ/\(bv ms ρ).length=ρ.length:=λe1 e2=>by
  rw [e2]
  exact ⟨base [] (λa ha=>by simp at ha) (λj m e=>.inr (by rw [e1] at e;exact e)) (by rw [e1]) (λa ha=>by simp at ha),by rw [e1]⟩
 match ms with
 | []=>exact plain rfl rfl
 | [.bor i] =>
  cases hj:(ρ[i]?).join with
  | none=>exact plain (by simp [bv,hj]) (by simp [aM,hj])
  | some m =>
   cases m with
   | val _=>exact plain (by simp [bv,hj]) (by simp [aM,hj])
   | brw _=>exact plain (by simp [bv,hj]) (by simp [aM,hj])
   | ownD _=>exact plain (by simp [bv,hj]) (by simp [aM,hj])
   | ownO _ _ _=>exact plain (by simp [bv,hj]) (by simp [aM,hj])
   | brwO _ _=>exact plain (by simp [bv,hj]) (by simp [aM,hj])
   | brwD _=>exact plain (by simp [bv,hj]) (by simp [aM,hj])
   | own xs =>
    have el:bv [.bor i] ρ=put ρ i (.brw xs):=by simp [bv,hj]
    have e0:=join_some hj
    obtain ⟨u,eu,a,us,rfl,q1,q2,q3,q4⟩:=st.slot i _ e0
    have eL:aM [.bor i] ρ σ=[a]:=by simp [aM,hj,eu]
    have hi':i < ρ.length:=(List.getElem?_eq_some_iff.mp e0).1
    rw [eL]
    refine ⟨base [a] (λb hb j ys e oy z=>?_) (λj m e=>?_) (by rw [el,put_len]) (λb hb j m1 c l f1 f0 f2 f3=>by
     rw [List.mem_singleton.mp hb]
     exact (st.inn j m1 c l f1 f0 f2 f3 i (.own xs) (λz=>by subst z;rw [e0] at f1;cases f1;cases f0) e0).2 a rfl eu),by rw [el,put_len]⟩
    ·have:b=a:=by simpa using hb
     subst this
     rw [el] at e
     have hj':i ≠ j:=λz=>by subst z;rw [ac hi'] at e;cases e;cases oy
     rw [aa hj'] at e
     exact st.apart i j (.own xs) ys b hj' e0 e rfl oy eu z
    ·rw [el] at e
     by_cases hij:i=j
     ·subst hij
      rw [ac hi'] at e
      cases e
      exact .inl ⟨xs,rfl,e0,a,eu,by simp⟩
     ·rw [aa hij] at e
      exact .inr e
 | .var _::_=>exact plain rfl rfl
 | .cst _::_=>exact plain rfl rfl
 | .glob _ _::_=>exact plain rfl rfl
 | .bin _ _ _::_=>exact plain rfl rfl
 | .neg _::_=>exact plain rfl rfl
 | .not _::_=>exact plain rfl rfl
 | .and _ _::_=>exact plain rfl rfl
 | .or _ _::_=>exact plain rfl rfl
 | .ite _ _ _::_=>exact plain rfl rfl
 | .cmp _ _ _::_=>exact plain rfl rfl
 | .chain _ _ _ _ _::_=>exact plain rfl rfl
 | .tup _::_=>exact plain rfl rfl
 | .lst _::_=>exact plain rfl rfl
 | .idx _ _::_=>exact plain rfl rfl
 | .slice _ _ _::_=>exact plain rfl rfl
 | .blt _ _::_=>exact plain rfl rfl
 | .call _ _::_=>exact plain rfl rfl
 | .callD _ _ _::_=>exact plain rfl rfl
 | .comp _ _ _ _ _::_=>exact plain rfl rfl
 | .dget _ _ _::_=>exact plain rfl rfl
 | .dat _ _::_=>exact plain rfl rfl
 | .dIn _ _ _::_=>exact plain rfl rfl
 | .fld _ _::_=>exact plain rfl rfl
 | .fldL _::_=>exact plain rfl rfl
 | .inO _ _ _::_=>exact plain rfl rfl
 | .lenO _::_=>exact plain rfl rfl
 | .callM _ _ _::_=>exact plain rfl rfl
 | .comp2 _ _ _ _::_=>exact plain rfl rfl
 | .callV _ _::_=>exact plain rfl rfl
 | .bor _::_::_=>exact plain rfl rfl
theorem gT {ms:List ME}{j:Nat}{ys:List PV} (h:(bv ms ρ)[j]?=some (some (.brw ys))):ρ[j]?=some (some (.brw ys)) \/ (ms=[.bor j]/\ρ[j]?=some (some (.own ys))):=by
 unfold bv at h
 split at h
 ·rename_i i
  split at h
  ·rename_i xs hj
   have e0:=join_some hj
   have hi':i < ρ.length:=(List.getElem?_eq_some_iff.mp e0).1
   by_cases hij:i=j
   ·subst hij
    rw [ac hi'] at h
    cases h
    exact .inr ⟨rfl,e0⟩
   ·rw [aa hij] at h
    exact .inl h
  ·exact .inl h
 ·exact .inl h
theorem il {ms:List ME}{j:Nat}{ys:DD} (h:(bv ms ρ)[j]?=some (some (.brwD ys))):ρ[j]?=some (some (.brwD ys)):=by
 unfold bv at h
 split at h
 ·rename_i i
  split at h
  ·rename_i xs hj
   have e0:=join_some hj
   have hi':i < ρ.length:=(List.getElem?_eq_some_iff.mp e0).1
   by_cases hij:i=j
   ·subst hij
    rw [ac hi'] at h
    cases h
   ·rw [aa hij] at h
    exact h
  ·exact h
 ·exact h
theorem fR {ms:List ME}{j:Nat}{m:MV} (hb:∀ xs,m ≠ .brw xs) (h:(bv ms ρ)[j]?=some (some m)):ρ[j]?=some (some m):=by
 unfold bv at h
 split at h
 ·rename_i i
  split at h
  ·rename_i xs hj
   have e0:=join_some hj
   have hi':i < ρ.length:=(List.getElem?_eq_some_iff.mp e0).1
   by_cases hij:i=j
   ·subst hij
    rw [ac hi'] at h
    cases h
    exact absurd rfl (hb xs)
   ·rw [aa hij] at h
    exact h
  ·exact h
 ·exact h
theorem jA {ms:List ME}:(bv ms ρ).length=ρ.length:=by
 unfold bv
 split
 ·split
  ·exact put_len
  ·rfl
 ·rfl
theorem lN {ms:List ME}{H1 H':Hp}{O':List Addr}{ρ':Rho}{σ':St} (st:az K B O₀ O H1 ρ σ) (st':az K (bo B O H1 (aM ms ρ σ)) O₀ O' H' ρ' σ') (k:aV (bo B O H1 (aM ms ρ σ)) O O' (bv ms ρ) ρ' σ σ') :
  az K B O₀ O' H' (bh ms ρ ρ') σ'/\aV B O O' ρ (bh ms ρ ρ') σ σ':=by
 have lg:=cN (O:=O) (L:=aM ms ρ σ) st.keep
 have vis:=Bu st' k
 have stay:∀ a,B a ≠ none->a ∈ O->a ∈ O':=λa h1 h2=>k.stay a (λz=>h1 (lg.free z)) h2
 have new:∀ a ∈ O',a ∈ O \/ B a=none:=λa h=>(k.new a h).imp id lg.free
 have mutO:∀ (j:Nat) (fs xs:List PV),ρ'[j]?=some (some (.ownO true fs xs))->(∃ ys,ρ[j]?=some (some (.ownO true fs ys)))/\σ'[j]?=σ[j]?:=λj fs xs e=>by
  obtain ⟨⟨d,e1⟩,e2⟩:=k.mutO j fs xs e
  exact ⟨⟨d,fR (λ_ z=>by cases z) e1⟩,e2⟩
 have slot:∀ (j:Nat) (m:MV),ρ'[j]?=some (some m)->(∀ ys,m=.brw ys->¬ (ms=[.bor j]/\ρ[j]?=some (some (.own ys))))->∃ u,σ'[j]?=some (some u)/\dP K B O' H' m u:=λj m e hn=>by
  obtain ⟨u,eu,q⟩:=st'.slot j m e
  refine ⟨u,eu,?_⟩
  cases m with
  | val v=>exact q
  | own ys=>obtain ⟨a,us,rfl,q1,q2,q3,q4⟩:=q;exact ⟨a,us,rfl,q1,q2,q3,lg.free q4⟩
  | brw ys =>
   obtain ⟨e1,e2⟩:=k.brw j (.brw ys) rfl e
   rcases gT e1 with e3|e3
   ·obtain ⟨w,ew,a,us,rfl,q1,q2⟩:=st.slot j _ e3
    rw [eu,ew] at e2
    cases e2
    exact ⟨a,us,rfl,q1,Reps.mono vis _ q2⟩
   ·exact absurd e3 (hn ys rfl)
  | ownD ys=>obtain ⟨a,rfl,q1,q3,q4⟩:=q;exact ⟨a,rfl,q1,q3,lg.free q4⟩
  | ownO b fs ys=>obtain ⟨a,l,rfl,q⟩:=q;exact ⟨a,l,rfl,q.move (af.refl _) (λ_ h=>h) (λ_ h=>h) q.aO q.lO (lg.free q.aB) (lg.free q.lB)⟩
  | brwO fs ys =>
   obtain ⟨e1,e2⟩:=k.brw j (.brwO fs ys) rfl e
   obtain ⟨w,ew,a,rfl,q1⟩:=st.slot j _ (fR (λ_ z=>by cases z) e1)
   rw [eu,ew] at e2
   cases e2
   exact ⟨a,rfl,q1.move (af.refl B) vis⟩
  | brwD ys =>
   obtain ⟨e1,e2⟩:=k.brw j (.brwD ys) rfl e
   obtain ⟨w,ew,a,rfl,q1⟩:=st.slot j _ (il e1)
   rw [eu,ew] at e2
   cases e2
   exact ⟨a,rfl,q1⟩
 by_cases hA:∃ i xs0 xs,ms=[.bor i]/\(ρ[i]?).join=some (.own xs0)/\(ρ'[i]?).join=some (.brw xs)
 ·obtain ⟨i,xs0,xs,rfl,h0,h1⟩:=hA
  have eb:bh [.bor i] ρ ρ'=put ρ' i (.own xs):=by simp [bh,h0,h1]
  rw [eb]
  have e0:=join_some h0
  have e1:=join_some h1
  have hi':i < ρ'.length:=(List.getElem?_eq_some_iff.mp e1).1
  obtain ⟨el,es⟩:=k.brw i (.brw xs) rfl e1
  have exs:xs=xs0:=by
   rcases gT el with e3|⟨_,e3⟩
   ·rw [e0] at e3;cases e3
   ·rw [e0] at e3;cases e3;rfl
  subst exs
  obtain ⟨w,ew,a,us,rfl,q1,q2,q3,q4⟩:=st.slot i _ e0
  have eL:aM [.bor i] ρ σ=[a]:=by simp [aM,h0,ew]
  have ga:bo B O H1 (aM [.bor i] ρ σ) a=some (.lst us):=by
   unfold bo
   rw [eL,if_pos q3,if_pos (by simp)]
   exact q1
  have other:∀ (j:Nat) (ys:MV) (ad:Addr),ρ'[j]?=some (some ys)->dl ys=true->σ'[j]?=some (some (.ref ad))->ad ≠ a:=λj ys ad h1 oy h2 z=>by
   obtain ⟨u,eu,qq⟩:=st'.slot j _ h1
   rw [h2] at eu
   cases eu
   cases ys with
   | own ys =>
    obtain ⟨b,_,e2,_,_,_,q⟩:=qq
    cases e2
    rw [z,ga] at q
    cases q
   | ownD ys =>
    obtain ⟨b,e2,_,_,q⟩:=qq
    cases e2
    rw [z,ga] at q
    cases q
   | ownO _ _ _ =>
    obtain ⟨b,l,e2,q⟩:=qq
    cases e2
    have q:=q.aB
    rw [z,ga] at q
    cases q
   | brwO _ _=>cases oy
   | val _=>cases oy
   | brw _=>cases oy
   | brwD _=>cases oy
  refine ⟨⟨lg.trans st'.keep,st'.here,st'.sub,st.old,by rw [put_len];exact st'.len,λj m e=>?_,λc d ps qs ad hcd e1 e2 p1 p2 e3 e4=>?_
   ,c_ st'.inn (λj mo e l0=>by
    have hj:i ≠ j:=λz=>by subst z;rw [ac hi'] at e;cases e;cases l0
    rw [aa hj] at e
    exact ⟨⟨mo,e,l0⟩,rfl,λ_ _ _ h=>h⟩) λj m c e _ o ec=>by
    by_cases hj:i=j
    ·subst hj
     rw [es,ew] at ec
     cases ec
     refine .inr λk' m1 a' l' f1 f0 f2 f3 z=>?_
     obtain ⟨u,e3,q⟩:=st'.slot k' _ f1
     rw [f2] at e3
     cases e3
     cases m1 <;> try (cases f0;done)
     obtain ⟨a2,l2,e4,q⟩:=q
     cases e4
     have e6:=q.l
     rw [e6] at f3
     cases f3
     have:=q.lB
     rw [<- z,ga] at this
     cases this
    ·rw [aa hj] at e
     exact .inl ⟨m,e,o,ec⟩
   ⟩,⟨stay,new,λj ys hbm e=>?_,by rw [put_len];exact k.len.trans jA
   ,λj fs xs e=>by
    have hj:i ≠ j:=λz=>by subst z;rw [ac hi'] at e;cases e
    rw [aa hj] at e
    exact mutO j fs xs e
   ⟩⟩
  ·by_cases hij:i=j
   ·subst hij
    rw [ac hi'] at e
    cases e
    refine ⟨_,by rw [es];exact ew,a,us,rfl,st'.keep _ _ ga,Reps.mono vis _ q2,k.stay a (by rw [ga];simp) q3,q4⟩
   ·rw [aa hij] at e
    exact slot j m e λys _ ⟨z,_⟩=>hij (by cases z;rfl)
  ·by_cases hc:i=c
   ·subst hc
    rw [es,ew] at e3
    cases e3
    rw [aa hcd] at e2
    exact other d qs _ e2 p2 e4 rfl
   ·rw [aa hc] at e1
    by_cases hd:i=d
    ·subst hd
     rw [es,ew] at e4
     cases e4
     exact other c ps _ e1 p1 e3 rfl
    ·rw [aa hd] at e2
     exact st'.apart c d ps qs ad hcd e1 e2 p1 p2 e3 e4
  ·by_cases hij:i=j
   ·subst hij
    rw [ac hi'] at e
    cases e
    cases hbm
   ·rw [aa hij] at e
    obtain ⟨e1,e2⟩:=k.brw j ys hbm e
    cases ys with
    | brw ys =>
     rcases gT e1 with e3|⟨z,_⟩
     ·exact ⟨e3,e2⟩
     ·cases z;exact absurd rfl hij
    | brwD ys=>exact ⟨il e1,e2⟩
    | val _=>cases hbm
    | own _=>cases hbm
    | ownD _=>cases hbm
    | ownO _ _ _=>cases hbm
    | brwO fs ys=>exact ⟨fR (λ_ z=>by cases z) e1,e2⟩
 ·have eb:bh ms ρ ρ'=ρ':=by
   unfold bh
   split
   ·rename_i i
    split
    ·rename_i xs0 xs h0 h1
     exact absurd ⟨i,xs0,xs,rfl,h0,h1⟩ hA
    ·rfl
   ·rfl
  rw [eb]
  have no:∀ (j:Nat) (ys:List PV),ρ'[j]?=some (some (.brw ys))->¬ (ms=[.bor j]/\ρ[j]?=some (some (.own ys))):=λj ys e ⟨h1,h2⟩=>hA ⟨j,ys,ys,h1,by rw [h2];rfl,by rw [e];rfl⟩
  refine ⟨⟨lg.trans st'.keep,st'.here,st'.sub,st.old,st'.len,λj m e=>slot j m e λys z=>no j ys (by rw [e,z]),st'.apart
   ,st'.inn
   ⟩,⟨stay,new,λj ys hbm e=>?_,k.len.trans jA
   ,mutO
   ⟩⟩
  obtain ⟨e1,e2⟩:=k.brw j ys hbm e
  cases ys with
  | brw ys =>
   rcases gT e1 with e3|e3
   ·exact ⟨e3,e2⟩
   ·exact absurd e3 (no j ys e)
  | brwD ys=>exact ⟨il e1,e2⟩
  | val _=>cases hbm
  | own _=>cases hbm
  | ownD _=>cases hbm
  | ownO _ _ _=>cases hbm
  | brwO fs ys=>exact ⟨fR (λ_ z=>by cases z) e1,e2⟩
end
section
variable {X:Cx}{T:Tab}{k:Nat}{cal:Cal}
noncomputable def zt (K:PySem.W.Frag) (n:Nat) (g:TG) (tk:PV->Rho->Option Rho):Prop :=
 ∀ (B:Hp) (O₀ O:List Addr) (H:Hp) (ρ ρ':Rho) (σ:St) (x:PV) (u:V) (Q:St->Hp->Prop),σ.length=n->az K B O₀ O H ρ σ->Rep K (aj H O) x u->tk x ρ=some ρ' ->
  (∀ σ',az K B O₀ O H ρ' σ'->aV B O O ρ ρ' σ σ'->Q σ' H)->g u σ H Q
theorem tR {K:PySem.W.Frag}{n:Nat}{k':Sk}{ms:List ME}{g:TG}{tk:PV->Rho->Option Rho}{body:List MS}{D:fm}{σ:St}{H:Hp} (hn:σ.length=n) (hg:zt K n g tk) {B:Hp}{O₀ O:List Addr}{ρ:Rho}{vs xs:List PV} (st:az K B O₀ O H ρ σ) (e1:evs cal ms ρ=some vs) (e2:cw k' vs=some xs)
  (q:cQ K B O₀ O ρ σ D ((bU (λx ρ'=>fD (tk x ρ') λρ''=>exs cal body ρ'') xs (bv ms ρ)).back ms ρ)):Ax (tW K cal k' ms) g (tSs K cal body) D σ H:=by
 refine ⟨B,O₀,O,ρ,vs,xs,st,e1,e2,λJ H1 s1 it=>?_⟩
 have st1:=st.mono s1
 obtain ⟨stL,_⟩:=wG (ms:=ms) st1
 refine ⟨λi m σ' H'=>m=xs.length - i/\i <= xs.length/\∃ ρ' O',az K (bo B O H1 (aM ms ρ σ)) O₀ O' H' ρ' σ'/\aV (bo B O H1 (aM ms ρ σ)) O O' (bv ms ρ) ρ' σ σ' /\
  bU (λx ρ'=>fD (tk x ρ') λρ''=>exs cal body ρ'') (xs.drop i) ρ'=bU (λx ρ'=>fD (tk x ρ') λρ''=>exs cal body ρ'') xs (bv ms ρ),⟨xs.length,by simp,Nat.zero_le _,bv ms ρ,O,stL,.refl,by simp⟩,?_⟩
 rintro i m σ' H' ⟨rfl,hi,ρ',O',st',k',eq⟩
 by_cases hlt:i < xs.length
 ·right
  have ex:xs[i]?=some xs[i]:=List.getElem?_eq_getElem hlt
  refine ⟨it.go i _ H' st'.keep ex,λσ2 H2=>∃ m',m' < xs.length - i/\(m'=xs.length - (i + 1)/\i + 1 <= xs.length/\∃ ρ' O',az K (bo B O H1 (aM ms ρ σ)) O₀ O' H2 ρ' σ2/\aV (bo B O H1 (aM ms ρ σ)) O O' (bv ms ρ) ρ' σ σ2 /\
   bU (λx ρ'=>fD (tk x ρ') λρ''=>exs cal body ρ'') (xs.drop (i + 1)) ρ'=bU (λx ρ'=>fD (tk x ρ') λρ''=>exs cal body ρ'') xs (bv ms ρ)),λσ2 H2 z=>z,λu H2 y=>?_⟩
  obtain ⟨s2,hr⟩:=it.yld i _ H' u H2 st'.keep ex y
  have vis:=Bu st' k'
  have hx:Rep K (aj H2 O') xs[i] u:=hr O' st'.here (vis.trans (am s2))
  rw [List.drop_eq_getElem_cons hlt,bU] at eq
  cases et:tk xs[i] ρ' with
  | none =>
   rw [et] at eq
   rw [<- eq] at q
   exact (show False from q).elim
  | some ρ2 =>
   rw [et,show fD (some ρ2) (λρ''=>exs cal body ρ'')=exs cal body ρ2 from rfl] at eq
   have hlen:σ'.length=n:=by rw [<- st'.len,k'.len,jA,st.len];exact hn
   refine hg _ O₀ O' H2 ρ' ρ2 σ' _ u _ hlen (st'.mono s2) hx et λσ2 st2 k2=>?_
   refine ⟨_,O₀,O',ρ2,st2,?_⟩
   have kk:=k'.trans k2
   cases er:exs cal body ρ2 with
   | next ρ3 =>
    rw [er] at eq
    exact λσ3 H3 O3 st3 k3=>⟨_,by omega,rfl,hlt,ρ3,O3,st3,kk.trans k3,eq⟩
   | cont ρ3 =>
    rw [er] at eq
    exact λσ3 H3 O3 st3 k3=>⟨_,by omega,rfl,hlt,ρ3,O3,st3,kk.trans k3,eq⟩
   | brk ρ3 =>
    rw [er] at eq
    rw [<- eq] at q
    exact λσ3 H3 O3 st3 k3=>by
     obtain ⟨stb,kb⟩:=lN st1 st3 (kk.trans k3)
     exact q σ3 H3 O3 stb kb
   | ret v =>
    rw [er] at eq
    rw [<- eq] at q
    exact λw H3 s3 r=>q w H3 ((cN st1.keep).trans s3) r
   | retT v ρ3 =>
    rw [er] at eq
    rw [<- eq] at q
    exact λσ3 H3 O3 st3 k3=>by
     obtain ⟨stb,kb⟩:=lN st1 st3 (kk.trans k3)
     exact q σ3 H3 O3 stb kb
   | retF ys =>
    rw [er] at eq
    rw [<- eq] at q
    exact λp us H3 s3 hp he r=>q p us H3 ((cN st1.keep).trans s3) ((cN st1.keep).free hp) he r
   | bad =>
    rw [er] at eq
    rw [<- eq] at q
    exact (show False from q).elim
 ·left
  have ei:i=xs.length:=by omega
  subst ei
  rw [List.drop_length,bU] at eq
  rw [<- eq] at q
  obtain ⟨stb,kb⟩:=lN st1 st' k'
  exact ⟨it.stop H' st'.keep,q σ' H' O' stb kb⟩
theorem wH {K:PySem.W.Frag}{n i:Nat} (hi:i < n):zt K n (fq i) (λx ρ=>some (put ρ i (.val x))):=by
 intro B O₀ O H ρ ρ' σ x u Q hn st r e q
 cases e
 obtain ⟨st',k'⟩:=st.store (i:=i) (by omega) r
 exact q _ st' k'
theorem zu {i:Nat}{k':Sk}{src:List ME}{body:List MS}{x:Str}{px pos:Pos}{it:Expr}{b:List Stmt} (g:Gf X T k cal) (d:Df X) (hi:X.N[i]?=some x) (hx:Loc X.env.scope x) (hw:PI X (.Name x px) it (tW X.K cal k' src)) (hns:eU it=true) (hb:PSs X b (tSs X.K cal body)) :
  PS X (.For (.Name x px) it b [] pos) (tS X.K cal (.for1 i k' src body)):=by
 refine PS.imp' (ri d.own g.calm hw (k4 d.nd hi hx (.inl (d.fn x))) hb (by intro v;cases it <;> first|rfl|(simp [eU] at hns))) λD σ H hl q=>?_
 obtain ⟨B,O₀,O,ρ,st,q⟩:=q
 rw [ex] at q
 cases e:(evs cal src ρ).bind (cw k') with
 | none=>rw [e] at q;exact (show False from q).elim
 | some xs =>
  rw [e] at q
  simp only [Option.bind_eq_some_iff] at e
  obtain ⟨vs,e1,e2⟩:=e
  exact tR (tk:=λx ρ=>some (put ρ i (.val x))) rfl (wH (ltN hi hl)) st e1 e2 q
end
end MM
namespace MM
open PySem PySem.Spec PyProof.Rows L2
noncomputable def jB:List Nat->TGs
 | []=>As
 | i::is=>xk (fq i) (jB is)
section
variable {X:Cx}{T:Tab}{k:Nat}{cal:Cal}
theorem jC:∀ {is:List Nat}{ts:List Expr},c6 X.N X.env.scope is ts=true->(assignEach ts X.env).length=is.length/\(assignEach ts X.env).findIdx? (·.1)=none
 | [],[],_=>⟨rfl,rfl⟩
 | [],_::_,h=>by cases h
 | _::_,[],h=>by cases h
 | i::is,e::ts,h=>by
  cases e <;> first|(cases h;done)|skip
  simp only [lA,Bool.and_eq_true] at h
  rename_i x p
  obtain ⟨h1,h2⟩:=jC h.2
  refine ⟨?_,?_⟩
  ·show ((false,assign (.Name x p) X.env)::assignEach ts X.env).length=_
   simp [h1]
  ·show ((false,assign (.Name x p) X.env)::assignEach ts X.env).findIdx? (·.1)=none
   rw [List.findIdx?_cons]
   simp [h2]
theorem kK (d:Df X):∀ {is:List Nat}{ts:List Expr},c6 X.N X.env.scope is ts=true->PGs X ts (jB is)
 | [],[],_=>vf
 | [],_::_,h=>by cases h
 | _::_,[],h=>by cases h
 | i::is,e::ts,h=>by
  cases e <;> first|(cases h;done)|skip
  simp only [lA,Bool.and_eq_true,beq_iff_eq] at h
  rename_i x p
  exact rf (k4 d.nd h.1.1.1 (f6 h.1.1.2) (.inl (d.fn x))) (kK d h.2) rfl
theorem mU:∀ {is:List Nat}{ts:List Expr},c6 X.N X.env.scope is ts=true->∀ i ∈ is,i < X.N.length
 | [],[],_=>λi hi=>by simp at hi
 | [],_::_,h=>by cases h
 | _::_,[],h=>by cases h
 | i::is,e::ts,h=>λj hj=>by
  cases e <;> first|(cases h;done)|skip
  simp only [lA,Bool.and_eq_true,beq_iff_eq] at h
  rcases List.mem_cons.mp hj with rfl|hj
  ·exact (List.getElem?_eq_some_iff.mp h.1.1.1).1
  ·exact mU h.2 j hj
theorem pq {K:PySem.W.Frag}:∀ {is:List Nat}{vs:List PV}{us:List V}{B:Hp}{O₀ O:List Addr}{H:Hp}{ρ ρ':Rho}{σ:St}{Q:St->Hp->Prop},(∀ i ∈ is,i < σ.length)->az K B O₀ O H ρ σ->Reps K (aj H O) vs us->jV is vs ρ=some ρ' ->
  (∀ σ',az K B O₀ O H ρ' σ'->aV B O O ρ ρ' σ σ'->Q σ' H)->jB is us σ H Q
 | [],[],us,_,_,_,_,_,_,_,_,_,st,r,e,q=>by
  rw [Reps] at r
  subst r
  cases e
  exact ⟨rfl,q _ st .refl⟩
 | [],_::_,_,_,_,_,_,_,_,_,_,_,_,_,e,_=>by simp [jV] at e
 | _::_,[],_,_,_,_,_,_,_,_,_,_,_,_,e,_=>by simp [jV] at e
 | i::is,v::vs,us,B,O₀,O,H,ρ,ρ',σ,Q,hi,st,r,e,q=>by
  rw [Reps] at r
  obtain ⟨u,r',rfl,r1,r2⟩:=r
  rw [jV] at e
  obtain ⟨st1,k1⟩:=st.store (i:=i) (hi i (.head _)) r1
  refine ⟨u,r',rfl,?_⟩
  show jB is r' (σ.set i (some u)) H Q
  exact pq (λj hj=>by rw [List.length_set];exact hi j (.tail _ hj)) st1 r2 e λσ' st' k'=>q σ' st' (k1.trans k')
theorem zv {K:PySem.W.Frag}{n:Nat}{is:List Nat} (hi:∀ i ∈ is,i < n):zt K n (At K is.length (jB is)) (jn is):=by
 intro B O₀ O H ρ ρ' σ x u Q hn st r e q
 cases x with
 | tup vs =>
  rw [Rep] at r
  obtain ⟨a,us,rfl,sq,rs⟩:=r
  have hl:∀ {is:List Nat}{vs:List PV}{ρ ρ':Rho},jV is vs ρ=some ρ'->vs.length=is.length:=by
   intro is
   induction is with
   | nil=>intro vs ρ ρ' h;cases vs <;> simp [jV] at h ⊢
   | cons i is ih=>intro vs ρ ρ' h;cases vs <;> simp [jV] at h ⊢;exact ih h
  exact ⟨a,us,rfl,(bb H O).seqT (SqT.of sq),by rw [<- rs.length];exact hl e,pq (λi h=>by rw [hn];exact hi i h) st rs e q⟩
 | _=>cases e
theorem zw {is:List Nat}{k':Sk}{src:List ME}{body:List MS}{ts:List Expr}{j:Nat}{tp pos:Pos}{it:Expr}{b:List Stmt} (g:Gf X T k cal) (d:Df X) (hi:c6 X.N X.env.scope is ts=true) (hw:PI X (.Tuple ts j tp) it (tW X.K cal k' src)) (hns:eU it=true) (hb:PSs X b (tSs X.K cal body)) :
  PS X (.For (.Tuple ts j tp) it b [] pos) (tS X.K cal (.forT is k' src body)):=by
 obtain ⟨h1,h2⟩:=jC hi
 refine PS.imp' (ri d.own g.calm hw (xY g.calm (kK d hi) h1 h2) hb (by intro v;cases it <;> first|rfl|(simp [eU] at hns))) λD σ H hl q=>?_
 obtain ⟨B,O₀,O,ρ,st,q⟩:=q
 rw [ex] at q
 cases e:(evs cal src ρ).bind (cw k') with
 | none=>rw [e] at q;exact (show False from q).elim
 | some xs =>
  rw [e] at q
  simp only [Option.bind_eq_some_iff] at e
  obtain ⟨vs,e1,e2⟩:=e
  exact tR (tk:=jn is) hl (zv (mU hi)) st e1 e2 q
theorem pw {i:Nat}{me:ME}{x:Str}{v:Expr}{px pos:Pos} (g:Gf X T k cal) (d:Df X) (hi:X.N[i]?=some x) (hx:Loc X.env.scope x) (hc:chk T me X.N X.env.scope v=true) (hs:kC X.env.scope x px v me=true):∃ t,PS X (.Assign [.Name x px] v pos) (pS t (fq i))/\(∀ σ H Q,tF X.K cal me σ H Q->t σ H Q)/\b8 me=true:=by
 unfold kC at hs
 rw [Bool.and_eq_true] at hs
 obtain ⟨hs,hk⟩:=hs
 cases v with
 | ListComp e gens scope cpos =>
  cases me with
  | comp2 _ _ _ _=>cases hk
  | comp k' src js cond elt =>
   match gens,hc,hs with
   | [],hc,_=>cases (show false=true from hc)
   | ⟨tg,it,ifs,as⟩::[],h,hs =>
    cases tg with
    | Name y py =>
     by_cases has:as=0
     ·subst has
      have h:(d5 X.env.scope X.N scope y (bY X.N js) js&&dm X.env.scope false (λxs=>chks T src X.N X.env.scope xs) k' it&&jr (λc=>chk T cond (y::bY X.N js) (fV scope X.env.scope) c) cond ifs&&chk T elt (y::bY X.N js) (fV scope X.env.scope) e&&!aD elt)=true:=h
      simp only [Bool.and_eq_true,Bool.not_eq_true'] at h
      obtain ⟨⟨⟨⟨h1,h2⟩,h3⟩,h4⟩,h5⟩:=h
      have hw:=jz (tg:=.Name y py) (λz=>by cases z) g h2 (λxs hxs=>⟨sounds src g hxs,aI hxs⟩) (λm x hm hx=>match src,hm with|[m'],rfl=>(al m' g (by simp only [chks,Bool.and_eq_true] at hx;exact hx.1.1)).1)
      exact ⟨_,nG d.nd hi hx (kG h1) g.calm hw.1 (λs₁ H₁ C fp=>nW h3 λc hc=>(al cond (g.blk y (bY X.N js) scope s₁ H₁ C fp) hc).2) (λs₁ H₁ C fp=>(al elt (g.blk y (bY X.N js) scope s₁ H₁ C fp) h4).1) (qw d hs) (by have:=hw.2;intro v;cases it <;> first|rfl|(simp [eU] at this)) (.inl (d.fn x)),
       λσ H Q q=>nV.comp_go h5 q,rfl⟩
     ·exact absurd h (by
       have:chk T (.comp k' src js cond elt) X.N X.env.scope (.ListComp e [⟨.Name y py,it,ifs,as⟩] scope cpos)=false:=by
        rw [aK]
        split <;> first|rfl|(rename_i z;simp_all)
       rw [this];exact Bool.false_ne_true)
    | _=>cases (show false=true from h)
   | _::_::_,h,_=>simp [aK] at h
  | _=>cases (show false=true from hc)
 | _=>simp [oT] at hs
theorem Bv {me:ME} (hf:b8 me=true) {σ:St}{H:Hp}{Q:VK}{K:PySem.W.Frag} (q:tE K cal me σ H Q):tF K cal me σ H Q:=by
 obtain ⟨B,O₀,O,ρ,v,st,e1,q⟩:=q
 have hv:∃ xs,v=.lst xs:=by
  cases me with
  | lst es =>
   rw [ev,Option.bind_eq_some_iff] at e1
   obtain ⟨vs,_,hv⟩:=e1
   split at hv
   ·cases hv;exact ⟨_,rfl⟩
   ·cases hv
  | comp _ _ _ _ _=>exact mQ ρ v e1
  | blt b es=>cases b <;> first|exact eY (.inl rfl) ρ v e1|exact eY (.inr (.inl rfl)) ρ v e1|exact eY (.inr (.inr (.inl rfl))) ρ v e1|exact eY (.inr (.inr (.inr (.inl rfl)))) ρ v e1|exact eY (.inr (.inr (.inr (.inr rfl)))) ρ v e1|(simp [b8] at hf)
  | _=>simp [b8] at hf
 obtain ⟨xs,rfl⟩:=hv
 exact ⟨B,O₀,O,ρ,xs,st,e1,λp us H' s hp he r=>q _ _ s (o8 st.here hp he r)⟩
end
section
variable {T:Tab}{N:List Str}{sc:Scope}
theorem wI {i:Nat}{e:ME}{s:Stmt} (h:cI T N sc (.set i e) s=true):∃ x px v pos,s=.Assign [.Name x px] v pos/\(N[i]? == some x&&fo sc x&&ag x&&chk T e N sc v&&!aD e&&(bi v || kC sc x px v e))=true:=by
 obtain ⟨q,e1,h1⟩:=au h
 obtain ⟨pos,rfl⟩:=gD e1
 exact ⟨_,_,_,_,rfl,h1⟩
theorem wJ {i:Nat}{e:ME}{s:Stmt} (h:cI T N sc (.setOwn i e) s=true):∃ x px v pos,s=.Assign [.Name x px] v pos/\(N[i]? == some x&&fo sc x&&ag x&&chk T e N sc v&&b8 e&&(bi v || kC sc x px v e))=true:=by
 obtain ⟨q,e1,h1⟩:=au h
 obtain ⟨pos,rfl⟩:=gD e1
 exact ⟨_,_,_,_,rfl,h1⟩
theorem n4 {i:Nat}{e:ME}{s:Stmt} (h:cI T N sc (.append i e) s=true):∃ x p m ap v cp pos,s=.Expr (.Call (.Attribute (.Name x p) m ap) [v] [] cp) pos/\(ah N sc i x&&m == ("append":Str)&&chk T e N sc v&&!aD e&&aq v&&ap.endLine == cp.line)=true:=by
 obtain ⟨q,e1,h1⟩:=au h
 obtain ⟨v,e2,h2⟩:=au h1
 obtain ⟨p,pos,rfl⟩:=oU e1
 rw [jt e2]
 exact ⟨_,_,_,_,_,_,_,rfl,h2⟩
theorem wK {i:Nat}{es:List ME}{s:Stmt} (h:cI T N sc (.mkO i es) s=true):∃ x px y py args cp pos,s=.Assign [.Name x px] (.Call (.Name y py) args [] cp) pos/\(N[i]? == some x&&fo sc x&&ag x&&y == ("Table":Str)&&glB sc y&&chks T es N sc args&&(es.all λm=>!aD m)&&!args.isEmpty)=true:=by
 obtain ⟨q,e1,h1⟩:=au h
 obtain ⟨c,e2,h2⟩:=au h1
 obtain ⟨pos,rfl⟩:=gD e1
 obtain ⟨p,cp,e3⟩:=v5 e2
 rw [e3]
 exact ⟨_,_,_,_,_,_,_,rfl,h2⟩
theorem tU {i j f:Nat}{a:List MS}{s:Stmt} (h:cI T N sc (.iteB i j f a) s=true):∃ t x pos,s=.If t x [] pos/\(onO (sL t) (λv=>onO (mB v) λc=>onO (oW c.2) λz=>T.fs[f]? == some c.1&&glB sc c.1&&ag c.1&&nmX N sc i z.1&&nmX N sc j z.2&&!(i == j))&&chkSs T N sc a x)=true:=by
 cases s with
 | If t x y pos =>
  cases y with
  | nil=>exact ⟨t,x,pos,rfl,h⟩
  | cons _ _=>cases (show false=true from h)
 | _=>cases (show false=true from h)
theorem tV {i:Nat}{e:ME}{s:Stmt} (h:cI T N sc (.appO i e) s=true):∃ x p f fp m ap v cp pos,s=.Expr (.Call (.Attribute (.Attribute (.Name x p) f fp) m ap) [v] [] cp) pos/\(ah N sc i x&&f == ("taken":Str)&&m == ("append":Str)&&chk T e N sc v&&!aD e&&aq v&&ap.endLine == cp.line)=true:=by
 obtain ⟨q,e1,h1⟩:=au h
 obtain ⟨v,e2,h2⟩:=au h1
 obtain ⟨p,fp,pos,rfl⟩:=v6 e1
 rw [jt e2]
 exact ⟨_,_,_,_,_,_,_,_,_,rfl,h2⟩
theorem tY {e:ME}{s:Stmt} (h:cI T N sc (.retT e) s=true):∃ v pos,s=.Return (some v) pos/\(chk T e N sc v&&!aD e)=true:=by
 obtain ⟨v,e1,h1⟩:=au h
 obtain ⟨pos,rfl⟩:=gE e1
 exact ⟨v,pos,rfl,h1⟩
theorem qz {i j f:Nat}{es:List ME}{s:Stmt} (h:cI T N sc (.takeO (some j) i f es) s=true):∃ x px c p pos,s=.Assign [.Name x px] (.Call (.Attribute (.Name c.1 p) c.2.1 c.2.2.2.1) c.2.2.1 [] c.2.2.2.2) pos/\(N[j]? == some x&&fo sc x&&ag x&&(jW N sc T.ms f i (λxs=>chks T es N sc xs) c&&(es.all λm=>!aD m)))=true:=by
 obtain ⟨q,e1,h1⟩:=au h
 obtain ⟨c,e2,h2⟩:=au h1
 obtain ⟨pos,rfl⟩:=gD e1
 obtain ⟨p,e3⟩:=gC e2
 rw [e3]
 exact ⟨_,_,c,_,_,rfl,h2⟩
theorem qA {i f:Nat}{es:List ME}{s:Stmt} (h:cI T N sc (.takeO none i f es) s=true):∃ c p pos,s=.Expr (.Call (.Attribute (.Name c.1 p) c.2.1 c.2.2.2.1) c.2.2.1 [] c.2.2.2.2) pos/\(jW N sc T.ms f i (λxs=>chks T es N sc xs) c&&(es.all λm=>!aD m))=true:=by
 obtain ⟨q,e1,h1⟩:=au h
 obtain ⟨c,e2,h2⟩:=au h1
 obtain ⟨pos,rfl⟩:=sG e1
 obtain ⟨p,e3⟩:=gC e2
 rw [e3]
 exact ⟨c,_,_,rfl,h2⟩
theorem n5 {i:Nat}{e:ME}{s:Stmt} (h:cI T N sc (.extend i e) s=true):∃ x p m ap v cp pos,s=.Expr (.Call (.Attribute (.Name x p) m ap) [v] [] cp) pos/\(ah N sc i x&&m == ("extend":Str)&&chk T e N sc v&&aq v&&ap.endLine == cp.line)=true:=by
 obtain ⟨q,e1,h1⟩:=au h
 obtain ⟨v,e2,h2⟩:=au h1
 obtain ⟨p,pos,rfl⟩:=oU e1
 rw [jt e2]
 exact ⟨_,_,_,_,_,_,_,rfl,h2⟩
theorem tZ {i:Nat}{k e:ME}{s:Stmt} (h:cI T N sc (.dput i k e) s=true):∃ x p s' sp v pos,s=.Assign [.Subscript (.Name x p) s' sp] v pos/\(ah N sc i x&&chk T k N sc s'&&bV s'&&chk T e N sc v&&!aD e&&bi v)=true:=by
 obtain ⟨q,e1,h1⟩:=au h
 obtain ⟨p,sp,pos,rfl⟩:=v4 e1
 exact ⟨_,_,_,_,_,_,rfl,h1⟩
theorem t0 {m:Bool}{i:Nat}{s:Stmt} (h:cI T N sc (.newD m i) s=true):∃ x p dp pos,s=.Assign [.Name x p] (.Dict [] [] dp) pos/\(N[i]? == some x&&fo sc x&&ag x)=true:=by
 obtain ⟨q,e1,h1⟩:=au h
 rw [Bool.and_eq_true] at h1
 obtain ⟨pos,rfl⟩:=gD e1
 obtain ⟨p,e2⟩:=sE h1.1
 rw [e2]
 exact ⟨_,_,_,_,rfl,h1.2⟩
theorem pz {c:ME}{a b:List MS}{s:Stmt} (h:cI T N sc (.ite c a b) s=true):∃ t x y pos,s=.If t x y pos/\(chk T c N sc t&&chkSs T N sc a x&&chkSs T N sc b y)=true:=by
 cases s with
 | If t x y pos=>exact ⟨t,x,y,pos,rfl,h⟩
 | _=>cases (show false=true from h)
theorem t4 {i:Nat}{k:Sk}{src:List ME}{body:List MS}{s:Stmt} (h:cI T N sc (.for1 i k src body) s=true):∃ x px it b pos,s=.For (.Name x px) it b [] pos/\(N[i]? == some x&&fo sc x&&ag x&&dm sc false (λxs=>chks T src N sc xs) k it&&chkSs T N sc body b)=true:=by
 simp only [wg] at h
 split at h <;> first|(cases h;done)|(rename_i heq;cases heq;exact ⟨_,_,_,_,_,rfl,h⟩)|(injections;done)|(injections;subst_vars;exact ⟨_,_,_,_,_,rfl,h⟩)
theorem t5 {is:List Nat}{k:Sk}{src:List ME}{body:List MS}{s:Stmt} (h:cI T N sc (.forT is k src body) s=true):∃ ts j tp it b pos,s=.For (.Tuple ts j tp) it b [] pos/\(c6 N sc is ts&&dm sc true (λxs=>chks T src N sc xs) k it&&chkSs T N sc body b)=true:=by
 simp only [wj] at h
 split at h <;> first|(cases h;done)|(rename_i heq;cases heq;exact ⟨_,_,_,_,_,_,rfl,h⟩)|(injections;done)|(injections;subst_vars;exact ⟨_,_,_,_,_,_,rfl,h⟩)
theorem wL {e:ME}{s:Stmt} (h:cI T N sc (.ret e) s=true):∃ v pos,s=.Return (some v) pos/\(chk T e N sc v&&!aD e)=true:=by
 obtain ⟨v,e1,h1⟩:=au h
 obtain ⟨pos,rfl⟩:=gE e1
 exact ⟨_,_,rfl,h1⟩
theorem n6 {i:Nat}{s:Stmt} (h:cI T N sc (.retOwn i) s=true):∃ x p pos,s=.Return (some (.Name x p)) pos/\(ah N sc i x)=true:=by
 obtain ⟨v,e1,h1⟩:=au h
 obtain ⟨x,e2,h2⟩:=au h1
 obtain ⟨pos,rfl⟩:=gE e1
 obtain ⟨p,rfl⟩:=sB e2
 exact ⟨_,_,_,rfl,h2⟩
end
noncomputable def zz:MS->Bool
 | .freeze _=>true
 | _=>false
mutual
theorem lP {T:Tab}{k:Nat}{cal:Cal}{X:Cx} (g:Gf X T k cal) (d:Df X):∀ (m:MS) (s:Stmt),cI T X.N X.env.scope m s=true->PS X s (tS X.K cal m)
 | .set i e,s,h=>by
  obtain ⟨x,px,v,pos,rfl,hc⟩:=wI h
  simp only [Bool.and_eq_true,Bool.or_eq_true,beq_iff_eq,Bool.not_eq_true'] at hc
  obtain ⟨⟨⟨⟨⟨h1,h2⟩,h3⟩,h4⟩,h5⟩,h6⟩:=hc
  rcases h6 with h6|h6
  ·exact Bo d h1 (f6 h2) (al e g h4).1 h5 h6
  ·obtain ⟨t,p,hp,hf⟩:=pw (pos:=pos) g d h1 (f6 h2) h4 h6
   exact PS.imp' p λD σ H hl q=>hp _ _ _ (Bv hf (tq (ltN h1 hl) h5 q))
 | .setOwn i e,s,h=>by
  obtain ⟨x,px,v,pos,rfl,hc⟩:=wJ h
  simp only [Bool.and_eq_true,Bool.or_eq_true,beq_iff_eq] at hc
  obtain ⟨⟨⟨⟨⟨h1,h2⟩,h3⟩,h4⟩,h5⟩,h6⟩:=hc
  rcases h6 with h6|h6
  ·exact Bp d h1 (f6 h2) (zh g h4 h5) h6
  ·obtain ⟨t,p,hp,hf⟩:=pw (pos:=pos) g d h1 (f6 h2) h4 h6
   exact PS.imp' p λD σ H hl q=>hp _ _ _ (tu (ltN h1 hl) q)
 | .append i e,s,h=>by
  obtain ⟨x,p,m,ap,v,cp,pos,rfl,hc⟩:=n4 h
  simp only [Bool.and_eq_true,beq_iff_eq,Bool.not_eq_true'] at hc
  obtain ⟨⟨⟨⟨⟨h1,rfl⟩,h3⟩,h4⟩,h5⟩,h6⟩:=hc
  exact tw (al e g h3).1 h1 h4 h5 (beq_iff_eq.mpr h6)
 | .extend i e,s,h=>by
  obtain ⟨x,p,m,ap,v,cp,pos,rfl,hc⟩:=n5 h
  simp only [Bool.and_eq_true,beq_iff_eq] at hc
  obtain ⟨⟨⟨⟨h1,rfl⟩,h3⟩,h5⟩,h6⟩:=hc
  exact tz (al e g h3).1 h1 h5 (beq_iff_eq.mpr h6)
 | .setIdx _ _ _,s,h=>absurd (show false=true from h) Bool.false_ne_true
 | .unpack _ _,s,h=>absurd (show false=true from h) Bool.false_ne_true
 | .expr _,s,h=>absurd (show false=true from h) Bool.false_ne_true
 | .ite c a b,s,h=>by
  obtain ⟨t,x,y,pos,rfl,hc⟩:=pz h
  simp only [Bool.and_eq_true] at hc
  exact CK (al c g hc.1.1).2 (soundSs g d a x hc.1.2) (soundSs g d b y hc.2)
 | .for1 i k' src body,s,h=>by
  obtain ⟨x,px,it,b,pos,rfl,hc⟩:=t4 h
  simp only [Bool.and_eq_true,beq_iff_eq] at hc
  obtain ⟨⟨⟨⟨h1,h2⟩,h3⟩,h4⟩,h5⟩:=hc
  have hw:=jz (tg:=.Name x px) (λz=>by cases z) g h4 (λxs hxs=>⟨sounds src g hxs,aI hxs⟩) (λm x hm hx=>match src,hm with|[m'],rfl=>(al m' g (by simp only [chks,Bool.and_eq_true] at hx;exact hx.1.1)).1)
  exact zu g d h1 (f6 h2) hw.1 hw.2 (soundSs g d body b h5)
 | .forT is k' src body,s,h=>by
  obtain ⟨ts,j,tp,it,b,pos,rfl,hc⟩:=t5 h
  simp only [Bool.and_eq_true] at hc
  obtain ⟨⟨h1,h4⟩,h5⟩:=hc
  have hw:=jz (tg:=.Tuple ts j tp) (λ_=>⟨_,_,_,rfl⟩) g h4 (λxs hxs=>⟨sounds src g hxs,aI hxs⟩) (λm x hm hx=>match src,hm with|[m'],rfl=>(al m' g (by simp only [chks,Bool.and_eq_true] at hx;exact hx.1.1)).1)
  exact zw g d h1 hw.1 hw.2 (soundSs g d body b h5)
 | .while _ _ _,s,h=>absurd (show false=true from h) Bool.false_ne_true
 | .ret e,s,h=>by
  obtain ⟨v,pos,rfl,hc⟩:=wL h
  simp only [Bool.and_eq_true,Bool.not_eq_true'] at hc
  exact Bq (al e g hc.1).1 hc.2
 | .mkO i es,s,h=>by
  obtain ⟨x,px,y,py,args,cp,pos,rfl,hc⟩:=wK h
  simp only [Bool.and_eq_true,beq_iff_eq] at hc
  obtain ⟨⟨⟨⟨⟨⟨⟨h1,h2⟩,h3⟩,h4⟩,h5⟩,h6⟩,h7⟩,h8⟩:=hc
  subst h4
  cases args with
  | nil=>cases h8
  | cons e args=>exact Br g d h1 (f6 h2) h5 (sounds es g h6) h7 (aI h6).1 (aI h6).2
 | .appO i e,s,h=>by
  obtain ⟨x,p,f,fp,m,ap,v,cp,pos,rfl,hc⟩:=tV h
  simp only [Bool.and_eq_true,Bool.not_eq_true'] at hc
  obtain ⟨⟨⟨⟨⟨⟨h1,h2⟩,h3⟩,h4⟩,h5⟩,h6⟩,h7⟩:=hc
  rw [eq_of_beq h2,eq_of_beq h3]
  exact zm g (al e g h4).1 h1 h5 h6 h7
 | .retT e,s,h=>by
  obtain ⟨v,pos,rfl,hc⟩:=tY h
  simp only [Bool.and_eq_true,Bool.not_eq_true'] at hc
  exact zl (al e g hc.1).1 hc.2
 | .iteX _ _ _,s,h=>(by cases h)
 | .retX _,s,h=>(by cases h)
 | .retPop i,s,h=>by
  obtain ⟨v,e1,hc⟩:=au h
  obtain ⟨q,e2,hc⟩:=au hc
  obtain ⟨pos,rfl⟩:=gE e1
  obtain ⟨p,fp,rfl⟩:=wf e2
  obtain ⟨hc,h4⟩:=Bool.and_eq_true_iff.mp hc
  obtain ⟨hc,h3⟩:=Bool.and_eq_true_iff.mp hc
  obtain ⟨h1,h2⟩:=Bool.and_eq_true_iff.mp hc
  rw [eq_of_beq h2,eq_of_beq h3]
  exact tQ g h1 h4
 | .tryO i f es hs,s,h=>zp g d h
 | .iteB i j f a,s,h=>by
  obtain ⟨t,x,pos,rfl,hc⟩:=tU h
  rw [Bool.and_eq_true] at hc
  exact zr g hc.1 (soundSs g d a x hc.2)
 | .retAP w x i,s,h=>λpins s σ H D I q=>by
  obtain ⟨B,O₀,O,ρ,st,q⟩:=q
  exact (show False from q).elim
 | .takeO (some j) i f es,s,h=>by
  obtain ⟨x,px,c,p,pos,rfl,hc⟩:=qz h
  obtain ⟨a1,a2⟩:=Bool.and_eq_true_iff.mp hc
  obtain ⟨h4,h5⟩:=Bool.and_eq_true_iff.mp a2
  simp only [Bool.and_eq_true,beq_iff_eq] at a1
  obtain ⟨⟨h1,h2⟩,h3⟩:=a1
  obtain ⟨q1,q2,q3,q4,q5,q6⟩:=gR h4
  exact wB d h1 (f6 h2) (pk g q1 q2 q3 (sounds es g q4) h5 (aI q4).1 (aI q4).2 q5 q6) rfl
 | .takeO none i f es,s,h=>by
  obtain ⟨c,p,pos,rfl,hc⟩:=qA h
  obtain ⟨h4,h5⟩:=Bool.and_eq_true_iff.mp hc
  obtain ⟨q1,q2,q3,q4,q5,q6⟩:=gR h4
  exact wC (pk g q1 q2 q3 (sounds es g q4) h5 (aI q4).1 (aI q4).2 q5 q6) rfl
 | .retF _,s,h=>absurd (show false=true from h) Bool.false_ne_true
 | .setCall _ _ _,s,h=>absurd (show false=true from h) Bool.false_ne_true
 | .clear _,s,h=>absurd (show false=true from h) Bool.false_ne_true
 | .retOwn i,s,h=>by
  obtain ⟨x,p,pos,rfl,hc⟩:=n6 h
  exact tD hc
 | .retN,s,h=>absurd (show false=true from h) Bool.false_ne_true
 | .brk,s,h=>absurd (show false=true from h) Bool.false_ne_true
 | .cont,s,h=>absurd (show false=true from h) Bool.false_ne_true
 | .pass,s,h=>absurd (show false=true from h) Bool.false_ne_true
 | .never,s,h=>by
  refine lY.imp λD σ H q=>?_
  obtain ⟨B,O₀,O,ρ,st,q⟩:=q
  rw [ex] at q
  exact q
 | .raise c,s,h=>by
  refine lY.imp λD σ H q=>?_
  obtain ⟨B,O₀,O,ρ,st,q⟩:=q
  rw [ex] at q
  exact q
 | .tryC j f es hs,s,h=>(by cases h)
 | .newD m i,s,h=>by
  obtain ⟨x,p,dp,pos,rfl,hc⟩:=t0 h
  simp only [Bool.and_eq_true,beq_iff_eq] at hc
  exact zi d hc.1.1 (f6 hc.1.2)
 | .dput i mk me,s,h=>by
  obtain ⟨x,p,s',sp,v,pos,rfl,hc⟩:=tZ h
  simp only [Bool.and_eq_true] at hc
  exact zj g (al mk g hc.1.1.1.1.2).1 (al me g hc.1.1.2).1 hc.1.1.1.1.1 hc.2
 | .freeze _,s,h=>absurd (show false=true from h) Bool.false_ne_true
theorem soundSs {T:Tab}{k:Nat}{cal:Cal}{X:Cx} (g:Gf X T k cal) (d:Df X):∀ (ms:List MS) (ss:List Stmt),chkSs T X.N X.env.scope ms ss=true->PSs X ss (tSs X.K cal ms)
 | [],ss,h=>by
  cases ss with
  | nil=>exact xC
  | cons _ _=>cases h
 | m::ms,ss,h=>by
  cases hm:zz m with
  | true =>
   cases m <;> simp [zz] at hm
   cases h
  | false =>
   cases ss with
   | nil=>cases m <;> first|(cases h;done)|cases hm
   | cons s ss =>
    have h:(cI T X.N X.env.scope m s&&chkSs T X.N X.env.scope ms ss)=true:=by cases m <;> first|exact h|(simp [zz] at hm)
    simp only [Bool.and_eq_true] at h
    exact zk (lP g d m s h.1) (soundSs g d ms ss h.2)
end
end MM
namespace MM
open PySem PySem.Spec PyProof.Rows L2
noncomputable def zA (X:Cx) (C:Addr) (H':Hp):Prop:=(∀ pins s σ' h' ea vs,Inv X pins σ' H' s->Heap.MadeExcOf s.heap h' ea (.ref C) vs->X.xe (.ref ea) { s with heap:=h' }) /\
 ∀ pins σ' H1 s1 ea s',Inv X pins σ' H1 s1->bZ X.prog X.w X.stack H1 s1 ea C H' s'->X.xe (.ref ea) s'
noncomputable def qB (es:List Str) (X:Cx) (B:Hp) (O₀ O:List Addr) (ρ:Rho) (σ:St) (D:fm):RE->Prop
 | .fin r=>cQ X.K B O₀ O ρ σ D r
 | .err c=>∀ C H',es.contains c=true->X.mg c=some (.ref C)->af B H'->zA X C H'
theorem qB.trans {es:List Str}{X:Cx}{B:Hp}{O₀ O O':List Addr}{ρ ρ':Rho}{σ σ':St}{D:fm}{r:RE} (h:qB es X B O₀ O ρ σ D r) (k:aV B O O' ρ ρ' σ σ'):qB es X B O₀ O' ρ' σ' D r:=by
 cases r with
 | fin r=>exact cQ.trans h k
 | err c=>exact h
noncomputable def tX (es:List Str) (X:Cx) (cal:Cal) (ms:List MS):TS:=λD σ H=>∃ B O₀ O ρ,az X.K B O₀ O H ρ σ/\qB es X B O₀ O ρ σ D (exsE cal ms ρ)
noncomputable def tX1 (es:List Str) (X:Cx) (cal:Cal) (m:MS):TS:=λD σ H=>∃ B O₀ O ρ,az X.K B O₀ O H ρ σ/\qB es X B O₀ O ρ σ D (exE cal m ρ)
noncomputable def isX:MS->Bool
 | .raise _=>true
 | .ite _ _ _=>true
 | _=>false
theorem qC {cal:Cal}{m:MS}{ρ:Rho} (h:isX m=false):exE cal m ρ=.fin (ex cal m ρ):=by
 cases m <;> first|(cases h;done)|rfl
theorem ay {T:Tab}{k:Nat}{cal:Cal}{X:Cx} (g:Gf X T k cal) (d:Df X) {m:MS}{s:Stmt} (hm:isX m=false) (h:cI T X.N X.env.scope m s=true):PS X s (tX1 T.es X cal m):=by
 refine PS.imp (zn (lP g.nox d.nox m s h)) λD σ H q=>?_
 obtain ⟨B,O₀,O,ρ,st,q⟩:=q
 rw [qC hm] at q
 exact ⟨B,O₀,O,ρ,st,q⟩
mutual
theorem wM {T:Tab}{k:Nat}{cal:Cal}{X:Cx} (g:Gf X T k cal) (d:Df X):∀ (m:MS) (s:Stmt),ie m=false->cI T X.N X.env.scope m s=true->PS X s (tX1 T.es X cal m)
 | .raise kx,s,_,h=>by
  obtain ⟨xn,e1,hc1⟩:=au h
  simp only [Bool.and_eq_true,beq_iff_eq] at hc1
  obtain ⟨⟨⟨rfl,h6⟩,h7⟩,h8⟩:=hc1
  obtain ⟨np,tx,j,p1,cpos,pos',rfl⟩:=wb e1
  obtain ⟨C,msC,m1,m2,_,_,_⟩:=gi g h8
  refine PS.imp (r_ g.calm (da h6) m1 m2 (cM h7).1) λD σ H q=>?_
  obtain ⟨B,O₀,O,ρ,st,q⟩:=q
  rw [exE] at q
  exact λpins s0 h' ea vs I hx=>(q C H h8 m1 st.keep).1 pins s0 σ h' ea vs I hx
 | .ite c a b,s,_,h=>by
  obtain ⟨t,x,y,pos,rfl,hc⟩:=pz h
  simp only [Bool.and_eq_true] at hc
  refine PS.imp (re (al c g hc.1.1).2 (soundE g d a x hc.1.2) (soundE g d b y hc.2)) λD σ H q=>?_
  obtain ⟨B,O₀,O,ρ,st,q⟩:=q
  rw [exE] at q
  cases e:evB cal c ρ with
  | none=>rw [e] at q;exact (show False from q).elim
  | some k =>
   rw [e] at q
   refine ⟨B,O₀,O,ρ,k,st,e,λH' s'=>?_⟩
   cases k with
   | true=>exact ⟨B,O₀,O,ρ,st.mono s',q⟩
   | false=>exact ⟨B,O₀,O,ρ,st.mono s',q⟩
 | .for1 _ _ _ _,s,hz,h=>ay g d rfl h
 | .expr _,s,hz,h=>ay g d rfl h
 | .set _ _,s,hz,h=>ay g d rfl h
 | .setOwn _ _,s,hz,h=>ay g d rfl h
 | .freeze _,s,hz,h=>ay g d rfl h
 | .append _ _,s,hz,h=>ay g d rfl h
 | .extend _ _,s,hz,h=>ay g d rfl h
 | .mkO _ _,s,hz,h=>ay g d rfl h
 | .appO _ _,s,hz,h=>ay g d rfl h
 | .retT _,s,hz,h=>ay g d rfl h
 | .takeO _ _ _ _,s,hz,h=>ay g d rfl h
 | .iteX _ _ _,s,hz,h=>ay g d rfl h
 | .retX _,s,hz,h=>ay g d rfl h
 | .retPop _,s,hz,h=>ay g d rfl h
 | .tryO _ _ _ _,s,hz,h=>ay g d rfl h
 | .iteB _ _ _ _,s,hz,h=>ay g d rfl h
 | .retAP _ _ _,s,hz,h=>ay g d rfl h
 | .tryC _ _ _ _,s,hz,h=>ay g d rfl h
 | .setIdx _ _ _,s,hz,h=>ay g d rfl h
 | .unpack _ _,s,hz,h=>ay g d rfl h
 | .forT _ _ _ _,s,hz,h=>ay g d rfl h
 | .while _ _ _,s,hz,h=>ay g d rfl h
 | .ret _,s,hz,h=>ay g d rfl h
 | .retOwn _,s,hz,h=>ay g d rfl h
 | .retN,s,hz,h=>ay g d rfl h
 | .brk,s,hz,h=>ay g d rfl h
 | .cont,s,hz,h=>ay g d rfl h
 | .pass,s,hz,h=>ay g d rfl h
 | .never,s,hz,h=>ay g d rfl h
 | .newD _ _,s,hz,h=>ay g d rfl h
 | .retF _,s,hz,h=>ay g d rfl h
 | .setCall _ _ _,s,hz,h=>ay g d rfl h
 | .clear _,s,hz,h=>ay g d rfl h
 | .dput _ _ _,s,hz,h=>ay g d rfl h
theorem soundE {T:Tab}{k:Nat}{cal:Cal}{X:Cx} (g:Gf X T k cal) (d:Df X):∀ (ms:List MS) (ss:List Stmt),chkSs T X.N X.env.scope ms ss=true->PSs X ss (tX T.es X cal ms)
 | [],ss,h=>by
  cases ss with
  | nil =>
   refine PSs.imp oA λD σ H q=>?_
   obtain ⟨B,O₀,O,ρ,st,q⟩:=q
   exact q σ H O st .refl
  | cons _ _=>cases h
 | m::ms,ss,h=>by
  cases hz:ie m with
  | true =>
   refine PSs.imp (t:=λ_ _ _=>False) (λ_ _ _ _ _ _ z=>z.elim) λD σ H q=>?_
   obtain ⟨B,O₀,O,ρ,st,q⟩:=q
   rw [exsE,hz] at q
   exact q
  | false =>
   cases ss with
   | nil=>cases m <;> first|(cases h;done)|cases hz
   | cons s ss =>
    have h:(cI T X.N X.env.scope m s&&chkSs T X.N X.env.scope ms ss)=true:=by cases m <;> first|exact h|cases hz
    obtain ⟨h1,h2⟩:=Bool.and_eq_true_iff.mp h
    refine PSs.imp (dG (wM g d m s hz h1) (soundE g d ms ss h2)) λD σ H q=>?_
    obtain ⟨B,O₀,O,ρ,st,q⟩:=q
    rw [exsE,hz,if_neg (by decide)] at q
    refine ⟨B,O₀,O,ρ,st,?_⟩
    cases e:exE cal m ρ with
    | err c=>rw [e] at q;exact q
    | fin r =>
     rw [e] at q
     cases r with
     | next ρ'=>exact λσ' H' O' st' k'=>⟨B,O₀,O',ρ',st',qB.trans q k'⟩
     | brk _=>exact q
     | cont _=>exact q
     | ret _=>exact q
     | bad=>exact q
     | retF _=>exact q
     | retT _ _=>exact q
end
structure FnD (K:PySem.W.Frag) (x y:Str) (st:Stmt) (fa:Addr) (fd:FuncData):Prop where
 it:∃ (c0 d0 k0 o0 m0:Value) (a0:Option Addr) (c1 t1:Value) (a1:Option Addr) (sl:Array (Option Value)),
  K.lookup fa=some ⟨c0,a1,.func fd,sl⟩/\PySem.W.codeIn K c1 y=true/\fd=PySem.W.fnOf x y (gn st) (cj st) (aA st) d0 k0 o0 m0 a0 c1 t1
 kp:PySem.W.keepIn K (.ref fa)=true
theorem FnD.mk' {K:PySem.W.Frag}{x y:Str}{st:Stmt}{fa:Addr}{c0 d0 k0 o0 m0 c1 t1:Value}{a0 a1:Option Addr}{sl:Array (Option Value)}
  (l:K.lookup fa=some ⟨c0,a1,.func (PySem.W.fnOf x y (gn st) (cj st) (aA st) d0 k0 o0 m0 a0 c1 t1),sl⟩) (c:PySem.W.codeIn K c1 y=true) (k:PySem.W.keepIn K (.ref fa)=true) :
  FnD K x y st fa (PySem.W.fnOf x y (gn st) (cj st) (aA st) d0 k0 o0 m0 a0 c1 t1):=⟨⟨_,_,_,_,_,_,_,_,_,_,l,c,rfl⟩,k⟩
theorem FnD.mkd {K:PySem.W.Frag}{x y:Str}{st:Stmt}{fa T:Addr}{c0 k0 o0 m0 c1 t1:Value}{a0 a1:Option Addr}{sl:Array (Option Value)}
  (l:K.lookup fa=some ⟨c0,a1,.func (PySem.W.fnOf x y (gn st) (cj st) (aA st) (.ref T) k0 o0 m0 a0 c1 t1),sl⟩) (c:PySem.W.codeIn K c1 y=true) (k:PySem.W.keepIn K (.ref fa)=true) :
  FnD K x y st fa (PySem.W.fnOf x y (gn st) (cj st) (aA st) (.ref T) k0 o0 m0 a0 c1 t1):=.mk' l c k
structure kL (T:Tab) (K:PySem.W.Frag) (mg:Str->Option Value) (st:Stmt) (d:MD) (fa:Addr) (fd:FuncData):Prop where
 fn:FnD K (d.meth.getD d.name) d.name st fa fd
 binds:aN K fd d.params []
 named:(d.meth=none/\mg d.name=some (.ref fa)) \/ ∃ m,d.meth=some m/\∀ C,IsC K C->jP K C m fa
 scope:iM d.names d.params (aA st)
 body:chkSs T d.names (aA st) d.body (cj st)=true
theorem bn1 {K:PySem.W.Frag}{fd:FuncData}{pa:Str} (h:∀ a,bindArgs fd ⟨[a],[]⟩=pure [(pa,a)]):aN K fd [pa] []:=.all λus hl=>match us,hl with|[a],_=>h a
theorem bn2 {K:PySem.W.Frag}{fd:FuncData}{pa pb:Str} (h:∀ a b,bindArgs fd ⟨[a,b],[]⟩=pure [(pa,a),(pb,b)]):aN K fd [pa,pb] []:=.all λus hl=>match us,hl with|[a,b],_=>h a b
theorem bn3 {K:PySem.W.Frag}{fd:FuncData}{pa pb pc:Str} (h:∀ a b c,bindArgs fd ⟨[a,b,c],[]⟩=pure [(pa,a),(pb,b),(pc,c)]):aN K fd [pa,pb,pc] []:=.all λus hl=>match us,hl with|[a,b,c],_=>h a b c
theorem bn5 {K:PySem.W.Frag}{fd:FuncData}{pa pb pc pd pe:Str} (h:∀ a b c d e,bindArgs fd ⟨[a,b,c,d,e],[]⟩=pure [(pa,a),(pb,b),(pc,c),(pd,d),(pe,e)]):aN K fd [pa,pb,pc,pd,pe] []:=.all λus hl=>match us,hl with|[a,b,c,d,e],_=>h a b c d e
theorem n8 {K:PySem.W.Frag}{fd:FuncData}{ps:List Str}{T:Addr}{c:Value}{o:Option Addr}{vs:Array Value}{n:Nat}{sl:Array (Option Value)} (hd:fd.defaults=.ref T) (l:K.lookup T=some ⟨c,o,.seq vs n,sl⟩)
  (h:∀ us:List Value,us.length=ps.length->∃ k,bindArgs fd ⟨us,[]⟩=seqItems? fd.defaults >>= k/\k (some vs)=pure (ps.zip us)):aN K fd ps []:=λs us X hl=>by
 rw [List.append_nil] at hl ⊢
 obtain ⟨k,h1,h2⟩:=h us hl
 exact .of_defaults hd (X _ _ l) rfl h1 h2
theorem n9 {K:PySem.W.Frag}{fd:FuncData}{ps:List Str}{T:Addr}{c v:Value}{o:Option Addr}{n:Nat}{sl:Array (Option Value)} (hd:fd.defaults=.ref T) (l:K.lookup T=some ⟨c,o,.seq #[v] n,sl⟩)
  (h:∀ us:List Value,us.length + 1=ps.length->∃ k,bindArgs fd ⟨us,[]⟩=seqItems? fd.defaults >>= k/\k (some #[v])=pure (ps.zip (us ++ [v]))):aN K fd ps [v]:=λs us X hl=>by
 obtain ⟨k,h1,h2⟩:=h us (by simpa using hl)
 exact .of_defaults hd (X _ _ l) rfl h1 h2
theorem wN {K:PySem.W.Frag}{fd:FuncData}{ps:List Str}{T:Addr}{c:Value}{x:Str}{k:Tok}{o:Option Addr}{n:Nat}{sl:Array (Option Value)} (hd:fd.defaults=.ref T) (l:K.lookup T=some ⟨c,o,.seq #[.str x k] n,sl⟩)
  (h:∀ us:List Value,us.length + 1=ps.length->∃ j,bindArgs fd ⟨us,[]⟩=seqItems? fd.defaults >>= j/\j (some #[.str x k])=pure (ps.zip (us ++ [.str x k]))):∃ vs,aN K fd ps vs/\ar ([Sc.str x].map Sc.v) vs:=⟨_,n9 hd l h,.cons ⟨k,rfl⟩ .nil⟩
noncomputable def HD (K:PySem.W.Frag) (x:Str) (st:Stmt) (d:MD) (q:FuncData->Prop:=λ_=>True):Prop:=d.name=x/\∃ fa fd,PySem.W.nsIn K mainGlobals x=some (some (.ref fa))/\FnD K x x st fa fd/\aN K fd d.params []/\q fd
noncomputable def HM (K:PySem.W.Frag) (C:Addr) (x y:Str) (st:Stmt) (d:MD):Prop:=d.meth=some x/\d.name=y/\∃ fa fd,jP K C x fa/\FnD K x y st fa fd/\aN K fd d.params []
structure pC (K:PySem.W.Frag) (C:Addr):Prop where
 cls:Cls K C
 nf:∀ x ∈ gd,dJ K C x
 nt:dJ K C "taken"
noncomputable def okD (T:Tab) (st:Stmt) (d:MD):Bool :=
 decide ((aA st).kind=.function/\(aA st).isCoroutine=false/\(aA st).isGenerator=false/\d.names.Nodup/\d.names.take d.params.length=d.params/\(∀ x ∈ d.params,(aA st).names.lookup x=some .local \/ (aA st).names.lookup x=some .cell)/\∀ y ∈ (aA st).names,y.2 ≠ .free)
 &&d.meth.isNone
 &&chkSs T d.names (aA st) d.body (cj st)
theorem bf {T:Tab}{K:PySem.W.Frag}{mg:Str->Option Value}{h:Heap}{st:Stmt}{d:MD} (X:K.In h) (G:h.Ns mainGlobals mg) {q:FuncData->Prop}{x:Str} (hd:HD K x st d q) (ck:okD T st d=true):∃ fa fd,kL T K mg st d fa fd/\q fd:=by
 obtain ⟨e,_,_,n,f,b,z⟩:=hd
 obtain ⟨c1,c2⟩:=Bool.and_eq_true_iff.mp ck
 obtain ⟨c1,c3⟩:=Bool.and_eq_true_iff.mp c1
 obtain ⟨s1,s2,s3,s4,s5,s6,s7⟩:=of_decide_eq_true c1
 subst e
 have hm:d.meth=none:=Option.isNone_iff_eq_none.mp c3
 exact ⟨_,_,⟨by rw [hm];exact f,b,.inl ⟨hm,PySem.W.mg_of X G n⟩,⟨s1,s2,s3,s4,s5,s6,s7⟩,c2⟩,z⟩
noncomputable def okM (T:Tab) (st:Stmt) (d:MD):Bool :=
 decide ((aA st).kind=.function/\(aA st).isCoroutine=false/\(aA st).isGenerator=false/\d.names.Nodup/\d.names.take d.params.length=d.params/\(∀ x ∈ d.params,(aA st).names.lookup x=some .local \/ (aA st).names.lookup x=some .cell)/\∀ y ∈ (aA st).names,y.2 ≠ .free)&&chkSs T d.names (aA st) d.body (cj st)
theorem d7 {T:Tab}{K:PySem.W.Frag}{mg:Str->Option Value}{C:Addr}{st:Stmt}{d:MD}{x y:Str} (hC:IsC K C) (hd:HM K C x y st d) (ck:okM T st d=true):∃ fa fd,kL T K mg st d fa fd:=by
 obtain ⟨e,en,_,_,n,f,b⟩:=hd
 obtain ⟨c1,c2⟩:=Bool.and_eq_true_iff.mp ck
 obtain ⟨s1,s2,s3,s4,s5,s6,s7⟩:=of_decide_eq_true c1
 subst en
 exact ⟨_,_,⟨by rw [e];exact f,b,.inr ⟨x,e,λC' h=>by
  have:=h.symm.trans hC
  cases this
  exact n⟩,⟨s1,s2,s3,s4,s5,s6,s7⟩,c2⟩⟩
noncomputable def t6 (T:Tab) (K:PySem.W.Frag) (mg:Str->Option Value):List MD->List (List Sc)->Prop
 | [],[]=>True
 | d::ds,l::ls=>(∃ st fa fd,kL T K mg st d fa fd/\∃ vs,aN K fd d.params vs/\ar (l.map Sc.v) vs)/\t6 T K mg ds ls
 | _,_=>False
theorem t6.get {T:Tab}{K:PySem.W.Frag}{mg:Str->Option Value}:∀ {ds:List MD}{ls:List (List Sc)}{f:Nat}{d:MD},t6 T K mg ds ls->ds[f]?=some d->∃ l st fa fd,ls[f]?=some l/\kL T K mg st d fa fd/\∃ vs,aN K fd d.params vs/\ar (l.map Sc.v) vs
 | [],_,f,d,_,e=>by simp at e
 | _::_,[],f,d,h,e=>h.elim
 | d0::ds,l::ls,0,d,h,e=>by
  cases e
  obtain ⟨⟨st,fa,fd,r⟩,_⟩:=h
  exact ⟨l,st,fa,fd,rfl,r⟩
 | d0::ds,l::ls,f + 1,d,h,e=>by
  obtain ⟨k,st,fa,fd,q,r⟩:=t6.get h.2 (show ds[f]?=some d from by simpa using e)
  exact ⟨k,st,fa,fd,by simpa using q,r⟩
noncomputable def t7 (d:MD):Str:=match d.meth with
 | none=>d.name
 | some _=>"__debug__"
theorem gU {d:MD} (h:ag (t7 d)=true):d.meth=none/\t7 d=d.name:=by
 unfold t7 at h ⊢
 cases e:d.meth with
 | none=>exact ⟨rfl,rfl⟩
 | some m =>
  rw [e] at h
  exact absurd (show ag ("__debug__":Str)=true from h) (by decide +kernel)
structure zB (T:Tab) (K:PySem.W.Frag) (mg:Str->Option Value) (ds:List MD):Prop where
 tab:T.fs=ds.map t7
 tabM:T.ms=ds.map (·.meth)
 cls:∀ C,IsC K C->pC K C
 ini:∃ C,IsC K C/\mg ("Table":Str)=some (.ref C)/\∃ fa fd ps,Mk K C fa/\aN K fd ps []/\(∀ P w base,cf P w K mg base CX0 1 fa fd ps (spI K C))/\∃ vs,aN K fd ps vs/\ar [V.str "weaver"] vs
 defs:t6 T K mg ds T.ds
 blt:∀ x ∈ fH,mg (x:Str)=none
 gs:∀ p ∈ T.gs,∃ u,mg p.1=some u/\aw (toV p.2) u
 errs:mH K T.es=true
 mgs:∀ c u,PySem.W.nsIn K mainGlobals c=some u->mg c=u
theorem zC {K:PySem.W.Frag}{h:Heap}{mg:Str->Option Value}{c:Str}{u:Option Value} (X:K.In h) (G:h.Ns mainGlobals mg) (e:PySem.W.nsIn K mainGlobals c=some u):mg c=u:=by
 cases u with
 | none=>exact PySem.W.mg_none_of X G e
 | some v=>exact PySem.W.mg_of X G e
theorem kM {ds:List MD}{n f:Nat}{d:MD}{args:List MV}{r:PV} (hn:ds[f + 5000]?=none) (hd:ds[f]?=some d)
  (hf:f < 1000)
  (h:ae ds (n + 1) (f + 5000) args=some r):args.length=d.params.length /\
  vU (exsE (ae ds n) d.body (args.map some ++ List.replicate (d.names.length - args.length) none))=some r:=by
 rw [ae,hn] at h
 dsimp only at h
 rw [if_neg (by omega),if_pos (by omega)] at h
 rw [if_neg (by omega)] at h
 rw [if_pos (by omega)] at h
 rw [Nat.add_sub_cancel,hd] at h
 dsimp only at h
 by_cases hl:args.length=d.params.length
 ·rw [if_pos hl] at h
  exact ⟨hl,h⟩
 ·rw [if_neg hl] at h
  cases h
theorem jD {ds:List MD}{n f:Nat}{d:MD}{args:List MV}{r:PV} (hd:ds[f]?=some d) (h:ae ds (n + 1) f args=some r):args.length=d.params.length /\
  ((∃ ρ,exs (ae ds n) d.body (args.map some ++ List.replicate (d.names.length - args.length) none)=.next ρ/\r=.non) \/ exs (ae ds n) d.body (args.map some ++ List.replicate (d.names.length - args.length) none)=.ret r \/
   (∃ xs,exs (ae ds n) d.body (args.map some ++ List.replicate (d.names.length - args.length) none)=.retF xs/\r=.lst xs) \/ ∃ v ρ,exs (ae ds n) d.body (args.map some ++ List.replicate (d.names.length - args.length) none)=.retT v ρ/\r=v.pv):=by
 rw [ae,hd] at h
 dsimp only at h
 by_cases hl:args.length=d.params.length
 ·rw [if_pos hl] at h
  refine ⟨hl,?_⟩
  cases he:exs (ae ds n) d.body (args.map some ++ List.replicate (d.names.length - args.length) none) with
  | next ρ=>rw [he] at h;cases h;exact .inl ⟨ρ,rfl,rfl⟩
  | ret v=>rw [he] at h;cases h;exact .inr (.inl rfl)
  | retF xs=>rw [he] at h;cases h;exact .inr (.inr (.inl ⟨xs,rfl,rfl⟩))
  | retT v ρ=>rw [he] at h;cases h;exact .inr (.inr (.inr ⟨v,ρ,rfl,rfl⟩))
  | brk ρ=>rw [he] at h;cases h
  | cont ρ=>rw [he] at h;cases h
  | bad=>rw [he] at h;cases h
 ·rw [if_neg hl] at h
  cases h
theorem iD {ds:List MD}{n f:Nat}{d:MD}{args:List MV}{r:PV} (hf:f < 1000) (hn:ds[f + 1000]?=none) (hd:ds[f]?=some d) (h:ae ds (n + 1) (f + 1000) args=some r):args.length=d.params.length /\
  ∃ xs,exs (ae ds n) d.body (args.map some ++ List.replicate (d.names.length - args.length) none)=.retF xs/\r=.lst xs:=by
 rw [ae,hn] at h
 dsimp only at h
 rw [if_neg (by omega),if_neg (by omega),Nat.add_sub_cancel,hd] at h
 dsimp only at h
 by_cases hl:args.length=d.params.length
 ·rw [if_pos hl] at h
  refine ⟨hl,?_⟩
  cases he:exs (ae ds n) d.body (args.map some ++ List.replicate (d.names.length - args.length) none) with
  | retF xs=>rw [he] at h;cases h;exact ⟨xs,rfl,rfl⟩
  | retT v ρ=>rw [he] at h;cases h
  | next ρ=>rw [he] at h;cases h
  | ret v=>rw [he] at h;cases h
  | brk ρ=>rw [he] at h;cases h
  | cont ρ=>rw [he] at h;cases h
  | bad=>rw [he] at h;cases h
 ·rw [if_neg hl] at h
  cases h
theorem kN {ds:List MD}{n f:Nat}{d:MD}{args:List MV}{r:PV} (hn:ds[f + 6000]?=none) (hd:ds[f]?=some d) (h:ae ds (n + 1) (f + 6000) args=some r):args.length=d.params.length /\
  nP (ae ds n) d.body (args.map some ++ List.replicate (d.names.length - args.length) none)=some r:=by
 rw [ae,hn] at h
 dsimp only at h
 rw [if_neg (by omega),if_pos (by omega),if_pos (by omega),Nat.add_sub_cancel,hd] at h
 dsimp only at h
 by_cases hl:args.length=d.params.length
 ·rw [if_pos hl] at h
  exact ⟨hl,h⟩
 ·rw [if_neg hl] at h
  cases h
theorem wO {cal:Cal}{ms:List MS}{ρ:Rho}{r:PV} (h:nP cal ms ρ=some r):∃ m1 m2 w x i ρ1 ρ2,ms=[m1,m2,.retAP w x i]/\ie m1=false/\ie m2=false/\ex cal m1 ρ=.next ρ1/\ex cal m2 ρ1=.next ρ2/\mw cal w x i ρ2=some r:=by
 unfold nP at h
 split at h
 ·rename_i m1 m2 m3
  split at h
  ·cases h
  ·rename_i hz
   simp only [Bool.not_eq_true,Bool.or_eq_false_iff] at hz
   simp only [Option.bind_eq_some_iff] at h
   obtain ⟨ρ1,e1,ρ2,e2,⟨w,x,i⟩,e3,e4⟩:=h
   have nx:∀ {r:R}{ρ:Rho},r.nxt=some ρ->r=.next ρ:=λ{r ρ} z=>by
    cases r <;> first|(cases z;done)|(cases z;rfl)
   have em:m3=.retAP w x i:=by
    cases m3 <;> first|(cases e3;done)|(cases e3;rfl)
   exact ⟨m1,m2,w,x,i,ρ1,ρ2,by rw [em],hz.1,hz.2,nx e1,nx e2,e4⟩
 ·cases h
theorem jE {T:Tab}{N:List Str}{sc:Scope}{m:MS}{ms:List MS}{ss:List Stmt} (hz:ie m=false) (h:chkSs T N sc (m::ms) ss=true):∃ s ss',ss=s::ss'/\cI T N sc m s=true/\chkSs T N sc ms ss'=true:=by
 cases ss with
 | nil=>cases m <;> first|(cases hz;done)|(cases h;done)
 | cons s ss =>
  have h:(cI T N sc m s&&chkSs T N sc ms ss)=true:=by cases m <;> first|(cases hz;done)|exact h
  rw [Bool.and_eq_true] at h
  exact ⟨s,ss,rfl,h.1,h.2⟩
theorem jF {ds:List MD}{n f:Nat}{d:MD}{args:List MV}{r:PV} (hf:f < 1000) (hn:ds[f + 3000]?=none) (hd:ds[f]?=some d) (h:ae ds (n + 1) (f + 3000) args=some r):args.length=d.params.length /\
  ∃ v ρ,exs (ae ds n) d.body (args.map some ++ List.replicate (d.names.length - args.length) none)=.retT v ρ/\nO v ρ=some r:=by
 rw [ae,hn] at h
 dsimp only at h
 rw [if_neg (by omega),if_pos (by omega)] at h
 rw [if_neg (by omega)] at h
 rw [if_neg (by omega)] at h
 rw [Nat.add_sub_cancel,hd] at h
 dsimp only at h
 by_cases hl:args.length=d.params.length
 ·rw [if_pos hl] at h
  refine ⟨hl,?_⟩
  cases he:exs (ae ds n) d.body (args.map some ++ List.replicate (d.names.length - args.length) none) with
  | retT v ρ=>rw [he] at h;exact ⟨v,ρ,rfl,h⟩
  | next ρ=>rw [he] at h;cases h
  | ret v=>rw [he] at h;cases h
  | retF xs=>rw [he] at h;cases h
  | brk ρ=>rw [he] at h;cases h
  | cont ρ=>rw [he] at h;cases h
  | bad=>rw [he] at h;cases h
 ·rw [if_neg hl] at h
  cases h
theorem zD {ds:List MD}{n:Nat} (hlen:ds.length <= 1000) (h:ae ds n 4000 [] ≠ none):2 <= n:=by
 match n,h with
 | 0,h=>exact absurd rfl h
 | 1,h =>
  refine absurd ?_ h
  rw [ae,List.getElem?_eq_none (by omega)]
  rfl
 | n + 2,h=>omega
theorem wP {v w:Sc}{ρ:Rho}{ys:List PV} (h:nO v ρ=some (.tup [w.pv,.lst ys])):v=w/\∃ fs,ρ[0]?=some (some (.ownO true fs ys)):=by
 unfold nO at h
 split at h
 ·cases v <;> cases w <;> cases h <;> exact ⟨rfl,_,rfl⟩
 ·cases h
theorem gj {α β:Type}{F:α->β->Prop}:∀ {xs:List α}{ys:List β}{i:Nat}{x:α},Paired F xs ys->xs[i]?=some x->∃ y,ys[i]?=some y/\F x y
 | _,_,_,_,.nil,e=>by simp at e
 | _,_,0,_,.cons r _,e=>by simp at e;subst e;exact ⟨_,rfl,r⟩
 | _,_,i + 1,x,.cons _ t,e=>by
  obtain ⟨u,h1,h2⟩:=gj (i:=i) (x:=x) t (by simpa using e)
  exact ⟨u,by simpa using h1,h2⟩
theorem jG {K:PySem.W.Frag}{H:Hp}{O:List Addr}{args:List MV}{vs:List V}{N:List Str} (hO:∀ a ∈ O,H a ≠ none) (h:Paired (cJ K O H) args vs):az K H O O H (args.map some ++ List.replicate (N.length - args.length) none) (dL N vs):=by
 have hl:args.length=vs.length:=Paired.length h
 have get:∀ (i:Nat) (m:MV),(args.map some ++ List.replicate (N.length - args.length) none)[i]?=some (some m)->∃ u,(dL N vs)[i]?=some (some u)/\cJ K O H m u:=λi m e=>by
  by_cases hi:i < args.length
  ·rw [List.getElem?_append_left (by simpa using hi),List.getElem?_map] at e
   cases ea:args[i]? with
   | none=>rw [ea] at e;cases e
   | some m' =>
    rw [ea] at e
    cases e
    obtain ⟨u,eu,q⟩:=gj h ea
    refine ⟨u,?_,q⟩
    unfold L2.dL
    rw [List.getElem?_append_left (by rw [List.length_map,<- hl];exact hi),List.getElem?_map,eu]
    rfl
  ·rw [List.getElem?_append_right (by simpa using hi),List.getElem?_replicate] at e
   split at e <;> cases e
 refine ⟨af.refl H,hO,λa ha=>ha,hO,by unfold L2.dL;simp [hl],λi m e=>?_,λi j xs ys a _ e _ ox _=>?_
  ,my λi m e=>by
   obtain ⟨u,eu,q⟩:=get i _ e
   cases m <;> first|rfl|exact q.elim
  ⟩
 ·obtain ⟨u,eu,q⟩:=get i m e
  refine ⟨u,eu,?_⟩
  cases m with
  | val v=>exact q
  | own _=>exact q.elim
  | ownO _ _ _=>exact q.elim
  | brwO _ _=>exact q
  | brw ys=>exact q
  | ownD _=>exact q.elim
  | brwD _=>exact q
 ·obtain ⟨u,eu,q⟩:=get i _ e
  cases xs with
  | own _=>exact q.elim
  | ownD _=>exact q.elim
  | ownO _ _ _=>exact q.elim
  | brwO _ _=>cases ox
  | val _=>cases ox
  | brw _=>cases ox
  | brwD _=>cases ox
theorem im {α:Type}{F:α->V->Prop}{args:List α}{vs:List V}{N:List Str} (h:Paired F args vs):∀ (i:Nat) (m:α),(args.map some ++ List.replicate (N.length - args.length) none)[i]?=some (some m)->args[i]?=some m/\∃ u,vs[i]?=some u/\(dL N vs)[i]?=some (some u)/\F m u:=λi m e=>by
 have hl:args.length=vs.length:=Paired.length h
 by_cases hi:i < args.length
 ·rw [List.getElem?_append_left (by simpa using hi),List.getElem?_map] at e
  cases ea:args[i]? with
  | none=>rw [ea] at e;cases e
  | some m' =>
   rw [ea] at e
   cases e
   obtain ⟨u,eu,q⟩:=gj h ea
   refine ⟨rfl,u,eu,?_,q⟩
   unfold L2.dL
   rw [List.getElem?_append_left (by rw [List.length_map,<- hl];exact hi),List.getElem?_map,eu]
   rfl
 ·rw [List.getElem?_append_right (by simpa using hi),List.getElem?_replicate] at e
  split at e <;> cases e
section
variable {T:Tab}{P:Program}{w:World}{K:PySem.W.Frag}{mg:Str->Option Value}{base:Heap}{ds:List MD}
theorem iE {K:PySem.W.Frag}{O:List Addr}{H:Hp}:∀ {as:List MV}{ws:List V}{i:Nat}{m:MV},Paired (cJ K O H) as ws->as[i]?=some m->dl m=true->False
 | _,_,i,m,.nil,e,_=>by cases i <;> cases e
 | _,_,0,m,.cons x _,e,o=>by
  cases e
  cases m <;> first|(cases o;done)|exact x
 | _,_,i + 1,m,.cons _ t,e,o=>iE t (by simpa using e) o
theorem t8 {K:PySem.W.Frag}{O:List Addr}{H B:Hp}{m:MV}{u:V} (hh:aj B O=aj H O) (h:cJ K O B m u):dP K B O H m u:=by
 cases m with
 | val v=>rw [show cJ K O B (.val v) u=Rep K (aj B O) v u from rfl,hh] at h;exact h
 | brw xs=>obtain ⟨c,us,e,q,r⟩:=h;rw [hh] at r;exact ⟨c,us,e,q,r⟩
 | brwD d=>exact h
 | brwO fs xs=>obtain ⟨c,e,q⟩:=h;rw [hh] at q;exact ⟨c,e,q⟩
 | own _=>exact h.elim
 | ownD _=>exact h.elim
 | ownO _ _ _=>exact h.elim
theorem kO {K:PySem.W.Frag}{H:Hp}{O:List Addr}{a l:Addr}{ws:List V}{fs xs:List PV}{as:List MV}{N:List Str} (hO:∀ b ∈ O,H b ≠ none) (q:b7 K (λ_=>none) O H fs xs a l) (r:Paired (cJ K O (bn H [a,l])) as ws) :
  az K (bn H [a,l]) (O.filter λb=>decide (b ∉ [a,l])) O H ((.ownO true fs xs::as).map some ++ List.replicate (N.length - (MV.ownO true fs xs::as).length) none) (dL N (.ref a::ws)):=by
 have hh:=c4 (H:=H) q.aO q.lO
 have hp:Paired (λ(m:MV) (u:V)=>(m=.ownO true fs xs/\u=.ref a) \/ cJ K O (bn H [a,l]) m u) (.ownO true fs xs::as) (.ref a::ws):=.cons (.inl ⟨rfl,rfl⟩) (jw (λ_ _ h=>.inr h) r)
 have hl:=Paired.length hp
 have key:∀ (i:Nat) (m:MV),((.ownO true fs xs::as).map some ++ List.replicate (N.length - (MV.ownO true fs xs::as).length) none)[i]?=some (some m)->dl m=true->i=0:=λi m e o=>by
  obtain ⟨ea,u,ev',eu,q⟩:=im hp i m e
  cases i with
  | zero=>rfl
  | succ i =>
   rw [List.getElem?_cons_succ] at ea
   exact (iE r ea o).elim
 refine ⟨λb u e=>?_,hO,λb hb=>(List.mem_filter.mp hb).1,λb hb=>?_,by unfold L2.dL;simp at hl ⊢;omega,λi m e=>?_,λi j m m' c hij e1 e2 o1 o2 s1 s2=>hij ((key i m e1 o1).trans (key j m' e2 o2).symm),λi m0 a2 l2 e1 l0 e2 e3 j m hji ej=>?_⟩
 ·unfold bn at e
  split at e
  ·cases e
  ·exact e
 ·obtain ⟨h1,h2⟩:=List.mem_filter.mp hb
  unfold bn
  rw [if_neg (of_decide_eq_true h2)]
  exact hO b h1
 ·obtain ⟨ea,u,ev',eu,qq⟩:=im hp i m e
  refine ⟨u,eu,?_⟩
  rcases qq with ⟨rfl,rfl⟩|qq
  ·refine ⟨a,l,rfl,q.move (af.refl _) (λ_ h=>h) (λ_ h=>h) q.aO q.lO ?_ ?_⟩
   ·unfold bn
    rw [if_pos (by simp)]
   ·unfold bn
    rw [if_pos (by simp)]
  ·exact t8 hh qq
 ·have o0:dl m0=true:=by cases m0 <;> first|(cases l0;done)|rfl
  have hi:=key i m0 e1 o0
  obtain ⟨ea,u,ev',eu,qq⟩:=im hp j m ej
  rcases qq with ⟨rfl,rfl⟩|qq
  ·exact absurd ((key j _ ej rfl).trans hi.symm) hji
  ·cases m <;> first|exact qq.elim|exact ⟨rfl,λc o=>by cases o⟩
theorem wQ {cal:Cal}{w x:ME}{i:Nat}{ρ:Rho}{r:PV} (h:mw cal w x i ρ=some r):∃ fs ys zs a b,ρ[0]?=some (some (.ownO true fs ys))/\(ρ[i]?).join=some (.brw zs)/\evB cal w ρ=some true/\ev cal x ρ=some (.int a)/\zs.getLast?=some (.int b)/\r=.tup [.bl (a == b),.lst ys]:=by
 unfold mw at h
 split at h
 ·rename_i fs ys zs e1 e2
  split at h
  ·rename_i a b e3 e4 e5
   cases h
   exact ⟨fs,ys,zs,a,b,join_some e1,e2,e3,e4,e5,rfl⟩
  ·cases h
 ·cases h
theorem CL {K:PySem.W.Frag}{H H':Hp}{O O' O₀:List Addr}{a l:Addr}{fs fs' xs ys:List PV}{ρ0 ρ':Rho}{σ0 σ':St} (hO:∀ b ∈ O,H b ≠ none) (q:b7 K (λ_=>none) O H fs xs a l) (st':az K (bn H [a,l]) O₀ O' H' ρ' σ') (k':aV (bn H [a,l]) O O' ρ0 ρ' σ0 σ') (hρ:ρ0[0]?=some (some (.ownO true fs xs))) (hσ:σ0[0]?=some (some (.ref a))) (e0:ρ'[0]?=some (some (.ownO true fs' ys))) :
  ∃ l',(∀ b o,b ≠ a->b ≠ l->H b=some o->H' b=some o)/\(l'=l \/ H l'=none)/\b7 K (λ_=>none) (l'::O.filter λb=>decide (b ≠ l)) H' fs ys a l':=by
 obtain ⟨⟨xs0,e1⟩,es⟩:=k'.mutO 0 fs' ys e0
 rw [hρ] at e1
 cases e1
 obtain ⟨u,eu,a',l',rfl,q2⟩:=st'.slot 0 _ e0
 rw [eu,hσ] at es
 cases es
 have lB:=q2.lB
 refine ⟨l',λb o n1 n2 eb=>st'.keep b o (fJ n1 n2 eb),?_,q2.move (aW (af.refl _) λb hb=>.inl ?_) (λ_ h=>h) (λ_ h=>h) (List.mem_cons_of_mem _ (List.mem_filter.mpr ⟨q.aO,decide_eq_true q.ne⟩)) List.mem_cons_self rfl rfl⟩
 ·unfold bn at lB
  split at lB
  ·rename_i z
   rcases List.mem_cons.mp z with z|z
   ·exact absurd z.symm q2.ne
   ·exact .inl (List.mem_singleton.mp z)
  ·exact .inr lB
 ·rcases List.mem_cons.mp hb with rfl|hb
  ·exact q2.lO
  ·obtain ⟨h1,h2⟩:=List.mem_filter.mp hb
   by_cases z:b=a
   ·subst z
    exact q2.aO
   ·cases eo:H b with
    | none=>exact absurd eo (hO b h1)
    | some o=>exact k'.stay b (by rw [fJ z (of_decide_eq_true h2) eo];simp) h1
structure Bw (T:Tab) (P:Program) (w:World) (K:PySem.W.Frag) (mg:Str->Option Value) (base:Heap) (ds:List MD) (n g:Nat) (fa:Addr) (fd:FuncData) (ps:List Str):Prop where
 m:cf P w K mg base CX0 n fa fd ps (spM K (ae ds n) g)
 f:cf P w K mg base CX0 n fa fd ps (spF K (ae ds n) g)
 t:cf P w K mg base CX0 n fa fd ps (spT K (ae ds n) g)
 b:cf P w K mg base CX0 n fa fd ps (spB K (ae ds n) g)
 e:cf P w K mg base (CXE P w) n fa fd ps (spE K mg T.es (ae ds n) g)
theorem dq (hlen:ds.length <= 1000) (pr:zB T K mg ds):∀ (n f:Nat) (d:MD),ds[f]?=some d->∀ st fa fd,kL T K mg st d fa fd->Bw T P w K mg base ds n f fa fd d.params
 | 0,f,d,hd,st,fa,fd,D=>{
   m:=⟨λvs H Q E h=>(by obtain ⟨O,args,r,_,_,e,_⟩:=h;exact absurd e (by simp [ae])),λA outer s H args us vs Q E _ _ _ _ h=>(by obtain ⟨O,args,r,_,_,e,_⟩:=h;exact absurd e (by simp [ae]))⟩
   f:=⟨λvs H Q E h=>(by obtain ⟨O,args,r,_,_,e,_⟩:=h;exact absurd e (by simp [ae])),λA outer s H args us vs Q E _ _ _ _ h=>(by obtain ⟨O,args,r,_,_,e,_⟩:=h;exact absurd e (by simp [ae]))⟩
   e:=⟨λvs H Q E h=>(by obtain ⟨O,args,r,_,_,e,_⟩:=h;exact absurd e (by simp [ae])),λA outer s H args us vs Q E _ _ _ _ h=>(by obtain ⟨O,args,r,_,_,e,_⟩:=h;exact absurd e (by simp [ae]))⟩
   t:=⟨λvs H Q E h=>(by obtain ⟨O,a,l,fs,xs,as,ws,v,ys,_,_,_,_,e,_⟩:=h;exact absurd e (by simp [ae])),λA outer s H args us vs Q E _ _ _ _ h=>(by obtain ⟨O,a,l,fs,xs,as,ws,v,ys,_,_,_,_,e,_⟩:=h;exact absurd e (by simp [ae]))⟩
   b:=⟨λvs H Q E h=>(by obtain ⟨O,a,l,c,fs,xs,zs,us,v,ys,_,_,_,_,_,_,_,_,e,_⟩:=h;exact absurd e (by simp [ae])),λA outer s H args us vs Q E _ _ _ _ h=>(by obtain ⟨O,a,l,c,fs,xs,zs,us,v,ys,_,_,_,_,_,_,_,_,e,_⟩:=h;exact absurd e (by simp [ae]))⟩
   }
 | n + 1,f,d,hd,st,fa,fd,D=>by
  obtain ⟨c0,d0,k0,o0,m0,a0,cdv,t1,a1,sl,lk,hc,rfl⟩:=D.fn.it
  have hf:f < 1000:=Nat.lt_of_lt_of_le (List.getElem?_eq_some_iff.mp hd).1 hlen
  have hn:ds[f + 1000]?=none:=List.getElem?_eq_none (by omega)
  have hn3:ds[f + 3000]?=none:=List.getElem?_eq_none (by omega)
  have hn5:ds[f + 5000]?=none:=List.getElem?_eq_none (by omega)
  have hn6:ds[f + 6000]?=none:=List.getElem?_eq_none (by omega)
  have gg:∀ {CX:CXT}{A:Around}{outer:_}{s:Shared}{H:Hp}{E:_},_->Gf (jQ CX P w K mg base d.names d.name (aA st) fa cdv A outer s H E).nox T n (ae ds n):=λ{CX A outer s H E} hr=>{
   calm:=rfl
   room:=hr
   fns:=λf' x hx hp=>by
    rw [pr.tab,List.getElem?_map] at hx
    cases hd2:ds[f']? with
    | none=>rw [hd2] at hx;cases hx
    | some d2 =>
     rw [hd2] at hx
     cases hx
     obtain ⟨hm,hnm⟩:=gU hp
     obtain ⟨l2,st2,fa2,fd2,el,D2,bd⟩:=pr.defs.get hd2
     rcases D2.named with ⟨_,nd⟩|⟨m,em,_⟩
     ·exact ⟨fa2,fd2,d2.params,by rw [hnm];exact nd,D2.fn.kp,D2.binds,(dq hlen pr n f' d2 hd2 st2 fa2 fd2 D2).m,λl hl=>by rw [el] at hl;cases hl;exact bd⟩
     ·rw [hm] at em;cases em
   cls:=λC h=>⟨(pr.cls C h).cls,(pr.cls C h).nf,(pr.cls C h).nt⟩
   meths:=λf' m hx C hC=>by
    rw [pr.tabM,List.getElem?_map] at hx
    cases hd2:ds[f']? with
    | none=>rw [hd2] at hx;cases hx
    | some d2 =>
     rw [hd2] at hx
     have hx:d2.meth=some m:=Option.some.inj hx
     obtain ⟨l2,st2,fa2,fd2,el,D2,bd⟩:=pr.defs.get hd2
     rcases D2.named with ⟨em,_⟩|⟨m',em,nd⟩
     ·rw [hx] at em;cases em
     ·rw [hx] at em
      cases em
      exact ⟨fa2,fd2,d2.params,nd C hC,D2.binds,(dq hlen pr n f' d2 hd2 st2 fa2 fd2 D2).m⟩
   methsT:=λf' m hx C hC=>by
    rw [pr.tabM,List.getElem?_map] at hx
    cases hd2:ds[f']? with
    | none=>rw [hd2] at hx;cases hx
    | some d2 =>
     rw [hd2] at hx
     have hx:d2.meth=some m:=Option.some.inj hx
     obtain ⟨l2,st2,fa2,fd2,el,D2,bd⟩:=pr.defs.get hd2
     rcases D2.named with ⟨em,_⟩|⟨m',em,nd⟩
     ·rw [hx] at em;cases em
     ·rw [hx] at em
      cases em
      exact ⟨fa2,fd2,d2.params,nd C hC,D2.binds,(dq hlen pr n f' d2 hd2 st2 fa2 fd2 D2).t⟩
   lvl:=λh=>cX.mono hr (zD hlen h)
   ini:=λ_=>by
    obtain ⟨C,h1,h2,fa,fd,ps,h3,h4,h5,h6⟩:=pr.ini
    exact ⟨C,h1,h2,fa,fd,ps,h3,h4,h5 _ _ _,h6⟩
   blt:=pr.blt
   gs:=pr.gs
   fnsF:=λf' x hx hp=>by
    rw [pr.tab,List.getElem?_map] at hx
    cases hd2:ds[f']? with
    | none=>rw [hd2] at hx;cases hx
    | some d2 =>
     rw [hd2] at hx
     cases hx
     obtain ⟨hm,hnm⟩:=gU hp
     obtain ⟨l2,st2,fa2,fd2,el,D2,bd⟩:=pr.defs.get hd2
     rcases D2.named with ⟨_,nd⟩|⟨m,em,_⟩
     ·exact ⟨fa2,fd2,d2.params,by rw [hnm];exact nd,D2.fn.kp,D2.binds,(dq hlen pr n f' d2 hd2 st2 fa2 fd2 D2).f⟩
     ·rw [hm] at em;cases em
   fnsT:=λf' x hx hp=>by
    rw [pr.tab,List.getElem?_map] at hx
    cases hd2:ds[f']? with
    | none=>rw [hd2] at hx;cases hx
    | some d2 =>
     rw [hd2] at hx
     cases hx
     obtain ⟨hm,hnm⟩:=gU hp
     obtain ⟨l2,st2,fa2,fd2,el,D2,bd⟩:=pr.defs.get hd2
     rcases D2.named with ⟨_,nd⟩|⟨m,em,_⟩
     ·exact ⟨fa2,fd2,d2.params,by rw [hnm];exact nd,D2.fn.kp,D2.binds,(dq hlen pr n f' d2 hd2 st2 fa2 fd2 D2).t⟩
     ·rw [hm] at em;cases em
   fnsB:=λf' x hx hp=>by
    rw [pr.tab,List.getElem?_map] at hx
    cases hd2:ds[f']? with
    | none=>rw [hd2] at hx;cases hx
    | some d2 =>
     rw [hd2] at hx
     cases hx
     obtain ⟨hm,hnm⟩:=gU hp
     obtain ⟨l2,st2,fa2,fd2,el,D2,bd⟩:=pr.defs.get hd2
     rcases D2.named with ⟨_,nd⟩|⟨m,em,_⟩
     ·exact ⟨fa2,fd2,d2.params,by rw [hnm];exact nd,D2.fn.kp,D2.binds,(dq hlen pr n f' d2 hd2 st2 fa2 fd2 D2).b⟩
     ·rw [hm] at em;cases em
   errs:=pr.errs
   mgs:=pr.mgs
   fnsE:=λf' x hx hp=>by
    rw [pr.tab,List.getElem?_map] at hx
    cases hd2:ds[f']? with
    | none=>rw [hd2] at hx;cases hx
    | some d2 =>
     rw [hd2] at hx
     cases hx
     obtain ⟨hm,hnm⟩:=gU hp
     obtain ⟨l2,st2,fa2,fd2,el,D2,bd⟩:=pr.defs.get hd2
     rcases D2.named with ⟨_,nd⟩|⟨m,em,_⟩
     ·exact ⟨fa2,fd2,d2.params,by rw [hnm];exact nd,D2.fn.kp,D2.binds,(dq hlen pr n f' d2 hd2 st2 fa2 fd2 D2).e⟩
     ·rw [hm] at em;cases em
   methsE:=λf' m hx C hC=>by
    rw [pr.tabM,List.getElem?_map] at hx
    cases hd2:ds[f']? with
    | none=>rw [hd2] at hx;cases hx
    | some d2 =>
     rw [hd2] at hx
     have hx:d2.meth=some m:=Option.some.inj hx
     obtain ⟨l2,st2,fa2,fd2,el,D2,bd⟩:=pr.defs.get hd2
     rcases D2.named with ⟨em,_⟩|⟨m',em,nd⟩
     ·rw [hx] at em;cases em
     ·rw [hx] at em
      cases em
      exact ⟨fa2,fd2,d2.params,nd C hC,D2.binds,(dq hlen pr n f' d2 hd2 st2 fa2 fd2 D2).e⟩
   }
  have df:∀ {CX:CXT}{A:Around}{outer:_}{s:Shared}{H:Hp}{E:_},Df (jQ CX P w K mg base d.names d.name (aA st) fa cdv A outer s H E).nox:=λ{CX A outer s H E}=>⟨D.scope.nd,λ_=>rfl,PassesOwn.never,by
    have hk:(jQ CX P w K mg base d.names d.name (aA st) fa cdv A outer s H E).nox.env.scope.kind=.function:=D.scope.kind
    unfold Env.blockKind
    rw [hk]
    rfl
    ,⟨rfl,rfl⟩
    ⟩
  refine {
   m:=?_
   f:=?_
   t:=?_
   b:=?_
   e:=?_
   }
  ·refine j4 lk hc D.scope (λvs H Q E h=>?_) (λA outer s H vs Q E hr h=>?_)
   ·obtain ⟨O,args,r,_,hp,e,_⟩:=h
    rw [<- (jD hd e).1]
    exact (Paired.length hp).symm
   ·obtain ⟨O,args,r,hO,hp,e,q⟩:=h
    obtain ⟨hl,hr'⟩:=jD hd e
    refine ⟨_,(soundSs (gg hr) df d.body (cj st) D.body).nox,H,O,O,_,jG hO hp,?_⟩
    rcases hr' with ⟨ρ,he,rfl⟩|he|⟨xs,he,rfl⟩|⟨v,ρ,he,rfl⟩
    rotate_right
    ·rw [he]
     exact λσ' H' O' st' _=>q _ H' st'.keep (lK _ v)
    ·rw [he]
     exact λσ' H' O' st' _=>q _ H' st'.keep (iR _)
    ·rw [he]
     exact λu H' s' r'=>q u H' s' r'
    ·rw [he]
     refine λp us H' s' hp' he' r'=>q _ H' s' ?_
     rw [Rep]
     refine ⟨p,us,rfl,SqL.of ?_,Reps.mono gP _ r'⟩
     rw [aJ λz=>hO p z hp']
     exact he'
  ·refine j4 lk hc D.scope (λvs H Q E h=>?_) (λA outer s H vs Q E hr h=>?_)
   ·obtain ⟨O,args,r,_,hp,e,_⟩:=h
    rw [<- (iD hf hn hd e).1]
    exact (Paired.length hp).symm
   ·obtain ⟨O,args,xs,hO,hp,e,q⟩:=h
    obtain ⟨hl,ys,he,ey⟩:=iD hf hn hd e
    cases ey
    refine ⟨_,(soundSs (gg hr) df d.body (cj st) D.body).nox,H,O,O,_,jG hO hp,?_⟩
    rw [he]
    exact λp us H' s' hp' he' r'=>q p us H' s' hp' he' r'
  ·refine j4 lk hc D.scope (λvs H Q E h=>?_) (λA outer s H vs Q E hr h=>?_)
   ·obtain ⟨O,a,l,fs,xs,as,ws,v,ys,rfl,_,_,r,e,_⟩:=h
    rw [<- (jF hf hn3 hd e).1]
    simp [Paired.length r]
   ·obtain ⟨O,a,l,fs,xs,as,ws,v,ys,rfl,hO,q,r,e,kq⟩:=h
    obtain ⟨hl,v',ρ,he,ee⟩:=jF hf hn3 hd e
    obtain ⟨rfl,fs',e0⟩:=wP ee
    refine ⟨_,(soundSs (gg hr) df d.body (cj st) D.body).nox,bn H [a,l],_,O,_,kO hO q r,?_⟩
    rw [he]
    intro σ' H' O' st' k'
    obtain ⟨⟨xs0,e1⟩,es⟩:=k'.mutO 0 fs' ys e0
    have efs:fs'=fs:=by
     have e1:some (some (MV.ownO true fs xs))=some (some (MV.ownO true fs' xs0)):=e1
     cases e1
     rfl
    subst efs
    obtain ⟨u,eu,a',l',rfl,q2⟩:=st'.slot 0 _ e0
    have ea:a'=a:=by
     rw [eu] at es
     have es:some (some (V.ref a'))=some (some (V.ref a)):=es
     cases es
     rfl
    subst ea
    have lB:=q2.lB
    refine kq l' H' (λb o n1 n2 eb=>st'.keep b o ?_) ?_ (q2.move (aW (af.refl _) λb hb=>.inl ?_) (λ_ h=>h) (λ_ h=>h) (List.mem_cons_of_mem _ (List.mem_filter.mpr ⟨q.aO,decide_eq_true q.ne⟩)) List.mem_cons_self rfl rfl)
    ·unfold bn
     rw [if_neg λz=>by
      rcases List.mem_cons.mp z with z|z
      ·exact n1 z
      ·exact n2 (List.mem_singleton.mp z)]
     exact eb
    ·unfold bn at lB
     split at lB
     ·rename_i z
      rcases List.mem_cons.mp z with z|z
      ·exact absurd z.symm q2.ne
      ·exact .inl (List.mem_singleton.mp z)
     ·exact .inr lB
    ·rcases List.mem_cons.mp hb with rfl|hb
     ·exact q2.lO
     ·obtain ⟨h1,h2⟩:=List.mem_filter.mp hb
      by_cases z:b=a'
      ·subst z
       exact q2.aO
      ·refine k'.stay b ?_ h1
       unfold bn
       rw [if_neg λw=>by
        rcases List.mem_cons.mp w with w|w
        ·exact z w
        ·exact of_decide_eq_true h2 (List.mem_singleton.mp w)]
       exact hO b h1
  ·refine j4 lk hc D.scope (λvs H Q E h=>?_) (λA outer s H vs Q E hr h=>?_)
   ·obtain ⟨O,a,l,c,fs,xs,zs,us,v,ys,rfl,_,_,_,_,_,_,_,e,_⟩:=h
    rw [<- (kN hn6 hd e).1]
    rfl
   ·obtain ⟨O,a,l,c,fs,xs,zs,us,v,ys,rfl,hO,q,hcc,ca,cl,cO,rs,e,kq⟩:=h
    obtain ⟨hl,e'⟩:=kN hn6 hd e
    obtain ⟨m1,m2,w',x,i,ρ1,ρ2,hb,z1,z2,he1,he2,hp⟩:=wO e'
    have hbd:=D.body
    rw [hb] at hbd
    obtain ⟨s1,ss1,eb1,c1,hbd⟩:=jE z1 hbd
    obtain ⟨s2,ss2,rfl,c2,hbd⟩:=jE z2 hbd
    obtain ⟨s3,ss3,rfl,c3,hbd⟩:=jE rfl hbd
    obtain rfl:ss3=[]:=by
     cases ss3 with
     | nil=>rfl
     | cons _ _=>cases hbd
    obtain ⟨fs',ys',zs',a1,b1,e0,ei,ew,ex',hlast,hv⟩:=wQ hp
    obtain ⟨rfl,rfl⟩:v=.bl (a1 == b1)/\ys'=ys:=by
     cases v <;> cases hv
     exact ⟨rfl,rfl⟩
    have hcB:bn H [a,l] c=some (.lst us):=fJ ca cl hcc
    have r:Paired (cJ K O (bn H [a,l])) [.brw zs] [.ref c]:=.cons ⟨c,us,rfl,SqL.of hcB,by rw [c4 q.aO q.lO];exact rs⟩ .nil
    rw [eb1]
    refine ⟨_,(dG (lP (gg hr) df m1 s1 c1) (dG (lP (gg hr) df m2 s2 c2) (kZ (wF (gg hr) c3)))).nox,bn H [a,l],_,O,_,kO hO q r,?_⟩
    rw [he1]
    intro σ1 H1 O1 st1 k1
    refine ⟨_,_,_,ρ1,st1,?_⟩
    rw [he2]
    intro σ2 H2 O2 st2 k2
    have k:=k1.trans k2
    obtain ⟨f1,f2⟩:=k.brw i (.brw zs') rfl (join_some ei)
    obtain ⟨rfl,rfl⟩:i=1/\zs'=zs:=by
     match i,f1 with
     | 0,f1=>cases (show some (some (MV.ownO true fs xs))=some (some (MV.brw zs')) from f1)
     | 1,f1 =>
      cases (show some (some (MV.brw zs))=some (some (MV.brw zs')) from f1)
      exact ⟨rfl,rfl⟩
     | i + 2,f1 =>
      have f1:(List.replicate (d.names.length - 2) (none:Option MV))[i]?=some (some (.brw zs')):=f1
      rw [List.getElem?_replicate] at f1
      split at f1 <;> cases f1
    have hlast':us[us.length - 1]?=some (.int b1):=by
     rw [List.getLast?_eq_getElem?] at hlast
     obtain ⟨u,e3,ru⟩:=rs.get hlast
     rw [rs.length] at e3
     rw [e3,show u=.int b1 from by simpa only [Rep] using ru]
    refine ⟨_,_,O2,ρ2,a1,b1,c,us,st2,ew,ex',f2,st2.keep _ _ hcB,hlast',λH' s'=>?_⟩
    obtain ⟨l',kp,hl',q'⟩:=CL hO q (st2.mono s') k rfl rfl e0
    have cl':c ≠ l':=λz=>hl'.elim (λw=>cl (z.trans w)) λw=>by rw [<- z,hcc] at w;cases w
    have cO':c ∈ l'::O.filter λb=>decide (b ≠ l):=List.mem_cons_of_mem _ (List.mem_filter.mpr ⟨cO,decide_eq_true cl⟩)
    refine kq l' _ (λb o n1 n2 n3 eb=>by rw [ak n3];exact kp b o n1 n2 eb) hl' (q'.move (λd o ed=>?_) (λo h=>by rw [ak (Ne.symm ca)];exact h) (λo h=>by rw [ak (Ne.symm cl')];exact h) q'.aO q'.lO rfl rfl) av
    have hd:d ∉ l'::O.filter λb=>decide (b ≠ l):=λz=>by rw [c5 z] at ed;cases ed
    rw [aJ hd] at ed ⊢
    rw [ak λ(z:d=c)=>hd (by rw [z];exact cO')]
    exact ed
  ·refine j4 lk hc D.scope (λvs H Q E h=>?_) (λA outer s H vs Q E hr h=>?_)
   ·obtain ⟨O,args,r,_,hp,e,_⟩:=h
    rw [<- (kM hn5 hd hf e).1]
    exact (Paired.length hp).symm
   ·obtain ⟨O,args,r,hO,hp,e,q⟩:=h
    obtain ⟨hl,he⟩:=kM hn5 hd hf e
    have dy:Df (jQ (CXE P w) P w K mg base d.names d.name (aA st) fa cdv A outer s H E).nox:=df
    have dx:Df (jQ (CXE P w) P w K mg base d.names d.name (aA st) fa cdv A outer s H E):=⟨dy.nd,dy.fn,PassesOwn.leaving,dy.blk,dy.stk⟩
    refine ⟨_,soundE (Gf.unnox (gg hr)) dx d.body (cj st) D.body,H,O,O,_,jG hO hp,?_⟩
    cases hx:exsE (ae ds n) d.body (args.map some ++ List.replicate (d.names.length - args.length) none) with
    | err c =>
     rw [hx] at he
     cases he
     rcases q with ⟨v,z,_⟩|⟨c',z,q⟩
     ·cases z
     ·cases z
      exact λC H' hc1 hm s1=>⟨λpins s' σ' h' ea vs I hx=>nJ I rfl rfl rfl hx λs2 fl=>⟨ea,C,H',rfl,fl,q C H' hc1 hm s1⟩,λpins σ' H1 s1' ea s' I fl=>qi I rfl rfl rfl fl λs2 fl2=>⟨ea,C,H',rfl,fl2,q C H' hc1 hm s1⟩⟩
    | fin r0 =>
     rw [hx] at he
     rcases q with ⟨v,z,q⟩|⟨c',z,q⟩
     ·subst z
      cases r0 with
      | next ρ =>
       cases he
       exact λσ' H' O' st' _=>q _ H' st'.keep (iR _)
      | ret u =>
       cases he
       exact λu H' s' r'=>q u H' s' r'
      | brk _=>cases he
      | cont _=>cases he
      | bad=>cases he
      | retF _=>cases he
      | retT v ρ =>
       cases he
       exact λσ' H' O' st' _=>q _ H' st'.keep (lK _ v)
     ·subst z
      cases r0 <;> cases he
theorem Bx (hlen:ds.length <= 1000) (pr:zB T K mg ds) (n f:Nat) (d:MD) (hd:ds[f]?=some d) (st:Stmt) (fa:Addr) (fd:FuncData) (D:kL T K mg st d fa fd):cf P w K mg base CX0 n fa fd d.params (spM K (ae ds n) f):=(dq hlen pr n f d hd st fa fd D).m
end
theorem wR {K:PySem.W.Frag}{H:Hp}{la x C dx:Addr}{us:List V}{gs:List (Str × V)}{o:HO} (h:SqT K H la us) (hx:H x=some (.ins C dx gs)):SqT K (upd H x o) la us:=by
 rcases h with (e|⟨o',e⟩)|e
 ·have n:la ≠ x:=λz=>by rw [z,hx] at e;cases e
  exact .inl (.inl (by rw [ak n];exact e))
 ·have n:la ≠ x:=λz=>by rw [z,hx] at e;cases e
  exact .inl (.inr ⟨o',by rw [ak n];exact e⟩)
 ·exact .inr e
theorem gW {x:Str}{v:V}{gs:List (Str × V)}{n:Nat} (h:gs.length <= n):(dH x v gs).length <= n + 1:=by
 induction gs generalizing n with
 | nil=>exact Nat.succ_le_succ (Nat.zero_le _)
 | cons p gs ih =>
  obtain ⟨y,w⟩:=p
  show (if y=x then (y,v)::gs else (y,w)::dH x v gs).length <= _
  cases n with
  | zero=>cases h
  | succ n =>
   have:=ih (Nat.le_of_succ_le_succ h)
   have:=Nat.le_of_succ_le_succ h
   split
   ·simp only [List.length_cons];omega
   ·simp only [List.length_cons];omega
theorem zE {K:PySem.W.Frag}{C C':Addr} (h:IsC K C) (c:pC K C) (h':IsC K C'):pC K C':=by
 have:=h'.symm.trans h
 cases this
 exact c
theorem xG {K:PySem.W.Frag}{C:Addr} (n0:PySem.W.findIn K (.ref C) "hole_count"=some none) (n1:PySem.W.findIn K (.ref C) "ribbons"=some none) (n2:PySem.W.findIn K (.ref C) "opener"=some none) (x:Str) (hx:x ∈ gd):dJ K C x:=by
 simp only [gd,List.mem_cons,List.not_mem_nil,or_false] at hx
 rcases hx with rfl|rfl|rfl
 ·exact n0
 ·exact n1
 ·exact n2
theorem zF {K:PySem.W.Frag}{ds:List MD}{n li:Nat}{H:Hp}{a:Addr}{ns:List Int} (h:ae ds n li [.brw (ns.map .int)]=some (.bl true)) (hS:SqL K H a (ns.map V.int)):spM K (ae ds n) li [.ref a] H (λv _=>v=.bl true) λ_ _ _=>False :=
 ⟨[],[.brw (ns.map .int)],.bl true,λ_ z=>by simp at z,.cons ⟨a,_,rfl,hS,.of_ints ns⟩ .nil,h,λu H' _ r=>by rw [Rep] at r;exact r⟩
end MM
namespace MM
open PySem
noncomputable abbrev ofS (ts:List Int):PV:=.tup (ts.map .int)
noncomputable abbrev ofR (R:List (List Int)):PV:=.tup (R.map ofS)
noncomputable abbrev ofL (ns:List Int):PV:=.lst (ns.map .int)
theorem eM:∀ ns:List Int,bc (ns.map .int)=some ns
 | []=>rfl
 | n::ns=>by simp [bc,eM ns]
theorem kP:∀ R:List (List Int),eI (R.map ofS)=some R
 | []=>rfl
 | t::R=>by simp [eI,eM,kP R]
theorem jH:∀ ns:List Bool,cb (ns.map .bl)=some ns
 | []=>rfl
 | n::ns=>by simp [cb,jH ns]
theorem kQ {ns:List Int} (h:ns.length < 64):eT (ns.map .int)=some (ofL (sortI ns)):=by
 unfold eT
 rw [if_pos (by simpa using h),eM]
theorem ip {R:List (List Int)} (h:R.length < 64):eT (R.map ofS)=some (.lst ((sortT R).map ofS)):=by
 unfold eT
 rw [if_pos (by simpa using h)]
 cases R with
 | nil=>rfl
 | cons t R =>
  have:bc ((t::R).map ofS)=none:=rfl
  rw [this]
  simp only [kP,Option.map_some]
theorem bT {α:Type}{g:α->PV}{c:PV->Option Bool}{f:PV->Option PV}{p:α->Bool}{h:α->PV}:∀ {xs:List α},(∀ x ∈ xs,c (g x)=some (p x))->(∀ x ∈ xs,p x=true->f (g x)=some (h x))->dO c f (xs.map g)=some ((xs.filter p).map h)
 | [],_,_=>rfl
 | x::xs,hc,hf=>by
  rw [List.map_cons,dO,hc x (.head _),Option.bind_some]
  have ih:=bT (xs:=xs) (λy hy=>hc y (.tail _ hy)) (λy hy=>hf y (.tail _ hy))
  cases hp:p x with
  | true=>rw [if_pos rfl,hf x (.head _) hp,Option.bind_some,ih,List.filter_cons_of_pos hp];rfl
  | false=>rw [if_neg (by simp),ih,List.filter_cons_of_neg (by simp [hp])]
theorem jI {α:Type}{g:α->PV}{c:PV->Option Bool}{f:PV->Option PV}{h:α->PV}{xs:List α} (hc:∀ x ∈ xs,c (g x)=some true) (hf:∀ x ∈ xs,f (g x)=some (h x)):dO c f (xs.map g)=some (xs.map h):=by
 rw [bT (p:=λ_=>true) hc (λx hx _=>hf x hx),List.filter_eq_self.mpr λ_ _=>rfl]
theorem zG (a b:Int) (ts:List Int):((b == a) || decide (a ∈ ts))=decide (a=b \/ a ∈ ts):=by
 by_cases e:a=b
 ·subst e;rw [beq_self_eq_true,Bool.true_or];exact (decide_eq_true (.inl rfl)).symm
 ·rw [beq_eq_false_iff_ne.mpr (Ne.symm e),Bool.false_or]
  by_cases q:a ∈ ts
  ·rw [decide_eq_true q,decide_eq_true (.inr q)]
  ·rw [decide_eq_false q,decide_eq_false (λz=>z.elim e q)]
theorem zH (a b:List Int) (ts:List (List Int)):(decide (b=a) || decide (a ∈ ts))=decide (a=b \/ a ∈ ts):=by
 by_cases e:a=b
 ·subst e;rw [decide_eq_true rfl,Bool.true_or];exact (decide_eq_true (.inl rfl)).symm
 ·rw [decide_eq_false (Ne.symm e),Bool.false_or]
  by_cases q:a ∈ ts
  ·rw [decide_eq_true q,decide_eq_true (.inr q)]
  ·rw [decide_eq_false q,decide_eq_false (λz=>z.elim e q)]
theorem cx (h:Int):∀ ts:List Int,isIn (.int h) (ts.map .int)=some (decide (h ∈ ts))
 | []=>rfl
 | t::ts=>by
  have ih:=cx h ts
  unfold isIn at ih ⊢
  rw [List.map_cons,inL,ih]
  simp only [eqF,Option.bind_some,Option.map_some,List.mem_cons,zG]
theorem jJ (n:Nat):∀ a b:List Int,eqL (eqF n) (a.map .int) (b.map .int)=some (decide (a=b))
 | [],[]=>rfl
 | [],_::_=>rfl
 | _::_,[]=>rfl
 | x::a,y::b=>by
  rw [List.map_cons,List.map_cons,eqL,jJ n a b]
  simp only [eqF,Option.bind_some,Option.map_some,List.cons.injEq]
  congr 1
  rw [Bool.eq_iff_iff]
  simp
theorem t9 (n:Nat) (a b:List Int):eqF (n + 1) (ofS a) (ofS b)=some (decide (a=b)):=by rw [eqF,jJ]
theorem By (n:Nat) (a b:List Int):eqF (n + 1) (ofL a) (ofL b)=some (decide (a=b)):=by
 rw [eqF,jJ]
 split
 ·rfl
 ·rename_i h
  congr 1
  exact (decide_eq_false λe=>h (by rw [e])).symm
theorem xH (n:Nat):∀ a b:List (List Int),eqL (eqF (n + 1)) (a.map ofS) (b.map ofS)=some (decide (a=b))
 | [],[]=>rfl
 | [],_::_=>rfl
 | _::_,[]=>rfl
 | x::a,y::b=>by
  rw [List.map_cons,List.map_cons,eqL,xH n a b,t9]
  simp only [Option.bind_some,Option.map_some,List.cons.injEq]
  congr 1
  rw [Bool.eq_iff_iff]
  simp
theorem xI (n:Nat) (a b:List (List Int)):eqF (n + 2) (ofR a) (ofR b)=some (decide (a=b)):=by rw [eqF,xH]
theorem n_ (h:List Int):∀ ts:List (List Int),isIn (ofS h) (ts.map ofS)=some (decide (h ∈ ts))
 | []=>rfl
 | t::ts=>by
  have ih:=n_ h ts
  unfold isIn at ih ⊢
  rw [List.map_cons,inL,ih,t9 99]
  simp only [Option.bind_some,Option.map_some,List.mem_cons,zH]
noncomputable def cy:R->Option PV
 | .next _=>some .non
 | .ret v=>some v
 | .retF xs=>some (.lst xs)
 | .retT v _=>some v.pv
 | _=>none
theorem ax {ds:List MD}{n f:Nat}{d:MD}{args:List MV} (hd:ds[f]?=some d) (hl:args.length=d.params.length):ae ds (n + 1) f args=cy (exs (ae ds n) d.body (args.map some ++ List.replicate (d.names.length - args.length) none)):=by
 rw [ae,hd]
 simp only [hl,if_true]
 unfold cy
 rfl
noncomputable def t_:R->Option PV
 | .retT v ρ=>nO v ρ
 | _=>none
theorem kR {ds:List MD}{n f:Nat}{d:MD}{args:List MV} (hf:f < 1000) (hn:ds[f + 3000]?=none) (hd:ds[f]?=some d) (hl:args.length=d.params.length):ae ds (n + 1) (f + 3000) args=t_ (exs (ae ds n) d.body (args.map some ++ List.replicate (d.names.length - args.length) none)):=by
 rw [ae,hn]
 dsimp only
 rw [if_neg (by omega),if_pos (by omega)]
 rw [if_neg (by omega)]
 rw [if_neg (by omega)]
 rw [Nat.add_sub_cancel,hd]
 simp only [hl,if_true]
 unfold t_
 rfl
theorem qD {ds:List MD}{n f:Nat}{d:MD}{args:List MV} (hn:ds[f + 5000]?=none) (hd:ds[f]?=some d) (hl:args.length=d.params.length)
  (hf:f < 1000:=by decide)
 :ae ds (n + 1) (f + 5000) args=vU (exsE (ae ds n) d.body (args.map some ++ List.replicate (d.names.length - args.length) none)):=by
 rw [ae,hn]
 dsimp only
 rw [if_neg (by omega),if_pos (by omega)]
 rw [if_neg (by omega)]
 rw [if_pos (by omega)]
 rw [Nat.add_sub_cancel,hd]
 dsimp only
 rw [if_pos hl]
theorem qE {ds:List MD}{n f:Nat}{d:MD}{args:List MV} (hn:ds[f + 6000]?=none) (hd:ds[f]?=some d) (hl:args.length=d.params.length):ae ds (n + 1) (f + 6000) args=nP (ae ds n) d.body (args.map some ++ List.replicate (d.names.length - args.length) none):=by
 rw [ae,hn]
 dsimp only
 rw [if_neg (by omega),if_pos (by omega),if_pos (by omega),Nat.add_sub_cancel,hd]
 dsimp only
 rw [if_pos hl]
@[simp] theorem z5 (xs:List PV) (k:Rho->R):(R.retF xs).andThen k=.retF xs:=rfl
@[simp] theorem z6 (v:PV):a9 (some (.val v))=some v:=rfl
@[simp] theorem z7 (v:List PV):a9 (some (.own v))=some (.lst v):=rfl
@[simp] theorem z8 (v:List PV):a9 (some (.brw v))=some (.lst v):=rfl
@[simp] theorem zI (v:DD):a9 (some (.ownD v))=some (.dI v):=rfl
@[simp] theorem zJ (v:DD):a9 (some (.brwD v))=some (.dI v):=rfl
@[simp] theorem zK (v:DD):bu (some (.ownD v))=some (.brwD v):=rfl
@[simp] theorem zL (v:DD):bu (some (.brwD v))=some (.brwD v):=rfl
@[simp] theorem zM (v:DD):cY (some (.ownD v))=some (.brwD v):=rfl
@[simp] theorem zN (v:DD):cY (some (.brwD v))=some (.brwD v):=rfl
@[simp] theorem CM (i:Int):sc? (.int i)=some (.int i):=rfl
@[simp] theorem C6 (i:Bool):sc? (.bl i)=some (.bl i):=rfl
@[simp] theorem CN:sc? .non=some .non:=rfl
@[simp] theorem CO (i:Int):(Sc.int i).pv=.int i:=rfl
@[simp] theorem C7 (i:Bool):(Sc.bl i).pv=.bl i:=rfl
@[simp] theorem z9 (v:PV):sj (some (.val v))=some v:=rfl
@[simp] theorem z_ (v:PV):bu (some (.val v))=some (.val v):=rfl
@[simp] theorem Aa (v:List PV):bu (some (.own v))=some (.brw v):=rfl
@[simp] theorem Ab (v:List PV):bu (some (.brw v))=some (.brw v):=rfl
@[simp] theorem Ac (v:PV):cY (some (.val v))=some (.val v):=rfl
@[simp] theorem Ad (v:List PV):cY (some (.own v))=some (.brw v):=rfl
@[simp] theorem Ae (v:List PV):cY (some (.brw v))=some (.brw v):=rfl
@[simp] theorem Af (b:Bool):aH (.bl b)=some b:=rfl
@[simp] theorem BT (i j:Int):gw .add (.int i) (.int j)=some (.int (i + j)):=rfl
@[simp] theorem BU (i j:Int):gw .sub (.int i) (.int j)=some (.int (i - j)):=rfl
@[simp] theorem BV (i j:Int):gw .mul (.int i) (.int j)=if (-(2 ^ 64) < i/\i < 2 ^ 64) \/ (-(2 ^ 64) < j/\j < 2 ^ 64) then some (.int (i * j)) else none:=rfl
@[simp] theorem Bz (i j:Int):gw .fdiv (.int i) (.int j)=if 0 < j/\j < 1073741824 then some (.int (i / j)) else none:=rfl
@[simp] theorem BW (i j:Int):gw .mod (.int i) (.int j)=if 0 < j then some (.int (i % j)) else none:=rfl
@[simp] theorem BX (x y:List PV):gw .add (.lst x) (.lst y)=if x.length + y.length <= 10000 then some (.lst (x ++ y)) else none:=rfl
@[simp] theorem CP (i j:Int):bX .lt (.int i) (.int j)=some (decide (i < j)):=rfl
@[simp] theorem CQ (i j:Int):bX .le (.int i) (.int j)=some (decide (i <= j)):=rfl
@[simp] theorem CS (i j:Int):bX .gt (.int i) (.int j)=some (decide (j < i)):=rfl
@[simp] theorem CT (i j:Int):bX .ge (.int i) (.int j)=some (decide (j <= i)):=rfl
@[simp] theorem CU (x y:PV):bX .eq x y=eqF 100 x y:=rfl
@[simp] theorem CV (x y:PV):bX .ne x y=if nM x y=true then (eqF 100 x y).map (λp=>!p) else none:=rfl
@[simp] theorem BY (x:PV):bX .isN x .non=some (di x):=rfl
@[simp] theorem BA (x:PV):bX .notN x .non=some (!di x):=rfl
@[simp] theorem BZ (x:PV) (xs:List PV):bX .isIn x (.tup xs)=isIn x xs:=rfl
@[simp] theorem B0 (x:PV) (xs:List PV):bX .isIn x (.lst xs)=isIn x xs:=rfl
@[simp] theorem BB (x:PV) (xs:List PV):bX .notIn x (.tup xs)=(isIn x xs).map λp=>!p:=rfl
@[simp] theorem BC (x:PV) (xs:List PV):bX .notIn x (.lst xs)=(isIn x xs).map λp=>!p:=rfl
@[simp] theorem B1 (n:Nat) (i j:Int):eqF n (.int i) (.int j)=some (i == j):=by cases n <;> rfl
@[simp] theorem CW (n:Nat) (i j:Bool):eqF n (.bl i) (.bl j)=some (i == j):=by cases n <;> rfl
@[simp] theorem B2 (n:Nat) (i j:Str):eqF n (.str i) (.str j)=some (i == j):=by cases n <;> rfl
@[simp] theorem B3 (x y:List PV):nM (.tup x) (.tup y)=true:=rfl
@[simp] theorem B4 (x y:List PV):nM (.lst x) (.lst y)=true:=rfl
@[simp] theorem B5 (x y:Int):nM (.int x) (.int y)=true:=rfl
@[simp] theorem wS (x:List PV):br (.tup x)=some x:=rfl
@[simp] theorem pD (x:List PV):br (.lst x)=some x:=rfl
@[simp] theorem BD (x:List PV):aF .len [.tup x]=some (.int x.length):=rfl
@[simp] theorem BE (x:List PV):aF .len [.lst x]=some (.int x.length):=rfl
@[simp] theorem BF (x:List (Int × Sc)):aF .len [.dI (.k x)]=some (.int x.length):=rfl
@[simp] theorem B6 (x:PV):aF .tupleOf [x]=(br x).map .tup:=rfl
@[simp] theorem BG (x:PV):aF .listOf [x]=(br x).map .lst:=rfl
@[simp] theorem oa (x:PV):aF .sorted [x]=(br x).bind eT:=rfl
@[simp] theorem wT (x:List PV):aF .any [.lst x]=(cb x).map λbs=>.bl (bs.any id):=rfl
@[simp] theorem B7 (x:List PV):aF .all [.lst x]=(cb x).map λbs=>.bl (bs.all id):=rfl
@[simp] theorem BH (i:Int):aF .intOf [.int i]=some (.int i):=rfl
@[simp] theorem BI (b:Bool):aF .intOf [.bl b]=some (.int (if b then 1 else 0)):=rfl
@[simp] theorem B8 (i:Int):isD (.int i)=false:=rfl
@[simp] theorem CY (i:Bool):isD (.bl i)=false:=rfl
@[simp] theorem B9 (i:Str):isD (.str i)=false:=rfl
@[simp] theorem B_ (i:List PV):isD (.tup i)=false:=rfl
@[simp] theorem Ca (i:List PV):isD (.lst i)=false:=rfl
@[simp] theorem Cb:isD .non=false:=rfl
@[simp] theorem Ag (x:PV):aF .isInt [x]=if isD x=true then none else some (.bl (isT .isInt x)):=rfl
@[simp] theorem u0 (i:Int):isT .isInt (.int i)=true:=rfl
@[simp] theorem wU (i:Bool):isT .isInt (.bl i)=true:=rfl
@[simp] theorem u1 (i:Str):isT .isInt (.str i)=false:=rfl
@[simp] theorem u2 (i:List PV):isT .isInt (.lst i)=false:=rfl
@[simp] theorem u3 (i:List PV):isT .isInt (.tup i)=false:=rfl
@[simp] theorem u4:isT .isInt .non=false:=rfl
@[simp] theorem zO (x:PV):aF .isBool [x]=if isD x=true then none else some (.bl (isT .isBool x)):=rfl
@[simp] theorem ua (i:Int):isT .isBool (.int i)=false:=rfl
@[simp] theorem u5 (i:Bool):isT .isBool (.bl i)=true:=rfl
@[simp] theorem ub (i:Str):isT .isBool (.str i)=false:=rfl
@[simp] theorem ud (i:List PV):isT .isBool (.lst i)=false:=rfl
@[simp] theorem ue (i:List PV):isT .isBool (.tup i)=false:=rfl
@[simp] theorem uf:isT .isBool .non=false:=rfl
@[simp] theorem Ah (x:PV):aF .isStr [x]=if isD x=true then none else some (.bl (isT .isStr x)):=rfl
@[simp] theorem u6 (i:Int):isT .isStr (.int i)=false:=rfl
@[simp] theorem wV (i:Bool):isT .isStr (.bl i)=false:=rfl
@[simp] theorem u7 (i:Str):isT .isStr (.str i)=true:=rfl
@[simp] theorem u8 (i:List PV):isT .isStr (.lst i)=false:=rfl
@[simp] theorem u9 (i:List PV):isT .isStr (.tup i)=false:=rfl
@[simp] theorem u_:isT .isStr .non=false:=rfl
@[simp] theorem zP (x:PV):aF .isList [x]=if isD x=true then none else some (.bl (isT .isList x)):=rfl
@[simp] theorem ug (i:Int):isT .isList (.int i)=false:=rfl
@[simp] theorem va (i:Bool):isT .isList (.bl i)=false:=rfl
@[simp] theorem uh (i:Str):isT .isList (.str i)=false:=rfl
@[simp] theorem ui (i:List PV):isT .isList (.lst i)=true:=rfl
@[simp] theorem uj (i:List PV):isT .isList (.tup i)=false:=rfl
@[simp] theorem ul:isT .isList .non=false:=rfl
@[simp] theorem xJ (x:PV):aF .isTuple [x]=if isD x=true then none else some (.bl (isT .isTuple x)):=rfl
@[simp] theorem qP (i:Int):isT .isTuple (.int i)=false:=rfl
@[simp] theorem um (i:Bool):isT .isTuple (.bl i)=false:=rfl
@[simp] theorem qQ (i:Str):isT .isTuple (.str i)=false:=rfl
@[simp] theorem qR (i:List PV):isT .isTuple (.lst i)=false:=rfl
@[simp] theorem qS (i:List PV):isT .isTuple (.tup i)=true:=rfl
@[simp] theorem qT:isT .isTuple .non=false:=rfl
@[simp] theorem BJ (xs:List PV):aF .max1 [.lst xs]=(bc xs).bind λns=>(AX ns).map .int:=rfl
@[simp] theorem zQ (d:DD):aF .valuesOf [.dI d]=if (oR d).length <= 10000 then some (.lst (oR d)) else none:=rfl
@[simp] theorem uq (kvs:List (Int × Sc)):aF .sortedKeys [.dI (.k kvs)]=if kvs.length < 64 then some (ofL (sortI (kvs.map (·.1)))) else none:=rfl
@[simp] theorem CZ (kvs:List (Int × Sc)) (i:Int):ql (.dI (.k kvs)) (.int i)=some (dh kvs i):=rfl
@[simp] theorem C0 (kvs:List (List Int × Sc)) (ns:List Int):ql (.dI (.t kvs)) (.tup (ns.map .int))=some (dh kvs ns):=by
 show (bc (ns.map .int)).map (dh kvs)=_
 rw [eM]
 rfl
@[simp] theorem C1 (kvs:List (Int × Sc)) (i:Int) (s:Sc):sg (.k kvs) (.int i) s=if kvs.length < 10000 then some (.k (cG kvs i s)) else none:=rfl
@[simp] theorem C2 (kvs:List (List Int × Sc)) (ns:List Int) (s:Sc):sg (.t kvs) (.tup (ns.map .int)) s=if kvs.length < 10000 then some (.t (cG kvs ns s)) else none:=by
 show ((bc (ns.map .int)).bind λk=>if kvs.length < 10000 then some (DD.t (cG kvs k s)) else none)=_
 rw [eM]
 rfl
@[simp] theorem Cc (p q:Bool):bX .isN (.bl p) (.bl q)=some (p == q):=rfl
@[simp] theorem BK (p q:Bool):bX .notN (.bl p) (.bl q)=some (!(p == q)):=rfl
@[simp] theorem wW (xs:List PV):aF .tupleRev [.lst xs]=some (.tup xs.reverse):=rfl
@[simp] theorem vb (x:PV):aF .sortedSet [x]=(br x).bind λxs=>(bc xs).bind λns=>if ns.length <= 1000/\(dd ns).length < 64 then some (.lst ((sortI (dd ns)).map .int)) else none:=rfl
@[simp] theorem xK (x:List PV) (i:Int):ko (.lst x) (.int i)=(fC x.length i).bind λj=>x[j]?:=rfl
@[simp] theorem C8 (x:List PV) (i:Int):ko (.tup x) (.int i)=(fC x.length i).bind λj=>x[j]?:=rfl
@[simp] theorem Cd (x:List PV) (lo hi:Option Int):iN (.lst x) lo hi=some (.lst (cut x lo hi)):=rfl
@[simp] theorem Cf (i j:Int):bnd (.cst (.int i)) (.int j)=some (some j):=rfl
@[simp] theorem pE (x:PV):cw .seq [x]=br x:=rfl
theorem wX (j:Int):cw .rng [.int j]=if -(2 ^ 62) <= j/\j < 2 ^ 62 then some ((List.range j.toNat).map λ(k:Nat)=>.int ((0:Int) + k)) else none:=rfl
@[simp] theorem cz (ρ:Rho) (k:Rho->R):(R.next ρ).andThen k=k ρ:=rfl
@[simp] theorem BL (v:PV) (k:Rho->R):(R.ret v).andThen k=.ret v:=rfl
@[simp] theorem BM (k:Rho->R):R.bad.andThen k=.bad:=rfl
@[simp] theorem BN (ρ:Rho) (k:Rho->R):(R.brk ρ).andThen k=.brk ρ:=rfl
@[simp] theorem Ai (ρ:Rho) (k:Rho->R):(R.cont ρ).andThen k=.cont ρ:=rfl
@[simp] theorem zR (v:PV) (k:PV->R):c9 (some v) k=k v:=rfl
@[simp] theorem gk (v:Bool) (k:Bool->R):sk (some v) k=k v:=rfl
@[simp] theorem zS (v:Rho) (k:Rho->R):fD (some v) k=k v:=rfl
@[simp] theorem Aj (v:PV):cy (.ret v)=some v:=rfl
@[simp] theorem zT (ρ:Rho):cy (.next ρ)=some .non:=rfl
@[simp] theorem bx (a:Option MV) (l:Rho) (m:MV):put (a::l) 0 m=some m::l:=rfl
@[simp] theorem bz (a:Option MV) (l:Rho) (n:Nat) (m:MV):put (a::l) (n + 1) m=a::put l n m:=rfl
@[simp] theorem kS (src:List ME) (ρ₀ ρ:Rho):(R.next ρ).back src ρ₀=.next (bh src ρ₀ ρ):=rfl
@[simp] theorem BO (src:List ME) (ρ₀:Rho) (v:PV):(R.ret v).back src ρ₀=.ret v:=rfl
@[simp] theorem Ak (body:PV->Rho->R) (ρ:Rho):bU body [] ρ=.next ρ:=rfl
theorem dS {j:Int} (h0:0 <= j) (h1:j < 4611686018427387904):cw .rng [.int j]=some ((List.range j.toNat).map λ(k:Nat)=>.int (k:Int)):=by
 rw [wX,if_pos ⟨by omega,by omega⟩]
 congr 1
 exact List.map_congr_left λk _=>by rw [Int.zero_add]
theorem gX {n:Nat}{i:Int} (h0:0 <= i) (h:i < n):fC n i=some i.toNat:=by unfold fC;rw [if_pos h0,if_pos h]
noncomputable def leT (a b:List Int):Prop:=lexLt b a=false
theorem sortI_perm (l:List Int):(sortI l).Perm l:=by rw [gL];exact L2.Srt.sortI_perm l
theorem sortT_perm (l:List (List Int)):(sortT l).Perm l:=by rw [dQ];exact L2.Srt.sortT_perm l
theorem sortI_len (l:List Int):(sortI l).length=l.length:=(sortI_perm l).length_eq
theorem sortT_len (l:List (List Int)):(sortT l).length=l.length:=(sortT_perm l).length_eq
theorem fS {l:List Int}{x:Int}:x ∈ sortI l ↔ x ∈ l:=(sortI_perm l).mem_iff
theorem dF {l:List (List Int)}{x:List Int}:x ∈ sortT l ↔ x ∈ l:=(sortT_perm l).mem_iff
theorem sortI_rises (l:List Int):(sortI l).Pairwise (· <= ·):=by rw [gL];exact L2.Srt.sortI_rises l
theorem sortT_rises (l:List (List Int)):(sortT l).Pairwise leT:=by
 rw [dQ]
 exact (L2.Srt.sortT_rises l).imp λh=>by unfold leT;rw [gM];exact h
theorem sortT_id {l:List (List Int)} (h:l.Pairwise leT):sortT l=l:=by
 rw [dQ]
 exact L2.Srt.sortT_id (h.imp λh=>by unfold leT at h;rw [gM] at h;exact h)
theorem sortT_of_perm {a b:List (List Int)} (p:a.Perm b):sortT a=sortT b:=by rw [dQ,dQ];exact L2.Srt.sortT_of_perm p
theorem mV {l:List Int} (h:l.Nodup):(sortI l).Pairwise (· < ·):=by
 have h1:=sortI_rises l
 have h2:(sortI l).Nodup:=(sortI_perm l).nodup_iff.mpr h
 exact (h1.and h2).imp λ⟨a,b⟩=>by omega
theorem uu {l:List Int} (h:l.Pairwise (· < ·)):l.Nodup:=h.imp λ{a b} q=>by omega
noncomputable def iF (ts:List Int):Prop:=ts.Pairwise (· < ·)/\∀ h ∈ ts,0 <= h/\h <= 59
noncomputable def dU (R:List (List Int)):Prop:=(∀ ts ∈ R,iF ts)/\R.Pairwise leT/\R.length <= 60
theorem uv:∀ (n:Nat) (l:List Int),l.Nodup->(∀ x ∈ l,0 <= x/\x < (n:Int))->l.length <= n
 | 0,l,_,h=>by
  cases l with
  | nil=>simp
  | cons x r=>have:=h x (.head _);omega
 | n + 1,l,hn,h=>by
  have h1:=uv n (l.filter λx=>decide (x ≠ (n:Int))) (hn.filter _) (λx hx=>by
   obtain ⟨h2,h3⟩:=List.mem_filter.mp hx
   have h4:=of_decide_eq_true h3
   have:=h x h2
   omega)
  have h2:∀ l:List Int,l.Nodup->l.length <= (l.filter λx=>decide (x ≠ (n:Int))).length + 1:=by
   intro l
   induction l with
   | nil=>intro _;simp
   | cons x r ih =>
    intro hn
    by_cases e:x=(n:Int)
    ·have hr:r.filter (λx=>decide (x ≠ (n:Int)))=r:=List.filter_eq_self.mpr λy hy=>decide_eq_true λz=>(List.nodup_cons.mp hn).1 (by rw [e,<- z];exact hy)
     rw [List.filter_cons_of_neg (by simp [e]),hr]
     simp
    ·rw [List.filter_cons_of_pos (by simp [e])]
     have:=ih (List.nodup_cons.mp hn).2
     simp only [List.length_cons]
     omega
  have:=h2 l hn
  omega
theorem iq {ts:List Int} (h:iF ts):ts.length <= 60:=uv 60 ts (uu h.1) λx hx=>by have:=h.2 x hx;omega
noncomputable def gY (ns:List Int) (lo hi:Option Int):List Int:=(ns.drop (fZ ns.length 0 lo)).take (fZ ns.length ns.length hi - fZ ns.length 0 lo)
@[simp] theorem BP (ns:List Int) (lo hi:Option Int):cut (ns.map .int) lo hi=(gY ns lo hi).map .int:=by
 unfold cut gY
 rw [List.length_map,List.map_take,List.map_drop]
theorem mW (ns:List Int) {a b:Int} (ha:0 <= a) (hb:0 <= b):(gY ns (some a) (some b)).length <= (b - a).toNat:=by
 unfold gY
 rw [List.length_take,List.length_drop]
 have e1:fZ ns.length ns.length (some b)=min b.toNat ns.length:=by show (if b < 0 then _ else _)=_;rw [if_neg (by omega)]
 have e2:fZ ns.length 0 (some a)=min a.toNat ns.length:=by show (if a < 0 then _ else _)=_;rw [if_neg (by omega)]
 rw [e1,e2]
 omega
end MM
namespace PySem.W.Fast
theorem tw6123976250519800990:True:=⟨⟩
theorem tw11159373964240629853:True:=⟨⟩
theorem tw8493139441557024037:True:=⟨⟩
theorem tw5284544494589696206:True:=⟨⟩
theorem tw830291387393820379:True:=⟨⟩
theorem tw5333659312242582641:True:=⟨⟩
theorem tw12603319049506054916:True:=⟨⟩
theorem tw12596566229296069144:True:=⟨⟩
theorem tw9692333674885772170:True:=⟨⟩
theorem tw5237351095298278331:True:=⟨⟩
theorem tw8445971857788575116:True:=⟨⟩
theorem tw14731971382444161393:True:=⟨⟩
theorem tw13779924828877075621:True:=⟨⟩
theorem tw4807305002497320728:True:=⟨⟩
theorem tw3099356961422936786:True:=⟨⟩
theorem tw5385748837520608837:True:=⟨⟩
theorem tw15944466511449955545:True:=⟨⟩
theorem tw15986968235250213935:True:=⟨⟩
theorem tw15991426643092869580:True:=⟨⟩
theorem tw11639882624740307145:True:=⟨⟩
theorem tw13726109076814172056:True:=⟨⟩
theorem tw11796875820754521143:True:=⟨⟩
theorem tw16084718196967795198:True:=⟨⟩
theorem tw1282379635684571151:True:=⟨⟩
theorem tw18189138784614419976:True:=⟨⟩
theorem tw10622641386854794311:True:=⟨⟩
theorem tw13612181514342715405:True:=⟨⟩
theorem tw4674915898401592878:True:=⟨⟩
theorem tw950063830736007547:True:=⟨⟩
theorem tw18433378451919998795:True:=⟨⟩
theorem tw12809830900463154373:True:=⟨⟩
theorem tw13988075527215203827:True:=⟨⟩
theorem tw1613630138234124896:True:=⟨⟩
theorem tw16117782569966040339:True:=⟨⟩
theorem tw5151729030776332172:True:=⟨⟩
theorem tw11557373749811781664:True:=⟨⟩
theorem tw15341086284385629945:True:=⟨⟩
theorem tw13709103726029562829:True:=⟨⟩
theorem tw185567548200307405:True:=⟨⟩
theorem tw15066891390981977288:True:=⟨⟩
theorem tw17991721046741485826:True:=⟨⟩
theorem tw15589740426724109695:True:=⟨⟩
theorem tw7948563856925226264:True:=⟨⟩
theorem tw18169956781512831331:True:=⟨⟩
theorem tw7162717887279600977:True:=⟨⟩
theorem tw1476624665787405525:True:=⟨⟩
theorem tw13253479786811107781:True:=⟨⟩
theorem tw4621869763124440458:True:=⟨⟩
theorem tw13818581012746729469:True:=⟨⟩
theorem tw3102879673488215930:True:=⟨⟩
theorem tw16821160547030154505:True:=⟨⟩
theorem tw4898561282314694485:True:=⟨⟩
theorem tw13205340908214031547:True:=⟨⟩
theorem tw11174621665272945772:True:=⟨⟩
theorem tw157306448433293579:True:=⟨⟩
theorem tw11768876855332667924:True:=⟨⟩
theorem tw14489324211151057068:True:=⟨⟩
theorem tw3315854241179974250:True:=⟨⟩
theorem tw63558576380180523:True:=⟨⟩
theorem tw7518625273782159358:True:=⟨⟩
theorem tw13930580392757093508:True:=⟨⟩
theorem tw2295530298090865056:True:=⟨⟩
theorem tw12634856046483187077:True:=⟨⟩
theorem tw11172184564019622356:True:=⟨⟩
theorem tw15828813908661672260:True:=⟨⟩
theorem tw9167405556504393849:True:=⟨⟩
theorem tw11875751486641748172:True:=⟨⟩
theorem tw6231861588094590590:True:=⟨⟩
theorem tw7805231707198186456:True:=⟨⟩
theorem tw11082064358304439502:True:=⟨⟩
theorem tw8931496289973957297:True:=⟨⟩
theorem tw16116410736777607246:True:=⟨⟩
theorem tw7759091921974594497:True:=⟨⟩
theorem tw3274441408069019461:True:=⟨⟩
theorem tw7976475615710088405:True:=⟨⟩
theorem tw17629954221321440385:True:=⟨⟩
theorem tw14964122830870901530:True:=⟨⟩
theorem tw5278384304437954961:True:=⟨⟩
theorem tw12682655521475002500:True:=⟨⟩
theorem tw12864612605347811886:True:=⟨⟩
theorem tw10058790662179234610:True:=⟨⟩
theorem tw3833188657512925391:True:=⟨⟩
theorem tw17337097659998234710:True:=⟨⟩
theorem tw18412344257692664180:True:=⟨⟩
theorem tw1463127509692208543:True:=⟨⟩
theorem tw5414743676274896649:True:=⟨⟩
theorem tw16175144565354774994:True:=⟨⟩
theorem tw6712967148149572710:True:=⟨⟩
theorem tw9036768059507901410:True:=⟨⟩
theorem tw3663695924334827972:True:=⟨⟩
theorem tw2168138300411052884:True:=⟨⟩
theorem tw283075316111215512:True:=⟨⟩
theorem tw12547541679991981277:True:=⟨⟩
theorem tw9193547092552991628:True:=⟨⟩
theorem tw12096446917400834744:True:=⟨⟩
theorem tw1752994717534736648:True:=⟨⟩
theorem tw5332996029482374741:True:=⟨⟩
theorem tw16644180259202929908:True:=⟨⟩
theorem tw1333485187936191169:True:=⟨⟩
theorem tw3574535882528126763:True:=⟨⟩
theorem tw12809622158638974194:True:=⟨⟩
theorem tw8680757068379036225:True:=⟨⟩
theorem tw12608841248318729634:True:=⟨⟩
theorem tw10347318304112494214:True:=⟨⟩
theorem tw3301404075512026283:True:=⟨⟩
theorem tw7344258721078872205:True:=⟨⟩
theorem tw1850689484276701085:True:=⟨⟩
theorem tw7122304713485879993:True:=⟨⟩
theorem tw13701479609280424021:True:=⟨⟩
theorem tw1132326111209810782:True:=⟨⟩
theorem tw16138462430670297229:True:=⟨⟩
theorem tw4430518172916811493:True:=⟨⟩
theorem tw11489119580510644241:True:=⟨⟩
theorem tw17794031993528198731:True:=⟨⟩
theorem tw16776040935168683082:True:=⟨⟩
theorem tw8380033048408424040:True:=⟨⟩
theorem tw15386033240362044351:True:=⟨⟩
theorem tw6473437395474296383:True:=⟨⟩
theorem tw5920830717944360671:True:=⟨⟩
theorem tw7043109377116777187:True:=⟨⟩
theorem tw13563159650656496140:True:=⟨⟩
theorem tw18053749057651545790:True:=⟨⟩
theorem tw8777244565824392368:True:=⟨⟩
theorem tw9592446769924902232:True:=⟨⟩
theorem tw16881490920455097231:True:=⟨⟩
theorem tw13820941308752243589:True:=⟨⟩
theorem tw15227628708124749748:True:=⟨⟩
theorem tw14489419491582958855:True:=⟨⟩
theorem tw5574381893122252655:True:=⟨⟩
theorem tw11480385840133790041:True:=⟨⟩
theorem tw9020565397997800477:True:=⟨⟩
theorem tw7350854616723071180:True:=⟨⟩
theorem tw11297376478848648567:True:=⟨⟩
theorem tw7857656262254906217:True:=⟨⟩
theorem tw5139691883045604443:True:=⟨⟩
theorem tw5629022636135729886:True:=⟨⟩
theorem tw3512735374844517803:True:=⟨⟩
theorem tw17192547180115414220:True:=⟨⟩
theorem tw14314657283231801892:True:=⟨⟩
theorem tw3722299361270333484:True:=⟨⟩
theorem tw14785474776097561314:True:=⟨⟩
theorem tw1419172679783903092:True:=⟨⟩
theorem tw14513518894536139106:True:=⟨⟩
theorem tw3234317645462914849:True:=⟨⟩
theorem tw15826755562193522656:True:=⟨⟩
theorem tw9176412223508835043:True:=⟨⟩
theorem tw7014512336922536841:True:=⟨⟩
theorem tw7640865710120460725:True:=⟨⟩
theorem tw14337661658849596146:True:=⟨⟩
theorem tw1834824896151542705:True:=⟨⟩
theorem tw10734742912840808370:True:=⟨⟩
theorem tw18301143531016734476:True:=⟨⟩
theorem tw8983970325823650056:True:=⟨⟩
theorem tw15602040508738222745:True:=⟨⟩
theorem tw10374371716161869295:True:=⟨⟩
theorem tw3955256389259330458:True:=⟨⟩
theorem tw8941591342866982327:True:=⟨⟩
theorem tw12585388456958632401:True:=⟨⟩
theorem tw545381326580863420:True:=⟨⟩
theorem tw3977501966069720498:True:=⟨⟩
theorem tw7582132055741850067:True:=⟨⟩
theorem tw15384839448516344607:True:=⟨⟩
theorem tw4411369898925987034:True:=⟨⟩
theorem tw11973555189505435234:True:=⟨⟩
theorem tw17155464818306507310:True:=⟨⟩
theorem tw18389856518398602135:True:=⟨⟩
theorem tw5860219464171480140:True:=⟨⟩
theorem tw3208922766940611539:True:=⟨⟩
theorem tw14733441354104931062:True:=⟨⟩
theorem tw18117226374724655733:True:=⟨⟩
theorem tw7559004401832926657:True:=⟨⟩
theorem tw8060759001921112633:True:=⟨⟩
theorem tw7670018423154353519:True:=⟨⟩
theorem tw11127355448686775133:True:=⟨⟩
theorem tw8195860070360650090:True:=⟨⟩
theorem tw11042915861449053528:True:=⟨⟩
theorem tw13288627147156310554:True:=⟨⟩
theorem tw18361585845562090354:True:=⟨⟩
theorem tw1449813694920718095:True:=⟨⟩
theorem tw4196388494027573432:True:=⟨⟩
theorem tw10106864432763653706:True:=⟨⟩
theorem tw5164401178250850802:True:=⟨⟩
theorem tw12748824445398256611:True:=⟨⟩
theorem tw12242553417666417973:True:=⟨⟩
theorem tw6307347932915918072:True:=⟨⟩
theorem tw14208057001428686584:True:=⟨⟩
theorem tw13560449111540780069:True:=⟨⟩
theorem tw12006277301975495206:True:=⟨⟩
theorem tw15875278352962536770:True:=⟨⟩
theorem tw6980039522055941046:True:=⟨⟩
theorem tw2757958893002497505:True:=⟨⟩
theorem tw8378786970228097966:True:=⟨⟩
theorem tw5944428673306742263:True:=⟨⟩
theorem tw2420415604445608437:True:=⟨⟩
theorem tw16455222205162649301:True:=⟨⟩
theorem tw1241405998365532914:True:=⟨⟩
theorem tw6150365315366547921:True:=⟨⟩
theorem tw15185497351505851439:True:=⟨⟩
theorem tw1209129898302415053:True:=⟨⟩
theorem tw13655554617012928532:True:=⟨⟩
theorem tw498484016863528978:True:=⟨⟩
theorem tw8005837064511107064:True:=⟨⟩
theorem tw17876191989235011580:True:=⟨⟩
theorem tw7223568160338640266:True:=⟨⟩
theorem tw4539413846504081712:True:=⟨⟩
theorem tw11443353634557517578:True:=⟨⟩
theorem tw9002147042143011063:True:=⟨⟩
theorem tw12894823414631921094:True:=⟨⟩
theorem tw15796342800472885629:True:=⟨⟩
theorem tw3300026253743081996:True:=⟨⟩
theorem tw13943751317051659245:True:=⟨⟩
theorem tw3615953031257582176:True:=⟨⟩
theorem tw8197009352381738008:True:=⟨⟩
theorem tw11119428372736268025:True:=⟨⟩
theorem tw17178037850462686675:True:=⟨⟩
theorem tw5119413035566294871:True:=⟨⟩
theorem tw13700694821439317164:True:=⟨⟩
theorem tw517036348143328359:True:=⟨⟩
theorem tw18043084403449368969:True:=⟨⟩
theorem tw4248542353631517570:True:=⟨⟩
theorem tw8402505705915766724:True:=⟨⟩
theorem tw5683661280330425117:True:=⟨⟩
theorem tw3577387745603832132:True:=⟨⟩
theorem tw11178608548714506406:True:=⟨⟩
theorem tw7396717419477835217:True:=⟨⟩
theorem tw6674387858734144773:True:=⟨⟩
theorem tw9045477968286280354:True:=⟨⟩
theorem tw13718098124179254174:True:=⟨⟩
theorem tw10102953408426669590:True:=⟨⟩
theorem tw917123857900146396:True:=⟨⟩
theorem tw15802670467281722294:True:=⟨⟩
theorem tw16572886654141537307:True:=⟨⟩
theorem tw10808135476337871142:True:=⟨⟩
theorem tw1265432645383076842:True:=⟨⟩
theorem tw4290853447482935143:True:=⟨⟩
theorem tw11047710498865923639:True:=⟨⟩
theorem tw1855777899777003863:True:=⟨⟩
theorem tw18254375515919172286:True:=⟨⟩
theorem tw5069809585774803587:True:=⟨⟩
theorem tw11425782005696876846:True:=⟨⟩
theorem tw4027654337665478253:True:=⟨⟩
theorem tw2898484083179469525:True:=⟨⟩
theorem tw4132472702948195543:True:=⟨⟩
theorem tw7850997966650601965:True:=⟨⟩
theorem tw3055929647606624505:True:=⟨⟩
theorem tw15764289920352783514:True:=⟨⟩
theorem tw13266964210324388866:True:=⟨⟩
theorem tw5252999733171372298:True:=⟨⟩
theorem tw11769274600867621932:True:=⟨⟩
theorem tw11359166555295522066:True:=⟨⟩
theorem tw17650033843435001276:True:=⟨⟩
theorem tw17397426044742976340:True:=⟨⟩
theorem tw2403195710692828155:True:=⟨⟩
theorem tw3856180593619151986:True:=⟨⟩
theorem tw9284392205085422989:True:=⟨⟩
theorem tw14279476463586303763:True:=⟨⟩
theorem tw9691848284455050340:True:=⟨⟩
theorem tw1245648799303293719:True:=⟨⟩
theorem tw12332567870678374592:True:=⟨⟩
theorem tw14170877316008261028:True:=⟨⟩
theorem tw14396634616003142308:True:=⟨⟩
theorem tw8626169812305927638:True:=⟨⟩
theorem tw17711592768450874284:True:=⟨⟩
theorem tw8712374362192851616:True:=⟨⟩
theorem tw6974669729909784660:True:=⟨⟩
theorem tw10069773557032125894:True:=⟨⟩
theorem tw1012651772124757377:True:=⟨⟩
theorem tw3695795900558370249:True:=⟨⟩
theorem tw4945943823746100592:True:=⟨⟩
theorem tw4762270152760762706:True:=⟨⟩
theorem tw8727744291135316338:True:=⟨⟩
theorem tw11208697946865278908:True:=⟨⟩
theorem tw2492665941255433246:True:=⟨⟩
theorem tw11947298865727933936:True:=⟨⟩
theorem tw650821455299416455:True:=⟨⟩
theorem tw11906664630641588509:True:=⟨⟩
theorem tw13113749269490056620:True:=⟨⟩
theorem tw2900681088781887222:True:=⟨⟩
theorem tw4696756663249599553:True:=⟨⟩
theorem tw4398039788775971085:True:=⟨⟩
theorem tw7334620395168178712:True:=⟨⟩
theorem tw14042596047574555593:True:=⟨⟩
theorem tw6795619682220320646:True:=⟨⟩
theorem tw7909042916881620658:True:=⟨⟩
theorem tw6384868806457796956:True:=⟨⟩
theorem tw4974249256099422178:True:=⟨⟩
theorem tw9626179555855258716:True:=⟨⟩
theorem tw11708358513686370150:True:=⟨⟩
theorem tw2250985161080313111:True:=⟨⟩
theorem tw3662356647406245275:True:=⟨⟩
theorem tw4697328309638401788:True:=⟨⟩
theorem tw3332492046312747409:True:=⟨⟩
theorem tw11467950305694119572:True:=⟨⟩
theorem tw2750746861908486226:True:=⟨⟩
theorem tw1477215102717027745:True:=⟨⟩
theorem tw7592938209503629181:True:=⟨⟩
theorem tw15244478445321197597:True:=⟨⟩
theorem tw10862989547217953619:True:=⟨⟩
end PySem.W.Fast
namespace My
open PySem L2 MM
noncomputable def bq:MD:=⟨"is_number_below",["thing","bound"],["thing","bound"],
  [.ite (.or (.blt .isBool [(.bor 0)]) (.not (.blt .isInt [(.bor 0)])))
   [.ret (.cst (.bl false))]
   [],
  .ret (.chain .le .lt (.cst (.int 0)) (.bor 0) (.bor 1))],none⟩
noncomputable def cq:MD:=⟨"strip_without",["strip","hole"],["strip","hole"],
  [.ret (.blt .tupleOf [(.comp .seq [(.bor 0)] [1] (.cmp .ne (.bor 0) (.bor 1)) (.var 0))])],none⟩
noncomputable def fT:MD:=⟨"knotted",["rest","hole"],["rest","hole"],
  [.ret (.blt .tupleOf [(.blt .sorted [(.comp .seq [(.bor 0)] [1] (.cst (.bl true)) (.call 1 [(.bor 0),(.bor 1)]))])])],none⟩
noncomputable def gZ:MD:=⟨"bitten",["rest","hole"],["rest","hole"],
  [.ret (.blt .tupleOf [(.comp .seq [(.bor 0)] [1] (.cmp .notIn (.bor 1) (.bor 0)) (.var 0))])],none⟩
noncomputable def eZ:MD:=⟨"is_whole",["rest"],["rest"],
  [.ret (.cmp .isIn (.tup []) (.bor 0))],none⟩
noncomputable def eN:MD:=⟨"is_bare",["rest"],["rest"],
  [.ret (.cmp .eq (.blt .len [(.bor 0)]) (.cst (.int 0)))],none⟩
noncomputable def du:MD:=⟨"other_hand",["hand"],["hand"],
  [.ret (.ite (.cmp .eq (.bor 0) (.cst (.str "weaver"))) (.cst (.str "moth")) (.cst (.str "weaver")))],none⟩
noncomputable def fK:MD:=⟨"behind",["rest","hand","reply"],["rest","hand","reply"],
  [.ite (.cmp .isN (.bor 2) (.cst .non))
   [.ret (.var 0)]
   [],
  .ret (.ite (.cmp .eq (.bor 1) (.cst (.str "weaver"))) (.call 2 [(.bor 0),(.bor 2)]) (.call 3 [(.bor 0),(.bor 2)]))],none⟩
noncomputable def e_:MD:=⟨"_law_cell",["script","k"],["script","k"],
  [.ite (.cmp .lt (.bor 1) (.blt .len [(.bor 0)]))
   [.ret (.idx (.bor 0) (.bor 1))]
   [],
  .ret (.cst (.int 0))],none⟩
noncomputable def d8:MD:=⟨"_law_mixed",["cell","by"],["cell","by"],
  [.ret (.bin .mod (.bin .mul (.bin .mod (.bor 0) (.cst (.int 2305843009213693951))) (.bor 1)) (.cst (.int 2305843009213693951)))],none⟩
noncomputable def ci:List MS:=[.ite (.cmp .notIn (.bin .mod (.bor 3) (.bor 1)) (.bor 5))
   [.append 5 (.bin .mod (.bor 3) (.bor 1))]
   [],
  .set 3 (.bin .fdiv (.bor 3) (.bor 1))]
noncomputable def d9:MD:=⟨"_law_strip",["cell","many","most"],["cell","many","most","left","size","strip","k"],
  [.set 3 (.call 9 [(.bor 0),(.cst (.int 1181783497276652981))]),
  .set 4 (.bin .mod (.bor 3) (.bin .add (.bor 2) (.cst (.int 1)))),
  .set 3 (.bin .fdiv (.bor 3) (.bin .add (.bor 2) (.cst (.int 1)))),
  .setOwn 5 (.lst []),
  .for1 6 .rng [(.bor 4)] ci,
  .ret (.blt .tupleOf [(.blt .sorted [(.bor 5)])])],none⟩
noncomputable def d_:MD:=⟨"_law_whole",["found"],["found"],
  [.ret (.and (.blt .isInt [(.bor 0)]) (.not (.blt .isBool [(.bor 0)])))],none⟩
noncomputable def cr:List MS:=[.ite (.or (.not (.call 11 [(.idx (.bor 0) (.bor 2))])) (.cmp .ne (.idx (.bor 0) (.bor 2)) (.idx (.bor 1) (.bor 2))))
   [.ret (.cst (.bl false))]
   []]
noncomputable def eD:MD:=⟨"_law_numbers",["found","due"],["found","due","k"],
  [.ite (.or (.not (.blt .isList [(.bor 0)])) (.cmp .ne (.blt .len [(.bor 0)]) (.blt .len [(.bor 1)])))
   [.ret (.cst (.bl false))]
   [],
  .for1 2 .rng [(.blt .len [(.bor 1)])] cr,
  .ret (.cst (.bl true))],none⟩
noncomputable def eE:MD:=⟨"_law_ribbons",["script","count"],["script","count","some","strips"],
  [.ite (.cmp .eq (.bor 1) (.cst (.int 0)))
   [.ret (.lst [])]
   [],
  .set 2 (.call 8 [(.bor 0),(.cst (.int 1))]),
  .set 3 (.comp .seq [(.slice (.bor 0) (.cst (.int 3)) (.bin .add (.cst (.int 3)) (.bin .mod (.bor 2) (.cst (.int 9)))))] [1,2] (.cst (.bl true)) (.call 10 [(.bor 0),(.bor 1),(.bin .add (.cst (.int 1)) (.bin .mod (.bin .fdiv (.bor 2) (.cst (.int 9))) (.cst (.int 6))))])),
  .ret (.comp .seq [(.bor 3)] [] (.cmp .ne (.bor 0) (.tup [])) (.var 0))],none⟩
noncomputable def dW:MD:=⟨"_law_taken_by",["taken","begin"],["taken","begin"],
  [.ret (.blt .sorted [(.comp .rng [(.blt .len [(.bor 0)])] [0,1] (.cmp .eq (.bin .mod (.bor 0) (.cst (.int 2))) (.bor 2)) (.idx (.bor 1) (.bor 0)))])],none⟩
noncomputable def cR:List MS:=[.ite (.not (.blt .any [(.comp .seq [(.bor 4)] [2] (.cst (.bl true)) (.cmp .isIn (.bor 0) (.bor 1)))]))
   [.append 3 (.blt .tupleOf [(.comp .seq [(.bor 4)] [1] (.cmp .notIn (.bor 0) (.bor 1)) (.var 0))])]
   []]
noncomputable def fb:MD:=⟨"_law_left",["ribbons","knots","bites"],["ribbons","knots","bites","strips","ribbon"],
  [.setOwn 3 (.lst []),
  .for1 4 .seq [(.bor 0)] cR,
  .ret (.blt .tupleOf [(.blt .sorted [(.bor 3)])])],none⟩
noncomputable def eO:MD:=⟨"_law_won",["strips"],["strips"],
  [.ite (.cmp .isIn (.tup []) (.bor 0))
   [.ret (.cst (.str "weaver"))]
   [],
  .ite (.cmp .eq (.bor 0) (.tup []))
   [.ret (.cst (.str "moth"))]
   [],
  .ret (.cst .non)],none⟩
noncomputable def fc:List MS:=[.dput 2 (.bor 3) (.cst (.bl true))]
noncomputable def gm:MD:=⟨"_law_free",["count","taken"],["count","taken","marks","hole"],
  [.newD false 2,
  .for1 3 .seq [(.bor 1)] fc,
  .ret (.comp .rng [(.bor 0)] [2] (.dIn true (.bor 0) (.bor 1)) (.var 0))],none⟩
noncomputable def eh:MD:=⟨"_law_right",["table","count","ribbons","taken","begin"],["table","count","ribbons","taken","begin","left"],
  [.set 5 (.call 15 [(.bor 2),(.call 14 [(.bor 3),(.bor 4)]),(.call 14 [(.bor 3),(.bin .sub (.cst (.int 1)) (.bor 4))])]),
  .ite (.or (.not (.call 12 [(.callM 24 0 []),(.bor 3)])) (.not (.call 12 [(.callM 25 0 []),(.call 17 [(.bor 1),(.bor 3)])])))
   [.ret (.cst (.bl false))]
   [],
  .ite (.or (.cmp .ne (.callM 23 0 []) (.idx (.lst [(.cst (.str "weaver")),(.cst (.str "moth"))]) (.bin .mod (.bin .add (.blt .len [(.bor 3)]) (.bor 4)) (.cst (.int 2))))) (.cmp .ne (.callM 26 0 []) (.bor 5)))
   [.ret (.cst (.bl false))]
   [],
  .ret (.cmp .eq (.callM 27 0 []) (.call 16 [(.bor 5)]))],none⟩
noncomputable def fL:MD:=⟨"_law_kinds",["table"],["table","kinds","e"],
  [.set 1 (.lst []),
  .tryO 0 29 [] [⟨"LoomError",some 2,1,(.lst [(.isi "ValueError"),(.isi "NoDeed"),(.isi "Over")])⟩],
  .ret (.var 1)],none⟩
noncomputable def dX:MD:=⟨"_law_back",["table","taken"],["table","taken","found"],
  [.ite (.cmp .eq (.bor 1) (.lst []))
   [.ret (.cmp .eq (.call 19 [(.bor 0)]) (.lst [(.cst (.bl true)),(.cst (.bl true)),(.cst (.bl false))]))]
   [],
  .takeO (some 2) 0 29 [],
  .retAP (.call 11 [(.bor 2)]) (.bor 2) 1],none⟩
noncomputable def iT:List MS:=[.set 7 (.call 15 [(.bor 2),(.call 14 [(.bor 5),(.bor 3)]),(.call 14 [(.bor 5),(.bin .sub (.cst (.int 1)) (.bor 3))])]),
  .ite (.or (.cmp .eq (.bin .mod (.bor 6) (.cst (.int 3))) (.cst (.int 0))) (.cmp .notN (.call 16 [(.bor 7)]) (.cst .non)))
   [.iteB 4 5 20 [.ret (.cst (.bl false))]]
   [.set 8 (.call 17 [(.bor 1),(.bor 5)]),
   .takeO none 4 28 [(.idx (.bor 8) (.bin .mod (.bin .fdiv (.bor 6) (.cst (.int 3))) (.blt .len [(.bor 8)])))],
   .append 5 (.idx (.bor 8) (.bin .mod (.bin .fdiv (.bor 6) (.cst (.int 3))) (.blt .len [(.bor 8)])))],
  .ite (.not (.call 18 [(.bor 4),(.bor 1),(.bor 2),(.bor 5),(.bor 3)]))
   [.ret (.cst (.bl false))]
   []]
noncomputable def pF:MD:=⟨"law",["script"],["script","count","ribbons","begin","table","taken","cell","left","free"],
  [.set 1 (.bin .mod (.call 8 [(.bor 0),(.cst (.int 0))]) (.cst (.int 61))),
  .set 2 (.call 13 [(.bor 0),(.bor 1)]),
  .set 3 (.bin .mod (.call 8 [(.bor 0),(.cst (.int 2))]) (.cst (.int 2))),
  .mkO 4 [(.tup [(.var 1),(.blt .tupleOf [(.blt .sorted [(.bor 2)])])]),(.idx (.lst [(.cst (.str "weaver")),(.cst (.str "moth"))]) (.bor 3))],
  .setOwn 5 (.lst []),
  .ite (.not (.call 18 [(.bor 4),(.bor 1),(.bor 2),(.bor 5),(.bor 3)]))
   [.ret (.cst (.bl false))]
   [],
  .for1 6 .seq [(.slice (.bor 0) (.cst (.int 3)) (.cst (.int 33)))] iT,
  .ret (.cst (.bl true))],none⟩
noncomputable def bW:MD:=⟨"Table.hand_at",["self","place"],["self","place"],
  [.ret (.ite (.cmp .eq (.bin .mod (.bor 1) (.cst (.int 2))) (.cst (.int 0))) (.fld 0 2) (.call 6 [(.fld 0 2)]))],some "hand_at"⟩
noncomputable def dw:MD:=⟨"Table.turn",["self"],["self"],
  [.ret (.callM 22 0 [(.blt .len [(.fldL 0)])])],some "turn"⟩
noncomputable def c7:MD:=⟨"Table.deeds",["self"],["self"],
  [.ret (.blt .listOf [(.fldL 0)])],some "deeds"⟩
noncomputable def ff:MD:=⟨"Table.free",["self"],["self"],
  [.ret (.comp .rng [(.fld 0 0)] [0] (.cmp .notIn (.bor 0) (.fldL 1)) (.var 0))],some "free"⟩
noncomputable def cT:List MS:=[.set 1 (.call 7 [(.bor 1),(.callM 22 0 [(.bor 2)]),(.bor 3)])]
noncomputable def dz:MD:=⟨"Table.rest",["self"],["self","left","place","hole"],
  [.set 1 (.fld 0 1),
  .forT [2,3] .enm [(.fldL 0)] cT,
  .ret (.var 1)],some "rest"⟩
noncomputable def bA:MD:=⟨"Table.winner",["self"],["self","left"],
  [.set 1 (.callM 26 0 []),
  .ite (.call 4 [(.bor 1)])
   [.ret (.cst (.str "weaver"))]
   [],
  .ite (.call 5 [(.bor 1)])
   [.ret (.cst (.str "moth"))]
   [],
  .ret (.cst .non)],some "winner"⟩
noncomputable def dA:MD:=⟨"Table.take",["self","hole"],["self","hole"],
  [.ite (.cmp .notN (.callM 27 0 []) (.cst .non))
   [.raise "Over"]
   [],
  .ite (.not (.call 0 [(.bor 1),(.fld 0 0)]))
   [.raise "NoHole"]
   [],
  .ite (.inO false (.bor 1) 0)
   [.raise "Taken"]
   [],
  .appO 0 (.var 1),
  .retT (.callM 27 0 [])],some "take"⟩
noncomputable def dB:MD:=⟨"Table.back",["self"],["self"],
  [.ite (.cmp .eq (.lenO 0) (.cst (.int 0)))
   [.raise "NoDeed"]
   [],
  .retPop 0],some "back"⟩
noncomputable def defs:List MD:=[bq,cq,fT,gZ,eZ,eN,du,fK,e_,d8,d9,d_,eD,eE,dW,fb,eO,gm,eh,fL,dX,pF,bW,dw,c7,ff,dz,bA,dA,dB]
noncomputable def tab:Tab:=⟨defs.map t7,[],[[],[],[],[],[],[],[],[],[],[],[],[],[],[],[],[],[],[],[],[],[],[],[],[],[],[],[],[],[],[]],defs.map (·.meth),["LoomError","NoHole","Taken","Over","NoDeed"]⟩
noncomputable def cellOf (ns:List Int) (k:Int):Int:=ns.getD k.toNat 0
theorem og (n:Nat) (m:MV) (ns:List Int) (k:Int) (hm:a9 (some m)=some (ofL ns)) (h0:0 <= k):ae defs (n + 1) 8 [m,.val (.int k)]=some (.int (cellOf ns k)):=by
 rw [ax (d:=e_) rfl rfl]
 unfold cellOf
 simp [e_,exs,ex,ev,evs,evB,hm]
 by_cases h:k < (ns.length:Int)
 ·have h2:k.toNat < ns.length:=by omega
  simp [h,gX h0 h,h2]
 ·have h2:ns.length <= k.toNat:=by omega
  simp [h,h2]
noncomputable def db (c b:Int):Int:=c % 2305843009213693951 * b % 2305843009213693951
theorem wY (n:Nat) (c b:Int):ae defs (n + 1) 9 [.val (.int c),.val (.int b)]=some (.int (db c b)):=by
 rw [ax (d:=d8) rfl rfl]
 have h1:0 <= c % 2305843009213693951:=Int.emod_nonneg _ (by decide)
 have h2:c % 2305843009213693951 < 2305843009213693951:=Int.emod_lt_of_pos _ (by decide)
 have h3:(-18446744073709551616 < c % 2305843009213693951/\c % 2305843009213693951 < 18446744073709551616 \/ -18446744073709551616 < b/\b < 18446744073709551616):=.inl ⟨by omega,by omega⟩
 simp [d8,exs,ex,ev,evs,h3,db]
noncomputable def dC (many:Int):Nat->Int->List Int->List Int
 | 0,_,acc=>acc
 | n + 1,left,acc=>dC many n (left / many) (if left % many ∈ acc then acc else acc ++ [left % many])
theorem dY (many:Int) (hm:0 < many):∀ (n:Nat) (left:Int) (acc:List Int),acc.Nodup->(∀ h ∈ acc,0 <= h/\h < many)->(dC many n left acc).Nodup/\(∀ h ∈ dC many n left acc,0 <= h/\h < many)/\(dC many n left acc).length <= acc.length + n
 | 0,_,acc,h1,h2=>⟨h1,h2,by simp [dC]⟩
 | n + 1,left,acc,h1,h2=>by
  rw [dC]
  by_cases q:left % many ∈ acc
  ·rw [if_pos q]
   obtain ⟨a,b,c⟩:=dY many hm n (left / many) acc h1 h2
   exact ⟨a,b,by omega⟩
  ·rw [if_neg q]
   obtain ⟨a,b,c⟩:=dY many hm n (left / many) (acc ++ [left % many]) (List.nodup_append.mpr ⟨h1,by simp,λx hx y hy=>by rw [List.mem_singleton.mp hy];exact λz=>q (z ▸ hx)⟩) (λh hh=>by
    rcases List.mem_append.mp hh with hh|hh
    ·exact h2 h hh
    ·rw [List.mem_singleton.mp hh];exact ⟨Int.emod_nonneg _ (by omega),Int.emod_lt_of_pos _ hm⟩)
   exact ⟨a,b,by rw [List.length_append,List.length_singleton] at c;omega⟩
noncomputable def cU (c many most:Int):List Int:=sortI (dC many (db c 1181783497276652981 % (most + 1)).toNat (db c 1181783497276652981 / (most + 1)) [])
theorem jK (cal:Cal) (c many most size:MV) (mn:Int) (hmn:a9 (some many)=some (.int mn)) (h1:0 < mn) (h2:mn < 1073741824):∀ (xs:List PV) (left:Int) (acc:List Int) (kk:Option MV),acc.length + xs.length <= 10000 ->
  ∃ left' kk',bU (λx ρ'=>exs cal ci (put ρ' 6 (.val x))) xs
   [some c,some many,some most,some (.val (.int left)),some size,some (.own (acc.map .int)),kk]=.next [some c,some many,some most,some (.val (.int left')),some size,some (.own ((dC mn xs.length left acc).map .int)),kk']
 | [],left,acc,kk,_=>⟨left,kk,rfl⟩
 | x::xs,left,acc,kk,hl=>by
  simp only [List.length_cons] at hl
  rw [bU]
  have e:exs cal ci (put [some c,some many,some most,some (.val (.int left)),some size,some (.own (acc.map .int)),kk] 6 (.val x)) =
    .next [some c,some many,some most,some (.val (.int (left / mn))),some size,some (.own ((if left % mn ∈ acc then acc else acc ++ [left % mn]).map .int)),some (.val x)]:=by
   by_cases q:left % mn ∈ acc
   ·simp [ci,exs,ex,ev,evs,evB,hmn,h1,h2,cx,q]
   ·have hlt:acc.length < 10000:=by omega
    simp [ci,exs,ex,ev,evs,evB,hmn,h1,h2,cx,q,hlt]
  rw [e]
  obtain ⟨l',k',e2⟩:=jK cal c many most size mn hmn h1 h2 xs (left / mn) (if left % mn ∈ acc then acc else acc ++ [left % mn]) (some (.val x)) (by
   split
   ·omega
   ·rw [List.length_append,List.length_singleton];omega)
  exact ⟨l',k',e2⟩
theorem wZ (n:Nat) (c many most:Int) (h1:0 < many) (h2:many < 1073741824) (h3:0 <= most) (h4:most <= 60):ae defs (n + 2) 10 [.val (.int c),.val (.int many),.val (.int most)]=some (ofS (cU c many most)):=by
 rw [ax (d:=d9) rfl rfl]
 have hp:0 < most + 1:=by omega
 have hp2:most + 1 < 1073741824:=by omega
 have q0:0 <= db c 1181783497276652981 % (most + 1):=Int.emod_nonneg _ (by omega)
 have q1:db c 1181783497276652981 % (most + 1) < most + 1:=Int.emod_lt_of_pos _ hp
 obtain ⟨l',k',e⟩:=jK (ae defs (n + 1)) (.val (.int c)) (.val (.int many)) (.val (.int most)) (.val (.int (db c 1181783497276652981 % (most + 1)))) many rfl h1 h2 ((List.range (db c 1181783497276652981 % (most + 1)).toNat).map λ(k:Nat)=>PV.int (k:Int)) (db c 1181783497276652981 / (most + 1)) [] none (by simp;omega)
 rw [List.length_map,List.length_range] at e
 obtain ⟨g1,g2,g3⟩:=dY many h1 (db c 1181783497276652981 % (most + 1)).toNat (db c 1181783497276652981 / (most + 1)) [] List.nodup_nil (λ_ h=>by cases h)
 have hlen:(dC many (db c 1181783497276652981 % (most + 1)).toNat (db c 1181783497276652981 / (most + 1)) []).length < 64:=by simp at g3;omega
 simp only [List.map_nil] at e
 simp [d9,exs,ex,ev,evs,evA,evB,wY,hp,hp2,bv,dS q0 (by omega),e,bh,kQ hlen,cU]
theorem oh (c many most:Int) (h1:0 < many) (h2:many <= 60):iF (cU c many most):=by
 obtain ⟨a,b,_⟩:=dY many h1 (db c 1181783497276652981 % (most + 1)).toNat (db c 1181783497276652981 / (most + 1)) [] List.nodup_nil (λ_ h=>by cases h)
 exact ⟨mV a,λh hh=>by have:=b h (fS.mp hh);omega⟩
theorem lQ {cal:Cal}{i:Nat}{k:Sk}{src:List ME}{body:List MS}{ρ:Rho}{xs:List PV} (h:(evs cal src ρ).bind (cw k)=some xs):ex cal (.for1 i k src body) ρ=(bU (λx ρ'=>exs cal body (put ρ' i (.val x))) xs (bv src ρ)).back src ρ:=by
 rw [ex,h]
theorem ba (cal:Cal) (m:MS) (ms:List MS) (ρ:Rho):exs cal (m::ms) ρ=(ex cal m ρ).andThen λρ'=>exs cal ms ρ':=by rw [exs]
theorem lR {cal:Cal}{b:Blt}{e:ME}{ρ:Rho}{v:PV} (h:ev cal e ρ=some v):ev cal (.blt b [e]) ρ=aF b [v]:=by
 rw [ev,evs,h,Option.bind_some,evs,Option.map_some,Option.bind_some]
theorem uA {cal:Cal}{i:Nat}{e:ME}{ρ:Rho}{v:PV} (h:ev cal e ρ=some v):ex cal (.set i e) ρ=.next (put ρ i (.val v)):=by
 rw [ex,h];rfl
theorem uB {cal:Cal}{e:ME}{ρ:Rho}{v:PV} (h:ev cal e ρ=some v):ex cal (.ret e) ρ=.ret v:=by
 rw [ex,h];rfl
theorem w4 {cal:Cal}{f:Nat}{es:List ME}{ρ:Rho}{vs:List MV}{v:PV} (h:evA cal es ρ=some vs) (h':cal f vs=some v):ev cal (.call f es) ρ=some v:=by
 rw [ev,h,Option.bind_some,h']
theorem pG {α:Type}{cal:Cal}{k:Sk}{src:List ME}{js:List Nat}{elt:ME}{ρ:Rho}{vs:List PV}{xs:List α}{g h:α->PV} (h1:evs cal src ρ=some vs) (h2:cw k vs=some (xs.map g)) (hl:xs.length <= 10000)
  (h3:∀ x ∈ xs,ev cal elt (cA js ρ (g x))=some (h x)):ev cal (.comp k src js (.cst (.bl true)) elt) ρ=some (.lst (xs.map h)):=by
 rw [ev,h1,Option.bind_some,h2,Option.bind_some,if_pos (by simpa using hl),jI (h:=h) (λx _=>by simp [ev]) h3]
 rfl
theorem jL {cal:Cal}{op:Cp}{a b:ME}{ρ:Rho}{x y:PV} (h:ev cal a ρ=some x) (h':ev cal b ρ=some y):ev cal (.cmp op a b) ρ=(bX op x y).map .bl:=by
 rw [ev,h,Option.bind_some,h',Option.bind_some]
theorem uC {cal:Cal}{a:ME}{ρ:Rho}{b:Bool} (h:ev cal a ρ=some (.bl b)):evB cal a ρ=some b:=by
 unfold evB
 rw [h]
 rfl
theorem oj {cal:Cal}{a i:ME}{ρ:Rho}{x y:PV} (h:ev cal a ρ=some x) (h':ev cal i ρ=some y):ev cal (.idx a i) ρ=ko x y:=by
 rw [ev,h,Option.bind_some,h',Option.bind_some]
theorem fg {body:PV->Rho->R}{x:PV}{xs:List PV}{ρ ρ1:Rho} (h:body x ρ=.next ρ1):bU body (x::xs) ρ=bU body xs ρ1:=by rw [bU,h]
noncomputable def cV (b:Bool):PySem.Str:=if b=true then "moth" else "weaver"
theorem pH (a b:String):((PySem.Str.ofString a) == (PySem.Str.ofString b))=(a == b):=by
 rw [Bool.eq_iff_iff,beq_iff_eq,beq_iff_eq]
 refine ⟨λh=>?_,λh=>by rw [h]⟩
 rw [PySem.Str.ofString_eq_byList] at h
 unfold PySem.Str.ofStringByList at h
 have h1:(a.toList.map Char.toNat).toArray=(b.toList.map Char.toNat).toArray:=by injection h
 have h2:a.toList.map Char.toNat=b.toList.map Char.toNat:=by simpa using h1
 have key:∀ xs ys:List Char,xs.map Char.toNat=ys.map Char.toNat->xs=ys:=by
  intro xs
  induction xs with
  | nil=>intro ys h;cases ys with|nil=>rfl|cons=>simp at h
  | cons x xs ih=>intro ys h;cases ys with
   | nil=>simp at h
   | cons y ys =>
    simp only [List.map_cons,List.cons.injEq] at h
    rw [ih ys h.2,Char.toNat_inj.mp h.1]
 exact String.toList_inj.mp (key _ _ h2)
noncomputable def uD:Option Int->PV
 | none=>.non
 | some i=>.int i
theorem pI (x h:Int):(x == h)=decide (x=h):=rfl
noncomputable def drp (h:Int) (ts:List Int):List Int:=ts.filter λx=>!decide (x=h)
noncomputable def qF (h:Int) (R:List (List Int)):List (List Int):=sortT (R.map (drp h))
theorem uE {h:Int}{ts:List Int} (g:iF ts):iF (drp h ts):=⟨g.1.filter _,λx hx=>g.2 x (List.mem_filter.mp hx).1⟩
theorem qG {h:Int}{R:List (List Int)} (g:dU R):dU (qF h R):=by
 refine ⟨λts hm=>?_,sortT_rises _,by unfold qF;rw [sortT_len,List.length_map];exact g.2.2⟩
 obtain ⟨t,ht,rfl⟩:=List.mem_map.mp (dF.mp hm)
 exact uE (g.1 t ht)
theorem iJ (n:Nat) (ts:List Int) (h:Int) (hl:ts.length <= 10000):ae defs (n + 1) 1 [.val (ofS ts),.val (.int h)]=some (ofS (drp h ts)):=by
 rw [ax (d:=cq) rfl rfl]
 simp [cq,exs,ex,ev,evs,hl]
 rw [bT (p:=λx=>!decide (x=h)) (h:=PV.int)]
 ·simp [drp]
 ·intro x _
  simp [ev,cA,pI]
 ·intro x _ _
  simp [ev,cA]
theorem qH (n:Nat) (R:List (List Int)) (h:Int) (g:dU R):ae defs (n + 2) 2 [.val (ofR R),.val (.int h)]=some (ofR (qF h R)):=by
 rw [ax (d:=fT) rfl rfl]
 have hl:R.length <= 10000:=by have:=g.2.2;omega
 simp [fT,exs,ex,ev,evs,hl]
 rw [jI (h:=λts=>ofS (drp h ts))]
 ·have e:(R.map λc=>ofS (drp h c))=(R.map (drp h)).map ofS:=by rw [List.map_map];rfl
  have hl3:(R.map (drp h)).length < 64:=by rw [List.length_map];have:=g.2.2;omega
  rw [e]
  simp [-List.map_map,ip hl3,qF]
 ·intro c _
  simp [ev]
 ·intro c hc
  have hl:=iq (g.1 c hc)
  simp [ev,evA,cA,iJ n c h (by omega)]
noncomputable def uF (h:Int) (R:List (List Int)):List (List Int):=R.filter λts=>!decide (h ∈ ts)
theorem qI {h:Int}{R:List (List Int)} (g:dU R):dU (uF h R):=⟨λts hm=>g.1 ts (List.mem_filter.mp hm).1,g.2.1.filter _,Nat.le_trans (List.length_filter_le _ _) g.2.2⟩
theorem uG (n:Nat) (R:List (List Int)) (h:Int) (hl:R.length <= 10000):ae defs (n + 1) 3 [.val (ofR R),.val (.int h)]=some (ofR (uF h R)):=by
 rw [ax (d:=gZ) rfl rfl]
 simp [gZ,exs,ex,ev,evs,hl]
 rw [bT (p:=λts=>!decide (h ∈ ts)) (h:=ofS)]
 ·simp [uF]
 ·intro ts _
  simp [ev,cA,cx]
 ·intro ts _ _
  simp [ev,cA]
noncomputable def bhd (h:Bool) (R:List (List Int)):Option Int->List (List Int)
 | none=>R
 | some k=>if h=true then uF k R else qF k R
theorem uH {h:Bool}{R:List (List Int)} (g:dU R) (r:Option Int):dU (bhd h R r):=by
 cases r with
 | none=>exact g
 | some k=>cases h with|true=>exact qI g|false=>exact qG g
theorem w5 (n:Nat) (h:Bool):ae defs (n + 1) 6 [.val (.str (cV h))]=some (.str (cV (!h))):=by
 rw [ax (d:=du) rfl rfl]
 cases h <;> simp [du,exs,ex,ev,evs,evB,evA,pH,cV]
theorem uI (n:Nat) (R:List (List Int)) (g:dU R) (h:Bool) (r:Option Int):ae defs (n + 3) 7 [.val (ofR R),.val (.str (cV h)),.val (uD r)]=some (ofR (bhd h R r)):=by
 rw [ax (d:=fK) rfl rfl]
 cases r with
 | none=>simp [fK,exs,ex,ev,evs,evB,evA,uD,bhd,di]
 | some k =>
  have e1:=qH n R k g
  have e2:=λn=>uG n R k (by have:=g.2.2;omega)
  cases h <;> simp [fK,exs,ex,ev,evs,evB,evA,uD,bhd,pH,cV,di,e1,e2]
theorem om (n:Nat) (R:List (List Int)):ae defs (n + 1) 4 [.val (ofR R)]=some (.bl (decide ([] ∈ R))):=by
 rw [ax (d:=eZ) rfl rfl]
 have ein:isIn (.tup []) (R.map ofS)=some (decide ([] ∈ R)):=n_ [] R
 simp [eZ,exs,ex,ev,evs,ein]
theorem qJ (n:Nat) (R:List (List Int)):ae defs (n + 1) 5 [.val (ofR R)]=some (.bl (decide (R=[]))):=by
 rw [ax (d:=eN) rfl rfl]
 cases R with
 | nil=>simp [eN,exs,ex,ev,evs]
 | cons t R =>
  have:¬ ((R.length:Int) + 1=0):=by omega
  simp [eN,exs,ex,ev,evs,this]
theorem jM {cal:Cal}{i:Nat}{e:ME}{ρ:Rho}{v:PV}{ms:List MS}{X:Option PV} (h:ev cal e ρ=some v) (k:cy (exs cal ms (put ρ i (.val v)))=X):cy (exs cal (.set i e::ms) ρ)=X:=by
 rw [ba,uA h,cz,k]
theorem de {cal:Cal}{m:MS}{ρ ρ':Rho}{ms:List MS}{X:Option PV} (h:ex cal m ρ=.next ρ') (k:cy (exs cal ms ρ')=X):cy (exs cal (m::ms) ρ)=X:=by
 rw [ba,h,cz,k]
theorem iG {cal:Cal}{e:ME}{ρ:Rho}{v:PV}{ms:List MS} (h:ev cal e ρ=some v):cy (exs cal (.ret e::ms) ρ)=some v:=by
 rw [ba,uB h];rfl
theorem uJ {cal:Cal}{i:Nat}{e:ME}{ρ:Rho}{v:PV}{ms:List MS}{r:R} (h:ev cal e ρ=some v) (k:exs cal ms (put ρ i (.val v))=r):exs cal (.set i e::ms) ρ=r:=by
 rw [ba,uA h,cz,k]
theorem oq {cal:Cal}{m:MS}{ρ ρ':Rho}{ms:List MS}{r:R} (h:ex cal m ρ=.next ρ') (k:exs cal ms ρ'=r):exs cal (m::ms) ρ=r:=by
 rw [ba,h,cz,k]
theorem uK {cal:Cal}{m:MS}{ρ ρ':Rho} (h:ex cal m ρ=.next ρ'):exs cal [m] ρ=.next ρ':=by
 rw [ba,h,cz,exs]
theorem dg {cal:Cal}{c:ME}{a b:List MS}{ρ:Rho}{p:Bool} (h:ev cal c ρ=some (.bl p)):ex cal (.ite c a b) ρ=if p=true then exs cal a ρ else exs cal b ρ:=by
 rw [ex,uC h,gk]
theorem g5 {h x:Int}{ts:List Int}:x ∈ drp h ts ↔ x ∈ ts/\x ≠ h:=by
 unfold drp
 rw [List.mem_filter]
 simp
noncomputable def qK (R:List (List Int)) (d:Bool × Int):List (List Int):=if d.1 then qF d.2 R else uF d.2 R
theorem qL {R:List (List Int)}{d:Bool × Int}:∀ ts ∈ qK R d,d.2 ∉ ts:=by
 intro ts h
 unfold qK at h
 split at h
 ·obtain ⟨t,_,rfl⟩:=List.mem_map.mp (dF.mp h)
  exact λz=>(g5.mp z).2 rfl
 ·have:=(List.mem_filter.mp h).2
  simpa using this
theorem ot {R:List (List Int)}{d:Bool × Int}{x:Int} (h:∀ ts ∈ R,x ∉ ts):∀ ts ∈ qK R d,x ∉ ts:=by
 intro ts hm
 unfold qK at hm
 split at hm
 ·obtain ⟨t,ht,rfl⟩:=List.mem_map.mp (dF.mp hm)
  exact λz=>h t ht (g5.mp z).1
 ·exact h ts (List.mem_filter.mp hm).1
noncomputable def hat (o:Bool) (k:Nat):Bool:=if k % 2=0 then o else !o
noncomputable def lft (o:Bool):Nat->List (List Int)->List Int->List (List Int)
 | _,R,[]=>R
 | k,R,h::t=>lft o (k + 1) (bhd (hat o k) R (some h)) t
theorem mX (b:Bool) (R:List (List Int)) (h:Int):bhd b R (some h)=qK R (!b,h):=by cases b <;> rfl
theorem mY (o:Bool) {R:List (List Int)}:∀ (t:List Int) (k:Nat) (R:List (List Int)) (x:Int),((∀ ts ∈ R,x ∉ ts) \/ x ∈ t)->∀ ts ∈ lft o k R t,x ∉ ts
 | [],k,R,x,h=>h.elim id λz=>by cases z
 | y::t,k,R,x,h=>by
  rw [lft,mX]
  refine mY (R:=R) o t (k + 1) _ x ?_
  rcases h with h|h
  ·exact .inl (ot h)
  ·rcases List.mem_cons.mp h with rfl|h
   ·exact .inl (qL (d:=(!hat o k,x)))
   ·exact .inr h
theorem pJ (o:Bool) {P:Int->Prop}:∀ (t:List Int) (k:Nat) (R:List (List Int)),(∀ ts ∈ R,∀ x ∈ ts,P x)->∀ ts ∈ lft o k R t,∀ x ∈ ts,P x
 | [],k,R,h=>h
 | y::t,k,R,h=>by
  rw [lft,mX]
  refine pJ o t (k + 1) _ λts hts x hx=>?_
  unfold qK at hts
  split at hts
  ·obtain ⟨s,hs,rfl⟩:=List.mem_map.mp (dF.mp hts)
   exact h s hs x (g5.mp hx).1
  ·exact h ts (List.mem_filter.mp hts).1 x hx
noncomputable def cW (R:List (List Int)):Sc:=if [] ∈ R then .str "weaver" else if R=[] then .str "moth" else .non
theorem kT (n:Nat) (c r:PV) (xs:List PV) (o:Bool) (k:Nat):ae defs (n + 2) 22 [.brwO [c,r,.str (cV o)] xs,.val (.int (k:Nat))]=some (.str (cV (hat o k))):=by
 rw [ax (d:=bW) rfl rfl]
 have e1:=w5 n o
 by_cases h:k % 2=0
 ·have h':((k:Int) % 2 == 0)=true:=by rw [beq_iff_eq];omega
  simp [bW,exs,ex,ev,evs,evB,evA,dk,h',hat,h]
 ·have h':((k:Int) % 2 == 0)=false:=by rw [beq_eq_false_iff_ne];omega
  simp [bW,exs,ex,ev,evs,evB,evA,dk,h',hat,h,e1]
theorem kU (n:Nat) (c r:PV) (xs:List PV) (o:Bool):∀ (t:List Int) (k:Nat) (R:List (List Int)) (p h:Option MV),dU R ->
  ∃ p' h',bU (λx ρ'=>fD (jn [2,3] x ρ') λρ''=>exs (ae defs (n + 3)) cT ρ'') (b6 k (t.map .int)) [some (.brwO [c,r,.str (cV o)] xs),some (.val (ofR R)),p,h]
  =.next [some (.brwO [c,r,.str (cV o)] xs),some (.val (ofR (lft o k R t))),p',h']
 | [],k,R,p,h,_=>⟨p,h,rfl⟩
 | x::t,k,R,p,h,g=>by
  have e1:=kT (n + 1) c r xs o k
  have e2:=uI n R g (hat o k) (some x)
  have e:(fD (jn [2,3] (.tup [.int (k:Nat),.int x]) [some (.brwO [c,r,.str (cV o)] xs),some (.val (ofR R)),p,h]) λρ''=>exs (ae defs (n + 3)) cT ρ'')
   =.next [some (.brwO [c,r,.str (cV o)] xs),some (.val (ofR (bhd (hat o k) R (some x)))),some (.val (.int (k:Nat))),some (.val (.int x))]:=by
   simp [jn,jV,cT,exs,ex,ev,evs,evA,dk,e1,<- uD.eq_def,show PV.int x=uD (some x) from rfl,e2]
  rw [List.map_cons,b6,fg e]
  obtain ⟨p',h',q⟩:=kU n c r xs o t (k + 1) _ (some (.val (.int (k:Nat)))) (some (.val (.int x))) (uH g (some x))
  exact ⟨p',h',q⟩
noncomputable abbrev tbl (c:Int) (R:List (List Int)) (o:Bool):List PV:=[.int c,ofR R,.str (cV o)]
theorem uL (n:Nat) (c:Int) (R:List (List Int)) (o:Bool) (t:List Int) (g:dU R):ae defs (n + 4) 26 [.brwO (tbl c R o) (t.map .int)]=some (ofR (lft o 0 R t)):=by
 rw [ax (d:=dz) rfl rfl]
 obtain ⟨p',h',e⟩:=kU n (.int c) (ofR R) (t.map .int) o t 0 R none none g
 simp [dz,exs,ex,ev,evs,evB,evA,dk,kz,cw,bv,e,bh]
theorem jN (n:Nat) (c:Int) (R:List (List Int)) (o:Bool) (t:List Int) (g:dU R):ae defs (n + 5) 27 [.brwO (tbl c R o) (t.map .int)]=some (cW (lft o 0 R t)).pv:=by
 rw [ax (d:=bA) rfl rfl]
 have e1:=uL n c R o t g
 generalize lft o 0 R t=L at e1
 have e2:=om (n + 3) L
 have e3:=qJ (n + 3) L
 unfold cW
 by_cases h:[] ∈ L
 ·simp [bA,exs,ex,ev,evs,evB,evA,dk,e1,e2,h,Sc.pv]
 ·by_cases h2:L=[]
  ·subst h2
   simp [bA,exs,ex,ev,evs,evB,evA,dk,e1,e2,e3,Sc.pv]
  ·simp [bA,exs,ex,ev,evs,evB,evA,dk,e1,e2,e3,h,h2,Sc.pv]
theorem w8 (n:Nat) (h c:Int):ae defs (n + 1) 0 [.val (.int h),.val (.int c)]=some (.bl (decide (0 <= h)&&decide (h < c))):=by
 rw [ax (d:=bq) rfl rfl]
 by_cases q:0 <= h
 ·simp [bq,exs,ex,ev,evs,evB,q]
 ·simp [bq,exs,ex,ev,evs,evB,q]
theorem zU (n:Nat) (c:Int) (R:List (List Int)) (o:Bool) (t:List Int) (h:Int) (g:dU R) (hw:cW (lft o 0 R t)=.non) (h0:0 <= h) (h1:h < c) (hn:h ∉ t) (hl:t.length < 10000) :
  ae defs (n + 6) (28 + 3000) [.ownO true (tbl c R o) (t.map .int),.val (.int h)]=some (.tup [(cW (lft o 0 R (t ++ [h]))).pv,.lst ((t ++ [h]).map .int)]):=by
 rw [kR (d:=dA) (by decide) rfl rfl rfl]
 have e1:=jN n c R o t g
 have e2:=w8 (n + 4) h c
 have e3:=jN n c R o (t ++ [h]) g
 have e4:(t ++ [h]).map PV.int=t.map PV.int ++ [PV.int h]:=by simp
 rw [hw,show Sc.non.pv=PV.non from rfl] at e1
 rw [e4] at e3 ⊢
 have e5:sc? (cW (lft o 0 R (t ++ [h]))).pv=some (cW (lft o 0 R (t ++ [h]))):=by
  unfold cW
  split
  ·rfl
  ·split <;> rfl
 generalize cW (lft o 0 R (t ++ [h]))=w at e3 e5
 simp [dA,exs,ex,ev,evs,evB,evA,dk,xt,e1,e2,h0,h1,cx,hn,hl,e3,e5,di,t_,nO,MM.R.andThen]
noncomputable def uM {α:Type} (d:List (α × Sc)) (P:α->Prop):Prop:=(d.map (·.1)).Nodup/\∀ k,k ∈ d.map (·.1) ↔ P k
section
variable {α:Type} [DecidableEq α]
theorem mZ {d:List (α × Sc)}{k:α}:dh d k=none ↔ k ∉ d.map (·.1):=by
 unfold dh
 rw [Option.map_eq_none_iff,List.find?_eq_none]
 constructor
 ·intro h z
  obtain ⟨p,hp,rfl⟩:=List.mem_map.mp z
  exact h p hp (decide_eq_true rfl)
 ·intro h p hp e
  exact h (List.mem_map.mpr ⟨p,hp,of_decide_eq_true e⟩)
theorem uN (d:List (α × Sc)) (k:α) (v:Sc):(cG d k v).map (·.1)=if k ∈ d.map (·.1) then d.map (·.1) else d.map (·.1) ++ [k]:=by
 have e:(d.any λp=>decide (p.1=k))=decide (k ∈ d.map (·.1)):=by
  rw [Bool.eq_iff_iff,List.any_eq_true,decide_eq_true_iff,List.mem_map]
  exact ⟨λ⟨p,hp,z⟩=>⟨p,hp,of_decide_eq_true z⟩,λ⟨p,hp,z⟩=>⟨p,hp,decide_eq_true z⟩⟩
 unfold cG
 rw [e]
 by_cases h:k ∈ d.map (·.1)
 ·rw [if_pos (decide_eq_true h),if_pos h,List.map_map]
  refine List.map_congr_left λp _=>?_
  show (if p.1=k then (p.1,v) else p).1=p.1
  split <;> rfl
 ·rw [if_neg (by simpa using h),if_neg h,List.map_append]
  rfl
theorem put_len (d:List (α × Sc)) (k:α) (v:Sc):(cG d k v).length <= d.length + 1:=by
 unfold cG
 split
 ·rw [List.length_map];omega
 ·rw [List.length_append,List.length_singleton];exact Nat.le_refl _
theorem uO {d:List (α × Sc)}{P:α->Prop} (h:uM d P) (k:α) (v:Sc):uM (cG d k v) (λj=>P j \/ j=k):=by
 unfold uM
 rw [uN]
 by_cases hk:k ∈ d.map (·.1)
 ·rw [if_pos hk]
  refine ⟨h.1,λj=>?_⟩
  rw [h.2 j]
  refine ⟨.inl,λz=>z.elim id λe=>?_⟩
  rw [e]
  exact (h.2 k).mp hk
 ·rw [if_neg hk]
  refine ⟨List.nodup_append.mpr ⟨h.1,by simp,λa ha b hb=>by rw [List.mem_singleton.mp hb];exact λe=>hk (e ▸ ha)⟩,λj=>?_⟩
  rw [List.mem_append,List.mem_singleton,h.2 j]
end
section
variable {α:Type} [DecidableEq α]
theorem xL {g:α->PV}{body:PV->Rho->R}{I:List (α × Sc)->Rho->Prop}{v:Sc}:∀ {xs:List α},(∀ x ∈ xs,∀ d ρ,I d ρ->d.length < 9500->∃ ρ',I (cG d x v) ρ'/\body (g x) ρ=.next ρ') ->
  ∀ {d:List (α × Sc)}{ρ:Rho}{P:α->Prop},I d ρ->uM d P->d.length + xs.length <= 9000 ->
  ∃ d' ρ',bU body (xs.map g) ρ=.next ρ'/\I d' ρ'/\uM d' (λk=>P k \/ k ∈ xs)/\d'.length <= d.length + xs.length
 | [],_,d,ρ,P,hI,hp,_=>⟨d,ρ,rfl,hI,by simpa using hp,by simp⟩
 | x::xs,hb,d,ρ,P,hI,hp,hl=>by
  rw [List.length_cons] at hl
  obtain ⟨ρ1,hI1,e1⟩:=hb x (.head _) d ρ hI (by omega)
  have hl1:=put_len d x v
  obtain ⟨d',ρ',e2,hI2,hp2,hl2⟩:=xL (xs:=xs) (λy hy=>hb y (.tail _ hy)) hI1 (uO hp x v) (by omega)
  rw [List.map_cons,bU,e1]
  refine ⟨d',ρ',e2,hI2,⟨hp2.1,λk=>?_⟩,by rw [List.length_cons];omega⟩
  rw [hp2.2 k]
  simp only [List.mem_cons,or_assoc]
end
theorem uP (c many most:Int) (h1:0 < many):(cU c many most).Pairwise (· < ·)/\∀ h ∈ cU c many most,0 <= h/\h <= many - 1:=by
 obtain ⟨a,b,_⟩:=dY many h1 (db c 1181783497276652981 % (most + 1)).toNat (db c 1181783497276652981 / (most + 1)) [] List.nodup_nil (λ_ h=>by cases h)
 exact ⟨mV a,λh hh=>by have:=b h (fS.mp hh);omega⟩
theorem xM (n:Nat) (L:List (List Int)):ae defs (n + 1) 16 [.val (ofR L)]=some (cW L).pv:=by
 rw [ax (d:=eO) rfl rfl]
 have ein:isIn (.tup []) (L.map ofS)=some (decide ([] ∈ L)):=n_ [] L
 have eq:eqF 100 (ofR L) (.tup [])=some (decide (L=[])):=xI 98 L []
 unfold cW
 by_cases h:[] ∈ L
 ·simp [eO,exs,ex,ev,evs,evB,ein,h,Sc.pv]
 ·by_cases h2:L=[]
  ·subst h2
   rfl
  ·simp [eO,exs,ex,ev,evs,evB,ein,eq,h,h2,Sc.pv]
theorem kW (L:List (List Int)):cW L=.str "weaver" \/ cW L=.str "moth" \/ cW L=.non:=by
 unfold cW
 split
 ·exact .inl rfl
 ·split
  ·exact .inr (.inl rfl)
  ·exact .inr (.inr rfl)
noncomputable def Ff (kn bt:Int->Bool) (Rb:List (List Int)):List (List Int):=(Rb.filter λs=>!s.any bt).map λs=>s.filter λx=>!kn x
noncomputable def tkB (w:Bool) (o:Bool):Nat->List Int->Int->Bool
 | _,[],_=>false
 | k,h::t,x=>(decide (x=h)&&(hat o k == w)) || tkB w o (k + 1) t x
theorem pK {w o:Bool}:∀ {t:List Int}{k:Nat}{x:Int},x ∉ t->tkB w o k t x=false
 | [],_,_,_=>rfl
 | h::t,k,x,hx=>by
  rw [List.mem_cons] at hx
  rw [tkB,pK λz=>hx (.inr z),decide_eq_false λz=>hx (.inl z)]
  rfl
theorem w9 {kn bt:Int->Bool}{h:Int} (hb:bt h=false) (Rb:List (List Int)):Ff kn bt (Rb.map (drp h))=Ff (λx=>decide (x=h) || kn x) bt Rb:=by
 unfold Ff
 rw [List.filter_map,List.map_map]
 have e1:((λs:List Int=>!s.any bt) ∘ drp h)=λs=>!s.any bt:=by
  funext s
  show (!(drp h s).any bt)=!s.any bt
  congr 1
  rw [Bool.eq_iff_iff,List.any_eq_true,List.any_eq_true]
  refine ⟨λ⟨x,hx,q⟩=>⟨x,(g5.mp hx).1,q⟩,λ⟨x,hx,q⟩=>⟨x,g5.mpr ⟨hx,λz=>?_⟩,q⟩⟩
  rw [z,hb] at q
  cases q
 rw [e1]
 refine List.map_congr_left λs _=>?_
 show (drp h s).filter _=_
 unfold drp
 rw [List.filter_filter]
 congr 1
 funext x
 show ((!kn x)&&!decide (x=h))=!(decide (x=h) || kn x)
 cases decide (x=h) <;> cases kn x <;> rfl
theorem w_ {kn bt:Int->Bool}{h:Int} (Rb:List (List Int)):Ff kn bt (Rb.filter λts=>!decide (h ∈ ts))=Ff kn (λx=>decide (x=h) || bt x) Rb:=by
 unfold Ff
 rw [List.filter_filter]
 congr 1
 congr 1
 funext s
 have:(s.any λx=>decide (x=h) || bt x)=(decide (h ∈ s) || s.any bt):=by
  rw [Bool.eq_iff_iff,List.any_eq_true,Bool.or_eq_true,List.any_eq_true,decide_eq_true_iff]
  constructor
  ·rintro ⟨x,hx,q⟩
   rcases Bool.or_eq_true_iff.mp q with q|q
   ·exact .inl (of_decide_eq_true q ▸ hx)
   ·exact .inr ⟨x,hx,q⟩
  ·rintro (q|⟨x,hx,q⟩)
   ·exact ⟨h,q,by simp⟩
   ·exact ⟨x,hx,by simp [q]⟩
 rw [this]
 cases decide (h ∈ s) <;> cases s.any bt <;> rfl
theorem lS (o:Bool):∀ (t:List Int) (k:Nat) (Rb:List (List Int)),t.Nodup->lft o k (sortT Rb) t=sortT (Ff (tkB false o k t) (tkB true o k t) Rb)
 | [],k,Rb,_=>by
  unfold lft Ff
  have e:(Rb.filter λs=>!s.any (tkB true o k []))=Rb:=List.filter_eq_self.mpr λs _=>by
   have:s.any (tkB true o k [])=false:=by rw [List.any_eq_false];intro x _ z;cases z
   rw [this]
   rfl
  rw [e]
  have e2:(Rb.map λs=>s.filter λx=>!tkB false o k [] x)=Rb.map id:=List.map_congr_left λs _=>List.filter_eq_self.mpr λx _=>rfl
  rw [e2,List.map_id]
 | h::t,k,Rb,nd=>by
  obtain ⟨n1,n2⟩:=List.nodup_cons.mp nd
  rw [lft]
  cases e:hat o k with
  | false =>
   have e1:bhd false (sortT Rb) (some h)=sortT (Rb.map (drp h)):=sortT_of_perm ((sortT_perm Rb).map _)
   rw [e1,lS o t (k + 1) _ n2,w9 (pK n1)]
   congr 2
   ·funext x
    rw [tkB,e]
    simp
   ·funext x
    rw [tkB,e]
    simp
  | true =>
   have e1:bhd true (sortT Rb) (some h)=sortT (Rb.filter λts=>!decide (h ∈ ts)):=by
    show (sortT Rb).filter _=_
    rw [<- sortT_id ((sortT_rises Rb).filter λts=>!decide (h ∈ ts))]
    exact sortT_of_perm ((sortT_perm Rb).filter _)
   rw [e1,lS o t (k + 1) _ n2,w_]
   congr 2
   ·funext x
    rw [tkB,e]
    simp
   ·funext x
    rw [tkB,e]
    simp
noncomputable def tb (t:List Int) (b:Int):List Int:=((List.range t.length).filter λ(k:Nat)=>decide ((k:Int) % 2=b)).map λk=>t.getD k 0
theorem zV (t:List Int) (b:Int):(tb t b).length <= t.length:=by
 unfold tb
 rw [List.length_map]
 exact Nat.le_trans (List.length_filter_le _ _) (by rw [List.length_range];exact Nat.le_refl _)
theorem lT (w o:Bool):∀ (t:List Int) (k:Nat) (x:Int),tkB w o k t x=true ↔ ∃ i,t[i]?=some x/\hat o (k + i)=w
 | [],k,x=>⟨λz=>(by cases z),λ⟨i,h,_⟩=>(by simp at h)⟩
 | h::t,k,x=>by
  rw [tkB,Bool.or_eq_true,Bool.and_eq_true,decide_eq_true_iff,beq_iff_eq,lT w o t (k + 1) x]
  constructor
  ·rintro (⟨rfl,e⟩|⟨i,e1,e2⟩)
   ·exact ⟨0,rfl,e⟩
   ·exact ⟨i + 1,by simpa using e1,by rw [<- e2];congr 1;omega⟩
  ·rintro ⟨i,e1,e2⟩
   cases i with
   | zero=>simp at e1;exact .inl ⟨e1.symm,e2⟩
   | succ i=>exact .inr ⟨i,by simpa using e1,by rw [<- e2];congr 1;omega⟩
theorem uQ {t:List Int}{b x:Int}:x ∈ tb t b ↔ ∃ i:Nat,t[i]?=some x/\(i:Int) % 2=b:=by
 unfold tb
 rw [List.mem_map]
 constructor
 ·rintro ⟨k,hk,rfl⟩
  obtain ⟨h1,h2⟩:=List.mem_filter.mp hk
  have h1:k < t.length:=by simpa using h1
  exact ⟨k,by simp [List.getD,h1],of_decide_eq_true h2⟩
 ·rintro ⟨i,e1,e2⟩
  have h1:i < t.length:=(List.getElem?_eq_some_iff.mp e1).1
  refine ⟨i,List.mem_filter.mpr ⟨by simpa using h1,decide_eq_true e2⟩,?_⟩
  simp [List.getD,e1]
theorem lU {o:Bool}{b:Int} (hb:b=if o=true then 1 else 0) (t:List Int):(tkB false o 0 t=λx=>decide (x ∈ sortI (tb t b)))/\tkB true o 0 t=λx=>decide (x ∈ sortI (tb t (1 - b))):=by
 constructor
 ·funext x
  rw [Bool.eq_iff_iff,lT,decide_eq_true_iff,fS,uQ]
  refine ⟨λ⟨i,e1,e2⟩=>⟨i,e1,?_⟩,λ⟨i,e1,e2⟩=>⟨i,e1,?_⟩⟩
  ·rw [Nat.zero_add] at e2
   unfold hat at e2
   subst hb
   cases o <;> simp at e2 ⊢ <;> omega
  ·rw [Nat.zero_add]
   unfold hat
   subst hb
   cases o <;> simp at e2 ⊢ <;> omega
 ·funext x
  rw [Bool.eq_iff_iff,lT,decide_eq_true_iff,fS,uQ]
  refine ⟨λ⟨i,e1,e2⟩=>⟨i,e1,?_⟩,λ⟨i,e1,e2⟩=>⟨i,e1,?_⟩⟩
  ·rw [Nat.zero_add] at e2
   unfold hat at e2
   subst hb
   cases o <;> simp at e2 ⊢ <;> omega
  ·rw [Nat.zero_add]
   unfold hat
   subst hb
   cases o <;> simp at e2 ⊢ <;> omega
theorem m5 (n:Nat) (t:List Int) (b:Int) (hl:t.length < 64) (m:MV) (hm:m=.brw (t.map .int) \/ m=.val (ofL t)):ae defs (n + 1) 14 [m,.val (.int b)]=some (ofL (sortI (tb t b))):=by
 rw [ax (d:=dW) rfl rfl]
 have hl2:(tb t b).length < 64:=Nat.lt_of_le_of_lt (zV t b) hl
 have e:ev (ae defs n) (.comp .rng [(.blt .len [(.bor 0)])] [0,1] (.cmp .eq (.bin .mod (.bor 0) (.cst (.int 2))) (.bor 2)) (.idx (.bor 1) (.bor 0))) [some m,some (.val (.int b))]=some (.lst ((tb t b).map .int)):=by
  rw [ev,show evs (ae defs n) [(.blt .len [(.bor 0)])] [some m,some (.val (.int b))]=some [.int t.length] from by rcases hm with rfl|rfl <;> simp [evs,ev],Option.bind_some,dS (by omega) (by omega),Option.bind_some,if_pos (by simp;omega),bT (p:=λ(k:Nat)=>decide ((k:Int) % 2=b)) (h:=λ(k:Nat)=>.int (t.getD k 0))]
  ·unfold tb
   rw [List.map_map]
   simp only [Int.toNat_natCast]
   rfl
  ·intro k _
   rcases hm with rfl|rfl <;> simp [ev,cA,pI]
  ·intro k hk _
   have hk:k < t.length:=by simpa using hk
   rcases hm with rfl|rfl <;> simp [ev,cA,gX (show (0:Int) <= (k:Nat) by omega) (show ((k:Nat):Int) < t.length by omega),hk]
 show cy (exs _ [.ret _] [some _,some _])=_
 rw [iG (v:=ofL (sortI (tb t b)))]
 rw [lR e,oa,pD,Option.bind_some,kQ hl2]
theorem fh (n:Nat) (t:List Int) (b:Int) (hl:t.length < 64):ae defs (n + 1) 14 [.brw (t.map .int),.val (.int b)]=some (ofL (sortI (tb t b))):=m5 n t b hl _ (.inl rfl)
theorem kX (cal:Cal) (K B:List Int) (a:MV):∀ (Rb acc:List (List Int)) (rb:Option MV),(∀ s ∈ Rb,s.length <= 10000)->acc.length + Rb.length < 10000 ->
  ∃ rb',bU (λx ρ'=>exs cal cR (put ρ' 4 (.val x))) (Rb.map ofS) [some a,some (.val (ofL K)),some (.val (ofL B)),some (.own (acc.map ofS)),rb]
  =.next [some a,some (.val (ofL K)),some (.val (ofL B)),some (.own ((acc ++ Ff (λx=>decide (x ∈ K)) (λx=>decide (x ∈ B)) Rb).map ofS)),rb']
 | [],acc,rb,_,_=>⟨rb,by simp [Ff]⟩
 | s::Rb,acc,rb,hs,hl=>by
  rw [List.length_cons] at hl
  have h1:=hs s (.head _)
  have e1:∀ ρ:Rho,(ρ[4]?).join=some (.val (ofS s))->(ρ[2]?).join=some (.val (ofL B))->ev cal (.blt .any [(.comp .seq [(.bor 4)] [2] (.cst (.bl true)) (.cmp .isIn (.bor 0) (.bor 1)))]) ρ=some (.bl (s.any λx=>decide (x ∈ B))):=λρ q1 q2=>by
   rw [lR (pG (vs:=[ofS s]) (xs:=s) (g:=PV.int) (h:=λx=>.bl (decide (x ∈ B))) (by rw [evs,ev,q1];rfl) rfl h1 λx _=>by simp [ev,cA,q2,cx]),wT]
   have:(s.map λx=>PV.bl (decide (x ∈ B)))=(s.map λx=>decide (x ∈ B)).map PV.bl:=by rw [List.map_map];rfl
   rw [this,jH,Option.map_some,List.any_map]
   rfl
  have e2:∀ ρ:Rho,(ρ[4]?).join=some (.val (ofS s))->(ρ[1]?).join=some (.val (ofL K))->ev cal (.blt .tupleOf [(.comp .seq [(.bor 4)] [1] (.cmp .notIn (.bor 0) (.bor 1)) (.var 0))]) ρ=some (ofS (s.filter λx=>!decide (x ∈ K))):=λρ q1 q2=>by
   have:ev cal (.comp .seq [(.bor 4)] [1] (.cmp .notIn (.bor 0) (.bor 1)) (.var 0)) ρ=some (.lst ((s.filter λx=>!decide (x ∈ K)).map .int)):=by
    rw [ev,show evs cal [(.bor 4)] ρ=some [ofS s] from by rw [evs,ev,q1];rfl,Option.bind_some,pE,wS,Option.bind_some,if_pos (by simpa using h1),bT (p:=λx=>!decide (x ∈ K)) (h:=PV.int)]
    ·rfl
    ·intro x _
     simp [ev,cA,q2,cx]
    ·intro x _ _
     simp [ev,cA]
   rw [lR this]
   rfl
  have e:exs cal cR (put [some a,some (.val (ofL K)),some (.val (ofL B)),some (.own (acc.map ofS)),rb] 4 (.val (ofS s)))
   =.next [some a,some (.val (ofL K)),some (.val (ofL B)),some (.own ((acc ++ Ff (λx=>decide (x ∈ K)) (λx=>decide (x ∈ B)) [s]).map ofS)),some (.val (ofS s))]:=by
   have hlt:acc.length < 10000:=by omega
   simp only [bz,bx]
   have q1:=e1 [some a,some (.val (ofL K)),some (.val (ofL B)),some (.own (acc.map ofS)),some (.val (ofS s))] rfl rfl
   have q2:=e2 [some a,some (.val (ofL K)),some (.val (ofL B)),some (.own (acc.map ofS)),some (.val (ofS s))] rfl rfl
   cases hb:s.any λx=>decide (x ∈ B) with
   | true =>
    rw [hb] at q1
    have q3:evB cal (.not (.blt .any [(.comp .seq [(.bor 4)] [2] (.cst (.bl true)) (.cmp .isIn (.bor 0) (.bor 1)))])) [some a,some (.val (ofL K)),some (.val (ofL B)),some (.own (acc.map ofS)),some (.val (ofS s))]=some false:=by
     unfold evB
     rw [ev,q1]
     rfl
    rw [cR,ba,ex,q3,gk,if_neg (by decide),exs,cz,exs]
    simp [Ff,hb]
   | false =>
    rw [hb] at q1
    have q3:evB cal (.not (.blt .any [(.comp .seq [(.bor 4)] [2] (.cst (.bl true)) (.cmp .isIn (.bor 0) (.bor 1)))])) [some a,some (.val (ofL K)),some (.val (ofL B)),some (.own (acc.map ofS)),some (.val (ofS s))]=some true:=by
     unfold evB
     rw [ev,q1]
     rfl
    rw [cR,ba,ex,q3,gk,if_pos rfl,ba,ex,q2]
    simp [Ff,hb,hlt,exs]
  rw [List.map_cons,fg e]
  obtain ⟨rb',q⟩:=kX cal K B a Rb (acc ++ Ff (λx=>decide (x ∈ K)) (λx=>decide (x ∈ B)) [s]) (some (.val (ofS s))) (λs hs'=>hs s (.tail _ hs')) (by
   have:(Ff (λx=>decide (x ∈ K)) (λx=>decide (x ∈ B)) [s]).length <= 1:=by unfold Ff;rw [List.length_map];exact List.length_filter_le _ _
   rw [List.length_append]
   omega)
  refine ⟨rb',?_⟩
  rw [q,List.append_assoc]
  have:Ff (λx=>decide (x ∈ K)) (λx=>decide (x ∈ B)) [s] ++ Ff (λx=>decide (x ∈ K)) (λx=>decide (x ∈ B)) Rb=Ff (λx=>decide (x ∈ K)) (λx=>decide (x ∈ B)) (s::Rb):=by
   unfold Ff
   rw [<- List.map_append,<- List.filter_append]
   rfl
  rw [this]
theorem uR (n:Nat) (Rb:List (List Int)) (K B:List Int) (hs:∀ s ∈ Rb,s.length <= 10000) (hl:Rb.length < 64):ae defs (n + 1) 15 [.val (.lst (Rb.map ofS)),.val (ofL K),.val (ofL B)]=some (ofR (sortT (Ff (λx=>decide (x ∈ K)) (λx=>decide (x ∈ B)) Rb))):=by
 rw [ax (d:=fb) rfl rfl]
 obtain ⟨rb',e⟩:=kX (ae defs n) K B (.val (.lst (Rb.map ofS))) Rb [] none hs (by simp;omega)
 rw [List.nil_append,List.map_nil] at e
 have hl2:(Ff (λx=>decide (x ∈ K)) (λx=>decide (x ∈ B)) Rb).length < 64:=by
  unfold Ff
  rw [List.length_map]
  exact Nat.lt_of_le_of_lt (List.length_filter_le _ _) hl
 simp [fb,exs,ex,ev,evs,evB,bv,e,bh,ip hl2]
noncomputable def frl (c:Int) (t:List Int):List Int:=((List.range c.toNat).filter λ(k:Nat)=>!decide ((k:Int) ∈ t)).map λ(k:Nat)=>(k:Int)
theorem pL {c x:Int}{t:List Int}:x ∈ frl c t ↔ (0 <= x/\x < c)/\x ∉ t:=by
 unfold frl
 rw [List.mem_map]
 constructor
 ·rintro ⟨k,hk,rfl⟩
  obtain ⟨h1,h2⟩:=List.mem_filter.mp hk
  have h1:k < c.toNat:=by simpa using h1
  exact ⟨by omega,by simpa using h2⟩
 ·rintro ⟨h1,h2⟩
  have e:((x.toNat:Nat):Int)=x:=by omega
  refine ⟨x.toNat,List.mem_filter.mpr ⟨by simp;omega,?_⟩,e⟩
  rw [e]
  simpa using h2
theorem xa {c:Int}{t:List Int}:(frl c t).length <= c.toNat:=by
 unfold frl
 rw [List.length_map]
 exact Nat.le_trans (List.length_filter_le _ _) (by rw [List.length_range];exact Nat.le_refl _)
theorem uS (n:Nat) (c:Int) (t:List Int) (h0:0 <= c) (h1:c <= 60) (hl:t.length <= 60) (m:MV) (hm:m=.brw (t.map .int) \/ m=.val (ofL t)):ae defs (n + 1) 17 [.val (.int c),m]=some (ofL (frl c t)):=by
 rw [ax (d:=gm) rfl rfl]
 obtain ⟨d,ρ',e,hI,hp,_⟩:=xL (g:=PV.int) (v:=.bl true) (body:=λx ρ'=>exs (ae defs n) fc (put ρ' 3 (.val x))) (I:=λd ρ=>∃ hh,ρ=[some (.val (.int c)),some m,some (.ownD (.k d)),hh]) (xs:=t)
  (λx _ d ρ ⟨hh,hI⟩ hd=>by
   subst hI
   have hd:d.length < 10000:=by omega
   refine ⟨_,⟨some (.val (.int x)),rfl⟩,?_⟩
   simp [fc,exs,ex,ev,hd,sc?])
  (d:=[]) (ρ:=[some (.val (.int c)),some m,some (.ownD (.k [])),none]) (P:=λ_=>False) ⟨none,rfl⟩ ⟨by simp,λk=>by simp⟩ (by simp;omega)
 obtain ⟨hh,rfl⟩:=hI
 have hk:∀ x,(dh d x).isSome=decide (x ∈ t):=λx=>by
  cases q:dh d x with
  | none =>
   have:=mZ.mp q
   rw [hp.2 x] at this
   rw [decide_eq_false (λz=>this (.inr z))]
   rfl
  | some s =>
   have:x ∈ d.map (·.1):=by
    by_cases z:x ∈ d.map (·.1)
    ·exact z
    ·rw [mZ.mpr z] at q;cases q
   rw [hp.2 x] at this
   rw [decide_eq_true (this.elim False.elim id)]
   rfl
 have hl3:c.toNat <= 10000:=by omega
 have e2:ev (ae defs n) (.comp .rng [(.bor 0)] [2] (.dIn true (.bor 0) (.bor 1)) (.var 0)) [some (.val (.int c)),some m,some (.ownD (.k d)),hh]=some (ofL (frl c t)):=by
  rw [ev,show evs (ae defs n) [(.bor 0)] [some (.val (.int c)),some m,some (.ownD (.k d)),hh]=some [.int c] from by simp [evs,ev],Option.bind_some,dS h0 (by omega),Option.bind_some,if_pos (by simpa using hl3),bT (p:=λ(k:Nat)=>!decide ((k:Int) ∈ t)) (h:=λ(k:Nat)=>.int (k:Int))]
  ·unfold frl
   rw [Option.map_some]
   show some (PV.lst _)=some (PV.lst ((List.map _ _).map PV.int))
   rw [List.map_map]
   rfl
  ·intro k _
   simp [ev,cA,cY]
   rw [<- hk]
   cases dh d (k:Int) <;> rfl
  ·intro k _ _
   simp [ev,cA]
 show cy (exs _ [_,_,.ret _] (some _::some _::_))=_
 refine de (ρ':=[some (.val (.int c)),some m,some (.ownD (.k [])),none]) rfl ?_
 refine de (ρ':=[some (.val (.int c)),some m,some (.ownD (.k d)),hh]) ?_ ?_
 ·rw [lQ (xs:=t.map .int) (by rcases hm with rfl|rfl <;> simp [evs,ev]),show bv [(.bor 1)] [some (.val (.int c)),some m,some (.ownD (.k [])),none]=[some (.val (.int c)),some m,some (.ownD (.k [])),none] from by rcases hm with rfl|rfl <;> rfl,e,kS]
  rcases hm with rfl|rfl <;> rfl
 ·exact iG e2
theorem pM (n:Nat) (c:Int) (t:List Int) (h0:0 <= c) (h1:c <= 60) (hl:t.length <= 60):ae defs (n + 1) 17 [.val (.int c),.brw (t.map .int)]=some (ofL (frl c t)):=uS n c t h0 h1 hl _ (.inl rfl)
theorem qM (n:Nat) (ns:List Int) (c:Int) (h0:0 <= c) (h1:c <= 60):∃ Rb:List (List Int),ae defs (n + 3) 13 [.brw (ns.map .int),.val (.int c)]=some (.lst (Rb.map ofS))/\(∀ s ∈ Rb,iF s/\∀ x ∈ s,0 <= x/\x < c)/\Rb.length <= 8:=by
 rw [ax (d:=eE) rfl rfl]
 by_cases hc:c=0
 ·subst hc
  exact ⟨[],rfl,λs hs=>(by cases hs),by simp⟩
 ·have hp:0 < c:=by omega
  have ec:=og (n + 1) (.brw (ns.map .int)) ns 1 rfl (by decide)
  generalize cellOf ns 1=sm at ec
  have q0:0 <= sm % 9:=Int.emod_nonneg _ (by decide)
  have q1:sm % 9 < 9:=Int.emod_lt_of_pos _ (by decide)
  have r0:0 <= sm / 9 % 6:=Int.emod_nonneg _ (by decide)
  have r1:sm / 9 % 6 < 6:=Int.emod_lt_of_pos _ (by decide)
  have hcut:(gY ns (some 3) (some (3 + sm % 9))).length <= 8:=by have:=mW ns (a:=3) (b:=3 + sm % 9) (by decide) (by omega);omega
  have es:∀ x,ae defs (n + 2) 10 [.val (.int x),.val (.int c),.val (.int (1 + sm / 9 % 6))]=some (ofS (cU x c (1 + sm / 9 % 6))):=λx=>wZ n x c (1 + sm / 9 % 6) hp (by omega) (by omega) (by omega)
  have hne:decide (c=0)=false:=decide_eq_false hc
  refine ⟨((gY ns (some 3) (some (3 + sm % 9))).map λx=>cU x c (1 + sm / 9 % 6)).filter λs=>!decide (s=[]),?_,λs hs=>?_,?_⟩
  ·have hc2:(c == 0)=false:=by rw [beq_eq_false_iff_ne];exact hc
   have e1:ev (ae defs (n + 2)) (.comp .seq [(.slice (.bor 0) (.cst (.int 3)) (.bin .add (.cst (.int 3)) (.bin .mod (.bor 2) (.cst (.int 9)))))] [1,2] (.cst (.bl true)) (.call 10 [(.bor 0),(.bor 1),(.bin .add (.cst (.int 1)) (.bin .mod (.bin .fdiv (.bor 2) (.cst (.int 9))) (.cst (.int 6))))])) [some (.brw (ns.map .int)),some (.val (.int c)),some (.val (.int sm)),none]=some (.lst (((gY ns (some 3) (some (3 + sm % 9))).map λx=>cU x c (1 + sm / 9 % 6)).map ofS)):=by
    rw [pG (vs:=[ofL (gY ns (some 3) (some (3 + sm % 9)))]) (xs:=gY ns (some 3) (some (3 + sm % 9))) (g:=PV.int) (h:=λx=>ofS (cU x c (1 + sm / 9 % 6))) (by simp [evs,ev,bnd]) rfl (by omega) λx _=>by simp [ev,evA,cA,es],List.map_map]
    rfl
   have hS:((gY ns (some 3) (some (3 + sm % 9))).map λx=>cU x c (1 + sm / 9 % 6)).length <= 10000:=by rw [List.length_map];omega
   generalize (gY ns (some 3) (some (3 + sm % 9))).map (λx=>cU x c (1 + sm / 9 % 6))=S at e1 hS
   have e2:ev (ae defs (n + 2)) (.comp .seq [(.bor 3)] [] (.cmp .ne (.bor 0) (.tup [])) (.var 0)) [some (.brw (ns.map .int)),some (.val (.int c)),some (.val (.int sm)),some (.val (.lst (S.map ofS)))]=some (.lst ((S.filter λs=>!decide (s=[])).map ofS)):=by
    rw [ev,show evs (ae defs (n + 2)) [(.bor 3)] [some (.brw (ns.map .int)),some (.val (.int c)),some (.val (.int sm)),some (.val (.lst (S.map ofS)))]=some [.lst (S.map ofS)] from by simp [evs,ev],Option.bind_some,pE,pD,Option.bind_some,if_pos (by simpa using hS),bT (p:=λs=>!decide (s=[])) (h:=ofS)]
    ·rfl
    ·intro s _
     have:eqF 100 (ofS s) (.tup [])=some (decide (s=[])):=t9 99 s []
     simp [ev,evs,cA,this]
    ·intro s _ _
     simp [ev,cA]
   show cy (exs _ [.ite _ _ _,.set 2 _,.set 3 _,.ret _] (some _::some _::[none,none]))=_
   refine de (by rw [dg (p:=false) (by simp [ev,hc2]),if_neg (by decide),exs]) ?_
   refine jM (v:=.int sm) (by simp [ev,evA,ec]) ?_
   simp only [bz,bx]
   refine jM e1 ?_
   simp only [bz,bx]
   exact iG e2
  ·obtain ⟨x,_,rfl⟩:=List.mem_map.mp (List.mem_filter.mp hs).1
   exact ⟨oh x c _ hp h1,λy hy=>by have:=(uP x c (1 + sm / 9 % 6) hp).2 y hy;omega⟩
  ·exact Nat.le_trans (List.length_filter_le _ _) (by rw [List.length_map];exact hcut)
theorem uT {L:List (List Int)} (h:cW L=.non):[] ∉ L/\L ≠ []:=by
 unfold cW at h
 split at h
 ·cases h
 ·rename_i h1
  split at h
  ·cases h
  ·rename_i h2
   exact ⟨h1,h2⟩
theorem pN (n:Nat) (i:Int):ae defs (n + 1) 11 [.val (.int i)]=some (.bl true):=by
 rw [ax (d:=d_) rfl rfl]
 simp [d_,exs,ex,ev,evs]
theorem f8 (n:Nat) (a:List Int) (m:MV) (hm:m=.brw (a.map .int) \/ m=.val (ofL a)):∀ (ks:List Nat) (kk:Option MV),(∀ k ∈ ks,k < a.length) ->
  ∃ kk',bU (λx ρ'=>exs (ae defs (n + 1)) cr (put ρ' 2 (.val x))) (ks.map λ(k:Nat)=>.int (k:Int)) [some (.val (ofL a)),some m,kk]=.next [some (.val (ofL a)),some m,kk']
 | [],kk,_=>⟨kk,rfl⟩
 | k::ks,kk,h=>by
  have hk:=h k (.head _)
  have e1:fC (a.map PV.int).length ((k:Nat):Int)=some k:=by rw [gX (by omega) (by rw [List.length_map];omega)];simp
  have e2:=pN n a[k]
  have e:exs (ae defs (n + 1)) cr (put [some (.val (ofL a)),some m,kk] 2 (.val (.int (k:Nat))))=.next [some (.val (ofL a)),some m,some (.val (.int (k:Nat)))]:=by
   rw [List.length_map] at e1
   rcases hm with rfl|rfl <;> simp [cr,exs,ex,ev,evs,evB,evA,e1,hk,e2]
  rw [List.map_cons,fg e]
  exact f8 n a m hm ks _ λj hj=>h j (.tail _ hj)
theorem jO (n:Nat) (a:List Int) (hl:a.length <= 60) (m:MV) (hm:m=.brw (a.map .int) \/ m=.val (ofL a)):ae defs (n + 2) 12 [.val (ofL a),m]=some (.bl true):=by
 rw [ax (d:=eD) rfl rfl]
 obtain ⟨kk',e⟩:=f8 n a m hm (List.range a.length) none λk hk=>by simpa using hk
 have e2:cw .rng [.int (a.length:Nat)]=some ((List.range a.length).map λ(k:Nat)=>.int (k:Int)):=by rw [dS (by omega) (by omega),Int.toNat_natCast]
 have e3:evs (ae defs (n + 1)) [(.blt .len [(.bor 1)])] [some (.val (ofL a)),some m,none]=some [.int (a.length:Nat)]:=by rcases hm with rfl|rfl <;> simp [evs,ev]
 show cy (exs _ [.ite _ _ _,.for1 _ _ _ _,.ret _] (some _::some _::[none]))=_
 refine de (by rw [dg (p:=false) (by rcases hm with rfl|rfl <;> simp [ev,evs]),if_neg (by decide),exs]) ?_
 refine de (ρ':=[some (.val (ofL a)),some m,kk']) ?_ (iG (by rw [ev]))
 rw [lQ (xs:=(List.range a.length).map λ(k:Nat)=>.int (k:Int)) (by rw [e3,Option.bind_some,e2]),show bv [(.blt .len [(.bor 1)])] [some (.val (ofL a)),some m,none]=[some (.val (ofL a)),some m,none] from rfl,e,kS]
 rfl
theorem xb (n:Nat) (fs:List PV) (t:List Int):ae defs (n + 1) 24 [.brwO fs (t.map .int)]=some (ofL t):=by
 rw [ax (d:=c7) rfl rfl]
 simp [c7,exs,ex,ev,evs,kz]
theorem xN {cal:Cal}{m:MS}{ms:List MS}{ρ:Rho}{c:Str} (hz:ie m=false) (h:exE cal m ρ=.err c):exsE cal (m::ms) ρ=.err c:=by
 rw [exsE,hz,if_neg (by decide),h]
theorem C3 {cal:Cal}{c:ME}{k:Str}{ρ:Rho}{p:Bool} (h:ev cal c ρ=some (.bl p)):exE cal (.ite c [.raise k] []) ρ=if p=true then .err k else .fin (.next ρ):=by
 have e:exsE cal [.raise k] ρ=.err k:=xN rfl rfl
 rw [exE,uC h]
 dsimp only
 rw [e,exsE]
theorem BQ (s:Sc):sc? s.pv=some s:=by cases s <;> rfl
theorem zW {cal:Cal}{i f:Nat}{es:List ME}{hs:List HH}{ρ:Rho}{o:List PV × List PV}{vs:List MV}{c:Str}{h:HH}{v:PV} (h1:dk (ρ[i]?).join=some o) (h2:evA cal es ρ=some vs) (h3:cal (f + 5000) (.brwO o.1 o.2::vs)=some (.str c)) (h4:(hs.find? λh=>fW c h.cls)=some h) (h5:h.v.val c ρ=some v) (h6:h.free ρ=true):ex cal (.tryO i f es hs) ρ=.next (put ρ h.i (.val v)):=by
 rw [ex,h1,h2]
 dsimp only
 rw [h3]
 dsimp only
 rw [h4]
 dsimp only
 rw [h5]
 dsimp only
 rw [if_pos h6]
theorem xO {cal:Cal}{a b:ME}{ρ:Rho}{p q:Bool} (h:ev cal a ρ=some (.bl p)) (h':p=false->ev cal b ρ=some (.bl q)):ev cal (.or a b) ρ=some (.bl (p || q)):=by
 rw [ev,h]
 cases p with
 | true=>rfl
 | false=>simp [h' rfl]
theorem zX (n:Nat) (fs:List PV) (t:List Int) (l:Int):ae defs (n + 1) (29 + 3000) [.ownO true fs ((t ++ [l]).map .int)]=some (.tup [.int l,.lst (t.map .int)]):=by
 rw [kR (d:=dB) (by decide) rfl rfl rfl]
 have e1:ev (ae defs n) (.cmp .eq (.lenO 0) (.cst (.int 0))) [some (.ownO true fs ((t ++ [l]).map .int))]=some (.bl false):=by
  simp [ev,dk]
  omega
 show t_ (exs _ [.ite _ _ _,.retPop 0] [some _])=_
 rw [ba,dg e1,if_neg (by decide),exs,cz,ba,ex]
 simp [t_,nO,sc?,Sc.pv,MM.R.andThen,put]
theorem zY (n:Nat) (c:Int) (R:List (List Int)) (o:Bool) (t:List Int):ae defs (n + 3) 23 [.brwO (tbl c R o) (t.map .int)]=some (.str (cV (hat o t.length))):=by
 rw [ax (d:=dw) rfl rfl]
 have e:=kT n (.int c) (ofR R) (t.map .int) o t.length
 simp [dw,exs,ex,ev,evs,evA,kz,dk,e]
theorem xc (n:Nat) (c:Int) (R:List (List Int)) (o:Bool) (t:List Int) (h0:0 <= c) (h1:c <= 60):ae defs (n + 1) 25 [.brwO (tbl c R o) (t.map .int)]=some (ofL (frl c t)):=by
 rw [ax (d:=ff) rfl rfl]
 have hl:c.toNat <= 10000:=by omega
 have e:ev (ae defs n) (.comp .rng [(.fld 0 0)] [0] (.cmp .notIn (.bor 0) (.fldL 1)) (.var 0)) [some (.brwO (tbl c R o) (t.map .int))]=some (ofL (frl c t)):=by
  rw [ev,show evs (ae defs n) [(.fld 0 0)] [some (.brwO (tbl c R o) (t.map .int))]=some [.int c] from by simp [evs,ev,dk],Option.bind_some,dS h0 (by omega),Option.bind_some,if_pos (by simpa using hl),bT (p:=λ(k:Nat)=>!decide ((k:Int) ∈ t)) (h:=λ(k:Nat)=>.int (k:Int))]
  ·unfold frl
   rw [Option.map_some]
   show some (PV.lst _)=some (PV.lst ((List.map _ _).map PV.int))
   rw [List.map_map]
   rfl
  ·intro k _
   simp [ev,cA,cY,kz,cx]
  ·intro k _ _
   simp [ev,cA]
 show cy (exs _ [.ret _] [some _])=_
 rw [iG e]
theorem uU (n:Nat) (fs:List PV):ae defs (n + 1) (29 + 5000) [.brwO fs []]=some (.str "NoDeed"):=by
 rw [qD (d:=dB) rfl rfl rfl]
 have e1:ev (ae defs n) (.cmp .eq (.lenO 0) (.cst (.int 0))) [some (.brwO fs [])]=some (.bl true):=by
  simp [ev,dk]
 show vU (exsE _ [.ite _ [.raise _] [],.retPop 0] [some _])=_
 rw [xN rfl (by rw [C3 e1,if_pos rfl])]
 rfl
theorem xg (n:Nat) (fs:List PV):ae defs (n + 2) 19 [.brwO fs []]=some (.lst [.bl true,.bl true,.bl false]):=by
 rw [ax (d:=fL) rfl rfl]
 have e:=uU n fs
 show cy (exs _ [.set 1 _,.tryO 0 29 [] [⟨"LoomError",some 2,1,_⟩],.ret _] [some _,none,none])=_
 refine jM (v:=.lst []) (by simp [ev,evs]) ?_
 simp only [bz,bx]
 refine de (zW (o:=(fs,[])) (vs:=[]) rfl rfl e rfl (v:=.lst [.bl true,.bl true,.bl false]) rfl rfl) ?_
 simp only [bz,bx]
 exact iG rfl
theorem lV (cal:Cal) (t:List Int) (ρ:Rho) (h:(ρ[1]?).join=some (.brw (t.map .int))):ev cal (.cmp .eq (.bor 1) (.lst [])) ρ=some (.bl (decide (t=[]))):=by
 have e:eqF 100 (ofL t) (.lst [])=some (decide (t=[])):=By 99 t []
 rw [jL (x:=ofL t) (y:=.lst []) (by rw [ev,h];rfl) (by simp [ev,evs])]
 show Option.map PV.bl (eqF 100 (ofL t) (.lst []))=_
 rw [e]
 rfl
theorem uV (cal:Cal) (fs:List PV) {ρ:Rho} (h:(ρ[0]?).join=some (.brwO fs [])) (e:cal 19 [.brwO fs []]=some (.lst [.bl true,.bl true,.bl false])):ev cal (.cmp .eq (.call 19 [(.bor 0)]) (.lst [(.cst (.bl true)),(.cst (.bl true)),(.cst (.bl false))])) ρ=some (.bl true):=by
 rw [jL (x:=.lst [.bl true,.bl true,.bl false]) (y:=.lst [.bl true,.bl true,.bl false]) (by rw [w4 (vs:=[.brwO fs []]) (by simp [evA,h,bu]) e]) (by simp [ev,evs])]
 rfl
theorem qN (n:Nat) (fs:List PV):ae defs (n + 3) 20 [.brwO fs [],.brw []]=some (.bl true):=by
 rw [ax (d:=dX) rfl rfl]
 have e:=xg n fs
 have e1:=lV (ae defs (n + 2)) [] [some (.brwO fs []),some (.brw []),none] rfl
 show cy (exs _ [.ite _ [.ret _] [],.takeO _ _ _ _,.retAP _ _ _] [some _,some _,none])=_
 rw [ba,dg e1,decide_eq_true rfl,if_pos rfl,ba,uB (v:=.bl true) (uV _ _ rfl e)]
 rfl
theorem xh (n:Nat) (fs:List PV) (t:List Int) (h:t ≠ []):ae defs (n + 1) 20 [.brwO fs (t.map .int),.brw (t.map .int)]=none:=by
 rw [ax (d:=dX) rfl rfl]
 have e1:=lV (ae defs n) t [some (.brwO fs (t.map .int)),some (.brw (t.map .int)),none] rfl
 show cy (exs _ [.ite _ [.ret _] [],.takeO _ _ _ _,.retAP _ _ _] [some _,some _,none])=_
 rw [ba,dg e1,decide_eq_false h,if_neg (by decide),exs,cz,ba,ex]
 rfl
theorem BR {cal:Cal}{m1 m2:MS}{w x:ME}{i:Nat}{ρ ρ1 ρ2:Rho} (z:(ie m1 || ie m2)=false) (h1:ex cal m1 ρ=.next ρ1) (h2:ex cal m2 ρ1=.next ρ2):nP cal [m1,m2,.retAP w x i] ρ=mw cal w x i ρ2:=by
 show (if (ie m1 || ie m2)=true then none else (ex cal m1 ρ).nxt.bind λρ1=>(ex cal m2 ρ1).nxt.bind λρ2=>(yy (.retAP w x i)).bind λq=>mw cal q.1 q.2.1 q.2.2 ρ2)=_
 rw [z,if_neg (by decide),h1]
 show ((ex cal m2 ρ1).nxt.bind λρ2=>(yy (.retAP w x i)).bind λq=>mw cal q.1 q.2.1 q.2.2 ρ2)=_
 rw [h2]
 rfl
theorem uW (n:Nat) (fs:List PV) (t:List Int) (l:Int):ae defs (n + 2) (20 + 6000) [.ownO true fs ((t ++ [l]).map .int),.brw ((t ++ [l]).map .int)]=some (.tup [.bl true,.lst (t.map .int)]):=by
 rw [qE (d:=dX) rfl rfl rfl]
 have e1:=lV (ae defs (n + 1)) (t ++ [l]) [some (.ownO true fs ((t ++ [l]).map .int)),some (.brw ((t ++ [l]).map .int)),none] rfl
 have e2:=zX n fs t l
 have e3:=pN n l
 have s1:ex (ae defs (n + 1)) (.ite (.cmp .eq (.bor 1) (.lst [])) [.ret (.cmp .eq (.call 19 [(.bor 0)]) (.lst [(.cst (.bl true)),(.cst (.bl true)),(.cst (.bl false))]))] []) [some (.ownO true fs ((t ++ [l]).map .int)),some (.brw ((t ++ [l]).map .int)),none]=.next [some (.ownO true fs ((t ++ [l]).map .int)),some (.brw ((t ++ [l]).map .int)),none]:=by
  rw [dg e1,decide_eq_false (by simp),if_neg (by decide),exs]
 have s2:ex (ae defs (n + 1)) (.takeO (some 2) 0 29 []) [some (.ownO true fs ((t ++ [l]).map .int)),some (.brw ((t ++ [l]).map .int)),none]=.next [some (.ownO true fs (t.map .int)),some (.brw ((t ++ [l]).map .int)),some (.val (.int l))]:=by
  rw [ex]
  simp only [evs,List.getElem?_cons_zero,Option.join_some,Option.bind_some,List.map_nil,e2]
  rfl
 refine (show nP _ [.ite (.cmp .eq (.bor 1) (.lst [])) [.ret (.cmp .eq (.call 19 [(.bor 0)]) (.lst [(.cst (.bl true)),(.cst (.bl true)),(.cst (.bl false))]))] [],.takeO (some 2) 0 29 [],.retAP (.call 11 [(.bor 2)]) (.bor 2) 1] _=_ from BR rfl s1 s2).trans ?_
 unfold mw
 have e4:evB (ae defs (n + 1)) (.call 11 [(.bor 2)]) [some (.ownO true fs (t.map .int)),some (.brw ((t ++ [l]).map .int)),some (.val (.int l))]=some true:=by
  simp [evB,ev,evA,e3]
 have e5:((t ++ [l]).map PV.int).getLast?=some (.int l):=by simp
 simp only [List.getElem?_cons_zero,List.getElem?_cons_succ,Option.join_some,e4,e5,ev,a9]
 simp
theorem qO (cal:Cal) (fs:List PV) (c b:Int) (rb K1 K2:PV) (t F:List Int) (L:List (List Int)) (w:Bool) (ek1:cal 14 [.brw (t.map .int),.val (.int b)]=some K1) (ek2:cal 14 [.brw (t.map .int),.val (.int (1 - b))]=some K2) (el:cal 15 [.val rb,.val K1,.val K2]=some (ofR L))
  (ed:cal 24 [.brwO fs (t.map .int)]=some (ofL t)) (en:cal 12 [.val (ofL t),.brw (t.map .int)]=some (.bl true)) (ef:cal 25 [.brwO fs (t.map .int)]=some (ofL F)) (ef2:cal 17 [.val (.int c),.brw (t.map .int)]=some (ofL F)) (en2:cal 12 [.val (ofL F),.val (ofL F)]=some (.bl true))
  (et:cal 23 [.brwO fs (t.map .int)]=some (.str (cV w))) (er:cal 26 [.brwO fs (t.map .int)]=some (ofR L)) (ew:cal 27 [.brwO fs (t.map .int)]=some (cW L).pv) (ew2:cal 16 [.val (ofR L)]=some (cW L).pv) (hi:((t.length:Int) + b) % 2=if w=true then 1 else 0) :
  cy (exs cal eh.body [some (.brwO fs (t.map .int)),some (.val (.int c)),some (.val rb),some (.brw (t.map .int)),some (.val (.int b)),none])=some (.bl true):=by
 have eR:eqF 100 (ofR L) (ofR L)=some true:=by rw [xI 98];simp
 have eW:eqF 100 (cW L).pv (cW L).pv=some true:=by
  rcases kW L with z|z|z <;> rw [z] <;> simp [Sc.pv,eqF]
 show cy (exs _ [.set 5 _,.ite _ _ _,.ite _ _ _,.ret _] [some _,some _,some _,some _,some _,none])=_
 refine jM (v:=ofR L) (by simp [ev,evA,bu,ek1,ek2,el]) ?_
 simp only [bz,bx]
 refine de (by rw [dg (p:=false) (by simp [ev,evA,bu,dk,ed,en,ef,ef2,en2]),if_neg (by decide),exs]) ?_
 refine de (by
  rw [dg (p:=false),if_neg (by decide),exs]
  refine xO (p:=false) (q:=false) ?_ λ_=>?_
  ·rw [jL (x:=.str (cV w)) (y:=.str (cV w)) (by simp [ev,evA,dk,et])]
   ·simp [nM]
   rw [oj (x:=.lst [.str "weaver",.str "moth"]) (y:=.int (((t.length:Int) + b) % 2)) (by simp [ev,evs]) (by simp [ev,evs]),hi,xK]
   cases w <;> rfl
  ·rw [jL (x:=ofR L) (y:=ofR L) (by simp [ev,evA,dk,er]) (by simp [ev])]
   show Option.map PV.bl ((eqF 100 (ofR L) (ofR L)).map _)=_
   rw [eR]
   rfl) ?_
 refine iG ?_
 rw [jL (x:=(cW L).pv) (y:=(cW L).pv) (by simp [ev,evA,dk,ew]) (by simp [ev,evA,ew2])]
 show Option.map PV.bl (eqF 100 (cW L).pv (cW L).pv)=_
 rw [eW]
 rfl
theorem pO (n:Nat) (c:Int) (Rb:List (List Int)) (o:Bool) (t:List Int) (b:Int) (hb:b=if o=true then 1 else 0) (h0:0 <= c) (h1:c <= 60) (hR:∀ s ∈ Rb,iF s) (hl:Rb.length <= 8) (g:dU (sortT Rb)) (nd:t.Nodup) (ht:t.length <= 60) :
  ae defs (n + 6) 18 [.brwO (tbl c (sortT Rb) o) (t.map .int),.val (.int c),.val (.lst (Rb.map ofS)),.brw (t.map .int),.val (.int b)]=some (.bl true):=by
 rw [ax (d:=eh) rfl rfl]
 have ek1:=fh (n + 4) t b (by omega)
 have ek2:=fh (n + 4) t (1 - b) (by omega)
 have el:=uR (n + 4) Rb (sortI (tb t b)) (sortI (tb t (1 - b))) (λs hs=>by have:=iq (hR s hs);omega) (by omega)
 have eq:=lS o t 0 Rb nd
 rw [(lU hb t).1,(lU hb t).2] at eq
 rw [<- eq] at el
 have hfl:=xa (c:=c) (t:=t)
 have hi:((t.length:Int) + b) % 2=if hat o t.length=true then 1 else 0:=by
  subst hb
  unfold hat
  cases o <;> simp <;> split <;> simp_all <;> omega
 exact qO (ae defs (n + 5)) (tbl c (sortT Rb) o) c b _ _ _ t (frl c t) (lft o 0 (sortT Rb) t) (hat o t.length) ek1 ek2 el (xb (n + 4) (tbl c (sortT Rb) o) t) (jO (n + 3) t ht _ (.inl rfl)) (xc (n + 4) c (sortT Rb) o t h0 h1) (pM (n + 4) c t h0 h1 ht) (jO (n + 3) (frl c t) (by omega) _ (.inr rfl)) (zY (n + 2) c (sortT Rb) o t) (uL (n + 1) c (sortT Rb) o t g) (jN n c (sortT Rb) o t g) (xM (n + 4) (lft o 0 (sortT Rb) t)) hi
theorem BS (cal:Cal) (fr:List Int) (x:Int) (hne:fr ≠ []):∃ h,h ∈ fr/\∀ ρ:Rho,(ρ[8]?).join=some (.val (ofL fr))->(ρ[6]?).join=some (.val (.int x))->ev cal (.idx (.bor 8) (.bin .mod (.bin .fdiv (.bor 6) (.cst (.int 3))) (.blt .len [(.bor 8)]))) ρ=some (.int h):=by
 have hp:0 < (fr.length:Int):=by
  have:=List.length_pos_iff.mpr hne
  omega
 have q0:0 <= x / 3 % (fr.length:Int):=Int.emod_nonneg _ (by omega)
 have q1:x / 3 % (fr.length:Int) < fr.length:=Int.emod_lt_of_pos _ hp
 have q2:(x / 3 % (fr.length:Int)).toNat < fr.length:=by omega
 refine ⟨fr[(x / 3 % (fr.length:Int)).toNat],List.getElem_mem q2,λρ r1 r2=>?_⟩
 have e1:ev cal (.bin .mod (.bin .fdiv (.bor 6) (.cst (.int 3))) (.blt .len [(.bor 8)])) ρ=some (.int (x / 3 % (fr.length:Int))):=by
  simp [ev,evs,r1,r2,hp,hne]
 rw [oj (x:=ofL fr) (by rw [ev,r1];rfl) e1]
 show (fC (fr.map PV.int).length _).bind (λj=>(fr.map PV.int)[j]?)=_
 rw [gX q0 (by rw [List.length_map];exact q1),Option.bind_some,List.getElem?_map,List.getElem?_eq_getElem q2]
 rfl
theorem uX (cal:Cal) (sc:MV) (c b x:Int) (Rb L:List (List Int)) (fs:List PV) (t t' fr:List Int) (lf f:Option MV) (w:Sc) (K1 K2:PV) (ek1:cal 14 [.brw (t.map .int),.val (.int b)]=some K1) (ek2:cal 14 [.brw (t.map .int),.val (.int (1 - b))]=some K2)
  (el:cal 15 [.val (.lst (Rb.map ofS)),.val K1,.val K2]=some (ofR L)) (ew:cal 16 [.val (ofR L)]=some w.pv)
  (ef:cal 17 [.val (.int c),.brw (t.map .int)]=some (ofL fr)) (hlt:t.length < 10000)
  (er:cal 18 [.brwO fs (t'.map .int),.val (.int c),.val (.lst (Rb.map ofS)),.brw (t'.map .int),.val (.int b)]=some (.bl true))
  (hc:((x % 3 == 0 || !di w.pv)=true/\((t=[]/\t'=[]/\cal 20 [.brwO fs [],.brw []]=some (.bl true)) \/ ∃ l,t=t' ++ [l]/\cal 20 [.brwO fs (t.map .int),.brw (t.map .int)]=none/\cal (20 + 6000) [.ownO true fs (t.map .int),.brw (t.map .int)]=some (.tup [.bl true,.lst (t'.map .int)]))) \/
   ((x % 3 == 0 || !di w.pv)=false/\∃ (hh:Int) (v:Sc),t'=t ++ [hh]/\(∀ ρ:Rho,(ρ[8]?).join=some (.val (ofL fr))->(ρ[6]?).join=some (.val (.int x))->ev cal (.idx (.bor 8) (.bin .mod (.bin .fdiv (.bor 6) (.cst (.int 3))) (.blt .len [(.bor 8)]))) ρ=some (.int hh))/\cal (28 + 3000) [.ownO true fs (t.map .int),.val (.int hh)]=some (.tup [v.pv,.lst (t'.map .int)]))) :
  ∃ f',exs cal iT [some sc,some (.val (.int c)),some (.val (.lst (Rb.map ofS))),some (.val (.int b)),some (.ownO false fs (t.map .int)),some (.own (t.map .int)),some (.val (.int x)),lf,f]
  =.next [some sc,some (.val (.int c)),some (.val (.lst (Rb.map ofS))),some (.val (.int b)),some (.ownO false fs (t'.map .int)),some (.own (t'.map .int)),some (.val (.int x)),some (.val (ofR L)),f']:=by
 have fin:∀ f',exs cal [.ite (.not (.call 18 [(.bor 4),(.bor 1),(.bor 2),(.bor 5),(.bor 3)])) [.ret (.cst (.bl false))] []] [some sc,some (.val (.int c)),some (.val (.lst (Rb.map ofS))),some (.val (.int b)),some (.ownO false fs (t'.map .int)),some (.own (t'.map .int)),some (.val (.int x)),some (.val (ofR L)),f']=.next [some sc,some (.val (.int c)),some (.val (.lst (Rb.map ofS))),some (.val (.int b)),some (.ownO false fs (t'.map .int)),some (.own (t'.map .int)),some (.val (.int x)),some (.val (ofR L)),f']:=λf' =>
  uK (by rw [dg (p:=false) (by simp [ev,evA,bu,er]),if_neg (by decide),exs])
 have ec:∀ f',ev cal (.or (.cmp .eq (.bin .mod (.bor 6) (.cst (.int 3))) (.cst (.int 0))) (.cmp .notN (.call 16 [(.bor 7)]) (.cst .non))) [some sc,some (.val (.int c)),some (.val (.lst (Rb.map ofS))),some (.val (.int b)),some (.ownO false fs (t.map .int)),some (.own (t.map .int)),some (.val (.int x)),some (.val (ofR L)),f']=some (.bl (x % 3 == 0 || !di w.pv)):=λf'=>by
  rw [xO (p:=x % 3 == 0) (q:=!di w.pv) (by simp [ev]) λ_=>by simp [ev,evA,ew]]
 rcases hc with ⟨hp,hc⟩|⟨hp,hh,v,rfl,ep,et⟩
 ·refine ⟨f,?_⟩
  refine uJ (v:=ofR L) (by simp [ev,evA,bu,ek1,ek2,el]) ?_
  simp only [bz,bx]
  refine oq ?_ (fin f)
  rw [dg (ec f),hp,if_pos rfl]
  refine uK ?_
  rcases hc with ⟨rfl,rfl,e⟩|⟨l,rfl,e1,e2⟩
  ·rw [ex]
   simp only [List.getElem?_cons_succ,List.getElem?_cons_zero,Option.join_some,List.map_nil,e]
   rfl
  ·rw [ex]
   simp only [List.getElem?_cons_succ,List.getElem?_cons_zero,Option.join_some,e1,e2]
   rw [if_pos trivial]
   simp [put]
 ·refine ⟨some (.val (ofL fr)),?_⟩
  refine uJ (v:=ofR L) (by simp [ev,evA,bu,ek1,ek2,el]) ?_
  simp only [bz,bx]
  refine oq ?_ (fin _)
  rw [dg (ec f),hp,if_neg (by decide)]
  refine uJ (v:=ofL fr) (by simp [ev,evA,bu,ef]) ?_
  simp only [bz,bx]
  refine oq (ρ':=[some sc,some (.val (.int c)),some (.val (.lst (Rb.map ofS))),some (.val (.int b)),some (.ownO false fs ((t ++ [hh]).map .int)),some (.own (t.map .int)),some (.val (.int x)),some (.val (ofR L)),some (.val (ofL fr))]) ?_ ?_
  ·have p1:=ep [some sc,some (.val (.int c)),some (.val (.lst (Rb.map ofS))),some (.val (.int b)),some (.ownO false fs (t.map .int)),some (.own (t.map .int)),some (.val (.int x)),some (.val (ofR L)),some (.val (ofL fr))] rfl rfl
   rw [ex]
   simp only [evs,p1,List.getElem?_cons_succ,List.getElem?_cons_zero,Option.join_some,Option.bind_some,Option.map_some,List.map_cons,List.map_nil,et,BQ]
   rfl
  refine uK ?_
  rw [ex,ep _ rfl rfl]
  simp [hlt]
theorem m6 (n:Nat) (sc:MV) (c:Int) (Rb:List (List Int)) (o:Bool) (b:Int) (hb:b=if o=true then 1 else 0) (h0:0 <= c) (h1:c <= 60) (hR:∀ s ∈ Rb,iF s/\∀ x ∈ s,0 <= x/\x < c) (hl:Rb.length <= 8) (g:dU (sortT Rb)) :
  ∀ (cs:List Int) (t:List Int) (k lf f:Option MV),t.Nodup->t.length + cs.length <= 60 ->
  ∃ ρ',bU (λx ρ'=>exs (ae defs (n + 7)) iT (put ρ' 6 (.val x))) (cs.map .int) [some sc,some (.val (.int c)),some (.val (.lst (Rb.map ofS))),some (.val (.int b)),some (.ownO false (tbl c (sortT Rb) o) (t.map .int)),some (.own (t.map .int)),k,lf,f]=.next ρ'
 | [],t,k,lf,f,_,_=>⟨_,rfl⟩
 | x::cs,t,k,lf,f,nd,hlen=>by
  rw [List.length_cons] at hlen
  rw [List.map_cons]
  have ek1:=fh (n + 6) t b (by omega)
  have ek2:=fh (n + 6) t (1 - b) (by omega)
  have el:=uR (n + 6) Rb (sortI (tb t b)) (sortI (tb t (1 - b))) (λs hs=>by have:=iq (hR s hs).1;omega) (by omega)
  have eq:=lS o t 0 Rb nd
  rw [(lU hb t).1,(lU hb t).2] at eq
  rw [<- eq] at el
  have ew:=xM (n + 6) (lft o 0 (sortT Rb) t)
  have ef:=pM (n + 6) c t h0 h1 (by omega)
  have go:∀ t':List Int,t'.Nodup->t'.length <= t.length + 1 ->
    ((x % 3 == 0 || !di (cW (lft o 0 (sortT Rb) t)).pv)=true/\((t=[]/\t'=[]/\ae defs (n + 7) 20 [.brwO (tbl c (sortT Rb) o) [],.brw []]=some (.bl true)) \/ ∃ l,t=t' ++ [l]/\ae defs (n + 7) 20 [.brwO (tbl c (sortT Rb) o) (t.map .int),.brw (t.map .int)]=none/\ae defs (n + 7) (20 + 6000) [.ownO true (tbl c (sortT Rb) o) (t.map .int),.brw (t.map .int)]=some (.tup [.bl true,.lst (t'.map .int)]))) \/
    ((x % 3 == 0 || !di (cW (lft o 0 (sortT Rb) t)).pv)=false/\∃ (hh:Int) (v:Sc),t'=t ++ [hh]/\(∀ ρ:Rho,(ρ[8]?).join=some (.val (ofL (frl c t)))->(ρ[6]?).join=some (.val (.int x))->ev (ae defs (n + 7)) (.idx (.bor 8) (.bin .mod (.bin .fdiv (.bor 6) (.cst (.int 3))) (.blt .len [(.bor 8)]))) ρ=some (.int hh))/\ae defs (n + 7) (28 + 3000) [.ownO true (tbl c (sortT Rb) o) (t.map .int),.val (.int hh)]=some (.tup [v.pv,.lst (t'.map .int)])) ->
    ∃ ρ',bU (λx ρ'=>exs (ae defs (n + 7)) iT (put ρ' 6 (.val x))) (.int x::cs.map .int) [some sc,some (.val (.int c)),some (.val (.lst (Rb.map ofS))),some (.val (.int b)),some (.ownO false (tbl c (sortT Rb) o) (t.map .int)),some (.own (t.map .int)),k,lf,f]=.next ρ':=λt' nd' hl' hc=>by
   have er:=pO (n + 1) c Rb o t' b hb h0 h1 (λs hs=>(hR s hs).1) hl g nd' (by omega)
   obtain ⟨f',e⟩:=uX (ae defs (n + 7)) sc c b x Rb (lft o 0 (sortT Rb) t) (tbl c (sortT Rb) o) t t' (frl c t) lf f (cW (lft o 0 (sortT Rb) t)) _ _ ek1 ek2 el ew ef (by omega) er hc
   obtain ⟨ρ',q⟩:=m6 n sc c Rb o b hb h0 h1 hR hl g cs t' (some (.val (.int x))) (some (.val (ofR (lft o 0 (sortT Rb) t)))) f' nd' (by omega)
   refine ⟨ρ',?_⟩
   rw [fg (ρ1:=[some sc,some (.val (.int c)),some (.val (.lst (Rb.map ofS))),some (.val (.int b)),some (.ownO false (tbl c (sortT Rb) o) (t'.map .int)),some (.own (t'.map .int)),some (.val (.int x)),some (.val (ofR (lft o 0 (sortT Rb) t))),f'])]
   ·exact q
   ·simp only [bz,bx]
    exact e
  cases hp:(x % 3 == 0 || !di (cW (lft o 0 (sortT Rb) t)).pv) with
  | true =>
   by_cases ht:t=[]
   ·exact go [] .nil (by simp) (.inl ⟨hp,.inl ⟨ht,rfl,qN (n + 4) _⟩⟩)
   ·have e:=(List.dropLast_concat_getLast ht).symm
    have e2:=uW (n + 5) (tbl c (sortT Rb) o) t.dropLast (t.getLast ht)
    rw [<- e] at e2
    exact go t.dropLast (nd.sublist (List.dropLast_sublist t)) (by rw [List.length_dropLast];omega) (.inl ⟨hp,.inr ⟨t.getLast ht,e,xh (n + 6) _ t ht,e2⟩⟩)
  | false =>
   have hw:cW (lft o 0 (sortT Rb) t)=.non:=by
    rw [Bool.or_eq_false_iff] at hp
    rcases kW (lft o 0 (sortT Rb) t) with z|z|z
    ·rw [z] at hp;cases hp.2
    ·rw [z] at hp;cases hp.2
    ·exact z
   obtain ⟨w1,w2⟩:=uT hw
   have hne:frl c t ≠ []:=by
    cases e:lft o 0 (sortT Rb) t with
    | nil=>exact absurd e w2
    | cons s L =>
     cases s with
     | nil=>rw [e] at w1;exact absurd (List.mem_cons_self) w1
     | cons y s =>
      have ms:(y::s) ∈ lft o 0 (sortT Rb) t:=by rw [e];exact .head _
      refine List.ne_nil_of_mem (a:=y) (pL.mpr ⟨pJ o (P:=λy=>0 <= y/\y < c) t 0 _ (λts hts z hz=>(hR ts (dF.mp hts)).2 z hz) _ ms y (.head _),λhy=>?_⟩)
      exact mY (R:=[]) o t 0 _ y (.inr hy) _ ms (.head _)
   obtain ⟨hh,mh,ep⟩:=BS (ae defs (n + 7)) (frl c t) x hne
   obtain ⟨⟨m0,m1⟩,m2⟩:=pL.mp mh
   have et:=zU (n + 1) c (sortT Rb) o t hh g hw m0 m1 m2 (by omega)
   refine go (t ++ [hh]) ?_ (by rw [List.length_append,List.length_singleton];omega) (.inr ⟨hp,hh,_,rfl,ep,et⟩)
   rw [List.nodup_append]
   exact ⟨nd,by simp,λa ha y hy z=>m2 (by rw [List.mem_singleton.mp hy] at z;exact z ▸ ha)⟩
theorem uY (ns:List Int) (hl:ns.length <= 63):ae defs 40 21 [.brw (ns.map .int)]=some (.bl true):=by
 rw [ax (d:=pF) rfl rfl]
 have ec0:=og 38 (.brw (ns.map .int)) ns 0 rfl (by decide)
 have ec2:=og 38 (.brw (ns.map .int)) ns 2 rfl (by decide)
 have q0:0 <= cellOf ns 0 % 61:=Int.emod_nonneg _ (by decide)
 have q1:cellOf ns 0 % 61 < 61:=Int.emod_lt_of_pos _ (by decide)
 have b0:0 <= cellOf ns 2 % 2:=Int.emod_nonneg _ (by decide)
 have b1:cellOf ns 2 % 2 < 2:=Int.emod_lt_of_pos _ (by decide)
 generalize cellOf ns 0=c0 at ec0 q0 q1
 generalize cellOf ns 2=c2 at ec2 b0 b1
 obtain ⟨Rb,er,hR,hRl⟩:=qM 36 ns (c0 % 61) q0 (by omega)
 have g:dU (sortT Rb):=⟨λts hts=>(hR ts (dF.mp hts)).1,sortT_rises _,by rw [sortT_len];omega⟩
 obtain ⟨o,ho,hho⟩:∃ o:Bool,(c2 % 2=if o=true then 1 else 0)/\(fC 2 (c2 % 2)).bind (λj=>([PV.str "weaver",PV.str "moth"]:List PV)[j]?)=some (.str (cV o)):=by
  rcases (by omega:c2 % 2=0 \/ c2 % 2=1) with e|e <;> rw [e]
  ·exact ⟨false,rfl,rfl⟩
  ·exact ⟨true,rfl,rfl⟩
 have hcut:(gY ns (some 3) (some 33)).length <= 30:=by have:=mW ns (a:=3) (b:=33) (by decide) (by decide);omega
 obtain ⟨ρ',el⟩:=m6 32 (.brw (ns.map .int)) (c0 % 61) Rb o (c2 % 2) ho q0 (by omega) hR hRl g (gY ns (some 3) (some 33)) [] none none none .nil (by simp;omega)
 have eR:=pO 33 (c0 % 61) Rb o [] (c2 % 2) ho q0 (by omega) (λs hs=>(hR s hs).1) hRl g .nil (by simp)
 have hst:eT (Rb.map ofS)=some (.lst ((sortT Rb).map ofS)):=ip (by omega)
 generalize hL:sortT Rb=L0 at el eR hst
 have hidx:∀ ρ:Rho,(ρ[3]?).join=some (.val (.int (c2 % 2)))->ev (ae defs 39) (.idx (.lst [(.cst (.str "weaver")),(.cst (.str "moth"))]) (.bor 3)) ρ=some (.str (cV o)):=λρ q=>by
  rw [oj (x:=.lst [.str "weaver",.str "moth"]) (y:=.int (c2 % 2)) (by simp [ev,evs]) (by rw [ev,q];rfl),xK]
  exact hho
 have h4:ae defs 39 4000 [] ≠ none:=by
  rw [ae]
  decide
 show cy (exs _ [.set 1 _,.set 2 _,.set 3 _,.mkO 4 _,.setOwn 5 _,.ite _ _ _,.for1 _ _ _ _,.ret _] (some _::[none,none,none,none,none,none,none,none]))=_
 refine jM (v:=.int (c0 % 61)) (by simp [ev,evA,ec0]) ?_
 simp only [bz,bx]
 refine jM (v:=.lst (Rb.map ofS)) (by simp [ev,evA,er]) ?_
 simp only [bz,bx]
 refine jM (v:=.int (c2 % 2)) (by simp [ev,evA,ec2]) ?_
 simp only [bz,bx]
 refine de (ρ':=[some (.brw (ns.map .int)),some (.val (.int (c0 % 61))),some (.val (.lst (Rb.map ofS))),some (.val (.int (c2 % 2))),some (.ownO false (tbl (c0 % 61) L0 o) []),none,none,none,none]) ?_ ?_
 ·rw [ex,show evs (ae defs 39) [(.tup [(.var 1),(.blt .tupleOf [(.blt .sorted [(.bor 2)])])]),(.idx (.lst [(.cst (.str "weaver")),(.cst (.str "moth"))]) (.bor 3))] [some (.brw (ns.map .int)),some (.val (.int (c0 % 61))),some (.val (.lst (Rb.map ofS))),some (.val (.int (c2 % 2))),none,none,none,none,none]=some [.tup [.int (c0 % 61),ofR L0],.str (cV o)] from by
   rw [evs,evs,hidx _ rfl]
   simp [ev,evs,hst]]
  show (if sr _ 4=true/\_ then _ else _)=_
  rw [if_pos ⟨rfl,h4⟩]
  rfl
 refine de (ρ':=[some (.brw (ns.map .int)),some (.val (.int (c0 % 61))),some (.val (.lst (Rb.map ofS))),some (.val (.int (c2 % 2))),some (.ownO false (tbl (c0 % 61) L0 o) []),some (.own []),none,none,none]) (by simp [ex,ev,evs]) ?_
 rw [List.map_nil] at eR
 refine de (by rw [dg (p:=false) (by simp [ev,evA,bu,eR]),if_neg (by decide),exs]) ?_
 refine de (ρ':=ρ') ?_ (iG (by rw [ev]))
 rw [lQ (xs:=(gY ns (some 3) (some 33)).map .int) (by simp [evs,ev,bnd])]
 rw [List.map_nil] at el
 rw [show ∀ ρ:Rho,bv [(.slice (.bor 0) (.cst (.int 3)) (.cst (.int 33)))] ρ=ρ from λ_=>rfl,el]
 rfl
noncomputable def top (i:Nat):Stmt:=PySem.Challenge.pw_mothloom_k46_deeds_taken_back.main.body.getD i (.Pass ⟨0,0,0,0⟩)
noncomputable def uZ:Stmt:=dj (top 17) 0
theorem scI:iM ["self","loom","first"] ["self","loom","first"] (aA uZ):=⟨rfl,rfl,rfl,by decide +kernel,rfl,by decide +kernel,by decide +kernel⟩
theorem xi {P:Program}{w:World}{K:PySem.W.Frag}{mg:Str->Option Value}{base:Heap}{f C:Addr}{fd:FuncData} (D:FnD K "__init__" "Table.__init__" uZ f fd) (c:pC K C):cf P w K mg base CX0 1 f fd ["self","loom","first"] (spI K C):=by
 obtain ⟨c0,d0,k0,o0,m0,a0,cdv,t1,a1,sl,lk,hc,rfl⟩:=D.it
 have n0:=c.nf _ (show ("hole_count":Str) ∈ gd by simp [gd])
 have n1:=c.nf _ (show ("ribbons":Str) ∈ gd by simp [gd])
 have n2:=c.nf _ (show ("opener":Str) ∈ gd by simp [gd])
 refine j4 lk hc scI (λvs H Q E h=>?_) (λA outer s H vs Q E hr h=>?_)
 ·obtain ⟨x,dx,la,u,r,o,rfl,_⟩:=h
  rfl
 ·obtain ⟨x,dx,la,u,r,o,rfl,hx,ht,k⟩:=h
  refine ⟨_,dG (k9 (pv 0) (rH nA (pv 1) m7 (λ_ _=>rfl)) rfl) (dG (k9 (pv 0) (rH nA (pv 1) m7 (λ_ _=>rfl)) rfl) (dG (k9 (pv 0) (pv 2) rfl) (kZ (k9 (pv 0) (nu cE) rfl)))),?_⟩
  have s1:SqT K (upd H x (.ins C dx (dH "hole_count" u []))) la [u,r]:=wR ht hx
  refine ⟨_,rfl,la,_,0,u,rfl,rfl,ht,rfl,_,rfl,x,C,dx,[],rfl,hx,c.cls,n0,(by show 0 < 1000;decide),?_⟩
  refine ⟨_,rfl,la,_,1,r,rfl,rfl,s1,rfl,_,rfl,x,C,dx,_,rfl,av,c.cls,n1,(by show 1 < 1000;decide),?_⟩
  refine ⟨_,rfl,_,rfl,x,C,dx,_,rfl,av,c.cls,n2,Nat.lt_of_le_of_lt (gW (gW (Nat.le_refl 0))) (by decide),?_⟩
  refine ⟨Nat.zero_le _,λl hl=>?_⟩
  have nx:l ≠ x:=λz=>by rw [z,av] at hl;cases hl
  have nl:H l=none:=by rw [ak nx,ak nx,ak nx] at hl;exact hl
  refine ⟨_,rfl,x,C,dx,_,rfl,(by rw [ak (Ne.symm nx)];exact av),c.cls,c.nt,Nat.lt_of_le_of_lt (gW (gW (gW (Nat.le_refl 0)))) (by decide),?_⟩
  refine k l _ nl av (by rw [ak nx,av]) λb o nb eb=>?_
  rw [ak nb,ak (aX eb nl),ak nb,ak nb,ak nb]
  exact eb
theorem zZ {l:PySem.W.OpenLaw}{w:World}{K:PySem.W.Frag}{h:Heap}{mg:Str->Option Value}{fa:Addr} (X:K.In h) (G:h.Ns mainGlobals mg) (hfa:mg "law"=some (.ref fa))
  {C fI:Addr}{fdI:FuncData} (aC:PySem.W.nsIn K mainGlobals "Table"=some (some (.ref C))) (pg:PySem.W.plainGet K C Str.empty=true) (hd:PySem.W.hasDictIn K C=true) (po:PySem.W.plainOver K C=true) (sa:PySem.W.findIn K (.ref C) "__setattr__"=some (some (.builtin "object.__setattr__"))) (mk:PySem.W.makesIn K C=true) (kc:PySem.W.keepIn K (.ref C)=true)
  (n0:PySem.W.findIn K (.ref C) "hole_count"=some none) (n1:PySem.W.findIn K (.ref C) "ribbons"=some none) (n2:PySem.W.findIn K (.ref C) "opener"=some none) (n3:PySem.W.findIn K (.ref C) "taken"=some none)
  (ai:PySem.W.findIn K (.ref C) "__init__"=some (some (.ref fI))) (ii:PySem.W.isFn K (.ref fI)=true) (DI:FnD K "__init__" "Table.__init__" uZ fI fdI) (bI:aN K fdI ["self","loom","first"] []) (bL:∃ vs,aN K fdI ["self","loom","first"] vs/\ar ([Sc.str "weaver"].map Sc.v) vs)
  (h0:HD K "is_number_below" (top 7) bq) (h1:HD K "strip_without" (top 8) cq) (h2:HD K "knotted" (top 9) fT) (h3:HD K "bitten" (top 10) gZ) (h4:HD K "is_whole" (top 11) eZ) (h5:HD K "is_bare" (top 12) eN) (h6:HD K "other_hand" (top 14) du) (h7:HD K "behind" (top 15) fK) (h8:HD K "_law_cell" (top 19) e_) (h9:HD K "_law_mixed" (top 20) d8) (h10:HD K "_law_strip" (top 21) d9) (h11:HD K "_law_whole" (top 22) d_) (h12:HD K "_law_numbers" (top 23) eD) (h13:HD K "_law_ribbons" (top 24) eE) (h14:HD K "_law_taken_by" (top 25) dW) (h15:HD K "_law_left" (top 26) fb) (h16:HD K "_law_won" (top 27) eO) (h17:HD K "_law_free" (top 28) gm) (h18:HD K "_law_right" (top 29) eh) (h19:HD K "_law_kinds" (top 30) fL) (h20:HD K "_law_back" (top 31) dX) (h21:HD K "law" (top 32) pF λfd=>∀ (s:Shared) (v:Value),BindsTo s fd ⟨[v],[]⟩ [("script",v)]) (h22:HM K C "hand_at" "Table.hand_at" (dj (top 17) 1) bW) (h23:HM K C "turn" "Table.turn" (dj (top 17) 3) dw) (h24:HM K C "deeds" "Table.deeds" (dj (top 17) 4) c7) (h25:HM K C "free" "Table.free" (dj (top 17) 7) ff) (h26:HM K C "rest" "Table.rest" (dj (top 17) 8) dz) (h27:HM K C "winner" "Table.winner" (dj (top 17) 9) bA) (h28:HM K C "take" "Table.take" (dj (top 17) 10) dA) (h29:HM K C "back" "Table.back" (dj (top 17) 11) dB) (er:mH K ["LoomError","NoHole","Taken","Over","NoDeed"]=true)
  (zs:∀ x ∈ fH,PySem.W.nsIn K mainGlobals x=some none)
 :∃ fd:FuncData,(∀ (s:Shared) (v:Value),BindsTo s fd ⟨[v],[]⟩ [("script",v)])/\∀ base:Heap,K.In base->base.Ns mainGlobals mg->cf l.prog w K mg base CX0 40 fa fd ["script"] (spM K (ae defs 40) 21):=by
 obtain ⟨_,e0,D0,q0⟩:=bf (T:=tab) X G h0 (by kernel_rfl)
 obtain ⟨_,e1,D1,q1⟩:=bf (T:=tab) X G h1 (by kernel_rfl)
 obtain ⟨_,e2,D2,q2⟩:=bf (T:=tab) X G h2 (by kernel_rfl)
 obtain ⟨_,e3,D3,q3⟩:=bf (T:=tab) X G h3 (by kernel_rfl)
 obtain ⟨_,e4,D4,q4⟩:=bf (T:=tab) X G h4 (by kernel_rfl)
 obtain ⟨_,e5,D5,q5⟩:=bf (T:=tab) X G h5 (by kernel_rfl)
 obtain ⟨_,e6,D6,q6⟩:=bf (T:=tab) X G h6 (by kernel_rfl)
 obtain ⟨_,e7,D7,q7⟩:=bf (T:=tab) X G h7 (by kernel_rfl)
 obtain ⟨_,e8,D8,q8⟩:=bf (T:=tab) X G h8 (by kernel_rfl)
 obtain ⟨_,e9,D9,q9⟩:=bf (T:=tab) X G h9 (by kernel_rfl)
 obtain ⟨_,e10,D10,q10⟩:=bf (T:=tab) X G h10 (by kernel_rfl)
 obtain ⟨_,e11,D11,q11⟩:=bf (T:=tab) X G h11 (by kernel_rfl)
 obtain ⟨_,e12,D12,q12⟩:=bf (T:=tab) X G h12 (by kernel_rfl)
 obtain ⟨_,e13,D13,q13⟩:=bf (T:=tab) X G h13 (by kernel_rfl)
 obtain ⟨_,e14,D14,q14⟩:=bf (T:=tab) X G h14 (by kernel_rfl)
 obtain ⟨_,e15,D15,q15⟩:=bf (T:=tab) X G h15 (by kernel_rfl)
 obtain ⟨_,e16,D16,q16⟩:=bf (T:=tab) X G h16 (by kernel_rfl)
 obtain ⟨_,e17,D17,q17⟩:=bf (T:=tab) X G h17 (by kernel_rfl)
 obtain ⟨_,e18,D18,q18⟩:=bf (T:=tab) X G h18 (by kernel_rfl)
 obtain ⟨_,e19,D19,q19⟩:=bf (T:=tab) X G h19 (by kernel_rfl)
 obtain ⟨_,e20,D20,q20⟩:=bf (T:=tab) X G h20 (by kernel_rfl)
 obtain ⟨_,e21,D21,q21⟩:=bf (T:=tab) X G h21 (by kernel_rfl)
 obtain ⟨_,e22,D22⟩:=d7 (T:=tab) (mg:=mg) aC h22 (by kernel_rfl)
 obtain ⟨_,e23,D23⟩:=d7 (T:=tab) (mg:=mg) aC h23 (by kernel_rfl)
 obtain ⟨_,e24,D24⟩:=d7 (T:=tab) (mg:=mg) aC h24 (by kernel_rfl)
 obtain ⟨_,e25,D25⟩:=d7 (T:=tab) (mg:=mg) aC h25 (by kernel_rfl)
 obtain ⟨_,e26,D26⟩:=d7 (T:=tab) (mg:=mg) aC h26 (by kernel_rfl)
 obtain ⟨_,e27,D27⟩:=d7 (T:=tab) (mg:=mg) aC h27 (by kernel_rfl)
 obtain ⟨_,e28,D28⟩:=d7 (T:=tab) (mg:=mg) aC h28 (by kernel_rfl)
 obtain ⟨_,e29,D29⟩:=d7 (T:=tab) (mg:=mg) aC h29 (by kernel_rfl)
 have nm:=(D21.named.resolve_right λ⟨_,z,_⟩=>by cases z).2
 cases hfa.symm.trans nm
 have pr:zB tab K mg defs:=by
  refine ⟨rfl,rfl,λC' h'=>zE aC ⟨⟨pg,hd,po,sa⟩,λx hx=>xG n0 n1 n2 x hx,n3⟩ h',⟨C,aC,PySem.W.mg_of X G aC,fI,fdI,_,⟨mk,ai,ii,kc⟩,bI,λP w base=>xi DI ⟨⟨pg,hd,po,sa⟩,λx hx=>xG n0 n1 n2 x hx,n3⟩,bL⟩,⟨⟨_,_,_,D0,_,D0.binds,.nil⟩,⟨_,_,_,D1,_,D1.binds,.nil⟩,⟨_,_,_,D2,_,D2.binds,.nil⟩,⟨_,_,_,D3,_,D3.binds,.nil⟩,⟨_,_,_,D4,_,D4.binds,.nil⟩,⟨_,_,_,D5,_,D5.binds,.nil⟩,⟨_,_,_,D6,_,D6.binds,.nil⟩,⟨_,_,_,D7,_,D7.binds,.nil⟩,⟨_,_,_,D8,_,D8.binds,.nil⟩,⟨_,_,_,D9,_,D9.binds,.nil⟩,⟨_,_,_,D10,_,D10.binds,.nil⟩,⟨_,_,_,D11,_,D11.binds,.nil⟩,⟨_,_,_,D12,_,D12.binds,.nil⟩,⟨_,_,_,D13,_,D13.binds,.nil⟩,⟨_,_,_,D14,_,D14.binds,.nil⟩,⟨_,_,_,D15,_,D15.binds,.nil⟩,⟨_,_,_,D16,_,D16.binds,.nil⟩,⟨_,_,_,D17,_,D17.binds,.nil⟩,⟨_,_,_,D18,_,D18.binds,.nil⟩,⟨_,_,_,D19,_,D19.binds,.nil⟩,⟨_,_,_,D20,_,D20.binds,.nil⟩,⟨_,_,_,D21,_,D21.binds,.nil⟩,⟨_,_,_,D22,_,D22.binds,.nil⟩,⟨_,_,_,D23,_,D23.binds,.nil⟩,⟨_,_,_,D24,_,D24.binds,.nil⟩,⟨_,_,_,D25,_,D25.binds,.nil⟩,⟨_,_,_,D26,_,D26.binds,.nil⟩,⟨_,_,_,D27,_,D27.binds,.nil⟩,⟨_,_,_,D28,_,D28.binds,.nil⟩,⟨_,_,_,D29,_,D29.binds,.nil⟩,trivial⟩,λx hx=>PySem.W.mg_none_of X G (zs x hx),λp hp=>?_,er,λc u e=>zC X G e⟩
  ·simp [tab] at hp
 exact ⟨e21,q21,λbase _ _=>Bx (by decide) pr 40 21 pF rfl _ _ _ D21⟩
theorem C4 {l:PySem.W.OpenLaw}{q:Program}{loose:List Str}{XP:(Str->Option Value)->Heap->Prop}{YP:World->Heap->Prop}{d:DefRec}{K:Params->PySem.W.Frag} (hn:l.most=some 63) (hdf:d.params.defaults=[])
  (hY:∀ (w:World) (h:Heap),YP w h->(K w.params).In h)
  (F:∀ (w:World) (mg:Str->Option Value) (fa:Addr) (h:Heap),(K w.params).In h->h.Ns mainGlobals mg->mg d.name=some (.ref fa) ->
   ∃ fd:FuncData,(∀ (s:Shared) (u:Value),BindsTo s fd ⟨[u],[]⟩ [("script",u)])/\∀ base:Heap,(K w.params).In base->base.Ns mainGlobals mg->cf l.prog w (K w.params) mg base CX0 40 fa fd ["script"] (spM (K w.params) (ae defs 40) 21)) :
  PySem.W.WalkO q loose XP YP l.row.toRowW d [] (λf vs=>PySem.call f vs) :=
 L2.vB (n:=63) (k:=40) (x:="script") (CX:=λ_=>CX0) (sp:=λw=>spM (K w.params) (ae defs 40) 21) hn (by decide) hdf ⟨rfl,by decide,by decide⟩ hY F (λ_ _ a ns hl _ hS=>zF (uY ns hl) hS) λ_ _ _ _ _ z=>z
end My
open PySem PySem.W PyProof.Rows
set_option maxRecDepth 100000 in
set_option maxHeartbeats 0 in
theorem PySem.Challenge.cw_mothloom_k46_deeds_taken_back_holds : PySem.Challenge.rw_mothloom_k46_deeds_taken_back.Holds := by
 w_on;o_law;k_head;(case hw=>w_witness2)
 k_fill
 refine My.C4 (l:=PySem.Challenge.rw_mothloom_k46_deeds_taken_back) rfl rfl (λw h Y=>PySem.W.kIn_of Y) ?F
 case F =>
  intro w mg fa h KX G hmg
  refine' My.zZ KX G hmg ?aC ?pg ?hd ?po ?sa ?mk ?kc ?n0 ?n1 ?n2 ?n3 ?ai ?ii ?DI ?bI ?bL ?h0 ?h1 ?h2 ?h3 ?h4 ?h5 ?h6 ?h7 ?h8 ?h9 ?h10 ?h11 ?h12 ?h13 ?h14 ?h15 ?h16 ?h17 ?h18 ?h19 ?h20 ?h21 ?h22 ?h23 ?h24 ?h25 ?h26 ?h27 ?h28 ?h29 ?er ?zs
  (case er=>kernel_rfl)
  (case aC=>k_is)
  (case pg=>k_is)
  (case hd=>k_is)
  (case po=>k_is)
  (case sa=>k_is)
  (case mk=>k_is)
  (case kc=>k_is)
  (case n0=>k_is)
  (case n1=>k_is)
  (case n2=>k_is)
  (case n3=>k_is)
  (case ai=>k_is)
  (case ii=>k_is)
  (case DI=>refine' .mkd ?kl ?kc ?kk;(case kl=>k_is);(case kc=>k_is);(case kk=>k_is))
  (case bI=>refine' MM.n8 rfl ?kx ?ky;(case kx=>k_is);(case ky=>exact λus hl=>match us,hl with|[_,_,_],_=>⟨_,rfl,rfl⟩))
  (case bL=>refine' MM.wN rfl ?ku ?kw;(case ku=>k_is);(case kw=>exact λus hl=>match us,hl with|[_,_],_=>⟨_,rfl,rfl⟩))
  (case h0|h1|h2|h3|h8|h9|h12|h13|h14|h17|h20=>refine' ⟨rfl,_,_,?ka,.mk' (d0:=.none) ?kl ?kc ?kk,MM.bn2 λ_ _=>rfl,trivial⟩;(case ka=>k_is);(case kl=>k_is);(case kc=>k_is);(case kk=>k_is))
  (case h4|h5|h6|h11|h16|h19=>refine' ⟨rfl,_,_,?ka,.mk' (d0:=.none) ?kl ?kc ?kk,MM.bn1 λ_=>rfl,trivial⟩;(case ka=>k_is);(case kl=>k_is);(case kc=>k_is);(case kk=>k_is))
  (case h7|h10|h15=>refine' ⟨rfl,_,_,?ka,.mk' (d0:=.none) ?kl ?kc ?kk,MM.bn3 λ_ _ _=>rfl,trivial⟩;(case ka=>k_is);(case kl=>k_is);(case kc=>k_is);(case kk=>k_is))
  (case h18=>refine' ⟨rfl,_,_,?ka,.mk' (d0:=.none) ?kl ?kc ?kk,MM.bn5 λ_ _ _ _ _=>rfl,trivial⟩;(case ka=>k_is);(case kl=>k_is);(case kc=>k_is);(case kk=>k_is))
  (case h21=>refine' ⟨rfl,_,_,?ka,.mk' (d0:=.none) ?kl ?kc ?kk,MM.bn1 λ_=>rfl,λs v=>.of_eq rfl⟩;(case ka=>k_is);(case kl=>k_is);(case kc=>k_is);(case kk=>k_is))
  (case h22=>refine' ⟨rfl,rfl,_,_,⟨?ka,?ki,?ku⟩,.mk' (d0:=.none) ?kl ?kc ?kk,MM.bn2 λ_ _=>rfl⟩;(case ka=>k_is);(case ki=>k_is);(case ku=>k_is);(case kl=>k_is);(case kc=>k_is);(case kk=>k_is))
  (case h23=>refine' ⟨rfl,rfl,_,_,⟨?ka,?ki,?ku⟩,.mk' (d0:=.none) ?kl ?kc ?kk,MM.bn1 λ_=>rfl⟩;(case ka=>k_is);(case ki=>k_is);(case ku=>k_is);(case kl=>k_is);(case kc=>k_is);(case kk=>k_is))
  (case h24=>refine' ⟨rfl,rfl,_,_,⟨?ka,?ki,?ku⟩,.mk' (d0:=.none) ?kl ?kc ?kk,MM.bn1 λ_=>rfl⟩;(case ka=>k_is);(case ki=>k_is);(case ku=>k_is);(case kl=>k_is);(case kc=>k_is);(case kk=>k_is))
  (case h25=>refine' ⟨rfl,rfl,_,_,⟨?ka,?ki,?ku⟩,.mk' (d0:=.none) ?kl ?kc ?kk,MM.bn1 λ_=>rfl⟩;(case ka=>k_is);(case ki=>k_is);(case ku=>k_is);(case kl=>k_is);(case kc=>k_is);(case kk=>k_is))
  (case h26=>refine' ⟨rfl,rfl,_,_,⟨?ka,?ki,?ku⟩,.mk' (d0:=.none) ?kl ?kc ?kk,MM.bn1 λ_=>rfl⟩;(case ka=>k_is);(case ki=>k_is);(case ku=>k_is);(case kl=>k_is);(case kc=>k_is);(case kk=>k_is))
  (case h27=>refine' ⟨rfl,rfl,_,_,⟨?ka,?ki,?ku⟩,.mk' (d0:=.none) ?kl ?kc ?kk,MM.bn1 λ_=>rfl⟩;(case ka=>k_is);(case ki=>k_is);(case ku=>k_is);(case kl=>k_is);(case kc=>k_is);(case kk=>k_is))
  (case h28=>refine' ⟨rfl,rfl,_,_,⟨?ka,?ki,?ku⟩,.mk' (d0:=.none) ?kl ?kc ?kk,MM.bn2 λ_ _=>rfl⟩;(case ka=>k_is);(case ki=>k_is);(case ku=>k_is);(case kl=>k_is);(case kc=>k_is);(case kk=>k_is))
  (case h29=>refine' ⟨rfl,rfl,_,_,⟨?ka,?ki,?ku⟩,.mk' (d0:=.none) ?kl ?kc ?kk,MM.bn1 λ_=>rfl⟩;(case ka=>k_is);(case ki=>k_is);(case ku=>k_is);(case kl=>k_is);(case kc=>k_is);(case kk=>k_is))
  (case zs=>intro x hx;simp only [MM.fH,List.mem_cons,List.not_mem_nil,or_false] at hx;rcases hx with rfl|rfl|rfl|rfl|rfl|rfl|rfl|rfl|rfl|rfl|rfl|rfl|rfl|rfl|rfl|rfl|rfl <;> k_is)
