import PyProof.Rows.All
import Wide.All
import OpenK.AllK
import Wide.FinOn
import Lean
import PyProof.EqAt
import PyProof.EqKinds
import PyProof.TupleCall
import PySem.Challenge.RW_mothloom_k65_pages_written
set_option Elab.async false
set_option linter.all false
set_option maxRecDepth 100000
set_option genSizeOf false
set_option backward.eqns.nonrecursive false
set_option bootstrap.genMatcherCode false
namespace L2
open PySem PySem.Spec PyProof.Rows
noncomputable abbrev Key:=Sum Int Str
noncomputable def kP:Key->Value->Bool
 | .inl k,v=>Value.isInt k v
 | .inr x,v=>Value.isStrOf x v
noncomputable def Cm (w:World):Key->Int
 | .inl k=>hashInt k
 | .inr x=>hashStr w x
theorem bv:∀ {k:Key}{v:Value},kP k v=true->(∃ i t,k=Sum.inl i/\v=Value.int i t) \/ (∃ x t,k=Sum.inr x/\v=Value.str x t)
 | .inl i,v,h=>by
  obtain ⟨t,e⟩:=Value.isInt_shape (k:=i) (v:=v) h
  exact .inl ⟨i,t,rfl,e⟩
 | .inr x,v,h=>by
  obtain ⟨t,e⟩:=Value.isStrOf_shape (x:=x) (v:=v) h
  exact .inr ⟨x,t,rfl,e⟩
theorem qV (i:Int) (t:Tok):kP (.inl i) (.int i t)=true:=by simp [kP,Value.isInt]
theorem qW (x:Str) (t:Tok):kP (.inr x) (.str x t)=true:=by simp [kP,Value.isStrOf]
theorem yc (a b:Int):decide ((Sum.inl a:Key)=Sum.inl b)=(a == b):=by
 by_cases e:a=b
 ·subst e;simp
 ·have h:¬ (Sum.inl a:Key)=Sum.inl b:=λq=>e (Sum.inl.inj q)
  rw [decide_eq_false h]
  exact (beq_eq_false_iff_ne.mpr e).symm
theorem yd (a b:Str):decide ((Sum.inr a:Key)=Sum.inr b)=decide (a=b):=by
 by_cases e:a=b
 ·subst e;simp
 ·have h:¬ (Sum.inr a:Key)=Sum.inr b:=λq=>e (Sum.inr.inj q)
  rw [decide_eq_false h,decide_eq_false e]
theorem ye (a:Int) (b:Str):decide ((Sum.inl a:Key)=Sum.inr b)=false:=decide_eq_false (λq=>nomatch q)
theorem yf (a:Str) (b:Int):decide ((Sum.inr a:Key)=Sum.inl b)=false:=decide_eq_false (λq=>nomatch q)
noncomputable def b9 (prog:Program) (w:World):PySem.KeyKind prog w Key where
 is:=kP
 hash:=Cm w
 inj:=λv a b ha hb=>by
  rcases bv ha with ⟨i,t,rfl,rfl⟩|⟨x,t,rfl,rfl⟩
  ·rcases bv hb with ⟨j,u,rfl,e⟩|⟨y,u,rfl,e⟩
   ·injection e with e1 _;rw [e1]
   ·exact nomatch e
  ·rcases bv hb with ⟨j,u,rfl,e⟩|⟨y,u,rfl,e⟩
   ·exact nomatch e
   ·injection e with e1 _;rw [e1]
 byValue:=λk v h=>by
  rcases bv h with ⟨i,t,rfl,rfl⟩|⟨x,t,rfl,rfl⟩ <;> rfl
 pyHash:=λhv h=>by
  rcases bv hv with ⟨i,t,rfl,rfl⟩|⟨x,t,rfl,rfl⟩
  ·exact wpAny_pyHash_int h
  ·exact wpAny_pyHash_str h
 eqBool:=λhu hv h=>by
  rcases bv hu with ⟨i,t,rfl,rfl⟩|⟨x,t,rfl,rfl⟩
  ·rcases bv hv with ⟨j,u,rfl,rfl⟩|⟨y,u,rfl,rfl⟩
   ·rw [yc] at h;exact wpAny_eqBool_int h
   ·rw [ye] at h;exact SeqAt.EqAt.int_str i t y u _ _ _ _ h
  ·rcases bv hv with ⟨j,u,rfl,rfl⟩|⟨y,u,rfl,rfl⟩
   ·rw [yf] at h;exact SeqAt.EqAt.str_int x t j u _ _ _ _ h
   ·rw [yd] at h;exact wpAny_eqBool_str h
 «strs»:=λk x t v h=>by
  rcases bv h with ⟨i,u,rfl,e⟩|⟨y,u,rfl,e⟩
  ·exact nomatch e
  ·injection e with e1 _
   subst e1
   cases v <;> rfl
theorem mK (prog:Program) (w:World) (i:Int) (t:Tok):(b9 prog w).is (.inl i) (.int i t)=true:=qV i t
theorem mL (prog:Program) (w:World) (x:Str) (t:Tok):(b9 prog w).is (.inr x) (.str x t)=true:=qW x t
end L2
namespace L2
open PySem PySem.Spec PyProof.Rows
inductive V where
 | non|bl (b:Bool)|int (i:Int)|str (x:Str)|byt (b:Array UInt8)|flt (b:UInt64)|ref (a:Addr)|ty (n:String)
 deriving DecidableEq
noncomputable def aw:V->Value->Prop
 | .non,u=>u=Value.none
 | .bl b,u=>u=Value.bool b
 | .int i,u=>∃ t,u=Value.int i t
 | .str x,u=>∃ t,u=Value.str x t
 | .byt b,u=>∃ t,u=Value.bytes b t
 | .flt b,u=>∃ t,u=Value.float b t
 | .ref a,u=>u=Value.ref a
 | .ty n,u=>u=Value.type n
noncomputable abbrev au:List V->List Value->Prop:=Paired aw
theorem au.length {xs:List V}{us:List Value} (r:au xs us):xs.length=us.length:=Paired.length r
theorem au.get:∀ {xs:List V}{us:List Value}{i:Nat}{x:V},au xs us->xs[i]?=some x->∃ u,us[i]?=some u/\aw x u
 | _,_,_,_,.nil,e=>by simp at e
 | _,_,0,_,.cons r _,e=>by simp at e;subst e;exact ⟨_,rfl,r⟩
 | _,_,i + 1,x,.cons _ t,e=>by
  obtain ⟨u,h1,h2⟩:=au.get (i:=i) (x:=x) t (by simpa using e)
  exact ⟨u,by simpa using h1,h2⟩
theorem au.set {x:V}{u:Value} (r:aw x u):∀ {xs:List V}{us:List Value} (i:Nat),au xs us->au (xs.set i x) (us.set i u)
 | _,_,_,.nil=>.nil
 | _,_,0,.cons _ t=>.cons r t
 | _,_,i + 1,.cons q t=>.cons q (au.set r i t)
theorem au.append:∀ {xs ys:List V}{us ws:List Value},au xs us->au ys ws->au (xs ++ ys) (us ++ ws)
 | _,_,_,_,.nil,s=>s
 | _,_,_,_,.cons r t,s=>.cons r (au.append t s)
theorem au.take:∀ {xs:List V}{us:List Value} (n:Nat),au xs us->au (xs.take n) (us.take n)
 | _,_,0,_=>.nil
 | _,_,_ + 1,.nil=>.nil
 | _,_,n + 1,.cons r t=>.cons r (au.take n t)
theorem au.drop:∀ {xs:List V}{us:List Value} (n:Nat),au xs us->au (xs.drop n) (us.drop n)
 | _,_,0,r=>r
 | _,_,_ + 1,.nil=>.nil
 | _,_,n + 1,.cons _ t=>au.drop n t
noncomputable def fB:Option V->Option Value->Prop
 | some v,some u=>aw v u
 | none,none=>True
 | _,_=>False
noncomputable def KV {κ:Type}:List (κ × V)->List (κ × Value)->Prop:=Paired λ(p:κ × V) (q:κ × Value)=>p.1=q.1/\aw p.2 q.2
noncomputable def kV:Key->V
 | .inl i=>.int i
 | .inr x=>.str x
inductive HO where
 | lst (xs:List V)
 | tup (xs:List V)
 | dK (kvs:List (Key × V))|dT (kvs:List (List Key × V))
 | set (S:Int->Bool) (n:Nat)
 | ins (C dx:Addr) (fs:List (Str × V))
 | own (x:Addr)
 | xd (fs:List (Str × V))
 | met (f x:Addr)
 | rng (lo hi:Int)
 | frz (o:Obj) (u:HO)
 | tbl (ps:Array Value)
 | ext (φ:Heap->Prop)
noncomputable abbrev Hp:=Addr->Option HO
noncomputable def upd (H:Hp) (a:Addr) (o:HO):Hp:=λb=>if b=a then some o else H b
theorem aj {H:Hp}{a:Addr}{o:HO}:upd H a o a=some o:=by unfold upd;rw [if_pos rfl]
theorem af {H:Hp}{a b:Addr}{o:HO} (h:b ≠ a):upd H a o b=H b:=by unfold upd;rw [if_neg h]
theorem aH {H:Hp}{a b:Addr}{o:HO} (h:H a=some o) (h':H b=none):a ≠ b:=by
 intro e;subst e;rw [h] at h';cases h'
section
variable (P:Program) (w:World)
noncomputable def bB (H:Hp) (h:Heap) (a:Addr):HO->Prop
 | .lst xs=>xs.length <= sizeLine/\∃ (its:List Value) (n:Nat),au xs its/\h.get? a=some { cls:=.type "list",data:=.seq its.toArray n }
 | .tup xs=>xs.length <= sizeLine/\∃ its:List Value,au xs its/\IsTup h a its.toArray
 | .dK kvs=>kvs.length <= sizeLine/\(a == sysModules)=false/\∃ vs,KV kvs vs/\h.DictOf (b9 P w) a vs
 | .dT kvs=>kvs.length <= sizeLine/\(a == sysModules)=false/\∃ xs:List (List Key × Addr × Value),
   Paired (λ(p:List Key × V) (q:List Key × Addr × Value)=>p.1=q.1/\H q.2.1=some (.tup (p.1.map kV))/\aw p.2 q.2.2) kvs xs /\
   ∃ o es ep,h.get? a=some o/\o.ExactDict/\o.data=.dict es ep/\es.toList=xs.map (entryOfKey (tupleKind (b9 P w)))/\(xs.map (·.1)).Nodup
 | .set S n=>h.SetOf (intKind P w) a S n
 | .ins C dx fs=>H dx=some (.own a)/\fs.length <= 1000/\dx ≠ a/\h.get? a=some (PySem.W.instObj C dx) /\
   ∃ mA,h.Ns1 dx mA/\(∀ f,fB (fs.lookup f) (mA f))/\PySem.Within mA (fs.map (·.1))
 | .own _=>∃ o,h.get? a=some o
 | .xd fs=>∃ mA,h.Ns1 a mA/\∀ f,fB (fs.lookup f) (mA f)
 | .rng lo hi=>∃ t u v,h.get? a=some { cls:=.type "range",data:=.fields #[.int lo t,.int hi u,.int 1 v] }
 | .frz o u=>h.get? a=some o/\bB H h a u
 | .tbl ps=>h.get? a=some { cls:=.none,data:=.fields ps }
 | .met f x=>h.get? a=some (PySem.W.methodObj (.ref f) (.ref x))
 | .ext φ=>φ h/\(∃ o,h.get? a=some o)/\∀ h1 h2:Heap,φ h1->(∀ o,h1.get? a=some o->h2.get? a=some o)->φ h2
noncomputable def HOk (H:Hp) (h:Heap):Prop:=∀ a o,H a=some o->bB P w H h a o
end
section
variable {P:Program}{w:World}{H H':Hp}{h h':Heap}{a:Addr}{o:HO}
theorem bB.lt (x:bB P w H h a o):a < h.objs.size:=by
 cases o with
 | lst xs=>obtain ⟨_,_,_,_,e⟩:=x;exact Heap.lt_size e
 | tup xs=>obtain ⟨_,_,_,p⟩:=x;exact p.lt
 | dK kvs=>obtain ⟨_,_,_,_,o,_,_,e,_⟩:=x;exact Heap.lt_size e
 | dT kvs=>obtain ⟨_,_,_,_,o,_,_,e,_⟩:=x;exact Heap.lt_size e
 | set S n=>obtain ⟨o,_,_,_,e,_⟩:=x;exact Heap.lt_size e
 | ins C dx fs=>obtain ⟨_,_,_,e,_⟩:=x;exact Heap.lt_size e
 | own y=>obtain ⟨_,e⟩:=x;exact Heap.lt_size e
 | xd fs=>obtain ⟨_,⟨_,_,_,e,_⟩,_⟩:=x;exact Heap.lt_size e
 | rng lo hi=>obtain ⟨_,_,_,e⟩:=x;exact Heap.lt_size e
 | frz ob u=>obtain ⟨e,_⟩:=x;exact Heap.lt_size e
 | tbl ps=>exact Heap.lt_size (show h.get? a=some _ from x)
 | met f y=>exact Heap.lt_size (show h.get? a=some _ from x)
 | ext φ=>obtain ⟨_,⟨_,e⟩,_⟩:=x;exact Heap.lt_size e
theorem Paired.mapP {α β:Type}{F G:α->β->Prop}:∀ {l₁:List α}{l₂:List β},Paired F l₁ l₂->(∀ a b,F a b->G a b)->Paired G l₁ l₂
 | _,_,.nil,_=>.nil
 | _,_,.cons r t,f=>.cons (f _ _ r) (Paired.mapP t f)
theorem bB.stay (x:bB P w H h a o) (k:∀ b u,(b=a \/ H b=some (.own a))->h.get? b=some u->h'.get? b=some u)
  (ho:∀ b,H b=some (.own a)->H' b=some (.own a)) (ht:∀ b xs,H b=some (.tup xs)->H' b=some (.tup xs)):bB P w H' h' a o:=by
 induction o with
 | lst xs=>obtain ⟨z,its,n,r,e⟩:=x;exact ⟨z,its,n,r,k _ _ (.inl rfl) e⟩
 | tup xs=>obtain ⟨z,its,r,ob,e,c⟩:=x;exact ⟨z,its,r,ob,k _ _ (.inl rfl) e,c⟩
 | dK kvs=>obtain ⟨z,y,vs,r,ob,es,ep,e,c⟩:=x;exact ⟨z,y,vs,r,ob,es,ep,k _ _ (.inl rfl) e,c⟩
 | dT kvs =>
  obtain ⟨z,y,xs,r,ob,es,ep,e,c⟩:=x
  exact ⟨z,y,xs,Paired.mapP r λp q z=>⟨z.1,ht _ _ z.2.1,z.2.2⟩,ob,es,ep,k _ _ (.inl rfl) e,c⟩
 | set S n=>obtain ⟨ob,es,ep,t,e,c⟩:=x;exact ⟨ob,es,ep,t,k _ _ (.inl rfl) e,c⟩
 | ins C dx fs =>
  obtain ⟨d,z,ne,e,mA,⟨od,es,ep,e2,c⟩,r⟩:=x
  exact ⟨ho _ d,z,ne,k _ _ (.inl rfl) e,mA,⟨od,es,ep,k _ _ (.inr d) e2,c⟩,r⟩
 | own y=>obtain ⟨ob,e⟩:=x;exact ⟨ob,k _ _ (.inl rfl) e⟩
 | xd fs=>obtain ⟨mA,⟨od,es,ep,e,c⟩,r⟩:=x;exact ⟨mA,⟨od,es,ep,k _ _ (.inl rfl) e,c⟩,r⟩
 | rng lo hi=>obtain ⟨t,u,v,e⟩:=x;exact ⟨t,u,v,k _ _ (.inl rfl) e⟩
 | frz ob u ih=>obtain ⟨e,q⟩:=x;exact ⟨k _ _ (.inl rfl) e,ih q⟩
 | tbl ps =>
  have e:h.get? a=some { cls:=.none,data:=.fields ps }:=x
  show h'.get? a=some { cls:=.none,data:=.fields ps }
  exact k a _ (.inl rfl) e
 | met f y =>
  have e:h.get? a=some (PySem.W.methodObj (.ref f) (.ref y)):=x
  show h'.get? a=some (PySem.W.methodObj (.ref f) (.ref y))
  exact k a _ (.inl rfl) e
 | ext φ=>obtain ⟨p,⟨o,e⟩,st⟩:=x;exact ⟨st _ _ p λo q=>k _ _ (.inl rfl) q,⟨o,k _ _ (.inl rfl) e⟩,st⟩
theorem HOk.lt (x:HOk P w H h) (e:H a=some o):a < h.objs.size:=(x a o e).lt
theorem HOk.fresh (x:HOk P w H h) (e:h.objs.size <= a):H a=none:=by
 cases q:H a with
 | none=>rfl
 | some u=>exact absurd (Nat.lt_of_lt_of_le (x.lt q) e) (Nat.lt_irrefl _)
theorem HOk.kept (x:HOk P w H h) (k:∀ b u,h.get? b=some u->h'.get? b=some u):HOk P w H h':=λa o e =>
 (x a o e).stay (λb u _ q=>k b u q) (λ_ q=>q) λ_ _ q=>q
theorem HOk.laid (x:HOk P w H h) (k:∀ b u,h.get? b=some u->h'.get? b=some u) (hp:h.objs.size <= a) (new:bB P w (upd H a o) h' a o):HOk P w (upd H a o) h':=λb u e=>by
 have hn:=x.fresh hp
 by_cases hb:b=a
 ·subst hb;rw [aj] at e;cases e;exact new
 ·rw [af hb] at e
  exact (x b u e).stay (λc v _ q=>k c v q) (λc q=>by rw [af (aH q hn)];exact q) λc xs q=>by rw [af (aH q hn)];exact q
end
noncomputable def Rd (H:Hp) (a:Addr) (u:HO):Prop:=H a=some u \/ ∃ o,H a=some (.frz o u)
theorem Rd.ok {P:Program}{w:World}{H:Hp}{h:Heap}{a:Addr}{u:HO} (r:Rd H a u) (x:HOk P w H h):bB P w H h a u:=by
 rcases r with r|⟨o,r⟩
 ·exact x a u r
 ·obtain ⟨_,q⟩:=x a _ r
  exact q
noncomputable def Mut:Option HO->Prop
 | some (.lst _)=>True
 | some (.dK _)=>True
 | some (.dT _)=>True
 | some (.set _ _)=>True
 | some (.ins _ _ _)=>True
 | some (.ext _)=>True
 | _=>False
section
variable {P:Program}{w:World}{H:Hp}{h h':Heap}{x e:Addr}{o':HO}
theorem HOk.write (ok:HOk P w H h) (mu:Mut (H x)) (he:e=x \/ H e=some (.own x)) (k:∀ b u,b ≠ e->h.get? b=some u->h'.get? b=some u) (heo:∃ u,h'.get? e=some u)
  (new:bB P w (upd H x o') h' x o'):HOk P w (upd H x o') h':=λb u q=>by
 have nown:∀ c y,H c=some (.own y)->c ≠ x:=λc y r z=>by subst z;rw [r] at mu;exact mu
 have ntup:∀ c xs,H c=some (.tup xs)->c ≠ x:=λc xs r z=>by subst z;rw [r] at mu;exact mu
 by_cases hb:b=x
 ·subst hb;rw [aj] at q;cases q;exact new
 ·rw [af hb] at q
  by_cases hbe:b=e
  ·have q':H b=some (.own x):=by
    rcases he with z|z
    ·exact absurd (hbe.trans z) hb
    ·rw [hbe];exact z
   rw [q] at q';cases q'
   obtain ⟨v,hv⟩:=heo
   exact ⟨v,by rw [hbe];exact hv⟩
  ·refine (ok b u q).stay (λc v hc r=>k c v ?_ r) (λc r=>by rw [af (nown c b r)];exact r) λc xs r=>by rw [af (ntup c xs r)];exact r
   rcases hc with rfl|hc
   ·exact hbe
   ·rintro rfl
    rcases he with z|z
    ·exact nown c b hc z
    ·rw [hc] at z;cases z;exact hb rfl
end
structure Un (fs ex:List Addr) (H H':Hp) (h h':Heap):Prop where
 keep:∀ b o,h.get? b=some o->H b=none->b ∉ fs->b ∉ ex->h'.get? b=some o
 slot:∀ b o,h.get? b=some o->H b=none->b ∈ fs->b ∉ ex->∃ sl,h'.get? b=some { o with slots:=sl }
 free:∀ b o,h.get? b=some o->H b=none->b ∉ ex->H' b=none
 there:∀ b o,h.get? b=some o->b ∉ ex->∃ o',h'.get? b=some o'
 tups:∀ b xs,H b=some (.tup xs)->H' b=some (.tup xs)
 frzs:∀ b o u,H b=some (.frz o u)->H' b=some (.frz o u)
 tbls:∀ b ps,H b=some (.tbl ps)->∃ more,H' b=some (.tbl (ps ++ more))
section
variable {fs fs' ex ex':List Addr}{H H1 H2:Hp}{h h1 h2 h':Heap}{a x e:Addr}{o:HO}
theorem Un.any (u:Un fs ex H H1 h h1) {b:Addr}{ob:Obj} (q:h.get? b=some ob) (n:H b=none) (hx:b ∉ ex):∃ sl,h1.get? b=some { ob with slots:=sl }:=by
 by_cases hb:b ∈ fs
 ·exact u.slot b ob q n hb hx
 ·exact ⟨ob.slots,u.keep b ob q n hb hx⟩
theorem Un.kept (k:∀ b u,h.get? b=some u->h'.get? b=some u):Un fs ex H H h h' :=
 ⟨λb ob q _ _ _=>k b ob q,λb ob q _ _ _=>⟨ob.slots,k b ob q⟩,λ_ _ _ n _=>n,λb ob q _=>⟨ob,k b ob q⟩,λ_ _ q=>q,λ_ _ _ q=>q,λ_ ps q=>⟨#[],by rw [q];simp⟩⟩
theorem Un.refl:Un fs ex H H h h:=Un.kept λ_ _ q=>q
theorem Un.laid (k:∀ b u,h.get? b=some u->h'.get? b=some u) (hp:h.objs.size <= a) (hn:H a=none):Un fs ex H (upd H a o) h h' where
 keep:=λb u q _ _ _=>k b u q
 slot:=λb u q _ _ _=>⟨u.slots,k b u q⟩
 free:=λb u q n _=>by rw [af (Nat.ne_of_lt (Nat.lt_of_lt_of_le (Heap.lt_size q) hp))];exact n
 there:=λb u q _=>⟨u,k b u q⟩
 tups:=λb xs q=>by rw [af (aH q hn)];exact q
 frzs:=λb u xs q=>by rw [af (aH q hn)];exact q
 tbls:=λb ps q=>⟨#[],by rw [af (aH q hn),q];simp⟩
theorem Un.write (mu:Mut (H x)) (he:e=x \/ H e=some (.own x)) (k:∀ b u,b ≠ e->h.get? b=some u->h'.get? b=some u) (heo:∃ u,h'.get? e=some u):Un fs ex H (upd H x o) h h':=by
 have hx:∀ b,H b=none->b ≠ x:=λb n z=>by subst z;rw [n] at mu;exact mu
 have hb:∀ b,H b=none->b ≠ e:=λb n z=>by
  subst z
  rcases he with r|r
  ·exact hx b n r
  ·rw [n] at r;cases r
 have hm:∀ b u,H b=some u->¬ Mut (some u)->b ≠ x:=λb u q nm z=>by subst z;rw [q] at mu;exact nm mu
 refine ⟨λb u q n _ _=>k b u (hb b n) q,λb u q n _ _=>⟨u.slots,k b u (hb b n) q⟩,λb u q n _=>by rw [af (hx b n)];exact n,λb u q _=>?_,
  λb xs q=>by rw [af (hm b _ q λz=>z)];exact q,λb u xs q=>by rw [af (hm b _ q λz=>z)];exact q,λb ps q=>⟨#[],by rw [af (hm b _ q λz=>z),q];simp⟩⟩
 by_cases hbe:b=e
 ·subst hbe;exact heo
 ·exact ⟨u,k b u hbe q⟩
end
noncomputable def trk (h:Heap) (H:Hp):List Addr:=(List.range h.objs.size).filter λa=>(H a).isSome
noncomputable def lM (h:Heap) (H:Hp):Heap:=PySem.W.hideAll h (trk h H)
theorem qX (h:Heap) (H:Hp):(lM h H).objs.size=h.objs.size:=PySem.W.hideAll_size _ _
theorem sE {h:Heap}{H:Hp}{b:Addr}{o:Obj} (e:h.get? b=some o) (n:H b=none):(lM h H).get? b=some o :=
 PySem.W.hideAll_get _ e λhm=>by
  have q:(H b).isSome=true:=(List.mem_filter.mp hm).2
  rw [n] at q;simp at q
theorem v1 {h:Heap}{H:Hp}{b:Addr}{o:Obj} (e:(lM h H).get? b=some o):h.get? b=some o/\H b=none:=by
 have e':h.get? b=some o:=PySem.W.of_hideAll (trk h H) e
 refine ⟨e',?_⟩
 cases q:H b with
 | none=>rfl
 | some x =>
  have hm:b ∈ trk h H:=List.mem_filter.mpr ⟨List.mem_range.mpr (Heap.lt_size e'),by simp [q]⟩
  have z:(lM h H).get? b=none:=PySem.W.hideAll_none (trk h H) hm
  rw [z] at e;cases e
noncomputable def v2 (g h:Heap) (L:Addr):List (Addr × Obj):=(List.range h.objs.size).filterMap λa=>if a=L \/ (g.get? a).isSome=true then none else (h.get? a).map λo=>(a,o)
noncomputable def dN (g h:Heap) (L d:Addr):List (Addr × Obj):=(v2 g h L).filter λp=>decide (p.1 ≠ d)
end L2
namespace L2
open PySem PySem.Spec PyProof.Rows
structure Mod (K:PySem.W.Frag) (mg:Str->Option Value) (base:Heap):Prop where
 kin:K.In base
 glob:base.Ns mainGlobals mg
 blt:∃ mb,base.Ns builtinsNs mb/\∀ x:Str,x ≠ "__name__"->mb x=bootBuiltins x
 nolimit:base.NoLimit
structure Cx where
 prog:Program
 w:World
 K:PySem.W.Frag
 mg:Str->Option Value
 base:Heap
 A:Around
 N:List Str
 s₀:Shared
 H₀:Hp
 env:Env
 outer:List Env
 stack:List Env
 ex:List Addr
 fn:Str->Bool
 calm:Bool
 pn:List (Addr × Obj)
 xe:Value->Shared->Prop
noncomputable def frs (l:List Env):List Addr:=l.filterMap (·.frame)
noncomputable abbrev Cx.fs (X:Cx):List Addr:=frs X.outer
noncomputable def Vis (sc:Scope) (x:Str):Prop:=sc.names.lookup x=some .local \/ sc.names.lookup x=some .cell \/ sc.names.lookup x=some .free
noncomputable def Loc (sc:Scope) (x:Str):Prop:=sc.names.lookup x=some .local \/ sc.names.lookup x=some .cell
noncomputable def Cn (env:Env) (h:Heap) (m:Str->Option Value) (x:Str) (u:Value):Prop :=
 (env.kindOf x=some .local/\m x=some u) \/ ((env.kindOf x=some .cell \/ env.kindOf x=some .free)/\∃ c,env.cells.lookup x=some c/\h.IsCell c (some u))
structure Cx.Ok (X:Cx):Prop where
 mod:Mod X.K X.mg X.base
 kind:X.env.scope.kind=.function
 glob:X.env.globals=mainGlobals
 blt:X.env.builtins=builtinsNs
 above:X.s₀.heap.objs.size <= X.env.locals
 inj:∀ x y c,X.env.cells.lookup x=some c->X.env.cells.lookup y=some c->x=y
 has:∀ x,(X.env.kindOf x=some .cell \/ X.env.kindOf x=some .free)->∃ c,X.env.cells.lookup x=some c
 cab:∀ x c,X.fn x=true->X.env.cells.lookup x=some c->X.s₀.heap.objs.size <= c
 hd:X.calm=true->X.A.handled=none
 frames:X.A.frames=some X.stack
 stk:X.stack=X.outer \/ (X.stack=X.env::X.outer/\X.env.frame=some X.env.locals)
 exf:∀ b ∈ X.ex,b ≠ X.env.locals/\∀ x c,X.env.cells.lookup x=some c->c ≠ b
 bs:∀ b o,X.base.get? b=some o->X.s₀.heap.get? b=some o/\X.H₀ b=none
 bsz:X.base.objs.size <= X.s₀.heap.objs.size
 noex:∀ b o,X.base.get? b=some o->b ∉ X.ex
 exfs:∀ b ∈ X.ex,b ∉ X.fs
 funs:X.s₀.heap.FunFrames X.base X.outer
 frf:∀ b ∈ X.fs,X.H₀ b=none
structure Inv (X:Cx) (pins:List (Addr × Obj)) (σ:List (Option V)) (H:Hp) (s:Shared):Prop where
 ok:X.Ok
 os:s.os=X.s₀.os
 bare:AllBare s.gens
 base:Un X.fs X.ex X.H₀ H X.s₀.heap s.heap
 loc:∃ m,s.heap.Ns X.env.locals m/\∀ (i:Nat) (x:Str) (v:V),X.N[i]?=some x->σ[i]?=some (some v)->Vis X.env.scope x->∃ u,aw v u/\Cn X.env s.heap m x u
 cell:∀ x c,X.env.cells.lookup x=some c->∃ v,s.heap.IsCell c v
 free:H X.env.locals=none
 freeC:∀ x c,X.env.cells.lookup x=some c->H c=none
 pin:∀ p ∈ X.pn ++ pins,s.heap.get? p.1=some p.2/\H p.1=none/\p.1 ≠ X.env.locals/\p.1 ∉ X.fs/\∀ v,p.2.data ≠ .cell v
 hok:HOk X.prog X.w H s.heap
 len:σ.length=X.N.length
section
variable {X:Cx}{pins:List (Addr × Obj)}{σ:List (Option V)}{H H':Hp}{s:Shared}{h':Heap}
theorem Cx.Ok.nofr (ok:X.Ok) {b:Addr}{o:Obj} (e:X.base.get? b=some o):b ∉ X.fs:=λhb=>by
 have:=(ok.funs.mem hb).1
 rw [e] at this;cases this
theorem Inv.bs (I:Inv X pins σ H s):∀ b o,X.base.get? b=some o->s.heap.get? b=some o/\H b=none:=λb o e =>
 ⟨I.base.keep b o (I.ok.bs b o e).1 (I.ok.bs b o e).2 (I.ok.nofr e) (I.ok.noex b o e),I.base.free b o (I.ok.bs b o e).1 (I.ok.bs b o e).2 (I.ok.noex b o e)⟩
theorem Inv.bk (I:Inv X pins σ H s):∀ b o,X.base.get? b=some o->s.heap.get? b=some o:=λb o e=>(I.bs b o e).1
theorem Inv.mod (I:Inv X pins σ H s):Mod X.K X.mg X.base:=I.ok.mod
theorem Inv.kIn (I:Inv X pins σ H s):X.K.In s.heap:=I.ok.mod.kin.keeps I.bk
theorem Inv.lt (I:Inv X pins σ H s):X.env.locals < s.heap.objs.size:=let ⟨_,hn,_⟩:=I.loc;hn.lt
theorem Inv.sz (I:Inv X pins σ H s):X.s₀.heap.objs.size <= s.heap.objs.size:=Nat.le_trans I.ok.above (Nat.le_of_lt I.lt)
theorem Inv.nofs (I:Inv X pins σ H s) {a:Addr} (h:s.heap.objs.size <= a):a ∉ X.fs:=λhb=>by
 obtain ⟨_,o,ho,_⟩:=I.ok.funs.mem hb
 exact absurd (Nat.lt_of_lt_of_le (Heap.lt_size ho) (Nat.le_trans I.sz h)) (Nat.lt_irrefl _)
theorem Inv.cne (I:Inv X pins σ H s):∀ x c,X.env.cells.lookup x=some c->c ≠ X.env.locals:=λx c e z=>by
 obtain ⟨v,o,ho,hd⟩:=I.cell x c e
 obtain ⟨m,⟨o',es,ep,ho',hd',_⟩,_⟩:=I.loc
 rw [z,ho'] at ho;cases ho;rw [hd'] at hd;cases hd
theorem Inv.funs (I:Inv X pins σ H s):s.heap.FunFrames X.base X.outer:=by
 have all:∀ (l:List Env),(∀ b ∈ frs l,b ∈ X.fs)->X.s₀.heap.FunFrames X.base l->s.heap.FunFrames X.base l:=by
  intro l
  induction l with
  | nil=>intro _ _;trivial
  | cons env r ih =>
   intro hs hl
   obtain ⟨hk,⟨L,o,hf,hn,ho,hd⟩,hr⟩:=hl
   have hL:L ∈ X.fs:=hs L (by unfold frs;rw [List.filterMap_cons,hf];exact List.mem_cons_self)
   obtain ⟨sl,e⟩:=I.base.slot L o ho (I.ok.frf L hL) hL λz=>I.ok.exfs L z hL
   exact ⟨hk,⟨L,_,hf,hn,e,hd⟩,ih (λb hb=>hs b (by unfold frs;rw [List.filterMap_cons,hf];exact List.mem_cons_of_mem _ hb)) hr⟩
 exact all X.outer (λ_ hb=>hb) I.ok.funs
theorem Inv.stack (I:Inv X pins σ H s):s.heap.FunFrames X.base X.stack:=by
 rcases I.ok.stk with e|⟨e,hf⟩
 ·rw [e];exact I.funs
 ·rw [e]
  obtain ⟨m,hn,_⟩:=I.loc
  refine .cons (by rw [I.ok.kind];decide) hf hn ?_ I.funs
  exact Heap.get?_none_of_le (Nat.le_trans I.ok.bsz I.ok.above)
theorem Inv.stkSub (I:Inv X pins σ H s):∀ b ∈ frs X.stack,b ∈ X.env.locals::X.fs:=λb hb=>by
 rcases I.ok.stk with e|⟨e,hf⟩
 ·rw [e] at hb;exact List.mem_cons_of_mem _ hb
 ·rw [e] at hb
  unfold frs at hb
  rw [List.filterMap_cons,hf] at hb
  exact hb
theorem Inv.stkFree (I:Inv X pins σ H s):∀ b ∈ frs X.stack,H b=none:=λb hb=>by
 rcases List.mem_cons.mp (I.stkSub b hb) with e|hb
 ·rw [e];exact I.free
 ·obtain ⟨_,o,ho,_⟩:=I.ok.funs.mem hb
  exact I.base.free b o ho (I.ok.frf b hb) λz=>I.ok.exfs b z hb
theorem Inv.step {g':Array GenState}{t':Nat}{d':Drawn}{ch:List Addr} (I:Inv X pins σ H s)
  (hch:∀ b ∈ ch,(b ∈ X.ex \/ X.s₀.heap.objs.size <= b)/\b ≠ X.env.locals/\(∀ x c,X.env.cells.lookup x=some c->c ≠ b)/\∀ p ∈ X.pn ++ pins,p.1 ≠ b)
  (keep:∀ b o,b ≠ X.env.locals->b ∉ X.fs->b ∉ ch->s.heap.get? b=some o->H b=none->h'.get? b=some o)
  (slot:∀ b o,b ≠ X.env.locals->b ∈ X.fs->b ∉ ch->s.heap.get? b=some o->H b=none->∃ sl,h'.get? b=some { o with slots:=sl }) (free:∀ b o,b ∉ ch->s.heap.get? b=some o->H b=none->H' b=none)
  (there:∀ b o,b ∉ ch->s.heap.get? b=some o->∃ o',h'.get? b=some o')
  (tups:∀ b xs,H b=some (.tup xs)->H' b=some (.tup xs)) (frzs:∀ b o u,H b=some (.frz o u)->H' b=some (.frz o u)) (tbls:∀ b ps,H b=some (.tbl ps)->∃ more,H' b=some (.tbl (ps ++ more)))
  (ns:∀ m,s.heap.Ns X.env.locals m->h'.Ns X.env.locals m) (hok:HOk X.prog X.w H' h') (hg:AllBare g') :
  Inv X pins σ H' { s with heap:=h',gens:=g',drawn:=d',toks:=t' }:=by
 have neL:∀ b o,X.s₀.heap.get? b=some o->b ≠ X.env.locals:=λb o e=>Nat.ne_of_lt (Nat.lt_of_lt_of_le (Heap.lt_size e) I.ok.above)
 have neC:∀ b o,X.s₀.heap.get? b=some o->b ∉ X.ex->b ∉ ch:=λb o e hx hb=>by
  rcases (hch b hb).1 with z|z
  ·exact hx z
  ·exact absurd (Nat.lt_of_lt_of_le (Heap.lt_size e) z) (Nat.lt_irrefl _)
 have cellK:∀ x c,X.env.cells.lookup x=some c->∀ v,s.heap.IsCell c v->h'.IsCell c v:=λx c e v ⟨o,ho,hd⟩=>by
  have nch:c ∉ ch:=λz=>(hch c z).2.2.1 x c e rfl
  by_cases hc:c ∈ X.fs
  ·obtain ⟨sl,q⟩:=slot c o (I.cne x c e) hc nch ho (I.freeC x c e)
   exact ⟨_,q,hd⟩
  ·exact ⟨o,keep c o (I.cne x c e) hc nch ho (I.freeC x c e),hd⟩
 refine ⟨I.ok,I.os,hg,⟨λb o e n hb hx=>?_,λb o e n hb hx=>?_,λb o e n hx=>?_,λb o e hx=>?_,λb xs e=>tups b xs (I.base.tups b xs e),λb o xs e=>frzs b o xs (I.base.frzs b o xs e),λb ps e=>?_⟩,?_,λx c e=>?_,?_,λx c e=>?_,λp hp=>?_,hok,I.len⟩
 ·exact keep b o (neL b o e) hb (neC b o e hx) (I.base.keep b o e n hb hx) (I.base.free b o e n hx)
 ·obtain ⟨sl,e1⟩:=I.base.slot b o e n hb hx
  obtain ⟨sl',e2⟩:=slot b _ (neL b o e) hb (neC b o e hx) e1 (I.base.free b o e n hx)
  exact ⟨sl',e2⟩
 ·obtain ⟨o',e1⟩:=I.base.there b o e hx
  exact free b o' (neC b o e hx) e1 (I.base.free b o e n hx)
 ·obtain ⟨o',e1⟩:=I.base.there b o e hx
  exact there b o' (neC b o e hx) e1
 ·obtain ⟨m1,e1⟩:=I.base.tbls b ps e
  obtain ⟨m2,e2⟩:=tbls b _ e1
  exact ⟨m1 ++ m2,by rw [e2,Array.append_assoc]⟩
 ·obtain ⟨m,hn,hl⟩:=I.loc
  refine ⟨m,ns m hn,λi x v e1 e2 e3=>?_⟩
  obtain ⟨u,r,l⟩:=hl i x v e1 e2 e3
  refine ⟨u,r,?_⟩
  rcases l with l|⟨k,c,e,z⟩
  ·exact .inl l
  ·exact .inr ⟨k,c,e,cellK x c e _ z⟩
 ·obtain ⟨v,z⟩:=I.cell x c e
  exact ⟨v,cellK x c e v z⟩
 ·obtain ⟨m,⟨o,_,_,ho,_⟩,_⟩:=I.loc
  exact free _ o (λz=>(hch _ z).2.1 rfl) ho I.free
 ·obtain ⟨v,o,ho,hd⟩:=I.cell x c e
  exact free c o (λz=>(hch c z).2.2.1 x c e rfl) ho (I.freeC x c e)
 ·obtain ⟨e,n,ne,nf,d⟩:=I.pin p hp
  have nch:p.1 ∉ ch:=λz=>(hch p.1 z).2.2.2 p hp rfl
  exact ⟨keep p.1 p.2 ne nf nch e n,free p.1 p.2 nch e n,ne,nf,d⟩
theorem Inv.un {t':Nat} (I:Inv X pins σ H s) (u:Un X.fs [] H H' s.heap h') (hok:HOk X.prog X.w H' h'):Inv X pins σ H' { s with heap:=h',toks:=t' }:=by
 obtain ⟨m,⟨o,es,ep,ho,r⟩,_⟩:=id I.loc
 obtain ⟨sl,hL⟩:=u.any ho I.free (by simp)
 exact I.step (g':=s.gens) (d':=s.drawn) (ch:=[]) (λ_ z=>nomatch z) (λb o _ hb _ e n=>u.keep b o e n hb (by simp)) (λb o _ hb _ e n=>u.slot b o e n hb (by simp)) (λb o _ e n=>u.free b o e n (by simp)) (λb o _ e=>u.there b o e (by simp)) u.tups u.frzs u.tbls (λm' hm=>by
  obtain ⟨o',es',ep',ho',r'⟩:=hm
  rw [ho] at ho';cases ho'
  exact ⟨_,es',ep',hL,r'⟩) hok I.bare
theorem Inv.call {g':Array GenState}{t':Nat}{d':Drawn}{ch:List Addr} (I:Inv X pins σ H s) (u:Un (frs X.stack) ch H H' s.heap h') (hok:HOk X.prog X.w H' h') (hg:AllBare g')
  (hch:∀ b ∈ ch,(b ∈ X.ex \/ X.s₀.heap.objs.size <= b)/\b ≠ X.env.locals/\(∀ x c,X.env.cells.lookup x=some c->c ≠ b)/\∀ p ∈ X.pn ++ pins,p.1 ≠ b) :
  Inv X pins σ H' { s with heap:=h',gens:=g',drawn:=d',toks:=t' }:=by
 obtain ⟨m,⟨o,es,ep,ho,r⟩,_⟩:=id I.loc
 obtain ⟨sl,hL⟩:=u.any ho I.free λz=>(hch _ z).2.1 rfl
 exact I.step (ch:=ch) hch (λb o hL hb hc e n=>u.keep b o e n (λz=>(List.mem_cons.mp (I.stkSub b z)).elim hL hb) hc) (λb o _ _ hc e n=>u.any e n hc) (λb o hc e n=>u.free b o e n hc) (λb o hc e=>u.there b o e hc) u.tups u.frzs u.tbls (λm' hm=>by
  obtain ⟨o',es',ep',ho',r'⟩:=hm
  rw [ho] at ho';cases ho'
  exact ⟨_,es',ep',hL,r'⟩) hok hg
theorem Inv.turned {t':Nat}{it:Addr} (I:Inv X pins σ H s) (k:∀ b o,b ≠ it->s.heap.get? b=some o->h'.get? b=some o) (hn:H it=none) (hL:it ≠ X.env.locals)
  (h1:it ∈ X.ex \/ X.s₀.heap.objs.size <= it) (h2:∀ x c,X.env.cells.lookup x=some c->c ≠ it) (h3:∀ p ∈ X.pn ++ pins,p.1 ≠ it):Inv X pins σ H { s with heap:=h',toks:=t' }:=by
 have nit:∀ b u,H b=some u->b ≠ it:=λb u e z=>by rw [z,hn] at e;cases e
 refine I.step (g':=s.gens) (d':=s.drawn) (ch:=[it]) (λb hb=>?_) (λb o _ _ hc e _=>k b o (λz=>hc (by simp [z])) e) (λb o _ _ hc e _=>⟨o.slots,k b o (λz=>hc (by simp [z])) e⟩) (λ_ _ _ _ n=>n)
  (λb o hc e=>⟨o,k b o (λz=>hc (by simp [z])) e⟩) (λ_ _ e=>e) (λ_ _ _ e=>e) (λb ps e=>⟨#[],by rw [e];simp⟩) (λm hm=>?_) (λb u e=>?_) I.bare
 ·have e:b=it:=by simpa using hb
  subst e
  exact ⟨h1,hL,h2,h3⟩
 ·obtain ⟨o,es,ep,ho,r⟩:=hm
  exact ⟨o,es,ep,k _ o (Ne.symm hL) ho,r⟩
 ·refine (I.hok b u e).stay (λc v hc q=>k c v ?_ q) (λ_ q=>q) λ_ _ q=>q
  rcases hc with z|z
  ·rw [z];exact nit b u e
  ·exact nit c _ z
theorem Inv.tok (I:Inv X pins σ H s) (t:Nat):Inv X pins σ H { s with toks:=t }:=I.un (h':=s.heap) (t':=t) Un.refl I.hok
theorem Inv.kept {t':Nat} (I:Inv X pins σ H s) (k:∀ b u,s.heap.get? b=some u->h'.get? b=some u):Inv X pins σ H { s with heap:=h',toks:=t' }:=I.un (Un.kept k) (I.hok.kept k)
theorem Inv.laid {a:Addr}{o:HO}{t':Nat} (I:Inv X pins σ H s) (k:∀ b u,s.heap.get? b=some u->h'.get? b=some u) (hp:s.heap.objs.size <= a) (new:bB X.prog X.w (upd H a o) h' a o) :
  Inv X pins σ (upd H a o) { s with heap:=h',toks:=t' }:=I.un (Un.laid k hp (I.hok.fresh hp)) (I.hok.laid k hp new)
theorem Inv.write {x e:Addr}{o:HO}{t':Nat} (I:Inv X pins σ H s) (mu:Mut (H x)) (he:e=x \/ H e=some (.own x)) (k:∀ b u,b ≠ e->s.heap.get? b=some u->h'.get? b=some u) (heo:∃ u,h'.get? e=some u)
  (new:bB X.prog X.w (upd H x o) h' x o):Inv X pins σ (upd H x o) { s with heap:=h',toks:=t' }:=I.un (Un.write mu he k heo) (I.hok.write mu he k heo new)
theorem Inv.pins_of {pins':List (Addr × Obj)} (I:Inv X pins σ H s) (h:∀ p ∈ pins',s.heap.get? p.1=some p.2/\H p.1=none/\p.1 ≠ X.env.locals/\p.1 ∉ X.fs/\∀ v,p.2.data ≠ .cell v):Inv X pins' σ H s :=
 ⟨I.ok,I.os,I.bare,I.base,I.loc,I.cell,I.free,I.freeC,λp hp=>(List.mem_append.mp hp).elim (λz=>I.pin p (List.mem_append_left _ z)) (h p),I.hok,I.len⟩
theorem mM {N:List Str} (hN:N.Nodup) {i j:Nat}{x:Str} (a:N[i]?=some x) (b:N[j]?=some x):i=j:=by
 obtain ⟨h1,e1⟩:=List.getElem?_eq_some_iff.mp a
 obtain ⟨h2,e2⟩:=List.getElem?_eq_some_iff.mp b
 exact (List.getElem_inj hN).mp (e1.trans e2.symm)
theorem kQ {M:Model}{A:Around}{E:Value->Shared->Prop}{i:Nat}{x:Str}{v:V}{u:Value}{Q:Unit->Shared->Prop} (I:Inv X pins σ H s) (hN:X.N.Nodup) (hi:X.N[i]?=some x) (hx:Loc X.env.scope x) (r:aw v u)
  (h:∀ s',Inv X pins (σ.set i (some v)) H s'->(∃ a,Heap.SameBut a s.heap s'.heap/\(a=X.env.locals \/ X.env.cells.lookup x=some a))->Q () s') (hf:X.fn x=true \/ X.env.scope.names.lookup x=some .local:=by first|exact .inl rfl|exact .inr rfl|assumption):wpAny M A (storeName X.env x u) Q E s:=by
 obtain ⟨m,hn,hl⟩:=id I.loc
 have hcls:(X.env.scope.kind == .class || (X.env.scope.kind == .module&&X.env.locals != X.env.globals))=false:=by rw [I.ok.kind];rfl
 have hiσ:i < σ.length:=by rw [I.len];exact (List.getElem?_eq_some_iff.mp hi).1
 have cne:=I.cne
 have tracked:∀ {a:Addr}{h':Heap},(∃ o,s.heap.get? a=some o/\H a=none)->Heap.SameBut a s.heap h'->HOk X.prog X.w H h':=λ{a h'} ha hs b ob e=>by
  obtain ⟨_,_,hfree⟩:=ha
  refine (I.hok b ob e).stay (λc w' hc q=>(hs.2 c ?_).trans q) (λ_ q=>q) λ_ _ q=>q
  rintro rfl
  rcases hc with rfl|hc
  ·rw [hfree] at e;cases e
  ·rw [hfree] at hc;cases hc
 rcases hx with hk|hk
 ·refine wpAny_storeName_local hk hn (λh' hn' hs=>?_) hcls
  obtain ⟨oL,_,_,hoL,_⟩:=id hn
  refine h _ ⟨I.ok,I.os,I.bare,⟨λb o e n hb hx=>?_,λb o e n hb hx=>?_,I.base.free,λb o e hx=>?_,I.base.tups,I.base.frzs,I.base.tbls⟩,⟨_,hn',λj y v' e1 e2 e3=>?_⟩,λy c e=>?_,I.free,I.freeC,λp hp=>?_,tracked ⟨oL,hoL,I.free⟩ hs,by simpa using I.len⟩ ⟨_,hs,.inl rfl⟩
  ·exact (hs.2 b (Nat.ne_of_lt (Nat.lt_of_lt_of_le (Heap.lt_size e) I.ok.above))).trans (I.base.keep b o e n hb hx)
  ·obtain ⟨sl,e1⟩:=I.base.slot b o e n hb hx
   exact ⟨sl,(hs.2 b (Nat.ne_of_lt (Nat.lt_of_lt_of_le (Heap.lt_size e) I.ok.above))).trans e1⟩
  ·obtain ⟨o',e1⟩:=I.base.there b o e hx
   exact ⟨o',(hs.2 b (Nat.ne_of_lt (Nat.lt_of_lt_of_le (Heap.lt_size e) I.ok.above))).trans e1⟩
  ·by_cases hj:j=i
   ·subst hj
    rw [hi] at e1;cases e1
    rw [List.getElem?_set_self hiσ] at e2
    cases e2
    exact ⟨u,r,.inl ⟨hk,by simp⟩⟩
   ·rw [List.getElem?_set_ne (Ne.symm hj)] at e2
    obtain ⟨u',r',q⟩:=hl j y v' e1 e2 e3
    refine ⟨u',r',?_⟩
    rcases q with ⟨k,e⟩|⟨k,c,e,z⟩
    ·refine .inl ⟨k,?_⟩
     have:y ≠ x:=λe=>hj (mM hN e1 (e ▸ hi))
     simp [this,e]
    ·exact .inr ⟨k,c,e,z.sameBut hs (cne y c e)⟩
  ·obtain ⟨w',z⟩:=I.cell y c e
   exact ⟨w',z.sameBut hs (cne y c e)⟩
  ·obtain ⟨e,n,ne,nf,d⟩:=I.pin p hp
   exact ⟨(hs.2 p.1 ne).trans e,n,ne,nf,d⟩
 ·have hfn:X.fn x=true:=by
   rcases hf with z|z
   ·exact z
   ·rw [z] at hk;cases hk
  obtain ⟨c,hc⟩:=I.ok.has x (.inl hk)
  obtain ⟨w',z⟩:=I.cell x c hc
  refine wpAny_storeName_cell I.ok.kind hk hc z (λh' hc' hs=>?_)
  obtain ⟨oc,hoc,hocd⟩:=id z
  refine h { s with heap:=h' } ⟨I.ok,I.os,I.bare,⟨λb o e n hb hx=>?_,λb o e n hb hx=>?_,I.base.free,λb o e hx=>?_,I.base.tups,I.base.frzs,I.base.tbls⟩,⟨m,hn.sameBut hs (Ne.symm (cne x c hc)),λj y v' e1 e2 e3=>?_⟩,λy c' e=>?_,I.free,I.freeC,λp hp=>?_,tracked ⟨oc,hoc,I.freeC x c hc⟩ hs,by simpa using I.len⟩ ⟨c,hs,.inr hc⟩
  ·exact (hs.2 b (Nat.ne_of_lt (Nat.lt_of_lt_of_le (Heap.lt_size e) (I.ok.cab x c hfn hc)))).trans (I.base.keep b o e n hb hx)
  ·obtain ⟨sl,e1⟩:=I.base.slot b o e n hb hx
   exact ⟨sl,(hs.2 b (Nat.ne_of_lt (Nat.lt_of_lt_of_le (Heap.lt_size e) (I.ok.cab x c hfn hc)))).trans e1⟩
  ·obtain ⟨o',e1⟩:=I.base.there b o e hx
   exact ⟨o',(hs.2 b (Nat.ne_of_lt (Nat.lt_of_lt_of_le (Heap.lt_size e) (I.ok.cab x c hfn hc)))).trans e1⟩
  ·by_cases hj:j=i
   ·subst hj
    rw [hi] at e1;cases e1
    rw [List.getElem?_set_self hiσ] at e2
    cases e2
    exact ⟨u,r,.inr ⟨.inl hk,c,hc,hc'⟩⟩
   ·rw [List.getElem?_set_ne (Ne.symm hj)] at e2
    obtain ⟨u',r',q⟩:=hl j y v' e1 e2 e3
    refine ⟨u',r',?_⟩
    rcases q with q|⟨k,c',e,z'⟩
    ·exact .inl q
    ·refine .inr ⟨k,c',e,z'.sameBut hs ?_⟩
     rintro rfl
     exact hj (mM hN e1 (I.ok.inj _ _ _ e hc ▸ hi))
  ·by_cases hcc:c'=c
   ·subst hcc;exact ⟨_,hc'⟩
   ·obtain ⟨w2,z2⟩:=I.cell y c' e
    exact ⟨w2,z2.sameBut hs hcc⟩
  ·obtain ⟨e,n,ne,nf,d⟩:=I.pin p hp
   refine ⟨(hs.2 p.1 ?_).trans e,n,ne,nf,d⟩
   intro q
   rw [q,hoc] at e
   have q':oc=p.2:=Option.some.inj e
   exact d w' (by rw [<- q'];exact hocd)
theorem mN {M:Model}{A:Around}{E:Value->Shared->Prop}{i:Nat}{x:Str}{v:V}{u:Value}{Q:Unit->Shared->Prop} (I:Inv X pins σ H s) (hN:X.N.Nodup) (hi:X.N[i]?=some x) (hx:Loc X.env.scope x) (r:aw v u)
  (h:∀ s',Inv X pins (σ.set i (some v)) H s'->Q () s') (hf:X.fn x=true \/ X.env.scope.names.lookup x=some .local:=by first|exact .inl rfl|exact .inr rfl|assumption):wpAny M A (storeName X.env x u) Q E s :=
 kQ I hN hi hx r (λs' I' _=>h s' I') hf
theorem Inv.call' {s':Shared}{ch:List Addr} (I:Inv X pins σ H s) (ho:s'.os=s.os) (u:Un (frs X.stack) ch H H' s.heap s'.heap) (hok:HOk X.prog X.w H' s'.heap) (hg:AllBare s'.gens)
  (hch:∀ b ∈ ch,(b ∈ X.ex \/ X.s₀.heap.objs.size <= b)/\b ≠ X.env.locals/\(∀ x c,X.env.cells.lookup x=some c->c ≠ b)/\∀ p ∈ X.pn ++ pins,p.1 ≠ b):Inv X pins σ H' s':=by
 obtain ⟨h',g',d',t',o'⟩:=s'
 have e:o'=s.os:=ho
 subst e
 exact I.call (g':=g') (t':=t') (d':=d') u hok hg hch
end
noncomputable abbrev XK:=Value->Option Addr->Hp->Prop
noncomputable abbrev St:=List (Option V)
noncomputable abbrev VK:=V->Hp->Prop
noncomputable abbrev TE:=St->Hp->VK->Prop
noncomputable abbrev TT:=St->Hp->(Bool->Hp->Prop)->Prop
noncomputable abbrev TA:=St->Hp->(List V->Hp->Prop)->Prop
structure fD where
 nx:St->Hp->Prop
 rt:VK
 bk:St->Hp->Prop:=λ_ _=>False
 ct:St->Hp->Prop:=λ_ _=>False
noncomputable abbrev TS:=fD->St->Hp->Prop
noncomputable def EP (X:Cx) (pins:List (Addr × Obj)) (σ:St) (Q:VK) (u:Value) (s':Shared):Prop:=∃ v H',Inv X pins σ H' s'/\aw v u/\Q v H'
noncomputable def TP (X:Cx) (pins:List (Addr × Obj)) (σ:St) (Q:Bool->Hp->Prop) (b:Bool) (s':Shared):Prop:=∃ H',Inv X pins σ H' s'/\Q b H'
noncomputable def AP (X:Cx) (pins:List (Addr × Obj)) (σ:St) (Q:List V->Hp->Prop) (us:List Value) (s':Shared):Prop:=∃ vs H',Inv X pins σ H' s'/\au vs us/\Q vs H'
noncomputable def SP (X:Cx) (pins:List (Addr × Obj)) (D:fD) (f:Flow) (s':Shared):Prop :=
 match f with
 | .next=>∃ σ' H',Inv X pins σ' H' s'/\D.nx σ' H'
 | .brk=>∃ σ' H',Inv X pins σ' H' s'/\D.bk σ' H'
 | .cont=>∃ σ' H',Inv X pins σ' H' s'/\D.ct σ' H'
 | .ret u=>∃ v σ' H',Inv X pins σ' H' s'/\aw v u/\D.rt v H'
noncomputable def PE (X:Cx) (e:Expr) (t:TE):Prop :=
 ∀ (pins:List (Addr × Obj)) (s:Shared) (σ:St) (H:Hp) (Q:VK),Inv X pins σ H s->t σ H Q->wpAny (model X.prog X.w) X.A (eval e X.env) (EP X pins σ Q) X.xe s
noncomputable def PT (X:Cx) (e:Expr) (t:TT):Prop :=
 ∀ (pins:List (Addr × Obj)) (s:Shared) (σ:St) (H:Hp) (Q:Bool->Hp->Prop),Inv X pins σ H s->t σ H Q->wpAny (model X.prog X.w) X.A (isTrue e X.env (eval e X.env)) (TP X pins σ Q) X.xe s
noncomputable def PW (X:Cx) (e:Expr) (t:TT):Prop :=
 ∀ (whole:Sem Value) (pins:List (Addr × Obj)) (s:Shared) (σ:St) (H:Hp) (Q:Bool->Hp->Prop),Inv X pins σ H s->t σ H Q->wpAny (model X.prog X.w) X.A (isTrue e X.env whole) (TP X pins σ Q) X.xe s
theorem PW.pt {X:Cx}{e:Expr}{t:TT} (h:PW X e t):PT X e t:=h _
noncomputable def PA (X:Cx) (es:List Expr) (t:TA):Prop :=
 ∀ (pos:Pos) (pins:List (Addr × Obj)) (s:Shared) (σ:St) (H:Hp) (Q:List V->Hp->Prop),Inv X pins σ H s->t σ H Q->wpAny (model X.prog X.w) X.A (spliced (backTo pos (starEach es X.env))) (AP X pins σ Q) X.xe s
noncomputable def PS (X:Cx) (st:Stmt) (t:TS):Prop :=
 ∀ (pins:List (Addr × Obj)) (s:Shared) (σ:St) (H:Hp) (D:fD),Inv X pins σ H s->t D σ H->wpAny (model X.prog X.w) X.A (exec st X.env) (SP X pins D) X.xe s
noncomputable def PSs (X:Cx) (st:List Stmt) (t:TS):Prop :=
 ∀ (pins:List (Addr × Obj)) (s:Shared) (σ:St) (H:Hp) (D:fD),Inv X pins σ H s->t D σ H->wpAny (model X.prog X.w) X.A (execs st X.env) (SP X pins D) X.xe s
theorem thn {α:Type}{t:Sem α}{Q Q':α->Shared->Prop}{M:Model}{A:Around}{E:Value->Shared->Prop}{s:Shared} (h:wpAny M A t Q E s) (hQ:∀ a s,Q a s->Q' a s):wpAny M A t Q' E s:=wpAny_mono h hQ λ_ _ x=>x
end L2
namespace L2
open PySem PySem.Spec PyProof.Rows
section
variable {X:Cx}
theorem bin {a b:Expr}{ta tb:TE} (ha:PE X a ta) (hb:PE X b tb) {pins:List (Addr × Obj)}{s:Shared}{σ:St}{H:Hp}{R:V->V->Hp->Prop} (I:Inv X pins σ H s) (h:ta σ H λx H1=>tb σ H1 λy H2=>R x y H2)
  {α:Type}{Q:α->Shared->Prop}{f:Value->Value->Sem α}
  (hf:∀ v u s2 x y H2,Inv X pins σ H2 s2->aw x v->aw y u->R x y H2->wpAny (model X.prog X.w) X.A (f v u) Q X.xe s2) :
  wpAny (model X.prog X.w) X.A (eval a X.env) (λv s₁=>wpAny (model X.prog X.w) X.A (eval b X.env) (λu s₂=>wpAny (model X.prog X.w) X.A (f v u) Q X.xe s₂) X.xe s₁) X.xe s:=by
 refine thn (ha pins s σ H _ I h) λv s1 ⟨x,H1,I1,r1,q1⟩=>?_
 refine thn (hb pins s1 σ H1 _ I1 q1) λu s2 ⟨y,H2,I2,r2,q2⟩=>?_
 exact hf v u s2 x y H2 I2 r1 r2 q2
noncomputable def eX (i:Nat):TE:=λσ H Q=>∃ v,σ[i]?=some (some v)/\Q v H
noncomputable def tC (v:V):TE:=λ_ H Q=>Q v H
theorem sF {i:Nat}{x:Str}{pos:Pos} (hN:X.N[i]?=some x) (hv:Vis X.env.scope x) (hd:(x == ("__debug__":Str))=false:=by decide) (hcd:(x == ("__classdict__":Str))=false:=by decide):PE X (.Name x pos) (eX i):=by
 intro pins s σ H Q I h
 obtain ⟨v,e,h⟩:=h
 obtain ⟨m,hn,hl⟩:=I.loc
 obtain ⟨u,r,l⟩:=hl i x v hN e hv
 have fin:EP X pins σ Q u s:=⟨v,H,I,r,h⟩
 rcases l with ⟨hk,hm⟩|⟨hk,c,hc,hcell⟩
 ·exact wpAny_Name (wpAny_loadName_local I.ok.kind hk hn hm fin) hd
 ·rcases hk with hk|hk
  ·exact wpAny_Name (wpAny_loadName_cell I.ok.kind hk hc hcell fin) hd
  ·exact wpAny_Name (wpAny_loadName_free I.ok.kind hk hc hcell fin hcd) hd
theorem om {i j pos}:PE X (.Constant (.int i) j pos) (tC (.int i)):=λ_ _ _ H _ I h=>wpAny_Constant_int ⟨.int i,H,I.tok _,⟨_,rfl⟩,h⟩
theorem AA {b j pos}:PE X (.Constant (.bool b) j pos) (tC (.bl b)):=λ_ _ _ H _ I h=>Constant_bool ⟨.bl b,H,I,rfl,h⟩
theorem yg {j pos}:PE X (.Constant .none j pos) (tC .non):=λ_ _ _ H _ I h=>Constant_none ⟨.non,H,I,rfl,h⟩
theorem gu {x j pos}:PE X (.Constant (.str x) j pos) (tC (.str x)):=λ_ _ _ H _ I h=>Calls.Constant_str ⟨.str x,H,I.tok _,⟨_,rfl⟩,h⟩
noncomputable def Gl (X:Cx) (x:Str):Prop:=X.env.kindOf x=some .globalImplicit
theorem jd {E:Value->Shared->Prop}{pins:List (Addr × Obj)}{s:Shared}{σ:St}{H:Hp}{x:Str}{u:Value}{pos:Pos}{Q:Value->Shared->Prop} (I:Inv X pins σ H s) (hg:Gl X x) (hm:X.mg x=some u) (h:Q u s)
  (hd:(x == ("__debug__":Str))=false:=by decide):wpAny (model X.prog X.w) X.A (eval (.Name x pos) X.env) Q E s :=
 Calls.Name_function_global I.ok.kind hg (Calls.loadGlobal_global (by rw [I.ok.glob];exact I.mod.glob.keeps I.bk) hm h) hd
theorem iw {E:Value->Shared->Prop}{pins:List (Addr × Obj)}{s:Shared}{σ:St}{H:Hp}{x:Str}{u:Value}{pos:Pos}{Q:Value->Shared->Prop} (I:Inv X pins σ H s) (hg:Gl X x) (hm:X.mg x=none) (hv:bootBuiltins x=some u) (h:Q u s)
  (hn:x ≠ "__name__":=by decide) (hd:(x == ("__debug__":Str))=false:=by decide):wpAny (model X.prog X.w) X.A (eval (.Name x pos) X.env) Q E s:=by
 obtain ⟨mb,h1,h2⟩:=I.mod.blt
 exact Calls.Name_function_global I.ok.kind hg (Calls.loadGlobal_builtin (by rw [I.ok.glob];exact I.mod.glob.keeps I.bk) hm (by rw [I.ok.blt];exact h1.keeps I.bk) ((h2 x hn).trans hv) h) hd
theorem v3 {x:Str}{v:V}{u:Value}{pos:Pos} (hg:Gl X x) (hm:X.mg x=some u) (r:aw v u) (hd:(x == ("__debug__":Str))=false:=by decide):PE X (.Name x pos) (tC v) :=
 λ_ _ _ H _ I h=>jd I hg hm ⟨v,H,I,r,h⟩ hd
theorem v4 {x:Str}{v:V}{u:Value}{pos:Pos} (hg:Gl X x) (hm:X.mg x=none) (hv:bootBuiltins x=some u) (r:aw v u) (hn:x ≠ "__name__":=by decide) (hd:(x == ("__debug__":Str))=false:=by decide):PE X (.Name x pos) (tC v) :=
 λ_ _ _ H _ I h=>iw I hg hm hv ⟨v,H,I,r,h⟩ hn hd
variable {a b:Expr}{ta tb:TE}{pos:Pos}
noncomputable def tB (t:TE):TT:=λσ H Q=>t σ H λx H1=>∃ c,x=.bl c/\Q c H1
theorem yh {e:Expr}{t:TE} (h:PE X e t) (he:∀ whole,isTrue e X.env whole=(do let v <- whole;standAt e.pos;holding [v] (truthy v)):=by intro _;rfl):PT X e (tB t):=by
 intro pins s σ H Q I hw
 refine isTrue_plain (thn (h pins s σ H _ I hw) λv s1 ⟨x,H1,I1,r1,q1⟩=>?_) (he _)
 obtain ⟨d,rfl,q⟩:=q1
 cases r1
 exact wpAny_truthy_bool ⟨H1,I1,q⟩
variable {tA tB':TT}{dN:List Expr}
noncomputable def Co (t u:TT):TT:=λσ H Q=>t σ H λc H1=>if c=true then u σ H1 Q else Q false H1
noncomputable def tOr (t u:TT):TT:=λσ H Q=>t σ H λc H1=>if c=true then Q true H1 else u σ H1 Q
noncomputable def Cq (t:TT):TT:=λσ H Q=>t σ H λc H1=>Q (!c) H1
theorem v5 (ha:PT X a tA):PW X (.BoolOp .And [a] pos) tA:=by
 intro wh pins s σ H Q I h
 refine isTrue_and (thn (ha pins s σ H Q I h) λc s1 e=>?_)
 cases c with
 | true=>exact isTrue_and_nil e
 | false=>exact e
theorem yi (ha:PT X a tA):PW X (.BoolOp .Or [a] pos) tA:=by
 intro wh pins s σ H Q I h
 refine isTrue_or (thn (ha pins s σ H Q I h) λc s1 e=>?_)
 cases c with
 | false=>exact isTrue_or_nil e
 | true=>exact e
theorem yj (ha:PT X a tA) (hb:PW X (.BoolOp .And (b::dN) pos) tB'):PW X (.BoolOp .And (a::b::dN) pos) (Co tA tB'):=by
 intro wh pins s σ H Q I h
 refine isTrue_and (thn (ha pins s σ H _ I h) λc s1 ⟨H1,I1,q1⟩=>?_)
 cases c with
 | true=>exact hb wh pins s1 σ H1 Q I1 q1
 | false=>exact ⟨H1,I1,q1⟩
theorem AB (ha:PT X a tA) (hb:PW X (.BoolOp .Or (b::dN) pos) tB'):PW X (.BoolOp .Or (a::b::dN) pos) (tOr tA tB'):=by
 intro wh pins s σ H Q I h
 refine isTrue_or (thn (ha pins s σ H _ I h) λc s1 ⟨H1,I1,q1⟩=>?_)
 cases c with
 | true=>exact ⟨H1,I1,q1⟩
 | false=>exact hb wh pins s1 σ H1 Q I1 q1
theorem yk (ha:PT X a tA):PT X (.UnaryOp .Not a pos) (Cq tA):=by
 intro pins s σ H Q I h
 exact isTrue_not (ha pins s σ H (λc H1=>Q (!c) H1) I h)
noncomputable def AC (ta tb:TE):TE:=λσ H Q=>ta σ H λx H1=>∃ c,x=.bl c/\if c=true then tb σ H1 Q else Q (.bl false) H1
noncomputable def Cr (ta tb:TE):TE:=λσ H Q=>ta σ H λx H1=>∃ c,x=.bl c/\if c=true then Q (.bl true) H1 else tb σ H1 Q
noncomputable def AD (ta:TE):TE:=λσ H Q=>ta σ H λx H1=>∃ c,x=.bl c/\Q (.bl (!c)) H1
theorem sG {op}{t:TE} (h:PE X a t):PE X (.BoolOp op [a] pos) t:=λpins s σ H Q I hw=>BoolOp_one (h pins s σ H Q I hw)
theorem yl (ha:PE X a ta) (hb:PE X (.BoolOp .And (b::dN) pos) tb):PE X (.BoolOp .And (a::b::dN) pos) (AC ta tb):=by
 intro pins s σ H Q I h
 refine BoolOp_and (thn (ha pins s σ H _ I h) λv s1 ⟨x,H1,I1,r1,q1⟩=>?_)
 obtain ⟨c,rfl,q1⟩:=q1
 cases r1
 refine wpAny_truthy_bool ?_
 cases c with
 | true=>exact hb pins s1 σ H1 Q I1 q1
 | false=>exact ⟨.bl false,H1,I1,rfl,q1⟩
theorem AE (ha:PE X a ta) (hb:PE X (.BoolOp .Or (b::dN) pos) tb):PE X (.BoolOp .Or (a::b::dN) pos) (Cr ta tb):=by
 intro pins s σ H Q I h
 refine BoolOp_or (thn (ha pins s σ H _ I h) λv s1 ⟨x,H1,I1,r1,q1⟩=>?_)
 obtain ⟨c,rfl,q1⟩:=q1
 cases r1
 refine wpAny_truthy_bool ?_
 cases c with
 | false=>exact hb pins s1 σ H1 Q I1 q1
 | true=>exact ⟨.bl true,H1,I1,rfl,q1⟩
theorem ym (ha:PE X a ta):PE X (.UnaryOp .Not a pos) (AD ta):=by
 intro pins s σ H Q I h
 refine UnaryOp_ (thn (ha pins s σ H _ I h) λv s1 ⟨x,H1,I1,r1,q1⟩=>?_)
 obtain ⟨c,rfl,q1⟩:=q1
 cases r1
 exact not_of (wpAny_truthy_bool ⟨.bl (!c),H1,I1,rfl,q1⟩)
noncomputable def tIf (t:TT) (ta tb:TE):TE:=λσ H Q=>t σ H λc H1=>if c=true then ta σ H1 Q else tb σ H1 Q
theorem sH {c:Expr} (hc:PT X c tA) (ha:PE X a ta) (hb:PE X b tb):PE X (.IfExp c a b pos) (tIf tA ta tb):=by
 intro pins s σ H Q I h
 refine wpAny_IfExp (thn (hc pins s σ H _ I h) λd s1 ⟨H1,I1,q1⟩=>?_)
 cases d with
 | true=>exact ha pins s1 σ H1 Q I1 q1
 | false=>exact hb pins s1 σ H1 Q I1 q1
end
end L2
namespace L2
open PySem PySem.Spec PyProof.Rows
noncomputable def SqL (K:PySem.W.Frag) (H:Hp) (a:Addr) (xs:List V):Prop :=
 Rd H a (.lst xs) \/
  ∃ (o:Obj) (its:Array Value) (n:Nat),K.lookup a=some o/\o.cls=.type "list"/\o.dict=none/\o.data=.seq its n/\its.size <= sizeLine/\au xs its.toList
noncomputable def SqT (K:PySem.W.Frag) (H:Hp) (a:Addr) (xs:List V):Prop :=
 Rd H a (.tup xs) \/
  ∃ (o:Obj) (its:Array Value) (n:Nat),K.lookup a=some o/\o.cls=.type "tuple"/\o.data=.seq its n/\its.size <= sizeLine/\au xs its.toList
noncomputable def Cs:Value->Option V
 | .none=>some .non
 | .bool b=>some (.bl b)
 | .int i _=>some (.int i)
 | .str x _=>some (.str x)
 | .bytes b _=>some (.byt b)
 | .float b _=>some (.flt b)
 | .ref a=>some (.ref a)
 | .type n=>some (.ty n)
 | _=>none
theorem aw.abs {x:V}{u:Value} (r:aw x u):Cs u=some x:=by
 cases x with
 | non=>cases r;rfl
 | bl _=>cases r;rfl
 | int _=>obtain ⟨t,rfl⟩:=r;rfl
 | str _=>obtain ⟨t,rfl⟩:=r;rfl
 | byt _=>obtain ⟨t,rfl⟩:=r;rfl
 | flt _=>obtain ⟨t,rfl⟩:=r;rfl
 | ref _=>cases r;rfl
 | ty _=>cases r;rfl
theorem aw.inj {x y:V}{u:Value} (r:aw x u) (q:aw y u):x=y:=Option.some.inj (r.abs.symm.trans q.abs)
theorem au.inj:∀ {xs ys:List V}{us:List Value},au xs us->au ys us->xs=ys
 | _,_,_,.nil,.nil=>rfl
 | _,_,_,.cons r t,.cons r' t'=>by rw [r.inj r',au.inj t t']
section
variable {X:Cx}{pins:List (Addr × Obj)}{σ:St}{H:Hp}{s:Shared}{a:Addr}{xs ys:List V}
theorem SqL.of {K:PySem.W.Frag} (h:H a=some (.lst xs)):SqL K H a xs:=.inl (.inl h)
theorem SqT.of {K:PySem.W.Frag} (h:H a=some (.tup xs)):SqT K H a xs:=.inl (.inl h)
theorem Inv.list (I:Inv X pins σ H s) (h:SqL X.K H a xs):∃ its:List Value,au xs its/\PlainL s.heap a its.toArray/\xs.length <= sizeLine:=by
 rcases h with h|⟨o,its,n,hk,hc,hd,hs,hz,r⟩
 ·obtain ⟨z,its,n,r,e⟩:=h.ok I.hok
  exact ⟨its,r,⟨_,n,e,rfl,rfl,rfl⟩,z⟩
 ·refine ⟨its.toList,r,⟨o,n,I.kIn a o hk,hc,hd,by simpa using hs⟩,?_⟩
  have e:=r.length
  simp only [Array.length_toList] at e
  omega
theorem Inv.tuple (I:Inv X pins σ H s) (h:SqT X.K H a xs):∃ its:List Value,au xs its/\IsTup s.heap a its.toArray/\xs.length <= sizeLine:=by
 rcases h with h|⟨o,its,n,hk,hc,hs,hz,r⟩
 ·obtain ⟨z,its,r,p⟩:=h.ok I.hok
  exact ⟨its,r,p,z⟩
 ·refine ⟨its.toList,r,⟨o,I.kIn a o hk,hc,n,by simpa using hs⟩,?_⟩
  have e:=r.length
  simp only [Array.length_toList] at e
  omega
theorem Inv.list_inj (I:Inv X pins σ H s) (h:SqL X.K H a xs) (h':SqL X.K H a ys):xs=ys:=by
 obtain ⟨its,r,⟨o,n,e,_,_,d⟩,_⟩:=I.list h
 obtain ⟨its',r',⟨o',n',e',_,_,d'⟩,_⟩:=I.list h'
 rw [e] at e';cases e'
 rw [d] at d'
 injection d' with d1 _
 have:its=its':=by simpa using congrArg Array.toList d1
 subst this
 exact r.inj r'
theorem Inv.tuple_inj (I:Inv X pins σ H s) (h:SqT X.K H a xs) (h':SqT X.K H a ys):xs=ys:=by
 obtain ⟨its,r,⟨o,e,_,n,d⟩,_⟩:=I.tuple h
 obtain ⟨its',r',⟨o',e',_,n',d'⟩,_⟩:=I.tuple h'
 rw [e] at e';cases e'
 rw [d] at d'
 injection d' with d1 _
 have:its=its':=by simpa using congrArg Array.toList d1
 subst this
 exact r.inj r'
end
noncomputable abbrev Cx.wish (X:Cx) (E:Value->Shared->Prop):Cx:={ X with xe:=E }
noncomputable abbrev Cx.nox (X:Cx):Cx:=X.wish λ_ _=>False
theorem Cx.Ok.wish {X:Cx} (ok:X.Ok) (E:Value->Shared->Prop):(X.wish E).Ok :=
 ⟨ok.mod,ok.kind,ok.glob,ok.blt,ok.above,ok.inj,ok.has,ok.cab,ok.hd,ok.frames,ok.stk,ok.exf,ok.bs,ok.bsz,ok.noex,ok.exfs,ok.funs,ok.frf⟩
theorem Cx.Ok.unwish {X:Cx}{E:Value->Shared->Prop} (ok:(X.wish E).Ok):X.Ok :=
 ⟨ok.mod,ok.kind,ok.glob,ok.blt,ok.above,ok.inj,ok.has,ok.cab,ok.hd,ok.frames,ok.stk,ok.exf,ok.bs,ok.bsz,ok.noex,ok.exfs,ok.funs,ok.frf⟩
section
variable {X:Cx}{pins:List (Addr × Obj)}{σ:St}{H:Hp}{s:Shared}{E:Value->Shared->Prop}
theorem Inv.wish (I:Inv X pins σ H s) (E:Value->Shared->Prop):Inv (X.wish E) pins σ H s:=⟨I.ok.wish E,I.os,I.bare,I.base,I.loc,I.cell,I.free,I.freeC,I.pin,I.hok,I.len⟩
theorem Inv.unwish (I:Inv (X.wish E) pins σ H s):Inv X pins σ H s:=⟨I.ok.unwish,I.os,I.bare,I.base,I.loc,I.cell,I.free,I.freeC,I.pin,I.hok,I.len⟩
theorem SP.unwish {D:fD}{f:Flow}{s':Shared} (h:SP (X.wish E) pins D f s'):SP X pins D f s':=by
 cases f with
 | next=>obtain ⟨σ',H',I,q⟩:=h;exact ⟨σ',H',I.unwish,q⟩
 | brk=>obtain ⟨σ',H',I,q⟩:=h;exact ⟨σ',H',I.unwish,q⟩
 | cont=>obtain ⟨σ',H',I,q⟩:=h;exact ⟨σ',H',I.unwish,q⟩
 | ret u=>obtain ⟨v,σ',H',I,r,q⟩:=h;exact ⟨v,σ',H',I.unwish,r,q⟩
theorem PSs.nox {st:List Stmt}{t:TS} (h:PSs X.nox st t):PSs X st t:=λpins s σ H D I hw =>
 wpAny_mono (h pins s σ H D (I.wish _) hw) (λ_ _ q=>q.unwish) λ_ _ z=>False.elim z
end
section
variable {X:Cx}{st:Stmt}{dN:List Stmt}{t u:TS}{e:Expr}{te:TE}{pos:Pos}
noncomputable def AF:TS:=λD σ H=>D.nx σ H
noncomputable def qY (t u:TS):TS:=λD σ H=>t { D with nx:=u D } σ H
theorem v6:PSs X [] AF:=λ_ _ σ H _ I h=>wpAny_execs_nil ⟨σ,H,I,h⟩
theorem de (h1:PS X st t) (h2:PSs X dN u):PSs X (st::dN) (qY t u):=by
 intro pins s σ H D I h
 refine wpAny_execs_cons (thn (h1 pins s σ H { D with nx:=u D } I h) λf s1 q=>?_)
 cases f with
 | next =>
  obtain ⟨σ',H',I',q⟩:=q
  exact h2 pins s1 σ' H' D I' q
 | ret v=>exact q
 | brk=>exact q
 | cont=>exact q
theorem pQ (h1:PS X st t):PSs X [st] t:=by
 intro pins s σ H D I h
 refine wpAny_execs_cons (thn (h1 pins s σ H D I h) λf s1 q=>?_)
 cases f with
 | next=>exact wpAny_execs_nil q
 | ret v=>exact q
 | brk=>exact q
 | cont=>exact q
theorem Inv.quiet {pins:List (Addr × Obj)}{σ:St}{H:Hp}{s:Shared} (I:Inv X pins σ H s):interactive X.env=false:=by simp [interactive,I.ok.kind]
noncomputable def pR (te:TE):TS:=λD σ H=>te σ H λ_ H1=>D.nx σ H1
theorem fR (he:PE X e te) (hs:swapsWith e none pos.line X.env=pure false:=by rfl):PS X (.Expr e pos) (pR te):=by
 intro pins s σ H D I h
 exact wpAny_Expr_any (thn (he pins s σ H _ I h) λv s1 ⟨x,H1,I1,r1,q1⟩=>⟨σ,H1,I1,q1⟩) I.quiet hs
noncomputable def Ct (te:TE):TS:=λD σ H=>te σ H D.rt
theorem oo (he:PE X e te):PS X (.Return (some e) pos) (Ct te):=by
 intro pins s σ H D I h
 exact wpAny_Return_some (thn (he pins s σ H _ I h) λv s1 ⟨x,H1,I1,r1,q1⟩=>⟨x,σ,H1,I1,r1,q1⟩)
noncomputable def Cu (c:TT) (t u:TS):TS:=λD σ H=>c σ H λb H1=>if b=true then t D σ H1 else u D σ H1
theorem AG {c:Expr}{a b:List Stmt}{tc:TT} (hc:PT X c tc) (ha:PSs X a t) (hb:PSs X b u):PS X (.If c a b pos) (Cu tc t u):=by
 intro pins s σ H D I h
 refine wpAny_If (thn (hc pins s σ H _ I h) λd s1 ⟨H1,I1,q1⟩=>?_)
 cases d with
 | true=>exact ha pins s1 σ H1 D I1 q1
 | false=>exact hb pins s1 σ H1 D I1 q1
noncomputable def yn:TS:=λ_ _ _=>False
theorem sI:PS X st yn:=λ_ _ _ _ _ _ h=>h.elim
end
noncomputable abbrev TG:=V->St->Hp->(St->Hp->Prop)->Prop
noncomputable abbrev TGs:=List V->St->Hp->(St->Hp->Prop)->Prop
noncomputable def PG (X:Cx) (target:Expr) (t:TG):Prop :=
 ∀ (pins:List (Addr × Obj)) (s:Shared) (σ:St) (H:Hp) (v:V) (u:Value) (Q:St->Hp->Prop),Inv X pins σ H s->aw v u->t v σ H Q ->
  wpAny (model X.prog X.w) X.A (assign target X.env u) (λ_ s'=>∃ σ' H',Inv X pins σ' H' s'/\Q σ' H') X.xe s
noncomputable def PGs (X:Cx) (ts:List Expr) (t:TGs):Prop :=
 ∀ (pins:List (Addr × Obj)) (s:Shared) (σ:St) (H:Hp) (vs:List V) (us:List Value) (Q:St->Hp->Prop),Inv X pins σ H s->au vs us->t vs σ H Q ->
  wpAny (model X.prog X.w) X.A (assignInOrder ((assignEach ts X.env).map (·.2)) us) (λ_ s'=>∃ σ' H',Inv X pins σ' H' s'/\Q σ' H') X.xe s
noncomputable abbrev Cv:=V->V->V->Hp->(Hp->Prop)->Prop
noncomputable def Cw (X:Cx) (t:Cv):Prop :=
 ∀ (pins:List (Addr × Obj)) (s:Shared) (σ:St) (H:Hp) (o i v:V) (ov iv u:Value) (Q:Hp->Prop),Inv X pins σ H s->aw o ov->aw i iv->aw v u->t o i v H Q ->
  wpAny (model X.prog X.w) X.A (setItem ov iv u) (λ_ s'=>∃ H',Inv X pins σ H' s'/\Q H') X.xe s
section
variable {X:Cx}{pos:Pos}
noncomputable def cD (i:Nat):TG:=λv σ H Q=>Q (σ.set i (some v)) H
theorem je {i:Nat}{x:Str} (hN:X.N.Nodup) (hi:X.N[i]?=some x) (hx:Loc X.env.scope x) (hf:X.fn x=true \/ X.env.scope.names.lookup x=some .local:=by first|exact .inl rfl|exact .inr rfl|assumption):PG X (.Name x pos) (cD i):=by
 intro pins s σ H v u Q I r h
 exact wpAny_assign_Name (mN I hN hi hx r (λs' I'=>⟨_,H,I',h⟩) hf)
noncomputable def AH:TGs:=λvs σ H Q=>vs=[]/\Q σ H
noncomputable def xO (t:TG) (u:TGs):TGs:=λvs σ H Q=>∃ v r,vs=v::r/\t v σ H λσ' H'=>u r σ' H' Q
theorem v7:PGs X [] AH:=by
 intro pins s σ H vs us Q I r h
 obtain ⟨e,h⟩:=h
 subst e
 cases r
 exact assignInOrder_nil ⟨σ,H,I,h⟩
theorem sJ {e:Expr}{es:List Expr}{t:TG}{u:TGs} (h1:PG X e t) (h2:PGs X es u)
  (hs:(assignEach (e::es) X.env).map (·.2)=assign e X.env::(assignEach es X.env).map (·.2):=by rfl):PGs X (e::es) (xO t u):=by
 intro pins s σ H vs us Q I r h
 obtain ⟨v,vr,e1,h⟩:=h
 subst e1
 cases r with
 | cons r rr =>
  rw [hs]
  refine assignInOrder_cons (thn (h1 pins s σ H _ _ _ I r h) λ_ s1 ⟨σ1,H1,I1,q1⟩=>?_)
  exact h2 pins s1 σ1 H1 _ _ Q I1 rr q1
noncomputable def AI (K:PySem.W.Frag) (n:Nat) (t:TGs):TG:=λv σ H Q=>∃ a xs,v=.ref a/\SqT K H a xs/\xs.length=n/\t xs σ H Q
theorem yo {es:List Expr}{k:Nat}{t:TGs}{n:Nat} (hc:X.calm=true) (h:PGs X es t)
  (hn:(assignEach es X.env).length=n:=by rfl) (hst:(assignEach es X.env).findIdx? (·.1)=none:=by rfl):PG X (.Tuple es k pos) (AI X.K n t):=by
 intro pins s σ H v u Q I r hw
 obtain ⟨a,xs,e1,hq,hl,hw⟩:=hw
 subst e1
 cases r
 obtain ⟨its,rv,ht,hz⟩:=I.tuple hq
 refine assign_Tuple_tuple (I.ok.hd hc) ht (by simp [hn,<- hl,rv.length]) hst λh' hx=>?_
 have I1:Inv X pins σ H { s with heap:=h' }:=I.kept (t':=s.toks) λb o e=>hx b o (Nat.ne_of_lt (Heap.lt_size e)) e
 exact h pins _ σ H xs _ Q I1 (by simpa using rv) hw
noncomputable def ix (te:TE) (g:TG):TS:=λD σ H=>te σ H λx H1=>g x σ H1 D.nx
theorem iy {i:Nat}{x:Str}{e:Expr}{te:TE}{pos':Pos} (hN:X.N.Nodup) (hi:X.N[i]?=some x) (hx:Loc X.env.scope x) (he:PE X e te) (hs:swapsWith e (some (.Name x pos')) pos.line X.env=pure false:=by rfl) (hf:X.fn x=true \/ X.env.scope.names.lookup x=some .local:=by first|exact .inl rfl|exact .inr rfl|assumption) :
  PS X (.Assign [.Name x pos'] e pos) (ix te (cD i)):=by
 intro pins s σ H D I h
 refine wpAny_Assign_Name (thn (he pins s σ H _ I h) λv s1 ⟨y,H1,I1,r1,q1⟩=>?_) hs
 exact mN I1 hN hi hx r1 (λs2 I2=>⟨_,H1,I2,q1⟩) hf
end
section
variable {X:Cx}{pos:Pos}
end
structure It where
 go:Nat->Hp->Prop
 yld:Nat->Hp->V->Hp->Prop
 stop:Nat->Hp->Prop
noncomputable def iz (X:Cx) (pins:List (Addr × Obj)) (H:Hp) (b:Addr):Prop :=
 H b=none/\b ≠ X.env.locals/\b ∉ X.fs/\(b ∈ X.ex \/ X.s₀.heap.objs.size <= b)/\(∀ x c,X.env.cells.lookup x=some c->c ≠ b)/\∀ p ∈ X.pn ++ pins,p.1 ≠ b
theorem Inv.fpOk {X:Cx}{pins:List (Addr × Obj)}{σ:St}{H H':Hp}{s:Shared}{b:Addr} (I:Inv X pins σ H s) (hb:s.heap.objs.size <= b) (hn:H' b=none):iz X pins H' b:=by
 refine ⟨hn,Nat.ne_of_gt (Nat.lt_of_lt_of_le I.lt hb),I.nofs hb,.inr (Nat.le_trans I.sz hb),λx c e z=>?_,λp hp z=>?_⟩
 ·obtain ⟨v,q⟩:=I.cell x c e
  exact absurd (Nat.lt_of_lt_of_le q.lt (by rw [z];exact hb)) (Nat.lt_irrefl _)
 ·exact absurd (Nat.lt_of_lt_of_le (Heap.lt_size (I.pin p hp).1) (by rw [z];exact hb)) (Nat.lt_irrefl _)
structure oq (P:Program) (w:World) (K:PySem.W.Frag) (tg:Expr) (J:It) (fp:List Addr) (it:Addr) (tn:Nat->Heap->Prop):Prop where
 mem:it ∈ fp
 obj:∀ i h,tn i h->∀ b ∈ fp,∃ o,h.get? b=some o/\∀ v,o.data ≠ .cell v
 keep:∀ i h h',tn i h->(∀ b ∈ fp,∀ o,h.get? b=some o->h'.get? b=some o)->tn i h'
 item:∀ (X:Cx),X.prog=P->X.w=w->X.K=K->X.calm=true->∀ (i:Nat) (pins:List (Addr × Obj)) (s:Shared) (σ:St) (H:Hp) (E:Value->Shared->Prop),Inv X pins σ H s->(∀ b ∈ fp,iz X pins H b)->tn i s.heap->J.go i H ->
  wpAny (model P w) X.A (pyNext (.ref it)) (λr s1=>∃ u,r=some u /\
   wpAny (model P w) X.A (letOwnedTupleGo tg (.ref it) u) (λ_ s2=>∃ x H',Inv X pins σ H' s2/\aw x u/\J.yld i H x H'/\tn (i + 1) s2.heap/\∀ b ∈ fp,H' b=none) E s1) E s
 done:∀ (X:Cx),X.prog=P->X.w=w->X.K=K->X.calm=true->∀ (i:Nat) (pins:List (Addr × Obj)) (s:Shared) (σ:St) (H:Hp) (E:Value->Shared->Prop),Inv X pins σ H s->(∀ b ∈ fp,iz X pins H b)->tn i s.heap->J.stop i H ->
  wpAny (model P w) X.A (pyNext (.ref it)) (λr s1=>r=none/\Inv X pins σ H s1) E s
 self:∀ (A:Around) (i:Nat) (s:Shared) (Q:Value->Shared->Prop) (E:Value->Shared->Prop),tn i s.heap->Q (.ref it) s->wpAny (model P w) A (pyIter (.ref it)) Q E s
noncomputable abbrev TI:=St->Hp->(It->Hp->Prop)->Prop
noncomputable def PIE (X:Cx) (pins:List (Addr × Obj)) (σ:St) (tg:Expr) (R:It->Hp->Prop) (itv:Value) (s2:Shared):Prop :=
 ∃ (it:Addr) (fp:List Addr) (tn:Nat->Heap->Prop) (J:It) (H':Hp),itv=.ref it/\Inv X pins σ H' s2/\oq X.prog X.w X.K tg J fp it tn/\tn 0 s2.heap/\(∀ b ∈ fp,iz X pins H' b)/\R J H'
noncomputable def PI (X:Cx) (tg iter:Expr) (wi:TI):Prop :=
 ∀ (pins:List (Addr × Obj)) (s:Shared) (σ:St) (H:Hp) (R:It->Hp->Prop),Inv X pins σ H s->wi σ H R ->
  wpAny (model X.prog X.w) X.A (eval iter X.env) (λv s1=>wpAny (model X.prog X.w) X.A (pyIter v) (PIE X pins σ tg R) X.xe s1) X.xe s
theorem sK {M:Model}{A:Around}{E:Value->Shared->Prop}{s:Shared}{tg:Expr}{it:Addr}{u:Value}{o:Obj}{n:String}{vs:Array Value}{Q:Unit->Shared->Prop} (ho:s.heap.get? it=some o) (hc:o.cls=.type n) (hd:o.data=.fields vs)
    (hn:["enumerate","zip","dict_itemiterator","dict_reverseitemiterator","odict_iterator","itertools.zip_longest","itertools.pairwise"].contains n=false) (hQ:Q () s):wpAny M A (letOwnedTupleGo tg (.ref it) u) Q E s:=by
  unfold letOwnedTupleGo
  cases tg <;> first
    | exact wpAny_pure hQ
    | (cases u <;> first
        | exact wpAny_pure hQ
        | (refine wpAny_bind (wpAny_load ho ?_)
           rw [hc,hd]
           show wpAny M A (if (["enumerate","zip","dict_itemiterator","dict_reverseitemiterator","odict_iterator","itertools.zip_longest","itertools.pairwise"].contains n&&vs[0]? == some (rawInt _))=true then _ else _) Q E s
           rw [if_neg (by intro h;rw [hn,Bool.false_and] at h;cases h)]
           exact wpAny_pure hQ))
noncomputable def Itl (K:PySem.W.Frag) (a:Addr):It :=
 ⟨λi H=>∃ xs x,SqL K H a xs/\xs[i]?=some x,λi H x H'=>H'=H/\∀ xs,SqL K H a xs->xs[i]?=some x,λi H=>∃ xs,SqL K H a xs/\xs.length <= i⟩
noncomputable def Itt (K:PySem.W.Frag) (a:Addr):It :=
 ⟨λi H=>∃ xs x,SqT K H a xs/\xs[i]?=some x,λi H x H'=>H'=H/\∀ xs,SqT K H a xs->xs[i]?=some x,λi H=>∃ xs,SqT K H a xs/\xs.length <= i⟩
noncomputable def Itr (lo:Int) (n:Nat):It:=⟨λi _=>i < n,λi H x H'=>H'=H/\x=.int (lo + i),λi _=>n <= i⟩
theorem qZ {P:Program}{w:World}{K:PySem.W.Frag}{tg:Expr} (a it:Addr):oq P w K tg (Itl K a) [it] it (λi h=>h.IsListIter it a i) where
 mem:=by simp
 obj:=λi h st b hb=>by
  have e:b=it:=by simpa using hb
  subst e
  obtain ⟨o,e,c,d⟩:=st
  exact ⟨o,e,λv z=>by rw [d] at z;cases z⟩
 keep:=λi h h' st k=>st.at λo e=>k it (by simp) o e
 item:=by
  intro X hP hw hK hc i pins s σ H E I hf st hg
  subst hP hw hK
  obtain ⟨xs,x,hq,hx⟩:=hg
  obtain ⟨its,rv,p,hz⟩:=I.list hq
  obtain ⟨u,hu,ru⟩:=rv.get hx
  obtain ⟨f0,f1,f2,f3,f4,f5⟩:=hf it (by simp)
  refine wpAny_pyNext_list_item st p.isList (x:=u) (by simpa using hu) λh' st' sb=>?_
  have I1:Inv X pins σ H { s with heap:=h' }:=I.turned (t':=s.toks) (λb o hb e=>(sb.2 b hb).trans e) f0 f1 f3 f4 f5
  obtain ⟨o,e,c,d⟩:=id st'
  exact ⟨u,rfl,sK (s:={ s with heap:=h' }) e c d (by decide) ⟨x,H,I1,ru,⟨rfl,λys hy=>by rw [I.list_inj hy hq];exact hx⟩,st',λb hb=>(hf b hb).1⟩⟩
 done:=by
  intro X hP hw hK hc i pins s σ H E I hf st hg
  subst hP hw hK
  obtain ⟨xs,hq,hx⟩:=hg
  obtain ⟨its,rv,p,hz⟩:=I.list hq
  obtain ⟨f0,f1,f2,f3,f4,f5⟩:=hf it (by simp)
  have hl:=rv.length
  exact wpAny_pyNext_list_end (I.ok.hd hc) st p.isList (by simp;omega) λh' eb=>⟨rfl,I.turned (t':=s.toks) (λb o hb e=>eb b o hb e) f0 f1 f3 f4 f5⟩
 self:=λ_ _ _ _ _ st h=>wpAny_pyIter_listiter st h
theorem ou {P:Program}{w:World}{K:PySem.W.Frag}{tg:Expr} (a it:Addr):oq P w K tg (Itt K a) [it] it (λi h=>h.IsTupleIter it a i) where
 mem:=by simp
 obj:=λi h st b hb=>by
  have e:b=it:=by simpa using hb
  subst e
  obtain ⟨o,e,c,d⟩:=st
  exact ⟨o,e,λv z=>by rw [d] at z;cases z⟩
 keep:=λi h h' st k=>st.at λo e=>k it (by simp) o e
 item:=by
  intro X hP hw hK hc i pins s σ H E I hf st hg
  subst hP hw hK
  obtain ⟨xs,x,hq,hx⟩:=hg
  obtain ⟨its,rv,p,hz⟩:=I.tuple hq
  obtain ⟨u,hu,ru⟩:=rv.get hx
  obtain ⟨f0,f1,f2,f3,f4,f5⟩:=hf it (by simp)
  refine wpAny_pyNext_tuple_item st (show s.heap.IsTuple a its.toArray from p) (x:=u) (by simpa using hu) λh' st' sb=>?_
  have I1:Inv X pins σ H { s with heap:=h' }:=I.turned (t':=s.toks) (λb o hb e=>(sb.2 b hb).trans e) f0 f1 f3 f4 f5
  obtain ⟨o,e,c,d⟩:=id st'
  exact ⟨u,rfl,sK (s:={ s with heap:=h' }) e c d (by decide) ⟨x,H,I1,ru,⟨rfl,λys hy=>by rw [I.tuple_inj hy hq];exact hx⟩,st',λb hb=>(hf b hb).1⟩⟩
 done:=by
  intro X hP hw hK hc i pins s σ H E I hf st hg
  subst hP hw hK
  obtain ⟨xs,hq,hx⟩:=hg
  obtain ⟨its,rv,p,hz⟩:=I.tuple hq
  obtain ⟨f0,f1,f2,f3,f4,f5⟩:=hf it (by simp)
  have hl:=rv.length
  exact wpAny_pyNext_tuple_end (I.ok.hd hc) st (show s.heap.IsTuple a its.toArray from p) (by simp;omega) λh' eb=>⟨rfl,I.turned (t':=s.toks) (λb o hb e=>eb b o hb e) f0 f1 f3 f4 f5⟩
 self:=λ_ _ _ _ _ st h=>wpAny_pyIter_tupleiter st h
theorem oA {P:Program}{w:World}{K:PySem.W.Frag}{tg:Expr} (it:Addr) (lo:Int) (n:Nat):oq P w K tg (Itr lo n) [it] it (λi h=>IsRangeIter h it (lo + (i:Nat) * 1) ((n:Int) - (i:Nat)) 1) where
 mem:=by simp
 obj:=λi h st b hb=>by
  have e:b=it:=by simpa using hb
  subst e
  exact ⟨_,st,λv z=>by
   have z':Data.fields _=Data.cell v:=z
   cases z'⟩
 keep:=λi h h' st k=>k it (by simp) _ st
 item:=by
  intro X hP hw hK hc i pins s σ H E I hf st hg
  subst hP hw hK
  obtain ⟨f0,f1,f2,f3,f4,f5⟩:=hf it (by simp)
  have W:=Walks.range (prog:=X.prog) (w:=X.w) (I.ok.hd hc) it lo 1 n
  refine W.item i s _ _ hg st λv h' tk hv st' kk=>?_
  obtain ⟨t,rfl⟩:=hv
  have I1:Inv X pins σ H { s with heap:=h',toks:=tk }:=I.turned (λb o hb e=>kk b o (by simpa using hb) e) f0 f1 f3 f4 f5
  refine ⟨_,rfl,sK (s:={ s with heap:=h',toks:=tk }) (n:="range_iterator") st' rfl rfl (by decide) ⟨.int (lo + i),H,I1,⟨t,?_⟩,⟨rfl,rfl⟩,st',λb hb=>(hf b hb).1⟩⟩
  rw [Int.mul_one]
 done:=by
  intro X hP hw hK hc i pins s σ H E I hf st hg
  subst hP hw hK
  obtain ⟨f0,f1,f2,f3,f4,f5⟩:=hf it (by simp)
  exact wpAny_pyNext_range_end (I.ok.hd hc) st (by have:n <= i:=hg;omega) λh' eb=>⟨rfl,I.turned (t':=s.toks) (λb o hb e=>eb b o hb e) f0 f1 f3 f4 f5⟩
 self:=λ_ _ _ _ _ st h=>wpAny_pyIter_rangeiter st h
end L2
namespace L2
open PySem PySem.Spec PyProof.Rows
section
variable {X:Cx}{tg:Expr}
noncomputable def xP (K:PySem.W.Frag) (tl:TE):TI:=λσ H R=>tl σ H λx H1=>∃ a,x=.ref a/\(∃ xs,SqL K H1 a xs)/\R (Itl K a) H1
noncomputable def Cy (K:PySem.W.Frag) (tl:TE):TI:=λσ H R=>tl σ H λx H1=>∃ a,x=.ref a/\(∃ xs,SqT K H1 a xs)/\R (Itt K a) H1
theorem jf {l:Expr}{tl:TE} (hl:PE X l tl):PI X tg l (xP X.K tl):=by
 intro pins s σ H R I h
 refine thn (hl pins s σ H _ I h) λv s1 ⟨x,H1,I1,r1,q1⟩=>?_
 obtain ⟨a,e,⟨xs,hq⟩,q⟩:=q1
 subst e
 cases r1
 obtain ⟨its,rv,p,hz⟩:=I1.list hq
 refine wpAny_pyIter_list p.isList ?_
 refine ⟨s1.heap.objs.size,[s1.heap.objs.size],_,_,H1,rfl,I1.kept (t':=s1.toks) λb o e=>Heap.get?_push_of_some _ e,qZ a _,⟨_,Heap.get?_push_size _ rfl,rfl,rfl⟩,λb hb=>?_,q⟩
 have e:b=s1.heap.objs.size:=by simpa using hb
 subst e
 exact I1.fpOk (Nat.le_refl _) (I1.hok.fresh (Nat.le_refl _))
theorem sL {l:Expr}{tl:TE} (hl:PE X l tl):PI X tg l (Cy X.K tl):=by
 intro pins s σ H R I h
 refine thn (hl pins s σ H _ I h) λv s1 ⟨x,H1,I1,r1,q1⟩=>?_
 obtain ⟨a,e,⟨xs,hq⟩,q⟩:=q1
 subst e
 cases r1
 obtain ⟨its,rv,p,hz⟩:=I1.tuple hq
 refine wpAny_pyIter_tuple (show s1.heap.IsTuple a its.toArray from p) ?_
 refine ⟨s1.heap.objs.size,[s1.heap.objs.size],_,_,H1,rfl,I1.kept (t':=s1.toks) λb o e=>Heap.get?_push_of_some _ e,ou a _,⟨_,Heap.get?_push_size _ rfl,rfl,rfl⟩,λb hb=>?_,q⟩
 have e:b=s1.heap.objs.size:=by simpa using hb
 subst e
 exact I1.fpOk (Nat.le_refl _) (I1.hok.fresh (Nat.le_refl _))
theorem mO {pins:List (Addr × Obj)}{σ:St}{H:Hp}{s:Shared}{R:It->Hp->Prop}{E:Value->Shared->Prop}{lo hi:Int}{t u v:Tok}{tk:Nat} (I:Inv X pins σ H s) (h1:-(2 ^ 62) <= lo) (h2:lo < 2 ^ 62) (h3:-(2 ^ 62) <= hi) (h4:hi < 2 ^ 62)
  (q:R (Itr lo (hi - lo).toNat) H):wpAny (model X.prog X.w) X.A (pyIter (.ref s.heap.objs.size)) (PIE X pins σ tg R) E { s with heap:=s.heap.push { cls:=.type "range",data:=.fields #[.int lo t,.int hi u,.int 1 v] },toks:=tk }:=by
 refine wpAny_pyIter_range (IsRange.new ..) (small_one h1 h2 h3 h4) ?_
 have I1:Inv X pins σ H { s with heap:=s.heap.push { cls:=.type "range",data:=.fields #[.int lo t,.int hi u,.int 1 v] },toks:=tk }:=I.kept λb o e=>Heap.get?_push_of_some _ e
 refine ⟨(s.heap.push { cls:=.type "range",data:=.fields #[.int lo t,.int hi u,.int 1 v] }).objs.size,[(s.heap.push { cls:=.type "range",data:=.fields #[.int lo t,.int hi u,.int 1 v] }).objs.size],_,_,H,rfl,
  I1.kept (t':=tk) λb o e=>Heap.get?_push_of_some _ e,oA _ lo (hi - lo).toNat,?_,λb hb=>?_,q⟩
 ·have e1:lo + ((0:Nat):Int) * 1=lo:=by simp
  have e2:(((hi - lo).toNat:Nat):Int) - ((0:Nat):Int)=Builtin.Range.rangeSize lo hi 1:=by rw [rangeSize_one];split <;> omega
  show IsRangeIter _ _ (lo + ((0:Nat):Int) * 1) ((((hi - lo).toNat:Nat):Int) - ((0:Nat):Int)) 1
  rw [e1,e2]
  exact Heap.get?_push_size _ rfl
 ·have e:b=(s.heap.push { cls:=.type "range",data:=.fields #[.int lo t,.int hi u,.int 1 v] }).objs.size:=by simpa using hb
  subst e
  exact I1.fpOk (Nat.le_refl _) (I1.hok.fresh (Nat.le_refl _))
noncomputable def AJ (ta:TA):TI:=λσ H R=>ta σ H λvs H1=>∃ j:Int,vs=[.int j]/\-(2 ^ 62) <= j/\j < 2 ^ 62/\R (Itr 0 j.toNat) H1
noncomputable def AK (ta:TA):TI:=λσ H R=>ta σ H λvs H1=>∃ i j:Int,vs=[.int i,.int j]/\(-(2 ^ 62) <= i/\i < 2 ^ 62/\-(2 ^ 62) <= j/\j < 2 ^ 62)/\R (Itr i (j - i).toNat) H1
theorem q_ {a:Expr}{ta:TA}{p pos:Pos} (hg:Gl X "range") (hm:X.mg "range"=none) (ha:PA X [a] ta) (hs:starEach [a] X.env=[(false,eval a X.env)]:=by rfl):PI X tg (.Call (.Name "range" p) [a] [] pos) (AJ ta):=by
 intro pins s σ H R I h
 refine Call_ (iw I hg hm boot_range (PyProof.Rows.callWith_type1 (thn (ha pos pins s σ H _ I h) λus s1 ⟨vs,H1,I1,r1,q1⟩=>?_) hs rfl))
 obtain ⟨j,e,q1,q2,q⟩:=q1
 subst e
 cases r1 with
 | cons r rr =>
  cases rr
  obtain ⟨t,rfl⟩:=r
  exact call_range_1 (mO I1 (by omega) (by omega) q1 q2 (by simpa using q))
theorem ra {a b:Expr}{ta:TA}{p pos:Pos} (hg:Gl X "range") (hm:X.mg "range"=none) (ha:PA X [a,b] ta) (hs:starEach [a,b] X.env=[(false,eval a X.env),(false,eval b X.env)]:=by rfl) (hs2:starEach [b] X.env=[(false,eval b X.env)]:=by rfl) :
  PI X tg (.Call (.Name "range" p) [a,b] [] pos) (AK ta):=by
 intro pins s σ H R I h
 refine Call_ (iw I hg hm boot_range (PyProof.Rows.callWith_type1 (thn (ha pos pins s σ H _ I h) λus s1 ⟨vs,H1,I1,r1,q1⟩=>?_) (by rw [hs,hs2]) (by rw [hs2];rfl)))
 obtain ⟨i,j,e,⟨q1,q2,q3,q4⟩,q⟩:=q1
 subst e
 cases r1 with
 | cons r rr =>
  cases rr with
  | cons r' rr =>
   cases rr
   obtain ⟨t,rfl⟩:=r
   obtain ⟨t',rfl⟩:=r'
   exact call_range_2 (mO I1 q1 q2 q3 q4 q)
noncomputable def v8 (wi:TI) (g:TG) (tb:TS):TS:=λD σ H=>wi σ H λJ H1=>∃ W:Nat->Nat->St->Hp->Prop,(∃ m,W 0 m σ H1)/\∀ i m σ H,W i m σ H ->
 (J.stop i H/\D.nx σ H) \/ (J.go i H/\∃ N:St->Hp->Prop,(∀ σ' H',N σ' H'->∃ m',m' < m/\W (i + 1) m' σ' H')/\∀ x H',J.yld i H x H'->g x σ H' λσ2 H2=>tb { D with nx:=N,ct:=N,bk:=D.nx } σ2 H2)
noncomputable def jt (fp:List Addr) (h:Heap):List (Addr × Obj):=fp.filterMap λb=>(h.get? b).map λo=>(b,o)
theorem eY {fp:List Addr}{h:Heap}{b:Addr}{o:Obj} (hb:b ∈ fp) (e:h.get? b=some o):(b,o) ∈ jt fp h:=List.mem_filterMap.mpr ⟨b,hb,by rw [e];rfl⟩
theorem rb {fp:List Addr}{h:Heap}{p:Addr × Obj} (hp:p ∈ jt fp h):p.1 ∈ fp/\h.get? p.1=some p.2:=by
 obtain ⟨b,hb,e⟩:=List.mem_filterMap.mp hp
 cases q:h.get? b with
 | none=>rw [q] at e;cases e
 | some o =>
  rw [q] at e
  have e':(b,o)=p:=Option.some.inj e
  subst e'
  exact ⟨hb,q⟩
theorem Inv.pinned {pins:List (Addr × Obj)}{σ:St}{H:Hp}{s:Shared}{fp:List Addr} (I:Inv X pins σ H s) (hf:∀ b ∈ fp,iz X pins H b) (ho:∀ b ∈ fp,∃ o,s.heap.get? b=some o/\∀ v,o.data ≠ .cell v):Inv X (pins ++ jt fp s.heap) σ H s :=
 I.pins_of λp hp=>(List.mem_append.mp hp).elim (λz=>I.pin p (List.mem_append_right _ z)) λz=>by
  obtain ⟨hb,e⟩:=rb z
  obtain ⟨f0,f1,f2,_⟩:=hf p.1 hb
  obtain ⟨o,e',d⟩:=ho p.1 hb
  rw [e] at e';cases e'
  exact ⟨e,f0,f1,f2,d⟩
theorem Inv.unpinned {pins pl:List (Addr × Obj)}{σ:St}{H:Hp}{s:Shared} (I:Inv X (pins ++ pl) σ H s):Inv X pins σ H s:=I.pins_of λp hp=>I.pin p (List.mem_append_right _ (List.mem_append_left _ hp))
theorem oB {iter:Expr}{body:List Stmt}{wi:TI}{g:TG}{tb:TS}{pos:Pos} (hp:PassesOwn (model X.prog X.w) X.A X.env X.xe) (hc:X.calm=true) (hi:PI X tg iter wi) (hg:PG X tg g) (hb:PSs X body tb)
  (hs:∀ x,foldedSetIterable iter X.env x=pure x:=by intro _;rfl):PS X (.For tg iter body [] pos) (v8 wi g tb):=by
 intro pins s σ H D I h
 refine wpAny_For (thn (hi pins s σ H _ I h) λv s1 h1=>thn h1 λitv s2 h2=>?_) hs
 obtain ⟨it,fp,tn,J,H2,e,I2,T,st2,f2,W,⟨m0,w0⟩,turn⟩:=h2
 subst e
 have stat:∀ {H':Hp},(∀ b ∈ fp,H' b=none)->∀ b ∈ fp,iz X pins H' b:=λhn b hb=>⟨hn b hb,(f2 b hb).2⟩
 refine codeAny_forLoop_any (λn s'=>∃ i σ' H',Inv X pins σ' H' s'/\tn i s'.heap/\(∀ b ∈ fp,H' b=none)/\W i n σ' H') ?_ m0 ⟨0,σ,H2,I2,st2,λb hb=>(f2 b hb).1,w0⟩
 rintro n s3 ⟨i,σ3,H3,I3,st3,fr3,w3⟩
 rcases turn i n σ3 H3 w3 with ⟨stop,qn⟩|⟨go,N,hN,step⟩
 ·refine wpAny_passesOwn hp (thn (T.done X rfl rfl rfl hc i pins s3 σ3 H3 X.xe I3 (stat fr3) st3 stop) λr s4 ⟨hr,I4⟩=>?_)
  subst hr
  exact wpAny_execs_nil ⟨σ3,H3,I4,qn⟩
 ·refine wpAny_passesOwn hp (thn (T.item X rfl rfl rfl hc i pins s3 σ3 H3 X.xe I3 (stat fr3) st3 go) λr s4 ⟨u,hr,h4⟩=>?_)
  subst hr
  refine wpAny_passesOwn hp (thn h4 λ_ s5 ⟨x,H5,I5,r5,y5,st5,fr5⟩=>?_)
  have I5':=I5.pinned (stat fr5) (T.obj _ _ st5)
  refine wpAny_passesOwn hp (thn (hg _ s5 σ3 H5 x u _ I5' r5 (step x H5 y5)) λ_ s6 ⟨σ6,H6,I6,q6⟩=>?_)
  refine wpAny_passesOwn hp (thn (hb _ s6 σ6 H6 _ I6 q6) λf s7 q7=>?_)
  have again:∀ {σ7:St}{H7:Hp},Inv X (pins ++ jt fp s5.heap) σ7 H7 s7->N σ7 H7->∃ m,m < n/\∃ i σ' H',Inv X pins σ' H' s7/\tn i s7.heap/\(∀ b ∈ fp,H' b=none)/\W i m σ' H':=λ{σ7 H7} I7 n7=>by
   obtain ⟨m',hm,w7⟩:=hN σ7 H7 n7
   refine ⟨m',hm,i + 1,σ7,H7,I7.unpinned,T.keep _ _ _ st5 λb hb o e=>(I7.pin (b,o) (List.mem_append_right _ (List.mem_append_right _ (eY hb e)))).1,λb hb=>?_,w7⟩
   obtain ⟨o,e,d⟩:=T.obj _ _ st5 b hb
   exact (I7.pin (b,o) (List.mem_append_right _ (List.mem_append_right _ (eY hb e)))).2.1
  cases f with
  | next=>obtain ⟨σ7,H7,I7,n7⟩:=q7;exact again I7 n7
  | cont=>obtain ⟨σ7,H7,I7,n7⟩:=q7;exact again I7 n7
  | brk=>obtain ⟨σ7,H7,I7,q7⟩:=q7;exact ⟨σ7,H7,I7.unpinned,q7⟩
  | ret v=>obtain ⟨x7,σ7,H7,I7,r7,q7⟩:=q7;exact ⟨x7,σ7,H7,I7.unpinned,r7,q7⟩
end
end L2
namespace L2
open PySem PySem.Spec PyProof.Rows
noncomputable abbrev R2:=V->V->Hp->VK->Prop
noncomputable def OpR (X:Cx) (f:Value->Value->Sem Value) (r:R2):Prop :=
 ∀ (pins:List (Addr × Obj)) (s:Shared) (σ:St) (H:Hp) (x y:V) (v u:Value) (Q:VK),Inv X pins σ H s->aw x v->aw y u->r x y H Q ->
  wpAny (model X.prog X.w) X.A (f v u) (EP X pins σ Q) X.xe s
noncomputable def bJ (X:Cx) (f:Value) (r:List V->Hp->VK->Prop):Prop :=
 ∀ (pins:List (Addr × Obj)) (s:Shared) (σ:St) (H:Hp) (xs:List V) (us:List Value) (Q:VK),Inv X pins σ H s->au xs us->r xs H Q ->
  wpAny (model X.prog X.w) X.A (call f us) (EP X pins σ Q) X.xe s
noncomputable def tOp (r:R2) (ta tb:TE):TE:=λσ H Q=>ta σ H λx H1=>tb σ H1 λy H2=>r x y H2 Q
noncomputable def rI (C:Int->Int->Prop) (g:Int->Int->V):R2:=λx y H Q=>∃ i j,x=.int i/\y=.int j/\C i j/\Q (g i j) H
noncomputable def rI0 (g:Int->Int->V):R2:=λx y H Q=>∃ i j,x=.int i/\y=.int j/\Q (g i j) H
section
variable {X:Cx}{a b c:Expr}{ta tb tc:TE}{pos:Pos}
theorem yp (ha:PE X a ta) (hb:PE X b tb) {pins:List (Addr × Obj)}{s:Shared}{σ:St}{H:Hp}{R:V->V->Hp->Prop} (I:Inv X pins σ H s)
  (h:ta σ H λx H1=>tb σ H1 λy H2=>R x y H2) {Q:Value->Shared->Prop}{f:Value->Value->Sem Value}
  (hf:∀ v u s2 x y H2,Inv X pins σ H2 s2->aw x v->aw y u->R x y H2->wpAny (model X.prog X.w) X.A (f v u) Q X.xe s2) :
  wpAny (model X.prog X.w) X.A (eval a X.env) (λv s₁=>wpAny (model X.prog X.w) X.A (eval b X.env) (λu s₂=>wpAny (model X.prog X.w) X.A (f v u) Q X.xe s₂) X.xe s₁) X.xe s:=by
 refine thn (ha pins s σ H _ I h) λv s1 ⟨x,H1,I1,r1,q1⟩=>?_
 refine thn (hb pins s1 σ H1 _ I1 q1) λu s2 ⟨y,H2,I2,r2,q2⟩=>?_
 exact hf v u s2 x y H2 I2 r1 r2 q2
theorem AL {op:Operator}{r:R2} (ho:OpR X (binaryOp op) r) (ha:PE X a ta) (hb:PE X b tb):PE X (.BinOp a op b pos) (tOp r ta tb):=by
 intro pins s σ H Q I h
 exact wpAny_BinOp (yp ha hb I h λv u s2 x y H2 I2 rx ry q=>ho pins s2 σ H2 x y v u Q I2 rx ry q)
theorem opI {f:Value->Value->Sem Value}{C:Int->Int->Prop}{g:Int->Int->Int}
  (rule:∀ (i j:Int) (t u:Tok) (s:Shared) (Q:Value->Shared->Prop) (E:Value->Shared->Prop),C i j->Q (.int (g i j) s.toks) { s with toks:=s.toks + 1 }->wpAny (model X.prog X.w) X.A (f (.int i t) (.int j u)) Q E s) :
  OpR X f (rI C λi j=>.int (g i j)):=by
 intro pins s σ H x y v u Q I rx ry h
 obtain ⟨i,j,rfl,rfl,hc,q⟩:=h
 obtain ⟨t,rfl⟩:=rx
 obtain ⟨t',rfl⟩:=ry
 exact rule i j t t' s _ _ hc ⟨.int (g i j),H,I.tok _,⟨_,rfl⟩,q⟩
theorem AM {f:Value->Value->Sem Value}{g:Int->Int->Int}
  (rule:∀ (i j:Int) (t u:Tok) (s:Shared) (Q:Value->Shared->Prop) (E:Value->Shared->Prop),Q (.int (g i j) s.toks) { s with toks:=s.toks + 1 }->wpAny (model X.prog X.w) X.A (f (.int i t) (.int j u)) Q E s) :
  OpR X f (rI0 λi j=>.int (g i j)):=by
 intro pins s σ H x y v u Q I rx ry h
 obtain ⟨i,j,rfl,rfl,q⟩:=h
 obtain ⟨t,rfl⟩:=rx
 obtain ⟨t',rfl⟩:=ry
 exact rule i j t t' s _ _ ⟨.int (g i j),H,I.tok _,⟨_,rfl⟩,q⟩
theorem v9 {f:Value->Value->Sem Value}{g:Int->Int->Bool}
  (rule:∀ (i j:Int) (t u:Tok) (s:Shared) (Q:Value->Shared->Prop) (E:Value->Shared->Prop),Q (.bool (g i j)) s->wpAny (model X.prog X.w) X.A (f (.int i t) (.int j u)) Q E s) :
  OpR X f (rI0 λi j=>.bl (g i j)):=by
 intro pins s σ H x y v u Q I rx ry h
 obtain ⟨i,j,rfl,rfl,q⟩:=h
 obtain ⟨t,rfl⟩:=rx
 obtain ⟨t',rfl⟩:=ry
 exact rule i j t t' s _ _ ⟨.bl (g i j),H,I,rfl,q⟩
noncomputable def Cz (i j:Int):Prop:=0 < j/\j < 1073741824
noncomputable def CA (i j:Int):Prop:=0 <= j/\j <= 1000000/\i.natAbs < 2 ^ 64
noncomputable def yq (i j:Int):Prop:=(-(2 ^ 64) < i/\i < 2 ^ 64) \/ (-(2 ^ 64) < j/\j < 2 ^ 64)
theorem yq.ok {i j:Int} (h:yq i j):IntMulOk i j:=by
 rcases h with ⟨h1,h2⟩|⟨h1,h2⟩
 ·exact .of_left (intBits_le_64 h1 h2)
 ·exact .of_right (intBits_le_64 h1 h2)
theorem oC (k:Nat):(0:Int) <= 2 ^ k:=by
 rw [two_pow_cast]
 exact Int.natCast_nonneg _
theorem yr:OpR X (binaryOp .Add) (rI0 λi j=>.int (i + j)):=AM λ_ _ _ _ _ _ _ q=>add_int q
theorem yt:OpR X (binaryOp .Sub) (rI0 λi j=>.int (i - j)):=AM λ_ _ _ _ _ _ _ q=>sub_int q
theorem yu:OpR X (binaryOp .Mult) (rI yq λi j=>.int (i * j)):=opI λ_ _ _ _ _ _ _ hc q=>mul_int q hc.ok
theorem v_:OpR X (binaryOp .FloorDiv) (rI Cz λi j=>.int (i / j)):=opI λi j _ _ _ _ _ hc q=>by
 have h1:(0:Int) < j:=hc.1
 have h2:j < 1073741824:=hc.2
 exact floordiv_int (by omega) (by rw [Int.fdiv_eq_ediv_of_nonneg i (by omega)];exact q) (.inl (PyProof.noPylong_small (by omega)))
theorem yw:OpR X (binaryOp .Mod) (rI (λ_ j=>0 < j) λi j=>.int (i % j)):=opI λi j _ _ _ _ _ hc q=>by
 have h1:(0:Int) < j:=hc
 exact mod_int' (by omega) (by rw [Int.fmod_eq_emod_of_nonneg i (by omega)];exact q)
theorem yx:OpR X (binaryOp .Pow) (rI CA λi j=>.int (i ^ j.toNat)):=opI λ_ _ _ _ _ _ _ hc q=>pow_int_small hc.1 hc.2.1 hc.2.2 q
theorem yy:OpR X (binaryOp .RShift) (rI (λ_ j=>0 <= j) λi j=>.int (i / 2 ^ j.toNat)):=opI λi j _ _ _ _ _ hc q =>
 rshift_int hc (by rw [Int.fdiv_eq_ediv_of_nonneg i (oC _)];exact q)
end
noncomputable def scal:V->V->Bool
 | .non,.non=>true|.non,.int _=>true|.int _,.non=>true|.non,.bl _=>true|.bl _,.non=>true|.non,.str _=>true|.str _,.non=>true
 | .int _,.int _=>true|.bl _,.bl _=>true|.str _,.str _=>true|.byt _,.byt _=>true
 | .int _,.str _=>true|.str _,.int _=>true|.bl _,.str _=>true|.str _,.bl _=>true
 | _,_=>false
noncomputable def rNe:R2:=λx y H Q=>scal x y=true/\Q (.bl (!decide (x=y))) H
theorem pS {i j:Int}:decide (V.int i=V.int j)=(i == j):=by
 rw [Bool.eq_iff_iff]
 simp
theorem sM {i j:Bool}:decide (V.bl i=V.bl j)=(i == j):=by
 rw [Bool.eq_iff_iff]
 simp
theorem pT {i j:Str}:decide (V.str i=V.str j)=(i == j):=by
 rw [Bool.eq_iff_iff]
 simp
theorem wa {i j:Array UInt8}:decide (V.byt i=V.byt j)=(i.toList == j.toList):=by
 rw [Bool.eq_iff_iff]
 cases i
 cases j
 simp
section
variable {X:Cx}{a b c:Expr}{ta tb tc:TE}{pos:Pos}
theorem bF {pins:List (Addr × Obj)}{σ:St}{H:Hp}{s:Shared}{Q:VK}{k k':Bool} (I:Inv X pins σ H s) (q:Q (.bl k) H) (e:k=k'):EP X pins σ Q (.bool k') s:=by
 subst e
 exact ⟨.bl k,H,I,rfl,q⟩
theorem AN:OpR X (compareOp .NotEq) rNe:=by
 intro pins s σ H x y v u Q I rx ry h
 obtain ⟨hs,q⟩:=h
 cases x with
 | non =>
  cases rx
  cases y with
  | non=>cases ry;exact PySem.EqNone.ne_none_none (bF I q (by simp))
  | bl j=>cases ry;exact PySem.EqNone.ne_none_bool (bF I q (by simp))
  | int j=>obtain ⟨t',rfl⟩:=ry;exact PySem.EqNone.ne_none_int (bF I q (by simp))
  | str j=>obtain ⟨t',rfl⟩:=ry;exact PySem.EqNone.ne_none_str (bF I q (by simp))
  | _=>exact absurd (show false=true from hs) Bool.false_ne_true
 | bl i =>
  cases rx
  cases y with
  | non=>cases ry;exact PySem.EqNone.ne_bool_none (bF I q (by simp))
  | bl j=>cases ry;exact ne_bool (bF I q (congrArg not sM))
  | str j=>obtain ⟨t',rfl⟩:=ry;exact PySem.EqMixed.ne_bool_str (bF I q (by simp))
  | _=>exact absurd (show false=true from hs) Bool.false_ne_true
 | int i =>
  obtain ⟨t,rfl⟩:=rx
  cases y with
  | non=>cases ry;exact PySem.EqNone.ne_int_none (bF I q (by simp))
  | int j=>obtain ⟨t',rfl⟩:=ry;exact ne_int (bF I q (congrArg not pS))
  | str j=>obtain ⟨t',rfl⟩:=ry;exact PySem.EqMixed.ne_int_str (bF I q (by simp))
  | _=>exact absurd (show false=true from hs) Bool.false_ne_true
 | str i =>
  obtain ⟨t,rfl⟩:=rx
  cases y with
  | non=>cases ry;exact PySem.EqNone.ne_str_none (bF I q (by simp))
  | bl j=>cases ry;exact PySem.EqMixed.ne_str_bool (bF I q (by simp))
  | int j=>obtain ⟨t',rfl⟩:=ry;exact PySem.EqMixed.ne_str_int (bF I q (by simp))
  | str j=>obtain ⟨t',rfl⟩:=ry;exact ne_str (bF I q (congrArg not pT))
  | _=>exact absurd (show false=true from hs) Bool.false_ne_true
 | byt i =>
  obtain ⟨t,rfl⟩:=rx
  cases y with
  | byt j=>obtain ⟨t',rfl⟩:=ry;exact PySem.W.ne_bytes (bF I q (congrArg not wa))
  | _=>exact absurd (show false=true from hs) Bool.false_ne_true
 | _=>cases y <;> exact absurd (show false=true from hs) Bool.false_ne_true
theorem AO:OpR X (compareOp .Lt) (rI0 λi j=>.bl (decide (i < j))):=v9 λ_ _ _ _ _ _ _ q=>lt_int q
theorem AQ:OpR X (compareOp .LtE) (rI0 λi j=>.bl (decide (i <= j))):=v9 λ_ _ _ _ _ _ _ q=>le_int q
theorem AR:OpR X (compareOp .Gt) (rI0 λi j=>.bl (decide (j < i))):=v9 λ_ _ _ _ _ _ _ q=>gt_int q
theorem AS:OpR X (compareOp .GtE) (rI0 λi j=>.bl (decide (j <= i))):=v9 λ_ _ _ _ _ _ _ q=>ge_int q
theorem yz:OpR X (compareOp .Is) (λx y H Q=>y=.non/\Q (.bl (decide (x=.non))) H):=by
 intro pins s σ H x y v u Q I rx ry h
 obtain ⟨rfl,q⟩:=h
 cases ry
 refine is_none_gen (bF I q ?_)
 cases x <;> first
  | (cases rx;rfl)
  | (obtain ⟨t,rfl⟩:=rx;rfl)
theorem wb:OpR X (compareOp .IsNot) (λx y H Q=>y=.non/\Q (.bl (!decide (x=.non))) H):=by
 intro pins s σ H x y v u Q I rx ry h
 obtain ⟨rfl,q⟩:=h
 cases ry
 refine isnot_none_gen (bF I q ?_)
 cases x <;> first
  | (cases rx;rfl)
  | (obtain ⟨t,rfl⟩:=rx;rfl)
theorem pU {op:CmpOp}{r:R2} (ho:OpR X (compareOp op) r) (ha:PE X a ta) (hb:PE X b tb) (hm:behindInMarks op b=false):PE X (.Compare a [op] [b] pos) (tOp r ta tb):=by
 intro pins s σ H Q I h
 exact wpAny_Compare1 (yp ha hb I h λv u s2 x y H2 I2 rx ry q=>ho pins s2 σ H2 x y v u Q I2 rx ry q) hm
noncomputable def xQ (t:TE):TT:=λσ H Q=>t σ H λx H'=>∃ k,x=.bl k/\Q k H'
theorem pV {op:CmpOp}{r:R2} (ho:OpR X (compareOp op) r) (ha:PE X a ta) (hb:PE X b tb) (hm:behindInMarks op b=false):PT X (.Compare a [op] [b] pos) (xQ (tOp r ta tb)):=by
 intro pins s σ H Q I h
 refine wpAny_isTrue_Compare1 (thn (ha pins s σ H _ I h) λv s1 ⟨x,H1,I1,r1,q1⟩=>thn (hb pins s1 σ H1 _ I1 q1) λu s2 ⟨y,H2,I2,r2,q2⟩ =>
  thn (ho pins s2 σ H2 x y v u _ I2 r1 r2 q2) λc s3 ⟨z,H3,I3,r3,k,e,q3⟩=>?_) hm
 subst e
 cases r3
 exact wpAny_truthy_bool ⟨H3,I3,q3⟩
noncomputable def sN (r r':R2) (ta tb tc:TE):TE:=λσ H Q=>ta σ H λx H1=>tb σ H1 λy H2=>r x y H2 λz H3=>∃ k,z=.bl k /\
 (if k=true then tc σ H3 λw' H4=>r' y w' H4 Q else Q (.bl false) H3)
theorem sO {op op':CmpOp}{r r':R2} (ho:OpR X (compareOp op) r) (ho':OpR X (compareOp op') r') (ha:PE X a ta) (hb:PE X b tb) (hc:PE X c tc)
  (hm:lastMarks [op,op'] [b,c]=false:=by with_unfolding_all rfl):PE X (.Compare a [op,op'] [b,c] pos) (sN r r' ta tb tc):=by
 intro pins s σ H Q I h
 refine Compare_chain (thn (ha pins s σ H _ I h) λv s1 ⟨x,H1,I1,r1,q1⟩=>chain_link (thn (hb pins s1 σ H1 _ I1 q1) λu s2 ⟨y,H2,I2,r2,q2⟩ =>
  thn (ho pins s2 σ H2 x y v u _ I2 r1 r2 q2) λd s3 ⟨z,H3,I3,r3,k,e,q3⟩=>?_)) hm
 subst e
 cases r3
 refine wpAny_truthy_bool ?_
 cases k with
 | false=>exact ite_ff ⟨.bl false,H3,I3,rfl,q3⟩
 | true=>exact ite_tt (chain_last (thn (hc pins s3 σ H3 _ I3 q3) λw' s4 ⟨z',H4,I4,r4,q4⟩=>ho' pins s4 σ H4 y z' u w' Q I4 r2 r4 q4))
theorem sP {op op':CmpOp}{r r':R2} (ho:OpR X (compareOp op) r) (ho':OpR X (compareOp op') r') (ha:PE X a ta) (hb:PE X b tb) (hc:PE X c tc)
  (hm:lastMarks [op,op'] [b,c]=false:=by with_unfolding_all rfl):PT X (.Compare a [op,op'] [b,c] pos) (xQ (sN r r' ta tb tc)):=by
 intro pins s σ H Q I h
 refine isTrue_chain (thn (ha pins s σ H _ I h) λv s1 ⟨x,H1,I1,r1,q1⟩=>test_link (thn (hb pins s1 σ H1 _ I1 q1) λu s2 ⟨y,H2,I2,r2,q2⟩ =>
  thn (ho pins s2 σ H2 x y v u _ I2 r1 r2 q2) λd s3 ⟨z,H3,I3,r3,k,e,q3⟩=>?_)) hm
 subst e
 cases r3
 refine wpAny_truthy_bool ?_
 cases k with
 | false =>
  obtain ⟨k',e',q'⟩:=q3
  cases e'
  exact ite_ff ⟨H3,I3,q'⟩
 | true =>
  refine ite_tt (test_last (thn (hc pins s3 σ H3 _ I3 q3) λw' s4 ⟨z',H4,I4,r4,q4⟩=>thn (ho' pins s4 σ H4 y z' u w' _ I4 r2 r4 q4) λd' s5 ⟨z2,H5,I5,r5,k2,e2,q5⟩=>?_))
  subst e2
  cases r5
  exact wpAny_truthy_bool ⟨H5,I5,q5⟩
theorem iA:(sizeLine:Nat) < 2 ^ 63:=by rw [sizeLine_eq];decide
theorem oE:OpR X (binaryOp .Add) (λx y H Q=>∃ i j,x=.str i/\y=.str j/\i.length + j.length <= sizeLine/\Q (.str (i ++ j)) H):=by
 intro pins s σ H x y v u Q I rx ry h
 obtain ⟨i,j,rfl,rfl,hz,q⟩:=h
 obtain ⟨t,rfl⟩:=rx
 obtain ⟨t',rfl⟩:=ry
 exact add_str (λt' tk=>⟨.str (i ++ j),H,I.tok _,⟨_,rfl⟩,q⟩) hz
theorem eN {x:V}{us:List Value} (r:au [x] us):∃ u,us=[u]/\aw x u:=by
 cases r with
 | cons r1 r2=>cases r2;exact ⟨_,rfl,r1⟩
theorem AT {x y:V}{us:List Value} (r:au [x,y] us):∃ u w',us=[u,w']/\aw x u/\aw y w':=by
 cases r with
 | cons r1 r2 =>
  cases r2 with
  | cons r3 r4=>cases r4;exact ⟨_,_,rfl,r1,r3⟩
end
end L2
namespace L2
open PySem PySem.Spec PyProof.Rows
structure oF (h:Heap) (x dx C:Addr) (mA:Str->Option Value):Prop where
 obj:h.get? x=some (PySem.W.instObj C dx)
 ns:h.Ns1 dx mA
 ne:dx ≠ x
theorem re {h:Heap}{dx:Addr}{mA:Str->Option Value} (n:h.Ns1 dx mA):∃ od,h.get? dx=some od/\∀ name,PySem.W.lookIn name od=some (mA name):=by
 obtain ⟨o,es,ep,ho,hd,hk,_,hm⟩:=n
 refine ⟨o,ho,λname=>?_⟩
 have e:=hm name
 unfold nsFind findBy at e
 rw [<- Array.find?_toList] at e
 unfold PySem.W.lookIn
 rw [hd]
 dsimp only
 split
 ·rename_i y q
  rw [q] at e
  exact congrArg some e
 ·rename_i q
  rw [q] at e
  have a:es.toList.any (·.refKey)=false:=by
   rw [List.any_eq_false]
   intro y hy
   obtain ⟨z,t,hkey⟩:=hk y (Array.mem_toList_iff.mp hy)
   simp [DictEntry.refKey,hkey]
  have a':¬ es.toList.any (·.refKey)=true:=by rw [a];exact Bool.false_ne_true
  rw [if_neg a']
  exact congrArg some e
theorem oF.look {h:Heap}{x dx C:Addr}{mA:Str->Option Value} (I:oF h x dx C mA):∃ od,PySem.W.InstAt h x (PySem.W.instObj C dx) C (some od)/\∀ name,PySem.W.lookIn name od=some (mA name) :=
 let ⟨od,ho,hl⟩:=re I.ns
 ⟨od,⟨I.obj,rfl,rfl,ho⟩,hl⟩
section
variable {prog:Program}{w:World}{A:Around}{E:Value->Shared->Prop}{s:Shared}{K:PySem.W.Frag}{x dx C f:Addr}{mA:Str->Option Value}{name:Str}{v:Value}
theorem wc {expr:Bool}{Q:Value->Shared->Prop} (X:K.In s.heap) (I:oF s.heap x dx C mA) (hg:PySem.W.plainGet K C name=true) (hh:PySem.W.hasDictIn K C=true)
  (ha:PySem.W.findIn K (.ref C) name=some none) (hv:mA name=some v) (hv':PySem.W.handedIn v=true) (h:Q v { s with toks:=s.toks + 1 }) :
  wpAny (model prog w) A (getAttr (.ref x) name expr) Q E s:=by
 obtain ⟨od,J,hl⟩:=I.look
 exact PySem.W.get_value X J (PySem.W.plainGet_of hg).1 (PySem.W.findObj_own hh ha rfl (by rw [hl,hv])) hv' h
theorem sQ {pl:Sem Bool}{Q:Value × List Value->Shared->Prop} (X:K.In s.heap) (I:oF s.heap x dx C mA) (hg:PySem.W.plainGet K C name=true)
  (hf:PySem.W.findIn K (.ref C) name=some (some (.ref f))) (ht:PySem.W.isFn K (.ref f)=true) (hv:mA name=none) (h:Q (.ref f,[.ref x]) s) :
  wpAny (model prog w) A (getMethod (.ref x) name pl) Q E s:=by
 obtain ⟨od,J,hl⟩:=I.look
 exact PySem.W.method_fn X J (PySem.W.plainGet_of hg).1 (PySem.W.plainGet_of hg).2 hf (beq_iff_eq.mp ht) (by show (PySem.W.lookIn name od).map (·.isSome)=some false;rw [hl,hv];rfl) h
theorem wd {ns:List Str}{Q:Unit->Shared->Prop} (X:K.In s.heap) (I:oF s.heap x dx C mA)
  (hs:PySem.W.findIn K (.ref C) "__setattr__"=some (some (.builtin "object.__setattr__"))) (hp:PySem.W.plainOver K C=true) (ht:PySem.W.takerIn K C name=some none) (hh:PySem.W.hasDictIn K C=true)
  (hw:PySem.Within mA ns) (hsz:ns.length <= sizeLine)
  (h:∀ h',oF h' x dx C (λy=>if y=name then some v else mA y)->Heap.SameBut dx s.heap h'->Q () { s with heap:=h',toks:=s.toks + 2 }) :
  wpAny (model prog w) A (setAttr (.ref x) name v) Q E s:=by
 obtain ⟨od,J,hl⟩:=I.look
 refine PySem.W.set_plain X J hs (PySem.W.osa_open (s:={ s with toks:=s.toks + 1 }) (r:=none) X J hp ht λb=>?_)
 obtain ⟨cd,hc,hd'⟩:=PySem.W.any_some hh
 have hx:s.heap.get? x=some ⟨.ref C,some dx,.plain,#[]⟩:=I.obj
 refine wpAny_bind (wpAny_pure (wpAny_bind (wpAny_bind (wpAny_loadPart hx (wpAny_bind (PySem.W.Looks.here (s:={ s with toks:=s.toks + 1 }) (PySem.W.looks_clsIn X hc) ?_))))))
 rw [hd']
 refine wpAny_pure (a:=some dx) (wpAny_bind (wpAny_pure (wpAny_bind ?_)))
 refine wpAny_nsSet1 (s:={ s with toks:=s.toks + 1 }) I.ns λh' hn2 hs2=>?_
 obtain ⟨oD,esD,epD,hoD,hdD,hcD⟩:=hn2.count (PySem.Within.cons name v hw)
 refine wpAny_bind (wpAny_lookBehind hoD (by rw [hdD];exact pastItsLine_dict (Nat.le_trans hcD (by rw [List.length_cons];omega))) ?_)
 exact wpAny_pure (h _ ⟨(hs2.2 _ (Ne.symm I.ne)).trans I.obj,hn2,I.ne⟩ hs2)
theorem sR {R:Result->Shared->Prop}{vs:List Value}{kw:List (Str × Value)} (X:K.In s.heap) (hm:PySem.W.makesIn K C=true)
  (hi:PySem.W.findIn K (.ref C) "__init__"=some (some (.ref f))) (hf:PySem.W.typeIn K (.ref f)=some (.type "function"))
  (h:codeAny (model prog w) (A.under (.builtin "type.__call__" ⟨.ref C::vs,kw⟩)) (.call (.ref f) ⟨.ref (s.heap.objs.size + 1)::vs,kw⟩) (PySem.W.InitBack (s.heap.objs.size + 1) R)
   { s with heap:=(s.heap.push PySem.W.emptyDict).push (PySem.W.instObj C s.heap.objs.size) }) :
  codeAny (model prog w) A (.call (.ref C) ⟨vs,kw⟩) R s:=by
 obtain ⟨hh,g,d,t,os⟩:=s
 exact PySem.W.make_core (PySem.W.makes_of X hm) (PySem.W.looks_findIn X hi) (λself=>PySem.W.bind_fn X self hf) (.inl rfl) h
end
noncomputable def dO (f:Str) (v:V):List (Str × V)->List (Str × V)
 | []=>[(f,v)]
 | (g,x)::r=>if g=f then (g,v)::r else (g,x)::dO f v r
theorem aA (f g:Str) (v:V):∀ fs:List (Str × V),(dO f v fs).lookup g=if g=f then some v else fs.lookup g
 | []=>by
  show List.lookup g [(f,v)]=_
  by_cases h:g=f
  ·have hb:(g == f)=true:=beq_iff_eq.mpr h
   simp only [List.lookup,hb,if_pos h]
  ·have hb:(g == f)=false:=beq_eq_false_iff_ne.mpr h
   simp only [List.lookup,hb,if_neg h]
 | (k,x)::r=>by
  have ih:=aA f g v r
  rw [show dO f v ((k,x)::r)=(if k=f then (k,v)::r else (k,x)::dO f v r) from rfl]
  by_cases hk:k=f
  ·rw [if_pos hk]
   by_cases h:g=k
   ·have hb:(g == k)=true:=beq_iff_eq.mpr h
    simp only [List.lookup,hb,if_pos (h.trans hk)]
   ·have hb:(g == k)=false:=beq_eq_false_iff_ne.mpr h
    simp only [List.lookup,hb,if_neg (λe:g=f=>h (e.trans hk.symm))]
  ·rw [if_neg hk]
   by_cases h:g=k
   ·have hb:(g == k)=true:=beq_iff_eq.mpr h
    simp only [List.lookup,hb,if_neg (λe:g=f=>hk (h.symm.trans e))]
   ·have hb:(g == k)=false:=beq_eq_false_iff_ne.mpr h
    simp only [List.lookup,hb]
    exact ih
theorem iB (f:Str) (v:V):∀ fs:List (Str × V),f ∈ (dO f v fs).map (·.1)/\∀ g,g ∈ fs.map (·.1)->g ∈ (dO f v fs).map (·.1)
 | []=>⟨by simp [dO],λg h=>by simp at h⟩
 | (k,x)::r=>by
  obtain ⟨i1,i2⟩:=iB f v r
  rw [show dO f v ((k,x)::r)=(if k=f then (k,v)::r else (k,x)::dO f v r) from rfl]
  by_cases hk:k=f
  ·rw [if_pos hk]
   subst hk
   exact ⟨by simp,λg h=>by simpa using h⟩
  ·rw [if_neg hk]
   refine ⟨?_,λg h=>?_⟩
   ·rw [List.map_cons]
    exact List.mem_cons_of_mem _ i1
   ·rw [List.map_cons] at h ⊢
    rcases List.mem_cons.mp h with e|e
    ·exact List.mem_cons.mpr (.inl e)
    ·exact List.mem_cons_of_mem _ (i2 g e)
theorem iV (f:Str) (v:V):∀ fs:List (Str × V),(dO f v fs).length <= fs.length + 1
 | []=>by simp [dO]
 | (k,x)::r=>by
  have ih:=iV f v r
  rw [show dO f v ((k,x)::r)=(if k=f then (k,v)::r else (k,x)::dO f v r) from rfl]
  by_cases hk:k=f
  ·rw [if_pos hk,List.length_cons,List.length_cons];omega
  ·rw [if_neg hk,List.length_cons,List.length_cons];omega
theorem fB.some_of {v:V}{o:Option Value} (r:fB (some v) o):∃ u,o=some u/\aw v u:=by
 cases o with
 | none=>exact (show False from r).elim
 | some u=>exact ⟨u,rfl,r⟩
theorem fB.none_of {o:Option Value} (r:fB none o):o=none:=by
 cases o with
 | none=>rfl
 | some u=>exact (show False from r).elim
theorem rf {v:V}{u:Value} (r:aw v u):PySem.W.handedIn u=true:=by
 cases v with
 | non=>cases (show u=Value.none from r);rfl
 | bl b=>cases (show u=Value.bool b from r);rfl
 | int i=>obtain ⟨t,e⟩:=(show ∃ t,u=Value.int i t from r);cases e;rfl
 | str x=>obtain ⟨t,e⟩:=(show ∃ t,u=Value.str x t from r);cases e;rfl
 | byt b=>obtain ⟨t,e⟩:=(show ∃ t,u=Value.bytes b t from r);cases e;rfl
 | flt b=>obtain ⟨t,e⟩:=(show ∃ t,u=Value.float b t from r);cases e;rfl
 | ref a=>cases (show u=Value.ref a from r);rfl
 | ty n=>cases (show u=Value.type n from r);rfl
section
variable {P:Program}{w:World}{H H':Hp}{h h':Heap}{a C dx:Addr}{fs fs':List (Str × V)}
theorem lN (hok:HOk P w H h) (e:H a=some (.ins C dx fs)):∃ mA,oF h a dx C mA/\(∀ f,fB (fs.lookup f) (mA f))/\PySem.Within mA (fs.map (·.1))/\fs.length <= 1000/\H dx=some (.own a):=by
 obtain ⟨d,z,ne,ob,mA,n,r,q⟩:=(show bB P w H h a (.ins C dx fs) from hok a _ e)
 exact ⟨mA,⟨ob,n,ne⟩,r,q,z,d⟩
end
structure Cls (K:PySem.W.Frag) (C:Addr):Prop where
 pg:PySem.W.plainGet K C Str.empty=true
 hd:PySem.W.hasDictIn K C=true
 po:PySem.W.plainOver K C=true
 sa:PySem.W.findIn K (.ref C) "__setattr__"=some (some (.builtin "object.__setattr__"))
theorem Cls.get {K:PySem.W.Frag}{C:Addr} (c:Cls K C) (f:Str):PySem.W.plainGet K C f=true:=c.pg
noncomputable def dP (K:PySem.W.Frag) (C:Addr) (f:Str):Prop:=PySem.W.findIn K (.ref C) f=some none
theorem dP.taker {K:PySem.W.Frag}{C:Addr}{f:Str} (n:dP K C f):PySem.W.takerIn K C f=some none:=by
 unfold PySem.W.takerIn
 rw [show PySem.W.findIn K (.ref C) f=some none from n]
 rfl
structure oG (K:PySem.W.Frag) (C:Addr) (m:Str) (f:Addr):Prop where
 at_:PySem.W.findIn K (.ref C) m=some (some (.ref f))
 fn:PySem.W.isFn K (.ref f)=true
 kp:PySem.W.keepIn K (.ref f)=true
section
variable {X:Cx}{pins:List (Addr × Obj)}{σ:St}{H:Hp}{s:Shared}{a C dx:Addr}{fs:List (Str × V)}{f:Str}{v:V}{A:Around}{E:Value->Shared->Prop}
theorem oH {b:Bool}{Q:Value->Shared->Prop} (I:Inv X pins σ H s) (e:H a=some (.ins C dx fs)) (c:Cls X.K C) (n:dP X.K C f) (l:fs.lookup f=some v)
  (h:∀ u s',Inv X pins σ H s'->aw v u->Q u s'):wpAny (model X.prog X.w) A (getAttr (.ref a) f b) Q E s:=by
 obtain ⟨mA,O,r,_,_,_⟩:=lN I.hok e
 obtain ⟨u,hu,ru⟩:=fB.some_of (v:=v) (o:=mA f) (by rw [<- l];exact r f)
 exact wc I.kIn O (c.get f) c.hd n hu (rf ru) (h u _ (I.tok _) ru)
theorem ju {m:Str}{g:Addr}{pl:Sem Bool}{Q:Value × List Value->Shared->Prop} (I:Inv X pins σ H s) (e:H a=some (.ins C dx fs)) (c:Cls X.K C) (k:oG X.K C m g) (l:fs.lookup m=none)
  (h:Q (.ref g,[.ref a]) s):wpAny (model X.prog X.w) A (getMethod (.ref a) m pl) Q E s:=by
 obtain ⟨mA,O,r,_,_,_⟩:=lN I.hok e
 have hn:mA m=none:=fB.none_of (by rw [<- l];exact r m)
 exact sQ I.kIn O (c.get m) k.at_ k.fn hn h
theorem oI {y:V}{u:Value}{Q:Unit->Shared->Prop} (I:Inv X pins σ H s) (e:H a=some (.ins C dx fs)) (c:Cls X.K C) (n:dP X.K C f) (hl:fs.length < 1000) (ry:aw y u)
  (h:∀ s',Inv X pins σ (upd H a (.ins C dx (dO f y fs))) s'->Q () s'):wpAny (model X.prog X.w) A (setAttr (.ref a) f u) Q E s:=by
 obtain ⟨mA,O,r,wi,_,ho⟩:=lN I.hok e
 have hz:(fs.map (·.1)).length <= sizeLine:=by rw [List.length_map,sizeLine_eq];omega
 refine wd I.kIn O c.sa c.po n.taker c.hd wi hz λh' O' sb=>h _ ?_
 have hd:∃ o,h'.get? dx=some o:=let ⟨o,_,_,e',_⟩:=O'.ns;⟨o,e'⟩
 refine I.write (x:=a) (e:=dx) (by rw [e];exact True.intro) (.inr ho) (λb q hb z=>(sb.2 b hb).trans z) hd ?_
 refine ⟨by rw [af O.ne];exact ho,?_,O.ne,O'.obj,_,O'.ns,λg=>?_,λg hg=>?_⟩
 ·have:=iV f y fs;omega
 ·show fB ((dO f y fs).lookup g) (if g=f then some u else mA g)
  rw [aA]
  by_cases q:g=f
  ·rw [if_pos q,if_pos q];exact ry
  ·rw [if_neg q,if_neg q];exact r g
 ·by_cases q:g=f
  ·rw [q];exact (iB f y fs).1
  ·refine (iB f y fs).2 g (wi g λz=>hg ?_)
   show (if g=f then some u else mA g)=none
   rw [if_neg q];exact z
theorem Inv.made (I:Inv X pins σ H s):Inv X pins σ (upd (upd H s.heap.objs.size (.own (s.heap.objs.size + 1))) (s.heap.objs.size + 1) (.ins C s.heap.objs.size []))
  { s with heap:=(s.heap.push PySem.W.emptyDict).push (PySem.W.instObj C s.heap.objs.size) }:=by
 have e1:(s.heap.push PySem.W.emptyDict).get? s.heap.objs.size=some PySem.W.emptyDict:=Heap.get?_push_size s.heap rfl
 have e2:((s.heap.push PySem.W.emptyDict).push (PySem.W.instObj C s.heap.objs.size)).get? (s.heap.objs.size + 1)=some (PySem.W.instObj C s.heap.objs.size):=by
  have:=Heap.get?_push_size (s.heap.push PySem.W.emptyDict) (o:=PySem.W.instObj C s.heap.objs.size) rfl
  rwa [Heap.size_push] at this
 have e3:(s.heap.push PySem.W.emptyDict).Ns s.heap.objs.size (λ_=>none):=⟨PySem.W.emptyDict,#[],_,e1,rfl,(λe he=>absurd he (by simp)),λ_=>rfl⟩
 have I1:=I.laid (a:=s.heap.objs.size) (o:=.own (s.heap.objs.size + 1)) (h':=s.heap.push PySem.W.emptyDict) (t':=s.toks) (λb u q=>Heap.get?_push_of_some _ q) (Nat.le_refl _) ⟨_,e1⟩
 refine I1.laid (a:=s.heap.objs.size + 1) (o:=.ins C s.heap.objs.size []) (t':=s.toks) (λb u q=>Heap.get?_push_of_some _ q) (Nat.le_of_eq (Heap.size_push _ _)) ?_
 have ne:s.heap.objs.size ≠ s.heap.objs.size + 1:=Nat.ne_of_lt (Nat.lt_succ_self _)
 refine ⟨by rw [af ne,aj],Nat.zero_le _,ne,e2,λ_=>none,(Heap.Ns1.of_empty e3).at λo q=>Heap.get?_push_of_some _ q,λ_=>True.intro,λy hy=>absurd rfl hy⟩
theorem we {prog:Program}{w:World}{env:Env}{e:Expr}{f:Str}{pos:Pos}{s:Shared}{Q:Value->Shared->Prop} (hb:attributeBase e f env (eval e env)=eval e env)
  (h:wpAny (model prog w) A (eval e env) (λo s₁=>wpAny (model prog w) A (getAttr o f true) Q E s₁) E s):wpAny (model prog w) A (eval (.Attribute e f pos) env) Q E s :=
 Attribute_any_ h (by rw [arm_eval_Attribute,hb])
end
noncomputable def AU (K:PySem.W.Frag) (ta:TE) (f:Str):TE:=λσ H Q=>ta σ H λx H1=>∃ a C dx fs v,x=.ref a/\H1 a=some (.ins C dx fs)/\Cls K C/\dP K C f/\fs.lookup f=some v/\Q v H1
noncomputable def CB (K:PySem.W.Frag) (ta tv:TE) (f:Str):TS:=λD σ H=>tv σ H λy H1=>ta σ H1 λx H2=>∃ a C dx fs,x=.ref a/\H2 a=some (.ins C dx fs)/\Cls K C/\dP K C f/\fs.length < 1000 /\
 D.nx σ (upd H2 a (.ins C dx (dO f y fs)))
section
variable {X:Cx}{o e value:Expr}{f:Str}{pos pos' tpos:Pos}{ta tv:TE}
theorem yA (he:PE X e ta) (hb:attributeBase e f X.env (eval e X.env)=eval e X.env):PE X (.Attribute e f pos) (AU X.K ta f):=by
 intro pins s σ H Q I h
 refine we hb (thn (he pins s σ H _ I h) λu s1 ⟨x,H1,I1,rx,a,C,dx,fs,v,ex,ea,c,n,l,q⟩=>?_)
 subst ex
 obtain rfl:u=Value.ref a:=rx
 exact oH I1 ea c n l λu' s2 I2 ru=>⟨v,H1,I2,ru,q⟩
theorem lP (ha:PE X o ta) (hv:PE X value tv) (hs:swapsWith value (some (.Attribute o f pos')) pos.line X.env=pure false):PS X (.Assign [.Attribute o f pos'] value pos) (CB X.K ta tv f):=by
 intro pins s σ H D I h
 refine plainObj_wpAny_Assign_Attribute (thn (hv pins s σ H _ I h) λu s1 ⟨y,H1,I1,ry,q⟩=>thn (ha pins s1 σ H1 _ I1 q) λov s2 ⟨x,H2,I2,rx,a,C,dx,fs,ex,ea,c,n,l,q2⟩=>?_) hs
 subst ex
 obtain rfl:ov=Value.ref a:=rx
 exact oI I2 ea c n l ry λs3 I3=>⟨σ,_,I3,q2⟩
end
section
variable {X:Cx}{pins:List (Addr × Obj)}{σ:St}{H:Hp}{s:Shared}{A:Around}{E:Value->Shared->Prop}{Q:Value->Shared->Prop}{c:Value}{b:Bool}
end
end L2
namespace L2
open PySem PySem.Spec PyProof.Rows
structure dj (k:Nat) (A:Around):Prop where
 hd:A.handled=none
 dp:A.depth + 3 * k + 5 < recursionLimit
 un:A.units + 16 * k + 200 < cLine
theorem dj.mono {j k:Nat}{A:Around} (r:dj k A) (h:j <= k):dj j A:=⟨r.hd,by have:=r.dp;omega,by have:=r.un;omega⟩
theorem dj.deeper {k:Nat}{A:Around} (r:dj (k + 1) A) (env:Env):dj k (A.deeper env) :=
 ⟨r.hd,by have:=r.dp;show A.depth + 1 + 3 * k + 5 < _;omega,by have:=r.un;show A.units + 3 + 16 * k + 200 < _;omega⟩
theorem oJ {A:Around}{C:Addr}{us:List Value}{kw:List (Str × Value)}:(A.under (.builtin "type.__call__" ⟨.ref C::us,kw⟩)).depth=A.depth + 1:=by
 first|rfl|simp [Around.under,Code.weight,Code.isCreation,Code.isGuard,Code.isCaller,Code.frames,Code.isFrame,guardIds]
theorem oK {A:Around}{C:Addr}{us:List Value}{kw:List (Str × Value)}:(A.under (.builtin "type.__call__" ⟨.ref C::us,kw⟩)).units=A.units + 1:=by
 first|rfl|simp [Around.under,Code.cUnits,Code.frames,Code.isFrame]
theorem dj.make {k:Nat}{A:Around} (r:dj (k + 1) A) (C:Addr) (us:List Value) (kw:List (Str × Value)):dj k (A.under (.builtin "type.__call__" ⟨.ref C::us,kw⟩)) :=
 ⟨r.hd,by have:=r.dp;rw [oJ];omega,by have:=r.un;rw [oK];omega⟩
theorem dj.depth {k:Nat}{A:Around} (r:dj k A):A.depth < recursionLimit:=by have:=r.dp;omega
noncomputable def gK:TA:=λ_ H Q=>Q [] H
noncomputable def pW (ta:TE) (tr:TA):TA:=λσ H Q=>ta σ H λx H1=>tr σ H1 λxs H2=>Q (x::xs) H2
section
variable {X:Cx}{e:Expr}{es:List Expr}{te:TE}{t:TA}{pos:Pos}
theorem cn:PA X [] gK:=λ_ _ _ _ H Q I h=>Calls.spliced_nil ⟨[],H,I,.nil,h⟩
theorem bC (ha:PE X e te) (hr:PA X es t) (hs:starEach (e::es) X.env=(false,eval e X.env)::starEach es X.env:=by rfl):PA X (e::es) (pW te t):=by
 intro pos pins s σ H Q I h
 rw [hs]
 show wpAny _ _ (spliced ((false,eval e X.env)::backTo pos (starEach es X.env))) _ _ s
 refine Calls.spliced_cons (thn (ha pins s σ H _ I h) λu s1 ⟨x,H1,I1,r1,q1⟩=>?_)
 exact thn (hr pos pins s1 σ H1 _ I1 q1) λus s2 ⟨xs,H2,I2,r2,q2⟩=>⟨x::xs,H2,I2,.cons r1 r2,q2⟩
noncomputable def CC (t:TA):TE:=λσ H Q=>t σ H λxs H1=>xs.length <= sizeLine/\∀ p,H1 p=none->Q (.ref p) (upd H1 p (.tup xs))
noncomputable def lQ (t:TA):TE:=λσ H Q=>t σ H λxs H1=>xs.length <= sizeLine/\∀ p,H1 p=none->Q (.ref p) (upd H1 p (.lst xs))
theorem yB {x1} (h:PA X es t):PE X (.Tuple es x1 pos) (CC t):=by
 intro pins s σ H Q I hq
 refine wpAny_Tuple_spliced (thn (h pos pins s σ H _ I hq) λus s1 ⟨xs,H1,I1,r,z,q⟩=>⟨by rw [<- r.length];exact z,?_⟩)
 have hf:H1 s1.heap.objs.size=none:=I1.hok.fresh (Nat.le_refl _)
 refine ⟨.ref s1.heap.objs.size,upd H1 s1.heap.objs.size (.tup xs),I1.laid (t':=s1.toks) (λb u e=>Heap.get?_push_of_some _ e) (Nat.le_refl _) ?_,rfl,q _ hf⟩
 exact ⟨z,us,r,⟨_,Heap.get?_push_size _ rfl,rfl,_,rfl⟩⟩
theorem lR (h:PA X es t):PE X (.List es pos) (lQ t):=by
 intro pins s σ H Q I hq
 refine wpAny_List_spliced (thn (h pos pins s σ H _ I hq) λus s1 ⟨xs,H1,I1,r,z,q⟩=>⟨by rw [<- r.length];exact z,?_⟩)
 have hf:H1 s1.heap.objs.size=none:=I1.hok.fresh (Nat.le_refl _)
 refine ⟨.ref s1.heap.objs.size,upd H1 s1.heap.objs.size (.lst xs),I1.laid (t':=s1.toks) (λb u e=>Heap.get?_push_of_some _ e) (Nat.le_refl _) ?_,rfl,q _ hf⟩
 exact ⟨z,us,0,r,Heap.get?_push_size _ rfl⟩
end
noncomputable abbrev Sp:=List V->Hp->VK->XK->Prop
noncomputable abbrev CXT:=List Env->Hp->Shared->XK->Value->Shared->Prop
structure oM (P:Program) (w:World) (K:PySem.W.Frag) (mg:Str->Option Value) (base:Heap) (A:Around) (outer:List Env) (s:Shared) (H:Hp):Prop where
 frames:A.frames=some outer
 mod:Mod K mg base
 bs:∀ b o,base.get? b=some o->s.heap.get? b=some o/\H b=none
 bsz:base.objs.size <= s.heap.objs.size
 funs:s.heap.FunFrames base outer
 frf:∀ b ∈ frs outer,H b=none
 hok:HOk P w H s.heap
 bare:AllBare s.gens
noncomputable def CE (outer:List Env) (P:Program) (w:World) (H:Hp) (s:Shared) (Q:VK) (u:Value) (s':Shared):Prop :=
 ∃ v H',s'.os=s.os/\AllBare s'.gens/\Un (frs outer) [] H H' s.heap s'.heap/\HOk P w H' s'.heap/\aw v u/\Q v H'
noncomputable def CR (CX:CXT) (outer:List Env) (P:Program) (w:World) (H:Hp) (s:Shared) (Q:VK) (E:XK) (r:Result) (s':Shared):Prop :=
 match r with
 | .ok (.ret u)=>CE outer P w H s Q u s'
 | .ok _=>False
 | .error e=>CX outer H s E e s'
structure dQ (P:Program) (w:World) (K:PySem.W.Frag) (mg:Str->Option Value) (base:Heap) (CX:CXT) (k:Nat) (f:Addr) (fd:FuncData) (ps:List Str) (sp:Sp):Prop where
 len:∀ vs H Q E,sp vs H Q E->vs.length=ps.length
 run:∀ (A:Around) (outer:List Env) (s:Shared) (H:Hp) (args:Args) (us:List Value) (vs:List V) (Q:VK) (E:XK),dj k A->oM P w K mg base A outer s H->BindsTo s fd args (ps.zip us)->au vs us->sp vs H Q E ->
  codeAny (model P w) A (.call (.ref f) args) (CR CX outer P w H s Q E) s
theorem oM.make {P:Program}{w:World}{K:PySem.W.Frag}{mg:Str->Option Value}{base:Heap}{A:Around}{outer:List Env}{s:Shared}{H:Hp} (e:oM P w K mg base A outer s H) (C:Addr) (us:List Value) (kw:List (Str × Value)) :
  oM P w K mg base (A.under (.builtin "type.__call__" ⟨.ref C::us,kw⟩)) outer s H:=⟨by first|exact e.frames|(simpa [Around.under,Code.envs,Code.isFrame,pushEnvs] using e.frames),e.mod,e.bs,e.bsz,e.funs,e.frf,e.hok,e.bare⟩
section
variable {X:Cx}{pins:List (Addr × Obj)}{σ:St}{H:Hp}{s s':Shared}
theorem Inv.env0 (I:Inv X pins σ H s):oM X.prog X.w X.K X.mg X.base X.A X.stack s H :=
 ⟨I.ok.frames,I.ok.mod,I.bs,Nat.le_trans I.ok.bsz I.sz,I.stack,I.stkFree,I.hok,I.bare⟩
theorem Inv.after {Q:VK}{u:Value} (I:Inv X pins σ H s) (h:CE X.stack X.prog X.w H s Q u s'):EP X pins σ Q u s':=by
 obtain ⟨v,H',os,bare,un,hok,r,q⟩:=h
 obtain ⟨hh,g,d,t,os'⟩:=s'
 obtain rfl:os'=s.os:=os
 exact ⟨v,H',I.call (h':=hh) (g':=g) (d':=d) (t':=t) (ch:=[]) un hok bare (λb z=>absurd z (by simp)),r,q⟩
end
noncomputable def sS (sp:Sp) (dvs:List V) (E:XK) (t:TA):TE:=λσ H Q=>t σ H λvs H1=>sp (vs ++ dvs) H1 Q E
noncomputable def pX (C:Addr) (m:Str) (sp:Sp) (dvs:List V) (E:XK) (ta:TE) (t:TA):TE:=λσ H Q=>ta σ H λx H1=>∃ a dx fs,x=.ref a/\H1 a=some (.ins C dx fs)/\fs.lookup m=none /\
 t σ H1 λvs H2=>sp (x::(vs ++ dvs)) H2 Q E
noncomputable def AV (C:Addr) (sp:Sp) (dvs:List V) (E:XK) (t:TA):TE:=λσ H Q=>t σ H λvs H1=>∀ x dx,H1 x=none->H1 dx=none->dx ≠ x ->
 sp (.ref x::(vs ++ dvs)) (upd (upd H1 dx (.own x)) x (.ins C dx [])) (λv H2=>v=.non/\Q (.ref x) H2) E
noncomputable def bc (K:PySem.W.Frag) (fd:FuncData) (ps:List Str) (ds:List Value):Prop :=
 ∀ (s:Shared) (us:List Value),K.In s.heap->(us ++ ds).length=ps.length->BindsTo s fd ⟨us,[]⟩ (ps.zip (us ++ ds))
theorem bc.all {K:PySem.W.Frag}{fd:FuncData}{ps:List Str} (h:∀ us:List Value,us.length=ps.length->bindArgs fd ⟨us,[]⟩=pure (ps.zip us)):bc K fd ps []:=λs us _ hl=>by
 rw [List.append_nil] at hl ⊢
 exact .of_eq (h us hl)
noncomputable def fE (CX:CXT) (X:Cx) (E:XK):Prop:=∀ (pins:List (Addr × Obj)) (σ:St) (H:Hp) (s:Shared) (e:Value) (s':Shared),Inv X pins σ H s->CX X.stack H s E e s'->X.xe e s'
section
variable {X:Cx}{CX:CXT}{k:Nat}{f C:Addr}{fd:FuncData}{ps:List Str}{sp:Sp}{dvs:List V}{ds:List Value}{E:XK}{x m:Str}{p pos apos:Pos}{e o:Expr}{es:List Expr}{ta:TE}{t:TA}
theorem lS {pins:List (Addr × Obj)}{σ:St}{H:Hp}{s:Shared}{Q:VK}{us:List Value}{vs:List V} (F:dQ X.prog X.w X.K X.mg X.base CX k f fd ps sp) (hr:dj k X.A) (hb:bc X.K fd ps ds) (hd:au dvs ds) (hx:fE CX X E)
  (I:Inv X pins σ H s) (r:au vs us) (h:sp (vs ++ dvs) H Q E):wpAny (model X.prog X.w) X.A (call (.ref f) us) (EP X pins σ Q) X.xe s:=by
 have r2:au (vs ++ dvs) (us ++ ds):=r.append hd
 have hl:(us ++ ds).length=ps.length:=by rw [<- r2.length];exact F.len _ _ _ _ h
 refine wpAny_call (codeAny_mono (F.run X.A X.stack s H ⟨us,[]⟩ (us ++ ds) (vs ++ dvs) Q E hr I.env0 (hb s us I.kIn hl) r2 h) λr s' hq=>?_)
 cases r with
 | error e=>exact hx pins σ H s e s' I hq
 | ok fl =>
  cases fl with
  | ret u=>exact I.after hq
  | next=>exact False.elim hq
  | brk=>exact False.elim hq
  | cont=>exact False.elim hq
theorem wf (F:dQ X.prog X.w X.K X.mg X.base CX k f fd ps sp) (hr:dj k X.A) (hg:Gl X x) (hm:X.mg x=some (.ref f)) (hk:PySem.W.keepIn X.K (.ref f)=true) (hb:bc X.K fd ps ds) (hd:au dvs ds) (hx:fE CX X E)
  (ha:PA X (e::es) t) (hdb:(x == ("__debug__":Str))=false:=by decide) (he:starEach (e::es) X.env=(false,eval e X.env)::starEach es X.env:=by rfl) (hpl:(backTo pos (starEach es X.env)).any (·.1)=false:=by rfl) :
  PE X (.Call (.Name x p) (e::es) [] pos) (sS sp dvs E t):=by
 intro pins s σ H Q I h
 refine wpAny_Call_Name_kw (jd I hg hm ?_ hdb)
 refine PySem.W.callWith_K (h₀:=X.base) I.ok.mod.kin hk (thn (ha pos pins s σ H _ I h) λus s1 ⟨vs,H1,I1,r,q⟩=>⟨I1.kIn,?_⟩) he hpl
 exact lS F hr hb hd hx I1 r q
theorem sT (F:dQ X.prog X.w X.K X.mg X.base CX k f fd ps sp) (hr:dj k X.A) (hg:Gl X x) (hm:X.mg x=some (.ref f)) (hk:PySem.W.keepIn X.K (.ref f)=true) (hb:bc X.K fd ps ds) (hd:au dvs ds) (hx:fE CX X E)
  (hdb:(x == ("__debug__":Str))=false:=by decide):PE X (.Call (.Name x p) [] [] pos) (sS sp dvs E gK):=by
 intro pins s σ H Q I h
 refine wpAny_Call_Name_kw (jd I hg hm ?_ hdb)
 exact PySem.W.callWith_K0 I.kIn hk (lS (us:=[]) F hr hb hd hx I .nil h)
theorem pY {pl:Sem Bool} (he:PE X o ta) (c:Cls X.K C) (hm:oG X.K C m f) (F:dQ X.prog X.w X.K X.mg X.base CX k f fd ps sp) (hr:dj k X.A) (hb:bc X.K fd ps ds) (hd:au dvs ds) (hx:fE CX X E) (ha:PA X (e::es) t)
  (hst:starEach (e::es) X.env=(false,eval e X.env)::starEach es X.env:=by rfl) (hpl:(backTo pos (starEach es X.env)).any (·.1)=false:=by rfl)
  (ht:eval (.Call (.Attribute o m apos) (e::es) [] pos) X.env=(do
   let ov <- eval o X.env
   standAt apos.atName
   let (f,first) <- holding [ov] (getMethod ov m pl)
   callWith pos f first (backTo pos (starEach (e::es) X.env)) (backToKw pos (keywordEach [] X.env))):=by rfl) :
  PE X (.Call (.Attribute o m apos) (e::es) [] pos) (pX C m sp dvs E ta t):=by
 intro pins s σ H Q I h
 refine PySem.W.methodCall_KW (pl:=pl) (thn (he pins s σ H _ I h) λu s1 ⟨x,H1,I1,rx,a,dx,fs,ex,ea,l,q⟩=>?_) ht
 subst ex
 obtain rfl:u=Value.ref a:=rx
 refine ju I1 ea c hm l ?_
 refine PySem.W.callWith_K (first:=[.ref a]) (h₀:=X.base) I.ok.mod.kin hm.kp (thn (ha pos pins s1 σ H1 _ I1 q) λus s2 ⟨vs,H2,I2,r,q2⟩=>⟨I2.kIn,?_⟩) hst hpl
 exact lS (us:=.ref a::us) (vs:=.ref a::vs) F hr hb hd hx I2 (.cons rfl r) q2
theorem mP {pl:Sem Bool} (he:PE X o ta) (c:Cls X.K C) (hm:oG X.K C m f) (F:dQ X.prog X.w X.K X.mg X.base CX k f fd ps sp) (hr:dj k X.A) (hb:bc X.K fd ps ds) (hd:au dvs ds) (hx:fE CX X E)
  (ht:eval (.Call (.Attribute o m apos) [] [] pos) X.env=(do
   let ov <- eval o X.env
   standAt apos.atName
   let (f,first) <- holding [ov] (getMethod ov m pl)
   callWith pos f first (backTo pos (starEach [] X.env)) (backToKw pos (keywordEach [] X.env))):=by rfl) :
  PE X (.Call (.Attribute o m apos) [] [] pos) (pX C m sp dvs E ta gK):=by
 intro pins s σ H Q I h
 refine PySem.W.methodCall_KW (pl:=pl) (thn (he pins s σ H _ I h) λu s1 ⟨x,H1,I1,rx,a,dx,fs,ex,ea,l,q⟩=>?_) ht
 subst ex
 obtain rfl:u=Value.ref a:=rx
 refine ju I1 ea c hm l ?_
 exact PySem.W.callWith_K0 (first:=[.ref a]) I1.kIn hm.kp (lS (us:=[.ref a]) (vs:=[.ref a]) F hr hb hd hx I1 (.cons rfl .nil) q)
structure Mk (K:PySem.W.Frag) (C f:Addr):Prop where
 makes:PySem.W.makesIn K C=true
 init:PySem.W.findIn K (.ref C) "__init__"=some (some (.ref f))
 fn:PySem.W.isFn K (.ref f)=true
 kp:PySem.W.keepIn K (.ref C)=true
theorem sU {pins:List (Addr × Obj)}{σ:St}{H:Hp}{s:Shared}{Q:VK}{us:List Value}{vs:List V} (M:Mk X.K C f) (F:dQ X.prog X.w X.K X.mg X.base CX k f fd ps sp) (hr:dj (k + 1) X.A) (hb:bc X.K fd ps ds) (hd:au dvs ds)
  (hx:fE CX X E) (I:Inv X pins σ H s) (r:au vs us)
  (h:∀ x dx,H x=none->H dx=none->dx ≠ x->sp (.ref x::(vs ++ dvs)) (upd (upd H dx (.own x)) x (.ins C dx [])) (λv H2=>v=.non/\Q (.ref x) H2) E) :
  wpAny (model X.prog X.w) X.A (call (.ref C) us) (EP X pins σ Q) X.xe s:=by
 have hq:=h (s.heap.objs.size + 1) s.heap.objs.size (I.hok.fresh (Nat.le_succ _)) (I.hok.fresh (Nat.le_refl _)) (Nat.ne_of_lt (Nat.lt_succ_self _))
 have I2:=Inv.made (C:=C) I
 have r2:au (V.ref (s.heap.objs.size + 1)::(vs ++ dvs)) (Value.ref (s.heap.objs.size + 1)::(us ++ ds)):=.cons rfl (r.append hd)
 have hl:(Value.ref (s.heap.objs.size + 1)::us ++ ds).length=ps.length:=by
  have e:=r2.length
  rw [F.len _ _ _ _ hq] at e
  exact e.symm
 refine wpAny_call (sR (f:=f) I.kIn M.makes M.init (beq_iff_eq.mp M.fn) (codeAny_mono (F.run _ X.stack _ _ ⟨Value.ref (s.heap.objs.size + 1)::us,[]⟩ (Value.ref (s.heap.objs.size + 1)::(us ++ ds)) _ _ E (hr.make C us [])
  (I2.env0.make C us []) (hb _ (Value.ref (s.heap.objs.size + 1)::us) I2.kIn hl) r2 hq) λr s' hq'=>?_))
 cases r with
 | error e=>exact hx pins σ _ _ e s' I2 hq'
 | ok fl =>
  cases fl with
  | ret u =>
   obtain ⟨v,H',I3,rv,ev,q3⟩:=I2.after hq'
   subst ev
   exact ⟨rv,⟨V.ref (s.heap.objs.size + 1),H',I3,rfl,q3⟩⟩
  | next=>exact False.elim hq'
  | brk=>exact False.elim hq'
  | cont=>exact False.elim hq'
theorem pZ (M:Mk X.K C f) (F:dQ X.prog X.w X.K X.mg X.base CX k f fd ps sp) (hr:dj (k + 1) X.A) (hg:Gl X x) (hm:X.mg x=some (.ref C)) (hb:bc X.K fd ps ds) (hd:au dvs ds) (hx:fE CX X E)
  (ha:PA X (e::es) t) (hdb:(x == ("__debug__":Str))=false:=by decide) (he:starEach (e::es) X.env=(false,eval e X.env)::starEach es X.env:=by rfl) (hpl:(backTo pos (starEach es X.env)).any (·.1)=false:=by rfl) :
  PE X (.Call (.Name x p) (e::es) [] pos) (AV C sp dvs E t):=by
 intro pins s σ H Q I h
 refine wpAny_Call_Name_kw (jd I hg hm ?_ hdb)
 refine PySem.W.callWith_K (h₀:=X.base) I.ok.mod.kin M.kp (thn (ha pos pins s σ H _ I h) λus s1 ⟨vs,H1,I1,r,q⟩=>⟨I1.kIn,?_⟩) he hpl
 exact sU M F hr hb hd hx I1 r q
end
section
variable {X:Cx}{CX:CXT}{k:Nat}{f C:Addr}{fd:FuncData}{ps ks:List Str}{sp:Sp}{E:XK}{x m:Str}{p pos apos kpos:Pos}{e o:Expr}{es:List Expr}{kws:List Keyword}{te ta:TE}{t tk:TA}{nm:Option Str}
variable {g:List Value->List Value->List Value}{gV:List V->List V->List V}
end
structure jg (N P:List Str) (sc:Scope):Prop where
 kind:sc.kind=.function
 co:sc.isCoroutine=false
 gen:sc.isGenerator=false
 nd:N.Nodup
 pre:N.take P.length=P
 par:∀ x ∈ P,sc.names.lookup x=some .local \/ sc.names.lookup x=some .cell
 nofree:∀ y ∈ sc.names,y.2 ≠ .free
theorem kR {kindOf:Str->Option NameKind}{x:Str}:∀ {binds:List (Str × Value)}{m:Str->Option Value},(∀ v,(x,v) ∉ binds)->bindL kindOf binds m x=m x
 | [],_,_=>rfl
 | (n,v)::r,m,h=>by
  unfold bindL
  rw [kR λw hw=>h w (List.mem_cons_of_mem _ hw)]
  split
  ·have:x ≠ n:=by rintro rfl;exact h v List.mem_cons_self
   simp [this]
  ·rfl
theorem kS {kindOf:Str->Option NameKind}{x:Str}:∀ {binds:List (Str × Value)}{m:Str->Option Value},(∀ v,(x,v) ∉ binds)->bindC kindOf binds m x=m x
 | [],_,_=>rfl
 | (n,v)::r,m,h=>by
  unfold bindC
  rw [kS λw hw=>h w (List.mem_cons_of_mem _ hw)]
  split
  ·rfl
  ·have:x ≠ n:=by rintro rfl;exact h v List.mem_cons_self
   simp [this]
theorem kT {kindOf:Str->Option NameKind}{x:Str}{v:Value}:∀ {P:List Str}{vs:List Value}{i:Nat}{m:Str->Option Value},P.Nodup->P[i]?=some x->vs[i]?=some v->kindOf x=some .local ->
  bindL kindOf (P.zip vs) m x=some v
 | [],_,_,_,_,h,_,_=>by simp at h
 | _::_,[],_,_,_,_,h,_=>by simp at h
 | p::P,w::vs,0,m,nd,h1,h2,hk=>by
  simp at h1 h2;subst h1;subst h2
  show bindL kindOf ((p,w)::P.zip vs) m p=_
  unfold bindL
  rw [kR λv hv=>(List.nodup_cons.mp nd).1 (List.of_mem_zip hv).1,if_pos hk]
  simp
 | p::P,w::vs,i + 1,m,nd,h1,h2,hk=>by
  show bindL kindOf ((p,w)::P.zip vs) m x=_
  unfold bindL
  exact kT (i:=i) (List.nodup_cons.mp nd).2 (by simpa using h1) (by simpa using h2) hk
theorem kU {kindOf:Str->Option NameKind}{x:Str}{v:Value}:∀ {P:List Str}{vs:List Value}{i:Nat}{m:Str->Option Value},P.Nodup->P[i]?=some x->vs[i]?=some v->kindOf x ≠ some .local ->
  bindC kindOf (P.zip vs) m x=some v
 | [],_,_,_,_,h,_,_=>by simp at h
 | _::_,[],_,_,_,_,h,_=>by simp at h
 | p::P,w::vs,0,m,nd,h1,h2,hk=>by
  simp at h1 h2;subst h1;subst h2
  show bindC kindOf ((p,w)::P.zip vs) m p=_
  unfold bindC
  rw [kS λv hv=>(List.nodup_cons.mp nd).1 (List.of_mem_zip hv).1,if_neg hk]
  simp
 | p::P,w::vs,i + 1,m,nd,h1,h2,hk=>by
  show bindC kindOf ((p,w)::P.zip vs) m x=_
  unfold bindC
  exact kU (i:=i) (List.nodup_cons.mp nd).2 (by simpa using h1) (by simpa using h2) hk
noncomputable def dR (N:List Str) (vs:List V):St:=vs.map some ++ List.replicate (N.length - vs.length) none
noncomputable def mQ (CX:CXT) (P:Program) (w:World) (K:PySem.W.Frag) (mg:Str->Option Value) (base:Heap) (N:List Str) (qual:Str) (scope:Scope) (f:Addr) (cd:Value) (A:Around) (outer:List Env) (s:Shared) (H:Hp) (E:XK):Cx where
 prog:=P
 w:=w
 K:=K
 mg:=mg
 base:=base
 A:=A.deeper (envOfC qual scope s.heap.objs.size f cd)
 N:=N
 s₀:=s
 H₀:=H
 env:=envOfC qual scope s.heap.objs.size f cd
 outer:=outer
 stack:=envOfC qual scope s.heap.objs.size f cd::outer
 ex:=[]
 calm:=true
 fn:=λ_=>true
 pn:=[]
 xe:=λe s'=>wpAny (model P w) (A.deeper (envOfC qual scope s.heap.objs.size f cd)) (leaving (envOfC qual scope s.heap.objs.size f cd) e) (λ_ s''=>CX outer H s E e s'') (λe' s''=>CX outer H s E e' s'') s'
theorem mR {sc:Scope}{n:Nat}{x:Str} (h:sc.names.lookup x=some .cell):∃ c,(cellsFrom n sc.names []).lookup x=some c:=by
 have q:=PySem.W.cellsFrom_some sc.names n [] (.inl h)
 exact Option.isSome_iff_exists.mp q
theorem rg {CX:CXT}{P:Program}{w:World}{K:PySem.W.Frag}{mg:Str->Option Value}{base:Heap}{N ps:List Str}{qual:Str}{scope:Scope}{f:Addr}{cd:Value}{A:Around}{outer:List Env}{s s1:Shared}{H:Hp}{E:XK}{us:List Value}{vs:List V}
  (S:jg N ps scope) (hd:A.handled=none) (e0:oM P w K mg base A outer s H) (hl:vs.length=ps.length) (r:au vs us)
  (x:InCallC s s.heap.objs.size (bindL (envOfC qual scope s.heap.objs.size f cd).kindOf (ps.zip us) λ_=>none) (cellsFrom (s.heap.objs.size + 1) scope.names []) (bindC (envOfC qual scope s.heap.objs.size f cd).kindOf (ps.zip us) λ_=>none) s1) :
  Inv (mQ CX P w K mg base N qual scope f cd A outer s H E) [] (dR N vs) H s1:=by
 have hpl:ps.length <= N.length:=by have:=congrArg List.length S.pre;rw [List.length_take] at this;omega
 obtain ⟨h1,tk,rfl,hk⟩:=x.done
 have noA:∀ b:Addr,b ∉ (mQ CX P w K mg base N qual scope f cd A outer s H E).ex:=λb z=>absurd (show b ∈ ([]:List Addr) from z) (by simp)
 refine ⟨⟨e0.mod,S.kind,rfl,rfl,Nat.le_refl _,λy z c h1 h2=>?_,λy hy=>?_,λy c _ h=>?_,λ_=>hd,Around.frames_deeper e0.frames,.inr ⟨rfl,rfl⟩,λb z=>absurd z (noA b),e0.bs,e0.bsz,λb _ _=>noA b,λb z=>absurd z (noA b),e0.funs,e0.frf⟩,
  rfl,e0.bare,Un.kept hk,⟨_,x.toInCall.ns,λi y v h1 h2 h3=>?_⟩,λy c h=>⟨_,x.cell y c h⟩,e0.hok.fresh (Nat.le_refl _),λy c h=>?_,λp hp=>absurd (show p ∈ ([]:List (Addr × Obj)) from hp) (by simp),e0.hok.kept hk,?_⟩
 ·exact name_of_addr x.apart (PySem.mem_of_lookup h1) (PySem.mem_of_lookup h2)
 ·have hy:scope.names.lookup y=some .cell \/ scope.names.lookup y=some .free:=hy
  rcases hy with hy|hy
  ·exact mR hy
  ·exact absurd rfl (S.nofree _ (PySem.mem_of_lookup hy))
 ·exact Nat.le_of_lt (x.above y c (PySem.mem_of_lookup h))
 ·have hi:i < vs.length:=by
   unfold dR at h2
   by_cases hi:i < vs.length
   ·exact hi
   ·rw [List.getElem?_append_right (by simpa using hi)] at h2
    rw [List.getElem?_replicate] at h2
    split at h2 <;> cases h2
  have ha:vs[i]?=some v:=by
   unfold dR at h2
   rw [List.getElem?_append_left (by simpa using hi),List.getElem?_map] at h2
   cases e:vs[i]? with
   | none=>rw [e] at h2;cases h2
   | some a=>rw [e] at h2;cases h2;rfl
  obtain ⟨u,hu,rv⟩:=r.get ha
  have hp:ps[i]?=some y:=by
   rw [<- S.pre,List.getElem?_take_of_lt (by omega)];exact h1
  have ndP:ps.Nodup:=by rw [<- S.pre];exact S.nd.sublist (List.take_sublist _ _)
  refine ⟨u,rv,?_⟩
  rcases S.par y (List.mem_of_getElem? hp) with k|k
  ·exact .inl ⟨k,kT ndP hp hu k⟩
  ·obtain ⟨c,e⟩:=mR (n:=s.heap.objs.size + 1) k
   refine .inr ⟨.inl k,c,e,?_⟩
   have q:=x.cell y c e
   rw [kU ndP hp hu (by show scope.names.lookup y ≠ _;rw [k];decide)] at q
   exact q
 ·exact e0.hok.fresh (Nat.le_of_lt (x.above y c (PySem.mem_of_lookup h)))
 ·unfold dR
  show _=N.length
  rw [List.length_append,List.length_map,List.length_replicate]
  omega
theorem p0 {CX:CXT}{P:Program}{w:World}{K:PySem.W.Frag}{mg:Str->Option Value}{base:Heap}{k:Nat}{f:Addr}{name qual:Str}{params:Arguments}{body:List Stmt}{scope:Scope}{dV kV doc pm cdv ct oc:Value}{an od:Option Addr}
  {osl:Array (Option Value)}{N ps:List Str}{sp:Sp} (lk:K.lookup f=some ⟨oc,od,.func (PySem.W.fnOf name qual params body scope dV kV doc pm an cdv ct),osl⟩) (hcd:PySem.W.codeIn K cdv qual=true) (S:jg N ps scope)
  (len:∀ vs H Q E,sp vs H Q E->vs.length=ps.length)
  (hbody:∀ (A:Around) (outer:List Env) (s:Shared) (H:Hp) (vs:List V) (Q:VK) (E:XK),dj k (A.deeper (envOfC qual scope s.heap.objs.size f cdv))->sp vs H Q E ->
   ∃ t,PSs (mQ CX P w K mg base N qual scope f cdv A outer s H E) body t/\t { nx:=λ_ H'=>Q .non H',rt:=Q } (dR N vs) H) :
  dQ P w K mg base CX (k + 1) f (PySem.W.fnOf name qual params body scope dV kV doc pm an cdv ct) ps sp:=by
 refine ⟨len,λA outer s H args us vs Q E hr e0 hb r hsp=>?_⟩
 have hl:=len _ _ _ _ hsp
 have KX:K.In s.heap:=e0.mod.kin.keeps λb o e=>(e0.bs b o e).1
 have lim:s.heap.NoLimit:=e0.mod.nolimit.keeps λb o e=>(e0.bs b o e).1
 have hkind:∀ y ∈ ps.zip us,scope.names.lookup y.1=some .local \/ (scope.names.lookup y.1=some .cell/\((cellsFrom (s.heap.objs.size + 1) scope.names []).lookup y.1).isSome=true):=λ⟨n,v⟩ hy=>by
  rcases S.par n (List.of_mem_zip hy).1 with q|q
  ·exact .inl q
  ·exact .inr ⟨q,PySem.W.cellsFrom_some _ _ _ (.inl q)⟩
 refine codeAny_call_function hr.depth (KX _ _ lk) rfl S.co S.gen rfl (PySem.W.codeRec_of KX hcd) (hb _ _ _ _ ?_)
 refine wpAny_newFunctionEnv_cells S.kind hkind λenv he s1 x=>?_
 subst he
 refine ⟨lim.keeps x.toInCall.keep,codeAny_func ?_⟩
 obtain ⟨t,ht,hq⟩:=hbody A outer s H vs Q E (hr.deeper _) hsp
 have I:Inv (mQ CX P w K mg base N qual scope f cdv A outer s H E) [] (dR N vs) H s1:=rg S hr.hd e0 hl r x
 refine wpAny_mono (ht [] s1 (dR N vs) H _ I hq) (λfl s' hs=>?_) λe s' hs=>hs
 have fin:∀ {σ':St}{H':Hp}{v:V}{u:Value},Inv (mQ CX P w K mg base N qual scope f cdv A outer s H E) [] σ' H' s'->aw v u->Q v H'->CE outer P w H s Q u s' :=
  λ{σ' H' v u} J rv q=>⟨v,H',J.os,J.bare,J.base,J.hok,rv,q⟩
 cases fl with
 | ret u =>
  obtain ⟨v,σ',H',J,rv,q⟩:=hs
  exact fin J rv q
 | next =>
  obtain ⟨σ',H',J,q⟩:=hs
  exact fin (v:=V.non) (u:=Value.none) J rfl q
 | brk =>
  obtain ⟨_,_,_,q⟩:=hs
  exact False.elim q
 | cont =>
  obtain ⟨_,_,_,q⟩:=hs
  exact False.elim q
end L2
namespace L2
open PySem PySem.Spec PyProof.Rows
section
variable {X:Cx}{x:Str}{p pos:Pos}{e:Expr}{es:List Expr}{t:TA}{id T:String}{r:List V->Hp->VK->Prop}
noncomputable def tCB (r:List V->Hp->VK->Prop) (t:TA):TE:=λσ H Q=>t σ H λvs H1=>r vs H1 Q
theorem fF (hc:bJ X (.builtin id) r) (hg:Gl X x) (hm:X.mg x=none) (hv:bootBuiltins x=some (.builtin id)) (ha:PA X (e::es) t) (hn:x ≠ "__name__":=by decide) (hdb:(x == ("__debug__":Str))=false:=by decide)
  (he:starEach (e::es) X.env=(false,eval e X.env)::starEach es X.env:=by rfl) (hpl:(backTo pos (starEach es X.env)).any (·.1)=false:=by rfl):PE X (.Call (.Name x p) (e::es) [] pos) (tCB r t):=by
 intro pins s σ H Q I h
 refine wpAny_Call_Name_kw (iw I hg hm hv ?_ hn hdb)
 exact PyProof.Rows.callWith_builtin1 (thn (ha pos pins s σ H _ I h) λus s1 ⟨vs,H1,I1,r1,q1⟩=>hc pins s1 σ H1 vs us Q I1 r1 q1) he hpl
theorem fS (hc:bJ X (.type T) r) (hg:Gl X x) (hm:X.mg x=none) (hv:bootBuiltins x=some (.type T)) (ha:PA X (e::es) t) (hn:x ≠ "__name__":=by decide) (hdb:(x == ("__debug__":Str))=false:=by decide)
  (he:starEach (e::es) X.env=(false,eval e X.env)::starEach es X.env:=by rfl) (hpl:(backTo pos (starEach es X.env)).any (·.1)=false:=by rfl):PE X (.Call (.Name x p) (e::es) [] pos) (tCB r t):=by
 intro pins s σ H Q I h
 refine wpAny_Call_Name_kw (iw I hg hm hv ?_ hn hdb)
 exact PyProof.Rows.callWith_type1 (thn (ha pos pins s σ H _ I h) λus s1 ⟨vs,H1,I1,r1,q1⟩=>hc pins s1 σ H1 vs us Q I1 r1 q1) he hpl
end
end L2
namespace HT
open PySem PyProof.Rows
noncomputable def lexLt:List Int->List Int->Bool
 | [],[]=>false
 | [],_::_=>true
 | _::_,[]=>false
 | x::xs,y::ys=>if x=y then lexLt xs ys else decide (x < y)
theorem lexLt_cons (x y:Int) (xs ys:List Int):lexLt (x::xs) (y::ys)=if x=y then lexLt xs ys else decide (x < y):=rfl
theorem lexLt_nil_nil:lexLt [] []=false:=rfl
theorem lexLt_nil_cons (y:Int) (ys:List Int):lexLt [] (y::ys)=true:=rfl
theorem jv (x:Int) (xs:List Int):lexLt (x::xs) []=false:=rfl
theorem eqAt_int (A:Around) (s:Shared) (a:Int) (t:Tok) (c:Int) (u:Tok):∃ e,SeqAt.EqAt A s (.int a t) (.int c u) e/\(e=true ↔ a=c) :=
 ⟨(a == c),SeqAt.EqAt.int_int a t c u,by simp⟩
theorem rcLt_int (A:Around) (s:Shared) (a:Int) (t:Tok) (c:Int) (u:Tok) (prog:Program) (w:World) (E:Value->Shared->Prop) (Q:Value->Shared->Prop) (h:Q (.bool (decide (a < c))) s) :
  wpAny (model prog w) A (richCompare .Lt (.int a t) (.int c u)) Q E s :=
 (PyProof.Rows.lt_int h:wpAny (model prog w) A (compareOp .Lt (.int a t) (.int c u)) Q E s)
section
open PySem.SeqAt
open PySem.AutoSeq1 (wpAny_loadPart')
open PySem.MeetsSeq PySem.MeetsSeq2 PySem.MeetsSeq3
theorem tuple_lt_ints (l b:Addr) (items items2:Array Value) (n n2:Nat) (dd dd2:Option Addr) (sl sl2:Array (Option Value)) (ns ms:List Int) (hi:IntsAre items.toList ns) (hj:IntsAre items2.toList ms) :
  Meets (Builtin.«tuple.__lt__» ⟨[.ref l,.ref b],[]⟩)
   (λ_ R s=>s.heap.get? l=some { cls:=.type "tuple",dict:=dd,data:=.seq items n,slots:=sl }/\s.heap.get? b=some { cls:=.type "tuple",dict:=dd2,data:=.seq items2 n2,slots:=sl2 } /\
    R (.ok (.ret (.bool (lexLt ns ms)))) s) :=
 .of_wp λprog w A R s h=>by
  obtain ⟨hp,g,d,tk,os⟩:=s;obtain ⟨hl,hb,h⟩:=h
  have f2:=AutoSeq1.sub_tuple_tuple
  have z1:items.size=ns.length:=by rw [<- hi.length];simp
  have z2:items2.size=ms.length:=by rw [<- hj.length];simp
  wp_walk using wpAny_loadPart' hl,wpAny_loadPart' hb,wpAny_forIn_list _ (λdN b s'=>b.1=none/\s'=⟨hp,g,d,tk,os⟩/\∃ (vs ws:List Value) (ns' ms':List Int),dN=vs.zip ws /\
   IntsAre vs ns'/\IntsAre ws ms'/\ns'.length + items2.size=ms'.length + items.size/\R (.ok (.ret (.bool (lexLt ns' ms')))) ⟨hp,g,d,tk,os⟩) _
  case turn =>
   rintro ⟨y,x⟩ dN b s' ⟨hb',rfl,vs,ws,ns',ms',hz,hvi,hwi,hlen,hR⟩
   cases hvi with
   | nil=>rw [List.zip_nil_left] at hz;cases hz
   | cons a t hvi' =>
    cases hwi with
    | nil=>rw [List.zip_nil_right] at hz;cases hz
    | cons c u hwi' =>
     rw [List.zip_cons_cons] at hz
     injection hz with hyx hrest
     injection hyx with hy hx
     subst hy hx
     rw [lexLt_cons] at hR
     simp only [List.length_cons] at hlen
     obtain ⟨e,he,hiff⟩:=eqAt_int A.in1 ⟨hp,g,d,tk,os⟩ a t c u
     refine wpAny_bind (he prog w _ _ ?_)
     cases e with
     | true =>
      rw [if_pos (hiff.mp rfl)] at hR
      wp_walk
      exact ⟨rfl,rfl,_,_,_,_,hrest,hvi',hwi',by omega,hR⟩
     | false =>
      rw [if_neg (λq=>absurd (hiff.mpr q) Bool.false_ne_true)] at hR
      have hri:=rcLt_int A.in1 ⟨hp,g,d,tk,os⟩ a t c u prog w
      wp_walk using hri
      exact ⟨_,rfl,by simpa using hR⟩
  case fin =>
   rintro ⟨b1,b2⟩ s' ⟨hb',rfl,vs,ws,ns',ms',hz,hvi,hwi,hlen,hR⟩
   simp only at hb'
   subst hb'
   have hv:lexLt ns' ms'=decide (items.size < items2.size):=by
    cases hvi with
    | nil =>
     cases hwi with
     | nil =>
      simp only [List.length_nil] at hlen
      rw [lexLt_nil_nil]
      exact (decide_eq_false (by omega)).symm
     | cons c u hw =>
      simp only [List.length_nil,List.length_cons] at hlen
      rw [lexLt_nil_cons]
      exact (decide_eq_true (by omega)).symm
    | cons a t hv =>
     cases hwi with
     | nil =>
      simp only [List.length_nil,List.length_cons] at hlen
      rw [jv]
      exact (decide_eq_false (by omega)).symm
     | cons c u hw =>
      rw [List.zip_cons_cons] at hz
      cases hz
   rw [hv] at hR
   wp_walk
   exact ⟨_,rfl,by simpa [Builtin.Tuple.tupleCompareSizes] using hR⟩
  case h =>
   exact ⟨rfl,rfl,items.toList,items2.toList,ns,ms,rfl,hi,hj,by omega,h⟩
end
section
variable {prog:Program}{w:World}{A:Around}{E:Value->Shared->Prop}{s:Shared}
theorem lt_tupInts {l b:Addr}{items items2:Array Value}{ns ms:List Int}{Q:Value->Shared->Prop} (hl:IsTup s.heap l items) (hb:IsTup s.heap b items2) (hi:IntsAre items.toList ns) (hj:IntsAre items2.toList ms)
  (hu:A.units < cLine) (h:Q (.bool (lexLt ns ms)) s):wpAny (model prog w) A (compareOp .Lt (.ref l) (.ref b)) Q E s:=by
 obtain ⟨⟨cls,dd,data,sl⟩,ho,hc,n,hd⟩:=id hl
 obtain ⟨⟨cls2,dd2,data2,sl2⟩,ho2,hc2,n2,hd2⟩:=id hb
 simp only at hc hd hc2 hd2
 subst hc hd hc2 hd2
 exact richCompare_meets_room (op:=.Lt) ⟨_,ho,rfl⟩ ⟨_,ho2,rfl⟩ PySem.F.slot_tuple_lt PySem.F.entry_tuple_lt (PySem.F.args_tuple_lt_2 _ _) (tuple_lt_ints l b items items2 n n2 dd dd2 sl sl2 ns ms hi hj)
  ⟨ho,ho2,show Value.bool (lexLt ns ms) ≠ Value.notImplemented/\Q (.bool (lexLt ns ms)) s from ⟨(λx=>nomatch x),h⟩⟩ hu
theorem cat_tup {t b:Addr}{vs ws:List Value}{Q:Value->Shared->Prop} (ht:IsTup s.heap t vs.toArray) (hb:IsTup s.heap b ws.toArray) (hv:vs ≠ [])
  (h1:ws=[]->Q (.ref t) s) (h2:ws ≠ []->Q (.ref s.heap.objs.size) { s with heap:=s.heap.push { cls:=.type "tuple",data:=.seq (vs ++ ws).toArray } })
  (hsz:vs.length + ws.length <= sizeLine):wpAny (model prog w) A (binaryOp .Add (.ref t) (.ref b)) Q E s:=by
 obtain ⟨⟨cls,dd,data,sl⟩,ho,hc,n,hd⟩:=id ht
 obtain ⟨⟨cls2,dd2,data2,sl2⟩,ho2,hc2,n2,hd2⟩:=id hb
 simp only at hc hd hc2 hd2
 subst hc hd hc2 hd2
 have e:vs.toArray ++ ws.toArray=(vs ++ ws).toArray:=by simp
 by_cases hw:ws=[]
 ·exact concat_meets ⟨_,ho,rfl⟩ ⟨_,ho2,rfl⟩ noFill_tuple_add seq_tuple_add PySem.F.slot_tuple_add PySem.F.entry_tuple_add (PySem.F.args_tuple_add_2 _ _)
   (tuple_addW1 t b vs.toArray ws.toArray n n2 dd dd2 sl sl2 (by simpa using hv) (by simp [hw])) ⟨ho,ho2,h1 hw⟩
 ·refine concat_meets ⟨_,ho,rfl⟩ ⟨_,ho2,rfl⟩ noFill_tuple_add seq_tuple_add PySem.F.slot_tuple_add PySem.F.entry_tuple_add (PySem.F.args_tuple_add_2 _ _)
   (tuple_addW2 t b vs.toArray ws.toArray n n2 dd dd2 sl sl2 (by simpa using hv) (by simpa using hw) (by rw [List.size_toArray,List.size_toArray];exact hsz)) ⟨ho,ho2,?_⟩
  rw [e]
  exact h2 hw
noncomputable def sIx (n d:Nat):Option Int->Nat
 | none=>d
 | some v=>if v < 0 then (v + (n:Int)).toNat else min v.toNat n
theorem yC (n d:Nat) (hd:d <= n) (o:Option Int):sIx n d o <= n:=by
 cases o with
 | none=>exact hd
 | some v =>
  show (if v < 0 then (v + (n:Int)).toNat else min v.toNat n) <= n
  by_cases hv:v < 0
  ·rw [if_pos hv];omega
  ·rw [if_neg hv];exact Nat.min_le_right _ _
theorem p5 (v:Int) (n d:Nat):(if v < 0 then max (v + (n:Int)) 0 else min v (n:Int))=((sIx n d (some v):Nat):Int):=by
 show (if v < 0 then max (v + (n:Int)) 0 else min v (n:Int))=(((if v < 0 then (v + (n:Int)).toNat else min v.toNat n):Nat):Int)
 by_cases hv:v < 0
 ·simp only [if_pos hv];omega
 ·simp only [if_neg hv];omega
theorem oN (lo hi:Option Int) (n:Nat):Builtin.Slice.sliceAdjust lo hi 1 (n:Int)=(((sIx n 0 lo:Nat):Int),((sIx n n hi:Nat):Int)):=by
 have h1:¬ ((1:Int) < 0):=by omega
 unfold Builtin.Slice.sliceAdjust
 simp only [h1,if_false]
 refine Prod.ext ?_ ?_
 ·cases lo with
  | none=>rfl
  | some v=>exact p5 v n 0
 ·cases hi with
  | none=>rfl
  | some v=>exact p5 v n n
theorem oO (i j:Nat):Builtin.Slice.slicePlaces (i:Int) (j:Int) 1=j - i:=by
 unfold Builtin.Slice.slicePlaces
 have h1:(1:Int) > 0:=by omega
 simp only [h1,if_true,Int.ediv_one]
 split <;> omega
theorem jw {v:Value}{o:Option Int}{Q:Option Int->Shared->Prop} (p:IsPart v o) (h:Q o s):wpAny (model prog w) A (Builtin.Slice.slicePartIndex v) Q E s:=by
 cases p with
 | none=>exact slicePart_none h
 | int i t=>exact slicePart_int h
theorem eO {sl:Addr}{vl vu:Value}{lo hi:Option Int}{n:Nat}{Q:Int × Int × Nat->Shared->Prop} (hs:s.heap.IsSliceOf sl vl vu .none) (pl:IsPart vl lo) (pu:IsPart vu hi)
  (h:Q (((sIx n 0 lo:Nat):Int),1,sIx n n hi - sIx n 0 lo) s):wpAny (model prog w) A (Builtin.Slice.sliceApplied (.ref sl) (pure (n:Int))) Q E s:=by
 obtain ⟨os,hos,hcs,hds⟩:=id hs
 unfold Builtin.Slice.sliceApplied Builtin.Slice.sliceFields
 refine wpAny_bind (wpAny_bind (wpAny_field hos hds (x:=vl) rfl (wpAny_bind (wpAny_field hos hds (x:=vu) rfl (wpAny_bind (wpAny_field hos hds (x:=.none) rfl (wpAny_pure ?_)))))))
 refine wpAny_bind (slicePart_none ?_)
 show wpAny _ _ (if ((1:Int) == 0)=true then _ else _) _ _ s
 rw [if_neg (by decide)]
 refine wpAny_bind (jw pl (wpAny_bind (jw pu (wpAny_bind (wpAny_pure ?_)))))
 show wpAny _ _ (match Builtin.Slice.sliceAdjust lo hi 1 (n:Int) with|(lo,hi)=>pure (lo,(1:Int),Builtin.Slice.slicePlaces lo hi 1)) _ _ s
 rw [oN lo hi n]
 show wpAny _ _ (pure (((sIx n 0 lo:Nat):Int),(1:Int),Builtin.Slice.slicePlaces ((sIx n 0 lo:Nat):Int) ((sIx n n hi:Nat):Int) 1)) _ _ s
 rw [oO]
 exact wpAny_pure h
theorem sV (xs:Array Value) (i k:Nat):((List.range k).filterMap λ(m:Nat)=>xs[((i:Int) + (m:Int) * 1).toNat]?).toArray=((xs.toList.drop i).take k).toArray:=by
 have e:(λ(m:Nat)=>xs[((i:Int) + (m:Int) * 1).toNat]?)=λm=>xs[i + m]?:=by
  funext m
  have:((i:Int) + (m:Int) * 1).toNat=i + m:=by omega
  rw [this]
 rw [e]
 have:=pick_run xs i k
 rw [List.filterMap_map] at this
 have e2:((λx=>xs[x]?) ∘ λx=>i + x)=λm=>xs[i + m]?:=rfl
 rw [e2] at this
 rw [this]
theorem getItem_tuple_cut {t sl:Addr}{items:Array Value}{vl vu:Value}{lo hi:Option Int}{Q:Value->Shared->Prop} (ht:IsTup s.heap t items) (hs:s.heap.IsSliceOf sl vl vu .none) (pl:IsPart vl lo) (pu:IsPart vu hi)
  (hw:¬ (sIx items.size 0 lo=0/\sIx items.size items.size hi=items.size))
  (h:Q (.ref s.heap.objs.size) { s with heap:=s.heap.push { cls:=.type "tuple",data:=.seq ((items.toList.drop (sIx items.size 0 lo)).take (sIx items.size items.size hi - sIx items.size 0 lo)).toArray } })
  (hsz:items.size <= sizeLine):wpAny (model prog w) A (getItem (.ref t) (.ref sl)) Q E s:=by
 have htake:sizeOk (.seq ((items.toList.drop (sIx items.size 0 lo)).take (sIx items.size items.size hi - sIx items.size 0 lo)).toArray):=by
  show ((items.toList.drop (sIx items.size 0 lo)).take (sIx items.size items.size hi - sIx items.size 0 lo)).toArray.size <= sizeLine
  rw [List.size_toArray,List.length_take,List.length_drop,Array.length_toList]
  omega
 have hj:sIx items.size items.size hi <= items.size:=yC _ _ (Nat.le_refl _) hi
 obtain ⟨os,hos,hcs,hds⟩:=id hs
 have hTs:s.TypeIs (.ref sl) "slice":=⟨os,hos,hcs⟩
 unfold getItem
 try with_reducible refine wpAny_holding ?_
 first|refine wpAny_bind (wpAny_pure ?_)|skip
 refine wpAny_bind (wpAny_sequenceKey ht.typeIs (by decide) ?_)
 refine wpAny_bind (wpAny_callSpecial?_slot (name:=Str.ofString "__getitem__") ht.typeIs PyProof.Rows.slot_tuple_getitem
  (wpAny_call_entry PyProof.Rows.slot_tuple_getitem ht.typeIs entry_tuple_getitem ?_ (args_tuple_getitem _ _)))
 show wpAny _ _ (Builtin.Tuple.tupleItemsOf (.ref t) >>= _) _ _ s
 refine wpAny_bind (tupleItemsOf_ ht ?_)
 refine wpAny_bind (wpAny_typeOf hTs ?_)
 rw [if_pos (by decide)]
 refine wpAny_bind (eO hs pl pu ?_)
 have hno:¬ ((((sIx items.size 0 lo:Nat):Int) == 0&&(1:Int) == 1&&(sIx items.size items.size hi - sIx items.size 0 lo) == items.size)=true):=by
  intro q
  rw [Bool.and_eq_true,Bool.and_eq_true] at q
  have q1:((sIx items.size 0 lo:Nat):Int)=0:=eq_of_beq q.1.1
  have q2:sIx items.size items.size hi - sIx items.size 0 lo=items.size:=eq_of_beq q.2
  exact hw ⟨by omega,by omega⟩
 show wpAny _ _ (if (((sIx items.size 0 lo:Nat):Int) == 0&&(1:Int) == 1&&(sIx items.size items.size hi - sIx items.size 0 lo) == items.size)=true then _ else _) _ _ s
 rw [if_neg hno,sV]
 first
  | exact wpAny_bind (m:=Builtin.Tuple.tupleExact _) (wpAny_newObj_type (wpAny_pure ⟨_,rfl,wpAny_pure h⟩) htake)
  | exact wpAny_bind (m:=Builtin.Tuple.tupleExact _) (wpAny_newObj_type (wpAny_bind (wpAny_pure (wpAny_pure ⟨_,rfl,wpAny_pure h⟩))) htake)
  | exact wpAny_bind (wpAny_bind (m:=Builtin.Tuple.tupleExact _) (wpAny_newObj_type (wpAny_pure (wpAny_pure ⟨_,rfl,wpAny_pure h⟩)) htake))
  | exact wpAny_bind (wpAny_bind (m:=Builtin.Tuple.tupleExact _) (wpAny_newObj_type (wpAny_pure ⟨_,rfl,wpAny_pure h⟩) htake))
end
end HT
namespace L2
open PySem PySem.Spec PyProof.Rows
noncomputable abbrev TO:=St->Hp->(Option Int->Hp->Prop)->Prop
noncomputable def PO (X:Cx) (e:Option Expr) (t:TO):Prop :=
 ∀ (pins:List (Addr × Obj)) (s:Shared) (σ:St) (H:Hp) (Q:Option Int->Hp->Prop),Inv X pins σ H s->t σ H Q ->
  wpAny (model X.prog X.w) X.A (evalPart e X.env) (λu s'=>∃ o H',Inv X pins σ H' s'/\IsPart u o/\Q o H') X.xe s
noncomputable def wg:TO:=λ_ H Q=>Q none H
noncomputable def AW (t:TE):TO:=λσ H Q=>t σ H λx H1=>∃ i,x=.int i/\Q (some i) H1
theorem cT {ns:List Int}:∀ {us:List Value},au (ns.map V.int) us->IntsAre us ns:=by
 induction ns with
 | nil=>intro us r;rw [List.map_nil] at r;cases r;exact .nil
 | cons n ns ih =>
  intro us r
  rw [List.map_cons] at r
  cases r with
  | cons r1 r2 =>
   obtain ⟨t,e⟩:=r1
   subst e
   exact .cons n t (ih r2)
section
variable {X:Cx}{e:Expr}{te:TE}{lo hi:Option Expr}{tl th:TO}{pos p2:Pos}
theorem wj:PO X none wg:=by
 intro pins s σ H Q I h
 rw [evalPart_none]
 exact wpAny_pure ⟨none,H,I,.none,h⟩
theorem wk (h:PE X e te):PO X (some e) (AW te):=by
 intro pins s σ H Q I hw
 rw [evalPart_some]
 refine thn (h pins s σ H _ I hw) λu s1 ⟨x,H1,I1,r1,q1⟩=>?_
 obtain ⟨i,rfl,q⟩:=q1
 obtain ⟨t,rfl⟩:=r1
 exact ⟨some i,H1,I1,.int i t,q⟩
noncomputable def SlR (X:Cx) (r:V->Option Int->Option Int->Hp->VK->Prop):Prop :=
 ∀ (pins:List (Addr × Obj)) (s:Shared) (σ:St) (H:Hp) (x:V) (v vl vu:Value) (lo hi:Option Int) (sl:Addr) (Q:VK),Inv X pins σ H s->aw x v->s.heap.IsSliceOf sl vl vu .none->IsPart vl lo->IsPart vu hi->r x lo hi H Q ->
  ∃ T id,typeLookup (.type T) "__getitem__"=pure (some (.builtin id))/\s.TypeIs v T/\wpAny (model X.prog X.w) X.A (getItem v (.ref sl)) (EP X pins σ Q) X.xe s
noncomputable def tSl (r:V->Option Int->Option Int->Hp->VK->Prop) (te:TE) (tl th:TO):TE:=λσ H Q=>te σ H λx H1=>tl σ H1 λl H2=>th σ H2 λu H3=>r x l u H3 Q
theorem sW {r:V->Option Int->Option Int->Hp->VK->Prop} (hr:SlR X r) (he:PE X e te) (hl:PO X lo tl) (hu:PO X hi th):PE X (.Subscript e (.Slice lo hi none p2) pos) (tSl r te tl th):=by
 intro pins s σ H Q I h
 refine Subscript_ (thn (he pins s σ H _ I h) λv s1 ⟨x,H1,I1,r1,q1⟩=>?_)
 refine wpAny_Slice (thn (hl pins s1 σ H1 _ I1 q1) λvl s2 ⟨l,H2,I2,pl,q2⟩=>thn (hu pins s2 σ H2 _ I2 q2) λvu s3 ⟨u,H3,I3,pu,q3⟩=>?_)
 rw [evalPart_none]
 refine wpAny_pure ?_
 have I4:Inv X pins σ H3 { s3 with heap:=s3.heap.push { cls:=.type "slice",data:=.fields #[vl,vu,.none] } }:=I3.kept (t':=s3.toks) λb ob q=>Heap.get?_push_of_some _ q
 obtain ⟨T,id,hT,ht,hg⟩:=hr pins { s3 with heap:=s3.heap.push { cls:=.type "slice",data:=.fields #[vl,vu,.none] } } σ H3 x v vl vu l u s3.heap.objs.size Q I4 r1 (Heap.IsSliceOf.new ..) pl pu q3
 show wpAny (model X.prog X.w) X.A (subscriptTail e (.Slice lo hi none p2) v (.ref s3.heap.objs.size)) (EP X pins σ Q) X.xe { s3 with heap:=s3.heap.push { cls:=.type "slice",data:=.fields #[vl,vu,.none] } }
 exact tail_any (ops:=[.ref s3.heap.objs.size,v]) ht hT hg (by with_unfolding_all rfl)
noncomputable def mS (xs:List V) (lo hi:Option Int):List V:=(xs.drop (HT.sIx xs.length 0 lo)).take (HT.sIx xs.length xs.length hi - HT.sIx xs.length 0 lo)
theorem iW (xs:List V) (lo hi:Option Int):(mS xs lo hi).length <= xs.length:=by
 unfold mS
 rw [List.length_take,List.length_drop]
 omega
noncomputable def CD (K:PySem.W.Frag):V->Option Int->Option Int->Hp->VK->Prop:=λx lo hi H Q=>∃ a xs,x=.ref a/\SqT K H a xs /\
 ¬ (HT.sIx xs.length 0 lo=0/\HT.sIx xs.length xs.length hi=xs.length)/\∀ p,H p=none->Q (.ref p) (upd H p (.tup (mS xs lo hi)))
theorem yD:SlR X (CD X.K):=by
 intro pins s σ H x v vl vu lo hi sl Q I rx hs pl pu h
 obtain ⟨a,xs,rfl,hx,hw,q⟩:=h
 cases rx
 obtain ⟨its,r,ht,hz⟩:=I.tuple hx
 have hlen:its.toArray.size=xs.length:=by rw [List.size_toArray];exact r.length.symm
 refine ⟨"tuple",_,PyProof.Rows.slot_tuple_getitem.lookup,ht.typeIs,?_⟩
 refine HT.getItem_tuple_cut ht hs pl pu (by rw [hlen];exact hw) ?_ (by rw [hlen];exact hz)
 rw [hlen]
 refine ⟨.ref s.heap.objs.size,_,I.laid (t':=s.toks) (o:=.tup (mS xs lo hi)) (λb ob q=>Heap.get?_push_of_some _ q) (Nat.le_refl _) ?_,rfl,q _ (I.hok.fresh (Nat.le_refl _))⟩
 exact ⟨Nat.le_trans (iW xs lo hi) hz,_,(r.drop (HT.sIx xs.length 0 lo)).take (HT.sIx xs.length xs.length hi - HT.sIx xs.length 0 lo),IsTup.new _ _⟩
noncomputable def AX (K:PySem.W.Frag):R2:=λx y H Q=>∃ a b xs ys,x=.ref a/\y=.ref b/\SqT K H a xs/\SqT K H b ys/\xs ≠ []/\xs.length + ys.length <= sizeLine /\
 (ys=[]->Q (.ref a) H)/\(ys ≠ []->∀ p,H p=none->Q (.ref p) (upd H p (.tup (xs ++ ys))))
theorem au.nil_iff {xs:List V}{us:List Value} (r:au xs us):us=[] ↔ xs=[]:=by
 cases r with
 | nil=>simp
 | cons _ _=>simp
theorem wl:OpR X (binaryOp .Add) (AX X.K):=by
 intro pins s σ H x y v u Q I rx ry h
 obtain ⟨a,b,xs,ys,rfl,rfl,ha,hb,hx,hz,q1,q2⟩:=h
 cases rx
 cases ry
 obtain ⟨its,r1,p1,_⟩:=I.tuple ha
 obtain ⟨its2,r2,p2,_⟩:=I.tuple hb
 refine HT.cat_tup p1 p2 (λz=>hx (r1.nil_iff.mp z)) (λz=>⟨.ref a,H,I,rfl,q1 (r2.nil_iff.mp z)⟩) (λz=>?_) (by rw [<- r1.length,<- r2.length];exact hz)
 refine ⟨.ref s.heap.objs.size,_,I.laid (t':=s.toks) (o:=.tup (xs ++ ys)) (λb ob q=>Heap.get?_push_of_some _ q) (Nat.le_refl _) ?_,rfl,q2 (λw=>z (r2.nil_iff.mpr w)) _ (I.hok.fresh (Nat.le_refl _))⟩
 exact ⟨by rw [List.length_append];exact hz,_,r1.append r2,IsTup.new _ _⟩
end
end L2
namespace L2
open PySem PySem.Spec PyProof.Rows
noncomputable def ixN (n:Nat) (i:Int):Option Nat:=if 0 <= i then (if i < n then some i.toNat else none) else if -(n:Int) <= i then some (i + n).toNat else none
noncomputable def atI {α:Type} (xs:List α) (i:Int):Option α:=(ixN xs.length i).bind λj=>xs[j]?
theorem p6 {n:Nat}{i:Int}{j:Nat} (h:ixN n i=some j):seqIndex? i n=some j/\j < n/\-(n:Int) <= i/\i < n:=by
 unfold ixN at h
 by_cases h0:0 <= i
 ·rw [if_pos h0] at h
  by_cases h1:i < n
  ·rw [if_pos h1] at h
   have e:i.toNat=j:=Option.some.inj h
   exact ⟨by rw [seqIndex_of h0 h1,e],by omega,by omega,h1⟩
  ·rw [if_neg h1] at h;cases h
 ·rw [if_neg h0] at h
  by_cases h1:-(n:Int) <= i
  ·rw [if_pos h1] at h
   have e:(i + n).toNat=j:=Option.some.inj h
   exact ⟨by rw [seqIndex_neg (by omega) h1,e],by omega,h1,by omega⟩
  ·rw [if_neg h1] at h;cases h
theorem lT {α:Type}{xs:List α}{i:Int}{v:α} (h:atI xs i=some v):∃ j,seqIndex? i xs.length=some j/\xs[j]?=some v/\j < xs.length/\-(xs.length:Int) <= i/\i < xs.length:=by
 unfold atI at h
 cases e:ixN xs.length i with
 | none=>rw [e] at h;cases h
 | some j =>
  rw [e] at h
  obtain ⟨h1,h2,h3,h4⟩:=p6 e
  exact ⟨j,h1,h,h2,h3,h4⟩
noncomputable def p7 (b:Expr):Prop:=∀ o i,subscripted b false o i=operate [o,i] (getItem o i)
noncomputable def IxR (X:Cx) (r:R2):Prop :=
 ∀ (value slice:Expr) (pins:List (Addr × Obj)) (s:Shared) (σ:St) (H:Hp) (x y:V) (v u:Value) (Q:VK),Inv X pins σ H s->aw x v->aw y u->r x y H Q ->
  subscripted slice false v u=operate [v,u] (getItem v u)->wpAny (model X.prog X.w) X.A (subscriptTail value slice v u) (EP X pins σ Q) X.xe s
noncomputable def MtR (X:Cx) (id:String) (r:V->List V->Hp->VK->Prop):Prop :=
 ∀ (pins:List (Addr × Obj)) (s:Shared) (σ:St) (H:Hp) (x:V) (xs:List V) (v:Value) (us:List Value) (Q:VK),Inv X pins σ H s->aw x v->au xs us->r x xs H Q ->
  wpAny (model X.prog X.w) X.A (call (.builtin id) (v::us)) (EP X pins σ Q) X.xe s
section
variable {X:Cx}{a b:Expr}{ta tb:TE}{pos:Pos}
theorem IxR.or {r r':R2} (h:IxR X r) (h':IxR X r'):IxR X (λx y H Q=>r x y H Q \/ r' x y H Q):=by
 intro value slice pins s σ H x y v u Q I rx ry q hs
 rcases q with q|q
 ·exact h value slice pins s σ H x y v u Q I rx ry q hs
 ·exact h' value slice pins s σ H x y v u Q I rx ry q hs
theorem sX {r:R2} (hr:IxR X r) (ha:PE X a ta) (hb:PE X b tb) (hs:p7 b):PE X (.Subscript a b pos) (tOp r ta tb):=by
 intro pins s σ H Q I h
 exact Subscript_ (yp ha hb I h λv u s2 x y H2 I2 rx ry q=>hr a b pins s2 σ H2 x y v u Q I2 rx ry q (hs _ _))
noncomputable def AY (K:PySem.W.Frag):R2:=λx y H Q=>∃ p xs i v,x=.ref p/\y=.int i/\SqL K H p xs/\atI xs i=some v/\Q v H
noncomputable def AZ (K:PySem.W.Frag):R2:=λx y H Q=>∃ p xs i v,x=.ref p/\y=.int i/\SqT K H p xs/\atI xs i=some v/\Q v H
noncomputable def A0:R2:=λx y H Q=>∃ z i c,x=.str z/\y=.int i/\z.length <= sizeLine/\atI z.cps.toList i=some c/\Q (.str ⟨#[c]⟩) H
theorem wm:IxR X (AY X.K):=by
 intro value slice pins s σ H x y v u Q I rx ry h hs
 obtain ⟨p,xs,i,z,rfl,rfl,hq,he,q⟩:=h
 cases rx
 obtain ⟨t,rfl⟩:=ry
 obtain ⟨its,r,pl,hz⟩:=I.list hq
 obtain ⟨j,h1,h2,h3,h4,h5⟩:=lT he
 obtain ⟨w,ew,rw'⟩:=r.get h2
 have hl:=r.length
 have hn:=iA
 have fin:EP X pins σ Q w s:=⟨z,H,I,rw',q⟩
 by_cases h0:0 <= i
 ·have hj:i.toNat=j:=by
   rw [seqIndex_of h0 h5] at h1
   exact Option.some.inj h1
  exact item_listR pl.isList h0 (by omega) (by rw [hj];simpa using ew) fin hs
 ·have hj:(i + (its.toArray.size:Int)).toNat=j:=by
   rw [seqIndex_neg (by omega) h4] at h1
   rw [List.size_toArray,<- hl]
   exact Option.some.inj h1
  exact subscriptTail_builtinR (x:=w) pl.isList.typeIs slot_list_getitem.lookup
   (wpAny_getItem_list_neg (Q:=λr s'=>r=w/\EP X pins σ Q r s') pl.isList (by omega) (by rw [List.size_toArray] <;> omega) (by omega) (by rw [hj];simpa using ew) ⟨rfl,fin⟩) hs
theorem oP:IxR X (AZ X.K):=by
 intro value slice pins s σ H x y v u Q I rx ry h hs
 obtain ⟨p,xs,i,z,rfl,rfl,hq,he,q⟩:=h
 cases rx
 obtain ⟨t,rfl⟩:=ry
 obtain ⟨its,r,pl,hz⟩:=I.tuple hq
 obtain ⟨j,h1,h2,h3,h4,h5⟩:=lT he
 obtain ⟨w,ew,rw'⟩:=r.get h2
 have hl:=r.length
 have hn:=iA
 have fin:EP X pins σ Q w s:=⟨z,H,I,rw',q⟩
 exact subscriptTail_builtinR (x:=w) pl.typeIs slot_tuple_getitem.lookup
  (getItem_tuple (j:=j) (Q:=λr s'=>r=w/\EP X pins σ Q r s') pl (by omega) (by omega) (by rw [List.size_toArray,<- hl];exact h1) (by simpa using ew) ⟨rfl,fin⟩) hs
theorem yE:IxR X A0:=by
 intro value slice pins s σ H x y v u Q I rx ry h hs
 obtain ⟨z,i,c,rfl,rfl,hz,he,q⟩:=h
 obtain ⟨t,rfl⟩:=rx
 obtain ⟨t',rfl⟩:=ry
 obtain ⟨j,h1,h2,h3,h4,h5⟩:=lT he
 have hl:z.cps.toList.length=z.length:=by simp [Str.length]
 rw [hl] at h1 h4 h5
 have hn:=iA
 exact tail_any (typeIs_str s z t) slot_str_getitem.lookup (getItem_str (c:=c) (by
  have e1:decide (i < -(2 ^ 63:Int))=false:=decide_eq_false (by omega)
  have e2:decide (i >= 2 ^ 63)=false:=decide_eq_false (by omega)
  rw [e1,e2,Bool.or_false]) (by rw [h1];simpa using h2) ⟨.str ⟨#[c]⟩,H,I.tok _,⟨_,rfl⟩,q⟩) hs
noncomputable def rIx (K:PySem.W.Frag):R2:=λx y H Q=>AY K x y H Q \/ AZ K x y H Q \/ A0 x y H Q
theorem sY:IxR X (rIx X.K):=wm.or (oP.or yE)
theorem oQ (its:List Value) (n j:Nat) (u:Value):Obj.mapSeq (·.setIfInBounds j u) { cls:=.type "list",data:=.seq its.toArray n }={ cls:=.type "list",data:=.seq (its.set j u).toArray n }:=by
 simp [Obj.mapSeq]
theorem Inv.lst {pins:List (Addr × Obj)}{σ:St}{H:Hp}{s:Shared}{p:Addr}{xs:List V} (I:Inv X pins σ H s) (h:H p=some (.lst xs)) :
  ∃ (its:List Value) (n:Nat),au xs its/\s.heap.get? p=some { cls:=.type "list",data:=.seq its.toArray n }/\xs.length <= sizeLine:=by
 obtain ⟨z,its,n,r,e⟩:=I.hok p _ h
 exact ⟨its,n,r,e,z⟩
theorem Inv.lstUpd {pins:List (Addr × Obj)}{σ:St}{H:Hp}{s:Shared}{p:Addr}{xs ys:List V}{its its':List Value}{n n':Nat}{f:Obj->Obj} (I:Inv X pins σ H s) (h:H p=some (.lst xs))
  (ho:s.heap.get? p=some { cls:=.type "list",data:=.seq its.toArray n }) (hf:f { cls:=.type "list",data:=.seq its.toArray n }={ cls:=.type "list",data:=.seq its'.toArray n' }) (r:au ys its') (hz:ys.length <= sizeLine) (t:Nat) :
  Inv X pins σ (upd H p (.lst ys)) { s with heap:=s.heap.update p f,toks:=t }:=by
 have e:(s.heap.update p f).get? p=some { cls:=.type "list",data:=.seq its'.toArray n' }:=by
  rw [Heap.get?_update_self f ho (by rw [hf] <;> rfl),hf]
 refine I.write (x:=p) (e:=p) (by rw [h];trivial) (.inl rfl) (λb u hb q=>(Heap.get?_update_other _ _ (Ne.symm hb)).trans q) ⟨_,e⟩ ?_
 exact ⟨hz,its',n',r,e⟩
noncomputable def A1:V->V->V->Hp->(Hp->Prop)->Prop:=λo i v H Q=>∃ p xs k j,o=.ref p/\i=.int k/\H p=some (.lst xs)/\ixN xs.length k=some j/\Q (upd H p (.lst (xs.set j v)))
theorem set_list:Cw X A1:=by
 intro pins s σ H o i v ov iv u Q I ro ri rv h
 obtain ⟨p,xs,k,j,rfl,rfl,hp,hj,q⟩:=h
 cases ro
 obtain ⟨t,rfl⟩:=ri
 obtain ⟨its,n,r,ho,hz⟩:=I.lst hp
 obtain ⟨h1,h2,h3,h4⟩:=p6 hj
 have hl:=r.length
 have hn:=iA
 have I':Inv X pins σ (upd H p (.lst (xs.set j v))) { s with heap:=s.heap.update p (Obj.mapSeq (·.setIfInBounds j u)) } :=
  I.lstUpd hp ho (oQ its n j u) (r.set rv j) (by rw [List.length_set];exact hz) s.toks
 by_cases h0:0 <= k
 ·have hk:k.toNat=j:=by
   rw [seqIndex_of h0 h4] at h1
   exact Option.some.inj h1
  exact PySem.W.ki_setAt ho h0 (by omega) (by rw [List.size_toArray,<- hl];exact h4) (by rw [hk];exact ⟨_,I',q⟩)
 ·have hk:(k + (its.toArray.size:Int)).toNat=j:=by
   rw [seqIndex_neg (by omega) h3] at h1
   rw [List.size_toArray,<- hl]
   exact Option.some.inj h1
  exact PySem.W.ki_setBack ho (by omega) (by rw [List.size_toArray,<- hl];exact h3) (by omega) (by rw [hk];exact ⟨_,I',q⟩)
theorem lU (lo hi:Option Int) (n:Nat):(sliceBounds lo hi none n).1=((HT.sIx n 0 lo:Nat):Int)/\(sliceBounds lo hi none n).2.1=((HT.sIx n n hi:Nat):Int)/\(sliceBounds lo hi none n).2.2=1:=by
 refine ⟨?_,?_,rfl⟩
 ·cases lo with
  | none=>simp [sliceBounds,HT.sIx]
  | some i =>
   simp only [sliceBounds,HT.sIx,Option.getD_none,show (1:Int) > 0 by decide,if_true]
   by_cases h:i < 0
   ·simp only [h,if_true] <;> omega
   ·simp only [h,if_false] <;> omega
 ·cases hi with
  | none=>simp [sliceBounds,HT.sIx]
  | some i =>
   simp only [sliceBounds,HT.sIx,Option.getD_none,show (1:Int) > 0 by decide,if_true]
   by_cases h:i < 0
   ·simp only [h,if_true] <;> omega
   ·simp only [h,if_false] <;> omega
theorem kD (its:List Value) (lo hi:Option Int):slicePick its.toArray lo hi none=((its.drop (HT.sIx its.length 0 lo)).take (HT.sIx its.length its.length hi - HT.sIx its.length 0 lo)).toArray:=by
 obtain ⟨h1,h2,h3⟩:=lU lo hi its.toArray.size
 unfold slicePick
 rw [h1,h2,h3]
 simp only [sliceRange_one,pick_run,List.size_toArray] <;> rfl
noncomputable def CF (K:PySem.W.Frag):V->Option Int->Option Int->Hp->VK->Prop:=λx lo hi H Q=>∃ a xs,x=.ref a/\SqL K H a xs/\∀ p,H p=none->Q (.ref p) (upd H p (.lst (mS xs lo hi)))
theorem wn:SlR X (CF X.K):=by
 intro pins s σ H x v vl vu lo hi sl Q I rx hs pl pu h
 obtain ⟨a,xs,rfl,hx,q⟩:=h
 cases rx
 obtain ⟨its,r,ht,hz⟩:=I.list hx
 have hlen:=r.length
 refine ⟨"list",_,slot_list_getitem.lookup,ht.isList.typeIs,?_⟩
 refine wpAny_getItem_list_slice ht.isList hs pl pu .none (by simp) ?_ (by rw [List.size_toArray] <;> omega)
 rw [kD,<- hlen]
 refine ⟨.ref s.heap.objs.size,_,I.laid (t':=s.toks) (o:=.lst (mS xs lo hi)) (λb ob q=>Heap.get?_push_of_some _ q) (Nat.le_refl _) ?_,rfl,q _ (I.hok.fresh (Nat.le_refl _))⟩
 exact ⟨Nat.le_trans (iW xs lo hi) hz,_,0,(r.drop (HT.sIx xs.length 0 lo)).take (HT.sIx xs.length xs.length hi - HT.sIx xs.length 0 lo),Heap.get?_push_size _ rfl⟩
noncomputable def gi:V->Bool
 | .non=>true
 | .bl _=>true
 | .int _=>true
 | .str _=>true
 | _=>false
noncomputable def eqV:V->V->Bool
 | .non,.non=>true
 | .bl a,.bl b=>a == b
 | .bl a,.int b=>(if a then 1 else 0) == b
 | .int a,.bl b=>a == (if b then 1 else 0)
 | .int a,.int b=>a == b
 | .str a,.str b=>a == b
 | _,_=>false
theorem sZ {A:Around}{s:Shared}{y x:V}{u v:Value} (ry:aw y u) (rx:aw x v) (fy:gi y=true) (fx:gi x=true):SeqAt.EqAt A s u v (eqV y x):=by
 cases y with
 | non =>
  cases ry
  cases x with
  | non=>cases rx;exact SeqAt.EqAt.same _
  | bl b=>cases rx;exact SeqAt.EqAt.none_bool b
  | int b=>obtain ⟨t,rfl⟩:=rx;exact SeqAt.EqAt.none_int b t
  | str b=>obtain ⟨t,rfl⟩:=rx;exact SeqAt.EqAt.none_str b t
  | _=>exact absurd (show false=true from fx) Bool.false_ne_true
 | bl a =>
  cases ry
  cases x with
  | non=>cases rx;exact SeqAt.EqAt.bool_none a
  | bl b=>cases rx;exact SeqAt.EqAt.bool_bool a b
  | int b=>obtain ⟨t,rfl⟩:=rx;exact SeqAt.EqAt.bool_int a b t
  | str b=>obtain ⟨t,rfl⟩:=rx;exact SeqAt.EqAt.bool_str a b t
  | _=>exact absurd (show false=true from fx) Bool.false_ne_true
 | int a =>
  obtain ⟨t',rfl⟩:=ry
  cases x with
  | non=>cases rx;exact SeqAt.EqAt.int_none a t'
  | bl b=>cases rx;exact SeqAt.EqAt.int_bool a t' b
  | int b=>obtain ⟨t,rfl⟩:=rx;exact SeqAt.EqAt.int_int a t' b t
  | str b=>obtain ⟨t,rfl⟩:=rx;exact SeqAt.EqAt.int_str a t' b t
  | _=>exact absurd (show false=true from fx) Bool.false_ne_true
 | str a =>
  obtain ⟨t',rfl⟩:=ry
  cases x with
  | non=>cases rx;exact SeqAt.EqAt.str_none a t'
  | bl b=>cases rx;exact SeqAt.EqAt.str_bool a t' b
  | int b=>obtain ⟨t,rfl⟩:=rx;exact SeqAt.EqAt.str_int a t' b t
  | str b=>obtain ⟨t,rfl⟩:=rx;exact SeqAt.EqAt.str_str a t' b t
  | _=>exact absurd (show false=true from fx) Bool.false_ne_true
 | _=>exact absurd (show false=true from fy) Bool.false_ne_true
theorem gL:bJ X (.builtin "len") (λxs H Q=>∃ p ys,xs=[.ref p]/\(SqL X.K H p ys \/ SqT X.K H p ys)/\Q (.int ys.length) H):=by
 intro pins s σ H xs us Q I r h
 obtain ⟨p,ys,rfl,hq,q⟩:=h
 obtain ⟨u,rfl,rx⟩:=eN r
 cases rx
 have hn:=iA
 rcases hq with hq|hq
 ·obtain ⟨its,r',pl,hz⟩:=I.list hq
  have hlen:=r'.length
  exact Calls.call_len_list pl.isList (by simp only [List.size_toArray] <;> omega) ⟨.int ys.length,H,I.tok _,⟨s.toks + 1,by rw [List.size_toArray,hlen]⟩,q⟩
 ·obtain ⟨its,r',pl,hz⟩:=I.tuple hq
  have hlen:=r'.length
  exact len_tuple pl (by simp only [List.size_toArray] <;> omega) ⟨.int ys.length,H,I.tok _,⟨s.toks + 1,by rw [List.size_toArray,hlen]⟩,q⟩
theorem lV:bJ X (.type "list") (λxs H Q=>∃ p ys,xs=[.ref p]/\(SqL X.K H p ys \/ SqT X.K H p ys)/\∀ l,H l=none->Q (.ref l) (upd H l (.lst ys))):=by
 intro pins s σ H xs us Q I r h
 obtain ⟨p,ys,rfl,hq,q⟩:=h
 obtain ⟨u,rfl,rx⟩:=eN r
 cases rx
 have fin:∀ (its:List Value),au ys its->ys.length <= sizeLine->∀ (h':Heap) (c':Nat),(∀ b o',s.heap.get? b=some o'->h'.get? b=some o') ->
   h'.get? s.heap.objs.size=some { cls:=.type "list",dict:=none,data:=.seq its.toArray c',slots:=#[] }->EP X pins σ Q (.ref s.heap.objs.size) { s with heap:=h' }:=λits r' hz h' c' kp e =>
  ⟨.ref s.heap.objs.size,_,I.laid (t':=s.toks) kp (Nat.le_refl _) (show bB X.prog X.w _ h' _ (.lst ys) from ⟨hz,its,c',r',e⟩),rfl,q _ (I.hok.fresh (Nat.le_refl _))⟩
 rcases hq with hq|hq
 ·obtain ⟨its,r',pl,hz⟩:=I.list hq
  have hlen:=r'.length
  obtain ⟨o,ho,hc,n,hd⟩:=pl.isList
  exact call_list_seq p (.inl rfl) ho hc hd (λh' c' kp e=>fin its r' hz h' c' kp e) (by simp only [List.size_toArray] <;> omega)
 ·obtain ⟨its,r',pl,hz⟩:=I.tuple hq
  have hlen:=r'.length
  obtain ⟨o,ho,hc,n,hd⟩:=pl
  exact call_list_seq p (.inr rfl) ho hc hd (λh' c' kp e=>fin its r' hz h' c' kp e) (by simp only [List.size_toArray] <;> omega)
theorem gj:bJ X (.type "tuple") (λxs H Q=>∃ p ys,xs=[.ref p]/\((SqL X.K H p ys/\∀ l,H l=none->Q (.ref l) (upd H l (.tup ys))) \/ (SqT X.K H p ys/\Q (.ref p) H))):=by
 intro pins s σ H xs us Q I r h
 obtain ⟨p,ys,rfl,h⟩:=h
 obtain ⟨u,rfl,rx⟩:=eN r
 cases rx
 rcases h with ⟨hq,q⟩|⟨hq,q⟩
 ·obtain ⟨its,r',pl,hz⟩:=I.list hq
  have hlen:=r'.length
  refine call_tuple_list pl.isList (λh' kp=>?_) (by simp only [List.size_toArray] <;> omega)
  have I1:Inv X pins σ H { s with heap:=h' }:=I.kept (t':=s.toks) kp
  have I2:Inv X pins σ (upd H h'.objs.size (.tup ys)) { s with heap:=h'.push { cls:=.type "tuple",data:=.seq its.toArray } } :=
   I1.laid (t':=s.toks) (λb o e=>Heap.get?_push_of_some _ e) (Nat.le_refl _) (show bB X.prog X.w _ _ _ (.tup ys) from ⟨hz,its,r',IsTup.new _ _⟩)
  exact ⟨.ref h'.objs.size,_,I2,rfl,q _ (I1.hok.fresh (Nat.le_refl _))⟩
 ·obtain ⟨its,r',pl,hz⟩:=I.tuple hq
  exact call_tuple_same pl ⟨.ref p,H,I,rfl,q⟩
noncomputable def tyV (K:PySem.W.Frag) (T:String) (x:V) (H:Hp):Prop:=match x with
 | .str _=>T="str"
 | .int _=>T="int"
 | .ref p=>(T="list"/\∃ xs,SqL K H p xs) \/ (T="tuple"/\∃ o,K.lookup p=some o/\o.cls=.type "tuple"/\o.dict=none) \/
   (T="dict"/\((∃ kvs,H p=some (.dK kvs)) \/ ∃ kvs,H p=some (.dT kvs))) \/ (T="set"/\∃ S n,H p=some (.set S n))
 | _=>False
theorem yF {pins:List (Addr × Obj)}{σ:St}{H:Hp}{s:Shared}{T:String}{x:V}{v:Value} (I:Inv X pins σ H s) (r:aw x v) (ty:tyV X.K T x H) :
  s.TypeIs v T/\∀ a,v=.ref a->∃ ob,s.heap.get? a=some ob/\ob.dict=none:=by
 cases x with
 | str z =>
  obtain ⟨t,rfl⟩:=r
  cases (show T="str" from ty)
  exact ⟨typeIs_str s z t,λ_ e=>nomatch e⟩
 | int i =>
  obtain ⟨t,rfl⟩:=r
  cases (show T="int" from ty)
  exact ⟨typeIs_int s i t,λ_ e=>nomatch e⟩
 | ref p =>
  cases r
  rcases ty with ⟨rfl,xs,hq⟩|⟨rfl,o,hk,hc,hd⟩|⟨rfl,hk⟩|⟨rfl,S,n,hk⟩
  ·obtain ⟨its,_,pl,_⟩:=I.list hq
   refine ⟨pl.isList.typeIs,λa e=>?_⟩
   cases e
   obtain ⟨o,n,e,c,hd,_⟩:=pl
   exact ⟨o,e,hd⟩
  ·refine ⟨⟨o,I.kIn p o hk,hc⟩,λa e=>?_⟩
   cases e
   exact ⟨o,I.kIn _ o hk,hd⟩
  ·have z:∃ o,s.heap.get? p=some o/\o.ExactDict:=by
    rcases hk with ⟨kvs,hk⟩|⟨kvs,hk⟩
    ·obtain ⟨_,_,_,_,o,_,_,e,ex,_⟩:=I.hok p _ hk
     exact ⟨o,e,ex⟩
    ·obtain ⟨_,_,_,_,o,_,_,e,ex,_⟩:=I.hok p _ hk
     exact ⟨o,e,ex⟩
   obtain ⟨o,e,ex⟩:=z
   refine ⟨⟨o,e,ex.1⟩,λa e2=>?_⟩
   cases e2
   exact ⟨o,e,ex.2.1⟩
  ·obtain ⟨o,_,_,_,e,ex,_⟩:=I.hok p _ hk
   refine ⟨⟨o,e,ex.1⟩,λa e2=>?_⟩
   cases e2
   exact ⟨o,e,ex.2.1⟩
 | _=>exact False.elim ty
noncomputable def tBM (K:PySem.W.Frag) (T:String) (r:V->List V->Hp->VK->Prop) (to:TE) (t:TA):TE:=λσ H Q=>to σ H λx H1=>tyV K T x H1/\t σ H1 λxs H2=>r x xs H2 Q
variable {o e:Expr}{es:List Expr}{to:TE}{t:TA}{name:Str}{apos cpos:Pos}{T id:String}{r:V->List V->Hp->VK->Prop}
theorem mT (pa:PlainAttrs T) (slot:Slot T name id) (hty:typeOf (.builtin id)=pure (.type "method_descriptor")) (hm:MtR X id r) (ho:PE X o to) (ha:PA X (e::es) t)
  (hbase:attributeBase o name X.env (eval o X.env)=eval o X.env:=by rfl)
  (hfew:((backTo cpos (starEach (e::es) X.env)).all (λx=>!x.1)&&(backToKw cpos (keywordEach [] X.env)).all (λx=>x.1.isSome)
  &&decide ((e::es).length + ([]:List Keyword).length + (if ([]:List Keyword).isEmpty then 0 else 1) < 30))=true:=by rfl)
  (hline:(apos.endLine == cpos.line)=true:=by rfl) (hs:starEach (e::es) X.env=(false,eval e X.env)::starEach es X.env:=by rfl) (hplain:(backTo cpos (starEach es X.env)).any (·.1)=false:=by rfl) :
  PE X (.Call (.Attribute o name apos) (e::es) [] cpos) (tBM X.K T r to t):=by
 intro pins s σ H Q I h
 refine wpAny_Call_method_late hbase hfew hline rfl (thn (ho pins s σ H _ I h) λv s1 ⟨x,H1,I1,r1,ty,q1⟩=>?_)
 obtain ⟨h1,h2⟩:=yF I1 r1 ty
 refine ⟨T,id,pa,slot,hty,h1,h2,?_⟩
 have hA:=ha cpos pins s1 σ H1 _ I1 q1
 rw [hs] at hA ⊢
 refine Calls.callWith_builtin (by show (false || (backTo cpos (starEach es X.env)).any (·.1))=false;rw [hplain] <;> rfl) (Calls.evalArgs_plain ?_)
 exact thn hA λus s2 ⟨vs,H2,I2,r2,q2⟩=>hm pins s2 σ H2 x vs v us Q I2 r1 r2 q2
end
end L2
namespace L2
open PySem PySem.Spec PyProof.Rows
noncomputable def MtM (X:Cx) (id:String) (r:V->List V->Hp->VK->Prop):Prop :=
 ∀ (pins:List (Addr × Obj)) (s:Shared) (σ:St) (H:Hp) (x:V) (xs:List V) (v:Value) (us:List Value) (Q:VK),Inv X pins σ H s->aw x v->au xs us->r x xs H Q ->
  wpAny (model X.prog X.w) X.A (call (.builtin id) (v::us)) (EP X pins σ Q) X.xe s
theorem au.one:∀ {x:V}{us:List Value},au [x] us->∃ u,us=[u]/\aw x u
 | _,_,.cons r .nil=>⟨_,rfl,r⟩
theorem au.zero:∀ {us:List Value},au [] us->us=[]
 | _,.nil=>rfl
theorem au.reverse {xs:List V}{us:List Value} (h:au xs us):au xs.reverse us.reverse:=by
 induction h with
 | nil=>exact .nil
 | cons r t ih=>rw [List.reverse_cons,List.reverse_cons];exact au.append ih (.cons r .nil)
section
variable {X:Cx}{pins:List (Addr × Obj)}{σ:St}{H:Hp}{s:Shared}{l b:Addr}{xs ys zs:List V}
theorem Inv.lset {its its':List Value}{n:Nat}{f:Array Value->Array Value}{t':Nat} (I:Inv X pins σ H s) (hH:H l=some (.lst xs))
  (e:s.heap.get? l=some { cls:=.type "list",data:=.seq its.toArray n }) (hf:f its.toArray=its'.toArray) (hv:au ys its') (hz:ys.length <= sizeLine) :
  Inv X pins σ (upd H l (.lst ys)) { s with heap:=s.heap.update l (Obj.mapSeq f),toks:=t' }:=by
 have q:=PySem.IsL.update e f
 rw [hf] at q
 refine I.write (x:=l) (e:=l) (by rw [hH];exact trivial) (.inl rfl) (λb' u hb hu=>(Heap.get?_update_other s.heap (Obj.mapSeq f) (Ne.symm hb)).trans hu) ⟨_,q⟩ ?_
 exact ⟨hz,its',_,hv,q⟩
theorem Inv.lnew {its:List Value}{t':Nat} (I:Inv X pins σ H s) (hv:au ys its) (hz:ys.length <= sizeLine) :
  Inv X pins σ (upd H s.heap.objs.size (.lst ys)) { s with heap:=s.heap.push { cls:=.type "list",data:=.seq its.toArray },toks:=t' } :=
 I.laid (λ_ _ q=>Heap.get?_push_of_some _ q) (Nat.le_refl _) ⟨hz,its,0,hv,Heap.get?_push_size _ rfl⟩
theorem Inv.fresh (I:Inv X pins σ H s):H s.heap.objs.size=none:=I.hok.fresh (Nat.le_refl _)
theorem Inv.lstM (I:Inv X pins σ H s) (hH:H l=some (.lst xs)):xs.length <= sizeLine/\∃ (its:List Value) (n:Nat),au xs its/\xs.length=its.length/\s.heap.get? l=some { cls:=.type "list",data:=.seq its.toArray n }:=by
 obtain ⟨z,its,n,r,e⟩:=I.hok l _ hH
 exact ⟨z,its,n,r,r.length,e⟩
theorem mU {n:Nat} (h:n <= sizeLine):Builtin.List.listTooLong n=false:=by
 unfold Builtin.List.listTooLong
 exact decide_eq_false (by omega)
end
section
variable {X:Cx}
noncomputable def jh:V->List V->Hp->VK->Prop:=λx vs H Q=>∃ l xs y,x=.ref l/\vs=[y]/\H l=some (.lst xs)/\xs.length < sizeLine/\Q .non (upd H l (.lst (xs ++ [y])))
theorem fT:MtM X "list.append" jh:=by
 intro pins s σ H x vs v us Q I rx rv h
 obtain ⟨l,xs,y,rfl,rfl,hH,hz,q⟩:=h
 cases rx
 obtain ⟨u,rfl,ru⟩:=rv.one
 obtain ⟨z,its,n,r,hl,e⟩:=I.lstM hH
 refine call_meets F.slot_list_append ⟨_,e,rfl⟩ F.entry_list_append (F.args_list_append_2 _ _) (PySem.list_append l its.toArray n u (by rw [List.size_toArray];omega)) ⟨e,?_⟩
 refine ⟨.non,_,I.lset (its':=its ++ [u]) hH e (by simp) (r.append (.cons ru .nil)) ?_,rfl,q⟩
 rw [List.length_append,List.length_singleton]
 omega
end
section
variable {prog:Program}{w:World}{A:Around}{E:Value->Shared->Prop}{s:Shared}
end
section
variable {X:Cx}
end
end L2
namespace Att
open PySem PySem.W PySem.Calls PyProof.Rows
theorem i_ {P:Params}{h:Heap}:∀ (ns:List Int) (vs:List Value),WellAll P h vs (ns.map WData.int)->IntsAre vs ns:=by
 intro ns
 induction ns with
 | nil =>
  intro vs w
  rw [List.map_nil] at w
  cases w
  exact .nil
 | cons n ns ih =>
  intro vs w
  rw [List.map_cons] at w
  cases w with
  | cons a b =>
   cases a
   exact .cons _ _ (ih _ b)
theorem rh {l:OpenLaw}{n:Nat} (hn:l.most=some n) {P:Params}{h:Heap}{args:List WData}{vals:List Value}
  (hpre:l.row.toRowW.claim.pre args=true) (hwl:WellAll P h vals args) :
  ∃ a vs ns,vals=[Value.ref a]/\args=[WData.list (ns.map WData.int)]/\h.get? a=some { cls:=.type "list",data:=.seq vs.toArray }/\IntsAre vs ns/\ns.length <= n:=by
 have hsh:WShape.hasAll [] args [.list .int]=true:=(pre_splitW hpre).1
 have hc:l.pre.holds [] { args:=args }=true:=(pre_splitW hpre).2
 obtain ⟨d,r,rfl,h1,h2⟩:=hasAllW_cons hsh
 obtain rfl:=hasAllW_nil h2
 obtain ⟨xs,rfl,h3⟩:=hasW_list h1
 obtain ⟨ns,rfl⟩:=items_int h3
 have hlen:ns.length <= n:=by
  unfold OpenLaw.pre at hc
  have h4:(WTm.not (.lt (.lit (.int (n:Int))) (.len (.arg 0)))).holds [] { args:=[.list (ns.map .int)] }=true:=by
   have h4:=(holds_andW hc).1
   rw [hn] at h4
   exact h4
  have h5:=condW_of h4 (w_not (w_lt w_lit (w_len_list (w_arg rfl))))
  rw [List.length_map] at h5
  refine Nat.le_of_not_lt λq=>?_
  have q':(n:Int) < ((ns.length:Nat):Int):=by omega
  first
   | (rw [decide_eq_true q'] at h5;exact absurd h5 (by decide))
   | (simp at h5;omega)
 cases hwl with
 | cons w1 w2 =>
  cases w2
  cases w1 with
  | list ho hall=>exact ⟨_,_,ns,rfl,rfl,ho,i_ ns _ hall,hlen⟩
theorem rj (l:OpenLaw) (args:List WData):l.row.toRowW.claim.post args (.bool true) args=true :=
 postW_of (r:=l.row.toRowW) (X:=(true == true))
  (show WShape.has [] (.bool true) .bool=true by first|rfl|decide|simp [WShape.has,WShape.arms,WShape.armsAll])
  (show (WTm.eq .res (.lit (.bool true))).value [] { args:=args,res:=some (.bool true),after:=args }=some (.bool (true == true)) from w_eq_bool (w_res rfl) w_lit) rfl
theorem attach_call {l:OpenLaw}{n:Nat}{q:Program}{loose:List Str}{XP:(Str->Option Value)->Heap->Prop}{YP:World->Heap->Prop}{d:DefRec}
  (hn:l.most=some n) (hdf:d.params.defaults=[])
  (call:∀ (w:World) (s₀ s₁:Shared) (mg mb:Str->Option Value) (fa:Addr) (o:Obj) (pm cd doc:Value) (a:Addr) (vs:List Value) (ns:List Int),
   Ground q loose [] XP w s₀ mg mb s₁.heap->YP w s₁.heap ->
   s₁.heap.get? fa=some o->o.data=.func (docDef d.name d.params d.body d.scope pm cd doc)->s₁.heap.CodeRec cd d.name->mg d.name=some (.ref fa) ->
   s₁.heap.get? a=some { cls:=.type "list",data:=.seq vs.toArray }->IntsAre vs ns->ns.length <= n->s₁.gens=#[] ->
   codeAny (model l.prog w) callerA (.call (.ref fa) ⟨[.ref a],[]⟩) (λr s'=>r=.ok (.ret (.bool true))/\OldK s₁.heap s'.heap/\s'.os=s₁.os/\AllBare s'.gens) s₁) :
  WalkO q loose XP YP l.row.toRowW d [] (λf vs=>PySem.call f vs):=by
 intro w s₀ s₁ mg mb G Y fa o pm cd doc dV kV ho hd hcd hD hmg hg args vals as hpre hlay hrd hwl hlo
 obtain rfl:dV=.none:=Dflts.none hD hdf
 obtain rfl:kV=.none:=Dflts.noKw hD
 obtain ⟨a,vs,ns,rfl,rfl,hobj,hints,hlen⟩:=rh hn hpre hwl
 refine enter_call (codeAny_mono (call w s₀ s₁ mg mb fa o pm cd doc a vs ns G Y ho (fd_plain hd) hcd hmg hobj hints hlen hg) λr s' hq=>?_)
 obtain ⟨rfl,h2,h3,h4⟩:=hq
 exact ⟨.inl ⟨.bool true,.bool true,[],rfl,λ_=>rfl,.bool true,rj l _,λ_=>⟨List.Pairwise.nil,λ_ hm=>(nomatch hm)⟩⟩,h2,h3,h4⟩
section
variable {prog:Program}{w:World}{A:Around}{E:Value->Shared->Prop}{s:Shared}{K:Frag}
end
end Att
namespace L2
open PySem PySem.Spec PyProof.Rows
theorem iC:∀ {vs:List Value}{ns:List Int},IntsAre vs ns->au (ns.map V.int) vs
 | _,_,.nil=>.nil
 | _,_,.cons n t h=>.cons ⟨t,rfl⟩ (iC h)
noncomputable def yG (H:Hp):Prop:=∀ b,H b=none \/ ∃ o xs,H b=some (.frz o (.lst xs))
theorem s_ {P:Program}{w:World}{K:PySem.W.Frag}{mg mb:Str->Option Value}{CX:CXT}{k:Nat}{fa a:Addr}{fd:FuncData}{x:Str}{sp:Sp}{s₁:Shared}{vs:List Value}{ns:List Int}
  (KX:K.In s₁.heap) (hns:s₁.heap.Ns mainGlobals mg) (hb:s₁.heap.Ns builtinsNs mb) (hbb:∀ x:Str,x ≠ "__name__"->mb x=bootBuiltins x) (hlim:s₁.heap.NoLimit) (hg:s₁.gens=#[])
  (ha:s₁.heap.get? a=some { cls:=.type "list",data:=.seq vs.toArray }) (hi:IntsAre vs ns) (hl:ns.length <= sizeLine) (hr:dj k callerA)
  (F:∀ base:Heap,K.In base->base.Ns mainGlobals mg->dQ P w K mg base CX k fa fd [x] sp) (hbind:∀ (s:Shared) (u:Value),BindsTo s fd ⟨[u],[]⟩ [(x,u)])
  (hsp:∀ H:Hp,yG H->SqL K H a (ns.map V.int)->sp [.ref a] H (λv _=>v=.bl true) λ_ _ _=>False)
  (hCX:∀ H e s',CX [] H s₁ (λ_ _ _=>False) e s'->False) :
  codeAny (model P w) callerA (.call (.ref fa) ⟨[.ref a],[]⟩) (λr s'=>r=.ok (.ret (.bool true))/\OldK s₁.heap s'.heap/\s'.os=s₁.os/\AllBare s'.gens) s₁:=by
 have rv:=iC hi
 have lenV:=hi.length
 have core:∀ H:Hp,yG H->SqL K H a (ns.map V.int)->HOk P w H s₁.heap->(∀ b,H b ≠ none->b=a)->(H a ≠ none->K.lookup a=none) ->
   codeAny (model P w) callerA (.call (.ref fa) ⟨[.ref a],[]⟩) (λr s'=>r=.ok (.ret (.bool true))/\OldK s₁.heap s'.heap/\s'.os=s₁.os/\AllBare s'.gens) s₁:=by
  intro H hO hS hok hA hK
  have base_of:∀ {b:Addr}{o:Obj},s₁.heap.get? b=some o->H b=none->(lM s₁.heap H).get? b=some o:=λe n=>sE e n
  have noA:∀ {b:Addr}{o:Obj}{es:Array DictEntry}{ep:Nat},s₁.heap.get? b=some o->o.data=.dict es ep->H b=none:=λ{b o es ep} e d=>by
   cases q:H b with
   | none=>rfl
   | some u =>
    have e':b=a:=hA b (by rw [q];simp)
    subst e'
    rw [ha] at e;cases e
    have d':Data.seq vs.toArray _=Data.dict es ep:=d
    cases d'
  have nsK:∀ {b:Addr}{m:Str->Option Value},s₁.heap.Ns b m->(lM s₁.heap H).Ns b m:=λ{b m} ⟨o,es,ep,e,d,r⟩=>⟨o,es,ep,base_of e (noA e d),d,r⟩
  have hKb:K.In (lM s₁.heap H):=λb o e=>base_of (KX b o e) (by
   cases q:H b with
   | none=>rfl
   | some u =>
    have e':b=a:=hA b (by rw [q];simp)
    subst e'
    rw [hK (by rw [q];simp)] at e;cases e)
  have hM:Mod K mg (lM s₁.heap H):=⟨hKb,nsK hns,⟨mb,nsK hb,hbb⟩,let ⟨mc,h1,h2⟩:=hlim;⟨mc,nsK h1,h2⟩⟩
  have e0:oM P w K mg (lM s₁.heap H) callerA [] s₁ H:=⟨rfl,hM,λb o e=>v1 e,Nat.le_of_eq (qX _ _),trivial,λb hb=>absurd (show b ∈ ([]:List Addr) from hb) (by simp),hok,.of_eq hg⟩
  refine codeAny_mono ((F _ hKb (nsK hns)).run callerA [] s₁ H ⟨[.ref a],[]⟩ [.ref a] [.ref a] _ _ hr e0 (hbind s₁ (.ref a)) (.cons rfl .nil) (hsp H hO hS)) λr s' h=>?_
  cases r with
  | error e=>exact (hCX H e s' h).elim
  | ok fl =>
   cases fl with
   | next=>exact False.elim h
   | brk=>exact False.elim h
   | cont=>exact False.elim h
   | ret u =>
    obtain ⟨v,H',os,bare,un,hok',r',q⟩:=h
    have q':v=.bl true:=q
    subst q'
    obtain rfl:u=Value.bool true:=r'
    refine ⟨rfl,OldK.of_keep λb o e=>?_,os,bare⟩
    cases q:H b with
    | none=>exact un.keep b o e q (by intro z;exact absurd (show b ∈ ([]:List Addr) from z) (by simp)) (by simp)
    | some u =>
     rcases hO b with z|⟨ob,xs,z⟩
     ·rw [q] at z;cases z
     ·have z2:=un.frzs b ob _ z
      obtain ⟨e1,_⟩:=hok b _ z
      obtain ⟨e2,_⟩:=hok' b _ z2
      rw [e] at e1;cases e1
      exact e2
 cases hk:K.lookup a with
 | some o =>
  have e:=KX a o hk
  rw [ha] at e
  cases e
  refine core (λ_=>none) (λ_=>.inl rfl) (.inr ⟨_,vs.toArray,_,hk,rfl,rfl,rfl,by rw [List.size_toArray,lenV];exact hl,by simpa using rv⟩) (λb u z=>by have z':(none:Option HO)=some u:=z;cases z') (λb z=>absurd rfl z) λz=>absurd rfl z
 | none =>
  refine core (λb=>if b=a then some (.frz { cls:=.type "list",data:=.seq vs.toArray } (.lst (ns.map V.int))) else none) (λb=>?_) (.inl (.inr ⟨{ cls:=.type "list",data:=.seq vs.toArray },if_pos rfl⟩)) (λb u z=>?_) (λb z=>?_) λ_=>hk
  ·by_cases hb:b=a
   ·exact .inr ⟨_,_,if_pos hb⟩
   ·exact .inl (if_neg hb)
  ·by_cases hb:b=a
   ·have z':=(if_pos hb).symm.trans z
    cases z'
    subst hb
    exact ⟨ha,by rw [List.length_map];exact hl,vs,_,rv,ha⟩
   ·have z':=(if_neg hb).symm.trans z
    cases z'
  ·by_cases hb:b=a
   ·exact hb
   ·exact absurd (if_neg hb) z
end L2
namespace L2
open PySem PySem.Spec PyProof.Rows
theorem wo {l:PySem.W.OpenLaw}{n k:Nat}{q:Program}{loose:List Str}{XP:(Str->Option Value)->Heap->Prop}{YP:World->Heap->Prop}{d:DefRec}{K:Params->PySem.W.Frag}{CX:World->CXT}{sp:World->Sp}{x:Str}
  (hn:l.most=some n) (hn2:n <= sizeLine) (hdf:d.params.defaults=[]) (hr:dj k callerA)
  (hY:∀ (w:World) (h:Heap),YP w h->(K w.params).In h)
  (F:∀ (w:World) (mg:Str->Option Value) (fa:Addr) (h:Heap),(K w.params).In h->h.Ns mainGlobals mg->mg d.name=some (.ref fa) ->
   ∃ fd:FuncData,(∀ (s:Shared) (u:Value),BindsTo s fd ⟨[u],[]⟩ [(x,u)]) /\
    ∀ base:Heap,(K w.params).In base->base.Ns mainGlobals mg->dQ l.prog w (K w.params) mg base (CX w) k fa fd [x] (sp w))
  (hsp:∀ (w:World) (H:Hp) (a:Addr) (ns:List Int),ns.length <= n->yG H->SqL (K w.params) H a (ns.map V.int)->sp w [.ref a] H (λv _=>v=.bl true) λ_ _ _=>False)
  (hCX:∀ (w:World) (H:Hp) (s:Shared) (e:Value) (s':Shared),CX w [] H s (λ_ _ _=>False) e s'->False) :
  PySem.W.WalkO q loose XP YP l.row.toRowW d [] (λf vs=>PySem.call f vs):=by
 refine Att.attach_call hn hdf λw s₀ s₁ mg mb fa o pm cd doc a vs ns G Y ho hd hcd hmg hobj hints hlen hg=>?_
 have KX:=hY w _ Y
 obtain ⟨fd,hb,hF⟩:=F w mg fa _ KX G.T.g hmg
 exact s_ KX G.T.g G.T.b G.T.builtins G.T.nolimit hg hobj hints (Nat.le_trans hlen hn2) hr hF hb (λH hO hS=>hsp w H a ns hlen hO hS) λH e s'=>hCX w H s₁ e s'
end L2
namespace L2
open PySem PySem.Spec PyProof.Rows
noncomputable def fU (s:Stmt) (j:Nat):Stmt:=match s with
 | .ClassDef _ _ _ body _ _ _ _ _ _ _=>body.getD j (.Pass ⟨0,0,0,0⟩)
 | _=>.Pass ⟨0,0,0,0⟩
noncomputable def gM (s:Stmt):Arguments:=match s with
 | .FunctionDef _ a _ _ _ _ _ _ _ _=>a
 | _=>{ posonlyargs:=[],args:=[],vararg:=none,kwonlyargs:=[],kw_defaults:=[],kwarg:=none,defaults:=[] }
noncomputable def cE (s:Stmt):List Stmt:=match s with
 | .FunctionDef _ _ b _ _ _ _ _ _ _=>b
 | _=>[]
noncomputable def az (s:Stmt):Scope:=match s with
 | .FunctionDef _ _ _ _ _ _ sc _ _ _=>sc
 | _=>{ kind:=.function,names:=[],isGenerator:=false,isCoroutine:=false }
noncomputable abbrev CX0:CXT:=λ_ _ _ _ _ _=>False
noncomputable abbrev E0:XK:=λ_ _ _=>False
theorem iX {X:Cx}:fE CX0 X E0:=λ_ _ _ _ _ _ _ h=>h.elim
section
variable {P:Program}{w:World}{K:PySem.W.Frag}{mg:Str->Option Value}{base:Heap}
end
section
variable {X:Cx}
theorem pv (i:Nat) {x:Str}{pos:Pos} (hN:X.N[i]?=some x:=by rfl) (hv:Vis X.env.scope x:=by first|exact Or.inl rfl|exact Or.inr (Or.inl rfl)|exact Or.inr (Or.inr rfl)) (hd:(x == ("__debug__":Str))=false:=by decide)
  (hcd:(x == ("__classdict__":Str))=false:=by decide):PE X (.Name x pos) (eX i):=sF hN hv hd hcd
end
noncomputable def ae (H H':Hp):Prop:=∀ b o,H b=some o->H' b=some o
theorem ae.refl (H:Hp):ae H H:=λ_ _ h=>h
theorem ae.trans {H H1 H2:Hp} (a:ae H H1) (b:ae H1 H2):ae H H2:=λc o h=>b c o (a c o h)
theorem ae.free {H H':Hp} (e:ae H H') {l:Addr} (h:H' l=Option.none):H l=Option.none:=by
 cases q:H l with
 | none=>rfl
 | some o =>
  rw [e l o q] at h
  cases h
theorem ae.seq {K:PySem.W.Frag}{H H':Hp}{a:Addr}{xs:List V} (e:ae H H') (h:SqL K H a xs):SqL K H' a xs:=by
 rcases h with (h|⟨o,h⟩)|h
 ·exact .inl (.inl (e _ _ h))
 ·exact .inl (.inr ⟨o,e _ _ h⟩)
 ·exact .inr h
end L2
namespace L2
open PySem PySem.Spec PyProof.Rows
section
variable {κ:Type} [DecidableEq κ]
noncomputable def gN (kvs:List (κ × V)) (k:κ):Option V:=(kvs.find? λkv=>decide (kv.1=k)).map (·.2)
noncomputable def kE (kvs:List (κ × V)) (k:κ) (v:V):List (κ × V) :=
 if (kvs.any λkv=>decide (kv.1=k))=true then kvs.map (λkv=>if kv.1=k then (kv.1,v) else kv) else kvs ++ [(k,v)]
noncomputable def C3 (kvs:List (κ × V)) (k:κ):List (κ × V):=kvs.filter λkv=>decide (kv.1 ≠ k)
theorem jy {p:κ × V}{r:List (κ × V)}{k:κ} (e:p.1=k):gN (p::r) k=some p.2:=by simp [gN,List.find?_cons,e]
theorem jz {p:κ × V}{r:List (κ × V)}{k:κ} (e:¬ p.1=k):gN (p::r) k=gN r k:=by simp [gN,List.find?_cons,e]
theorem mV (k:κ):∀ kvs:List (κ × V),(kvs.any λkv=>decide (kv.1=k))=(gN kvs k).isSome
 | []=>rfl
 | p::r=>by
  rw [List.any_cons]
  by_cases e:p.1=k
  ·simp only [jy e,decide_eq_true e,Bool.true_or,Option.isSome_some]
  ·rw [jz e,decide_eq_false e,Bool.false_or];exact mV k r
theorem mW (kvs:List (κ × V)) (k:κ) (v:V):(kE kvs k v).length <= kvs.length + 1:=by
 unfold kE
 split
 ·rw [List.length_map];omega
 ·rw [List.length_append,List.length_cons,List.length_nil];omega
theorem fB.isSome_eq {o:Option V}{u:Option Value} (r:fB o u):o.isSome=u.isSome:=by
 cases o with
 | none=>cases u with
  | none=>rfl
  | some _=>exact (show False from r).elim
 | some _=>cases u with
  | none=>exact (show False from r).elim
  | some _=>rfl
theorem fB.getD {o:Option V}{u:Option Value}{d:V}{d':Value} (r:fB o u) (rd:aw d d'):aw (o.getD d) (u.getD d'):=by
 cases o with
 | none=>cases u with
  | none=>exact rd
  | some _=>exact (show False from r).elim
 | some _=>cases u with
  | none=>exact (show False from r).elim
  | some _=>exact r
theorem KV.val {kvs:List (κ × V)}{vs:List (κ × Value)} (r:KV kvs vs) (k:κ):fB (gN kvs k) (valueAt vs k):=by
 unfold KV at r
 induction r with
 | nil=>exact True.intro
 | @cons p q ps qs h t ih =>
  obtain ⟨h1,h2⟩:=h
  by_cases e:p.1=k
  ·have e':q.1=k:=h1.symm.trans e
   have b:valueAt (q::qs) k=some q.2:=by simp [valueAt,List.find?_cons,e']
   rw [jy e,b];exact h2
  ·have e':¬ q.1=k:=λz=>e (h1.trans z)
   have b:valueAt (q::qs) k=valueAt qs k:=by simp [valueAt,List.find?_cons,e']
   rw [jz e,b];exact ih
theorem KV.any {kvs:List (κ × V)}{vs:List (κ × Value)} (r:KV kvs vs) (k:κ):(kvs.any λkv=>decide (kv.1=k))=vs.any λkv=>decide (kv.1=k):=by
 unfold KV at r
 induction r with
 | nil=>rfl
 | cons h t ih=>rw [List.any_cons,List.any_cons,ih,h.1]
theorem KV.repl {kvs:List (κ × V)}{vs:List (κ × Value)} (r:KV kvs vs) (k:κ) {y:V}{u:Value} (ry:aw y u) :
  KV (kvs.map λkv=>if kv.1=k then (kv.1,y) else kv) (vs.map λkv=>if kv.1=k then (kv.1,u) else kv):=by
 unfold KV at r ⊢
 induction r with
 | nil=>exact .nil
 | @cons p q ps qs h t ih =>
  rw [List.map_cons,List.map_cons]
  refine .cons ?_ ih
  obtain ⟨h1,h2⟩:=h
  by_cases e:p.1=k
  ·rw [if_pos e,if_pos (h1.symm.trans e)];exact ⟨h1,ry⟩
  ·rw [if_neg e,if_neg (λz=>e (h1.trans z))];exact ⟨h1,h2⟩
theorem KV.put {kvs:List (κ × V)}{vs:List (κ × Value)} (r:KV kvs vs) (k:κ) {y:V}{u:Value} (ry:aw y u):KV (kE kvs k y) (stored vs k u):=by
 unfold kE stored
 rw [r.any k]
 by_cases e:(vs.any λkv=>decide (kv.1=k))=true
 ·rw [if_pos e,if_pos e];exact r.repl k ry
 ·rw [if_neg e,if_neg e];exact Paired.snoc r ⟨rfl,ry⟩
theorem KV.keys {kvs:List (κ × V)}{vs:List (κ × Value)} (r:KV kvs vs):kvs.map (·.1)=vs.map (·.1):=by
 unfold KV at r
 induction r with
 | nil=>rfl
 | cons h t ih=>rw [List.map_cons,List.map_cons,ih,h.1]
theorem KV.length {kvs:List (κ × V)}{vs:List (κ × Value)} (r:KV kvs vs):kvs.length=vs.length:=Paired.length r
end
theorem tf {P:Program}{w:World}{k:Key}{u:Value} (r:aw (kV k) u):(b9 P w).is k u=true:=by
 cases k with
 | inl i=>obtain ⟨t,e⟩:=(show ∃ t,u=Value.int i t from r);subst e;exact mK P w i t
 | inr x=>obtain ⟨t,e⟩:=(show ∃ t,u=Value.str x t from r);subst e;exact mL P w x t
theorem kW {P:Program}{w:World}:∀ {ks:List Key}{us:List Value},au (ks.map kV) us->ItemsAre (b9 P w) ks us
 | [],_,r=>by rw [List.map_nil] at r;cases r;exact .nil
 | k::ks,_,r=>by
  rw [List.map_cons] at r
  cases r with
  | cons h t=>exact .cons (tf h) (kW t)
noncomputable abbrev KT (H:Hp):List (List Key × V)->List (List Key × Addr × Value)->Prop:=Paired λp q=>p.1=q.1/\H q.2.1=some (.tup (p.1.map kV))/\aw p.2 q.2.2
theorem KT.val {H:Hp}{kvs:List (List Key × V)}{xs:List (List Key × Addr × Value)} (r:KT H kvs xs) (k:List Key):fB (gN kvs k) ((atKey xs k).map (·.2)):=by
 induction r with
 | nil=>exact True.intro
 | @cons p q ps qs h t ih =>
  obtain ⟨h1,_,h2⟩:=h
  by_cases e:p.1=k
  ·have e':q.1=k:=h1.symm.trans e
   have b:atKey (q::qs) k=some q.2:=by simp [atKey,List.find?_cons,e']
   rw [jy e,b];exact h2
  ·have e':¬ q.1=k:=λz=>e (h1.trans z)
   have b:atKey (q::qs) k=atKey qs k:=by simp [atKey,List.find?_cons,e']
   rw [jz e,b];exact ih
theorem KT.repl {H:Hp}{kvs:List (List Key × V)}{xs:List (List Key × Addr × Value)} (r:KT H kvs xs) (k:List Key) {y:V}{u:Value} (ry:aw y u) :
  KT H (kvs.map λkv=>if kv.1=k then (kv.1,y) else kv) (xs.map (putAt k u)):=by
 induction r with
 | nil=>exact .nil
 | @cons p q ps qs h t ih =>
  rw [List.map_cons,List.map_cons]
  refine .cons ?_ ih
  obtain ⟨h1,h2,h3⟩:=h
  unfold putAt
  by_cases e:p.1=k
  ·rw [if_pos e,if_pos (h1.symm.trans e)];exact ⟨h1,h2,ry⟩
  ·rw [if_neg e,if_neg (λz=>e (h1.trans z))];exact ⟨h1,h2,h3⟩
theorem KT.put {H:Hp}{kvs:List (List Key × V)}{xs:List (List Key × Addr × Value)} (r:KT H kvs xs) (k:List Key) {b:Addr}{y:V}{u:Value} (hb:H b=some (.tup (k.map kV))) (ry:aw y u) :
  KT H (kE kvs k y) (storedH xs k b u):=by
 have e:(kvs.any λkv=>decide (kv.1=k))=(atKey xs k).isSome:=by
  rw [mV,(r.val k).isSome_eq,Option.isSome_map]
 unfold kE storedH
 rw [e]
 by_cases q:(atKey xs k).isSome=true
 ·rw [if_pos q,if_pos q];exact r.repl k ry
 ·rw [if_neg q,if_neg q];exact Paired.snoc r ⟨rfl,hb,ry⟩
theorem KT.keeps {H H':Hp}{kvs:List (List Key × V)}{xs:List (List Key × Addr × Value)} (r:KT H kvs xs) (ht:∀ b ys,H b=some (.tup ys)->H' b=some (.tup ys)):KT H' kvs xs :=
 Paired.mapP r λ_ _ z=>⟨z.1,ht _ _ z.2.1,z.2.2⟩
section
variable {P:Program}{w:World}{H:Hp}{h:Heap}{a:Addr}
theorem xR {u:HO} (ok:HOk P w H h) (e:Rd H a u):bB P w H h a u:=e.ok ok
theorem mX {kvs:List (Key × V)} (ok:HOk P w H h) (e:Rd H a (.dK kvs)):kvs.length <= sizeLine/\(a == sysModules)=false/\∃ vs,KV kvs vs/\h.DictOf (b9 P w) a vs :=
 show bB P w H h a (.dK kvs) from xR ok e
theorem A2 {kvs:List (Key × V)} (ok:HOk P w H h) (e:H a=some (.dK kvs)):kvs.length <= sizeLine/\(a == sysModules)=false/\∃ vs,KV kvs vs/\h.DictOf (b9 P w) a vs:=mX ok (.inl e)
theorem ti {ks:List Key} (ok:HOk P w H h) (e:H a=some (.tup (ks.map kV))):(tupleKind (b9 P w)).is h ks a:=by
 obtain ⟨_,its,r,o,h1,h2,n,h3⟩:=(show bB P w H h a (.tup (ks.map kV)) from ok a _ e)
 exact ⟨o,its.toArray,n,h1,h2,h3,by simpa using kW r⟩
theorem tj {kvs:List (List Key × V)} (ok:HOk P w H h) (e:Rd H a (.dT kvs)):kvs.length <= sizeLine/\(a == sysModules)=false /\
  ∃ xs,KT H kvs xs/\h.DictOfH (tupleKind (b9 P w)) a xs:=by
 obtain ⟨z,y,xs,r,o,es,ep,h1,h2,h3,h4,h5⟩:=(show bB P w H h a (.dT kvs) from xR ok e)
 refine ⟨z,y,xs,r,o,es,ep,h1,h2,h3,h4,λx hx=>?_,h5⟩
 have all:∀ {l:List (List Key × V)}{m:List (List Key × Addr × Value)},KT H l m->∀ x ∈ m,(tupleKind (b9 P w)).is h x.1 x.2.1:=by
  intro l m q
  induction q with
  | nil=>intro x hx;exact nomatch hx
  | @cons p q ps qs hq t ih =>
   intro x hx
   rcases List.mem_cons.mp hx with e|hx
   ·subst e
    exact ti ok (by rw [<- hq.1];exact hq.2.1)
   ·exact ih x hx
 exact all r x hx
end
noncomputable def yH (H:Hp) (a:Addr) (y:V) (r:Option V):Prop :=
 (∃ kvs k,Rd H a (.dK kvs)/\y=kV k/\r=gN kvs k) \/ ∃ kvs k b,Rd H a (.dT kvs)/\y=.ref b/\H b=some (.tup (k.map kV))/\r=gN kvs k
section
variable {X:Cx}{pins:List (Addr × Obj)}{σ:St}{H:Hp}{s:Shared}{a:Addr}{y v:V}{u r:Value}{o:Option V}{A:Around}{E:Value->Shared->Prop}
theorem Inv.big (I:Inv X pins σ H s):sysModules < s.heap.objs.size:=by
 have h:mainGlobals < s.heap.objs.size:=(I.mod.glob.keeps I.bk).lt
 exact Nat.lt_trans (by decide) h
theorem rl {Q:Value->Shared->Prop} (hu:A.units + 1 < cLine) (I:Inv X pins σ H s) (g:yH H a y (some v)) (ry:aw y u) (h:∀ w' s',Inv X pins σ H s'->aw v w'->Q w' s') :
  wpAny (model X.prog X.w) A (getItem (.ref a) u) Q E s:=by
 rcases g with ⟨kvs,k,e,ey,l⟩|⟨kvs,k,b,e,ey,eb,l⟩
 ·subst ey
  obtain ⟨z,hd,vs,rel,dd⟩:=mX I.hok e
  obtain ⟨w',hw,rw'⟩:=fB.some_of (v:=v) (o:=valueAt vs k) (by rw [l];exact rel.val k)
  exact wpAny_getItem_of (tf ry) dd.mapOf hw (h w' _ (I.tok _) rw')
 ·subst ey
  cases (show u=Value.ref b from ry)
  obtain ⟨z,hd,xs,rel,dd⟩:=tj I.hok e
  obtain ⟨w',hw,rw'⟩:=fB.some_of (v:=v) (o:=(atKey xs k).map (·.2)) (by rw [l];exact rel.val k)
  obtain ⟨p,hp,hp2⟩:=Option.map_eq_some_iff.mp hw
  refine wpAny_getItem_heap (tupleKind_room_in1 hu) (ti I.hok eb) dd hp ?_
  rw [hp2]
  exact h w' _ (I.tok _) rw'
theorem wp {h':Heap}{t':Nat}{ob:HO} (I:Inv X pins σ H s) (mu:Mut (H a)) (hs:Heap.SameBut a s.heap h') (he:∃ q,h'.get? a=some q) (new:bB X.prog X.w (upd H a ob) h' a ob) :
  Inv X pins σ (upd H a ob) { s with heap:=h',toks:=t' } :=
 I.write (x:=a) (e:=a) mu (.inl rfl) (λb q hb z=>(hs.2 b hb).trans z) he new
theorem yI {P:Program}{w:World}{H':Hp}{h':Heap}{kvs:List (Key × V)}{vs:List (Key × Value)} (z:kvs.length <= sizeLine) (hd:(a == sysModules)=false) (rel:KV kvs vs) (dd:h'.DictOf (b9 P w) a vs) :
  bB P w H' h' a (.dK kvs):=⟨z,hd,vs,rel,dd⟩
end
section
variable {X:Cx}{pins:List (Addr × Obj)}{σ:St}{H:Hp}{s:Shared}{a:Addr}{kvs:List (Key × V)}{k:Key}{u:Value}{A:Around}{E:Value->Shared->Prop}
end
noncomputable def A3 (i:Expr):Prop:=∀ ov iv,subscripted i false ov iv=operate [ov,iv] (getItem ov iv)
theorem wq {prog:Program}{w:World}{A:Around}{E:Value->Shared->Prop}{s:Shared}{env:Env}{value slice:Expr}{pos:Pos}{T id:String}{Q:Value->Shared->Prop}
  (hl:typeLookup (.type T) "__getitem__"=pure (some (.builtin id))) (hs:A3 slice)
  (h:wpAny (model prog w) A (eval value env) (λo s₁=>wpAny (model prog w) A (eval slice env) (λi s₂=>s₂.TypeIs o T/\wpAny (model prog w) A (getItem o i) Q E s₂) E s₁) E s) :
  wpAny (model prog w) A (eval (.Subscript value slice pos) env) Q E s:=by
 refine Subscript_ (wpAny_mono h (λo s₁ h₁=>wpAny_mono h₁ (λi s₂ h₂=>?_) λ_ _ x=>x) λ_ _ x=>x)
 obtain ⟨hT,h₂⟩:=h₂
 unfold subscriptTail
 refine wpAny_bind ?_
 rw [getitemInPython_of_ne hT.not_modules]
 refine wpAny_bind (wpAny_specialOf hT hl ?_)
 have fin:wpAny (model prog w) A (subscripted slice false o i) (λr s₃=>wpAny (model prog w) A (letTemporaryGo value o r >>= λ_=>pure r) Q E s₃) E s₂:=by
  rw [hs o i]
  exact wpAny_operating (wpAny_mono h₂ (λr s₃ h₃=>wpAny_bind (wpAny_letTemporaryGo (wpAny_pure h₃))) λ_ _ x=>x)
 first
  | exact wpAny_pure (wpAny_bind fin)
  | exact wpAny_bind (wpAny_pure (wpAny_bind fin))
  | exact wpAny_bind fin
theorem mY {X:Cx}{pins:List (Addr × Obj)}{σ:St}{H:Hp}{s:Shared}{a:Addr}{y:V}{o:Option V} (I:Inv X pins σ H s) (g:yH H a y o):s.TypeIs (.ref a) "dict":=by
 rcases g with ⟨kvs,k,e,_,_⟩|⟨kvs,k,b,e,_,_,_⟩
 ·obtain ⟨_,_,vs,_,dd⟩:=mX I.hok e
  exact dd.typeIs
 ·obtain ⟨_,_,xs,_,dd⟩:=tj I.hok e
  exact dd.typeIs
noncomputable def jA (td ty:TE):TE:=λσ H Q=>td σ H λx H1=>ty σ H1 λy H2=>∃ a v,x=.ref a/\yH H2 a y (some v)/\Q v H2
section
variable {X:Cx}{o i e value:Expr}{pos pos' tpos:Pos}{td ty tv:TE}
theorem ji (hu:X.A.units + 1 < cLine) (ho:PE X o td) (hi:PE X i ty) (hs:A3 i):PE X (.Subscript o i pos) (jA td ty):=by
 intro pins s σ H Q I h
 refine wq PySem.F.slot_dict_getitem.lookup hs (thn (ho pins s σ H _ I h) λu s1 ⟨x,H1,I1,rx,q1⟩=>thn (hi pins s1 σ H1 _ I1 q1) λiv s2 ⟨y,H2,I2,ry,a,v,ex,g,q2⟩=>?_)
 subst ex
 obtain rfl:u=Value.ref a:=rx
 exact ⟨mY I2 g,rl hu I2 g ry λw' s3 I3 rw'=>⟨v,H2,I3,rw',q2⟩⟩
end
theorem tm {P:Program}{w:World}{H:Hp} (h:Heap) (hb:sysModules < h.objs.size):bB P w H (h.push { cls:=.type "dict",data:=.dict #[] }) h.objs.size (.dK []) :=
 ⟨Nat.zero_le _,beq_eq_false_iff_ne.mpr (Ne.symm (Nat.ne_of_lt hb)),[],.nil,Heap.DictOf.new h⟩
section
variable {X:Cx}{pos:Pos}
end
noncomputable def lW:List (TE × TE)->St->Hp->(List (V × V)->Hp->Prop)->Prop
 | [],_,H,Q=>Q [] H
 | (tk,tv)::r,σ,H,Q=>tk σ H λx H1=>tv σ H1 λy H2=>lW r σ H2 λps H3=>Q ((x,y)::ps) H3
noncomputable abbrev VV:List (V × V)->List (Value × Value)->Prop:=Paired λp q=>aw p.1 q.1/\aw p.2 q.2
noncomputable def PPs (X:Cx) (pos:Pos) (keys:List (Option Expr)) (values:List Expr) (trs:List (TE × TE)):Prop :=
 ∀ (pins:List (Addr × Obj)) (s:Shared) (σ:St) (H:Hp) (Q:List (V × V)->Hp->Prop),Inv X pins σ H s->lW trs σ H Q ->
  wpAny (model X.prog X.w) X.A (evalPairs (pairTrees keys values X.env pos)) (λvs s'=>∃ ps H',Inv X pins σ H' s'/\VV ps vs/\Q ps H') X.xe s
theorem p8 {X:Cx}{pos:Pos}:PPs X pos [] [] []:=λpins s σ H Q I h=>pairTrees_nil_walk ⟨[],H,I,.nil,h⟩
theorem jB {X:Cx}{pos:Pos}{k v:Expr}{ks:List (Option Expr)}{vs:List Expr}{tk tv:TE}{trs:List (TE × TE)} (hk:PE X k tk) (hv:PE X v tv) (hr:PPs X pos ks vs trs) :
  PPs X pos (some k::ks) (v::vs) ((tk,tv)::trs):=λpins s σ H Q I h =>
 pairTrees_cons_walk (thn (hk pins s σ H _ I h) λu s1 ⟨x,H1,I1,rx,q1⟩=>thn (hv pins s1 σ H1 _ I1 q1) λw2 s2 ⟨y,H2,I2,ry,q2⟩ =>
  thn (hr pins s2 σ H2 _ I2 q2) λws s3 ⟨ps,H3,I3,rel,q3⟩=>⟨(x,y)::ps,H3,I3,.cons ⟨rx,ry⟩ rel,q3⟩)
noncomputable def dS (kvs more:List (Key × V)):List (Key × V):=more.foldl (λacc kv=>kE acc kv.1 kv.2) kvs
theorem KV.merge:∀ {more:List (Key × V)}{rs:List (Key × Value)}{kvs:List (Key × V)}{vs:List (Key × Value)},KV more rs->KV kvs vs->KV (dS kvs more) (merged vs rs):=by
 intro more rs kvs vs r
 unfold KV at r
 induction r generalizing kvs vs with
 | nil=>intro q;exact q
 | @cons p q ps qs h t ih =>
  intro r0
  have e:KV (kE kvs p.1 p.2) (stored vs q.1 q.2):=by
   have:=r0.put p.1 h.2
   rw [<- h.1];exact this
  exact ih e
theorem gk:∀ (more kvs:List (Key × V)),(dS kvs more).length <= kvs.length + more.length
 | [],kvs=>by show kvs.length <= kvs.length + 0;omega
 | p::r,kvs=>by
  have h1:=gk r (kE kvs p.1 p.2)
  have h2:=mW kvs p.1 p.2
  show (dS (kE kvs p.1 p.2) r).length <= _
  rw [List.length_cons];omega
theorem jC {P:Program}{w:World}:∀ {kvs:List (Key × V)}{ws:List (Value × Value)},VV (kvs.map λkv=>(kV kv.1,kv.2)) ws->∃ rs,Carries (b9 P w) ws rs/\KV kvs rs
 | [],_,r=>by rw [List.map_nil] at r;cases r;exact ⟨[],True.intro,.nil⟩
 | p::kvs,_,r=>by
  rw [List.map_cons] at r
  cases r with
  | @cons a b as bs h t =>
   obtain ⟨rs,c,q⟩:=jC (P:=P) (w:=w) t
   obtain ⟨b1,b2⟩:=b
   exact ⟨(p.1,b2)::rs,⟨tf h.1,rfl,c⟩,.cons ⟨rfl,h.2⟩ q⟩
noncomputable def jD (trs:List (TE × TE)):TE:=λσ H Q=>∀ p,H p=none->lW trs σ (upd H p (.dK [])) λps H2=>H2 p=some (.dK [])/\∃ kvs:List (Key × V),ps=kvs.map (λkv=>(kV kv.1,kv.2))/\kvs.length <= 15/\Q (.ref p) (upd H2 p (.dK (dS [] kvs)))
theorem lX {X:Cx}{pos:Pos}{keys:List (Option Expr)}{values:List Expr}{trs:List (TE × TE)} (h:PPs X pos keys values trs) (hall:keys.all (·.isSome)=true) (hl:keys.length=values.length) (h0:keys ≠ [])
  (h15:keys.length <= 15):PE X (.Dict keys values pos) (jD trs):=by
 intro pins s σ H Q I q
 have hn:=I.hok.fresh (Nat.le_refl s.heap.objs.size)
 have I1:=I.laid (a:=s.heap.objs.size) (o:=.dK []) (h':=s.heap.push { cls:=.type "dict",data:=.dict #[] }) (t':=s.toks) (λ_ _ q=>Heap.get?_push_of_some _ q) (Nat.le_refl _) (tm s.heap I.big)
 refine wpAny_Dict_walk (knd:=b9 X.prog X.w) hall hl h0 h15 (thn (h pins _ σ _ _ I1 (q _ hn)) λws s2 ⟨ps,H2,I2,rel,e,kvs,ep,lk,q2⟩=>?_)
 subst ep
 obtain ⟨rs,c,rk⟩:=jC (P:=X.prog) (w:=X.w) rel
 obtain ⟨z,hd,vs0,r0,dd⟩:=A2 I2.hok e
 cases r0
 refine ⟨rs,c,dd,λh' dd' hs=>⟨.ref s.heap.objs.size,_,?_,rfl,q2⟩⟩
 have hz:(dS [] kvs).length <= sizeLine:=by
  have h1:=gk kvs []
  rw [List.length_nil] at h1
  rw [sizeLine_eq];omega
 have he:∃ q,h'.get? s.heap.objs.size=some q:=let ⟨q,_,_,hq,_⟩:=dd';⟨q,hq⟩
 exact wp I2 (by rw [e];exact True.intro) hs he (yI hz hd (rk.merge .nil) dd')
noncomputable def IsD (H:Hp) (a:Addr):Prop:=(∃ kvs,Rd H a (.dK kvs)) \/ ∃ kvs,Rd H a (.dT kvs)
theorem tq {X:Cx}{pins:List (Addr × Obj)}{σ:St}{H:Hp}{s:Shared}{a:Addr} (I:Inv X pins σ H s) (d:IsD H a) :
  s.TypeIs (.ref a) "dict"/\(∀ b,Value.ref a=.ref b->∃ ob,s.heap.get? b=some ob/\ob.dict=none)/\(a == sysModules)=false:=by
 rcases d with ⟨kvs,e⟩|⟨kvs,e⟩
 ·obtain ⟨_,hd,vs,_,dd⟩:=mX I.hok e
  refine ⟨dd.typeIs,λb q=>?_,hd⟩
  cases q
  obtain ⟨ob,_,_,h1,h2,_⟩:=dd
  exact ⟨ob,h1,h2.2.1⟩
 ·obtain ⟨_,hd,xs,_,dd⟩:=tj I.hok e
  refine ⟨dd.typeIs,λb q=>?_,hd⟩
  cases q
  obtain ⟨ob,_,_,h1,h2,_⟩:=dd
  exact ⟨ob,h1,h2.2.1⟩
section
variable {X:Cx}{pins:List (Addr × Obj)}{σ:St}{H:Hp}{s:Shared}{a:Addr}{y d:V}{u r:Value}{o:Option V}{A:Around}{E:Value->Shared->Prop}
end
section
variable {X:Cx}{o e f:Expr}{apos cpos:Pos}{td ty tx:TE}
end
section
variable {X:Cx}{pins:List (Addr × Obj)}{σ:St}{H:Hp}{s:Shared}{a:Addr}{kvs:List (Key × V)}{A:Around}{E:Value->Shared->Prop}
end
section
variable {X:Cx}{pins:List (Addr × Obj)}{σ:St}{H:Hp}{s:Shared}{a:Addr}{y:V}{u:Value}{A:Around}{E:Value->Shared->Prop}
end
end L2
namespace L2.Srt
open PySem PySem.W PyProof.Rows
section
variable {O:KeyOrd}{key:Nat->O.α}{N:Nat}{cmp:Nat->Nat->(Bool->Shared->Prop)->Shared->Prop}{s:Shared}
noncomputable def kk (key:Nat->O.α) (p:Array Nat) (i:Nat):O.α:=key (p.getD i 0)
noncomputable def dU (key:Nat->O.α) (p:Array Nat) (k:Nat):Prop:=∀ i j,i <= j->j < k->O.kle (kk key p i) (kk key p j)
noncomputable def mZ (key:Nat->O.α) (p:Array Nat) (k:Nat):Prop:=∀ i j,i <= j->j < k->O.kle (kk key p j) (kk key p i)
noncomputable def PB (N:Nat) (p:Array Nat):Prop:=p.Perm (List.range N).toArray
theorem PB.size {p:Array Nat} (h:PB N p):p.size=N:=by have:=h.size_eq;simpa using this
theorem PB.lt {p:Array Nat} (h:PB N p) {i:Nat} (hi:i < N):p.getD i 0 < N:=by
 have hs:i < p.size:=by rw [h.size];exact hi
 have hm:p[i] ∈ (List.range N):=by
  have e:=(Array.perm_iff_toList_perm.mp h).mem_iff (a:=p[i])
  simpa using e.mp (by simp)
 have e:p.getD i 0=p[i]:=by simp [Array.getD,hs]
 rw [e];exact List.mem_range.mp hm
theorem PB.rev {p:Array Nat} (h:PB N p) (i j:Nat):PB N (kas_rev p i j):=(mirror_perm _ _ _ _).trans h
theorem PB.bub {p:Array Nat} (h:PB N p) (i j:Nat):PB N (bubble p i j):=(bubble_perm _ _ _).trans h
theorem fG {p q:Array Nat}{i j:Nat} (h:p[i]?=q[j]?):kk key p i=kk key q j:=by
 unfold kk;rw [Array.getD_eq_getD_getElem?,Array.getD_eq_getD_getElem?,h]
theorem kX {p:Array Nat}{src d:Nat} (hs:src < p.size) (hd:d <= src) (k:Nat) :
  kk key (bubble p src d) k=if k=src - d then kk key p src else if src - d < k/\k <= src then kk key p (k - 1) else kk key p k:=by
 have e:=getElem?_bubble hs d hd k
 by_cases h1:k=src - d
 ·rw [if_pos h1] at e ⊢;exact fG e
 ·rw [if_neg h1] at e ⊢
  by_cases h2:src - d < k/\k <= src
  ·rw [if_pos h2] at e ⊢;exact fG e
  ·rw [if_neg h2] at e ⊢;exact fG e
theorem oR {p:Array Nat}{i j:Nat} (hj:j <= p.size) (k:Nat) :
  kk key (kas_rev p i j) k=if i <= k/\k < j then kk key p (i + j - 1 - k) else kk key p k:=by
 have e:=getElem?_mirror_all (i:=i) hj k
 unfold kas_rev
 by_cases h1:i <= k/\k < j
 ·rw [if_pos h1] at e ⊢;exact fG e
 ·rw [if_neg h1] at e ⊢;exact fG e
theorem cF {p:Array Nat}{i j:Nat} (hj:j <= p.size) (heq:∀ k,i <= k->k < j->kk key p k=kk key p (j - 1)) (k:Nat) :
  kk key (kas_rev p i j) k=kk key p k:=by
 rw [oR hj]
 split
 ·rw [heq _ (by omega) (by omega),heq k (by omega) (by omega)]
 ·rfl
variable (hc:∀ a b C,a < N->b < N->C (O.blt (key a) (key b)) s->cmp a b C s)
include hc
theorem m3 {α:Type}{p:Array Nat}{i j:Nat}{k:Bool->KasT α}{Q:α->Shared->Prop} (hp:PB N p) (hi:i < N) (hj:j < N)
  (h:(k (O.blt (kk key p i) (kk key p j))).kasWp cmp Q s):(KasT.ask (p.getD i 0) (p.getD j 0) k).kasWp cmp Q s :=
 hc _ _ _ (hp.lt hi) (hp.lt hj) h
theorem tu {p:Array Nat}{nrem:Nat}{Q:Nat->Shared->Prop} (hp:PB N p) (hn:nrem <= N):∀ (f n:Nat),n + f=nrem->1 <= n->dU key p n ->
  (∀ m,n <= m->m <= nrem->dU key p m->(m=nrem \/ O.klt (kk key p m) (kk key p (m - 1)))->Q m s)->(kas_asc p f n).kasWp cmp Q s
 | 0,n,e,h1,hs,h=>h n (Nat.le_refl _) (by omega) hs (.inl (by omega))
 | f + 1,n,e,h1,hs,h=>by
  show (KasT.ask (p.getD n 0) (p.getD (n - 1) 0) λc=>if c=true then .ret n else kas_asc p f (n + 1)).kasWp cmp Q s
  refine m3 hc hp (by omega) (by omega) ?_
  cases hless:O.blt (kk key p n) (kk key p (n - 1)) with
  | true =>
   rw [if_pos rfl]
   exact h n (Nat.le_refl _) (by omega) hs (.inr hless)
  | false =>
   rw [if_neg (by simp)]
   refine tu hp hn f (n + 1) (by omega) (by omega) (λi j hij hj=>?_) λm a b c d=>h m (by omega) b c d
   by_cases hjx:j < n
   ·exact hs i j hij hjx
   ·have hj':j=n:=by omega
    subst hj'
    by_cases hi':i=j
    ·subst hi';exact KeyOrd.kle_refl _
    ·exact KeyOrd.kle_trans (hs i (j - 1) (by omega) (by omega)) hless
theorem p9 {p:Array Nat}{n nrem:Nat}{Q:Nat × Array Nat->Shared->Prop} (hp:PB N p) (hn:nrem <= N) (h1:1 <= n) (hnn:n <= nrem) (hs:mZ key p n)
  (h:∀ m p',PB N p'->1 <= m->m <= nrem->dU key p' m->Q (m,p') s):(kas_tail3 n nrem p).kasWp cmp Q s:=by
 unfold kas_tail3
 rw [KasT.kasWp_bind]
 have hz:n <= p.size:=by rw [hp.size];omega
 refine tu hc (hp.rev 0 n) hn (nrem - n) n (by omega) h1 (λi j hij hj=>?_) λm a b c _=>h m _ (hp.rev 0 n) (by omega) b c
 rw [oR hz,oR hz,if_pos (by omega),if_pos (by omega)]
 exact hs _ _ (by omega) (by omega)
theorem lY {nrem:Nat}{Q:Array Nat × Nat × Nat->Shared->Prop} (hn:nrem <= N):∀ (f:Nat) (p:Array Nat) (n q:Nat),n + f=nrem->PB N p->mZ key p n->q + 1 <= n ->
  (∀ i,n - (q + 1) <= i->i < n->kk key p i=kk key p (n - 1)) ->
  (∀ p' m q',n <= m->m <= nrem->PB N p'->mZ key p' m->q' + 1 <= m->(∀ i,m - (q' + 1) <= i->i < m->kk key p' i=kk key p' (m - 1))->Q (p',m,q') s) ->
  (kas_desc f p n q).kasWp cmp Q s
 | 0,p,n,q,e,hp,hs,hq,he,h=>h p n q (Nat.le_refl _) (by omega) hp hs hq he
 | f + 1,p,n,q,e,hp,hs,hq,he,h=>by
  show (KasT.ask (p.getD n 0) (p.getD (n - 1) 0) λc =>
   if c=true then (if q > 0 then kas_desc f (kas_rev p (n - (q + 1)) n) (n + 1) 0 else kas_desc f p (n + 1) 0)
   else .ask (p.getD (n - 1) 0) (p.getD n 0) λd=>if d=true then .ret (p,n,q) else kas_desc f p (n + 1) (q + 1)).kasWp cmp Q s
  have hz:n <= p.size:=by rw [hp.size];omega
  refine m3 hc hp (by omega) (by omega) ?_
  cases hless:O.blt (kk key p n) (kk key p (n - 1)) with
  | true =>
   rw [if_pos rfl]
   have step1:∀ p':Array Nat,(∀ k,kk key p' k=kk key p k)->mZ key p' (n + 1):=by
    intro p' hk i j hij hj
    rw [hk,hk]
    by_cases hjx:j < n
    ·exact hs i j hij hjx
    ·have hj':j=n:=by omega
     subst hj'
     by_cases hi':i=j
     ·subst hi';exact KeyOrd.kle_refl _
     ·exact KeyOrd.kle_trans (KeyOrd.kle_of_klt hless) (hs i (j - 1) (by omega) (by omega))
   by_cases hneq:q > 0
   ·rw [if_pos hneq]
    exact lY hn f _ (n + 1) 0 (by omega) (hp.rev _ _) (step1 _ (cF hz he)) (by omega) (λi a b=>by congr 1;omega)
     λp' m q' a=>h p' m q' (by omega)
   ·rw [if_neg hneq]
    exact lY hn f p (n + 1) 0 (by omega) hp (step1 _ λ_=>rfl) (by omega) (λi a b=>by congr 1;omega) λp' m q' a=>h p' m q' (by omega)
  | false =>
   rw [if_neg (by simp)]
   refine m3 hc hp (by omega) (by omega) ?_
   cases hlarger:O.blt (kk key p (n - 1)) (kk key p n) with
   | true =>
    rw [if_pos rfl]
    exact h p n q (Nat.le_refl _) (by omega) hp hs hq he
   | false =>
    rw [if_neg (by simp)]
    have heqx:kk key p n=kk key p (n - 1):=KeyOrd.kle_antisymm hlarger hless
    refine lY hn f p (n + 1) (q + 1) (by omega) hp (λi j hij hj=>?_) (by omega) (λi a b=>?_) λp' m q' a=>h p' m q' (by omega)
    ·by_cases hjx:j < n
     ·exact hs i j hij hjx
     ·have hj':j=n:=by omega
      subst hj'
      by_cases hi':i=j
      ·subst hi';exact KeyOrd.kle_refl _
      ·rw [heqx];exact hs i (j - 1) (by omega) (by omega)
    ·rw [show n + 1 - 1=n by omega]
     by_cases hix:i=n
     ·subst hix;rfl
     ·rw [heqx];exact he i (by omega) (by omega)
theorem jE {p:Array Nat}{n nrem:Nat}{Q:Nat × Array Nat->Shared->Prop} (hp:PB N p) (hn:nrem <= N) (hnn:n + 1 <= nrem) (hs:mZ key p (n + 1))
  (h:∀ m p',PB N p'->1 <= m->m <= nrem->dU key p' m->Q (m,p') s):(kas_descPart n nrem p).kasWp cmp Q s:=by
 unfold kas_descPart
 rw [KasT.kasWp_bind]
 refine lY hc hn (nrem - (n + 1)) p (n + 1) 0 (by omega) hp hs (by omega) (λi a b=>by congr 1;omega) λp' m q' hm1 hm2 hp' hs' hq he=>?_
 dsimp only
 have hz:m <= p'.size:=by rw [hp'.size];omega
 by_cases hneq:q' > 0
 ·rw [if_pos hneq]
  refine p9 hc (hp'.rev _ _) hn (by omega) hm2 (λi j hij hj=>?_) h
  rw [cF hz he,cF hz he]
  exact hs' i j hij hj
 ·rw [if_neg hneq]
  exact p9 hc hp' hn (by omega) hm2 hs' h
theorem wt {p:Array Nat}{nrem:Nat}{Q:Nat × Array Nat->Shared->Prop} (hp:PB N p) (hn:nrem <= N) (h1:1 <= nrem)
  (h:∀ m p',PB N p'->1 <= m->m <= nrem->dU key p' m->Q (m,p') s):(kas_count nrem p).kasWp cmp Q s:=by
 unfold kas_count
 rw [KasT.kasWp_bind]
 refine tu hc hp hn (nrem - 1) 1 (by omega) (Nat.le_refl _) (λi j hij hj=>by have:i=j:=(by omega);subst this;exact KeyOrd.kle_refl _) λn hn1 hn2 hsn hor=>?_
 by_cases hnn:n=nrem
 ·rw [if_pos (by simpa using hnn)]
  exact h n p hp hn1 hn2 hsn
 ·rw [if_neg (by simpa using hnn)]
  have hlt:O.klt (kk key p n) (kk key p (n - 1)):=hor.resolve_left hnn
  by_cases hgt:n > 1
  ·rw [if_pos hgt]
   refine m3 hc hp (by omega) (by omega) ?_
   cases hrose:O.blt (kk key p 0) (kk key p (n - 1)) with
   | true =>
    rw [if_pos rfl]
    exact h n p hp hn1 hn2 hsn
   | false =>
    rw [if_neg (by simp)]
    have hsz:n <= p.size:=by rw [hp.size];omega
    have hall:∀ k,0 <= k->k < n->kk key p k=kk key p (n - 1):=by
     intro k _ hk
     have a1:=hsn 0 k (by omega) hk
     have a2:=hsn k (n - 1) (by omega) (by omega)
     exact KeyOrd.kle_antisymm a2 (KeyOrd.kle_trans hrose a1)
    refine jE hc (hp.rev _ _) hn (by omega) (λi j hij hj=>?_) h
    rw [cF hsz hall,cF hsz hall]
    by_cases hjn:j < n
    ·rw [hall i (by omega) (by omega),hall j (by omega) hjn];exact KeyOrd.kle_refl _
    ·have hj':j=n:=by omega
     subst hj'
     by_cases hi':i=j
     ·subst hi';exact KeyOrd.kle_refl _
     ·rw [hall i (by omega) (by omega)];exact KeyOrd.kle_of_klt hlt
  ·rw [if_neg hgt]
   have hn1':n=1:=by omega
   subst hn1'
   refine jE hc hp hn (by omega) (λi j hij hj=>?_) h
   by_cases hi':i=j
   ·subst hi';exact KeyOrd.kle_refl _
   ·have hi0:i=0:=by omega
    have hj1:j=1:=by omega
    subst hi0;subst hj1
    exact KeyOrd.kle_of_klt hlt
theorem lZ {p:Array Nat}{k:Nat}{Q:Nat->Shared->Prop} (hp:PB N p) (hk:k < N) (hs:dU key p k):∀ (f l r:Nat),r - l <= f->l <= r->r <= k ->
  (∀ i,i < l->O.kle (kk key p i) (kk key p k))->(∀ i,r <= i->i < k->O.klt (kk key p k) (kk key p i)) ->
  (∀ l,l <= k->(∀ i,i < l->O.kle (kk key p i) (kk key p k))->(∀ i,l <= i->i < k->O.klt (kk key p k) (kk key p i))->Q l s)->(kas_place p k f l r).kasWp cmp Q s
 | 0,l,r,hf,hlr,hrk,hlo,hhi,h=>by
  have:l=r:=by omega
  subst this
  exact h l hrk hlo hhi
 | f + 1,l,r,hf,hlr,hrk,hlo,hhi,h=>by
  show (if l >= r then KasT.ret l else .ask (p.getD k 0) (p.getD ((l + r) / 2) 0) λc=>if c=true then kas_place p k f l ((l + r) / 2) else kas_place p k f ((l + r) / 2 + 1) r).kasWp cmp Q s
  by_cases hge:l >= r
  ·rw [if_pos hge]
   have:l=r:=by omega
   subst this
   exact h l hrk hlo hhi
  ·rw [if_neg hge]
   refine m3 hc hp hk (by omega) ?_
   cases hless:O.blt (kk key p k) (kk key p ((l + r) / 2)) with
   | true =>
    rw [if_pos rfl]
    exact lZ hp hk hs f l ((l + r) / 2) (by omega) (by omega) (by omega) hlo (λi a b=>KeyOrd.klt_of_klt_of_kle hless (hs _ _ a b)) h
   | false =>
    rw [if_neg (by simp)]
    exact lZ hp hk hs f ((l + r) / 2 + 1) r (by omega) (by omega) (by omega) (λi a=>KeyOrd.kle_trans (hs i ((l + r) / 2) (by omega) (by omega)) (show O.kle _ _ from hless)) hhi h
theorem xS {Q:Array Nat->Shared->Prop}:∀ (f:Nat) (p:Array Nat) (k:Nat),k + f=N->PB N p->dU key p k->(∀ p',PB N p'->dU key p' N->Q p' s)->(kas_bin f p k).kasWp cmp Q s
 | 0,p,k,e,hp,hs,h=>by
  have:k=N:=by omega
  subst this
  exact h p hp hs
 | f + 1,p,k,e,hp,hs,h=>by
  show ((kas_place p k k 0 k).bind λl=>kas_bin f (bubble p k (k - l)) (k + 1)).kasWp cmp Q s
  rw [KasT.kasWp_bind]
  refine lZ hc hp (by omega) hs k 0 k (by omega) (by omega) (by omega) (λi a=>by omega) (λi a b=>by omega) λl hl hlo hhi=>?_
  refine xS f _ (k + 1) (by omega) (hp.bub _ _) (λi j hij hj=>?_) h
  have hks:k < p.size:=by rw [hp.size];omega
  rw [kX hks (by omega),kX hks (by omega),show k - (k - l)=l by omega]
  repeat' split
  all_goals first
   | (exfalso;omega)
   | exact KeyOrd.kle_refl _
   | exact hlo _ (by omega)
   | exact KeyOrd.kle_of_klt (hhi _ (by omega) (by omega))
   | exact hs _ _ (by omega) (by omega)
theorem yJ {Q:Array Nat->Shared->Prop} (h1:1 <= N) (h:∀ p,PB N p->dU key p N->Q p s):(kas_sort N).kasWp cmp Q s:=by
 unfold kas_sort
 rw [KasT.kasWp_bind]
 refine wt hc (Array.Perm.refl _) (Nat.le_refl _) h1 λm p' hp' hm1 hm2 hs'=>?_
 dsimp only
 by_cases hlt:m < N
 ·rw [if_pos hlt,show max m 1=m by omega]
  exact xS hc _ _ _ (by omega) hp' hs' h
 ·rw [if_neg hlt]
  have:m=N:=by omega
  subst this
  exact h p' hp' hs'
end
end L2.Srt
namespace L2.Srt
open PySem PyProof.Rows
theorem jF:∀ a:List Int,HT.lexLt a a=false
 | []=>rfl
 | x::r=>by rw [HT.lexLt_cons,if_pos rfl];exact jF r
theorem iD:∀ a b c:List Int,HT.lexLt a b=true->HT.lexLt b c=true->HT.lexLt a c=true
 | [],[],_,h,_=>by cases h
 | [],_::_,[],_,h=>by cases h
 | [],_::_,_::_,_,_=>rfl
 | _::_,[],_,h,_=>by cases h
 | _::_,_::_,[],_,h=>by cases h
 | x::a,y::b,z::c,h1,h2=>by
  rw [HT.lexLt_cons] at h1 h2 ⊢
  by_cases e1:x=y
  ·rw [if_pos e1] at h1
   by_cases e2:y=z
   ·rw [if_pos e2] at h2
    rw [if_pos (e1.trans e2)]
    exact iD a b c h1 h2
   ·rw [if_neg e2] at h2
    rw [if_neg (λq=>e2 (e1.symm.trans q)),e1]
    exact h2
  ·rw [if_neg e1] at h1
   have q1:=of_decide_eq_true h1
   by_cases e2:y=z
   ·rw [if_neg (λq=>e1 (q.trans e2.symm)),<- e2]
    exact h1
   ·rw [if_neg e2] at h2
    have q2:=of_decide_eq_true h2
    rw [if_neg (by omega)]
    exact decide_eq_true (by omega)
theorem iE:∀ a b:List Int,HT.lexLt a b=false->HT.lexLt b a=false->a=b
 | [],[],_,_=>rfl
 | [],_::_,h,_=>by cases h
 | _::_,[],_,h=>by cases h
 | x::a,y::b,h1,h2=>by
  rw [HT.lexLt_cons] at h1 h2
  by_cases e:x=y
  ·rw [if_pos e] at h1
   rw [if_pos e.symm] at h2
   rw [e,iE a b h1 h2]
  ·rw [if_neg e] at h1
   rw [if_neg (λq=>e q.symm)] at h2
   have q1:=of_decide_eq_false h1
   have q2:=of_decide_eq_false h2
   omega
theorem wu (a b c:List Int) (h:HT.lexLt a c=true):HT.lexLt a b=true \/ HT.lexLt b c=true:=by
 cases h1:HT.lexLt a b with
 | true=>exact .inl rfl
 | false =>
  cases h2:HT.lexLt b a with
  | true=>exact .inr (iD b a c h2 h)
  | false=>rw [iE a b h1 h2] at h;exact .inr h
noncomputable def cq:KeyOrd:=⟨List Int,HT.lexLt,jF,iD,wu,iE⟩
noncomputable def cU:KeyOrd:=⟨Int,λa b=>decide (a < b),λa=>decide_eq_false (by omega),λa b c h1 h2=>decide_eq_true (by have:=of_decide_eq_true h1;have:=of_decide_eq_true h2;omega),
 λa b c h=>by
  have:=of_decide_eq_true h
  by_cases q:a < b
  ·exact .inl (decide_eq_true q)
  ·exact .inr (decide_eq_true (by omega)),
 λa b h1 h2=>by have:=of_decide_eq_false h1;have:=of_decide_eq_false h2;omega⟩
section
variable (O:KeyOrd)
noncomputable def ja (x:O.α):List O.α->List O.α
 | []=>[x]
 | y::r=>if O.blt y x then y::ja x r else x::y::r
noncomputable def fq:List O.α->List O.α
 | []=>[]
 | x::r=>ja O x (fq r)
theorem iF (x:O.α):∀ l,(ja O x l).Perm (x::l)
 | []=>.refl _
 | y::r=>by
  show (if O.blt y x then y::ja O x r else x::y::r).Perm _
  split
  ·exact (List.Perm.cons y (iF x r)).trans (.swap x y r)
  ·exact .refl _
theorem dW:∀ l,(fq O l).Perm l
 | []=>.refl _
 | x::r=>(iF O x _).trans (.cons x (dW r))
theorem jG (x:O.α):∀ l:List O.α,l.Pairwise O.kle->(ja O x l).Pairwise O.kle
 | [],_=>List.pairwise_singleton _ _
 | y::r,h=>by
  show (if O.blt y x then y::ja O x r else x::y::r).Pairwise O.kle
  obtain ⟨h1,h2⟩:=List.pairwise_cons.mp h
  by_cases q:O.blt y x=true
  ·rw [if_pos q]
   refine List.pairwise_cons.mpr ⟨λz hz=>?_,jG x r h2⟩
   rcases List.mem_cons.mp ((iF O x r).mem_iff.mp hz) with e|e
   ·rw [e];exact KeyOrd.kle_of_klt q
   ·exact h1 z e
  ·rw [if_neg q]
   have q':O.kle x y:=Bool.eq_false_iff.mpr q
   refine List.pairwise_cons.mpr ⟨λz hz=>?_,h⟩
   rcases List.mem_cons.mp hz with e|e
   ·rw [e];exact q'
   ·exact KeyOrd.kle_trans q' (h1 z e)
theorem dg:∀ l,(fq O l).Pairwise O.kle
 | []=>List.Pairwise.nil
 | x::r=>jG O x _ (dg r)
theorem gO:∀ {a b:List O.α},a.Perm b->a.Pairwise O.kle->b.Pairwise O.kle->a=b
 | [],b,p,_,_=>p.nil_eq
 | x::a,[],p,_,_=>by have:=p.length_eq;simp at this
 | x::a,y::b,p,ha,hb=>by
  obtain ⟨a1,a2⟩:=List.pairwise_cons.mp ha
  obtain ⟨b1,b2⟩:=List.pairwise_cons.mp hb
  have e:x=y:=by
   have hx:x ∈ y::b:=p.mem_iff.mp (.head _)
   have hy:y ∈ x::a:=p.mem_iff.mpr (.head _)
   rcases List.mem_cons.mp hx with q|q
   ·exact q
   ·rcases List.mem_cons.mp hy with q'|q'
    ·exact q'.symm
    ·exact KeyOrd.kle_antisymm (a1 y q') (b1 x q)
  subst e
  rw [gO (p.cons_inv) a2 b2]
theorem gP {a l:List O.α} (p:a.Perm l) (h:a.Pairwise O.kle):a=fq O l:=gO O (p.trans (dW O l).symm) h (dg O l)
theorem gm {a b:List O.α} (p:a.Perm b):fq O a=fq O b:=gP O ((dW O a).trans p) (dg O a)
theorem tw {a:List O.α} (h:a.Pairwise O.kle):fq O a=a:=(gP O (.refl a) h).symm
end
theorem fV {α:Type} (xs:List α) (d:α):(List.range xs.length).map (λi=>xs.getD i d)=xs:=by
 apply List.ext_getElem?
 intro i
 rw [List.getElem?_map]
 by_cases q:i < xs.length
 ·simp [List.getElem?_range,q]
 ·simp [List.getElem?_range,q]
theorem tz {O:KeyOrd}{d:O.α}{xs:List O.α}{p:Array Nat} (hp:PB xs.length p) (hr:dU (λi=>xs.getD i d) p xs.length):p.toList.map (λi=>xs.getD i d)=fq O xs:=by
 refine gP O ?_ ?_
 ·have h:=(Array.perm_iff_toList_perm.mp hp).map λi=>xs.getD i d
  have e:(List.map (λi=>xs.getD i d) (List.range xs.length).toArray.toList)=xs:=fV xs d
  rw [e] at h
  exact h
 ·rw [List.pairwise_iff_getElem]
  intro i j hi hj hij
  rw [List.length_map,Array.length_toList] at hi hj
  have hz:=hp.size
  have q:=hr i j (Nat.le_of_lt hij) (by omega)
  simp only [List.getElem_map,Array.getElem_toList]
  have ei:p.getD i 0=p[i]:=by simp [Array.getD,hi]
  have ej:p.getD j 0=p[j]:=by simp [Array.getD,hj]
  unfold kk at q
  rw [ei,ej] at q
  exact q
end L2.Srt
namespace L2.Srt
open PySem PySem.W PySem.Calls PyProof.Rows
section
variable {prog:Program}{w:World}{A:Around}{E:Value->Shared->Prop}{s:Shared}
noncomputable def KOk (κ:SortKind):Prop:=κ=tuples' true \/ κ=general' \/ κ=oneType'
theorem gQ {KO:SortKind->Prop}{O:KeyOrd}{key:Nat->O.α}{a:Addr}{vs:List Value}{n:Nat}{R:PySem.Fin->Shared->Prop} (ho:s.heap.get? a=some (seqObj "list" vs.toArray n)) (h64:vs.length < 64)
  (hk:2 <= vs.length->∀ (s':Shared) (Q:SortKind->Shared->Prop),(∀ b o,b ≠ a->s.heap.get? b=some o->s'.heap.get? b=some o)->(∀ κ,KO κ->Q κ s')->wpAny (model prog w) A (keyKind' vs.toArray) Q (λ_ _=>False) s')
  (hc:∀ κ,KO κ->∀ (s':Shared) (i j:Nat) (C:Bool->Shared->Prop),(∀ b o,b ≠ a->s.heap.get? b=some o->s'.heap.get? b=some o)->i < vs.length->j < vs.length->C (O.blt (key i) (key j)) s' ->
   wpAny (model prog w) A (keyLt' κ (vs.getD i Value.none) (vs.getD j Value.none)) C (λ_ _=>False) s')
  (h:∀ p:Array Nat,PB vs.length p->dU key p vs.length->R (.done (.ret .none)) { s with heap:=sortedHeap s.heap a vs (p.toList.map λi=>vs.getD i Value.none).toArray }) :
  wpAny (model prog w) A (Builtin.«list.sort» ⟨[.ref a],[]⟩) R E s:=by
 rw [list_sort_plain]
 have ha:a < s.heap.objs.size:=Heap.lt_size ho
 refine wpAny_bind (listItems_at ho rfl ?_)
 refine wpAny_bind (listUpdate_at ho rfl ?_ (by rw [List.size_toArray,sizeLine_eq];omega) (Nat.zero_le _))
 obtain ⟨e1,ho1⟩:∃ e1,(s.heap.update a (Obj.mapSeq λ_=>(#[]:Array Value))).get? a=some (seqObj "list" #[] e1):=⟨_,get?_update_seq ho λ_=>#[]⟩
 refine wpAny_bind (seqEpoch_at ho1 rfl ?_)
 refine wpAny_bind (wpAny_newTuple ?_ (by show vs.length <= _;rw [sizeLine_eq];omega))
 refine wpAny_bind (wpAny_newList ?_ (Nat.zero_le _))
 refine wpAny_holding ?_
 have ho6:(((s.heap.update a (Obj.mapSeq λ_=>(#[]:Array Value))).push (seqObj "tuple" vs.toArray 0)).push (seqObj "list" #[] 0)).get? a=some (seqObj "list" #[] e1):=Heap.get?_push_of_some _ (Heap.get?_push_of_some _ ho1)
 have kp:∀ b o,b ≠ a->s.heap.get? b=some o->(((s.heap.update a (Obj.mapSeq λ_=>(#[]:Array Value))).push (seqObj "tuple" vs.toArray 0)).push (seqObj "list" #[] 0)).get? b=some o:=λb o hb e =>
  Heap.get?_push_of_some _ (Heap.get?_push_of_some _ ((Heap.get?_update_other _ _ (Ne.symm hb)).trans e))
 show wpAny (model prog w) A _ R E { s with heap:=((s.heap.update a (Obj.mapSeq λ_=>(#[]:Array Value))).push (seqObj "tuple" vs.toArray 0)).push (seqObj "list" #[] 0) }
 dsimp only
 have hsz:vs.toArray.size=vs.length:=by simp
 by_cases h2:vs.toArray.size < 2
 ·rw [if_pos h2,if_pos h2]
  refine wpAny_bind (wpAny_pure ?_)
  rw [StateT.run_pure]
  refine wpAny_bind (wpAny_pure ?_)
  dsimp only
  refine wpAny_bind (seqEpoch_at ho6 rfl ?_)
  refine wpAny_bind (listUpdate_at ho6 rfl ?_ (Nat.zero_le _) (by rw [Array.size_map];show (pairsOf vs).size <= _;rw [pairsOf_size,sizeLine_eq];omega))
  simp only [bne_self_eq_false,Bool.false_eq_true,if_false]
  have e:((arrOf (SortSt.mk' general' (vs.toArray.zip vs.toArray) #[] 7 none)).map (·.2))=((List.range vs.length).toArray.toList.map λi=>vs.getD i Value.none).toArray:=by
   have e2:(arrOf (SortSt.mk' general' (vs.toArray.zip vs.toArray) #[] 7 none))=vs.toArray.zip vs.toArray:=rfl
   rw [e2]
   apply Array.toList_inj.mp
   rw [fV]
   simp [List.map_snd_zip]
  refine wpAny_pure ?_
  have q:=h (List.range vs.length).toArray (Array.Perm.refl _) (λi j hij hj=>by
   have:i=j:=by omega
   subst this;exact KeyOrd.kle_refl _)
  rw [<- e] at q
  exact q
 ·rw [if_neg h2,if_neg h2]
  have h2':2 <= vs.length:=by omega
  refine wpAny_bind (wpAny_mono (hk h2' _ (λκ s0=>KO κ/\s0={ s with heap:=((s.heap.update a (Obj.mapSeq λ_=>(#[]:Array Value))).push (seqObj "tuple" vs.toArray 0)).push (seqObj "list" #[] 0) }) kp λκ hκ=>⟨hκ,rfl⟩) (λκ s0 hκ=>?_) λ_ _ x=>x.elim)
  obtain ⟨hκ,rfl⟩:=hκ
  refine wpAny_bind (wpAny_mono (kat_run (Q:=λst' s'=>∃ p:Array Nat,p.size=vs.length/\arrOf st'=p.map (kas_item (vs.toArray.zip vs.toArray))/\failedOf st'=none/\PB vs.length p/\dU key p vs.length/\s'={ s with heap:=((s.heap.update a (Obj.mapSeq λ_=>(#[]:Array Value))).push (seqObj "tuple" vs.toArray 0)).push (seqObj "list" #[] 0) })
   (G:=λp s'=>PB vs.length p/\dU key p vs.length/\s'={ s with heap:=((s.heap.update a (Obj.mapSeq λ_=>(#[]:Array Value))).push (seqObj "tuple" vs.toArray 0)).push (seqObj "list" #[] 0) })
   rfl h2' h64 (λp' st' s' a1 a2 a3 a4=>⟨p',a1,a2,a3,a4⟩)
   (yJ (key:=key) (λi j C hi hj q=>hc κ hκ _ i j C kp hi hj q) (by omega) λp hp hr=>⟨hp,hr,rfl⟩)) ?_ λ_ _ e=>e)
  rintro ⟨⟨⟩,st'⟩ s' ⟨p,hp,har,hf,hpb,hrs,rfl⟩
  dsimp only
  have hout:=kat_snds rfl har
  refine wpAny_bind (seqEpoch_at ho6 rfl ?_)
  refine wpAny_bind (listUpdate_at ho6 rfl ?_ (Nat.zero_le _) (by rw [hout];refine Nat.le_trans (Nat.le_of_eq ?_) (show vs.length <= _ by rw [sizeLine_eq];omega);simp [hp]))
  rw [hf,hout]
  simp only [bne_self_eq_false,Bool.false_eq_true,if_false]
  exact wpAny_pure (h p hpb hrs)
theorem iY {fin:Bool}{C:Bool->Shared->Prop}:∀ {vs ws:List Value}{ns ms:List Int} (i:Nat),IntsAre vs ns->IntsAre ws ms->fin=decide (ns.length < ms.length)->C (HT.lexLt ns ms) s->KatLex prog w A true fin C (vs.zip ws) i s
 | _,_,_,_,i,.nil,.nil,hf,h=>by
  rw [List.zip_nil_left]
  refine kat_nil ?_
  rw [hf]
  exact h
 | _,_,_,_,i,.nil,.cons c u hw,hf,h=>by
  rw [List.zip_nil_left]
  refine kat_nil ?_
  rw [hf,decide_eq_true (by simp)]
  exact h
 | _,_,_,_,i,.cons a t hv,.nil,hf,h=>by
  rw [List.zip_nil_right]
  refine kat_nil ?_
  rw [hf,decide_eq_false (by simp)]
  exact h
 | _,_,_,_,i,.cons (ns:=ns) a t hv,.cons (ns:=ms) c u hw,hf,h=>by
  rw [List.zip_cons_cons]
  rw [HT.lexLt_cons] at h
  refine kat_cons (wpAny_eqBool_int ?_)
  by_cases e:a=c
  ·rw [if_pos e] at h
   have q:(a == c)=true:=by rw [e];exact beq_self_eq_true c
   rw [q]
   refine kat_yes (iY (i + 1) hv hw ?_ h)
   rw [hf]
   simp
  ·rw [if_neg e] at h
   have q:(a == c)=false:=beq_eq_false_iff_ne.mpr e
   rw [q]
   refine kat_no ?_
   cases i with
   | zero=>exact oneLt_int h
   | succ i=>exact kat_one _ _ (lt_int h)
theorem wv {κ:SortKind} (hk:KOk κ) {a b:Addr}{its its2:Array Value}{ns ms:List Int}{C:Bool->Shared->Prop} (ha:IsTup s.heap a its) (hb:IsTup s.heap b its2) (hi:IntsAre its.toList ns) (hj:IntsAre its2.toList ms)
  (hu:A.units < cLine) (h:C (HT.lexLt ns ms) s):wpAny (model prog w) A (keyLt' κ (.ref a) (.ref b)) C E s:=by
 rcases hk with rfl|rfl|rfl
 ·obtain ⟨o,ho,_,n,hd⟩:=id ha
  obtain ⟨o2,ho2,_,n2,hd2⟩:=id hb
  refine kat_lt ho hd ho2 hd2 (iY 0 hi hj ?_ h)
  have z1:its.size=ns.length:=by rw [<- hi.length];simp
  have z2:its2.size=ms.length:=by rw [<- hj.length];simp
  rw [z1,z2]
 ·show wpAny _ _ (oneLt' false (.ref a) (.ref b)) _ _ _
  exact kat_one _ _ (HT.lt_tupInts ha hb hi hj hu h)
 ·rw [keyLt'_oneType,oneLt'_eq]
  simp only [if_true]
  refine wpAny_bind (wpAny_cRoomFor hu ?_)
  obtain ⟨⟨cls,dd,data,sl⟩,ho,hc,n,hd⟩:=id ha
  obtain ⟨⟨cls2,dd2,data2,sl2⟩,ho2,hc2,n2,hd2⟩:=id hb
  simp only at hc hd hc2 hd2
  subst hc hd hc2 hd2
  refine wpAny_bind (wpAny_callSpecialIfBound?_slot (T:="tuple") ⟨_,ho,rfl⟩ PySem.F.slot_tuple_lt (call_meets PySem.F.slot_tuple_lt (T:="tuple") ⟨_,ho,rfl⟩ PySem.F.entry_tuple_lt (PySem.F.args_tuple_lt_2 _ _) (HT.tuple_lt_ints a b its its2 n n2 dd dd2 sl sl2 ns ms hi hj) ⟨ho,ho2,?_⟩))
  exact wpAny_truthy_bool h
theorem iZ:∀ (vs:List Value) {Q:List (Option Value)->Shared->Prop},(∀ v ∈ vs,∃ a its ns,v=.ref a/\IsTup s.heap a its/\IntsAre its.toList ns) ->
  (∀ fs:List (Option Value),fs.length=vs.length->(∀ f ∈ fs,∀ v,f=some v->∃ n t,v=Value.int n t)->Q fs s)->wpAny (model prog w) A (vs.mapM firstOfTuple') Q E s
 | [],Q,_,h=>by rw [List.mapM_nil];exact wpAny_pure (h [] rfl (by simp))
 | v::vs,Q,hv,h=>by
  obtain ⟨a,its,ns,rfl,⟨o,ho,hc,n,hd⟩,hi⟩:=hv v (.head _)
  rw [List.mapM_cons]
  refine wpAny_bind ?_
  rw [kas_first_eq]
  refine wpAny_bind (Looks.here (show Looks (model prog w) s.heap (typeOf (.ref a)) o.cls from (Looks.ld ho).andThen .now) ?_)
  rw [hc,if_neg (by first|decide|simp)]
  refine wpAny_bind (listItems_at ho hd (wpAny_pure ?_))
  refine wpAny_bind (iZ vs (Q:=λbs s'=>wpAny (model prog w) A (pure (its[0]?::bs)) Q E s') (λu hu=>hv u (.tail _ hu)) λfs hl hf=>?_)
  refine wpAny_pure (h _ (by simp [hl]) λf hm u e=>?_)
  rcases List.mem_cons.mp hm with z|z
  ·rw [z] at e
   have hmem:u ∈ its.toList:=by
    rw [<- Array.getElem?_toList] at e
    exact List.mem_of_getElem? e
   exact hi.all u hmem
  ·exact hf f z u e
theorem rm {vs:List Value}{Q:SortKind->Shared->Prop} (h2:2 <= vs.length) (hv:∀ v ∈ vs,∃ a its ns,v=.ref a/\IsTup s.heap a its/\IntsAre its.toList ns) (h:∀ κ,KOk κ->Q κ s) :
  wpAny (model prog w) A (keyKind' vs.toArray) Q E s:=by
 rw [kat_kind_eq,List.mapM_toArray,map_eq_pure_bind]
 refine wpAny_bind (wpAny_bind (iZ vs hv λfs hl hf=>wpAny_pure ?_))
 by_cases hall:(fs.toArray.all λx=>x.isSome)=true
 ·rw [if_pos hall]
  refine wpAny_bind (wpAny_rule ?_)
  have hfm:(fs.toArray.filterMap id)=(fs.filterMap id).toArray:=by simp
  rw [hfm,oneTypeOnly'_eq,List.mapM_toArray,map_eq_pure_bind]
  have hints:∀ v ∈ fs.filterMap id,∃ n t,v=Value.int n t:=λv hm=>by
   obtain ⟨f,hm',e⟩:=List.mem_filterMap.mp hm
   exact hf f hm' v e
  have hne:0 < (fs.filterMap id).length:=by
   match fs,hl,hall with
   | [],hl,_=>simp at hl;omega
   | f::r,_,hall =>
    have:f.isSome=true:=by simp at hall;exact hall.1
    obtain ⟨u,rfl⟩:=Option.isSome_iff_exists.mp this
    simp
  refine wpAny_bind (wpAny_bind (wpAny_bind (kas_mapM (r:=Value.type "int") _ (λv hm Q' hq=>?_) (wpAny_pure ?_))))
  ·obtain ⟨n,t,rfl⟩:=hints v hm
   exact wpAny_pure hq
  ·have h0:(List.map (λ_=>Value.type "int") (fs.filterMap id)).toArray[0]?=some (Value.type "int"):=by
    simp [hne]
   rw [h0]
   have hall2:((List.map (λ_=>Value.type "int") (fs.filterMap id)).toArray.all λx=>x == Value.type "int")=true:=by
    simp only [List.all_toArray,List.all_map,List.all_eq_true]
    intro _ _
    rfl
   simp only [hall2,if_true]
   exact wpAny_pure (wpAny_pure (h _ (.inl rfl)))
 ·rw [if_neg hall]
  by_cases hf0:((fs.toArray[0]?).bind id).isSome=true
  ·rw [if_pos hf0]
   exact wpAny_pure (h _ (.inr (.inl rfl)))
  ·rw [if_neg hf0]
   rw [oneTypeOnly'_eq,List.mapM_toArray,map_eq_pure_bind]
   refine wpAny_bind (wpAny_bind (wpAny_bind (kas_mapM (r:=Value.type "tuple") _ (λv hm Q' hq=>?_) (wpAny_pure ?_))))
   ·obtain ⟨a,its,ns,rfl,⟨o,ho,hc,n,hd⟩,hi⟩:=hv v hm
    have q:Looks (model prog w) s.heap (typeOf (.ref a)) o.cls:=(Looks.ld ho).andThen .now
    rw [hc] at q
    exact q.here hq
   ·have h0:(List.map (λ_=>Value.type "tuple") vs).toArray[0]?=some (Value.type "tuple"):=by
     have:0 < vs.length:=by omega
     simp [this]
    rw [h0]
    have hall2:((List.map (λ_=>Value.type "tuple") vs).toArray.all λx=>x == Value.type "tuple")=true:=by
     simp only [List.all_toArray,List.all_map,List.all_eq_true]
     intro _ _
     rfl
    simp only [hall2,if_true]
    exact wpAny_pure (wpAny_pure (h _ (.inr (.inr rfl))))
end
end L2.Srt
namespace L2.St
open PySem PyProof.Rows
section
variable {P:Program}{w:World}{A:Around}{E:Value->Shared->Prop}{s:Shared}
theorem p_ {items:Array Value}{ns:List Int} (hi:IntsAre items.toList ns):∀ (i:Nat) (v:Value),items[i]?=some v->∃ t,v=.int (ns.getD i 0) t :=
 λi v e=>IntsAre.int_at hi i v (by rw [Array.getElem?_toList];exact e)
theorem iG {v:Value}{vs:Array Value}{it:Addr}{Q:Option Value->Shared->Prop} (hh:A.handled=none) {R:Value->Shared->Prop}
  (hR:∀ e s',(∀ b o,s.heap.get? b=some o->s'.heap.get? b=some o)->(∃ h',s'={ s with heap:=h' })->s'.TypeIs e "StopIteration"->R e s') {QQ:PySem.Fin->Shared->Prop} :
  wpAny (model P w) A (newExc (.type "StopIteration") [] >>= λe=>(raiseNew e:Sem PySem.Fin)) QQ R s:=by
 refine wpAny_bind ?_
 simp only [newExc,newTuple]
 refine wpAny_bind (wpAny_newObj_type ?_ (by size_fits))
 refine wpAny_bind (m:=firstArgMember _ _) (wpAny_of_eq (a:=Value.none) (by first|rfl|(simp only [firstArgMember];rfl)) ?_)
 refine wpAny_newObj_type ?_ (by size_fits)
 simp only [raiseNew]
 refine wpAny_bind (wpAny_handled ?_)
 rw [hh]
 refine wpAny_bind (wpAny_pure (wpAny_throw ?_))
 exact hR _ _ (λb o e=>Heap.get?_push_of_some _ (Heap.get?_push_of_some _ e)) ⟨_,rfl⟩ ⟨_,Heap.get?_push_size _ rfl,rfl⟩
theorem kF {order:List Int}{acc:Array Value} (h:ItemsOf (λi v=>∃ t,v=Value.int (order.getD i 0) t) acc order.length):IntsAre acc.toList order:=by
 obtain ⟨hz,hv⟩:=h
 have hl:acc.toList.length=order.length:=by simpa using hz
 have hv':∀ j v,acc.toList[j]?=some v->∃ t,v=Value.int (order.getD j 0) t:=λj v e=>hv j v (by rw [<- Array.getElem?_toList];exact e)
 clear hv hz
 generalize acc.toList=vs at hl hv'
 induction vs generalizing order with
 | nil =>
  have:order=[]:=List.length_eq_zero_iff.mp hl.symm
  rw [this];exact .nil
 | cons v r ih =>
  match order,hl,hv' with
  | [],hl,_=>simp at hl
  | k::ks,hl,hv' =>
   obtain ⟨t,e⟩:=hv' 0 v rfl
   have e':v=Value.int k t:=e
   rw [e']
   exact .cons k t (ih (by simpa using hl) λj u q=>hv' (j + 1) u (by simpa using q))
end
end L2.St
namespace L2.St
open PySem
noncomputable def kG (xs:Array Nat):Prop:=∀ i j:Nat,i < j->j < xs.size->xs.getD i 0 < xs.getD j 0
theorem tD {xs:Array Nat}{i:Nat} (h:i < xs.size) (d e:Nat):xs.getD i d=xs.getD i e:=by simp [Array.getD,h]
theorem jH {xs:Array Nat}{j:Nat} (hr:kG xs):∀ (fuel lo hi:Nat),hi - lo <= fuel->lo <= hi->hi <= xs.size->(∀ i,i < lo->xs.getD i 0 < j)->(∀ i,hi <= i->i < xs.size->j <= xs.getD i 0) ->
  (SetTable.below.go xs j fuel lo hi <= xs.size/\(∀ i,i < SetTable.below.go xs j fuel lo hi->xs.getD i 0 < j)/\∀ i,SetTable.below.go xs j fuel lo hi <= i->i < xs.size->j <= xs.getD i 0)
 | 0,lo,hi,hf,h1,h2,a,b=>by
  have e:SetTable.below.go xs j 0 lo hi=lo:=rfl
  rw [e]
  have:lo=hi:=by omega
  subst this
  exact ⟨h2,a,b⟩
 | fuel + 1,lo,hi,hf,h1,h2,a,b=>by
  have e:SetTable.below.go xs j (fuel + 1) lo hi=if lo < hi then (if xs.getD ((lo + hi) / 2) j < j then SetTable.below.go xs j fuel ((lo + hi) / 2 + 1) hi else SetTable.below.go xs j fuel lo ((lo + hi) / 2)) else lo:=rfl
  rw [e]
  by_cases hl:lo < hi
  ·rw [if_pos hl]
   have hm:(lo + hi) / 2 < xs.size:=by omega
   rw [tD hm j 0]
   by_cases hq:xs.getD ((lo + hi) / 2) 0 < j
   ·rw [if_pos hq]
    refine jH hr fuel _ hi (by omega) (by omega) h2 (λi hi'=>?_) b
    by_cases z:i=(lo + hi) / 2
    ·rw [z];exact hq
    ·exact Nat.lt_trans (hr i ((lo + hi) / 2) (by omega) hm) hq
   ·rw [if_neg hq]
    refine jH hr fuel lo _ (by omega) (by omega) (by omega) a λi hi' hz=>?_
    by_cases z:i=(lo + hi) / 2
    ·rw [z];omega
    ·have:=hr ((lo + hi) / 2) i (by omega) hz;omega
  ·rw [if_neg hl]
   have:lo=hi:=by omega
   subst this
   exact ⟨h2,a,b⟩
theorem gw {xs:Array Nat} (hr:kG xs) (j:Nat):SetTable.below xs j <= xs.size/\(∀ i,i < SetTable.below xs j->xs.getD i 0 < j)/\∀ i,SetTable.below xs j <= i->i < xs.size->j <= xs.getD i 0 :=
 jH hr xs.size 0 xs.size (by omega) (by omega) (Nat.le_refl _) (λi h=>by omega) λi h1 h2=>by omega
theorem kH {α:Type} (xs:Array α) (p:Nat) (x:α) (hp:p <= xs.size):(SetTable.insertAt xs p x).size=xs.size + 1:=by
 unfold SetTable.insertAt;simp;omega
theorem gR {α:Type} (xs:Array α) (p:Nat) (x:α) (hp:p <= xs.size) (i:Nat):(SetTable.insertAt xs p x)[i]?=if i < p then xs[i]? else if i=p then some x else xs[i - 1]?:=by
 unfold SetTable.insertAt
 have hz:((xs.extract 0 p).push x).size=p + 1:=by simp;omega
 by_cases h1:i < p
 ·rw [if_pos h1,Array.getElem?_append_left (by omega)]
  rw [Array.getElem?_push,if_neg (by simp;omega),Array.getElem?_extract,if_pos (by omega),Nat.zero_add]
 ·rw [if_neg h1]
  by_cases h2:i=p
  ·subst h2
   rw [if_pos rfl,Array.getElem?_append_left (by omega)]
   rw [Array.getElem?_push,if_pos (by simp;omega)]
  ·rw [if_neg h2,Array.getElem?_append_right (by omega),hz]
   simp only [Array.getElem?_extract]
   by_cases h3:i - (p + 1) < xs.size - p
   ·rw [if_pos (by simpa using h3)];congr 1;omega
   ·rw [if_neg (by simpa using h3)];exact (Array.getElem?_eq_none (by omega)).symm
theorem cY {xs:Array Nat}{i:Nat}:xs.getD i 0=(xs[i]?).getD 0:=Array.getD_eq_getD_getElem?
theorem m4 {xs:Array Nat} (hr:kG xs) {j:Nat} (hn:xs[SetTable.below xs j]? ≠ some j):kG (SetTable.insertAt xs (SetTable.below xs j) j):=by
 obtain ⟨hp,ha,hb⟩:=gw hr j
 have hb':∀ i,SetTable.below xs j <= i->i < xs.size->j < xs.getD i 0:=λi h1 h2=>by
  have q:=hb i h1 h2
  by_cases z:i=SetTable.below xs j
  ·subst z
   have e:xs[SetTable.below xs j]?=some (xs.getD (SetTable.below xs j) 0):=by rw [Array.getElem?_eq_getElem h2];simp [Array.getD,h2]
   have:xs.getD (SetTable.below xs j) 0 ≠ j:=λz=>hn (by rw [e,z])
   omega
  ·have q':=hb _ (Nat.le_refl _) (by omega:SetTable.below xs j < xs.size)
   have:=hr _ i (by omega:SetTable.below xs j < i) h2
   omega
 intro i k hik hk
 rw [kH _ _ _ hp] at hk
 rw [cY,cY,gR _ _ _ hp,gR _ _ _ hp]
 by_cases h1:k < SetTable.below xs j
 ·rw [if_pos h1,if_pos (by omega),<- cY,<- cY]
  exact hr i k hik (by omega)
 ·rw [if_neg h1]
  by_cases h2:k=SetTable.below xs j
  ·rw [if_pos h2,if_pos (by omega),<- cY]
   exact ha i (by omega)
  ·rw [if_neg h2]
   by_cases h3:i < SetTable.below xs j
   ·rw [if_pos h3,<- cY,<- cY]
    exact hr i (k - 1) (by omega) (by omega)
   ·rw [if_neg h3]
    by_cases h4:i=SetTable.below xs j
    ·rw [if_pos h4,<- cY]
     exact hb' (k - 1) (by omega) (by omega)
    ·rw [if_neg h4,<- cY,<- cY]
     exact hr (i - 1) (k - 1) (by omega) (by omega)
theorem oS (n:Nat):kG (Array.range n):=λi j h1 h2=>by
 rw [Array.size_range] at h2
 simp [Array.getD,h2,Nat.lt_trans h1 h2];exact h1
theorem tG:kG #[]:=λi j _ h=>by simp at h
structure Gd (L:Bool) (t:SetTable):Prop where
 led:t.led=L
 dum:t.dummies=#[]
 rise:kG t.place
theorem Gd.fresh (L:Bool):Gd L (.fresh 0 0 L):=⟨rfl,rfl,tG⟩
theorem Gd.standIn {L:Bool}{t:SetTable} (h:Gd L t) (n:Nat):Gd L (t.standIn n):=⟨h.led,rfl,oS n⟩
theorem Gd.orStandIn {L:Bool}{t:SetTable} (h:Gd L t) (n:Nat):Gd L (t.orStandIn n):=by
 unfold SetTable.orStandIn;split
 ·exact h
 ·exact h.standIn n
theorem Gd.unplain {L:Bool}{t:SetTable} (h:Gd L t):Gd L { t with plain:=false }:=⟨h.led,h.dum,h.rise⟩
theorem l4 {t:SetTable} (hd:t.dummies=#[]) (j:Nat):t.slot j ≠ .dummy:=by
 unfold SetTable.slot SetTable.has
 rw [hd]
 dsimp only
 split
 ·simp
 ·simp
theorem oT {t:SetTable}{j:Nat} (h:t.slot j=.empty):t.place[SetTable.below t.place j]? ≠ some j:=by
 intro e
 unfold SetTable.slot at h
 dsimp only at h
 rw [if_pos (by rw [e];simp)] at h
 cases h
theorem m5 {t:SetTable} (hd:t.dummies=#[]) {ha:Nat->Int}{h:Int}:∀ (fuel:Nat) (p:SetTable.Probe),p.dummy=none->∀ j d,SetTable.probe.go t ha h fuel p=some (.empty j d)->d=none/\t.slot j=.empty
 | 0,p,hp,j,d,e=>by
  have:SetTable.probe.go t ha h 0 p=none:=rfl
  rw [this] at e;cases e
 | fuel + 1,p,hp,j,d,e=>by
  have step:SetTable.probe.go t ha h (fuel + 1) p=(match t.slot p.j with
   | .empty=>some (.empty p.j p.dummy)
   | .dummy=>SetTable.probe.go t ha h fuel (t.advance { p with dummy:=some p.j })
   | .live i=>if ha i == h then some (.candidate p.j i (t.advance p)) else SetTable.probe.go t ha h fuel (t.advance p)):=rfl
  rw [step] at e
  have adv:(t.advance p).dummy=none:=by unfold SetTable.advance;split <;> simp [hp]
  cases hs:t.slot p.j with
  | empty =>
   rw [hs] at e
   dsimp only at e
   cases e
   exact ⟨hp,hs⟩
  | dummy=>exact absurd hs (l4 hd _)
  | live i =>
   rw [hs] at e
   dsimp only at e
   split at e
   ·cases e
   ·exact m5 hd fuel _ adv j d e
theorem rn {t:SetTable} (hd:t.dummies=#[]) {h:Int}{j:Nat}{b:Bool} (e:t.freeSlot h=some (j,b)):t.slot j=.empty:=by
 unfold SetTable.freeSlot at e
 split at e
 ·rename_i j' d he
  obtain ⟨rfl,hs⟩:=m5 hd _ _ rfl j' d he
  have:j'=j:=by
   have:=Option.some.inj e
   exact (Prod.mk.inj this).1
  exact this ▸ hs
 ·cases e
theorem Gd.put {L:Bool}{t:SetTable} (h:Gd L t) {j:Nat} (hs:t.slot j=.empty):Gd L (t.put j).1:=by
 refine ⟨h.led,?_,m4 h.rise (oT hs)⟩
 show (if SetTable.has t.dummies j then _ else t.dummies)=#[]
 rw [if_neg (by unfold SetTable.has;rw [h.dum];simp)]
 exact h.dum
theorem Gd.layNew {L:Bool}{t:SetTable} (g:Gd L t) (es:Array (Int × Value)) (h:Int) (x:Value):Gd L (layNew t es h x).2.1:=by
 unfold PySem.layNew
 cases e:t.freeSlot h with
 | none=>exact g.standIn _
 | some q =>
  obtain ⟨j,b⟩:=q
  exact (g.put (rn g.dum e)).orStandIn _
theorem tH (f:Nat->Option Nat) (n:Nat):kG ((((List.range n).filterMap λj=>(f j).map λi=>(j,i)).map λq:Nat × Nat=>q.1).toArray):=by
 have e:((List.range n).filterMap λj=>(f j).map λi=>(j,i)).map (λq:Nat × Nat=>q.1)=(List.range n).filter λj=>(f j).isSome:=by
  generalize List.range n=l
  induction l with
  | nil=>rfl
  | cons a l ih =>
   cases h:f a <;> simp [List.filterMap_cons,List.filter_cons,h,ih]
 rw [e]
 have hp:((List.range n).filter λj=>(f j).isSome).Pairwise (· < ·):=List.Pairwise.filter _ List.pairwise_lt_range
 intro i j hij hj
 have hj':j < ((List.range n).filter λj=>(f j).isSome).length:=by simpa using hj
 have hi':i < ((List.range n).filter λj=>(f j).isSome).length:=Nat.lt_trans hij hj'
 have:=List.pairwise_iff_getElem.mp hp i j hi' hj' hij
 simpa [Array.getD,hj',hi'] using this
theorem Gd.relaid {L:Bool}{t t':SetTable} (g:Gd L t) {hs:Array Int}{n:Nat}{o:Array Nat} (e:t.relaid hs n=some (t',o)):Gd L t':=by
 unfold SetTable.relaid SetTable.laid at e
 cases h:SetTable.layClean (SetTable.sizeAbove n - 1) hs with
 | none=>rw [h] at e;cases e
 | some ow =>
  rw [h] at e
  cases e
  exact ⟨g.led,rfl,tH (λj=>ow.getD j none) _⟩
theorem Gd.relayAll {L:Bool}{t:SetTable} (g:Gd L t) (es:Array (Int × Value)) (n:Nat):Gd L (relayAll t es n).2.1:=by
 unfold PySem.relayAll
 cases e:t.relaid (es.map (·.1)) n with
 | none=>exact g.standIn _
 | some q =>
  obtain ⟨t',o⟩:=q
  dsimp only
  split
  ·exact g.relaid e
  ·exact g.standIn _
end L2.St
namespace L2.St
open PySem PyProof.Rows
noncomputable def byT (w:World):Bool:=w.params.followText "set-order"
structure Arr (P:Program) (w:World) (ks:List Int) (es:Array (Int × Value)) (t:SetTable):Prop where
 el:ElemsOf (intKind P w) es.toList
 pm:(es.toList.map λe=>numOf e.2).Perm ks
 nd:ks.Nodup
 bd:es.size < scanBound
 fi:t.fits es.size=true
 gd:Gd (!byT w) t
noncomputable def cV (P:Program) (w:World) (h:Heap) (a:Addr) (ks:List Int):Prop :=
 ∃ o es ep t,h.get? a=some o/\o.ExactSet/\o.data=.set es ep t/\ElemsOf (intKind P w) es.toList/\(es.toList.map λe=>numOf e.2).Perm ks/\ks.Nodup/\es.size < scanBound/\t.fits es.size=true/\Gd (!byT w) t
section
variable {P:Program}{w:World}{h h':Heap}{a:Addr}{ks ks':List Int}{o:Obj}{es:Array (Int × Value)}{ep:Nat}{t:SetTable}
theorem cV.arr (g:cV P w h a ks):∃ o es ep t,(h.get? a=some o/\o.ExactSet/\o.data=.set es ep t)/\Arr P w ks es t:=by
 obtain ⟨o,es,ep,t,ho,hex,hd,c1,c2,c3,c4,c5,c6⟩:=g
 exact ⟨o,es,ep,t,⟨ho,hex,hd⟩,⟨c1,c2,c3,c4,c5,c6⟩⟩
theorem Arr.set (r:Arr P w ks es t) (ho:h.get? a=some o) (hex:o.ExactSet) (hd:o.data=.set es ep t):cV P w h a ks :=
 ⟨o,es,ep,t,ho,hex,hd,r.el,r.pm,r.nd,r.bd,r.fi,r.gd⟩
theorem Arr.len (r:Arr P w ks es t):es.size=ks.length:=by simpa using r.pm.length_eq
theorem Arr.bare (r:Arr P w ks es t) (b:Bool):Arr P w ks es (if b=true then t else { t with plain:=false }):=by
 cases b
 ·exact ⟨r.el,r.pm,r.nd,r.bd,SetTable.fits_plain_off r.fi,r.gd.unplain⟩
 ·exact r
theorem Arr.lay (r:Arr P w ks es t) {k:Int} (tk:Tok) (hk:k ∉ ks) (hb:ks.length + 1 < scanBound):Arr P w (k::ks) (layNew t es (hashInt k) (.int k tk)).1 (layNew t es (hashInt k) (.int k tk)).2.1:=by
 have p:(layNew t es (hashInt k) (.int k tk)).1.toList.Perm (es.toList ++ [(hashInt k,.int k tk)]):=by simpa using layNew_perm t es (hashInt k) (.int k tk)
 have z:=p.length_eq
 have l:=r.len
 constructor
 ·exact ElemsOf.perm (r.el.push (k:=k) (x:=.int k tk) (intKind_is _ _ _ _) rfl) p
 ·have q:((es.toList ++ [(hashInt k,Value.int k tk)]).map λe=>numOf e.2).Perm (k::ks):=by
   rw [List.map_append]
   exact List.perm_append_comm.trans (r.pm.cons k)
  exact (p.map _).trans q
 ·exact List.nodup_cons.mpr ⟨hk,r.nd⟩
 ·simp at z;omega
 ·exact layNew_fits _ _ _ _
 ·exact r.gd.layNew _ _ _
theorem Arr.relay (r:Arr P w ks es t) (n:Nat):Arr P w ks (relayAll t es n).1 (relayAll t es n).2.1:=by
 have p:=relayAll_perm t es n
 have z:=p.length_eq
 have b:=r.bd
 exact ⟨r.el.perm p,(p.map _).trans r.pm,r.nd,by simp at z;omega,relayAll_fits t es n,r.gd.relayAll es n⟩
theorem cV.at (g:cV P w h a ks) (k:∀ o,h.get? a=some o->h'.get? a=some o):cV P w h' a ks:=by
 obtain ⟨o,es,ep,t,⟨ho,hex,hd⟩,r⟩:=g.arr
 exact r.set (k o ho) hex hd
end
theorem iH {P:Program}{w:World}{es:List (Int × Value)} (h:ElemsOf (intKind P w) es):∀ e ∈ es,∃ t,e.2=.int (numOf e.2) t:=λe he=>by
 obtain ⟨⟨k,hk,_⟩,_⟩:=h e he
 obtain ⟨t,q⟩:=Value.isInt_shape (show Value.isInt k e.2=true from hk)
 exact ⟨t,by rw [q];rfl⟩
theorem l5 {P:Program}{w:World}{es:List (Int × Value)} (h:ElemsOf (intKind P w) es) {e:Int × Value} (he:e ∈ es) (k:Int):(intKind P w).is k e.2=true ↔ numOf e.2=k:=by
 obtain ⟨t,q⟩:=iH h e he
 constructor
 ·intro z
  obtain ⟨t',q'⟩:=Value.isInt_shape (show Value.isInt k e.2=true from z)
  rw [q'];rfl
 ·intro z
  rw [q,z]
  exact intKind_is _ _ _ _
section
variable {P:Program}{w:World}{A:Around}{E:Value->Shared->Prop}{s:Shared}
noncomputable def Now (P:Program) (w:World) (a:Addr) (s:Shared) (ks:List Int) (s':Shared):Prop :=
 ∃ h',s'={ s with heap:=h' }/\Heap.SameBut a s.heap h'/\cV P w h' a ks
theorem Now.stay {a:Addr}{ks:List Int} (g:cV P w s.heap a ks):Now P w a s ks s:=⟨s.heap,rfl,Heap.SameBut.refl a s.heap,g⟩
theorem ww {h:Heap}{a:Addr}{o:Obj}{es:Array (Int × Value)}{ep:Nat}{t:SetTable} (ho:h.get? a=some o) (hex:o.ExactSet) (hd:o.data=.set es ep t)
  {es':Array (Int × Value)}{t':SetTable}{ks:List Int} (r:Arr P w ks es' t'):cV P w (h.update a (Obj.putSet es' t')) a ks:=by
 refine r.set (o:={ o with data:=.set es' (ep + 1) t' }) (ep:=ep + 1) ?_ hex rfl
 have e:Obj.putSet es' t' o={ o with data:=.set es' (ep + 1) t' }:=putSet_of es' t' hd
 rw [<- e]
 exact Heap.get?_update_self _ ho (by rw [e];rfl)
theorem Now.put {a:Addr}{ks ks':List Int}{s':Shared} (n:Now P w a s ks s') {es:Array (Int × Value)}{t:SetTable} (r:Arr P w ks' es t) {Q:Unit->Shared->Prop} (h:∀ s'',Now P w a s ks' s''->Q () s'') :
  wpAny (model P w) A (storeSet a es t) Q E s':=by
 obtain ⟨h',rfl,sb,g⟩:=n
 obtain ⟨o,_,_,_,⟨ho,hex,hd⟩,_⟩:=g.arr
 exact wpAny_storeSet_of ho hd (h _ ⟨_,rfl,sb.trans (Heap.SameBut.update h' a _),ww ho hex hd r⟩) (fits_of_scanBound r.bd)
theorem A4 {m:Sem Unit}{s':Shared}{Q:Unit->Shared->Prop} (hm:m=pure () \/ ∃ n,m=rule n) (h:Q () s'):wpAny (model P w) A m Q E s':=by
 rcases hm with rfl|⟨n,rfl⟩
 ·exact wpAny_pure h
 ·exact wpAny_rule h
theorem A5 (k:Int) (tk:Tok) (c:Bool) {s':Shared}{f:Bool->Sem (Option Bool)}{Q:Option Bool->Shared->Prop} (h:∀ b,wpAny (model P w) A (f b) Q E s') :
  wpAny (model P w) A (if c=true then hashByValue 8 (.int k tk) >>= f else (pure true:Sem Bool) >>= f) Q E s':=by
 cases c
 ·exact wpAny_bind (wpAny_pure (h true))
 ·rw [if_pos rfl,hashByValue_scannable 8 (show (Value.int k tk).scannable=true from rfl)]
  exact wpAny_bind (wpAny_pure (h _))
theorem rp {a:Addr}{ks:List Int}{k:Int}{tk:Tok}{Q:Bool->Shared->Prop} (hS:cV P w s.heap a ks) (hroom:ks.length + 1 < scanBound)
  (h:∀ h' b,Heap.SameBut a s.heap h'->cV P w h' a (if k ∈ ks then ks else k::ks)->Q b { s with heap:=h' }) :
  wpAny (model P w) A (setAddHashed a (.int k tk) (hashInt k)) Q E s:=by
 have fin:∀ b s',Now P w a s (if k ∈ ks then ks else k::ks) s'->Q b s':=by
  rintro b _ ⟨h',rfl,sb,g⟩
  exact h h' b sb g
 have now:=Now.stay hS
 obtain ⟨o,es,ep,t,⟨ho,hex,hd⟩,r⟩:=hS.arr
 have here:k ∈ ks ↔ ((es.toList.findIdx? λe=>(intKind P w).is k e.2).isSome=true):=by
  rw [List.findIdx?_isSome,List.any_eq_true,<- r.pm.mem_iff,List.mem_map]
  exact ⟨λ⟨e,he,q⟩=>⟨e,he,(l5 r.el he k).mpr q⟩,λ⟨e,he,q⟩=>⟨e,he,(l5 r.el he k).mp q⟩⟩
 unfold setAddHashed setAddHashedIn
 refine wpAny_holding (wpAny_bind (wpAny_setState_of ho hd r.fi ?_))
 dsimp only
 rw [byScan_of (x:=.int k tk) rfl r.bd r.el,if_pos rfl]
 refine wpAny_bind ?_
 unfold setAddByScan
 refine wpAny_bind (wpAny_rule (wpAny_bind (wpAny_setScan_of (knd:=intKind P w) (intKind_is _ _ _ _) ho hd r.fi r.el ?_)))
 rcases hf:es.toList.findIdx? λe=>(intKind P w).is k e.2 with _|j
 ·rw [hf]
  have hk:k ∉ ks:=λz=>by rw [here,hf] at z;exact Bool.noConfusion z
  rw [if_neg hk] at fin
  have r1:=r.lay tk hk hroom
  rcases hl:layNew t es (hashInt k) (.int k tk) with ⟨es1,t1,dm,gv⟩
  rw [hl] at r1
  dsimp only at r1 ⊢
  refine wpAny_bind (A4 ?_ ?_)
  ·cases gv
   ·exact .inl rfl
   ·exact .inr ⟨_,rfl⟩
  refine A5 k tk _ λb=>?_
  have r2:=r1.bare b
  generalize (if b=true then t1 else _)=t2 at r2 ⊢
  refine wpAny_bind (now.put r2 λs2 n2=>?_)
  refine wpAny_ite_split (λ_=>?_) (λ_=>wpAny_pure (wpAny_pure (fin _ _ n2)))
  have r3:=r2.relay (SetTable.grown es1.size)
  rcases hm:relayAll t2 es1 (SetTable.grown es1.size) with ⟨es3,t3,gv3⟩
  rw [hm] at r3
  dsimp only at r3 ⊢
  refine wpAny_bind (A4 ?_ ?_)
  ·cases gv3
   ·exact .inl rfl
   ·exact .inr ⟨_,rfl⟩
  exact wpAny_bind (n2.put r3 λs3 n3=>wpAny_pure (wpAny_pure (fin _ _ n3)))
 ·rw [hf]
  have hk:k ∈ ks:=here.mpr (by rw [hf];rfl)
  rw [if_pos hk] at fin
  exact wpAny_pure (wpAny_pure (fin _ _ now))
end
noncomputable def dd:List Int->List Int
 | []=>[]
 | k::r=>if k ∈ dd r then dd r else k::dd r
theorem gx {k:Int}:∀ {l:List Int},k ∈ dd l ↔ k ∈ l
 | []=>Iff.rfl
 | x::r=>by
  show k ∈ (if x ∈ dd r then dd r else x::dd r) ↔ _
  have ih:=@gx k r
  by_cases h:x ∈ dd r
  ·rw [if_pos h,ih,List.mem_cons]
   exact ⟨.inr,λz=>z.elim (λe=>by rw [e];exact gx.mp h) id⟩
  ·rw [if_neg h,List.mem_cons,List.mem_cons,ih]
theorem dd_nodup:∀ l:List Int,(dd l).Nodup
 | []=>List.nodup_nil
 | x::r=>by
  show (if x ∈ dd r then dd r else x::dd r).Nodup
  by_cases h:x ∈ dd r
  ·rw [if_pos h];exact dd_nodup r
  ·rw [if_neg h];exact List.nodup_cons.mpr ⟨h,dd_nodup r⟩
theorem dd_len:∀ l:List Int,(dd l).length <= l.length
 | []=>Nat.le_refl _
 | x::r=>by
  show (if x ∈ dd r then dd r else x::dd r).length <= _
  have:=dd_len r
  by_cases h:x ∈ dd r
  ·rw [if_pos h,List.length_cons];omega
  ·rw [if_neg h,List.length_cons,List.length_cons];omega
theorem wz (xs:List Int):(List.range xs.length).map (λi=>xs.getD i 0)=xs:=by
 apply List.ext_getElem?
 intro i
 rw [List.getElem?_map]
 by_cases q:i < xs.length
 ·simp [List.getElem?_range,q]
 ·simp [List.getElem?_range,q]
noncomputable def But (ws:List Addr) (s s':Shared):Prop :=
 ∃ h' tk,s'={ s with heap:=h',toks:=tk }/\∀ b o,b ∉ ws->s.heap.get? b=some o->h'.get? b=some o
theorem But.on {ws vs:List Addr}{s s' s'':Shared} (x:But ws s s') (y:But vs s' s'') (hs:∀ b ∈ ws,b ∈ vs):But vs s s'':=by
 obtain ⟨h1,t1,rfl,k1⟩:=x
 obtain ⟨h2,t2,rfl,k2⟩:=y
 exact ⟨h2,t2,rfl,λb o hb e=>k2 b o hb (k1 b o (λz=>hb (hs b z)) e)⟩
section
variable {P:Program}{w:World}{A:Around}{R:Result->Shared->Prop}{I S:Addr}{fp wr:List Addr}{n:Nat}{Pv:Nat->Value->Prop}{St:Nat->Heap->Prop}
noncomputable abbrev upd (S I:Addr):Code:=.builtin "set.update.loop" ⟨[.ref S,.ref I],[]⟩
theorem m6 {s:Shared} (h:wpAny (model P w) A.in1 (pyNext (.ref I)) (λv s'=>match v with
   | none=>R (.ok (.ret .none)) s'
   | some x=>wpAny (model P w) A.in1 (setAdd S x) (λ_ s''=>codeAny (model P w) A (upd S I) R s'') (λe s''=>R (.error e) s'') s') (λe s'=>R (.error e) s') s) :
  codeAny (model P w) A (upd S I) R s:=by
 have pl:=PyProof.Rows.F.plain_set_update_loop
 apply codeAny_builtin PyProof.Rows.F.entry_set_update_loop
 rw [Around.under_plainId pl]
 apply wpAny_bind (m:=pyNext (.ref I))
 refine wpAny_mono h (λv s' hv=>?_) λ_ _ x=>x
 cases v with
 | none=>exact wpAny_pure hv
 | some x =>
  refine wpAny_bind (wpAny_holding (wpAny_mono hv (λ_ s'' hc=>?_) λ_ _ x=>x))
  exact wpAny_pure ⟨plainId_quiet pl _,hc⟩
theorem add_int {s:Shared}{E:Value->Shared->Prop}{B:Around}{ks:List Int}{k:Int}{t:Tok} (g:cV P w s.heap S ks) (room:ks.length + 1 < scanBound) {Q:Bool->Shared->Prop}
  (h:∀ b s',But [S] s s'->cV P w s'.heap S (if k ∈ ks then ks else k::ks)->(∀ b,b ≠ S->s'.heap.get? b=s.heap.get? b)->Q b s'):wpAny (model P w) B (setAdd S (.int k t)) Q E s:=by
 unfold setAdd
 refine wpAny_holding (wpAny_bind ((intKind P w).pyHash (k:=k) (intKind_is _ _ _ _) ?_))
 refine rp (s:={ s with toks:=s.toks + 1 }) g room λh' b sb g'=>h b _ ⟨h',_,rfl,λc o hc e=>?_⟩ g' λc hc=>?_
 ·rw [sb.2 c (by simpa using hc)];exact e
 ·exact sb.2 c hc
theorem qa (W:Walks P w A.in1 I fp wr n Pv St) (hS:S ∉ fp) (xs:List Int) (hn:xs.length=n) (hv:∀ i v,Pv i v->∃ t,v=.int (xs.getD i 0) t) (hb:n + 1 < scanBound) :
  ∀ (m i:Nat) (s:Shared),i + m=n->St i s.heap->cV P w s.heap S (dd (xs.take i).reverse)->(∀ s',But (S::wr) s s'->cV P w s'.heap S (dd xs.reverse)->R (.ok (.ret .none)) s') ->
   codeAny (model P w) A (upd S I) R s
 | 0,i,s,e,st,g,h=>by
  have hi:i=n:=e
  subst hi
  refine m6 (W.done s _ _ st λh' tk kp=>h _ ⟨h',tk,rfl,λb o hb'=>kp b o λz=>hb' (.tail _ z)⟩ ?_)
  rw [List.take_of_length_le (by omega)] at g
  exact g.at λo=>kp S o λz=>hS (W.sub S z)
 | m + 1,i,s,e,st,g,h=>by
  have hi:i < n:=by omega
  refine m6 (W.item i s _ _ hi st λv h1 tk1 pv st1 kp=>?_)
  obtain ⟨t,rfl⟩:=hv i v pv
  have b1:But wr s { s with heap:=h1,toks:=tk1 }:=⟨h1,tk1,rfl,kp⟩
  have l:(dd (xs.take i).reverse).length + 1 < scanBound:=by
   have:=dd_len (xs.take i).reverse
   simp at this;omega
  refine add_int (g.at λo=>kp S o λz=>hS (W.sub S z)) l λ_ s2 b2 g2 st2=>?_
  refine qa W hS xs hn hv hb m (i + 1) s2 (by omega) (W.frame _ h1 _ st1 λb hb' o e'=>?_) ?_ λs3 b3 g3=>h s3 ?_ g3
  ·rw [st2 b λz=>hS (z ▸ hb')];exact e'
  ·have:xs.take (i + 1)=xs.take i ++ [xs.getD i 0]:=by
    rw [List.take_succ,List.getD_eq_getElem?_getD,List.getElem?_eq_getElem (by omega)];rfl
   rw [this,List.reverse_append]
   exact g2
  ·exact (b1.on (b2.on b3 (by simp)) λb z=>.tail _ z)
end
end L2.St
namespace L2.St
open PySem PyProof.Rows
section
variable {P:Program}{w:World}{A:Around}{E:Value->Shared->Prop}{s:Shared}
theorem eP {Q:Bool->Shared->Prop} (h:Q (byT w) s):wpAny (model P w) A setsByText Q E s:=by
 unfold setsByText
 exact wpAny_bind (wpAny_askSetting (wpAny_pure h))
noncomputable abbrev iI (w:World):Obj:={ cls:=.type "set",dict:=none,data:=.set #[] 0 (.fresh 0 0 (!byT w)) }
noncomputable abbrev aQ (w:World) (s:Shared):Shared:={ s with heap:=s.heap.push (iI w) }
theorem wA {Q:Value->Shared->Prop} (h:Q (.ref s.heap.objs.size) (aQ w s)):wpAny (model P w) A (newSet (.type "set")) Q E s:=by
 unfold newSet
 refine wpAny_bind (eP ?_)
 dsimp only
 simp only [newObj]
 exact wpAny_bind (wpAny_alloc (wpAny_pure h))
theorem tI (h:Heap):cV P w (h.push (iI w)) h.objs.size [] :=
 Arr.set (es:=#[]) (ep:=0) ⟨λe he=>by simp at he,by simp,List.nodup_nil,by decide,rfl,Gd.fresh _⟩ (Heap.get?_push_size _ rfl) ⟨rfl,rfl,rfl⟩ rfl
theorem wB (x:Value) {Q:Value->Shared->Prop} (h:Q (.ref s.heap.objs.size) (aQ w s)):codeAny (model P w) A (.call (.builtin "set.__new__") ⟨[.type "set",x],[]⟩) (wants Q E) s:=by
 refine codeAny_call_builtin PySem.F.plain_set_new PySem.F.entry_set_new (wpAny_of_eq (PySem.F.newCall_set_1 x) ?_)
 have cls:∀ {R:Value × List Value->Shared->Prop}{F:Value->Shared->Prop},R (.type "set",[x]) s->wpAny (model P w) A.in1 (Builtin.Frozenset.newClass "set" ⟨[.type "set",x],[]⟩) R F s:=by
  intro R F hr
  have hsub:=sub_set_self
  unfold Builtin.Frozenset.newClass
  obtain ⟨hp,g,d,tk,os⟩:=s
  wp_walk
  exact hr
 unfold Builtin.«set.__new__»
 exact wpAny_bind (cls (wpAny_bind (wA (wpAny_pure h))))
theorem tJ (x:Value) {Q:Value->Shared->Prop}
  (hU:∀ B:Around,B.handled=A.handled->wpAny (model P w) B (Builtin.Frozenset.updateFrom "set.__init__" s.heap.objs.size x) (λ_ s'=>Q (.ref s.heap.objs.size) s') E (aQ w s)) :
  wpAny (model P w) A (call (.type "set") [x]) Q E s:=by
 have at0:(aQ w s).heap.get? s.heap.objs.size=some (iI w):=Heap.get?_push_size _ rfl
 have init:codeAny (model P w) A.in1 (.call (.builtin "set.__init__") ⟨[.ref s.heap.objs.size,x],[]⟩) (wants (λr s'=>r=.none/\Q (.ref s.heap.objs.size) s') E) (aQ w s):=by
  refine codeAny_call_builtin PySem.F.called_set.init.plain PySem.F.entry_set_init (check_set_init_1 ⟨_,at0,rfl⟩ ?_)
  have hu:=hU A.in1.in1 (by simp)
  generalize hw:aQ w s=s1 at at0 hu ⊢
  generalize s.heap.objs.size=S at at0 hu ⊢
  obtain ⟨hp,g,d,tk,os⟩:=s1
  unfold Builtin.«set.__init__» noKeywords
  generalize Builtin.Frozenset.updateFrom=U at hu ⊢
  wp_walk
  exact wpAny_mono hu (λ_ s' hq=>wpAny_pure ⟨rfl,hq⟩) λ_ _ z=>z
 have ft:=PySem.F.called_set
 refine wpAny_call (codeAny_of_tree (wpAny_pure ⟨Code.quiet_builtin _ (by decide +kernel),codeAny_builtin PySem.F.entry_type_call ?_⟩))
 rw [Around.under_plain (weight_type_call_type "set" [x] []) rfl]
 have f1:=ft.notType;have f2:=ft.canCreate;have f3:=ft.made;have f4:=ft.sub
 have f5:=PySem.F.typeCall_set_1 x
 obtain ⟨c,tl,f6⟩:=ft.mro
 repeat (any_goals (first|assumption|wp_step))
 refine codeAny_mono (wB x (E:=E) (Q:=λv s'=>v=.ref s.heap.objs.size/\s'=aQ w s) ⟨rfl,rfl⟩) λr s1 hr=>?_
 match r,hr with
 | .error e,hr=>exact hr
 | .ok (.ret v),hr =>
  obtain ⟨rfl,rfl⟩:=hr
  have f7:Shared.TypeIs (aQ w s) (.ref s.heap.objs.size) "set":=⟨_,at0,rfl⟩
  have f8:=ft.init.lookup;have f9:=ft.init.bind (.ref s.heap.objs.size)
  repeat (any_goals (first|assumption|wp_step))
  refine codeAny_mono init λr s2 hr=>?_
  match r,hr with
  | .error e,hr=>exact hr
  | .ok (.ret v),hr =>
   obtain ⟨rfl,hq⟩:=hr
   show wpAny _ A.in1 (pure (some Value.none)) _ _ _
   exact wpAny_pure (wpAny_pure hq)
theorem jI {l:Addr}{tn:String}{o:Obj} (x:s.heap.get? l=some o) (hc:o.cls=.type tn) (hd:(Value.type tn == .type "dict")=false)
  (ns1:isSubtype (.type tn) (.type "set")=pure false) (ns2:isSubtype (.type tn) (.type "frozenset")=pure false)
  {ns:List Int}{Pv:Nat->Value->Prop}{St:Nat->Heap->Prop} (hv:∀ i v,Pv i v->∃ t,v=.int (ns.getD i 0) t) (hb:ns.length + 1 < scanBound) {io:Obj}
  (W:∀ B:Around,B.handled=A.handled->Walks P w B ((aQ w s).heap.objs.size) [(aQ w s).heap.objs.size,l] [(aQ w s).heap.objs.size] ns.length Pv St)
  (it:∀ (B:Around) (E':Value->Shared->Prop) (R:Value->Shared->Prop),R (.ref (aQ w s).heap.objs.size) { s with heap:=(aQ w s).heap.push io }->wpAny (model P w) B (pyIter (.ref l)) R E' (aQ w s))
  (st:St 0 ((aQ w s).heap.push io)) {Q:Value->Shared->Prop}
  (h:∀ (h':Heap) (tk:Nat),cV P w h' s.heap.objs.size (dd ns.reverse)->(∀ b o,s.heap.get? b=some o->h'.get? b=some o)->Q (.ref s.heap.objs.size) { s with heap:=h',toks:=tk }) :
  wpAny (model P w) A (call (.type "set") [.ref l]) Q E s:=by
 have z1:(aQ w s).heap.objs.size=s.heap.objs.size + 1:=Heap.size_push ..
 have far:∀ b,b < s.heap.objs.size->b ∉ [s.heap.objs.size,(aQ w s).heap.objs.size]:=λb hb=>by
  rw [z1]
  simp only [List.mem_cons,List.not_mem_nil,or_false,not_or]
  exact ⟨Nat.ne_of_lt hb,Nat.ne_of_lt (Nat.lt_succ_of_lt hb)⟩
 have kept:∀ b o,s.heap.get? b=some o->((aQ w s).heap.push io).get? b=some o:=λb o e=>Heap.get?_push_of_some _ (Heap.get?_push_of_some _ e)
 refine tJ _ λB hB=>?_
 have hT:(aQ w s).TypeIs (.ref l) tn:=⟨o,Heap.get?_push_of_some _ x,hc⟩
 unfold Builtin.Frozenset.updateFrom Builtin.Frozenset.isAnySet
 refine wpAny_bind (wpAny_bind (wpAny_isInstance hT ns1 ?_))
 show wpAny _ _ (isInstance (.ref l) (.type "frozenset")) _ _ _
 refine wpAny_isInstance hT ns2 ?_
 rw [if_neg Bool.false_ne_true]
 refine wpAny_bind (wpAny_typeOf hT ?_)
 rw [hd,if_neg Bool.false_ne_true]
 refine wpAny_bind (it _ _ _ (wpAny_bind (wpAny_runValue ?_)))
 have hS:s.heap.objs.size ∉ [(aQ w s).heap.objs.size,l]:=by
  have:=Heap.lt_size x
  rw [z1]
  simp only [List.mem_cons,List.not_mem_nil,or_false,not_or]
  exact ⟨Nat.ne_of_lt (Nat.lt_succ_self _),Nat.ne_of_gt this⟩
 refine qa (W _ (by simpa using hB)) hS ns rfl hv hb ns.length 0 _ (by omega) st ((tI s.heap).at λo e=>Heap.get?_push_of_some _ e) ?_
 rintro s' ⟨h',tk,rfl,kp⟩ g
 exact wpAny_pure (h h' tk g λb o e=>kp b o (far b (Heap.lt_size e)) (kept b o e))
theorem set_list {l:Addr}{items:Array Value}{ns:List Int}{Q:Value->Shared->Prop}
  (hh:A.handled=none) (hl:s.heap.IsList l items) (hi:IntsAre items.toList ns) (hb:items.size + 1 < scanBound)
  (h:∀ (h':Heap) (tk:Nat),cV P w h' s.heap.objs.size (dd ns.reverse)->(∀ b o,s.heap.get? b=some o->h'.get? b=some o)->Q (.ref s.heap.objs.size) { s with heap:=h',toks:=tk }) :
  wpAny (model P w) A (call (.type "set") [.ref l]) Q E s:=by
 have z:items.size=ns.length:=by simpa using IntsAre.length hi
 obtain ⟨o,ho,hc,hr⟩:=hl
 have l1:(aQ w s).heap.IsList l items:=⟨o,Heap.get?_push_of_some _ ho,hc,hr⟩
 refine jI (io:={ cls:=.type "list_iterator",data:=.fields #[.ref l,Value.int 0 0] }) ho hc (by decide) PySem.F.sub_list_set PySem.F.sub_list_frozenset (p_ hi) (z ▸ hb) (λB hB=>z ▸ Walks.list (hB.trans hh) _ l ?_ items)
  (λB E' R=>wpAny_pyIter_list l1) ⟨⟨_,Heap.get?_push_size _ rfl,rfl,rfl⟩,l1.push _⟩ h
 exact Nat.ne_of_lt (Nat.lt_of_lt_of_eq (Nat.lt_succ_of_lt (Heap.lt_size ho)) (Heap.size_push ..).symm)
theorem rq {l:Addr}{items:Array Value}{ns:List Int}{Q:Value->Shared->Prop}
  (hh:A.handled=none) (hl:s.heap.IsTuple l items) (hi:IntsAre items.toList ns) (hb:items.size + 1 < scanBound)
  (h:∀ (h':Heap) (tk:Nat),cV P w h' s.heap.objs.size (dd ns.reverse)->(∀ b o,s.heap.get? b=some o->h'.get? b=some o)->Q (.ref s.heap.objs.size) { s with heap:=h',toks:=tk }) :
  wpAny (model P w) A (call (.type "set") [.ref l]) Q E s:=by
 have z:items.size=ns.length:=by simpa using IntsAre.length hi
 obtain ⟨o,ho,hc,hr⟩:=hl
 have l1:(aQ w s).heap.IsTuple l items:=⟨o,Heap.get?_push_of_some _ ho,hc,hr⟩
 refine jI (io:={ cls:=.type "tuple_iterator",data:=.fields #[.ref l,Value.int 0 0] }) ho hc (by decide) PySem.F.sub_tuple_set PySem.F.sub_tuple_frozenset (p_ hi) (z ▸ hb) (λB hB=>z ▸ Walks.tuple (hB.trans hh) _ l ?_ items)
  (λB E' R=>wpAny_pyIter_tuple l1) ⟨⟨_,Heap.get?_push_size _ rfl,rfl,rfl⟩,l1.push _⟩ h
 exact Nat.ne_of_lt (Nat.lt_of_lt_of_eq (Nat.lt_succ_of_lt (Heap.lt_size ho)) (Heap.size_push ..).symm)
end
end L2.St
namespace L2.St
open PySem PyProof.Rows
set_option maxRecDepth 100000 in
theorem jJ:entryFor table "set.__iter__"=some Builtin.«frozenset.__iter__» :=
 entryFor_alias (id':="frozenset.__iter__") (by kernel_rfl) rfl (by decide +kernel) (by kernel_rfl)
set_option maxRecDepth 100000 in
theorem kY:Manifest.owners.lookup (String.ofList ['r','o','t','a','r','e','t','i','_','t','e','s'].reverse)=some Manifest.sig_set_iterator:=by kernel_rfl
set_option maxRecDepth 100000 in
theorem aG:Slot "set_iterator" "__next__" "set_iterator.__next__" :=
 .of (owner:="set_iterator") (n:="__next__") (by rw [typeLookup_type,builtinLookup_eq_fast];kernel_rfl) (by decide +kernel) (by decide +kernel) (by decide +kernel)
  (by first|exact .inl (by decide +kernel)|exact .inr (by decide +kernel)) (by rw [isSubtype_type];kernel_rfl)
set_option maxRecDepth 100000 in
theorem cG:entryFor table "set_iterator.__next__"=some Builtin.«set_iterator.__next__»:=entryFor_of_tree (by kernel_rfl)
set_option maxRecDepth 100000 in
theorem cZ (a:Value):argsOk "set_iterator.__next__" ⟨[a],[]⟩:=by
 unfold argsOk;rw [signature?_of (id:="set_iterator.__next__") (n:=['_','_','t','x','e','n','_','_']) (o:=['r','o','t','a','r','e','t','i','_','t','e','s']) (by kernel_rfl) kY];kernel_rfl
set_option maxRecDepth 100000 in
theorem gn:Slot "set_iterator" "__iter__" "set_iterator.__iter__" :=
 .of (owner:="set_iterator") (n:="__iter__") (by rw [typeLookup_type,builtinLookup_eq_fast];kernel_rfl) (by decide +kernel) (by decide +kernel) (by decide +kernel)
  (by first|exact .inl (by decide +kernel)|exact .inr (by decide +kernel)) (by rw [isSubtype_type];kernel_rfl)
set_option maxRecDepth 100000 in
theorem jK:entryFor table "set_iterator.__iter__"=some Builtin.«dict_keyiterator.__iter__» :=
 entryFor_alias (id':="dict_keyiterator.__iter__") (by kernel_rfl) rfl (by decide +kernel) (by kernel_rfl)
set_option maxRecDepth 100000 in
theorem kI (a:Value):argsOk "set_iterator.__iter__" ⟨[a],[]⟩:=by
 unfold argsOk;rw [signature?_of (id:="set_iterator.__iter__") (n:=['_','_','r','e','t','i','_','_']) (o:=['r','o','t','a','r','e','t','i','_','t','e','s']) (by kernel_rfl) kY];kernel_rfl
theorem tK {P:Program}{w:World}{A:Around}{E:Value->Shared->Prop}{s:Shared}{I:Addr}{Q:Value->Shared->Prop} (hT:s.TypeIs (.ref I) "set_iterator") (h:Q (.ref I) s):wpAny (model P w) A (pyIter (.ref I)) Q E s:=by
 refine wpAny_pyIter_slot hT gn (wpAny_call_entry gn hT jK ?_ (kI _))
 show wpAny _ _ (ret (.ref I)) _ _ s
 exact wpAny_pure ⟨_,rfl,"set_iterator",_,hT,aG.lookup,h⟩
theorem gz {α:Type}:∀ {l:List α}{i:Nat}{x:α},l[i]?=some x->(x::l.eraseIdx i).Perm l
 | [],i,x,h=>by simp at h
 | a::l,0,x,h=>by
  have e:a=x:=by simpa using h
  subst e
  exact .refl _
 | a::l,i + 1,x,h=>by
  have h':l[i]?=some x:=by simpa using h
  exact (List.Perm.swap a x _).trans (.cons a (gz h'))
theorem qb {α:Type} (next:Nat->Nat):∀ (fuel k:Nat) (left:List α) (out:Array α),fuel=left.length->(pickOrder.go next fuel k left out).toList.Perm (out.toList ++ left)
 | 0,k,left,out,h=>by
  have:left=[]:=List.length_eq_zero_iff.mp h.symm
  subst this
  rw [List.append_nil]
  exact .refl _
 | fuel + 1,k,left,out,h=>by
  have hl:next k % left.length < left.length:=Nat.mod_lt _ (by omega)
  obtain ⟨x,hx⟩:∃ x,left[next k % left.length]?=some x:=⟨_,List.getElem?_eq_getElem hl⟩
  have e:pickOrder.go next (fuel + 1) k left out=pickOrder.go next fuel (k + 1) (left.eraseIdx (next k % left.length)) (out.push x):=by
   show (match left[next k % left.length]? with
    | some x=>pickOrder.go next fuel (k + 1) (left.eraseIdx (next k % left.length)) (out.push x)
    | none=>out)=_
   rw [hx]
  rw [e]
  refine (qb next fuel (k + 1) _ _ (by rw [List.length_eraseIdx_of_lt hl];omega)).trans ?_
  rw [Array.toList_push,List.append_assoc]
  exact List.Perm.append_left _ (gz hx)
theorem rA {α:Type} (next:Nat->Nat) (xs:Array α):(pickOrder next xs).toList.Perm xs.toList:=by
 have:=qb next xs.size 0 xs.toList #[] (by simp)
 simpa [pickOrder] using this
section
variable {M:Model}{A:Around}{E:Value->Shared->Prop}{s:Shared}
theorem oU {src:Source}{n:Nat}{Q:Nat->Shared->Prop} (hn:n ≠ 0) (h:∀ i d',i < n->Q i { s with drawn:=d' }):wpAny M A (choose src n) Q E s:=λ_ _ _ =>
 ⟨hn,h _ _ (Nat.mod_lt _ (Nat.pos_of_ne_zero hn))⟩
theorem jL {α:Type}:∀ (n:Nat) (xs:List α) (s:Shared) {Q:List α->Shared->Prop},n=xs.length->(∀ ys d',ys.Perm xs->Q ys { s with drawn:=d' })->wpAny M A (drawOrder n xs) Q E s
 | 0,xs,s,Q,h,q=>by
  have:xs=[]:=List.length_eq_zero_iff.mp h.symm
  subst this
  show wpAny M A (pure []) Q E s
  exact wpAny_pure (q [] s.drawn (.refl _))
 | n + 1,[],s,Q,h,q=>by simp at h
 | n + 1,x::r,s,Q,h,q=>by
  show wpAny M A (choose .order (x::r).length >>= _) Q E s
  refine wpAny_bind (oU (by simp) λi d' hi=>?_)
  obtain ⟨y,hy⟩:∃ y,(x::r)[i]?=some y:=⟨_,List.getElem?_eq_getElem hi⟩
  rw [hy]
  dsimp only
  refine wpAny_bind (jL n _ _ (by rw [List.length_eraseIdx_of_lt hi];simp at h ⊢;omega) λys d'' hp=>wpAny_pure ?_)
  exact q (y::ys) d'' ((List.Perm.cons y hp).trans (gz hy))
end
noncomputable def SIt (h:Heap) (I S:Addr) (o:Obj) (f:Value) (i n ep:Nat):Prop :=
 h.get? I=some { cls:=.type "set_iterator",dict:=none,data:=.fields #[f,.int i 0,.ref S,.int n 0,.int ep 0],slots:=#[] }/\h.get? S=some o
theorem SIt.type {s:Shared}{I S:Addr}{o:Obj}{f:Value}{i n ep:Nat} (h:SIt s.heap I S o f i n ep):s.TypeIs (.ref I) "set_iterator":=⟨_,h.1,rfl⟩
section
variable {P:Program}{w:World}{A:Around}{E:Value->Shared->Prop}{s:Shared}
theorem dX {S:Addr}{o:Obj}{es:Array (Int × Value)}{ep:Nat}{t:SetTable}{Q:Array (Int × Value)->Shared->Prop} (ho:s.heap.get? S=some o) (hd:o.data=.set es ep t) (hf:t.fits es.size=true) (h:Q es s) :
  wpAny (model P w) A (setEntries S) Q E s:=wpAny_setEntries_of ho hd hf h
theorem kZ {S:Addr}{o:Obj}{es:Array (Int × Value)}{ep slot i:Nat}{t:SetTable}{Q:Option (Value × Nat)->Shared->Prop} (ho:s.heap.get? S=some o) (hd:o.data=.set es ep t) (hf:t.fits es.size=true) (hb:byT w=true)
  (h:Q (((pickOrder (w.params.setOrder S ep) es)[i]?).map λe=>(e.2,slot)) s):wpAny (model P w) A (setNext S slot i ep) Q E s:=by
 unfold setNext
 refine wpAny_bind (wpAny_setState_of ho hd hf ?_)
 dsimp only
 refine wpAny_bind (eP ?_)
 rw [if_pos hb]
 simp only [bne_self_eq_false,Bool.false_eq_true,if_false]
 refine wpAny_bind ?_
 unfold setWalk
 refine wpAny_bind (wpAny_setState_of ho hd hf ?_)
 dsimp only
 refine wpAny_bind (eP ?_)
 rw [if_pos hb]
 refine wpAny_bind (wpAny_askSetting (wpAny_pure ?_))
 exact wpAny_pure h
theorem jM {S:Addr}{o:Obj}{es:Array (Int × Value)}{ep slot i:Nat}{t:SetTable}{Q:Option (Value × Nat)->Shared->Prop} (ho:s.heap.get? S=some o) (hd:o.data=.set es ep t) (hf:t.fits es.size=true) (hb:byT w=false)
  (hdr:(!t.plain&&decide (es.size > 1))=false) (hled:t.led=true)
  (h:Q (match es[SetTable.below t.place slot]?,t.place[SetTable.below t.place slot]? with|some (_,x),some j=>some (x,j + 1)|_,_=>none) s):wpAny (model P w) A (setNext S slot i ep) Q E s:=by
 unfold setNext
 refine wpAny_bind (wpAny_setState_of ho hd hf ?_)
 dsimp only
 refine wpAny_bind (eP ?_)
 rw [if_neg (by rw [hb];simp)]
 refine wpAny_ite_split (λhab=>absurd (show (!t.plain&&decide (es.size > 1))=true from hab) (by rw [hdr];simp)) (λ_=>?_)
 refine wpAny_bind ?_
 show wpAny _ _ (if (!t.led&&!es.isEmpty)=true then _ else _) _ _ s
 rw [if_neg (by rw [hled];simp)]
 exact wpAny_pure (wpAny_pure h)
theorem tL {xs:Array Nat} (hr:kG xs) {i:Nat} (hi:i < xs.size):SetTable.below xs (xs.getD i 0 + 1)=i + 1:=by
 obtain ⟨h1,h2,h3⟩:=gw hr (xs.getD i 0 + 1)
 have a:i < SetTable.below xs (xs.getD i 0 + 1):=by
  by_cases q:SetTable.below xs (xs.getD i 0 + 1) <= i
  ·have:=h3 i q hi;omega
  ·omega
 have b:SetTable.below xs (xs.getD i 0 + 1) <= i + 1:=by
  by_cases q:i + 1 < SetTable.below xs (xs.getD i 0 + 1)
  ·have:=h2 (i + 1) q
   have:=hr i (i + 1) (by omega) (by omega)
   omega
  ·omega
 omega
theorem oV (xs:Array Nat) (hr:kG xs):SetTable.below xs 0=0:=by
 obtain ⟨h1,h2,h3⟩:=gw hr 0
 by_cases q:0 < SetTable.below xs 0
 ·have:=h2 0 q;omega
 ·omega
end
end L2.St
namespace L2.St
open PySem PyProof.Rows
section
variable {P:Program}{w:World}{A:Around}{E:Value->Shared->Prop}{s:Shared}{I S:Addr}{o:Obj}{es:Array (Int × Value)}{t:SetTable}{i n ep:Nat}
theorem kJ {slot nx:Nat}{x:Value}{Q:Option Value->Shared->Prop} (hit:SIt s.heap I S o (.int slot 0) i n ep) (hd:o.data=.set es ep t) (hf:t.fits es.size=true) (hn:es.size=n) (hSI:S ≠ I)
  (hnx:∀ (A':Around) (s':Shared) (Q':Option (Value × Nat)->Shared->Prop) (E':Value->Shared->Prop),s'.heap.get? S=some o->Q' (some (x,nx)) s'->wpAny (model P w) A' (setNext S slot i ep) Q' E' s')
  (hQ:∀ h',SIt h' I S o (.int nx 0) (i + 1) n ep->Heap.SameBut I s.heap h'->Q (some x) { s with heap:=h' }):wpAny (model P w) A (pyNext (.ref I)) Q E s:=by
 unfold pyNext
 refine wpAny_bind (wpAny_attempt (wpAny_callSpecial?_slot (name:=Str.ofString "__next__") hit.type aG (wpAny_call_entry aG hit.type cG ?_ (cZ _))))
 unfold Builtin.«set_iterator.__next__»
 refine wpAny_bind (m:=slotArgs "__next__" 0 _) (wpAny_pure ?_)
 refine wpAny_bind (wpAny_fieldsOf hit.1 rfl ?_)
 dsimp only
 refine wpAny_bind (dX hit.2 hd hf ?_)
 rw [if_neg (by simp [hn])]
 try dsimp only
 simp only [Int.toNat_natCast]
 refine wpAny_bind (hnx _ _ _ _ hit.2 ?_)
 dsimp only
 refine wpAny_bind (wpAny_setField_rec hit.1 (by simp) λh1 e1 sb1=>?_)
 refine wpAny_bind (wpAny_setField_rec e1 (by simp) λh2 e2 sb2=>?_)
 refine wpAny_pure ⟨x,rfl,wpAny_pure (hQ h2 ⟨?_,?_⟩ (sb1.trans sb2))⟩
 ·simpa [rawInt] using e2
 ·exact ((sb1.trans sb2).2 S hSI).trans hit.2
theorem kK {slot:Nat}{Q:Option Value->Shared->Prop} (hh:A.handled=none) (hit:SIt s.heap I S o (.int slot 0) i n ep) (hd:o.data=.set es ep t) (hf:t.fits es.size=true) (hn:es.size=n)
  (hnx:∀ (A':Around) (s':Shared) (Q':Option (Value × Nat)->Shared->Prop) (E':Value->Shared->Prop),s'.heap.get? S=some o->Q' none s'->wpAny (model P w) A' (setNext S slot i ep) Q' E' s')
  (hQ:∀ h',(∀ b o,b ≠ I->s.heap.get? b=some o->h'.get? b=some o)->Q none { s with heap:=h' }):wpAny (model P w) A (pyNext (.ref I)) Q E s:=by
 unfold pyNext
 refine wpAny_bind (wpAny_attempt (wpAny_callSpecial?_slot (name:=Str.ofString "__next__") hit.type aG (wpAny_call_entry aG hit.type cG ?_ (cZ _))))
 unfold Builtin.«set_iterator.__next__»
 refine wpAny_bind (m:=slotArgs "__next__" 0 _) (wpAny_pure ?_)
 refine wpAny_bind (wpAny_fieldsOf hit.1 rfl ?_)
 dsimp only
 refine wpAny_bind (dX hit.2 hd hf ?_)
 rw [if_neg (by simp [hn])]
 try dsimp only
 simp only [Int.toNat_natCast]
 refine wpAny_bind (hnx _ _ _ _ hit.2 ?_)
 dsimp only
 refine wpAny_bind (wpAny_setField_rec hit.1 (by simp) λh1 e1 sb1=>?_)
 refine iG (v:=.none) (vs:=#[]) (it:=0) (Q:=λ_ _=>True) (by first|exact hh|simpa using hh) λe s' kp ⟨h',eq⟩ hT=>?_
 subst eq
 refine wpAny_bind (wpAny_isInstance (T:="StopIteration") (b:=true) hT isSubtype_stop ?_)
 exact wpAny_pure (hQ h' λb o hb q=>kp b o ((sb1.2 b hb).trans q))
theorem jN {Tp:Addr}{ot:Obj}{ps:Array Value}{pn place:Nat}{pt:Tok}{hx:Int}{x:Value}{Q:Option Value->Shared->Prop} (hit:SIt s.heap I S o (.ref Tp) i n ep) (hd:o.data=.set es ep t) (hf:t.fits es.size=true) (hn:es.size=n) (hSI:S ≠ I)
  (hTp:s.heap.get? Tp=some ot) (hTd:ot.data=.seq ps pn) (hp:ps[i]?=some (.int place pt)) (hx':es[place]?=some (hx,x))
  (hQ:∀ h',SIt h' I S o (.ref Tp) (i + 1) n ep->Heap.SameBut I s.heap h'->Q (some x) { s with heap:=h' }):wpAny (model P w) A (pyNext (.ref I)) Q E s:=by
 unfold pyNext
 refine wpAny_bind (wpAny_attempt (wpAny_callSpecial?_slot (name:=Str.ofString "__next__") hit.type aG (wpAny_call_entry aG hit.type cG ?_ (cZ _))))
 unfold Builtin.«set_iterator.__next__»
 refine wpAny_bind (m:=slotArgs "__next__" 0 _) (wpAny_pure ?_)
 refine wpAny_bind (wpAny_fieldsOf hit.1 rfl ?_)
 dsimp only
 refine wpAny_bind (dX hit.2 hd hf ?_)
 rw [if_neg (by simp [hn])]
 try dsimp only
 refine wpAny_bind (wpAny_seqItems hTp hTd ?_)
 dsimp only
 simp only [Int.toNat_natCast,hp]
 refine wpAny_bind ?_
 unfold setNextDrawn
 refine wpAny_bind (wpAny_setState_of hit.2 hd hf ?_)
 dsimp only
 simp only [bne_self_eq_false,Bool.false_eq_true,if_false,Int.toNat_natCast,hx']
 refine wpAny_pure ?_
 refine wpAny_bind (wpAny_setField_rec hit.1 (by simp) λh1 e1 sb1=>?_)
 refine wpAny_pure ⟨x,rfl,wpAny_pure (hQ h1 ⟨?_,?_⟩ sb1)⟩
 ·simpa [rawInt] using e1
 ·exact (sb1.2 S hSI).trans hit.2
theorem jO {Tp:Addr}{ot:Obj}{ps:Array Value}{pn:Nat}{Q:Option Value->Shared->Prop} (hh:A.handled=none) (hit:SIt s.heap I S o (.ref Tp) i n ep) (hd:o.data=.set es ep t) (hf:t.fits es.size=true) (hn:es.size=n)
  (hTp:s.heap.get? Tp=some ot) (hTd:ot.data=.seq ps pn) (hp:ps[i]?=none)
  (hQ:∀ h',(∀ b o,b ≠ I->s.heap.get? b=some o->h'.get? b=some o)->Q none { s with heap:=h' }):wpAny (model P w) A (pyNext (.ref I)) Q E s:=by
 unfold pyNext
 refine wpAny_bind (wpAny_attempt (wpAny_callSpecial?_slot (name:=Str.ofString "__next__") hit.type aG (wpAny_call_entry aG hit.type cG ?_ (cZ _))))
 unfold Builtin.«set_iterator.__next__»
 refine wpAny_bind (m:=slotArgs "__next__" 0 _) (wpAny_pure ?_)
 refine wpAny_bind (wpAny_fieldsOf hit.1 rfl ?_)
 dsimp only
 refine wpAny_bind (dX hit.2 hd hf ?_)
 rw [if_neg (by simp [hn])]
 try dsimp only
 refine wpAny_bind (wpAny_seqItems hTp hTd ?_)
 dsimp only
 simp only [Int.toNat_natCast,hp]
 refine wpAny_bind (wpAny_setField_rec hit.1 (by simp) λh1 e1 sb1=>?_)
 refine wpAny_bind (wpAny_setField_rec e1 (by simp) λh2 e2 sb2=>?_)
 refine iG (v:=.none) (vs:=#[]) (it:=0) (Q:=λ_ _=>True) (by first|exact hh|simpa using hh) λe s' kp ⟨h',eq⟩ hT=>?_
 subst eq
 refine wpAny_bind (wpAny_isInstance (T:="StopIteration") (b:=true) hT isSubtype_stop ?_)
 exact wpAny_pure (hQ h' λb o hb q=>kp b o (((sb1.trans sb2).2 b hb).trans q))
end
structure l6 (P:Program) (w:World) (I:Addr) (fp:List Addr) (order:List Int) (St:Nat->Heap->Prop):Prop where
 mem:I ∈ fp
 ty:∀ i h,St i h->∃ o,h.get? I=some o/\o.cls=.type "set_iterator"
 frame:∀ i h h',St i h->(∀ b ∈ fp,∀ o,h.get? b=some o->h'.get? b=some o)->St i h'
 item:∀ (A:Around) i (s:Shared) (Q:Option Value->Shared->Prop) (E:Value->Shared->Prop),i < order.length->St i s.heap ->
  (∀ t h',St (i + 1) h'->(∀ b o,b ≠ I->s.heap.get? b=some o->h'.get? b=some o)->Q (some (.int (order.getD i 0) t)) { s with heap:=h' })->wpAny (model P w) A (pyNext (.ref I)) Q E s
 done:∀ (A:Around) (s:Shared) (Q:Option Value->Shared->Prop) (E:Value->Shared->Prop),A.handled=none->St order.length s.heap ->
  (∀ h',(∀ b o,b ≠ I->s.heap.get? b=some o->h'.get? b=some o)->Q none { s with heap:=h' })->wpAny (model P w) A (pyNext (.ref I)) Q E s
theorem l6.walks {P:Program}{w:World}{I:Addr}{fp:List Addr}{order:List Int}{St:Nat->Heap->Prop} (W:l6 P w I fp order St) {A:Around} (hh:A.handled=none) :
  Walks P w A I fp [I] order.length (λi v=>∃ t,v=.int (order.getD i 0) t) St where
 sub:=λb hb=>by rw [List.mem_singleton.mp hb];exact W.mem
 frame:=W.frame
 item:=λi s Q E hi st hQ=>W.item A i s Q E hi st λt h' st' kp=>hQ _ h' s.toks ⟨t,rfl⟩ st' λb o hb e=>kp b o (λz=>hb (by rw [z];exact List.mem_singleton.mpr rfl)) e
 done:=λs Q E st hQ=>W.done A s Q E hh st λh' kp=>hQ h' s.toks λb o hb e=>kp b o (λz=>hb (by rw [z];exact List.mem_singleton.mpr rfl)) e
 self:=λi s Q E st h=>by
  obtain ⟨o,e,c⟩:=W.ty i _ st
  exact tK ⟨o,e,c⟩ h
section
variable {P:Program}{w:World}{A:Around}{E:Value->Shared->Prop}{s:Shared}
theorem gS {l:List (Int × Value)}{i:Nat}{e:Int × Value} (h:l[i]?=some e):(l.map λe=>numOf e.2).getD i 0=numOf e.2:=by
 rw [List.getD_eq_getElem?_getD,List.getElem?_map,h];rfl
set_option maxRecDepth 100000 in
theorem tM {S:Addr}{ks:List Int}{Q:Value->Shared->Prop} (g:cV P w s.heap S ks)
  (hQ:∀ (I:Addr) (h':Heap) (d':Drawn) (fp:List Addr) (order:List Int) (St:Nat->Heap->Prop),order.Perm ks->(∀ b o,s.heap.get? b=some o->h'.get? b=some o)->s.heap.objs.size <= I->(∀ b ∈ fp,b=S \/ s.heap.objs.size <= b)->(∀ b ∈ fp,b < h'.objs.size) ->
   l6 P w I fp order St->St 0 h'->Q (.ref I) { s with heap:=h',drawn:=d' }):wpAny (model P w) A (pyIter (.ref S)) Q E s:=by
 obtain ⟨o,es,ep,t,ho,hex,hd,hel,hpm,hnd,hb,hf,hgd⟩:=g
 have hT:s.TypeIs (.ref S) "set":=⟨o,ho,hex.1⟩
 have hSlt:S < s.heap.objs.size:=Heap.lt_size ho
 have hps:t.place.size=es.size:=by simp [SetTable.fits] at hf;exact hf.1
 have hlen:es.size=ks.length:=by have:=hpm.length_eq;simpa using this
 refine wpAny_pyIter_slot hT PySem.F.slot_set_iter (wpAny_call_entry PySem.F.slot_set_iter hT jJ ?_ (PySem.F.args_set_iter_1 _))
 unfold Builtin.«frozenset.__iter__»
 refine wpAny_bind (m:=Builtin.Frozenset.slot0 "__iter__" _) (wpAny_pure ?_)
 refine wpAny_bind (m:=Builtin.Frozenset.sizeOf S) (wpAny_bind (dX ho hd hf (wpAny_pure ?_)))
 refine wpAny_bind (m:=setDrawn S) ?_
 unfold setDrawn
 refine wpAny_bind (wpAny_setState_of ho hd hf ?_)
 dsimp only
 refine wpAny_bind (eP (wpAny_pure ?_))
 have slotted:∀ (order:List (Int × Value)) (fs:Nat->Nat),order.Perm es.toList->fs 0=0 ->
   (∀ (A':Around) i (s':Shared) (Q':Option (Value × Nat)->Shared->Prop) (E':Value->Shared->Prop) e,order[i]?=some e->s'.heap.get? S=some o->Q' (some (e.2,fs (i + 1))) s'->wpAny (model P w) A' (setNext S (fs i) i ep) Q' E' s') ->
   (∀ (A':Around) (s':Shared) (Q':Option (Value × Nat)->Shared->Prop) (E':Value->Shared->Prop),s'.heap.get? S=some o->Q' none s'->wpAny (model P w) A' (setNext S (fs order.length) order.length ep) Q' E' s') ->
   Q (.ref s.heap.objs.size) { s with heap:=s.heap.push { cls:=.type "set_iterator",data:=.fields #[.int 0 0,.int 0 0,.ref S,.int (es.size:Nat) 0,.int (ep:Nat) 0] } }:=by
  intro order fs hp h0 hstep hend
  have hol:order.length=es.size:=by have:=hp.length_eq;simpa using this
  refine hQ s.heap.objs.size _ s.drawn [s.heap.objs.size,S] (order.map λe=>numOf e.2) (λi h=>SIt h s.heap.objs.size S o (.int (fs i) 0) i es.size ep) ((hp.map _).trans hpm) (λb o e=>Heap.get?_push_of_some _ e) (Nat.le_refl _) (λb hb=>?_) (λb hb=>?_) ?_ ?_
  ·rcases List.mem_cons.mp hb with e|e
   ·exact .inr (Nat.le_of_eq e.symm)
   ·exact .inl (List.mem_singleton.mp e)
  ·rw [Heap.size_push]
   rcases List.mem_cons.mp hb with e|e
   ·rw [e];exact Nat.lt_succ_self _
   ·rw [List.mem_singleton.mp e];exact Nat.lt_succ_of_lt hSlt
  ·refine ⟨.head _,λi h st=>⟨_,st.1,rfl⟩,λi h h' st k=>⟨k _ (.head _) _ st.1,k _ (.tail _ (.head _)) _ st.2⟩,λA' i s' Q' E' hi st hq=>?_,λA' s' Q' E' hh st hq=>?_⟩
   ·rw [List.length_map] at hi
    obtain ⟨e,he⟩:∃ e,order[i]?=some e:=⟨_,List.getElem?_eq_getElem hi⟩
    have hm:e ∈ es.toList:=hp.mem_iff.mp (List.mem_of_getElem? he)
    obtain ⟨tk,hv⟩:=iH hel e hm
    rw [gS he] at hq
    refine kJ (slot:=fs i) (nx:=fs (i + 1)) (x:=e.2) st hd hf rfl (Nat.ne_of_lt hSlt) (λA'' s'' Q'' E'' hs'' q=>hstep A'' i s'' Q'' E'' e he hs'' q) λh' st' sb=>?_
    rw [hv]
    exact hq tk h' st' λb o hb q=>(sb.2 b hb).trans q
   ·rw [List.length_map] at st
    exact kK (slot:=fs order.length) hh st hd hf rfl (λA'' s'' Q'' E'' hs'' q=>hend A'' s'' Q'' E'' hs'' q) hq
  ·refine ⟨?_,Heap.get?_push_of_some _ ho⟩
   rw [h0]
   exact Heap.get?_push_size _ rfl
 cases hbt:byT w with
 | true =>
  simp only [Bool.not_true,Bool.false_and,Bool.false_eq_true,if_false]
  refine wpAny_bind (wpAny_pure ?_)
  refine wpAny_bind (wpAny_setEpoch_of ho hd hf ?_)
  refine wpAny_bind (wpAny_newObj_type (wpAny_pure ⟨_,rfl,"set_iterator",_,⟨_,Heap.get?_push_size _ rfl,rfl⟩,aG.lookup,?_⟩))
  have q:=slotted (pickOrder (w.params.setOrder S ep) es).toList (λ_=>0) (rA _ _) rfl
   (λA' i s' Q' E' e he hs' q=>kZ hs' hd hf hbt (by rw [<- Array.getElem?_toList,he];exact q))
   (λA' s' Q' E' hs' q=>kZ hs' hd hf hbt (by rw [Array.getElem?_eq_none (by simp)];exact q))
  simpa [rawInt] using q
 | false =>
  cases hdr:(!t.plain&&decide (es.size > 1)) with
  | false =>
   refine wpAny_ite_split (λhab=>absurd (show (!false&&(!t.plain&&decide (es.size > 1)))=true from hab) (by rw [hdr];simp)) (λ_=>?_)
   refine wpAny_bind (wpAny_pure ?_)
   refine wpAny_bind (wpAny_setEpoch_of ho hd hf ?_)
   refine wpAny_bind (wpAny_newObj_type (wpAny_pure ⟨_,rfl,"set_iterator",_,⟨_,Heap.get?_push_size _ rfl,rfl⟩,aG.lookup,?_⟩))
   have hled:t.led=true:=by rw [hgd.led,hbt];rfl
   have hfs:∀ i,i <= t.place.size->SetTable.below t.place (match i with|0=>0|j + 1=>t.place.getD j 0 + 1)=i:=λi hi=>by
    cases i with
    | zero=>exact oV _ hgd.rise
    | succ j=>exact tL hgd.rise (by omega)
   have q:=slotted es.toList (λi=>match i with|0=>0|j + 1=>t.place.getD j 0 + 1) (.refl _) rfl
    (λA' i s' Q' E' e he hs' q=>jM hs' hd hf hbt hdr hled (by
     have hi:i < es.size:=by have:=(List.getElem?_eq_some_iff.mp he).1;simpa using this
     rw [hfs i (by omega)]
     rw [<- Array.getElem?_toList,he,Array.getElem?_eq_getElem (by omega:i < t.place.size)]
     have e2:t.place.getD i 0=t.place[i]:=by simp [Array.getD,(by omega:i < t.place.size)]
     dsimp only at q ⊢
     rw [e2] at q
     exact q))
    (λA' s' Q' E' hs' q=>jM hs' hd hf hbt hdr hled (by
     rw [hfs _ (by simp [hps]),Array.getElem?_eq_none (by simp)]
     exact q))
   simpa [rawInt] using q
  | true =>
   refine wpAny_ite_split (λ_=>?_) (λhab=>absurd (show (!false&&(!t.plain&&decide (es.size > 1)))=true by rw [hdr];rfl) hab)
   refine wpAny_bind (jL _ _ _ (by simp) λplaces d' hperm=>?_)
   refine wpAny_bind (wpAny_newTuple ?_ (by simp;have:=hperm.length_eq;simp at this;rw [this,sizeLine_eq];unfold scanBound at hb;omega))
   refine wpAny_bind (wpAny_setEpoch_of (Heap.get?_push_of_some _ ho) hd hf ?_)
   refine wpAny_bind (wpAny_newObj_type (wpAny_pure ⟨_,rfl,"set_iterator",_,⟨_,Heap.get?_push_size _ rfl,rfl⟩,aG.lookup,?_⟩))
   have hpl:places.length=es.size:=by have:=hperm.length_eq;simpa using this
   have hat:∀ p ∈ places,p < es.size:=λp hp=>by have:=hperm.mem_iff.mp hp;simpa using this
   have hT0:((s.heap.push { cls:=.type "tuple",data:=.seq (List.map (λ(i:Nat)=>rawInt i) places).toArray }).push { cls:=.type "set_iterator",data:=.fields #[.ref s.heap.objs.size,.int 0 0,.ref S,.int (es.size:Nat) 0,.int (ep:Nat) 0] }).get? s.heap.objs.size=some { cls:=.type "tuple",data:=.seq (List.map (λ(i:Nat)=>rawInt i) places).toArray } :=
    Heap.get?_push_of_some _ (Heap.get?_push_size _ rfl)
   have q:=hQ (s.heap.push { cls:=.type "tuple",data:=.seq (List.map (λ(i:Nat)=>rawInt i) places).toArray }).objs.size
    ((s.heap.push { cls:=.type "tuple",data:=.seq (List.map (λ(i:Nat)=>rawInt i) places).toArray }).push { cls:=.type "set_iterator",data:=.fields #[.ref s.heap.objs.size,.int 0 0,.ref S,.int (es.size:Nat) 0,.int (ep:Nat) 0] }) d'
    [(s.heap.push { cls:=.type "tuple",data:=.seq (List.map (λ(i:Nat)=>rawInt i) places).toArray }).objs.size,S,s.heap.objs.size]
    (places.map λp=>(es.toList.map λe=>numOf e.2).getD p 0)
    (λi h=>SIt h (s.heap.push { cls:=.type "tuple",data:=.seq (List.map (λ(i:Nat)=>rawInt i) places).toArray }).objs.size S o (.ref s.heap.objs.size) i es.size ep/\h.get? s.heap.objs.size=some { cls:=.type "tuple",data:=.seq (List.map (λ(i:Nat)=>rawInt i) places).toArray })
    ?p1 (λb o e=>Heap.get?_push_of_some _ (Heap.get?_push_of_some _ e)) (by rw [Heap.size_push];exact Nat.le_succ _) ?p2 ?p3 ?p4 ⟨⟨Heap.get?_push_size _ rfl,Heap.get?_push_of_some _ (Heap.get?_push_of_some _ ho)⟩,hT0⟩
   ·simpa [rawInt] using q
   case p1 =>
    have e1:(es.toList.map λe=>numOf e.2).length=es.size:=by simp
    have h1:=hperm.map λp=>(es.toList.map λe=>numOf e.2).getD p 0
    rw [<- e1,wz] at h1
    exact h1.trans hpm
   case p2 =>
    intro b hb
    simp only [List.mem_cons,List.not_mem_nil,or_false] at hb
    rcases hb with e|e|e
    ·exact .inr (by rw [e,Heap.size_push];exact Nat.le_succ _)
    ·exact .inl e
    ·exact .inr (Nat.le_of_eq e.symm)
   case p3 =>
    intro b hb
    rw [Heap.size_push]
    simp only [List.mem_cons,List.not_mem_nil,or_false] at hb
    rcases hb with e|e|e
    ·rw [e];exact Nat.lt_succ_self _
    ·rw [e,Heap.size_push];exact Nat.lt_succ_of_lt (Nat.lt_succ_of_lt hSlt)
    ·rw [e,Heap.size_push];exact Nat.lt_succ_of_lt (Nat.lt_succ_self _)
   case p4 =>
    refine ⟨.head _,λi h st=>⟨_,st.1.1,rfl⟩,λi h h' st k=>⟨⟨k _ (.head _) _ st.1.1,k _ (.tail _ (.head _)) _ st.1.2⟩,k _ (.tail _ (.tail _ (.head _))) _ st.2⟩,λA' i s' Q' E' hi st hq=>?_,λA' s' Q' E' hh st hq=>?_⟩
    ·rw [List.length_map] at hi
     obtain ⟨p,hp⟩:∃ p,places[i]?=some p:=⟨_,List.getElem?_eq_getElem hi⟩
     have hpz:p < es.size:=hat p (List.mem_of_getElem? hp)
     obtain ⟨e,he⟩:∃ e,es.toList[p]?=some e:=⟨_,List.getElem?_eq_getElem (by simpa using hpz)⟩
     obtain ⟨tk,hv⟩:=iH hel e (List.mem_of_getElem? he)
     have e3:(places.map λp=>(es.toList.map λe=>numOf e.2).getD p 0).getD i 0=numOf e.2:=by
      rw [List.getD_eq_getElem?_getD,List.getElem?_map,hp]
      exact gS he
     rw [e3] at hq
     refine jN (place:=p) (pt:=0) (hx:=e.1) (x:=e.2) st.1 hd hf rfl (by rw [Heap.size_push];exact Nat.ne_of_lt (Nat.lt_succ_of_lt hSlt)) st.2 rfl (by simp [hp,rawInt]) (by rw [<- Array.getElem?_toList,he]) λh' st' sb=>?_
     rw [hv]
     exact hq tk h' ⟨st',(sb.2 _ (by rw [Heap.size_push];exact Nat.ne_of_lt (Nat.lt_succ_self _))).trans st.2⟩ λb o hb q=>(sb.2 b hb).trans q
    ·rw [List.length_map] at st
     exact jO hh st.1 hd hf rfl st.2 rfl (by simp) hq
end
end L2.St
namespace L2.St
open PySem PyProof.Rows
section
variable {P:Program}{w:World}{A:Around}{E:Value->Shared->Prop}{s:Shared}
theorem tN {r:Addr}{Q:Bool->Shared->Prop} (hT:s.TypeIs (.ref r) "set") (h:Q false s):wpAny (model P w) A (Builtin.List.listLengthHint (.ref r)) Q E s:=by
 unfold Builtin.List.listLengthHint
 refine wpAny_bind (wpAny_specialOf hT PySem.F.slot_set_len.lookup ?_)
 generalize hid:("set.__len__":String)=id0
 wp_delta
 rw [show splitId id0=some ("set","__len__") from by subst hid;decide +kernel]
 subst hid
 refine wpAny_bind (wpAny_isInstance (T:="set") (b:=true) hT (by rw [isSubtype_type];kernel_rfl) ?_)
 refine wpAny_ite_split (λhab=>absurd hab (by decide)) (λ_=>?_)
 refine wpAny_ite_split (λ_=>?_) (λhab=>absurd (by decide +kernel) hab)
 refine wpAny_bind (wpAny_typeOf hT ?_)
 exact wpAny_pure h
set_option maxRecDepth 100000 in
theorem m7 {S:Addr}{ks:List Int}{R:List Value->Shared->Prop} (hh:A.handled=none) (g:cV P w s.heap S ks)
  (h:∀ (h':Heap) (tk:Nat) (d':Drawn) (acc:List Value) (order:List Int),(∀ b o,s.heap.get? b=some o->h'.get? b=some o)->order.Perm ks->IntsAre acc order->R acc { s with heap:=h',toks:=tk,drawn:=d' }) :
  wpAny (model P w) A (collect (.ref S)) R E s:=by
 have hks:ks.length < scanBound:=by
  obtain ⟨o,es,ep,t,ho,hex,hd,hel,hp,hn,hb,_⟩:=g
  have:=hp.length_eq
  have e:es.size=ks.length:=by simpa using this
  omega
 have hSlt:S < s.heap.objs.size:=by
  obtain ⟨o,es,ep,t,ho,_⟩:=g
  exact Heap.lt_size ho
 unfold collect
 refine wpAny_bind (wpAny_runValue (codeAny_builtin entry_proto_collect' ?_))
 rw [Around.under_plainId PySem.F.plain_proto_collect _]
 show wpAny _ A.in1 (newList [] >>= λl=>again (.builtin "list.__iadd__" ⟨[l,.ref S],[]⟩)) _ _ s
 refine wpAny_bind (wpAny_newObj_type ?_)
 refine wpAny_pure ⟨plainId_quiet PySem.F.plain_list_iadd _,codeAny_builtin entry_list_iadd' ?_⟩
 rw [Around.under_plainId PySem.F.plain_list_iadd _]
 have hS0:(s.heap.push { cls:=.type "list",data:=.seq ([]:List Value).toArray }).get? s.heap.objs.size=some { cls:=.type "list",data:=.seq #[] }:=Heap.get?_push_size _ rfl
 show wpAny _ A.in1 (Builtin.List.listExtendWith (.ref s.heap.objs.size) (.ref S) (.ref s.heap.objs.size)) _ _ _
 have g1:cV P w (s.heap.push { cls:=.type "list",data:=.seq ([]:List Value).toArray }) S ks:=g.at λo e=>Heap.get?_push_of_some _ e
 have hT:Shared.TypeIs { s with heap:=s.heap.push { cls:=.type "list",data:=.seq ([]:List Value).toArray } } (.ref S) "set":=by
  obtain ⟨o,es,ep,t,ho,hex,_⟩:=g1
  exact ⟨o,ho,hex.1⟩
 unfold Builtin.List.listExtendWith
 refine wpAny_bind (wpAny_typeOf (T:="set") hT ?_)
 have q1:Builtin.List.listSameRef (.ref s.heap.objs.size) (.ref S)=false:=by simp [Builtin.List.listSameRef,Nat.ne_of_gt hSlt]
 have q2:(Value.type "set" == Value.type "list")=false:=by decide
 have q3:(Value.type "set" == Value.type "tuple")=false:=by decide
 simp only [q1,q2,q3,Bool.or_false,Bool.false_eq_true,if_false]
 refine wpAny_bind (tM g1 λI h1 d1 fp order St hperm kp hI hfp hlt W st=>?_)
 have hz0:(s.heap.push { cls:=.type "list",data:=.seq ([]:List Value).toArray }).objs.size=s.heap.objs.size + 1:=Heap.size_push ..
 have hLf:s.heap.objs.size ∉ fp:=λhm=>by
  rcases hfp _ hm with e|e
  ·exact Nat.lt_irrefl _ (by rw [<- e] at hSlt;exact hSlt)
  ·dsimp only at e
   rw [hz0] at e
   exact Nat.not_succ_le_self _ e
 have hol:order.length <= sizeLine:=by
  have:=hperm.length_eq
  rw [this]
  exact fits_of_scanBound hks
 have hT1:Shared.TypeIs { s with heap:=h1,drawn:=d1 } (.ref S) "set":=by
  obtain ⟨o,e,c⟩:=hT
  exact ⟨o,kp S o e,c⟩
 refine wpAny_bind (wpAny_holding (tN hT1 ?_))
 have WS:=(W.walks (A:=A.in1) (by first|exact hh|simpa using hh)).toS
 have fin:∀ (h2:Heap) (c1:Nat),St 0 h2->(∀ b o,b ≠ s.heap.objs.size->h1.get? b=some o->h2.get? b=some o)->h2.get? s.heap.objs.size=some { cls:=.type "list",dict:=none,data:=.seq #[] c1,slots:=#[] } ->
   codeAny (model P w) A (.builtin "list.extend.loop" ⟨[.ref s.heap.objs.size,.ref I,.ref s.heap.objs.size],[]⟩)
    (λr s'=>∃ (h':Heap) (tk:Nat) (acc':Array Value) (c':Nat),r=.ok (.ret (.ref s.heap.objs.size))/\s'={ s with heap:=h',toks:=tk,drawn:=d1 }/\(∀ b o,s.heap.get? b=some o->h'.get? b=some o) /\
     h'.get? s.heap.objs.size=some { cls:=.type "list",dict:=none,data:=.seq acc' c',slots:=#[] }/\IntsAre acc'.toList order) { s with heap:=h2,drawn:=d1 }:=by
  intro h2 c1 st2 k2 hS2
  refine codeAny_extend_loopS WS hol s.heap.objs.size hLf _ order.length 0 _ #[] c1 rfl (Nat.zero_le _) st2 hS2 (ItemsOf.nil _) λs' acc' c' hm hS' hacc=>?_
  refine ⟨s'.heap,s'.toks,acc',c',rfl,(by
   obtain ⟨h',g',dr',tk',os'⟩:=s'
   have eg:g'=s.gens:=hm.gens
   have ed:dr'=d1:=hm.drawn
   have eo:os'=s.os:=hm.os
   subst eg;subst ed;subst eo;rfl),λb o e=>?_,hS',kF hacc⟩
  have hbl:b ≠ s.heap.objs.size:=Nat.ne_of_lt (Heap.lt_size e)
  refine hm.heap b o (λhmem=>?_) (k2 b o hbl (kp b o (Heap.get?_push_of_some _ e)))
  rcases List.mem_cons.mp hmem with z|z
  ·exact hbl z
  ·have hbI:b=I:=List.mem_singleton.mp z
   rw [hbI] at e
   have hI':(s.heap.push { cls:=.type "list",data:=.seq ([]:List Value).toArray }).objs.size <= I:=hI
   rw [hz0] at hI'
   exact absurd (Nat.lt_of_lt_of_le (Heap.lt_size e) (Nat.le_of_succ_le hI')) (Nat.lt_irrefl _)
 have done:∀ (r:Result) (s':Shared),(∃ (h':Heap) (tk:Nat) (acc':Array Value) (c':Nat),r=.ok (.ret (.ref s.heap.objs.size))/\s'={ s with heap:=h',toks:=tk,drawn:=d1 }/\(∀ b o,s.heap.get? b=some o->h'.get? b=some o) /\
     h'.get? s.heap.objs.size=some { cls:=.type "list",dict:=none,data:=.seq acc' c',slots:=#[] }/\IntsAre acc'.toList order) ->
   wants (λv s'=>wpAny (model P w) A (match v with
    | Value.ref a=>do
     match (<- load a).data with
      | Data.seq xs _=>pure xs.toList
      | _=>unsupported "internal:collect"
    | _=>unsupported "internal:collect") R E s') E r s':=by
  rintro r s' ⟨h',tk,acc',c',rfl,rfl,k',hS',hi⟩
  show wpAny _ A (load s.heap.objs.size >>= _) _ _ _
  refine wpAny_bind (wpAny_load hS' ?_)
  exact wpAny_pure (h h' tk d1 acc'.toList order k' hperm hi)
 have h1L:h1.get? s.heap.objs.size=some { cls:=.type "list",dict:=none,data:=.seq #[] 0,slots:=#[] }:=kp _ _ hS0
 refine wpAny_ite_split (λ_=>?_) (λ_=>wpAny_pure ⟨plainId_quiet PySem.F.plain_extend_loop _,codeAny_mono (fin h1 0 st (λ_ _ _ e=>e) h1L) done⟩)
 refine wpAny_bind (wpAny_rule ?_)
 refine wpAny_bind ?_
 show wpAny _ _ (updateSeq s.heap.objs.size (·.push .none) >>= λ_=>updateSeq s.heap.objs.size (·.pop)) _ _ _
 refine wpAny_bind (wpAny_updateSeq h1L rfl ?_)
 have hS2:=Heap.get?_update_self (Obj.mapSeq (·.push Value.none)) h1L rfl
 refine wpAny_updateSeq (hz:=by seq_fits) hS2 rfl ?_
 have hS3:=Heap.get?_update_self (Obj.mapSeq (·.pop)) hS2 rfl
 refine wpAny_pure ⟨plainId_quiet PySem.F.plain_extend_loop _,codeAny_mono (fin _ _ ?_ (λb o hb e=>?_) hS3) done⟩
 ·refine W.frame 0 _ _ st λb hb o e=>?_
  have hbS:b ≠ s.heap.objs.size:=λz=>hLf (z ▸ hb)
  exact (Heap.get?_update_other _ _ (Ne.symm hbS)).trans ((Heap.get?_update_other _ _ (Ne.symm hbS)).trans e)
 ·exact (Heap.get?_update_other _ _ (Ne.symm hb)).trans ((Heap.get?_update_other _ _ (Ne.symm hb)).trans e)
end
end L2.St
namespace L2
open PySem PySem.Spec PyProof.Rows
noncomputable def gf (scope osc:Scope):Scope :=
 { scope with names:=scope.names.map λ(n,k)=>if (k == .free&&osc.kind == .function&&osc.names.lookup n == some .cell) then (n,.cell) else (n,k) }
noncomputable def kL (osc:Scope) (n:Str) (k:NameKind):NameKind:=if (k == .free&&osc.kind == .function&&osc.names.lookup n == some .cell) then .cell else k
theorem gA (scope osc:Scope):(gf scope osc).names=scope.names.map λq=>(q.1,kL osc q.1 q.2):=by
 show List.map _ scope.names=_
 refine List.map_congr_left λq _=>?_
 obtain ⟨n,k⟩:=q
 show (if (k == NameKind.free&&osc.kind == .function&&osc.names.lookup n == some .cell)=true then (n,NameKind.cell) else (n,k))=(n,kL osc n k)
 unfold kL
 split <;> rfl
theorem eB {α β:Type} (g:Str->α->β) (y:Str):∀ names:List (Str × α),(names.map λq=>(q.1,g q.1 q.2)).lookup y=(names.lookup y).map (g y)
 | []=>rfl
 | (n,k)::r=>by
  rw [List.map_cons]
  cases hx:y == n with
  | true =>
   simp only [List.lookup_cons,hx,Option.map_some]
   rw [eq_of_beq hx]
  | false =>
   simp only [List.lookup_cons,hx]
   exact eB g y r
theorem rB (osc:Scope) (n:Str):kL osc n .free=.cell \/ kL osc n .free=.free:=by
 unfold kL
 split
 ·exact .inl rfl
 ·exact .inr rfl
theorem rC {osc:Scope}{n:Str}{k:NameKind} (hk:k ≠ .cell) (h:kL osc n k=.cell \/ kL osc n k=.free):k=.free:=by
 unfold kL at h
 by_cases hc:(k == NameKind.free&&osc.kind == .function&&osc.names.lookup n == some .cell)=true
 ·simp only [Bool.and_eq_true] at hc
  exact eq_of_beq hc.1.1
 ·rw [if_neg hc] at h
  rcases h with h|h
  ·exact absurd h hk
  ·exact h
theorem gB {α:Type}{y:Str}{k:α}:∀ {l:List (Str × α)},l.lookup y=some k->(y,k) ∈ l
 | [],h=>by simp at h
 | (n,k')::r,h=>by
  cases hx:y == n with
  | true =>
   simp only [List.lookup_cons,hx] at h
   rw [eq_of_beq hx,Option.some.inj h];exact .head _
  | false =>
   simp only [List.lookup_cons,hx] at h
   exact .tail _ (gB h)
theorem rD {scope osc:Scope}{y:Str} (h:scope.names.lookup y=some .free):(gf scope osc).names.lookup y=some .cell \/ (gf scope osc).names.lookup y=some .free:=by
 rw [gA,eB,h,Option.map_some]
 rcases rB osc y with e|e
 ·exact .inl (by rw [e])
 ·exact .inr (by rw [e])
theorem rE {scope osc:Scope}{x y:Str} (hn:∀ z ∈ scope.names,z.2=.cell->z.1=x) (h:(gf scope osc).names.lookup y=some .cell \/ (gf scope osc).names.lookup y=some .free):(y,NameKind.free) ∈ scope.names \/ (y=x/\scope.names.lookup x=some .cell):=by
 rw [gA,eB] at h
 cases e:scope.names.lookup y with
 | none=>rw [e] at h;rcases h with h|h <;> cases h
 | some k =>
  rw [e,Option.map_some] at h
  have hm:=gB e
  by_cases hc:k=.cell
  ·subst hc
   have q:y=x:=hn _ hm rfl
   exact .inr ⟨q,by rw [<- q];exact e⟩
  ·have hk:k=.free:=rC hc (h.elim (λz=>.inl (Option.some.inj z)) λz=>.inr (Option.some.inj z))
   rw [hk] at hm
   exact .inl hm
theorem rF {scope osc:Scope}{y:Str} (h:scope.names.lookup y=some .cell):(gf scope osc).names.lookup y=some .cell:=by
 rw [gA,eB,h,Option.map_some]
 unfold kL
 split
 ·rfl
 ·rfl
noncomputable def eH (env:Env):List (Str × NameKind)->List (Str × Addr)->List (Str × Addr)
 | [],acc=>acc
 | (n,k)::r,acc=>if k == .free then eH env r ((n,(env.cells.lookup n).getD 0)::acc) else eH env r acc
theorem iJ {env:Env}:∀ (names:List (Str × NameKind)) (acc:List (Str × Addr)),(∀ y ∈ names,y.2=.free->∃ c,env.cells.lookup y.1=some c) ->
  (forIn names acc λx r=>(match x with|(name,kind)=>if (kind == NameKind.free)=true then do let c <- cellOf env name;pure (ForInStep.yield ((name,c)::r)) else pure (ForInStep.yield r)):Sem (List (Str × Addr)))=pure (eH env names acc)
 | [],acc,_=>rfl
 | (n,k)::r,acc,h=>by
  rw [List.forIn_cons]
  have hr:∀ y ∈ r,y.2=.free->∃ c,env.cells.lookup y.1=some c:=λy hy=>h y (.tail _ hy)
  by_cases hk:(k == NameKind.free)=true
  ·obtain ⟨c,hc⟩:=h (n,k) (.head _) (eq_of_beq hk)
   dsimp only
   rw [if_pos hk]
   have e1:cellOf env n=pure c:=by unfold cellOf;rw [hc]
   rw [e1]
   simp only [pure_bind]
   rw [iJ r _ hr]
   show _=pure (if (k == NameKind.free)=true then _ else _)
   rw [if_pos hk,hc]
   all_goals rfl
  ·dsimp only
   rw [if_neg hk]
   simp only [pure_bind]
   rw [iJ r _ hr]
   show _=pure (if (k == NameKind.free)=true then _ else _)
   rw [if_neg hk]
theorem jP {scope:Scope}{env:Env} (h:∀ y ∈ scope.names,y.2=.free->∃ c,env.cells.lookup y.1=some c):closureFor scope env=pure (eH env scope.names []):=by
 unfold closureFor
 have:=iJ (env:=env) scope.names [] h
 first
  | exact this
  | (rw [bind_pure];exact this)
  | simpa using this
theorem jQ {env:Env}{y:Str}{c:Addr}:∀ (names:List (Str × NameKind)) (acc:List (Str × Addr)),(∀ z ∈ names,z.2=.free->∃ c,env.cells.lookup z.1=some c)->(∀ c,acc.lookup y=some c->env.cells.lookup y=some c) ->
  (eH env names acc).lookup y=some c->env.cells.lookup y=some c
 | [],acc,_,ha,e=>ha c e
 | (n,k)::r,acc,h,ha,e=>by
  have hr:∀ y ∈ r,y.2=.free->∃ c,env.cells.lookup y.1=some c:=λy hy=>h y (.tail _ hy)
  have e':(if (k == NameKind.free)=true then eH env r ((n,(env.cells.lookup n).getD 0)::acc) else eH env r acc).lookup y=some c:=e
  by_cases hk:(k == NameKind.free)=true
  ·rw [if_pos hk] at e'
   refine jQ r _ hr (λc' q=>?_) e'
   cases hx:y == n with
   | true =>
    simp only [List.lookup_cons,hx] at q
    obtain ⟨c0,hc0⟩:=h (n,k) (.head _) (eq_of_beq hk)
    have en:y=n:=eq_of_beq hx
    have hc1:env.cells.lookup n=some c0:=hc0
    rw [hc1] at q
    rw [en,hc1]
    exact q
   | false =>
    simp only [List.lookup_cons,hx] at q
    exact ha c' q
  ·rw [if_neg hk] at e'
   exact jQ r _ hr ha e'
theorem gT {env:Env}{y:Str}:∀ (names:List (Str × NameKind)) (acc:List (Str × Addr)),((y,NameKind.free) ∈ names \/ ∃ c,acc.lookup y=some c)->∃ c,(eH env names acc).lookup y=some c
 | [],acc,h=>by
  rcases h with h|h
  ·simp at h
  ·exact h
 | (n,k)::r,acc,h=>by
  show ∃ c,(if (k == NameKind.free)=true then eH env r ((n,(env.cells.lookup n).getD 0)::acc) else eH env r acc).lookup y=some c
  by_cases hk:(k == NameKind.free)=true
  ·rw [if_pos hk]
   refine gT r _ ?_
   cases hx:y == n with
   | true=>exact .inr ⟨(env.cells.lookup n).getD 0,by simp only [List.lookup_cons,hx]⟩
   | false =>
    rcases h with h|⟨c,h⟩
    ·rcases List.mem_cons.mp h with z|z
     ·have:y=n:=(Prod.mk.inj z).1
      rw [this] at hx
      simp at hx
     ·exact .inl z
    ·exact .inr ⟨c,by simp only [List.lookup_cons,hx];exact h⟩
  ·rw [if_neg hk]
   refine gT r _ ?_
   rcases h with h|h
   ·rcases List.mem_cons.mp h with z|z
    ·have:NameKind.free=k:=(Prod.mk.inj z).2
     rw [<- this] at hk
     simp at hk
    ·exact .inl z
   ·exact .inr h
structure iK (osc:Scope) (N:List Str) (scope:Scope) (x:Str) (fvs:List Str) (js:List Nat):Prop where
 cells:∀ y ∈ scope.names,y.2=.cell->y.1=x
 once:scope.names.lookup x=some .local/\(scope.names.filter λy=>y.2 == .cell)=[] \/ scope.names.lookup x=some .cell/\(scope.names.filter λy=>y.2 == .cell)=[(x,.cell)]
 xf:∀ y ∈ scope.names,y.2=.free->y.1 ≠ x
 kind:scope.kind=.function
 names:∀ y ∈ scope.names,y.2=.local->scope.names.lookup y.1=some .local
 nd:(x::fvs).Nodup
 out:∀ y ∈ scope.names,y.2=.free->osc.names.lookup y.1=some .cell \/ osc.names.lookup y.1=some .free
 slots:(js.map λj=>N[j]?)=fvs.map some
 free:∀ y ∈ fvs,scope.names.lookup y=some .free
structure qc (osc:Scope) (N:List Str) (scope:Scope) (x:Str) (ys fvs:List Str) (js:List Nat):Prop where
 cells:∀ y ∈ scope.names,y.2=.cell->y.1=x
 once:scope.names.lookup x=some .local/\(scope.names.filter λy=>y.2 == .cell)=[] \/ scope.names.lookup x=some .cell/\(scope.names.filter λy=>y.2 == .cell)=[(x,.cell)]
 xf:∀ y ∈ scope.names,y.2=.free->y.1 ≠ x
 kind:scope.kind=.function
 names:∀ y ∈ scope.names,y.2=.local->scope.names.lookup y.1=some .local
 nd:(x::(ys ++ fvs)).Nodup
 out:∀ y ∈ scope.names,y.2=.free->osc.names.lookup y.1=some .cell \/ osc.names.lookup y.1=some .free
 slots:(js.map λj=>N[j]?)=fvs.map some
 free:∀ y ∈ fvs,scope.names.lookup y=some .free
theorem iK.g {osc:Scope}{N:List Str}{scope:Scope}{x:Str}{fvs:List Str}{js:List Nat} (h:iK osc N scope x fvs js):qc osc N scope x [] fvs js:=⟨h.cells,h.once,h.xf,h.kind,h.names,h.nd,h.out,h.slots,h.free⟩
noncomputable def iL (scope:Scope) (x:Str) (C:Addr):List (Str × Addr):=if scope.names.lookup x=some .cell then [(x,C + 1)] else []
noncomputable def Cx.blk (X:Cx) (x:Str) (fvs:List Str) (scope:Scope) (s₁:Shared) (H₁:Hp) (C:Addr) (fp:List Addr):Cx :=
 { X with N:=x::fvs,s₀:=s₁,H₀:=H₁,env:=compEnvC scope (iL scope x C ++ eH X.env scope.names []) C X.env,outer:=X.stack,ex:=fp,fn:=λy=>decide (y=x/\scope.names.lookup x=some .cell),pn:=[],xe:=λ_ _=>False }
theorem jR {M:Model}{A:Around}{E:Value->Shared->Prop}:∀ {names:List (Str × NameKind)}{acc:List (Str × Addr)}{s:Shared}{Q:List (Str × Addr)->Shared->Prop},(names.filter λy=>y.2 == .cell)=[]->Q acc s ->
  wpAny M A (forIn names acc λx r=>(match x with|(name,kind)=>if (kind == NameKind.cell)=true then do let c <- alloc { cls:=.type "cell",data:=.cell none };pure (ForInStep.yield ((name,c)::r)) else pure (ForInStep.yield r)):Sem (List (Str × Addr))) Q E s
 | [],_,_,_,_,h=>wpAny_pure h
 | (n,k)::r,acc,s,Q,hf,h=>by
  rw [List.forIn_cons]
  have hk:(k == NameKind.cell)=false:=by
   cases q:(k == NameKind.cell) with
   | false=>rfl
   | true=>rw [List.filter_cons_of_pos (by exact q)] at hf;cases hf
  rw [List.filter_cons_of_neg (by rw [hk];decide)] at hf
  dsimp only
  rw [if_neg (by rw [hk];decide)]
  exact wpAny_bind (wpAny_pure (jR hf h))
theorem k4 {M:Model}{A:Around}{E:Value->Shared->Prop}{x:Str}:∀ {names:List (Str × NameKind)}{acc:List (Str × Addr)}{s:Shared}{Q:List (Str × Addr)->Shared->Prop},(names.filter λy=>y.2 == .cell)=[(x,.cell)] ->
  Q ((x,s.heap.objs.size)::acc) { s with heap:=s.heap.push { cls:=.type "cell",data:=.cell none } } ->
  wpAny M A (forIn names acc λx r=>(match x with|(name,kind)=>if (kind == NameKind.cell)=true then do let c <- alloc { cls:=.type "cell",data:=.cell none };pure (ForInStep.yield ((name,c)::r)) else pure (ForInStep.yield r)):Sem (List (Str × Addr))) Q E s
 | [],_,_,_,hf,_=>by cases hf
 | (n,k)::r,acc,s,Q,hf,h=>by
  rw [List.forIn_cons]
  dsimp only
  cases hk:(k == NameKind.cell) with
  | false =>
   rw [List.filter_cons_of_neg (by rw [hk];decide)] at hf
   rw [if_neg (by decide)]
   exact wpAny_bind (wpAny_pure (k4 hf h))
  | true =>
   rw [List.filter_cons_of_pos (by exact hk)] at hf
   obtain ⟨e1,e2⟩:=List.cons.inj hf
   cases e1
   rw [if_pos rfl]
   exact wpAny_bind (wpAny_bind (wpAny_alloc (wpAny_pure (jR e2 h))))
theorem oW {M:Model}{A:Around}{E:Value->Shared->Prop}{scope:Scope}{x:Str}{globals:Addr}{cl:List (Str × Addr)}{qual:Str}{env:Env}{s:Shared}{Q:Env->Shared->Prop} (hk:scope.kind=.function)
  (ho:scope.names.lookup x=some .local/\(scope.names.filter λy=>y.2 == .cell)=[] \/ scope.names.lookup x=some .cell/\(scope.names.filter λy=>y.2 == .cell)=[(x,.cell)])
  (h:∀ h' m,h'.Ns s.heap.objs.size m->(∀ b u,s.heap.get? b=some u->h'.get? b=some u)->(scope.names.lookup x=some .cell->h'.IsCell (s.heap.objs.size + 1) none)->Q (newEnv scope s.heap.objs.size globals (iL scope x s.heap.objs.size ++ cl) qual none .none (some env) builtinsNs) { s with heap:=h' }) :
  wpAny M A (newFunctionEnv scope globals cl [] qual none .none (some env)) Q E s:=by
 rcases ho with ⟨h1,h2⟩|⟨h1,h2⟩
 ·refine wpAny_newFunctionEnv (λy hy z=>?_) (by intro y hy;simp at hy) (λh' hns hsb=>?_) hk
  ·have:y ∈ scope.names.filter λy=>y.2 == .cell:=List.mem_filter.mpr ⟨hy,by rw [z];rfl⟩
   rw [h2] at this
   cases this
  ·have q:=h h' _ hns (λb u e=>hsb.extBut b u (Nat.ne_of_lt (Heap.lt_size e)) (Heap.get?_push_of_some _ e)) λz=>by rw [h1] at z;cases z
   unfold iL at q
   rw [if_neg (by rw [h1];simp)] at q
   exact q
 ·unfold newFunctionEnv
  refine wpAny_bind (wpAny_alloc (wpAny_bind (k4 h2 ?_)))
  have hn:=Heap.Ns.new s.heap (.type "dict")
  have hs:(s.heap.push { cls:=.type "dict",data:=.dict #[] }).objs.size=s.heap.objs.size + 1:=Heap.size_push _ _
  have q:=h ((s.heap.push { cls:=.type "dict",data:=.dict #[] }).push { cls:=.type "cell",data:=.cell none }) _ (hn.keeps λb o e=>Heap.get?_push_of_some _ e) (λb u e=>Heap.get?_push_of_some _ (Heap.get?_push_of_some _ e)) λ_=>⟨_,by rw [<- hs];exact Heap.get?_push_size _ rfl,rfl⟩
  unfold iL at q
  rw [if_pos h1] at q
  rw [<- hs] at q
  exact wpAny_bind (wpAny_pure (wpAny_pure q))
noncomputable def jS (js:List Nat) (σ:St):St:=none::js.map λj=>(σ[j]?).join
noncomputable def rG (n:Nat) (js:List Nat) (σ:St):St:=none::(List.replicate n none ++ js.map λj=>(σ[j]?).join)
noncomputable def PF (X:Cx) (ifs:List Expr) (t:TT):Prop :=
 ∀ (pins:List (Addr × Obj)) (s:Shared) (σ:St) (H:Hp) (Q:Bool->Hp->Prop),Inv X pins σ H s->t σ H Q ->
  wpAny (model X.prog X.w) X.A (forIn ifs true λc r=>if r=true then do let ok <- isTrue c X.env (eval c X.env);pure (ForInStep.yield ok) else pure (ForInStep.yield r)) (TP X pins σ Q) X.xe s
noncomputable def CG:TT:=λ_ H Q=>Q true H
theorem yK {X:Cx}:PF X [] CG:=λ_ _ _ H _ I h=>wpAny_tests_nil ⟨H,I,h⟩
theorem yL {X:Cx}{c:Expr}{t:TT} (h:PT X c t):PF X [c] t:=λpins s σ H Q I q=>wpAny_tests_one (h pins s σ H Q I q)
section
variable {prog:Program}{w:World}{A:Around}{R:Result->Shared->Prop}{s:Shared}
theorem rH {elt target iter:Expr}{ifs:List Expr}{scope:Scope}{pos:Pos}{it acc:Value}{env:Env} (J:Nat->Shared->Prop)
  (turn:∀ n s,J n s->wpAny (model prog w) A (pyNext it) (λr s1=>match r with
   | none=>R (.ok .next) s1
   | some v=>wpAny (model prog w) A (letOwnedTupleGo target it v) (λ_ s2=>wpAny (model prog w) A (assign target env v) (λ_ s3 =>
     wpAny (model prog w) A (forIn ifs true λc r=>if r=true then do let ok <- isTrue c env (eval c env);pure (ForInStep.yield ok) else pure (ForInStep.yield r)) (λok s4 =>
      if ok=true then wpAny (model prog w) A (eval elt env) (λx s5 =>
       wpAny (model prog w) A (call (.builtin "list.append") [acc,x]) (λ_ s6=>∃ m,m < n/\J m s6) (λ_ _=>False) s5) (λ_ _=>False) s4
      else ∃ m,m < n/\J m s4) (λ_ _=>False) s3) (λ_ _=>False) s2) (λ_ _=>False) s1) (λ_ _=>False) s)
  (n:Nat) (h:J n s):codeAny (model prog w) A (.compLoop (.ListComp elt [⟨target,iter,ifs,0⟩] scope pos) 0 it acc env) R s:=by
 have up:∀ {α:Type}{t:Sem α}{Q:α->Shared->Prop}{E:Value->Shared->Prop}{s:Shared},wpAny (model prog w) A t Q (λ_ _=>False) s->wpAny (model prog w) A t Q E s:=λq=>wpAny_mono q (λ_ _ z=>z) λ_ _ z=>z.elim
 refine codeAny_loop rfl J (λn s hJ=>?_) n h
 show wpAny _ A ((compTurn (.ListComp elt [⟨target,iter,ifs,0⟩] scope pos) 0 it acc env).onRaise (λx=>do noteFrame x env;theTreesLotGoes x)) _ _ s
 refine wpAny_noted ?_
 rw [compTurn_list]
 refine wpAny_bind (wpAny_standAt (wpAny_bind (wpAny_mono (up (turn n s hJ)) (λr s1 h1=>?_) λ_ _ z=>z)))
 cases r with
 | none=>exact wpAny_pure h1
 | some v =>
  refine wpAny_bind (wpAny_mono (up h1) (λ_ s2 h2=>?_) λ_ _ z=>z)
  refine wpAny_bind (wpAny_mono (up h2) (λ_ s3 h3=>wpAny_bind (wpAny_mono (up h3) (λok s4 h4=>?_) λ_ _ z=>z)) λ_ _ z=>z)
  cases ok with
  | false=>exact wpAny_pure ⟨rfl,h4⟩
  | true=>exact wpAny_bind (wpAny_bind (wpAny_mono (up h4) (λx s5 h5=>wpAny_bind (wpAny_mono (up h5) (λ_ s6 h6=>wpAny_pure (wpAny_pure ⟨rfl,h6⟩)) λ_ _ z=>z)) λ_ _ z=>z))
end
noncomputable def qe (J:It) (σ0:St) (H1:Hp) (tt:TT) (te:TE) (D:Addr) (Q:VK):Prop :=
 ∃ W:Nat->Nat->St->Hp->Prop,(∃ m,W 0 m σ0 (upd H1 D (.lst [])))/\∀ i m σ' H',W i m σ' H' ->
  (J.stop i H'/\Q (.ref D) H') \/ (J.go i H'/\∃ N:St->Hp->Prop,(∀ σ2 H2,N σ2 H2->∃ m',m' < m/\W (i + 1) m' σ2 H2)/\∀ x H2,J.yld i H' x H2 ->
   tt (σ'.set 0 (some x)) H2 λb H3=>if b=true then te (σ'.set 0 (some x)) H3 λy H4=>∃ ys,H4 D=some (.lst ys)/\ys.length < sizeLine/\N (σ'.set 0 (some x)) (upd H4 D (.lst (ys ++ [y]))) else N (σ'.set 0 (some x)) H3)
noncomputable def tO (J:It) (g:TG) (σ0:St) (H1:Hp) (tt:TT) (te:TE) (D:Addr) (Q:VK):Prop :=
 ∃ W:Nat->Nat->St->Hp->Prop,(∃ m,W 0 m σ0 (upd H1 D (.lst [])))/\∀ i m σ' H',W i m σ' H' ->
  (J.stop i H'/\Q (.ref D) H') \/ (J.go i H'/\∃ N:St->Hp->Prop,(∀ σ2 H2,N σ2 H2->∃ m',m' < m/\W (i + 1) m' σ2 H2)/\∀ x H2,J.yld i H' x H2 ->
   g x σ' H2 λσ3 H3=>tt σ3 H3 λb H4=>if b=true then te σ3 H4 λy H5=>∃ ys,H5 D=some (.lst ys)/\ys.length < sizeLine/\N σ3 (upd H5 D (.lst (ys ++ [y]))) else N σ3 H4)
theorem qe.g {J:It}{σ0:St}{H1:Hp}{tt:TT}{te:TE}{D:Addr}{Q:VK} (h:qe J σ0 H1 tt te D Q):tO J (cD 0) σ0 H1 tt te D Q:=h
noncomputable def tP (wi:TI) (js:List Nat) (tt:TT) (te:TE):TE:=λσ H Q=>wi σ H λJ H1=>∀ D,H1 D=none->qe J (jS js σ) H1 tt te D Q
section
variable {X:Cx}{elt iter:Expr}{x:Str}{px:Pos}{ifs:List Expr}{scope:Scope}{pos:Pos}{fvs:List Str}{js:List Nat}{wi:TI}{tt:TT}{te:TE}
theorem oX {tg:Expr}{g:TG}{ys:List Str} (hsc:qc X.env.scope X.N scope x ys fvs js) (hc:X.calm=true) (hg:∀ s₁ H₁ C fp,PG (X.blk x (ys ++ fvs) scope s₁ H₁ C fp) tg g)
  (ht:∀ s₁ H₁ C fp,PF (X.blk x (ys ++ fvs) scope s₁ H₁ C fp) ifs tt) (he:∀ s₁ H₁ C fp,PE (X.blk x (ys ++ fvs) scope s₁ H₁ C fp) elt te)
  {pins:List (Addr × Obj)}{σ:St}{H2:Hp}{s2:Shared}{Q:VK}{it:Addr}{fp:List Addr}{tn:Nat->Heap->Prop}{J:It}{RR:Value->Addr->Result->Shared->Prop}
  (I2:Inv X pins σ H2 s2) (T:oq X.prog X.w X.K tg J fp it tn) (st2:tn 0 s2.heap) (f2:∀ b ∈ fp,iz X pins H2 b)
  (hh:∀ D,H2 D=none->tO J g (rG ys.length js σ) H2 tt te D Q)
  (fin:∀ (D C:Addr) (H':Hp) (s':Shared),Inv X pins σ H' s'->(∃ m,s'.heap.Ns C m)->H' C=none->C ≠ X.env.locals->X.s₀.heap.objs.size <= C->(∀ y c,X.env.cells.lookup y=some c->c ≠ C)->(∀ p ∈ X.pn ++ pins,p.1 ≠ C)->Q (.ref D) H' ->
   RR (.ref D) C (.ok .next) s') {E:Value->Shared->Prop} :
  wpAny (model X.prog X.w) X.A (newList []) (λacc s3=>wpAny (model X.prog X.w) X.A (newFunctionEnv scope X.env.globals (eH X.env scope.names []) [] X.env.qual none .none (some X.env)) (λcenv s4 =>
   codeAny (model X.prog X.w) X.A (.compStart (.ListComp elt [⟨tg,iter,ifs,0⟩] scope pos) 0 (.ref it) acc { cenv with scope:=relabel scope X.env }) (RR acc cenv.locals) s4) E s3) E s2:=by
 have fr:∀ y ∈ scope.names,y.2=.free->∃ c,X.env.cells.lookup y.1=some c:=λy hy hk=>I2.ok.has y.1 (hsc.out y hy hk)
 have sub:∀ y c,(eH X.env scope.names []).lookup y=some c->X.env.cells.lookup y=some c:=λy c e=>jQ scope.names [] fr (λ_ q=>by simp at q) e
 refine wpAny_newObj_type (oW (x:=x) hsc.kind hsc.once λh1 m1 hns1 hsb1 hcl1=>?_)
 dsimp only at hns1 hsb1 hcl1 ⊢
 have I3:Inv X pins σ (upd H2 s2.heap.objs.size (.lst [])) { s2 with heap:=s2.heap.push { cls:=.type "list",data:=.seq ([]:List Value).toArray },toks:=s2.toks }:=I2.lnew (ys:=[]) (its:=[]) .nil (Nat.zero_le _)
 generalize hG:s2.heap.push { cls:=.type "list",dict:=none,data:=.seq ([]:List Value).toArray }=G at hns1 hsb1 hcl1 I3 ⊢
 have hC:G.objs.size=s2.heap.objs.size + 1:=by rw [<- hG,Heap.size_push]
 obtain ⟨W,⟨m0,w0⟩,turn⟩:=hh s2.heap.objs.size I2.fresh
 have up:∀ b u,G.get? b=some u->h1.get? b=some u:=hsb1
 have look:∀ {y:Str}{c:Addr},(iL scope x G.objs.size ++ eH X.env scope.names []).lookup y=some c->(y=x/\scope.names.lookup x=some .cell/\c=G.objs.size + 1) \/ (eH X.env scope.names []).lookup y=some c:=λ{y c} e=>by
  unfold iL at e
  by_cases q:scope.names.lookup x=some .cell
  ·rw [if_pos q] at e
   by_cases z:(y == x)=true
   ·rw [List.cons_append,List.lookup_cons,z] at e
    exact .inl ⟨eq_of_beq z,q,(Option.some.inj e).symm⟩
   ·rw [List.cons_append,List.lookup_cons,(Bool.not_eq_true _).mp z] at e
    exact .inr e
  ·rw [if_neg q] at e
   exact .inr e
 have Cfr:∀ {H':Hp}{s':Shared},Inv X pins σ H' s'->True:=λ_=>trivial
 have nC:(upd H2 s2.heap.objs.size (.lst [])) G.objs.size=none:=I3.hok.fresh (Nat.le_refl _)
 have cL:G.objs.size ≠ X.env.locals:=Nat.ne_of_gt I3.lt
 have cS:X.s₀.heap.objs.size <= G.objs.size:=I3.sz
 have cC:∀ y c,X.env.cells.lookup y=some c->c ≠ G.objs.size:=λy c e z=>by
  obtain ⟨v,q⟩:=I3.cell y c e
  exact absurd (show c < G.objs.size from q.lt) (by rw [z];exact Nat.lt_irrefl _)
 have cP:∀ p ∈ X.pn ++ pins,p.1 ≠ G.objs.size:=λp hp z=>absurd (show p.1 < G.objs.size from Heap.lt_size (I3.pin p hp).1) (by rw [z];exact Nat.lt_irrefl _)
 have fpl:∀ b ∈ fp,b < s2.heap.objs.size:=λb hb=>by
  obtain ⟨o,e,_⟩:=T.obj 0 _ st2 b hb
  exact Heap.lt_size e
 have ok:(X.blk x (ys ++ fvs) scope { s2 with heap:=G,toks:=s2.toks } (upd H2 s2.heap.objs.size (.lst [])) G.objs.size fp).Ok:=by
  have hb:∀ b ∈ fp,b ∉ frs X.stack:=λb hb z=>(List.mem_cons.mp (I2.stkSub b z)).elim (f2 b hb).2.1 (f2 b hb).2.2.1
  exact {
   mod:=I3.ok.mod
   kind:=by show (relabel scope X.env).kind=_;exact hsc.kind
   glob:=I3.ok.glob
   blt:=I3.ok.blt
   above:=Nat.le_refl _
   inj:=λy z c e1 e2=>by
    have lt:∀ {y:Str},(eH X.env scope.names []).lookup y=some c->c < G.objs.size:=λ{y} e=>by
     obtain ⟨v,q⟩:=I3.cell y c (sub y c e)
     exact q.lt
    rcases look e1 with ⟨a1,_,a2⟩|a1
    ·rcases look e2 with ⟨b1,_,_⟩|b1
     ·rw [a1,b1]
     ·exact absurd (lt b1) (by rw [a2];exact Nat.not_lt.mpr (Nat.le_succ _))
    ·rcases look e2 with ⟨_,_,b2⟩|b1
     ·exact absurd (lt a1) (by rw [b2];exact Nat.not_lt.mpr (Nat.le_succ _))
     ·exact I3.ok.inj y z c (sub y c a1) (sub z c b1)
   has:=λy hy=>by
    show ∃ c,(iL scope x G.objs.size ++ eH X.env scope.names []).lookup y=some c
    unfold iL
    rcases rE hsc.cells hy with hm|⟨e,q⟩
    ·obtain ⟨c,ec⟩:=gT (env:=X.env) scope.names [] (.inl hm)
     by_cases q:scope.names.lookup x=some .cell
     ·have z:(y == x)=false:=beq_eq_false_iff_ne.mpr (hsc.xf _ hm rfl)
      exact ⟨c,by rw [if_pos q,List.cons_append,List.lookup_cons,z];exact ec⟩
     ·exact ⟨c,by rw [if_neg q];exact ec⟩
    ·subst e
     exact ⟨G.objs.size + 1,by rw [if_pos q,List.cons_append,List.lookup_cons,beq_self_eq_true]⟩
   cab:=λy c h e=>by
    obtain ⟨h1,h2⟩:=of_decide_eq_true h
    have e':(iL scope x G.objs.size ++ eH X.env scope.names []).lookup y=some c:=e
    unfold iL at e'
    rw [if_pos h2,h1,List.cons_append,List.lookup_cons,beq_self_eq_true] at e'
    rw [<- Option.some.inj e']
    exact Nat.le_succ _
   hd:=I3.ok.hd
   frames:=I3.ok.frames
   stk:=.inl rfl
   exf:=λb hb'=>⟨Nat.ne_of_lt (show b < G.objs.size from Nat.lt_of_lt_of_le (fpl b hb') (by rw [hC];exact Nat.le_succ _)),λy c e=>by
    rcases look e with ⟨_,_,a⟩|a
    ·rw [a,hC];exact Nat.ne_of_gt (Nat.lt_of_lt_of_le (fpl b hb') (Nat.le_trans (Nat.le_succ _) (Nat.le_succ _)))
    ·exact (f2 b hb').2.2.2.2.1 y c (sub y c a)⟩
   bs:=I3.bs
   bsz:=Nat.le_trans I3.ok.bsz I3.sz
   noex:=λb o e hb'=>by
    have q:=(f2 b hb').2.2.2.1
    rcases q with q|q
    ·exact I3.ok.noex b o e q
    ·exact absurd (Nat.lt_of_lt_of_le (Heap.lt_size e) (Nat.le_trans I3.ok.bsz q)) (Nat.lt_irrefl _)
   exfs:=hb
   funs:=I3.stack
   frf:=I3.stkFree }
 have hlen:(rG ys.length js σ).length=(x::(ys ++ fvs)).length:=by
  have e:=congrArg List.length hsc.slots
  simp only [List.length_map] at e
  simp [rG,e]
 have I4:Inv (X.blk x (ys ++ fvs) scope { s2 with heap:=G,toks:=s2.toks } (upd H2 s2.heap.objs.size (.lst [])) G.objs.size fp) [] (rG ys.length js σ) (upd H2 s2.heap.objs.size (.lst [])) { s2 with heap:=h1,toks:=s2.toks }:=by
  refine ⟨ok,rfl,I3.bare,Un.kept up,⟨_,hns1,λi y v e1 e2 e3=>?_⟩,λy c e=>?_,nC,λy c e=>(look e).elim (λ⟨_,_,a⟩=>by rw [a];exact I3.hok.fresh (Nat.le_succ _)) λa=>I3.freeC y c (sub y c a),λp hp=>by simp [Cx.blk] at hp,I3.hok.kept up,hlen⟩
  ·cases i with
   | zero=>simp [rG] at e2
   | succ i0 =>
    have e10:(ys ++ fvs)[i0]?=some y:=e1
    have e20:(List.replicate ys.length none ++ js.map λj=>(σ[j]?).join)[i0]?=some (some v):=by simpa [rG] using e2
    by_cases hlt:i0 < ys.length
    ·rw [List.getElem?_append_left (by simpa using hlt),List.getElem?_replicate,if_pos hlt] at e20
     cases e20
    rw [List.getElem?_append_right (by simpa using Nat.le_of_not_lt hlt),List.length_replicate] at e20
    rw [List.getElem?_append_right (Nat.le_of_not_lt hlt)] at e10
    generalize i0 - ys.length=i at e10 e20
    have e1':fvs[i]?=some y:=e10
    have hm:y ∈ fvs:=List.mem_of_getElem? e1'
    have hfy:=hsc.free y hm
    have hmy:(y,NameKind.free) ∈ scope.names:=gB hfy
    have e2':(js.map λj=>(σ[j]?).join)[i]?=some (some v):=e20
    rw [List.getElem?_map] at e2'
    cases ej:js[i]? with
    | none=>rw [ej] at e2';cases e2'
    | some j =>
     rw [ej] at e2'
     have e3':(σ[j]?).join=some v:=Option.some.inj e2'
     have e4:σ[j]?=some (some v):=by
      cases q:σ[j]? with
      | none=>rw [q] at e3';cases e3'
      | some z=>rw [q] at e3';exact congrArg some e3'
     have e5:X.N[j]?=some y:=by
      have q:=congrArg (λl=>l[i]?) hsc.slots
      simp only [List.getElem?_map,ej,e1',Option.map_some] at q
      exact Option.some.inj q
     obtain ⟨m,hn,hl⟩:=I3.loc
     have hout:=hsc.out (y,.free) hmy rfl
     obtain ⟨u,ru,lk⟩:=hl j y v e5 e4 (.inr hout)
     refine ⟨u,ru,.inr ⟨?_,?_⟩⟩
     ·show (relabel scope X.env).names.lookup y=_ \/ (relabel scope X.env).names.lookup y=_
      exact rD (osc:=X.env.scope) hfy
     ·obtain ⟨c,ec⟩:=gT (env:=X.env) scope.names [] (.inl hmy)
      have nx:(y == x)=false:=beq_eq_false_iff_ne.mpr (hsc.xf _ hmy rfl)
      refine ⟨c,?_,?_⟩
      ·show (iL scope x G.objs.size ++ eH X.env scope.names []).lookup y=some c
       unfold iL
       split
       ·rw [List.cons_append,List.lookup_cons,nx];exact ec
       ·exact ec
      rcases lk with ⟨z,_⟩|⟨_,c',ec',q⟩
      ·have z':X.env.scope.names.lookup y=some .local:=z
       rcases hout with w|w
       ·rw [show X.env.scope.names.lookup y=some .cell from w] at z';cases z'
       ·rw [show X.env.scope.names.lookup y=some .free from w] at z';cases z'
      ·have:=sub y c ec
       rw [ec'] at this
       cases this
       obtain ⟨o,ho,hd⟩:=q
       exact ⟨o,up _ _ ho,hd⟩
  ·rcases look e with ⟨_,q,a⟩|a
   ·exact ⟨none,by rw [a];exact hcl1 q⟩
   ·obtain ⟨v,o,ho,hd⟩:=I3.cell y c (sub y c a)
    exact ⟨v,o,up _ _ ho,hd⟩
 have st4:tn 0 h1:=T.keep 0 _ _ st2 λb hb o e=>up b o (by rw [<- hG];exact Heap.get?_push_of_some _ e)
 have fr4:∀ b ∈ fp,(upd H2 s2.heap.objs.size (.lst [])) b=none:=λb hb=>by
  rw [af (Nat.ne_of_lt (fpl b hb))];exact (f2 b hb).1
 have stat:∀ {H':Hp},(∀ b ∈ fp,H' b=none)->∀ b ∈ fp,iz (X.blk x (ys ++ fvs) scope { s2 with heap:=G,toks:=s2.toks } (upd H2 s2.heap.objs.size (.lst [])) G.objs.size fp) [] H' b:=λhn b hb =>
  ⟨hn b hb,(ok.exf b hb).1,ok.exfs b hb,.inl hb,(ok.exf b hb).2,λp hp=>by simp [Cx.blk] at hp⟩
 have hch:∀ b ∈ fp,(b ∈ X.ex \/ X.s₀.heap.objs.size <= b)/\b ≠ X.env.locals/\(∀ x c,X.env.cells.lookup x=some c->c ≠ b)/\∀ p ∈ X.pn ++ pins,p.1 ≠ b:=λb hb =>
  let ⟨_,q1,_,q2,q3,q4⟩:=f2 b hb;⟨q2,q1,q3,q4⟩
 have loop:∀ s5:Shared,s5={ s2 with heap:=h1,toks:=s2.toks } ->
   codeAny (model X.prog X.w) X.A (.compLoop (.ListComp elt [⟨tg,iter,ifs,0⟩] scope pos) 0 (.ref it) (.ref s2.heap.objs.size) (compEnvC scope (iL scope x G.objs.size ++ eH X.env scope.names []) G.objs.size X.env)) (RR (.ref s2.heap.objs.size) G.objs.size) s5:=by
  rintro s5 rfl
  refine rH (λn s'=>∃ i σ' H',Inv (X.blk x (ys ++ fvs) scope { s2 with heap:=G,toks:=s2.toks } (upd H2 s2.heap.objs.size (.lst [])) G.objs.size fp) [] σ' H' s'/\tn i s'.heap/\(∀ b ∈ fp,H' b=none)/\W i n σ' H') ?_ m0 ⟨0,_,_,I4,st4,fr4,w0⟩
  rintro n s6 ⟨i,σ6,H6,I6,st6,fr6,w6⟩
  rcases turn i n σ6 H6 w6 with ⟨stop,qn⟩|⟨go,N,hN,step⟩
  ·refine thn (T.done (X.blk x (ys ++ fvs) scope { s2 with heap:=G,toks:=s2.toks } (upd H2 s2.heap.objs.size (.lst [])) G.objs.size fp) rfl rfl rfl hc i [] s6 σ6 H6 _ I6 (stat fr6) st6 stop) λr s7 ⟨hr,I7⟩=>?_
   subst hr
   have I8:Inv X pins σ H6 s7:=I3.call' (ch:=fp) I7.os I7.base I7.hok I7.bare hch
   obtain ⟨m,hn,_⟩:=I7.loc
   exact fin _ _ H6 s7 I8 ⟨m,hn⟩ I7.free cL cS cC cP qn
  ·refine thn (T.item (X.blk x (ys ++ fvs) scope { s2 with heap:=G,toks:=s2.toks } (upd H2 s2.heap.objs.size (.lst [])) G.objs.size fp) rfl rfl rfl hc i [] s6 σ6 H6 _ I6 (stat fr6) st6 go) λr s7 ⟨u,hr,h7⟩=>?_
   subst hr
   refine thn h7 λ_ s8 ⟨x8,H8,I8,r8,y8,st8,fr8⟩=>?_
   have I8':=I8.pinned (stat fr8) (T.obj _ _ st8)
   refine thn (hg _ _ _ _ _ s8 σ6 H8 x8 u _ I8' r8 (step x8 H8 y8)) λ_ s9 ⟨σ9,H9,I9,q9⟩=>?_
   refine thn (ht _ _ _ _ _ s9 _ H9 _ I9 q9) λok' s10 ⟨H10,I10,q10⟩=>?_
   have again:∀ {s11:Shared}{H11:Hp},Inv (X.blk x (ys ++ fvs) scope { s2 with heap:=G,toks:=s2.toks } (upd H2 s2.heap.objs.size (.lst [])) G.objs.size fp) ([] ++ jt fp s8.heap) σ9 H11 s11->N σ9 H11 ->
     ∃ m,m < n/\∃ i σ' H',Inv (X.blk x (ys ++ fvs) scope { s2 with heap:=G,toks:=s2.toks } (upd H2 s2.heap.objs.size (.lst [])) G.objs.size fp) [] σ' H' s11/\tn i s11.heap/\(∀ b ∈ fp,H' b=none)/\W i m σ' H':=λ{s11 H11} I11 n11=>by
    obtain ⟨m',hm,w11⟩:=hN _ H11 n11
    refine ⟨m',hm,i + 1,_,H11,I11.unpinned,T.keep _ _ _ st8 λb hb o e=>(I11.pin (b,o) (List.mem_append_right _ (List.mem_append_right _ (eY hb e)))).1,λb hb=>?_,w11⟩
    obtain ⟨o,e,d⟩:=T.obj _ _ st8 b hb
    exact (I11.pin (b,o) (List.mem_append_right _ (List.mem_append_right _ (eY hb e)))).2.1
   cases ok' with
   | false =>
    rw [if_neg (by simp)] at q10 ⊢
    exact again I10 q10
   | true =>
    rw [if_pos rfl] at q10 ⊢
    refine thn (he _ _ _ _ _ s10 _ H10 _ I10 q10) λy s11 ⟨yv,H11,I11,ry,ys,hys,hl,n11⟩=>?_
    refine thn (fT _ s11 _ H11 (.ref s2.heap.objs.size) [yv] (.ref s2.heap.objs.size) [y] (λ_ H12=>N σ9 H12) I11 rfl (.cons ry .nil) ⟨_,ys,yv,rfl,rfl,hys,hl,n11⟩) λ_ s12 ⟨_,H12,I12,_,n12⟩=>again I12 n12
 exact codeAny_compStart_list (loop _ rfl) (T.self _ 0 _ _ _ st4 (loop _ rfl))
theorem k5 (hsc:iK X.env.scope X.N scope x fvs js) (hc:X.calm=true)
  (ht:∀ s₁ H₁ C fp,PF (X.blk x fvs scope s₁ H₁ C fp) ifs tt) (he:∀ s₁ H₁ C fp,PE (X.blk x fvs scope s₁ H₁ C fp) elt te)
  {pins:List (Addr × Obj)}{σ:St}{H2:Hp}{s2:Shared}{Q:VK}{it:Addr}{fp:List Addr}{tn:Nat->Heap->Prop}{J:It}{RR:Value->Addr->Result->Shared->Prop}
  (I2:Inv X pins σ H2 s2) (T:oq X.prog X.w X.K (.Name x px) J fp it tn) (st2:tn 0 s2.heap) (f2:∀ b ∈ fp,iz X pins H2 b)
  (hh:∀ D,H2 D=none->qe J (jS js σ) H2 tt te D Q)
  (fin:∀ (D C:Addr) (H':Hp) (s':Shared),Inv X pins σ H' s'->(∃ m,s'.heap.Ns C m)->H' C=none->C ≠ X.env.locals->X.s₀.heap.objs.size <= C->(∀ y c,X.env.cells.lookup y=some c->c ≠ C)->(∀ p ∈ X.pn ++ pins,p.1 ≠ C)->Q (.ref D) H' ->
   RR (.ref D) C (.ok .next) s') {E:Value->Shared->Prop} :
  wpAny (model X.prog X.w) X.A (newList []) (λacc s3=>wpAny (model X.prog X.w) X.A (newFunctionEnv scope X.env.globals (eH X.env scope.names []) [] X.env.qual none .none (some X.env)) (λcenv s4 =>
   codeAny (model X.prog X.w) X.A (.compStart (.ListComp elt [⟨.Name x px,iter,ifs,0⟩] scope pos) 0 (.ref it) acc { cenv with scope:=relabel scope X.env }) (RR acc cenv.locals) s4) E s3) E s2 :=
 oX (ys:=[]) hsc.g hc (λs₁ H₁ C fp=>je (X:=X.blk x fvs scope s₁ H₁ C fp) (i:=0) (x:=x) (pos:=px) hsc.nd rfl (hsc.once.elim (λq=>.inl (lookup_relabel_local q.1)) λq=>.inr (rF q.1)) (hsc.once.elim (λq=>.inr (lookup_relabel_local q.1)) λq=>.inl (decide_eq_true ⟨rfl,q.1⟩))) ht he I2 T st2 f2 (λD hD=>(hh D hD).g) fin
theorem wC (hsc:iK X.env.scope X.N scope x fvs js) (hc:X.calm=true) (hi:PI X (.Name x px) iter wi)
  (ht:∀ s₁ H₁ C fp,PF (X.blk x fvs scope s₁ H₁ C fp) ifs tt) (he:∀ s₁ H₁ C fp,PE (X.blk x fvs scope s₁ H₁ C fp) elt te)
  (hs:∀ v,foldedSetIterable iter X.env v=pure v:=by intro _;rfl):PE X (.ListComp elt [⟨.Name x px,iter,ifs,0⟩] scope pos) (tP wi js tt te):=by
 intro pins s σ H Q I h
 have fr:∀ y ∈ scope.names,y.2=.free->∃ c,X.env.cells.lookup y.1=some c:=λy hy hk=>I.ok.has y.1 (hsc.out y hy hk)
 rw [eval_ListComp]
 refine wpAny_comprehension_free (use:=none) rfl hs (jP fr) hsc.kind hsc.names (thn (hi pins s σ H _ I h) λv s1 h1=>thn h1 λitv s2 h2=>?_)
 obtain ⟨it,fp,tn,J,H2,e,I2,T,st2,f2,hh⟩:=h2
 subst e
 refine k5 (RR:=λacc C=>compPost (model X.prog X.w) X.A X.xe none (EP X pins σ Q) acc C) hsc hc ht he I2 T st2 f2 hh λD C H' s' I' hn nC cL cS cC cP q=>?_
 obtain ⟨m,hn⟩:=hn
 refine ⟨m,hn,λh' sb=>⟨.ref D,H',?_,rfl,q⟩⟩
 exact I'.turned (t':=s'.toks) (λb o hb e=>(sb.2 b hb).trans e) nC cL (.inr cS) cC cP
theorem oY {i:Nat}{y:Str}{py spos:Pos} (hN:X.N.Nodup) (hi':X.N[i]?=some y) (hy:Loc X.env.scope y) (hsc:iK X.env.scope X.N scope x fvs js) (hc:X.calm=true) (hi:PI X (.Name x px) iter wi)
  (ht:∀ s₁ H₁ C fp,PF (X.blk x fvs scope s₁ H₁ C fp) ifs tt) (he:∀ s₁ H₁ C fp,PE (X.blk x fvs scope s₁ H₁ C fp) elt te)
  (hsw:swapsWith (.ListComp elt [⟨.Name x px,iter,ifs,0⟩] scope pos) (some (.Name y py)) spos.line X.env=pure true:=by rfl)
  (hs:∀ v,foldedSetIterable iter X.env v=pure v:=by intro _;rfl) (hf:X.fn y=true \/ X.env.scope.names.lookup y=some .local:=by first|exact .inl rfl|exact .inr rfl|assumption) :
  PS X (.Assign [.Name y py] (.ListComp elt [⟨.Name x px,iter,ifs,0⟩] scope pos) spos) (ix (tP wi js tt te) (cD i)):=by
 intro pins s σ H D I h
 have fr:∀ y ∈ scope.names,y.2=.free->∃ c,X.env.cells.lookup y.1=some c:=λy hy hk=>I.ok.has y.1 (hsc.out y hy hk)
 rw [exec_Assign_Name_used _ _ _ _ hsw]
 refine wpAny_bind (wpAny_standAt (wpAny_bind ?_))
 show wpAny _ X.A (do let _ <- comprehension (.ListComp elt [⟨.Name x px,iter,ifs,0⟩] scope pos) scope X.env _ (newList []) false (eval iter X.env) (some (assign (.Name y py) X.env))) _ _ s
 refine wpAny_bind (thn (wpAny_comprehension_free (use:=some (assign (.Name y py) X.env)) (Q:=λ_ s'=>SP X pins D .next s') rfl hs (jP fr) hsc.kind hsc.names (thn (hi pins s σ H _ I h) λv s1 h1=>thn h1 λitv s2 h2=>?_)) λ_ s' q=>?_)
 ·obtain ⟨it,fp,tn,J,H2,e,I2,T,st2,f2,hh⟩:=h2
  subst e
  refine k5 (RR:=λacc C=>compPost (model X.prog X.w) X.A X.xe (some (assign (.Name y py) X.env)) (λ_ s'=>SP X pins D .next s') acc C) (Q:=λv H'=>cD i v σ H' D.nx) hsc hc ht he I2 T st2 f2 hh λD' C H' s' I' hn nC cL cS cC cP q=>?_
  obtain ⟨m,hn⟩:=hn
  show wpAny _ _ (assign (.Name y py) X.env (.ref D')) _ _ s'
  refine wpAny_assign_Name (kQ I' hN hi' hy (v:=.ref D') rfl (λs'' I'' ⟨a,sb,ha⟩=>?_) hf)
  have ne:C ≠ a:=by
   rcases ha with z|z
   ·rw [z];exact cL
   ·exact λw=>cC y a z w.symm
  refine ⟨m,hn.sameBut sb ne,λh' sb'=>?_⟩
  exact ⟨_,H',I''.turned (t':=s''.toks) (λb o hb e=>(sb'.2 b hb).trans e) nC cL (.inr cS) cC cP,q⟩
 ·exact wpAny_pure (wpAny_pure q)
end
end L2
namespace L2
open PySem PySem.Spec PyProof.Rows
noncomputable abbrev oZ (K:PySem.W.Frag) (H:Hp):List V->List (List Int)->Prop:=Paired λx ts=>∃ a,x=V.ref a/\SqT K H a (ts.map V.int)
theorem oZ.len {K:PySem.W.Frag}{H:Hp}{xs:List V}{tss:List (List Int)} (h:oZ K H xs tss):xs.length=tss.length:=Paired.length h
theorem a_ {H:Hp}{p:Addr} (h:H p=none) (o:HO):ae H (upd H p o):=λb u q=>by rw [af (aH q h)];exact q
theorem ae.seqT {K:PySem.W.Frag}{H H':Hp}{a:Addr}{xs:List V} (e:ae H H') (h:SqT K H a xs):SqT K H' a xs:=by
 rcases h with (h|⟨o,h⟩)|h
 ·exact .inl (.inl (e _ _ h))
 ·exact .inl (.inr ⟨o,e _ _ h⟩)
 ·exact .inr h
section
variable {X:Cx}{pins:List (Addr × Obj)}{σ:St}{H:Hp}{s:Shared}
theorem Inv.laidD {h':Heap}{a:Addr}{o:HO}{t':Nat}{d':Drawn} (I:Inv X pins σ H s) (k:∀ b u,s.heap.get? b=some u->h'.get? b=some u) (hp:s.heap.objs.size <= a) (new:bB X.prog X.w (upd H a o) h' a o) :
  Inv X pins σ (upd H a o) { s with heap:=h',toks:=t',drawn:=d' } :=
 I.call (g':=s.gens) (d':=d') (t':=t') (ch:=[]) (Un.laid k hp (I.hok.fresh hp)) (I.hok.laid k hp new) I.bare λ_ z=>nomatch z
theorem Inv.tupInts {a:Addr}{ns:List Int} (I:Inv X pins σ H s) (h:SqT X.K H a (ns.map V.int)):∃ its:List Value,IsTup s.heap a its.toArray/\IntsAre its ns:=by
 obtain ⟨its,r,p,_⟩:=I.tuple h
 exact ⟨its,p,cT r⟩
theorem Inv.tupsAt (I:Inv X pins σ H s):∀ {xs:List V}{us:List Value}{tss:List (List Int)},oZ X.K H xs tss->au xs us->Paired (λu ts=>∃ a its,u=Value.ref a/\IsTup s.heap a its/\IntsAre its.toList ts) us tss
 | _,_,_,.nil,.nil=>.nil
 | _,_,_,.cons ⟨a,e1,e2⟩ t,.cons r q=>by
  obtain ⟨its,p,hi⟩:=I.tupInts e2
  rw [e1] at r
  exact .cons ⟨a,its.toArray,r,p,by simpa using hi⟩ (I.tupsAt t q)
end
noncomputable def i3 (P:Program) (w:World) (a:Addr) (ks:List Int):HO:=.ext λh=>St.cV P w h a ks
theorem m8 {P:Program}{w:World}{H:Hp}{h:Heap}{a:Addr}{ks:List Int} (g:St.cV P w h a ks):bB P w H h a (i3 P w a ks):=by
 obtain ⟨o,es,ep,t,ho,r⟩:=id g
 exact ⟨g,⟨o,ho⟩,λh1 h2 g1 k=>g1.at k⟩
theorem Inv.set {X:Cx}{pins:List (Addr × Obj)}{σ:St}{H:Hp}{s:Shared}{a:Addr}{ks:List Int} (I:Inv X pins σ H s) (h:H a=some (i3 X.prog X.w a ks)):St.cV X.prog X.w s.heap a ks :=
 (show bB X.prog X.w H s.heap a (i3 X.prog X.w a ks) from I.hok a _ h).1
section
variable {X:Cx}
theorem tQ (hc:X.calm=true):bJ X (.type "set") (λxs H Q=>∃ (p:Addr) (ns:List Int),xs=[.ref p]/\(SqL X.K H p (ns.map V.int) \/ SqT X.K H p (ns.map V.int))/\ns.length <= 1000/\∀ l:Addr,H l=none->Q (.ref l) (upd H l (i3 X.prog X.w l (St.dd ns.reverse)))):=by
 intro pins s σ H xs us Q I r h
 obtain ⟨p,ns,rfl,hq,hz,q⟩:=h
 obtain ⟨u,rfl,rx⟩:=eN r
 cases rx
 have hh:=I.ok.hd hc
 rcases hq with hq|hq
 ·obtain ⟨its,r',pl,_⟩:=I.list hq
  have hi:=cT r'
  have hl:=hi.length
  refine St.set_list hh pl.isList (ns:=ns) (by simpa using hi) (by simp;unfold scanBound;omega) λh' tk g kp=>?_
  exact ⟨.ref s.heap.objs.size,_,I.laidD (d':=s.drawn) kp (Nat.le_refl _) (m8 g),rfl,q _ (I.hok.fresh (Nat.le_refl _))⟩
 ·obtain ⟨its,r',pl,_⟩:=I.tuple hq
  have hi:=cT r'
  have hl:=hi.length
  refine St.rq hh (show s.heap.IsTuple p its.toArray from pl) (ns:=ns) (by simpa using hi) (by simp;unfold scanBound;omega) λh' tk g kp=>?_
  exact ⟨.ref s.heap.objs.size,_,I.laidD (d':=s.drawn) kp (Nat.le_refl _) (m8 g),rfl,q _ (I.hok.fresh (Nat.le_refl _))⟩
end
namespace Srt
noncomputable def sortI (l:List Int):List Int:=fq cU l
noncomputable def sortT (l:List (List Int)):List (List Int):=fq cq l
noncomputable def leT (a b:List Int):Prop:=HT.lexLt b a=false
theorem sortI_perm (l:List Int):(sortI l).Perm l:=dW cU l
theorem sortT_perm (l:List (List Int)):(sortT l).Perm l:=dW cq l
theorem sortI_len (l:List Int):(sortI l).length=l.length:=(sortI_perm l).length_eq
theorem sortT_len (l:List (List Int)):(sortT l).length=l.length:=(sortT_perm l).length_eq
theorem sortT_rises (l:List (List Int)):(sortT l).Pairwise leT:=dg cq l
theorem sortT_id {l:List (List Int)} (h:l.Pairwise leT):sortT l=l:=tw cq h
theorem sortT_of_perm {a b:List (List Int)} (p:a.Perm b):sortT a=sortT b:=gm cq p
theorem sortI_of_perm {a b:List Int} (p:a.Perm b):sortI a=sortI b:=gm cU p
theorem wD {a b:Int}:cU.kle a b ↔ a <= b:=by
 show decide (b < a)=false ↔ a <= b
 rw [decide_eq_false_iff_not]
 omega
theorem sortI_rises (l:List Int):(sortI l).Pairwise (· <= ·):=(dg cU l).imp λh=>wD.mp h
section
variable {P:Program}{w:World}{A:Around}{E:Value->Shared->Prop}{s:Shared}
theorem m9 {ks ns:List Int} (hp:ns.Perm ks) (hs:ns.Pairwise (· <= ·)):ns=sortI ks:=by
 refine gP cU hp (hs.imp λ{a b} h=>?_)
 show decide (b < a)=false
 exact decide_eq_false (by omega)
theorem jT {x:Value}{ks:List Int}{Q:Value->Shared->Prop} (h64:ks.length < 64)
  (hcol:∀ (Q':List Value->Shared->Prop),(∀ (h':Heap) (tk:Nat) (d':Drawn) (acc:List Value) (order:List Int),(∀ b o,s.heap.get? b=some o->h'.get? b=some o)->order.Perm ks->IntsAre acc order->Q' acc { s with heap:=h',toks:=tk,drawn:=d' }) ->
   wpAny (model P w) A.in1 (collect x) Q' E s)
  (h:∀ (h1 h':Heap) (tk:Nat) (d':Drawn) (out:List Value) (c:Nat),(∀ b o,s.heap.get? b=some o->h1.get? b=some o)->(∀ b o,h1.get? b=some o->h'.get? b=some o)->h'.get? h1.objs.size=some { cls:=.type "list",data:=.seq out.toArray c } ->
   IntsAre out (sortI ks)->Q (.ref h1.objs.size) { s with heap:=h',toks:=tk,drawn:=d' }) :
  wpAny (model P w) A (call (.builtin "sorted") [x]) Q E s:=by
 refine Calls.call_function_entry kind_sorted plain_sorted entry_sorted (args_sorted1 _) ?_
 unfold Builtin.«sorted»
 refine wpAny_bind (m:=checkCount "sorted" 1 1 _) (wpAny_pure ?_)
 refine wpAny_bind (hcol _ λh1 tk d1 acc order kp hp hi=>?_)
 have hla:acc.length=order.length:=hi.length
 have hlo:order.length=ks.length:=hp.length_eq
 refine wpAny_bind (wpAny_newList ?_ (by rw [sizeLine_eq];omega))
 have hoL:(h1.push (seqObj "list" acc.toArray 0)).get? h1.objs.size=some (seqObj "list" acc.toArray 0):=Heap.get?_push_size _ rfl
 refine wpAny_bind (wpAny_holding (wpAny_call_entry slot_list_sort ⟨_,hoL,rfl⟩ entry_list_sort (list_sort_tree hoL hi (by omega) λout ns' hi' hp' hs'=>⟨_,rfl,?_⟩) (args_list_sort _)))
 obtain ⟨c,hc⟩:=sortedHeap_at (out:=out) (vs:=acc) hoL
 refine wpAny_pure ⟨_,rfl,h h1 _ tk d1 out.toList c kp (λb o e=>?_) ?_ ?_⟩
 ·have hb:b < h1.objs.size:=Heap.lt_size e
  rw [sortedHeap_old (Nat.ne_of_lt hb) (by rw [Heap.size_push];exact Nat.lt_succ_of_lt hb)]
  exact Heap.get?_push_of_some _ e
 ·rw [Array.toArray_toList];exact hc
 ·rw [<- m9 (hp'.trans hp) hs'];exact hi'
theorem jU {x:Value}{vs:List Value}{tss:List (List Int)}{Q:Value->Shared->Prop} (h64:vs.length < 64) (hu:A.units + 2 < cLine)
  (hv:Paired (λu ts=>∃ a its,u=Value.ref a/\IsTup s.heap a its/\IntsAre its.toList ts) vs tss)
  (hcol:∀ (Q':List Value->Shared->Prop),(∀ (h':Heap),(∀ b o,s.heap.get? b=some o->h'.get? b=some o)->Q' vs { s with heap:=h' })->wpAny (model P w) A.in1 (collect x) Q' E s)
  (h:∀ (h1 h':Heap) (p:Array Nat) (c:Nat),(∀ b o,s.heap.get? b=some o->h1.get? b=some o)->(∀ b o,h1.get? b=some o->h'.get? b=some o)->h'.get? h1.objs.size=some { cls:=.type "list",data:=.seq (p.toList.map λi=>vs.getD i Value.none).toArray c } ->
   PB vs.length p->p.toList.map (λi=>tss.getD i [])=sortT tss->Q (.ref h1.objs.size) { s with heap:=h' }) :
  wpAny (model P w) A (call (.builtin "sorted") [x]) Q E s:=by
 have hlen:vs.length=tss.length:=Paired.length hv
 refine Calls.call_function_entry kind_sorted plain_sorted entry_sorted (args_sorted1 _) ?_
 unfold Builtin.«sorted»
 refine wpAny_bind (m:=checkCount "sorted" 1 1 _) (wpAny_pure ?_)
 refine wpAny_bind (hcol _ λh1 kp=>?_)
 refine wpAny_bind (wpAny_newList ?_ (by rw [sizeLine_eq];omega))
 have hoL:(h1.push (seqObj "list" vs.toArray 0)).get? h1.objs.size=some (seqObj "list" vs.toArray 0):=Heap.get?_push_size _ rfl
 have at_:∀ (s':Shared),(∀ b o,b ≠ h1.objs.size->(h1.push (seqObj "list" vs.toArray 0)).get? b=some o->s'.heap.get? b=some o)->∀ i,i < vs.length->∃ a its,vs.getD i Value.none=.ref a/\IsTup s'.heap a its/\IntsAre its.toList (tss.getD i []):=λs' k i hi=>by
  have gen:∀ {us:List Value}{uss:List (List Int)},Paired (λu ts=>∃ a its,u=Value.ref a/\IsTup s.heap a its/\IntsAre its.toList ts) us uss->∀ i,i < us.length->∃ a its,us.getD i Value.none=.ref a/\IsTup s.heap a its/\IntsAre its.toList (uss.getD i []):=by
   intro us uss hp
   induction hp with
   | nil=>intro i hi;simp at hi
   | cons q _ ih =>
    intro i hi
    cases i with
    | zero=>obtain ⟨a,its,e,r⟩:=q;exact ⟨a,its,by simpa using e,by simpa using r⟩
    | succ i=>obtain ⟨a,its,e,r⟩:=ih i (by simpa using hi);exact ⟨a,its,by simpa using e,by simpa using r⟩
  obtain ⟨a,its,e,⟨o,ho,r⟩,hin⟩:=gen hv i hi
  have ho1:=kp a o ho
  exact ⟨a,its,e,⟨o,k a o (Nat.ne_of_lt (Heap.lt_size ho1)) (Heap.get?_push_of_some _ ho1),r⟩,hin⟩
 refine wpAny_bind (wpAny_holding (wpAny_call_entry slot_list_sort ⟨_,hoL,rfl⟩ entry_list_sort (gQ (O:=cq) (key:=λi=>tss.getD i []) hoL h64 (λh2 s' Q' k q=>rm h2 (λv hm=>?_) q) (λκ hκ s' i j C k hi hj q=>?_) λp hp hr=>⟨_,rfl,?_⟩) (args_list_sort _)))
 ·obtain ⟨i,hi,e⟩:=List.getElem_of_mem hm
  obtain ⟨a,its,e',r1,r2⟩:=at_ s' k i hi
  exact ⟨a,its,_,by rw [<- e',<- e];simp [hi],r1,r2⟩
 ·obtain ⟨a,its,e,r1,r2⟩:=at_ s' k i hi
  obtain ⟨a',its',e',r1',r2'⟩:=at_ s' k j hj
  rw [e,e']
  exact wv hκ r1 r1' r2 r2' (show A.units + 1 + 1 < cLine from hu) q
 ·obtain ⟨c,hc⟩:=sortedHeap_at (out:=(p.toList.map λi=>vs.getD i Value.none).toArray) (vs:=vs) hoL
  have hp':PB tss.length p:=by rw [<- hlen];exact hp
  have hr':dU (O:=cq) (λi=>tss.getD i []) p tss.length:=by rw [<- hlen];exact hr
  refine wpAny_pure ⟨_,rfl,h h1 _ p c kp (λb o e=>?_) hc hp (tz (O:=cq) (d:=([]:List Int)) (xs:=tss) hp' hr')⟩
  have hb:b < h1.objs.size:=Heap.lt_size e
  rw [sortedHeap_old (Nat.ne_of_lt hb) (by rw [Heap.size_push];exact Nat.lt_succ_of_lt hb)]
  exact Heap.get?_push_of_some _ e
end
end Srt
section
variable {X:Cx}
theorem Inv.keptD {pins:List (Addr × Obj)}{σ:St}{H:Hp}{s:Shared}{h':Heap}{t':Nat}{d':Drawn} (I:Inv X pins σ H s) (k:∀ b u,s.heap.get? b=some u->h'.get? b=some u):Inv X pins σ H { s with heap:=h',toks:=t',drawn:=d' } :=
 I.call (g':=s.gens) (d':=d') (t':=t') (ch:=[]) (Un.kept k) (I.hok.kept k) I.bare λ_ z=>nomatch z
theorem rJ:∀ {vs:List Value}{ns:List Int},IntsAre vs ns->au (ns.map V.int) vs:=iC
noncomputable def yM (X:Cx):List V->Hp->VK->Prop:=λxs H Q=>∃ (p:Addr) (ks:List Int),xs=[.ref p]/\(SqL X.K H p (ks.map V.int) \/ SqT X.K H p (ks.map V.int) \/ H p=some (i3 X.prog X.w p ks))/\ks.length < 64/\∀ l:Addr,H l=none->Q (.ref l) (upd H l (.lst ((Srt.sortI ks).map V.int)))
theorem gU (hc:X.calm=true):bJ X (.builtin "sorted") (yM X):=by
 intro pins s σ H xs us Q I r h
 obtain ⟨p,ks,rfl,hq,h64,q⟩:=h
 obtain ⟨u,rfl,rx⟩:=eN r
 cases rx
 have hh:=I.ok.hd hc
 refine Srt.jT (ks:=ks) h64 (λQ' hQ'=>?_) λh1 h' tk d' out c k1 k2 e hi=>?_
 ·rcases hq with hq|hq|hq
  ·obtain ⟨its,r',pl,hz⟩:=I.list hq
   obtain ⟨o,ho,hcl,n,hd⟩:=pl.isList
   refine wpAny_collect_seq p (.inl rfl) ho hcl hd (λh' kp=>?_) (by have:=r'.length;simp only [List.size_toArray] <;> omega)
   exact hQ' h' s.toks s.drawn _ ks kp (.refl _) (by simpa using cT r')
  ·obtain ⟨its,r',pl,hz⟩:=I.tuple hq
   obtain ⟨o,ho,hcl,n,hd⟩:=pl
   refine wpAny_collect_seq p (.inr rfl) ho hcl hd (λh' kp=>?_) (by have:=r'.length;simp only [List.size_toArray] <;> omega)
   exact hQ' h' s.toks s.drawn _ ks kp (.refl _) (by simpa using cT r')
  ·exact St.m7 (by first|exact hh|simpa using hh) (I.set hq) λh' tk d' acc order kp hp hi=>hQ' h' tk d' acc order kp hp hi
 ·have I1:Inv X pins σ H { s with heap:=h1,toks:=tk,drawn:=d' }:=I.keptD k1
  have I2:Inv X pins σ (upd H h1.objs.size (.lst ((Srt.sortI ks).map V.int))) { s with heap:=h',toks:=tk,drawn:=d' } :=
   I1.laid (t':=tk) k2 (Nat.le_refl _) (show bB X.prog X.w _ h' _ (.lst _) from ⟨by rw [List.length_map,Srt.sortI_len,sizeLine_eq];omega,out,c,rJ hi,e⟩)
  exact ⟨.ref h1.objs.size,_,I2,rfl,q _ (I1.hok.fresh (Nat.le_refl _))⟩
noncomputable def yN (X:Cx):List V->Hp->VK->Prop:=λxs H Q=>∃ (p:Addr) (vs:List V) (tss:List (List Int)),xs=[.ref p]/\(SqL X.K H p vs \/ SqT X.K H p vs)/\oZ X.K H vs tss/\tss.length < 64 /\
 ∀ (l:Addr) (pm:List Nat),H l=none->(∀ i ∈ pm,i < vs.length)->pm.map (λi=>tss.getD i [])=Srt.sortT tss->Q (.ref l) (upd H l (.lst (pm.map λi=>vs.getD i .non)))
theorem iM {vs:List V}{us:List Value} (h:au vs us):∀ (l:List Nat),(∀ i ∈ l,i < vs.length)->au (l.map λi=>vs.getD i .non) (l.map λi=>us.getD i Value.none)
 | [],_=>.nil
 | i::l,hl=>by
  have hi:=hl i (.head _)
  obtain ⟨u,e1,e2⟩:=h.get (i:=i) (x:=vs[i]) (List.getElem?_eq_getElem hi)
  refine .cons ?_ (iM h l λj hj=>hl j (.tail _ hj))
  have q1:vs.getD i .non=vs[i]:=by simp [hi]
  have q2:us.getD i Value.none=u:=by rw [List.getD_eq_getElem?_getD,e1];rfl
  show aw (vs.getD i V.non) (us.getD i Value.none)
  rw [q1,q2];exact e2
theorem l7 (hu:X.A.units + 64 < cLine):bJ X (.builtin "sorted") (yN X):=by
 intro pins s σ H xs us Q I r h
 obtain ⟨p,vs,tss,rfl,hq,ht,h64,q⟩:=h
 obtain ⟨u,rfl,rx⟩:=eN r
 cases rx
 have key:∀ (its:List Value),au vs its->vs.length <= sizeLine->(∀ (Q':List Value->Shared->Prop),(∀ (h':Heap),(∀ b o,s.heap.get? b=some o->h'.get? b=some o)->Q' its { s with heap:=h' })->wpAny (model X.prog X.w) X.A.in1 (collect (.ref p)) Q' X.xe s) ->
   wpAny (model X.prog X.w) X.A (call (.builtin "sorted") [.ref p]) (EP X pins σ Q) X.xe s:=λits r' hz hcol=>by
  have hl:=r'.length
  have hl2:=ht.len
  refine Srt.jU (vs:=its) (tss:=tss) (by omega) (by omega) (I.tupsAt ht r') hcol λh1 h' pm c k1 k2 e hp ho=>?_
  have hpl:∀ i ∈ pm.toList,i < vs.length:=λi hi=>by
   have:=(Array.perm_iff_toList_perm.mp hp).mem_iff.mp hi
   have:=List.mem_range.mp (by simpa using this)
   omega
  have I1:Inv X pins σ H { s with heap:=h1 }:=I.kept (t':=s.toks) k1
  have I2:Inv X pins σ (upd H h1.objs.size (.lst (pm.toList.map λi=>vs.getD i .non))) { s with heap:=h' } :=
   I1.laid (t':=s.toks) k2 (Nat.le_refl _) (show bB X.prog X.w _ h' _ (.lst _) from ⟨by have:=hp.size;rw [List.length_map,Array.length_toList,sizeLine_eq];omega,_,c,iM r' _ hpl,e⟩)
  exact ⟨.ref h1.objs.size,_,I2,rfl,q _ pm.toList (I1.hok.fresh (Nat.le_refl _)) hpl ho⟩
 rcases hq with hq|hq
 ·obtain ⟨its,r',pl,hz⟩:=I.list hq
  obtain ⟨o,ho,hcl,n,hd⟩:=pl.isList
  refine key its r' hz λQ' hQ'=>wpAny_collect_seq p (.inl rfl) ho hcl hd (λh' kp=>?_) (by have:=r'.length;simp only [List.size_toArray] <;> omega)
  have:=hQ' h' kp
  simpa using this
 ·obtain ⟨its,r',pl,hz⟩:=I.tuple hq
  obtain ⟨o,ho,hcl,n,hd⟩:=pl
  refine key its r' hz λQ' hQ'=>wpAny_collect_seq p (.inr rfl) ho hcl hd (λh' kp=>?_) (by have:=r'.length;simp only [List.size_toArray] <;> omega)
  have:=hQ' h' kp
  simpa using this
end
end L2
namespace L2.St
open PySem PyProof.Rows
structure kM (P:Program) (w:World) (h:Heap) (a:Addr) (ks:List Int) (o:Obj) (es:Array (Int × Value)) (ep:Nat) (t:SetTable):Prop where
 ho:h.get? a=some o
 ex:o.ExactSet
 hd:o.data=.set es ep t
 el:ElemsOf (intKind P w) es.toList
 pm:(es.toList.map λe=>numOf e.2).Perm ks
 nd:ks.Nodup
 bd:es.size < scanBound
 fi:t.fits es.size=true
theorem cV.w {P:Program}{w:World}{h:Heap}{a:Addr}{ks:List Int} (g:cV P w h a ks):∃ o es ep t,kM P w h a ks o es ep t/\Gd (!byT w) t:=by
 obtain ⟨o,es,ep,t,ho,hex,hd,hel,hp,hn,hb,hf,hg⟩:=g
 exact ⟨o,es,ep,t,⟨ho,hex,hd,hel,hp,hn,hb,hf⟩,hg⟩
theorem kM.len {P:Program}{w:World}{h:Heap}{a:Addr}{ks:List Int}{o:Obj}{es:Array (Int × Value)}{ep:Nat}{t:SetTable} (g:kM P w h a ks o es ep t):es.size=ks.length:=by
 have:=g.pm.length_eq;simpa using this
theorem kM.at {P:Program}{w:World}{h h':Heap}{a:Addr}{ks:List Int}{o:Obj}{es:Array (Int × Value)}{ep:Nat}{t:SetTable} (g:kM P w h a ks o es ep t) (k:∀ o,h.get? a=some o->h'.get? a=some o):kM P w h' a ks o es ep t :=
 ⟨k o g.ho,g.ex,g.hd,g.el,g.pm,g.nd,g.bd,g.fi⟩
section
variable {P:Program}{w:World}{A:Around}{E:Value->Shared->Prop}{s:Shared}
variable {a:Addr}{ks:List Int}{o:Obj}{es:Array (Int × Value)}{ep:Nat}{t:SetTable}
theorem kM.mem (g:kM P w s.heap a ks o es ep t) {k:Int}:k ∈ ks ↔ ∃ e ∈ es.toList,(intKind P w).is k e.2=true:=by
 rw [<- g.pm.mem_iff,List.mem_map]
 constructor
 ·rintro ⟨e,he,q⟩;exact ⟨e,he,(l5 g.el he k).mpr q⟩
 ·rintro ⟨e,he,q⟩;exact ⟨e,he,(l5 g.el he k).mp q⟩
end
end L2.St
namespace L2.St
open PySem PyProof.Rows
section
variable {P:Program}{w:World}{A:Around}{E:Value->Shared->Prop}{s:Shared}
theorem kM.type {a:Addr}{ks:List Int}{o:Obj}{es:Array (Int × Value)}{ep:Nat}{t:SetTable} (g:kM P w s.heap a ks o es ep t):s.TypeIs (.ref a) "set":=⟨o,g.ho,g.ex.1⟩
end
end L2.St
namespace L2.St
open PySem PyProof.Rows
noncomputable def vals (m:Nat) (ow:Array (Option Nat)):List Nat:=(List.range (m + 1)).filterMap λj=>ow.getD j none
end L2.St
namespace L2.St
open PySem PyProof.Rows
section
variable {P:Program}{w:World}{A:Around}{E:Value->Shared->Prop}{s:Shared}
variable {a:Addr}{ks:List Int}{o:Obj}{es:Array (Int × Value)}{ep:Nat}{t:SetTable}
end
end L2.St
namespace L2.St
open PySem PyProof.Rows
section
variable {P:Program}{w:World}{A:Around}{E:Value->Shared->Prop}{s:Shared}
variable {a:Addr}{ks:List Int}{o:Obj}{es:Array (Int × Value)}{ep:Nat}{t:SetTable}
end
end L2.St
namespace L2.St
open PySem PyProof.Rows
section
variable {P:Program}{w:World}{A:Around}{E:Value->Shared->Prop}{s:Shared}
end
end L2.St
namespace L2
open PySem PySem.Spec PyProof.Rows
section
variable {X:Cx}
theorem l8:bJ X (.builtin "len") (λxs H Q=>∃ a ks,xs=[.ref a]/\H a=some (i3 X.prog X.w a ks)/\Q (.int ks.length) H):=by
 intro pins s σ H xs us Q I r h
 obtain ⟨a,ks,rfl,e,q⟩:=h
 obtain ⟨u,rfl,ru⟩:=eN r
 cases ru
 obtain ⟨o,es,ep,t,g,_⟩:=(I.set e).w
 have hb:=g.bd
 have hsb:scanBound=4096:=rfl
 refine call_len_set g.ho g.ex g.hd g.fi (by omega) ⟨.int ks.length,H,I.tok _,⟨s.toks + 1,?_⟩,q⟩
 rw [g.len]
end
end L2
namespace L2.En
open PySem PyProof.Rows
open AutoSeq1 (wpAny_loadPart')
section
variable {P:Program}{w:World}{A:Around}{E:Value->Shared->Prop}{s:Shared}
theorem o3 {it t:Addr}{i:Nat}{Q:Value->Shared->Prop} (hit:s.heap.IsTupleIter it t i)
  (h:wpAny (model P w) A.in1 (Builtin.«tuple_iterator.__next__» ⟨[.ref it],[]⟩) (λfin s'=>∃ v,fin=.done (.ret v)/\Q v s') E s):wpAny (model P w) A (Builtin.SmallTypes.nextOf (.ref it)) Q E s:=by
 unfold Builtin.SmallTypes.nextOf
 refine wpAny_bind (wpAny_callSpecial?_slot (name:=Str.ofString "__next__") hit.typeIs F.slot_tuple_iterator_next ?_)
 refine wpAny_call_entry F.slot_tuple_iterator_next hit.typeIs F.entry_tuple_iterator_next ?_ (F.args_tuple_iterator_next_1 _)
 refine wpAny_mono h (λfin s' hv=>?_) λ_ _ z=>z
 obtain ⟨v,rfl,q⟩:=hv
 exact ⟨v,rfl,wpAny_pure q⟩
theorem A6 {α:Type}{Q:α->Shared->Prop} (hh:A.handled=none) (h:∀ h' e,(∀ b o,s.heap.get? b=some o->h'.get? b=some o)->(∃ o,h'.get? e=some o/\o.cls=.type "StopIteration")->E (.ref e) { s with heap:=h' }) :
  wpAny (model P w) A (Builtin.SmallTypes.stopIteration:Sem α) Q E s:=by
 unfold Builtin.SmallTypes.stopIteration newExc
 obtain ⟨hp,g,d,tk,os⟩:=s
 wp_walk
 exact wpAny_raiseNew_none hh (h _ _ (λb o q=>Heap.get?_push_of_some _ (Heap.get?_push_of_some _ q)) ⟨_,Heap.get?_push_size _ rfl,rfl⟩)
theorem k6 {it t:Addr}{i:Nat}{items:Array Value}{Q:Value->Shared->Prop} (hh:A.handled=none) (hit:s.heap.IsTupleIter it t i) (ht:s.heap.IsTuple t items)
  (hQ:∀ x h',items[i]?=some x->h'.IsTupleIter it t (i + 1)->Heap.SameBut it s.heap h'->Q x { s with heap:=h' })
  (hE:∀ h' e,items[i]?=none->Heap.ExtBut it s.heap h'->(∃ o,h'.get? e=some o/\o.cls=.type "StopIteration")->E (.ref e) { s with heap:=h' }):wpAny (model P w) A (Builtin.SmallTypes.nextOf (.ref it)) Q E s:=by
 refine o3 hit ?_
 obtain ⟨⟨c1,d1,t1,l1⟩,h1,e1,e2⟩:=hit
 obtain ⟨⟨c2,d2,t2,l2⟩,h2,e3,n2,e4⟩:=ht
 cases e1
 cases e2
 cases e3
 cases e4
 obtain ⟨hp,g,d,tk,os⟩:=s
 unfold Builtin.«tuple_iterator.__next__»
 wp_walk using wpAny_loadPart' h1,wpAny_loadPart' h2
 have self:∀ (k:Nat) (v:Value),(hp.update it (Obj.mapFields (·.setIfInBounds k v))).get? it=some { cls:=.type "tuple_iterator",dict:=d1,data:=.fields ((#[.ref t,.int (i:Int) 0]:Array Value).setIfInBounds k v),slots:=l1 }:=λk v=>Heap.get?_update_self _ h1 rfl
 rw [Int.toNat_natCast]
 cases hx:items[i]? with
 | some x =>
  refine wpAny_bind (wpAny_setField h1 rfl (by simp) (wpAny_pure ⟨x,rfl,hQ x _ hx ⟨_,self 1 _,rfl,?_⟩ (Heap.SameBut.update ..)⟩))
  simp [rawInt]
 | none =>
  refine wpAny_bind (wpAny_rule (wpAny_bind (wpAny_setField h1 rfl (by simp) (A6 (by simpa using hh) λh' e k st=>?_))))
  exact hE h' e hx (λb o hb q=>k b o ((Heap.SameBut.update hp it _).extBut b o hb q)) st
theorem draws (hh:A.handled=none) (it t:Addr) (hne:t ≠ it) (items:Array Value):Draws P w A it [it,t] items.size (λi v=>items[i]?=some v) (λi h=>h.IsTupleIter it t i/\h.IsTuple t items) where
 live:=λ_ _ ⟨⟨o,ho,_⟩,_⟩=>⟨o,ho⟩
 frame:=λi h h' ⟨⟨o,ho,r⟩,⟨o2,ho2,r2⟩⟩ k=>⟨⟨o,k it (.head _) o ho,r⟩,⟨o2,k t (.tail _ (.head _)) o2 ho2,r2⟩⟩
 item:=λi s Q E hi ⟨h1,h2⟩ hQ=>k6 hh h1 h2 (λx h' hx h3 sb=>hQ x h' s.toks hx ⟨h3,h2.extBut sb.extBut hne⟩ sb) λh' e hx _ _=>absurd hx (by simp;omega)
 done:=λs Q E ⟨h1,h2⟩ hE=>k6 hh h1 h2 (λx h' hx _ _=>absurd hx (by simp)) λh' e _ eb st=>hE h' e eb st
theorem tR {b:Bool}{Q:Bool->Shared->Prop} (h:∀ c,Q c s):wpAny (model P w) A (pure b) Q E s:=wpAny_pure (h b)
theorem wE (l:Addr) (items:Array Value) (n:Nat) (dct:Option Addr) (sl:Array (Option Value)) :
  Meets (Builtin.«enumerate.__new__» ⟨[.type "enumerate",.ref l],[]⟩) (λ_ R s=>s.heap.get? l=some { cls:=.type "tuple",dict:=dct,data:=.seq items n,slots:=sl } /\
   R (.ok (.ret (.ref (s.heap.push { cls:=.type "tuple_iterator",data:=.fields #[.ref l,.int 0 0] }).objs.size)))
    { s with heap:=(s.heap.push { cls:=.type "tuple_iterator",data:=.fields #[.ref l,.int 0 0] }).push { cls:=.type "enumerate",data:=.fields #[.none,.bool false,.ref s.heap.objs.size,rawInt 0,.none,.none] } }):=by
 refine .of_wp λP w A R s h=>?_
 obtain ⟨hp,g,d,tk,os⟩:=s
 have tl:Heap.IsTuple (Shared.heap ⟨hp,g,d,tk,os⟩) l items:=⟨_,h.1,rfl,n,rfl⟩
 have en:=sub_enumerate
 wp_walk using wpAny_loadPart' h.1
 apply wpAny_stack_any
 intro st
 refine tR λc=>?_
 cases c
 ·wp_walk using wpAny_pyIter_tuple tl
  exact ⟨_,rfl,h.2⟩
 ·wp_walk using wpAny_pyIter_tuple tl
  exact ⟨_,rfl,h.2⟩
theorem call_tup {l:Addr}{items:Array Value}{Q:Value->Shared->Prop} (ht:s.heap.IsTuple l items)
  (h:∀ h',IsEnum h' (s.heap.objs.size + 1) s.heap.objs.size 0 .none->h'.IsTupleIter s.heap.objs.size l 0->h'.objs.size=s.heap.objs.size + 2 ->
   (∀ b o,s.heap.get? b=some o->h'.get? b=some o)->Q (.ref (s.heap.objs.size + 1)) { s with heap:=h' }):wpAny (model P w) A (call (.type "enumerate") [.ref l]) Q E s:=by
 obtain ⟨⟨c,dct,dt,sl⟩,hl,hc,n,hd⟩:=ht
 cases hc
 cases hd
 have made:=wE l items n dct sl
 refine callType_new F.called_enumerate (by decide) (F.typeCall_enumerate_1 _) (F.newCall_enumerate_1 _) (λv=>F.args_object_init_2 v _) F.entry_enumerate_new made ⟨hl,?_⟩
 generalize hi:({ cls:=.type "tuple_iterator",data:=.fields #[.ref l,.int 0 0] }:Obj)=io
 generalize ho:({ cls:=.type "enumerate",data:=.fields #[.none,.bool false,.ref s.heap.objs.size,rawInt 0,.none,.none] }:Obj)=eo
 have z:(s.heap.push io).objs.size=s.heap.objs.size + 1:=Heap.size_push ..
 have g1:((s.heap.push io).push eo).get? (s.heap.objs.size + 1)=some eo:=by
  rw [<- z]
  exact Heap.get?_push_size _ (by rw [<- ho];rfl)
 have g2:((s.heap.push io).push eo).get? s.heap.objs.size=some io:=Heap.get?_push_of_some _ (Heap.get?_push_size _ (by rw [<- hi];rfl))
 show Shared.TypeIs _ (.ref (s.heap.push io).objs.size) _/\Q (.ref (s.heap.push io).objs.size) _
 rw [z]
 refine ⟨⟨_,g1,by rw [<- ho]⟩,h _ (by rw [<- ho] at g1;rw [<- ho];exact g1) ⟨_,g2,by rw [<- hi],by rw [<- hi];rfl⟩ (by rw [Heap.size_push,z]) λb o q=>Heap.get?_push_of_some _ (Heap.get?_push_of_some _ q)⟩
end
end L2.En
namespace L2.Dv
open PySem PyProof.Rows
open AutoSeq1 (wpAny_loadPart')
section
variable {P:Program}{w:World}{A:Around}{E:Value->Shared->Prop}{s:Shared}
noncomputable def l9 (h:Heap) (d:Addr) (es:Array DictEntry) (ep:Nat):Prop:=∃ o,h.get? d=some o/\o.ExactDict/\o.data=.dict es ep
theorem l9.at {h h':Heap}{d:Addr}{es:Array DictEntry}{ep:Nat} (x:l9 h d es ep) (k:∀ o,h.get? d=some o->h'.get? d=some o):l9 h' d es ep:=by
 obtain ⟨o,ho,r⟩:=x
 exact ⟨o,k o ho,r⟩
theorem l9.type {d:Addr}{es:Array DictEntry}{ep:Nat} (x:l9 s.heap d es ep):s.TypeIs (.ref d) "dict":=by
 obtain ⟨o,ho,r,_⟩:=x
 exact ⟨o,ho,r.1⟩
theorem wF {v d:Addr}{es:Array DictEntry}{ep:Nat}{Q:Value->Shared->Prop} (hv:s.heap.IsValuesView v d) (x:l9 s.heap d es ep)
  (h:Q (.ref s.heap.objs.size) { s with heap:=s.heap.push { cls:=.type "dict_valueiterator",data:=.fields #[.ref d,.int 0 0,.int es.size 0,.int ep 0] } }):wpAny (model P w) A (pyIter (.ref v)) Q E s:=by
 refine wpAny_pyIter_slot hv.typeIs F.slot_dict_values_iter (wpAny_call_entry F.slot_dict_values_iter hv.typeIs F.entry_dict_values_iter ?_ (F.args_dict_values_iter_1 _))
 obtain ⟨⟨c1,d1,t1,l1⟩,h1,hx,e2⟩:=x
 have e1:=hx.1
 cases e1
 cases e2
 obtain ⟨⟨c3,d3,t3,l3⟩,h3,e3,e4⟩:=hv
 cases e3
 cases e4
 obtain ⟨hp,g,dr,tk,os⟩:=s
 unfold Builtin.«dict_values.__iter__»
 wp_walk using wpAny_loadPart' h1,wpAny_loadPart' h3
 exact ⟨_,rfl,_,_,⟨_,Heap.get?_push_size _ rfl,rfl⟩,F.slot_dict_valueiterator_next.lookup,h⟩
theorem qf {it d:Addr}{i:Nat}{es:Array DictEntry}{ep:Nat}{Q:Option Value->Shared->Prop} (hh:A.handled=none) (hv:s.heap.IsValIter it d i es.size ep) (x:l9 s.heap d es ep)
  (h1:∀ e h',es[i]?=some e->h'.IsValIter it d (i + 1) es.size ep->Heap.SameBut it s.heap h'->Q (some e.val) { s with heap:=h' })
  (h2:∀ h',es[i]?=none->Heap.ExtBut it s.heap h'->Q none { s with heap:=h' }):wpAny (model P w) A (pyNext (.ref it)) Q E s:=by
 have ty:=hv.typeIs
 obtain ⟨⟨c1,d1,t1,l1⟩,g1,hx,e2⟩:=x
 have e1:=hx.1
 cases e1
 cases e2
 obtain ⟨⟨c3,d3,t3,l3⟩,g3,e3,e4⟩:=hv
 cases e3
 cases e4
 obtain ⟨hp,g,dr,tk,os⟩:=s
 unfold pyNext
 refine wpAny_bind (wpAny_attempt (wpAny_callSpecial?_slot (name:=Str.ofString "__next__") ty F.slot_dict_valueiterator_next (wpAny_call_entry F.slot_dict_valueiterator_next ty F.entry_dict_valueiterator_next ?_ (F.args_dict_valueiterator_next_1 _))))
 unfold Builtin.«dict_valueiterator.__next__»
 wp_walk using wpAny_loadPart' g1,wpAny_loadPart' g3
 rw [if_neg (by omega),Int.toNat_natCast]
 have self:∀ (k:Nat) (v:Value),(hp.update it (Obj.mapFields (·.setIfInBounds k v))).get? it=some { cls:=.type "dict_valueiterator",dict:=d3,data:=.fields ((#[.ref d,.int (i:Int) 0,.int (es.size:Int) 0,.int (ep:Int) 0]:Array Value).setIfInBounds k v),slots:=l3 }:=λk v=>Heap.get?_update_self _ g3 rfl
 cases hx:es[i]? with
 | some e =>
  have g4:=self 1 (rawInt ((i:Int) + 1))
  wp_walk using wpAny_loadPart' g3,wpAny_loadPart' g4
  exact ⟨_,rfl,wpAny_pure (h1 e _ hx ⟨_,g4,rfl,rfl⟩ (Heap.SameBut.update ..))⟩
 | none =>
  refine wpAny_bind (wpAny_mono (Q:=λ(n:Nat) (s':Shared)=>n=0/\s'=⟨hp,g,dr,tk,os⟩) (E:=λ_ _=>False) ?_ (λn s' q=>?_) λ_ _ z=>z.elim)
  ·wp_walk using wpAny_loadPart' g3
   exact ⟨by decide +kernel,rfl⟩
  obtain ⟨rfl,rfl⟩:=q
  refine wpAny_bind (wpAny_setField g3 rfl (by simp) ?_)
  refine St.iG (v:=.none) (vs:=#[]) (it:=0) (Q:=λ_ _=>True) (by simpa using hh) λe s' kp ⟨h',eq⟩ hT=>?_
  subst eq
  refine wpAny_bind (wpAny_isInstance (T:="StopIteration") (b:=true) hT isSubtype_stop ?_)
  exact wpAny_pure (h2 h' hx λb o hb q=>kp b o ((Heap.SameBut.update hp it _).extBut b o hb q))
theorem src {r d:Addr}{es:Array DictEntry}{ep:Nat}:PySem.W.KdlSrc P w "dict_values" r d es.size (λi v=>∃ e,es[i]?=some e/\v=e.val) (λh=>h.IsValuesView r d/\l9 h d es ep) where
 type:=λ_ q=>q.1.typeIs
 there:=λ_ ⟨⟨o,ho,_⟩,⟨o',ho',_⟩⟩=>⟨Heap.lt_size ho,Heap.lt_size ho'⟩
 keep:=λ_ _ ⟨⟨o,ho,z⟩,x⟩ k=>⟨⟨o,k r (.inl rfl) o ho,z⟩,x.at λo e=>k d (.inr rfl) o e⟩
 notList:=by decide
 notTuple:=by decide
 hint:=λ_ _ _ _ q z=>PySem.W.kdl_hint_values q.1.typeIs z
 iter:=λA s hh ⟨q,x⟩=>by
  have lt:d < s.heap.objs.size:=by obtain ⟨o,ho,_⟩:=x;exact Heap.lt_size ho
  have ne:d ≠ s.heap.objs.size:=Nat.ne_of_lt lt
  refine ⟨{ cls:=.type "dict_valueiterator",data:=.fields #[.ref d,.int 0 0,.int es.size 0,.int ep 0] },λi h=>h.IsValIter s.heap.objs.size d i es.size ep/\l9 h d es ep,λE Q z=>wF q x z,?_,⟨_,Heap.get?_push_size _ rfl,rfl,rfl⟩,x.at λo e=>Heap.get?_push_of_some _ e⟩
  refine ⟨λb hb=>by simp at hb;simp [hb],λi h h' ⟨⟨o,ho,z⟩,y⟩ k=>⟨⟨o,k _ (by simp) o ho,z⟩,y.at λo e=>k d (by simp) o e⟩,λi s' Q E hi ⟨y,z⟩ hQ=>?_,λs' Q E ⟨y,z⟩ hQ=>?_,λi s' Q E ⟨y,z⟩ hQ=>?_⟩
  ·refine qf hh y z (λe h' he y' sb=>?_) λh' he _=>absurd he (by simp;omega)
   exact hQ _ h' s'.toks ⟨e,he,rfl⟩ ⟨y',z.at λo q=>sb.extBut d o ne q⟩ λb o hb q=>sb.extBut b o (λw=>hb (by simp [w])) q
  ·refine qf hh y z (λe h' he _ _=>absurd he (by simp)) λh' _ eb=>?_
   exact hQ h' s'.toks λb o hb q=>eb b o (λw=>hb (by simp [w])) q
  ·exact wpAny_pyIter_valiter y hQ
end
end L2.Dv
namespace HT
open PySem PyProof.Rows
section
variable {prog:Program}{w:World}{A:Around}{E:Value->Shared->Prop}{s:Shared}
theorem getItem_tuple_whole {t sl:Addr}{items:Array Value}{vl vu:Value}{lo hi:Option Int}{Q:Value->Shared->Prop} (ht:IsTup s.heap t items) (hs:s.heap.IsSliceOf sl vl vu .none) (pl:IsPart vl lo) (pu:IsPart vu hi)
  (h0:sIx items.size 0 lo=0) (h1:sIx items.size items.size hi=items.size) (h:Q (.ref t) s):wpAny (model prog w) A (getItem (.ref t) (.ref sl)) Q E s:=by
 have hTs:s.TypeIs (.ref sl) "slice":=by obtain ⟨os,hos,hcs,_⟩:=hs;exact ⟨os,hos,hcs⟩
 unfold getItem
 try with_reducible refine wpAny_holding ?_
 first|refine wpAny_bind (wpAny_pure ?_)|skip
 refine wpAny_bind (wpAny_sequenceKey ht.typeIs (by decide) ?_)
 refine wpAny_bind (wpAny_callSpecial?_slot (name:=Str.ofString "__getitem__") ht.typeIs PyProof.Rows.slot_tuple_getitem
  (wpAny_call_entry PyProof.Rows.slot_tuple_getitem ht.typeIs entry_tuple_getitem ?_ (args_tuple_getitem _ _)))
 show wpAny _ _ (Builtin.Tuple.tupleItemsOf (.ref t) >>= _) _ _ s
 refine wpAny_bind (tupleItemsOf_ ht ?_)
 refine wpAny_bind (wpAny_typeOf hTs ?_)
 rw [if_pos (by decide)]
 refine wpAny_bind (eO hs pl pu ?_)
 show wpAny _ _ (if (((sIx items.size 0 lo:Nat):Int) == 0&&(1:Int) == 1&&(sIx items.size items.size hi - sIx items.size 0 lo) == items.size)=true then _ else _) _ _ s
 rw [h0,h1,if_pos (by simp)]
 unfold Builtin.Tuple.tupleIsExact
 refine wpAny_bind (wpAny_bind (wpAny_typeOf ht.typeIs (wpAny_pure ?_)))
 rw [if_pos (by decide)]
 refine wpAny_bind (wpAny_rule ?_)
 exact wpAny_pure ⟨_,rfl,wpAny_pure h⟩
end
end HT
namespace L2
open PySem PySem.Spec PyProof.Rows
section
variable {X:Cx}
theorem wG:SlR X (λx lo hi H Q=>∃ a xs,x=.ref a/\SqT X.K H a xs/\HT.sIx xs.length 0 lo=0/\HT.sIx xs.length xs.length hi=xs.length/\Q (.ref a) H):=by
 intro pins s σ H x v vl vu lo hi sl Q I rx hs pl pu h
 obtain ⟨a,xs,rfl,hx,h0,h1,q⟩:=h
 cases rx
 obtain ⟨its,r,ht,hz⟩:=I.tuple hx
 have hlen:its.toArray.size=xs.length:=by rw [List.size_toArray];exact r.length.symm
 refine ⟨"tuple",_,PyProof.Rows.slot_tuple_getitem.lookup,ht.typeIs,?_⟩
 exact HT.getItem_tuple_whole ht hs pl pu (by rw [hlen];exact h0) (by rw [hlen];exact h1) ⟨.ref a,H,I,rfl,q⟩
end
end L2
namespace L2.Rv
open PySem PyProof.Rows
section
variable {P:Program}{w:World}{A:Around}{E:Value->Shared->Prop}{s:Shared}
noncomputable def Drawn (items:Array Value) (i:Nat) (v:Value):Prop:=items[items.size - 1 - i]?=some v
end
end L2.Rv
namespace L2
open PySem PySem.Spec PyProof.Rows
section
variable {X:Cx}
end
end L2
namespace L2.Rg
open PySem PyProof.Rows
section
variable {P:Program}{w:World}{A:Around}{E:Value->Shared->Prop}{s:Shared}
end
end L2.Rg
namespace L2
open PySem PySem.Spec PyProof.Rows
section
variable {X:Cx}
end
end L2
namespace L2.Rv
open PySem PyProof.Rows
open AutoSeq1 (wpAny_loadPart')
section
variable {P:Program}{w:World}{A:Around}{E:Value->Shared->Prop}{s:Shared}
end
end L2.Rv
namespace L2
open PySem PySem.Spec PyProof.Rows
section
variable {X:Cx}
theorem tU:bJ X (.type "str") (λus H Q=>∃ i:Int,us=[.int i]/\i.natAbs < 2 ^ 64/\Q (.str (Str.ofString (toString i))) H):=by
 intro pins s σ H xs us Q I r h
 obtain ⟨i,rfl,hi,q⟩:=h
 obtain ⟨u,rfl,ru⟩:=eN r
 obtain ⟨t,rfl⟩:=ru
 refine PySem.P.str_of_int ?_ ⟨.str _,H,I.tok _,⟨s.toks,rfl⟩,q⟩
 by_cases z:i.natAbs=0
 ·rw [z];decide
 ·have:=(Nat.log2_lt z (k:=64)).mpr hi
  omega
noncomputable def A7 (K:PySem.W.Frag):V->List V->Hp->VK->Prop:=λx vs H Q=>∃ sep a ws,x=.str sep/\vs=[.ref a]/\SqL K H a (ws.map V.str)/\(ws.map λy=>y.length + sep.length).sum <= 1000000/\Q (.str (Builtin.Str.glued sep ws)) H
theorem m_:∀ {ws:List Str}{its:List Value},au (ws.map V.str) its->∃ l:List (Str × Tok),its=strValues l/\l.map (·.1)=ws
 | [],_,h=>by cases h;exact ⟨[],rfl,rfl⟩
 | y::ws,_,h=>by
  cases h with
  | cons r t =>
   obtain ⟨tk,rfl⟩:=r
   obtain ⟨l,rfl,e⟩:=m_ t
   exact ⟨(y,tk)::l,rfl,by rw [List.map_cons,e]⟩
theorem ng (g:Array Nat):∀ (ps:List Str) (a:Array Nat),(ps.foldl (λacc (p:Str)=>acc ++ g ++ p.cps) a).size=a.size + (ps.map λp=>p.length + g.size).sum
 | [],a=>by simp
 | p::ps,a=>by
  rw [List.foldl_cons,ng g ps,List.map_cons,List.sum_cons,Array.size_append,Array.size_append]
  show a.size + g.size + p.cps.size + _=a.size + (p.cps.size + g.size + _)
  omega
theorem nh (sep:Str):∀ (ws:List Str),(Builtin.Str.glued sep ws).length <= (ws.map λy=>y.length + sep.length).sum
 | []=>Nat.zero_le _
 | w::ws=>by
  show (ws.foldl (λacc (p:Str)=>acc ++ sep.cps ++ p.cps) w.cps).size <= _
  rw [ng,List.map_cons,List.sum_cons]
  show w.cps.size + _ <= w.cps.size + sep.cps.size + (ws.map λy=>y.length + sep.cps.size).sum
  omega
theorem ni (sep:Str):∀ (ws:List Str) (n:Nat),ws.foldl (λx1 x2=>x1 + x2.length + sep.length) n=n + (ws.map λy=>y.length + sep.length).sum
 | [],n=>rfl
 | w::ws,n=>by
  rw [List.foldl_cons,ni sep ws,List.map_cons,List.sum_cons]
  omega
theorem wH:MtM X "str.join" (A7 X.K):=by
 intro pins s σ H x vs v us Q I rx rv h
 obtain ⟨sep,a,ws,rfl,rfl,hq,hz,q⟩:=h
 obtain ⟨t,rfl⟩:=rx
 obtain ⟨u,rfl,ru⟩:=rv.one
 cases ru
 obtain ⟨its,r,pl,_⟩:=I.list hq
 obtain ⟨l,rfl,rfl⟩:=m_ r
 have big:1000000 <= sizeLine:=by rw [sizeLine_eq];decide
 have hlen:=nh sep (l.map (·.1))
 refine call_meets F.slot_str_join rfl F.entry_str_join (F.args_str_join_2 _ _) (meets_str_join_list sep t a l ?_) ⟨pl.isList,?_⟩
 ·unfold Builtin.Str.tooLong
  rw [List.foldl_toArray,ni]
  refine decide_eq_false ?_
  omega
 ·have gen:(Made.str (Builtin.Str.glued sep (l.map (·.1)))).post (λv s'=>wants (EP X pins σ Q) X.xe (Except.ok (Flow.ret v)) s') s:=by
   simp only [Made.post]
   exact ⟨by omega,⟨.str _,H,I.tok _,⟨s.toks,rfl⟩,q⟩⟩
  match l,q,gen with
  | [],_,gen=>exact gen
  | [p],q,_ =>
   show wants (EP X pins σ Q) X.xe (Except.ok (Flow.ret (Value.str p.1 p.2))) s
   exact ⟨.str p.1,H,I,⟨p.2,rfl⟩,q⟩
  | _::_::_,_,gen=>exact gen
end
end L2
namespace L2.Srt
open PySem PySem.W PySem.Calls PyProof.Rows
open PySem.AutoSeq1 (wpAny_loadPart')
theorem wI (l b:Addr) (xs ys:Array Value) (n n2:Nat) (dd dd2:Option Addr) (sl sl2:Array (Option Value)):∀ (k i:Nat) (ns ms:List Int),xs.size - i=k->i <= xs.size->i <= ys.size->IntsAre (xs.toList.drop i) ns->IntsAre (ys.toList.drop i) ms ->
  Meets (Builtin.«list.__eq__.loop» ⟨[.ref l,.ref b,rawInt i,rawInt 0],[]⟩)
   (λ_ R s=>s.heap.get? l=some { cls:=.type "list",dict:=dd,data:=.seq xs n,slots:=sl }/\s.heap.get? b=some { cls:=.type "list",dict:=dd2,data:=.seq ys n2,slots:=sl2 }/\R (.ok (.ret (.bool (HT.lexLt ns ms)))) s):=by
 intro k
 induction k with
 | zero =>
  intro i ns ms hk h1 h2 hi hj P w A R s h
  obtain ⟨hp,g,d,tk,os⟩:=s
  obtain ⟨hl,hb,h⟩:=h
  wp_walk using wpAny_loadPart' hl,wpAny_loadPart' hb
  rw [show xs[((i:Nat):Int).toNat]?=none from by simp;omega]
  have e1:xs.toList.drop i=[]:=by simp;omega
  rw [e1] at hi
  cases hi
  wp_walk using wpAny_loadPart' hl,wpAny_loadPart' hb
  show R (.ok (.ret (.bool (decide (xs.size < ys.size))))) _
  have e2:HT.lexLt [] ms=decide (xs.size < ys.size):=by
   have hz:=hj.length
   rw [List.length_drop,Array.length_toList] at hz
   cases ms with
   | nil=>rw [HT.lexLt_nil_nil];exact (decide_eq_false (by simp at hz;omega)).symm
   | cons=>rw [HT.lexLt_nil_cons];exact (decide_eq_true (by simp at hz;omega)).symm
  rw [<- e2]
  exact h
 | succ k ih =>
  intro i ns ms hk h1 h2 hi hj P w A R s h
  obtain ⟨hp,g,d,tk,os⟩:=s
  obtain ⟨hl,hb,h⟩:=h
  have lt:i < xs.size:=by omega
  wp_walk using wpAny_loadPart' hl,wpAny_loadPart' hb
  have g1:xs[((i:Nat):Int).toNat]?=some xs[i]:=by simp [lt]
  have e1:xs.toList.drop i=xs[i]::xs.toList.drop (i + 1):=by rw [List.drop_eq_getElem_cons (by simpa using lt)];simp
  rw [e1] at hi
  by_cases lt2:i < ys.size
  ·have g2:ys[((i:Nat):Int).toNat]?=some ys[i]:=by simp [lt2]
   have e2:ys.toList.drop i=ys[i]::ys.toList.drop (i + 1):=by rw [List.drop_eq_getElem_cons (by simpa using lt2)];simp
   rw [e2] at hj
   generalize xs[i]=x at hi g1
   generalize ys[i]=y at hj g2
   cases hi with
   | cons a t hi =>
    cases hj with
    | cons c u hj =>
     rw [HT.lexLt_cons] at h
     rw [g1,g2]
     obtain ⟨e,he,hiff⟩:=HT.eqAt_int A.in1 ⟨hp,g,d,tk,os⟩ a t c u
     refine wpAny_bind (he P w _ _ ?_)
     cases e with
     | true =>
      rw [if_pos (hiff.mp rfl)] at h
      wp_walk
      rw [show ((i:Int) + 1)=((i + 1:Nat):Int) from by omega]
      refine ⟨plainId_quiet MeetsSeq3.plain_eq_loop _,codeAny_builtin MeetsSeq3.entry_eq_loop ?_⟩
      rw [Around.under_plainId MeetsSeq3.plain_eq_loop _]
      exact ih (i + 1) _ _ (by omega) (by omega) (by omega) hi hj P w A R _ ⟨hl,hb,h⟩
     | false =>
      rw [if_neg λq=>absurd (hiff.mpr q) Bool.false_ne_true] at h
      have hri:=HT.rcLt_int A.in1 ⟨hp,g,d,tk,os⟩ a t c u P w
      wp_walk using wpAny_loadPart' hl,wpAny_loadPart' hb
      rw [g1,g2]
      wp_walk using hri
      exact h
  ·have e2:ys.toList.drop i=[]:=by simp;omega
   rw [e2] at hj
   cases hj
   rw [g1,show ys[((i:Nat):Int).toNat]?=none from by simp;omega]
   generalize xs[i]=x at hi
   cases hi with
   | cons a t hi =>
    wp_walk using wpAny_loadPart' hl,wpAny_loadPart' hb
    show R (.ok (.ret (.bool (decide (xs.size < ys.size))))) _
    rw [decide_eq_false (by omega)]
    exact h
theorem wJ (l b:Addr) (xs ys:Array Value) (n n2:Nat) (dd dd2:Option Addr) (sl sl2:Array (Option Value)) (ns ms:List Int) (hi:IntsAre xs.toList ns) (hj:IntsAre ys.toList ms) :
  Meets (Builtin.«list.__lt__» ⟨[.ref l,.ref b],[]⟩) (λ_ R s=>s.heap.get? l=some { cls:=.type "list",dict:=dd,data:=.seq xs n,slots:=sl }/\s.heap.get? b=some { cls:=.type "list",dict:=dd2,data:=.seq ys n2,slots:=sl2 }/\R (.ok (.ret (.bool (HT.lexLt ns ms)))) s) :=
 λP w A R s h=>by
  obtain ⟨hp,g,d,tk,os⟩:=s
  obtain ⟨hl,hb,h⟩:=h
  have f:=AutoSeq1.sub_list_list
  wp_walk using wpAny_loadPart' hl,wpAny_loadPart' hb
  refine ⟨plainId_quiet MeetsSeq3.plain_eq_loop _,codeAny_builtin MeetsSeq3.entry_eq_loop ?_⟩
  rw [Around.under_plainId MeetsSeq3.plain_eq_loop _]
  exact wI l b xs ys n n2 dd dd2 sl sl2 xs.size 0 ns ms (by omega) (Nat.zero_le _) (Nat.zero_le _) (by simpa using hi) (by simpa using hj) P w A R _ ⟨hl,hb,h⟩
noncomputable def i4 (h:Heap) (u:Value) (ts:List Int):Prop:=∃ a its,u=Value.ref a/\h.IsList a its/\IntsAre its.toList ts
theorem i4.mono {h h':Heap} (k:∀ b o,h.get? b=some o->h'.get? b=some o) {u:Value}{ts:List Int} (q:i4 h u ts):i4 h' u ts:=by
 obtain ⟨a,its,e,⟨o,ho,r⟩,hi⟩:=q
 exact ⟨a,its,e,⟨o,k a o ho,r⟩,hi⟩
section
variable {prog:Program}{w:World}{A:Around}{E:Value->Shared->Prop}{s:Shared}
theorem tV {u v:Value}{ns ms:List Int}{C:Bool->Shared->Prop} (hu:A.units < cLine) (h1:i4 s.heap u ns) (h2:i4 s.heap v ms) (h:C (HT.lexLt ns ms) s):wpAny (model prog w) A (keyLt' oneType' u v) C E s:=by
 obtain ⟨a,its,rfl,⟨⟨cls,dd,data,sl⟩,ho,hc,n,hd⟩,hi⟩:=h1
 obtain ⟨b,its2,rfl,⟨⟨cls2,dd2,data2,sl2⟩,ho2,hc2,n2,hd2⟩,hj⟩:=h2
 simp only at hc hd hc2 hd2
 subst hc hd hc2 hd2
 rw [keyLt'_oneType,oneLt'_eq]
 simp only [if_true]
 refine wpAny_bind (wpAny_cRoomFor hu ?_)
 refine wpAny_bind (wpAny_callSpecialIfBound?_slot (T:="list") ⟨_,ho,rfl⟩ PySem.F.slot_list_lt (call_meets PySem.F.slot_list_lt (T:="list") ⟨_,ho,rfl⟩ PySem.F.entry_list_lt (PySem.F.args_list_lt_2 _ _) (wJ a b its its2 n n2 dd dd2 sl sl2 ns ms hi hj) ⟨ho,ho2,?_⟩))
 exact wpAny_truthy_bool h
theorem jV {α:Type}{P:Value->α->Prop}:∀ {us:List Value}{xs:List α},Paired P us xs->∀ (i:Nat) (hi:i < us.length),∃ x,xs[i]?=some x/\P us[i] x
 | _,_,.cons q _,0,_=>⟨_,rfl,q⟩
 | _,_,.cons _ r,i + 1,hi=>by simpa using jV r i (by simpa using hi)
theorem o4 {vs:List Value}{Rs:List (List Int)}{Q:SortKind->Shared->Prop} (h2:2 <= vs.length) (hv:Paired (i4 s.heap) vs Rs) (h:Q oneType' s):wpAny (model prog w) A (keyKind' vs.toArray) Q E s:=by
 refine kas_kind (T:=Value.type "list") h2 (λv hm=>?_) (by simp) (by simp) h
 obtain ⟨i,hi,rfl⟩:=List.mem_iff_getElem.mp hm
 obtain ⟨x,_,a,its,e,⟨o,ho,hc,n,hd⟩,_⟩:=jV hv i hi
 rw [e]
 have q:Looks (model prog w) s.heap (typeOf (.ref a)) o.cls:=(Looks.ld ho).andThen .now
 rw [hc] at q
 exact q
theorem gC {P:Value->List Int->Prop}:∀ {us:List Value}{xs:List (List Int)},Paired P us xs->∀ i,i < us.length->P (us.getD i Value.none) (xs.getD i [])
 | _,_,.cons q _,0,_=>by simpa using q
 | _,_,.cons _ r,i + 1,hi=>by simpa using gC r i (by simpa using hi)
theorem l_ {x:Value}{vs:List Value}{Rs:List (List Int)}{Q:Value->Shared->Prop} (h64:vs.length < 64) (hu:A.units + 2 < cLine) (hv:Paired (i4 s.heap) vs Rs)
  (hcol:∀ (Q':List Value->Shared->Prop),(∀ (h':Heap),(∀ b o,s.heap.get? b=some o->h'.get? b=some o)->Q' vs { s with heap:=h' })->wpAny (model prog w) A.in1 (collect x) Q' E s)
  (h:∀ (h1 h':Heap) (p:Array Nat) (c:Nat),(∀ b o,s.heap.get? b=some o->h1.get? b=some o)->(∀ b o,h1.get? b=some o->h'.get? b=some o)->h'.get? h1.objs.size=some { cls:=.type "list",data:=.seq (p.toList.map λi=>vs.getD i Value.none).toArray c } ->
   PB vs.length p->p.toList.map (λi=>Rs.getD i [])=sortT Rs->Q (.ref h1.objs.size) { s with heap:=h' }) :
  wpAny (model prog w) A (call (.builtin "sorted") [x]) Q E s:=by
 have hlen:vs.length=Rs.length:=Paired.length hv
 refine Calls.call_function_entry kind_sorted plain_sorted entry_sorted (args_sorted1 _) ?_
 unfold Builtin.«sorted»
 refine wpAny_bind (m:=checkCount "sorted" 1 1 _) (wpAny_pure ?_)
 refine wpAny_bind (hcol _ λh1 kp=>?_)
 refine wpAny_bind (wpAny_newList ?_ (by rw [sizeLine_eq];omega))
 have hoL:(h1.push (seqObj "list" vs.toArray 0)).get? h1.objs.size=some (seqObj "list" vs.toArray 0):=Heap.get?_push_size _ rfl
 have up:∀ (s':Shared),(∀ b o,b ≠ h1.objs.size->(h1.push (seqObj "list" vs.toArray 0)).get? b=some o->s'.heap.get? b=some o)->∀ b o,s.heap.get? b=some o->s'.heap.get? b=some o:=λs' k b o e =>
  k b o (Nat.ne_of_lt (Heap.lt_size (kp b o e))) (Heap.get?_push_of_some _ (kp b o e))
 refine wpAny_bind (wpAny_holding (wpAny_call_entry slot_list_sort ⟨_,hoL,rfl⟩ entry_list_sort (gQ (KO:=λκ=>κ=oneType') (O:=cq) (key:=λi=>Rs.getD i []) hoL h64 (λh2 s' Q' k q=>o4 h2 (Paired.mapP hv λ_ _ z=>z.mono (up s' k)) (q _ rfl)) (λκ hκ s' i j C k hi hj q=>?_) λp hp hr=>⟨_,rfl,?_⟩) (args_list_sort _)))
 ·rw [hκ]
  exact tV (show A.units + 1 + 1 < cLine from hu) ((gC hv i hi).mono (up s' k)) ((gC hv j hj).mono (up s' k)) q
 ·obtain ⟨c,hc⟩:=sortedHeap_at (out:=(p.toList.map λi=>vs.getD i Value.none).toArray) (vs:=vs) hoL
  have hp':PB Rs.length p:=by rw [<- hlen];exact hp
  have hr':dU (O:=cq) (λi=>Rs.getD i []) p Rs.length:=by rw [<- hlen];exact hr
  refine wpAny_pure ⟨_,rfl,h h1 _ p c kp (λb o e=>?_) hc hp (tz (O:=cq) (d:=([]:List Int)) (xs:=Rs) hp' hr')⟩
  have hb:b < h1.objs.size:=Heap.lt_size e
  rw [sortedHeap_old (Nat.ne_of_lt hb) (by rw [Heap.size_push];exact Nat.lt_succ_of_lt hb)]
  exact Heap.get?_push_of_some _ e
end
end L2.Srt
namespace L2
open PySem PySem.Spec PyProof.Rows
section
variable {X:Cx}
noncomputable abbrev tX (K:PySem.W.Frag) (H:Hp):List V->List (List Int)->Prop:=Paired λx t=>∃ a,x=V.ref a/\SqL K H a (t.map V.int)
theorem Inv.lstsAt {pins:List (Addr × Obj)}{σ:St}{H:Hp}{s:Shared} (I:Inv X pins σ H s):∀ {xs:List V}{us:List Value}{Rs:List (List Int)},tX X.K H xs Rs->au xs us->Paired (Srt.i4 s.heap) us Rs
 | _,_,_,.nil,.nil=>.nil
 | _,_,_,.cons ⟨a,e1,e2⟩ t,.cons r q=>by
  obtain ⟨its,r',p,_⟩:=I.list e2
  rw [e1] at r
  exact .cons ⟨a,its.toArray,r,p.isList,cT r'⟩ (I.lstsAt t q)
noncomputable def yO (X:Cx):List V->Hp->VK->Prop:=λxs H Q=>∃ (p:Addr) (vs:List V) (Rs:List (List Int)),xs=[.ref p]/\(SqL X.K H p vs \/ SqT X.K H p vs)/\tX X.K H vs Rs/\Rs.length < 64 /\
 ∀ (l:Addr) (pm:List Nat),H l=none->(∀ i ∈ pm,i < vs.length)->pm.map (λi=>Rs.getD i [])=Srt.sortT Rs->Q (.ref l) (upd H l (.lst (pm.map λi=>vs.getD i .non)))
theorem ma (hu:X.A.units + 64 < cLine):bJ X (.builtin "sorted") (yO X):=by
 intro pins s σ H xs us Q I r h
 obtain ⟨p,vs,Rs,rfl,hq,ht,h64,q⟩:=h
 obtain ⟨u,rfl,rx⟩:=eN r
 cases rx
 have key:∀ (its:List Value),au vs its->(∀ (Q':List Value->Shared->Prop),(∀ (h':Heap),(∀ b o,s.heap.get? b=some o->h'.get? b=some o)->Q' its { s with heap:=h' })->wpAny (model X.prog X.w) X.A.in1 (collect (.ref p)) Q' X.xe s) ->
   wpAny (model X.prog X.w) X.A (call (.builtin "sorted") [.ref p]) (EP X pins σ Q) X.xe s:=λits r' hcol=>by
  have hl:=r'.length
  have hl2:vs.length=Rs.length:=Paired.length ht
  refine Srt.l_ (vs:=its) (Rs:=Rs) (by omega) (by omega) (I.lstsAt ht r') hcol λh1 h' pm c k1 k2 e hp ho=>?_
  have hpl:∀ i ∈ pm.toList,i < vs.length:=λi hi=>by
   have:=(Array.perm_iff_toList_perm.mp hp).mem_iff.mp hi
   have:=List.mem_range.mp (by simpa using this)
   omega
  have I1:Inv X pins σ H { s with heap:=h1 }:=I.kept (t':=s.toks) k1
  have I2:Inv X pins σ (upd H h1.objs.size (.lst (pm.toList.map λi=>vs.getD i .non))) { s with heap:=h' } :=
   I1.laid (t':=s.toks) k2 (Nat.le_refl _) (show bB X.prog X.w _ h' _ (.lst _) from ⟨by have:=hp.size;rw [List.length_map,Array.length_toList,sizeLine_eq];omega,_,c,iM r' _ hpl,e⟩)
  exact ⟨.ref h1.objs.size,_,I2,rfl,q _ pm.toList (I1.hok.fresh (Nat.le_refl _)) hpl ho⟩
 rcases hq with hq|hq
 ·obtain ⟨its,r',pl,hz⟩:=I.list hq
  obtain ⟨o,ho,hcl,n,hd⟩:=pl.isList
  refine key its r' λQ' hQ'=>wpAny_collect_seq p (.inl rfl) ho hcl hd (λh' kp=>?_) (by have:=r'.length;simp only [List.size_toArray] <;> omega)
  have:=hQ' h' kp
  simpa using this
 ·obtain ⟨its,r',pl,hz⟩:=I.tuple hq
  obtain ⟨o,ho,hcl,n,hd⟩:=pl
  refine key its r' λQ' hQ'=>wpAny_collect_seq p (.inr rfl) ho hcl hd (λh' kp=>?_) (by have:=r'.length;simp only [List.size_toArray] <;> omega)
  have:=hQ' h' kp
  simpa using this
end
end L2
namespace MM
open PySem
inductive Sc where
 | non|bl (b:Bool)|int (i:Int)|str (x:Str)
 deriving Inhabited,DecidableEq
inductive DD where
 | k (kvs:List (Int × Sc))|t (kvs:List (List Int × Sc))
 deriving Inhabited
inductive PV where
 | non|bl (b:Bool)|int (i:Int)|str (x:Str)|tup (xs:List PV)|lst (xs:List PV)|dI (d:DD)
 | dL (w m:List PV)
 deriving Inhabited
noncomputable def Sc.pv:Sc->PV
 | .non=>.non
 | .bl b=>.bl b
 | .int i=>.int i
 | .str x=>.str x
noncomputable def sc?:PV->Option Sc
 | .non=>some .non
 | .bl b=>some (.bl b)
 | .int i=>some (.int i)
 | .str x=>some (.str x)
 | _=>none
noncomputable def nj {α:Type} [DecidableEq α] (kvs:List (α × Sc)) (k:α):Option Sc:=(kvs.find? λp=>decide (p.1=k)).map (·.2)
noncomputable def nk {α:Type} [DecidableEq α] (kvs:List (α × Sc)) (k:α) (v:Sc):List (α × Sc) :=
 if (kvs.any λp=>decide (p.1=k))=true then kvs.map (λp=>if p.1=k then (p.1,v) else p) else kvs ++ [(k,v)]
noncomputable def eqL (f:PV->PV->Option Bool):List PV->List PV->Option Bool
 | [],[]=>some true
 | x::xs,y::ys=>(f x y).bind λp=>(eqL f xs ys).map λq=>p&&q
 | _,_=>some false
noncomputable def eqF:Nat->PV->PV->Option Bool
 | _,.non,.non=>some true
 | _,.bl a,.bl b=>some (a == b)
 | _,.bl a,.int b=>some ((if a then 1 else 0) == b)
 | _,.int a,.bl b=>some (a == (if b then 1 else 0))
 | _,.int a,.int b=>some (a == b)
 | _,.str a,.str b=>some (a == b)
 | 0,.tup _,.tup _=>none
 | 0,.lst _,.lst _=>none
 | _,.dI _,_=>none
 | _,_,.dI _=>none
 | _,.dL _ _,_=>none
 | _,_,.dL _ _=>none
 | n + 1,.tup a,.tup b=>eqL (eqF n) a b
 | n + 1,.lst a,.lst b=>if a.length=b.length then eqL (eqF n) a b else some false
 | _,_,_=>some false
noncomputable def rK:PV->PV->Bool
 | .tup _,.tup _=>true
 | .lst _,.lst _=>true
 | .tup _,_=>false
 | _,.tup _=>false
 | .lst _,_=>false
 | _,.lst _=>false
 | .bl _,.int _=>false
 | .int _,.bl _=>false
 | .dI _,_=>false
 | _,.dI _=>false
 | .dL _ _,_=>false
 | _,.dL _ _=>false
 | _,_=>true
noncomputable def inL (f:PV->Option Bool):List PV->Option Bool
 | []=>some false
 | y::ys=>(f y).bind λp=>(inL f ys).map λq=>p || q
inductive MV where
 | val (v:PV)|own (xs:List PV)|brw (xs:List PV)|ownD (d:DD)|brwD (d:DD)
 | ownO (m:Bool) (fs xs:List PV)|brwO (fs xs:List PV)
 deriving Inhabited
noncomputable abbrev Rho:=List (Option MV)
noncomputable def tY (ρ:Rho) (k:Nat):Bool:=match ρ[k]? with|some none=>true|_=>false
inductive Op2 where
 | add|sub|mul|fdiv|mod|pow|shr
 deriving DecidableEq
inductive Cp where
 | eq|ne|lt|le|gt|ge|isN|notN|isIn|notIn
 deriving DecidableEq
inductive Blt where
 | len|tupleOf|listOf|sorted|any|all|sum|max1|min1|max2|min2|intOf|boolOf|isInt|isBool|isStr|isList|isTuple
 | sortedSet|lenSet|lenSetSub|sortedKeys|valuesOf|tupleRev
 | strOf
 deriving DecidableEq
inductive Sk where
 | seq|rng|enm|rev
 deriving DecidableEq
noncomputable def sk2:Sk:=.enm
set_option genInjectivity false in
inductive ME where
 | var (i:Nat)
 | bor (i:Nat)
 | cst (v:PV)
 | glob (x:Str) (v:PV)
 | bin (op:Op2) (a b:ME)
 | neg (a:ME)
 | not (a:ME)
 | and (a b:ME)
 | or (a b:ME)
 | ite (c a b:ME)
 | cmp (op:Cp) (a b:ME)
 | chain (op op':Cp) (a b c:ME)
 | tup (es:List ME)
 | lst (es:List ME)
 | idx (a i:ME)
 | slice (a lo hi:ME)
 | blt (b:Blt) (es:List ME)
 | call (f:Nat) (es:List ME)
 | callD (f:Nat) (es:List ME) (d:List Sc)
 | comp (k:Sk) (src:List ME) (js:List Nat) (cond elt:ME)
 | dget (a k d:ME)
 | dat (a k:ME)
 | dIn (neg:Bool) (k a:ME)
 | datL (e:ME) (b:Bool)
 | disp (kvs:List (Str × Str)) (e:ME)
 | join (x:Str) (e:ME)
 | fld (i n:Nat)
 | fldL (i:Nat)
 | inO (neg:Bool) (e:ME) (i:Nat)
 | callM (f i:Nat) (es:List ME)
 | comp2 (src:List ME) (js:List Nat) (cond elt:ME)
 | callV (f:Nat) (es:List ME)
 deriving Inhabited
noncomputable def aU:List PV->Option (List Int)
 | []=>some []
 | .int i::r=>(aU r).map (i::·)
 | _=>none
noncomputable def eC:List PV->Option (List (List Int))
 | []=>some []
 | .tup xs::r=>(aU xs).bind λx=>(eC r).map (x::·)
 | _=>none
noncomputable def cv:Bool->List Int->List Int
 | _,[]=>[]
 | true,x::xs=>x::cv false xs
 | false,_::xs=>cv true xs
noncomputable def bg (t:Str) (n:Nat):Str:=if n % 2=0 then t else if t="weaver" then "moth" else "weaver"
noncomputable def eD:List PV->Option (List (List Int))
 | []=>some []
 | .lst xs::r=>(aU xs).bind λx=>(eD r).map (x::·)
 | _=>none
noncomputable def bO:List PV->Option (List Bool)
 | []=>some []
 | .bl i::r=>(bO r).map (i::·)
 | _=>none
noncomputable def gW (kvs:List (Str × Str)):List (L2.Key × L2.V):=kvs.map λp=>(Sum.inr p.1,L2.V.str p.2)
noncomputable def wK (kvs:List (Str × Str)):PV->Option PV
 | .str x=>(L2.gN (L2.dS [] (gW kvs)) (Sum.inr x)).bind λv=>match v with|.str y=>some (.str y)|_=>none
 | _=>none
noncomputable def dY:List PV->Option (List Str)
 | []=>some []
 | .str i::r=>(dY r).map (i::·)
 | _=>none
noncomputable def aZ (n:Int):Str:=Str.ofString (toString n)
noncomputable def tZ (x:Str):PV->Option PV
 | .lst xs=>(dY xs).bind λws=>if (ws.map λy=>y.length + x.length).sum <= 1000000 then some (.str (Builtin.Str.glued x ws)) else none
 | _=>none
noncomputable def t0:PV->PV->Option (Option Sc)
 | .dI (.k kvs),.int i=>some (nj kvs i)
 | .dI (.t kvs),.tup xs=>(aU xs).map (nj kvs)
 | _,_=>none
noncomputable def yP:DD->PV->Sc->Option DD
 | .k kvs,.int i,s=>if kvs.length < 10000 then some (.k (nk kvs i s)) else none
 | .t kvs,.tup xs,s=>(aU xs).bind λk=>if kvs.length < 10000 then some (.t (nk kvs k s)) else none
 | _,_,_=>none
noncomputable def dSc:DD->List Sc
 | .k kvs=>kvs.map (·.2)
 | .t kvs=>kvs.map (·.2)
noncomputable def qg (d:DD):List PV:=(dSc d).map Sc.pv
noncomputable def lexLt:List Int->List Int->Bool
 | [],[]=>false
 | [],_::_=>true
 | _::_,[]=>false
 | x::xs,y::ys=>if x=y then lexLt xs ys else decide (x < y)
noncomputable def t4 (x:Int):List Int->List Int
 | []=>[x]
 | y::r=>if y < x then y::t4 x r else x::y::r
noncomputable def sortI:List Int->List Int
 | []=>[]
 | x::r=>t4 x (sortI r)
noncomputable def t5 (x:List Int):List (List Int)->List (List Int)
 | []=>[x]
 | y::r=>if lexLt y x=true then y::t5 x r else x::y::r
noncomputable def sortT:List (List Int)->List (List Int)
 | []=>[]
 | x::r=>t5 x (sortT r)
noncomputable def dd:List Int->List Int
 | []=>[]
 | x::r=>if x ∈ dd r then dd r else x::dd r
noncomputable def gX {α:Type} (f:Int->Int->Option α):PV->PV->Option α
 | .int i,.int j=>f i j
 | _,_=>none
noncomputable def xT:PV->PV->Option PV
 | .int i,.int j=>some (.int (i + j))
 | .lst a,.lst b=>if a.length + b.length <= 10000 then some (.lst (a ++ b)) else none
 | .tup a,.tup b=>if a.length + b.length <= 10000 then some (.tup (a ++ b)) else none
 | .str a,.str b=>if a.length + b.length <= 1000000 then some (.str (a ++ b)) else none
 | _,_=>none
noncomputable def gY (op:Op2):PV->PV->Option PV:=match op with
 | .add=>xT
 | .sub=>gX λi j=>some (.int (i - j))
 | .mul=>gX λi j=>if (-(2 ^ 64) < i/\i < 2 ^ 64) \/ (-(2 ^ 64) < j/\j < 2 ^ 64) then some (.int (i * j)) else none
 | .fdiv=>gX λi j=>if 0 < j/\j < 1073741824 then some (.int (i / j)) else none
 | .mod=>gX λi j=>if 0 < j then some (.int (i % j)) else none
 | .pow=>gX λi j=>if 0 <= j/\j <= 1000000/\i.natAbs < 2 ^ 64 then some (.int (i ^ j.toNat)) else none
 | .shr=>gX λi j=>if 0 <= j then some (.int (i / 2 ^ j.toNat)) else none
noncomputable def fu:PV->Bool
 | .non=>true
 | _=>false
noncomputable def isIn (x:PV) (xs:List PV):Option Bool:=inL (λy=>eqF 100 y x) xs
noncomputable def A8 (a b:PV):Option Bool:=match b with
 | .non=>some (fu a)
 | .bl q=>(match a with|.bl p=>some (p == q)|_=>none)
 | _=>none
noncomputable def a9:PV->Option (List PV)
 | .tup xs=>some xs
 | .lst xs=>some xs
 | _=>none
noncomputable def gh:PV->Option (List PV)
 | .lst xs=>some xs
 | _=>none
noncomputable def cc (op:Cp):PV->PV->Option Bool:=match op with
 | .eq=>eqF 100
 | .ne=>λa b=>if rK a b=true then (eqF 100 a b).map λp=>!p else none
 | .lt=>gX λi j=>some (decide (i < j))
 | .le=>gX λi j=>some (decide (i <= j))
 | .gt=>gX λi j=>some (decide (j < i))
 | .ge=>gX λi j=>some (decide (j <= i))
 | .isN=>A8
 | .notN=>λa b=>(A8 a b).map λp=>!p
 | .isIn=>λa b=>(a9 b).bind (isIn a)
 | .notIn=>λa b=>((a9 b).bind (isIn a)).map λp=>!p
noncomputable def place (n:Nat) (i:Int):Option Nat :=
 if 0 <= i then (if i < n then some i.toNat else none) else if -(n:Int) <= i then some (i + n).toNat else none
noncomputable def jW:PV->PV->Option PV
 | .tup xs,.int i=>(place xs.length i).bind λj=>xs[j]?
 | .lst xs,.int i=>(place xs.length i).bind λj=>xs[j]?
 | _,_=>none
noncomputable def gp (n d:Nat):Option Int->Nat
 | none=>d
 | some i=>if i < 0 then (i + n).toNat else min i.toNat n
noncomputable def cut (xs:List PV) (lo hi:Option Int):List PV:=(xs.drop (gp xs.length 0 lo)).take (gp xs.length xs.length hi - gp xs.length 0 lo)
noncomputable def jj:PV->Option Int->Option Int->Option PV
 | .lst xs,lo,hi=>some (.lst (cut xs lo hi))
 | .tup xs,lo,hi=>some (.tup (cut xs lo hi))
 | _,_,_=>none
noncomputable def bnd:ME->PV->Option (Option Int)
 | .cst .non,_=>some none
 | _,.int i=>some (some i)
 | _,_=>none
noncomputable def A9:List Int->Option Int
 | []=>none
 | x::r=>some (r.foldl (λa b=>if a < b then b else a) x)
noncomputable def dk (xs:List PV):Option PV :=
 if xs.length < 64 then
  match aU xs with
  | some ns=>some (.lst ((sortI ns).map .int))
  | none=>match eC xs with
   | some ts=>some (.lst ((sortT ts).map λt=>.tup (t.map .int)))
   | none=>(eD xs).map λts=>.lst ((sortT ts).map λt=>.lst (t.map .int))
 else none
noncomputable def isT (b:Blt):PV->Bool
 | .int _=>b == .isInt
 | .bl _=>b == .isInt || b == .isBool
 | .str _=>b == .isStr
 | .lst _=>b == .isList
 | .tup _=>b == .isTuple
 | .non=>false
 | .dI _=>false
 | .dL _ _=>false
noncomputable def isD:PV->Bool
 | .dI _=>true
 | .dL _ _=>true
 | _=>false
noncomputable def ce (vs:List PV) (f:PV->Option PV):Option PV:=match vs with
 | [a]=>f a
 | _=>none
noncomputable def gD (vs:List PV) (f:PV->PV->Option PV):Option PV:=match vs with
 | [a,b]=>f a b
 | _=>none
noncomputable def fH (b:Blt) (vs:List PV):Option PV:=ce vs λa=>if isD a=true then none else some (.bl (isT b a))
noncomputable def xU:PV->Option PV
 | .tup xs=>some (.int xs.length)
 | .lst xs=>some (.int xs.length)
 | .dI (.k kvs)=>some (.int kvs.length)
 | _=>none
noncomputable def av (b:Blt) (vs:List PV):Option PV:=match b with
 | .len=>ce vs xU
 | .tupleOf=>ce vs λa=>(a9 a).map .tup
 | .listOf=>ce vs λa=>(a9 a).map .lst
 | .sorted=>ce vs λa=>(a9 a).bind dk
 | .any=>ce vs λa=>(gh a).bind λxs=>(bO xs).map λbs=>.bl (bs.any id)
 | .all=>ce vs λa=>(gh a).bind λxs=>(bO xs).map λbs=>.bl (bs.all id)
 | .sum=>ce vs λa=>(gh a).bind λxs=>(aU xs).map λns=>.int ns.sum
 | .max1=>ce vs λa=>(gh a).bind λxs=>(aU xs).bind λns=>(A9 ns).map .int
 | .min1=>none
 | .max2=>gD vs (gX λi j=>some (.int (if j > i then j else i)))
 | .min2=>gD vs (gX λi j=>some (.int (if j < i then j else i)))
 | .intOf=>ce vs λa=>match a with|.int i=>some (.int i)|.bl b=>some (.int (if b then 1 else 0))|_=>none
 | .boolOf=>ce vs λa=>match a with|.bl b=>some (.bl b)|_=>none
 | .isInt=>fH .isInt vs
 | .isBool=>fH .isBool vs
 | .isStr=>fH .isStr vs
 | .isList=>fH .isList vs
 | .isTuple=>fH .isTuple vs
 | .sortedSet=>ce vs λa=>(a9 a).bind λxs=>(aU xs).bind λns=>if ns.length <= 1000/\(dd ns).length < 64 then some (.lst ((sortI (dd ns)).map .int)) else none
 | .lenSet=>ce vs λa=>(a9 a).bind λxs=>(aU xs).bind λns=>if ns.length <= 1000 then some (.int (dd ns).length) else none
 | .lenSetSub=>gD vs λa b=>(a9 a).bind λxs=>(aU xs).bind λns=>(a9 b).bind λys=>(aU ys).bind λms =>
   if ns.length <= 1000/\ms.length <= 1000/\(dd ns).length <= 60 then some (.int ((dd ns).filter λn=>!decide (n ∈ ms)).length) else none
 | .sortedKeys=>ce vs λa=>match a with|.dI (.k kvs)=>if kvs.length < 64 then some (.lst ((sortI (kvs.map (·.1))).map .int)) else none|_=>none
 | .tupleRev=>ce vs λa=>(gh a).map λxs=>.tup xs.reverse
 | .strOf=>ce vs λa=>match a with|.int i=>if i.natAbs < 2 ^ 64 then some (.str (aZ i)) else none|.str x=>some (.str x)|_=>none
 | .valuesOf=>ce vs λa=>match a with|.dI d=>if (qg d).length <= 10000 then some (.lst (qg d)) else none|_=>none
noncomputable def cf (n:Nat):List PV->List PV
 | []=>[]
 | x::r=>.tup [.int (n:Nat),x]::cf (n + 1) r
noncomputable def cm:Sk->List PV->Option (List PV)
 | .seq,[a]=>a9 a
 | .rng,[.int j]=>if -(2 ^ 62) <= j/\j < 2 ^ 62 then some ((List.range j.toNat).map λ(k:Nat)=>.int ((0:Int) + k)) else none
 | .rng,[.int i,.int j]=>if -(2 ^ 62) <= i/\i < 2 ^ 62/\-(2 ^ 62) <= j/\j < 2 ^ 62 then some ((List.range (j - i).toNat).map λ(k:Nat)=>.int (i + k)) else none
 | .enm,[a]=>(a9 a).map (cf 0)
 | .rev,[.lst xs]=>some xs.reverse
 | _,_=>none
noncomputable def dZ (c:PV->Option Bool) (f:PV->Option PV):List PV->Option (List PV)
 | []=>some []
 | x::r=>(c x).bind λb=>if b=true then (f x).bind λy=>(dZ c f r).map (y::·) else dZ c f r
noncomputable def aJ:PV->Option Bool
 | .bl b=>some b
 | _=>none
noncomputable abbrev Cal:=Nat->List MV->Option PV
noncomputable def qh:Option MV->Option PV
 | some (.val v)=>some v
 | _=>none
noncomputable def bh:Option MV->Option PV
 | some (.val v)=>some v
 | some (.own xs)=>some (.lst xs)
 | some (.brw xs)=>some (.lst xs)
 | some (.ownD kvs)=>some (.dI kvs)
 | some (.brwD kvs)=>some (.dI kvs)
 | some (.ownO _ _ _)=>none
 | some (.brwO _ _)=>none
 | none=>none
noncomputable def cg:Option MV->Option MV
 | some (.val v)=>some (.val v)
 | some (.own xs)=>some (.brw xs)
 | some (.brw xs)=>some (.brw xs)
 | some (.ownD xs)=>some (.brwD xs)
 | some (.brwD xs)=>some (.brwD xs)
 | some (.ownO _ fs xs)=>some (.brwO fs xs)
 | some (.brwO fs xs)=>some (.brwO fs xs)
 | none=>none
noncomputable def cQ:Option MV->Option MV
 | some (.own xs)=>some (.brw xs)
 | some (.ownD xs)=>some (.brwD xs)
 | some (.ownO _ fs xs)=>some (.brwO fs xs)
 | o=>o
noncomputable def cW (js:List Nat) (ρ:Rho) (x:PV):Rho:=some (.val x)::js.map λj=>cQ (ρ[j]?).join
noncomputable def gE:Option MV->Option (List PV × List PV)
 | some (.ownO _ fs xs)=>some (fs,xs)
 | some (.brwO fs xs)=>some (fs,xs)
 | _=>none
noncomputable def qi:Option MV->Option PV
 | some (.brwO _ xs)=>some (.lst xs)
 | _=>none
noncomputable def unB:MV->MV
 | .brw xs=>.val (.lst xs)
 | m=>m
noncomputable def A_ (js:List Nat) (ρ:Rho):PV->Rho
 | .tup [a,b]=>some (.val a)::some (.val b)::js.map λj=>cQ (ρ[j]?).join
 | _=>[]
noncomputable def xV:Option MV->Option PV
 | some (.ownO _ _ xs)=>some (.lst xs)
 | _=>none
mutual
noncomputable def ev (cal:Cal):ME->Rho->Option PV
 | .var i,ρ=>qh (ρ[i]?).join
 | .bor i,ρ=>bh (ρ[i]?).join
 | .cst v,_=>some v
 | .glob _ v,_=>some v
 | .bin op a b,ρ=>(ev cal a ρ).bind λx=>(ev cal b ρ).bind λy=>gY op x y
 | .neg a,ρ=>(ev cal a ρ).bind λx=>match x with|.int i=>some (.int (-i))|_=>none
 | .not a,ρ=>((ev cal a ρ).bind aJ).map λb=>.bl (!b)
 | .and a b,ρ=>((ev cal a ρ).bind aJ).bind λc=>if c=true then (ev cal b ρ).bind λy=>(aJ y).map .bl else some (.bl false)
 | .or a b,ρ=>((ev cal a ρ).bind aJ).bind λc=>if c=true then some (.bl true) else (ev cal b ρ).bind λy=>(aJ y).map .bl
 | .ite c a b,ρ=>((ev cal c ρ).bind aJ).bind λk=>if k=true then ev cal a ρ else ev cal b ρ
 | .cmp op a b,ρ=>(ev cal a ρ).bind λx=>(ev cal b ρ).bind λy=>(cc op x y).map .bl
 | .chain op op' a b c,ρ=>(ev cal a ρ).bind λx=>(ev cal b ρ).bind λy=>(cc op x y).bind λk=>if k=true then (ev cal c ρ).bind λz=>(cc op' y z).map .bl else some (.bl false)
 | .tup es,ρ=>(evs cal es ρ).bind λvs=>if vs.length <= 10000 then some (.tup vs) else none
 | .lst es,ρ=>(evs cal es ρ).bind λvs=>if vs.length <= 10000 then some (.lst vs) else none
 | .idx a i,ρ=>(ev cal a ρ).bind λx=>(ev cal i ρ).bind λy=>jW x y
 | .slice a lo hi,ρ=>(ev cal a ρ).bind λx=>((ev cal lo ρ).bind λl=>bnd lo l).bind λl=>((ev cal hi ρ).bind λh=>bnd hi h).bind λh=>jj x l h
 | .blt b es,ρ=>(evs cal es ρ).bind λvs=>av b vs
 | .call f es,ρ=>(evA cal es ρ).bind λvs=>cal f vs
 | .callD f es d,ρ=>(evA cal es ρ).bind λvs=>cal f (vs ++ d.map λx=>.val x.pv)
 | .comp k src js cond elt,ρ=>(evs cal src ρ).bind λvs=>(cm k vs).bind λxs =>
   if xs.length <= 10000 then (dZ (λx=>(ev cal cond (cW js ρ x)).bind aJ) (λx=>ev cal elt (cW js ρ x)) xs).map .lst else none
 | .dget a k d,ρ=>(ev cal a ρ).bind λx=>(ev cal k ρ).bind λy=>(ev cal d ρ).bind λz=>(t0 x y).bind λo=>(sc? z).map λs=>(o.getD s).pv
 | .dat a k,ρ=>(ev cal a ρ).bind λx=>(ev cal k ρ).bind λy=>(t0 x y).bind λo=>o.map Sc.pv
 | .dIn neg k a,ρ=>(ev cal k ρ).bind λy=>(ev cal a ρ).bind λx=>(t0 x y).map λo=>.bl (if neg=true then !o.isSome else o.isSome)
 | .datL e b,ρ=>(ev cal e ρ).bind λv=>match v with|.dL w m=>some (.lst (if b=true then w else m))|_=>none
 | .disp kvs e,ρ=>(ev cal e ρ).bind (wK kvs)
 | .join x e,ρ=>(ev cal e ρ).bind (tZ x)
 | .fld i n,ρ=>(gE (ρ[i]?).join).bind λo=>o.1[n]?
 | .fldL i,ρ=>qi (ρ[i]?).join
 | .inO neg e i,ρ=>(ev cal e ρ).bind λy=>(xV (ρ[i]?).join).bind λx=>(cc (if neg=true then .notIn else .isIn) y x).map .bl
 | .callM f i es,ρ=>(gE (ρ[i]?).join).bind λo=>(evA cal es ρ).bind λvs=>cal f (.brwO o.1 o.2::vs)
 | .callV f es,ρ=>(evA cal es ρ).bind λvs=>(cal f (vs.map unB)).bind λr=>(sc? r).map λ_=>r
 | .comp2 src js cond elt,ρ=>(evs cal src ρ).bind λvs=>(cm sk2 vs).bind λxs =>
   if xs.length <= 10000 then (dZ (λx=>(ev cal cond (A_ js ρ x)).bind aJ) (λx=>ev cal elt (A_ js ρ x)) xs).map .lst else none
noncomputable def evs (cal:Cal):List ME->Rho->Option (List PV)
 | [],_=>some []
 | e::es,ρ=>(ev cal e ρ).bind λv=>(evs cal es ρ).map (v::·)
noncomputable def evA (cal:Cal):List ME->Rho->Option (List MV)
 | [],_=>some []
 | .bor i::es,ρ=>(cg (ρ[i]?).join).bind λv=>(evA cal es ρ).map (v::·)
 | .fldL _::_,_=>none
 | e::es,ρ=>(ev cal e ρ).bind λv=>(evA cal es ρ).map (MV.val v::·)
end
noncomputable def evB (cal:Cal) (e:ME) (ρ:Rho):Option Bool:=(ev cal e ρ).bind aJ
set_option genInjectivity false in
inductive MS where
 | set (i:Nat) (e:ME)
 | setOwn (i:Nat) (e:ME)
 | freeze (i:Nat)
 | append (i:Nat) (e:ME)
 | extend (i:Nat) (e:ME)
 | mkO (i:Nat) (es:List ME)
 | appO (i:Nat) (e:ME)
 | retT (e:ME)
 | takeO (j:Option Nat) (i f:Nat) (es:List ME)
 | setIdx (i:Nat) (k v:ME)
 | unpack (is:List Nat) (e:ME)
 | expr (e:ME)
 | ite (c:ME) (a b:List MS)
 | for1 (i:Nat) (k:Sk) (src:List ME) (body:List MS)
 | forT (is:List Nat) (k:Sk) (src:List ME) (body:List MS)
 | while (n:Nat) (c:ME) (body:List MS)
 | ret (e:ME)
 | retOwn (i:Nat)
 | retN
 | brk
 | cont
 | pass
 | never
 | newD (m:Bool) (i:Nat)
 | retF (e:ME)
 | setCall (i f:Nat) (es:List ME)
 | clear (i:Nat)
 | own3 (i j k d:Nat) (h:ME)
 | dput (i:Nat) (k v:ME)
 deriving Inhabited
inductive R where
 | next (ρ:Rho)|brk (ρ:Rho)|cont (ρ:Rho)|ret (v:PV)|bad
 | retF (xs:List PV)
 | retT (v:Sc) (ρ:Rho)
 deriving Inhabited
noncomputable def R.andThen:R->(Rho->R)->R
 | .next ρ,k=>k ρ
 | r,_=>r
noncomputable def put (ρ:Rho) (i:Nat) (v:MV):Rho:=ρ.set i (some v)
noncomputable def dh (o:Option PV) (k:PV->R):R:=match o with
 | some v=>k v
 | none=>.bad
noncomputable def t6 (o:Option Bool) (k:Bool->R):R:=match o with
 | some v=>k v
 | none=>.bad
noncomputable def kN:List Nat->List PV->Rho->Option Rho
 | [],[],ρ=>some ρ
 | i::is,v::vs,ρ=>kN is vs (put ρ i (.val v))
 | _,_,_=>none
noncomputable def jX (is:List Nat):PV->Rho->Option Rho
 | .tup vs,ρ=>kN is vs ρ
 | _,_=>none
noncomputable def fv (o:Option Rho) (f:Rho->R):R:=match o with
 | some ρ=>f ρ
 | none=>.bad
noncomputable def be (body:PV->Rho->R):List PV->Rho->R
 | [],ρ=>.next ρ
 | x::r,ρ=>match body x ρ with
  | .next ρ'=>be body r ρ'
  | .cont ρ'=>be body r ρ'
  | .brk ρ'=>.next ρ'
  | .ret v=>.ret v
  | .bad=>.bad
  | .retF xs=>.retF xs
  | .retT v ρ'=>.retT v ρ'
noncomputable def mf (c:Rho->Option Bool) (body:Rho->R):Nat->Rho->R
 | 0,_=>.bad
 | n + 1,ρ=>match c ρ with
  | none=>.bad
  | some false=>.next ρ
  | some true=>match body ρ with
   | .next ρ'=>mf c body n ρ'
   | .cont ρ'=>mf c body n ρ'
   | .brk ρ'=>.next ρ'
   | .ret v=>.ret v
   | .bad=>.bad
   | .retF xs=>.retF xs
   | .retT v ρ'=>.retT v ρ'
noncomputable def bA (src:List ME) (ρ:Rho):Rho:=match src with
 | [.bor i]=>(match (ρ[i]?).join with|some (.own xs)=>put ρ i (.brw xs)|_=>ρ)
 | _=>ρ
noncomputable def ba (src:List ME) (ρ₀ ρ:Rho):Rho:=match src with
 | [.bor i]=>(match (ρ₀[i]?).join,(ρ[i]?).join with|some (.own _),some (.brw xs)=>put ρ i (.own xs)|_,_=>ρ)
 | _=>ρ
noncomputable def R.back (src:List ME) (ρ₀:Rho):R->R
 | .next ρ=>.next (ba src ρ₀ ρ)
 | .brk ρ=>.brk (ba src ρ₀ ρ)
 | .cont ρ=>.cont (ba src ρ₀ ρ)
 | .retT v ρ=>.retT v (ba src ρ₀ ρ)
 | r=>r
noncomputable def isL:MV->Bool
 | .ownO _ _ _=>true
 | _=>false
noncomputable def rL (ρ:Rho) (i:Nat):Bool:=(ρ.set i none).all λo=>match o with|some m=>!isL m|none=>true
noncomputable def rM:List PV->Option (List PV)
 | [.tup [c,r],o]=>some [c,r,o]
 | [.tup [c,r]]=>some [c,r,.str "weaver"]
 | _=>none
mutual
noncomputable def ex (cal:Cal):MS->Rho->R
 | .set i e,ρ=>dh (ev cal e ρ) λv=>.next (put ρ i (.val v))
 | .setOwn i e,ρ=>dh (ev cal e ρ) λv=>match v with|.lst xs=>.next (put ρ i (.own xs))|_=>.bad
 | .freeze i,ρ=>match (ρ[i]?).join with|some (.own xs)=>.next (put ρ i (.val (.lst xs)))|some _=>.next ρ|none=>.bad
 | .append i e,ρ=>dh (ev cal e ρ) λv=>match (ρ[i]?).join with
  | some (.own xs)=>if xs.length < 10000 then .next (put ρ i (.own (xs ++ [v]))) else .bad
  | _=>.bad
 | .extend i e,ρ=>dh (ev cal e ρ) λv=>match (ρ[i]?).join,a9 v with
  | some (.own xs),some ys=>if xs.length + ys.length <= 10000 then .next (put ρ i (.own (xs ++ ys))) else .bad
  | _,_=>.bad
 | .mkO i es,ρ=>match (evs cal es ρ).bind rM with
  | some fs=>if rL ρ i=true/\cal 4000 [] ≠ none then .next (put ρ i (.ownO false fs [])) else .bad
  | none=>.bad
 | .appO i e,ρ=>dh (ev cal e ρ) λv=>match (ρ[i]?).join with
  | some (.ownO m fs xs)=>if xs.length < 10000 then .next (put ρ i (.ownO m fs (xs ++ [v]))) else .bad
  | _=>.bad
 | .retT e,ρ=>dh (ev cal e ρ) λv=>match sc? v with
  | some s=>.retT s ρ
  | none=>.bad
 | .takeO j i f es,ρ=>match (ρ[i]?).join with
  | some (.ownO m fs xs)=>(match (evs cal es ρ).bind λvs=>cal (f + 3000) (.ownO true fs xs::vs.map .val) with
   | some (.tup [v,.lst ys])=>(match sc? v with
    | some _=>(match j with
     | some j=>if i=j then .bad else .next (put (put ρ i (.ownO m fs ys)) j (.val v))
     | none=>.next (put ρ i (.ownO m fs ys)))
    | none=>.bad)
   | _=>.bad)
  | _=>.bad
 | .setIdx i k v,ρ=>dh (ev cal v ρ) λv=>dh (ev cal k ρ) λk=>match (ρ[i]?).join,k with
  | some (.own xs),.int k=>(match place xs.length k with|some j=>.next (put ρ i (.own (xs.set j v)))|none=>.bad)
  | _,_=>.bad
 | .unpack is e,ρ=>dh (ev cal e ρ) λv=>fv (jX is v ρ) .next
 | .expr e,ρ=>dh (ev cal e ρ) λ_=>.next ρ
 | .ite c a b,ρ=>t6 (evB cal c ρ) λk=>if k=true then exs cal a ρ else exs cal b ρ
 | .for1 i k src body,ρ=>match (evs cal src ρ).bind (cm k) with
  | some xs=>(be (λx ρ'=>exs cal body (put ρ' i (.val x))) xs (bA src ρ)).back src ρ
  | none=>.bad
 | .forT is k src body,ρ=>match (evs cal src ρ).bind (cm k) with
  | some xs=>(be (λx ρ'=>fv (jX is x ρ') λρ''=>exs cal body ρ'') xs (bA src ρ)).back src ρ
  | none=>.bad
 | .while n c body,ρ=>mf (evB cal c) (λρ'=>exs cal body ρ') n ρ
 | .ret e,ρ=>dh (ev cal e ρ) .ret
 | .retOwn i,ρ=>match (ρ[i]?).join with|some (.own xs)=>.ret (.lst xs)|some (.ownD kvs)=>.ret (.dI kvs)|some (.val v)=>.ret v|_=>.bad
 | .newD m i,ρ=>.next (put ρ i (.ownD (if m=true then .t [] else .k [])))
 | .dput i k v,ρ=>dh (ev cal v ρ) λv=>dh (ev cal k ρ) λk=>match (ρ[i]?).join,sc? v with
  | some (.ownD d),some s=>match yP d k s with|some d'=>.next (put ρ i (.ownD d'))|none=>.bad
  | _,_=>.bad
 | .retF e,ρ=>dh (ev cal e ρ) λv=>match v with|.lst xs=>.retF xs|_=>.bad
 | .setCall i f es,ρ=>dh ((evA cal es ρ).bind λvs=>cal (f + 1000) vs) λv=>match v with|.lst xs=>.next (put ρ i (.own xs))|_=>.bad
 | .clear i,ρ=>match (ρ[i]?).join with|some (.own _)=>.next (put ρ i (.own []))|_=>.bad
 | .retN,_=>.ret .non
 | .brk,ρ=>.brk ρ
 | .cont,ρ=>.cont ρ
 | .own3 i j k d h,ρ=>match (ρ[d]?).join,ev cal h ρ with
  | some (.brw xs),some (.str t)=>(match aU xs with
   | some ns=>if ns.length <= 1000/\tY ρ k=true/\tY ρ i=true/\j < ρ.length/\(t="weaver" \/ t="moth") then .next (put (put ρ i (.val (.dL ((cv (t == "weaver") ns).map .int) ((cv (t == "moth") ns).map .int)))) j (.val (.str (bg t ns.length)))) else .bad
   | none=>.bad)
  | _,_=>.bad
 | .pass,ρ=>.next ρ
 | .never,_=>.bad
noncomputable def exs (cal:Cal):List MS->Rho->R
 | [],ρ=>.next ρ
 | s::ss,ρ=>(ex cal s ρ).andThen λρ'=>exs cal ss ρ'
end
structure MD where
 name:Str
 params:List Str
 names:List Str
 body:List MS
 meth:Option Str:=none
 deriving Inhabited
noncomputable def rN:Sc->Rho->Option PV
 | v,some (.ownO true _ xs)::_=>some (.tup [v.pv,.lst xs])
 | _,_=>none
noncomputable def ac (ds:List MD):Nat->Cal
 | 0,_,_=>none
 | n + 1,f,args=>match ds[f]? with
  | none=>if f=4000 then (if 1 <= n then some (.bl true) else none) else if 2000 <= f then (
   match ds[f - 3000]? with
   | none=>none
   | some d=>if args.length=d.params.length then
     (match exs (ac ds n) d.body (args.map some ++ List.replicate (d.names.length - args.length) none) with
     | .retT v ρ=>rN v ρ
     | _=>none) else none) else
   (match ds[f - 1000]? with
   | none=>none
   | some d=>if args.length=d.params.length then
     (match exs (ac ds n) d.body (args.map some ++ List.replicate (d.names.length - args.length) none) with
     | .retF xs=>some (.lst xs)
     | _=>none) else none)
  | some d=>if args.length=d.params.length then
    (match exs (ac ds n) d.body (args.map some ++ List.replicate (d.names.length - args.length) none) with
    | .next _=>some .non
    | .ret v=>some v
    | .retF xs=>some (.lst xs)
    | _=>none) else none
end MM
namespace MM
open PySem PySem.Spec PyProof.Rows L2
noncomputable abbrev St:=L2.St
noncomputable def ak (H:Hp) (O:List Addr):Hp:=λb=>if b ∈ O then none else H b
theorem eZ {H:Hp}{O:List Addr}{b:Addr} (h:b ∈ O):ak H O b=none:=if_pos h
theorem aI {H:Hp}{O:List Addr}{b:Addr} (h:b ∉ O):ak H O b=H b:=if_neg h
theorem ae.rd {H H':Hp} (s:ae H H') {a:Addr}{u:HO} (h:Rd H a u):Rd H' a u:=h.elim (λe=>.inl (s a _ e)) λ⟨o,e⟩=>.inr ⟨o,s a _ e⟩
theorem aW (H:Hp) (O:List Addr):ae (ak H O) H:=λb u e=>by
 unfold ak at e
 split at e
 ·cases e
 ·exact e
theorem bf {H H':Hp}{O O':List Addr} (s:ae H H') (h:∀ b ∈ O',b ∈ O \/ H b=none):ae (ak H O) (ak H' O'):=λb u e=>by
 have hb:b ∉ O:=λz=>by rw [eZ z] at e;cases e
 rw [aI hb] at e
 rw [aI]
 ·exact s b u e
 ·intro z
  rcases h b z with q|q
  ·exact hb q
  ·rw [q] at e;cases e
theorem ar {H H':Hp}{O:List Addr} (s:ae H H'):ae (ak H O) (ak H' O):=bf s λ_ h=>.inl h
noncomputable def Sc.v:Sc->V
 | .non=>.non
 | .bl b=>.bl b
 | .int i=>.int i
 | .str x=>.str x
noncomputable def o5 (kvs:List (Int × Sc)):List (Key × V):=kvs.map λp=>(Sum.inl p.1,p.2.v)
noncomputable def wL (kvs:List (List Int × Sc)):List (List Key × V):=kvs.map λp=>(p.1.map Sum.inl,p.2.v)
noncomputable def nn:DD->HO
 | .k kvs=>.dK (o5 kvs)
 | .t kvs=>.dT (wL kvs)
noncomputable abbrev RdD (F:Hp) (a:Addr) (d:DD):Prop:=Rd F a (nn d)
theorem RdD.rd {F:Hp}{a:Addr}{d:DD} (h:RdD F a d):Rd F a (nn d):=h
theorem ae.rdD {H H':Hp} (s:ae H H') {a:Addr}{d:DD} (h:RdD H a d):RdD H' a d:=ae.rd s h
mutual
noncomputable def Rep (K:PySem.W.Frag) (F:Hp):PV->V->Prop
 | .non,u=>u=.non
 | .bl b,u=>u=.bl b
 | .int i,u=>u=.int i
 | .str x,u=>u=.str x
 | .tup xs,u=>∃ a us,u=.ref a/\F a=some (.tup us)/\Reps K F xs us
 | .lst xs,u=>∃ a us,u=.ref a/\SqL K F a us/\Reps K F xs us
 | .dI kvs,u=>∃ a,u=.ref a/\RdD F a kvs
 | .dL w m,u=>∃ a l1 l2 us1 us2,u=.ref a/\F a=some (.dK [(Sum.inr "weaver",.ref l1),(Sum.inr "moth",.ref l2)])/\SqL K F l1 us1/\Reps K F w us1/\SqL K F l2 us2/\Reps K F m us2
noncomputable def Reps (K:PySem.W.Frag) (F:Hp):List PV->List V->Prop
 | [],us=>us=[]
 | x::xs,us=>∃ u r,us=u::r/\Rep K F x u/\Reps K F xs r
end
section
variable {K:PySem.W.Frag}{F F':Hp}
mutual
theorem Rep.mono (s:ae F F'):∀ (x:PV) {u:V},Rep K F x u->Rep K F' x u
 | .non,_,h=>by simpa only [Rep] using h
 | .bl _,_,h=>by simpa only [Rep] using h
 | .int _,_,h=>by simpa only [Rep] using h
 | .str _,_,h=>by simpa only [Rep] using h
 | .tup xs,_,h=>by
  rw [Rep] at h ⊢
  obtain ⟨a,us,e,q,r⟩:=h
  exact ⟨a,us,e,s a _ q,Reps.mono s xs r⟩
 | .lst xs,_,h=>by
  rw [Rep] at h ⊢
  obtain ⟨a,us,e,q,r⟩:=h
  exact ⟨a,us,e,s.seq q,Reps.mono s xs r⟩
 | .dI kvs,_,h=>by
  rw [Rep] at h ⊢
  obtain ⟨a,e,q⟩:=h
  exact ⟨a,e,ae.rdD s q⟩
 | .dL w m,_,h=>by
  rw [Rep] at h ⊢
  obtain ⟨a,l1,l2,us1,us2,e,h1,h2,h3,h4,h5⟩:=h
  exact ⟨a,l1,l2,us1,us2,e,s _ _ h1,s.seq h2,Reps.mono s w h3,s.seq h4,Reps.mono s m h5⟩
theorem Reps.mono (s:ae F F'):∀ (xs:List PV) {us:List V},Reps K F xs us->Reps K F' xs us
 | [],_,h=>by simpa only [Reps] using h
 | x::xs,_,h=>by
  rw [Reps] at h ⊢
  obtain ⟨u,r,e,q,t⟩:=h
  exact ⟨u,r,e,Rep.mono s x q,Reps.mono s xs t⟩
end
theorem Reps.nil:Reps K F [] []:=by rw [Reps]
theorem Reps.cons {x:PV}{xs:List PV}{u:V}{us:List V} (h:Rep K F x u) (t:Reps K F xs us):Reps K F (x::xs) (u::us):=by
 rw [Reps];exact ⟨u,us,rfl,h,t⟩
theorem Reps.length:∀ {xs:List PV}{us:List V},Reps K F xs us->xs.length=us.length
 | [],_,h=>by rw [Reps] at h;subst h;rfl
 | x::xs,_,h=>by
  rw [Reps] at h
  obtain ⟨u,r,e,_,t⟩:=h
  subst e
  simp [Reps.length t]
theorem Reps.get:∀ {xs:List PV}{us:List V}{i:Nat}{x:PV},Reps K F xs us->xs[i]?=some x->∃ u,us[i]?=some u/\Rep K F x u
 | [],_,_,_,_,e=>by simp at e
 | x::xs,_,i,y,h,e=>by
  rw [Reps] at h
  obtain ⟨u,r,rfl,q,t⟩:=h
  cases i with
  | zero=>simp at e;subst e;exact ⟨u,by simp,q⟩
  | succ i=>obtain ⟨w,h1,h2⟩:=Reps.get (i:=i) t (by simpa using e);exact ⟨w,by simpa using h1,h2⟩
theorem Reps.get':∀ {xs:List PV}{us:List V}{i:Nat}{u:V},Reps K F xs us->us[i]?=some u->∃ x,xs[i]?=some x/\Rep K F x u
 | [],_,i,_,h,e=>by rw [Reps] at h;subst h;simp at e
 | x::xs,_,i,y,h,e=>by
  rw [Reps] at h
  obtain ⟨u,r,rfl,q,t⟩:=h
  cases i with
  | zero=>simp at e;subst e;exact ⟨x,by simp,q⟩
  | succ i=>obtain ⟨w,h1,h2⟩:=Reps.get' (i:=i) t (by simpa using e);exact ⟨w,by simpa using h1,h2⟩
theorem Reps.append:∀ {xs ys:List PV}{us ws:List V},Reps K F xs us->Reps K F ys ws->Reps K F (xs ++ ys) (us ++ ws)
 | [],_,_,_,h,g=>by rw [Reps] at h;subst h;exact g
 | x::xs,_,_,_,h,g=>by
  rw [Reps] at h
  obtain ⟨u,r,rfl,q,t⟩:=h
  exact .cons q (Reps.append t g)
theorem Reps.snoc {xs:List PV}{us:List V}{x:PV}{u:V} (h:Reps K F xs us) (g:Rep K F x u):Reps K F (xs ++ [x]) (us ++ [u]):=h.append (.cons g .nil)
theorem Reps.take:∀ {xs:List PV}{us:List V} (n:Nat),Reps K F xs us->Reps K F (xs.take n) (us.take n)
 | _,_,0,_=>by simpa using Reps.nil
 | [],_,n + 1,h=>by rw [Reps] at h;subst h;simpa using Reps.nil
 | x::xs,_,n + 1,h=>by
  rw [Reps] at h
  obtain ⟨u,r,rfl,q,t⟩:=h
  exact .cons q (Reps.take n t)
theorem Reps.drop:∀ {xs:List PV}{us:List V} (n:Nat),Reps K F xs us->Reps K F (xs.drop n) (us.drop n)
 | _,_,0,h=>h
 | [],_,n + 1,h=>by rw [Reps] at h;subst h;simpa using Reps.nil
 | x::xs,_,n + 1,h=>by
  rw [Reps] at h
  obtain ⟨u,r,rfl,q,t⟩:=h
  exact Reps.drop n t
theorem Reps.set:∀ {xs:List PV}{us:List V}{x:PV}{u:V} (n:Nat),Reps K F xs us->Rep K F x u->Reps K F (xs.set n x) (us.set n u)
 | [],_,_,_,n,h,_=>by rw [Reps] at h;subst h;simpa using Reps.nil
 | x::xs,_,_,_,0,h,g=>by
  rw [Reps] at h
  obtain ⟨u,r,rfl,q,t⟩:=h
  exact .cons g t
 | x::xs,_,_,_,n + 1,h,g=>by
  rw [Reps] at h
  obtain ⟨u,r,rfl,q,t⟩:=h
  exact .cons q (Reps.set n t g)
theorem Reps.ints:∀ {ns:List Int}{us:List V},Reps K F (ns.map .int) us->us=ns.map V.int
 | [],_,h=>by simpa [Reps] using h
 | n::ns,_,h=>by
  rw [List.map_cons,Reps] at h
  obtain ⟨u,r,rfl,q,t⟩:=h
  rw [Rep] at q
  rw [q,Reps.ints t];rfl
theorem Reps.of_ints:∀ (ns:List Int),Reps K F (ns.map .int) (ns.map V.int)
 | []=>.nil
 | n::ns=>.cons (by rw [Rep]) (Reps.of_ints ns)
theorem fJ:∀ {xs:List PV}{ns:List Int},aU xs=some ns->xs=ns.map .int
 | [],_,h=>by simp [aU] at h;subst h;rfl
 | .int i::r,ns,h=>by
  simp only [aU,Option.map_eq_some_iff] at h
  obtain ⟨ms,h1,rfl⟩:=h
  rw [fJ h1];rfl
 | .non::_,_,h=>by simp [aU] at h
 | .bl _::_,_,h=>by simp [aU] at h
 | .str _::_,_,h=>by simp [aU] at h
 | .tup _::_,_,h=>by simp [aU] at h
 | .lst _::_,_,h=>by simp [aU] at h
 | .dI _::_,_,h=>by simp [aU] at h
theorem nq:∀ {xs:List PV}{ns:List (List Int)},eC xs=some ns->xs=ns.map λt=>.tup (t.map .int)
 | [],_,h=>by simp [eC] at h;subst h;rfl
 | .tup i::r,ns,h=>by
  simp only [eC,Option.bind_eq_some_iff,Option.map_eq_some_iff] at h
  obtain ⟨t,h0,ms,h1,rfl⟩:=h
  rw [nq h1,fJ h0];rfl
 | .non::_,_,h=>by simp [eC] at h
 | .bl _::_,_,h=>by simp [eC] at h
 | .str _::_,_,h=>by simp [eC] at h
 | .int _::_,_,h=>by simp [eC] at h
 | .lst _::_,_,h=>by simp [eC] at h
 | .dI _::_,_,h=>by simp [eC] at h
theorem nr:∀ {xs:List PV}{ns:List (List Int)},eD xs=some ns->xs=ns.map λt=>.lst (t.map .int)
 | [],_,h=>by simp [eD] at h;subst h;rfl
 | .lst i::r,ns,h=>by
  simp only [eD,Option.bind_eq_some_iff,Option.map_eq_some_iff] at h
  obtain ⟨t,h0,ms,h1,rfl⟩:=h
  rw [nr h1,fJ h0];rfl
 | .non::_,_,h=>by simp [eD] at h
 | .bl _::_,_,h=>by simp [eD] at h
 | .str _::_,_,h=>by simp [eD] at h
 | .int _::_,_,h=>by simp [eD] at h
 | .tup _::_,_,h=>by simp [eD] at h
 | .dI _::_,_,h=>by simp [eD] at h
 | .dL _ _::_,_,h=>by simp [eD] at h
theorem iN:∀ {xs:List PV}{ns:List Bool},bO xs=some ns->xs=ns.map .bl
 | [],_,h=>by simp [bO] at h;subst h;rfl
 | .bl i::r,ns,h=>by
  simp only [bO,Option.map_eq_some_iff] at h
  obtain ⟨ms,h1,rfl⟩:=h
  rw [iN h1];rfl
 | .non::_,_,h=>by simp [bO] at h
 | .int _::_,_,h=>by simp [bO] at h
 | .str _::_,_,h=>by simp [bO] at h
 | .tup _::_,_,h=>by simp [bO] at h
 | .lst _::_,_,h=>by simp [bO] at h
 | .dI _::_,_,h=>by simp [bO] at h
end
theorem cH {K:PySem.W.Frag}{H:Hp}{a:Addr}{us:List V} (h:H a=some (.tup us)):SqT K H a us:=SqT.of h
noncomputable def bi (K:PySem.W.Frag) (H:Hp) (O:List Addr) (v:PV) (u:V):Prop :=
 Rep K (ak H O) v u \/ (∃ xs a us,v=.lst xs/\u=.ref a/\SqL K H a us/\Reps K (ak H O) xs us) \/ ∃ kvs a,v=.dI kvs/\u=.ref a/\RdD H a kvs
section
variable {K:PySem.W.Frag}{H H':Hp}{O:List Addr}
theorem bi.of {v:PV}{u:V} (h:Rep K (ak H O) v u):bi K H O v u:=.inl h
theorem bi.mono (s:ae H H') {v:PV}{u:V} (h:bi K H O v u):bi K H' O v u:=by
 rcases h with h|⟨xs,a,us,e1,e2,q,r⟩|⟨kvs,a,e1,e2,q⟩
 ·exact .inl (Rep.mono (ar s) _ h)
 ·exact .inr (.inl ⟨xs,a,us,e1,e2,s.seq q,Reps.mono (ar s) _ r⟩)
 ·exact .inr (.inr ⟨kvs,a,e1,e2,ae.rdD s q⟩)
theorem bi.lst {xs:List PV}{u:V} (h:bi K H O (.lst xs) u):∃ a us,u=.ref a/\SqL K H a us/\Reps K (ak H O) xs us:=by
 rcases h with h|⟨ys,a,us,e1,e2,q,r⟩|⟨kvs,a,e1,e2,q⟩
 ·rw [Rep] at h
  obtain ⟨a,us,e,q,r⟩:=h
  exact ⟨a,us,e,(aW H O).seq q,r⟩
 ·cases e1
  exact ⟨a,us,e2,q,r⟩
 ·cases e1
theorem bi.tupH {xs:List PV}{u:V} (h:bi K H O (.tup xs) u):∃ a us,u=.ref a/\H a=some (.tup us)/\Reps K (ak H O) xs us:=by
 rcases h with h|⟨ys,a,us,e1,e2,q,r⟩|⟨kvs,a,e1,e2,q⟩
 ·rw [Rep] at h
  obtain ⟨a,us,e,q,r⟩:=h
  exact ⟨a,us,e,aW H O a _ q,r⟩
 ·cases e1
 ·cases e1
theorem bi.tup {xs:List PV}{u:V} (h:bi K H O (.tup xs) u):∃ a us,u=.ref a/\SqT K H a us/\Reps K (ak H O) xs us:=by
 obtain ⟨a,us,e,q,r⟩:=h.tupH
 exact ⟨a,us,e,SqT.of q,r⟩
theorem bi.tupR {xs:List PV}{u:V} (h:bi K H O (.tup xs) u):Rep K (ak H O) (.tup xs) u:=by
 rcases h with h|⟨ys,a,us,e1,e2,q,r⟩|⟨kvs,a,e1,e2,q⟩
 ·exact h
 ·cases e1
 ·cases e1
theorem bi.dI {kvs:DD}{u:V} (h:bi K H O (.dI kvs) u):∃ a,u=.ref a/\RdD H a kvs:=by
 rcases h with h|⟨ys,a,us,e1,e2,q,r⟩|⟨kvs,a,e1,e2,q⟩
 ·rw [Rep] at h
  obtain ⟨a,e,q⟩:=h
  exact ⟨a,e,ae.rdD (aW H O) q⟩
 ·cases e1
 ·cases e1
  exact ⟨a,e2,q⟩
theorem bi.dL {w m:List PV}{u:V} (h:bi K H O (.dL w m) u):Rep K (ak H O) (.dL w m) u:=by
 rcases h with h|⟨ys,a,us,e1,e2,q,r⟩|⟨kvs,a,e1,e2,q⟩
 ·exact h
 ·cases e1
 ·cases e1
theorem bi.int {i:Int}{u:V} (h:bi K H O (.int i) u):u=.int i:=by
 rcases h with h|⟨ys,a,us,e1,e2,q,r⟩|⟨kvs,a,e1,e2,q⟩
 ·rw [Rep] at h;exact h
 ·cases e1
 ·cases e1
theorem bi.bl {i:Bool}{u:V} (h:bi K H O (.bl i) u):u=.bl i:=by
 rcases h with h|⟨ys,a,us,e1,e2,q,r⟩|⟨kvs,a,e1,e2,q⟩
 ·rw [Rep] at h;exact h
 ·cases e1
 ·cases e1
theorem bi.str {i:Str}{u:V} (h:bi K H O (.str i) u):u=.str i:=by
 rcases h with h|⟨ys,a,us,e1,e2,q,r⟩|⟨kvs,a,e1,e2,q⟩
 ·rw [Rep] at h;exact h
 ·cases e1
 ·cases e1
theorem bi.non {u:V} (h:bi K H O .non u):u=.non:=by
 rcases h with h|⟨ys,a,us,e1,e2,q,r⟩|⟨kvs,a,e1,e2,q⟩
 ·rw [Rep] at h;exact h
 ·cases e1
 ·cases e1
theorem bi.seq {v:PV}{xs:List PV}{u:V} (h:bi K H O v u) (e:a9 v=some xs):∃ a us,u=.ref a/\(SqL K H a us \/ SqT K H a us)/\Reps K (ak H O) xs us:=by
 cases v with
 | lst ys=>simp [a9] at e;subst e;obtain ⟨a,us,e,q,r⟩:=h.lst;exact ⟨a,us,e,.inl q,r⟩
 | tup ys=>simp [a9] at e;subst e;obtain ⟨a,us,e,q,r⟩:=h.tup;exact ⟨a,us,e,.inr q,r⟩
 | _=>simp [a9] at e
theorem bi.whole {v:PV}{u:V} (h:bi K H O v u):Rep K H v u:=by
 rcases h with h|⟨xs,a,us,rfl,e2,q,r⟩|⟨kvs,a,rfl,e2,q⟩
 ·exact Rep.mono (aW H O) _ h
 ·rw [Rep];exact ⟨a,us,e2,q,Reps.mono (aW H O) _ r⟩
 ·rw [Rep];exact ⟨a,e2,q⟩
end
noncomputable def IsC (K:PySem.W.Frag) (C:Addr):Prop:=PySem.W.nsIn K mainGlobals "Table"=some (some (.ref C))
noncomputable def gF:List Str:=["hole_count","ribbons","opener"]
noncomputable def k7:List Str:=["hand_at","holes_taken_by","turn","deeds","knots","bites","free","rest","winner","take","back"]
structure ObF (K:PySem.W.Frag) (C:Addr) (F:Hp) (fs:List PV) (l:Addr) (gs:List (Str × V)):Prop where
 cls:IsC K C
 fld:∀ (n:Nat) (x:Str) (v:PV),gF[n]?=some x->fs[n]?=some v->∃ u,gs.lookup x=some u/\Rep K F v u
 lst:gs.lookup ("taken":Str)=some (.ref l)
 no:∀ m ∈ k7,gs.lookup m=none
theorem ObF.mono {K:PySem.W.Frag}{C:Addr}{F F':Hp}{fs:List PV}{l:Addr}{gs:List (Str × V)} (s:ae F F') (h:ObF K C F fs l gs):ObF K C F' fs l gs :=
 ⟨h.cls,λn x v e1 e2=>let ⟨u,q1,q2⟩:=h.fld n x v e1 e2;⟨u,q1,Rep.mono s _ q2⟩,h.lst,h.no⟩
structure d4 (K:PySem.W.Frag) (B:Hp) (O:List Addr) (H:Hp) (fs xs:List PV) (a l:Addr):Prop where
 ob:∃ C dx gs,H a=some (.ins C dx gs)/\ObF K C (ak H O) fs l gs
 li:∃ us,H l=some (.lst us)/\Reps K (ak H O) xs us
 aO:a ∈ O
 lO:l ∈ O
 aB:B a=none
 lB:B l=none
 ne:a ≠ l
theorem d4.move {K:PySem.W.Frag}{B B' H H':Hp}{O O':List Addr}{fs xs:List PV}{a l:Addr} (h:d4 K B O H fs xs a l) (v:ae (ak H O) (ak H' O')) (ha:∀ o,H a=some o->H' a=some o) (hl:∀ o,H l=some o->H' l=some o) (aO:a ∈ O') (lO:l ∈ O') (aB:B' a=none) (lB:B' l=none):d4 K B' O' H' fs xs a l:=by
 obtain ⟨C,dx,gs,e1,q1⟩:=h.ob
 obtain ⟨us,e2,q2⟩:=h.li
 exact ⟨⟨C,dx,gs,ha _ e1,q1.mono v⟩,⟨us,hl _ e2,Reps.mono v _ q2⟩,aO,lO,aB,lB,h.ne⟩
noncomputable def e_ (K:PySem.W.Frag) (B F:Hp) (fs xs:List PV) (a:Addr):Prop:=∃ C dx gs l us,B a=some (.ins C dx gs)/\ObF K C F fs l gs/\SqL K B l us/\Reps K F xs us
theorem e_.move {K:PySem.W.Frag}{B B' F F':Hp}{fs xs:List PV}{a:Addr} (h:e_ K B F fs xs a) (b:ae B B') (v:ae F F'):e_ K B' F' fs xs a:=by
 obtain ⟨C,dx,gs,l,us,e1,q1,e2,q2⟩:=h
 exact ⟨C,dx,gs,l,us,b _ _ e1,q1.mono v,b.seq e2,Reps.mono v _ q2⟩
theorem d4.lent {K:PySem.W.Frag}{B H:Hp}{O:List Addr}{fs xs:List PV}{a l:Addr} (h:d4 K B O H fs xs a l):e_ K H (ak H O) fs xs a:=by
 obtain ⟨C,dx,gs,e1,q1⟩:=h.ob
 obtain ⟨us,e2,q2⟩:=h.li
 exact ⟨C,dx,gs,l,us,e1,q1,SqL.of e2,q2⟩
noncomputable def lOf:Option HO->Option Addr
 | some (.ins _ _ gs)=>(match gs.lookup ("taken":Str) with|some (.ref l)=>some l|_=>none)
 | _=>none
theorem d4.l {K:PySem.W.Frag}{B H:Hp}{O:List Addr}{fs xs:List PV}{a l:Addr} (h:d4 K B O H fs xs a l):lOf (H a)=some l:=by
 obtain ⟨C,dx,gs,e1,q1⟩:=h.ob
 rw [e1]
 show (match gs.lookup ("taken":Str) with|some (.ref l)=>some l|_=>none)=some l
 rw [q1.lst]
noncomputable abbrev DAt (_:PySem.W.Frag) (H:Hp) (_:List Addr) (a:Addr) (d:DD):Prop:=H a=some (nn d)
theorem DAt.here {K:PySem.W.Frag}{H:Hp}{O:List Addr}{a:Addr}{d:DD} (h:DAt K H O a d):∃ o,H a=some o:=⟨_,h⟩
theorem DAt.move {K:PySem.W.Frag}{H H':Hp}{O O':List Addr}{a:Addr}{d:DD} (h:DAt K H O a d) (e:∀ o,H a=some o->H' a=some o) (_:ae (ak H O) (ak H' O')):DAt K H' O' a d:=e _ h
noncomputable def d5 (K:PySem.W.Frag) (B:Hp) (O:List Addr) (H:Hp):MV->V->Prop
 | .val v,u=>Rep K (ak H O) v u
 | .own xs,u=>∃ a us,u=.ref a/\H a=some (.lst us)/\Reps K (ak H O) xs us/\a ∈ O/\B a=none
 | .brw xs,u=>∃ a us,u=.ref a/\SqL K B a us/\Reps K (ak H O) xs us
 | .ownD kvs,u=>∃ a,u=.ref a/\DAt K H O a kvs/\a ∈ O/\B a=none
 | .ownO _ fs xs,u=>∃ a l,u=.ref a/\d4 K B O H fs xs a l
 | .brwO fs xs,u=>∃ a,u=.ref a/\e_ K B (ak H O) fs xs a
 | .brwD kvs,u=>∃ a,u=.ref a/\Rd B a (nn kvs)
noncomputable def dy:MV->Bool
 | .own _=>true
 | .ownD _=>true
 | .ownO _ _ _=>true
 | _=>false
noncomputable def wM (H:Hp) (ρ:Rho) (σ:St):Prop:=∀ (i:Nat) (m0:MV) (a l:Addr),ρ[i]?=some (some m0)->isL m0=true->σ[i]?=some (some (.ref a))->lOf (H a)=some l->∀ (j:Nat) (m:MV),j ≠ i->ρ[j]?=some (some m)->isL m=false/\∀ c,dy m=true->σ[j]?=some (some (.ref c))->c ≠ l
theorem nu {H:Hp}{ρ:Rho}{σ:St} (h:∀ (i:Nat) (m:MV),ρ[i]?=some (some m)->isL m=false):wM H ρ σ:=λi m _ _ e l=>by rw [h i m e] at l;cases l
theorem d6 {H H':Hp}{ρ ρ':Rho}{σ σ':St} (h:wM H ρ σ) (hL:∀ (i:Nat) (m0:MV),ρ'[i]?=some (some m0)->isL m0=true->(∃ m1,ρ[i]?=some (some m1)/\isL m1=true)/\σ'[i]?=σ[i]?/\∀ a l,σ[i]?=some (some (.ref a))->lOf (H' a)=some l->lOf (H a)=some l)
  (hj:∀ (j:Nat) (m:MV) (c:Addr),ρ'[j]?=some (some m)->isL m=false->dy m=true->σ'[j]?=some (some (.ref c))->(∃ m0,ρ[j]?=some (some m0)/\dy m0=true/\σ[j]?=some (some (.ref c))) \/ ∀ (i:Nat) (m1:MV) (a l:Addr),ρ[i]?=some (some m1)->isL m1=true->σ[i]?=some (some (.ref a))->lOf (H a)=some l->c ≠ l):wM H' ρ' σ':=λi m0 a l e1 l0 e2 e3 j m hji e4=>by
 obtain ⟨⟨m1,f1,l1⟩,f2,f3⟩:=hL i m0 e1 l0
 rw [f2] at e2
 have f4:=f3 a l e2 e3
 have hl:isL m=false:=by
  cases q:isL m with
  | false=>rfl
  | true =>
   obtain ⟨⟨m2,g1,g2⟩,_⟩:=hL j m e4 q
   rw [(h i m1 a l f1 l1 e2 f4 j m2 hji g1).1] at g2
   cases g2
 refine ⟨hl,λc o e5=>?_⟩
 rcases hj j m c e4 hl o e5 with ⟨m0,g1,g2,g3⟩|g
 ·exact (h i m1 a l f1 l1 e2 f4 j m0 hji g1).2 c g2 g3
 ·exact g i m1 a l f1 l1 e2 f4
structure aD (K:PySem.W.Frag) (B:Hp) (O₀ O:List Addr) (H:Hp) (ρ:Rho) (σ:St):Prop where
 keep:ae B H
 here:∀ a ∈ O,H a ≠ none
 sub:∀ a ∈ O₀,a ∈ O
 old:∀ a ∈ O₀,B a ≠ none
 len:ρ.length=σ.length
 slot:∀ (i:Nat) (m:MV),ρ[i]?=some (some m)->∃ u,σ[i]?=some (some u)/\d5 K B O H m u
 apart:∀ (i j:Nat) (m m':MV) (a:Addr),i ≠ j->ρ[i]?=some (some m)->ρ[j]?=some (some m')->dy m=true->dy m'=true->σ[i]?=some (some (.ref a))->σ[j]? ≠ some (some (.ref a))
 inn:wM H ρ σ
section
variable {K:PySem.W.Frag}{B H H':Hp}{O₀ O:List Addr}{ρ:Rho}{σ:St}
theorem d5.mono (s:ae H H') {m:MV}{u:V} (h:d5 K B O H m u):d5 K B O H' m u:=by
 cases m with
 | val v=>exact Rep.mono (ar s) _ h
 | own xs=>obtain ⟨a,us,e,q,r,h1,h2⟩:=h;exact ⟨a,us,e,s _ _ q,Reps.mono (ar s) _ r,h1,h2⟩
 | brw xs=>obtain ⟨a,us,e,q,r⟩:=h;exact ⟨a,us,e,q,Reps.mono (ar s) _ r⟩
 | ownD kvs=>obtain ⟨a,e,q,h1,h2⟩:=h;exact ⟨a,e,q.move (s _) (ar s),h1,h2⟩
 | ownO _ fs xs=>obtain ⟨a,l,e,q⟩:=h;exact ⟨a,l,e,q.move (ar s) (λ_=>s _ _) (λ_=>s _ _) q.aO q.lO q.aB q.lB⟩
 | brwO fs xs=>obtain ⟨a,e,q⟩:=h;exact ⟨a,e,q.move (ae.refl B) (ar s)⟩
 | brwD kvs=>exact h
theorem aD.mono (s:ae H H') (h:aD K B O₀ O H ρ σ):aD K B O₀ O H' ρ σ where
 keep:=h.keep.trans s
 here:=λa ha e=>h.here a ha (s.free e)
 sub:=h.sub
 old:=h.old
 len:=h.len
 slot:=λi m e=>let ⟨u,e1,q⟩:=h.slot i m e;⟨u,e1,q.mono s⟩
 apart:=h.apart
 inn:=d6 h.inn (λi m0 e l0=>⟨⟨m0,e,l0⟩,rfl,λa l e1 e2=>by
  obtain ⟨u,e3,q⟩:=h.slot i _ e
  rw [e1] at e3
  cases e3
  cases m0 <;> try (cases l0;done)
  obtain ⟨a',l',e4,q⟩:=q
  cases e4
  obtain ⟨C,dx,gs,e5,_⟩:=q.ob
  rw [s _ _ e5] at e2
  rw [e5]
  exact e2⟩) λj m c e _ o e1=>.inl ⟨m,e,o,e1⟩
theorem d5.bor {m:MV}{u:V}{v:PV} (hB:ae B H) (h:d5 K B O H m u) (e:bh (some m)=some v):bi K H O v u:=by
 cases m with
 | val w=>simp [bh] at e;subst e;exact .inl h
 | own xs=>simp [bh] at e;subst e;obtain ⟨a,us,e,q,r,_⟩:=h;exact .inr (.inl ⟨xs,a,us,rfl,e,SqL.of q,r⟩)
 | brw xs=>simp [bh] at e;subst e;obtain ⟨a,us,e,q,r⟩:=h;exact .inr (.inl ⟨xs,a,us,rfl,e,hB.seq q,r⟩)
 | ownD kvs=>simp [bh] at e;subst e;obtain ⟨a,e,q,_⟩:=h;exact .inr (.inr ⟨kvs,a,rfl,e,.inl q⟩)
 | ownO _ _ _=>simp [bh] at e
 | brwO _ _=>simp [bh] at e
 | brwD kvs=>simp [bh] at e;subst e;obtain ⟨a,e,q⟩:=h;exact .inr (.inr ⟨kvs,a,rfl,e,ae.rd hB q⟩)
end
theorem join_some {α:Type}{o:Option (Option α)}{x:α} (h:o.join=some x):o=some (some x):=by
 cases o with
 | none=>simp at h
 | some y=>cases y with
  | none=>simp at h
  | some z=>simp at h;rw [h]
end MM
namespace MM
open PySem PySem.Spec PyProof.Rows L2
structure Tab where
 fs:List Str
 gs:List (Str × PV)
 ds:List (List Sc)
 ms:List (Option Str)
noncomputable def yQ (sc:Scope) (x:Str):Bool:=sc.names.lookup x == some .local || sc.names.lookup x == some .cell || sc.names.lookup x == some .free
noncomputable def fb (sc:Scope) (x:Str):Bool:=sc.names.lookup x == some .local || sc.names.lookup x == some .cell
noncomputable def glB (sc:Scope) (x:Str):Bool:=sc.names.lookup x == some .globalImplicit
noncomputable def aq (x:Str):Bool:=!(x == ("__debug__":Str))&&!(x == ("__classdict__":Str))&&!(x == ("__name__":Str))
noncomputable def ag (N:List Str) (sc:Scope) (i:Nat) (x:Str):Bool:=N[i]? == some x&&yQ sc x&&aq x
noncomputable def ax:ME->Bool
 | .bor _=>true
 | .fldL _=>true
 | _=>false
theorem o6 {m:ME} (h:ax m=true):(∃ i,m=.bor i) \/ ∃ i,m=.fldL i:=by
 cases m <;> first|(cases h;done)|exact .inl ⟨_,rfl⟩|exact .inr ⟨_,rfl⟩
noncomputable def jY:Expr->Option (Str × Str)
 | .Attribute (.Name y _) m _=>some (y,m)
 | _=>none
theorem gZ {e:Expr}{q:Str × Str} (h:jY e=some q):∃ p ap,e=.Attribute (.Name q.1 p) q.2 ap:=by
 unfold jY at h
 split at h
 ·cases h;exact ⟨_,_,rfl⟩
 ·cases h
noncomputable def rO:Expr->Option (Str × Str × List Expr × Pos × Pos)
 | .Call (.Attribute (.Name y _) m ap) args [] cp=>some (y,m,args,ap,cp)
 | _=>none
theorem mi {e:Expr}{q:Str × Str × List Expr × Pos × Pos} (h:rO e=some q):∃ p,e=.Call (.Attribute (.Name q.1 p) q.2.1 q.2.2.2.1) q.2.2.1 [] q.2.2.2.2:=by
 unfold rO at h
 split at h
 ·cases h;exact ⟨_,rfl⟩
 ·cases h
noncomputable def nv (N:List Str) (sc:Scope) (ms:List (Option Str)) (f i:Nat) (ck:List Expr->Bool) (q:Str × Str × List Expr × Pos × Pos):Bool:=ms[f]? == some (some q.2.1)&&k7.contains q.2.1&&ag N sc i q.1&&ck q.2.2.1&&q.2.2.2.1.endLine == q.2.2.2.2.line&&decide (q.2.2.1.length < 30)
noncomputable def t7:Expr->Option (Expr × CmpOp × Expr)
 | .Compare l [o] [r] _=>some (l,o,r)
 | _=>none
theorem wN {e:Expr}{q:Expr × CmpOp × Expr} (h:t7 e=some q):∃ pos,e=.Compare q.1 [q.2.1] [q.2.2] pos:=by
 unfold t7 at h
 split at h
 ·cases h;exact ⟨_,rfl⟩
 ·cases h
noncomputable def onO {α:Type} (o:Option α) (f:α->Bool):Bool:=match o with
 | some a=>f a
 | none=>false
theorem aM {α:Type}{o:Option α}{f:α->Bool} (h:onO o f=true):∃ a,o=some a/\f a=true:=by
 cases o with
 | none=>cases h
 | some a=>exact ⟨a,rfl,h⟩
noncomputable def wO:Op2->Operator
 | .add=>.Add|.sub=>.Sub|.mul=>.Mult|.fdiv=>.FloorDiv|.mod=>.Mod|.pow=>.Pow|.shr=>.RShift
noncomputable def eQ:Cp->CmpOp
 | .eq=>.Eq|.ne=>.NotEq|.lt=>.Lt|.le=>.LtE|.gt=>.Gt|.ge=>.GtE|.isN=>.Is|.notN=>.IsNot|.isIn=>.In|.notIn=>.NotIn
noncomputable def mj:PV->Const->Bool
 | .non,.none=>true
 | .bl a,.bool b=>a == b
 | .int a,.int b=>a == b
 | .str a,.str b=>a == b
 | _,_=>false
noncomputable def xW:PV->PV->Bool
 | .non,.non=>true
 | .bl a,.bl b=>a == b
 | .int a,.int b=>a == b
 | .str a,.str b=>a == b
 | _,_=>false
noncomputable def t8 (gs:List (Str × PV)) (x:Str) (v:PV):Bool:=gs.any λp=>p.1 == x&&xW p.2 v
noncomputable def am:Expr->Bool
 | .Starred ..=>false
 | _=>true
noncomputable def fc:Expr->Bool
 | .Set ..=>false
 | _=>true
noncomputable def cw:Expr->Bool
 | .Slice ..=>false
 | _=>true
noncomputable def bD:Expr->Bool
 | .ListComp ..=>false
 | .SetComp ..=>false
 | .DictComp ..=>false
 | _=>true
noncomputable def iO:Expr->Bool
 | .UnaryOp .Not _ _=>false
 | .BoolOp ..=>false
 | .IfExp ..=>false
 | .Compare ..=>false
 | _=>true
noncomputable def k8:Blt->String
 | .strOf=>"str"
 | .len=>"len" | .tupleOf=>"tuple" | .listOf=>"list" | .sorted=>"sorted" | .any=>"any" | .all=>"all" | .sum=>"sum" | .max1=>"max" | .min1=>"min" | .max2=>"max" | .min2=>"min"
 | .intOf=>"int" | .boolOf=>"bool" | .isInt=>"isinstance" | .isBool=>"isinstance" | .isStr=>"isinstance" | .isList=>"isinstance" | .isTuple=>"isinstance" | .sortedKeys=>"sorted" | .valuesOf=>"list" | .sortedSet=>"sorted" | .lenSet=>"len" | .lenSetSub=>"len" | .tupleRev=>"tuple"
noncomputable def cr:Blt->Option String
 | .isInt=>some "int" | .isBool=>some "bool" | .isStr=>some "str" | .isList=>some "list" | .isTuple=>some "tuple"
 | _=>none
noncomputable def dF:Blt->Option Nat
 | .len|.tupleOf|.listOf|.sorted|.any|.all|.sum|.intOf|.boolOf|.max1|.sortedKeys=>some 1
 | .strOf=>some 1
 | .max2|.min2=>some 2
 | _=>none
noncomputable def eE (osc:Scope) (N:List Str) (scope:Scope) (x:Str) (fvs:List Str) (js:List Nat):Bool :=
 decide (∀ y ∈ scope.names,y.2=.cell->y.1=x)&&decide (scope.names.lookup x=some .local/\(scope.names.filter λy=>y.2 == .cell)=[] \/ scope.names.lookup x=some .cell/\(scope.names.filter λy=>y.2 == .cell)=[(x,.cell)])
 &&decide (∀ y ∈ scope.names,y.2=.free->y.1 ≠ x)&&scope.kind == .function&&decide (∀ y ∈ scope.names,y.2=.local->scope.names.lookup y.1=some .local)
 &&decide ((x::fvs).Nodup)&&decide (∀ y ∈ scope.names,y.2=.free->osc.names.lookup y.1=some .cell \/ osc.names.lookup y.1=some .free)&&decide ((js.map λj=>N[j]?)=fvs.map some)
 &&decide (∀ y ∈ fvs,scope.names.lookup y=some .free)
noncomputable def b_ (N:List Str) (js:List Nat):List Str:=js.map λj=>(N[j]?).getD Str.empty
noncomputable def dz (sc:Scope) (tup:Bool) (f:List Expr->Bool):Sk->Expr->Bool
 | .seq,it=>fc it&&f [it]
 | .rng,.Call (.Name x _) args [] _=>x == ("range":Str)&&glB sc x&&f args&&(args.length == 1 || args.length == 2)
 | .rev,_=>false
 | .enm,.Call (.Name x _) [a] [] _=>tup&&x == ("enumerate":Str)&&glB sc x&&f [a]&&am a
 | _,_=>false
noncomputable def jZ (sc:Scope) (f:List Expr->Bool) (n:Nat) (c:String):List Expr->Bool
 | [x,.Name t _]=>t == (c:Str)&&glB sc t&&f [x]&&n == 1
 | _=>false
noncomputable def t9:Expr->Bool
 | .Name _ _=>true
 | .Call _ (_::_) _ _=>true
 | _=>false
noncomputable def cy (sc:Scope) (f:List Expr->Bool) (n:Nat) (b:Blt) (args:List Expr):Bool:=match b with
 | .sortedSet=>(match args with|[.Call (.Name g _) [x] [] _]=>g == ("set":Str)&&glB sc g&&f [x]&&n == 1|_=>false)
 | .lenSet=>(match args with|[.Call (.Name g _) [x] [] _]=>g == ("set":Str)&&glB sc g&&f [x]&&n == 1|_=>false)
 | .lenSetSub=>false
 | .tupleRev=>false
 | .valuesOf=>false
 | .sortedKeys=>false
 | .max1=>false
 | .sum=>false
 | .max2=>false
 | .min2=>false
 | .intOf=>false
 | .boolOf=>false
 | .isList=>false
 | b=>match cr b with
  | some c=>jZ sc f n c args
  | none=>dF b == some n&&f args
noncomputable def eI:ME->Bool
 | .cst .non=>true
 | _=>false
noncomputable def fK (f:Expr->Bool) (non:Bool):Option Expr->Bool
 | none=>non
 | some l=>f l&&!non
noncomputable def j0 (f:Expr->Bool) (m:ME):List Expr->Bool
 | []=>(match m with|.cst (.bl true)=>true|_=>false)
 | [c]=>f c
 | _=>false
noncomputable def qj (f:Expr->Bool) (op:BoolOp) (pos:Pos) (y:Expr):List Expr->Bool
 | []=>f y
 | z::r=>f (.BoolOp op (y::z::r) pos)
noncomputable def onQ {α:Type}:Option α->(α->Bool)->Bool
 | some a,f=>f a
 | none,_=>false
theorem o7 {α:Type}{o:Option α}{f:α->Bool} (h:onQ o f=true):∃ a,o=some a/\f a=true:=by
 cases o with
 | none=>cases h
 | some a=>exact ⟨a,rfl,h⟩
noncomputable def qk:Expr->Option (Str × Str × Expr × Pos × Pos)
 | .Call (.Attribute (.Constant (.str x) _ _) m ap) [e] [] cp=>some (x,m,e,ap,cp)
 | _=>none
theorem t_ {e:Expr}{q:Str × Str × Expr × Pos × Pos} (h:qk e=some q):∃ j p,e=.Call (.Attribute (.Constant (.str q.1) j p) q.2.1 q.2.2.2.1) [q.2.2.1] [] q.2.2.2.2:=by
 unfold qk at h
 split at h
 ·cases h;exact ⟨_,_,rfl⟩
 ·cases h
noncomputable def ql:Expr->Option (Expr × Str)
 | .Subscript o (.Constant (.str x) _ _) _=>some (o,x)
 | _=>none
theorem ua {e:Expr}{q:Expr × Str} (h:ql e=some q):∃ j p pos,e=.Subscript q.1 (.Constant (.str q.2) j p) pos:=by
 unfold ql at h
 split at h
 ·cases h;exact ⟨_,_,_,rfl⟩
 ·cases h
noncomputable def qm:Expr->Option (List (Option Expr) × List Expr × Expr)
 | .Subscript (.Dict ks vs _) e _=>some (ks,vs,e)
 | _=>none
theorem ub {e:Expr}{q:List (Option Expr) × List Expr × Expr} (h:qm e=some q):∃ p pos,e=.Subscript (.Dict q.1 q.2.1 p) q.2.2 pos:=by
 unfold qm at h
 split at h
 ·cases h;exact ⟨_,_,rfl⟩
 ·cases h
noncomputable def rP:Expr->Option Str
 | .Constant (.str x) _ _=>some x
 | _=>none
theorem qo {e:Expr}{x:Str} (h:rP e=some x):∃ j p,e=.Constant (.str x) j p:=by
 unfold rP at h
 split at h
 ·cases h;exact ⟨_,_,rfl⟩
 ·cases h
noncomputable def i5:List (Str × Str)->List (Option Expr)->List Expr->Bool
 | [],[],[]=>true
 | p::r,k::ks,v::vs=>k.bind rP == some p.1&&rP v == some p.2&&i5 r ks vs
 | _,_,_=>false
mutual
noncomputable def chk (T:Tab):ME->List Str->Scope->Expr->Bool
 | .var i,N,sc,e0=>(match e0 with|.Name x _=>ag N sc i x|_=>false)
 | .bor i,N,sc,e0=>(match e0 with|.Name x _=>ag N sc i x|_=>false)
 | .cst v,_,_,e0=>(match e0 with|.Constant c _ _=>mj v c|_=>false)
 | .glob x v,_,sc,e0=>(match e0 with|.Name y _=>x == y&&glB sc x&&t8 T.gs x v&&aq x|_=>false)
 | .bin op a b,N,sc,e0=>(match e0 with|.BinOp l o r _=>o == wO op&&chk T a N sc l&&chk T b N sc r|_=>false)
 | .neg _,_,_,_=>false
 | .not a,N,sc,e0=>(match e0 with|.UnaryOp .Not e _=>chk T a N sc e|_=>false)
 | .and a b,N,sc,e0=>(match e0 with|.BoolOp .And (x::y::r) pos=>chk T a N sc x&&qj (λe=>chk T b N sc e) .And pos y r|_=>false)
 | .or a b,N,sc,e0=>(match e0 with|.BoolOp .Or (x::y::r) pos=>chk T a N sc x&&qj (λe=>chk T b N sc e) .Or pos y r|_=>false)
 | .ite c a b,N,sc,e0=>(match e0 with|.IfExp t x y _=>chk T c N sc t&&chk T a N sc x&&chk T b N sc y&&!ax a&&!ax b|_=>false)
 | .cmp op a b,N,sc,e0=>(match e0 with|.Compare l [o] [r] _=>o == eQ op&&chk T a N sc l&&chk T b N sc r&&!behindInMarks o r|_=>false)
 | .chain op op' a b c,N,sc,e0=>(match e0 with|.Compare l [o,o'] [m,r] _=>o == eQ op&&o' == eQ op'&&chk T a N sc l&&chk T b N sc m&&chk T c N sc r&&!lastMarks [o,o'] [m,r]|_=>false)
 | .tup es,N,sc,e0=>(match e0 with|.Tuple xs _ _=>chks T es N sc xs&&es.all (λe=>!ax e)|_=>false)
 | .lst es,N,sc,e0=>(match e0 with|.List xs _=>chks T es N sc xs&&es.all (λe=>!ax e)|_=>false)
 | .idx a i,N,sc,e0=>(match e0 with|.Subscript v s _=>chk T a N sc v&&chk T i N sc s&&cw s|_=>false)
 | .slice a lo hi,N,sc,e0=>(match e0 with|.Subscript v (.Slice l u none _) _=>chk T a N sc v&&fK (λe=>chk T lo N sc e) (eI lo) l&&fK (λe=>chk T hi N sc e) (eI hi) u|_=>false)
 | .blt b es,N,sc,e0=>(match e0 with|.Call (.Name f _) args [] _=>f == (k8 b:Str)&&glB sc f&&cy sc (λxs=>chks T es N sc xs) es.length b args|_=>false)
 | .call f es,N,sc,e0=>(match e0 with|.Call (.Name x _) args [] _=>T.fs[f]? == some x&&glB sc x&&aq x&&chks T es N sc args|_=>false)
 | .callD _ _ _,_,_,_=>false
 | .comp k src js cond elt,N,sc,e0=>(match e0 with|.ListComp e [⟨.Name x _,it,ifs,0⟩] scope _=>eE sc N scope x (b_ N js) js&&dz sc false (λxs=>chks T src N sc xs) k it&&j0 (λc=>chk T cond (x::b_ N js) (gf scope sc) c) cond ifs&&chk T elt (x::b_ N js) (gf scope sc) e&&!ax elt|_=>false)
 | .dget _ _ _,_,_,_=>false
 | .dat _ _,_,_,_=>false
 | .dIn _ _ _,_,_,_=>false
 | .fld i n,N,sc,e0=>onO (jY e0) λq=>gF[n]? == some q.2&&ag N sc i q.1
 | .fldL i,N,sc,e0=>onO (jY e0) λq=>q.2 == ("taken":Str)&&ag N sc i q.1
 | .inO neg e i,N,sc,e0=>onO (t7 e0) λz=>onO (jY z.2.2) λq=>z.2.1 == (if neg=true then CmpOp.NotIn else CmpOp.In)&&chk T e N sc z.1&&q.2 == ("taken":Str)&&ag N sc i q.1
 | .callV _ _,_,_,_=>false
 | .comp2 _ _ _ _,_,_,_=>false
 | .callM f i es,N,sc,e0=>onO (rO e0) λq=>nv N sc T.ms f i (λxs=>chks T es N sc xs) q
 | .join x e,N,sc,e0=>onQ (qk e0) λq=>q.1 == x&&q.2.1 == ("join":Str)&&chk T e N sc q.2.2.1&&am q.2.2.1&&q.2.2.2.1.endLine == q.2.2.2.2.line
 | .datL e b,N,sc,e0=>onQ (ql e0) λq=>q.2 == (if b=true then ("weaver":Str) else ("moth":Str))&&chk T e N sc q.1
 | .disp kvs e,N,sc,e0=>onQ (qm e0) λq=>i5 kvs q.1 q.2.1&&chk T e N sc q.2.2&&cw q.2.2&&decide (kvs.length <= 15)&&!kvs.isEmpty
noncomputable def chks (T:Tab):List ME->List Str->Scope->List Expr->Bool
 | [],_,_,[]=>true
 | m::ms,N,sc,e::es=>chk T m N sc e&&am e&&chks T ms N sc es
 | _,_,_,_=>false
end
theorem bP (T:Tab) (i:Nat) (N:List Str) (sc:Scope) (e0:Expr):chk T (.var i) N sc e0=(match e0 with|.Name x _=>ag N sc i x|_=>false):=rfl
theorem bQ (T:Tab) (i:Nat) (N:List Str) (sc:Scope) (e0:Expr):chk T (.bor i) N sc e0=(match e0 with|.Name x _=>ag N sc i x|_=>false):=rfl
theorem bR (T:Tab) (v:PV) (N:List Str) (sc:Scope) (e0:Expr):chk T (.cst v) N sc e0=(match e0 with|.Constant c _ _=>mj v c|_=>false):=rfl
theorem bn (T:Tab) (x:Str) (v:PV) (N:List Str) (sc:Scope) (e0:Expr):chk T (.glob x v) N sc e0=(match e0 with|.Name y _=>x == y&&glB sc x&&t8 T.gs x v&&aq x|_=>false):=rfl
theorem bS (T:Tab) (op:Op2) (a b:ME) (N:List Str) (sc:Scope) (e0:Expr):chk T (.bin op a b) N sc e0=(match e0 with|.BinOp l o r _=>o == wO op&&chk T a N sc l&&chk T b N sc r|_=>false):=rfl
theorem bT (T:Tab) (a:ME) (N:List Str) (sc:Scope) (e0:Expr):chk T (.neg a) N sc e0=false:=rfl
theorem bU (T:Tab) (a:ME) (N:List Str) (sc:Scope) (e0:Expr):chk T (.not a) N sc e0=(match e0 with|.UnaryOp .Not e _=>chk T a N sc e|_=>false):=rfl
theorem bV (T:Tab) (a b:ME) (N:List Str) (sc:Scope) (e0:Expr):chk T (.and a b) N sc e0=(match e0 with|.BoolOp .And (x::y::r) pos=>chk T a N sc x&&qj (λe=>chk T b N sc e) .And pos y r|_=>false):=rfl
theorem cR (T:Tab) (a b:ME) (N:List Str) (sc:Scope) (e0:Expr):chk T (.or a b) N sc e0=(match e0 with|.BoolOp .Or (x::y::r) pos=>chk T a N sc x&&qj (λe=>chk T b N sc e) .Or pos y r|_=>false):=rfl
theorem bW (T:Tab) (c a b:ME) (N:List Str) (sc:Scope) (e0:Expr):chk T (.ite c a b) N sc e0=(match e0 with|.IfExp t x y _=>chk T c N sc t&&chk T a N sc x&&chk T b N sc y&&!ax a&&!ax b|_=>false):=rfl
theorem bX (T:Tab) (op:Cp) (a b:ME) (N:List Str) (sc:Scope) (e0:Expr):chk T (.cmp op a b) N sc e0=(match e0 with|.Compare l [o] [r] _=>o == eQ op&&chk T a N sc l&&chk T b N sc r&&!behindInMarks o r|_=>false):=rfl
theorem aR (T:Tab) (op op':Cp) (a b c:ME) (N:List Str) (sc:Scope) (e0:Expr):chk T (.chain op op' a b c) N sc e0=(match e0 with|.Compare l [o,o'] [m,r] _=>o == eQ op&&o' == eQ op'&&chk T a N sc l&&chk T b N sc m&&chk T c N sc r&&!lastMarks [o,o'] [m,r]|_=>false):=rfl
theorem bY (T:Tab) (es:List ME) (N:List Str) (sc:Scope) (e0:Expr):chk T (.tup es) N sc e0=(match e0 with|.Tuple xs _ _=>chks T es N sc xs&&es.all (λe=>!ax e)|_=>false):=rfl
theorem bZ (T:Tab) (es:List ME) (N:List Str) (sc:Scope) (e0:Expr):chk T (.lst es) N sc e0=(match e0 with|.List xs _=>chks T es N sc xs&&es.all (λe=>!ax e)|_=>false):=rfl
theorem b6 (T:Tab) (a i:ME) (N:List Str) (sc:Scope) (e0:Expr):chk T (.idx a i) N sc e0=(match e0 with|.Subscript v s _=>chk T a N sc v&&chk T i N sc s&&cw s|_=>false):=rfl
theorem aS (T:Tab) (a lo hi:ME) (N:List Str) (sc:Scope) (e0:Expr):chk T (.slice a lo hi) N sc e0=(match e0 with|.Subscript v (.Slice l u none _) _=>chk T a N sc v&&fK (λe=>chk T lo N sc e) (eI lo) l&&fK (λe=>chk T hi N sc e) (eI hi) u|_=>false):=rfl
theorem b7 (T:Tab) (b:Blt) (es:List ME) (N:List Str) (sc:Scope) (e0:Expr):chk T (.blt b es) N sc e0=(match e0 with|.Call (.Name f _) args [] _=>f == (k8 b:Str)&&glB sc f&&cy sc (λxs=>chks T es N sc xs) es.length b args|_=>false):=rfl
theorem bo (T:Tab) (f:Nat) (es:List ME) (N:List Str) (sc:Scope) (e0:Expr):chk T (.call f es) N sc e0=(match e0 with|.Call (.Name x _) args [] _=>T.fs[f]? == some x&&glB sc x&&aq x&&chks T es N sc args|_=>false):=rfl
theorem aL (T:Tab) (k:Sk) (src:List ME) (js:List Nat) (cond elt:ME) (N:List Str) (sc:Scope) (e0:Expr):chk T (.comp k src js cond elt) N sc e0=(match e0 with|.ListComp e [⟨.Name x _,it,ifs,0⟩] scope _=>eE sc N scope x (b_ N js) js&&dz sc false (λxs=>chks T src N sc xs) k it&&j0 (λc=>chk T cond (x::b_ N js) (gf scope sc) c) cond ifs&&chk T elt (x::b_ N js) (gf scope sc) e&&!ax elt|_=>false):=rfl
noncomputable def bG:ME->Bool
 | .lst _=>true
 | .comp ..=>true
 | .blt .listOf _=>true
 | .blt .sorted _=>true
 | .blt .sortedSet _=>true
 | .blt .sortedKeys _=>true
 | .blt .valuesOf _=>true
 | _=>false
noncomputable def qp (sc:Scope) (t:Str) (tpos:Pos):Expr->Bool
 | .ListComp _ _ s p=>sc.names.lookup t == some .local&&tpos.line == p.line&&!(s.names.any λ(n,k)=>n == t&&(k == .local || k == .cell))
 | _=>false
noncomputable def CH:ME->Bool
 | .comp2 ..=>true
 | _=>false
noncomputable def k9 (sc:Scope) (t:Str) (tpos:Pos) (v:Expr) (e:ME):Bool:=qp sc t tpos v&&!CH e
noncomputable def c_ (N:List Str) (sc:Scope):List Nat->List Expr->Bool
 | [],[]=>true
 | i::is,.Name x _::es=>N[i]? == some x&&fb sc x&&aq x&&c_ N sc is es
 | _,_=>false
theorem ml (N:List Str) (sc:Scope) (i:Nat) (is:List Nat) (x:Str) (p:Pos) (es:List Expr):c_ N sc (i::is) (.Name x p::es)=(N[i]? == some x&&fb sc x&&aq x&&c_ N sc is es):=rfl
noncomputable def o8:Stmt->Option (Str × Pos × Expr)
 | .Assign [.Name x px] v _=>some (x,px,v)
 | _=>none
theorem g6 {s:Stmt}{q:Str × Pos × Expr} (h:o8 s=some q):∃ pos,s=.Assign [.Name q.1 q.2.1] q.2.2 pos:=by
 unfold o8 at h
 split at h
 ·cases h;exact ⟨_,rfl⟩
 ·cases h
noncomputable def wP:Stmt->Option (Str × Str × Pos × List Expr × Pos)
 | .Expr (.Call (.Attribute (.Name x _) m ap) args [] cp) _=>some (x,m,ap,args,cp)
 | _=>none
theorem qr {s:Stmt}{q:Str × Str × Pos × List Expr × Pos} (h:wP s=some q):∃ p pos,s=.Expr (.Call (.Attribute (.Name q.1 p) q.2.1 q.2.2.1) q.2.2.2.1 [] q.2.2.2.2) pos:=by
 unfold wP at h
 split at h
 ·cases h;exact ⟨_,_,rfl⟩
 ·cases h
noncomputable def ud:Stmt->Option Expr
 | .Return (some v) _=>some v
 | _=>none
theorem mn {s:Stmt}{v:Expr} (h:ud s=some v):∃ pos,s=.Return (some v) pos:=by
 unfold ud at h
 split at h
 ·cases h;exact ⟨_,rfl⟩
 ·cases h
noncomputable def ue:Expr->Option Str
 | .Name x _=>some x
 | _=>none
theorem uf {e:Expr}{x:Str} (h:ue e=some x):∃ p,e=.Name x p:=by
 unfold ue at h
 split at h
 ·cases h;exact ⟨_,rfl⟩
 ·cases h
noncomputable def yR:Expr->Option (Str × List Expr)
 | .Call (.Name y _) args [] _=>some (y,args)
 | _=>none
theorem wQ {e:Expr}{q:Str × List Expr} (h:yR e=some q):∃ p cp,e=.Call (.Name q.1 p) q.2 [] cp:=by
 unfold yR at h
 split at h
 ·cases h;exact ⟨_,_,rfl⟩
 ·cases h
noncomputable def qt:List Expr->Option Expr
 | [a]=>some a
 | _=>none
theorem j3 {l:List Expr}{a:Expr} (h:qt l=some a):l=[a]:=by
 match l,h with
 | [_],h=>cases h;rfl
noncomputable def yS:Stmt->Option (Str × Str × Str × Pos × List Expr × Pos)
 | .Expr (.Call (.Attribute (.Attribute (.Name x _) f _) m ap) args [] cp) _=>some (x,f,m,ap,args,cp)
 | _=>none
theorem wR {s:Stmt}{q:Str × Str × Str × Pos × List Expr × Pos} (h:yS s=some q):∃ p fp pos,s=.Expr (.Call (.Attribute (.Attribute (.Name q.1 p) q.2.1 fp) q.2.2.1 q.2.2.2.1) q.2.2.2.2.1 [] q.2.2.2.2.2) pos:=by
 unfold yS at h
 split at h
 ·cases h;exact ⟨_,_,_,rfl⟩
 ·cases h
noncomputable def ug:Stmt->Option Expr
 | .Expr e _=>some e
 | _=>none
theorem uh {s:Stmt}{e:Expr} (h:ug s=some e):∃ pos,s=.Expr e pos:=by
 unfold ug at h
 split at h
 ·cases h;exact ⟨_,rfl⟩
 ·cases h
noncomputable def o9:List Stmt->Option (Stmt × Stmt × Stmt × List Stmt)
 | a::b::c::r=>some (a,b,c,r)
 | _=>none
theorem rQ {l:List Stmt}{q:Stmt × Stmt × Stmt × List Stmt} (h:o9 l=some q):l=q.1::q.2.1::q.2.2.1::q.2.2.2:=by
 unfold o9 at h
 split at h
 ·cases h;rfl
 ·cases h
noncomputable def o1Q:Stmt->Option (Str × Str × Str)
 | .Assign [.Name x _] (.Dict [some (.Constant (.str a) _ _),some (.Constant (.str b) _ _)] [.List [] _,.List [] _] _) _=>some (x,a,b)
 | _=>none
theorem yT {s:Stmt}{q:Str × Str × Str} (h:o1Q s=some q):∃ px j1 p1 j2 p2 q1 q2 dp pos,s=.Assign [.Name q.1 px] (.Dict [some (.Constant (.str q.2.1) j1 p1),some (.Constant (.str q.2.2) j2 p2)] [.List [] q1,.List [] q2] dp) pos:=by
 unfold o1Q at h
 split at h
 ·cases h;exact ⟨_,_,_,_,_,_,_,_,_,rfl⟩
 ·cases h
structure O3 where
 (y z o t m:Str) (ap cp:Pos) (y2 t2:Str) (ks:List (Option Expr)) (vs:List Expr) (t3:Str)
noncomputable def o3Q:Stmt->Option O3
 | .For (.Name y _) (.Name z _) [.Expr (.Call (.Attribute (.Subscript (.Name o _) (.Name t _) _) m ap) [.Name y2 _] [] cp) _,.Assign [.Name t2 _] (.Subscript (.Dict ks vs _) (.Name t3 _) _) _] [] _=>some ⟨y,z,o,t,m,ap,cp,y2,t2,ks,vs,t3⟩
 | _=>none
theorem yU {s:Stmt}{q:O3} (h:o3Q s=some q):∃ py pz po pt ps p2 ep pt2 dp pt3 ps2 pa pos,s=.For (.Name q.y py) (.Name q.z pz) [.Expr (.Call (.Attribute (.Subscript (.Name q.o po) (.Name q.t pt) ps) q.m q.ap) [.Name q.y2 p2] [] q.cp) ep,.Assign [.Name q.t2 pt2] (.Subscript (.Dict q.ks q.vs dp) (.Name q.t3 pt3) ps2) pa] [] pos:=by
 unfold o3Q at h
 split at h
 ·cases h;exact ⟨_,_,_,_,_,_,_,_,_,_,_,_,_,rfl⟩
 ·cases h
noncomputable def uj (T:Tab) (N:List Str) (sc:Scope) (i j k d:Nat) (h:ME) (s1 s2 s3:Stmt):Bool :=
 (onO (o1Q s1) λq=>N[i]? == some q.1&&fb sc q.1&&aq q.1&&q.2.1 == ("weaver":Str)&&q.2.2 == ("moth":Str)) &&
 (onO (o8 s2) λq=>N[j]? == some q.1&&fb sc q.1&&aq q.1&&chk T h N sc q.2.2&&!ax h&&bD q.2.2) &&
 (onO (o3Q s3) λq=>N[k]? == some q.y&&fb sc q.y&&ag N sc d q.z&&ag N sc i q.o&&ag N sc j q.t&&q.m == ("append":Str)&&q.ap.endLine == q.cp.line&&ag N sc k q.y2&&N[j]? == some q.t2&&fb sc q.t2&&ag N sc j q.t3&&i5 [("weaver","moth"),("moth","weaver")] q.ks q.vs) &&
 decide (i ≠ j/\i ≠ k/\j ≠ k/\d ≠ i/\d ≠ j/\d ≠ k)
mutual
noncomputable def eJ (T:Tab) (N:List Str) (sc:Scope):MS->Stmt->Bool
 | .set i e,s0=>onO (o8 s0) λq=>N[i]? == some q.1&&fb sc q.1&&aq q.1&&chk T e N sc q.2.2&&!ax e&&(bD q.2.2 || k9 sc q.1 q.2.1 q.2.2 e)
 | .setOwn i e,s0=>onO (o8 s0) λq=>N[i]? == some q.1&&fb sc q.1&&aq q.1&&chk T e N sc q.2.2&&bG e&&(bD q.2.2 || k9 sc q.1 q.2.1 q.2.2 e)
 | .append i e,s0=>onO (wP s0) λq=>onO (qt q.2.2.2.1) λv=>ag N sc i q.1&&q.2.1 == ("append":Str)&&chk T e N sc v&&!ax e&&am v&&q.2.2.1.endLine == q.2.2.2.2.line
 | .extend i e,s0=>onO (wP s0) λq=>onO (qt q.2.2.2.1) λv=>ag N sc i q.1&&q.2.1 == ("extend":Str)&&chk T e N sc v&&am v&&q.2.2.1.endLine == q.2.2.2.2.line
 | .mkO i es,s0=>onO (o8 s0) λq=>onO (yR q.2.2) λc=>N[i]? == some q.1&&fb sc q.1&&aq q.1&&c.1 == ("Table":Str)&&glB sc c.1&&chks T es N sc c.2&&(es.all λm=>!ax m)&&!c.2.isEmpty
 | .appO i e,s0=>onO (yS s0) λq=>onO (qt q.2.2.2.2.1) λv=>ag N sc i q.1&&q.2.1 == ("taken":Str)&&q.2.2.1 == ("append":Str)&&chk T e N sc v&&!ax e&&am v&&q.2.2.2.1.endLine == q.2.2.2.2.2.line
 | .retT e,s0=>onO (ud s0) λv=>chk T e N sc v&&!ax e
 | .takeO (some j) i f es,s0=>onO (o8 s0) λq=>onO (rO q.2.2) λc=>N[j]? == some q.1&&fb sc q.1&&aq q.1&&(nv N sc T.ms f i (λxs=>chks T es N sc xs) c&&(es.all λm=>!ax m))
 | .takeO none i f es,s0=>onO (ug s0) λv=>onO (rO v) λc=>nv N sc T.ms f i (λxs=>chks T es N sc xs) c&&(es.all λm=>!ax m)
 | .setIdx _ _ _,_=>false
 | .unpack _ _,_=>false
 | .expr e,s0=>(match s0 with|.Expr v _=>chk T e N sc v&&bD v|_=>false)
 | .ite c a b,s0=>(match s0 with|.If t x y _=>chk T c N sc t&&chkSs T N sc a x&&chkSs T N sc b y|_=>false)
 | .for1 i k src body,s0=>(match s0 with|.For (.Name x _) it b [] _=>N[i]? == some x&&fb sc x&&aq x&&dz sc false (λxs=>chks T src N sc xs) k it&&chkSs T N sc body b|_=>false)
 | .forT is k src body,s0=>(match s0 with|.For (.Tuple ts _ _) it b [] _=>c_ N sc is ts&&dz sc true (λxs=>chks T src N sc xs) k it&&chkSs T N sc body b|_=>false)
 | .ret e,s0=>onO (ud s0) λv=>chk T e N sc v&&!ax e
 | .retOwn i,s0=>onO (ud s0) λv=>onO (ue v) λx=>ag N sc i x
 | .own3 _ _ _ _ _,_=>false
 | .never,_=>true
 | _,_=>false
noncomputable def chkSs (T:Tab) (N:List Str) (sc:Scope):List MS->List Stmt->Bool
 | [],[]=>true
 | .freeze _::_,_=>false
 | .own3 i j k d h::ms,ss=>onO (o9 ss) λz=>uj T N sc i j k d h z.1 z.2.1 z.2.2.1&&chkSs T N sc ms z.2.2.2
 | m::ms,s::ss=>eJ T N sc m s&&chkSs T N sc ms ss
 | _,_=>false
end
theorem wS (T:Tab) (N:List Str) (sc:Scope) (i:Nat) (k:Sk) (src:List ME) (body:List MS) (s0:Stmt):eJ T N sc (.for1 i k src body) s0=(match s0 with|.For (.Name x _) it b [] _=>N[i]? == some x&&fb sc x&&aq x&&dz sc false (λxs=>chks T src N sc xs) k it&&chkSs T N sc body b|_=>false):=rfl
theorem wT (T:Tab) (N:List Str) (sc:Scope) (is:List Nat) (k:Sk) (src:List ME) (body:List MS) (s0:Stmt):eJ T N sc (.forT is k src body) s0=(match s0 with|.For (.Tuple ts _ _) it b [] _=>c_ N sc is ts&&dz sc true (λxs=>chks T src N sc xs) k it&&chkSs T N sc body b|_=>false):=rfl
end MM
namespace MM
open PySem PySem.Spec PyProof.Rows L2
theorem j4 {f:PV->PV->Option Bool} (hf:∀ x b,f x x=some b->b=true):∀ (xs:List PV) {b:Bool},eqL f xs xs=some b->b=true
 | [],b,h=>by simp [eqL] at h;exact h
 | x::xs,b,h=>by
  simp only [eqL,Option.bind_eq_some_iff,Option.map_eq_some_iff] at h
  obtain ⟨p,h1,q,h2,rfl⟩:=h
  rw [hf x p h1,j4 hf xs h2];rfl
theorem g7:∀ (n:Nat) (x:PV) {b:Bool},eqF n x x=some b->b=true
 | n,.non,b,h=>by simp [eqF] at h;exact h
 | n,.bl _,b,h=>by simp [eqF] at h;exact h
 | n,.int _,b,h=>by simp [eqF] at h;exact h
 | n,.str _,b,h=>by simp [eqF] at h;exact h
 | 0,.tup _,b,h=>by simp [eqF] at h
 | 0,.lst _,b,h=>by simp [eqF] at h
 | n + 1,.tup xs,b,h=>by rw [eqF] at h;exact j4 (λx b=>g7 n x) xs h
 | n + 1,.lst xs,b,h=>by rw [eqF,if_pos rfl] at h;exact j4 (λx b=>g7 n x) xs h
 | n,.dI _,b,h=>by cases n <;> simp [eqF] at h
 | n,.dL _ _,b,h=>by cases n <;> simp [eqF] at h
theorem eK {n:Nat}{x y:PV}{b:Bool} (h:eqF n x y=some b):isD x=false/\isD y=false:=by
 cases x <;> cases y <;> first|exact ⟨rfl,rfl⟩|(cases n <;> simp [eqF] at h)
theorem g8 {f:PV->PV->Option Bool}:∀ (xs ys:List PV) {b:Bool},eqL f xs ys=some b ->
  (∀ (j:Nat) x y,xs[j]?=some x->ys[j]?=some y->∃ c,f x y=some c) /\
   b=((List.range (min xs.length ys.length)).all (λj=>(f (xs.getD j .non) (ys.getD j .non)).getD false)&&xs.length == ys.length)
 | [],[],b,h=>by simp [eqL] at h;subst h;simp
 | [],y::ys,b,h=>by simp [eqL] at h;subst h;simp
 | x::xs,[],b,h=>by simp [eqL] at h;subst h;simp
 | x::xs,y::ys,b,h=>by
  simp only [eqL,Option.bind_eq_some_iff,Option.map_eq_some_iff] at h
  obtain ⟨p,h1,q,h2,rfl⟩:=h
  obtain ⟨ih1,ih2⟩:=g8 xs ys h2
  refine ⟨λj x' y' e1 e2=>?_,?_⟩
  ·cases j with
   | zero=>simp at e1 e2;subst e1 e2;exact ⟨p,h1⟩
   | succ j=>exact ih1 j x' y' (by simpa using e1) (by simpa using e2)
  ·rw [ih2]
   have hm:min (x::xs).length (y::ys).length=min xs.length ys.length + 1:=by simp only [List.length_cons];omega
   rw [hm,List.range_succ_eq_map,List.all_cons,List.all_map]
   have hl:((x::xs).length == (y::ys).length)=(xs.length == ys.length):=by
    rw [Bool.eq_iff_iff];simp
   rw [hl,Bool.and_assoc]
   simp only [List.getD_cons_zero,h1,Option.getD_some,Function.comp_def,List.getD_cons_succ]
theorem qu {f:PV->Option Bool}:∀ (xs:List PV) {b:Bool},inL f xs=some b->(∀ x ∈ xs,∃ c,f x=some c)/\b=xs.any λx=>(f x).getD false
 | [],b,h=>by simp [inL] at h;subst h;simp
 | x::xs,b,h=>by
  simp only [inL,Option.bind_eq_some_iff,Option.map_eq_some_iff] at h
  obtain ⟨p,h1,q,h2,rfl⟩:=h
  obtain ⟨ih1,ih2⟩:=qu xs h2
  refine ⟨λy hy=>?_,?_⟩
  ·rcases List.mem_cons.mp hy with rfl|hy
   ·exact ⟨p,h1⟩
   ·exact ih1 y hy
  ·rw [List.any_cons,h1,ih2];rfl
section
variable {X:Cx}{pins:List (Addr × Obj)}{σ:St}{H:Hp}{s:Shared}
theorem nw (I:Inv X pins σ H s) {a:Addr}{xs ys:List V} (h1:SqL X.K H a xs) (h2:SqT X.K H a ys):False:=by
 obtain ⟨its,_,p,_⟩:=I.list h1
 obtain ⟨its2,_,q,_⟩:=I.tuple h2
 exact SeqAt.ne_of_list_tuple p.isList (show s.heap.IsTuple a its2.toArray from q) rfl
theorem wU {H:Hp}{a:Addr}{d:DD} (h:RdD H a d):IsD H a:=by
 cases d with
 | k kvs=>exact .inl ⟨_,h.rd⟩
 | t kvs=>exact .inr ⟨_,h.rd⟩
theorem jk (I:Inv X pins σ H s) {a:Addr}{xs:List V}{d:DD} (h1:SqL X.K H a xs \/ SqT X.K H a xs) (h2:RdD H a d):False:=by
 obtain ⟨o,ho,hc⟩:=(tq I (wU h2)).1
 rcases h1 with h1|h1
 ·obtain ⟨its,_,p,_⟩:=I.list h1
  obtain ⟨o',ho',hc',_⟩:=p.isList
  rw [ho] at ho'
  cases ho'
  rw [hc] at hc'
  exact absurd hc' (by decide)
 ·obtain ⟨its,_,⟨o',ho',hc',_⟩,_⟩:=I.tuple h1
  rw [ho] at ho'
  cases ho'
  rw [hc] at hc'
  exact absurd hc' (by decide)
theorem qv (I:Inv X pins σ H s) {a:Addr}{xs:List V}{kvs:List (Key × V)} (h1:SqL X.K H a xs \/ SqT X.K H a xs) (h2:H a=some (.dK kvs)):False:=by
 obtain ⟨o,ho,hc⟩:=(tq I (.inl ⟨_,.inl h2⟩)).1
 rcases h1 with h1|h1
 ·obtain ⟨its,_,p,_⟩:=I.list h1
  obtain ⟨o',ho',hc',_⟩:=p.isList
  rw [ho] at ho'
  cases ho'
  rw [hc] at hc'
  exact absurd hc' (by decide)
 ·obtain ⟨its,_,⟨o',ho',hc',_⟩,_⟩:=I.tuple h1
  rw [ho] at ho'
  cases ho'
  rw [hc] at hc'
  exact absurd hc' (by decide)
theorem xX {a:Addr}{d:DD}{x y:V} (h1:RdD H a d) (h2:H a=some (.dK [(Sum.inr "weaver",x),(Sum.inr "moth",y)])):False:=by
 cases d with
 | k kvs =>
  rcases h1 with h1|⟨o,h1⟩
  ·rw [h2] at h1
   have e:=HO.dK.inj (Option.some.inj h1)
   cases kvs with
   | nil=>cases e
   | cons p r=>cases e
  ·rw [h2] at h1;cases h1
 | t kvs =>
  rcases h1 with h1|⟨o,h1⟩ <;> (rw [h2] at h1;cases h1)
theorem Sc.v_inj:∀ {a b:Sc},a.v=b.v->a=b:=by
 intro a b h
 cases a <;> cases b <;> simp [Sc.v] at h ⊢ <;> exact h
theorem ny:∀ {a b:List (Int × Sc)},o5 a=o5 b->a=b
 | [],[],_=>rfl
 | [],_::_,h=>by cases h
 | _::_,[],h=>by cases h
 | (k,v)::a,(k',v')::b,h=>by
  simp only [o5,List.map_cons,List.cons.injEq,Prod.mk.injEq,Sum.inl.injEq] at h
  obtain ⟨⟨h1,h2⟩,h3⟩:=h
  rw [h1,Sc.v_inj h2,ny h3]
theorem qw:∀ {a b:List Int},(a.map Sum.inl:List Key)=b.map Sum.inl->a=b
 | [],[],_=>rfl
 | [],_::_,h=>by cases h
 | _::_,[],h=>by cases h
 | x::a,y::b,h=>by
  simp only [List.map_cons,List.cons.injEq,Sum.inl.injEq] at h
  rw [h.1,qw h.2]
theorem nz:∀ {a b:List (List Int × Sc)},wL a=wL b->a=b
 | [],[],_=>rfl
 | [],_::_,h=>by cases h
 | _::_,[],h=>by cases h
 | (k,v)::a,(k',v')::b,h=>by
  simp only [wL,List.map_cons,List.cons.injEq,Prod.mk.injEq] at h
  obtain ⟨⟨h1,h2⟩,h3⟩:=h
  rw [qw h1,Sc.v_inj h2,nz h3]
theorem nA {a b:DD} (h:nn a=nn b):a=b:=by
 cases a <;> cases b
 ·rw [ny (HO.dK.inj h)]
 ·cases h
 ·cases h
 ·rw [nz (HO.dT.inj h)]
theorem yV {H:Hp}{a:Addr}{x y:DD} (h:RdD H a x) (g:RdD H a y):x=y:=by
 have h:=h.rd
 have g:=g.rd
 have ne:∀ (x:DD) (o:Obj) (u:HO),nn x ≠ .frz o u:=λx o u e=>by cases x <;> cases e
 rcases h with h|⟨o,h⟩ <;> rcases g with g|⟨o',g⟩
 ·rw [h] at g;exact nA (Option.some.inj g)
 ·rw [h] at g;exact absurd (Option.some.inj g) (ne x _ _)
 ·rw [g] at h;exact absurd (Option.some.inj h) (ne y _ _)
 ·rw [h] at g;exact nA (HO.frz.inj (Option.some.inj g)).2
mutual
theorem jm (I:Inv X pins σ H s):∀ (x y:PV) {u:V},Rep X.K H x u->Rep X.K H y u->x=y
 | .non,y,u,h,g=>by rw [Rep] at h;subst h;cases y <;> simp [Rep] at g ⊢
 | .bl b,y,u,h,g=>by rw [Rep] at h;subst h;cases y <;> simp [Rep] at g ⊢;exact g
 | .int b,y,u,h,g=>by rw [Rep] at h;subst h;cases y <;> simp [Rep] at g ⊢;exact g
 | .str b,y,u,h,g=>by rw [Rep] at h;subst h;cases y <;> simp [Rep] at g ⊢;exact g
 | .tup xs,y,u,h,g=>by
  rw [Rep] at h
  obtain ⟨a,us,rfl,q,r⟩:=h
  cases y with
  | tup ys =>
   rw [Rep] at g
   obtain ⟨b,vs,e,q',r'⟩:=g
   cases e
   have:=I.tuple_inj (cH q) (cH q')
   subst this
   rw [reps_inj I xs ys r r']
  | lst ys =>
   rw [Rep] at g
   obtain ⟨b,vs,e,q',r'⟩:=g
   cases e
   exact (nw I q' (cH q)).elim
  | dI kvs =>
   rw [Rep] at g
   obtain ⟨b,e,q'⟩:=g
   cases e
   exact (jk I (.inr (cH q)) q').elim
  | dL w m =>
   rw [Rep] at g
   obtain ⟨b,l1,l2,us1,us2,e,h1,_⟩:=g
   cases e
   exact (qv I (.inr (cH q)) h1).elim
  | _=>simp [Rep] at g
 | .lst xs,y,u,h,g=>by
  rw [Rep] at h
  obtain ⟨a,us,rfl,q,r⟩:=h
  cases y with
  | lst ys =>
   rw [Rep] at g
   obtain ⟨b,vs,e,q',r'⟩:=g
   cases e
   have:=I.list_inj q q'
   subst this
   rw [reps_inj I xs ys r r']
  | tup ys =>
   rw [Rep] at g
   obtain ⟨b,vs,e,q',r'⟩:=g
   cases e
   exact (nw I q (cH q')).elim
  | dI kvs =>
   rw [Rep] at g
   obtain ⟨b,e,q'⟩:=g
   cases e
   exact (jk I (.inl q) q').elim
  | dL w m =>
   rw [Rep] at g
   obtain ⟨b,l1,l2,us1,us2,e,h1,_⟩:=g
   cases e
   exact (qv I (.inl q) h1).elim
  | _=>simp [Rep] at g
 | .dI kvs,y,u,h,g=>by
  rw [Rep] at h
  obtain ⟨a,rfl,q⟩:=h
  cases y with
  | dI ks =>
   rw [Rep] at g
   obtain ⟨b,e,q'⟩:=g
   cases e
   rw [yV q q']
  | tup ys =>
   rw [Rep] at g
   obtain ⟨b,vs,e,q',r'⟩:=g
   cases e
   exact (jk I (.inr (cH q')) q).elim
  | lst ys =>
   rw [Rep] at g
   obtain ⟨b,vs,e,q',r'⟩:=g
   cases e
   exact (jk I (.inl q') q).elim
  | dL w m =>
   rw [Rep] at g
   obtain ⟨b,l1,l2,us1,us2,e,h1,_⟩:=g
   cases e
   exact (xX q h1).elim
  | _=>simp [Rep] at g
 | .dL w m,y,u,h,g=>by
  rw [Rep] at h
  obtain ⟨a,l1,l2,us1,us2,rfl,h1,h2,h3,h4,h5⟩:=h
  cases y with
  | dL w' m' =>
   rw [Rep] at g
   obtain ⟨b,k1,k2,vs1,vs2,e,g1,g2,g3,g4,g5⟩:=g
   cases e
   rw [h1] at g1
   cases g1
   have z1:=I.list_inj h2 g2
   have z2:=I.list_inj h4 g4
   subst z1 z2
   rw [reps_inj I w w' h3 g3,reps_inj I m m' h5 g5]
  | dI kvs =>
   rw [Rep] at g
   obtain ⟨b,e,q'⟩:=g
   cases e
   exact (xX q' h1).elim
  | tup ys =>
   rw [Rep] at g
   obtain ⟨b,vs,e,q',r'⟩:=g
   cases e
   exact (qv I (.inr (cH q')) h1).elim
  | lst ys =>
   rw [Rep] at g
   obtain ⟨b,vs,e,q',r'⟩:=g
   cases e
   exact (qv I (.inl q') h1).elim
  | _=>simp [Rep] at g
theorem reps_inj (I:Inv X pins σ H s):∀ (xs ys:List PV) {us:List V},Reps X.K H xs us->Reps X.K H ys us->xs=ys
 | [],ys,us,h,g=>by
  rw [Reps] at h;subst h
  cases ys with
  | nil=>rfl
  | cons y ys=>rw [Reps] at g;obtain ⟨_,_,e,_⟩:=g;cases e
 | x::xs,ys,us,h,g=>by
  rw [Reps] at h
  obtain ⟨u,r,rfl,q,t⟩:=h
  cases ys with
  | nil=>rw [Reps] at g;cases g
  | cons y ys =>
   rw [Reps] at g
   obtain ⟨u',r',e,q',t'⟩:=g
   cases e
   rw [jm I x y q q',reps_inj I xs ys t t']
end
theorem Rep.tupAt (I:Inv X pins σ H s) {xs:List PV}{u:V}{v:Value} (h:Rep X.K H (.tup xs) u) (r:aw u v) :
  ∃ (a:Addr) (us:List V) (its:List Value),u=.ref a/\v=.ref a/\Reps X.K H xs us/\au us its/\s.heap.IsTuple a its.toArray/\xs.length=its.length:=by
 rw [Rep] at h
 obtain ⟨a,us,rfl,q,t⟩:=h
 obtain ⟨its,rv,p,_⟩:=I.tuple (cH q)
 exact ⟨a,us,its,rfl,r,t,rv,p,t.length.trans rv.length⟩
theorem Rep.lstAt (I:Inv X pins σ H s) {xs:List PV}{u:V}{v:Value} (h:Rep X.K H (.lst xs) u) (r:aw u v) :
  ∃ (a:Addr) (us:List V) (its:List Value),u=.ref a/\v=.ref a/\Reps X.K H xs us/\au us its/\s.heap.IsList a its.toArray/\xs.length=its.length:=by
 rw [Rep] at h
 obtain ⟨a,us,rfl,q,t⟩:=h
 obtain ⟨its,rv,p,_⟩:=I.list q
 exact ⟨a,us,its,rfl,r,t,rv,p.isList,t.length.trans rv.length⟩
theorem g9 {A:Around}{n:Nat} (ih:∀ (x y:PV) {ux uy:V}{vx vy:Value}{b:Bool}{A:Around},A.units + n < cLine->eqF n x y=some b->Rep X.K H x ux->Rep X.K H y uy->aw ux vx->aw uy vy->SeqAt.EqAt A s vx vy b)
  {xs ys:List PV}{us ws:List V}{its its2:List Value} (hu:A.units + (n + 1) < cLine) (rx:Reps X.K H xs us) (ry:Reps X.K H ys ws) (vx:au us its) (vy:au ws its2)
  (hs:∀ (j:Nat) x y,xs[j]?=some x->ys[j]?=some y->∃ c,eqF n x y=some c) :
  ∀ j (h1:j < its.toArray.size) (h2:j < its2.toArray.size),SeqAt.EqAt A.in1 s its.toArray[j] its2.toArray[j] ((eqF n (xs.getD j .non) (ys.getD j .non)).getD false):=λj h1 h2=>by
 have l1:=rx.length.trans vx.length
 have l2:=ry.length.trans vy.length
 simp only [List.size_toArray] at h1 h2
 have e1:xs[j]?=some xs[j]:=List.getElem?_eq_getElem (by omega)
 have e2:ys[j]?=some ys[j]:=List.getElem?_eq_getElem (by omega)
 obtain ⟨ux,q1,p1⟩:=rx.get e1
 obtain ⟨uy,q2,p2⟩:=ry.get e2
 obtain ⟨wx,q3,p3⟩:=vx.get q1
 obtain ⟨wy,q4,p4⟩:=vy.get q2
 obtain ⟨c,hc⟩:=hs j _ _ e1 e2
 have d1:xs.getD j .non=xs[j]:=by simp [List.getD,e1]
 have d2:ys.getD j .non=ys[j]:=by simp [List.getD,e2]
 have g1:its.toArray[j]=wx:=by
  have:its[j]?=some its[j]:=List.getElem?_eq_getElem h1
  rw [this] at q3;simpa using q3
 have g2:its2.toArray[j]=wy:=by
  have:its2[j]?=some its2[j]:=List.getElem?_eq_getElem h2
  rw [this] at q4;simpa using q4
 rw [d1,d2,hc,g1,g2]
 exact ih _ _ (show A.units + 1 + n < cLine by omega) hc p1 p2 p3 p4
theorem wV {A:Around}{n:Nat} (I:Inv X pins σ H s) (ih:∀ (x y:PV) {ux uy:V}{vx vy:Value}{b:Bool}{A:Around},A.units + n < cLine->eqF n x y=some b->Rep X.K H x ux->Rep X.K H y uy->aw ux vx->aw uy vy->SeqAt.EqAt A s vx vy b)
  (hu:A.units + (n + 1) < cLine):(∀ {xs ys:List PV}{ux uy:V}{vx vy:Value}{b:Bool},eqF (n + 1) (.tup xs) (.tup ys)=some b->Rep X.K H (.tup xs) ux->Rep X.K H (.tup ys) uy->aw ux vx->aw uy vy->SeqAt.RcAt A s vx vy b) /\
   (∀ {xs ys:List PV}{ux uy:V}{vx vy:Value}{b:Bool},eqF (n + 1) (.lst xs) (.lst ys)=some b->Rep X.K H (.lst xs) ux->Rep X.K H (.lst ys) uy->aw ux vx->aw uy vy->SeqAt.RcAt A s vx vy b):=by
 refine ⟨λ{xs ys ux uy vx vy b} h rx ry r1 r2=>?_,λ{xs ys ux uy vx vy b} h rx ry r1 r2=>?_⟩
 ·obtain ⟨a,us,its,rfl,rfl,t1,w1,p1,l1⟩:=rx.tupAt I r1
  obtain ⟨c,ws,its2,rfl,rfl,t2,w2,p2,l2⟩:=ry.tupAt I r2
  rw [eqF] at h
  obtain ⟨hs,hb⟩:=g8 xs ys h
  have q:=SeqAt.RcAt.tuples (A:=A) p1 p2 (by omega) (g9 ih hu t1 t2 w1 w2 hs)
  rw [hb]
  simpa [l1,l2] using q
 ·obtain ⟨a,us,its,rfl,rfl,t1,w1,p1,l1⟩:=rx.lstAt I r1
  obtain ⟨c,ws,its2,rfl,rfl,t2,w2,p2,l2⟩:=ry.lstAt I r2
  rw [eqF] at h
  by_cases hl:xs.length=ys.length
  ·rw [if_pos hl] at h
   obtain ⟨hs,hb⟩:=g8 xs ys h
   have q:=SeqAt.RcAt.lists (A:=A) p1 p2 (by simp only [List.size_toArray];omega) (by omega) (g9 ih hu t1 t2 w1 w2 hs)
   rw [hb,hl,Nat.min_self]
   simpa [<- l1,hl] using q
  ·rw [if_neg hl] at h
   cases h
   exact SeqAt.RcAt.lists_lengths (A:=A) p1 p2 (by simp only [List.size_toArray,bne_iff_ne];omega) (by omega)
theorem cx {x:PV}{u:V} (hd:isD x=false) (h:Rep X.K H x u):(∃ xs,x=.tup xs) \/ (∃ xs,x=.lst xs) \/ gi u=true:=by
 cases x with
 | tup xs=>exact .inl ⟨xs,rfl⟩
 | lst xs=>exact .inr (.inl ⟨xs,rfl⟩)
 | non=>rw [Rep] at h;subst h;exact .inr (.inr rfl)
 | bl b=>rw [Rep] at h;subst h;exact .inr (.inr rfl)
 | int b=>rw [Rep] at h;subst h;exact .inr (.inr rfl)
 | str b=>rw [Rep] at h;subst h;exact .inr (.inr rfl)
 | dI _=>cases hd
 | dL _ _=>cases hd
theorem ff {A:Around} (hu:A.units < cLine) {u:V}{v:Value} (f:gi u=true) (r:aw u v) {a:Addr}{its:Array Value} (p:s.heap.IsTuple a its) :
  SeqAt.EqAt A s v (.ref a) false/\SeqAt.EqAt A s (.ref a) v false/\SeqAt.RcAt A s v (.ref a) false/\SeqAt.RcAt A s (.ref a) v false:=by
 cases u with
 | non=>cases r;exact ⟨.none_tuple p hu,.tuple_none p hu,.none_tuple p hu,.tuple_none p hu⟩
 | bl b=>cases r;exact ⟨.bool_tuple b p hu,.tuple_bool b p hu,.bool_tuple b p hu,.tuple_bool b p hu⟩
 | int b=>obtain ⟨t,rfl⟩:=r;exact ⟨.int_tuple b t p hu,.tuple_int b t p hu,.int_tuple b t p hu,.tuple_int b t p hu⟩
 | str b=>obtain ⟨t,rfl⟩:=r;exact ⟨.str_tuple b t p hu,.tuple_str b t p hu,.str_tuple b t p hu,.tuple_str b t p hu⟩
 | _=>exact absurd (show false=true from f) Bool.false_ne_true
theorem fW {A:Around} (hu:A.units < cLine) {u:V}{v:Value} (f:gi u=true) (r:aw u v) {a:Addr}{its:Array Value} (p:s.heap.IsList a its) :
  SeqAt.EqAt A s v (.ref a) false/\SeqAt.EqAt A s (.ref a) v false/\SeqAt.RcAt A s v (.ref a) false/\SeqAt.RcAt A s (.ref a) v false:=by
 cases u with
 | non=>cases r;exact ⟨.none_list p hu,.list_none p hu,.none_list p hu,.list_none p hu⟩
 | bl b=>cases r;exact ⟨.bool_list b p hu,.list_bool b p hu,.bool_list b p hu,.list_bool b p hu⟩
 | int b=>obtain ⟨t,rfl⟩:=r;exact ⟨.int_list b t p hu,.list_int b t p hu,.int_list b t p hu,.list_int b t p hu⟩
 | str b=>obtain ⟨t,rfl⟩:=r;exact ⟨.str_list b t p hu,.list_str b t p hu,.str_list b t p hu,.list_str b t p hu⟩
 | _=>exact absurd (show false=true from f) Bool.false_ne_true
theorem ul {A:Around}{y x:V}{u v:Value} (ry:aw y u) (rx:aw x v) (fy:gi y=true) (fx:gi x=true):SeqAt.RcAt A s u v (eqV y x):=by
 cases y with
 | non =>
  cases ry
  cases x with
  | non=>cases rx;exact SeqAt.RcAt.none_none
  | bl b=>cases rx;exact SeqAt.RcAt.none_bool b
  | int b=>obtain ⟨t,rfl⟩:=rx;exact SeqAt.RcAt.none_int b t
  | str b=>obtain ⟨t,rfl⟩:=rx;exact SeqAt.RcAt.none_str b t
  | _=>exact absurd (show false=true from fx) Bool.false_ne_true
 | bl a =>
  cases ry
  cases x with
  | non=>cases rx;exact SeqAt.RcAt.bool_none a
  | bl b=>cases rx;exact SeqAt.RcAt.bool_bool a b
  | int b=>obtain ⟨t,rfl⟩:=rx;exact SeqAt.RcAt.bool_int a b t
  | str b=>obtain ⟨t,rfl⟩:=rx;exact SeqAt.RcAt.bool_str a b t
  | _=>exact absurd (show false=true from fx) Bool.false_ne_true
 | int a =>
  obtain ⟨t',rfl⟩:=ry
  cases x with
  | non=>cases rx;exact SeqAt.RcAt.int_none a t'
  | bl b=>cases rx;exact SeqAt.RcAt.int_bool a t' b
  | int b=>obtain ⟨t,rfl⟩:=rx;exact SeqAt.RcAt.int_int a t' b t
  | str b=>obtain ⟨t,rfl⟩:=rx;exact SeqAt.RcAt.int_str a t' b t
  | _=>exact absurd (show false=true from fx) Bool.false_ne_true
 | str a =>
  obtain ⟨t',rfl⟩:=ry
  cases x with
  | non=>cases rx;exact SeqAt.RcAt.str_none a t'
  | bl b=>cases rx;exact SeqAt.RcAt.str_bool a t' b
  | int b=>obtain ⟨t,rfl⟩:=rx;exact SeqAt.RcAt.str_int a t' b t
  | str b=>obtain ⟨t,rfl⟩:=rx;exact SeqAt.RcAt.str_str a t' b t
  | _=>exact absurd (show false=true from fx) Bool.false_ne_true
 | _=>exact absurd (show false=true from fy) Bool.false_ne_true
theorem j5 {n:Nat}{x y:PV}{u v:V}{b:Bool} (rx:Rep X.K H x u) (ry:Rep X.K H y v) (fx:gi u=true) (fy:gi v=true) (h:eqF n x y=some b):b=eqV u v:=by
 cases x <;> cases y <;> simp only [Rep] at rx ry
 all_goals first
  | (obtain ⟨_,_,_,_,_,rfl,_⟩:=rx;exact absurd (show false=true from fx) Bool.false_ne_true)
  | (obtain ⟨_,_,_,_,_,rfl,_⟩:=ry;exact absurd (show false=true from fy) Bool.false_ne_true)
  | (obtain ⟨_,_,rfl,_⟩:=rx;exact absurd (show false=true from fx) Bool.false_ne_true)
  | (obtain ⟨_,_,rfl,_⟩:=ry;exact absurd (show false=true from fy) Bool.false_ne_true)
  | (obtain ⟨_,rfl,_⟩:=rx;exact absurd (show false=true from fx) Bool.false_ne_true)
  | (obtain ⟨_,rfl,_⟩:=ry;exact absurd (show false=true from fy) Bool.false_ne_true)
  | (subst rx ry;simp only [eqF,Option.some.injEq] at h;subst h;rfl)
theorem mq (I:Inv X pins σ H s):∀ (n:Nat) (x y:PV) {ux uy:V}{vx vy:Value}{b:Bool}{A:Around},A.units + n < cLine->eqF n x y=some b->Rep X.K H x ux->Rep X.K H y uy->aw ux vx->aw uy vy ->
  SeqAt.EqAt A s vx vy b/\SeqAt.RcAt A s vx vy b:=by
 intro n
 induction n with
 | zero =>
  intro x y ux uy vx vy b A hu h rx ry r1 r2
  have hu0:A.units < cLine:=by omega
  rcases cx (eK h).1 rx with ⟨xs,rfl⟩|⟨xs,rfl⟩|fx
  ·obtain ⟨a,us,its,rfl,rfl,t1,w1,p1,l1⟩:=rx.tupAt I r1
   rcases cx (eK h).2 ry with ⟨ys,rfl⟩|⟨ys,rfl⟩|fy
   ·simp [eqF] at h
   ·obtain ⟨c,ws,its2,rfl,rfl,t2,w2,p2,l2⟩:=ry.lstAt I r2
    simp [eqF] at h;subst h
    exact ⟨.tuple_list p1 p2 hu0,.tuple_list p1 p2 hu0⟩
   ·obtain ⟨z1,z2,z3,z4⟩:=ff hu0 fy r2 p1
    have:b=false:=by cases y <;> simp [eqF,Rep] at h ry <;> first|exact h.symm|exact h|(obtain ⟨_,rfl,_⟩:=ry;exact absurd (show false=true from fy) Bool.false_ne_true)
    subst this
    exact ⟨z2,z4⟩
  ·obtain ⟨a,us,its,rfl,rfl,t1,w1,p1,l1⟩:=rx.lstAt I r1
   rcases cx (eK h).2 ry with ⟨ys,rfl⟩|⟨ys,rfl⟩|fy
   ·obtain ⟨c,ws,its2,rfl,rfl,t2,w2,p2,l2⟩:=ry.tupAt I r2
    simp [eqF] at h;subst h
    exact ⟨.list_tuple p1 p2 hu0,.list_tuple p1 p2 hu0⟩
   ·simp [eqF] at h
   ·obtain ⟨z1,z2,z3,z4⟩:=fW hu0 fy r2 p1
    have:b=false:=by cases y <;> simp [eqF,Rep] at h ry <;> first|exact h.symm|exact h|(obtain ⟨_,rfl,_⟩:=ry;exact absurd (show false=true from fy) Bool.false_ne_true)
    subst this
    exact ⟨z2,z4⟩
  ·rcases cx (eK h).2 ry with ⟨ys,rfl⟩|⟨ys,rfl⟩|fy
   ·obtain ⟨c,ws,its2,rfl,rfl,t2,w2,p2,l2⟩:=ry.tupAt I r2
    obtain ⟨z1,z2,z3,z4⟩:=ff hu0 fx r1 p2
    have:b=false:=by cases x <;> simp [eqF,Rep] at h rx <;> first|exact h.symm|exact h|(obtain ⟨_,rfl,_⟩:=rx;exact absurd (show false=true from fx) Bool.false_ne_true)
    subst this
    exact ⟨z1,z3⟩
   ·obtain ⟨c,ws,its2,rfl,rfl,t2,w2,p2,l2⟩:=ry.lstAt I r2
    obtain ⟨z1,z2,z3,z4⟩:=fW hu0 fx r1 p2
    have:b=false:=by cases x <;> simp [eqF,Rep] at h rx <;> first|exact h.symm|exact h|(obtain ⟨_,rfl,_⟩:=rx;exact absurd (show false=true from fx) Bool.false_ne_true)
    subst this
    exact ⟨z1,z3⟩
   ·rw [j5 rx ry fx fy h]
    exact ⟨sZ r1 r2 fx fy,ul r1 r2 fx fy⟩
 | succ n ih =>
  intro x y ux uy vx vy b A hu h rx ry r1 r2
  have hu0:A.units < cLine:=by omega
  obtain ⟨kt,kl⟩:=wV I (λx y {_ _ _ _ _ _} a1 a2 a3 a4 a5 a6=>(ih x y a1 a2 a3 a4 a5 a6).1) hu
  rcases cx (eK h).1 rx with ⟨xs,rfl⟩|⟨xs,rfl⟩|fx
  ·obtain ⟨a,us,its,e1,e1',t1,w1,p1,l1⟩:=rx.tupAt I r1
   rcases cx (eK h).2 ry with ⟨ys,rfl⟩|⟨ys,rfl⟩|fy
   ·have q:=kt h rx ry r1 r2
    obtain ⟨c,ws,its2,e2,e2',t2,w2,p2,l2⟩:=ry.tupAt I r2
    subst e1 e1' e2 e2'
    refine ⟨?_,q⟩
    by_cases hac:a=c
    ·subst hac
     have e:=jm I _ _ rx ry
     rw [e] at h
     rw [g7 _ _ h]
     exact .same _
    ·exact .of_refs hac q
   ·obtain ⟨c,ws,its2,e2,e2',t2,w2,p2,l2⟩:=ry.lstAt I r2
    subst e1 e1' e2 e2'
    simp [eqF] at h;subst h
    exact ⟨.tuple_list p1 p2 hu0,.tuple_list p1 p2 hu0⟩
   ·subst e1 e1'
    obtain ⟨z1,z2,z3,z4⟩:=ff hu0 fy r2 p1
    have:b=false:=by cases y <;> simp [eqF,Rep] at h ry <;> first|exact h.symm|exact h|(obtain ⟨_,rfl,_⟩:=ry;exact absurd (show false=true from fy) Bool.false_ne_true)
    subst this
    exact ⟨z2,z4⟩
  ·obtain ⟨a,us,its,e1,e1',t1,w1,p1,l1⟩:=rx.lstAt I r1
   rcases cx (eK h).2 ry with ⟨ys,rfl⟩|⟨ys,rfl⟩|fy
   ·obtain ⟨c,ws,its2,e2,e2',t2,w2,p2,l2⟩:=ry.tupAt I r2
    subst e1 e1' e2 e2'
    simp [eqF] at h;subst h
    exact ⟨.list_tuple p1 p2 hu0,.list_tuple p1 p2 hu0⟩
   ·have q:=kl h rx ry r1 r2
    obtain ⟨c,ws,its2,e2,e2',t2,w2,p2,l2⟩:=ry.lstAt I r2
    subst e1 e1' e2 e2'
    refine ⟨?_,q⟩
    by_cases hac:a=c
    ·subst hac
     have e:=jm I _ _ rx ry
     rw [e] at h
     rw [g7 _ _ h]
     exact .same _
    ·exact .of_refs hac q
   ·subst e1 e1'
    obtain ⟨z1,z2,z3,z4⟩:=fW hu0 fy r2 p1
    have:b=false:=by cases y <;> simp [eqF,Rep] at h ry <;> first|exact h.symm|exact h|(obtain ⟨_,rfl,_⟩:=ry;exact absurd (show false=true from fy) Bool.false_ne_true)
    subst this
    exact ⟨z2,z4⟩
  ·rcases cx (eK h).2 ry with ⟨ys,rfl⟩|⟨ys,rfl⟩|fy
   ·obtain ⟨c,ws,its2,rfl,rfl,t2,w2,p2,l2⟩:=ry.tupAt I r2
    obtain ⟨z1,z2,z3,z4⟩:=ff hu0 fx r1 p2
    have:b=false:=by cases x <;> simp [eqF,Rep] at h rx <;> first|exact h.symm|exact h|(obtain ⟨_,rfl,_⟩:=rx;exact absurd (show false=true from fx) Bool.false_ne_true)
    subst this
    exact ⟨z1,z3⟩
   ·obtain ⟨c,ws,its2,rfl,rfl,t2,w2,p2,l2⟩:=ry.lstAt I r2
    obtain ⟨z1,z2,z3,z4⟩:=fW hu0 fx r1 p2
    have:b=false:=by cases x <;> simp [eqF,Rep] at h rx <;> first|exact h.symm|exact h|(obtain ⟨_,rfl,_⟩:=rx;exact absurd (show false=true from fx) Bool.false_ne_true)
    subst this
    exact ⟨z1,z3⟩
   ·rw [j5 rx ry fx fy h]
    exact ⟨sZ r1 r2 fx fy,ul r1 r2 fx fy⟩
end
section
variable {X:Cx}
theorem yW (hu:X.A.units + 101 < cLine):OpR X (compareOp .Eq) (λux uy H Q=>∃ x y b,Rep X.K H x ux/\Rep X.K H y uy/\eqF 100 x y=some b/\Q (.bl b) H):=by
 intro pins s σ H ux uy v u Q I rx ry h
 obtain ⟨x,y,b,r1,r2,e,q⟩:=h
 exact (mq I 100 x y (by omega) e r1 r2 rx ry).2 _ _ _ _ ⟨.bl b,H,I,rfl,q⟩
theorem yX (hu:X.A.units + 101 < cLine):OpR X (compareOp .NotEq) (λux uy H Q=>∃ x y b,Rep X.K H x ux/\Rep X.K H y uy/\rK x y=true/\eqF 100 x y=some b/\Q (.bl (!b)) H):=by
 intro pins s σ H ux uy v u Q I rx ry h
 obtain ⟨x,y,b,r1,r2,ok,e,q⟩:=h
 rcases cx (eK e).1 r1 with ⟨xs,rfl⟩|⟨xs,rfl⟩|fx
 ·cases y with
  | tup ys =>
   obtain ⟨a,us,its,rfl,rfl,t1,w1,p1,l1⟩:=r1.tupAt I rx
   obtain ⟨c,ws,its2,rfl,rfl,t2,w2,p2,l2⟩:=r2.tupAt I ry
   rw [eqF] at e
   obtain ⟨hs,hb⟩:=g8 xs ys e
   obtain ⟨⟨cls,dd,data,sl⟩,ho,hc,n,hd⟩:=id p1
   obtain ⟨⟨cls2,dd2,data2,sl2⟩,ho2,hc2,n2,hd2⟩:=id p2
   simp only at hc hd hc2 hd2
   subst hc hd hc2 hd2
   refine richCompare_meets_room (op:=.NotEq) ⟨_,ho,rfl⟩ ⟨_,ho2,rfl⟩ PySem.F.slot_tuple_ne PySem.F.entry_tuple_ne (PySem.F.args_tuple_ne_2 _ _) (SeqAt.tuple_neAt a c its.toArray its2.toArray n n2 dd dd2 sl sl2 _)
    ⟨ho,ho2,g9 (n:=99) (λx y {_ _ _ _ _ _} a1 a2 a3 a4 a5 a6=>(mq I 99 x y a1 a2 a3 a4 a5 a6).1) (by omega) t1 t2 w1 w2 hs,?_⟩ (by omega)
   refine ⟨(λx=>nomatch x),⟨.bl (!b),H,I,?_,q⟩⟩
   rw [hb]
   simp [l1,l2,L2.aw]
  | _=>cases ok
 ·cases y with
  | lst ys =>
   obtain ⟨a,us,its,rfl,rfl,t1,w1,p1,l1⟩:=r1.lstAt I rx
   obtain ⟨c,ws,its2,rfl,rfl,t2,w2,p2,l2⟩:=r2.lstAt I ry
   rw [eqF] at e
   obtain ⟨⟨cls,dd,data,sl⟩,ho,hc,n,hd⟩:=id p1
   obtain ⟨⟨cls2,dd2,data2,sl2⟩,ho2,hc2,n2,hd2⟩:=id p2
   simp only at hc hd hc2 hd2
   subst hc hd hc2 hd2
   by_cases hl:xs.length=ys.length
   ·rw [if_pos hl] at e
    obtain ⟨hs,hb⟩:=g8 xs ys e
    refine richCompare_meets_room (op:=.NotEq) ⟨_,ho,rfl⟩ ⟨_,ho2,rfl⟩ PySem.F.slot_list_ne PySem.F.entry_list_ne (PySem.F.args_list_ne_2 _ _) (SeqAt.list_neAt a c its.toArray its2.toArray n n2 dd dd2 sl sl2 (by simp only [List.size_toArray];omega) _)
     ⟨ho,ho2,g9 (n:=99) (λx y {_ _ _ _ _ _} a1 a2 a3 a4 a5 a6=>(mq I 99 x y a1 a2 a3 a4 a5 a6).1) (by omega) t1 t2 w1 w2 hs,?_⟩ (by omega)
    refine ⟨(λx=>nomatch x),⟨.bl (!b),H,I,?_,q⟩⟩
    rw [hb,hl,Nat.min_self]
    simp [<- l1,hl,L2.aw]
   ·rw [if_neg hl] at e
    cases e
    refine richCompare_meets_room (op:=.NotEq) ⟨_,ho,rfl⟩ ⟨_,ho2,rfl⟩ PySem.F.slot_list_ne PySem.F.entry_list_ne (PySem.F.args_list_ne_2 _ _) (SeqAt.list_ne_lengthsAt a c its.toArray its2.toArray n n2 dd dd2 sl sl2 (by simp only [List.size_toArray,bne_iff_ne];omega)) ⟨ho,ho2,?_⟩ (by omega)
    exact ⟨(λx=>nomatch x),⟨.bl true,H,I,rfl,q⟩⟩
  | _=>cases ok
 ·have fy:gi uy=true:=by
   rcases cx (eK e).2 r2 with ⟨ys,rfl⟩|⟨ys,rfl⟩|fy
   ·cases x <;> cases ok
    obtain ⟨_,_,rfl,_⟩:∃ a us,ux=V.ref a/\_:=by rw [Rep] at r1;exact r1
    exact absurd (show false=true from fx) Bool.false_ne_true
   ·cases x <;> cases ok
    obtain ⟨_,_,rfl,_⟩:∃ a us,ux=V.ref a/\_:=by rw [Rep] at r1;exact r1
    exact absurd (show false=true from fx) Bool.false_ne_true
   ·exact fy
  have hb:=j5 r1 r2 fx fy e
  subst hb
  refine AN pins s σ H ux uy v u Q I rx ry ?_
  have key:scal ux uy=true/\decide (ux=uy)=eqV ux uy:=by
   cases x <;> cases y <;> simp only [Rep] at r1 r2 <;> first
    | (obtain ⟨_,_,_,_,_,rfl,_⟩:=r1;exact absurd (show false=true from fx) Bool.false_ne_true)
    | (obtain ⟨_,_,_,_,_,rfl,_⟩:=r2;exact absurd (show false=true from fy) Bool.false_ne_true)
    | (obtain ⟨_,_,rfl,_⟩:=r1;exact absurd (show false=true from fx) Bool.false_ne_true)
    | (obtain ⟨_,_,rfl,_⟩:=r2;exact absurd (show false=true from fy) Bool.false_ne_true)
    | (obtain ⟨_,rfl,_⟩:=r1;exact absurd (show false=true from fx) Bool.false_ne_true)
    | (obtain ⟨_,rfl,_⟩:=r2;exact absurd (show false=true from fy) Bool.false_ne_true)
    | (subst r1 r2;first|(cases ok;done)|exact ⟨rfl,by first|exact pS|exact sM|exact pT|exact decide_eq_true rfl|exact decide_eq_false (λz=>by cases z)⟩)
  exact ⟨key.1,by rw [key.2];exact q⟩
theorem g_ {pins:List (Addr × Obj)}{σ:St}{H:Hp}{s:Shared} (I:Inv X pins σ H s) (hu:X.A.units + 101 < cLine) {x:PV}{ux:V}{vx:Value} (rx:Rep X.K H x ux) (r1:aw ux vx) {xs:List PV}{us:List V}{its:List Value} (t:Reps X.K H xs us) (w:au us its) {b:Bool} (h:isIn x xs=some b) :
  ∃ e:Value->Bool,(∀ y,y ∈ its.toArray->SeqAt.EqAt X.A.in1 s y vx (e y))/\its.toArray.any e=b:=by
 obtain ⟨h1,h2⟩:=qu xs h
 classical
 have uniq:∀ (z:PV) (u:V) (y:Value),aw u y->Rep X.K H z u->∀ p:(∃ z u,aw u y/\Rep X.K H z u),p.choose=z:=λz u y r q p=>by
  obtain ⟨u',r',q'⟩:=p.choose_spec
  have e:=r.inj r'
  subst e
  exact jm I _ _ q' q
 refine ⟨λy=>if p:∃ z u,aw u y/\Rep X.K H z u then (eqF 100 p.choose x).getD false else false,?_,?_⟩
 ·intro y hy
  obtain ⟨j,hj,e⟩:=List.getElem_of_mem (by simpa using hy:y ∈ its)
  have ej:its[j]?=some y:=by rw [List.getElem?_eq_getElem hj,e]
  have l1:=w.length
  obtain ⟨uy,e1⟩:∃ uy,us[j]?=some uy:=⟨_,List.getElem?_eq_getElem (by omega)⟩
  obtain ⟨wy,e2,ry⟩:=w.get e1
  rw [ej] at e2
  cases e2
  obtain ⟨z,e3,rz⟩:=t.get' e1
  obtain ⟨c,hc⟩:=h1 z (List.mem_of_getElem? e3)
  have q:=(mq I 100 z x (A:=X.A.in1) (show X.A.units + 1 + 100 < cLine by omega) hc rz rx ry r1).1
  have p:∃ z u,aw u y/\Rep X.K H z u:=⟨z,uy,ry,rz⟩
  have e4:=uniq z uy y ry rz p
  simp only [p,dite_true,e4,hc,Option.getD_some]
  exact q
 ·rw [h2]
  simp only [List.any_toArray]
  clear h h1 h2
  induction xs generalizing us its with
  | nil =>
   rw [Reps] at t
   subst t
   cases w
   rfl
  | cons z zs ih =>
   rw [Reps] at t
   obtain ⟨u,r,rfl,q,t⟩:=t
   cases w with
   | cons rv w =>
    rename_i y ys
    have p:∃ z u,aw u y/\Rep X.K H z u:=⟨z,u,rv,q⟩
    have e4:=uniq z u y rv q p
    rw [List.any_cons,List.any_cons,ih t w]
    simp only [p,dite_true,e4]
theorem yY (hu:X.A.units + 101 < cLine):OpR X (compareOp .In) (λux uy H Q=>∃ x xs a us b,Rep X.K H x ux/\uy=.ref a/\(SqL X.K H a us \/ SqT X.K H a us)/\Reps X.K H xs us/\isIn x xs=some b/\Q (.bl b) H):=by
 intro pins s σ H ux uy v u Q I rx ry h
 obtain ⟨x,xs,a,us,b,r1,rfl,hq,r2,e,q⟩:=h
 cases ry
 rcases hq with hq|hq
 ·obtain ⟨its,r,pl,hz⟩:=I.list hq
  obtain ⟨f,h1,h2⟩:=g_ I hu r1 rx r2 r e
  refine SeqAt.in_listAt f pl.isList h1 ?_
  rw [h2]
  exact ⟨.bl b,H,I,rfl,q⟩
 ·obtain ⟨its,r,pl,hz⟩:=I.tuple hq
  obtain ⟨f,h1,h2⟩:=g_ I hu r1 rx r2 r e
  refine SeqAt.in_tupleAt f pl h1 ?_
  rw [h2]
  exact ⟨.bl b,H,I,rfl,q⟩
theorem rR (hu:X.A.units + 101 < cLine):OpR X (compareOp .NotIn) (λux uy H Q=>∃ x xs a us b,Rep X.K H x ux/\uy=.ref a/\(SqL X.K H a us \/ SqT X.K H a us)/\Reps X.K H xs us/\isIn x xs=some b/\Q (.bl (!b)) H):=by
 intro pins s σ H ux uy v u Q I rx ry h
 obtain ⟨x,xs,a,us,b,r1,rfl,hq,r2,e,q⟩:=h
 cases ry
 rcases hq with hq|hq
 ·obtain ⟨its,r,pl,hz⟩:=I.list hq
  obtain ⟨f,h1,h2⟩:=g_ I hu r1 rx r2 r e
  refine SeqAt.notIn_listAt f pl.isList h1 ?_
  rw [h2]
  exact ⟨.bl (!b),H,I,rfl,q⟩
 ·obtain ⟨its,r,pl,hz⟩:=I.tuple hq
  obtain ⟨f,h1,h2⟩:=g_ I hu r1 rx r2 r e
  refine SeqAt.notIn_tupleAt f pl h1 ?_
  rw [h2]
  exact ⟨.bl (!b),H,I,rfl,q⟩
end
end MM
namespace L2
open PySem PySem.Spec PyProof.Rows
theorem PE.imp {X:Cx}{e:Expr}{t t':TE} (h:PE X e t) (i:∀ σ H Q,t' σ H Q->t σ H Q):PE X e t':=λpins s σ H Q I q=>h pins s σ H Q I (i σ H Q q)
theorem PT.imp {X:Cx}{e:Expr}{t t':TT} (h:PT X e t) (i:∀ σ H Q,t' σ H Q->t σ H Q):PT X e t':=λpins s σ H Q I q=>h pins s σ H Q I (i σ H Q q)
theorem PA.imp {X:Cx}{e:List Expr}{t t':TA} (h:PA X e t) (i:∀ σ H Q,t' σ H Q->t σ H Q):PA X e t':=λpos pins s σ H Q I q=>h pos pins s σ H Q I (i σ H Q q)
theorem PS.imp {X:Cx}{e:Stmt}{t t':TS} (h:PS X e t) (i:∀ D σ H,t' D σ H->t D σ H):PS X e t':=λpins s σ H D I q=>h pins s σ H D I (i D σ H q)
theorem PSs.imp {X:Cx}{e:List Stmt}{t t':TS} (h:PSs X e t) (i:∀ D σ H,t' D σ H->t D σ H):PSs X e t':=λpins s σ H D I q=>h pins s σ H D I (i D σ H q)
theorem PI.imp {X:Cx}{tg e:Expr}{t t':TI} (h:PI X tg e t) (i:∀ σ H R,t' σ H R->t σ H R):PI X tg e t':=λpins s σ H R I q=>h pins s σ H R I (i σ H R q)
end L2
namespace MM
open PySem PySem.Spec PyProof.Rows L2
noncomputable def dq (H:Hp) (ms:List Addr):Hp:=λb=>if b ∈ ms then none else H b
theorem k_ {H:Hp}{O:List Addr}{a l:Addr} (ha:a ∈ O) (hl:l ∈ O):ak (dq H [a,l]) O=ak H O:=by
 funext b
 by_cases hb:b ∈ O
 ·rw [eZ hb,eZ hb]
 ·rw [aI hb,aI hb]
  unfold dq
  rw [if_neg λz=>hb (by
   rcases List.mem_cons.mp z with rfl|z
   ·exact ha
   ·rw [List.mem_singleton.mp z];exact hl)]
theorem j6 {α β:Type}{F G:α->β->Prop} (h:∀ a b,F a b->G a b):∀ {as:List α}{bs:List β},Paired F as bs->Paired G as bs
 | _,_,.nil=>.nil
 | _,_,.cons x t=>.cons (h _ _ x) (j6 h t)
noncomputable def d7 (K:PySem.W.Frag) (O:List Addr) (H:Hp):MV->V->Prop
 | .val v,u=>Rep K (ak H O) v u
 | .brw xs,u=>∃ a us,u=.ref a/\SqL K H a us/\Reps K (ak H O) xs us
 | .own _,_=>False
 | .ownD _,_=>False
 | .ownO _ _ _,_=>False
 | .brwO fs xs,u=>∃ a,u=.ref a/\e_ K H (ak H O) fs xs a
 | .brwD kvs,u=>∃ a,u=.ref a/\Rd H a (nn kvs)
noncomputable def spM (K:PySem.W.Frag) (cal:Cal) (f:Nat):Sp:=λvs H Q _ =>
 ∃ (O:List Addr) (args:List MV) (r:PV),(∀ a ∈ O,H a ≠ none)/\Paired (d7 K O H) args vs/\cal f args=some r/\∀ u H',ae H H'->Rep K (ak H' O) r u->Q u H'
noncomputable def spF (K:PySem.W.Frag) (cal:Cal) (f:Nat):Sp:=λvs H Q _ =>
 ∃ (O:List Addr) (args:List MV) (xs:List PV),(∀ a ∈ O,H a ≠ none)/\Paired (d7 K O H) args vs/\cal (f + 1000) args=some (.lst xs)/\∀ p us H',ae H H'->H p=none->H' p=some (.lst us)->Reps K (ak H' (p::O)) xs us->Q (.ref p) H'
noncomputable def spT (K:PySem.W.Frag) (cal:Cal) (f:Nat):Sp:=λvs H Q _ =>
 ∃ (O:List Addr) (a l:Addr) (fs xs:List PV) (as:List MV) (ws:List V) (v:Sc) (ys:List PV),vs=.ref a::ws/\(∀ b ∈ O,H b ≠ none)/\d4 K (λ_=>none) O H fs xs a l/\Paired (d7 K O (dq H [a,l])) as ws/\cal (f + 3000) (.ownO true fs xs::as)=some (.tup [v.pv,.lst ys]) /\
  ∀ l' H',(∀ b o,b ≠ a->b ≠ l->H b=some o->H' b=some o)->(l'=l \/ H l'=none)->d4 K (λ_=>none) (l'::O.filter λb=>decide (b ≠ l)) H' fs ys a l'->Q v.v H'
noncomputable def nB (c r o:V) (l:Addr):List (Str × V):=dO "taken" (.ref l) (dO "opener" o (dO "ribbons" r (dO "hole_count" c [])))
noncomputable def spI (K:PySem.W.Frag) (C:Addr):Sp:=λvs H Q _ =>
 ∃ (x dx la:Addr) (c r o:V),vs=[.ref x,.ref la,o]/\H x=some (.ins C dx [])/\SqT K H la [c,r] /\
  ∀ (l:Addr) (H':Hp),H l=none->H' x=some (.ins C dx (nB c r o l))->H' l=some (.lst [])->(∀ b u,b ≠ x->H b=some u->H' b=some u)->Q .non H'
noncomputable def hV:List String:=["len","tuple","list","sorted","any","all","sum","max","min","int","bool","str","isinstance","set","range","enumerate","reversed"
 ]
noncomputable def toV:PV->V
 | .non=>.non
 | .bl b=>.bl b
 | .int i=>.int i
 | .str x=>.str x
 | _=>.non
structure Gf (X:Cx) (T:Tab) (k:Nat) (cal:Cal):Prop where
 calm:X.calm=true
 room:dj k X.A
 fns:∀ (f:Nat) (x:Str),T.fs[f]?=some x->aq x=true->∃ (fa:Addr) (fd:FuncData) (ps:List Str),X.mg x=some (.ref fa)/\PySem.W.keepIn X.K (.ref fa)=true/\bc X.K fd ps []/\dQ X.prog X.w X.K X.mg X.base CX0 k fa fd ps (spM X.K cal f)/\∀ l,T.ds[f]?=some l->∃ vs,bc X.K fd ps vs/\au (l.map Sc.v) vs
 blt:∀ x ∈ hV,X.mg (x:Str)=none
 gs:∀ p ∈ T.gs,∃ u,X.mg p.1=some u/\aw (toV p.2) u
 cls:∀ C,IsC X.K C->Cls X.K C/\(∀ x ∈ gF,dP X.K C x)/\dP X.K C "taken"
 meths:∀ (f:Nat) (m:Str),T.ms[f]?=some (some m)->∀ C,IsC X.K C->∃ (fa:Addr) (fd:FuncData) (ps:List Str),oG X.K C m fa/\bc X.K fd ps []/\dQ X.prog X.w X.K X.mg X.base CX0 k fa fd ps (spM X.K cal f)
 methsT:∀ (f:Nat) (m:Str),T.ms[f]?=some (some m)->∀ C,IsC X.K C->∃ (fa:Addr) (fd:FuncData) (ps:List Str),oG X.K C m fa/\bc X.K fd ps []/\dQ X.prog X.w X.K X.mg X.base CX0 k fa fd ps (spT X.K cal f)
 lvl:cal 4000 [] ≠ none->dj 2 X.A
 ini:cal 4000 [] ≠ none->∃ C,IsC X.K C/\X.mg ("Table":Str)=some (.ref C)/\∃ (fa:Addr) (fd:FuncData) (ps:List Str),Mk X.K C fa/\bc X.K fd ps []/\dQ X.prog X.w X.K X.mg X.base CX0 1 fa fd ps (spI X.K C)/\∃ vs,bc X.K fd ps vs/\au [V.str "weaver"] vs
 fnsF:∀ (f:Nat) (x:Str),T.fs[f]?=some x->aq x=true->∃ (fa:Addr) (fd:FuncData) (ps:List Str),X.mg x=some (.ref fa)/\PySem.W.keepIn X.K (.ref fa)=true/\bc X.K fd ps []/\dQ X.prog X.w X.K X.mg X.base CX0 k fa fd ps (spF X.K cal f)
theorem Gf.units {X:Cx}{T:Tab}{k:Nat}{cal:Cal} (g:Gf X T k cal):X.A.units + 200 < cLine:=by have:=g.room.un;omega
noncomputable def Got (K:PySem.W.Frag) (H:Hp) (O:List Addr) (me:ME) (v:PV) (u:V):Prop:=bi K H O v u/\(ax me=false->Rep K (ak H O) v u)
noncomputable def tE (K:PySem.W.Frag) (cal:Cal) (me:ME):TE:=λσ H Q=>∃ B O₀ O ρ v,aD K B O₀ O H ρ σ/\ev cal me ρ=some v/\∀ u H',ae H H'->Got K H' O me v u->Q u H'
noncomputable def tT (K:PySem.W.Frag) (cal:Cal) (me:ME):TT:=λσ H Q=>∃ B O₀ O ρ b,aD K B O₀ O H ρ σ/\evB cal me ρ=some b/\∀ H',ae H H'->Q b H'
noncomputable def CI (K:PySem.W.Frag) (H:Hp) (O:List Addr) (ms:List ME) (vs:List PV) (us:List V):Prop:=Paired (bi K H O) vs us/\((ms.all λm=>!ax m)=true->Reps K (ak H O) vs us)
noncomputable def tEs (K:PySem.W.Frag) (cal:Cal) (ms:List ME):TA:=λσ H Q=>∃ B O₀ O ρ vs,aD K B O₀ O H ρ σ/\evs cal ms ρ=some vs/\∀ us H',ae H H'->CI K H' O ms vs us->Q us H'
noncomputable def tAs (K:PySem.W.Frag) (cal:Cal) (ms:List ME):TA:=λσ H Q=>∃ B O₀ O ρ vs,aD K B O₀ O H ρ σ/\evA cal ms ρ=some vs/\∀ us H',ae H H'->Paired (d7 K O H') vs us->Q us H'
section
variable {K:PySem.W.Frag}{H H':Hp}{O:List Addr}
theorem Got.of {me:ME}{v:PV}{u:V} (h:Rep K (ak H O) v u):Got K H O me v u:=⟨.inl h,λ_=>h⟩
theorem Got.scal {me:ME}{v:PV}{u:V} (h:∀ F,Rep K F v u):Got K H O me v u:=.of (h _)
theorem Got.mono {me:ME}{v:PV}{u:V} (s:ae H H') (h:Got K H O me v u):Got K H' O me v u:=⟨h.1.mono s,λe=>Rep.mono (ar s) _ (h.2 e)⟩
theorem cI (F:Hp) (b:Bool):Rep K F (.bl b) (.bl b):=by rw [Rep]
theorem dA (F:Hp) (b:Int):Rep K F (.int b) (.int b):=by rw [Rep]
theorem jn (F:Hp) (b:Str):Rep K F (.str b) (.str b):=by rw [Rep]
theorem mr (F:Hp):Rep K F .non .non:=by rw [Rep]
theorem hX {H1:Hp}{p:Addr}{xs:List PV}{us:List V} (hO:∀ a ∈ O,H1 a ≠ none) (hp:H1 p=none) (h:Reps K (ak H1 O) xs us):Rep K (ak (upd H1 p (.tup us)) O) (.tup xs) (.ref p):=by
 rw [Rep]
 refine ⟨p,us,rfl,?_,Reps.mono (ar (a_ hp _)) _ h⟩
 rw [aI (λz=>hO p z hp)]
 exact aj
theorem nD {H1:Hp}{p:Addr}{xs:List PV}{us:List V} (hO:∀ a ∈ O,H1 a ≠ none) (hp:H1 p=none) (h:Reps K (ak H1 O) xs us):Rep K (ak (upd H1 p (.lst us)) O) (.lst xs) (.ref p):=by
 rw [Rep]
 refine ⟨p,us,rfl,SqL.of ?_,Reps.mono (ar (a_ hp _)) _ h⟩
 rw [aI (λz=>hO p z hp)]
 exact aj
theorem bu (s:ae H H') (h:∀ a ∈ O,H a ≠ none):∀ a ∈ O,H' a ≠ none:=λa ha e=>h a ha (s.free e)
theorem eR {n:Nat} (h:n <= 10000):n <= sizeLine:=Nat.le_trans h (by decide)
end
section
variable {X:Cx}{T:Tab}{k:Nat}{cal:Cal}
theorem Ba {sc:Scope}{x:Str} (h:yQ sc x=true):Vis sc x:=by
 unfold yQ at h
 simp only [Bool.or_eq_true,beq_iff_eq] at h
 rcases h with (h|h)|h
 ·exact .inl h
 ·exact .inr (.inl h)
 ·exact .inr (.inr h)
theorem fw {sc:Scope}{x:Str} (h:fb sc x=true):Loc sc x:=by
 unfold fb at h
 simp only [Bool.or_eq_true,beq_iff_eq] at h
 exact h
theorem jo {x:Str} (h:aq x=true):(x == ("__debug__":Str))=false/\(x == ("__classdict__":Str))=false/\x ≠ "__name__":=by
 unfold aq at h
 simp only [Bool.and_eq_true,Bool.not_eq_true'] at h
 obtain ⟨⟨h1,h2⟩,h3⟩:=h
 exact ⟨h1,h2,λe=>by rw [e] at h3;simp at h3⟩
theorem eT {x:Str} (h:glB X.env.scope x=true):Gl X x:=by
 unfold glB at h
 simp only [beq_iff_eq] at h
 exact h
theorem bb {i:Nat}{x:Str}{pos:Pos} (h:ag X.N X.env.scope i x=true):PE X (.Name x pos) (eX i):=by
 unfold ag at h
 simp only [Bool.and_eq_true,beq_iff_eq] at h
 obtain ⟨⟨h1,h2⟩,h3⟩:=h
 obtain ⟨p1,p2,_⟩:=jo h3
 exact sF h1 (Ba h2) p1 p2
theorem aX {K:PySem.W.Frag}{B H:Hp}{O₀ O:List Addr}{ρ:Rho}{σ:St} (st:aD K B O₀ O H ρ σ) {i:Nat}{m:MV} (e:(ρ[i]?).join=some m):∃ u,σ[i]?=some (some u)/\d5 K B O H m u:=st.slot i m (join_some e)
theorem xY {i:Nat}{x:Str}{pos:Pos} (h:ag X.N X.env.scope i x=true):PE X (.Name x pos) (tE X.K cal (.var i)):=by
 refine (bb h).imp λσ H Q hq=>?_
 obtain ⟨B,O₀,O,ρ,v,st,he,q⟩:=hq
 rw [ev] at he
 cases hj:(ρ[i]?).join with
 | none=>rw [hj] at he;cases he
 | some m =>
  rw [hj] at he
  cases m with
  | val w =>
   simp only [qh,Option.some.injEq] at he
   subst he
   obtain ⟨u,e1,r⟩:=aX st hj
   exact ⟨u,e1,q u H (ae.refl H) (.of r)⟩
  | own _=>cases he
  | brw _=>cases he
  | ownD _=>cases he
  | ownO _ _ _=>cases he
  | brwO _ _=>cases he
  | brwD _=>cases he
theorem xZ {i:Nat}{x:Str}{pos:Pos} (h:ag X.N X.env.scope i x=true):PE X (.Name x pos) (tE X.K cal (.bor i)):=by
 refine (bb h).imp λσ H Q hq=>?_
 obtain ⟨B,O₀,O,ρ,v,st,he,q⟩:=hq
 rw [ev] at he
 cases hj:(ρ[i]?).join with
 | none=>rw [hj] at he;cases he
 | some m =>
  rw [hj] at he
  obtain ⟨u,e1,r⟩:=aX st hj
  exact ⟨u,e1,q u H (ae.refl H) ⟨r.bor st.keep he,λz=>by cases z⟩⟩
theorem x0 {v:PV}{c:Const}{j:Nat}{pos:Pos} (h:mj v c=true):PE X (.Constant c j pos) (tE X.K cal (.cst v)):=by
 have key:∀ (u:V),(∀ F,Rep X.K F v u)->PE X (.Constant c j pos) (tC u)->PE X (.Constant c j pos) (tE X.K cal (.cst v)):=λu r p=>p.imp λσ H Q hq=>by
  obtain ⟨B,O₀,O,ρ,w,st,he,q⟩:=hq
  rw [ev] at he
  cases he
  exact q u H (ae.refl H) (.scal r)
 cases v <;> cases c <;> simp only [mj,Bool.false_eq_true,beq_iff_eq] at h
 ·exact key .non (λF=>mr F) yg
 ·subst h;exact key _ (λF=>cI F _) AA
 ·subst h;exact key _ (λF=>dA F _) om
 ·subst h;exact key _ (λF=>jn F _) gu
theorem um {x y:Str}{v:PV}{pos:Pos} (g:Gf X T k cal) (h:chk T (.glob x v) X.N X.env.scope (.Name y pos)=true):PE X (.Name y pos) (tE X.K cal (.glob x v)):=by
 simp only [bP,bQ,bR,bn,bS,bT,bU,bV,cR,bW,bX,aR,bY,bZ,b6,aS,b7,bo,aL,Bool.and_eq_true,beq_iff_eq] at h
 obtain ⟨⟨⟨rfl,hg⟩,hs⟩,hp⟩:=h
 unfold t8 at hs
 obtain ⟨p,hp1,hp2⟩:=List.any_eq_true.mp hs
 simp only [Bool.and_eq_true,beq_iff_eq] at hp2
 obtain ⟨rfl,hv⟩:=hp2
 obtain ⟨u,e1,r⟩:=g.gs p hp1
 have e:p.2=v/\∀ F,Rep X.K F v (toV v):=by
  revert hv
  generalize p.2=z
  intro hv
  cases z <;> cases v <;> simp only [xW,Bool.false_eq_true,beq_iff_eq] at hv
  ·exact ⟨rfl,λF=>mr F⟩
  ·subst hv;exact ⟨rfl,λF=>cI F _⟩
  ·subst hv;exact ⟨rfl,λF=>dA F _⟩
  ·subst hv;exact ⟨rfl,λF=>jn F _⟩
 rw [e.1] at r
 refine (v3 (eT hg) e1 r (jo hp).1).imp λσ H Q hq=>?_
 obtain ⟨B,O₀,O,ρ,w,st,he,q⟩:=hq
 rw [ev] at he
 cases he
 exact q _ H (ae.refl H) (.scal e.2)
end
section
variable {X:Cx}
noncomputable def R2M (K:PySem.W.Frag) (f:PV->PV->Option PV):R2:=λux uy H Q =>
 ∃ O x y v,(∀ a ∈ O,H a ≠ none)/\bi K H O x ux/\bi K H O y uy/\f x y=some v/\∀ u H',ae H H'->Rep K (ak H' O) v u->Q u H'
theorem iP {op:Operator}{C:Int->Int->Prop}{g:Int->Int->Int}{f:PV->PV->Option PV} (h:OpR X (binaryOp op) (rI C λi j=>.int (g i j)))
  (hf:∀ x y v,f x y=some v->∃ i j,x=.int i/\y=.int j/\C i j/\v=.int (g i j)):OpR X (binaryOp op) (R2M X.K f):=by
 intro pins s σ H ux uy v u Q I rx ry hq
 obtain ⟨O,x,y,w,hO,r1,r2,e,q⟩:=hq
 obtain ⟨i,j,rfl,rfl,c,rfl⟩:=hf x y w e
 have e1:=r1.int
 have e2:=r2.int
 subst e1 e2
 exact h pins s σ H _ _ v u Q I rx ry ⟨i,j,rfl,rfl,c,q _ H (ae.refl H) (dA _ _)⟩
theorem wW:OpR X (binaryOp .Add) (λx y H Q=>∃ l b xs zs,x=.ref l/\y=.ref b/\SqL X.K H l xs/\SqL X.K H b zs/\xs.length + zs.length <= sizeLine/\∀ p,H p=none->Q (.ref p) (upd H p (.lst (xs ++ zs)))):=by
 intro pins s σ H x y v u Q I rx ry h
 obtain ⟨l,b,xs,zs,rfl,rfl,hH,hB,hz,q⟩:=h
 cases rx
 cases ry
 obtain ⟨its,r,pl,_⟩:=I.list hH
 obtain ⟨its2,r2,pl2,_⟩:=I.list hB
 have l1:=r.length
 have l2:=r2.length
 obtain ⟨⟨cls,dd,data,sl⟩,ho,hc,n,hd⟩:=pl.isList
 obtain ⟨⟨cls2,dd2,data2,sl2⟩,ho2,hc2,n2,hd2⟩:=pl2.isList
 simp only at hc hd hc2 hd2
 subst hc hd hc2 hd2
 have e:its.toArray ++ its2.toArray=(its ++ its2).toArray:=by simp
 refine concat_meets ⟨_,ho,rfl⟩ ⟨_,ho2,rfl⟩ noFill_list_add seq_list_add PySem.F.slot_list_add PySem.F.entry_list_add (PySem.F.args_list_add_2 _ _) (list_addW l b its.toArray its2.toArray n n2 dd dd2 sl sl2 (by rw [List.size_toArray,List.size_toArray];omega)) ⟨ho,ho2,?_⟩
 rw [e]
 exact ⟨.ref _,_,I.lnew (t':=s.toks) (r.append r2) (by rw [List.length_append];omega),rfl,q _ I.fresh⟩
theorem wX:OpR X (binaryOp .Add) (λx y H Q=>∃ a b ys,x=.ref a/\y=.ref b/\SqT X.K H a []/\SqT X.K H b ys/\Q (.ref b) H):=by
 intro pins s σ H x y v u Q I rx ry h
 obtain ⟨a,b,ys,rfl,rfl,ha,hb,q⟩:=h
 cases rx
 cases ry
 obtain ⟨its,r1,⟨⟨c1,d1,t1,l1⟩,ho,hc,n,hd⟩,_⟩:=I.tuple ha
 obtain ⟨its2,r2,⟨⟨c2,d2,t2,l2⟩,ho2,hc2,n2,hd2⟩,_⟩:=I.tuple hb
 cases hc
 cases hd
 cases hc2
 cases hd2
 have none0:its=[]:=r1.nil_iff.mpr rfl
 have meets:=tuple_addW0 a b its.toArray its2.toArray n n2 d1 d2 l1 l2 (by simp [none0])
 exact concat_meets ⟨_,ho,rfl⟩ ⟨_,ho2,rfl⟩ noFill_tuple_add seq_tuple_add PySem.F.slot_tuple_add PySem.F.entry_tuple_add (PySem.F.args_tuple_add_2 _ _) meets ⟨ho,ho2,.ref b,H,I,rfl,q⟩
theorem dG {α:Type}{f:Int->Int->Option α}{x y:PV}{v:α} (h:gX f x y=some v):∃ i j,x=.int i/\y=.int j/\f i j=some v:=by
 cases x <;> try (cases h;done)
 cases y <;> try (cases h;done)
 exact ⟨_,_,rfl,rfl,h⟩
theorem hZ {C:Int->Int->Prop} [∀ i j,Decidable (C i j)] {g:Int->Int->Int}{x y v:PV} (h:gX (λi j=>if C i j then some (.int (g i j)) else none) x y=some v):∃ i j,x=.int i/\y=.int j/\C i j/\v=.int (g i j):=by
 obtain ⟨i,j,e1,e2,e3⟩:=dG h
 by_cases c:C i j
 ·rw [if_pos c] at e3
  exact ⟨i,j,e1,e2,c,(Option.some.inj e3).symm⟩
 ·rw [if_neg c] at e3
  cases e3
theorem yZ (op:Op2):OpR X (binaryOp (wO op)) (R2M X.K (gY op)):=by
 cases op with
 | sub=>exact iP (C:=λ_ _=>True) (g:=λi j=>i - j) (λpins s σ H x y v u Q I rx ry h=>yt pins s σ H x y v u Q I rx ry (by obtain ⟨i,j,e1,e2,_,q⟩:=h;exact ⟨i,j,e1,e2,q⟩)) (λx y v h=>by
   obtain ⟨i,j,e1,e2,e3⟩:=dG h
   exact ⟨i,j,e1,e2,trivial,(Option.some.inj e3).symm⟩)
 | mul=>exact iP yu λx y v h=>by have q:=hZ h;exact q
 | fdiv=>exact iP v_ λx y v h=>by have q:=hZ h;exact q
 | mod=>exact iP yw λx y v h=>by have q:=hZ h;exact q
 | pow=>exact iP yx λx y v h=>by have q:=hZ h;exact q
 | shr=>exact iP yy λx y v h=>by have q:=hZ h;exact q
 | add =>
  intro pins s σ H ux uy v u Q I rx ry hq
  obtain ⟨O,x,y,w,hO,r1,r2,e,q⟩:=hq
  cases x <;> try (cases e;done)
  all_goals (cases y <;> simp only [gY,xT] at e <;> try (cases e;done))
  ·cases e
   have e1:=r1.int
   have e2:=r2.int
   subst e1 e2
   exact yr pins s σ H _ _ v u Q I rx ry ⟨_,_,rfl,rfl,q _ H (ae.refl H) (dA _ _)⟩
  ·split at e
   ·rename_i c
    cases e
    have e1:=r1.str
    have e2:=r2.str
    subst e1 e2
    exact oE pins s σ H _ _ v u Q I rx ry ⟨_,_,rfl,rfl,Nat.le_trans c (by decide),q _ H (ae.refl H) (jn _ _)⟩
   ·cases e
  ·split at e
   ·rename_i c
    cases e
    obtain ⟨a,us,rfl,s1,t1⟩:=r1.tup
    obtain ⟨b,ws,rfl,s2,t2⟩:=r2.tup
    have l1:=t1.length
    have l2:=t2.length
    have w1:=r1.tupR
    have w2:=r2.tupR
    by_cases z0:us=[]
    ·subst z0
     have z1:=List.eq_nil_of_length_eq_zero l1
     subst z1
     exact wX pins s σ H _ _ v u Q I rx ry ⟨a,b,ws,rfl,rfl,s1,s2,q _ H (ae.refl H) w2⟩
    refine wl pins s σ H _ _ v u Q I rx ry ⟨a,b,us,ws,rfl,rfl,s1,s2,z0,eR (by omega),λz=>?_,λz p hp=>?_⟩
    ·rw [z,List.length_nil] at l2
     have z1:=List.eq_nil_of_length_eq_zero l2
     subst z1
     rw [List.append_nil] at q
     exact q _ H (ae.refl H) w1
    ·exact q _ _ (a_ hp _) (hX hO hp (t1.append t2))
   ·cases e
  ·split at e
   ·rename_i c
    cases e
    obtain ⟨a,us,rfl,s1,t1⟩:=r1.lst
    obtain ⟨b,ws,rfl,s2,t2⟩:=r2.lst
    have l1:=t1.length
    have l2:=t2.length
    exact wW pins s σ H _ _ v u Q I rx ry ⟨a,b,us,ws,rfl,rfl,s1,s2,eR (by omega),λp hp=>q _ _ (a_ hp _) (nD hO hp (t1.append t2))⟩
   ·cases e
noncomputable def R2C (K:PySem.W.Frag) (f:PV->PV->Option Bool):R2:=λux uy H Q =>
 ∃ O x y b,bi K H O x ux/\bi K H O y uy/\f x y=some b/\Q (.bl b) H
theorem jp {op:CmpOp}{g:Int->Int->Bool}{f:PV->PV->Option Bool} (h:OpR X (compareOp op) (rI0 λi j=>.bl (g i j)))
  (hf:∀ x y v,f x y=some v->∃ i j,x=.int i/\y=.int j/\v=g i j):OpR X (compareOp op) (R2C X.K f):=by
 intro pins s σ H ux uy v u Q I rx ry hq
 obtain ⟨O,x,y,w,r1,r2,e,q⟩:=hq
 obtain ⟨i,j,rfl,rfl,rfl⟩:=hf x y w e
 have e1:=r1.int
 have e2:=r2.int
 subst e1 e2
 exact h pins s σ H _ _ v u Q I rx ry ⟨i,j,rfl,rfl,q⟩
theorem y0:OpR X (compareOp .Is) (λx y H Q=>∃ p q,x=.bl p/\y=.bl q/\Q (.bl (p == q)) H):=by
 rintro pins s σ H x y v u Q I rx ry ⟨p,q,rfl,rfl,hq⟩
 cases rx
 cases ry
 exact wpAny_pure (bF I hq (by cases p <;> cases q <;> rfl))
theorem rS:OpR X (compareOp .IsNot) (λx y H Q=>∃ p q,x=.bl p/\y=.bl q/\Q (.bl (!(p == q))) H):=by
 rintro pins s σ H x y v u Q I rx ry ⟨p,q,rfl,rfl,hq⟩
 cases rx
 cases ry
 exact wpAny_pure (bF I hq (by cases p <;> cases q <;> rfl))
theorem qx {K:PySem.W.Frag}{H:Hp}{O:List Addr}{x:PV}{u:V} (r:bi K H O x u):decide (u=.non)=fu x:=by
 cases x with
 | non=>rw [r.non];rfl
 | bl b=>rw [r.bl];rfl
 | int b=>rw [r.int];rfl
 | str b=>rw [r.str];rfl
 | tup xs=>obtain ⟨a,us,rfl,_⟩:=r.tup;rfl
 | lst xs=>obtain ⟨a,us,rfl,_⟩:=r.lst;rfl
 | dI kvs=>obtain ⟨a,rfl,_⟩:=r.dI;rfl
 | dL w m =>
  have h:=r.dL
  rw [Rep] at h
  obtain ⟨a,_,_,_,_,rfl,_⟩:=h
  rfl
theorem fL (hu:X.A.units + 200 < cLine) (op:Cp):OpR X (compareOp (eQ op)) (R2C X.K (cc op)):=by
 cases op with
 | lt=>exact jp AO λx y v h=>by obtain ⟨i,j,e1,e2,e3⟩:=dG h;exact ⟨i,j,e1,e2,(Option.some.inj e3).symm⟩
 | le=>exact jp AQ λx y v h=>by obtain ⟨i,j,e1,e2,e3⟩:=dG h;exact ⟨i,j,e1,e2,(Option.some.inj e3).symm⟩
 | gt=>exact jp AR λx y v h=>by obtain ⟨i,j,e1,e2,e3⟩:=dG h;exact ⟨i,j,e1,e2,(Option.some.inj e3).symm⟩
 | ge=>exact jp AS λx y v h=>by obtain ⟨i,j,e1,e2,e3⟩:=dG h;exact ⟨i,j,e1,e2,(Option.some.inj e3).symm⟩
 | eq =>
  intro pins s σ H ux uy v u Q I rx ry hq
  obtain ⟨O,x,y,w,r1,r2,e,q⟩:=hq
  exact yW (by omega) pins s σ H ux uy v u Q I rx ry ⟨x,y,w,r1.whole,r2.whole,e,q⟩
 | ne =>
  intro pins s σ H ux uy v u Q I rx ry hq
  obtain ⟨O,x,y,w,r1,r2,e,q⟩:=hq
  simp only [cc] at e
  split at e
  ·rename_i c
   simp only [Option.map_eq_some_iff] at e
   obtain ⟨b,e,rfl⟩:=e
   exact yX (by omega) pins s σ H ux uy v u Q I rx ry ⟨x,y,b,r1.whole,r2.whole,c,e,q⟩
  ·cases e
 | isN =>
  intro pins s σ H ux uy v u Q I rx ry hq
  obtain ⟨O,x,y,w,r1,r2,e,q⟩:=hq
  cases y <;> try (cases e;done)
  ·have e2:=r2.non
   subst e2
   refine yz pins s σ H ux _ v u Q I rx ry ⟨rfl,?_⟩
   have e:some (fu x)=some w:=e
   rw [qx r1,Option.some.inj e]
   exact q
  ·cases x <;> try (cases e;done)
   have e1:=r1.bl
   have e2:=r2.bl
   subst e1 e2
   exact y0 pins s σ H _ _ v u Q I rx ry ⟨_,_,rfl,rfl,by rw [Option.some.inj e];exact q⟩
 | notN =>
  intro pins s σ H ux uy v u Q I rx ry hq
  obtain ⟨O,x,y,w,r1,r2,e,q⟩:=hq
  cases y <;> try (cases e;done)
  ·have e2:=r2.non
   subst e2
   refine wb pins s σ H ux _ v u Q I rx ry ⟨rfl,?_⟩
   have e:some (!fu x)=some w:=e
   rw [qx r1,Option.some.inj e]
   exact q
  ·cases x <;> try (cases e;done)
   have e1:=r1.bl
   have e2:=r2.bl
   subst e1 e2
   cases e
   exact rS pins s σ H _ _ v u Q I rx ry ⟨_,_,rfl,rfl,q⟩
 | isIn =>
  intro pins s σ H ux uy v u Q I rx ry hq
  obtain ⟨O,x,y,w,r1,r2,e,q⟩:=hq
  simp only [cc,Option.bind_eq_some_iff] at e
  obtain ⟨xs,e1,e2⟩:=e
  obtain ⟨a,us,rfl,s2,t2⟩:=r2.seq e1
  exact yY (by omega) pins s σ H ux _ v u Q I rx ry ⟨x,_,a,us,w,r1.whole,rfl,s2,Reps.mono (aW H O) _ t2,e2,q⟩
 | notIn =>
  intro pins s σ H ux uy v u Q I rx ry hq
  obtain ⟨O,x,y,w,r1,r2,e,q⟩:=hq
  simp only [cc,Option.bind_eq_some_iff,Option.map_eq_some_iff] at e
  obtain ⟨b,⟨xs,e1,e2⟩,rfl⟩:=e
  obtain ⟨a,us,rfl,s2,t2⟩:=r2.seq e1
  exact rR (by omega) pins s σ H ux _ v u Q I rx ry ⟨x,_,a,us,b,r1.whole,rfl,s2,Reps.mono (aW H O) _ t2,e2,q⟩
theorem nE (n:Nat) (i:Int):place n i=ixN n i:=rfl
theorem y1:IxR X (R2M X.K jW):=by
 intro value slice pins s σ H ux uy v u Q I rx ry hq hsub
 obtain ⟨O,x,y,w,hO,r1,r2,e,q⟩:=hq
 cases x <;> cases y <;> simp only [jW] at e <;> try (cases e;done)
 ·simp only [Option.bind_eq_some_iff] at e
  obtain ⟨j,e1,e2⟩:=e
  obtain ⟨a,us,rfl,s1,t1⟩:=r1.tup
  have e3:=r2.int
  subst e3
  obtain ⟨uw,e4,rw'⟩:=t1.get e2
  refine sY value slice pins s σ H _ _ v u Q I rx ry (.inr (.inl ⟨a,us,_,uw,rfl,rfl,s1,?_,q uw H (ae.refl H) rw'⟩)) hsub
  unfold atI
  rw [<- t1.length,<- nE,e1]
  exact e4
 ·simp only [Option.bind_eq_some_iff] at e
  obtain ⟨j,e1,e2⟩:=e
  obtain ⟨a,us,rfl,s1,t1⟩:=r1.lst
  have e3:=r2.int
  subst e3
  obtain ⟨uw,e4,rw'⟩:=t1.get e2
  refine sY value slice pins s σ H _ _ v u Q I rx ry (.inl ⟨a,us,_,uw,rfl,rfl,s1,?_,q uw H (ae.refl H) rw'⟩) hsub
  unfold atI
  rw [<- t1.length,<- nE,e1]
  exact e4
theorem o_ {b:Expr} (h:cw b=true):p7 b:=by
 intro o i
 cases b <;> first|rfl|(simp [cw] at h)
theorem nF {K:PySem.W.Frag}{F:Hp}{xs:List PV}{us:List V} (h:Reps K F xs us) (lo hi:Option Int):Reps K F (cut xs lo hi) (mS us lo hi):=by
 have hl:=h.length
 have e:∀ (n d:Nat) (o:Option Int),gp n d o=HT.sIx n d o:=λn d o=>by cases o <;> rfl
 unfold cut mS
 rw [e,e,hl]
 exact (h.drop _).take _
theorem y3:SlR X (λx lo hi H Q=>∃ O v w,(∀ a ∈ O,H a ≠ none)/\bi X.K H O v x/\jj v lo hi=some w/\∀ u H',ae H H'->Rep X.K (ak H' O) w u->Q u H'):=by
 intro pins s σ H x v vl vu lo hi sl Q I rx hs pl pu hq
 obtain ⟨O,pv,w,hO,r1,e,q⟩:=hq
 cases pv <;> simp only [jj] at e <;> try (cases e;done)
 ·rename_i xs
  cases e
  obtain ⟨a,us,rfl,s1,t1⟩:=r1.tup
  have e:∀ (n d:Nat) (o:Option Int),gp n d o=HT.sIx n d o:=λn d o=>by cases o <;> rfl
  by_cases hn:HT.sIx us.length 0 lo=0/\HT.sIx us.length us.length hi=us.length
  ·refine wG pins s σ H _ v vl vu lo hi sl Q I rx hs pl pu ⟨a,us,rfl,s1,hn.1,hn.2,q _ _ (ae.refl H) ?_⟩
   have:cut xs lo hi=xs:=by
    unfold cut
    rw [e,e,t1.length,hn.1,hn.2,List.drop_zero,<- t1.length,Nat.sub_zero,List.take_length]
   rw [this]
   exact r1.tupR
  ·exact yD pins s σ H _ v vl vu lo hi sl Q I rx hs pl pu ⟨a,us,rfl,s1,hn,λp hp=>q _ _ (a_ hp _) (hX hO hp (nF t1 lo hi))⟩
 ·cases e
  obtain ⟨a,us,rfl,s1,t1⟩:=r1.lst
  exact wn pins s σ H _ v vl vu lo hi sl Q I rx hs pl pu ⟨a,us,rfl,s1,λp hp=>q _ _ (a_ hp _) (nD hO hp (nF t1 lo hi))⟩
end
end MM
namespace MM
open PySem PySem.Spec PyProof.Rows L2
theorem qy (x:Int):∀ l,t4 x l=Srt.ja Srt.cU x l
 | []=>rfl
 | y::r=>by
  show (if y < x then y::t4 x r else x::y::r)=(if Srt.cU.blt y x=true then y::Srt.ja Srt.cU x r else x::y::r)
  rw [qy x r]
  by_cases h:y < x
  ·have e:Srt.cU.blt y x=true:=decide_eq_true h
   rw [if_pos h,if_pos e]
  ·have e:Srt.cU.blt y x=false:=decide_eq_false h
   rw [if_neg h,if_neg (by rw [e];exact Bool.false_ne_true)]
theorem d8:∀ l,sortI l=Srt.sortI l
 | []=>rfl
 | x::r=>by
  show t4 x (sortI r)=Srt.ja Srt.cU x (Srt.fq Srt.cU r)
  rw [d8 r,qy];rfl
theorem h_:∀ a b,lexLt a b=HT.lexLt a b
 | [],[]=>rfl
 | [],_::_=>rfl
 | _::_,[]=>rfl
 | x::xs,y::ys=>by
  rw [lexLt,HT.lexLt_cons,h_ xs ys]
theorem qz (x:List Int):∀ l,t5 x l=Srt.ja Srt.cq x l
 | []=>rfl
 | y::r=>by
  show (if lexLt y x=true then y::t5 x r else x::y::r)=(if Srt.cq.blt y x=true then y::Srt.ja Srt.cq x r else x::y::r)
  rw [qz x r,h_]
  rfl
theorem di:∀ l,sortT l=Srt.sortT l
 | []=>rfl
 | x::r=>by
  show t5 x (sortT r)=Srt.ja Srt.cq x (Srt.fq Srt.cq r)
  rw [di r,qz];rfl
theorem nG:∀ l,dd l=St.dd l
 | []=>rfl
 | x::r=>by
  unfold dd St.dd
  rw [nG r]
theorem wY (ns:List Int):Srt.sortI (St.dd ns.reverse)=sortI (dd ns):=by
 rw [d8,nG]
 refine Srt.sortI_of_perm ?_
 refine (List.perm_ext_iff_of_nodup (St.dd_nodup _) (St.dd_nodup _)).mpr λa=>?_
 rw [St.gx,St.gx,List.mem_reverse]
theorem uq (ns:List Int):(St.dd ns.reverse).length=(dd ns).length:=by
 rw [nG]
 refine List.Perm.length_eq ((List.perm_ext_iff_of_nodup (St.dd_nodup _) (St.dd_nodup _)).mpr λa=>?_)
 rw [St.gx,St.gx,List.mem_reverse]
section
variable {X:Cx}{T:Tab}{k:Nat}{cal:Cal}
noncomputable def RBM (K:PySem.W.Frag) (f:List PV->Option PV):List V->Hp->VK->Prop:=λus H Q =>
 ∃ O vs v,(∀ a ∈ O,H a ≠ none)/\Paired (bi K H O) vs us/\f vs=some v/\∀ u H',ae H H'->Rep K (ak H' O) v u->Q u H'
theorem p1 {K:PySem.W.Frag}{H:Hp}{O:List Addr}{x:PV}{us:List V} (h:Paired (bi K H O) [x] us):∃ u,us=[u]/\bi K H O x u:=by
 cases h with
 | cons r t=>cases t;exact ⟨_,rfl,r⟩
theorem p2 {K:PySem.W.Frag}{H:Hp}{O:List Addr}{x y:PV}{us:List V} (h:Paired (bi K H O) [x,y] us):∃ u w,us=[u,w]/\bi K H O x u/\bi K H O y w:=by
 cases h with
 | cons r t=>cases t with
  | cons r' t'=>cases t';exact ⟨_,_,rfl,r,r'⟩
theorem dl {f:Blt}{vs:List PV}{v:PV} (h:av f vs=some v) (hf:dF f=some 1 \/ (cr f).isSome=true \/ f=.sortedSet \/ f=.lenSet \/ f=.valuesOf):∃ x,vs=[x]:=by
 cases vs with
 | nil=>cases f <;> simp [av,ce,gD,fH] at h
 | cons x r=>cases r with
  | nil=>exact ⟨x,rfl⟩
  | cons y r=>cases f <;> simp [av,ce,gD,fH,dF,cr] at h hf
theorem Bb:bJ X (.builtin "len") (RBM X.K (av .len)):=by
 intro pins s σ H xs us Q I r h
 obtain ⟨O,vs,v,hO,rs,e,q⟩:=h
 obtain ⟨x,rfl⟩:=dl e (.inl rfl)
 obtain ⟨u,rfl,rx⟩:=p1 rs
 cases x <;> simp only [av,ce,xU] at e <;> try (cases e;done)
 ·cases e
  obtain ⟨a,ws,rfl,s1,t1⟩:=rx.tup
  exact gL pins s σ H _ us Q I r ⟨a,ws,rfl,.inr s1,by rw [<- t1.length];exact q _ H (ae.refl H) (dA _ _)⟩
 ·cases e
  obtain ⟨a,ws,rfl,s1,t1⟩:=rx.lst
  exact gL pins s σ H _ us Q I r ⟨a,ws,rfl,.inl s1,by rw [<- t1.length];exact q _ H (ae.refl H) (dA _ _)⟩
 ·rename_i d
  cases d with
  | t kvs=>cases e
  | k kvs =>
   cases e
   obtain ⟨a,rfl,ha⟩:=rx.dI
   obtain ⟨u,rfl,ru⟩:=eN r
   cases ru
   obtain ⟨hz,hs,ws,rel,dd⟩:=mX I.hok (show Rd H a (.dK (o5 kvs)) from ha.rd)
   have hlen:ws.length=kvs.length:=by rw [<- rel.length];unfold o5;rw [List.length_map]
   have hz:kvs.length <= sizeLine:=by unfold o5 at hz;rw [List.length_map] at hz;exact hz
   have hn:=iA
   exact call_len_dict hs dd (by rw [hlen];omega) ⟨.int kvs.length,H,I.tok _,⟨s.toks + 1,by rw [hlen]⟩,q _ H (ae.refl H) (dA _ _)⟩
theorem wZ:bJ X (.type "tuple") (RBM X.K (av .tupleOf)):=by
 intro pins s σ H xs us Q I r h
 obtain ⟨O,vs,v,hO,rs,e,q⟩:=h
 obtain ⟨x,rfl⟩:=dl e (.inl rfl)
 obtain ⟨u,rfl,rx⟩:=p1 rs
 simp only [av,ce,gD,gh,fH,Option.map_eq_some_iff] at e
 obtain ⟨ys,e,rfl⟩:=e
 cases x <;> simp [a9] at e
 ·subst e
  obtain ⟨a,ws,rfl,s1,t1⟩:=rx.tup
  refine gj pins s σ H _ us Q I r ⟨a,ws,rfl,.inr ⟨s1,q _ H (ae.refl H) ?_⟩⟩
  exact rx.tupR
 ·subst e
  obtain ⟨a,ws,rfl,s1,t1⟩:=rx.lst
  exact gj pins s σ H _ us Q I r ⟨a,ws,rfl,.inl ⟨s1,λl hl=>q _ _ (a_ hl _) (hX hO hl t1)⟩⟩
noncomputable def RBF (K:PySem.W.Frag) (f:List PV->Option PV):List V->Hp->VK->Prop:=λus H Q =>
 ∃ O vs xs,(∀ a ∈ O,H a ≠ none)/\Paired (bi K H O) vs us/\f vs=some (.lst xs)/\∀ l ws,H l=none->Reps K (ak H O) xs ws->Q (.ref l) (upd H l (.lst ws))
theorem y4:bJ X (.type "list") (RBF X.K (av .listOf)):=by
 intro pins s σ H xs us Q I r h
 obtain ⟨O,vs,v,hO,rs,e,q⟩:=h
 obtain ⟨x,rfl⟩:=dl e (.inl rfl)
 obtain ⟨u,rfl,rx⟩:=p1 rs
 simp only [av,ce,gD,gh,fH,Option.map_eq_some_iff,PV.lst.injEq,exists_eq_right] at e
 obtain ⟨a,ws,rfl,s1,t1⟩:=rx.seq e
 exact lV pins s σ H _ us Q I r ⟨a,ws,rfl,s1,λl hl=>q l ws hl t1⟩
theorem lb {K:PySem.W.Frag}{F:Hp}:∀ {tss:List (List Int)}{us:List V},Reps K F (tss.map λt=>.tup (t.map .int)) us->oZ K F us tss
 | [],_,h=>by rw [List.map_nil,Reps] at h;subst h;exact .nil
 | t::tss,_,h=>by
  rw [List.map_cons,Reps] at h
  obtain ⟨u,r,rfl,q,z⟩:=h
  rw [Rep] at q
  obtain ⟨a,vs,e,s1,r1⟩:=q
  rw [r1.ints] at s1
  exact .cons ⟨a,e,cH s1⟩ (lb z)
theorem lc {K:PySem.W.Frag}{F F':Hp} (s:ae F F'):∀ {us:List V}{tss:List (List Int)},oZ K F us tss->oZ K F' us tss
 | _,_,.nil=>.nil
 | _,_,.cons ⟨a,e1,e2⟩ t=>.cons ⟨a,e1,s.seqT e2⟩ (lc s t)
theorem lf {K:PySem.W.Frag}{F:Hp}:∀ {tss:List (List Int)}{us:List V},Reps K F (tss.map λt=>.lst (t.map .int)) us->tX K F us tss
 | [],_,h=>by rw [List.map_nil,Reps] at h;subst h;exact .nil
 | t::tss,_,h=>by
  rw [List.map_cons,Reps] at h
  obtain ⟨u,r,rfl,q,z⟩:=h
  rw [Rep] at q
  obtain ⟨a,vs,e,s1,r1⟩:=q
  rw [r1.ints] at s1
  exact .cons ⟨a,e,s1⟩ (lf z)
theorem lh {K:PySem.W.Frag}{F F':Hp} (s:ae F F'):∀ {us:List V}{tss:List (List Int)},tX K F us tss->tX K F' us tss
 | _,_,.nil=>.nil
 | _,_,.cons ⟨a,e1,e2⟩ t=>.cons ⟨a,e1,s.seq e2⟩ (lh s t)
theorem iQ {K:PySem.W.Frag}{F:Hp}{xs:List PV}{us:List V} (h:Reps K F xs us):∀ (l:List Nat),(∀ i ∈ l,i < us.length)->Reps K F (l.map λi=>xs.getD i .non) (l.map λi=>us.getD i .non)
 | [],_=>.nil
 | i::l,hl=>by
  have hi:=hl i (.head _)
  have hx:i < xs.length:=by rw [h.length];exact hi
  obtain ⟨u,e1,e2⟩:=h.get (i:=i) (x:=xs[i]) (List.getElem?_eq_getElem hx)
  refine .cons ?_ (iQ h l λj hj=>hl j (.tail _ hj))
  have q1:xs.getD i .non=xs[i]:=by simp [hx]
  have q2:us.getD i .non=u:=by rw [List.getD_eq_getElem?_getD,e1];rfl
  show Rep K F (xs.getD i .non) (us.getD i .non)
  rw [q1,q2];exact e2
theorem uu (g:Gf X T k cal):bJ X (.builtin "sorted") (RBF X.K (av .sorted)):=by
 intro pins s σ H xs us Q I r h
 obtain ⟨O,vs,v,hO,rs,e,q⟩:=h
 obtain ⟨x,rfl⟩:=dl e (.inl rfl)
 obtain ⟨u,rfl,rx⟩:=p1 rs
 simp only [av,ce,gD,gh,fH,Option.bind_eq_some_iff] at e
 obtain ⟨ys,e,e2⟩:=e
 obtain ⟨a,ws,rfl,s1,t1⟩:=rx.seq e
 unfold dk at e2
 split at e2
 ·rename_i h64
  split at e2
  ·rename_i ns hn
   cases e2
   have:=fJ hn
   subst this
   have e3:=t1.ints
   subst e3
   rw [List.length_map] at h64
   refine gU g.calm pins s σ H _ us Q I r ⟨a,ns,rfl,s1.imp id .inl,h64,λl hl=>?_⟩
   rw [<- d8]
   exact q l _ hl (.of_ints _)
  ·split at e2
   ·rename_i ts e3
    cases e2
    have:=nq e3
    subst this
    rw [List.length_map] at h64
    refine l7 (by have:=g.units;omega) pins s σ H _ us Q I r ⟨a,ws,ts,rfl,s1,lc (aW H O) (lb t1),h64,λl pm hl hp e=>q l _ hl ?_⟩
    have q2:=iQ t1 pm hp
    have e4:(pm.map λi=>(ts.map λt=>PV.tup (t.map .int)).getD i .non)=(sortT ts).map λt=>.tup (t.map .int):=by
     rw [di,<- e,List.map_map]
     refine List.map_congr_left λi hi=>?_
     have hi':i < ts.length:=by have:=hp i hi;rw [<- t1.length,List.length_map] at this;exact this
     simp [hi']
    rw [e4] at q2
    exact q2
   ·simp only [Option.map_eq_some_iff,PV.lst.injEq] at e2
    obtain ⟨ts,e3,rfl⟩:=e2
    have:=nr e3
    subst this
    rw [List.length_map] at h64
    refine ma (by have:=g.units;omega) pins s σ H _ us Q I r ⟨a,ws,ts,rfl,s1,lh (aW H O) (lf t1),h64,λl pm hl hp e=>q l _ hl ?_⟩
    have q2:=iQ t1 pm hp
    have e4:(pm.map λi=>(ts.map λt=>PV.lst (t.map .int)).getD i .non)=(sortT ts).map λt=>.lst (t.map .int):=by
     rw [di,<- e,List.map_map]
     refine List.map_congr_left λi hi=>?_
     have hi':i < ts.length:=by have:=hp i hi;rw [<- t1.length,List.length_map] at this;exact this
     simp [hi']
    rw [e4] at q2
    exact q2
 ·cases e2
theorem Bc:bJ X (.type "str") (RBM X.K (av .strOf)):=by
 intro pins s σ H xs us Q I r h
 obtain ⟨O,vs,v,hO,rs,e,q⟩:=h
 obtain ⟨x,rfl⟩:=dl e (.inl rfl)
 obtain ⟨u,rfl,rx⟩:=p1 rs
 cases x <;> simp only [av,ce] at e <;> try (cases e;done)
 rotate_left
 ·cases e
  have:=rx.str
  subst this
  obtain ⟨u2,rfl,ru⟩:=eN r
  obtain ⟨t,rfl⟩:=ru
  exact PySem.P.str_of_str ⟨.str _,H,I,⟨t,rfl⟩,q _ H (ae.refl H) (by rw [Rep])⟩
 split at e
 ·rename_i i hi
  cases e
  have:=rx.int
  subst this
  exact tU pins s σ H _ us Q I r ⟨_,rfl,hi,q _ H (ae.refl H) (by rw [Rep];rfl)⟩
 ·cases e
theorem qA {x:PV}{ys:List PV} (h:gh x=some ys):x=.lst ys:=by
 cases x <;> cases h
 rfl
end
end MM
namespace MM
open PySem PySem.Spec PyProof.Rows L2
section
variable {X:Cx}{T:Tab}{k:Nat}{cal:Cal}
theorem y6 {b:Blt}{c:String} (hb:cr b=some c):bJ X (.builtin "isinstance") (λus H Q=>∃ O v u,us=[u,.ty c]/\isD v=false/\bi X.K H O v u/\Q (.bl (isT b v)) H):=by
 intro pins s σ H xs us Q I r h
 obtain ⟨O,v,x,rfl,nd,rx,q⟩:=h
 obtain ⟨u,t,rfl,r1,rc⟩:=AT r
 have rc':t=.type c:=rc
 subst rc'
 have fin:∀ (z:Bool) (tk:Nat),z=isT b v->EP X pins σ Q (.bool z) { s with toks:=tk }:=λz tk e=>⟨.bl z,H,I.tok tk,rfl,by rw [e];exact q⟩
 cases v with
 | dI _=>cases nd
 | dL _ _=>cases nd
 | non =>
  have e:=rx.non
  subst e
  cases (show u=Value.none from r1)
  cases b <;> simp only [cr,Option.some.injEq,reduceCtorEq] at hb <;> subst hb <;>
   exact PySem.W.kia_one PySem.W.kitx_none I.kIn True.intro (b:=false) (by first|rfl|kernel_rfl|decide) (λz=>nomatch z) λtk=>fin _ tk rfl
 | bl y =>
  have e:=rx.bl
  subst e
  cases (show u=Value.bool y from r1)
  cases b <;> simp only [cr,Option.some.injEq,reduceCtorEq] at hb <;> subst hb <;> first
   | exact PySem.W.kia_one PySem.W.kitx_bool I.kIn True.intro (b:=true) (by first|rfl|kernel_rfl|decide) (λz=>nomatch z) λtk=>fin _ tk rfl
   | exact PySem.W.kia_one PySem.W.kitx_bool I.kIn True.intro (b:=false) (by first|rfl|kernel_rfl|decide) (λz=>nomatch z) λtk=>fin _ tk rfl
 | int y =>
  have e:=rx.int
  subst e
  obtain ⟨t,z⟩:=(show ∃ t,u=Value.int y t from r1)
  cases z
  cases b <;> simp only [cr,Option.some.injEq,reduceCtorEq] at hb <;> subst hb <;> first
   | exact PySem.W.kia_one PySem.W.kitx_int I.kIn True.intro (b:=true) (by first|rfl|kernel_rfl|decide) (λz=>nomatch z) λtk=>fin _ tk rfl
   | exact PySem.W.kia_one PySem.W.kitx_int I.kIn True.intro (b:=false) (by first|rfl|kernel_rfl|decide) (λz=>nomatch z) λtk=>fin _ tk rfl
 | str y =>
  have e:=rx.str
  subst e
  obtain ⟨t,z⟩:=(show ∃ t,u=Value.str y t from r1)
  cases z
  cases b <;> simp only [cr,Option.some.injEq,reduceCtorEq] at hb <;> subst hb <;> first
   | exact PySem.W.kia_one PySem.W.kitx_str I.kIn True.intro (b:=true) (by first|rfl|kernel_rfl|decide) (λz=>nomatch z) λtk=>fin _ tk rfl
   | exact PySem.W.kia_one PySem.W.kitx_str I.kIn True.intro (b:=false) (by first|rfl|kernel_rfl|decide) (λz=>nomatch z) λtk=>fin _ tk rfl
 | lst ys =>
  obtain ⟨a,us,rfl,s1,t1⟩:=rx.lst
  cases (show u=Value.ref a from r1)
  obtain ⟨its,_,p,_⟩:=I.list s1
  obtain ⟨o,h1,h2,_⟩:=p.isList
  cases b <;> simp only [cr,Option.some.injEq,reduceCtorEq] at hb <;> subst hb <;> first
   | exact PySem.W.kia_one PySem.W.kitx_list I.kIn ⟨o,h1,h2⟩ (b:=true) (by first|rfl|kernel_rfl|decide) (λz=>nomatch z) λtk=>fin _ tk rfl
   | exact PySem.W.kia_one PySem.W.kitx_list I.kIn ⟨o,h1,h2⟩ (b:=false) (by first|rfl|kernel_rfl|decide) (λz=>nomatch z) λtk=>fin _ tk rfl
 | tup ys =>
  obtain ⟨a,us,rfl,s1,t1⟩:=rx.tup
  cases (show u=Value.ref a from r1)
  obtain ⟨its,_,p,_⟩:=I.tuple s1
  obtain ⟨o,h1,h2,_⟩:=p
  cases b <;> simp only [cr,Option.some.injEq,reduceCtorEq] at hb <;> subst hb <;> first
   | exact PySem.W.kia_one PySem.W.kitx_tuple I.kIn ⟨o,h1,h2⟩ (b:=true) (by first|rfl|kernel_rfl|decide) (λz=>nomatch z) λtk=>fin _ tk rfl
   | exact PySem.W.kia_one PySem.W.kitx_tuple I.kIn ⟨o,h1,h2⟩ (b:=false) (by first|rfl|kernel_rfl|decide) (λz=>nomatch z) λtk=>fin _ tk rfl
theorem gG {K:PySem.W.Frag}{F:Hp}:∀ {bs:List Bool}{us:List V}{its:List Value},Reps K F (bs.map .bl) us->au us its->its=bs.map Value.bool
 | [],_,_,h,w=>by rw [List.map_nil,Reps] at h;subst h;cases w;rfl
 | b::bs,_,_,h,w=>by
  rw [List.map_cons,Reps] at h
  obtain ⟨u,r,rfl,q,t⟩:=h
  rw [Rep] at q
  subst q
  cases w with
  | cons r1 w1 =>
   cases r1
   rw [gG t w1];rfl
theorem rT (bs:List Bool):(List.range bs.length).all (λi=>bs.getD i false)=bs.all id:=by
 conv=>rhs;rw [<- Srt.fV bs false]
 rw [List.all_map]
 rfl
theorem rU (bs:List Bool):(List.range bs.length).any (λi=>bs.getD i false)=bs.any id:=by
 conv=>rhs;rw [<- Srt.fV bs false]
 rw [List.any_map]
 rfl
theorem i6 {P:Program}{w:World}{A:Around} (bs:List Bool):TruthOf P w A (λi v=>(bs.map Value.bool).toArray[i]?=some v) (λi=>bs.getD i false):=by
 intro i v s Q E h q
 simp only [List.getElem?_toArray,List.getElem?_map,Option.map_eq_some_iff] at h
 obtain ⟨b,e,rfl⟩:=h
 have:bs.getD i false=b:=by rw [List.getD_eq_getElem?_getD,e];rfl
 have q':Q (bs.getD i false) s:=q
 rw [this] at q'
 exact wpAny_truthy_bool q'
theorem Bd (hc:X.calm=true):bJ X (.builtin "any") (RBM X.K (av .any)):=by
 intro pins s σ H xs us Q I r h
 obtain ⟨O,vs,v,hO,rs,e,q⟩:=h
 obtain ⟨x,rfl⟩:=dl e (.inl rfl)
 obtain ⟨u,rfl,rx⟩:=p1 rs
 simp only [av,ce,Option.bind_eq_some_iff,Option.map_eq_some_iff] at e
 obtain ⟨ys,e0,bs,e,rfl⟩:=e
 obtain rfl:=qA e0
 have:=iN e
 subst this
 obtain ⟨a,ws,rfl,s1,t1⟩:=rx.lst
 obtain ⟨u,rfl,ru⟩:=eN r
 cases ru
 obtain ⟨its,r',pl,hz⟩:=I.list s1
 have:=gG t1 r'
 subst this
 have hlt:a < s.heap.objs.size:=by obtain ⟨o,ho,_⟩:=pl.isList;exact Heap.lt_size ho
 refine call_any_walk (wpAny_pyIter_list pl.isList ?_)
 refine ⟨s.heap.objs.size,_,_,_,_,_,λi=>bs.getD i false,rfl,Walks.list (by first|exact I.ok.hd hc|simpa using I.ok.hd hc) s.heap.objs.size a (Nat.ne_of_lt hlt) (bs.map Value.bool).toArray,⟨⟨_,Heap.get?_push_size _ rfl,rfl,rfl⟩,pl.isList.push _⟩,i6 bs,λh' tk hk=>?_⟩
 have e2:(List.range (bs.map Value.bool).toArray.size).any (λi=>bs.getD i false)=bs.any id:=by
  rw [List.size_toArray,List.length_map];exact rU bs
 rw [e2]
 refine ⟨.bl _,H,?_,rfl,q _ H (ae.refl H) (cI _ _)⟩
 refine I.kept (t':=tk) λb o e=>hk b o ?_ (Heap.get?_push_of_some _ e)
 intro hm
 have hb:=Heap.lt_size e
 simp at hm
 exact absurd hm (Nat.ne_of_lt hb)
theorem Be (hc:X.calm=true):bJ X (.builtin "all") (RBM X.K (av .all)):=by
 intro pins s σ H xs us Q I r h
 obtain ⟨O,vs,v,hO,rs,e,q⟩:=h
 obtain ⟨x,rfl⟩:=dl e (.inl rfl)
 obtain ⟨u,rfl,rx⟩:=p1 rs
 simp only [av,ce,Option.bind_eq_some_iff,Option.map_eq_some_iff] at e
 obtain ⟨ys,e0,bs,e,rfl⟩:=e
 obtain rfl:=qA e0
 have:=iN e
 subst this
 obtain ⟨a,ws,rfl,s1,t1⟩:=rx.lst
 obtain ⟨u,rfl,ru⟩:=eN r
 cases ru
 obtain ⟨its,r',pl,hz⟩:=I.list s1
 have:=gG t1 r'
 subst this
 have hlt:a < s.heap.objs.size:=by obtain ⟨o,ho,_⟩:=pl.isList;exact Heap.lt_size ho
 refine call_all_walk (wpAny_pyIter_list pl.isList ?_)
 refine ⟨s.heap.objs.size,_,_,_,_,_,λi=>bs.getD i false,rfl,Walks.list (by first|exact I.ok.hd hc|simpa using I.ok.hd hc) s.heap.objs.size a (Nat.ne_of_lt hlt) (bs.map Value.bool).toArray,⟨⟨_,Heap.get?_push_size _ rfl,rfl,rfl⟩,pl.isList.push _⟩,i6 bs,λh' tk hk=>?_⟩
 have e2:(List.range (bs.map Value.bool).toArray.size).all (λi=>bs.getD i false)=bs.all id:=by
  rw [List.size_toArray,List.length_map];exact rT bs
 rw [e2]
 refine ⟨.bl _,H,?_,rfl,q _ H (ae.refl H) (cI _ _)⟩
 refine I.kept (t':=tk) λb o e=>hk b o ?_ (Heap.get?_push_of_some _ e)
 intro hm
 have hb:=Heap.lt_size e
 simp at hm
 exact absurd hm (Nat.ne_of_lt hb)
theorem x3 (hc:X.calm=true):bJ X (.type "set") (λus H Q=>∃ O v u ns,us=[u]/\bi X.K H O v u/\((a9 v).bind aU)=some ns/\ns.length <= 1000/\∀ l,H l=none->Q (.ref l) (upd H l (i3 X.prog X.w l (St.dd ns.reverse)))):=by
 intro pins s σ H xs us Q I r h
 obtain ⟨O,v,u,ns,rfl,rx,e,h1000,q⟩:=h
 simp only [Option.bind_eq_some_iff] at e
 obtain ⟨ys,e1,e2⟩:=e
 obtain ⟨a,ws,rfl,s1,t1⟩:=rx.seq e1
 have:=fJ e2
 subst this
 have e3:=t1.ints
 subst e3
 exact tQ hc pins s σ H _ us Q I r ⟨a,ns,rfl,s1,h1000,λl hl=>q l hl⟩
theorem nH (hc:X.calm=true):bJ X (.builtin "sorted") (λus H Q=>∃ (l:Addr) (ks:List Int),us=[.ref l]/\H l=some (i3 X.prog X.w l ks)/\ks.length < 64/\∀ p,H p=none->Q (.ref p) (upd H p (.lst ((Srt.sortI ks).map V.int)))):=by
 intro pins s σ H xs us Q I r h
 obtain ⟨l,ks,rfl,e,h64,q⟩:=h
 exact gU hc pins s σ H _ us Q I r ⟨l,ks,rfl,.inr (.inr e),h64,q⟩
end
end MM
namespace L2
open PySem PySem.Spec PyProof.Rows
end L2
namespace L2
open PySem PySem.Spec PyProof.Rows
theorem Inv.turned2 {X:Cx}{pins:List (Addr × Obj)}{σ:St}{H:Hp}{s:Shared}{h':Heap}{t':Nat}{e it:Addr}{oe:Obj} (I:Inv X pins σ H s) (he:s.heap.get? e=some oe) (hf:oe.isFreed=false) (he':∃ o,h'.get? e=some o)
  (k:∀ b o,b ≠ e->b ≠ it->s.heap.get? b=some o->h'.get? b=some o) (fe:iz X pins H e) (fi:iz X pins H it):Inv X pins σ H { s with heap:=h',toks:=t' }:=by
 obtain ⟨o',ho'⟩:=he'
 obtain ⟨a0,a1,a2,a3,a4,a5⟩:=fe
 obtain ⟨b0,b1,b2,b3,b4,b5⟩:=fi
 have at1:(h'.update e λ_=>oe).get? e=some oe:=Heap.get?_update_self _ ho' hf
 have oth:∀ b,b ≠ e->(h'.update e λ_=>oe).get? b=h'.get? b:=λb hb=>(Heap.SameBut.update h' e _).2 b hb
 have I1:Inv X pins σ H { s with heap:=h'.update e λ_=>oe,toks:=t' }:=I.turned (it:=it) (λb o hb q=>by
  by_cases z:b=e
  ·subst z
   rw [at1,<- he]
   exact q
  ·rw [oth b z]
   exact k b o z hb q) b0 b1 b3 b4 b5
 exact Inv.turned (s:={ s with heap:=h'.update e λ_=>oe,toks:=t' }) (it:=e) I1 (λb o hb q=>by
  have q:(h'.update e λ_=>oe).get? b=some o:=q
  rw [oth b hb] at q
  exact q) a0 a1 a3 a4 a5
noncomputable def Ite (q:Hp->List V->Prop):It :=
 ⟨λi H=>∃ xs,q H xs/\i < xs.length,λi H x H'=>∃ p,x=.ref p/\H p=none/\∃ u,H'=upd H p (.tup [.int i,u])/\∀ xs,q H xs->xs[i]?=some u,λi H=>∃ xs,q H xs/\i=xs.length⟩
structure Src (P:Program) (w:World) (K:PySem.W.Frag) (a it:Addr) (q:Hp->List V->Prop) (r:Nat->Heap->Prop):Prop where
 ne:a ≠ it
 keep:∀ i h h',r i h->(∀ o,h.get? it=some o->h'.get? it=some o)->r i h'
 live:∀ i h,r i h->∃ o,h.get? it=some o/\∀ v,o.data ≠ .cell v
 one:∀ (X:Cx),X.K=K->∀ (pins:List (Addr × Obj)) (s:Shared) (σ:St) (H:Hp) (xs ys:List V),Inv X pins σ H s->q H xs->q H ys->xs=ys
 row:∀ (X:Cx),X.prog=P->X.w=w->X.K=K->∀ (pins:List (Addr × Obj)) (s:Shared) (σ:St) (H:Hp) (xs:List V),Inv X pins σ H s->q H xs->∃ (its:List Value),au xs its/\∀ (A:Around),A.handled=none ->
  ∃ St:Nat->Heap->Prop,Draws P w A it [it,a] its.length (λi v=>its[i]?=some v) St/\(∀ i,r i s.heap->St i s.heap)/\∀ i h,St i h->r i h
theorem uv {P:Program}{w:World}{K:PySem.W.Frag}{ts:List Expr}{j:Nat}{tp:Pos}{a it e:Addr}{q:Hp->List V->Prop}{r:Nat->Heap->Prop} (S:Src P w K a it q r) (hei:e ≠ it) (hea:e ≠ a) :
  oq P w K (.Tuple ts j tp) (Ite q) [e,it] e (λi h=>(∃ old,IsEnum h e it (i:Nat) old)/\r i h) where
 mem:=.head _
 obj:=λi h st b hb=>by
  obtain ⟨⟨old,he⟩,hr⟩:=st
  rcases List.mem_cons.mp hb with rfl|hb
  ·exact ⟨_,he,λv z=>by cases z⟩
  ·have z:b=it:=by simpa using hb
   subst z
   exact S.live i h hr
 keep:=λi h h' ⟨⟨old,he⟩,hr⟩ k=>⟨⟨old,k e (.head _) _ he⟩,S.keep i h h' hr (k it (.tail _ (.head _)))⟩
 item:=by
  intro X hP hw hK hc i pins s σ H E I hf st hg
  obtain ⟨⟨old,he⟩,hr⟩:=st
  obtain ⟨xs,hq,hi⟩:=hg
  obtain ⟨its,rv,dr⟩:=S.row X hP hw hK pins s σ H xs I hq
  have hh:X.A.handled=none:=I.ok.hd hc
  obtain ⟨St,D,hst,hts⟩:=dr X.A.in1 (by simpa using hh)
  have hl:=rv.length
  have fe:=hf e (.head _)
  have fi:=hf it (.tail _ (.head _))
  refine wpAny_pyNext_enum_itemD D he (hst i hr) (by omega) hei (by simp only [List.mem_cons,List.not_mem_nil,or_false,not_or];exact ⟨hei,hea⟩) λx h' tk px eo st' tup sz kp=>?_
  refine ⟨_,rfl,wpAny_letOwnedTupleGo_enum eo λh2 en2 sb2=>?_⟩
  have hx:i < xs.length:=hi
  obtain ⟨u,hu,ru⟩:=rv.get (List.getElem?_eq_getElem hx)
  have ex:x=u:=by
   have:=px.symm.trans hu
   simpa using this
  subst ex
  have fresh:H s.heap.objs.size=none:=I.hok.fresh (Nat.le_refl _)
  have ne:∀ b o,s.heap.get? b=some o->b ≠ s.heap.objs.size:=λb o q z=>Nat.lt_irrefl _ (by have:=Heap.lt_size q;rw [z] at this;exact this)
  have en:e ≠ s.heap.objs.size:=ne _ _ he
  obtain ⟨oi,hoi,_⟩:=S.live i _ hr
  have inn:it ≠ s.heap.objs.size:=ne _ _ hoi
  have I1:Inv X pins σ (upd H s.heap.objs.size (.tup [.int i,xs[i]])) { s with heap:=s.heap.push { cls:=.type "tuple",data:=.seq #[.int i tk,x] } } :=
   I.laid (t':=s.toks) (λb o q=>Heap.get?_push_of_some _ q) (Nat.le_refl _) ⟨by show 2 <= sizeLine;decide,_,.cons ⟨_,rfl⟩ (.cons ru .nil),IsTup.new _ _⟩
  have up:∀ b,b ≠ s.heap.objs.size->iz X pins H b->iz X pins (upd H s.heap.objs.size (.tup [.int i,xs[i]])) b:=λb hb ⟨z,r⟩=>⟨by rw [af hb];exact z,r⟩
  have I2:=I1.turned2 (h':=h2) (t':=tk + 1) (e:=e) (it:=it) (Heap.get?_push_of_some _ he) rfl ⟨_,en2⟩ (λb o hbe hbi q=>?_) (up e en fe) (up it inn fi)
  ·refine ⟨.ref s.heap.objs.size,_,I2,rfl,⟨_,rfl,fresh,_,rfl,λys hy=>?_⟩,⟨⟨_,by simpa using en2⟩,?_⟩,λb hb=>?_⟩
   ·rw [S.one X hK pins s σ H ys xs I hy hq]
    exact List.getElem?_eq_getElem hx
   ·refine hts _ _ (D.frame _ _ _ st' λb hb o q=>?_)
    rw [sb2.2 b λz=>?_]
    ·exact q
    ·subst z
     simp only [List.mem_cons,List.not_mem_nil,or_false] at hb
     exact hb.elim hei hea
   ·rcases List.mem_cons.mp hb with rfl|hb
    ·exact (up b en fe).1
    ·have z:b=it:=by simpa using hb
     subst z
     exact (up b inn fi).1
  ·rw [sb2.2 b hbe]
   rcases Heap.get?_push_cases q with ⟨rfl,rfl⟩|q
   ·exact tup
   ·exact kp b o hbe hbi q
 done:=by
  intro X hP hw hK hc i pins s σ H E I hf st hg
  obtain ⟨⟨old,he⟩,hr⟩:=st
  obtain ⟨xs,hq,hi⟩:=hg
  obtain ⟨its,rv,dr⟩:=S.row X hP hw hK pins s σ H xs I hq
  have hh:X.A.handled=none:=I.ok.hd hc
  obtain ⟨St,D,hst,hts⟩:=dr X.A.in1 (by simpa using hh)
  have hl:=rv.length
  obtain ⟨f0,f1,f2,f3,f4,f5⟩:=hf it (.tail _ (.head _))
  have e:i=its.length:=by omega
  subst e
  exact wpAny_pyNext_enum_endD D he (hst _ hr) λh' eb=>⟨rfl,I.turned (t':=s.toks) (λb o hb q=>eb b o hb q) f0 f1 f3 f4 f5⟩
 self:=λ_ i s Q E ⟨⟨old,he⟩,_⟩ h=>wpAny_pyIter_enum he h
theorem uA {P:Program}{w:World}{K:PySem.W.Frag}{a it:Addr} (ne:a ≠ it):Src P w K a it (λH xs=>SqL K H a xs) (λi h=>h.IsListIter it a i) where
 ne:=ne
 keep:=λi h h' ⟨o,ho,r⟩ k=>⟨o,k o ho,r⟩
 live:=λi h ⟨o,ho,_,hd⟩=>⟨o,ho,λv z=>by rw [hd] at z;cases z⟩
 one:=λX hK pins s σ H xs ys I h h'=>by subst hK;exact I.list_inj h h'
 row:=λX hP hw hK pins s σ H xs I h=>by
  subst hP hw hK
  obtain ⟨its,rv,p,_⟩:=I.list h
  refine ⟨its,rv,λA hA=>⟨λi h=>h.IsListIter it a i/\h.IsList a its.toArray,?_,λi st=>⟨st,p.isList⟩,λi h' st=>st.1⟩⟩
  simpa using Draws.list (prog:=X.prog) (w:=X.w) hA it a ne its.toArray
theorem w4 {P:Program}{w:World}{K:PySem.W.Frag}{a it:Addr} (ne:a ≠ it):Src P w K a it (λH xs=>SqT K H a xs) (λi h=>h.IsTupleIter it a i) where
 ne:=ne
 keep:=λi h h' ⟨o,ho,r⟩ k=>⟨o,k o ho,r⟩
 live:=λi h ⟨o,ho,_,hd⟩=>⟨o,ho,λv z=>by rw [hd] at z;cases z⟩
 one:=λX hK pins s σ H xs ys I h h'=>by subst hK;exact I.tuple_inj h h'
 row:=λX hP hw hK pins s σ H xs I h=>by
  subst hP hw hK
  obtain ⟨its,rv,p,_⟩:=I.tuple h
  refine ⟨its,rv,λA hA=>⟨λi h=>h.IsTupleIter it a i/\h.IsTuple a its.toArray,?_,λi st=>⟨st,(show s.heap.IsTuple a its.toArray from p)⟩,λi h' st=>st.1⟩⟩
  simpa using En.draws (P:=X.prog) (w:=X.w) hA it a ne its.toArray
noncomputable def CJ (K:PySem.W.Frag) (tl:TE):TI:=λσ H R=>tl σ H λx H1=>∃ a,x=.ref a/\(((∃ xs,SqL K H1 a xs)/\R (Ite λH xs=>SqL K H a xs) H1) \/ ((∃ xs,SqT K H1 a xs)/\R (Ite λH xs=>SqT K H a xs) H1))
theorem nI {X:Cx}{pins:List (Addr × Obj)}{σ:St}{H:Hp}{s:Shared}{E:Value->Shared->Prop}{h':Heap}{ts:List Expr}{j:Nat}{tp:Pos}{a:Addr}{q:Hp->List V->Prop}{r:Nat->Heap->Prop}{R:It->Hp->Prop} (I:Inv X pins σ H s) (la:a < s.heap.objs.size)
  (S:Src X.prog X.w X.K a s.heap.objs.size q r) (en:IsEnum h' (s.heap.objs.size + 1) s.heap.objs.size 0 .none) (hr:r 0 h') (k:∀ b o,s.heap.get? b=some o->h'.get? b=some o) (hR:R (Ite q) H) :
  wpAny (model X.prog X.w) X.A (pyIter (.ref (s.heap.objs.size + 1))) (PIE X pins σ (.Tuple ts j tp) R) E { s with heap:=h' }:=by
 have I1:Inv X pins σ H { s with heap:=h' }:=I.kept (t':=s.toks) k
 refine wpAny_pyIter_enum (s:={ s with heap:=h' }) en ⟨s.heap.objs.size + 1,[s.heap.objs.size + 1,s.heap.objs.size],_,_,H,rfl,I1,uv S (Nat.succ_ne_self _) (Nat.ne_of_gt (Nat.lt_succ_of_lt la)),⟨⟨_,en⟩,hr⟩,λb hb=>?_,hR⟩
 have hb:s.heap.objs.size <= b:=by
  simp only [List.mem_cons,List.not_mem_nil,or_false] at hb
  rcases hb with rfl|rfl
  ·exact Nat.le_succ _
  ·exact Nat.le_refl _
 exact I.fpOk hb (I.hok.fresh hb)
theorem pe {X:Cx}{ts:List Expr}{j:Nat}{tp:Pos}{l:Expr}{tl:TE}{p pos:Pos} (hg:Gl X "enumerate") (hm:X.mg "enumerate"=none) (hl:PE X l tl) (hs:starEach [l] X.env=[(false,eval l X.env)]:=by rfl) :
  PI X (.Tuple ts j tp) (.Call (.Name "enumerate" p) [l] [] pos) (CJ X.K tl):=by
 intro pins s σ H R I h
 refine Call_ (iw I hg hm PyProof.Rows.boot_enumerate (PyProof.Rows.callWith_type1 (thn (bC hl cn hs pos pins s σ H (λvs H1=>match vs with
  | [x]=>∃ a,x=.ref a/\(((∃ xs,SqL X.K H1 a xs)/\R (Ite λH xs=>SqL X.K H a xs) H1) \/ ((∃ xs,SqT X.K H1 a xs)/\R (Ite λH xs=>SqT X.K H a xs) H1))
  | _=>False) I h) λus s1 ⟨vs,H1,I1,r1,q1⟩=>?_) hs rfl))
 cases r1 with
 | nil=>exact q1.elim
 | cons r rr =>
  cases rr with
  | cons _ _=>exact q1.elim
  | nil =>
   obtain ⟨a,e,q⟩:=q1
   subst e
   cases r
   rcases q with ⟨⟨xs,hq⟩,q⟩|⟨⟨xs,hq⟩,q⟩
   ·obtain ⟨its,_,pl,_⟩:=I1.list hq
    have la:a < s1.heap.objs.size:=let ⟨o,ho,_⟩:=pl.isList;Heap.lt_size ho
    exact call_enumerate_list pl.isList λh' en it _ k=>nI I1 la (uA (Nat.ne_of_lt la)) en it k q
   ·obtain ⟨its,_,pt,_⟩:=I1.tuple hq
    have pt:s1.heap.IsTuple a its.toArray:=pt
    have la:a < s1.heap.objs.size:=let ⟨o,ho,_⟩:=pt;Heap.lt_size ho
    exact En.call_tup pt λh' en it _ k=>nI I1 la (w4 (Nat.ne_of_lt la)) en it k q
end L2
namespace MM
open PySem PySem.Spec PyProof.Rows L2
structure mv (K:PySem.W.Frag) (J:It) (xs:List PV) (V G:Hp):Prop where
 stop:∀ H',ae G H'->J.stop xs.length H'
 go:∀ (i:Nat) x H',ae G H'->xs[i]?=some x->J.go i H'
 yld:∀ (i:Nat) x H' u H2,ae G H'->xs[i]?=some x->J.yld i H' u H2->ae H' H2/\∀ O',(∀ a ∈ O',H' a ≠ none)->ae V (ak H2 O')->Rep K (ak H2 O') x u
theorem mv.weak {K:PySem.W.Frag}{J:It}{xs:List PV}{V G G':Hp} (h:mv K J xs V G) (s:ae G G'):mv K J xs V G' :=
 ⟨λH' s'=>h.stop H' (s.trans s'),λi x H' s'=>h.go i x H' (s.trans s'),λi x H' u H2 s'=>h.yld i x H' u H2 (s.trans s')⟩
noncomputable def aK (ms:List ME) (ρ:Rho) (σ:St):List Addr:=match ms with
 | [.bor i]=>(match (ρ[i]?).join,(σ[i]?).join with|some (.own _),some (.ref a)=>[a]|_,_=>[])
 | _=>[]
noncomputable def bq (B:Hp) (O:List Addr) (H:Hp) (L:List Addr):Hp:=λb=>if b ∈ O then (if b ∈ L then H b else B b) else H b
section
variable {K:PySem.W.Frag}{B H:Hp}{O L:List Addr}
theorem nJ (s:ae B H):ae (bq B O H L) H:=λb u e=>by
 unfold bq at e
 split at e
 ·split at e
  ·exact e
  ·exact s b u e
 ·exact e
theorem cJ (s:ae B H):ae B (bq B O H L):=λb u e=>by
 unfold bq
 split
 ·split
  ·exact s b u e
  ·exact e
 ·exact s b u e
theorem bH:ae (ak H O) (bq B O H L):=λb u e=>by
 have hb:b ∉ O:=λz=>by rw [eZ z] at e;cases e
 unfold bq
 rw [if_neg hb]
 rw [aI hb] at e
 exact e
end
theorem ia {K:PySem.W.Frag}{V G:Hp}{a:Addr}{xs:List PV}{us:List L2.V} (h:SqL K G a us) (r:Reps K V xs us):mv K (Itl K a) xs V G where
 stop:=λH' s=>⟨us,s.seq h,Nat.le_of_eq r.length.symm⟩
 go:=λi x H' s e=>by
  obtain ⟨u,e1,_⟩:=r.get e
  exact ⟨us,u,s.seq h,e1⟩
 yld:=λi x H' u H2 s e y=>by
  obtain ⟨rfl,y⟩:=y
  obtain ⟨w,e1,q⟩:=r.get e
  have e2:=y us (s.seq h)
  rw [e1] at e2
  cases e2
  exact ⟨ae.refl _,λO' _ sv=>Rep.mono sv _ q⟩
theorem uB {K:PySem.W.Frag}{V G:Hp}{a:Addr}{xs:List PV}{us:List L2.V} (h:SqT K G a us) (r:Reps K V xs us):mv K (Itt K a) xs V G where
 stop:=λH' s=>⟨us,s.seqT h,Nat.le_of_eq r.length.symm⟩
 go:=λi x H' s e=>by
  obtain ⟨u,e1,_⟩:=r.get e
  exact ⟨us,u,s.seqT h,e1⟩
 yld:=λi x H' u H2 s e y=>by
  obtain ⟨rfl,y⟩:=y
  obtain ⟨w,e1,q⟩:=r.get e
  have e2:=y us (s.seqT h)
  rw [e1] at e2
  cases e2
  exact ⟨ae.refl _,λO' _ sv=>Rep.mono sv _ q⟩
theorem nK {K:PySem.W.Frag}{V G:Hp}{lo:Int}{n:Nat}:mv K (Itr lo n) ((List.range n).map λ(k:Nat)=>.int (lo + k)) V G where
 stop:=λH' s=>by simp [Itr]
 go:=λi x H' s e=>by
  have:=(List.getElem?_eq_some_iff.mp e).1
  simpa [Itr] using this
 yld:=λi x H' u H2 s e y=>by
  obtain ⟨rfl,rfl⟩:=y
  refine ⟨ae.refl _,λO' _ sv=>?_⟩
  have hi:i < n:=by have:=(List.getElem?_eq_some_iff.mp e).1;simpa using this
  rw [List.getElem?_map,List.getElem?_range hi] at e
  cases e
  rw [Rep]
theorem y7 {K:PySem.W.Frag}{H:Hp}{O:List Addr}{p:Addr}{xs:List PV}{us:List V} (hO:∀ a ∈ O,H a ≠ none) (hp:H p=none) (h:Reps K (ak (upd H p (.tup us)) O) xs us):Rep K (ak (upd H p (.tup us)) O) (.tup xs) (.ref p):=by
 rw [Rep]
 refine ⟨p,us,rfl,?_,h⟩
 rw [aI λz=>hO p z hp]
 exact aj ..
theorem qB:∀ (xs:List PV) (k i:Nat),(cf k xs)[i]?=(xs[i]?).map λx=>.tup [.int ((k + i:Nat):Int),x]
 | [],k,i=>by simp [cf]
 | x::xs,k,0=>by simp [cf]
 | x::xs,k,i + 1=>by
  rw [cf,List.getElem?_cons_succ,List.getElem?_cons_succ,qB xs (k + 1) i,show k + 1 + i=k + (i + 1) by omega]
theorem j7:∀ (xs:List PV) (k:Nat),(cf k xs).length=xs.length
 | [],_=>rfl
 | x::xs,k=>by rw [cf,List.length_cons,List.length_cons,j7 xs]
theorem gH {K:PySem.W.Frag}{V G:Hp}{q:Hp->List L2.V->Prop}{xs:List PV}{us:List L2.V} (h:∀ H',ae G H'->q H' us) (r:Reps K V xs us):mv K (Ite q) (cf 0 xs) V G where
 stop:=λH' s=>⟨us,h H' s,by rw [j7];exact r.length⟩
 go:=λi x H' s e=>by
  refine ⟨us,h H' s,?_⟩
  have:=(List.getElem?_eq_some_iff.mp e).1
  rw [j7] at this
  rw [<- r.length]
  exact this
 yld:=λi x H' u H2 s e y=>by
  obtain ⟨p,rfl,hp,v,rfl,y⟩:=y
  rw [qB] at e
  obtain ⟨z,e1,rfl⟩:=Option.map_eq_some_iff.mp e
  obtain ⟨w,e2,rz⟩:=r.get e1
  have e3:=y us (h H' s)
  rw [e2] at e3
  cases e3
  refine ⟨a_ hp _,λO' hO sv=>?_⟩
  rw [Nat.zero_add]
  refine y7 hO hp (.cons (dA _ _) (.cons (Rep.mono sv _ rz) .nil))
noncomputable def tW (K:PySem.W.Frag) (cal:Cal) (k:Sk) (ms:List ME):TI:=λσ H R =>
 ∃ B O₀ O ρ vs xs,aD K B O₀ O H ρ σ/\evs cal ms ρ=some vs/\cm k vs=some xs/\∀ J H1,ae H H1->mv K J xs (ak H1 O) (bq B O H1 (aK ms ρ σ))->R J H1
section
variable {X:Cx}{cal:Cal}{tg:Expr}
theorem PI.or {e:Expr}{t u:TI} (h:PI X tg e t) (g:PI X tg e u):PI X tg e (λσ H R=>t σ H R \/ u σ H R):=λpins s σ H R I q=>q.elim (h pins s σ H R I) (g pins s σ H R I)
theorem ib:∀ {ms:List ME}{ρ:Rho}{vs:List PV},evs cal ms ρ=some vs->vs.length=ms.length
 | [],_,_,h=>by simp [evs] at h;subst h;rfl
 | m::ms,_,_,h=>by
  simp only [evs,Option.bind_eq_some_iff,Option.map_eq_some_iff] at h
  obtain ⟨v,_,w,e2,rfl⟩:=h
  simp [ib e2]
theorem mw {m:ME}{ρ:Rho}{vs:List PV} (h:evs cal [m] ρ=some vs):∃ v,vs=[v]/\ev cal m ρ=some v:=by
 simp only [evs,Option.bind_eq_some_iff,Option.map_eq_some_iff] at h
 obtain ⟨v,e,w,e2,rfl⟩:=h
 cases e2
 exact ⟨v,rfl,e⟩
theorem mx {K:PySem.W.Frag}{F:Hp}{v:PV}{u:L2.V}{xs:List PV} (h:Rep K F v u) (e:a9 v=some xs):∃ a us,u=.ref a/\Reps K F xs us/\((v=.lst xs/\SqL K F a us) \/ (v=.tup xs/\SqT K F a us)):=by
 cases v with
 | lst ys=>simp [a9] at e;subst e;rw [Rep] at h;obtain ⟨a,us,e,q,r⟩:=h;exact ⟨a,us,e,r,.inl ⟨rfl,q⟩⟩
 | tup ys=>simp [a9] at e;subst e;rw [Rep] at h;obtain ⟨a,us,e,q,r⟩:=h;exact ⟨a,us,e,r,.inr ⟨rfl,cH q⟩⟩
 | _=>simp [a9] at e
theorem Bf {m:ME}{e:Expr} (hb:ax m=false) (h:PE X e (tE X.K cal m)):PI X tg e (tW X.K cal .seq [m]):=by
 refine (PI.or (jf h) (sL h)).imp λσ H R q=>?_
 obtain ⟨B,O₀,O,ρ,vs,xs,st,e1,e2,q⟩:=q
 obtain ⟨v,rfl,e3⟩:=mw e1
 have e4:a9 v=some xs:=e2
 have hl:aK [m] ρ σ=[]:=by cases m <;> first|rfl|cases hb
 rw [hl] at q
 cases v with
 | lst ys =>
  simp [a9] at e4;subst e4
  refine .inl ⟨B,O₀,O,ρ,_,st,e3,λu H' s g=>?_⟩
  have r:=g.2 hb
  rw [Rep] at r
  obtain ⟨a,us,rfl,sq,rs⟩:=r
  exact ⟨a,rfl,⟨us,(aW H' O).seq sq⟩,q _ _ s (ia (bH.seq sq) rs)⟩
 | tup ys =>
  simp [a9] at e4;subst e4
  refine .inr ⟨B,O₀,O,ρ,_,st,e3,λu H' s g=>?_⟩
  have r:=g.2 hb
  rw [Rep] at r
  obtain ⟨a,us,rfl,sq,rs⟩:=r
  exact ⟨a,rfl,⟨us,(aW H' O).seqT (cH sq)⟩,q _ _ s (uB (bH.seqT (cH sq)) rs)⟩
 | _=>simp [a9] at e4
theorem Bg {i:Nat}{x:Str}{pos:Pos} (h:ag X.N X.env.scope i x=true):PI X tg (.Name x pos) (tW X.K cal .seq [.bor i]):=by
 refine (PI.or (jf (bb h)) (sL (bb h))).imp λσ H R q=>?_
 obtain ⟨B,O₀,O,ρ,vs,xs,st,e1,e2,q⟩:=q
 obtain ⟨v,rfl,e3⟩:=mw e1
 have e4:a9 v=some xs:=e2
 rw [ev] at e3
 cases hj:(ρ[i]?).join with
 | none=>rw [hj] at e3;cases e3
 | some m =>
  rw [hj] at e3
  obtain ⟨u,eu,so⟩:=aX st hj
  cases m with
  | val w =>
   simp only [bh,Option.some.injEq] at e3
   subst e3
   have so':Rep X.K (ak H O) w u:=so
   obtain ⟨a,us,rfl,rs,z⟩:=mx so' e4
   rcases z with ⟨rfl,sq⟩|⟨rfl,sq⟩
   ·exact .inl ⟨_,eu,a,rfl,⟨us,(aW H O).seq sq⟩,q _ _ (ae.refl H) (ia (bH.seq sq) rs)⟩
   ·exact .inr ⟨_,eu,a,rfl,⟨us,(aW H O).seqT sq⟩,q _ _ (ae.refl H) (uB (bH.seqT sq) rs)⟩
  | own ys =>
   simp only [bh,Option.some.injEq] at e3
   subst e3
   simp [a9] at e4;subst e4
   obtain ⟨a,us,rfl,ha,rs,hO,_⟩:=so
   refine .inl ⟨_,eu,a,rfl,⟨us,SqL.of ha⟩,q _ _ (ae.refl H) (ia (SqL.of ?_) rs)⟩
   have hl:aK [.bor i] ρ σ=[a]:=by simp [aK,hj,eu]
   unfold bq
   rw [hl,if_pos hO,if_pos (by simp)]
   exact ha
  | brw ys =>
   simp only [bh,Option.some.injEq] at e3
   subst e3
   simp [a9] at e4;subst e4
   obtain ⟨a,us,rfl,sq,rs⟩:=so
   exact .inl ⟨_,eu,a,rfl,⟨us,st.keep.seq sq⟩,q _ _ (ae.refl H) (ia ((cJ st.keep).seq sq) rs)⟩
  | ownD ys =>
   simp only [bh,Option.some.injEq] at e3
   subst e3
   simp [a9] at e4
  | ownO _ _ _=>simp [bh] at e3
  | brwO _ _=>simp [bh] at e3
  | brwD ys =>
   simp only [bh,Option.some.injEq] at e3
   subst e3
   simp [a9] at e4
theorem Bh {m:ME}{e:Expr}{f:Str}{ts:List Expr}{j:Nat}{tp p pos:Pos}{T:Tab}{k:Nat} (g:Gf X T k cal) (hf:f=("enumerate":Str)) (hg:glB X.env.scope f=true) (hs:am e=true) (hb:ax m=false) (h:PE X e (tE X.K cal m)):PI X (.Tuple ts j tp) (.Call (.Name f p) [e] [] pos) (tW X.K cal .enm [m]):=by
 subst hf
 have star:starEach [e] X.env=[(false,eval e X.env)]:=by cases e <;> first|rfl|(simp [am] at hs)
 refine (pe (eT hg) (g.blt "enumerate" (by decide)) h star).imp λσ H R q=>?_
 obtain ⟨B,O₀,O,ρ,vs,xs,st,e1,e2,q⟩:=q
 obtain ⟨v,rfl,e3⟩:=mw e1
 have hl:aK [m] ρ σ=[]:=by cases m <;> first|rfl|cases hb
 rw [hl] at q
 simp only [cm,Option.map_eq_some_iff] at e2
 obtain ⟨ys,e4,rfl⟩:=e2
 refine ⟨B,O₀,O,ρ,_,st,e3,λu H' s g=>?_⟩
 obtain ⟨a,us,rfl,rs,z⟩:=mx (g.2 hb) e4
 rcases z with ⟨_,sq⟩|⟨_,sq⟩
 ·exact ⟨a,rfl,.inl ⟨⟨us,(aW H' O).seq sq⟩,q _ _ s (gH (λH2 s2=>s2.seq (bH.seq sq)) rs)⟩⟩
 ·exact ⟨a,rfl,.inr ⟨⟨us,(aW H' O).seqT sq⟩,q _ _ s (gH (λH2 s2=>s2.seqT (bH.seqT sq)) rs)⟩⟩
theorem y9 {i:Nat}{x:Str}{px:Pos}{f:Str}{ts:List Expr}{j:Nat}{tp p pos:Pos}{T:Tab}{k:Nat} (g:Gf X T k cal) (hf:f=("enumerate":Str)) (hg:glB X.env.scope f=true) (h:ag X.N X.env.scope i x=true):PI X (.Tuple ts j tp) (.Call (.Name f p) [.Name x px] [] pos) (tW X.K cal .enm [.bor i]):=by
 subst hf
 refine (pe (eT hg) (g.blt "enumerate" (by decide)) (bb h) rfl).imp λσ H R q=>?_
 obtain ⟨B,O₀,O,ρ,vs,xs,st,e1,e2,q⟩:=q
 obtain ⟨v,rfl,e3⟩:=mw e1
 simp only [cm,Option.map_eq_some_iff] at e2
 obtain ⟨zs,e4,rfl⟩:=e2
 rw [ev] at e3
 cases hj:(ρ[i]?).join with
 | none=>rw [hj] at e3;cases e3
 | some m =>
  rw [hj] at e3
  obtain ⟨u,eu,so⟩:=aX st hj
  cases m with
  | val w =>
   simp only [bh,Option.some.injEq] at e3
   subst e3
   have so':Rep X.K (ak H O) w u:=so
   obtain ⟨a,us,rfl,rs,z⟩:=mx so' e4
   rcases z with ⟨rfl,sq⟩|⟨rfl,sq⟩
   ·exact ⟨_,eu,a,rfl,.inl ⟨⟨us,(aW H O).seq sq⟩,q _ _ (ae.refl H) (gH (λH2 s2=>s2.seq (bH.seq sq)) rs)⟩⟩
   ·exact ⟨_,eu,a,rfl,.inr ⟨⟨us,(aW H O).seqT sq⟩,q _ _ (ae.refl H) (gH (λH2 s2=>s2.seqT (bH.seqT sq)) rs)⟩⟩
  | own ys =>
   simp only [bh,Option.some.injEq] at e3
   subst e3
   simp [a9] at e4;subst e4
   obtain ⟨a,us,rfl,ha,rs,hO,_⟩:=so
   have hl:aK [.bor i] ρ σ=[a]:=by simp [aK,hj,eu]
   have hG:bq B O H (aK [.bor i] ρ σ) a=some (.lst us):=by
    unfold bq
    rw [hl,if_pos hO,if_pos (by simp)]
    exact ha
   exact ⟨_,eu,a,rfl,.inl ⟨⟨us,SqL.of ha⟩,q _ _ (ae.refl H) (gH (λH2 s2=>s2.seq (SqL.of hG)) rs)⟩⟩
  | brw ys =>
   simp only [bh,Option.some.injEq] at e3
   subst e3
   simp [a9] at e4;subst e4
   obtain ⟨a,us,rfl,sq,rs⟩:=so
   exact ⟨_,eu,a,rfl,.inl ⟨⟨us,st.keep.seq sq⟩,q _ _ (ae.refl H) (gH (λH2 s2=>s2.seq ((cJ st.keep).seq sq)) rs)⟩⟩
  | ownD ys =>
   simp only [bh,Option.some.injEq] at e3
   subst e3
   simp [a9] at e4
  | ownO _ _ _=>simp [bh] at e3
  | brwO _ _=>simp [bh] at e3
  | brwD ys =>
   simp only [bh,Option.some.injEq] at e3
   subst e3
   simp [a9] at e4
theorem w5 {T:Tab}{k:Nat}{ms:List ME}{args:List Expr}{f:Str}{p pos:Pos} (g:Gf X T k cal) (hf:f=("range":Str)) (hg:glB X.env.scope f=true) (ha:PA X args (tEs X.K cal ms)) (hn:args.length=1 \/ args.length=2) (hs:args.all am=true) (hm:ms.length=args.length) :
  PI X tg (.Call (.Name f p) args [] pos) (tW X.K cal .rng ms):=by
 subst hf
 have star:∀ e,am e=true->∀ es env,starEach (e::es) env=(false,eval e env)::starEach es env:=λe he es env=>by
  cases e <;> first|rfl|(simp [am] at he)
 match args,hn with
 | [a],_ =>
  simp only [List.all_cons,List.all_nil,Bool.and_true] at hs
  refine (q_ (eT hg) (g.blt "range" (by decide)) ha (by rw [star a hs];rfl)).imp λσ H R q=>?_
  obtain ⟨B,O₀,O,ρ,vs,xs,st,e1,e2,q⟩:=q
  refine ⟨B,O₀,O,ρ,vs,st,e1,λus H' s gs=>?_⟩
  match vs,e2,gs with
  | [.int j],e2,gs =>
   simp only [cm] at e2
   split at e2
   ·rename_i c
    cases e2
    obtain ⟨u,rfl,ru⟩:=p1 gs.1
    have e3:=ru.int
    subst e3
    exact ⟨j,rfl,c.1,c.2,q _ _ s nK⟩
   ·cases e2
  | [.int j,.int j'],e2,gs =>
   have:=ib e1
   simp at this hm
   omega
 | [a,b],_ =>
  simp only [List.all_cons,List.all_nil,Bool.and_true,Bool.and_eq_true] at hs
  refine (ra (eT hg) (g.blt "range" (by decide)) ha (by rw [star a hs.1,star b hs.2];rfl) (by rw [star b hs.2];rfl)).imp λσ H R q=>?_
  obtain ⟨B,O₀,O,ρ,vs,xs,st,e1,e2,q⟩:=q
  refine ⟨B,O₀,O,ρ,vs,st,e1,λus H' s gs=>?_⟩
  match vs,e2,gs with
  | [.int i,.int j],e2,gs =>
   simp only [cm] at e2
   split at e2
   ·rename_i c
    cases e2
    obtain ⟨u,u',rfl,ru,ru'⟩:=p2 gs.1
    have e3:=ru.int
    have e4:=ru'.int
    subst e3 e4
    exact ⟨i,j,rfl,c,q _ _ s nK⟩
   ·cases e2
  | [.int j],e2,gs =>
   have:=ib e1
   simp at this hm
   omega
end
end MM
namespace MM
open PySem PySem.Spec PyProof.Rows L2
noncomputable def tF (K:PySem.W.Frag) (cal:Cal) (me:ME):TE:=λσ H Q=>∃ B O₀ O ρ xs,aD K B O₀ O H ρ σ/\ev cal me ρ=some (.lst xs) /\
 ∀ p us H',ae H H'->H p=none->H' p=some (.lst us)->Reps K (ak H' (p::O)) xs us->Q (.ref p) H'
theorem ic {H:Hp}{O:List Addr}{p:Addr}:ae (ak H (p::O)) (ak H O):=bf (ae.refl H) λb hb=>.inl (List.mem_cons_of_mem _ hb)
theorem ie {H:Hp}{O:List Addr}{p:Addr}{o:HO} (h:p ∈ O):ak (upd H p o) O=ak H O:=by
 funext b
 unfold ak
 split
 ·rfl
 ·rename_i hb
  exact af λz=>hb (by rw [z];exact h)
theorem qC {K:PySem.W.Frag}{H H':Hp}{O:List Addr}{me:ME}{xs:List PV}{p:Addr}{us:List V} (hO:∀ a ∈ O,H a ≠ none) (hp:H p=none) (e:H' p=some (.lst us)) (r:Reps K (ak H' (p::O)) xs us):Got K H' O me (.lst xs) (.ref p):=by
 refine .of ?_
 rw [Rep]
 refine ⟨p,us,rfl,SqL.of ?_,Reps.mono ic _ r⟩
 rw [aI λz=>hO p z hp]
 exact e
section
variable {X:Cx}{T:Tab}{k:Nat}{cal:Cal}
theorem eU {e:Expr}{me:ME} (hf:∀ ρ v,ev cal me ρ=some v->∃ xs,v=.lst xs) (h:PE X e (tF X.K cal me)):PE X e (tE X.K cal me):=by
 refine h.imp λσ H Q q=>?_
 obtain ⟨B,O₀,O,ρ,v,st,e1,q⟩:=q
 obtain ⟨xs,rfl⟩:=hf ρ v e1
 exact ⟨B,O₀,O,ρ,xs,st,e1,λp us H' s hp he r=>q _ _ s (qC st.here hp he r)⟩
theorem Gf.blk (g:Gf X T k cal) (x:Str) (fvs:List Str) (scope:Scope) (s₁:Shared) (H₁:Hp) (C:Addr) (fp:List Addr):Gf (X.blk x fvs scope s₁ H₁ C fp) T k cal:={ g with }
theorem lj {osc:Scope}{N:List Str}{scope:Scope}{x:Str}{fvs:List Str}{js:List Nat} (h:eE osc N scope x fvs js=true):iK osc N scope x fvs js:=by
 unfold eE at h
 simp only [Bool.and_eq_true,beq_iff_eq,decide_eq_true_eq] at h
 obtain ⟨⟨⟨⟨⟨⟨⟨⟨h1,h2⟩,h3⟩,h4⟩,h5⟩,h6⟩,h7⟩,h8⟩,h9⟩:=h
 exact ⟨h1,h2,h3,h4,h5,h6,h7,h8,h9⟩
theorem y_ {K:PySem.W.Frag}{B H H1 H2:Hp}{O₀ O:List Addr}{ρ:Rho}{σ σ':St}{js:List Nat}{D:Addr}{x:PV}{ux:V} (st:aD K B O₀ O H ρ σ) (s1:ae H H1) (s2:ae H1 H2) (hD:H1 D=none) (hD2:H2 D ≠ none)
  (hσ:∀ z,σ'.set 0 z=(jS js σ).set 0 z) (hl:0 < σ'.length) (hx:Rep K (ak H2 (D::O)) x ux):aD K H1 [] (D::O) H2 (cW js ρ x) (σ'.set 0 (some ux)):=by
 have hv:ae (ak H O) (ak H2 (D::O)):=bf (s1.trans s2) λb hb=>by
  rcases List.mem_cons.mp hb with rfl|hb
  ·exact .inr (s1.free hD)
  ·exact .inl hb
 rw [hσ]
 have noown:∀ (i:Nat) (m:MV),dy m=true->(cW js ρ x)[i]? ≠ some (some m):=λi m hm e=>by
  unfold cW at e
  cases i with
  | zero =>
   simp at e
   subst e
   cases hm
  | succ i =>
   simp only [List.getElem?_cons_succ,List.getElem?_map,Option.map_eq_some_iff] at e
   obtain ⟨j,_,e⟩:=e
   cases hj:(ρ[j]?).join with
   | none=>rw [hj] at e;cases e
   | some mm =>
    rw [hj] at e
    cases mm <;> first|(simp [cQ] at e;done)|(simp only [cQ,Option.some.injEq] at e;subst e;cases hm)
 refine ⟨s2,λa ha=>?_,λa ha=>by simp at ha,λa ha=>by simp at ha,?_,λi m e=>?_,λi j m m' a _ e _ hm=>absurd e (noown i m hm)
  ,nu λi m e=>by
   cases q:isL m with
   | false=>rfl
   | true=>exact absurd e (noown i m (by cases m <;> first|(cases q;done)|rfl))
  ⟩
 ·rcases List.mem_cons.mp ha with rfl|ha
  ·exact hD2
  ·exact λe=>st.here a ha ((s1.trans s2).free e)
 ·simp [cW,jS]
 ·cases i with
  | zero =>
   simp only [cW,List.getElem?_cons_zero,Option.some.injEq] at e
   subst e
   exact ⟨ux,by simp [jS],hx⟩
  | succ i =>
   simp only [cW,List.getElem?_cons_succ,List.getElem?_map,Option.map_eq_some_iff] at e
   obtain ⟨j,ej,e⟩:=e
   cases hj:(ρ[j]?).join with
   | none=>rw [hj] at e;cases e
   | some mm =>
    rw [hj] at e
    obtain ⟨u,eu,so⟩:=aX st hj
    have eσ:((jS js σ).set 0 (some ux))[i + 1]?=some (some u):=by
     simp [jS,ej,eu]
    refine ⟨u,eσ,?_⟩
    cases mm with
    | val w =>
     simp only [cQ,Option.some.injEq] at e
     subst e
     exact Rep.mono hv _ so
    | own ys =>
     simp only [cQ,Option.some.injEq] at e
     subst e
     obtain ⟨a,us,rfl,ha,rs,hO,_⟩:=so
     exact ⟨a,us,rfl,SqL.of (s1 _ _ ha),Reps.mono hv _ rs⟩
    | brw ys =>
     simp only [cQ,Option.some.injEq] at e
     subst e
     obtain ⟨a,us,rfl,sq,rs⟩:=so
     exact ⟨a,us,rfl,(st.keep.trans s1).seq sq,Reps.mono hv _ rs⟩
    | ownD kvs =>
     simp only [cQ,Option.some.injEq] at e
     subst e
     obtain ⟨a,rfl,ha,_⟩:=so
     exact ⟨a,rfl,.inl (s1 _ _ ha)⟩
    | ownO _ fs ys =>
     simp only [cQ,Option.some.injEq] at e
     subst e
     obtain ⟨a,l,rfl,q⟩:=so
     exact ⟨a,rfl,q.lent.move s1 hv⟩
    | brwO fs ys =>
     simp only [cQ,Option.some.injEq] at e
     subst e
     obtain ⟨a,rfl,q⟩:=so
     exact ⟨a,rfl,q.move (st.keep.trans s1) hv⟩
    | brwD kvs =>
     simp only [cQ,Option.some.injEq] at e
     subst e
     obtain ⟨a,rfl,ha⟩:=so
     exact ⟨a,rfl,ae.rd (st.keep.trans s1) ha⟩
theorem pf {k':Sk}{ms:List ME}{js:List Nat}{cond elt:ME}{e it:Expr}{x:Str}{px:Pos}{ifs:List Expr}{scope:Scope}{pos:Pos} (g:Gf X T k cal) (hsc:eE X.env.scope X.N scope x (b_ X.N js) js=true)
  (hw:PI X (.Name x px) it (tW X.K cal k' ms)) (hns:fc it=true)
  (hc:∀ s₁ H₁ C fp,PF (X.blk x (b_ X.N js) scope s₁ H₁ C fp) ifs (tT X.K cal cond)) (he:∀ s₁ H₁ C fp,PE (X.blk x (b_ X.N js) scope s₁ H₁ C fp) e (tE X.K cal elt)) (hb:ax elt=false) :
  PE X (.ListComp e [⟨.Name x px,it,ifs,0⟩] scope pos) (tF X.K cal (.comp k' ms js cond elt)):=by
 refine (wC (lj hsc) g.calm hw hc he (by intro v;cases it <;> first|rfl|(simp [fc] at hns))).imp λσ H Q q=>?_
 exact comp_go hb q
where
 comp_go {k':Sk}{ms:List ME}{js:List Nat}{cond elt:ME}{K:PySem.W.Frag}{σ:St}{H:Hp}{Q:VK} (hb:ax elt=false) (q:tF K cal (.comp k' ms js cond elt) σ H Q):tP (tW K cal k' ms) js (tT K cal cond) (tE K cal elt) σ H Q:=by
  obtain ⟨B,O₀,O,ρ,ws,st,e1,q⟩:=q
  rw [ev] at e1
  simp only [Option.bind_eq_some_iff] at e1
  obtain ⟨vs,e1,xs,e2,e3⟩:=e1
  split at e3
  ·rename_i hlen
   simp only [Option.map_eq_some_iff,PV.lst.injEq,exists_eq_right] at e3
   refine ⟨B,O₀,O,ρ,vs,xs,st,e1,e2,λJ H1 s1 it D hD=>?_⟩
   have hDO:D ∉ O:=λz=>bu s1 st.here D z hD
   have it1:=it.weak (nJ (st.keep.trans s1))
   refine ⟨λi m σ' H'=>m=xs.length - i/\i <= xs.length/\ae H1 H'/\(∀ z,σ'.set 0 z=(jS js σ).set 0 z)/\0 < σ'.length/\∃ done dN ys,dZ (λx=>(ev cal cond (cW js ρ x)).bind aJ) (λx=>ev cal elt (cW js ρ x)) (xs.drop i)=some dN/\ws=done ++ dN/\done.length <= i/\H' D=some (.lst ys)/\Reps K (ak H' (D::O)) done ys,⟨xs.length,by simp,Nat.zero_le _,a_ hD _,λ_=>rfl,by simp [jS],[],ws,[],by simpa using e3,rfl,Nat.le_refl _,aj,.nil⟩,?_⟩
   rintro i m σ' H' ⟨rfl,hi,s2,hσ,hl,done,dN,ys,eg,ew,hdl,hDy,rs⟩
   by_cases hlt:i < xs.length
   ·right
    have ex:xs[i]?=some xs[i]:=List.getElem?_eq_getElem hlt
    refine ⟨it1.go i _ H' s2 ex,λσ2 H2=>∃ m',m' < xs.length - i/\(m'=xs.length - (i + 1)/\i + 1 <= xs.length/\ae H1 H2/\(∀ z,σ2.set 0 z=(jS js σ).set 0 z)/\0 < σ2.length/\∃ done dN ys,dZ (λx=>(ev cal cond (cW js ρ x)).bind aJ) (λx=>ev cal elt (cW js ρ x)) (xs.drop (i + 1))=some dN/\ws=done ++ dN/\done.length <= i + 1/\H2 D=some (.lst ys)/\Reps K (ak H2 (D::O)) done ys),λσ2 H2 z=>z,λux H2 y=>?_⟩
    obtain ⟨s3,hr⟩:=it1.yld i _ H' ux H2 s2 ex y
    have sv:ae (ak H1 O) (ak H2 (D::O)):=bf (s2.trans s3) λb hb=>by
     rcases List.mem_cons.mp hb with rfl|hb
     ·exact .inr hD
     ·exact .inl hb
    have hx:=hr (D::O) (λa ha=>by
     rcases List.mem_cons.mp ha with rfl|ha
     ·rw [hDy];simp
     ·exact λz=>bu s1 st.here a ha (s2.free z)) sv
    have hD2:H2 D=some (.lst ys):=s3 _ _ hDy
    have stb:=y_ (js:=js) (ρ:=ρ) st s1 (s2.trans s3) hD (by rw [hD2];simp) hσ hl hx
    rw [List.drop_eq_getElem_cons hlt,dZ] at eg
    simp only [Option.bind_eq_some_iff] at eg
    obtain ⟨b,eb,eg⟩:=eg
    refine ⟨H1,[],D::O,_,b,stb,by simpa [evB,Option.bind_eq_some_iff] using eb,λH3 s4=>?_⟩
    have hσ2:∀ z,(σ'.set 0 (some ux)).set 0 z=(jS js σ).set 0 z:=λz=>by rw [List.set_set];exact hσ z
    have hl2:0 < (σ'.set 0 (some ux)).length:=by rw [List.length_set];exact hl
    cases b with
    | false =>
     rw [if_neg (by simp)] at eg
     dsimp only
     rw [if_neg (by simp)]
     refine ⟨_,by omega,rfl,hlt,(s2.trans s3).trans s4,hσ2,hl2,done,dN,ys,eg,ew,by omega,s4 _ _ hD2,Reps.mono ?_ _ rs⟩
     exact (ar s3).trans (ar s4)
    | true =>
     rw [if_pos rfl] at eg
     dsimp only
     rw [if_pos rfl]
     simp only [Option.bind_eq_some_iff,Option.map_eq_some_iff] at eg
     obtain ⟨y',ey,rest',eg,rfl⟩:=eg
     refine ⟨H1,[],D::O,_,y',stb.mono s4,ey,λuy H4 s5 gy=>?_⟩
     have hD4:H4 D=some (.lst ys):=s5 _ _ (s4 _ _ hD2)
     have ry:=gy.2 hb
     have rs4:Reps K (ak H4 (D::O)) done ys:=Reps.mono (((ar s3).trans (ar s4)).trans (ar s5)) _ rs
     have hyl:ys.length <= 10000:=by rw [<- rs.length];omega
     refine ⟨ys,hD4,Nat.lt_of_le_of_lt hyl (by decide),_,by omega,rfl,hlt,?_,hσ2,hl2,done ++ [y'],rest',ys ++ [uy],eg,by simp [ew],by simp;omega,aj,?_⟩
     ·intro b u eb
      rw [af (aH eb hD)]
      exact s5 _ _ (s4 _ _ ((s2.trans s3) _ _ eb))
     ·rw [ie (List.mem_cons_self)]
      exact rs4.snoc ry
   ·left
    have ei:i=xs.length:=by omega
    subst ei
    rw [List.drop_length,dZ] at eg
    cases eg
    rw [List.append_nil] at ew
    subst ew
    exact ⟨it1.stop H' s2,q D ys H' (s1.trans s2) (s1.free hD) hDy rs⟩
  ·cases e3
end
end MM
namespace MM
open PySem PySem.Spec PyProof.Rows L2
section
variable {X:Cx}{T:Tab}{k:Nat}{cal:Cal}
theorem bj {e:Expr} (he:am e=true) (es:List Expr) (env:Env):starEach (e::es) env=(false,eval e env)::starEach es env:=by
 cases e <;> first|rfl|(simp [am] at he)
theorem bm {pos:Pos}{env:Env}:∀ {es:List Expr},es.all am=true->(backTo pos (starEach es env)).any (·.1)=false
 | [],_=>rfl
 | e::es,h=>by
  simp only [List.all_cons,Bool.and_eq_true] at h
  rw [bj h.1]
  show (false || (backTo pos (starEach es env)).any (·.1))=false
  rw [bm h.2];rfl
theorem aP:∀ {ms:List ME}{N:List Str}{sc:Scope}{es:List Expr},chks T ms N sc es=true->es.all am=true/\ms.length=es.length
 | [],_,_,[],_=>⟨rfl,rfl⟩
 | [],_,_,_::_,h=>by simp [chks] at h
 | _::_,_,_,[],h=>by simp [chks] at h
 | m::ms,N,sc,e::es,h=>by
  simp only [chks,Bool.and_eq_true] at h
  obtain ⟨h1,h2⟩:=aP h.2
  exact ⟨by simp [h.1.2,h1],by simp [h2]⟩
theorem aT {e:Expr}{me:ME} (h:PE X e (tE X.K cal me)) (hp:iO e=true):PT X e (tT X.K cal me):=by
 refine (yh h (by intro w;cases e <;> first|rfl|(simp [iO] at hp;done)|(rename_i op _ _;cases op <;> first|rfl|(simp [iO] at hp)))).imp λσ H Q q=>?_
 obtain ⟨B,O₀,O,ρ,b,st,e1,q⟩:=q
 simp only [evB,Option.bind_eq_some_iff] at e1
 obtain ⟨v,e1,e2⟩:=e1
 refine ⟨B,O₀,O,ρ,v,st,e1,λu H' s g=>?_⟩
 cases v <;> simp [aJ] at e2
 subst e2
 exact ⟨_,g.1.bl,q H' s⟩
theorem uC {m:ME}{ms:List ME}{e:Expr}{es:List Expr} (h:PE X e (tE X.K cal m)) (hs:PA X es (tEs X.K cal ms)) (hn:am e=true):PA X (e::es) (tEs X.K cal (m::ms)):=by
 refine (bC h hs (bj hn es _)).imp λσ H Q q=>?_
 obtain ⟨B,O₀,O,ρ,vs,st,e1,q⟩:=q
 simp only [evs,Option.bind_eq_some_iff,Option.map_eq_some_iff] at e1
 obtain ⟨v,e1,ws,e2,rfl⟩:=e1
 refine ⟨B,O₀,O,ρ,v,st,e1,λu H1 s1 g1=>⟨B,O₀,O,ρ,ws,st.mono s1,e2,λus H2 s2 g2=>q (u::us) H2 (s1.trans s2) ⟨.cons (g1.1.mono s2) g2.1,λhb=>?_⟩⟩⟩
 simp only [List.all_cons,Bool.and_eq_true,Bool.not_eq_true'] at hb
 exact .cons ((g1.mono s2).2 hb.1) (g2.2 hb.2)
theorem w8:PA X [] (tEs X.K cal []):=by
 refine cn.imp λσ H Q q=>?_
 obtain ⟨B,O₀,O,ρ,vs,st,e1,q⟩:=q
 simp only [evs,Option.some.injEq] at e1
 subst e1
 exact q [] H (ae.refl H) ⟨.nil,λ_=>.nil⟩
theorem uD:PA X [] (tAs X.K cal []):=by
 refine cn.imp λσ H Q q=>?_
 obtain ⟨B,O₀,O,ρ,vs,st,e1,q⟩:=q
 simp only [evA,Option.some.injEq] at e1
 subst e1
 exact q [] H (ae.refl H) .nil
theorem uE {K:PySem.W.Frag}{H H':Hp}{O:List Addr} (s:ae H H') {m:MV}{u:V} (h:d7 K O H m u):d7 K O H' m u:=by
 cases m with
 | val v=>exact Rep.mono (ar s) _ h
 | own _=>exact h
 | brw xs=>obtain ⟨a,us,e,q,r⟩:=h;exact ⟨a,us,e,s.seq q,Reps.mono (ar s) _ r⟩
 | ownD _=>exact h
 | ownO _ _ _=>exact h
 | brwO fs xs=>obtain ⟨a,e,q⟩:=h;exact ⟨a,e,q.move s (ar s)⟩
 | brwD kvs=>obtain ⟨a,e,q⟩:=h;exact ⟨a,e,ae.rd s q⟩
theorem rV {m:ME}{ms:List ME}{e:Expr}{es:List Expr} (hb:ax m=false) (h:PE X e (tE X.K cal m)) (hs:PA X es (tAs X.K cal ms)) (hn:am e=true):PA X (e::es) (tAs X.K cal (m::ms)):=by
 refine (bC h hs (bj hn es _)).imp λσ H Q q=>?_
 obtain ⟨B,O₀,O,ρ,vs,st,e1,q⟩:=q
 have e1':(ev cal m ρ).bind (λv=>(evA cal ms ρ).map (MV.val v::·))=some vs:=by
  rw [<- e1]
  cases m <;> first|(cases hb;done)|(simp only [evA];done)|rfl
 simp only [Option.bind_eq_some_iff,Option.map_eq_some_iff] at e1'
 obtain ⟨v,e9,ws,e2,rfl⟩:=e1'
 exact ⟨B,O₀,O,ρ,v,st,e9,λu H1 s1 g1=>⟨B,O₀,O,ρ,ws,st.mono s1,e2,λus H2 s2 g2=>q (u::us) H2 (s1.trans s2) (.cons ((g1.mono s2).2 hb) g2)⟩⟩
theorem uF {i:Nat}{ms:List ME}{x:Str}{pos:Pos}{es:List Expr} (h:ag X.N X.env.scope i x=true) (hs:PA X es (tAs X.K cal ms)):PA X (.Name x pos::es) (tAs X.K cal (.bor i::ms)):=by
 refine (bC (bb h) hs rfl).imp λσ H Q q=>?_
 obtain ⟨B,O₀,O,ρ,vs,st,e1,q⟩:=q
 rw [evA] at e1
 simp only [Option.bind_eq_some_iff,Option.map_eq_some_iff] at e1
 obtain ⟨m',e1,ws,e2,rfl⟩:=e1
 cases hj:(ρ[i]?).join with
 | none=>rw [hj] at e1;cases e1
 | some m =>
  rw [hj] at e1
  obtain ⟨u,eu,so⟩:=aX st hj
  have ao:d7 X.K O H m' u:=by
   cases m with
   | val w=>simp only [cg,Option.some.injEq] at e1;subst e1;exact so
   | own ys=>simp only [cg,Option.some.injEq] at e1;subst e1;obtain ⟨a,us,rfl,ha,rs,_⟩:=so;exact ⟨a,us,rfl,SqL.of ha,rs⟩
   | brw ys=>simp only [cg,Option.some.injEq] at e1;subst e1;obtain ⟨a,us,rfl,sq,rs⟩:=so;exact ⟨a,us,rfl,st.keep.seq sq,rs⟩
   | ownD kvs=>simp only [cg,Option.some.injEq] at e1;subst e1;obtain ⟨a,rfl,ha,_⟩:=so;exact ⟨a,rfl,.inl ha⟩
   | ownO _ fs ys=>simp only [cg,Option.some.injEq] at e1;subst e1;obtain ⟨a,l,rfl,q⟩:=so;exact ⟨a,rfl,q.lent⟩
   | brwO fs ys=>simp only [cg,Option.some.injEq] at e1;subst e1;obtain ⟨a,rfl,q⟩:=so;exact ⟨a,rfl,q.move st.keep (ae.refl _)⟩
   | brwD kvs=>simp only [cg,Option.some.injEq] at e1;subst e1;obtain ⟨a,rfl,ha⟩:=so;exact ⟨a,rfl,ae.rd st.keep ha⟩
  exact ⟨u,eu,⟨B,O₀,O,ρ,ws,st,e2,λus H2 s2 g2=>q (u::us) H2 s2 (.cons (uE s2 ao) g2)⟩⟩
theorem Bi {op:Op2}{a b:ME}{l r:Expr}{pos:Pos} (ha:PE X l (tE X.K cal a)) (hb:PE X r (tE X.K cal b)):PE X (.BinOp l (wO op) r pos) (tE X.K cal (.bin op a b)):=by
 refine (AL (yZ op) ha hb).imp λσ H Q q=>?_
 obtain ⟨B,O₀,O,ρ,v,st,e1,q⟩:=q
 rw [ev] at e1
 simp only [Option.bind_eq_some_iff] at e1
 obtain ⟨x,e1,y,e2,e3⟩:=e1
 exact ⟨B,O₀,O,ρ,x,st,e1,λux H1 s1 g1=>⟨B,O₀,O,ρ,y,st.mono s1,e2,λuy H2 s2 g2=>⟨O,x,y,v,bu (s1.trans s2) st.here,g1.1.mono s2,g2.1,e3,λu H3 s3 r=>q u H3 ((s1.trans s2).trans s3) (.of r)⟩⟩⟩
theorem Bj {a:ME}{e:Expr}{pos:Pos} (ha:PE X e (tE X.K cal a)):PE X (.UnaryOp .Not e pos) (tE X.K cal (.not a)):=by
 refine (ym ha).imp λσ H Q q=>?_
 obtain ⟨B,O₀,O,ρ,v,st,e1,q⟩:=q
 rw [ev] at e1
 simp only [Option.bind_eq_some_iff,Option.map_eq_some_iff] at e1
 obtain ⟨b,⟨x,e1,e2⟩,rfl⟩:=e1
 cases x <;> simp only [aJ,Option.some.injEq,reduceCtorEq] at e2
 subst e2
 exact ⟨B,O₀,O,ρ,_,st,e1,λux H1 s1 g1=>⟨_,g1.1.bl,q _ H1 s1 (.of (cI _ _))⟩⟩
theorem Bk {a:ME}{e:Expr}{pos:Pos} (ha:PT X e (tT X.K cal a)):PT X (.UnaryOp .Not e pos) (tT X.K cal (.not a)):=by
 refine (yk ha).imp λσ H Q q=>?_
 obtain ⟨B,O₀,O,ρ,b,st,e1,q⟩:=q
 simp only [evB,ev,Option.bind_eq_some_iff,Option.map_eq_some_iff] at e1
 obtain ⟨v,⟨c,⟨x,e1,e2⟩,rfl⟩,e3⟩:=e1
 simp only [aJ,Option.some.injEq] at e3
 subst e3
 exact ⟨B,O₀,O,ρ,c,st,by simp [evB,e1,e2],λH' s=>q H' s⟩
theorem x4 {a b:ME}{x y:Expr}{r:List Expr}{pos:Pos} (ha:PE X x (tE X.K cal a)) (hb:PE X (.BoolOp .And (y::r) pos) (tE X.K cal b)):PE X (.BoolOp .And (x::y::r) pos) (tE X.K cal (.and a b)):=by
 refine (yl ha hb).imp λσ H Q q=>?_
 obtain ⟨B,O₀,O,ρ,v,st,e1,q⟩:=q
 rw [ev] at e1
 simp only [Option.bind_eq_some_iff] at e1
 obtain ⟨c,⟨z,e1,e2⟩,e3⟩:=e1
 cases z <;> simp only [aJ,Option.some.injEq,reduceCtorEq] at e2
 subst e2
 refine ⟨B,O₀,O,ρ,_,st,e1,λux H1 s1 g1=>⟨_,g1.1.bl,?_⟩⟩
 split at e3
 ·rename_i h
  rw [if_pos h]
  simp only [Option.bind_eq_some_iff,Option.map_eq_some_iff] at e3
  obtain ⟨z',e3,c',e4,rfl⟩:=e3
  cases z' <;> simp only [aJ,Option.some.injEq,reduceCtorEq] at e4
  subst e4
  exact ⟨B,O₀,O,ρ,_,st.mono s1,e3,λu H2 s2 g2=>q u H2 (s1.trans s2) (by rw [g2.1.bl];exact .of (cI _ _))⟩
 ·rename_i h
  rw [if_neg h]
  cases e3
  exact q _ H1 s1 (.of (cI _ _))
theorem Bl {a b:ME}{x y:Expr}{r:List Expr}{pos:Pos} (ha:PE X x (tE X.K cal a)) (hb:PE X (.BoolOp .Or (y::r) pos) (tE X.K cal b)):PE X (.BoolOp .Or (x::y::r) pos) (tE X.K cal (.or a b)):=by
 refine (AE ha hb).imp λσ H Q q=>?_
 obtain ⟨B,O₀,O,ρ,v,st,e1,q⟩:=q
 rw [ev] at e1
 simp only [Option.bind_eq_some_iff] at e1
 obtain ⟨c,⟨z,e1,e2⟩,e3⟩:=e1
 cases z <;> simp only [aJ,Option.some.injEq,reduceCtorEq] at e2
 subst e2
 refine ⟨B,O₀,O,ρ,_,st,e1,λux H1 s1 g1=>⟨_,g1.1.bl,?_⟩⟩
 split at e3
 ·rename_i h
  rw [if_pos h]
  cases e3
  exact q _ H1 s1 (.of (cI _ _))
 ·rename_i h
  rw [if_neg h]
  simp only [Option.bind_eq_some_iff,Option.map_eq_some_iff] at e3
  obtain ⟨z',e3,c',e4,rfl⟩:=e3
  cases z' <;> simp only [aJ,Option.some.injEq,reduceCtorEq] at e4
  subst e4
  exact ⟨B,O₀,O,ρ,_,st.mono s1,e3,λu H2 s2 g2=>q u H2 (s1.trans s2) (by rw [g2.1.bl];exact .of (cI _ _))⟩
theorem x5 {op:BoolOp}{vs:List Expr}{pos:Pos}{t:TT} (h:PT X (.BoolOp op vs pos) t):PW X (.BoolOp op vs pos) t:=λw pins s σ H Q I q=>by
 have:=h pins s σ H Q I q
 rw [show PySem.isTrue (.BoolOp op vs pos) X.env w=PySem.isTrue (.BoolOp op vs pos) X.env (eval (.BoolOp op vs pos) X.env) from rfl]
 exact this
theorem x6 {a b:ME}{x y:Expr}{r:List Expr}{pos:Pos} (ha:PT X x (tT X.K cal a)) (hb:PW X (.BoolOp .And (y::r) pos) (tT X.K cal b)):PT X (.BoolOp .And (x::y::r) pos) (tT X.K cal (.and a b)):=by
 refine (yj ha hb).pt.imp λσ H Q q=>?_
 obtain ⟨B,O₀,O,ρ,v,st,e1,q⟩:=q
 simp only [evB,ev,Option.bind_eq_some_iff] at e1
 obtain ⟨w,⟨c,⟨z,e1,e2⟩,e3⟩,e4⟩:=e1
 refine ⟨B,O₀,O,ρ,c,st,by simp [evB,e1,e2],λH1 s1=>?_⟩
 split at e3
 ·rename_i h
  rw [if_pos h]
  simp only [Option.bind_eq_some_iff,Option.map_eq_some_iff] at e3
  obtain ⟨z',e3,c',e5,rfl⟩:=e3
  simp only [aJ,Option.some.injEq] at e4
  subst e4
  exact ⟨B,O₀,O,ρ,_,st.mono s1,by simp [evB,e3,e5],λH2 s2=>q H2 (s1.trans s2)⟩
 ·rename_i h
  rw [if_neg h]
  cases e3
  cases e4
  exact q H1 s1
theorem Bm {a b:ME}{x y:Expr}{r:List Expr}{pos:Pos} (ha:PT X x (tT X.K cal a)) (hb:PW X (.BoolOp .Or (y::r) pos) (tT X.K cal b)):PT X (.BoolOp .Or (x::y::r) pos) (tT X.K cal (.or a b)):=by
 refine (AB ha hb).pt.imp λσ H Q q=>?_
 obtain ⟨B,O₀,O,ρ,v,st,e1,q⟩:=q
 simp only [evB,ev,Option.bind_eq_some_iff] at e1
 obtain ⟨w,⟨c,⟨z,e1,e2⟩,e3⟩,e4⟩:=e1
 refine ⟨B,O₀,O,ρ,c,st,by simp [evB,e1,e2],λH1 s1=>?_⟩
 split at e3
 ·rename_i h
  rw [if_pos h]
  cases e3
  cases e4
  exact q H1 s1
 ·rename_i h
  rw [if_neg h]
  simp only [Option.bind_eq_some_iff,Option.map_eq_some_iff] at e3
  obtain ⟨z',e3,c',e5,rfl⟩:=e3
  simp only [aJ,Option.some.injEq] at e4
  subst e4
  exact ⟨B,O₀,O,ρ,_,st.mono s1,by simp [evB,e3,e5],λH2 s2=>q H2 (s1.trans s2)⟩
theorem Bn {c a b:ME}{t x y:Expr}{pos:Pos} (hc:PT X t (tT X.K cal c)) (ha:PE X x (tE X.K cal a)) (hb:PE X y (tE X.K cal b)) (na:ax a=false) (nb:ax b=false):PE X (.IfExp t x y pos) (tE X.K cal (.ite c a b)):=by
 refine (sH hc ha hb).imp λσ H Q q=>?_
 obtain ⟨B,O₀,O,ρ,v,st,e1,q⟩:=q
 rw [ev] at e1
 simp only [Option.bind_eq_some_iff] at e1
 obtain ⟨k',e1,e3⟩:=e1
 refine ⟨B,O₀,O,ρ,k',st,by simpa [evB,Option.bind_eq_some_iff] using e1,λH1 s1=>?_⟩
 split at e3
 ·rename_i h
  rw [if_pos h]
  exact ⟨B,O₀,O,ρ,v,st.mono s1,e3,λu H2 s2 g2=>q u H2 (s1.trans s2) (.of (g2.2 na))⟩
 ·rename_i h
  rw [if_neg h]
  exact ⟨B,O₀,O,ρ,v,st.mono s1,e3,λu H2 s2 g2=>q u H2 (s1.trans s2) (.of (g2.2 nb))⟩
theorem Bo {c a b:ME}{t x y:Expr}{pos:Pos} (hc:PT X t (tT X.K cal c)) (ha:PT X x (tT X.K cal a)) (hb:PT X y (tT X.K cal b)):PT X (.IfExp t x y pos) (tT X.K cal (.ite c a b)):=by
 intro pins s σ H Q I q
 obtain ⟨B,O₀,O,ρ,v,st,e1,q⟩:=q
 simp only [evB,ev,Option.bind_eq_some_iff] at e1
 obtain ⟨w,⟨k',e1,e3⟩,e4⟩:=e1
 refine isTrue_IfExp (thn (hc pins s σ H (λb H1=>b=k'/\ae H H1) I ⟨B,O₀,O,ρ,k',st,by simpa [evB,Option.bind_eq_some_iff] using e1,λH1 s1=>⟨rfl,s1⟩⟩) λb s1 ⟨H1,I1,eb,hs⟩=>?_)
 subst eb
 split at e3
 ·rename_i h
  subst h
  exact ha pins s1 σ H1 Q I1 ⟨B,O₀,O,ρ,v,st.mono hs,by simp [evB,e3,e4],λH2 s2=>q H2 (hs.trans s2)⟩
 ·rename_i h
  have:b=false:=by cases b <;> simp at h ⊢
  subst this
  exact hb pins s1 σ H1 Q I1 ⟨B,O₀,O,ρ,v,st.mono hs,by simp [evB,e3,e4],λH2 s2=>q H2 (hs.trans s2)⟩
theorem Bp {op:Cp}{a b:ME}{l r:Expr}{pos:Pos} (g:Gf X T k cal) (ha:PE X l (tE X.K cal a)) (hb:PE X r (tE X.K cal b)) (hm:behindInMarks (eQ op) r=false):PE X (.Compare l [eQ op] [r] pos) (tE X.K cal (.cmp op a b))/\PT X (.Compare l [eQ op] [r] pos) (tT X.K cal (.cmp op a b)):=by
 refine ⟨(pU (fL g.units op) ha hb hm).imp λσ H Q q=>?_,(pV (fL g.units op) ha hb hm).imp λσ H Q q=>?_⟩
 ·obtain ⟨B,O₀,O,ρ,v,st,e1,q⟩:=q
  rw [ev] at e1
  simp only [Option.bind_eq_some_iff,Option.map_eq_some_iff] at e1
  obtain ⟨x,e1,y,e2,c,e3,rfl⟩:=e1
  exact ⟨B,O₀,O,ρ,x,st,e1,λux H1 s1 g1=>⟨B,O₀,O,ρ,y,st.mono s1,e2,λuy H2 s2 g2=>⟨O,x,y,c,g1.1.mono s2,g2.1,e3,q _ H2 (s1.trans s2) (.of (cI _ _))⟩⟩⟩
 ·obtain ⟨B,O₀,O,ρ,v,st,e1,q⟩:=q
  simp only [evB,ev,Option.bind_eq_some_iff,Option.map_eq_some_iff] at e1
  obtain ⟨w,⟨x,e1,y,e2,c,e3,rfl⟩,e4⟩:=e1
  simp only [aJ,Option.some.injEq] at e4
  subst e4
  exact ⟨B,O₀,O,ρ,x,st,e1,λux H1 s1 g1=>⟨B,O₀,O,ρ,y,st.mono s1,e2,λuy H2 s2 g2=>⟨O,x,y,c,g1.1.mono s2,g2.1,e3,_,rfl,q H2 (s1.trans s2)⟩⟩⟩
theorem w9 {op op':Cp}{a b c:ME}{l m r:Expr}{pos:Pos} (g:Gf X T k cal) (ha:PE X l (tE X.K cal a)) (hb:PE X m (tE X.K cal b)) (hc:PE X r (tE X.K cal c)) (hm:lastMarks [eQ op,eQ op'] [m,r]=false) :
  PE X (.Compare l [eQ op,eQ op'] [m,r] pos) (tE X.K cal (.chain op op' a b c))/\PT X (.Compare l [eQ op,eQ op'] [m,r] pos) (tT X.K cal (.chain op op' a b c)):=by
 refine ⟨(sO (fL g.units op) (fL g.units op') ha hb hc hm).imp λσ H Q q=>?_,(sP (fL g.units op) (fL g.units op') ha hb hc hm).imp λσ H Q q=>?_⟩
 ·obtain ⟨B,O₀,O,ρ,v,st,e1,q⟩:=q
  rw [ev] at e1
  simp only [Option.bind_eq_some_iff] at e1
  obtain ⟨x,e1,y,e2,c',e3,e4⟩:=e1
  refine ⟨B,O₀,O,ρ,x,st,e1,λux H1 s1 g1=>⟨B,O₀,O,ρ,y,st.mono s1,e2,λuy H2 s2 g2=>⟨O,x,y,c',g1.1.mono s2,g2.1,e3,_,rfl,?_⟩⟩⟩
  split at e4
  ·rename_i h
   rw [if_pos h]
   simp only [Option.bind_eq_some_iff,Option.map_eq_some_iff] at e4
   obtain ⟨z,e4,d,e5,rfl⟩:=e4
   exact ⟨B,O₀,O,ρ,z,(st.mono s1).mono s2,e4,λuz H3 s3 g3=>⟨O,y,z,d,g2.1.mono s3,g3.1,e5,q _ H3 ((s1.trans s2).trans s3) (.of (cI _ _))⟩⟩
  ·rename_i h
   rw [if_neg h]
   cases e4
   exact q _ H2 (s1.trans s2) (.of (cI _ _))
 ·obtain ⟨B,O₀,O,ρ,v,st,e1,q⟩:=q
  simp only [evB,ev,Option.bind_eq_some_iff] at e1
  obtain ⟨w,⟨x,e1,y,e2,c',e3,e4⟩,e6⟩:=e1
  refine ⟨B,O₀,O,ρ,x,st,e1,λux H1 s1 g1=>⟨B,O₀,O,ρ,y,st.mono s1,e2,λuy H2 s2 g2=>⟨O,x,y,c',g1.1.mono s2,g2.1,e3,_,rfl,?_⟩⟩⟩
  split at e4
  ·rename_i h
   rw [if_pos h]
   simp only [Option.bind_eq_some_iff,Option.map_eq_some_iff] at e4
   obtain ⟨z,e4,d,e5,rfl⟩:=e4
   simp only [aJ,Option.some.injEq] at e6
   subst e6
   exact ⟨B,O₀,O,ρ,z,(st.mono s1).mono s2,e4,λuz H3 s3 g3=>⟨O,y,z,d,g2.1.mono s3,g3.1,e5,_,rfl,q H3 ((s1.trans s2).trans s3)⟩⟩
  ·rename_i h
   rw [if_neg h]
   cases e4
   cases e6
   exact ⟨_,rfl,q H2 (s1.trans s2)⟩
theorem Bq {ms:List ME}{es:List Expr}{j:Nat}{pos:Pos} (h:PA X es (tEs X.K cal ms)) (hb:(ms.all λm=>!ax m)=true):PE X (.Tuple es j pos) (tE X.K cal (.tup ms)):=by
 refine (yB h).imp λσ H Q q=>?_
 obtain ⟨B,O₀,O,ρ,v,st,e1,q⟩:=q
 rw [ev] at e1
 simp only [Option.bind_eq_some_iff] at e1
 obtain ⟨vs,e1,e2⟩:=e1
 split at e2
 ·rename_i hl
  cases e2
  refine ⟨B,O₀,O,ρ,vs,st,e1,λus H1 s1 g1=>⟨?_,λp hp=>?_⟩⟩
  ·rw [<- (g1.2 hb).length];exact eR hl
  ·exact q _ _ (s1.trans (a_ hp _)) (.of (hX (bu s1 st.here) hp (g1.2 hb)))
 ·cases e2
theorem x9 {ms:List ME}{es:List Expr}{pos:Pos} (h:PA X es (tEs X.K cal ms)) (hb:(ms.all λm=>!ax m)=true):PE X (.List es pos) (tF X.K cal (.lst ms)):=by
 refine (lR h).imp λσ H Q q=>?_
 obtain ⟨B,O₀,O,ρ,xs,st,e1,q⟩:=q
 rw [ev] at e1
 simp only [Option.bind_eq_some_iff] at e1
 obtain ⟨vs,e1,e2⟩:=e1
 split at e2
 ·rename_i hl
  cases e2
  refine ⟨B,O₀,O,ρ,xs,st,e1,λus H1 s1 g1=>⟨?_,λp hp=>?_⟩⟩
  ·rw [<- (g1.2 hb).length];exact eR hl
  ·refine q p us _ (s1.trans (a_ hp _)) (s1.free hp) aj ?_
   rw [ie (List.mem_cons_self)]
   refine Reps.mono (bf (ae.refl H1) λb hb=>?_) _ (g1.2 hb)
   rcases List.mem_cons.mp hb with rfl|hb
   ·exact .inr hp
   ·exact .inl hb
 ·cases e2
theorem Br {a i:ME}{v s:Expr}{pos:Pos} (ha:PE X v (tE X.K cal a)) (hi:PE X s (tE X.K cal i)) (hs:cw s=true):PE X (.Subscript v s pos) (tE X.K cal (.idx a i)):=by
 refine (sX y1 ha hi (o_ hs)).imp λσ H Q q=>?_
 obtain ⟨B,O₀,O,ρ,v,st,e1,q⟩:=q
 rw [ev] at e1
 simp only [Option.bind_eq_some_iff] at e1
 obtain ⟨x,e1,y,e2,e3⟩:=e1
 exact ⟨B,O₀,O,ρ,x,st,e1,λux H1 s1 g1=>⟨B,O₀,O,ρ,y,st.mono s1,e2,λuy H2 s2 g2=>⟨O,x,y,v,bu (s1.trans s2) st.here,g1.1.mono s2,g2.1,e3,λu H3 s3 r=>q u H3 ((s1.trans s2).trans s3) (.of r)⟩⟩⟩
noncomputable def tB1 (K:PySem.W.Frag) (cal:Cal) (me:ME):TO:=λσ H Q=>∃ B O₀ O ρ o,aD K B O₀ O H ρ σ/\((ev cal me ρ).bind λv=>bnd me v)=some o/\∀ H',ae H H'->Q o H'
theorem uG {m:ME} (h:eI m=true):PO X none (tB1 X.K cal m):=by
 have e:m=.cst .non:=by
  unfold eI at h
  split at h
  ·rfl
  ·cases h
 subst e
 intro pins s σ H Q I q
 obtain ⟨B,O₀,O,ρ,o,st,e1,q⟩:=q
 simp only [ev,Option.bind_some,bnd,Option.some.injEq] at e1
 subst e1
 exact wj pins s σ H Q I (q H (ae.refl H))
theorem uH {m:ME}{l:Expr} (h:PE X l (tE X.K cal m)) (hn:eI m=false):PO X (some l) (tB1 X.K cal m):=by
 intro pins s σ H Q I q
 obtain ⟨B,O₀,O,ρ,o,st,e1,q⟩:=q
 simp only [Option.bind_eq_some_iff] at e1
 obtain ⟨v,e1,e2⟩:=e1
 obtain ⟨i,rfl,rfl⟩:∃ i,v=.int i/\o=some i:=by
  unfold bnd at e2
  split at e2
  ·simp [eI] at hn
  ·cases e2;exact ⟨_,rfl,rfl⟩
  ·cases e2
 exact wk h pins s σ H Q I ⟨B,O₀,O,ρ,_,st,e1,λu H' s' g=>⟨i,g.1.int,q H' s'⟩⟩
theorem w_ {a lo hi:ME}{v:Expr}{l u:Option Expr}{p2 pos:Pos} (ha:PE X v (tE X.K cal a)) (hl:PO X l (tB1 X.K cal lo)) (hu:PO X u (tB1 X.K cal hi)):PE X (.Subscript v (.Slice l u none p2) pos) (tE X.K cal (.slice a lo hi)):=by
 refine (sW y3 ha hl hu).imp λσ H Q q=>?_
 obtain ⟨B,O₀,O,ρ,w,st,e1,q⟩:=q
 rw [ev,Option.bind_eq_some_iff] at e1
 obtain ⟨x,e1,e2⟩:=e1
 rw [Option.bind_eq_some_iff] at e2
 obtain ⟨lo',e2,e3⟩:=e2
 rw [Option.bind_eq_some_iff] at e3
 obtain ⟨hi',e3,e4⟩:=e3
 exact ⟨B,O₀,O,ρ,x,st,e1,λux H1 s1 g1=>⟨B,O₀,O,ρ,lo',st.mono s1,e2,λH2 s2=>⟨B,O₀,O,ρ,hi',(st.mono s1).mono s2,e3,λH3 s3 =>
  ⟨O,x,w,bu ((s1.trans s2).trans s3) st.here,g1.1.mono (s2.trans s3),e4,λu H4 s4 r=>q u H4 (((s1.trans s2).trans s3).trans s4) (.of r)⟩⟩⟩⟩
theorem uI {f:Blt}{ms:List ME}{x:Str}{e:Expr}{es:List Expr}{p pos:Pos}{id:String} (hc:bJ X (.builtin id) (RBM X.K (av f))) (hg:glB X.env.scope x=true) (hm:X.mg x=none) (hv:bootBuiltins x=some (.builtin id)) (hn:x ≠ "__name__") (hd:(x == ("__debug__":Str))=false)
  (ha:PA X (e::es) (tEs X.K cal ms)) (hs:(e::es).all am=true):PE X (.Call (.Name x p) (e::es) [] pos) (tE X.K cal (.blt f ms)):=by
 simp only [List.all_cons,Bool.and_eq_true] at hs
 refine (fF hc (eT hg) hm hv ha hn hd (bj hs.1 es _) (bm hs.2)).imp λσ H Q q=>?_
 obtain ⟨B,O₀,O,ρ,v,st,e1,q⟩:=q
 rw [ev,Option.bind_eq_some_iff] at e1
 obtain ⟨vs,e1,e2⟩:=e1
 exact ⟨B,O₀,O,ρ,vs,st,e1,λus H1 s1 g1=>⟨O,vs,v,bu s1 st.here,g1.1,e2,λu H2 s2 r=>q u H2 (s1.trans s2) (.of r)⟩⟩
theorem uJ {f:Blt}{ms:List ME}{x:Str}{e:Expr}{es:List Expr}{p pos:Pos}{id:String} (hc:bJ X (.type id) (RBM X.K (av f))) (hg:glB X.env.scope x=true) (hm:X.mg x=none) (hv:bootBuiltins x=some (.type id)) (hn:x ≠ "__name__") (hd:(x == ("__debug__":Str))=false)
  (ha:PA X (e::es) (tEs X.K cal ms)) (hs:(e::es).all am=true):PE X (.Call (.Name x p) (e::es) [] pos) (tE X.K cal (.blt f ms)):=by
 simp only [List.all_cons,Bool.and_eq_true] at hs
 refine (fS hc (eT hg) hm hv ha hn hd (bj hs.1 es _) (bm hs.2)).imp λσ H Q q=>?_
 obtain ⟨B,O₀,O,ρ,v,st,e1,q⟩:=q
 rw [ev,Option.bind_eq_some_iff] at e1
 obtain ⟨vs,e1,e2⟩:=e1
 exact ⟨B,O₀,O,ρ,vs,st,e1,λus H1 s1 g1=>⟨O,vs,v,bu s1 st.here,g1.1,e2,λu H2 s2 r=>q u H2 (s1.trans s2) (.of r)⟩⟩
theorem lm {f:Blt}{ms:List ME}{σ:St}{H:Hp}{Q:VK}{K:PySem.W.Frag} (q:tF K cal (.blt f ms) σ H Q):tCB (RBF K (av f)) (tEs K cal ms) σ H Q:=by
 obtain ⟨B,O₀,O,ρ,xs,st,e1,q⟩:=q
 rw [ev,Option.bind_eq_some_iff] at e1
 obtain ⟨vs,e1,e2⟩:=e1
 refine ⟨B,O₀,O,ρ,vs,st,e1,λus H1 s1 g1=>⟨O,vs,xs,bu s1 st.here,g1.1,e2,λl ws hl r=>q l ws _ (s1.trans (a_ hl _)) (s1.free hl) aj ?_⟩⟩
 rw [ie (List.mem_cons_self)]
 refine Reps.mono (bf (ae.refl H1) λb hb=>?_) _ r
 rcases List.mem_cons.mp hb with rfl|hb
 ·exact .inr hl
 ·exact .inl hb
theorem za {f:Blt}{ms:List ME}{x:Str}{e:Expr}{es:List Expr}{p pos:Pos}{id:String} (hc:bJ X (.builtin id) (RBF X.K (av f))) (hg:glB X.env.scope x=true) (hm:X.mg x=none) (hv:bootBuiltins x=some (.builtin id)) (hn:x ≠ "__name__") (hd:(x == ("__debug__":Str))=false)
  (ha:PA X (e::es) (tEs X.K cal ms)) (hs:(e::es).all am=true):PE X (.Call (.Name x p) (e::es) [] pos) (tF X.K cal (.blt f ms)):=by
 simp only [List.all_cons,Bool.and_eq_true] at hs
 exact (fF hc (eT hg) hm hv ha hn hd (bj hs.1 es _) (bm hs.2)).imp λσ H Q q=>lm q
theorem xa {f:Blt}{ms:List ME}{x:Str}{e:Expr}{es:List Expr}{p pos:Pos}{id:String} (hc:bJ X (.type id) (RBF X.K (av f))) (hg:glB X.env.scope x=true) (hm:X.mg x=none) (hv:bootBuiltins x=some (.type id)) (hn:x ≠ "__name__") (hd:(x == ("__debug__":Str))=false)
  (ha:PA X (e::es) (tEs X.K cal ms)) (hs:(e::es).all am=true):PE X (.Call (.Name x p) (e::es) [] pos) (tF X.K cal (.blt f ms)):=by
 simp only [List.all_cons,Bool.and_eq_true] at hs
 exact (fS hc (eT hg) hm hv ha hn hd (bj hs.1 es _) (bm hs.2)).imp λσ H Q q=>lm q
theorem zb {f:Nat}{ms:List ME}{x:Str}{es:List Expr}{p pos:Pos} (g:Gf X T k cal) (hf:T.fs[f]?=some x) (hg:glB X.env.scope x=true) (hn:aq x=true) (ha:PA X es (tAs X.K cal ms)) (hs:es.all am=true) (hl:ms.length=es.length):PE X (.Call (.Name x p) es [] pos) (tE X.K cal (.call f ms)):=by
 obtain ⟨fa,fd,ps,h1,h2,h3,F,_⟩:=g.fns f x hf hn
 have key:∀ σ H Q,tE X.K cal (.call f ms) σ H Q->sS (spM X.K cal f) [] E0 (tAs X.K cal ms) σ H Q:=λσ H Q q=>by
  obtain ⟨B,O₀,O,ρ,v,st,e1,q⟩:=q
  rw [ev,Option.bind_eq_some_iff] at e1
  obtain ⟨vs,e1,e2⟩:=e1
  refine ⟨B,O₀,O,ρ,vs,st,e1,λus H1 s1 g1=>⟨O,vs,v,bu s1 st.here,?_,e2,λu H2 s2 r=>q u H2 (s1.trans s2) (.of r)⟩⟩
  rw [List.append_nil]
  exact g1
 cases es with
 | nil =>
  refine (sT F g.room (eT hg) h1 h2 h3 .nil iX (jo hn).1).imp λσ H Q q=>?_
  obtain ⟨B,O₀,O,ρ,vs,st,e1,q⟩:=key σ H Q q
  cases ms with
  | nil =>
   simp only [evA,Option.some.injEq] at e1
   subst e1
   exact q [] H (ae.refl H) .nil
  | cons m ms=>simp at hl
 | cons e es =>
  simp only [List.all_cons,Bool.and_eq_true] at hs
  exact (wf F g.room (eT hg) h1 h2 h3 .nil iX ha (jo hn).1 (bj hs.1 es _) (bm hs.2)).imp key
end
end MM
namespace MM
open PySem PySem.Spec PyProof.Rows L2
section
variable {K:PySem.W.Frag}{H:Hp}{O:List Addr}
end
section
variable {X:Cx}{pins:List (Addr × Obj)}{σ:St}{H:Hp}{s:Shared}
end
section
variable {X:Cx}{T:Tab}{k:Nat}{cal:Cal}
end
end MM
namespace MM
open PySem PySem.Spec PyProof.Rows L2
theorem uK:bootBuiltins "len"=some (.builtin "len"):=by decide +kernel
theorem nL:bootBuiltins "tuple"=some (.type "tuple"):=by decide +kernel
theorem xb:bootBuiltins "list"=some (.type "list"):=by decide +kernel
theorem lp:bootBuiltins "sorted"=some (.builtin "sorted"):=by decide +kernel
theorem zc:bootBuiltins "any"=some (.builtin "any"):=by decide +kernel
theorem zd:bootBuiltins "all"=some (.builtin "all"):=by decide +kernel
theorem ze:bootBuiltins "int"=some (.type "int"):=by decide +kernel
theorem xc:bootBuiltins "bool"=some (.type "bool"):=by decide +kernel
theorem zf:bootBuiltins "str"=some (.type "str"):=by decide +kernel
theorem uL:bootBuiltins "set"=some (.type "set"):=by decide +kernel
theorem kO:bootBuiltins "isinstance"=some (.builtin "isinstance"):=by decide +kernel
section
variable {X:Cx}{T:Tab}{k:Nat}{cal:Cal}
theorem zg {f:Blt}{c:String}{m:ME}{e:Expr}{t:Str}{p p2 pos:Pos} (g:Gf X T k cal) (hf:cr f=some c) (hg:glB X.env.scope "isinstance"=true) (ht:t=(c:Str)) (hgt:glB X.env.scope t=true)
  (hbt:bootBuiltins c=some (.type c)) (hmt:X.mg c=none) (hn:(c:Str) ≠ "__name__") (hd:((c:Str) == ("__debug__":Str))=false) (h:PE X e (tE X.K cal m)) (hs:am e=true):PE X (.Call (.Name "isinstance" p) [e,.Name t p2] [] pos) (tE X.K cal (.blt f [m])):=by
 subst ht
 refine (fF (y6 hf) (eT hg) (g.blt "isinstance" (by decide)) kO (bC h (bC (v4 (v:=.ty c) (eT hgt) hmt hbt rfl hn hd) cn rfl) (bj hs _ _)) (by decide) (by decide) (bj hs _ _) rfl).imp λσ H Q q=>?_
 obtain ⟨B,O₀,O,ρ,v,st,e1,q⟩:=q
 rw [ev,Option.bind_eq_some_iff] at e1
 obtain ⟨vs,e1,e2⟩:=e1
 obtain ⟨w,rfl,e3⟩:=mw e1
 have e5:isD w=false/\v=.bl (isT f w):=by
  cases hd:isD w with
  | true=>cases f <;> simp only [cr,reduceCtorEq] at hf <;> (simp only [av,ce,gD,gh,fH,hd] at e2;cases e2)
  | false=>cases f <;> simp only [cr,reduceCtorEq] at hf <;> (simp only [av,ce,gD,gh,fH,hd,Bool.false_eq_true,if_false,Option.some.injEq] at e2;exact ⟨rfl,e2.symm⟩)
 obtain ⟨e5,rfl⟩:=e5
 refine ⟨B,O₀,O,ρ,w,st,e3,λu H1 s1 g1=>⟨O,w,u,rfl,e5,g1.1,q _ H1 s1 (.of (cI _ _))⟩⟩
theorem nM {m:ME}{e:Expr}{x y:Str}{p p2 pos pos2:Pos} (g:Gf X T k cal) (hx:x=("sorted":Str)) (hy:y=("set":Str)) (hg:glB X.env.scope x=true) (hg2:glB X.env.scope y=true) (h:PE X e (tE X.K cal m)) (hs:am e=true):PE X (.Call (.Name x p) [.Call (.Name y p2) [e] [] pos2] [] pos) (tF X.K cal (.blt .sortedSet [m])):=by
 subst hx hy
 refine (fF (nH g.calm) (eT hg) (g.blt "sorted" (by decide)) lp (bC (fS (x3 g.calm) (eT hg2) (g.blt "set" (by decide)) uL (bC h cn (bj hs _ _)) (by decide) (by decide) (bj hs _ _) rfl) cn rfl) (by decide) (by decide) rfl rfl).imp λσ H Q q=>?_
 obtain ⟨B,O₀,O,ρ,xs,st,e1,q⟩:=q
 rw [ev,Option.bind_eq_some_iff] at e1
 obtain ⟨vs,e1,e2⟩:=e1
 obtain ⟨w,rfl,e3⟩:=mw e1
 simp only [av,ce,gD,gh,fH,Option.bind_eq_some_iff] at e2
 obtain ⟨ys,e4,ns,e5,e6⟩:=e2
 split at e6
 ·rename_i hc
  cases e6
  refine ⟨B,O₀,O,ρ,w,st,e3,λu H1 s1 g1=>⟨O,w,u,ns,rfl,g1.1,by simp [e4,e5],hc.1,λl hl=>⟨l,_,rfl,aj,?_,λp' hp'=>?_⟩⟩⟩
  ·rw [uq];exact hc.2
  ·rw [wY]
   refine q p' _ _ ((s1.trans (a_ hl _)).trans (a_ hp' _)) (s1.free ((a_ hl _).free hp')) aj (.of_ints _)
 ·cases e6
theorem uM {m:ME}{e:Expr}{x y:Str}{p p2 pos pos2:Pos} (g:Gf X T k cal) (hx:x=("len":Str)) (hy:y=("set":Str)) (hg:glB X.env.scope x=true) (hg2:glB X.env.scope y=true) (h:PE X e (tE X.K cal m)) (hs:am e=true):PE X (.Call (.Name x p) [.Call (.Name y p2) [e] [] pos2] [] pos) (tE X.K cal (.blt .lenSet [m])):=by
 subst hx hy
 refine (fF l8 (eT hg) (g.blt "len" (by decide)) uK (bC (fS (x3 g.calm) (eT hg2) (g.blt "set" (by decide)) uL (bC h cn (bj hs _ _)) (by decide) (by decide) (bj hs _ _) rfl) cn rfl) (by decide) (by decide) rfl rfl).imp λσ H Q q=>?_
 obtain ⟨B,O₀,O,ρ,v,st,e1,q⟩:=q
 rw [ev,Option.bind_eq_some_iff] at e1
 obtain ⟨vs,e1,e2⟩:=e1
 obtain ⟨w,rfl,e3⟩:=mw e1
 simp only [av,ce,gD,gh,fH,Option.bind_eq_some_iff] at e2
 obtain ⟨ys,e4,ns,e5,e6⟩:=e2
 split at e6
 ·rename_i hc
  cases e6
  refine ⟨B,O₀,O,ρ,w,st,e3,λu H1 s1 g1=>⟨O,w,u,ns,rfl,g1.1,by simp [e4,e5],hc,λl hl=>⟨l,_,rfl,aj,?_⟩⟩⟩
  rw [uq]
  exact q _ _ (s1.trans (a_ hl _)) (.of (dA _ _))
 ·cases e6
theorem zh {m:ME}{b:Bool}{o:Expr}{x:Str}{j:Nat}{p pos:Pos} (g:Gf X T k cal) (hx:x=if b=true then ("weaver":Str) else ("moth":Str)) (h:PE X o (tE X.K cal m)):PE X (.Subscript o (.Constant (.str x) j p) pos) (tE X.K cal (.datL m b)):=by
 have hu:X.A.units + 1 < cLine:=by have:=g.units;omega
 refine (ji hu h gu (λ_ _=>rfl)).imp λσ H Q q=>?_
 obtain ⟨B,O₀,O,ρ,v,st,e1,q⟩:=q
 rw [ev,Option.bind_eq_some_iff] at e1
 obtain ⟨w,e1,e2⟩:=e1
 cases w with
 | dL w m =>
  cases e2
  refine ⟨B,O₀,O,ρ,_,st,e1,λu H1 s1 g1=>?_⟩
  have r:=g1.1.dL
  rw [Rep] at r
  obtain ⟨a,l1,l2,us1,us2,rfl,h1,h2,h3,h4,h5⟩:=r
  have h1:=aW H1 O _ _ h1
  subst hx
  cases b with
  | true=>exact ⟨a,.ref l1,rfl,.inl ⟨_,Sum.inr "weaver",.inl h1,rfl,rfl⟩,q _ H1 s1 (.of (by rw [if_pos rfl,Rep];exact ⟨l1,us1,rfl,h2,h3⟩))⟩
  | false=>exact ⟨a,.ref l2,rfl,.inl ⟨_,Sum.inr "moth",.inl h1,rfl,rfl⟩,q _ H1 s1 (.of (by rw [if_neg (by decide),Rep];exact ⟨l2,us2,rfl,h4,h5⟩))⟩
 | _=>cases e2
theorem j8 {kpos:Pos}:∀ {kvs:List (Str × Str)}{ks:List (Option Expr)}{vs:List Expr},i5 kvs ks vs=true->PPs X kpos ks vs (kvs.map λp=>(tC (.str p.1),tC (.str p.2)))/\ks.all (·.isSome)=true/\ks.length=vs.length/\ks.length=kvs.length
 | [],[],[],_=>⟨p8,rfl,rfl,rfl⟩
 | p::r,k::ks,v::vs,h=>by
  have h:(k.bind rP == some p.1&&rP v == some p.2&&i5 r ks vs)=true:=h
  obtain ⟨a,h3⟩:=Bool.and_eq_true_iff.mp h
  obtain ⟨h1,h2⟩:=Bool.and_eq_true_iff.mp a
  obtain ⟨q1,q2,q3,q4⟩:=j8 (kpos:=kpos) h3
  cases k with
  | none=>cases h1
  | some k =>
   obtain ⟨j,kp,rfl⟩:=qo (eq_of_beq h1)
   obtain ⟨j2,vp,rfl⟩:=qo (eq_of_beq h2)
   exact ⟨jB gu gu q1,by rw [List.all_cons,q2];rfl,by rw [List.length_cons,List.length_cons,q3],by rw [List.length_cons,List.length_cons,q4]⟩
 | [],_::_,_,h=>by cases h
 | [],[],_::_,h=>by cases h
 | _::_,[],_,h=>by cases h
 | _::_,_::_,[],h=>by cases h
theorem j9 {σ:St}:∀ {kvs:List (Str × Str)}{H:Hp}{Q:List (V × V)->Hp->Prop},Q (kvs.map λp=>(V.str p.1,V.str p.2)) H->lW (kvs.map λp=>(tC (.str p.1),tC (.str p.2))) σ H Q
 | [],_,_,h=>h
 | p::r,H,Q,h=>j9 (kvs:=r) (Q:=λps H3=>Q ((V.str p.1,V.str p.2)::ps) H3) h
theorem zi {kvs:List (Str × Str)}{m:ME}{ks:List (Option Expr)}{vs:List Expr}{i:Expr}{dp pos:Pos} (g:Gf X T k cal) (hd:i5 kvs ks vs=true) (hl:kvs.length <= 15) (h0:kvs.isEmpty=false) (hk:PE X i (tE X.K cal m)) (hs:cw i=true):PE X (.Subscript (.Dict ks vs dp) i pos) (tE X.K cal (.disp kvs m)):=by
 have hu:X.A.units + 1 < cLine:=by have:=g.units;omega
 obtain ⟨q1,q2,q3,q4⟩:=j8 (X:=X) (kpos:=dp) hd
 have hn:ks ≠ []:=λz=>by
  rw [z] at q4
  cases kvs with
  | nil=>cases h0
  | cons _ _=>cases q4
 refine (ji hu (lX q1 q2 q3 hn (by omega)) hk (by cases i <;> first|(intro _ _;rfl)|(simp [cw] at hs))).imp λσ H Q q=>?_
 obtain ⟨B,O₀,O,ρ,v,st,e1,q⟩:=q
 rw [ev,Option.bind_eq_some_iff] at e1
 obtain ⟨w,e1,e2⟩:=e1
 cases w with
 | str x =>
  have f2:(gN (dS [] (gW kvs)) (Sum.inr x)).bind (λv=>match v with|.str y=>some (PV.str y)|_=>none)=some v:=e2
  rw [Option.bind_eq_some_iff] at f2
  obtain ⟨u,f2,e3⟩:=f2
  cases u with
  | str y =>
   cases e3
   intro p hp
   refine j9 ⟨aj,gW kvs,by unfold gW;rw [List.map_map];rfl,by unfold gW;rw [List.length_map];exact hl,?_⟩
   have s1:ae H (upd (upd H p (.dK [])) p (.dK (dS [] (gW kvs)))):=λb o e=>by
    have hb:b ≠ p:=λz=>by rw [z,hp] at e;cases e
    rw [af hb,af hb]
    exact e
   refine ⟨B,O₀,O,ρ,_,st.mono s1,e1,λuy H2 s2 g2=>?_⟩
   have ey:=g2.1.str
   subst ey
   exact ⟨p,V.str y,rfl,.inl ⟨_,Sum.inr x,.inl (s2 _ _ aj),rfl,f2.symm⟩,q _ H2 (s1.trans s2) (.of (jn _ _))⟩
  | _=>cases e3
 | _=>cases e2
theorem nN:∀ {xs:List PV}{ws:List Str},dY xs=some ws->xs=ws.map .str
 | [],_,h=>by simp [dY] at h;subst h;rfl
 | .str i::r,ns,h=>by
  simp only [dY,Option.map_eq_some_iff] at h
  obtain ⟨ms,h1,rfl⟩:=h
  rw [nN h1];rfl
 | .non::_,_,h=>by simp [dY] at h
 | .bl _::_,_,h=>by simp [dY] at h
 | .int _::_,_,h=>by simp [dY] at h
 | .tup _::_,_,h=>by simp [dY] at h
 | .lst _::_,_,h=>by simp [dY] at h
 | .dI _::_,_,h=>by simp [dY] at h
theorem lq {K:PySem.W.Frag}{F:Hp}:∀ {ws:List Str}{us:List V},Reps K F (ws.map .str) us->us=ws.map V.str
 | [],_,h=>by simpa [Reps] using h
 | n::ns,_,h=>by
  rw [List.map_cons,Reps] at h
  obtain ⟨u,r,rfl,q,t⟩:=h
  rw [Rep] at q
  rw [q,lq t];rfl
theorem zj {x:Str}{m:ME}{e:Expr}{j:Nat}{p ap cp:Pos} (h:PE X e (tE X.K cal m)) (hs:am e=true) (hl:(ap.endLine == cp.line)=true):PE X (.Call (.Attribute (.Constant (.str x) j p) "join" ap) [e] [] cp) (tE X.K cal (.join x m)):=by
 refine (mT PySem.F.plainAttrs_str PySem.F.slot_str_join PySem.F.type_str_join wH gu (bC h cn (bj hs _ _)) rfl (by rw [bj hs];rfl) hl (bj hs _ _) rfl).imp λσ H Q q=>?_
 obtain ⟨B,O₀,O,ρ,v,st,e1,q⟩:=q
 rw [ev,Option.bind_eq_some_iff] at e1
 obtain ⟨w,e1,e2⟩:=e1
 cases w with
 | lst xs =>
  have e2:((dY xs).bind λws=>if (ws.map λy=>y.length + x.length).sum <= 1000000 then some (PV.str (Builtin.Str.glued x ws)) else none)=some v:=e2
  rw [Option.bind_eq_some_iff] at e2
  obtain ⟨ws,e3,e4⟩:=e2
  split at e4
  ·rename_i hz
   cases e4
   have e5:=nN e3
   subst e5
   refine ⟨rfl,B,O₀,O,ρ,_,st,e1,λu H1 s1 g1=>?_⟩
   obtain ⟨a,us,rfl,sq,rs⟩:=g1.1.lst
   have e6:=lq rs
   subst e6
   exact ⟨x,a,ws,rfl,rfl,sq,hz,q _ H1 s1 (.of (by rw [Rep]))⟩
  ·cases e4
 | _=>cases e2
end
section
variable {X:Cx}{T:Tab}{k:Nat}{cal:Cal}
theorem nO {k':Sk}{src:List ME}{js:List Nat}{cond elt:ME}:∀ ρ v,ev cal (.comp k' src js cond elt) ρ=some v->∃ xs,v=.lst xs:=λρ v hv=>by
 rw [ev,Option.bind_eq_some_iff] at hv
 obtain ⟨vs,_,hv⟩:=hv
 rw [Option.bind_eq_some_iff] at hv
 obtain ⟨xs,_,hv⟩:=hv
 split at hv
 ·simp only [Option.map_eq_some_iff] at hv
  obtain ⟨ys,_,rfl⟩:=hv
  exact ⟨_,rfl⟩
 ·cases hv
theorem eF {f:Blt} (hf:f=.listOf \/ f=.sorted \/ f=.sortedSet \/ f=.sortedKeys \/ f=.valuesOf) {ms:List ME}:∀ ρ v,ev cal (.blt f ms) ρ=some v->∃ xs,v=.lst xs:=λρ v hv=>by
 rw [ev,Option.bind_eq_some_iff] at hv
 obtain ⟨vs,_,hv⟩:=hv
 rcases hf with rfl|rfl|rfl|rfl|rfl
 ·obtain ⟨x,rfl⟩:=dl hv (.inl rfl)
  simp only [av,ce,gD,gh,fH,Option.map_eq_some_iff] at hv
  obtain ⟨ys,_,rfl⟩:=hv
  exact ⟨_,rfl⟩
 ·obtain ⟨x,rfl⟩:=dl hv (.inl rfl)
  simp only [av,ce,gD,gh,fH,Option.bind_eq_some_iff] at hv
  obtain ⟨ys,_,hv⟩:=hv
  unfold dk at hv
  split at hv
  ·split at hv
   ·cases hv;exact ⟨_,rfl⟩
   ·split at hv
    ·cases hv;exact ⟨_,rfl⟩
    ·simp only [Option.map_eq_some_iff] at hv
     obtain ⟨ts,_,rfl⟩:=hv
     exact ⟨_,rfl⟩
  ·cases hv
 ·obtain ⟨x,rfl⟩:=dl hv (.inr (.inr (.inl rfl)))
  simp only [av,ce,gD,gh,fH,Option.bind_eq_some_iff] at hv
  obtain ⟨ys,_,ns,_,hv⟩:=hv
  split at hv
  ·cases hv;exact ⟨_,rfl⟩
  ·cases hv
 ·obtain ⟨x,rfl⟩:=dl hv (.inl rfl)
  simp only [av,ce] at hv
  split at hv
  ·split at hv
   ·cases hv;exact ⟨_,rfl⟩
   ·cases hv
  ·cases hv
 ·obtain ⟨x,rfl⟩:=dl hv (.inr (.inr (.inr (.inr rfl))))
  simp only [av,ce] at hv
  split at hv
  ·split at hv
   ·cases hv;exact ⟨_,rfl⟩
   ·cases hv
  ·cases hv
theorem ph {ifs:List Expr}{cond:ME}{f:Expr->Bool} (h:j0 f cond ifs=true) (hc:∀ c,f c=true->PT X c (tT X.K cal cond)):PF X ifs (tT X.K cal cond):=by
 match ifs,h with
 | [],h =>
  have e:cond=.cst (.bl true):=by
   simp only [j0] at h
   split at h
   ·rfl
   ·cases h
  subst e
  intro pins s σ H Q I q
  obtain ⟨B,O₀,O,ρ,b,st,e1,q⟩:=q
  simp only [evB,ev,Option.bind_some,aJ,Option.some.injEq] at e1
  subst e1
  exact yK pins s σ H Q I (q H (ae.refl H))
 | [c],h=>exact yL (hc c h)
theorem my {N:List Str}{sc:Scope}{ms:List (Option Str)}{f i:Nat}{ck:List Expr->Bool}{q:Str × Str × List Expr × Pos × Pos} (h:nv N sc ms f i ck q=true):ms[f]?=some (some q.2.1)/\q.2.1 ∈ k7/\ag N sc i q.1=true/\ck q.2.2.1=true/\(q.2.2.2.1.endLine == q.2.2.2.2.line)=true/\decide (q.2.2.1.length < 30)=true:=by
 unfold nv at h
 obtain ⟨a1,h6⟩:=Bool.and_eq_true_iff.mp h
 obtain ⟨a2,h5⟩:=Bool.and_eq_true_iff.mp a1
 obtain ⟨a3,h4⟩:=Bool.and_eq_true_iff.mp a2
 obtain ⟨a4,h3⟩:=Bool.and_eq_true_iff.mp a3
 obtain ⟨a5,h2⟩:=Bool.and_eq_true_iff.mp a4
 exact ⟨eq_of_beq a5,List.contains_iff_mem.mp h2,h3,h4,h5,h6⟩
theorem pi {i:Nat}{x m:Str}{p ap:Pos} (hn:ag X.N X.env.scope i x=true):PE X (.Attribute (.Name x p) m ap) (AU X.K (eX i) m):=yA (bb hn) rfl
theorem mz {K:PySem.W.Frag}{B H:Hp}{O₀ O:List Addr}{ρ:Rho}{σ:St}{i:Nat}{o:List PV × List PV} (st:aD K B O₀ O H ρ σ) (e:gE (ρ[i]?).join=some o):∃ a,σ[i]?=some (some (.ref a))/\e_ K H (ak H O) o.1 o.2 a:=by
 cases hj:(ρ[i]?).join with
 | none=>rw [hj] at e;cases e
 | some m =>
  rw [hj] at e
  cases m with
  | ownO _ fs xs =>
   cases e
   obtain ⟨u,eu,a,l,rfl,q⟩:=aX st hj
   exact ⟨a,eu,q.lent⟩
  | brwO fs xs =>
   cases e
   obtain ⟨u,eu,a,rfl,q⟩:=aX st hj
   exact ⟨a,eu,q.move st.keep (ae.refl _)⟩
  | _=>cases e
theorem pj {K:PySem.W.Frag}{B H:Hp}{O₀ O:List Addr}{ρ:Rho}{σ:St}{i:Nat}{v:PV} (st:aD K B O₀ O H ρ σ) (e:qi (ρ[i]?).join=some v):∃ a fs xs,v=.lst xs/\σ[i]?=some (some (.ref a))/\e_ K B (ak H O) fs xs a:=by
 cases hj:(ρ[i]?).join with
 | none=>rw [hj] at e;cases e
 | some m =>
  rw [hj] at e
  cases m with
  | brwO fs xs =>
   cases e
   obtain ⟨u,eu,a,rfl,q⟩:=aX st hj
   exact ⟨a,fs,xs,rfl,eu,q⟩
  | _=>cases e
theorem Bs {i n:Nat}{x m:Str}{p ap:Pos} (g:Gf X T k cal) (hm:gF[n]?=some m) (hn:ag X.N X.env.scope i x=true):PE X (.Attribute (.Name x p) m ap) (tE X.K cal (.fld i n)):=by
 refine (pi hn).imp λσ H Q q=>?_
 obtain ⟨B,O₀,O,ρ,v,st,e1,q⟩:=q
 rw [ev,Option.bind_eq_some_iff] at e1
 obtain ⟨o,e1,e2⟩:=e1
 obtain ⟨a,ea,C,dx,gs,l,us,h1,h2,_⟩:=mz st e1
 obtain ⟨c1,c2,_⟩:=g.cls C h2.cls
 obtain ⟨u,f1,f2⟩:=h2.fld n m v hm e2
 exact ⟨_,ea,a,C,dx,gs,u,rfl,h1,c1,c2 m (List.mem_of_getElem? hm),f1,q u H (ae.refl H) (.of f2)⟩
theorem zk {i:Nat}{x:Str}{p ap:Pos} (g:Gf X T k cal) (hn:ag X.N X.env.scope i x=true):PE X (.Attribute (.Name x p) ("taken":Str) ap) (tE X.K cal (.fldL i)):=by
 refine (pi hn).imp λσ H Q q=>?_
 obtain ⟨B,O₀,O,ρ,v,st,e1,q⟩:=q
 rw [ev] at e1
 obtain ⟨a,fs,xs,rfl,ea,C,dx,gs,l,us,h1,h2,h3,h4⟩:=pj st e1
 obtain ⟨c1,_,c2⟩:=g.cls C h2.cls
 exact ⟨_,ea,a,C,dx,gs,.ref l,rfl,st.keep _ _ h1,c1,c2,h2.lst,q _ H (ae.refl H) ⟨.inr (.inl ⟨xs,l,us,rfl,rfl,st.keep.seq h3,h4⟩),λz=>by cases z⟩⟩
theorem zl {tg:Expr}{i:Nat}{x:Str}{p ap:Pos} (g:Gf X T k cal) (hn:ag X.N X.env.scope i x=true):PI X tg (.Attribute (.Name x p) ("taken":Str) ap) (tW X.K cal .seq [.fldL i]):=by
 refine (jf (pi hn)).imp λσ H R q=>?_
 obtain ⟨B,O₀,O,ρ,vs,zs,st,e1,e2,q⟩:=q
 obtain ⟨v,rfl,e3⟩:=mw e1
 have e4:a9 v=some zs:=e2
 rw [ev] at e3
 obtain ⟨a,fs,xs,rfl,ea,C,dx,gs,l,us,h1,h2,h3,h4⟩:=pj st e3
 cases e4
 obtain ⟨c1,_,c2⟩:=g.cls C h2.cls
 exact ⟨_,ea,a,C,dx,gs,.ref l,rfl,st.keep _ _ h1,c1,c2,h2.lst,l,rfl,⟨us,st.keep.seq h3⟩,q _ _ (ae.refl H) (ia ((cJ st.keep).seq h3) h4)⟩
theorem zm {i:Nat}{x:Str}{px ap:Pos}{f:Str}{ts:List Expr}{j:Nat}{tp p pos:Pos} (g:Gf X T k cal) (hf:f=("enumerate":Str)) (hg:glB X.env.scope f=true) (hn:ag X.N X.env.scope i x=true):PI X (.Tuple ts j tp) (.Call (.Name f p) [.Attribute (.Name x px) ("taken":Str) ap] [] pos) (tW X.K cal .enm [.fldL i]):=by
 subst hf
 refine (pe (eT hg) (g.blt "enumerate" (by decide)) (pi hn) rfl).imp λσ H R q=>?_
 obtain ⟨B,O₀,O,ρ,vs,zs,st,e1,e2,q⟩:=q
 obtain ⟨v,rfl,e3⟩:=mw e1
 simp only [cm,Option.map_eq_some_iff] at e2
 obtain ⟨ys,e4,rfl⟩:=e2
 rw [ev] at e3
 obtain ⟨a,fs,xs,rfl,ea,C,dx,gs,l,us,h1,h2,h3,h4⟩:=pj st e3
 cases e4
 obtain ⟨c1,_,c2⟩:=g.cls C h2.cls
 exact ⟨_,ea,a,C,dx,gs,.ref l,rfl,st.keep _ _ h1,c1,c2,h2.lst,l,rfl,.inl ⟨⟨us,st.keep.seq h3⟩,q _ _ (ae.refl H) (gH (λH2 s2=>s2.seq ((cJ st.keep).seq h3)) h4)⟩⟩
theorem Bt {neg:Bool}{me:ME}{i:Nat}{l:Expr}{x:Str}{p ap pos:Pos} (g:Gf X T k cal) (ha:PE X l (tE X.K cal me)) (hn:ag X.N X.env.scope i x=true):PE X (.Compare l [eQ (if neg=true then .notIn else .isIn)] [.Attribute (.Name x p) ("taken":Str) ap] pos) (tE X.K cal (.inO neg me i)):=by
 refine (pU (fL g.units _) ha (pi hn) (by cases neg <;> rfl)).imp λσ H Q q=>?_
 obtain ⟨B,O₀,O,ρ,v,st,e1,q⟩:=q
 rw [ev] at e1
 simp only [Option.bind_eq_some_iff,Option.map_eq_some_iff] at e1
 obtain ⟨y,e1,w,e2,c,e3,rfl⟩:=e1
 refine ⟨B,O₀,O,ρ,y,st,e1,λux H1 s1 g1=>?_⟩
 cases hj:(ρ[i]?).join with
 | none=>rw [hj] at e2;cases e2
 | some m =>
  rw [hj] at e2
  cases m with
  | ownO b fs xs =>
   cases e2
   obtain ⟨u,eu,a,ll,rfl,qq⟩:=aX (st.mono s1) hj
   obtain ⟨C,dx,gs,h1,h2⟩:=qq.ob
   obtain ⟨us,h3,h4⟩:=qq.li
   obtain ⟨c1,_,c2⟩:=g.cls C h2.cls
   exact ⟨_,eu,a,C,dx,gs,.ref ll,rfl,h1,c1,c2,h2.lst,O,y,_,c,g1.1,.inr (.inl ⟨xs,ll,us,rfl,rfl,SqL.of h3,h4⟩),e3,q _ H1 s1 (.of (cI _ _))⟩
  | _=>cases e2
theorem zn {neg:Bool}{me:ME}{i:Nat}{l:Expr}{x:Str}{p ap pos:Pos} (g:Gf X T k cal) (ha:PE X l (tE X.K cal me)) (hn:ag X.N X.env.scope i x=true):PT X (.Compare l [eQ (if neg=true then .notIn else .isIn)] [.Attribute (.Name x p) ("taken":Str) ap] pos) (tT X.K cal (.inO neg me i)):=by
 refine (pV (fL g.units _) ha (pi hn) (by cases neg <;> rfl)).imp λσ H Q q=>?_
 obtain ⟨B,O₀,O,ρ,v,st,e1,q⟩:=q
 rw [evB,ev] at e1
 simp only [Option.bind_eq_some_iff,Option.map_eq_some_iff] at e1
 obtain ⟨b,⟨y,e1,w,e2,c,e3,rfl⟩,e4⟩:=e1
 simp only [aJ,Option.some.injEq] at e4
 subst e4
 refine ⟨B,O₀,O,ρ,y,st,e1,λux H1 s1 g1=>?_⟩
 cases hj:(ρ[i]?).join with
 | none=>rw [hj] at e2;cases e2
 | some m =>
  rw [hj] at e2
  cases m with
  | ownO b fs xs =>
   cases e2
   obtain ⟨u,eu,a,ll,rfl,qq⟩:=aX (st.mono s1) hj
   obtain ⟨C,dx,gs,h1,h2⟩:=qq.ob
   obtain ⟨us,h3,h4⟩:=qq.li
   obtain ⟨c1,_,c2⟩:=g.cls C h2.cls
   exact ⟨_,eu,a,C,dx,gs,.ref ll,rfl,h1,c1,c2,h2.lst,O,y,_,c,g1.1,.inr (.inl ⟨xs,ll,us,rfl,rfl,SqL.of h3,h4⟩),e3,_,rfl,q H1 s1⟩
  | _=>cases e2
theorem zo {neg:Bool}{i:Nat}{N:List Str}{sc:Scope}{ck:Expr->Bool}{e:Expr}{z:Expr × CmpOp × Expr} (e1:t7 e=some z) (h:(onO (jY z.2.2) λq=>z.2.1 == (if neg=true then CmpOp.NotIn else CmpOp.In)&&ck z.1&&q.2 == ("taken":Str)&&ag N sc i q.1)=true):ck z.1=true/\∃ (x:Str) (p ap pos:Pos),ag N sc i x=true/\e=.Compare z.1 [eQ (if neg=true then .notIn else .isIn)] [.Attribute (.Name x p) ("taken":Str) ap] pos:=by
 obtain ⟨q,e2,h⟩:=aM h
 obtain ⟨pos,rfl⟩:=wN e1
 obtain ⟨p,ap,e3⟩:=gZ e2
 obtain ⟨a1,h4⟩:=Bool.and_eq_true_iff.mp h
 obtain ⟨a2,h3⟩:=Bool.and_eq_true_iff.mp a1
 obtain ⟨h1,h2⟩:=Bool.and_eq_true_iff.mp a2
 refine ⟨h2,q.1,p,ap,pos,h4,?_⟩
 rw [e3,eq_of_beq h1,eq_of_beq h3]
 cases neg <;> rfl
theorem zp {neg:Bool}{me:ME}{i:Nat}{e l:Expr}{c:Prop} (g:Gf X T k cal) (h:c/\∃ (x:Str) (p ap pos:Pos),ag X.N X.env.scope i x=true/\e=.Compare l [eQ (if neg=true then .notIn else .isIn)] [.Attribute (.Name x p) ("taken":Str) ap] pos) (ha:PE X l (tE X.K cal me)):PE X e (tE X.K cal (.inO neg me i))/\PT X e (tT X.K cal (.inO neg me i)):=by
 obtain ⟨_,x,p,ap,pos,h1,rfl⟩:=h
 exact ⟨Bt g ha h1,zn g ha h1⟩
theorem jq {x m:Str}{es:List Expr}{p ap pos:Pos}{env:Env} (hs:es.all am=true) (hl:decide (es.length < 30)=true) (hline:(ap.endLine == pos.line)=true):eval (.Call (.Attribute (.Name x p) m ap) es [] pos) env=(do
   let ov <- eval (.Name x p) env
   standAt ap.atName
   let (f,first) <- holding [ov] (getMethod ov m (do return (<- importBound (.Name x p) env).getD true))
   callWith pos f first (backTo pos (starEach es env)) (backToKw pos (keywordEach [] env))):=by
 have hf:methodCallForm (es.length + ([]:List Keyword).length) (backTo pos (starEach es env)) (backToKw pos (keywordEach [] env))=true:=by
  unfold methodCallForm
  have h1:((backTo pos (starEach es env)).all λx=>!x.1)=true:=by
   have:=bm (pos:=pos) (env:=env) hs
   rw [List.any_eq_false] at this
   rw [List.all_eq_true]
   intro x hx
   have:=this x hx
   simpa using this
  rw [h1]
  exact hl
 rw [arm_eval_Call]
 unfold methodCall calleeOf methodCallPos
 rw [hf,hline]
 rfl
theorem xg {f i:Nat}{ms:List ME}{x m:Str}{es:List Expr}{p ap pos:Pos} (g:Gf X T k cal) (hf:T.ms[f]?=some (some m)) (hM:m ∈ k7) (hn:ag X.N X.env.scope i x=true) (ha:PA X es (tAs X.K cal ms)) (hs:es.all am=true) (hl:ms.length=es.length) (hline:(ap.endLine == pos.line)=true) (h30:decide (es.length < 30)=true):PE X (.Call (.Attribute (.Name x p) m ap) es [] pos) (tE X.K cal (.callM f i ms)):=by
 by_cases hC:∃ C,IsC X.K C
 ·obtain ⟨C,hC⟩:=hC
  have one:∀ C',IsC X.K C'->C'=C:=λC' h=>by
   have:=h.symm.trans hC
   cases this
   rfl
  obtain ⟨fa,fd,ps,h1,h3,F⟩:=g.meths f m hf C hC
  have key:∀ σ H Q,tE X.K cal (.callM f i ms) σ H Q->pX C m (spM X.K cal f) [] E0 (eX i) (tAs X.K cal ms) σ H Q:=λσ H Q q=>by
   obtain ⟨B,O₀,O,ρ,v,st,e1,q⟩:=q
   rw [ev,Option.bind_eq_some_iff] at e1
   obtain ⟨o,e0,e1⟩:=e1
   rw [Option.bind_eq_some_iff] at e1
   obtain ⟨vs,e1,e2⟩:=e1
   obtain ⟨a,ea,C',dx,gs,l,us,f1,f2,f3⟩:=mz st e0
   have hCC:=one C' f2.cls
   subst hCC
   refine ⟨_,ea,a,dx,gs,rfl,f1,f2.no m hM,B,O₀,O,ρ,vs,st,e1,λus' H1 s1 g1=>⟨O,_,v,bu s1 st.here,?_,e2,λu H2 s2 r=>q u H2 (s1.trans s2) (.of r)⟩⟩
   rw [List.append_nil]
   exact .cons ⟨a,rfl,e_.move ⟨C',dx,gs,l,us,f1,f2,f3⟩ s1 (ar s1)⟩ g1
  cases es with
  | nil =>
   refine (mP (bb hn) (g.cls C hC).1 h1 F g.room h3 .nil iX (jq hs h30 hline)).imp λσ H Q q=>?_
   obtain ⟨u,eu,a,dx,gs,e,f1,f2,B,O₀,O,ρ,vs,st,e1,q⟩:=key σ H Q q
   cases ms with
   | nil =>
    simp only [evA,Option.some.injEq] at e1
    subst e1
    exact ⟨u,eu,a,dx,gs,e,f1,f2,q [] H (ae.refl H) .nil⟩
   | cons _ _=>cases hl
  | cons e es =>
   simp only [List.all_cons,Bool.and_eq_true] at hs
   exact (pY (bb hn) (g.cls C hC).1 h1 F g.room h3 .nil iX ha (bj hs.1 _ _) (bm hs.2) (jq (by simp [hs]) h30 hline)).imp key
 ·exact λpins s σ H Q I q=>by
   obtain ⟨B,O₀,O,ρ,v,st,e1,q⟩:=q
   rw [ev,Option.bind_eq_some_iff] at e1
   obtain ⟨o,e0,_⟩:=e1
   obtain ⟨a,ea,C',dx,gs,l,us,f1,f2,f3⟩:=mz st e0
   exact absurd ⟨C',f2.cls⟩ hC
theorem j_ {k':Sk}{src:List ME}{it tg:Expr}{tup:Bool} (htg:tup=true->∃ ts j tp,tg=.Tuple ts j tp) (g:Gf X T k cal) (h:dz X.env.scope tup (λxs=>chks T src X.N X.env.scope xs) k' it=true) (hs:∀ xs,chks T src X.N X.env.scope xs=true->PA X xs (tEs X.K cal src)/\xs.all am=true/\src.length=xs.length)
  (h1:∀ m x,src=[m]->chks T src X.N X.env.scope [x]=true->PE X x (tE X.K cal m)):PI X tg it (tW X.K cal k' src)/\fc it=true:=by
 cases k' with
 | seq =>
  simp only [dz,Bool.and_eq_true] at h
  refine ⟨?_,h.1⟩
  obtain ⟨_,_,hl⟩:=hs _ h.2
  match src,hl,h1,h with
  | [m],_,h1,h =>
   cases hb:ax m with
   | false=>exact Bf hb (h1 m it rfl h.2)
   | true =>
    have q:=h.2
    simp only [chks,Bool.and_eq_true] at q
    have q1:=q.1.1
    rcases o6 hb with ⟨i,rfl⟩|⟨i,rfl⟩
    rotate_left
    ·obtain ⟨z,e,h2⟩:=aM (show onO (jY it) (λq=>q.2 == ("taken":Str)&&ag X.N X.env.scope i q.1)=true from q1)
     obtain ⟨p,ap,rfl⟩:=gZ e
     obtain ⟨h3,h4⟩:=Bool.and_eq_true_iff.mp h2
     rw [eq_of_beq h3]
     exact zl g h4
    cases it <;> simp only [bP,bQ,bR,bn,bS,bT,bU,bV,cR,bW,bX,aR,bY,bZ,b6,aS,b7,bo,aL,Bool.false_eq_true] at q1
    exact Bg q1
 | rng =>
  cases it with
  | Call fn args kws pos =>
   cases fn with
   | Name x p =>
    cases kws with
    | nil =>
     simp only [dz,Bool.and_eq_true,beq_iff_eq,Bool.or_eq_true] at h
     obtain ⟨⟨⟨hx,hg⟩,ha⟩,hn⟩:=h
     obtain ⟨q,hst,hl⟩:=hs _ ha
     exact ⟨w5 g hx hg q hn hst hl,rfl⟩
    | cons _ _=>simp [dz] at h
   | _=>simp [dz] at h
  | _=>simp [dz] at h
 | enm =>
  cases it with
  | Call fn args kws pos =>
   cases fn with
   | Name x p =>
    match args,kws,h with
    | [a],[],h =>
     simp only [dz,Bool.and_eq_true,beq_iff_eq] at h
     obtain ⟨⟨⟨⟨ht,hx⟩,hg⟩,ha⟩,hn⟩:=h
     obtain ⟨ts,j,tp,rfl⟩:=htg ht
     obtain ⟨_,_,hl⟩:=hs _ ha
     refine ⟨?_,rfl⟩
     match src,hl,h1,ha with
     | [m],_,h1,ha =>
      cases hb:ax m with
      | false=>exact Bh g hx hg hn hb (h1 m a rfl ha)
      | true =>
       have q:=ha
       simp only [chks,Bool.and_eq_true] at q
       have q1:=q.1.1
       rcases o6 hb with ⟨i,rfl⟩|⟨i,rfl⟩
       rotate_left
       ·obtain ⟨z,e,h2⟩:=aM (show onO (jY a) (λq=>q.2 == ("taken":Str)&&ag X.N X.env.scope i q.1)=true from q1)
        obtain ⟨p,ap,rfl⟩:=gZ e
        obtain ⟨h3,h4⟩:=Bool.and_eq_true_iff.mp h2
        rw [eq_of_beq h3]
        exact zm g hx hg h4
       cases a <;> simp only [bP,bQ,bR,bn,bS,bT,bU,bV,cR,bW,bX,aR,bY,bZ,b6,aS,b7,bo,aL,Bool.false_eq_true] at q1
       exact y9 g hx hg q1
    | [],_,h=>simp [dz] at h
    | _::_::_,_,h=>simp [dz] at h
    | [_],_::_,h=>simp [dz] at h
   | _=>simp [dz] at h
  | _=>simp [dz] at h
 | rev=>cases it <;> simp [dz] at h
theorem base_of {o:Expr}{n:Str} (hb:t9 o=true):attributeBase o n X.env (eval o X.env)=eval o X.env:=by
 cases o <;> first|rfl|(simp [t9] at hb;done)|skip
 rename_i fn args kws pos
 cases args with
 | nil=>simp [t9] at hb
 | cons _ _=>cases fn <;> rfl
theorem nP {b:Blt}{es:List ME}{x:Str}{args:List Expr}{p pos:Pos} (g:Gf X T k cal) (hx:x=(k8 b:Str)) (hg:glB X.env.scope x=true) (ha:cy X.env.scope (λxs=>chks T es X.N X.env.scope xs) es.length b args=true)
  (hs:∀ xs,chks T es X.N X.env.scope xs=true->PA X xs (tEs X.K cal es)/\xs.all am=true/\es.length=xs.length)
  (h1:∀ m x,es=[m]->chks T es X.N X.env.scope [x]=true->PE X x (tE X.K cal m))
  (hh2:∀ m m' x x',es=[m,m']->chks T es X.N X.env.scope [x,x']=true->PE X x (tE X.K cal m)/\PE X x' (tE X.K cal m')) :
  (bG (.blt b es)=true->PE X (.Call (.Name x p) args [] pos) (tF X.K cal (.blt b es)))/\PE X (.Call (.Name x p) args [] pos) (tE X.K cal (.blt b es)):=by
 have inst:∀ c,cr b=some c->k8 b="isinstance"->bootBuiltins c=some (.type c)->X.mg c=none->(c:Str) ≠ "__name__"->((c:Str) == ("__debug__":Str))=false->cy X.env.scope (λxs=>chks T es X.N X.env.scope xs) es.length b args=jZ X.env.scope (λxs=>chks T es X.N X.env.scope xs) es.length c args ->
   PE X (.Call (.Name x p) args [] pos) (tE X.K cal (.blt b es)):=λc hc hb hbt hm hn hd e=>by
  rw [e] at ha
  unfold jZ at ha
  split at ha
  ·rename_i y t p2
   simp only [Bool.and_eq_true,beq_iff_eq] at ha
   obtain ⟨⟨⟨h2,h3⟩,h4⟩,h5⟩:=ha
   obtain ⟨_,hst,_⟩:=hs _ h4
   match es,h5,h1,h4 with
   | [m],_,h1,h4 =>
    rw [hx,hb] at hg ⊢
    exact zg g hc hg h2 h3 hbt hm hn hd (h1 m y rfl h4) (by simpa using hst)
  ·cases ha
 have plain:∀ n,cr b=none->dF b=some n->0 < n->cy X.env.scope (λxs=>chks T es X.N X.env.scope xs) es.length b args=(dF b == some es.length&&chks T es X.N X.env.scope args) ->
   ∃ e r,args=e::r/\PA X (e::r) (tEs X.K cal es)/\(e::r).all am=true:=λn _ hn hpos eq=>by
  rw [eq,hn] at ha
  simp only [Bool.and_eq_true,beq_iff_eq,Option.some.injEq] at ha
  obtain ⟨q1,q2,q3⟩:=hs _ ha.2
  cases args with
  | nil=>rw [<- ha.1] at q3;simp at q3;omega
  | cons e r=>exact ⟨e,r,rfl,q1,q2⟩
 cases b with
 | len =>
  obtain ⟨e,r,rfl,q1,q2⟩:=plain 1 rfl rfl (by decide) rfl
  subst hx
  exact ⟨λz=>(by simp [bG] at z),uI Bb hg (g.blt "len" (by decide)) uK (by decide) (by decide) q1 q2⟩
 | tupleOf =>
  obtain ⟨e,r,rfl,q1,q2⟩:=plain 1 rfl rfl (by decide) rfl
  subst hx
  exact ⟨λz=>(by simp [bG] at z),uJ wZ hg (g.blt "tuple" (by decide)) nL (by decide) (by decide) q1 q2⟩
 | listOf =>
  obtain ⟨e,r,rfl,q1,q2⟩:=plain 1 rfl rfl (by decide) rfl
  subst hx
  have q:=xa (p:=p) (pos:=pos) y4 hg (g.blt "list" (by decide)) xb (by decide) (by decide) q1 q2
  exact ⟨λ_=>q,eU (eF (.inl rfl)) q⟩
 | sorted =>
  obtain ⟨e,r,rfl,q1,q2⟩:=plain 1 rfl rfl (by decide) rfl
  subst hx
  have q:=za (p:=p) (pos:=pos) (uu g) hg (g.blt "sorted" (by decide)) lp (by decide) (by decide) q1 q2
  exact ⟨λ_=>q,eU (eF (.inr (.inl rfl))) q⟩
 | any =>
  obtain ⟨e,r,rfl,q1,q2⟩:=plain 1 rfl rfl (by decide) rfl
  subst hx
  exact ⟨λz=>(by simp [bG] at z),uI (Bd g.calm) hg (g.blt "any" (by decide)) zc (by decide) (by decide) q1 q2⟩
 | all =>
  obtain ⟨e,r,rfl,q1,q2⟩:=plain 1 rfl rfl (by decide) rfl
  subst hx
  exact ⟨λz=>(by simp [bG] at z),uI (Be g.calm) hg (g.blt "all" (by decide)) zd (by decide) (by decide) q1 q2⟩
 | strOf =>
  obtain ⟨e,r,rfl,q1,q2⟩:=plain 1 rfl rfl (by decide) rfl
  subst hx
  exact ⟨λz=>(by simp [bG] at z),uJ Bc hg (g.blt "str" (by decide)) PyProof.Rows.boot_str (by decide) (by decide) q1 q2⟩
 | intOf=>exact absurd ha Bool.false_ne_true
 | boolOf=>exact absurd ha Bool.false_ne_true
 | max2=>exact absurd ha Bool.false_ne_true
 | min2=>exact absurd ha Bool.false_ne_true
 | isInt=>exact ⟨λz=>(by simp [bG] at z),inst "int" rfl rfl ze (g.blt "int" (by decide)) (by decide) (by decide) rfl⟩
 | isBool=>exact ⟨λz=>(by simp [bG] at z),inst "bool" rfl rfl xc (g.blt "bool" (by decide)) (by decide) (by decide) rfl⟩
 | isStr=>exact ⟨λz=>(by simp [bG] at z),inst "str" rfl rfl zf (g.blt "str" (by decide)) (by decide) (by decide) rfl⟩
 | isList=>exact absurd ha Bool.false_ne_true
 | isTuple=>exact ⟨λz=>(by simp [bG] at z),inst "tuple" rfl rfl nL (g.blt "tuple" (by decide)) (by decide) (by decide) rfl⟩
 | sortedSet =>
  simp only [cy] at ha
  split at ha
  ·rename_i gg p2 y pos2
   simp only [Bool.and_eq_true,beq_iff_eq] at ha
   obtain ⟨⟨⟨h2,h3⟩,h4⟩,h5⟩:=ha
   obtain ⟨_,hst,_⟩:=hs _ h4
   match es,h5,h1,h4 with
   | [m],_,h1,h4 =>
    have q:=nM (p:=p) (p2:=p2) (pos:=pos) (pos2:=pos2) g hx h2 hg h3 (h1 m y rfl h4) (by simpa using hst)
    exact ⟨λ_=>q,eU (eF (.inr (.inr (.inl rfl)))) q⟩
  ·cases ha
 | sum=>exact absurd ha Bool.false_ne_true
 | max1=>exact absurd ha Bool.false_ne_true
 | sortedKeys=>exact absurd ha Bool.false_ne_true
 | valuesOf=>exact absurd ha Bool.false_ne_true
 | min1=>simp [cy,cr,dF] at ha
 | tupleRev=>simp [cy] at ha
 | lenSet =>
  simp only [cy] at ha
  split at ha
  ·rename_i gg p2 y pos2
   simp only [Bool.and_eq_true,beq_iff_eq] at ha
   obtain ⟨⟨⟨h2,h3⟩,h4⟩,h5⟩:=ha
   obtain ⟨_,hst,_⟩:=hs _ h4
   match es,h5,h1,h4 with
   | [m],_,h1,h4=>exact ⟨λz=>(by simp [bG] at z),uM g hx h2 hg h3 (h1 m y rfl h4) (by simpa using hst)⟩
  ·cases ha
 | lenSetSub=>simp [cy] at ha
end
section
variable {X:Cx}{T:Tab}{k:Nat}{cal:Cal}
end
set_option maxHeartbeats 0 in
mutual
theorem al {T:Tab}{k:Nat}{cal:Cal}:∀ (me:ME) {X:Cx}{e:Expr},Gf X T k cal->chk T me X.N X.env.scope e=true->PE X e (tE X.K cal me)/\PT X e (tT X.K cal me)
  | .var i,X,e,g,h=>by
    cases e <;> simp only [bP,bQ,bR,bn,bS,bT,bU,bV,cR,bW,bX,aR,bY,bZ,b6,aS,b7,bo,aL,Bool.false_eq_true] at h
    exact ⟨xY h,aT (xY h) rfl⟩
  | .bor i,X,e,g,h=>by
    cases e <;> simp only [bP,bQ,bR,bn,bS,bT,bU,bV,cR,bW,bX,aR,bY,bZ,b6,aS,b7,bo,aL,Bool.false_eq_true] at h
    exact ⟨xZ h,aT (xZ h) rfl⟩
  | .cst v,X,e,g,h=>by
    cases e <;> simp only [bP,bQ,bR,bn,bS,bT,bU,bV,cR,bW,bX,aR,bY,bZ,b6,aS,b7,bo,aL,Bool.false_eq_true] at h
    exact ⟨x0 h,aT (x0 h) rfl⟩
  | .glob x v,X,e,g,h=>by
    cases e <;> try (simp only [bP,bQ,bR,bn,bS,bT,bU,bV,cR,bW,bX,aR,bY,bZ,b6,aS,b7,bo,aL,Bool.false_eq_true] at h;done)
    exact ⟨um g h,aT (um g h) rfl⟩
  | .bin op a b,X,e,g,h=>by
    cases e <;> simp only [bP,bQ,bR,bn,bS,bT,bU,bV,cR,bW,bX,aR,bY,bZ,b6,aS,b7,bo,aL,Bool.false_eq_true,Bool.and_eq_true,beq_iff_eq] at h
    obtain ⟨⟨rfl,h1⟩,h2⟩:=h
    have p:=λ(pos:Pos)=>Bi (op:=op) (pos:=pos) (al a g h1).1 (al b g h2).1
    exact ⟨p _,aT (p _) rfl⟩
  | .neg _,X,e,g,h=>absurd (show false=true from h) Bool.false_ne_true
  | .not a,X,e,g,h=>by
    cases e with
    | UnaryOp op x pos =>
      cases op <;> simp only [bP,bQ,bR,bn,bS,bT,bU,bV,cR,bW,bX,aR,bY,bZ,b6,aS,b7,bo,aL,Bool.false_eq_true] at h
      exact ⟨Bj (al a g h).1,Bk (al a g h).2⟩
    | _=>cases (show false=true from h)
  | .and a b,X,e,g,h=>by
    cases e with
    | BoolOp op vs pos =>
      cases op with
      | Or=>cases (show false=true from h)
      | And =>
        match vs,h with
        | [],h=>cases (show false=true from h)
        | [x],h=>cases (show false=true from h)
        | [x,y],h =>
          have h:(chk T a X.N X.env.scope x&&chk T b X.N X.env.scope y)=true:=h
          simp only [Bool.and_eq_true] at h
          exact ⟨x4 (al a g h.1).1 (sG (al b g h.2).1),x6 (al a g h.1).2 (v5 (al b g h.2).2)⟩
        | x::y::z::r,h =>
          have h:(chk T a X.N X.env.scope x&&chk T b X.N X.env.scope (.BoolOp .And (y::z::r) pos))=true:=h
          simp only [Bool.and_eq_true] at h
          exact ⟨x4 (al a g h.1).1 (al b g h.2).1,x6 (al a g h.1).2 (x5 (al b g h.2).2)⟩
    | _=>cases (show false=true from h)
  | .or a b,X,e,g,h=>by
    cases e with
    | BoolOp op vs pos =>
      cases op with
      | And=>cases (show false=true from h)
      | Or =>
        match vs,h with
        | [],h=>cases (show false=true from h)
        | [x],h=>cases (show false=true from h)
        | [x,y],h =>
          have h:(chk T a X.N X.env.scope x&&chk T b X.N X.env.scope y)=true:=h
          simp only [Bool.and_eq_true] at h
          exact ⟨Bl (al a g h.1).1 (sG (al b g h.2).1),Bm (al a g h.1).2 (yi (al b g h.2).2)⟩
        | x::y::z::r,h =>
          have h:(chk T a X.N X.env.scope x&&chk T b X.N X.env.scope (.BoolOp .Or (y::z::r) pos))=true:=h
          simp only [Bool.and_eq_true] at h
          exact ⟨Bl (al a g h.1).1 (al b g h.2).1,Bm (al a g h.1).2 (x5 (al b g h.2).2)⟩
    | _=>cases (show false=true from h)
  | .ite c a b,X,e,g,h=>by
    cases e <;> simp only [bP,bQ,bR,bn,bS,bT,bU,bV,cR,bW,bX,aR,bY,bZ,b6,aS,b7,bo,aL,Bool.false_eq_true,Bool.and_eq_true,Bool.not_eq_true'] at h
    obtain ⟨⟨⟨⟨h1,h2⟩,h3⟩,h4⟩,h5⟩:=h
    exact ⟨Bn (al c g h1).2 (al a g h2).1 (al b g h3).1 h4 h5,Bo (al c g h1).2 (al a g h2).2 (al b g h3).2⟩
  | .cmp op a b,X,e,g,h=>by
    cases e with
    | Compare l ops rs pos =>
      match ops,rs,h with
      | [o],[r],h =>
        simp only [bP,bQ,bR,bn,bS,bT,bU,bV,cR,bW,bX,aR,bY,bZ,b6,aS,b7,bo,aL,Bool.and_eq_true,beq_iff_eq,Bool.not_eq_true'] at h
        obtain ⟨⟨⟨rfl,h1⟩,h2⟩,h3⟩:=h
        exact Bp g (al a g h1).1 (al b g h2).1 h3
      | [],_,h=>cases (show false=true from h)
      | [_],[],h=>cases (show false=true from h)
      | [_],_::_::_,h=>cases (show false=true from h)
      | _::_::_,_,h=>cases (show false=true from h)
    | _=>cases (show false=true from h)
  | .chain op op' a b c,X,e,g,h=>by
    cases e with
    | Compare l ops rs pos =>
      match ops,rs,h with
      | [o,o'],[m,r],h =>
        simp only [bP,bQ,bR,bn,bS,bT,bU,bV,cR,bW,bX,aR,bY,bZ,b6,aS,b7,bo,aL,Bool.and_eq_true,beq_iff_eq,Bool.not_eq_true'] at h
        obtain ⟨⟨⟨⟨⟨rfl,rfl⟩,h1⟩,h2⟩,h3⟩,h4⟩:=h
        exact w9 g (al a g h1).1 (al b g h2).1 (al c g h3).1 h4
      | [],_,h=>cases (show false=true from h)
      | [_],_,h=>cases (show false=true from h)
      | [_,_],[],h=>cases (show false=true from h)
      | [_,_],[_],h=>cases (show false=true from h)
      | [_,_],_::_::_::_,h=>cases (show false=true from h)
      | _::_::_::_,_,h=>cases (show false=true from h)
    | _=>cases (show false=true from h)
  | .tup es,X,e,g,h=>by
    cases e <;> simp only [bP,bQ,bR,bn,bS,bT,bU,bV,cR,bW,bX,aR,bY,bZ,b6,aS,b7,bo,aL,Bool.false_eq_true,Bool.and_eq_true] at h
    have p:=λ(j:Nat) (pos:Pos)=>Bq (j:=j) (pos:=pos) (sounds es g h.1) h.2
    exact ⟨p _ _,aT (p _ _) rfl⟩
  | .lst es,X,e,g,h=>by
    cases e <;> simp only [bP,bQ,bR,bn,bS,bT,bU,bV,cR,bW,bX,aR,bY,bZ,b6,aS,b7,bo,aL,Bool.false_eq_true,Bool.and_eq_true] at h
    have p:=λ(pos:Pos)=>eU (λρ v hv=>by
      rw [ev,Option.bind_eq_some_iff] at hv
      obtain ⟨vs,_,hv⟩:=hv
      split at hv
      · cases hv;exact ⟨_,rfl⟩
      · cases hv) (x9 (pos:=pos) (sounds es g h.1) h.2)
    exact ⟨p _,aT (p _) rfl⟩
  | .idx a i,X,e,g,h=>by
    cases e with
    | Subscript v s pos =>
      cases s <;> first
        | (simp only [bP,bQ,bR,bn,bS,bT,bU,bV,cR,bW,bX,aR,bY,bZ,b6,aS,b7,bo,aL,Bool.and_eq_true,Bool.false_eq_true] at h
           obtain ⟨⟨h1,h2⟩,h3⟩:=h
           have p:=Br (pos:=pos) (al a g h1).1 (al i g h2).1 h3
           exact ⟨p,aT p rfl⟩)
        | (simp [bP,bQ,bR,bn,bS,bT,bU,bV,cR,bW,bX,aR,bY,bZ,b6,aS,b7,bo,aL,cw] at h)
    | _=>cases (show false=true from h)
  | .slice a lo hi,X,e,g,h=>by
    cases e with
    | Subscript v s pos =>
      cases s with
      | Slice l u st p2 =>
        cases st with
        | none =>
          have h:(chk T a X.N X.env.scope v&&fK (λe=>chk T lo X.N X.env.scope e) (eI lo) l&&fK (λe=>chk T hi X.N X.env.scope e) (eI hi) u)=true:=h
          simp only [Bool.and_eq_true] at h
          obtain ⟨⟨h1,h2⟩,h3⟩:=h
          have q1:PO X l (tB1 X.K cal lo):=by
            cases l with
            | none=>exact uG h2
            | some l =>
              simp only [fK,Bool.and_eq_true,Bool.not_eq_true'] at h2
              exact uH (al lo g h2.1).1 h2.2
          have q2:PO X u (tB1 X.K cal hi):=by
            cases u with
            | none=>exact uG h3
            | some u =>
              simp only [fK,Bool.and_eq_true,Bool.not_eq_true'] at h3
              exact uH (al hi g h3.1).1 h3.2
          have p:=w_ (p2:=p2) (pos:=pos) (al a g h1).1 q1 q2
          exact ⟨p,aT p rfl⟩
        | some _=>cases (show false=true from h)
      | _=>cases (show false=true from h)
    | _=>cases (show false=true from h)
  | .blt b es,X,e,g,h=>by
    cases e with
    | Call fn args kws pos =>
      cases fn with
      | Name x p =>
        cases kws with
        | nil =>
          have h:(x == (k8 b:Str)&&glB X.env.scope x&&cy X.env.scope (λxs=>chks T es X.N X.env.scope xs) es.length b args)=true:=h
          simp only [Bool.and_eq_true,beq_iff_eq] at h
          obtain ⟨⟨hx,hg⟩,ha⟩:=h
          have q:=(nP (p:=p) (pos:=pos) g hx hg ha (λxs hxs=>⟨sounds es g hxs,aP hxs⟩) (λm x hm hx=>match es,hm with|[m'],rfl=>(al m' g (by simp only [chks,Bool.and_eq_true] at hx;exact hx.1.1)).1) (λa b x x' hm hx=>match es,hm with|[m1,m2],rfl=>⟨(al m1 g (by simp only [chks,Bool.and_eq_true] at hx;exact hx.1.1)).1,(al m2 g (by simp only [chks,Bool.and_eq_true] at hx;exact hx.2.1.1)).1⟩)).2
          exact ⟨q,aT q rfl⟩
        | cons _ _=>cases (show false=true from h)
      | _=>cases (show false=true from h)
    | _=>cases (show false=true from h)
  | .call f es,X,e,g,h=>by
    cases e with
    | Call fn args kws pos =>
      cases fn with
      | Name x p =>
        cases kws with
        | nil =>
          have h:(T.fs[f]? == some x&&glB X.env.scope x&&aq x&&chks T es X.N X.env.scope args)=true:=h
          simp only [Bool.and_eq_true,beq_iff_eq] at h
          obtain ⟨⟨⟨h1,h2⟩,h3⟩,h4⟩:=h
          obtain ⟨hs,hl⟩:=aP h4
          have q:=zb (p:=p) (pos:=pos) g h1 h2 h3 (soundA es g h4) hs hl
          exact ⟨q,aT q rfl⟩
        | cons _ _=>cases (show false=true from h)
      | _=>cases (show false=true from h)
    | _=>cases (show false=true from h)
  | .callD _ _ _,X,e,g,h=>absurd (show false=true from h) Bool.false_ne_true
  | .fld i n,X,e,g,h=>by
    obtain ⟨z,e1,h2⟩:=aM (show onO (jY e) (λq=>gF[n]? == some q.2&&ag X.N X.env.scope i q.1)=true from h)
    obtain ⟨p,ap,rfl⟩:=gZ e1
    obtain ⟨h3,h4⟩:=Bool.and_eq_true_iff.mp h2
    have q:=Bs (p:=p) (ap:=ap) g (eq_of_beq h3) h4
    exact ⟨q,aT q rfl⟩
  | .fldL i,X,e,g,h=>by
    obtain ⟨z,e1,h2⟩:=aM (show onO (jY e) (λq=>q.2 == ("taken":Str)&&ag X.N X.env.scope i q.1)=true from h)
    obtain ⟨p,ap,rfl⟩:=gZ e1
    obtain ⟨h3,h4⟩:=Bool.and_eq_true_iff.mp h2
    rw [eq_of_beq h3]
    have q:=zk (p:=p) (ap:=ap) g h4
    exact ⟨q,aT q rfl⟩
  | .inO neg me i,X,e,g,h=>by
    obtain ⟨z,e1,h⟩:=aM (show onO (t7 e) (λz=>onO (jY z.2.2) λq=>z.2.1 == (if neg=true then CmpOp.NotIn else CmpOp.In)&&chk T me X.N X.env.scope z.1&&q.2 == ("taken":Str)&&ag X.N X.env.scope i q.1)=true from h)
    have hz:=zo e1 h
    exact zp g hz (al me g hz.1).1
  | .callV _ _,X,e,g,h=>(by cases h)
  | .comp2 _ _ _ _,X,e,g,h=>(by cases h)
  | .callM f i es,X,e,g,h=>by
    obtain ⟨z,e1,h⟩:=aM (show onO (rO e) (λq=>nv X.N X.env.scope T.ms f i (λxs=>chks T es X.N X.env.scope xs) q)=true from h)
    obtain ⟨p,rfl⟩:=mi e1
    obtain ⟨h1,h2,h3,h4,h5,h6⟩:=my h
    obtain ⟨hs,hl⟩:=aP h4
    have q:=xg (p:=p) g h1 h2 h3 (soundA es g h4) hs hl h5 h6
    exact ⟨q,aT q rfl⟩
  | .datL m b,X,e,g,h=>by
    obtain ⟨q,e1,h⟩:=o7 (show onQ (ql e) (λq=>q.2 == (if b=true then ("weaver":Str) else ("moth":Str))&&chk T m X.N X.env.scope q.1)=true from h)
    obtain ⟨o,x⟩:=q
    obtain ⟨j,p,pos,rfl⟩:=ua e1
    obtain ⟨h1,h2⟩:=Bool.and_eq_true_iff.mp h
    have q:PE X (.Subscript o (.Constant (.str x) j p) pos) (tE X.K cal (.datL m b)):=zh g (eq_of_beq h1) (al m g h2).1
    exact ⟨q,aT q rfl⟩
  | .disp kvs m,X,e,g,h=>by
    obtain ⟨q,e1,h⟩:=o7 (show onQ (qm e) (λq=>i5 kvs q.1 q.2.1&&chk T m X.N X.env.scope q.2.2&&cw q.2.2&&decide (kvs.length <= 15)&&!kvs.isEmpty)=true from h)
    obtain ⟨ks,vs,a⟩:=q
    obtain ⟨p,pos,rfl⟩:=ub e1
    obtain ⟨a0,h5⟩:=Bool.and_eq_true_iff.mp h
    obtain ⟨a1,h4⟩:=Bool.and_eq_true_iff.mp a0
    obtain ⟨a2,h3⟩:=Bool.and_eq_true_iff.mp a1
    obtain ⟨h1,h2⟩:=Bool.and_eq_true_iff.mp a2
    have q:PE X (.Subscript (.Dict ks vs p) a pos) (tE X.K cal (.disp kvs m)):=zi g h1 (of_decide_eq_true h4) (by simpa using h5) (al m g h2).1 h3
    exact ⟨q,aT q rfl⟩
  | .join x m,X,e,g,h=>by
    obtain ⟨q,e1,h⟩:=o7 (show onQ (qk e) (λq=>q.1 == x&&q.2.1 == ("join":Str)&&chk T m X.N X.env.scope q.2.2.1&&am q.2.2.1&&q.2.2.2.1.endLine == q.2.2.2.2.line)=true from h)
    obtain ⟨y,md,a,ap,cp⟩:=q
    obtain ⟨j,p,rfl⟩:=t_ e1
    obtain ⟨a1,h5⟩:=Bool.and_eq_true_iff.mp h
    obtain ⟨a2,h4⟩:=Bool.and_eq_true_iff.mp a1
    obtain ⟨a3,h3⟩:=Bool.and_eq_true_iff.mp a2
    obtain ⟨h1,h2⟩:=Bool.and_eq_true_iff.mp a3
    obtain rfl:y=x:=eq_of_beq h1
    obtain rfl:md=("join":Str):=eq_of_beq h2
    have q:PE X (.Call (.Attribute (.Constant (.str y) j p) "join" ap) [a] [] cp) (tE X.K cal (.join y m)):=zj (al m g h3).1 h4 h5
    exact ⟨q,aT q rfl⟩
  | .dIn _ _ _,X,e,g,h=>absurd (show false=true from h) Bool.false_ne_true
  | .dat _ _,X,e,g,h=>absurd (show false=true from h) Bool.false_ne_true
  | .dget _ _ _,X,e,g,h=>absurd (show false=true from h) Bool.false_ne_true
  | .comp k' src js cond elt,X,e,g,h=>by
    cases e with
    | ListComp e gens scope pos =>
      match gens,h with
      | [],h=>cases (show false=true from h)
      | ⟨tg,it,ifs,as⟩::[],h =>
        cases tg with
        | Name x px =>
          by_cases has:as=0
          · subst has
            have h:(eE X.env.scope X.N scope x (b_ X.N js) js&&dz X.env.scope false (λxs=>chks T src X.N X.env.scope xs) k' it&&j0 (λc=>chk T cond (x::b_ X.N js) (gf scope X.env.scope) c) cond ifs&&chk T elt (x::b_ X.N js) (gf scope X.env.scope) e&&!ax elt)=true:=h
            simp only [Bool.and_eq_true,Bool.not_eq_true'] at h
            obtain ⟨⟨⟨⟨h1,h2⟩,h3⟩,h4⟩,h5⟩:=h
            have hw:=j_ (tg:=.Name x px) (λz=>by cases z) g h2 (λxs hxs=>⟨sounds src g hxs,aP hxs⟩) (λm x hm hx=>match src,hm with|[m'],rfl=>(al m' g (by simp only [chks,Bool.and_eq_true] at hx;exact hx.1.1)).1)
            have q:=eU nO (pf (pos:=pos) g h1 hw.1 hw.2 (λs₁ H₁ C fp=>ph h3 λc hc=>(al cond (g.blk x (b_ X.N js) scope s₁ H₁ C fp) hc).2) (λs₁ H₁ C fp=>(al elt (g.blk x (b_ X.N js) scope s₁ H₁ C fp) h4).1) h5)
            exact ⟨q,aT q rfl⟩
          · exact absurd h (by
              have:chk T (.comp k' src js cond elt) X.N X.env.scope (.ListComp e [⟨.Name x px,it,ifs,as⟩] scope pos)=false:=by
                rw [aL]
                split <;> first|rfl|(rename_i z;simp_all)
              rw [this];exact Bool.false_ne_true)
        | _=>cases (show false=true from h)
      | _::_::_,h=>simp [aL] at h
    | _=>cases (show false=true from h)
theorem sounds {T:Tab}{k:Nat}{cal:Cal}:∀ (ms:List ME) {X:Cx}{es:List Expr},Gf X T k cal->chks T ms X.N X.env.scope es=true->PA X es (tEs X.K cal ms)
 | [],X,es,g,h=>by
  cases es with
  | nil=>exact w8
  | cons _ _=>simp [chks] at h
 | m::ms,X,es,g,h=>by
  cases es with
  | nil=>simp [chks] at h
  | cons e es =>
   simp only [chks,Bool.and_eq_true] at h
   exact uC (al m g h.1.1).1 (sounds ms g h.2) h.1.2
theorem soundA {T:Tab}{k:Nat}{cal:Cal}:∀ (ms:List ME) {X:Cx}{es:List Expr},Gf X T k cal->chks T ms X.N X.env.scope es=true->PA X es (tAs X.K cal ms)
 | [],X,es,g,h=>by
  cases es with
  | nil=>exact uD
  | cons _ _=>simp [chks] at h
 | m::ms,X,es,g,h=>by
  cases es with
  | nil=>simp [chks] at h
  | cons e es =>
   simp only [chks,Bool.and_eq_true] at h
   have hs:=soundA ms g h.2
   cases hb:ax m with
   | false=>exact rV hb (al m g h.1.1).1 hs h.1.2
   | true =>
    have hp:=(al m g h.1.1).1
    rcases o6 hb with ⟨i,rfl⟩|⟨i,rfl⟩
    rotate_left
    ·exact (bC hp hs (bj h.1.2 es _)).imp λσ H Q q=>by
      obtain ⟨B,O₀,O,ρ,vs,st,e1,q⟩:=q
      cases (show none=some vs from e1)
    have h1:=h.1.1
    cases e <;> simp only [bP,bQ,bR,bn,bS,bT,bU,bV,cR,bW,bX,aR,bY,bZ,b6,aS,b7,bo,aL,Bool.false_eq_true] at h1
    exact uF h1 hs
end
theorem zq {T:Tab}{k:Nat}{cal:Cal}{me:ME}{X:Cx}{e:Expr} (g:Gf X T k cal) (h:chk T me X.N X.env.scope e=true) (hf:bG me=true):PE X e (tF X.K cal me):=by
 cases me with
 | lst es =>
  cases e <;> simp only [bP,bQ,bR,bn,bS,bT,bU,bV,cR,bW,bX,aR,bY,bZ,b6,aS,b7,bo,aL,Bool.false_eq_true,Bool.and_eq_true] at h
  exact x9 (sounds es g h.1) h.2
 | blt b es =>
  cases e with
  | Call fn args kws pos =>
   cases fn with
   | Name x p =>
    cases kws with
    | nil =>
     have h:(x == (k8 b:Str)&&glB X.env.scope x&&cy X.env.scope (λxs=>chks T es X.N X.env.scope xs) es.length b args)=true:=h
     simp only [Bool.and_eq_true,beq_iff_eq] at h
     obtain ⟨⟨hx,hg⟩,ha⟩:=h
     exact (nP (p:=p) (pos:=pos) g hx hg ha (λxs hxs=>⟨sounds es g hxs,aP hxs⟩) (λm x hm hx=>match es,hm with|[m'],rfl=>(al m' g (by simp only [chks,Bool.and_eq_true] at hx;exact hx.1.1)).1) (λa b x x' hm hx=>match es,hm with|[m1,m2],rfl=>⟨(al m1 g (by simp only [chks,Bool.and_eq_true] at hx;exact hx.1.1)).1,(al m2 g (by simp only [chks,Bool.and_eq_true] at hx;exact hx.2.1.1)).1⟩)).1 hf
    | cons _ _=>cases (show false=true from h)
   | _=>cases (show false=true from h)
  | _=>cases (show false=true from h)
 | comp k' src js cond elt =>
  cases e with
  | ListComp e gens scope pos =>
   match gens,h with
   | [],h=>cases (show false=true from h)
   | ⟨tg,it,ifs,as⟩::[],h =>
    cases tg with
    | Name x px =>
     by_cases has:as=0
     ·subst has
      have h:(eE X.env.scope X.N scope x (b_ X.N js) js&&dz X.env.scope false (λxs=>chks T src X.N X.env.scope xs) k' it&&j0 (λc=>chk T cond (x::b_ X.N js) (gf scope X.env.scope) c) cond ifs&&chk T elt (x::b_ X.N js) (gf scope X.env.scope) e&&!ax elt)=true:=h
      simp only [Bool.and_eq_true,Bool.not_eq_true'] at h
      obtain ⟨⟨⟨⟨h1,h2⟩,h3⟩,h4⟩,h5⟩:=h
      have hw:=j_ (tg:=.Name x px) (λz=>by cases z) g h2 (λxs hxs=>⟨sounds src g hxs,aP hxs⟩) (λm x hm hx=>match src,hm with|[m'],rfl=>(al m' g (by simp only [chks,Bool.and_eq_true] at hx;exact hx.1.1)).1)
      exact pf (pos:=pos) g h1 hw.1 hw.2 (λs₁ H₁ C fp=>ph h3 λc hc=>(al cond (g.blk x (b_ X.N js) scope s₁ H₁ C fp) hc).2) (λs₁ H₁ C fp=>(al elt (g.blk x (b_ X.N js) scope s₁ H₁ C fp) h4).1) h5
     ·exact absurd h (by
       have:chk T (.comp k' src js cond elt) X.N X.env.scope (.ListComp e [⟨.Name x px,it,ifs,as⟩] scope pos)=false:=by
        rw [aL]
        split <;> first|rfl|(rename_i z;simp_all)
       rw [this];exact Bool.false_ne_true)
    | _=>cases (show false=true from h)
   | _::_::_,h=>simp [aL] at h
  | _=>cases (show false=true from h)
 | _=>simp [bG] at hf
end MM
namespace MM
open PySem PySem.Spec PyProof.Rows L2
noncomputable def Bu:MV->Bool
 | .brw _=>true
 | .brwD _=>true
 | .brwO _ _=>true
 | _=>false
theorem qD {m:MV} (h1:dy m=true) (h2:Bu m=true):False:=by cases m <;> first|(cases h2;done)|(cases h1;done)
structure bw (B:Hp) (O O':List Addr) (ρ ρ':Rho) (σ σ':St):Prop where
 stay:∀ a,B a ≠ none->a ∈ O->a ∈ O'
 new:∀ a ∈ O',a ∈ O \/ B a=none
 brw:∀ (i:Nat) (m:MV),Bu m=true->ρ'[i]?=some (some m)->ρ[i]?=some (some m)/\σ'[i]?=σ[i]?
 len:ρ'.length=ρ.length
 mutO:∀ (i:Nat) (fs xs:List PV),ρ'[i]?=some (some (.ownO true fs xs))->(∃ ys,ρ[i]?=some (some (.ownO true fs ys)))/\σ'[i]?=σ[i]?
theorem bw.refl {B:Hp}{O:List Addr}{ρ:Rho}{σ:St}:bw B O O ρ ρ σ σ:=⟨λ_ _ h=>h,λ_ h=>.inl h,λ_ _ _ h=>⟨h,rfl⟩,rfl,λ_ _ xs h=>⟨⟨xs,h⟩,rfl⟩⟩
theorem bw.trans {B:Hp}{O O1 O2:List Addr}{ρ ρ1 ρ2:Rho}{σ σ1 σ2:St} (a:bw B O O1 ρ ρ1 σ σ1) (b:bw B O1 O2 ρ1 ρ2 σ1 σ2):bw B O O2 ρ ρ2 σ σ2 where
 stay:=λx h1 h2=>b.stay x h1 (a.stay x h1 h2)
 new:=λx h=>(b.new x h).elim (a.new x) .inr
 brw:=λi xs hm h=>by
  obtain ⟨h1,e1⟩:=b.brw i xs hm h
  obtain ⟨h2,e2⟩:=a.brw i xs hm h1
  exact ⟨h2,e1.trans e2⟩
 len:=b.len.trans a.len
 mutO:=λi fs xs h=>by
  obtain ⟨⟨d1,h1⟩,e1⟩:=b.mutO i fs xs h
  obtain ⟨h2,e2⟩:=a.mutO i fs d1 h1
  exact ⟨h2,e1.trans e2⟩
noncomputable def du (K:PySem.W.Frag) (B:Hp) (O₀ O:List Addr) (ρ:Rho) (σ:St) (D:fD):R->Prop
 | .next ρ'=>∀ σ' H' O',aD K B O₀ O' H' ρ' σ'->bw B O O' ρ ρ' σ σ'->D.nx σ' H'
 | .brk ρ'=>∀ σ' H' O',aD K B O₀ O' H' ρ' σ'->bw B O O' ρ ρ' σ σ'->D.bk σ' H'
 | .cont ρ'=>∀ σ' H' O',aD K B O₀ O' H' ρ' σ'->bw B O O' ρ ρ' σ σ'->D.ct σ' H'
 | .ret v=>∀ u H',ae B H'->Rep K (ak H' O₀) v u->D.rt u H'
 | .retF xs=>∀ p us H',ae B H'->B p=none->H' p=some (.lst us)->Reps K (ak H' (p::O₀)) xs us->D.rt (.ref p) H'
 | .retT v ρ'=>∀ σ' H' O',aD K B O₀ O' H' ρ' σ'->bw B O O' ρ ρ' σ σ'->D.rt v.v H'
 | .bad=>False
theorem du.trans {K:PySem.W.Frag}{B:Hp}{O₀ O O':List Addr}{ρ ρ':Rho}{σ σ':St}{D:fD}{r:R} (h:du K B O₀ O ρ σ D r) (k:bw B O O' ρ ρ' σ σ'):du K B O₀ O' ρ' σ' D r:=by
 cases r with
 | next ρ2=>exact λσ2 H2 O2 st k2=>h σ2 H2 O2 st (k.trans k2)
 | brk ρ2=>exact λσ2 H2 O2 st k2=>h σ2 H2 O2 st (k.trans k2)
 | cont ρ2=>exact λσ2 H2 O2 st k2=>h σ2 H2 O2 st (k.trans k2)
 | ret v=>exact h
 | bad=>exact h
 | retF xs=>exact h
 | retT v ρ2=>exact λσ2 H2 O2 st k2=>h σ2 H2 O2 st (k.trans k2)
noncomputable def tS (K:PySem.W.Frag) (cal:Cal) (m:MS):TS:=λD σ H=>∃ B O₀ O ρ,aD K B O₀ O H ρ σ/\du K B O₀ O ρ σ D (ex cal m ρ)
noncomputable def tSs (K:PySem.W.Frag) (cal:Cal) (ms:List MS):TS:=λD σ H=>∃ B O₀ O ρ,aD K B O₀ O H ρ σ/\du K B O₀ O ρ σ D (exs cal ms ρ)
section
variable {K:PySem.W.Frag}{B H H':Hp}{O₀ O:List Addr}{ρ:Rho}{σ:St}
theorem ab {i:Nat}{m:MV} (h:i < ρ.length):(put ρ i m)[i]?=some (some m):=by unfold put;exact List.getElem?_set_self h
theorem aa {i j:Nat}{m:MV} (h:i ≠ j):(put ρ i m)[j]?=ρ[j]?:=by unfold put;exact List.getElem?_set_ne h
theorem bx {i:Nat}{m:MV}:(put ρ i m).length=ρ.length:=by unfold put;exact List.length_set
theorem aD.store (st:aD K B O₀ O H ρ σ) {i:Nat}{v:PV}{u:V} (hi:i < σ.length) (r:Rep K (ak H O) v u):aD K B O₀ O H (put ρ i (.val v)) (σ.set i (some u))/\bw B O O ρ (put ρ i (.val v)) σ (σ.set i (some u)):=by
 have hi':i < ρ.length:=by rw [st.len];exact hi
 refine ⟨⟨st.keep,st.here,st.sub,st.old,by rw [bx,List.length_set];exact st.len,λj m e=>?_,λa b xs ys ad hab e1 e2 o1 o2 e3 e4=>?_
  ,d6 st.inn (λj m0 e l0=>by
   have hj:i ≠ j:=λz=>by subst z;rw [ab hi'] at e;cases e;cases l0
   rw [aa hj] at e
   exact ⟨⟨m0,e,l0⟩,List.getElem?_set_ne hj,λ_ _ _ h=>h⟩) λj m c e _ o es=>.inl (by
   have hj:i ≠ j:=λz=>by subst z;rw [ab hi'] at e;cases e;cases o
   rw [aa hj] at e
   rw [List.getElem?_set_ne hj] at es
   exact ⟨m,e,o,es⟩)
  ⟩,⟨λ_ _ h=>h,λ_ h=>.inl h,λj xs hbm e=>?_,bx
  ,λj fs xs e=>by
   have hj:i ≠ j:=λz=>by subst z;rw [ab hi'] at e;cases e
   rw [aa hj] at e
   exact ⟨⟨xs,e⟩,List.getElem?_set_ne hj⟩
  ⟩⟩
 ·by_cases hj:i=j
  ·subst hj
   rw [ab hi'] at e
   cases e
   exact ⟨u,List.getElem?_set_self hi,r⟩
  ·rw [aa hj] at e
   obtain ⟨w,e1,q⟩:=st.slot j m e
   exact ⟨w,by rw [List.getElem?_set_ne hj];exact e1,q⟩
 ·have h1:i ≠ a:=λz=>by subst z;rw [ab hi'] at e1;cases e1;cases o1
  have h2:i ≠ b:=λz=>by subst z;rw [ab hi'] at e2;cases e2;cases o2
  rw [aa h1] at e1
  rw [aa h2] at e2
  rw [List.getElem?_set_ne h1] at e3
  rw [List.getElem?_set_ne h2] at e4
  exact st.apart a b xs ys ad hab e1 e2 o1 o2 e3 e4
 ·have hj:i ≠ j:=λz=>by subst z;rw [ab hi'] at e;cases e;cases hbm
  rw [aa hj] at e
  exact ⟨e,List.getElem?_set_ne hj⟩
theorem aD.storeM (st:aD K B O₀ O H ρ σ) {i:Nat}{mm:MV}{p:Addr} (hi:i < σ.length) (s:ae H H') (hp:H p=none) (e:H' p ≠ none) (hm:dy mm=true)
  (r:B p=none->d5 K B (p::O) H' mm (.ref p))
  (hLL:isL mm=false:=by rfl)
  :
  aD K B O₀ (p::O) H' (put ρ i mm) (σ.set i (some (.ref p)))/\bw B O (p::O) ρ (put ρ i mm) σ (σ.set i (some (.ref p))):=by
 have hi':i < ρ.length:=by rw [st.len];exact hi
 have hBp:B p=none:=st.keep.free hp
 have vis:ae (ak H O) (ak H' (p::O)):=bf s λb hb=>by
  rcases List.mem_cons.mp hb with rfl|hb
  ·exact .inr hp
  ·exact .inl hb
 refine ⟨⟨st.keep.trans s,λa ha=>?_,λa ha=>List.mem_cons_of_mem _ (st.sub a ha),st.old,by rw [bx,List.length_set];exact st.len,λj m ej=>?_,λa b xs ys ad hab e1 e2 o1 o2 e3 e4=>?_
  ,d6 (st.mono s).inn (λj m0 e l0=>by
   have hj:i ≠ j:=λz=>by subst z;rw [ab hi'] at e;cases e;rw [hLL] at l0;cases l0
   rw [aa hj] at e
   exact ⟨⟨m0,e,l0⟩,List.getElem?_set_ne hj,λ_ _ _ h=>h⟩) λj m c e _ o es=>by
   by_cases hj:i=j
   ·subst hj
    rw [List.getElem?_set_self hi] at es
    cases es
    refine .inr λk m1 a l f1 f0 f2 f3 z=>?_
    subst z
    obtain ⟨u,e3,q⟩:=st.slot k _ f1
    rw [f2] at e3
    cases e3
    cases m1 <;> try (cases f0;done)
    obtain ⟨a',l',e4,q⟩:=q
    cases e4
    obtain ⟨C,dx,gs,e5,_⟩:=q.ob
    have e6:=q.l
    rw [s _ _ e5] at f3
    rw [e5] at e6
    rw [e6] at f3
    cases f3
    obtain ⟨us,e7,_⟩:=q.li
    rw [hp] at e7
    cases e7
   ·rw [aa hj] at e
    rw [List.getElem?_set_ne hj] at es
    exact .inl ⟨m,e,o,es⟩
  ⟩,⟨λ_ _ h=>List.mem_cons_of_mem _ h,λa ha=>?_,λj xs hbm ej=>?_,bx
  ,λj fs xs ej=>by
   have hj:i ≠ j:=λz=>by subst z;rw [ab hi'] at ej;cases ej;cases hLL
   rw [aa hj] at ej
   exact ⟨⟨xs,ej⟩,List.getElem?_set_ne hj⟩
  ⟩⟩
 ·rcases List.mem_cons.mp ha with rfl|ha
  ·exact e
  ·exact λz=>st.here a ha (s.free z)
 ·by_cases hj:i=j
  ·subst hj
   rw [ab hi'] at ej
   cases ej
   exact ⟨_,List.getElem?_set_self hi,r hBp⟩
  ·rw [aa hj] at ej
   obtain ⟨w,e1,q⟩:=st.slot j m ej
   refine ⟨w,by rw [List.getElem?_set_ne hj];exact e1,?_⟩
   cases m with
   | val v=>exact Rep.mono vis _ q
   | own ys=>obtain ⟨a,ws,e2,h1,h2,h3,h4⟩:=q;exact ⟨a,ws,e2,s _ _ h1,Reps.mono vis _ h2,List.mem_cons_of_mem _ h3,h4⟩
   | brw ys=>obtain ⟨a,ws,e2,h1,h2⟩:=q;exact ⟨a,ws,e2,h1,Reps.mono vis _ h2⟩
   | ownD ys=>obtain ⟨a,e2,h1,h3,h4⟩:=q;exact ⟨a,e2,h1.move (s _) vis,List.mem_cons_of_mem _ h3,h4⟩
   | ownO _ fs ys=>obtain ⟨a,l,e2,q⟩:=q;exact ⟨a,l,e2,q.move vis (λ_=>s _ _) (λ_=>s _ _) (List.mem_cons_of_mem _ q.aO) (List.mem_cons_of_mem _ q.lO) q.aB q.lB⟩
   | brwO fs ys=>obtain ⟨a,e2,q⟩:=q;exact ⟨a,e2,q.move (ae.refl B) vis⟩
   | brwD ys=>exact q
 ·have other:∀ (j:Nat) (zs:MV) (ad:Addr),ρ[j]?=some (some zs)->dy zs=true->σ[j]?=some (some (.ref ad))->ad ≠ p:=λj zs ad h1 ho h2 z=>by
   obtain ⟨w,e1,q⟩:=st.slot j _ h1
   rw [h2] at e1
   cases e1
   cases zs with
   | own zs =>
    obtain ⟨a,ws,e2,h1,_⟩:=q
    cases e2
    rw [z,hp] at h1;cases h1
   | ownD zs =>
    obtain ⟨a,e2,h1,_⟩:=q
    cases e2
    obtain ⟨o,h1⟩:=h1.here
    rw [z,hp] at h1;cases h1
   | ownO _ fs zs =>
    obtain ⟨a,l,e2,q⟩:=q
    cases e2
    obtain ⟨C,dx,gs,h1,_⟩:=q.ob
    rw [z,hp] at h1;cases h1
   | brwO _ _=>cases ho
   | val _=>cases ho
   | brw _=>cases ho
   | brwD _=>cases ho
  by_cases ha:i=a
  ·subst ha
   have hb:i ≠ b:=hab
   rw [List.getElem?_set_self hi] at e3
   rw [aa hb] at e2
   rw [List.getElem?_set_ne hb] at e4
   cases e3
   exact other b ys _ e2 o2 e4 rfl
  ·by_cases hb:i=b
   ·subst hb
    rw [List.getElem?_set_self hi] at e4
    rw [aa ha] at e1
    rw [List.getElem?_set_ne ha] at e3
    cases e4
    exact other a xs _ e1 o1 e3 rfl
   ·rw [aa ha] at e1
    rw [aa hb] at e2
    rw [List.getElem?_set_ne ha] at e3
    rw [List.getElem?_set_ne hb] at e4
    exact st.apart a b _ _ ad hab e1 e2 o1 o2 e3 e4
 ·rcases List.mem_cons.mp ha with rfl|ha
  ·exact .inr hBp
  ·exact .inl ha
 ·have hj:i ≠ j:=λz=>by subst z;rw [ab hi'] at ej;cases ej;exact qD hm hbm
  rw [aa hj] at ej
  exact ⟨ej,List.getElem?_set_ne hj⟩
theorem aD.storeOwn (st:aD K B O₀ O H ρ σ) {i:Nat}{xs:List PV}{p:Addr}{us:List V} (hi:i < σ.length) (s:ae H H') (hp:H p=none) (e:H' p=some (.lst us)) (r:Reps K (ak H' (p::O)) xs us) :
  aD K B O₀ (p::O) H' (put ρ i (.own xs)) (σ.set i (some (.ref p)))/\bw B O (p::O) ρ (put ρ i (.own xs)) σ (σ.set i (some (.ref p))) :=
 st.storeM hi s hp (by rw [e];simp) rfl λhB=>⟨p,us,rfl,e,r,List.mem_cons_self,hB⟩
theorem aD.changeM (st:aD K B O₀ O H ρ σ) {i:Nat}{m0 m1:MV}{a:Addr}{ob:HO} (e:ρ[i]?=some (some m0)) (o0:dy m0=true) (o1:dy m1=true)
  (es:σ[i]?=some (some (.ref a))) (h3:a ∈ O) (h4:B a=none) (r:ak (upd H a ob) O=ak H O->d5 K B O (upd H a ob) m1 (.ref a))
  (hLL:isL m1=false:=by rfl) (hL0:isL m0=false:=by rfl)
  :
  aD K B O₀ O (upd H a ob) (put ρ i m1) σ/\bw B O O ρ (put ρ i m1) σ σ:=by
 have hi':i < ρ.length:=(List.getElem?_eq_some_iff.mp e).1
 have hid:ak (upd H a ob) O=ak H O:=ie h3
 have other:∀ (j:Nat) (zs:MV) (ad:Addr),i ≠ j->ρ[j]?=some (some zs)->dy zs=true->σ[j]?=some (some (.ref ad))->ad ≠ a:=λj zs ad hj q1 o2 q2 z=>by
  subst z
  exact st.apart i j m0 zs ad hj e q1 o0 o2 es q2
 refine ⟨⟨λb u eb=>?_,λb hb=>?_,st.sub,st.old,by rw [bx];exact st.len,λj m ej=>?_,λc d ps qs ad hcd e1 e2 p1 p2 e3 e4=>?_
  ,d6 st.inn (λj mo ej l0=>by
   have hj:i ≠ j:=λz=>by subst z;rw [ab hi'] at ej;cases ej;rw [hLL] at l0;cases l0
   rw [aa hj] at ej
   refine ⟨⟨mo,ej,l0⟩,rfl,λb l e1 e2=>?_⟩
   rw [af (other j _ b hj ej (by cases mo <;> first|(cases l0;done)|rfl) e1)] at e2
   exact e2) λj m c ej _ o ec=>.inl (by
   by_cases hj:i=j
   ·subst hj
    exact ⟨m0,e,o0,ec⟩
   ·rw [aa hj] at ej
    exact ⟨m,ej,o,ec⟩)
  ⟩,⟨λ_ _ h=>h,λ_ h=>.inl h,λj zs hbm ej=>?_,bx
  ,λj fs xs ej=>by
   have hj:i ≠ j:=λz=>by subst z;rw [ab hi'] at ej;cases ej;cases hLL
   rw [aa hj] at ej
   exact ⟨⟨xs,ej⟩,rfl⟩
  ⟩⟩
 ·rw [af (aH eb h4)]
  exact st.keep b u eb
 ·unfold upd
  split
  ·simp
  ·exact st.here b hb
 ·by_cases hj:i=j
  ·subst hj
   rw [ab hi'] at ej
   cases ej
   exact ⟨_,es,r hid⟩
  ·rw [aa hj] at ej
   obtain ⟨w,ew,q⟩:=st.slot j m ej
   refine ⟨w,ew,?_⟩
   cases m with
   | val v=>show Rep K (ak (upd H a ob) O) v w;rw [hid];exact q
   | own zs =>
    obtain ⟨ad,ws,rfl,q1,q2,q3,q4⟩:=q
    refine ⟨ad,ws,rfl,?_,by rw [hid];exact q2,q3,q4⟩
    rw [af (other j (.own zs) ad hj ej rfl ew)]
    exact q1
   | ownD zs =>
    obtain ⟨ad,rfl,q1,q3,q4⟩:=q
    refine ⟨ad,rfl,q1.move (λo eo=>?_) (by rw [hid];exact ae.refl _),q3,q4⟩
    rw [af (other j (.ownD zs) ad hj ej rfl ew)]
    exact eo
   | ownO b fs zs =>
    obtain ⟨ad,l,rfl,q⟩:=q
    have n1:=other j (.ownO b fs zs) ad hj ej rfl ew
    have n2:=(st.inn j _ ad l ej rfl ew q.l i m0 (λz=>hj z) e).2 a o0 es
    exact ⟨ad,l,rfl,q.move (by rw [hid];exact ae.refl _) (λo h=>by rw [af n1];exact h) (λo h=>by rw [af (Ne.symm n2)];exact h) q.aO q.lO q.aB q.lB⟩
   | brwO fs zs=>obtain ⟨ad,rfl,q⟩:=q;exact ⟨ad,rfl,q.move (ae.refl B) (by rw [hid];exact ae.refl _)⟩
   | brwD zs=>exact q
   | brw zs=>obtain ⟨ad,ws,rfl,q1,q2⟩:=q;exact ⟨ad,ws,rfl,q1,by rw [hid];exact q2⟩
 ·have h1:∀ (j:Nat) (zs:MV),(put ρ i m1)[j]?=some (some zs)->dy zs=true->∃ zs,ρ[j]?=some (some zs)/\dy zs=true:=λj zs q oz=>by
   by_cases hj:i=j
   ·subst hj;exact ⟨m0,e,o0⟩
   ·rw [aa hj] at q;exact ⟨zs,q,oz⟩
  obtain ⟨q1,e1,p1⟩:=h1 c ps e1 p1
  obtain ⟨q2,e2,p2⟩:=h1 d qs e2 p2
  exact st.apart c d q1 q2 ad hcd e1 e2 p1 p2 e3 e4
 ·have hj:i ≠ j:=λz=>by subst z;rw [ab hi'] at ej;cases ej;exact qD o1 hbm
  rw [aa hj] at ej
  exact ⟨ej,rfl⟩
theorem aD.change (st:aD K B O₀ O H ρ σ) {i:Nat}{xs ys:List PV}{a:Addr}{us:List V} (e:ρ[i]?=some (some (.own xs))) (es:σ[i]?=some (some (.ref a))) (r:Reps K (ak H O) ys us) :
  aD K B O₀ O (upd H a (.lst us)) (put ρ i (.own ys)) σ/\bw B O O ρ (put ρ i (.own ys)) σ σ:=by
 obtain ⟨w,e1,a',us',e2,h1,h2,h3,h4⟩:=st.slot i _ e
 rw [es] at e1
 cases e1
 cases e2
 exact st.changeM e rfl rfl es h3 h4 λhid=>⟨a,us,rfl,aj,by rw [hid];exact r,h3,h4⟩
theorem aD.freeze (st:aD K B O₀ O H ρ σ) {i:Nat}{xs:List PV} (e:ρ[i]?=some (some (.own xs))):∃ O',aD K B O₀ O' H (put ρ i (.val (.lst xs))) σ/\bw B O O' ρ (put ρ i (.val (.lst xs))) σ σ:=by
 obtain ⟨w,es,a,us,rfl,h1,h2,h3,h4⟩:=st.slot i _ e
 have hi':i < ρ.length:=(List.getElem?_eq_some_iff.mp e).1
 have vis:ae (ak H O) (ak H (O.filter λb=>decide (b ≠ a))):=bf (ae.refl H) λb hb=>.inl (List.mem_filter.mp hb).1
 have mem:∀ b,b ≠ a->b ∈ O->b ∈ O.filter λb=>decide (b ≠ a):=λb hb ho=>List.mem_filter.mpr ⟨ho,decide_eq_true hb⟩
 refine ⟨O.filter λb=>decide (b ≠ a),⟨st.keep,λb hb=>st.here b (List.mem_filter.mp hb).1,λb hb=>mem b (λz=>st.old b hb (z ▸ h4)) (st.sub b hb),st.old,by rw [bx];exact st.len,λj m ej=>?_,λc d ps qs ad hcd e1 e2 p1 p2 e3 e4=>?_
  ,d6 st.inn (λj mo ej l0=>by
   have hj:i ≠ j:=λz=>by subst z;rw [ab hi'] at ej;cases ej;cases l0
   rw [aa hj] at ej
   exact ⟨⟨mo,ej,l0⟩,rfl,λ_ _ _ h=>h⟩) λj m c ej _ o ec=>.inl (by
   have hj:i ≠ j:=λz=>by subst z;rw [ab hi'] at ej;cases ej;cases o
   rw [aa hj] at ej
   exact ⟨m,ej,o,ec⟩)
  ⟩,⟨λb hb ho=>mem b (λz=>hb (z ▸ h4)) ho,λb hb=>.inl (List.mem_filter.mp hb).1,λj zs hbm ej=>?_,bx
  ,λj fs xs ej=>by
   have hj:i ≠ j:=λz=>by subst z;rw [ab hi'] at ej;cases ej
   rw [aa hj] at ej
   exact ⟨⟨xs,ej⟩,rfl⟩
  ⟩⟩
 ·by_cases hj:i=j
  ·subst hj
   rw [ab hi'] at ej
   cases ej
   refine ⟨_,es,?_⟩
   show Rep K _ (.lst xs) (.ref a)
   rw [Rep]
   refine ⟨a,us,rfl,SqL.of ?_,Reps.mono vis _ h2⟩
   have hna:a ∉ O.filter λb=>decide (b ≠ a):=λz=>by simpa using (List.mem_filter.mp z).2
   rw [aI hna]
   exact h1
  ·rw [aa hj] at ej
   obtain ⟨w,ew,q⟩:=st.slot j m ej
   refine ⟨w,ew,?_⟩
   cases m with
   | val v=>exact Rep.mono vis _ q
   | own zs =>
    obtain ⟨ad,ws,rfl,q1,q2,q3,q4⟩:=q
    exact ⟨ad,ws,rfl,q1,Reps.mono vis _ q2,mem ad (λz=>st.apart i j (.own xs) (.own zs) a hj e ej rfl rfl es (by rw [ew,z])) q3,q4⟩
   | ownD zs =>
    obtain ⟨ad,rfl,q1,q3,q4⟩:=q
    exact ⟨ad,rfl,q1.move (λ_ eo=>eo) vis,mem ad (λz=>st.apart i j (.own xs) (.ownD zs) a hj e ej rfl rfl es (by rw [ew,z])) q3,q4⟩
   | ownO b fs zs =>
    obtain ⟨ad,l,rfl,q⟩:=q
    have n2:=(st.inn j _ ad l ej rfl ew q.l i (.own xs) (λz=>hj z) e).2 a rfl es
    exact ⟨ad,l,rfl,q.move vis (λ_ h=>h) (λ_ h=>h) (mem ad (λz=>st.apart i j (.own xs) (.ownO b fs zs) a hj e ej rfl rfl es (by rw [ew,z])) q.aO) (mem l (Ne.symm n2) q.lO) q.aB q.lB⟩
   | brwO fs zs=>obtain ⟨ad,rfl,q⟩:=q;exact ⟨ad,rfl,q.move (ae.refl B) vis⟩
   | brwD zs=>exact q
   | brw zs=>obtain ⟨ad,ws,rfl,q1,q2⟩:=q;exact ⟨ad,ws,rfl,q1,Reps.mono vis _ q2⟩
 ·have h1:∀ (j:Nat) (zs:MV),dy zs=true->(put ρ i (.val (.lst xs)))[j]?=some (some zs)->ρ[j]?=some (some zs):=λj zs oz q=>by
   by_cases hj:i=j
   ·subst hj;rw [ab hi'] at q;cases q;cases oz
   ·rw [aa hj] at q;exact q
  exact st.apart c d ps qs ad hcd (h1 c ps p1 e1) (h1 d qs p2 e2) p1 p2 e3 e4
 ·have hj:i ≠ j:=λz=>by subst z;rw [ab hi'] at ej;cases ej;cases hbm
  rw [aa hj] at ej
  exact ⟨ej,rfl⟩
end
end MM
namespace MM
open PySem PySem.Spec PyProof.Rows L2
section
open AutoSeq1 (wpAny_loadPart')
open MeetsSeq MeetsSeq2 MeetsSeq3 SeqRoads2 AutoSeq1
theorem mB (l:Addr) (items:Array Value) (n:Nat) (b:Addr) (items2:Array Value) (n2:Nat) (dd2:Option Addr) (sl2:Array (Option Value)) (hs0:¬(!items.isEmpty&&Builtin.List.listTooLong (items.size + items2.size))=true) (hs1:items.size <= sizeLine) (hs2:items.size + items2.size <= sizeLine + 1) :
  Meets (Builtin.«list.extend» ⟨[.ref l,.ref b],[]⟩) (λ_ R s=>s.heap.get? l=some { cls:=.type "list",dict:=none,data:=.seq items n,slots:=#[] }/\s.heap.get? b=some { cls:=.type "tuple",dict:=dd2,data:=.seq items2 n2,slots:=sl2 }/\R (.ok (.ret Value.none)) { s with heap:=s.heap.update l (Obj.mapSeq λx=>x ++ items2),toks:=s.toks }) :=
 .of_wp λprog w A R s h=>by
  obtain ⟨hp,g,d,tk,os⟩:=s;obtain ⟨hl,hb,h⟩:=h;have f1:=AutoSeq1.idx_int;have f2:=AutoSeq1.sub_tuple_tuple;have f3:=AutoSeq1.sub_list_list;have f4:=AutoSeq1.sub_tuple_list;have f5:=AutoSeq1.sub_list_tuple;
  have hz':(items ++ items2).size <= sizeLine + 1:=by rw [Array.size_append];exact hs2
  wp_walk using (wpAny_updateSeq hl rfl (hz:=hs1) (_hz':=hz')),wpAny_loadPart' hl,wpAny_loadPart' hb;exact ⟨_,rfl,h⟩
theorem mC (l:Addr) (items:Array Value) (n:Nat) (b:Addr) (items2:Array Value) (n2:Nat) (dd2:Option Addr) (sl2:Array (Option Value)) (hs0:¬(!items.isEmpty&&Builtin.List.listTooLong (items.size + items2.size))=true) (hs1:items.size <= sizeLine) (hs2:items.size + items2.size <= sizeLine + 1) :
  Meets (Builtin.«list.extend» ⟨[.ref l,.ref b],[]⟩) (λ_ R s=>s.heap.get? l=some { cls:=.type "list",dict:=none,data:=.seq items n,slots:=#[] }/\s.heap.get? b=some { cls:=.type "list",dict:=dd2,data:=.seq items2 n2,slots:=sl2 }/\R (.ok (.ret Value.none)) { s with heap:=s.heap.update l (Obj.mapSeq λx=>x ++ items2),toks:=s.toks }) :=
 .of_wp λprog w A R s h=>by
  obtain ⟨hp,g,d,tk,os⟩:=s;obtain ⟨hl,hb,h⟩:=h;have f1:=AutoSeq1.idx_int;have f2:=AutoSeq1.sub_tuple_tuple;have f3:=AutoSeq1.sub_list_list;have f4:=AutoSeq1.sub_tuple_list;have f5:=AutoSeq1.sub_list_tuple;
  have hz':(items ++ items2).size <= sizeLine + 1:=by rw [Array.size_append];exact hs2
  wp_walk using (wpAny_updateSeq hl rfl (hz:=hs1) (_hz':=hz')),wpAny_loadPart' hl,wpAny_loadPart' hb;exact ⟨_,rfl,h⟩
end
section
variable {X:Cx}{T:Tab}{k:Nat}{cal:Cal}
theorem pk:MtM X "list.extend" (λx vs H Q=>∃ l b xs zs,x=.ref l/\vs=[.ref b]/\H l=some (.lst xs)/\(SqL X.K H b zs \/ SqT X.K H b zs)/\xs.length + zs.length <= sizeLine/\Q .non (upd H l (.lst (xs ++ zs)))):=by
 intro pins s σ H x vs v us Q I rx rv h
 obtain ⟨l,b,xs,zs,rfl,rfl,hH,hB,hz,q⟩:=h
 cases rx
 obtain ⟨u,rfl,ru⟩:=rv.one
 cases ru
 obtain ⟨z,its,n,r,hl,e⟩:=I.lstM hH
 have fin:∀ its2:List Value,au zs its2->EP X pins σ Q .none { s with heap:=s.heap.update l (Obj.mapSeq λx=>x ++ its2.toArray),toks:=s.toks }:=λits2 r2 =>
  ⟨.non,_,I.lset (its':=its ++ its2) hH e (by simp) (r.append r2) (by rw [List.length_append];omega),rfl,q⟩
 rcases hB with hB|hB
 ·obtain ⟨its2,r2,pl,z2⟩:=I.list hB
  have hl2:=r2.length
  have hsz:its.toArray.size + its2.toArray.size <= sizeLine:=by rw [List.size_toArray,List.size_toArray];omega
  have hlong:¬ (!its.toArray.isEmpty&&Builtin.List.listTooLong (its.toArray.size + its2.toArray.size))=true:=by
   rw [mU hsz,Bool.and_false]
   exact Bool.false_ne_true
  obtain ⟨⟨cls,dd,data,sl⟩,ho,hc,n2,hd⟩:=pl.isList
  simp only at hc hd
  subst hc hd
  exact call_meets PySem.F.slot_list_extend ⟨_,e,rfl⟩ PySem.F.entry_list_extend (PySem.F.args_list_extend_2 _ _) (mC l its.toArray n b its2.toArray n2 dd sl hlong (by rw [List.size_toArray];omega) (by omega)) ⟨e,ho,fin its2 r2⟩
 ·obtain ⟨its2,r2,pl,z2⟩:=I.tuple hB
  have hl2:=r2.length
  have hsz:its.toArray.size + its2.toArray.size <= sizeLine:=by rw [List.size_toArray,List.size_toArray];omega
  have hlong:¬ (!its.toArray.isEmpty&&Builtin.List.listTooLong (its.toArray.size + its2.toArray.size))=true:=by
   rw [mU hsz,Bool.and_false]
   exact Bool.false_ne_true
  obtain ⟨⟨cls,dd,data,sl⟩,ho,hc,n2,hd⟩:=pl
  simp only at hc hd
  subst hc hd
  exact call_meets PySem.F.slot_list_extend ⟨_,e,rfl⟩ PySem.F.entry_list_extend (PySem.F.args_list_extend_2 _ _) (mB l its.toArray n b its2.toArray n2 dd sl hlong (by rw [List.size_toArray];omega) (by omega)) ⟨e,ho,fin its2 r2⟩
structure Df (X:Cx):Prop where
 nd:X.N.Nodup
 fn:∀ x,X.fn x=true
 own:PassesOwn (model X.prog X.w) X.A X.env X.xe
 blk:(X.env.blockKind == .function)=true
theorem cA {v:Expr} (h:bD v=true) (t:Option Expr) (n:Nat) (env:Env):swapsWith v t n env=pure false:=by
 cases v <;> first|rfl|(simp [bD] at h)
theorem rW {v:Expr}{x:Str}{px:Pos}{n:Nat} (d:Df X) (h:qp X.env.scope x px v=true):swapsWith v (some (.Name x px)) n X.env=pure true:=by
 cases v with
 | ListComp e gs s p =>
  show pure (X.env.blockKind == .function&&X.env.kindOf x == some .local&&px.line == p.line&&!(s.names.any λ(n,k)=>n == x&&(k == .local || k == .cell)))=pure true
  have h':(X.env.scope.names.lookup x == some .local&&px.line == p.line&&!(s.names.any λ(n,k)=>n == x&&(k == .local || k == .cell)))=true:=h
  rw [d.blk,Bool.true_and]
  exact congrArg pure h'
 | _=>simp [qp] at h
theorem PS.imp' {e:Stmt}{t t':TS} (h:PS X e t) (i:∀ D σ H,σ.length=X.N.length->t' D σ H->t D σ H):PS X e t':=λpins s σ H D I q=>h pins s σ H D I (i D σ H I.len q)
theorem ltN {N:List Str}{i:Nat}{x:Str}{σ:St} (h:N[i]?=some x) (hl:σ.length=N.length):i < σ.length:=by rw [hl];exact (List.getElem?_eq_some_iff.mp h).1
theorem cB {K:PySem.W.Frag}{B:Hp}{O₀ O:List Addr}{ρ:Rho}{σ:St}{D:fD}{o:Option PV}{f:PV->R} (h:du K B O₀ O ρ σ D (dh o f)):∃ v,o=some v/\du K B O₀ O ρ σ D (f v):=by
 cases o with
 | none=>exact (show False from h).elim
 | some v=>exact ⟨v,rfl,h⟩
theorem rX {K:PySem.W.Frag}{B:Hp}{O₀ O:List Addr}{ρ:Rho}{σ:St}{D:fD}{o:Option Bool}{f:Bool->R} (h:du K B O₀ O ρ σ D (t6 o f)):∃ v,o=some v/\du K B O₀ O ρ σ D (f v):=by
 cases o with
 | none=>exact (show False from h).elim
 | some v=>exact ⟨v,rfl,h⟩
theorem uN {i:Nat}{me:ME}{σ:St}{H:Hp}{D:fD}{K:PySem.W.Frag} (hi:i < σ.length) (hb:ax me=false) (q:tS K cal (.set i me) D σ H):ix (tE K cal me) (cD i) D σ H:=by
 obtain ⟨B,O₀,O,ρ,st,q⟩:=q
 rw [ex] at q
 obtain ⟨w,e,q⟩:=cB q
 refine ⟨B,O₀,O,ρ,w,st,e,λu H' s g=>?_⟩
 obtain ⟨st',k'⟩:=(st.mono s).store hi (g.2 hb)
 exact q _ H' O st' k'
theorem Bv {i:Nat}{me:ME}{x:Str}{v:Expr}{px pos:Pos} (d:Df X) (hi:X.N[i]?=some x) (hx:Loc X.env.scope x) (h:PE X v (tE X.K cal me)) (hb:ax me=false) (hc:bD v=true):PS X (.Assign [.Name x px] v pos) (tS X.K cal (.set i me)) :=
 PS.imp' (iy d.nd hi hx h (cA hc _ _ _) (.inl (d.fn x))) λD σ H hl q=>uN (ltN hi hl) hb q
theorem uO {i:Nat}{me:ME}{σ:St}{H:Hp}{D:fD}{K:PySem.W.Frag} (hi:i < σ.length) (q:tS K cal (.setOwn i me) D σ H):ix (tF K cal me) (cD i) D σ H:=by
 obtain ⟨B,O₀,O,ρ,st,q⟩:=q
 rw [ex] at q
 obtain ⟨w,e,q⟩:=cB q
 cases w with
 | lst xs =>
  refine ⟨B,O₀,O,ρ,xs,st,e,λp us H' s hp he r=>?_⟩
  obtain ⟨st',k'⟩:=st.storeOwn hi s hp he r
  exact q _ H' _ st' k'
 | _=>exact (show False from q).elim
theorem Bw {i:Nat}{me:ME}{x:Str}{v:Expr}{px pos:Pos} (d:Df X) (hi:X.N[i]?=some x) (hx:Loc X.env.scope x) (h:PE X v (tF X.K cal me)) (hc:bD v=true):PS X (.Assign [.Name x px] v pos) (tS X.K cal (.setOwn i me)) :=
 PS.imp' (iy d.nd hi hx h (cA hc _ _ _) (.inl (d.fn x))) λD σ H hl q=>uO (ltN hi hl) q
theorem uP {i:Nat}{me:ME}{x:Str}{v:Expr}{p apos cpos pos:Pos} (h:PE X v (tE X.K cal me)) (hn:ag X.N X.env.scope i x=true) (hb:ax me=false) (hs:am v=true) (hline:(apos.endLine == cpos.line)=true) :
  PS X (.Expr (.Call (.Attribute (.Name x p) "append" apos) [v] [] cpos) pos) (tS X.K cal (.append i me)):=by
 refine (fR (mT PySem.F.plainAttrs_list PySem.F.slot_list_append PySem.F.type_list_append fT (bb hn) (bC h cn (bj hs _ _)) rfl (by rw [bj hs];rfl) hline (bj hs _ _) rfl) rfl).imp λD σ H q=>?_
 obtain ⟨B,O₀,O,ρ,st,q⟩:=q
 rw [ex] at q
 obtain ⟨w,e,q⟩:=cB q
 cases hj:(ρ[i]?).join with
 | none=>rw [hj] at q;exact (show False from q).elim
 | some m =>
  rw [hj] at q
  cases m with
  | own xs =>
   dsimp only at q
   split at q
   ·rename_i hl
    obtain ⟨u,eu,a,us,rfl,ha,rs,hO,hB⟩:=aX st hj
    refine ⟨_,eu,.inl ⟨rfl,us,SqL.of ha⟩,B,O₀,O,ρ,w,st,e,λu H1 s g=>⟨a,us,u,rfl,rfl,s _ _ ha,?_,?_⟩⟩
    ·rw [<- rs.length];exact Nat.lt_of_lt_of_le hl (by decide)
    ·obtain ⟨st',k'⟩:=(st.mono s).change (us:=us ++ [u]) (ys:=xs ++ [w]) (join_some hj) eu ((Reps.mono (ar s) _ rs).snoc (g.2 hb))
     exact q _ _ _ st' k'
   ·exact (show False from q).elim
  | val _=>exact (show False from q).elim
  | brw _=>exact (show False from q).elim
  | ownD _=>exact (show False from q).elim
  | ownO _ _ _=>exact (show False from q).elim
  | brwO _ _=>exact (show False from q).elim
  | brwD _=>exact (show False from q).elim
theorem uQ {i:Nat}{me:ME}{x:Str}{v:Expr}{p apos cpos pos:Pos} (h:PE X v (tE X.K cal me)) (hn:ag X.N X.env.scope i x=true) (hs:am v=true) (hline:(apos.endLine == cpos.line)=true) :
  PS X (.Expr (.Call (.Attribute (.Name x p) "extend" apos) [v] [] cpos) pos) (tS X.K cal (.extend i me)):=by
 refine (fR (mT PySem.F.plainAttrs_list PySem.F.slot_list_extend PySem.F.type_list_extend pk (bb hn) (bC h cn (bj hs _ _)) rfl (by rw [bj hs];rfl) hline (bj hs _ _) rfl) rfl).imp λD σ H q=>?_
 obtain ⟨B,O₀,O,ρ,st,q⟩:=q
 rw [ex] at q
 obtain ⟨w,e,q⟩:=cB q
 cases hj:(ρ[i]?).join with
 | none=>rw [hj] at q;exact (show False from q).elim
 | some m =>
  rw [hj] at q
  cases m with
  | own xs =>
   cases hw:a9 w with
   | none=>rw [hw] at q;exact (show False from q).elim
   | some ys =>
    rw [hw] at q
    dsimp only at q
    split at q
    ·rename_i hl
     obtain ⟨u,eu,a,us,rfl,ha,rs,hO,hB⟩:=aX st hj
     refine ⟨_,eu,.inl ⟨rfl,us,SqL.of ha⟩,B,O₀,O,ρ,w,st,e,λu H1 s g=>?_⟩
     obtain ⟨b,ws,rfl,sq,rw'⟩:=g.1.seq hw
     refine ⟨a,b,us,ws,rfl,rfl,s _ _ ha,sq,?_,?_⟩
     ·rw [<- rs.length,<- rw'.length];exact eR hl
     ·obtain ⟨st',k'⟩:=(st.mono s).change (us:=us ++ ws) (ys:=xs ++ ys) (join_some hj) eu ((Reps.mono (ar s) _ rs).append rw')
      exact q _ _ _ st' k'
    ·exact (show False from q).elim
  | val _=>exact (show False from q).elim
  | brw _=>exact (show False from q).elim
  | ownD _=>exact (show False from q).elim
  | ownO _ _ _=>exact (show False from q).elim
  | brwO _ _=>exact (show False from q).elim
  | brwD _=>exact (show False from q).elim
theorem zr {me:ME}{v:Expr}{pos:Pos} (h:PE X v (tE X.K cal me)) (hc:bD v=true):PS X (.Expr v pos) (tS X.K cal (.expr me)):=by
 refine (fR h (cA hc _ _ _)).imp λD σ H q=>?_
 obtain ⟨B,O₀,O,ρ,st,q⟩:=q
 rw [ex] at q
 obtain ⟨w,e,q⟩:=cB q
 exact ⟨B,O₀,O,ρ,w,st,e,λu H' s g=>q _ H' O (st.mono s) .refl⟩
theorem Bx {me:ME}{v:Expr}{pos:Pos} (h:PE X v (tE X.K cal me)) (hb:ax me=false):PS X (.Return (some v) pos) (tS X.K cal (.ret me)):=by
 refine (oo h).imp λD σ H q=>?_
 obtain ⟨B,O₀,O,ρ,st,q⟩:=q
 rw [ex] at q
 obtain ⟨w,e,q⟩:=cB q
 exact ⟨B,O₀,O,ρ,w,st,e,λu H' s g=>q u H' (st.keep.trans s) (Rep.mono (bf (ae.refl H') λb hb=>.inl (st.sub b hb)) _ (g.2 hb))⟩
theorem uR {i:Nat}{x:Str}{p pos:Pos} (hn:ag X.N X.env.scope i x=true):PS X (.Return (some (.Name x p)) pos) (tS X.K cal (.retOwn i)):=by
 refine (oo (bb hn)).imp λD σ H q=>?_
 obtain ⟨B,O₀,O,ρ,st,q⟩:=q
 rw [ex] at q
 have low:ae (ak H O) (ak H O₀):=bf (ae.refl H) λb hb=>.inl (st.sub b hb)
 cases hj:(ρ[i]?).join with
 | none=>rw [hj] at q;exact (show False from q).elim
 | some m =>
  rw [hj] at q
  cases m with
  | own xs =>
   obtain ⟨u,eu,a,us,rfl,ha,rs,hO,hB⟩:=aX st hj
   refine ⟨_,eu,q _ H st.keep ?_⟩
   rw [Rep]
   refine ⟨a,us,rfl,SqL.of ?_,Reps.mono low _ rs⟩
   rw [aI λz=>st.old a z hB]
   exact ha
  | val v =>
   obtain ⟨u,eu,so⟩:=aX st hj
   exact ⟨_,eu,q _ H st.keep (Rep.mono low _ so)⟩
  | brw _=>exact (show False from q).elim
  | ownD kvs =>
   obtain ⟨u,eu,a,rfl,ha,hO,hB⟩:=aX st hj
   refine ⟨_,eu,q _ H st.keep ?_⟩
   rw [Rep]
   refine ⟨a,rfl,.inl ?_⟩
   rw [aI λz=>st.old a z hB]
   exact ha
  | ownO _ _ _=>exact (show False from q).elim
  | brwO _ _=>exact (show False from q).elim
  | brwD _=>exact (show False from q).elim
theorem CK {c:ME}{a b:List MS}{t:Expr}{x y:List Stmt}{pos:Pos} (hc:PT X t (tT X.K cal c)) (ha:PSs X x (tSs X.K cal a)) (hb:PSs X y (tSs X.K cal b)):PS X (.If t x y pos) (tS X.K cal (.ite c a b)):=by
 refine (AG hc ha hb).imp λD σ H q=>?_
 obtain ⟨B,O₀,O,ρ,st,q⟩:=q
 rw [ex] at q
 obtain ⟨w,e,q⟩:=rX q
 refine ⟨B,O₀,O,ρ,w,st,e,λH' s=>?_⟩
 cases w with
 | true=>rw [if_pos rfl] at q ⊢;exact ⟨B,O₀,O,ρ,st.mono s,q⟩
 | false=>rw [if_neg (by simp)] at q ⊢;exact ⟨B,O₀,O,ρ,st.mono s,q⟩
theorem zt {m:MS}{ms:List MS}{st:Stmt}{ss:List Stmt} (h1:PS X st (tS X.K cal m)) (h2:PSs X ss (tSs X.K cal ms)):PSs X (st::ss) (tSs X.K cal (m::ms)):=by
 refine (de h1 h2).imp λD σ H q=>?_
 obtain ⟨B,O₀,O,ρ,st,q⟩:=q
 refine ⟨B,O₀,O,ρ,st,?_⟩
 rw [exs] at q
 cases e:ex cal m ρ with
 | next ρ'=>rw [e] at q;exact λσ' H' O' st' k=>⟨B,O₀,O',ρ',st',du.trans q k⟩
 | brk ρ'=>rw [e] at q;exact q
 | cont ρ'=>rw [e] at q;exact q
 | ret v=>rw [e] at q;exact q
 | bad=>rw [e] at q;exact q
 | retF xs=>rw [e] at q;exact q
 | retT v ρ2=>rw [e] at q;exact q
theorem By:PSs X [] (tSs X.K cal []):=by
 refine v6.imp λD σ H q=>?_
 obtain ⟨B,O₀,O,ρ,st,q⟩:=q
 rw [exs] at q
 exact q σ H O st .refl
end
end MM
namespace MM
open PySem PySem.Spec PyProof.Rows L2
section
variable {K:PySem.W.Frag}{B H H':Hp}{O₀ O:List Addr}{ρ:Rho}{σ:St}
theorem uS {i j:Nat}{m:MV} (h:rL ρ i=true) (hj:i ≠ j) (e:ρ[j]?=some (some m)):isL m=false:=by
 have:=List.all_eq_true.mp h (some m) (List.mem_of_getElem? (show (ρ.set i none)[j]?=some (some m) by rw [List.getElem?_set_ne hj];exact e))
 simpa using this
theorem ig (st:aD K B O₀ O H ρ σ) {j:Nat}{m:MV}{c:Addr} (e:ρ[j]?=some (some m)) (o:dy m=true) (es:σ[j]?=some (some (.ref c))):H c ≠ none:=by
 obtain ⟨w,e1,q⟩:=st.slot j _ e
 rw [es] at e1
 cases e1
 cases m with
 | own zs=>obtain ⟨a,ws,e2,h1,_⟩:=q;cases e2;rw [h1];simp
 | ownD zs=>obtain ⟨a,e2,h1,_⟩:=q;cases e2;rw [h1];simp
 | ownO _ _ _=>obtain ⟨a,l,e2,q⟩:=q;cases e2;obtain ⟨C,dx,gs,h1,_⟩:=q.ob;rw [h1];simp
 | val _=>cases o
 | brw _=>cases o
 | brwD _=>cases o
 | brwO _ _=>cases o
theorem aD.changeO (st:aD K B O₀ O H ρ σ) {i:Nat}{b:Bool}{fs xs ys:List PV}{a l l':Addr} (e:ρ[i]?=some (some (.ownO b fs xs))) (es:σ[i]?=some (some (.ref a))) (q:d4 K B O H fs xs a l) (kp:∀ c o,c ≠ a->c ≠ l->H c=some o->H' c=some o) (hl:l'=l \/ H l'=none)
  (q':d4 K (λ_=>none) (l'::O.filter λb=>decide (b ≠ l)) H' fs ys a l'):aD K B O₀ (l'::O.filter λb=>decide (b ≠ l)) H' (put ρ i (.ownO b fs ys)) σ/\bw B O (l'::O.filter λb=>decide (b ≠ l)) ρ (put ρ i (.ownO b fs ys)) σ σ:=by
 have hi':i < ρ.length:=(List.getElem?_eq_some_iff.mp e).1
 have lB:B l'=none:=hl.elim (λz=>by rw [z];exact q.lB) st.keep.free
 have mem:∀ c,c ≠ l->c ∈ O->c ∈ l'::O.filter λb=>decide (b ≠ l):=λc hc ho=>List.mem_cons_of_mem _ (List.mem_filter.mpr ⟨ho,decide_eq_true hc⟩)
 have keep:ae B H':=λc u ec=>kp c u (λz=>by rw [z,q.aB] at ec;cases ec) (λz=>by rw [z,q.lB] at ec;cases ec) (st.keep c u ec)
 have vis:ae (ak H O) (ak H' (l'::O.filter λb=>decide (b ≠ l))):=λc u ec=>by
  have hc:c ∉ O:=λz=>by rw [eZ z] at ec;cases ec
  rw [aI hc] at ec
  rw [aI]
  ·exact kp c u (λz=>hc (z ▸ q.aO)) (λz=>hc (z ▸ q.lO)) ec
  ·intro z
   rcases List.mem_cons.mp z with z|z
   ·rcases hl with w|w
    ·exact hc (by rw [z,w];exact q.lO)
    ·rw [z,w] at ec;cases ec
   ·exact hc (List.mem_filter.mp z).1
 have oth:∀ (j:Nat) (m:MV) (c:Addr),i ≠ j->ρ[j]?=some (some m)->dy m=true->σ[j]?=some (some (.ref c))->c ≠ a/\c ≠ l:=λj m c hj ej o ec=>⟨λz=>st.apart i j _ m a hj e ej rfl o es (by rw [ec,z]),(st.inn i _ a l e rfl es q.l j m (Ne.symm hj) ej).2 c o ec⟩
 refine ⟨⟨keep,λc hc=>?_,λc hc=>mem c (λz=>st.old c hc (z ▸ q.lB)) (st.sub c hc),st.old,by rw [bx];exact st.len,λj m ej=>?_,λc d ps qs ad hcd e1 e2 p1 p2 e3 e4=>?_,λk m0 a2 l2 e1 l0 e2 e3 j m hjk ej=>?_⟩,⟨λc hc ho=>mem c (λz=>hc (z ▸ q.lB)) ho,λc hc=>?_,λj zs hbm ej=>?_,bx,λj gs zs ej=>?_⟩⟩
 ·rcases List.mem_cons.mp hc with rfl|hc
  ·obtain ⟨us,h1,_⟩:=q'.li
   rw [h1]
   simp
  ·obtain ⟨h1,h2⟩:=List.mem_filter.mp hc
   by_cases z:c=a
   ·subst z
    obtain ⟨C,dx,gs,h1,_⟩:=q'.ob
    rw [h1]
    simp
   ·cases eo:H c with
    | none=>exact absurd eo (st.here c h1)
    | some o=>rw [kp c o z (of_decide_eq_true h2) eo];simp
 ·by_cases hj:i=j
  ·subst hj
   rw [ab hi'] at ej
   cases ej
   exact ⟨_,es,a,l',rfl,q'.move (ae.refl _) (λ_ h=>h) (λ_ h=>h) q'.aO q'.lO q.aB lB⟩
  ·rw [aa hj] at ej
   obtain ⟨w,ew,qq⟩:=st.slot j m ej
   refine ⟨w,ew,?_⟩
   cases m with
   | val v=>exact Rep.mono vis _ qq
   | own zs =>
    obtain ⟨ad,ws,rfl,q1,q2,q3,q4⟩:=qq
    obtain ⟨n1,n2⟩:=oth j _ ad hj ej rfl ew
    exact ⟨ad,ws,rfl,kp _ _ n1 n2 q1,Reps.mono vis _ q2,mem _ n2 q3,q4⟩
   | ownD zs =>
    obtain ⟨ad,rfl,q1,q3,q4⟩:=qq
    obtain ⟨n1,n2⟩:=oth j _ ad hj ej rfl ew
    exact ⟨ad,rfl,kp _ _ n1 n2 q1,mem _ n2 q3,q4⟩
   | ownO _ _ _=>cases (st.inn i _ a l e rfl es q.l j _ (Ne.symm hj) ej).1
   | brw zs=>obtain ⟨ad,ws,rfl,q1,q2⟩:=qq;exact ⟨ad,ws,rfl,q1,Reps.mono vis _ q2⟩
   | brwD zs=>exact qq
   | brwO gs zs=>obtain ⟨ad,rfl,q1⟩:=qq;exact ⟨ad,rfl,q1.move (ae.refl B) vis⟩
 ·have h1:∀ (j:Nat) (zs:MV),(put ρ i (.ownO b fs ys))[j]?=some (some zs)->dy zs=true->∃ zs,ρ[j]?=some (some zs)/\dy zs=true:=λj zs q oz=>by
   by_cases hj:i=j
   ·subst hj;exact ⟨_,e,rfl⟩
   ·rw [aa hj] at q;exact ⟨zs,q,oz⟩
  obtain ⟨q1,e1,p1⟩:=h1 c ps e1 p1
  obtain ⟨q2,e2,p2⟩:=h1 d qs e2 p2
  exact st.apart c d q1 q2 ad hcd e1 e2 p1 p2 e3 e4
 ·have hk:i=k:=by
   cases Nat.decEq i k with
   | isTrue z=>exact z
   | isFalse z =>
    rw [aa z] at e1
    rw [(st.inn i _ a l e rfl es q.l k _ (Ne.symm z) e1).1] at l0
    cases l0
  subst hk
  rw [es] at e2
  cases e2
  rw [q'.l] at e3
  cases e3
  rw [aa (Ne.symm hjk)] at ej
  refine ⟨(st.inn i _ a l e rfl es q.l j m hjk ej).1,λc o ec z=>?_⟩
  rcases hl with w|w
  ·exact (st.inn i _ a l e rfl es q.l j m hjk ej).2 c o ec (by rw [z,w])
  ·exact ig st ej o ec (by rw [z,w])
 ·rcases List.mem_cons.mp hc with rfl|hc
  ·exact .inr lB
  ·exact .inl (List.mem_filter.mp hc).1
 ·have hj:i ≠ j:=λz=>by subst z;rw [ab hi'] at ej;cases ej;cases hbm
  rw [aa hj] at ej
  exact ⟨ej,rfl⟩
 ·by_cases hj:i=j
  ·subst hj
   rw [ab hi'] at ej
   cases ej
   exact ⟨⟨xs,e⟩,rfl⟩
  ·rw [aa hj] at ej
   exact ⟨⟨zs,ej⟩,rfl⟩
theorem aD.storeO (st:aD K B O₀ O H ρ σ) {i:Nat}{fs:List PV}{a l:Addr} (hi:i < σ.length) (hn:rL ρ i=true) (s:ae H H') (ha:H a=none) (hl:H l=none) (q:d4 K (λ_=>none) (a::l::O) H' fs [] a l) :
  aD K B O₀ (a::l::O) H' (put ρ i (.ownO false fs [])) (σ.set i (some (.ref a)))/\bw B O (a::l::O) ρ (put ρ i (.ownO false fs [])) σ (σ.set i (some (.ref a))):=by
 have hi':i < ρ.length:=by rw [st.len];exact hi
 have inO:∀ b ∈ O,b ∈ a::l::O:=λb h=>.tail _ (.tail _ h)
 have free:∀ b ∈ a::l::O,b ∈ O \/ H b=none:=λb h=>by
  rcases List.mem_cons.mp h with rfl|h
  ·exact .inr ha
  ·rcases List.mem_cons.mp h with rfl|h
   ·exact .inr hl
   ·exact .inl h
 have vis:ae (ak H O) (ak H' (a::l::O)):=bf s free
 refine ⟨⟨st.keep.trans s,λb h=>?_,λb h=>inO b (st.sub b h),st.old,by rw [bx,List.length_set];exact st.len,λj m ej=>?_,λc d xs ys ad hcd e1 e2 o1 o2 e3 e4=>?_,λk m0 a2 l2 e1 l0 e2 e3 j m hjk ej=>?_⟩,⟨λ_ _ h=>inO _ h,λb h=>(free b h).imp id st.keep.free,λj xs hbm ej=>?_,bx,λj gs zs ej=>?_⟩⟩
 ·rcases List.mem_cons.mp h with rfl|h
  ·obtain ⟨C,dx,gs,h1,_⟩:=q.ob
   rw [h1]
   simp
  ·rcases List.mem_cons.mp h with rfl|h
   ·obtain ⟨us,h1,_⟩:=q.li
    rw [h1]
    simp
   ·exact λz=>st.here b h (s.free z)
 ·by_cases hj:i=j
  ·subst hj
   rw [ab hi'] at ej
   cases ej
   exact ⟨_,List.getElem?_set_self hi,a,l,rfl,q.move (ae.refl _) (λ_ h=>h) (λ_ h=>h) q.aO q.lO (st.keep.free ha) (st.keep.free hl)⟩
  ·rw [aa hj] at ej
   obtain ⟨w,e1,qq⟩:=st.slot j m ej
   refine ⟨w,by rw [List.getElem?_set_ne hj];exact e1,?_⟩
   cases m with
   | val v=>exact Rep.mono vis _ qq
   | own ys=>obtain ⟨a,ws,e2,h1,h2,h3,h4⟩:=qq;exact ⟨a,ws,e2,s _ _ h1,Reps.mono vis _ h2,inO _ h3,h4⟩
   | brw ys=>obtain ⟨a,ws,e2,h1,h2⟩:=qq;exact ⟨a,ws,e2,h1,Reps.mono vis _ h2⟩
   | ownD ys=>obtain ⟨a,e2,h1,h3,h4⟩:=qq;exact ⟨a,e2,s _ _ h1,inO _ h3,h4⟩
   | ownO _ _ _=>cases uS hn hj ej
   | brwD ys=>exact qq
   | brwO gs zs=>obtain ⟨ad,e2,q1⟩:=qq;exact ⟨ad,e2,q1.move (ae.refl B) vis⟩
 ·by_cases hc:i=c
  ·subst hc
   rw [List.getElem?_set_self hi] at e3
   cases e3
   rw [aa hcd] at e2
   rw [List.getElem?_set_ne hcd] at e4
   exact ig st e2 o2 e4 ha
  ·by_cases hd:i=d
   ·subst hd
    rw [List.getElem?_set_self hi] at e4
    cases e4
    rw [aa hc] at e1
    rw [List.getElem?_set_ne hc] at e3
    exact ig st e1 o1 e3 ha
   ·rw [aa hc] at e1
    rw [aa hd] at e2
    rw [List.getElem?_set_ne hc] at e3
    rw [List.getElem?_set_ne hd] at e4
    exact st.apart c d _ _ ad hcd e1 e2 o1 o2 e3 e4
 ·have hk:i=k:=by
   cases Nat.decEq i k with
   | isTrue z=>exact z
   | isFalse z =>
    rw [aa z] at e1
    rw [uS hn z e1] at l0
    cases l0
  subst hk
  rw [List.getElem?_set_self hi] at e2
  cases e2
  rw [q.l] at e3
  cases e3
  rw [aa (Ne.symm hjk)] at ej
  refine ⟨uS hn (Ne.symm hjk) ej,λc o ec z=>?_⟩
  rw [List.getElem?_set_ne (Ne.symm hjk)] at ec
  exact ig st ej o ec (by rw [z,hl])
 ·have hj:i ≠ j:=λz=>by subst z;rw [ab hi'] at ej;cases ej;cases hbm
  rw [aa hj] at ej
  exact ⟨ej,List.getElem?_set_ne hj⟩
 ·have hj:i ≠ j:=λz=>by subst z;rw [ab hi'] at ej;cases ej
  rw [aa hj] at ej
  exact ⟨⟨zs,ej⟩,List.getElem?_set_ne hj⟩
theorem xh {F:Hp}{v:PV}{s:Sc}{u:V} (h:sc? v=some s) (r:Rep K F v u):u=s.v:=by
 cases v <;> first|(cases h;done)|(cases h;rw [Rep] at r;exact r)
theorem Bz {v:PV}{s:Sc} (h:sc? v=some s):v=s.pv:=by
 cases v <;> first|(cases h;done)|(cases h;rfl)
theorem xi (F:Hp) (s:Sc):Rep K F s.pv s.v:=by
 cases s <;> (show Rep K F _ _;unfold Sc.pv;rw [Rep];rfl)
end
section
variable {X:Cx}{T:Tab}{k:Nat}{cal:Cal}
theorem zu {me:ME}{v:Expr}{pos:Pos} (h:PE X v (tE X.K cal me)) (hb:ax me=false):PS X (.Return (some v) pos) (tS X.K cal (.retT me)):=by
 refine (oo h).imp λD σ H q=>?_
 obtain ⟨B,O₀,O,ρ,st,q⟩:=q
 rw [ex] at q
 obtain ⟨w,e,q⟩:=cB q
 refine ⟨B,O₀,O,ρ,w,st,e,λu H' s g=>?_⟩
 cases es:sc? w with
 | none=>rw [es] at q;exact (show False from q).elim
 | some sv =>
  rw [es] at q
  rw [xh es (g.2 hb)]
  exact q σ H' O (st.mono s) .refl
theorem zv {i:Nat}{me:ME}{x:Str}{v:Expr}{p fp apos cpos pos:Pos} (g:Gf X T k cal) (h:PE X v (tE X.K cal me)) (hn:ag X.N X.env.scope i x=true) (hb:ax me=false) (hs:am v=true) (hline:(apos.endLine == cpos.line)=true) :
  PS X (.Expr (.Call (.Attribute (.Attribute (.Name x p) "taken" fp) "append" apos) [v] [] cpos) pos) (tS X.K cal (.appO i me)):=by
 refine (fR (mT PySem.F.plainAttrs_list PySem.F.slot_list_append PySem.F.type_list_append fT (pi hn) (bC h cn (bj hs _ _)) rfl (by rw [bj hs];rfl) hline (bj hs _ _) rfl) rfl).imp λD σ H q=>?_
 obtain ⟨B,O₀,O,ρ,st,q⟩:=q
 rw [ex] at q
 obtain ⟨w,e,q⟩:=cB q
 cases hj:(ρ[i]?).join with
 | none=>rw [hj] at q;exact (show False from q).elim
 | some m =>
  rw [hj] at q
  cases m with
  | ownO b fs xs =>
   dsimp only at q
   split at q
   ·rename_i hl
    obtain ⟨u,eu,a,l,rfl,qq⟩:=aX st hj
    obtain ⟨C,dx,gs,h1,h2⟩:=qq.ob
    obtain ⟨us,h3,h4⟩:=qq.li
    obtain ⟨c1,_,c2⟩:=g.cls C h2.cls
    refine ⟨_,eu,a,C,dx,gs,.ref l,rfl,h1,c1,c2,h2.lst,.inl ⟨rfl,us,SqL.of h3⟩,B,O₀,O,ρ,w,st,e,λu H1 s g1=>⟨l,us,u,rfl,rfl,s _ _ h3,?_,?_⟩⟩
    ·rw [<- h4.length];exact Nat.lt_of_lt_of_le hl (by decide)
    ·have st1:=st.mono s
     have q1:=qq.move (ar s) (λ_=>s _ _) (λ_=>s _ _) qq.aO qq.lO qq.aB qq.lB
     have vis:ae (ak H1 O) (ak (upd H1 l (.lst (us ++ [u]))) (l::O.filter λb=>decide (b ≠ l))):=λc o ec=>by
      have hc:c ∉ O:=λz=>by rw [eZ z] at ec;cases ec
      rw [aI hc] at ec
      have hn:c ∉ l::O.filter λb=>decide (b ≠ l):=λz=>by
       rcases List.mem_cons.mp z with z|z
       ·exact hc (z ▸ qq.lO)
       ·exact hc (List.mem_filter.mp z).1
      have hcl:c ≠ l:=λz=>hc (z ▸ qq.lO)
      rw [aI hn,af hcl]
      exact ec
     obtain ⟨st',k'⟩:=st1.changeO (ys:=xs ++ [w]) (l':=l) (H':=upd H1 l (.lst (us ++ [u]))) (join_some hj) eu q1 (λc o _ n2 ec=>by rw [af n2];exact ec) (.inl rfl)
      ⟨⟨C,dx,gs,by rw [af qq.ne];exact s _ _ h1,(h2.mono (ar s)).mono vis⟩,⟨_,aj,Reps.mono vis _ ((Reps.mono (ar s) _ h4).snoc (g1.2 hb))⟩,List.mem_cons_of_mem _ (List.mem_filter.mpr ⟨qq.aO,decide_eq_true qq.ne⟩),List.mem_cons_self,rfl,rfl,qq.ne⟩
     exact q _ _ _ st' k'
   ·exact (show False from q).elim
  | _=>exact (show False from q).elim
theorem lr {K:PySem.W.Frag}{O:List Addr}{H:Hp}{a l:Addr} (ha:a ∈ O) (hl:l ∈ O):∀ {as:List PV}{ws:List V},Reps K (ak H O) as ws->Paired (d7 K O (dq H [a,l])) (as.map .val) ws
 | [],ws,r=>by
  have e:ws=[]:=by simpa only [Reps] using r
  subst e
  exact .nil
 | v::as,ws,r=>by
  rw [Reps] at r
  obtain ⟨u,t,rfl,h1,h2⟩:=r
  exact .cons (by show Rep K (ak (dq H [a,l]) O) v u;rw [k_ ha hl];exact h1) (lr ha hl h2)
noncomputable def tTk (K:PySem.W.Frag) (cal:Cal) (f i:Nat) (ms:List ME):TE:=λσ H Q=>∃ B O₀ O ρ b fs xs vs v ys,aD K B O₀ O H ρ σ/\(ρ[i]?).join=some (.ownO b fs xs)/\evs cal ms ρ=some vs/\cal (f + 3000) (.ownO true fs xs::vs.map .val)=some (.tup [Sc.pv v,.lst ys]) /\
 ∀ H' O',aD K B O₀ O' H' (put ρ i (.ownO b fs ys)) σ->bw B O O' ρ (put ρ i (.ownO b fs ys)) σ σ->Q v.v H'
theorem qE {f i:Nat}{ms:List ME}{x m:Str}{es:List Expr}{p ap pos:Pos} (g:Gf X T k cal) (hf:T.ms[f]?=some (some m)) (hM:m ∈ k7) (hn:ag X.N X.env.scope i x=true) (ha:PA X es (tEs X.K cal ms)) (hb:(ms.all λm=>!ax m)=true) (hs:es.all am=true) (hl:ms.length=es.length) (hline:(ap.endLine == pos.line)=true) (h30:decide (es.length < 30)=true):PE X (.Call (.Attribute (.Name x p) m ap) es [] pos) (tTk X.K cal f i ms):=by
 by_cases hC:∃ C,IsC X.K C
 ·obtain ⟨C,hC⟩:=hC
  have one:∀ C',IsC X.K C'->C'=C:=λC' h=>by
   have:=h.symm.trans hC
   cases this
   rfl
  obtain ⟨fa,fd,ps,h1,h3,F⟩:=g.methsT f m hf C hC
  have key:∀ σ H Q,tTk X.K cal f i ms σ H Q->pX C m (spT X.K cal f) [] E0 (eX i) (tEs X.K cal ms) σ H Q:=λσ H Q q=>by
   obtain ⟨B,O₀,O,ρ,b,fs,xs,vs,v,ys,st,hj,e1,e2,q⟩:=q
   obtain ⟨u,eu,a,l,rfl,qq⟩:=aX st hj
   obtain ⟨C',dx,gs,f1,f2⟩:=id qq.ob
   have hCC:=one C' f2.cls
   subst hCC
   refine ⟨_,eu,a,dx,gs,rfl,f1,f2.no m hM,B,O₀,O,ρ,vs,st,e1,λus' H1 s1 g1=>?_⟩
   show spT X.K cal f (V.ref a::(us' ++ [])) H1 Q E0
   rw [List.append_nil]
   have q1:d4 X.K B O H1 fs xs a l:=qq.move (ar s1) (λ_=>s1 _ _) (λ_=>s1 _ _) qq.aO qq.lO qq.aB qq.lB
   refine ⟨O,a,l,fs,xs,vs.map .val,us',v,ys,rfl,bu s1 st.here,q1.move (ae.refl _) (λ_ h=>h) (λ_ h=>h) qq.aO qq.lO rfl rfl,lr qq.aO qq.lO (g1.2 hb),e2,λl' H' kp hl' q2=>?_⟩
   obtain ⟨st',k'⟩:=(st.mono s1).changeO (join_some hj) eu q1 kp hl' q2
   exact q _ _ st' k'
  cases es with
  | nil =>
   refine (mP (bb hn) (g.cls C hC).1 h1 F g.room h3 .nil iX (jq hs h30 hline)).imp λσ H Q q=>?_
   obtain ⟨u,eu,a,dx,gs,e,f1,f2,B,O₀,O,ρ,vs,st,e1,q⟩:=key σ H Q q
   cases ms with
   | nil =>
    simp only [evs,Option.some.injEq] at e1
    subst e1
    exact ⟨u,eu,a,dx,gs,e,f1,f2,q [] H (ae.refl H) ⟨.nil,λ_=>.nil⟩⟩
   | cons _ _=>cases hl
  | cons e es =>
   simp only [List.all_cons,Bool.and_eq_true] at hs
   exact (pY (bb hn) (g.cls C hC).1 h1 F g.room h3 .nil iX ha (bj hs.1 _ _) (bm hs.2) (jq (by simp [hs]) h30 hline)).imp key
 ·exact λpins s σ H Q I q=>by
   obtain ⟨B,O₀,O,ρ,b,fs,xs,vs,v,ys,st,hj,_⟩:=q
   obtain ⟨u,eu,a,l,rfl,qq⟩:=aX st hj
   obtain ⟨C',dx,gs,f1,f2⟩:=id qq.ob
   exact absurd ⟨C',f2.cls⟩ hC
noncomputable def x_ (ρ:Rho) (i:Nat) (m:MV) (v:PV):Option Nat->R
 | some j=>if i=j then .bad else .next (put (put ρ i m) j (.val v))
 | none=>.next (put ρ i m)
theorem lv {B:Hp}{O₀ O:List Addr}{ρ:Rho}{σ:St}{D:fD}{j:Option Nat}{i f:Nat}{ms:List ME} (q:du X.K B O₀ O ρ σ D (ex cal (.takeO j i f ms) ρ)):∃ b fs xs vs v ys,(ρ[i]?).join=some (.ownO b fs xs)/\evs cal ms ρ=some vs/\cal (f + 3000) (.ownO true fs xs::vs.map .val)=some (.tup [Sc.pv v,.lst ys]) /\
  du X.K B O₀ O ρ σ D (x_ ρ i (.ownO b fs ys) v.pv j):=by
 rw [ex] at q
 cases hj:(ρ[i]?).join with
 | none=>rw [hj] at q;exact (show False from q).elim
 | some m =>
  rw [hj] at q
  cases m with
  | ownO b fs xs =>
   dsimp only at q
   split at q
   ·rename_i v ys e
    rw [Option.bind_eq_some_iff] at e
    obtain ⟨vs,e1,e2⟩:=e
    cases es:sc? v with
    | none=>rw [es] at q;exact (show False from q).elim
    | some sv =>
     rw [es] at q
     have hv:=Bz es
     subst hv
     cases j <;> exact ⟨b,fs,xs,vs,sv,ys,rfl,e1,e2,q⟩
   ·exact (show False from q).elim
  | _=>exact (show False from q).elim
theorem xj {i j f:Nat}{ms:List ME}{x:Str}{v:Expr}{px pos:Pos} (d:Df X) (hi:X.N[j]?=some x) (hx:Loc X.env.scope x) (h:PE X v (tTk X.K cal f i ms)) (hc:bD v=true):PS X (.Assign [.Name x px] v pos) (tS X.K cal (.takeO (some j) i f ms)) :=
 PS.imp' (iy d.nd hi hx h (cA hc _ _ _) (.inl (d.fn x))) λD σ H hl q=>by
  obtain ⟨B,O₀,O,ρ,st,q⟩:=q
  obtain ⟨b,fs,xs,vs,w,ys,e1,e2,e3,q⟩:=lv q
  refine ⟨B,O₀,O,ρ,b,fs,xs,vs,w,ys,st,e1,e2,e3,λH' O' st' k'=>?_⟩
  simp only [x_] at q
  split at q
  ·exact (show False from q).elim
  ·obtain ⟨st2,k2⟩:=st'.store (ltN hi hl) (xi (K:=X.K) _ w)
   exact q _ _ _ st2 (k'.trans k2)
theorem xk {i f:Nat}{ms:List ME}{v:Expr}{pos:Pos} (h:PE X v (tTk X.K cal f i ms)) (hs:bD v=true):PS X (.Expr v pos) (tS X.K cal (.takeO none i f ms)):=by
 refine (fR h (by cases v <;> first|rfl|(cases hs;done))).imp λD σ H q=>?_
 obtain ⟨B,O₀,O,ρ,st,q⟩:=q
 obtain ⟨b,fs,xs,vs,w,ys,e1,e2,e3,q⟩:=lv q
 exact ⟨B,O₀,O,ρ,b,fs,xs,vs,w,ys,st,e1,e2,e3,λH' O' st' k'=>q _ _ _ st' k'⟩
theorem uT {c r o:V}{l:Addr}:(nB c r o l).lookup ("hole_count":Str)=some c/\(nB c r o l).lookup ("ribbons":Str)=some r/\(nB c r o l).lookup ("opener":Str)=some o/\(nB c r o l).lookup ("taken":Str)=some (.ref l)/\∀ m ∈ k7,(nB c r o l).lookup m=none:=by
 unfold nB
 refine ⟨?_,?_,?_,?_,λm hm=>?_⟩
 ·rw [aA,if_neg (by decide +kernel),aA,if_neg (by decide +kernel),aA,if_neg (by decide +kernel),aA,if_pos rfl]
 ·rw [aA,if_neg (by decide +kernel),aA,if_neg (by decide +kernel),aA,if_pos rfl]
 ·rw [aA,if_neg (by decide +kernel),aA,if_pos rfl]
 ·rw [aA,if_pos rfl]
 ·have ne:∀ x ∈ (["taken","opener","ribbons","hole_count"]:List Str),m ≠ x:=λx hx z=>by
   subst z
   exact absurd hx (by revert m;decide +kernel)
  rw [aA,if_neg (ne _ (by simp)),aA,if_neg (ne _ (by simp)),aA,if_neg (ne _ (by simp)),aA,if_neg (ne _ (by simp))]
  rfl
theorem qF {vs fs:List PV} (h:rM vs=some fs):∃ c r o,(vs=[.tup [c,r],o] \/ vs=[.tup [c,r]]/\o=.str "weaver")/\fs=[c,r,o]:=by
 unfold rM at h
 split at h
 ·cases h;exact ⟨_,_,_,.inl rfl,rfl⟩
 ·cases h;exact ⟨_,_,_,.inr ⟨rfl,rfl⟩,rfl⟩
 ·cases h
theorem uU {K:PySem.W.Frag}{B H H1:Hp}{O₀ O:List Addr}{ρ:Rho}{σ:St}{D:fD}{i:Nat}{c r o:PV}{C a dx la:Addr}{ts:List V}{uo:V} (hi:i < σ.length) (hC:IsC K C) (hn:rL ρ i=true) (st:aD K B O₀ O H ρ σ) (s1:ae H H1) (q:du K B O₀ O ρ σ D (.next (put ρ i (.ownO false [c,r,o] []))))
  (ht:ak H1 O la=some (.tup ts)) (rt:Reps K (ak H1 O) [c,r] ts) (ro:Rep K (ak H1 O) o uo) (na:H1 a=none) (nd:H1 dx=none):spI K C [.ref a,.ref la,uo] (upd (upd H1 dx (.own a)) a (.ins C dx [])) (λv H2=>v=.non/\D.nx (σ.set i (some (.ref a))) H2) E0:=by
 rw [Reps] at rt
 obtain ⟨uc,r3,rfl,rc,rt⟩:=rt
 rw [Reps] at rt
 obtain ⟨ur,r4,rfl,rr,rt⟩:=rt
 rw [Reps] at rt
 subst rt
 have s2:ae H1 (upd (upd H1 dx (.own a)) a (.ins C dx [])):=λb u eb=>by rw [af (aH eb na),af (aH eb nd)];exact eb
 refine ⟨a,dx,la,uc,ur,uo,rfl,aj,s2.seqT (SqT.of (aW H1 O _ _ ht)),λl H' nl ea el kp=>⟨rfl,?_⟩⟩
 have hla:a ≠ l:=λz=>by rw [<- z,aj] at nl;cases nl
 have nl1:H1 l=none:=s2.free nl
 have s3:ae H1 H':=λb u eb=>kp b u (aH eb na) (s2 b u eb)
 have vis:ae (ak H1 O) (ak H' (a::l::O)):=bf s3 λb h=>by
  rcases List.mem_cons.mp h with rfl|h
  ·exact .inr na
  ·rcases List.mem_cons.mp h with rfl|h
   ·exact .inr nl1
   ·exact .inl h
 obtain ⟨f1,f2,f3,f4,f5⟩:=uT (c:=uc) (r:=ur) (o:=uo) (l:=l)
 have hf:∀ (n:Nat) (x:Str) (v:PV),gF[n]?=some x->([c,r,o]:List PV)[n]?=some v->∃ u,(nB uc ur uo l).lookup x=some u/\Rep K (ak H' (a::l::O)) v u:=λn x v en evv=>by
  match n,en,evv with
  | 0,en,evv=>cases en;cases evv;exact ⟨uc,f1,Rep.mono vis _ rc⟩
  | 1,en,evv=>cases en;cases evv;exact ⟨ur,f2,Rep.mono vis _ rr⟩
  | 2,en,evv=>cases en;cases evv;exact ⟨uo,f3,Rep.mono vis _ ro⟩
 obtain ⟨st',k'⟩:=st.storeO (fs:=[c,r,o]) hi hn (s1.trans s3) (s1.free na) (s1.free nl1) ⟨⟨C,dx,_,ea,hC,hf,f4,f5⟩,⟨[],el,.nil⟩,List.mem_cons_self,List.mem_cons_of_mem _ List.mem_cons_self,rfl,rfl,hla⟩
 exact q _ _ _ st' k'
theorem BA {i:Nat}{ms:List ME}{e:Expr}{es:List Expr}{x:Str}{px p cp pos:Pos} (g:Gf X T k cal) (d:Df X) (hi:X.N[i]?=some x) (hx:Loc X.env.scope x) (hg:glB X.env.scope ("Table":Str)=true) (ha:PA X (e::es) (tEs X.K cal ms)) (hb:(ms.all λm=>!ax m)=true) (hs:(e::es).all am=true) (hln:ms.length=(e::es).length) :
  PS X (.Assign [.Name x px] (.Call (.Name ("Table":Str) p) (e::es) [] cp) pos) (tS X.K cal (.mkO i ms)):=by
 by_cases hL:cal 4000 [] ≠ none
 ·obtain ⟨C,hC,hm,fa,fd,ps,M,hbd,F,dv,hbl,hdv⟩:=g.ini hL
  simp only [List.all_cons,Bool.and_eq_true] at hs
  cases es with
  | nil =>
   refine PS.imp' (iy d.nd hi hx (pZ M F (g.lvl hL) (eT hg) hm hbl hdv iX ha (by decide) (bj hs.1 _ _) (bm hs.2)) (cA (v:=.Call (.Name ("Table":Str) p) [e] [] cp) rfl _ _ _) (.inl (d.fn x))) λD σ H hl q=>?_
   obtain ⟨B,O₀,O,ρ,st,q⟩:=q
   rw [ex] at q
   cases ev1:(evs cal ms ρ).bind rM with
   | none=>rw [ev1] at q;exact (show False from q).elim
   | some fs =>
    rw [ev1] at q
    dsimp only at q
    split at q
    ·rename_i c0
     rw [Option.bind_eq_some_iff] at ev1
     obtain ⟨vs,e1,e2⟩:=ev1
     obtain ⟨c,r,o,hv,rfl⟩:=qF e2
     have hvl:=ib e1
     rcases hv with rfl|⟨rfl,rfl⟩
     ·rw [hln] at hvl
      simp at hvl
     ·refine ⟨B,O₀,O,ρ,_,st,e1,λus H1 s1 g1 a dx na nd ne=>?_⟩
      have rs:=g1.2 hb
      rw [Reps] at rs
      obtain ⟨ut,r1,rfl,rt,rs⟩:=rs
      rw [Reps] at rs
      subst rs
      rw [Rep] at rt
      obtain ⟨la,ts,rfl,ht,rt⟩:=rt
      exact uU (ltN hi hl) hC c0.1 st s1 q ht rt (by rw [Rep]) na nd
    ·exact (show False from q).elim
  | cons e' es =>
   refine PS.imp' (iy d.nd hi hx (pZ M F (g.lvl hL) (eT hg) hm hbd .nil iX ha (by decide) (bj hs.1 _ _) (bm (by simpa using hs.2))) (cA (v:=.Call (.Name ("Table":Str) p) (e::e'::es) [] cp) rfl _ _ _) (.inl (d.fn x))) λD σ H hl q=>?_
   obtain ⟨B,O₀,O,ρ,st,q⟩:=q
   rw [ex] at q
   cases ev1:(evs cal ms ρ).bind rM with
   | none=>rw [ev1] at q;exact (show False from q).elim
   | some fs =>
    rw [ev1] at q
    dsimp only at q
    split at q
    ·rename_i c0
     rw [Option.bind_eq_some_iff] at ev1
     obtain ⟨vs,e1,e2⟩:=ev1
     obtain ⟨c,r,o,hv,rfl⟩:=qF e2
     have hvl:=ib e1
     rcases hv with rfl|⟨rfl,rfl⟩
     ·refine ⟨B,O₀,O,ρ,_,st,e1,λus H1 s1 g1 a dx na nd ne=>?_⟩
      have rs:=g1.2 hb
      rw [Reps] at rs
      obtain ⟨ut,r1,rfl,rt,rs⟩:=rs
      rw [Reps] at rs
      obtain ⟨uo,r2,rfl,ro,rs⟩:=rs
      rw [Reps] at rs
      subst rs
      rw [Rep] at rt
      obtain ⟨la,ts,rfl,ht,rt⟩:=rt
      exact uU (ltN hi hl) hC c0.1 st s1 q ht rt ro na nd
     ·rw [hln] at hvl
      simp at hvl
    ·exact (show False from q).elim
 ·exact λpins s σ H D I q=>by
   obtain ⟨B,O₀,O,ρ,st,q⟩:=q
   rw [ex] at q
   cases ev1:(evs cal ms ρ).bind rM with
   | none=>rw [ev1] at q;exact (show False from q).elim
   | some fs =>
    rw [ev1] at q
    dsimp only at q
    rw [if_neg λz=>hL z.2] at q
    exact (show False from q).elim
end
end MM
namespace MM
open PySem PySem.Spec PyProof.Rows L2
theorem fX:∀ (b:Bool) (xs:List Int) (x:Int),cv b (xs ++ [x])=if (b == decide (xs.length % 2=0))=true then cv b xs ++ [x] else cv b xs
 | true,[],x=>rfl
 | false,[],x=>rfl
 | true,y::xs,x=>by
  show y::cv false (xs ++ [x])=if (true == decide ((xs.length + 1) % 2=0))=true then (y::cv false xs) ++ [x] else y::cv false xs
  rw [fX false xs x]
  by_cases c:xs.length % 2=0
  ·rw [decide_eq_true c,decide_eq_false (by omega),if_neg (by decide),if_neg (by decide)]
  ·rw [decide_eq_false c,decide_eq_true (by omega),if_pos (by decide),if_pos (by decide)];rfl
 | false,y::xs,x=>by
  show cv true (xs ++ [x])=if (false == decide ((xs.length + 1) % 2=0))=true then cv true xs ++ [x] else cv true xs
  rw [fX true xs x]
  by_cases c:xs.length % 2=0
  ·rw [decide_eq_true c,decide_eq_false (by omega),if_pos (by decide),if_pos (by decide)]
  ·rw [decide_eq_false c,decide_eq_true (by omega),if_neg (by decide),if_neg (by decide)]
theorem kd:∀ (b:Bool) (xs:List Int),(cv b xs).length <= xs.length
 | true,[]=>Nat.le_refl _
 | false,[]=>Nat.le_refl _
 | true,_::xs=>Nat.succ_le_succ (kd false xs)
 | false,_::xs=>Nat.le_succ_of_le (kd true xs)
section
variable {X:Cx}{T:Tab}{k:Nat}{cal:Cal}
theorem aD.anyK {K:PySem.W.Frag}{B H:Hp}{O₀ O:List Addr}{ρ:Rho}{σ:St}{j:Nat} (st:aD K B O₀ O H ρ σ) (hj:ρ[j]?=some none) (w:Option V):aD K B O₀ O H ρ (σ.set j w)/\bw B O O ρ ρ σ (σ.set j w):=by
 have ne:∀ (i:Nat) (m:MV),ρ[i]?=some (some m)->j ≠ i:=λi m e z=>by
  subst z
  rw [e] at hj
  cases hj
 refine ⟨⟨st.keep,st.here,st.sub,st.old,by rw [List.length_set];exact st.len,λi m e=>?_,λi i' m m' a hij e1 e2 o1 o2 e3 e4=>?_,λi m0 a l e il es el j' m hne e'=>?_⟩,⟨λ_ _ h=>h,λ_ h=>.inl h,λi m _ e=>⟨e,List.getElem?_set_ne (ne i m e)⟩,rfl,λi fs xs e=>⟨⟨xs,e⟩,List.getElem?_set_ne (ne i _ e)⟩⟩⟩
 ·rw [List.getElem?_set_ne (ne i m e)]
  exact st.slot i m e
 ·rw [List.getElem?_set_ne (ne i m e1)] at e3
  rw [List.getElem?_set_ne (ne i' m' e2)] at e4
  exact st.apart i i' m m' a hij e1 e2 o1 o2 e3 e4
 ·rw [List.getElem?_set_ne (ne i m0 e)] at es
  obtain ⟨h1,h2⟩:=st.inn i m0 a l e il es el j' m hne e'
  exact ⟨h1,λc o ec=>h2 c o (by rw [List.getElem?_set_ne (ne j' m e')] at ec;exact ec)⟩
structure ke (H H':Hp) (t:Str) (ns:List Int) (p l1 l2:Addr) (n:Nat):Prop where
 d:H' p=some (.dK [(Sum.inr "weaver",.ref l1),(Sum.inr "moth",.ref l2)])
 w:H' l1=some (.lst ((cv (t == "weaver") (ns.take n)).map V.int))
 m:H' l2=some (.lst ((cv (t == "moth") (ns.take n)).map V.int))
 s:ae H H'
theorem lw {t:Str} (ht:t="weaver" \/ t="moth") (n:Nat):(bg t n="weaver"/\bg t (n + 1)="moth"/\((t == "weaver") == decide (n % 2=0))=true/\((t == "moth") == decide (n % 2=0))=false) \/ (bg t n="moth"/\bg t (n + 1)="weaver"/\((t == "weaver") == decide (n % 2=0))=false/\((t == "moth") == decide (n % 2=0))=true):=by
 unfold bg
 rcases ht with rfl|rfl <;> by_cases c:n % 2=0
 ·have c':¬ (n + 1) % 2=0:=by omega
  rw [if_pos c,if_neg c',decide_eq_true c];exact .inl ⟨rfl,rfl,by decide,by decide⟩
 ·have c':(n + 1) % 2=0:=by omega
  rw [if_neg c,if_pos c',decide_eq_false c];exact .inr ⟨rfl,rfl,by decide,by decide⟩
 ·have c':¬ (n + 1) % 2=0:=by omega
  rw [if_pos c,if_neg c',decide_eq_true c];exact .inr ⟨rfl,rfl,by decide,by decide⟩
 ·have c':(n + 1) % 2=0:=by omega
  rw [if_neg c,if_pos c',decide_eq_false c];exact .inl ⟨by decide,rfl,by decide,by decide⟩
theorem zw (x:Str) (hx:x="weaver" \/ x="moth"):gN (dS [] (gW [("weaver","moth"),("moth","weaver")])) (Sum.inr x)=some (V.str (if x="weaver" then "moth" else "weaver")):=by
 rcases hx with rfl|rfl <;> rfl
theorem ke.next {H H':Hp}{t:Str}{ns:List Int}{p l1 l2:Addr}{n:Nat} (f:ke H H' t ns p l1 l2 n) (ht:t="weaver" \/ t="moth") (hn:n < ns.length) (np:H p=none) (n1:H l1=none) (n2:H l2=none) (h12:l1 ≠ l2) (hp1:p ≠ l1) (hp2:p ≠ l2) :
  ∃ l us,gN ([(Sum.inr "weaver",V.ref l1),(Sum.inr "moth",V.ref l2)]:List (Key × V)) (Sum.inr (bg t n))=some (.ref l)/\H' l=some (.lst us)/\us.length <= n/\ke H (upd H' l (.lst (us ++ [.int ns[n]]))) t ns p l1 l2 (n + 1):=by
 have tk:ns.take (n + 1)=ns.take n ++ [ns[n]]:=by rw [List.take_succ_eq_append_getElem hn]
 have ln:(ns.take n).length=n:=by rw [List.length_take];omega
 have a1:=fX (t == "weaver") (ns.take n) ns[n]
 have a2:=fX (t == "moth") (ns.take n) ns[n]
 rw [ln] at a1 a2
 have z:∀ b,((cv b (ns.take n)).map V.int).length <= n:=λb=>by
  have:=kd b (ns.take n)
  rw [List.length_map]
  omega
 rcases lw ht n with ⟨e1,e2,e3,e4⟩|⟨e1,e2,e3,e4⟩
 ·rw [if_pos e3] at a1
  rw [if_neg (by rw [e4];decide)] at a2
  refine ⟨l1,_,by rw [e1];rfl,f.w,z _,⟨by rw [af hp1];exact f.d,by rw [aj,tk,a1,List.map_append];rfl,by rw [af h12.symm,tk,a2];exact f.m,λb o eb=>?_⟩⟩
  rw [af λq=>by rw [q,n1] at eb;cases eb]
  exact f.s b o eb
 ·rw [if_neg (by rw [e3];decide)] at a1
  rw [if_pos e4] at a2
  refine ⟨l2,_,by rw [e1];rfl,f.m,z _,⟨by rw [af hp2];exact f.d,by rw [af h12,tk,a1];exact f.w,by rw [aj,tk,a2,List.map_append];rfl,λb o eb=>?_⟩⟩
  rw [af λq=>by rw [q,n2] at eb;cases eb]
  exact f.s b o eb
theorem pp {t:Str} (ht:t="weaver" \/ t="moth") (n:Nat):(bg t n="weaver" \/ bg t n="moth")/\bg t (n + 1)=(if bg t n="weaver" then ("moth":Str) else ("weaver":Str)):=by
 rcases lw ht n with ⟨e1,e2,_⟩|⟨e1,e2,_⟩
 ·rw [e1,e2];exact ⟨.inl rfl,rfl⟩
 ·rw [e1,e2];exact ⟨.inr rfl,by decide⟩
theorem ke.mono {H H' H'':Hp}{t:Str}{ns:List Int}{p l1 l2:Addr}{n:Nat} (f:ke H H' t ns p l1 l2 n) (s:ae H' H''):ke H H'' t ns p l1 l2 n:=⟨s _ _ f.d,s _ _ f.w,s _ _ f.m,f.s.trans s⟩
theorem uV (g:Gf X T k cal):X.A.units + 1 < cLine:=by
 have:=g.units
 omega
theorem pq {i:Nat}{x:Str}{e:Expr}{te:TE}{px pos:Pos} (d:Df X) (hx:X.N[i]?=some x) (lx:Loc X.env.scope x) (h:PE X e te) (nc:bD e=true):PS X (.Assign [.Name x px] e pos) (ix te (cD i)) :=
 iy d.nd hx lx h (cA nc _ _ _) (.inl (d.fn x))
theorem zx {j1 j2:Nat}{p1 p2 q1 q2 dp:Pos}:PE X (.Dict [some (.Constant (.str "weaver") j1 p1),some (.Constant (.str "moth") j2 p2)] [.List [] q1,.List [] q2] dp) (jD [(tC (.str "weaver"),lQ gK),(tC (.str "moth"),lQ gK)]) :=
 @lX X dp [some (.Constant (.str "weaver") j1 p1),some (.Constant (.str "moth") j2 p2)] [.List [] q1,.List [] q2] [(tC (.str "weaver"),lQ gK),(tC (.str "moth"),lQ gK)] (jB gu (lR cn) (jB gu (lR cn) p8)) rfl rfl (List.cons_ne_nil _ _) (by simp only [List.length_cons,List.length_nil];decide)
theorem qG {ρ:Rho}{k:Nat} (h:tY ρ k=true):ρ[k]?=some none:=by
 unfold tY at h
 split at h
 ·assumption
 ·cases h
noncomputable def BB (K:PySem.W.Frag) (cal:Cal) (i j k' d:Nat) (h:ME) (u:TS):TS:=qY (ix (jD [(tC (.str "weaver"),lQ gK),(tC (.str "moth"),lQ gK)]) (cD i)) (qY (ix (tE K cal h) (cD j)) (qY (v8 (xP K (eX d)) (cD k')
 (qY (pR (tBM K "list" jh (jA (eX i) (eX j)) (pW (eX k') gK))) (ix (jA (jD [(tC (.str "weaver"),tC (.str "moth")),(tC (.str "moth"),tC (.str "weaver"))]) (eX j)) (cD j)))) u))
theorem rY {K:PySem.W.Frag}{i j k':Nat}{D:fD}{τ:St}{H H':Hp}{t:Str}{ns:List Int}{p l1 l2:Addr}{n:Nat} (f:ke H H' t ns p l1 l2 n) (ht:t="weaver" \/ t="moth") (hn:n < ns.length) (h1000:ns.length <= 1000) (np:H p=none) (n1:H l1=none) (n2:H l2=none) (h12:l1 ≠ l2) (hp1:p ≠ l1) (hp2:p ≠ l2)
  (ei:τ[i]?=some (some (.ref p))) (ej:τ[j]?=some (some (.str (bg t n)))) (ek:τ[k']?=some (some (.int ns[n]))) (q:∀ H2,ke H H2 t ns p l1 l2 (n + 1)->D.nx (τ.set j (some (.str (bg t (n + 1))))) H2) :
  qY (pR (tBM K "list" jh (jA (eX i) (eX j)) (pW (eX k') gK))) (ix (jA (jD [(tC (.str "weaver"),tC (.str "moth")),(tC (.str "moth"),tC (.str "weaver"))]) (eX j)) (cD j)) D τ H':=by
 obtain ⟨l,us,e1,e2,e3,f'⟩:=f.next ht hn np n1 n2 h12 hp1 hp2
 obtain ⟨g1,g2⟩:=pp ht n
 refine ⟨_,ei,_,ej,p,.ref l,rfl,.inl ⟨_,Sum.inr (bg t n),.inl f.d,rfl,e1.symm⟩,.inl ⟨rfl,us,SqL.of e2⟩,_,ek,l,us,_,rfl,rfl,e2,?_,?_⟩
 ·have:(1000:Nat) < PySem.sizeLine:=by decide
  omega
 ·intro b hb
  have s:ae (upd H' l (.lst (us ++ [.int ns[n]]))) (upd (upd (upd H' l (.lst (us ++ [.int ns[n]]))) b (.dK [])) b (.dK (dS [] (gW [("weaver","moth"),("moth","weaver")])))):=λc o ec=>by
   have hc:c ≠ b:=λz=>by rw [z,hb] at ec;cases ec
   rw [af hc,af hc]
   exact ec
  refine ⟨aj,gW [("weaver","moth"),("moth","weaver")],rfl,by decide,_,ej,b,_,rfl,.inl ⟨_,Sum.inr (bg t n),.inl aj,rfl,(zw _ g1).symm⟩,?_⟩
  rw [<- g2]
  exact q _ (f'.mono s)
theorem lz {K:PySem.W.Frag}{F:Hp}:∀ {xs:List PV}{ns:List Int}{ws:List V},aU xs=some ns->Reps K F xs ws->ws=ns.map V.int
 | [],ns,ws,e,r=>by
  cases e
  have e':ws=[]:=by simpa only [Reps] using r
  exact e'
 | .int i::xs,ns,ws,e,r=>by
  simp only [aU,Option.map_eq_some_iff] at e
  obtain ⟨ns',e1,rfl⟩:=e
  rw [Reps] at r
  obtain ⟨u,t,rfl,h1,h2⟩:=r
  rw [Rep] at h1
  rw [h1,lz e1 h2]
  rfl
theorem iR {K:PySem.W.Frag}{F:Hp}:∀ (ns:List Int),Reps K F (ns.map PV.int) (ns.map V.int)
 | []=>.nil
 | n::ns=>.cons (by rw [Rep]) (iR ns)
theorem uW {K:PySem.W.Frag}{i j k' d:Nat}{h:ME}{ms:List MS} (nb:ax h=false) (ne:i ≠ j/\i ≠ k'/\j ≠ k'/\d ≠ i/\d ≠ j/\d ≠ k') {D:fD}{σ:St}{H:Hp} (q:tSs K cal (.own3 i j k' d h::ms) D σ H):BB K cal i j k' d h (tSs K cal ms) D σ H:=by
 obtain ⟨B,O₀,O,ρ,st,q⟩:=q
 obtain ⟨nij,nik,njk,ndi,ndj,ndk⟩:=ne
 rw [exs,ex] at q
 split at q
 ·rename_i xs tt e1 e2
  split at q
  ·rename_i ns e3
   split at q
   ·rename_i c
    obtain ⟨c1,c2,c3,c4,c5⟩:=c
    have uk:ρ[k']?=some none:=qG c2
    have ui:ρ[i]?=some none:=qG c3
    have il:i < σ.length:=by rw [<- st.len];exact (List.getElem?_eq_some_iff.mp ui).1
    have kl:k' < σ.length:=by rw [<- st.len];exact (List.getElem?_eq_some_iff.mp uk).1
    have jl:j < σ.length:=by rw [<- st.len];exact c4
    obtain ⟨u,eu,qd⟩:=aX st e1
    obtain ⟨a,ws,rfl,h1,h2⟩:=qd
    have hw:=lz e3 h2
    subst hw
    intro p np
    refine ⟨Nat.zero_le _,λl1 h3=>⟨Nat.zero_le _,λl2 h4=>?_⟩⟩
    have hp1:p ≠ l1:=λz=>by rw [<- z,aj] at h3;cases h3
    have n1:H l1=none:=by rw [af hp1.symm] at h3;exact h3
    have h12:l1 ≠ l2:=λz=>by rw [<- z,aj] at h4;cases h4
    rw [af h12.symm] at h4
    have hp2:p ≠ l2:=λz=>by rw [<- z,aj] at h4;cases h4
    have n2:H l2=none:=by rw [af hp2.symm] at h4;exact h4
    refine ⟨by rw [af hp2,af hp1,aj],[(Sum.inr "weaver",.ref l1),(Sum.inr "moth",.ref l2)],rfl,by show 2 <= 15;decide,?_⟩
    have f0:ke H (upd (upd (upd (upd H p (.dK [])) l1 (.lst [])) l2 (.lst [])) p (.dK (dS [] [(Sum.inr "weaver",.ref l1),(Sum.inr "moth",.ref l2)]))) tt ns p l1 l2 0 :=
     ⟨aj,by rw [af hp1.symm,af h12,aj];cases (tt == "weaver") <;> rfl,by rw [af hp2.symm,aj];cases (tt == "moth") <;> rfl,λb o eb=>by rw [af (aH eb np),af (aH eb n2),af (aH eb n1),af (aH eb np)];exact eb⟩
    obtain ⟨st1,k1⟩:=(st.mono f0.s).anyK ui (some (.ref p))
    refine ⟨B,O₀,O,ρ,_,st1,e2,λu H1 s1 g1=>?_⟩
    have hu:=g1.2 nb
    rw [Rep] at hu
    subst hu
    have f1:=f0.mono s1
    refine ⟨_,by rw [List.getElem?_set_ne (Ne.symm ndj),List.getElem?_set_ne (Ne.symm ndi)];exact eu,a,rfl,⟨_,ae.seq (st.keep.trans f1.s) h1⟩,λn m τ H2=>∃ τ',(τ'=σ.set i (some (.ref p)) \/ ∃ v,τ'=(σ.set i (some (.ref p))).set k' v)/\τ=τ'.set j (some (.str (bg tt n)))/\n <= ns.length/\m=ns.length - n/\ke H H2 tt ns p l1 l2 n,⟨_,_,.inl rfl,rfl,Nat.zero_le _,rfl,f1⟩,λn m τ H2 w=>?_⟩
    obtain ⟨τ',hτ,rfl,hn,rfl,f2⟩:=w
    have sa:SqL K H2 a (ns.map V.int):=ae.seq (st.keep.trans f2.s) h1
    by_cases hlt:n < ns.length
    ·refine .inr ⟨⟨_,_,sa,List.getElem?_eq_getElem (by rw [List.length_map];exact hlt)⟩,λτ2 H3=>∃ τ',(τ'=σ.set i (some (.ref p)) \/ ∃ v,τ'=(σ.set i (some (.ref p))).set k' v)/\τ2=τ'.set j (some (.str (bg tt (n + 1))))/\ke H H3 tt ns p l1 l2 (n + 1),λτ2 H3 ⟨τ1,g1,g2,g3⟩=>⟨ns.length - (n + 1),by omega,τ1,g1,g2,hlt,rfl,g3⟩,λx H3 hy=>?_⟩
     obtain ⟨rfl,hy⟩:=hy
     have hx:=hy _ sa
     rw [List.getElem?_map,List.getElem?_eq_getElem hlt] at hx
     cases hx
     have tl:τ'.length=σ.length:=by rcases hτ with rfl|⟨v,rfl⟩ <;> simp
     refine rY f2 c5 hlt c1 np n1 n2 h12 hp1 hp2 ?_ ?_ ?_ λH4 f4=>⟨(σ.set i (some (.ref p))).set k' (some (.int ns[n])),.inr ⟨_,rfl⟩,?_,f4⟩
     ·rw [List.getElem?_set_ne (Ne.symm nik),List.getElem?_set_ne (Ne.symm nij)]
      rcases hτ with rfl|⟨v,rfl⟩
      ·exact List.getElem?_set_self il
      ·rw [List.getElem?_set_ne (Ne.symm nik)]
       exact List.getElem?_set_self il
     ·rw [List.getElem?_set_ne (Ne.symm njk),List.getElem?_set_self (by rw [tl];exact jl)]
     ·rw [List.getElem?_set_self (by rw [List.length_set,tl];exact kl)]
     ·rw [List.set_comm _ _ njk,List.set_set]
      rcases hτ with rfl|⟨v,rfl⟩
      ·rfl
      ·rw [List.set_set]
    ·have hn':n=ns.length:=by omega
     subst hn'
     refine .inl ⟨⟨_,sa,by rw [List.length_map];exact Nat.le_refl _⟩,?_⟩
     have out:∀ b,H b=none->b ∉ O:=λb hb hc=>st.here b hc hb
     have hd:=f2.d
     have hw:=f2.w
     have hm:=f2.m
     rw [List.take_length] at hw hm
     obtain ⟨st2,k2⟩:=(st.mono f2.s).store (i:=i) (v:=.dL ((cv (tt == "weaver") ns).map .int) ((cv (tt == "moth") ns).map .int)) (u:=.ref p) il (by
      rw [Rep]
      exact ⟨p,l1,l2,_,_,rfl,by rw [aI (out p np)];exact hd,SqL.of (by rw [aI (out l1 n1)];exact hw),iR _,SqL.of (by rw [aI (out l2 n2)];exact hm),iR _⟩)
     have fin:∀ τ'',aD K B O₀ O H2 (put ρ i (.val (.dL ((cv (tt == "weaver") ns).map .int) ((cv (tt == "moth") ns).map .int)))) τ''->bw B O O ρ (put ρ i (.val (.dL ((cv (tt == "weaver") ns).map .int) ((cv (tt == "moth") ns).map .int)))) σ τ''->j < τ''.length->tSs K cal ms D (τ''.set j (some (.str (bg tt ns.length)))) H2:=λτ'' sx kx jx=>by
      obtain ⟨st3,k3⟩:=sx.store (i:=j) (v:=.str (bg tt ns.length)) (u:=.str (bg tt ns.length)) jx (by rw [Rep])
      exact ⟨B,O₀,O,_,st3,du.trans q (kx.trans k3)⟩
     rcases hτ with rfl|⟨v,rfl⟩
     ·exact fin _ st2 k2 (by rw [List.length_set];exact jl)
     ·obtain ⟨st3,k3⟩:=st2.anyK (j:=k') (by rw [aa nik];exact uk) v
      exact fin _ st3 (k2.trans k3) (by rw [List.length_set,List.length_set];exact jl)
   ·exact (show False from q).elim
  ·exact (show False from q).elim
 ·exact (show False from q).elim
theorem uX {i j k' d:Nat}{h:ME}{ms:List MS}{s1 s2 s3 s4:Stmt}{ss:List Stmt}{y z:Str}{py pz pos:Pos} (g:Gf X T k cal) (d':Df X) (nb:ax h=false) (ne:i ≠ j/\i ≠ k'/\j ≠ k'/\d ≠ i/\d ≠ j/\d ≠ k') (hy:X.N[k']?=some y) (ly:Loc X.env.scope y) (hz:ag X.N X.env.scope d z=true)
  (a1:PS X s1 (ix (jD [(tC (.str "weaver"),lQ gK),(tC (.str "moth"),lQ gK)]) (cD i))) (a2:PS X s2 (ix (tE X.K cal h) (cD j))) (a3:PS X s3 (pR (tBM X.K "list" jh (jA (eX i) (eX j)) (pW (eX k') gK)))) (a4:PS X s4 (ix (jA (jD [(tC (.str "weaver"),tC (.str "moth")),(tC (.str "moth"),tC (.str "weaver"))]) (eX j)) (cD j))) (hss:PSs X ss (tSs X.K cal ms)):PSs X (s1::s2::.For (.Name y py) (.Name z pz) [s3,s4] [] pos::ss) (tSs X.K cal (.own3 i j k' d h::ms)) :=
 @PSs.imp X _ (BB X.K cal i j k' d h (tSs X.K cal ms)) _ (de a1 (de a2 (de (oB d'.own g.calm (jf (bb hz)) (je d'.nd hy ly (.inl (d'.fn y))) (de a3 (pQ a4)) (by intro v;rfl)) hss))) λD σ H q=>uW nb ne q
theorem zy {i j k' d:Nat}{h:ME}{ms:List MS}{ss:List Stmt}{s1 s2 s3:Stmt}{x y y2 z o t t2 t3 u:Str}{v:Expr}{ks:List (Option Expr)}{vs:List Expr}{px p1 p2 q1 q2 dp pos pu pos2 py pz po pt ps p3 ep pt2 dp2 pt3 ps2 pa pos3 ap cp:Pos}{j1 j2:Nat} (g:Gf X T k cal) (d':Df X)
  (hx:X.N[i]?=some x) (lx:Loc X.env.scope x) (hu:X.N[j]?=some u) (lu:Loc X.env.scope u) (hv:PE X v (tE X.K cal h)) (nb:ax h=false) (nc:bD v=true) (hy:X.N[k']?=some y) (ly:Loc X.env.scope y) (hz:ag X.N X.env.scope d z=true) (ho:ag X.N X.env.scope i o=true) (ht:ag X.N X.env.scope j t=true) (hline:(ap.endLine == cp.line)=true) (hy2:ag X.N X.env.scope k' y2=true) (ht2:X.N[j]?=some t2) (lt2:Loc X.env.scope t2) (ht3:ag X.N X.env.scope j t3=true)
  (hd:i5 [("weaver","moth"),("moth","weaver")] ks vs=true) (ne:i ≠ j/\i ≠ k'/\j ≠ k'/\d ≠ i/\d ≠ j/\d ≠ k') (hss:PSs X ss (tSs X.K cal ms)) (f1:s1=.Assign [.Name x px] (.Dict [some (.Constant (.str "weaver") j1 p1),some (.Constant (.str "moth") j2 p2)] [.List [] q1,.List [] q2] dp) pos) (f2:s2=.Assign [.Name u pu] v pos2) (f3:s3=.For (.Name y py) (.Name z pz) [.Expr (.Call (.Attribute (.Subscript (.Name o po) (.Name t pt) ps) "append" ap) [.Name y2 p3] [] cp) ep,.Assign [.Name t2 pt2] (.Subscript (.Dict ks vs dp2) (.Name t3 pt3) ps2) pa] [] pos3) :
  PSs X (s1::s2::s3::ss) (tSs X.K cal (.own3 i j k' d h::ms)):=by
 subst f1 f2 f3
 have hun:=uV g
 obtain ⟨r1,r2,r3,r4⟩:=j8 (X:=X) (kpos:=dp2) hd
 exact @uX X T k cal i j k' d h ms _ _ _ _ ss y z py pz pos3 g d' nb ne hy ly hz (@pq X i x _ _ px pos d' hx lx zx rfl) (@pq X j u v _ pu pos2 d' hu lu hv nc)
  (fR (@mT X (.Subscript (.Name o po) (.Name t pt) ps) (.Name y2 p3) [] _ _ "append" ap cp _ _ _ PySem.F.plainAttrs_list PySem.F.slot_list_append PySem.F.type_list_append fT (ji hun (bb ho) (bb ht) (λ_ _=>rfl)) (bC (bb hy2) cn rfl) rfl rfl hline rfl rfl) rfl)
  (@pq X j t2 _ _ pt2 pa d' ht2 lt2 (ji (pos:=ps2) hun (lX r1 r2 r3 (λz=>by rw [z] at r4;cases r4) (by rw [r4];decide)) (bb (pos:=pt3) ht3) (λ_ _=>rfl)) rfl) hss
end
end MM
namespace MM
open PySem PySem.Spec PyProof.Rows L2
section
variable {K:PySem.W.Frag}{B H:Hp}{O₀ O:List Addr}{ρ:Rho}{σ:St}
theorem BC {H1 H':Hp}{O' L:List Addr}{ρ':Rho}{σ':St} (st':aD K (bq B O H1 L) O₀ O' H' ρ' σ') (k:bw (bq B O H1 L) O O' ρ ρ' σ σ'):ae (ak H1 O) (ak H' O'):=λb u e=>by
 have hb:b ∉ O:=λz=>by rw [eZ z] at e;cases e
 have hg:bq B O H1 L b=some u:=bH b u e
 rw [aI]
 ·exact st'.keep b u hg
 ·intro z
  rcases k.new b z with q|q
  ·exact hb q
  ·rw [hg] at q;cases q
theorem xl {ms:List ME} (st:aD K B O₀ O H ρ σ):aD K (bq B O H (aK ms ρ σ)) O₀ O H (bA ms ρ) σ/\(bA ms ρ).length=ρ.length:=by
 have base:∀ L:List Addr,(∀ a ∈ L,∀ (j:Nat) (ys:MV),(bA ms ρ)[j]?=some (some ys)->dy ys=true->σ[j]? ≠ some (some (.ref a)))->(∀ (j:Nat) (m:MV),(bA ms ρ)[j]?=some (some m)->(∃ ys,m=.brw ys/\ρ[j]?=some (some (.own ys))/\∃ a,σ[j]?=some (some (.ref a))/\a ∈ L) \/ ρ[j]?=some (some m))->(bA ms ρ).length=ρ.length ->
   (∀ a ∈ L,∀ (j:Nat) (m1:MV) (c l:Addr),ρ[j]?=some (some m1)->isL m1=true->σ[j]?=some (some (.ref c))->lOf (H c)=some l->a ≠ l) ->
   aD K (bq B O H L) O₀ O H (bA ms ρ) σ:=λL h1 h2 h3 h4=>by
  have gl:=nJ (O:=O) (L:=L) st.keep
  have lg:=cJ (O:=O) (L:=L) st.keep
  refine ⟨gl,st.here,st.sub,λa ha z=>st.old a ha (lg.free z),h3.trans st.len,λj m e=>?_,λc d ps qs ad hcd e1 e2 p1 p2 e3 e4=>?_
   ,d6 st.inn (λj mo e l0=>by
    rcases h2 j _ e with ⟨_,z,_⟩|e2
    ·rw [z] at l0;cases l0
    ·exact ⟨⟨mo,e2,l0⟩,rfl,λ_ _ _ h=>h⟩) λj m c e _ o ec=>.inl (by
    rcases h2 j _ e with ⟨_,z,_⟩|e2
    ·rw [z] at o;cases o
    ·exact ⟨m,e2,o,ec⟩)
   ⟩
  ·rcases h2 j m e with ⟨ys,rfl,e2,a,ea,haL⟩|e2
   ·obtain ⟨u,eu,a',us,rfl,q1,q2,q3,q4⟩:=st.slot j _ e2
    rw [ea] at eu
    cases eu
    refine ⟨_,ea,a,us,rfl,SqL.of ?_,q2⟩
    unfold bq
    rw [if_pos q3,if_pos haL]
    exact q1
   ·obtain ⟨u,eu,q⟩:=st.slot j m e2
    refine ⟨u,eu,?_⟩
    cases m with
    | val v=>exact q
    | own ys =>
     obtain ⟨a,us,rfl,q1,q2,q3,q4⟩:=q
     refine ⟨a,us,rfl,q1,q2,q3,?_⟩
     unfold bq
     rw [if_pos q3,if_neg λhaL=>h1 a haL j (.own ys) e rfl eu]
     exact q4
    | ownD ys =>
     obtain ⟨a,rfl,q1,q3,q4⟩:=q
     refine ⟨a,rfl,q1,q3,?_⟩
     unfold bq
     rw [if_pos q3,if_neg λhaL=>h1 a haL j (.ownD ys) e rfl eu]
     exact q4
    | ownO b fs ys =>
     obtain ⟨a,l,rfl,q⟩:=q
     refine ⟨a,l,rfl,q.move (ae.refl _) (λ_ h=>h) (λ_ h=>h) q.aO q.lO ?_ ?_⟩
     ·unfold bq
      rw [if_pos q.aO,if_neg λhaL=>h1 a haL j (.ownO b fs ys) e rfl eu]
      exact q.aB
     ·unfold bq
      rw [if_pos q.lO,if_neg λhbL=>h4 l hbL j _ a l e2 rfl eu q.l rfl]
      exact q.lB
    | brwO fs ys=>obtain ⟨a,rfl,q⟩:=q;exact ⟨a,rfl,q.move lg (ae.refl _)⟩
    | brwD ys=>obtain ⟨a,rfl,q1⟩:=q;exact ⟨a,rfl,ae.rd lg q1⟩
    | brw ys=>obtain ⟨a,us,rfl,q1,q2⟩:=q;exact ⟨a,us,rfl,lg.seq q1,q2⟩
  ·rcases h2 c _ e1 with ⟨_,rfl,_⟩|e1
   ·cases p1
   ·rcases h2 d _ e2 with ⟨_,rfl,_⟩|e2
    ·cases p2
    ·exact st.apart c d ps qs ad hcd e1 e2 p1 p2 e3 e4
 have plain:bA ms ρ=ρ->aK ms ρ σ=[]->aD K (bq B O H (aK ms ρ σ)) O₀ O H (bA ms ρ) σ/\(bA ms ρ).length=ρ.length:=λe1 e2=>by
  rw [e2]
  exact ⟨base [] (λa ha=>by simp at ha) (λj m e=>.inr (by rw [e1] at e;exact e)) (by rw [e1]) (λa ha=>by simp at ha),by rw [e1]⟩
 match ms with
 | []=>exact plain rfl rfl
 | [.bor i] =>
  cases hj:(ρ[i]?).join with
  | none=>exact plain (by simp [bA,hj]) (by simp [aK,hj])
  | some m =>
   cases m with
   | val _=>exact plain (by simp [bA,hj]) (by simp [aK,hj])
   | brw _=>exact plain (by simp [bA,hj]) (by simp [aK,hj])
   | ownD _=>exact plain (by simp [bA,hj]) (by simp [aK,hj])
   | ownO _ _ _=>exact plain (by simp [bA,hj]) (by simp [aK,hj])
   | brwO _ _=>exact plain (by simp [bA,hj]) (by simp [aK,hj])
   | brwD _=>exact plain (by simp [bA,hj]) (by simp [aK,hj])
   | own xs =>
    have el:bA [.bor i] ρ=put ρ i (.brw xs):=by simp [bA,hj]
    have e0:=join_some hj
    obtain ⟨u,eu,a,us,rfl,q1,q2,q3,q4⟩:=st.slot i _ e0
    have eL:aK [.bor i] ρ σ=[a]:=by simp [aK,hj,eu]
    have hi':i < ρ.length:=(List.getElem?_eq_some_iff.mp e0).1
    rw [eL]
    refine ⟨base [a] (λb hb j ys e oy z=>?_) (λj m e=>?_) (by rw [el,bx]) (λb hb j m1 c l f1 f0 f2 f3=>by
     rw [List.mem_singleton.mp hb]
     exact (st.inn j m1 c l f1 f0 f2 f3 i (.own xs) (λz=>by subst z;rw [e0] at f1;cases f1;cases f0) e0).2 a rfl eu),by rw [el,bx]⟩
    ·have:b=a:=by simpa using hb
     subst this
     rw [el] at e
     have hj':i ≠ j:=λz=>by subst z;rw [ab hi'] at e;cases e;cases oy
     rw [aa hj'] at e
     exact st.apart i j (.own xs) ys b hj' e0 e rfl oy eu z
    ·rw [el] at e
     by_cases hij:i=j
     ·subst hij
      rw [ab hi'] at e
      cases e
      exact .inl ⟨xs,rfl,e0,a,eu,by simp⟩
     ·rw [aa hij] at e
      exact .inr e
 | .var _::_=>exact plain rfl rfl
 | .cst _::_=>exact plain rfl rfl
 | .glob _ _::_=>exact plain rfl rfl
 | .bin _ _ _::_=>exact plain rfl rfl
 | .neg _::_=>exact plain rfl rfl
 | .not _::_=>exact plain rfl rfl
 | .and _ _::_=>exact plain rfl rfl
 | .or _ _::_=>exact plain rfl rfl
 | .ite _ _ _::_=>exact plain rfl rfl
 | .cmp _ _ _::_=>exact plain rfl rfl
 | .chain _ _ _ _ _::_=>exact plain rfl rfl
 | .tup _::_=>exact plain rfl rfl
 | .lst _::_=>exact plain rfl rfl
 | .idx _ _::_=>exact plain rfl rfl
 | .slice _ _ _::_=>exact plain rfl rfl
 | .blt _ _::_=>exact plain rfl rfl
 | .call _ _::_=>exact plain rfl rfl
 | .callD _ _ _::_=>exact plain rfl rfl
 | .comp _ _ _ _ _::_=>exact plain rfl rfl
 | .dget _ _ _::_=>exact plain rfl rfl
 | .dat _ _::_=>exact plain rfl rfl
 | .dIn _ _ _::_=>exact plain rfl rfl
 | .datL _ _::_=>exact plain rfl rfl
 | .disp _ _::_=>exact plain rfl rfl
 | .join _ _::_=>exact plain rfl rfl
 | .fld _ _::_=>exact plain rfl rfl
 | .fldL _::_=>exact plain rfl rfl
 | .inO _ _ _::_=>exact plain rfl rfl
 | .callM _ _ _::_=>exact plain rfl rfl
 | .comp2 _ _ _ _::_=>exact plain rfl rfl
 | .callV _ _::_=>exact plain rfl rfl
 | .bor _::_::_=>exact plain rfl rfl
theorem ij {ms:List ME}{j:Nat}{ys:List PV} (h:(bA ms ρ)[j]?=some (some (.brw ys))):ρ[j]?=some (some (.brw ys)) \/ (ms=[.bor j]/\ρ[j]?=some (some (.own ys))):=by
 unfold bA at h
 split at h
 ·rename_i i
  split at h
  ·rename_i xs hj
   have e0:=join_some hj
   have hi':i < ρ.length:=(List.getElem?_eq_some_iff.mp e0).1
   by_cases hij:i=j
   ·subst hij
    rw [ab hi'] at h
    cases h
    exact .inr ⟨rfl,e0⟩
   ·rw [aa hij] at h
    exact .inl h
  ·exact .inl h
 ·exact .inl h
theorem iS {ms:List ME}{j:Nat}{ys:DD} (h:(bA ms ρ)[j]?=some (some (.brwD ys))):ρ[j]?=some (some (.brwD ys)):=by
 unfold bA at h
 split at h
 ·rename_i i
  split at h
  ·rename_i xs hj
   have e0:=join_some hj
   have hi':i < ρ.length:=(List.getElem?_eq_some_iff.mp e0).1
   by_cases hij:i=j
   ·subst hij
    rw [ab hi'] at h
    cases h
   ·rw [aa hij] at h
    exact h
  ·exact h
 ·exact h
theorem fY {ms:List ME}{j:Nat}{m:MV} (hb:∀ xs,m ≠ .brw xs) (h:(bA ms ρ)[j]?=some (some m)):ρ[j]?=some (some m):=by
 unfold bA at h
 split at h
 ·rename_i i
  split at h
  ·rename_i xs hj
   have e0:=join_some hj
   have hi':i < ρ.length:=(List.getElem?_eq_some_iff.mp e0).1
   by_cases hij:i=j
   ·subst hij
    rw [ab hi'] at h
    cases h
    exact absurd rfl (hb xs)
   ·rw [aa hij] at h
    exact h
  ·exact h
 ·exact h
theorem kf {ms:List ME}:(bA ms ρ).length=ρ.length:=by
 unfold bA
 split
 ·split
  ·exact bx
  ·rfl
 ·rfl
theorem mD {ms:List ME}{H1 H':Hp}{O':List Addr}{ρ':Rho}{σ':St} (st:aD K B O₀ O H1 ρ σ) (st':aD K (bq B O H1 (aK ms ρ σ)) O₀ O' H' ρ' σ') (k:bw (bq B O H1 (aK ms ρ σ)) O O' (bA ms ρ) ρ' σ σ') :
  aD K B O₀ O' H' (ba ms ρ ρ') σ'/\bw B O O' ρ (ba ms ρ ρ') σ σ':=by
 have lg:=cJ (O:=O) (L:=aK ms ρ σ) st.keep
 have vis:=BC st' k
 have stay:∀ a,B a ≠ none->a ∈ O->a ∈ O':=λa h1 h2=>k.stay a (λz=>h1 (lg.free z)) h2
 have new:∀ a ∈ O',a ∈ O \/ B a=none:=λa h=>(k.new a h).imp id lg.free
 have mutO:∀ (j:Nat) (fs xs:List PV),ρ'[j]?=some (some (.ownO true fs xs))->(∃ ys,ρ[j]?=some (some (.ownO true fs ys)))/\σ'[j]?=σ[j]?:=λj fs xs e=>by
  obtain ⟨⟨d,e1⟩,e2⟩:=k.mutO j fs xs e
  exact ⟨⟨d,fY (λ_ z=>by cases z) e1⟩,e2⟩
 have slot:∀ (j:Nat) (m:MV),ρ'[j]?=some (some m)->(∀ ys,m=.brw ys->¬ (ms=[.bor j]/\ρ[j]?=some (some (.own ys))))->∃ u,σ'[j]?=some (some u)/\d5 K B O' H' m u:=λj m e hn=>by
  obtain ⟨u,eu,q⟩:=st'.slot j m e
  refine ⟨u,eu,?_⟩
  cases m with
  | val v=>exact q
  | own ys=>obtain ⟨a,us,rfl,q1,q2,q3,q4⟩:=q;exact ⟨a,us,rfl,q1,q2,q3,lg.free q4⟩
  | brw ys =>
   obtain ⟨e1,e2⟩:=k.brw j (.brw ys) rfl e
   rcases ij e1 with e3|e3
   ·obtain ⟨w,ew,a,us,rfl,q1,q2⟩:=st.slot j _ e3
    rw [eu,ew] at e2
    cases e2
    exact ⟨a,us,rfl,q1,Reps.mono vis _ q2⟩
   ·exact absurd e3 (hn ys rfl)
  | ownD ys=>obtain ⟨a,rfl,q1,q3,q4⟩:=q;exact ⟨a,rfl,q1,q3,lg.free q4⟩
  | ownO b fs ys=>obtain ⟨a,l,rfl,q⟩:=q;exact ⟨a,l,rfl,q.move (ae.refl _) (λ_ h=>h) (λ_ h=>h) q.aO q.lO (lg.free q.aB) (lg.free q.lB)⟩
  | brwO fs ys =>
   obtain ⟨e1,e2⟩:=k.brw j (.brwO fs ys) rfl e
   obtain ⟨w,ew,a,rfl,q1⟩:=st.slot j _ (fY (λ_ z=>by cases z) e1)
   rw [eu,ew] at e2
   cases e2
   exact ⟨a,rfl,q1.move (ae.refl B) vis⟩
  | brwD ys =>
   obtain ⟨e1,e2⟩:=k.brw j (.brwD ys) rfl e
   obtain ⟨w,ew,a,rfl,q1⟩:=st.slot j _ (iS e1)
   rw [eu,ew] at e2
   cases e2
   exact ⟨a,rfl,q1⟩
 by_cases hA:∃ i xs0 xs,ms=[.bor i]/\(ρ[i]?).join=some (.own xs0)/\(ρ'[i]?).join=some (.brw xs)
 ·obtain ⟨i,xs0,xs,rfl,h0,h1⟩:=hA
  have eb:ba [.bor i] ρ ρ'=put ρ' i (.own xs):=by simp [ba,h0,h1]
  rw [eb]
  have e0:=join_some h0
  have e1:=join_some h1
  have hi':i < ρ'.length:=(List.getElem?_eq_some_iff.mp e1).1
  obtain ⟨el,es⟩:=k.brw i (.brw xs) rfl e1
  have exs:xs=xs0:=by
   rcases ij el with e3|⟨_,e3⟩
   ·rw [e0] at e3;cases e3
   ·rw [e0] at e3;cases e3;rfl
  subst exs
  obtain ⟨w,ew,a,us,rfl,q1,q2,q3,q4⟩:=st.slot i _ e0
  have eL:aK [.bor i] ρ σ=[a]:=by simp [aK,h0,ew]
  have ga:bq B O H1 (aK [.bor i] ρ σ) a=some (.lst us):=by
   unfold bq
   rw [eL,if_pos q3,if_pos (by simp)]
   exact q1
  have other:∀ (j:Nat) (ys:MV) (ad:Addr),ρ'[j]?=some (some ys)->dy ys=true->σ'[j]?=some (some (.ref ad))->ad ≠ a:=λj ys ad h1 oy h2 z=>by
   obtain ⟨u,eu,qq⟩:=st'.slot j _ h1
   rw [h2] at eu
   cases eu
   cases ys with
   | own ys =>
    obtain ⟨b,_,e2,_,_,_,q⟩:=qq
    cases e2
    rw [z,ga] at q
    cases q
   | ownD ys =>
    obtain ⟨b,e2,_,_,q⟩:=qq
    cases e2
    rw [z,ga] at q
    cases q
   | ownO _ _ _ =>
    obtain ⟨b,l,e2,q⟩:=qq
    cases e2
    have q:=q.aB
    rw [z,ga] at q
    cases q
   | brwO _ _=>cases oy
   | val _=>cases oy
   | brw _=>cases oy
   | brwD _=>cases oy
  refine ⟨⟨lg.trans st'.keep,st'.here,st'.sub,st.old,by rw [bx];exact st'.len,λj m e=>?_,λc d ps qs ad hcd e1 e2 p1 p2 e3 e4=>?_
   ,d6 st'.inn (λj mo e l0=>by
    have hj:i ≠ j:=λz=>by subst z;rw [ab hi'] at e;cases e;cases l0
    rw [aa hj] at e
    exact ⟨⟨mo,e,l0⟩,rfl,λ_ _ _ h=>h⟩) λj m c e _ o ec=>by
    by_cases hj:i=j
    ·subst hj
     rw [es,ew] at ec
     cases ec
     refine .inr λk' m1 a' l' f1 f0 f2 f3 z=>?_
     obtain ⟨u,e3,q⟩:=st'.slot k' _ f1
     rw [f2] at e3
     cases e3
     cases m1 <;> try (cases f0;done)
     obtain ⟨a2,l2,e4,q⟩:=q
     cases e4
     have e6:=q.l
     rw [e6] at f3
     cases f3
     have:=q.lB
     rw [<- z,ga] at this
     cases this
    ·rw [aa hj] at e
     exact .inl ⟨m,e,o,ec⟩
   ⟩,⟨stay,new,λj ys hbm e=>?_,by rw [bx];exact k.len.trans kf
   ,λj fs xs e=>by
    have hj:i ≠ j:=λz=>by subst z;rw [ab hi'] at e;cases e
    rw [aa hj] at e
    exact mutO j fs xs e
   ⟩⟩
  ·by_cases hij:i=j
   ·subst hij
    rw [ab hi'] at e
    cases e
    refine ⟨_,by rw [es];exact ew,a,us,rfl,st'.keep _ _ ga,Reps.mono vis _ q2,k.stay a (by rw [ga];simp) q3,q4⟩
   ·rw [aa hij] at e
    exact slot j m e λys _ ⟨z,_⟩=>hij (by cases z;rfl)
  ·by_cases hc:i=c
   ·subst hc
    rw [es,ew] at e3
    cases e3
    rw [aa hcd] at e2
    exact other d qs _ e2 p2 e4 rfl
   ·rw [aa hc] at e1
    by_cases hd:i=d
    ·subst hd
     rw [es,ew] at e4
     cases e4
     exact other c ps _ e1 p1 e3 rfl
    ·rw [aa hd] at e2
     exact st'.apart c d ps qs ad hcd e1 e2 p1 p2 e3 e4
  ·by_cases hij:i=j
   ·subst hij
    rw [ab hi'] at e
    cases e
    cases hbm
   ·rw [aa hij] at e
    obtain ⟨e1,e2⟩:=k.brw j ys hbm e
    cases ys with
    | brw ys =>
     rcases ij e1 with e3|⟨z,_⟩
     ·exact ⟨e3,e2⟩
     ·cases z;exact absurd rfl hij
    | brwD ys=>exact ⟨iS e1,e2⟩
    | val _=>cases hbm
    | own _=>cases hbm
    | ownD _=>cases hbm
    | ownO _ _ _=>cases hbm
    | brwO fs ys=>exact ⟨fY (λ_ z=>by cases z) e1,e2⟩
 ·have eb:ba ms ρ ρ'=ρ':=by
   unfold ba
   split
   ·rename_i i
    split
    ·rename_i xs0 xs h0 h1
     exact absurd ⟨i,xs0,xs,rfl,h0,h1⟩ hA
    ·rfl
   ·rfl
  rw [eb]
  have no:∀ (j:Nat) (ys:List PV),ρ'[j]?=some (some (.brw ys))->¬ (ms=[.bor j]/\ρ[j]?=some (some (.own ys))):=λj ys e ⟨h1,h2⟩=>hA ⟨j,ys,ys,h1,by rw [h2];rfl,by rw [e];rfl⟩
  refine ⟨⟨lg.trans st'.keep,st'.here,st'.sub,st.old,st'.len,λj m e=>slot j m e λys z=>no j ys (by rw [e,z]),st'.apart
   ,st'.inn
   ⟩,⟨stay,new,λj ys hbm e=>?_,k.len.trans kf
   ,mutO
   ⟩⟩
  obtain ⟨e1,e2⟩:=k.brw j ys hbm e
  cases ys with
  | brw ys =>
   rcases ij e1 with e3|e3
   ·exact ⟨e3,e2⟩
   ·exact absurd e3 (no j ys e)
  | brwD ys=>exact ⟨iS e1,e2⟩
  | val _=>cases hbm
  | own _=>cases hbm
  | ownD _=>cases hbm
  | ownO _ _ _=>cases hbm
  | brwO fs ys=>exact ⟨fY (λ_ z=>by cases z) e1,e2⟩
end
section
variable {X:Cx}{T:Tab}{k:Nat}{cal:Cal}
noncomputable def xm (K:PySem.W.Frag) (n:Nat) (g:TG) (tk:PV->Rho->Option Rho):Prop :=
 ∀ (B:Hp) (O₀ O:List Addr) (H:Hp) (ρ ρ':Rho) (σ:St) (x:PV) (u:V) (Q:St->Hp->Prop),σ.length=n->aD K B O₀ O H ρ σ->Rep K (ak H O) x u->tk x ρ=some ρ' ->
  (∀ σ',aD K B O₀ O H ρ' σ'->bw B O O ρ ρ' σ σ'->Q σ' H)->g u σ H Q
theorem uY {K:PySem.W.Frag}{n:Nat}{ms:List ME}{g:TG}{tk:PV->Rho->Option Rho}{body:List MS}{D:fD}{σ:St}{H1:Hp}{J:It} (hn:σ.length=n) (hg:xm K n g tk) {B:Hp}{O₀ O:List Addr}{ρ:Rho}{xs:List PV} (st1:aD K B O₀ O H1 ρ σ) (it:mv K J xs (ak H1 O) (bq B O H1 (aK ms ρ σ)))
  (q:du K B O₀ O ρ σ D ((be (λx ρ'=>fv (tk x ρ') λρ''=>exs cal body ρ'') xs (bA ms ρ)).back ms ρ)):v8 (λ_ _ R=>R J H1) g (tSs K cal body) D σ H1:=by
 obtain ⟨stL,_⟩:=xl (ms:=ms) st1
 refine ⟨λi m σ' H'=>m=xs.length - i/\i <= xs.length/\∃ ρ' O',aD K (bq B O H1 (aK ms ρ σ)) O₀ O' H' ρ' σ'/\bw (bq B O H1 (aK ms ρ σ)) O O' (bA ms ρ) ρ' σ σ' /\
  be (λx ρ'=>fv (tk x ρ') λρ''=>exs cal body ρ'') (xs.drop i) ρ'=be (λx ρ'=>fv (tk x ρ') λρ''=>exs cal body ρ'') xs (bA ms ρ),⟨xs.length,by simp,Nat.zero_le _,bA ms ρ,O,stL,.refl,by simp⟩,?_⟩
 rintro i m σ' H' ⟨rfl,hi,ρ',O',st',k',eq⟩
 by_cases hlt:i < xs.length
 ·right
  have ex:xs[i]?=some xs[i]:=List.getElem?_eq_getElem hlt
  refine ⟨it.go i _ H' st'.keep ex,λσ2 H2=>∃ m',m' < xs.length - i/\(m'=xs.length - (i + 1)/\i + 1 <= xs.length/\∃ ρ' O',aD K (bq B O H1 (aK ms ρ σ)) O₀ O' H2 ρ' σ2/\bw (bq B O H1 (aK ms ρ σ)) O O' (bA ms ρ) ρ' σ σ2 /\
   be (λx ρ'=>fv (tk x ρ') λρ''=>exs cal body ρ'') (xs.drop (i + 1)) ρ'=be (λx ρ'=>fv (tk x ρ') λρ''=>exs cal body ρ'') xs (bA ms ρ)),λσ2 H2 z=>z,λu H2 y=>?_⟩
  obtain ⟨s2,hr⟩:=it.yld i _ H' u H2 st'.keep ex y
  have vis:=BC st' k'
  have hx:Rep K (ak H2 O') xs[i] u:=hr O' st'.here (vis.trans (ar s2))
  rw [List.drop_eq_getElem_cons hlt,be] at eq
  cases et:tk xs[i] ρ' with
  | none =>
   rw [et] at eq
   rw [<- eq] at q
   exact (show False from q).elim
  | some ρ2 =>
   rw [et,show fv (some ρ2) (λρ''=>exs cal body ρ'')=exs cal body ρ2 from rfl] at eq
   have hlen:σ'.length=n:=by rw [<- st'.len,k'.len,kf,st1.len];exact hn
   refine hg _ O₀ O' H2 ρ' ρ2 σ' _ u _ hlen (st'.mono s2) hx et λσ2 st2 k2=>?_
   refine ⟨_,O₀,O',ρ2,st2,?_⟩
   have kk:=k'.trans k2
   cases er:exs cal body ρ2 with
   | next ρ3 =>
    rw [er] at eq
    exact λσ3 H3 O3 st3 k3=>⟨_,by omega,rfl,hlt,ρ3,O3,st3,kk.trans k3,eq⟩
   | cont ρ3 =>
    rw [er] at eq
    exact λσ3 H3 O3 st3 k3=>⟨_,by omega,rfl,hlt,ρ3,O3,st3,kk.trans k3,eq⟩
   | brk ρ3 =>
    rw [er] at eq
    rw [<- eq] at q
    exact λσ3 H3 O3 st3 k3=>by
     obtain ⟨stb,kb⟩:=mD st1 st3 (kk.trans k3)
     exact q σ3 H3 O3 stb kb
   | ret v =>
    rw [er] at eq
    rw [<- eq] at q
    exact λw H3 s3 r=>q w H3 ((cJ st1.keep).trans s3) r
   | retT v ρ3 =>
    rw [er] at eq
    rw [<- eq] at q
    exact λσ3 H3 O3 st3 k3=>by
     obtain ⟨stb,kb⟩:=mD st1 st3 (kk.trans k3)
     exact q σ3 H3 O3 stb kb
   | retF ys =>
    rw [er] at eq
    rw [<- eq] at q
    exact λp us H3 s3 hp he r=>q p us H3 ((cJ st1.keep).trans s3) ((cJ st1.keep).free hp) he r
   | bad =>
    rw [er] at eq
    rw [<- eq] at q
    exact (show False from q).elim
 ·left
  have ei:i=xs.length:=by omega
  subst ei
  rw [List.drop_length,be] at eq
  rw [<- eq] at q
  obtain ⟨stb,kb⟩:=mD st1 st' k'
  exact ⟨it.stop H' st'.keep,q σ' H' O' stb kb⟩
theorem uZ {K:PySem.W.Frag}{n:Nat}{k':Sk}{ms:List ME}{g:TG}{tk:PV->Rho->Option Rho}{body:List MS}{D:fD}{σ:St}{H:Hp} (hn:σ.length=n) (hg:xm K n g tk) {B:Hp}{O₀ O:List Addr}{ρ:Rho}{vs xs:List PV} (st:aD K B O₀ O H ρ σ) (e1:evs cal ms ρ=some vs) (e2:cm k' vs=some xs)
  (q:du K B O₀ O ρ σ D ((be (λx ρ'=>fv (tk x ρ') λρ''=>exs cal body ρ'') xs (bA ms ρ)).back ms ρ)):v8 (tW K cal k' ms) g (tSs K cal body) D σ H:=by
 exact ⟨B,O₀,O,ρ,vs,xs,st,e1,e2,λJ H1 s1 it=>uY hn hg (st.mono s1) it q⟩
theorem xn {K:PySem.W.Frag}{n i:Nat} (hi:i < n):xm K n (cD i) (λx ρ=>some (put ρ i (.val x))):=by
 intro B O₀ O H ρ ρ' σ x u Q hn st r e q
 cases e
 obtain ⟨st',k'⟩:=st.store (i:=i) (by omega) r
 exact q _ st' k'
theorem zz {i:Nat}{k':Sk}{src:List ME}{body:List MS}{x:Str}{px pos:Pos}{it:Expr}{b:List Stmt} (g:Gf X T k cal) (d:Df X) (hi:X.N[i]?=some x) (hx:Loc X.env.scope x) (hw:PI X (.Name x px) it (tW X.K cal k' src)) (hns:fc it=true) (hb:PSs X b (tSs X.K cal body)) :
  PS X (.For (.Name x px) it b [] pos) (tS X.K cal (.for1 i k' src body)):=by
 refine PS.imp' (oB d.own g.calm hw (je d.nd hi hx (.inl (d.fn x))) hb (by intro v;cases it <;> first|rfl|(simp [fc] at hns))) λD σ H hl q=>?_
 obtain ⟨B,O₀,O,ρ,st,q⟩:=q
 rw [ex] at q
 cases e:(evs cal src ρ).bind (cm k') with
 | none=>rw [e] at q;exact (show False from q).elim
 | some xs =>
  rw [e] at q
  simp only [Option.bind_eq_some_iff] at e
  obtain ⟨vs,e1,e2⟩:=e
  exact uZ (tk:=λx ρ=>some (put ρ i (.val x))) rfl (xn (ltN hi hl)) st e1 e2 q
end
end MM
namespace MM
open PySem PySem.Spec PyProof.Rows L2
noncomputable def kg:List Nat->TGs
 | []=>AH
 | i::is=>xO (cD i) (kg is)
section
variable {X:Cx}{T:Tab}{k:Nat}{cal:Cal}
theorem kh:∀ {is:List Nat}{ts:List Expr},c_ X.N X.env.scope is ts=true->(assignEach ts X.env).length=is.length/\(assignEach ts X.env).findIdx? (·.1)=none
 | [],[],_=>⟨rfl,rfl⟩
 | [],_::_,h=>by cases h
 | _::_,[],h=>by cases h
 | i::is,e::ts,h=>by
  cases e <;> first|(cases h;done)|skip
  simp only [ml,Bool.and_eq_true] at h
  rename_i x p
  obtain ⟨h1,h2⟩:=kh h.2
  refine ⟨?_,?_⟩
  ·show ((false,assign (.Name x p) X.env)::assignEach ts X.env).length=_
   simp [h1]
  ·show ((false,assign (.Name x p) X.env)::assignEach ts X.env).findIdx? (·.1)=none
   rw [List.findIdx?_cons]
   simp [h2]
theorem lA (d:Df X):∀ {is:List Nat}{ts:List Expr},c_ X.N X.env.scope is ts=true->PGs X ts (kg is)
 | [],[],_=>v7
 | [],_::_,h=>by cases h
 | _::_,[],h=>by cases h
 | i::is,e::ts,h=>by
  cases e <;> first|(cases h;done)|skip
  simp only [ml,Bool.and_eq_true,beq_iff_eq] at h
  rename_i x p
  exact sJ (je d.nd h.1.1.1 (fw h.1.1.2) (.inl (d.fn x))) (lA d h.2) rfl
theorem nQ:∀ {is:List Nat}{ts:List Expr},c_ X.N X.env.scope is ts=true->∀ i ∈ is,i < X.N.length
 | [],[],_=>λi hi=>by simp at hi
 | [],_::_,h=>by cases h
 | _::_,[],h=>by cases h
 | i::is,e::ts,h=>λj hj=>by
  cases e <;> first|(cases h;done)|skip
  simp only [ml,Bool.and_eq_true,beq_iff_eq] at h
  rcases List.mem_cons.mp hj with rfl|hj
  ·exact (List.getElem?_eq_some_iff.mp h.1.1.1).1
  ·exact nQ h.2 j hj
theorem qH {K:PySem.W.Frag}:∀ {is:List Nat}{vs:List PV}{us:List V}{B:Hp}{O₀ O:List Addr}{H:Hp}{ρ ρ':Rho}{σ:St}{Q:St->Hp->Prop},(∀ i ∈ is,i < σ.length)->aD K B O₀ O H ρ σ->Reps K (ak H O) vs us->kN is vs ρ=some ρ' ->
  (∀ σ',aD K B O₀ O H ρ' σ'->bw B O O ρ ρ' σ σ'->Q σ' H)->kg is us σ H Q
 | [],[],us,_,_,_,_,_,_,_,_,_,st,r,e,q=>by
  rw [Reps] at r
  subst r
  cases e
  exact ⟨rfl,q _ st .refl⟩
 | [],_::_,_,_,_,_,_,_,_,_,_,_,_,_,e,_=>by simp [kN] at e
 | _::_,[],_,_,_,_,_,_,_,_,_,_,_,_,e,_=>by simp [kN] at e
 | i::is,v::vs,us,B,O₀,O,H,ρ,ρ',σ,Q,hi,st,r,e,q=>by
  rw [Reps] at r
  obtain ⟨u,r',rfl,r1,r2⟩:=r
  rw [kN] at e
  obtain ⟨st1,k1⟩:=st.store (i:=i) (hi i (.head _)) r1
  refine ⟨u,r',rfl,?_⟩
  show kg is r' (σ.set i (some u)) H Q
  exact qH (λj hj=>by rw [List.length_set];exact hi j (.tail _ hj)) st1 r2 e λσ' st' k'=>q σ' st' (k1.trans k')
theorem zA {K:PySem.W.Frag}{n:Nat}{is:List Nat} (hi:∀ i ∈ is,i < n):xm K n (AI K is.length (kg is)) (jX is):=by
 intro B O₀ O H ρ ρ' σ x u Q hn st r e q
 cases x with
 | tup vs =>
  rw [Rep] at r
  obtain ⟨a,us,rfl,sq,rs⟩:=r
  have hl:∀ {is:List Nat}{vs:List PV}{ρ ρ':Rho},kN is vs ρ=some ρ'->vs.length=is.length:=by
   intro is
   induction is with
   | nil=>intro vs ρ ρ' h;cases vs <;> simp [kN] at h ⊢
   | cons i is ih=>intro vs ρ ρ' h;cases vs <;> simp [kN] at h ⊢;exact ih h
  exact ⟨a,us,rfl,(aW H O).seqT (cH sq),by rw [<- rs.length];exact hl e,qH (λi h=>by rw [hn];exact hi i h) st rs e q⟩
 | _=>cases e
theorem zB {is:List Nat}{k':Sk}{src:List ME}{body:List MS}{ts:List Expr}{j:Nat}{tp pos:Pos}{it:Expr}{b:List Stmt} (g:Gf X T k cal) (d:Df X) (hi:c_ X.N X.env.scope is ts=true) (hw:PI X (.Tuple ts j tp) it (tW X.K cal k' src)) (hns:fc it=true) (hb:PSs X b (tSs X.K cal body)) :
  PS X (.For (.Tuple ts j tp) it b [] pos) (tS X.K cal (.forT is k' src body)):=by
 obtain ⟨h1,h2⟩:=kh hi
 refine PS.imp' (oB d.own g.calm hw (yo g.calm (lA d hi) h1 h2) hb (by intro v;cases it <;> first|rfl|(simp [fc] at hns))) λD σ H hl q=>?_
 obtain ⟨B,O₀,O,ρ,st,q⟩:=q
 rw [ex] at q
 cases e:(evs cal src ρ).bind (cm k') with
 | none=>rw [e] at q;exact (show False from q).elim
 | some xs =>
  rw [e] at q
  simp only [Option.bind_eq_some_iff] at e
  obtain ⟨vs,e1,e2⟩:=e
  exact uZ (tk:=jX is) hl (zA (nQ hi)) st e1 e2 q
theorem qI {i:Nat}{me:ME}{x:Str}{v:Expr}{px pos:Pos} (g:Gf X T k cal) (d:Df X) (hi:X.N[i]?=some x) (hx:Loc X.env.scope x) (hc:chk T me X.N X.env.scope v=true) (hs:k9 X.env.scope x px v me=true):∃ t,PS X (.Assign [.Name x px] v pos) (ix t (cD i))/\(∀ σ H Q,tF X.K cal me σ H Q->t σ H Q)/\bG me=true:=by
 unfold k9 at hs
 rw [Bool.and_eq_true] at hs
 obtain ⟨hs,hk⟩:=hs
 cases v with
 | ListComp e gens scope cpos =>
  cases me with
  | comp2 _ _ _ _=>cases hk
  | comp k' src js cond elt =>
   match gens,hc,hs with
   | [],hc,_=>cases (show false=true from hc)
   | ⟨tg,it,ifs,as⟩::[],h,hs =>
    cases tg with
    | Name y py =>
     by_cases has:as=0
     ·subst has
      have h:(eE X.env.scope X.N scope y (b_ X.N js) js&&dz X.env.scope false (λxs=>chks T src X.N X.env.scope xs) k' it&&j0 (λc=>chk T cond (y::b_ X.N js) (gf scope X.env.scope) c) cond ifs&&chk T elt (y::b_ X.N js) (gf scope X.env.scope) e&&!ax elt)=true:=h
      simp only [Bool.and_eq_true,Bool.not_eq_true'] at h
      obtain ⟨⟨⟨⟨h1,h2⟩,h3⟩,h4⟩,h5⟩:=h
      have hw:=j_ (tg:=.Name y py) (λz=>by cases z) g h2 (λxs hxs=>⟨sounds src g hxs,aP hxs⟩) (λm x hm hx=>match src,hm with|[m'],rfl=>(al m' g (by simp only [chks,Bool.and_eq_true] at hx;exact hx.1.1)).1)
      exact ⟨_,oY d.nd hi hx (lj h1) g.calm hw.1 (λs₁ H₁ C fp=>ph h3 λc hc=>(al cond (g.blk y (b_ X.N js) scope s₁ H₁ C fp) hc).2) (λs₁ H₁ C fp=>(al elt (g.blk y (b_ X.N js) scope s₁ H₁ C fp) h4).1) (rW d hs) (by have:=hw.2;intro v;cases it <;> first|rfl|(simp [fc] at this)) (.inl (d.fn x)),
       λσ H Q q=>pf.comp_go h5 q,rfl⟩
     ·exact absurd h (by
       have:chk T (.comp k' src js cond elt) X.N X.env.scope (.ListComp e [⟨.Name y py,it,ifs,as⟩] scope cpos)=false:=by
        rw [aL]
        split <;> first|rfl|(rename_i z;simp_all)
       rw [this];exact Bool.false_ne_true)
    | _=>cases (show false=true from h)
   | _::_::_,h,_=>simp [aL] at h
  | _=>cases (show false=true from hc)
 | _=>simp [qp] at hs
theorem BD {me:ME} (hf:bG me=true) {σ:St}{H:Hp}{Q:VK}{K:PySem.W.Frag} (q:tE K cal me σ H Q):tF K cal me σ H Q:=by
 obtain ⟨B,O₀,O,ρ,v,st,e1,q⟩:=q
 have hv:∃ xs,v=.lst xs:=by
  cases me with
  | lst es =>
   rw [ev,Option.bind_eq_some_iff] at e1
   obtain ⟨vs,_,hv⟩:=e1
   split at hv
   ·cases hv;exact ⟨_,rfl⟩
   ·cases hv
  | comp _ _ _ _ _=>exact nO ρ v e1
  | blt b es=>cases b <;> first|exact eF (.inl rfl) ρ v e1|exact eF (.inr (.inl rfl)) ρ v e1|exact eF (.inr (.inr (.inl rfl))) ρ v e1|exact eF (.inr (.inr (.inr (.inl rfl)))) ρ v e1|exact eF (.inr (.inr (.inr (.inr rfl)))) ρ v e1|(simp [bG] at hf)
  | _=>simp [bG] at hf
 obtain ⟨xs,rfl⟩:=hv
 exact ⟨B,O₀,O,ρ,xs,st,e1,λp us H' s hp he r=>q _ _ s (qC st.here hp he r)⟩
end
section
variable {T:Tab}{N:List Str}{sc:Scope}
theorem xo {i:Nat}{e:ME}{s:Stmt} (h:eJ T N sc (.set i e) s=true):∃ x px v pos,s=.Assign [.Name x px] v pos/\(N[i]? == some x&&fb sc x&&aq x&&chk T e N sc v&&!ax e&&(bD v || k9 sc x px v e))=true:=by
 obtain ⟨q,e1,h1⟩:=aM h
 obtain ⟨pos,rfl⟩:=g6 e1
 exact ⟨_,_,_,_,rfl,h1⟩
theorem xp {i:Nat}{e:ME}{s:Stmt} (h:eJ T N sc (.setOwn i e) s=true):∃ x px v pos,s=.Assign [.Name x px] v pos/\(N[i]? == some x&&fb sc x&&aq x&&chk T e N sc v&&bG e&&(bD v || k9 sc x px v e))=true:=by
 obtain ⟨q,e1,h1⟩:=aM h
 obtain ⟨pos,rfl⟩:=g6 e1
 exact ⟨_,_,_,_,rfl,h1⟩
theorem pw {i:Nat}{e:ME}{s:Stmt} (h:eJ T N sc (.append i e) s=true):∃ x p m ap v cp pos,s=.Expr (.Call (.Attribute (.Name x p) m ap) [v] [] cp) pos/\(ag N sc i x&&m == ("append":Str)&&chk T e N sc v&&!ax e&&am v&&ap.endLine == cp.line)=true:=by
 obtain ⟨q,e1,h1⟩:=aM h
 obtain ⟨v,e2,h2⟩:=aM h1
 obtain ⟨p,pos,rfl⟩:=qr e1
 rw [j3 e2]
 exact ⟨_,_,_,_,_,_,_,rfl,h2⟩
theorem xq {i:Nat}{es:List ME}{s:Stmt} (h:eJ T N sc (.mkO i es) s=true):∃ x px y py args cp pos,s=.Assign [.Name x px] (.Call (.Name y py) args [] cp) pos/\(N[i]? == some x&&fb sc x&&aq x&&y == ("Table":Str)&&glB sc y&&chks T es N sc args&&(es.all λm=>!ax m)&&!args.isEmpty)=true:=by
 obtain ⟨q,e1,h1⟩:=aM h
 obtain ⟨c,e2,h2⟩:=aM h1
 obtain ⟨pos,rfl⟩:=g6 e1
 obtain ⟨p,cp,e3⟩:=wQ e2
 rw [e3]
 exact ⟨_,_,_,_,_,_,_,rfl,h2⟩
theorem u0 {i:Nat}{e:ME}{s:Stmt} (h:eJ T N sc (.appO i e) s=true):∃ x p f fp m ap v cp pos,s=.Expr (.Call (.Attribute (.Attribute (.Name x p) f fp) m ap) [v] [] cp) pos/\(ag N sc i x&&f == ("taken":Str)&&m == ("append":Str)&&chk T e N sc v&&!ax e&&am v&&ap.endLine == cp.line)=true:=by
 obtain ⟨q,e1,h1⟩:=aM h
 obtain ⟨v,e2,h2⟩:=aM h1
 obtain ⟨p,fp,pos,rfl⟩:=wR e1
 rw [j3 e2]
 exact ⟨_,_,_,_,_,_,_,_,_,rfl,h2⟩
theorem u1 {e:ME}{s:Stmt} (h:eJ T N sc (.retT e) s=true):∃ v pos,s=.Return (some v) pos/\(chk T e N sc v&&!ax e)=true:=by
 obtain ⟨v,e1,h1⟩:=aM h
 obtain ⟨pos,rfl⟩:=mn e1
 exact ⟨v,pos,rfl,h1⟩
theorem rZ {i j f:Nat}{es:List ME}{s:Stmt} (h:eJ T N sc (.takeO (some j) i f es) s=true):∃ x px c p pos,s=.Assign [.Name x px] (.Call (.Attribute (.Name c.1 p) c.2.1 c.2.2.2.1) c.2.2.1 [] c.2.2.2.2) pos/\(N[j]? == some x&&fb sc x&&aq x&&(nv N sc T.ms f i (λxs=>chks T es N sc xs) c&&(es.all λm=>!ax m)))=true:=by
 obtain ⟨q,e1,h1⟩:=aM h
 obtain ⟨c,e2,h2⟩:=aM h1
 obtain ⟨pos,rfl⟩:=g6 e1
 obtain ⟨p,e3⟩:=mi e2
 rw [e3]
 exact ⟨_,_,c,_,_,rfl,h2⟩
theorem r6 {i f:Nat}{es:List ME}{s:Stmt} (h:eJ T N sc (.takeO none i f es) s=true):∃ c p pos,s=.Expr (.Call (.Attribute (.Name c.1 p) c.2.1 c.2.2.2.1) c.2.2.1 [] c.2.2.2.2) pos/\(nv N sc T.ms f i (λxs=>chks T es N sc xs) c&&(es.all λm=>!ax m))=true:=by
 obtain ⟨q,e1,h1⟩:=aM h
 obtain ⟨c,e2,h2⟩:=aM h1
 obtain ⟨pos,rfl⟩:=uh e1
 obtain ⟨p,e3⟩:=mi e2
 rw [e3]
 exact ⟨c,_,_,rfl,h2⟩
theorem pA {i:Nat}{e:ME}{s:Stmt} (h:eJ T N sc (.extend i e) s=true):∃ x p m ap v cp pos,s=.Expr (.Call (.Attribute (.Name x p) m ap) [v] [] cp) pos/\(ag N sc i x&&m == ("extend":Str)&&chk T e N sc v&&am v&&ap.endLine == cp.line)=true:=by
 obtain ⟨q,e1,h1⟩:=aM h
 obtain ⟨v,e2,h2⟩:=aM h1
 obtain ⟨p,pos,rfl⟩:=qr e1
 rw [j3 e2]
 exact ⟨_,_,_,_,_,_,_,rfl,h2⟩
theorem u3 {e:ME}{s:Stmt} (h:eJ T N sc (.expr e) s=true):∃ v pos,s=.Expr v pos/\(chk T e N sc v&&bD v)=true:=by
 cases s with
 | Expr v pos=>exact ⟨v,pos,rfl,h⟩
 | _=>cases (show false=true from h)
theorem xr {c:ME}{a b:List MS}{s:Stmt} (h:eJ T N sc (.ite c a b) s=true):∃ t x y pos,s=.If t x y pos/\(chk T c N sc t&&chkSs T N sc a x&&chkSs T N sc b y)=true:=by
 cases s with
 | If t x y pos=>exact ⟨t,x,y,pos,rfl,h⟩
 | _=>cases (show false=true from h)
theorem u4 {i:Nat}{k:Sk}{src:List ME}{body:List MS}{s:Stmt} (h:eJ T N sc (.for1 i k src body) s=true):∃ x px it b pos,s=.For (.Name x px) it b [] pos/\(N[i]? == some x&&fb sc x&&aq x&&dz sc false (λxs=>chks T src N sc xs) k it&&chkSs T N sc body b)=true:=by
 simp only [wS] at h
 split at h <;> first|(cases h;done)|(rename_i heq;cases heq;exact ⟨_,_,_,_,_,rfl,h⟩)|(injections;done)|(injections;subst_vars;exact ⟨_,_,_,_,_,rfl,h⟩)
theorem u5 {is:List Nat}{k:Sk}{src:List ME}{body:List MS}{s:Stmt} (h:eJ T N sc (.forT is k src body) s=true):∃ ts j tp it b pos,s=.For (.Tuple ts j tp) it b [] pos/\(c_ N sc is ts&&dz sc true (λxs=>chks T src N sc xs) k it&&chkSs T N sc body b)=true:=by
 simp only [wT] at h
 split at h <;> first|(cases h;done)|(rename_i heq;cases heq;exact ⟨_,_,_,_,_,_,rfl,h⟩)|(injections;done)|(injections;subst_vars;exact ⟨_,_,_,_,_,_,rfl,h⟩)
theorem xt {e:ME}{s:Stmt} (h:eJ T N sc (.ret e) s=true):∃ v pos,s=.Return (some v) pos/\(chk T e N sc v&&!ax e)=true:=by
 obtain ⟨v,e1,h1⟩:=aM h
 obtain ⟨pos,rfl⟩:=mn e1
 exact ⟨_,_,rfl,h1⟩
theorem pB {i:Nat}{s:Stmt} (h:eJ T N sc (.retOwn i) s=true):∃ x p pos,s=.Return (some (.Name x p)) pos/\(ag N sc i x)=true:=by
 obtain ⟨v,e1,h1⟩:=aM h
 obtain ⟨x,e2,h2⟩:=aM h1
 obtain ⟨pos,rfl⟩:=mn e1
 obtain ⟨p,rfl⟩:=uf e2
 exact ⟨_,_,_,rfl,h2⟩
end
theorem r9 {T:Tab}{k:Nat}{cal:Cal}{X:Cx} (g:Gf X T k cal) (d:Df X) {i:Nat}{e:ME}{s:Stmt} (h:eJ T X.N X.env.scope (.set i e) s=true):PS X s (tS X.K cal (.set i e)):=by
 obtain ⟨x,px,v,pos,rfl,hc⟩:=xo h
 simp only [Bool.and_eq_true,Bool.or_eq_true,beq_iff_eq,Bool.not_eq_true'] at hc
 obtain ⟨⟨⟨⟨⟨h1,h2⟩,h3⟩,h4⟩,h5⟩,h6⟩:=hc
 rcases h6 with h6|h6
 ·exact Bv d h1 (fw h2) (al e g h4).1 h5 h6
 ·obtain ⟨t,p,hp,hf⟩:=qI (pos:=pos) g d h1 (fw h2) h4 h6
  exact PS.imp' p λD σ H hl q=>hp _ _ _ (BD hf (uN (ltN h1 hl) h5 q))
noncomputable def zC:MS->Bool
 | .freeze _=>true
 | .own3 _ _ _ _ _=>true
 | _=>false
theorem pC {T:Tab}{k:Nat}{cal:Cal}{X:Cx} (g:Gf X T k cal) (d:Df X) {i j k' d':Nat}{e:ME}{ms:List MS}{s1 s2 s3:Stmt}{ss:List Stmt} (h:uj T X.N X.env.scope i j k' d' e s1 s2 s3=true) (hss:PSs X ss (tSs X.K cal ms)):PSs X (s1::s2::s3::ss) (tSs X.K cal (.own3 i j k' d' e::ms)):=by
 unfold uj at h
 obtain ⟨h,hne⟩:=Bool.and_eq_true_iff.mp h
 obtain ⟨h,h3⟩:=Bool.and_eq_true_iff.mp h
 obtain ⟨h1,h2⟩:=Bool.and_eq_true_iff.mp h
 obtain ⟨q1,e1,h1⟩:=aM h1
 obtain ⟨q2,e2,h2⟩:=aM h2
 obtain ⟨q3,e3,h3⟩:=aM h3
 obtain ⟨_,_,_,_,_,_,_,_,_,f1⟩:=yT e1
 obtain ⟨_,f2⟩:=g6 e2
 obtain ⟨_,_,_,_,_,_,_,_,_,_,_,_,_,f3⟩:=yU e3
 simp only [Bool.and_eq_true,beq_iff_eq,Bool.not_eq_true'] at h1 h2 h3
 obtain ⟨⟨⟨⟨a1,a2⟩,_⟩,a3⟩,a4⟩:=h1
 obtain ⟨⟨⟨⟨⟨b1,b2⟩,_⟩,b3⟩,b4⟩,b5⟩:=h2
 obtain ⟨⟨⟨⟨⟨⟨⟨⟨⟨⟨⟨c1,c2⟩,c3⟩,c4⟩,c5⟩,c6⟩,c7⟩,c8⟩,c9⟩,c10⟩,c11⟩,c12⟩:=h3
 rw [a3,a4] at f1
 rw [c6] at f3
 exact zy g d a1 (fw a2) b1 (fw b2) (al e g b3).1 b4 b5 c1 (fw c2) c3 c4 c5 (beq_iff_eq.mpr c7) c8 c9 (fw c10) c11 c12 (of_decide_eq_true hne) hss f1 f2 f3
mutual
theorem zD {T:Tab}{k:Nat}{cal:Cal}{X:Cx} (g:Gf X T k cal) (d:Df X):∀ (m:MS) (s:Stmt),eJ T X.N X.env.scope m s=true->PS X s (tS X.K cal m)
 | .set i e,s,h=>r9 g d h
 | .setOwn i e,s,h=>by
  obtain ⟨x,px,v,pos,rfl,hc⟩:=xp h
  simp only [Bool.and_eq_true,Bool.or_eq_true,beq_iff_eq] at hc
  obtain ⟨⟨⟨⟨⟨h1,h2⟩,h3⟩,h4⟩,h5⟩,h6⟩:=hc
  rcases h6 with h6|h6
  ·exact Bw d h1 (fw h2) (zq g h4 h5) h6
  ·obtain ⟨t,p,hp,hf⟩:=qI (pos:=pos) g d h1 (fw h2) h4 h6
   exact PS.imp' p λD σ H hl q=>hp _ _ _ (uO (ltN h1 hl) q)
 | .append i e,s,h=>by
  obtain ⟨x,p,m,ap,v,cp,pos,rfl,hc⟩:=pw h
  simp only [Bool.and_eq_true,beq_iff_eq,Bool.not_eq_true'] at hc
  obtain ⟨⟨⟨⟨⟨h1,rfl⟩,h3⟩,h4⟩,h5⟩,h6⟩:=hc
  exact uP (al e g h3).1 h1 h4 h5 (beq_iff_eq.mpr h6)
 | .extend i e,s,h=>by
  obtain ⟨x,p,m,ap,v,cp,pos,rfl,hc⟩:=pA h
  simp only [Bool.and_eq_true,beq_iff_eq] at hc
  obtain ⟨⟨⟨⟨h1,rfl⟩,h3⟩,h5⟩,h6⟩:=hc
  exact uQ (al e g h3).1 h1 h5 (beq_iff_eq.mpr h6)
 | .setIdx _ _ _,s,h=>absurd (show false=true from h) Bool.false_ne_true
 | .unpack _ _,s,h=>absurd (show false=true from h) Bool.false_ne_true
 | .expr e,s,h=>by
  obtain ⟨v,pos,rfl,hc⟩:=u3 h
  simp only [Bool.and_eq_true] at hc
  exact zr (al e g hc.1).1 hc.2
 | .ite c a b,s,h=>by
  obtain ⟨t,x,y,pos,rfl,hc⟩:=xr h
  simp only [Bool.and_eq_true] at hc
  exact CK (al c g hc.1.1).2 (soundSs g d a x hc.1.2) (soundSs g d b y hc.2)
 | .for1 i k' src body,s,h=>by
  obtain ⟨x,px,it,b,pos,rfl,hc⟩:=u4 h
  simp only [Bool.and_eq_true,beq_iff_eq] at hc
  obtain ⟨⟨⟨⟨h1,h2⟩,h3⟩,h4⟩,h5⟩:=hc
  have hw:=j_ (tg:=.Name x px) (λz=>by cases z) g h4 (λxs hxs=>⟨sounds src g hxs,aP hxs⟩) (λm x hm hx=>match src,hm with|[m'],rfl=>(al m' g (by simp only [chks,Bool.and_eq_true] at hx;exact hx.1.1)).1)
  exact zz g d h1 (fw h2) hw.1 hw.2 (soundSs g d body b h5)
 | .forT is k' src body,s,h=>by
  obtain ⟨ts,j,tp,it,b,pos,rfl,hc⟩:=u5 h
  simp only [Bool.and_eq_true] at hc
  obtain ⟨⟨h1,h4⟩,h5⟩:=hc
  have hw:=j_ (tg:=.Tuple ts j tp) (λ_=>⟨_,_,_,rfl⟩) g h4 (λxs hxs=>⟨sounds src g hxs,aP hxs⟩) (λm x hm hx=>match src,hm with|[m'],rfl=>(al m' g (by simp only [chks,Bool.and_eq_true] at hx;exact hx.1.1)).1)
  exact zB g d h1 hw.1 hw.2 (soundSs g d body b h5)
 | .while _ _ _,s,h=>absurd (show false=true from h) Bool.false_ne_true
 | .ret e,s,h=>by
  obtain ⟨v,pos,rfl,hc⟩:=xt h
  simp only [Bool.and_eq_true,Bool.not_eq_true'] at hc
  exact Bx (al e g hc.1).1 hc.2
 | .mkO i es,s,h=>by
  obtain ⟨x,px,y,py,args,cp,pos,rfl,hc⟩:=xq h
  simp only [Bool.and_eq_true,beq_iff_eq] at hc
  obtain ⟨⟨⟨⟨⟨⟨⟨h1,h2⟩,h3⟩,h4⟩,h5⟩,h6⟩,h7⟩,h8⟩:=hc
  subst h4
  cases args with
  | nil=>cases h8
  | cons e args=>exact BA g d h1 (fw h2) h5 (sounds es g h6) h7 (aP h6).1 (aP h6).2
 | .appO i e,s,h=>by
  obtain ⟨x,p,f,fp,m,ap,v,cp,pos,rfl,hc⟩:=u0 h
  simp only [Bool.and_eq_true,Bool.not_eq_true'] at hc
  obtain ⟨⟨⟨⟨⟨⟨h1,h2⟩,h3⟩,h4⟩,h5⟩,h6⟩,h7⟩:=hc
  rw [eq_of_beq h2,eq_of_beq h3]
  exact zv g (al e g h4).1 h1 h5 h6 h7
 | .retT e,s,h=>by
  obtain ⟨v,pos,rfl,hc⟩:=u1 h
  simp only [Bool.and_eq_true,Bool.not_eq_true'] at hc
  exact zu (al e g hc.1).1 hc.2
 | .takeO (some j) i f es,s,h=>by
  obtain ⟨x,px,c,p,pos,rfl,hc⟩:=rZ h
  obtain ⟨a1,a2⟩:=Bool.and_eq_true_iff.mp hc
  obtain ⟨h4,h5⟩:=Bool.and_eq_true_iff.mp a2
  simp only [Bool.and_eq_true,beq_iff_eq] at a1
  obtain ⟨⟨h1,h2⟩,h3⟩:=a1
  obtain ⟨q1,q2,q3,q4,q5,q6⟩:=my h4
  exact xj d h1 (fw h2) (qE g q1 q2 q3 (sounds es g q4) h5 (aP q4).1 (aP q4).2 q5 q6) rfl
 | .takeO none i f es,s,h=>by
  obtain ⟨c,p,pos,rfl,hc⟩:=r6 h
  obtain ⟨h4,h5⟩:=Bool.and_eq_true_iff.mp hc
  obtain ⟨q1,q2,q3,q4,q5,q6⟩:=my h4
  exact xk (qE g q1 q2 q3 (sounds es g q4) h5 (aP q4).1 (aP q4).2 q5 q6) rfl
 | .retF _,s,h=>absurd (show false=true from h) Bool.false_ne_true
 | .setCall _ _ _,s,h=>absurd (show false=true from h) Bool.false_ne_true
 | .clear _,s,h=>absurd (show false=true from h) Bool.false_ne_true
 | .retOwn i,s,h=>by
  obtain ⟨x,p,pos,rfl,hc⟩:=pB h
  exact uR hc
 | .retN,s,h=>absurd (show false=true from h) Bool.false_ne_true
 | .brk,s,h=>absurd (show false=true from h) Bool.false_ne_true
 | .cont,s,h=>absurd (show false=true from h) Bool.false_ne_true
 | .pass,s,h=>absurd (show false=true from h) Bool.false_ne_true
 | .never,s,h=>by
  refine sI.imp λD σ H q=>?_
  obtain ⟨B,O₀,O,ρ,st,q⟩:=q
  rw [ex] at q
  exact q
 | .newD _ _,s,h=>absurd (show false=true from h) Bool.false_ne_true
 | .dput _ _ _,s,h=>absurd (show false=true from h) Bool.false_ne_true
 | .freeze _,s,h=>absurd (show false=true from h) Bool.false_ne_true
theorem soundSs {T:Tab}{k:Nat}{cal:Cal}{X:Cx} (g:Gf X T k cal) (d:Df X):∀ (ms:List MS) (ss:List Stmt),chkSs T X.N X.env.scope ms ss=true->PSs X ss (tSs X.K cal ms)
 | [],ss,h=>by
  cases ss with
  | nil=>exact By
  | cons _ _=>cases h
 | m::ms,ss,h=>by
  cases hm:zC m with
  | true =>
   cases m <;> simp [zC] at hm
   ·cases h
   ·obtain ⟨z,e1,h⟩:=aM h
    obtain ⟨h1,h2⟩:=Bool.and_eq_true_iff.mp h
    rw [rQ e1]
    exact pC g d h1 (soundSs g d ms _ h2)
  | false =>
   cases ss with
   | nil=>cases m <;> first|(cases h;done)|cases hm
   | cons s ss =>
    have h:(eJ T X.N X.env.scope m s&&chkSs T X.N X.env.scope ms ss)=true:=by cases m <;> first|exact h|(simp [zC] at hm)
    simp only [Bool.and_eq_true] at h
    exact zt (zD g d m s h.1) (soundSs g d ms ss h.2)
end
end MM
namespace MM
open PySem PySem.Spec PyProof.Rows L2
structure FnD (K:PySem.W.Frag) (x y:Str) (st:Stmt) (fa:Addr) (fd:FuncData):Prop where
 it:∃ (c0 d0 k0 o0 m0:Value) (a0:Option Addr) (c1 t1:Value) (a1:Option Addr) (sl:Array (Option Value)),
  K.lookup fa=some ⟨c0,a1,.func fd,sl⟩/\PySem.W.codeIn K c1 y=true/\fd=PySem.W.fnOf x y (gM st) (cE st) (az st) d0 k0 o0 m0 a0 c1 t1
 kp:PySem.W.keepIn K (.ref fa)=true
theorem FnD.mk' {K:PySem.W.Frag}{x y:Str}{st:Stmt}{fa:Addr}{c0 d0 k0 o0 m0 c1 t1:Value}{a0 a1:Option Addr}{sl:Array (Option Value)}
  (l:K.lookup fa=some ⟨c0,a1,.func (PySem.W.fnOf x y (gM st) (cE st) (az st) d0 k0 o0 m0 a0 c1 t1),sl⟩) (c:PySem.W.codeIn K c1 y=true) (k:PySem.W.keepIn K (.ref fa)=true) :
  FnD K x y st fa (PySem.W.fnOf x y (gM st) (cE st) (az st) d0 k0 o0 m0 a0 c1 t1):=⟨⟨_,_,_,_,_,_,_,_,_,_,l,c,rfl⟩,k⟩
theorem FnD.mkd {K:PySem.W.Frag}{x y:Str}{st:Stmt}{fa T:Addr}{c0 k0 o0 m0 c1 t1:Value}{a0 a1:Option Addr}{sl:Array (Option Value)}
  (l:K.lookup fa=some ⟨c0,a1,.func (PySem.W.fnOf x y (gM st) (cE st) (az st) (.ref T) k0 o0 m0 a0 c1 t1),sl⟩) (c:PySem.W.codeIn K c1 y=true) (k:PySem.W.keepIn K (.ref fa)=true) :
  FnD K x y st fa (PySem.W.fnOf x y (gM st) (cE st) (az st) (.ref T) k0 o0 m0 a0 c1 t1):=.mk' l c k
structure lC (T:Tab) (K:PySem.W.Frag) (mg:Str->Option Value) (st:Stmt) (d:MD) (fa:Addr) (fd:FuncData):Prop where
 fn:FnD K (d.meth.getD d.name) d.name st fa fd
 binds:bc K fd d.params []
 named:(d.meth=none/\mg d.name=some (.ref fa)) \/ ∃ m,d.meth=some m/\∀ C,IsC K C->oG K C m fa
 scope:jg d.names d.params (az st)
 body:chkSs T d.names (az st) d.body (cE st)=true
theorem bn1 {K:PySem.W.Frag}{fd:FuncData}{pa:Str} (h:∀ a,bindArgs fd ⟨[a],[]⟩=pure [(pa,a)]):bc K fd [pa] []:=.all λus hl=>match us,hl with|[a],_=>h a
theorem bn2 {K:PySem.W.Frag}{fd:FuncData}{pa pb:Str} (h:∀ a b,bindArgs fd ⟨[a,b],[]⟩=pure [(pa,a),(pb,b)]):bc K fd [pa,pb] []:=.all λus hl=>match us,hl with|[a,b],_=>h a b
theorem bn3 {K:PySem.W.Frag}{fd:FuncData}{pa pb pc:Str} (h:∀ a b c,bindArgs fd ⟨[a,b,c],[]⟩=pure [(pa,a),(pb,b),(pc,c)]):bc K fd [pa,pb,pc] []:=.all λus hl=>match us,hl with|[a,b,c],_=>h a b c
theorem bn4 {K:PySem.W.Frag}{fd:FuncData}{pa pb pc pd:Str} (h:∀ a b c d,bindArgs fd ⟨[a,b,c,d],[]⟩=pure [(pa,a),(pb,b),(pc,c),(pd,d)]):bc K fd [pa,pb,pc,pd] []:=.all λus hl=>match us,hl with|[a,b,c,d],_=>h a b c d
theorem pD {K:PySem.W.Frag}{fd:FuncData}{ps:List Str}{T:Addr}{c:Value}{o:Option Addr}{vs:Array Value}{n:Nat}{sl:Array (Option Value)} (hd:fd.defaults=.ref T) (l:K.lookup T=some ⟨c,o,.seq vs n,sl⟩)
  (h:∀ us:List Value,us.length=ps.length->∃ k,bindArgs fd ⟨us,[]⟩=seqItems? fd.defaults >>= k/\k (some vs)=pure (ps.zip us)):bc K fd ps []:=λs us X hl=>by
 rw [List.append_nil] at hl ⊢
 obtain ⟨k,h1,h2⟩:=h us hl
 exact .of_defaults hd (X _ _ l) rfl h1 h2
theorem pE {K:PySem.W.Frag}{fd:FuncData}{ps:List Str}{T:Addr}{c v:Value}{o:Option Addr}{n:Nat}{sl:Array (Option Value)} (hd:fd.defaults=.ref T) (l:K.lookup T=some ⟨c,o,.seq #[v] n,sl⟩)
  (h:∀ us:List Value,us.length + 1=ps.length->∃ k,bindArgs fd ⟨us,[]⟩=seqItems? fd.defaults >>= k/\k (some #[v])=pure (ps.zip (us ++ [v]))):bc K fd ps [v]:=λs us X hl=>by
 obtain ⟨k,h1,h2⟩:=h us (by simpa using hl)
 exact .of_defaults hd (X _ _ l) rfl h1 h2
theorem xu {K:PySem.W.Frag}{fd:FuncData}{ps:List Str}{T:Addr}{c:Value}{x:Str}{k:Tok}{o:Option Addr}{n:Nat}{sl:Array (Option Value)} (hd:fd.defaults=.ref T) (l:K.lookup T=some ⟨c,o,.seq #[.str x k] n,sl⟩)
  (h:∀ us:List Value,us.length + 1=ps.length->∃ j,bindArgs fd ⟨us,[]⟩=seqItems? fd.defaults >>= j/\j (some #[.str x k])=pure (ps.zip (us ++ [.str x k]))):∃ vs,bc K fd ps vs/\au ([Sc.str x].map Sc.v) vs:=⟨_,pE hd l h,.cons ⟨k,rfl⟩ .nil⟩
noncomputable def HD (K:PySem.W.Frag) (x:Str) (st:Stmt) (d:MD) (q:FuncData->Prop:=λ_=>True):Prop:=d.name=x/\∃ fa fd,PySem.W.nsIn K mainGlobals x=some (some (.ref fa))/\FnD K x x st fa fd/\bc K fd d.params []/\q fd
noncomputable def HM (K:PySem.W.Frag) (C:Addr) (x y:Str) (st:Stmt) (d:MD):Prop:=d.meth=some x/\d.name=y/\∃ fa fd,oG K C x fa/\FnD K x y st fa fd/\bc K fd d.params []
structure qJ (K:PySem.W.Frag) (C:Addr):Prop where
 cls:Cls K C
 nf:∀ x ∈ gF,dP K C x
 nt:dP K C "taken"
noncomputable def okD (T:Tab) (st:Stmt) (d:MD):Bool :=
 decide ((az st).kind=.function/\(az st).isCoroutine=false/\(az st).isGenerator=false/\d.names.Nodup/\d.names.take d.params.length=d.params/\(∀ x ∈ d.params,(az st).names.lookup x=some .local \/ (az st).names.lookup x=some .cell)/\∀ y ∈ (az st).names,y.2 ≠ .free)
 &&d.meth.isNone
 &&chkSs T d.names (az st) d.body (cE st)
theorem br {T:Tab}{K:PySem.W.Frag}{mg:Str->Option Value}{h:Heap}{st:Stmt}{d:MD} (X:K.In h) (G:h.Ns mainGlobals mg) {q:FuncData->Prop}{x:Str} (hd:HD K x st d q) (ck:okD T st d=true):∃ fa fd,lC T K mg st d fa fd/\q fd:=by
 obtain ⟨e,_,_,n,f,b,z⟩:=hd
 obtain ⟨c1,c2⟩:=Bool.and_eq_true_iff.mp ck
 obtain ⟨c1,c3⟩:=Bool.and_eq_true_iff.mp c1
 obtain ⟨s1,s2,s3,s4,s5,s6,s7⟩:=of_decide_eq_true c1
 subst e
 have hm:d.meth=none:=Option.isNone_iff_eq_none.mp c3
 exact ⟨_,_,⟨by rw [hm];exact f,b,.inl ⟨hm,PySem.W.mg_of X G n⟩,⟨s1,s2,s3,s4,s5,s6,s7⟩,c2⟩,z⟩
noncomputable def okM (T:Tab) (st:Stmt) (d:MD):Bool :=
 decide ((az st).kind=.function/\(az st).isCoroutine=false/\(az st).isGenerator=false/\d.names.Nodup/\d.names.take d.params.length=d.params/\(∀ x ∈ d.params,(az st).names.lookup x=some .local \/ (az st).names.lookup x=some .cell)/\∀ y ∈ (az st).names,y.2 ≠ .free)&&chkSs T d.names (az st) d.body (cE st)
theorem ik {T:Tab}{K:PySem.W.Frag}{mg:Str->Option Value}{C:Addr}{st:Stmt}{d:MD}{x y:Str} (hC:IsC K C) (hd:HM K C x y st d) (ck:okM T st d=true):∃ fa fd,lC T K mg st d fa fd:=by
 obtain ⟨e,en,_,_,n,f,b⟩:=hd
 obtain ⟨c1,c2⟩:=Bool.and_eq_true_iff.mp ck
 obtain ⟨s1,s2,s3,s4,s5,s6,s7⟩:=of_decide_eq_true c1
 subst en
 exact ⟨_,_,⟨by rw [e];exact f,b,.inr ⟨x,e,λC' h=>by
  have:=h.symm.trans hC
  cases this
  exact n⟩,⟨s1,s2,s3,s4,s5,s6,s7⟩,c2⟩⟩
noncomputable def u6 (T:Tab) (K:PySem.W.Frag) (mg:Str->Option Value):List MD->List (List Sc)->Prop
 | [],[]=>True
 | d::ds,l::ls=>(∃ st fa fd,lC T K mg st d fa fd/\∃ vs,bc K fd d.params vs/\au (l.map Sc.v) vs)/\u6 T K mg ds ls
 | _,_=>False
theorem u6.get {T:Tab}{K:PySem.W.Frag}{mg:Str->Option Value}:∀ {ds:List MD}{ls:List (List Sc)}{f:Nat}{d:MD},u6 T K mg ds ls->ds[f]?=some d->∃ l st fa fd,ls[f]?=some l/\lC T K mg st d fa fd/\∃ vs,bc K fd d.params vs/\au (l.map Sc.v) vs
 | [],_,f,d,_,e=>by simp at e
 | _::_,[],f,d,h,e=>h.elim
 | d0::ds,l::ls,0,d,h,e=>by
  cases e
  obtain ⟨⟨st,fa,fd,r⟩,_⟩:=h
  exact ⟨l,st,fa,fd,rfl,r⟩
 | d0::ds,l::ls,f + 1,d,h,e=>by
  obtain ⟨k,st,fa,fd,q,r⟩:=u6.get h.2 (show ds[f]?=some d from by simpa using e)
  exact ⟨k,st,fa,fd,by simpa using q,r⟩
noncomputable def u7 (d:MD):Str:=match d.meth with
 | none=>d.name
 | some _=>"__debug__"
theorem qK {d:MD} (h:aq (u7 d)=true):d.meth=none/\u7 d=d.name:=by
 unfold u7 at h ⊢
 cases e:d.meth with
 | none=>exact ⟨rfl,rfl⟩
 | some m =>
  rw [e] at h
  exact absurd (show aq ("__debug__":Str)=true from h) (by decide +kernel)
structure zE (T:Tab) (K:PySem.W.Frag) (mg:Str->Option Value) (ds:List MD)
 :Prop where
 tab:T.fs=ds.map u7
 tabM:T.ms=ds.map (·.meth)
 cls:∀ C,IsC K C->qJ K C
 ini:∃ C,IsC K C/\mg ("Table":Str)=some (.ref C)/\∃ fa fd ps,Mk K C fa/\bc K fd ps []/\(∀ P w base,dQ P w K mg base CX0 1 fa fd ps (spI K C))/\∃ vs,bc K fd ps vs/\au [V.str "weaver"] vs
 defs:u6 T K mg ds T.ds
 blt:∀ x ∈ hV,mg (x:Str)=none
 gs:∀ p ∈ T.gs,∃ u,mg p.1=some u/\aw (toV p.2) u
theorem kj {ds:List MD}{n f:Nat}{d:MD}{args:List MV}{r:PV} (hd:ds[f]?=some d) (h:ac ds (n + 1) f args=some r):args.length=d.params.length /\
  ((∃ ρ,exs (ac ds n) d.body (args.map some ++ List.replicate (d.names.length - args.length) none)=.next ρ/\r=.non) \/ exs (ac ds n) d.body (args.map some ++ List.replicate (d.names.length - args.length) none)=.ret r \/
   ∃ xs,exs (ac ds n) d.body (args.map some ++ List.replicate (d.names.length - args.length) none)=.retF xs/\r=.lst xs):=by
 rw [ac,hd] at h
 dsimp only at h
 by_cases hl:args.length=d.params.length
 ·rw [if_pos hl] at h
  refine ⟨hl,?_⟩
  cases he:exs (ac ds n) d.body (args.map some ++ List.replicate (d.names.length - args.length) none) with
  | next ρ=>rw [he] at h;cases h;exact .inl ⟨ρ,rfl,rfl⟩
  | ret v=>rw [he] at h;cases h;exact .inr (.inl rfl)
  | retF xs=>rw [he] at h;cases h;exact .inr (.inr ⟨xs,rfl,rfl⟩)
  | retT v ρ=>rw [he] at h;cases h
  | brk ρ=>rw [he] at h;cases h
  | cont ρ=>rw [he] at h;cases h
  | bad=>rw [he] at h;cases h
 ·rw [if_neg hl] at h
  cases h
theorem i7 {ds:List MD}{n f:Nat}{d:MD}{args:List MV}{r:PV} (hf:f < 1000) (hn:ds[f + 1000]?=none) (hd:ds[f]?=some d) (h:ac ds (n + 1) (f + 1000) args=some r):args.length=d.params.length /\
  ∃ xs,exs (ac ds n) d.body (args.map some ++ List.replicate (d.names.length - args.length) none)=.retF xs/\r=.lst xs:=by
 rw [ac,hn] at h
 dsimp only at h
 rw [if_neg (by omega),if_neg (by omega),Nat.add_sub_cancel,hd] at h
 dsimp only at h
 by_cases hl:args.length=d.params.length
 ·rw [if_pos hl] at h
  refine ⟨hl,?_⟩
  cases he:exs (ac ds n) d.body (args.map some ++ List.replicate (d.names.length - args.length) none) with
  | retF xs=>rw [he] at h;cases h;exact ⟨xs,rfl,rfl⟩
  | retT v ρ=>rw [he] at h;cases h
  | next ρ=>rw [he] at h;cases h
  | ret v=>rw [he] at h;cases h
  | brk ρ=>rw [he] at h;cases h
  | cont ρ=>rw [he] at h;cases h
  | bad=>rw [he] at h;cases h
 ·rw [if_neg hl] at h
  cases h
theorem km {ds:List MD}{n f:Nat}{d:MD}{args:List MV}{r:PV} (hf:f < 1000) (hn:ds[f + 3000]?=none) (hd:ds[f]?=some d) (h:ac ds (n + 1) (f + 3000) args=some r):args.length=d.params.length /\
  ∃ v ρ,exs (ac ds n) d.body (args.map some ++ List.replicate (d.names.length - args.length) none)=.retT v ρ/\rN v ρ=some r:=by
 rw [ac,hn] at h
 dsimp only at h
 rw [if_neg (by omega),if_pos (by omega)] at h
 rw [Nat.add_sub_cancel,hd] at h
 dsimp only at h
 by_cases hl:args.length=d.params.length
 ·rw [if_pos hl] at h
  refine ⟨hl,?_⟩
  cases he:exs (ac ds n) d.body (args.map some ++ List.replicate (d.names.length - args.length) none) with
  | retT v ρ=>rw [he] at h;exact ⟨v,ρ,rfl,h⟩
  | next ρ=>rw [he] at h;cases h
  | ret v=>rw [he] at h;cases h
  | retF xs=>rw [he] at h;cases h
  | brk ρ=>rw [he] at h;cases h
  | cont ρ=>rw [he] at h;cases h
  | bad=>rw [he] at h;cases h
 ·rw [if_neg hl] at h
  cases h
theorem zF {ds:List MD}{n:Nat} (hlen:ds.length <= 1000) (h:ac ds n 4000 [] ≠ none):2 <= n:=by
 match n,h with
 | 0,h=>exact absurd rfl h
 | 1,h =>
  refine absurd ?_ h
  rw [ac,List.getElem?_eq_none (by omega)]
  rfl
 | n + 2,h=>omega
theorem xv {v w:Sc}{ρ:Rho}{ys:List PV} (h:rN v ρ=some (.tup [w.pv,.lst ys])):v=w/\∃ fs,ρ[0]?=some (some (.ownO true fs ys)):=by
 unfold rN at h
 split at h
 ·cases v <;> cases w <;> cases h <;> exact ⟨rfl,_,rfl⟩
 ·cases h
theorem gI {α β:Type}{F:α->β->Prop}:∀ {xs:List α}{ys:List β}{i:Nat}{x:α},Paired F xs ys->xs[i]?=some x->∃ y,ys[i]?=some y/\F x y
 | _,_,_,_,.nil,e=>by simp at e
 | _,_,0,_,.cons r _,e=>by simp at e;subst e;exact ⟨_,rfl,r⟩
 | _,_,i + 1,x,.cons _ t,e=>by
  obtain ⟨u,h1,h2⟩:=gI (i:=i) (x:=x) t (by simpa using e)
  exact ⟨u,by simpa using h1,h2⟩
theorem nR {K:PySem.W.Frag}{H:Hp}{O:List Addr}{args:List MV}{vs:List V}{N:List Str} (hO:∀ a ∈ O,H a ≠ none) (h:Paired (d7 K O H) args vs):aD K H O O H (args.map some ++ List.replicate (N.length - args.length) none) (dR N vs):=by
 have hl:args.length=vs.length:=Paired.length h
 have get:∀ (i:Nat) (m:MV),(args.map some ++ List.replicate (N.length - args.length) none)[i]?=some (some m)->∃ u,(dR N vs)[i]?=some (some u)/\d7 K O H m u:=λi m e=>by
  by_cases hi:i < args.length
  ·rw [List.getElem?_append_left (by simpa using hi),List.getElem?_map] at e
   cases ea:args[i]? with
   | none=>rw [ea] at e;cases e
   | some m' =>
    rw [ea] at e
    cases e
    obtain ⟨u,eu,q⟩:=gI h ea
    refine ⟨u,?_,q⟩
    unfold L2.dR
    rw [List.getElem?_append_left (by rw [List.length_map,<- hl];exact hi),List.getElem?_map,eu]
    rfl
  ·rw [List.getElem?_append_right (by simpa using hi),List.getElem?_replicate] at e
   split at e <;> cases e
 refine ⟨ae.refl H,hO,λa ha=>ha,hO,by unfold L2.dR;simp [hl],λi m e=>?_,λi j xs ys a _ e _ ox _=>?_
  ,nu λi m e=>by
   obtain ⟨u,eu,q⟩:=get i _ e
   cases m <;> first|rfl|exact q.elim
  ⟩
 ·obtain ⟨u,eu,q⟩:=get i m e
  refine ⟨u,eu,?_⟩
  cases m with
  | val v=>exact q
  | own _=>exact q.elim
  | ownO _ _ _=>exact q.elim
  | brwO _ _=>exact q
  | brw ys=>exact q
  | ownD _=>exact q.elim
  | brwD _=>exact q
 ·obtain ⟨u,eu,q⟩:=get i _ e
  cases xs with
  | own _=>exact q.elim
  | ownD _=>exact q.elim
  | ownO _ _ _=>exact q.elim
  | brwO _ _=>cases ox
  | val _=>cases ox
  | brw _=>cases ox
  | brwD _=>cases ox
theorem iT {α:Type}{F:α->V->Prop}{args:List α}{vs:List V}{N:List Str} (h:Paired F args vs):∀ (i:Nat) (m:α),(args.map some ++ List.replicate (N.length - args.length) none)[i]?=some (some m)->args[i]?=some m/\∃ u,vs[i]?=some u/\(dR N vs)[i]?=some (some u)/\F m u:=λi m e=>by
 have hl:args.length=vs.length:=Paired.length h
 by_cases hi:i < args.length
 ·rw [List.getElem?_append_left (by simpa using hi),List.getElem?_map] at e
  cases ea:args[i]? with
  | none=>rw [ea] at e;cases e
  | some m' =>
   rw [ea] at e
   cases e
   obtain ⟨u,eu,q⟩:=gI h ea
   refine ⟨rfl,u,eu,?_,q⟩
   unfold L2.dR
   rw [List.getElem?_append_left (by rw [List.length_map,<- hl];exact hi),List.getElem?_map,eu]
   rfl
 ·rw [List.getElem?_append_right (by simpa using hi),List.getElem?_replicate] at e
  split at e <;> cases e
section
variable {T:Tab}{P:Program}{w:World}{K:PySem.W.Frag}{mg:Str->Option Value}{base:Heap}{ds:List MD}
theorem i8 {K:PySem.W.Frag}{O:List Addr}{H:Hp}:∀ {as:List MV}{ws:List V}{i:Nat}{m:MV},Paired (d7 K O H) as ws->as[i]?=some m->dy m=true->False
 | _,_,i,m,.nil,e,_=>by cases i <;> cases e
 | _,_,0,m,.cons x _,e,o=>by
  cases e
  cases m <;> first|(cases o;done)|exact x
 | _,_,i + 1,m,.cons _ t,e,o=>i8 t (by simpa using e) o
theorem u8 {K:PySem.W.Frag}{O:List Addr}{H B:Hp}{m:MV}{u:V} (hh:ak B O=ak H O) (h:d7 K O B m u):d5 K B O H m u:=by
 cases m with
 | val v=>rw [show d7 K O B (.val v) u=Rep K (ak B O) v u from rfl,hh] at h;exact h
 | brw xs=>obtain ⟨c,us,e,q,r⟩:=h;rw [hh] at r;exact ⟨c,us,e,q,r⟩
 | brwD d=>exact h
 | brwO fs xs=>obtain ⟨c,e,q⟩:=h;rw [hh] at q;exact ⟨c,e,q⟩
 | own _=>exact h.elim
 | ownD _=>exact h.elim
 | ownO _ _ _=>exact h.elim
theorem r_ {K:PySem.W.Frag}{H:Hp}{O:List Addr}{a l:Addr}{ws:List V}{fs xs:List PV}{as:List MV}{N:List Str} (hO:∀ b ∈ O,H b ≠ none) (q:d4 K (λ_=>none) O H fs xs a l) (r:Paired (d7 K O (dq H [a,l])) as ws) :
  aD K (dq H [a,l]) (O.filter λb=>decide (b ∉ [a,l])) O H ((.ownO true fs xs::as).map some ++ List.replicate (N.length - (MV.ownO true fs xs::as).length) none) (dR N (.ref a::ws)):=by
 have hh:=k_ (H:=H) q.aO q.lO
 have hp:Paired (λ(m:MV) (u:V)=>(m=.ownO true fs xs/\u=.ref a) \/ d7 K O (dq H [a,l]) m u) (.ownO true fs xs::as) (.ref a::ws):=.cons (.inl ⟨rfl,rfl⟩) (j6 (λ_ _ h=>.inr h) r)
 have hl:=Paired.length hp
 have key:∀ (i:Nat) (m:MV),((.ownO true fs xs::as).map some ++ List.replicate (N.length - (MV.ownO true fs xs::as).length) none)[i]?=some (some m)->dy m=true->i=0:=λi m e o=>by
  obtain ⟨ea,u,ev',eu,q⟩:=iT hp i m e
  cases i with
  | zero=>rfl
  | succ i =>
   rw [List.getElem?_cons_succ] at ea
   exact (i8 r ea o).elim
 refine ⟨λb u e=>?_,hO,λb hb=>(List.mem_filter.mp hb).1,λb hb=>?_,by unfold L2.dR;simp at hl ⊢;omega,λi m e=>?_,λi j m m' c hij e1 e2 o1 o2 s1 s2=>hij ((key i m e1 o1).trans (key j m' e2 o2).symm),λi m0 a2 l2 e1 l0 e2 e3 j m hji ej=>?_⟩
 ·unfold dq at e
  split at e
  ·cases e
  ·exact e
 ·obtain ⟨h1,h2⟩:=List.mem_filter.mp hb
  unfold dq
  rw [if_neg (of_decide_eq_true h2)]
  exact hO b h1
 ·obtain ⟨ea,u,ev',eu,qq⟩:=iT hp i m e
  refine ⟨u,eu,?_⟩
  rcases qq with ⟨rfl,rfl⟩|qq
  ·refine ⟨a,l,rfl,q.move (ae.refl _) (λ_ h=>h) (λ_ h=>h) q.aO q.lO ?_ ?_⟩
   ·unfold dq
    rw [if_pos (by simp)]
   ·unfold dq
    rw [if_pos (by simp)]
  ·exact u8 hh qq
 ·have o0:dy m0=true:=by cases m0 <;> first|(cases l0;done)|rfl
  have hi:=key i m0 e1 o0
  obtain ⟨ea,u,ev',eu,qq⟩:=iT hp j m ej
  rcases qq with ⟨rfl,rfl⟩|qq
  ·exact absurd ((key j _ ej rfl).trans hi.symm) hji
  ·cases m <;> first|exact qq.elim|exact ⟨rfl,λc o=>by cases o⟩
structure BE (T:Tab) (P:Program) (w:World) (K:PySem.W.Frag) (mg:Str->Option Value) (base:Heap) (ds:List MD) (n g:Nat) (fa:Addr) (fd:FuncData) (ps:List Str):Prop where
 m:dQ P w K mg base CX0 n fa fd ps (spM K (ac ds n) g)
 f:dQ P w K mg base CX0 n fa fd ps (spF K (ac ds n) g)
 t:dQ P w K mg base CX0 n fa fd ps (spT K (ac ds n) g)
theorem im (hlen:ds.length <= 1000)
  (pr:zE T K mg ds)
 :∀ (n f:Nat) (d:MD),ds[f]?=some d->∀ st fa fd,lC T K mg st d fa fd->BE T P w K mg base ds n f fa fd d.params
 | 0,f,d,hd,st,fa,fd,D=>{
   m:=⟨λvs H Q E h=>(by obtain ⟨O,args,r,_,_,e,_⟩:=h;exact absurd e (by simp [ac])),λA outer s H args us vs Q E _ _ _ _ h=>(by obtain ⟨O,args,r,_,_,e,_⟩:=h;exact absurd e (by simp [ac]))⟩
   f:=⟨λvs H Q E h=>(by obtain ⟨O,args,r,_,_,e,_⟩:=h;exact absurd e (by simp [ac])),λA outer s H args us vs Q E _ _ _ _ h=>(by obtain ⟨O,args,r,_,_,e,_⟩:=h;exact absurd e (by simp [ac]))⟩
   t:=⟨λvs H Q E h=>(by obtain ⟨O,a,l,fs,xs,as,ws,v,ys,_,_,_,_,e,_⟩:=h;exact absurd e (by simp [ac])),λA outer s H args us vs Q E _ _ _ _ h=>(by obtain ⟨O,a,l,fs,xs,as,ws,v,ys,_,_,_,_,e,_⟩:=h;exact absurd e (by simp [ac]))⟩
   }
 | n + 1,f,d,hd,st,fa,fd,D=>by
  obtain ⟨c0,d0,k0,o0,m0,a0,cdv,t1,a1,sl,lk,hc,rfl⟩:=D.fn.it
  have hf:f < 1000:=Nat.lt_of_lt_of_le (List.getElem?_eq_some_iff.mp hd).1 hlen
  have hn:ds[f + 1000]?=none:=List.getElem?_eq_none (by omega)
  have hn3:ds[f + 3000]?=none:=List.getElem?_eq_none (by omega)
  have gg:∀ {CX:CXT}{A:Around}{outer:_}{s:Shared}{H:Hp}{E:_},_->Gf (mQ CX P w K mg base d.names d.name (az st) fa cdv A outer s H E).nox T n (ac ds n):=λ{CX A outer s H E} hr=>{
   calm:=rfl
   room:=hr
   fns:=λf' x hx hp=>by
    rw [pr.tab,List.getElem?_map] at hx
    cases hd2:ds[f']? with
    | none=>rw [hd2] at hx;cases hx
    | some d2 =>
     rw [hd2] at hx
     cases hx
     obtain ⟨hm,hnm⟩:=qK hp
     obtain ⟨l2,st2,fa2,fd2,el,D2,bd⟩:=pr.defs.get hd2
     rcases D2.named with ⟨_,nd⟩|⟨m,em,_⟩
     ·exact ⟨fa2,fd2,d2.params,by rw [hnm];exact nd,D2.fn.kp,D2.binds,(im hlen pr n f' d2 hd2 st2 fa2 fd2 D2).m,λl hl=>by rw [el] at hl;cases hl;exact bd⟩
     ·rw [hm] at em;cases em
   cls:=λC h=>⟨(pr.cls C h).cls,(pr.cls C h).nf,(pr.cls C h).nt⟩
   meths:=λf' m hx C hC=>by
    rw [pr.tabM,List.getElem?_map] at hx
    cases hd2:ds[f']? with
    | none=>rw [hd2] at hx;cases hx
    | some d2 =>
     rw [hd2] at hx
     have hx:d2.meth=some m:=Option.some.inj hx
     obtain ⟨l2,st2,fa2,fd2,el,D2,bd⟩:=pr.defs.get hd2
     rcases D2.named with ⟨em,_⟩|⟨m',em,nd⟩
     ·rw [hx] at em;cases em
     ·rw [hx] at em
      cases em
      exact ⟨fa2,fd2,d2.params,nd C hC,D2.binds,(im hlen pr n f' d2 hd2 st2 fa2 fd2 D2).m⟩
   methsT:=λf' m hx C hC=>by
    rw [pr.tabM,List.getElem?_map] at hx
    cases hd2:ds[f']? with
    | none=>rw [hd2] at hx;cases hx
    | some d2 =>
     rw [hd2] at hx
     have hx:d2.meth=some m:=Option.some.inj hx
     obtain ⟨l2,st2,fa2,fd2,el,D2,bd⟩:=pr.defs.get hd2
     rcases D2.named with ⟨em,_⟩|⟨m',em,nd⟩
     ·rw [hx] at em;cases em
     ·rw [hx] at em
      cases em
      exact ⟨fa2,fd2,d2.params,nd C hC,D2.binds,(im hlen pr n f' d2 hd2 st2 fa2 fd2 D2).t⟩
   lvl:=λh=>dj.mono hr (zF hlen h)
   ini:=λ_=>by
    obtain ⟨C,h1,h2,fa,fd,ps,h3,h4,h5,h6⟩:=pr.ini
    exact ⟨C,h1,h2,fa,fd,ps,h3,h4,h5 _ _ _,h6⟩
   blt:=pr.blt
   gs:=pr.gs
   fnsF:=λf' x hx hp=>by
    rw [pr.tab,List.getElem?_map] at hx
    cases hd2:ds[f']? with
    | none=>rw [hd2] at hx;cases hx
    | some d2 =>
     rw [hd2] at hx
     cases hx
     obtain ⟨hm,hnm⟩:=qK hp
     obtain ⟨l2,st2,fa2,fd2,el,D2,bd⟩:=pr.defs.get hd2
     rcases D2.named with ⟨_,nd⟩|⟨m,em,_⟩
     ·exact ⟨fa2,fd2,d2.params,by rw [hnm];exact nd,D2.fn.kp,D2.binds,(im hlen pr n f' d2 hd2 st2 fa2 fd2 D2).f⟩
     ·rw [hm] at em;cases em
   }
  have df:∀ {CX:CXT}{A:Around}{outer:_}{s:Shared}{H:Hp}{E:_},Df (mQ CX P w K mg base d.names d.name (az st) fa cdv A outer s H E).nox:=λ{CX A outer s H E}=>⟨D.scope.nd,λ_=>rfl,PassesOwn.never,by
    have hk:(mQ CX P w K mg base d.names d.name (az st) fa cdv A outer s H E).nox.env.scope.kind=.function:=D.scope.kind
    unfold Env.blockKind
    rw [hk]
    rfl
    ⟩
  refine {
   m:=?_
   f:=?_
   t:=?_
   }
  ·refine p0 lk hc D.scope (λvs H Q E h=>?_) (λA outer s H vs Q E hr h=>?_)
   ·obtain ⟨O,args,r,_,hp,e,_⟩:=h
    rw [<- (kj hd e).1]
    exact (Paired.length hp).symm
   ·obtain ⟨O,args,r,hO,hp,e,q⟩:=h
    obtain ⟨hl,hr'⟩:=kj hd e
    refine ⟨_,(soundSs (gg hr) df d.body (cE st) D.body).nox,H,O,O,_,nR hO hp,?_⟩
    rcases hr' with ⟨ρ,he,rfl⟩|he|⟨xs,he,rfl⟩
    ·rw [he]
     exact λσ' H' O' st' _=>q _ H' st'.keep (mr _)
    ·rw [he]
     exact λu H' s' r'=>q u H' s' r'
    ·rw [he]
     refine λp us H' s' hp' he' r'=>q _ H' s' ?_
     rw [Rep]
     refine ⟨p,us,rfl,SqL.of ?_,Reps.mono ic _ r'⟩
     rw [aI λz=>hO p z hp']
     exact he'
  ·refine p0 lk hc D.scope (λvs H Q E h=>?_) (λA outer s H vs Q E hr h=>?_)
   ·obtain ⟨O,args,r,_,hp,e,_⟩:=h
    rw [<- (i7 hf hn hd e).1]
    exact (Paired.length hp).symm
   ·obtain ⟨O,args,xs,hO,hp,e,q⟩:=h
    obtain ⟨hl,ys,he,ey⟩:=i7 hf hn hd e
    cases ey
    refine ⟨_,(soundSs (gg hr) df d.body (cE st) D.body).nox,H,O,O,_,nR hO hp,?_⟩
    rw [he]
    exact λp us H' s' hp' he' r'=>q p us H' s' hp' he' r'
  ·refine p0 lk hc D.scope (λvs H Q E h=>?_) (λA outer s H vs Q E hr h=>?_)
   ·obtain ⟨O,a,l,fs,xs,as,ws,v,ys,rfl,_,_,r,e,_⟩:=h
    rw [<- (km hf hn3 hd e).1]
    simp [Paired.length r]
   ·obtain ⟨O,a,l,fs,xs,as,ws,v,ys,rfl,hO,q,r,e,kq⟩:=h
    obtain ⟨hl,v',ρ,he,ee⟩:=km hf hn3 hd e
    obtain ⟨rfl,fs',e0⟩:=xv ee
    refine ⟨_,(soundSs (gg hr) df d.body (cE st) D.body).nox,dq H [a,l],_,O,_,r_ hO q r,?_⟩
    rw [he]
    intro σ' H' O' st' k'
    obtain ⟨⟨xs0,e1⟩,es⟩:=k'.mutO 0 fs' ys e0
    have efs:fs'=fs:=by
     have e1:some (some (MV.ownO true fs xs))=some (some (MV.ownO true fs' xs0)):=e1
     cases e1
     rfl
    subst efs
    obtain ⟨u,eu,a',l',rfl,q2⟩:=st'.slot 0 _ e0
    have ea:a'=a:=by
     rw [eu] at es
     have es:some (some (V.ref a'))=some (some (V.ref a)):=es
     cases es
     rfl
    subst ea
    have lB:=q2.lB
    refine kq l' H' (λb o n1 n2 eb=>st'.keep b o ?_) ?_ (q2.move (bf (ae.refl _) λb hb=>.inl ?_) (λ_ h=>h) (λ_ h=>h) (List.mem_cons_of_mem _ (List.mem_filter.mpr ⟨q.aO,decide_eq_true q.ne⟩)) List.mem_cons_self rfl rfl)
    ·unfold dq
     rw [if_neg λz=>by
      rcases List.mem_cons.mp z with z|z
      ·exact n1 z
      ·exact n2 (List.mem_singleton.mp z)]
     exact eb
    ·unfold dq at lB
     split at lB
     ·rename_i z
      rcases List.mem_cons.mp z with z|z
      ·exact absurd z.symm q2.ne
      ·exact .inl (List.mem_singleton.mp z)
     ·exact .inr lB
    ·rcases List.mem_cons.mp hb with rfl|hb
     ·exact q2.lO
     ·obtain ⟨h1,h2⟩:=List.mem_filter.mp hb
      by_cases z:b=a'
      ·subst z
       exact q2.aO
      ·refine k'.stay b ?_ h1
       unfold dq
       rw [if_neg λw=>by
        rcases List.mem_cons.mp w with w|w
        ·exact z w
        ·exact of_decide_eq_true h2 (List.mem_singleton.mp w)]
       exact hO b h1
theorem BF (hlen:ds.length <= 1000)
  (pr:zE T K mg ds)
  (n f:Nat) (d:MD) (hd:ds[f]?=some d) (st:Stmt) (fa:Addr) (fd:FuncData) (D:lC T K mg st d fa fd):dQ P w K mg base CX0 n fa fd d.params (spM K (ac ds n) f):=(im hlen pr n f d hd st fa fd D).m
end
theorem xw {K:PySem.W.Frag}{H:Hp}{la x C dx:Addr}{us:List V}{gs:List (Str × V)}{o:HO} (h:SqT K H la us) (hx:H x=some (.ins C dx gs)):SqT K (upd H x o) la us:=by
 rcases h with (e|⟨o',e⟩)|e
 ·have n:la ≠ x:=λz=>by rw [z,hx] at e;cases e
  exact .inl (.inl (by rw [af n];exact e))
 ·have n:la ≠ x:=λz=>by rw [z,hx] at e;cases e
  exact .inl (.inr ⟨o',by rw [af n];exact e⟩)
 ·exact .inr e
theorem ip {x:Str}{v:V}{gs:List (Str × V)}{n:Nat} (h:gs.length <= n):(dO x v gs).length <= n + 1:=by
 induction gs generalizing n with
 | nil=>exact Nat.succ_le_succ (Nat.zero_le _)
 | cons p gs ih =>
  obtain ⟨y,w⟩:=p
  show (if y=x then (y,v)::gs else (y,w)::dO x v gs).length <= _
  cases n with
  | zero=>cases h
  | succ n =>
   have:=ih (Nat.le_of_succ_le_succ h)
   have:=Nat.le_of_succ_le_succ h
   split
   ·simp only [List.length_cons];omega
   ·simp only [List.length_cons];omega
theorem zG {K:PySem.W.Frag}{C C':Addr} (h:IsC K C) (c:qJ K C) (h':IsC K C'):qJ K C':=by
 have:=h'.symm.trans h
 cases this
 exact c
theorem ya {K:PySem.W.Frag}{C:Addr} (n0:PySem.W.findIn K (.ref C) "hole_count"=some none) (n1:PySem.W.findIn K (.ref C) "ribbons"=some none) (n2:PySem.W.findIn K (.ref C) "opener"=some none) (x:Str) (hx:x ∈ gF):dP K C x:=by
 simp only [gF,List.mem_cons,List.not_mem_nil,or_false] at hx
 rcases hx with rfl|rfl|rfl
 ·exact n0
 ·exact n1
 ·exact n2
theorem zH {K:PySem.W.Frag}{ds:List MD}{n li:Nat}{H:Hp}{a:Addr}{ns:List Int} (h:ac ds n li [.brw (ns.map .int)]=some (.bl true)) (hS:SqL K H a (ns.map V.int)):spM K (ac ds n) li [.ref a] H (λv _=>v=.bl true) λ_ _ _=>False :=
 ⟨[],[.brw (ns.map .int)],.bl true,λ_ z=>by simp at z,.cons ⟨a,_,rfl,hS,.of_ints ns⟩ .nil,h,λu H' _ r=>by rw [Rep] at r;exact r⟩
end MM
namespace MM
open PySem
noncomputable abbrev ofS (ts:List Int):PV:=.tup (ts.map .int)
noncomputable abbrev ofR (R:List (List Int)):PV:=.tup (R.map ofS)
noncomputable abbrev ofL (ns:List Int):PV:=.lst (ns.map .int)
theorem bM:∀ ns:List Int,aU (ns.map .int)=some ns
 | []=>rfl
 | n::ns=>by simp [aU,bM ns]
theorem lD:∀ R:List (List Int),eC (R.map ofS)=some R
 | []=>rfl
 | t::R=>by simp [eC,bM,lD R]
theorem gJ:∀ ns:List Bool,bO (ns.map .bl)=some ns
 | []=>rfl
 | n::ns=>by simp [bO,gJ ns]
theorem sd {ns:List Int} (h:ns.length < 64):dk (ns.map .int)=some (ofL (sortI ns)):=by
 unfold dk
 rw [if_pos (by simpa using h),bM]
theorem lE {R:List (List Int)} (h:R.length < 64):dk (R.map ofS)=some (.lst ((sortT R).map ofS)):=by
 unfold dk
 rw [if_pos (by simpa using h)]
 cases R with
 | nil=>rfl
 | cons t R =>
  have:aU ((t::R).map ofS)=none:=rfl
  rw [this]
  simp only [lD,Option.map_some]
theorem d9 {α:Type}{g:α->PV}{c:PV->Option Bool}{f:PV->Option PV}{p:α->Bool}{h:α->PV}:∀ {xs:List α},(∀ x ∈ xs,c (g x)=some (p x))->(∀ x ∈ xs,p x=true->f (g x)=some (h x))->dZ c f (xs.map g)=some ((xs.filter p).map h)
 | [],_,_=>rfl
 | x::xs,hc,hf=>by
  rw [List.map_cons,dZ,hc x (.head _),Option.bind_some]
  have ih:=d9 (xs:=xs) (λy hy=>hc y (.tail _ hy)) (λy hy=>hf y (.tail _ hy))
  cases hp:p x with
  | true=>rw [if_pos rfl,hf x (.head _) hp,Option.bind_some,ih,List.filter_cons_of_pos hp];rfl
  | false=>rw [if_neg (by simp),ih,List.filter_cons_of_neg (by simp [hp])]
theorem ko {α:Type}{g:α->PV}{c:PV->Option Bool}{f:PV->Option PV}{h:α->PV}{xs:List α} (hc:∀ x ∈ xs,c (g x)=some true) (hf:∀ x ∈ xs,f (g x)=some (h x)):dZ c f (xs.map g)=some (xs.map h):=by
 rw [d9 (p:=λ_=>true) hc (λx hx _=>hf x hx),List.filter_eq_self.mpr λ_ _=>rfl]
theorem zI (a b:Int) (ts:List Int):((b == a) || decide (a ∈ ts))=decide (a=b \/ a ∈ ts):=by
 by_cases e:a=b
 ·subst e;rw [beq_self_eq_true,Bool.true_or];exact (decide_eq_true (.inl rfl)).symm
 ·rw [beq_eq_false_iff_ne.mpr (Ne.symm e),Bool.false_or]
  by_cases q:a ∈ ts
  ·rw [decide_eq_true q,decide_eq_true (.inr q)]
  ·rw [decide_eq_false q,decide_eq_false (λz=>z.elim e q)]
theorem zJ (a b:List Int) (ts:List (List Int)):(decide (b=a) || decide (a ∈ ts))=decide (a=b \/ a ∈ ts):=by
 by_cases e:a=b
 ·subst e;rw [decide_eq_true rfl,Bool.true_or];exact (decide_eq_true (.inl rfl)).symm
 ·rw [decide_eq_false (Ne.symm e),Bool.false_or]
  by_cases q:a ∈ ts
  ·rw [decide_eq_true q,decide_eq_true (.inr q)]
  ·rw [decide_eq_false q,decide_eq_false (λz=>z.elim e q)]
theorem dH (h:Int):∀ ts:List Int,isIn (.int h) (ts.map .int)=some (decide (h ∈ ts))
 | []=>rfl
 | t::ts=>by
  have ih:=dH h ts
  unfold isIn at ih ⊢
  rw [List.map_cons,inL,ih]
  simp only [eqF,Option.bind_some,Option.map_some,List.mem_cons,zI]
theorem nS (n:Nat):∀ a b:List Int,eqL (eqF n) (a.map .int) (b.map .int)=some (decide (a=b))
 | [],[]=>rfl
 | [],_::_=>rfl
 | _::_,[]=>rfl
 | x::a,y::b=>by
  rw [List.map_cons,List.map_cons,eqL,nS n a b]
  simp only [eqF,Option.bind_some,Option.map_some,List.cons.injEq]
  congr 1
  rw [Bool.eq_iff_iff]
  simp
theorem BG (n:Nat) (a b:List Int):eqF (n + 1) (ofS a) (ofS b)=some (decide (a=b)):=by rw [eqF,nS]
theorem u9 (h:List Int):∀ ts:List (List Int),isIn (ofS h) (ts.map ofS)=some (decide (h ∈ ts))
 | []=>rfl
 | t::ts=>by
  have ih:=u9 h ts
  unfold isIn at ih ⊢
  rw [List.map_cons,inL,ih,BG 99]
  simp only [Option.bind_some,Option.map_some,List.mem_cons,zJ]
noncomputable def ci:R->Option PV
 | .next _=>some .non
 | .ret v=>some v
 | .retF xs=>some (.lst xs)
 | _=>none
theorem ay {ds:List MD}{n f:Nat}{d:MD}{args:List MV} (hd:ds[f]?=some d) (hl:args.length=d.params.length):ac ds (n + 1) f args=ci (exs (ac ds n) d.body (args.map some ++ List.replicate (d.names.length - args.length) none)):=by
 rw [ac,hd]
 simp only [hl,if_true]
 unfold ci
 rfl
noncomputable def zK:R->Option PV
 | .retT v ρ=>rN v ρ
 | _=>none
theorem se {ds:List MD}{n f:Nat}{d:MD}{args:List MV} (hf:f < 1000) (hn:ds[f + 3000]?=none) (hd:ds[f]?=some d) (hl:args.length=d.params.length):ac ds (n + 1) (f + 3000) args=zK (exs (ac ds n) d.body (args.map some ++ List.replicate (d.names.length - args.length) none)):=by
 rw [ac,hn]
 dsimp only
 rw [if_neg (by omega),if_pos (by omega)]
 rw [Nat.add_sub_cancel,hd]
 simp only [hl,if_true]
 unfold zK
 rfl
@[simp] theorem Aj (xs:List PV) (k:Rho->R):(R.retF xs).andThen k=.retF xs:=rfl
@[simp] theorem Ak (v:PV):bh (some (.val v))=some v:=rfl
@[simp] theorem Al (v:List PV):bh (some (.own v))=some (.lst v):=rfl
@[simp] theorem Am (v:List PV):bh (some (.brw v))=some (.lst v):=rfl
@[simp] theorem zL (v:DD):bh (some (.ownD v))=some (.dI v):=rfl
@[simp] theorem zM (v:DD):bh (some (.brwD v))=some (.dI v):=rfl
@[simp] theorem zN (v:DD):cg (some (.ownD v))=some (.brwD v):=rfl
@[simp] theorem zO (v:DD):cg (some (.brwD v))=some (.brwD v):=rfl
@[simp] theorem zP (v:DD):cQ (some (.ownD v))=some (.brwD v):=rfl
@[simp] theorem zQ (v:DD):cQ (some (.brwD v))=some (.brwD v):=rfl
@[simp] theorem CL (i:Int):sc? (.int i)=some (.int i):=rfl
@[simp] theorem C4 (i:Bool):sc? (.bl i)=some (.bl i):=rfl
@[simp] theorem CM:sc? .non=some .non:=rfl
@[simp] theorem CN (i:Int):(Sc.int i).pv=.int i:=rfl
@[simp] theorem C5 (i:Bool):(Sc.bl i).pv=.bl i:=rfl
@[simp] theorem An (v:PV):qh (some (.val v))=some v:=rfl
@[simp] theorem Ao (v:PV):cg (some (.val v))=some (.val v):=rfl
@[simp] theorem Ap (v:List PV):cg (some (.own v))=some (.brw v):=rfl
@[simp] theorem Aq (v:List PV):cg (some (.brw v))=some (.brw v):=rfl
@[simp] theorem Ar (v:PV):cQ (some (.val v))=some (.val v):=rfl
@[simp] theorem As (v:List PV):cQ (some (.own v))=some (.brw v):=rfl
@[simp] theorem At (v:List PV):cQ (some (.brw v))=some (.brw v):=rfl
@[simp] theorem Au (b:Bool):aJ (.bl b)=some b:=rfl
@[simp] theorem BZ (i j:Int):gY .add (.int i) (.int j)=some (.int (i + j)):=rfl
@[simp] theorem B0 (i j:Int):gY .sub (.int i) (.int j)=some (.int (i - j)):=rfl
@[simp] theorem B1 (i j:Int):gY .mul (.int i) (.int j)=if (-(2 ^ 64) < i/\i < 2 ^ 64) \/ (-(2 ^ 64) < j/\j < 2 ^ 64) then some (.int (i * j)) else none:=rfl
@[simp] theorem BH (i j:Int):gY .fdiv (.int i) (.int j)=if 0 < j/\j < 1073741824 then some (.int (i / j)) else none:=rfl
@[simp] theorem B2 (i j:Int):gY .mod (.int i) (.int j)=if 0 < j then some (.int (i % j)) else none:=rfl
@[simp] theorem B3 (x y:List PV):gY .add (.lst x) (.lst y)=if x.length + y.length <= 10000 then some (.lst (x ++ y)) else none:=rfl
@[simp] theorem CO (i j:Int):cc .lt (.int i) (.int j)=some (decide (i < j)):=rfl
@[simp] theorem CP (i j:Int):cc .le (.int i) (.int j)=some (decide (i <= j)):=rfl
@[simp] theorem CQ (i j:Int):cc .gt (.int i) (.int j)=some (decide (j < i)):=rfl
@[simp] theorem CS (i j:Int):cc .ge (.int i) (.int j)=some (decide (j <= i)):=rfl
@[simp] theorem CT (x y:PV):cc .eq x y=eqF 100 x y:=rfl
@[simp] theorem CU (x y:PV):cc .ne x y=if rK x y=true then (eqF 100 x y).map (λp=>!p) else none:=rfl
@[simp] theorem xx (x:PV):cc .isN x .non=some (fu x):=rfl
@[simp] theorem BI (x:PV):cc .notN x .non=some (!fu x):=rfl
@[simp] theorem B4 (x:PV) (xs:List PV):cc .isIn x (.tup xs)=isIn x xs:=rfl
@[simp] theorem B5 (x:PV) (xs:List PV):cc .isIn x (.lst xs)=isIn x xs:=rfl
@[simp] theorem BJ (x:PV) (xs:List PV):cc .notIn x (.tup xs)=(isIn x xs).map λp=>!p:=rfl
@[simp] theorem BK (x:PV) (xs:List PV):cc .notIn x (.lst xs)=(isIn x xs).map λp=>!p:=rfl
@[simp] theorem B6 (n:Nat) (i j:Int):eqF n (.int i) (.int j)=some (i == j):=by cases n <;> rfl
@[simp] theorem CV (n:Nat) (i j:Bool):eqF n (.bl i) (.bl j)=some (i == j):=by cases n <;> rfl
@[simp] theorem B7 (n:Nat) (i j:Str):eqF n (.str i) (.str j)=some (i == j):=by cases n <;> rfl
@[simp] theorem B8 (x y:List PV):rK (.tup x) (.tup y)=true:=rfl
@[simp] theorem B9 (x y:List PV):rK (.lst x) (.lst y)=true:=rfl
@[simp] theorem B_ (x y:Int):rK (.int x) (.int y)=true:=rfl
@[simp] theorem Ca (x:List PV):a9 (.tup x)=some x:=rfl
@[simp] theorem xy (x:List PV):a9 (.lst x)=some x:=rfl
@[simp] theorem BL (x:List PV):av .len [.tup x]=some (.int x.length):=rfl
@[simp] theorem BM (x:List PV):av .len [.lst x]=some (.int x.length):=rfl
@[simp] theorem BN (x:List (Int × Sc)):av .len [.dI (.k x)]=some (.int x.length):=rfl
@[simp] theorem Cb (x:PV):av .tupleOf [x]=(a9 x).map .tup:=rfl
@[simp] theorem BO (x:PV):av .listOf [x]=(a9 x).map .lst:=rfl
@[simp] theorem pF (x:PV):av .sorted [x]=(a9 x).bind dk:=rfl
@[simp] theorem Cc (x:List PV):av .any [.lst x]=(bO x).map λbs=>.bl (bs.any id):=rfl
@[simp] theorem Cd (x:List PV):av .all [.lst x]=(bO x).map λbs=>.bl (bs.all id):=rfl
@[simp] theorem BP (i:Int):av .intOf [.int i]=some (.int i):=rfl
@[simp] theorem BQ (b:Bool):av .intOf [.bl b]=some (.int (if b then 1 else 0)):=rfl
@[simp] theorem Ce (i:Int):isD (.int i)=false:=rfl
@[simp] theorem CW (i:Bool):isD (.bl i)=false:=rfl
@[simp] theorem Cf (i:Str):isD (.str i)=false:=rfl
@[simp] theorem Cg (i:List PV):isD (.tup i)=false:=rfl
@[simp] theorem Ch (i:List PV):isD (.lst i)=false:=rfl
@[simp] theorem Ci:isD .non=false:=rfl
@[simp] theorem Av (x:PV):av .isInt [x]=if isD x=true then none else some (.bl (isT .isInt x)):=rfl
@[simp] theorem vO (i:Int):isT .isInt (.int i)=true:=rfl
@[simp] theorem xz (i:Bool):isT .isInt (.bl i)=true:=rfl
@[simp] theorem vP (i:Str):isT .isInt (.str i)=false:=rfl
@[simp] theorem vQ (i:List PV):isT .isInt (.lst i)=false:=rfl
@[simp] theorem vR (i:List PV):isT .isInt (.tup i)=false:=rfl
@[simp] theorem vS:isT .isInt .non=false:=rfl
@[simp] theorem zR (x:PV):av .isBool [x]=if isD x=true then none else some (.bl (isT .isBool x)):=rfl
@[simp] theorem u_ (i:Int):isT .isBool (.int i)=false:=rfl
@[simp] theorem vT (i:Bool):isT .isBool (.bl i)=true:=rfl
@[simp] theorem va (i:Str):isT .isBool (.str i)=false:=rfl
@[simp] theorem vb (i:List PV):isT .isBool (.lst i)=false:=rfl
@[simp] theorem vc (i:List PV):isT .isBool (.tup i)=false:=rfl
@[simp] theorem vd:isT .isBool .non=false:=rfl
@[simp] theorem Aw (x:PV):av .isStr [x]=if isD x=true then none else some (.bl (isT .isStr x)):=rfl
@[simp] theorem vU (i:Int):isT .isStr (.int i)=false:=rfl
@[simp] theorem xA (i:Bool):isT .isStr (.bl i)=false:=rfl
@[simp] theorem vV (i:Str):isT .isStr (.str i)=true:=rfl
@[simp] theorem vW (i:List PV):isT .isStr (.lst i)=false:=rfl
@[simp] theorem vX (i:List PV):isT .isStr (.tup i)=false:=rfl
@[simp] theorem vY:isT .isStr .non=false:=rfl
@[simp] theorem zS (x:PV):av .isList [x]=if isD x=true then none else some (.bl (isT .isList x)):=rfl
@[simp] theorem ve (i:Int):isT .isList (.int i)=false:=rfl
@[simp] theorem vZ (i:Bool):isT .isList (.bl i)=false:=rfl
@[simp] theorem vf (i:Str):isT .isList (.str i)=false:=rfl
@[simp] theorem vg (i:List PV):isT .isList (.lst i)=true:=rfl
@[simp] theorem vh (i:List PV):isT .isList (.tup i)=false:=rfl
@[simp] theorem vi:isT .isList .non=false:=rfl
@[simp] theorem yb (x:PV):av .isTuple [x]=if isD x=true then none else some (.bl (isT .isTuple x)):=rfl
@[simp] theorem sy (i:Int):isT .isTuple (.int i)=false:=rfl
@[simp] theorem vj (i:Bool):isT .isTuple (.bl i)=false:=rfl
@[simp] theorem sA (i:Str):isT .isTuple (.str i)=false:=rfl
@[simp] theorem sB (i:List PV):isT .isTuple (.lst i)=false:=rfl
@[simp] theorem sC (i:List PV):isT .isTuple (.tup i)=true:=rfl
@[simp] theorem sD:isT .isTuple .non=false:=rfl
@[simp] theorem BR (xs:List PV):av .max1 [.lst xs]=(aU xs).bind λns=>(A9 ns).map .int:=rfl
@[simp] theorem zT (d:DD):av .valuesOf [.dI d]=if (qg d).length <= 10000 then some (.lst (qg d)) else none:=rfl
@[simp] theorem vk (kvs:List (Int × Sc)):av .sortedKeys [.dI (.k kvs)]=if kvs.length < 64 then some (ofL (sortI (kvs.map (·.1)))) else none:=rfl
@[simp] theorem CY (kvs:List (Int × Sc)) (i:Int):t0 (.dI (.k kvs)) (.int i)=some (nj kvs i):=rfl
@[simp] theorem CZ (kvs:List (List Int × Sc)) (ns:List Int):t0 (.dI (.t kvs)) (.tup (ns.map .int))=some (nj kvs ns):=by
 show (aU (ns.map .int)).map (nj kvs)=_
 rw [bM]
 rfl
@[simp] theorem C0 (kvs:List (Int × Sc)) (i:Int) (s:Sc):yP (.k kvs) (.int i) s=if kvs.length < 10000 then some (.k (nk kvs i s)) else none:=rfl
@[simp] theorem C1 (kvs:List (List Int × Sc)) (ns:List Int) (s:Sc):yP (.t kvs) (.tup (ns.map .int)) s=if kvs.length < 10000 then some (.t (nk kvs ns s)) else none:=by
 show ((aU (ns.map .int)).bind λk=>if kvs.length < 10000 then some (DD.t (nk kvs k s)) else none)=_
 rw [bM]
 rfl
@[simp] theorem Cj (p q:Bool):cc .isN (.bl p) (.bl q)=some (p == q):=rfl
@[simp] theorem BS (p q:Bool):cc .notN (.bl p) (.bl q)=some (!(p == q)):=rfl
@[simp] theorem xB (xs:List PV):av .tupleRev [.lst xs]=some (.tup xs.reverse):=rfl
@[simp] theorem v0 (x:PV):av .sortedSet [x]=(a9 x).bind λxs=>(aU xs).bind λns=>if ns.length <= 1000/\(dd ns).length < 64 then some (.lst ((sortI (dd ns)).map .int)) else none:=rfl
@[simp] theorem C6 (x:List PV) (i:Int):jW (.lst x) (.int i)=(place x.length i).bind λj=>x[j]?:=rfl
@[simp] theorem C7 (x:List PV) (i:Int):jW (.tup x) (.int i)=(place x.length i).bind λj=>x[j]?:=rfl
@[simp] theorem Ck (x:List PV) (lo hi:Option Int):jj (.lst x) lo hi=some (.lst (cut x lo hi)):=rfl
@[simp] theorem Cl (i j:Int):bnd (.cst (.int i)) (.int j)=some (some j):=rfl
@[simp] theorem mE (x:PV):cm .seq [x]=a9 x:=rfl
theorem xC (j:Int):cm .rng [.int j]=if -(2 ^ 62) <= j/\j < 2 ^ 62 then some ((List.range j.toNat).map λ(k:Nat)=>.int ((0:Int) + k)) else none:=rfl
@[simp] theorem aY (ρ:Rho) (k:Rho->R):(R.next ρ).andThen k=k ρ:=rfl
@[simp] theorem BT (v:PV) (k:Rho->R):(R.ret v).andThen k=.ret v:=rfl
@[simp] theorem BU (k:Rho->R):R.bad.andThen k=.bad:=rfl
@[simp] theorem BV (ρ:Rho) (k:Rho->R):(R.brk ρ).andThen k=.brk ρ:=rfl
@[simp] theorem Ax (ρ:Rho) (k:Rho->R):(R.cont ρ).andThen k=.cont ρ:=rfl
@[simp] theorem zU (v:PV) (k:PV->R):dh (some v) k=k v:=rfl
@[simp] theorem fg (v:Bool) (k:Bool->R):t6 (some v) k=k v:=rfl
@[simp] theorem zV (v:Rho) (k:Rho->R):fv (some v) k=k v:=rfl
@[simp] theorem Ay (v:PV):ci (.ret v)=some v:=rfl
@[simp] theorem zW (ρ:Rho):ci (.next ρ)=some .non:=rfl
@[simp] theorem aE (a:Option MV) (l:Rho) (m:MV):put (a::l) 0 m=some m::l:=rfl
@[simp] theorem aF (a:Option MV) (l:Rho) (n:Nat) (m:MV):put (a::l) (n + 1) m=a::put l n m:=rfl
@[simp] theorem lF (src:List ME) (ρ₀ ρ:Rho):(R.next ρ).back src ρ₀=.next (ba src ρ₀ ρ):=rfl
@[simp] theorem BW (src:List ME) (ρ₀:Rho) (v:PV):(R.ret v).back src ρ₀=.ret v:=rfl
@[simp] theorem Az (body:PV->Rho->R) (ρ:Rho):be body [] ρ=.next ρ:=rfl
theorem kr {j:Int} (h0:0 <= j) (h1:j < 4611686018427387904):cm .rng [.int j]=some ((List.range j.toNat).map λ(k:Nat)=>.int (k:Int)):=by
 rw [xC,if_pos ⟨by omega,by omega⟩]
 congr 1
 exact List.map_congr_left λk _=>by rw [Int.zero_add]
theorem nT {n:Nat}{i:Int} (h0:0 <= i) (h:i < n):place n i=some i.toNat:=by unfold place;rw [if_pos h0,if_pos h]
noncomputable def leT (a b:List Int):Prop:=lexLt b a=false
theorem sortI_perm (l:List Int):(sortI l).Perm l:=by rw [d8];exact L2.Srt.sortI_perm l
theorem sortT_perm (l:List (List Int)):(sortT l).Perm l:=by rw [di];exact L2.Srt.sortT_perm l
theorem sortI_len (l:List Int):(sortI l).length=l.length:=(sortI_perm l).length_eq
theorem sortT_len (l:List (List Int)):(sortT l).length=l.length:=(sortT_perm l).length_eq
theorem dJ {l:List Int}{x:Int}:x ∈ sortI l ↔ x ∈ l:=(sortI_perm l).mem_iff
theorem bN {l:List (List Int)}{x:List Int}:x ∈ sortT l ↔ x ∈ l:=(sortT_perm l).mem_iff
theorem sortI_rises (l:List Int):(sortI l).Pairwise (· <= ·):=by rw [d8];exact L2.Srt.sortI_rises l
theorem sortT_rises (l:List (List Int)):(sortT l).Pairwise leT:=by
 rw [di]
 exact (L2.Srt.sortT_rises l).imp λh=>by unfold leT;rw [h_];exact h
theorem sortT_id {l:List (List Int)} (h:l.Pairwise leT):sortT l=l:=by
 rw [di]
 exact L2.Srt.sortT_id (h.imp λh=>by unfold leT at h;rw [h_] at h;exact h)
theorem sortT_of_perm {a b:List (List Int)} (p:a.Perm b):sortT a=sortT b:=by rw [di,di];exact L2.Srt.sortT_of_perm p
theorem sortI_of_perm {a b:List Int} (p:a.Perm b):sortI a=sortI b:=by rw [d8,d8];exact L2.Srt.sortI_of_perm p
theorem vm {l:List Int} (h:l.Nodup):(sortI l).Pairwise (· < ·):=by
 have h1:=sortI_rises l
 have h2:(sortI l).Nodup:=(sortI_perm l).nodup_iff.mpr h
 exact (h1.and h2).imp λ⟨a,b⟩=>by omega
theorem vn {k:Int}{l:List Int}:k ∈ dd l ↔ k ∈ l:=by rw [nG];exact L2.St.gx
theorem dd_nodup (l:List Int):(dd l).Nodup:=by rw [nG];exact L2.St.dd_nodup l
theorem qL:∀ {l:List Int},l.Nodup->dd l=l
 | [],_=>rfl
 | x::r,h=>by
  rw [dd,qL (List.nodup_cons.mp h).2,if_neg (List.nodup_cons.mp h).1]
theorem vo {l:List Int} (h:l.Pairwise (· < ·)):l.Nodup:=h.imp λ{a b} q=>by omega
noncomputable def nU (ts:List Int):Prop:=ts.Pairwise (· < ·)/\∀ h ∈ ts,0 <= h/\h <= 59
noncomputable def d_ (R:List (List Int)):Prop:=(∀ ts ∈ R,nU ts)/\R.Pairwise leT/\R.length <= 60
theorem pG:∀ (n:Nat) (l:List Int),l.Nodup->(∀ x ∈ l,0 <= x/\x < (n:Int))->l.length <= n
 | 0,l,_,h=>by
  cases l with
  | nil=>simp
  | cons x r=>have:=h x (.head _);omega
 | n + 1,l,hn,h=>by
  have h1:=pG n (l.filter λx=>decide (x ≠ (n:Int))) (hn.filter _) (λx hx=>by
   obtain ⟨h2,h3⟩:=List.mem_filter.mp hx
   have h4:=of_decide_eq_true h3
   have:=h x h2
   omega)
  have h2:∀ l:List Int,l.Nodup->l.length <= (l.filter λx=>decide (x ≠ (n:Int))).length + 1:=by
   intro l
   induction l with
   | nil=>intro _;simp
   | cons x r ih =>
    intro hn
    by_cases e:x=(n:Int)
    ·have hr:r.filter (λx=>decide (x ≠ (n:Int)))=r:=List.filter_eq_self.mpr λy hy=>decide_eq_true λz=>(List.nodup_cons.mp hn).1 (by rw [e,<- z];exact hy)
     rw [List.filter_cons_of_neg (by simp [e]),hr]
     simp
    ·rw [List.filter_cons_of_pos (by simp [e])]
     have:=ih (List.nodup_cons.mp hn).2
     simp only [List.length_cons]
     omega
  have:=h2 l hn
  omega
theorem sf {ts:List Int} (h:nU ts):ts.length <= 60:=pG 60 ts (vo h.1) λx hx=>by have:=h.2 x hx;omega
noncomputable def jb (ns:List Int) (lo hi:Option Int):List Int:=(ns.drop (gp ns.length 0 lo)).take (gp ns.length ns.length hi - gp ns.length 0 lo)
@[simp] theorem BX (ns:List Int) (lo hi:Option Int):cut (ns.map .int) lo hi=(jb ns lo hi).map .int:=by
 unfold cut jb
 rw [List.length_map,List.map_take,List.map_drop]
theorem nV (ns:List Int) {a b:Int} (ha:0 <= a) (hb:0 <= b):(jb ns (some a) (some b)).length <= (b - a).toNat:=by
 unfold jb
 rw [List.length_take,List.length_drop]
 have e1:gp ns.length ns.length (some b)=min b.toNat ns.length:=by show (if b < 0 then _ else _)=_;rw [if_neg (by omega)]
 have e2:gp ns.length 0 (some a)=min a.toNat ns.length:=by show (if a < 0 then _ else _)=_;rw [if_neg (by omega)]
 rw [e1,e2]
 omega
end MM
namespace PySem.W.Fast
theorem tw9305957630637105310:True:=⟨⟩
theorem tw10713290100656517209:True:=⟨⟩
theorem tw12041554156745226461:True:=⟨⟩
theorem tw10537960534471319023:True:=⟨⟩
theorem tw3044408742300457678:True:=⟨⟩
theorem tw5353715789663258783:True:=⟨⟩
theorem tw13930120206996426531:True:=⟨⟩
theorem tw15803621099671455085:True:=⟨⟩
theorem tw7894167403415083805:True:=⟨⟩
theorem tw4508674128303259690:True:=⟨⟩
theorem tw5047974094426078336:True:=⟨⟩
theorem tw1860089607311442934:True:=⟨⟩
theorem tw10052516332349785711:True:=⟨⟩
theorem tw1394445261421382274:True:=⟨⟩
theorem tw4373147628033494664:True:=⟨⟩
theorem tw1116635681501742228:True:=⟨⟩
theorem tw4181805506988534654:True:=⟨⟩
theorem tw12586765720471479044:True:=⟨⟩
theorem tw16165130349653093493:True:=⟨⟩
theorem tw9996401852812493905:True:=⟨⟩
theorem tw3678925953982905483:True:=⟨⟩
theorem tw16126287832429069270:True:=⟨⟩
theorem tw5744108626107790444:True:=⟨⟩
theorem tw2290626496890721810:True:=⟨⟩
theorem tw1440896809032475592:True:=⟨⟩
theorem tw5443111359885512415:True:=⟨⟩
theorem tw6877695537273160037:True:=⟨⟩
theorem tw15904033766999110803:True:=⟨⟩
theorem tw709958592636829147:True:=⟨⟩
theorem tw8544911829556275771:True:=⟨⟩
theorem tw13973873392365712341:True:=⟨⟩
theorem tw15503931746458940975:True:=⟨⟩
theorem tw9748779441478613268:True:=⟨⟩
theorem tw8271875492713130289:True:=⟨⟩
theorem tw10228998573418515374:True:=⟨⟩
theorem tw4810134998199941264:True:=⟨⟩
theorem tw12961948387071306531:True:=⟨⟩
theorem tw13702954120100682681:True:=⟨⟩
theorem tw6980611352284633021:True:=⟨⟩
theorem tw5471227397811599168:True:=⟨⟩
theorem tw18442726649029022812:True:=⟨⟩
theorem tw6034114807745285393:True:=⟨⟩
theorem tw4666827258790971919:True:=⟨⟩
theorem tw11919849926419450132:True:=⟨⟩
theorem tw13864606036592723831:True:=⟨⟩
theorem tw12263228526602815043:True:=⟨⟩
theorem tw1563476712788144291:True:=⟨⟩
theorem tw13610608736022617869:True:=⟨⟩
theorem tw12391224798740941238:True:=⟨⟩
theorem tw18416374581835175000:True:=⟨⟩
theorem tw16540911692143739080:True:=⟨⟩
theorem tw2182997442724766842:True:=⟨⟩
theorem tw1178887903206082342:True:=⟨⟩
theorem tw4602379957693164402:True:=⟨⟩
theorem tw10740714189525044521:True:=⟨⟩
theorem tw11190286912344010383:True:=⟨⟩
theorem tw13726639848731198892:True:=⟨⟩
theorem tw10840772268112551203:True:=⟨⟩
theorem tw16643385929805052212:True:=⟨⟩
theorem tw3362558895562719120:True:=⟨⟩
theorem tw13607083047146393316:True:=⟨⟩
theorem tw7214039146624816374:True:=⟨⟩
theorem tw17979710655440537884:True:=⟨⟩
theorem tw12668864000250532542:True:=⟨⟩
theorem tw7721224519401858285:True:=⟨⟩
theorem tw4552194452577745094:True:=⟨⟩
theorem tw2462081862320830306:True:=⟨⟩
theorem tw5599074353489951810:True:=⟨⟩
theorem tw14260130903760671463:True:=⟨⟩
theorem tw9954947025676894121:True:=⟨⟩
theorem tw17118775747046000401:True:=⟨⟩
theorem tw1837557395435708254:True:=⟨⟩
theorem tw6493034486991325831:True:=⟨⟩
theorem tw7224405495628062569:True:=⟨⟩
theorem tw6488922841193613239:True:=⟨⟩
theorem tw17517003395510026722:True:=⟨⟩
theorem tw6425035708491466299:True:=⟨⟩
theorem tw12557440944121836765:True:=⟨⟩
theorem tw6508714065797531788:True:=⟨⟩
theorem tw2995677416564126385:True:=⟨⟩
theorem tw11578553174457369934:True:=⟨⟩
theorem tw8498983923238410627:True:=⟨⟩
theorem tw3358514277876772536:True:=⟨⟩
theorem tw14679235997563538428:True:=⟨⟩
theorem tw17514693786289329735:True:=⟨⟩
theorem tw8632026456291698862:True:=⟨⟩
theorem tw11462559950445361807:True:=⟨⟩
theorem tw10310348218512399976:True:=⟨⟩
theorem tw13754254273387643557:True:=⟨⟩
theorem tw18126456310010135751:True:=⟨⟩
theorem tw4438131980406409204:True:=⟨⟩
theorem tw15010551737788704659:True:=⟨⟩
theorem tw8218447464788827084:True:=⟨⟩
theorem tw13408899966493531689:True:=⟨⟩
theorem tw15392670153556116450:True:=⟨⟩
theorem tw16058834978298673789:True:=⟨⟩
theorem tw14935648479364544126:True:=⟨⟩
theorem tw2248018278110012654:True:=⟨⟩
theorem tw8393601627853150779:True:=⟨⟩
theorem tw4920125459081338771:True:=⟨⟩
theorem tw6277778771941907221:True:=⟨⟩
theorem tw1830355140480145478:True:=⟨⟩
theorem tw6841172844768775023:True:=⟨⟩
theorem tw2543470420355529539:True:=⟨⟩
theorem tw11249490128226511151:True:=⟨⟩
theorem tw14170871534104780220:True:=⟨⟩
theorem tw9289835630565627463:True:=⟨⟩
theorem tw3375478559146189654:True:=⟨⟩
theorem tw3710368517244915146:True:=⟨⟩
theorem tw10642259689661435830:True:=⟨⟩
theorem tw15485078581980844816:True:=⟨⟩
theorem tw4526013488150517647:True:=⟨⟩
theorem tw16259613472546928617:True:=⟨⟩
theorem tw9931515849565135:True:=⟨⟩
theorem tw4296506385952224535:True:=⟨⟩
theorem tw6740082005502534871:True:=⟨⟩
theorem tw12474536695724164471:True:=⟨⟩
theorem tw12109332289427094115:True:=⟨⟩
theorem tw17664107765834056671:True:=⟨⟩
theorem tw15966804142361402777:True:=⟨⟩
theorem tw15455906445054465484:True:=⟨⟩
theorem tw17729841880477881743:True:=⟨⟩
theorem tw8349454796148232442:True:=⟨⟩
theorem tw15677678055801845545:True:=⟨⟩
theorem tw9656346170265389570:True:=⟨⟩
theorem tw2933217656250219078:True:=⟨⟩
theorem tw12072954779300850080:True:=⟨⟩
theorem tw17878964371827722391:True:=⟨⟩
theorem tw16504697628901265818:True:=⟨⟩
theorem tw7302991587603417954:True:=⟨⟩
theorem tw9250480499551729001:True:=⟨⟩
theorem tw10394391331504274662:True:=⟨⟩
theorem tw14073271912206032056:True:=⟨⟩
theorem tw1392061782323904295:True:=⟨⟩
theorem tw1589337491776584369:True:=⟨⟩
theorem tw1052473693393210522:True:=⟨⟩
theorem tw9615745464914579679:True:=⟨⟩
theorem tw10232622256904469673:True:=⟨⟩
theorem tw15563171505569245819:True:=⟨⟩
theorem tw18157580950667036465:True:=⟨⟩
theorem tw17148399560615994592:True:=⟨⟩
theorem tw13811021534426415748:True:=⟨⟩
theorem tw12072721168555935774:True:=⟨⟩
theorem tw13937527043429010349:True:=⟨⟩
theorem tw5440394429319701556:True:=⟨⟩
theorem tw168806235576743972:True:=⟨⟩
theorem tw18174563323103187592:True:=⟨⟩
theorem tw15981916188484671833:True:=⟨⟩
theorem tw17852222530629078761:True:=⟨⟩
theorem tw8602353230150568314:True:=⟨⟩
theorem tw12610212352366658429:True:=⟨⟩
theorem tw15852984103445265571:True:=⟨⟩
theorem tw4347112726786500384:True:=⟨⟩
theorem tw8406378596463525319:True:=⟨⟩
theorem tw12014817913220462859:True:=⟨⟩
theorem tw13081683878108122085:True:=⟨⟩
theorem tw8413775721004352036:True:=⟨⟩
theorem tw5377292128387552231:True:=⟨⟩
theorem tw596627675976145966:True:=⟨⟩
theorem tw14354051102858554858:True:=⟨⟩
theorem tw4004773304557025015:True:=⟨⟩
theorem tw4029923109654027330:True:=⟨⟩
theorem tw7277822169053304059:True:=⟨⟩
theorem tw13165729029329996416:True:=⟨⟩
theorem tw14386260676203839817:True:=⟨⟩
theorem tw7870602862885657770:True:=⟨⟩
theorem tw15848132725049942771:True:=⟨⟩
theorem tw5028780801383464062:True:=⟨⟩
theorem tw10748375630693515774:True:=⟨⟩
theorem tw13389213669502437003:True:=⟨⟩
theorem tw8236454493493577892:True:=⟨⟩
theorem tw13837802867420463783:True:=⟨⟩
theorem tw3588896491242505623:True:=⟨⟩
theorem tw17204610148144393184:True:=⟨⟩
theorem tw13947601916603119929:True:=⟨⟩
theorem tw622697920014729018:True:=⟨⟩
theorem tw15587854363129959622:True:=⟨⟩
theorem tw761711403737370834:True:=⟨⟩
theorem tw4619360607866936024:True:=⟨⟩
theorem tw17068881418641736511:True:=⟨⟩
theorem tw9592303099142506799:True:=⟨⟩
theorem tw13793343491153518177:True:=⟨⟩
theorem tw14166039261233276393:True:=⟨⟩
theorem tw12153747779183998464:True:=⟨⟩
theorem tw13932249758115038043:True:=⟨⟩
theorem tw17072621214016699381:True:=⟨⟩
theorem tw17993441447000454002:True:=⟨⟩
theorem tw1459877126392717686:True:=⟨⟩
theorem tw14265247886055662692:True:=⟨⟩
theorem tw4519187874066089983:True:=⟨⟩
theorem tw10253895975324913732:True:=⟨⟩
theorem tw11094107219990740695:True:=⟨⟩
theorem tw7947745143346918141:True:=⟨⟩
theorem tw4814459532117936530:True:=⟨⟩
theorem tw1665105561624165337:True:=⟨⟩
theorem tw5481624108313244940:True:=⟨⟩
theorem tw43158492226165960:True:=⟨⟩
theorem tw10668958753865376201:True:=⟨⟩
theorem tw16129580257756352162:True:=⟨⟩
theorem tw8334291428063926094:True:=⟨⟩
theorem tw16299007995012419633:True:=⟨⟩
theorem tw6872386488031674575:True:=⟨⟩
theorem tw18148331641895476682:True:=⟨⟩
theorem tw13384041326726911606:True:=⟨⟩
theorem tw10304558067090768341:True:=⟨⟩
theorem tw8405897708048542506:True:=⟨⟩
theorem tw2216039725804622518:True:=⟨⟩
theorem tw146076584420704188:True:=⟨⟩
theorem tw9694201924972964835:True:=⟨⟩
theorem tw4745327012159403364:True:=⟨⟩
theorem tw11385375830485258381:True:=⟨⟩
theorem tw2287908248093520823:True:=⟨⟩
theorem tw2798551142802981194:True:=⟨⟩
theorem tw952100075377454828:True:=⟨⟩
theorem tw13997505454669855762:True:=⟨⟩
theorem tw12598046845381410242:True:=⟨⟩
theorem tw4318541262168005742:True:=⟨⟩
theorem tw4636366915380728070:True:=⟨⟩
theorem tw18274241729257641577:True:=⟨⟩
theorem tw11607117685210069123:True:=⟨⟩
theorem tw16318575365908011043:True:=⟨⟩
theorem tw67688336924660704:True:=⟨⟩
theorem tw8471453445878774523:True:=⟨⟩
theorem tw14769023020855821879:True:=⟨⟩
theorem tw3806448614359253073:True:=⟨⟩
theorem tw2170922719692455661:True:=⟨⟩
theorem tw125521631712489023:True:=⟨⟩
theorem tw16473692439331554358:True:=⟨⟩
theorem tw9547495155139642106:True:=⟨⟩
theorem tw17616813425219227334:True:=⟨⟩
theorem tw11219005817261616771:True:=⟨⟩
theorem tw7281395171873217246:True:=⟨⟩
theorem tw14149256210399288502:True:=⟨⟩
theorem tw10184927300998261342:True:=⟨⟩
theorem tw8829786977690469749:True:=⟨⟩
theorem tw610475174856509087:True:=⟨⟩
theorem tw8449431544936460628:True:=⟨⟩
theorem tw2132033317805540509:True:=⟨⟩
theorem tw17674241972227009047:True:=⟨⟩
theorem tw16083193368179596609:True:=⟨⟩
theorem tw12093822371504584207:True:=⟨⟩
theorem tw16995733972006949834:True:=⟨⟩
theorem tw16747572310518100129:True:=⟨⟩
theorem tw3001237417591944046:True:=⟨⟩
theorem tw12642146784216455303:True:=⟨⟩
theorem tw14900046112533194446:True:=⟨⟩
theorem tw5322059158332615843:True:=⟨⟩
theorem tw3643786560397630698:True:=⟨⟩
theorem tw14137983355160986714:True:=⟨⟩
theorem tw1923827888212088235:True:=⟨⟩
theorem tw13818813587364768510:True:=⟨⟩
theorem tw976039053060783302:True:=⟨⟩
theorem tw5661072784441458011:True:=⟨⟩
theorem tw10135061557172752058:True:=⟨⟩
theorem tw3611775080459994352:True:=⟨⟩
theorem tw11765555685788125550:True:=⟨⟩
theorem tw2172175104089396003:True:=⟨⟩
theorem tw14525178325813277120:True:=⟨⟩
theorem tw9101082959695337188:True:=⟨⟩
theorem tw15646705039616058636:True:=⟨⟩
theorem tw7299964804350398090:True:=⟨⟩
theorem tw2629955702021984249:True:=⟨⟩
theorem tw9664135749141851796:True:=⟨⟩
theorem tw10469936088944980561:True:=⟨⟩
theorem tw16438639245554043783:True:=⟨⟩
theorem tw5430629597530698723:True:=⟨⟩
theorem tw14646126954641472236:True:=⟨⟩
theorem tw9311104354902716942:True:=⟨⟩
theorem tw1103434009291529200:True:=⟨⟩
theorem tw8148121287557078561:True:=⟨⟩
theorem tw8699148511662503697:True:=⟨⟩
theorem tw17844138314341874973:True:=⟨⟩
theorem tw1290579611167724767:True:=⟨⟩
theorem tw304040274755897419:True:=⟨⟩
theorem tw11239902699926338117:True:=⟨⟩
theorem tw3762591982097208989:True:=⟨⟩
theorem tw11707798881582169339:True:=⟨⟩
theorem tw12527885323570983374:True:=⟨⟩
theorem tw4875207072405984068:True:=⟨⟩
theorem tw8830016746494120809:True:=⟨⟩
theorem tw2013047884736921206:True:=⟨⟩
theorem tw16735922754507137454:True:=⟨⟩
theorem tw8975808325411098025:True:=⟨⟩
theorem tw1144094745196848806:True:=⟨⟩
theorem tw9313544310510909856:True:=⟨⟩
theorem tw16205015736995663373:True:=⟨⟩
theorem tw6805908139295140553:True:=⟨⟩
theorem tw13684509251500196605:True:=⟨⟩
theorem tw18313957369240444329:True:=⟨⟩
theorem tw14518508424791603658:True:=⟨⟩
theorem tw15394518309899853510:True:=⟨⟩
theorem tw3667051406929684490:True:=⟨⟩
theorem tw418100894461671652:True:=⟨⟩
theorem tw15304157832857346119:True:=⟨⟩
theorem tw8762240251833887343:True:=⟨⟩
theorem tw11973383485281435414:True:=⟨⟩
theorem tw12719608204847337229:True:=⟨⟩
theorem tw17341398039374426024:True:=⟨⟩
theorem tw16819281655303539788:True:=⟨⟩
theorem tw1550041308627944426:True:=⟨⟩
theorem tw10497933302914655810:True:=⟨⟩
theorem tw14762259792741414232:True:=⟨⟩
theorem tw14656447594213449146:True:=⟨⟩
theorem tw13236217312951468282:True:=⟨⟩
theorem tw2089579552823606846:True:=⟨⟩
theorem tw7774749873294089134:True:=⟨⟩
theorem tw1846926464428322948:True:=⟨⟩
theorem tw4682303485353913743:True:=⟨⟩
theorem tw2362791704099763997:True:=⟨⟩
theorem tw9183546897976412390:True:=⟨⟩
theorem tw11946916788924478063:True:=⟨⟩
theorem tw12733735612317994159:True:=⟨⟩
theorem tw14505453441561942209:True:=⟨⟩
theorem tw17458703848436733638:True:=⟨⟩
theorem tw1550742863066287972:True:=⟨⟩
theorem tw15325910082922848126:True:=⟨⟩
theorem tw6708872787665940806:True:=⟨⟩
theorem tw3293498395362435596:True:=⟨⟩
theorem tw17933531577390085806:True:=⟨⟩
theorem tw209755135757629744:True:=⟨⟩
theorem tw12285845296811430416:True:=⟨⟩
theorem tw9456841419198958678:True:=⟨⟩
theorem tw4810877021484485265:True:=⟨⟩
theorem tw5655585887320825017:True:=⟨⟩
theorem tw7637895979671719014:True:=⟨⟩
theorem tw12581802059703945631:True:=⟨⟩
theorem tw7423808402181473043:True:=⟨⟩
theorem tw3205066987653901353:True:=⟨⟩
theorem tw16099702627312790639:True:=⟨⟩
end PySem.W.Fast
namespace My
open PySem L2 MM
noncomputable def aN:MD:=⟨"is_number_below",["thing","bound"],["thing","bound"],
  [.ite (.or (.blt .isBool [(.bor 0)]) (.not (.blt .isInt [(.bor 0)])))
   [.ret (.cst (.bl false))]
   [],
  .ret (.chain .le .lt (.cst (.int 0)) (.bor 0) (.bor 1))],none⟩
noncomputable def fM:MD:=⟨"each_once",["members"],["members"],
  [.ret (.cmp .eq (.blt .lenSet [(.bor 0)]) (.blt .len [(.bor 0)]))],none⟩
noncomputable def cK:List MS:=[.ite (.not (.call 0 [(.bor 1),(.glob "HOLE_COUNT" (.int 60))]))
   [.never]
   []]
noncomputable def dB:MD:=⟨"strip_made",["row"],["row","thing"],
  [.for1 1 .seq [(.bor 0)] cK,
  .ret (.blt .tupleOf [(.blt .sortedSet [(.bor 0)])])],none⟩
noncomputable def fN:MD:=⟨"rest_made",["strips"],["strips"],
  [.ite (.cmp .gt (.blt .len [(.bor 0)]) (.glob "MOST_STRIPS" (.int 60)))
   [.never]
   [],
  .ret (.blt .tupleOf [(.blt .sorted [(.comp .seq [(.bor 0)] [] (.cst (.bl true)) (.call 2 [(.bor 0)]))])])],none⟩
noncomputable def cz:MD:=⟨"strip_without",["strip","hole"],["strip","hole"],
  [.ret (.blt .tupleOf [(.comp .seq [(.bor 0)] [1] (.cmp .ne (.bor 0) (.bor 1)) (.var 0))])],none⟩
noncomputable def fZ:MD:=⟨"knotted",["rest","hole"],["rest","hole"],
  [.ret (.blt .tupleOf [(.blt .sorted [(.comp .seq [(.bor 0)] [1] (.cst (.bl true)) (.call 4 [(.bor 0),(.bor 1)]))])])],none⟩
noncomputable def iq:MD:=⟨"bitten",["rest","hole"],["rest","hole"],
  [.ret (.blt .tupleOf [(.comp .seq [(.bor 0)] [1] (.cmp .notIn (.bor 1) (.bor 0)) (.var 0))])],none⟩
noncomputable def fh:MD:=⟨"is_whole",["rest"],["rest"],
  [.ret (.cmp .isIn (.tup []) (.bor 0))],none⟩
noncomputable def eV:MD:=⟨"is_bare",["rest"],["rest"],
  [.ret (.cmp .eq (.blt .len [(.bor 0)]) (.cst (.int 0)))],none⟩
noncomputable def cj:List MS:=[.ite (.not (.call 0 [(.bor 2),(.bor 1)]))
   [.never]
   []]
noncomputable def ez:MD:=⟨"check_ribbon",["ribbon","count"],["ribbon","count","thing"],
  [.ite (.cmp .eq (.blt .len [(.bor 0)]) (.cst (.int 0)))
   [.never]
   [],
  .for1 2 .seq [(.bor 0)] cj,
  .ite (.not (.call 1 [(.bor 0)]))
   [.never]
   []],none⟩
noncomputable def da:List MS:=[.expr (.call 9 [(.bor 2),(.bor 0)])]
noncomputable def fO:MD:=⟨"loom_made",["count","ribbons"],["count","ribbons","ribbon"],
  [.ite (.not (.call 0 [(.bor 0),(.bin .add (.glob "HOLE_COUNT" (.int 60)) (.cst (.int 1)))]))
   [.never]
   [],
  .ite (.cmp .gt (.blt .len [(.bor 1)]) (.glob "MOST_STRIPS" (.int 60)))
   [.never]
   [],
  .for1 2 .seq [(.bor 1)] da,
  .ret (.tup [(.var 0),(.call 3 [(.bor 1)])])],none⟩
noncomputable def dC:MD:=⟨"other_hand",["hand"],["hand"],
  [.ret (.ite (.cmp .eq (.bor 0) (.cst (.str "weaver"))) (.cst (.str "moth")) (.cst (.str "weaver")))],none⟩
noncomputable def fP:MD:=⟨"behind",["rest","hand","reply"],["rest","hand","reply"],
  [.ite (.cmp .isN (.bor 2) (.cst .non))
   [.ret (.var 0)]
   [],
  .ret (.ite (.cmp .eq (.bor 1) (.cst (.str "weaver"))) (.call 5 [(.bor 0),(.bor 2)]) (.call 6 [(.bor 0),(.bor 2)]))],none⟩
noncomputable def eM:MD:=⟨"row_written",["word","members"],["word","members"],
  [.ret (.join " " (.bin .add (.lst [(.var 0)]) (.comp .seq [(.bor 1)] [] (.cst (.bl true)) (.blt .strOf [(.bor 0)]))))],none⟩
noncomputable def eA:MD:=⟨"page_written",["table"],["table","rows"],
  [.setOwn 1 (.lst [(.call 13 [(.cst (.str "holes")),(.lst [(.fld 0 0)])])]),
  .extend 1 (.comp .seq [(.fld 0 1)] [] (.cst (.bl true)) (.call 13 [(.cst (.str "ribbon")),(.bor 0)])),
  .append 1 (.call 13 [(.cst (.str "first")),(.lst [(.fld 0 2)])]),
  .extend 1 (.comp .seq [(.callM 23 0 [])] [] (.cst (.bl true)) (.call 13 [(.cst (.str "take")),(.lst [(.var 0)])])),
  .ret (.join "\n" (.bor 1))],none⟩
noncomputable def fj:MD:=⟨"_law_cell",["script","k"],["script","k"],
  [.ite (.cmp .lt (.bor 1) (.blt .len [(.bor 0)]))
   [.ret (.idx (.bor 0) (.bor 1))]
   [],
  .ret (.cst (.int 0))],none⟩
noncomputable def eG:MD:=⟨"_law_mixed",["cell","by"],["cell","by"],
  [.ret (.bin .mod (.bin .mul (.bin .mod (.bor 0) (.cst (.int 2305843009213693951))) (.bor 1)) (.cst (.int 2305843009213693951)))],none⟩
noncomputable def cM:List MS:=[.ite (.cmp .notIn (.bin .mod (.bor 2) (.bor 1)) (.bor 4))
   [.append 4 (.bin .mod (.bor 2) (.bor 1))]
   [],
  .set 2 (.bin .fdiv (.bor 2) (.bor 1))]
noncomputable def fk:MD:=⟨"_law_ribbon",["cell","count"],["cell","count","left","size","ribbon","k"],
  [.set 2 (.call 16 [(.bor 0),(.cst (.int 1181783497276652981))]),
  .set 3 (.bin .add (.cst (.int 1)) (.bin .mod (.bor 2) (.cst (.int 5)))),
  .set 2 (.bin .fdiv (.bor 2) (.cst (.int 5))),
  .setOwn 4 (.lst []),
  .for1 5 .rng [(.bor 3)] cM,
  .retOwn 4],none⟩
noncomputable def ca:List MS:=[.append 4 (.bin .add (.cst (.str "ribbon ")) (.join " " (.comp .seq [(.bor 5)] [] (.cst (.bl true)) (.blt .strOf [(.bor 0)]))))]
noncomputable def cb:List MS:=[.append 4 (.bin .add (.cst (.str "take ")) (.blt .strOf [(.bor 6)]))]
noncomputable def dn:MD:=⟨"_law_canonical",["count","ribbons","hand","deeds"],["count","ribbons","hand","deeds","rows","ribbon","hole"],
  [.setOwn 4 (.lst [(.bin .add (.cst (.str "holes ")) (.blt .strOf [(.bor 0)]))]),
  .for1 5 .seq [(.blt .sorted [(.comp .seq [(.bor 1)] [] (.cst (.bl true)) (.blt .sorted [(.bor 0)]))])] ca,
  .append 4 (.bin .add (.cst (.str "first ")) (.bor 2)),
  .for1 6 .seq [(.bor 3)] cb,
  .ret (.join "\n" (.bor 4))],none⟩
noncomputable def eW:MD:=⟨"_law_won",["ribbons","deeds","hand"],["ribbons","deeds","hand","own","turn","hole"],
  [.own3 3 4 5 1 (.var 2),
  .ite (.blt .any [(.comp .seq [(.bor 0)] [3] (.cst (.bl true)) (.blt .all [(.comp .seq [(.bor 0)] [1] (.cst (.bl true)) (.cmp .isIn (.bor 0) (.datL (.bor 1) true)))]))])
   [.ret (.cst (.str "weaver"))]
   [],
  .ite (.blt .all [(.comp .seq [(.bor 0)] [3] (.cst (.bl true)) (.blt .any [(.comp .seq [(.bor 0)] [1] (.cst (.bl true)) (.cmp .isIn (.bor 0) (.datL (.bor 1) false)))]))])
   [.ret (.cst (.str "moth"))]
   [],
  .ret (.cst .non)],none⟩
noncomputable def fm:MD:=⟨"_law_text",["found","due"],["found","due"],
  [.ret (.and (.blt .isStr [(.bor 0)]) (.cmp .eq (.bor 0) (.bor 1)))],none⟩
noncomputable def f_:List MS:=[.ite (.cmp .isN (.call 19 [(.bor 5),(.bor 9),(.bor 7)]) (.cst .non))
   [.set 11 (.comp .rng [(.bor 3)] [9] (.cmp .notIn (.bor 0) (.bor 1)) (.var 0)),
   .set 12 (.idx (.bor 11) (.bin .mod (.call 16 [(.bor 10),(.cst (.int 2049848353892358983))]) (.blt .len [(.bor 11)]))),
   .takeO none 8 26 [(.var 12)],
   .append 9 (.var 12),
   .ite (.not (.call 20 [(.call 14 [(.bor 8)]),(.call 18 [(.bor 3),(.bor 5),(.bor 7),(.bor 9)])]))
    [.ret (.cst (.bl false))]
    []]
   []]
noncomputable def lG:MD:=⟨"law",["script"],["script","by","way","count","many","ribbons","loom","hand","table","deeds","cell","left","hole"],
  [.set 1 (.call 16 [(.call 15 [(.bor 0),(.cst (.int 0))]),(.cst (.int 1442695040888963407))]),
  .set 2 (.call 16 [(.call 15 [(.bor 0),(.cst (.int 1))]),(.cst (.int 1865811235122147685))]),
  .set 3 (.bin .add (.cst (.int 1)) (.bin .mod (.bor 1) (.cst (.int 60)))),
  .set 4 (.bin .mod (.bor 2) (.cst (.int 21))),
  .set 5 (.comp .seq [(.slice (.bor 0) (.cst (.int 3)) (.bin .add (.cst (.int 3)) (.bor 4)))] [3] (.cst (.bl true)) (.call 17 [(.bor 0),(.bor 1)])),
  .ite (.cmp .eq (.bin .mod (.bin .fdiv (.bor 2) (.cst (.int 21))) (.cst (.int 8))) (.cst (.int 1)))
   [.set 3 (.cst (.int 0)),
   .set 5 (.lst [])]
   [],
  .set 6 (.call 10 [(.bor 3),(.bor 5)]),
  .set 7 (.idx (.lst [(.cst (.str "weaver")),(.cst (.str "moth"))]) (.bin .mod (.bin .fdiv (.bor 2) (.cst (.int 168))) (.cst (.int 2)))),
  .mkO 8 [(.var 6),(.var 7)],
  .ite (.and (.cmp .eq (.bor 7) (.cst (.str "weaver"))) (.cmp .eq (.bin .mod (.bin .fdiv (.bor 2) (.cst (.int 336))) (.cst (.int 2))) (.cst (.int 1))))
   [.mkO 8 [(.var 6)]]
   [],
  .setOwn 9 (.lst []),
  .ite (.not (.call 20 [(.call 14 [(.bor 8)]),(.call 18 [(.bor 3),(.bor 5),(.bor 7),(.bor 9)])]))
   [.ret (.cst (.bl false))]
   [],
  .for1 10 .seq [(.slice (.bor 0) (.bin .add (.cst (.int 3)) (.bor 4)) (.bin .add (.cst (.int 33)) (.bor 4)))] f_,
  .ret (.call 20 [(.call 14 [(.bor 8)]),(.call 18 [(.bor 3),(.bor 5),(.bor 7),(.bor 9)])])],none⟩
noncomputable def bK:MD:=⟨"Table.hand_at",["self","place"],["self","place"],
  [.ret (.ite (.cmp .eq (.bin .mod (.bor 1) (.cst (.int 2))) (.cst (.int 0))) (.fld 0 2) (.call 11 [(.fld 0 2)]))],some "hand_at"⟩
noncomputable def db:MD:=⟨"Table.deeds",["self"],["self"],
  [.ret (.blt .listOf [(.fldL 0)])],some "deeds"⟩
noncomputable def cN:List MS:=[.set 1 (.call 12 [(.bor 1),(.callM 22 0 [(.bor 2)]),(.bor 3)])]
noncomputable def dD:MD:=⟨"Table.rest",["self"],["self","left","place","hole"],
  [.set 1 (.fld 0 1),
  .forT [2,3] .enm [(.fldL 0)] cN,
  .ret (.var 1)],some "rest"⟩
noncomputable def bE:MD:=⟨"Table.winner",["self"],["self","left"],
  [.set 1 (.callM 24 0 []),
  .ite (.call 7 [(.bor 1)])
   [.ret (.cst (.str "weaver"))]
   [],
  .ite (.call 8 [(.bor 1)])
   [.ret (.cst (.str "moth"))]
   [],
  .ret (.cst .non)],some "winner"⟩
noncomputable def dE:MD:=⟨"Table.take",["self","hole"],["self","hole"],
  [.ite (.cmp .notN (.callM 25 0 []) (.cst .non))
   [.never]
   [],
  .ite (.not (.call 0 [(.bor 1),(.fld 0 0)]))
   [.never]
   [],
  .ite (.inO false (.bor 1) 0)
   [.never]
   [],
  .appO 0 (.var 1),
  .retT (.callM 25 0 [])],some "take"⟩
noncomputable def defs:List MD:=[aN,fM,dB,fN,cz,fZ,iq,fh,eV,ez,fO,dC,fP,eM,eA,fj,eG,fk,dn,eW,fm,lG,bK,db,dD,bE,dE]
noncomputable def tab:Tab:=⟨defs.map u7,[("HOLE_COUNT",(.int 60)),("MOST_STRIPS",(.int 60))],[[],[],[],[],[],[],[],[],[],[],[],[],[],[],[],[],[],[],[],[],[],[],[],[],[],[],[]],defs.map (·.meth)⟩
noncomputable def cellOf (ns:List Int) (k:Int):Int:=ns.getD k.toNat 0
theorem vq (n:Nat) (m:MV) (ns:List Int) (k:Int) (hm:bh (some m)=some (ofL ns)) (h0:0 <= k):ac defs (n + 1) 15 [m,.val (.int k)]=some (.int (cellOf ns k)):=by
 rw [ay (d:=fj) rfl rfl]
 unfold cellOf
 simp [fj,exs,ex,ev,evs,evB,hm]
 by_cases h:k < (ns.length:Int)
 ·have h2:k.toNat < ns.length:=by omega
  simp [h,nT h0 h,h2]
 ·have h2:ns.length <= k.toNat:=by omega
  simp [h,h2]
noncomputable def kz (c b:Int):Int:=c % 2305843009213693951 * b % 2305843009213693951
theorem fo (c b:Int):0 <= kz c b:=Int.emod_nonneg _ (by decide)
theorem jr (n:Nat) (c b:Int):ac defs (n + 1) 16 [.val (.int c),.val (.int b)]=some (.int (kz c b)):=by
 rw [ay (d:=eG) rfl rfl]
 have h1:0 <= c % 2305843009213693951:=Int.emod_nonneg _ (by decide)
 have h2:c % 2305843009213693951 < 2305843009213693951:=Int.emod_lt_of_pos _ (by decide)
 have h3:(-18446744073709551616 < c % 2305843009213693951/\c % 2305843009213693951 < 18446744073709551616 \/ -18446744073709551616 < b/\b < 18446744073709551616):=.inl ⟨by omega,by omega⟩
 simp [eG,exs,ex,ev,evs,h3,kz]
theorem gb {cal:Cal}{i:Nat}{k:Sk}{src:List ME}{body:List MS}{ρ:Rho}{xs:List PV} (h:(evs cal src ρ).bind (cm k)=some xs):ex cal (.for1 i k src body) ρ=(be (λx ρ'=>exs cal body (put ρ' i (.val x))) xs (bA src ρ)).back src ρ:=by
 rw [ex,h]
theorem aV (cal:Cal) (m:MS) (ms:List MS) (ρ:Rho):exs cal (m::ms) ρ=(ex cal m ρ).andThen λρ'=>exs cal ms ρ':=by rw [exs]
theorem bz {cal:Cal}{b:Blt}{e:ME}{ρ:Rho}{v:PV} (h:ev cal e ρ=some v):ev cal (.blt b [e]) ρ=av b [v]:=by
 rw [ev,evs,h,Option.bind_some,evs,Option.map_some,Option.bind_some]
theorem kA {cal:Cal}{i:Nat}{e:ME}{ρ:Rho}{v:PV} (h:ev cal e ρ=some v):ex cal (.set i e) ρ=.next (put ρ i (.val v)):=by
 rw [ex,h];rfl
theorem zX {cal:Cal}{a b:ME}{ρ:Rho}{p q:Bool} (h:ev cal a ρ=some (.bl p)) (h':p=true->ev cal b ρ=some (.bl q)):ev cal (.and a b) ρ=some (.bl (p&&q)):=by
 rw [ev,h]
 cases p with
 | false=>rfl
 | true=>simp [h' rfl]
theorem iU {cal:Cal}{e:ME}{ρ:Rho}{v:PV} (h:ev cal e ρ=some v):ex cal (.ret e) ρ=.ret v:=by
 rw [ex,h];rfl
theorem ir {cal:Cal}{f:Nat}{es:List ME}{ρ:Rho}{vs:List MV}{v:PV} (h:evA cal es ρ=some vs) (h':cal f vs=some v):ev cal (.call f es) ρ=some v:=by
 rw [ev,h,Option.bind_some,h']
theorem gc {cal:Cal}{i:Nat}{e:ME}{ρ:Rho}{xs:List PV} (h:ev cal e ρ=some (.lst xs)):ex cal (.setOwn i e) ρ=.next (put ρ i (.own xs)):=by
 rw [ex,h];rfl
theorem dc {α:Type}{cal:Cal}{k:Sk}{src:List ME}{js:List Nat}{elt:ME}{ρ:Rho}{vs:List PV}{xs:List α}{g h:α->PV} (h1:evs cal src ρ=some vs) (h2:cm k vs=some (xs.map g)) (hl:xs.length <= 10000)
  (h3:∀ x ∈ xs,ev cal elt (cW js ρ (g x))=some (h x)):ev cal (.comp k src js (.cst (.bl true)) elt) ρ=some (.lst (xs.map h)):=by
 rw [ev,h1,Option.bind_some,h2,Option.bind_some,if_pos (by simpa using hl),ko (h:=h) (λx _=>by simp [ev]) h3]
 rfl
theorem fQ (cal:Cal) (v:PV) (ρ:Rho):ev cal (.cst v) ρ=some v:=by rw [ev]
theorem vt {cal:Cal}{op:Cp}{a b:ME}{ρ:Rho}{x y:PV} (h:ev cal a ρ=some x) (h':ev cal b ρ=some y):ev cal (.cmp op a b) ρ=(cc op x y).map .bl:=by
 rw [ev,h,Option.bind_some,h',Option.bind_some]
theorem zY {cal:Cal}{a:ME}{ρ:Rho}{b:Bool} (h:ev cal a ρ=some (.bl b)):evB cal a ρ=some b:=by
 unfold evB
 rw [h]
 rfl
theorem vv {cal:Cal}{a i:ME}{ρ:Rho}{x y:PV} (h:ev cal a ρ=some x) (h':ev cal i ρ=some y):ev cal (.idx a i) ρ=jW x y:=by
 rw [ev,h,Option.bind_some,h',Option.bind_some]
theorem cX {body:PV->Rho->R}{x:PV}{xs:List PV}{ρ ρ1:Rho} (h:body x ρ=.next ρ1):be body (x::xs) ρ=be body xs ρ1:=by rw [be,h]
noncomputable def ah (b:Bool):PySem.Str:=if b=true then "moth" else "weaver"
theorem qM (a b:String):((PySem.Str.ofString a) == (PySem.Str.ofString b))=(a == b):=by
 rw [Bool.eq_iff_iff,beq_iff_eq,beq_iff_eq]
 refine ⟨λh=>?_,λh=>by rw [h]⟩
 rw [PySem.Str.ofString_eq_byList] at h
 unfold PySem.Str.ofStringByList at h
 have h1:(a.toList.map Char.toNat).toArray=(b.toList.map Char.toNat).toArray:=by injection h
 have h2:a.toList.map Char.toNat=b.toList.map Char.toNat:=by simpa using h1
 have key:∀ xs ys:List Char,xs.map Char.toNat=ys.map Char.toNat->xs=ys:=by
  intro xs
  induction xs with
  | nil=>intro ys h;cases ys with|nil=>rfl|cons=>simp at h
  | cons x xs ih=>intro ys h;cases ys with
   | nil=>simp at h
   | cons y ys =>
    simp only [List.map_cons,List.cons.injEq] at h
    rw [ih ys h.2,Char.toNat_inj.mp h.1]
 exact String.toList_inj.mp (key _ _ h2)
noncomputable def vw:Option Int->PV
 | none=>.non
 | some i=>.int i
theorem xD (x h:Int):(x == h)=decide (x=h):=rfl
noncomputable def drp (h:Int) (ts:List Int):List Int:=ts.filter λx=>!decide (x=h)
noncomputable def sg (h:Int) (R:List (List Int)):List (List Int):=sortT (R.map (drp h))
theorem vz {h:Int}{ts:List Int} (g:nU ts):nU (drp h ts):=⟨g.1.filter _,λx hx=>g.2 x (List.mem_filter.mp hx).1⟩
theorem sh {h:Int}{R:List (List Int)} (g:d_ R):d_ (sg h R):=by
 refine ⟨λts hm=>?_,sortT_rises _,by unfold sg;rw [sortT_len,List.length_map];exact g.2.2⟩
 obtain ⟨t,ht,rfl⟩:=List.mem_map.mp (bN.mp hm)
 exact vz (g.1 t ht)
theorem jc (n:Nat) (ts:List Int) (h:Int) (hl:ts.length <= 10000):ac defs (n + 1) 4 [.val (ofS ts),.val (.int h)]=some (ofS (drp h ts)):=by
 rw [ay (d:=cz) rfl rfl]
 simp [cz,exs,ex,ev,evs,hl]
 rw [d9 (p:=λx=>!decide (x=h)) (h:=PV.int)]
 ·simp [drp]
 ·intro x _
  simp [ev,cW,xD]
 ·intro x _ _
  simp [ev,cW]
theorem si (n:Nat) (R:List (List Int)) (h:Int) (g:d_ R):ac defs (n + 2) 5 [.val (ofR R),.val (.int h)]=some (ofR (sg h R)):=by
 rw [ay (d:=fZ) rfl rfl]
 have hl:R.length <= 10000:=by have:=g.2.2;omega
 simp [fZ,exs,ex,ev,evs,hl]
 rw [ko (h:=λts=>ofS (drp h ts))]
 ·have e:(R.map λc=>ofS (drp h c))=(R.map (drp h)).map ofS:=by rw [List.map_map];rfl
  have hl3:(R.map (drp h)).length < 64:=by rw [List.length_map];have:=g.2.2;omega
  rw [e]
  simp [-List.map_map,lE hl3,sg]
 ·intro c _
  simp [ev]
 ·intro c hc
  have hl:=sf (g.1 c hc)
  simp [ev,evA,cW,jc n c h (by omega)]
noncomputable def vA (h:Int) (R:List (List Int)):List (List Int):=R.filter λts=>!decide (h ∈ ts)
theorem sj {h:Int}{R:List (List Int)} (g:d_ R):d_ (vA h R):=⟨λts hm=>g.1 ts (List.mem_filter.mp hm).1,g.2.1.filter _,Nat.le_trans (List.length_filter_le _ _) g.2.2⟩
theorem vB (n:Nat) (R:List (List Int)) (h:Int) (hl:R.length <= 10000):ac defs (n + 1) 6 [.val (ofR R),.val (.int h)]=some (ofR (vA h R)):=by
 rw [ay (d:=iq) rfl rfl]
 simp [iq,exs,ex,ev,evs,hl]
 rw [d9 (p:=λts=>!decide (h ∈ ts)) (h:=ofS)]
 ·simp [vA]
 ·intro ts _
  simp [ev,cW,dH]
 ·intro ts _ _
  simp [ev,cW]
noncomputable def bhd (h:Bool) (R:List (List Int)):Option Int->List (List Int)
 | none=>R
 | some k=>if h=true then vA k R else sg k R
theorem vC {h:Bool}{R:List (List Int)} (g:d_ R) (r:Option Int):d_ (bhd h R r):=by
 cases r with
 | none=>exact g
 | some k=>cases h with|true=>exact sj g|false=>exact sh g
theorem xE (n:Nat) (h:Bool):ac defs (n + 1) 11 [.val (.str (ah h))]=some (.str (ah (!h))):=by
 rw [ay (d:=dC) rfl rfl]
 cases h <;> simp [dC,exs,ex,ev,evs,evB,evA,qM,ah]
theorem vD (n:Nat) (R:List (List Int)) (g:d_ R) (h:Bool) (r:Option Int):ac defs (n + 3) 12 [.val (ofR R),.val (.str (ah h)),.val (vw r)]=some (ofR (bhd h R r)):=by
 rw [ay (d:=fP) rfl rfl]
 cases r with
 | none=>simp [fP,exs,ex,ev,evs,evB,evA,vw,bhd,fu]
 | some k =>
  have e1:=si n R k g
  have e2:=λn=>vB n R k (by have:=g.2.2;omega)
  cases h <;> simp [fP,exs,ex,ev,evs,evB,evA,vw,bhd,qM,ah,fu,e1,e2]
theorem pH (n:Nat) (R:List (List Int)):ac defs (n + 1) 7 [.val (ofR R)]=some (.bl (decide ([] ∈ R))):=by
 rw [ay (d:=fh) rfl rfl]
 have ein:isIn (.tup []) (R.map ofS)=some (decide ([] ∈ R)):=u9 [] R
 simp [fh,exs,ex,ev,evs,ein]
theorem sk (n:Nat) (R:List (List Int)):ac defs (n + 1) 8 [.val (ofR R)]=some (.bl (decide (R=[]))):=by
 rw [ay (d:=eV) rfl rfl]
 cases R with
 | nil=>simp [eV,exs,ex,ev,evs]
 | cons t R =>
  have:¬ ((R.length:Int) + 1=0):=by omega
  simp [eV,exs,ex,ev,evs,this]
theorem gq {cal:Cal}{i:Nat}{e:ME}{ρ:Rho}{v:PV}{ms:List MS}{X:Option PV} (h:ev cal e ρ=some v) (k:ci (exs cal ms (put ρ i (.val v)))=X):ci (exs cal (.set i e::ms) ρ)=X:=by
 rw [aV,kA h,aY,k]
theorem b8 {cal:Cal}{m:MS}{ρ ρ':Rho}{ms:List MS}{X:Option PV} (h:ex cal m ρ=.next ρ') (k:ci (exs cal ms ρ')=X):ci (exs cal (m::ms) ρ)=X:=by
 rw [aV,h,aY,k]
theorem nW {cal:Cal}{e:ME}{ρ:Rho}{v:PV}{ms:List MS} (h:ev cal e ρ=some v):ci (exs cal (.ret e::ms) ρ)=some v:=by
 rw [aV,iU h];rfl
theorem vE {cal:Cal}{i:Nat}{e:ME}{ρ:Rho}{v:PV}{ms:List MS}{r:R} (h:ev cal e ρ=some v) (k:exs cal ms (put ρ i (.val v))=r):exs cal (.set i e::ms) ρ=r:=by
 rw [aV,kA h,aY,k]
theorem mF {cal:Cal}{m:MS}{ρ ρ':Rho}{ms:List MS}{r:R} (h:ex cal m ρ=.next ρ') (k:exs cal ms ρ'=r):exs cal (m::ms) ρ=r:=by
 rw [aV,h,aY,k]
theorem gr {cal:Cal}{m:MS}{ρ ρ':Rho} (h:ex cal m ρ=.next ρ'):exs cal [m] ρ=.next ρ':=by
 rw [aV,h,aY,exs]
theorem cO {cal:Cal}{c:ME}{a b:List MS}{ρ:Rho}{p:Bool} (h:ev cal c ρ=some (.bl p)):ex cal (.ite c a b) ρ=if p=true then exs cal a ρ else exs cal b ρ:=by
 rw [ex,zY h,fg]
theorem iu {h x:Int}{ts:List Int}:x ∈ drp h ts ↔ x ∈ ts/\x ≠ h:=by
 unfold drp
 rw [List.mem_filter]
 simp
noncomputable def sm (R:List (List Int)) (d:Bool × Int):List (List Int):=if d.1 then sg d.2 R else vA d.2 R
theorem sn {R:List (List Int)}{d:Bool × Int}:∀ ts ∈ sm R d,d.2 ∉ ts:=by
 intro ts h
 unfold sm at h
 split at h
 ·obtain ⟨t,_,rfl⟩:=List.mem_map.mp (bN.mp h)
  exact λz=>(iu.mp z).2 rfl
 ·have:=(List.mem_filter.mp h).2
  simpa using this
theorem pI {R:List (List Int)}{d:Bool × Int}{x:Int} (h:∀ ts ∈ R,x ∉ ts):∀ ts ∈ sm R d,x ∉ ts:=by
 intro ts hm
 unfold sm at hm
 split at hm
 ·obtain ⟨t,ht,rfl⟩:=List.mem_map.mp (bN.mp hm)
  exact λz=>h t ht (iu.mp z).1
 ·exact h ts (List.mem_filter.mp hm).1
noncomputable def hat (o:Bool) (k:Nat):Bool:=if k % 2=0 then o else !o
noncomputable def lft (o:Bool):Nat->List (List Int)->List Int->List (List Int)
 | _,R,[]=>R
 | k,R,h::t=>lft o (k + 1) (bhd (hat o k) R (some h)) t
theorem nX (b:Bool) (R:List (List Int)) (h:Int):bhd b R (some h)=sm R (!b,h):=by cases b <;> rfl
theorem nY (o:Bool) {R:List (List Int)}:∀ (t:List Int) (k:Nat) (R:List (List Int)) (x:Int),((∀ ts ∈ R,x ∉ ts) \/ x ∈ t)->∀ ts ∈ lft o k R t,x ∉ ts
 | [],k,R,x,h=>h.elim id λz=>by cases z
 | y::t,k,R,x,h=>by
  rw [lft,nX]
  refine nY (R:=R) o t (k + 1) _ x ?_
  rcases h with h|h
  ·exact .inl (pI h)
  ·rcases List.mem_cons.mp h with rfl|h
   ·exact .inl (sn (d:=(!hat o k,x)))
   ·exact .inr h
theorem qN (o:Bool) {P:Int->Prop}:∀ (t:List Int) (k:Nat) (R:List (List Int)),(∀ ts ∈ R,∀ x ∈ ts,P x)->∀ ts ∈ lft o k R t,∀ x ∈ ts,P x
 | [],k,R,h=>h
 | y::t,k,R,h=>by
  rw [lft,nX]
  refine qN o t (k + 1) _ λts hts x hx=>?_
  unfold sm at hts
  split at hts
  ·obtain ⟨s,hs,rfl⟩:=List.mem_map.mp (bN.mp hts)
   exact h s hs x (iu.mp hx).1
  ·exact h ts (List.mem_filter.mp hts).1 x hx
noncomputable def fC (R:List (List Int)):Sc:=if [] ∈ R then .str "weaver" else if R=[] then .str "moth" else .non
theorem sr (n:Nat) (c r:PV) (xs:List PV) (o:Bool) (k:Nat):ac defs (n + 2) 22 [.brwO [c,r,.str (ah o)] xs,.val (.int (k:Nat))]=some (.str (ah (hat o k))):=by
 rw [ay (d:=bK) rfl rfl]
 have e1:=xE n o
 by_cases h:k % 2=0
 ·have h':((k:Int) % 2 == 0)=true:=by rw [beq_iff_eq];omega
  simp [bK,exs,ex,ev,evs,evB,evA,gE,h',hat,h]
 ·have h':((k:Int) % 2 == 0)=false:=by rw [beq_eq_false_iff_ne];omega
  simp [bK,exs,ex,ev,evs,evB,evA,gE,h',hat,h,e1]
theorem lH (n:Nat) (c r:PV) (xs:List PV) (o:Bool):∀ (t:List Int) (k:Nat) (R:List (List Int)) (p h:Option MV),d_ R ->
  ∃ p' h',be (λx ρ'=>fv (jX [2,3] x ρ') λρ''=>exs (ac defs (n + 3)) cN ρ'') (cf k (t.map .int)) [some (.brwO [c,r,.str (ah o)] xs),some (.val (ofR R)),p,h]
  =.next [some (.brwO [c,r,.str (ah o)] xs),some (.val (ofR (lft o k R t))),p',h']
 | [],k,R,p,h,_=>⟨p,h,rfl⟩
 | x::t,k,R,p,h,g=>by
  have e1:=sr (n + 1) c r xs o k
  have e2:=vD n R g (hat o k) (some x)
  have e:(fv (jX [2,3] (.tup [.int (k:Nat),.int x]) [some (.brwO [c,r,.str (ah o)] xs),some (.val (ofR R)),p,h]) λρ''=>exs (ac defs (n + 3)) cN ρ'')
   =.next [some (.brwO [c,r,.str (ah o)] xs),some (.val (ofR (bhd (hat o k) R (some x)))),some (.val (.int (k:Nat))),some (.val (.int x))]:=by
   simp [jX,kN,cN,exs,ex,ev,evs,evA,gE,e1,<- vw.eq_def,show PV.int x=vw (some x) from rfl,e2]
  rw [List.map_cons,cf,cX e]
  obtain ⟨p',h',q⟩:=lH n c r xs o t (k + 1) _ (some (.val (.int (k:Nat)))) (some (.val (.int x))) (vC g (some x))
  exact ⟨p',h',q⟩
noncomputable abbrev tbl (c:Int) (R:List (List Int)) (o:Bool):List PV:=[.int c,ofR R,.str (ah o)]
theorem zZ (n:Nat) (c:Int) (R:List (List Int)) (o:Bool) (t:List Int) (g:d_ R):ac defs (n + 4) 24 [.brwO (tbl c R o) (t.map .int)]=some (ofR (lft o 0 R t)):=by
 rw [ay (d:=dD) rfl rfl]
 obtain ⟨p',h',e⟩:=lH n (.int c) (ofR R) (t.map .int) o t 0 R none none g
 simp [dD,exs,ex,ev,evs,evB,evA,gE,qi,cm,bA,e,ba]
theorem nZ (n:Nat) (c:Int) (R:List (List Int)) (o:Bool) (t:List Int) (g:d_ R):ac defs (n + 5) 25 [.brwO (tbl c R o) (t.map .int)]=some (fC (lft o 0 R t)).pv:=by
 rw [ay (d:=bE) rfl rfl]
 have e1:=zZ n c R o t g
 generalize lft o 0 R t=L at e1
 have e2:=pH (n + 3) L
 have e3:=sk (n + 3) L
 unfold fC
 by_cases h:[] ∈ L
 ·simp [bE,exs,ex,ev,evs,evB,evA,gE,e1,e2,h,Sc.pv]
 ·by_cases h2:L=[]
  ·subst h2
   simp [bE,exs,ex,ev,evs,evB,evA,gE,e1,e2,e3,Sc.pv]
  ·simp [bE,exs,ex,ev,evs,evB,evA,gE,e1,e2,e3,h,h2,Sc.pv]
theorem xF (n:Nat) (h c:Int):ac defs (n + 1) 0 [.val (.int h),.val (.int c)]=some (.bl (decide (0 <= h)&&decide (h < c))):=by
 rw [ay (d:=aN) rfl rfl]
 by_cases q:0 <= h
 ·simp [aN,exs,ex,ev,evs,evB,q]
 ·simp [aN,exs,ex,ev,evs,evB,q]
theorem z5 (n:Nat) (c:Int) (R:List (List Int)) (o:Bool) (t:List Int) (h:Int) (g:d_ R) (hw:fC (lft o 0 R t)=.non) (h0:0 <= h) (h1:h < c) (hn:h ∉ t) (hl:t.length < 10000) :
  ac defs (n + 6) (26 + 3000) [.ownO true (tbl c R o) (t.map .int),.val (.int h)]=some (.tup [(fC (lft o 0 R (t ++ [h]))).pv,.lst ((t ++ [h]).map .int)]):=by
 rw [se (d:=dE) (by decide) rfl rfl rfl]
 have e1:=nZ n c R o t g
 have e2:=xF (n + 4) h c
 have e3:=nZ n c R o (t ++ [h]) g
 have e4:(t ++ [h]).map PV.int=t.map PV.int ++ [PV.int h]:=by simp
 rw [hw,show Sc.non.pv=PV.non from rfl] at e1
 rw [e4] at e3 ⊢
 have e5:sc? (fC (lft o 0 R (t ++ [h]))).pv=some (fC (lft o 0 R (t ++ [h]))):=by
  unfold fC
  split
  ·rfl
  ·split <;> rfl
 generalize fC (lft o 0 R (t ++ [h]))=w at e3 e5
 simp [dE,exs,ex,ev,evs,evB,evA,gE,xV,e1,e2,h0,h1,dH,hn,hl,e3,e5,fu,zK,rN,MM.R.andThen]
theorem su (L:List (List Int)):fC L=.str "weaver" \/ fC L=.str "moth" \/ fC L=.non:=by
 unfold fC
 split
 ·exact .inl rfl
 ·split
  ·exact .inr (.inl rfl)
  ·exact .inr (.inr rfl)
noncomputable def Ff (kn bt:Int->Bool) (Rb:List (List Int)):List (List Int):=(Rb.filter λs=>!s.any bt).map λs=>s.filter λx=>!kn x
noncomputable def tkB (w:Bool) (o:Bool):Nat->List Int->Int->Bool
 | _,[],_=>false
 | k,h::t,x=>(decide (x=h)&&(hat o k == w)) || tkB w o (k + 1) t x
theorem qO {w o:Bool}:∀ {t:List Int}{k:Nat}{x:Int},x ∉ t->tkB w o k t x=false
 | [],_,_,_=>rfl
 | h::t,k,x,hx=>by
  rw [List.mem_cons] at hx
  rw [tkB,qO λz=>hx (.inr z),decide_eq_false λz=>hx (.inl z)]
  rfl
theorem xG {kn bt:Int->Bool}{h:Int} (hb:bt h=false) (Rb:List (List Int)):Ff kn bt (Rb.map (drp h))=Ff (λx=>decide (x=h) || kn x) bt Rb:=by
 unfold Ff
 rw [List.filter_map,List.map_map]
 have e1:((λs:List Int=>!s.any bt) ∘ drp h)=λs=>!s.any bt:=by
  funext s
  show (!(drp h s).any bt)=!s.any bt
  congr 1
  rw [Bool.eq_iff_iff,List.any_eq_true,List.any_eq_true]
  refine ⟨λ⟨x,hx,q⟩=>⟨x,(iu.mp hx).1,q⟩,λ⟨x,hx,q⟩=>⟨x,iu.mpr ⟨hx,λz=>?_⟩,q⟩⟩
  rw [z,hb] at q
  cases q
 rw [e1]
 refine List.map_congr_left λs _=>?_
 show (drp h s).filter _=_
 unfold drp
 rw [List.filter_filter]
 congr 1
 funext x
 show ((!kn x)&&!decide (x=h))=!(decide (x=h) || kn x)
 cases decide (x=h) <;> cases kn x <;> rfl
theorem xH {kn bt:Int->Bool}{h:Int} (Rb:List (List Int)):Ff kn bt (Rb.filter λts=>!decide (h ∈ ts))=Ff kn (λx=>decide (x=h) || bt x) Rb:=by
 unfold Ff
 rw [List.filter_filter]
 congr 1
 congr 1
 funext s
 have:(s.any λx=>decide (x=h) || bt x)=(decide (h ∈ s) || s.any bt):=by
  rw [Bool.eq_iff_iff,List.any_eq_true,Bool.or_eq_true,List.any_eq_true,decide_eq_true_iff]
  constructor
  ·rintro ⟨x,hx,q⟩
   rcases Bool.or_eq_true_iff.mp q with q|q
   ·exact .inl (of_decide_eq_true q ▸ hx)
   ·exact .inr ⟨x,hx,q⟩
  ·rintro (q|⟨x,hx,q⟩)
   ·exact ⟨h,q,by simp⟩
   ·exact ⟨x,hx,by simp [q]⟩
 rw [this]
 cases decide (h ∈ s) <;> cases s.any bt <;> rfl
theorem pJ (o:Bool):∀ (t:List Int) (k:Nat) (Rb:List (List Int)),t.Nodup->lft o k (sortT Rb) t=sortT (Ff (tkB false o k t) (tkB true o k t) Rb)
 | [],k,Rb,_=>by
  unfold lft Ff
  have e:(Rb.filter λs=>!s.any (tkB true o k []))=Rb:=List.filter_eq_self.mpr λs _=>by
   have:s.any (tkB true o k [])=false:=by rw [List.any_eq_false];intro x _ z;cases z
   rw [this]
   rfl
  rw [e]
  have e2:(Rb.map λs=>s.filter λx=>!tkB false o k [] x)=Rb.map id:=List.map_congr_left λs _=>List.filter_eq_self.mpr λx _=>rfl
  rw [e2,List.map_id]
 | h::t,k,Rb,nd=>by
  obtain ⟨n1,n2⟩:=List.nodup_cons.mp nd
  rw [lft]
  cases e:hat o k with
  | false =>
   have e1:bhd false (sortT Rb) (some h)=sortT (Rb.map (drp h)):=sortT_of_perm ((sortT_perm Rb).map _)
   rw [e1,pJ o t (k + 1) _ n2,xG (qO n1)]
   congr 2
   ·funext x
    rw [tkB,e]
    simp
   ·funext x
    rw [tkB,e]
    simp
  | true =>
   have e1:bhd true (sortT Rb) (some h)=sortT (Rb.filter λts=>!decide (h ∈ ts)):=by
    show (sortT Rb).filter _=_
    rw [<- sortT_id ((sortT_rises Rb).filter λts=>!decide (h ∈ ts))]
    exact sortT_of_perm ((sortT_perm Rb).filter _)
   rw [e1,pJ o t (k + 1) _ n2,xH]
   congr 2
   ·funext x
    rw [tkB,e]
    simp
   ·funext x
    rw [tkB,e]
    simp
theorem qP (w o:Bool):∀ (t:List Int) (k:Nat) (x:Int),tkB w o k t x=true ↔ ∃ i,t[i]?=some x/\hat o (k + i)=w
 | [],k,x=>⟨λz=>(by cases z),λ⟨i,h,_⟩=>(by simp at h)⟩
 | h::t,k,x=>by
  rw [tkB,Bool.or_eq_true,Bool.and_eq_true,decide_eq_true_iff,beq_iff_eq,qP w o t (k + 1) x]
  constructor
  ·rintro (⟨rfl,e⟩|⟨i,e1,e2⟩)
   ·exact ⟨0,rfl,e⟩
   ·exact ⟨i + 1,by simpa using e1,by rw [<- e2];congr 1;omega⟩
  ·rintro ⟨i,e1,e2⟩
   cases i with
   | zero=>simp at e1;exact .inl ⟨e1.symm,e2⟩
   | succ i=>exact .inr ⟨i,by simpa using e1,by rw [<- e2];congr 1;omega⟩
noncomputable def frl (c:Int) (t:List Int):List Int:=((List.range c.toNat).filter λ(k:Nat)=>!decide ((k:Int) ∈ t)).map λ(k:Nat)=>(k:Int)
theorem qQ {c x:Int}{t:List Int}:x ∈ frl c t ↔ (0 <= x/\x < c)/\x ∉ t:=by
 unfold frl
 rw [List.mem_map]
 constructor
 ·rintro ⟨k,hk,rfl⟩
  obtain ⟨h1,h2⟩:=List.mem_filter.mp hk
  have h1:k < c.toNat:=by simpa using h1
  exact ⟨by omega,by simpa using h2⟩
 ·rintro ⟨h1,h2⟩
  have e:((x.toNat:Nat):Int)=x:=by omega
  refine ⟨x.toNat,List.mem_filter.mpr ⟨by simp;omega,?_⟩,e⟩
  rw [e]
  simpa using h2
theorem vF {L:List (List Int)} (h:fC L=.non):[] ∉ L/\L ≠ []:=by
 unfold fC at h
 split at h
 ·cases h
 ·rename_i h1
  split at h
  ·cases h
  ·rename_i h2
   exact ⟨h1,h2⟩
theorem n4 (g:Array Nat) (a:Array Nat):∀ (xs:List Str) (b:Array Nat),xs.foldl (λacc p=>acc ++ g ++ p.cps) (a ++ b)=a ++ xs.foldl (λacc p=>acc ++ g ++ p.cps) b
 | [],b=>rfl
 | x::xs,b=>by
  rw [List.foldl_cons,List.foldl_cons,show a ++ b ++ g ++ x.cps=a ++ (b ++ g ++ x.cps) by simp only [Array.append_assoc],n4 g a xs]
theorem n5 (w x:Str) (xs:List Str):Builtin.Str.glued (" ":Str) (w::x::xs)=(w ++ (" ":Str)) ++ Builtin.Str.glued (" ":Str) (x::xs):=by
 have h:=n4 (" ":Str).cps (w.cps ++ (" ":Str).cps) xs x.cps
 show Str.mk _=Str.mk _
 exact congrArg Str.mk h
noncomputable def bp (w:Str) (ws:List Str):Str:=Builtin.Str.glued (" ":Str) (w::ws)
theorem z6 (w x:Str):bp w [x]=(w ++ (" ":Str)) ++ x:=n5 w x []
theorem vG:∀ ws:List Str,dY (ws.map .str)=some ws
 | []=>rfl
 | w::ws=>by rw [List.map_cons,dY,vG ws];rfl
theorem vH {b:Nat}{x:Str}:∀ {ws:List Str},(∀ w ∈ ws,w.length <= b)->(ws.map λy=>y.length + x.length).sum <= (b + x.length) * ws.length
 | [],_=>Nat.le_refl _
 | w::ws,h=>by
  have h1:=h w (.head _)
  have h2:=vH (x:=x) (ws:=ws) λy hy=>h y (.tail _ hy)
  rw [List.map_cons,List.sum_cons,List.length_cons,Nat.mul_succ]
  omega
theorem mG {x:Str}{ws:List Str}{b:Nat} (h:∀ w ∈ ws,w.length <= b) (hb:(b + x.length) * ws.length <= 1000000):tZ x (.lst (ws.map .str))=some (.str (Builtin.Str.glued x ws)):=by
 show (dY (ws.map .str)).bind _=_
 rw [vG,Option.bind_some]
 exact if_pos (Nat.le_trans (vH h) hb)
theorem vI {x:Str}{ws:List Str}{b:Nat} (h:∀ w ∈ ws,w.length <= b):(Builtin.Str.glued x ws).length <= (b + x.length) * ws.length:=Nat.le_trans (L2.nh x ws) (vH h)
theorem s60 {i:Int} (h:0 <= i/\i <= 60):av .strOf [.int i]=some (.str (aZ i))/\(aZ i).length <= 6:=by
 refine ⟨if_pos (by omega),?_⟩
 have q:∀ n:Fin 61,(aZ (n.val:Int)).length <= 6:=by decide
 have:=q ⟨i.toNat,by omega⟩
 rwa [show ((i.toNat:Nat):Int)=i by omega] at this
theorem pK (o:Bool):(ah o).length <= 6:=by cases o <;> decide
theorem qR {α:Type} (n:Nat) (w:Str) (v:PV) (xs:List α) (f:α->PV) (g:α->Str) (hv:a9 v=some (xs.map f)) (hg:∀ x ∈ xs,av .strOf [f x]=some (.str (g x))/\(g x).length <= 6) (hl:xs.length <= 60) (hw:w.length <= 6) :
  ac defs (n + 1) 13 [.val (.str w),.val v]=some (.str (bp w (xs.map g))):=by
 rw [ay (d:=eM) rfl rfl]
 have e1:ev (ac defs n) (.comp .seq [(.bor 1)] [] (.cst (.bl true)) (.blt .strOf [(.bor 0)])) [some (.val (.str w)),some (.val v)]=some (.lst (xs.map λx=>.str (g x))):=by
  refine dc (vs:=[v]) (xs:=xs) (g:=f) (by simp [evs,ev]) (by simp [cm,hv]) (by omega) λx hx=>?_
  rw [bz (v:=f x) (by simp [ev,cW]),(hg x hx).1]
 have e0:ev (ac defs n) (.lst [(.var 0)]) [some (.val (.str w)),some (.val v)]=some (.lst [.str w]):=by simp [ev,evs]
 have e2:ev (ac defs n) (.bin .add (.lst [(.var 0)]) (.comp .seq [(.bor 1)] [] (.cst (.bl true)) (.blt .strOf [(.bor 0)]))) [some (.val (.str w)),some (.val v)]=some (.lst ((w::xs.map g).map .str)):=by
  rw [ev,e0,Option.bind_some,e1,Option.bind_some]
  show (if _ then _ else _)=_
  rw [if_pos (by rw [List.length_map,List.length_singleton];omega),List.map_cons,List.map_map]
  rfl
 show ci (exs _ [.ret _] [some (.val (.str w)),some (.val v)])=_
 refine nW ?_
 rw [ev,e2,Option.bind_some]
 refine mG (b:=6) (λy hy=>?_) ?_
 ·rcases List.mem_cons.mp hy with rfl|hy
  ·exact hw
  ·obtain ⟨x,hx,rfl⟩:=List.mem_map.mp hy
   exact (hg x hx).2
 ·rw [List.length_cons,List.length_map,show (" ":Str).length=1 from rfl]
  omega
theorem qS {α:Type}{w:Str}{xs:List α}{g:α->Str} (hg:∀ x ∈ xs,(g x).length <= 6) (hl:xs.length <= 60) (hw:w.length <= 6):(bp w (xs.map g)).length <= 427:=by
 refine Nat.le_trans (vI (b:=6) (x:=(" ":Str)) (ws:=w::xs.map g) λy hy=>?_) ?_
 ·rcases List.mem_cons.mp hy with rfl|hy
  ·exact hw
  ·obtain ⟨x,hx,rfl⟩:=List.mem_map.mp hy
   exact hg x hx
 ·rw [List.length_cons,List.length_map,show (" ":Str).length=1 from rfl]
  omega
theorem lI {cal:Cal}{i:Nat}{e:ME}{ρ:Rho}{xs ys:List PV} (h:ev cal e ρ=some (.lst ys)) (hi:(ρ[i]?).join=some (.own xs)) (hl:xs.length + ys.length <= 10000):ex cal (.extend i e) ρ=.next (put ρ i (.own (xs ++ ys))):=by
 rw [ex,h]
 show (match (ρ[i]?).join,some ys with|some (.own xs),some ys=>_|_,_=>_)=_
 rw [hi]
 exact if_pos hl
theorem dM {cal:Cal}{i:Nat}{e:ME}{ρ:Rho}{xs:List PV}{v:PV} (h:ev cal e ρ=some v) (hi:(ρ[i]?).join=some (.own xs)) (hl:xs.length < 10000):ex cal (.append i e) ρ=.next (put ρ i (.own (xs ++ [v]))):=by
 rw [ex,h]
 show (match (ρ[i]?).join with|some (.own xs)=>_|_=>_)=_
 rw [hi]
 exact if_pos hl
noncomputable def fz (c:Int) (R:List (List Int)) (o:Bool) (t:List Int):List Str:=bp "holes" [aZ c]::(R.map λs=>bp "ribbon" (s.map aZ)) ++ bp "first" [ah o]::t.map λh=>bp "take" [aZ h]
theorem z7 {c:Int}{R:List (List Int)}{o:Bool}{t:List Int} (hc:0 <= c/\c <= 60) (hR:∀ s ∈ R,s.length <= 60/\∀ x ∈ s,0 <= x/\x <= 60) (ht:∀ x ∈ t,0 <= x/\x <= 60):∀ w ∈ fz c R o t,w.length <= 427:=λw hw=>by
 rcases List.mem_append.mp hw with hw|hw
 ·rcases List.mem_cons.mp hw with rfl|hw
  ·exact qS (xs:=[c]) (g:=aZ) (λx hx=>by rw [List.mem_singleton.mp hx];exact (s60 hc).2) (show 1 <= 60 by decide) (by decide)
  ·obtain ⟨s,hs,rfl⟩:=List.mem_map.mp hw
   exact qS (λx hx=>(s60 ((hR s hs).2 x hx)).2) (hR s hs).1 (by decide)
 ·rcases List.mem_cons.mp hw with rfl|hw
  ·exact qS (xs:=[o]) (g:=ah) (λx _=>pK x) (show 1 <= 60 by decide) (by decide)
  ·obtain ⟨h,hh,rfl⟩:=List.mem_map.mp hw
   exact qS (xs:=[h]) (g:=aZ) (λx hx=>by rw [List.mem_singleton.mp hx];exact (s60 (ht h hh)).2) (show 1 <= 60 by decide) (by decide)
noncomputable def n6 (c:Int) (R:List (List Int)) (o:Bool) (t:List Int):Str:=Builtin.Str.glued ("\n":Str) (fz c R o t)
theorem lJ {c:Int}{R:List (List Int)}{o:Bool}{t:List Int} (hc:0 <= c/\c <= 60) (hR:∀ s ∈ R,s.length <= 60/\∀ x ∈ s,0 <= x/\x <= 60) (ht:∀ x ∈ t,0 <= x/\x <= 60) (hl:R.length <= 60) (hl2:t.length <= 60):tZ "\n" (.lst ((fz c R o t).map .str))=some (.str (n6 c R o t)):=by
 refine mG (z7 hc hR ht) ?_
 rw [fz,List.length_append,List.length_cons,List.length_cons,List.length_map,List.length_map,show ("\n":Str).length=1 from rfl]
 omega
theorem xI (n:Nat) (fs:List PV) (t:List Int) (hl:t.length <= 60):ac defs (n + 1) 23 [.brwO fs (t.map .int)]=some (ofL t):=by
 rw [ay (d:=db) rfl rfl]
 simp [db,exs,ex,ev,evs,qi]
theorem z8 (n:Nat) (c:Int) (R:List (List Int)) (o:Bool) (t:List Int) (hc:0 <= c/\c <= 60) (hR:∀ s ∈ R,s.length <= 60/\∀ x ∈ s,0 <= x/\x <= 60) (ht:∀ x ∈ t,0 <= x/\x <= 60) (hl:R.length <= 60) (hl2:t.length <= 60) :
  ac defs (n + 2) 14 [.brwO (tbl c R o) (t.map .int)]=some (.str (n6 c R o t)):=by
 rw [ay (d:=eA) rfl rfl]
 have e1:=qR n "holes" (.lst [.int c]) [c] PV.int aZ rfl (λx hx=>by rw [List.mem_singleton.mp hx];exact s60 hc) (show 1 <= 60 by decide) (by decide)
 have e2:∀ s ∈ R,ac defs (n + 1) 13 [.val (.str "ribbon"),.val (ofS s)]=some (.str (bp "ribbon" (s.map aZ))):=λs hs=>qR n "ribbon" (ofS s) s PV.int aZ rfl (λx hx=>s60 ((hR s hs).2 x hx)) (hR s hs).1 (by decide)
 have e3:=qR n "first" (.lst [.str (ah o)]) [o] (λo=>.str (ah o)) ah rfl (λx _=>⟨rfl,pK x⟩) (show 1 <= 60 by decide) (by decide)
 have e4:∀ h ∈ t,ac defs (n + 1) 13 [.val (.str "take"),.val (.lst [.int h])]=some (.str (bp "take" [aZ h])):=λh hh=>qR n "take" (.lst [.int h]) [h] PV.int aZ rfl (λx hx=>by rw [List.mem_singleton.mp hx];exact s60 (ht h hh)) (show 1 <= 60 by decide) (by decide)
 have e5:=xI n (tbl c R o) t hl2
 have f2:∀ m,ev (ac defs (n + 1)) (.comp .seq [(.fld 0 1)] [] (.cst (.bl true)) (.call 13 [(.cst (.str "ribbon")),(.bor 0)])) [some (.brwO (tbl c R o) (t.map .int)),m]=some (.lst (R.map λs=>.str (bp "ribbon" (s.map aZ)))):=λm=>by
  refine dc (vs:=[ofR R]) (xs:=R) (g:=ofS) (by simp [evs,ev,gE]) rfl (by omega) λs hs=>?_
  simp [ev,evA,cW,cg,e2 s hs]
 have f4:∀ m,ev (ac defs (n + 1)) (.comp .seq [(.callM 23 0 [])] [] (.cst (.bl true)) (.call 13 [(.cst (.str "take")),(.lst [(.var 0)])])) [some (.brwO (tbl c R o) (t.map .int)),m]=some (.lst (t.map λh=>.str (bp "take" [aZ h]))):=λm=>by
  refine dc (vs:=[ofL t]) (xs:=t) (g:=PV.int) (by simp [evs,ev,evA,gE,e5]) rfl (by omega) λh hh=>?_
  simp [ev,evs,evA,cW,cg,e4 h hh]
 show ci (exs _ [.setOwn 1 _,.extend 1 _,.append 1 _,.extend 1 _,.ret _] [some (.brwO (tbl c R o) (t.map .int)),none])=_
 refine b8 (ρ':=[some (.brwO (tbl c R o) (t.map .int)),some (.own [.str (bp "holes" [aZ c])])]) ?_ ?_
 ·rw [gc (xs:=[.str (bp "holes" [aZ c])])]
  ·simp only [aF,aE]
  ·simp [ev,evs,evA,gE,e1]
 refine b8 (ρ':=[some (.brwO (tbl c R o) (t.map .int)),some (.own (.str (bp "holes" [aZ c])::R.map λs=>.str (bp "ribbon" (s.map aZ))))]) ?_ ?_
 ·rw [lI (f2 _) rfl (by rw [List.length_map,List.length_singleton];omega)]
  rfl
 refine b8 (ρ':=[some (.brwO (tbl c R o) (t.map .int)),some (.own ((.str (bp "holes" [aZ c])::R.map λs=>.str (bp "ribbon" (s.map aZ))) ++ [.str (bp "first" [ah o])]))]) ?_ ?_
 ·rw [dM (v:=.str (bp "first" [ah o])) (by simp [ev,evs,evA,gE,e3]) rfl (by rw [List.length_cons,List.length_map];omega)]
  rfl
 refine b8 (ρ':=[some (.brwO (tbl c R o) (t.map .int)),some (.own ((fz c R o t).map .str))]) ?_ ?_
 ·rw [lI (f4 _) rfl (by rw [List.length_append,List.length_cons,List.length_map,List.length_map,List.length_singleton];omega)]
  simp [fz,aF,aE,Function.comp_def]
 refine nW ?_
 rw [ev,show ev (ac defs (n + 1)) (.bor 1) [some (.brwO (tbl c R o) (t.map .int)),some (.own ((fz c R o t).map .str))]=some (.lst ((fz c R o t).map .str)) from by simp [ev],Option.bind_some]
 exact lJ hc hR ht hl hl2
theorem z9:∀ (x:List Int) (R:List (List Int)),eC ((x::R).map ofL)=none:=λ_ _=>rfl
theorem z_:∀ (x:List Int) (R:List (List Int)),aU ((x::R).map ofL)=none:=λ_ _=>rfl
theorem vJ:∀ (R:List (List Int)),eD (R.map ofL)=some R
 | []=>rfl
 | x::R=>by
  rw [List.map_cons]
  show (aU (x.map PV.int)).bind (λx=>(eD (R.map ofL)).map (x::·))=_
  rw [vJ R,bM]
  rfl
theorem sw {R:List (List Int)} (h:R.length < 64):dk (R.map ofL)=some (.lst ((sortT R).map ofL)):=by
 cases R with
 | nil=>rfl
 | cons x R =>
  unfold dk
  rw [if_pos (by rw [List.length_map];exact h),z_,z9,vJ]
  rfl
theorem lK (cal:Cal) (a b c d:Option MV) (h0:Option MV):∀ (R:List (List Int)) (acc:List Str) (s0:Option MV),(∀ s ∈ R,s ≠ []/\s.length <= 60/\∀ x ∈ s,0 <= x/\x <= 60)->acc.length + R.length < 10000 ->
  ∃ s',be (λx ρ'=>exs cal ca (put ρ' 5 (.val x))) (R.map ofL) [a,b,c,d,some (.own (acc.map .str)),s0,h0]=.next [a,b,c,d,some (.own ((acc ++ R.map λs=>bp "ribbon" (s.map aZ)).map .str)),s',h0]
 | [],acc,s0,_,_=>⟨s0,by simp⟩
 | s::R,acc,s0,hs,hl=>by
  obtain ⟨g1,g2,g3⟩:=hs s (.head _)
  rw [List.length_cons] at hl
  have e1:ev cal (.comp .seq [(.bor 5)] [] (.cst (.bl true)) (.blt .strOf [(.bor 0)])) [a,b,c,d,some (.own (acc.map .str)),some (.val (ofL s)),h0]=some (.lst (s.map λi=>.str (aZ i))):=by
   refine dc (vs:=[ofL s]) (xs:=s) (g:=PV.int) (by simp [evs,ev]) rfl (by omega) λi hi=>?_
   rw [bz (v:=.int i) (by simp [ev,cW]),(s60 (g3 i hi)).1]
  have e2:ev cal (.join " " (.comp .seq [(.bor 5)] [] (.cst (.bl true)) (.blt .strOf [(.bor 0)]))) [a,b,c,d,some (.own (acc.map .str)),some (.val (ofL s)),h0]=some (.str (Builtin.Str.glued (" ":Str) (s.map aZ))):=by
   rw [ev,e1,Option.bind_some,show (s.map λi=>PV.str (aZ i))=(s.map aZ).map .str by rw [List.map_map];rfl]
   refine mG (b:=6) (λy hy=>?_) ?_
   ·obtain ⟨x,hx,rfl⟩:=List.mem_map.mp hy
    exact (s60 (g3 x hx)).2
   ·rw [List.length_map,show (" ":Str).length=1 from rfl]
    omega
  have hT:(("ribbon ":Str) ++ Builtin.Str.glued (" ":Str) (s.map aZ))=bp "ribbon" (s.map aZ):=by
   cases s with
   | nil=>exact absurd rfl g1
   | cons x s=>rw [List.map_cons,bp,n5];rfl
  have hb:(Builtin.Str.glued (" ":Str) (s.map aZ)).length <= 420:=by
   refine Nat.le_trans (vI (b:=6) (x:=(" ":Str)) (ws:=s.map aZ) λy hy=>?_) ?_
   ·obtain ⟨x,hx,rfl⟩:=List.mem_map.mp hy
    exact (s60 (g3 x hx)).2
   ·rw [List.length_map,show (" ":Str).length=1 from rfl]
    omega
  have e3:ev cal (.bin .add (.cst (.str "ribbon ")) (.join " " (.comp .seq [(.bor 5)] [] (.cst (.bl true)) (.blt .strOf [(.bor 0)])))) [a,b,c,d,some (.own (acc.map .str)),some (.val (ofL s)),h0]=some (.str (bp "ribbon" (s.map aZ))):=by
   rw [ev,fQ,Option.bind_some,e2,Option.bind_some]
   show (if _ then _ else _)=_
   rw [if_pos (by rw [show ("ribbon ":Str).length=7 from rfl];omega),hT]
  have e:exs cal ca (put [a,b,c,d,some (.own (acc.map .str)),s0,h0] 5 (.val (ofL s)))=.next [a,b,c,d,some (.own ((acc ++ [bp "ribbon" (s.map aZ)]).map .str)),some (.val (ofL s)),h0]:=by
   simp only [aF,aE,ca]
   refine gr ?_
   rw [dM e3 rfl (by rw [List.length_map];omega),List.map_append]
   rfl
  obtain ⟨s',e4⟩:=lK cal a b c d h0 R (acc ++ [bp "ribbon" (s.map aZ)]) (some (.val (ofL s))) (λu hu=>hs u (.tail _ hu)) (by rw [List.length_append,List.length_singleton];omega)
  refine ⟨s',?_⟩
  rw [List.map_cons,cX e,e4,List.map_cons,List.append_assoc]
  rfl
theorem kB (cal:Cal) (a b c d s:Option MV):∀ (t:List Int) (acc:List Str) (h0:Option MV),(∀ x ∈ t,0 <= x/\x <= 60)->acc.length + t.length < 10000 ->
  ∃ h',be (λx ρ'=>exs cal cb (put ρ' 6 (.val x))) (t.map .int) [a,b,c,d,some (.own (acc.map .str)),s,h0]=.next [a,b,c,d,some (.own ((acc ++ t.map λh=>bp "take" [aZ h]).map .str)),s,h']
 | [],acc,h0,_,_=>⟨h0,by simp⟩
 | h::t,acc,h0,hs,hl=>by
  obtain ⟨g1,g2⟩:=s60 (hs h (.head _))
  rw [List.length_cons] at hl
  have e3:ev cal (.bin .add (.cst (.str "take ")) (.blt .strOf [(.bor 6)])) [a,b,c,d,some (.own (acc.map .str)),s,some (.val (.int h))]=some (.str (bp "take" [aZ h])):=by
   rw [ev,fQ,Option.bind_some,bz (v:=.int h) (by simp [ev]),g1,Option.bind_some]
   show (if _ then _ else _)=_
   rw [if_pos (by rw [show ("take ":Str).length=5 from rfl];omega),z6]
   rfl
  have e:exs cal cb (put [a,b,c,d,some (.own (acc.map .str)),s,h0] 6 (.val (.int h)))=.next [a,b,c,d,some (.own ((acc ++ [bp "take" [aZ h]]).map .str)),s,some (.val (.int h))]:=by
   simp only [aF,aE,cb]
   refine gr ?_
   rw [dM e3 rfl (by rw [List.length_map];omega),List.map_append]
   rfl
  obtain ⟨s',e4⟩:=kB cal a b c d s t (acc ++ [bp "take" [aZ h]]) (some (.val (.int h))) (λu hu=>hs u (.tail _ hu)) (by rw [List.length_append,List.length_singleton];omega)
  refine ⟨s',?_⟩
  rw [List.map_cons,cX e,e4,List.map_cons,List.append_assoc]
  rfl
theorem xJ (n:Nat) (c:Int) (Rb:List (List Int)) (o:Bool) (t:List Int) (hc:0 <= c/\c <= 60) (hR:∀ s ∈ Rb,s ≠ []/\s.length <= 60/\∀ x ∈ s,0 <= x/\x <= 60) (ht:∀ x ∈ t,0 <= x/\x <= 60) (hl:Rb.length <= 60) (hl2:t.length <= 60) :
  ac defs (n + 1) 18 [.val (.int c),.val (.lst (Rb.map ofL)),.val (.str (ah o)),.brw (t.map .int)]=some (.str (n6 c (sortT (Rb.map sortI)) o t)):=by
 rw [ay (d:=dn) rfl rfl]
 have hR':∀ s ∈ sortT (Rb.map sortI),s ≠ []/\s.length <= 60/\∀ x ∈ s,0 <= x/\x <= 60:=λs hs=>by
  obtain ⟨r,hr,rfl⟩:=List.mem_map.mp (bN.mp hs)
  obtain ⟨g1,g2,g3⟩:=hR r hr
  refine ⟨λz=>g1 ?_,by rw [sortI_len];exact g2,λx hx=>g3 x (dJ.mp hx)⟩
  have:=sortI_len (l:=r)
  rw [z] at this
  exact List.length_eq_zero_iff.mp this.symm
 have hlen:(sortT (Rb.map sortI)).length <= 60:=by rw [sortT_len,List.length_map];exact hl
 obtain ⟨g1,g2⟩:=s60 hc
 obtain ⟨s',l1⟩:=lK (ac defs n) (some (.val (.int c))) (some (.val (.lst (Rb.map ofL)))) (some (.val (.str (ah o)))) (some (.brw (t.map .int))) none (sortT (Rb.map sortI)) [bp "holes" [aZ c]] none hR' (by rw [List.length_singleton];omega)
 obtain ⟨h',l2⟩:=kB (ac defs n) (some (.val (.int c))) (some (.val (.lst (Rb.map ofL)))) (some (.val (.str (ah o)))) (some (.brw (t.map .int))) s' t ([bp "holes" [aZ c]] ++ ((sortT (Rb.map sortI)).map λs=>bp "ribbon" (s.map aZ)) ++ [bp "first" [ah o]]) none ht (by rw [List.length_append,List.length_append,List.length_singleton,List.length_map,List.length_singleton];omega)
 have f1:ev (ac defs n) (.comp .seq [(.bor 1)] [] (.cst (.bl true)) (.blt .sorted [(.bor 0)])) [some (.val (.int c)),some (.val (.lst (Rb.map ofL))),some (.val (.str (ah o))),some (.brw (t.map .int)),some (.own ([bp "holes" [aZ c]].map .str)),none,none]=some (.lst ((Rb.map sortI).map ofL)):=by
  rw [List.map_map]
  refine dc (vs:=[.lst (Rb.map ofL)]) (xs:=Rb) (g:=ofL) (by simp [evs,ev]) rfl (by omega) λs hs=>?_
  rw [bz (v:=ofL s) (by simp [ev,cW])]
  exact sd (by have:=(hR s hs).2.1;omega)
 show ci (exs _ [.setOwn 4 _,.for1 5 .seq _ _,.append 4 _,.for1 6 .seq _ _,.ret _] [some (.val (.int c)),some (.val (.lst (Rb.map ofL))),some (.val (.str (ah o))),some (.brw (t.map .int)),none,none,none])=_
 refine b8 (ρ':=[some (.val (.int c)),some (.val (.lst (Rb.map ofL))),some (.val (.str (ah o))),some (.brw (t.map .int)),some (.own ([bp "holes" [aZ c]].map .str)),none,none]) ?_ ?_
 ·rw [gc (xs:=[.str (bp "holes" [aZ c])])]
  ·rfl
  ·have eh:ev (ac defs n) (.bin .add (.cst (.str "holes ")) (.blt .strOf [(.bor 0)])) [some (.val (.int c)),some (.val (.lst (Rb.map ofL))),some (.val (.str (ah o))),some (.brw (t.map .int)),none,none,none]=some (.str (bp "holes" [aZ c])):=by
    rw [ev,fQ,Option.bind_some,bz (v:=.int c) (by simp [ev]),g1,Option.bind_some]
    show (if _ then _ else _)=_
    rw [if_pos (by rw [show ("holes ":Str).length=6 from rfl];omega),z6]
    rfl
   rw [ev,evs,eh]
   simp [evs]
 refine b8 (ρ':=[some (.val (.int c)),some (.val (.lst (Rb.map ofL))),some (.val (.str (ah o))),some (.brw (t.map .int)),some (.own (([bp "holes" [aZ c]] ++ ((sortT (Rb.map sortI)).map λs=>bp "ribbon" (s.map aZ))).map .str)),s',none]) ?_ ?_
 ·rw [gb (xs:=(sortT (Rb.map sortI)).map ofL)]
  ·show (be _ _ [_,_,_,_,_,none,none]).back _ _=_
   rw [l1]
   rfl
  ·rw [evs,bz f1]
   show Option.bind ((Option.bind (dk _) _)) _=_
   rw [sw (by rw [List.length_map];omega)]
   rfl
 refine b8 (ρ':=[some (.val (.int c)),some (.val (.lst (Rb.map ofL))),some (.val (.str (ah o))),some (.brw (t.map .int)),some (.own (([bp "holes" [aZ c]] ++ ((sortT (Rb.map sortI)).map λs=>bp "ribbon" (s.map aZ)) ++ [bp "first" [ah o]]).map .str)),s',none]) ?_ ?_
 ·rw [dM (v:=.str (bp "first" [ah o])) ?_ rfl (by rw [List.length_map,List.length_append,List.length_singleton,List.length_map];omega)]
  ·rw [List.map_append (l₂:=[bp "first" [ah o]])]
   rfl
  ·rw [ev,fQ,Option.bind_some]
   have hb:=pK o
   rw [show ev (ac defs n) (.bor 2) [some (.val (.int c)),some (.val (.lst (Rb.map ofL))),some (.val (.str (ah o))),some (.brw (t.map .int)),some (.own (([bp "holes" [aZ c]] ++ ((sortT (Rb.map sortI)).map λs=>bp "ribbon" (s.map aZ))).map .str)),s',none]=some (.str (ah o)) from by simp [ev],Option.bind_some]
   show (if _ then _ else _)=_
   rw [if_pos (by rw [show ("first ":Str).length=6 from rfl];omega),z6]
   rfl
 refine b8 (ρ':=[some (.val (.int c)),some (.val (.lst (Rb.map ofL))),some (.val (.str (ah o))),some (.brw (t.map .int)),some (.own ((fz c (sortT (Rb.map sortI)) o t).map .str)),s',h']) ?_ ?_
 ·rw [gb (xs:=t.map .int) (by simp [evs,ev])]
  show (be _ _ [_,_,_,_,_,_,none]).back _ _=_
  rw [l2]
  simp [fz,ba]
 refine nW ?_
 rw [ev,show ev (ac defs n) (.bor 4) [some (.val (.int c)),some (.val (.lst (Rb.map ofL))),some (.val (.str (ah o))),some (.brw (t.map .int)),some (.own ((fz c (sortT (Rb.map sortI)) o t).map .str)),s',h']=some (.lst ((fz c (sortT (Rb.map sortI)) o t).map .str)) from by simp [ev],Option.bind_some]
 exact lJ hc (λs hs=>(hR' s hs).2) ht hlen hl2
theorem mH (x:Int):∀ (b:Bool) (t:List Int),x ∈ cv b t ↔ ∃ i,t[i]?=some x/\(i % 2=0 ↔ b=true)
 | b,[]=>by cases b <;> simp [cv]
 | true,y::t=>by
  show x ∈ y::cv false t ↔ _
  rw [List.mem_cons,mH x false t]
  constructor
  ·rintro (rfl|⟨i,h1,h2⟩)
   ·exact ⟨0,rfl,by simp⟩
   ·refine ⟨i + 1,h1,?_⟩
    have:¬ i % 2=0:=λz=>by simp [z] at h2
    simp
    omega
  ·rintro ⟨i,h1,h2⟩
   cases i with
   | zero=>left;simpa using h1.symm
   | succ i =>
    right
    refine ⟨i,h1,?_⟩
    have:(i + 1) % 2=0:=h2.mpr rfl
    simp
    omega
 | false,y::t=>by
  show x ∈ cv true t ↔ _
  rw [mH x true t]
  constructor
  ·rintro ⟨i,h1,h2⟩
   refine ⟨i + 1,h1,?_⟩
   have:i % 2=0:=h2.mpr rfl
   simp
   omega
  ·rintro ⟨i,h1,h2⟩
   cases i with
   | zero=>simp at h2
   | succ i =>
    refine ⟨i,h1,?_⟩
    have:¬ (i + 1) % 2=0:=λz=>by simp [z] at h2
    simp
    omega
theorem vK (o w:Bool) (t:List Int) (x:Int):x ∈ cv (ah o == ah w) t ↔ tkB w o 0 t x=true:=by
 rw [mH,qP]
 have hb:(ah o == ah w)=(o == w):=by cases o <;> cases w <;> decide
 rw [hb]
 refine exists_congr λi=>and_congr_right λ_=>?_
 rw [Nat.zero_add]
 unfold hat
 by_cases c:i % 2=0 <;> cases o <;> cases w <;> simp [c]
noncomputable def Aa (Rb:List (List Int)) (W:List Int):Bool:=Rb.any λs=>s.all λx=>decide (x ∈ W)
noncomputable def Ab (Rb:List (List Int)) (M:List Int):Bool:=Rb.all λs=>s.any λx=>decide (x ∈ M)
theorem xK {Rb:List (List Int)}{o:Bool}{t:List Int} (nd:t.Nodup) (h1:Aa Rb (cv (ah o == "weaver") t)=false) (h2:Ab Rb (cv (ah o == "moth") t)=false):fC (lft o 0 (sortT (Rb.map sortI)) t)=.non:=by
 rw [pJ o t 0 _ nd]
 have k1:[] ∉ sortT (Ff (tkB false o 0 t) (tkB true o 0 t) (Rb.map sortI)):=λz=>by
  obtain ⟨s,hs,e⟩:=List.mem_map.mp (bN.mp z)
  obtain ⟨r,hr,rfl⟩:=List.mem_map.mp (List.mem_filter.mp hs).1
  refine absurd h1 (by
   rw [Bool.not_eq_false]
   refine List.any_eq_true.mpr ⟨r,hr,List.all_eq_true.mpr λx hx=>decide_eq_true ?_⟩
   refine (vK o false t x).mpr ?_
   have:=List.filter_eq_nil_iff.mp e x (dJ.mpr hx)
   simpa using this)
 have k2:sortT (Ff (tkB false o 0 t) (tkB true o 0 t) (Rb.map sortI)) ≠ []:=λz=>by
  refine absurd h2 (by
   rw [Bool.not_eq_false]
   refine List.all_eq_true.mpr λr hr=>?_
   have n1:∀ s,s ∉ Ff (tkB false o 0 t) (tkB true o 0 t) (Rb.map sortI):=λs hs=>by
    have:=bN.mpr hs
    rw [z] at this
    cases this
   cases hb:(sortI r).any (tkB true o 0 t) with
   | true =>
    obtain ⟨x,hx,hk⟩:=List.any_eq_true.mp hb
    exact List.any_eq_true.mpr ⟨x,dJ.mp hx,decide_eq_true ((vK o true t x).mpr hk)⟩
   | false=>exact absurd (List.mem_map.mpr ⟨sortI r,List.mem_filter.mpr ⟨List.mem_map.mpr ⟨r,hr,rfl⟩,by rw [hb];rfl⟩,rfl⟩) (n1 _))
 unfold fC
 rw [if_neg k1,if_neg k2]
theorem BY {cal:Cal}{W M:List Int}{b:Bool}{y:Int}:ev cal (.cmp .isIn (.bor 0) (.datL (.bor 1) b)) [some (.val (.int y)),some (.val (.dL (W.map .int) (M.map .int)))]=some (.bl (decide (y ∈ if b=true then W else M))):=by
 have e:ev cal (.datL (.bor 1) b) [some (.val (.int y)),some (.val (.dL (W.map .int) (M.map .int)))]=some (ofL (if b=true then W else M)):=by cases b <;> simp [ev]
 rw [vt (x:=.int y) (by simp [ev]) e]
 show Option.map _ ((a9 (ofL _)).bind (isIn (.int y)))=_
 show Option.map _ (isIn (.int y) ((if b=true then W else M).map .int))=_
 rw [dH]
 rfl
theorem n8 {cal:Cal}{W M:List Int}{b:Bool}{s:List Int} (hl:s.length <= 60):ev cal (.comp .seq [(.bor 0)] [1] (.cst (.bl true)) (.cmp .isIn (.bor 0) (.datL (.bor 1) b))) [some (.val (ofL s)),some (.val (.dL (W.map .int) (M.map .int)))]=some (.lst (s.map λy=>.bl (decide (y ∈ if b=true then W else M)))) :=
 dc (vs:=[ofL s]) (xs:=s) (g:=PV.int) (by simp [evs,ev]) rfl (by omega) λy _=>BY
theorem n9 {α:Type} (xs:List α) (p:α->Bool):av .all [.lst (xs.map λy=>.bl (p y))]=some (.bl (xs.all p)):=by
 show Option.map _ (bO _)=_
 rw [show (xs.map λy=>PV.bl (p y))=(xs.map p).map .bl by rw [List.map_map];rfl,gJ]
 simp [List.all_map]
theorem n_ {α:Type} (xs:List α) (p:α->Bool):av .any [.lst (xs.map λy=>.bl (p y))]=some (.bl (xs.any p)):=by
 show Option.map _ (bO _)=_
 rw [show (xs.map λy=>PV.bl (p y))=(xs.map p).map .bl by rw [List.map_map];rfl,gJ]
 simp [List.any_map]
theorem Ac (n:Nat) (Rb:List (List Int)) (o:Bool) (t:List Int) (hR:∀ s ∈ Rb,s.length <= 60) (hl:Rb.length <= 60) (ht:t.length <= 60) (nd:t.Nodup) :
  ∃ v,ac defs (n + 1) 19 [.val (.lst (Rb.map ofL)),.brw (t.map .int),.val (.str (ah o))]=some v/\(fu v=true->fC (lft o 0 (sortT (Rb.map sortI)) t)=.non):=by
 rw [ay (d:=eW) rfl rfl]
 have hw:=@xK Rb o t nd
 generalize hW:cv (ah o == "weaver") t=W at hw
 generalize hM:cv (ah o == "moth") t=M at hw
 have e0:ex (ac defs n) (.own3 3 4 5 1 (.var 2)) [some (.val (.lst (Rb.map ofL))),some (.brw (t.map .int)),some (.val (.str (ah o))),none,none,none]=.next [some (.val (.lst (Rb.map ofL))),some (.brw (t.map .int)),some (.val (.str (ah o))),some (.val (.dL (W.map .int) (M.map .int))),some (.val (.str (bg (ah o) t.length))),none]:=by
  have c1:ah o="weaver" \/ ah o="moth":=by cases o <;> simp [ah]
  have c2:t.length <= 1000:=by omega
  rw [ex]
  simp only [ev,List.getElem?_cons_succ,List.getElem?_cons_zero,Option.join_some,bM]
  simp [tY,c1,aF,aE]
  rw [bM]
  dsimp only
  rw [if_pos c2,hW,hM]
 have e1:ev (ac defs n) (.blt .any [(.comp .seq [(.bor 0)] [3] (.cst (.bl true)) (.blt .all [(.comp .seq [(.bor 0)] [1] (.cst (.bl true)) (.cmp .isIn (.bor 0) (.datL (.bor 1) true)))]))]) [some (.val (.lst (Rb.map ofL))),some (.brw (t.map .int)),some (.val (.str (ah o))),some (.val (.dL (W.map .int) (M.map .int))),some (.val (.str (bg (ah o) t.length))),none]=some (.bl (Aa Rb W)):=by
  rw [bz (v:=.lst (Rb.map λs=>.bl (s.all λx=>decide (x ∈ W))))]
  ·exact n_ _ _
  ·refine dc (vs:=[.lst (Rb.map ofL)]) (xs:=Rb) (g:=ofL) (by simp [evs,ev]) rfl (by omega) λs hs=>?_
   rw [bz (v:=.lst (s.map λy=>.bl (decide (y ∈ W))))]
   ·exact n9 _ _
   ·exact n8 (b:=true) (hR s hs)
 have e2:ev (ac defs n) (.blt .all [(.comp .seq [(.bor 0)] [3] (.cst (.bl true)) (.blt .any [(.comp .seq [(.bor 0)] [1] (.cst (.bl true)) (.cmp .isIn (.bor 0) (.datL (.bor 1) false)))]))]) [some (.val (.lst (Rb.map ofL))),some (.brw (t.map .int)),some (.val (.str (ah o))),some (.val (.dL (W.map .int) (M.map .int))),some (.val (.str (bg (ah o) t.length))),none]=some (.bl (Ab Rb M)):=by
  rw [bz (v:=.lst (Rb.map λs=>.bl (s.any λx=>decide (x ∈ M))))]
  ·exact n9 _ _
  ·refine dc (vs:=[.lst (Rb.map ofL)]) (xs:=Rb) (g:=ofL) (by simp [evs,ev]) rfl (by omega) λs hs=>?_
   rw [bz (v:=.lst (s.map λy=>.bl (decide (y ∈ M))))]
   ·exact n_ _ _
   ·exact n8 (b:=false) (hR s hs)
 have go:∀ v,ci (exs (ac defs n) [.ite _ _ _,.ite _ _ _,.ret _] _)=some v->ci (exs (ac defs n) eW.body [some (.val (.lst (Rb.map ofL))),some (.brw (t.map .int)),some (.val (.str (ah o))),none,none,none])=some v:=λv h=>b8 e0 h
 show ∃ v,ci (exs _ eW.body [some (.val (.lst (Rb.map ofL))),some (.brw (t.map .int)),some (.val (.str (ah o))),none,none,none])=some v/\_
 cases hA:Aa Rb W with
 | true =>
  refine ⟨.str "weaver",go _ ?_,λz=>by cases z⟩
  rw [hA] at e1
  rw [aV,cO e1,if_pos rfl,aV,iU (fQ _ _ _)]
  rfl
 | false =>
  rw [hA] at e1
  cases hB:Ab Rb M with
  | true =>
   refine ⟨.str "moth",go _ ?_,λz=>by cases z⟩
   rw [hB] at e2
   rw [aV,cO e1,if_neg Bool.false_ne_true,exs,aY,aV,cO e2,if_pos rfl,aV,iU (fQ _ _ _)]
   rfl
  | false =>
   refine ⟨.non,go _ ?_,λ_=>hw hA hB⟩
   rw [hB] at e2
   rw [aV,cO e1,if_neg Bool.false_ne_true,exs,aY,aV,cO e2,if_neg Bool.false_ne_true,exs,aY]
   exact nW (fQ _ _ _)
noncomputable def dw (r:List Int):List Int:=sortI (dd r)
noncomputable def pL (R:List (List Int)):List (List Int):=sortT (R.map dw)
theorem dd_len (r:List Int) (h:∀ x ∈ r,0 <= x/\x <= 59):(dd r).length <= 60:=pG 60 (dd r) (dd_nodup r) λx hx=>by have:=h x (vn.mp hx);omega
theorem pM {r:List Int} (h:∀ x ∈ r,0 <= x/\x <= 59):nU (dw r):=⟨vm (dd_nodup r),λx hx=>h x (vn.mp (dJ.mp hx))⟩
theorem oa {R:List (List Int)} (h:∀ r ∈ R,∀ x ∈ r,0 <= x/\x <= 59) (hl:R.length <= 60):d_ (pL R):=by
 refine ⟨λts hts=>?_,sortT_rises _,by unfold pL;rw [sortT_len,List.length_map];exact hl⟩
 obtain ⟨r,hr,rfl⟩:=List.mem_map.mp (bN.mp hts)
 exact pM (h r hr)
theorem pN (n:Nat) (i b:Int) (h:0 <= i/\i < b):ac defs (n + 1) 0 [.val (.int i),.val (.int b)]=some (.bl true):=by
 rw [ay (d:=aN) rfl rfl]
 simp [aN,exs,ex,ev,evs,evB,h.1,h.2]
theorem fA (n:Nat) (a:MV):∀ (r:List Int) (kk:Option MV),(∀ x ∈ r,0 <= x/\x <= 59) ->
  ∃ kk',be (λx ρ'=>exs (ac defs (n + 1)) cK (put ρ' 1 (.val x))) (r.map .int) [some a,kk]=.next [some a,kk']
 | [],kk,_=>⟨kk,rfl⟩
 | t::r,kk,h=>by
  rw [List.map_cons,be]
  have e:exs (ac defs (n + 1)) cK (put [some a,kk] 1 (.val (.int t)))=.next [some a,some (.val (.int t))]:=by
   simp [cK,exs,ex,ev,evB,evA,pN n t 60 ⟨(h t (.head _)).1,by have:=(h t (.head _)).2;omega⟩]
  rw [e]
  exact fA n a r _ λx hx=>h x (.tail _ hx)
theorem mI (n:Nat) (p:PV) (r:List Int) (hp:p=ofL r \/ p=ofS r) (h:∀ x ∈ r,0 <= x/\x <= 59) (hl:r.length <= 1000):ac defs (n + 2) 2 [.val p]=some (ofS (dw r)):=by
 rw [ay (d:=dB) rfl rfl]
 obtain ⟨k',e⟩:=fA n (.val p) r none h
 have hd:(dd r).length < 64:=by have:=dd_len r h;omega
 rcases hp with rfl|rfl <;> simp [dB,exs,ex,ev,evs,evB,bA,e,ba,bM,hl,hd,dw]
noncomputable def cu (w:Bool × List Int):PV:=if w.1=true then ofL w.2 else ofS w.2
theorem qT (w:Bool × List Int):a9 (cu w)=some (w.2.map .int):=by
 unfold cu
 split <;> rfl
theorem lL (w:Bool × List Int):cu w=ofL w.2 \/ cu w=ofS w.2:=by
 unfold cu
 split
 ·exact .inl rfl
 ·exact .inr rfl
theorem pO (x:PV) {ns:List Int} (h:a9 x=some (ns.map .int)) (hl:ns.length <= 1000):av .lenSet [x]=some (.int (dd ns).length):=by
 show ((a9 x).bind λxs=>(aU xs).bind λns=>if ns.length <= 1000 then some (PV.int (dd ns).length) else none)=_
 rw [h,Option.bind_some,bM,Option.bind_some,if_pos hl]
theorem qU (w:Bool × List Int):av .len [cu w]=some (.int w.2.length):=by
 rcases lL w with e|e <;> rw [e] <;> simp
theorem i9 (n:Nat) (a:MV) (count:Int):∀ (r:List Int) (kk:Option MV),(∀ x ∈ r,0 <= x/\x < count) ->
  ∃ kk',be (λx ρ'=>exs (ac defs (n + 1)) cj (put ρ' 2 (.val x))) (r.map .int) [some a,some (.val (.int count)),kk]=.next [some a,some (.val (.int count)),kk']
 | [],kk,_=>⟨kk,rfl⟩
 | t::r,kk,h=>by
  rw [List.map_cons,be]
  have e:exs (ac defs (n + 1)) cj (put [some a,some (.val (.int count)),kk] 2 (.val (.int t)))=.next [some a,some (.val (.int count)),some (.val (.int t))]:=by
   simp [cj,exs,ex,ev,evB,evA,pN n t count (h t (.head _))]
  rw [e]
  exact i9 n a count r _ λx hx=>h x (.tail _ hx)
theorem xL (n:Nat) (w:Bool × List Int) (count:Int) (h:(∀ x ∈ w.2,0 <= x/\x < count)/\w.2.Nodup/\w.2 ≠ []/\w.2.length <= 60):ac defs (n + 2) 9 [.val (cu w),.val (.int count)]=some .non:=by
 obtain ⟨h1,h2,h3,h4⟩:=h
 obtain ⟨k',e⟩:=i9 n (.val (cu w)) count w.2 none h1
 have hl:¬ ((w.2.length:Int)=0):=by have:=List.length_pos_iff.mpr h3;omega
 have eo:ac defs (n + 1) 1 [.val (cu w)]=some (.bl true):=by
  rw [ay (d:=fM) rfl rfl]
  have e1:=pO (cu w) (qT w) (by omega)
  rw [qL h2] at e1
  have e2:=qU w
  show ci (exs (ac defs n) [_] [some (.val (cu w))])=_
  rw [aV,iU (v:=.bl true)]
  ·rfl
  ·rw [ev,bz (v:=cu w) (by simp [ev]),bz (v:=cu w) (by simp [ev]),e1,e2]
   simp
 rw [ay (d:=ez) rfl rfl]
 have hsrc:(evs (ac defs (n + 1)) [.bor 0] [some (.val (cu w)),some (.val (.int count)),none]).bind (cm .seq)=some (w.2.map .int):=by
  rw [show evs (ac defs (n + 1)) [.bor 0] [some (.val (cu w)),some (.val (.int count)),none]=some [cu w] from by simp [evs,ev],Option.bind_some,mE,qT]
 show ci (exs (ac defs (n + 1)) (_::_::[_]) [some (.val (cu w)),some (.val (.int count)),none])=_
 simp only [aV]
 rw [show ex (ac defs (n + 1)) (.ite (.cmp .eq (.blt .len [(.bor 0)]) (.cst (.int 0))) [.never] []) [some (.val (cu w)),some (.val (.int count)),none]=.next [some (.val (cu w)),some (.val (.int count)),none] from by
  rw [ex,show evB (ac defs (n + 1)) (.cmp .eq (.blt .len [(.bor 0)]) (.cst (.int 0))) [some (.val (cu w)),some (.val (.int count)),none]=some false from by
   rw [evB,ev,bz (v:=cu w) (by simp [ev]),qU]
   simp [ev,hl,h3],fg,if_neg (by decide),exs],aY]
 rw [gb hsrc,show bA [.bor 0] [some (.val (cu w)),some (.val (.int count)),none]=[some (.val (cu w)),some (.val (.int count)),none] from rfl,e,lF,aY]
 simp [exs,ex,ev,evA,evB,eo,ba]
theorem kC (n:Nat) (count:Int) (m:MV):∀ (W:List (Bool × List Int)) (y:Option MV),(∀ w ∈ W,(∀ x ∈ w.2,0 <= x/\x < count)/\w.2.Nodup/\w.2 ≠ []/\w.2.length <= 60) ->
  ∃ y',be (λx ρ'=>exs (ac defs (n + 2)) da (put ρ' 2 (.val x))) (W.map cu) [some (.val (.int count)),some m,y]=.next [some (.val (.int count)),some m,y']
 | [],y,_=>⟨y,rfl⟩
 | w::W,y,h=>by
  rw [List.map_cons,be]
  have ec:=xL n w count (h w (.head _))
  have e:exs (ac defs (n + 2)) da (put [some (.val (.int count)),some m,y] 2 (.val (cu w)))=.next [some (.val (.int count)),some m,some (.val (cu w))]:=by
   simp [da,exs,ex,ev,evA,ec]
  rw [e]
  exact kC n count m W _ λv hv=>h v (.tail _ hv)
theorem og (n:Nat) (m:MV) (v:PV) (W:List (Bool × List Int)) (hm:bh (some m)=some v) (hv:a9 v=some (W.map cu)) (hl:av .len [v]=some (.int W.length)) (h:∀ w ∈ W,(∀ x ∈ w.2,0 <= x/\x <= 59)/\w.2.length <= 60) (h6:W.length <= 60) :
  ac defs (n + 3) 3 [m]=some (ofR (sortT (W.map λw=>dw w.2))):=by
 rw [ay (d:=fN) rfl rfl]
 have h1:¬ (60:Int) < (W.length:Int):=by omega
 have ec:ev (ac defs (n + 2)) (.comp .seq [(.bor 0)] [] (.cst (.bl true)) (.call 2 [(.bor 0)])) [some m]=some (.lst ((W.map λw=>dw w.2).map ofS)):=by
  refine (dc (g:=cu) (h:=λw=>ofS (dw w.2)) (vs:=[v]) (by simp [evs,ev,hm]) (by rw [mE];exact hv) (by omega) λw hw=>?_).trans (by rw [List.map_map];rfl)
  exact ir (vs:=[.val (cu w)]) (by simp [evA,cW]) (mI n (cu w) w.2 (lL w) (h w hw).1 (by have:=(h w hw).2;omega))
 have eS:dk ((W.map λw=>dw w.2).map ofS)=some (.lst ((sortT (W.map λw=>dw w.2)).map ofS)):=lE (by rw [List.length_map];omega)
 show ci (exs (ac defs (n + 2)) (_::[_]) [some m])=_
 simp only [aV]
 rw [show ex (ac defs (n + 2)) (.ite (.cmp .gt (.blt .len [(.bor 0)]) (.glob "MOST_STRIPS" (.int 60))) [.never] []) [some m]=.next [some m] from by
  rw [ex,show evB (ac defs (n + 2)) (.cmp .gt (.blt .len [(.bor 0)]) (.glob "MOST_STRIPS" (.int 60))) [some m]=some false from by
   rw [evB,ev,bz (v:=v) (by simp [ev,hm]),hl]
   simp [ev,h1],fg,if_neg (by decide),exs],aY]
 rw [iU (v:=ofR (sortT (W.map λw=>dw w.2)))]
 ·rfl
 ·rw [bz (v:=.lst ((sortT (W.map λw=>dw w.2)).map ofS))]
  ·rfl
  ·rw [bz ec,pF,xy,Option.bind_some,eS]
theorem Ad (n:Nat) (m:MV) (v:PV) (count:Int) (W:List (Bool × List Int)) (hm:bh (some m)=some v) (ha:cg (some m)=some m) (hnd:∀ xs,m ≠ .own xs) (hv:a9 v=some (W.map cu)) (hl:av .len [v]=some (.int W.length)) (h0:0 <= count) (h6:count <= 60)
  (h:∀ w ∈ W,(∀ x ∈ w.2,0 <= x/\x < count)/\w.2.Nodup/\w.2 ≠ []/\w.2.length <= 60) (hW:W.length <= 60):ac defs (n + 4) 10 [.val (.int count),m]=some (.tup [.int count,ofR (sortT (W.map λw=>dw w.2))]):=by
 have er:=og n m v W hm hv hl (λw hw=>⟨λx hx=>by have:=(h w hw).1 x hx;omega,(h w hw).2.2.2⟩) hW
 obtain ⟨y,e⟩:=kC (n + 1) count m W none h
 have eb:=pN (n + 2) count 61 ⟨h0,by omega⟩
 have h1:¬ (60:Int) < (W.length:Int):=by omega
 rw [ay (d:=fO) rfl rfl]
 have hsrc:(evs (ac defs (n + 3)) [.bor 1] [some (.val (.int count)),some m,none]).bind (cm .seq)=some (W.map cu):=by
  rw [show evs (ac defs (n + 3)) [.bor 1] [some (.val (.int count)),some m,none]=some [v] from by simp [evs,ev,hm],Option.bind_some,mE,hv]
 have hlend:bA [.bor 1] [some (.val (.int count)),some m,none]=[some (.val (.int count)),some m,none]:=by
  cases m <;> first|exact absurd rfl (hnd _)|rfl
 have hback:∀ ρ,ba [.bor 1] [some (.val (.int count)),some m,none] ρ=ρ:=λρ=>by
  cases m <;> first|exact absurd rfl (hnd _)|rfl
 show ci (exs (ac defs (n + 3)) (_::_::_::[_]) [some (.val (.int count)),some m,none])=_
 simp only [aV]
 rw [show ex (ac defs (n + 3)) (.ite (.not (.call 0 [(.bor 0),(.bin .add (.glob "HOLE_COUNT" (.int 60)) (.cst (.int 1)))])) [.never] []) [some (.val (.int count)),some m,none]=.next [some (.val (.int count)),some m,none] from by simp [ex,exs,ev,evA,evB,eb],aY]
 rw [show ex (ac defs (n + 3)) (.ite (.cmp .gt (.blt .len [(.bor 1)]) (.glob "MOST_STRIPS" (.int 60))) [.never] []) [some (.val (.int count)),some m,none]=.next [some (.val (.int count)),some m,none] from by
  rw [ex,show evB (ac defs (n + 3)) (.cmp .gt (.blt .len [(.bor 1)]) (.glob "MOST_STRIPS" (.int 60))) [some (.val (.int count)),some m,none]=some false from by
   rw [evB,ev,bz (v:=v) (by simp [ev,hm]),hl]
   simp [ev,h1],fg,if_neg (by decide),exs],aY]
 rw [gb hsrc,hlend,e,lF,aY,hback]
 have ecr:ev (ac defs (n + 3)) (.call 3 [(.bor 1)]) [some (.val (.int count)),some m,y]=some (ofR (sortT (W.map λw=>dw w.2))):=ir (vs:=[m]) (by simp [evA,ha]) er
 rw [iU (v:=.tup [.int count,ofR (sortT (W.map λw=>dw w.2))])]
 ·rfl
 ·rw [ev,evs,evs,ecr]
  simp [ev,evs]
structure Rib (count:Int) (r:List Int):Prop where
 d:r.Nodup
 m:∀ x ∈ r,0 <= x/\x < count
 l:r.length <= 5
theorem oh (cal:Cal) (count:Int) (h1:1 <= count) (h6:count <= 60) (a0 a3:Option MV):∀ (xs:List PV) (left:Int) (acc:List Int) (k:Option MV),acc.Nodup->(∀ x ∈ acc,0 <= x/\x < count)->acc.length + xs.length <= 5 ->
  ∃ left' acc' k',be (λx ρ'=>exs cal cM (put ρ' 5 (.val x))) xs [a0,some (.val (.int count)),some (.val (.int left)),a3,some (.own (acc.map .int)),k]=.next [a0,some (.val (.int count)),some (.val (.int left')),a3,some (.own (acc'.map .int)),k']/\Rib count acc'/\(acc ≠ [] \/ xs ≠ []->acc' ≠ [])
 | [],left,acc,k,d,m,l=>⟨left,acc,k,rfl,⟨d,m,by simpa using l⟩,λh=>h.elim id λz=>absurd rfl z⟩
 | x::xs,left,acc,k,d,m,l=>by
  rw [List.length_cons] at l
  have hp:(0:Int) < count:=by omega
  have hc:count < 1073741824:=by omega
  have m0:0 <= left % count:=Int.emod_nonneg _ (by omega)
  have m1:left % count < count:=Int.emod_lt_of_pos _ hp
  have em:∀ (acc:List Int),ev cal (.bin .mod (.bor 2) (.bor 1)) [a0,some (.val (.int count)),some (.val (.int left)),a3,some (.own (acc.map .int)),some (.val x)]=some (.int (left % count)):=λacc=>by simp [ev,hp]
  have ef:∀ (acc:List Int),ev cal (.bin .fdiv (.bor 2) (.bor 1)) [a0,some (.val (.int count)),some (.val (.int left)),a3,some (.own (acc.map .int)),some (.val x)]=some (.int (left / count)):=λacc=>by simp [ev,hp,hc]
  have et:ev cal (.cmp .notIn (.bin .mod (.bor 2) (.bor 1)) (.bor 4)) [a0,some (.val (.int count)),some (.val (.int left)),a3,some (.own (acc.map .int)),some (.val x)]=some (.bl (!decide (left % count ∈ acc))):=by
   rw [ev,em]
   simp [ev,dH]
  have key:∃ acc1,exs cal cM (put [a0,some (.val (.int count)),some (.val (.int left)),a3,some (.own (acc.map .int)),k] 5 (.val x))=.next [a0,some (.val (.int count)),some (.val (.int (left / count))),a3,some (.own (acc1.map .int)),some (.val x)]/\acc1.Nodup/\(∀ x ∈ acc1,0 <= x/\x < count)/\acc1.length <= acc.length + 1/\acc1 ≠ []:=by
   simp only [aF,aE,cM]
   by_cases hi:left % count ∈ acc
   ·refine ⟨acc,?_,d,m,by omega,List.ne_nil_of_mem hi⟩
    rw [decide_eq_true hi] at et
    refine mF (by rw [cO et,if_neg (by decide),exs]) ?_
    refine gr ?_
    rw [kA (ef acc)]
    rfl
   ·refine ⟨acc ++ [left % count],?_,?_,λy hy=>?_,by simp,by simp⟩
    ·rw [decide_eq_false hi] at et
     refine mF (ρ':=[a0,some (.val (.int count)),some (.val (.int left)),a3,some (.own ((acc ++ [left % count]).map .int)),some (.val x)]) ?_ ?_
     ·rw [cO et,if_pos (by decide)]
      refine gr ?_
      rw [dM (em acc) rfl (by rw [List.length_map];omega),List.map_append]
      rfl
     ·refine gr ?_
      rw [kA (ef _)]
      rfl
    ·rw [List.nodup_append]
     exact ⟨d,by simp,λa ha b hb z=>hi (by rw [List.mem_singleton.mp hb] at z;exact z ▸ ha)⟩
    ·rcases List.mem_append.mp hy with hy|hy
     ·exact m y hy
     ·rw [List.mem_singleton.mp hy]
      exact ⟨m0,m1⟩
  obtain ⟨acc1,e,d1,m1',l1,n1⟩:=key
  obtain ⟨left',acc',k',q,r,ne⟩:=oh cal count h1 h6 a0 a3 xs (left / count) acc1 (some (.val x)) d1 m1' (by omega)
  exact ⟨left',acc',k',by rw [cX e,q],r,λ_=>ne (.inl n1)⟩
theorem oj (n:Nat) (cell count:Int) (h1:1 <= count) (h6:count <= 60):∃ r,ac defs (n + 2) 17 [.val (.int cell),.val (.int count)]=some (ofL r)/\Rib count r/\r ≠ []:=by
 rw [ay (d:=fk) rfl rfl]
 have em:=jr n cell 1181783497276652981
 have hm0:=fo cell 1181783497276652981
 generalize kz cell 1181783497276652981=m at em hm0
 have s0:0 <= m % 5:=Int.emod_nonneg _ (by decide)
 have s1:m % 5 < 5:=Int.emod_lt_of_pos _ (by decide)
 obtain ⟨left',acc',k',q,r,ne⟩:=oh (ac defs (n + 1)) count h1 h6 (some (.val (.int cell))) (some (.val (.int (1 + m % 5)))) ((List.range (1 + m % 5).toNat).map λ(k:Nat)=>.int (k:Int)) (m / 5) [] none .nil (λ_ h=>by cases h) (by rw [List.length_map,List.length_range];simp;omega)
 refine ⟨acc',?_,r,ne (.inr λz=>?_)⟩
 ·show ci (exs _ [.set 2 _,.set 3 _,.set 2 _,.setOwn 4 _,.for1 5 .rng _ _,.retOwn 4] [some (.val (.int cell)),some (.val (.int count)),none,none,none,none])=_
  refine gq (v:=.int m) (by simp [ev,evA,em]) ?_
  simp only [aF,aE]
  refine gq (v:=.int (1 + m % 5)) (by simp [ev]) ?_
  simp only [aF,aE]
  refine gq (v:=.int (m / 5)) (by simp [ev]) ?_
  simp only [aF,aE]
  refine b8 (gc (xs:=[]) (by simp [ev,evs])) ?_
  simp only [aF,aE]
  refine b8 (ρ':=[some (.val (.int cell)),some (.val (.int count)),some (.val (.int left')),some (.val (.int (1 + m % 5))),some (.own (acc'.map .int)),k']) ?_ ?_
  ·rw [gb (xs:=(List.range (1 + m % 5).toNat).map λ(k:Nat)=>.int (k:Int)) (by simp [evs,ev];exact kr (by omega) (by omega))]
   show (be _ _ [_,_,_,_,some (.own ([].map .int)),none]).back _ _=_
   rw [q]
   rfl
  simp [exs,ex]
 ·have:=congrArg List.length z
  rw [List.length_map,List.length_range] at this
  simp at this
  omega
theorem Ae (n:Nat) (x:Str):ac defs (n + 1) 20 [.val (.str x),.val (.str x)]=some (.bl true):=by
 rw [ay (d:=fm) rfl rfl]
 simp [fm,exs,ex,ev,evs]
theorem mJ (n:Nat) (c:Int) (Rb:List (List Int)) (o:Bool) (t:List Int) (hc:0 <= c/\c <= 60) (hR:∀ r ∈ Rb,Rib c r/\r ≠ []) (ht:∀ x ∈ t,0 <= x/\x <= 60) (hl:Rb.length <= 60) (hl2:t.length <= 60) (a0 a1 a2 a4 a6 a10 a11 a12:Option MV) :
  ev (ac defs (n + 7)) (.call 20 [(.call 14 [(.bor 8)]),(.call 18 [(.bor 3),(.bor 5),(.bor 7),(.bor 9)])]) [a0,a1,a2,some (.val (.int c)),a4,some (.val (.lst (Rb.map ofL))),a6,some (.val (.str (ah o))),some (.ownO false (tbl c (sortT (Rb.map sortI)) o) (t.map .int)),some (.own (t.map .int)),a10,a11,a12]=some (.bl true):=by
 have e1:=z8 (n + 5) c (sortT (Rb.map sortI)) o t hc (λs hs=>by
  obtain ⟨r,hr,rfl⟩:=List.mem_map.mp (bN.mp hs)
  have q:=(hR r hr).1
  exact ⟨by rw [sortI_len];have:=q.l;omega,λx hx=>by have:=q.m x (dJ.mp hx);omega⟩) ht (by rw [sortT_len,List.length_map];exact hl) hl2
 have e2:=xJ (n + 6) c Rb o t hc (λr hr=>⟨(hR r hr).2,by have:=(hR r hr).1.l;omega,λx hx=>by have:=(hR r hr).1.m x hx;omega⟩) ht hl hl2
 have e3:=Ae (n + 6) (n6 c (sortT (Rb.map sortI)) o t)
 generalize n6 c (sortT (Rb.map sortI)) o t=p at e1 e2 e3
 simp [ev,evA,cg,unB,e1,e2,e3]
theorem xM (cal:Cal) (c:Int) (t:List Int) (h0:0 <= c) (h1:c <= 60) (a0 a1 a2 a4 a5 a6 a7 a8 a10 a11 a12:Option MV):ev cal (.comp .rng [(.bor 3)] [9] (.cmp .notIn (.bor 0) (.bor 1)) (.var 0)) [a0,a1,a2,some (.val (.int c)),a4,a5,a6,a7,a8,some (.own (t.map .int)),a10,a11,a12]=some (ofL (frl c t)):=by
 have hl:c.toNat <= 10000:=by omega
 rw [ev,show evs cal [(.bor 3)] [a0,a1,a2,some (.val (.int c)),a4,a5,a6,a7,a8,some (.own (t.map .int)),a10,a11,a12]=some [.int c] from by simp [evs,ev],Option.bind_some,kr h0 (by omega),Option.bind_some,if_pos (by simpa using hl),d9 (p:=λ(k:Nat)=>!decide ((k:Int) ∈ t)) (h:=λ(k:Nat)=>.int (k:Int))]
 ·unfold frl
  rw [Option.map_some]
  show some (PV.lst _)=some (PV.lst ((List.map _ _).map PV.int))
  rw [List.map_map]
  rfl
 ·intro k _
  simp [ev,cW,cQ,dH]
 ·intro k _ _
  simp [ev,cW]
theorem Af (cal:Cal) (fr:List Int) (m:Int) (hne:fr ≠ []):∃ h,h ∈ fr/\∀ (x:Int) (ρ:Rho),cal 16 [.val (.int x),.val (.int 2049848353892358983)]=some (.int m)->(ρ[10]?).join=some (.val (.int x))->(ρ[11]?).join=some (.val (ofL fr))->ev cal (.idx (.bor 11) (.bin .mod (.call 16 [(.bor 10),(.cst (.int 2049848353892358983))]) (.blt .len [(.bor 11)]))) ρ=some (.int h):=by
 have hp:0 < (fr.length:Int):=by
  have:=List.length_pos_iff.mpr hne
  omega
 have q0:0 <= m % (fr.length:Int):=Int.emod_nonneg _ (by omega)
 have q1:m % (fr.length:Int) < fr.length:=Int.emod_lt_of_pos _ hp
 have q2:(m % (fr.length:Int)).toNat < fr.length:=by omega
 refine ⟨fr[(m % (fr.length:Int)).toNat],List.getElem_mem q2,λx ρ em r1 r2=>?_⟩
 have e1:ev cal (.bin .mod (.call 16 [(.bor 10),(.cst (.int 2049848353892358983))]) (.blt .len [(.bor 11)])) ρ=some (.int (m % (fr.length:Int))):=by
  simp [ev,evs,evA,cg,r1,r2,em,hp,hne]
 rw [vv (x:=ofL fr) (by rw [ev,r2];rfl) e1]
 show (place (fr.map PV.int).length _).bind (λj=>(fr.map PV.int)[j]?)=_
 rw [nT q0 (by rw [List.length_map];exact q1),Option.bind_some,List.getElem?_map,List.getElem?_eq_getElem q2]
 rfl
theorem pP (n:Nat) (c:Int) (Rb:List (List Int)) (o:Bool) (hc:0 <= c/\c <= 60) (hR:∀ r ∈ Rb,Rib c r/\r ≠ []) (hl:Rb.length <= 60) (g:d_ (sortT (Rb.map sortI))) (a0 a1 a2 a4 a6:Option MV):∀ (cs:List Int) (t:List Int) (k f h:Option MV),t.Nodup->(∀ x ∈ t,0 <= x/\x < c)->t.length + cs.length <= 60 ->
  ∃ (t':List Int) (k' f' h':Option MV),(∀ x ∈ t',0 <= x/\x < c)/\t'.length <= 60/\be (λx ρ'=>exs (ac defs (n + 7)) f_ (put ρ' 10 (.val x))) (cs.map .int) [a0,a1,a2,some (.val (.int c)),a4,some (.val (.lst (Rb.map ofL))),a6,some (.val (.str (ah o))),some (.ownO false (tbl c (sortT (Rb.map sortI)) o) (t.map .int)),some (.own (t.map .int)),k,f,h]
  =.next [a0,a1,a2,some (.val (.int c)),a4,some (.val (.lst (Rb.map ofL))),a6,some (.val (.str (ah o))),some (.ownO false (tbl c (sortT (Rb.map sortI)) o) (t'.map .int)),some (.own (t'.map .int)),k',f',h']
 | [],t,k,f,h,_,ht,hlen=>⟨t,k,f,h,ht,by simpa using hlen,rfl⟩
 | x::cs,t,k,f,h,nd,ht,hlen=>by
  rw [List.length_cons] at hlen
  obtain ⟨v,ev1,hv⟩:=Ac (n + 6) Rb o t (λs hs=>by have:=(hR s hs).1.l;omega) hl (by omega) nd
  have et:ev (ac defs (n + 7)) (.cmp .isN (.call 19 [(.bor 5),(.bor 9),(.bor 7)]) (.cst .non)) [a0,a1,a2,some (.val (.int c)),a4,some (.val (.lst (Rb.map ofL))),a6,some (.val (.str (ah o))),some (.ownO false (tbl c (sortT (Rb.map sortI)) o) (t.map .int)),some (.own (t.map .int)),some (.val (.int x)),f,h]=some (.bl (fu v)):=by
   rw [vt (x:=v) (ir (vs:=[.val (.lst (Rb.map ofL)),.brw (t.map .int),.val (.str (ah o))]) (by simp [evA,cg]) ev1) (fQ _ _ _),xx]
   rfl
  rw [List.map_cons]
  cases hn:fu v with
  | false =>
   rw [hn] at et
   have e:exs (ac defs (n + 7)) f_ (put [a0,a1,a2,some (.val (.int c)),a4,some (.val (.lst (Rb.map ofL))),a6,some (.val (.str (ah o))),some (.ownO false (tbl c (sortT (Rb.map sortI)) o) (t.map .int)),some (.own (t.map .int)),k,f,h] 10 (.val (.int x)))=.next [a0,a1,a2,some (.val (.int c)),a4,some (.val (.lst (Rb.map ofL))),a6,some (.val (.str (ah o))),some (.ownO false (tbl c (sortT (Rb.map sortI)) o) (t.map .int)),some (.own (t.map .int)),some (.val (.int x)),f,h]:=by
    simp only [aF,aE,f_]
    refine gr ?_
    rw [cO et,if_neg (by decide),exs]
   obtain ⟨t',k',f',h',q1,q2,q3⟩:=pP n c Rb o hc hR hl g a0 a1 a2 a4 a6 cs t (some (.val (.int x))) f h nd ht (by omega)
   exact ⟨t',k',f',h',q1,q2,by rw [cX e,q3]⟩
  | true =>
   rw [hn] at et
   have hw:=hv hn
   obtain ⟨w1,w2⟩:=vF hw
   have hne:frl c t ≠ []:=by
    cases e:lft o 0 (sortT (Rb.map sortI)) t with
    | nil=>exact absurd e w2
    | cons s L =>
     cases s with
     | nil=>rw [e] at w1;exact absurd (List.mem_cons_self) w1
     | cons y s =>
      have ms:(y::s) ∈ lft o 0 (sortT (Rb.map sortI)) t:=by rw [e];exact .head _
      refine List.ne_nil_of_mem (a:=y) (qQ.mpr ⟨qN o (P:=λy=>0 <= y/\y < c) t 0 _ (λts hts z hz=>?_) _ ms y (.head _),λhy=>?_⟩)
      ·obtain ⟨r,hr,rfl⟩:=List.mem_map.mp (bN.mp hts)
       exact (hR r hr).1.m z (dJ.mp hz)
      ·exact nY (R:=[]) o t 0 _ y (.inr hy) _ ms (.head _)
   have em:=jr (n + 6) x 2049848353892358983
   obtain ⟨hh,mh,ep⟩:=Af (ac defs (n + 7)) (frl c t) (kz x 2049848353892358983) hne
   obtain ⟨⟨m0,m1⟩,m2⟩:=qQ.mp mh
   have etk:=z5 (n + 1) c (sortT (Rb.map sortI)) o t hh g hw m0 m1 m2 (by omega)
   have nd':(t ++ [hh]).Nodup:=by
    rw [List.nodup_append]
    exact ⟨nd,by simp,λa ha y hy z=>m2 (by rw [List.mem_singleton.mp hy] at z;exact z ▸ ha)⟩
   have ht':∀ y ∈ t ++ [hh],0 <= y/\y < c:=λy hy=>by
    rcases List.mem_append.mp hy with hy|hy
    ·exact ht y hy
    ·rw [List.mem_singleton.mp hy]
     exact ⟨m0,m1⟩
   have hlt:(t ++ [hh]).length <= 60:=by rw [List.length_append,List.length_singleton];omega
   obtain ⟨sv,hsc⟩:∃ s,sc? (fC (lft o 0 (sortT (Rb.map sortI)) (t ++ [hh]))).pv=some s:=by
    rcases su (lft o 0 (sortT (Rb.map sortI)) (t ++ [hh])) with z|z|z <;> rw [z] <;> exact ⟨_,rfl⟩
   have es:=mJ n c Rb o (t ++ [hh]) hc hR (λy hy=>by have:=ht' y hy;omega) hl hlt a0 a1 a2 a4 a6 (some (.val (.int x))) (some (.val (ofL (frl c t)))) (some (.val (.int hh)))
   have e:exs (ac defs (n + 7)) f_ (put [a0,a1,a2,some (.val (.int c)),a4,some (.val (.lst (Rb.map ofL))),a6,some (.val (.str (ah o))),some (.ownO false (tbl c (sortT (Rb.map sortI)) o) (t.map .int)),some (.own (t.map .int)),k,f,h] 10 (.val (.int x)))=.next [a0,a1,a2,some (.val (.int c)),a4,some (.val (.lst (Rb.map ofL))),a6,some (.val (.str (ah o))),some (.ownO false (tbl c (sortT (Rb.map sortI)) o) ((t ++ [hh]).map .int)),some (.own ((t ++ [hh]).map .int)),some (.val (.int x)),some (.val (ofL (frl c t))),some (.val (.int hh))]:=by
    generalize sortT (Rb.map sortI)=R0 at et etk hsc es
    simp only [aF,aE,f_]
    refine gr ?_
    rw [cO et,if_pos rfl]
    refine vE (xM _ c t hc.1 hc.2 _ _ _ _ _ _ _ _ _ _ _) ?_
    simp only [aF,aE]
    refine vE (ep x _ em rfl rfl) ?_
    simp only [aF,aE]
    refine mF (ρ':=[a0,a1,a2,some (.val (.int c)),a4,some (.val (.lst (Rb.map ofL))),a6,some (.val (.str (ah o))),some (.ownO false (tbl c R0 o) ((t ++ [hh]).map .int)),some (.own (t.map .int)),some (.val (.int x)),some (.val (ofL (frl c t))),some (.val (.int hh))]) ?_ ?_
    ·rw [ex]
     simp only [evs,ev,List.getElem?_cons_succ,List.getElem?_cons_zero,Option.join_some,Option.bind_some,Option.map_some,List.map_cons,List.map_nil,qh,etk,hsc]
     rfl
    refine mF (ρ':=[a0,a1,a2,some (.val (.int c)),a4,some (.val (.lst (Rb.map ofL))),a6,some (.val (.str (ah o))),some (.ownO false (tbl c R0 o) ((t ++ [hh]).map .int)),some (.own ((t ++ [hh]).map .int)),some (.val (.int x)),some (.val (ofL (frl c t))),some (.val (.int hh))]) ?_ ?_
    ·rw [dM (v:=.int hh) (by simp [ev]) rfl (by rw [List.length_map];omega),List.map_append]
     rfl
    refine gr ?_
    rw [cO (p:=false) (by rw [ev,es];rfl),if_neg (by decide),exs]
   obtain ⟨t',k',f',h',q1,q2,q3⟩:=pP n c Rb o hc hR hl g a0 a1 a2 a4 a6 cs (t ++ [hh]) (some (.val (.int x))) (some (.val (ofL (frl c t)))) (some (.val (.int hh))) nd' ht' (by rw [List.length_append,List.length_singleton];omega)
   exact ⟨t',k',f',h',q1,q2,by rw [cX e,q3]⟩
theorem vL (n:Nat) (c:Int) (Rb:List (List Int)) (hc:0 <= c/\c <= 60) (hR:∀ r ∈ Rb,Rib c r/\r ≠ []) (hl:Rb.length <= 60):ac defs (n + 4) 10 [.val (.int c),.val (.lst (Rb.map ofL))]=some (.tup [.int c,ofR (sortT (Rb.map sortI))]):=by
 have hW:(Rb.map λr=>(true,r)).map cu=Rb.map ofL:=by rw [List.map_map];rfl
 have e:=Ad n (.val (.lst (Rb.map ofL))) (.lst (Rb.map ofL)) c (Rb.map λr=>(true,r)) rfl rfl (λ_ z=>by cases z) (by rw [hW];rfl) (by rw [List.length_map];simp) hc.1 hc.2 (λw hw=>by
  obtain ⟨r,hr,rfl⟩:=List.mem_map.mp hw
  obtain ⟨q,q2⟩:=hR r hr
  exact ⟨q.m,q.d,q2,by have:=q.l;show r.length <= 60;omega⟩) (by rw [List.length_map];exact hl)
 rw [e,List.map_map,show Rb.map ((λw:Bool × List Int=>dw w.2) ∘ λr=>(true,r))=Rb.map sortI from List.map_congr_left λr hr=>by
  show sortI (dd r)=sortI r
  rw [qL (hR r hr).1.d]]
theorem Ag {c:Int}{Rb:List (List Int)} (hc:0 <= c/\c <= 60) (hR:∀ r ∈ Rb,Rib c r/\r ≠ []) (hl:Rb.length <= 60):d_ (sortT (Rb.map sortI)):=by
 have h:=oa (R:=Rb) (λr hr x hx=>by have:=(hR r hr).1.m x hx;omega) hl
 unfold pL at h
 rwa [show Rb.map dw=Rb.map sortI from List.map_congr_left λr hr=>by
  show sortI (dd r)=sortI r
  rw [qL (hR r hr).1.d]] at h
theorem Ah (cal:Cal) (way:Int) (h0:0 <= way):∃ o:Bool,∀ ρ:Rho,(ρ[2]?).join=some (.val (.int way))->ev cal (.idx (.lst [(.cst (.str "weaver")),(.cst (.str "moth"))]) (.bin .mod (.bin .fdiv (.bor 2) (.cst (.int 168))) (.cst (.int 2)))) ρ=some (.str (ah o)):=by
 have q0:0 <= way / 168 % 2:=Int.emod_nonneg _ (by decide)
 have q1:way / 168 % 2 < 2:=Int.emod_lt_of_pos _ (by decide)
 have e:∀ ρ:Rho,(ρ[2]?).join=some (.val (.int way))->ev cal (.idx (.lst [(.cst (.str "weaver")),(.cst (.str "moth"))]) (.bin .mod (.bin .fdiv (.bor 2) (.cst (.int 168))) (.cst (.int 2)))) ρ=jW (.lst [.str "weaver",.str "moth"]) (.int (way / 168 % 2)):=λρ q=>vv (by simp [ev,evs]) (by simp [ev,q])
 by_cases c:way / 168 % 2=0
 ·refine ⟨false,λρ q=>?_⟩
  rw [e ρ q,c]
  rfl
 ·refine ⟨true,λρ q=>?_⟩
  rw [e ρ q,show way / 168 % 2=1 by omega]
  rfl
theorem ol (ns:List Int) (b way c many:Int) (Rb:List (List Int)) (hw:0 <= way) (hm:0 <= many/\many <= 20) (hc:0 <= c/\c <= 60) (hR:∀ r ∈ Rb,Rib c r/\r ≠ []) (hl:Rb.length <= 60) :
  ci (exs (ac defs 39) (lG.body.drop 6) [some (.brw (ns.map .int)),some (.val (.int b)),some (.val (.int way)),some (.val (.int c)),some (.val (.int many)),some (.val (.lst (Rb.map ofL))),none,none,none,none,none,none,none])=some (.bl true):=by
 have elm:=vL 35 c Rb hc hR hl
 have g:=Ag hc hR hl
 obtain ⟨o,eh⟩:=Ah (ac defs 39) way hw
 have hcut:(jb ns (some (3 + many)) (some (33 + many))).length <= 30:=by have:=nV ns (a:=3 + many) (b:=33 + many) (by omega) (by omega);omega
 obtain ⟨t',k',f',h',q1,q2,q3⟩:=pP 32 c Rb o hc hR hl g (some (.brw (ns.map .int))) (some (.val (.int b))) (some (.val (.int way))) (some (.val (.int many))) (some (.val (.tup [.int c,ofR (sortT (Rb.map sortI))]))) (jb ns (some (3 + many)) (some (33 + many))) [] none none none .nil (λ_ h=>by cases h) (by simp;omega)
 have es0:=mJ 32 c Rb o [] hc hR (λ_ h=>by cases h) hl (by decide) (some (.brw (ns.map .int))) (some (.val (.int b))) (some (.val (.int way))) (some (.val (.int many))) (some (.val (.tup [.int c,ofR (sortT (Rb.map sortI))]))) none none none
 have es1:=mJ 32 c Rb o t' hc hR (λx hx=>by have:=q1 x hx;omega) hl q2 (some (.brw (ns.map .int))) (some (.val (.int b))) (some (.val (.int way))) (some (.val (.int many))) (some (.val (.tup [.int c,ofR (sortT (Rb.map sortI))]))) k' f' h'
 generalize sortT (Rb.map sortI)=R0 at elm q3 es0 es1
 rw [List.map_nil] at es0 q3
 have h4:ac defs 39 4000 [] ≠ none:=by
  rw [ac]
  decide
 show ci (exs _ [.set 6 _,.set 7 _,.mkO 8 _,.ite _ _ _,.setOwn 9 _,.ite _ _ _,.for1 10 .seq _ _,.ret _] _)=_
 refine gq (v:=.tup [.int c,ofR R0]) (ir (vs:=[.val (.int c),.val (.lst (Rb.map ofL))]) (by simp [evA,cg]) elm) ?_
 simp only [aF,aE]
 refine gq (v:=.str (ah o)) (eh _ rfl) ?_
 simp only [aF,aE]
 refine b8 (ρ':=[some (.brw (ns.map .int)),some (.val (.int b)),some (.val (.int way)),some (.val (.int c)),some (.val (.int many)),some (.val (.lst (Rb.map ofL))),some (.val (.tup [.int c,ofR R0])),some (.val (.str (ah o))),some (.ownO false (tbl c R0 o) []),none,none,none,none]) ?_ ?_
 ·rw [ex,evs,evs]
  show (if rL _ 8=true/\_ then _ else _)=_
  rw [if_pos ⟨rfl,h4⟩]
  rfl
 refine b8 (ρ':=[some (.brw (ns.map .int)),some (.val (.int b)),some (.val (.int way)),some (.val (.int c)),some (.val (.int many)),some (.val (.lst (Rb.map ofL))),some (.val (.tup [.int c,ofR R0])),some (.val (.str (ah o))),some (.ownO false (tbl c R0 o) []),none,none,none,none]) ?_ ?_
 ·rw [cO (p:=(ah o == "weaver")&&(way / 336 % 2 == 1)) (zX (by simp [ev]) λ_=>by simp [ev])]
  split
  ·rename_i z
   have ho:o=false:=by
    cases o with
    | false=>rfl
    | true=>exact absurd (Bool.and_eq_true_iff.mp z).1 (by decide)
   subst ho
   refine gr ?_
   rw [ex,evs]
   show (if rL _ 8=true/\_ then _ else _)=_
   rw [if_pos ⟨rfl,h4⟩]
   rfl
  ·rw [exs]
 refine b8 (gc (xs:=[]) (by simp [ev,evs])) ?_
 simp only [aF,aE]
 refine b8 (by rw [cO (p:=false) (by rw [ev,es0];rfl),if_neg (by decide),exs]) ?_
 refine b8 (ρ':=[some (.brw (ns.map .int)),some (.val (.int b)),some (.val (.int way)),some (.val (.int c)),some (.val (.int many)),some (.val (.lst (Rb.map ofL))),some (.val (.tup [.int c,ofR R0])),some (.val (.str (ah o))),some (.ownO false (tbl c R0 o) (t'.map .int)),some (.own (t'.map .int)),k',f',h']) ?_ ?_
 ·rw [gb (xs:=(jb ns (some (3 + many)) (some (33 + many))).map .int) (by simp [evs,ev,bnd])]
  show (be _ _ (bA [(.slice _ _ _)] _)).back _ _=_
  rw [show ∀ (x y z:ME) (ρ:Rho),bA [(.slice x y z)] ρ=ρ from λ_ _ _ _=>rfl,q3]
  rfl
 exact nW es1
theorem vM (ns:List Int) (hl:ns.length <= 63):ac defs 40 21 [.brw (ns.map .int)]=some (.bl true):=by
 rw [ay (d:=lG) rfl rfl]
 have ec0:=vq 38 (.brw (ns.map .int)) ns 0 rfl (by decide)
 have ec1:=vq 38 (.brw (ns.map .int)) ns 1 rfl (by decide)
 generalize cellOf ns 0=z0 at ec0
 generalize cellOf ns 1=z1 at ec1
 have em0:=jr 38 z0 1442695040888963407
 have em1:=jr 38 z1 1865811235122147685
 have hb0:=fo z0 1442695040888963407
 have hw0:=fo z1 1865811235122147685
 generalize kz z0 1442695040888963407=b at em0 hb0
 generalize kz z1 1865811235122147685=way at em1 hw0
 have c0:0 <= b % 60:=Int.emod_nonneg _ (by decide)
 have c1:b % 60 < 60:=Int.emod_lt_of_pos _ (by decide)
 have m0:0 <= way % 21:=Int.emod_nonneg _ (by decide)
 have m1:way % 21 < 21:=Int.emod_lt_of_pos _ (by decide)
 have hr:∃ f:Int->List Int,∀ x,ac defs 39 17 [.val (.int x),.val (.int (1 + b % 60))]=some (ofL (f x))/\Rib (1 + b % 60) (f x)/\f x ≠ []:=⟨λx=>Classical.choose (oj 37 x (1 + b % 60) (by omega) (by omega)),λx=>Classical.choose_spec (oj 37 x (1 + b % 60) (by omega) (by omega))⟩
 obtain ⟨f,hf⟩:=hr
 have hcut:(jb ns (some 3) (some (3 + way % 21))).length <= 20:=by have:=nV ns (a:=3) (b:=3 + way % 21) (by decide) (by omega);omega
 show ci (exs _ (.set 1 _::.set 2 _::.set 3 _::.set 4 _::.set 5 _::.ite _ _ _::lG.body.drop 6) (some _::[none,none,none,none,none,none,none,none,none,none,none,none]))=_
 refine gq (v:=.int b) (by simp [ev,evA,cg,ec0,em0]) ?_
 simp only [aF,aE]
 refine gq (v:=.int way) (by simp [ev,evA,cg,ec1,em1]) ?_
 simp only [aF,aE]
 refine gq (v:=.int (1 + b % 60)) (by simp [ev]) ?_
 simp only [aF,aE]
 refine gq (v:=.int (way % 21)) (by simp [ev]) ?_
 simp only [aF,aE]
 refine gq (v:=.lst (((jb ns (some 3) (some (3 + way % 21))).map f).map ofL)) ?_ ?_
 ·rw [List.map_map]
  refine dc (vs:=[ofL (jb ns (some 3) (some (3 + way % 21)))]) (xs:=jb ns (some 3) (some (3 + way % 21))) (g:=PV.int) (by simp [evs,ev,bnd]) rfl (by omega) λx _=>?_
  exact ir (vs:=[.val (.int x),.val (.int (1 + b % 60))]) (by simp [evA,cg,cW,cQ]) (hf x).1
 simp only [aF,aE]
 have hite:∀ (c:Int) (Rb:List (List Int)),ev (ac defs 39) (.cmp .eq (.bin .mod (.bin .fdiv (.bor 2) (.cst (.int 21))) (.cst (.int 8))) (.cst (.int 1))) [some (.brw (ns.map .int)),some (.val (.int b)),some (.val (.int way)),some (.val (.int c)),some (.val (.int (way % 21))),some (.val (.lst (Rb.map ofL))),none,none,none,none,none,none,none]=some (.bl (way / 21 % 8 == 1)):=λc Rb=>by simp [ev]
 cases hp:(way / 21 % 8 == 1) with
 | true =>
  refine b8 (ρ':=[some (.brw (ns.map .int)),some (.val (.int b)),some (.val (.int way)),some (.val (.int 0)),some (.val (.int (way % 21))),some (.val (.lst (([]:List (List Int)).map ofL))),none,none,none,none,none,none,none]) ?_ (ol ns b way 0 (way % 21) [] hw0 ⟨m0,by omega⟩ ⟨by decide,by decide⟩ (λ_ h=>by cases h) (by decide))
  rw [cO (hite _ _),hp,if_pos rfl]
  refine vE (v:=.int 0) (by simp [ev]) ?_
  simp only [aF,aE]
  refine gr ?_
  rw [kA (v:=.lst []) (by simp [ev,evs])]
  rfl
 | false =>
  refine b8 ?_ (ol ns b way (1 + b % 60) (way % 21) ((jb ns (some 3) (some (3 + way % 21))).map f) hw0 ⟨m0,by omega⟩ ⟨by omega,by omega⟩ (λr hr=>by
   obtain ⟨x,_,rfl⟩:=List.mem_map.mp hr
   exact (hf x).2) (by rw [List.length_map];omega))
  rw [cO (hite _ _),hp,if_neg (by decide),exs]
noncomputable def top (i:Nat):Stmt:=PySem.Challenge.pw_mothloom_k65_pages_written.main.body.getD i (.Pass ⟨0,0,0,0⟩)
noncomputable def vN:Stmt:=fU (top 28) 0
theorem scI:jg ["self","loom","first"] ["self","loom","first"] (az vN):=⟨rfl,rfl,rfl,by decide +kernel,rfl,by decide +kernel,by decide +kernel⟩
theorem xN {P:Program}{w:World}{K:PySem.W.Frag}{mg:Str->Option Value}{base:Heap}{f C:Addr}{fd:FuncData} (D:FnD K "__init__" "Table.__init__" vN f fd) (c:qJ K C):dQ P w K mg base CX0 1 f fd ["self","loom","first"] (spI K C):=by
 obtain ⟨c0,d0,k0,o0,m0,a0,cdv,t1,a1,sl,lk,hc,rfl⟩:=D.it
 have n0:=c.nf _ (show ("hole_count":Str) ∈ gF by simp [gF])
 have n1:=c.nf _ (show ("ribbons":Str) ∈ gF by simp [gF])
 have n2:=c.nf _ (show ("opener":Str) ∈ gF by simp [gF])
 refine p0 lk hc scI (λvs H Q E h=>?_) (λA outer s H vs Q E hr h=>?_)
 ·obtain ⟨x,dx,la,u,r,o,rfl,_⟩:=h
  rfl
 ·obtain ⟨x,dx,la,u,r,o,rfl,hx,ht,k⟩:=h
  refine ⟨_,de (lP (pv 0) (sX oP (pv 1) om (λ_ _=>rfl)) rfl) (de (lP (pv 0) (sX oP (pv 1) om (λ_ _=>rfl)) rfl) (de (lP (pv 0) (pv 2) rfl) (pQ (lP (pv 0) (lR cn) rfl)))),?_⟩
  have s1:SqT K (upd H x (.ins C dx (dO "hole_count" u []))) la [u,r]:=xw ht hx
  refine ⟨_,rfl,la,_,0,u,rfl,rfl,ht,rfl,_,rfl,x,C,dx,[],rfl,hx,c.cls,n0,(by show 0 < 1000;decide),?_⟩
  refine ⟨_,rfl,la,_,1,r,rfl,rfl,s1,rfl,_,rfl,x,C,dx,_,rfl,aj,c.cls,n1,(by show 1 < 1000;decide),?_⟩
  refine ⟨_,rfl,_,rfl,x,C,dx,_,rfl,aj,c.cls,n2,Nat.lt_of_le_of_lt (ip (ip (Nat.le_refl 0))) (by decide),?_⟩
  refine ⟨Nat.zero_le _,λl hl=>?_⟩
  have nx:l ≠ x:=λz=>by rw [z,aj] at hl;cases hl
  have nl:H l=none:=by rw [af nx,af nx,af nx] at hl;exact hl
  refine ⟨_,rfl,x,C,dx,_,rfl,(by rw [af (Ne.symm nx)];exact aj),c.cls,c.nt,Nat.lt_of_le_of_lt (ip (ip (ip (Nat.le_refl 0)))) (by decide),?_⟩
  refine k l _ nl aj (by rw [af nx,aj]) λb o nb eb=>?_
  rw [af nb,af (aH eb nl),af nb,af nb,af nb]
  exact eb
theorem Ai {l:PySem.W.OpenLaw}{w:World}{K:PySem.W.Frag}{h:Heap}{mg:Str->Option Value}{fa:Addr} (X:K.In h) (G:h.Ns mainGlobals mg) (hfa:mg "law"=some (.ref fa))
  {C fI:Addr}{fdI:FuncData} (aC:PySem.W.nsIn K mainGlobals "Table"=some (some (.ref C))) (pg:PySem.W.plainGet K C Str.empty=true) (hd:PySem.W.hasDictIn K C=true) (po:PySem.W.plainOver K C=true) (sa:PySem.W.findIn K (.ref C) "__setattr__"=some (some (.builtin "object.__setattr__"))) (mk:PySem.W.makesIn K C=true) (kc:PySem.W.keepIn K (.ref C)=true)
  (n0:PySem.W.findIn K (.ref C) "hole_count"=some none) (n1:PySem.W.findIn K (.ref C) "ribbons"=some none) (n2:PySem.W.findIn K (.ref C) "opener"=some none) (n3:PySem.W.findIn K (.ref C) "taken"=some none)
  (ai:PySem.W.findIn K (.ref C) "__init__"=some (some (.ref fI))) (ii:PySem.W.isFn K (.ref fI)=true) (DI:FnD K "__init__" "Table.__init__" vN fI fdI) (bI:bc K fdI ["self","loom","first"] []) (bL:∃ vs,bc K fdI ["self","loom","first"] vs/\au ([Sc.str "weaver"].map Sc.v) vs)
  (h0:HD K "is_number_below" (top 12) aN) (h1:HD K "each_once" (top 13) fM) (h2:HD K "strip_made" (top 14) dB) (h3:HD K "rest_made" (top 15) fN) (h4:HD K "strip_without" (top 16) cz) (h5:HD K "knotted" (top 17) fZ) (h6:HD K "bitten" (top 18) iq) (h7:HD K "is_whole" (top 19) fh) (h8:HD K "is_bare" (top 20) eV) (h9:HD K "check_ribbon" (top 22) ez) (h10:HD K "loom_made" (top 23) fO) (h11:HD K "other_hand" (top 25) dC) (h12:HD K "behind" (top 26) fP) (h13:HD K "row_written" (top 30) eM) (h14:HD K "page_written" (top 31) eA) (h15:HD K "_law_cell" (top 33) fj) (h16:HD K "_law_mixed" (top 34) eG) (h17:HD K "_law_ribbon" (top 35) fk) (h18:HD K "_law_canonical" (top 36) dn) (h19:HD K "_law_won" (top 37) eW) (h20:HD K "_law_text" (top 38) fm) (h21:HD K "law" (top 39) lG λfd=>∀ (s:Shared) (v:Value),BindsTo s fd ⟨[v],[]⟩ [("script",v)]) (h22:HM K C "hand_at" "Table.hand_at" (fU (top 28) 1) bK) (h23:HM K C "deeds" "Table.deeds" (fU (top 28) 4) db) (h24:HM K C "rest" "Table.rest" (fU (top 28) 8) dD) (h25:HM K C "winner" "Table.winner" (fU (top 28) 9) bE) (h26:HM K C "take" "Table.take" (fU (top 28) 10) dE)
  (zs:∀ x ∈ hV,PySem.W.nsIn K mainGlobals x=some none)
  {gv0:Value} (g0:PySem.W.nsIn K mainGlobals "HOLE_COUNT"=some (some gv0)) (r0:aw (toV (.int 60)) gv0)
  {gv1:Value} (g1:PySem.W.nsIn K mainGlobals "MOST_STRIPS"=some (some gv1)) (r1:aw (toV (.int 60)) gv1)
 :∃ fd:FuncData,(∀ (s:Shared) (v:Value),BindsTo s fd ⟨[v],[]⟩ [("script",v)])/\∀ base:Heap,K.In base->base.Ns mainGlobals mg->dQ l.prog w K mg base CX0 40 fa fd ["script"] (spM K (ac defs 40) 21):=by
 obtain ⟨_,e0,D0,q0⟩:=br (T:=tab) X G h0 (by kernel_rfl)
 obtain ⟨_,e1,D1,q1⟩:=br (T:=tab) X G h1 (by kernel_rfl)
 obtain ⟨_,e2,D2,q2⟩:=br (T:=tab) X G h2 (by kernel_rfl)
 obtain ⟨_,e3,D3,q3⟩:=br (T:=tab) X G h3 (by kernel_rfl)
 obtain ⟨_,e4,D4,q4⟩:=br (T:=tab) X G h4 (by kernel_rfl)
 obtain ⟨_,e5,D5,q5⟩:=br (T:=tab) X G h5 (by kernel_rfl)
 obtain ⟨_,e6,D6,q6⟩:=br (T:=tab) X G h6 (by kernel_rfl)
 obtain ⟨_,e7,D7,q7⟩:=br (T:=tab) X G h7 (by kernel_rfl)
 obtain ⟨_,e8,D8,q8⟩:=br (T:=tab) X G h8 (by kernel_rfl)
 obtain ⟨_,e9,D9,q9⟩:=br (T:=tab) X G h9 (by kernel_rfl)
 obtain ⟨_,e10,D10,q10⟩:=br (T:=tab) X G h10 (by kernel_rfl)
 obtain ⟨_,e11,D11,q11⟩:=br (T:=tab) X G h11 (by kernel_rfl)
 obtain ⟨_,e12,D12,q12⟩:=br (T:=tab) X G h12 (by kernel_rfl)
 obtain ⟨_,e13,D13,q13⟩:=br (T:=tab) X G h13 (by kernel_rfl)
 obtain ⟨_,e14,D14,q14⟩:=br (T:=tab) X G h14 (by kernel_rfl)
 obtain ⟨_,e15,D15,q15⟩:=br (T:=tab) X G h15 (by kernel_rfl)
 obtain ⟨_,e16,D16,q16⟩:=br (T:=tab) X G h16 (by kernel_rfl)
 obtain ⟨_,e17,D17,q17⟩:=br (T:=tab) X G h17 (by kernel_rfl)
 obtain ⟨_,e18,D18,q18⟩:=br (T:=tab) X G h18 (by kernel_rfl)
 obtain ⟨_,e19,D19,q19⟩:=br (T:=tab) X G h19 (by kernel_rfl)
 obtain ⟨_,e20,D20,q20⟩:=br (T:=tab) X G h20 (by kernel_rfl)
 obtain ⟨_,e21,D21,q21⟩:=br (T:=tab) X G h21 (by kernel_rfl)
 obtain ⟨_,e22,D22⟩:=ik (T:=tab) (mg:=mg) aC h22 (by kernel_rfl)
 obtain ⟨_,e23,D23⟩:=ik (T:=tab) (mg:=mg) aC h23 (by kernel_rfl)
 obtain ⟨_,e24,D24⟩:=ik (T:=tab) (mg:=mg) aC h24 (by kernel_rfl)
 obtain ⟨_,e25,D25⟩:=ik (T:=tab) (mg:=mg) aC h25 (by kernel_rfl)
 obtain ⟨_,e26,D26⟩:=ik (T:=tab) (mg:=mg) aC h26 (by kernel_rfl)
 have nm:=(D21.named.resolve_right λ⟨_,z,_⟩=>by cases z).2
 cases hfa.symm.trans nm
 have pr:zE tab K mg defs:=by
  refine ⟨rfl,rfl,λC' h'=>zG aC ⟨⟨pg,hd,po,sa⟩,λx hx=>ya n0 n1 n2 x hx,n3⟩ h',⟨C,aC,PySem.W.mg_of X G aC,fI,fdI,_,⟨mk,ai,ii,kc⟩,bI,λP w base=>xN DI ⟨⟨pg,hd,po,sa⟩,λx hx=>ya n0 n1 n2 x hx,n3⟩,bL⟩,⟨⟨_,_,_,D0,_,D0.binds,.nil⟩,⟨_,_,_,D1,_,D1.binds,.nil⟩,⟨_,_,_,D2,_,D2.binds,.nil⟩,⟨_,_,_,D3,_,D3.binds,.nil⟩,⟨_,_,_,D4,_,D4.binds,.nil⟩,⟨_,_,_,D5,_,D5.binds,.nil⟩,⟨_,_,_,D6,_,D6.binds,.nil⟩,⟨_,_,_,D7,_,D7.binds,.nil⟩,⟨_,_,_,D8,_,D8.binds,.nil⟩,⟨_,_,_,D9,_,D9.binds,.nil⟩,⟨_,_,_,D10,_,D10.binds,.nil⟩,⟨_,_,_,D11,_,D11.binds,.nil⟩,⟨_,_,_,D12,_,D12.binds,.nil⟩,⟨_,_,_,D13,_,D13.binds,.nil⟩,⟨_,_,_,D14,_,D14.binds,.nil⟩,⟨_,_,_,D15,_,D15.binds,.nil⟩,⟨_,_,_,D16,_,D16.binds,.nil⟩,⟨_,_,_,D17,_,D17.binds,.nil⟩,⟨_,_,_,D18,_,D18.binds,.nil⟩,⟨_,_,_,D19,_,D19.binds,.nil⟩,⟨_,_,_,D20,_,D20.binds,.nil⟩,⟨_,_,_,D21,_,D21.binds,.nil⟩,⟨_,_,_,D22,_,D22.binds,.nil⟩,⟨_,_,_,D23,_,D23.binds,.nil⟩,⟨_,_,_,D24,_,D24.binds,.nil⟩,⟨_,_,_,D25,_,D25.binds,.nil⟩,⟨_,_,_,D26,_,D26.binds,.nil⟩,trivial⟩,λx hx=>PySem.W.mg_none_of X G (zs x hx),λp hp=>?_⟩
  ·simp only [tab,List.mem_cons,List.not_mem_nil,or_false] at hp
   rcases hp with rfl|rfl
   ·exact ⟨_,PySem.W.mg_of X G g0,r0⟩
   ·exact ⟨_,PySem.W.mg_of X G g1,r1⟩
 exact ⟨e21,q21,λbase _ _=>BF (by decide) pr 40 21 lG rfl _ _ _ D21⟩
theorem C2 {l:PySem.W.OpenLaw}{q:Program}{loose:List Str}{XP:(Str->Option Value)->Heap->Prop}{YP:World->Heap->Prop}{d:DefRec}{K:Params->PySem.W.Frag} (hn:l.most=some 63) (hdf:d.params.defaults=[])
  (hY:∀ (w:World) (h:Heap),YP w h->(K w.params).In h)
  (F:∀ (w:World) (mg:Str->Option Value) (fa:Addr) (h:Heap),(K w.params).In h->h.Ns mainGlobals mg->mg d.name=some (.ref fa) ->
   ∃ fd:FuncData,(∀ (s:Shared) (u:Value),BindsTo s fd ⟨[u],[]⟩ [("script",u)])/\∀ base:Heap,(K w.params).In base->base.Ns mainGlobals mg->dQ l.prog w (K w.params) mg base CX0 40 fa fd ["script"] (spM (K w.params) (ac defs 40) 21)) :
  PySem.W.WalkO q loose XP YP l.row.toRowW d [] (λf vs=>PySem.call f vs) :=
 L2.wo (n:=63) (k:=40) (x:="script") (CX:=λ_=>CX0) (sp:=λw=>spM (K w.params) (ac defs 40) 21) hn (by decide) hdf ⟨rfl,by decide,by decide⟩ hY F (λ_ _ a ns hl _ hS=>zH (vM ns hl) hS) λ_ _ _ _ _ z=>z
end My
open PySem PySem.W PyProof.Rows
set_option maxRecDepth 100000 in
set_option maxHeartbeats 0 in
theorem PySem.Challenge.cw_mothloom_k65_pages_written_holds : PySem.Challenge.rw_mothloom_k65_pages_written.Holds := by
 w_on;o_law;k_head;(case hw=>w_witness2)
 k_fill
 refine My.C2 (l:=PySem.Challenge.rw_mothloom_k65_pages_written) rfl rfl (λw h Y=>PySem.W.kIn_of Y) ?F
 case F =>
  intro w mg fa h KX G hmg
  refine' My.Ai KX G hmg ?aC ?pg ?hd ?po ?sa ?mk ?kc ?n0 ?n1 ?n2 ?n3 ?ai ?ii ?DI ?bI ?bL ?h0 ?h1 ?h2 ?h3 ?h4 ?h5 ?h6 ?h7 ?h8 ?h9 ?h10 ?h11 ?h12 ?h13 ?h14 ?h15 ?h16 ?h17 ?h18 ?h19 ?h20 ?h21 ?h22 ?h23 ?h24 ?h25 ?h26 ?zs ?gq0 ?rq0 ?gq1 ?rq1
  (case aC=>k_is)
  (case pg=>k_is)
  (case hd=>k_is)
  (case po=>k_is)
  (case sa=>k_is)
  (case mk=>k_is)
  (case kc=>k_is)
  (case n0=>k_is)
  (case n1=>k_is)
  (case n2=>k_is)
  (case n3=>k_is)
  (case ai=>k_is)
  (case ii=>k_is)
  (case DI=>refine' .mkd ?kl ?kc ?kk;(case kl=>k_is);(case kc=>k_is);(case kk=>k_is))
  (case bI=>refine' MM.pD rfl ?kx ?ky;(case kx=>k_is);(case ky=>exact λus hl=>match us,hl with|[_,_,_],_=>⟨_,rfl,rfl⟩))
  (case bL=>refine' MM.xu rfl ?ku ?kw;(case ku=>k_is);(case kw=>exact λus hl=>match us,hl with|[_,_],_=>⟨_,rfl,rfl⟩))
  (case h0|h4|h5|h6|h9|h10|h13|h15|h16|h17|h20=>refine' ⟨rfl,_,_,?ka,.mk' (d0:=.none) ?kl ?kc ?kk,MM.bn2 λ_ _=>rfl,trivial⟩;(case ka=>k_is);(case kl=>k_is);(case kc=>k_is);(case kk=>k_is))
  (case h1|h2|h3|h7|h8|h11|h14=>refine' ⟨rfl,_,_,?ka,.mk' (d0:=.none) ?kl ?kc ?kk,MM.bn1 λ_=>rfl,trivial⟩;(case ka=>k_is);(case kl=>k_is);(case kc=>k_is);(case kk=>k_is))
  (case h12|h19=>refine' ⟨rfl,_,_,?ka,.mk' (d0:=.none) ?kl ?kc ?kk,MM.bn3 λ_ _ _=>rfl,trivial⟩;(case ka=>k_is);(case kl=>k_is);(case kc=>k_is);(case kk=>k_is))
  (case h18=>refine' ⟨rfl,_,_,?ka,.mk' (d0:=.none) ?kl ?kc ?kk,MM.bn4 λ_ _ _ _=>rfl,trivial⟩;(case ka=>k_is);(case kl=>k_is);(case kc=>k_is);(case kk=>k_is))
  (case h21=>refine' ⟨rfl,_,_,?ka,.mk' (d0:=.none) ?kl ?kc ?kk,MM.bn1 λ_=>rfl,λs v=>.of_eq rfl⟩;(case ka=>k_is);(case kl=>k_is);(case kc=>k_is);(case kk=>k_is))
  (case h22=>refine' ⟨rfl,rfl,_,_,⟨?ka,?ki,?ku⟩,.mk' (d0:=.none) ?kl ?kc ?kk,MM.bn2 λ_ _=>rfl⟩;(case ka=>k_is);(case ki=>k_is);(case ku=>k_is);(case kl=>k_is);(case kc=>k_is);(case kk=>k_is))
  (case h23=>refine' ⟨rfl,rfl,_,_,⟨?ka,?ki,?ku⟩,.mk' (d0:=.none) ?kl ?kc ?kk,MM.bn1 λ_=>rfl⟩;(case ka=>k_is);(case ki=>k_is);(case ku=>k_is);(case kl=>k_is);(case kc=>k_is);(case kk=>k_is))
  (case h24=>refine' ⟨rfl,rfl,_,_,⟨?ka,?ki,?ku⟩,.mk' (d0:=.none) ?kl ?kc ?kk,MM.bn1 λ_=>rfl⟩;(case ka=>k_is);(case ki=>k_is);(case ku=>k_is);(case kl=>k_is);(case kc=>k_is);(case kk=>k_is))
  (case h25=>refine' ⟨rfl,rfl,_,_,⟨?ka,?ki,?ku⟩,.mk' (d0:=.none) ?kl ?kc ?kk,MM.bn1 λ_=>rfl⟩;(case ka=>k_is);(case ki=>k_is);(case ku=>k_is);(case kl=>k_is);(case kc=>k_is);(case kk=>k_is))
  (case h26=>refine' ⟨rfl,rfl,_,_,⟨?ka,?ki,?ku⟩,.mk' (d0:=.none) ?kl ?kc ?kk,MM.bn2 λ_ _=>rfl⟩;(case ka=>k_is);(case ki=>k_is);(case ku=>k_is);(case kl=>k_is);(case kc=>k_is);(case kk=>k_is))
  (case zs=>intro x hx;simp only [MM.hV,List.mem_cons,List.not_mem_nil,or_false] at hx;rcases hx with rfl|rfl|rfl|rfl|rfl|rfl|rfl|rfl|rfl|rfl|rfl|rfl|rfl|rfl|rfl|rfl|rfl <;> k_is)
  (case gq0=>k_is);(case rq0=>exact ⟨_,rfl⟩)
  (case gq1=>k_is);(case rq1=>exact ⟨_,rfl⟩)
