import PyProof.Rows.All
import Wide.All
import OpenK.AllK
import Wide.FinOn
import Lean
import PyProof.EqAt
import PyProof.EqKinds
import PyProof.TupleCall
import PySem.Challenge.RW_mothloom_k58_whole_rows_of_threats
set_option Elab.async false
set_option linter.all false
set_option maxRecDepth 100000
set_option genSizeOf false
set_option backward.eqns.nonrecursive false
set_option bootstrap.genMatcherCode false
namespace L2
open PySem PySem.Spec PyProof.Rows
noncomputable abbrev Key:=Sum Int Str
noncomputable def ly:Key->Value->Bool
 | .inl k,v=>Value.isInt k v
 | .inr x,v=>Value.isStrOf x v
noncomputable def CH (w:World):Key->Int
 | .inl k=>hashInt k
 | .inr x=>hashStr w x
theorem bf:∀ {k:Key}{v:Value},ly k v=true->(∃ i t,k=Sum.inl i/\v=Value.int i t) \/ (∃ x t,k=Sum.inr x/\v=Value.str x t)
 | .inl i,v,h=>by
  obtain ⟨t,e⟩:=Value.isInt_shape (k:=i) (v:=v) h
  exact .inl ⟨i,t,rfl,e⟩
 | .inr x,v,h=>by
  obtain ⟨t,e⟩:=Value.isStrOf_shape (x:=x) (v:=v) h
  exact .inr ⟨x,t,rfl,e⟩
theorem rf (i:Int) (t:Tok):ly (.inl i) (.int i t)=true:=by simp [ly,Value.isInt]
theorem rg (x:Str) (t:Tok):ly (.inr x) (.str x t)=true:=by simp [ly,Value.isStrOf]
theorem yn (a b:Int):decide ((Sum.inl a:Key)=Sum.inl b)=(a == b):=by
 by_cases e:a=b
 ·subst e;simp
 ·have h:¬ (Sum.inl a:Key)=Sum.inl b:=λq=>e (Sum.inl.inj q)
  rw [decide_eq_false h]
  exact (beq_eq_false_iff_ne.mpr e).symm
theorem yo (a b:Str):decide ((Sum.inr a:Key)=Sum.inr b)=decide (a=b):=by
 by_cases e:a=b
 ·subst e;simp
 ·have h:¬ (Sum.inr a:Key)=Sum.inr b:=λq=>e (Sum.inr.inj q)
  rw [decide_eq_false h,decide_eq_false e]
theorem yp (a:Int) (b:Str):decide ((Sum.inl a:Key)=Sum.inr b)=false:=decide_eq_false (λq=>nomatch q)
theorem yq (a:Str) (b:Int):decide ((Sum.inr a:Key)=Sum.inl b)=false:=decide_eq_false (λq=>nomatch q)
noncomputable def br (prog:Program) (w:World):PySem.KeyKind prog w Key where
 is:=ly
 hash:=CH w
 inj:=λv a b ha hb=>by
  rcases bf ha with ⟨i,t,rfl,rfl⟩|⟨x,t,rfl,rfl⟩
  ·rcases bf hb with ⟨j,u,rfl,e⟩|⟨y,u,rfl,e⟩
   ·injection e with e1 _;rw [e1]
   ·exact nomatch e
  ·rcases bf hb with ⟨j,u,rfl,e⟩|⟨y,u,rfl,e⟩
   ·exact nomatch e
   ·injection e with e1 _;rw [e1]
 byValue:=λk v h=>by
  rcases bf h with ⟨i,t,rfl,rfl⟩|⟨x,t,rfl,rfl⟩ <;> rfl
 pyHash:=λhv h=>by
  rcases bf hv with ⟨i,t,rfl,rfl⟩|⟨x,t,rfl,rfl⟩
  ·exact wpAny_pyHash_int h
  ·exact wpAny_pyHash_str h
 eqBool:=λhu hv h=>by
  rcases bf hu with ⟨i,t,rfl,rfl⟩|⟨x,t,rfl,rfl⟩
  ·rcases bf hv with ⟨j,u,rfl,rfl⟩|⟨y,u,rfl,rfl⟩
   ·rw [yn] at h;exact wpAny_eqBool_int h
   ·rw [yp] at h;exact SeqAt.EqAt.int_str i t y u _ _ _ _ h
  ·rcases bf hv with ⟨j,u,rfl,rfl⟩|⟨y,u,rfl,rfl⟩
   ·rw [yq] at h;exact SeqAt.EqAt.str_int x t j u _ _ _ _ h
   ·rw [yo] at h;exact wpAny_eqBool_str h
 «strs»:=λk x t v h=>by
  rcases bf h with ⟨i,u,rfl,e⟩|⟨y,u,rfl,e⟩
  ·exact nomatch e
  ·injection e with e1 _
   subst e1
   cases v <;> rfl
theorem nu (prog:Program) (w:World) (i:Int) (t:Tok):(br prog w).is (.inl i) (.int i t)=true:=rf i t
theorem nv (prog:Program) (w:World) (x:Str) (t:Tok):(br prog w).is (.inr x) (.str x t)=true:=rg x t
end L2
namespace L2
open PySem PySem.Spec PyProof.Rows
inductive V where
 | non|bl (b:Bool)|int (i:Int)|str (x:Str)|byt (b:Array UInt8)|flt (b:UInt64)|ref (a:Addr)|ty (n:String)
 deriving DecidableEq
noncomputable def aq:V->Value->Prop
 | .non,u=>u=Value.none
 | .bl b,u=>u=Value.bool b
 | .int i,u=>∃ t,u=Value.int i t
 | .str x,u=>∃ t,u=Value.str x t
 | .byt b,u=>∃ t,u=Value.bytes b t
 | .flt b,u=>∃ t,u=Value.float b t
 | .ref a,u=>u=Value.ref a
 | .ty n,u=>u=Value.type n
noncomputable abbrev ar:List V->List Value->Prop:=Paired aq
theorem ar.length {xs:List V}{us:List Value} (r:ar xs us):xs.length=us.length:=Paired.length r
theorem ar.get:∀ {xs:List V}{us:List Value}{i:Nat}{x:V},ar xs us->xs[i]?=some x->∃ u,us[i]?=some u/\aq x u
 | _,_,_,_,.nil,e=>by simp at e
 | _,_,0,_,.cons r _,e=>by simp at e;subst e;exact ⟨_,rfl,r⟩
 | _,_,i + 1,x,.cons _ t,e=>by
  obtain ⟨u,h1,h2⟩:=ar.get (i:=i) (x:=x) t (by simpa using e)
  exact ⟨u,by simpa using h1,h2⟩
theorem ar.set {x:V}{u:Value} (r:aq x u):∀ {xs:List V}{us:List Value} (i:Nat),ar xs us->ar (xs.set i x) (us.set i u)
 | _,_,_,.nil=>.nil
 | _,_,0,.cons _ t=>.cons r t
 | _,_,i + 1,.cons q t=>.cons q (ar.set r i t)
theorem ar.append:∀ {xs ys:List V}{us ws:List Value},ar xs us->ar ys ws->ar (xs ++ ys) (us ++ ws)
 | _,_,_,_,.nil,s=>s
 | _,_,_,_,.cons r t,s=>.cons r (ar.append t s)
theorem ar.take:∀ {xs:List V}{us:List Value} (n:Nat),ar xs us->ar (xs.take n) (us.take n)
 | _,_,0,_=>.nil
 | _,_,_ + 1,.nil=>.nil
 | _,_,n + 1,.cons r t=>.cons r (ar.take n t)
theorem ar.drop:∀ {xs:List V}{us:List Value} (n:Nat),ar xs us->ar (xs.drop n) (us.drop n)
 | _,_,0,r=>r
 | _,_,_ + 1,.nil=>.nil
 | _,_,n + 1,.cons _ t=>ar.drop n t
noncomputable def jy:Option V->Option Value->Prop
 | some v,some u=>aq v u
 | none,none=>True
 | _,_=>False
noncomputable def KV {κ:Type}:List (κ × V)->List (κ × Value)->Prop:=Paired λ(p:κ × V) (q:κ × Value)=>p.1=q.1/\aq p.2 q.2
noncomputable def kV:Key->V
 | .inl i=>.int i
 | .inr x=>.str x
inductive HO where
 | lst (xs:List V)
 | tup (xs:List V)
 | dK (kvs:List (Key × V))|dT (kvs:List (List Key × V))
 | set (S:Int->Bool) (n:Nat)
 | ins (C dx:Addr) (fs:List (Str × V))
 | own (x:Addr)
 | xd (fs:List (Str × V))
 | met (f x:Addr)
 | rng (lo hi:Int)
 | frz (o:Obj) (u:HO)
 | tbl (ps:Array Value)
 | ext (φ:Heap->Prop)
noncomputable abbrev Hp:=Addr->Option HO
noncomputable def upd (H:Hp) (a:Addr) (o:HO):Hp:=λb=>if b=a then some o else H b
theorem ay {H:Hp}{a:Addr}{o:HO}:upd H a o a=some o:=by unfold upd;rw [if_pos rfl]
theorem aW {H:Hp}{a b:Addr}{o:HO} (h:b ≠ a):upd H a o b=H b:=by unfold upd;rw [if_neg h]
theorem AK {H:Hp}{a b:Addr}{o u:HO} (h:H a=some o) (h':H b=some u) (d:o ≠ u):a ≠ b:=by
 intro e;subst e;rw [h] at h';exact d (Option.some.inj h')
theorem bx {H:Hp}{a b:Addr}{o:HO} (h:H a=some o) (h':H b=none):a ≠ b:=by
 intro e;subst e;rw [h] at h';cases h'
section
variable (P:Program) (w:World)
noncomputable def aV (H:Hp) (h:Heap) (a:Addr):HO->Prop
 | .lst xs=>xs.length <= sizeLine/\∃ (its:List Value) (n:Nat),ar xs its/\h.get? a=some { cls:=.type "list",data:=.seq its.toArray n }
 | .tup xs=>xs.length <= sizeLine/\∃ its:List Value,ar xs its/\IsTup h a its.toArray
 | .dK kvs=>kvs.length <= sizeLine/\(a == sysModules)=false/\∃ vs,KV kvs vs/\h.DictOf (br P w) a vs
 | .dT kvs=>kvs.length <= sizeLine/\(a == sysModules)=false/\∃ xs:List (List Key × Addr × Value),
   Paired (λ(p:List Key × V) (q:List Key × Addr × Value)=>p.1=q.1/\H q.2.1=some (.tup (p.1.map kV))/\aq p.2 q.2.2) kvs xs /\
   ∃ o es ep,h.get? a=some o/\o.ExactDict/\o.data=.dict es ep/\es.toList=xs.map (entryOfKey (tupleKind (br P w)))/\(xs.map (·.1)).Nodup
 | .set S n=>h.SetOf (intKind P w) a S n
 | .ins C dx fs=>H dx=some (.own a)/\fs.length <= 1000/\dx ≠ a/\h.get? a=some (PySem.W.instObj C dx) /\
   ∃ mA,h.Ns1 dx mA/\(∀ f,jy (fs.lookup f) (mA f))/\PySem.Within mA (fs.map (·.1))
 | .own _=>∃ o,h.get? a=some o
 | .xd fs=>∃ mA,h.Ns1 a mA/\∀ f,jy (fs.lookup f) (mA f)
 | .rng lo hi=>∃ t u v,h.get? a=some { cls:=.type "range",data:=.fields #[.int lo t,.int hi u,.int 1 v] }
 | .frz o u=>h.get? a=some o/\aV H h a u
 | .tbl ps=>h.get? a=some { cls:=.none,data:=.fields ps }
 | .met f x=>h.get? a=some (PySem.W.methodObj (.ref f) (.ref x))
 | .ext φ=>φ h/\(∃ o,h.get? a=some o)/\∀ h1 h2:Heap,φ h1->(∀ o,h1.get? a=some o->h2.get? a=some o)->φ h2
noncomputable def HOk (H:Hp) (h:Heap):Prop:=∀ a o,H a=some o->aV P w H h a o
end
section
variable {P:Program}{w:World}{H H':Hp}{h h':Heap}{a:Addr}{o:HO}
theorem aV.lt (x:aV P w H h a o):a < h.objs.size:=by
 cases o with
 | lst xs=>obtain ⟨_,_,_,_,e⟩:=x;exact Heap.lt_size e
 | tup xs=>obtain ⟨_,_,_,p⟩:=x;exact p.lt
 | dK kvs=>obtain ⟨_,_,_,_,o,_,_,e,_⟩:=x;exact Heap.lt_size e
 | dT kvs=>obtain ⟨_,_,_,_,o,_,_,e,_⟩:=x;exact Heap.lt_size e
 | set S n=>obtain ⟨o,_,_,_,e,_⟩:=x;exact Heap.lt_size e
 | ins C dx fs=>obtain ⟨_,_,_,e,_⟩:=x;exact Heap.lt_size e
 | own y=>obtain ⟨_,e⟩:=x;exact Heap.lt_size e
 | xd fs=>obtain ⟨_,⟨_,_,_,e,_⟩,_⟩:=x;exact Heap.lt_size e
 | rng lo hi=>obtain ⟨_,_,_,e⟩:=x;exact Heap.lt_size e
 | frz ob u=>obtain ⟨e,_⟩:=x;exact Heap.lt_size e
 | tbl ps=>exact Heap.lt_size (show h.get? a=some _ from x)
 | met f y=>exact Heap.lt_size (show h.get? a=some _ from x)
 | ext φ=>obtain ⟨_,⟨_,e⟩,_⟩:=x;exact Heap.lt_size e
theorem Paired.mapP {α β:Type}{F G:α->β->Prop}:∀ {l₁:List α}{l₂:List β},Paired F l₁ l₂->(∀ a b,F a b->G a b)->Paired G l₁ l₂
 | _,_,.nil,_=>.nil
 | _,_,.cons r t,f=>.cons (f _ _ r) (Paired.mapP t f)
theorem aV.stay (x:aV P w H h a o) (k:∀ b u,(b=a \/ H b=some (.own a))->h.get? b=some u->h'.get? b=some u)
  (ho:∀ b,H b=some (.own a)->H' b=some (.own a)) (ht:∀ b xs,H b=some (.tup xs)->H' b=some (.tup xs)):aV P w H' h' a o:=by
 induction o with
 | lst xs=>obtain ⟨z,its,n,r,e⟩:=x;exact ⟨z,its,n,r,k _ _ (.inl rfl) e⟩
 | tup xs=>obtain ⟨z,its,r,ob,e,c⟩:=x;exact ⟨z,its,r,ob,k _ _ (.inl rfl) e,c⟩
 | dK kvs=>obtain ⟨z,y,vs,r,ob,es,ep,e,c⟩:=x;exact ⟨z,y,vs,r,ob,es,ep,k _ _ (.inl rfl) e,c⟩
 | dT kvs =>
  obtain ⟨z,y,xs,r,ob,es,ep,e,c⟩:=x
  exact ⟨z,y,xs,Paired.mapP r λp q z=>⟨z.1,ht _ _ z.2.1,z.2.2⟩,ob,es,ep,k _ _ (.inl rfl) e,c⟩
 | set S n=>obtain ⟨ob,es,ep,t,e,c⟩:=x;exact ⟨ob,es,ep,t,k _ _ (.inl rfl) e,c⟩
 | ins C dx fs =>
  obtain ⟨d,z,ne,e,mA,⟨od,es,ep,e2,c⟩,r⟩:=x
  exact ⟨ho _ d,z,ne,k _ _ (.inl rfl) e,mA,⟨od,es,ep,k _ _ (.inr d) e2,c⟩,r⟩
 | own y=>obtain ⟨ob,e⟩:=x;exact ⟨ob,k _ _ (.inl rfl) e⟩
 | xd fs=>obtain ⟨mA,⟨od,es,ep,e,c⟩,r⟩:=x;exact ⟨mA,⟨od,es,ep,k _ _ (.inl rfl) e,c⟩,r⟩
 | rng lo hi=>obtain ⟨t,u,v,e⟩:=x;exact ⟨t,u,v,k _ _ (.inl rfl) e⟩
 | frz ob u ih=>obtain ⟨e,q⟩:=x;exact ⟨k _ _ (.inl rfl) e,ih q⟩
 | tbl ps =>
  have e:h.get? a=some { cls:=.none,data:=.fields ps }:=x
  show h'.get? a=some { cls:=.none,data:=.fields ps }
  exact k a _ (.inl rfl) e
 | met f y =>
  have e:h.get? a=some (PySem.W.methodObj (.ref f) (.ref y)):=x
  show h'.get? a=some (PySem.W.methodObj (.ref f) (.ref y))
  exact k a _ (.inl rfl) e
 | ext φ=>obtain ⟨p,⟨o,e⟩,st⟩:=x;exact ⟨st _ _ p λo q=>k _ _ (.inl rfl) q,⟨o,k _ _ (.inl rfl) e⟩,st⟩
theorem HOk.lt (x:HOk P w H h) (e:H a=some o):a < h.objs.size:=(x a o e).lt
theorem HOk.fresh (x:HOk P w H h) (e:h.objs.size <= a):H a=none:=by
 cases q:H a with
 | none=>rfl
 | some u=>exact absurd (Nat.lt_of_lt_of_le (x.lt q) e) (Nat.lt_irrefl _)
theorem HOk.kept (x:HOk P w H h) (k:∀ b u,h.get? b=some u->h'.get? b=some u):HOk P w H h':=λa o e =>
 (x a o e).stay (λb u _ q=>k b u q) (λ_ q=>q) λ_ _ q=>q
theorem HOk.laid (x:HOk P w H h) (k:∀ b u,h.get? b=some u->h'.get? b=some u) (hp:h.objs.size <= a) (new:aV P w (upd H a o) h' a o):HOk P w (upd H a o) h':=λb u e=>by
 have hn:=x.fresh hp
 by_cases hb:b=a
 ·subst hb;rw [ay] at e;cases e;exact new
 ·rw [aW hb] at e
  exact (x b u e).stay (λc v _ q=>k c v q) (λc q=>by rw [aW (bx q hn)];exact q) λc xs q=>by rw [aW (bx q hn)];exact q
end
noncomputable def Rd (H:Hp) (a:Addr) (u:HO):Prop:=H a=some u \/ ∃ o,H a=some (.frz o u)
theorem Rd.ok {P:Program}{w:World}{H:Hp}{h:Heap}{a:Addr}{u:HO} (r:Rd H a u) (x:HOk P w H h):aV P w H h a u:=by
 rcases r with r|⟨o,r⟩
 ·exact x a u r
 ·obtain ⟨_,q⟩:=x a _ r
  exact q
noncomputable def Mut:Option HO->Prop
 | some (.lst _)=>True
 | some (.dK _)=>True
 | some (.dT _)=>True
 | some (.set _ _)=>True
 | some (.ins _ _ _)=>True
 | some (.ext _)=>True
 | _=>False
section
variable {P:Program}{w:World}{H:Hp}{h h':Heap}{x e:Addr}{o':HO}
theorem HOk.write (ok:HOk P w H h) (mu:Mut (H x)) (he:e=x \/ H e=some (.own x)) (k:∀ b u,b ≠ e->h.get? b=some u->h'.get? b=some u) (heo:∃ u,h'.get? e=some u)
  (new:aV P w (upd H x o') h' x o'):HOk P w (upd H x o') h':=λb u q=>by
 have nown:∀ c y,H c=some (.own y)->c ≠ x:=λc y r z=>by subst z;rw [r] at mu;exact mu
 have ntup:∀ c xs,H c=some (.tup xs)->c ≠ x:=λc xs r z=>by subst z;rw [r] at mu;exact mu
 by_cases hb:b=x
 ·subst hb;rw [ay] at q;cases q;exact new
 ·rw [aW hb] at q
  by_cases hbe:b=e
  ·have q':H b=some (.own x):=by
    rcases he with z|z
    ·exact absurd (hbe.trans z) hb
    ·rw [hbe];exact z
   rw [q] at q';cases q'
   obtain ⟨v,hv⟩:=heo
   exact ⟨v,by rw [hbe];exact hv⟩
  ·refine (ok b u q).stay (λc v hc r=>k c v ?_ r) (λc r=>by rw [aW (nown c b r)];exact r) λc xs r=>by rw [aW (ntup c xs r)];exact r
   rcases hc with rfl|hc
   ·exact hbe
   ·rintro rfl
    rcases he with z|z
    ·exact nown c b hc z
    ·rw [hc] at z;cases z;exact hb rfl
end
structure Un (fs ex:List Addr) (H H':Hp) (h h':Heap):Prop where
 keep:∀ b o,h.get? b=some o->H b=none->b ∉ fs->b ∉ ex->h'.get? b=some o
 slot:∀ b o,h.get? b=some o->H b=none->b ∈ fs->b ∉ ex->∃ sl,h'.get? b=some { o with slots:=sl }
 free:∀ b o,h.get? b=some o->H b=none->b ∉ ex->H' b=none
 there:∀ b o,h.get? b=some o->b ∉ ex->∃ o',h'.get? b=some o'
 tups:∀ b xs,H b=some (.tup xs)->H' b=some (.tup xs)
 frzs:∀ b o u,H b=some (.frz o u)->H' b=some (.frz o u)
 tbls:∀ b ps,H b=some (.tbl ps)->∃ more,H' b=some (.tbl (ps ++ more))
section
variable {fs fs' ex ex':List Addr}{H H1 H2:Hp}{h h1 h2 h':Heap}{a x e:Addr}{o:HO}
theorem Un.any (u:Un fs ex H H1 h h1) {b:Addr}{ob:Obj} (q:h.get? b=some ob) (n:H b=none) (hx:b ∉ ex):∃ sl,h1.get? b=some { ob with slots:=sl }:=by
 by_cases hb:b ∈ fs
 ·exact u.slot b ob q n hb hx
 ·exact ⟨ob.slots,u.keep b ob q n hb hx⟩
theorem Un.kept (k:∀ b u,h.get? b=some u->h'.get? b=some u):Un fs ex H H h h' :=
 ⟨λb ob q _ _ _=>k b ob q,λb ob q _ _ _=>⟨ob.slots,k b ob q⟩,λ_ _ _ n _=>n,λb ob q _=>⟨ob,k b ob q⟩,λ_ _ q=>q,λ_ _ _ q=>q,λ_ ps q=>⟨#[],by rw [q];simp⟩⟩
theorem Un.refl:Un fs ex H H h h:=Un.kept λ_ _ q=>q
theorem Un.laid (k:∀ b u,h.get? b=some u->h'.get? b=some u) (hp:h.objs.size <= a) (hn:H a=none):Un fs ex H (upd H a o) h h' where
 keep:=λb u q _ _ _=>k b u q
 slot:=λb u q _ _ _=>⟨u.slots,k b u q⟩
 free:=λb u q n _=>by rw [aW (Nat.ne_of_lt (Nat.lt_of_lt_of_le (Heap.lt_size q) hp))];exact n
 there:=λb u q _=>⟨u,k b u q⟩
 tups:=λb xs q=>by rw [aW (bx q hn)];exact q
 frzs:=λb u xs q=>by rw [aW (bx q hn)];exact q
 tbls:=λb ps q=>⟨#[],by rw [aW (bx q hn),q];simp⟩
theorem Un.write (mu:Mut (H x)) (he:e=x \/ H e=some (.own x)) (k:∀ b u,b ≠ e->h.get? b=some u->h'.get? b=some u) (heo:∃ u,h'.get? e=some u):Un fs ex H (upd H x o) h h':=by
 have hx:∀ b,H b=none->b ≠ x:=λb n z=>by subst z;rw [n] at mu;exact mu
 have hb:∀ b,H b=none->b ≠ e:=λb n z=>by
  subst z
  rcases he with r|r
  ·exact hx b n r
  ·rw [n] at r;cases r
 have hm:∀ b u,H b=some u->¬ Mut (some u)->b ≠ x:=λb u q nm z=>by subst z;rw [q] at mu;exact nm mu
 refine ⟨λb u q n _ _=>k b u (hb b n) q,λb u q n _ _=>⟨u.slots,k b u (hb b n) q⟩,λb u q n _=>by rw [aW (hx b n)];exact n,λb u q _=>?_,
  λb xs q=>by rw [aW (hm b _ q λz=>z)];exact q,λb u xs q=>by rw [aW (hm b _ q λz=>z)];exact q,λb ps q=>⟨#[],by rw [aW (hm b _ q λz=>z),q];simp⟩⟩
 by_cases hbe:b=e
 ·subst hbe;exact heo
 ·exact ⟨u,k b u hbe q⟩
end
noncomputable def trk (h:Heap) (H:Hp):List Addr:=(List.range h.objs.size).filter λa=>(H a).isSome
noncomputable def mr (h:Heap) (H:Hp):Heap:=PySem.W.hideAll h (trk h H)
theorem rh (h:Heap) (H:Hp):(mr h H).objs.size=h.objs.size:=PySem.W.hideAll_size _ _
theorem sF {h:Heap}{H:Hp}{b:Addr}{o:Obj} (e:h.get? b=some o) (n:H b=none):(mr h H).get? b=some o :=
 PySem.W.hideAll_get _ e λhm=>by
  have q:(H b).isSome=true:=(List.mem_filter.mp hm).2
  rw [n] at q;simp at q
theorem v5 {h:Heap}{H:Hp}{b:Addr}{o:Obj} (e:(mr h H).get? b=some o):h.get? b=some o/\H b=none:=by
 have e':h.get? b=some o:=PySem.W.of_hideAll (trk h H) e
 refine ⟨e',?_⟩
 cases q:H b with
 | none=>rfl
 | some x =>
  have hm:b ∈ trk h H:=List.mem_filter.mpr ⟨List.mem_range.mpr (Heap.lt_size e'),by simp [q]⟩
  have z:(mr h H).get? b=none:=PySem.W.hideAll_none (trk h H) hm
  rw [z] at e;cases e
noncomputable def v6 (g h:Heap) (L:Addr):List (Addr × Obj):=(List.range h.objs.size).filterMap λa=>if a=L \/ (g.get? a).isSome=true then none else (h.get? a).map λo=>(a,o)
noncomputable def bb (g h:Heap) (L d:Addr):List (Addr × Obj):=(v6 g h L).filter λp=>decide (p.1 ≠ d)
end L2
namespace L2
open PySem PySem.Spec PyProof.Rows
structure Mod (K:PySem.W.Frag) (mg:Str->Option Value) (base:Heap):Prop where
 kin:K.In base
 glob:base.Ns mainGlobals mg
 blt:∃ mb,base.Ns builtinsNs mb/\∀ x:Str,x ≠ "__name__"->mb x=bootBuiltins x
 nolimit:base.NoLimit
structure Cx where
 prog:Program
 w:World
 K:PySem.W.Frag
 mg:Str->Option Value
 base:Heap
 A:Around
 N:List Str
 s₀:Shared
 H₀:Hp
 env:Env
 outer:List Env
 stack:List Env
 ex:List Addr
 fn:Str->Bool
 calm:Bool
 pn:List (Addr × Obj)
 xe:Value->Shared->Prop
noncomputable def frs (l:List Env):List Addr:=l.filterMap (·.frame)
noncomputable abbrev Cx.fs (X:Cx):List Addr:=frs X.outer
noncomputable def Vis (sc:Scope) (x:Str):Prop:=sc.names.lookup x=some .local \/ sc.names.lookup x=some .cell \/ sc.names.lookup x=some .free
noncomputable def Loc (sc:Scope) (x:Str):Prop:=sc.names.lookup x=some .local \/ sc.names.lookup x=some .cell
noncomputable def CI (env:Env) (h:Heap) (m:Str->Option Value) (x:Str) (u:Value):Prop :=
 (env.kindOf x=some .local/\m x=some u) \/ ((env.kindOf x=some .cell \/ env.kindOf x=some .free)/\∃ c,env.cells.lookup x=some c/\h.IsCell c (some u))
structure Cx.Ok (X:Cx):Prop where
 mod:Mod X.K X.mg X.base
 kind:X.env.scope.kind=.function
 glob:X.env.globals=mainGlobals
 blt:X.env.builtins=builtinsNs
 above:X.s₀.heap.objs.size <= X.env.locals
 inj:∀ x y c,X.env.cells.lookup x=some c->X.env.cells.lookup y=some c->x=y
 has:∀ x,(X.env.kindOf x=some .cell \/ X.env.kindOf x=some .free)->∃ c,X.env.cells.lookup x=some c
 cab:∀ x c,X.fn x=true->X.env.cells.lookup x=some c->X.s₀.heap.objs.size <= c
 hd:X.calm=true->X.A.handled=none
 frames:X.A.frames=some X.stack
 stk:X.stack=X.outer \/ (X.stack=X.env::X.outer/\X.env.frame=some X.env.locals)
 exf:∀ b ∈ X.ex,b ≠ X.env.locals/\∀ x c,X.env.cells.lookup x=some c->c ≠ b
 bs:∀ b o,X.base.get? b=some o->X.s₀.heap.get? b=some o/\X.H₀ b=none
 bsz:X.base.objs.size <= X.s₀.heap.objs.size
 noex:∀ b o,X.base.get? b=some o->b ∉ X.ex
 exfs:∀ b ∈ X.ex,b ∉ X.fs
 funs:X.s₀.heap.FunFrames X.base X.outer
 frf:∀ b ∈ X.fs,X.H₀ b=none
structure Inv (X:Cx) (pins:List (Addr × Obj)) (σ:List (Option V)) (H:Hp) (s:Shared):Prop where
 ok:X.Ok
 os:s.os=X.s₀.os
 bare:AllBare s.gens
 base:Un X.fs X.ex X.H₀ H X.s₀.heap s.heap
 loc:∃ m,s.heap.Ns X.env.locals m/\∀ (i:Nat) (x:Str) (v:V),X.N[i]?=some x->σ[i]?=some (some v)->Vis X.env.scope x->∃ u,aq v u/\CI X.env s.heap m x u
 cell:∀ x c,X.env.cells.lookup x=some c->∃ v,s.heap.IsCell c v
 free:H X.env.locals=none
 freeC:∀ x c,X.env.cells.lookup x=some c->H c=none
 pin:∀ p ∈ X.pn ++ pins,s.heap.get? p.1=some p.2/\H p.1=none/\p.1 ≠ X.env.locals/\p.1 ∉ X.fs/\∀ v,p.2.data ≠ .cell v
 hok:HOk X.prog X.w H s.heap
 len:σ.length=X.N.length
section
variable {X:Cx}{pins:List (Addr × Obj)}{σ:List (Option V)}{H H':Hp}{s:Shared}{h':Heap}
theorem Cx.Ok.nofr (ok:X.Ok) {b:Addr}{o:Obj} (e:X.base.get? b=some o):b ∉ X.fs:=λhb=>by
 have:=(ok.funs.mem hb).1
 rw [e] at this;cases this
theorem Inv.bs (I:Inv X pins σ H s):∀ b o,X.base.get? b=some o->s.heap.get? b=some o/\H b=none:=λb o e =>
 ⟨I.base.keep b o (I.ok.bs b o e).1 (I.ok.bs b o e).2 (I.ok.nofr e) (I.ok.noex b o e),I.base.free b o (I.ok.bs b o e).1 (I.ok.bs b o e).2 (I.ok.noex b o e)⟩
theorem Inv.bk (I:Inv X pins σ H s):∀ b o,X.base.get? b=some o->s.heap.get? b=some o:=λb o e=>(I.bs b o e).1
theorem Inv.mod (I:Inv X pins σ H s):Mod X.K X.mg X.base:=I.ok.mod
theorem Inv.kIn (I:Inv X pins σ H s):X.K.In s.heap:=I.ok.mod.kin.keeps I.bk
theorem Inv.lt (I:Inv X pins σ H s):X.env.locals < s.heap.objs.size:=let ⟨_,hn,_⟩:=I.loc;hn.lt
theorem Inv.sz (I:Inv X pins σ H s):X.s₀.heap.objs.size <= s.heap.objs.size:=Nat.le_trans I.ok.above (Nat.le_of_lt I.lt)
theorem Inv.nofs (I:Inv X pins σ H s) {a:Addr} (h:s.heap.objs.size <= a):a ∉ X.fs:=λhb=>by
 obtain ⟨_,o,ho,_⟩:=I.ok.funs.mem hb
 exact absurd (Nat.lt_of_lt_of_le (Heap.lt_size ho) (Nat.le_trans I.sz h)) (Nat.lt_irrefl _)
theorem Inv.cne (I:Inv X pins σ H s):∀ x c,X.env.cells.lookup x=some c->c ≠ X.env.locals:=λx c e z=>by
 obtain ⟨v,o,ho,hd⟩:=I.cell x c e
 obtain ⟨m,⟨o',es,ep,ho',hd',_⟩,_⟩:=I.loc
 rw [z,ho'] at ho;cases ho;rw [hd'] at hd;cases hd
theorem Inv.funs (I:Inv X pins σ H s):s.heap.FunFrames X.base X.outer:=by
 have all:∀ (l:List Env),(∀ b ∈ frs l,b ∈ X.fs)->X.s₀.heap.FunFrames X.base l->s.heap.FunFrames X.base l:=by
  intro l
  induction l with
  | nil=>intro _ _;trivial
  | cons env r ih =>
   intro hs hl
   obtain ⟨hk,⟨L,o,hf,hn,ho,hd⟩,hr⟩:=hl
   have hL:L ∈ X.fs:=hs L (by unfold frs;rw [List.filterMap_cons,hf];exact List.mem_cons_self)
   obtain ⟨sl,e⟩:=I.base.slot L o ho (I.ok.frf L hL) hL λz=>I.ok.exfs L z hL
   exact ⟨hk,⟨L,_,hf,hn,e,hd⟩,ih (λb hb=>hs b (by unfold frs;rw [List.filterMap_cons,hf];exact List.mem_cons_of_mem _ hb)) hr⟩
 exact all X.outer (λ_ hb=>hb) I.ok.funs
theorem Inv.stack (I:Inv X pins σ H s):s.heap.FunFrames X.base X.stack:=by
 rcases I.ok.stk with e|⟨e,hf⟩
 ·rw [e];exact I.funs
 ·rw [e]
  obtain ⟨m,hn,_⟩:=I.loc
  refine .cons (by rw [I.ok.kind];decide) hf hn ?_ I.funs
  exact Heap.get?_none_of_le (Nat.le_trans I.ok.bsz I.ok.above)
theorem Inv.stkSub (I:Inv X pins σ H s):∀ b ∈ frs X.stack,b ∈ X.env.locals::X.fs:=λb hb=>by
 rcases I.ok.stk with e|⟨e,hf⟩
 ·rw [e] at hb;exact List.mem_cons_of_mem _ hb
 ·rw [e] at hb
  unfold frs at hb
  rw [List.filterMap_cons,hf] at hb
  exact hb
theorem Inv.stkFree (I:Inv X pins σ H s):∀ b ∈ frs X.stack,H b=none:=λb hb=>by
 rcases List.mem_cons.mp (I.stkSub b hb) with e|hb
 ·rw [e];exact I.free
 ·obtain ⟨_,o,ho,_⟩:=I.ok.funs.mem hb
  exact I.base.free b o ho (I.ok.frf b hb) λz=>I.ok.exfs b z hb
theorem Inv.step {g':Array GenState}{t':Nat}{d':Drawn}{ch:List Addr} (I:Inv X pins σ H s)
  (hch:∀ b ∈ ch,(b ∈ X.ex \/ X.s₀.heap.objs.size <= b)/\b ≠ X.env.locals/\(∀ x c,X.env.cells.lookup x=some c->c ≠ b)/\∀ p ∈ X.pn ++ pins,p.1 ≠ b)
  (keep:∀ b o,b ≠ X.env.locals->b ∉ X.fs->b ∉ ch->s.heap.get? b=some o->H b=none->h'.get? b=some o)
  (slot:∀ b o,b ≠ X.env.locals->b ∈ X.fs->b ∉ ch->s.heap.get? b=some o->H b=none->∃ sl,h'.get? b=some { o with slots:=sl }) (free:∀ b o,b ∉ ch->s.heap.get? b=some o->H b=none->H' b=none)
  (there:∀ b o,b ∉ ch->s.heap.get? b=some o->∃ o',h'.get? b=some o')
  (tups:∀ b xs,H b=some (.tup xs)->H' b=some (.tup xs)) (frzs:∀ b o u,H b=some (.frz o u)->H' b=some (.frz o u)) (tbls:∀ b ps,H b=some (.tbl ps)->∃ more,H' b=some (.tbl (ps ++ more)))
  (ns:∀ m,s.heap.Ns X.env.locals m->h'.Ns X.env.locals m) (hok:HOk X.prog X.w H' h') (hg:AllBare g') :
  Inv X pins σ H' { s with heap:=h',gens:=g',drawn:=d',toks:=t' }:=by
 have neL:∀ b o,X.s₀.heap.get? b=some o->b ≠ X.env.locals:=λb o e=>Nat.ne_of_lt (Nat.lt_of_lt_of_le (Heap.lt_size e) I.ok.above)
 have neC:∀ b o,X.s₀.heap.get? b=some o->b ∉ X.ex->b ∉ ch:=λb o e hx hb=>by
  rcases (hch b hb).1 with z|z
  ·exact hx z
  ·exact absurd (Nat.lt_of_lt_of_le (Heap.lt_size e) z) (Nat.lt_irrefl _)
 have cellK:∀ x c,X.env.cells.lookup x=some c->∀ v,s.heap.IsCell c v->h'.IsCell c v:=λx c e v ⟨o,ho,hd⟩=>by
  have nch:c ∉ ch:=λz=>(hch c z).2.2.1 x c e rfl
  by_cases hc:c ∈ X.fs
  ·obtain ⟨sl,q⟩:=slot c o (I.cne x c e) hc nch ho (I.freeC x c e)
   exact ⟨_,q,hd⟩
  ·exact ⟨o,keep c o (I.cne x c e) hc nch ho (I.freeC x c e),hd⟩
 refine ⟨I.ok,I.os,hg,⟨λb o e n hb hx=>?_,λb o e n hb hx=>?_,λb o e n hx=>?_,λb o e hx=>?_,λb xs e=>tups b xs (I.base.tups b xs e),λb o xs e=>frzs b o xs (I.base.frzs b o xs e),λb ps e=>?_⟩,?_,λx c e=>?_,?_,λx c e=>?_,λp hp=>?_,hok,I.len⟩
 ·exact keep b o (neL b o e) hb (neC b o e hx) (I.base.keep b o e n hb hx) (I.base.free b o e n hx)
 ·obtain ⟨sl,e1⟩:=I.base.slot b o e n hb hx
  obtain ⟨sl',e2⟩:=slot b _ (neL b o e) hb (neC b o e hx) e1 (I.base.free b o e n hx)
  exact ⟨sl',e2⟩
 ·obtain ⟨o',e1⟩:=I.base.there b o e hx
  exact free b o' (neC b o e hx) e1 (I.base.free b o e n hx)
 ·obtain ⟨o',e1⟩:=I.base.there b o e hx
  exact there b o' (neC b o e hx) e1
 ·obtain ⟨m1,e1⟩:=I.base.tbls b ps e
  obtain ⟨m2,e2⟩:=tbls b _ e1
  exact ⟨m1 ++ m2,by rw [e2,Array.append_assoc]⟩
 ·obtain ⟨m,hn,hl⟩:=I.loc
  refine ⟨m,ns m hn,λi x v e1 e2 e3=>?_⟩
  obtain ⟨u,r,l⟩:=hl i x v e1 e2 e3
  refine ⟨u,r,?_⟩
  rcases l with l|⟨k,c,e,z⟩
  ·exact .inl l
  ·exact .inr ⟨k,c,e,cellK x c e _ z⟩
 ·obtain ⟨v,z⟩:=I.cell x c e
  exact ⟨v,cellK x c e v z⟩
 ·obtain ⟨m,⟨o,_,_,ho,_⟩,_⟩:=I.loc
  exact free _ o (λz=>(hch _ z).2.1 rfl) ho I.free
 ·obtain ⟨v,o,ho,hd⟩:=I.cell x c e
  exact free c o (λz=>(hch c z).2.2.1 x c e rfl) ho (I.freeC x c e)
 ·obtain ⟨e,n,ne,nf,d⟩:=I.pin p hp
  have nch:p.1 ∉ ch:=λz=>(hch p.1 z).2.2.2 p hp rfl
  exact ⟨keep p.1 p.2 ne nf nch e n,free p.1 p.2 nch e n,ne,nf,d⟩
theorem Inv.un {t':Nat} (I:Inv X pins σ H s) (u:Un X.fs [] H H' s.heap h') (hok:HOk X.prog X.w H' h'):Inv X pins σ H' { s with heap:=h',toks:=t' }:=by
 obtain ⟨m,⟨o,es,ep,ho,r⟩,_⟩:=id I.loc
 obtain ⟨sl,hL⟩:=u.any ho I.free (by simp)
 exact I.step (g':=s.gens) (d':=s.drawn) (ch:=[]) (λ_ z=>nomatch z) (λb o _ hb _ e n=>u.keep b o e n hb (by simp)) (λb o _ hb _ e n=>u.slot b o e n hb (by simp)) (λb o _ e n=>u.free b o e n (by simp)) (λb o _ e=>u.there b o e (by simp)) u.tups u.frzs u.tbls (λm' hm=>by
  obtain ⟨o',es',ep',ho',r'⟩:=hm
  rw [ho] at ho';cases ho'
  exact ⟨_,es',ep',hL,r'⟩) hok I.bare
theorem Inv.call {g':Array GenState}{t':Nat}{d':Drawn}{ch:List Addr} (I:Inv X pins σ H s) (u:Un (frs X.stack) ch H H' s.heap h') (hok:HOk X.prog X.w H' h') (hg:AllBare g')
  (hch:∀ b ∈ ch,(b ∈ X.ex \/ X.s₀.heap.objs.size <= b)/\b ≠ X.env.locals/\(∀ x c,X.env.cells.lookup x=some c->c ≠ b)/\∀ p ∈ X.pn ++ pins,p.1 ≠ b) :
  Inv X pins σ H' { s with heap:=h',gens:=g',drawn:=d',toks:=t' }:=by
 obtain ⟨m,⟨o,es,ep,ho,r⟩,_⟩:=id I.loc
 obtain ⟨sl,hL⟩:=u.any ho I.free λz=>(hch _ z).2.1 rfl
 exact I.step (ch:=ch) hch (λb o hL hb hc e n=>u.keep b o e n (λz=>(List.mem_cons.mp (I.stkSub b z)).elim hL hb) hc) (λb o _ _ hc e n=>u.any e n hc) (λb o hc e n=>u.free b o e n hc) (λb o hc e=>u.there b o e hc) u.tups u.frzs u.tbls (λm' hm=>by
  obtain ⟨o',es',ep',ho',r'⟩:=hm
  rw [ho] at ho';cases ho'
  exact ⟨_,es',ep',hL,r'⟩) hok hg
theorem Inv.turned {t':Nat}{it:Addr} (I:Inv X pins σ H s) (k:∀ b o,b ≠ it->s.heap.get? b=some o->h'.get? b=some o) (hn:H it=none) (hL:it ≠ X.env.locals)
  (h1:it ∈ X.ex \/ X.s₀.heap.objs.size <= it) (h2:∀ x c,X.env.cells.lookup x=some c->c ≠ it) (h3:∀ p ∈ X.pn ++ pins,p.1 ≠ it):Inv X pins σ H { s with heap:=h',toks:=t' }:=by
 have nit:∀ b u,H b=some u->b ≠ it:=λb u e z=>by rw [z,hn] at e;cases e
 refine I.step (g':=s.gens) (d':=s.drawn) (ch:=[it]) (λb hb=>?_) (λb o _ _ hc e _=>k b o (λz=>hc (by simp [z])) e) (λb o _ _ hc e _=>⟨o.slots,k b o (λz=>hc (by simp [z])) e⟩) (λ_ _ _ _ n=>n)
  (λb o hc e=>⟨o,k b o (λz=>hc (by simp [z])) e⟩) (λ_ _ e=>e) (λ_ _ _ e=>e) (λb ps e=>⟨#[],by rw [e];simp⟩) (λm hm=>?_) (λb u e=>?_) I.bare
 ·have e:b=it:=by simpa using hb
  subst e
  exact ⟨h1,hL,h2,h3⟩
 ·obtain ⟨o,es,ep,ho,r⟩:=hm
  exact ⟨o,es,ep,k _ o (Ne.symm hL) ho,r⟩
 ·refine (I.hok b u e).stay (λc v hc q=>k c v ?_ q) (λ_ q=>q) λ_ _ q=>q
  rcases hc with z|z
  ·rw [z];exact nit b u e
  ·exact nit c _ z
theorem Inv.tok (I:Inv X pins σ H s) (t:Nat):Inv X pins σ H { s with toks:=t }:=I.un (h':=s.heap) (t':=t) Un.refl I.hok
theorem Inv.kept {t':Nat} (I:Inv X pins σ H s) (k:∀ b u,s.heap.get? b=some u->h'.get? b=some u):Inv X pins σ H { s with heap:=h',toks:=t' }:=I.un (Un.kept k) (I.hok.kept k)
theorem Inv.laid {a:Addr}{o:HO}{t':Nat} (I:Inv X pins σ H s) (k:∀ b u,s.heap.get? b=some u->h'.get? b=some u) (hp:s.heap.objs.size <= a) (new:aV X.prog X.w (upd H a o) h' a o) :
  Inv X pins σ (upd H a o) { s with heap:=h',toks:=t' }:=I.un (Un.laid k hp (I.hok.fresh hp)) (I.hok.laid k hp new)
theorem Inv.write {x e:Addr}{o:HO}{t':Nat} (I:Inv X pins σ H s) (mu:Mut (H x)) (he:e=x \/ H e=some (.own x)) (k:∀ b u,b ≠ e->s.heap.get? b=some u->h'.get? b=some u) (heo:∃ u,h'.get? e=some u)
  (new:aV X.prog X.w (upd H x o) h' x o):Inv X pins σ (upd H x o) { s with heap:=h',toks:=t' }:=I.un (Un.write mu he k heo) (I.hok.write mu he k heo new)
theorem Inv.pins_of {pins':List (Addr × Obj)} (I:Inv X pins σ H s) (h:∀ p ∈ pins',s.heap.get? p.1=some p.2/\H p.1=none/\p.1 ≠ X.env.locals/\p.1 ∉ X.fs/\∀ v,p.2.data ≠ .cell v):Inv X pins' σ H s :=
 ⟨I.ok,I.os,I.bare,I.base,I.loc,I.cell,I.free,I.freeC,λp hp=>(List.mem_append.mp hp).elim (λz=>I.pin p (List.mem_append_left _ z)) (h p),I.hok,I.len⟩
theorem nw {N:List Str} (hN:N.Nodup) {i j:Nat}{x:Str} (a:N[i]?=some x) (b:N[j]?=some x):i=j:=by
 obtain ⟨h1,e1⟩:=List.getElem?_eq_some_iff.mp a
 obtain ⟨h2,e2⟩:=List.getElem?_eq_some_iff.mp b
 exact (List.getElem_inj hN).mp (e1.trans e2.symm)
theorem lz {M:Model}{A:Around}{E:Value->Shared->Prop}{i:Nat}{x:Str}{v:V}{u:Value}{Q:Unit->Shared->Prop} (I:Inv X pins σ H s) (hN:X.N.Nodup) (hi:X.N[i]?=some x) (hx:Loc X.env.scope x) (r:aq v u)
  (h:∀ s',Inv X pins (σ.set i (some v)) H s'->(∃ a,Heap.SameBut a s.heap s'.heap/\(a=X.env.locals \/ X.env.cells.lookup x=some a))->Q () s') (hf:X.fn x=true \/ X.env.scope.names.lookup x=some .local:=by first|exact .inl rfl|exact .inr rfl|assumption):wpAny M A (storeName X.env x u) Q E s:=by
 obtain ⟨m,hn,hl⟩:=id I.loc
 have hcls:(X.env.scope.kind == .class || (X.env.scope.kind == .module&&X.env.locals != X.env.globals))=false:=by rw [I.ok.kind];rfl
 have hiσ:i < σ.length:=by rw [I.len];exact (List.getElem?_eq_some_iff.mp hi).1
 have cne:=I.cne
 have tracked:∀ {a:Addr}{h':Heap},(∃ o,s.heap.get? a=some o/\H a=none)->Heap.SameBut a s.heap h'->HOk X.prog X.w H h':=λ{a h'} ha hs b ob e=>by
  obtain ⟨_,_,hfree⟩:=ha
  refine (I.hok b ob e).stay (λc w' hc q=>(hs.2 c ?_).trans q) (λ_ q=>q) λ_ _ q=>q
  rintro rfl
  rcases hc with rfl|hc
  ·rw [hfree] at e;cases e
  ·rw [hfree] at hc;cases hc
 rcases hx with hk|hk
 ·refine wpAny_storeName_local hk hn (λh' hn' hs=>?_) hcls
  obtain ⟨oL,_,_,hoL,_⟩:=id hn
  refine h _ ⟨I.ok,I.os,I.bare,⟨λb o e n hb hx=>?_,λb o e n hb hx=>?_,I.base.free,λb o e hx=>?_,I.base.tups,I.base.frzs,I.base.tbls⟩,⟨_,hn',λj y v' e1 e2 e3=>?_⟩,λy c e=>?_,I.free,I.freeC,λp hp=>?_,tracked ⟨oL,hoL,I.free⟩ hs,by simpa using I.len⟩ ⟨_,hs,.inl rfl⟩
  ·exact (hs.2 b (Nat.ne_of_lt (Nat.lt_of_lt_of_le (Heap.lt_size e) I.ok.above))).trans (I.base.keep b o e n hb hx)
  ·obtain ⟨sl,e1⟩:=I.base.slot b o e n hb hx
   exact ⟨sl,(hs.2 b (Nat.ne_of_lt (Nat.lt_of_lt_of_le (Heap.lt_size e) I.ok.above))).trans e1⟩
  ·obtain ⟨o',e1⟩:=I.base.there b o e hx
   exact ⟨o',(hs.2 b (Nat.ne_of_lt (Nat.lt_of_lt_of_le (Heap.lt_size e) I.ok.above))).trans e1⟩
  ·by_cases hj:j=i
   ·subst hj
    rw [hi] at e1;cases e1
    rw [List.getElem?_set_self hiσ] at e2
    cases e2
    exact ⟨u,r,.inl ⟨hk,by simp⟩⟩
   ·rw [List.getElem?_set_ne (Ne.symm hj)] at e2
    obtain ⟨u',r',q⟩:=hl j y v' e1 e2 e3
    refine ⟨u',r',?_⟩
    rcases q with ⟨k,e⟩|⟨k,c,e,z⟩
    ·refine .inl ⟨k,?_⟩
     have:y ≠ x:=λe=>hj (nw hN e1 (e ▸ hi))
     simp [this,e]
    ·exact .inr ⟨k,c,e,z.sameBut hs (cne y c e)⟩
  ·obtain ⟨w',z⟩:=I.cell y c e
   exact ⟨w',z.sameBut hs (cne y c e)⟩
  ·obtain ⟨e,n,ne,nf,d⟩:=I.pin p hp
   exact ⟨(hs.2 p.1 ne).trans e,n,ne,nf,d⟩
 ·have hfn:X.fn x=true:=by
   rcases hf with z|z
   ·exact z
   ·rw [z] at hk;cases hk
  obtain ⟨c,hc⟩:=I.ok.has x (.inl hk)
  obtain ⟨w',z⟩:=I.cell x c hc
  refine wpAny_storeName_cell I.ok.kind hk hc z (λh' hc' hs=>?_)
  obtain ⟨oc,hoc,hocd⟩:=id z
  refine h { s with heap:=h' } ⟨I.ok,I.os,I.bare,⟨λb o e n hb hx=>?_,λb o e n hb hx=>?_,I.base.free,λb o e hx=>?_,I.base.tups,I.base.frzs,I.base.tbls⟩,⟨m,hn.sameBut hs (Ne.symm (cne x c hc)),λj y v' e1 e2 e3=>?_⟩,λy c' e=>?_,I.free,I.freeC,λp hp=>?_,tracked ⟨oc,hoc,I.freeC x c hc⟩ hs,by simpa using I.len⟩ ⟨c,hs,.inr hc⟩
  ·exact (hs.2 b (Nat.ne_of_lt (Nat.lt_of_lt_of_le (Heap.lt_size e) (I.ok.cab x c hfn hc)))).trans (I.base.keep b o e n hb hx)
  ·obtain ⟨sl,e1⟩:=I.base.slot b o e n hb hx
   exact ⟨sl,(hs.2 b (Nat.ne_of_lt (Nat.lt_of_lt_of_le (Heap.lt_size e) (I.ok.cab x c hfn hc)))).trans e1⟩
  ·obtain ⟨o',e1⟩:=I.base.there b o e hx
   exact ⟨o',(hs.2 b (Nat.ne_of_lt (Nat.lt_of_lt_of_le (Heap.lt_size e) (I.ok.cab x c hfn hc)))).trans e1⟩
  ·by_cases hj:j=i
   ·subst hj
    rw [hi] at e1;cases e1
    rw [List.getElem?_set_self hiσ] at e2
    cases e2
    exact ⟨u,r,.inr ⟨.inl hk,c,hc,hc'⟩⟩
   ·rw [List.getElem?_set_ne (Ne.symm hj)] at e2
    obtain ⟨u',r',q⟩:=hl j y v' e1 e2 e3
    refine ⟨u',r',?_⟩
    rcases q with q|⟨k,c',e,z'⟩
    ·exact .inl q
    ·refine .inr ⟨k,c',e,z'.sameBut hs ?_⟩
     rintro rfl
     exact hj (nw hN e1 (I.ok.inj _ _ _ e hc ▸ hi))
  ·by_cases hcc:c'=c
   ·subst hcc;exact ⟨_,hc'⟩
   ·obtain ⟨w2,z2⟩:=I.cell y c' e
    exact ⟨w2,z2.sameBut hs hcc⟩
  ·obtain ⟨e,n,ne,nf,d⟩:=I.pin p hp
   refine ⟨(hs.2 p.1 ?_).trans e,n,ne,nf,d⟩
   intro q
   rw [q,hoc] at e
   have q':oc=p.2:=Option.some.inj e
   exact d w' (by rw [<- q'];exact hocd)
theorem ny {M:Model}{A:Around}{E:Value->Shared->Prop}{i:Nat}{x:Str}{v:V}{u:Value}{Q:Unit->Shared->Prop} (I:Inv X pins σ H s) (hN:X.N.Nodup) (hi:X.N[i]?=some x) (hx:Loc X.env.scope x) (r:aq v u)
  (h:∀ s',Inv X pins (σ.set i (some v)) H s'->Q () s') (hf:X.fn x=true \/ X.env.scope.names.lookup x=some .local:=by first|exact .inl rfl|exact .inr rfl|assumption):wpAny M A (storeName X.env x u) Q E s :=
 lz I hN hi hx r (λs' I' _=>h s' I') hf
theorem Inv.call' {s':Shared}{ch:List Addr} (I:Inv X pins σ H s) (ho:s'.os=s.os) (u:Un (frs X.stack) ch H H' s.heap s'.heap) (hok:HOk X.prog X.w H' s'.heap) (hg:AllBare s'.gens)
  (hch:∀ b ∈ ch,(b ∈ X.ex \/ X.s₀.heap.objs.size <= b)/\b ≠ X.env.locals/\(∀ x c,X.env.cells.lookup x=some c->c ≠ b)/\∀ p ∈ X.pn ++ pins,p.1 ≠ b):Inv X pins σ H' s':=by
 obtain ⟨h',g',d',t',o'⟩:=s'
 have e:o'=s.os:=ho
 subst e
 exact I.call (g':=g') (t':=t') (d':=d') u hok hg hch
end
noncomputable abbrev XK:=Value->Option Addr->Hp->Prop
noncomputable abbrev St:=List (Option V)
noncomputable abbrev VK:=V->Hp->Prop
noncomputable abbrev TE:=St->Hp->VK->Prop
noncomputable abbrev TT:=St->Hp->(Bool->Hp->Prop)->Prop
noncomputable abbrev TA:=St->Hp->(List V->Hp->Prop)->Prop
structure jz where
 nx:St->Hp->Prop
 rt:VK
 bk:St->Hp->Prop:=λ_ _=>False
 ct:St->Hp->Prop:=λ_ _=>False
noncomputable abbrev TS:=jz->St->Hp->Prop
noncomputable def EP (X:Cx) (pins:List (Addr × Obj)) (σ:St) (Q:VK) (u:Value) (s':Shared):Prop:=∃ v H',Inv X pins σ H' s'/\aq v u/\Q v H'
noncomputable def TP (X:Cx) (pins:List (Addr × Obj)) (σ:St) (Q:Bool->Hp->Prop) (b:Bool) (s':Shared):Prop:=∃ H',Inv X pins σ H' s'/\Q b H'
noncomputable def AP (X:Cx) (pins:List (Addr × Obj)) (σ:St) (Q:List V->Hp->Prop) (us:List Value) (s':Shared):Prop:=∃ vs H',Inv X pins σ H' s'/\ar vs us/\Q vs H'
noncomputable def SP (X:Cx) (pins:List (Addr × Obj)) (D:jz) (f:Flow) (s':Shared):Prop :=
 match f with
 | .next=>∃ σ' H',Inv X pins σ' H' s'/\D.nx σ' H'
 | .brk=>∃ σ' H',Inv X pins σ' H' s'/\D.bk σ' H'
 | .cont=>∃ σ' H',Inv X pins σ' H' s'/\D.ct σ' H'
 | .ret u=>∃ v σ' H',Inv X pins σ' H' s'/\aq v u/\D.rt v H'
noncomputable def PE (X:Cx) (e:Expr) (t:TE):Prop :=
 ∀ (pins:List (Addr × Obj)) (s:Shared) (σ:St) (H:Hp) (Q:VK),Inv X pins σ H s->t σ H Q->wpAny (model X.prog X.w) X.A (eval e X.env) (EP X pins σ Q) X.xe s
noncomputable def PT (X:Cx) (e:Expr) (t:TT):Prop :=
 ∀ (pins:List (Addr × Obj)) (s:Shared) (σ:St) (H:Hp) (Q:Bool->Hp->Prop),Inv X pins σ H s->t σ H Q->wpAny (model X.prog X.w) X.A (isTrue e X.env (eval e X.env)) (TP X pins σ Q) X.xe s
noncomputable def PW (X:Cx) (e:Expr) (t:TT):Prop :=
 ∀ (whole:Sem Value) (pins:List (Addr × Obj)) (s:Shared) (σ:St) (H:Hp) (Q:Bool->Hp->Prop),Inv X pins σ H s->t σ H Q->wpAny (model X.prog X.w) X.A (isTrue e X.env whole) (TP X pins σ Q) X.xe s
theorem PW.pt {X:Cx}{e:Expr}{t:TT} (h:PW X e t):PT X e t:=h _
noncomputable def PA (X:Cx) (es:List Expr) (t:TA):Prop :=
 ∀ (pos:Pos) (pins:List (Addr × Obj)) (s:Shared) (σ:St) (H:Hp) (Q:List V->Hp->Prop),Inv X pins σ H s->t σ H Q->wpAny (model X.prog X.w) X.A (spliced (backTo pos (starEach es X.env))) (AP X pins σ Q) X.xe s
noncomputable def PS (X:Cx) (st:Stmt) (t:TS):Prop :=
 ∀ (pins:List (Addr × Obj)) (s:Shared) (σ:St) (H:Hp) (D:jz),Inv X pins σ H s->t D σ H->wpAny (model X.prog X.w) X.A (exec st X.env) (SP X pins D) X.xe s
noncomputable def PSs (X:Cx) (st:List Stmt) (t:TS):Prop :=
 ∀ (pins:List (Addr × Obj)) (s:Shared) (σ:St) (H:Hp) (D:jz),Inv X pins σ H s->t D σ H->wpAny (model X.prog X.w) X.A (execs st X.env) (SP X pins D) X.xe s
theorem thn {α:Type}{t:Sem α}{Q Q':α->Shared->Prop}{M:Model}{A:Around}{E:Value->Shared->Prop}{s:Shared} (h:wpAny M A t Q E s) (hQ:∀ a s,Q a s->Q' a s):wpAny M A t Q' E s:=wpAny_mono h hQ λ_ _ x=>x
end L2
namespace L2
open PySem PySem.Spec PyProof.Rows
section
variable {X:Cx}
theorem bin {a b:Expr}{ta tb:TE} (ha:PE X a ta) (hb:PE X b tb) {pins:List (Addr × Obj)}{s:Shared}{σ:St}{H:Hp}{R:V->V->Hp->Prop} (I:Inv X pins σ H s) (h:ta σ H λx H1=>tb σ H1 λy H2=>R x y H2)
  {α:Type}{Q:α->Shared->Prop}{f:Value->Value->Sem α}
  (hf:∀ v u s2 x y H2,Inv X pins σ H2 s2->aq x v->aq y u->R x y H2->wpAny (model X.prog X.w) X.A (f v u) Q X.xe s2) :
  wpAny (model X.prog X.w) X.A (eval a X.env) (λv s₁=>wpAny (model X.prog X.w) X.A (eval b X.env) (λu s₂=>wpAny (model X.prog X.w) X.A (f v u) Q X.xe s₂) X.xe s₁) X.xe s:=by
 refine thn (ha pins s σ H _ I h) λv s1 ⟨x,H1,I1,r1,q1⟩=>?_
 refine thn (hb pins s1 σ H1 _ I1 q1) λu s2 ⟨y,H2,I2,r2,q2⟩=>?_
 exact hf v u s2 x y H2 I2 r1 r2 q2
noncomputable def AL (i:Nat):TE:=λσ H Q=>∃ v,σ[i]?=some (some v)/\Q v H
noncomputable def tC (v:V):TE:=λ_ H Q=>Q v H
theorem yr {i:Nat}{x:Str}{pos:Pos} (hN:X.N[i]?=some x) (hv:Vis X.env.scope x) (hd:(x == ("__debug__":Str))=false:=by decide) (hcd:(x == ("__classdict__":Str))=false:=by decide):PE X (.Name x pos) (AL i):=by
 intro pins s σ H Q I h
 obtain ⟨v,e,h⟩:=h
 obtain ⟨m,hn,hl⟩:=I.loc
 obtain ⟨u,r,l⟩:=hl i x v hN e hv
 have fin:EP X pins σ Q u s:=⟨v,H,I,r,h⟩
 rcases l with ⟨hk,hm⟩|⟨hk,c,hc,hcell⟩
 ·exact wpAny_Name (wpAny_loadName_local I.ok.kind hk hn hm fin) hd
 ·rcases hk with hk|hk
  ·exact wpAny_Name (wpAny_loadName_cell I.ok.kind hk hc hcell fin) hd
  ·exact wpAny_Name (wpAny_loadName_free I.ok.kind hk hc hcell fin hcd) hd
theorem yt {i j pos}:PE X (.Constant (.int i) j pos) (tC (.int i)):=λ_ _ _ H _ I h=>wpAny_Constant_int ⟨.int i,H,I.tok _,⟨_,rfl⟩,h⟩
theorem AM {b j pos}:PE X (.Constant (.bool b) j pos) (tC (.bl b)):=λ_ _ _ H _ I h=>Constant_bool ⟨.bl b,H,I,rfl,h⟩
theorem yu {j pos}:PE X (.Constant .none j pos) (tC .non):=λ_ _ _ H _ I h=>Constant_none ⟨.non,H,I,rfl,h⟩
theorem yw {x j pos}:PE X (.Constant (.str x) j pos) (tC (.str x)):=λ_ _ _ H _ I h=>Calls.Constant_str ⟨.str x,H,I.tok _,⟨_,rfl⟩,h⟩
noncomputable def Gl (X:Cx) (x:Str):Prop:=X.env.kindOf x=some .globalImplicit
theorem mt {E:Value->Shared->Prop}{pins:List (Addr × Obj)}{s:Shared}{σ:St}{H:Hp}{x:Str}{u:Value}{pos:Pos}{Q:Value->Shared->Prop} (I:Inv X pins σ H s) (hg:Gl X x) (hm:X.mg x=some u) (h:Q u s)
  (hd:(x == ("__debug__":Str))=false:=by decide):wpAny (model X.prog X.w) X.A (eval (.Name x pos) X.env) Q E s :=
 Calls.Name_function_global I.ok.kind hg (Calls.loadGlobal_global (by rw [I.ok.glob];exact I.mod.glob.keeps I.bk) hm h) hd
theorem fG {E:Value->Shared->Prop}{pins:List (Addr × Obj)}{s:Shared}{σ:St}{H:Hp}{x:Str}{u:Value}{pos:Pos}{Q:Value->Shared->Prop} (I:Inv X pins σ H s) (hg:Gl X x) (hm:X.mg x=none) (hv:bootBuiltins x=some u) (h:Q u s)
  (hn:x ≠ "__name__":=by decide) (hd:(x == ("__debug__":Str))=false:=by decide):wpAny (model X.prog X.w) X.A (eval (.Name x pos) X.env) Q E s:=by
 obtain ⟨mb,h1,h2⟩:=I.mod.blt
 exact Calls.Name_function_global I.ok.kind hg (Calls.loadGlobal_builtin (by rw [I.ok.glob];exact I.mod.glob.keeps I.bk) hm (by rw [I.ok.blt];exact h1.keeps I.bk) ((h2 x hn).trans hv) h) hd
theorem v7 {x:Str}{v:V}{u:Value}{pos:Pos} (hg:Gl X x) (hm:X.mg x=some u) (r:aq v u) (hd:(x == ("__debug__":Str))=false:=by decide):PE X (.Name x pos) (tC v) :=
 λ_ _ _ H _ I h=>mt I hg hm ⟨v,H,I,r,h⟩ hd
theorem v8 {x:Str}{v:V}{u:Value}{pos:Pos} (hg:Gl X x) (hm:X.mg x=none) (hv:bootBuiltins x=some u) (r:aq v u) (hn:x ≠ "__name__":=by decide) (hd:(x == ("__debug__":Str))=false:=by decide):PE X (.Name x pos) (tC v) :=
 λ_ _ _ H _ I h=>fG I hg hm hv ⟨v,H,I,r,h⟩ hn hd
variable {a b:Expr}{ta tb:TE}{pos:Pos}
noncomputable def PC (X:Cx) (op:CmpOp) (a b:Expr) (t:TE):Prop :=
 ∀ (pins:List (Addr × Obj)) (s:Shared) (σ:St) (H:Hp) (Q:VK),Inv X pins σ H s->t σ H Q ->
  wpAny (model X.prog X.w) X.A (eval a X.env) (λv s₁=>wpAny (model X.prog X.w) X.A (eval b X.env) (λu s₂=>wpAny (model X.prog X.w) X.A (compareOp op v u) (EP X pins σ Q) X.xe s₂) X.xe s₁) X.xe s
noncomputable def tB (t:TE):TT:=λσ H Q=>t σ H λx H1=>∃ c,x=.bl c/\Q c H1
theorem sG {op:CmpOp}{t:TE} (h:PC X op a b t) (h1:behindInMarks op b=false:=by first|exact nobehind _ (by decide) (by decide)|rfl):PE X (.Compare a [op] [b] pos) t:=λpins s σ H Q I hw=>wpAny_Compare1 (h pins s σ H Q I hw) h1
theorem sH {op:CmpOp}{t:TE} (h:PC X op a b t) (h1:behindInMarks op b=false:=by first|exact nobehind _ (by decide) (by decide)|rfl):PT X (.Compare a [op] [b] pos) (tB t):=by
 intro pins s σ H Q I hw
 refine wpAny_isTrue_Compare1 (thn (h pins s σ H _ I hw) λv s1 h1=>thn h1 λu s2 h2=>thn h2 λc s3 ⟨x,H1,I1,r1,q1⟩=>?_) h1
 obtain ⟨d,rfl,q⟩:=q1
 cases r1
 exact wpAny_truthy_bool ⟨H1,I1,q⟩
theorem yx {e:Expr}{t:TE} (h:PE X e t) (he:∀ whole,isTrue e X.env whole=(do let v <- whole;standAt e.pos;holding [v] (truthy v)):=by intro _;rfl):PT X e (tB t):=by
 intro pins s σ H Q I hw
 refine isTrue_plain (thn (h pins s σ H _ I hw) λv s1 ⟨x,H1,I1,r1,q1⟩=>?_) (he _)
 obtain ⟨d,rfl,q⟩:=q1
 cases r1
 exact wpAny_truthy_bool ⟨H1,I1,q⟩
variable {tA tB':TT}{bb:List Expr}
noncomputable def CJ (t u:TT):TT:=λσ H Q=>t σ H λc H1=>if c=true then u σ H1 Q else Q false H1
noncomputable def tOr (t u:TT):TT:=λσ H Q=>t σ H λc H1=>if c=true then Q true H1 else u σ H1 Q
noncomputable def CK (t:TT):TT:=λσ H Q=>t σ H λc H1=>Q (!c) H1
theorem v9 (ha:PT X a tA):PW X (.BoolOp .And [a] pos) tA:=by
 intro wh pins s σ H Q I h
 refine isTrue_and (thn (ha pins s σ H Q I h) λc s1 e=>?_)
 cases c with
 | true=>exact isTrue_and_nil e
 | false=>exact e
theorem yy (ha:PT X a tA):PW X (.BoolOp .Or [a] pos) tA:=by
 intro wh pins s σ H Q I h
 refine isTrue_or (thn (ha pins s σ H Q I h) λc s1 e=>?_)
 cases c with
 | false=>exact isTrue_or_nil e
 | true=>exact e
theorem yz (ha:PT X a tA) (hb:PW X (.BoolOp .And (b::bb) pos) tB'):PW X (.BoolOp .And (a::b::bb) pos) (CJ tA tB'):=by
 intro wh pins s σ H Q I h
 refine isTrue_and (thn (ha pins s σ H _ I h) λc s1 ⟨H1,I1,q1⟩=>?_)
 cases c with
 | true=>exact hb wh pins s1 σ H1 Q I1 q1
 | false=>exact ⟨H1,I1,q1⟩
theorem AN (ha:PT X a tA) (hb:PW X (.BoolOp .Or (b::bb) pos) tB'):PW X (.BoolOp .Or (a::b::bb) pos) (tOr tA tB'):=by
 intro wh pins s σ H Q I h
 refine isTrue_or (thn (ha pins s σ H _ I h) λc s1 ⟨H1,I1,q1⟩=>?_)
 cases c with
 | true=>exact ⟨H1,I1,q1⟩
 | false=>exact hb wh pins s1 σ H1 Q I1 q1
theorem yA (ha:PT X a tA):PT X (.UnaryOp .Not a pos) (CK tA):=by
 intro pins s σ H Q I h
 exact isTrue_not (ha pins s σ H (λc H1=>Q (!c) H1) I h)
noncomputable def AO (ta tb:TE):TE:=λσ H Q=>ta σ H λx H1=>∃ c,x=.bl c/\if c=true then tb σ H1 Q else Q (.bl false) H1
noncomputable def CL (ta tb:TE):TE:=λσ H Q=>ta σ H λx H1=>∃ c,x=.bl c/\if c=true then Q (.bl true) H1 else tb σ H1 Q
noncomputable def AQ (ta:TE):TE:=λσ H Q=>ta σ H λx H1=>∃ c,x=.bl c/\Q (.bl (!c)) H1
theorem sI {op}{t:TE} (h:PE X a t):PE X (.BoolOp op [a] pos) t:=λpins s σ H Q I hw=>BoolOp_one (h pins s σ H Q I hw)
theorem yB (ha:PE X a ta) (hb:PE X (.BoolOp .And (b::bb) pos) tb):PE X (.BoolOp .And (a::b::bb) pos) (AO ta tb):=by
 intro pins s σ H Q I h
 refine BoolOp_and (thn (ha pins s σ H _ I h) λv s1 ⟨x,H1,I1,r1,q1⟩=>?_)
 obtain ⟨c,rfl,q1⟩:=q1
 cases r1
 refine wpAny_truthy_bool ?_
 cases c with
 | true=>exact hb pins s1 σ H1 Q I1 q1
 | false=>exact ⟨.bl false,H1,I1,rfl,q1⟩
theorem AR (ha:PE X a ta) (hb:PE X (.BoolOp .Or (b::bb) pos) tb):PE X (.BoolOp .Or (a::b::bb) pos) (CL ta tb):=by
 intro pins s σ H Q I h
 refine BoolOp_or (thn (ha pins s σ H _ I h) λv s1 ⟨x,H1,I1,r1,q1⟩=>?_)
 obtain ⟨c,rfl,q1⟩:=q1
 cases r1
 refine wpAny_truthy_bool ?_
 cases c with
 | false=>exact hb pins s1 σ H1 Q I1 q1
 | true=>exact ⟨.bl true,H1,I1,rfl,q1⟩
theorem yC (ha:PE X a ta):PE X (.UnaryOp .Not a pos) (AQ ta):=by
 intro pins s σ H Q I h
 refine UnaryOp_ (thn (ha pins s σ H _ I h) λv s1 ⟨x,H1,I1,r1,q1⟩=>?_)
 obtain ⟨c,rfl,q1⟩:=q1
 cases r1
 exact not_of (wpAny_truthy_bool ⟨.bl (!c),H1,I1,rfl,q1⟩)
noncomputable def tIf (t:TT) (ta tb:TE):TE:=λσ H Q=>t σ H λc H1=>if c=true then ta σ H1 Q else tb σ H1 Q
theorem sJ {c:Expr} (hc:PT X c tA) (ha:PE X a ta) (hb:PE X b tb):PE X (.IfExp c a b pos) (tIf tA ta tb):=by
 intro pins s σ H Q I h
 refine wpAny_IfExp (thn (hc pins s σ H _ I h) λd s1 ⟨H1,I1,q1⟩=>?_)
 cases d with
 | true=>exact ha pins s1 σ H1 Q I1 q1
 | false=>exact hb pins s1 σ H1 Q I1 q1
end
end L2
namespace L2
open PySem PySem.Spec PyProof.Rows
noncomputable def SqL (K:PySem.W.Frag) (H:Hp) (a:Addr) (xs:List V):Prop :=
 Rd H a (.lst xs) \/
  ∃ (o:Obj) (its:Array Value) (n:Nat),K.lookup a=some o/\o.cls=.type "list"/\o.dict=none/\o.data=.seq its n/\its.size <= sizeLine/\ar xs its.toList
noncomputable def SqT (K:PySem.W.Frag) (H:Hp) (a:Addr) (xs:List V):Prop :=
 Rd H a (.tup xs) \/
  ∃ (o:Obj) (its:Array Value) (n:Nat),K.lookup a=some o/\o.cls=.type "tuple"/\o.data=.seq its n/\its.size <= sizeLine/\ar xs its.toList
noncomputable def CM:Value->Option V
 | .none=>some .non
 | .bool b=>some (.bl b)
 | .int i _=>some (.int i)
 | .str x _=>some (.str x)
 | .bytes b _=>some (.byt b)
 | .float b _=>some (.flt b)
 | .ref a=>some (.ref a)
 | .type n=>some (.ty n)
 | _=>none
theorem aq.abs {x:V}{u:Value} (r:aq x u):CM u=some x:=by
 cases x with
 | non=>cases r;rfl
 | bl _=>cases r;rfl
 | int _=>obtain ⟨t,rfl⟩:=r;rfl
 | str _=>obtain ⟨t,rfl⟩:=r;rfl
 | byt _=>obtain ⟨t,rfl⟩:=r;rfl
 | flt _=>obtain ⟨t,rfl⟩:=r;rfl
 | ref _=>cases r;rfl
 | ty _=>cases r;rfl
theorem aq.inj {x y:V}{u:Value} (r:aq x u) (q:aq y u):x=y:=Option.some.inj (r.abs.symm.trans q.abs)
theorem ar.inj:∀ {xs ys:List V}{us:List Value},ar xs us->ar ys us->xs=ys
 | _,_,_,.nil,.nil=>rfl
 | _,_,_,.cons r t,.cons r' t'=>by rw [r.inj r',ar.inj t t']
section
variable {X:Cx}{pins:List (Addr × Obj)}{σ:St}{H:Hp}{s:Shared}{a:Addr}{xs ys:List V}
theorem SqL.of {K:PySem.W.Frag} (h:H a=some (.lst xs)):SqL K H a xs:=.inl (.inl h)
theorem SqT.of {K:PySem.W.Frag} (h:H a=some (.tup xs)):SqT K H a xs:=.inl (.inl h)
theorem Inv.list (I:Inv X pins σ H s) (h:SqL X.K H a xs):∃ its:List Value,ar xs its/\PlainL s.heap a its.toArray/\xs.length <= sizeLine:=by
 rcases h with h|⟨o,its,n,hk,hc,hd,hs,hz,r⟩
 ·obtain ⟨z,its,n,r,e⟩:=h.ok I.hok
  exact ⟨its,r,⟨_,n,e,rfl,rfl,rfl⟩,z⟩
 ·refine ⟨its.toList,r,⟨o,n,I.kIn a o hk,hc,hd,by simpa using hs⟩,?_⟩
  have e:=r.length
  simp only [Array.length_toList] at e
  omega
theorem Inv.tuple (I:Inv X pins σ H s) (h:SqT X.K H a xs):∃ its:List Value,ar xs its/\IsTup s.heap a its.toArray/\xs.length <= sizeLine:=by
 rcases h with h|⟨o,its,n,hk,hc,hs,hz,r⟩
 ·obtain ⟨z,its,r,p⟩:=h.ok I.hok
  exact ⟨its,r,p,z⟩
 ·refine ⟨its.toList,r,⟨o,I.kIn a o hk,hc,n,by simpa using hs⟩,?_⟩
  have e:=r.length
  simp only [Array.length_toList] at e
  omega
theorem Inv.list_inj (I:Inv X pins σ H s) (h:SqL X.K H a xs) (h':SqL X.K H a ys):xs=ys:=by
 obtain ⟨its,r,⟨o,n,e,_,_,d⟩,_⟩:=I.list h
 obtain ⟨its',r',⟨o',n',e',_,_,d'⟩,_⟩:=I.list h'
 rw [e] at e';cases e'
 rw [d] at d'
 injection d' with d1 _
 have:its=its':=by simpa using congrArg Array.toList d1
 subst this
 exact r.inj r'
theorem Inv.tuple_inj (I:Inv X pins σ H s) (h:SqT X.K H a xs) (h':SqT X.K H a ys):xs=ys:=by
 obtain ⟨its,r,⟨o,e,_,n,d⟩,_⟩:=I.tuple h
 obtain ⟨its',r',⟨o',e',_,n',d'⟩,_⟩:=I.tuple h'
 rw [e] at e';cases e'
 rw [d] at d'
 injection d' with d1 _
 have:its=its':=by simpa using congrArg Array.toList d1
 subst this
 exact r.inj r'
end
noncomputable abbrev Cx.wish (X:Cx) (E:Value->Shared->Prop):Cx:={ X with xe:=E }
noncomputable abbrev Cx.nox (X:Cx):Cx:=X.wish λ_ _=>False
theorem Cx.Ok.wish {X:Cx} (ok:X.Ok) (E:Value->Shared->Prop):(X.wish E).Ok :=
 ⟨ok.mod,ok.kind,ok.glob,ok.blt,ok.above,ok.inj,ok.has,ok.cab,ok.hd,ok.frames,ok.stk,ok.exf,ok.bs,ok.bsz,ok.noex,ok.exfs,ok.funs,ok.frf⟩
theorem Cx.Ok.unwish {X:Cx}{E:Value->Shared->Prop} (ok:(X.wish E).Ok):X.Ok :=
 ⟨ok.mod,ok.kind,ok.glob,ok.blt,ok.above,ok.inj,ok.has,ok.cab,ok.hd,ok.frames,ok.stk,ok.exf,ok.bs,ok.bsz,ok.noex,ok.exfs,ok.funs,ok.frf⟩
section
variable {X:Cx}{pins:List (Addr × Obj)}{σ:St}{H:Hp}{s:Shared}{E:Value->Shared->Prop}
theorem Inv.wish (I:Inv X pins σ H s) (E:Value->Shared->Prop):Inv (X.wish E) pins σ H s:=⟨I.ok.wish E,I.os,I.bare,I.base,I.loc,I.cell,I.free,I.freeC,I.pin,I.hok,I.len⟩
theorem Inv.unwish (I:Inv (X.wish E) pins σ H s):Inv X pins σ H s:=⟨I.ok.unwish,I.os,I.bare,I.base,I.loc,I.cell,I.free,I.freeC,I.pin,I.hok,I.len⟩
theorem SP.unwish {D:jz}{f:Flow}{s':Shared} (h:SP (X.wish E) pins D f s'):SP X pins D f s':=by
 cases f with
 | next=>obtain ⟨σ',H',I,q⟩:=h;exact ⟨σ',H',I.unwish,q⟩
 | brk=>obtain ⟨σ',H',I,q⟩:=h;exact ⟨σ',H',I.unwish,q⟩
 | cont=>obtain ⟨σ',H',I,q⟩:=h;exact ⟨σ',H',I.unwish,q⟩
 | ret u=>obtain ⟨v,σ',H',I,r,q⟩:=h;exact ⟨v,σ',H',I.unwish,r,q⟩
theorem PSs.nox {st:List Stmt}{t:TS} (h:PSs X.nox st t):PSs X st t:=λpins s σ H D I hw =>
 wpAny_mono (h pins s σ H D (I.wish _) hw) (λ_ _ q=>q.unwish) λ_ _ z=>False.elim z
end
section
variable {X:Cx}{st:Stmt}{bb:List Stmt}{t u:TS}{e:Expr}{te:TE}{pos:Pos}
noncomputable def AS:TS:=λD σ H=>D.nx σ H
noncomputable def CN (t u:TS):TS:=λD σ H=>t { D with nx:=u D } σ H
theorem v_:PSs X [] AS:=λ_ _ σ H _ I h=>wpAny_execs_nil ⟨σ,H,I,h⟩
theorem sK (h1:PS X st t) (h2:PSs X bb u):PSs X (st::bb) (CN t u):=by
 intro pins s σ H D I h
 refine wpAny_execs_cons (thn (h1 pins s σ H { D with nx:=u D } I h) λf s1 q=>?_)
 cases f with
 | next =>
  obtain ⟨σ',H',I',q⟩:=q
  exact h2 pins s1 σ' H' D I' q
 | ret v=>exact q
 | brk=>exact q
 | cont=>exact q
theorem Inv.quiet {pins:List (Addr × Obj)}{σ:St}{H:Hp}{s:Shared} (I:Inv X pins σ H s):interactive X.env=false:=by simp [interactive,I.ok.kind]
noncomputable def AT (te:TE):TS:=λD σ H=>te σ H λ_ H1=>D.nx σ H1
theorem p6 (he:PE X e te) (hs:swapsWith e none pos.line X.env=pure false:=by rfl):PS X (.Expr e pos) (AT te):=by
 intro pins s σ H D I h
 exact wpAny_Expr_any (thn (he pins s σ H _ I h) λv s1 ⟨x,H1,I1,r1,q1⟩=>⟨σ,H1,I1,q1⟩) I.quiet hs
noncomputable def CO (te:TE):TS:=λD σ H=>te σ H D.rt
theorem sL (he:PE X e te):PS X (.Return (some e) pos) (CO te):=by
 intro pins s σ H D I h
 exact wpAny_Return_some (thn (he pins s σ H _ I h) λv s1 ⟨x,H1,I1,r1,q1⟩=>⟨x,σ,H1,I1,r1,q1⟩)
noncomputable def CP (c:TT) (t u:TS):TS:=λD σ H=>c σ H λb H1=>if b=true then t D σ H1 else u D σ H1
theorem AU {c:Expr}{a b:List Stmt}{tc:TT} (hc:PT X c tc) (ha:PSs X a t) (hb:PSs X b u):PS X (.If c a b pos) (CP tc t u):=by
 intro pins s σ H D I h
 refine wpAny_If (thn (hc pins s σ H _ I h) λd s1 ⟨H1,I1,q1⟩=>?_)
 cases d with
 | true=>exact ha pins s1 σ H1 D I1 q1
 | false=>exact hb pins s1 σ H1 D I1 q1
noncomputable def yD:TS:=λ_ _ _=>False
theorem sM:PS X st yD:=λ_ _ _ _ _ _ h=>h.elim
end
noncomputable abbrev TG:=V->St->Hp->(St->Hp->Prop)->Prop
noncomputable abbrev TGs:=List V->St->Hp->(St->Hp->Prop)->Prop
noncomputable def PG (X:Cx) (target:Expr) (t:TG):Prop :=
 ∀ (pins:List (Addr × Obj)) (s:Shared) (σ:St) (H:Hp) (v:V) (u:Value) (Q:St->Hp->Prop),Inv X pins σ H s->aq v u->t v σ H Q ->
  wpAny (model X.prog X.w) X.A (assign target X.env u) (λ_ s'=>∃ σ' H',Inv X pins σ' H' s'/\Q σ' H') X.xe s
noncomputable def PGs (X:Cx) (ts:List Expr) (t:TGs):Prop :=
 ∀ (pins:List (Addr × Obj)) (s:Shared) (σ:St) (H:Hp) (vs:List V) (us:List Value) (Q:St->Hp->Prop),Inv X pins σ H s->ar vs us->t vs σ H Q ->
  wpAny (model X.prog X.w) X.A (assignInOrder ((assignEach ts X.env).map (·.2)) us) (λ_ s'=>∃ σ' H',Inv X pins σ' H' s'/\Q σ' H') X.xe s
noncomputable abbrev CQ:=V->V->V->Hp->(Hp->Prop)->Prop
noncomputable def CS (X:Cx) (t:CQ):Prop :=
 ∀ (pins:List (Addr × Obj)) (s:Shared) (σ:St) (H:Hp) (o i v:V) (ov iv u:Value) (Q:Hp->Prop),Inv X pins σ H s->aq o ov->aq i iv->aq v u->t o i v H Q ->
  wpAny (model X.prog X.w) X.A (setItem ov iv u) (λ_ s'=>∃ H',Inv X pins σ H' s'/\Q H') X.xe s
section
variable {X:Cx}{pos:Pos}
noncomputable def ii (i:Nat):TG:=λv σ H Q=>Q (σ.set i (some v)) H
theorem mw {i:Nat}{x:Str} (hN:X.N.Nodup) (hi:X.N[i]?=some x) (hx:Loc X.env.scope x) (hf:X.fn x=true \/ X.env.scope.names.lookup x=some .local:=by first|exact .inl rfl|exact .inr rfl|assumption):PG X (.Name x pos) (ii i):=by
 intro pins s σ H v u Q I r h
 exact wpAny_assign_Name (ny I hN hi hx r (λs' I'=>⟨_,H,I',h⟩) hf)
noncomputable def AV:TGs:=λvs σ H Q=>vs=[]/\Q σ H
noncomputable def xO (t:TG) (u:TGs):TGs:=λvs σ H Q=>∃ v r,vs=v::r/\t v σ H λσ' H'=>u r σ' H' Q
theorem wc:PGs X [] AV:=by
 intro pins s σ H vs us Q I r h
 obtain ⟨e,h⟩:=h
 subst e
 cases r
 exact assignInOrder_nil ⟨σ,H,I,h⟩
theorem sN {e:Expr}{es:List Expr}{t:TG}{u:TGs} (h1:PG X e t) (h2:PGs X es u)
  (hs:(assignEach (e::es) X.env).map (·.2)=assign e X.env::(assignEach es X.env).map (·.2):=by rfl):PGs X (e::es) (xO t u):=by
 intro pins s σ H vs us Q I r h
 obtain ⟨v,vr,e1,h⟩:=h
 subst e1
 cases r with
 | cons r rr =>
  rw [hs]
  refine assignInOrder_cons (thn (h1 pins s σ H _ _ _ I r h) λ_ s1 ⟨σ1,H1,I1,q1⟩=>?_)
  exact h2 pins s1 σ1 H1 _ _ Q I1 rr q1
noncomputable def AW (K:PySem.W.Frag) (n:Nat) (t:TGs):TG:=λv σ H Q=>∃ a xs,v=.ref a/\SqT K H a xs/\xs.length=n/\t xs σ H Q
theorem yE {es:List Expr}{k:Nat}{t:TGs}{n:Nat} (hc:X.calm=true) (h:PGs X es t)
  (hn:(assignEach es X.env).length=n:=by rfl) (hst:(assignEach es X.env).findIdx? (·.1)=none:=by rfl):PG X (.Tuple es k pos) (AW X.K n t):=by
 intro pins s σ H v u Q I r hw
 obtain ⟨a,xs,e1,hq,hl,hw⟩:=hw
 subst e1
 cases r
 obtain ⟨its,rv,ht,hz⟩:=I.tuple hq
 refine assign_Tuple_tuple (I.ok.hd hc) ht (by simp [hn,<- hl,rv.length]) hst λh' hx=>?_
 have I1:Inv X pins σ H { s with heap:=h' }:=I.kept (t':=s.toks) λb o e=>hx b o (Nat.ne_of_lt (Heap.lt_size e)) e
 exact h pins _ σ H xs _ Q I1 (by simpa using rv) hw
noncomputable def sO (te:TE) (g:TG):TS:=λD σ H=>te σ H λx H1=>g x σ H1 D.nx
theorem mx {i:Nat}{x:Str}{e:Expr}{te:TE}{pos':Pos} (hN:X.N.Nodup) (hi:X.N[i]?=some x) (hx:Loc X.env.scope x) (he:PE X e te) (hs:swapsWith e (some (.Name x pos')) pos.line X.env=pure false:=by rfl) (hf:X.fn x=true \/ X.env.scope.names.lookup x=some .local:=by first|exact .inl rfl|exact .inr rfl|assumption) :
  PS X (.Assign [.Name x pos'] e pos) (sO te (ii i)):=by
 intro pins s σ H D I h
 refine wpAny_Assign_Name (thn (he pins s σ H _ I h) λv s1 ⟨y,H1,I1,r1,q1⟩=>?_) hs
 exact ny I1 hN hi hx r1 (λs2 I2=>⟨_,H1,I2,q1⟩) hf
end
section
variable {X:Cx}{pos:Pos}
end
structure It where
 go:Nat->Hp->Prop
 yld:Nat->Hp->V->Hp->Prop
 stop:Nat->Hp->Prop
noncomputable def jA (X:Cx) (pins:List (Addr × Obj)) (H:Hp) (b:Addr):Prop :=
 H b=none/\b ≠ X.env.locals/\b ∉ X.fs/\(b ∈ X.ex \/ X.s₀.heap.objs.size <= b)/\(∀ x c,X.env.cells.lookup x=some c->c ≠ b)/\∀ p ∈ X.pn ++ pins,p.1 ≠ b
theorem Inv.fpOk {X:Cx}{pins:List (Addr × Obj)}{σ:St}{H H':Hp}{s:Shared}{b:Addr} (I:Inv X pins σ H s) (hb:s.heap.objs.size <= b) (hn:H' b=none):jA X pins H' b:=by
 refine ⟨hn,Nat.ne_of_gt (Nat.lt_of_lt_of_le I.lt hb),I.nofs hb,.inr (Nat.le_trans I.sz hb),λx c e z=>?_,λp hp z=>?_⟩
 ·obtain ⟨v,q⟩:=I.cell x c e
  exact absurd (Nat.lt_of_lt_of_le q.lt (by rw [z];exact hb)) (Nat.lt_irrefl _)
 ·exact absurd (Nat.lt_of_lt_of_le (Heap.lt_size (I.pin p hp).1) (by rw [z];exact hb)) (Nat.lt_irrefl _)
structure rj (P:Program) (w:World) (K:PySem.W.Frag) (tg:Expr) (J:It) (fp:List Addr) (it:Addr) (tn:Nat->Heap->Prop):Prop where
 mem:it ∈ fp
 obj:∀ i h,tn i h->∀ b ∈ fp,∃ o,h.get? b=some o/\∀ v,o.data ≠ .cell v
 keep:∀ i h h',tn i h->(∀ b ∈ fp,∀ o,h.get? b=some o->h'.get? b=some o)->tn i h'
 item:∀ (X:Cx),X.prog=P->X.w=w->X.K=K->X.calm=true->∀ (i:Nat) (pins:List (Addr × Obj)) (s:Shared) (σ:St) (H:Hp) (E:Value->Shared->Prop),Inv X pins σ H s->(∀ b ∈ fp,jA X pins H b)->tn i s.heap->J.go i H ->
  wpAny (model P w) X.A (pyNext (.ref it)) (λr s1=>∃ u,r=some u /\
   wpAny (model P w) X.A (letOwnedTupleGo tg (.ref it) u) (λ_ s2=>∃ x H',Inv X pins σ H' s2/\aq x u/\J.yld i H x H'/\tn (i + 1) s2.heap/\∀ b ∈ fp,H' b=none) E s1) E s
 done:∀ (X:Cx),X.prog=P->X.w=w->X.K=K->X.calm=true->∀ (i:Nat) (pins:List (Addr × Obj)) (s:Shared) (σ:St) (H:Hp) (E:Value->Shared->Prop),Inv X pins σ H s->(∀ b ∈ fp,jA X pins H b)->tn i s.heap->J.stop i H ->
  wpAny (model P w) X.A (pyNext (.ref it)) (λr s1=>r=none/\Inv X pins σ H s1) E s
 self:∀ (A:Around) (i:Nat) (s:Shared) (Q:Value->Shared->Prop) (E:Value->Shared->Prop),tn i s.heap->Q (.ref it) s->wpAny (model P w) A (pyIter (.ref it)) Q E s
noncomputable abbrev TI:=St->Hp->(It->Hp->Prop)->Prop
noncomputable def PIE (X:Cx) (pins:List (Addr × Obj)) (σ:St) (tg:Expr) (R:It->Hp->Prop) (itv:Value) (s2:Shared):Prop :=
 ∃ (it:Addr) (fp:List Addr) (tn:Nat->Heap->Prop) (J:It) (H':Hp),itv=.ref it/\Inv X pins σ H' s2/\rj X.prog X.w X.K tg J fp it tn/\tn 0 s2.heap/\(∀ b ∈ fp,jA X pins H' b)/\R J H'
noncomputable def PI (X:Cx) (tg iter:Expr) (wi:TI):Prop :=
 ∀ (pins:List (Addr × Obj)) (s:Shared) (σ:St) (H:Hp) (R:It->Hp->Prop),Inv X pins σ H s->wi σ H R ->
  wpAny (model X.prog X.w) X.A (eval iter X.env) (λv s1=>wpAny (model X.prog X.w) X.A (pyIter v) (PIE X pins σ tg R) X.xe s1) X.xe s
theorem sP {M:Model}{A:Around}{E:Value->Shared->Prop}{s:Shared}{tg:Expr}{it:Addr}{u:Value}{o:Obj}{n:String}{vs:Array Value}{Q:Unit->Shared->Prop} (ho:s.heap.get? it=some o) (hc:o.cls=.type n) (hd:o.data=.fields vs)
    (hn:["enumerate","zip","dict_itemiterator","dict_reverseitemiterator","odict_iterator","itertools.zip_longest","itertools.pairwise"].contains n=false) (hQ:Q () s):wpAny M A (letOwnedTupleGo tg (.ref it) u) Q E s:=by
  unfold letOwnedTupleGo
  cases tg <;> first
    | exact wpAny_pure hQ
    | (cases u <;> first
        | exact wpAny_pure hQ
        | (refine wpAny_bind (wpAny_load ho ?_)
           rw [hc,hd]
           show wpAny M A (if (["enumerate","zip","dict_itemiterator","dict_reverseitemiterator","odict_iterator","itertools.zip_longest","itertools.pairwise"].contains n&&vs[0]? == some (rawInt _))=true then _ else _) Q E s
           rw [if_neg (by intro h;rw [hn,Bool.false_and] at h;cases h)]
           exact wpAny_pure hQ))
noncomputable def Itl (K:PySem.W.Frag) (a:Addr):It :=
 ⟨λi H=>∃ xs x,SqL K H a xs/\xs[i]?=some x,λi H x H'=>H'=H/\∀ xs,SqL K H a xs->xs[i]?=some x,λi H=>∃ xs,SqL K H a xs/\xs.length <= i⟩
noncomputable def Itt (K:PySem.W.Frag) (a:Addr):It :=
 ⟨λi H=>∃ xs x,SqT K H a xs/\xs[i]?=some x,λi H x H'=>H'=H/\∀ xs,SqT K H a xs->xs[i]?=some x,λi H=>∃ xs,SqT K H a xs/\xs.length <= i⟩
noncomputable def Itr (lo:Int) (n:Nat):It:=⟨λi _=>i < n,λi H x H'=>H'=H/\x=.int (lo + i),λi _=>n <= i⟩
theorem rk {P:Program}{w:World}{K:PySem.W.Frag}{tg:Expr} (a it:Addr):rj P w K tg (Itl K a) [it] it (λi h=>h.IsListIter it a i) where
 mem:=by simp
 obj:=λi h st b hb=>by
  have e:b=it:=by simpa using hb
  subst e
  obtain ⟨o,e,c,d⟩:=st
  exact ⟨o,e,λv z=>by rw [d] at z;cases z⟩
 keep:=λi h h' st k=>st.at λo e=>k it (by simp) o e
 item:=by
  intro X hP hw hK hc i pins s σ H E I hf st hg
  subst hP hw hK
  obtain ⟨xs,x,hq,hx⟩:=hg
  obtain ⟨its,rv,p,hz⟩:=I.list hq
  obtain ⟨u,hu,ru⟩:=rv.get hx
  obtain ⟨f0,f1,f2,f3,f4,f5⟩:=hf it (by simp)
  refine wpAny_pyNext_list_item st p.isList (x:=u) (by simpa using hu) λh' st' sb=>?_
  have I1:Inv X pins σ H { s with heap:=h' }:=I.turned (t':=s.toks) (λb o hb e=>(sb.2 b hb).trans e) f0 f1 f3 f4 f5
  obtain ⟨o,e,c,d⟩:=id st'
  exact ⟨u,rfl,sP (s:={ s with heap:=h' }) e c d (by decide) ⟨x,H,I1,ru,⟨rfl,λys hy=>by rw [I.list_inj hy hq];exact hx⟩,st',λb hb=>(hf b hb).1⟩⟩
 done:=by
  intro X hP hw hK hc i pins s σ H E I hf st hg
  subst hP hw hK
  obtain ⟨xs,hq,hx⟩:=hg
  obtain ⟨its,rv,p,hz⟩:=I.list hq
  obtain ⟨f0,f1,f2,f3,f4,f5⟩:=hf it (by simp)
  have hl:=rv.length
  exact wpAny_pyNext_list_end (I.ok.hd hc) st p.isList (by simp;omega) λh' eb=>⟨rfl,I.turned (t':=s.toks) (λb o hb e=>eb b o hb e) f0 f1 f3 f4 f5⟩
 self:=λ_ _ _ _ _ st h=>wpAny_pyIter_listiter st h
theorem o9 {P:Program}{w:World}{K:PySem.W.Frag}{tg:Expr} (a it:Addr):rj P w K tg (Itt K a) [it] it (λi h=>h.IsTupleIter it a i) where
 mem:=by simp
 obj:=λi h st b hb=>by
  have e:b=it:=by simpa using hb
  subst e
  obtain ⟨o,e,c,d⟩:=st
  exact ⟨o,e,λv z=>by rw [d] at z;cases z⟩
 keep:=λi h h' st k=>st.at λo e=>k it (by simp) o e
 item:=by
  intro X hP hw hK hc i pins s σ H E I hf st hg
  subst hP hw hK
  obtain ⟨xs,x,hq,hx⟩:=hg
  obtain ⟨its,rv,p,hz⟩:=I.tuple hq
  obtain ⟨u,hu,ru⟩:=rv.get hx
  obtain ⟨f0,f1,f2,f3,f4,f5⟩:=hf it (by simp)
  refine wpAny_pyNext_tuple_item st (show s.heap.IsTuple a its.toArray from p) (x:=u) (by simpa using hu) λh' st' sb=>?_
  have I1:Inv X pins σ H { s with heap:=h' }:=I.turned (t':=s.toks) (λb o hb e=>(sb.2 b hb).trans e) f0 f1 f3 f4 f5
  obtain ⟨o,e,c,d⟩:=id st'
  exact ⟨u,rfl,sP (s:={ s with heap:=h' }) e c d (by decide) ⟨x,H,I1,ru,⟨rfl,λys hy=>by rw [I.tuple_inj hy hq];exact hx⟩,st',λb hb=>(hf b hb).1⟩⟩
 done:=by
  intro X hP hw hK hc i pins s σ H E I hf st hg
  subst hP hw hK
  obtain ⟨xs,hq,hx⟩:=hg
  obtain ⟨its,rv,p,hz⟩:=I.tuple hq
  obtain ⟨f0,f1,f2,f3,f4,f5⟩:=hf it (by simp)
  have hl:=rv.length
  exact wpAny_pyNext_tuple_end (I.ok.hd hc) st (show s.heap.IsTuple a its.toArray from p) (by simp;omega) λh' eb=>⟨rfl,I.turned (t':=s.toks) (λb o hb e=>eb b o hb e) f0 f1 f3 f4 f5⟩
 self:=λ_ _ _ _ _ st h=>wpAny_pyIter_tupleiter st h
theorem o_ {P:Program}{w:World}{K:PySem.W.Frag}{tg:Expr} (it:Addr) (lo:Int) (n:Nat):rj P w K tg (Itr lo n) [it] it (λi h=>IsRangeIter h it (lo + (i:Nat) * 1) ((n:Int) - (i:Nat)) 1) where
 mem:=by simp
 obj:=λi h st b hb=>by
  have e:b=it:=by simpa using hb
  subst e
  exact ⟨_,st,λv z=>by
   have z':Data.fields _=Data.cell v:=z
   cases z'⟩
 keep:=λi h h' st k=>k it (by simp) _ st
 item:=by
  intro X hP hw hK hc i pins s σ H E I hf st hg
  subst hP hw hK
  obtain ⟨f0,f1,f2,f3,f4,f5⟩:=hf it (by simp)
  have W:=Walks.range (prog:=X.prog) (w:=X.w) (I.ok.hd hc) it lo 1 n
  refine W.item i s _ _ hg st λv h' tk hv st' kk=>?_
  obtain ⟨t,rfl⟩:=hv
  have I1:Inv X pins σ H { s with heap:=h',toks:=tk }:=I.turned (λb o hb e=>kk b o (by simpa using hb) e) f0 f1 f3 f4 f5
  refine ⟨_,rfl,sP (s:={ s with heap:=h',toks:=tk }) (n:="range_iterator") st' rfl rfl (by decide) ⟨.int (lo + i),H,I1,⟨t,?_⟩,⟨rfl,rfl⟩,st',λb hb=>(hf b hb).1⟩⟩
  rw [Int.mul_one]
 done:=by
  intro X hP hw hK hc i pins s σ H E I hf st hg
  subst hP hw hK
  obtain ⟨f0,f1,f2,f3,f4,f5⟩:=hf it (by simp)
  exact wpAny_pyNext_range_end (I.ok.hd hc) st (by have:n <= i:=hg;omega) λh' eb=>⟨rfl,I.turned (t':=s.toks) (λb o hb e=>eb b o hb e) f0 f1 f3 f4 f5⟩
 self:=λ_ _ _ _ _ st h=>wpAny_pyIter_rangeiter st h
end L2
namespace L2
open PySem PySem.Spec PyProof.Rows
section
variable {X:Cx}{tg:Expr}
noncomputable def AX (K:PySem.W.Frag) (tl:TE):TI:=λσ H R=>tl σ H λx H1=>∃ a,x=.ref a/\(∃ xs,SqL K H1 a xs)/\R (Itl K a) H1
noncomputable def CT (K:PySem.W.Frag) (tl:TE):TI:=λσ H R=>tl σ H λx H1=>∃ a,x=.ref a/\(∃ xs,SqT K H1 a xs)/\R (Itt K a) H1
theorem p7 {l:Expr}{tl:TE} (hl:PE X l tl):PI X tg l (AX X.K tl):=by
 intro pins s σ H R I h
 refine thn (hl pins s σ H _ I h) λv s1 ⟨x,H1,I1,r1,q1⟩=>?_
 obtain ⟨a,e,⟨xs,hq⟩,q⟩:=q1
 subst e
 cases r1
 obtain ⟨its,rv,p,hz⟩:=I1.list hq
 refine wpAny_pyIter_list p.isList ?_
 refine ⟨s1.heap.objs.size,[s1.heap.objs.size],_,_,H1,rfl,I1.kept (t':=s1.toks) λb o e=>Heap.get?_push_of_some _ e,rk a _,⟨_,Heap.get?_push_size _ rfl,rfl,rfl⟩,λb hb=>?_,q⟩
 have e:b=s1.heap.objs.size:=by simpa using hb
 subst e
 exact I1.fpOk (Nat.le_refl _) (I1.hok.fresh (Nat.le_refl _))
theorem sQ {l:Expr}{tl:TE} (hl:PE X l tl):PI X tg l (CT X.K tl):=by
 intro pins s σ H R I h
 refine thn (hl pins s σ H _ I h) λv s1 ⟨x,H1,I1,r1,q1⟩=>?_
 obtain ⟨a,e,⟨xs,hq⟩,q⟩:=q1
 subst e
 cases r1
 obtain ⟨its,rv,p,hz⟩:=I1.tuple hq
 refine wpAny_pyIter_tuple (show s1.heap.IsTuple a its.toArray from p) ?_
 refine ⟨s1.heap.objs.size,[s1.heap.objs.size],_,_,H1,rfl,I1.kept (t':=s1.toks) λb o e=>Heap.get?_push_of_some _ e,o9 a _,⟨_,Heap.get?_push_size _ rfl,rfl,rfl⟩,λb hb=>?_,q⟩
 have e:b=s1.heap.objs.size:=by simpa using hb
 subst e
 exact I1.fpOk (Nat.le_refl _) (I1.hok.fresh (Nat.le_refl _))
theorem nz {pins:List (Addr × Obj)}{σ:St}{H:Hp}{s:Shared}{R:It->Hp->Prop}{E:Value->Shared->Prop}{lo hi:Int}{t u v:Tok}{tk:Nat} (I:Inv X pins σ H s) (h1:-(2 ^ 62) <= lo) (h2:lo < 2 ^ 62) (h3:-(2 ^ 62) <= hi) (h4:hi < 2 ^ 62)
  (q:R (Itr lo (hi - lo).toNat) H):wpAny (model X.prog X.w) X.A (pyIter (.ref s.heap.objs.size)) (PIE X pins σ tg R) E { s with heap:=s.heap.push { cls:=.type "range",data:=.fields #[.int lo t,.int hi u,.int 1 v] },toks:=tk }:=by
 refine wpAny_pyIter_range (IsRange.new ..) (small_one h1 h2 h3 h4) ?_
 have I1:Inv X pins σ H { s with heap:=s.heap.push { cls:=.type "range",data:=.fields #[.int lo t,.int hi u,.int 1 v] },toks:=tk }:=I.kept λb o e=>Heap.get?_push_of_some _ e
 refine ⟨(s.heap.push { cls:=.type "range",data:=.fields #[.int lo t,.int hi u,.int 1 v] }).objs.size,[(s.heap.push { cls:=.type "range",data:=.fields #[.int lo t,.int hi u,.int 1 v] }).objs.size],_,_,H,rfl,
  I1.kept (t':=tk) λb o e=>Heap.get?_push_of_some _ e,o_ _ lo (hi - lo).toNat,?_,λb hb=>?_,q⟩
 ·have e1:lo + ((0:Nat):Int) * 1=lo:=by simp
  have e2:(((hi - lo).toNat:Nat):Int) - ((0:Nat):Int)=Builtin.Range.rangeSize lo hi 1:=by rw [rangeSize_one];split <;> omega
  show IsRangeIter _ _ (lo + ((0:Nat):Int) * 1) ((((hi - lo).toNat:Nat):Int) - ((0:Nat):Int)) 1
  rw [e1,e2]
  exact Heap.get?_push_size _ rfl
 ·have e:b=(s.heap.push { cls:=.type "range",data:=.fields #[.int lo t,.int hi u,.int 1 v] }).objs.size:=by simpa using hb
  subst e
  exact I1.fpOk (Nat.le_refl _) (I1.hok.fresh (Nat.le_refl _))
noncomputable def AY (ta:TA):TI:=λσ H R=>ta σ H λvs H1=>∃ j:Int,vs=[.int j]/\-(2 ^ 62) <= j/\j < 2 ^ 62/\R (Itr 0 j.toNat) H1
noncomputable def AZ (ta:TA):TI:=λσ H R=>ta σ H λvs H1=>∃ i j:Int,vs=[.int i,.int j]/\(-(2 ^ 62) <= i/\i < 2 ^ 62/\-(2 ^ 62) <= j/\j < 2 ^ 62)/\R (Itr i (j - i).toNat) H1
theorem rl {a:Expr}{ta:TA}{p pos:Pos} (hg:Gl X "range") (hm:X.mg "range"=none) (ha:PA X [a] ta) (hs:starEach [a] X.env=[(false,eval a X.env)]:=by rfl):PI X tg (.Call (.Name "range" p) [a] [] pos) (AY ta):=by
 intro pins s σ H R I h
 refine Call_ (fG I hg hm boot_range (PyProof.Rows.callWith_type1 (thn (ha pos pins s σ H _ I h) λus s1 ⟨vs,H1,I1,r1,q1⟩=>?_) hs rfl))
 obtain ⟨j,e,q1,q2,q⟩:=q1
 subst e
 cases r1 with
 | cons r rr =>
  cases rr
  obtain ⟨t,rfl⟩:=r
  exact call_range_1 (nz I1 (by omega) (by omega) q1 q2 (by simpa using q))
theorem rm {a b:Expr}{ta:TA}{p pos:Pos} (hg:Gl X "range") (hm:X.mg "range"=none) (ha:PA X [a,b] ta) (hs:starEach [a,b] X.env=[(false,eval a X.env),(false,eval b X.env)]:=by rfl) (hs2:starEach [b] X.env=[(false,eval b X.env)]:=by rfl) :
  PI X tg (.Call (.Name "range" p) [a,b] [] pos) (AZ ta):=by
 intro pins s σ H R I h
 refine Call_ (fG I hg hm boot_range (PyProof.Rows.callWith_type1 (thn (ha pos pins s σ H _ I h) λus s1 ⟨vs,H1,I1,r1,q1⟩=>?_) (by rw [hs,hs2]) (by rw [hs2];rfl)))
 obtain ⟨i,j,e,⟨q1,q2,q3,q4⟩,q⟩:=q1
 subst e
 cases r1 with
 | cons r rr =>
  cases rr with
  | cons r' rr =>
   cases rr
   obtain ⟨t,rfl⟩:=r
   obtain ⟨t',rfl⟩:=r'
   exact call_range_2 (nz I1 q1 q2 q3 q4 q)
noncomputable def A0 (wi:TI) (g:TG) (tb:TS):TS:=λD σ H=>wi σ H λJ H1=>∃ W:Nat->Nat->St->Hp->Prop,(∃ m,W 0 m σ H1)/\∀ i m σ H,W i m σ H ->
 (J.stop i H/\D.nx σ H) \/ (J.go i H/\∃ N:St->Hp->Prop,(∀ σ' H',N σ' H'->∃ m',m' < m/\W (i + 1) m' σ' H')/\∀ x H',J.yld i H x H'->g x σ H' λσ2 H2=>tb { D with nx:=N,ct:=N,bk:=D.nx } σ2 H2)
noncomputable def jS (fp:List Addr) (h:Heap):List (Addr × Obj):=fp.filterMap λb=>(h.get? b).map λo=>(b,o)
theorem eY {fp:List Addr}{h:Heap}{b:Addr}{o:Obj} (hb:b ∈ fp) (e:h.get? b=some o):(b,o) ∈ jS fp h:=List.mem_filterMap.mpr ⟨b,hb,by rw [e];rfl⟩
theorem rn {fp:List Addr}{h:Heap}{p:Addr × Obj} (hp:p ∈ jS fp h):p.1 ∈ fp/\h.get? p.1=some p.2:=by
 obtain ⟨b,hb,e⟩:=List.mem_filterMap.mp hp
 cases q:h.get? b with
 | none=>rw [q] at e;cases e
 | some o =>
  rw [q] at e
  have e':(b,o)=p:=Option.some.inj e
  subst e'
  exact ⟨hb,q⟩
theorem Inv.pinned {pins:List (Addr × Obj)}{σ:St}{H:Hp}{s:Shared}{fp:List Addr} (I:Inv X pins σ H s) (hf:∀ b ∈ fp,jA X pins H b) (ho:∀ b ∈ fp,∃ o,s.heap.get? b=some o/\∀ v,o.data ≠ .cell v):Inv X (pins ++ jS fp s.heap) σ H s :=
 I.pins_of λp hp=>(List.mem_append.mp hp).elim (λz=>I.pin p (List.mem_append_right _ z)) λz=>by
  obtain ⟨hb,e⟩:=rn z
  obtain ⟨f0,f1,f2,_⟩:=hf p.1 hb
  obtain ⟨o,e',d⟩:=ho p.1 hb
  rw [e] at e';cases e'
  exact ⟨e,f0,f1,f2,d⟩
theorem Inv.unpinned {pins pl:List (Addr × Obj)}{σ:St}{H:Hp}{s:Shared} (I:Inv X (pins ++ pl) σ H s):Inv X pins σ H s:=I.pins_of λp hp=>I.pin p (List.mem_append_right _ (List.mem_append_left _ hp))
theorem sR {iter:Expr}{body:List Stmt}{wi:TI}{g:TG}{tb:TS}{pos:Pos} (hp:PassesOwn (model X.prog X.w) X.A X.env X.xe) (hc:X.calm=true) (hi:PI X tg iter wi) (hg:PG X tg g) (hb:PSs X body tb)
  (hs:∀ x,foldedSetIterable iter X.env x=pure x:=by intro _;rfl):PS X (.For tg iter body [] pos) (A0 wi g tb):=by
 intro pins s σ H D I h
 refine wpAny_For (thn (hi pins s σ H _ I h) λv s1 h1=>thn h1 λitv s2 h2=>?_) hs
 obtain ⟨it,fp,tn,J,H2,e,I2,T,st2,f2,W,⟨m0,w0⟩,turn⟩:=h2
 subst e
 have stat:∀ {H':Hp},(∀ b ∈ fp,H' b=none)->∀ b ∈ fp,jA X pins H' b:=λhn b hb=>⟨hn b hb,(f2 b hb).2⟩
 refine codeAny_forLoop_any (λn s'=>∃ i σ' H',Inv X pins σ' H' s'/\tn i s'.heap/\(∀ b ∈ fp,H' b=none)/\W i n σ' H') ?_ m0 ⟨0,σ,H2,I2,st2,λb hb=>(f2 b hb).1,w0⟩
 rintro n s3 ⟨i,σ3,H3,I3,st3,fr3,w3⟩
 rcases turn i n σ3 H3 w3 with ⟨stop,qn⟩|⟨go,N,hN,step⟩
 ·refine wpAny_passesOwn hp (thn (T.done X rfl rfl rfl hc i pins s3 σ3 H3 X.xe I3 (stat fr3) st3 stop) λr s4 ⟨hr,I4⟩=>?_)
  subst hr
  exact wpAny_execs_nil ⟨σ3,H3,I4,qn⟩
 ·refine wpAny_passesOwn hp (thn (T.item X rfl rfl rfl hc i pins s3 σ3 H3 X.xe I3 (stat fr3) st3 go) λr s4 ⟨u,hr,h4⟩=>?_)
  subst hr
  refine wpAny_passesOwn hp (thn h4 λ_ s5 ⟨x,H5,I5,r5,y5,st5,fr5⟩=>?_)
  have I5':=I5.pinned (stat fr5) (T.obj _ _ st5)
  refine wpAny_passesOwn hp (thn (hg _ s5 σ3 H5 x u _ I5' r5 (step x H5 y5)) λ_ s6 ⟨σ6,H6,I6,q6⟩=>?_)
  refine wpAny_passesOwn hp (thn (hb _ s6 σ6 H6 _ I6 q6) λf s7 q7=>?_)
  have again:∀ {σ7:St}{H7:Hp},Inv X (pins ++ jS fp s5.heap) σ7 H7 s7->N σ7 H7->∃ m,m < n/\∃ i σ' H',Inv X pins σ' H' s7/\tn i s7.heap/\(∀ b ∈ fp,H' b=none)/\W i m σ' H':=λ{σ7 H7} I7 n7=>by
   obtain ⟨m',hm,w7⟩:=hN σ7 H7 n7
   refine ⟨m',hm,i + 1,σ7,H7,I7.unpinned,T.keep _ _ _ st5 λb hb o e=>(I7.pin (b,o) (List.mem_append_right _ (List.mem_append_right _ (eY hb e)))).1,λb hb=>?_,w7⟩
   obtain ⟨o,e,d⟩:=T.obj _ _ st5 b hb
   exact (I7.pin (b,o) (List.mem_append_right _ (List.mem_append_right _ (eY hb e)))).2.1
  cases f with
  | next=>obtain ⟨σ7,H7,I7,n7⟩:=q7;exact again I7 n7
  | cont=>obtain ⟨σ7,H7,I7,n7⟩:=q7;exact again I7 n7
  | brk=>obtain ⟨σ7,H7,I7,q7⟩:=q7;exact ⟨σ7,H7,I7.unpinned,q7⟩
  | ret v=>obtain ⟨x7,σ7,H7,I7,r7,q7⟩:=q7;exact ⟨x7,σ7,H7,I7.unpinned,r7,q7⟩
end
end L2
namespace L2
open PySem PySem.Spec PyProof.Rows
noncomputable abbrev R2:=V->V->Hp->VK->Prop
noncomputable def OpR (X:Cx) (f:Value->Value->Sem Value) (r:R2):Prop :=
 ∀ (pins:List (Addr × Obj)) (s:Shared) (σ:St) (H:Hp) (x y:V) (v u:Value) (Q:VK),Inv X pins σ H s->aq x v->aq y u->r x y H Q ->
  wpAny (model X.prog X.w) X.A (f v u) (EP X pins σ Q) X.xe s
noncomputable def bp (X:Cx) (f:Value) (r:List V->Hp->VK->Prop):Prop :=
 ∀ (pins:List (Addr × Obj)) (s:Shared) (σ:St) (H:Hp) (xs:List V) (us:List Value) (Q:VK),Inv X pins σ H s->ar xs us->r xs H Q ->
  wpAny (model X.prog X.w) X.A (call f us) (EP X pins σ Q) X.xe s
noncomputable def tOp (r:R2) (ta tb:TE):TE:=λσ H Q=>ta σ H λx H1=>tb σ H1 λy H2=>r x y H2 Q
noncomputable def rI (C:Int->Int->Prop) (g:Int->Int->V):R2:=λx y H Q=>∃ i j,x=.int i/\y=.int j/\C i j/\Q (g i j) H
noncomputable def rI0 (g:Int->Int->V):R2:=λx y H Q=>∃ i j,x=.int i/\y=.int j/\Q (g i j) H
section
variable {X:Cx}{a b c:Expr}{ta tb tc:TE}{pos:Pos}
theorem yF (ha:PE X a ta) (hb:PE X b tb) {pins:List (Addr × Obj)}{s:Shared}{σ:St}{H:Hp}{R:V->V->Hp->Prop} (I:Inv X pins σ H s)
  (h:ta σ H λx H1=>tb σ H1 λy H2=>R x y H2) {Q:Value->Shared->Prop}{f:Value->Value->Sem Value}
  (hf:∀ v u s2 x y H2,Inv X pins σ H2 s2->aq x v->aq y u->R x y H2->wpAny (model X.prog X.w) X.A (f v u) Q X.xe s2) :
  wpAny (model X.prog X.w) X.A (eval a X.env) (λv s₁=>wpAny (model X.prog X.w) X.A (eval b X.env) (λu s₂=>wpAny (model X.prog X.w) X.A (f v u) Q X.xe s₂) X.xe s₁) X.xe s:=by
 refine thn (ha pins s σ H _ I h) λv s1 ⟨x,H1,I1,r1,q1⟩=>?_
 refine thn (hb pins s1 σ H1 _ I1 q1) λu s2 ⟨y,H2,I2,r2,q2⟩=>?_
 exact hf v u s2 x y H2 I2 r1 r2 q2
theorem xP {op:Operator}{r:R2} (ho:OpR X (binaryOp op) r) (ha:PE X a ta) (hb:PE X b tb):PE X (.BinOp a op b pos) (tOp r ta tb):=by
 intro pins s σ H Q I h
 exact wpAny_BinOp (yF ha hb I h λv u s2 x y H2 I2 rx ry q=>ho pins s2 σ H2 x y v u Q I2 rx ry q)
theorem opI {f:Value->Value->Sem Value}{C:Int->Int->Prop}{g:Int->Int->Int}
  (rule:∀ (i j:Int) (t u:Tok) (s:Shared) (Q:Value->Shared->Prop) (E:Value->Shared->Prop),C i j->Q (.int (g i j) s.toks) { s with toks:=s.toks + 1 }->wpAny (model X.prog X.w) X.A (f (.int i t) (.int j u)) Q E s) :
  OpR X f (rI C λi j=>.int (g i j)):=by
 intro pins s σ H x y v u Q I rx ry h
 obtain ⟨i,j,rfl,rfl,hc,q⟩:=h
 obtain ⟨t,rfl⟩:=rx
 obtain ⟨t',rfl⟩:=ry
 exact rule i j t t' s _ _ hc ⟨.int (g i j),H,I.tok _,⟨_,rfl⟩,q⟩
theorem A1 {f:Value->Value->Sem Value}{g:Int->Int->Int}
  (rule:∀ (i j:Int) (t u:Tok) (s:Shared) (Q:Value->Shared->Prop) (E:Value->Shared->Prop),Q (.int (g i j) s.toks) { s with toks:=s.toks + 1 }->wpAny (model X.prog X.w) X.A (f (.int i t) (.int j u)) Q E s) :
  OpR X f (rI0 λi j=>.int (g i j)):=by
 intro pins s σ H x y v u Q I rx ry h
 obtain ⟨i,j,rfl,rfl,q⟩:=h
 obtain ⟨t,rfl⟩:=rx
 obtain ⟨t',rfl⟩:=ry
 exact rule i j t t' s _ _ ⟨.int (g i j),H,I.tok _,⟨_,rfl⟩,q⟩
theorem wd {f:Value->Value->Sem Value}{g:Int->Int->Bool}
  (rule:∀ (i j:Int) (t u:Tok) (s:Shared) (Q:Value->Shared->Prop) (E:Value->Shared->Prop),Q (.bool (g i j)) s->wpAny (model X.prog X.w) X.A (f (.int i t) (.int j u)) Q E s) :
  OpR X f (rI0 λi j=>.bl (g i j)):=by
 intro pins s σ H x y v u Q I rx ry h
 obtain ⟨i,j,rfl,rfl,q⟩:=h
 obtain ⟨t,rfl⟩:=rx
 obtain ⟨t',rfl⟩:=ry
 exact rule i j t t' s _ _ ⟨.bl (g i j),H,I,rfl,q⟩
noncomputable def CU (i j:Int):Prop:=0 < j/\j < 1073741824
noncomputable def CV (i j:Int):Prop:=0 <= j/\j <= 1000000/\i.natAbs < 2 ^ 64
noncomputable def yG (i j:Int):Prop:=(-(2 ^ 64) < i/\i < 2 ^ 64) \/ (-(2 ^ 64) < j/\j < 2 ^ 64)
theorem yG.ok {i j:Int} (h:yG i j):IntMulOk i j:=by
 rcases h with ⟨h1,h2⟩|⟨h1,h2⟩
 ·exact .of_left (intBits_le_64 h1 h2)
 ·exact .of_right (intBits_le_64 h1 h2)
theorem pe (k:Nat):(0:Int) <= 2 ^ k:=by
 rw [two_pow_cast]
 exact Int.natCast_nonneg _
theorem yH:OpR X (binaryOp .Add) (rI0 λi j=>.int (i + j)):=A1 λ_ _ _ _ _ _ _ q=>add_int q
theorem yI:OpR X (binaryOp .Sub) (rI0 λi j=>.int (i - j)):=A1 λ_ _ _ _ _ _ _ q=>sub_int q
theorem yJ:OpR X (binaryOp .Mult) (rI yG λi j=>.int (i * j)):=opI λ_ _ _ _ _ _ _ hc q=>mul_int q hc.ok
theorem we:OpR X (binaryOp .FloorDiv) (rI CU λi j=>.int (i / j)):=opI λi j _ _ _ _ _ hc q=>by
 have h1:(0:Int) < j:=hc.1
 have h2:j < 1073741824:=hc.2
 exact floordiv_int (by omega) (by rw [Int.fdiv_eq_ediv_of_nonneg i (by omega)];exact q) (.inl (PyProof.noPylong_small (by omega)))
theorem yK:OpR X (binaryOp .Mod) (rI (λ_ j=>0 < j) λi j=>.int (i % j)):=opI λi j _ _ _ _ _ hc q=>by
 have h1:(0:Int) < j:=hc
 exact mod_int' (by omega) (by rw [Int.fmod_eq_emod_of_nonneg i (by omega)];exact q)
theorem yL:OpR X (binaryOp .Pow) (rI CV λi j=>.int (i ^ j.toNat)):=opI λ_ _ _ _ _ _ _ hc q=>pow_int_small hc.1 hc.2.1 hc.2.2 q
theorem yM:OpR X (binaryOp .RShift) (rI (λ_ j=>0 <= j) λi j=>.int (i / 2 ^ j.toNat)):=opI λi j _ _ _ _ _ hc q =>
 rshift_int hc (by rw [Int.fdiv_eq_ediv_of_nonneg i (pe _)];exact q)
end
noncomputable def scal:V->V->Bool
 | .non,.non=>true|.non,.int _=>true|.int _,.non=>true|.non,.bl _=>true|.bl _,.non=>true|.non,.str _=>true|.str _,.non=>true
 | .int _,.int _=>true|.bl _,.bl _=>true|.str _,.str _=>true|.byt _,.byt _=>true
 | .int _,.str _=>true|.str _,.int _=>true|.bl _,.str _=>true|.str _,.bl _=>true
 | _,_=>false
noncomputable def rNe:R2:=λx y H Q=>scal x y=true/\Q (.bl (!decide (x=y))) H
theorem p8 {i j:Int}:decide (V.int i=V.int j)=(i == j):=by
 rw [Bool.eq_iff_iff]
 simp
theorem sS {i j:Bool}:decide (V.bl i=V.bl j)=(i == j):=by
 rw [Bool.eq_iff_iff]
 simp
theorem p9 {i j:Str}:decide (V.str i=V.str j)=(i == j):=by
 rw [Bool.eq_iff_iff]
 simp
theorem wf {i j:Array UInt8}:decide (V.byt i=V.byt j)=(i.toList == j.toList):=by
 rw [Bool.eq_iff_iff]
 cases i
 cases j
 simp
section
variable {X:Cx}{a b c:Expr}{ta tb tc:TE}{pos:Pos}
theorem bz {pins:List (Addr × Obj)}{σ:St}{H:Hp}{s:Shared}{Q:VK}{k k':Bool} (I:Inv X pins σ H s) (q:Q (.bl k) H) (e:k=k'):EP X pins σ Q (.bool k') s:=by
 subst e
 exact ⟨.bl k,H,I,rfl,q⟩
theorem A2:OpR X (compareOp .NotEq) rNe:=by
 intro pins s σ H x y v u Q I rx ry h
 obtain ⟨hs,q⟩:=h
 cases x with
 | non =>
  cases rx
  cases y with
  | non=>cases ry;exact PySem.EqNone.ne_none_none (bz I q (by simp))
  | bl j=>cases ry;exact PySem.EqNone.ne_none_bool (bz I q (by simp))
  | int j=>obtain ⟨t',rfl⟩:=ry;exact PySem.EqNone.ne_none_int (bz I q (by simp))
  | str j=>obtain ⟨t',rfl⟩:=ry;exact PySem.EqNone.ne_none_str (bz I q (by simp))
  | _=>exact absurd (show false=true from hs) Bool.false_ne_true
 | bl i =>
  cases rx
  cases y with
  | non=>cases ry;exact PySem.EqNone.ne_bool_none (bz I q (by simp))
  | bl j=>cases ry;exact ne_bool (bz I q (congrArg not sS))
  | str j=>obtain ⟨t',rfl⟩:=ry;exact PySem.EqMixed.ne_bool_str (bz I q (by simp))
  | _=>exact absurd (show false=true from hs) Bool.false_ne_true
 | int i =>
  obtain ⟨t,rfl⟩:=rx
  cases y with
  | non=>cases ry;exact PySem.EqNone.ne_int_none (bz I q (by simp))
  | int j=>obtain ⟨t',rfl⟩:=ry;exact ne_int (bz I q (congrArg not p8))
  | str j=>obtain ⟨t',rfl⟩:=ry;exact PySem.EqMixed.ne_int_str (bz I q (by simp))
  | _=>exact absurd (show false=true from hs) Bool.false_ne_true
 | str i =>
  obtain ⟨t,rfl⟩:=rx
  cases y with
  | non=>cases ry;exact PySem.EqNone.ne_str_none (bz I q (by simp))
  | bl j=>cases ry;exact PySem.EqMixed.ne_str_bool (bz I q (by simp))
  | int j=>obtain ⟨t',rfl⟩:=ry;exact PySem.EqMixed.ne_str_int (bz I q (by simp))
  | str j=>obtain ⟨t',rfl⟩:=ry;exact ne_str (bz I q (congrArg not p9))
  | _=>exact absurd (show false=true from hs) Bool.false_ne_true
 | byt i =>
  obtain ⟨t,rfl⟩:=rx
  cases y with
  | byt j=>obtain ⟨t',rfl⟩:=ry;exact PySem.W.ne_bytes (bz I q (congrArg not wf))
  | _=>exact absurd (show false=true from hs) Bool.false_ne_true
 | _=>cases y <;> exact absurd (show false=true from hs) Bool.false_ne_true
theorem A3:OpR X (compareOp .Lt) (rI0 λi j=>.bl (decide (i < j))):=wd λ_ _ _ _ _ _ _ q=>lt_int q
theorem A4:OpR X (compareOp .LtE) (rI0 λi j=>.bl (decide (i <= j))):=wd λ_ _ _ _ _ _ _ q=>le_int q
theorem A5:OpR X (compareOp .Gt) (rI0 λi j=>.bl (decide (j < i))):=wd λ_ _ _ _ _ _ _ q=>gt_int q
theorem A6:OpR X (compareOp .GtE) (rI0 λi j=>.bl (decide (j <= i))):=wd λ_ _ _ _ _ _ _ q=>ge_int q
theorem yN:OpR X (compareOp .Is) (λx y H Q=>y=.non/\Q (.bl (decide (x=.non))) H):=by
 intro pins s σ H x y v u Q I rx ry h
 obtain ⟨rfl,q⟩:=h
 cases ry
 refine is_none_gen (bz I q ?_)
 cases x <;> first
  | (cases rx;rfl)
  | (obtain ⟨t,rfl⟩:=rx;rfl)
theorem wg:OpR X (compareOp .IsNot) (λx y H Q=>y=.non/\Q (.bl (!decide (x=.non))) H):=by
 intro pins s σ H x y v u Q I rx ry h
 obtain ⟨rfl,q⟩:=h
 cases ry
 refine isnot_none_gen (bz I q ?_)
 cases x <;> first
  | (cases rx;rfl)
  | (obtain ⟨t,rfl⟩:=rx;rfl)
theorem wj {op:CmpOp}{r:R2} (ho:OpR X (compareOp op) r) (ha:PE X a ta) (hb:PE X b tb) (hm:behindInMarks op b=false):PE X (.Compare a [op] [b] pos) (tOp r ta tb):=by
 intro pins s σ H Q I h
 exact wpAny_Compare1 (yF ha hb I h λv u s2 x y H2 I2 rx ry q=>ho pins s2 σ H2 x y v u Q I2 rx ry q) hm
noncomputable def A7 (t:TE):TT:=λσ H Q=>t σ H λx H'=>∃ k,x=.bl k/\Q k H'
theorem wk {op:CmpOp}{r:R2} (ho:OpR X (compareOp op) r) (ha:PE X a ta) (hb:PE X b tb) (hm:behindInMarks op b=false):PT X (.Compare a [op] [b] pos) (A7 (tOp r ta tb)):=by
 intro pins s σ H Q I h
 refine wpAny_isTrue_Compare1 (thn (ha pins s σ H _ I h) λv s1 ⟨x,H1,I1,r1,q1⟩=>thn (hb pins s1 σ H1 _ I1 q1) λu s2 ⟨y,H2,I2,r2,q2⟩ =>
  thn (ho pins s2 σ H2 x y v u _ I2 r1 r2 q2) λc s3 ⟨z,H3,I3,r3,k,e,q3⟩=>?_) hm
 subst e
 cases r3
 exact wpAny_truthy_bool ⟨H3,I3,q3⟩
theorem iV:(sizeLine:Nat) < 2 ^ 63:=by rw [sizeLine_eq];decide
theorem pf:OpR X (binaryOp .Add) (λx y H Q=>∃ i j,x=.str i/\y=.str j/\i.length + j.length <= sizeLine/\Q (.str (i ++ j)) H):=by
 intro pins s σ H x y v u Q I rx ry h
 obtain ⟨i,j,rfl,rfl,hz,q⟩:=h
 obtain ⟨t,rfl⟩:=rx
 obtain ⟨t',rfl⟩:=ry
 exact add_str (λt' tk=>⟨.str (i ++ j),H,I.tok _,⟨_,rfl⟩,q⟩) hz
theorem dj {x:V}{us:List Value} (r:ar [x] us):∃ u,us=[u]/\aq x u:=by
 cases r with
 | cons r1 r2=>cases r2;exact ⟨_,rfl,r1⟩
theorem A8 {x y:V}{us:List Value} (r:ar [x,y] us):∃ u w',us=[u,w']/\aq x u/\aq y w':=by
 cases r with
 | cons r1 r2 =>
  cases r2 with
  | cons r3 r4=>cases r4;exact ⟨_,_,rfl,r1,r3⟩
end
end L2
namespace L2
open PySem PySem.Spec PyProof.Rows
section
variable {prog:Program}{w:World}{A:Around}{E:Value->Shared->Prop}{s:Shared}{K:PySem.W.Frag}{x dx C f:Addr}{mA:Str->Option Value}{name:Str}{v:Value}
end
theorem jy.some_of {v:V}{o:Option Value} (r:jy (some v) o):∃ u,o=some u/\aq v u:=by
 cases o with
 | none=>exact (show False from r).elim
 | some u=>exact ⟨u,rfl,r⟩
section
variable {P:Program}{w:World}{H H':Hp}{h h':Heap}{a C dx:Addr}{fs fs':List (Str × V)}
end
section
variable {X:Cx}{pins:List (Addr × Obj)}{σ:St}{H:Hp}{s:Shared}{a C dx:Addr}{fs:List (Str × V)}{f:Str}{v:V}{A:Around}{E:Value->Shared->Prop}
end
section
variable {X:Cx}{o e value:Expr}{f:Str}{pos pos' tpos:Pos}{ta tv:TE}
end
section
variable {X:Cx}{pins:List (Addr × Obj)}{σ:St}{H:Hp}{s:Shared}{A:Around}{E:Value->Shared->Prop}{Q:Value->Shared->Prop}{c:Value}{b:Bool}
end
end L2
namespace L2
open PySem PySem.Spec PyProof.Rows
structure iW (k:Nat) (A:Around):Prop where
 hd:A.handled=none
 dp:A.depth + 3 * k + 5 < recursionLimit
 un:A.units + 16 * k + 200 < cLine
theorem iW.deeper {k:Nat}{A:Around} (r:iW (k + 1) A) (env:Env):iW k (A.deeper env) :=
 ⟨r.hd,by have:=r.dp;show A.depth + 1 + 3 * k + 5 < _;omega,by have:=r.un;show A.units + 3 + 16 * k + 200 < _;omega⟩
theorem iW.depth {k:Nat}{A:Around} (r:iW k A):A.depth < recursionLimit:=by have:=r.dp;omega
noncomputable def A9:TA:=λ_ H Q=>Q [] H
noncomputable def A_ (ta:TE) (tr:TA):TA:=λσ H Q=>ta σ H λx H1=>tr σ H1 λxs H2=>Q (x::xs) H2
section
variable {X:Cx}{e:Expr}{es:List Expr}{te:TE}{t:TA}{pos:Pos}
theorem bI:PA X [] A9:=λ_ _ _ _ H Q I h=>Calls.spliced_nil ⟨[],H,I,.nil,h⟩
theorem aX (ha:PE X e te) (hr:PA X es t) (hs:starEach (e::es) X.env=(false,eval e X.env)::starEach es X.env:=by rfl):PA X (e::es) (A_ te t):=by
 intro pos pins s σ H Q I h
 rw [hs]
 show wpAny _ _ (spliced ((false,eval e X.env)::backTo pos (starEach es X.env))) _ _ s
 refine Calls.spliced_cons (thn (ha pins s σ H _ I h) λu s1 ⟨x,H1,I1,r1,q1⟩=>?_)
 exact thn (hr pos pins s1 σ H1 _ I1 q1) λus s2 ⟨xs,H2,I2,r2,q2⟩=>⟨x::xs,H2,I2,.cons r1 r2,q2⟩
noncomputable def CW (t:TA):TE:=λσ H Q=>t σ H λxs H1=>xs.length <= sizeLine/\∀ p,H1 p=none->Q (.ref p) (upd H1 p (.tup xs))
noncomputable def CY (t:TA):TE:=λσ H Q=>t σ H λxs H1=>xs.length <= sizeLine/\∀ p,H1 p=none->Q (.ref p) (upd H1 p (.lst xs))
theorem yO {x1} (h:PA X es t):PE X (.Tuple es x1 pos) (CW t):=by
 intro pins s σ H Q I hq
 refine wpAny_Tuple_spliced (thn (h pos pins s σ H _ I hq) λus s1 ⟨xs,H1,I1,r,z,q⟩=>⟨by rw [<- r.length];exact z,?_⟩)
 have hf:H1 s1.heap.objs.size=none:=I1.hok.fresh (Nat.le_refl _)
 refine ⟨.ref s1.heap.objs.size,upd H1 s1.heap.objs.size (.tup xs),I1.laid (t':=s1.toks) (λb u e=>Heap.get?_push_of_some _ e) (Nat.le_refl _) ?_,rfl,q _ hf⟩
 exact ⟨z,us,r,⟨_,Heap.get?_push_size _ rfl,rfl,_,rfl⟩⟩
theorem yP (h:PA X es t):PE X (.List es pos) (CY t):=by
 intro pins s σ H Q I hq
 refine wpAny_List_spliced (thn (h pos pins s σ H _ I hq) λus s1 ⟨xs,H1,I1,r,z,q⟩=>⟨by rw [<- r.length];exact z,?_⟩)
 have hf:H1 s1.heap.objs.size=none:=I1.hok.fresh (Nat.le_refl _)
 refine ⟨.ref s1.heap.objs.size,upd H1 s1.heap.objs.size (.lst xs),I1.laid (t':=s1.toks) (λb u e=>Heap.get?_push_of_some _ e) (Nat.le_refl _) ?_,rfl,q _ hf⟩
 exact ⟨z,us,0,r,Heap.get?_push_size _ rfl⟩
end
noncomputable abbrev Sp:=List V->Hp->VK->XK->Prop
noncomputable abbrev CXT:=List Env->Hp->Shared->XK->Value->Shared->Prop
structure wl (P:Program) (w:World) (K:PySem.W.Frag) (mg:Str->Option Value) (base:Heap) (A:Around) (outer:List Env) (s:Shared) (H:Hp):Prop where
 frames:A.frames=some outer
 mod:Mod K mg base
 bs:∀ b o,base.get? b=some o->s.heap.get? b=some o/\H b=none
 bsz:base.objs.size <= s.heap.objs.size
 funs:s.heap.FunFrames base outer
 frf:∀ b ∈ frs outer,H b=none
 hok:HOk P w H s.heap
 bare:AllBare s.gens
noncomputable def CE (outer:List Env) (P:Program) (w:World) (H:Hp) (s:Shared) (Q:VK) (u:Value) (s':Shared):Prop :=
 ∃ v H',s'.os=s.os/\AllBare s'.gens/\Un (frs outer) [] H H' s.heap s'.heap/\HOk P w H' s'.heap/\aq v u/\Q v H'
noncomputable def CR (CX:CXT) (outer:List Env) (P:Program) (w:World) (H:Hp) (s:Shared) (Q:VK) (E:XK) (r:Result) (s':Shared):Prop :=
 match r with
 | .ok (.ret u)=>CE outer P w H s Q u s'
 | .ok _=>False
 | .error e=>CX outer H s E e s'
structure lc (P:Program) (w:World) (K:PySem.W.Frag) (mg:Str->Option Value) (base:Heap) (CX:CXT) (k:Nat) (f:Addr) (fd:FuncData) (ps:List Str) (sp:Sp):Prop where
 len:∀ vs H Q E,sp vs H Q E->vs.length=ps.length
 run:∀ (A:Around) (outer:List Env) (s:Shared) (H:Hp) (args:Args) (us:List Value) (vs:List V) (Q:VK) (E:XK),iW k A->wl P w K mg base A outer s H->BindsTo s fd args (ps.zip us)->ar vs us->sp vs H Q E ->
  codeAny (model P w) A (.call (.ref f) args) (CR CX outer P w H s Q E) s
section
variable {X:Cx}{pins:List (Addr × Obj)}{σ:St}{H:Hp}{s s':Shared}
theorem Inv.env0 (I:Inv X pins σ H s):wl X.prog X.w X.K X.mg X.base X.A X.stack s H :=
 ⟨I.ok.frames,I.ok.mod,I.bs,Nat.le_trans I.ok.bsz I.sz,I.stack,I.stkFree,I.hok,I.bare⟩
theorem Inv.after {Q:VK}{u:Value} (I:Inv X pins σ H s) (h:CE X.stack X.prog X.w H s Q u s'):EP X pins σ Q u s':=by
 obtain ⟨v,H',os,bare,un,hok,r,q⟩:=h
 obtain ⟨hh,g,d,t,os'⟩:=s'
 obtain rfl:os'=s.os:=os
 exact ⟨v,H',I.call (h':=hh) (g':=g) (d':=d) (t':=t) (ch:=[]) un hok bare (λb z=>absurd z (by simp)),r,q⟩
end
noncomputable def sT (sp:Sp) (dvs:List V) (E:XK) (t:TA):TE:=λσ H Q=>t σ H λvs H1=>sp (vs ++ dvs) H1 Q E
noncomputable def dk (K:PySem.W.Frag) (fd:FuncData) (ps:List Str) (ds:List Value):Prop :=
 ∀ (s:Shared) (us:List Value),K.In s.heap->(us ++ ds).length=ps.length->BindsTo s fd ⟨us,[]⟩ (ps.zip (us ++ ds))
theorem dk.all {K:PySem.W.Frag}{fd:FuncData}{ps:List Str} (h:∀ us:List Value,us.length=ps.length->bindArgs fd ⟨us,[]⟩=pure (ps.zip us)):dk K fd ps []:=λs us _ hl=>by
 rw [List.append_nil] at hl ⊢
 exact .of_eq (h us hl)
noncomputable def my (CX:CXT) (X:Cx) (E:XK):Prop:=∀ (pins:List (Addr × Obj)) (σ:St) (H:Hp) (s:Shared) (e:Value) (s':Shared),Inv X pins σ H s->CX X.stack H s E e s'->X.xe e s'
section
variable {X:Cx}{CX:CXT}{k:Nat}{f C:Addr}{fd:FuncData}{ps:List Str}{sp:Sp}{dvs:List V}{ds:List Value}{E:XK}{x m:Str}{p pos apos:Pos}{e o:Expr}{es:List Expr}{ta:TE}{t:TA}
theorem sU {pins:List (Addr × Obj)}{σ:St}{H:Hp}{s:Shared}{Q:VK}{us:List Value}{vs:List V} (F:lc X.prog X.w X.K X.mg X.base CX k f fd ps sp) (hr:iW k X.A) (hb:dk X.K fd ps ds) (hd:ar dvs ds) (hx:my CX X E)
  (I:Inv X pins σ H s) (r:ar vs us) (h:sp (vs ++ dvs) H Q E):wpAny (model X.prog X.w) X.A (call (.ref f) us) (EP X pins σ Q) X.xe s:=by
 have r2:ar (vs ++ dvs) (us ++ ds):=r.append hd
 have hl:(us ++ ds).length=ps.length:=by rw [<- r2.length];exact F.len _ _ _ _ h
 refine wpAny_call (codeAny_mono (F.run X.A X.stack s H ⟨us,[]⟩ (us ++ ds) (vs ++ dvs) Q E hr I.env0 (hb s us I.kIn hl) r2 h) λr s' hq=>?_)
 cases r with
 | error e=>exact hx pins σ H s e s' I hq
 | ok fl =>
  cases fl with
  | ret u=>exact I.after hq
  | next=>exact False.elim hq
  | brk=>exact False.elim hq
  | cont=>exact False.elim hq
theorem wm (F:lc X.prog X.w X.K X.mg X.base CX k f fd ps sp) (hr:iW k X.A) (hg:Gl X x) (hm:X.mg x=some (.ref f)) (hk:PySem.W.keepIn X.K (.ref f)=true) (hb:dk X.K fd ps ds) (hd:ar dvs ds) (hx:my CX X E)
  (ha:PA X (e::es) t) (hdb:(x == ("__debug__":Str))=false:=by decide) (he:starEach (e::es) X.env=(false,eval e X.env)::starEach es X.env:=by rfl) (hpl:(backTo pos (starEach es X.env)).any (·.1)=false:=by rfl) :
  PE X (.Call (.Name x p) (e::es) [] pos) (sT sp dvs E t):=by
 intro pins s σ H Q I h
 refine wpAny_Call_Name_kw (mt I hg hm ?_ hdb)
 refine PySem.W.callWith_K (h₀:=X.base) I.ok.mod.kin hk (thn (ha pos pins s σ H _ I h) λus s1 ⟨vs,H1,I1,r,q⟩=>⟨I1.kIn,?_⟩) he hpl
 exact sU F hr hb hd hx I1 r q
theorem sV (F:lc X.prog X.w X.K X.mg X.base CX k f fd ps sp) (hr:iW k X.A) (hg:Gl X x) (hm:X.mg x=some (.ref f)) (hk:PySem.W.keepIn X.K (.ref f)=true) (hb:dk X.K fd ps ds) (hd:ar dvs ds) (hx:my CX X E)
  (hdb:(x == ("__debug__":Str))=false:=by decide):PE X (.Call (.Name x p) [] [] pos) (sT sp dvs E A9):=by
 intro pins s σ H Q I h
 refine wpAny_Call_Name_kw (mt I hg hm ?_ hdb)
 exact PySem.W.callWith_K0 I.kIn hk (sU (us:=[]) F hr hb hd hx I .nil h)
structure Mk (K:PySem.W.Frag) (C f:Addr):Prop where
 makes:PySem.W.makesIn K C=true
 init:PySem.W.findIn K (.ref C) "__init__"=some (some (.ref f))
 fn:PySem.W.isFn K (.ref f)=true
 kp:PySem.W.keepIn K (.ref C)=true
end
section
variable {X:Cx}{CX:CXT}{k:Nat}{f C:Addr}{fd:FuncData}{ps ks:List Str}{sp:Sp}{E:XK}{x m:Str}{p pos apos kpos:Pos}{e o:Expr}{es:List Expr}{kws:List Keyword}{te ta:TE}{t tk:TA}{nm:Option Str}
variable {g:List Value->List Value->List Value}{gV:List V->List V->List V}
end
structure mz (N P:List Str) (sc:Scope):Prop where
 kind:sc.kind=.function
 co:sc.isCoroutine=false
 gen:sc.isGenerator=false
 nd:N.Nodup
 pre:N.take P.length=P
 par:∀ x ∈ P,sc.names.lookup x=some .local \/ sc.names.lookup x=some .cell
 nofree:∀ y ∈ sc.names,y.2 ≠ .free
theorem lA {kindOf:Str->Option NameKind}{x:Str}:∀ {binds:List (Str × Value)}{m:Str->Option Value},(∀ v,(x,v) ∉ binds)->bindL kindOf binds m x=m x
 | [],_,_=>rfl
 | (n,v)::r,m,h=>by
  unfold bindL
  rw [lA λw hw=>h w (List.mem_cons_of_mem _ hw)]
  split
  ·have:x ≠ n:=by rintro rfl;exact h v List.mem_cons_self
   simp [this]
  ·rfl
theorem lB {kindOf:Str->Option NameKind}{x:Str}:∀ {binds:List (Str × Value)}{m:Str->Option Value},(∀ v,(x,v) ∉ binds)->bindC kindOf binds m x=m x
 | [],_,_=>rfl
 | (n,v)::r,m,h=>by
  unfold bindC
  rw [lB λw hw=>h w (List.mem_cons_of_mem _ hw)]
  split
  ·rfl
  ·have:x ≠ n:=by rintro rfl;exact h v List.mem_cons_self
   simp [this]
theorem lC {kindOf:Str->Option NameKind}{x:Str}{v:Value}:∀ {P:List Str}{vs:List Value}{i:Nat}{m:Str->Option Value},P.Nodup->P[i]?=some x->vs[i]?=some v->kindOf x=some .local ->
  bindL kindOf (P.zip vs) m x=some v
 | [],_,_,_,_,h,_,_=>by simp at h
 | _::_,[],_,_,_,_,h,_=>by simp at h
 | p::P,w::vs,0,m,nd,h1,h2,hk=>by
  simp at h1 h2;subst h1;subst h2
  show bindL kindOf ((p,w)::P.zip vs) m p=_
  unfold bindL
  rw [lA λv hv=>(List.nodup_cons.mp nd).1 (List.of_mem_zip hv).1,if_pos hk]
  simp
 | p::P,w::vs,i + 1,m,nd,h1,h2,hk=>by
  show bindL kindOf ((p,w)::P.zip vs) m x=_
  unfold bindL
  exact lC (i:=i) (List.nodup_cons.mp nd).2 (by simpa using h1) (by simpa using h2) hk
theorem lD {kindOf:Str->Option NameKind}{x:Str}{v:Value}:∀ {P:List Str}{vs:List Value}{i:Nat}{m:Str->Option Value},P.Nodup->P[i]?=some x->vs[i]?=some v->kindOf x ≠ some .local ->
  bindC kindOf (P.zip vs) m x=some v
 | [],_,_,_,_,h,_,_=>by simp at h
 | _::_,[],_,_,_,_,h,_=>by simp at h
 | p::P,w::vs,0,m,nd,h1,h2,hk=>by
  simp at h1 h2;subst h1;subst h2
  show bindC kindOf ((p,w)::P.zip vs) m p=_
  unfold bindC
  rw [lB λv hv=>(List.nodup_cons.mp nd).1 (List.of_mem_zip hv).1,if_neg hk]
  simp
 | p::P,w::vs,i + 1,m,nd,h1,h2,hk=>by
  show bindC kindOf ((p,w)::P.zip vs) m x=_
  unfold bindC
  exact lD (i:=i) (List.nodup_cons.mp nd).2 (by simpa using h1) (by simpa using h2) hk
noncomputable def fH (N:List Str) (vs:List V):St:=vs.map some ++ List.replicate (N.length - vs.length) none
noncomputable def nA (CX:CXT) (P:Program) (w:World) (K:PySem.W.Frag) (mg:Str->Option Value) (base:Heap) (N:List Str) (qual:Str) (scope:Scope) (f:Addr) (cd:Value) (A:Around) (outer:List Env) (s:Shared) (H:Hp) (E:XK):Cx where
 prog:=P
 w:=w
 K:=K
 mg:=mg
 base:=base
 A:=A.deeper (envOfC qual scope s.heap.objs.size f cd)
 N:=N
 s₀:=s
 H₀:=H
 env:=envOfC qual scope s.heap.objs.size f cd
 outer:=outer
 stack:=envOfC qual scope s.heap.objs.size f cd::outer
 ex:=[]
 calm:=true
 fn:=λ_=>true
 pn:=[]
 xe:=λe s'=>wpAny (model P w) (A.deeper (envOfC qual scope s.heap.objs.size f cd)) (leaving (envOfC qual scope s.heap.objs.size f cd) e) (λ_ s''=>CX outer H s E e s'') (λe' s''=>CX outer H s E e' s'') s'
theorem nB {sc:Scope}{n:Nat}{x:Str} (h:sc.names.lookup x=some .cell):∃ c,(cellsFrom n sc.names []).lookup x=some c:=by
 have q:=PySem.W.cellsFrom_some sc.names n [] (.inl h)
 exact Option.isSome_iff_exists.mp q
theorem rp {CX:CXT}{P:Program}{w:World}{K:PySem.W.Frag}{mg:Str->Option Value}{base:Heap}{N ps:List Str}{qual:Str}{scope:Scope}{f:Addr}{cd:Value}{A:Around}{outer:List Env}{s s1:Shared}{H:Hp}{E:XK}{us:List Value}{vs:List V}
  (S:mz N ps scope) (hd:A.handled=none) (e0:wl P w K mg base A outer s H) (hl:vs.length=ps.length) (r:ar vs us)
  (x:InCallC s s.heap.objs.size (bindL (envOfC qual scope s.heap.objs.size f cd).kindOf (ps.zip us) λ_=>none) (cellsFrom (s.heap.objs.size + 1) scope.names []) (bindC (envOfC qual scope s.heap.objs.size f cd).kindOf (ps.zip us) λ_=>none) s1) :
  Inv (nA CX P w K mg base N qual scope f cd A outer s H E) [] (fH N vs) H s1:=by
 have hpl:ps.length <= N.length:=by have:=congrArg List.length S.pre;rw [List.length_take] at this;omega
 obtain ⟨h1,tk,rfl,hk⟩:=x.done
 have noA:∀ b:Addr,b ∉ (nA CX P w K mg base N qual scope f cd A outer s H E).ex:=λb z=>absurd (show b ∈ ([]:List Addr) from z) (by simp)
 refine ⟨⟨e0.mod,S.kind,rfl,rfl,Nat.le_refl _,λy z c h1 h2=>?_,λy hy=>?_,λy c _ h=>?_,λ_=>hd,Around.frames_deeper e0.frames,.inr ⟨rfl,rfl⟩,λb z=>absurd z (noA b),e0.bs,e0.bsz,λb _ _=>noA b,λb z=>absurd z (noA b),e0.funs,e0.frf⟩,
  rfl,e0.bare,Un.kept hk,⟨_,x.toInCall.ns,λi y v h1 h2 h3=>?_⟩,λy c h=>⟨_,x.cell y c h⟩,e0.hok.fresh (Nat.le_refl _),λy c h=>?_,λp hp=>absurd (show p ∈ ([]:List (Addr × Obj)) from hp) (by simp),e0.hok.kept hk,?_⟩
 ·exact name_of_addr x.apart (PySem.mem_of_lookup h1) (PySem.mem_of_lookup h2)
 ·have hy:scope.names.lookup y=some .cell \/ scope.names.lookup y=some .free:=hy
  rcases hy with hy|hy
  ·exact nB hy
  ·exact absurd rfl (S.nofree _ (PySem.mem_of_lookup hy))
 ·exact Nat.le_of_lt (x.above y c (PySem.mem_of_lookup h))
 ·have hi:i < vs.length:=by
   unfold fH at h2
   by_cases hi:i < vs.length
   ·exact hi
   ·rw [List.getElem?_append_right (by simpa using hi)] at h2
    rw [List.getElem?_replicate] at h2
    split at h2 <;> cases h2
  have ha:vs[i]?=some v:=by
   unfold fH at h2
   rw [List.getElem?_append_left (by simpa using hi),List.getElem?_map] at h2
   cases e:vs[i]? with
   | none=>rw [e] at h2;cases h2
   | some a=>rw [e] at h2;cases h2;rfl
  obtain ⟨u,hu,rv⟩:=r.get ha
  have hp:ps[i]?=some y:=by
   rw [<- S.pre,List.getElem?_take_of_lt (by omega)];exact h1
  have ndP:ps.Nodup:=by rw [<- S.pre];exact S.nd.sublist (List.take_sublist _ _)
  refine ⟨u,rv,?_⟩
  rcases S.par y (List.mem_of_getElem? hp) with k|k
  ·exact .inl ⟨k,lC ndP hp hu k⟩
  ·obtain ⟨c,e⟩:=nB (n:=s.heap.objs.size + 1) k
   refine .inr ⟨.inl k,c,e,?_⟩
   have q:=x.cell y c e
   rw [lD ndP hp hu (by show scope.names.lookup y ≠ _;rw [k];decide)] at q
   exact q
 ·exact e0.hok.fresh (Nat.le_of_lt (x.above y c (PySem.mem_of_lookup h)))
 ·unfold fH
  show _=N.length
  rw [List.length_append,List.length_map,List.length_replicate]
  omega
theorem Ba {CX:CXT}{P:Program}{w:World}{K:PySem.W.Frag}{mg:Str->Option Value}{base:Heap}{k:Nat}{f:Addr}{name qual:Str}{params:Arguments}{body:List Stmt}{scope:Scope}{dV kV doc pm cdv ct oc:Value}{an od:Option Addr}
  {osl:Array (Option Value)}{N ps:List Str}{sp:Sp} (lk:K.lookup f=some ⟨oc,od,.func (PySem.W.fnOf name qual params body scope dV kV doc pm an cdv ct),osl⟩) (hcd:PySem.W.codeIn K cdv qual=true) (S:mz N ps scope)
  (len:∀ vs H Q E,sp vs H Q E->vs.length=ps.length)
  (hbody:∀ (A:Around) (outer:List Env) (s:Shared) (H:Hp) (vs:List V) (Q:VK) (E:XK),iW k (A.deeper (envOfC qual scope s.heap.objs.size f cdv))->sp vs H Q E ->
   ∃ t,PSs (nA CX P w K mg base N qual scope f cdv A outer s H E) body t/\t { nx:=λ_ H'=>Q .non H',rt:=Q } (fH N vs) H) :
  lc P w K mg base CX (k + 1) f (PySem.W.fnOf name qual params body scope dV kV doc pm an cdv ct) ps sp:=by
 refine ⟨len,λA outer s H args us vs Q E hr e0 hb r hsp=>?_⟩
 have hl:=len _ _ _ _ hsp
 have KX:K.In s.heap:=e0.mod.kin.keeps λb o e=>(e0.bs b o e).1
 have lim:s.heap.NoLimit:=e0.mod.nolimit.keeps λb o e=>(e0.bs b o e).1
 have hkind:∀ y ∈ ps.zip us,scope.names.lookup y.1=some .local \/ (scope.names.lookup y.1=some .cell/\((cellsFrom (s.heap.objs.size + 1) scope.names []).lookup y.1).isSome=true):=λ⟨n,v⟩ hy=>by
  rcases S.par n (List.of_mem_zip hy).1 with q|q
  ·exact .inl q
  ·exact .inr ⟨q,PySem.W.cellsFrom_some _ _ _ (.inl q)⟩
 refine codeAny_call_function hr.depth (KX _ _ lk) rfl S.co S.gen rfl (PySem.W.codeRec_of KX hcd) (hb _ _ _ _ ?_)
 refine wpAny_newFunctionEnv_cells S.kind hkind λenv he s1 x=>?_
 subst he
 refine ⟨lim.keeps x.toInCall.keep,codeAny_func ?_⟩
 obtain ⟨t,ht,hq⟩:=hbody A outer s H vs Q E (hr.deeper _) hsp
 have I:Inv (nA CX P w K mg base N qual scope f cdv A outer s H E) [] (fH N vs) H s1:=rp S hr.hd e0 hl r x
 refine wpAny_mono (ht [] s1 (fH N vs) H _ I hq) (λfl s' hs=>?_) λe s' hs=>hs
 have fin:∀ {σ':St}{H':Hp}{v:V}{u:Value},Inv (nA CX P w K mg base N qual scope f cdv A outer s H E) [] σ' H' s'->aq v u->Q v H'->CE outer P w H s Q u s' :=
  λ{σ' H' v u} J rv q=>⟨v,H',J.os,J.bare,J.base,J.hok,rv,q⟩
 cases fl with
 | ret u =>
  obtain ⟨v,σ',H',J,rv,q⟩:=hs
  exact fin J rv q
 | next =>
  obtain ⟨σ',H',J,q⟩:=hs
  exact fin (v:=V.non) (u:=Value.none) J rfl q
 | brk =>
  obtain ⟨_,_,_,q⟩:=hs
  exact False.elim q
 | cont =>
  obtain ⟨_,_,_,q⟩:=hs
  exact False.elim q
end L2
namespace L2
open PySem PySem.Spec PyProof.Rows
section
variable {X:Cx}{x:Str}{p pos:Pos}{e:Expr}{es:List Expr}{t:TA}{id T:String}{r:List V->Hp->VK->Prop}
noncomputable def tCB (r:List V->Hp->VK->Prop) (t:TA):TE:=λσ H Q=>t σ H λvs H1=>r vs H1 Q
theorem dH (hc:bp X (.builtin id) r) (hg:Gl X x) (hm:X.mg x=none) (hv:bootBuiltins x=some (.builtin id)) (ha:PA X (e::es) t) (hn:x ≠ "__name__":=by decide) (hdb:(x == ("__debug__":Str))=false:=by decide)
  (he:starEach (e::es) X.env=(false,eval e X.env)::starEach es X.env:=by rfl) (hpl:(backTo pos (starEach es X.env)).any (·.1)=false:=by rfl):PE X (.Call (.Name x p) (e::es) [] pos) (tCB r t):=by
 intro pins s σ H Q I h
 refine wpAny_Call_Name_kw (fG I hg hm hv ?_ hn hdb)
 exact PyProof.Rows.callWith_builtin1 (thn (ha pos pins s σ H _ I h) λus s1 ⟨vs,H1,I1,r1,q1⟩=>hc pins s1 σ H1 vs us Q I1 r1 q1) he hpl
theorem cx (hc:bp X (.type T) r) (hg:Gl X x) (hm:X.mg x=none) (hv:bootBuiltins x=some (.type T)) (ha:PA X (e::es) t) (hn:x ≠ "__name__":=by decide) (hdb:(x == ("__debug__":Str))=false:=by decide)
  (he:starEach (e::es) X.env=(false,eval e X.env)::starEach es X.env:=by rfl) (hpl:(backTo pos (starEach es X.env)).any (·.1)=false:=by rfl):PE X (.Call (.Name x p) (e::es) [] pos) (tCB r t):=by
 intro pins s σ H Q I h
 refine wpAny_Call_Name_kw (fG I hg hm hv ?_ hn hdb)
 exact PyProof.Rows.callWith_type1 (thn (ha pos pins s σ H _ I h) λus s1 ⟨vs,H1,I1,r1,q1⟩=>hc pins s1 σ H1 vs us Q I1 r1 q1) he hpl
end
end L2
namespace HT
open PySem PyProof.Rows
noncomputable def lexLt:List Int->List Int->Bool
 | [],[]=>false
 | [],_::_=>true
 | _::_,[]=>false
 | x::xs,y::ys=>if x=y then lexLt xs ys else decide (x < y)
theorem lexLt_cons (x y:Int) (xs ys:List Int):lexLt (x::xs) (y::ys)=if x=y then lexLt xs ys else decide (x < y):=rfl
theorem lh:lexLt [] []=false:=rfl
theorem jT (y:Int) (ys:List Int):lexLt [] (y::ys)=true:=rfl
theorem jU (x:Int) (xs:List Int):lexLt (x::xs) []=false:=rfl
theorem sW (A:Around) (s:Shared) (a:Int) (t:Tok) (c:Int) (u:Tok):∃ e,SeqAt.EqAt A s (.int a t) (.int c u) e/\(e=true ↔ a=c) :=
 ⟨(a == c),SeqAt.EqAt.int_int a t c u,by simp⟩
theorem sX (A:Around) (s:Shared) (a:Int) (t:Tok) (c:Int) (u:Tok) (prog:Program) (w:World) (E:Value->Shared->Prop) (Q:Value->Shared->Prop) (h:Q (.bool (decide (a < c))) s) :
  wpAny (model prog w) A (richCompare .Lt (.int a t) (.int c u)) Q E s :=
 (PyProof.Rows.lt_int h:wpAny (model prog w) A (compareOp .Lt (.int a t) (.int c u)) Q E s)
section
open PySem.SeqAt
open PySem.AutoSeq1 (wpAny_loadPart')
open PySem.MeetsSeq PySem.MeetsSeq2 PySem.MeetsSeq3
theorem tuple_lt_ints (l b:Addr) (items items2:Array Value) (n n2:Nat) (dd dd2:Option Addr) (sl sl2:Array (Option Value)) (ns ms:List Int) (hi:IntsAre items.toList ns) (hj:IntsAre items2.toList ms) :
  Meets (Builtin.«tuple.__lt__» ⟨[.ref l,.ref b],[]⟩)
   (λ_ R s=>s.heap.get? l=some { cls:=.type "tuple",dict:=dd,data:=.seq items n,slots:=sl }/\s.heap.get? b=some { cls:=.type "tuple",dict:=dd2,data:=.seq items2 n2,slots:=sl2 } /\
    R (.ok (.ret (.bool (lexLt ns ms)))) s) :=
 .of_wp λprog w A R s h=>by
  obtain ⟨hp,g,d,tk,os⟩:=s;obtain ⟨hl,hb,h⟩:=h
  have f2:=AutoSeq1.sub_tuple_tuple
  have z1:items.size=ns.length:=by rw [<- hi.length];simp
  have z2:items2.size=ms.length:=by rw [<- hj.length];simp
  wp_walk using wpAny_loadPart' hl,wpAny_loadPart' hb,wpAny_forIn_list _ (λbb b s'=>b.1=none/\s'=⟨hp,g,d,tk,os⟩/\∃ (vs ws:List Value) (ns' ms':List Int),bb=vs.zip ws /\
   IntsAre vs ns'/\IntsAre ws ms'/\ns'.length + items2.size=ms'.length + items.size/\R (.ok (.ret (.bool (lexLt ns' ms')))) ⟨hp,g,d,tk,os⟩) _
  case turn =>
   rintro ⟨y,x⟩ bb b s' ⟨hb',rfl,vs,ws,ns',ms',hz,hvi,hwi,hlen,hR⟩
   cases hvi with
   | nil=>rw [List.zip_nil_left] at hz;cases hz
   | cons a t hvi' =>
    cases hwi with
    | nil=>rw [List.zip_nil_right] at hz;cases hz
    | cons c u hwi' =>
     rw [List.zip_cons_cons] at hz
     injection hz with hyx hrest
     injection hyx with hy hx
     subst hy hx
     rw [lexLt_cons] at hR
     simp only [List.length_cons] at hlen
     obtain ⟨e,he,hiff⟩:=sW A.in1 ⟨hp,g,d,tk,os⟩ a t c u
     refine wpAny_bind (he prog w _ _ ?_)
     cases e with
     | true =>
      rw [if_pos (hiff.mp rfl)] at hR
      wp_walk
      exact ⟨rfl,rfl,_,_,_,_,hrest,hvi',hwi',by omega,hR⟩
     | false =>
      rw [if_neg (λq=>absurd (hiff.mpr q) Bool.false_ne_true)] at hR
      have hri:=sX A.in1 ⟨hp,g,d,tk,os⟩ a t c u prog w
      wp_walk using hri
      exact ⟨_,rfl,by simpa using hR⟩
  case fin =>
   rintro ⟨b1,b2⟩ s' ⟨hb',rfl,vs,ws,ns',ms',hz,hvi,hwi,hlen,hR⟩
   simp only at hb'
   subst hb'
   have hv:lexLt ns' ms'=decide (items.size < items2.size):=by
    cases hvi with
    | nil =>
     cases hwi with
     | nil =>
      simp only [List.length_nil] at hlen
      rw [lh]
      exact (decide_eq_false (by omega)).symm
     | cons c u hw =>
      simp only [List.length_nil,List.length_cons] at hlen
      rw [jT]
      exact (decide_eq_true (by omega)).symm
    | cons a t hv =>
     cases hwi with
     | nil =>
      simp only [List.length_nil,List.length_cons] at hlen
      rw [jU]
      exact (decide_eq_false (by omega)).symm
     | cons c u hw =>
      rw [List.zip_cons_cons] at hz
      cases hz
   rw [hv] at hR
   wp_walk
   exact ⟨_,rfl,by simpa [Builtin.Tuple.tupleCompareSizes] using hR⟩
  case h =>
   exact ⟨rfl,rfl,items.toList,items2.toList,ns,ms,rfl,hi,hj,by omega,h⟩
end
section
variable {prog:Program}{w:World}{A:Around}{E:Value->Shared->Prop}{s:Shared}
theorem lt_tupInts {l b:Addr}{items items2:Array Value}{ns ms:List Int}{Q:Value->Shared->Prop} (hl:IsTup s.heap l items) (hb:IsTup s.heap b items2) (hi:IntsAre items.toList ns) (hj:IntsAre items2.toList ms)
  (hu:A.units < cLine) (h:Q (.bool (lexLt ns ms)) s):wpAny (model prog w) A (compareOp .Lt (.ref l) (.ref b)) Q E s:=by
 obtain ⟨⟨cls,dd,data,sl⟩,ho,hc,n,hd⟩:=id hl
 obtain ⟨⟨cls2,dd2,data2,sl2⟩,ho2,hc2,n2,hd2⟩:=id hb
 simp only at hc hd hc2 hd2
 subst hc hd hc2 hd2
 exact richCompare_meets_room (op:=.Lt) ⟨_,ho,rfl⟩ ⟨_,ho2,rfl⟩ PySem.F.slot_tuple_lt PySem.F.entry_tuple_lt (PySem.F.args_tuple_lt_2 _ _) (tuple_lt_ints l b items items2 n n2 dd dd2 sl sl2 ns ms hi hj)
  ⟨ho,ho2,show Value.bool (lexLt ns ms) ≠ Value.notImplemented/\Q (.bool (lexLt ns ms)) s from ⟨(λx=>nomatch x),h⟩⟩ hu
theorem cat_tup {t b:Addr}{vs ws:List Value}{Q:Value->Shared->Prop} (ht:IsTup s.heap t vs.toArray) (hb:IsTup s.heap b ws.toArray) (hv:vs ≠ [])
  (h1:ws=[]->Q (.ref t) s) (h2:ws ≠ []->Q (.ref s.heap.objs.size) { s with heap:=s.heap.push { cls:=.type "tuple",data:=.seq (vs ++ ws).toArray } })
  (hsz:vs.length + ws.length <= sizeLine):wpAny (model prog w) A (binaryOp .Add (.ref t) (.ref b)) Q E s:=by
 obtain ⟨⟨cls,dd,data,sl⟩,ho,hc,n,hd⟩:=id ht
 obtain ⟨⟨cls2,dd2,data2,sl2⟩,ho2,hc2,n2,hd2⟩:=id hb
 simp only at hc hd hc2 hd2
 subst hc hd hc2 hd2
 have e:vs.toArray ++ ws.toArray=(vs ++ ws).toArray:=by simp
 by_cases hw:ws=[]
 ·exact concat_meets ⟨_,ho,rfl⟩ ⟨_,ho2,rfl⟩ noFill_tuple_add seq_tuple_add PySem.F.slot_tuple_add PySem.F.entry_tuple_add (PySem.F.args_tuple_add_2 _ _)
   (tuple_addW1 t b vs.toArray ws.toArray n n2 dd dd2 sl sl2 (by simpa using hv) (by simp [hw])) ⟨ho,ho2,h1 hw⟩
 ·refine concat_meets ⟨_,ho,rfl⟩ ⟨_,ho2,rfl⟩ noFill_tuple_add seq_tuple_add PySem.F.slot_tuple_add PySem.F.entry_tuple_add (PySem.F.args_tuple_add_2 _ _)
   (tuple_addW2 t b vs.toArray ws.toArray n n2 dd dd2 sl sl2 (by simpa using hv) (by simpa using hw) (by rw [List.size_toArray,List.size_toArray];exact hsz)) ⟨ho,ho2,?_⟩
  rw [e]
  exact h2 hw
noncomputable def sIx (n d:Nat):Option Int->Nat
 | none=>d
 | some v=>if v < 0 then (v + (n:Int)).toNat else min v.toNat n
theorem yQ (n d:Nat) (hd:d <= n) (o:Option Int):sIx n d o <= n:=by
 cases o with
 | none=>exact hd
 | some v =>
  show (if v < 0 then (v + (n:Int)).toNat else min v.toNat n) <= n
  by_cases hv:v < 0
  ·rw [if_pos hv];omega
  ·rw [if_neg hv];exact Nat.min_le_right _ _
theorem p_ (v:Int) (n d:Nat):(if v < 0 then max (v + (n:Int)) 0 else min v (n:Int))=((sIx n d (some v):Nat):Int):=by
 show (if v < 0 then max (v + (n:Int)) 0 else min v (n:Int))=(((if v < 0 then (v + (n:Int)).toNat else min v.toNat n):Nat):Int)
 by_cases hv:v < 0
 ·simp only [if_pos hv];omega
 ·simp only [if_neg hv];omega
theorem ph (lo hi:Option Int) (n:Nat):Builtin.Slice.sliceAdjust lo hi 1 (n:Int)=(((sIx n 0 lo:Nat):Int),((sIx n n hi:Nat):Int)):=by
 have h1:¬ ((1:Int) < 0):=by omega
 unfold Builtin.Slice.sliceAdjust
 simp only [h1,if_false]
 refine Prod.ext ?_ ?_
 ·cases lo with
  | none=>rfl
  | some v=>exact p_ v n 0
 ·cases hi with
  | none=>rfl
  | some v=>exact p_ v n n
theorem pi (i j:Nat):Builtin.Slice.slicePlaces (i:Int) (j:Int) 1=j - i:=by
 unfold Builtin.Slice.slicePlaces
 have h1:(1:Int) > 0:=by omega
 simp only [h1,if_true,Int.ediv_one]
 split <;> omega
theorem jV {v:Value}{o:Option Int}{Q:Option Int->Shared->Prop} (p:IsPart v o) (h:Q o s):wpAny (model prog w) A (Builtin.Slice.slicePartIndex v) Q E s:=by
 cases p with
 | none=>exact slicePart_none h
 | int i t=>exact slicePart_int h
theorem eG {sl:Addr}{vl vu:Value}{lo hi:Option Int}{n:Nat}{Q:Int × Int × Nat->Shared->Prop} (hs:s.heap.IsSliceOf sl vl vu .none) (pl:IsPart vl lo) (pu:IsPart vu hi)
  (h:Q (((sIx n 0 lo:Nat):Int),1,sIx n n hi - sIx n 0 lo) s):wpAny (model prog w) A (Builtin.Slice.sliceApplied (.ref sl) (pure (n:Int))) Q E s:=by
 obtain ⟨os,hos,hcs,hds⟩:=id hs
 unfold Builtin.Slice.sliceApplied Builtin.Slice.sliceFields
 refine wpAny_bind (wpAny_bind (wpAny_field hos hds (x:=vl) rfl (wpAny_bind (wpAny_field hos hds (x:=vu) rfl (wpAny_bind (wpAny_field hos hds (x:=.none) rfl (wpAny_pure ?_)))))))
 refine wpAny_bind (slicePart_none ?_)
 show wpAny _ _ (if ((1:Int) == 0)=true then _ else _) _ _ s
 rw [if_neg (by decide)]
 refine wpAny_bind (jV pl (wpAny_bind (jV pu (wpAny_bind (wpAny_pure ?_)))))
 show wpAny _ _ (match Builtin.Slice.sliceAdjust lo hi 1 (n:Int) with|(lo,hi)=>pure (lo,(1:Int),Builtin.Slice.slicePlaces lo hi 1)) _ _ s
 rw [ph lo hi n]
 show wpAny _ _ (pure (((sIx n 0 lo:Nat):Int),(1:Int),Builtin.Slice.slicePlaces ((sIx n 0 lo:Nat):Int) ((sIx n n hi:Nat):Int) 1)) _ _ s
 rw [pi]
 exact wpAny_pure h
theorem sY (xs:Array Value) (i k:Nat):((List.range k).filterMap λ(m:Nat)=>xs[((i:Int) + (m:Int) * 1).toNat]?).toArray=((xs.toList.drop i).take k).toArray:=by
 have e:(λ(m:Nat)=>xs[((i:Int) + (m:Int) * 1).toNat]?)=λm=>xs[i + m]?:=by
  funext m
  have:((i:Int) + (m:Int) * 1).toNat=i + m:=by omega
  rw [this]
 rw [e]
 have:=pick_run xs i k
 rw [List.filterMap_map] at this
 have e2:((λx=>xs[x]?) ∘ λx=>i + x)=λm=>xs[i + m]?:=rfl
 rw [e2] at this
 rw [this]
theorem getItem_tuple_cut {t sl:Addr}{items:Array Value}{vl vu:Value}{lo hi:Option Int}{Q:Value->Shared->Prop} (ht:IsTup s.heap t items) (hs:s.heap.IsSliceOf sl vl vu .none) (pl:IsPart vl lo) (pu:IsPart vu hi)
  (hw:¬ (sIx items.size 0 lo=0/\sIx items.size items.size hi=items.size))
  (h:Q (.ref s.heap.objs.size) { s with heap:=s.heap.push { cls:=.type "tuple",data:=.seq ((items.toList.drop (sIx items.size 0 lo)).take (sIx items.size items.size hi - sIx items.size 0 lo)).toArray } })
  (hsz:items.size <= sizeLine):wpAny (model prog w) A (getItem (.ref t) (.ref sl)) Q E s:=by
 have htake:sizeOk (.seq ((items.toList.drop (sIx items.size 0 lo)).take (sIx items.size items.size hi - sIx items.size 0 lo)).toArray):=by
  show ((items.toList.drop (sIx items.size 0 lo)).take (sIx items.size items.size hi - sIx items.size 0 lo)).toArray.size <= sizeLine
  rw [List.size_toArray,List.length_take,List.length_drop,Array.length_toList]
  omega
 have hj:sIx items.size items.size hi <= items.size:=yQ _ _ (Nat.le_refl _) hi
 obtain ⟨os,hos,hcs,hds⟩:=id hs
 have hTs:s.TypeIs (.ref sl) "slice":=⟨os,hos,hcs⟩
 unfold getItem
 try with_reducible refine wpAny_holding ?_
 first|refine wpAny_bind (wpAny_pure ?_)|skip
 refine wpAny_bind (wpAny_sequenceKey ht.typeIs (by decide) ?_)
 refine wpAny_bind (wpAny_callSpecial?_slot (name:=Str.ofString "__getitem__") ht.typeIs PyProof.Rows.slot_tuple_getitem
  (wpAny_call_entry PyProof.Rows.slot_tuple_getitem ht.typeIs entry_tuple_getitem ?_ (args_tuple_getitem _ _)))
 show wpAny _ _ (Builtin.Tuple.tupleItemsOf (.ref t) >>= _) _ _ s
 refine wpAny_bind (tupleItemsOf_ ht ?_)
 refine wpAny_bind (wpAny_typeOf hTs ?_)
 rw [if_pos (by decide)]
 refine wpAny_bind (eG hs pl pu ?_)
 have hno:¬ ((((sIx items.size 0 lo:Nat):Int) == 0&&(1:Int) == 1&&(sIx items.size items.size hi - sIx items.size 0 lo) == items.size)=true):=by
  intro q
  rw [Bool.and_eq_true,Bool.and_eq_true] at q
  have q1:((sIx items.size 0 lo:Nat):Int)=0:=eq_of_beq q.1.1
  have q2:sIx items.size items.size hi - sIx items.size 0 lo=items.size:=eq_of_beq q.2
  exact hw ⟨by omega,by omega⟩
 show wpAny _ _ (if (((sIx items.size 0 lo:Nat):Int) == 0&&(1:Int) == 1&&(sIx items.size items.size hi - sIx items.size 0 lo) == items.size)=true then _ else _) _ _ s
 rw [if_neg hno,sY]
 first
  | exact wpAny_bind (m:=Builtin.Tuple.tupleExact _) (wpAny_newObj_type (wpAny_pure ⟨_,rfl,wpAny_pure h⟩) htake)
  | exact wpAny_bind (m:=Builtin.Tuple.tupleExact _) (wpAny_newObj_type (wpAny_bind (wpAny_pure (wpAny_pure ⟨_,rfl,wpAny_pure h⟩))) htake)
  | exact wpAny_bind (wpAny_bind (m:=Builtin.Tuple.tupleExact _) (wpAny_newObj_type (wpAny_pure (wpAny_pure ⟨_,rfl,wpAny_pure h⟩)) htake))
  | exact wpAny_bind (wpAny_bind (m:=Builtin.Tuple.tupleExact _) (wpAny_newObj_type (wpAny_pure ⟨_,rfl,wpAny_pure h⟩) htake))
end
end HT
namespace L2
open PySem PySem.Spec PyProof.Rows
noncomputable abbrev TO:=St->Hp->(Option Int->Hp->Prop)->Prop
noncomputable def PO (X:Cx) (e:Option Expr) (t:TO):Prop :=
 ∀ (pins:List (Addr × Obj)) (s:Shared) (σ:St) (H:Hp) (Q:Option Int->Hp->Prop),Inv X pins σ H s->t σ H Q ->
  wpAny (model X.prog X.w) X.A (evalPart e X.env) (λu s'=>∃ o H',Inv X pins σ H' s'/\IsPart u o/\Q o H') X.xe s
noncomputable def wn:TO:=λ_ H Q=>Q none H
noncomputable def Bb (t:TE):TO:=λσ H Q=>t σ H λx H1=>∃ i,x=.int i/\Q (some i) H1
theorem cv {ns:List Int}:∀ {us:List Value},ar (ns.map V.int) us->IntsAre us ns:=by
 induction ns with
 | nil=>intro us r;rw [List.map_nil] at r;cases r;exact .nil
 | cons n ns ih =>
  intro us r
  rw [List.map_cons] at r
  cases r with
  | cons r1 r2 =>
   obtain ⟨t,e⟩:=r1
   subst e
   exact .cons n t (ih r2)
section
variable {X:Cx}{e:Expr}{te:TE}{lo hi:Option Expr}{tl th:TO}{pos p2:Pos}
theorem wo:PO X none wn:=by
 intro pins s σ H Q I h
 rw [evalPart_none]
 exact wpAny_pure ⟨none,H,I,.none,h⟩
theorem wp (h:PE X e te):PO X (some e) (Bb te):=by
 intro pins s σ H Q I hw
 rw [evalPart_some]
 refine thn (h pins s σ H _ I hw) λu s1 ⟨x,H1,I1,r1,q1⟩=>?_
 obtain ⟨i,rfl,q⟩:=q1
 obtain ⟨t,rfl⟩:=r1
 exact ⟨some i,H1,I1,.int i t,q⟩
noncomputable def SlR (X:Cx) (r:V->Option Int->Option Int->Hp->VK->Prop):Prop :=
 ∀ (pins:List (Addr × Obj)) (s:Shared) (σ:St) (H:Hp) (x:V) (v vl vu:Value) (lo hi:Option Int) (sl:Addr) (Q:VK),Inv X pins σ H s->aq x v->s.heap.IsSliceOf sl vl vu .none->IsPart vl lo->IsPart vu hi->r x lo hi H Q ->
  ∃ T id,typeLookup (.type T) "__getitem__"=pure (some (.builtin id))/\s.TypeIs v T/\wpAny (model X.prog X.w) X.A (getItem v (.ref sl)) (EP X pins σ Q) X.xe s
noncomputable def tSl (r:V->Option Int->Option Int->Hp->VK->Prop) (te:TE) (tl th:TO):TE:=λσ H Q=>te σ H λx H1=>tl σ H1 λl H2=>th σ H2 λu H3=>r x l u H3 Q
theorem sZ {r:V->Option Int->Option Int->Hp->VK->Prop} (hr:SlR X r) (he:PE X e te) (hl:PO X lo tl) (hu:PO X hi th):PE X (.Subscript e (.Slice lo hi none p2) pos) (tSl r te tl th):=by
 intro pins s σ H Q I h
 refine Subscript_ (thn (he pins s σ H _ I h) λv s1 ⟨x,H1,I1,r1,q1⟩=>?_)
 refine wpAny_Slice (thn (hl pins s1 σ H1 _ I1 q1) λvl s2 ⟨l,H2,I2,pl,q2⟩=>thn (hu pins s2 σ H2 _ I2 q2) λvu s3 ⟨u,H3,I3,pu,q3⟩=>?_)
 rw [evalPart_none]
 refine wpAny_pure ?_
 have I4:Inv X pins σ H3 { s3 with heap:=s3.heap.push { cls:=.type "slice",data:=.fields #[vl,vu,.none] } }:=I3.kept (t':=s3.toks) λb ob q=>Heap.get?_push_of_some _ q
 obtain ⟨T,id,hT,ht,hg⟩:=hr pins { s3 with heap:=s3.heap.push { cls:=.type "slice",data:=.fields #[vl,vu,.none] } } σ H3 x v vl vu l u s3.heap.objs.size Q I4 r1 (Heap.IsSliceOf.new ..) pl pu q3
 show wpAny (model X.prog X.w) X.A (subscriptTail e (.Slice lo hi none p2) v (.ref s3.heap.objs.size)) (EP X pins σ Q) X.xe { s3 with heap:=s3.heap.push { cls:=.type "slice",data:=.fields #[vl,vu,.none] } }
 exact tail_any (ops:=[.ref s3.heap.objs.size,v]) ht hT hg (by with_unfolding_all rfl)
noncomputable def nD (xs:List V) (lo hi:Option Int):List V:=(xs.drop (HT.sIx xs.length 0 lo)).take (HT.sIx xs.length xs.length hi - HT.sIx xs.length 0 lo)
theorem jm (xs:List V) (lo hi:Option Int):(nD xs lo hi).length <= xs.length:=by
 unfold nD
 rw [List.length_take,List.length_drop]
 omega
noncomputable def CZ (K:PySem.W.Frag):V->Option Int->Option Int->Hp->VK->Prop:=λx lo hi H Q=>∃ a xs,x=.ref a/\SqT K H a xs /\
 ¬ (HT.sIx xs.length 0 lo=0/\HT.sIx xs.length xs.length hi=xs.length)/\∀ p,H p=none->Q (.ref p) (upd H p (.tup (nD xs lo hi)))
theorem yR:SlR X (CZ X.K):=by
 intro pins s σ H x v vl vu lo hi sl Q I rx hs pl pu h
 obtain ⟨a,xs,rfl,hx,hw,q⟩:=h
 cases rx
 obtain ⟨its,r,ht,hz⟩:=I.tuple hx
 have hlen:its.toArray.size=xs.length:=by rw [List.size_toArray];exact r.length.symm
 refine ⟨"tuple",_,PyProof.Rows.slot_tuple_getitem.lookup,ht.typeIs,?_⟩
 refine HT.getItem_tuple_cut ht hs pl pu (by rw [hlen];exact hw) ?_ (by rw [hlen];exact hz)
 rw [hlen]
 refine ⟨.ref s.heap.objs.size,_,I.laid (t':=s.toks) (o:=.tup (nD xs lo hi)) (λb ob q=>Heap.get?_push_of_some _ q) (Nat.le_refl _) ?_,rfl,q _ (I.hok.fresh (Nat.le_refl _))⟩
 exact ⟨Nat.le_trans (jm xs lo hi) hz,_,(r.drop (HT.sIx xs.length 0 lo)).take (HT.sIx xs.length xs.length hi - HT.sIx xs.length 0 lo),IsTup.new _ _⟩
noncomputable def Bc (K:PySem.W.Frag):R2:=λx y H Q=>∃ a b xs ys,x=.ref a/\y=.ref b/\SqT K H a xs/\SqT K H b ys/\xs ≠ []/\xs.length + ys.length <= sizeLine /\
 (ys=[]->Q (.ref a) H)/\(ys ≠ []->∀ p,H p=none->Q (.ref p) (upd H p (.tup (xs ++ ys))))
theorem ar.nil_iff {xs:List V}{us:List Value} (r:ar xs us):us=[] ↔ xs=[]:=by
 cases r with
 | nil=>simp
 | cons _ _=>simp
theorem wq:OpR X (binaryOp .Add) (Bc X.K):=by
 intro pins s σ H x y v u Q I rx ry h
 obtain ⟨a,b,xs,ys,rfl,rfl,ha,hb,hx,hz,q1,q2⟩:=h
 cases rx
 cases ry
 obtain ⟨its,r1,p1,_⟩:=I.tuple ha
 obtain ⟨its2,r2,p2,_⟩:=I.tuple hb
 refine HT.cat_tup p1 p2 (λz=>hx (r1.nil_iff.mp z)) (λz=>⟨.ref a,H,I,rfl,q1 (r2.nil_iff.mp z)⟩) (λz=>?_) (by rw [<- r1.length,<- r2.length];exact hz)
 refine ⟨.ref s.heap.objs.size,_,I.laid (t':=s.toks) (o:=.tup (xs ++ ys)) (λb ob q=>Heap.get?_push_of_some _ q) (Nat.le_refl _) ?_,rfl,q2 (λw=>z (r2.nil_iff.mpr w)) _ (I.hok.fresh (Nat.le_refl _))⟩
 exact ⟨by rw [List.length_append];exact hz,_,r1.append r2,IsTup.new _ _⟩
end
end L2
namespace L2
open PySem PySem.Spec PyProof.Rows
noncomputable def ixN (n:Nat) (i:Int):Option Nat:=if 0 <= i then (if i < n then some i.toNat else none) else if -(n:Int) <= i then some (i + n).toNat else none
noncomputable def atI {α:Type} (xs:List α) (i:Int):Option α:=(ixN xs.length i).bind λj=>xs[j]?
theorem qa {n:Nat}{i:Int}{j:Nat} (h:ixN n i=some j):seqIndex? i n=some j/\j < n/\-(n:Int) <= i/\i < n:=by
 unfold ixN at h
 by_cases h0:0 <= i
 ·rw [if_pos h0] at h
  by_cases h1:i < n
  ·rw [if_pos h1] at h
   have e:i.toNat=j:=Option.some.inj h
   exact ⟨by rw [seqIndex_of h0 h1,e],by omega,by omega,h1⟩
  ·rw [if_neg h1] at h;cases h
 ·rw [if_neg h0] at h
  by_cases h1:-(n:Int) <= i
  ·rw [if_pos h1] at h
   have e:(i + n).toNat=j:=Option.some.inj h
   exact ⟨by rw [seqIndex_neg (by omega) h1,e],by omega,h1,by omega⟩
  ·rw [if_neg h1] at h;cases h
theorem mB {α:Type}{xs:List α}{i:Int}{v:α} (h:atI xs i=some v):∃ j,seqIndex? i xs.length=some j/\xs[j]?=some v/\j < xs.length/\-(xs.length:Int) <= i/\i < xs.length:=by
 unfold atI at h
 cases e:ixN xs.length i with
 | none=>rw [e] at h;cases h
 | some j =>
  rw [e] at h
  obtain ⟨h1,h2,h3,h4⟩:=qa e
  exact ⟨j,h1,h,h2,h3,h4⟩
noncomputable def qb (b:Expr):Prop:=∀ o i,subscripted b false o i=operate [o,i] (getItem o i)
noncomputable def IxR (X:Cx) (r:R2):Prop :=
 ∀ (value slice:Expr) (pins:List (Addr × Obj)) (s:Shared) (σ:St) (H:Hp) (x y:V) (v u:Value) (Q:VK),Inv X pins σ H s->aq x v->aq y u->r x y H Q ->
  subscripted slice false v u=operate [v,u] (getItem v u)->wpAny (model X.prog X.w) X.A (subscriptTail value slice v u) (EP X pins σ Q) X.xe s
noncomputable def MtR (X:Cx) (id:String) (r:V->List V->Hp->VK->Prop):Prop :=
 ∀ (pins:List (Addr × Obj)) (s:Shared) (σ:St) (H:Hp) (x:V) (xs:List V) (v:Value) (us:List Value) (Q:VK),Inv X pins σ H s->aq x v->ar xs us->r x xs H Q ->
  wpAny (model X.prog X.w) X.A (call (.builtin id) (v::us)) (EP X pins σ Q) X.xe s
section
variable {X:Cx}{a b:Expr}{ta tb:TE}{pos:Pos}
theorem IxR.or {r r':R2} (h:IxR X r) (h':IxR X r'):IxR X (λx y H Q=>r x y H Q \/ r' x y H Q):=by
 intro value slice pins s σ H x y v u Q I rx ry q hs
 rcases q with q|q
 ·exact h value slice pins s σ H x y v u Q I rx ry q hs
 ·exact h' value slice pins s σ H x y v u Q I rx ry q hs
theorem Bd {r:R2} (hr:IxR X r) (ha:PE X a ta) (hb:PE X b tb) (hs:qb b):PE X (.Subscript a b pos) (tOp r ta tb):=by
 intro pins s σ H Q I h
 exact Subscript_ (yF ha hb I h λv u s2 x y H2 I2 rx ry q=>hr a b pins s2 σ H2 x y v u Q I2 rx ry q (hs _ _))
noncomputable def Be (K:PySem.W.Frag):R2:=λx y H Q=>∃ p xs i v,x=.ref p/\y=.int i/\SqL K H p xs/\atI xs i=some v/\Q v H
noncomputable def Bf (K:PySem.W.Frag):R2:=λx y H Q=>∃ p xs i v,x=.ref p/\y=.int i/\SqT K H p xs/\atI xs i=some v/\Q v H
noncomputable def Bg:R2:=λx y H Q=>∃ z i c,x=.str z/\y=.int i/\z.length <= sizeLine/\atI z.cps.toList i=some c/\Q (.str ⟨#[c]⟩) H
theorem wt:IxR X (Be X.K):=by
 intro value slice pins s σ H x y v u Q I rx ry h hs
 obtain ⟨p,xs,i,z,rfl,rfl,hq,he,q⟩:=h
 cases rx
 obtain ⟨t,rfl⟩:=ry
 obtain ⟨its,r,pl,hz⟩:=I.list hq
 obtain ⟨j,h1,h2,h3,h4,h5⟩:=mB he
 obtain ⟨w,ew,rw'⟩:=r.get h2
 have hl:=r.length
 have hn:=iV
 have fin:EP X pins σ Q w s:=⟨z,H,I,rw',q⟩
 by_cases h0:0 <= i
 ·have hj:i.toNat=j:=by
   rw [seqIndex_of h0 h5] at h1
   exact Option.some.inj h1
  exact item_listR pl.isList h0 (by omega) (by rw [hj];simpa using ew) fin hs
 ·have hj:(i + (its.toArray.size:Int)).toNat=j:=by
   rw [seqIndex_neg (by omega) h4] at h1
   rw [List.size_toArray,<- hl]
   exact Option.some.inj h1
  exact subscriptTail_builtinR (x:=w) pl.isList.typeIs slot_list_getitem.lookup
   (wpAny_getItem_list_neg (Q:=λr s'=>r=w/\EP X pins σ Q r s') pl.isList (by omega) (by rw [List.size_toArray] <;> omega) (by omega) (by rw [hj];simpa using ew) ⟨rfl,fin⟩) hs
theorem yS:IxR X (Bf X.K):=by
 intro value slice pins s σ H x y v u Q I rx ry h hs
 obtain ⟨p,xs,i,z,rfl,rfl,hq,he,q⟩:=h
 cases rx
 obtain ⟨t,rfl⟩:=ry
 obtain ⟨its,r,pl,hz⟩:=I.tuple hq
 obtain ⟨j,h1,h2,h3,h4,h5⟩:=mB he
 obtain ⟨w,ew,rw'⟩:=r.get h2
 have hl:=r.length
 have hn:=iV
 have fin:EP X pins σ Q w s:=⟨z,H,I,rw',q⟩
 exact subscriptTail_builtinR (x:=w) pl.typeIs slot_tuple_getitem.lookup
  (getItem_tuple (j:=j) (Q:=λr s'=>r=w/\EP X pins σ Q r s') pl (by omega) (by omega) (by rw [List.size_toArray,<- hl];exact h1) (by simpa using ew) ⟨rfl,fin⟩) hs
theorem yT:IxR X Bg:=by
 intro value slice pins s σ H x y v u Q I rx ry h hs
 obtain ⟨z,i,c,rfl,rfl,hz,he,q⟩:=h
 obtain ⟨t,rfl⟩:=rx
 obtain ⟨t',rfl⟩:=ry
 obtain ⟨j,h1,h2,h3,h4,h5⟩:=mB he
 have hl:z.cps.toList.length=z.length:=by simp [Str.length]
 rw [hl] at h1 h4 h5
 have hn:=iV
 exact tail_any (typeIs_str s z t) slot_str_getitem.lookup (getItem_str (c:=c) (by
  have e1:decide (i < -(2 ^ 63:Int))=false:=decide_eq_false (by omega)
  have e2:decide (i >= 2 ^ 63)=false:=decide_eq_false (by omega)
  rw [e1,e2,Bool.or_false]) (by rw [h1];simpa using h2) ⟨.str ⟨#[c]⟩,H,I.tok _,⟨_,rfl⟩,q⟩) hs
noncomputable def rIx (K:PySem.W.Frag):R2:=λx y H Q=>Be K x y H Q \/ Bf K x y H Q \/ Bg x y H Q
theorem s_:IxR X (rIx X.K):=wt.or (yS.or yT)
theorem pk (its:List Value) (n j:Nat) (u:Value):Obj.mapSeq (·.setIfInBounds j u) { cls:=.type "list",data:=.seq its.toArray n }={ cls:=.type "list",data:=.seq (its.set j u).toArray n }:=by
 simp [Obj.mapSeq]
theorem Inv.lst {pins:List (Addr × Obj)}{σ:St}{H:Hp}{s:Shared}{p:Addr}{xs:List V} (I:Inv X pins σ H s) (h:H p=some (.lst xs)) :
  ∃ (its:List Value) (n:Nat),ar xs its/\s.heap.get? p=some { cls:=.type "list",data:=.seq its.toArray n }/\xs.length <= sizeLine:=by
 obtain ⟨z,its,n,r,e⟩:=I.hok p _ h
 exact ⟨its,n,r,e,z⟩
theorem Inv.lstUpd {pins:List (Addr × Obj)}{σ:St}{H:Hp}{s:Shared}{p:Addr}{xs ys:List V}{its its':List Value}{n n':Nat}{f:Obj->Obj} (I:Inv X pins σ H s) (h:H p=some (.lst xs))
  (ho:s.heap.get? p=some { cls:=.type "list",data:=.seq its.toArray n }) (hf:f { cls:=.type "list",data:=.seq its.toArray n }={ cls:=.type "list",data:=.seq its'.toArray n' }) (r:ar ys its') (hz:ys.length <= sizeLine) (t:Nat) :
  Inv X pins σ (upd H p (.lst ys)) { s with heap:=s.heap.update p f,toks:=t }:=by
 have e:(s.heap.update p f).get? p=some { cls:=.type "list",data:=.seq its'.toArray n' }:=by
  rw [Heap.get?_update_self f ho (by rw [hf] <;> rfl),hf]
 refine I.write (x:=p) (e:=p) (by rw [h];trivial) (.inl rfl) (λb u hb q=>(Heap.get?_update_other _ _ (Ne.symm hb)).trans q) ⟨_,e⟩ ?_
 exact ⟨hz,its',n',r,e⟩
noncomputable def Bh:V->V->V->Hp->(Hp->Prop)->Prop:=λo i v H Q=>∃ p xs k j,o=.ref p/\i=.int k/\H p=some (.lst xs)/\ixN xs.length k=some j/\Q (upd H p (.lst (xs.set j v)))
theorem set_list:CS X Bh:=by
 intro pins s σ H o i v ov iv u Q I ro ri rv h
 obtain ⟨p,xs,k,j,rfl,rfl,hp,hj,q⟩:=h
 cases ro
 obtain ⟨t,rfl⟩:=ri
 obtain ⟨its,n,r,ho,hz⟩:=I.lst hp
 obtain ⟨h1,h2,h3,h4⟩:=qa hj
 have hl:=r.length
 have hn:=iV
 have I':Inv X pins σ (upd H p (.lst (xs.set j v))) { s with heap:=s.heap.update p (Obj.mapSeq (·.setIfInBounds j u)) } :=
  I.lstUpd hp ho (pk its n j u) (r.set rv j) (by rw [List.length_set];exact hz) s.toks
 by_cases h0:0 <= k
 ·have hk:k.toNat=j:=by
   rw [seqIndex_of h0 h4] at h1
   exact Option.some.inj h1
  exact PySem.W.ki_setAt ho h0 (by omega) (by rw [List.size_toArray,<- hl];exact h4) (by rw [hk];exact ⟨_,I',q⟩)
 ·have hk:(k + (its.toArray.size:Int)).toNat=j:=by
   rw [seqIndex_neg (by omega) h3] at h1
   rw [List.size_toArray,<- hl]
   exact Option.some.inj h1
  exact PySem.W.ki_setBack ho (by omega) (by rw [List.size_toArray,<- hl];exact h3) (by omega) (by rw [hk];exact ⟨_,I',q⟩)
theorem mC (lo hi:Option Int) (n:Nat):(sliceBounds lo hi none n).1=((HT.sIx n 0 lo:Nat):Int)/\(sliceBounds lo hi none n).2.1=((HT.sIx n n hi:Nat):Int)/\(sliceBounds lo hi none n).2.2=1:=by
 refine ⟨?_,?_,rfl⟩
 ·cases lo with
  | none=>simp [sliceBounds,HT.sIx]
  | some i =>
   simp only [sliceBounds,HT.sIx,Option.getD_none,show (1:Int) > 0 by decide,if_true]
   by_cases h:i < 0
   ·simp only [h,if_true] <;> omega
   ·simp only [h,if_false] <;> omega
 ·cases hi with
  | none=>simp [sliceBounds,HT.sIx]
  | some i =>
   simp only [sliceBounds,HT.sIx,Option.getD_none,show (1:Int) > 0 by decide,if_true]
   by_cases h:i < 0
   ·simp only [h,if_true] <;> omega
   ·simp only [h,if_false] <;> omega
theorem lj (its:List Value) (lo hi:Option Int):slicePick its.toArray lo hi none=((its.drop (HT.sIx its.length 0 lo)).take (HT.sIx its.length its.length hi - HT.sIx its.length 0 lo)).toArray:=by
 obtain ⟨h1,h2,h3⟩:=mC lo hi its.toArray.size
 unfold slicePick
 rw [h1,h2,h3]
 simp only [sliceRange_one,pick_run,List.size_toArray] <;> rfl
noncomputable def C0 (K:PySem.W.Frag):V->Option Int->Option Int->Hp->VK->Prop:=λx lo hi H Q=>∃ a xs,x=.ref a/\SqL K H a xs/\∀ p,H p=none->Q (.ref p) (upd H p (.lst (nD xs lo hi)))
theorem wu:SlR X (C0 X.K):=by
 intro pins s σ H x v vl vu lo hi sl Q I rx hs pl pu h
 obtain ⟨a,xs,rfl,hx,q⟩:=h
 cases rx
 obtain ⟨its,r,ht,hz⟩:=I.list hx
 have hlen:=r.length
 refine ⟨"list",_,slot_list_getitem.lookup,ht.isList.typeIs,?_⟩
 refine wpAny_getItem_list_slice ht.isList hs pl pu .none (by simp) ?_ (by rw [List.size_toArray] <;> omega)
 rw [lj,<- hlen]
 refine ⟨.ref s.heap.objs.size,_,I.laid (t':=s.toks) (o:=.lst (nD xs lo hi)) (λb ob q=>Heap.get?_push_of_some _ q) (Nat.le_refl _) ?_,rfl,q _ (I.hok.fresh (Nat.le_refl _))⟩
 exact ⟨Nat.le_trans (jm xs lo hi) hz,_,0,(r.drop (HT.sIx xs.length 0 lo)).take (HT.sIx xs.length xs.length hi - HT.sIx xs.length 0 lo),Heap.get?_push_size _ rfl⟩
noncomputable def gG:V->Bool
 | .non=>true
 | .bl _=>true
 | .int _=>true
 | .str _=>true
 | _=>false
noncomputable def eqV:V->V->Bool
 | .non,.non=>true
 | .bl a,.bl b=>a == b
 | .bl a,.int b=>(if a then 1 else 0) == b
 | .int a,.bl b=>a == (if b then 1 else 0)
 | .int a,.int b=>a == b
 | .str a,.str b=>a == b
 | _,_=>false
theorem ti {A:Around}{s:Shared}{y x:V}{u v:Value} (ry:aq y u) (rx:aq x v) (fy:gG y=true) (fx:gG x=true):SeqAt.EqAt A s u v (eqV y x):=by
 cases y with
 | non =>
  cases ry
  cases x with
  | non=>cases rx;exact SeqAt.EqAt.same _
  | bl b=>cases rx;exact SeqAt.EqAt.none_bool b
  | int b=>obtain ⟨t,rfl⟩:=rx;exact SeqAt.EqAt.none_int b t
  | str b=>obtain ⟨t,rfl⟩:=rx;exact SeqAt.EqAt.none_str b t
  | _=>exact absurd (show false=true from fx) Bool.false_ne_true
 | bl a =>
  cases ry
  cases x with
  | non=>cases rx;exact SeqAt.EqAt.bool_none a
  | bl b=>cases rx;exact SeqAt.EqAt.bool_bool a b
  | int b=>obtain ⟨t,rfl⟩:=rx;exact SeqAt.EqAt.bool_int a b t
  | str b=>obtain ⟨t,rfl⟩:=rx;exact SeqAt.EqAt.bool_str a b t
  | _=>exact absurd (show false=true from fx) Bool.false_ne_true
 | int a =>
  obtain ⟨t',rfl⟩:=ry
  cases x with
  | non=>cases rx;exact SeqAt.EqAt.int_none a t'
  | bl b=>cases rx;exact SeqAt.EqAt.int_bool a t' b
  | int b=>obtain ⟨t,rfl⟩:=rx;exact SeqAt.EqAt.int_int a t' b t
  | str b=>obtain ⟨t,rfl⟩:=rx;exact SeqAt.EqAt.int_str a t' b t
  | _=>exact absurd (show false=true from fx) Bool.false_ne_true
 | str a =>
  obtain ⟨t',rfl⟩:=ry
  cases x with
  | non=>cases rx;exact SeqAt.EqAt.str_none a t'
  | bl b=>cases rx;exact SeqAt.EqAt.str_bool a t' b
  | int b=>obtain ⟨t,rfl⟩:=rx;exact SeqAt.EqAt.str_int a t' b t
  | str b=>obtain ⟨t,rfl⟩:=rx;exact SeqAt.EqAt.str_str a t' b t
  | _=>exact absurd (show false=true from fx) Bool.false_ne_true
 | _=>exact absurd (show false=true from fy) Bool.false_ne_true
theorem ij:bp X (.builtin "len") (λxs H Q=>∃ p ys,xs=[.ref p]/\(SqL X.K H p ys \/ SqT X.K H p ys)/\Q (.int ys.length) H):=by
 intro pins s σ H xs us Q I r h
 obtain ⟨p,ys,rfl,hq,q⟩:=h
 obtain ⟨u,rfl,rx⟩:=dj r
 cases rx
 have hn:=iV
 rcases hq with hq|hq
 ·obtain ⟨its,r',pl,hz⟩:=I.list hq
  have hlen:=r'.length
  exact Calls.call_len_list pl.isList (by simp only [List.size_toArray] <;> omega) ⟨.int ys.length,H,I.tok _,⟨s.toks + 1,by rw [List.size_toArray,hlen]⟩,q⟩
 ·obtain ⟨its,r',pl,hz⟩:=I.tuple hq
  have hlen:=r'.length
  exact len_tuple pl (by simp only [List.size_toArray] <;> omega) ⟨.int ys.length,H,I.tok _,⟨s.toks + 1,by rw [List.size_toArray,hlen]⟩,q⟩
theorem mD:bp X (.type "list") (λxs H Q=>∃ p ys,xs=[.ref p]/\(SqL X.K H p ys \/ SqT X.K H p ys)/\∀ l,H l=none->Q (.ref l) (upd H l (.lst ys))):=by
 intro pins s σ H xs us Q I r h
 obtain ⟨p,ys,rfl,hq,q⟩:=h
 obtain ⟨u,rfl,rx⟩:=dj r
 cases rx
 have fin:∀ (its:List Value),ar ys its->ys.length <= sizeLine->∀ (h':Heap) (c':Nat),(∀ b o',s.heap.get? b=some o'->h'.get? b=some o') ->
   h'.get? s.heap.objs.size=some { cls:=.type "list",dict:=none,data:=.seq its.toArray c',slots:=#[] }->EP X pins σ Q (.ref s.heap.objs.size) { s with heap:=h' }:=λits r' hz h' c' kp e =>
  ⟨.ref s.heap.objs.size,_,I.laid (t':=s.toks) kp (Nat.le_refl _) (show aV X.prog X.w _ h' _ (.lst ys) from ⟨hz,its,c',r',e⟩),rfl,q _ (I.hok.fresh (Nat.le_refl _))⟩
 rcases hq with hq|hq
 ·obtain ⟨its,r',pl,hz⟩:=I.list hq
  have hlen:=r'.length
  obtain ⟨o,ho,hc,n,hd⟩:=pl.isList
  exact call_list_seq p (.inl rfl) ho hc hd (λh' c' kp e=>fin its r' hz h' c' kp e) (by simp only [List.size_toArray] <;> omega)
 ·obtain ⟨its,r',pl,hz⟩:=I.tuple hq
  have hlen:=r'.length
  obtain ⟨o,ho,hc,n,hd⟩:=pl
  exact call_list_seq p (.inr rfl) ho hc hd (λh' c' kp e=>fin its r' hz h' c' kp e) (by simp only [List.size_toArray] <;> omega)
theorem gH:bp X (.type "tuple") (λxs H Q=>∃ p ys,xs=[.ref p]/\((SqL X.K H p ys/\∀ l,H l=none->Q (.ref l) (upd H l (.tup ys))) \/ (SqT X.K H p ys/\Q (.ref p) H))):=by
 intro pins s σ H xs us Q I r h
 obtain ⟨p,ys,rfl,h⟩:=h
 obtain ⟨u,rfl,rx⟩:=dj r
 cases rx
 rcases h with ⟨hq,q⟩|⟨hq,q⟩
 ·obtain ⟨its,r',pl,hz⟩:=I.list hq
  have hlen:=r'.length
  refine call_tuple_list pl.isList (λh' kp=>?_) (by simp only [List.size_toArray] <;> omega)
  have I1:Inv X pins σ H { s with heap:=h' }:=I.kept (t':=s.toks) kp
  have I2:Inv X pins σ (upd H h'.objs.size (.tup ys)) { s with heap:=h'.push { cls:=.type "tuple",data:=.seq its.toArray } } :=
   I1.laid (t':=s.toks) (λb o e=>Heap.get?_push_of_some _ e) (Nat.le_refl _) (show aV X.prog X.w _ _ _ (.tup ys) from ⟨hz,its,r',IsTup.new _ _⟩)
  exact ⟨.ref h'.objs.size,_,I2,rfl,q _ (I1.hok.fresh (Nat.le_refl _))⟩
 ·obtain ⟨its,r',pl,hz⟩:=I.tuple hq
  exact call_tuple_same pl ⟨.ref p,H,I,rfl,q⟩
noncomputable def tyV (K:PySem.W.Frag) (T:String) (x:V) (H:Hp):Prop:=match x with
 | .str _=>T="str"
 | .int _=>T="int"
 | .ref p=>(T="list"/\∃ xs,SqL K H p xs) \/ (T="tuple"/\∃ o,K.lookup p=some o/\o.cls=.type "tuple"/\o.dict=none) \/
   (T="dict"/\((∃ kvs,H p=some (.dK kvs)) \/ ∃ kvs,H p=some (.dT kvs))) \/ (T="set"/\∃ S n,H p=some (.set S n))
 | _=>False
theorem yU {pins:List (Addr × Obj)}{σ:St}{H:Hp}{s:Shared}{T:String}{x:V}{v:Value} (I:Inv X pins σ H s) (r:aq x v) (ty:tyV X.K T x H) :
  s.TypeIs v T/\∀ a,v=.ref a->∃ ob,s.heap.get? a=some ob/\ob.dict=none:=by
 cases x with
 | str z =>
  obtain ⟨t,rfl⟩:=r
  cases (show T="str" from ty)
  exact ⟨typeIs_str s z t,λ_ e=>nomatch e⟩
 | int i =>
  obtain ⟨t,rfl⟩:=r
  cases (show T="int" from ty)
  exact ⟨typeIs_int s i t,λ_ e=>nomatch e⟩
 | ref p =>
  cases r
  rcases ty with ⟨rfl,xs,hq⟩|⟨rfl,o,hk,hc,hd⟩|⟨rfl,hk⟩|⟨rfl,S,n,hk⟩
  ·obtain ⟨its,_,pl,_⟩:=I.list hq
   refine ⟨pl.isList.typeIs,λa e=>?_⟩
   cases e
   obtain ⟨o,n,e,c,hd,_⟩:=pl
   exact ⟨o,e,hd⟩
  ·refine ⟨⟨o,I.kIn p o hk,hc⟩,λa e=>?_⟩
   cases e
   exact ⟨o,I.kIn _ o hk,hd⟩
  ·have z:∃ o,s.heap.get? p=some o/\o.ExactDict:=by
    rcases hk with ⟨kvs,hk⟩|⟨kvs,hk⟩
    ·obtain ⟨_,_,_,_,o,_,_,e,ex,_⟩:=I.hok p _ hk
     exact ⟨o,e,ex⟩
    ·obtain ⟨_,_,_,_,o,_,_,e,ex,_⟩:=I.hok p _ hk
     exact ⟨o,e,ex⟩
   obtain ⟨o,e,ex⟩:=z
   refine ⟨⟨o,e,ex.1⟩,λa e2=>?_⟩
   cases e2
   exact ⟨o,e,ex.2.1⟩
  ·obtain ⟨o,_,_,_,e,ex,_⟩:=I.hok p _ hk
   refine ⟨⟨o,e,ex.1⟩,λa e2=>?_⟩
   cases e2
   exact ⟨o,e,ex.2.1⟩
 | _=>exact False.elim ty
noncomputable def tBM (K:PySem.W.Frag) (T:String) (r:V->List V->Hp->VK->Prop) (to:TE) (t:TA):TE:=λσ H Q=>to σ H λx H1=>tyV K T x H1/\t σ H1 λxs H2=>r x xs H2 Q
variable {o e:Expr}{es:List Expr}{to:TE}{t:TA}{name:Str}{apos cpos:Pos}{T id:String}{r:V->List V->Hp->VK->Prop}
theorem xQ (pa:PlainAttrs T) (slot:Slot T name id) (hty:typeOf (.builtin id)=pure (.type "method_descriptor")) (hm:MtR X id r) (ho:PE X o to) (ha:PA X (e::es) t)
  (hbase:attributeBase o name X.env (eval o X.env)=eval o X.env:=by rfl)
  (hfew:((backTo cpos (starEach (e::es) X.env)).all (λx=>!x.1)&&(backToKw cpos (keywordEach [] X.env)).all (λx=>x.1.isSome)
  &&decide ((e::es).length + ([]:List Keyword).length + (if ([]:List Keyword).isEmpty then 0 else 1) < 30))=true:=by rfl)
  (hline:(apos.endLine == cpos.line)=true:=by rfl) (hs:starEach (e::es) X.env=(false,eval e X.env)::starEach es X.env:=by rfl) (hplain:(backTo cpos (starEach es X.env)).any (·.1)=false:=by rfl) :
  PE X (.Call (.Attribute o name apos) (e::es) [] cpos) (tBM X.K T r to t):=by
 intro pins s σ H Q I h
 refine wpAny_Call_method_late hbase hfew hline rfl (thn (ho pins s σ H _ I h) λv s1 ⟨x,H1,I1,r1,ty,q1⟩=>?_)
 obtain ⟨h1,h2⟩:=yU I1 r1 ty
 refine ⟨T,id,pa,slot,hty,h1,h2,?_⟩
 have hA:=ha cpos pins s1 σ H1 _ I1 q1
 rw [hs] at hA ⊢
 refine Calls.callWith_builtin (by show (false || (backTo cpos (starEach es X.env)).any (·.1))=false;rw [hplain] <;> rfl) (Calls.evalArgs_plain ?_)
 exact thn hA λus s2 ⟨vs,H2,I2,r2,q2⟩=>hm pins s2 σ H2 x vs v us Q I2 r1 r2 q2
end
end L2
namespace L2
open PySem PySem.Spec PyProof.Rows
noncomputable def MtM (X:Cx) (id:String) (r:V->List V->Hp->VK->Prop):Prop :=
 ∀ (pins:List (Addr × Obj)) (s:Shared) (σ:St) (H:Hp) (x:V) (xs:List V) (v:Value) (us:List Value) (Q:VK),Inv X pins σ H s->aq x v->ar xs us->r x xs H Q ->
  wpAny (model X.prog X.w) X.A (call (.builtin id) (v::us)) (EP X pins σ Q) X.xe s
theorem ar.one:∀ {x:V}{us:List Value},ar [x] us->∃ u,us=[u]/\aq x u
 | _,_,.cons r .nil=>⟨_,rfl,r⟩
theorem ar.zero:∀ {us:List Value},ar [] us->us=[]
 | _,.nil=>rfl
theorem ar.reverse {xs:List V}{us:List Value} (h:ar xs us):ar xs.reverse us.reverse:=by
 induction h with
 | nil=>exact .nil
 | cons r t ih=>rw [List.reverse_cons,List.reverse_cons];exact ar.append ih (.cons r .nil)
section
variable {X:Cx}{pins:List (Addr × Obj)}{σ:St}{H:Hp}{s:Shared}{l b:Addr}{xs ys zs:List V}
theorem Inv.lset {its its':List Value}{n:Nat}{f:Array Value->Array Value}{t':Nat} (I:Inv X pins σ H s) (hH:H l=some (.lst xs))
  (e:s.heap.get? l=some { cls:=.type "list",data:=.seq its.toArray n }) (hf:f its.toArray=its'.toArray) (hv:ar ys its') (hz:ys.length <= sizeLine) :
  Inv X pins σ (upd H l (.lst ys)) { s with heap:=s.heap.update l (Obj.mapSeq f),toks:=t' }:=by
 have q:=PySem.IsL.update e f
 rw [hf] at q
 refine I.write (x:=l) (e:=l) (by rw [hH];exact trivial) (.inl rfl) (λb' u hb hu=>(Heap.get?_update_other s.heap (Obj.mapSeq f) (Ne.symm hb)).trans hu) ⟨_,q⟩ ?_
 exact ⟨hz,its',_,hv,q⟩
theorem Inv.lnew {its:List Value}{t':Nat} (I:Inv X pins σ H s) (hv:ar ys its) (hz:ys.length <= sizeLine) :
  Inv X pins σ (upd H s.heap.objs.size (.lst ys)) { s with heap:=s.heap.push { cls:=.type "list",data:=.seq its.toArray },toks:=t' } :=
 I.laid (λ_ _ q=>Heap.get?_push_of_some _ q) (Nat.le_refl _) ⟨hz,its,0,hv,Heap.get?_push_size _ rfl⟩
theorem Inv.fresh (I:Inv X pins σ H s):H s.heap.objs.size=none:=I.hok.fresh (Nat.le_refl _)
theorem Inv.lstM (I:Inv X pins σ H s) (hH:H l=some (.lst xs)):xs.length <= sizeLine/\∃ (its:List Value) (n:Nat),ar xs its/\xs.length=its.length/\s.heap.get? l=some { cls:=.type "list",data:=.seq its.toArray n }:=by
 obtain ⟨z,its,n,r,e⟩:=I.hok l _ hH
 exact ⟨z,its,n,r,r.length,e⟩
theorem nE {n:Nat} (h:n <= sizeLine):Builtin.List.listTooLong n=false:=by
 unfold Builtin.List.listTooLong
 exact decide_eq_false (by omega)
end
section
variable {X:Cx}
noncomputable def wv:V->List V->Hp->VK->Prop:=λx vs H Q=>∃ l xs y,x=.ref l/\vs=[y]/\H l=some (.lst xs)/\xs.length < sizeLine/\Q .non (upd H l (.lst (xs ++ [y])))
theorem lE:MtM X "list.append" wv:=by
 intro pins s σ H x vs v us Q I rx rv h
 obtain ⟨l,xs,y,rfl,rfl,hH,hz,q⟩:=h
 cases rx
 obtain ⟨u,rfl,ru⟩:=rv.one
 obtain ⟨z,its,n,r,hl,e⟩:=I.lstM hH
 refine call_meets F.slot_list_append ⟨_,e,rfl⟩ F.entry_list_append (F.args_list_append_2 _ _) (PySem.list_append l its.toArray n u (by rw [List.size_toArray];omega)) ⟨e,?_⟩
 refine ⟨.non,_,I.lset (its':=its ++ [u]) hH e (by simp) (r.append (.cons ru .nil)) ?_,rfl,q⟩
 rw [List.length_append,List.length_singleton]
 omega
end
section
variable {prog:Program}{w:World}{A:Around}{E:Value->Shared->Prop}{s:Shared}
end
section
variable {X:Cx}
end
end L2
namespace Att
open PySem PySem.W PySem.Calls PyProof.Rows
theorem jB {P:Params}{h:Heap}:∀ (ns:List Int) (vs:List Value),WellAll P h vs (ns.map WData.int)->IntsAre vs ns:=by
 intro ns
 induction ns with
 | nil =>
  intro vs w
  rw [List.map_nil] at w
  cases w
  exact .nil
 | cons n ns ih =>
  intro vs w
  rw [List.map_cons] at w
  cases w with
  | cons a b =>
   cases a
   exact .cons _ _ (ih _ b)
theorem rq {l:OpenLaw}{n:Nat} (hn:l.most=some n) {P:Params}{h:Heap}{args:List WData}{vals:List Value}
  (hpre:l.row.toRowW.claim.pre args=true) (hwl:WellAll P h vals args) :
  ∃ a vs ns,vals=[Value.ref a]/\args=[WData.list (ns.map WData.int)]/\h.get? a=some { cls:=.type "list",data:=.seq vs.toArray }/\IntsAre vs ns/\ns.length <= n:=by
 have hsh:WShape.hasAll [] args [.list .int]=true:=(pre_splitW hpre).1
 have hc:l.pre.holds [] { args:=args }=true:=(pre_splitW hpre).2
 obtain ⟨d,r,rfl,h1,h2⟩:=hasAllW_cons hsh
 obtain rfl:=hasAllW_nil h2
 obtain ⟨xs,rfl,h3⟩:=hasW_list h1
 obtain ⟨ns,rfl⟩:=items_int h3
 have hlen:ns.length <= n:=by
  unfold OpenLaw.pre at hc
  have h4:(WTm.not (.lt (.lit (.int (n:Int))) (.len (.arg 0)))).holds [] { args:=[.list (ns.map .int)] }=true:=by
   have h4:=(holds_andW hc).1
   rw [hn] at h4
   exact h4
  have h5:=condW_of h4 (w_not (w_lt w_lit (w_len_list (w_arg rfl))))
  rw [List.length_map] at h5
  refine Nat.le_of_not_lt λq=>?_
  have q':(n:Int) < ((ns.length:Nat):Int):=by omega
  first
   | (rw [decide_eq_true q'] at h5;exact absurd h5 (by decide))
   | (simp at h5;omega)
 cases hwl with
 | cons w1 w2 =>
  cases w2
  cases w1 with
  | list ho hall=>exact ⟨_,_,ns,rfl,rfl,ho,jB ns _ hall,hlen⟩
theorem rA (l:OpenLaw) (args:List WData):l.row.toRowW.claim.post args (.bool true) args=true :=
 postW_of (r:=l.row.toRowW) (X:=(true == true))
  (show WShape.has [] (.bool true) .bool=true by first|rfl|decide|simp [WShape.has,WShape.arms,WShape.armsAll])
  (show (WTm.eq .res (.lit (.bool true))).value [] { args:=args,res:=some (.bool true),after:=args }=some (.bool (true == true)) from w_eq_bool (w_res rfl) w_lit) rfl
theorem attach_call {l:OpenLaw}{n:Nat}{q:Program}{loose:List Str}{XP:(Str->Option Value)->Heap->Prop}{YP:World->Heap->Prop}{d:DefRec}
  (hn:l.most=some n) (hdf:d.params.defaults=[])
  (call:∀ (w:World) (s₀ s₁:Shared) (mg mb:Str->Option Value) (fa:Addr) (o:Obj) (pm cd doc:Value) (a:Addr) (vs:List Value) (ns:List Int),
   Ground q loose [] XP w s₀ mg mb s₁.heap->YP w s₁.heap ->
   s₁.heap.get? fa=some o->o.data=.func (docDef d.name d.params d.body d.scope pm cd doc)->s₁.heap.CodeRec cd d.name->mg d.name=some (.ref fa) ->
   s₁.heap.get? a=some { cls:=.type "list",data:=.seq vs.toArray }->IntsAre vs ns->ns.length <= n->s₁.gens=#[] ->
   codeAny (model l.prog w) callerA (.call (.ref fa) ⟨[.ref a],[]⟩) (λr s'=>r=.ok (.ret (.bool true))/\OldK s₁.heap s'.heap/\s'.os=s₁.os/\AllBare s'.gens) s₁) :
  WalkO q loose XP YP l.row.toRowW d [] (λf vs=>PySem.call f vs):=by
 intro w s₀ s₁ mg mb G Y fa o pm cd doc dV kV ho hd hcd hD hmg hg args vals as hpre hlay hrd hwl hlo
 obtain rfl:dV=.none:=Dflts.none hD hdf
 obtain rfl:kV=.none:=Dflts.noKw hD
 obtain ⟨a,vs,ns,rfl,rfl,hobj,hints,hlen⟩:=rq hn hpre hwl
 refine enter_call (codeAny_mono (call w s₀ s₁ mg mb fa o pm cd doc a vs ns G Y ho (fd_plain hd) hcd hmg hobj hints hlen hg) λr s' hq=>?_)
 obtain ⟨rfl,h2,h3,h4⟩:=hq
 exact ⟨.inl ⟨.bool true,.bool true,[],rfl,λ_=>rfl,.bool true,rA l _,λ_=>⟨List.Pairwise.nil,λ_ hm=>(nomatch hm)⟩⟩,h2,h3,h4⟩
section
variable {prog:Program}{w:World}{A:Around}{E:Value->Shared->Prop}{s:Shared}{K:Frag}
end
end Att
namespace L2
open PySem PySem.Spec PyProof.Rows
theorem iX:∀ {vs:List Value}{ns:List Int},IntsAre vs ns->ar (ns.map V.int) vs
 | _,_,.nil=>.nil
 | _,_,.cons n t h=>.cons ⟨t,rfl⟩ (iX h)
noncomputable def yV (H:Hp):Prop:=∀ b,H b=none \/ ∃ o xs,H b=some (.frz o (.lst xs))
theorem tj {P:Program}{w:World}{K:PySem.W.Frag}{mg mb:Str->Option Value}{CX:CXT}{k:Nat}{fa a:Addr}{fd:FuncData}{x:Str}{sp:Sp}{s₁:Shared}{vs:List Value}{ns:List Int}
  (KX:K.In s₁.heap) (hns:s₁.heap.Ns mainGlobals mg) (hb:s₁.heap.Ns builtinsNs mb) (hbb:∀ x:Str,x ≠ "__name__"->mb x=bootBuiltins x) (hlim:s₁.heap.NoLimit) (hg:s₁.gens=#[])
  (ha:s₁.heap.get? a=some { cls:=.type "list",data:=.seq vs.toArray }) (hi:IntsAre vs ns) (hl:ns.length <= sizeLine) (hr:iW k callerA)
  (F:∀ base:Heap,K.In base->base.Ns mainGlobals mg->lc P w K mg base CX k fa fd [x] sp) (hbind:∀ (s:Shared) (u:Value),BindsTo s fd ⟨[u],[]⟩ [(x,u)])
  (hsp:∀ H:Hp,yV H->SqL K H a (ns.map V.int)->sp [.ref a] H (λv _=>v=.bl true) λ_ _ _=>False)
  (hCX:∀ H e s',CX [] H s₁ (λ_ _ _=>False) e s'->False) :
  codeAny (model P w) callerA (.call (.ref fa) ⟨[.ref a],[]⟩) (λr s'=>r=.ok (.ret (.bool true))/\OldK s₁.heap s'.heap/\s'.os=s₁.os/\AllBare s'.gens) s₁:=by
 have rv:=iX hi
 have lenV:=hi.length
 have core:∀ H:Hp,yV H->SqL K H a (ns.map V.int)->HOk P w H s₁.heap->(∀ b,H b ≠ none->b=a)->(H a ≠ none->K.lookup a=none) ->
   codeAny (model P w) callerA (.call (.ref fa) ⟨[.ref a],[]⟩) (λr s'=>r=.ok (.ret (.bool true))/\OldK s₁.heap s'.heap/\s'.os=s₁.os/\AllBare s'.gens) s₁:=by
  intro H hO hS hok hA hK
  have base_of:∀ {b:Addr}{o:Obj},s₁.heap.get? b=some o->H b=none->(mr s₁.heap H).get? b=some o:=λe n=>sF e n
  have noA:∀ {b:Addr}{o:Obj}{es:Array DictEntry}{ep:Nat},s₁.heap.get? b=some o->o.data=.dict es ep->H b=none:=λ{b o es ep} e d=>by
   cases q:H b with
   | none=>rfl
   | some u =>
    have e':b=a:=hA b (by rw [q];simp)
    subst e'
    rw [ha] at e;cases e
    have d':Data.seq vs.toArray _=Data.dict es ep:=d
    cases d'
  have nsK:∀ {b:Addr}{m:Str->Option Value},s₁.heap.Ns b m->(mr s₁.heap H).Ns b m:=λ{b m} ⟨o,es,ep,e,d,r⟩=>⟨o,es,ep,base_of e (noA e d),d,r⟩
  have hKb:K.In (mr s₁.heap H):=λb o e=>base_of (KX b o e) (by
   cases q:H b with
   | none=>rfl
   | some u =>
    have e':b=a:=hA b (by rw [q];simp)
    subst e'
    rw [hK (by rw [q];simp)] at e;cases e)
  have hM:Mod K mg (mr s₁.heap H):=⟨hKb,nsK hns,⟨mb,nsK hb,hbb⟩,let ⟨mc,h1,h2⟩:=hlim;⟨mc,nsK h1,h2⟩⟩
  have e0:wl P w K mg (mr s₁.heap H) callerA [] s₁ H:=⟨rfl,hM,λb o e=>v5 e,Nat.le_of_eq (rh _ _),trivial,λb hb=>absurd (show b ∈ ([]:List Addr) from hb) (by simp),hok,.of_eq hg⟩
  refine codeAny_mono ((F _ hKb (nsK hns)).run callerA [] s₁ H ⟨[.ref a],[]⟩ [.ref a] [.ref a] _ _ hr e0 (hbind s₁ (.ref a)) (.cons rfl .nil) (hsp H hO hS)) λr s' h=>?_
  cases r with
  | error e=>exact (hCX H e s' h).elim
  | ok fl =>
   cases fl with
   | next=>exact False.elim h
   | brk=>exact False.elim h
   | cont=>exact False.elim h
   | ret u =>
    obtain ⟨v,H',os,bare,un,hok',r',q⟩:=h
    have q':v=.bl true:=q
    subst q'
    obtain rfl:u=Value.bool true:=r'
    refine ⟨rfl,OldK.of_keep λb o e=>?_,os,bare⟩
    cases q:H b with
    | none=>exact un.keep b o e q (by intro z;exact absurd (show b ∈ ([]:List Addr) from z) (by simp)) (by simp)
    | some u =>
     rcases hO b with z|⟨ob,xs,z⟩
     ·rw [q] at z;cases z
     ·have z2:=un.frzs b ob _ z
      obtain ⟨e1,_⟩:=hok b _ z
      obtain ⟨e2,_⟩:=hok' b _ z2
      rw [e] at e1;cases e1
      exact e2
 cases hk:K.lookup a with
 | some o =>
  have e:=KX a o hk
  rw [ha] at e
  cases e
  refine core (λ_=>none) (λ_=>.inl rfl) (.inr ⟨_,vs.toArray,_,hk,rfl,rfl,rfl,by rw [List.size_toArray,lenV];exact hl,by simpa using rv⟩) (λb u z=>by have z':(none:Option HO)=some u:=z;cases z') (λb z=>absurd rfl z) λz=>absurd rfl z
 | none =>
  refine core (λb=>if b=a then some (.frz { cls:=.type "list",data:=.seq vs.toArray } (.lst (ns.map V.int))) else none) (λb=>?_) (.inl (.inr ⟨{ cls:=.type "list",data:=.seq vs.toArray },if_pos rfl⟩)) (λb u z=>?_) (λb z=>?_) λ_=>hk
  ·by_cases hb:b=a
   ·exact .inr ⟨_,_,if_pos hb⟩
   ·exact .inl (if_neg hb)
  ·by_cases hb:b=a
   ·have z':=(if_pos hb).symm.trans z
    cases z'
    subst hb
    exact ⟨ha,by rw [List.length_map];exact hl,vs,_,rv,ha⟩
   ·have z':=(if_neg hb).symm.trans z
    cases z'
  ·by_cases hb:b=a
   ·exact hb
   ·exact absurd (if_neg hb) z
end L2
namespace L2
open PySem PySem.Spec PyProof.Rows
theorem ww {l:PySem.W.OpenLaw}{n k:Nat}{q:Program}{loose:List Str}{XP:(Str->Option Value)->Heap->Prop}{YP:World->Heap->Prop}{d:DefRec}{K:Params->PySem.W.Frag}{CX:World->CXT}{sp:World->Sp}{x:Str}
  (hn:l.most=some n) (hn2:n <= sizeLine) (hdf:d.params.defaults=[]) (hr:iW k callerA)
  (hY:∀ (w:World) (h:Heap),YP w h->(K w.params).In h)
  (F:∀ (w:World) (mg:Str->Option Value) (fa:Addr) (h:Heap),(K w.params).In h->h.Ns mainGlobals mg->mg d.name=some (.ref fa) ->
   ∃ fd:FuncData,(∀ (s:Shared) (u:Value),BindsTo s fd ⟨[u],[]⟩ [(x,u)]) /\
    ∀ base:Heap,(K w.params).In base->base.Ns mainGlobals mg->lc l.prog w (K w.params) mg base (CX w) k fa fd [x] (sp w))
  (hsp:∀ (w:World) (H:Hp) (a:Addr) (ns:List Int),ns.length <= n->yV H->SqL (K w.params) H a (ns.map V.int)->sp w [.ref a] H (λv _=>v=.bl true) λ_ _ _=>False)
  (hCX:∀ (w:World) (H:Hp) (s:Shared) (e:Value) (s':Shared),CX w [] H s (λ_ _ _=>False) e s'->False) :
  PySem.W.WalkO q loose XP YP l.row.toRowW d [] (λf vs=>PySem.call f vs):=by
 refine Att.attach_call hn hdf λw s₀ s₁ mg mb fa o pm cd doc a vs ns G Y ho hd hcd hmg hobj hints hlen hg=>?_
 have KX:=hY w _ Y
 obtain ⟨fd,hb,hF⟩:=F w mg fa _ KX G.T.g hmg
 exact tj KX G.T.g G.T.b G.T.builtins G.T.nolimit hg hobj hints (Nat.le_trans hlen hn2) hr hF hb (λH hO hS=>hsp w H a ns hlen hO hS) λH e s'=>hCX w H s₁ e s'
end L2
namespace L2
open PySem PySem.Spec PyProof.Rows
noncomputable def ik (s:Stmt):Arguments:=match s with
 | .FunctionDef _ a _ _ _ _ _ _ _ _=>a
 | _=>{ posonlyargs:=[],args:=[],vararg:=none,kwonlyargs:=[],kw_defaults:=[],kwarg:=none,defaults:=[] }
noncomputable def dW (s:Stmt):List Stmt:=match s with
 | .FunctionDef _ _ b _ _ _ _ _ _ _=>b
 | _=>[]
noncomputable def aP (s:Stmt):Scope:=match s with
 | .FunctionDef _ _ _ _ _ _ sc _ _ _=>sc
 | _=>{ kind:=.function,names:=[],isGenerator:=false,isCoroutine:=false }
noncomputable abbrev CX0:CXT:=λ_ _ _ _ _ _=>False
noncomputable abbrev E0:XK:=λ_ _ _=>False
theorem xR {X:Cx}:my CX0 X E0:=λ_ _ _ _ _ _ _ h=>h.elim
section
variable {P:Program}{w:World}{K:PySem.W.Frag}{mg:Str->Option Value}{base:Heap}
end
section
variable {X:Cx}
end
noncomputable def af (H H':Hp):Prop:=∀ b o,H b=some o->H' b=some o
theorem af.refl (H:Hp):af H H:=λ_ _ h=>h
theorem af.trans {H H1 H2:Hp} (a:af H H1) (b:af H1 H2):af H H2:=λc o h=>b c o (a c o h)
theorem af.free {H H':Hp} (e:af H H') {l:Addr} (h:H' l=Option.none):H l=Option.none:=by
 cases q:H l with
 | none=>rfl
 | some o =>
  rw [e l o q] at h
  cases h
theorem af.seq {K:PySem.W.Frag}{H H':Hp}{a:Addr}{xs:List V} (e:af H H') (h:SqL K H a xs):SqL K H' a xs:=by
 rcases h with (h|⟨o,h⟩)|h
 ·exact .inl (.inl (e _ _ h))
 ·exact .inl (.inr ⟨o,e _ _ h⟩)
 ·exact .inr h
end L2
namespace L2
open PySem PySem.Spec PyProof.Rows
section
variable {κ:Type} [DecidableEq κ]
noncomputable def il (kvs:List (κ × V)) (k:κ):Option V:=(kvs.find? λkv=>decide (kv.1=k)).map (·.2)
noncomputable def gx (kvs:List (κ × V)) (k:κ) (v:V):List (κ × V) :=
 if (kvs.any λkv=>decide (kv.1=k))=true then kvs.map (λkv=>if kv.1=k then (kv.1,v) else kv) else kvs ++ [(k,v)]
noncomputable def Dn (kvs:List (κ × V)) (k:κ):List (κ × V):=kvs.filter λkv=>decide (kv.1 ≠ k)
theorem jW {p:κ × V}{r:List (κ × V)}{k:κ} (e:p.1=k):il (p::r) k=some p.2:=by simp [il,List.find?_cons,e]
theorem jX {p:κ × V}{r:List (κ × V)}{k:κ} (e:¬ p.1=k):il (p::r) k=il r k:=by simp [il,List.find?_cons,e]
theorem nF (k:κ):∀ kvs:List (κ × V),(kvs.any λkv=>decide (kv.1=k))=(il kvs k).isSome
 | []=>rfl
 | p::r=>by
  rw [List.any_cons]
  by_cases e:p.1=k
  ·simp only [jW e,decide_eq_true e,Bool.true_or,Option.isSome_some]
  ·rw [jX e,decide_eq_false e,Bool.false_or];exact nF k r
theorem jn (kvs:List (κ × V)) (k:κ) (v:V):(gx kvs k v).length <= kvs.length + 1:=by
 unfold gx
 split
 ·rw [List.length_map];omega
 ·rw [List.length_append,List.length_cons,List.length_nil];omega
theorem jy.isSome_eq {o:Option V}{u:Option Value} (r:jy o u):o.isSome=u.isSome:=by
 cases o with
 | none=>cases u with
  | none=>rfl
  | some _=>exact (show False from r).elim
 | some _=>cases u with
  | none=>exact (show False from r).elim
  | some _=>rfl
theorem jy.getD {o:Option V}{u:Option Value}{d:V}{d':Value} (r:jy o u) (rd:aq d d'):aq (o.getD d) (u.getD d'):=by
 cases o with
 | none=>cases u with
  | none=>exact rd
  | some _=>exact (show False from r).elim
 | some _=>cases u with
  | none=>exact (show False from r).elim
  | some _=>exact r
theorem KV.val {kvs:List (κ × V)}{vs:List (κ × Value)} (r:KV kvs vs) (k:κ):jy (il kvs k) (valueAt vs k):=by
 unfold KV at r
 induction r with
 | nil=>exact True.intro
 | @cons p q ps qs h t ih =>
  obtain ⟨h1,h2⟩:=h
  by_cases e:p.1=k
  ·have e':q.1=k:=h1.symm.trans e
   have b:valueAt (q::qs) k=some q.2:=by simp [valueAt,List.find?_cons,e']
   rw [jW e,b];exact h2
  ·have e':¬ q.1=k:=λz=>e (h1.trans z)
   have b:valueAt (q::qs) k=valueAt qs k:=by simp [valueAt,List.find?_cons,e']
   rw [jX e,b];exact ih
theorem KV.any {kvs:List (κ × V)}{vs:List (κ × Value)} (r:KV kvs vs) (k:κ):(kvs.any λkv=>decide (kv.1=k))=vs.any λkv=>decide (kv.1=k):=by
 unfold KV at r
 induction r with
 | nil=>rfl
 | cons h t ih=>rw [List.any_cons,List.any_cons,ih,h.1]
theorem KV.repl {kvs:List (κ × V)}{vs:List (κ × Value)} (r:KV kvs vs) (k:κ) {y:V}{u:Value} (ry:aq y u) :
  KV (kvs.map λkv=>if kv.1=k then (kv.1,y) else kv) (vs.map λkv=>if kv.1=k then (kv.1,u) else kv):=by
 unfold KV at r ⊢
 induction r with
 | nil=>exact .nil
 | @cons p q ps qs h t ih =>
  rw [List.map_cons,List.map_cons]
  refine .cons ?_ ih
  obtain ⟨h1,h2⟩:=h
  by_cases e:p.1=k
  ·rw [if_pos e,if_pos (h1.symm.trans e)];exact ⟨h1,ry⟩
  ·rw [if_neg e,if_neg (λz=>e (h1.trans z))];exact ⟨h1,h2⟩
theorem KV.put {kvs:List (κ × V)}{vs:List (κ × Value)} (r:KV kvs vs) (k:κ) {y:V}{u:Value} (ry:aq y u):KV (gx kvs k y) (stored vs k u):=by
 unfold gx stored
 rw [r.any k]
 by_cases e:(vs.any λkv=>decide (kv.1=k))=true
 ·rw [if_pos e,if_pos e];exact r.repl k ry
 ·rw [if_neg e,if_neg e];exact Paired.snoc r ⟨rfl,ry⟩
theorem KV.keys {kvs:List (κ × V)}{vs:List (κ × Value)} (r:KV kvs vs):kvs.map (·.1)=vs.map (·.1):=by
 unfold KV at r
 induction r with
 | nil=>rfl
 | cons h t ih=>rw [List.map_cons,List.map_cons,ih,h.1]
theorem KV.length {kvs:List (κ × V)}{vs:List (κ × Value)} (r:KV kvs vs):kvs.length=vs.length:=Paired.length r
end
theorem lF {P:Program}{w:World}{k:Key}{u:Value} (r:aq (kV k) u):(br P w).is k u=true:=by
 cases k with
 | inl i=>obtain ⟨t,e⟩:=(show ∃ t,u=Value.int i t from r);subst e;exact nu P w i t
 | inr x=>obtain ⟨t,e⟩:=(show ∃ t,u=Value.str x t from r);subst e;exact nv P w x t
theorem lG {P:Program}{w:World}:∀ {ks:List Key}{us:List Value},ar (ks.map kV) us->ItemsAre (br P w) ks us
 | [],_,r=>by rw [List.map_nil] at r;cases r;exact .nil
 | k::ks,_,r=>by
  rw [List.map_cons] at r
  cases r with
  | cons h t=>exact .cons (lF h) (lG t)
noncomputable abbrev KT (H:Hp):List (List Key × V)->List (List Key × Addr × Value)->Prop:=Paired λp q=>p.1=q.1/\H q.2.1=some (.tup (p.1.map kV))/\aq p.2 q.2.2
theorem KT.val {H:Hp}{kvs:List (List Key × V)}{xs:List (List Key × Addr × Value)} (r:KT H kvs xs) (k:List Key):jy (il kvs k) ((atKey xs k).map (·.2)):=by
 induction r with
 | nil=>exact True.intro
 | @cons p q ps qs h t ih =>
  obtain ⟨h1,_,h2⟩:=h
  by_cases e:p.1=k
  ·have e':q.1=k:=h1.symm.trans e
   have b:atKey (q::qs) k=some q.2:=by simp [atKey,List.find?_cons,e']
   rw [jW e,b];exact h2
  ·have e':¬ q.1=k:=λz=>e (h1.trans z)
   have b:atKey (q::qs) k=atKey qs k:=by simp [atKey,List.find?_cons,e']
   rw [jX e,b];exact ih
theorem KT.repl {H:Hp}{kvs:List (List Key × V)}{xs:List (List Key × Addr × Value)} (r:KT H kvs xs) (k:List Key) {y:V}{u:Value} (ry:aq y u) :
  KT H (kvs.map λkv=>if kv.1=k then (kv.1,y) else kv) (xs.map (putAt k u)):=by
 induction r with
 | nil=>exact .nil
 | @cons p q ps qs h t ih =>
  rw [List.map_cons,List.map_cons]
  refine .cons ?_ ih
  obtain ⟨h1,h2,h3⟩:=h
  unfold putAt
  by_cases e:p.1=k
  ·rw [if_pos e,if_pos (h1.symm.trans e)];exact ⟨h1,h2,ry⟩
  ·rw [if_neg e,if_neg (λz=>e (h1.trans z))];exact ⟨h1,h2,h3⟩
theorem KT.put {H:Hp}{kvs:List (List Key × V)}{xs:List (List Key × Addr × Value)} (r:KT H kvs xs) (k:List Key) {b:Addr}{y:V}{u:Value} (hb:H b=some (.tup (k.map kV))) (ry:aq y u) :
  KT H (gx kvs k y) (storedH xs k b u):=by
 have e:(kvs.any λkv=>decide (kv.1=k))=(atKey xs k).isSome:=by
  rw [nF,(r.val k).isSome_eq,Option.isSome_map]
 unfold gx storedH
 rw [e]
 by_cases q:(atKey xs k).isSome=true
 ·rw [if_pos q,if_pos q];exact r.repl k ry
 ·rw [if_neg q,if_neg q];exact Paired.snoc r ⟨rfl,hb,ry⟩
theorem KT.keeps {H H':Hp}{kvs:List (List Key × V)}{xs:List (List Key × Addr × Value)} (r:KT H kvs xs) (ht:∀ b ys,H b=some (.tup ys)->H' b=some (.tup ys)):KT H' kvs xs :=
 Paired.mapP r λ_ _ z=>⟨z.1,ht _ _ z.2.1,z.2.2⟩
section
variable {P:Program}{w:World}{H:Hp}{h:Heap}{a:Addr}
theorem xS {u:HO} (ok:HOk P w H h) (e:Rd H a u):aV P w H h a u:=e.ok ok
theorem im {kvs:List (Key × V)} (ok:HOk P w H h) (e:Rd H a (.dK kvs)):kvs.length <= sizeLine/\(a == sysModules)=false/\∃ vs,KV kvs vs/\h.DictOf (br P w) a vs :=
 show aV P w H h a (.dK kvs) from xS ok e
theorem Bi {kvs:List (Key × V)} (ok:HOk P w H h) (e:H a=some (.dK kvs)):kvs.length <= sizeLine/\(a == sysModules)=false/\∃ vs,KV kvs vs/\h.DictOf (br P w) a vs:=im ok (.inl e)
theorem iY {ks:List Key} (ok:HOk P w H h) (e:H a=some (.tup (ks.map kV))):(tupleKind (br P w)).is h ks a:=by
 obtain ⟨_,its,r,o,h1,h2,n,h3⟩:=(show aV P w H h a (.tup (ks.map kV)) from ok a _ e)
 exact ⟨o,its.toArray,n,h1,h2,h3,by simpa using lG r⟩
theorem jo {kvs:List (List Key × V)} (ok:HOk P w H h) (e:Rd H a (.dT kvs)):kvs.length <= sizeLine/\(a == sysModules)=false /\
  ∃ xs,KT H kvs xs/\h.DictOfH (tupleKind (br P w)) a xs:=by
 obtain ⟨z,y,xs,r,o,es,ep,h1,h2,h3,h4,h5⟩:=(show aV P w H h a (.dT kvs) from xS ok e)
 refine ⟨z,y,xs,r,o,es,ep,h1,h2,h3,h4,λx hx=>?_,h5⟩
 have all:∀ {l:List (List Key × V)}{m:List (List Key × Addr × Value)},KT H l m->∀ x ∈ m,(tupleKind (br P w)).is h x.1 x.2.1:=by
  intro l m q
  induction q with
  | nil=>intro x hx;exact nomatch hx
  | @cons p q ps qs hq t ih =>
   intro x hx
   rcases List.mem_cons.mp hx with e|hx
   ·subst e
    exact iY ok (by rw [<- hq.1];exact hq.2.1)
   ·exact ih x hx
 exact all r x hx
theorem Bj {kvs:List (List Key × V)} (ok:HOk P w H h) (e:H a=some (.dT kvs)):kvs.length <= sizeLine/\(a == sysModules)=false /\
  ∃ xs,KT H kvs xs/\h.DictOfH (tupleKind (br P w)) a xs:=jo ok (.inl e)
end
noncomputable def jY (H:Hp) (a:Addr) (y:V) (r:Option V):Prop :=
 (∃ kvs k,Rd H a (.dK kvs)/\y=kV k/\r=il kvs k) \/ ∃ kvs k b,Rd H a (.dT kvs)/\y=.ref b/\H b=some (.tup (k.map kV))/\r=il kvs k
noncomputable def jZ (H:Hp) (a:Addr) (y v:V) (H':Hp):Prop :=
 (∃ kvs k,H a=some (.dK kvs)/\y=kV k/\kvs.length < sizeLine/\H'=upd H a (.dK (gx kvs k v))) \/
 ∃ kvs k b,H a=some (.dT kvs)/\y=.ref b/\H b=some (.tup (k.map kV))/\kvs.length < sizeLine/\H'=upd H a (.dT (gx kvs k v))
theorem jZ.k {H:Hp}{a:Addr}{kvs:List (Key × V)}{k:Key}{v:V} (e:H a=some (.dK kvs)) (hl:kvs.length < sizeLine):jZ H a (kV k) v (upd H a (.dK (gx kvs k v))):=.inl ⟨kvs,k,e,rfl,hl,rfl⟩
theorem jZ.t {H:Hp}{a b:Addr}{kvs:List (List Key × V)}{k:List Key}{v:V} (e:H a=some (.dT kvs)) (eb:H b=some (.tup (k.map kV))) (hl:kvs.length < sizeLine) :
  jZ H a (.ref b) v (upd H a (.dT (gx kvs k v))):=.inr ⟨kvs,k,b,e,rfl,eb,hl,rfl⟩
section
variable {X:Cx}{pins:List (Addr × Obj)}{σ:St}{H:Hp}{s:Shared}{a:Addr}{y v:V}{u r:Value}{o:Option V}{A:Around}{E:Value->Shared->Prop}
theorem Inv.big (I:Inv X pins σ H s):sysModules < s.heap.objs.size:=by
 have h:mainGlobals < s.heap.objs.size:=(I.mod.glob.keeps I.bk).lt
 exact Nat.lt_trans (by decide) h
theorem rB {Q:Value->Shared->Prop} (hu:A.units + 1 < cLine) (I:Inv X pins σ H s) (g:jY H a y (some v)) (ry:aq y u) (h:∀ w' s',Inv X pins σ H s'->aq v w'->Q w' s') :
  wpAny (model X.prog X.w) A (getItem (.ref a) u) Q E s:=by
 rcases g with ⟨kvs,k,e,ey,l⟩|⟨kvs,k,b,e,ey,eb,l⟩
 ·subst ey
  obtain ⟨z,hd,vs,rel,dd⟩:=im I.hok e
  obtain ⟨w',hw,rw'⟩:=jy.some_of (v:=v) (o:=valueAt vs k) (by rw [l];exact rel.val k)
  exact wpAny_getItem_of (lF ry) dd.mapOf hw (h w' _ (I.tok _) rw')
 ·subst ey
  cases (show u=Value.ref b from ry)
  obtain ⟨z,hd,xs,rel,dd⟩:=jo I.hok e
  obtain ⟨w',hw,rw'⟩:=jy.some_of (v:=v) (o:=(atKey xs k).map (·.2)) (by rw [l];exact rel.val k)
  obtain ⟨p,hp,hp2⟩:=Option.map_eq_some_iff.mp hw
  refine wpAny_getItem_heap (tupleKind_room_in1 hu) (iY I.hok eb) dd hp ?_
  rw [hp2]
  exact h w' _ (I.tok _) rw'
theorem C1 {Q:Value->Shared->Prop} (hu:A.units + 1 < cLine) (I:Inv X pins σ H s) (g:jY H a y o) (ry:aq y u) (h:∀ s',Inv X pins σ H s'->Q (.bool o.isSome) s') :
  wpAny (model X.prog X.w) A (compareOp .In u (.ref a)) Q E s:=by
 rcases g with ⟨kvs,k,e,ey,l⟩|⟨kvs,k,b,e,ey,eb,l⟩
 ·subst ey
  obtain ⟨z,hd,vs,rel,dd⟩:=im I.hok e
  refine wpAny_in_of (lF ry) hd dd.mapOf ?_
  rw [<- (rel.val k).isSome_eq,<- l]
  exact h _ (I.tok _)
 ·subst ey
  cases (show u=Value.ref b from ry)
  obtain ⟨z,hd,xs,rel,dd⟩:=jo I.hok e
  refine wpAny_in_heap (tupleKind_room_in1 hu) (iY I.hok eb) hd dd ?_
  have q:=(rel.val k).isSome_eq
  rw [Option.isSome_map] at q
  rw [<- q,<- l]
  exact h _ (I.tok _)
theorem wz {Q:Value->Shared->Prop} (hu:A.units + 1 < cLine) (I:Inv X pins σ H s) (g:jY H a y o) (ry:aq y u) (h:∀ s',Inv X pins σ H s'->Q (.bool (!o.isSome)) s') :
  wpAny (model X.prog X.w) A (compareOp .NotIn u (.ref a)) Q E s:=by
 rcases g with ⟨kvs,k,e,ey,l⟩|⟨kvs,k,b,e,ey,eb,l⟩
 ·subst ey
  obtain ⟨z,hd,vs,rel,dd⟩:=im I.hok e
  refine wpAny_notIn_of (lF ry) hd dd.mapOf ?_
  rw [<- (rel.val k).isSome_eq,<- l]
  exact h _ (I.tok _)
 ·subst ey
  cases (show u=Value.ref b from ry)
  obtain ⟨z,hd,xs,rel,dd⟩:=jo I.hok e
  refine wpAny_notIn_heap (tupleKind_room_in1 hu) (iY I.hok eb) hd dd ?_
  have q:=(rel.val k).isSome_eq
  rw [Option.isSome_map] at q
  rw [<- q,<- l]
  exact h _ (I.tok _)
theorem qc {h':Heap}{t':Nat}{ob:HO} (I:Inv X pins σ H s) (mu:Mut (H a)) (hs:Heap.SameBut a s.heap h') (he:∃ q,h'.get? a=some q) (new:aV X.prog X.w (upd H a ob) h' a ob) :
  Inv X pins σ (upd H a ob) { s with heap:=h',toks:=t' } :=
 I.write (x:=a) (e:=a) mu (.inl rfl) (λb q hb z=>(hs.2 b hb).trans z) he new
theorem yW {P:Program}{w:World}{H':Hp}{h':Heap}{kvs:List (Key × V)}{vs:List (Key × Value)} (z:kvs.length <= sizeLine) (hd:(a == sysModules)=false) (rel:KV kvs vs) (dd:h'.DictOf (br P w) a vs) :
  aV P w H' h' a (.dK kvs):=⟨z,hd,vs,rel,dd⟩
theorem rC {H':Hp}{Q:Unit->Shared->Prop} (hu:A.units + 1 < cLine) (I:Inv X pins σ H s) (g:jZ H a y v H') (ry:aq y u) (rv:aq v r) (h:∀ s',Inv X pins σ H' s'->Q () s') :
  wpAny (model X.prog X.w) A (setItem (.ref a) u r) Q E s:=by
 rcases g with ⟨kvs,k,e,ey,l,eH⟩|⟨kvs,k,b,e,ey,eb,l,eH⟩
 ·subst ey eH
  obtain ⟨z,hd,vs,rel,dd⟩:=Bi I.hok e
  have hz:vs.length <= sizeLine:=by rw [<- rel.length];exact z
  have hl:(gx kvs k v).length <= sizeLine:=by have:=jn kvs k v;omega
  refine wpAny_setItem_pairs (hsz:=hz) (lF ry) dd λh' dd' hs=>h _ ?_
  have he:∃ q,h'.get? a=some q:=let ⟨q,_,_,hq,_⟩:=dd';⟨q,hq⟩
  exact qc I (by rw [e];exact True.intro) hs he (yW hl hd (rel.put k rv) dd')
 ·subst ey eH
  cases (show u=Value.ref b from ry)
  obtain ⟨z,hd,xs,rel,dd⟩:=Bj I.hok e
  have hz:xs.length <= sizeLine:=by rw [<- Paired.length rel];exact z
  have hl:(gx kvs k v).length <= sizeLine:=by have:=jn kvs k v;omega
  refine wpAny_setItem_heap (hsz:=hz) (tupleKind_room_in1 hu) (iY I.hok eb) dd λh' dd' hs=>h _ ?_
  obtain ⟨q,es,ep,hq,h2,h3,h4,_,h5⟩:=dd'
  refine qc I (by rw [e];exact True.intro) hs ⟨q,hq⟩ ⟨hl,hd,_,(rel.put k eb rv).keeps λc ys ec=>?_,q,es,ep,hq,h2,h3,h4,h5⟩
  rw [aW (AK ec e (λz=>nomatch z))]
  exact ec
end
section
variable {X:Cx}{pins:List (Addr × Obj)}{σ:St}{H:Hp}{s:Shared}{a:Addr}{kvs:List (Key × V)}{k:Key}{u:Value}{A:Around}{E:Value->Shared->Prop}
end
noncomputable def Bk (i:Expr):Prop:=∀ ov iv,subscripted i false ov iv=operate [ov,iv] (getItem ov iv)
theorem wA {prog:Program}{w:World}{A:Around}{E:Value->Shared->Prop}{s:Shared}{env:Env}{value slice:Expr}{pos:Pos}{T id:String}{Q:Value->Shared->Prop}
  (hl:typeLookup (.type T) "__getitem__"=pure (some (.builtin id))) (hs:Bk slice)
  (h:wpAny (model prog w) A (eval value env) (λo s₁=>wpAny (model prog w) A (eval slice env) (λi s₂=>s₂.TypeIs o T/\wpAny (model prog w) A (getItem o i) Q E s₂) E s₁) E s) :
  wpAny (model prog w) A (eval (.Subscript value slice pos) env) Q E s:=by
 refine Subscript_ (wpAny_mono h (λo s₁ h₁=>wpAny_mono h₁ (λi s₂ h₂=>?_) λ_ _ x=>x) λ_ _ x=>x)
 obtain ⟨hT,h₂⟩:=h₂
 unfold subscriptTail
 refine wpAny_bind ?_
 rw [getitemInPython_of_ne hT.not_modules]
 refine wpAny_bind (wpAny_specialOf hT hl ?_)
 have fin:wpAny (model prog w) A (subscripted slice false o i) (λr s₃=>wpAny (model prog w) A (letTemporaryGo value o r >>= λ_=>pure r) Q E s₃) E s₂:=by
  rw [hs o i]
  exact wpAny_operating (wpAny_mono h₂ (λr s₃ h₃=>wpAny_bind (wpAny_letTemporaryGo (wpAny_pure h₃))) λ_ _ x=>x)
 first
  | exact wpAny_pure (wpAny_bind fin)
  | exact wpAny_bind (wpAny_pure (wpAny_bind fin))
  | exact wpAny_bind fin
theorem nG {X:Cx}{pins:List (Addr × Obj)}{σ:St}{H:Hp}{s:Shared}{a:Addr}{y:V}{o:Option V} (I:Inv X pins σ H s) (g:jY H a y o):s.TypeIs (.ref a) "dict":=by
 rcases g with ⟨kvs,k,e,_,_⟩|⟨kvs,k,b,e,_,_,_⟩
 ·obtain ⟨_,_,vs,_,dd⟩:=im I.hok e
  exact dd.typeIs
 ·obtain ⟨_,_,xs,_,dd⟩:=jo I.hok e
  exact dd.typeIs
noncomputable def Bl (td ty:TE):TE:=λσ H Q=>td σ H λx H1=>ty σ H1 λy H2=>∃ a v,x=.ref a/\jY H2 a y (some v)/\Q v H2
noncomputable def C2 (ty td:TE):TE:=λσ H Q=>ty σ H λy H1=>td σ H1 λx H2=>∃ a o,x=.ref a/\jY H2 a y o/\Q (.bl o.isSome) H2
noncomputable def wB (ty td:TE):TE:=λσ H Q=>ty σ H λy H1=>td σ H1 λx H2=>∃ a o,x=.ref a/\jY H2 a y o/\Q (.bl (!o.isSome)) H2
noncomputable def Bm (td ty tv:TE):TS:=λD σ H=>tv σ H λv H1=>td σ H1 λx H2=>ty σ H2 λy H3=>∃ a H4,x=.ref a/\jZ H3 a y v H4/\D.nx σ H4
section
variable {X:Cx}{o i e value:Expr}{pos pos' tpos:Pos}{td ty tv:TE}
theorem wC (hu:X.A.units + 1 < cLine) (ho:PE X o td) (hi:PE X i ty) (hs:Bk i):PE X (.Subscript o i pos) (Bl td ty):=by
 intro pins s σ H Q I h
 refine wA PySem.F.slot_dict_getitem.lookup hs (thn (ho pins s σ H _ I h) λu s1 ⟨x,H1,I1,rx,q1⟩=>thn (hi pins s1 σ H1 _ I1 q1) λiv s2 ⟨y,H2,I2,ry,a,v,ex,g,q2⟩=>?_)
 subst ex
 obtain rfl:u=Value.ref a:=rx
 exact ⟨nG I2 g,rB hu I2 g ry λw' s3 I3 rw'=>⟨v,H2,I3,rw',q2⟩⟩
theorem tm (hu:X.A.units + 1 < cLine) (hi:PE X i ty) (ho:PE X o td):PC X .In i o (C2 ty td):=by
 intro pins s σ H Q I h
 refine thn (hi pins s σ H _ I h) λiv s1 ⟨y,H1,I1,ry,q1⟩=>thn (ho pins s1 σ H1 _ I1 q1) λu s2 ⟨x,H2,I2,rx,a,ov,ex,g,q2⟩=>?_
 subst ex
 obtain rfl:u=Value.ref a:=rx
 exact C1 hu I2 g ry λs3 I3=>⟨.bl ov.isSome,H2,I3,rfl,q2⟩
theorem lH (hu:X.A.units + 1 < cLine) (hi:PE X i ty) (ho:PE X o td):PC X .NotIn i o (wB ty td):=by
 intro pins s σ H Q I h
 refine thn (hi pins s σ H _ I h) λiv s1 ⟨y,H1,I1,ry,q1⟩=>thn (ho pins s1 σ H1 _ I1 q1) λu s2 ⟨x,H2,I2,rx,a,ov,ex,g,q2⟩=>?_
 subst ex
 obtain rfl:u=Value.ref a:=rx
 exact wz hu I2 g ry λs3 I3=>⟨.bl (!ov.isSome),H2,I3,rfl,q2⟩
theorem wD (hu:X.A.units + 1 < cLine) (ho:PE X o td) (hi:PE X i ty) (hv:PE X value tv) (hs:swapsWith value (some (.Subscript o i pos')) pos.line X.env=pure false) :
  PS X (.Assign [.Subscript o i pos'] value pos) (Bm td ty tv):=by
 intro pins s σ H D I h
 refine wpAny_Assign_Subscript (thn (hv pins s σ H _ I h) λr s1 ⟨v,H1,I1,rv,q1⟩=>thn (ho pins s1 σ H1 _ I1 q1) λu s2 ⟨x,H2,I2,rx,q2⟩=>thn (hi pins s2 σ H2 _ I2 q2) λiv s3 ⟨y,H3,I3,ry,a,H4,ex,g,q3⟩=>?_) hs
 subst ex
 obtain rfl:u=Value.ref a:=rx
 exact rC hu I3 g ry rv λs4 I4=>⟨σ,H4,I4,q3⟩
end
theorem tq {P:Program}{w:World}{H:Hp} (h:Heap) (hb:sysModules < h.objs.size):aV P w H (h.push { cls:=.type "dict",data:=.dict #[] }) h.objs.size (.dK []) :=
 ⟨Nat.zero_le _,beq_eq_false_iff_ne.mpr (Ne.symm (Nat.ne_of_lt hb)),[],.nil,Heap.DictOf.new h⟩
theorem tu {P:Program}{w:World}{H:Hp} (h:Heap) (hb:sysModules < h.objs.size):aV P w H (h.push { cls:=.type "dict",data:=.dict #[] }) h.objs.size (.dT []) :=
 ⟨Nat.zero_le _,beq_eq_false_iff_ne.mpr (Ne.symm (Nat.ne_of_lt hb)),[],.nil,_,#[],0,Heap.get?_push_size _ rfl,⟨rfl,rfl,rfl⟩,rfl,rfl,List.nodup_nil⟩
noncomputable def yX:TE:=λ_ H Q=>∀ p,H p=none->Q (.ref p) (upd H p (.dK []))
noncomputable def yY:TE:=λ_ H Q=>∀ p,H p=none->Q (.ref p) (upd H p (.dT []))
section
variable {X:Cx}{pos:Pos}
theorem tw:PE X (.Dict [] [] pos) yX:=λpins s σ H Q I h =>
 wpAny_Dict_empty ⟨.ref s.heap.objs.size,_,I.laid (a:=s.heap.objs.size) (o:=.dK []) (t':=s.toks) (λ_ _ q=>Heap.get?_push_of_some _ q) (Nat.le_refl _) (tq s.heap I.big),rfl,h _ (I.hok.fresh (Nat.le_refl _))⟩
theorem tz:PE X (.Dict [] [] pos) yY:=λpins s σ H Q I h =>
 wpAny_Dict_empty ⟨.ref s.heap.objs.size,_,I.laid (a:=s.heap.objs.size) (o:=.dT []) (t':=s.toks) (λ_ _ q=>Heap.get?_push_of_some _ q) (Nat.le_refl _) (tu s.heap I.big),rfl,h _ (I.hok.fresh (Nat.le_refl _))⟩
end
structure M2 (X:Cx) (o:Expr) (m:Str) (apos:Pos) (e f:Expr) (cpos:Pos):Prop where
 base:attributeBase o m X.env (eval o X.env)=eval o X.env
 few:((backTo cpos (starEach [e,f] X.env)).all (λx=>!x.1)&&(backToKw cpos (keywordEach [] X.env)).all (λx=>x.1.isSome)
 &&decide (([e,f]:List Expr).length + ([]:List Keyword).length + (if ([]:List Keyword).isEmpty then 0 else 1) < 30))=true
 line:(apos.endLine == cpos.line)=true
 trees:backTo cpos (starEach [e,f] X.env)=[(false,eval e X.env),(false,eval f X.env)]
noncomputable def IsD (H:Hp) (a:Addr):Prop:=(∃ kvs,Rd H a (.dK kvs)) \/ ∃ kvs,Rd H a (.dT kvs)
theorem po {X:Cx}{pins:List (Addr × Obj)}{σ:St}{H:Hp}{s:Shared}{a:Addr} (I:Inv X pins σ H s) (d:IsD H a) :
  s.TypeIs (.ref a) "dict"/\(∀ b,Value.ref a=.ref b->∃ ob,s.heap.get? b=some ob/\ob.dict=none)/\(a == sysModules)=false:=by
 rcases d with ⟨kvs,e⟩|⟨kvs,e⟩
 ·obtain ⟨_,hd,vs,_,dd⟩:=im I.hok e
  refine ⟨dd.typeIs,λb q=>?_,hd⟩
  cases q
  obtain ⟨ob,_,_,h1,h2,_⟩:=dd
  exact ⟨ob,h1,h2.2.1⟩
 ·obtain ⟨_,hd,xs,_,dd⟩:=jo I.hok e
  refine ⟨dd.typeIs,λb q=>?_,hd⟩
  cases q
  obtain ⟨ob,_,_,h1,h2,_⟩:=dd
  exact ⟨ob,h1,h2.2.1⟩
section
variable {X:Cx}{pins:List (Addr × Obj)}{σ:St}{H:Hp}{s:Shared}{a:Addr}{y d:V}{u r:Value}{o:Option V}{A:Around}{E:Value->Shared->Prop}
theorem yZ {Q:Value->Shared->Prop} (hu:A.units + 1 < cLine) (I:Inv X pins σ H s) (g:jY H a y o) (ry:aq y u) (rd:aq d r) (h:∀ w' s',Inv X pins σ H s'->aq (o.getD d) w'->Q w' s') :
  wpAny (model X.prog X.w) A (call (.builtin "dict.get") [.ref a,u,r]) Q E s:=by
 rcases g with ⟨kvs,k,e,ey,l⟩|⟨kvs,k,b,e,ey,eb,l⟩
 ·subst ey
  obtain ⟨z,hd,vs,rel,dd⟩:=im I.hok e
  refine call_meetsIn PySem.F.slot_dict_get dd.typeIs PySem.F.entry_dict_get (PySem.F.args_dict_get_3 _ _ _) (meets_dict_get_default (br X.prog X.w) a (lF ry) hd r) ⟨_,dd.mapOf,h _ _ (I.tok _) ?_⟩
  rw [l]
  exact (rel.val k).getD rd
 ·subst ey
  cases (show u=Value.ref b from ry)
  obtain ⟨z,hd,xs,rel,dd⟩:=jo I.hok e
  refine call_meetsIn PySem.F.slot_dict_get dd.typeIs PySem.F.entry_dict_get (PySem.F.args_dict_get_3 _ _ _) (meetsH_dict_get_default (tupleKind (br X.prog X.w)) a b hd r) ⟨tupleKind_room_in1 hu,k,xs,iY I.hok eb,dd,h _ _ (I.tok _) ?_⟩
  rw [l]
  exact (rel.val k).getD rd
end
noncomputable def y0 (td ty tx:TE):TE:=λσ H Q=>td σ H λx H1=>∃ a,x=.ref a/\IsD H1 a/\ty σ H1 λy H2=>tx σ H2 λz H3=>∃ o,jY H3 a y o/\Q (o.getD z) H3
section
variable {X:Cx}{o e f:Expr}{apos cpos:Pos}{td ty tx:TE}
theorem tD (hu:X.A.units + 1 < cLine) (ho:PE X o td) (he:PE X e ty) (hf:PE X f tx) (m:M2 X o "get" apos e f cpos):PE X (.Call (.Attribute o "get" apos) [e,f] [] cpos) (y0 td ty tx):=by
 intro pins s σ H Q I h
 refine wpAny_Call_method m.base m.few m.line PySem.F.plainAttrs_dict PySem.F.slot_dict_get PySem.F.type_dict_get (thn (ho pins s σ H _ I h) λu s1 ⟨x,H1,I1,rx,a,ex,d,q1⟩=>?_)
 subst ex
 obtain rfl:u=Value.ref a:=rx
 obtain ⟨t1,t2,_⟩:=po I1 d
 refine ⟨t1,t2,?_⟩
 rw [m.trees]
 refine Calls.callWith_builtin rfl (Calls.evalArgs_plain (Calls.spliced_cons (thn (he pins s1 σ H1 _ I1 q1) λiv s2 ⟨y,H2,I2,ry,q2⟩ =>
  Calls.spliced_cons (thn (hf pins s2 σ H2 _ I2 q2) λfv s3 ⟨z,H3,I3,rz,ov,g,q3⟩=>Calls.spliced_nil ?_))))
 exact yZ hu I3 g ry rz λw' s4 I4 rw'=>⟨_,H3,I4,rw',q3⟩
end
section
variable {X:Cx}{pins:List (Addr × Obj)}{σ:St}{H:Hp}{s:Shared}{a:Addr}{kvs:List (Key × V)}{A:Around}{E:Value->Shared->Prop}
end
section
variable {X:Cx}{pins:List (Addr × Obj)}{σ:St}{H:Hp}{s:Shared}{a:Addr}{y:V}{u:Value}{A:Around}{E:Value->Shared->Prop}
end
end L2
namespace L2.Srt
open PySem PySem.W PyProof.Rows
section
variable {O:KeyOrd}{key:Nat->O.α}{N:Nat}{cmp:Nat->Nat->(Bool->Shared->Prop)->Shared->Prop}{s:Shared}
noncomputable def kk (key:Nat->O.α) (p:Array Nat) (i:Nat):O.α:=key (p.getD i 0)
noncomputable def dJ (key:Nat->O.α) (p:Array Nat) (k:Nat):Prop:=∀ i j,i <= j->j < k->O.kle (kk key p i) (kk key p j)
noncomputable def nH (key:Nat->O.α) (p:Array Nat) (k:Nat):Prop:=∀ i j,i <= j->j < k->O.kle (kk key p j) (kk key p i)
noncomputable def PB (N:Nat) (p:Array Nat):Prop:=p.Perm (List.range N).toArray
theorem PB.size {p:Array Nat} (h:PB N p):p.size=N:=by have:=h.size_eq;simpa using this
theorem PB.lt {p:Array Nat} (h:PB N p) {i:Nat} (hi:i < N):p.getD i 0 < N:=by
 have hs:i < p.size:=by rw [h.size];exact hi
 have hm:p[i] ∈ (List.range N):=by
  have e:=(Array.perm_iff_toList_perm.mp h).mem_iff (a:=p[i])
  simpa using e.mp (by simp)
 have e:p.getD i 0=p[i]:=by simp [Array.getD,hs]
 rw [e];exact List.mem_range.mp hm
theorem PB.rev {p:Array Nat} (h:PB N p) (i j:Nat):PB N (kas_rev p i j):=(mirror_perm _ _ _ _).trans h
theorem PB.bub {p:Array Nat} (h:PB N p) (i j:Nat):PB N (bubble p i j):=(bubble_perm _ _ _).trans h
theorem fI {p q:Array Nat}{i j:Nat} (h:p[i]?=q[j]?):kk key p i=kk key q j:=by
 unfold kk;rw [Array.getD_eq_getD_getElem?,Array.getD_eq_getD_getElem?,h]
theorem lI {p:Array Nat}{src d:Nat} (hs:src < p.size) (hd:d <= src) (k:Nat) :
  kk key (bubble p src d) k=if k=src - d then kk key p src else if src - d < k/\k <= src then kk key p (k - 1) else kk key p k:=by
 have e:=getElem?_bubble hs d hd k
 by_cases h1:k=src - d
 ·rw [if_pos h1] at e ⊢;exact fI e
 ·rw [if_neg h1] at e ⊢
  by_cases h2:src - d < k/\k <= src
  ·rw [if_pos h2] at e ⊢;exact fI e
  ·rw [if_neg h2] at e ⊢;exact fI e
theorem pp {p:Array Nat}{i j:Nat} (hj:j <= p.size) (k:Nat) :
  kk key (kas_rev p i j) k=if i <= k/\k < j then kk key p (i + j - 1 - k) else kk key p k:=by
 have e:=getElem?_mirror_all (i:=i) hj k
 unfold kas_rev
 by_cases h1:i <= k/\k < j
 ·rw [if_pos h1] at e ⊢;exact fI e
 ·rw [if_neg h1] at e ⊢;exact fI e
theorem cB {p:Array Nat}{i j:Nat} (hj:j <= p.size) (heq:∀ k,i <= k->k < j->kk key p k=kk key p (j - 1)) (k:Nat) :
  kk key (kas_rev p i j) k=kk key p k:=by
 rw [pp hj]
 split
 ·rw [heq _ (by omega) (by omega),heq k (by omega) (by omega)]
 ·rfl
variable (hc:∀ a b C,a < N->b < N->C (O.blt (key a) (key b)) s->cmp a b C s)
include hc
theorem nI {α:Type}{p:Array Nat}{i j:Nat}{k:Bool->KasT α}{Q:α->Shared->Prop} (hp:PB N p) (hi:i < N) (hj:j < N)
  (h:(k (O.blt (kk key p i) (kk key p j))).kasWp cmp Q s):(KasT.ask (p.getD i 0) (p.getD j 0) k).kasWp cmp Q s :=
 hc _ _ _ (hp.lt hi) (hp.lt hj) h
theorem tG {p:Array Nat}{nrem:Nat}{Q:Nat->Shared->Prop} (hp:PB N p) (hn:nrem <= N):∀ (f n:Nat),n + f=nrem->1 <= n->dJ key p n ->
  (∀ m,n <= m->m <= nrem->dJ key p m->(m=nrem \/ O.klt (kk key p m) (kk key p (m - 1)))->Q m s)->(kas_asc p f n).kasWp cmp Q s
 | 0,n,e,h1,hs,h=>h n (Nat.le_refl _) (by omega) hs (.inl (by omega))
 | f + 1,n,e,h1,hs,h=>by
  show (KasT.ask (p.getD n 0) (p.getD (n - 1) 0) λc=>if c=true then .ret n else kas_asc p f (n + 1)).kasWp cmp Q s
  refine nI hc hp (by omega) (by omega) ?_
  cases hless:O.blt (kk key p n) (kk key p (n - 1)) with
  | true =>
   rw [if_pos rfl]
   exact h n (Nat.le_refl _) (by omega) hs (.inr hless)
  | false =>
   rw [if_neg (by simp)]
   refine tG hp hn f (n + 1) (by omega) (by omega) (λi j hij hj=>?_) λm a b c d=>h m (by omega) b c d
   by_cases hjx:j < n
   ·exact hs i j hij hjx
   ·have hj':j=n:=by omega
    subst hj'
    by_cases hi':i=j
    ·subst hi';exact KeyOrd.kle_refl _
    ·exact KeyOrd.kle_trans (hs i (j - 1) (by omega) (by omega)) hless
theorem qd {p:Array Nat}{n nrem:Nat}{Q:Nat × Array Nat->Shared->Prop} (hp:PB N p) (hn:nrem <= N) (h1:1 <= n) (hnn:n <= nrem) (hs:nH key p n)
  (h:∀ m p',PB N p'->1 <= m->m <= nrem->dJ key p' m->Q (m,p') s):(kas_tail3 n nrem p).kasWp cmp Q s:=by
 unfold kas_tail3
 rw [KasT.kasWp_bind]
 have hz:n <= p.size:=by rw [hp.size];omega
 refine tG hc (hp.rev 0 n) hn (nrem - n) n (by omega) h1 (λi j hij hj=>?_) λm a b c _=>h m _ (hp.rev 0 n) (by omega) b c
 rw [pp hz,pp hz,if_pos (by omega),if_pos (by omega)]
 exact hs _ _ (by omega) (by omega)
theorem mE {nrem:Nat}{Q:Array Nat × Nat × Nat->Shared->Prop} (hn:nrem <= N):∀ (f:Nat) (p:Array Nat) (n q:Nat),n + f=nrem->PB N p->nH key p n->q + 1 <= n ->
  (∀ i,n - (q + 1) <= i->i < n->kk key p i=kk key p (n - 1)) ->
  (∀ p' m q',n <= m->m <= nrem->PB N p'->nH key p' m->q' + 1 <= m->(∀ i,m - (q' + 1) <= i->i < m->kk key p' i=kk key p' (m - 1))->Q (p',m,q') s) ->
  (kas_desc f p n q).kasWp cmp Q s
 | 0,p,n,q,e,hp,hs,hq,he,h=>h p n q (Nat.le_refl _) (by omega) hp hs hq he
 | f + 1,p,n,q,e,hp,hs,hq,he,h=>by
  show (KasT.ask (p.getD n 0) (p.getD (n - 1) 0) λc =>
   if c=true then (if q > 0 then kas_desc f (kas_rev p (n - (q + 1)) n) (n + 1) 0 else kas_desc f p (n + 1) 0)
   else .ask (p.getD (n - 1) 0) (p.getD n 0) λd=>if d=true then .ret (p,n,q) else kas_desc f p (n + 1) (q + 1)).kasWp cmp Q s
  have hz:n <= p.size:=by rw [hp.size];omega
  refine nI hc hp (by omega) (by omega) ?_
  cases hless:O.blt (kk key p n) (kk key p (n - 1)) with
  | true =>
   rw [if_pos rfl]
   have step1:∀ p':Array Nat,(∀ k,kk key p' k=kk key p k)->nH key p' (n + 1):=by
    intro p' hk i j hij hj
    rw [hk,hk]
    by_cases hjx:j < n
    ·exact hs i j hij hjx
    ·have hj':j=n:=by omega
     subst hj'
     by_cases hi':i=j
     ·subst hi';exact KeyOrd.kle_refl _
     ·exact KeyOrd.kle_trans (KeyOrd.kle_of_klt hless) (hs i (j - 1) (by omega) (by omega))
   by_cases hneq:q > 0
   ·rw [if_pos hneq]
    exact mE hn f _ (n + 1) 0 (by omega) (hp.rev _ _) (step1 _ (cB hz he)) (by omega) (λi a b=>by congr 1;omega)
     λp' m q' a=>h p' m q' (by omega)
   ·rw [if_neg hneq]
    exact mE hn f p (n + 1) 0 (by omega) hp (step1 _ λ_=>rfl) (by omega) (λi a b=>by congr 1;omega) λp' m q' a=>h p' m q' (by omega)
  | false =>
   rw [if_neg (by simp)]
   refine nI hc hp (by omega) (by omega) ?_
   cases hlarger:O.blt (kk key p (n - 1)) (kk key p n) with
   | true =>
    rw [if_pos rfl]
    exact h p n q (Nat.le_refl _) (by omega) hp hs hq he
   | false =>
    rw [if_neg (by simp)]
    have heqx:kk key p n=kk key p (n - 1):=KeyOrd.kle_antisymm hlarger hless
    refine mE hn f p (n + 1) (q + 1) (by omega) hp (λi j hij hj=>?_) (by omega) (λi a b=>?_) λp' m q' a=>h p' m q' (by omega)
    ·by_cases hjx:j < n
     ·exact hs i j hij hjx
     ·have hj':j=n:=by omega
      subst hj'
      by_cases hi':i=j
      ·subst hi';exact KeyOrd.kle_refl _
      ·rw [heqx];exact hs i (j - 1) (by omega) (by omega)
    ·rw [show n + 1 - 1=n by omega]
     by_cases hix:i=n
     ·subst hix;rfl
     ·rw [heqx];exact he i (by omega) (by omega)
theorem j1 {p:Array Nat}{n nrem:Nat}{Q:Nat × Array Nat->Shared->Prop} (hp:PB N p) (hn:nrem <= N) (hnn:n + 1 <= nrem) (hs:nH key p (n + 1))
  (h:∀ m p',PB N p'->1 <= m->m <= nrem->dJ key p' m->Q (m,p') s):(kas_descPart n nrem p).kasWp cmp Q s:=by
 unfold kas_descPart
 rw [KasT.kasWp_bind]
 refine mE hc hn (nrem - (n + 1)) p (n + 1) 0 (by omega) hp hs (by omega) (λi a b=>by congr 1;omega) λp' m q' hm1 hm2 hp' hs' hq he=>?_
 dsimp only
 have hz:m <= p'.size:=by rw [hp'.size];omega
 by_cases hneq:q' > 0
 ·rw [if_pos hneq]
  refine qd hc (hp'.rev _ _) hn (by omega) hm2 (λi j hij hj=>?_) h
  rw [cB hz he,cB hz he]
  exact hs' i j hij hj
 ·rw [if_neg hneq]
  exact qd hc hp' hn (by omega) hm2 hs' h
theorem wE {p:Array Nat}{nrem:Nat}{Q:Nat × Array Nat->Shared->Prop} (hp:PB N p) (hn:nrem <= N) (h1:1 <= nrem)
  (h:∀ m p',PB N p'->1 <= m->m <= nrem->dJ key p' m->Q (m,p') s):(kas_count nrem p).kasWp cmp Q s:=by
 unfold kas_count
 rw [KasT.kasWp_bind]
 refine tG hc hp hn (nrem - 1) 1 (by omega) (Nat.le_refl _) (λi j hij hj=>by have:i=j:=(by omega);subst this;exact KeyOrd.kle_refl _) λn hn1 hn2 hsn hor=>?_
 by_cases hnn:n=nrem
 ·rw [if_pos (by simpa using hnn)]
  exact h n p hp hn1 hn2 hsn
 ·rw [if_neg (by simpa using hnn)]
  have hlt:O.klt (kk key p n) (kk key p (n - 1)):=hor.resolve_left hnn
  by_cases hgt:n > 1
  ·rw [if_pos hgt]
   refine nI hc hp (by omega) (by omega) ?_
   cases hrose:O.blt (kk key p 0) (kk key p (n - 1)) with
   | true =>
    rw [if_pos rfl]
    exact h n p hp hn1 hn2 hsn
   | false =>
    rw [if_neg (by simp)]
    have hsz:n <= p.size:=by rw [hp.size];omega
    have hall:∀ k,0 <= k->k < n->kk key p k=kk key p (n - 1):=by
     intro k _ hk
     have a1:=hsn 0 k (by omega) hk
     have a2:=hsn k (n - 1) (by omega) (by omega)
     exact KeyOrd.kle_antisymm a2 (KeyOrd.kle_trans hrose a1)
    refine j1 hc (hp.rev _ _) hn (by omega) (λi j hij hj=>?_) h
    rw [cB hsz hall,cB hsz hall]
    by_cases hjn:j < n
    ·rw [hall i (by omega) (by omega),hall j (by omega) hjn];exact KeyOrd.kle_refl _
    ·have hj':j=n:=by omega
     subst hj'
     by_cases hi':i=j
     ·subst hi';exact KeyOrd.kle_refl _
     ·rw [hall i (by omega) (by omega)];exact KeyOrd.kle_of_klt hlt
  ·rw [if_neg hgt]
   have hn1':n=1:=by omega
   subst hn1'
   refine j1 hc hp hn (by omega) (λi j hij hj=>?_) h
   by_cases hi':i=j
   ·subst hi';exact KeyOrd.kle_refl _
   ·have hi0:i=0:=by omega
    have hj1:j=1:=by omega
    subst hi0;subst hj1
    exact KeyOrd.kle_of_klt hlt
theorem mF {p:Array Nat}{k:Nat}{Q:Nat->Shared->Prop} (hp:PB N p) (hk:k < N) (hs:dJ key p k):∀ (f l r:Nat),r - l <= f->l <= r->r <= k ->
  (∀ i,i < l->O.kle (kk key p i) (kk key p k))->(∀ i,r <= i->i < k->O.klt (kk key p k) (kk key p i)) ->
  (∀ l,l <= k->(∀ i,i < l->O.kle (kk key p i) (kk key p k))->(∀ i,l <= i->i < k->O.klt (kk key p k) (kk key p i))->Q l s)->(kas_place p k f l r).kasWp cmp Q s
 | 0,l,r,hf,hlr,hrk,hlo,hhi,h=>by
  have:l=r:=by omega
  subst this
  exact h l hrk hlo hhi
 | f + 1,l,r,hf,hlr,hrk,hlo,hhi,h=>by
  show (if l >= r then KasT.ret l else .ask (p.getD k 0) (p.getD ((l + r) / 2) 0) λc=>if c=true then kas_place p k f l ((l + r) / 2) else kas_place p k f ((l + r) / 2 + 1) r).kasWp cmp Q s
  by_cases hge:l >= r
  ·rw [if_pos hge]
   have:l=r:=by omega
   subst this
   exact h l hrk hlo hhi
  ·rw [if_neg hge]
   refine nI hc hp hk (by omega) ?_
   cases hless:O.blt (kk key p k) (kk key p ((l + r) / 2)) with
   | true =>
    rw [if_pos rfl]
    exact mF hp hk hs f l ((l + r) / 2) (by omega) (by omega) (by omega) hlo (λi a b=>KeyOrd.klt_of_klt_of_kle hless (hs _ _ a b)) h
   | false =>
    rw [if_neg (by simp)]
    exact mF hp hk hs f ((l + r) / 2 + 1) r (by omega) (by omega) (by omega) (λi a=>KeyOrd.kle_trans (hs i ((l + r) / 2) (by omega) (by omega)) (show O.kle _ _ from hless)) hhi h
theorem xT {Q:Array Nat->Shared->Prop}:∀ (f:Nat) (p:Array Nat) (k:Nat),k + f=N->PB N p->dJ key p k->(∀ p',PB N p'->dJ key p' N->Q p' s)->(kas_bin f p k).kasWp cmp Q s
 | 0,p,k,e,hp,hs,h=>by
  have:k=N:=by omega
  subst this
  exact h p hp hs
 | f + 1,p,k,e,hp,hs,h=>by
  show ((kas_place p k k 0 k).bind λl=>kas_bin f (bubble p k (k - l)) (k + 1)).kasWp cmp Q s
  rw [KasT.kasWp_bind]
  refine mF hc hp (by omega) hs k 0 k (by omega) (by omega) (by omega) (λi a=>by omega) (λi a b=>by omega) λl hl hlo hhi=>?_
  refine xT f _ (k + 1) (by omega) (hp.bub _ _) (λi j hij hj=>?_) h
  have hks:k < p.size:=by rw [hp.size];omega
  rw [lI hks (by omega),lI hks (by omega),show k - (k - l)=l by omega]
  repeat' split
  all_goals first
   | (exfalso;omega)
   | exact KeyOrd.kle_refl _
   | exact hlo _ (by omega)
   | exact KeyOrd.kle_of_klt (hhi _ (by omega) (by omega))
   | exact hs _ _ (by omega) (by omega)
theorem y1 {Q:Array Nat->Shared->Prop} (h1:1 <= N) (h:∀ p,PB N p->dJ key p N->Q p s):(kas_sort N).kasWp cmp Q s:=by
 unfold kas_sort
 rw [KasT.kasWp_bind]
 refine wE hc (Array.Perm.refl _) (Nat.le_refl _) h1 λm p' hp' hm1 hm2 hs'=>?_
 dsimp only
 by_cases hlt:m < N
 ·rw [if_pos hlt,show max m 1=m by omega]
  exact xT hc _ _ _ (by omega) hp' hs' h
 ·rw [if_neg hlt]
  have:m=N:=by omega
  subst this
  exact h p' hp' hs'
end
end L2.Srt
namespace L2.Srt
open PySem PyProof.Rows
theorem j2:∀ a:List Int,HT.lexLt a a=false
 | []=>rfl
 | x::r=>by rw [HT.lexLt_cons,if_pos rfl];exact j2 r
theorem iZ:∀ a b c:List Int,HT.lexLt a b=true->HT.lexLt b c=true->HT.lexLt a c=true
 | [],[],_,h,_=>by cases h
 | [],_::_,[],_,h=>by cases h
 | [],_::_,_::_,_,_=>rfl
 | _::_,[],_,h,_=>by cases h
 | _::_,_::_,[],_,h=>by cases h
 | x::a,y::b,z::c,h1,h2=>by
  rw [HT.lexLt_cons] at h1 h2 ⊢
  by_cases e1:x=y
  ·rw [if_pos e1] at h1
   by_cases e2:y=z
   ·rw [if_pos e2] at h2
    rw [if_pos (e1.trans e2)]
    exact iZ a b c h1 h2
   ·rw [if_neg e2] at h2
    rw [if_neg (λq=>e2 (e1.symm.trans q)),e1]
    exact h2
  ·rw [if_neg e1] at h1
   have q1:=of_decide_eq_true h1
   by_cases e2:y=z
   ·rw [if_neg (λq=>e1 (q.trans e2.symm)),<- e2]
    exact h1
   ·rw [if_neg e2] at h2
    have q2:=of_decide_eq_true h2
    rw [if_neg (by omega)]
    exact decide_eq_true (by omega)
theorem i2:∀ a b:List Int,HT.lexLt a b=false->HT.lexLt b a=false->a=b
 | [],[],_,_=>rfl
 | [],_::_,h,_=>by cases h
 | _::_,[],_,h=>by cases h
 | x::a,y::b,h1,h2=>by
  rw [HT.lexLt_cons] at h1 h2
  by_cases e:x=y
  ·rw [if_pos e] at h1
   rw [if_pos e.symm] at h2
   rw [e,i2 a b h1 h2]
  ·rw [if_neg e] at h1
   rw [if_neg (λq=>e q.symm)] at h2
   have q1:=of_decide_eq_false h1
   have q2:=of_decide_eq_false h2
   omega
theorem wF (a b c:List Int) (h:HT.lexLt a c=true):HT.lexLt a b=true \/ HT.lexLt b c=true:=by
 cases h1:HT.lexLt a b with
 | true=>exact .inl rfl
 | false =>
  cases h2:HT.lexLt b a with
  | true=>exact .inr (iZ b a c h2 h)
  | false=>rw [i2 a b h1 h2] at h;exact .inr h
noncomputable def cw:KeyOrd:=⟨List Int,HT.lexLt,j2,iZ,wF,i2⟩
noncomputable def cN:KeyOrd:=⟨Int,λa b=>decide (a < b),λa=>decide_eq_false (by omega),λa b c h1 h2=>decide_eq_true (by have:=of_decide_eq_true h1;have:=of_decide_eq_true h2;omega),
 λa b c h=>by
  have:=of_decide_eq_true h
  by_cases q:a < b
  ·exact .inl (decide_eq_true q)
  ·exact .inr (decide_eq_true (by omega)),
 λa b h1 h2=>by have:=of_decide_eq_false h1;have:=of_decide_eq_false h2;omega⟩
section
variable (O:KeyOrd)
noncomputable def jC (x:O.α):List O.α->List O.α
 | []=>[x]
 | y::r=>if O.blt y x then y::jC x r else x::y::r
noncomputable def fJ:List O.α->List O.α
 | []=>[]
 | x::r=>jC O x (fJ r)
theorem i3 (x:O.α):∀ l,(jC O x l).Perm (x::l)
 | []=>.refl _
 | y::r=>by
  show (if O.blt y x then y::jC O x r else x::y::r).Perm _
  split
  ·exact (List.Perm.cons y (i3 x r)).trans (.swap x y r)
  ·exact .refl _
theorem dL:∀ l,(fJ O l).Perm l
 | []=>.refl _
 | x::r=>(i3 O x _).trans (.cons x (dL r))
theorem j3 (x:O.α):∀ l:List O.α,l.Pairwise O.kle->(jC O x l).Pairwise O.kle
 | [],_=>List.pairwise_singleton _ _
 | y::r,h=>by
  show (if O.blt y x then y::jC O x r else x::y::r).Pairwise O.kle
  obtain ⟨h1,h2⟩:=List.pairwise_cons.mp h
  by_cases q:O.blt y x=true
  ·rw [if_pos q]
   refine List.pairwise_cons.mpr ⟨λz hz=>?_,j3 x r h2⟩
   rcases List.mem_cons.mp ((i3 O x r).mem_iff.mp hz) with e|e
   ·rw [e];exact KeyOrd.kle_of_klt q
   ·exact h1 z e
  ·rw [if_neg q]
   have q':O.kle x y:=Bool.eq_false_iff.mpr q
   refine List.pairwise_cons.mpr ⟨λz hz=>?_,h⟩
   rcases List.mem_cons.mp hz with e|e
   ·rw [e];exact q'
   ·exact KeyOrd.kle_trans q' (h1 z e)
theorem c_:∀ l,(fJ O l).Pairwise O.kle
 | []=>List.Pairwise.nil
 | x::r=>j3 O x _ (c_ r)
theorem ip:∀ {a b:List O.α},a.Perm b->a.Pairwise O.kle->b.Pairwise O.kle->a=b
 | [],b,p,_,_=>p.nil_eq
 | x::a,[],p,_,_=>by have:=p.length_eq;simp at this
 | x::a,y::b,p,ha,hb=>by
  obtain ⟨a1,a2⟩:=List.pairwise_cons.mp ha
  obtain ⟨b1,b2⟩:=List.pairwise_cons.mp hb
  have e:x=y:=by
   have hx:x ∈ y::b:=p.mem_iff.mp (.head _)
   have hy:y ∈ x::a:=p.mem_iff.mpr (.head _)
   rcases List.mem_cons.mp hx with q|q
   ·exact q
   ·rcases List.mem_cons.mp hy with q'|q'
    ·exact q'.symm
    ·exact KeyOrd.kle_antisymm (a1 y q') (b1 x q)
  subst e
  rw [ip (p.cons_inv) a2 b2]
theorem j4 {a l:List O.α} (p:a.Perm l) (h:a.Pairwise O.kle):a=fJ O l:=ip O (p.trans (dL O l).symm) h (c_ O l)
theorem gI {a b:List O.α} (p:a.Perm b):fJ O a=fJ O b:=j4 O ((dL O a).trans p) (c_ O a)
end
theorem gh {α:Type} (xs:List α) (d:α):(List.range xs.length).map (λi=>xs.getD i d)=xs:=by
 apply List.ext_getElem?
 intro i
 rw [List.getElem?_map]
 by_cases q:i < xs.length
 ·simp [List.getElem?_range,q]
 ·simp [List.getElem?_range,q]
theorem tH {O:KeyOrd}{d:O.α}{xs:List O.α}{p:Array Nat} (hp:PB xs.length p) (hr:dJ (λi=>xs.getD i d) p xs.length):p.toList.map (λi=>xs.getD i d)=fJ O xs:=by
 refine j4 O ?_ ?_
 ·have h:=(Array.perm_iff_toList_perm.mp hp).map λi=>xs.getD i d
  have e:(List.map (λi=>xs.getD i d) (List.range xs.length).toArray.toList)=xs:=gh xs d
  rw [e] at h
  exact h
 ·rw [List.pairwise_iff_getElem]
  intro i j hi hj hij
  rw [List.length_map,Array.length_toList] at hi hj
  have hz:=hp.size
  have q:=hr i j (Nat.le_of_lt hij) (by omega)
  simp only [List.getElem_map,Array.getElem_toList]
  have ei:p.getD i 0=p[i]:=by simp [Array.getD,hi]
  have ej:p.getD j 0=p[j]:=by simp [Array.getD,hj]
  unfold kk at q
  rw [ei,ej] at q
  exact q
end L2.Srt
namespace L2.Srt
open PySem PySem.W PySem.Calls PyProof.Rows
section
variable {prog:Program}{w:World}{A:Around}{E:Value->Shared->Prop}{s:Shared}
noncomputable def KOk (κ:SortKind):Prop:=κ=tuples' true \/ κ=general' \/ κ=oneType'
theorem iq {KO:SortKind->Prop}{O:KeyOrd}{key:Nat->O.α}{a:Addr}{vs:List Value}{n:Nat}{R:PySem.Fin->Shared->Prop} (ho:s.heap.get? a=some (seqObj "list" vs.toArray n)) (h64:vs.length < 64)
  (hk:2 <= vs.length->∀ (s':Shared) (Q:SortKind->Shared->Prop),(∀ b o,b ≠ a->s.heap.get? b=some o->s'.heap.get? b=some o)->(∀ κ,KO κ->Q κ s')->wpAny (model prog w) A (keyKind' vs.toArray) Q (λ_ _=>False) s')
  (hc:∀ κ,KO κ->∀ (s':Shared) (i j:Nat) (C:Bool->Shared->Prop),(∀ b o,b ≠ a->s.heap.get? b=some o->s'.heap.get? b=some o)->i < vs.length->j < vs.length->C (O.blt (key i) (key j)) s' ->
   wpAny (model prog w) A (keyLt' κ (vs.getD i Value.none) (vs.getD j Value.none)) C (λ_ _=>False) s')
  (h:∀ p:Array Nat,PB vs.length p->dJ key p vs.length->R (.done (.ret .none)) { s with heap:=sortedHeap s.heap a vs (p.toList.map λi=>vs.getD i Value.none).toArray }) :
  wpAny (model prog w) A (Builtin.«list.sort» ⟨[.ref a],[]⟩) R E s:=by
 rw [list_sort_plain]
 have ha:a < s.heap.objs.size:=Heap.lt_size ho
 refine wpAny_bind (listItems_at ho rfl ?_)
 refine wpAny_bind (listUpdate_at ho rfl ?_ (by rw [List.size_toArray,sizeLine_eq];omega) (Nat.zero_le _))
 obtain ⟨e1,ho1⟩:∃ e1,(s.heap.update a (Obj.mapSeq λ_=>(#[]:Array Value))).get? a=some (seqObj "list" #[] e1):=⟨_,get?_update_seq ho λ_=>#[]⟩
 refine wpAny_bind (seqEpoch_at ho1 rfl ?_)
 refine wpAny_bind (wpAny_newTuple ?_ (by show vs.length <= _;rw [sizeLine_eq];omega))
 refine wpAny_bind (wpAny_newList ?_ (Nat.zero_le _))
 refine wpAny_holding ?_
 have ho6:(((s.heap.update a (Obj.mapSeq λ_=>(#[]:Array Value))).push (seqObj "tuple" vs.toArray 0)).push (seqObj "list" #[] 0)).get? a=some (seqObj "list" #[] e1):=Heap.get?_push_of_some _ (Heap.get?_push_of_some _ ho1)
 have kp:∀ b o,b ≠ a->s.heap.get? b=some o->(((s.heap.update a (Obj.mapSeq λ_=>(#[]:Array Value))).push (seqObj "tuple" vs.toArray 0)).push (seqObj "list" #[] 0)).get? b=some o:=λb o hb e =>
  Heap.get?_push_of_some _ (Heap.get?_push_of_some _ ((Heap.get?_update_other _ _ (Ne.symm hb)).trans e))
 show wpAny (model prog w) A _ R E { s with heap:=((s.heap.update a (Obj.mapSeq λ_=>(#[]:Array Value))).push (seqObj "tuple" vs.toArray 0)).push (seqObj "list" #[] 0) }
 dsimp only
 have hsz:vs.toArray.size=vs.length:=by simp
 by_cases h2:vs.toArray.size < 2
 ·rw [if_pos h2,if_pos h2]
  refine wpAny_bind (wpAny_pure ?_)
  rw [StateT.run_pure]
  refine wpAny_bind (wpAny_pure ?_)
  dsimp only
  refine wpAny_bind (seqEpoch_at ho6 rfl ?_)
  refine wpAny_bind (listUpdate_at ho6 rfl ?_ (Nat.zero_le _) (by rw [Array.size_map];show (pairsOf vs).size <= _;rw [pairsOf_size,sizeLine_eq];omega))
  simp only [bne_self_eq_false,Bool.false_eq_true,if_false]
  have e:((arrOf (SortSt.mk' general' (vs.toArray.zip vs.toArray) #[] 7 none)).map (·.2))=((List.range vs.length).toArray.toList.map λi=>vs.getD i Value.none).toArray:=by
   have e2:(arrOf (SortSt.mk' general' (vs.toArray.zip vs.toArray) #[] 7 none))=vs.toArray.zip vs.toArray:=rfl
   rw [e2]
   apply Array.toList_inj.mp
   rw [gh]
   simp [List.map_snd_zip]
  refine wpAny_pure ?_
  have q:=h (List.range vs.length).toArray (Array.Perm.refl _) (λi j hij hj=>by
   have:i=j:=by omega
   subst this;exact KeyOrd.kle_refl _)
  rw [<- e] at q
  exact q
 ·rw [if_neg h2,if_neg h2]
  have h2':2 <= vs.length:=by omega
  refine wpAny_bind (wpAny_mono (hk h2' _ (λκ s0=>KO κ/\s0={ s with heap:=((s.heap.update a (Obj.mapSeq λ_=>(#[]:Array Value))).push (seqObj "tuple" vs.toArray 0)).push (seqObj "list" #[] 0) }) kp λκ hκ=>⟨hκ,rfl⟩) (λκ s0 hκ=>?_) λ_ _ x=>x.elim)
  obtain ⟨hκ,rfl⟩:=hκ
  refine wpAny_bind (wpAny_mono (kat_run (Q:=λst' s'=>∃ p:Array Nat,p.size=vs.length/\arrOf st'=p.map (kas_item (vs.toArray.zip vs.toArray))/\failedOf st'=none/\PB vs.length p/\dJ key p vs.length/\s'={ s with heap:=((s.heap.update a (Obj.mapSeq λ_=>(#[]:Array Value))).push (seqObj "tuple" vs.toArray 0)).push (seqObj "list" #[] 0) })
   (G:=λp s'=>PB vs.length p/\dJ key p vs.length/\s'={ s with heap:=((s.heap.update a (Obj.mapSeq λ_=>(#[]:Array Value))).push (seqObj "tuple" vs.toArray 0)).push (seqObj "list" #[] 0) })
   rfl h2' h64 (λp' st' s' a1 a2 a3 a4=>⟨p',a1,a2,a3,a4⟩)
   (y1 (key:=key) (λi j C hi hj q=>hc κ hκ _ i j C kp hi hj q) (by omega) λp hp hr=>⟨hp,hr,rfl⟩)) ?_ λ_ _ e=>e)
  rintro ⟨⟨⟩,st'⟩ s' ⟨p,hp,har,hf,hpb,hrs,rfl⟩
  dsimp only
  have hout:=kat_snds rfl har
  refine wpAny_bind (seqEpoch_at ho6 rfl ?_)
  refine wpAny_bind (listUpdate_at ho6 rfl ?_ (Nat.zero_le _) (by rw [hout];refine Nat.le_trans (Nat.le_of_eq ?_) (show vs.length <= _ by rw [sizeLine_eq];omega);simp [hp]))
  rw [hf,hout]
  simp only [bne_self_eq_false,Bool.false_eq_true,if_false]
  exact wpAny_pure (h p hpb hrs)
theorem jp {fin:Bool}{C:Bool->Shared->Prop}:∀ {vs ws:List Value}{ns ms:List Int} (i:Nat),IntsAre vs ns->IntsAre ws ms->fin=decide (ns.length < ms.length)->C (HT.lexLt ns ms) s->KatLex prog w A true fin C (vs.zip ws) i s
 | _,_,_,_,i,.nil,.nil,hf,h=>by
  rw [List.zip_nil_left]
  refine kat_nil ?_
  rw [hf]
  exact h
 | _,_,_,_,i,.nil,.cons c u hw,hf,h=>by
  rw [List.zip_nil_left]
  refine kat_nil ?_
  rw [hf,decide_eq_true (by simp)]
  exact h
 | _,_,_,_,i,.cons a t hv,.nil,hf,h=>by
  rw [List.zip_nil_right]
  refine kat_nil ?_
  rw [hf,decide_eq_false (by simp)]
  exact h
 | _,_,_,_,i,.cons (ns:=ns) a t hv,.cons (ns:=ms) c u hw,hf,h=>by
  rw [List.zip_cons_cons]
  rw [HT.lexLt_cons] at h
  refine kat_cons (wpAny_eqBool_int ?_)
  by_cases e:a=c
  ·rw [if_pos e] at h
   have q:(a == c)=true:=by rw [e];exact beq_self_eq_true c
   rw [q]
   refine kat_yes (jp (i + 1) hv hw ?_ h)
   rw [hf]
   simp
  ·rw [if_neg e] at h
   have q:(a == c)=false:=beq_eq_false_iff_ne.mpr e
   rw [q]
   refine kat_no ?_
   cases i with
   | zero=>exact oneLt_int h
   | succ i=>exact kat_one _ _ (lt_int h)
theorem qe {κ:SortKind} (hk:KOk κ) {a b:Addr}{its its2:Array Value}{ns ms:List Int}{C:Bool->Shared->Prop} (ha:IsTup s.heap a its) (hb:IsTup s.heap b its2) (hi:IntsAre its.toList ns) (hj:IntsAre its2.toList ms)
  (hu:A.units < cLine) (h:C (HT.lexLt ns ms) s):wpAny (model prog w) A (keyLt' κ (.ref a) (.ref b)) C E s:=by
 rcases hk with rfl|rfl|rfl
 ·obtain ⟨o,ho,_,n,hd⟩:=id ha
  obtain ⟨o2,ho2,_,n2,hd2⟩:=id hb
  refine kat_lt ho hd ho2 hd2 (jp 0 hi hj ?_ h)
  have z1:its.size=ns.length:=by rw [<- hi.length];simp
  have z2:its2.size=ms.length:=by rw [<- hj.length];simp
  rw [z1,z2]
 ·show wpAny _ _ (oneLt' false (.ref a) (.ref b)) _ _ _
  exact kat_one _ _ (HT.lt_tupInts ha hb hi hj hu h)
 ·rw [keyLt'_oneType,oneLt'_eq]
  simp only [if_true]
  refine wpAny_bind (wpAny_cRoomFor hu ?_)
  obtain ⟨⟨cls,dd,data,sl⟩,ho,hc,n,hd⟩:=id ha
  obtain ⟨⟨cls2,dd2,data2,sl2⟩,ho2,hc2,n2,hd2⟩:=id hb
  simp only at hc hd hc2 hd2
  subst hc hd hc2 hd2
  refine wpAny_bind (wpAny_callSpecialIfBound?_slot (T:="tuple") ⟨_,ho,rfl⟩ PySem.F.slot_tuple_lt (call_meets PySem.F.slot_tuple_lt (T:="tuple") ⟨_,ho,rfl⟩ PySem.F.entry_tuple_lt (PySem.F.args_tuple_lt_2 _ _) (HT.tuple_lt_ints a b its its2 n n2 dd dd2 sl sl2 ns ms hi hj) ⟨ho,ho2,?_⟩))
  exact wpAny_truthy_bool h
theorem jq:∀ (vs:List Value) {Q:List (Option Value)->Shared->Prop},(∀ v ∈ vs,∃ a its ns,v=.ref a/\IsTup s.heap a its/\IntsAre its.toList ns) ->
  (∀ fs:List (Option Value),fs.length=vs.length->(∀ f ∈ fs,∀ v,f=some v->∃ n t,v=Value.int n t)->Q fs s)->wpAny (model prog w) A (vs.mapM firstOfTuple') Q E s
 | [],Q,_,h=>by rw [List.mapM_nil];exact wpAny_pure (h [] rfl (by simp))
 | v::vs,Q,hv,h=>by
  obtain ⟨a,its,ns,rfl,⟨o,ho,hc,n,hd⟩,hi⟩:=hv v (.head _)
  rw [List.mapM_cons]
  refine wpAny_bind ?_
  rw [kas_first_eq]
  refine wpAny_bind (Looks.here (show Looks (model prog w) s.heap (typeOf (.ref a)) o.cls from (Looks.ld ho).andThen .now) ?_)
  rw [hc,if_neg (by first|decide|simp)]
  refine wpAny_bind (listItems_at ho hd (wpAny_pure ?_))
  refine wpAny_bind (jq vs (Q:=λbs s'=>wpAny (model prog w) A (pure (its[0]?::bs)) Q E s') (λu hu=>hv u (.tail _ hu)) λfs hl hf=>?_)
  refine wpAny_pure (h _ (by simp [hl]) λf hm u e=>?_)
  rcases List.mem_cons.mp hm with z|z
  ·rw [z] at e
   have hmem:u ∈ its.toList:=by
    rw [<- Array.getElem?_toList] at e
    exact List.mem_of_getElem? e
   exact hi.all u hmem
  ·exact hf f z u e
theorem lJ {vs:List Value}{Q:SortKind->Shared->Prop} (h2:2 <= vs.length) (hv:∀ v ∈ vs,∃ a its ns,v=.ref a/\IsTup s.heap a its/\IntsAre its.toList ns) (h:∀ κ,KOk κ->Q κ s) :
  wpAny (model prog w) A (keyKind' vs.toArray) Q E s:=by
 rw [kat_kind_eq,List.mapM_toArray,map_eq_pure_bind]
 refine wpAny_bind (wpAny_bind (jq vs hv λfs hl hf=>wpAny_pure ?_))
 by_cases hall:(fs.toArray.all λx=>x.isSome)=true
 ·rw [if_pos hall]
  refine wpAny_bind (wpAny_rule ?_)
  have hfm:(fs.toArray.filterMap id)=(fs.filterMap id).toArray:=by simp
  rw [hfm,oneTypeOnly'_eq,List.mapM_toArray,map_eq_pure_bind]
  have hints:∀ v ∈ fs.filterMap id,∃ n t,v=Value.int n t:=λv hm=>by
   obtain ⟨f,hm',e⟩:=List.mem_filterMap.mp hm
   exact hf f hm' v e
  have hne:0 < (fs.filterMap id).length:=by
   match fs,hl,hall with
   | [],hl,_=>simp at hl;omega
   | f::r,_,hall =>
    have:f.isSome=true:=by simp at hall;exact hall.1
    obtain ⟨u,rfl⟩:=Option.isSome_iff_exists.mp this
    simp
  refine wpAny_bind (wpAny_bind (wpAny_bind (kas_mapM (r:=Value.type "int") _ (λv hm Q' hq=>?_) (wpAny_pure ?_))))
  ·obtain ⟨n,t,rfl⟩:=hints v hm
   exact wpAny_pure hq
  ·have h0:(List.map (λ_=>Value.type "int") (fs.filterMap id)).toArray[0]?=some (Value.type "int"):=by
    simp [hne]
   rw [h0]
   have hall2:((List.map (λ_=>Value.type "int") (fs.filterMap id)).toArray.all λx=>x == Value.type "int")=true:=by
    simp only [List.all_toArray,List.all_map,List.all_eq_true]
    intro _ _
    rfl
   simp only [hall2,if_true]
   exact wpAny_pure (wpAny_pure (h _ (.inl rfl)))
 ·rw [if_neg hall]
  by_cases hf0:((fs.toArray[0]?).bind id).isSome=true
  ·rw [if_pos hf0]
   exact wpAny_pure (h _ (.inr (.inl rfl)))
  ·rw [if_neg hf0]
   rw [oneTypeOnly'_eq,List.mapM_toArray,map_eq_pure_bind]
   refine wpAny_bind (wpAny_bind (wpAny_bind (kas_mapM (r:=Value.type "tuple") _ (λv hm Q' hq=>?_) (wpAny_pure ?_))))
   ·obtain ⟨a,its,ns,rfl,⟨o,ho,hc,n,hd⟩,hi⟩:=hv v hm
    have q:Looks (model prog w) s.heap (typeOf (.ref a)) o.cls:=(Looks.ld ho).andThen .now
    rw [hc] at q
    exact q.here hq
   ·have h0:(List.map (λ_=>Value.type "tuple") vs).toArray[0]?=some (Value.type "tuple"):=by
     have:0 < vs.length:=by omega
     simp [this]
    rw [h0]
    have hall2:((List.map (λ_=>Value.type "tuple") vs).toArray.all λx=>x == Value.type "tuple")=true:=by
     simp only [List.all_toArray,List.all_map,List.all_eq_true]
     intro _ _
     rfl
    simp only [hall2,if_true]
    exact wpAny_pure (wpAny_pure (h _ (.inr (.inr rfl))))
end
end L2.Srt
namespace L2.St
open PySem PyProof.Rows
section
variable {P:Program}{w:World}{A:Around}{E:Value->Shared->Prop}{s:Shared}
theorem jG {items:Array Value}{ns:List Int} (hi:IntsAre items.toList ns):∀ (i:Nat) (v:Value),items[i]?=some v->∃ t,v=.int (ns.getD i 0) t :=
 λi v e=>IntsAre.int_at hi i v (by rw [Array.getElem?_toList];exact e)
theorem i4 {v:Value}{vs:Array Value}{it:Addr}{Q:Option Value->Shared->Prop} (hh:A.handled=none) {R:Value->Shared->Prop}
  (hR:∀ e s',(∀ b o,s.heap.get? b=some o->s'.heap.get? b=some o)->(∃ h',s'={ s with heap:=h' })->s'.TypeIs e "StopIteration"->R e s') {QQ:PySem.Fin->Shared->Prop} :
  wpAny (model P w) A (newExc (.type "StopIteration") [] >>= λe=>(raiseNew e:Sem PySem.Fin)) QQ R s:=by
 refine wpAny_bind ?_
 simp only [newExc,newTuple]
 refine wpAny_bind (wpAny_newObj_type ?_ (by size_fits))
 refine wpAny_bind (m:=firstArgMember _ _) (wpAny_of_eq (a:=Value.none) (by first|rfl|(simp only [firstArgMember];rfl)) ?_)
 refine wpAny_newObj_type ?_ (by size_fits)
 simp only [raiseNew]
 refine wpAny_bind (wpAny_handled ?_)
 rw [hh]
 refine wpAny_bind (wpAny_pure (wpAny_throw ?_))
 exact hR _ _ (λb o e=>Heap.get?_push_of_some _ (Heap.get?_push_of_some _ e)) ⟨_,rfl⟩ ⟨_,Heap.get?_push_size _ rfl,rfl⟩
theorem ll {order:List Int}{acc:Array Value} (h:ItemsOf (λi v=>∃ t,v=Value.int (order.getD i 0) t) acc order.length):IntsAre acc.toList order:=by
 obtain ⟨hz,hv⟩:=h
 have hl:acc.toList.length=order.length:=by simpa using hz
 have hv':∀ j v,acc.toList[j]?=some v->∃ t,v=Value.int (order.getD j 0) t:=λj v e=>hv j v (by rw [<- Array.getElem?_toList];exact e)
 clear hv hz
 generalize acc.toList=vs at hl hv'
 induction vs generalizing order with
 | nil =>
  have:order=[]:=List.length_eq_zero_iff.mp hl.symm
  rw [this];exact .nil
 | cons v r ih =>
  match order,hl,hv' with
  | [],hl,_=>simp at hl
  | k::ks,hl,hv' =>
   obtain ⟨t,e⟩:=hv' 0 v rfl
   have e':v=Value.int k t:=e
   rw [e']
   exact .cons k t (ih (by simpa using hl) λj u q=>hv' (j + 1) u (by simpa using q))
end
end L2.St
namespace L2.St
open PySem
noncomputable def fK (xs:Array Nat):Prop:=∀ i j:Nat,i < j->j < xs.size->xs.getD i 0 < xs.getD j 0
theorem tI {xs:Array Nat}{i:Nat} (h:i < xs.size) (d e:Nat):xs.getD i d=xs.getD i e:=by simp [Array.getD,h]
theorem j5 {xs:Array Nat}{j:Nat} (hr:fK xs):∀ (fuel lo hi:Nat),hi - lo <= fuel->lo <= hi->hi <= xs.size->(∀ i,i < lo->xs.getD i 0 < j)->(∀ i,hi <= i->i < xs.size->j <= xs.getD i 0) ->
  (SetTable.below.go xs j fuel lo hi <= xs.size/\(∀ i,i < SetTable.below.go xs j fuel lo hi->xs.getD i 0 < j)/\∀ i,SetTable.below.go xs j fuel lo hi <= i->i < xs.size->j <= xs.getD i 0)
 | 0,lo,hi,hf,h1,h2,a,b=>by
  have e:SetTable.below.go xs j 0 lo hi=lo:=rfl
  rw [e]
  have:lo=hi:=by omega
  subst this
  exact ⟨h2,a,b⟩
 | fuel + 1,lo,hi,hf,h1,h2,a,b=>by
  have e:SetTable.below.go xs j (fuel + 1) lo hi=if lo < hi then (if xs.getD ((lo + hi) / 2) j < j then SetTable.below.go xs j fuel ((lo + hi) / 2 + 1) hi else SetTable.below.go xs j fuel lo ((lo + hi) / 2)) else lo:=rfl
  rw [e]
  by_cases hl:lo < hi
  ·rw [if_pos hl]
   have hm:(lo + hi) / 2 < xs.size:=by omega
   rw [tI hm j 0]
   by_cases hq:xs.getD ((lo + hi) / 2) 0 < j
   ·rw [if_pos hq]
    refine j5 hr fuel _ hi (by omega) (by omega) h2 (λi hi'=>?_) b
    by_cases z:i=(lo + hi) / 2
    ·rw [z];exact hq
    ·exact Nat.lt_trans (hr i ((lo + hi) / 2) (by omega) hm) hq
   ·rw [if_neg hq]
    refine j5 hr fuel lo _ (by omega) (by omega) (by omega) a λi hi' hz=>?_
    by_cases z:i=(lo + hi) / 2
    ·rw [z];omega
    ·have:=hr ((lo + hi) / 2) i (by omega) hz;omega
  ·rw [if_neg hl]
   have:lo=hi:=by omega
   subst this
   exact ⟨h2,a,b⟩
theorem cO {xs:Array Nat} (hr:fK xs) (j:Nat):SetTable.below xs j <= xs.size/\(∀ i,i < SetTable.below xs j->xs.getD i 0 < j)/\∀ i,SetTable.below xs j <= i->i < xs.size->j <= xs.getD i 0 :=
 j5 hr xs.size 0 xs.size (by omega) (by omega) (Nat.le_refl _) (λi h=>by omega) λi h1 h2=>by omega
theorem gJ {α:Type} (xs:Array α) (p:Nat) (x:α) (hp:p <= xs.size):(SetTable.insertAt xs p x).size=xs.size + 1:=by
 unfold SetTable.insertAt;simp;omega
theorem dv {α:Type} (xs:Array α) (p:Nat) (x:α) (hp:p <= xs.size) (i:Nat):(SetTable.insertAt xs p x)[i]?=if i < p then xs[i]? else if i=p then some x else xs[i - 1]?:=by
 unfold SetTable.insertAt
 have hz:((xs.extract 0 p).push x).size=p + 1:=by simp;omega
 by_cases h1:i < p
 ·rw [if_pos h1,Array.getElem?_append_left (by omega)]
  rw [Array.getElem?_push,if_neg (by simp;omega),Array.getElem?_extract,if_pos (by omega),Nat.zero_add]
 ·rw [if_neg h1]
  by_cases h2:i=p
  ·subst h2
   rw [if_pos rfl,Array.getElem?_append_left (by omega)]
   rw [Array.getElem?_push,if_pos (by simp;omega)]
  ·rw [if_neg h2,Array.getElem?_append_right (by omega),hz]
   simp only [Array.getElem?_extract]
   by_cases h3:i - (p + 1) < xs.size - p
   ·rw [if_pos (by simpa using h3)];congr 1;omega
   ·rw [if_neg (by simpa using h3)];exact (Array.getElem?_eq_none (by omega)).symm
theorem cD {xs:Array Nat}{i:Nat}:xs.getD i 0=(xs[i]?).getD 0:=Array.getD_eq_getD_getElem?
theorem jr {xs:Array Nat} (hr:fK xs) {j:Nat} (hn:xs[SetTable.below xs j]? ≠ some j):fK (SetTable.insertAt xs (SetTable.below xs j) j):=by
 obtain ⟨hp,ha,hb⟩:=cO hr j
 have hb':∀ i,SetTable.below xs j <= i->i < xs.size->j < xs.getD i 0:=λi h1 h2=>by
  have q:=hb i h1 h2
  by_cases z:i=SetTable.below xs j
  ·subst z
   have e:xs[SetTable.below xs j]?=some (xs.getD (SetTable.below xs j) 0):=by rw [Array.getElem?_eq_getElem h2];simp [Array.getD,h2]
   have:xs.getD (SetTable.below xs j) 0 ≠ j:=λz=>hn (by rw [e,z])
   omega
  ·have q':=hb _ (Nat.le_refl _) (by omega:SetTable.below xs j < xs.size)
   have:=hr _ i (by omega:SetTable.below xs j < i) h2
   omega
 intro i k hik hk
 rw [gJ _ _ _ hp] at hk
 rw [cD,cD,dv _ _ _ hp,dv _ _ _ hp]
 by_cases h1:k < SetTable.below xs j
 ·rw [if_pos h1,if_pos (by omega),<- cD,<- cD]
  exact hr i k hik (by omega)
 ·rw [if_neg h1]
  by_cases h2:k=SetTable.below xs j
  ·rw [if_pos h2,if_pos (by omega),<- cD]
   exact ha i (by omega)
  ·rw [if_neg h2]
   by_cases h3:i < SetTable.below xs j
   ·rw [if_pos h3,<- cD,<- cD]
    exact hr i (k - 1) (by omega) (by omega)
   ·rw [if_neg h3]
    by_cases h4:i=SetTable.below xs j
    ·rw [if_pos h4,<- cD]
     exact hb' (k - 1) (by omega) (by omega)
    ·rw [if_neg h4,<- cD,<- cD]
     exact hr (i - 1) (k - 1) (by omega) (by omega)
theorem pq (n:Nat):fK (Array.range n):=λi j h1 h2=>by
 rw [Array.size_range] at h2
 simp [Array.getD,h2,Nat.lt_trans h1 h2];exact h1
theorem nJ:fK #[]:=λi j _ h=>by simp at h
structure Gd (L:Bool) (t:SetTable):Prop where
 led:t.led=L
 dum:t.dummies=#[]
 rise:fK t.place
theorem Gd.fresh (L:Bool):Gd L (.fresh 0 0 L):=⟨rfl,rfl,nJ⟩
theorem Gd.standIn {L:Bool}{t:SetTable} (h:Gd L t) (n:Nat):Gd L (t.standIn n):=⟨h.led,rfl,pq n⟩
theorem Gd.orStandIn {L:Bool}{t:SetTable} (h:Gd L t) (n:Nat):Gd L (t.orStandIn n):=by
 unfold SetTable.orStandIn;split
 ·exact h
 ·exact h.standIn n
theorem Gd.unplain {L:Bool}{t:SetTable} (h:Gd L t):Gd L { t with plain:=false }:=⟨h.led,h.dum,h.rise⟩
theorem ir {t:SetTable} (hd:t.dummies=#[]) (j:Nat):t.slot j ≠ .dummy:=by
 unfold SetTable.slot SetTable.has
 rw [hd]
 dsimp only
 split
 ·simp
 ·simp
theorem j6 {t:SetTable}{j:Nat} (h:t.slot j=.empty):t.place[SetTable.below t.place j]? ≠ some j:=by
 intro e
 unfold SetTable.slot at h
 dsimp only at h
 rw [if_pos (by rw [e];simp)] at h
 cases h
theorem nK {t:SetTable} (hd:t.dummies=#[]) {ha:Nat->Int}{h:Int}:∀ (fuel:Nat) (p:SetTable.Probe),p.dummy=none->∀ j d,SetTable.probe.go t ha h fuel p=some (.empty j d)->d=none/\t.slot j=.empty
 | 0,p,hp,j,d,e=>by
  have:SetTable.probe.go t ha h 0 p=none:=rfl
  rw [this] at e;cases e
 | fuel + 1,p,hp,j,d,e=>by
  have step:SetTable.probe.go t ha h (fuel + 1) p=(match t.slot p.j with
   | .empty=>some (.empty p.j p.dummy)
   | .dummy=>SetTable.probe.go t ha h fuel (t.advance { p with dummy:=some p.j })
   | .live i=>if ha i == h then some (.candidate p.j i (t.advance p)) else SetTable.probe.go t ha h fuel (t.advance p)):=rfl
  rw [step] at e
  have adv:(t.advance p).dummy=none:=by unfold SetTable.advance;split <;> simp [hp]
  cases hs:t.slot p.j with
  | empty =>
   rw [hs] at e
   dsimp only at e
   cases e
   exact ⟨hp,hs⟩
  | dummy=>exact absurd hs (ir hd _)
  | live i =>
   rw [hs] at e
   dsimp only at e
   split at e
   ·cases e
   ·exact nK hd fuel _ adv j d e
theorem rD {t:SetTable} (hd:t.dummies=#[]) {h:Int}{j:Nat}{b:Bool} (e:t.freeSlot h=some (j,b)):t.slot j=.empty:=by
 unfold SetTable.freeSlot at e
 split at e
 ·rename_i j' d he
  obtain ⟨rfl,hs⟩:=nK hd _ _ rfl j' d he
  have:j'=j:=by
   have:=Option.some.inj e
   exact (Prod.mk.inj this).1
  exact this ▸ hs
 ·cases e
theorem Gd.put {L:Bool}{t:SetTable} (h:Gd L t) {j:Nat} (hs:t.slot j=.empty):Gd L (t.put j).1:=by
 refine ⟨h.led,?_,jr h.rise (j6 hs)⟩
 show (if SetTable.has t.dummies j then _ else t.dummies)=#[]
 rw [if_neg (by unfold SetTable.has;rw [h.dum];simp)]
 exact h.dum
theorem Gd.layNew {L:Bool}{t:SetTable} (g:Gd L t) (es:Array (Int × Value)) (h:Int) (x:Value):Gd L (layNew t es h x).2.1:=by
 unfold PySem.layNew
 cases e:t.freeSlot h with
 | none=>exact g.standIn _
 | some q =>
  obtain ⟨j,b⟩:=q
  exact (g.put (rD g.dum e)).orStandIn _
theorem nL (f:Nat->Option Nat) (n:Nat):fK ((((List.range n).filterMap λj=>(f j).map λi=>(j,i)).map λq:Nat × Nat=>q.1).toArray):=by
 have e:((List.range n).filterMap λj=>(f j).map λi=>(j,i)).map (λq:Nat × Nat=>q.1)=(List.range n).filter λj=>(f j).isSome:=by
  generalize List.range n=l
  induction l with
  | nil=>rfl
  | cons a l ih =>
   cases h:f a <;> simp [List.filterMap_cons,List.filter_cons,h,ih]
 rw [e]
 have hp:((List.range n).filter λj=>(f j).isSome).Pairwise (· < ·):=List.Pairwise.filter _ List.pairwise_lt_range
 intro i j hij hj
 have hj':j < ((List.range n).filter λj=>(f j).isSome).length:=by simpa using hj
 have hi':i < ((List.range n).filter λj=>(f j).isSome).length:=Nat.lt_trans hij hj'
 have:=List.pairwise_iff_getElem.mp hp i j hi' hj' hij
 simpa [Array.getD,hj',hi'] using this
theorem Gd.relaid {L:Bool}{t t':SetTable} (g:Gd L t) {hs:Array Int}{n:Nat}{o:Array Nat} (e:t.relaid hs n=some (t',o)):Gd L t':=by
 unfold SetTable.relaid SetTable.laid at e
 cases h:SetTable.layClean (SetTable.sizeAbove n - 1) hs with
 | none=>rw [h] at e;cases e
 | some ow =>
  rw [h] at e
  cases e
  exact ⟨g.led,rfl,nL (λj=>ow.getD j none) _⟩
theorem Gd.relayAll {L:Bool}{t:SetTable} (g:Gd L t) (es:Array (Int × Value)) (n:Nat):Gd L (relayAll t es n).2.1:=by
 unfold PySem.relayAll
 cases e:t.relaid (es.map (·.1)) n with
 | none=>exact g.standIn _
 | some q =>
  obtain ⟨t',o⟩:=q
  dsimp only
  split
  ·exact g.relaid e
  ·exact g.standIn _
end L2.St
namespace L2.St
open PySem PyProof.Rows
noncomputable def byT (w:World):Bool:=w.params.followText "set-order"
structure Arr (P:Program) (w:World) (ks:List Int) (es:Array (Int × Value)) (t:SetTable):Prop where
 el:ElemsOf (intKind P w) es.toList
 pm:(es.toList.map λe=>numOf e.2).Perm ks
 nd:ks.Nodup
 bd:es.size < scanBound
 fi:t.fits es.size=true
 gd:Gd (!byT w) t
noncomputable def bw (P:Program) (w:World) (h:Heap) (a:Addr) (ks:List Int):Prop :=
 ∃ o es ep t,h.get? a=some o/\o.ExactSet/\o.data=.set es ep t/\ElemsOf (intKind P w) es.toList/\(es.toList.map λe=>numOf e.2).Perm ks/\ks.Nodup/\es.size < scanBound/\t.fits es.size=true/\Gd (!byT w) t
section
variable {P:Program}{w:World}{h h':Heap}{a:Addr}{ks ks':List Int}{o:Obj}{es:Array (Int × Value)}{ep:Nat}{t:SetTable}
theorem bw.arr (g:bw P w h a ks):∃ o es ep t,(h.get? a=some o/\o.ExactSet/\o.data=.set es ep t)/\Arr P w ks es t:=by
 obtain ⟨o,es,ep,t,ho,hex,hd,c1,c2,c3,c4,c5,c6⟩:=g
 exact ⟨o,es,ep,t,⟨ho,hex,hd⟩,⟨c1,c2,c3,c4,c5,c6⟩⟩
theorem Arr.set (r:Arr P w ks es t) (ho:h.get? a=some o) (hex:o.ExactSet) (hd:o.data=.set es ep t):bw P w h a ks :=
 ⟨o,es,ep,t,ho,hex,hd,r.el,r.pm,r.nd,r.bd,r.fi,r.gd⟩
theorem Arr.len (r:Arr P w ks es t):es.size=ks.length:=by simpa using r.pm.length_eq
theorem Arr.bare (r:Arr P w ks es t) (b:Bool):Arr P w ks es (if b=true then t else { t with plain:=false }):=by
 cases b
 ·exact ⟨r.el,r.pm,r.nd,r.bd,SetTable.fits_plain_off r.fi,r.gd.unplain⟩
 ·exact r
theorem Arr.lay (r:Arr P w ks es t) {k:Int} (tk:Tok) (hk:k ∉ ks) (hb:ks.length + 1 < scanBound):Arr P w (k::ks) (layNew t es (hashInt k) (.int k tk)).1 (layNew t es (hashInt k) (.int k tk)).2.1:=by
 have p:(layNew t es (hashInt k) (.int k tk)).1.toList.Perm (es.toList ++ [(hashInt k,.int k tk)]):=by simpa using layNew_perm t es (hashInt k) (.int k tk)
 have z:=p.length_eq
 have l:=r.len
 constructor
 ·exact ElemsOf.perm (r.el.push (k:=k) (x:=.int k tk) (intKind_is _ _ _ _) rfl) p
 ·have q:((es.toList ++ [(hashInt k,Value.int k tk)]).map λe=>numOf e.2).Perm (k::ks):=by
   rw [List.map_append]
   exact List.perm_append_comm.trans (r.pm.cons k)
  exact (p.map _).trans q
 ·exact List.nodup_cons.mpr ⟨hk,r.nd⟩
 ·simp at z;omega
 ·exact layNew_fits _ _ _ _
 ·exact r.gd.layNew _ _ _
theorem Arr.relay (r:Arr P w ks es t) (n:Nat):Arr P w ks (relayAll t es n).1 (relayAll t es n).2.1:=by
 have p:=relayAll_perm t es n
 have z:=p.length_eq
 have b:=r.bd
 exact ⟨r.el.perm p,(p.map _).trans r.pm,r.nd,by simp at z;omega,relayAll_fits t es n,r.gd.relayAll es n⟩
theorem bw.at (g:bw P w h a ks) (k:∀ o,h.get? a=some o->h'.get? a=some o):bw P w h' a ks:=by
 obtain ⟨o,es,ep,t,⟨ho,hex,hd⟩,r⟩:=g.arr
 exact r.set (k o ho) hex hd
end
theorem dC {P:Program}{w:World}{es:List (Int × Value)} (h:ElemsOf (intKind P w) es):∀ e ∈ es,∃ t,e.2=.int (numOf e.2) t:=λe he=>by
 obtain ⟨⟨k,hk,_⟩,_⟩:=h e he
 obtain ⟨t,q⟩:=Value.isInt_shape (show Value.isInt k e.2=true from hk)
 exact ⟨t,by rw [q];rfl⟩
theorem g5 {P:Program}{w:World}{es:List (Int × Value)} (h:ElemsOf (intKind P w) es) {e:Int × Value} (he:e ∈ es) (k:Int):(intKind P w).is k e.2=true ↔ numOf e.2=k:=by
 obtain ⟨t,q⟩:=dC h e he
 constructor
 ·intro z
  obtain ⟨t',q'⟩:=Value.isInt_shape (show Value.isInt k e.2=true from z)
  rw [q'];rfl
 ·intro z
  rw [q,z]
  exact intKind_is _ _ _ _
section
variable {P:Program}{w:World}{A:Around}{E:Value->Shared->Prop}{s:Shared}
noncomputable def Now (P:Program) (w:World) (a:Addr) (s:Shared) (ks:List Int) (s':Shared):Prop :=
 ∃ h',s'={ s with heap:=h' }/\Heap.SameBut a s.heap h'/\bw P w h' a ks
theorem Now.stay {a:Addr}{ks:List Int} (g:bw P w s.heap a ks):Now P w a s ks s:=⟨s.heap,rfl,Heap.SameBut.refl a s.heap,g⟩
theorem qf {h:Heap}{a:Addr}{o:Obj}{es:Array (Int × Value)}{ep:Nat}{t:SetTable} (ho:h.get? a=some o) (hex:o.ExactSet) (hd:o.data=.set es ep t)
  {es':Array (Int × Value)}{t':SetTable}{ks:List Int} (r:Arr P w ks es' t'):bw P w (h.update a (Obj.putSet es' t')) a ks:=by
 refine r.set (o:={ o with data:=.set es' (ep + 1) t' }) (ep:=ep + 1) ?_ hex rfl
 have e:Obj.putSet es' t' o={ o with data:=.set es' (ep + 1) t' }:=putSet_of es' t' hd
 rw [<- e]
 exact Heap.get?_update_self _ ho (by rw [e];rfl)
theorem Now.put {a:Addr}{ks ks':List Int}{s':Shared} (n:Now P w a s ks s') {es:Array (Int × Value)}{t:SetTable} (r:Arr P w ks' es t) {Q:Unit->Shared->Prop} (h:∀ s'',Now P w a s ks' s''->Q () s'') :
  wpAny (model P w) A (storeSet a es t) Q E s':=by
 obtain ⟨h',rfl,sb,g⟩:=n
 obtain ⟨o,_,_,_,⟨ho,hex,hd⟩,_⟩:=g.arr
 exact wpAny_storeSet_of ho hd (h _ ⟨_,rfl,sb.trans (Heap.SameBut.update h' a _),qf ho hex hd r⟩) (fits_of_scanBound r.bd)
theorem Bn {m:Sem Unit}{s':Shared}{Q:Unit->Shared->Prop} (hm:m=pure () \/ ∃ n,m=rule n) (h:Q () s'):wpAny (model P w) A m Q E s':=by
 rcases hm with rfl|⟨n,rfl⟩
 ·exact wpAny_pure h
 ·exact wpAny_rule h
theorem Bo (k:Int) (tk:Tok) (c:Bool) {s':Shared}{f:Bool->Sem (Option Bool)}{Q:Option Bool->Shared->Prop} (h:∀ b,wpAny (model P w) A (f b) Q E s') :
  wpAny (model P w) A (if c=true then hashByValue 8 (.int k tk) >>= f else (pure true:Sem Bool) >>= f) Q E s':=by
 cases c
 ·exact wpAny_bind (wpAny_pure (h true))
 ·rw [if_pos rfl,hashByValue_scannable 8 (show (Value.int k tk).scannable=true from rfl)]
  exact wpAny_bind (wpAny_pure (h _))
theorem lK {a:Addr}{ks:List Int}{k:Int}{tk:Tok}{Q:Bool->Shared->Prop} (hS:bw P w s.heap a ks) (hroom:ks.length + 1 < scanBound)
  (h:∀ h' b,Heap.SameBut a s.heap h'->bw P w h' a (if k ∈ ks then ks else k::ks)->Q b { s with heap:=h' }) :
  wpAny (model P w) A (setAddHashed a (.int k tk) (hashInt k)) Q E s:=by
 have fin:∀ b s',Now P w a s (if k ∈ ks then ks else k::ks) s'->Q b s':=by
  rintro b _ ⟨h',rfl,sb,g⟩
  exact h h' b sb g
 have now:=Now.stay hS
 obtain ⟨o,es,ep,t,⟨ho,hex,hd⟩,r⟩:=hS.arr
 have here:k ∈ ks ↔ ((es.toList.findIdx? λe=>(intKind P w).is k e.2).isSome=true):=by
  rw [List.findIdx?_isSome,List.any_eq_true,<- r.pm.mem_iff,List.mem_map]
  exact ⟨λ⟨e,he,q⟩=>⟨e,he,(g5 r.el he k).mpr q⟩,λ⟨e,he,q⟩=>⟨e,he,(g5 r.el he k).mp q⟩⟩
 unfold setAddHashed setAddHashedIn
 refine wpAny_holding (wpAny_bind (wpAny_setState_of ho hd r.fi ?_))
 dsimp only
 rw [byScan_of (x:=.int k tk) rfl r.bd r.el,if_pos rfl]
 refine wpAny_bind ?_
 unfold setAddByScan
 refine wpAny_bind (wpAny_rule (wpAny_bind (wpAny_setScan_of (knd:=intKind P w) (intKind_is _ _ _ _) ho hd r.fi r.el ?_)))
 rcases hf:es.toList.findIdx? λe=>(intKind P w).is k e.2 with _|j
 ·rw [hf]
  have hk:k ∉ ks:=λz=>by rw [here,hf] at z;exact Bool.noConfusion z
  rw [if_neg hk] at fin
  have r1:=r.lay tk hk hroom
  rcases hl:layNew t es (hashInt k) (.int k tk) with ⟨es1,t1,dm,gv⟩
  rw [hl] at r1
  dsimp only at r1 ⊢
  refine wpAny_bind (Bn ?_ ?_)
  ·cases gv
   ·exact .inl rfl
   ·exact .inr ⟨_,rfl⟩
  refine Bo k tk _ λb=>?_
  have r2:=r1.bare b
  generalize (if b=true then t1 else _)=t2 at r2 ⊢
  refine wpAny_bind (now.put r2 λs2 n2=>?_)
  refine wpAny_ite_split (λ_=>?_) (λ_=>wpAny_pure (wpAny_pure (fin _ _ n2)))
  have r3:=r2.relay (SetTable.grown es1.size)
  rcases hm:relayAll t2 es1 (SetTable.grown es1.size) with ⟨es3,t3,gv3⟩
  rw [hm] at r3
  dsimp only at r3 ⊢
  refine wpAny_bind (Bn ?_ ?_)
  ·cases gv3
   ·exact .inl rfl
   ·exact .inr ⟨_,rfl⟩
  exact wpAny_bind (n2.put r3 λs3 n3=>wpAny_pure (wpAny_pure (fin _ _ n3)))
 ·rw [hf]
  have hk:k ∈ ks:=here.mpr (by rw [hf];rfl)
  rw [if_pos hk] at fin
  exact wpAny_pure (wpAny_pure (fin _ _ now))
end
noncomputable def dd:List Int->List Int
 | []=>[]
 | k::r=>if k ∈ dd r then dd r else k::dd r
theorem d9 {k:Int}:∀ {l:List Int},k ∈ dd l ↔ k ∈ l
 | []=>Iff.rfl
 | x::r=>by
  show k ∈ (if x ∈ dd r then dd r else x::dd r) ↔ _
  have ih:=@d9 k r
  by_cases h:x ∈ dd r
  ·rw [if_pos h,ih,List.mem_cons]
   exact ⟨.inr,λz=>z.elim (λe=>by rw [e];exact d9.mp h) id⟩
  ·rw [if_neg h,List.mem_cons,List.mem_cons,ih]
theorem dd_nodup:∀ l:List Int,(dd l).Nodup
 | []=>List.nodup_nil
 | x::r=>by
  show (if x ∈ dd r then dd r else x::dd r).Nodup
  by_cases h:x ∈ dd r
  ·rw [if_pos h];exact dd_nodup r
  ·rw [if_neg h];exact List.nodup_cons.mpr ⟨h,dd_nodup r⟩
theorem tJ:∀ l:List Int,(dd l).length <= l.length
 | []=>Nat.le_refl _
 | x::r=>by
  show (if x ∈ dd r then dd r else x::dd r).length <= _
  have:=tJ r
  by_cases h:x ∈ dd r
  ·rw [if_pos h,List.length_cons];omega
  ·rw [if_neg h,List.length_cons,List.length_cons];omega
theorem wG (xs:List Int):(List.range xs.length).map (λi=>xs.getD i 0)=xs:=by
 apply List.ext_getElem?
 intro i
 rw [List.getElem?_map]
 by_cases q:i < xs.length
 ·simp [List.getElem?_range,q]
 ·simp [List.getElem?_range,q]
noncomputable def But (ws:List Addr) (s s':Shared):Prop :=
 ∃ h' tk,s'={ s with heap:=h',toks:=tk }/\∀ b o,b ∉ ws->s.heap.get? b=some o->h'.get? b=some o
theorem But.on {ws vs:List Addr}{s s' s'':Shared} (x:But ws s s') (y:But vs s' s'') (hs:∀ b ∈ ws,b ∈ vs):But vs s s'':=by
 obtain ⟨h1,t1,rfl,k1⟩:=x
 obtain ⟨h2,t2,rfl,k2⟩:=y
 exact ⟨h2,t2,rfl,λb o hb e=>k2 b o hb (k1 b o (λz=>hb (hs b z)) e)⟩
section
variable {P:Program}{w:World}{A:Around}{R:Result->Shared->Prop}{I S:Addr}{fp wr:List Addr}{n:Nat}{Pv:Nat->Value->Prop}{St:Nat->Heap->Prop}
noncomputable abbrev upd (S I:Addr):Code:=.builtin "set.update.loop" ⟨[.ref S,.ref I],[]⟩
theorem iu {s:Shared} (h:wpAny (model P w) A.in1 (pyNext (.ref I)) (λv s'=>match v with
   | none=>R (.ok (.ret .none)) s'
   | some x=>wpAny (model P w) A.in1 (setAdd S x) (λ_ s''=>codeAny (model P w) A (upd S I) R s'') (λe s''=>R (.error e) s'') s') (λe s'=>R (.error e) s') s) :
  codeAny (model P w) A (upd S I) R s:=by
 have pl:=PyProof.Rows.F.plain_set_update_loop
 apply codeAny_builtin PyProof.Rows.F.entry_set_update_loop
 rw [Around.under_plainId pl]
 apply wpAny_bind (m:=pyNext (.ref I))
 refine wpAny_mono h (λv s' hv=>?_) λ_ _ x=>x
 cases v with
 | none=>exact wpAny_pure hv
 | some x =>
  refine wpAny_bind (wpAny_holding (wpAny_mono hv (λ_ s'' hc=>?_) λ_ _ x=>x))
  exact wpAny_pure ⟨plainId_quiet pl _,hc⟩
theorem add_int {s:Shared}{E:Value->Shared->Prop}{B:Around}{ks:List Int}{k:Int}{t:Tok} (g:bw P w s.heap S ks) (room:ks.length + 1 < scanBound) {Q:Bool->Shared->Prop}
  (h:∀ b s',But [S] s s'->bw P w s'.heap S (if k ∈ ks then ks else k::ks)->(∀ b,b ≠ S->s'.heap.get? b=s.heap.get? b)->Q b s'):wpAny (model P w) B (setAdd S (.int k t)) Q E s:=by
 unfold setAdd
 refine wpAny_holding (wpAny_bind ((intKind P w).pyHash (k:=k) (intKind_is _ _ _ _) ?_))
 refine lK (s:={ s with toks:=s.toks + 1 }) g room λh' b sb g'=>h b _ ⟨h',_,rfl,λc o hc e=>?_⟩ g' λc hc=>?_
 ·rw [sb.2 c (by simpa using hc)];exact e
 ·exact sb.2 c hc
theorem qg (W:Walks P w A.in1 I fp wr n Pv St) (hS:S ∉ fp) (xs:List Int) (hn:xs.length=n) (hv:∀ i v,Pv i v->∃ t,v=.int (xs.getD i 0) t) (hb:n + 1 < scanBound) :
  ∀ (m i:Nat) (s:Shared),i + m=n->St i s.heap->bw P w s.heap S (dd (xs.take i).reverse)->(∀ s',But (S::wr) s s'->bw P w s'.heap S (dd xs.reverse)->R (.ok (.ret .none)) s') ->
   codeAny (model P w) A (upd S I) R s
 | 0,i,s,e,st,g,h=>by
  have hi:i=n:=e
  subst hi
  refine iu (W.done s _ _ st λh' tk kp=>h _ ⟨h',tk,rfl,λb o hb'=>kp b o λz=>hb' (.tail _ z)⟩ ?_)
  rw [List.take_of_length_le (by omega)] at g
  exact g.at λo=>kp S o λz=>hS (W.sub S z)
 | m + 1,i,s,e,st,g,h=>by
  have hi:i < n:=by omega
  refine iu (W.item i s _ _ hi st λv h1 tk1 pv st1 kp=>?_)
  obtain ⟨t,rfl⟩:=hv i v pv
  have b1:But wr s { s with heap:=h1,toks:=tk1 }:=⟨h1,tk1,rfl,kp⟩
  have l:(dd (xs.take i).reverse).length + 1 < scanBound:=by
   have:=tJ (xs.take i).reverse
   simp at this;omega
  refine add_int (g.at λo=>kp S o λz=>hS (W.sub S z)) l λ_ s2 b2 g2 st2=>?_
  refine qg W hS xs hn hv hb m (i + 1) s2 (by omega) (W.frame _ h1 _ st1 λb hb' o e'=>?_) ?_ λs3 b3 g3=>h s3 ?_ g3
  ·rw [st2 b λz=>hS (z ▸ hb')];exact e'
  ·have:xs.take (i + 1)=xs.take i ++ [xs.getD i 0]:=by
    rw [List.take_succ,List.getD_eq_getElem?_getD,List.getElem?_eq_getElem (by omega)];rfl
   rw [this,List.reverse_append]
   exact g2
  ·exact (b1.on (b2.on b3 (by simp)) λb z=>.tail _ z)
end
end L2.St
namespace L2.St
open PySem PyProof.Rows
section
variable {P:Program}{w:World}{A:Around}{E:Value->Shared->Prop}{s:Shared}
theorem bY {Q:Bool->Shared->Prop} (h:Q (byT w) s):wpAny (model P w) A setsByText Q E s:=by
 unfold setsByText
 exact wpAny_bind (wpAny_askSetting (wpAny_pure h))
noncomputable abbrev aI (w:World):Obj:={ cls:=.type "set",dict:=none,data:=.set #[] 0 (.fresh 0 0 (!byT w)) }
noncomputable abbrev al (w:World) (s:Shared):Shared:={ s with heap:=s.heap.push (aI w) }
theorem mG {Q:Value->Shared->Prop} (h:Q (.ref s.heap.objs.size) (al w s)):wpAny (model P w) A (newSet (.type "set")) Q E s:=by
 unfold newSet
 refine wpAny_bind (bY ?_)
 dsimp only
 simp only [newObj]
 exact wpAny_bind (wpAny_alloc (wpAny_pure h))
theorem nM (h:Heap):bw P w (h.push (aI w)) h.objs.size [] :=
 Arr.set (es:=#[]) (ep:=0) ⟨λe he=>by simp at he,by simp,List.nodup_nil,by decide,rfl,Gd.fresh _⟩ (Heap.get?_push_size _ rfl) ⟨rfl,rfl,rfl⟩ rfl
theorem qh (x:Value) {Q:Value->Shared->Prop} (h:Q (.ref s.heap.objs.size) (al w s)):codeAny (model P w) A (.call (.builtin "set.__new__") ⟨[.type "set",x],[]⟩) (wants Q E) s:=by
 refine codeAny_call_builtin PySem.F.plain_set_new PySem.F.entry_set_new (wpAny_of_eq (PySem.F.newCall_set_1 x) ?_)
 have cls:∀ {R:Value × List Value->Shared->Prop}{F:Value->Shared->Prop},R (.type "set",[x]) s->wpAny (model P w) A.in1 (Builtin.Frozenset.newClass "set" ⟨[.type "set",x],[]⟩) R F s:=by
  intro R F hr
  have hsub:=sub_set_self
  unfold Builtin.Frozenset.newClass
  obtain ⟨hp,g,d,tk,os⟩:=s
  wp_walk
  exact hr
 unfold Builtin.«set.__new__»
 exact wpAny_bind (cls (wpAny_bind (mG (wpAny_pure h))))
theorem tK (x:Value) {Q:Value->Shared->Prop}
  (hU:∀ B:Around,B.handled=A.handled->wpAny (model P w) B (Builtin.Frozenset.updateFrom "set.__init__" s.heap.objs.size x) (λ_ s'=>Q (.ref s.heap.objs.size) s') E (al w s)) :
  wpAny (model P w) A (call (.type "set") [x]) Q E s:=by
 have at0:(al w s).heap.get? s.heap.objs.size=some (aI w):=Heap.get?_push_size _ rfl
 have init:codeAny (model P w) A.in1 (.call (.builtin "set.__init__") ⟨[.ref s.heap.objs.size,x],[]⟩) (wants (λr s'=>r=.none/\Q (.ref s.heap.objs.size) s') E) (al w s):=by
  refine codeAny_call_builtin PySem.F.called_set.init.plain PySem.F.entry_set_init (check_set_init_1 ⟨_,at0,rfl⟩ ?_)
  have hu:=hU A.in1.in1 (by simp)
  generalize hw:al w s=s1 at at0 hu ⊢
  generalize s.heap.objs.size=S at at0 hu ⊢
  obtain ⟨hp,g,d,tk,os⟩:=s1
  unfold Builtin.«set.__init__» noKeywords
  generalize Builtin.Frozenset.updateFrom=U at hu ⊢
  wp_walk
  exact wpAny_mono hu (λ_ s' hq=>wpAny_pure ⟨rfl,hq⟩) λ_ _ z=>z
 have ft:=PySem.F.called_set
 refine wpAny_call (codeAny_of_tree (wpAny_pure ⟨Code.quiet_builtin _ (by decide +kernel),codeAny_builtin PySem.F.entry_type_call ?_⟩))
 rw [Around.under_plain (weight_type_call_type "set" [x] []) rfl]
 have f1:=ft.notType;have f2:=ft.canCreate;have f3:=ft.made;have f4:=ft.sub
 have f5:=PySem.F.typeCall_set_1 x
 obtain ⟨c,tl,f6⟩:=ft.mro
 repeat (any_goals (first|assumption|wp_step))
 refine codeAny_mono (qh x (E:=E) (Q:=λv s'=>v=.ref s.heap.objs.size/\s'=al w s) ⟨rfl,rfl⟩) λr s1 hr=>?_
 match r,hr with
 | .error e,hr=>exact hr
 | .ok (.ret v),hr =>
  obtain ⟨rfl,rfl⟩:=hr
  have f7:Shared.TypeIs (al w s) (.ref s.heap.objs.size) "set":=⟨_,at0,rfl⟩
  have f8:=ft.init.lookup;have f9:=ft.init.bind (.ref s.heap.objs.size)
  repeat (any_goals (first|assumption|wp_step))
  refine codeAny_mono init λr s2 hr=>?_
  match r,hr with
  | .error e,hr=>exact hr
  | .ok (.ret v),hr =>
   obtain ⟨rfl,hq⟩:=hr
   show wpAny _ A.in1 (pure (some Value.none)) _ _ _
   exact wpAny_pure (wpAny_pure hq)
theorem j7 {l:Addr}{tn:String}{o:Obj} (x:s.heap.get? l=some o) (hc:o.cls=.type tn) (hd:(Value.type tn == .type "dict")=false)
  (ns1:isSubtype (.type tn) (.type "set")=pure false) (ns2:isSubtype (.type tn) (.type "frozenset")=pure false)
  {ns:List Int}{Pv:Nat->Value->Prop}{St:Nat->Heap->Prop} (hv:∀ i v,Pv i v->∃ t,v=.int (ns.getD i 0) t) (hb:ns.length + 1 < scanBound) {io:Obj}
  (W:∀ B:Around,B.handled=A.handled->Walks P w B ((al w s).heap.objs.size) [(al w s).heap.objs.size,l] [(al w s).heap.objs.size] ns.length Pv St)
  (it:∀ (B:Around) (E':Value->Shared->Prop) (R:Value->Shared->Prop),R (.ref (al w s).heap.objs.size) { s with heap:=(al w s).heap.push io }->wpAny (model P w) B (pyIter (.ref l)) R E' (al w s))
  (st:St 0 ((al w s).heap.push io)) {Q:Value->Shared->Prop}
  (h:∀ (h':Heap) (tk:Nat),bw P w h' s.heap.objs.size (dd ns.reverse)->(∀ b o,s.heap.get? b=some o->h'.get? b=some o)->Q (.ref s.heap.objs.size) { s with heap:=h',toks:=tk }) :
  wpAny (model P w) A (call (.type "set") [.ref l]) Q E s:=by
 have z1:(al w s).heap.objs.size=s.heap.objs.size + 1:=Heap.size_push ..
 have far:∀ b,b < s.heap.objs.size->b ∉ [s.heap.objs.size,(al w s).heap.objs.size]:=λb hb=>by
  rw [z1]
  simp only [List.mem_cons,List.not_mem_nil,or_false,not_or]
  exact ⟨Nat.ne_of_lt hb,Nat.ne_of_lt (Nat.lt_succ_of_lt hb)⟩
 have kept:∀ b o,s.heap.get? b=some o->((al w s).heap.push io).get? b=some o:=λb o e=>Heap.get?_push_of_some _ (Heap.get?_push_of_some _ e)
 refine tK _ λB hB=>?_
 have hT:(al w s).TypeIs (.ref l) tn:=⟨o,Heap.get?_push_of_some _ x,hc⟩
 unfold Builtin.Frozenset.updateFrom Builtin.Frozenset.isAnySet
 refine wpAny_bind (wpAny_bind (wpAny_isInstance hT ns1 ?_))
 show wpAny _ _ (isInstance (.ref l) (.type "frozenset")) _ _ _
 refine wpAny_isInstance hT ns2 ?_
 rw [if_neg Bool.false_ne_true]
 refine wpAny_bind (wpAny_typeOf hT ?_)
 rw [hd,if_neg Bool.false_ne_true]
 refine wpAny_bind (it _ _ _ (wpAny_bind (wpAny_runValue ?_)))
 have hS:s.heap.objs.size ∉ [(al w s).heap.objs.size,l]:=by
  have:=Heap.lt_size x
  rw [z1]
  simp only [List.mem_cons,List.not_mem_nil,or_false,not_or]
  exact ⟨Nat.ne_of_lt (Nat.lt_succ_self _),Nat.ne_of_gt this⟩
 refine qg (W _ (by simpa using hB)) hS ns rfl hv hb ns.length 0 _ (by omega) st ((nM s.heap).at λo e=>Heap.get?_push_of_some _ e) ?_
 rintro s' ⟨h',tk,rfl,kp⟩ g
 exact wpAny_pure (h h' tk g λb o e=>kp b o (far b (Heap.lt_size e)) (kept b o e))
theorem set_list {l:Addr}{items:Array Value}{ns:List Int}{Q:Value->Shared->Prop}
  (hh:A.handled=none) (hl:s.heap.IsList l items) (hi:IntsAre items.toList ns) (hb:items.size + 1 < scanBound)
  (h:∀ (h':Heap) (tk:Nat),bw P w h' s.heap.objs.size (dd ns.reverse)->(∀ b o,s.heap.get? b=some o->h'.get? b=some o)->Q (.ref s.heap.objs.size) { s with heap:=h',toks:=tk }) :
  wpAny (model P w) A (call (.type "set") [.ref l]) Q E s:=by
 have z:items.size=ns.length:=by simpa using IntsAre.length hi
 obtain ⟨o,ho,hc,hr⟩:=hl
 have l1:(al w s).heap.IsList l items:=⟨o,Heap.get?_push_of_some _ ho,hc,hr⟩
 refine j7 (io:={ cls:=.type "list_iterator",data:=.fields #[.ref l,Value.int 0 0] }) ho hc (by decide) PySem.F.sub_list_set PySem.F.sub_list_frozenset (jG hi) (z ▸ hb) (λB hB=>z ▸ Walks.list (hB.trans hh) _ l ?_ items)
  (λB E' R=>wpAny_pyIter_list l1) ⟨⟨_,Heap.get?_push_size _ rfl,rfl,rfl⟩,l1.push _⟩ h
 exact Nat.ne_of_lt (Nat.lt_of_lt_of_eq (Nat.lt_succ_of_lt (Heap.lt_size ho)) (Heap.size_push ..).symm)
theorem rE {l:Addr}{items:Array Value}{ns:List Int}{Q:Value->Shared->Prop}
  (hh:A.handled=none) (hl:s.heap.IsTuple l items) (hi:IntsAre items.toList ns) (hb:items.size + 1 < scanBound)
  (h:∀ (h':Heap) (tk:Nat),bw P w h' s.heap.objs.size (dd ns.reverse)->(∀ b o,s.heap.get? b=some o->h'.get? b=some o)->Q (.ref s.heap.objs.size) { s with heap:=h',toks:=tk }) :
  wpAny (model P w) A (call (.type "set") [.ref l]) Q E s:=by
 have z:items.size=ns.length:=by simpa using IntsAre.length hi
 obtain ⟨o,ho,hc,hr⟩:=hl
 have l1:(al w s).heap.IsTuple l items:=⟨o,Heap.get?_push_of_some _ ho,hc,hr⟩
 refine j7 (io:={ cls:=.type "tuple_iterator",data:=.fields #[.ref l,Value.int 0 0] }) ho hc (by decide) PySem.F.sub_tuple_set PySem.F.sub_tuple_frozenset (jG hi) (z ▸ hb) (λB hB=>z ▸ Walks.tuple (hB.trans hh) _ l ?_ items)
  (λB E' R=>wpAny_pyIter_tuple l1) ⟨⟨_,Heap.get?_push_size _ rfl,rfl,rfl⟩,l1.push _⟩ h
 exact Nat.ne_of_lt (Nat.lt_of_lt_of_eq (Nat.lt_succ_of_lt (Heap.lt_size ho)) (Heap.size_push ..).symm)
end
end L2.St
namespace L2.St
open PySem PyProof.Rows
set_option maxRecDepth 100000 in
theorem fL:entryFor table "set.__iter__"=some Builtin.«frozenset.__iter__» :=
 entryFor_alias (id':="frozenset.__iter__") (by kernel_rfl) rfl (by decide +kernel) (by kernel_rfl)
set_option maxRecDepth 100000 in
theorem lL:Manifest.owners.lookup (String.ofList ['r','o','t','a','r','e','t','i','_','t','e','s'].reverse)=some Manifest.sig_set_iterator:=by kernel_rfl
set_option maxRecDepth 100000 in
theorem au:Slot "set_iterator" "__next__" "set_iterator.__next__" :=
 .of (owner:="set_iterator") (n:="__next__") (by rw [typeLookup_type,builtinLookup_eq_fast];kernel_rfl) (by decide +kernel) (by decide +kernel) (by decide +kernel)
  (by first|exact .inl (by decide +kernel)|exact .inr (by decide +kernel)) (by rw [isSubtype_type];kernel_rfl)
set_option maxRecDepth 100000 in
theorem cE:entryFor table "set_iterator.__next__"=some Builtin.«set_iterator.__next__»:=entryFor_of_tree (by kernel_rfl)
set_option maxRecDepth 100000 in
theorem cY (a:Value):argsOk "set_iterator.__next__" ⟨[a],[]⟩:=by
 unfold argsOk;rw [signature?_of (id:="set_iterator.__next__") (n:=['_','_','t','x','e','n','_','_']) (o:=['r','o','t','a','r','e','t','i','_','t','e','s']) (by kernel_rfl) lL];kernel_rfl
set_option maxRecDepth 100000 in
theorem gN:Slot "set_iterator" "__iter__" "set_iterator.__iter__" :=
 .of (owner:="set_iterator") (n:="__iter__") (by rw [typeLookup_type,builtinLookup_eq_fast];kernel_rfl) (by decide +kernel) (by decide +kernel) (by decide +kernel)
  (by first|exact .inl (by decide +kernel)|exact .inr (by decide +kernel)) (by rw [isSubtype_type];kernel_rfl)
set_option maxRecDepth 100000 in
theorem j8:entryFor table "set_iterator.__iter__"=some Builtin.«dict_keyiterator.__iter__» :=
 entryFor_alias (id':="dict_keyiterator.__iter__") (by kernel_rfl) rfl (by decide +kernel) (by kernel_rfl)
set_option maxRecDepth 100000 in
theorem lm (a:Value):argsOk "set_iterator.__iter__" ⟨[a],[]⟩:=by
 unfold argsOk;rw [signature?_of (id:="set_iterator.__iter__") (n:=['_','_','r','e','t','i','_','_']) (o:=['r','o','t','a','r','e','t','i','_','t','e','s']) (by kernel_rfl) lL];kernel_rfl
theorem nN {P:Program}{w:World}{A:Around}{E:Value->Shared->Prop}{s:Shared}{I:Addr}{Q:Value->Shared->Prop} (hT:s.TypeIs (.ref I) "set_iterator") (h:Q (.ref I) s):wpAny (model P w) A (pyIter (.ref I)) Q E s:=by
 refine wpAny_pyIter_slot hT gN (wpAny_call_entry gN hT j8 ?_ (lm _))
 show wpAny _ _ (ret (.ref I)) _ _ s
 exact wpAny_pure ⟨_,rfl,"set_iterator",_,hT,au.lookup,h⟩
theorem eZ {α:Type}:∀ {l:List α}{i:Nat}{x:α},l[i]?=some x->(x::l.eraseIdx i).Perm l
 | [],i,x,h=>by simp at h
 | a::l,0,x,h=>by
  have e:a=x:=by simpa using h
  subst e
  exact .refl _
 | a::l,i + 1,x,h=>by
  have h':l[i]?=some x:=by simpa using h
  exact (List.Perm.swap a x _).trans (.cons a (eZ h'))
theorem qi {α:Type} (next:Nat->Nat):∀ (fuel k:Nat) (left:List α) (out:Array α),fuel=left.length->(pickOrder.go next fuel k left out).toList.Perm (out.toList ++ left)
 | 0,k,left,out,h=>by
  have:left=[]:=List.length_eq_zero_iff.mp h.symm
  subst this
  rw [List.append_nil]
  exact .refl _
 | fuel + 1,k,left,out,h=>by
  have hl:next k % left.length < left.length:=Nat.mod_lt _ (by omega)
  obtain ⟨x,hx⟩:∃ x,left[next k % left.length]?=some x:=⟨_,List.getElem?_eq_getElem hl⟩
  have e:pickOrder.go next (fuel + 1) k left out=pickOrder.go next fuel (k + 1) (left.eraseIdx (next k % left.length)) (out.push x):=by
   show (match left[next k % left.length]? with
    | some x=>pickOrder.go next fuel (k + 1) (left.eraseIdx (next k % left.length)) (out.push x)
    | none=>out)=_
   rw [hx]
  rw [e]
  refine (qi next fuel (k + 1) _ _ (by rw [List.length_eraseIdx_of_lt hl];omega)).trans ?_
  rw [Array.toList_push,List.append_assoc]
  exact List.Perm.append_left _ (eZ hx)
theorem i5 {α:Type} (next:Nat->Nat) (xs:Array α):(pickOrder next xs).toList.Perm xs.toList:=by
 have:=qi next xs.size 0 xs.toList #[] (by simp)
 simpa [pickOrder] using this
section
variable {M:Model}{A:Around}{E:Value->Shared->Prop}{s:Shared}
theorem pw {src:Source}{n:Nat}{Q:Nat->Shared->Prop} (hn:n ≠ 0) (h:∀ i d',i < n->Q i { s with drawn:=d' }):wpAny M A (choose src n) Q E s:=λ_ _ _ =>
 ⟨hn,h _ _ (Nat.mod_lt _ (Nat.pos_of_ne_zero hn))⟩
theorem e_ {α:Type}:∀ (n:Nat) (xs:List α) (s:Shared) {Q:List α->Shared->Prop},n=xs.length->(∀ ys d',ys.Perm xs->Q ys { s with drawn:=d' })->wpAny M A (drawOrder n xs) Q E s
 | 0,xs,s,Q,h,q=>by
  have:xs=[]:=List.length_eq_zero_iff.mp h.symm
  subst this
  show wpAny M A (pure []) Q E s
  exact wpAny_pure (q [] s.drawn (.refl _))
 | n + 1,[],s,Q,h,q=>by simp at h
 | n + 1,x::r,s,Q,h,q=>by
  show wpAny M A (choose .order (x::r).length >>= _) Q E s
  refine wpAny_bind (pw (by simp) λi d' hi=>?_)
  obtain ⟨y,hy⟩:∃ y,(x::r)[i]?=some y:=⟨_,List.getElem?_eq_getElem hi⟩
  rw [hy]
  dsimp only
  refine wpAny_bind (e_ n _ _ (by rw [List.length_eraseIdx_of_lt hi];simp at h ⊢;omega) λys d'' hp=>wpAny_pure ?_)
  exact q (y::ys) d'' ((List.Perm.cons y hp).trans (eZ hy))
end
noncomputable def SIt (h:Heap) (I S:Addr) (o:Obj) (f:Value) (i n ep:Nat):Prop :=
 h.get? I=some { cls:=.type "set_iterator",dict:=none,data:=.fields #[f,.int i 0,.ref S,.int n 0,.int ep 0],slots:=#[] }/\h.get? S=some o
theorem SIt.type {s:Shared}{I S:Addr}{o:Obj}{f:Value}{i n ep:Nat} (h:SIt s.heap I S o f i n ep):s.TypeIs (.ref I) "set_iterator":=⟨_,h.1,rfl⟩
section
variable {P:Program}{w:World}{A:Around}{E:Value->Shared->Prop}{s:Shared}
theorem cQ {S:Addr}{o:Obj}{es:Array (Int × Value)}{ep:Nat}{t:SetTable}{Q:Array (Int × Value)->Shared->Prop} (ho:s.heap.get? S=some o) (hd:o.data=.set es ep t) (hf:t.fits es.size=true) (h:Q es s) :
  wpAny (model P w) A (setEntries S) Q E s:=wpAny_setEntries_of ho hd hf h
theorem gi {S:Addr}{o:Obj}{es:Array (Int × Value)}{ep slot i:Nat}{t:SetTable}{Q:Option (Value × Nat)->Shared->Prop} (ho:s.heap.get? S=some o) (hd:o.data=.set es ep t) (hf:t.fits es.size=true) (hb:byT w=true)
  (h:Q (((pickOrder (w.params.setOrder S ep) es)[i]?).map λe=>(e.2,slot)) s):wpAny (model P w) A (setNext S slot i ep) Q E s:=by
 unfold setNext
 refine wpAny_bind (wpAny_setState_of ho hd hf ?_)
 dsimp only
 refine wpAny_bind (bY ?_)
 rw [if_pos hb]
 simp only [bne_self_eq_false,Bool.false_eq_true,if_false]
 refine wpAny_bind ?_
 unfold setWalk
 refine wpAny_bind (wpAny_setState_of ho hd hf ?_)
 dsimp only
 refine wpAny_bind (bY ?_)
 rw [if_pos hb]
 refine wpAny_bind (wpAny_askSetting (wpAny_pure ?_))
 exact wpAny_pure h
theorem fb {S:Addr}{o:Obj}{es:Array (Int × Value)}{ep slot i:Nat}{t:SetTable}{Q:Option (Value × Nat)->Shared->Prop} (ho:s.heap.get? S=some o) (hd:o.data=.set es ep t) (hf:t.fits es.size=true) (hb:byT w=false)
  (hdr:(!t.plain&&decide (es.size > 1))=false) (hled:t.led=true)
  (h:Q (match es[SetTable.below t.place slot]?,t.place[SetTable.below t.place slot]? with|some (_,x),some j=>some (x,j + 1)|_,_=>none) s):wpAny (model P w) A (setNext S slot i ep) Q E s:=by
 unfold setNext
 refine wpAny_bind (wpAny_setState_of ho hd hf ?_)
 dsimp only
 refine wpAny_bind (bY ?_)
 rw [if_neg (by rw [hb];simp)]
 refine wpAny_ite_split (λhab=>absurd (show (!t.plain&&decide (es.size > 1))=true from hab) (by rw [hdr];simp)) (λ_=>?_)
 refine wpAny_bind ?_
 show wpAny _ _ (if (!t.led&&!es.isEmpty)=true then _ else _) _ _ s
 rw [if_neg (by rw [hled];simp)]
 exact wpAny_pure (wpAny_pure h)
theorem nO {xs:Array Nat} (hr:fK xs) {i:Nat} (hi:i < xs.size):SetTable.below xs (xs.getD i 0 + 1)=i + 1:=by
 obtain ⟨h1,h2,h3⟩:=cO hr (xs.getD i 0 + 1)
 have a:i < SetTable.below xs (xs.getD i 0 + 1):=by
  by_cases q:SetTable.below xs (xs.getD i 0 + 1) <= i
  ·have:=h3 i q hi;omega
  ·omega
 have b:SetTable.below xs (xs.getD i 0 + 1) <= i + 1:=by
  by_cases q:i + 1 < SetTable.below xs (xs.getD i 0 + 1)
  ·have:=h2 (i + 1) q
   have:=hr i (i + 1) (by omega) (by omega)
   omega
  ·omega
 omega
theorem j9 (xs:Array Nat) (hr:fK xs):SetTable.below xs 0=0:=by
 obtain ⟨h1,h2,h3⟩:=cO hr 0
 by_cases q:0 < SetTable.below xs 0
 ·have:=h2 0 q;omega
 ·omega
end
end L2.St
namespace L2.St
open PySem PyProof.Rows
section
variable {P:Program}{w:World}{A:Around}{E:Value->Shared->Prop}{s:Shared}{I S:Addr}{o:Obj}{es:Array (Int × Value)}{t:SetTable}{i n ep:Nat}
theorem gO {slot nx:Nat}{x:Value}{Q:Option Value->Shared->Prop} (hit:SIt s.heap I S o (.int slot 0) i n ep) (hd:o.data=.set es ep t) (hf:t.fits es.size=true) (hn:es.size=n) (hSI:S ≠ I)
  (hnx:∀ (A':Around) (s':Shared) (Q':Option (Value × Nat)->Shared->Prop) (E':Value->Shared->Prop),s'.heap.get? S=some o->Q' (some (x,nx)) s'->wpAny (model P w) A' (setNext S slot i ep) Q' E' s')
  (hQ:∀ h',SIt h' I S o (.int nx 0) (i + 1) n ep->Heap.SameBut I s.heap h'->Q (some x) { s with heap:=h' }):wpAny (model P w) A (pyNext (.ref I)) Q E s:=by
 unfold pyNext
 refine wpAny_bind (wpAny_attempt (wpAny_callSpecial?_slot (name:=Str.ofString "__next__") hit.type au (wpAny_call_entry au hit.type cE ?_ (cY _))))
 unfold Builtin.«set_iterator.__next__»
 refine wpAny_bind (m:=slotArgs "__next__" 0 _) (wpAny_pure ?_)
 refine wpAny_bind (wpAny_fieldsOf hit.1 rfl ?_)
 dsimp only
 refine wpAny_bind (cQ hit.2 hd hf ?_)
 rw [if_neg (by simp [hn])]
 try dsimp only
 simp only [Int.toNat_natCast]
 refine wpAny_bind (hnx _ _ _ _ hit.2 ?_)
 dsimp only
 refine wpAny_bind (wpAny_setField_rec hit.1 (by simp) λh1 e1 sb1=>?_)
 refine wpAny_bind (wpAny_setField_rec e1 (by simp) λh2 e2 sb2=>?_)
 refine wpAny_pure ⟨x,rfl,wpAny_pure (hQ h2 ⟨?_,?_⟩ (sb1.trans sb2))⟩
 ·simpa [rawInt] using e2
 ·exact ((sb1.trans sb2).2 S hSI).trans hit.2
theorem gP {slot:Nat}{Q:Option Value->Shared->Prop} (hh:A.handled=none) (hit:SIt s.heap I S o (.int slot 0) i n ep) (hd:o.data=.set es ep t) (hf:t.fits es.size=true) (hn:es.size=n)
  (hnx:∀ (A':Around) (s':Shared) (Q':Option (Value × Nat)->Shared->Prop) (E':Value->Shared->Prop),s'.heap.get? S=some o->Q' none s'->wpAny (model P w) A' (setNext S slot i ep) Q' E' s')
  (hQ:∀ h',(∀ b o,b ≠ I->s.heap.get? b=some o->h'.get? b=some o)->Q none { s with heap:=h' }):wpAny (model P w) A (pyNext (.ref I)) Q E s:=by
 unfold pyNext
 refine wpAny_bind (wpAny_attempt (wpAny_callSpecial?_slot (name:=Str.ofString "__next__") hit.type au (wpAny_call_entry au hit.type cE ?_ (cY _))))
 unfold Builtin.«set_iterator.__next__»
 refine wpAny_bind (m:=slotArgs "__next__" 0 _) (wpAny_pure ?_)
 refine wpAny_bind (wpAny_fieldsOf hit.1 rfl ?_)
 dsimp only
 refine wpAny_bind (cQ hit.2 hd hf ?_)
 rw [if_neg (by simp [hn])]
 try dsimp only
 simp only [Int.toNat_natCast]
 refine wpAny_bind (hnx _ _ _ _ hit.2 ?_)
 dsimp only
 refine wpAny_bind (wpAny_setField_rec hit.1 (by simp) λh1 e1 sb1=>?_)
 refine i4 (v:=.none) (vs:=#[]) (it:=0) (Q:=λ_ _=>True) (by first|exact hh|simpa using hh) λe s' kp ⟨h',eq⟩ hT=>?_
 subst eq
 refine wpAny_bind (wpAny_isInstance (T:="StopIteration") (b:=true) hT isSubtype_stop ?_)
 exact wpAny_pure (hQ h' λb o hb q=>kp b o ((sb1.2 b hb).trans q))
theorem fM {Tp:Addr}{ot:Obj}{ps:Array Value}{pn place:Nat}{pt:Tok}{hx:Int}{x:Value}{Q:Option Value->Shared->Prop} (hit:SIt s.heap I S o (.ref Tp) i n ep) (hd:o.data=.set es ep t) (hf:t.fits es.size=true) (hn:es.size=n) (hSI:S ≠ I)
  (hTp:s.heap.get? Tp=some ot) (hTd:ot.data=.seq ps pn) (hp:ps[i]?=some (.int place pt)) (hx':es[place]?=some (hx,x))
  (hQ:∀ h',SIt h' I S o (.ref Tp) (i + 1) n ep->Heap.SameBut I s.heap h'->Q (some x) { s with heap:=h' }):wpAny (model P w) A (pyNext (.ref I)) Q E s:=by
 unfold pyNext
 refine wpAny_bind (wpAny_attempt (wpAny_callSpecial?_slot (name:=Str.ofString "__next__") hit.type au (wpAny_call_entry au hit.type cE ?_ (cY _))))
 unfold Builtin.«set_iterator.__next__»
 refine wpAny_bind (m:=slotArgs "__next__" 0 _) (wpAny_pure ?_)
 refine wpAny_bind (wpAny_fieldsOf hit.1 rfl ?_)
 dsimp only
 refine wpAny_bind (cQ hit.2 hd hf ?_)
 rw [if_neg (by simp [hn])]
 try dsimp only
 refine wpAny_bind (wpAny_seqItems hTp hTd ?_)
 dsimp only
 simp only [Int.toNat_natCast,hp]
 refine wpAny_bind ?_
 unfold setNextDrawn
 refine wpAny_bind (wpAny_setState_of hit.2 hd hf ?_)
 dsimp only
 simp only [bne_self_eq_false,Bool.false_eq_true,if_false,Int.toNat_natCast,hx']
 refine wpAny_pure ?_
 refine wpAny_bind (wpAny_setField_rec hit.1 (by simp) λh1 e1 sb1=>?_)
 refine wpAny_pure ⟨x,rfl,wpAny_pure (hQ h1 ⟨?_,?_⟩ sb1)⟩
 ·simpa [rawInt] using e1
 ·exact (sb1.2 S hSI).trans hit.2
theorem fN {Tp:Addr}{ot:Obj}{ps:Array Value}{pn:Nat}{Q:Option Value->Shared->Prop} (hh:A.handled=none) (hit:SIt s.heap I S o (.ref Tp) i n ep) (hd:o.data=.set es ep t) (hf:t.fits es.size=true) (hn:es.size=n)
  (hTp:s.heap.get? Tp=some ot) (hTd:ot.data=.seq ps pn) (hp:ps[i]?=none)
  (hQ:∀ h',(∀ b o,b ≠ I->s.heap.get? b=some o->h'.get? b=some o)->Q none { s with heap:=h' }):wpAny (model P w) A (pyNext (.ref I)) Q E s:=by
 unfold pyNext
 refine wpAny_bind (wpAny_attempt (wpAny_callSpecial?_slot (name:=Str.ofString "__next__") hit.type au (wpAny_call_entry au hit.type cE ?_ (cY _))))
 unfold Builtin.«set_iterator.__next__»
 refine wpAny_bind (m:=slotArgs "__next__" 0 _) (wpAny_pure ?_)
 refine wpAny_bind (wpAny_fieldsOf hit.1 rfl ?_)
 dsimp only
 refine wpAny_bind (cQ hit.2 hd hf ?_)
 rw [if_neg (by simp [hn])]
 try dsimp only
 refine wpAny_bind (wpAny_seqItems hTp hTd ?_)
 dsimp only
 simp only [Int.toNat_natCast,hp]
 refine wpAny_bind (wpAny_setField_rec hit.1 (by simp) λh1 e1 sb1=>?_)
 refine wpAny_bind (wpAny_setField_rec e1 (by simp) λh2 e2 sb2=>?_)
 refine i4 (v:=.none) (vs:=#[]) (it:=0) (Q:=λ_ _=>True) (by first|exact hh|simpa using hh) λe s' kp ⟨h',eq⟩ hT=>?_
 subst eq
 refine wpAny_bind (wpAny_isInstance (T:="StopIteration") (b:=true) hT isSubtype_stop ?_)
 exact wpAny_pure (hQ h' λb o hb q=>kp b o (((sb1.trans sb2).2 b hb).trans q))
end
structure mH (P:Program) (w:World) (I:Addr) (fp:List Addr) (order:List Int) (St:Nat->Heap->Prop):Prop where
 mem:I ∈ fp
 ty:∀ i h,St i h->∃ o,h.get? I=some o/\o.cls=.type "set_iterator"
 frame:∀ i h h',St i h->(∀ b ∈ fp,∀ o,h.get? b=some o->h'.get? b=some o)->St i h'
 item:∀ (A:Around) i (s:Shared) (Q:Option Value->Shared->Prop) (E:Value->Shared->Prop),i < order.length->St i s.heap ->
  (∀ t h',St (i + 1) h'->(∀ b o,b ≠ I->s.heap.get? b=some o->h'.get? b=some o)->Q (some (.int (order.getD i 0) t)) { s with heap:=h' })->wpAny (model P w) A (pyNext (.ref I)) Q E s
 done:∀ (A:Around) (s:Shared) (Q:Option Value->Shared->Prop) (E:Value->Shared->Prop),A.handled=none->St order.length s.heap ->
  (∀ h',(∀ b o,b ≠ I->s.heap.get? b=some o->h'.get? b=some o)->Q none { s with heap:=h' })->wpAny (model P w) A (pyNext (.ref I)) Q E s
theorem mH.walks {P:Program}{w:World}{I:Addr}{fp:List Addr}{order:List Int}{St:Nat->Heap->Prop} (W:mH P w I fp order St) {A:Around} (hh:A.handled=none) :
  Walks P w A I fp [I] order.length (λi v=>∃ t,v=.int (order.getD i 0) t) St where
 sub:=λb hb=>by rw [List.mem_singleton.mp hb];exact W.mem
 frame:=W.frame
 item:=λi s Q E hi st hQ=>W.item A i s Q E hi st λt h' st' kp=>hQ _ h' s.toks ⟨t,rfl⟩ st' λb o hb e=>kp b o (λz=>hb (by rw [z];exact List.mem_singleton.mpr rfl)) e
 done:=λs Q E st hQ=>W.done A s Q E hh st λh' kp=>hQ h' s.toks λb o hb e=>kp b o (λz=>hb (by rw [z];exact List.mem_singleton.mpr rfl)) e
 self:=λi s Q E st h=>by
  obtain ⟨o,e,c⟩:=W.ty i _ st
  exact nN ⟨o,e,c⟩ h
section
variable {P:Program}{w:World}{A:Around}{E:Value->Shared->Prop}{s:Shared}
theorem iw {l:List (Int × Value)}{i:Nat}{e:Int × Value} (h:l[i]?=some e):(l.map λe=>numOf e.2).getD i 0=numOf e.2:=by
 rw [List.getD_eq_getElem?_getD,List.getElem?_map,h];rfl
set_option maxRecDepth 100000 in
theorem tL {S:Addr}{ks:List Int}{Q:Value->Shared->Prop} (g:bw P w s.heap S ks)
  (hQ:∀ (I:Addr) (h':Heap) (d':Drawn) (fp:List Addr) (order:List Int) (St:Nat->Heap->Prop),order.Perm ks->(∀ b o,s.heap.get? b=some o->h'.get? b=some o)->s.heap.objs.size <= I->(∀ b ∈ fp,b=S \/ s.heap.objs.size <= b)->(∀ b ∈ fp,b < h'.objs.size) ->
   mH P w I fp order St->St 0 h'->Q (.ref I) { s with heap:=h',drawn:=d' }):wpAny (model P w) A (pyIter (.ref S)) Q E s:=by
 obtain ⟨o,es,ep,t,ho,hex,hd,hel,hpm,hnd,hb,hf,hgd⟩:=g
 have hT:s.TypeIs (.ref S) "set":=⟨o,ho,hex.1⟩
 have hSlt:S < s.heap.objs.size:=Heap.lt_size ho
 have hps:t.place.size=es.size:=by simp [SetTable.fits] at hf;exact hf.1
 have hlen:es.size=ks.length:=by have:=hpm.length_eq;simpa using this
 refine wpAny_pyIter_slot hT PySem.F.slot_set_iter (wpAny_call_entry PySem.F.slot_set_iter hT fL ?_ (PySem.F.args_set_iter_1 _))
 unfold Builtin.«frozenset.__iter__»
 refine wpAny_bind (m:=Builtin.Frozenset.slot0 "__iter__" _) (wpAny_pure ?_)
 refine wpAny_bind (m:=Builtin.Frozenset.sizeOf S) (wpAny_bind (cQ ho hd hf (wpAny_pure ?_)))
 refine wpAny_bind (m:=setDrawn S) ?_
 unfold setDrawn
 refine wpAny_bind (wpAny_setState_of ho hd hf ?_)
 dsimp only
 refine wpAny_bind (bY (wpAny_pure ?_))
 have slotted:∀ (order:List (Int × Value)) (fs:Nat->Nat),order.Perm es.toList->fs 0=0 ->
   (∀ (A':Around) i (s':Shared) (Q':Option (Value × Nat)->Shared->Prop) (E':Value->Shared->Prop) e,order[i]?=some e->s'.heap.get? S=some o->Q' (some (e.2,fs (i + 1))) s'->wpAny (model P w) A' (setNext S (fs i) i ep) Q' E' s') ->
   (∀ (A':Around) (s':Shared) (Q':Option (Value × Nat)->Shared->Prop) (E':Value->Shared->Prop),s'.heap.get? S=some o->Q' none s'->wpAny (model P w) A' (setNext S (fs order.length) order.length ep) Q' E' s') ->
   Q (.ref s.heap.objs.size) { s with heap:=s.heap.push { cls:=.type "set_iterator",data:=.fields #[.int 0 0,.int 0 0,.ref S,.int (es.size:Nat) 0,.int (ep:Nat) 0] } }:=by
  intro order fs hp h0 hstep hend
  have hol:order.length=es.size:=by have:=hp.length_eq;simpa using this
  refine hQ s.heap.objs.size _ s.drawn [s.heap.objs.size,S] (order.map λe=>numOf e.2) (λi h=>SIt h s.heap.objs.size S o (.int (fs i) 0) i es.size ep) ((hp.map _).trans hpm) (λb o e=>Heap.get?_push_of_some _ e) (Nat.le_refl _) (λb hb=>?_) (λb hb=>?_) ?_ ?_
  ·rcases List.mem_cons.mp hb with e|e
   ·exact .inr (Nat.le_of_eq e.symm)
   ·exact .inl (List.mem_singleton.mp e)
  ·rw [Heap.size_push]
   rcases List.mem_cons.mp hb with e|e
   ·rw [e];exact Nat.lt_succ_self _
   ·rw [List.mem_singleton.mp e];exact Nat.lt_succ_of_lt hSlt
  ·refine ⟨.head _,λi h st=>⟨_,st.1,rfl⟩,λi h h' st k=>⟨k _ (.head _) _ st.1,k _ (.tail _ (.head _)) _ st.2⟩,λA' i s' Q' E' hi st hq=>?_,λA' s' Q' E' hh st hq=>?_⟩
   ·rw [List.length_map] at hi
    obtain ⟨e,he⟩:∃ e,order[i]?=some e:=⟨_,List.getElem?_eq_getElem hi⟩
    have hm:e ∈ es.toList:=hp.mem_iff.mp (List.mem_of_getElem? he)
    obtain ⟨tk,hv⟩:=dC hel e hm
    rw [iw he] at hq
    refine gO (slot:=fs i) (nx:=fs (i + 1)) (x:=e.2) st hd hf rfl (Nat.ne_of_lt hSlt) (λA'' s'' Q'' E'' hs'' q=>hstep A'' i s'' Q'' E'' e he hs'' q) λh' st' sb=>?_
    rw [hv]
    exact hq tk h' st' λb o hb q=>(sb.2 b hb).trans q
   ·rw [List.length_map] at st
    exact gP (slot:=fs order.length) hh st hd hf rfl (λA'' s'' Q'' E'' hs'' q=>hend A'' s'' Q'' E'' hs'' q) hq
  ·refine ⟨?_,Heap.get?_push_of_some _ ho⟩
   rw [h0]
   exact Heap.get?_push_size _ rfl
 cases hbt:byT w with
 | true =>
  simp only [Bool.not_true,Bool.false_and,Bool.false_eq_true,if_false]
  refine wpAny_bind (wpAny_pure ?_)
  refine wpAny_bind (wpAny_setEpoch_of ho hd hf ?_)
  refine wpAny_bind (wpAny_newObj_type (wpAny_pure ⟨_,rfl,"set_iterator",_,⟨_,Heap.get?_push_size _ rfl,rfl⟩,au.lookup,?_⟩))
  have q:=slotted (pickOrder (w.params.setOrder S ep) es).toList (λ_=>0) (i5 _ _) rfl
   (λA' i s' Q' E' e he hs' q=>gi hs' hd hf hbt (by rw [<- Array.getElem?_toList,he];exact q))
   (λA' s' Q' E' hs' q=>gi hs' hd hf hbt (by rw [Array.getElem?_eq_none (by simp)];exact q))
  simpa [rawInt] using q
 | false =>
  cases hdr:(!t.plain&&decide (es.size > 1)) with
  | false =>
   refine wpAny_ite_split (λhab=>absurd (show (!false&&(!t.plain&&decide (es.size > 1)))=true from hab) (by rw [hdr];simp)) (λ_=>?_)
   refine wpAny_bind (wpAny_pure ?_)
   refine wpAny_bind (wpAny_setEpoch_of ho hd hf ?_)
   refine wpAny_bind (wpAny_newObj_type (wpAny_pure ⟨_,rfl,"set_iterator",_,⟨_,Heap.get?_push_size _ rfl,rfl⟩,au.lookup,?_⟩))
   have hled:t.led=true:=by rw [hgd.led,hbt];rfl
   have hfs:∀ i,i <= t.place.size->SetTable.below t.place (match i with|0=>0|j + 1=>t.place.getD j 0 + 1)=i:=λi hi=>by
    cases i with
    | zero=>exact j9 _ hgd.rise
    | succ j=>exact nO hgd.rise (by omega)
   have q:=slotted es.toList (λi=>match i with|0=>0|j + 1=>t.place.getD j 0 + 1) (.refl _) rfl
    (λA' i s' Q' E' e he hs' q=>fb hs' hd hf hbt hdr hled (by
     have hi:i < es.size:=by have:=(List.getElem?_eq_some_iff.mp he).1;simpa using this
     rw [hfs i (by omega)]
     rw [<- Array.getElem?_toList,he,Array.getElem?_eq_getElem (by omega:i < t.place.size)]
     have e2:t.place.getD i 0=t.place[i]:=by simp [Array.getD,(by omega:i < t.place.size)]
     dsimp only at q ⊢
     rw [e2] at q
     exact q))
    (λA' s' Q' E' hs' q=>fb hs' hd hf hbt hdr hled (by
     rw [hfs _ (by simp [hps]),Array.getElem?_eq_none (by simp)]
     exact q))
   simpa [rawInt] using q
  | true =>
   refine wpAny_ite_split (λ_=>?_) (λhab=>absurd (show (!false&&(!t.plain&&decide (es.size > 1)))=true by rw [hdr];rfl) hab)
   refine wpAny_bind (e_ _ _ _ (by simp) λplaces d' hperm=>?_)
   refine wpAny_bind (wpAny_newTuple ?_ (by simp;have:=hperm.length_eq;simp at this;rw [this,sizeLine_eq];unfold scanBound at hb;omega))
   refine wpAny_bind (wpAny_setEpoch_of (Heap.get?_push_of_some _ ho) hd hf ?_)
   refine wpAny_bind (wpAny_newObj_type (wpAny_pure ⟨_,rfl,"set_iterator",_,⟨_,Heap.get?_push_size _ rfl,rfl⟩,au.lookup,?_⟩))
   have hpl:places.length=es.size:=by have:=hperm.length_eq;simpa using this
   have hat:∀ p ∈ places,p < es.size:=λp hp=>by have:=hperm.mem_iff.mp hp;simpa using this
   have hT0:((s.heap.push { cls:=.type "tuple",data:=.seq (List.map (λ(i:Nat)=>rawInt i) places).toArray }).push { cls:=.type "set_iterator",data:=.fields #[.ref s.heap.objs.size,.int 0 0,.ref S,.int (es.size:Nat) 0,.int (ep:Nat) 0] }).get? s.heap.objs.size=some { cls:=.type "tuple",data:=.seq (List.map (λ(i:Nat)=>rawInt i) places).toArray } :=
    Heap.get?_push_of_some _ (Heap.get?_push_size _ rfl)
   have q:=hQ (s.heap.push { cls:=.type "tuple",data:=.seq (List.map (λ(i:Nat)=>rawInt i) places).toArray }).objs.size
    ((s.heap.push { cls:=.type "tuple",data:=.seq (List.map (λ(i:Nat)=>rawInt i) places).toArray }).push { cls:=.type "set_iterator",data:=.fields #[.ref s.heap.objs.size,.int 0 0,.ref S,.int (es.size:Nat) 0,.int (ep:Nat) 0] }) d'
    [(s.heap.push { cls:=.type "tuple",data:=.seq (List.map (λ(i:Nat)=>rawInt i) places).toArray }).objs.size,S,s.heap.objs.size]
    (places.map λp=>(es.toList.map λe=>numOf e.2).getD p 0)
    (λi h=>SIt h (s.heap.push { cls:=.type "tuple",data:=.seq (List.map (λ(i:Nat)=>rawInt i) places).toArray }).objs.size S o (.ref s.heap.objs.size) i es.size ep/\h.get? s.heap.objs.size=some { cls:=.type "tuple",data:=.seq (List.map (λ(i:Nat)=>rawInt i) places).toArray })
    ?p1 (λb o e=>Heap.get?_push_of_some _ (Heap.get?_push_of_some _ e)) (by rw [Heap.size_push];exact Nat.le_succ _) ?p2 ?p3 ?p4 ⟨⟨Heap.get?_push_size _ rfl,Heap.get?_push_of_some _ (Heap.get?_push_of_some _ ho)⟩,hT0⟩
   ·simpa [rawInt] using q
   case p1 =>
    have e1:(es.toList.map λe=>numOf e.2).length=es.size:=by simp
    have h1:=hperm.map λp=>(es.toList.map λe=>numOf e.2).getD p 0
    rw [<- e1,wG] at h1
    exact h1.trans hpm
   case p2 =>
    intro b hb
    simp only [List.mem_cons,List.not_mem_nil,or_false] at hb
    rcases hb with e|e|e
    ·exact .inr (by rw [e,Heap.size_push];exact Nat.le_succ _)
    ·exact .inl e
    ·exact .inr (Nat.le_of_eq e.symm)
   case p3 =>
    intro b hb
    rw [Heap.size_push]
    simp only [List.mem_cons,List.not_mem_nil,or_false] at hb
    rcases hb with e|e|e
    ·rw [e];exact Nat.lt_succ_self _
    ·rw [e,Heap.size_push];exact Nat.lt_succ_of_lt (Nat.lt_succ_of_lt hSlt)
    ·rw [e,Heap.size_push];exact Nat.lt_succ_of_lt (Nat.lt_succ_self _)
   case p4 =>
    refine ⟨.head _,λi h st=>⟨_,st.1.1,rfl⟩,λi h h' st k=>⟨⟨k _ (.head _) _ st.1.1,k _ (.tail _ (.head _)) _ st.1.2⟩,k _ (.tail _ (.tail _ (.head _))) _ st.2⟩,λA' i s' Q' E' hi st hq=>?_,λA' s' Q' E' hh st hq=>?_⟩
    ·rw [List.length_map] at hi
     obtain ⟨p,hp⟩:∃ p,places[i]?=some p:=⟨_,List.getElem?_eq_getElem hi⟩
     have hpz:p < es.size:=hat p (List.mem_of_getElem? hp)
     obtain ⟨e,he⟩:∃ e,es.toList[p]?=some e:=⟨_,List.getElem?_eq_getElem (by simpa using hpz)⟩
     obtain ⟨tk,hv⟩:=dC hel e (List.mem_of_getElem? he)
     have e3:(places.map λp=>(es.toList.map λe=>numOf e.2).getD p 0).getD i 0=numOf e.2:=by
      rw [List.getD_eq_getElem?_getD,List.getElem?_map,hp]
      exact iw he
     rw [e3] at hq
     refine fM (place:=p) (pt:=0) (hx:=e.1) (x:=e.2) st.1 hd hf rfl (by rw [Heap.size_push];exact Nat.ne_of_lt (Nat.lt_succ_of_lt hSlt)) st.2 rfl (by simp [hp,rawInt]) (by rw [<- Array.getElem?_toList,he]) λh' st' sb=>?_
     rw [hv]
     exact hq tk h' ⟨st',(sb.2 _ (by rw [Heap.size_push];exact Nat.ne_of_lt (Nat.lt_succ_self _))).trans st.2⟩ λb o hb q=>(sb.2 b hb).trans q
    ·rw [List.length_map] at st
     exact fN hh st.1 hd hf rfl st.2 rfl (by simp) hq
end
end L2.St
namespace L2.St
open PySem PyProof.Rows
section
variable {P:Program}{w:World}{A:Around}{E:Value->Shared->Prop}{s:Shared}
theorem nP {r:Addr}{Q:Bool->Shared->Prop} (hT:s.TypeIs (.ref r) "set") (h:Q false s):wpAny (model P w) A (Builtin.List.listLengthHint (.ref r)) Q E s:=by
 unfold Builtin.List.listLengthHint
 refine wpAny_bind (wpAny_specialOf hT PySem.F.slot_set_len.lookup ?_)
 generalize hid:("set.__len__":String)=id0
 wp_delta
 rw [show splitId id0=some ("set","__len__") from by subst hid;decide +kernel]
 subst hid
 refine wpAny_bind (wpAny_isInstance (T:="set") (b:=true) hT (by rw [isSubtype_type];kernel_rfl) ?_)
 refine wpAny_ite_split (λhab=>absurd hab (by decide)) (λ_=>?_)
 refine wpAny_ite_split (λ_=>?_) (λhab=>absurd (by decide +kernel) hab)
 refine wpAny_bind (wpAny_typeOf hT ?_)
 exact wpAny_pure h
set_option maxRecDepth 100000 in
theorem nQ {S:Addr}{ks:List Int}{R:List Value->Shared->Prop} (hh:A.handled=none) (g:bw P w s.heap S ks)
  (h:∀ (h':Heap) (tk:Nat) (d':Drawn) (acc:List Value) (order:List Int),(∀ b o,s.heap.get? b=some o->h'.get? b=some o)->order.Perm ks->IntsAre acc order->R acc { s with heap:=h',toks:=tk,drawn:=d' }) :
  wpAny (model P w) A (collect (.ref S)) R E s:=by
 have hks:ks.length < scanBound:=by
  obtain ⟨o,es,ep,t,ho,hex,hd,hel,hp,hn,hb,_⟩:=g
  have:=hp.length_eq
  have e:es.size=ks.length:=by simpa using this
  omega
 have hSlt:S < s.heap.objs.size:=by
  obtain ⟨o,es,ep,t,ho,_⟩:=g
  exact Heap.lt_size ho
 unfold collect
 refine wpAny_bind (wpAny_runValue (codeAny_builtin entry_proto_collect' ?_))
 rw [Around.under_plainId PySem.F.plain_proto_collect _]
 show wpAny _ A.in1 (newList [] >>= λl=>again (.builtin "list.__iadd__" ⟨[l,.ref S],[]⟩)) _ _ s
 refine wpAny_bind (wpAny_newObj_type ?_)
 refine wpAny_pure ⟨plainId_quiet PySem.F.plain_list_iadd _,codeAny_builtin entry_list_iadd' ?_⟩
 rw [Around.under_plainId PySem.F.plain_list_iadd _]
 have hS0:(s.heap.push { cls:=.type "list",data:=.seq ([]:List Value).toArray }).get? s.heap.objs.size=some { cls:=.type "list",data:=.seq #[] }:=Heap.get?_push_size _ rfl
 show wpAny _ A.in1 (Builtin.List.listExtendWith (.ref s.heap.objs.size) (.ref S) (.ref s.heap.objs.size)) _ _ _
 have g1:bw P w (s.heap.push { cls:=.type "list",data:=.seq ([]:List Value).toArray }) S ks:=g.at λo e=>Heap.get?_push_of_some _ e
 have hT:Shared.TypeIs { s with heap:=s.heap.push { cls:=.type "list",data:=.seq ([]:List Value).toArray } } (.ref S) "set":=by
  obtain ⟨o,es,ep,t,ho,hex,_⟩:=g1
  exact ⟨o,ho,hex.1⟩
 unfold Builtin.List.listExtendWith
 refine wpAny_bind (wpAny_typeOf (T:="set") hT ?_)
 have q1:Builtin.List.listSameRef (.ref s.heap.objs.size) (.ref S)=false:=by simp [Builtin.List.listSameRef,Nat.ne_of_gt hSlt]
 have q2:(Value.type "set" == Value.type "list")=false:=by decide
 have q3:(Value.type "set" == Value.type "tuple")=false:=by decide
 simp only [q1,q2,q3,Bool.or_false,Bool.false_eq_true,if_false]
 refine wpAny_bind (tL g1 λI h1 d1 fp order St hperm kp hI hfp hlt W st=>?_)
 have hz0:(s.heap.push { cls:=.type "list",data:=.seq ([]:List Value).toArray }).objs.size=s.heap.objs.size + 1:=Heap.size_push ..
 have hLf:s.heap.objs.size ∉ fp:=λhm=>by
  rcases hfp _ hm with e|e
  ·exact Nat.lt_irrefl _ (by rw [<- e] at hSlt;exact hSlt)
  ·dsimp only at e
   rw [hz0] at e
   exact Nat.not_succ_le_self _ e
 have hol:order.length <= sizeLine:=by
  have:=hperm.length_eq
  rw [this]
  exact fits_of_scanBound hks
 have hT1:Shared.TypeIs { s with heap:=h1,drawn:=d1 } (.ref S) "set":=by
  obtain ⟨o,e,c⟩:=hT
  exact ⟨o,kp S o e,c⟩
 refine wpAny_bind (wpAny_holding (nP hT1 ?_))
 have WS:=(W.walks (A:=A.in1) (by first|exact hh|simpa using hh)).toS
 have fin:∀ (h2:Heap) (c1:Nat),St 0 h2->(∀ b o,b ≠ s.heap.objs.size->h1.get? b=some o->h2.get? b=some o)->h2.get? s.heap.objs.size=some { cls:=.type "list",dict:=none,data:=.seq #[] c1,slots:=#[] } ->
   codeAny (model P w) A (.builtin "list.extend.loop" ⟨[.ref s.heap.objs.size,.ref I,.ref s.heap.objs.size],[]⟩)
    (λr s'=>∃ (h':Heap) (tk:Nat) (acc':Array Value) (c':Nat),r=.ok (.ret (.ref s.heap.objs.size))/\s'={ s with heap:=h',toks:=tk,drawn:=d1 }/\(∀ b o,s.heap.get? b=some o->h'.get? b=some o) /\
     h'.get? s.heap.objs.size=some { cls:=.type "list",dict:=none,data:=.seq acc' c',slots:=#[] }/\IntsAre acc'.toList order) { s with heap:=h2,drawn:=d1 }:=by
  intro h2 c1 st2 k2 hS2
  refine codeAny_extend_loopS WS hol s.heap.objs.size hLf _ order.length 0 _ #[] c1 rfl (Nat.zero_le _) st2 hS2 (ItemsOf.nil _) λs' acc' c' hm hS' hacc=>?_
  refine ⟨s'.heap,s'.toks,acc',c',rfl,(by
   obtain ⟨h',g',dr',tk',os'⟩:=s'
   have eg:g'=s.gens:=hm.gens
   have ed:dr'=d1:=hm.drawn
   have eo:os'=s.os:=hm.os
   subst eg;subst ed;subst eo;rfl),λb o e=>?_,hS',ll hacc⟩
  have hbl:b ≠ s.heap.objs.size:=Nat.ne_of_lt (Heap.lt_size e)
  refine hm.heap b o (λhmem=>?_) (k2 b o hbl (kp b o (Heap.get?_push_of_some _ e)))
  rcases List.mem_cons.mp hmem with z|z
  ·exact hbl z
  ·have hbI:b=I:=List.mem_singleton.mp z
   rw [hbI] at e
   have hI':(s.heap.push { cls:=.type "list",data:=.seq ([]:List Value).toArray }).objs.size <= I:=hI
   rw [hz0] at hI'
   exact absurd (Nat.lt_of_lt_of_le (Heap.lt_size e) (Nat.le_of_succ_le hI')) (Nat.lt_irrefl _)
 have done:∀ (r:Result) (s':Shared),(∃ (h':Heap) (tk:Nat) (acc':Array Value) (c':Nat),r=.ok (.ret (.ref s.heap.objs.size))/\s'={ s with heap:=h',toks:=tk,drawn:=d1 }/\(∀ b o,s.heap.get? b=some o->h'.get? b=some o) /\
     h'.get? s.heap.objs.size=some { cls:=.type "list",dict:=none,data:=.seq acc' c',slots:=#[] }/\IntsAre acc'.toList order) ->
   wants (λv s'=>wpAny (model P w) A (match v with
    | Value.ref a=>do
     match (<- load a).data with
      | Data.seq xs _=>pure xs.toList
      | _=>unsupported "internal:collect"
    | _=>unsupported "internal:collect") R E s') E r s':=by
  rintro r s' ⟨h',tk,acc',c',rfl,rfl,k',hS',hi⟩
  show wpAny _ A (load s.heap.objs.size >>= _) _ _ _
  refine wpAny_bind (wpAny_load hS' ?_)
  exact wpAny_pure (h h' tk d1 acc'.toList order k' hperm hi)
 have h1L:h1.get? s.heap.objs.size=some { cls:=.type "list",dict:=none,data:=.seq #[] 0,slots:=#[] }:=kp _ _ hS0
 refine wpAny_ite_split (λ_=>?_) (λ_=>wpAny_pure ⟨plainId_quiet PySem.F.plain_extend_loop _,codeAny_mono (fin h1 0 st (λ_ _ _ e=>e) h1L) done⟩)
 refine wpAny_bind (wpAny_rule ?_)
 refine wpAny_bind ?_
 show wpAny _ _ (updateSeq s.heap.objs.size (·.push .none) >>= λ_=>updateSeq s.heap.objs.size (·.pop)) _ _ _
 refine wpAny_bind (wpAny_updateSeq h1L rfl ?_)
 have hS2:=Heap.get?_update_self (Obj.mapSeq (·.push Value.none)) h1L rfl
 refine wpAny_updateSeq (hz:=by seq_fits) hS2 rfl ?_
 have hS3:=Heap.get?_update_self (Obj.mapSeq (·.pop)) hS2 rfl
 refine wpAny_pure ⟨plainId_quiet PySem.F.plain_extend_loop _,codeAny_mono (fin _ _ ?_ (λb o hb e=>?_) hS3) done⟩
 ·refine W.frame 0 _ _ st λb hb o e=>?_
  have hbS:b ≠ s.heap.objs.size:=λz=>hLf (z ▸ hb)
  exact (Heap.get?_update_other _ _ (Ne.symm hbS)).trans ((Heap.get?_update_other _ _ (Ne.symm hbS)).trans e)
 ·exact (Heap.get?_update_other _ _ (Ne.symm hb)).trans ((Heap.get?_update_other _ _ (Ne.symm hb)).trans e)
end
end L2.St
namespace L2
open PySem PySem.Spec PyProof.Rows
noncomputable def gz (scope osc:Scope):Scope :=
 { scope with names:=scope.names.map λ(n,k)=>if (k == .free&&osc.kind == .function&&osc.names.lookup n == some .cell) then (n,.cell) else (n,k) }
noncomputable def ln (osc:Scope) (n:Str) (k:NameKind):NameKind:=if (k == .free&&osc.kind == .function&&osc.names.lookup n == some .cell) then .cell else k
theorem g6 (scope osc:Scope):(gz scope osc).names=scope.names.map λq=>(q.1,ln osc q.1 q.2):=by
 show List.map _ scope.names=_
 refine List.map_congr_left λq _=>?_
 obtain ⟨n,k⟩:=q
 show (if (k == NameKind.free&&osc.kind == .function&&osc.names.lookup n == some .cell)=true then (n,NameKind.cell) else (n,k))=(n,ln osc n k)
 unfold ln
 split <;> rfl
theorem dX {α β:Type} (g:Str->α->β) (y:Str):∀ names:List (Str × α),(names.map λq=>(q.1,g q.1 q.2)).lookup y=(names.lookup y).map (g y)
 | []=>rfl
 | (n,k)::r=>by
  rw [List.map_cons]
  cases hx:y == n with
  | true =>
   simp only [List.lookup_cons,hx,Option.map_some]
   rw [eq_of_beq hx]
  | false =>
   simp only [List.lookup_cons,hx]
   exact dX g y r
theorem rF (osc:Scope) (n:Str):ln osc n .free=.cell \/ ln osc n .free=.free:=by
 unfold ln
 split
 ·exact .inl rfl
 ·exact .inr rfl
theorem rG {osc:Scope}{n:Str}{k:NameKind} (hk:k ≠ .cell) (h:ln osc n k=.cell \/ ln osc n k=.free):k=.free:=by
 unfold ln at h
 by_cases hc:(k == NameKind.free&&osc.kind == .function&&osc.names.lookup n == some .cell)=true
 ·simp only [Bool.and_eq_true] at hc
  exact eq_of_beq hc.1.1
 ·rw [if_neg hc] at h
  rcases h with h|h
  ·exact absurd h hk
  ·exact h
theorem g7 {α:Type}{y:Str}{k:α}:∀ {l:List (Str × α)},l.lookup y=some k->(y,k) ∈ l
 | [],h=>by simp at h
 | (n,k')::r,h=>by
  cases hx:y == n with
  | true =>
   simp only [List.lookup_cons,hx] at h
   rw [eq_of_beq hx,Option.some.inj h];exact .head _
  | false =>
   simp only [List.lookup_cons,hx] at h
   exact .tail _ (g7 h)
theorem rH {scope osc:Scope}{y:Str} (h:scope.names.lookup y=some .free):(gz scope osc).names.lookup y=some .cell \/ (gz scope osc).names.lookup y=some .free:=by
 rw [g6,dX,h,Option.map_some]
 rcases rF osc y with e|e
 ·exact .inl (by rw [e])
 ·exact .inr (by rw [e])
theorem rJ {scope osc:Scope}{x y:Str} (hn:∀ z ∈ scope.names,z.2=.cell->z.1=x) (h:(gz scope osc).names.lookup y=some .cell \/ (gz scope osc).names.lookup y=some .free):(y,NameKind.free) ∈ scope.names \/ (y=x/\scope.names.lookup x=some .cell):=by
 rw [g6,dX] at h
 cases e:scope.names.lookup y with
 | none=>rw [e] at h;rcases h with h|h <;> cases h
 | some k =>
  rw [e,Option.map_some] at h
  have hm:=g7 e
  by_cases hc:k=.cell
  ·subst hc
   have q:y=x:=hn _ hm rfl
   exact .inr ⟨q,by rw [<- q];exact e⟩
  ·have hk:k=.free:=rG hc (h.elim (λz=>.inl (Option.some.inj z)) λz=>.inr (Option.some.inj z))
   rw [hk] at hm
   exact .inl hm
theorem rK {scope osc:Scope}{y:Str} (h:scope.names.lookup y=some .cell):(gz scope osc).names.lookup y=some .cell:=by
 rw [g6,dX,h,Option.map_some]
 unfold ln
 split
 ·rfl
 ·rfl
noncomputable def eI (env:Env):List (Str × NameKind)->List (Str × Addr)->List (Str × Addr)
 | [],acc=>acc
 | (n,k)::r,acc=>if k == .free then eI env r ((n,(env.cells.lookup n).getD 0)::acc) else eI env r acc
theorem i6 {env:Env}:∀ (names:List (Str × NameKind)) (acc:List (Str × Addr)),(∀ y ∈ names,y.2=.free->∃ c,env.cells.lookup y.1=some c) ->
  (forIn names acc λx r=>(match x with|(name,kind)=>if (kind == NameKind.free)=true then do let c <- cellOf env name;pure (ForInStep.yield ((name,c)::r)) else pure (ForInStep.yield r)):Sem (List (Str × Addr)))=pure (eI env names acc)
 | [],acc,_=>rfl
 | (n,k)::r,acc,h=>by
  rw [List.forIn_cons]
  have hr:∀ y ∈ r,y.2=.free->∃ c,env.cells.lookup y.1=some c:=λy hy=>h y (.tail _ hy)
  by_cases hk:(k == NameKind.free)=true
  ·obtain ⟨c,hc⟩:=h (n,k) (.head _) (eq_of_beq hk)
   dsimp only
   rw [if_pos hk]
   have e1:cellOf env n=pure c:=by unfold cellOf;rw [hc]
   rw [e1]
   simp only [pure_bind]
   rw [i6 r _ hr]
   show _=pure (if (k == NameKind.free)=true then _ else _)
   rw [if_pos hk,hc]
   all_goals rfl
  ·dsimp only
   rw [if_neg hk]
   simp only [pure_bind]
   rw [i6 r _ hr]
   show _=pure (if (k == NameKind.free)=true then _ else _)
   rw [if_neg hk]
theorem j_ {scope:Scope}{env:Env} (h:∀ y ∈ scope.names,y.2=.free->∃ c,env.cells.lookup y.1=some c):closureFor scope env=pure (eI env scope.names []):=by
 unfold closureFor
 have:=i6 (env:=env) scope.names [] h
 first
  | exact this
  | (rw [bind_pure];exact this)
  | simpa using this
theorem kd {env:Env}{y:Str}{c:Addr}:∀ (names:List (Str × NameKind)) (acc:List (Str × Addr)),(∀ z ∈ names,z.2=.free->∃ c,env.cells.lookup z.1=some c)->(∀ c,acc.lookup y=some c->env.cells.lookup y=some c) ->
  (eI env names acc).lookup y=some c->env.cells.lookup y=some c
 | [],acc,_,ha,e=>ha c e
 | (n,k)::r,acc,h,ha,e=>by
  have hr:∀ y ∈ r,y.2=.free->∃ c,env.cells.lookup y.1=some c:=λy hy=>h y (.tail _ hy)
  have e':(if (k == NameKind.free)=true then eI env r ((n,(env.cells.lookup n).getD 0)::acc) else eI env r acc).lookup y=some c:=e
  by_cases hk:(k == NameKind.free)=true
  ·rw [if_pos hk] at e'
   refine kd r _ hr (λc' q=>?_) e'
   cases hx:y == n with
   | true =>
    simp only [List.lookup_cons,hx] at q
    obtain ⟨c0,hc0⟩:=h (n,k) (.head _) (eq_of_beq hk)
    have en:y=n:=eq_of_beq hx
    have hc1:env.cells.lookup n=some c0:=hc0
    rw [hc1] at q
    rw [en,hc1]
    exact q
   | false =>
    simp only [List.lookup_cons,hx] at q
    exact ha c' q
  ·rw [if_neg hk] at e'
   exact kd r _ hr ha e'
theorem ix {env:Env}{y:Str}:∀ (names:List (Str × NameKind)) (acc:List (Str × Addr)),((y,NameKind.free) ∈ names \/ ∃ c,acc.lookup y=some c)->∃ c,(eI env names acc).lookup y=some c
 | [],acc,h=>by
  rcases h with h|h
  ·simp at h
  ·exact h
 | (n,k)::r,acc,h=>by
  show ∃ c,(if (k == NameKind.free)=true then eI env r ((n,(env.cells.lookup n).getD 0)::acc) else eI env r acc).lookup y=some c
  by_cases hk:(k == NameKind.free)=true
  ·rw [if_pos hk]
   refine ix r _ ?_
   cases hx:y == n with
   | true=>exact .inr ⟨(env.cells.lookup n).getD 0,by simp only [List.lookup_cons,hx]⟩
   | false =>
    rcases h with h|⟨c,h⟩
    ·rcases List.mem_cons.mp h with z|z
     ·have:y=n:=(Prod.mk.inj z).1
      rw [this] at hx
      simp at hx
     ·exact .inl z
    ·exact .inr ⟨c,by simp only [List.lookup_cons,hx];exact h⟩
  ·rw [if_neg hk]
   refine ix r _ ?_
   rcases h with h|h
   ·rcases List.mem_cons.mp h with z|z
    ·have:NameKind.free=k:=(Prod.mk.inj z).2
     rw [<- this] at hk
     simp at hk
    ·exact .inl z
   ·exact .inr h
structure mI (osc:Scope) (N:List Str) (scope:Scope) (x:Str) (fvs:List Str) (js:List Nat):Prop where
 cells:∀ y ∈ scope.names,y.2=.cell->y.1=x
 once:scope.names.lookup x=some .local/\(scope.names.filter λy=>y.2 == .cell)=[] \/ scope.names.lookup x=some .cell/\(scope.names.filter λy=>y.2 == .cell)=[(x,.cell)]
 xf:∀ y ∈ scope.names,y.2=.free->y.1 ≠ x
 kind:scope.kind=.function
 names:∀ y ∈ scope.names,y.2=.local->scope.names.lookup y.1=some .local
 nd:(x::fvs).Nodup
 out:∀ y ∈ scope.names,y.2=.free->osc.names.lookup y.1=some .cell \/ osc.names.lookup y.1=some .free
 slots:(js.map λj=>N[j]?)=fvs.map some
 free:∀ y ∈ fvs,scope.names.lookup y=some .free
noncomputable def i7 (scope:Scope) (x:Str) (C:Addr):List (Str × Addr):=if scope.names.lookup x=some .cell then [(x,C + 1)] else []
noncomputable def Cx.blk (X:Cx) (x:Str) (fvs:List Str) (scope:Scope) (s₁:Shared) (H₁:Hp) (C:Addr) (fp:List Addr):Cx :=
 { X with N:=x::fvs,s₀:=s₁,H₀:=H₁,env:=compEnvC scope (i7 scope x C ++ eI X.env scope.names []) C X.env,outer:=X.stack,ex:=fp,fn:=λy=>decide (y=x/\scope.names.lookup x=some .cell),pn:=[],xe:=λ_ _=>False }
theorem ke {M:Model}{A:Around}{E:Value->Shared->Prop}:∀ {names:List (Str × NameKind)}{acc:List (Str × Addr)}{s:Shared}{Q:List (Str × Addr)->Shared->Prop},(names.filter λy=>y.2 == .cell)=[]->Q acc s ->
  wpAny M A (forIn names acc λx r=>(match x with|(name,kind)=>if (kind == NameKind.cell)=true then do let c <- alloc { cls:=.type "cell",data:=.cell none };pure (ForInStep.yield ((name,c)::r)) else pure (ForInStep.yield r)):Sem (List (Str × Addr))) Q E s
 | [],_,_,_,_,h=>wpAny_pure h
 | (n,k)::r,acc,s,Q,hf,h=>by
  rw [List.forIn_cons]
  have hk:(k == NameKind.cell)=false:=by
   cases q:(k == NameKind.cell) with
   | false=>rfl
   | true=>rw [List.filter_cons_of_pos (by exact q)] at hf;cases hf
  rw [List.filter_cons_of_neg (by rw [hk];decide)] at hf
  dsimp only
  rw [if_neg (by rw [hk];decide)]
  exact wpAny_bind (wpAny_pure (ke hf h))
theorem lM {M:Model}{A:Around}{E:Value->Shared->Prop}{x:Str}:∀ {names:List (Str × NameKind)}{acc:List (Str × Addr)}{s:Shared}{Q:List (Str × Addr)->Shared->Prop},(names.filter λy=>y.2 == .cell)=[(x,.cell)] ->
  Q ((x,s.heap.objs.size)::acc) { s with heap:=s.heap.push { cls:=.type "cell",data:=.cell none } } ->
  wpAny M A (forIn names acc λx r=>(match x with|(name,kind)=>if (kind == NameKind.cell)=true then do let c <- alloc { cls:=.type "cell",data:=.cell none };pure (ForInStep.yield ((name,c)::r)) else pure (ForInStep.yield r)):Sem (List (Str × Addr))) Q E s
 | [],_,_,_,hf,_=>by cases hf
 | (n,k)::r,acc,s,Q,hf,h=>by
  rw [List.forIn_cons]
  dsimp only
  cases hk:(k == NameKind.cell) with
  | false =>
   rw [List.filter_cons_of_neg (by rw [hk];decide)] at hf
   rw [if_neg (by decide)]
   exact wpAny_bind (wpAny_pure (lM hf h))
  | true =>
   rw [List.filter_cons_of_pos (by exact hk)] at hf
   obtain ⟨e1,e2⟩:=List.cons.inj hf
   cases e1
   rw [if_pos rfl]
   exact wpAny_bind (wpAny_bind (wpAny_alloc (wpAny_pure (ke e2 h))))
theorem pz {M:Model}{A:Around}{E:Value->Shared->Prop}{scope:Scope}{x:Str}{globals:Addr}{cl:List (Str × Addr)}{qual:Str}{env:Env}{s:Shared}{Q:Env->Shared->Prop} (hk:scope.kind=.function)
  (ho:scope.names.lookup x=some .local/\(scope.names.filter λy=>y.2 == .cell)=[] \/ scope.names.lookup x=some .cell/\(scope.names.filter λy=>y.2 == .cell)=[(x,.cell)])
  (h:∀ h' m,h'.Ns s.heap.objs.size m->(∀ b u,s.heap.get? b=some u->h'.get? b=some u)->(scope.names.lookup x=some .cell->h'.IsCell (s.heap.objs.size + 1) none)->Q (newEnv scope s.heap.objs.size globals (i7 scope x s.heap.objs.size ++ cl) qual none .none (some env) builtinsNs) { s with heap:=h' }) :
  wpAny M A (newFunctionEnv scope globals cl [] qual none .none (some env)) Q E s:=by
 rcases ho with ⟨h1,h2⟩|⟨h1,h2⟩
 ·refine wpAny_newFunctionEnv (λy hy z=>?_) (by intro y hy;simp at hy) (λh' hns hsb=>?_) hk
  ·have:y ∈ scope.names.filter λy=>y.2 == .cell:=List.mem_filter.mpr ⟨hy,by rw [z];rfl⟩
   rw [h2] at this
   cases this
  ·have q:=h h' _ hns (λb u e=>hsb.extBut b u (Nat.ne_of_lt (Heap.lt_size e)) (Heap.get?_push_of_some _ e)) λz=>by rw [h1] at z;cases z
   unfold i7 at q
   rw [if_neg (by rw [h1];simp)] at q
   exact q
 ·unfold newFunctionEnv
  refine wpAny_bind (wpAny_alloc (wpAny_bind (lM h2 ?_)))
  have hn:=Heap.Ns.new s.heap (.type "dict")
  have hs:(s.heap.push { cls:=.type "dict",data:=.dict #[] }).objs.size=s.heap.objs.size + 1:=Heap.size_push _ _
  have q:=h ((s.heap.push { cls:=.type "dict",data:=.dict #[] }).push { cls:=.type "cell",data:=.cell none }) _ (hn.keeps λb o e=>Heap.get?_push_of_some _ e) (λb u e=>Heap.get?_push_of_some _ (Heap.get?_push_of_some _ e)) λ_=>⟨_,by rw [<- hs];exact Heap.get?_push_size _ rfl,rfl⟩
  unfold i7 at q
  rw [if_pos h1] at q
  rw [<- hs] at q
  exact wpAny_bind (wpAny_pure (wpAny_pure q))
noncomputable def gC (js:List Nat) (σ:St):St:=none::js.map λj=>(σ[j]?).join
noncomputable def PF (X:Cx) (ifs:List Expr) (t:TT):Prop :=
 ∀ (pins:List (Addr × Obj)) (s:Shared) (σ:St) (H:Hp) (Q:Bool->Hp->Prop),Inv X pins σ H s->t σ H Q ->
  wpAny (model X.prog X.w) X.A (forIn ifs true λc r=>if r=true then do let ok <- isTrue c X.env (eval c X.env);pure (ForInStep.yield ok) else pure (ForInStep.yield r)) (TP X pins σ Q) X.xe s
noncomputable def C3:TT:=λ_ H Q=>Q true H
theorem y7 {X:Cx}:PF X [] C3:=λ_ _ _ H _ I h=>wpAny_tests_nil ⟨H,I,h⟩
theorem y9 {X:Cx}{c:Expr}{t:TT} (h:PT X c t):PF X [c] t:=λpins s σ H Q I q=>wpAny_tests_one (h pins s σ H Q I q)
section
variable {prog:Program}{w:World}{A:Around}{R:Result->Shared->Prop}{s:Shared}
theorem rL {elt target iter:Expr}{ifs:List Expr}{scope:Scope}{pos:Pos}{it acc:Value}{env:Env} (J:Nat->Shared->Prop)
  (turn:∀ n s,J n s->wpAny (model prog w) A (pyNext it) (λr s1=>match r with
   | none=>R (.ok .next) s1
   | some v=>wpAny (model prog w) A (letOwnedTupleGo target it v) (λ_ s2=>wpAny (model prog w) A (assign target env v) (λ_ s3 =>
     wpAny (model prog w) A (forIn ifs true λc r=>if r=true then do let ok <- isTrue c env (eval c env);pure (ForInStep.yield ok) else pure (ForInStep.yield r)) (λok s4 =>
      if ok=true then wpAny (model prog w) A (eval elt env) (λx s5 =>
       wpAny (model prog w) A (call (.builtin "list.append") [acc,x]) (λ_ s6=>∃ m,m < n/\J m s6) (λ_ _=>False) s5) (λ_ _=>False) s4
      else ∃ m,m < n/\J m s4) (λ_ _=>False) s3) (λ_ _=>False) s2) (λ_ _=>False) s1) (λ_ _=>False) s)
  (n:Nat) (h:J n s):codeAny (model prog w) A (.compLoop (.ListComp elt [⟨target,iter,ifs,0⟩] scope pos) 0 it acc env) R s:=by
 have up:∀ {α:Type}{t:Sem α}{Q:α->Shared->Prop}{E:Value->Shared->Prop}{s:Shared},wpAny (model prog w) A t Q (λ_ _=>False) s->wpAny (model prog w) A t Q E s:=λq=>wpAny_mono q (λ_ _ z=>z) λ_ _ z=>z.elim
 refine codeAny_loop rfl J (λn s hJ=>?_) n h
 show wpAny _ A ((compTurn (.ListComp elt [⟨target,iter,ifs,0⟩] scope pos) 0 it acc env).onRaise (λx=>do noteFrame x env;theTreesLotGoes x)) _ _ s
 refine wpAny_noted ?_
 rw [compTurn_list]
 refine wpAny_bind (wpAny_standAt (wpAny_bind (wpAny_mono (up (turn n s hJ)) (λr s1 h1=>?_) λ_ _ z=>z)))
 cases r with
 | none=>exact wpAny_pure h1
 | some v =>
  refine wpAny_bind (wpAny_mono (up h1) (λ_ s2 h2=>?_) λ_ _ z=>z)
  refine wpAny_bind (wpAny_mono (up h2) (λ_ s3 h3=>wpAny_bind (wpAny_mono (up h3) (λok s4 h4=>?_) λ_ _ z=>z)) λ_ _ z=>z)
  cases ok with
  | false=>exact wpAny_pure ⟨rfl,h4⟩
  | true=>exact wpAny_bind (wpAny_bind (wpAny_mono (up h4) (λx s5 h5=>wpAny_bind (wpAny_mono (up h5) (λ_ s6 h6=>wpAny_pure (wpAny_pure ⟨rfl,h6⟩)) λ_ _ z=>z)) λ_ _ z=>z))
end
noncomputable def xU (J:It) (σ0:St) (H1:Hp) (tt:TT) (te:TE) (D:Addr) (Q:VK):Prop :=
 ∃ W:Nat->Nat->St->Hp->Prop,(∃ m,W 0 m σ0 (upd H1 D (.lst [])))/\∀ i m σ' H',W i m σ' H' ->
  (J.stop i H'/\Q (.ref D) H') \/ (J.go i H'/\∃ N:St->Hp->Prop,(∀ σ2 H2,N σ2 H2->∃ m',m' < m/\W (i + 1) m' σ2 H2)/\∀ x H2,J.yld i H' x H2 ->
   tt (σ'.set 0 (some x)) H2 λb H3=>if b=true then te (σ'.set 0 (some x)) H3 λy H4=>∃ ys,H4 D=some (.lst ys)/\ys.length < sizeLine/\N (σ'.set 0 (some x)) (upd H4 D (.lst (ys ++ [y]))) else N (σ'.set 0 (some x)) H3)
noncomputable def tM (wi:TI) (js:List Nat) (tt:TT) (te:TE):TE:=λσ H Q=>wi σ H λJ H1=>∀ D,H1 D=none->xU J (gC js σ) H1 tt te D Q
section
variable {X:Cx}{elt iter:Expr}{x:Str}{px:Pos}{ifs:List Expr}{scope:Scope}{pos:Pos}{fvs:List Str}{js:List Nat}{wi:TI}{tt:TT}{te:TE}
theorem lN (hsc:mI X.env.scope X.N scope x fvs js) (hc:X.calm=true)
  (ht:∀ s₁ H₁ C fp,PF (X.blk x fvs scope s₁ H₁ C fp) ifs tt) (he:∀ s₁ H₁ C fp,PE (X.blk x fvs scope s₁ H₁ C fp) elt te)
  {pins:List (Addr × Obj)}{σ:St}{H2:Hp}{s2:Shared}{Q:VK}{it:Addr}{fp:List Addr}{tn:Nat->Heap->Prop}{J:It}{RR:Value->Addr->Result->Shared->Prop}
  (I2:Inv X pins σ H2 s2) (T:rj X.prog X.w X.K (.Name x px) J fp it tn) (st2:tn 0 s2.heap) (f2:∀ b ∈ fp,jA X pins H2 b)
  (hh:∀ D,H2 D=none->xU J (gC js σ) H2 tt te D Q)
  (fin:∀ (D C:Addr) (H':Hp) (s':Shared),Inv X pins σ H' s'->(∃ m,s'.heap.Ns C m)->H' C=none->C ≠ X.env.locals->X.s₀.heap.objs.size <= C->(∀ y c,X.env.cells.lookup y=some c->c ≠ C)->(∀ p ∈ X.pn ++ pins,p.1 ≠ C)->Q (.ref D) H' ->
   RR (.ref D) C (.ok .next) s') {E:Value->Shared->Prop} :
  wpAny (model X.prog X.w) X.A (newList []) (λacc s3=>wpAny (model X.prog X.w) X.A (newFunctionEnv scope X.env.globals (eI X.env scope.names []) [] X.env.qual none .none (some X.env)) (λcenv s4 =>
   codeAny (model X.prog X.w) X.A (.compStart (.ListComp elt [⟨.Name x px,iter,ifs,0⟩] scope pos) 0 (.ref it) acc { cenv with scope:=relabel scope X.env }) (RR acc cenv.locals) s4) E s3) E s2:=by
 have fr:∀ y ∈ scope.names,y.2=.free->∃ c,X.env.cells.lookup y.1=some c:=λy hy hk=>I2.ok.has y.1 (hsc.out y hy hk)
 have sub:∀ y c,(eI X.env scope.names []).lookup y=some c->X.env.cells.lookup y=some c:=λy c e=>kd scope.names [] fr (λ_ q=>by simp at q) e
 refine wpAny_newObj_type (pz (x:=x) hsc.kind hsc.once λh1 m1 hns1 hsb1 hcl1=>?_)
 dsimp only at hns1 hsb1 hcl1 ⊢
 have I3:Inv X pins σ (upd H2 s2.heap.objs.size (.lst [])) { s2 with heap:=s2.heap.push { cls:=.type "list",data:=.seq ([]:List Value).toArray },toks:=s2.toks }:=I2.lnew (ys:=[]) (its:=[]) .nil (Nat.zero_le _)
 generalize hG:s2.heap.push { cls:=.type "list",dict:=none,data:=.seq ([]:List Value).toArray }=G at hns1 hsb1 hcl1 I3 ⊢
 have hC:G.objs.size=s2.heap.objs.size + 1:=by rw [<- hG,Heap.size_push]
 obtain ⟨W,⟨m0,w0⟩,turn⟩:=hh s2.heap.objs.size I2.fresh
 have up:∀ b u,G.get? b=some u->h1.get? b=some u:=hsb1
 have look:∀ {y:Str}{c:Addr},(i7 scope x G.objs.size ++ eI X.env scope.names []).lookup y=some c->(y=x/\scope.names.lookup x=some .cell/\c=G.objs.size + 1) \/ (eI X.env scope.names []).lookup y=some c:=λ{y c} e=>by
  unfold i7 at e
  by_cases q:scope.names.lookup x=some .cell
  ·rw [if_pos q] at e
   by_cases z:(y == x)=true
   ·rw [List.cons_append,List.lookup_cons,z] at e
    exact .inl ⟨eq_of_beq z,q,(Option.some.inj e).symm⟩
   ·rw [List.cons_append,List.lookup_cons,(Bool.not_eq_true _).mp z] at e
    exact .inr e
  ·rw [if_neg q] at e
   exact .inr e
 have Cfr:∀ {H':Hp}{s':Shared},Inv X pins σ H' s'->True:=λ_=>trivial
 have nC:(upd H2 s2.heap.objs.size (.lst [])) G.objs.size=none:=I3.hok.fresh (Nat.le_refl _)
 have cL:G.objs.size ≠ X.env.locals:=Nat.ne_of_gt I3.lt
 have cS:X.s₀.heap.objs.size <= G.objs.size:=I3.sz
 have cC:∀ y c,X.env.cells.lookup y=some c->c ≠ G.objs.size:=λy c e z=>by
  obtain ⟨v,q⟩:=I3.cell y c e
  exact absurd (show c < G.objs.size from q.lt) (by rw [z];exact Nat.lt_irrefl _)
 have cP:∀ p ∈ X.pn ++ pins,p.1 ≠ G.objs.size:=λp hp z=>absurd (show p.1 < G.objs.size from Heap.lt_size (I3.pin p hp).1) (by rw [z];exact Nat.lt_irrefl _)
 have fpl:∀ b ∈ fp,b < s2.heap.objs.size:=λb hb=>by
  obtain ⟨o,e,_⟩:=T.obj 0 _ st2 b hb
  exact Heap.lt_size e
 have ok:(X.blk x fvs scope { s2 with heap:=G,toks:=s2.toks } (upd H2 s2.heap.objs.size (.lst [])) G.objs.size fp).Ok:=by
  have hb:∀ b ∈ fp,b ∉ frs X.stack:=λb hb z=>(List.mem_cons.mp (I2.stkSub b z)).elim (f2 b hb).2.1 (f2 b hb).2.2.1
  exact {
   mod:=I3.ok.mod
   kind:=by show (relabel scope X.env).kind=_;exact hsc.kind
   glob:=I3.ok.glob
   blt:=I3.ok.blt
   above:=Nat.le_refl _
   inj:=λy z c e1 e2=>by
    have lt:∀ {y:Str},(eI X.env scope.names []).lookup y=some c->c < G.objs.size:=λ{y} e=>by
     obtain ⟨v,q⟩:=I3.cell y c (sub y c e)
     exact q.lt
    rcases look e1 with ⟨a1,_,a2⟩|a1
    ·rcases look e2 with ⟨b1,_,_⟩|b1
     ·rw [a1,b1]
     ·exact absurd (lt b1) (by rw [a2];exact Nat.not_lt.mpr (Nat.le_succ _))
    ·rcases look e2 with ⟨_,_,b2⟩|b1
     ·exact absurd (lt a1) (by rw [b2];exact Nat.not_lt.mpr (Nat.le_succ _))
     ·exact I3.ok.inj y z c (sub y c a1) (sub z c b1)
   has:=λy hy=>by
    show ∃ c,(i7 scope x G.objs.size ++ eI X.env scope.names []).lookup y=some c
    unfold i7
    rcases rJ hsc.cells hy with hm|⟨e,q⟩
    ·obtain ⟨c,ec⟩:=ix (env:=X.env) scope.names [] (.inl hm)
     by_cases q:scope.names.lookup x=some .cell
     ·have z:(y == x)=false:=beq_eq_false_iff_ne.mpr (hsc.xf _ hm rfl)
      exact ⟨c,by rw [if_pos q,List.cons_append,List.lookup_cons,z];exact ec⟩
     ·exact ⟨c,by rw [if_neg q];exact ec⟩
    ·subst e
     exact ⟨G.objs.size + 1,by rw [if_pos q,List.cons_append,List.lookup_cons,beq_self_eq_true]⟩
   cab:=λy c h e=>by
    obtain ⟨h1,h2⟩:=of_decide_eq_true h
    have e':(i7 scope x G.objs.size ++ eI X.env scope.names []).lookup y=some c:=e
    unfold i7 at e'
    rw [if_pos h2,h1,List.cons_append,List.lookup_cons,beq_self_eq_true] at e'
    rw [<- Option.some.inj e']
    exact Nat.le_succ _
   hd:=I3.ok.hd
   frames:=I3.ok.frames
   stk:=.inl rfl
   exf:=λb hb'=>⟨Nat.ne_of_lt (show b < G.objs.size from Nat.lt_of_lt_of_le (fpl b hb') (by rw [hC];exact Nat.le_succ _)),λy c e=>by
    rcases look e with ⟨_,_,a⟩|a
    ·rw [a,hC];exact Nat.ne_of_gt (Nat.lt_of_lt_of_le (fpl b hb') (Nat.le_trans (Nat.le_succ _) (Nat.le_succ _)))
    ·exact (f2 b hb').2.2.2.2.1 y c (sub y c a)⟩
   bs:=I3.bs
   bsz:=Nat.le_trans I3.ok.bsz I3.sz
   noex:=λb o e hb'=>by
    have q:=(f2 b hb').2.2.2.1
    rcases q with q|q
    ·exact I3.ok.noex b o e q
    ·exact absurd (Nat.lt_of_lt_of_le (Heap.lt_size e) (Nat.le_trans I3.ok.bsz q)) (Nat.lt_irrefl _)
   exfs:=hb
   funs:=I3.stack
   frf:=I3.stkFree }
 have hlen:(gC js σ).length=(x::fvs).length:=by
  have e:=congrArg List.length hsc.slots
  simp only [List.length_map] at e
  simp [gC,e]
 have I4:Inv (X.blk x fvs scope { s2 with heap:=G,toks:=s2.toks } (upd H2 s2.heap.objs.size (.lst [])) G.objs.size fp) [] (gC js σ) (upd H2 s2.heap.objs.size (.lst [])) { s2 with heap:=h1,toks:=s2.toks }:=by
  refine ⟨ok,rfl,I3.bare,Un.kept up,⟨_,hns1,λi y v e1 e2 e3=>?_⟩,λy c e=>?_,nC,λy c e=>(look e).elim (λ⟨_,_,a⟩=>by rw [a];exact I3.hok.fresh (Nat.le_succ _)) λa=>I3.freeC y c (sub y c a),λp hp=>by simp [Cx.blk] at hp,I3.hok.kept up,hlen⟩
  ·cases i with
   | zero=>simp [gC] at e2
   | succ i =>
    have e1':fvs[i]?=some y:=e1
    have hm:y ∈ fvs:=List.mem_of_getElem? e1'
    have hfy:=hsc.free y hm
    have hmy:(y,NameKind.free) ∈ scope.names:=g7 hfy
    have e2':(js.map λj=>(σ[j]?).join)[i]?=some (some v):=by simpa [gC] using e2
    rw [List.getElem?_map] at e2'
    cases ej:js[i]? with
    | none=>rw [ej] at e2';cases e2'
    | some j =>
     rw [ej] at e2'
     have e3':(σ[j]?).join=some v:=Option.some.inj e2'
     have e4:σ[j]?=some (some v):=by
      cases q:σ[j]? with
      | none=>rw [q] at e3';cases e3'
      | some z=>rw [q] at e3';exact congrArg some e3'
     have e5:X.N[j]?=some y:=by
      have q:=congrArg (λl=>l[i]?) hsc.slots
      simp only [List.getElem?_map,ej,e1',Option.map_some] at q
      exact Option.some.inj q
     obtain ⟨m,hn,hl⟩:=I3.loc
     have hout:=hsc.out (y,.free) hmy rfl
     obtain ⟨u,ru,lk⟩:=hl j y v e5 e4 (.inr hout)
     refine ⟨u,ru,.inr ⟨?_,?_⟩⟩
     ·show (relabel scope X.env).names.lookup y=_ \/ (relabel scope X.env).names.lookup y=_
      exact rH (osc:=X.env.scope) hfy
     ·obtain ⟨c,ec⟩:=ix (env:=X.env) scope.names [] (.inl hmy)
      have nx:(y == x)=false:=beq_eq_false_iff_ne.mpr (hsc.xf _ hmy rfl)
      refine ⟨c,?_,?_⟩
      ·show (i7 scope x G.objs.size ++ eI X.env scope.names []).lookup y=some c
       unfold i7
       split
       ·rw [List.cons_append,List.lookup_cons,nx];exact ec
       ·exact ec
      rcases lk with ⟨z,_⟩|⟨_,c',ec',q⟩
      ·have z':X.env.scope.names.lookup y=some .local:=z
       rcases hout with w|w
       ·rw [show X.env.scope.names.lookup y=some .cell from w] at z';cases z'
       ·rw [show X.env.scope.names.lookup y=some .free from w] at z';cases z'
      ·have:=sub y c ec
       rw [ec'] at this
       cases this
       obtain ⟨o,ho,hd⟩:=q
       exact ⟨o,up _ _ ho,hd⟩
  ·rcases look e with ⟨_,q,a⟩|a
   ·exact ⟨none,by rw [a];exact hcl1 q⟩
   ·obtain ⟨v,o,ho,hd⟩:=I3.cell y c (sub y c a)
    exact ⟨v,o,up _ _ ho,hd⟩
 have st4:tn 0 h1:=T.keep 0 _ _ st2 λb hb o e=>up b o (by rw [<- hG];exact Heap.get?_push_of_some _ e)
 have fr4:∀ b ∈ fp,(upd H2 s2.heap.objs.size (.lst [])) b=none:=λb hb=>by
  rw [aW (Nat.ne_of_lt (fpl b hb))];exact (f2 b hb).1
 have stat:∀ {H':Hp},(∀ b ∈ fp,H' b=none)->∀ b ∈ fp,jA (X.blk x fvs scope { s2 with heap:=G,toks:=s2.toks } (upd H2 s2.heap.objs.size (.lst [])) G.objs.size fp) [] H' b:=λhn b hb =>
  ⟨hn b hb,(ok.exf b hb).1,ok.exfs b hb,.inl hb,(ok.exf b hb).2,λp hp=>by simp [Cx.blk] at hp⟩
 have hch:∀ b ∈ fp,(b ∈ X.ex \/ X.s₀.heap.objs.size <= b)/\b ≠ X.env.locals/\(∀ x c,X.env.cells.lookup x=some c->c ≠ b)/\∀ p ∈ X.pn ++ pins,p.1 ≠ b:=λb hb =>
  let ⟨_,q1,_,q2,q3,q4⟩:=f2 b hb;⟨q2,q1,q3,q4⟩
 have loop:∀ s5:Shared,s5={ s2 with heap:=h1,toks:=s2.toks } ->
   codeAny (model X.prog X.w) X.A (.compLoop (.ListComp elt [⟨.Name x px,iter,ifs,0⟩] scope pos) 0 (.ref it) (.ref s2.heap.objs.size) (compEnvC scope (i7 scope x G.objs.size ++ eI X.env scope.names []) G.objs.size X.env)) (RR (.ref s2.heap.objs.size) G.objs.size) s5:=by
  rintro s5 rfl
  refine rL (λn s'=>∃ i σ' H',Inv (X.blk x fvs scope { s2 with heap:=G,toks:=s2.toks } (upd H2 s2.heap.objs.size (.lst [])) G.objs.size fp) [] σ' H' s'/\tn i s'.heap/\(∀ b ∈ fp,H' b=none)/\W i n σ' H') ?_ m0 ⟨0,_,_,I4,st4,fr4,w0⟩
  rintro n s6 ⟨i,σ6,H6,I6,st6,fr6,w6⟩
  rcases turn i n σ6 H6 w6 with ⟨stop,qn⟩|⟨go,N,hN,step⟩
  ·refine thn (T.done (X.blk x fvs scope { s2 with heap:=G,toks:=s2.toks } (upd H2 s2.heap.objs.size (.lst [])) G.objs.size fp) rfl rfl rfl hc i [] s6 σ6 H6 _ I6 (stat fr6) st6 stop) λr s7 ⟨hr,I7⟩=>?_
   subst hr
   have I8:Inv X pins σ H6 s7:=I3.call' (ch:=fp) I7.os I7.base I7.hok I7.bare hch
   obtain ⟨m,hn,_⟩:=I7.loc
   exact fin _ _ H6 s7 I8 ⟨m,hn⟩ I7.free cL cS cC cP qn
  ·refine thn (T.item (X.blk x fvs scope { s2 with heap:=G,toks:=s2.toks } (upd H2 s2.heap.objs.size (.lst [])) G.objs.size fp) rfl rfl rfl hc i [] s6 σ6 H6 _ I6 (stat fr6) st6 go) λr s7 ⟨u,hr,h7⟩=>?_
   subst hr
   refine thn h7 λ_ s8 ⟨x8,H8,I8,r8,y8,st8,fr8⟩=>?_
   have I8':=I8.pinned (stat fr8) (T.obj _ _ st8)
   have pg:=mw (X:=X.blk x fvs scope { s2 with heap:=G,toks:=s2.toks } (upd H2 s2.heap.objs.size (.lst [])) G.objs.size fp) (i:=0) (x:=x) (pos:=px) hsc.nd rfl (hsc.once.elim (λq=>.inl (lookup_relabel_local q.1)) λq=>.inr (rK q.1)) (hsc.once.elim (λq=>.inr (lookup_relabel_local q.1)) λq=>.inl (decide_eq_true ⟨rfl,q.1⟩))
   refine thn (pg _ s8 σ6 H8 x8 u (λσ9 H9=>σ9=σ6.set 0 (some x8)/\H9=H8) I8' r8 ⟨rfl,rfl⟩) λ_ s9 ⟨σ9,H9,I9,e9,e9'⟩=>?_
   subst e9 e9'
   refine thn (ht _ _ _ _ _ s9 _ H9 _ I9 (step x8 H9 y8)) λok' s10 ⟨H10,I10,q10⟩=>?_
   have again:∀ {s11:Shared}{H11:Hp},Inv (X.blk x fvs scope { s2 with heap:=G,toks:=s2.toks } (upd H2 s2.heap.objs.size (.lst [])) G.objs.size fp) ([] ++ jS fp s8.heap) (σ6.set 0 (some x8)) H11 s11->N (σ6.set 0 (some x8)) H11 ->
     ∃ m,m < n/\∃ i σ' H',Inv (X.blk x fvs scope { s2 with heap:=G,toks:=s2.toks } (upd H2 s2.heap.objs.size (.lst [])) G.objs.size fp) [] σ' H' s11/\tn i s11.heap/\(∀ b ∈ fp,H' b=none)/\W i m σ' H':=λ{s11 H11} I11 n11=>by
    obtain ⟨m',hm,w11⟩:=hN _ H11 n11
    refine ⟨m',hm,i + 1,_,H11,I11.unpinned,T.keep _ _ _ st8 λb hb o e=>(I11.pin (b,o) (List.mem_append_right _ (List.mem_append_right _ (eY hb e)))).1,λb hb=>?_,w11⟩
    obtain ⟨o,e,d⟩:=T.obj _ _ st8 b hb
    exact (I11.pin (b,o) (List.mem_append_right _ (List.mem_append_right _ (eY hb e)))).2.1
   cases ok' with
   | false =>
    rw [if_neg (by simp)] at q10 ⊢
    exact again I10 q10
   | true =>
    rw [if_pos rfl] at q10 ⊢
    refine thn (he _ _ _ _ _ s10 _ H10 _ I10 q10) λy s11 ⟨yv,H11,I11,ry,ys,hys,hl,n11⟩=>?_
    refine thn (lE _ s11 _ H11 (.ref s2.heap.objs.size) [yv] (.ref s2.heap.objs.size) [y] (λ_ H12=>N (σ6.set 0 (some x8)) H12) I11 rfl (.cons ry .nil) ⟨_,ys,yv,rfl,rfl,hys,hl,n11⟩) λ_ s12 ⟨_,H12,I12,_,n12⟩=>again I12 n12
 exact codeAny_compStart_list (loop _ rfl) (T.self _ 0 _ _ _ st4 (loop _ rfl))
theorem wH (hsc:mI X.env.scope X.N scope x fvs js) (hc:X.calm=true) (hi:PI X (.Name x px) iter wi)
  (ht:∀ s₁ H₁ C fp,PF (X.blk x fvs scope s₁ H₁ C fp) ifs tt) (he:∀ s₁ H₁ C fp,PE (X.blk x fvs scope s₁ H₁ C fp) elt te)
  (hs:∀ v,foldedSetIterable iter X.env v=pure v:=by intro _;rfl):PE X (.ListComp elt [⟨.Name x px,iter,ifs,0⟩] scope pos) (tM wi js tt te):=by
 intro pins s σ H Q I h
 have fr:∀ y ∈ scope.names,y.2=.free->∃ c,X.env.cells.lookup y.1=some c:=λy hy hk=>I.ok.has y.1 (hsc.out y hy hk)
 rw [eval_ListComp]
 refine wpAny_comprehension_free (use:=none) rfl hs (j_ fr) hsc.kind hsc.names (thn (hi pins s σ H _ I h) λv s1 h1=>thn h1 λitv s2 h2=>?_)
 obtain ⟨it,fp,tn,J,H2,e,I2,T,st2,f2,hh⟩:=h2
 subst e
 refine lN (RR:=λacc C=>compPost (model X.prog X.w) X.A X.xe none (EP X pins σ Q) acc C) hsc hc ht he I2 T st2 f2 hh λD C H' s' I' hn nC cL cS cC cP q=>?_
 obtain ⟨m,hn⟩:=hn
 refine ⟨m,hn,λh' sb=>⟨.ref D,H',?_,rfl,q⟩⟩
 exact I'.turned (t':=s'.toks) (λb o hb e=>(sb.2 b hb).trans e) nC cL (.inr cS) cC cP
theorem pA {i:Nat}{y:Str}{py spos:Pos} (hN:X.N.Nodup) (hi':X.N[i]?=some y) (hy:Loc X.env.scope y) (hsc:mI X.env.scope X.N scope x fvs js) (hc:X.calm=true) (hi:PI X (.Name x px) iter wi)
  (ht:∀ s₁ H₁ C fp,PF (X.blk x fvs scope s₁ H₁ C fp) ifs tt) (he:∀ s₁ H₁ C fp,PE (X.blk x fvs scope s₁ H₁ C fp) elt te)
  (hsw:swapsWith (.ListComp elt [⟨.Name x px,iter,ifs,0⟩] scope pos) (some (.Name y py)) spos.line X.env=pure true:=by rfl)
  (hs:∀ v,foldedSetIterable iter X.env v=pure v:=by intro _;rfl) (hf:X.fn y=true \/ X.env.scope.names.lookup y=some .local:=by first|exact .inl rfl|exact .inr rfl|assumption) :
  PS X (.Assign [.Name y py] (.ListComp elt [⟨.Name x px,iter,ifs,0⟩] scope pos) spos) (sO (tM wi js tt te) (ii i)):=by
 intro pins s σ H D I h
 have fr:∀ y ∈ scope.names,y.2=.free->∃ c,X.env.cells.lookup y.1=some c:=λy hy hk=>I.ok.has y.1 (hsc.out y hy hk)
 rw [exec_Assign_Name_used _ _ _ _ hsw]
 refine wpAny_bind (wpAny_standAt (wpAny_bind ?_))
 show wpAny _ X.A (do let _ <- comprehension (.ListComp elt [⟨.Name x px,iter,ifs,0⟩] scope pos) scope X.env _ (newList []) false (eval iter X.env) (some (assign (.Name y py) X.env))) _ _ s
 refine wpAny_bind (thn (wpAny_comprehension_free (use:=some (assign (.Name y py) X.env)) (Q:=λ_ s'=>SP X pins D .next s') rfl hs (j_ fr) hsc.kind hsc.names (thn (hi pins s σ H _ I h) λv s1 h1=>thn h1 λitv s2 h2=>?_)) λ_ s' q=>?_)
 ·obtain ⟨it,fp,tn,J,H2,e,I2,T,st2,f2,hh⟩:=h2
  subst e
  refine lN (RR:=λacc C=>compPost (model X.prog X.w) X.A X.xe (some (assign (.Name y py) X.env)) (λ_ s'=>SP X pins D .next s') acc C) (Q:=λv H'=>ii i v σ H' D.nx) hsc hc ht he I2 T st2 f2 hh λD' C H' s' I' hn nC cL cS cC cP q=>?_
  obtain ⟨m,hn⟩:=hn
  show wpAny _ _ (assign (.Name y py) X.env (.ref D')) _ _ s'
  refine wpAny_assign_Name (lz I' hN hi' hy (v:=.ref D') rfl (λs'' I'' ⟨a,sb,ha⟩=>?_) hf)
  have ne:C ≠ a:=by
   rcases ha with z|z
   ·rw [z];exact cL
   ·exact λw=>cC y a z w.symm
  refine ⟨m,hn.sameBut sb ne,λh' sb'=>?_⟩
  exact ⟨_,H',I''.turned (t':=s''.toks) (λb o hb e=>(sb'.2 b hb).trans e) nC cL (.inr cS) cC cP,q⟩
 ·exact wpAny_pure (wpAny_pure q)
end
end L2
namespace L2
open PySem PySem.Spec PyProof.Rows
noncomputable abbrev pC (K:PySem.W.Frag) (H:Hp):List V->List (List Int)->Prop:=Paired λx ts=>∃ a,x=V.ref a/\SqT K H a (ts.map V.int)
theorem pC.len {K:PySem.W.Frag}{H:Hp}{xs:List V}{tss:List (List Int)} (h:pC K H xs tss):xs.length=tss.length:=Paired.length h
theorem ah {H:Hp}{p:Addr} (h:H p=none) (o:HO):af H (upd H p o):=λb u q=>by rw [aW (bx q h)];exact q
theorem af.seqT {K:PySem.W.Frag}{H H':Hp}{a:Addr}{xs:List V} (e:af H H') (h:SqT K H a xs):SqT K H' a xs:=by
 rcases h with (h|⟨o,h⟩)|h
 ·exact .inl (.inl (e _ _ h))
 ·exact .inl (.inr ⟨o,e _ _ h⟩)
 ·exact .inr h
section
variable {X:Cx}{pins:List (Addr × Obj)}{σ:St}{H:Hp}{s:Shared}
theorem Inv.laidD {h':Heap}{a:Addr}{o:HO}{t':Nat}{d':Drawn} (I:Inv X pins σ H s) (k:∀ b u,s.heap.get? b=some u->h'.get? b=some u) (hp:s.heap.objs.size <= a) (new:aV X.prog X.w (upd H a o) h' a o) :
  Inv X pins σ (upd H a o) { s with heap:=h',toks:=t',drawn:=d' } :=
 I.call (g':=s.gens) (d':=d') (t':=t') (ch:=[]) (Un.laid k hp (I.hok.fresh hp)) (I.hok.laid k hp new) I.bare λ_ z=>nomatch z
theorem Inv.tupInts {a:Addr}{ns:List Int} (I:Inv X pins σ H s) (h:SqT X.K H a (ns.map V.int)):∃ its:List Value,IsTup s.heap a its.toArray/\IntsAre its ns:=by
 obtain ⟨its,r,p,_⟩:=I.tuple h
 exact ⟨its,p,cv r⟩
theorem Inv.tupsAt (I:Inv X pins σ H s):∀ {xs:List V}{us:List Value}{tss:List (List Int)},pC X.K H xs tss->ar xs us->Paired (λu ts=>∃ a its,u=Value.ref a/\IsTup s.heap a its/\IntsAre its.toList ts) us tss
 | _,_,_,.nil,.nil=>.nil
 | _,_,_,.cons ⟨a,e1,e2⟩ t,.cons r q=>by
  obtain ⟨its,p,hi⟩:=I.tupInts e2
  rw [e1] at r
  exact .cons ⟨a,its.toArray,r,p,by simpa using hi⟩ (I.tupsAt t q)
end
noncomputable def gT (P:Program) (w:World) (a:Addr) (ks:List Int):HO:=.ext λh=>St.bw P w h a ks
theorem nR {P:Program}{w:World}{H:Hp}{h:Heap}{a:Addr}{ks:List Int} (g:St.bw P w h a ks):aV P w H h a (gT P w a ks):=by
 obtain ⟨o,es,ep,t,ho,r⟩:=id g
 exact ⟨g,⟨o,ho⟩,λh1 h2 g1 k=>g1.at k⟩
theorem Inv.set {X:Cx}{pins:List (Addr × Obj)}{σ:St}{H:Hp}{s:Shared}{a:Addr}{ks:List Int} (I:Inv X pins σ H s) (h:H a=some (gT X.prog X.w a ks)):St.bw X.prog X.w s.heap a ks :=
 (show aV X.prog X.w H s.heap a (gT X.prog X.w a ks) from I.hok a _ h).1
section
variable {X:Cx}
theorem tN (hc:X.calm=true):bp X (.type "set") (λxs H Q=>∃ (p:Addr) (ns:List Int),xs=[.ref p]/\(SqL X.K H p (ns.map V.int) \/ SqT X.K H p (ns.map V.int))/\ns.length <= 1000/\∀ l:Addr,H l=none->Q (.ref l) (upd H l (gT X.prog X.w l (St.dd ns.reverse)))):=by
 intro pins s σ H xs us Q I r h
 obtain ⟨p,ns,rfl,hq,hz,q⟩:=h
 obtain ⟨u,rfl,rx⟩:=dj r
 cases rx
 have hh:=I.ok.hd hc
 rcases hq with hq|hq
 ·obtain ⟨its,r',pl,_⟩:=I.list hq
  have hi:=cv r'
  have hl:=hi.length
  refine St.set_list hh pl.isList (ns:=ns) (by simpa using hi) (by simp;unfold scanBound;omega) λh' tk g kp=>?_
  exact ⟨.ref s.heap.objs.size,_,I.laidD (d':=s.drawn) kp (Nat.le_refl _) (nR g),rfl,q _ (I.hok.fresh (Nat.le_refl _))⟩
 ·obtain ⟨its,r',pl,_⟩:=I.tuple hq
  have hi:=cv r'
  have hl:=hi.length
  refine St.rE hh (show s.heap.IsTuple p its.toArray from pl) (ns:=ns) (by simpa using hi) (by simp;unfold scanBound;omega) λh' tk g kp=>?_
  exact ⟨.ref s.heap.objs.size,_,I.laidD (d':=s.drawn) kp (Nat.le_refl _) (nR g),rfl,q _ (I.hok.fresh (Nat.le_refl _))⟩
end
namespace Srt
noncomputable def sortI (l:List Int):List Int:=fJ cN l
noncomputable def sortT (l:List (List Int)):List (List Int):=fJ cw l
noncomputable def leT (a b:List Int):Prop:=HT.lexLt b a=false
theorem sortI_perm (l:List Int):(sortI l).Perm l:=dL cN l
theorem sortT_perm (l:List (List Int)):(sortT l).Perm l:=dL cw l
theorem sortI_len (l:List Int):(sortI l).length=l.length:=(sortI_perm l).length_eq
theorem sortT_len (l:List (List Int)):(sortT l).length=l.length:=(sortT_perm l).length_eq
theorem sortT_rises (l:List (List Int)):(sortT l).Pairwise leT:=c_ cw l
theorem sortT_of_perm {a b:List (List Int)} (p:a.Perm b):sortT a=sortT b:=gI cw p
theorem sortI_of_perm {a b:List Int} (p:a.Perm b):sortI a=sortI b:=gI cN p
theorem wI {a b:Int}:cN.kle a b ↔ a <= b:=by
 show decide (b < a)=false ↔ a <= b
 rw [decide_eq_false_iff_not]
 omega
theorem sortI_rises (l:List Int):(sortI l).Pairwise (· <= ·):=(c_ cN l).imp λh=>wI.mp h
section
variable {P:Program}{w:World}{A:Around}{E:Value->Shared->Prop}{s:Shared}
theorem nS {ks ns:List Int} (hp:ns.Perm ks) (hs:ns.Pairwise (· <= ·)):ns=sortI ks:=by
 refine j4 cN hp (hs.imp λ{a b} h=>?_)
 show decide (b < a)=false
 exact decide_eq_false (by omega)
theorem kf {x:Value}{ks:List Int}{Q:Value->Shared->Prop} (h64:ks.length < 64)
  (hcol:∀ (Q':List Value->Shared->Prop),(∀ (h':Heap) (tk:Nat) (d':Drawn) (acc:List Value) (order:List Int),(∀ b o,s.heap.get? b=some o->h'.get? b=some o)->order.Perm ks->IntsAre acc order->Q' acc { s with heap:=h',toks:=tk,drawn:=d' }) ->
   wpAny (model P w) A.in1 (collect x) Q' E s)
  (h:∀ (h1 h':Heap) (tk:Nat) (d':Drawn) (out:List Value) (c:Nat),(∀ b o,s.heap.get? b=some o->h1.get? b=some o)->(∀ b o,h1.get? b=some o->h'.get? b=some o)->h'.get? h1.objs.size=some { cls:=.type "list",data:=.seq out.toArray c } ->
   IntsAre out (sortI ks)->Q (.ref h1.objs.size) { s with heap:=h',toks:=tk,drawn:=d' }) :
  wpAny (model P w) A (call (.builtin "sorted") [x]) Q E s:=by
 refine Calls.call_function_entry kind_sorted plain_sorted entry_sorted (args_sorted1 _) ?_
 unfold Builtin.«sorted»
 refine wpAny_bind (m:=checkCount "sorted" 1 1 _) (wpAny_pure ?_)
 refine wpAny_bind (hcol _ λh1 tk d1 acc order kp hp hi=>?_)
 have hla:acc.length=order.length:=hi.length
 have hlo:order.length=ks.length:=hp.length_eq
 refine wpAny_bind (wpAny_newList ?_ (by rw [sizeLine_eq];omega))
 have hoL:(h1.push (seqObj "list" acc.toArray 0)).get? h1.objs.size=some (seqObj "list" acc.toArray 0):=Heap.get?_push_size _ rfl
 refine wpAny_bind (wpAny_holding (wpAny_call_entry slot_list_sort ⟨_,hoL,rfl⟩ entry_list_sort (list_sort_tree hoL hi (by omega) λout ns' hi' hp' hs'=>⟨_,rfl,?_⟩) (args_list_sort _)))
 obtain ⟨c,hc⟩:=sortedHeap_at (out:=out) (vs:=acc) hoL
 refine wpAny_pure ⟨_,rfl,h h1 _ tk d1 out.toList c kp (λb o e=>?_) ?_ ?_⟩
 ·have hb:b < h1.objs.size:=Heap.lt_size e
  rw [sortedHeap_old (Nat.ne_of_lt hb) (by rw [Heap.size_push];exact Nat.lt_succ_of_lt hb)]
  exact Heap.get?_push_of_some _ e
 ·rw [Array.toArray_toList];exact hc
 ·rw [<- nS (hp'.trans hp) hs'];exact hi'
theorem kg {x:Value}{vs:List Value}{tss:List (List Int)}{Q:Value->Shared->Prop} (h64:vs.length < 64) (hu:A.units + 2 < cLine)
  (hv:Paired (λu ts=>∃ a its,u=Value.ref a/\IsTup s.heap a its/\IntsAre its.toList ts) vs tss)
  (hcol:∀ (Q':List Value->Shared->Prop),(∀ (h':Heap),(∀ b o,s.heap.get? b=some o->h'.get? b=some o)->Q' vs { s with heap:=h' })->wpAny (model P w) A.in1 (collect x) Q' E s)
  (h:∀ (h1 h':Heap) (p:Array Nat) (c:Nat),(∀ b o,s.heap.get? b=some o->h1.get? b=some o)->(∀ b o,h1.get? b=some o->h'.get? b=some o)->h'.get? h1.objs.size=some { cls:=.type "list",data:=.seq (p.toList.map λi=>vs.getD i Value.none).toArray c } ->
   PB vs.length p->p.toList.map (λi=>tss.getD i [])=sortT tss->Q (.ref h1.objs.size) { s with heap:=h' }) :
  wpAny (model P w) A (call (.builtin "sorted") [x]) Q E s:=by
 have hlen:vs.length=tss.length:=Paired.length hv
 refine Calls.call_function_entry kind_sorted plain_sorted entry_sorted (args_sorted1 _) ?_
 unfold Builtin.«sorted»
 refine wpAny_bind (m:=checkCount "sorted" 1 1 _) (wpAny_pure ?_)
 refine wpAny_bind (hcol _ λh1 kp=>?_)
 refine wpAny_bind (wpAny_newList ?_ (by rw [sizeLine_eq];omega))
 have hoL:(h1.push (seqObj "list" vs.toArray 0)).get? h1.objs.size=some (seqObj "list" vs.toArray 0):=Heap.get?_push_size _ rfl
 have at_:∀ (s':Shared),(∀ b o,b ≠ h1.objs.size->(h1.push (seqObj "list" vs.toArray 0)).get? b=some o->s'.heap.get? b=some o)->∀ i,i < vs.length->∃ a its,vs.getD i Value.none=.ref a/\IsTup s'.heap a its/\IntsAre its.toList (tss.getD i []):=λs' k i hi=>by
  have gen:∀ {us:List Value}{uss:List (List Int)},Paired (λu ts=>∃ a its,u=Value.ref a/\IsTup s.heap a its/\IntsAre its.toList ts) us uss->∀ i,i < us.length->∃ a its,us.getD i Value.none=.ref a/\IsTup s.heap a its/\IntsAre its.toList (uss.getD i []):=by
   intro us uss hp
   induction hp with
   | nil=>intro i hi;simp at hi
   | cons q _ ih =>
    intro i hi
    cases i with
    | zero=>obtain ⟨a,its,e,r⟩:=q;exact ⟨a,its,by simpa using e,by simpa using r⟩
    | succ i=>obtain ⟨a,its,e,r⟩:=ih i (by simpa using hi);exact ⟨a,its,by simpa using e,by simpa using r⟩
  obtain ⟨a,its,e,⟨o,ho,r⟩,hin⟩:=gen hv i hi
  have ho1:=kp a o ho
  exact ⟨a,its,e,⟨o,k a o (Nat.ne_of_lt (Heap.lt_size ho1)) (Heap.get?_push_of_some _ ho1),r⟩,hin⟩
 refine wpAny_bind (wpAny_holding (wpAny_call_entry slot_list_sort ⟨_,hoL,rfl⟩ entry_list_sort (iq (O:=cw) (key:=λi=>tss.getD i []) hoL h64 (λh2 s' Q' k q=>lJ h2 (λv hm=>?_) q) (λκ hκ s' i j C k hi hj q=>?_) λp hp hr=>⟨_,rfl,?_⟩) (args_list_sort _)))
 ·obtain ⟨i,hi,e⟩:=List.getElem_of_mem hm
  obtain ⟨a,its,e',r1,r2⟩:=at_ s' k i hi
  exact ⟨a,its,_,by rw [<- e',<- e];simp [hi],r1,r2⟩
 ·obtain ⟨a,its,e,r1,r2⟩:=at_ s' k i hi
  obtain ⟨a',its',e',r1',r2'⟩:=at_ s' k j hj
  rw [e,e']
  exact qe hκ r1 r1' r2 r2' (show A.units + 1 + 1 < cLine from hu) q
 ·obtain ⟨c,hc⟩:=sortedHeap_at (out:=(p.toList.map λi=>vs.getD i Value.none).toArray) (vs:=vs) hoL
  have hp':PB tss.length p:=by rw [<- hlen];exact hp
  have hr':dJ (O:=cw) (λi=>tss.getD i []) p tss.length:=by rw [<- hlen];exact hr
  refine wpAny_pure ⟨_,rfl,h h1 _ p c kp (λb o e=>?_) hc hp (tH (O:=cw) (d:=([]:List Int)) (xs:=tss) hp' hr')⟩
  have hb:b < h1.objs.size:=Heap.lt_size e
  rw [sortedHeap_old (Nat.ne_of_lt hb) (by rw [Heap.size_push];exact Nat.lt_succ_of_lt hb)]
  exact Heap.get?_push_of_some _ e
end
end Srt
section
variable {X:Cx}
theorem Inv.keptD {pins:List (Addr × Obj)}{σ:St}{H:Hp}{s:Shared}{h':Heap}{t':Nat}{d':Drawn} (I:Inv X pins σ H s) (k:∀ b u,s.heap.get? b=some u->h'.get? b=some u):Inv X pins σ H { s with heap:=h',toks:=t',drawn:=d' } :=
 I.call (g':=s.gens) (d':=d') (t':=t') (ch:=[]) (Un.kept k) (I.hok.kept k) I.bare λ_ z=>nomatch z
theorem rM:∀ {vs:List Value}{ns:List Int},IntsAre vs ns->ar (ns.map V.int) vs:=iX
noncomputable def y_ (X:Cx):List V->Hp->VK->Prop:=λxs H Q=>∃ (p:Addr) (ks:List Int),xs=[.ref p]/\(SqL X.K H p (ks.map V.int) \/ SqT X.K H p (ks.map V.int) \/ H p=some (gT X.prog X.w p ks))/\ks.length < 64/\∀ l:Addr,H l=none->Q (.ref l) (upd H l (.lst ((Srt.sortI ks).map V.int)))
theorem iy (hc:X.calm=true):bp X (.builtin "sorted") (y_ X):=by
 intro pins s σ H xs us Q I r h
 obtain ⟨p,ks,rfl,hq,h64,q⟩:=h
 obtain ⟨u,rfl,rx⟩:=dj r
 cases rx
 have hh:=I.ok.hd hc
 refine Srt.kf (ks:=ks) h64 (λQ' hQ'=>?_) λh1 h' tk d' out c k1 k2 e hi=>?_
 ·rcases hq with hq|hq|hq
  ·obtain ⟨its,r',pl,hz⟩:=I.list hq
   obtain ⟨o,ho,hcl,n,hd⟩:=pl.isList
   refine wpAny_collect_seq p (.inl rfl) ho hcl hd (λh' kp=>?_) (by have:=r'.length;simp only [List.size_toArray] <;> omega)
   exact hQ' h' s.toks s.drawn _ ks kp (.refl _) (by simpa using cv r')
  ·obtain ⟨its,r',pl,hz⟩:=I.tuple hq
   obtain ⟨o,ho,hcl,n,hd⟩:=pl
   refine wpAny_collect_seq p (.inr rfl) ho hcl hd (λh' kp=>?_) (by have:=r'.length;simp only [List.size_toArray] <;> omega)
   exact hQ' h' s.toks s.drawn _ ks kp (.refl _) (by simpa using cv r')
  ·exact St.nQ (by first|exact hh|simpa using hh) (I.set hq) λh' tk d' acc order kp hp hi=>hQ' h' tk d' acc order kp hp hi
 ·have I1:Inv X pins σ H { s with heap:=h1,toks:=tk,drawn:=d' }:=I.keptD k1
  have I2:Inv X pins σ (upd H h1.objs.size (.lst ((Srt.sortI ks).map V.int))) { s with heap:=h',toks:=tk,drawn:=d' } :=
   I1.laid (t':=tk) k2 (Nat.le_refl _) (show aV X.prog X.w _ h' _ (.lst _) from ⟨by rw [List.length_map,Srt.sortI_len,sizeLine_eq];omega,out,c,rM hi,e⟩)
  exact ⟨.ref h1.objs.size,_,I2,rfl,q _ (I1.hok.fresh (Nat.le_refl _))⟩
noncomputable def za (X:Cx):List V->Hp->VK->Prop:=λxs H Q=>∃ (p:Addr) (vs:List V) (tss:List (List Int)),xs=[.ref p]/\(SqL X.K H p vs \/ SqT X.K H p vs)/\pC X.K H vs tss/\tss.length < 64 /\
 ∀ (l:Addr) (pm:List Nat),H l=none->(∀ i ∈ pm,i < vs.length)->pm.map (λi=>tss.getD i [])=Srt.sortT tss->Q (.ref l) (upd H l (.lst (pm.map λi=>vs.getD i .non)))
theorem lO {vs:List V}{us:List Value} (h:ar vs us):∀ (l:List Nat),(∀ i ∈ l,i < vs.length)->ar (l.map λi=>vs.getD i .non) (l.map λi=>us.getD i Value.none)
 | [],_=>.nil
 | i::l,hl=>by
  have hi:=hl i (.head _)
  obtain ⟨u,e1,e2⟩:=h.get (i:=i) (x:=vs[i]) (List.getElem?_eq_getElem hi)
  refine .cons ?_ (lO h l λj hj=>hl j (.tail _ hj))
  have q1:vs.getD i .non=vs[i]:=by simp [hi]
  have q2:us.getD i Value.none=u:=by rw [List.getD_eq_getElem?_getD,e1];rfl
  show aq (vs.getD i V.non) (us.getD i Value.none)
  rw [q1,q2];exact e2
theorem mJ (hu:X.A.units + 64 < cLine):bp X (.builtin "sorted") (za X):=by
 intro pins s σ H xs us Q I r h
 obtain ⟨p,vs,tss,rfl,hq,ht,h64,q⟩:=h
 obtain ⟨u,rfl,rx⟩:=dj r
 cases rx
 have key:∀ (its:List Value),ar vs its->vs.length <= sizeLine->(∀ (Q':List Value->Shared->Prop),(∀ (h':Heap),(∀ b o,s.heap.get? b=some o->h'.get? b=some o)->Q' its { s with heap:=h' })->wpAny (model X.prog X.w) X.A.in1 (collect (.ref p)) Q' X.xe s) ->
   wpAny (model X.prog X.w) X.A (call (.builtin "sorted") [.ref p]) (EP X pins σ Q) X.xe s:=λits r' hz hcol=>by
  have hl:=r'.length
  have hl2:=ht.len
  refine Srt.kg (vs:=its) (tss:=tss) (by omega) (by omega) (I.tupsAt ht r') hcol λh1 h' pm c k1 k2 e hp ho=>?_
  have hpl:∀ i ∈ pm.toList,i < vs.length:=λi hi=>by
   have:=(Array.perm_iff_toList_perm.mp hp).mem_iff.mp hi
   have:=List.mem_range.mp (by simpa using this)
   omega
  have I1:Inv X pins σ H { s with heap:=h1 }:=I.kept (t':=s.toks) k1
  have I2:Inv X pins σ (upd H h1.objs.size (.lst (pm.toList.map λi=>vs.getD i .non))) { s with heap:=h' } :=
   I1.laid (t':=s.toks) k2 (Nat.le_refl _) (show aV X.prog X.w _ h' _ (.lst _) from ⟨by have:=hp.size;rw [List.length_map,Array.length_toList,sizeLine_eq];omega,_,c,lO r' _ hpl,e⟩)
  exact ⟨.ref h1.objs.size,_,I2,rfl,q _ pm.toList (I1.hok.fresh (Nat.le_refl _)) hpl ho⟩
 rcases hq with hq|hq
 ·obtain ⟨its,r',pl,hz⟩:=I.list hq
  obtain ⟨o,ho,hcl,n,hd⟩:=pl.isList
  refine key its r' hz λQ' hQ'=>wpAny_collect_seq p (.inl rfl) ho hcl hd (λh' kp=>?_) (by have:=r'.length;simp only [List.size_toArray] <;> omega)
  have:=hQ' h' kp
  simpa using this
 ·obtain ⟨its,r',pl,hz⟩:=I.tuple hq
  obtain ⟨o,ho,hcl,n,hd⟩:=pl
  refine key its r' hz λQ' hQ'=>wpAny_collect_seq p (.inr rfl) ho hcl hd (λh' kp=>?_) (by have:=r'.length;simp only [List.size_toArray] <;> omega)
  have:=hQ' h' kp
  simpa using this
end
end L2
namespace L2.St
open PySem PyProof.Rows
structure be (P:Program) (w:World) (h:Heap) (a:Addr) (ks:List Int) (o:Obj) (es:Array (Int × Value)) (ep:Nat) (t:SetTable):Prop where
 ho:h.get? a=some o
 ex:o.ExactSet
 hd:o.data=.set es ep t
 el:ElemsOf (intKind P w) es.toList
 pm:(es.toList.map λe=>numOf e.2).Perm ks
 nd:ks.Nodup
 bd:es.size < scanBound
 fi:t.fits es.size=true
theorem bw.w {P:Program}{w:World}{h:Heap}{a:Addr}{ks:List Int} (g:bw P w h a ks):∃ o es ep t,be P w h a ks o es ep t/\Gd (!byT w) t:=by
 obtain ⟨o,es,ep,t,ho,hex,hd,hel,hp,hn,hb,hf,hg⟩:=g
 exact ⟨o,es,ep,t,⟨ho,hex,hd,hel,hp,hn,hb,hf⟩,hg⟩
theorem be.len {P:Program}{w:World}{h:Heap}{a:Addr}{ks:List Int}{o:Obj}{es:Array (Int × Value)}{ep:Nat}{t:SetTable} (g:be P w h a ks o es ep t):es.size=ks.length:=by
 have:=g.pm.length_eq;simpa using this
theorem be.at {P:Program}{w:World}{h h':Heap}{a:Addr}{ks:List Int}{o:Obj}{es:Array (Int × Value)}{ep:Nat}{t:SetTable} (g:be P w h a ks o es ep t) (k:∀ o,h.get? a=some o->h'.get? a=some o):be P w h' a ks o es ep t :=
 ⟨k o g.ho,g.ex,g.hd,g.el,g.pm,g.nd,g.bd,g.fi⟩
section
variable {P:Program}{w:World}{A:Around}{E:Value->Shared->Prop}{s:Shared}
variable {a:Addr}{ks:List Int}{o:Obj}{es:Array (Int × Value)}{ep:Nat}{t:SetTable}
theorem tO (g:be P w s.heap a ks o es ep t) (hl:t.led=!byT w) {Q:Array (Int × Value)->Shared->Prop} (h:∀ es' d',es'.toList.Perm es.toList->Q es' { s with drawn:=d' }):wpAny (model P w) A (setWalk a) Q E s:=by
 unfold setWalk
 refine wpAny_bind (wpAny_setState_of g.ho g.hd g.fi ?_)
 dsimp only
 refine wpAny_bind (bY ?_)
 cases hb:byT w with
 | true =>
  rw [if_pos rfl]
  refine wpAny_bind (wpAny_askSetting (wpAny_pure ?_))
  exact h _ s.drawn (i5 _ _)
 | false =>
  rw [if_neg (by simp)]
  refine wpAny_ite_split (λ_=>?_) (λ_=>?_)
  ·refine wpAny_bind (e_ es.size es.toList s (by simp) λys d' hp=>?_)
   exact wpAny_pure (h _ d' (by simpa using hp))
  ·refine wpAny_bind ?_
   rw [hb] at hl
   show wpAny _ _ (if (!t.led&&decide (es.size > 1))=true then _ else _) _ _ s
   rw [if_neg (by rw [hl];simp)]
   exact wpAny_pure (wpAny_pure (h es s.drawn (.refl _)))
theorem qj:∀ (sets:List Addr),(∀ b ∈ sets,∃ ks o es ep t,be P w s.heap b ks o es ep t)->∀ {Q:Bool->Shared->Prop},Q true s->wpAny (model P w) A (setsQuiet sets) Q E s:=by
 intro sets hs Q hq
 unfold setsQuiet
 refine wpAny_bind (wpAny_forIn_list _ (λbb b s'=>(∀ c ∈ bb,c ∈ sets)/\b.1=none/\s'=s) _ ?_ ?_ sets _ ⟨λc hc=>hc,rfl,rfl⟩)
 ·rintro c bb b s' ⟨hc,hb,rfl⟩
  obtain ⟨ks,o,es,ep,t,g⟩:=hs c (hc c (.head _))
  refine wpAny_bind (wpAny_setEntries_of g.ho g.hd g.fi ?_)
  refine wpAny_bind (wpAny_forIn_array' _ (λbb b s''=>(∀ e ∈ bb,e ∈ es.toList)/\b.1=none/\s''=s') _ ?_ ?_ es _ ⟨λe he=>he,rfl,rfl⟩)
  ·rintro e rest' b' s'' ⟨he,hb',rfl⟩
   obtain ⟨t',q⟩:=dC g.el e (he e (.head _))
   obtain ⟨hx,x⟩:=e
   dsimp only at q ⊢
   rw [q]
   exact wpAny_pure ⟨λe' he'=>he e' (.tail _ he'),rfl,rfl⟩
  ·rintro b' s'' ⟨_,hb',rfl⟩
   dsimp only
   rw [hb']
   exact wpAny_pure ⟨λc' hc'=>hc c' (.tail _ hc'),rfl,rfl⟩
 ·rintro b s' ⟨_,hb,rfl⟩
  dsimp only
  rw [hb]
  exact wpAny_pure hq
theorem tP (g:be P w s.heap a ks o es ep t) (hl:t.led=!byT w) {others:List Addr} (hs:∀ b ∈ others,∃ ks o es ep t,be P w s.heap b ks o es ep t) {Q:Array (Int × Value)->Shared->Prop}
  (h:∀ es' d',es'.toList.Perm es.toList->Q es' { s with drawn:=d' }):wpAny (model P w) A (setWalkUnseen a others none) Q E s:=by
 unfold setWalkUnseen
 refine wpAny_bind (wpAny_setState_of g.ho g.hd g.fi ?_)
 dsimp only
 refine wpAny_bind (bY ?_)
 refine wpAny_ite_split (λ_=>?_) (λ_=>?_)
 ·exact tO g hl h
 ·refine wpAny_bind (qj (a::others) (λb hb=>?_) ?_)
  ·rcases List.mem_cons.mp hb with rfl|hb
   ·exact ⟨_,_,_,_,_,g⟩
   ·exact hs b hb
  ·simp only [Bool.not_true,Bool.false_eq_true,if_false]
   refine wpAny_bind (wpAny_rule ?_)
   exact wpAny_pure (h es s.drawn (.refl _))
theorem tQ (g:be P w s.heap a ks o es ep t) (hl:t.led=!byT w) {others:List Addr} (hs:∀ b ∈ others,∃ ks o es ep t,be P w s.heap b ks o es ep t) {f:Addr} (hf:bw P w s.heap f []) {Q:Array (Int × Value)->Shared->Prop}
  (h:∀ es' d' h',es'.toList.Perm es.toList->Heap.SameBut f s.heap h'->bw P w h' f []->Q es' { s with drawn:=d',heap:=h' }):wpAny (model P w) A (setWalkUnseen a others (some f)) Q E s:=by
 unfold setWalkUnseen
 refine wpAny_bind (wpAny_setState_of g.ho g.hd g.fi ?_)
 dsimp only
 refine wpAny_bind (bY ?_)
 refine wpAny_ite_split (λ_=>?_) (λ_=>?_)
 ·exact tO g hl λes' d' hp=>h es' d' s.heap hp (Heap.SameBut.refl f s.heap) hf
 ·refine wpAny_bind (qj (a::others) (λb hb=>?_) ?_)
  ·rcases List.mem_cons.mp hb with rfl|hb
   ·exact ⟨_,_,_,_,_,g⟩
   ·exact hs b hb
  ·simp only [Bool.not_true,Bool.false_eq_true,if_false]
   refine wpAny_bind (wpAny_rule ?_)
   obtain ⟨of,ef,epf,tf,gf,gd⟩:=hf.w
   refine wpAny_bind (wpAny_setState_of gf.ho gf.hd gf.fi ?_)
   dsimp only
   refine wpAny_ite_split (λ_=>?_) (λ_=>?_)
   ·have hfi:({ tf with led:=tf.led&&t.led,plain:=tf.plain&&t.plain }:SetTable).fits ef.size=true:=gf.fi
    have hgd:Gd (!byT w) ({ tf with led:=tf.led&&t.led,plain:=tf.plain&&t.plain }:SetTable):=⟨by show (tf.led&&t.led)=_;rw [gd.led,hl];simp,gd.dum,gd.rise⟩
    refine wpAny_bind (wpAny_storeSet_of gf.ho gf.hd ?_ (fits_of_scanBound gf.bd))
    have g2:=qf (P:=P) (w:=w) gf.ho gf.ex gf.hd ⟨gf.el,gf.pm,gf.nd,gf.bd,hfi,hgd⟩
    exact wpAny_pure (h es s.drawn _ (.refl _) (Heap.SameBut.update _ f _) g2)
   ·exact wpAny_pure (h es s.drawn s.heap (.refl _) (Heap.SameBut.refl f s.heap) hf)
theorem tR (g:be P w s.heap a ks o es ep t) {k:Int}{tk:Tok}{Q:Option Nat->Shared->Prop} (h:Q (es.toList.findIdx? λe=>(intKind P w).is k e.2) s):wpAny (model P w) A (setFind a (.int k tk) (hashInt k)) Q E s:=by
 have hkey:(intKind P w).is k (.int k tk)=true:=intKind_is _ _ _ _
 have hsc:(Value.int k tk).scannable=true:=rfl
 unfold setFind setFindIn
 refine wpAny_bind (wpAny_setState_of g.ho g.hd g.fi ?_)
 dsimp only
 rw [byScan_of hsc g.bd g.el]
 simp only [↓reduceIte]
 refine wpAny_bind (wpAny_rule ?_)
 refine wpAny_bind (wpAny_setScan_of (knd:=intKind P w) hkey g.ho g.hd g.fi g.el ?_)
 cases hr:List.findIdx? (λe=>(intKind P w).is k e.2) es.toList with
 | some j =>
  rw [hr] at h
  dsimp only
  rw [Nat.zero_add]
  exact wpAny_pure h
 | none =>
  rw [hr] at h
  exact wpAny_pure h
theorem be.mem (g:be P w s.heap a ks o es ep t) {k:Int}:k ∈ ks ↔ ∃ e ∈ es.toList,(intKind P w).is k e.2=true:=by
 rw [<- g.pm.mem_iff,List.mem_map]
 constructor
 ·rintro ⟨e,he,q⟩;exact ⟨e,he,(g5 g.el he k).mpr q⟩
 ·rintro ⟨e,he,q⟩;exact ⟨e,he,(g5 g.el he k).mp q⟩
theorem nT (g:be P w s.heap a ks o es ep t) (k:Int):(es.toList.findIdx? λe=>(intKind P w).is k e.2).isSome=decide (k ∈ ks):=by
 rw [Bool.eq_iff_iff,decide_eq_true_iff,g.mem,List.findIdx?_isSome,List.any_eq_true]
end
end L2.St
namespace L2.St
open PySem PyProof.Rows
section
variable {P:Program}{w:World}{A:Around}{E:Value->Shared->Prop}{s:Shared}
theorem be.type {a:Addr}{ks:List Int}{o:Obj}{es:Array (Int × Value)}{ep:Nat}{t:SetTable} (g:be P w s.heap a ks o es ep t):s.TypeIs (.ref a) "set":=⟨o,g.ho,g.ex.1⟩
theorem iz {a:Addr} (hT:s.TypeIs (.ref a) "set") {Q:Bool->Shared->Prop} (h:Q true s):wpAny (model P w) A (Builtin.Frozenset.isAnySet (.ref a)) Q E s:=by
 unfold Builtin.Frozenset.isAnySet
 refine wpAny_bind (wpAny_isInstance (T:="set") (b:=true) hT F.sub_set_set ?_)
 exact wpAny_pure h
theorem nU {a:Addr} (hT:s.TypeIs (.ref a) "set") {Q:Value->Shared->Prop} (h:Q (.type "set") s):wpAny (model P w) A (Builtin.Frozenset.baseOf a) Q E s:=by
 unfold Builtin.Frozenset.baseOf
 refine wpAny_bind (wpAny_isInstance (T:="set") (b:=true) hT F.sub_set_set ?_)
 exact wpAny_pure h
theorem eJ {a:Addr}{ks:List Int}{o:Obj}{es:Array (Int × Value)}{ep:Nat}{t:SetTable} (g:be P w s.heap a ks o es ep t) {Q:Nat->Shared->Prop} (h:Q ks.length s):wpAny (model P w) A (Builtin.Frozenset.sizeOf a) Q E s:=by
 unfold Builtin.Frozenset.sizeOf
 refine wpAny_bind (wpAny_setEntries_of g.ho g.hd g.fi ?_)
 rw [<- g.len] at h
 exact wpAny_pure h
theorem zb {id:String}{a:Addr}{ks:List Int}{o:Obj}{es:Array (Int × Value)}{ep:Nat}{t:SetTable} (g:be P w s.heap a ks o es ep t) {α:Type}{x:α}{R:α->Shared->Prop} (h:R x s):wpAny (model P w) A (Builtin.Frozenset.unchanged id a ep >>= λ_=>pure x) R E s:=by
 unfold Builtin.Frozenset.unchanged
 refine wpAny_bind (wpAny_bind (wpAny_setEpoch_of g.ho g.hd g.fi ?_))
 simp only [bne_self_eq_false,Bool.false_eq_true,if_false]
 exact wpAny_pure (wpAny_pure h)
theorem zc {id:String}{a b:Addr}{ks js:List Int}{Q:Value->Shared->Prop} (ga:bw P w s.heap a ks) (gb:bw P w s.heap b js) (hsz:¬ ks.length / 4 > js.length)
  (h:∀ h' d' ls,(∀ c o,s.heap.get? c=some o->h'.get? c=some o)->ls.Perm (ks.filter λk=>!decide (k ∈ js))->bw P w h' s.heap.objs.size ls->Q (.ref s.heap.objs.size) { s with heap:=h',drawn:=d' }) :
  wpAny (model P w) A (Builtin.Frozenset.difference id a (.ref b)) Q E s:=by
 obtain ⟨oa,ea,epa,ta,wa,gda⟩:=ga.w
 obtain ⟨ob,eb,epb,tb,wb,gdb⟩:=gb.w
 unfold Builtin.Frozenset.difference
 refine wpAny_bind (iz wb.type ?_)
 simp only [Bool.not_true,Bool.false_eq_true,if_false,Bool.false_and,if_true,Builtin.Frozenset.addrOf,pure_bind]
 refine wpAny_bind (eJ wb ?_)
 refine wpAny_bind (eJ wa ?_)
 rw [if_neg hsz]
 refine wpAny_bind (nU wa.type ?_)
 refine wpAny_bind (mG ?_)
 have keep:∀ c o,s.heap.get? c=some o->(s.heap.push (aI w)).get? c=some o:=λc o e=>Heap.get?_push_of_some _ e
 have wa1:=wa.at (keep a)
 have wb1:=wb.at (keep b)
 have gn:bw P w (s.heap.push (aI w)) s.heap.objs.size []:=nM _
 have ha:a ≠ s.heap.objs.size:=Nat.ne_of_lt (Heap.lt_size wa.ho)
 have hb:b ≠ s.heap.objs.size:=Nat.ne_of_lt (Heap.lt_size wb.ho)
 refine wpAny_bind (wpAny_pure ?_)
 refine wpAny_bind (wpAny_setEpoch_of (s:={ s with heap:=s.heap.push (aI w) }) wa1.ho wa1.hd wa1.fi ?_)
 refine wpAny_bind (wpAny_holding ?_)
 refine wpAny_bind (tQ (s:={ s with heap:=s.heap.push (aI w) }) wa1 gda.led (others:=[b,s.heap.objs.size]) (λc hc=>?_) gn λes' d0 h0 hp sb0 g0=>?_)
 ·rcases List.mem_cons.mp hc with rfl|hc
  ·exact ⟨_,_,_,_,_,wb1⟩
  ·rw [List.mem_singleton.mp hc]
   obtain ⟨_,_,_,_,q,_⟩:=gn.w
   exact ⟨_,_,_,_,_,q⟩
 have hel:ElemsOf (intKind P w) es'.toList:=wa.el.perm hp
 have hK:(es'.toList.map λe=>numOf e.2).Perm ks:=(hp.map _).trans wa.pm
 have hKn:(es'.toList.map λe=>numOf e.2).Nodup:=hK.nodup_iff.mpr wa.nd
 refine wpAny_bind (wpAny_forIn_array' _ (λbb _ s'=>∃ dn h' d' ls,dn ++ bb=es'.toList/\s'={ s with heap:=h',drawn:=d' }/\Heap.SameBut s.heap.objs.size (s.heap.push (aI w)) h'/\bw P w h' s.heap.objs.size ls/\ls.Perm ((dn.map λe:Int × Value=>numOf e.2).filter λk=>!decide (k ∈ js))) _ ?_ ?_ es' _ ⟨[],h0,d0,[],rfl,rfl,sb0,g0,by simp⟩)
 ·rintro ⟨hx,x⟩ bb u s' ⟨dn,h',d',ls,e1,rfl,sb,gl,pl⟩
  have hmem:(hx,x) ∈ es'.toList:=by rw [<- e1];simp
  obtain ⟨t',q⟩:=dC hel _ hmem
  obtain ⟨⟨k0,hk0,hh0⟩,_⟩:=hel _ hmem
  have hk1:=(g5 hel hmem k0).mp hk0
  dsimp only at q hk1 hh0
  generalize numOf x=k at q hk1
  subst q hk1
  have hh0:hx=hashInt k:=hh0
  subst hh0
  have keep':∀ c o,c ≠ s.heap.objs.size->s.heap.get? c=some o->h'.get? c=some o:=λc o hc e=>(sb.2 c hc).trans (keep c o e)
  have wa2:be P w h' a ks oa ea epa ta:=wa.at λo e=>keep' a o ha e
  have wb2:be P w h' b js ob eb epb tb:=wb.at λo e=>keep' b o hb e
  dsimp only
  have hks:numOf (Value.int k t')=k:=rfl
  have hnk:k ∉ ls:=λz=>by
   have:=pl.mem_iff.mp z
   have:=(List.mem_filter.mp this).1
   rw [<- e1,List.map_append,List.map_cons] at hKn
   exact (List.nodup_append.mp hKn).2.2 k this k (by rw [hks];exact .head _) rfl
  refine wpAny_bind (wpAny_holding ?_)
  refine wpAny_bind (tR (s:={ s with heap:=h',drawn:=d' }) wb2 ?_)
  rw [nT (s:={ s with heap:=h',drawn:=d' }) wb2 k]
  by_cases hj:k ∈ js
  ·simp only [hj,decide_true,Bool.not_true,Bool.false_eq_true,if_false]
   refine wpAny_pure (zb (s:={ s with heap:=h',drawn:=d' }) wa2 ⟨dn ++ [(hashInt k,Value.int k t')],h',d',ls,by rw [List.append_assoc];exact e1,rfl,sb,gl,?_⟩)
   rw [List.map_append,List.filter_append]
   simpa [hks,hj] using pl
  ·simp only [hj,decide_false,Bool.not_false,if_true]
   have hroom:ls.length + 1 < scanBound:=by
    have h1:=pl.length_eq
    have h2:=List.length_filter_le (λk=>!decide (k ∈ js)) (dn.map λe:Int × Value=>numOf e.2)
    rw [List.length_map] at h2
    have h3:es'.toList.length < scanBound:=by rw [hp.length_eq,Array.length_toList];exact wa.bd
    rw [<- e1,List.length_append,List.length_cons] at h3
    omega
   refine wpAny_bind (lK (s:={ s with heap:=h',drawn:=d' }) gl hroom λh'' b' sb2 g2=>?_)
   rw [if_neg hnk] at g2
   have wa3:be P w h'' a ks oa ea epa ta:=wa2.at λo e=>(sb2.2 a ha).trans e
   refine wpAny_pure (zb (s:={ s with heap:=h'',drawn:=d' }) wa3 ⟨dn ++ [(hashInt k,Value.int k t')],h'',d',k::ls,by rw [List.append_assoc];exact e1,rfl,sb.trans sb2,g2,?_⟩)
   rw [List.map_append,List.filter_append]
   have:List.filter (λk=>!decide (k ∈ js)) (List.map (λe:Int × Value=>numOf e.2) [(hashInt k,Value.int k t')])=[k]:=by simp [hks,hj]
   rw [this]
   exact (List.Perm.cons k pl).trans (List.perm_append_comm (l₁:=[k]))
 ·rintro u s' ⟨dn,h',d',ls,e1,rfl,sb,gl,pl⟩
  rw [List.append_nil] at e1
  subst e1
  refine wpAny_pure (wpAny_pure (h h' d' ls (λc o e=>?_) (pl.trans (hK.filter _)) gl))
  exact (sb.2 c (Nat.ne_of_lt (Heap.lt_size e))).trans (keep c o e)
end
end L2.St
namespace L2.St
open PySem PyProof.Rows
noncomputable def itL (m:Nat):Nat->Nat->Nat
 | 0,i=>i
 | t + 1,i=>itL m t ((i * 5 + 1) % (m + 1))
theorem mK (m:Nat):∀ (a b i:Nat),itL m (a + b) i=itL m b (itL m a i)
 | 0,b,i=>by rw [Nat.zero_add];rfl
 | a + 1,b,i=>by rw [Nat.add_right_comm];exact mK m a b _
noncomputable def da (m:Nat):Bool:=itL m (m + 1) 0 == 0&&(List.range (m + 1)).all λj=>(List.range (m + 1)).any λt=>itL m t 0 == j
theorem qk {m:Nat} (h:itL m (m + 1) 0=0):∀ (q r:Nat),itL m (q * (m + 1) + r) 0=itL m r 0
 | 0,r=>by simp
 | q + 1,r=>by
  have e:(q + 1) * (m + 1) + r=(m + 1) + (q * (m + 1) + r):=by rw [Nat.succ_mul];omega
  rw [e,mK,h,qk h q r]
theorem cov {m:Nat} (h:da m=true) {i j:Nat} (hi:i <= m) (hj:j <= m):∃ t,t <= m/\itL m t i=j:=by
 unfold da at h
 rw [Bool.and_eq_true,beq_iff_eq,List.all_eq_true] at h
 obtain ⟨h0,h1⟩:=h
 have at_:∀ x,x <= m->∃ t,t <= m/\itL m t 0=x:=λx hx=>by
  have:=h1 x (List.mem_range.mpr (by omega))
  rw [List.any_eq_true] at this
  obtain ⟨t,ht,e⟩:=this
  exact ⟨t,by have:=List.mem_range.mp ht;omega,by simpa using e⟩
 obtain ⟨a,ha,ea⟩:=at_ i hi
 obtain ⟨b,hb,eb⟩:=at_ j hj
 refine ⟨(b + (m + 1) - a) % (m + 1),by have:=Nat.mod_lt (b + (m + 1) - a) (show 0 < m + 1 by omega);omega,?_⟩
 have e2:itL m ((b + (m + 1) - a) % (m + 1)) i=itL m (a + (b + (m + 1) - a) % (m + 1)) 0:=by rw [mK,ea]
 rw [e2,<- eb]
 by_cases c:a <= b
 ·have:(b + (m + 1) - a) % (m + 1)=b - a:=by
   have:b + (m + 1) - a=(b - a) + (m + 1):=by omega
   rw [this,Nat.add_mod_right,Nat.mod_eq_of_lt (by omega)]
  rw [this]
  congr 1;omega
 ·have:(b + (m + 1) - a) % (m + 1)=b + (m + 1) - a:=Nat.mod_eq_of_lt (by omega)
  rw [this]
  have e3:a + (b + (m + 1) - a)=1 * (m + 1) + b:=by omega
  rw [e3,qk h0]
theorem tU:da 7=true:=by decide +kernel
theorem zd:da 15=true:=by decide +kernel
theorem ze:da 31=true:=by decide +kernel
theorem zf:da 63=true:=by decide +kernel
theorem wJ:da 127=true:=by decide +kernel
theorem wK:da 255=true:=by decide +kernel
noncomputable def lp (m:Nat):Nat->Nat × Nat->Nat × Nat
 | 0,p=>p
 | t + 1,p=>lp m t (SetTable.leap m p.1 p.2)
theorem mL (m:Nat):∀ (a b:Nat) (p:Nat × Nat),lp m (a + b) p=lp m b (lp m a p)
 | 0,b,p=>by rw [Nat.zero_add];rfl
 | a + 1,b,p=>by rw [Nat.add_right_comm];exact mL m a b _
theorem mM (m:Nat):∀ (t i:Nat),lp m t (i,0)=(itL m t i,0)
 | 0,_=>rfl
 | t + 1,i=>by
  show lp m t (SetTable.leap m i 0)=_
  have:SetTable.leap m i 0=((i * 5 + 1) % (m + 1),0):=by simp [SetTable.leap]
  rw [this,mM m t]
  rfl
theorem xV (m:Nat):∀ (t:Nat) (p:Nat × Nat),p.1 <= m->(lp m t p).1 <= m
 | 0,_,h=>h
 | t + 1,p,_=>xV m t _ (by
  show (p.1 * 5 + 1 + p.2 / 32) % (m + 1) <= m
  have:=Nat.mod_lt (p.1 * 5 + 1 + p.2 / 32) (show 0 < m + 1 by omega);omega)
theorem mN (m:Nat):∀ (t:Nat) (p:Nat × Nat),(lp m t p).2=p.2 / 32 ^ t
 | 0,p=>by simp [lp]
 | t + 1,p=>by
  show (lp m t (SetTable.leap m p.1 p.2)).2=_
  rw [mN m t]
  show p.2 / 32 / 32 ^ t=_
  rw [Nat.div_div_eq_div_mul,Nat.pow_succ,Nat.mul_comm]
theorem lP {m:Nat}{ow:Array (Option Nat)}:∀ (fuel i p:Nat),SetTable.layClean.free m ow fuel i p=none->∀ t,t < fuel->(ow.getD (lp m t (i,p)).1 (some 0)).isNone=false
 | 0,_,_,_,t,h=>absurd h (by omega)
 | fuel + 1,i,p,e,t,h=>by
  rw [SetTable.layClean.free] at e
  split at e
  ·cases e
  ·rename_i q
   cases t with
   | zero =>
    have:=List.find?_eq_none.mp q 0 (List.mem_range.mpr (by unfold SetTable.runEnd;split <;> omega))
    exact (Bool.not_eq_true _).mp this
   | succ t=>exact lP fuel _ _ e t (by omega)
theorem i8 {m:Nat}{ow:Array (Option Nat)}:∀ (fuel i p k:Nat),SetTable.layClean.free m ow fuel i p=some k->(ow.getD k (some 0)).isNone=true
 | 0,_,_,_,e=>by cases e
 | fuel + 1,i,p,k,e=>by
  rw [SetTable.layClean.free] at e
  split at e
  ·rename_i q
   cases e
   exact List.find?_some (p:=λk=>(ow.getD (i + k) (some 0)).isNone) q
  ·exact i8 fuel _ _ k e
theorem wL {m:Nat} (hg:da m=true) {ow:Array (Option Nat)}{j i p:Nat} (hj:j <= m) (hn:(ow.getD j (some 0)).isNone=true) (hi:i <= m) (hp:p < 2 ^ 64):∃ k,SetTable.layClean.free m ow (SetTable.turns m) i p=some k/\(ow.getD k (some 0)).isNone=true:=by
 cases e:SetTable.layClean.free m ow (SetTable.turns m) i p with
 | some k=>exact ⟨k,rfl,i8 _ _ _ _ e⟩
 | none =>
  exfalso
  have q:=lP _ _ _ e
  obtain ⟨t,ht,et⟩:=cov hg (xV m 13 (i,p) hi) hj
  have z:(lp m 13 (i,p)).2=0:=by
   rw [mN]
   exact Nat.div_eq_of_lt (Nat.lt_of_lt_of_le hp (by decide))
  have e13:lp m 13 (i,p)=((lp m 13 (i,p)).1,0):=by rw [<- z]
  have:=q (13 + t) (by unfold SetTable.turns;omega)
  rw [mL,e13,mM,et] at this
  rw [hn] at this
  cases this
noncomputable def vals (m:Nat) (ow:Array (Option Nat)):List Nat:=(List.range (m + 1)).filterMap λj=>ow.getD j none
theorem tV {g g':Nat->Option Nat}{j k:Nat} (h1:g j=none) (h2:g' j=some k) (h3:∀ x,x ≠ j->g' x=g x):∀ l:List Nat,l.Nodup->j ∈ l->(l.filterMap g').Perm (k::l.filterMap g)
 | [],_,h=>by cases h
 | x::l,hn,h=>by
  obtain ⟨n1,n2⟩:=List.nodup_cons.mp hn
  by_cases e:x=j
  ·subst e
   rw [List.filterMap_cons_none h1,List.filterMap_cons_some h2]
   have:∀ l':List Nat,x ∉ l'->l'.filterMap g'=l'.filterMap g:=by
    intro l'
    induction l' with
    | nil=>intro _;rfl
    | cons y l' ih =>
     intro hx
     have hy:y ≠ x:=λz=>hx (z ▸ .head _)
     rw [List.filterMap_cons,List.filterMap_cons,h3 y hy,ih λz=>hx (.tail _ z)]
   rw [this l n1]
  ·have hm:j ∈ l:=(List.mem_cons.mp h).resolve_left λz=>e z.symm
   have ih:=tV h1 h2 h3 l n2 hm
   cases q:g x with
   | none =>
    rw [List.filterMap_cons_none q,List.filterMap_cons_none ((h3 x e).trans q)]
    exact ih
   | some v =>
    rw [List.filterMap_cons_some q,List.filterMap_cons_some ((h3 x e).trans q)]
    exact (List.Perm.cons v ih).trans (List.Perm.swap k v _)
theorem tX {g:Nat->Option Nat}:∀ l:List Nat,(∀ x ∈ l,g x ≠ none)->(l.filterMap g).length=l.length
 | [],_=>rfl
 | x::l,h=>by
  cases q:g x with
  | none=>exact absurd q (h x (.head _))
  | some v =>
   rw [List.filterMap_cons_some q,List.length_cons,List.length_cons,tX l λy hy=>h y (.tail _ hy)]
theorem tY {m:Nat}{ow:Array (Option Nat)} (hs:ow.size=m + 1) (h:(vals m ow).length <= m):∃ j,j <= m/\(ow.getD j (some 0)).isNone=true:=by
 cases Classical.em (∃ j,j <= m/\ow.getD j none=none) with
 | inl q =>
  obtain ⟨j,hj,e⟩:=q
  refine ⟨j,hj,?_⟩
  have hj':j < ow.size:=by omega
  simp [Array.getD,hj'] at e ⊢
  exact e
 | inr q =>
  have:=tX (g:=λj=>ow.getD j none) (List.range (m + 1)) λx hx z=>q ⟨x,by have:=List.mem_range.mp hx;omega,z⟩
  unfold vals at h
  rw [this,List.length_range] at h
  omega
noncomputable abbrev rN (m:Nat):Option (Array (Option Nat) × Nat)->Int->Option (Array (Option Nat) × Nat):=λacc h=>do
  let (owner,k) <- acc
  let j <- SetTable.layClean.free m owner (SetTable.turns m) (SetTable.bits h % (m + 1)) (SetTable.bits h)
  pure (owner.setIfInBounds j (some k),k + 1)
theorem wM (h:Int):SetTable.bits h < 2 ^ 64:=by
 unfold SetTable.bits
 have h1:0 <= h % (2 ^ 64:Int):=Int.emod_nonneg _ (by decide)
 have h2:h % (2 ^ 64:Int) < 2 ^ 64:=Int.emod_lt_of_pos _ (by decide)
 omega
theorem tZ {m:Nat} (hg:da m=true):∀ (hs:List Int) (ow:Array (Option Nat)) (k:Nat),ow.size=m + 1->(vals m ow).Perm (List.range k)->k + hs.length <= m ->
  ∃ ow',hs.foldl (rN m) (some (ow,k))=some (ow',k + hs.length)/\ow'.size=m + 1/\(vals m ow').Perm (List.range (k + hs.length))
 | [],ow,k,h1,h2,_=>⟨ow,rfl,h1,h2⟩
 | h::hs,ow,k,h1,h2,h3=>by
  rw [List.length_cons] at h3
  have hl:=h2.length_eq
  rw [List.length_range] at hl
  obtain ⟨j0,hj0,hn0⟩:=tY h1 (by omega)
  obtain ⟨j,ej,hj⟩:=wL hg (ow:=ow) (i:=SetTable.bits h % (m + 1)) (p:=SetTable.bits h) hj0 hn0 (by have:=Nat.mod_lt (SetTable.bits h) (show 0 < m + 1 by omega);omega) (wM h)
  have hjs:j < ow.size:=by
   refine Decidable.byContradiction λz=>?_
   simp [Array.getD,z] at hj
  have e1:rN m (some (ow,k)) h=some (ow.setIfInBounds j (some k),k + 1):=by
   show (Option.bind (SetTable.layClean.free m ow (SetTable.turns m) (SetTable.bits h % (m + 1)) (SetTable.bits h)) _)=_
   rw [ej]
   rfl
  have hv:(vals m (ow.setIfInBounds j (some k))).Perm (List.range (k + 1)):=by
   refine (tV (g:=λj=>ow.getD j none) (j:=j) (k:=k) ?_ ?_ ?_ (List.range (m + 1)) List.nodup_range (List.mem_range.mpr (by omega))).trans ?_
   ·simp [Array.getD,hjs] at hj ⊢
    exact hj
   ·simp [Array.getD,hjs]
   ·intro x hx
    simp only [Array.getD_eq_getD_getElem?,Array.getElem?_setIfInBounds]
    rw [if_neg λz=>hx z.symm]
   ·rw [List.range_succ (n:=k)]
    exact (List.Perm.cons k h2).trans (List.perm_append_comm (l₁:=[k]))
  obtain ⟨ow',q1,q2,q3⟩:=tZ hg hs (ow.setIfInBounds j (some k)) (k + 1) (by rw [Array.size_setIfInBounds];exact h1) hv (by omega)
  refine ⟨ow',?_,q2,?_⟩
  ·rw [List.foldl_cons,e1,q1,List.length_cons]
   congr 2;omega
  ·rw [List.length_cons]
   have:k + (hs.length + 1)=k + 1 + hs.length:=by omega
   rw [this]
   exact q3
theorem mO {m:Nat} (hg:da m=true) {f mv:Nat}{led plain:Bool}{hs:Array Int} (h:hs.size <= m):∃ t order,SetTable.laid m f mv led plain hs=some (t,order)/\order.toList.Perm (List.range hs.size)/\t.place.size=hs.size/\t.mask=m/\t.dummies=#[]:=by
 have e0:(vals m (Array.replicate (m + 1) none)).Perm (List.range 0):=by
  have:vals m (Array.replicate (m + 1) none)=[]:=by
   unfold vals
   rw [List.filterMap_eq_nil_iff]
   intro x _
   simp [Array.getD]
  rw [this]
  simp
 obtain ⟨ow,e1,e2,e3⟩:=tZ hg hs.toList (Array.replicate (m + 1) none) 0 (by simp) e0 (by simpa using h)
 rw [Nat.zero_add,Array.length_toList] at e1 e3
 have ec:SetTable.layClean m hs=some ow:=by
  unfold SetTable.layClean
  rw [<- Array.foldl_toList]
  show Option.map _ (hs.toList.foldl (rN m) _)=_
  rw [e1]
  rfl
 have el:((List.range (m + 1)).filterMap λj=>(ow.getD j none).map (j,·)).map (·.2)=vals m ow:=by
  unfold vals
  rw [List.map_filterMap]
  congr 1
  funext j
  cases ow.getD j none <;> rfl
 refine ⟨_,_,by unfold SetTable.laid;rw [ec];rfl,?_,?_,rfl,rfl⟩
 ·show (List.map _ _).Perm _
  rw [el]
  exact e3
 ·show (List.map _ _).toArray.size=_
  rw [List.size_toArray,List.length_map]
  have:=congrArg List.length el
  rw [List.length_map] at this
  rw [this,e3.length_eq,List.length_range]
end L2.St
namespace L2.St
open PySem PyProof.Rows
theorem xW:∀ n,n < 241->(SetTable.sizeAbove n=8 \/ SetTable.sizeAbove n=16 \/ SetTable.sizeAbove n=32 \/ SetTable.sizeAbove n=64 \/ SetTable.sizeAbove n=128 \/ SetTable.sizeAbove n=256)/\n < SetTable.sizeAbove n:=by decide +kernel
theorem mP {n:Nat} (h:n < 241):da (SetTable.sizeAbove n - 1)=true/\n <= SetTable.sizeAbove n - 1/\SetTable.sizeAbove n <= 256:=by
 obtain ⟨h1,h2⟩:=xW n h
 refine ⟨?_,by omega,by omega⟩
 rcases h1 with e|e|e|e|e|e <;> rw [e]
 ·exact tU
 ·exact zd
 ·exact ze
 ·exact zf
 ·exact wJ
 ·exact wK
theorem kh {es:Array (Int × Value)}{order:Array Nat} (h:order.toList.Perm (List.range es.size)):(order.filterMap (es[·]?)).toList.Perm es.toList:=by
 rw [Array.toList_filterMap]
 refine (h.filterMap _).trans ?_
 have:=PySem.List.filterMap_getElem?_range_length es.toList
 rw [Array.length_toList] at this
 have e:(λi:Nat=>es[i]?)=λi:Nat=>es.toList[i]?:=by funext i;simp
 rw [e,this]
section
variable {P:Program}{w:World}{A:Around}{E:Value->Shared->Prop}{s:Shared}
variable {a:Addr}{ks:List Int}{o:Obj}{es:Array (Int × Value)}{ep:Nat}{t:SetTable}
theorem jH {h:Heap} (g:be P w h a ks o es ep t) {es':Array (Int × Value)}{t':SetTable}{ks':List Int} (hel:ElemsOf (intKind P w) es'.toList) (hp:(es'.toList.map λe=>numOf e.2).Perm ks') (hn:ks'.Nodup) (hb:es'.size < scanBound) (hf:t'.fits es'.size=true) :
  be P w (h.update a (Obj.putSet es' t')) a ks' { o with data:=.set es' (ep + 1) t' } es' (ep + 1) t':=by
 have hq:(h.update a (Obj.putSet es' t')).get? a=some { o with data:=.set es' (ep + 1) t' }:=by
  have:=Heap.get?_update_self (Obj.putSet es' t') g.ho (by rw [putSet_of es' t' g.hd];rfl)
  rw [putSet_of es' t' g.hd] at this;exact this
 exact ⟨hq,g.ex,rfl,hel,hp,hn,hb,hf⟩
theorem ql:(256:Nat) <= sizeLine:=by rw [sizeLine_eq];omega
theorem qm (g:be P w s.heap a ks o es ep t) {wanted:Nat} (hw:wanted < 241) (hn:es.size <= wanted) {Q:Unit->Shared->Prop}
  (h:∀ h' o' es' ep' t',Heap.SameBut a s.heap h'->be P w h' a ks o' es' ep' t'->t'.dummies=#[]->t'.mask=SetTable.sizeAbove wanted - 1->Q () { s with heap:=h' }):wpAny (model P w) A (setRelay a wanted) Q E s:=by
 obtain ⟨hg,hle,hz⟩:=mP hw
 unfold setRelay
 refine wpAny_bind (wpAny_setState_of g.ho g.hd g.fi ?_)
 dsimp only
 rw [if_neg (by have:=ql;omega)]
 obtain ⟨t',order,e1,e2,e3,e4,e5⟩:=mO hg (f:=t.finger) (mv:=t.movedTo (SetTable.sizeAbove wanted - 1)) (led:=t.led) (plain:=t.plain) (hs:=es.map (·.1)) (by rw [Array.size_map];omega)
 have e1':t.relaid (es.map (·.1)) wanted=some (t',order):=e1
 rw [Array.size_map] at e2 e3
 have hp:=kh e2
 have hsz:(order.filterMap (es[·]?)).size=es.size:=by rw [<- Array.length_toList,hp.length_eq,Array.length_toList]
 rw [e1']
 refine wpAny_bind (wpAny_of_eq (a:=(order.filterMap (es[·]?),t')) ?_ ?_)
 ·show (if ((order.filterMap (es[·]?)).size != es.size)=true then _ else _)=_
  rw [if_neg (by rw [hsz];simp)]
 ·dsimp only
  have hb':(order.filterMap (es[·]?)).size < scanBound:=by rw [hsz];exact g.bd
  have hf':t'.fits (order.filterMap (es[·]?)).size=true:=by
   have hfill:t'.fill=es.size:=by unfold SetTable.fill;rw [e5,e3];simp
   simp only [SetTable.fits,hfill,Bool.and_eq_true,beq_iff_eq,decide_eq_true_eq]
   exact ⟨by rw [e3,hsz],by omega⟩
  refine wpAny_storeSet_of g.ho g.hd ?_ (fits_of_scanBound hb')
  exact h _ _ _ _ _ (Heap.SameBut.update _ a _) (jH g (g.el.perm hp) ((hp.map _).trans g.pm) g.nd hb' hf') e5 e4
theorem zg (g:be P w s.heap a [] o es ep t) (hd:t.dummies=#[]) (h7:t.mask=7) {n:Nat} (hn:n <= 60) {Q:Unit->Shared->Prop}
  (h:∀ h' o' es' ep' t',Heap.SameBut a s.heap h'->be P w h' a [] o' es' ep' t'->t'.dummies=#[]->da t'.mask=true->n <= t'.mask->Q () { s with heap:=h' }):wpAny (model P w) A (setRoomFor a n) Q E s:=by
 have hz:es.size=0:=g.len
 have hpl:t.place.size=0:=by
  have:=g.fi
  simp only [SetTable.fits,Bool.and_eq_true,beq_iff_eq] at this
  omega
 have hfill:t.fill=0:=by unfold SetTable.fill;rw [hd,hpl];rfl
 unfold setRoomFor
 refine wpAny_bind (wpAny_setState_of g.ho g.hd g.fi ?_)
 have er:t.roomFor n=if (0 + n) * 5 >= 7 * 3 then some ((0 + n) * 2) else none:=by
  unfold SetTable.roomFor
  rw [hfill,hpl,h7]
 dsimp only
 rw [er]
 by_cases c:(0 + n) * 5 >= 7 * 3
 ·rw [if_pos c]
  dsimp only
  have hw:(0 + n) * 2 < 241:=by omega
  refine qm g hw (by omega) λh' o' es' ep' t' sb g' h1 h2=>?_
  obtain ⟨q1,q2,_⟩:=mP hw
  exact h h' o' es' ep' t' sb g' h1 (by rw [h2];exact q1) (by rw [h2];omega)
 ·rw [if_neg c]
  exact wpAny_pure (h s.heap o es ep t (Heap.SameBut.refl a s.heap) g hd (by rw [h7];exact tU) (by omega))
theorem zh (g:be P w s.heap a ks o es ep t) (h0:0 < ks.length) (hn:ks.length <= 60) {Q:Value->Shared->Prop}
  (h:∀ h' o' es' ep' t',(∀ c o,s.heap.get? c=some o->h'.get? c=some o)->be P w h' s.heap.objs.size ks o' es' ep' t'->Q (.ref s.heap.objs.size) { s with heap:=h' }):wpAny (model P w) A (Builtin.Frozenset.copyOf a) Q E s:=by
 have keep:∀ c o,s.heap.get? c=some o->(s.heap.push (aI w)).get? c=some o:=λc o e=>Heap.get?_push_of_some _ e
 have ha:a ≠ s.heap.objs.size:=Nat.ne_of_lt (Heap.lt_size g.ho)
 unfold Builtin.Frozenset.copyOf
 refine wpAny_bind (nU g.type ?_)
 refine wpAny_bind (mG ?_)
 simp only [Builtin.Frozenset.addrOf,pure_bind]
 have g1:be P w (s.heap.push (aI w)) s.heap.objs.size [] (aI w) #[] 0 (.fresh 0 0 (!byT w)):=⟨Heap.get?_push_size _ rfl,⟨rfl,rfl,rfl⟩,rfl,λe he=>by simp at he,by simp,List.nodup_nil,by decide,by rfl⟩
 have hne:(s.heap.objs.size == a)=false:=by simpa using λz=>ha z.symm
 have ga:=g.at (keep a)
 have hes:es.isEmpty=false:=by
  have:=g.len
  rw [Array.isEmpty_eq_false_iff]
  intro z
  rw [z] at this
  simp at this
  omega
 unfold setMerge
 rw [hne]
 simp only [Bool.false_eq_true,if_false,bind_assoc]
 refine wpAny_bind (wpAny_setState_of (s:={ s with heap:=s.heap.push (aI w) }) ga.ho ga.hd ga.fi ?_)
 simp only [hes,Bool.false_eq_true,if_false,bind_assoc]
 refine wpAny_bind (zg (s:={ s with heap:=s.heap.push (aI w) }) g1 rfl rfl (n:=es.size) (by have:=g.len;omega) λh' o' es' ep' t' sb g' hd hm hle=>?_)
 have fin:∀ h' o' es' ep' t',Heap.SameBut s.heap.objs.size (s.heap.push (aI w)) h'->be P w h' s.heap.objs.size ks o' es' ep' t'->Q (.ref s.heap.objs.size) { s with heap:=h' }:=λh' o' es' ep' t' sb g' =>
  h h' o' es' ep' t' (λc o e=>(sb.2 c (Nat.ne_of_lt (Heap.lt_size e))).trans (keep c o e)) g'
 refine wpAny_bind (wpAny_setState_of (s:={ s with heap:=h' }) g'.ho g'.hd g'.fi ?_)
 have hz:es'.size=0:=g'.len
 have hpl:t'.place.size=0:=by
  have:=g'.fi
  simp only [SetTable.fits,Bool.and_eq_true,beq_iff_eq] at this
  omega
 have hfill:t'.fill=0:=by unfold SetTable.fill;rw [hd,hpl];rfl
 have hroad:t'.road t=if (t'.mask == t.mask&&t.dummies.isEmpty)=true then .slotForSlot else .clean:=by
  unfold SetTable.road
  rw [hfill]
  rfl
 dsimp only
 rw [hroad]
 by_cases c:(t'.mask == t.mask&&t.dummies.isEmpty)=true
 ·rw [if_pos c]
  dsimp only
  refine wpAny_bind (wpAny_storeSet_of (s:={ s with heap:=h' }) g'.ho g'.hd ?_ (fits_of_scanBound g.bd))
  refine wpAny_pure (fin _ _ _ _ _ (sb.trans (Heap.SameBut.update _ _ _)) (jH g' g.el g.pm g.nd g.bd ?_))
  exact g.fi
 ·rw [if_neg c]
  dsimp only
  obtain ⟨t2,order,e1,e2,e3,e4,e5⟩:=mO hm (f:=t'.finger) (mv:=t'.moves) (led:=t'.led&&t.led) (plain:=t'.plain&&t.plain) (hs:=es.map (·.1)) (by rw [Array.size_map];have:=g.len;omega)
  rw [Array.size_map] at e2 e3
  have hp:=kh e2
  have hsz:(order.filterMap (es[·]?)).size=es.size:=by rw [<- Array.length_toList,hp.length_eq,Array.length_toList]
  have hb':(order.filterMap (es[·]?)).size < scanBound:=by rw [hsz];exact g.bd
  rw [e1]
  simp only [bind_assoc]
  refine wpAny_bind (wpAny_of_eq (a:=(order.filterMap (es[·]?),t2)) ?_ ?_)
  ·show (if ((order.filterMap (es[·]?)).size != es.size)=true then _ else _)=_
   rw [if_neg (by rw [hsz];simp)]
  ·dsimp only
   have hf':t2.fits (order.filterMap (es[·]?)).size=true:=by
    have hfill:t2.fill=es.size:=by unfold SetTable.fill;rw [e5,e3];simp
    simp only [SetTable.fits,hfill,Bool.and_eq_true,beq_iff_eq,decide_eq_true_eq]
    have:=g.len
    exact ⟨by rw [e3,hsz],by omega⟩
   refine wpAny_bind (wpAny_storeSet_of (s:={ s with heap:=h' }) g'.ho g'.hd ?_ (fits_of_scanBound hb'))
   exact wpAny_pure (fin _ _ _ _ _ (sb.trans (Heap.SameBut.update _ _ _)) (jH g' (g.el.perm hp) ((hp.map _).trans g.pm) g.nd hb' hf'))
end
end L2.St
namespace L2.St
open PySem PyProof.Rows
section
variable {P:Program}{w:World}{A:Around}{E:Value->Shared->Prop}{s:Shared}
variable {a:Addr}{ks:List Int}{o:Obj}{es:Array (Int × Value)}{ep:Nat}{t:SetTable}
theorem dw {α:Type} (xs:Array α) (i:Nat):(SetTable.eraseAt xs i).toList=xs.toList.eraseIdx i:=by
 unfold SetTable.eraseAt
 rw [Array.toList_append,Array.toList_extract,Array.toList_extract,List.eraseIdx_eq_take_drop_succ,List.extract_eq_take_drop,List.extract_eq_take_drop]
 simp
 exact List.take_of_length_le (by simp)
theorem rO (g:be P w s.heap a ks o es ep t) {k:Int}{tk:Tok}{Q:Bool->Shared->Prop}
  (h:∀ b h' o' es' ep' t',Heap.SameBut a s.heap h'->be P w h' a (ks.filter λx=>!decide (x=k)) o' es' ep' t'->Q b { s with heap:=h' }):wpAny (model P w) A (setDiscardHashed a (.int k tk) (hashInt k)) Q E s:=by
 unfold setDiscardHashed
 refine wpAny_bind (tR g ?_)
 cases hr:List.findIdx? (λe=>(intKind P w).is k e.2) es.toList with
 | none =>
  have hk:k ∉ ks:=λz=>by
   have:=nT (s:=s) g k
   rw [hr] at this
   simp [z] at this
  have e:ks.filter (λx=>!decide (x=k))=ks:=List.filter_eq_self.mpr λx hx=>by
   have:x ≠ k:=λz=>hk (z ▸ hx)
   simpa using this
  have e2:s={ s with heap:=s.heap }:=by cases s;rfl
  rw [e] at h
  have:=h false s.heap o es ep t (Heap.SameBut.refl a s.heap) g
  exact wpAny_pure this
 | some i =>
  obtain ⟨hi,hpi,_⟩:=List.findIdx?_eq_some_iff_getElem.mp hr
  dsimp only
  refine wpAny_bind (wpAny_setState_of g.ho g.hd g.fi ?_)
  dsimp only
  have hnum:numOf (es.toList[i]).2=k:=(g5 g.el (List.getElem_mem hi) k).mp hpi
  have hpe:=eZ (List.getElem?_eq_getElem hi)
  have hsz:(SetTable.eraseAt es i).size=es.size - 1:=by
   rw [<- Array.length_toList,dw,List.length_eraseIdx_of_lt hi,Array.length_toList]
  have hi2:i < es.size:=by simpa using hi
  have hb':(SetTable.eraseAt es i).size < scanBound:=by rw [hsz];have:=g.bd;omega
  have hfi:=g.fi
  simp only [SetTable.fits,Bool.and_eq_true,beq_iff_eq,decide_eq_true_eq] at hfi
  have hip:i < t.place.size:=by omega
  have hf':(t.drop i).fits (SetTable.eraseAt es i).size=true:=by
   have ed:t.drop i={ t with place:=SetTable.eraseAt t.place i,dummies:=SetTable.insertAt t.dummies (SetTable.below t.dummies (t.place[i])) (t.place[i]) }:=by
    unfold SetTable.drop
    rw [Array.getElem?_eq_getElem hip]
   rw [ed]
   have h1:(SetTable.eraseAt t.place i).size=t.place.size - 1:=by
    rw [<- Array.length_toList,dw,List.length_eraseIdx_of_lt (by simpa using hip),Array.length_toList]
   have h2:(SetTable.insertAt t.dummies (SetTable.below t.dummies (t.place[i])) (t.place[i])).size <= t.dummies.size + 1:=by
    unfold SetTable.insertAt
    rw [Array.size_append,Array.size_push,Array.size_extract,Array.size_extract]
    omega
   have h3:(⟨t.mask,SetTable.eraseAt t.place i,SetTable.insertAt t.dummies (SetTable.below t.dummies (t.place[i])) (t.place[i]),t.finger,t.led,t.moves,t.plain⟩:SetTable).fill <= t.mask:=by
    show (SetTable.eraseAt t.place i).size + (SetTable.insertAt t.dummies (SetTable.below t.dummies (t.place[i])) (t.place[i])).size <= t.mask
    have:t.place.size + t.dummies.size <= t.mask:=hfi.2
    omega
   simp only [SetTable.fits,Bool.and_eq_true,beq_iff_eq,decide_eq_true_eq]
   exact ⟨by rw [h1,hsz,hfi.1],h3⟩
  have hel':ElemsOf (intKind P w) (SetTable.eraseAt es i).toList:=λe he=>g.el e (by rw [dw] at he;exact List.mem_of_mem_eraseIdx he)
  have hpm':((SetTable.eraseAt es i).toList.map λe=>numOf e.2).Perm (ks.filter λx=>!decide (x=k)):=by
   rw [dw]
   have h1:(k::(es.toList.eraseIdx i).map λe=>numOf e.2).Perm ks:=by
    have:=(hpe.map λe=>numOf e.2).trans g.pm
    rwa [List.map_cons,hnum] at this
   have h2:=h1.nodup_iff.mpr g.nd
   obtain ⟨n1,_⟩:=List.nodup_cons.mp h2
   have h3:=h1.filter λx=>!decide (x=k)
   rw [List.filter_cons_of_neg (by simp)] at h3
   refine List.Perm.trans (List.Perm.of_eq ?_) h3
   refine (List.filter_eq_self.mpr λx hx=>?_).symm
   have:x ≠ k:=λz=>n1 (z ▸ hx)
   simpa using this
  refine wpAny_bind (wpAny_storeSet_of g.ho g.hd ?_ (fits_of_scanBound hb'))
  refine wpAny_bind (wpAny_point ?_)
  exact wpAny_pure (h true _ _ _ _ _ (Heap.SameBut.update _ _ _) (jH g hel' hpm' (g.nd.filter _) hb' hf'))
theorem Bp {id:String}{r b:Addr}{js:List Int}{ob:Obj}{eb:Array (Int × Value)}{epb:Nat}{tb:SetTable} (g:be P w s.heap r ks o es ep t) (gb:be P w s.heap b js ob eb epb tb) (hl:tb.led=!byT w) (hrb:b ≠ r) (hsz:¬ js.length / 8 > ks.length) (hn:ks.length <= 60) {Q:Unit->Shared->Prop}
  (h:∀ h' d' o' es' ep' t' ls,Heap.SameBut r s.heap h'->be P w h' r ls o' es' ep' t'->ls=(ks.filter λk=>!decide (k ∈ js))->Q () { s with heap:=h',drawn:=d' }):wpAny (model P w) A (Builtin.Frozenset.differenceUpdate id r (.ref b)) Q E s:=by
 unfold Builtin.Frozenset.differenceUpdate
 have hne:(Value.ref b == Value.ref r)=false:=by
  simpa using hrb
 rw [hne]
 simp only [Bool.false_eq_true,if_false]
 refine wpAny_bind (iz gb.type ?_)
 simp only [if_true,Builtin.Frozenset.addrOf,pure_bind]
 refine wpAny_bind (eJ gb ?_)
 refine wpAny_bind (eJ g ?_)
 rw [if_neg hsz]
 refine wpAny_bind (wpAny_setEpoch_of gb.ho gb.hd gb.fi ?_)
 refine wpAny_bind (wpAny_holding ?_)
 refine wpAny_bind (tP gb hl (others:=[r]) (λc hc=>?_) λes1 d0 hp=>?_)
 ·rw [List.mem_singleton.mp hc]
  exact ⟨_,_,_,_,_,g⟩
 have hel:ElemsOf (intKind P w) es1.toList:=gb.el.perm hp
 have hK:(es1.toList.map λe=>numOf e.2).Perm js:=(hp.map _).trans gb.pm
 refine wpAny_bind (wpAny_forIn_array' _ (λbb _ s'=>∃ dn h' d' o' es' ep' t',dn ++ bb=es1.toList/\s'={ s with heap:=h',drawn:=d' }/\Heap.SameBut r s.heap h'/\be P w h' r (ks.filter λk=>!decide (k ∈ dn.map λe:Int × Value=>numOf e.2)) o' es' ep' t') _ ?_ ?_ es1 _ ⟨[],s.heap,d0,o,es,ep,t,rfl,rfl,Heap.SameBut.refl r s.heap,by
  have:ks.filter (λk=>!decide (k ∈ ([]:List (Int × Value)).map λe=>numOf e.2))=ks:=List.filter_eq_self.mpr λx _=>by simp
  rw [this];exact g⟩)
 ·rintro ⟨hx,x⟩ bb u s' ⟨dn,h',d',o',es',ep',t',e1,rfl,sb,gl⟩
  have hmem:(hx,x) ∈ es1.toList:=by rw [<- e1];simp
  obtain ⟨t'',q⟩:=dC hel _ hmem
  obtain ⟨⟨k0,hk0,hh0⟩,_⟩:=hel _ hmem
  have hk1:=(g5 hel hmem k0).mp hk0
  dsimp only at q hk1 hh0
  generalize numOf x=k at q hk1
  subst q hk1
  have hh0:hx=hashInt k:=hh0
  subst hh0
  dsimp only
  refine wpAny_bind (wpAny_holding (rO (s:={ s with heap:=h',drawn:=d' }) gl λb' h2 o2 es2 ep2 t2 sb2 g2=>?_))
  have gb2:be P w h2 b js ob eb epb tb:=gb.at λo e=>(sb2.2 b hrb).trans ((sb.2 b hrb).trans e)
  refine zb (s:={ s with heap:=h2,drawn:=d' }) gb2 ⟨dn ++ [(hashInt k,Value.int k t'')],h2,d',o2,es2,ep2,t2,by rw [List.append_assoc];exact e1,rfl,sb.trans sb2,?_⟩
  have:(ks.filter λx=>!decide (x ∈ (dn ++ [(hashInt k,Value.int k t'')]).map λe:Int × Value=>numOf e.2))=(ks.filter λk=>!decide (k ∈ dn.map λe:Int × Value=>numOf e.2)).filter λx=>!decide (x=k):=by
   rw [List.filter_filter]
   congr 1
   funext x
   have hks:numOf (Value.int k t'')=k:=rfl
   rw [List.map_append,List.map_cons,List.map_nil,hks]
   by_cases h1:x=k <;> by_cases h2:x ∈ dn.map (λe:Int × Value=>numOf e.2) <;> simp [h1,h2]
  rw [this]
  exact g2
 ·rintro u s' ⟨dn,h',d',o',es',ep',t',e1,rfl,sb,gl⟩
  rw [List.append_nil] at e1
  subst e1
  have e3:(ks.filter λk=>!decide (k ∈ es1.toList.map λe:Int × Value=>numOf e.2))=ks.filter λk=>!decide (k ∈ js):=by
   congr 1
   funext k
   congr 1
   rw [decide_eq_decide]
   exact hK.mem_iff
  rw [e3] at gl
  refine wpAny_pure ?_
  unfold setTidy
  refine wpAny_bind (wpAny_setState_of (s:={ s with heap:=h',drawn:=d' }) gl.ho gl.hd gl.fi ?_)
  dsimp only
  refine wpAny_ite_split (λ_=>?_) (λ_=>?_)
  ·have hle:es'.size <= 60:=by
    rw [gl.len]
    exact Nat.le_trans (List.length_filter_le _ _) hn
   have hgr:SetTable.grown es'.size=es'.size * 4:=by unfold SetTable.grown;rw [if_neg (by omega)]
   rw [hgr]
   exact qm (s:={ s with heap:=h',drawn:=d' }) gl (by omega) (by omega) λh2 o2 es2 ep2 t2 sb2 g2 _ _=>h h2 d' o2 es2 ep2 t2 _ (sb.trans sb2) g2 rfl
  ·exact wpAny_pure (h h' d' o' es' ep' t' _ sb gl rfl)
theorem zi {id:String}{b:Addr}{js:List Int}{Q:Value->Shared->Prop} (ga:bw P w s.heap a ks) (gb:bw P w s.heap b js) (hsz:ks.length / 4 > js.length) (hn:ks.length <= 60)
  (h:∀ h' d' ls o' es' ep' t',(∀ c o,s.heap.get? c=some o->h'.get? c=some o)->ls.length=(ks.filter λk=>!decide (k ∈ js)).length->be P w h' s.heap.objs.size ls o' es' ep' t'->Q (.ref s.heap.objs.size) { s with heap:=h',drawn:=d' }) :
  wpAny (model P w) A (Builtin.Frozenset.difference id a (.ref b)) Q E s:=by
 obtain ⟨oa,ea,epa,ta,wa,gda⟩:=ga.w
 obtain ⟨ob,eb,epb,tb,wb,gdb⟩:=gb.w
 have hb:b ≠ s.heap.objs.size:=Nat.ne_of_lt (Heap.lt_size wb.ho)
 unfold Builtin.Frozenset.difference
 refine wpAny_bind (iz wb.type ?_)
 simp only [Bool.not_true,Bool.false_eq_true,if_false,Bool.false_and,if_true,Builtin.Frozenset.addrOf,pure_bind]
 refine wpAny_bind (eJ wb ?_)
 refine wpAny_bind (eJ wa ?_)
 rw [if_pos hsz]
 refine wpAny_bind (wpAny_rule ?_)
 refine wpAny_bind (zh wa (by omega) hn λh1 o1 es1 ep1 t1 k1 g1=>?_)
 refine wpAny_bind (wpAny_pure ?_)
 have wb1:=wb.at (k1 b)
 refine wpAny_bind (wpAny_holding (Bp (s:={ s with heap:=h1 }) g1 wb1 gdb.led hb (by omega) hn λh2 d2 o2 es2 ep2 t2 ls sb2 g2 e2=>?_))
 exact wpAny_pure (h h2 d2 ls o2 es2 ep2 t2 (λc o e=>(sb2.2 c (Nat.ne_of_lt (Heap.lt_size e))).trans (k1 c o e)) (by rw [e2]) g2)
theorem t0 {id:String}{b:Addr}{js:List Int}{Q:Value->Shared->Prop} (ga:bw P w s.heap a ks) (gb:bw P w s.heap b js) (hn:ks.length <= 60)
  (h:∀ h' d' ls o' es' ep' t',(∀ c o,s.heap.get? c=some o->h'.get? c=some o)->ls.length=(ks.filter λk=>!decide (k ∈ js)).length->be P w h' s.heap.objs.size ls o' es' ep' t'->Q (.ref s.heap.objs.size) { s with heap:=h',drawn:=d' }) :
  wpAny (model P w) A (Builtin.Frozenset.difference id a (.ref b)) Q E s:=by
 by_cases c:ks.length / 4 > js.length
 ·exact zi ga gb c hn h
 ·refine zc ga gb c λh' d' ls k p g=>?_
  obtain ⟨o',es',ep',t',g',_⟩:=g.w
  exact h h' d' ls o' es' ep' t' k p.length_eq g'
end
end L2.St
namespace L2.St
open PySem PyProof.Rows
theorem lq:entryFor table "set.__sub__"=some Builtin.«frozenset.__sub__» :=
 entryFor_alias (id':="frozenset.__sub__") (by kernel_rfl) (by first|rfl|decide +kernel|(unfold String.splitOn;simp +decide [String.splitOnAux])) (by decide +kernel) (by kernel_rfl)
section
variable {P:Program}{w:World}{A:Around}{E:Value->Shared->Prop}{s:Shared}
theorem t4 {a b:Addr}{ks js:List Int}{Q:Value->Shared->Prop} (ga:bw P w s.heap a ks) (gb:bw P w s.heap b js) (hn:ks.length <= 60)
  (h:∀ h' d' ls o' es' ep' t',(∀ c o,s.heap.get? c=some o->h'.get? c=some o)->ls.length=(ks.filter λk=>!decide (k ∈ js)).length->be P w h' s.heap.objs.size ls o' es' ep' t'->Q (.ref s.heap.objs.size) { s with heap:=h',drawn:=d' }) :
  wpAny (model P w) A (binaryOp .Sub (.ref a) (.ref b)) Q E s:=by
 obtain ⟨oa,ea,epa,ta,wa,gda⟩:=ga.w
 obtain ⟨ob,eb,epb,tb,wb,gdb⟩:=gb.w
 refine wpAny_binaryOp_same (op:=.Sub) wa.type wb.type F.fills_set_sub F.slot_set_sub ?_
 refine wpAny_call_entry F.slot_set_sub wa.type lq ?_ (F.args_set_sub_2 _ _)
 unfold Builtin.«frozenset.__sub__»
 show wpAny _ _ (do
  let (self,other) <- Builtin.Frozenset.slot1 "__sub__" ⟨[.ref a,.ref b],[]⟩
  let (l,r):=if false then (other,self) else (self,other)
  if !(<- Builtin.Frozenset.isAnySet l <&&> Builtin.Frozenset.isAnySet r) then rule s!"frozenset.{"__sub__"}.declined";return <- ret .notImplemented
  ret (<- Builtin.Frozenset.difference s!"frozenset.{"__sub__"}" (<- Builtin.Frozenset.addrOf l) r)) _ _ s
 refine wpAny_bind (wpAny_of_eq (a:=(Value.ref a,Value.ref b)) rfl ?_)
 dsimp only
 simp only [Bool.false_eq_true,if_false]
 refine wpAny_bind (wpAny_bind (iz wa.type ?_))
 refine iz wb.type ?_
 simp only [Bool.not_true,Bool.false_eq_true,if_false,Builtin.Frozenset.addrOf,pure_bind]
 refine wpAny_bind (t0 ga gb hn λh' d' ls o' es' ep' t' k hl g=>?_)
 exact wpAny_pure ⟨_,rfl,by simp,h h' d' ls o' es' ep' t' k hl g⟩
end
end L2.St
namespace L2
open PySem PySem.Spec PyProof.Rows
noncomputable def mQ (P:Program) (w:World) (a:Addr) (n:Nat):HO:=.ext λh=>∃ ks o es ep t,St.be P w h a ks o es ep t/\ks.length=n
theorem rP {P:Program}{w:World}{H:Hp}{h:Heap}{a:Addr}{n:Nat}{ks:List Int}{o:Obj}{es:Array (Int × Value)}{ep:Nat}{t:SetTable} (g:St.be P w h a ks o es ep t) (e:ks.length=n):aV P w H h a (mQ P w a n) :=
 ⟨⟨ks,o,es,ep,t,g,e⟩,⟨o,g.ho⟩,λh1 h2 ⟨ks,o,es,ep,t,g,e⟩ k=>⟨ks,o,es,ep,t,g.at k,e⟩⟩
section
variable {X:Cx}
theorem rQ:OpR X (binaryOp .Sub) (λx y H Q=>∃ a b ks js,x=.ref a/\y=.ref b/\H a=some (gT X.prog X.w a ks)/\H b=some (gT X.prog X.w b js)/\ks.length <= 60/\∀ p,H p=none->Q (.ref p) (upd H p (mQ X.prog X.w p (ks.filter λk=>!decide (k ∈ js)).length))):=by
 intro pins s σ H x y v u Q I rx ry h
 obtain ⟨a,b,ks,js,rfl,rfl,ha,hb,hn,q⟩:=h
 cases rx
 cases ry
 refine St.t4 (I.set ha) (I.set hb) hn λh' d' ls o' es' ep' t' kp hl g=>?_
 exact ⟨.ref s.heap.objs.size,_,I.laidD (t':=s.toks) (d':=d') kp (Nat.le_refl _) (rP g hl),rfl,q _ (I.hok.fresh (Nat.le_refl _))⟩
theorem nV:bp X (.builtin "len") (λxs H Q=>∃ a n,xs=[.ref a]/\H a=some (mQ X.prog X.w a n)/\Q (.int n) H):=by
 intro pins s σ H xs us Q I r h
 obtain ⟨a,n,rfl,e,q⟩:=h
 obtain ⟨u,rfl,ru⟩:=dj r
 cases ru
 obtain ⟨ks,o,es,ep,t,g,hk⟩:=(show aV X.prog X.w H s.heap a (mQ X.prog X.w a n) from I.hok a _ e).1
 have hl:=g.len
 have hb:=g.bd
 have hsb:scanBound=4096:=rfl
 refine call_len_set g.ho g.ex g.hd g.fi (by omega) ⟨.int n,H,I.tok _,⟨s.toks + 1,?_⟩,q⟩
 rw [hl,hk]
theorem mR:bp X (.builtin "len") (λxs H Q=>∃ a ks,xs=[.ref a]/\H a=some (gT X.prog X.w a ks)/\Q (.int ks.length) H):=by
 intro pins s σ H xs us Q I r h
 obtain ⟨a,ks,rfl,e,q⟩:=h
 obtain ⟨u,rfl,ru⟩:=dj r
 cases ru
 obtain ⟨o,es,ep,t,g,_⟩:=(I.set e).w
 have hb:=g.bd
 have hsb:scanBound=4096:=rfl
 refine call_len_set g.ho g.ex g.hd g.fi (by omega) ⟨.int ks.length,H,I.tok _,⟨s.toks + 1,?_⟩,q⟩
 rw [g.len]
end
end L2
namespace L2.En
open PySem PyProof.Rows
open AutoSeq1 (wpAny_loadPart')
section
variable {P:Program}{w:World}{A:Around}{E:Value->Shared->Prop}{s:Shared}
theorem pD {it t:Addr}{i:Nat}{Q:Value->Shared->Prop} (hit:s.heap.IsTupleIter it t i)
  (h:wpAny (model P w) A.in1 (Builtin.«tuple_iterator.__next__» ⟨[.ref it],[]⟩) (λfin s'=>∃ v,fin=.done (.ret v)/\Q v s') E s):wpAny (model P w) A (Builtin.SmallTypes.nextOf (.ref it)) Q E s:=by
 unfold Builtin.SmallTypes.nextOf
 refine wpAny_bind (wpAny_callSpecial?_slot (name:=Str.ofString "__next__") hit.typeIs F.slot_tuple_iterator_next ?_)
 refine wpAny_call_entry F.slot_tuple_iterator_next hit.typeIs F.entry_tuple_iterator_next ?_ (F.args_tuple_iterator_next_1 _)
 refine wpAny_mono h (λfin s' hv=>?_) λ_ _ z=>z
 obtain ⟨v,rfl,q⟩:=hv
 exact ⟨v,rfl,wpAny_pure q⟩
theorem Bq {α:Type}{Q:α->Shared->Prop} (hh:A.handled=none) (h:∀ h' e,(∀ b o,s.heap.get? b=some o->h'.get? b=some o)->(∃ o,h'.get? e=some o/\o.cls=.type "StopIteration")->E (.ref e) { s with heap:=h' }) :
  wpAny (model P w) A (Builtin.SmallTypes.stopIteration:Sem α) Q E s:=by
 unfold Builtin.SmallTypes.stopIteration newExc
 obtain ⟨hp,g,d,tk,os⟩:=s
 wp_walk
 exact wpAny_raiseNew_none hh (h _ _ (λb o q=>Heap.get?_push_of_some _ (Heap.get?_push_of_some _ q)) ⟨_,Heap.get?_push_size _ rfl,rfl⟩)
theorem lQ {it t:Addr}{i:Nat}{items:Array Value}{Q:Value->Shared->Prop} (hh:A.handled=none) (hit:s.heap.IsTupleIter it t i) (ht:s.heap.IsTuple t items)
  (hQ:∀ x h',items[i]?=some x->h'.IsTupleIter it t (i + 1)->Heap.SameBut it s.heap h'->Q x { s with heap:=h' })
  (hE:∀ h' e,items[i]?=none->Heap.ExtBut it s.heap h'->(∃ o,h'.get? e=some o/\o.cls=.type "StopIteration")->E (.ref e) { s with heap:=h' }):wpAny (model P w) A (Builtin.SmallTypes.nextOf (.ref it)) Q E s:=by
 refine pD hit ?_
 obtain ⟨⟨c1,d1,t1,l1⟩,h1,e1,e2⟩:=hit
 obtain ⟨⟨c2,d2,t2,l2⟩,h2,e3,n2,e4⟩:=ht
 cases e1
 cases e2
 cases e3
 cases e4
 obtain ⟨hp,g,d,tk,os⟩:=s
 unfold Builtin.«tuple_iterator.__next__»
 wp_walk using wpAny_loadPart' h1,wpAny_loadPart' h2
 have self:∀ (k:Nat) (v:Value),(hp.update it (Obj.mapFields (·.setIfInBounds k v))).get? it=some { cls:=.type "tuple_iterator",dict:=d1,data:=.fields ((#[.ref t,.int (i:Int) 0]:Array Value).setIfInBounds k v),slots:=l1 }:=λk v=>Heap.get?_update_self _ h1 rfl
 rw [Int.toNat_natCast]
 cases hx:items[i]? with
 | some x =>
  refine wpAny_bind (wpAny_setField h1 rfl (by simp) (wpAny_pure ⟨x,rfl,hQ x _ hx ⟨_,self 1 _,rfl,?_⟩ (Heap.SameBut.update ..)⟩))
  simp [rawInt]
 | none =>
  refine wpAny_bind (wpAny_rule (wpAny_bind (wpAny_setField h1 rfl (by simp) (Bq (by simpa using hh) λh' e k st=>?_))))
  exact hE h' e hx (λb o hb q=>k b o ((Heap.SameBut.update hp it _).extBut b o hb q)) st
theorem draws (hh:A.handled=none) (it t:Addr) (hne:t ≠ it) (items:Array Value):Draws P w A it [it,t] items.size (λi v=>items[i]?=some v) (λi h=>h.IsTupleIter it t i/\h.IsTuple t items) where
 live:=λ_ _ ⟨⟨o,ho,_⟩,_⟩=>⟨o,ho⟩
 frame:=λi h h' ⟨⟨o,ho,r⟩,⟨o2,ho2,r2⟩⟩ k=>⟨⟨o,k it (.head _) o ho,r⟩,⟨o2,k t (.tail _ (.head _)) o2 ho2,r2⟩⟩
 item:=λi s Q E hi ⟨h1,h2⟩ hQ=>lQ hh h1 h2 (λx h' hx h3 sb=>hQ x h' s.toks hx ⟨h3,h2.extBut sb.extBut hne⟩ sb) λh' e hx _ _=>absurd hx (by simp;omega)
 done:=λs Q E ⟨h1,h2⟩ hE=>lQ hh h1 h2 (λx h' hx _ _=>absurd hx (by simp)) λh' e _ eb st=>hE h' e eb st
theorem t5 {b:Bool}{Q:Bool->Shared->Prop} (h:∀ c,Q c s):wpAny (model P w) A (pure b) Q E s:=wpAny_pure (h b)
theorem wN (l:Addr) (items:Array Value) (n:Nat) (dct:Option Addr) (sl:Array (Option Value)) :
  Meets (Builtin.«enumerate.__new__» ⟨[.type "enumerate",.ref l],[]⟩) (λ_ R s=>s.heap.get? l=some { cls:=.type "tuple",dict:=dct,data:=.seq items n,slots:=sl } /\
   R (.ok (.ret (.ref (s.heap.push { cls:=.type "tuple_iterator",data:=.fields #[.ref l,.int 0 0] }).objs.size)))
    { s with heap:=(s.heap.push { cls:=.type "tuple_iterator",data:=.fields #[.ref l,.int 0 0] }).push { cls:=.type "enumerate",data:=.fields #[.none,.bool false,.ref s.heap.objs.size,rawInt 0,.none,.none] } }):=by
 refine .of_wp λP w A R s h=>?_
 obtain ⟨hp,g,d,tk,os⟩:=s
 have tl:Heap.IsTuple (Shared.heap ⟨hp,g,d,tk,os⟩) l items:=⟨_,h.1,rfl,n,rfl⟩
 have en:=sub_enumerate
 wp_walk using wpAny_loadPart' h.1
 apply wpAny_stack_any
 intro st
 refine t5 λc=>?_
 cases c
 ·wp_walk using wpAny_pyIter_tuple tl
  exact ⟨_,rfl,h.2⟩
 ·wp_walk using wpAny_pyIter_tuple tl
  exact ⟨_,rfl,h.2⟩
theorem call_tup {l:Addr}{items:Array Value}{Q:Value->Shared->Prop} (ht:s.heap.IsTuple l items)
  (h:∀ h',IsEnum h' (s.heap.objs.size + 1) s.heap.objs.size 0 .none->h'.IsTupleIter s.heap.objs.size l 0->h'.objs.size=s.heap.objs.size + 2 ->
   (∀ b o,s.heap.get? b=some o->h'.get? b=some o)->Q (.ref (s.heap.objs.size + 1)) { s with heap:=h' }):wpAny (model P w) A (call (.type "enumerate") [.ref l]) Q E s:=by
 obtain ⟨⟨c,dct,dt,sl⟩,hl,hc,n,hd⟩:=ht
 cases hc
 cases hd
 have made:=wN l items n dct sl
 refine callType_new F.called_enumerate (by decide) (F.typeCall_enumerate_1 _) (F.newCall_enumerate_1 _) (λv=>F.args_object_init_2 v _) F.entry_enumerate_new made ⟨hl,?_⟩
 generalize hi:({ cls:=.type "tuple_iterator",data:=.fields #[.ref l,.int 0 0] }:Obj)=io
 generalize ho:({ cls:=.type "enumerate",data:=.fields #[.none,.bool false,.ref s.heap.objs.size,rawInt 0,.none,.none] }:Obj)=eo
 have z:(s.heap.push io).objs.size=s.heap.objs.size + 1:=Heap.size_push ..
 have g1:((s.heap.push io).push eo).get? (s.heap.objs.size + 1)=some eo:=by
  rw [<- z]
  exact Heap.get?_push_size _ (by rw [<- ho];rfl)
 have g2:((s.heap.push io).push eo).get? s.heap.objs.size=some io:=Heap.get?_push_of_some _ (Heap.get?_push_size _ (by rw [<- hi];rfl))
 show Shared.TypeIs _ (.ref (s.heap.push io).objs.size) _/\Q (.ref (s.heap.push io).objs.size) _
 rw [z]
 refine ⟨⟨_,g1,by rw [<- ho]⟩,h _ (by rw [<- ho] at g1;rw [<- ho];exact g1) ⟨_,g2,by rw [<- hi],by rw [<- hi];rfl⟩ (by rw [Heap.size_push,z]) λb o q=>Heap.get?_push_of_some _ (Heap.get?_push_of_some _ q)⟩
end
end L2.En
namespace L2.Dv
open PySem PyProof.Rows
open AutoSeq1 (wpAny_loadPart')
section
variable {P:Program}{w:World}{A:Around}{E:Value->Shared->Prop}{s:Shared}
noncomputable def Ents (h:Heap) (d:Addr) (es:Array DictEntry) (ep:Nat):Prop:=∃ o,h.get? d=some o/\o.ExactDict/\o.data=.dict es ep
theorem Ents.at {h h':Heap}{d:Addr}{es:Array DictEntry}{ep:Nat} (x:Ents h d es ep) (k:∀ o,h.get? d=some o->h'.get? d=some o):Ents h' d es ep:=by
 obtain ⟨o,ho,r⟩:=x
 exact ⟨o,k o ho,r⟩
theorem Ents.type {d:Addr}{es:Array DictEntry}{ep:Nat} (x:Ents s.heap d es ep):s.TypeIs (.ref d) "dict":=by
 obtain ⟨o,ho,r,_⟩:=x
 exact ⟨o,ho,r.1⟩
theorem values_of {d:Addr}{es:Array DictEntry}{ep:Nat}{Q:Value->Shared->Prop} (hd:(d == sysModules)=false) (x:Ents s.heap d es ep)
  (h:Q (.ref s.heap.objs.size) { s with heap:=s.heap.push { cls:=.type "dict_values",data:=.fields #[.ref d] } }):wpAny (model P w) A (call (.builtin "dict.values") [.ref d]) Q E s:=by
 refine wpAny_call_entry F.slot_dict_values x.type F.entry_dict_values ?_ (F.args_dict_values_1 _)
 obtain ⟨⟨c1,d1,t1,l1⟩,h1,hx,e2⟩:=x
 have e1:=hx.1
 cases e1
 cases e2
 obtain ⟨hp,g,dr,tk,os⟩:=s
 unfold Builtin.«dict.values»
 wp_walk using wpAny_loadPart' h1
 exact ⟨_,rfl,h⟩
theorem wO {v d:Addr}{es:Array DictEntry}{ep:Nat}{Q:Value->Shared->Prop} (hv:s.heap.IsValuesView v d) (x:Ents s.heap d es ep)
  (h:Q (.ref s.heap.objs.size) { s with heap:=s.heap.push { cls:=.type "dict_valueiterator",data:=.fields #[.ref d,.int 0 0,.int es.size 0,.int ep 0] } }):wpAny (model P w) A (pyIter (.ref v)) Q E s:=by
 refine wpAny_pyIter_slot hv.typeIs F.slot_dict_values_iter (wpAny_call_entry F.slot_dict_values_iter hv.typeIs F.entry_dict_values_iter ?_ (F.args_dict_values_iter_1 _))
 obtain ⟨⟨c1,d1,t1,l1⟩,h1,hx,e2⟩:=x
 have e1:=hx.1
 cases e1
 cases e2
 obtain ⟨⟨c3,d3,t3,l3⟩,h3,e3,e4⟩:=hv
 cases e3
 cases e4
 obtain ⟨hp,g,dr,tk,os⟩:=s
 unfold Builtin.«dict_values.__iter__»
 wp_walk using wpAny_loadPart' h1,wpAny_loadPart' h3
 exact ⟨_,rfl,_,_,⟨_,Heap.get?_push_size _ rfl,rfl⟩,F.slot_dict_valueiterator_next.lookup,h⟩
theorem qo {it d:Addr}{i:Nat}{es:Array DictEntry}{ep:Nat}{Q:Option Value->Shared->Prop} (hh:A.handled=none) (hv:s.heap.IsValIter it d i es.size ep) (x:Ents s.heap d es ep)
  (h1:∀ e h',es[i]?=some e->h'.IsValIter it d (i + 1) es.size ep->Heap.SameBut it s.heap h'->Q (some e.val) { s with heap:=h' })
  (h2:∀ h',es[i]?=none->Heap.ExtBut it s.heap h'->Q none { s with heap:=h' }):wpAny (model P w) A (pyNext (.ref it)) Q E s:=by
 have ty:=hv.typeIs
 obtain ⟨⟨c1,d1,t1,l1⟩,g1,hx,e2⟩:=x
 have e1:=hx.1
 cases e1
 cases e2
 obtain ⟨⟨c3,d3,t3,l3⟩,g3,e3,e4⟩:=hv
 cases e3
 cases e4
 obtain ⟨hp,g,dr,tk,os⟩:=s
 unfold pyNext
 refine wpAny_bind (wpAny_attempt (wpAny_callSpecial?_slot (name:=Str.ofString "__next__") ty F.slot_dict_valueiterator_next (wpAny_call_entry F.slot_dict_valueiterator_next ty F.entry_dict_valueiterator_next ?_ (F.args_dict_valueiterator_next_1 _))))
 unfold Builtin.«dict_valueiterator.__next__»
 wp_walk using wpAny_loadPart' g1,wpAny_loadPart' g3
 rw [if_neg (by omega),Int.toNat_natCast]
 have self:∀ (k:Nat) (v:Value),(hp.update it (Obj.mapFields (·.setIfInBounds k v))).get? it=some { cls:=.type "dict_valueiterator",dict:=d3,data:=.fields ((#[.ref d,.int (i:Int) 0,.int (es.size:Int) 0,.int (ep:Int) 0]:Array Value).setIfInBounds k v),slots:=l3 }:=λk v=>Heap.get?_update_self _ g3 rfl
 cases hx:es[i]? with
 | some e =>
  have g4:=self 1 (rawInt ((i:Int) + 1))
  wp_walk using wpAny_loadPart' g3,wpAny_loadPart' g4
  exact ⟨_,rfl,wpAny_pure (h1 e _ hx ⟨_,g4,rfl,rfl⟩ (Heap.SameBut.update ..))⟩
 | none =>
  refine wpAny_bind (wpAny_mono (Q:=λ(n:Nat) (s':Shared)=>n=0/\s'=⟨hp,g,dr,tk,os⟩) (E:=λ_ _=>False) ?_ (λn s' q=>?_) λ_ _ z=>z.elim)
  ·wp_walk using wpAny_loadPart' g3
   exact ⟨by decide +kernel,rfl⟩
  obtain ⟨rfl,rfl⟩:=q
  refine wpAny_bind (wpAny_setField g3 rfl (by simp) ?_)
  refine St.i4 (v:=.none) (vs:=#[]) (it:=0) (Q:=λ_ _=>True) (by simpa using hh) λe s' kp ⟨h',eq⟩ hT=>?_
  subst eq
  refine wpAny_bind (wpAny_isInstance (T:="StopIteration") (b:=true) hT isSubtype_stop ?_)
  exact wpAny_pure (h2 h' hx λb o hb q=>kp b o ((Heap.SameBut.update hp it _).extBut b o hb q))
theorem src {r d:Addr}{es:Array DictEntry}{ep:Nat}:PySem.W.KdlSrc P w "dict_values" r d es.size (λi v=>∃ e,es[i]?=some e/\v=e.val) (λh=>h.IsValuesView r d/\Ents h d es ep) where
 type:=λ_ q=>q.1.typeIs
 there:=λ_ ⟨⟨o,ho,_⟩,⟨o',ho',_⟩⟩=>⟨Heap.lt_size ho,Heap.lt_size ho'⟩
 keep:=λ_ _ ⟨⟨o,ho,z⟩,x⟩ k=>⟨⟨o,k r (.inl rfl) o ho,z⟩,x.at λo e=>k d (.inr rfl) o e⟩
 notList:=by decide
 notTuple:=by decide
 hint:=λ_ _ _ _ q z=>PySem.W.kdl_hint_values q.1.typeIs z
 iter:=λA s hh ⟨q,x⟩=>by
  have lt:d < s.heap.objs.size:=by obtain ⟨o,ho,_⟩:=x;exact Heap.lt_size ho
  have ne:d ≠ s.heap.objs.size:=Nat.ne_of_lt lt
  refine ⟨{ cls:=.type "dict_valueiterator",data:=.fields #[.ref d,.int 0 0,.int es.size 0,.int ep 0] },λi h=>h.IsValIter s.heap.objs.size d i es.size ep/\Ents h d es ep,λE Q z=>wO q x z,?_,⟨_,Heap.get?_push_size _ rfl,rfl,rfl⟩,x.at λo e=>Heap.get?_push_of_some _ e⟩
  refine ⟨λb hb=>by simp at hb;simp [hb],λi h h' ⟨⟨o,ho,z⟩,y⟩ k=>⟨⟨o,k _ (by simp) o ho,z⟩,y.at λo e=>k d (by simp) o e⟩,λi s' Q E hi ⟨y,z⟩ hQ=>?_,λs' Q E ⟨y,z⟩ hQ=>?_,λi s' Q E ⟨y,z⟩ hQ=>?_⟩
  ·refine qo hh y z (λe h' he y' sb=>?_) λh' he _=>absurd he (by simp;omega)
   exact hQ _ h' s'.toks ⟨e,he,rfl⟩ ⟨y',z.at λo q=>sb.extBut d o ne q⟩ λb o hb q=>sb.extBut b o (λw=>hb (by simp [w])) q
  ·refine qo hh y z (λe h' he _ _=>absurd he (by simp)) λh' _ eb=>?_
   exact hQ h' s'.toks λb o hb q=>eb b o (λw=>hb (by simp [w])) q
  ·exact wpAny_pyIter_valiter y hQ
end
end L2.Dv
namespace HT
open PySem PyProof.Rows
section
variable {prog:Program}{w:World}{A:Around}{E:Value->Shared->Prop}{s:Shared}
theorem getItem_tuple_whole {t sl:Addr}{items:Array Value}{vl vu:Value}{lo hi:Option Int}{Q:Value->Shared->Prop} (ht:IsTup s.heap t items) (hs:s.heap.IsSliceOf sl vl vu .none) (pl:IsPart vl lo) (pu:IsPart vu hi)
  (h0:sIx items.size 0 lo=0) (h1:sIx items.size items.size hi=items.size) (h:Q (.ref t) s):wpAny (model prog w) A (getItem (.ref t) (.ref sl)) Q E s:=by
 have hTs:s.TypeIs (.ref sl) "slice":=by obtain ⟨os,hos,hcs,_⟩:=hs;exact ⟨os,hos,hcs⟩
 unfold getItem
 try with_reducible refine wpAny_holding ?_
 first|refine wpAny_bind (wpAny_pure ?_)|skip
 refine wpAny_bind (wpAny_sequenceKey ht.typeIs (by decide) ?_)
 refine wpAny_bind (wpAny_callSpecial?_slot (name:=Str.ofString "__getitem__") ht.typeIs PyProof.Rows.slot_tuple_getitem
  (wpAny_call_entry PyProof.Rows.slot_tuple_getitem ht.typeIs entry_tuple_getitem ?_ (args_tuple_getitem _ _)))
 show wpAny _ _ (Builtin.Tuple.tupleItemsOf (.ref t) >>= _) _ _ s
 refine wpAny_bind (tupleItemsOf_ ht ?_)
 refine wpAny_bind (wpAny_typeOf hTs ?_)
 rw [if_pos (by decide)]
 refine wpAny_bind (eG hs pl pu ?_)
 show wpAny _ _ (if (((sIx items.size 0 lo:Nat):Int) == 0&&(1:Int) == 1&&(sIx items.size items.size hi - sIx items.size 0 lo) == items.size)=true then _ else _) _ _ s
 rw [h0,h1,if_pos (by simp)]
 unfold Builtin.Tuple.tupleIsExact
 refine wpAny_bind (wpAny_bind (wpAny_typeOf ht.typeIs (wpAny_pure ?_)))
 rw [if_pos (by decide)]
 refine wpAny_bind (wpAny_rule ?_)
 exact wpAny_pure ⟨_,rfl,wpAny_pure h⟩
end
end HT
namespace L2
open PySem PySem.Spec PyProof.Rows
section
variable {X:Cx}
theorem wP:SlR X (λx lo hi H Q=>∃ a xs,x=.ref a/\SqT X.K H a xs/\HT.sIx xs.length 0 lo=0/\HT.sIx xs.length xs.length hi=xs.length/\Q (.ref a) H):=by
 intro pins s σ H x v vl vu lo hi sl Q I rx hs pl pu h
 obtain ⟨a,xs,rfl,hx,h0,h1,q⟩:=h
 cases rx
 obtain ⟨its,r,ht,hz⟩:=I.tuple hx
 have hlen:its.toArray.size=xs.length:=by rw [List.size_toArray];exact r.length.symm
 refine ⟨"tuple",_,PyProof.Rows.slot_tuple_getitem.lookup,ht.typeIs,?_⟩
 exact HT.getItem_tuple_whole ht hs pl pu (by rw [hlen];exact h0) (by rw [hlen];exact h1) ⟨.ref a,H,I,rfl,q⟩
end
end L2
namespace L2.Rv
open PySem PyProof.Rows
section
variable {P:Program}{w:World}{A:Around}{E:Value->Shared->Prop}{s:Shared}
noncomputable def Drawn (items:Array Value) (i:Nat) (v:Value):Prop:=items[items.size - 1 - i]?=some v
end
end L2.Rv
namespace L2
open PySem PySem.Spec PyProof.Rows
section
variable {X:Cx}
end
end L2
namespace L2.Rg
open PySem PyProof.Rows
section
variable {P:Program}{w:World}{A:Around}{E:Value->Shared->Prop}{s:Shared}
noncomputable def Num (i:Nat) (v:Value):Prop:=∃ t,v=.int (0 + i * 1) t
theorem t6 (n:Nat):Builtin.Range.rangeSize 0 (n:Int) 1=n:=by
 rw [rangeSize_one]
 split <;> omega
theorem nW {R:List Value->Shared->Prop}{r:Addr}{t u v:Tok}{n:Nat} (hh:A.handled=none) (hr:IsRange s.heap r 0 (n:Int) 1 t u v) (hn:n <= 10000)
  (h:∀ (h':Heap) (tk:Nat) (acc:Array Value),s.heap.objs.size < h'.objs.size->(∀ b o,s.heap.get? b=some o->h'.get? b=some o)->ItemsOf Num acc n->R acc.toList { s with heap:=h',toks:=tk }) :
  wpAny (model P w) A (collect (.ref r)) R E s:=by
 unfold collect
 refine wpAny_bind (wpAny_runValue (codeAny_builtin entry_proto_collect' ?_))
 rw [Around.under_plainId PySem.F.plain_proto_collect _]
 show wpAny _ A.in1 (newList [] >>= λl=>again (.builtin "list.__iadd__" ⟨[l,.ref r],[]⟩)) _ _ s
 refine wpAny_bind (wpAny_newObj_type ?_)
 refine wpAny_pure ⟨plainId_quiet PySem.F.plain_list_iadd _,codeAny_builtin entry_list_iadd' ?_⟩
 rw [Around.under_plainId PySem.F.plain_list_iadd _]
 show wpAny _ A.in1 (Builtin.List.listExtendWith (.ref s.heap.objs.size) (.ref r) (.ref s.heap.objs.size)) _ _ _
 have hS:(s.heap.push { cls:=.type "list",data:=.seq ([]:List Value).toArray }).get? s.heap.objs.size=some { cls:=.type "list",data:=.seq #[] }:=Heap.get?_push_size _ rfl
 refine wpAny_mono (wpAny_extend_range (A:=A) (s:={ s with heap:=s.heap.push { cls:=.type "list",data:=.seq ([]:List Value).toArray } })
  (R:=λq s'=>∃ h' tk acc c,q=.ok (.ret (.ref s.heap.objs.size))/\s'={ s with heap:=h',toks:=tk }/\(∀ b o,s.heap.get? b=some o->h'.get? b=some o)/\h'.get? s.heap.objs.size=some { cls:=.type "list",dict:=none,data:=.seq acc c,slots:=#[] }/\ItemsOf Num acc n)
  hh (Heap.get?_push_of_some _ hr) (small_one (by omega) (by omega) (by omega) (by omega)) (t6 n) (by omega) s.heap.objs.size (.ref s.heap.objs.size) 0 hS
  λh' tk acc c k e i=>⟨h',tk,acc,c,rfl,rfl,λb o e=>k b o (Nat.ne_of_lt (Heap.lt_size e)) (Heap.get?_push_of_some _ e),e,i⟩) (λfin s' x=>?_) λe s' x=>?_
 ·cases fin with
  | done f =>
   obtain ⟨h',tk,acc,c,e,rfl,k,hS',i⟩:=x
   cases e
   show wpAny _ A (load s.heap.objs.size >>= _) _ _ _
   exact wpAny_bind (wpAny_load hS' (wpAny_pure (h h' tk acc (Heap.lt_size hS') k i)))
  | again c1 =>
   refine ⟨x.1,codeAny_mono x.2 λq s2 y=>?_⟩
   obtain ⟨h',tk,acc,c,rfl,rfl,k,hS',i⟩:=y
   show wpAny _ A (load s.heap.objs.size >>= _) _ _ _
   exact wpAny_bind (wpAny_load hS' (wpAny_pure (h h' tk acc (Heap.lt_size hS') k i)))
 ·obtain ⟨_,_,_,_,e',_⟩:=x
  cases e'
theorem tuple_rng {Q:Value->Shared->Prop}{r:Addr}{t u v:Tok}{n:Nat} (hh:A.handled=none) (hr:IsRange s.heap r 0 (n:Int) 1 t u v) (hn:n <= 10000)
  (h:∀ (h':Heap) (tk:Nat) (acc:Array Value),(∀ b o,s.heap.get? b=some o->h'.get? b=some o)->ItemsOf Num acc n->Q (.ref h'.objs.size) { s with heap:=h'.push { cls:=.type "tuple",data:=.seq acc },toks:=tk }) :
  wpAny (model P w) A (call (.type "tuple") [.ref r]) Q E s:=by
 have hT:s.TypeIs (.ref r) "range":=⟨_,hr,rfl⟩
 have made:codeAny (model P w) A.in1 (.call (.builtin "tuple.__new__") ⟨[.type "tuple",.ref r],[]⟩) (wants (λobj s1=>s1.TypeIs obj "tuple"/\Q obj s1) E) s:=by
  refine codeAny_of_tree ?_
  show wpAny _ A.in1.in1 (do checkBuiltinCall "tuple.__new__" ⟨[.type "tuple",.ref r],[]⟩;again (.builtin "tuple.__new__" ⟨[.type "tuple",.ref r],[]⟩)) _ _ s
  refine wpAny_bind (wpAny_of_eq (F.newCall_tuple_1 _) (wpAny_pure ⟨plainId_quiet F.plain_tuple_new _,codeAny_builtin F.entry_tuple_new ?_⟩))
  rw [Around.under_plainId F.plain_tuple_new _]
  have h1:=sub_tuple_self
  have h2:=init_tuple_lookup
  have h3:=madeHere_tuple
  wp_walk using wpAny_typeOf hT,nW (by simpa using hh) hr hn
  intro h' tk acc _ k i
  show wpAny _ _ (Builtin.Tuple.tupleExact acc.toList.toArray >>= λv=>ret v) _ _ _
  unfold Builtin.Tuple.tupleExact
  rw [Array.toArray_toList]
  refine wpAny_bind (wpAny_newObj_type (wpAny_pure ?_) (show acc.size <= sizeLine by rw [i.1];exact Nat.le_trans hn (by decide)))
  exact ⟨⟨_,Heap.get?_push_size _ rfl,rfl⟩,h h' tk acc k i⟩
 exact callType_codes F.called_tuple (F.typeCall_tuple_1 _) F.entry_object_init made λobj s1 h1=>⟨h1.1,F.args_object_init_2 obj _,object_init_meets F.called_tuple.init.lookup F.called_tuple.made (by decide) P w A.in1 _ s1 ⟨h1.1,rfl,h1.2⟩⟩
end
end L2.Rg
namespace L2
open PySem PySem.Spec PyProof.Rows
section
variable {X:Cx}
noncomputable def cnt (n:Nat):List V:=(List.range n).map λ(k:Nat)=>V.int (k:Int)
theorem t7:∀ (l:List Value) (k:Nat),(∀ (i:Nat) (v:Value),l[i]?=some v->∃ t,v=.int ((k + i:Nat):Int) t)->ar ((List.range l.length).map λ(j:Nat)=>V.int ((k + j:Nat):Int)) l
 | [],_,_=>.nil
 | v::l,k,h=>by
  have ih:=t7 l (k + 1) λi v e=>by rw [show k + 1 + i=k + (i + 1) from by omega];exact h (i + 1) v (by rw [List.getElem?_cons_succ];exact e)
  rw [List.length_cons,List.range_succ_eq_map,List.map_cons,List.map_map]
  refine .cons (h 0 v rfl) ?_
  rw [show ((λ(j:Nat)=>V.int ((k + j:Nat):Int)) ∘ Nat.succ)=λ(j:Nat)=>V.int ((k + 1 + j:Nat):Int) from by funext j;show V.int ((k + (j + 1):Nat):Int)=_;rw [show k + (j + 1)=k + 1 + j from by omega]]
  exact ih
theorem t8 {n:Nat}{acc:Array Value} (h:ItemsOf Rg.Num acc n):ar (cnt n) acc.toList:=by
 have:=t7 acc.toList 0 λi v e=>by
  obtain ⟨t,rfl⟩:=h.2 i v (by rw [<- Array.getElem?_toList];exact e)
  exact ⟨t,by rw [show (0 + (i:Int) * 1)=((0 + i:Nat):Int) from by omega]⟩
 rw [Array.length_toList,h.1] at this
 unfold cnt
 rw [show (λ(k:Nat)=>V.int (k:Int))=λ(j:Nat)=>V.int ((0 + j:Nat):Int) from by funext j;rw [Nat.zero_add]]
 exact this
theorem nX {l:Expr}{tl:TE}{p p2 pos pos2:Pos} (hc:X.calm=true) (hg:Gl X "tuple") (hm:X.mg "tuple"=none) (hv:bootBuiltins "tuple"=some (.type "tuple")) (hg2:Gl X "range") (hm2:X.mg "range"=none) (hl:PE X l tl) (hs:starEach [l] X.env=[(false,eval l X.env)]:=by rfl) :
  PE X (.Call (.Name "tuple" p) [.Call (.Name "range" p2) [l] [] pos2] [] pos) (λσ H Q=>tl σ H λx H1=>∃ n:Nat,x=.int (n:Int)/\n <= 10000/\∀ q,H1 q=none->Q (.ref q) (upd H1 q (.tup (cnt n)))):=by
 intro pins s σ H Q I h
 refine wpAny_Call_Name_kw (fG I hg hm hv ?_)
 refine PyProof.Rows.callWith_type1 (Calls.spliced_cons ?_) rfl rfl
 refine wpAny_Call_Name_kw (fG I hg2 hm2 boot_range ?_)
 refine PyProof.Rows.callWith_type1 (thn (aX hl bI hs pos2 pins s σ H (λvs H1=>match vs with|[x]=>∃ n:Nat,x=.int (n:Int)/\n <= 10000/\∀ q,H1 q=none->Q (.ref q) (upd H1 q (.tup (cnt n)))|_=>False) I h) λus s1 ⟨vs,H1,I1,r1,q1⟩=>?_) hs rfl
 cases r1 with
 | nil=>exact q1.elim
 | cons r rr =>
  cases rr with
  | cons _ _=>exact q1.elim
  | nil =>
   obtain ⟨n,e,hn,q⟩:=q1
   subst e
   obtain ⟨t,rfl⟩:=r
   refine call_range_1 (Calls.spliced_nil ?_)
   have I2:Inv X pins σ H1 { s1 with heap:=s1.heap.push { cls:=.type "range",data:=.fields #[.int 0 s1.toks,.int (n:Int) t,.int 1 (s1.toks + 1)] },toks:=s1.toks + 1 + 1 }:=I1.kept λb o e=>Heap.get?_push_of_some _ e
   refine Rg.tuple_rng (r:=s1.heap.objs.size) (I1.ok.hd hc) (IsRange.new ..) hn λh' tk acc k it=>?_
   have I3:Inv X pins σ H1 { s1 with heap:=h',toks:=tk }:=I2.kept (t':=tk) λb o e=>k b o e
   refine ⟨.ref h'.objs.size,_,I3.laid (t':=tk) (λb o e=>Heap.get?_push_of_some _ e) (Nat.le_refl _) (o:=.tup (cnt n)) ?_,rfl,q _ (I3.hok.fresh (Nat.le_refl _))⟩
   refine ⟨by unfold cnt;rw [List.length_map,List.length_range];exact Nat.le_trans hn (by decide),acc.toList,t8 it,?_⟩
   rw [Array.toArray_toList]
   exact IsTup.new _ _
end
end L2
namespace L2.St
open PySem PyProof.Rows
noncomputable def fE (M:Nat) (p:SetTable.Probe):SetTable.Probe :=
 if p.more > 0 then { p with j:=p.j + 1,more:=p.more - 1 } else
 { p with j:=(SetTable.leap M p.i p.perturb).1,more:=SetTable.runEnd M (SetTable.leap M p.i p.perturb).1 - (SetTable.leap M p.i p.perturb).1,i:=(SetTable.leap M p.i p.perturb).1,perturb:=(SetTable.leap M p.i p.perturb).2 }
theorem pE (t:SetTable) (p:SetTable.Probe):t.advance p=fE t.mask p:=rfl
noncomputable def stM (M:Nat) (h:Int):SetTable.Probe :=
 { j:=SetTable.bits h % (M + 1),more:=SetTable.runEnd M (SetTable.bits h % (M + 1)) - SetTable.bits h % (M + 1),i:=SetTable.bits h % (M + 1),perturb:=SetTable.bits h,dummy:=none }
noncomputable def itM (M:Nat):Nat->SetTable.Probe->SetTable.Probe
 | 0,p=>p
 | n + 1,p=>itM M n (fE M p)
theorem gj (M:Nat):∀ (a b:Nat) (p:SetTable.Probe),itM M (a + b) p=itM M b (itM M a p)
 | 0,b,p=>by rw [Nat.zero_add];rfl
 | a + 1,b,p=>by rw [Nat.succ_add];exact gj M a b (fE M p)
theorem t9 (M n:Nat) (p:SetTable.Probe):itM M (n + 1) p=fE M (itM M n p):=gj M n 1 p
theorem mS (M i:Nat):SetTable.runEnd M i - i <= 9:=by
 unfold SetTable.runEnd
 split <;> omega
theorem t_ {M:Nat}{p:SetTable.Probe} (h:p.more <= 9):(fE M p).more <= 9:=by
 unfold fE
 split
 ·show p.more - 1 <= 9;omega
 ·exact mS _ _
theorem ua {M:Nat}{p:SetTable.Probe} (h:p.perturb < 2 ^ 64):(fE M p).perturb < 2 ^ 64:=by
 unfold fE
 split
 ·exact h
 ·show p.perturb / 32 < 2 ^ 64
  omega
theorem lR {M:Nat}{p:SetTable.Probe}:(fE M p).dummy=p.dummy:=by unfold fE;split <;> rfl
theorem xX {M:Nat}:∀ (n:Nat) {p:SetTable.Probe},p.more <= 9->p.perturb < 2 ^ 64->(itM M n p).more <= 9/\(itM M n p).perturb < 2 ^ 64/\(itM M n p).dummy=p.dummy
 | 0,_,h1,h2=>⟨h1,h2,rfl⟩
 | n + 1,p,h1,h2=>by
  obtain ⟨a,b,c⟩:=xX (M:=M) n (p:=fE M p) (t_ h1) (ua h2)
  exact ⟨a,b,c.trans lR⟩
theorem xY (M:Nat) (h:Int):(stM M h).more <= 9/\(stM M h).perturb < 2 ^ 64:=by
 refine ⟨mS _ _,?_⟩
 show SetTable.bits h < 2 ^ 64
 unfold SetTable.bits
 omega
theorem ki (M:Nat):∀ (m:Nat) (p:SetTable.Probe),m <= p.more->itM M m p={ p with j:=p.j + m,more:=p.more - m }
 | 0,p,_=>rfl
 | m + 1,p,h=>by
  have e:fE M p={ p with j:=p.j + 1,more:=p.more - 1 }:=by unfold fE;rw [if_pos (by omega)]
  show itM M m (fE M p)=_
  rw [e,ki M m _ (by show m <= p.more - 1;omega)]
  show ({ j:=p.j + 1 + m,more:=p.more - 1 - m,i:=p.i,perturb:=p.perturb,dummy:=p.dummy }:SetTable.Probe)={ j:=p.j + (m + 1),more:=p.more - (m + 1),i:=p.i,perturb:=p.perturb,dummy:=p.dummy }
  congr 1 <;> omega
theorem iA (M:Nat) (p:SetTable.Probe):itM M (p.more + 1) p={ p with j:=(SetTable.leap M p.i p.perturb).1,more:=SetTable.runEnd M (SetTable.leap M p.i p.perturb).1 - (SetTable.leap M p.i p.perturb).1,i:=(SetTable.leap M p.i p.perturb).1,perturb:=(SetTable.leap M p.i p.perturb).2 }:=by
 rw [t9,ki M p.more p (Nat.le_refl _)]
 unfold fE
 rw [if_neg (by show ¬ p.more - p.more > 0;omega)]
theorem xZ (M:Nat):∀ (L:Nat) (p:SetTable.Probe),p.more <= 9->∃ n,n <= p.more + 1 + 10 * L/\(itM M n p).j=(lp M (L + 1) (p.i,p.perturb)).1
 | 0,p,_=>⟨p.more + 1,by omega,by rw [iA];rfl⟩
 | L + 1,p,h=>by
  obtain ⟨n,h1,h2⟩:=xZ M L (itM M (p.more + 1) p) (by rw [iA];exact mS _ _)
  refine ⟨p.more + 1 + n,?_,?_⟩
  ·rw [iA] at h1
   have:=mS M (SetTable.leap M p.i p.perturb).1
   have h1:n <= (SetTable.runEnd M (SetTable.leap M p.i p.perturb).1 - (SetTable.leap M p.i p.perturb).1) + 1 + 10 * L:=h1
   omega
  ·rw [gj,h2,iA]
   rfl
theorem zj {M:Nat} (hM:da M=true) {q:Nat × Nat} (hq:q.2 < 2 ^ 64) {e:Nat} (he:e <= M):∃ L,L <= 12 + M/\(lp M (L + 1) q).1=e:=by
 have h13:(lp M 13 q).2=0:=by
  rw [mN]
  exact Nat.div_eq_of_lt (Nat.lt_of_lt_of_le hq (by decide))
 have hi:(lp M 13 q).1 <= M:=by
  rw [show (13:Nat)=12 + 1 from rfl,mL M 12 1]
  show ((lp M 12 q).1 * 5 + 1 + (lp M 12 q).2 / 32) % (M + 1) <= M
  have:=Nat.mod_lt ((lp M 12 q).1 * 5 + 1 + (lp M 12 q).2 / 32) (show 0 < M + 1 by omega)
  omega
 have e13:lp M 13 q=((lp M 13 q).1,0):=Prod.ext rfl h13
 obtain ⟨m,hm,h⟩:=cov hM hi he
 refine ⟨12 + m,by omega,?_⟩
 rw [show 12 + m + 1=13 + m by omega,mL,e13,mM]
 exact h
theorem x0 {M:Nat} (hM:da M=true) {p:SetTable.Probe} (h1:p.more <= 9) (h2:p.perturb < 2 ^ 64) {e:Nat} (he:e <= M):∃ n,n < 10 * SetTable.turns M/\(itM M n p).j=e:=by
 obtain ⟨L,hL,h⟩:=zj hM (q:=(p.i,p.perturb)) h2 he
 obtain ⟨n,h3,h4⟩:=xZ M L p h1
 exact ⟨n,by unfold SetTable.turns;omega,h4.trans h⟩
theorem gk {t:SetTable} (hr:fK t.place) {i j:Nat}:t.slot j=.live i ↔ t.place[i]?=some j:=by
 obtain ⟨hp,ha,hb⟩:=cO hr j
 unfold SetTable.slot
 dsimp only
 constructor
 ·intro h
  split at h
  ·rename_i q
   cases h
   exact eq_of_beq q
  ·split at h <;> cases h
 ·intro h
  have hi:i < t.place.size:=(Array.getElem?_eq_some_iff.mp h).1
  have e:t.place.getD i 0=j:=by rw [cD,h];rfl
  have e2:SetTable.below t.place j=i:=by
   rcases Nat.lt_trichotomy (SetTable.below t.place j) i with q|q|q
   ·have:=hr _ _ q hi
    have:=hb (SetTable.below t.place j) (Nat.le_refl _) (by omega)
    omega
   ·exact q
   ·have:=ha i q
    omega
  rw [e2,h,if_pos (by simp)]
theorem qp {t:SetTable} (hd:t.dummies=#[]) (j:Nat):t.slot j=.empty \/ ∃ i,t.slot j=.live i:=by
 cases h:t.slot j with
 | empty=>exact .inl rfl
 | dummy=>exact absurd h (ir hd _)
 | live i=>exact .inr ⟨i,rfl⟩
theorem mT {t:SetTable} (hd:t.dummies=#[]) (hr:fK t.place) {j:Nat}:t.slot j ≠ .empty ↔ j ∈ t.place.toList:=by
 constructor
 ·intro h
  rcases qp hd j with q|⟨i,q⟩
  ·exact absurd q h
  ·have:=(gk hr).mp q
   rw [<- Array.getElem?_toList] at this
   exact List.mem_of_getElem? this
 ·intro h e
  obtain ⟨i,hi⟩:=List.getElem?_of_mem h
  rw [Array.getElem?_toList] at hi
  rw [(gk hr).mpr hi] at e
  cases e
theorem lS {t:SetTable} (hd:t.dummies=#[]) (hr:fK t.place) (hs:t.place.size <= t.mask):∃ e,e <= t.mask/\t.slot e=.empty:=by
 by_cases h:∃ e,e <= t.mask/\t.slot e=.empty
 ·exact h
 ·exfalso
  have all:∀ e ∈ List.range (t.mask + 1),e ∈ t.place.toList:=λe he=>(mT hd hr).mp λz=>h ⟨e,by have:=List.mem_range.mp he;omega,z⟩
  have:(List.range (t.mask + 1)).length <= t.place.toList.length:=by
   refine List.Nodup.length_le_of_subset List.nodup_range ?_
   exact all
  simp at this
  omega
theorem lT {t:SetTable} (hd:t.dummies=#[]) {ha:Nat->Int}{h:Int}:∀ (fuel:Nat) (p:SetTable.Probe),(∃ n,n < fuel/\t.slot (itM t.mask n p).j=.empty) ->
  ∃ n,(∀ m,m < n->∃ i,t.slot (itM t.mask m p).j=.live i/\ha i ≠ h)/\((t.slot (itM t.mask n p).j=.empty/\SetTable.probe.go t ha h fuel p=some (.empty (itM t.mask n p).j p.dummy)) \/
   ∃ i,t.slot (itM t.mask n p).j=.live i/\ha i=h/\SetTable.probe.go t ha h fuel p=some (.candidate (itM t.mask n p).j i (itM t.mask (n + 1) p)))
 | 0,p,hn=>by
  obtain ⟨n,h1,_⟩:=hn
  omega
 | fuel + 1,p,hn=>by
  have step:SetTable.probe.go t ha h (fuel + 1) p=(match t.slot p.j with
   | .empty=>some (.empty p.j p.dummy)
   | .dummy=>SetTable.probe.go t ha h fuel (t.advance { p with dummy:=some p.j })
   | .live i=>if ha i == h then some (.candidate p.j i (t.advance p)) else SetTable.probe.go t ha h fuel (t.advance p)):=rfl
  rw [step]
  rcases qp hd p.j with q|⟨i,q⟩
  ·exact ⟨0,λm hm=>by omega,.inl ⟨q,by rw [q];rfl⟩⟩
  ·by_cases e:ha i=h
   ·refine ⟨0,λm hm=>by omega,.inr ⟨i,q,e,?_⟩⟩
    rw [q]
    dsimp only
    rw [if_pos (by simpa using e)]
    rfl
   ·obtain ⟨n,h1,h2⟩:=hn
    have hn0:n ≠ 0:=λz=>by subst z;have h2:t.slot p.j=.empty:=h2;rw [q] at h2;cases h2
    obtain ⟨n',h3,h4⟩:=lT hd fuel (t.advance p) ⟨n - 1,by omega,by
     have:n=(n - 1) + 1:=by omega
     rw [this] at h2
     exact h2⟩
    refine ⟨n' + 1,λm hm=>?_,?_⟩
    ·cases m with
     | zero=>exact ⟨i,q,e⟩
     | succ m=>exact h3 m (by omega)
    ·rw [q]
     dsimp only
     rw [if_neg (by simpa using e)]
     rcases h4 with ⟨a,b⟩|⟨i',a,b,c⟩
     ·exact .inl ⟨a,by rw [b,pE,lR];rfl⟩
     ·exact .inr ⟨i',a,b,c⟩
end L2.St
namespace L2.St
open PySem PyProof.Rows
theorem kj {M i:Nat} (h:i <= M):i + (SetTable.runEnd M i - i) <= M:=by
 unfold SetTable.runEnd
 split <;> omega
theorem wQ (M i p:Nat):(SetTable.leap M i p).1 <= M:=by
 show (i * 5 + 1 + p / 32) % (M + 1) <= M
 have:=Nat.mod_lt (i * 5 + 1 + p / 32) (show 0 < M + 1 by omega)
 omega
theorem zk {M:Nat}{p:SetTable.Probe} (h:p.j + p.more <= M):(fE M p).j + (fE M p).more <= M:=by
 unfold fE
 split
 ·show p.j + 1 + (p.more - 1) <= M;omega
 ·exact kj (wQ _ _ _)
theorem x9 {M:Nat}:∀ (n:Nat) {p:SetTable.Probe},p.j + p.more <= M->(itM M n p).j + (itM M n p).more <= M
 | 0,_,h=>h
 | n + 1,_,h=>x9 n (zk h)
theorem Br (M:Nat) (h:Int):(stM M h).j + (stM M h).more <= M:=kj (i:=SetTable.bits h % (M + 1)) (by have:=Nat.mod_lt (SetTable.bits h) (show 0 < M + 1 by omega);omega)
noncomputable def nY (M:Nat) (h:Int) (j:Nat) (tk:Nat->Prop):Prop:=∃ m,(itM M m (stM M h)).j=j/\∀ n,n < m->tk (itM M n (stM M h)).j
theorem nY.mono {M:Nat}{h:Int}{j:Nat}{p q:Nat->Prop} (x:nY M h j p) (s:∀ k,p k->q k):nY M h j q:=by
 obtain ⟨m,h1,h2⟩:=x
 exact ⟨m,h1,λn hn=>s _ (h2 n hn)⟩
structure Tb (t:SetTable) (hs:List Int):Prop where
 good:da t.mask=true
 dum:t.dummies=#[]
 rise:fK t.place
 sz:t.place.size=hs.length
 fill:hs.length <= t.mask
 path:∀ (i j:Nat) (h:Int),t.place[i]?=some j->hs[i]?=some h->nY t.mask h j λk=>k ∈ t.place.toList
theorem Tb.fresh (L:Bool):Tb (.fresh 0 0 L) []:=⟨tU,rfl,nJ,rfl,Nat.zero_le _,λi j h e=>by cases e⟩
theorem d_ {α:Type} (xs:Array α) (p:Nat) (x:α):(SetTable.insertAt xs p x).toList=xs.toList.take p ++ x::xs.toList.drop p:=by
 unfold SetTable.insertAt
 simp [List.take_of_length_le]
theorem mU {xs:Array Nat}{p x y:Nat}:y ∈ (SetTable.insertAt xs p x).toList ↔ y=x \/ y ∈ xs.toList:=by
 rw [d_,List.mem_append,List.mem_cons]
 constructor
 ·rintro (h|h|h)
  ·exact .inr (List.mem_of_mem_take h)
  ·exact .inl h
  ·exact .inr (List.mem_of_mem_drop h)
 ·rintro (h|h)
  ·exact .inr (.inl h)
  ·rw [<- List.take_append_drop p xs.toList] at h
   rcases List.mem_append.mp h with h|h
   ·exact .inl h
   ·exact .inr (.inr h)
theorem mV {α:Type} (l:List α) (p:Nat) (x:α) (hp:p <= l.length) (i:Nat):(l.take p ++ x::l.drop p)[i]?=if i < p then l[i]? else if i=p then some x else l[i - 1]?:=by
 have:=dv l.toArray p x (by simpa using hp) i
 rw [<- Array.getElem?_toList,d_] at this
 simpa using this
theorem Tb.put {t:SetTable}{hs:List Int} (b:Tb t hs) {j:Nat}{h:Int} (hj:t.slot j=.empty) (hp:nY t.mask h j λk=>k ∈ t.place.toList) (hf:hs.length + 1 <= t.mask) :
  Tb (t.put j).1 (hs.take (t.put j).2 ++ h::hs.drop (t.put j).2):=by
 obtain ⟨q1,_,_⟩:=cO b.rise j
 have e2:(t.put j).2=SetTable.below t.place j:=rfl
 have e1:(t.put j).1.place=SetTable.insertAt t.place (SetTable.below t.place j) j:=rfl
 have em:(t.put j).1.mask=t.mask:=rfl
 have hd:(t.put j).1.dummies=#[]:=by
  show (if SetTable.has t.dummies j then _ else t.dummies)=#[]
  rw [if_neg (by unfold SetTable.has;rw [b.dum];simp)]
  exact b.dum
 have hl:SetTable.below t.place j <= hs.length:=by rw [<- b.sz];exact q1
 refine ⟨b.good,hd,jr b.rise (j6 hj),?_,?_,λi k g h1 h2=>?_⟩
 ·rw [e1,gJ _ _ _ q1,b.sz,e2]
  simp
  omega
 ·rw [em,e2]
  simp
  omega
 ·have up:∀ k,k ∈ t.place.toList->k ∈ (t.put j).1.place.toList:=λk hk=>mU.mpr (.inr hk)
  rw [e1,dv _ _ _ q1] at h1
  rw [e2,mV _ _ _ hl] at h2
  rw [em]
  by_cases c1:i < SetTable.below t.place j
  ·rw [if_pos c1] at h1 h2
   exact (b.path i k g h1 h2).mono up
  ·rw [if_neg c1] at h1 h2
   by_cases c2:i=SetTable.below t.place j
   ·rw [if_pos c2] at h1 h2
    cases h1
    cases h2
    exact hp.mono up
   ·rw [if_neg c2] at h1 h2
    exact (b.path (i - 1) k g h1 h2).mono up
noncomputable def Tk (ow:Array (Option Nat)) (k:Nat):Prop:=(ow.getD k (some 0)).isNone=false
theorem lU {m:Nat}{ow:Array (Option Nat)}:∀ (fuel:Nat) (q:SetTable.Probe) (k:Nat),q.j=q.i->q.more=SetTable.runEnd m q.i - q.i->SetTable.layClean.free m ow fuel q.i q.perturb=some k ->
  ∃ n,(itM m n q).j=k/\∀ n',n' < n->Tk ow (itM m n' q).j
 | 0,_,_,_,_,e=>by cases e
 | fuel + 1,q,k,h1,h2,e=>by
  rw [SetTable.layClean.free] at e
  have hr:SetTable.runEnd m q.i + 1 - q.i=q.more + 1:=by
   rw [h2]
   unfold SetTable.runEnd
   split <;> omega
  rw [hr] at e
  split at e
  ·rename_i k0 c
   cases e
   obtain ⟨c1,c2,c3⟩:=List.find?_range_eq_some.mp c
   have hk:k0 <= q.more:=by have:=List.mem_range.mp c2;omega
   refine ⟨k0,?_,λn' hn=>?_⟩
   ·rw [ki m k0 q hk]
    show q.j + k0=q.i + k0
    rw [h1]
   ·rw [ki m n' q (by omega)]
    show (ow.getD (q.j + n') (some 0)).isNone=false
    have:=c3 n' hn
    rw [h1]
    simpa using this
  ·rename_i c
   have l:=iA m q
   obtain ⟨n,a1,a2⟩:=lU fuel (itM m (q.more + 1) q) k (by rw [l]) (by rw [l]) (by rw [l];exact e)
   refine ⟨q.more + 1 + n,by rw [gj];exact a1,λn' hn=>?_⟩
   by_cases hq:n' < q.more + 1
   ·rw [ki m n' q (by omega)]
    show (ow.getD (q.j + n') (some 0)).isNone=false
    have:=List.find?_eq_none.mp c n' (List.mem_range.mpr hq)
    rw [h1]
    exact (Bool.not_eq_true _).mp this
   ·have:=a2 (n' - (q.more + 1)) (by omega)
    rw [<- gj] at this
    rw [show q.more + 1 + (n' - (q.more + 1))=n' by omega] at this
    exact this
noncomputable def nZ (m:Nat) (ow:Array (Option Nat)) (pre:List Int):Prop:=ow.size=m + 1/\∀ j i,ow.getD j none=some i->∃ h,pre[i]?=some h/\nY m h j (Tk ow)
theorem n4 {m:Nat}:∀ (hs:List Int) (ow ow':Array (Option Nat)) (pre:List Int) (k':Nat),nZ m ow pre->hs.foldl (rN m) (some (ow,pre.length))=some (ow',k')->nZ m ow' (pre ++ hs)
 | [],ow,ow',pre,k',o,e=>by
  cases e
  rw [List.append_nil]
  exact o
 | h::hs,ow,ow',pre,k',o,e=>by
  rw [List.foldl_cons] at e
  have none_go:∀ l:List Int,l.foldl (rN m) none=none:=λl=>by
   induction l with
   | nil=>rfl
   | cons x l ih=>rw [List.foldl_cons];exact ih
  have e1:rN m (some (ow,pre.length)) h=(SetTable.layClean.free m ow (SetTable.turns m) (SetTable.bits h % (m + 1)) (SetTable.bits h)).bind λj=>some (ow.setIfInBounds j (some pre.length),pre.length + 1):=rfl
  rw [e1] at e
  cases ef:SetTable.layClean.free m ow (SetTable.turns m) (SetTable.bits h % (m + 1)) (SetTable.bits h) with
  | none =>
   rw [ef,Option.bind_none,none_go] at e
   cases e
  | some j =>
   rw [ef,Option.bind_some] at e
   have hn:=i8 _ _ _ _ ef
   have hjs:j < ow.size:=by
    refine Decidable.byContradiction λz=>?_
    simp [Array.getD,z] at hn
   have up:∀ k,Tk ow k->Tk (ow.setIfInBounds j (some pre.length)) k:=λk hk=>by
    unfold Tk at hk ⊢
    rw [Array.getD_eq_getD_getElem?,Array.getElem?_setIfInBounds]
    by_cases z:j=k
    ·subst z
     rw [if_pos rfl,if_pos hjs]
     rfl
    ·rw [if_neg z,<- Array.getD_eq_getD_getElem?]
     exact hk
   have pj:nY m h j (Tk ow):=by
    obtain ⟨n,a1,a2⟩:=lU (SetTable.turns m) (stM m h) j rfl rfl ef
    exact ⟨n,a1,a2⟩
   have o':nZ m (ow.setIfInBounds j (some pre.length)) (pre ++ [h]):=by
    refine ⟨by rw [Array.size_setIfInBounds];exact o.1,λk i hi=>?_⟩
    rw [Array.getD_eq_getD_getElem?,Array.getElem?_setIfInBounds] at hi
    by_cases z:j=k
    ·subst z
     rw [if_pos rfl,if_pos hjs] at hi
     have:pre.length=i:=Option.some.inj hi
     subst this
     exact ⟨h,by simp,pj.mono up⟩
    ·rw [if_neg z,<- Array.getD_eq_getD_getElem?] at hi
     obtain ⟨g,h1,h2⟩:=o.2 k i hi
     refine ⟨g,?_,h2.mono up⟩
     rw [List.getElem?_append_left (List.getElem?_eq_some_iff.mp h1).1]
     exact h1
   have:=n4 hs (ow.setIfInBounds j (some pre.length)) ow' (pre ++ [h]) k' o' (by rw [List.length_append];exact e)
   rw [List.append_assoc] at this
   exact this
theorem Tb.laid {m:Nat} (hg:da m=true) {f mv:Nat}{led plain:Bool}{hs:Array Int}{t:SetTable}{order:Array Nat} (hm:hs.size <= m) (e:SetTable.laid m f mv led plain hs=some (t,order)) (hsz:t.place.size=hs.size) (hop:order.toList.Perm (List.range hs.size)) :
  Tb t (order.toList.filterMap λi=>hs[i]?)/\t.mask=m:=by
 unfold SetTable.laid at e
 cases ec:SetTable.layClean m hs with
 | none=>rw [ec] at e;cases e
 | some ow =>
  rw [ec] at e
  have e:=Option.some.inj e
  have e1:t.place=(((List.range (m + 1)).filterMap λj=>(ow.getD j none).map (j,·)).map (·.1)).toArray:=by rw [<- (Prod.mk.inj e).1]
  have e2:order=(((List.range (m + 1)).filterMap λj=>(ow.getD j none).map (j,·)).map (·.2)).toArray:=(Prod.mk.inj e).2.symm
  have e3:t.mask=m:=by rw [<- (Prod.mk.inj e).1]
  have e4:t.dummies=#[]:=by rw [<- (Prod.mk.inj e).1]
  have own:nZ m ow hs.toList:=by
   have o0:nZ m (Array.replicate (m + 1) none) []:=⟨by simp,λj i h=>by
    rw [Array.getD_eq_getD_getElem?] at h
    by_cases q:j < m + 1
    ·simp [q] at h
    ·simp [q] at h⟩
   unfold SetTable.layClean at ec
   rw [<- Array.foldl_toList] at ec
   obtain ⟨⟨ow1,k1⟩,h1,h2⟩:=Option.map_eq_some_iff.mp ec
   have h2:ow1=ow:=h2
   subst h2
   have:=n4 hs.toList (Array.replicate (m + 1) none) ow1 [] k1 o0 h1
   simpa using this
  have hr:fK t.place:=by rw [e1];exact nL (λj=>ow.getD j none) (m + 1)
  have hlen:(order.toList.filterMap λi=>hs[i]?).length=hs.size:=by
   have all:∀ l:List Nat,(∀ x ∈ l,x < hs.size)->(l.filterMap λi=>hs[i]?).length=l.length:=λl=>by
    induction l with
    | nil=>intro _;rfl
    | cons x l ih =>
     intro h
     rw [List.filterMap_cons,Array.getElem?_eq_getElem (h x (.head _))]
     simp [ih λy hy=>h y (.tail _ hy)]
   rw [all _ λx hx=>List.mem_range.mp (hop.mem_iff.mp hx),hop.length_eq,List.length_range]
  have live_at:∀ (i j:Nat) (h:Int),t.place[i]?=some j->(order.toList.filterMap λi=>hs[i]?)[i]?=some h->∃ k:Nat,ow.getD j none=some k/\hs[k]?=some h:=by
   have hall:∀ x ∈ order.toList,x < hs.size:=λx hx=>List.mem_range.mp (hop.mem_iff.mp hx)
   have hmem:∀ q ∈ ((List.range (m + 1)).filterMap λj=>(ow.getD j none).map (j,·)),ow.getD q.1 none=some q.2:=λq hq=>by
    obtain ⟨j,_,h2⟩:=List.mem_filterMap.mp hq
    obtain ⟨k,h3,h4⟩:=Option.map_eq_some_iff.mp h2
    rw [<- h4]
    exact h3
   rw [e2] at hall ⊢
   rw [e1]
   generalize ((List.range (m + 1)).filterMap λj=>(ow.getD j none).map (j,·))=live at hall hmem
   have fm:∀ l:List Nat,(∀ x ∈ l,x < hs.size)->(l.filterMap λi=>hs[i]?)=l.map λi=>hs.getD i 0:=λl=>by
    induction l with
    | nil=>intro _;rfl
    | cons x l ih =>
     intro h
     rw [List.filterMap_cons,Array.getElem?_eq_getElem (h x (.head _)),List.map_cons,<- ih λy hy=>h y (.tail _ hy)]
     simp [Array.getD,h x (.head _)]
   intro i j h h1 h2
   have hall2:∀ x ∈ live.map (·.2),x < hs.size:=λx hx=>hall x (by simpa using hx)
   rw [show (live.map (λx:Nat × Nat=>x.2)).toArray.toList=live.map (λx:Nat × Nat=>x.2) from rfl,fm _ hall2,List.map_map,List.getElem?_map] at h2
   rw [List.getElem?_toArray,List.getElem?_map] at h1
   obtain ⟨q,q1,q2⟩:=Option.map_eq_some_iff.mp h1
   rw [q1] at h2
   have h2:hs.getD q.2 0=h:=Option.some.inj h2
   refine ⟨q.2,?_,?_⟩
   ·rw [<- q2];exact hmem q (List.mem_of_getElem? q1)
   ·have:q.2 < hs.size:=hall2 _ (List.mem_map.mpr ⟨q,List.mem_of_getElem? q1,rfl⟩)
    rw [<- h2,Array.getElem?_eq_getElem this]
    simp [Array.getD,this]
  have taken:∀ k,k <= m->Tk ow k->k ∈ t.place.toList:=λk hk hT=>by
   rw [e1]
   have hk2:k < ow.size:=by rw [own.1];omega
   have:∃ i,ow.getD k none=some i:=by
    unfold Tk at hT
    rw [Array.getD_eq_getD_getElem?,Array.getElem?_eq_getElem hk2] at hT ⊢
    cases z:ow[k] with
    | none=>rw [z] at hT;cases hT
    | some i=>exact ⟨i,rfl⟩
   obtain ⟨i,hi⟩:=this
   refine List.mem_map.mpr ⟨(k,i),List.mem_filterMap.mpr ⟨k,List.mem_range.mpr (by omega),by rw [hi];rfl⟩,rfl⟩
  refine ⟨⟨by rw [e3];exact hg,e4,hr,by rw [hsz,hlen],by rw [hlen,e3];exact hm,λi j h h1 h2=>?_⟩,e3⟩
  obtain ⟨k,k1,k2⟩:=live_at i j h h1 h2
  obtain ⟨g,g1,n,g2,g3⟩:=own.2 j k k1
  rw [Array.getElem?_toList,k2] at g1
  cases g1
  rw [e3]
  refine ⟨n,g2,λn' hn=>taken _ ?_ (g3 n' hn)⟩
  have:=x9 (M:=m) n' (Br m h)
  omega
end L2.St
namespace L2.St
open PySem PyProof.Rows
section
variable {P:Program}{w:World}{A:Around}{E:Value->Shared->Prop}{s:Shared}
noncomputable abbrev eK (P:Program) (w:World) (h:Heap) (k:List Int) (b:Addr):Prop:=IsTupleKey (intKind P w) h k b
theorem items_int {k:List Int}{vs:List Value} (h:ItemsAre (intKind P w) k vs):∀ v ∈ vs,∃ i t,v=.int i t:=by
 induction h with
 | nil=>intro v hv;cases hv
 | cons h1 _ ih =>
  intro v hv
  rcases List.mem_cons.mp hv with rfl|hv
  ·obtain ⟨t,q⟩:=Value.isInt_shape (show Value.isInt _ v=true from h1)
   exact ⟨_,t,q⟩
  ·exact ih v hv
theorem lV {k:List Int}{b:Addr} (hk:eK P w s.heap k b) {Q:Bool->Shared->Prop} (h:Q false s):wpAny (model P w) A (ofAClassStatement 8 (.ref b)) Q E s:=by
 have hT:=hk.typeIs
 obtain ⟨o,items,n,ho,_,hd,hi⟩:=hk
 unfold ofAClassStatement
 refine wpAny_bind (wpAny_typeOf hT ?_)
 dsimp only
 refine wpAny_bind (wpAny_pure ?_)
 refine wpAny_ite_split (λz=>absurd z (by decide)) (λ_=>?_)
 refine wpAny_bind (wpAny_seqItems ho hd ?_)
 dsimp only
 refine wpAny_bind ?_
 rw [<- Array.forIn_toList]
 refine wpAny_forIn_list _ (λbb r s'=>r.1=none/\s'=s/\∀ v ∈ bb,∃ i t,v=.int i t) _ ?_ ?_ _ _ ⟨rfl,rfl,items_int hi⟩
 ·rintro v bb r s' ⟨hr,rfl,hall⟩
  obtain ⟨i,t,rfl⟩:=hall v (.head _)
  have e:ofAClassStatement 7 (.int i t)=pure false:=by unfold ofAClassStatement;rfl
  rw [e]
  refine wpAny_bind (wpAny_pure ?_)
  exact wpAny_pure ⟨rfl,rfl,λu hu=>hall u (.tail _ hu)⟩
 ·rintro ⟨r1,r2⟩ s' ⟨hr,rfl,_⟩
  simp only at hr
  subst hr
  exact wpAny_pure h
theorem ub {k:List Int}{b:Addr} (hk:eK P w s.heap k b) {Q:Bool->Shared->Prop} (h:Q true s):wpAny (model P w) A (hashByValue 8 (.ref b)) Q E s:=by
 have hT:=hk.typeIs
 obtain ⟨o,items,n,ho,_,hd,hi⟩:=hk
 unfold hashByValue
 refine wpAny_bind (wpAny_specialOf hT F.slot_tuple_hash.lookup ?_)
 dsimp only
 refine wpAny_bind (wpAny_seqItems ho hd ?_)
 dsimp only [Option.getD]
 refine wpAny_bind ?_
 rw [<- Array.forIn_toList]
 refine wpAny_forIn_list _ (λbb r s'=>r.1=none/\s'=s/\∀ v ∈ bb,∃ i t,v=.int i t) _ ?_ ?_ _ _ ⟨rfl,rfl,items_int hi⟩
 ·rintro v bb r s' ⟨hr,rfl,hall⟩
  obtain ⟨i,t,rfl⟩:=hall v (.head _)
  have e:hashByValue 7 (.int i t)=pure true:=by unfold hashByValue;rfl
  rw [e]
  refine wpAny_bind (wpAny_pure ?_)
  exact wpAny_pure ⟨rfl,rfl,λu hu=>hall u (.tail _ hu)⟩
 ·rintro ⟨r1,r2⟩ s' ⟨hr,rfl,_⟩
  simp only at hr
  subst hr
  exact wpAny_pure h
theorem pF {k:List Int}{b:Addr} (hk:eK P w s.heap k b) {l:List Value} (hl:∀ v ∈ l,∃ k' b',v=.ref b'/\eK P w s.heap k' b') {Q:Bool->Shared->Prop} (h:Q false s):wpAny (model P w) A (searchCouldBeSeen (.ref b) l) Q E s:=by
 unfold searchCouldBeSeen
 refine wpAny_bind ?_
 refine wpAny_forIn_list _ (λbb r s'=>r.1=none/\s'=s/\∀ v ∈ bb,∃ k' b',v=.ref b'/\eK P w s.heap k' b') _ ?_ ?_ _ _ ⟨rfl,rfl,hl⟩
 ·rintro v bb r s' ⟨hr,rfl,hall⟩
  obtain ⟨k',b',rfl,hk'⟩:=hall v (.head _)
  have go:=λu hu=>hall u (.tail _ hu)
  refine wpAny_ite_split (λ_=>wpAny_pure ⟨rfl,rfl,go⟩) (λ_=>?_)
  refine wpAny_bind (wpAny_eqIsQuiet_tuple hk ?_)
  refine wpAny_ite_split (λz=>absurd z (by decide)) (λ_=>?_)
  refine wpAny_bind (wpAny_eqIsQuiet_tuple hk' ?_)
  refine wpAny_ite_split (λz=>absurd z (by decide)) (λ_=>?_)
  refine wpAny_bind (lV hk ?_)
  refine wpAny_ite_split (λz=>absurd z (by decide)) (λ_=>?_)
  refine wpAny_bind (lV hk' ?_)
  refine wpAny_ite_split (λz=>absurd z (by decide)) (λ_=>?_)
  exact wpAny_pure ⟨rfl,rfl,go⟩
 ·rintro ⟨r1,r2⟩ s' ⟨hr,rfl,_⟩
  simp only at hr
  subst hr
  exact wpAny_pure h
noncomputable abbrev hT (P:Program) (w:World) (k:List Int):Int:=tupleKeyHash (intKind P w) k
noncomputable abbrev ce (P:Program) (w:World) (q:List Int × Addr):Int × Value:=(hT P w q.1,.ref q.2)
structure iB (P:Program) (w:World) (h:Heap) (a:Addr) (kbs:List (List Int × Addr)) (o:Obj) (ep:Nat) (t:SetTable):Prop where
 ho:h.get? a=some o
 ex:o.ExactSet
 hd:o.data=.set (kbs.map (ce P w)).toArray ep t
 keys:∀ q ∈ kbs,eK P w h q.1 q.2
 nd:(kbs.map (·.1)).Nodup
 tb:Tb t (kbs.map λq=>hT P w q.1)
 odd:t.mask % 2=1/\t.mask <= 255
 led:t.led=!byT w
theorem iB.fits {h:Heap}{a:Addr}{kbs:List (List Int × Addr)}{o:Obj}{ep:Nat}{t:SetTable} (g:iB P w h a kbs o ep t):t.fits (kbs.map (ce P w)).toArray.size=true:=by
 have h1:=g.tb.sz
 have h2:=g.tb.fill
 have h3:t.fill=t.place.size:=by unfold SetTable.fill;rw [g.tb.dum];rfl
 rw [List.length_map] at h1 h2
 unfold SetTable.fits
 rw [h3,h1]
 simp
 exact h2
theorem uc {a:Addr}{kbs:List (List Int × Addr)}{o:Obj}{ep:Nat}{t:SetTable}{hp:Heap} (g:iB P w hp a kbs o ep t) {ha:Nat->Int} (hha:∀ i,ha i=(((kbs.map (ce P w)).toArray[i]?).map (·.1)).getD 0) {h:Int}{p:SetTable.Probe} (h1:p.more <= 9) (h2:p.perturb < 2 ^ 64) {pr:Option SetTable.Met} (e:t.probe ha h p=pr) :
  ∃ n,(∀ m,m < n->∃ i q,t.slot (itM t.mask m p).j=.live i/\kbs[i]?=some q/\hT P w q.1 ≠ h)/\((t.slot (itM t.mask n p).j=.empty/\pr=some (.empty (itM t.mask n p).j p.dummy)) \/
   ∃ i q,t.slot (itM t.mask n p).j=.live i/\kbs[i]?=some q/\hT P w q.1=h/\pr=some (.candidate (itM t.mask n p).j i (itM t.mask (n + 1) p))):=by
 obtain ⟨e0,he0,hs0⟩:=lS g.tb.dum g.tb.rise (by rw [g.tb.sz];exact g.tb.fill)
 obtain ⟨n0,hn0,hj0⟩:=x0 g.tb.good h1 h2 he0
 have ent:∀ (i j:Nat),t.slot j=.live i->∃ q,kbs[i]?=some q/\ha i=hT P w q.1:=λi j hs=>by
  have:=(gk g.tb.rise).mp hs
  have hi:=(Array.getElem?_eq_some_iff.mp this).1
  rw [g.tb.sz,List.length_map] at hi
  refine ⟨kbs[i],List.getElem?_eq_getElem hi,?_⟩
  rw [hha]
  simp [hi]
 obtain ⟨n,c1,c2⟩:=lT g.tb.dum (ha:=ha) (h:=h) (10 * SetTable.turns t.mask) p ⟨n0,hn0,by rw [hj0];exact hs0⟩
 refine ⟨n,λm hm=>?_,?_⟩
 ·obtain ⟨i,d1,d2⟩:=c1 m hm
  obtain ⟨q,d3,d4⟩:=ent i _ d1
  exact ⟨i,q,d1,d3,by rw [<- d4];exact d2⟩
 ·rcases c2 with ⟨d1,d2⟩|⟨i,d1,d2,d3⟩
  ·exact .inl ⟨d1,e.symm.trans d2⟩
  ·obtain ⟨q,d4,d5⟩:=ent i _ d1
   exact .inr ⟨i,q,d1,d4,by rw [<- d5];exact d2,e.symm.trans d3⟩
set_option maxRecDepth 100000 in
theorem n5 {a b:Addr}{k:List Int}{kbs:List (List Int × Addr)}{o:Obj}{ep:Nat}{t:SetTable} (g:iB P w s.heap a kbs o ep t) (hk:eK P w s.heap k b) (hu:A.units < cLine) {Q:SetFound->Shared->Prop}
  (Qt:k ∈ kbs.map (·.1)->Q (.there none) s) (Qf:∀ j,k ∉ kbs.map (·.1)->t.slot j=.empty->nY t.mask (hT P w k) j (λx=>x ∈ t.place.toList)->Q (.free j false) s) :
  ∀ (fuel m0 N:Nat) (stand:Option SetTable.Probe),t.slot (itM t.mask N (stM t.mask (hT P w k))).j=.empty->m0 <= N->N - m0 < fuel->stand.getD (t.probeStart (hT P w k))=itM t.mask m0 (stM t.mask (hT P w k)) ->
   (∀ m,m < m0->∃ i q,t.slot (itM t.mask m (stM t.mask (hT P w k))).j=.live i/\kbs[i]?=some q/\q.1 ≠ k) ->
   wpAny (model P w) A (setSearchFrom a (.ref b) (hT P w k) true fuel stand) Q E s
 | 0,m0,N,stand,_,_,h3,_,_=>by omega
 | fuel + 1,m0,N,stand,h1,h2,h3,h4,h5=>by
  unfold setSearchFrom
  refine wpAny_bind (wpAny_setState_of g.ho g.hd g.fits ?_)
  dsimp only
  refine wpAny_ite_split (λz=>absurd z (by unfold SetTable.gaveWay;have:=g.odd.1;simp;omega)) (λ_=>?_)
  generalize hpr:SetTable.probe t _ _ _=pr
  rw [h4] at hpr
  obtain ⟨so1,so2⟩:=xY t.mask (hT P w k)
  obtain ⟨io1,io2,io3⟩:=xX (M:=t.mask) m0 so1 so2
  obtain ⟨n,c1,c2⟩:=uc g (λi=>rfl) io1 io2 hpr
  simp only [<- gj] at c1 c2
  have road:∀ m,m < m0 + n->∃ i q,t.slot (itM t.mask m (stM t.mask (hT P w k))).j=.live i/\kbs[i]?=some q/\q.1 ≠ k:=λm hm=>by
   by_cases q:m < m0
   ·exact h5 m q
   ·obtain ⟨i,r,d1,d2,d3⟩:=c1 (m - m0) (by omega)
    rw [show m0 + (m - m0)=m by omega] at d1
    exact ⟨i,r,d1,d2,λz=>d3 (by rw [z])⟩
  have hN:m0 + n <= N:=by
   refine Decidable.byContradiction λz=>?_
   obtain ⟨i,q,d1,_⟩:=road N (by omega)
   rw [h1] at d1
   cases d1
  have inP:∀ {m i:Nat},t.slot (itM t.mask m (stM t.mask (hT P w k))).j=.live i->(itM t.mask m (stM t.mask (hT P w k))).j ∈ t.place.toList:=λ{m i} hs=>(mT g.tb.dum g.tb.rise).mp λz=>by rw [hs] at z;cases z
  rcases c2 with ⟨d1,d2⟩|⟨i,q,d1,d2,d3,d4⟩
  ·subst d2
   dsimp only
   rw [io3]
   refine wpAny_pure (Qf _ (λhm=>?_) d1 ⟨m0 + n,rfl,λm hm=>?_⟩)
   ·obtain ⟨r,hr,hrk⟩:=List.mem_map.mp hm
    obtain ⟨i0,hi0⟩:=List.getElem?_of_mem hr
    have hlt:i0 < t.place.size:=by
     rw [g.tb.sz,List.length_map]
     exact (List.getElem?_eq_some_iff.mp hi0).1
    obtain ⟨m,p1,p2⟩:=g.tb.path i0 t.place[i0] (hT P w k) (Array.getElem?_eq_getElem hlt) (by rw [List.getElem?_map,hi0,<- hrk];rfl)
    have ls:t.slot (itM t.mask m (stM t.mask (hT P w k))).j=.live i0:=by rw [p1];exact (gk g.tb.rise).mpr (Array.getElem?_eq_getElem hlt)
    rcases Nat.lt_trichotomy m (m0 + n) with z|z|z
    ·obtain ⟨i1,q1,f1,f2,f3⟩:=road m z
     rw [ls] at f1
     cases f1
     rw [hi0] at f2
     cases f2
     exact f3 hrk
    ·rw [z,d1] at ls
     cases ls
    ·have:=p2 (m0 + n) z
     exact (mT g.tb.dum g.tb.rise).mpr this d1
   ·obtain ⟨i1,q1,f1,_⟩:=road m hm
    exact inP f1
  ·subst d4
   have hi:(kbs.map (ce P w)).toArray[i]?=some (ce P w q):=by simp [d2]
   have hq:q ∈ kbs:=List.mem_of_getElem? d2
   have hsm:t.sameMemory t.moves t.mask=some true:=by unfold SetTable.sameMemory;simp
   have more:(∀ m,m < m0 + (n + 1)->∃ i q,t.slot (itM t.mask m (stM t.mask (hT P w k))).j=.live i/\kbs[i]?=some q/\q.1 ≠ k)->m0 + (n + 1) <= N->wpAny (model P w) A (setSearchFrom a (.ref b) (hT P w k) true fuel (some (itM t.mask (m0 + (n + 1)) (stM t.mask (hT P w k))))) Q E s :=
    λr1 r2=>n5 g hk hu Qt Qf fuel (m0 + (n + 1)) N _ h1 r2 (by omega) rfl r1
   simp only [hi]
   refine wpAny_ite_split (λ_=>wpAny_bind (pF hk (λv hv=>?_) (wpAny_ite_split (λz=>absurd z (by decide)) (λ_=>?_)))) (λ_=>?_)
   ·obtain ⟨x,hx,rfl⟩:=List.mem_map.mp hv
    have hx2:x ∈ (kbs.map (ce P w)).toArray.toList:=by
     have:=Array.mem_of_mem_filter (Array.mem_def.mpr hx)
     exact Array.mem_def.mp this
    obtain ⟨r,hr,rfl⟩:=List.mem_map.mp hx2
    exact ⟨r.1,r.2,rfl,g.keys r hr⟩
   all_goals
    refine wpAny_bind (wpAny_holding (wpAny_eqBool_tuple hu (g.keys q hq) hk ?_))
    refine wpAny_bind (wpAny_setState_of g.ho g.hd g.fits ?_)
    dsimp only
    by_cases e:q.1=k
    ·refine wpAny_ite_split (λ_=>wpAny_pure (Qt (List.mem_map.mpr ⟨q,hq,e⟩))) (λz=>absurd (by simp [e]) z)
    ·refine wpAny_ite_split (λz=>absurd z (by simp [e])) (λ_=>?_)
     rw [hsm]
     dsimp only
     rw [if_pos rfl,d1]
     dsimp only
     rw [hi]
     dsimp only
     refine wpAny_bind (wpAny_isSame_ref_self (wpAny_bind (wpAny_pure ?_)))
     show wpAny _ _ (if decide (q.1=k)=true then _ else _) _ _ _
     refine wpAny_ite_split (λz=>absurd z (by simp [e])) (λ_=>?_)
     refine more (λm hm=>?_) ?_
     ·by_cases c:m < m0 + n
      ·exact road m c
      ·have:m=m0 + n:=by omega
       subst this
       exact ⟨i,q,d1,d2,e⟩
     ·refine Decidable.byContradiction λz=>?_
      have:N=m0 + n:=by omega
      rw [this,d1] at h1
      cases h1
end
end L2.St
namespace L2.St
open PySem PyProof.Rows
section
variable {P:Program}{w:World}{A:Around}{E:Value->Shared->Prop}{s:Shared}
theorem eK.ne {h:Heap}{k:List Int}{b a:Addr}{o:Obj}{es:Array (Int × Value)}{ep:Nat}{t:SetTable} (hk:eK P w h k b) (ho:h.get? a=some o) (hd:o.data=.set es ep t):b ≠ a:=by
 rintro rfl
 obtain ⟨o',items,n,ho',_,hd',_⟩:=hk
 rw [ho] at ho'
 cases ho'
 rw [hd] at hd'
 cases hd'
theorem eK.at {h h':Heap}{k:List Int}{b:Addr} (hk:eK P w h k b) (e:∀ o,h.get? b=some o->h'.get? b=some o):eK P w h' k b:=by
 obtain ⟨o',items,n,ho',r⟩:=hk
 exact ⟨o',items,n,e _ ho',r⟩
noncomputable def km (P:Program) (w:World) (h:Heap) (a:Addr) (ks:List (List Int)) (src:List (List Int × Addr)):Prop :=
 ∃ kbs o ep t,iB P w h a kbs o ep t/\(kbs.map (·.1)).Perm ks/\kbs.length * 5 < t.mask * 3/\∀ q ∈ kbs,q ∈ src
theorem iB.at {h h':Heap}{a:Addr}{kbs:List (List Int × Addr)}{o:Obj}{ep:Nat}{t:SetTable} (g:iB P w h a kbs o ep t) (k:∀ b o,h.get? b=some o->h'.get? b=some o):iB P w h' a kbs o ep t :=
 ⟨k _ _ g.ho,g.ex,g.hd,λq hq=>(g.keys q hq).at (k _),g.nd,g.tb,g.odd,g.led⟩
theorem qr {h:Heap}{a:Addr}{kbs kbs':List (List Int × Addr)}{o:Obj}{ep:Nat}{t t':SetTable} (g:iB P w h a kbs o ep t) (hk:∀ q ∈ kbs',eK P w h q.1 q.2) (nd:(kbs'.map (·.1)).Nodup) (tb:Tb t' (kbs'.map λq=>hT P w q.1)) (odd:t'.mask % 2=1/\t'.mask <= 255) (led:t'.led=!byT w) :
  iB P w (h.update a (Obj.putSet (kbs'.map (ce P w)).toArray t')) a kbs' { o with data:=.set (kbs'.map (ce P w)).toArray (ep + 1) t' } (ep + 1) t':=by
 have hq:(h.update a (Obj.putSet (kbs'.map (ce P w)).toArray t')).get? a=some { o with data:=.set (kbs'.map (ce P w)).toArray (ep + 1) t' }:=by
  have:=Heap.get?_update_self (Obj.putSet (kbs'.map (ce P w)).toArray t') g.ho (by rw [putSet_of _ t' g.hd];rfl)
  rw [putSet_of _ t' g.hd] at this;exact this
 refine ⟨hq,g.ex,rfl,λq hq'=>(hk q hq').at λo' e=>?_,nd,tb,odd,led⟩
 have:=(hk q hq').ne g.ho g.hd
 rw [(Heap.SameBut.update h a _).2 _ this]
 exact e
theorem kn {kbs:List (List Int × Addr)} (h:kbs.length <= 60):(kbs.map (ce P w)).toArray.size < scanBound:=by
 rw [List.size_toArray,List.length_map]
 unfold scanBound
 omega
theorem wR {a:Addr}{kbs:List (List Int × Addr)}{o:Obj}{ep:Nat}{t:SetTable} (g:iB P w s.heap a kbs o ep t) (hn:kbs.length <= 60) {wanted:Nat} (hw:wanted < 241) (hl:kbs.length <= wanted) {Q:Unit->Shared->Prop}
  (h:∀ h' kbs' o' ep' t',Heap.SameBut a s.heap h'->iB P w h' a kbs' o' ep' t'->kbs'.Perm kbs->wanted <= t'.mask->Q () { s with heap:=h' }):wpAny (model P w) A (setRelay a wanted) Q E s:=by
 obtain ⟨hg,hle,hz⟩:=mP hw
 unfold setRelay
 refine wpAny_bind (wpAny_setState_of g.ho g.hd g.fits ?_)
 dsimp only
 rw [if_neg (by have:=ql;omega)]
 have hs:((kbs.map (ce P w)).toArray.map (·.1)).size=kbs.length:=by simp
 obtain ⟨t',order,e1,e2,e3,e4,e5⟩:=mO hg (f:=t.finger) (mv:=t.movedTo (SetTable.sizeAbove wanted - 1)) (led:=t.led) (plain:=t.plain) (hs:=(kbs.map (ce P w)).toArray.map (·.1)) (by rw [hs];omega)
 have e1':t.relaid ((kbs.map (ce P w)).toArray.map (·.1)) wanted=some (t',order):=e1
 obtain ⟨tb,_⟩:=Tb.laid hg (by rw [hs];omega) e1 e3 e2
 rw [hs] at e2 e3
 have led:t'.led=t.led:=by
  unfold SetTable.laid at e1
  cases ec:SetTable.layClean (SetTable.sizeAbove wanted - 1) ((kbs.map (ce P w)).toArray.map (·.1)) with
  | none=>rw [ec] at e1;cases e1
  | some ow =>
   rw [ec] at e1
   have:=Option.some.inj e1
   rw [<- (Prod.mk.inj this).1]
 obtain ⟨kbs',hkbs'⟩:∃ kbs',kbs'=order.toList.filterMap (kbs[·]?):=⟨_,rfl⟩
 have hall:∀ x ∈ order.toList,x < kbs.length:=λx hx=>List.mem_range.mp (e2.mem_iff.mp hx)
 have hes:order.filterMap ((kbs.map (ce P w)).toArray[·]?)=(kbs'.map (ce P w)).toArray:=by
  apply Array.ext'
  rw [Array.toList_filterMap,hkbs']
  show _=(order.toList.filterMap (kbs[·]?)).map (ce P w)
  rw [List.map_filterMap]
  congr 1
  funext i
  simp
 have hpm:kbs'.Perm kbs:=by
  rw [hkbs']
  refine (e2.filterMap _).trans ?_
  have:=PySem.List.filterMap_getElem?_range_length kbs
  rw [this]
 have hhs:(order.toList.filterMap λi=>((kbs.map (ce P w)).toArray.map (·.1))[i]?)=kbs'.map λq=>hT P w q.1:=by
  rw [hkbs',List.map_filterMap]
  congr 1
  funext i
  simp
  rfl
 rw [hhs] at tb
 rw [e1']
 refine wpAny_bind (wpAny_of_eq (a:=((kbs'.map (ce P w)).toArray,t')) ?_ ?_)
 ·show (if ((order.filterMap ((kbs.map (ce P w)).toArray[·]?)).size != (kbs.map (ce P w)).toArray.size)=true then _ else _)=_
  rw [hes,if_neg (by simp [hpm.length_eq])]
 ·dsimp only
  have hodd:t'.mask % 2=1/\t'.mask <= 255:=by
   rw [e4]
   obtain ⟨q,_⟩:=xW wanted hw
   rcases q with q|q|q|q|q|q <;> rw [q] <;> exact ⟨by decide,by decide⟩
  refine wpAny_storeSet_of g.ho g.hd ?_ (fits_of_scanBound (kn (by rw [hpm.length_eq];exact hn)))
  exact h _ kbs' _ _ t' (Heap.SameBut.update _ a _) (qr g (λq hq=>g.keys q (hpm.mem_iff.mp hq)) ((hpm.map _).nodup_iff.mpr g.nd) tb hodd (by rw [led];exact g.led)) hpm (by rw [e4];exact hle)
theorem zl {a b:Addr}{k:List Int}{ks:List (List Int)}{src:List (List Int × Addr)}{Q:Bool->Shared->Prop} (g:km P w s.heap a ks src) (hsrc:(k,b) ∈ src) (hk:eK P w s.heap k b) (hu:A.units < cLine) (hn:ks.length + 1 <= 60)
  (h:∀ h' r,Heap.SameBut a s.heap h'->km P w h' a (if k ∈ ks then ks else k::ks) src->Q r { s with heap:=h' }):wpAny (model P w) A (setAddHashed a (.ref b) (hT P w k)) Q E s:=by
 obtain ⟨kbs,o,ep,t,g,pm,nf,sub⟩:=g
 have hl:kbs.length=ks.length:=by have:=pm.length_eq;rwa [List.length_map] at this
 have hm:k ∈ kbs.map (·.1) ↔ k ∈ ks:=pm.mem_iff
 obtain ⟨e0,he0,hs0⟩:=lS g.tb.dum g.tb.rise (by rw [g.tb.sz];exact g.tb.fill)
 obtain ⟨so1,so2⟩:=xY t.mask (hT P w k)
 obtain ⟨N,hN,hj⟩:=x0 g.tb.good so1 so2 he0
 have hmk:=g.odd.2
 unfold setAddHashed setAddHashedIn
 refine wpAny_holding (wpAny_bind (wpAny_setState_of g.ho g.hd g.fits ?_))
 dsimp only
 rw [if_neg (by simp [byScan,Value.scannable])]
 unfold setSearch
 refine wpAny_bind (n5 g hk hu (λhin=>?_) (λj hout hse hpa=>?_) 100000 0 N none (by rw [hj];exact hs0) (Nat.zero_le _) (by unfold SetTable.turns at hN;omega) rfl λm hm=>by omega)
 ·refine wpAny_pure (h s.heap false (Heap.SameBut.refl a s.heap) ?_)
  rw [if_pos (hm.mp hin)]
  exact ⟨kbs,o,ep,t,g,pm,nf,sub⟩
 ·rw [if_neg λz=>hout (hm.mpr z)] at h
  dsimp only
  refine wpAny_bind (wpAny_setState_of g.ho g.hd g.fits ?_)
  dsimp only
  have hp:(t.put j).2 <= kbs.length:=by
   obtain ⟨q1,_,_⟩:=cO g.tb.rise j
   have:=g.tb.sz
   rw [List.length_map] at this
   rw [<- this]
   exact q1
  obtain ⟨kbs1,hkbs1⟩:∃ l,l=kbs.take (t.put j).2 ++ (k,b)::kbs.drop (t.put j).2:=⟨_,rfl⟩
  have pm1:kbs1.Perm ((k,b)::kbs):=by
   rw [hkbs1]
   have:=(List.perm_middle (a:=(k,b)) (l₁:=kbs.take (t.put j).2) (l₂:=kbs.drop (t.put j).2))
   rw [List.take_append_drop] at this
   exact this
  have l1:kbs1.length=kbs.length + 1:=by rw [pm1.length_eq];rfl
  have hes:SetTable.insertAt (kbs.map (ce P w)).toArray (t.put j).2 (hT P w k,Value.ref b)=(kbs1.map (ce P w)).toArray:=by
   apply Array.ext'
   rw [d_,hkbs1]
   simp
  have mk:(t.put j).1.mask=t.mask:=rfl
  have tb1:Tb (t.put j).1 (kbs1.map λq=>hT P w q.1):=by
   have:=g.tb.put hse hpa (by rw [List.length_map];omega)
   rw [hkbs1]
   simpa using this
  have k1:∀ q ∈ kbs1,eK P w s.heap q.1 q.2:=λq hq=>by
   rcases List.mem_cons.mp (pm1.mem_iff.mp hq) with rfl|hq
   ·exact hk
   ·exact g.keys q hq
  have sub1:∀ q ∈ kbs1,q ∈ src:=λq hq=>by
   rcases List.mem_cons.mp (pm1.mem_iff.mp hq) with rfl|hq
   ·exact hsrc
   ·exact sub q hq
  have nd1:(kbs1.map (·.1)).Nodup:=(pm1.map _).nodup_iff.mpr (List.nodup_cons.mpr ⟨hout,g.nd⟩)
  have g1:=qr g k1 nd1 tb1 (by rw [mk];exact g.odd) (show (t.put j).1.led=_ from g.led)
  have pk1:(kbs1.map (·.1)).Perm (k::ks):=(pm1.map _).trans (pm.cons k)
  have sb1:=Heap.SameBut.update s.heap a (Obj.putSet (kbs1.map (ce P w)).toArray (t.put j).1)
  have bb:wpAny (model P w) A (storeSet a (kbs1.map (ce P w)).toArray (t.put j).1 >>= λ_=>if (!false&&(t.put j).1.tooFull)=true then (do
     setRelay a (SetTable.grown ((kbs.map (ce P w)).toArray.size + 1))
     pure true) else pure true) Q E s:=by
   refine wpAny_bind (wpAny_storeSet_of g.ho g.hd ?_ (fits_of_scanBound (kn (by omega))))
   refine wpAny_ite_split (λ_=>?_) (λz=>?_)
   ·have hgr:SetTable.grown ((kbs.map (ce P w)).toArray.size + 1)=(kbs.length + 1) * 4:=by
     unfold SetTable.grown
     rw [if_neg (by simp;omega)]
     simp
    rw [hgr]
    refine wpAny_bind (wR (s:={ s with heap:=s.heap.update a (Obj.putSet (kbs1.map (ce P w)).toArray (t.put j).1) }) g1 (by omega) (by omega) (by omega) λh2 kbs2 o2 ep2 t2 sb2 g2 pm2 hm2=>wpAny_pure ?_)
    have l2:=pm2.length_eq
    exact h h2 true (sb1.trans sb2) ⟨kbs2,o2,ep2,t2,g2,(pm2.map _).trans pk1,by omega,λq hq=>sub1 q (pm2.mem_iff.mp hq)⟩
   ·refine wpAny_pure (h _ true sb1 ⟨kbs1,_,_,_,g1,pk1,?_,sub1⟩)
    have hf:(t.put j).1.tooFull=false:=by simpa using z
    have hfl:(t.put j).1.fill=kbs1.length:=by
     unfold SetTable.fill
     rw [tb1.dum,tb1.sz,List.length_map]
     rfl
    unfold SetTable.tooFull at hf
    rw [hfl] at hf
    have:=of_decide_eq_false hf
    omega
  rw [hes]
  refine wpAny_ite_split (λ_=>wpAny_bind (ub hk ?_)) (λ_=>wpAny_bind (wpAny_pure ?_))
  ·exact bb
  ·exact bb
end
end L2.St
namespace L2.St
open PySem PyProof.Rows
noncomputable def ddT:List (List Int)->List (List Int)
 | []=>[]
 | k::r=>if k ∈ ddT r then ddT r else k::ddT r
theorem ddT_mem {k:List Int}:∀ {l:List (List Int)},k ∈ ddT l ↔ k ∈ l
 | []=>Iff.rfl
 | x::r=>by
  show k ∈ (if x ∈ ddT r then ddT r else x::ddT r) ↔ _
  have ih:=@ddT_mem k r
  by_cases h:x ∈ ddT r
  ·rw [if_pos h,ih,List.mem_cons]
   exact ⟨.inr,λz=>z.elim (λe=>by rw [e];exact ddT_mem.mp h) id⟩
  ·rw [if_neg h,List.mem_cons,List.mem_cons,ih]
theorem ddT_nodup:∀ l:List (List Int),(ddT l).Nodup
 | []=>List.nodup_nil
 | x::r=>by
  show (if x ∈ ddT r then ddT r else x::ddT r).Nodup
  by_cases h:x ∈ ddT r
  ·rw [if_pos h];exact ddT_nodup r
  ·rw [if_neg h];exact List.nodup_cons.mpr ⟨h,ddT_nodup r⟩
theorem mW:∀ l:List (List Int),(ddT l).length <= l.length
 | []=>Nat.le_refl _
 | x::r=>by
  show (if x ∈ ddT r then ddT r else x::ddT r).length <= _
  have:=mW r
  by_cases h:x ∈ ddT r
  ·rw [if_pos h,List.length_cons];omega
  ·rw [if_neg h,List.length_cons,List.length_cons];omega
section
variable {P:Program}{w:World}{A:Around}{R:Result->Shared->Prop}{I S:Addr}{fp wr:List Addr}{n:Nat}{St:Nat->Heap->Prop}
theorem km.but {h h':Heap}{a:Addr}{ks:List (List Int)}{src:List (List Int × Addr)}{ws:List Addr} (g:km P w h a ks src) (k:∀ b o,b ∉ ws->h.get? b=some o->h'.get? b=some o) (ha:a ∉ ws) (hs:∀ q ∈ src,q.2 ∉ ws):km P w h' a ks src:=by
 obtain ⟨kbs,o,ep,t,g,pm,nf,sub⟩:=g
 exact ⟨kbs,o,ep,t,⟨k _ _ ha g.ho,g.ex,g.hd,λq hq=>(g.keys q hq).at λo e=>k _ _ (hs q (sub q hq)) e,g.nd,g.tb,g.odd,g.led⟩,pm,nf,sub⟩
theorem ud {B:Around}{Pv Pv':Nat->Value->Prop} (W:Walks P w B I fp wr n Pv St) (h:∀ i v,Pv i v->Pv' i v):Walks P w B I fp wr n Pv' St where
 sub:=W.sub
 frame:=W.frame
 item:=λi s Q E hi st hQ=>W.item i s Q E hi st λv h' tk pv=>hQ v h' tk (h i v pv)
 done:=W.done
 self:=W.self
theorem Bs {s:Shared}{E:Value->Shared->Prop}{B:Around}{ks:List (List Int)}{src:List (List Int × Addr)}{k:List Int}{b:Addr} (g:km P w s.heap S ks src) (hsrc:(k,b) ∈ src) (hk:eK P w s.heap k b) (hu:B.units < cLine) (room:ks.length + 1 <= 60) {Q:Bool->Shared->Prop}
  (h:∀ r s',But [S] s s'->km P w s'.heap S (if k ∈ ks then ks else k::ks) src->(∀ b,b ≠ S->s'.heap.get? b=s.heap.get? b)->Q r s'):wpAny (model P w) B (setAdd S (.ref b)) Q E s:=by
 unfold setAdd
 refine wpAny_holding (wpAny_bind (wpAny_pyHash_tuple (knd:=intKind P w) hu hk ?_))
 refine zl (s:={ s with toks:=s.toks + (k.length + 1) }) g hsrc hk hu room λh' r sb g'=>h r _ ⟨h',_,rfl,λc o hc e=>?_⟩ g' λc hc=>?_
 ·rw [sb.2 c (by simpa using hc)];exact e
 ·exact sb.2 c hc
theorem lW (W:Walks P w A.in1 I fp wr n (λi v=>∃ q,src[i]?=some q/\v=.ref q.2) St) (hu:A.in1.units < cLine) (hS:S ∉ fp) (hn:src.length=n) (hb:n <= 60) (hsrc:∀ q ∈ src,q.2 ∉ S::wr) :
  ∀ (m i:Nat) (s:Shared),i + m=n->St i s.heap->(∀ q ∈ src,eK P w s.heap q.1 q.2)->km P w s.heap S (ddT ((src.map (·.1)).take i).reverse) src->(∀ s',But (S::wr) s s'->km P w s'.heap S (ddT (src.map (·.1)).reverse) src->R (.ok (.ret .none)) s') ->
   codeAny (model P w) A (upd S I) R s
 | 0,i,s,e,st,hk,g,h=>by
  have hi:i=n:=e
  subst hi
  refine iu (W.done s _ _ st λh' tk kp=>h _ ⟨h',tk,rfl,λb o hb'=>kp b o λz=>hb' (.tail _ z)⟩ ?_)
  rw [List.take_of_length_le (by rw [List.length_map];omega)] at g
  exact g.but kp (λz=>hS (W.sub S z)) λq hq z=>hsrc q hq (.tail _ z)
 | m + 1,i,s,e,st,hk,g,h=>by
  have hi:i < n:=by omega
  refine iu (W.item i s _ _ hi st λv h1 tk1 pv st1 kp=>?_)
  obtain ⟨q,hq,rfl⟩:=pv
  have hqm:q ∈ src:=List.mem_of_getElem? hq
  have b1:But wr s { s with heap:=h1,toks:=tk1 }:=⟨h1,tk1,rfl,kp⟩
  have l:(ddT ((src.map (·.1)).take i).reverse).length + 1 <= 60:=by
   have:=mW ((src.map (·.1)).take i).reverse
   simp at this;omega
  have keep:∀ q ∈ src,eK P w h1 q.1 q.2:=λq hq=>(hk q hq).at λo e=>kp _ _ (λz=>hsrc q hq (.tail _ z)) e
  refine Bs (s:={ s with heap:=h1,toks:=tk1 }) (g.but kp (λz=>hS (W.sub S z)) λq hq z=>hsrc q hq (.tail _ z)) (k:=q.1) (b:=q.2) hqm (keep q hqm) hu l λ_ s2 b2 g2 st2=>?_
  refine lW W hu hS hn hb hsrc m (i + 1) s2 (by omega) (W.frame _ h1 _ st1 λb hb' o e'=>?_) (λq hq=>(keep q hq).at λo e=>?_) ?_ λs3 b3 g3=>h s3 ?_ g3
  ·rw [st2 b λz=>hS (z ▸ hb')];exact e'
  ·rw [st2 q.2 λz=>hsrc q hq (by rw [z];exact .head _)];exact e
  ·have:(src.map (·.1)).take (i + 1)=(src.map (·.1)).take i ++ [q.1]:=by
    rw [List.take_succ,List.getElem?_map,hq];rfl
   rw [this,List.reverse_append]
   exact g2
  ·exact (b1.on (b2.on b3 (by simp)) λb z=>.tail _ z)
end
section
variable {P:Program}{w:World}{A:Around}{E:Value->Shared->Prop}{s:Shared}
theorem ue (h:Heap) (src:List (List Int × Addr)):km P w (h.push (aI w)) h.objs.size [] src :=
 ⟨[],_,0,_,⟨Heap.get?_push_size _ rfl,⟨rfl,rfl,rfl⟩,rfl,λq hq=>by (cases hq),List.nodup_nil,.fresh _,⟨show 7 % 2=1 from rfl,show 7 <= 255 by decide⟩,rfl⟩,.refl _,show 0 * 5 < 7 * 3 by decide,λq hq=>by cases hq⟩
theorem rR (x:Value) {Q:Value->Shared->Prop}
  (hU:∀ B:Around,B.handled=A.handled->B.units=A.in1.in1.units->wpAny (model P w) B (Builtin.Frozenset.updateFrom "set.__init__" s.heap.objs.size x) (λ_ s'=>Q (.ref s.heap.objs.size) s') E (al w s)) :
  wpAny (model P w) A (call (.type "set") [x]) Q E s:=by
 have at0:(al w s).heap.get? s.heap.objs.size=some (aI w):=Heap.get?_push_size _ rfl
 have init:codeAny (model P w) A.in1 (.call (.builtin "set.__init__") ⟨[.ref s.heap.objs.size,x],[]⟩) (wants (λr s'=>r=.none/\Q (.ref s.heap.objs.size) s') E) (al w s):=by
  refine codeAny_call_builtin PySem.F.called_set.init.plain PySem.F.entry_set_init (check_set_init_1 ⟨_,at0,rfl⟩ ?_)
  have hu:=hU A.in1.in1 (by simp) rfl
  generalize hw:al w s=s1 at at0 hu ⊢
  generalize s.heap.objs.size=S at at0 hu ⊢
  obtain ⟨hp,g,d,tk,os⟩:=s1
  unfold Builtin.«set.__init__» noKeywords
  generalize Builtin.Frozenset.updateFrom=U at hu ⊢
  wp_walk
  exact wpAny_mono hu (λ_ s' hq=>wpAny_pure ⟨rfl,hq⟩) λ_ _ z=>z
 have ft:=PySem.F.called_set
 refine wpAny_call (codeAny_of_tree (wpAny_pure ⟨Code.quiet_builtin _ (by decide +kernel),codeAny_builtin PySem.F.entry_type_call ?_⟩))
 rw [Around.under_plain (weight_type_call_type "set" [x] []) rfl]
 have f1:=ft.notType;have f2:=ft.canCreate;have f3:=ft.made;have f4:=ft.sub
 have f5:=PySem.F.typeCall_set_1 x
 obtain ⟨c,tl,f6⟩:=ft.mro
 repeat (any_goals (first|assumption|wp_step))
 refine codeAny_mono (qh x (E:=E) (Q:=λv s'=>v=.ref s.heap.objs.size/\s'=al w s) ⟨rfl,rfl⟩) λr s1 hr=>?_
 match r,hr with
 | .error e,hr=>exact hr
 | .ok (.ret v),hr =>
  obtain ⟨rfl,rfl⟩:=hr
  have f7:Shared.TypeIs (al w s) (.ref s.heap.objs.size) "set":=⟨_,at0,rfl⟩
  have f8:=ft.init.lookup;have f9:=ft.init.bind (.ref s.heap.objs.size)
  repeat (any_goals (first|assumption|wp_step))
  refine codeAny_mono init λr s2 hr=>?_
  match r,hr with
  | .error e,hr=>exact hr
  | .ok (.ret v),hr =>
   obtain ⟨rfl,hq⟩:=hr
   show wpAny _ A.in1 (pure (some Value.none)) _ _ _
   exact wpAny_pure (wpAny_pure hq)
theorem rS {l:Addr}{items:Array Value}{src:List (List Int × Addr)}{Q:Value->Shared->Prop}
  (hh:A.handled=none) (hu:A.units + 9 < cLine) (hl:s.heap.IsList l items) (hi:items.toList=src.map λq=>Value.ref q.2) (hk:∀ q ∈ src,eK P w s.heap q.1 q.2) (hb:src.length <= 60)
  (h:∀ (h':Heap) (tk:Nat),km P w h' s.heap.objs.size (ddT (src.map (·.1)).reverse) src->(∀ b o,s.heap.get? b=some o->h'.get? b=some o)->Q (.ref s.heap.objs.size) { s with heap:=h',toks:=tk }) :
  wpAny (model P w) A (call (.type "set") [.ref l]) Q E s:=by
 have z:items.size=src.length:=by rw [<- Array.length_toList,hi,List.length_map]
 obtain ⟨o,ho,hc,hr⟩:=hl
 have l1:(al w s).heap.IsList l items:=⟨o,Heap.get?_push_of_some _ ho,hc,hr⟩
 have z1:(al w s).heap.objs.size=s.heap.objs.size + 1:=Heap.size_push ..
 have far:∀ b,b < s.heap.objs.size->b ∉ [s.heap.objs.size,(al w s).heap.objs.size]:=λb hb=>by
  rw [z1]
  simp only [List.mem_cons,List.not_mem_nil,or_false,not_or]
  exact ⟨Nat.ne_of_lt hb,Nat.ne_of_lt (Nat.lt_succ_of_lt hb)⟩
 obtain ⟨io,hio⟩:∃ io:Obj,io={ cls:=.type "list_iterator",data:=.fields #[.ref l,Value.int 0 0] }:=⟨_,rfl⟩
 have kept:∀ b o,s.heap.get? b=some o->((al w s).heap.push io).get? b=some o:=λb o e=>Heap.get?_push_of_some _ (Heap.get?_push_of_some _ e)
 refine rR _ λB hB hBu=>?_
 have hT:(al w s).TypeIs (.ref l) "list":=⟨o,Heap.get?_push_of_some _ ho,hc⟩
 unfold Builtin.Frozenset.updateFrom Builtin.Frozenset.isAnySet
 refine wpAny_bind (wpAny_bind (wpAny_isInstance hT PySem.F.sub_list_set ?_))
 show wpAny _ _ (isInstance (.ref l) (.type "frozenset")) _ _ _
 refine wpAny_isInstance hT PySem.F.sub_list_frozenset ?_
 rw [if_neg Bool.false_ne_true]
 refine wpAny_bind (wpAny_typeOf hT ?_)
 rw [show (Value.type "list" == .type "dict")=false by decide,if_neg Bool.false_ne_true]
 refine wpAny_bind (wpAny_pyIter_list l1 (wpAny_bind (wpAny_runValue ?_)))
 rw [<- hio]
 have hlt:∀ q ∈ src,q.2 < s.heap.objs.size:=λq hq=>by
  obtain ⟨o',_,_,e,_⟩:=hk q hq
  exact Heap.lt_size e
 have hS:s.heap.objs.size ∉ [(al w s).heap.objs.size,l]:=by
  have:=Heap.lt_size ho
  rw [z1]
  simp only [List.mem_cons,List.not_mem_nil,or_false,not_or]
  exact ⟨Nat.ne_of_lt (Nat.lt_succ_self _),Nat.ne_of_gt this⟩
 have W0:=Walks.list (prog:=P) (w:=w) (A:=B.in1) (by simpa using hB.trans hh) (al w s).heap.objs.size l (Nat.ne_of_lt (Nat.lt_of_lt_of_eq (Nat.lt_succ_of_lt (Heap.lt_size ho)) (Heap.size_push ..).symm)) items
 have W:=ud W0 (Pv':=λi v=>∃ q,src[i]?=some q/\v=.ref q.2) λi v pv=>by
  rw [<- Array.getElem?_toList,hi,List.getElem?_map] at pv
  obtain ⟨q,h1,h2⟩:=Option.map_eq_some_iff.mp pv
  exact ⟨q,h1,h2.symm⟩
 have hcode:=lW (S:=s.heap.objs.size) W (by rw [Around.in1_units,hBu,Around.in1_units,Around.in1_units];omega) hS z.symm (by omega) (λq hq=>far _ (hlt q hq))
  (R:=λr s'=>match r with
   | Except.ok (Flow.ret v)=>wpAny (model P w) B (pure ()) (λx s'=>Q (Value.ref s.heap.objs.size) s') E s'
   | Except.ok a=>False
   | Except.error e=>E e s') items.size 0 { s with heap:=(al w s).heap.push io } (by omega) ?_ (λq hq=>(hk q hq).at (kept _)) ?_ ?_
 ·exact hcode
 ·rw [hio]
  exact ⟨⟨_,Heap.get?_push_size _ rfl,rfl,rfl⟩,l1.push _⟩
 ·obtain ⟨kbs,o',ep,t,g,r⟩:=ue (P:=P) (w:=w) s.heap src
  exact ⟨kbs,o',ep,t,g.at λb o e=>Heap.get?_push_of_some _ e,r⟩
 ·rintro s' ⟨h',tk,rfl,kp⟩ g
  exact wpAny_pure (h h' tk g λb o e=>kp b o (far b (Heap.lt_size e)) (kept b o e))
end
end L2.St
namespace L2.St
open PySem PyProof.Rows
theorem uf (xs:List Value):(List.range xs.length).map (λi=>xs.getD i .none)=xs:=by
 apply List.ext_getElem?
 intro i
 rw [List.getElem?_map]
 by_cases q:i < xs.length
 ·simp [List.getElem?_range,q]
 ·simp [List.getElem?_range,q]
theorem lr {order:List Value}{acc:Array Value} (h:ItemsOf (λi v=>v=order.getD i .none) acc order.length):acc.toList=order:=by
 obtain ⟨hz,hv⟩:=h
 refine List.ext_getElem? λi=>?_
 by_cases q:i < order.length
 ·have q2:i < acc.size:=by omega
  have:=hv i acc[i] (Array.getElem?_eq_getElem q2)
  rw [Array.getElem?_toList,Array.getElem?_eq_getElem q2,this,List.getD_eq_getElem?_getD,List.getElem?_eq_getElem q]
  rfl
 ·rw [Array.getElem?_toList,Array.getElem?_eq_none (by omega),List.getElem?_eq_none (by omega)]
structure ko (P:Program) (w:World) (I:Addr) (fp:List Addr) (order:List Value) (St:Nat->Heap->Prop):Prop where
 mem:I ∈ fp
 ty:∀ i h,St i h->∃ o,h.get? I=some o/\o.cls=.type "set_iterator"
 frame:∀ i h h',St i h->(∀ b ∈ fp,∀ o,h.get? b=some o->h'.get? b=some o)->St i h'
 item:∀ (A:Around) i (s:Shared) (Q:Option Value->Shared->Prop) (E:Value->Shared->Prop),i < order.length->St i s.heap ->
  (∀ h',St (i + 1) h'->(∀ b o,b ≠ I->s.heap.get? b=some o->h'.get? b=some o)->Q (some (order.getD i .none)) { s with heap:=h' })->wpAny (model P w) A (pyNext (.ref I)) Q E s
 done:∀ (A:Around) (s:Shared) (Q:Option Value->Shared->Prop) (E:Value->Shared->Prop),A.handled=none->St order.length s.heap ->
  (∀ h',(∀ b o,b ≠ I->s.heap.get? b=some o->h'.get? b=some o)->Q none { s with heap:=h' })->wpAny (model P w) A (pyNext (.ref I)) Q E s
theorem ko.walks {P:Program}{w:World}{I:Addr}{fp:List Addr}{order:List Value}{St:Nat->Heap->Prop} (W:ko P w I fp order St) {A:Around} (hh:A.handled=none) :
  Walks P w A I fp [I] order.length (λi v=>v=order.getD i .none) St where
 sub:=λb hb=>by rw [List.mem_singleton.mp hb];exact W.mem
 frame:=W.frame
 item:=λi s Q E hi st hQ=>W.item A i s Q E hi st λh' st' kp=>hQ _ h' s.toks rfl st' λb o hb e=>kp b o (λz=>hb (by rw [z];exact List.mem_singleton.mpr rfl)) e
 done:=λs Q E st hQ=>W.done A s Q E hh st λh' kp=>hQ h' s.toks λb o hb e=>kp b o (λz=>hb (by rw [z];exact List.mem_singleton.mpr rfl)) e
 self:=λi s Q E st h=>by
  obtain ⟨o,e,c⟩:=W.ty i _ st
  exact nN ⟨o,e,c⟩ h
section
variable {P:Program}{w:World}{A:Around}{E:Value->Shared->Prop}{s:Shared}
theorem iC {l:List (Int × Value)}{i:Nat}{e:Int × Value} (h:l[i]?=some e):(l.map λe=>e.2).getD i .none=e.2:=by
 rw [List.getD_eq_getElem?_getD,List.getElem?_map,h];rfl
set_option maxRecDepth 100000 in
theorem ug {S:Addr}{o:Obj}{es:Array (Int × Value)}{ep:Nat}{t:SetTable}{Q:Value->Shared->Prop} (ho:s.heap.get? S=some o) (hex:o.ExactSet) (hd:o.data=.set es ep t) (hb:es.size < scanBound) (hf:t.fits es.size=true) (hl:t.led=!byT w) (hri:fK t.place)
  (hQ:∀ (I:Addr) (h':Heap) (d':Drawn) (fp:List Addr) (order:List Value) (St:Nat->Heap->Prop),order.Perm (es.toList.map λe=>e.2)->(∀ b o,s.heap.get? b=some o->h'.get? b=some o)->s.heap.objs.size <= I->(∀ b ∈ fp,b=S \/ s.heap.objs.size <= b)->(∀ b ∈ fp,b < h'.objs.size) ->
   ko P w I fp order St->St 0 h'->Q (.ref I) { s with heap:=h',drawn:=d' }):wpAny (model P w) A (pyIter (.ref S)) Q E s:=by
 have hT:s.TypeIs (.ref S) "set":=⟨o,ho,hex.1⟩
 have hSlt:S < s.heap.objs.size:=Heap.lt_size ho
 have hps:t.place.size=es.size:=by simp [SetTable.fits] at hf;exact hf.1
 refine wpAny_pyIter_slot hT PySem.F.slot_set_iter (wpAny_call_entry PySem.F.slot_set_iter hT fL ?_ (PySem.F.args_set_iter_1 _))
 unfold Builtin.«frozenset.__iter__»
 refine wpAny_bind (m:=Builtin.Frozenset.slot0 "__iter__" _) (wpAny_pure ?_)
 refine wpAny_bind (m:=Builtin.Frozenset.sizeOf S) (wpAny_bind (cQ ho hd hf (wpAny_pure ?_)))
 refine wpAny_bind (m:=setDrawn S) ?_
 unfold setDrawn
 refine wpAny_bind (wpAny_setState_of ho hd hf ?_)
 dsimp only
 refine wpAny_bind (bY (wpAny_pure ?_))
 have slotted:∀ (order:List (Int × Value)) (fs:Nat->Nat),order.Perm es.toList->fs 0=0 ->
   (∀ (A':Around) i (s':Shared) (Q':Option (Value × Nat)->Shared->Prop) (E':Value->Shared->Prop) e,order[i]?=some e->s'.heap.get? S=some o->Q' (some (e.2,fs (i + 1))) s'->wpAny (model P w) A' (setNext S (fs i) i ep) Q' E' s') ->
   (∀ (A':Around) (s':Shared) (Q':Option (Value × Nat)->Shared->Prop) (E':Value->Shared->Prop),s'.heap.get? S=some o->Q' none s'->wpAny (model P w) A' (setNext S (fs order.length) order.length ep) Q' E' s') ->
   Q (.ref s.heap.objs.size) { s with heap:=s.heap.push { cls:=.type "set_iterator",data:=.fields #[.int 0 0,.int 0 0,.ref S,.int (es.size:Nat) 0,.int (ep:Nat) 0] } }:=by
  intro order fs hp h0 hstep hend
  have hol:order.length=es.size:=by have:=hp.length_eq;simpa using this
  refine hQ s.heap.objs.size _ s.drawn [s.heap.objs.size,S] (order.map λe=>e.2) (λi h=>SIt h s.heap.objs.size S o (.int (fs i) 0) i es.size ep) (hp.map _) (λb o e=>Heap.get?_push_of_some _ e) (Nat.le_refl _) (λb hb=>?_) (λb hb=>?_) ?_ ?_
  ·rcases List.mem_cons.mp hb with e|e
   ·exact .inr (Nat.le_of_eq e.symm)
   ·exact .inl (List.mem_singleton.mp e)
  ·rw [Heap.size_push]
   rcases List.mem_cons.mp hb with e|e
   ·rw [e];exact Nat.lt_succ_self _
   ·rw [List.mem_singleton.mp e];exact Nat.lt_succ_of_lt hSlt
  ·refine ⟨.head _,λi h st=>⟨_,st.1,rfl⟩,λi h h' st k=>⟨k _ (.head _) _ st.1,k _ (.tail _ (.head _)) _ st.2⟩,λA' i s' Q' E' hi st hq=>?_,λA' s' Q' E' hh st hq=>?_⟩
   ·rw [List.length_map] at hi
    obtain ⟨e,he⟩:∃ e,order[i]?=some e:=⟨_,List.getElem?_eq_getElem hi⟩
    rw [iC he] at hq
    refine gO (slot:=fs i) (nx:=fs (i + 1)) (x:=e.2) st hd hf rfl (Nat.ne_of_lt hSlt) (λA'' s'' Q'' E'' hs'' q=>hstep A'' i s'' Q'' E'' e he hs'' q) λh' st' sb=>?_
    exact hq h' st' λb o hb q=>(sb.2 b hb).trans q
   ·rw [List.length_map] at st
    exact gP (slot:=fs order.length) hh st hd hf rfl (λA'' s'' Q'' E'' hs'' q=>hend A'' s'' Q'' E'' hs'' q) hq
  ·refine ⟨?_,Heap.get?_push_of_some _ ho⟩
   rw [h0]
   exact Heap.get?_push_size _ rfl
 cases hbt:byT w with
 | true =>
  simp only [Bool.not_true,Bool.false_and,Bool.false_eq_true,if_false]
  refine wpAny_bind (wpAny_pure ?_)
  refine wpAny_bind (wpAny_setEpoch_of ho hd hf ?_)
  refine wpAny_bind (wpAny_newObj_type (wpAny_pure ⟨_,rfl,"set_iterator",_,⟨_,Heap.get?_push_size _ rfl,rfl⟩,au.lookup,?_⟩))
  have q:=slotted (pickOrder (w.params.setOrder S ep) es).toList (λ_=>0) (i5 _ _) rfl
   (λA' i s' Q' E' e he hs' q=>gi hs' hd hf hbt (by rw [<- Array.getElem?_toList,he];exact q))
   (λA' s' Q' E' hs' q=>gi hs' hd hf hbt (by rw [Array.getElem?_eq_none (by simp)];exact q))
  simpa [rawInt] using q
 | false =>
  cases hdr:(!t.plain&&decide (es.size > 1)) with
  | false =>
   refine wpAny_ite_split (λhab=>absurd (show (!false&&(!t.plain&&decide (es.size > 1)))=true from hab) (by rw [hdr];simp)) (λ_=>?_)
   refine wpAny_bind (wpAny_pure ?_)
   refine wpAny_bind (wpAny_setEpoch_of ho hd hf ?_)
   refine wpAny_bind (wpAny_newObj_type (wpAny_pure ⟨_,rfl,"set_iterator",_,⟨_,Heap.get?_push_size _ rfl,rfl⟩,au.lookup,?_⟩))
   have hled:t.led=true:=by rw [hl,hbt];rfl
   have hfs:∀ i,i <= t.place.size->SetTable.below t.place (match i with|0=>0|j + 1=>t.place.getD j 0 + 1)=i:=λi hi=>by
    cases i with
    | zero=>exact j9 _ hri
    | succ j=>exact nO hri (by omega)
   have q:=slotted es.toList (λi=>match i with|0=>0|j + 1=>t.place.getD j 0 + 1) (.refl _) rfl
    (λA' i s' Q' E' e he hs' q=>fb hs' hd hf hbt hdr hled (by
     have hi:i < es.size:=by have:=(List.getElem?_eq_some_iff.mp he).1;simpa using this
     rw [hfs i (by omega)]
     rw [<- Array.getElem?_toList,he,Array.getElem?_eq_getElem (by omega:i < t.place.size)]
     have e2:t.place.getD i 0=t.place[i]:=by simp [Array.getD,(by omega:i < t.place.size)]
     dsimp only at q ⊢
     rw [e2] at q
     exact q))
    (λA' s' Q' E' hs' q=>fb hs' hd hf hbt hdr hled (by
     rw [hfs _ (by simp [hps]),Array.getElem?_eq_none (by simp)]
     exact q))
   simpa [rawInt] using q
  | true =>
   refine wpAny_ite_split (λ_=>?_) (λhab=>absurd (show (!false&&(!t.plain&&decide (es.size > 1)))=true by rw [hdr];rfl) hab)
   refine wpAny_bind (e_ _ _ _ (by simp) λplaces d' hperm=>?_)
   refine wpAny_bind (wpAny_newTuple ?_ (by simp;have:=hperm.length_eq;simp at this;rw [this,sizeLine_eq];unfold scanBound at hb;omega))
   refine wpAny_bind (wpAny_setEpoch_of (Heap.get?_push_of_some _ ho) hd hf ?_)
   refine wpAny_bind (wpAny_newObj_type (wpAny_pure ⟨_,rfl,"set_iterator",_,⟨_,Heap.get?_push_size _ rfl,rfl⟩,au.lookup,?_⟩))
   have hpl:places.length=es.size:=by have:=hperm.length_eq;simpa using this
   have hat:∀ p ∈ places,p < es.size:=λp hp=>by have:=hperm.mem_iff.mp hp;simpa using this
   have hT0:((s.heap.push { cls:=.type "tuple",data:=.seq (List.map (λ(i:Nat)=>rawInt i) places).toArray }).push { cls:=.type "set_iterator",data:=.fields #[.ref s.heap.objs.size,.int 0 0,.ref S,.int (es.size:Nat) 0,.int (ep:Nat) 0] }).get? s.heap.objs.size=some { cls:=.type "tuple",data:=.seq (List.map (λ(i:Nat)=>rawInt i) places).toArray } :=
    Heap.get?_push_of_some _ (Heap.get?_push_size _ rfl)
   have q:=hQ (s.heap.push { cls:=.type "tuple",data:=.seq (List.map (λ(i:Nat)=>rawInt i) places).toArray }).objs.size
    ((s.heap.push { cls:=.type "tuple",data:=.seq (List.map (λ(i:Nat)=>rawInt i) places).toArray }).push { cls:=.type "set_iterator",data:=.fields #[.ref s.heap.objs.size,.int 0 0,.ref S,.int (es.size:Nat) 0,.int (ep:Nat) 0] }) d'
    [(s.heap.push { cls:=.type "tuple",data:=.seq (List.map (λ(i:Nat)=>rawInt i) places).toArray }).objs.size,S,s.heap.objs.size]
    (places.map λp=>(es.toList.map λe=>e.2).getD p .none)
    (λi h=>SIt h (s.heap.push { cls:=.type "tuple",data:=.seq (List.map (λ(i:Nat)=>rawInt i) places).toArray }).objs.size S o (.ref s.heap.objs.size) i es.size ep/\h.get? s.heap.objs.size=some { cls:=.type "tuple",data:=.seq (List.map (λ(i:Nat)=>rawInt i) places).toArray })
    ?p1 (λb o e=>Heap.get?_push_of_some _ (Heap.get?_push_of_some _ e)) (by rw [Heap.size_push];exact Nat.le_succ _) ?p2 ?p3 ?p4 ⟨⟨Heap.get?_push_size _ rfl,Heap.get?_push_of_some _ (Heap.get?_push_of_some _ ho)⟩,hT0⟩
   ·simpa [rawInt] using q
   case p1 =>
    have e1:(es.toList.map λe=>e.2).length=es.size:=by simp
    have h1:=hperm.map λp=>(es.toList.map λe=>e.2).getD p .none
    rw [<- e1,uf] at h1
    exact h1
   case p2 =>
    intro b hb
    simp only [List.mem_cons,List.not_mem_nil,or_false] at hb
    rcases hb with e|e|e
    ·exact .inr (by rw [e,Heap.size_push];exact Nat.le_succ _)
    ·exact .inl e
    ·exact .inr (Nat.le_of_eq e.symm)
   case p3 =>
    intro b hb
    rw [Heap.size_push]
    simp only [List.mem_cons,List.not_mem_nil,or_false] at hb
    rcases hb with e|e|e
    ·rw [e];exact Nat.lt_succ_self _
    ·rw [e,Heap.size_push];exact Nat.lt_succ_of_lt (Nat.lt_succ_of_lt hSlt)
    ·rw [e,Heap.size_push];exact Nat.lt_succ_of_lt (Nat.lt_succ_self _)
   case p4 =>
    refine ⟨.head _,λi h st=>⟨_,st.1.1,rfl⟩,λi h h' st k=>⟨⟨k _ (.head _) _ st.1.1,k _ (.tail _ (.head _)) _ st.1.2⟩,k _ (.tail _ (.tail _ (.head _))) _ st.2⟩,λA' i s' Q' E' hi st hq=>?_,λA' s' Q' E' hh st hq=>?_⟩
    ·rw [List.length_map] at hi
     obtain ⟨p,hp⟩:∃ p,places[i]?=some p:=⟨_,List.getElem?_eq_getElem hi⟩
     have hpz:p < es.size:=hat p (List.mem_of_getElem? hp)
     obtain ⟨e,he⟩:∃ e,es.toList[p]?=some e:=⟨_,List.getElem?_eq_getElem (by simpa using hpz)⟩
     have e3:(places.map λp=>(es.toList.map λe=>e.2).getD p .none).getD i .none=e.2:=by
      rw [List.getD_eq_getElem?_getD,List.getElem?_map,hp]
      exact iC he
     rw [e3] at hq
     refine fM (place:=p) (pt:=0) (hx:=e.1) (x:=e.2) st.1 hd hf rfl (by rw [Heap.size_push];exact Nat.ne_of_lt (Nat.lt_succ_of_lt hSlt)) st.2 rfl (by simp [hp,rawInt]) (by rw [<- Array.getElem?_toList,he]) λh' st' sb=>?_
     exact hq h' ⟨st',(sb.2 _ (by rw [Heap.size_push];exact Nat.ne_of_lt (Nat.lt_succ_self _))).trans st.2⟩ λb o hb q=>(sb.2 b hb).trans q
    ·rw [List.length_map] at st
     exact fN hh st.1 hd hf rfl st.2 rfl (by simp) hq
end
section
variable {P:Program}{w:World}{A:Around}{E:Value->Shared->Prop}{s:Shared}
set_option maxRecDepth 100000 in
theorem n6 {S:Addr}{o:Obj}{es:Array (Int × Value)}{ep:Nat}{t:SetTable}{R:List Value->Shared->Prop} (hh:A.handled=none) (ho:s.heap.get? S=some o) (hex:o.ExactSet) (hd:o.data=.set es ep t) (hb:es.size < scanBound) (hf:t.fits es.size=true) (hl:t.led=!byT w) (hri:fK t.place)
  (h:∀ (h':Heap) (tk:Nat) (d':Drawn) (acc:List Value),(∀ b o,s.heap.get? b=some o->h'.get? b=some o)->acc.Perm (es.toList.map λe=>e.2)->R acc { s with heap:=h',toks:=tk,drawn:=d' }) :
  wpAny (model P w) A (collect (.ref S)) R E s:=by
 have hSlt:S < s.heap.objs.size:=Heap.lt_size ho
 unfold collect
 refine wpAny_bind (wpAny_runValue (codeAny_builtin entry_proto_collect' ?_))
 rw [Around.under_plainId PySem.F.plain_proto_collect _]
 show wpAny _ A.in1 (newList [] >>= λl=>again (.builtin "list.__iadd__" ⟨[l,.ref S],[]⟩)) _ _ s
 refine wpAny_bind (wpAny_newObj_type ?_)
 refine wpAny_pure ⟨plainId_quiet PySem.F.plain_list_iadd _,codeAny_builtin entry_list_iadd' ?_⟩
 rw [Around.under_plainId PySem.F.plain_list_iadd _]
 have hS0:(s.heap.push { cls:=.type "list",data:=.seq ([]:List Value).toArray }).get? s.heap.objs.size=some { cls:=.type "list",data:=.seq #[] }:=Heap.get?_push_size _ rfl
 show wpAny _ A.in1 (Builtin.List.listExtendWith (.ref s.heap.objs.size) (.ref S) (.ref s.heap.objs.size)) _ _ _
 have ho1:(s.heap.push { cls:=.type "list",data:=.seq ([]:List Value).toArray }).get? S=some o:=Heap.get?_push_of_some _ ho
 have hT:Shared.TypeIs { s with heap:=s.heap.push { cls:=.type "list",data:=.seq ([]:List Value).toArray } } (.ref S) "set":=⟨o,ho1,hex.1⟩
 unfold Builtin.List.listExtendWith
 refine wpAny_bind (wpAny_typeOf (T:="set") hT ?_)
 have q1:Builtin.List.listSameRef (.ref s.heap.objs.size) (.ref S)=false:=by simp [Builtin.List.listSameRef,Nat.ne_of_gt hSlt]
 have q2:(Value.type "set" == Value.type "list")=false:=by decide
 have q3:(Value.type "set" == Value.type "tuple")=false:=by decide
 simp only [q1,q2,q3,Bool.or_false,Bool.false_eq_true,if_false]
 refine wpAny_bind (ug ho1 hex hd hb hf hl hri λI h1 d1 fp order St hperm kp hI hfp hlt W st=>?_)
 have hz0:(s.heap.push { cls:=.type "list",data:=.seq ([]:List Value).toArray }).objs.size=s.heap.objs.size + 1:=Heap.size_push ..
 have hLf:s.heap.objs.size ∉ fp:=λhm=>by
  rcases hfp _ hm with e|e
  ·exact Nat.lt_irrefl _ (by rw [<- e] at hSlt;exact hSlt)
  ·dsimp only at e
   rw [hz0] at e
   exact Nat.not_succ_le_self _ e
 have hol:order.length <= sizeLine:=by
  have:=hperm.length_eq
  rw [this,List.length_map,Array.length_toList]
  exact fits_of_scanBound hb
 have hT1:Shared.TypeIs { s with heap:=h1,drawn:=d1 } (.ref S) "set":=by
  obtain ⟨o,e,c⟩:=hT
  exact ⟨o,kp S o e,c⟩
 refine wpAny_bind (wpAny_holding (nP hT1 ?_))
 have WS:=(W.walks (A:=A.in1) (by first|exact hh|simpa using hh)).toS
 have fin:∀ (h2:Heap) (c1:Nat),St 0 h2->(∀ b o,b ≠ s.heap.objs.size->h1.get? b=some o->h2.get? b=some o)->h2.get? s.heap.objs.size=some { cls:=.type "list",dict:=none,data:=.seq #[] c1,slots:=#[] } ->
   codeAny (model P w) A (.builtin "list.extend.loop" ⟨[.ref s.heap.objs.size,.ref I,.ref s.heap.objs.size],[]⟩)
    (λr s'=>∃ (h':Heap) (tk:Nat) (acc':Array Value) (c':Nat),r=.ok (.ret (.ref s.heap.objs.size))/\s'={ s with heap:=h',toks:=tk,drawn:=d1 }/\(∀ b o,s.heap.get? b=some o->h'.get? b=some o) /\
     h'.get? s.heap.objs.size=some { cls:=.type "list",dict:=none,data:=.seq acc' c',slots:=#[] }/\acc'.toList=order) { s with heap:=h2,drawn:=d1 }:=by
  intro h2 c1 st2 k2 hS2
  refine codeAny_extend_loopS WS hol s.heap.objs.size hLf _ order.length 0 _ #[] c1 rfl (Nat.zero_le _) st2 hS2 (ItemsOf.nil _) λs' acc' c' hm hS' hacc=>?_
  refine ⟨s'.heap,s'.toks,acc',c',rfl,(by
   obtain ⟨h',g',dr',tk',os'⟩:=s'
   have eg:g'=s.gens:=hm.gens
   have ed:dr'=d1:=hm.drawn
   have eo:os'=s.os:=hm.os
   subst eg;subst ed;subst eo;rfl),λb o e=>?_,hS',lr hacc⟩
  have hbl:b ≠ s.heap.objs.size:=Nat.ne_of_lt (Heap.lt_size e)
  refine hm.heap b o (λhmem=>?_) (k2 b o hbl (kp b o (Heap.get?_push_of_some _ e)))
  rcases List.mem_cons.mp hmem with z|z
  ·exact hbl z
  ·have hbI:b=I:=List.mem_singleton.mp z
   rw [hbI] at e
   have hI':(s.heap.push { cls:=.type "list",data:=.seq ([]:List Value).toArray }).objs.size <= I:=hI
   rw [hz0] at hI'
   exact absurd (Nat.lt_of_lt_of_le (Heap.lt_size e) (Nat.le_of_succ_le hI')) (Nat.lt_irrefl _)
 have done:∀ (r:Result) (s':Shared),(∃ (h':Heap) (tk:Nat) (acc':Array Value) (c':Nat),r=.ok (.ret (.ref s.heap.objs.size))/\s'={ s with heap:=h',toks:=tk,drawn:=d1 }/\(∀ b o,s.heap.get? b=some o->h'.get? b=some o) /\
     h'.get? s.heap.objs.size=some { cls:=.type "list",dict:=none,data:=.seq acc' c',slots:=#[] }/\acc'.toList=order) ->
   wants (λv s'=>wpAny (model P w) A (match v with
    | Value.ref a=>do
     match (<- load a).data with
      | Data.seq xs _=>pure xs.toList
      | _=>unsupported "internal:collect"
    | _=>unsupported "internal:collect") R E s') E r s':=by
  rintro r s' ⟨h',tk,acc',c',rfl,rfl,k',hS',hi⟩
  show wpAny _ A (load s.heap.objs.size >>= _) _ _ _
  refine wpAny_bind (wpAny_load hS' ?_)
  exact wpAny_pure (h h' tk d1 acc'.toList k' (by rw [hi];exact hperm))
 have h1L:h1.get? s.heap.objs.size=some { cls:=.type "list",dict:=none,data:=.seq #[] 0,slots:=#[] }:=kp _ _ hS0
 refine wpAny_ite_split (λ_=>?_) (λ_=>wpAny_pure ⟨plainId_quiet PySem.F.plain_extend_loop _,codeAny_mono (fin h1 0 st (λ_ _ _ e=>e) h1L) done⟩)
 refine wpAny_bind (wpAny_rule ?_)
 refine wpAny_bind ?_
 show wpAny _ _ (updateSeq s.heap.objs.size (·.push .none) >>= λ_=>updateSeq s.heap.objs.size (·.pop)) _ _ _
 refine wpAny_bind (wpAny_updateSeq h1L rfl ?_)
 have hS2:=Heap.get?_update_self (Obj.mapSeq (·.push Value.none)) h1L rfl
 refine wpAny_updateSeq (hz:=by seq_fits) hS2 rfl ?_
 have hS3:=Heap.get?_update_self (Obj.mapSeq (·.pop)) hS2 rfl
 refine wpAny_pure ⟨plainId_quiet PySem.F.plain_extend_loop _,codeAny_mono (fin _ _ ?_ (λb o hb e=>?_) hS3) done⟩
 ·refine W.frame 0 _ _ st λb hb o e=>?_
  have hbS:b ≠ s.heap.objs.size:=λz=>hLf (z ▸ hb)
  exact (Heap.get?_update_other _ _ (Ne.symm hbS)).trans ((Heap.get?_update_other _ _ (Ne.symm hbS)).trans e)
 ·exact (Heap.get?_update_other _ _ (Ne.symm hb)).trans ((Heap.get?_update_other _ _ (Ne.symm hb)).trans e)
end
end L2.St
namespace L2
open PySem PySem.Spec PyProof.Rows
namespace St
noncomputable def n8 (P:Program) (w:World) (h:Heap) (a:Addr) (kbs:List (List Int × Addr)):Prop :=
 ∃ o ep t,h.get? a=some o/\o.ExactSet/\o.data=.set (kbs.map (ce P w)).toArray ep t/\Tb t (kbs.map λq=>hT P w q.1)/\t.led=!byT w/\(kbs.map (·.1)).Nodup
theorem iB.b {P:Program}{w:World}{h:Heap}{a:Addr}{kbs:List (List Int × Addr)}{o:Obj}{ep:Nat}{t:SetTable} (g:iB P w h a kbs o ep t):n8 P w h a kbs:=⟨o,ep,t,g.ho,g.ex,g.hd,g.tb,g.led,g.nd⟩
theorem n8.at {P:Program}{w:World}{h h':Heap}{a:Addr}{kbs:List (List Int × Addr)} (g:n8 P w h a kbs) (k:∀ o,h.get? a=some o->h'.get? a=some o):n8 P w h' a kbs:=by
 obtain ⟨o,ep,t,ho,r⟩:=g
 exact ⟨o,ep,t,k o ho,r⟩
theorem n9 {α β:Type}{f:α->β}{a b:List β} (h:a.Perm b):∀ l:List α,b=l.map f->∃ m:List α,m.Perm l/\m.map f=a:=by
 induction h with
 | nil=>intro l e;exact ⟨[],by rw [List.map_eq_nil_iff.mp e.symm],rfl⟩
 | cons x _ ih =>
  intro l e
  match l,e with
  | y::l,e =>
   obtain ⟨e1,e2⟩:=List.cons.inj e
   obtain ⟨m,h1,h2⟩:=ih l e2
   exact ⟨y::m,h1.cons y,by rw [List.map_cons,h2,e1]⟩
 | swap x y r =>
  intro l e
  match l,e with
  | u::v::l,e =>
   obtain ⟨e1,e2⟩:=List.cons.inj e
   obtain ⟨e3,e4⟩:=List.cons.inj e2
   exact ⟨v::u::l,.swap u v l,by rw [List.map_cons,List.map_cons,<- e1,<- e3,<- e4]⟩
 | trans _ _ ih1 ih2 =>
  intro l e
  obtain ⟨m,h1,h2⟩:=ih2 l e
  obtain ⟨m',h3,h4⟩:=ih1 m h2.symm
  exact ⟨m',h3.trans h1,h4⟩
theorem rT {P:Program}{w:World}{A:Around}{E:Value->Shared->Prop}{s:Shared}{S:Addr}{kbs:List (List Int × Addr)}{R:List Value->Shared->Prop} (hh:A.handled=none) (g:n8 P w s.heap S kbs) (hn:kbs.length <= 60)
  (h:∀ (h':Heap) (tk:Nat) (d':Drawn) (ord:List (List Int × Addr)),(∀ b o,s.heap.get? b=some o->h'.get? b=some o)->ord.Perm kbs->R (ord.map λq=>Value.ref q.2) { s with heap:=h',toks:=tk,drawn:=d' }):wpAny (model P w) A (collect (.ref S)) R E s:=by
 obtain ⟨o,ep,t,ho,ex,hd,tb,led,_⟩:=g
 have hf:t.fits (kbs.map (ce P w)).toArray.size=true:=by
  have h1:=tb.sz
  have h2:=tb.fill
  have h3:t.fill=t.place.size:=by unfold SetTable.fill;rw [tb.dum];rfl
  rw [List.length_map] at h1 h2
  unfold SetTable.fits
  rw [h3,h1]
  simp
  exact h2
 refine n6 hh ho ex hd (kn hn) hf led tb.rise λh' tk d' acc kp hp=>?_
 have e:((kbs.map (ce P w)).toArray.toList.map λe=>e.2)=kbs.map λq=>Value.ref q.2:=by simp
 rw [e] at hp
 obtain ⟨ord,h1,h2⟩:∃ ord:List (List Int × Addr),ord.Perm kbs/\ord.map (λq=>Value.ref q.2)=acc:=by
  obtain ⟨l,h1,h2⟩:=n9 hp kbs rfl
  exact ⟨l,h1,h2⟩
 rw [<- h2]
 exact h h' tk d' ord kp h1
end St
namespace Srt
section
variable {P:Program}{w:World}{A:Around}{E:Value->Shared->Prop}{s:Shared}
theorem kq {x:Value}{C:List Value->List (List Int)->Prop}{Q:Value->Shared->Prop} (hu:A.units + 2 < cLine)
  (hC:∀ vs tss,C vs tss->tss.length < 64/\Paired (λu ts=>∃ a its,u=Value.ref a/\IsTup s.heap a its/\IntsAre its.toList ts) vs tss)
  (hcol:∀ (Q':List Value->Shared->Prop),(∀ (h':Heap) (tk:Nat) (d':Drawn) vs tss,C vs tss->(∀ b o,s.heap.get? b=some o->h'.get? b=some o)->Q' vs { s with heap:=h',toks:=tk,drawn:=d' })->wpAny (model P w) A.in1 (collect x) Q' E s)
  (h:∀ (h1 h':Heap) (tk:Nat) (d':Drawn) (vs:List Value) (tss:List (List Int)) (p:Array Nat) (c:Nat),C vs tss->(∀ b o,s.heap.get? b=some o->h1.get? b=some o)->(∀ b o,h1.get? b=some o->h'.get? b=some o)->h'.get? h1.objs.size=some { cls:=.type "list",data:=.seq (p.toList.map λi=>vs.getD i Value.none).toArray c } ->
   PB vs.length p->p.toList.map (λi=>tss.getD i [])=sortT tss->Q (.ref h1.objs.size) { s with heap:=h',toks:=tk,drawn:=d' }) :
  wpAny (model P w) A (call (.builtin "sorted") [x]) Q E s:=by
 refine Calls.call_function_entry kind_sorted plain_sorted entry_sorted (args_sorted1 _) ?_
 unfold Builtin.«sorted»
 refine wpAny_bind (m:=checkCount "sorted" 1 1 _) (wpAny_pure ?_)
 refine wpAny_bind (hcol _ λh1 tk d1 vs tss hc kp=>?_)
 obtain ⟨h64',hv⟩:=hC vs tss hc
 have hlen:vs.length=tss.length:=Paired.length hv
 have h64:vs.length < 64:=by omega
 refine wpAny_bind (wpAny_newList ?_ (by rw [sizeLine_eq];omega))
 have hoL:(h1.push (seqObj "list" vs.toArray 0)).get? h1.objs.size=some (seqObj "list" vs.toArray 0):=Heap.get?_push_size _ rfl
 have at_:∀ (s':Shared),(∀ b o,b ≠ h1.objs.size->(h1.push (seqObj "list" vs.toArray 0)).get? b=some o->s'.heap.get? b=some o)->∀ i,i < vs.length->∃ a its,vs.getD i Value.none=.ref a/\IsTup s'.heap a its/\IntsAre its.toList (tss.getD i []):=λs' k i hi=>by
  have gen:∀ {us:List Value}{uss:List (List Int)},Paired (λu ts=>∃ a its,u=Value.ref a/\IsTup s.heap a its/\IntsAre its.toList ts) us uss->∀ i,i < us.length->∃ a its,us.getD i Value.none=.ref a/\IsTup s.heap a its/\IntsAre its.toList (uss.getD i []):=by
   intro us uss hp
   induction hp with
   | nil=>intro i hi;simp at hi
   | cons q _ ih =>
    intro i hi
    cases i with
    | zero=>obtain ⟨a,its,e,r⟩:=q;exact ⟨a,its,by simpa using e,by simpa using r⟩
    | succ i=>obtain ⟨a,its,e,r⟩:=ih i (by simpa using hi);exact ⟨a,its,by simpa using e,by simpa using r⟩
  obtain ⟨a,its,e,⟨o,ho,r⟩,hin⟩:=gen hv i hi
  have ho1:=kp a o ho
  exact ⟨a,its,e,⟨o,k a o (Nat.ne_of_lt (Heap.lt_size ho1)) (Heap.get?_push_of_some _ ho1),r⟩,hin⟩
 refine wpAny_bind (wpAny_holding (wpAny_call_entry slot_list_sort ⟨_,hoL,rfl⟩ entry_list_sort (iq (O:=cw) (key:=λi=>tss.getD i []) hoL h64 (λh2 s' Q' k q=>lJ h2 (λv hm=>?_) q) (λκ hκ s' i j C k hi hj q=>?_) λp hp hr=>⟨_,rfl,?_⟩) (args_list_sort _)))
 ·obtain ⟨i,hi,e⟩:=List.getElem_of_mem hm
  obtain ⟨a,its,e',r1,r2⟩:=at_ s' k i hi
  exact ⟨a,its,_,by rw [<- e',<- e];simp [hi],r1,r2⟩
 ·obtain ⟨a,its,e,r1,r2⟩:=at_ s' k i hi
  obtain ⟨a',its',e',r1',r2'⟩:=at_ s' k j hj
  rw [e,e']
  exact qe hκ r1 r1' r2 r2' (show A.units + 1 + 1 < cLine from hu) q
 ·obtain ⟨c,hc'⟩:=sortedHeap_at (out:=(p.toList.map λi=>vs.getD i Value.none).toArray) (vs:=vs) hoL
  have hp':PB tss.length p:=by rw [<- hlen];exact hp
  have hr':dJ (O:=cw) (λi=>tss.getD i []) p tss.length:=by rw [<- hlen];exact hr
  refine wpAny_pure ⟨_,rfl,h h1 _ tk d1 vs tss p c hc kp (λb o e=>?_) hc' hp (tH (O:=cw) (d:=([]:List Int)) (xs:=tss) hp' hr')⟩
  have hb:b < h1.objs.size:=Heap.lt_size e
  rw [sortedHeap_old (Nat.ne_of_lt hb) (by rw [Heap.size_push];exact Nat.lt_succ_of_lt hb)]
  exact Heap.get?_push_of_some _ e
end
end Srt
noncomputable def mX (P:Program) (w:World) (a:Addr) (kbs:List (List Int × Addr)):HO:=.ext λh=>St.n8 P w h a kbs
theorem rU {P:Program}{w:World}{H:Hp}{h:Heap}{a:Addr}{kbs:List (List Int × Addr)} (g:St.n8 P w h a kbs):aV P w H h a (mX P w a kbs):=by
 obtain ⟨o,ep,t,ho,r⟩:=id g
 exact ⟨g,⟨o,ho⟩,λh1 h2 g1 k=>g1.at k⟩
section
variable {X:Cx}
theorem Inv.keys {pins:List (Addr × Obj)}{σ:St}{H:Hp}{s:Shared} (I:Inv X pins σ H s) {k:List Int}{b:Addr} (h:SqT X.K H b (k.map V.int)):St.eK X.prog X.w s.heap k b:=by
 obtain ⟨its,⟨o,ho,hc,n,hd⟩,hi⟩:=I.tupInts h
 refine ⟨o,its.toArray,n,ho,hc,hd,?_⟩
 have gen:∀ {k:List Int}{vs:List Value},IntsAre vs k->ItemsAre (intKind X.prog X.w) k vs:=by
  intro k vs h
  induction h with
  | nil=>exact .nil
  | cons n t _ ih=>exact .cons (intKind_is _ _ _ _) ih
 simpa using gen hi
theorem rV (hc:X.calm=true) (hu:X.A.units + 64 < cLine):bp X (.type "set") (λxs H Q=>∃ (p:Addr) (src:List (List Int × Addr)),xs=[.ref p]/\SqL X.K H p (src.map λq=>V.ref q.2)/\(∀ q ∈ src,SqT X.K H q.2 (q.1.map V.int))/\src.length <= 60 /\
  ∀ (l:Addr) (kbs:List (List Int × Addr)),H l=none->(kbs.map (·.1)).Perm (St.ddT (src.map (·.1)).reverse)->(∀ q ∈ kbs,q ∈ src)->Q (.ref l) (upd H l (mX X.prog X.w l kbs))):=by
 intro pins s σ H xs us Q I r h
 obtain ⟨p,src,rfl,hq,hk,hz,q⟩:=h
 obtain ⟨u,rfl,rx⟩:=dj r
 cases rx
 have hh:=I.ok.hd hc
 obtain ⟨its,r',pl,hz'⟩:=I.list hq
 have hi:its=src.map λq=>Value.ref q.2:=by
  clear hq hk hz q pl hz'
  induction src generalizing its with
  | nil=>cases r';rfl
  | cons x src ih =>
   cases r' with
   | cons r1 r2 =>
    rw [List.map_cons,<- ih _ r2]
    congr 1
 refine St.rS hh (by omega) pl.isList (src:=src) (by simpa using hi) (λq hq=>I.keys (hk q hq)) hz λh' tk g kp=>?_
 obtain ⟨kbs,o,ep,t,g,pm,_,sub⟩:=g
 exact ⟨.ref s.heap.objs.size,_,I.laidD (d':=s.drawn) kp (Nat.le_refl _) (rU g.b),rfl,q _ kbs (I.hok.fresh (Nat.le_refl _)) pm sub⟩
theorem lu (hc:X.calm=true) (hu:X.A.units + 64 < cLine):bp X (.builtin "sorted") (λxs H Q=>∃ (p:Addr) (kbs:List (List Int × Addr)),xs=[.ref p]/\H p=some (mX X.prog X.w p kbs)/\(∀ q ∈ kbs,SqT X.K H q.2 (q.1.map V.int))/\kbs.length <= 60 /\
  ∀ (l:Addr) (out:List (List Int × Addr)),H l=none->(∀ q ∈ out,q ∈ kbs)->out.map (·.1)=Srt.sortT (kbs.map (·.1))->Q (.ref l) (upd H l (.lst (out.map λq=>V.ref q.2)))):=by
 intro pins s σ H xs us Q I r h
 obtain ⟨p,kbs,rfl,e,hk,hz,q⟩:=h
 obtain ⟨u,rfl,rx⟩:=dj r
 cases rx
 have hh:=I.ok.hd hc
 have g:St.n8 X.prog X.w s.heap p kbs:=(show aV X.prog X.w H s.heap p (mX X.prog X.w p kbs) from I.hok p _ e).1
 have pr:∀ ord:List (List Int × Addr),(∀ q ∈ ord,q ∈ kbs)->Paired (λu ts=>∃ a its,u=Value.ref a/\IsTup s.heap a its/\IntsAre its.toList ts) (ord.map λq=>Value.ref q.2) (ord.map (·.1)):=λord=>by
  induction ord with
  | nil=>intro _;exact .nil
  | cons x ord ih =>
   intro hs
   obtain ⟨its,h1,h2⟩:=I.tupInts (hk x (hs x (.head _)))
   exact .cons ⟨x.2,its.toArray,rfl,h1,by simpa using h2⟩ (ih λq hq=>hs q (.tail _ hq))
 refine Srt.kq (C:=λvs tss=>∃ ord:List (List Int × Addr),ord.Perm kbs/\vs=ord.map (λq=>Value.ref q.2)/\tss=ord.map (·.1)) (by omega) ?_ ?_ ?_
 ·rintro vs tss ⟨ord,hp,rfl,rfl⟩
  exact ⟨by have:=hp.length_eq;rw [List.length_map];omega,pr ord λq hq=>hp.mem_iff.mp hq⟩
 ·intro Q' hQ'
  exact St.rT (by first|exact hh|simpa using hh) g hz λh' tk d' ord kp hp=>hQ' h' tk d' _ _ ⟨ord,hp,rfl,rfl⟩ kp
 ·rintro h1 h' tk d' vs tss pm c ⟨ord,hp,rfl,rfl⟩ k1 k2 e2 hpb ho
  have hl:=hp.length_eq
  have hpl:∀ i ∈ pm.toList,i < ord.length:=λi hi=>by
   have:=(Array.perm_iff_toList_perm.mp hpb).mem_iff.mp hi
   have:=List.mem_range.mp (by simpa using this)
   simpa using this
  obtain ⟨out,hout⟩:∃ out,out=pm.toList.map λi=>ord.getD i ([],0):=⟨_,rfl⟩
  have e3:(pm.toList.map λi=>(ord.map λq=>Value.ref q.2).getD i Value.none)=out.map λq=>Value.ref q.2:=by
   rw [hout,List.map_map]
   refine List.map_congr_left λi hi=>?_
   simp [hpl i hi]
  have e4:out.map (·.1)=Srt.sortT (kbs.map (·.1)):=by
   rw [<- Srt.sortT_of_perm (hp.map (·.1)),<- ho,hout,List.map_map]
   refine List.map_congr_left λi hi=>?_
   simp [hpl i hi]
  have sub:∀ q ∈ out,q ∈ kbs:=λq hq=>by
   rw [hout] at hq
   obtain ⟨i,hi,rfl⟩:=List.mem_map.mp hq
   have:=hpl i hi
   rw [List.getD_eq_getElem?_getD,List.getElem?_eq_getElem this]
   exact hp.mem_iff.mp (List.getElem_mem this)
  rw [e3] at e2
  have I1:Inv X pins σ H { s with heap:=h1,toks:=tk,drawn:=d' }:=I.keptD k1
  have vs:∀ l:List (List Int × Addr),ar (l.map λq=>V.ref q.2) (l.map λq=>Value.ref q.2):=λl=>by
   induction l with
   | nil=>exact .nil
   | cons x l ih=>exact .cons rfl ih
  have I2:Inv X pins σ (upd H h1.objs.size (.lst (out.map λq=>V.ref q.2))) { s with heap:=h',toks:=tk,drawn:=d' } :=
   I1.laid (t':=tk) k2 (Nat.le_refl _) (show aV X.prog X.w _ h' _ (.lst _) from ⟨by
    have:=congrArg List.length e4
    rw [List.length_map,Srt.sortT_len,List.length_map] at this
    rw [List.length_map,sizeLine_eq];omega,_,c,vs out,e2⟩)
  exact ⟨.ref h1.objs.size,_,I2,rfl,q _ out (I1.hok.fresh (Nat.le_refl _)) sub e4⟩
end
end L2
namespace MM
open PySem
inductive Sc where
 | non|bl (b:Bool)|int (i:Int)|str (x:Str)
 deriving Inhabited,DecidableEq
inductive DD where
 | k (kvs:List (Int × Sc))|t (kvs:List (List Int × Sc))
 deriving Inhabited
inductive PV where
 | non|bl (b:Bool)|int (i:Int)|str (x:Str)|tup (xs:List PV)|lst (xs:List PV)|dI (d:DD)
 deriving Inhabited
noncomputable def Sc.pv:Sc->PV
 | .non=>.non
 | .bl b=>.bl b
 | .int i=>.int i
 | .str x=>.str x
noncomputable def sc?:PV->Option Sc
 | .non=>some .non
 | .bl b=>some (.bl b)
 | .int i=>some (.int i)
 | .str x=>some (.str x)
 | _=>none
noncomputable def fO {α:Type} [DecidableEq α] (kvs:List (α × Sc)) (k:α):Option Sc:=(kvs.find? λp=>decide (p.1=k)).map (·.2)
noncomputable def eM {α:Type} [DecidableEq α] (kvs:List (α × Sc)) (k:α) (v:Sc):List (α × Sc) :=
 if (kvs.any λp=>decide (p.1=k))=true then kvs.map (λp=>if p.1=k then (p.1,v) else p) else kvs ++ [(k,v)]
noncomputable def eqL (f:PV->PV->Option Bool):List PV->List PV->Option Bool
 | [],[]=>some true
 | x::xs,y::ys=>(f x y).bind λp=>(eqL f xs ys).map λq=>p&&q
 | _,_=>some false
noncomputable def eqF:Nat->PV->PV->Option Bool
 | _,.non,.non=>some true
 | _,.bl a,.bl b=>some (a == b)
 | _,.bl a,.int b=>some ((if a then 1 else 0) == b)
 | _,.int a,.bl b=>some (a == (if b then 1 else 0))
 | _,.int a,.int b=>some (a == b)
 | _,.str a,.str b=>some (a == b)
 | 0,.tup _,.tup _=>none
 | 0,.lst _,.lst _=>none
 | _,.dI _,_=>none
 | _,_,.dI _=>none
 | n + 1,.tup a,.tup b=>eqL (eqF n) a b
 | n + 1,.lst a,.lst b=>if a.length=b.length then eqL (eqF n) a b else some false
 | _,_,_=>some false
noncomputable def rW:PV->PV->Bool
 | .tup _,.tup _=>true
 | .lst _,.lst _=>true
 | .tup _,_=>false
 | _,.tup _=>false
 | .lst _,_=>false
 | _,.lst _=>false
 | .bl _,.int _=>false
 | .int _,.bl _=>false
 | .dI _,_=>false
 | _,.dI _=>false
 | _,_=>true
noncomputable def inL (f:PV->Option Bool):List PV->Option Bool
 | []=>some false
 | y::ys=>(f y).bind λp=>(inL f ys).map λq=>p || q
inductive MV where
 | val (v:PV)|own (xs:List PV)|brw (xs:List PV)|ownD (d:DD)|brwD (d:DD)
 deriving Inhabited
noncomputable abbrev Rho:=List (Option MV)
inductive Op2 where
 | add|sub|mul|fdiv|mod|pow|shr
 deriving DecidableEq
inductive Cp where
 | eq|ne|lt|le|gt|ge|isN|notN|isIn|notIn
 deriving DecidableEq
inductive Blt where
 | len|tupleOf|listOf|sorted|any|all|sum|max1|min1|max2|min2|intOf|boolOf|isInt|isBool|isStr|isList|isTuple
 | sortedSet|lenSet|lenSetSub|sortedKeys|valuesOf|tupleRev
 | tupleRng
 | sortedSetT
 deriving DecidableEq
inductive Sk where
 | seq|rng|enm|rev
 deriving DecidableEq
set_option genInjectivity false in
inductive ME where
 | var (i:Nat)
 | bor (i:Nat)
 | cst (v:PV)
 | glob (x:Str) (v:PV)
 | bin (op:Op2) (a b:ME)
 | neg (a:ME)
 | not (a:ME)
 | and (a b:ME)
 | or (a b:ME)
 | ite (c a b:ME)
 | cmp (op:Cp) (a b:ME)
 | chain (op op':Cp) (a b c:ME)
 | tup (es:List ME)
 | lst (es:List ME)
 | idx (a i:ME)
 | slice (a lo hi:ME)
 | blt (b:Blt) (es:List ME)
 | call (f:Nat) (es:List ME)
 | callD (f:Nat) (es:List ME) (d:List Sc)
 | comp (k:Sk) (src:List ME) (js:List Nat) (cond elt:ME)
 | dget (a k d:ME)
 | dat (a k:ME)
 | dIn (neg:Bool) (k a:ME)
 deriving Inhabited
noncomputable def aS:List PV->Option (List Int)
 | []=>some []
 | .int i::r=>(aS r).map (i::·)
 | _=>none
noncomputable def dl:List PV->Option (List (List Int))
 | []=>some []
 | .tup xs::r=>(aS xs).bind λx=>(dl r).map (x::·)
 | _=>none
noncomputable def cf:List PV->Option (List Bool)
 | []=>some []
 | .bl i::r=>(cf r).map (i::·)
 | _=>none
noncomputable def rX:PV->PV->Option (Option Sc)
 | .dI (.k kvs),.int i=>some (fO kvs i)
 | .dI (.t kvs),.tup xs=>(aS xs).map (fO kvs)
 | _,_=>none
noncomputable def uh:DD->PV->Sc->Option DD
 | .k kvs,.int i,s=>if kvs.length < 10000 then some (.k (eM kvs i s)) else none
 | .t kvs,.tup xs,s=>(aS xs).bind λk=>if kvs.length < 10000 then some (.t (eM kvs k s)) else none
 | _,_,_=>none
noncomputable def dSc:DD->List Sc
 | .k kvs=>kvs.map (·.2)
 | .t kvs=>kvs.map (·.2)
noncomputable def kr (d:DD):List PV:=(dSc d).map Sc.pv
noncomputable def lexLt:List Int->List Int->Bool
 | [],[]=>false
 | [],_::_=>true
 | _::_,[]=>false
 | x::xs,y::ys=>if x=y then lexLt xs ys else decide (x < y)
noncomputable def ui (x:Int):List Int->List Int
 | []=>[x]
 | y::r=>if y < x then y::ui x r else x::y::r
noncomputable def sortI:List Int->List Int
 | []=>[]
 | x::r=>ui x (sortI r)
noncomputable def uj (x:List Int):List (List Int)->List (List Int)
 | []=>[x]
 | y::r=>if lexLt y x=true then y::uj x r else x::y::r
noncomputable def sortT:List (List Int)->List (List Int)
 | []=>[]
 | x::r=>uj x (sortT r)
noncomputable def dd:List Int->List Int
 | []=>[]
 | x::r=>if x ∈ dd r then dd r else x::dd r
noncomputable def iD {α:Type} (f:Int->Int->Option α):PV->PV->Option α
 | .int i,.int j=>f i j
 | _,_=>none
noncomputable def x_:PV->PV->Option PV
 | .int i,.int j=>some (.int (i + j))
 | .lst a,.lst b=>if a.length + b.length <= 10000 then some (.lst (a ++ b)) else none
 | .tup a,.tup b=>if a.length + b.length <= 10000 then some (.tup (a ++ b)) else none
 | .str a,.str b=>if a.length + b.length <= 1000000 then some (.str (a ++ b)) else none
 | _,_=>none
noncomputable def gU (op:Op2):PV->PV->Option PV:=match op with
 | .add=>x_
 | .sub=>iD λi j=>some (.int (i - j))
 | .mul=>iD λi j=>if (-(2 ^ 64) < i/\i < 2 ^ 64) \/ (-(2 ^ 64) < j/\j < 2 ^ 64) then some (.int (i * j)) else none
 | .fdiv=>iD λi j=>if 0 < j/\j < 1073741824 then some (.int (i / j)) else none
 | .mod=>iD λi j=>if 0 < j then some (.int (i % j)) else none
 | .pow=>iD λi j=>if 0 <= j/\j <= 1000000/\i.natAbs < 2 ^ 64 then some (.int (i ^ j.toNat)) else none
 | .shr=>iD λi j=>if 0 <= j then some (.int (i / 2 ^ j.toNat)) else none
noncomputable def dM:PV->Bool
 | .non=>true
 | _=>false
noncomputable def isIn (x:PV) (xs:List PV):Option Bool:=inL (λy=>eqF 100 y x) xs
noncomputable def Bt (a b:PV):Option Bool:=match b with
 | .non=>some (dM a)
 | .bl q=>(match a with|.bl p=>some (p == q)|_=>none)
 | _=>none
noncomputable def aO:PV->Option (List PV)
 | .tup xs=>some xs
 | .lst xs=>some xs
 | _=>none
noncomputable def eN:PV->Option (List PV)
 | .lst xs=>some xs
 | _=>none
noncomputable def cb (op:Cp):PV->PV->Option Bool:=match op with
 | .eq=>eqF 100
 | .ne=>λa b=>if rW a b=true then (eqF 100 a b).map λp=>!p else none
 | .lt=>iD λi j=>some (decide (i < j))
 | .le=>iD λi j=>some (decide (i <= j))
 | .gt=>iD λi j=>some (decide (j < i))
 | .ge=>iD λi j=>some (decide (j <= i))
 | .isN=>Bt
 | .notN=>λa b=>(Bt a b).map λp=>!p
 | .isIn=>λa b=>(aO b).bind (isIn a)
 | .notIn=>λa b=>((aO b).bind (isIn a)).map λp=>!p
noncomputable def place (n:Nat) (i:Int):Option Nat :=
 if 0 <= i then (if i < n then some i.toNat else none) else if -(n:Int) <= i then some (i + n).toNat else none
noncomputable def n_:PV->PV->Option PV
 | .tup xs,.int i=>(place xs.length i).bind λj=>xs[j]?
 | .lst xs,.int i=>(place xs.length i).bind λj=>xs[j]?
 | _,_=>none
noncomputable def gX (n d:Nat):Option Int->Nat
 | none=>d
 | some i=>if i < 0 then (i + n).toNat else min i.toNat n
noncomputable def cut (xs:List PV) (lo hi:Option Int):List PV:=(xs.drop (gX xs.length 0 lo)).take (gX xs.length xs.length hi - gX xs.length 0 lo)
noncomputable def jI:PV->Option Int->Option Int->Option PV
 | .lst xs,lo,hi=>some (.lst (cut xs lo hi))
 | .tup xs,lo,hi=>some (.tup (cut xs lo hi))
 | _,_,_=>none
noncomputable def bnd:ME->PV->Option (Option Int)
 | .cst .non,_=>some none
 | _,.int i=>some (some i)
 | _,_=>none
noncomputable def zm:List Int->Option Int
 | []=>none
 | x::r=>some (r.foldl (λa b=>if a < b then b else a) x)
noncomputable def ddT:List (List Int)->List (List Int)
 | []=>[]
 | k::r=>if k ∈ ddT r then ddT r else k::ddT r
noncomputable def fP (xs:List PV):Option PV :=
 if xs.length < 64 then
  match aS xs with
  | some ns=>some (.lst ((sortI ns).map .int))
  | none=>(dl xs).map λts=>.lst ((sortT ts).map λt=>.tup (t.map .int))
 else none
noncomputable def isT (b:Blt):PV->Bool
 | .int _=>b == .isInt
 | .bl _=>b == .isInt || b == .isBool
 | .str _=>b == .isStr
 | .lst _=>b == .isList
 | .tup _=>b == .isTuple
 | .non=>false
 | .dI _=>false
noncomputable def isD:PV->Bool
 | .dI _=>true
 | _=>false
noncomputable def bq (vs:List PV) (f:PV->Option PV):Option PV:=match vs with
 | [a]=>f a
 | _=>none
noncomputable def fQ (vs:List PV) (f:PV->PV->Option PV):Option PV:=match vs with
 | [a,b]=>f a b
 | _=>none
noncomputable def fc (b:Blt) (vs:List PV):Option PV:=bq vs λa=>if isD a=true then none else some (.bl (isT b a))
noncomputable def ya:PV->Option PV
 | .tup xs=>some (.int xs.length)
 | .lst xs=>some (.int xs.length)
 | .dI (.k kvs)=>some (.int kvs.length)
 | _=>none
noncomputable def ak (b:Blt) (vs:List PV):Option PV:=match b with
 | .len=>bq vs ya
 | .tupleOf=>bq vs λa=>(aO a).map .tup
 | .listOf=>bq vs λa=>(aO a).map .lst
 | .sorted=>bq vs λa=>(aO a).bind fP
 | .any=>bq vs λa=>(eN a).bind λxs=>(cf xs).map λbs=>.bl (bs.any id)
 | .all=>bq vs λa=>(eN a).bind λxs=>(cf xs).map λbs=>.bl (bs.all id)
 | .sum=>bq vs λa=>(eN a).bind λxs=>(aS xs).map λns=>.int ns.sum
 | .max1=>bq vs λa=>(eN a).bind λxs=>(aS xs).bind λns=>(zm ns).map .int
 | .min1=>none
 | .max2=>fQ vs (iD λi j=>some (.int (if j > i then j else i)))
 | .min2=>fQ vs (iD λi j=>some (.int (if j < i then j else i)))
 | .intOf=>bq vs λa=>match a with|.int i=>some (.int i)|.bl b=>some (.int (if b then 1 else 0))|_=>none
 | .boolOf=>bq vs λa=>match a with|.bl b=>some (.bl b)|_=>none
 | .isInt=>fc .isInt vs
 | .isBool=>fc .isBool vs
 | .isStr=>fc .isStr vs
 | .isList=>fc .isList vs
 | .isTuple=>fc .isTuple vs
 | .sortedSetT=>bq vs λa=>(eN a).bind λxs=>(dl xs).bind λts=>if ts.length <= 60 then some (.lst ((sortT (ddT ts)).map λt=>.tup (t.map .int))) else none
 | .sortedSet=>bq vs λa=>(aO a).bind λxs=>(aS xs).bind λns=>if ns.length <= 1000/\(dd ns).length < 64 then some (.lst ((sortI (dd ns)).map .int)) else none
 | .lenSet=>bq vs λa=>(aO a).bind λxs=>(aS xs).bind λns=>if ns.length <= 1000 then some (.int (dd ns).length) else none
 | .lenSetSub=>fQ vs λa b=>(aO a).bind λxs=>(aS xs).bind λns=>(aO b).bind λys=>(aS ys).bind λms =>
   if ns.length <= 1000/\ms.length <= 1000/\(dd ns).length <= 60 then some (.int ((dd ns).filter λn=>!decide (n ∈ ms)).length) else none
 | .sortedKeys=>bq vs λa=>match a with|.dI (.k kvs)=>if kvs.length < 64 then some (.lst ((sortI (kvs.map (·.1))).map .int)) else none|_=>none
 | .tupleRng=>bq vs λa=>match a with|.int j=>if 0 <= j/\j <= 10000 then some (.tup ((List.range j.toNat).map λ(k:Nat)=>.int (k:Int))) else none|_=>none
 | .tupleRev=>bq vs λa=>(eN a).map λxs=>.tup xs.reverse
 | .valuesOf=>bq vs λa=>match a with|.dI d=>if (kr d).length <= 10000 then some (.lst (kr d)) else none|_=>none
noncomputable def bC (n:Nat):List PV->List PV
 | []=>[]
 | x::r=>.tup [.int (n:Nat),x]::bC (n + 1) r
noncomputable def cj:Sk->List PV->Option (List PV)
 | .seq,[a]=>aO a
 | .rng,[.int j]=>if -(2 ^ 62) <= j/\j < 2 ^ 62 then some ((List.range j.toNat).map λ(k:Nat)=>.int ((0:Int) + k)) else none
 | .rng,[.int i,.int j]=>if -(2 ^ 62) <= i/\i < 2 ^ 62/\-(2 ^ 62) <= j/\j < 2 ^ 62 then some ((List.range (j - i).toNat).map λ(k:Nat)=>.int (i + k)) else none
 | .enm,[a]=>(aO a).map (bC 0)
 | .rev,[.lst xs]=>some xs.reverse
 | _,_=>none
noncomputable def eh (c:PV->Option Bool) (f:PV->Option PV):List PV->Option (List PV)
 | []=>some []
 | x::r=>(c x).bind λb=>if b=true then (f x).bind λy=>(eh c f r).map (y::·) else eh c f r
noncomputable def aE:PV->Option Bool
 | .bl b=>some b
 | _=>none
noncomputable abbrev Cal:=Nat->List MV->Option PV
noncomputable def ul:Option MV->Option PV
 | some (.val v)=>some v
 | _=>none
noncomputable def bg:Option MV->Option PV
 | some (.val v)=>some v
 | some (.own xs)=>some (.lst xs)
 | some (.brw xs)=>some (.lst xs)
 | some (.ownD kvs)=>some (.dI kvs)
 | some (.brwD kvs)=>some (.dI kvs)
 | none=>none
noncomputable def fR:Option MV->Option MV
 | some (.val v)=>some (.val v)
 | some (.own xs)=>some (.brw xs)
 | some (.brw xs)=>some (.brw xs)
 | some (.ownD xs)=>some (.brwD xs)
 | some (.brwD xs)=>some (.brwD xs)
 | none=>none
noncomputable def eO:Option MV->Option MV
 | some (.own xs)=>some (.brw xs)
 | some (.ownD xs)=>some (.brwD xs)
 | o=>o
noncomputable def cA (js:List Nat) (ρ:Rho) (x:PV):Rho:=some (.val x)::js.map λj=>eO (ρ[j]?).join
mutual
noncomputable def ev (cal:Cal):ME->Rho->Option PV
 | .var i,ρ=>ul (ρ[i]?).join
 | .bor i,ρ=>bg (ρ[i]?).join
 | .cst v,_=>some v
 | .glob _ v,_=>some v
 | .bin op a b,ρ=>(ev cal a ρ).bind λx=>(ev cal b ρ).bind λy=>gU op x y
 | .neg a,ρ=>(ev cal a ρ).bind λx=>match x with|.int i=>some (.int (-i))|_=>none
 | .not a,ρ=>((ev cal a ρ).bind aE).map λb=>.bl (!b)
 | .and a b,ρ=>((ev cal a ρ).bind aE).bind λc=>if c=true then (ev cal b ρ).bind λy=>(aE y).map .bl else some (.bl false)
 | .or a b,ρ=>((ev cal a ρ).bind aE).bind λc=>if c=true then some (.bl true) else (ev cal b ρ).bind λy=>(aE y).map .bl
 | .ite c a b,ρ=>((ev cal c ρ).bind aE).bind λk=>if k=true then ev cal a ρ else ev cal b ρ
 | .cmp op a b,ρ=>(ev cal a ρ).bind λx=>(ev cal b ρ).bind λy=>(cb op x y).map .bl
 | .chain op op' a b c,ρ=>(ev cal a ρ).bind λx=>(ev cal b ρ).bind λy=>(cb op x y).bind λk=>if k=true then (ev cal c ρ).bind λz=>(cb op' y z).map .bl else some (.bl false)
 | .tup es,ρ=>(evs cal es ρ).bind λvs=>if vs.length <= 10000 then some (.tup vs) else none
 | .lst es,ρ=>(evs cal es ρ).bind λvs=>if vs.length <= 10000 then some (.lst vs) else none
 | .idx a i,ρ=>(ev cal a ρ).bind λx=>(ev cal i ρ).bind λy=>n_ x y
 | .slice a lo hi,ρ=>(ev cal a ρ).bind λx=>((ev cal lo ρ).bind λl=>bnd lo l).bind λl=>((ev cal hi ρ).bind λh=>bnd hi h).bind λh=>jI x l h
 | .blt b es,ρ=>(evs cal es ρ).bind λvs=>ak b vs
 | .call f es,ρ=>(evA cal es ρ).bind λvs=>cal f vs
 | .callD f es d,ρ=>(evA cal es ρ).bind λvs=>cal f (vs ++ d.map λx=>.val x.pv)
 | .comp k src js cond elt,ρ=>(evs cal src ρ).bind λvs=>(cj k vs).bind λxs =>
   if xs.length <= 10000 then (eh (λx=>(ev cal cond (cA js ρ x)).bind aE) (λx=>ev cal elt (cA js ρ x)) xs).map .lst else none
 | .dget a k d,ρ=>(ev cal a ρ).bind λx=>(ev cal k ρ).bind λy=>(ev cal d ρ).bind λz=>(rX x y).bind λo=>(sc? z).map λs=>(o.getD s).pv
 | .dat a k,ρ=>(ev cal a ρ).bind λx=>(ev cal k ρ).bind λy=>(rX x y).bind λo=>o.map Sc.pv
 | .dIn neg k a,ρ=>(ev cal k ρ).bind λy=>(ev cal a ρ).bind λx=>(rX x y).map λo=>.bl (if neg=true then !o.isSome else o.isSome)
noncomputable def evs (cal:Cal):List ME->Rho->Option (List PV)
 | [],_=>some []
 | e::es,ρ=>(ev cal e ρ).bind λv=>(evs cal es ρ).map (v::·)
noncomputable def evA (cal:Cal):List ME->Rho->Option (List MV)
 | [],_=>some []
 | .bor i::es,ρ=>(fR (ρ[i]?).join).bind λv=>(evA cal es ρ).map (v::·)
 | e::es,ρ=>(ev cal e ρ).bind λv=>(evA cal es ρ).map (MV.val v::·)
end
noncomputable def evB (cal:Cal) (e:ME) (ρ:Rho):Option Bool:=(ev cal e ρ).bind aE
set_option genInjectivity false in
inductive MS where
 | set (i:Nat) (e:ME)
 | setOwn (i:Nat) (e:ME)
 | freeze (i:Nat)
 | append (i:Nat) (e:ME)
 | extend (i:Nat) (e:ME)
 | setIdx (i:Nat) (k v:ME)
 | unpack (is:List Nat) (e:ME)
 | expr (e:ME)
 | ite (c:ME) (a b:List MS)
 | for1 (i:Nat) (k:Sk) (src:List ME) (body:List MS)
 | forT (is:List Nat) (k:Sk) (src:List ME) (body:List MS)
 | while (n:Nat) (c:ME) (body:List MS)
 | ret (e:ME)
 | retOwn (i:Nat)
 | retN
 | brk
 | cont
 | pass
 | never
 | newD (m:Bool) (i:Nat)
 | dput (i:Nat) (k v:ME)
 deriving Inhabited
inductive R where
 | next (ρ:Rho)|brk (ρ:Rho)|cont (ρ:Rho)|ret (v:PV)|bad
 deriving Inhabited
noncomputable def R.andThen:R->(Rho->R)->R
 | .next ρ,k=>k ρ
 | r,_=>r
noncomputable def put (ρ:Rho) (i:Nat) (v:MV):Rho:=ρ.set i (some v)
noncomputable def eP (o:Option PV) (k:PV->R):R:=match o with
 | some v=>k v
 | none=>.bad
noncomputable def um (o:Option Bool) (k:Bool->R):R:=match o with
 | some v=>k v
 | none=>.bad
noncomputable def ku:List Nat->List PV->Rho->Option Rho
 | [],[],ρ=>some ρ
 | i::is,v::vs,ρ=>ku is vs (put ρ i (.val v))
 | _,_,_=>none
noncomputable def dY (is:List Nat):PV->Rho->Option Rho
 | .tup vs,ρ=>ku is vs ρ
 | _,_=>none
noncomputable def db (o:Option Rho) (f:Rho->R):R:=match o with
 | some ρ=>f ρ
 | none=>.bad
noncomputable def aT (body:PV->Rho->R):List PV->Rho->R
 | [],ρ=>.next ρ
 | x::r,ρ=>match body x ρ with
  | .next ρ'=>aT body r ρ'
  | .cont ρ'=>aT body r ρ'
  | .brk ρ'=>.next ρ'
  | .ret v=>.ret v
  | .bad=>.bad
noncomputable def mY (c:Rho->Option Bool) (body:Rho->R):Nat->Rho->R
 | 0,_=>.bad
 | n + 1,ρ=>match c ρ with
  | none=>.bad
  | some false=>.next ρ
  | some true=>match body ρ with
   | .next ρ'=>mY c body n ρ'
   | .cont ρ'=>mY c body n ρ'
   | .brk ρ'=>.next ρ'
   | .ret v=>.ret v
   | .bad=>.bad
noncomputable def bH (src:List ME) (ρ:Rho):Rho:=match src with
 | [.bor i]=>(match (ρ[i]?).join with|some (.own xs)=>put ρ i (.brw xs)|_=>ρ)
 | _=>ρ
noncomputable def bD (src:List ME) (ρ₀ ρ:Rho):Rho:=match src with
 | [.bor i]=>(match (ρ₀[i]?).join,(ρ[i]?).join with|some (.own _),some (.brw xs)=>put ρ i (.own xs)|_,_=>ρ)
 | _=>ρ
noncomputable def R.back (src:List ME) (ρ₀:Rho):R->R
 | .next ρ=>.next (bD src ρ₀ ρ)
 | .brk ρ=>.brk (bD src ρ₀ ρ)
 | .cont ρ=>.cont (bD src ρ₀ ρ)
 | r=>r
mutual
noncomputable def ex (cal:Cal):MS->Rho->R
 | .set i e,ρ=>eP (ev cal e ρ) λv=>.next (put ρ i (.val v))
 | .setOwn i e,ρ=>eP (ev cal e ρ) λv=>match v with|.lst xs=>.next (put ρ i (.own xs))|_=>.bad
 | .freeze i,ρ=>match (ρ[i]?).join with|some (.own xs)=>.next (put ρ i (.val (.lst xs)))|some _=>.next ρ|none=>.bad
 | .append i e,ρ=>eP (ev cal e ρ) λv=>match (ρ[i]?).join with
  | some (.own xs)=>if xs.length < 10000 then .next (put ρ i (.own (xs ++ [v]))) else .bad
  | _=>.bad
 | .extend i e,ρ=>eP (ev cal e ρ) λv=>match (ρ[i]?).join,aO v with
  | some (.own xs),some ys=>if xs.length + ys.length <= 10000 then .next (put ρ i (.own (xs ++ ys))) else .bad
  | _,_=>.bad
 | .setIdx i k v,ρ=>eP (ev cal v ρ) λv=>eP (ev cal k ρ) λk=>match (ρ[i]?).join,k with
  | some (.own xs),.int k=>(match place xs.length k with|some j=>.next (put ρ i (.own (xs.set j v)))|none=>.bad)
  | _,_=>.bad
 | .unpack is e,ρ=>eP (ev cal e ρ) λv=>db (dY is v ρ) .next
 | .expr e,ρ=>eP (ev cal e ρ) λ_=>.next ρ
 | .ite c a b,ρ=>um (evB cal c ρ) λk=>if k=true then exs cal a ρ else exs cal b ρ
 | .for1 i k src body,ρ=>match (evs cal src ρ).bind (cj k) with
  | some xs=>(aT (λx ρ'=>exs cal body (put ρ' i (.val x))) xs (bH src ρ)).back src ρ
  | none=>.bad
 | .forT is k src body,ρ=>match (evs cal src ρ).bind (cj k) with
  | some xs=>(aT (λx ρ'=>db (dY is x ρ') λρ''=>exs cal body ρ'') xs (bH src ρ)).back src ρ
  | none=>.bad
 | .while n c body,ρ=>mY (evB cal c) (λρ'=>exs cal body ρ') n ρ
 | .ret e,ρ=>eP (ev cal e ρ) .ret
 | .retOwn i,ρ=>match (ρ[i]?).join with|some (.own xs)=>.ret (.lst xs)|some (.ownD kvs)=>.ret (.dI kvs)|some (.val v)=>.ret v|_=>.bad
 | .newD m i,ρ=>.next (put ρ i (.ownD (if m=true then .t [] else .k [])))
 | .dput i k v,ρ=>eP (ev cal v ρ) λv=>eP (ev cal k ρ) λk=>match (ρ[i]?).join,sc? v with
  | some (.ownD d),some s=>match uh d k s with|some d'=>.next (put ρ i (.ownD d'))|none=>.bad
  | _,_=>.bad
 | .retN,_=>.ret .non
 | .brk,ρ=>.brk ρ
 | .cont,ρ=>.cont ρ
 | .pass,ρ=>.next ρ
 | .never,_=>.bad
noncomputable def exs (cal:Cal):List MS->Rho->R
 | [],ρ=>.next ρ
 | s::ss,ρ=>(ex cal s ρ).andThen λρ'=>exs cal ss ρ'
end
structure MD where
 name:Str
 params:List Str
 names:List Str
 body:List MS
 deriving Inhabited
noncomputable def aa (ds:List MD):Nat->Cal
 | 0,_,_=>none
 | n + 1,f,args=>match ds[f]? with
  | none=>none
  | some d=>if args.length=d.params.length then
    (match exs (aa ds n) d.body (args.map some ++ List.replicate (d.names.length - args.length) none) with
    | .next _=>some .non
    | .ret v=>some v
    | _=>none) else none
end MM
namespace MM
open PySem PySem.Spec PyProof.Rows L2
noncomputable abbrev St:=L2.St
noncomputable def ax (H:Hp) (O:List Addr):Hp:=λb=>if b ∈ O then none else H b
theorem mZ {H:Hp}{O:List Addr}{b:Addr} (h:b ∈ O):ax H O b=none:=if_pos h
theorem bJ {H:Hp}{O:List Addr}{b:Addr} (h:b ∉ O):ax H O b=H b:=if_neg h
theorem af.rd {H H':Hp} (s:af H H') {a:Addr}{u:HO} (h:Rd H a u):Rd H' a u:=h.elim (λe=>.inl (s a _ e)) λ⟨o,e⟩=>.inr ⟨o,s a _ e⟩
theorem aY (H:Hp) (O:List Addr):af (ax H O) H:=λb u e=>by
 unfold ax at e
 split at e
 ·cases e
 ·exact e
theorem bt {H H':Hp}{O O':List Addr} (s:af H H') (h:∀ b ∈ O',b ∈ O \/ H b=none):af (ax H O) (ax H' O'):=λb u e=>by
 have hb:b ∉ O:=λz=>by rw [mZ z] at e;cases e
 rw [bJ hb] at e
 rw [bJ]
 ·exact s b u e
 ·intro z
  rcases h b z with q|q
  ·exact hb q
  ·rw [q] at e;cases e
theorem aA {H H':Hp}{O:List Addr} (s:af H H'):af (ax H O) (ax H' O):=bt s λ_ h=>.inl h
noncomputable def Sc.v:Sc->V
 | .non=>.non
 | .bl b=>.bl b
 | .int i=>.int i
 | .str x=>.str x
noncomputable def fF (kvs:List (Int × Sc)):List (Key × V):=kvs.map λp=>(Sum.inl p.1,p.2.v)
noncomputable def g8 (kvs:List (List Int × Sc)):List (List Key × V):=kvs.map λp=>(p.1.map Sum.inl,p.2.v)
noncomputable def eQ:DD->HO
 | .k kvs=>.dK (fF kvs)
 | .t kvs=>.dT (g8 kvs)
mutual
noncomputable def Rep (K:PySem.W.Frag) (F:Hp):PV->V->Prop
 | .non,u=>u=.non
 | .bl b,u=>u=.bl b
 | .int i,u=>u=.int i
 | .str x,u=>u=.str x
 | .tup xs,u=>∃ a us,u=.ref a/\F a=some (.tup us)/\Reps K F xs us
 | .lst xs,u=>∃ a us,u=.ref a/\SqL K F a us/\Reps K F xs us
 | .dI kvs,u=>∃ a,u=.ref a/\Rd F a (eQ kvs)
noncomputable def Reps (K:PySem.W.Frag) (F:Hp):List PV->List V->Prop
 | [],us=>us=[]
 | x::xs,us=>∃ u r,us=u::r/\Rep K F x u/\Reps K F xs r
end
section
variable {K:PySem.W.Frag}{F F':Hp}
mutual
theorem Rep.mono (s:af F F'):∀ (x:PV) {u:V},Rep K F x u->Rep K F' x u
 | .non,_,h=>by simpa only [Rep] using h
 | .bl _,_,h=>by simpa only [Rep] using h
 | .int _,_,h=>by simpa only [Rep] using h
 | .str _,_,h=>by simpa only [Rep] using h
 | .tup xs,_,h=>by
  rw [Rep] at h ⊢
  obtain ⟨a,us,e,q,r⟩:=h
  exact ⟨a,us,e,s a _ q,Reps.mono s xs r⟩
 | .lst xs,_,h=>by
  rw [Rep] at h ⊢
  obtain ⟨a,us,e,q,r⟩:=h
  exact ⟨a,us,e,s.seq q,Reps.mono s xs r⟩
 | .dI kvs,_,h=>by
  rw [Rep] at h ⊢
  obtain ⟨a,e,q⟩:=h
  exact ⟨a,e,af.rd s q⟩
theorem Reps.mono (s:af F F'):∀ (xs:List PV) {us:List V},Reps K F xs us->Reps K F' xs us
 | [],_,h=>by simpa only [Reps] using h
 | x::xs,_,h=>by
  rw [Reps] at h ⊢
  obtain ⟨u,r,e,q,t⟩:=h
  exact ⟨u,r,e,Rep.mono s x q,Reps.mono s xs t⟩
end
theorem Reps.nil:Reps K F [] []:=by rw [Reps]
theorem Reps.cons {x:PV}{xs:List PV}{u:V}{us:List V} (h:Rep K F x u) (t:Reps K F xs us):Reps K F (x::xs) (u::us):=by
 rw [Reps];exact ⟨u,us,rfl,h,t⟩
theorem Reps.length:∀ {xs:List PV}{us:List V},Reps K F xs us->xs.length=us.length
 | [],_,h=>by rw [Reps] at h;subst h;rfl
 | x::xs,_,h=>by
  rw [Reps] at h
  obtain ⟨u,r,e,_,t⟩:=h
  subst e
  simp [Reps.length t]
theorem Reps.get:∀ {xs:List PV}{us:List V}{i:Nat}{x:PV},Reps K F xs us->xs[i]?=some x->∃ u,us[i]?=some u/\Rep K F x u
 | [],_,_,_,_,e=>by simp at e
 | x::xs,_,i,y,h,e=>by
  rw [Reps] at h
  obtain ⟨u,r,rfl,q,t⟩:=h
  cases i with
  | zero=>simp at e;subst e;exact ⟨u,by simp,q⟩
  | succ i=>obtain ⟨w,h1,h2⟩:=Reps.get (i:=i) t (by simpa using e);exact ⟨w,by simpa using h1,h2⟩
theorem Reps.get':∀ {xs:List PV}{us:List V}{i:Nat}{u:V},Reps K F xs us->us[i]?=some u->∃ x,xs[i]?=some x/\Rep K F x u
 | [],_,i,_,h,e=>by rw [Reps] at h;subst h;simp at e
 | x::xs,_,i,y,h,e=>by
  rw [Reps] at h
  obtain ⟨u,r,rfl,q,t⟩:=h
  cases i with
  | zero=>simp at e;subst e;exact ⟨x,by simp,q⟩
  | succ i=>obtain ⟨w,h1,h2⟩:=Reps.get' (i:=i) t (by simpa using e);exact ⟨w,by simpa using h1,h2⟩
theorem Reps.append:∀ {xs ys:List PV}{us ws:List V},Reps K F xs us->Reps K F ys ws->Reps K F (xs ++ ys) (us ++ ws)
 | [],_,_,_,h,g=>by rw [Reps] at h;subst h;exact g
 | x::xs,_,_,_,h,g=>by
  rw [Reps] at h
  obtain ⟨u,r,rfl,q,t⟩:=h
  exact .cons q (Reps.append t g)
theorem Reps.snoc {xs:List PV}{us:List V}{x:PV}{u:V} (h:Reps K F xs us) (g:Rep K F x u):Reps K F (xs ++ [x]) (us ++ [u]):=h.append (.cons g .nil)
theorem Reps.take:∀ {xs:List PV}{us:List V} (n:Nat),Reps K F xs us->Reps K F (xs.take n) (us.take n)
 | _,_,0,_=>by simpa using Reps.nil
 | [],_,n + 1,h=>by rw [Reps] at h;subst h;simpa using Reps.nil
 | x::xs,_,n + 1,h=>by
  rw [Reps] at h
  obtain ⟨u,r,rfl,q,t⟩:=h
  exact .cons q (Reps.take n t)
theorem Reps.drop:∀ {xs:List PV}{us:List V} (n:Nat),Reps K F xs us->Reps K F (xs.drop n) (us.drop n)
 | _,_,0,h=>h
 | [],_,n + 1,h=>by rw [Reps] at h;subst h;simpa using Reps.nil
 | x::xs,_,n + 1,h=>by
  rw [Reps] at h
  obtain ⟨u,r,rfl,q,t⟩:=h
  exact Reps.drop n t
theorem Reps.set:∀ {xs:List PV}{us:List V}{x:PV}{u:V} (n:Nat),Reps K F xs us->Rep K F x u->Reps K F (xs.set n x) (us.set n u)
 | [],_,_,_,n,h,_=>by rw [Reps] at h;subst h;simpa using Reps.nil
 | x::xs,_,_,_,0,h,g=>by
  rw [Reps] at h
  obtain ⟨u,r,rfl,q,t⟩:=h
  exact .cons g t
 | x::xs,_,_,_,n + 1,h,g=>by
  rw [Reps] at h
  obtain ⟨u,r,rfl,q,t⟩:=h
  exact .cons q (Reps.set n t g)
theorem Reps.ints:∀ {ns:List Int}{us:List V},Reps K F (ns.map .int) us->us=ns.map V.int
 | [],_,h=>by simpa [Reps] using h
 | n::ns,_,h=>by
  rw [List.map_cons,Reps] at h
  obtain ⟨u,r,rfl,q,t⟩:=h
  rw [Rep] at q
  rw [q,Reps.ints t];rfl
theorem Reps.of_ints:∀ (ns:List Int),Reps K F (ns.map .int) (ns.map V.int)
 | []=>.nil
 | n::ns=>.cons (by rw [Rep]) (Reps.of_ints ns)
theorem dN:∀ {xs:List PV}{ns:List Int},aS xs=some ns->xs=ns.map .int
 | [],_,h=>by simp [aS] at h;subst h;rfl
 | .int i::r,ns,h=>by
  simp only [aS,Option.map_eq_some_iff] at h
  obtain ⟨ms,h1,rfl⟩:=h
  rw [dN h1];rfl
 | .non::_,_,h=>by simp [aS] at h
 | .bl _::_,_,h=>by simp [aS] at h
 | .str _::_,_,h=>by simp [aS] at h
 | .tup _::_,_,h=>by simp [aS] at h
 | .lst _::_,_,h=>by simp [aS] at h
 | .dI _::_,_,h=>by simp [aS] at h
theorem kw:∀ {xs:List PV}{ns:List (List Int)},dl xs=some ns->xs=ns.map λt=>.tup (t.map .int)
 | [],_,h=>by simp [dl] at h;subst h;rfl
 | .tup i::r,ns,h=>by
  simp only [dl,Option.bind_eq_some_iff,Option.map_eq_some_iff] at h
  obtain ⟨t,h0,ms,h1,rfl⟩:=h
  rw [kw h1,dN h0];rfl
 | .non::_,_,h=>by simp [dl] at h
 | .bl _::_,_,h=>by simp [dl] at h
 | .str _::_,_,h=>by simp [dl] at h
 | .int _::_,_,h=>by simp [dl] at h
 | .lst _::_,_,h=>by simp [dl] at h
 | .dI _::_,_,h=>by simp [dl] at h
theorem i9:∀ {xs:List PV}{ns:List Bool},cf xs=some ns->xs=ns.map .bl
 | [],_,h=>by simp [cf] at h;subst h;rfl
 | .bl i::r,ns,h=>by
  simp only [cf,Option.map_eq_some_iff] at h
  obtain ⟨ms,h1,rfl⟩:=h
  rw [i9 h1];rfl
 | .non::_,_,h=>by simp [cf] at h
 | .int _::_,_,h=>by simp [cf] at h
 | .str _::_,_,h=>by simp [cf] at h
 | .tup _::_,_,h=>by simp [cf] at h
 | .lst _::_,_,h=>by simp [cf] at h
 | .dI _::_,_,h=>by simp [cf] at h
end
noncomputable def aZ (K:PySem.W.Frag) (H:Hp) (O:List Addr) (v:PV) (u:V):Prop :=
 Rep K (ax H O) v u \/ (∃ xs a us,v=.lst xs/\u=.ref a/\SqL K H a us/\Reps K (ax H O) xs us) \/ ∃ kvs a,v=.dI kvs/\u=.ref a/\Rd H a (eQ kvs)
section
variable {K:PySem.W.Frag}{H H':Hp}{O:List Addr}
theorem aZ.of {v:PV}{u:V} (h:Rep K (ax H O) v u):aZ K H O v u:=.inl h
theorem aZ.mono (s:af H H') {v:PV}{u:V} (h:aZ K H O v u):aZ K H' O v u:=by
 rcases h with h|⟨xs,a,us,e1,e2,q,r⟩|⟨kvs,a,e1,e2,q⟩
 ·exact .inl (Rep.mono (aA s) _ h)
 ·exact .inr (.inl ⟨xs,a,us,e1,e2,s.seq q,Reps.mono (aA s) _ r⟩)
 ·exact .inr (.inr ⟨kvs,a,e1,e2,af.rd s q⟩)
theorem aZ.lst {xs:List PV}{u:V} (h:aZ K H O (.lst xs) u):∃ a us,u=.ref a/\SqL K H a us/\Reps K (ax H O) xs us:=by
 rcases h with h|⟨ys,a,us,e1,e2,q,r⟩|⟨kvs,a,e1,e2,q⟩
 ·rw [Rep] at h
  obtain ⟨a,us,e,q,r⟩:=h
  exact ⟨a,us,e,(aY H O).seq q,r⟩
 ·cases e1
  exact ⟨a,us,e2,q,r⟩
 ·cases e1
theorem aZ.tupH {xs:List PV}{u:V} (h:aZ K H O (.tup xs) u):∃ a us,u=.ref a/\H a=some (.tup us)/\Reps K (ax H O) xs us:=by
 rcases h with h|⟨ys,a,us,e1,e2,q,r⟩|⟨kvs,a,e1,e2,q⟩
 ·rw [Rep] at h
  obtain ⟨a,us,e,q,r⟩:=h
  exact ⟨a,us,e,aY H O a _ q,r⟩
 ·cases e1
 ·cases e1
theorem aZ.tup {xs:List PV}{u:V} (h:aZ K H O (.tup xs) u):∃ a us,u=.ref a/\SqT K H a us/\Reps K (ax H O) xs us:=by
 obtain ⟨a,us,e,q,r⟩:=h.tupH
 exact ⟨a,us,e,SqT.of q,r⟩
theorem aZ.tupR {xs:List PV}{u:V} (h:aZ K H O (.tup xs) u):Rep K (ax H O) (.tup xs) u:=by
 rcases h with h|⟨ys,a,us,e1,e2,q,r⟩|⟨kvs,a,e1,e2,q⟩
 ·exact h
 ·cases e1
 ·cases e1
theorem aZ.dI {kvs:DD}{u:V} (h:aZ K H O (.dI kvs) u):∃ a,u=.ref a/\Rd H a (eQ kvs):=by
 rcases h with h|⟨ys,a,us,e1,e2,q,r⟩|⟨kvs,a,e1,e2,q⟩
 ·rw [Rep] at h
  obtain ⟨a,e,q⟩:=h
  exact ⟨a,e,af.rd (aY H O) q⟩
 ·cases e1
 ·cases e1
  exact ⟨a,e2,q⟩
theorem aZ.int {i:Int}{u:V} (h:aZ K H O (.int i) u):u=.int i:=by
 rcases h with h|⟨ys,a,us,e1,e2,q,r⟩|⟨kvs,a,e1,e2,q⟩
 ·rw [Rep] at h;exact h
 ·cases e1
 ·cases e1
theorem aZ.bl {i:Bool}{u:V} (h:aZ K H O (.bl i) u):u=.bl i:=by
 rcases h with h|⟨ys,a,us,e1,e2,q,r⟩|⟨kvs,a,e1,e2,q⟩
 ·rw [Rep] at h;exact h
 ·cases e1
 ·cases e1
theorem aZ.str {i:Str}{u:V} (h:aZ K H O (.str i) u):u=.str i:=by
 rcases h with h|⟨ys,a,us,e1,e2,q,r⟩|⟨kvs,a,e1,e2,q⟩
 ·rw [Rep] at h;exact h
 ·cases e1
 ·cases e1
theorem aZ.non {u:V} (h:aZ K H O .non u):u=.non:=by
 rcases h with h|⟨ys,a,us,e1,e2,q,r⟩|⟨kvs,a,e1,e2,q⟩
 ·rw [Rep] at h;exact h
 ·cases e1
 ·cases e1
theorem aZ.seq {v:PV}{xs:List PV}{u:V} (h:aZ K H O v u) (e:aO v=some xs):∃ a us,u=.ref a/\(SqL K H a us \/ SqT K H a us)/\Reps K (ax H O) xs us:=by
 cases v with
 | lst ys=>simp [aO] at e;subst e;obtain ⟨a,us,e,q,r⟩:=h.lst;exact ⟨a,us,e,.inl q,r⟩
 | tup ys=>simp [aO] at e;subst e;obtain ⟨a,us,e,q,r⟩:=h.tup;exact ⟨a,us,e,.inr q,r⟩
 | _=>simp [aO] at e
theorem aZ.whole {v:PV}{u:V} (h:aZ K H O v u):Rep K H v u:=by
 rcases h with h|⟨xs,a,us,rfl,e2,q,r⟩|⟨kvs,a,rfl,e2,q⟩
 ·exact Rep.mono (aY H O) _ h
 ·rw [Rep];exact ⟨a,us,e2,q,Reps.mono (aY H O) _ r⟩
 ·rw [Rep];exact ⟨a,e2,q⟩
end
noncomputable def eA (K:PySem.W.Frag) (B:Hp) (O:List Addr) (H:Hp):MV->V->Prop
 | .val v,u=>Rep K (ax H O) v u
 | .own xs,u=>∃ a us,u=.ref a/\H a=some (.lst us)/\Reps K (ax H O) xs us/\a ∈ O/\B a=none
 | .brw xs,u=>∃ a us,u=.ref a/\SqL K B a us/\Reps K (ax H O) xs us
 | .ownD kvs,u=>∃ a,u=.ref a/\H a=some (eQ kvs)/\a ∈ O/\B a=none
 | .brwD kvs,u=>∃ a,u=.ref a/\Rd B a (eQ kvs)
noncomputable def iE:MV->Bool
 | .own _=>true
 | .ownD _=>true
 | _=>false
structure aJ (K:PySem.W.Frag) (B:Hp) (O₀ O:List Addr) (H:Hp) (ρ:Rho) (σ:St):Prop where
 keep:af B H
 here:∀ a ∈ O,H a ≠ none
 sub:∀ a ∈ O₀,a ∈ O
 old:∀ a ∈ O₀,B a ≠ none
 len:ρ.length=σ.length
 slot:∀ (i:Nat) (m:MV),ρ[i]?=some (some m)->∃ u,σ[i]?=some (some u)/\eA K B O H m u
 apart:∀ (i j:Nat) (m m':MV) (a:Addr),i ≠ j->ρ[i]?=some (some m)->ρ[j]?=some (some m')->iE m=true->iE m'=true->σ[i]?=some (some (.ref a))->σ[j]? ≠ some (some (.ref a))
section
variable {K:PySem.W.Frag}{B H H':Hp}{O₀ O:List Addr}{ρ:Rho}{σ:St}
theorem eA.mono (s:af H H') {m:MV}{u:V} (h:eA K B O H m u):eA K B O H' m u:=by
 cases m with
 | val v=>exact Rep.mono (aA s) _ h
 | own xs=>obtain ⟨a,us,e,q,r,h1,h2⟩:=h;exact ⟨a,us,e,s _ _ q,Reps.mono (aA s) _ r,h1,h2⟩
 | brw xs=>obtain ⟨a,us,e,q,r⟩:=h;exact ⟨a,us,e,q,Reps.mono (aA s) _ r⟩
 | ownD kvs=>obtain ⟨a,e,q,h1,h2⟩:=h;exact ⟨a,e,s _ _ q,h1,h2⟩
 | brwD kvs=>exact h
theorem aJ.mono (s:af H H') (h:aJ K B O₀ O H ρ σ):aJ K B O₀ O H' ρ σ where
 keep:=h.keep.trans s
 here:=λa ha e=>h.here a ha (s.free e)
 sub:=h.sub
 old:=h.old
 len:=h.len
 slot:=λi m e=>let ⟨u,e1,q⟩:=h.slot i m e;⟨u,e1,q.mono s⟩
 apart:=h.apart
theorem eA.bor {m:MV}{u:V}{v:PV} (hB:af B H) (h:eA K B O H m u) (e:bg (some m)=some v):aZ K H O v u:=by
 cases m with
 | val w=>simp [bg] at e;subst e;exact .inl h
 | own xs=>simp [bg] at e;subst e;obtain ⟨a,us,e,q,r,_⟩:=h;exact .inr (.inl ⟨xs,a,us,rfl,e,SqL.of q,r⟩)
 | brw xs=>simp [bg] at e;subst e;obtain ⟨a,us,e,q,r⟩:=h;exact .inr (.inl ⟨xs,a,us,rfl,e,hB.seq q,r⟩)
 | ownD kvs=>simp [bg] at e;subst e;obtain ⟨a,e,q,_⟩:=h;exact .inr (.inr ⟨kvs,a,rfl,e,.inl q⟩)
 | brwD kvs=>simp [bg] at e;subst e;obtain ⟨a,e,q⟩:=h;exact .inr (.inr ⟨kvs,a,rfl,e,af.rd hB q⟩)
end
theorem bZ {α:Type}{o:Option (Option α)}{x:α} (h:o.join=some x):o=some (some x):=by
 cases o with
 | none=>simp at h
 | some y=>cases y with
  | none=>simp at h
  | some z=>simp at h;rw [h]
end MM
namespace MM
open PySem PySem.Spec PyProof.Rows L2
structure Tab where
 fs:List Str
 gs:List (Str × PV)
 ds:List (List Sc)
noncomputable def zn (sc:Scope) (x:Str):Bool:=sc.names.lookup x == some .local || sc.names.lookup x == some .cell || sc.names.lookup x == some .free
noncomputable def i_ (sc:Scope) (x:Str):Bool:=sc.names.lookup x == some .local || sc.names.lookup x == some .cell
noncomputable def glB (sc:Scope) (x:Str):Bool:=sc.names.lookup x == some .globalImplicit
noncomputable def az (x:Str):Bool:=!(x == ("__debug__":Str))&&!(x == ("__classdict__":Str))&&!(x == ("__name__":Str))
noncomputable def a8 (N:List Str) (sc:Scope) (i:Nat) (x:Str):Bool:=N[i]? == some x&&zn sc x&&az x
noncomputable def aD:ME->Bool
 | .bor _=>true
 | _=>false
noncomputable def wS:Op2->Operator
 | .add=>.Add|.sub=>.Sub|.mul=>.Mult|.fdiv=>.FloorDiv|.mod=>.Mod|.pow=>.Pow|.shr=>.RShift
noncomputable def rY:Cp->CmpOp
 | .eq=>.Eq|.ne=>.NotEq|.lt=>.Lt|.le=>.LtE|.gt=>.Gt|.ge=>.GtE|.isN=>.Is|.notN=>.IsNot|.isIn=>.In|.notIn=>.NotIn
noncomputable def m4:PV->Const->Bool
 | .non,.none=>true
 | .bl a,.bool b=>a == b
 | .int a,.int b=>a == b
 | .str a,.str b=>a == b
 | _,_=>false
noncomputable def yb:PV->PV->Bool
 | .non,.non=>true
 | .bl a,.bl b=>a == b
 | .int a,.int b=>a == b
 | .str a,.str b=>a == b
 | _,_=>false
noncomputable def uo (gs:List (Str × PV)) (x:Str) (v:PV):Bool:=gs.any λp=>p.1 == x&&yb p.2 v
noncomputable def ag:Expr->Bool
 | .Starred ..=>false
 | _=>true
noncomputable def ff:Expr->Bool
 | .Set ..=>false
 | _=>true
noncomputable def bE:Expr->Bool
 | .Slice ..=>false
 | _=>true
noncomputable def cq:Expr->Bool
 | .ListComp ..=>false
 | .SetComp ..=>false
 | .DictComp ..=>false
 | _=>true
noncomputable def ja:Expr->Bool
 | .UnaryOp .Not _ _=>false
 | .BoolOp ..=>false
 | .IfExp ..=>false
 | .Compare ..=>false
 | _=>true
noncomputable def lX:Blt->String
 | .tupleRng=>"tuple"
 | .sortedSetT=>"sorted"
 | .len=>"len" | .tupleOf=>"tuple" | .listOf=>"list" | .sorted=>"sorted" | .any=>"any" | .all=>"all" | .sum=>"sum" | .max1=>"max" | .min1=>"min" | .max2=>"max" | .min2=>"min"
 | .intOf=>"int" | .boolOf=>"bool" | .isInt=>"isinstance" | .isBool=>"isinstance" | .isStr=>"isinstance" | .isList=>"isinstance" | .isTuple=>"isinstance" | .sortedKeys=>"sorted" | .valuesOf=>"list" | .sortedSet=>"sorted" | .lenSet=>"len" | .lenSetSub=>"len" | .tupleRev=>"tuple"
noncomputable def cg:Blt->Option String
 | .isInt=>some "int" | .isBool=>some "bool" | .isStr=>some "str" | .isList=>some "list" | .isTuple=>some "tuple"
 | _=>none
noncomputable def dD:Blt->Option Nat
 | .len|.tupleOf|.listOf|.sorted|.any|.all|.sum|.intOf|.boolOf|.max1|.sortedKeys=>some 1
 | .max2|.min2=>some 2
 | _=>none
noncomputable def dZ (osc:Scope) (N:List Str) (scope:Scope) (x:Str) (fvs:List Str) (js:List Nat):Bool :=
 decide (∀ y ∈ scope.names,y.2=.cell->y.1=x)&&decide (scope.names.lookup x=some .local/\(scope.names.filter λy=>y.2 == .cell)=[] \/ scope.names.lookup x=some .cell/\(scope.names.filter λy=>y.2 == .cell)=[(x,.cell)])
 &&decide (∀ y ∈ scope.names,y.2=.free->y.1 ≠ x)&&scope.kind == .function&&decide (∀ y ∈ scope.names,y.2=.local->scope.names.lookup y.1=some .local)
 &&decide ((x::fvs).Nodup)&&decide (∀ y ∈ scope.names,y.2=.free->osc.names.lookup y.1=some .cell \/ osc.names.lookup y.1=some .free)&&decide ((js.map λj=>N[j]?)=fvs.map some)
 &&decide (∀ y ∈ fvs,scope.names.lookup y=some .free)
noncomputable def bF (N:List Str) (js:List Nat):List Str:=js.map λj=>(N[j]?).getD Str.empty
noncomputable def dy (sc:Scope) (tup:Bool) (f:List Expr->Bool):Sk->Expr->Bool
 | .seq,it=>ff it&&f [it]
 | .rng,.Call (.Name x _) args [] _=>x == ("range":Str)&&glB sc x&&f args&&(args.length == 1 || args.length == 2)
 | .rev,_=>false
 | .enm,.Call (.Name x _) [a] [] _=>tup&&x == ("enumerate":Str)&&glB sc x&&f [a]&&ag a
 | _,_=>false
noncomputable def kz (sc:Scope) (f:List Expr->Bool) (n:Nat) (c:String):List Expr->Bool
 | [x,.Name t _]=>t == (c:Str)&&glB sc t&&f [x]&&n == 1
 | _=>false
noncomputable def kA:Expr->Bool
 | .Name _ _=>true
 | .Call _ (_::_) _ _=>true
 | _=>false
noncomputable def bA (sc:Scope) (f:List Expr->Bool) (n:Nat) (b:Blt) (args:List Expr):Bool:=match b with
 | .sortedSetT=>(match args with|[.Call (.Name g _) [x] [] _]=>g == ("set":Str)&&glB sc g&&f [x]&&n == 1|_=>false)
 | .sortedSet=>(match args with|[.Call (.Name g _) [x] [] _]=>g == ("set":Str)&&glB sc g&&f [x]&&n == 1|_=>false)
 | .lenSet=>(match args with|[.Call (.Name g _) [x] [] _]=>g == ("set":Str)&&glB sc g&&f [x]&&n == 1|_=>false)
 | .lenSetSub=>(match args with|[.BinOp (.Call (.Name g _) [x] [] _) .Sub (.Call (.Name g2 _) [y] [] _) _]=>g == ("set":Str)&&glB sc g&&g2 == ("set":Str)&&glB sc g2&&f [x,y]&&n == 2|_=>false)
 | .tupleRng=>(match args with|[.Call (.Name g _) [x] [] _]=>g == ("range":Str)&&glB sc g&&f [x]&&n == 1|_=>false)
 | .tupleRev=>false
 | .valuesOf=>(match args with|[.Call (.Attribute x m ap) [] [] cp]=>m == ("values":Str)&&kA x&&ap.endLine == cp.line&&f [x]&&n == 1|_=>false)
 | .sortedKeys=>false
 | .max2=>false
 | .min2=>false
 | .intOf=>false
 | .boolOf=>false
 | .isStr=>false
 | .isList=>false
 | b=>match cg b with
  | some c=>kz sc f n c args
  | none=>dD b == some n&&f args
noncomputable def eB:ME->Bool
 | .cst .non=>true
 | _=>false
noncomputable def fS (f:Expr->Bool) (non:Bool):Option Expr->Bool
 | none=>non
 | some l=>f l&&!non
noncomputable def kB (f:Expr->Bool) (m:ME):List Expr->Bool
 | []=>(match m with|.cst (.bl true)=>true|_=>false)
 | [c]=>f c
 | _=>false
noncomputable def qt (f:Expr->Bool) (op:BoolOp) (pos:Pos) (y:Expr):List Expr->Bool
 | []=>f y
 | z::r=>f (.BoolOp op (y::z::r) pos)
mutual
noncomputable def chk (T:Tab):ME->List Str->Scope->Expr->Bool
 | .var i,N,sc,e0=>(match e0 with|.Name x _=>a8 N sc i x|_=>false)
 | .bor i,N,sc,e0=>(match e0 with|.Name x _=>a8 N sc i x|_=>false)
 | .cst v,_,_,e0=>(match e0 with|.Constant c _ _=>m4 v c|_=>false)
 | .glob x v,_,sc,e0=>(match e0 with|.Name y _=>x == y&&glB sc x&&uo T.gs x v&&az x|_=>false)
 | .bin op a b,N,sc,e0=>(match e0 with|.BinOp l o r _=>o == wS op&&chk T a N sc l&&chk T b N sc r|_=>false)
 | .neg _,_,_,_=>false
 | .not a,N,sc,e0=>(match e0 with|.UnaryOp .Not e _=>chk T a N sc e|_=>false)
 | .and a b,N,sc,e0=>(match e0 with|.BoolOp .And (x::y::r) pos=>chk T a N sc x&&qt (λe=>chk T b N sc e) .And pos y r|_=>false)
 | .or a b,N,sc,e0=>(match e0 with|.BoolOp .Or (x::y::r) pos=>chk T a N sc x&&qt (λe=>chk T b N sc e) .Or pos y r|_=>false)
 | .ite c a b,N,sc,e0=>(match e0 with|.IfExp t x y _=>chk T c N sc t&&chk T a N sc x&&chk T b N sc y&&!aD a&&!aD b|_=>false)
 | .cmp op a b,N,sc,e0=>(match e0 with|.Compare l [o] [r] _=>o == rY op&&chk T a N sc l&&chk T b N sc r&&!behindInMarks o r|_=>false)
 | .chain _ _ _ _ _,_,_,_=>false
 | .tup es,N,sc,e0=>(match e0 with|.Tuple xs _ _=>chks T es N sc xs&&es.all (λe=>!aD e)|_=>false)
 | .lst es,N,sc,e0=>(match e0 with|.List xs _=>chks T es N sc xs&&es.all (λe=>!aD e)|_=>false)
 | .idx a i,N,sc,e0=>(match e0 with|.Subscript v s _=>chk T a N sc v&&chk T i N sc s&&bE s|_=>false)
 | .slice a lo hi,N,sc,e0=>(match e0 with|.Subscript v (.Slice l u none _) _=>chk T a N sc v&&fS (λe=>chk T lo N sc e) (eB lo) l&&fS (λe=>chk T hi N sc e) (eB hi) u|_=>false)
 | .blt b es,N,sc,e0=>(match e0 with|.Call (.Name f _) args [] _=>f == (lX b:Str)&&glB sc f&&bA sc (λxs=>chks T es N sc xs) es.length b args|_=>false)
 | .call f es,N,sc,e0=>(match e0 with|.Call (.Name x _) args [] _=>T.fs[f]? == some x&&glB sc x&&az x&&chks T es N sc args|_=>false)
 | .callD _ _ _,_,_,_=>false
 | .comp k src js cond elt,N,sc,e0=>(match e0 with|.ListComp e [⟨.Name x _,it,ifs,0⟩] scope _=>dZ sc N scope x (bF N js) js&&dy sc false (λxs=>chks T src N sc xs) k it&&kB (λc=>chk T cond (x::bF N js) (gz scope sc) c) cond ifs&&chk T elt (x::bF N js) (gz scope sc) e&&!aD elt|_=>false)
 | .dget a k d,N,sc,e0=>(match e0 with|.Call (.Attribute o m ap) [x,y] [] cp=>m == ("get":Str)&&kA o&&ap.endLine == cp.line&&chk T a N sc o&&chk T k N sc x&&chk T d N sc y&&ag x&&ag y|_=>false)
 | .dat a k,N,sc,e0=>(match e0 with|.Subscript v s _=>chk T a N sc v&&chk T k N sc s&&bE s|_=>false)
 | .dIn neg k a,N,sc,e0=>(match e0 with|.Compare l [o] [r] _=>o == (if neg=true then CmpOp.NotIn else CmpOp.In)&&chk T k N sc l&&chk T a N sc r&&!behindInMarks o r|_=>false)
noncomputable def chks (T:Tab):List ME->List Str->Scope->List Expr->Bool
 | [],_,_,[]=>true
 | m::ms,N,sc,e::es=>chk T m N sc e&&ag e&&chks T ms N sc es
 | _,_,_,_=>false
end
theorem bK (T:Tab) (i:Nat) (N:List Str) (sc:Scope) (e0:Expr):chk T (.var i) N sc e0=(match e0 with|.Name x _=>a8 N sc i x|_=>false):=rfl
theorem bL (T:Tab) (i:Nat) (N:List Str) (sc:Scope) (e0:Expr):chk T (.bor i) N sc e0=(match e0 with|.Name x _=>a8 N sc i x|_=>false):=rfl
theorem bM (T:Tab) (v:PV) (N:List Str) (sc:Scope) (e0:Expr):chk T (.cst v) N sc e0=(match e0 with|.Constant c _ _=>m4 v c|_=>false):=rfl
theorem bh (T:Tab) (x:Str) (v:PV) (N:List Str) (sc:Scope) (e0:Expr):chk T (.glob x v) N sc e0=(match e0 with|.Name y _=>x == y&&glB sc x&&uo T.gs x v&&az x|_=>false):=rfl
theorem bN (T:Tab) (op:Op2) (a b:ME) (N:List Str) (sc:Scope) (e0:Expr):chk T (.bin op a b) N sc e0=(match e0 with|.BinOp l o r _=>o == wS op&&chk T a N sc l&&chk T b N sc r|_=>false):=rfl
theorem bO (T:Tab) (a:ME) (N:List Str) (sc:Scope) (e0:Expr):chk T (.neg a) N sc e0=false:=rfl
theorem bP (T:Tab) (a:ME) (N:List Str) (sc:Scope) (e0:Expr):chk T (.not a) N sc e0=(match e0 with|.UnaryOp .Not e _=>chk T a N sc e|_=>false):=rfl
theorem bQ (T:Tab) (a b:ME) (N:List Str) (sc:Scope) (e0:Expr):chk T (.and a b) N sc e0=(match e0 with|.BoolOp .And (x::y::r) pos=>chk T a N sc x&&qt (λe=>chk T b N sc e) .And pos y r|_=>false):=rfl
theorem dc (T:Tab) (a b:ME) (N:List Str) (sc:Scope) (e0:Expr):chk T (.or a b) N sc e0=(match e0 with|.BoolOp .Or (x::y::r) pos=>chk T a N sc x&&qt (λe=>chk T b N sc e) .Or pos y r|_=>false):=rfl
theorem bR (T:Tab) (c a b:ME) (N:List Str) (sc:Scope) (e0:Expr):chk T (.ite c a b) N sc e0=(match e0 with|.IfExp t x y _=>chk T c N sc t&&chk T a N sc x&&chk T b N sc y&&!aD a&&!aD b|_=>false):=rfl
theorem bS (T:Tab) (op:Cp) (a b:ME) (N:List Str) (sc:Scope) (e0:Expr):chk T (.cmp op a b) N sc e0=(match e0 with|.Compare l [o] [r] _=>o == rY op&&chk T a N sc l&&chk T b N sc r&&!behindInMarks o r|_=>false):=rfl
theorem aQ (T:Tab) (op op':Cp) (a b c:ME) (N:List Str) (sc:Scope) (e0:Expr):chk T (.chain op op' a b c) N sc e0=false:=rfl
theorem bT (T:Tab) (es:List ME) (N:List Str) (sc:Scope) (e0:Expr):chk T (.tup es) N sc e0=(match e0 with|.Tuple xs _ _=>chks T es N sc xs&&es.all (λe=>!aD e)|_=>false):=rfl
theorem bU (T:Tab) (es:List ME) (N:List Str) (sc:Scope) (e0:Expr):chk T (.lst es) N sc e0=(match e0 with|.List xs _=>chks T es N sc xs&&es.all (λe=>!aD e)|_=>false):=rfl
theorem bV (T:Tab) (a i:ME) (N:List Str) (sc:Scope) (e0:Expr):chk T (.idx a i) N sc e0=(match e0 with|.Subscript v s _=>chk T a N sc v&&chk T i N sc s&&bE s|_=>false):=rfl
theorem aR (T:Tab) (a lo hi:ME) (N:List Str) (sc:Scope) (e0:Expr):chk T (.slice a lo hi) N sc e0=(match e0 with|.Subscript v (.Slice l u none _) _=>chk T a N sc v&&fS (λe=>chk T lo N sc e) (eB lo) l&&fS (λe=>chk T hi N sc e) (eB hi) u|_=>false):=rfl
theorem bW (T:Tab) (b:Blt) (es:List ME) (N:List Str) (sc:Scope) (e0:Expr):chk T (.blt b es) N sc e0=(match e0 with|.Call (.Name f _) args [] _=>f == (lX b:Str)&&glB sc f&&bA sc (λxs=>chks T es N sc xs) es.length b args|_=>false):=rfl
theorem bi (T:Tab) (f:Nat) (es:List ME) (N:List Str) (sc:Scope) (e0:Expr):chk T (.call f es) N sc e0=(match e0 with|.Call (.Name x _) args [] _=>T.fs[f]? == some x&&glB sc x&&az x&&chks T es N sc args|_=>false):=rfl
theorem aF (T:Tab) (k:Sk) (src:List ME) (js:List Nat) (cond elt:ME) (N:List Str) (sc:Scope) (e0:Expr):chk T (.comp k src js cond elt) N sc e0=(match e0 with|.ListComp e [⟨.Name x _,it,ifs,0⟩] scope _=>dZ sc N scope x (bF N js) js&&dy sc false (λxs=>chks T src N sc xs) k it&&kB (λc=>chk T cond (x::bF N js) (gz scope sc) c) cond ifs&&chk T elt (x::bF N js) (gz scope sc) e&&!aD elt|_=>false):=rfl
theorem wT (T:Tab) (a k d:ME) (N:List Str) (sc:Scope) (e0:Expr):chk T (.dget a k d) N sc e0=(match e0 with|.Call (.Attribute o m ap) [x,y] [] cp=>m == ("get":Str)&&kA o&&ap.endLine == cp.line&&chk T a N sc o&&chk T k N sc x&&chk T d N sc y&&ag x&&ag y|_=>false):=rfl
theorem uq (T:Tab) (a k:ME) (N:List Str) (sc:Scope) (e0:Expr):chk T (.dat a k) N sc e0=(match e0 with|.Subscript v s _=>chk T a N sc v&&chk T k N sc s&&bE s|_=>false):=rfl
theorem zo (T:Tab) (neg:Bool) (k a:ME) (N:List Str) (sc:Scope) (e0:Expr):chk T (.dIn neg k a) N sc e0=(match e0 with|.Compare l [o] [r] _=>o == (if neg=true then CmpOp.NotIn else CmpOp.In)&&chk T k N sc l&&chk T a N sc r&&!behindInMarks o r|_=>false):=rfl
noncomputable def bo:ME->Bool
 | .lst _=>true
 | .comp ..=>true
 | .blt .listOf _=>true
 | .blt .sorted _=>true
 | .blt .sortedSet _=>true
 | .blt .sortedSetT _=>true
 | .blt .sortedKeys _=>true
 | .blt .valuesOf _=>true
 | _=>false
noncomputable def qu (sc:Scope) (t:Str) (tpos:Pos):Expr->Bool
 | .ListComp _ _ s p=>sc.names.lookup t == some .local&&tpos.line == p.line&&!(s.names.any λ(n,k)=>n == t&&(k == .local || k == .cell))
 | _=>false
noncomputable def lY (sc:Scope) (t:Str) (tpos:Pos) (v:Expr) (e:ME):Bool:=qu sc t tpos v
noncomputable def cZ (N:List Str) (sc:Scope):List Nat->List Expr->Bool
 | [],[]=>true
 | i::is,.Name x _::es=>N[i]? == some x&&i_ sc x&&az x&&cZ N sc is es
 | _,_=>false
theorem m5 (N:List Str) (sc:Scope) (i:Nat) (is:List Nat) (x:Str) (p:Pos) (es:List Expr):cZ N sc (i::is) (.Name x p::es)=(N[i]? == some x&&i_ sc x&&az x&&cZ N sc is es):=rfl
noncomputable def ur:Stmt->Option (Str × Pos × Expr)
 | .Assign [.Name x px] v _=>some (x,px,v)
 | _=>none
theorem m6 {s:Stmt}{q:Str × Pos × Expr} (h:ur s=some q):∃ pos,s=.Assign [.Name q.1 q.2.1] q.2.2 pos:=by
 unfold ur at h
 split at h
 ·cases h;exact ⟨_,rfl⟩
 ·cases h
noncomputable def wU:Stmt->Option (Str × Str × Pos × List Expr × Pos)
 | .Expr (.Call (.Attribute (.Name x _) m ap) args [] cp) _=>some (x,m,ap,args,cp)
 | _=>none
theorem qv {s:Stmt}{q:Str × Str × Pos × List Expr × Pos} (h:wU s=some q):∃ p pos,s=.Expr (.Call (.Attribute (.Name q.1 p) q.2.1 q.2.2.1) q.2.2.2.1 [] q.2.2.2.2) pos:=by
 unfold wU at h
 split at h
 ·cases h;exact ⟨_,_,rfl⟩
 ·cases h
noncomputable def zp:Stmt->Option (Str × Expr × Expr)
 | .Assign [.Subscript (.Name x _) s _] v _=>some (x,s,v)
 | _=>none
theorem wV {s:Stmt}{q:Str × Expr × Expr} (h:zp s=some q):∃ p sp pos,s=.Assign [.Subscript (.Name q.1 p) q.2.1 sp] q.2.2 pos:=by
 unfold zp at h
 split at h
 ·cases h;exact ⟨_,_,_,rfl⟩
 ·cases h
noncomputable def wW:Stmt->Option Expr
 | .Return (some v) _=>some v
 | _=>none
theorem qw {s:Stmt}{v:Expr} (h:wW s=some v):∃ pos,s=.Return (some v) pos:=by
 unfold wW at h
 split at h
 ·cases h;exact ⟨_,rfl⟩
 ·cases h
noncomputable def ut:Expr->Option Str
 | .Name x _=>some x
 | _=>none
theorem uu {e:Expr}{x:Str} (h:ut e=some x):∃ p,e=.Name x p:=by
 unfold ut at h
 split at h
 ·cases h;exact ⟨_,rfl⟩
 ·cases h
noncomputable def uv:List Expr->Option Expr
 | [a]=>some a
 | _=>none
theorem og {l:List Expr}{a:Expr} (h:uv l=some a):l=[a]:=by
 match l,h with
 | [_],h=>cases h;rfl
noncomputable def uA:Expr->Bool
 | .Dict [] [] _=>true
 | _=>false
theorem uB {e:Expr} (h:uA e=true):∃ p,e=.Dict [] [] p:=by
 unfold uA at h
 split at h
 ·exact ⟨_,rfl⟩
 ·cases h
noncomputable def onO {α:Type} (o:Option α) (f:α->Bool):Bool:=match o with
 | some a=>f a
 | none=>false
theorem dO {α:Type}{o:Option α}{f:α->Bool} (h:onO o f=true):∃ a,o=some a/\f a=true:=by
 cases o with
 | none=>cases h
 | some a=>exact ⟨a,rfl,h⟩
mutual
noncomputable def gD (T:Tab) (N:List Str) (sc:Scope):MS->Stmt->Bool
 | .set i e,s0=>onO (ur s0) λq=>N[i]? == some q.1&&i_ sc q.1&&az q.1&&chk T e N sc q.2.2&&!aD e&&(cq q.2.2 || lY sc q.1 q.2.1 q.2.2 e)
 | .setOwn i e,s0=>onO (ur s0) λq=>N[i]? == some q.1&&i_ sc q.1&&az q.1&&chk T e N sc q.2.2&&bo e&&(cq q.2.2 || lY sc q.1 q.2.1 q.2.2 e)
 | .append i e,s0=>onO (wU s0) λq=>onO (uv q.2.2.2.1) λv=>a8 N sc i q.1&&q.2.1 == ("append":Str)&&chk T e N sc v&&!aD e&&ag v&&q.2.2.1.endLine == q.2.2.2.2.line
 | .extend i e,s0=>onO (wU s0) λq=>onO (uv q.2.2.2.1) λv=>a8 N sc i q.1&&q.2.1 == ("extend":Str)&&chk T e N sc v&&ag v&&q.2.2.1.endLine == q.2.2.2.2.line
 | .setIdx _ _ _,_=>false
 | .unpack _ _,_=>false
 | .ite c a b,s0=>(match s0 with|.If t x y _=>chk T c N sc t&&chkSs T N sc a x&&chkSs T N sc b y|_=>false)
 | .for1 i k src body,s0=>(match s0 with|.For (.Name x _) it b [] _=>N[i]? == some x&&i_ sc x&&az x&&dy sc false (λxs=>chks T src N sc xs) k it&&chkSs T N sc body b|_=>false)
 | .forT is k src body,s0=>(match s0 with|.For (.Tuple ts _ _) it b [] _=>cZ N sc is ts&&dy sc true (λxs=>chks T src N sc xs) k it&&chkSs T N sc body b|_=>false)
 | .ret e,s0=>onO (wW s0) λv=>chk T e N sc v&&!aD e
 | .retOwn i,s0=>onO (wW s0) λv=>onO (ut v) λx=>a8 N sc i x
 | .never,_=>true
 | .newD _ i,s0=>onO (ur s0) λq=>uA q.2.2&&(N[i]? == some q.1&&i_ sc q.1&&az q.1)
 | .dput i k e,s0=>onO (zp s0) λq=>a8 N sc i q.1&&chk T k N sc q.2.1&&bE q.2.1&&chk T e N sc q.2.2&&!aD e&&cq q.2.2
 | _,_=>false
noncomputable def chkSs (T:Tab) (N:List Str) (sc:Scope):List MS->List Stmt->Bool
 | [],[]=>true
 | .freeze _::_,_=>false
 | m::ms,s::ss=>gD T N sc m s&&chkSs T N sc ms ss
 | _,_=>false
end
theorem wX (T:Tab) (N:List Str) (sc:Scope) (i:Nat) (k:Sk) (src:List ME) (body:List MS) (s0:Stmt):gD T N sc (.for1 i k src body) s0=(match s0 with|.For (.Name x _) it b [] _=>N[i]? == some x&&i_ sc x&&az x&&dy sc false (λxs=>chks T src N sc xs) k it&&chkSs T N sc body b|_=>false):=rfl
theorem wY (T:Tab) (N:List Str) (sc:Scope) (is:List Nat) (k:Sk) (src:List ME) (body:List MS) (s0:Stmt):gD T N sc (.forT is k src body) s0=(match s0 with|.For (.Tuple ts _ _) it b [] _=>cZ N sc is ts&&dy sc true (λxs=>chks T src N sc xs) k it&&chkSs T N sc body b|_=>false):=rfl
end MM
namespace MM
open PySem PySem.Spec PyProof.Rows L2
theorem kC {f:PV->PV->Option Bool} (hf:∀ x b,f x x=some b->b=true):∀ (xs:List PV) {b:Bool},eqL f xs xs=some b->b=true
 | [],b,h=>by simp [eqL] at h;exact h
 | x::xs,b,h=>by
  simp only [eqL,Option.bind_eq_some_iff,Option.map_eq_some_iff] at h
  obtain ⟨p,h1,q,h2,rfl⟩:=h
  rw [hf x p h1,kC hf xs h2];rfl
theorem iF:∀ (n:Nat) (x:PV) {b:Bool},eqF n x x=some b->b=true
 | n,.non,b,h=>by simp [eqF] at h;exact h
 | n,.bl _,b,h=>by simp [eqF] at h;exact h
 | n,.int _,b,h=>by simp [eqF] at h;exact h
 | n,.str _,b,h=>by simp [eqF] at h;exact h
 | 0,.tup _,b,h=>by simp [eqF] at h
 | 0,.lst _,b,h=>by simp [eqF] at h
 | n + 1,.tup xs,b,h=>by rw [eqF] at h;exact kC (λx b=>iF n x) xs h
 | n + 1,.lst xs,b,h=>by rw [eqF,if_pos rfl] at h;exact kC (λx b=>iF n x) xs h
 | n,.dI _,b,h=>by cases n <;> simp [eqF] at h
theorem eC {n:Nat}{x y:PV}{b:Bool} (h:eqF n x y=some b):isD x=false/\isD y=false:=by
 cases x <;> cases y <;> first|exact ⟨rfl,rfl⟩|(cases n <;> simp [eqF] at h)
theorem iG {f:PV->PV->Option Bool}:∀ (xs ys:List PV) {b:Bool},eqL f xs ys=some b ->
  (∀ (j:Nat) x y,xs[j]?=some x->ys[j]?=some y->∃ c,f x y=some c) /\
   b=((List.range (min xs.length ys.length)).all (λj=>(f (xs.getD j .non) (ys.getD j .non)).getD false)&&xs.length == ys.length)
 | [],[],b,h=>by simp [eqL] at h;subst h;simp
 | [],y::ys,b,h=>by simp [eqL] at h;subst h;simp
 | x::xs,[],b,h=>by simp [eqL] at h;subst h;simp
 | x::xs,y::ys,b,h=>by
  simp only [eqL,Option.bind_eq_some_iff,Option.map_eq_some_iff] at h
  obtain ⟨p,h1,q,h2,rfl⟩:=h
  obtain ⟨ih1,ih2⟩:=iG xs ys h2
  refine ⟨λj x' y' e1 e2=>?_,?_⟩
  ·cases j with
   | zero=>simp at e1 e2;subst e1 e2;exact ⟨p,h1⟩
   | succ j=>exact ih1 j x' y' (by simpa using e1) (by simpa using e2)
  ·rw [ih2]
   have hm:min (x::xs).length (y::ys).length=min xs.length ys.length + 1:=by simp only [List.length_cons];omega
   rw [hm,List.range_succ_eq_map,List.all_cons,List.all_map]
   have hl:((x::xs).length == (y::ys).length)=(xs.length == ys.length):=by
    rw [Bool.eq_iff_iff];simp
   rw [hl,Bool.and_assoc]
   simp only [List.getD_cons_zero,h1,Option.getD_some,Function.comp_def,List.getD_cons_succ]
theorem qx {f:PV->Option Bool}:∀ (xs:List PV) {b:Bool},inL f xs=some b->(∀ x ∈ xs,∃ c,f x=some c)/\b=xs.any λx=>(f x).getD false
 | [],b,h=>by simp [inL] at h;subst h;simp
 | x::xs,b,h=>by
  simp only [inL,Option.bind_eq_some_iff,Option.map_eq_some_iff] at h
  obtain ⟨p,h1,q,h2,rfl⟩:=h
  obtain ⟨ih1,ih2⟩:=qx xs h2
  refine ⟨λy hy=>?_,?_⟩
  ·rcases List.mem_cons.mp hy with rfl|hy
   ·exact ⟨p,h1⟩
   ·exact ih1 y hy
  ·rw [List.any_cons,h1,ih2];rfl
section
variable {X:Cx}{pins:List (Addr × Obj)}{σ:St}{H:Hp}{s:Shared}
theorem oh (I:Inv X pins σ H s) {a:Addr}{xs ys:List V} (h1:SqL X.K H a xs) (h2:SqT X.K H a ys):False:=by
 obtain ⟨its,_,p,_⟩:=I.list h1
 obtain ⟨its2,_,q,_⟩:=I.tuple h2
 exact SeqAt.ne_of_list_tuple p.isList (show s.heap.IsTuple a its2.toArray from q) rfl
theorem m7 {H:Hp}{a:Addr}{d:DD} (h:Rd H a (eQ d)):IsD H a:=by
 cases d with
 | k kvs=>exact .inl ⟨_,h⟩
 | t kvs=>exact .inr ⟨_,h⟩
theorem jJ (I:Inv X pins σ H s) {a:Addr}{xs:List V}{d:DD} (h1:SqL X.K H a xs \/ SqT X.K H a xs) (h2:Rd H a (eQ d)):False:=by
 obtain ⟨o,ho,hc⟩:=(po I (m7 h2)).1
 rcases h1 with h1|h1
 ·obtain ⟨its,_,p,_⟩:=I.list h1
  obtain ⟨o',ho',hc',_⟩:=p.isList
  rw [ho] at ho'
  cases ho'
  rw [hc] at hc'
  exact absurd hc' (by decide)
 ·obtain ⟨its,_,⟨o',ho',hc',_⟩,_⟩:=I.tuple h1
  rw [ho] at ho'
  cases ho'
  rw [hc] at hc'
  exact absurd hc' (by decide)
theorem Sc.v_inj:∀ {a b:Sc},a.v=b.v->a=b:=by
 intro a b h
 cases a <;> cases b <;> simp [Sc.v] at h ⊢ <;> exact h
theorem oj:∀ {a b:List (Int × Sc)},fF a=fF b->a=b
 | [],[],_=>rfl
 | [],_::_,h=>by cases h
 | _::_,[],h=>by cases h
 | (k,v)::a,(k',v')::b,h=>by
  simp only [fF,List.map_cons,List.cons.injEq,Prod.mk.injEq,Sum.inl.injEq] at h
  obtain ⟨⟨h1,h2⟩,h3⟩:=h
  rw [h1,Sc.v_inj h2,oj h3]
theorem jK:∀ {a b:List Int},(a.map Sum.inl:List Key)=b.map Sum.inl->a=b
 | [],[],_=>rfl
 | [],_::_,h=>by cases h
 | _::_,[],h=>by cases h
 | x::a,y::b,h=>by
  simp only [List.map_cons,List.cons.injEq,Sum.inl.injEq] at h
  rw [h.1,jK h.2]
theorem ol:∀ {a b:List (List Int × Sc)},g8 a=g8 b->a=b
 | [],[],_=>rfl
 | [],_::_,h=>by cases h
 | _::_,[],h=>by cases h
 | (k,v)::a,(k',v')::b,h=>by
  simp only [g8,List.map_cons,List.cons.injEq,Prod.mk.injEq] at h
  obtain ⟨⟨h1,h2⟩,h3⟩:=h
  rw [jK h1,Sc.v_inj h2,ol h3]
theorem om {a b:DD} (h:eQ a=eQ b):a=b:=by
 cases a <;> cases b
 ·rw [oj (HO.dK.inj h)]
 ·cases h
 ·cases h
 ·rw [ol (HO.dT.inj h)]
theorem zq {H:Hp}{a:Addr}{x y:DD} (h:Rd H a (eQ x)) (g:Rd H a (eQ y)):x=y:=by
 have ne:∀ (x:DD) (o:Obj) (u:HO),eQ x ≠ .frz o u:=λx o u e=>by cases x <;> cases e
 rcases h with h|⟨o,h⟩ <;> rcases g with g|⟨o',g⟩
 ·rw [h] at g;exact om (Option.some.inj g)
 ·rw [h] at g;exact absurd (Option.some.inj g) (ne x _ _)
 ·rw [g] at h;exact absurd (Option.some.inj h) (ne y _ _)
 ·rw [h] at g;exact om (HO.frz.inj (Option.some.inj g)).2
mutual
theorem jL (I:Inv X pins σ H s):∀ (x y:PV) {u:V},Rep X.K H x u->Rep X.K H y u->x=y
 | .non,y,u,h,g=>by rw [Rep] at h;subst h;cases y <;> simp [Rep] at g ⊢
 | .bl b,y,u,h,g=>by rw [Rep] at h;subst h;cases y <;> simp [Rep] at g ⊢;exact g
 | .int b,y,u,h,g=>by rw [Rep] at h;subst h;cases y <;> simp [Rep] at g ⊢;exact g
 | .str b,y,u,h,g=>by rw [Rep] at h;subst h;cases y <;> simp [Rep] at g ⊢;exact g
 | .tup xs,y,u,h,g=>by
  rw [Rep] at h
  obtain ⟨a,us,rfl,q,r⟩:=h
  cases y with
  | tup ys =>
   rw [Rep] at g
   obtain ⟨b,vs,e,q',r'⟩:=g
   cases e
   have:=I.tuple_inj (SqT.of q) (SqT.of q')
   subst this
   rw [reps_inj I xs ys r r']
  | lst ys =>
   rw [Rep] at g
   obtain ⟨b,vs,e,q',r'⟩:=g
   cases e
   exact (oh I q' (SqT.of q)).elim
  | dI kvs =>
   rw [Rep] at g
   obtain ⟨b,e,q'⟩:=g
   cases e
   exact (jJ I (.inr (SqT.of q)) q').elim
  | _=>simp [Rep] at g
 | .lst xs,y,u,h,g=>by
  rw [Rep] at h
  obtain ⟨a,us,rfl,q,r⟩:=h
  cases y with
  | lst ys =>
   rw [Rep] at g
   obtain ⟨b,vs,e,q',r'⟩:=g
   cases e
   have:=I.list_inj q q'
   subst this
   rw [reps_inj I xs ys r r']
  | tup ys =>
   rw [Rep] at g
   obtain ⟨b,vs,e,q',r'⟩:=g
   cases e
   exact (oh I q (SqT.of q')).elim
  | dI kvs =>
   rw [Rep] at g
   obtain ⟨b,e,q'⟩:=g
   cases e
   exact (jJ I (.inl q) q').elim
  | _=>simp [Rep] at g
 | .dI kvs,y,u,h,g=>by
  rw [Rep] at h
  obtain ⟨a,rfl,q⟩:=h
  cases y with
  | dI ks =>
   rw [Rep] at g
   obtain ⟨b,e,q'⟩:=g
   cases e
   rw [zq q q']
  | tup ys =>
   rw [Rep] at g
   obtain ⟨b,vs,e,q',r'⟩:=g
   cases e
   exact (jJ I (.inr (SqT.of q')) q).elim
  | lst ys =>
   rw [Rep] at g
   obtain ⟨b,vs,e,q',r'⟩:=g
   cases e
   exact (jJ I (.inl q') q).elim
  | _=>simp [Rep] at g
theorem reps_inj (I:Inv X pins σ H s):∀ (xs ys:List PV) {us:List V},Reps X.K H xs us->Reps X.K H ys us->xs=ys
 | [],ys,us,h,g=>by
  rw [Reps] at h;subst h
  cases ys with
  | nil=>rfl
  | cons y ys=>rw [Reps] at g;obtain ⟨_,_,e,_⟩:=g;cases e
 | x::xs,ys,us,h,g=>by
  rw [Reps] at h
  obtain ⟨u,r,rfl,q,t⟩:=h
  cases ys with
  | nil=>rw [Reps] at g;cases g
  | cons y ys =>
   rw [Reps] at g
   obtain ⟨u',r',e,q',t'⟩:=g
   cases e
   rw [jL I x y q q',reps_inj I xs ys t t']
end
theorem Rep.tupAt (I:Inv X pins σ H s) {xs:List PV}{u:V}{v:Value} (h:Rep X.K H (.tup xs) u) (r:aq u v) :
  ∃ (a:Addr) (us:List V) (its:List Value),u=.ref a/\v=.ref a/\Reps X.K H xs us/\ar us its/\s.heap.IsTuple a its.toArray/\xs.length=its.length:=by
 rw [Rep] at h
 obtain ⟨a,us,rfl,q,t⟩:=h
 obtain ⟨its,rv,p,_⟩:=I.tuple (SqT.of q)
 exact ⟨a,us,its,rfl,r,t,rv,p,t.length.trans rv.length⟩
theorem Rep.lstAt (I:Inv X pins σ H s) {xs:List PV}{u:V}{v:Value} (h:Rep X.K H (.lst xs) u) (r:aq u v) :
  ∃ (a:Addr) (us:List V) (its:List Value),u=.ref a/\v=.ref a/\Reps X.K H xs us/\ar us its/\s.heap.IsList a its.toArray/\xs.length=its.length:=by
 rw [Rep] at h
 obtain ⟨a,us,rfl,q,t⟩:=h
 obtain ⟨its,rv,p,_⟩:=I.list q
 exact ⟨a,us,its,rfl,r,t,rv,p.isList,t.length.trans rv.length⟩
theorem iH {A:Around}{n:Nat} (ih:∀ (x y:PV) {ux uy:V}{vx vy:Value}{b:Bool}{A:Around},A.units + n < cLine->eqF n x y=some b->Rep X.K H x ux->Rep X.K H y uy->aq ux vx->aq uy vy->SeqAt.EqAt A s vx vy b)
  {xs ys:List PV}{us ws:List V}{its its2:List Value} (hu:A.units + (n + 1) < cLine) (rx:Reps X.K H xs us) (ry:Reps X.K H ys ws) (vx:ar us its) (vy:ar ws its2)
  (hs:∀ (j:Nat) x y,xs[j]?=some x->ys[j]?=some y->∃ c,eqF n x y=some c) :
  ∀ j (h1:j < its.toArray.size) (h2:j < its2.toArray.size),SeqAt.EqAt A.in1 s its.toArray[j] its2.toArray[j] ((eqF n (xs.getD j .non) (ys.getD j .non)).getD false):=λj h1 h2=>by
 have l1:=rx.length.trans vx.length
 have l2:=ry.length.trans vy.length
 simp only [List.size_toArray] at h1 h2
 have e1:xs[j]?=some xs[j]:=List.getElem?_eq_getElem (by omega)
 have e2:ys[j]?=some ys[j]:=List.getElem?_eq_getElem (by omega)
 obtain ⟨ux,q1,p1⟩:=rx.get e1
 obtain ⟨uy,q2,p2⟩:=ry.get e2
 obtain ⟨wx,q3,p3⟩:=vx.get q1
 obtain ⟨wy,q4,p4⟩:=vy.get q2
 obtain ⟨c,hc⟩:=hs j _ _ e1 e2
 have d1:xs.getD j .non=xs[j]:=by simp [List.getD,e1]
 have d2:ys.getD j .non=ys[j]:=by simp [List.getD,e2]
 have g1:its.toArray[j]=wx:=by
  have:its[j]?=some its[j]:=List.getElem?_eq_getElem h1
  rw [this] at q3;simpa using q3
 have g2:its2.toArray[j]=wy:=by
  have:its2[j]?=some its2[j]:=List.getElem?_eq_getElem h2
  rw [this] at q4;simpa using q4
 rw [d1,d2,hc,g1,g2]
 exact ih _ _ (show A.units + 1 + n < cLine by omega) hc p1 p2 p3 p4
theorem wZ {A:Around}{n:Nat} (I:Inv X pins σ H s) (ih:∀ (x y:PV) {ux uy:V}{vx vy:Value}{b:Bool}{A:Around},A.units + n < cLine->eqF n x y=some b->Rep X.K H x ux->Rep X.K H y uy->aq ux vx->aq uy vy->SeqAt.EqAt A s vx vy b)
  (hu:A.units + (n + 1) < cLine):(∀ {xs ys:List PV}{ux uy:V}{vx vy:Value}{b:Bool},eqF (n + 1) (.tup xs) (.tup ys)=some b->Rep X.K H (.tup xs) ux->Rep X.K H (.tup ys) uy->aq ux vx->aq uy vy->SeqAt.RcAt A s vx vy b) /\
   (∀ {xs ys:List PV}{ux uy:V}{vx vy:Value}{b:Bool},eqF (n + 1) (.lst xs) (.lst ys)=some b->Rep X.K H (.lst xs) ux->Rep X.K H (.lst ys) uy->aq ux vx->aq uy vy->SeqAt.RcAt A s vx vy b):=by
 refine ⟨λ{xs ys ux uy vx vy b} h rx ry r1 r2=>?_,λ{xs ys ux uy vx vy b} h rx ry r1 r2=>?_⟩
 ·obtain ⟨a,us,its,rfl,rfl,t1,w1,p1,l1⟩:=rx.tupAt I r1
  obtain ⟨c,ws,its2,rfl,rfl,t2,w2,p2,l2⟩:=ry.tupAt I r2
  rw [eqF] at h
  obtain ⟨hs,hb⟩:=iG xs ys h
  have q:=SeqAt.RcAt.tuples (A:=A) p1 p2 (by omega) (iH ih hu t1 t2 w1 w2 hs)
  rw [hb]
  simpa [l1,l2] using q
 ·obtain ⟨a,us,its,rfl,rfl,t1,w1,p1,l1⟩:=rx.lstAt I r1
  obtain ⟨c,ws,its2,rfl,rfl,t2,w2,p2,l2⟩:=ry.lstAt I r2
  rw [eqF] at h
  by_cases hl:xs.length=ys.length
  ·rw [if_pos hl] at h
   obtain ⟨hs,hb⟩:=iG xs ys h
   have q:=SeqAt.RcAt.lists (A:=A) p1 p2 (by simp only [List.size_toArray];omega) (by omega) (iH ih hu t1 t2 w1 w2 hs)
   rw [hb,hl,Nat.min_self]
   simpa [<- l1,hl] using q
  ·rw [if_neg hl] at h
   cases h
   exact SeqAt.RcAt.lists_lengths (A:=A) p1 p2 (by simp only [List.size_toArray,bne_iff_ne];omega) (by omega)
theorem cm {x:PV}{u:V} (hd:isD x=false) (h:Rep X.K H x u):(∃ xs,x=.tup xs) \/ (∃ xs,x=.lst xs) \/ gG u=true:=by
 cases x with
 | tup xs=>exact .inl ⟨xs,rfl⟩
 | lst xs=>exact .inr (.inl ⟨xs,rfl⟩)
 | non=>rw [Rep] at h;subst h;exact .inr (.inr rfl)
 | bl b=>rw [Rep] at h;subst h;exact .inr (.inr rfl)
 | int b=>rw [Rep] at h;subst h;exact .inr (.inr rfl)
 | str b=>rw [Rep] at h;subst h;exact .inr (.inr rfl)
 | dI _=>cases hd
theorem fg {A:Around} (hu:A.units < cLine) {u:V}{v:Value} (f:gG u=true) (r:aq u v) {a:Addr}{its:Array Value} (p:s.heap.IsTuple a its) :
  SeqAt.EqAt A s v (.ref a) false/\SeqAt.EqAt A s (.ref a) v false/\SeqAt.RcAt A s v (.ref a) false/\SeqAt.RcAt A s (.ref a) v false:=by
 cases u with
 | non=>cases r;exact ⟨.none_tuple p hu,.tuple_none p hu,.none_tuple p hu,.tuple_none p hu⟩
 | bl b=>cases r;exact ⟨.bool_tuple b p hu,.tuple_bool b p hu,.bool_tuple b p hu,.tuple_bool b p hu⟩
 | int b=>obtain ⟨t,rfl⟩:=r;exact ⟨.int_tuple b t p hu,.tuple_int b t p hu,.int_tuple b t p hu,.tuple_int b t p hu⟩
 | str b=>obtain ⟨t,rfl⟩:=r;exact ⟨.str_tuple b t p hu,.tuple_str b t p hu,.str_tuple b t p hu,.tuple_str b t p hu⟩
 | _=>exact absurd (show false=true from f) Bool.false_ne_true
theorem gm {A:Around} (hu:A.units < cLine) {u:V}{v:Value} (f:gG u=true) (r:aq u v) {a:Addr}{its:Array Value} (p:s.heap.IsList a its) :
  SeqAt.EqAt A s v (.ref a) false/\SeqAt.EqAt A s (.ref a) v false/\SeqAt.RcAt A s v (.ref a) false/\SeqAt.RcAt A s (.ref a) v false:=by
 cases u with
 | non=>cases r;exact ⟨.none_list p hu,.list_none p hu,.none_list p hu,.list_none p hu⟩
 | bl b=>cases r;exact ⟨.bool_list b p hu,.list_bool b p hu,.bool_list b p hu,.list_bool b p hu⟩
 | int b=>obtain ⟨t,rfl⟩:=r;exact ⟨.int_list b t p hu,.list_int b t p hu,.int_list b t p hu,.list_int b t p hu⟩
 | str b=>obtain ⟨t,rfl⟩:=r;exact ⟨.str_list b t p hu,.list_str b t p hu,.str_list b t p hu,.list_str b t p hu⟩
 | _=>exact absurd (show false=true from f) Bool.false_ne_true
theorem uC {A:Around}{y x:V}{u v:Value} (ry:aq y u) (rx:aq x v) (fy:gG y=true) (fx:gG x=true):SeqAt.RcAt A s u v (eqV y x):=by
 cases y with
 | non =>
  cases ry
  cases x with
  | non=>cases rx;exact SeqAt.RcAt.none_none
  | bl b=>cases rx;exact SeqAt.RcAt.none_bool b
  | int b=>obtain ⟨t,rfl⟩:=rx;exact SeqAt.RcAt.none_int b t
  | str b=>obtain ⟨t,rfl⟩:=rx;exact SeqAt.RcAt.none_str b t
  | _=>exact absurd (show false=true from fx) Bool.false_ne_true
 | bl a =>
  cases ry
  cases x with
  | non=>cases rx;exact SeqAt.RcAt.bool_none a
  | bl b=>cases rx;exact SeqAt.RcAt.bool_bool a b
  | int b=>obtain ⟨t,rfl⟩:=rx;exact SeqAt.RcAt.bool_int a b t
  | str b=>obtain ⟨t,rfl⟩:=rx;exact SeqAt.RcAt.bool_str a b t
  | _=>exact absurd (show false=true from fx) Bool.false_ne_true
 | int a =>
  obtain ⟨t',rfl⟩:=ry
  cases x with
  | non=>cases rx;exact SeqAt.RcAt.int_none a t'
  | bl b=>cases rx;exact SeqAt.RcAt.int_bool a t' b
  | int b=>obtain ⟨t,rfl⟩:=rx;exact SeqAt.RcAt.int_int a t' b t
  | str b=>obtain ⟨t,rfl⟩:=rx;exact SeqAt.RcAt.int_str a t' b t
  | _=>exact absurd (show false=true from fx) Bool.false_ne_true
 | str a =>
  obtain ⟨t',rfl⟩:=ry
  cases x with
  | non=>cases rx;exact SeqAt.RcAt.str_none a t'
  | bl b=>cases rx;exact SeqAt.RcAt.str_bool a t' b
  | int b=>obtain ⟨t,rfl⟩:=rx;exact SeqAt.RcAt.str_int a t' b t
  | str b=>obtain ⟨t,rfl⟩:=rx;exact SeqAt.RcAt.str_str a t' b t
  | _=>exact absurd (show false=true from fx) Bool.false_ne_true
 | _=>exact absurd (show false=true from fy) Bool.false_ne_true
theorem kD {n:Nat}{x y:PV}{u v:V}{b:Bool} (rx:Rep X.K H x u) (ry:Rep X.K H y v) (fx:gG u=true) (fy:gG v=true) (h:eqF n x y=some b):b=eqV u v:=by
 cases x <;> cases y <;> simp only [Rep] at rx ry
 all_goals first
  | (obtain ⟨_,_,rfl,_⟩:=rx;exact absurd (show false=true from fx) Bool.false_ne_true)
  | (obtain ⟨_,_,rfl,_⟩:=ry;exact absurd (show false=true from fy) Bool.false_ne_true)
  | (obtain ⟨_,rfl,_⟩:=rx;exact absurd (show false=true from fx) Bool.false_ne_true)
  | (obtain ⟨_,rfl,_⟩:=ry;exact absurd (show false=true from fy) Bool.false_ne_true)
  | (subst rx ry;simp only [eqF,Option.some.injEq] at h;subst h;rfl)
theorem m8 (I:Inv X pins σ H s):∀ (n:Nat) (x y:PV) {ux uy:V}{vx vy:Value}{b:Bool}{A:Around},A.units + n < cLine->eqF n x y=some b->Rep X.K H x ux->Rep X.K H y uy->aq ux vx->aq uy vy ->
  SeqAt.EqAt A s vx vy b/\SeqAt.RcAt A s vx vy b:=by
 intro n
 induction n with
 | zero =>
  intro x y ux uy vx vy b A hu h rx ry r1 r2
  have hu0:A.units < cLine:=by omega
  rcases cm (eC h).1 rx with ⟨xs,rfl⟩|⟨xs,rfl⟩|fx
  ·obtain ⟨a,us,its,rfl,rfl,t1,w1,p1,l1⟩:=rx.tupAt I r1
   rcases cm (eC h).2 ry with ⟨ys,rfl⟩|⟨ys,rfl⟩|fy
   ·simp [eqF] at h
   ·obtain ⟨c,ws,its2,rfl,rfl,t2,w2,p2,l2⟩:=ry.lstAt I r2
    simp [eqF] at h;subst h
    exact ⟨.tuple_list p1 p2 hu0,.tuple_list p1 p2 hu0⟩
   ·obtain ⟨z1,z2,z3,z4⟩:=fg hu0 fy r2 p1
    have:b=false:=by cases y <;> simp [eqF,Rep] at h ry <;> first|exact h.symm|exact h|(obtain ⟨_,rfl,_⟩:=ry;exact absurd (show false=true from fy) Bool.false_ne_true)
    subst this
    exact ⟨z2,z4⟩
  ·obtain ⟨a,us,its,rfl,rfl,t1,w1,p1,l1⟩:=rx.lstAt I r1
   rcases cm (eC h).2 ry with ⟨ys,rfl⟩|⟨ys,rfl⟩|fy
   ·obtain ⟨c,ws,its2,rfl,rfl,t2,w2,p2,l2⟩:=ry.tupAt I r2
    simp [eqF] at h;subst h
    exact ⟨.list_tuple p1 p2 hu0,.list_tuple p1 p2 hu0⟩
   ·simp [eqF] at h
   ·obtain ⟨z1,z2,z3,z4⟩:=gm hu0 fy r2 p1
    have:b=false:=by cases y <;> simp [eqF,Rep] at h ry <;> first|exact h.symm|exact h|(obtain ⟨_,rfl,_⟩:=ry;exact absurd (show false=true from fy) Bool.false_ne_true)
    subst this
    exact ⟨z2,z4⟩
  ·rcases cm (eC h).2 ry with ⟨ys,rfl⟩|⟨ys,rfl⟩|fy
   ·obtain ⟨c,ws,its2,rfl,rfl,t2,w2,p2,l2⟩:=ry.tupAt I r2
    obtain ⟨z1,z2,z3,z4⟩:=fg hu0 fx r1 p2
    have:b=false:=by cases x <;> simp [eqF,Rep] at h rx <;> first|exact h.symm|exact h|(obtain ⟨_,rfl,_⟩:=rx;exact absurd (show false=true from fx) Bool.false_ne_true)
    subst this
    exact ⟨z1,z3⟩
   ·obtain ⟨c,ws,its2,rfl,rfl,t2,w2,p2,l2⟩:=ry.lstAt I r2
    obtain ⟨z1,z2,z3,z4⟩:=gm hu0 fx r1 p2
    have:b=false:=by cases x <;> simp [eqF,Rep] at h rx <;> first|exact h.symm|exact h|(obtain ⟨_,rfl,_⟩:=rx;exact absurd (show false=true from fx) Bool.false_ne_true)
    subst this
    exact ⟨z1,z3⟩
   ·rw [kD rx ry fx fy h]
    exact ⟨ti r1 r2 fx fy,uC r1 r2 fx fy⟩
 | succ n ih =>
  intro x y ux uy vx vy b A hu h rx ry r1 r2
  have hu0:A.units < cLine:=by omega
  obtain ⟨kt,kl⟩:=wZ I (λx y {_ _ _ _ _ _} a1 a2 a3 a4 a5 a6=>(ih x y a1 a2 a3 a4 a5 a6).1) hu
  rcases cm (eC h).1 rx with ⟨xs,rfl⟩|⟨xs,rfl⟩|fx
  ·obtain ⟨a,us,its,e1,e1',t1,w1,p1,l1⟩:=rx.tupAt I r1
   rcases cm (eC h).2 ry with ⟨ys,rfl⟩|⟨ys,rfl⟩|fy
   ·have q:=kt h rx ry r1 r2
    obtain ⟨c,ws,its2,e2,e2',t2,w2,p2,l2⟩:=ry.tupAt I r2
    subst e1 e1' e2 e2'
    refine ⟨?_,q⟩
    by_cases hac:a=c
    ·subst hac
     have e:=jL I _ _ rx ry
     rw [e] at h
     rw [iF _ _ h]
     exact .same _
    ·exact .of_refs hac q
   ·obtain ⟨c,ws,its2,e2,e2',t2,w2,p2,l2⟩:=ry.lstAt I r2
    subst e1 e1' e2 e2'
    simp [eqF] at h;subst h
    exact ⟨.tuple_list p1 p2 hu0,.tuple_list p1 p2 hu0⟩
   ·subst e1 e1'
    obtain ⟨z1,z2,z3,z4⟩:=fg hu0 fy r2 p1
    have:b=false:=by cases y <;> simp [eqF,Rep] at h ry <;> first|exact h.symm|exact h|(obtain ⟨_,rfl,_⟩:=ry;exact absurd (show false=true from fy) Bool.false_ne_true)
    subst this
    exact ⟨z2,z4⟩
  ·obtain ⟨a,us,its,e1,e1',t1,w1,p1,l1⟩:=rx.lstAt I r1
   rcases cm (eC h).2 ry with ⟨ys,rfl⟩|⟨ys,rfl⟩|fy
   ·obtain ⟨c,ws,its2,e2,e2',t2,w2,p2,l2⟩:=ry.tupAt I r2
    subst e1 e1' e2 e2'
    simp [eqF] at h;subst h
    exact ⟨.list_tuple p1 p2 hu0,.list_tuple p1 p2 hu0⟩
   ·have q:=kl h rx ry r1 r2
    obtain ⟨c,ws,its2,e2,e2',t2,w2,p2,l2⟩:=ry.lstAt I r2
    subst e1 e1' e2 e2'
    refine ⟨?_,q⟩
    by_cases hac:a=c
    ·subst hac
     have e:=jL I _ _ rx ry
     rw [e] at h
     rw [iF _ _ h]
     exact .same _
    ·exact .of_refs hac q
   ·subst e1 e1'
    obtain ⟨z1,z2,z3,z4⟩:=gm hu0 fy r2 p1
    have:b=false:=by cases y <;> simp [eqF,Rep] at h ry <;> first|exact h.symm|exact h|(obtain ⟨_,rfl,_⟩:=ry;exact absurd (show false=true from fy) Bool.false_ne_true)
    subst this
    exact ⟨z2,z4⟩
  ·rcases cm (eC h).2 ry with ⟨ys,rfl⟩|⟨ys,rfl⟩|fy
   ·obtain ⟨c,ws,its2,rfl,rfl,t2,w2,p2,l2⟩:=ry.tupAt I r2
    obtain ⟨z1,z2,z3,z4⟩:=fg hu0 fx r1 p2
    have:b=false:=by cases x <;> simp [eqF,Rep] at h rx <;> first|exact h.symm|exact h|(obtain ⟨_,rfl,_⟩:=rx;exact absurd (show false=true from fx) Bool.false_ne_true)
    subst this
    exact ⟨z1,z3⟩
   ·obtain ⟨c,ws,its2,rfl,rfl,t2,w2,p2,l2⟩:=ry.lstAt I r2
    obtain ⟨z1,z2,z3,z4⟩:=gm hu0 fx r1 p2
    have:b=false:=by cases x <;> simp [eqF,Rep] at h rx <;> first|exact h.symm|exact h|(obtain ⟨_,rfl,_⟩:=rx;exact absurd (show false=true from fx) Bool.false_ne_true)
    subst this
    exact ⟨z1,z3⟩
   ·rw [kD rx ry fx fy h]
    exact ⟨ti r1 r2 fx fy,uC r1 r2 fx fy⟩
end
section
variable {X:Cx}
theorem zr (hu:X.A.units + 101 < cLine):OpR X (compareOp .Eq) (λux uy H Q=>∃ x y b,Rep X.K H x ux/\Rep X.K H y uy/\eqF 100 x y=some b/\Q (.bl b) H):=by
 intro pins s σ H ux uy v u Q I rx ry h
 obtain ⟨x,y,b,r1,r2,e,q⟩:=h
 exact (m8 I 100 x y (by omega) e r1 r2 rx ry).2 _ _ _ _ ⟨.bl b,H,I,rfl,q⟩
theorem zt (hu:X.A.units + 101 < cLine):OpR X (compareOp .NotEq) (λux uy H Q=>∃ x y b,Rep X.K H x ux/\Rep X.K H y uy/\rW x y=true/\eqF 100 x y=some b/\Q (.bl (!b)) H):=by
 intro pins s σ H ux uy v u Q I rx ry h
 obtain ⟨x,y,b,r1,r2,ok,e,q⟩:=h
 rcases cm (eC e).1 r1 with ⟨xs,rfl⟩|⟨xs,rfl⟩|fx
 ·cases y with
  | tup ys =>
   obtain ⟨a,us,its,rfl,rfl,t1,w1,p1,l1⟩:=r1.tupAt I rx
   obtain ⟨c,ws,its2,rfl,rfl,t2,w2,p2,l2⟩:=r2.tupAt I ry
   rw [eqF] at e
   obtain ⟨hs,hb⟩:=iG xs ys e
   obtain ⟨⟨cls,dd,data,sl⟩,ho,hc,n,hd⟩:=id p1
   obtain ⟨⟨cls2,dd2,data2,sl2⟩,ho2,hc2,n2,hd2⟩:=id p2
   simp only at hc hd hc2 hd2
   subst hc hd hc2 hd2
   refine richCompare_meets_room (op:=.NotEq) ⟨_,ho,rfl⟩ ⟨_,ho2,rfl⟩ PySem.F.slot_tuple_ne PySem.F.entry_tuple_ne (PySem.F.args_tuple_ne_2 _ _) (SeqAt.tuple_neAt a c its.toArray its2.toArray n n2 dd dd2 sl sl2 _)
    ⟨ho,ho2,iH (n:=99) (λx y {_ _ _ _ _ _} a1 a2 a3 a4 a5 a6=>(m8 I 99 x y a1 a2 a3 a4 a5 a6).1) (by omega) t1 t2 w1 w2 hs,?_⟩ (by omega)
   refine ⟨(λx=>nomatch x),⟨.bl (!b),H,I,?_,q⟩⟩
   rw [hb]
   simp [l1,l2,L2.aq]
  | _=>cases ok
 ·cases y with
  | lst ys =>
   obtain ⟨a,us,its,rfl,rfl,t1,w1,p1,l1⟩:=r1.lstAt I rx
   obtain ⟨c,ws,its2,rfl,rfl,t2,w2,p2,l2⟩:=r2.lstAt I ry
   rw [eqF] at e
   obtain ⟨⟨cls,dd,data,sl⟩,ho,hc,n,hd⟩:=id p1
   obtain ⟨⟨cls2,dd2,data2,sl2⟩,ho2,hc2,n2,hd2⟩:=id p2
   simp only at hc hd hc2 hd2
   subst hc hd hc2 hd2
   by_cases hl:xs.length=ys.length
   ·rw [if_pos hl] at e
    obtain ⟨hs,hb⟩:=iG xs ys e
    refine richCompare_meets_room (op:=.NotEq) ⟨_,ho,rfl⟩ ⟨_,ho2,rfl⟩ PySem.F.slot_list_ne PySem.F.entry_list_ne (PySem.F.args_list_ne_2 _ _) (SeqAt.list_neAt a c its.toArray its2.toArray n n2 dd dd2 sl sl2 (by simp only [List.size_toArray];omega) _)
     ⟨ho,ho2,iH (n:=99) (λx y {_ _ _ _ _ _} a1 a2 a3 a4 a5 a6=>(m8 I 99 x y a1 a2 a3 a4 a5 a6).1) (by omega) t1 t2 w1 w2 hs,?_⟩ (by omega)
    refine ⟨(λx=>nomatch x),⟨.bl (!b),H,I,?_,q⟩⟩
    rw [hb,hl,Nat.min_self]
    simp [<- l1,hl,L2.aq]
   ·rw [if_neg hl] at e
    cases e
    refine richCompare_meets_room (op:=.NotEq) ⟨_,ho,rfl⟩ ⟨_,ho2,rfl⟩ PySem.F.slot_list_ne PySem.F.entry_list_ne (PySem.F.args_list_ne_2 _ _) (SeqAt.list_ne_lengthsAt a c its.toArray its2.toArray n n2 dd dd2 sl sl2 (by simp only [List.size_toArray,bne_iff_ne];omega)) ⟨ho,ho2,?_⟩ (by omega)
    exact ⟨(λx=>nomatch x),⟨.bl true,H,I,rfl,q⟩⟩
  | _=>cases ok
 ·have fy:gG uy=true:=by
   rcases cm (eC e).2 r2 with ⟨ys,rfl⟩|⟨ys,rfl⟩|fy
   ·cases x <;> cases ok
    obtain ⟨_,_,rfl,_⟩:∃ a us,ux=V.ref a/\_:=by rw [Rep] at r1;exact r1
    exact absurd (show false=true from fx) Bool.false_ne_true
   ·cases x <;> cases ok
    obtain ⟨_,_,rfl,_⟩:∃ a us,ux=V.ref a/\_:=by rw [Rep] at r1;exact r1
    exact absurd (show false=true from fx) Bool.false_ne_true
   ·exact fy
  have hb:=kD r1 r2 fx fy e
  subst hb
  refine A2 pins s σ H ux uy v u Q I rx ry ?_
  have key:scal ux uy=true/\decide (ux=uy)=eqV ux uy:=by
   cases x <;> cases y <;> simp only [Rep] at r1 r2 <;> first
    | (obtain ⟨_,_,rfl,_⟩:=r1;exact absurd (show false=true from fx) Bool.false_ne_true)
    | (obtain ⟨_,_,rfl,_⟩:=r2;exact absurd (show false=true from fy) Bool.false_ne_true)
    | (obtain ⟨_,rfl,_⟩:=r1;exact absurd (show false=true from fx) Bool.false_ne_true)
    | (obtain ⟨_,rfl,_⟩:=r2;exact absurd (show false=true from fy) Bool.false_ne_true)
    | (subst r1 r2;first|(cases ok;done)|exact ⟨rfl,by first|exact p8|exact sS|exact p9|exact decide_eq_true rfl|exact decide_eq_false (λz=>by cases z)⟩)
  exact ⟨key.1,by rw [key.2];exact q⟩
theorem iI {pins:List (Addr × Obj)}{σ:St}{H:Hp}{s:Shared} (I:Inv X pins σ H s) (hu:X.A.units + 101 < cLine) {x:PV}{ux:V}{vx:Value} (rx:Rep X.K H x ux) (r1:aq ux vx) {xs:List PV}{us:List V}{its:List Value} (t:Reps X.K H xs us) (w:ar us its) {b:Bool} (h:isIn x xs=some b) :
  ∃ e:Value->Bool,(∀ y,y ∈ its.toArray->SeqAt.EqAt X.A.in1 s y vx (e y))/\its.toArray.any e=b:=by
 obtain ⟨h1,h2⟩:=qx xs h
 classical
 have uniq:∀ (z:PV) (u:V) (y:Value),aq u y->Rep X.K H z u->∀ p:(∃ z u,aq u y/\Rep X.K H z u),p.choose=z:=λz u y r q p=>by
  obtain ⟨u',r',q'⟩:=p.choose_spec
  have e:=r.inj r'
  subst e
  exact jL I _ _ q' q
 refine ⟨λy=>if p:∃ z u,aq u y/\Rep X.K H z u then (eqF 100 p.choose x).getD false else false,?_,?_⟩
 ·intro y hy
  obtain ⟨j,hj,e⟩:=List.getElem_of_mem (by simpa using hy:y ∈ its)
  have ej:its[j]?=some y:=by rw [List.getElem?_eq_getElem hj,e]
  have l1:=w.length
  obtain ⟨uy,e1⟩:∃ uy,us[j]?=some uy:=⟨_,List.getElem?_eq_getElem (by omega)⟩
  obtain ⟨wy,e2,ry⟩:=w.get e1
  rw [ej] at e2
  cases e2
  obtain ⟨z,e3,rz⟩:=t.get' e1
  obtain ⟨c,hc⟩:=h1 z (List.mem_of_getElem? e3)
  have q:=(m8 I 100 z x (A:=X.A.in1) (show X.A.units + 1 + 100 < cLine by omega) hc rz rx ry r1).1
  have p:∃ z u,aq u y/\Rep X.K H z u:=⟨z,uy,ry,rz⟩
  have e4:=uniq z uy y ry rz p
  simp only [p,dite_true,e4,hc,Option.getD_some]
  exact q
 ·rw [h2]
  simp only [List.any_toArray]
  clear h h1 h2
  induction xs generalizing us its with
  | nil =>
   rw [Reps] at t
   subst t
   cases w
   rfl
  | cons z zs ih =>
   rw [Reps] at t
   obtain ⟨u,r,rfl,q,t⟩:=t
   cases w with
   | cons rv w =>
    rename_i y ys
    have p:∃ z u,aq u y/\Rep X.K H z u:=⟨z,u,rv,q⟩
    have e4:=uniq z u y rv q p
    rw [List.any_cons,List.any_cons,ih t w]
    simp only [p,dite_true,e4]
theorem zu (hu:X.A.units + 101 < cLine):OpR X (compareOp .In) (λux uy H Q=>∃ x xs a us b,Rep X.K H x ux/\uy=.ref a/\(SqL X.K H a us \/ SqT X.K H a us)/\Reps X.K H xs us/\isIn x xs=some b/\Q (.bl b) H):=by
 intro pins s σ H ux uy v u Q I rx ry h
 obtain ⟨x,xs,a,us,b,r1,rfl,hq,r2,e,q⟩:=h
 cases ry
 rcases hq with hq|hq
 ·obtain ⟨its,r,pl,hz⟩:=I.list hq
  obtain ⟨f,h1,h2⟩:=iI I hu r1 rx r2 r e
  refine SeqAt.in_listAt f pl.isList h1 ?_
  rw [h2]
  exact ⟨.bl b,H,I,rfl,q⟩
 ·obtain ⟨its,r,pl,hz⟩:=I.tuple hq
  obtain ⟨f,h1,h2⟩:=iI I hu r1 rx r2 r e
  refine SeqAt.in_tupleAt f pl h1 ?_
  rw [h2]
  exact ⟨.bl b,H,I,rfl,q⟩
theorem rZ (hu:X.A.units + 101 < cLine):OpR X (compareOp .NotIn) (λux uy H Q=>∃ x xs a us b,Rep X.K H x ux/\uy=.ref a/\(SqL X.K H a us \/ SqT X.K H a us)/\Reps X.K H xs us/\isIn x xs=some b/\Q (.bl (!b)) H):=by
 intro pins s σ H ux uy v u Q I rx ry h
 obtain ⟨x,xs,a,us,b,r1,rfl,hq,r2,e,q⟩:=h
 cases ry
 rcases hq with hq|hq
 ·obtain ⟨its,r,pl,hz⟩:=I.list hq
  obtain ⟨f,h1,h2⟩:=iI I hu r1 rx r2 r e
  refine SeqAt.notIn_listAt f pl.isList h1 ?_
  rw [h2]
  exact ⟨.bl (!b),H,I,rfl,q⟩
 ·obtain ⟨its,r,pl,hz⟩:=I.tuple hq
  obtain ⟨f,h1,h2⟩:=iI I hu r1 rx r2 r e
  refine SeqAt.notIn_tupleAt f pl h1 ?_
  rw [h2]
  exact ⟨.bl (!b),H,I,rfl,q⟩
end
end MM
namespace L2
open PySem PySem.Spec PyProof.Rows
theorem PE.imp {X:Cx}{e:Expr}{t t':TE} (h:PE X e t) (i:∀ σ H Q,t' σ H Q->t σ H Q):PE X e t':=λpins s σ H Q I q=>h pins s σ H Q I (i σ H Q q)
theorem PT.imp {X:Cx}{e:Expr}{t t':TT} (h:PT X e t) (i:∀ σ H Q,t' σ H Q->t σ H Q):PT X e t':=λpins s σ H Q I q=>h pins s σ H Q I (i σ H Q q)
theorem PA.imp {X:Cx}{e:List Expr}{t t':TA} (h:PA X e t) (i:∀ σ H Q,t' σ H Q->t σ H Q):PA X e t':=λpos pins s σ H Q I q=>h pos pins s σ H Q I (i σ H Q q)
theorem PS.imp {X:Cx}{e:Stmt}{t t':TS} (h:PS X e t) (i:∀ D σ H,t' D σ H->t D σ H):PS X e t':=λpins s σ H D I q=>h pins s σ H D I (i D σ H q)
theorem PSs.imp {X:Cx}{e:List Stmt}{t t':TS} (h:PSs X e t) (i:∀ D σ H,t' D σ H->t D σ H):PSs X e t':=λpins s σ H D I q=>h pins s σ H D I (i D σ H q)
theorem PI.imp {X:Cx}{tg e:Expr}{t t':TI} (h:PI X tg e t) (i:∀ σ H R,t' σ H R->t σ H R):PI X tg e t':=λpins s σ H R I q=>h pins s σ H R I (i σ H R q)
end L2
namespace MM
open PySem PySem.Spec PyProof.Rows L2
noncomputable def kE (K:PySem.W.Frag) (O:List Addr) (H:Hp):MV->V->Prop
 | .val v,u=>Rep K (ax H O) v u
 | .brw xs,u=>∃ a us,u=.ref a/\SqL K H a us/\Reps K (ax H O) xs us
 | .own _,_=>False
 | .ownD _,_=>False
 | .brwD kvs,u=>∃ a,u=.ref a/\Rd H a (eQ kvs)
noncomputable def spM (K:PySem.W.Frag) (cal:Cal) (f:Nat):Sp:=λvs H Q _ =>
 ∃ (O:List Addr) (args:List MV) (r:PV),(∀ a ∈ O,H a ≠ none)/\Paired (kE K O H) args vs/\cal f args=some r/\∀ u H',af H H'->Rep K (ax H' O) r u->Q u H'
noncomputable def iJ:List String:=["len","tuple","list","sorted","any","all","sum","max","min","int","bool","str","isinstance","set","range","enumerate","reversed"]
noncomputable def toV:PV->V
 | .non=>.non
 | .bl b=>.bl b
 | .int i=>.int i
 | .str x=>.str x
 | _=>.non
structure Gf (X:Cx) (T:Tab) (k:Nat) (cal:Cal):Prop where
 calm:X.calm=true
 room:iW k X.A
 fns:∀ (f:Nat) (x:Str),T.fs[f]?=some x->∃ (fa:Addr) (fd:FuncData) (ps:List Str),X.mg x=some (.ref fa)/\PySem.W.keepIn X.K (.ref fa)=true/\dk X.K fd ps []/\lc X.prog X.w X.K X.mg X.base CX0 k fa fd ps (spM X.K cal f)/\∀ l,T.ds[f]?=some l->∃ vs,dk X.K fd ps vs/\ar (l.map Sc.v) vs
 blt:∀ x ∈ iJ,X.mg (x:Str)=none
 gs:∀ p ∈ T.gs,∃ u,X.mg p.1=some u/\aq (toV p.2) u
theorem Gf.units {X:Cx}{T:Tab}{k:Nat}{cal:Cal} (g:Gf X T k cal):X.A.units + 200 < cLine:=by have:=g.room.un;omega
noncomputable def Got (K:PySem.W.Frag) (H:Hp) (O:List Addr) (me:ME) (v:PV) (u:V):Prop:=aZ K H O v u/\(aD me=false->Rep K (ax H O) v u)
noncomputable def tE (K:PySem.W.Frag) (cal:Cal) (me:ME):TE:=λσ H Q=>∃ B O₀ O ρ v,aJ K B O₀ O H ρ σ/\ev cal me ρ=some v/\∀ u H',af H H'->Got K H' O me v u->Q u H'
noncomputable def tT (K:PySem.W.Frag) (cal:Cal) (me:ME):TT:=λσ H Q=>∃ B O₀ O ρ b,aJ K B O₀ O H ρ σ/\evB cal me ρ=some b/\∀ H',af H H'->Q b H'
noncomputable def C4 (K:PySem.W.Frag) (H:Hp) (O:List Addr) (ms:List ME) (vs:List PV) (us:List V):Prop:=Paired (aZ K H O) vs us/\((ms.all λm=>!aD m)=true->Reps K (ax H O) vs us)
noncomputable def tEs (K:PySem.W.Frag) (cal:Cal) (ms:List ME):TA:=λσ H Q=>∃ B O₀ O ρ vs,aJ K B O₀ O H ρ σ/\evs cal ms ρ=some vs/\∀ us H',af H H'->C4 K H' O ms vs us->Q us H'
noncomputable def tAs (K:PySem.W.Frag) (cal:Cal) (ms:List ME):TA:=λσ H Q=>∃ B O₀ O ρ vs,aJ K B O₀ O H ρ σ/\evA cal ms ρ=some vs/\∀ us H',af H H'->Paired (kE K O H') vs us->Q us H'
section
variable {K:PySem.W.Frag}{H H':Hp}{O:List Addr}
theorem Got.of {me:ME}{v:PV}{u:V} (h:Rep K (ax H O) v u):Got K H O me v u:=⟨.inl h,λ_=>h⟩
theorem Got.scal {me:ME}{v:PV}{u:V} (h:∀ F,Rep K F v u):Got K H O me v u:=.of (h _)
theorem Got.mono {me:ME}{v:PV}{u:V} (s:af H H') (h:Got K H O me v u):Got K H' O me v u:=⟨h.1.mono s,λe=>Rep.mono (aA s) _ (h.2 e)⟩
theorem de (F:Hp) (b:Bool):Rep K F (.bl b) (.bl b):=by rw [Rep]
theorem cr (F:Hp) (b:Int):Rep K F (.int b) (.int b):=by rw [Rep]
theorem m9 (F:Hp) (b:Str):Rep K F (.str b) (.str b):=by rw [Rep]
theorem m_ (F:Hp):Rep K F .non .non:=by rw [Rep]
theorem fT {H1:Hp}{p:Addr}{xs:List PV}{us:List V} (hO:∀ a ∈ O,H1 a ≠ none) (hp:H1 p=none) (h:Reps K (ax H1 O) xs us):Rep K (ax (upd H1 p (.tup us)) O) (.tup xs) (.ref p):=by
 rw [Rep]
 refine ⟨p,us,rfl,?_,Reps.mono (aA (ah hp _)) _ h⟩
 rw [bJ (λz=>hO p z hp)]
 exact ay
theorem oq {H1:Hp}{p:Addr}{xs:List PV}{us:List V} (hO:∀ a ∈ O,H1 a ≠ none) (hp:H1 p=none) (h:Reps K (ax H1 O) xs us):Rep K (ax (upd H1 p (.lst us)) O) (.lst xs) (.ref p):=by
 rw [Rep]
 refine ⟨p,us,rfl,SqL.of ?_,Reps.mono (aA (ah hp _)) _ h⟩
 rw [bJ (λz=>hO p z hp)]
 exact ay
theorem bu (s:af H H') (h:∀ a ∈ O,H a ≠ none):∀ a ∈ O,H' a ≠ none:=λa ha e=>h a ha (s.free e)
theorem eR {n:Nat} (h:n <= 10000):n <= sizeLine:=Nat.le_trans h (by decide)
end
section
variable {X:Cx}{T:Tab}{k:Nat}{cal:Cal}
theorem Bu {sc:Scope}{x:Str} (h:zn sc x=true):Vis sc x:=by
 unfold zn at h
 simp only [Bool.or_eq_true,beq_iff_eq] at h
 rcases h with (h|h)|h
 ·exact .inl h
 ·exact .inr (.inl h)
 ·exact .inr (.inr h)
theorem kF {sc:Scope}{x:Str} (h:i_ sc x=true):Loc sc x:=by
 unfold i_ at h
 simp only [Bool.or_eq_true,beq_iff_eq] at h
 exact h
theorem jM {x:Str} (h:az x=true):(x == ("__debug__":Str))=false/\(x == ("__classdict__":Str))=false/\x ≠ "__name__":=by
 unfold az at h
 simp only [Bool.and_eq_true,Bool.not_eq_true'] at h
 obtain ⟨⟨h1,h2⟩,h3⟩:=h
 exact ⟨h1,h2,λe=>by rw [e] at h3;simp at h3⟩
theorem dg {x:Str} (h:glB X.env.scope x=true):Gl X x:=by
 unfold glB at h
 simp only [beq_iff_eq] at h
 exact h
theorem c7 {i:Nat}{x:Str}{pos:Pos} (h:a8 X.N X.env.scope i x=true):PE X (.Name x pos) (AL i):=by
 unfold a8 at h
 simp only [Bool.and_eq_true,beq_iff_eq] at h
 obtain ⟨⟨h1,h2⟩,h3⟩:=h
 obtain ⟨p1,p2,_⟩:=jM h3
 exact yr h1 (Bu h2) p1 p2
theorem cs {K:PySem.W.Frag}{B H:Hp}{O₀ O:List Addr}{ρ:Rho}{σ:St} (st:aJ K B O₀ O H ρ σ) {i:Nat}{m:MV} (e:(ρ[i]?).join=some m):∃ u,σ[i]?=some (some u)/\eA K B O H m u:=st.slot i m (bZ e)
theorem yc {i:Nat}{x:Str}{pos:Pos} (h:a8 X.N X.env.scope i x=true):PE X (.Name x pos) (tE X.K cal (.var i)):=by
 refine (c7 h).imp λσ H Q hq=>?_
 obtain ⟨B,O₀,O,ρ,v,st,he,q⟩:=hq
 rw [ev] at he
 cases hj:(ρ[i]?).join with
 | none=>rw [hj] at he;cases he
 | some m =>
  rw [hj] at he
  cases m with
  | val w =>
   simp only [ul,Option.some.injEq] at he
   subst he
   obtain ⟨u,e1,r⟩:=cs st hj
   exact ⟨u,e1,q u H (af.refl H) (.of r)⟩
  | own _=>cases he
  | brw _=>cases he
  | ownD _=>cases he
  | brwD _=>cases he
theorem yd {i:Nat}{x:Str}{pos:Pos} (h:a8 X.N X.env.scope i x=true):PE X (.Name x pos) (tE X.K cal (.bor i)):=by
 refine (c7 h).imp λσ H Q hq=>?_
 obtain ⟨B,O₀,O,ρ,v,st,he,q⟩:=hq
 rw [ev] at he
 cases hj:(ρ[i]?).join with
 | none=>rw [hj] at he;cases he
 | some m =>
  rw [hj] at he
  obtain ⟨u,e1,r⟩:=cs st hj
  exact ⟨u,e1,q u H (af.refl H) ⟨r.bor st.keep he,λz=>by cases z⟩⟩
theorem ye {v:PV}{c:Const}{j:Nat}{pos:Pos} (h:m4 v c=true):PE X (.Constant c j pos) (tE X.K cal (.cst v)):=by
 have key:∀ (u:V),(∀ F,Rep X.K F v u)->PE X (.Constant c j pos) (tC u)->PE X (.Constant c j pos) (tE X.K cal (.cst v)):=λu r p=>p.imp λσ H Q hq=>by
  obtain ⟨B,O₀,O,ρ,w,st,he,q⟩:=hq
  rw [ev] at he
  cases he
  exact q u H (af.refl H) (.scal r)
 cases v <;> cases c <;> simp only [m4,Bool.false_eq_true,beq_iff_eq] at h
 ·exact key .non (λF=>m_ F) yu
 ·subst h;exact key _ (λF=>de F _) AM
 ·subst h;exact key _ (λF=>cr F _) yt
 ·subst h;exact key _ (λF=>m9 F _) yw
theorem uD {x y:Str}{v:PV}{pos:Pos} (g:Gf X T k cal) (h:chk T (.glob x v) X.N X.env.scope (.Name y pos)=true):PE X (.Name y pos) (tE X.K cal (.glob x v)):=by
 simp only [bK,bL,bM,bh,bN,bO,bP,bQ,dc,bR,bS,aQ,bT,bU,bV,aR,bW,bi,aF,Bool.and_eq_true,beq_iff_eq] at h
 obtain ⟨⟨⟨rfl,hg⟩,hs⟩,hp⟩:=h
 unfold uo at hs
 obtain ⟨p,hp1,hp2⟩:=List.any_eq_true.mp hs
 simp only [Bool.and_eq_true,beq_iff_eq] at hp2
 obtain ⟨rfl,hv⟩:=hp2
 obtain ⟨u,e1,r⟩:=g.gs p hp1
 have e:p.2=v/\∀ F,Rep X.K F v (toV v):=by
  revert hv
  generalize p.2=z
  intro hv
  cases z <;> cases v <;> simp only [yb,Bool.false_eq_true,beq_iff_eq] at hv
  ·exact ⟨rfl,λF=>m_ F⟩
  ·subst hv;exact ⟨rfl,λF=>de F _⟩
  ·subst hv;exact ⟨rfl,λF=>cr F _⟩
  ·subst hv;exact ⟨rfl,λF=>m9 F _⟩
 rw [e.1] at r
 refine (v7 (dg hg) e1 r (jM hp).1).imp λσ H Q hq=>?_
 obtain ⟨B,O₀,O,ρ,w,st,he,q⟩:=hq
 rw [ev] at he
 cases he
 exact q _ H (af.refl H) (.scal e.2)
end
section
variable {X:Cx}
noncomputable def R2M (K:PySem.W.Frag) (f:PV->PV->Option PV):R2:=λux uy H Q =>
 ∃ O x y v,(∀ a ∈ O,H a ≠ none)/\aZ K H O x ux/\aZ K H O y uy/\f x y=some v/\∀ u H',af H H'->Rep K (ax H' O) v u->Q u H'
theorem jb {op:Operator}{C:Int->Int->Prop}{g:Int->Int->Int}{f:PV->PV->Option PV} (h:OpR X (binaryOp op) (rI C λi j=>.int (g i j)))
  (hf:∀ x y v,f x y=some v->∃ i j,x=.int i/\y=.int j/\C i j/\v=.int (g i j)):OpR X (binaryOp op) (R2M X.K f):=by
 intro pins s σ H ux uy v u Q I rx ry hq
 obtain ⟨O,x,y,w,hO,r1,r2,e,q⟩:=hq
 obtain ⟨i,j,rfl,rfl,c,rfl⟩:=hf x y w e
 have e1:=r1.int
 have e2:=r2.int
 subst e1 e2
 exact h pins s σ H _ _ v u Q I rx ry ⟨i,j,rfl,rfl,c,q _ H (af.refl H) (cr _ _)⟩
theorem w4:OpR X (binaryOp .Add) (λx y H Q=>∃ l b xs zs,x=.ref l/\y=.ref b/\SqL X.K H l xs/\SqL X.K H b zs/\xs.length + zs.length <= sizeLine/\∀ p,H p=none->Q (.ref p) (upd H p (.lst (xs ++ zs)))):=by
 intro pins s σ H x y v u Q I rx ry h
 obtain ⟨l,b,xs,zs,rfl,rfl,hH,hB,hz,q⟩:=h
 cases rx
 cases ry
 obtain ⟨its,r,pl,_⟩:=I.list hH
 obtain ⟨its2,r2,pl2,_⟩:=I.list hB
 have l1:=r.length
 have l2:=r2.length
 obtain ⟨⟨cls,dd,data,sl⟩,ho,hc,n,hd⟩:=pl.isList
 obtain ⟨⟨cls2,dd2,data2,sl2⟩,ho2,hc2,n2,hd2⟩:=pl2.isList
 simp only at hc hd hc2 hd2
 subst hc hd hc2 hd2
 have e:its.toArray ++ its2.toArray=(its ++ its2).toArray:=by simp
 refine concat_meets ⟨_,ho,rfl⟩ ⟨_,ho2,rfl⟩ noFill_list_add seq_list_add PySem.F.slot_list_add PySem.F.entry_list_add (PySem.F.args_list_add_2 _ _) (list_addW l b its.toArray its2.toArray n n2 dd dd2 sl sl2 (by rw [List.size_toArray,List.size_toArray];omega)) ⟨ho,ho2,?_⟩
 rw [e]
 exact ⟨.ref _,_,I.lnew (t':=s.toks) (r.append r2) (by rw [List.length_append];omega),rfl,q _ I.fresh⟩
theorem w5:OpR X (binaryOp .Add) (λx y H Q=>∃ a b ys,x=.ref a/\y=.ref b/\SqT X.K H a []/\SqT X.K H b ys/\Q (.ref b) H):=by
 intro pins s σ H x y v u Q I rx ry h
 obtain ⟨a,b,ys,rfl,rfl,ha,hb,q⟩:=h
 cases rx
 cases ry
 obtain ⟨its,r1,⟨⟨c1,d1,t1,l1⟩,ho,hc,n,hd⟩,_⟩:=I.tuple ha
 obtain ⟨its2,r2,⟨⟨c2,d2,t2,l2⟩,ho2,hc2,n2,hd2⟩,_⟩:=I.tuple hb
 cases hc
 cases hd
 cases hc2
 cases hd2
 have none0:its=[]:=r1.nil_iff.mpr rfl
 have meets:=tuple_addW0 a b its.toArray its2.toArray n n2 d1 d2 l1 l2 (by simp [none0])
 exact concat_meets ⟨_,ho,rfl⟩ ⟨_,ho2,rfl⟩ noFill_tuple_add seq_tuple_add PySem.F.slot_tuple_add PySem.F.entry_tuple_add (PySem.F.args_tuple_add_2 _ _) meets ⟨ho,ho2,.ref b,H,I,rfl,q⟩
theorem dE {α:Type}{f:Int->Int->Option α}{x y:PV}{v:α} (h:iD f x y=some v):∃ i j,x=.int i/\y=.int j/\f i j=some v:=by
 cases x <;> try (cases h;done)
 cases y <;> try (cases h;done)
 exact ⟨_,_,rfl,rfl,h⟩
theorem iK {C:Int->Int->Prop} [∀ i j,Decidable (C i j)] {g:Int->Int->Int}{x y v:PV} (h:iD (λi j=>if C i j then some (.int (g i j)) else none) x y=some v):∃ i j,x=.int i/\y=.int j/\C i j/\v=.int (g i j):=by
 obtain ⟨i,j,e1,e2,e3⟩:=dE h
 by_cases c:C i j
 ·rw [if_pos c] at e3
  exact ⟨i,j,e1,e2,c,(Option.some.inj e3).symm⟩
 ·rw [if_neg c] at e3
  cases e3
theorem zv (op:Op2):OpR X (binaryOp (wS op)) (R2M X.K (gU op)):=by
 cases op with
 | sub=>exact jb (C:=λ_ _=>True) (g:=λi j=>i - j) (λpins s σ H x y v u Q I rx ry h=>yI pins s σ H x y v u Q I rx ry (by obtain ⟨i,j,e1,e2,_,q⟩:=h;exact ⟨i,j,e1,e2,q⟩)) (λx y v h=>by
   obtain ⟨i,j,e1,e2,e3⟩:=dE h
   exact ⟨i,j,e1,e2,trivial,(Option.some.inj e3).symm⟩)
 | mul=>exact jb yJ λx y v h=>by have q:=iK h;exact q
 | fdiv=>exact jb we λx y v h=>by have q:=iK h;exact q
 | mod=>exact jb yK λx y v h=>by have q:=iK h;exact q
 | pow=>exact jb yL λx y v h=>by have q:=iK h;exact q
 | shr=>exact jb yM λx y v h=>by have q:=iK h;exact q
 | add =>
  intro pins s σ H ux uy v u Q I rx ry hq
  obtain ⟨O,x,y,w,hO,r1,r2,e,q⟩:=hq
  cases x <;> try (cases e;done)
  all_goals (cases y <;> simp only [gU,x_] at e <;> try (cases e;done))
  ·cases e
   have e1:=r1.int
   have e2:=r2.int
   subst e1 e2
   exact yH pins s σ H _ _ v u Q I rx ry ⟨_,_,rfl,rfl,q _ H (af.refl H) (cr _ _)⟩
  ·split at e
   ·rename_i c
    cases e
    have e1:=r1.str
    have e2:=r2.str
    subst e1 e2
    exact pf pins s σ H _ _ v u Q I rx ry ⟨_,_,rfl,rfl,Nat.le_trans c (by decide),q _ H (af.refl H) (m9 _ _)⟩
   ·cases e
  ·split at e
   ·rename_i c
    cases e
    obtain ⟨a,us,rfl,s1,t1⟩:=r1.tup
    obtain ⟨b,ws,rfl,s2,t2⟩:=r2.tup
    have l1:=t1.length
    have l2:=t2.length
    have w1:=r1.tupR
    have w2:=r2.tupR
    by_cases z0:us=[]
    ·subst z0
     have z1:=List.eq_nil_of_length_eq_zero l1
     subst z1
     exact w5 pins s σ H _ _ v u Q I rx ry ⟨a,b,ws,rfl,rfl,s1,s2,q _ H (af.refl H) w2⟩
    refine wq pins s σ H _ _ v u Q I rx ry ⟨a,b,us,ws,rfl,rfl,s1,s2,z0,eR (by omega),λz=>?_,λz p hp=>?_⟩
    ·rw [z,List.length_nil] at l2
     have z1:=List.eq_nil_of_length_eq_zero l2
     subst z1
     rw [List.append_nil] at q
     exact q _ H (af.refl H) w1
    ·exact q _ _ (ah hp _) (fT hO hp (t1.append t2))
   ·cases e
  ·split at e
   ·rename_i c
    cases e
    obtain ⟨a,us,rfl,s1,t1⟩:=r1.lst
    obtain ⟨b,ws,rfl,s2,t2⟩:=r2.lst
    have l1:=t1.length
    have l2:=t2.length
    exact w4 pins s σ H _ _ v u Q I rx ry ⟨a,b,us,ws,rfl,rfl,s1,s2,eR (by omega),λp hp=>q _ _ (ah hp _) (oq hO hp (t1.append t2))⟩
   ·cases e
noncomputable def R2C (K:PySem.W.Frag) (f:PV->PV->Option Bool):R2:=λux uy H Q =>
 ∃ O x y b,aZ K H O x ux/\aZ K H O y uy/\f x y=some b/\Q (.bl b) H
theorem jN {op:CmpOp}{g:Int->Int->Bool}{f:PV->PV->Option Bool} (h:OpR X (compareOp op) (rI0 λi j=>.bl (g i j)))
  (hf:∀ x y v,f x y=some v->∃ i j,x=.int i/\y=.int j/\v=g i j):OpR X (compareOp op) (R2C X.K f):=by
 intro pins s σ H ux uy v u Q I rx ry hq
 obtain ⟨O,x,y,w,r1,r2,e,q⟩:=hq
 obtain ⟨i,j,rfl,rfl,rfl⟩:=hf x y w e
 have e1:=r1.int
 have e2:=r2.int
 subst e1 e2
 exact h pins s σ H _ _ v u Q I rx ry ⟨i,j,rfl,rfl,q⟩
theorem zw:OpR X (compareOp .Is) (λx y H Q=>∃ p q,x=.bl p/\y=.bl q/\Q (.bl (p == q)) H):=by
 rintro pins s σ H x y v u Q I rx ry ⟨p,q,rfl,rfl,hq⟩
 cases rx
 cases ry
 exact wpAny_pure (bz I hq (by cases p <;> cases q <;> rfl))
theorem r6:OpR X (compareOp .IsNot) (λx y H Q=>∃ p q,x=.bl p/\y=.bl q/\Q (.bl (!(p == q))) H):=by
 rintro pins s σ H x y v u Q I rx ry ⟨p,q,rfl,rfl,hq⟩
 cases rx
 cases ry
 exact wpAny_pure (bz I hq (by cases p <;> cases q <;> rfl))
theorem qy {K:PySem.W.Frag}{H:Hp}{O:List Addr}{x:PV}{u:V} (r:aZ K H O x u):decide (u=.non)=dM x:=by
 cases x with
 | non=>rw [r.non];rfl
 | bl b=>rw [r.bl];rfl
 | int b=>rw [r.int];rfl
 | str b=>rw [r.str];rfl
 | tup xs=>obtain ⟨a,us,rfl,_⟩:=r.tup;rfl
 | lst xs=>obtain ⟨a,us,rfl,_⟩:=r.lst;rfl
 | dI kvs=>obtain ⟨a,rfl,_⟩:=r.dI;rfl
theorem uE (hu:X.A.units + 200 < cLine) (op:Cp):OpR X (compareOp (rY op)) (R2C X.K (cb op)):=by
 cases op with
 | lt=>exact jN A3 λx y v h=>by obtain ⟨i,j,e1,e2,e3⟩:=dE h;exact ⟨i,j,e1,e2,(Option.some.inj e3).symm⟩
 | le=>exact jN A4 λx y v h=>by obtain ⟨i,j,e1,e2,e3⟩:=dE h;exact ⟨i,j,e1,e2,(Option.some.inj e3).symm⟩
 | gt=>exact jN A5 λx y v h=>by obtain ⟨i,j,e1,e2,e3⟩:=dE h;exact ⟨i,j,e1,e2,(Option.some.inj e3).symm⟩
 | ge=>exact jN A6 λx y v h=>by obtain ⟨i,j,e1,e2,e3⟩:=dE h;exact ⟨i,j,e1,e2,(Option.some.inj e3).symm⟩
 | eq =>
  intro pins s σ H ux uy v u Q I rx ry hq
  obtain ⟨O,x,y,w,r1,r2,e,q⟩:=hq
  exact zr (by omega) pins s σ H ux uy v u Q I rx ry ⟨x,y,w,r1.whole,r2.whole,e,q⟩
 | ne =>
  intro pins s σ H ux uy v u Q I rx ry hq
  obtain ⟨O,x,y,w,r1,r2,e,q⟩:=hq
  simp only [cb] at e
  split at e
  ·rename_i c
   simp only [Option.map_eq_some_iff] at e
   obtain ⟨b,e,rfl⟩:=e
   exact zt (by omega) pins s σ H ux uy v u Q I rx ry ⟨x,y,b,r1.whole,r2.whole,c,e,q⟩
  ·cases e
 | isN =>
  intro pins s σ H ux uy v u Q I rx ry hq
  obtain ⟨O,x,y,w,r1,r2,e,q⟩:=hq
  cases y <;> try (cases e;done)
  ·have e2:=r2.non
   subst e2
   refine yN pins s σ H ux _ v u Q I rx ry ⟨rfl,?_⟩
   have e:some (dM x)=some w:=e
   rw [qy r1,Option.some.inj e]
   exact q
  ·cases x <;> try (cases e;done)
   have e1:=r1.bl
   have e2:=r2.bl
   subst e1 e2
   exact zw pins s σ H _ _ v u Q I rx ry ⟨_,_,rfl,rfl,by rw [Option.some.inj e];exact q⟩
 | notN =>
  intro pins s σ H ux uy v u Q I rx ry hq
  obtain ⟨O,x,y,w,r1,r2,e,q⟩:=hq
  cases y <;> try (cases e;done)
  ·have e2:=r2.non
   subst e2
   refine wg pins s σ H ux _ v u Q I rx ry ⟨rfl,?_⟩
   have e:some (!dM x)=some w:=e
   rw [qy r1,Option.some.inj e]
   exact q
  ·cases x <;> try (cases e;done)
   have e1:=r1.bl
   have e2:=r2.bl
   subst e1 e2
   cases e
   exact r6 pins s σ H _ _ v u Q I rx ry ⟨_,_,rfl,rfl,q⟩
 | isIn =>
  intro pins s σ H ux uy v u Q I rx ry hq
  obtain ⟨O,x,y,w,r1,r2,e,q⟩:=hq
  simp only [cb,Option.bind_eq_some_iff] at e
  obtain ⟨xs,e1,e2⟩:=e
  obtain ⟨a,us,rfl,s2,t2⟩:=r2.seq e1
  exact zu (by omega) pins s σ H ux _ v u Q I rx ry ⟨x,_,a,us,w,r1.whole,rfl,s2,Reps.mono (aY H O) _ t2,e2,q⟩
 | notIn =>
  intro pins s σ H ux uy v u Q I rx ry hq
  obtain ⟨O,x,y,w,r1,r2,e,q⟩:=hq
  simp only [cb,Option.bind_eq_some_iff,Option.map_eq_some_iff] at e
  obtain ⟨b,⟨xs,e1,e2⟩,rfl⟩:=e
  obtain ⟨a,us,rfl,s2,t2⟩:=r2.seq e1
  exact rZ (by omega) pins s σ H ux _ v u Q I rx ry ⟨x,_,a,us,b,r1.whole,rfl,s2,Reps.mono (aY H O) _ t2,e2,q⟩
theorem ou (n:Nat) (i:Int):place n i=ixN n i:=rfl
theorem zx:IxR X (R2M X.K n_):=by
 intro value slice pins s σ H ux uy v u Q I rx ry hq hsub
 obtain ⟨O,x,y,w,hO,r1,r2,e,q⟩:=hq
 cases x <;> cases y <;> simp only [n_] at e <;> try (cases e;done)
 ·simp only [Option.bind_eq_some_iff] at e
  obtain ⟨j,e1,e2⟩:=e
  obtain ⟨a,us,rfl,s1,t1⟩:=r1.tup
  have e3:=r2.int
  subst e3
  obtain ⟨uw,e4,rw'⟩:=t1.get e2
  refine s_ value slice pins s σ H _ _ v u Q I rx ry (.inr (.inl ⟨a,us,_,uw,rfl,rfl,s1,?_,q uw H (af.refl H) rw'⟩)) hsub
  unfold atI
  rw [<- t1.length,<- ou,e1]
  exact e4
 ·simp only [Option.bind_eq_some_iff] at e
  obtain ⟨j,e1,e2⟩:=e
  obtain ⟨a,us,rfl,s1,t1⟩:=r1.lst
  have e3:=r2.int
  subst e3
  obtain ⟨uw,e4,rw'⟩:=t1.get e2
  refine s_ value slice pins s σ H _ _ v u Q I rx ry (.inl ⟨a,us,_,uw,rfl,rfl,s1,?_,q uw H (af.refl H) rw'⟩) hsub
  unfold atI
  rw [<- t1.length,<- ou,e1]
  exact e4
theorem pG {b:Expr} (h:bE b=true):qb b:=by
 intro o i
 cases b <;> first|rfl|(simp [bE] at h)
theorem oA {K:PySem.W.Frag}{F:Hp}{xs:List PV}{us:List V} (h:Reps K F xs us) (lo hi:Option Int):Reps K F (cut xs lo hi) (nD us lo hi):=by
 have hl:=h.length
 have e:∀ (n d:Nat) (o:Option Int),gX n d o=HT.sIx n d o:=λn d o=>by cases o <;> rfl
 unfold cut nD
 rw [e,e,hl]
 exact (h.drop _).take _
theorem zy:SlR X (λx lo hi H Q=>∃ O v w,(∀ a ∈ O,H a ≠ none)/\aZ X.K H O v x/\jI v lo hi=some w/\∀ u H',af H H'->Rep X.K (ax H' O) w u->Q u H'):=by
 intro pins s σ H x v vl vu lo hi sl Q I rx hs pl pu hq
 obtain ⟨O,pv,w,hO,r1,e,q⟩:=hq
 cases pv <;> simp only [jI] at e <;> try (cases e;done)
 ·rename_i xs
  cases e
  obtain ⟨a,us,rfl,s1,t1⟩:=r1.tup
  have e:∀ (n d:Nat) (o:Option Int),gX n d o=HT.sIx n d o:=λn d o=>by cases o <;> rfl
  by_cases hn:HT.sIx us.length 0 lo=0/\HT.sIx us.length us.length hi=us.length
  ·refine wP pins s σ H _ v vl vu lo hi sl Q I rx hs pl pu ⟨a,us,rfl,s1,hn.1,hn.2,q _ _ (af.refl H) ?_⟩
   have:cut xs lo hi=xs:=by
    unfold cut
    rw [e,e,t1.length,hn.1,hn.2,List.drop_zero,<- t1.length,Nat.sub_zero,List.take_length]
   rw [this]
   exact r1.tupR
  ·exact yR pins s σ H _ v vl vu lo hi sl Q I rx hs pl pu ⟨a,us,rfl,s1,hn,λp hp=>q _ _ (ah hp _) (fT hO hp (oA t1 lo hi))⟩
 ·cases e
  obtain ⟨a,us,rfl,s1,t1⟩:=r1.lst
  exact wu pins s σ H _ v vl vu lo hi sl Q I rx hs pl pu ⟨a,us,rfl,s1,λp hp=>q _ _ (ah hp _) (oq hO hp (oA t1 lo hi))⟩
end
end MM
namespace MM
open PySem PySem.Spec PyProof.Rows L2
theorem qz (x:Int):∀ l,ui x l=Srt.jC Srt.cN x l
 | []=>rfl
 | y::r=>by
  show (if y < x then y::ui x r else x::y::r)=(if Srt.cN.blt y x=true then y::Srt.jC Srt.cN x r else x::y::r)
  rw [qz x r]
  by_cases h:y < x
  ·have e:Srt.cN.blt y x=true:=decide_eq_true h
   rw [if_pos h,if_pos e]
  ·have e:Srt.cN.blt y x=false:=decide_eq_false h
   rw [if_neg h,if_neg (by rw [e];exact Bool.false_ne_true)]
theorem dP:∀ l,sortI l=Srt.sortI l
 | []=>rfl
 | x::r=>by
  show ui x (sortI r)=Srt.jC Srt.cN x (Srt.fJ Srt.cN r)
  rw [dP r,qz];rfl
theorem kG:∀ a b,lexLt a b=HT.lexLt a b
 | [],[]=>rfl
 | [],_::_=>rfl
 | _::_,[]=>rfl
 | x::xs,y::ys=>by
  rw [lexLt,HT.lexLt_cons,kG xs ys]
theorem qA (x:List Int):∀ l,uj x l=Srt.jC Srt.cw x l
 | []=>rfl
 | y::r=>by
  show (if lexLt y x=true then y::uj x r else x::y::r)=(if Srt.cw.blt y x=true then y::Srt.jC Srt.cw x r else x::y::r)
  rw [qA x r,kG]
  rfl
theorem dQ:∀ l,sortT l=Srt.sortT l
 | []=>rfl
 | x::r=>by
  show uj x (sortT r)=Srt.jC Srt.cw x (Srt.fJ Srt.cw r)
  rw [dQ r,qA];rfl
theorem lZ:∀ l,dd l=St.dd l
 | []=>rfl
 | x::r=>by
  unfold dd St.dd
  rw [lZ r]
theorem w8 (ns:List Int):Srt.sortI (St.dd ns.reverse)=sortI (dd ns):=by
 rw [dP,lZ]
 refine Srt.sortI_of_perm ?_
 refine (List.perm_ext_iff_of_nodup (St.dd_nodup _) (St.dd_nodup _)).mpr λa=>?_
 rw [St.d9,St.d9,List.mem_reverse]
theorem pH (ns:List Int):(St.dd ns.reverse).length=(dd ns).length:=by
 rw [lZ]
 refine List.Perm.length_eq ((List.perm_ext_iff_of_nodup (St.dd_nodup _) (St.dd_nodup _)).mpr λa=>?_)
 rw [St.d9,St.d9,List.mem_reverse]
section
variable {X:Cx}{T:Tab}{k:Nat}{cal:Cal}
noncomputable def RBM (K:PySem.W.Frag) (f:List PV->Option PV):List V->Hp->VK->Prop:=λus H Q =>
 ∃ O vs v,(∀ a ∈ O,H a ≠ none)/\Paired (aZ K H O) vs us/\f vs=some v/\∀ u H',af H H'->Rep K (ax H' O) v u->Q u H'
theorem p1 {K:PySem.W.Frag}{H:Hp}{O:List Addr}{x:PV}{us:List V} (h:Paired (aZ K H O) [x] us):∃ u,us=[u]/\aZ K H O x u:=by
 cases h with
 | cons r t=>cases t;exact ⟨_,rfl,r⟩
theorem p2 {K:PySem.W.Frag}{H:Hp}{O:List Addr}{x y:PV}{us:List V} (h:Paired (aZ K H O) [x,y] us):∃ u w,us=[u,w]/\aZ K H O x u/\aZ K H O y w:=by
 cases h with
 | cons r t=>cases t with
  | cons r' t'=>cases t';exact ⟨_,_,rfl,r,r'⟩
theorem cR {f:Blt}{vs:List PV}{v:PV} (h:ak f vs=some v) (hf:dD f=some 1 \/ (cg f).isSome=true \/ f=.sortedSet \/ f=.lenSet \/ f=.valuesOf):∃ x,vs=[x]:=by
 cases vs with
 | nil=>cases f <;> simp [ak,bq,fQ,fc] at h
 | cons x r=>cases r with
  | nil=>exact ⟨x,rfl⟩
  | cons y r=>cases f <;> simp [ak,bq,fQ,fc,dD,cg] at h hf
theorem Bv:bp X (.builtin "len") (RBM X.K (ak .len)):=by
 intro pins s σ H xs us Q I r h
 obtain ⟨O,vs,v,hO,rs,e,q⟩:=h
 obtain ⟨x,rfl⟩:=cR e (.inl rfl)
 obtain ⟨u,rfl,rx⟩:=p1 rs
 cases x <;> simp only [ak,bq,ya] at e <;> try (cases e;done)
 ·cases e
  obtain ⟨a,ws,rfl,s1,t1⟩:=rx.tup
  exact ij pins s σ H _ us Q I r ⟨a,ws,rfl,.inr s1,by rw [<- t1.length];exact q _ H (af.refl H) (cr _ _)⟩
 ·cases e
  obtain ⟨a,ws,rfl,s1,t1⟩:=rx.lst
  exact ij pins s σ H _ us Q I r ⟨a,ws,rfl,.inl s1,by rw [<- t1.length];exact q _ H (af.refl H) (cr _ _)⟩
 ·rename_i d
  cases d with
  | t kvs=>cases e
  | k kvs =>
   cases e
   obtain ⟨a,rfl,ha⟩:=rx.dI
   obtain ⟨u,rfl,ru⟩:=dj r
   cases ru
   obtain ⟨hz,hs,ws,rel,dd⟩:=im I.hok (show Rd H a (.dK (fF kvs)) from ha)
   have hlen:ws.length=kvs.length:=by rw [<- rel.length];unfold fF;rw [List.length_map]
   have hz:kvs.length <= sizeLine:=by unfold fF at hz;rw [List.length_map] at hz;exact hz
   have hn:=iV
   exact call_len_dict hs dd (by rw [hlen];omega) ⟨.int kvs.length,H,I.tok _,⟨s.toks + 1,by rw [hlen]⟩,q _ H (af.refl H) (cr _ _)⟩
theorem w9:bp X (.type "tuple") (RBM X.K (ak .tupleOf)):=by
 intro pins s σ H xs us Q I r h
 obtain ⟨O,vs,v,hO,rs,e,q⟩:=h
 obtain ⟨x,rfl⟩:=cR e (.inl rfl)
 obtain ⟨u,rfl,rx⟩:=p1 rs
 simp only [ak,bq,fQ,eN,fc,Option.map_eq_some_iff] at e
 obtain ⟨ys,e,rfl⟩:=e
 cases x <;> simp [aO] at e
 ·subst e
  obtain ⟨a,ws,rfl,s1,t1⟩:=rx.tup
  refine gH pins s σ H _ us Q I r ⟨a,ws,rfl,.inr ⟨s1,q _ H (af.refl H) ?_⟩⟩
  exact rx.tupR
 ·subst e
  obtain ⟨a,ws,rfl,s1,t1⟩:=rx.lst
  exact gH pins s σ H _ us Q I r ⟨a,ws,rfl,.inl ⟨s1,λl hl=>q _ _ (ah hl _) (fT hO hl t1)⟩⟩
noncomputable def RBF (K:PySem.W.Frag) (f:List PV->Option PV):List V->Hp->VK->Prop:=λus H Q =>
 ∃ O vs xs,(∀ a ∈ O,H a ≠ none)/\Paired (aZ K H O) vs us/\f vs=some (.lst xs)/\∀ l ws,H l=none->Reps K (ax H O) xs ws->Q (.ref l) (upd H l (.lst ws))
theorem zz:bp X (.type "list") (RBF X.K (ak .listOf)):=by
 intro pins s σ H xs us Q I r h
 obtain ⟨O,vs,v,hO,rs,e,q⟩:=h
 obtain ⟨x,rfl⟩:=cR e (.inl rfl)
 obtain ⟨u,rfl,rx⟩:=p1 rs
 simp only [ak,bq,fQ,eN,fc,Option.map_eq_some_iff,PV.lst.injEq,exists_eq_right] at e
 obtain ⟨a,ws,rfl,s1,t1⟩:=rx.seq e
 exact mD pins s σ H _ us Q I r ⟨a,ws,rfl,s1,λl hl=>q l ws hl t1⟩
theorem l0 {K:PySem.W.Frag}{F:Hp}:∀ {tss:List (List Int)}{us:List V},Reps K F (tss.map λt=>.tup (t.map .int)) us->pC K F us tss
 | [],_,h=>by rw [List.map_nil,Reps] at h;subst h;exact .nil
 | t::tss,_,h=>by
  rw [List.map_cons,Reps] at h
  obtain ⟨u,r,rfl,q,z⟩:=h
  rw [Rep] at q
  obtain ⟨a,vs,e,s1,r1⟩:=q
  rw [r1.ints] at s1
  exact .cons ⟨a,e,SqT.of s1⟩ (l0 z)
theorem l4 {K:PySem.W.Frag}{F F':Hp} (s:af F F'):∀ {us:List V}{tss:List (List Int)},pC K F us tss->pC K F' us tss
 | _,_,.nil=>.nil
 | _,_,.cons ⟨a,e1,e2⟩ t=>.cons ⟨a,e1,s.seqT e2⟩ (l4 s t)
theorem l5 {K:PySem.W.Frag}{F:Hp}{xs:List PV}{us:List V} (h:Reps K F xs us):∀ (l:List Nat),(∀ i ∈ l,i < us.length)->Reps K F (l.map λi=>xs.getD i .non) (l.map λi=>us.getD i .non)
 | [],_=>.nil
 | i::l,hl=>by
  have hi:=hl i (.head _)
  have hx:i < xs.length:=by rw [h.length];exact hi
  obtain ⟨u,e1,e2⟩:=h.get (i:=i) (x:=xs[i]) (List.getElem?_eq_getElem hx)
  refine .cons ?_ (l5 h l λj hj=>hl j (.tail _ hj))
  have q1:xs.getD i .non=xs[i]:=by simp [hx]
  have q2:us.getD i .non=u:=by rw [List.getD_eq_getElem?_getD,e1];rfl
  show Rep K F (xs.getD i .non) (us.getD i .non)
  rw [q1,q2];exact e2
theorem uF (g:Gf X T k cal):bp X (.builtin "sorted") (RBF X.K (ak .sorted)):=by
 intro pins s σ H xs us Q I r h
 obtain ⟨O,vs,v,hO,rs,e,q⟩:=h
 obtain ⟨x,rfl⟩:=cR e (.inl rfl)
 obtain ⟨u,rfl,rx⟩:=p1 rs
 simp only [ak,bq,fQ,eN,fc,Option.bind_eq_some_iff] at e
 obtain ⟨ys,e,e2⟩:=e
 obtain ⟨a,ws,rfl,s1,t1⟩:=rx.seq e
 unfold fP at e2
 split at e2
 ·rename_i h64
  split at e2
  ·rename_i ns hn
   cases e2
   have:=dN hn
   subst this
   have e3:=t1.ints
   subst e3
   rw [List.length_map] at h64
   refine iy g.calm pins s σ H _ us Q I r ⟨a,ns,rfl,s1.imp id .inl,h64,λl hl=>?_⟩
   rw [<- dP]
   exact q l _ hl (.of_ints _)
  ·simp only [Option.map_eq_some_iff,PV.lst.injEq] at e2
   obtain ⟨ts,e3,rfl⟩:=e2
   have:=kw e3
   subst this
   rw [List.length_map] at h64
   refine mJ (by have:=g.units;omega) pins s σ H _ us Q I r ⟨a,ws,ts,rfl,s1,l4 (aY H O) (l0 t1),h64,λl pm hl hp e=>q l _ hl ?_⟩
   have q2:=l5 t1 pm hp
   have e4:(pm.map λi=>(ts.map λt=>PV.tup (t.map .int)).getD i .non)=(sortT ts).map λt=>.tup (t.map .int):=by
    rw [dQ,<- e,List.map_map]
    refine List.map_congr_left λi hi=>?_
    have hi':i < ts.length:=by have:=hp i hi;rw [<- t1.length,List.length_map] at this;exact this
    simp [hi']
   rw [e4] at q2
   exact q2
 ·cases e2
theorem jO {x:PV}{ys:List PV} (h:eN x=some ys):x=.lst ys:=by
 cases x <;> cases h
 rfl
end
end MM
namespace MM
open PySem PySem.Spec PyProof.Rows L2
section
variable {X:Cx}{T:Tab}{k:Nat}{cal:Cal}
theorem zA {b:Blt}{c:String} (hb:cg b=some c):bp X (.builtin "isinstance") (λus H Q=>∃ O v u,us=[u,.ty c]/\isD v=false/\aZ X.K H O v u/\Q (.bl (isT b v)) H):=by
 intro pins s σ H xs us Q I r h
 obtain ⟨O,v,x,rfl,nd,rx,q⟩:=h
 obtain ⟨u,t,rfl,r1,rc⟩:=A8 r
 have rc':t=.type c:=rc
 subst rc'
 have fin:∀ (z:Bool) (tk:Nat),z=isT b v->EP X pins σ Q (.bool z) { s with toks:=tk }:=λz tk e=>⟨.bl z,H,I.tok tk,rfl,by rw [e];exact q⟩
 cases v with
 | dI _=>cases nd
 | non =>
  have e:=rx.non
  subst e
  cases (show u=Value.none from r1)
  cases b <;> simp only [cg,Option.some.injEq,reduceCtorEq] at hb <;> subst hb <;>
   exact PySem.W.kia_one PySem.W.kitx_none I.kIn True.intro (b:=false) (by first|rfl|kernel_rfl|decide) (λz=>nomatch z) λtk=>fin _ tk rfl
 | bl y =>
  have e:=rx.bl
  subst e
  cases (show u=Value.bool y from r1)
  cases b <;> simp only [cg,Option.some.injEq,reduceCtorEq] at hb <;> subst hb <;> first
   | exact PySem.W.kia_one PySem.W.kitx_bool I.kIn True.intro (b:=true) (by first|rfl|kernel_rfl|decide) (λz=>nomatch z) λtk=>fin _ tk rfl
   | exact PySem.W.kia_one PySem.W.kitx_bool I.kIn True.intro (b:=false) (by first|rfl|kernel_rfl|decide) (λz=>nomatch z) λtk=>fin _ tk rfl
 | int y =>
  have e:=rx.int
  subst e
  obtain ⟨t,z⟩:=(show ∃ t,u=Value.int y t from r1)
  cases z
  cases b <;> simp only [cg,Option.some.injEq,reduceCtorEq] at hb <;> subst hb <;> first
   | exact PySem.W.kia_one PySem.W.kitx_int I.kIn True.intro (b:=true) (by first|rfl|kernel_rfl|decide) (λz=>nomatch z) λtk=>fin _ tk rfl
   | exact PySem.W.kia_one PySem.W.kitx_int I.kIn True.intro (b:=false) (by first|rfl|kernel_rfl|decide) (λz=>nomatch z) λtk=>fin _ tk rfl
 | str y =>
  have e:=rx.str
  subst e
  obtain ⟨t,z⟩:=(show ∃ t,u=Value.str y t from r1)
  cases z
  cases b <;> simp only [cg,Option.some.injEq,reduceCtorEq] at hb <;> subst hb <;> first
   | exact PySem.W.kia_one PySem.W.kitx_str I.kIn True.intro (b:=true) (by first|rfl|kernel_rfl|decide) (λz=>nomatch z) λtk=>fin _ tk rfl
   | exact PySem.W.kia_one PySem.W.kitx_str I.kIn True.intro (b:=false) (by first|rfl|kernel_rfl|decide) (λz=>nomatch z) λtk=>fin _ tk rfl
 | lst ys =>
  obtain ⟨a,us,rfl,s1,t1⟩:=rx.lst
  cases (show u=Value.ref a from r1)
  obtain ⟨its,_,p,_⟩:=I.list s1
  obtain ⟨o,h1,h2,_⟩:=p.isList
  cases b <;> simp only [cg,Option.some.injEq,reduceCtorEq] at hb <;> subst hb <;> first
   | exact PySem.W.kia_one PySem.W.kitx_list I.kIn ⟨o,h1,h2⟩ (b:=true) (by first|rfl|kernel_rfl|decide) (λz=>nomatch z) λtk=>fin _ tk rfl
   | exact PySem.W.kia_one PySem.W.kitx_list I.kIn ⟨o,h1,h2⟩ (b:=false) (by first|rfl|kernel_rfl|decide) (λz=>nomatch z) λtk=>fin _ tk rfl
 | tup ys =>
  obtain ⟨a,us,rfl,s1,t1⟩:=rx.tup
  cases (show u=Value.ref a from r1)
  obtain ⟨its,_,p,_⟩:=I.tuple s1
  obtain ⟨o,h1,h2,_⟩:=p
  cases b <;> simp only [cg,Option.some.injEq,reduceCtorEq] at hb <;> subst hb <;> first
   | exact PySem.W.kia_one PySem.W.kitx_tuple I.kIn ⟨o,h1,h2⟩ (b:=true) (by first|rfl|kernel_rfl|decide) (λz=>nomatch z) λtk=>fin _ tk rfl
   | exact PySem.W.kia_one PySem.W.kitx_tuple I.kIn ⟨o,h1,h2⟩ (b:=false) (by first|rfl|kernel_rfl|decide) (λz=>nomatch z) λtk=>fin _ tk rfl
theorem g9 {K:PySem.W.Frag}{F:Hp}:∀ {bs:List Bool}{us:List V}{its:List Value},Reps K F (bs.map .bl) us->ar us its->its=bs.map Value.bool
 | [],_,_,h,w=>by rw [List.map_nil,Reps] at h;subst h;cases w;rfl
 | b::bs,_,_,h,w=>by
  rw [List.map_cons,Reps] at h
  obtain ⟨u,r,rfl,q,t⟩:=h
  rw [Rep] at q
  subst q
  cases w with
  | cons r1 w1 =>
   cases r1
   rw [g9 t w1];rfl
theorem r9 (bs:List Bool):(List.range bs.length).all (λi=>bs.getD i false)=bs.all id:=by
 conv=>rhs;rw [<- Srt.gh bs false]
 rw [List.all_map]
 rfl
theorem r_ (bs:List Bool):(List.range bs.length).any (λi=>bs.getD i false)=bs.any id:=by
 conv=>rhs;rw [<- Srt.gh bs false]
 rw [List.any_map]
 rfl
theorem jt {P:Program}{w:World}{A:Around} (bs:List Bool):TruthOf P w A (λi v=>(bs.map Value.bool).toArray[i]?=some v) (λi=>bs.getD i false):=by
 intro i v s Q E h q
 simp only [List.getElem?_toArray,List.getElem?_map,Option.map_eq_some_iff] at h
 obtain ⟨b,e,rfl⟩:=h
 have:bs.getD i false=b:=by rw [List.getD_eq_getElem?_getD,e];rfl
 have q':Q (bs.getD i false) s:=q
 rw [this] at q'
 exact wpAny_truthy_bool q'
theorem Bw (hc:X.calm=true):bp X (.builtin "any") (RBM X.K (ak .any)):=by
 intro pins s σ H xs us Q I r h
 obtain ⟨O,vs,v,hO,rs,e,q⟩:=h
 obtain ⟨x,rfl⟩:=cR e (.inl rfl)
 obtain ⟨u,rfl,rx⟩:=p1 rs
 simp only [ak,bq,Option.bind_eq_some_iff,Option.map_eq_some_iff] at e
 obtain ⟨ys,e0,bs,e,rfl⟩:=e
 obtain rfl:=jO e0
 have:=i9 e
 subst this
 obtain ⟨a,ws,rfl,s1,t1⟩:=rx.lst
 obtain ⟨u,rfl,ru⟩:=dj r
 cases ru
 obtain ⟨its,r',pl,hz⟩:=I.list s1
 have:=g9 t1 r'
 subst this
 have hlt:a < s.heap.objs.size:=by obtain ⟨o,ho,_⟩:=pl.isList;exact Heap.lt_size ho
 refine call_any_walk (wpAny_pyIter_list pl.isList ?_)
 refine ⟨s.heap.objs.size,_,_,_,_,_,λi=>bs.getD i false,rfl,Walks.list (by first|exact I.ok.hd hc|simpa using I.ok.hd hc) s.heap.objs.size a (Nat.ne_of_lt hlt) (bs.map Value.bool).toArray,⟨⟨_,Heap.get?_push_size _ rfl,rfl,rfl⟩,pl.isList.push _⟩,jt bs,λh' tk hk=>?_⟩
 have e2:(List.range (bs.map Value.bool).toArray.size).any (λi=>bs.getD i false)=bs.any id:=by
  rw [List.size_toArray,List.length_map];exact r_ bs
 rw [e2]
 refine ⟨.bl _,H,?_,rfl,q _ H (af.refl H) (de _ _)⟩
 refine I.kept (t':=tk) λb o e=>hk b o ?_ (Heap.get?_push_of_some _ e)
 intro hm
 have hb:=Heap.lt_size e
 simp at hm
 exact absurd hm (Nat.ne_of_lt hb)
theorem Bx (hc:X.calm=true):bp X (.builtin "all") (RBM X.K (ak .all)):=by
 intro pins s σ H xs us Q I r h
 obtain ⟨O,vs,v,hO,rs,e,q⟩:=h
 obtain ⟨x,rfl⟩:=cR e (.inl rfl)
 obtain ⟨u,rfl,rx⟩:=p1 rs
 simp only [ak,bq,Option.bind_eq_some_iff,Option.map_eq_some_iff] at e
 obtain ⟨ys,e0,bs,e,rfl⟩:=e
 obtain rfl:=jO e0
 have:=i9 e
 subst this
 obtain ⟨a,ws,rfl,s1,t1⟩:=rx.lst
 obtain ⟨u,rfl,ru⟩:=dj r
 cases ru
 obtain ⟨its,r',pl,hz⟩:=I.list s1
 have:=g9 t1 r'
 subst this
 have hlt:a < s.heap.objs.size:=by obtain ⟨o,ho,_⟩:=pl.isList;exact Heap.lt_size ho
 refine call_all_walk (wpAny_pyIter_list pl.isList ?_)
 refine ⟨s.heap.objs.size,_,_,_,_,_,λi=>bs.getD i false,rfl,Walks.list (by first|exact I.ok.hd hc|simpa using I.ok.hd hc) s.heap.objs.size a (Nat.ne_of_lt hlt) (bs.map Value.bool).toArray,⟨⟨_,Heap.get?_push_size _ rfl,rfl,rfl⟩,pl.isList.push _⟩,jt bs,λh' tk hk=>?_⟩
 have e2:(List.range (bs.map Value.bool).toArray.size).all (λi=>bs.getD i false)=bs.all id:=by
  rw [List.size_toArray,List.length_map];exact r9 bs
 rw [e2]
 refine ⟨.bl _,H,?_,rfl,q _ H (af.refl H) (de _ _)⟩
 refine I.kept (t':=tk) λb o e=>hk b o ?_ (Heap.get?_push_of_some _ e)
 intro hm
 have hb:=Heap.lt_size e
 simp at hm
 exact absurd hm (Nat.ne_of_lt hb)
theorem ju (ns:List Int):∀ k,k <= ns.length->preSum (λi=>ns.getD i 0) k=(ns.take k).sum
 | 0,_=>by simp [preSum]
 | k + 1,h=>by
  have e:ns.take (k + 1)=ns.take k ++ [ns.getD k 0]:=by
   rw [List.take_succ,List.getD_eq_getElem?_getD,List.getElem?_eq_getElem (by omega)]
   rfl
  rw [preSum,ju ns k (by omega),e,List.sum_append]
  simp
theorem By (hc:X.calm=true):bp X (.builtin "sum") (RBM X.K (ak .sum)):=by
 intro pins s σ H xs us Q I r h
 obtain ⟨O,vs,v,hO,rs,e,q⟩:=h
 obtain ⟨x,rfl⟩:=cR e (.inl rfl)
 ·simp only [ak,bq,Option.bind_eq_some_iff,Option.map_eq_some_iff] at e
  obtain ⟨ys,e9,ns,e0,rfl⟩:=e
  obtain rfl:=jO e9
  have:=dN e0
  subst this
  obtain ⟨u,rfl,rx⟩:=p1 rs
  obtain ⟨a,ws,rfl,s1,t1⟩:=rx.lst
  have:=t1.ints
  subst this
  obtain ⟨u,rfl,ru⟩:=dj r
  cases ru
  obtain ⟨its,r',pl,hz⟩:=I.list s1
  have ia:IntsAre its ns:=cv r'
  have hl:=r'.length
  rw [List.length_map] at hl
  have hlt:a < s.heap.objs.size:=by obtain ⟨o,ho,_⟩:=pl.isList;exact Heap.lt_size ho
  have hh:X.A.in1.handled=none:=by simpa using I.ok.hd hc
  refine call_sum_walkAnyS (wpAny_pyIter_list pl.isList ⟨s.heap.objs.size,_,_,_,_,_,_,λi=>ns.getD i 0,rfl,(Walks.list hh s.heap.objs.size a (Nat.ne_of_lt hlt) its.toArray).toS,⟨⟨_,Heap.get?_push_size _ rfl,rfl,rfl⟩,pl.isList.push _⟩,λb hb=>?_,λi v hv=>St.jG (items:=its.toArray) (by simpa using ia) i v hv,λs' t' hm=>?_⟩)
  ·simp only [List.mem_cons,List.not_mem_nil,or_false] at hb
   rw [Heap.size_push]
   rcases hb with rfl|rfl
   ·exact Nat.lt_succ_self _
   ·exact Nat.lt_succ_of_lt hlt
  ·obtain ⟨h',g',d',tk,os'⟩:=s'
   have e1:g'=s.gens:=hm.gens
   have e2:d'=s.drawn:=hm.drawn
   have e3:os'=s.os:=hm.os
   subst e1 e2 e3
   rw [List.size_toArray,<- hl,ju ns ns.length (Nat.le_refl _),List.take_length]
   refine ⟨.int ns.sum,H,I.kept (t':=tk) λb o eb=>hm.heap b o (λz=>?_) (Heap.get?_push_of_some _ eb),⟨_,rfl⟩,q _ H (af.refl H) (cr _ _)⟩
   rw [List.mem_singleton.mp z] at eb
   exact absurd (Heap.lt_size eb) (Nat.lt_irrefl _)
theorem sa:∀ {ns:List Int}{m:Int},zm ns=some m->m ∈ ns/\∀ x ∈ ns,x <= m
 | n::ns,m,h=>by
  have gen:∀ (l:List Int) (a:Int),(l.foldl (λa b=>if a < b then b else a) a ∈ a::l)/\a <= l.foldl (λa b=>if a < b then b else a) a/\∀ x ∈ l,x <= l.foldl (λa b=>if a < b then b else a) a:=by
   intro l
   induction l with
   | nil=>intro a;exact ⟨.head _,Int.le_refl _,λx hx=>by cases hx⟩
   | cons b l ih =>
    intro a
    obtain ⟨h1,h2,h3⟩:=ih (if a < b then b else a)
    rw [List.foldl_cons]
    refine ⟨?_,?_,λx hx=>?_⟩
    ·rcases List.mem_cons.mp h1 with e|e
     ·rw [e]
      split
      ·exact .tail _ (.head _)
      ·exact .head _
     ·exact .tail _ (.tail _ e)
    ·exact Int.le_trans (by split <;> omega) h2
    ·rcases List.mem_cons.mp hx with rfl|hx
     ·exact Int.le_trans (by split <;> omega) h2
     ·exact h3 x hx
  obtain ⟨h1,h2,h3⟩:=gen ns n
  cases h
  exact ⟨h1,λx hx=>by
   rcases List.mem_cons.mp hx with rfl|hx
   ·exact h2
   ·exact h3 x hx⟩
theorem zB (hc:X.calm=true):bp X (.builtin "max") (RBM X.K (ak .max1)):=by
 intro pins s σ H xs us Q I r h
 obtain ⟨O,vs,v,hO,rs,e,q⟩:=h
 obtain ⟨x,rfl⟩:=cR e (.inl rfl)
 simp only [ak,bq,Option.bind_eq_some_iff,Option.map_eq_some_iff] at e
 obtain ⟨ys,e9,ns,e0,m,em,rfl⟩:=e
 obtain rfl:=jO e9
 have:=dN e0
 subst this
 obtain ⟨u,rfl,rx⟩:=p1 rs
 obtain ⟨a,ws,rfl,s1,t1⟩:=rx.lst
 have:=t1.ints
 subst this
 obtain ⟨u,rfl,ru⟩:=dj r
 cases ru
 obtain ⟨its,r',pl,hz⟩:=I.list s1
 have ia:IntsAre its ns:=cv r'
 have hl:=r'.length
 rw [List.length_map] at hl
 obtain ⟨hm1,hm2⟩:=sa em
 have hpos:0 < ns.length:=List.length_pos_iff.mpr (List.ne_nil_of_mem hm1)
 obtain ⟨zs,ez⟩:=ia.allInts.items
 have hsz:zs.size=ns.length:=by
  have:=congrArg Array.size ez
  simp [intItems] at this
  omega
 have num:∀ i,i < ns.length->numAt zs i=ns.getD i 0:=λi hi=>by
  have h1:(intItems zs)[i]?=some (.int (zs[i]'(by omega)).1 (zs[i]'(by omega)).2):=by simp [intItems,show i < zs.size by omega]
  obtain ⟨t,e1⟩:=intItems_at h1
  obtain ⟨t',e2⟩:=St.jG (items:=its.toArray) (by simpa using ia) i _ (by rw [ez];exact h1)
  rw [e1] at e2
  exact (Value.int.inj e2).1
 have hlist:s.heap.IsList a (intItems zs):=by rw [<- ez];exact pl.isList
 refine max_intList (I.ok.hd hc) hlist (by omega) λv h' tk hv hk=>?_
 obtain ⟨t,rfl⟩:=intItems_at hv
 obtain ⟨b1,b2⟩:=argBest_gt (numAt zs) (zs.size - 1)
 generalize argBest (λi j=>decide (numAt zs i > numAt zs j)) (zs.size - 1)=k at b1 b2
 have hk1:k < ns.length:=by omega
 have e1:numAt zs k=m:=by
  refine Int.le_antisymm ?_ ?_
  ·rw [num k hk1]
   exact hm2 _ (by rw [List.getD_eq_getElem?_getD,List.getElem?_eq_getElem hk1];exact List.getElem_mem hk1)
  ·obtain ⟨j,hj,rfl⟩:=List.getElem_of_mem hm1
   have:=b2 j (by omega)
   rw [num j hj,List.getD_eq_getElem?_getD,List.getElem?_eq_getElem hj] at this
   exact this
 rw [e1]
 exact ⟨.int m,H,I.kept (t':=tk) hk,⟨_,rfl⟩,q _ H (af.refl H) (cr _ _)⟩
theorem qB (hc:X.calm=true):bp X (.type "set") (λus H Q=>∃ O v u ns,us=[u]/\aZ X.K H O v u/\((aO v).bind aS)=some ns/\ns.length <= 1000/\∀ l,H l=none->Q (.ref l) (upd H l (gT X.prog X.w l (St.dd ns.reverse)))):=by
 intro pins s σ H xs us Q I r h
 obtain ⟨O,v,u,ns,rfl,rx,e,h1000,q⟩:=h
 simp only [Option.bind_eq_some_iff] at e
 obtain ⟨ys,e1,e2⟩:=e
 obtain ⟨a,ws,rfl,s1,t1⟩:=rx.seq e1
 have:=dN e2
 subst this
 have e3:=t1.ints
 subst e3
 exact tN hc pins s σ H _ us Q I r ⟨a,ns,rfl,s1,h1000,λl hl=>q l hl⟩
theorem oB (hc:X.calm=true):bp X (.builtin "sorted") (λus H Q=>∃ (l:Addr) (ks:List Int),us=[.ref l]/\H l=some (gT X.prog X.w l ks)/\ks.length < 64/\∀ p,H p=none->Q (.ref p) (upd H p (.lst ((Srt.sortI ks).map V.int)))):=by
 intro pins s σ H xs us Q I r h
 obtain ⟨l,ks,rfl,e,h64,q⟩:=h
 exact iy hc pins s σ H _ us Q I r ⟨l,ks,rfl,.inr (.inr e),h64,q⟩
end
end MM
namespace L2
open PySem PySem.Spec PyProof.Rows
end L2
namespace L2
open PySem PySem.Spec PyProof.Rows
theorem Inv.turned2 {X:Cx}{pins:List (Addr × Obj)}{σ:St}{H:Hp}{s:Shared}{h':Heap}{t':Nat}{e it:Addr}{oe:Obj} (I:Inv X pins σ H s) (he:s.heap.get? e=some oe) (hf:oe.isFreed=false) (he':∃ o,h'.get? e=some o)
  (k:∀ b o,b ≠ e->b ≠ it->s.heap.get? b=some o->h'.get? b=some o) (fe:jA X pins H e) (fi:jA X pins H it):Inv X pins σ H { s with heap:=h',toks:=t' }:=by
 obtain ⟨o',ho'⟩:=he'
 obtain ⟨a0,a1,a2,a3,a4,a5⟩:=fe
 obtain ⟨b0,b1,b2,b3,b4,b5⟩:=fi
 have at1:(h'.update e λ_=>oe).get? e=some oe:=Heap.get?_update_self _ ho' hf
 have oth:∀ b,b ≠ e->(h'.update e λ_=>oe).get? b=h'.get? b:=λb hb=>(Heap.SameBut.update h' e _).2 b hb
 have I1:Inv X pins σ H { s with heap:=h'.update e λ_=>oe,toks:=t' }:=I.turned (it:=it) (λb o hb q=>by
  by_cases z:b=e
  ·subst z
   rw [at1,<- he]
   exact q
  ·rw [oth b z]
   exact k b o z hb q) b0 b1 b3 b4 b5
 exact Inv.turned (s:={ s with heap:=h'.update e λ_=>oe,toks:=t' }) (it:=e) I1 (λb o hb q=>by
  have q:(h'.update e λ_=>oe).get? b=some o:=q
  rw [oth b hb] at q
  exact q) a0 a1 a3 a4 a5
noncomputable def Ite (q:Hp->List V->Prop):It :=
 ⟨λi H=>∃ xs,q H xs/\i < xs.length,λi H x H'=>∃ p,x=.ref p/\H p=none/\∃ u,H'=upd H p (.tup [.int i,u])/\∀ xs,q H xs->xs[i]?=some u,λi H=>∃ xs,q H xs/\i=xs.length⟩
structure Src (P:Program) (w:World) (K:PySem.W.Frag) (a it:Addr) (q:Hp->List V->Prop) (r:Nat->Heap->Prop):Prop where
 ne:a ≠ it
 keep:∀ i h h',r i h->(∀ o,h.get? it=some o->h'.get? it=some o)->r i h'
 live:∀ i h,r i h->∃ o,h.get? it=some o/\∀ v,o.data ≠ .cell v
 one:∀ (X:Cx),X.K=K->∀ (pins:List (Addr × Obj)) (s:Shared) (σ:St) (H:Hp) (xs ys:List V),Inv X pins σ H s->q H xs->q H ys->xs=ys
 row:∀ (X:Cx),X.prog=P->X.w=w->X.K=K->∀ (pins:List (Addr × Obj)) (s:Shared) (σ:St) (H:Hp) (xs:List V),Inv X pins σ H s->q H xs->∃ (its:List Value),ar xs its/\∀ (A:Around),A.handled=none ->
  ∃ St:Nat->Heap->Prop,Draws P w A it [it,a] its.length (λi v=>its[i]?=some v) St/\(∀ i,r i s.heap->St i s.heap)/\∀ i h,St i h->r i h
theorem uG {P:Program}{w:World}{K:PySem.W.Frag}{ts:List Expr}{j:Nat}{tp:Pos}{a it e:Addr}{q:Hp->List V->Prop}{r:Nat->Heap->Prop} (S:Src P w K a it q r) (hei:e ≠ it) (hea:e ≠ a) :
  rj P w K (.Tuple ts j tp) (Ite q) [e,it] e (λi h=>(∃ old,IsEnum h e it (i:Nat) old)/\r i h) where
 mem:=.head _
 obj:=λi h st b hb=>by
  obtain ⟨⟨old,he⟩,hr⟩:=st
  rcases List.mem_cons.mp hb with rfl|hb
  ·exact ⟨_,he,λv z=>by cases z⟩
  ·have z:b=it:=by simpa using hb
   subst z
   exact S.live i h hr
 keep:=λi h h' ⟨⟨old,he⟩,hr⟩ k=>⟨⟨old,k e (.head _) _ he⟩,S.keep i h h' hr (k it (.tail _ (.head _)))⟩
 item:=by
  intro X hP hw hK hc i pins s σ H E I hf st hg
  obtain ⟨⟨old,he⟩,hr⟩:=st
  obtain ⟨xs,hq,hi⟩:=hg
  obtain ⟨its,rv,dr⟩:=S.row X hP hw hK pins s σ H xs I hq
  have hh:X.A.handled=none:=I.ok.hd hc
  obtain ⟨St,D,hst,hts⟩:=dr X.A.in1 (by simpa using hh)
  have hl:=rv.length
  have fe:=hf e (.head _)
  have fi:=hf it (.tail _ (.head _))
  refine wpAny_pyNext_enum_itemD D he (hst i hr) (by omega) hei (by simp only [List.mem_cons,List.not_mem_nil,or_false,not_or];exact ⟨hei,hea⟩) λx h' tk px eo st' tup sz kp=>?_
  refine ⟨_,rfl,wpAny_letOwnedTupleGo_enum eo λh2 en2 sb2=>?_⟩
  have hx:i < xs.length:=hi
  obtain ⟨u,hu,ru⟩:=rv.get (List.getElem?_eq_getElem hx)
  have ex:x=u:=by
   have:=px.symm.trans hu
   simpa using this
  subst ex
  have fresh:H s.heap.objs.size=none:=I.hok.fresh (Nat.le_refl _)
  have ne:∀ b o,s.heap.get? b=some o->b ≠ s.heap.objs.size:=λb o q z=>Nat.lt_irrefl _ (by have:=Heap.lt_size q;rw [z] at this;exact this)
  have en:e ≠ s.heap.objs.size:=ne _ _ he
  obtain ⟨oi,hoi,_⟩:=S.live i _ hr
  have inn:it ≠ s.heap.objs.size:=ne _ _ hoi
  have I1:Inv X pins σ (upd H s.heap.objs.size (.tup [.int i,xs[i]])) { s with heap:=s.heap.push { cls:=.type "tuple",data:=.seq #[.int i tk,x] } } :=
   I.laid (t':=s.toks) (λb o q=>Heap.get?_push_of_some _ q) (Nat.le_refl _) ⟨by show 2 <= sizeLine;decide,_,.cons ⟨_,rfl⟩ (.cons ru .nil),IsTup.new _ _⟩
  have up:∀ b,b ≠ s.heap.objs.size->jA X pins H b->jA X pins (upd H s.heap.objs.size (.tup [.int i,xs[i]])) b:=λb hb ⟨z,r⟩=>⟨by rw [aW hb];exact z,r⟩
  have I2:=I1.turned2 (h':=h2) (t':=tk + 1) (e:=e) (it:=it) (Heap.get?_push_of_some _ he) rfl ⟨_,en2⟩ (λb o hbe hbi q=>?_) (up e en fe) (up it inn fi)
  ·refine ⟨.ref s.heap.objs.size,_,I2,rfl,⟨_,rfl,fresh,_,rfl,λys hy=>?_⟩,⟨⟨_,by simpa using en2⟩,?_⟩,λb hb=>?_⟩
   ·rw [S.one X hK pins s σ H ys xs I hy hq]
    exact List.getElem?_eq_getElem hx
   ·refine hts _ _ (D.frame _ _ _ st' λb hb o q=>?_)
    rw [sb2.2 b λz=>?_]
    ·exact q
    ·subst z
     simp only [List.mem_cons,List.not_mem_nil,or_false] at hb
     exact hb.elim hei hea
   ·rcases List.mem_cons.mp hb with rfl|hb
    ·exact (up b en fe).1
    ·have z:b=it:=by simpa using hb
     subst z
     exact (up b inn fi).1
  ·rw [sb2.2 b hbe]
   rcases Heap.get?_push_cases q with ⟨rfl,rfl⟩|q
   ·exact tup
   ·exact kp b o hbe hbi q
 done:=by
  intro X hP hw hK hc i pins s σ H E I hf st hg
  obtain ⟨⟨old,he⟩,hr⟩:=st
  obtain ⟨xs,hq,hi⟩:=hg
  obtain ⟨its,rv,dr⟩:=S.row X hP hw hK pins s σ H xs I hq
  have hh:X.A.handled=none:=I.ok.hd hc
  obtain ⟨St,D,hst,hts⟩:=dr X.A.in1 (by simpa using hh)
  have hl:=rv.length
  obtain ⟨f0,f1,f2,f3,f4,f5⟩:=hf it (.tail _ (.head _))
  have e:i=its.length:=by omega
  subst e
  exact wpAny_pyNext_enum_endD D he (hst _ hr) λh' eb=>⟨rfl,I.turned (t':=s.toks) (λb o hb q=>eb b o hb q) f0 f1 f3 f4 f5⟩
 self:=λ_ i s Q E ⟨⟨old,he⟩,_⟩ h=>wpAny_pyIter_enum he h
theorem uH {P:Program}{w:World}{K:PySem.W.Frag}{a it:Addr} (ne:a ≠ it):Src P w K a it (λH xs=>SqL K H a xs) (λi h=>h.IsListIter it a i) where
 ne:=ne
 keep:=λi h h' ⟨o,ho,r⟩ k=>⟨o,k o ho,r⟩
 live:=λi h ⟨o,ho,_,hd⟩=>⟨o,ho,λv z=>by rw [hd] at z;cases z⟩
 one:=λX hK pins s σ H xs ys I h h'=>by subst hK;exact I.list_inj h h'
 row:=λX hP hw hK pins s σ H xs I h=>by
  subst hP hw hK
  obtain ⟨its,rv,p,_⟩:=I.list h
  refine ⟨its,rv,λA hA=>⟨λi h=>h.IsListIter it a i/\h.IsList a its.toArray,?_,λi st=>⟨st,p.isList⟩,λi h' st=>st.1⟩⟩
  simpa using Draws.list (prog:=X.prog) (w:=X.w) hA it a ne its.toArray
theorem w_ {P:Program}{w:World}{K:PySem.W.Frag}{a it:Addr} (ne:a ≠ it):Src P w K a it (λH xs=>SqT K H a xs) (λi h=>h.IsTupleIter it a i) where
 ne:=ne
 keep:=λi h h' ⟨o,ho,r⟩ k=>⟨o,k o ho,r⟩
 live:=λi h ⟨o,ho,_,hd⟩=>⟨o,ho,λv z=>by rw [hd] at z;cases z⟩
 one:=λX hK pins s σ H xs ys I h h'=>by subst hK;exact I.tuple_inj h h'
 row:=λX hP hw hK pins s σ H xs I h=>by
  subst hP hw hK
  obtain ⟨its,rv,p,_⟩:=I.tuple h
  refine ⟨its,rv,λA hA=>⟨λi h=>h.IsTupleIter it a i/\h.IsTuple a its.toArray,?_,λi st=>⟨st,(show s.heap.IsTuple a its.toArray from p)⟩,λi h' st=>st.1⟩⟩
  simpa using En.draws (P:=X.prog) (w:=X.w) hA it a ne its.toArray
noncomputable def C5 (K:PySem.W.Frag) (tl:TE):TI:=λσ H R=>tl σ H λx H1=>∃ a,x=.ref a/\(((∃ xs,SqL K H1 a xs)/\R (Ite λH xs=>SqL K H a xs) H1) \/ ((∃ xs,SqT K H1 a xs)/\R (Ite λH xs=>SqT K H a xs) H1))
theorem oC {X:Cx}{pins:List (Addr × Obj)}{σ:St}{H:Hp}{s:Shared}{E:Value->Shared->Prop}{h':Heap}{ts:List Expr}{j:Nat}{tp:Pos}{a:Addr}{q:Hp->List V->Prop}{r:Nat->Heap->Prop}{R:It->Hp->Prop} (I:Inv X pins σ H s) (la:a < s.heap.objs.size)
  (S:Src X.prog X.w X.K a s.heap.objs.size q r) (en:IsEnum h' (s.heap.objs.size + 1) s.heap.objs.size 0 .none) (hr:r 0 h') (k:∀ b o,s.heap.get? b=some o->h'.get? b=some o) (hR:R (Ite q) H) :
  wpAny (model X.prog X.w) X.A (pyIter (.ref (s.heap.objs.size + 1))) (PIE X pins σ (.Tuple ts j tp) R) E { s with heap:=h' }:=by
 have I1:Inv X pins σ H { s with heap:=h' }:=I.kept (t':=s.toks) k
 refine wpAny_pyIter_enum (s:={ s with heap:=h' }) en ⟨s.heap.objs.size + 1,[s.heap.objs.size + 1,s.heap.objs.size],_,_,H,rfl,I1,uG S (Nat.succ_ne_self _) (Nat.ne_of_gt (Nat.lt_succ_of_lt la)),⟨⟨_,en⟩,hr⟩,λb hb=>?_,hR⟩
 have hb:s.heap.objs.size <= b:=by
  simp only [List.mem_cons,List.not_mem_nil,or_false] at hb
  rcases hb with rfl|rfl
  ·exact Nat.le_succ _
  ·exact Nat.le_refl _
 exact I.fpOk hb (I.hok.fresh hb)
theorem uI {X:Cx}{ts:List Expr}{j:Nat}{tp:Pos}{l:Expr}{tl:TE}{p pos:Pos} (hg:Gl X "enumerate") (hm:X.mg "enumerate"=none) (hl:PE X l tl) (hs:starEach [l] X.env=[(false,eval l X.env)]:=by rfl) :
  PI X (.Tuple ts j tp) (.Call (.Name "enumerate" p) [l] [] pos) (C5 X.K tl):=by
 intro pins s σ H R I h
 refine Call_ (fG I hg hm PyProof.Rows.boot_enumerate (PyProof.Rows.callWith_type1 (thn (aX hl bI hs pos pins s σ H (λvs H1=>match vs with
  | [x]=>∃ a,x=.ref a/\(((∃ xs,SqL X.K H1 a xs)/\R (Ite λH xs=>SqL X.K H a xs) H1) \/ ((∃ xs,SqT X.K H1 a xs)/\R (Ite λH xs=>SqT X.K H a xs) H1))
  | _=>False) I h) λus s1 ⟨vs,H1,I1,r1,q1⟩=>?_) hs rfl))
 cases r1 with
 | nil=>exact q1.elim
 | cons r rr =>
  cases rr with
  | cons _ _=>exact q1.elim
  | nil =>
   obtain ⟨a,e,q⟩:=q1
   subst e
   cases r
   rcases q with ⟨⟨xs,hq⟩,q⟩|⟨⟨xs,hq⟩,q⟩
   ·obtain ⟨its,_,pl,_⟩:=I1.list hq
    have la:a < s1.heap.objs.size:=let ⟨o,ho,_⟩:=pl.isList;Heap.lt_size ho
    exact call_enumerate_list pl.isList λh' en it _ k=>oC I1 la (uH (Nat.ne_of_lt la)) en it k q
   ·obtain ⟨its,_,pt,_⟩:=I1.tuple hq
    have pt:s1.heap.IsTuple a its.toArray:=pt
    have la:a < s1.heap.objs.size:=let ⟨o,ho,_⟩:=pt;Heap.lt_size ho
    exact En.call_tup pt λh' en it _ k=>oC I1 la (w_ (Nat.ne_of_lt la)) en it k q
end L2
namespace MM
open PySem PySem.Spec PyProof.Rows L2
structure oD (K:PySem.W.Frag) (J:It) (xs:List PV) (V G:Hp):Prop where
 stop:∀ H',af G H'->J.stop xs.length H'
 go:∀ (i:Nat) x H',af G H'->xs[i]?=some x->J.go i H'
 yld:∀ (i:Nat) x H' u H2,af G H'->xs[i]?=some x->J.yld i H' u H2->af H' H2/\∀ O',(∀ a ∈ O',H' a ≠ none)->af V (ax H2 O')->Rep K (ax H2 O') x u
theorem oD.weak {K:PySem.W.Frag}{J:It}{xs:List PV}{V G G':Hp} (h:oD K J xs V G) (s:af G G'):oD K J xs V G' :=
 ⟨λH' s'=>h.stop H' (s.trans s'),λi x H' s'=>h.go i x H' (s.trans s'),λi x H' u H2 s'=>h.yld i x H' u H2 (s.trans s')⟩
noncomputable def aL (ms:List ME) (ρ:Rho) (σ:St):List Addr:=match ms with
 | [.bor i]=>(match (ρ[i]?).join,(σ[i]?).join with|some (.own _),some (.ref a)=>[a]|_,_=>[])
 | _=>[]
noncomputable def bv (B:Hp) (O:List Addr) (H:Hp) (L:List Addr):Hp:=λb=>if b ∈ O then (if b ∈ L then H b else B b) else H b
section
variable {K:PySem.W.Frag}{B H:Hp}{O L:List Addr}
theorem oE (s:af B H):af (bv B O H L) H:=λb u e=>by
 unfold bv at e
 split at e
 ·split at e
  ·exact e
  ·exact s b u e
 ·exact e
theorem fU (s:af B H):af B (bv B O H L):=λb u e=>by
 unfold bv
 split
 ·split
  ·exact s b u e
  ·exact e
 ·exact s b u e
theorem bB:af (ax H O) (bv B O H L):=λb u e=>by
 have hb:b ∉ O:=λz=>by rw [mZ z] at e;cases e
 unfold bv
 rw [if_neg hb]
 rw [bJ hb] at e
 exact e
end
theorem jP {K:PySem.W.Frag}{V G:Hp}{a:Addr}{xs:List PV}{us:List L2.V} (h:SqL K G a us) (r:Reps K V xs us):oD K (Itl K a) xs V G where
 stop:=λH' s=>⟨us,s.seq h,Nat.le_of_eq r.length.symm⟩
 go:=λi x H' s e=>by
  obtain ⟨u,e1,_⟩:=r.get e
  exact ⟨us,u,s.seq h,e1⟩
 yld:=λi x H' u H2 s e y=>by
  obtain ⟨rfl,y⟩:=y
  obtain ⟨w,e1,q⟩:=r.get e
  have e2:=y us (s.seq h)
  rw [e1] at e2
  cases e2
  exact ⟨af.refl _,λO' _ sv=>Rep.mono sv _ q⟩
theorem uJ {K:PySem.W.Frag}{V G:Hp}{a:Addr}{xs:List PV}{us:List L2.V} (h:SqT K G a us) (r:Reps K V xs us):oD K (Itt K a) xs V G where
 stop:=λH' s=>⟨us,s.seqT h,Nat.le_of_eq r.length.symm⟩
 go:=λi x H' s e=>by
  obtain ⟨u,e1,_⟩:=r.get e
  exact ⟨us,u,s.seqT h,e1⟩
 yld:=λi x H' u H2 s e y=>by
  obtain ⟨rfl,y⟩:=y
  obtain ⟨w,e1,q⟩:=r.get e
  have e2:=y us (s.seqT h)
  rw [e1] at e2
  cases e2
  exact ⟨af.refl _,λO' _ sv=>Rep.mono sv _ q⟩
theorem oF {K:PySem.W.Frag}{V G:Hp}{lo:Int}{n:Nat}:oD K (Itr lo n) ((List.range n).map λ(k:Nat)=>.int (lo + k)) V G where
 stop:=λH' s=>by simp [Itr]
 go:=λi x H' s e=>by
  have:=(List.getElem?_eq_some_iff.mp e).1
  simpa [Itr] using this
 yld:=λi x H' u H2 s e y=>by
  obtain ⟨rfl,rfl⟩:=y
  refine ⟨af.refl _,λO' _ sv=>?_⟩
  have hi:i < n:=by have:=(List.getElem?_eq_some_iff.mp e).1;simpa using this
  rw [List.getElem?_map,List.getElem?_range hi] at e
  cases e
  rw [Rep]
theorem zC {K:PySem.W.Frag}{H:Hp}{O:List Addr}{p:Addr}{xs:List PV}{us:List V} (hO:∀ a ∈ O,H a ≠ none) (hp:H p=none) (h:Reps K (ax (upd H p (.tup us)) O) xs us):Rep K (ax (upd H p (.tup us)) O) (.tup xs) (.ref p):=by
 rw [Rep]
 refine ⟨p,us,rfl,?_,h⟩
 rw [bJ λz=>hO p z hp]
 exact ay ..
theorem qC:∀ (xs:List PV) (k i:Nat),(bC k xs)[i]?=(xs[i]?).map λx=>.tup [.int ((k + i:Nat):Int),x]
 | [],k,i=>by simp [bC]
 | x::xs,k,0=>by simp [bC]
 | x::xs,k,i + 1=>by
  rw [bC,List.getElem?_cons_succ,List.getElem?_cons_succ,qC xs (k + 1) i,show k + 1 + i=k + (i + 1) by omega]
theorem kH:∀ (xs:List PV) (k:Nat),(bC k xs).length=xs.length
 | [],_=>rfl
 | x::xs,k=>by rw [bC,List.length_cons,List.length_cons,kH xs]
theorem jc {K:PySem.W.Frag}{V G:Hp}{q:Hp->List L2.V->Prop}{xs:List PV}{us:List L2.V} (h:∀ H',af G H'->q H' us) (r:Reps K V xs us):oD K (Ite q) (bC 0 xs) V G where
 stop:=λH' s=>⟨us,h H' s,by rw [kH];exact r.length⟩
 go:=λi x H' s e=>by
  refine ⟨us,h H' s,?_⟩
  have:=(List.getElem?_eq_some_iff.mp e).1
  rw [kH] at this
  rw [<- r.length]
  exact this
 yld:=λi x H' u H2 s e y=>by
  obtain ⟨p,rfl,hp,v,rfl,y⟩:=y
  rw [qC] at e
  obtain ⟨z,e1,rfl⟩:=Option.map_eq_some_iff.mp e
  obtain ⟨w,e2,rz⟩:=r.get e1
  have e3:=y us (h H' s)
  rw [e2] at e3
  cases e3
  refine ⟨ah hp _,λO' hO sv=>?_⟩
  rw [Nat.zero_add]
  refine zC hO hp (.cons (cr _ _) (.cons (Rep.mono sv _ rz) .nil))
noncomputable def tW (K:PySem.W.Frag) (cal:Cal) (k:Sk) (ms:List ME):TI:=λσ H R =>
 ∃ B O₀ O ρ vs xs,aJ K B O₀ O H ρ σ/\evs cal ms ρ=some vs/\cj k vs=some xs/\∀ J H1,af H H1->oD K J xs (ax H1 O) (bv B O H1 (aL ms ρ σ))->R J H1
section
variable {X:Cx}{cal:Cal}{tg:Expr}
theorem PI.or {e:Expr}{t u:TI} (h:PI X tg e t) (g:PI X tg e u):PI X tg e (λσ H R=>t σ H R \/ u σ H R):=λpins s σ H R I q=>q.elim (h pins s σ H R I) (g pins s σ H R I)
theorem nc:∀ {ms:List ME}{ρ:Rho}{vs:List PV},evs cal ms ρ=some vs->vs.length=ms.length
 | [],_,_,h=>by simp [evs] at h;subst h;rfl
 | m::ms,_,_,h=>by
  simp only [evs,Option.bind_eq_some_iff,Option.map_eq_some_iff] at h
  obtain ⟨v,_,w,e2,rfl⟩:=h
  simp [nc e2]
theorem lv {m:ME}{ρ:Rho}{vs:List PV} (h:evs cal [m] ρ=some vs):∃ v,vs=[v]/\ev cal m ρ=some v:=by
 simp only [evs,Option.bind_eq_some_iff,Option.map_eq_some_iff] at h
 obtain ⟨v,e,w,e2,rfl⟩:=h
 cases e2
 exact ⟨v,rfl,e⟩
theorem ng {K:PySem.W.Frag}{F:Hp}{v:PV}{u:L2.V}{xs:List PV} (h:Rep K F v u) (e:aO v=some xs):∃ a us,u=.ref a/\Reps K F xs us/\((v=.lst xs/\SqL K F a us) \/ (v=.tup xs/\SqT K F a us)):=by
 cases v with
 | lst ys=>simp [aO] at e;subst e;rw [Rep] at h;obtain ⟨a,us,e,q,r⟩:=h;exact ⟨a,us,e,r,.inl ⟨rfl,q⟩⟩
 | tup ys=>simp [aO] at e;subst e;rw [Rep] at h;obtain ⟨a,us,e,q,r⟩:=h;exact ⟨a,us,e,r,.inr ⟨rfl,SqT.of q⟩⟩
 | _=>simp [aO] at e
theorem Bz {m:ME}{e:Expr} (hb:aD m=false) (h:PE X e (tE X.K cal m)):PI X tg e (tW X.K cal .seq [m]):=by
 refine (PI.or (p7 h) (sQ h)).imp λσ H R q=>?_
 obtain ⟨B,O₀,O,ρ,vs,xs,st,e1,e2,q⟩:=q
 obtain ⟨v,rfl,e3⟩:=lv e1
 have e4:aO v=some xs:=e2
 have hl:aL [m] ρ σ=[]:=by cases m <;> first|rfl|cases hb
 rw [hl] at q
 cases v with
 | lst ys =>
  simp [aO] at e4;subst e4
  refine .inl ⟨B,O₀,O,ρ,_,st,e3,λu H' s g=>?_⟩
  have r:=g.2 hb
  rw [Rep] at r
  obtain ⟨a,us,rfl,sq,rs⟩:=r
  exact ⟨a,rfl,⟨us,(aY H' O).seq sq⟩,q _ _ s (jP (bB.seq sq) rs)⟩
 | tup ys =>
  simp [aO] at e4;subst e4
  refine .inr ⟨B,O₀,O,ρ,_,st,e3,λu H' s g=>?_⟩
  have r:=g.2 hb
  rw [Rep] at r
  obtain ⟨a,us,rfl,sq,rs⟩:=r
  exact ⟨a,rfl,⟨us,(aY H' O).seqT (SqT.of sq)⟩,q _ _ s (uJ (bB.seqT (SqT.of sq)) rs)⟩
 | _=>simp [aO] at e4
theorem BA {i:Nat}{x:Str}{pos:Pos} (h:a8 X.N X.env.scope i x=true):PI X tg (.Name x pos) (tW X.K cal .seq [.bor i]):=by
 refine (PI.or (p7 (c7 h)) (sQ (c7 h))).imp λσ H R q=>?_
 obtain ⟨B,O₀,O,ρ,vs,xs,st,e1,e2,q⟩:=q
 obtain ⟨v,rfl,e3⟩:=lv e1
 have e4:aO v=some xs:=e2
 rw [ev] at e3
 cases hj:(ρ[i]?).join with
 | none=>rw [hj] at e3;cases e3
 | some m =>
  rw [hj] at e3
  obtain ⟨u,eu,so⟩:=cs st hj
  cases m with
  | val w =>
   simp only [bg,Option.some.injEq] at e3
   subst e3
   have so':Rep X.K (ax H O) w u:=so
   obtain ⟨a,us,rfl,rs,z⟩:=ng so' e4
   rcases z with ⟨rfl,sq⟩|⟨rfl,sq⟩
   ·exact .inl ⟨_,eu,a,rfl,⟨us,(aY H O).seq sq⟩,q _ _ (af.refl H) (jP (bB.seq sq) rs)⟩
   ·exact .inr ⟨_,eu,a,rfl,⟨us,(aY H O).seqT sq⟩,q _ _ (af.refl H) (uJ (bB.seqT sq) rs)⟩
  | own ys =>
   simp only [bg,Option.some.injEq] at e3
   subst e3
   simp [aO] at e4;subst e4
   obtain ⟨a,us,rfl,ha,rs,hO,_⟩:=so
   refine .inl ⟨_,eu,a,rfl,⟨us,SqL.of ha⟩,q _ _ (af.refl H) (jP (SqL.of ?_) rs)⟩
   have hl:aL [.bor i] ρ σ=[a]:=by simp [aL,hj,eu]
   unfold bv
   rw [hl,if_pos hO,if_pos (by simp)]
   exact ha
  | brw ys =>
   simp only [bg,Option.some.injEq] at e3
   subst e3
   simp [aO] at e4;subst e4
   obtain ⟨a,us,rfl,sq,rs⟩:=so
   exact .inl ⟨_,eu,a,rfl,⟨us,st.keep.seq sq⟩,q _ _ (af.refl H) (jP ((fU st.keep).seq sq) rs)⟩
  | ownD ys =>
   simp only [bg,Option.some.injEq] at e3
   subst e3
   simp [aO] at e4
  | brwD ys =>
   simp only [bg,Option.some.injEq] at e3
   subst e3
   simp [aO] at e4
theorem BB {m:ME}{e:Expr}{f:Str}{ts:List Expr}{j:Nat}{tp p pos:Pos}{T:Tab}{k:Nat} (g:Gf X T k cal) (hf:f=("enumerate":Str)) (hg:glB X.env.scope f=true) (hs:ag e=true) (hb:aD m=false) (h:PE X e (tE X.K cal m)):PI X (.Tuple ts j tp) (.Call (.Name f p) [e] [] pos) (tW X.K cal .enm [m]):=by
 subst hf
 have star:starEach [e] X.env=[(false,eval e X.env)]:=by cases e <;> first|rfl|(simp [ag] at hs)
 refine (uI (dg hg) (g.blt "enumerate" (by decide)) h star).imp λσ H R q=>?_
 obtain ⟨B,O₀,O,ρ,vs,xs,st,e1,e2,q⟩:=q
 obtain ⟨v,rfl,e3⟩:=lv e1
 have hl:aL [m] ρ σ=[]:=by cases m <;> first|rfl|cases hb
 rw [hl] at q
 simp only [cj,Option.map_eq_some_iff] at e2
 obtain ⟨ys,e4,rfl⟩:=e2
 refine ⟨B,O₀,O,ρ,_,st,e3,λu H' s g=>?_⟩
 obtain ⟨a,us,rfl,rs,z⟩:=ng (g.2 hb) e4
 rcases z with ⟨_,sq⟩|⟨_,sq⟩
 ·exact ⟨a,rfl,.inl ⟨⟨us,(aY H' O).seq sq⟩,q _ _ s (jc (λH2 s2=>s2.seq (bB.seq sq)) rs)⟩⟩
 ·exact ⟨a,rfl,.inr ⟨⟨us,(aY H' O).seqT sq⟩,q _ _ s (jc (λH2 s2=>s2.seqT (bB.seqT sq)) rs)⟩⟩
theorem zD {i:Nat}{x:Str}{px:Pos}{f:Str}{ts:List Expr}{j:Nat}{tp p pos:Pos}{T:Tab}{k:Nat} (g:Gf X T k cal) (hf:f=("enumerate":Str)) (hg:glB X.env.scope f=true) (h:a8 X.N X.env.scope i x=true):PI X (.Tuple ts j tp) (.Call (.Name f p) [.Name x px] [] pos) (tW X.K cal .enm [.bor i]):=by
 subst hf
 refine (uI (dg hg) (g.blt "enumerate" (by decide)) (c7 h) rfl).imp λσ H R q=>?_
 obtain ⟨B,O₀,O,ρ,vs,xs,st,e1,e2,q⟩:=q
 obtain ⟨v,rfl,e3⟩:=lv e1
 simp only [cj,Option.map_eq_some_iff] at e2
 obtain ⟨zs,e4,rfl⟩:=e2
 rw [ev] at e3
 cases hj:(ρ[i]?).join with
 | none=>rw [hj] at e3;cases e3
 | some m =>
  rw [hj] at e3
  obtain ⟨u,eu,so⟩:=cs st hj
  cases m with
  | val w =>
   simp only [bg,Option.some.injEq] at e3
   subst e3
   have so':Rep X.K (ax H O) w u:=so
   obtain ⟨a,us,rfl,rs,z⟩:=ng so' e4
   rcases z with ⟨rfl,sq⟩|⟨rfl,sq⟩
   ·exact ⟨_,eu,a,rfl,.inl ⟨⟨us,(aY H O).seq sq⟩,q _ _ (af.refl H) (jc (λH2 s2=>s2.seq (bB.seq sq)) rs)⟩⟩
   ·exact ⟨_,eu,a,rfl,.inr ⟨⟨us,(aY H O).seqT sq⟩,q _ _ (af.refl H) (jc (λH2 s2=>s2.seqT (bB.seqT sq)) rs)⟩⟩
  | own ys =>
   simp only [bg,Option.some.injEq] at e3
   subst e3
   simp [aO] at e4;subst e4
   obtain ⟨a,us,rfl,ha,rs,hO,_⟩:=so
   have hl:aL [.bor i] ρ σ=[a]:=by simp [aL,hj,eu]
   have hG:bv B O H (aL [.bor i] ρ σ) a=some (.lst us):=by
    unfold bv
    rw [hl,if_pos hO,if_pos (by simp)]
    exact ha
   exact ⟨_,eu,a,rfl,.inl ⟨⟨us,SqL.of ha⟩,q _ _ (af.refl H) (jc (λH2 s2=>s2.seq (SqL.of hG)) rs)⟩⟩
  | brw ys =>
   simp only [bg,Option.some.injEq] at e3
   subst e3
   simp [aO] at e4;subst e4
   obtain ⟨a,us,rfl,sq,rs⟩:=so
   exact ⟨_,eu,a,rfl,.inl ⟨⟨us,st.keep.seq sq⟩,q _ _ (af.refl H) (jc (λH2 s2=>s2.seq ((fU st.keep).seq sq)) rs)⟩⟩
  | ownD ys =>
   simp only [bg,Option.some.injEq] at e3
   subst e3
   simp [aO] at e4
  | brwD ys =>
   simp only [bg,Option.some.injEq] at e3
   subst e3
   simp [aO] at e4
theorem xa {T:Tab}{k:Nat}{ms:List ME}{args:List Expr}{f:Str}{p pos:Pos} (g:Gf X T k cal) (hf:f=("range":Str)) (hg:glB X.env.scope f=true) (ha:PA X args (tEs X.K cal ms)) (hn:args.length=1 \/ args.length=2) (hs:args.all ag=true) (hm:ms.length=args.length) :
  PI X tg (.Call (.Name f p) args [] pos) (tW X.K cal .rng ms):=by
 subst hf
 have star:∀ e,ag e=true->∀ es env,starEach (e::es) env=(false,eval e env)::starEach es env:=λe he es env=>by
  cases e <;> first|rfl|(simp [ag] at he)
 match args,hn with
 | [a],_ =>
  simp only [List.all_cons,List.all_nil,Bool.and_true] at hs
  refine (rl (dg hg) (g.blt "range" (by decide)) ha (by rw [star a hs];rfl)).imp λσ H R q=>?_
  obtain ⟨B,O₀,O,ρ,vs,xs,st,e1,e2,q⟩:=q
  refine ⟨B,O₀,O,ρ,vs,st,e1,λus H' s gs=>?_⟩
  match vs,e2,gs with
  | [.int j],e2,gs =>
   simp only [cj] at e2
   split at e2
   ·rename_i c
    cases e2
    obtain ⟨u,rfl,ru⟩:=p1 gs.1
    have e3:=ru.int
    subst e3
    exact ⟨j,rfl,c.1,c.2,q _ _ s oF⟩
   ·cases e2
  | [.int j,.int j'],e2,gs =>
   have:=nc e1
   simp at this hm
   omega
 | [a,b],_ =>
  simp only [List.all_cons,List.all_nil,Bool.and_true,Bool.and_eq_true] at hs
  refine (rm (dg hg) (g.blt "range" (by decide)) ha (by rw [star a hs.1,star b hs.2];rfl) (by rw [star b hs.2];rfl)).imp λσ H R q=>?_
  obtain ⟨B,O₀,O,ρ,vs,xs,st,e1,e2,q⟩:=q
  refine ⟨B,O₀,O,ρ,vs,st,e1,λus H' s gs=>?_⟩
  match vs,e2,gs with
  | [.int i,.int j],e2,gs =>
   simp only [cj] at e2
   split at e2
   ·rename_i c
    cases e2
    obtain ⟨u,u',rfl,ru,ru'⟩:=p2 gs.1
    have e3:=ru.int
    have e4:=ru'.int
    subst e3 e4
    exact ⟨i,j,rfl,c,q _ _ s oF⟩
   ·cases e2
  | [.int j],e2,gs =>
   have:=nc e1
   simp at this hm
   omega
end
end MM
namespace MM
open PySem PySem.Spec PyProof.Rows L2
noncomputable def tF (K:PySem.W.Frag) (cal:Cal) (me:ME):TE:=λσ H Q=>∃ B O₀ O ρ xs,aJ K B O₀ O H ρ σ/\ev cal me ρ=some (.lst xs) /\
 ∀ p us H',af H H'->H p=none->H' p=some (.lst us)->Reps K (ax H' (p::O)) xs us->Q (.ref p) H'
theorem nh {H:Hp}{O:List Addr}{p:Addr}:af (ax H (p::O)) (ax H O):=bt (af.refl H) λb hb=>.inl (List.mem_cons_of_mem _ hb)
theorem iL {H:Hp}{O:List Addr}{p:Addr}{o:HO} (h:p ∈ O):ax (upd H p o) O=ax H O:=by
 funext b
 unfold ax
 split
 ·rfl
 ·rename_i hb
  exact aW λz=>hb (by rw [z];exact h)
theorem qD {K:PySem.W.Frag}{H H':Hp}{O:List Addr}{me:ME}{xs:List PV}{p:Addr}{us:List V} (hO:∀ a ∈ O,H a ≠ none) (hp:H p=none) (e:H' p=some (.lst us)) (r:Reps K (ax H' (p::O)) xs us):Got K H' O me (.lst xs) (.ref p):=by
 refine .of ?_
 rw [Rep]
 refine ⟨p,us,rfl,SqL.of ?_,Reps.mono nh _ r⟩
 rw [bJ λz=>hO p z hp]
 exact e
section
variable {X:Cx}{T:Tab}{k:Nat}{cal:Cal}
theorem cT {e:Expr}{me:ME} (hf:∀ ρ v,ev cal me ρ=some v->∃ xs,v=.lst xs) (h:PE X e (tF X.K cal me)):PE X e (tE X.K cal me):=by
 refine h.imp λσ H Q q=>?_
 obtain ⟨B,O₀,O,ρ,v,st,e1,q⟩:=q
 obtain ⟨xs,rfl⟩:=hf ρ v e1
 exact ⟨B,O₀,O,ρ,xs,st,e1,λp us H' s hp he r=>q _ _ s (qD st.here hp he r)⟩
theorem Gf.blk (g:Gf X T k cal) (x:Str) (fvs:List Str) (scope:Scope) (s₁:Shared) (H₁:Hp) (C:Addr) (fp:List Addr):Gf (X.blk x fvs scope s₁ H₁ C fp) T k cal:={ g with }
theorem l6 {osc:Scope}{N:List Str}{scope:Scope}{x:Str}{fvs:List Str}{js:List Nat} (h:dZ osc N scope x fvs js=true):mI osc N scope x fvs js:=by
 unfold dZ at h
 simp only [Bool.and_eq_true,beq_iff_eq,decide_eq_true_eq] at h
 obtain ⟨⟨⟨⟨⟨⟨⟨⟨h1,h2⟩,h3⟩,h4⟩,h5⟩,h6⟩,h7⟩,h8⟩,h9⟩:=h
 exact ⟨h1,h2,h3,h4,h5,h6,h7,h8,h9⟩
theorem zE {K:PySem.W.Frag}{B H H1 H2:Hp}{O₀ O:List Addr}{ρ:Rho}{σ σ':St}{js:List Nat}{D:Addr}{x:PV}{ux:V} (st:aJ K B O₀ O H ρ σ) (s1:af H H1) (s2:af H1 H2) (hD:H1 D=none) (hD2:H2 D ≠ none)
  (hσ:∀ z,σ'.set 0 z=(gC js σ).set 0 z) (hl:0 < σ'.length) (hx:Rep K (ax H2 (D::O)) x ux):aJ K H1 [] (D::O) H2 (cA js ρ x) (σ'.set 0 (some ux)):=by
 have hv:af (ax H O) (ax H2 (D::O)):=bt (s1.trans s2) λb hb=>by
  rcases List.mem_cons.mp hb with rfl|hb
  ·exact .inr (s1.free hD)
  ·exact .inl hb
 rw [hσ]
 have noown:∀ (i:Nat) (m:MV),iE m=true->(cA js ρ x)[i]? ≠ some (some m):=λi m hm e=>by
  unfold cA at e
  cases i with
  | zero =>
   simp at e
   subst e
   cases hm
  | succ i =>
   simp only [List.getElem?_cons_succ,List.getElem?_map,Option.map_eq_some_iff] at e
   obtain ⟨j,_,e⟩:=e
   cases hj:(ρ[j]?).join with
   | none=>rw [hj] at e;cases e
   | some mm =>
    rw [hj] at e
    cases mm <;> first|(simp [eO] at e;done)|(simp only [eO,Option.some.injEq] at e;subst e;cases hm)
 refine ⟨s2,λa ha=>?_,λa ha=>by simp at ha,λa ha=>by simp at ha,?_,λi m e=>?_,λi j m m' a _ e _ hm=>absurd e (noown i m hm)
  ⟩
 ·rcases List.mem_cons.mp ha with rfl|ha
  ·exact hD2
  ·exact λe=>st.here a ha ((s1.trans s2).free e)
 ·simp [cA,gC]
 ·cases i with
  | zero =>
   simp only [cA,List.getElem?_cons_zero,Option.some.injEq] at e
   subst e
   exact ⟨ux,by simp [gC],hx⟩
  | succ i =>
   simp only [cA,List.getElem?_cons_succ,List.getElem?_map,Option.map_eq_some_iff] at e
   obtain ⟨j,ej,e⟩:=e
   cases hj:(ρ[j]?).join with
   | none=>rw [hj] at e;cases e
   | some mm =>
    rw [hj] at e
    obtain ⟨u,eu,so⟩:=cs st hj
    have eσ:((gC js σ).set 0 (some ux))[i + 1]?=some (some u):=by
     simp [gC,ej,eu]
    refine ⟨u,eσ,?_⟩
    cases mm with
    | val w =>
     simp only [eO,Option.some.injEq] at e
     subst e
     exact Rep.mono hv _ so
    | own ys =>
     simp only [eO,Option.some.injEq] at e
     subst e
     obtain ⟨a,us,rfl,ha,rs,hO,_⟩:=so
     exact ⟨a,us,rfl,SqL.of (s1 _ _ ha),Reps.mono hv _ rs⟩
    | brw ys =>
     simp only [eO,Option.some.injEq] at e
     subst e
     obtain ⟨a,us,rfl,sq,rs⟩:=so
     exact ⟨a,us,rfl,(st.keep.trans s1).seq sq,Reps.mono hv _ rs⟩
    | ownD kvs =>
     simp only [eO,Option.some.injEq] at e
     subst e
     obtain ⟨a,rfl,ha,_⟩:=so
     exact ⟨a,rfl,.inl (s1 _ _ ha)⟩
    | brwD kvs =>
     simp only [eO,Option.some.injEq] at e
     subst e
     obtain ⟨a,rfl,ha⟩:=so
     exact ⟨a,rfl,af.rd (st.keep.trans s1) ha⟩
theorem pI {k':Sk}{ms:List ME}{js:List Nat}{cond elt:ME}{e it:Expr}{x:Str}{px:Pos}{ifs:List Expr}{scope:Scope}{pos:Pos} (g:Gf X T k cal) (hsc:dZ X.env.scope X.N scope x (bF X.N js) js=true)
  (hw:PI X (.Name x px) it (tW X.K cal k' ms)) (hns:ff it=true)
  (hc:∀ s₁ H₁ C fp,PF (X.blk x (bF X.N js) scope s₁ H₁ C fp) ifs (tT X.K cal cond)) (he:∀ s₁ H₁ C fp,PE (X.blk x (bF X.N js) scope s₁ H₁ C fp) e (tE X.K cal elt)) (hb:aD elt=false) :
  PE X (.ListComp e [⟨.Name x px,it,ifs,0⟩] scope pos) (tF X.K cal (.comp k' ms js cond elt)):=by
 refine (wH (l6 hsc) g.calm hw hc he (by intro v;cases it <;> first|rfl|(simp [ff] at hns))).imp λσ H Q q=>?_
 exact comp_go hb q
where
 comp_go {k':Sk}{ms:List ME}{js:List Nat}{cond elt:ME}{K:PySem.W.Frag}{σ:St}{H:Hp}{Q:VK} (hb:aD elt=false) (q:tF K cal (.comp k' ms js cond elt) σ H Q):tM (tW K cal k' ms) js (tT K cal cond) (tE K cal elt) σ H Q:=by
  obtain ⟨B,O₀,O,ρ,ws,st,e1,q⟩:=q
  rw [ev] at e1
  simp only [Option.bind_eq_some_iff] at e1
  obtain ⟨vs,e1,xs,e2,e3⟩:=e1
  split at e3
  ·rename_i hlen
   simp only [Option.map_eq_some_iff,PV.lst.injEq,exists_eq_right] at e3
   refine ⟨B,O₀,O,ρ,vs,xs,st,e1,e2,λJ H1 s1 it D hD=>?_⟩
   have hDO:D ∉ O:=λz=>bu s1 st.here D z hD
   have it1:=it.weak (oE (st.keep.trans s1))
   refine ⟨λi m σ' H'=>m=xs.length - i/\i <= xs.length/\af H1 H'/\(∀ z,σ'.set 0 z=(gC js σ).set 0 z)/\0 < σ'.length/\∃ done bb ys,eh (λx=>(ev cal cond (cA js ρ x)).bind aE) (λx=>ev cal elt (cA js ρ x)) (xs.drop i)=some bb/\ws=done ++ bb/\done.length <= i/\H' D=some (.lst ys)/\Reps K (ax H' (D::O)) done ys,⟨xs.length,by simp,Nat.zero_le _,ah hD _,λ_=>rfl,by simp [gC],[],ws,[],by simpa using e3,rfl,Nat.le_refl _,ay,.nil⟩,?_⟩
   rintro i m σ' H' ⟨rfl,hi,s2,hσ,hl,done,bb,ys,eg,ew,hdl,hDy,rs⟩
   by_cases hlt:i < xs.length
   ·right
    have ex:xs[i]?=some xs[i]:=List.getElem?_eq_getElem hlt
    refine ⟨it1.go i _ H' s2 ex,λσ2 H2=>∃ m',m' < xs.length - i/\(m'=xs.length - (i + 1)/\i + 1 <= xs.length/\af H1 H2/\(∀ z,σ2.set 0 z=(gC js σ).set 0 z)/\0 < σ2.length/\∃ done bb ys,eh (λx=>(ev cal cond (cA js ρ x)).bind aE) (λx=>ev cal elt (cA js ρ x)) (xs.drop (i + 1))=some bb/\ws=done ++ bb/\done.length <= i + 1/\H2 D=some (.lst ys)/\Reps K (ax H2 (D::O)) done ys),λσ2 H2 z=>z,λux H2 y=>?_⟩
    obtain ⟨s3,hr⟩:=it1.yld i _ H' ux H2 s2 ex y
    have sv:af (ax H1 O) (ax H2 (D::O)):=bt (s2.trans s3) λb hb=>by
     rcases List.mem_cons.mp hb with rfl|hb
     ·exact .inr hD
     ·exact .inl hb
    have hx:=hr (D::O) (λa ha=>by
     rcases List.mem_cons.mp ha with rfl|ha
     ·rw [hDy];simp
     ·exact λz=>bu s1 st.here a ha (s2.free z)) sv
    have hD2:H2 D=some (.lst ys):=s3 _ _ hDy
    have stb:=zE (js:=js) (ρ:=ρ) st s1 (s2.trans s3) hD (by rw [hD2];simp) hσ hl hx
    rw [List.drop_eq_getElem_cons hlt,eh] at eg
    simp only [Option.bind_eq_some_iff] at eg
    obtain ⟨b,eb,eg⟩:=eg
    refine ⟨H1,[],D::O,_,b,stb,by simpa [evB,Option.bind_eq_some_iff] using eb,λH3 s4=>?_⟩
    have hσ2:∀ z,(σ'.set 0 (some ux)).set 0 z=(gC js σ).set 0 z:=λz=>by rw [List.set_set];exact hσ z
    have hl2:0 < (σ'.set 0 (some ux)).length:=by rw [List.length_set];exact hl
    cases b with
    | false =>
     rw [if_neg (by simp)] at eg
     dsimp only
     rw [if_neg (by simp)]
     refine ⟨_,by omega,rfl,hlt,(s2.trans s3).trans s4,hσ2,hl2,done,bb,ys,eg,ew,by omega,s4 _ _ hD2,Reps.mono ?_ _ rs⟩
     exact (aA s3).trans (aA s4)
    | true =>
     rw [if_pos rfl] at eg
     dsimp only
     rw [if_pos rfl]
     simp only [Option.bind_eq_some_iff,Option.map_eq_some_iff] at eg
     obtain ⟨y',ey,rest',eg,rfl⟩:=eg
     refine ⟨H1,[],D::O,_,y',stb.mono s4,ey,λuy H4 s5 gy=>?_⟩
     have hD4:H4 D=some (.lst ys):=s5 _ _ (s4 _ _ hD2)
     have ry:=gy.2 hb
     have rs4:Reps K (ax H4 (D::O)) done ys:=Reps.mono (((aA s3).trans (aA s4)).trans (aA s5)) _ rs
     have hyl:ys.length <= 10000:=by rw [<- rs.length];omega
     refine ⟨ys,hD4,Nat.lt_of_le_of_lt hyl (by decide),_,by omega,rfl,hlt,?_,hσ2,hl2,done ++ [y'],rest',ys ++ [uy],eg,by simp [ew],by simp;omega,ay,?_⟩
     ·intro b u eb
      rw [aW (bx eb hD)]
      exact s5 _ _ (s4 _ _ ((s2.trans s3) _ _ eb))
     ·rw [iL (List.mem_cons_self)]
      exact rs4.snoc ry
   ·left
    have ei:i=xs.length:=by omega
    subst ei
    rw [List.drop_length,eh] at eg
    cases eg
    rw [List.append_nil] at ew
    subst ew
    exact ⟨it1.stop H' s2,q D ys H' (s1.trans s2) (s1.free hD) hDy rs⟩
  ·cases e3
end
end MM
namespace MM
open PySem PySem.Spec PyProof.Rows L2
section
variable {X:Cx}{T:Tab}{k:Nat}{cal:Cal}
theorem bj {e:Expr} (he:ag e=true) (es:List Expr) (env:Env):starEach (e::es) env=(false,eval e env)::starEach es env:=by
 cases e <;> first|rfl|(simp [ag] at he)
theorem cU {pos:Pos}{env:Env}:∀ {es:List Expr},es.all ag=true->(backTo pos (starEach es env)).any (·.1)=false
 | [],_=>rfl
 | e::es,h=>by
  simp only [List.all_cons,Bool.and_eq_true] at h
  rw [bj h.1]
  show (false || (backTo pos (starEach es env)).any (·.1))=false
  rw [cU h.2];rfl
theorem b6:∀ {ms:List ME}{N:List Str}{sc:Scope}{es:List Expr},chks T ms N sc es=true->es.all ag=true/\ms.length=es.length
 | [],_,_,[],_=>⟨rfl,rfl⟩
 | [],_,_,_::_,h=>by simp [chks] at h
 | _::_,_,_,[],h=>by simp [chks] at h
 | m::ms,N,sc,e::es,h=>by
  simp only [chks,Bool.and_eq_true] at h
  obtain ⟨h1,h2⟩:=b6 h.2
  exact ⟨by simp [h.1.2,h1],by simp [h2]⟩
theorem bm {e:Expr}{me:ME} (h:PE X e (tE X.K cal me)) (hp:ja e=true):PT X e (tT X.K cal me):=by
 refine (yx h (by intro w;cases e <;> first|rfl|(simp [ja] at hp;done)|(rename_i op _ _;cases op <;> first|rfl|(simp [ja] at hp)))).imp λσ H Q q=>?_
 obtain ⟨B,O₀,O,ρ,b,st,e1,q⟩:=q
 simp only [evB,Option.bind_eq_some_iff] at e1
 obtain ⟨v,e1,e2⟩:=e1
 refine ⟨B,O₀,O,ρ,v,st,e1,λu H' s g=>?_⟩
 cases v <;> simp [aE] at e2
 subst e2
 exact ⟨_,g.1.bl,q H' s⟩
theorem uK {m:ME}{ms:List ME}{e:Expr}{es:List Expr} (h:PE X e (tE X.K cal m)) (hs:PA X es (tEs X.K cal ms)) (hn:ag e=true):PA X (e::es) (tEs X.K cal (m::ms)):=by
 refine (aX h hs (bj hn es _)).imp λσ H Q q=>?_
 obtain ⟨B,O₀,O,ρ,vs,st,e1,q⟩:=q
 simp only [evs,Option.bind_eq_some_iff,Option.map_eq_some_iff] at e1
 obtain ⟨v,e1,ws,e2,rfl⟩:=e1
 refine ⟨B,O₀,O,ρ,v,st,e1,λu H1 s1 g1=>⟨B,O₀,O,ρ,ws,st.mono s1,e2,λus H2 s2 g2=>q (u::us) H2 (s1.trans s2) ⟨.cons (g1.1.mono s2) g2.1,λhb=>?_⟩⟩⟩
 simp only [List.all_cons,Bool.and_eq_true,Bool.not_eq_true'] at hb
 exact .cons ((g1.mono s2).2 hb.1) (g2.2 hb.2)
theorem xb:PA X [] (tEs X.K cal []):=by
 refine bI.imp λσ H Q q=>?_
 obtain ⟨B,O₀,O,ρ,vs,st,e1,q⟩:=q
 simp only [evs,Option.some.injEq] at e1
 subst e1
 exact q [] H (af.refl H) ⟨.nil,λ_=>.nil⟩
theorem uL:PA X [] (tAs X.K cal []):=by
 refine bI.imp λσ H Q q=>?_
 obtain ⟨B,O₀,O,ρ,vs,st,e1,q⟩:=q
 simp only [evA,Option.some.injEq] at e1
 subst e1
 exact q [] H (af.refl H) .nil
theorem uM {K:PySem.W.Frag}{H H':Hp}{O:List Addr} (s:af H H') {m:MV}{u:V} (h:kE K O H m u):kE K O H' m u:=by
 cases m with
 | val v=>exact Rep.mono (aA s) _ h
 | own _=>exact h
 | brw xs=>obtain ⟨a,us,e,q,r⟩:=h;exact ⟨a,us,e,s.seq q,Reps.mono (aA s) _ r⟩
 | ownD _=>exact h
 | brwD kvs=>obtain ⟨a,e,q⟩:=h;exact ⟨a,e,af.rd s q⟩
theorem sd {m:ME}{ms:List ME}{e:Expr}{es:List Expr} (hb:aD m=false) (h:PE X e (tE X.K cal m)) (hs:PA X es (tAs X.K cal ms)) (hn:ag e=true):PA X (e::es) (tAs X.K cal (m::ms)):=by
 refine (aX h hs (bj hn es _)).imp λσ H Q q=>?_
 obtain ⟨B,O₀,O,ρ,vs,st,e1,q⟩:=q
 have e1':(ev cal m ρ).bind (λv=>(evA cal ms ρ).map (MV.val v::·))=some vs:=by
  rw [<- e1]
  cases m <;> first|(cases hb;done)|(simp only [evA];done)|rfl
 simp only [Option.bind_eq_some_iff,Option.map_eq_some_iff] at e1'
 obtain ⟨v,e9,ws,e2,rfl⟩:=e1'
 exact ⟨B,O₀,O,ρ,v,st,e9,λu H1 s1 g1=>⟨B,O₀,O,ρ,ws,st.mono s1,e2,λus H2 s2 g2=>q (u::us) H2 (s1.trans s2) (.cons ((g1.mono s2).2 hb) g2)⟩⟩
theorem uN {i:Nat}{ms:List ME}{x:Str}{pos:Pos}{es:List Expr} (h:a8 X.N X.env.scope i x=true) (hs:PA X es (tAs X.K cal ms)):PA X (.Name x pos::es) (tAs X.K cal (.bor i::ms)):=by
 refine (aX (c7 h) hs rfl).imp λσ H Q q=>?_
 obtain ⟨B,O₀,O,ρ,vs,st,e1,q⟩:=q
 rw [evA] at e1
 simp only [Option.bind_eq_some_iff,Option.map_eq_some_iff] at e1
 obtain ⟨m',e1,ws,e2,rfl⟩:=e1
 cases hj:(ρ[i]?).join with
 | none=>rw [hj] at e1;cases e1
 | some m =>
  rw [hj] at e1
  obtain ⟨u,eu,so⟩:=cs st hj
  have ao:kE X.K O H m' u:=by
   cases m with
   | val w=>simp only [fR,Option.some.injEq] at e1;subst e1;exact so
   | own ys=>simp only [fR,Option.some.injEq] at e1;subst e1;obtain ⟨a,us,rfl,ha,rs,_⟩:=so;exact ⟨a,us,rfl,SqL.of ha,rs⟩
   | brw ys=>simp only [fR,Option.some.injEq] at e1;subst e1;obtain ⟨a,us,rfl,sq,rs⟩:=so;exact ⟨a,us,rfl,st.keep.seq sq,rs⟩
   | ownD kvs=>simp only [fR,Option.some.injEq] at e1;subst e1;obtain ⟨a,rfl,ha,_⟩:=so;exact ⟨a,rfl,.inl ha⟩
   | brwD kvs=>simp only [fR,Option.some.injEq] at e1;subst e1;obtain ⟨a,rfl,ha⟩:=so;exact ⟨a,rfl,af.rd st.keep ha⟩
  exact ⟨u,eu,⟨B,O₀,O,ρ,ws,st,e2,λus H2 s2 g2=>q (u::us) H2 s2 (.cons (uM s2 ao) g2)⟩⟩
theorem BC {op:Op2}{a b:ME}{l r:Expr}{pos:Pos} (ha:PE X l (tE X.K cal a)) (hb:PE X r (tE X.K cal b)):PE X (.BinOp l (wS op) r pos) (tE X.K cal (.bin op a b)):=by
 refine (xP (zv op) ha hb).imp λσ H Q q=>?_
 obtain ⟨B,O₀,O,ρ,v,st,e1,q⟩:=q
 rw [ev] at e1
 simp only [Option.bind_eq_some_iff] at e1
 obtain ⟨x,e1,y,e2,e3⟩:=e1
 exact ⟨B,O₀,O,ρ,x,st,e1,λux H1 s1 g1=>⟨B,O₀,O,ρ,y,st.mono s1,e2,λuy H2 s2 g2=>⟨O,x,y,v,bu (s1.trans s2) st.here,g1.1.mono s2,g2.1,e3,λu H3 s3 r=>q u H3 ((s1.trans s2).trans s3) (.of r)⟩⟩⟩
theorem BD {a:ME}{e:Expr}{pos:Pos} (ha:PE X e (tE X.K cal a)):PE X (.UnaryOp .Not e pos) (tE X.K cal (.not a)):=by
 refine (yC ha).imp λσ H Q q=>?_
 obtain ⟨B,O₀,O,ρ,v,st,e1,q⟩:=q
 rw [ev] at e1
 simp only [Option.bind_eq_some_iff,Option.map_eq_some_iff] at e1
 obtain ⟨b,⟨x,e1,e2⟩,rfl⟩:=e1
 cases x <;> simp only [aE,Option.some.injEq,reduceCtorEq] at e2
 subst e2
 exact ⟨B,O₀,O,ρ,_,st,e1,λux H1 s1 g1=>⟨_,g1.1.bl,q _ H1 s1 (.of (de _ _))⟩⟩
theorem BE {a:ME}{e:Expr}{pos:Pos} (ha:PT X e (tT X.K cal a)):PT X (.UnaryOp .Not e pos) (tT X.K cal (.not a)):=by
 refine (yA ha).imp λσ H Q q=>?_
 obtain ⟨B,O₀,O,ρ,b,st,e1,q⟩:=q
 simp only [evB,ev,Option.bind_eq_some_iff,Option.map_eq_some_iff] at e1
 obtain ⟨v,⟨c,⟨x,e1,e2⟩,rfl⟩,e3⟩:=e1
 simp only [aE,Option.some.injEq] at e3
 subst e3
 exact ⟨B,O₀,O,ρ,c,st,by simp [evB,e1,e2],λH' s=>q H' s⟩
theorem yf {a b:ME}{x y:Expr}{r:List Expr}{pos:Pos} (ha:PE X x (tE X.K cal a)) (hb:PE X (.BoolOp .And (y::r) pos) (tE X.K cal b)):PE X (.BoolOp .And (x::y::r) pos) (tE X.K cal (.and a b)):=by
 refine (yB ha hb).imp λσ H Q q=>?_
 obtain ⟨B,O₀,O,ρ,v,st,e1,q⟩:=q
 rw [ev] at e1
 simp only [Option.bind_eq_some_iff] at e1
 obtain ⟨c,⟨z,e1,e2⟩,e3⟩:=e1
 cases z <;> simp only [aE,Option.some.injEq,reduceCtorEq] at e2
 subst e2
 refine ⟨B,O₀,O,ρ,_,st,e1,λux H1 s1 g1=>⟨_,g1.1.bl,?_⟩⟩
 split at e3
 ·rename_i h
  rw [if_pos h]
  simp only [Option.bind_eq_some_iff,Option.map_eq_some_iff] at e3
  obtain ⟨z',e3,c',e4,rfl⟩:=e3
  cases z' <;> simp only [aE,Option.some.injEq,reduceCtorEq] at e4
  subst e4
  exact ⟨B,O₀,O,ρ,_,st.mono s1,e3,λu H2 s2 g2=>q u H2 (s1.trans s2) (by rw [g2.1.bl];exact .of (de _ _))⟩
 ·rename_i h
  rw [if_neg h]
  cases e3
  exact q _ H1 s1 (.of (de _ _))
theorem BF {a b:ME}{x y:Expr}{r:List Expr}{pos:Pos} (ha:PE X x (tE X.K cal a)) (hb:PE X (.BoolOp .Or (y::r) pos) (tE X.K cal b)):PE X (.BoolOp .Or (x::y::r) pos) (tE X.K cal (.or a b)):=by
 refine (AR ha hb).imp λσ H Q q=>?_
 obtain ⟨B,O₀,O,ρ,v,st,e1,q⟩:=q
 rw [ev] at e1
 simp only [Option.bind_eq_some_iff] at e1
 obtain ⟨c,⟨z,e1,e2⟩,e3⟩:=e1
 cases z <;> simp only [aE,Option.some.injEq,reduceCtorEq] at e2
 subst e2
 refine ⟨B,O₀,O,ρ,_,st,e1,λux H1 s1 g1=>⟨_,g1.1.bl,?_⟩⟩
 split at e3
 ·rename_i h
  rw [if_pos h]
  cases e3
  exact q _ H1 s1 (.of (de _ _))
 ·rename_i h
  rw [if_neg h]
  simp only [Option.bind_eq_some_iff,Option.map_eq_some_iff] at e3
  obtain ⟨z',e3,c',e4,rfl⟩:=e3
  cases z' <;> simp only [aE,Option.some.injEq,reduceCtorEq] at e4
  subst e4
  exact ⟨B,O₀,O,ρ,_,st.mono s1,e3,λu H2 s2 g2=>q u H2 (s1.trans s2) (by rw [g2.1.bl];exact .of (de _ _))⟩
theorem yg {op:BoolOp}{vs:List Expr}{pos:Pos}{t:TT} (h:PT X (.BoolOp op vs pos) t):PW X (.BoolOp op vs pos) t:=λw pins s σ H Q I q=>by
 have:=h pins s σ H Q I q
 rw [show PySem.isTrue (.BoolOp op vs pos) X.env w=PySem.isTrue (.BoolOp op vs pos) X.env (eval (.BoolOp op vs pos) X.env) from rfl]
 exact this
theorem yh {a b:ME}{x y:Expr}{r:List Expr}{pos:Pos} (ha:PT X x (tT X.K cal a)) (hb:PW X (.BoolOp .And (y::r) pos) (tT X.K cal b)):PT X (.BoolOp .And (x::y::r) pos) (tT X.K cal (.and a b)):=by
 refine (yz ha hb).pt.imp λσ H Q q=>?_
 obtain ⟨B,O₀,O,ρ,v,st,e1,q⟩:=q
 simp only [evB,ev,Option.bind_eq_some_iff] at e1
 obtain ⟨w,⟨c,⟨z,e1,e2⟩,e3⟩,e4⟩:=e1
 refine ⟨B,O₀,O,ρ,c,st,by simp [evB,e1,e2],λH1 s1=>?_⟩
 split at e3
 ·rename_i h
  rw [if_pos h]
  simp only [Option.bind_eq_some_iff,Option.map_eq_some_iff] at e3
  obtain ⟨z',e3,c',e5,rfl⟩:=e3
  simp only [aE,Option.some.injEq] at e4
  subst e4
  exact ⟨B,O₀,O,ρ,_,st.mono s1,by simp [evB,e3,e5],λH2 s2=>q H2 (s1.trans s2)⟩
 ·rename_i h
  rw [if_neg h]
  cases e3
  cases e4
  exact q H1 s1
theorem BG {a b:ME}{x y:Expr}{r:List Expr}{pos:Pos} (ha:PT X x (tT X.K cal a)) (hb:PW X (.BoolOp .Or (y::r) pos) (tT X.K cal b)):PT X (.BoolOp .Or (x::y::r) pos) (tT X.K cal (.or a b)):=by
 refine (AN ha hb).pt.imp λσ H Q q=>?_
 obtain ⟨B,O₀,O,ρ,v,st,e1,q⟩:=q
 simp only [evB,ev,Option.bind_eq_some_iff] at e1
 obtain ⟨w,⟨c,⟨z,e1,e2⟩,e3⟩,e4⟩:=e1
 refine ⟨B,O₀,O,ρ,c,st,by simp [evB,e1,e2],λH1 s1=>?_⟩
 split at e3
 ·rename_i h
  rw [if_pos h]
  cases e3
  cases e4
  exact q H1 s1
 ·rename_i h
  rw [if_neg h]
  simp only [Option.bind_eq_some_iff,Option.map_eq_some_iff] at e3
  obtain ⟨z',e3,c',e5,rfl⟩:=e3
  simp only [aE,Option.some.injEq] at e4
  subst e4
  exact ⟨B,O₀,O,ρ,_,st.mono s1,by simp [evB,e3,e5],λH2 s2=>q H2 (s1.trans s2)⟩
theorem BH {c a b:ME}{t x y:Expr}{pos:Pos} (hc:PT X t (tT X.K cal c)) (ha:PE X x (tE X.K cal a)) (hb:PE X y (tE X.K cal b)) (na:aD a=false) (nb:aD b=false):PE X (.IfExp t x y pos) (tE X.K cal (.ite c a b)):=by
 refine (sJ hc ha hb).imp λσ H Q q=>?_
 obtain ⟨B,O₀,O,ρ,v,st,e1,q⟩:=q
 rw [ev] at e1
 simp only [Option.bind_eq_some_iff] at e1
 obtain ⟨k',e1,e3⟩:=e1
 refine ⟨B,O₀,O,ρ,k',st,by simpa [evB,Option.bind_eq_some_iff] using e1,λH1 s1=>?_⟩
 split at e3
 ·rename_i h
  rw [if_pos h]
  exact ⟨B,O₀,O,ρ,v,st.mono s1,e3,λu H2 s2 g2=>q u H2 (s1.trans s2) (.of (g2.2 na))⟩
 ·rename_i h
  rw [if_neg h]
  exact ⟨B,O₀,O,ρ,v,st.mono s1,e3,λu H2 s2 g2=>q u H2 (s1.trans s2) (.of (g2.2 nb))⟩
theorem BI {c a b:ME}{t x y:Expr}{pos:Pos} (hc:PT X t (tT X.K cal c)) (ha:PT X x (tT X.K cal a)) (hb:PT X y (tT X.K cal b)):PT X (.IfExp t x y pos) (tT X.K cal (.ite c a b)):=by
 intro pins s σ H Q I q
 obtain ⟨B,O₀,O,ρ,v,st,e1,q⟩:=q
 simp only [evB,ev,Option.bind_eq_some_iff] at e1
 obtain ⟨w,⟨k',e1,e3⟩,e4⟩:=e1
 refine isTrue_IfExp (thn (hc pins s σ H (λb H1=>b=k'/\af H H1) I ⟨B,O₀,O,ρ,k',st,by simpa [evB,Option.bind_eq_some_iff] using e1,λH1 s1=>⟨rfl,s1⟩⟩) λb s1 ⟨H1,I1,eb,hs⟩=>?_)
 subst eb
 split at e3
 ·rename_i h
  subst h
  exact ha pins s1 σ H1 Q I1 ⟨B,O₀,O,ρ,v,st.mono hs,by simp [evB,e3,e4],λH2 s2=>q H2 (hs.trans s2)⟩
 ·rename_i h
  have:b=false:=by cases b <;> simp at h ⊢
  subst this
  exact hb pins s1 σ H1 Q I1 ⟨B,O₀,O,ρ,v,st.mono hs,by simp [evB,e3,e4],λH2 s2=>q H2 (hs.trans s2)⟩
theorem BJ {op:Cp}{a b:ME}{l r:Expr}{pos:Pos} (g:Gf X T k cal) (ha:PE X l (tE X.K cal a)) (hb:PE X r (tE X.K cal b)) (hm:behindInMarks (rY op) r=false):PE X (.Compare l [rY op] [r] pos) (tE X.K cal (.cmp op a b))/\PT X (.Compare l [rY op] [r] pos) (tT X.K cal (.cmp op a b)):=by
 refine ⟨(wj (uE g.units op) ha hb hm).imp λσ H Q q=>?_,(wk (uE g.units op) ha hb hm).imp λσ H Q q=>?_⟩
 ·obtain ⟨B,O₀,O,ρ,v,st,e1,q⟩:=q
  rw [ev] at e1
  simp only [Option.bind_eq_some_iff,Option.map_eq_some_iff] at e1
  obtain ⟨x,e1,y,e2,c,e3,rfl⟩:=e1
  exact ⟨B,O₀,O,ρ,x,st,e1,λux H1 s1 g1=>⟨B,O₀,O,ρ,y,st.mono s1,e2,λuy H2 s2 g2=>⟨O,x,y,c,g1.1.mono s2,g2.1,e3,q _ H2 (s1.trans s2) (.of (de _ _))⟩⟩⟩
 ·obtain ⟨B,O₀,O,ρ,v,st,e1,q⟩:=q
  simp only [evB,ev,Option.bind_eq_some_iff,Option.map_eq_some_iff] at e1
  obtain ⟨w,⟨x,e1,y,e2,c,e3,rfl⟩,e4⟩:=e1
  simp only [aE,Option.some.injEq] at e4
  subst e4
  exact ⟨B,O₀,O,ρ,x,st,e1,λux H1 s1 g1=>⟨B,O₀,O,ρ,y,st.mono s1,e2,λuy H2 s2 g2=>⟨O,x,y,c,g1.1.mono s2,g2.1,e3,_,rfl,q H2 (s1.trans s2)⟩⟩⟩
theorem BK {ms:List ME}{es:List Expr}{j:Nat}{pos:Pos} (h:PA X es (tEs X.K cal ms)) (hb:(ms.all λm=>!aD m)=true):PE X (.Tuple es j pos) (tE X.K cal (.tup ms)):=by
 refine (yO h).imp λσ H Q q=>?_
 obtain ⟨B,O₀,O,ρ,v,st,e1,q⟩:=q
 rw [ev] at e1
 simp only [Option.bind_eq_some_iff] at e1
 obtain ⟨vs,e1,e2⟩:=e1
 split at e2
 ·rename_i hl
  cases e2
  refine ⟨B,O₀,O,ρ,vs,st,e1,λus H1 s1 g1=>⟨?_,λp hp=>?_⟩⟩
  ·rw [<- (g1.2 hb).length];exact eR hl
  ·exact q _ _ (s1.trans (ah hp _)) (.of (fT (bu s1 st.here) hp (g1.2 hb)))
 ·cases e2
theorem yi {ms:List ME}{es:List Expr}{pos:Pos} (h:PA X es (tEs X.K cal ms)) (hb:(ms.all λm=>!aD m)=true):PE X (.List es pos) (tF X.K cal (.lst ms)):=by
 refine (yP h).imp λσ H Q q=>?_
 obtain ⟨B,O₀,O,ρ,xs,st,e1,q⟩:=q
 rw [ev] at e1
 simp only [Option.bind_eq_some_iff] at e1
 obtain ⟨vs,e1,e2⟩:=e1
 split at e2
 ·rename_i hl
  cases e2
  refine ⟨B,O₀,O,ρ,xs,st,e1,λus H1 s1 g1=>⟨?_,λp hp=>?_⟩⟩
  ·rw [<- (g1.2 hb).length];exact eR hl
  ·refine q p us _ (s1.trans (ah hp _)) (s1.free hp) ay ?_
   rw [iL (List.mem_cons_self)]
   refine Reps.mono (bt (af.refl H1) λb hb=>?_) _ (g1.2 hb)
   rcases List.mem_cons.mp hb with rfl|hb
   ·exact .inr hp
   ·exact .inl hb
 ·cases e2
theorem BL {a i:ME}{v s:Expr}{pos:Pos} (ha:PE X v (tE X.K cal a)) (hi:PE X s (tE X.K cal i)) (hs:bE s=true):PE X (.Subscript v s pos) (tE X.K cal (.idx a i)):=by
 refine (Bd zx ha hi (pG hs)).imp λσ H Q q=>?_
 obtain ⟨B,O₀,O,ρ,v,st,e1,q⟩:=q
 rw [ev] at e1
 simp only [Option.bind_eq_some_iff] at e1
 obtain ⟨x,e1,y,e2,e3⟩:=e1
 exact ⟨B,O₀,O,ρ,x,st,e1,λux H1 s1 g1=>⟨B,O₀,O,ρ,y,st.mono s1,e2,λuy H2 s2 g2=>⟨O,x,y,v,bu (s1.trans s2) st.here,g1.1.mono s2,g2.1,e3,λu H3 s3 r=>q u H3 ((s1.trans s2).trans s3) (.of r)⟩⟩⟩
noncomputable def tB1 (K:PySem.W.Frag) (cal:Cal) (me:ME):TO:=λσ H Q=>∃ B O₀ O ρ o,aJ K B O₀ O H ρ σ/\((ev cal me ρ).bind λv=>bnd me v)=some o/\∀ H',af H H'->Q o H'
theorem uO {m:ME} (h:eB m=true):PO X none (tB1 X.K cal m):=by
 have e:m=.cst .non:=by
  unfold eB at h
  split at h
  ·rfl
  ·cases h
 subst e
 intro pins s σ H Q I q
 obtain ⟨B,O₀,O,ρ,o,st,e1,q⟩:=q
 simp only [ev,Option.bind_some,bnd,Option.some.injEq] at e1
 subst e1
 exact wo pins s σ H Q I (q H (af.refl H))
theorem uP {m:ME}{l:Expr} (h:PE X l (tE X.K cal m)) (hn:eB m=false):PO X (some l) (tB1 X.K cal m):=by
 intro pins s σ H Q I q
 obtain ⟨B,O₀,O,ρ,o,st,e1,q⟩:=q
 simp only [Option.bind_eq_some_iff] at e1
 obtain ⟨v,e1,e2⟩:=e1
 obtain ⟨i,rfl,rfl⟩:∃ i,v=.int i/\o=some i:=by
  unfold bnd at e2
  split at e2
  ·simp [eB] at hn
  ·cases e2;exact ⟨_,rfl,rfl⟩
  ·cases e2
 exact wp h pins s σ H Q I ⟨B,O₀,O,ρ,_,st,e1,λu H' s' g=>⟨i,g.1.int,q H' s'⟩⟩
theorem xc {a lo hi:ME}{v:Expr}{l u:Option Expr}{p2 pos:Pos} (ha:PE X v (tE X.K cal a)) (hl:PO X l (tB1 X.K cal lo)) (hu:PO X u (tB1 X.K cal hi)):PE X (.Subscript v (.Slice l u none p2) pos) (tE X.K cal (.slice a lo hi)):=by
 refine (sZ zy ha hl hu).imp λσ H Q q=>?_
 obtain ⟨B,O₀,O,ρ,w,st,e1,q⟩:=q
 rw [ev,Option.bind_eq_some_iff] at e1
 obtain ⟨x,e1,e2⟩:=e1
 rw [Option.bind_eq_some_iff] at e2
 obtain ⟨lo',e2,e3⟩:=e2
 rw [Option.bind_eq_some_iff] at e3
 obtain ⟨hi',e3,e4⟩:=e3
 exact ⟨B,O₀,O,ρ,x,st,e1,λux H1 s1 g1=>⟨B,O₀,O,ρ,lo',st.mono s1,e2,λH2 s2=>⟨B,O₀,O,ρ,hi',(st.mono s1).mono s2,e3,λH3 s3 =>
  ⟨O,x,w,bu ((s1.trans s2).trans s3) st.here,g1.1.mono (s2.trans s3),e4,λu H4 s4 r=>q u H4 (((s1.trans s2).trans s3).trans s4) (.of r)⟩⟩⟩⟩
theorem oG {f:Blt}{ms:List ME}{x:Str}{e:Expr}{es:List Expr}{p pos:Pos}{id:String} (hc:bp X (.builtin id) (RBM X.K (ak f))) (hg:glB X.env.scope x=true) (hm:X.mg x=none) (hv:bootBuiltins x=some (.builtin id)) (hn:x ≠ "__name__") (hd:(x == ("__debug__":Str))=false)
  (ha:PA X (e::es) (tEs X.K cal ms)) (hs:(e::es).all ag=true):PE X (.Call (.Name x p) (e::es) [] pos) (tE X.K cal (.blt f ms)):=by
 simp only [List.all_cons,Bool.and_eq_true] at hs
 refine (dH hc (dg hg) hm hv ha hn hd (bj hs.1 es _) (cU hs.2)).imp λσ H Q q=>?_
 obtain ⟨B,O₀,O,ρ,v,st,e1,q⟩:=q
 rw [ev,Option.bind_eq_some_iff] at e1
 obtain ⟨vs,e1,e2⟩:=e1
 exact ⟨B,O₀,O,ρ,vs,st,e1,λus H1 s1 g1=>⟨O,vs,v,bu s1 st.here,g1.1,e2,λu H2 s2 r=>q u H2 (s1.trans s2) (.of r)⟩⟩
theorem zF {f:Blt}{ms:List ME}{x:Str}{e:Expr}{es:List Expr}{p pos:Pos}{id:String} (hc:bp X (.type id) (RBM X.K (ak f))) (hg:glB X.env.scope x=true) (hm:X.mg x=none) (hv:bootBuiltins x=some (.type id)) (hn:x ≠ "__name__") (hd:(x == ("__debug__":Str))=false)
  (ha:PA X (e::es) (tEs X.K cal ms)) (hs:(e::es).all ag=true):PE X (.Call (.Name x p) (e::es) [] pos) (tE X.K cal (.blt f ms)):=by
 simp only [List.all_cons,Bool.and_eq_true] at hs
 refine (cx hc (dg hg) hm hv ha hn hd (bj hs.1 es _) (cU hs.2)).imp λσ H Q q=>?_
 obtain ⟨B,O₀,O,ρ,v,st,e1,q⟩:=q
 rw [ev,Option.bind_eq_some_iff] at e1
 obtain ⟨vs,e1,e2⟩:=e1
 exact ⟨B,O₀,O,ρ,vs,st,e1,λus H1 s1 g1=>⟨O,vs,v,bu s1 st.here,g1.1,e2,λu H2 s2 r=>q u H2 (s1.trans s2) (.of r)⟩⟩
theorem l7 {f:Blt}{ms:List ME}{σ:St}{H:Hp}{Q:VK}{K:PySem.W.Frag} (q:tF K cal (.blt f ms) σ H Q):tCB (RBF K (ak f)) (tEs K cal ms) σ H Q:=by
 obtain ⟨B,O₀,O,ρ,xs,st,e1,q⟩:=q
 rw [ev,Option.bind_eq_some_iff] at e1
 obtain ⟨vs,e1,e2⟩:=e1
 refine ⟨B,O₀,O,ρ,vs,st,e1,λus H1 s1 g1=>⟨O,vs,xs,bu s1 st.here,g1.1,e2,λl ws hl r=>q l ws _ (s1.trans (ah hl _)) (s1.free hl) ay ?_⟩⟩
 rw [iL (List.mem_cons_self)]
 refine Reps.mono (bt (af.refl H1) λb hb=>?_) _ r
 rcases List.mem_cons.mp hb with rfl|hb
 ·exact .inr hl
 ·exact .inl hb
theorem zG {f:Blt}{ms:List ME}{x:Str}{e:Expr}{es:List Expr}{p pos:Pos}{id:String} (hc:bp X (.builtin id) (RBF X.K (ak f))) (hg:glB X.env.scope x=true) (hm:X.mg x=none) (hv:bootBuiltins x=some (.builtin id)) (hn:x ≠ "__name__") (hd:(x == ("__debug__":Str))=false)
  (ha:PA X (e::es) (tEs X.K cal ms)) (hs:(e::es).all ag=true):PE X (.Call (.Name x p) (e::es) [] pos) (tF X.K cal (.blt f ms)):=by
 simp only [List.all_cons,Bool.and_eq_true] at hs
 exact (dH hc (dg hg) hm hv ha hn hd (bj hs.1 es _) (cU hs.2)).imp λσ H Q q=>l7 q
theorem xg {f:Blt}{ms:List ME}{x:Str}{e:Expr}{es:List Expr}{p pos:Pos}{id:String} (hc:bp X (.type id) (RBF X.K (ak f))) (hg:glB X.env.scope x=true) (hm:X.mg x=none) (hv:bootBuiltins x=some (.type id)) (hn:x ≠ "__name__") (hd:(x == ("__debug__":Str))=false)
  (ha:PA X (e::es) (tEs X.K cal ms)) (hs:(e::es).all ag=true):PE X (.Call (.Name x p) (e::es) [] pos) (tF X.K cal (.blt f ms)):=by
 simp only [List.all_cons,Bool.and_eq_true] at hs
 exact (cx hc (dg hg) hm hv ha hn hd (bj hs.1 es _) (cU hs.2)).imp λσ H Q q=>l7 q
theorem zH {f:Nat}{ms:List ME}{x:Str}{es:List Expr}{p pos:Pos} (g:Gf X T k cal) (hf:T.fs[f]?=some x) (hg:glB X.env.scope x=true) (hn:az x=true) (ha:PA X es (tAs X.K cal ms)) (hs:es.all ag=true) (hl:ms.length=es.length):PE X (.Call (.Name x p) es [] pos) (tE X.K cal (.call f ms)):=by
 obtain ⟨fa,fd,ps,h1,h2,h3,F,_⟩:=g.fns f x hf
 have key:∀ σ H Q,tE X.K cal (.call f ms) σ H Q->sT (spM X.K cal f) [] E0 (tAs X.K cal ms) σ H Q:=λσ H Q q=>by
  obtain ⟨B,O₀,O,ρ,v,st,e1,q⟩:=q
  rw [ev,Option.bind_eq_some_iff] at e1
  obtain ⟨vs,e1,e2⟩:=e1
  refine ⟨B,O₀,O,ρ,vs,st,e1,λus H1 s1 g1=>⟨O,vs,v,bu s1 st.here,?_,e2,λu H2 s2 r=>q u H2 (s1.trans s2) (.of r)⟩⟩
  rw [List.append_nil]
  exact g1
 cases es with
 | nil =>
  refine (sV F g.room (dg hg) h1 h2 h3 .nil xR (jM hn).1).imp λσ H Q q=>?_
  obtain ⟨B,O₀,O,ρ,vs,st,e1,q⟩:=key σ H Q q
  cases ms with
  | nil =>
   simp only [evA,Option.some.injEq] at e1
   subst e1
   exact q [] H (af.refl H) .nil
  | cons m ms=>simp at hl
 | cons e es =>
  simp only [List.all_cons,Bool.and_eq_true] at hs
  exact (wm F g.room (dg hg) h1 h2 h3 .nil xR ha (jM hn).1 (bj hs.1 es _) (cU hs.2)).imp key
end
end MM
namespace MM
open PySem PySem.Spec PyProof.Rows L2
section
variable {K:PySem.W.Frag}{H:Hp}{O:List Addr}
theorem uQ (kvs:List (Int × Sc)) (i:Int):il (fF kvs) (Sum.inl i:Key)=(fO kvs i).map Sc.v:=by
 unfold il fF fO
 rw [List.find?_map,Option.map_map,Option.map_map]
 have e:((λkv:Key × V=>decide (kv.1=(Sum.inl i:Key))) ∘ λp:Int × Sc=>((Sum.inl p.1:Key),p.2.v))=λp:Int × Sc=>decide (p.1=i):=by
  funext p
  simp
 rw [e]
 rfl
theorem uR (kvs:List (List Int × Sc)) (k:List Int):il (g8 kvs) (k.map Sum.inl)=(fO kvs k).map Sc.v:=by
 unfold il g8 fO
 rw [List.find?_map,Option.map_map,Option.map_map]
 have e:((λkv:List Key × V=>decide (kv.1=k.map Sum.inl)) ∘ λp:List Int × Sc=>((p.1.map Sum.inl:List Key),p.2.v))=λp:List Int × Sc=>decide (p.1=k):=by
  funext p
  exact decide_eq_decide.mpr ⟨jK,λe=>congrArg (List.map Sum.inl) e⟩
 rw [e]
 rfl
theorem xh (ns:List Int):(ns.map Sum.inl:List Key).map kV=ns.map V.int:=by
 rw [List.map_map]
 rfl
theorem qE {xs:List PV}{ns:List Int}{u:V} (e:aS xs=some ns) (r:aZ K H O (.tup xs) u):∃ b,u=.ref b/\H b=some (.tup ((ns.map Sum.inl:List Key).map kV)):=by
 have e1:=dN e
 subst e1
 obtain ⟨b,us,rfl,h,t⟩:=r.tupH
 have e2:=t.ints
 subst e2
 exact ⟨b,rfl,by rw [xh];exact h⟩
theorem ni {d:DD}{y:PV}{o:Option Sc}{a:Addr}{u:V} (e:rX (.dI d) y=some o) (ha:Rd H a (eQ d)) (r:aZ K H O y u):jY H a u (o.map Sc.v):=by
 cases d with
 | k kvs =>
  cases y <;> try (cases e;done)
  rename_i i
  have e1:=r.int
  subst e1
  have e2:fO kvs i=o:=Option.some.inj e
  rw [<- e2,<- uQ]
  exact .inl ⟨_,Sum.inl i,ha,rfl,rfl⟩
 | t kvs =>
  cases y <;> try (cases e;done)
  rename_i xs
  have e:(aS xs).map (fO kvs)=some o:=e
  rw [Option.map_eq_some_iff] at e
  obtain ⟨ns,e1,e2⟩:=e
  obtain ⟨b,rfl,hb⟩:=qE e1 r
  rw [<- e2,<- uR]
  exact .inr ⟨_,_,b,ha,rfl,hb,rfl⟩
theorem uS (kvs:List (Int × Sc)) (k:Int) (s:Sc):gx (fF kvs) (Sum.inl k:Key) s.v=fF (eM kvs k s):=by
 have e1:((fF kvs).any λkv=>decide (kv.1=(Sum.inl k:Key)))=kvs.any λp=>decide (p.1=k):=by
  unfold fF
  rw [List.any_map]
  congr 1
  funext p
  simp
 unfold gx eM
 rw [e1]
 split
 ·unfold fF
  rw [List.map_map,List.map_map]
  refine List.map_congr_left λp _=>?_
  by_cases h:p.1=k <;> simp [h]
 ·unfold fF
  rw [List.map_append]
  rfl
theorem uT (kvs:List (List Int × Sc)) (k:List Int) (s:Sc):gx (g8 kvs) (k.map Sum.inl:List Key) s.v=g8 (eM kvs k s):=by
 have ee:∀ q:List Int,((q.map Sum.inl:List Key)=k.map Sum.inl) ↔ q=k:=λq=>⟨jK,λe=>by rw [e]⟩
 have e1:((g8 kvs).any λkv=>decide (kv.1=(k.map Sum.inl:List Key)))=kvs.any λp=>decide (p.1=k):=by
  unfold g8
  rw [List.any_map]
  congr 1
  funext p
  exact decide_eq_decide.mpr (ee p.1)
 unfold gx eM
 rw [e1]
 split
 ·unfold g8
  rw [List.map_map,List.map_map]
  refine List.map_congr_left λp _=>?_
  by_cases h:p.1=k
  ·have h2:=(ee p.1).mpr h
   simp [h]
  ·have h2:¬ (p.1.map Sum.inl:List Key)=k.map Sum.inl:=λz=>h ((ee p.1).mp z)
   simp [h,h2]
 ·unfold g8
  rw [List.map_append]
  rfl
theorem xi {d d':DD}{y:PV}{s:Sc}{a:Addr}{u:V} (e:uh d y s=some d') (ha:H a=some (eQ d)) (r:aZ K H O y u):jZ H a u s.v (upd H a (eQ d')):=by
 cases d with
 | k kvs =>
  cases y <;> try (cases e;done)
  rename_i i
  have e1:=r.int
  subst e1
  have e2:(if kvs.length < 10000 then some (DD.k (eM kvs i s)) else none)=some d':=e
  split at e2
  ·rename_i hl
   cases e2
   show jZ H a (.int i) s.v (upd H a (.dK (fF (eM kvs i s))))
   rw [<- uS]
   exact jZ.k (k:=Sum.inl i) ha (by unfold fF;rw [List.length_map,sizeLine_eq];omega)
  ·cases e2
 | t kvs =>
  cases y <;> try (cases e;done)
  rename_i xs
  have e:((aS xs).bind λk=>if kvs.length < 10000 then some (DD.t (eM kvs k s)) else none)=some d':=e
  rw [Option.bind_eq_some_iff] at e
  obtain ⟨ns,e1,e2⟩:=e
  obtain ⟨b,rfl,hb⟩:=qE e1 r
  split at e2
  ·rename_i hl
   cases e2
   show jZ H a (.ref b) s.v (upd H a (.dT (g8 (eM kvs ns s))))
   rw [<- uT]
   exact jZ.t ha hb (by unfold g8;rw [List.length_map,sizeLine_eq];omega)
  ·cases e2
end
section
variable {X:Cx}{pins:List (Addr × Obj)}{σ:St}{H:Hp}{s:Shared}
theorem qF (I:Inv X pins σ H s) {a:Addr}{d:DD} (h:Rd H a (eQ d)):(a == sysModules)=false/\∃ es ep,Dv.Ents s.heap a es ep/\ar ((dSc d).map Sc.v) (es.toList.map (·.val)):=by
 cases d with
 | k kvs =>
  obtain ⟨_,hs,vs,r,o,es,ep,ho,hx,hd,_,hp,_⟩:=im I.hok h
  refine ⟨hs,es,ep,⟨o,ho,hx,hd⟩,?_⟩
  have gen:∀ (kvs:List (Int × Sc)) (vs:List (Key × Value)) (l:List DictEntry),KV (fF kvs) vs->Pairs (br X.prog X.w) l vs->ar ((kvs.map (·.2)).map Sc.v) (l.map (·.val)):=by
   intro kvs
   induction kvs with
   | nil =>
    intro vs l r p
    cases r
    cases p
    exact .nil
   | cons q kvs ih =>
    intro vs l r p
    cases r with
    | cons r1 r2 =>
     cases p with
     | cons p1 p2 p3=>exact .cons (by have h:=r1.2;rw [<- p2] at h;exact h) (ih _ _ r2 p3)
  exact gen kvs vs es.toList r hp
 | t kvs =>
  obtain ⟨_,hs,xs,r,o,es,ep,ho,hx,hd,hp,_⟩:=jo I.hok h
  refine ⟨hs,es,ep,⟨o,ho,hx,hd⟩,?_⟩
  rw [hp,List.map_map]
  have gen:∀ (kvs:List (List Int × Sc)) (xs:List (List Key × Addr × Value)),KT H (g8 kvs) xs->ar ((kvs.map (·.2)).map Sc.v) (xs.map (·.2.2)):=by
   intro kvs
   induction kvs with
   | nil =>
    intro xs r
    cases r
    exact .nil
   | cons q kvs ih =>
    intro xs r
    cases r with
    | cons r1 r2=>exact .cons r1.2.2 (ih _ r2)
  exact gen kvs xs r
noncomputable def xj (p a:Addr):HO:=.ext λh=>h.IsValuesView p a
theorem pJ {es:Array DictEntry}{acc:Array Value} (h:ItemsOf (λi v=>∃ e,es[i]?=some e/\v=e.val) acc es.size):acc.toList=es.toList.map (·.val):=by
 refine List.ext_getElem? λi=>?_
 rw [List.getElem?_map,Array.getElem?_toList,Array.getElem?_toList]
 cases e:acc[i]? with
 | none =>
  have:acc.size <= i:=by simpa using e
  rw [Array.getElem?_eq_none (by rw [<- h.1];exact this)]
  rfl
 | some v =>
  obtain ⟨q,e1,rfl⟩:=h.2 i v e
  rw [e1]
  rfl
end
section
variable {X:Cx}{T:Tab}{k:Nat}{cal:Cal}
theorem xk {o:Expr}{ap cp:Pos}{td:TE} (hb:attributeBase o "values" X.env (eval o X.env)=eval o X.env) (hl:(ap.endLine == cp.line)=true) (ho:PE X o td) :
  PE X (.Call (.Attribute o "values" ap) [] [] cp) (λσ H Q=>td σ H λx H1=>∃ a d,x=.ref a/\Rd H1 a (eQ d)/\∀ p,H1 p=none->Q (.ref p) (upd H1 p (xj p a))):=by
 intro pins s σ H Q I h
 refine wpAny_Call_method hb rfl hl PySem.F.plainAttrs_dict PySem.F.slot_dict_values PySem.F.type_dict_values (thn (ho pins s σ H _ I h) λu s1 ⟨x,H1,I1,rx,a,d,ex,hd,q1⟩=>?_)
 subst ex
 obtain rfl:u=Value.ref a:=rx
 obtain ⟨t1,t2,_⟩:=po I1 (m7 hd)
 refine ⟨t1,t2,?_⟩
 refine Calls.callWith_builtin rfl (PyProof.Rows.evalArgs_empty ?_)
 obtain ⟨hs,es,ep,x,_⟩:=qF I1 hd
 refine Dv.values_of hs x ⟨.ref s1.heap.objs.size,_,I1.laid (t':=s1.toks) (λb o e=>Heap.get?_push_of_some _ e) (Nat.le_refl _) (o:=xj s1.heap.objs.size a) ?_,rfl,q1 _ (I1.hok.fresh (Nat.le_refl _))⟩
 exact ⟨⟨_,Heap.get?_push_size _ rfl,rfl,rfl⟩,⟨_,Heap.get?_push_size _ rfl⟩,λh1 h2 ⟨o,ho,r⟩ k=>⟨o,k o ho,r⟩⟩
theorem pK (hc:X.calm=true):bp X (.type "list") (λus H Q=>∃ p a d,us=[.ref p]/\H p=some (xj p a)/\Rd H a (eQ d)/\(dSc d).length <= 10000/\∀ l,H l=none->Q (.ref l) (upd H l (.lst ((dSc d).map Sc.v)))):=by
 intro pins s σ H xs us Q I r h
 obtain ⟨p,a,d,rfl,hp,ha,hl,q⟩:=h
 obtain ⟨u,rfl,ru⟩:=dj r
 cases ru
 obtain ⟨_,es,ep,x,vs⟩:=qF I ha
 have hv:s.heap.IsValuesView p a:=(show aV X.prog X.w H s.heap p (xj p a) from I.hok p _ hp).1
 have hsz:es.size=(dSc d).length:=by have:=vs.length;simp at this;omega
 refine PySem.W.kdl_call (Dv.src (r:=p) (d:=a) (es:=es) (ep:=ep)) (I.ok.hd hc) ⟨hv,x⟩ (by rw [hsz,sizeLine_eq];omega) λh' tk acc c kp e it=>?_
 refine ⟨.ref s.heap.objs.size,_,I.laid (t':=tk) kp (Nat.le_refl _) (o:=.lst ((dSc d).map Sc.v)) ⟨by rw [List.length_map,sizeLine_eq];omega,acc.toList,c,?_,by rw [Array.toArray_toList];exact e⟩,rfl,q _ (I.hok.fresh (Nat.le_refl _))⟩
 rw [pJ it]
 exact vs
end
end MM
namespace MM
open PySem PySem.Spec PyProof.Rows L2
theorem pL:bootBuiltins "len"=some (.builtin "len"):=by decide +kernel
theorem kI:bootBuiltins "tuple"=some (.type "tuple"):=by decide +kernel
theorem qG:bootBuiltins "list"=some (.type "list"):=by decide +kernel
theorem jd:bootBuiltins "sorted"=some (.builtin "sorted"):=by decide +kernel
theorem zI:bootBuiltins "any"=some (.builtin "any"):=by decide +kernel
theorem zJ:bootBuiltins "all"=some (.builtin "all"):=by decide +kernel
theorem zK:bootBuiltins "max"=some (.builtin "max"):=by decide +kernel
theorem zL:bootBuiltins "int"=some (.type "int"):=by decide +kernel
theorem xl:bootBuiltins "bool"=some (.type "bool"):=by decide +kernel
theorem kJ:bootBuiltins "set"=some (.type "set"):=by decide +kernel
theorem lw:bootBuiltins "isinstance"=some (.builtin "isinstance"):=by decide +kernel
section
variable {X:Cx}{T:Tab}{k:Nat}{cal:Cal}
theorem zM {f:Blt}{c:String}{m:ME}{e:Expr}{t:Str}{p p2 pos:Pos} (g:Gf X T k cal) (hf:cg f=some c) (hg:glB X.env.scope "isinstance"=true) (ht:t=(c:Str)) (hgt:glB X.env.scope t=true)
  (hbt:bootBuiltins c=some (.type c)) (hmt:X.mg c=none) (hn:(c:Str) ≠ "__name__") (hd:((c:Str) == ("__debug__":Str))=false) (h:PE X e (tE X.K cal m)) (hs:ag e=true):PE X (.Call (.Name "isinstance" p) [e,.Name t p2] [] pos) (tE X.K cal (.blt f [m])):=by
 subst ht
 refine (dH (zA hf) (dg hg) (g.blt "isinstance" (by decide)) lw (aX h (aX (v8 (v:=.ty c) (dg hgt) hmt hbt rfl hn hd) bI rfl) (bj hs _ _)) (by decide) (by decide) (bj hs _ _) rfl).imp λσ H Q q=>?_
 obtain ⟨B,O₀,O,ρ,v,st,e1,q⟩:=q
 rw [ev,Option.bind_eq_some_iff] at e1
 obtain ⟨vs,e1,e2⟩:=e1
 obtain ⟨w,rfl,e3⟩:=lv e1
 have e5:isD w=false/\v=.bl (isT f w):=by
  cases hd:isD w with
  | true=>cases f <;> simp only [cg,reduceCtorEq] at hf <;> (simp only [ak,bq,fQ,eN,fc,hd] at e2;cases e2)
  | false=>cases f <;> simp only [cg,reduceCtorEq] at hf <;> (simp only [ak,bq,fQ,eN,fc,hd,Bool.false_eq_true,if_false,Option.some.injEq] at e2;exact ⟨rfl,e2.symm⟩)
 obtain ⟨e5,rfl⟩:=e5
 refine ⟨B,O₀,O,ρ,w,st,e3,λu H1 s1 g1=>⟨O,w,u,rfl,e5,g1.1,q _ H1 s1 (.of (de _ _))⟩⟩
theorem oH {m:ME}{e:Expr}{x y:Str}{p p2 pos pos2:Pos} (g:Gf X T k cal) (hx:x=("sorted":Str)) (hy:y=("set":Str)) (hg:glB X.env.scope x=true) (hg2:glB X.env.scope y=true) (h:PE X e (tE X.K cal m)) (hs:ag e=true):PE X (.Call (.Name x p) [.Call (.Name y p2) [e] [] pos2] [] pos) (tF X.K cal (.blt .sortedSet [m])):=by
 subst hx hy
 refine (dH (oB g.calm) (dg hg) (g.blt "sorted" (by decide)) jd (aX (cx (qB g.calm) (dg hg2) (g.blt "set" (by decide)) kJ (aX h bI (bj hs _ _)) (by decide) (by decide) (bj hs _ _) rfl) bI rfl) (by decide) (by decide) rfl rfl).imp λσ H Q q=>?_
 obtain ⟨B,O₀,O,ρ,xs,st,e1,q⟩:=q
 rw [ev,Option.bind_eq_some_iff] at e1
 obtain ⟨vs,e1,e2⟩:=e1
 obtain ⟨w,rfl,e3⟩:=lv e1
 simp only [ak,bq,fQ,eN,fc,Option.bind_eq_some_iff] at e2
 obtain ⟨ys,e4,ns,e5,e6⟩:=e2
 split at e6
 ·rename_i hc
  cases e6
  refine ⟨B,O₀,O,ρ,w,st,e3,λu H1 s1 g1=>⟨O,w,u,ns,rfl,g1.1,by simp [e4,e5],hc.1,λl hl=>⟨l,_,rfl,ay,?_,λp' hp'=>?_⟩⟩⟩
  ·rw [pH];exact hc.2
  ·rw [w8]
   refine q p' _ _ ((s1.trans (ah hl _)).trans (ah hp' _)) (s1.free ((ah hl _).free hp')) ay (.of_ints _)
 ·cases e6
theorem uU {K:PySem.W.Frag}{F:Hp}:∀ {ts:List (List Int)}{us:List V},Reps K F (ts.map λt=>.tup (t.map .int)) us->∃ src:List (List Int × Addr),us=src.map (λq=>V.ref q.2)/\ts=src.map (·.1)/\∀ q ∈ src,SqT K F q.2 (q.1.map V.int)/\Rep K F (.tup (q.1.map .int)) (.ref q.2)
 | [],_,h=>by rw [List.map_nil,Reps] at h;subst h;exact ⟨[],rfl,rfl,λq hq=>by cases hq⟩
 | t::ts,_,h=>by
  rw [List.map_cons,Reps] at h
  obtain ⟨u,r,rfl,q,z⟩:=h
  obtain ⟨src,e1,e2,e3⟩:=uU z
  have q':=q
  rw [Rep] at q
  obtain ⟨a,vs,e,s1,r1⟩:=q
  rw [r1.ints] at s1
  subst e
  refine ⟨(t,a)::src,by rw [e1];rfl,by rw [e2];rfl,λx hx=>?_⟩
  rcases List.mem_cons.mp hx with rfl|hx
  ·exact ⟨SqT.of s1,q'⟩
  ·exact e3 x hx
theorem oI {K:PySem.W.Frag}{F:Hp}:∀ {out:List (List Int × Addr)},(∀ q ∈ out,Rep K F (.tup (q.1.map .int)) (.ref q.2))->Reps K F ((out.map (·.1)).map λt=>.tup (t.map .int)) (out.map λq=>V.ref q.2)
 | [],_=>.nil
 | x::out,h=>.cons (h x (.head _)) (oI λq hq=>h q (.tail _ hq))
theorem ddT_mem {k:List Int}:∀ {l:List (List Int)},k ∈ ddT l ↔ k ∈ l
 | []=>Iff.rfl
 | x::r=>by
  show k ∈ (if x ∈ ddT r then ddT r else x::ddT r) ↔ _
  have ih:=@ddT_mem k r
  by_cases h:x ∈ ddT r
  ·rw [if_pos h,ih,List.mem_cons]
   exact ⟨.inr,λz=>z.elim (λe=>by rw [e];exact ddT_mem.mp h) id⟩
  ·rw [if_neg h,List.mem_cons,List.mem_cons,ih]
theorem ddT_nodup:∀ l:List (List Int),(ddT l).Nodup
 | []=>List.nodup_nil
 | x::r=>by
  show (if x ∈ ddT r then ddT r else x::ddT r).Nodup
  by_cases h:x ∈ ddT r
  ·rw [if_pos h];exact ddT_nodup r
  ·rw [if_neg h];exact List.nodup_cons.mpr ⟨h,ddT_nodup r⟩
theorem uV {ks ts:List (List Int)} (h:ks.Perm (St.ddT ts.reverse)):Srt.sortT ks=Srt.sortT (ddT ts):=by
 refine Srt.sortT_of_perm (h.trans ((List.perm_ext_iff_of_nodup (St.ddT_nodup _) (ddT_nodup _)).mpr λk=>?_))
 rw [St.ddT_mem,ddT_mem,List.mem_reverse]
theorem uW {H:Hp}{O:List Addr}{p:Addr}{o:HO} (h:H p=none):af (ax H O) (ax (upd H p o) (p::O)):=λb u e=>by
 unfold ax at e ⊢
 split at e
 ·cases e
 ·rename_i hb
  have hne:b ≠ p:=bx e h
  rw [if_neg (by simp only [List.mem_cons,not_or];exact ⟨hne,hb⟩),aW hne]
  exact e
theorem nj {m:ME}{e:Expr}{x y:Str}{p p2 pos pos2:Pos} (g:Gf X T k cal) (hx:x=("sorted":Str)) (hy:y=("set":Str)) (hg:glB X.env.scope x=true) (hg2:glB X.env.scope y=true) (h:PE X e (tE X.K cal m)) (hs:ag e=true):PE X (.Call (.Name x p) [.Call (.Name y p2) [e] [] pos2] [] pos) (tF X.K cal (.blt .sortedSetT [m])):=by
 subst hx hy
 have hu:=g.units
 refine (dH (lu g.calm (by omega)) (dg hg) (g.blt "sorted" (by decide)) jd (aX (cx (rV g.calm (by omega)) (dg hg2) (g.blt "set" (by decide)) kJ (aX h bI (bj hs _ _)) (by decide) (by decide) (bj hs _ _) rfl) bI rfl) (by decide) (by decide) rfl rfl).imp λσ H Q q=>?_
 obtain ⟨B,O₀,O,ρ,xs,st,e1,q⟩:=q
 rw [ev,Option.bind_eq_some_iff] at e1
 obtain ⟨vs,e1,e2⟩:=e1
 obtain ⟨w,rfl,e3⟩:=lv e1
 simp only [ak,bq,fQ,eN,fc,Option.bind_eq_some_iff] at e2
 obtain ⟨ys,e4,ts,e5,e6⟩:=e2
 split at e6
 ·rename_i hc
  cases e6
  refine ⟨B,O₀,O,ρ,w,st,e3,λu H1 s1 g1=>?_⟩
  have hw:w=.lst ys:=by
   cases w <;> first|(cases e4;rfl)|cases e4
  subst hw
  obtain ⟨a,ws,rfl,sq,t1⟩:=g1.1.lst
  have:=kw e5
  subst this
  obtain ⟨src,rfl,rfl,hk⟩:=uU t1
  refine ⟨a,src,rfl,sq,λz hz=>af.seqT (aY H1 O) (hk z hz).1,by rw [List.length_map] at hc;exact hc,λl kbs hl pm sub=>⟨l,kbs,rfl,ay,λz hz=>af.seqT (ah hl _) (af.seqT (aY H1 O) (hk z (sub z hz)).1),?_,λp' out hp' so eo=>?_⟩⟩
  ·have h1:=pm.length_eq
   have h2:=St.mW (src.map (·.1)).reverse
   rw [List.length_map] at h1
   rw [List.length_reverse,List.length_map] at h2
   rw [List.length_map] at hc
   omega
  ·have eo2:sortT (ddT (src.map (·.1)))=out.map (·.1):=by rw [dQ,eo];exact (uV pm).symm
   rw [eo2] at q
   refine q p' _ _ ((s1.trans (ah hl _)).trans (ah hp' _)) (s1.free ((ah hl _).free hp')) ay (oI λz hz=>?_)
   exact Rep.mono (uW hp') _ (Rep.mono (bt (ah hl _) λb hb=>.inl hb) _ (hk z (sub z (so z hz))).2)
 ·cases e6
theorem oJ {ms:List ME}:∀ ρ v,ev cal (.blt .sortedSetT ms) ρ=some v->∃ xs,v=.lst xs:=λρ v hv=>by
 rw [ev,Option.bind_eq_some_iff] at hv
 obtain ⟨vs,_,hv⟩:=hv
 match vs,hv with
 | [a],hv =>
  simp only [ak,bq,Option.bind_eq_some_iff] at hv
  obtain ⟨ys,_,ts,_,e6⟩:=hv
  split at e6
  ·cases e6;exact ⟨_,rfl⟩
  ·cases e6
theorem oK {K:PySem.W.Frag}{F:Hp}:∀ (l:List Nat),Reps K F (l.map λ(k:Nat)=>PV.int (k:Int)) (l.map λ(k:Nat)=>V.int (k:Int))
 | []=>.nil
 | k::l=>⟨_,_,rfl,rfl,oK l⟩
theorem pM {m:ME}{e:Expr}{x y:Str}{p p2 pos pos2:Pos} (g:Gf X T k cal) (hx:x=("tuple":Str)) (hy:y=("range":Str)) (hg:glB X.env.scope x=true) (hg2:glB X.env.scope y=true) (h:PE X e (tE X.K cal m)) (hs:ag e=true):PE X (.Call (.Name x p) [.Call (.Name y p2) [e] [] pos2] [] pos) (tE X.K cal (.blt .tupleRng [m])):=by
 subst hx hy
 refine (nX g.calm (dg hg) (g.blt "tuple" (by decide)) kI (dg hg2) (g.blt "range" (by decide)) h (bj hs _ _)).imp λσ H Q q=>?_
 obtain ⟨B,O₀,O,ρ,v,st,e1,q⟩:=q
 rw [ev,Option.bind_eq_some_iff] at e1
 obtain ⟨vs,e1,e2⟩:=e1
 obtain ⟨w,rfl,e3⟩:=lv e1
 simp only [ak,bq] at e2
 cases w with
 | int j =>
  dsimp only at e2
  split at e2
  ·rename_i hj
   cases e2
   refine ⟨B,O₀,O,ρ,_,st,e3,λu H1 s1 g1=>?_⟩
   have hu:u=V.int j:=g1.1.int
   refine ⟨j.toNat,?_,by omega,λl hl=>q _ _ (s1.trans (ah hl _)) (.of (fT (bu s1 st.here) hl (oK _)))⟩
   rw [hu,show ((j.toNat:Nat):Int)=j from by omega]
  ·cases e2
 | _=>cases e2
theorem uX {m:ME}{e:Expr}{x y:Str}{p p2 pos pos2:Pos} (g:Gf X T k cal) (hx:x=("len":Str)) (hy:y=("set":Str)) (hg:glB X.env.scope x=true) (hg2:glB X.env.scope y=true) (h:PE X e (tE X.K cal m)) (hs:ag e=true):PE X (.Call (.Name x p) [.Call (.Name y p2) [e] [] pos2] [] pos) (tE X.K cal (.blt .lenSet [m])):=by
 subst hx hy
 refine (dH mR (dg hg) (g.blt "len" (by decide)) pL (aX (cx (qB g.calm) (dg hg2) (g.blt "set" (by decide)) kJ (aX h bI (bj hs _ _)) (by decide) (by decide) (bj hs _ _) rfl) bI rfl) (by decide) (by decide) rfl rfl).imp λσ H Q q=>?_
 obtain ⟨B,O₀,O,ρ,v,st,e1,q⟩:=q
 rw [ev,Option.bind_eq_some_iff] at e1
 obtain ⟨vs,e1,e2⟩:=e1
 obtain ⟨w,rfl,e3⟩:=lv e1
 simp only [ak,bq,fQ,eN,fc,Option.bind_eq_some_iff] at e2
 obtain ⟨ys,e4,ns,e5,e6⟩:=e2
 split at e6
 ·rename_i hc
  cases e6
  refine ⟨B,O₀,O,ρ,w,st,e3,λu H1 s1 g1=>⟨O,w,u,ns,rfl,g1.1,by simp [e4,e5],hc,λl hl=>⟨l,_,rfl,ay,?_⟩⟩⟩
  rw [pH]
  exact q _ _ (s1.trans (ah hl _)) (.of (cr _ _))
 ·cases e6
theorem oM {m1 m2:ME}{a b:Expr}{x y z:Str}{p p2 p3 q2 q3 q4 pos:Pos} (g:Gf X T k cal) (hx:x=("len":Str)) (hy:y=("set":Str)) (hz:z=("set":Str)) (hg:glB X.env.scope x=true) (hg2:glB X.env.scope y=true) (hg3:glB X.env.scope z=true) (ha:PE X a (tE X.K cal m1)) (hb:PE X b (tE X.K cal m2)) (hsa:ag a=true) (hsb:ag b=true) :
  PE X (.Call (.Name x p) [.BinOp (.Call (.Name y p2) [a] [] q2) .Sub (.Call (.Name z p3) [b] [] q3) q4] [] pos) (tE X.K cal (.blt .lenSetSub [m1,m2])):=by
 subst hx hy hz
 refine (dH nV (dg hg) (g.blt "len" (by decide)) pL (aX (xP rQ (cx (qB g.calm) (dg hg2) (g.blt "set" (by decide)) kJ (aX ha bI (bj hsa _ _)) (by decide) (by decide) (bj hsa _ _) rfl) (cx (qB g.calm) (dg hg3) (g.blt "set" (by decide)) kJ (aX hb bI (bj hsb _ _)) (by decide) (by decide) (bj hsb _ _) rfl)) bI rfl) (by decide) (by decide) rfl rfl).imp λσ H Q q=>?_
 obtain ⟨B,O₀,O,ρ,v,st,e1,q⟩:=q
 rw [ev,Option.bind_eq_some_iff] at e1
 obtain ⟨vs,e1,e2⟩:=e1
 simp only [evs,Option.bind_eq_some_iff,Option.map_eq_some_iff] at e1
 obtain ⟨v1,e3,w1,⟨v2,e4,w2,e5,rfl⟩,rfl⟩:=e1
 cases e5
 simp only [ak,bq,fQ,eN,fc,Option.bind_eq_some_iff] at e2
 obtain ⟨xs,f1,ns,f2,ys,f3,ms,f4,f5⟩:=e2
 split at f5
 ·rename_i hc
  cases f5
  refine ⟨B,O₀,O,ρ,v1,st,e3,λu H1 s1 g1=>⟨O,v1,u,ns,rfl,g1.1,by simp [f1,f2],hc.1,λl hl=>?_⟩⟩
  refine ⟨B,O₀,O,ρ,v2,st.mono (s1.trans (ah hl _)),e4,λu2 H2 s2 g2=>⟨O,v2,u2,ms,rfl,g2.1,by simp [f3,f4],hc.2.1,λl2 hl2=>?_⟩⟩
  refine ⟨l,l2,_,_,rfl,rfl,(ah hl2 _) l _ (s2 l _ ay),ay,by rw [pH];exact hc.2.2,λp' hp'=>⟨p',_,rfl,ay,?_⟩⟩
  have e6:((St.dd ns.reverse).filter λk=>!decide (k ∈ St.dd ms.reverse)).length=((dd ns).filter λn=>!decide (n ∈ ms)).length:=by
   rw [lZ]
   have e7:(λk=>!decide (k ∈ St.dd ms.reverse))=λn=>!decide (n ∈ ms):=by
    funext k
    congr 1
    rw [decide_eq_decide,St.d9,List.mem_reverse]
   rw [e7]
   refine List.Perm.length_eq (List.Perm.filter _ ((List.perm_ext_iff_of_nodup (St.dd_nodup _) (St.dd_nodup _)).mpr λa=>?_))
   rw [St.d9,St.d9,List.mem_reverse]
  rw [e6]
  exact q _ _ ((s1.trans (ah hl _)).trans (s2.trans ((ah hl2 _).trans (ah hp' _)))) (.of (cr _ _))
 ·cases f5
end
section
variable {X:Cx}{T:Tab}{k:Nat}{cal:Cal}
theorem oN {k':Sk}{src:List ME}{js:List Nat}{cond elt:ME}:∀ ρ v,ev cal (.comp k' src js cond elt) ρ=some v->∃ xs,v=.lst xs:=λρ v hv=>by
 rw [ev,Option.bind_eq_some_iff] at hv
 obtain ⟨vs,_,hv⟩:=hv
 rw [Option.bind_eq_some_iff] at hv
 obtain ⟨xs,_,hv⟩:=hv
 split at hv
 ·simp only [Option.map_eq_some_iff] at hv
  obtain ⟨ys,_,rfl⟩:=hv
  exact ⟨_,rfl⟩
 ·cases hv
theorem dz {f:Blt} (hf:f=.listOf \/ f=.sorted \/ f=.sortedSet \/ f=.sortedKeys \/ f=.valuesOf) {ms:List ME}:∀ ρ v,ev cal (.blt f ms) ρ=some v->∃ xs,v=.lst xs:=λρ v hv=>by
 rw [ev,Option.bind_eq_some_iff] at hv
 obtain ⟨vs,_,hv⟩:=hv
 rcases hf with rfl|rfl|rfl|rfl|rfl
 ·obtain ⟨x,rfl⟩:=cR hv (.inl rfl)
  simp only [ak,bq,fQ,eN,fc,Option.map_eq_some_iff] at hv
  obtain ⟨ys,_,rfl⟩:=hv
  exact ⟨_,rfl⟩
 ·obtain ⟨x,rfl⟩:=cR hv (.inl rfl)
  simp only [ak,bq,fQ,eN,fc,Option.bind_eq_some_iff] at hv
  obtain ⟨ys,_,hv⟩:=hv
  unfold fP at hv
  split at hv
  ·split at hv
   ·cases hv;exact ⟨_,rfl⟩
   ·simp only [Option.map_eq_some_iff] at hv
    obtain ⟨ts,_,rfl⟩:=hv
    exact ⟨_,rfl⟩
  ·cases hv
 ·obtain ⟨x,rfl⟩:=cR hv (.inr (.inr (.inl rfl)))
  simp only [ak,bq,fQ,eN,fc,Option.bind_eq_some_iff] at hv
  obtain ⟨ys,_,ns,_,hv⟩:=hv
  split at hv
  ·cases hv;exact ⟨_,rfl⟩
  ·cases hv
 ·obtain ⟨x,rfl⟩:=cR hv (.inl rfl)
  simp only [ak,bq] at hv
  split at hv
  ·split at hv
   ·cases hv;exact ⟨_,rfl⟩
   ·cases hv
  ·cases hv
 ·obtain ⟨x,rfl⟩:=cR hv (.inr (.inr (.inr (.inr rfl))))
  simp only [ak,bq] at hv
  split at hv
  ·split at hv
   ·cases hv;exact ⟨_,rfl⟩
   ·cases hv
  ·cases hv
theorem pN {ifs:List Expr}{cond:ME}{f:Expr->Bool} (h:kB f cond ifs=true) (hc:∀ c,f c=true->PT X c (tT X.K cal cond)):PF X ifs (tT X.K cal cond):=by
 match ifs,h with
 | [],h =>
  have e:cond=.cst (.bl true):=by
   simp only [kB] at h
   split at h
   ·rfl
   ·cases h
  subst e
  intro pins s σ H Q I q
  obtain ⟨B,O₀,O,ρ,b,st,e1,q⟩:=q
  simp only [evB,ev,Option.bind_some,aE,Option.some.injEq] at e1
  subst e1
  exact y7 pins s σ H Q I (q H (af.refl H))
 | [c],h=>exact y9 (hc c h)
theorem kK {k':Sk}{src:List ME}{it tg:Expr}{tup:Bool} (htg:tup=true->∃ ts j tp,tg=.Tuple ts j tp) (g:Gf X T k cal) (h:dy X.env.scope tup (λxs=>chks T src X.N X.env.scope xs) k' it=true) (hs:∀ xs,chks T src X.N X.env.scope xs=true->PA X xs (tEs X.K cal src)/\xs.all ag=true/\src.length=xs.length)
  (h1:∀ m x,src=[m]->chks T src X.N X.env.scope [x]=true->PE X x (tE X.K cal m)):PI X tg it (tW X.K cal k' src)/\ff it=true:=by
 cases k' with
 | seq =>
  simp only [dy,Bool.and_eq_true] at h
  refine ⟨?_,h.1⟩
  obtain ⟨_,_,hl⟩:=hs _ h.2
  match src,hl,h1,h with
  | [m],_,h1,h =>
   cases hb:aD m with
   | false=>exact Bz hb (h1 m it rfl h.2)
   | true =>
    cases m <;> simp [aD] at hb
    have q:=h.2
    simp only [chks,Bool.and_eq_true] at q
    have q1:=q.1.1
    cases it <;> simp only [bK,bL,bM,bh,bN,bO,bP,bQ,dc,bR,bS,aQ,bT,bU,bV,aR,bW,bi,aF,Bool.false_eq_true] at q1
    exact BA q1
 | rng =>
  cases it with
  | Call fn args kws pos =>
   cases fn with
   | Name x p =>
    cases kws with
    | nil =>
     simp only [dy,Bool.and_eq_true,beq_iff_eq,Bool.or_eq_true] at h
     obtain ⟨⟨⟨hx,hg⟩,ha⟩,hn⟩:=h
     obtain ⟨q,hst,hl⟩:=hs _ ha
     exact ⟨xa g hx hg q hn hst hl,rfl⟩
    | cons _ _=>simp [dy] at h
   | _=>simp [dy] at h
  | _=>simp [dy] at h
 | enm =>
  cases it with
  | Call fn args kws pos =>
   cases fn with
   | Name x p =>
    match args,kws,h with
    | [a],[],h =>
     simp only [dy,Bool.and_eq_true,beq_iff_eq] at h
     obtain ⟨⟨⟨⟨ht,hx⟩,hg⟩,ha⟩,hn⟩:=h
     obtain ⟨ts,j,tp,rfl⟩:=htg ht
     obtain ⟨_,_,hl⟩:=hs _ ha
     refine ⟨?_,rfl⟩
     match src,hl,h1,ha with
     | [m],_,h1,ha =>
      cases hb:aD m with
      | false=>exact BB g hx hg hn hb (h1 m a rfl ha)
      | true =>
       cases m <;> simp [aD] at hb
       have q:=ha
       simp only [chks,Bool.and_eq_true] at q
       have q1:=q.1.1
       cases a <;> simp only [bK,bL,bM,bh,bN,bO,bP,bQ,dc,bR,bS,aQ,bT,bU,bV,aR,bW,bi,aF,Bool.false_eq_true] at q1
       exact zD g hx hg q1
    | [],_,h=>simp [dy] at h
    | _::_::_,_,h=>simp [dy] at h
    | [_],_::_,h=>simp [dy] at h
   | _=>simp [dy] at h
  | _=>simp [dy] at h
 | rev=>cases it <;> simp [dy] at h
theorem pO (K:PySem.W.Frag) (F:Hp) (s:Sc):Rep K F s.pv s.v:=by cases s <;> simp only [Sc.pv,Sc.v,Rep]
theorem uY {K:PySem.W.Frag}{H:Hp}{O:List Addr}{x:PV}{s:Sc}{u:V} (e:sc? x=some s) (r:aZ K H O x u):u=s.v:=by
 cases x <;> simp only [sc?,Option.some.injEq,reduceCtorEq] at e <;> subst e
 ·exact r.non
 ·exact r.bl
 ·exact r.int
 ·exact r.str
theorem base_of {o:Expr}{n:Str} (hb:kA o=true):attributeBase o n X.env (eval o X.env)=eval o X.env:=by
 cases o <;> first|rfl|(simp [kA] at hb;done)|skip
 rename_i fn args kws pos
 cases args with
 | nil=>simp [kA] at hb
 | cons _ _=>cases fn <;> rfl
theorem qH (K:PySem.W.Frag) (F:Hp):∀ ss:List Sc,Reps K F (ss.map Sc.pv) (ss.map Sc.v)
 | []=>rfl
 | s::ss=>⟨_,_,rfl,pO K F s,qH K F ss⟩
theorem uZ {m:ME}{o:Expr}{x:Str}{p ap cp pos:Pos} (g:Gf X T k cal) (hx:x=("list":Str)) (hg:glB X.env.scope x=true) (h:PE X o (tE X.K cal m)) (hb:attributeBase o "values" X.env (eval o X.env)=eval o X.env) (hl:(ap.endLine == cp.line)=true) :
  PE X (.Call (.Name x p) [.Call (.Attribute o "values" ap) [] [] cp] [] pos) (tF X.K cal (.blt .valuesOf [m])):=by
 subst hx
 refine (cx (pK g.calm) (dg hg) (g.blt "list" (by decide)) qG (aX (xk hb hl h) bI rfl) (by decide) (by decide) rfl rfl).imp λσ H Q q=>?_
 obtain ⟨B,O₀,O,ρ,xs,st,e1,q⟩:=q
 rw [ev,Option.bind_eq_some_iff] at e1
 obtain ⟨vs,e1,e2⟩:=e1
 obtain ⟨w,rfl,e3⟩:=lv e1
 have hd:∃ d,w=.dI d/\(kr d).length <= 10000/\xs=kr d:=by
  simp only [ak,bq] at e2
  split at e2
  ·split at e2
   ·rename_i d hl
    cases e2
    exact ⟨d,rfl,hl,rfl⟩
   ·cases e2
  ·cases e2
 obtain ⟨d,rfl,hz,rfl⟩:=hd
 have hz2:(dSc d).length <= 10000:=by unfold kr at hz;rw [List.length_map] at hz;exact hz
 refine ⟨B,O₀,O,ρ,_,st,e3,λu H1 s1 g1=>?_⟩
 obtain ⟨a,rfl,ha⟩:=g1.1.dI
 refine ⟨a,d,rfl,ha,λp' hp'=>⟨p',a,d,rfl,ay,af.rd (ah hp' _) ha,hz2,λl hl=>?_⟩⟩
 refine q l _ _ ((s1.trans (ah hp' _)).trans (ah hl _)) (s1.free ((ah hp' _).free hl)) ay ?_
 exact qH _ _ _
theorem oO {b:Blt}{es:List ME}{x:Str}{args:List Expr}{p pos:Pos} (g:Gf X T k cal) (hx:x=(lX b:Str)) (hg:glB X.env.scope x=true) (ha:bA X.env.scope (λxs=>chks T es X.N X.env.scope xs) es.length b args=true)
  (hs:∀ xs,chks T es X.N X.env.scope xs=true->PA X xs (tEs X.K cal es)/\xs.all ag=true/\es.length=xs.length)
  (h1:∀ m x,es=[m]->chks T es X.N X.env.scope [x]=true->PE X x (tE X.K cal m))
  (hh2:∀ m m' x x',es=[m,m']->chks T es X.N X.env.scope [x,x']=true->PE X x (tE X.K cal m)/\PE X x' (tE X.K cal m')) :
  (bo (.blt b es)=true->PE X (.Call (.Name x p) args [] pos) (tF X.K cal (.blt b es)))/\PE X (.Call (.Name x p) args [] pos) (tE X.K cal (.blt b es)):=by
 have inst:∀ c,cg b=some c->lX b="isinstance"->bootBuiltins c=some (.type c)->X.mg c=none->(c:Str) ≠ "__name__"->((c:Str) == ("__debug__":Str))=false->bA X.env.scope (λxs=>chks T es X.N X.env.scope xs) es.length b args=kz X.env.scope (λxs=>chks T es X.N X.env.scope xs) es.length c args ->
   PE X (.Call (.Name x p) args [] pos) (tE X.K cal (.blt b es)):=λc hc hb hbt hm hn hd e=>by
  rw [e] at ha
  unfold kz at ha
  split at ha
  ·rename_i y t p2
   simp only [Bool.and_eq_true,beq_iff_eq] at ha
   obtain ⟨⟨⟨h2,h3⟩,h4⟩,h5⟩:=ha
   obtain ⟨_,hst,_⟩:=hs _ h4
   match es,h5,h1,h4 with
   | [m],_,h1,h4 =>
    rw [hx,hb] at hg ⊢
    exact zM g hc hg h2 h3 hbt hm hn hd (h1 m y rfl h4) (by simpa using hst)
  ·cases ha
 have plain:∀ n,cg b=none->dD b=some n->0 < n->bA X.env.scope (λxs=>chks T es X.N X.env.scope xs) es.length b args=(dD b == some es.length&&chks T es X.N X.env.scope args) ->
   ∃ e r,args=e::r/\PA X (e::r) (tEs X.K cal es)/\(e::r).all ag=true:=λn _ hn hpos eq=>by
  rw [eq,hn] at ha
  simp only [Bool.and_eq_true,beq_iff_eq,Option.some.injEq] at ha
  obtain ⟨q1,q2,q3⟩:=hs _ ha.2
  cases args with
  | nil=>rw [<- ha.1] at q3;simp at q3;omega
  | cons e r=>exact ⟨e,r,rfl,q1,q2⟩
 cases b with
 | len =>
  obtain ⟨e,r,rfl,q1,q2⟩:=plain 1 rfl rfl (by decide) rfl
  subst hx
  exact ⟨λz=>(by simp [bo] at z),oG Bv hg (g.blt "len" (by decide)) pL (by decide) (by decide) q1 q2⟩
 | tupleOf =>
  obtain ⟨e,r,rfl,q1,q2⟩:=plain 1 rfl rfl (by decide) rfl
  subst hx
  exact ⟨λz=>(by simp [bo] at z),zF w9 hg (g.blt "tuple" (by decide)) kI (by decide) (by decide) q1 q2⟩
 | listOf =>
  obtain ⟨e,r,rfl,q1,q2⟩:=plain 1 rfl rfl (by decide) rfl
  subst hx
  have q:=xg (p:=p) (pos:=pos) zz hg (g.blt "list" (by decide)) qG (by decide) (by decide) q1 q2
  exact ⟨λ_=>q,cT (dz (.inl rfl)) q⟩
 | sorted =>
  obtain ⟨e,r,rfl,q1,q2⟩:=plain 1 rfl rfl (by decide) rfl
  subst hx
  have q:=zG (p:=p) (pos:=pos) (uF g) hg (g.blt "sorted" (by decide)) jd (by decide) (by decide) q1 q2
  exact ⟨λ_=>q,cT (dz (.inr (.inl rfl))) q⟩
 | any =>
  obtain ⟨e,r,rfl,q1,q2⟩:=plain 1 rfl rfl (by decide) rfl
  subst hx
  exact ⟨λz=>(by simp [bo] at z),oG (Bw g.calm) hg (g.blt "any" (by decide)) zI (by decide) (by decide) q1 q2⟩
 | all =>
  obtain ⟨e,r,rfl,q1,q2⟩:=plain 1 rfl rfl (by decide) rfl
  subst hx
  exact ⟨λz=>(by simp [bo] at z),oG (Bx g.calm) hg (g.blt "all" (by decide)) zJ (by decide) (by decide) q1 q2⟩
 | intOf=>exact absurd ha Bool.false_ne_true
 | boolOf=>exact absurd ha Bool.false_ne_true
 | max2=>exact absurd ha Bool.false_ne_true
 | min2=>exact absurd ha Bool.false_ne_true
 | isInt=>exact ⟨λz=>(by simp [bo] at z),inst "int" rfl rfl zL (g.blt "int" (by decide)) (by decide) (by decide) rfl⟩
 | isBool=>exact ⟨λz=>(by simp [bo] at z),inst "bool" rfl rfl xl (g.blt "bool" (by decide)) (by decide) (by decide) rfl⟩
 | isStr=>exact absurd ha Bool.false_ne_true
 | isList=>exact absurd ha Bool.false_ne_true
 | isTuple=>exact ⟨λz=>(by simp [bo] at z),inst "tuple" rfl rfl kI (g.blt "tuple" (by decide)) (by decide) (by decide) rfl⟩
 | sortedSetT =>
  simp only [bA] at ha
  split at ha
  ·rename_i gg p2 y pos2
   simp only [Bool.and_eq_true,beq_iff_eq] at ha
   obtain ⟨⟨⟨h2,h3⟩,h4⟩,h5⟩:=ha
   obtain ⟨_,hst,_⟩:=hs _ h4
   match es,h5,h1,h4 with
   | [m],_,h1,h4 =>
    have q:=nj (p:=p) (p2:=p2) (pos:=pos) (pos2:=pos2) g hx h2 hg h3 (h1 m y rfl h4) (by simpa using hst)
    exact ⟨λ_=>q,cT oJ q⟩
  ·cases ha
 | sortedSet =>
  simp only [bA] at ha
  split at ha
  ·rename_i gg p2 y pos2
   simp only [Bool.and_eq_true,beq_iff_eq] at ha
   obtain ⟨⟨⟨h2,h3⟩,h4⟩,h5⟩:=ha
   obtain ⟨_,hst,_⟩:=hs _ h4
   match es,h5,h1,h4 with
   | [m],_,h1,h4 =>
    have q:=oH (p:=p) (p2:=p2) (pos:=pos) (pos2:=pos2) g hx h2 hg h3 (h1 m y rfl h4) (by simpa using hst)
    exact ⟨λ_=>q,cT (dz (.inr (.inr (.inl rfl)))) q⟩
  ·cases ha
 | sum =>
  obtain ⟨e,r,rfl,q1,q2⟩:=plain 1 rfl rfl (by decide) rfl
  subst hx
  exact ⟨λz=>(by simp [bo] at z),oG (By g.calm) hg (g.blt "sum" (by decide)) PyProof.Rows.boot_sum (by decide) (by decide) q1 q2⟩
 | max1 =>
  obtain ⟨e,r,rfl,q1,q2⟩:=plain 1 rfl rfl (by decide) rfl
  subst hx
  exact ⟨λz=>(by simp [bo] at z),oG (zB g.calm) hg (g.blt "max" (by decide)) zK (by decide) (by decide) q1 q2⟩
 | sortedKeys=>exact absurd ha Bool.false_ne_true
 | valuesOf =>
  simp only [bA] at ha
  split at ha
  ·rename_i y mm ap cp
   simp only [Bool.and_eq_true,beq_iff_eq] at ha
   obtain ⟨⟨⟨⟨h2,h3⟩,h4⟩,h5⟩,h6⟩:=ha
   subst h2
   match es,h6,h1,h5 with
   | [m],_,h1,h5 =>
    have q:=uZ (p:=p) (ap:=ap) (cp:=cp) (pos:=pos) g hx hg (h1 m y rfl h5) (base_of h3) (by rw [h4];simp)
    exact ⟨λ_=>q,cT (dz (.inr (.inr (.inr (.inr rfl))))) q⟩
  ·cases ha
 | min1=>simp [bA,cg,dD] at ha
 | tupleRng =>
  simp only [bA] at ha
  split at ha
  ·rename_i gg p2 y pos2
   simp only [Bool.and_eq_true,beq_iff_eq] at ha
   obtain ⟨⟨⟨h2,h3⟩,h4⟩,h5⟩:=ha
   obtain ⟨_,hst,_⟩:=hs _ h4
   match es,h5,h1,h4 with
   | [m],_,h1,h4=>exact ⟨λz=>(by simp [bo] at z),pM g hx h2 hg h3 (h1 m y rfl h4) (by simpa using hst)⟩
  ·cases ha
 | tupleRev=>simp [bA] at ha
 | lenSet =>
  simp only [bA] at ha
  split at ha
  ·rename_i gg p2 y pos2
   simp only [Bool.and_eq_true,beq_iff_eq] at ha
   obtain ⟨⟨⟨h2,h3⟩,h4⟩,h5⟩:=ha
   obtain ⟨_,hst,_⟩:=hs _ h4
   match es,h5,h1,h4 with
   | [m],_,h1,h4=>exact ⟨λz=>(by simp [bo] at z),uX g hx h2 hg h3 (h1 m y rfl h4) (by simpa using hst)⟩
  ·cases ha
 | lenSetSub =>
  simp only [bA] at ha
  split at ha
  ·rename_i gg p2 y q2 gg2 p3 y' q3 q4
   simp only [Bool.and_eq_true,beq_iff_eq] at ha
   obtain ⟨⟨⟨⟨⟨a1,a2⟩,a3⟩,a4⟩,a5⟩,a6⟩:=ha
   obtain ⟨_,hst,_⟩:=hs _ a5
   match es,a6,hh2,a5 with
   | [m,m'],_,hh2,a5 =>
    simp only [List.all_cons,List.all_nil,Bool.and_true,Bool.and_eq_true] at hst
    obtain ⟨b1,b2⟩:=hh2 m m' y y' rfl a5
    exact ⟨λz=>(by simp [bo] at z),oM g hx a1 a3 hg a2 a4 b1 b2 hst.1 hst.2⟩
  ·cases ha
end
section
variable {X:Cx}{T:Tab}{k:Nat}{cal:Cal}
theorem BM {neg:Bool}{mk ma:ME}{l r:Expr}{pos:Pos} (g:Gf X T k cal) (hk:PE X l (tE X.K cal mk)) (ha:PE X r (tE X.K cal ma)) (hm:behindInMarks (if neg=true then CmpOp.NotIn else CmpOp.In) r=false) :
  PE X (.Compare l [if neg=true then CmpOp.NotIn else CmpOp.In] [r] pos) (tE X.K cal (.dIn neg mk ma))/\PT X (.Compare l [if neg=true then CmpOp.NotIn else CmpOp.In] [r] pos) (tT X.K cal (.dIn neg mk ma)):=by
 have hu:X.A.units + 1 < cLine:=by have:=g.units;omega
 have go:∀ {σ:St}{H:Hp}{Q:Bool->Hp->Prop},(∃ B O₀ O ρ b,aJ X.K B O₀ O H ρ σ/\ev cal (.dIn neg mk ma) ρ=some (.bl b)/\∀ H',af H H'->Q b H') ->
   tE X.K cal mk σ H λy H1=>tE X.K cal ma σ H1 λx H2=>∃ a o,x=.ref a/\jY H2 a y o/\Q (if neg=true then !o.isSome else o.isSome) H2:=λ{σ H Q} q=>by
  obtain ⟨B,O₀,O,ρ,b,st,e1,q⟩:=q
  rw [ev] at e1
  simp only [Option.bind_eq_some_iff] at e1
  obtain ⟨y,e1,x,e2,e3⟩:=e1
  refine ⟨B,O₀,O,ρ,y,st,e1,λuy H1 s1 g1=>⟨B,O₀,O,ρ,x,st.mono s1,e2,λux H2 s2 g2=>?_⟩⟩
  rw [Option.map_eq_some_iff] at e3
  obtain ⟨o,e3,e4⟩:=e3
  cases x <;> try (cases e3;done)
  obtain ⟨a,rfl,ha⟩:=g2.1.dI
  refine ⟨a,_,rfl,ni e3 ha (g1.1.mono s2),?_⟩
  rw [Option.isSome_map,PV.bl.inj e4]
  exact q H2 (s1.trans s2)
 have unE:∀ {σ:St}{H:Hp}{Q:VK},tE X.K cal (.dIn neg mk ma) σ H Q->∃ B O₀ O ρ b,aJ X.K B O₀ O H ρ σ/\ev cal (.dIn neg mk ma) ρ=some (.bl b)/\∀ H',af H H'->Q (.bl b) H':=λ{σ H Q} q=>by
  obtain ⟨B,O₀,O,ρ,v,st,e1,q⟩:=q
  have hb:∃ b,v=.bl b:=by
   rw [ev] at e1
   simp only [Option.bind_eq_some_iff] at e1
   obtain ⟨y,_,x,_,e3⟩:=e1
   rw [Option.map_eq_some_iff] at e3
   obtain ⟨o,_,e4⟩:=e3
   exact ⟨_,e4.symm⟩
  obtain ⟨b,rfl⟩:=hb
  exact ⟨B,O₀,O,ρ,b,st,e1,λH' s=>q _ H' s (.of (de _ _))⟩
 have unT:∀ {σ:St}{H:Hp}{Q:Bool->Hp->Prop},tT X.K cal (.dIn neg mk ma) σ H Q->∃ B O₀ O ρ b,aJ X.K B O₀ O H ρ σ/\ev cal (.dIn neg mk ma) ρ=some (.bl b)/\∀ H',af H H'->Q b H':=λ{σ H Q} q=>by
  obtain ⟨B,O₀,O,ρ,b,st,e1,q⟩:=q
  unfold evB at e1
  simp only [Option.bind_eq_some_iff] at e1
  obtain ⟨v,e1,e2⟩:=e1
  cases v <;> simp only [aE,reduceCtorEq,Option.some.injEq] at e2
  subst e2
  exact ⟨B,O₀,O,ρ,_,st,e1,q⟩
 cases neg with
 | false =>
  refine ⟨(sG (tm hu hk ha) hm).imp λσ H Q q=>?_,(sH (tm hu hk ha) hm).imp λσ H Q q=>?_⟩
  ·exact go (Q:=λb H'=>Q (.bl b) H') (unE q)
  ·exact go (Q:=λb H'=>∃ c,V.bl b=.bl c/\Q c H') (by
    obtain ⟨B,O₀,O,ρ,b,st,e1,q⟩:=unT q
    exact ⟨B,O₀,O,ρ,b,st,e1,λH' s=>⟨b,rfl,q H' s⟩⟩)
 | true =>
  refine ⟨(sG (lH hu hk ha) hm).imp λσ H Q q=>?_,(sH (lH hu hk ha) hm).imp λσ H Q q=>?_⟩
  ·exact go (Q:=λb H'=>Q (.bl b) H') (unE q)
  ·exact go (Q:=λb H'=>∃ c,V.bl b=.bl c/\Q c H') (by
    obtain ⟨B,O₀,O,ρ,b,st,e1,q⟩:=unT q
    exact ⟨B,O₀,O,ρ,b,st,e1,λH' s=>⟨b,rfl,q H' s⟩⟩)
theorem zN {ma mk md:ME}{o e f:Expr}{ap cp:Pos} (g:Gf X T k cal) (ha:PE X o (tE X.K cal ma)) (hk:PE X e (tE X.K cal mk)) (hd:PE X f (tE X.K cal md)) (hb:kA o=true) (hl:(ap.endLine == cp.line)=true) (h1:ag e=true) (h2:ag f=true) :
  PE X (.Call (.Attribute o "get" ap) [e,f] [] cp) (tE X.K cal (.dget ma mk md)):=by
 have hu:X.A.units + 1 < cLine:=by have:=g.units;omega
 have st2:starEach [e,f] X.env=[(false,eval e X.env),(false,eval f X.env)]:=by rw [bj h1,bj h2];rfl
 have m:M2 X o "get" ap e f cp:=by
  refine ⟨base_of hb,?_,hl,?_⟩
  ·rw [st2];rfl
  ·rw [st2];rfl
 refine (tD hu ha hk hd m).imp λσ H Q q=>?_
 obtain ⟨B,O₀,O,ρ,v,st,e1,q⟩:=q
 rw [ev] at e1
 simp only [Option.bind_eq_some_iff,Option.map_eq_some_iff] at e1
 obtain ⟨x,e1,y,e2,z,e3,oo,e4,sz,e5,e6⟩:=e1
 cases x <;> try (cases e4;done)
 refine ⟨B,O₀,O,ρ,_,st,e1,λux H1 s1 g1=>?_⟩
 obtain ⟨a,rfl,hH⟩:=g1.1.dI
 refine ⟨a,rfl,m7 hH,B,O₀,O,ρ,_,st.mono s1,e2,λuy H2 s2 g2=>⟨B,O₀,O,ρ,z,st.mono (s1.trans s2),e3,λuz H3 s3 g3=>?_⟩⟩
 refine ⟨_,ni e4 (af.rd s3 (af.rd s2 hH)) (g2.1.mono s3),?_⟩
 rw [uY e5 g3.1]
 have e7:(oo.map Sc.v).getD sz.v=(oo.getD sz).v:=by cases oo <;> rfl
 rw [e7]
 refine q _ H3 (s1.trans (s2.trans s3)) ?_
 rw [<- e6]
 exact .of (pO _ _ _)
theorem BN {ma mk:ME}{o i:Expr}{pos:Pos} (g:Gf X T k cal) (ha:PE X o (tE X.K cal ma)) (hk:PE X i (tE X.K cal mk)) (hs:bE i=true):PE X (.Subscript o i pos) (tE X.K cal (.dat ma mk)):=by
 have hu:X.A.units + 1 < cLine:=by have:=g.units;omega
 refine (wC hu ha hk (by cases i <;> first|(intro _ _;rfl)|(simp [bE] at hs))).imp λσ H Q q=>?_
 obtain ⟨B,O₀,O,ρ,v,st,e1,q⟩:=q
 rw [ev] at e1
 simp only [Option.bind_eq_some_iff,Option.map_eq_some_iff] at e1
 obtain ⟨x,e1,y,e2,oo,e4,sz,rfl,e6⟩:=e1
 cases x <;> try (cases e4;done)
 refine ⟨B,O₀,O,ρ,_,st,e1,λux H1 s1 g1=>?_⟩
 obtain ⟨a,rfl,hH⟩:=g1.1.dI
 refine ⟨B,O₀,O,ρ,_,st.mono s1,e2,λuy H2 s2 g2=>?_⟩
 refine ⟨a,_,rfl,ni e4 (af.rd s2 hH) g2.1,q _ H2 (s1.trans s2) ?_⟩
 rw [<- e6]
 exact .of (pO _ _ _)
end
mutual
theorem aj {T:Tab}{k:Nat}{cal:Cal}:∀ (me:ME) {X:Cx}{e:Expr},Gf X T k cal->chk T me X.N X.env.scope e=true->PE X e (tE X.K cal me)/\PT X e (tT X.K cal me)
  | .var i,X,e,g,h=>by
    cases e <;> simp only [bK,bL,bM,bh,bN,bO,bP,bQ,dc,bR,bS,aQ,bT,bU,bV,aR,bW,bi,aF,Bool.false_eq_true] at h
    exact ⟨yc h,bm (yc h) rfl⟩
  | .bor i,X,e,g,h=>by
    cases e <;> simp only [bK,bL,bM,bh,bN,bO,bP,bQ,dc,bR,bS,aQ,bT,bU,bV,aR,bW,bi,aF,Bool.false_eq_true] at h
    exact ⟨yd h,bm (yd h) rfl⟩
  | .cst v,X,e,g,h=>by
    cases e <;> simp only [bK,bL,bM,bh,bN,bO,bP,bQ,dc,bR,bS,aQ,bT,bU,bV,aR,bW,bi,aF,Bool.false_eq_true] at h
    exact ⟨ye h,bm (ye h) rfl⟩
  | .glob x v,X,e,g,h=>by
    cases e <;> try (simp only [bK,bL,bM,bh,bN,bO,bP,bQ,dc,bR,bS,aQ,bT,bU,bV,aR,bW,bi,aF,Bool.false_eq_true] at h;done)
    exact ⟨uD g h,bm (uD g h) rfl⟩
  | .bin op a b,X,e,g,h=>by
    cases e <;> simp only [bK,bL,bM,bh,bN,bO,bP,bQ,dc,bR,bS,aQ,bT,bU,bV,aR,bW,bi,aF,Bool.false_eq_true,Bool.and_eq_true,beq_iff_eq] at h
    obtain ⟨⟨rfl,h1⟩,h2⟩:=h
    have p:=λ(pos:Pos)=>BC (op:=op) (pos:=pos) (aj a g h1).1 (aj b g h2).1
    exact ⟨p _,bm (p _) rfl⟩
  | .neg _,X,e,g,h=>absurd (show false=true from h) Bool.false_ne_true
  | .not a,X,e,g,h=>by
    cases e with
    | UnaryOp op x pos =>
      cases op <;> simp only [bK,bL,bM,bh,bN,bO,bP,bQ,dc,bR,bS,aQ,bT,bU,bV,aR,bW,bi,aF,Bool.false_eq_true] at h
      exact ⟨BD (aj a g h).1,BE (aj a g h).2⟩
    | _=>cases (show false=true from h)
  | .and a b,X,e,g,h=>by
    cases e with
    | BoolOp op vs pos =>
      cases op with
      | Or=>cases (show false=true from h)
      | And =>
        match vs,h with
        | [],h=>cases (show false=true from h)
        | [x],h=>cases (show false=true from h)
        | [x,y],h =>
          have h:(chk T a X.N X.env.scope x&&chk T b X.N X.env.scope y)=true:=h
          simp only [Bool.and_eq_true] at h
          exact ⟨yf (aj a g h.1).1 (sI (aj b g h.2).1),yh (aj a g h.1).2 (v9 (aj b g h.2).2)⟩
        | x::y::z::r,h =>
          have h:(chk T a X.N X.env.scope x&&chk T b X.N X.env.scope (.BoolOp .And (y::z::r) pos))=true:=h
          simp only [Bool.and_eq_true] at h
          exact ⟨yf (aj a g h.1).1 (aj b g h.2).1,yh (aj a g h.1).2 (yg (aj b g h.2).2)⟩
    | _=>cases (show false=true from h)
  | .or a b,X,e,g,h=>by
    cases e with
    | BoolOp op vs pos =>
      cases op with
      | And=>cases (show false=true from h)
      | Or =>
        match vs,h with
        | [],h=>cases (show false=true from h)
        | [x],h=>cases (show false=true from h)
        | [x,y],h =>
          have h:(chk T a X.N X.env.scope x&&chk T b X.N X.env.scope y)=true:=h
          simp only [Bool.and_eq_true] at h
          exact ⟨BF (aj a g h.1).1 (sI (aj b g h.2).1),BG (aj a g h.1).2 (yy (aj b g h.2).2)⟩
        | x::y::z::r,h =>
          have h:(chk T a X.N X.env.scope x&&chk T b X.N X.env.scope (.BoolOp .Or (y::z::r) pos))=true:=h
          simp only [Bool.and_eq_true] at h
          exact ⟨BF (aj a g h.1).1 (aj b g h.2).1,BG (aj a g h.1).2 (yg (aj b g h.2).2)⟩
    | _=>cases (show false=true from h)
  | .ite c a b,X,e,g,h=>by
    cases e <;> simp only [bK,bL,bM,bh,bN,bO,bP,bQ,dc,bR,bS,aQ,bT,bU,bV,aR,bW,bi,aF,Bool.false_eq_true,Bool.and_eq_true,Bool.not_eq_true'] at h
    obtain ⟨⟨⟨⟨h1,h2⟩,h3⟩,h4⟩,h5⟩:=h
    exact ⟨BH (aj c g h1).2 (aj a g h2).1 (aj b g h3).1 h4 h5,BI (aj c g h1).2 (aj a g h2).2 (aj b g h3).2⟩
  | .cmp op a b,X,e,g,h=>by
    cases e with
    | Compare l ops rs pos =>
      match ops,rs,h with
      | [o],[r],h =>
        simp only [bK,bL,bM,bh,bN,bO,bP,bQ,dc,bR,bS,aQ,bT,bU,bV,aR,bW,bi,aF,Bool.and_eq_true,beq_iff_eq,Bool.not_eq_true'] at h
        obtain ⟨⟨⟨rfl,h1⟩,h2⟩,h3⟩:=h
        exact BJ g (aj a g h1).1 (aj b g h2).1 h3
      | [],_,h=>cases (show false=true from h)
      | [_],[],h=>cases (show false=true from h)
      | [_],_::_::_,h=>cases (show false=true from h)
      | _::_::_,_,h=>cases (show false=true from h)
    | _=>cases (show false=true from h)
  | .chain _ _ _ _ _,X,e,g,h=>absurd (show false=true from h) Bool.false_ne_true
  | .tup es,X,e,g,h=>by
    cases e <;> simp only [bK,bL,bM,bh,bN,bO,bP,bQ,dc,bR,bS,aQ,bT,bU,bV,aR,bW,bi,aF,Bool.false_eq_true,Bool.and_eq_true] at h
    have p:=λ(j:Nat) (pos:Pos)=>BK (j:=j) (pos:=pos) (sounds es g h.1) h.2
    exact ⟨p _ _,bm (p _ _) rfl⟩
  | .lst es,X,e,g,h=>by
    cases e <;> simp only [bK,bL,bM,bh,bN,bO,bP,bQ,dc,bR,bS,aQ,bT,bU,bV,aR,bW,bi,aF,Bool.false_eq_true,Bool.and_eq_true] at h
    have p:=λ(pos:Pos)=>cT (λρ v hv=>by
      rw [ev,Option.bind_eq_some_iff] at hv
      obtain ⟨vs,_,hv⟩:=hv
      split at hv
      · cases hv;exact ⟨_,rfl⟩
      · cases hv) (yi (pos:=pos) (sounds es g h.1) h.2)
    exact ⟨p _,bm (p _) rfl⟩
  | .idx a i,X,e,g,h=>by
    cases e with
    | Subscript v s pos =>
      cases s <;> first
        | (simp only [bK,bL,bM,bh,bN,bO,bP,bQ,dc,bR,bS,aQ,bT,bU,bV,aR,bW,bi,aF,Bool.and_eq_true,Bool.false_eq_true] at h
           obtain ⟨⟨h1,h2⟩,h3⟩:=h
           have p:=BL (pos:=pos) (aj a g h1).1 (aj i g h2).1 h3
           exact ⟨p,bm p rfl⟩)
        | (simp [bK,bL,bM,bh,bN,bO,bP,bQ,dc,bR,bS,aQ,bT,bU,bV,aR,bW,bi,aF,bE] at h)
    | _=>cases (show false=true from h)
  | .slice a lo hi,X,e,g,h=>by
    cases e with
    | Subscript v s pos =>
      cases s with
      | Slice l u st p2 =>
        cases st with
        | none =>
          have h:(chk T a X.N X.env.scope v&&fS (λe=>chk T lo X.N X.env.scope e) (eB lo) l&&fS (λe=>chk T hi X.N X.env.scope e) (eB hi) u)=true:=h
          simp only [Bool.and_eq_true] at h
          obtain ⟨⟨h1,h2⟩,h3⟩:=h
          have q1:PO X l (tB1 X.K cal lo):=by
            cases l with
            | none=>exact uO h2
            | some l =>
              simp only [fS,Bool.and_eq_true,Bool.not_eq_true'] at h2
              exact uP (aj lo g h2.1).1 h2.2
          have q2:PO X u (tB1 X.K cal hi):=by
            cases u with
            | none=>exact uO h3
            | some u =>
              simp only [fS,Bool.and_eq_true,Bool.not_eq_true'] at h3
              exact uP (aj hi g h3.1).1 h3.2
          have p:=xc (p2:=p2) (pos:=pos) (aj a g h1).1 q1 q2
          exact ⟨p,bm p rfl⟩
        | some _=>cases (show false=true from h)
      | _=>cases (show false=true from h)
    | _=>cases (show false=true from h)
  | .blt b es,X,e,g,h=>by
    cases e with
    | Call fn args kws pos =>
      cases fn with
      | Name x p =>
        cases kws with
        | nil =>
          have h:(x == (lX b:Str)&&glB X.env.scope x&&bA X.env.scope (λxs=>chks T es X.N X.env.scope xs) es.length b args)=true:=h
          simp only [Bool.and_eq_true,beq_iff_eq] at h
          obtain ⟨⟨hx,hg⟩,ha⟩:=h
          have q:=(oO (p:=p) (pos:=pos) g hx hg ha (λxs hxs=>⟨sounds es g hxs,b6 hxs⟩) (λm x hm hx=>match es,hm with|[m'],rfl=>(aj m' g (by simp only [chks,Bool.and_eq_true] at hx;exact hx.1.1)).1) (λa b x x' hm hx=>match es,hm with|[m1,m2],rfl=>⟨(aj m1 g (by simp only [chks,Bool.and_eq_true] at hx;exact hx.1.1)).1,(aj m2 g (by simp only [chks,Bool.and_eq_true] at hx;exact hx.2.1.1)).1⟩)).2
          exact ⟨q,bm q rfl⟩
        | cons _ _=>cases (show false=true from h)
      | _=>cases (show false=true from h)
    | _=>cases (show false=true from h)
  | .call f es,X,e,g,h=>by
    cases e with
    | Call fn args kws pos =>
      cases fn with
      | Name x p =>
        cases kws with
        | nil =>
          have h:(T.fs[f]? == some x&&glB X.env.scope x&&az x&&chks T es X.N X.env.scope args)=true:=h
          simp only [Bool.and_eq_true,beq_iff_eq] at h
          obtain ⟨⟨⟨h1,h2⟩,h3⟩,h4⟩:=h
          obtain ⟨hs,hl⟩:=b6 h4
          have q:=zH (p:=p) (pos:=pos) g h1 h2 h3 (soundA es g h4) hs hl
          exact ⟨q,bm q rfl⟩
        | cons _ _=>cases (show false=true from h)
      | _=>cases (show false=true from h)
    | _=>cases (show false=true from h)
  | .callD _ _ _,X,e,g,h=>absurd (show false=true from h) Bool.false_ne_true
  | .dIn neg mk ma,X,e,g,h=>by
    cases e with
    | Compare l ops rs pos =>
      match ops,rs,h with
      | [o],[r],h =>
        simp only [zo,Bool.and_eq_true,beq_iff_eq,Bool.not_eq_true'] at h
        obtain ⟨⟨⟨rfl,h1⟩,h2⟩,h3⟩:=h
        exact BM g (aj mk g h1).1 (aj ma g h2).1 h3
      | [],_,h=>cases (show false=true from h)
      | [_],[],h=>cases (show false=true from h)
      | [_],_::_::_,h=>cases (show false=true from h)
      | _::_::_,_,h=>cases (show false=true from h)
    | _=>cases (show false=true from h)
  | .dat ma mk,X,e,g,h=>by
    cases e with
    | Subscript v s pos =>
      simp only [uq,Bool.and_eq_true] at h
      have p:=BN (pos:=pos) g (aj ma g h.1.1).1 (aj mk g h.1.2).1 h.2
      exact ⟨p,bm p rfl⟩
    | _=>simp only [uq,Bool.false_eq_true] at h
  | .dget ma mk md,X,e,g,h=>by
    cases e with
    | Call fn args kws pos =>
      cases fn with
      | Attribute o m ap =>
        match args,kws,h with
        | [x,y],[],h =>
          simp only [wT,Bool.and_eq_true,beq_iff_eq] at h
          obtain ⟨⟨⟨⟨⟨⟨⟨rfl,h1⟩,h2⟩,h3⟩,h4⟩,h5⟩,h6⟩,h7⟩:=h
          have p:=zN (ap:=ap) (cp:=pos) g (aj ma g h3).1 (aj mk g h4).1 (aj md g h5).1 h1 (by rw [h2];simp) h6 h7
          exact ⟨p,bm p rfl⟩
        | [],_,h=>cases (show false=true from h)
        | [_],_,h=>cases (show false=true from h)
        | _::_::_::_,_,h=>cases (show false=true from h)
        | [_,_],_::_,h=>cases (show false=true from h)
      | _=>cases (show false=true from h)
    | _=>cases (show false=true from h)
  | .comp k' src js cond elt,X,e,g,h=>by
    cases e with
    | ListComp e gens scope pos =>
      match gens,h with
      | [],h=>cases (show false=true from h)
      | ⟨tg,it,ifs,as⟩::[],h =>
        cases tg with
        | Name x px =>
          by_cases has:as=0
          · subst has
            have h:(dZ X.env.scope X.N scope x (bF X.N js) js&&dy X.env.scope false (λxs=>chks T src X.N X.env.scope xs) k' it&&kB (λc=>chk T cond (x::bF X.N js) (gz scope X.env.scope) c) cond ifs&&chk T elt (x::bF X.N js) (gz scope X.env.scope) e&&!aD elt)=true:=h
            simp only [Bool.and_eq_true,Bool.not_eq_true'] at h
            obtain ⟨⟨⟨⟨h1,h2⟩,h3⟩,h4⟩,h5⟩:=h
            have hw:=kK (tg:=.Name x px) (λz=>by cases z) g h2 (λxs hxs=>⟨sounds src g hxs,b6 hxs⟩) (λm x hm hx=>match src,hm with|[m'],rfl=>(aj m' g (by simp only [chks,Bool.and_eq_true] at hx;exact hx.1.1)).1)
            have q:=cT oN (pI (pos:=pos) g h1 hw.1 hw.2 (λs₁ H₁ C fp=>pN h3 λc hc=>(aj cond (g.blk x (bF X.N js) scope s₁ H₁ C fp) hc).2) (λs₁ H₁ C fp=>(aj elt (g.blk x (bF X.N js) scope s₁ H₁ C fp) h4).1) h5)
            exact ⟨q,bm q rfl⟩
          · exact absurd h (by
              have:chk T (.comp k' src js cond elt) X.N X.env.scope (.ListComp e [⟨.Name x px,it,ifs,as⟩] scope pos)=false:=by
                rw [aF]
                split <;> first|rfl|(rename_i z;simp_all)
              rw [this];exact Bool.false_ne_true)
        | _=>cases (show false=true from h)
      | _::_::_,h=>simp [aF] at h
    | _=>cases (show false=true from h)
theorem sounds {T:Tab}{k:Nat}{cal:Cal}:∀ (ms:List ME) {X:Cx}{es:List Expr},Gf X T k cal->chks T ms X.N X.env.scope es=true->PA X es (tEs X.K cal ms)
 | [],X,es,g,h=>by
  cases es with
  | nil=>exact xb
  | cons _ _=>simp [chks] at h
 | m::ms,X,es,g,h=>by
  cases es with
  | nil=>simp [chks] at h
  | cons e es =>
   simp only [chks,Bool.and_eq_true] at h
   exact uK (aj m g h.1.1).1 (sounds ms g h.2) h.1.2
theorem soundA {T:Tab}{k:Nat}{cal:Cal}:∀ (ms:List ME) {X:Cx}{es:List Expr},Gf X T k cal->chks T ms X.N X.env.scope es=true->PA X es (tAs X.K cal ms)
 | [],X,es,g,h=>by
  cases es with
  | nil=>exact uL
  | cons _ _=>simp [chks] at h
 | m::ms,X,es,g,h=>by
  cases es with
  | nil=>simp [chks] at h
  | cons e es =>
   simp only [chks,Bool.and_eq_true] at h
   have hs:=soundA ms g h.2
   cases hb:aD m with
   | false=>exact sd hb (aj m g h.1.1).1 hs h.1.2
   | true =>
    cases m <;> simp [aD] at hb
    have h1:=h.1.1
    cases e <;> simp only [bK,bL,bM,bh,bN,bO,bP,bQ,dc,bR,bS,aQ,bT,bU,bV,aR,bW,bi,aF,Bool.false_eq_true] at h1
    exact uN h1 hs
end
theorem zO {T:Tab}{k:Nat}{cal:Cal}{me:ME}{X:Cx}{e:Expr} (g:Gf X T k cal) (h:chk T me X.N X.env.scope e=true) (hf:bo me=true):PE X e (tF X.K cal me):=by
 cases me with
 | lst es =>
  cases e <;> simp only [bK,bL,bM,bh,bN,bO,bP,bQ,dc,bR,bS,aQ,bT,bU,bV,aR,bW,bi,aF,Bool.false_eq_true,Bool.and_eq_true] at h
  exact yi (sounds es g h.1) h.2
 | blt b es =>
  cases e with
  | Call fn args kws pos =>
   cases fn with
   | Name x p =>
    cases kws with
    | nil =>
     have h:(x == (lX b:Str)&&glB X.env.scope x&&bA X.env.scope (λxs=>chks T es X.N X.env.scope xs) es.length b args)=true:=h
     simp only [Bool.and_eq_true,beq_iff_eq] at h
     obtain ⟨⟨hx,hg⟩,ha⟩:=h
     exact (oO (p:=p) (pos:=pos) g hx hg ha (λxs hxs=>⟨sounds es g hxs,b6 hxs⟩) (λm x hm hx=>match es,hm with|[m'],rfl=>(aj m' g (by simp only [chks,Bool.and_eq_true] at hx;exact hx.1.1)).1) (λa b x x' hm hx=>match es,hm with|[m1,m2],rfl=>⟨(aj m1 g (by simp only [chks,Bool.and_eq_true] at hx;exact hx.1.1)).1,(aj m2 g (by simp only [chks,Bool.and_eq_true] at hx;exact hx.2.1.1)).1⟩)).1 hf
    | cons _ _=>cases (show false=true from h)
   | _=>cases (show false=true from h)
  | _=>cases (show false=true from h)
 | comp k' src js cond elt =>
  cases e with
  | ListComp e gens scope pos =>
   match gens,h with
   | [],h=>cases (show false=true from h)
   | ⟨tg,it,ifs,as⟩::[],h =>
    cases tg with
    | Name x px =>
     by_cases has:as=0
     ·subst has
      have h:(dZ X.env.scope X.N scope x (bF X.N js) js&&dy X.env.scope false (λxs=>chks T src X.N X.env.scope xs) k' it&&kB (λc=>chk T cond (x::bF X.N js) (gz scope X.env.scope) c) cond ifs&&chk T elt (x::bF X.N js) (gz scope X.env.scope) e&&!aD elt)=true:=h
      simp only [Bool.and_eq_true,Bool.not_eq_true'] at h
      obtain ⟨⟨⟨⟨h1,h2⟩,h3⟩,h4⟩,h5⟩:=h
      have hw:=kK (tg:=.Name x px) (λz=>by cases z) g h2 (λxs hxs=>⟨sounds src g hxs,b6 hxs⟩) (λm x hm hx=>match src,hm with|[m'],rfl=>(aj m' g (by simp only [chks,Bool.and_eq_true] at hx;exact hx.1.1)).1)
      exact pI (pos:=pos) g h1 hw.1 hw.2 (λs₁ H₁ C fp=>pN h3 λc hc=>(aj cond (g.blk x (bF X.N js) scope s₁ H₁ C fp) hc).2) (λs₁ H₁ C fp=>(aj elt (g.blk x (bF X.N js) scope s₁ H₁ C fp) h4).1) h5
     ·exact absurd h (by
       have:chk T (.comp k' src js cond elt) X.N X.env.scope (.ListComp e [⟨.Name x px,it,ifs,as⟩] scope pos)=false:=by
        rw [aF]
        split <;> first|rfl|(rename_i z;simp_all)
       rw [this];exact Bool.false_ne_true)
    | _=>cases (show false=true from h)
   | _::_::_,h=>simp [aF] at h
  | _=>cases (show false=true from h)
 | _=>simp [bo] at hf
end MM
namespace MM
open PySem PySem.Spec PyProof.Rows L2
noncomputable def BO:MV->Bool
 | .brw _=>true
 | .brwD _=>true
 | _=>false
theorem qI {m:MV} (h1:iE m=true) (h2:BO m=true):False:=by cases m <;> first|(cases h2;done)|(cases h1;done)
structure bG (B:Hp) (O O':List Addr) (ρ ρ':Rho) (σ σ':St):Prop where
 stay:∀ a,B a ≠ none->a ∈ O->a ∈ O'
 new:∀ a ∈ O',a ∈ O \/ B a=none
 brw:∀ (i:Nat) (m:MV),BO m=true->ρ'[i]?=some (some m)->ρ[i]?=some (some m)/\σ'[i]?=σ[i]?
 len:ρ'.length=ρ.length
theorem bG.refl {B:Hp}{O:List Addr}{ρ:Rho}{σ:St}:bG B O O ρ ρ σ σ:=⟨λ_ _ h=>h,λ_ h=>.inl h,λ_ _ _ h=>⟨h,rfl⟩,rfl⟩
theorem bG.trans {B:Hp}{O O1 O2:List Addr}{ρ ρ1 ρ2:Rho}{σ σ1 σ2:St} (a:bG B O O1 ρ ρ1 σ σ1) (b:bG B O1 O2 ρ1 ρ2 σ1 σ2):bG B O O2 ρ ρ2 σ σ2 where
 stay:=λx h1 h2=>b.stay x h1 (a.stay x h1 h2)
 new:=λx h=>(b.new x h).elim (a.new x) .inr
 brw:=λi xs hm h=>by
  obtain ⟨h1,e1⟩:=b.brw i xs hm h
  obtain ⟨h2,e2⟩:=a.brw i xs hm h1
  exact ⟨h2,e1.trans e2⟩
 len:=b.len.trans a.len
noncomputable def fV (K:PySem.W.Frag) (B:Hp) (O₀ O:List Addr) (ρ:Rho) (σ:St) (D:jz):R->Prop
 | .next ρ'=>∀ σ' H' O',aJ K B O₀ O' H' ρ' σ'->bG B O O' ρ ρ' σ σ'->D.nx σ' H'
 | .brk ρ'=>∀ σ' H' O',aJ K B O₀ O' H' ρ' σ'->bG B O O' ρ ρ' σ σ'->D.bk σ' H'
 | .cont ρ'=>∀ σ' H' O',aJ K B O₀ O' H' ρ' σ'->bG B O O' ρ ρ' σ σ'->D.ct σ' H'
 | .ret v=>∀ u H',af B H'->Rep K (ax H' O₀) v u->D.rt u H'
 | .bad=>False
theorem fV.trans {K:PySem.W.Frag}{B:Hp}{O₀ O O':List Addr}{ρ ρ':Rho}{σ σ':St}{D:jz}{r:R} (h:fV K B O₀ O ρ σ D r) (k:bG B O O' ρ ρ' σ σ'):fV K B O₀ O' ρ' σ' D r:=by
 cases r with
 | next ρ2=>exact λσ2 H2 O2 st k2=>h σ2 H2 O2 st (k.trans k2)
 | brk ρ2=>exact λσ2 H2 O2 st k2=>h σ2 H2 O2 st (k.trans k2)
 | cont ρ2=>exact λσ2 H2 O2 st k2=>h σ2 H2 O2 st (k.trans k2)
 | ret v=>exact h
 | bad=>exact h
noncomputable def tS (K:PySem.W.Frag) (cal:Cal) (m:MS):TS:=λD σ H=>∃ B O₀ O ρ,aJ K B O₀ O H ρ σ/\fV K B O₀ O ρ σ D (ex cal m ρ)
noncomputable def tSs (K:PySem.W.Frag) (cal:Cal) (ms:List MS):TS:=λD σ H=>∃ B O₀ O ρ,aJ K B O₀ O H ρ σ/\fV K B O₀ O ρ σ D (exs cal ms ρ)
section
variable {K:PySem.W.Frag}{B H H':Hp}{O₀ O:List Addr}{ρ:Rho}{σ:St}
theorem ac {i:Nat}{m:MV} (h:i < ρ.length):(put ρ i m)[i]?=some (some m):=by unfold put;exact List.getElem?_set_self h
theorem ab {i j:Nat}{m:MV} (h:i ≠ j):(put ρ i m)[j]?=ρ[j]?:=by unfold put;exact List.getElem?_set_ne h
theorem b7 {i:Nat}{m:MV}:(put ρ i m).length=ρ.length:=by unfold put;exact List.length_set
theorem aJ.store (st:aJ K B O₀ O H ρ σ) {i:Nat}{v:PV}{u:V} (hi:i < σ.length) (r:Rep K (ax H O) v u):aJ K B O₀ O H (put ρ i (.val v)) (σ.set i (some u))/\bG B O O ρ (put ρ i (.val v)) σ (σ.set i (some u)):=by
 have hi':i < ρ.length:=by rw [st.len];exact hi
 refine ⟨⟨st.keep,st.here,st.sub,st.old,by rw [b7,List.length_set];exact st.len,λj m e=>?_,λa b xs ys ad hab e1 e2 o1 o2 e3 e4=>?_
  ⟩,⟨λ_ _ h=>h,λ_ h=>.inl h,λj xs hbm e=>?_,b7
  ⟩⟩
 ·by_cases hj:i=j
  ·subst hj
   rw [ac hi'] at e
   cases e
   exact ⟨u,List.getElem?_set_self hi,r⟩
  ·rw [ab hj] at e
   obtain ⟨w,e1,q⟩:=st.slot j m e
   exact ⟨w,by rw [List.getElem?_set_ne hj];exact e1,q⟩
 ·have h1:i ≠ a:=λz=>by subst z;rw [ac hi'] at e1;cases e1;cases o1
  have h2:i ≠ b:=λz=>by subst z;rw [ac hi'] at e2;cases e2;cases o2
  rw [ab h1] at e1
  rw [ab h2] at e2
  rw [List.getElem?_set_ne h1] at e3
  rw [List.getElem?_set_ne h2] at e4
  exact st.apart a b xs ys ad hab e1 e2 o1 o2 e3 e4
 ·have hj:i ≠ j:=λz=>by subst z;rw [ac hi'] at e;cases e;cases hbm
  rw [ab hj] at e
  exact ⟨e,List.getElem?_set_ne hj⟩
theorem aJ.storeM (st:aJ K B O₀ O H ρ σ) {i:Nat}{mm:MV}{p:Addr} (hi:i < σ.length) (s:af H H') (hp:H p=none) (e:H' p ≠ none) (hm:iE mm=true)
  (r:B p=none->eA K B (p::O) H' mm (.ref p))
  :
  aJ K B O₀ (p::O) H' (put ρ i mm) (σ.set i (some (.ref p)))/\bG B O (p::O) ρ (put ρ i mm) σ (σ.set i (some (.ref p))):=by
 have hi':i < ρ.length:=by rw [st.len];exact hi
 have hBp:B p=none:=st.keep.free hp
 have vis:af (ax H O) (ax H' (p::O)):=bt s λb hb=>by
  rcases List.mem_cons.mp hb with rfl|hb
  ·exact .inr hp
  ·exact .inl hb
 refine ⟨⟨st.keep.trans s,λa ha=>?_,λa ha=>List.mem_cons_of_mem _ (st.sub a ha),st.old,by rw [b7,List.length_set];exact st.len,λj m ej=>?_,λa b xs ys ad hab e1 e2 o1 o2 e3 e4=>?_
  ⟩,⟨λ_ _ h=>List.mem_cons_of_mem _ h,λa ha=>?_,λj xs hbm ej=>?_,b7
  ⟩⟩
 ·rcases List.mem_cons.mp ha with rfl|ha
  ·exact e
  ·exact λz=>st.here a ha (s.free z)
 ·by_cases hj:i=j
  ·subst hj
   rw [ac hi'] at ej
   cases ej
   exact ⟨_,List.getElem?_set_self hi,r hBp⟩
  ·rw [ab hj] at ej
   obtain ⟨w,e1,q⟩:=st.slot j m ej
   refine ⟨w,by rw [List.getElem?_set_ne hj];exact e1,?_⟩
   cases m with
   | val v=>exact Rep.mono vis _ q
   | own ys=>obtain ⟨a,ws,e2,h1,h2,h3,h4⟩:=q;exact ⟨a,ws,e2,s _ _ h1,Reps.mono vis _ h2,List.mem_cons_of_mem _ h3,h4⟩
   | brw ys=>obtain ⟨a,ws,e2,h1,h2⟩:=q;exact ⟨a,ws,e2,h1,Reps.mono vis _ h2⟩
   | ownD ys=>obtain ⟨a,e2,h1,h3,h4⟩:=q;exact ⟨a,e2,s _ _ h1,List.mem_cons_of_mem _ h3,h4⟩
   | brwD ys=>exact q
 ·have other:∀ (j:Nat) (zs:MV) (ad:Addr),ρ[j]?=some (some zs)->iE zs=true->σ[j]?=some (some (.ref ad))->ad ≠ p:=λj zs ad h1 ho h2 z=>by
   obtain ⟨w,e1,q⟩:=st.slot j _ h1
   rw [h2] at e1
   cases e1
   cases zs with
   | own zs =>
    obtain ⟨a,ws,e2,h1,_⟩:=q
    cases e2
    rw [z,hp] at h1;cases h1
   | ownD zs =>
    obtain ⟨a,e2,h1,_⟩:=q
    cases e2
    rw [z,hp] at h1;cases h1
   | val _=>cases ho
   | brw _=>cases ho
   | brwD _=>cases ho
  by_cases ha:i=a
  ·subst ha
   have hb:i ≠ b:=hab
   rw [List.getElem?_set_self hi] at e3
   rw [ab hb] at e2
   rw [List.getElem?_set_ne hb] at e4
   cases e3
   exact other b ys _ e2 o2 e4 rfl
  ·by_cases hb:i=b
   ·subst hb
    rw [List.getElem?_set_self hi] at e4
    rw [ab ha] at e1
    rw [List.getElem?_set_ne ha] at e3
    cases e4
    exact other a xs _ e1 o1 e3 rfl
   ·rw [ab ha] at e1
    rw [ab hb] at e2
    rw [List.getElem?_set_ne ha] at e3
    rw [List.getElem?_set_ne hb] at e4
    exact st.apart a b _ _ ad hab e1 e2 o1 o2 e3 e4
 ·rcases List.mem_cons.mp ha with rfl|ha
  ·exact .inr hBp
  ·exact .inl ha
 ·have hj:i ≠ j:=λz=>by subst z;rw [ac hi'] at ej;cases ej;exact qI hm hbm
  rw [ab hj] at ej
  exact ⟨ej,List.getElem?_set_ne hj⟩
theorem aJ.storeOwn (st:aJ K B O₀ O H ρ σ) {i:Nat}{xs:List PV}{p:Addr}{us:List V} (hi:i < σ.length) (s:af H H') (hp:H p=none) (e:H' p=some (.lst us)) (r:Reps K (ax H' (p::O)) xs us) :
  aJ K B O₀ (p::O) H' (put ρ i (.own xs)) (σ.set i (some (.ref p)))/\bG B O (p::O) ρ (put ρ i (.own xs)) σ (σ.set i (some (.ref p))) :=
 st.storeM hi s hp (by rw [e];simp) rfl λhB=>⟨p,us,rfl,e,r,List.mem_cons_self,hB⟩
theorem aJ.changeM (st:aJ K B O₀ O H ρ σ) {i:Nat}{m0 m1:MV}{a:Addr}{ob:HO} (e:ρ[i]?=some (some m0)) (o0:iE m0=true) (o1:iE m1=true)
  (es:σ[i]?=some (some (.ref a))) (h3:a ∈ O) (h4:B a=none) (r:ax (upd H a ob) O=ax H O->eA K B O (upd H a ob) m1 (.ref a))
  :
  aJ K B O₀ O (upd H a ob) (put ρ i m1) σ/\bG B O O ρ (put ρ i m1) σ σ:=by
 have hi':i < ρ.length:=(List.getElem?_eq_some_iff.mp e).1
 have hid:ax (upd H a ob) O=ax H O:=iL h3
 have other:∀ (j:Nat) (zs:MV) (ad:Addr),i ≠ j->ρ[j]?=some (some zs)->iE zs=true->σ[j]?=some (some (.ref ad))->ad ≠ a:=λj zs ad hj q1 o2 q2 z=>by
  subst z
  exact st.apart i j m0 zs ad hj e q1 o0 o2 es q2
 refine ⟨⟨λb u eb=>?_,λb hb=>?_,st.sub,st.old,by rw [b7];exact st.len,λj m ej=>?_,λc d ps qs ad hcd e1 e2 p1 p2 e3 e4=>?_
  ⟩,⟨λ_ _ h=>h,λ_ h=>.inl h,λj zs hbm ej=>?_,b7
  ⟩⟩
 ·rw [aW (bx eb h4)]
  exact st.keep b u eb
 ·unfold upd
  split
  ·simp
  ·exact st.here b hb
 ·by_cases hj:i=j
  ·subst hj
   rw [ac hi'] at ej
   cases ej
   exact ⟨_,es,r hid⟩
  ·rw [ab hj] at ej
   obtain ⟨w,ew,q⟩:=st.slot j m ej
   refine ⟨w,ew,?_⟩
   cases m with
   | val v=>show Rep K (ax (upd H a ob) O) v w;rw [hid];exact q
   | own zs =>
    obtain ⟨ad,ws,rfl,q1,q2,q3,q4⟩:=q
    refine ⟨ad,ws,rfl,?_,by rw [hid];exact q2,q3,q4⟩
    rw [aW (other j (.own zs) ad hj ej rfl ew)]
    exact q1
   | ownD zs =>
    obtain ⟨ad,rfl,q1,q3,q4⟩:=q
    refine ⟨ad,rfl,?_,q3,q4⟩
    rw [aW (other j (.ownD zs) ad hj ej rfl ew)]
    exact q1
   | brwD zs=>exact q
   | brw zs=>obtain ⟨ad,ws,rfl,q1,q2⟩:=q;exact ⟨ad,ws,rfl,q1,by rw [hid];exact q2⟩
 ·have h1:∀ (j:Nat) (zs:MV),(put ρ i m1)[j]?=some (some zs)->iE zs=true->∃ zs,ρ[j]?=some (some zs)/\iE zs=true:=λj zs q oz=>by
   by_cases hj:i=j
   ·subst hj;exact ⟨m0,e,o0⟩
   ·rw [ab hj] at q;exact ⟨zs,q,oz⟩
  obtain ⟨q1,e1,p1⟩:=h1 c ps e1 p1
  obtain ⟨q2,e2,p2⟩:=h1 d qs e2 p2
  exact st.apart c d q1 q2 ad hcd e1 e2 p1 p2 e3 e4
 ·have hj:i ≠ j:=λz=>by subst z;rw [ac hi'] at ej;cases ej;exact qI o1 hbm
  rw [ab hj] at ej
  exact ⟨ej,rfl⟩
theorem aJ.change (st:aJ K B O₀ O H ρ σ) {i:Nat}{xs ys:List PV}{a:Addr}{us:List V} (e:ρ[i]?=some (some (.own xs))) (es:σ[i]?=some (some (.ref a))) (r:Reps K (ax H O) ys us) :
  aJ K B O₀ O (upd H a (.lst us)) (put ρ i (.own ys)) σ/\bG B O O ρ (put ρ i (.own ys)) σ σ:=by
 obtain ⟨w,e1,a',us',e2,h1,h2,h3,h4⟩:=st.slot i _ e
 rw [es] at e1
 cases e1
 cases e2
 exact st.changeM e rfl rfl es h3 h4 λhid=>⟨a,us,rfl,ay,by rw [hid];exact r,h3,h4⟩
theorem aJ.changeD (st:aJ K B O₀ O H ρ σ) {i:Nat}{xs ys:DD}{a:Addr} (e:ρ[i]?=some (some (.ownD xs))) (es:σ[i]?=some (some (.ref a))) :
  aJ K B O₀ O (upd H a (eQ ys)) (put ρ i (.ownD ys)) σ/\bG B O O ρ (put ρ i (.ownD ys)) σ σ:=by
 obtain ⟨w,e1,a',e2,h1,h3,h4⟩:=st.slot i _ e
 rw [es] at e1
 cases e1
 cases e2
 exact st.changeM e rfl rfl es h3 h4 λ_=>⟨a,rfl,ay,h3,h4⟩
theorem aJ.freeze (st:aJ K B O₀ O H ρ σ) {i:Nat}{xs:List PV} (e:ρ[i]?=some (some (.own xs))):∃ O',aJ K B O₀ O' H (put ρ i (.val (.lst xs))) σ/\bG B O O' ρ (put ρ i (.val (.lst xs))) σ σ:=by
 obtain ⟨w,es,a,us,rfl,h1,h2,h3,h4⟩:=st.slot i _ e
 have hi':i < ρ.length:=(List.getElem?_eq_some_iff.mp e).1
 have vis:af (ax H O) (ax H (O.filter λb=>decide (b ≠ a))):=bt (af.refl H) λb hb=>.inl (List.mem_filter.mp hb).1
 have mem:∀ b,b ≠ a->b ∈ O->b ∈ O.filter λb=>decide (b ≠ a):=λb hb ho=>List.mem_filter.mpr ⟨ho,decide_eq_true hb⟩
 refine ⟨O.filter λb=>decide (b ≠ a),⟨st.keep,λb hb=>st.here b (List.mem_filter.mp hb).1,λb hb=>mem b (λz=>st.old b hb (z ▸ h4)) (st.sub b hb),st.old,by rw [b7];exact st.len,λj m ej=>?_,λc d ps qs ad hcd e1 e2 p1 p2 e3 e4=>?_
  ⟩,⟨λb hb ho=>mem b (λz=>hb (z ▸ h4)) ho,λb hb=>.inl (List.mem_filter.mp hb).1,λj zs hbm ej=>?_,b7
  ⟩⟩
 ·by_cases hj:i=j
  ·subst hj
   rw [ac hi'] at ej
   cases ej
   refine ⟨_,es,?_⟩
   show Rep K _ (.lst xs) (.ref a)
   rw [Rep]
   refine ⟨a,us,rfl,SqL.of ?_,Reps.mono vis _ h2⟩
   have hna:a ∉ O.filter λb=>decide (b ≠ a):=λz=>by simpa using (List.mem_filter.mp z).2
   rw [bJ hna]
   exact h1
  ·rw [ab hj] at ej
   obtain ⟨w,ew,q⟩:=st.slot j m ej
   refine ⟨w,ew,?_⟩
   cases m with
   | val v=>exact Rep.mono vis _ q
   | own zs =>
    obtain ⟨ad,ws,rfl,q1,q2,q3,q4⟩:=q
    exact ⟨ad,ws,rfl,q1,Reps.mono vis _ q2,mem ad (λz=>st.apart i j (.own xs) (.own zs) a hj e ej rfl rfl es (by rw [ew,z])) q3,q4⟩
   | ownD zs =>
    obtain ⟨ad,rfl,q1,q3,q4⟩:=q
    exact ⟨ad,rfl,q1,mem ad (λz=>st.apart i j (.own xs) (.ownD zs) a hj e ej rfl rfl es (by rw [ew,z])) q3,q4⟩
   | brwD zs=>exact q
   | brw zs=>obtain ⟨ad,ws,rfl,q1,q2⟩:=q;exact ⟨ad,ws,rfl,q1,Reps.mono vis _ q2⟩
 ·have h1:∀ (j:Nat) (zs:MV),iE zs=true->(put ρ i (.val (.lst xs)))[j]?=some (some zs)->ρ[j]?=some (some zs):=λj zs oz q=>by
   by_cases hj:i=j
   ·subst hj;rw [ac hi'] at q;cases q;cases oz
   ·rw [ab hj] at q;exact q
  exact st.apart c d ps qs ad hcd (h1 c ps p1 e1) (h1 d qs p2 e2) p1 p2 e3 e4
 ·have hj:i ≠ j:=λz=>by subst z;rw [ac hi'] at ej;cases ej;cases hbm
  rw [ab hj] at ej
  exact ⟨ej,rfl⟩
end
end MM
namespace MM
open PySem PySem.Spec PyProof.Rows L2
section
open AutoSeq1 (wpAny_loadPart')
open MeetsSeq MeetsSeq2 MeetsSeq3 SeqRoads2 AutoSeq1
theorem nk (l:Addr) (items:Array Value) (n:Nat) (b:Addr) (items2:Array Value) (n2:Nat) (dd2:Option Addr) (sl2:Array (Option Value)) (hs0:¬(!items.isEmpty&&Builtin.List.listTooLong (items.size + items2.size))=true) (hs1:items.size <= sizeLine) (hs2:items.size + items2.size <= sizeLine + 1) :
  Meets (Builtin.«list.extend» ⟨[.ref l,.ref b],[]⟩) (λ_ R s=>s.heap.get? l=some { cls:=.type "list",dict:=none,data:=.seq items n,slots:=#[] }/\s.heap.get? b=some { cls:=.type "tuple",dict:=dd2,data:=.seq items2 n2,slots:=sl2 }/\R (.ok (.ret Value.none)) { s with heap:=s.heap.update l (Obj.mapSeq λx=>x ++ items2),toks:=s.toks }) :=
 .of_wp λprog w A R s h=>by
  obtain ⟨hp,g,d,tk,os⟩:=s;obtain ⟨hl,hb,h⟩:=h;have f1:=AutoSeq1.idx_int;have f2:=AutoSeq1.sub_tuple_tuple;have f3:=AutoSeq1.sub_list_list;have f4:=AutoSeq1.sub_tuple_list;have f5:=AutoSeq1.sub_list_tuple;
  have hz':(items ++ items2).size <= sizeLine + 1:=by rw [Array.size_append];exact hs2
  wp_walk using (wpAny_updateSeq hl rfl (hz:=hs1) (_hz':=hz')),wpAny_loadPart' hl,wpAny_loadPart' hb;exact ⟨_,rfl,h⟩
theorem nl (l:Addr) (items:Array Value) (n:Nat) (b:Addr) (items2:Array Value) (n2:Nat) (dd2:Option Addr) (sl2:Array (Option Value)) (hs0:¬(!items.isEmpty&&Builtin.List.listTooLong (items.size + items2.size))=true) (hs1:items.size <= sizeLine) (hs2:items.size + items2.size <= sizeLine + 1) :
  Meets (Builtin.«list.extend» ⟨[.ref l,.ref b],[]⟩) (λ_ R s=>s.heap.get? l=some { cls:=.type "list",dict:=none,data:=.seq items n,slots:=#[] }/\s.heap.get? b=some { cls:=.type "list",dict:=dd2,data:=.seq items2 n2,slots:=sl2 }/\R (.ok (.ret Value.none)) { s with heap:=s.heap.update l (Obj.mapSeq λx=>x ++ items2),toks:=s.toks }) :=
 .of_wp λprog w A R s h=>by
  obtain ⟨hp,g,d,tk,os⟩:=s;obtain ⟨hl,hb,h⟩:=h;have f1:=AutoSeq1.idx_int;have f2:=AutoSeq1.sub_tuple_tuple;have f3:=AutoSeq1.sub_list_list;have f4:=AutoSeq1.sub_tuple_list;have f5:=AutoSeq1.sub_list_tuple;
  have hz':(items ++ items2).size <= sizeLine + 1:=by rw [Array.size_append];exact hs2
  wp_walk using (wpAny_updateSeq hl rfl (hz:=hs1) (_hz':=hz')),wpAny_loadPart' hl,wpAny_loadPart' hb;exact ⟨_,rfl,h⟩
end
section
variable {X:Cx}{T:Tab}{k:Nat}{cal:Cal}
theorem pP:MtM X "list.extend" (λx vs H Q=>∃ l b xs zs,x=.ref l/\vs=[.ref b]/\H l=some (.lst xs)/\(SqL X.K H b zs \/ SqT X.K H b zs)/\xs.length + zs.length <= sizeLine/\Q .non (upd H l (.lst (xs ++ zs)))):=by
 intro pins s σ H x vs v us Q I rx rv h
 obtain ⟨l,b,xs,zs,rfl,rfl,hH,hB,hz,q⟩:=h
 cases rx
 obtain ⟨u,rfl,ru⟩:=rv.one
 cases ru
 obtain ⟨z,its,n,r,hl,e⟩:=I.lstM hH
 have fin:∀ its2:List Value,ar zs its2->EP X pins σ Q .none { s with heap:=s.heap.update l (Obj.mapSeq λx=>x ++ its2.toArray),toks:=s.toks }:=λits2 r2 =>
  ⟨.non,_,I.lset (its':=its ++ its2) hH e (by simp) (r.append r2) (by rw [List.length_append];omega),rfl,q⟩
 rcases hB with hB|hB
 ·obtain ⟨its2,r2,pl,z2⟩:=I.list hB
  have hl2:=r2.length
  have hsz:its.toArray.size + its2.toArray.size <= sizeLine:=by rw [List.size_toArray,List.size_toArray];omega
  have hlong:¬ (!its.toArray.isEmpty&&Builtin.List.listTooLong (its.toArray.size + its2.toArray.size))=true:=by
   rw [nE hsz,Bool.and_false]
   exact Bool.false_ne_true
  obtain ⟨⟨cls,dd,data,sl⟩,ho,hc,n2,hd⟩:=pl.isList
  simp only at hc hd
  subst hc hd
  exact call_meets PySem.F.slot_list_extend ⟨_,e,rfl⟩ PySem.F.entry_list_extend (PySem.F.args_list_extend_2 _ _) (nl l its.toArray n b its2.toArray n2 dd sl hlong (by rw [List.size_toArray];omega) (by omega)) ⟨e,ho,fin its2 r2⟩
 ·obtain ⟨its2,r2,pl,z2⟩:=I.tuple hB
  have hl2:=r2.length
  have hsz:its.toArray.size + its2.toArray.size <= sizeLine:=by rw [List.size_toArray,List.size_toArray];omega
  have hlong:¬ (!its.toArray.isEmpty&&Builtin.List.listTooLong (its.toArray.size + its2.toArray.size))=true:=by
   rw [nE hsz,Bool.and_false]
   exact Bool.false_ne_true
  obtain ⟨⟨cls,dd,data,sl⟩,ho,hc,n2,hd⟩:=pl
  simp only at hc hd
  subst hc hd
  exact call_meets PySem.F.slot_list_extend ⟨_,e,rfl⟩ PySem.F.entry_list_extend (PySem.F.args_list_extend_2 _ _) (nk l its.toArray n b its2.toArray n2 dd sl hlong (by rw [List.size_toArray];omega) (by omega)) ⟨e,ho,fin its2 r2⟩
structure Df (X:Cx):Prop where
 nd:X.N.Nodup
 fn:∀ x,X.fn x=true
 own:PassesOwn (model X.prog X.w) X.A X.env X.xe
 blk:(X.env.blockKind == .function)=true
theorem fh {v:Expr} (h:cq v=true) (t:Option Expr) (n:Nat) (env:Env):swapsWith v t n env=pure false:=by
 cases v <;> first|rfl|(simp [cq] at h)
theorem se {v:Expr}{x:Str}{px:Pos}{n:Nat} (d:Df X) (h:qu X.env.scope x px v=true):swapsWith v (some (.Name x px)) n X.env=pure true:=by
 cases v with
 | ListComp e gs s p =>
  show pure (X.env.blockKind == .function&&X.env.kindOf x == some .local&&px.line == p.line&&!(s.names.any λ(n,k)=>n == x&&(k == .local || k == .cell)))=pure true
  have h':(X.env.scope.names.lookup x == some .local&&px.line == p.line&&!(s.names.any λ(n,k)=>n == x&&(k == .local || k == .cell)))=true:=h
  rw [d.blk,Bool.true_and]
  exact congrArg pure h'
 | _=>simp [qu] at h
theorem PS.imp' {e:Stmt}{t t':TS} (h:PS X e t) (i:∀ D σ H,σ.length=X.N.length->t' D σ H->t D σ H):PS X e t':=λpins s σ H D I q=>h pins s σ H D I (i D σ H I.len q)
theorem ltN {N:List Str}{i:Nat}{x:Str}{σ:St} (h:N[i]?=some x) (hl:σ.length=N.length):i < σ.length:=by rw [hl];exact (List.getElem?_eq_some_iff.mp h).1
theorem cV {K:PySem.W.Frag}{B:Hp}{O₀ O:List Addr}{ρ:Rho}{σ:St}{D:jz}{o:Option PV}{f:PV->R} (h:fV K B O₀ O ρ σ D (eP o f)):∃ v,o=some v/\fV K B O₀ O ρ σ D (f v):=by
 cases o with
 | none=>exact (show False from h).elim
 | some v=>exact ⟨v,rfl,h⟩
theorem sf {K:PySem.W.Frag}{B:Hp}{O₀ O:List Addr}{ρ:Rho}{σ:St}{D:jz}{o:Option Bool}{f:Bool->R} (h:fV K B O₀ O ρ σ D (um o f)):∃ v,o=some v/\fV K B O₀ O ρ σ D (f v):=by
 cases o with
 | none=>exact (show False from h).elim
 | some v=>exact ⟨v,rfl,h⟩
theorem u0 {i:Nat}{me:ME}{σ:St}{H:Hp}{D:jz}{K:PySem.W.Frag} (hi:i < σ.length) (hb:aD me=false) (q:tS K cal (.set i me) D σ H):sO (tE K cal me) (ii i) D σ H:=by
 obtain ⟨B,O₀,O,ρ,st,q⟩:=q
 rw [ex] at q
 obtain ⟨w,e,q⟩:=cV q
 refine ⟨B,O₀,O,ρ,w,st,e,λu H' s g=>?_⟩
 obtain ⟨st',k'⟩:=(st.mono s).store hi (g.2 hb)
 exact q _ H' O st' k'
theorem BP {i:Nat}{me:ME}{x:Str}{v:Expr}{px pos:Pos} (d:Df X) (hi:X.N[i]?=some x) (hx:Loc X.env.scope x) (h:PE X v (tE X.K cal me)) (hb:aD me=false) (hc:cq v=true):PS X (.Assign [.Name x px] v pos) (tS X.K cal (.set i me)) :=
 PS.imp' (mx d.nd hi hx h (fh hc _ _ _) (.inl (d.fn x))) λD σ H hl q=>u0 (ltN hi hl) hb q
theorem u3 {i:Nat}{me:ME}{σ:St}{H:Hp}{D:jz}{K:PySem.W.Frag} (hi:i < σ.length) (q:tS K cal (.setOwn i me) D σ H):sO (tF K cal me) (ii i) D σ H:=by
 obtain ⟨B,O₀,O,ρ,st,q⟩:=q
 rw [ex] at q
 obtain ⟨w,e,q⟩:=cV q
 cases w with
 | lst xs =>
  refine ⟨B,O₀,O,ρ,xs,st,e,λp us H' s hp he r=>?_⟩
  obtain ⟨st',k'⟩:=st.storeOwn hi s hp he r
  exact q _ H' _ st' k'
 | _=>exact (show False from q).elim
theorem BQ {i:Nat}{me:ME}{x:Str}{v:Expr}{px pos:Pos} (d:Df X) (hi:X.N[i]?=some x) (hx:Loc X.env.scope x) (h:PE X v (tF X.K cal me)) (hc:cq v=true):PS X (.Assign [.Name x px] v pos) (tS X.K cal (.setOwn i me)) :=
 PS.imp' (mx d.nd hi hx h (fh hc _ _ _) (.inl (d.fn x))) λD σ H hl q=>u3 (ltN hi hl) q
theorem u4 {i:Nat}{me:ME}{x:Str}{v:Expr}{p apos cpos pos:Pos} (h:PE X v (tE X.K cal me)) (hn:a8 X.N X.env.scope i x=true) (hb:aD me=false) (hs:ag v=true) (hline:(apos.endLine == cpos.line)=true) :
  PS X (.Expr (.Call (.Attribute (.Name x p) "append" apos) [v] [] cpos) pos) (tS X.K cal (.append i me)):=by
 refine (p6 (xQ PySem.F.plainAttrs_list PySem.F.slot_list_append PySem.F.type_list_append lE (c7 hn) (aX h bI (bj hs _ _)) rfl (by rw [bj hs];rfl) hline (bj hs _ _) rfl) rfl).imp λD σ H q=>?_
 obtain ⟨B,O₀,O,ρ,st,q⟩:=q
 rw [ex] at q
 obtain ⟨w,e,q⟩:=cV q
 cases hj:(ρ[i]?).join with
 | none=>rw [hj] at q;exact (show False from q).elim
 | some m =>
  rw [hj] at q
  cases m with
  | own xs =>
   dsimp only at q
   split at q
   ·rename_i hl
    obtain ⟨u,eu,a,us,rfl,ha,rs,hO,hB⟩:=cs st hj
    refine ⟨_,eu,.inl ⟨rfl,us,SqL.of ha⟩,B,O₀,O,ρ,w,st,e,λu H1 s g=>⟨a,us,u,rfl,rfl,s _ _ ha,?_,?_⟩⟩
    ·rw [<- rs.length];exact Nat.lt_of_lt_of_le hl (by decide)
    ·obtain ⟨st',k'⟩:=(st.mono s).change (us:=us ++ [u]) (ys:=xs ++ [w]) (bZ hj) eu ((Reps.mono (aA s) _ rs).snoc (g.2 hb))
     exact q _ _ _ st' k'
   ·exact (show False from q).elim
  | val _=>exact (show False from q).elim
  | brw _=>exact (show False from q).elim
  | ownD _=>exact (show False from q).elim
  | brwD _=>exact (show False from q).elim
theorem u5 {i:Nat}{me:ME}{x:Str}{v:Expr}{p apos cpos pos:Pos} (h:PE X v (tE X.K cal me)) (hn:a8 X.N X.env.scope i x=true) (hs:ag v=true) (hline:(apos.endLine == cpos.line)=true) :
  PS X (.Expr (.Call (.Attribute (.Name x p) "extend" apos) [v] [] cpos) pos) (tS X.K cal (.extend i me)):=by
 refine (p6 (xQ PySem.F.plainAttrs_list PySem.F.slot_list_extend PySem.F.type_list_extend pP (c7 hn) (aX h bI (bj hs _ _)) rfl (by rw [bj hs];rfl) hline (bj hs _ _) rfl) rfl).imp λD σ H q=>?_
 obtain ⟨B,O₀,O,ρ,st,q⟩:=q
 rw [ex] at q
 obtain ⟨w,e,q⟩:=cV q
 cases hj:(ρ[i]?).join with
 | none=>rw [hj] at q;exact (show False from q).elim
 | some m =>
  rw [hj] at q
  cases m with
  | own xs =>
   cases hw:aO w with
   | none=>rw [hw] at q;exact (show False from q).elim
   | some ys =>
    rw [hw] at q
    dsimp only at q
    split at q
    ·rename_i hl
     obtain ⟨u,eu,a,us,rfl,ha,rs,hO,hB⟩:=cs st hj
     refine ⟨_,eu,.inl ⟨rfl,us,SqL.of ha⟩,B,O₀,O,ρ,w,st,e,λu H1 s g=>?_⟩
     obtain ⟨b,ws,rfl,sq,rw'⟩:=g.1.seq hw
     refine ⟨a,b,us,ws,rfl,rfl,s _ _ ha,sq,?_,?_⟩
     ·rw [<- rs.length,<- rw'.length];exact eR hl
     ·obtain ⟨st',k'⟩:=(st.mono s).change (us:=us ++ ws) (ys:=xs ++ ys) (bZ hj) eu ((Reps.mono (aA s) _ rs).append rw')
      exact q _ _ _ st' k'
    ·exact (show False from q).elim
  | val _=>exact (show False from q).elim
  | brw _=>exact (show False from q).elim
  | ownD _=>exact (show False from q).elim
  | brwD _=>exact (show False from q).elim
theorem zP {m:Bool}{i:Nat}{x:Str}{px dp pos:Pos} (d:Df X) (hi:X.N[i]?=some x) (hx:Loc X.env.scope x):PS X (.Assign [.Name x px] (.Dict [] [] dp) pos) (tS X.K cal (.newD m i)):=by
 cases m with
 | false =>
  refine PS.imp' (mx d.nd hi hx tw (fh (v:=.Dict [] [] dp) rfl _ _ _) (.inl (d.fn x))) λD σ H hl q=>?_
  obtain ⟨B,O₀,O,ρ,st,q⟩:=q
  rw [ex] at q
  intro p hp
  obtain ⟨st',k'⟩:=st.storeM (mm:=.ownD (.k [])) (ltN hi hl) (ah hp (.dK [])) hp (by rw [ay];simp) rfl λhB=>⟨p,rfl,ay,List.mem_cons_self,hB⟩
  exact q _ _ _ st' k'
 | true =>
  refine PS.imp' (mx d.nd hi hx tz (fh (v:=.Dict [] [] dp) rfl _ _ _) (.inl (d.fn x))) λD σ H hl q=>?_
  obtain ⟨B,O₀,O,ρ,st,q⟩:=q
  rw [ex] at q
  intro p hp
  obtain ⟨st',k'⟩:=st.storeM (mm:=.ownD (.t [])) (ltN hi hl) (ah hp (.dT [])) hp (by rw [ay];simp) rfl λhB=>⟨p,rfl,ay,List.mem_cons_self,hB⟩
  exact q _ _ _ st' k'
theorem zQ {i:Nat}{mk me:ME}{x:Str}{v s:Expr}{p spos pos:Pos} (g0:Gf X T k cal) (hk:PE X s (tE X.K cal mk)) (h:PE X v (tE X.K cal me)) (hn:a8 X.N X.env.scope i x=true) (hc:cq v=true) :
  PS X (.Assign [.Subscript (.Name x p) s spos] v pos) (tS X.K cal (.dput i mk me)):=by
 have hu:X.A.units + 1 < cLine:=by have:=g0.units;omega
 refine (wD hu (c7 hn) hk h (by cases v <;> first|rfl|(simp [cq] at hc))).imp λD σ H q=>?_
 obtain ⟨B,O₀,O,ρ,st,q⟩:=q
 rw [ex] at q
 obtain ⟨w,e,q⟩:=cV q
 obtain ⟨kv,ek,q⟩:=cV q
 cases hj:(ρ[i]?).join with
 | none=>rw [hj] at q;exact (show False from q).elim
 | some m =>
  rw [hj] at q
  cases m with
  | ownD d =>
   cases hz:sc? w with
   | none=>rw [hz] at q;exact (show False from q).elim
   | some sz =>
    rw [hz] at q
    dsimp only at q
    cases hd:uh d kv sz with
    | none=>rw [hd] at q;exact (show False from q).elim
    | some d' =>
     rw [hd] at q
     obtain ⟨u,eu,a,rfl,ha,hO,hB⟩:=cs st hj
     refine ⟨B,O₀,O,ρ,w,st,e,λu H1 s1 g1=>⟨_,eu,B,O₀,O,ρ,_,st.mono s1,ek,λuk H2 s2 g2=>?_⟩⟩
     refine ⟨a,_,rfl,by rw [uY hz g1.1];exact xi hd (s2 _ _ (s1 _ _ ha)) g2.1,?_⟩
     obtain ⟨st',k'⟩:=((st.mono s1).mono s2).changeD (ys:=d') (bZ hj) eu
     exact q _ _ _ st' k'
  | val _=>exact (show False from q).elim
  | brw _=>exact (show False from q).elim
  | own _=>exact (show False from q).elim
  | brwD _=>exact (show False from q).elim
theorem BR {me:ME}{v:Expr}{pos:Pos} (h:PE X v (tE X.K cal me)) (hb:aD me=false):PS X (.Return (some v) pos) (tS X.K cal (.ret me)):=by
 refine (sL h).imp λD σ H q=>?_
 obtain ⟨B,O₀,O,ρ,st,q⟩:=q
 rw [ex] at q
 obtain ⟨w,e,q⟩:=cV q
 exact ⟨B,O₀,O,ρ,w,st,e,λu H' s g=>q u H' (st.keep.trans s) (Rep.mono (bt (af.refl H') λb hb=>.inl (st.sub b hb)) _ (g.2 hb))⟩
theorem u6 {i:Nat}{x:Str}{p pos:Pos} (hn:a8 X.N X.env.scope i x=true):PS X (.Return (some (.Name x p)) pos) (tS X.K cal (.retOwn i)):=by
 refine (sL (c7 hn)).imp λD σ H q=>?_
 obtain ⟨B,O₀,O,ρ,st,q⟩:=q
 rw [ex] at q
 have low:af (ax H O) (ax H O₀):=bt (af.refl H) λb hb=>.inl (st.sub b hb)
 cases hj:(ρ[i]?).join with
 | none=>rw [hj] at q;exact (show False from q).elim
 | some m =>
  rw [hj] at q
  cases m with
  | own xs =>
   obtain ⟨u,eu,a,us,rfl,ha,rs,hO,hB⟩:=cs st hj
   refine ⟨_,eu,q _ H st.keep ?_⟩
   rw [Rep]
   refine ⟨a,us,rfl,SqL.of ?_,Reps.mono low _ rs⟩
   rw [bJ λz=>st.old a z hB]
   exact ha
  | val v =>
   obtain ⟨u,eu,so⟩:=cs st hj
   exact ⟨_,eu,q _ H st.keep (Rep.mono low _ so)⟩
  | brw _=>exact (show False from q).elim
  | ownD kvs =>
   obtain ⟨u,eu,a,rfl,ha,hO,hB⟩:=cs st hj
   refine ⟨_,eu,q _ H st.keep ?_⟩
   rw [Rep]
   refine ⟨a,rfl,.inl ?_⟩
   rw [bJ λz=>st.old a z hB]
   exact ha
  | brwD _=>exact (show False from q).elim
theorem C6 {c:ME}{a b:List MS}{t:Expr}{x y:List Stmt}{pos:Pos} (hc:PT X t (tT X.K cal c)) (ha:PSs X x (tSs X.K cal a)) (hb:PSs X y (tSs X.K cal b)):PS X (.If t x y pos) (tS X.K cal (.ite c a b)):=by
 refine (AU hc ha hb).imp λD σ H q=>?_
 obtain ⟨B,O₀,O,ρ,st,q⟩:=q
 rw [ex] at q
 obtain ⟨w,e,q⟩:=sf q
 refine ⟨B,O₀,O,ρ,w,st,e,λH' s=>?_⟩
 cases w with
 | true=>rw [if_pos rfl] at q ⊢;exact ⟨B,O₀,O,ρ,st.mono s,q⟩
 | false=>rw [if_neg (by simp)] at q ⊢;exact ⟨B,O₀,O,ρ,st.mono s,q⟩
theorem zR {m:MS}{ms:List MS}{st:Stmt}{ss:List Stmt} (h1:PS X st (tS X.K cal m)) (h2:PSs X ss (tSs X.K cal ms)):PSs X (st::ss) (tSs X.K cal (m::ms)):=by
 refine (sK h1 h2).imp λD σ H q=>?_
 obtain ⟨B,O₀,O,ρ,st,q⟩:=q
 refine ⟨B,O₀,O,ρ,st,?_⟩
 rw [exs] at q
 cases e:ex cal m ρ with
 | next ρ'=>rw [e] at q;exact λσ' H' O' st' k=>⟨B,O₀,O',ρ',st',fV.trans q k⟩
 | brk ρ'=>rw [e] at q;exact q
 | cont ρ'=>rw [e] at q;exact q
 | ret v=>rw [e] at q;exact q
 | bad=>rw [e] at q;exact q
theorem BS:PSs X [] (tSs X.K cal []):=by
 refine v_.imp λD σ H q=>?_
 obtain ⟨B,O₀,O,ρ,st,q⟩:=q
 rw [exs] at q
 exact q σ H O st .refl
end
end MM
namespace MM
open PySem PySem.Spec PyProof.Rows L2
section
variable {K:PySem.W.Frag}{B H:Hp}{O₀ O:List Addr}{ρ:Rho}{σ:St}
theorem BT {H1 H':Hp}{O' L:List Addr}{ρ':Rho}{σ':St} (st':aJ K (bv B O H1 L) O₀ O' H' ρ' σ') (k:bG (bv B O H1 L) O O' ρ ρ' σ σ'):af (ax H1 O) (ax H' O'):=λb u e=>by
 have hb:b ∉ O:=λz=>by rw [mZ z] at e;cases e
 have hg:bv B O H1 L b=some u:=bB b u e
 rw [bJ]
 ·exact st'.keep b u hg
 ·intro z
  rcases k.new b z with q|q
  ·exact hb q
  ·rw [hg] at q;cases q
theorem xm {ms:List ME} (st:aJ K B O₀ O H ρ σ):aJ K (bv B O H (aL ms ρ σ)) O₀ O H (bH ms ρ) σ/\(bH ms ρ).length=ρ.length:=by
 have base:∀ L:List Addr,(∀ a ∈ L,∀ (j:Nat) (ys:MV),(bH ms ρ)[j]?=some (some ys)->iE ys=true->σ[j]? ≠ some (some (.ref a)))->(∀ (j:Nat) (m:MV),(bH ms ρ)[j]?=some (some m)->(∃ ys,m=.brw ys/\ρ[j]?=some (some (.own ys))/\∃ a,σ[j]?=some (some (.ref a))/\a ∈ L) \/ ρ[j]?=some (some m))->(bH ms ρ).length=ρ.length ->
   aJ K (bv B O H L) O₀ O H (bH ms ρ) σ:=λL h1 h2 h3=>by
  have gl:=oE (O:=O) (L:=L) st.keep
  have lg:=fU (O:=O) (L:=L) st.keep
  refine ⟨gl,st.here,st.sub,λa ha z=>st.old a ha (lg.free z),h3.trans st.len,λj m e=>?_,λc d ps qs ad hcd e1 e2 p1 p2 e3 e4=>?_
   ⟩
  ·rcases h2 j m e with ⟨ys,rfl,e2,a,ea,haL⟩|e2
   ·obtain ⟨u,eu,a',us,rfl,q1,q2,q3,q4⟩:=st.slot j _ e2
    rw [ea] at eu
    cases eu
    refine ⟨_,ea,a,us,rfl,SqL.of ?_,q2⟩
    unfold bv
    rw [if_pos q3,if_pos haL]
    exact q1
   ·obtain ⟨u,eu,q⟩:=st.slot j m e2
    refine ⟨u,eu,?_⟩
    cases m with
    | val v=>exact q
    | own ys =>
     obtain ⟨a,us,rfl,q1,q2,q3,q4⟩:=q
     refine ⟨a,us,rfl,q1,q2,q3,?_⟩
     unfold bv
     rw [if_pos q3,if_neg λhaL=>h1 a haL j (.own ys) e rfl eu]
     exact q4
    | ownD ys =>
     obtain ⟨a,rfl,q1,q3,q4⟩:=q
     refine ⟨a,rfl,q1,q3,?_⟩
     unfold bv
     rw [if_pos q3,if_neg λhaL=>h1 a haL j (.ownD ys) e rfl eu]
     exact q4
    | brwD ys=>obtain ⟨a,rfl,q1⟩:=q;exact ⟨a,rfl,af.rd lg q1⟩
    | brw ys=>obtain ⟨a,us,rfl,q1,q2⟩:=q;exact ⟨a,us,rfl,lg.seq q1,q2⟩
  ·rcases h2 c _ e1 with ⟨_,rfl,_⟩|e1
   ·cases p1
   ·rcases h2 d _ e2 with ⟨_,rfl,_⟩|e2
    ·cases p2
    ·exact st.apart c d ps qs ad hcd e1 e2 p1 p2 e3 e4
 have plain:bH ms ρ=ρ->aL ms ρ σ=[]->aJ K (bv B O H (aL ms ρ σ)) O₀ O H (bH ms ρ) σ/\(bH ms ρ).length=ρ.length:=λe1 e2=>by
  rw [e2]
  exact ⟨base [] (λa ha=>by simp at ha) (λj m e=>.inr (by rw [e1] at e;exact e)) (by rw [e1]),by rw [e1]⟩
 match ms with
 | []=>exact plain rfl rfl
 | [.bor i] =>
  cases hj:(ρ[i]?).join with
  | none=>exact plain (by simp [bH,hj]) (by simp [aL,hj])
  | some m =>
   cases m with
   | val _=>exact plain (by simp [bH,hj]) (by simp [aL,hj])
   | brw _=>exact plain (by simp [bH,hj]) (by simp [aL,hj])
   | ownD _=>exact plain (by simp [bH,hj]) (by simp [aL,hj])
   | brwD _=>exact plain (by simp [bH,hj]) (by simp [aL,hj])
   | own xs =>
    have el:bH [.bor i] ρ=put ρ i (.brw xs):=by simp [bH,hj]
    have e0:=bZ hj
    obtain ⟨u,eu,a,us,rfl,q1,q2,q3,q4⟩:=st.slot i _ e0
    have eL:aL [.bor i] ρ σ=[a]:=by simp [aL,hj,eu]
    have hi':i < ρ.length:=(List.getElem?_eq_some_iff.mp e0).1
    rw [eL]
    refine ⟨base [a] (λb hb j ys e oy z=>?_) (λj m e=>?_) (by rw [el,b7]),by rw [el,b7]⟩
    ·have:b=a:=by simpa using hb
     subst this
     rw [el] at e
     have hj':i ≠ j:=λz=>by subst z;rw [ac hi'] at e;cases e;cases oy
     rw [ab hj'] at e
     exact st.apart i j (.own xs) ys b hj' e0 e rfl oy eu z
    ·rw [el] at e
     by_cases hij:i=j
     ·subst hij
      rw [ac hi'] at e
      cases e
      exact .inl ⟨xs,rfl,e0,a,eu,by simp⟩
     ·rw [ab hij] at e
      exact .inr e
 | .var _::_=>exact plain rfl rfl
 | .cst _::_=>exact plain rfl rfl
 | .glob _ _::_=>exact plain rfl rfl
 | .bin _ _ _::_=>exact plain rfl rfl
 | .neg _::_=>exact plain rfl rfl
 | .not _::_=>exact plain rfl rfl
 | .and _ _::_=>exact plain rfl rfl
 | .or _ _::_=>exact plain rfl rfl
 | .ite _ _ _::_=>exact plain rfl rfl
 | .cmp _ _ _::_=>exact plain rfl rfl
 | .chain _ _ _ _ _::_=>exact plain rfl rfl
 | .tup _::_=>exact plain rfl rfl
 | .lst _::_=>exact plain rfl rfl
 | .idx _ _::_=>exact plain rfl rfl
 | .slice _ _ _::_=>exact plain rfl rfl
 | .blt _ _::_=>exact plain rfl rfl
 | .call _ _::_=>exact plain rfl rfl
 | .callD _ _ _::_=>exact plain rfl rfl
 | .comp _ _ _ _ _::_=>exact plain rfl rfl
 | .dget _ _ _::_=>exact plain rfl rfl
 | .dat _ _::_=>exact plain rfl rfl
 | .dIn _ _ _::_=>exact plain rfl rfl
 | .bor _::_::_=>exact plain rfl rfl
theorem iM {ms:List ME}{j:Nat}{ys:List PV} (h:(bH ms ρ)[j]?=some (some (.brw ys))):ρ[j]?=some (some (.brw ys)) \/ (ms=[.bor j]/\ρ[j]?=some (some (.own ys))):=by
 unfold bH at h
 split at h
 ·rename_i i
  split at h
  ·rename_i xs hj
   have e0:=bZ hj
   have hi':i < ρ.length:=(List.getElem?_eq_some_iff.mp e0).1
   by_cases hij:i=j
   ·subst hij
    rw [ac hi'] at h
    cases h
    exact .inr ⟨rfl,e0⟩
   ·rw [ab hij] at h
    exact .inl h
  ·exact .inl h
 ·exact .inl h
theorem je {ms:List ME}{j:Nat}{ys:DD} (h:(bH ms ρ)[j]?=some (some (.brwD ys))):ρ[j]?=some (some (.brwD ys)):=by
 unfold bH at h
 split at h
 ·rename_i i
  split at h
  ·rename_i xs hj
   have e0:=bZ hj
   have hi':i < ρ.length:=(List.getElem?_eq_some_iff.mp e0).1
   by_cases hij:i=j
   ·subst hij
    rw [ac hi'] at h
    cases h
   ·rw [ab hij] at h
    exact h
  ·exact h
 ·exact h
theorem kL {ms:List ME}:(bH ms ρ).length=ρ.length:=by
 unfold bH
 split
 ·split
  ·exact b7
  ·rfl
 ·rfl
theorem qJ {ms:List ME}{H1 H':Hp}{O':List Addr}{ρ':Rho}{σ':St} (st:aJ K B O₀ O H1 ρ σ) (st':aJ K (bv B O H1 (aL ms ρ σ)) O₀ O' H' ρ' σ') (k:bG (bv B O H1 (aL ms ρ σ)) O O' (bH ms ρ) ρ' σ σ') :
  aJ K B O₀ O' H' (bD ms ρ ρ') σ'/\bG B O O' ρ (bD ms ρ ρ') σ σ':=by
 have lg:=fU (O:=O) (L:=aL ms ρ σ) st.keep
 have vis:=BT st' k
 have stay:∀ a,B a ≠ none->a ∈ O->a ∈ O':=λa h1 h2=>k.stay a (λz=>h1 (lg.free z)) h2
 have new:∀ a ∈ O',a ∈ O \/ B a=none:=λa h=>(k.new a h).imp id lg.free
 have slot:∀ (j:Nat) (m:MV),ρ'[j]?=some (some m)->(∀ ys,m=.brw ys->¬ (ms=[.bor j]/\ρ[j]?=some (some (.own ys))))->∃ u,σ'[j]?=some (some u)/\eA K B O' H' m u:=λj m e hn=>by
  obtain ⟨u,eu,q⟩:=st'.slot j m e
  refine ⟨u,eu,?_⟩
  cases m with
  | val v=>exact q
  | own ys=>obtain ⟨a,us,rfl,q1,q2,q3,q4⟩:=q;exact ⟨a,us,rfl,q1,q2,q3,lg.free q4⟩
  | brw ys =>
   obtain ⟨e1,e2⟩:=k.brw j (.brw ys) rfl e
   rcases iM e1 with e3|e3
   ·obtain ⟨w,ew,a,us,rfl,q1,q2⟩:=st.slot j _ e3
    rw [eu,ew] at e2
    cases e2
    exact ⟨a,us,rfl,q1,Reps.mono vis _ q2⟩
   ·exact absurd e3 (hn ys rfl)
  | ownD ys=>obtain ⟨a,rfl,q1,q3,q4⟩:=q;exact ⟨a,rfl,q1,q3,lg.free q4⟩
  | brwD ys =>
   obtain ⟨e1,e2⟩:=k.brw j (.brwD ys) rfl e
   obtain ⟨w,ew,a,rfl,q1⟩:=st.slot j _ (je e1)
   rw [eu,ew] at e2
   cases e2
   exact ⟨a,rfl,q1⟩
 by_cases hA:∃ i xs0 xs,ms=[.bor i]/\(ρ[i]?).join=some (.own xs0)/\(ρ'[i]?).join=some (.brw xs)
 ·obtain ⟨i,xs0,xs,rfl,h0,h1⟩:=hA
  have eb:bD [.bor i] ρ ρ'=put ρ' i (.own xs):=by simp [bD,h0,h1]
  rw [eb]
  have e0:=bZ h0
  have e1:=bZ h1
  have hi':i < ρ'.length:=(List.getElem?_eq_some_iff.mp e1).1
  obtain ⟨el,es⟩:=k.brw i (.brw xs) rfl e1
  have exs:xs=xs0:=by
   rcases iM el with e3|⟨_,e3⟩
   ·rw [e0] at e3;cases e3
   ·rw [e0] at e3;cases e3;rfl
  subst exs
  obtain ⟨w,ew,a,us,rfl,q1,q2,q3,q4⟩:=st.slot i _ e0
  have eL:aL [.bor i] ρ σ=[a]:=by simp [aL,h0,ew]
  have ga:bv B O H1 (aL [.bor i] ρ σ) a=some (.lst us):=by
   unfold bv
   rw [eL,if_pos q3,if_pos (by simp)]
   exact q1
  have other:∀ (j:Nat) (ys:MV) (ad:Addr),ρ'[j]?=some (some ys)->iE ys=true->σ'[j]?=some (some (.ref ad))->ad ≠ a:=λj ys ad h1 oy h2 z=>by
   obtain ⟨u,eu,qq⟩:=st'.slot j _ h1
   rw [h2] at eu
   cases eu
   cases ys with
   | own ys =>
    obtain ⟨b,_,e2,_,_,_,q⟩:=qq
    cases e2
    rw [z,ga] at q
    cases q
   | ownD ys =>
    obtain ⟨b,e2,_,_,q⟩:=qq
    cases e2
    rw [z,ga] at q
    cases q
   | val _=>cases oy
   | brw _=>cases oy
   | brwD _=>cases oy
  refine ⟨⟨lg.trans st'.keep,st'.here,st'.sub,st.old,by rw [b7];exact st'.len,λj m e=>?_,λc d ps qs ad hcd e1 e2 p1 p2 e3 e4=>?_
   ⟩,⟨stay,new,λj ys hbm e=>?_,by rw [b7];exact k.len.trans kL
   ⟩⟩
  ·by_cases hij:i=j
   ·subst hij
    rw [ac hi'] at e
    cases e
    refine ⟨_,by rw [es];exact ew,a,us,rfl,st'.keep _ _ ga,Reps.mono vis _ q2,k.stay a (by rw [ga];simp) q3,q4⟩
   ·rw [ab hij] at e
    exact slot j m e λys _ ⟨z,_⟩=>hij (by cases z;rfl)
  ·by_cases hc:i=c
   ·subst hc
    rw [es,ew] at e3
    cases e3
    rw [ab hcd] at e2
    exact other d qs _ e2 p2 e4 rfl
   ·rw [ab hc] at e1
    by_cases hd:i=d
    ·subst hd
     rw [es,ew] at e4
     cases e4
     exact other c ps _ e1 p1 e3 rfl
    ·rw [ab hd] at e2
     exact st'.apart c d ps qs ad hcd e1 e2 p1 p2 e3 e4
  ·by_cases hij:i=j
   ·subst hij
    rw [ac hi'] at e
    cases e
    cases hbm
   ·rw [ab hij] at e
    obtain ⟨e1,e2⟩:=k.brw j ys hbm e
    cases ys with
    | brw ys =>
     rcases iM e1 with e3|⟨z,_⟩
     ·exact ⟨e3,e2⟩
     ·cases z;exact absurd rfl hij
    | brwD ys=>exact ⟨je e1,e2⟩
    | val _=>cases hbm
    | own _=>cases hbm
    | ownD _=>cases hbm
 ·have eb:bD ms ρ ρ'=ρ':=by
   unfold bD
   split
   ·rename_i i
    split
    ·rename_i xs0 xs h0 h1
     exact absurd ⟨i,xs0,xs,rfl,h0,h1⟩ hA
    ·rfl
   ·rfl
  rw [eb]
  have no:∀ (j:Nat) (ys:List PV),ρ'[j]?=some (some (.brw ys))->¬ (ms=[.bor j]/\ρ[j]?=some (some (.own ys))):=λj ys e ⟨h1,h2⟩=>hA ⟨j,ys,ys,h1,by rw [h2];rfl,by rw [e];rfl⟩
  refine ⟨⟨lg.trans st'.keep,st'.here,st'.sub,st.old,st'.len,λj m e=>slot j m e λys z=>no j ys (by rw [e,z]),st'.apart
   ⟩,⟨stay,new,λj ys hbm e=>?_,k.len.trans kL
   ⟩⟩
  obtain ⟨e1,e2⟩:=k.brw j ys hbm e
  cases ys with
  | brw ys =>
   rcases iM e1 with e3|e3
   ·exact ⟨e3,e2⟩
   ·exact absurd e3 (no j ys e)
  | brwD ys=>exact ⟨je e1,e2⟩
  | val _=>cases hbm
  | own _=>cases hbm
  | ownD _=>cases hbm
end
section
variable {X:Cx}{T:Tab}{k:Nat}{cal:Cal}
noncomputable def zS (K:PySem.W.Frag) (n:Nat) (g:TG) (tk:PV->Rho->Option Rho):Prop :=
 ∀ (B:Hp) (O₀ O:List Addr) (H:Hp) (ρ ρ':Rho) (σ:St) (x:PV) (u:V) (Q:St->Hp->Prop),σ.length=n->aJ K B O₀ O H ρ σ->Rep K (ax H O) x u->tk x ρ=some ρ' ->
  (∀ σ',aJ K B O₀ O H ρ' σ'->bG B O O ρ ρ' σ σ'->Q σ' H)->g u σ H Q
theorem u7 {K:PySem.W.Frag}{n:Nat}{k':Sk}{ms:List ME}{g:TG}{tk:PV->Rho->Option Rho}{body:List MS}{D:jz}{σ:St}{H:Hp} (hn:σ.length=n) (hg:zS K n g tk) {B:Hp}{O₀ O:List Addr}{ρ:Rho}{vs xs:List PV} (st:aJ K B O₀ O H ρ σ) (e1:evs cal ms ρ=some vs) (e2:cj k' vs=some xs)
  (q:fV K B O₀ O ρ σ D ((aT (λx ρ'=>db (tk x ρ') λρ''=>exs cal body ρ'') xs (bH ms ρ)).back ms ρ)):A0 (tW K cal k' ms) g (tSs K cal body) D σ H:=by
 refine ⟨B,O₀,O,ρ,vs,xs,st,e1,e2,λJ H1 s1 it=>?_⟩
 have st1:=st.mono s1
 obtain ⟨stL,_⟩:=xm (ms:=ms) st1
 refine ⟨λi m σ' H'=>m=xs.length - i/\i <= xs.length/\∃ ρ' O',aJ K (bv B O H1 (aL ms ρ σ)) O₀ O' H' ρ' σ'/\bG (bv B O H1 (aL ms ρ σ)) O O' (bH ms ρ) ρ' σ σ' /\
  aT (λx ρ'=>db (tk x ρ') λρ''=>exs cal body ρ'') (xs.drop i) ρ'=aT (λx ρ'=>db (tk x ρ') λρ''=>exs cal body ρ'') xs (bH ms ρ),⟨xs.length,by simp,Nat.zero_le _,bH ms ρ,O,stL,.refl,by simp⟩,?_⟩
 rintro i m σ' H' ⟨rfl,hi,ρ',O',st',k',eq⟩
 by_cases hlt:i < xs.length
 ·right
  have ex:xs[i]?=some xs[i]:=List.getElem?_eq_getElem hlt
  refine ⟨it.go i _ H' st'.keep ex,λσ2 H2=>∃ m',m' < xs.length - i/\(m'=xs.length - (i + 1)/\i + 1 <= xs.length/\∃ ρ' O',aJ K (bv B O H1 (aL ms ρ σ)) O₀ O' H2 ρ' σ2/\bG (bv B O H1 (aL ms ρ σ)) O O' (bH ms ρ) ρ' σ σ2 /\
   aT (λx ρ'=>db (tk x ρ') λρ''=>exs cal body ρ'') (xs.drop (i + 1)) ρ'=aT (λx ρ'=>db (tk x ρ') λρ''=>exs cal body ρ'') xs (bH ms ρ)),λσ2 H2 z=>z,λu H2 y=>?_⟩
  obtain ⟨s2,hr⟩:=it.yld i _ H' u H2 st'.keep ex y
  have vis:=BT st' k'
  have hx:Rep K (ax H2 O') xs[i] u:=hr O' st'.here (vis.trans (aA s2))
  rw [List.drop_eq_getElem_cons hlt,aT] at eq
  cases et:tk xs[i] ρ' with
  | none =>
   rw [et] at eq
   rw [<- eq] at q
   exact (show False from q).elim
  | some ρ2 =>
   rw [et,show db (some ρ2) (λρ''=>exs cal body ρ'')=exs cal body ρ2 from rfl] at eq
   have hlen:σ'.length=n:=by rw [<- st'.len,k'.len,kL,st.len];exact hn
   refine hg _ O₀ O' H2 ρ' ρ2 σ' _ u _ hlen (st'.mono s2) hx et λσ2 st2 k2=>?_
   refine ⟨_,O₀,O',ρ2,st2,?_⟩
   have kk:=k'.trans k2
   cases er:exs cal body ρ2 with
   | next ρ3 =>
    rw [er] at eq
    exact λσ3 H3 O3 st3 k3=>⟨_,by omega,rfl,hlt,ρ3,O3,st3,kk.trans k3,eq⟩
   | cont ρ3 =>
    rw [er] at eq
    exact λσ3 H3 O3 st3 k3=>⟨_,by omega,rfl,hlt,ρ3,O3,st3,kk.trans k3,eq⟩
   | brk ρ3 =>
    rw [er] at eq
    rw [<- eq] at q
    exact λσ3 H3 O3 st3 k3=>by
     obtain ⟨stb,kb⟩:=qJ st1 st3 (kk.trans k3)
     exact q σ3 H3 O3 stb kb
   | ret v =>
    rw [er] at eq
    rw [<- eq] at q
    exact λw H3 s3 r=>q w H3 ((fU st1.keep).trans s3) r
   | bad =>
    rw [er] at eq
    rw [<- eq] at q
    exact (show False from q).elim
 ·left
  have ei:i=xs.length:=by omega
  subst ei
  rw [List.drop_length,aT] at eq
  rw [<- eq] at q
  obtain ⟨stb,kb⟩:=qJ st1 st' k'
  exact ⟨it.stop H' st'.keep,q σ' H' O' stb kb⟩
theorem xn {K:PySem.W.Frag}{n i:Nat} (hi:i < n):zS K n (ii i) (λx ρ=>some (put ρ i (.val x))):=by
 intro B O₀ O H ρ ρ' σ x u Q hn st r e q
 cases e
 obtain ⟨st',k'⟩:=st.store (i:=i) (by omega) r
 exact q _ st' k'
theorem zT {i:Nat}{k':Sk}{src:List ME}{body:List MS}{x:Str}{px pos:Pos}{it:Expr}{b:List Stmt} (g:Gf X T k cal) (d:Df X) (hi:X.N[i]?=some x) (hx:Loc X.env.scope x) (hw:PI X (.Name x px) it (tW X.K cal k' src)) (hns:ff it=true) (hb:PSs X b (tSs X.K cal body)) :
  PS X (.For (.Name x px) it b [] pos) (tS X.K cal (.for1 i k' src body)):=by
 refine PS.imp' (sR d.own g.calm hw (mw d.nd hi hx (.inl (d.fn x))) hb (by intro v;cases it <;> first|rfl|(simp [ff] at hns))) λD σ H hl q=>?_
 obtain ⟨B,O₀,O,ρ,st,q⟩:=q
 rw [ex] at q
 cases e:(evs cal src ρ).bind (cj k') with
 | none=>rw [e] at q;exact (show False from q).elim
 | some xs =>
  rw [e] at q
  simp only [Option.bind_eq_some_iff] at e
  obtain ⟨vs,e1,e2⟩:=e
  exact u7 (tk:=λx ρ=>some (put ρ i (.val x))) rfl (xn (ltN hi hl)) st e1 e2 q
end
end MM
namespace MM
open PySem PySem.Spec PyProof.Rows L2
noncomputable def kM:List Nat->TGs
 | []=>AV
 | i::is=>xO (ii i) (kM is)
section
variable {X:Cx}{T:Tab}{k:Nat}{cal:Cal}
theorem kN:∀ {is:List Nat}{ts:List Expr},cZ X.N X.env.scope is ts=true->(assignEach ts X.env).length=is.length/\(assignEach ts X.env).findIdx? (·.1)=none
 | [],[],_=>⟨rfl,rfl⟩
 | [],_::_,h=>by cases h
 | _::_,[],h=>by cases h
 | i::is,e::ts,h=>by
  cases e <;> first|(cases h;done)|skip
  simp only [m5,Bool.and_eq_true] at h
  rename_i x p
  obtain ⟨h1,h2⟩:=kN h.2
  refine ⟨?_,?_⟩
  ·show ((false,assign (.Name x p) X.env)::assignEach ts X.env).length=_
   simp [h1]
  ·show ((false,assign (.Name x p) X.env)::assignEach ts X.env).findIdx? (·.1)=none
   rw [List.findIdx?_cons]
   simp [h2]
theorem l8 (d:Df X):∀ {is:List Nat}{ts:List Expr},cZ X.N X.env.scope is ts=true->PGs X ts (kM is)
 | [],[],_=>wc
 | [],_::_,h=>by cases h
 | _::_,[],h=>by cases h
 | i::is,e::ts,h=>by
  cases e <;> first|(cases h;done)|skip
  simp only [m5,Bool.and_eq_true,beq_iff_eq] at h
  rename_i x p
  exact sN (mw d.nd h.1.1.1 (kF h.1.1.2) (.inl (d.fn x))) (l8 d h.2) rfl
theorem oP:∀ {is:List Nat}{ts:List Expr},cZ X.N X.env.scope is ts=true->∀ i ∈ is,i < X.N.length
 | [],[],_=>λi hi=>by simp at hi
 | [],_::_,h=>by cases h
 | _::_,[],h=>by cases h
 | i::is,e::ts,h=>λj hj=>by
  cases e <;> first|(cases h;done)|skip
  simp only [m5,Bool.and_eq_true,beq_iff_eq] at h
  rcases List.mem_cons.mp hj with rfl|hj
  ·exact (List.getElem?_eq_some_iff.mp h.1.1.1).1
  ·exact oP h.2 j hj
theorem qK {K:PySem.W.Frag}:∀ {is:List Nat}{vs:List PV}{us:List V}{B:Hp}{O₀ O:List Addr}{H:Hp}{ρ ρ':Rho}{σ:St}{Q:St->Hp->Prop},(∀ i ∈ is,i < σ.length)->aJ K B O₀ O H ρ σ->Reps K (ax H O) vs us->ku is vs ρ=some ρ' ->
  (∀ σ',aJ K B O₀ O H ρ' σ'->bG B O O ρ ρ' σ σ'->Q σ' H)->kM is us σ H Q
 | [],[],us,_,_,_,_,_,_,_,_,_,st,r,e,q=>by
  rw [Reps] at r
  subst r
  cases e
  exact ⟨rfl,q _ st .refl⟩
 | [],_::_,_,_,_,_,_,_,_,_,_,_,_,_,e,_=>by simp [ku] at e
 | _::_,[],_,_,_,_,_,_,_,_,_,_,_,_,e,_=>by simp [ku] at e
 | i::is,v::vs,us,B,O₀,O,H,ρ,ρ',σ,Q,hi,st,r,e,q=>by
  rw [Reps] at r
  obtain ⟨u,r',rfl,r1,r2⟩:=r
  rw [ku] at e
  obtain ⟨st1,k1⟩:=st.store (i:=i) (hi i (.head _)) r1
  refine ⟨u,r',rfl,?_⟩
  show kM is r' (σ.set i (some u)) H Q
  exact qK (λj hj=>by rw [List.length_set];exact hi j (.tail _ hj)) st1 r2 e λσ' st' k'=>q σ' st' (k1.trans k')
theorem zU {K:PySem.W.Frag}{n:Nat}{is:List Nat} (hi:∀ i ∈ is,i < n):zS K n (AW K is.length (kM is)) (dY is):=by
 intro B O₀ O H ρ ρ' σ x u Q hn st r e q
 cases x with
 | tup vs =>
  rw [Rep] at r
  obtain ⟨a,us,rfl,sq,rs⟩:=r
  have hl:∀ {is:List Nat}{vs:List PV}{ρ ρ':Rho},ku is vs ρ=some ρ'->vs.length=is.length:=by
   intro is
   induction is with
   | nil=>intro vs ρ ρ' h;cases vs <;> simp [ku] at h ⊢
   | cons i is ih=>intro vs ρ ρ' h;cases vs <;> simp [ku] at h ⊢;exact ih h
  exact ⟨a,us,rfl,(aY H O).seqT (SqT.of sq),by rw [<- rs.length];exact hl e,qK (λi h=>by rw [hn];exact hi i h) st rs e q⟩
 | _=>cases e
theorem zV {is:List Nat}{k':Sk}{src:List ME}{body:List MS}{ts:List Expr}{j:Nat}{tp pos:Pos}{it:Expr}{b:List Stmt} (g:Gf X T k cal) (d:Df X) (hi:cZ X.N X.env.scope is ts=true) (hw:PI X (.Tuple ts j tp) it (tW X.K cal k' src)) (hns:ff it=true) (hb:PSs X b (tSs X.K cal body)) :
  PS X (.For (.Tuple ts j tp) it b [] pos) (tS X.K cal (.forT is k' src body)):=by
 obtain ⟨h1,h2⟩:=kN hi
 refine PS.imp' (sR d.own g.calm hw (yE g.calm (l8 d hi) h1 h2) hb (by intro v;cases it <;> first|rfl|(simp [ff] at hns))) λD σ H hl q=>?_
 obtain ⟨B,O₀,O,ρ,st,q⟩:=q
 rw [ex] at q
 cases e:(evs cal src ρ).bind (cj k') with
 | none=>rw [e] at q;exact (show False from q).elim
 | some xs =>
  rw [e] at q
  simp only [Option.bind_eq_some_iff] at e
  obtain ⟨vs,e1,e2⟩:=e
  exact u7 (tk:=dY is) hl (zU (oP hi)) st e1 e2 q
theorem qL {i:Nat}{me:ME}{x:Str}{v:Expr}{px pos:Pos} (g:Gf X T k cal) (d:Df X) (hi:X.N[i]?=some x) (hx:Loc X.env.scope x) (hc:chk T me X.N X.env.scope v=true) (hs:lY X.env.scope x px v me=true):∃ t,PS X (.Assign [.Name x px] v pos) (sO t (ii i))/\(∀ σ H Q,tF X.K cal me σ H Q->t σ H Q)/\bo me=true:=by
 unfold lY at hs
 cases v with
 | ListComp e gens scope cpos =>
  cases me with
  | comp k' src js cond elt =>
   match gens,hc,hs with
   | [],hc,_=>cases (show false=true from hc)
   | ⟨tg,it,ifs,as⟩::[],h,hs =>
    cases tg with
    | Name y py =>
     by_cases has:as=0
     ·subst has
      have h:(dZ X.env.scope X.N scope y (bF X.N js) js&&dy X.env.scope false (λxs=>chks T src X.N X.env.scope xs) k' it&&kB (λc=>chk T cond (y::bF X.N js) (gz scope X.env.scope) c) cond ifs&&chk T elt (y::bF X.N js) (gz scope X.env.scope) e&&!aD elt)=true:=h
      simp only [Bool.and_eq_true,Bool.not_eq_true'] at h
      obtain ⟨⟨⟨⟨h1,h2⟩,h3⟩,h4⟩,h5⟩:=h
      have hw:=kK (tg:=.Name y py) (λz=>by cases z) g h2 (λxs hxs=>⟨sounds src g hxs,b6 hxs⟩) (λm x hm hx=>match src,hm with|[m'],rfl=>(aj m' g (by simp only [chks,Bool.and_eq_true] at hx;exact hx.1.1)).1)
      exact ⟨_,pA d.nd hi hx (l6 h1) g.calm hw.1 (λs₁ H₁ C fp=>pN h3 λc hc=>(aj cond (g.blk y (bF X.N js) scope s₁ H₁ C fp) hc).2) (λs₁ H₁ C fp=>(aj elt (g.blk y (bF X.N js) scope s₁ H₁ C fp) h4).1) (se d hs) (by have:=hw.2;intro v;cases it <;> first|rfl|(simp [ff] at this)) (.inl (d.fn x)),
       λσ H Q q=>pI.comp_go h5 q,rfl⟩
     ·exact absurd h (by
       have:chk T (.comp k' src js cond elt) X.N X.env.scope (.ListComp e [⟨.Name y py,it,ifs,as⟩] scope cpos)=false:=by
        rw [aF]
        split <;> first|rfl|(rename_i z;simp_all)
       rw [this];exact Bool.false_ne_true)
    | _=>cases (show false=true from h)
   | _::_::_,h,_=>simp [aF] at h
  | _=>cases (show false=true from hc)
 | _=>simp [qu] at hs
theorem BU {me:ME} (hf:bo me=true) {σ:St}{H:Hp}{Q:VK}{K:PySem.W.Frag} (q:tE K cal me σ H Q):tF K cal me σ H Q:=by
 obtain ⟨B,O₀,O,ρ,v,st,e1,q⟩:=q
 have hv:∃ xs,v=.lst xs:=by
  cases me with
  | lst es =>
   rw [ev,Option.bind_eq_some_iff] at e1
   obtain ⟨vs,_,hv⟩:=e1
   split at hv
   ·cases hv;exact ⟨_,rfl⟩
   ·cases hv
  | comp _ _ _ _ _=>exact oN ρ v e1
  | blt b es=>cases b <;> first|exact oJ ρ v e1|exact dz (.inl rfl) ρ v e1|exact dz (.inr (.inl rfl)) ρ v e1|exact dz (.inr (.inr (.inl rfl))) ρ v e1|exact dz (.inr (.inr (.inr (.inl rfl)))) ρ v e1|exact dz (.inr (.inr (.inr (.inr rfl)))) ρ v e1|(simp [bo] at hf)
  | _=>simp [bo] at hf
 obtain ⟨xs,rfl⟩:=hv
 exact ⟨B,O₀,O,ρ,xs,st,e1,λp us H' s hp he r=>q _ _ s (qD st.here hp he r)⟩
end
section
variable {T:Tab}{N:List Str}{sc:Scope}
theorem xo {i:Nat}{e:ME}{s:Stmt} (h:gD T N sc (.set i e) s=true):∃ x px v pos,s=.Assign [.Name x px] v pos/\(N[i]? == some x&&i_ sc x&&az x&&chk T e N sc v&&!aD e&&(cq v || lY sc x px v e))=true:=by
 obtain ⟨q,e1,h1⟩:=dO h
 obtain ⟨pos,rfl⟩:=m6 e1
 exact ⟨_,_,_,_,rfl,h1⟩
theorem xp {i:Nat}{e:ME}{s:Stmt} (h:gD T N sc (.setOwn i e) s=true):∃ x px v pos,s=.Assign [.Name x px] v pos/\(N[i]? == some x&&i_ sc x&&az x&&chk T e N sc v&&bo e&&(cq v || lY sc x px v e))=true:=by
 obtain ⟨q,e1,h1⟩:=dO h
 obtain ⟨pos,rfl⟩:=m6 e1
 exact ⟨_,_,_,_,rfl,h1⟩
theorem pQ {i:Nat}{e:ME}{s:Stmt} (h:gD T N sc (.append i e) s=true):∃ x p m ap v cp pos,s=.Expr (.Call (.Attribute (.Name x p) m ap) [v] [] cp) pos/\(a8 N sc i x&&m == ("append":Str)&&chk T e N sc v&&!aD e&&ag v&&ap.endLine == cp.line)=true:=by
 obtain ⟨q,e1,h1⟩:=dO h
 obtain ⟨v,e2,h2⟩:=dO h1
 obtain ⟨p,pos,rfl⟩:=qv e1
 rw [og e2]
 exact ⟨_,_,_,_,_,_,_,rfl,h2⟩
theorem pR {i:Nat}{e:ME}{s:Stmt} (h:gD T N sc (.extend i e) s=true):∃ x p m ap v cp pos,s=.Expr (.Call (.Attribute (.Name x p) m ap) [v] [] cp) pos/\(a8 N sc i x&&m == ("extend":Str)&&chk T e N sc v&&ag v&&ap.endLine == cp.line)=true:=by
 obtain ⟨q,e1,h1⟩:=dO h
 obtain ⟨v,e2,h2⟩:=dO h1
 obtain ⟨p,pos,rfl⟩:=qv e1
 rw [og e2]
 exact ⟨_,_,_,_,_,_,_,rfl,h2⟩
theorem u8 {i:Nat}{k e:ME}{s:Stmt} (h:gD T N sc (.dput i k e) s=true):∃ x p s' sp v pos,s=.Assign [.Subscript (.Name x p) s' sp] v pos/\(a8 N sc i x&&chk T k N sc s'&&bE s'&&chk T e N sc v&&!aD e&&cq v)=true:=by
 obtain ⟨q,e1,h1⟩:=dO h
 obtain ⟨p,sp,pos,rfl⟩:=wV e1
 exact ⟨_,_,_,_,_,_,rfl,h1⟩
theorem u9 {m:Bool}{i:Nat}{s:Stmt} (h:gD T N sc (.newD m i) s=true):∃ x p dp pos,s=.Assign [.Name x p] (.Dict [] [] dp) pos/\(N[i]? == some x&&i_ sc x&&az x)=true:=by
 obtain ⟨q,e1,h1⟩:=dO h
 rw [Bool.and_eq_true] at h1
 obtain ⟨pos,rfl⟩:=m6 e1
 obtain ⟨p,e2⟩:=uB h1.1
 rw [e2]
 exact ⟨_,_,_,_,rfl,h1.2⟩
theorem xq {c:ME}{a b:List MS}{s:Stmt} (h:gD T N sc (.ite c a b) s=true):∃ t x y pos,s=.If t x y pos/\(chk T c N sc t&&chkSs T N sc a x&&chkSs T N sc b y)=true:=by
 cases s with
 | If t x y pos=>exact ⟨t,x,y,pos,rfl,h⟩
 | _=>cases (show false=true from h)
theorem u_ {i:Nat}{k:Sk}{src:List ME}{body:List MS}{s:Stmt} (h:gD T N sc (.for1 i k src body) s=true):∃ x px it b pos,s=.For (.Name x px) it b [] pos/\(N[i]? == some x&&i_ sc x&&az x&&dy sc false (λxs=>chks T src N sc xs) k it&&chkSs T N sc body b)=true:=by
 simp only [wX] at h
 split at h <;> first|(cases h;done)|(rename_i heq;cases heq;exact ⟨_,_,_,_,_,rfl,h⟩)|(injections;done)|(injections;subst_vars;exact ⟨_,_,_,_,_,rfl,h⟩)
theorem va {is:List Nat}{k:Sk}{src:List ME}{body:List MS}{s:Stmt} (h:gD T N sc (.forT is k src body) s=true):∃ ts j tp it b pos,s=.For (.Tuple ts j tp) it b [] pos/\(cZ N sc is ts&&dy sc true (λxs=>chks T src N sc xs) k it&&chkSs T N sc body b)=true:=by
 simp only [wY] at h
 split at h <;> first|(cases h;done)|(rename_i heq;cases heq;exact ⟨_,_,_,_,_,_,rfl,h⟩)|(injections;done)|(injections;subst_vars;exact ⟨_,_,_,_,_,_,rfl,h⟩)
theorem xr {e:ME}{s:Stmt} (h:gD T N sc (.ret e) s=true):∃ v pos,s=.Return (some v) pos/\(chk T e N sc v&&!aD e)=true:=by
 obtain ⟨v,e1,h1⟩:=dO h
 obtain ⟨pos,rfl⟩:=qw e1
 exact ⟨_,_,rfl,h1⟩
theorem pS {i:Nat}{s:Stmt} (h:gD T N sc (.retOwn i) s=true):∃ x p pos,s=.Return (some (.Name x p)) pos/\(a8 N sc i x)=true:=by
 obtain ⟨v,e1,h1⟩:=dO h
 obtain ⟨x,e2,h2⟩:=dO h1
 obtain ⟨pos,rfl⟩:=qw e1
 obtain ⟨p,rfl⟩:=uu e2
 exact ⟨_,_,_,rfl,h2⟩
end
noncomputable def zW:MS->Bool
 | .freeze _=>true
 | _=>false
mutual
theorem zX {T:Tab}{k:Nat}{cal:Cal}{X:Cx} (g:Gf X T k cal) (d:Df X):∀ (m:MS) (s:Stmt),gD T X.N X.env.scope m s=true->PS X s (tS X.K cal m)
 | .set i e,s,h=>by
  obtain ⟨x,px,v,pos,rfl,hc⟩:=xo h
  simp only [Bool.and_eq_true,Bool.or_eq_true,beq_iff_eq,Bool.not_eq_true'] at hc
  obtain ⟨⟨⟨⟨⟨h1,h2⟩,h3⟩,h4⟩,h5⟩,h6⟩:=hc
  rcases h6 with h6|h6
  ·exact BP d h1 (kF h2) (aj e g h4).1 h5 h6
  ·obtain ⟨t,p,hp,hf⟩:=qL (pos:=pos) g d h1 (kF h2) h4 h6
   exact PS.imp' p λD σ H hl q=>hp _ _ _ (BU hf (u0 (ltN h1 hl) h5 q))
 | .setOwn i e,s,h=>by
  obtain ⟨x,px,v,pos,rfl,hc⟩:=xp h
  simp only [Bool.and_eq_true,Bool.or_eq_true,beq_iff_eq] at hc
  obtain ⟨⟨⟨⟨⟨h1,h2⟩,h3⟩,h4⟩,h5⟩,h6⟩:=hc
  rcases h6 with h6|h6
  ·exact BQ d h1 (kF h2) (zO g h4 h5) h6
  ·obtain ⟨t,p,hp,hf⟩:=qL (pos:=pos) g d h1 (kF h2) h4 h6
   exact PS.imp' p λD σ H hl q=>hp _ _ _ (u3 (ltN h1 hl) q)
 | .append i e,s,h=>by
  obtain ⟨x,p,m,ap,v,cp,pos,rfl,hc⟩:=pQ h
  simp only [Bool.and_eq_true,beq_iff_eq,Bool.not_eq_true'] at hc
  obtain ⟨⟨⟨⟨⟨h1,rfl⟩,h3⟩,h4⟩,h5⟩,h6⟩:=hc
  exact u4 (aj e g h3).1 h1 h4 h5 (beq_iff_eq.mpr h6)
 | .extend i e,s,h=>by
  obtain ⟨x,p,m,ap,v,cp,pos,rfl,hc⟩:=pR h
  simp only [Bool.and_eq_true,beq_iff_eq] at hc
  obtain ⟨⟨⟨⟨h1,rfl⟩,h3⟩,h5⟩,h6⟩:=hc
  exact u5 (aj e g h3).1 h1 h5 (beq_iff_eq.mpr h6)
 | .setIdx _ _ _,s,h=>absurd (show false=true from h) Bool.false_ne_true
 | .unpack _ _,s,h=>absurd (show false=true from h) Bool.false_ne_true
 | .expr _,s,h=>absurd (show false=true from h) Bool.false_ne_true
 | .ite c a b,s,h=>by
  obtain ⟨t,x,y,pos,rfl,hc⟩:=xq h
  simp only [Bool.and_eq_true] at hc
  exact C6 (aj c g hc.1.1).2 (soundSs g d a x hc.1.2) (soundSs g d b y hc.2)
 | .for1 i k' src body,s,h=>by
  obtain ⟨x,px,it,b,pos,rfl,hc⟩:=u_ h
  simp only [Bool.and_eq_true,beq_iff_eq] at hc
  obtain ⟨⟨⟨⟨h1,h2⟩,h3⟩,h4⟩,h5⟩:=hc
  have hw:=kK (tg:=.Name x px) (λz=>by cases z) g h4 (λxs hxs=>⟨sounds src g hxs,b6 hxs⟩) (λm x hm hx=>match src,hm with|[m'],rfl=>(aj m' g (by simp only [chks,Bool.and_eq_true] at hx;exact hx.1.1)).1)
  exact zT g d h1 (kF h2) hw.1 hw.2 (soundSs g d body b h5)
 | .forT is k' src body,s,h=>by
  obtain ⟨ts,j,tp,it,b,pos,rfl,hc⟩:=va h
  simp only [Bool.and_eq_true] at hc
  obtain ⟨⟨h1,h4⟩,h5⟩:=hc
  have hw:=kK (tg:=.Tuple ts j tp) (λ_=>⟨_,_,_,rfl⟩) g h4 (λxs hxs=>⟨sounds src g hxs,b6 hxs⟩) (λm x hm hx=>match src,hm with|[m'],rfl=>(aj m' g (by simp only [chks,Bool.and_eq_true] at hx;exact hx.1.1)).1)
  exact zV g d h1 hw.1 hw.2 (soundSs g d body b h5)
 | .while _ _ _,s,h=>absurd (show false=true from h) Bool.false_ne_true
 | .ret e,s,h=>by
  obtain ⟨v,pos,rfl,hc⟩:=xr h
  simp only [Bool.and_eq_true,Bool.not_eq_true'] at hc
  exact BR (aj e g hc.1).1 hc.2
 | .retOwn i,s,h=>by
  obtain ⟨x,p,pos,rfl,hc⟩:=pS h
  exact u6 hc
 | .retN,s,h=>absurd (show false=true from h) Bool.false_ne_true
 | .brk,s,h=>absurd (show false=true from h) Bool.false_ne_true
 | .cont,s,h=>absurd (show false=true from h) Bool.false_ne_true
 | .pass,s,h=>absurd (show false=true from h) Bool.false_ne_true
 | .never,s,h=>by
  refine sM.imp λD σ H q=>?_
  obtain ⟨B,O₀,O,ρ,st,q⟩:=q
  rw [ex] at q
  exact q
 | .newD m i,s,h=>by
  obtain ⟨x,p,dp,pos,rfl,hc⟩:=u9 h
  simp only [Bool.and_eq_true,beq_iff_eq] at hc
  exact zP d hc.1.1 (kF hc.1.2)
 | .dput i mk me,s,h=>by
  obtain ⟨x,p,s',sp,v,pos,rfl,hc⟩:=u8 h
  simp only [Bool.and_eq_true] at hc
  exact zQ g (aj mk g hc.1.1.1.1.2).1 (aj me g hc.1.1.2).1 hc.1.1.1.1.1 hc.2
 | .freeze _,s,h=>absurd (show false=true from h) Bool.false_ne_true
theorem soundSs {T:Tab}{k:Nat}{cal:Cal}{X:Cx} (g:Gf X T k cal) (d:Df X):∀ (ms:List MS) (ss:List Stmt),chkSs T X.N X.env.scope ms ss=true->PSs X ss (tSs X.K cal ms)
 | [],ss,h=>by
  cases ss with
  | nil=>exact BS
  | cons _ _=>cases h
 | m::ms,ss,h=>by
  cases hm:zW m with
  | true =>
   cases m <;> simp [zW] at hm
   cases h
  | false =>
   cases ss with
   | nil=>cases m <;> first|(cases h;done)|cases hm
   | cons s ss =>
    have h:(gD T X.N X.env.scope m s&&chkSs T X.N X.env.scope ms ss)=true:=by cases m <;> first|exact h|(simp [zW] at hm)
    simp only [Bool.and_eq_true] at h
    exact zR (zX g d m s h.1) (soundSs g d ms ss h.2)
end
end MM
namespace MM
open PySem PySem.Spec PyProof.Rows L2
structure FnD (K:PySem.W.Frag) (x:Str) (st:Stmt) (fa:Addr) (fd:FuncData):Prop where
 it:∃ (c0 d0 k0 o0 m0:Value) (a0:Option Addr) (c1 t1:Value) (a1:Option Addr) (sl:Array (Option Value)),
  K.lookup fa=some ⟨c0,a1,.func fd,sl⟩/\PySem.W.codeIn K c1 x=true/\fd=PySem.W.fnOf x x (ik st) (dW st) (aP st) d0 k0 o0 m0 a0 c1 t1
 kp:PySem.W.keepIn K (.ref fa)=true
theorem FnD.mk' {K:PySem.W.Frag}{x:Str}{st:Stmt}{fa:Addr}{c0 d0 k0 o0 m0 c1 t1:Value}{a0 a1:Option Addr}{sl:Array (Option Value)}
  (l:K.lookup fa=some ⟨c0,a1,.func (PySem.W.fnOf x x (ik st) (dW st) (aP st) d0 k0 o0 m0 a0 c1 t1),sl⟩) (c:PySem.W.codeIn K c1 x=true) (k:PySem.W.keepIn K (.ref fa)=true) :
  FnD K x st fa (PySem.W.fnOf x x (ik st) (dW st) (aP st) d0 k0 o0 m0 a0 c1 t1):=⟨⟨_,_,_,_,_,_,_,_,_,_,l,c,rfl⟩,k⟩
theorem FnD.mkd {K:PySem.W.Frag}{x:Str}{st:Stmt}{fa T:Addr}{c0 k0 o0 m0 c1 t1:Value}{a0 a1:Option Addr}{sl:Array (Option Value)}
  (l:K.lookup fa=some ⟨c0,a1,.func (PySem.W.fnOf x x (ik st) (dW st) (aP st) (.ref T) k0 o0 m0 a0 c1 t1),sl⟩) (c:PySem.W.codeIn K c1 x=true) (k:PySem.W.keepIn K (.ref fa)=true) :
  FnD K x st fa (PySem.W.fnOf x x (ik st) (dW st) (aP st) (.ref T) k0 o0 m0 a0 c1 t1):=.mk' l c k
structure qM (T:Tab) (K:PySem.W.Frag) (mg:Str->Option Value) (st:Stmt) (d:MD) (fa:Addr) (fd:FuncData):Prop where
 fn:FnD K d.name st fa fd
 binds:dk K fd d.params []
 named:mg d.name=some (.ref fa)
 scope:mz d.names d.params (aP st)
 body:chkSs T d.names (aP st) d.body (dW st)=true
theorem bn1 {K:PySem.W.Frag}{fd:FuncData}{pa:Str} (h:∀ a,bindArgs fd ⟨[a],[]⟩=pure [(pa,a)]):dk K fd [pa] []:=.all λus hl=>match us,hl with|[a],_=>h a
theorem bn2 {K:PySem.W.Frag}{fd:FuncData}{pa pb:Str} (h:∀ a b,bindArgs fd ⟨[a,b],[]⟩=pure [(pa,a),(pb,b)]):dk K fd [pa,pb] []:=.all λus hl=>match us,hl with|[a,b],_=>h a b
theorem bn3 {K:PySem.W.Frag}{fd:FuncData}{pa pb pc:Str} (h:∀ a b c,bindArgs fd ⟨[a,b,c],[]⟩=pure [(pa,a),(pb,b),(pc,c)]):dk K fd [pa,pb,pc] []:=.all λus hl=>match us,hl with|[a,b,c],_=>h a b c
theorem bn4 {K:PySem.W.Frag}{fd:FuncData}{pa pb pc pd:Str} (h:∀ a b c d,bindArgs fd ⟨[a,b,c,d],[]⟩=pure [(pa,a),(pb,b),(pc,c),(pd,d)]):dk K fd [pa,pb,pc,pd] []:=.all λus hl=>match us,hl with|[a,b,c,d],_=>h a b c d
theorem g_ {K:PySem.W.Frag}{fd:FuncData}{ps:List Str}{T:Addr}{c:Value}{o:Option Addr}{vs:Array Value}{n:Nat}{sl:Array (Option Value)} (hd:fd.defaults=.ref T) (l:K.lookup T=some ⟨c,o,.seq vs n,sl⟩)
  (h:∀ us:List Value,us.length=ps.length->∃ k,bindArgs fd ⟨us,[]⟩=seqItems? fd.defaults >>= k/\k (some vs)=pure (ps.zip us)):dk K fd ps []:=λs us X hl=>by
 rw [List.append_nil] at hl ⊢
 obtain ⟨k,h1,h2⟩:=h us hl
 exact .of_defaults hd (X _ _ l) rfl h1 h2
noncomputable def HD (K:PySem.W.Frag) (x:Str) (st:Stmt) (d:MD) (q:FuncData->Prop:=λ_=>True):Prop:=d.name=x/\∃ fa fd,PySem.W.nsIn K mainGlobals x=some (some (.ref fa))/\FnD K x st fa fd/\dk K fd d.params []/\q fd
noncomputable def okD (T:Tab) (st:Stmt) (d:MD):Bool :=
 decide ((aP st).kind=.function/\(aP st).isCoroutine=false/\(aP st).isGenerator=false/\d.names.Nodup/\d.names.take d.params.length=d.params/\(∀ x ∈ d.params,(aP st).names.lookup x=some .local \/ (aP st).names.lookup x=some .cell)/\∀ y ∈ (aP st).names,y.2 ≠ .free)&&chkSs T d.names (aP st) d.body (dW st)
theorem ai {T:Tab}{K:PySem.W.Frag}{mg:Str->Option Value}{h:Heap}{st:Stmt}{d:MD} (X:K.In h) (G:h.Ns mainGlobals mg) {q:FuncData->Prop}{x:Str} (hd:HD K x st d q) (ck:okD T st d=true):∃ fa fd,qM T K mg st d fa fd/\q fd:=by
 obtain ⟨e,_,_,n,f,b,z⟩:=hd
 obtain ⟨c1,c2⟩:=Bool.and_eq_true_iff.mp ck
 obtain ⟨s1,s2,s3,s4,s5,s6,s7⟩:=of_decide_eq_true c1
 subst e
 exact ⟨_,_,⟨f,b,PySem.W.mg_of X G n,⟨s1,s2,s3,s4,s5,s6,s7⟩,c2⟩,z⟩
noncomputable def vb (T:Tab) (K:PySem.W.Frag) (mg:Str->Option Value):List MD->List (List Sc)->Prop
 | [],[]=>True
 | d::ds,l::ls=>(∃ st fa fd,qM T K mg st d fa fd/\∃ vs,dk K fd d.params vs/\ar (l.map Sc.v) vs)/\vb T K mg ds ls
 | _,_=>False
theorem vb.get {T:Tab}{K:PySem.W.Frag}{mg:Str->Option Value}:∀ {ds:List MD}{ls:List (List Sc)}{f:Nat}{d:MD},vb T K mg ds ls->ds[f]?=some d->∃ l st fa fd,ls[f]?=some l/\qM T K mg st d fa fd/\∃ vs,dk K fd d.params vs/\ar (l.map Sc.v) vs
 | [],_,f,d,_,e=>by simp at e
 | _::_,[],f,d,h,e=>h.elim
 | d0::ds,l::ls,0,d,h,e=>by
  cases e
  obtain ⟨⟨st,fa,fd,r⟩,_⟩:=h
  exact ⟨l,st,fa,fd,rfl,r⟩
 | d0::ds,l::ls,f + 1,d,h,e=>by
  obtain ⟨k,st,fa,fd,q,r⟩:=vb.get h.2 (show ds[f]?=some d from by simpa using e)
  exact ⟨k,st,fa,fd,by simpa using q,r⟩
structure BV (T:Tab) (K:PySem.W.Frag) (mg:Str->Option Value) (ds:List MD):Prop where
 tab:T.fs=ds.map (·.name)
 defs:vb T K mg ds T.ds
 blt:∀ x ∈ iJ,mg (x:Str)=none
 gs:∀ p ∈ T.gs,∃ u,mg p.1=some u/\aq (toV p.2) u
theorem kO {ds:List MD}{n f:Nat}{args:List MV}{r:PV} (h:aa ds (n + 1) f args=some r):∃ d,ds[f]?=some d/\args.length=d.params.length /\
  ((∃ ρ,exs (aa ds n) d.body (args.map some ++ List.replicate (d.names.length - args.length) none)=.next ρ/\r=.non) \/ exs (aa ds n) d.body (args.map some ++ List.replicate (d.names.length - args.length) none)=.ret r):=by
 rw [aa] at h
 split at h
 ·cases h
 ·rename_i d hd
  split at h
  ·rename_i hl
   refine ⟨d,hd,hl,?_⟩
   split at h
   ·rename_i ρ he
    cases h
    exact .inl ⟨ρ,he,rfl⟩
   ·rename_i v he
    cases h
    exact .inr he
   ·cases h
  ·cases h
theorem kP {α β:Type}{F:α->β->Prop}:∀ {xs:List α}{ys:List β}{i:Nat}{x:α},Paired F xs ys->xs[i]?=some x->∃ y,ys[i]?=some y/\F x y
 | _,_,_,_,.nil,e=>by simp at e
 | _,_,0,_,.cons r _,e=>by simp at e;subst e;exact ⟨_,rfl,r⟩
 | _,_,i + 1,x,.cons _ t,e=>by
  obtain ⟨u,h1,h2⟩:=kP (i:=i) (x:=x) t (by simpa using e)
  exact ⟨u,by simpa using h1,h2⟩
theorem vc {K:PySem.W.Frag}{H:Hp}{O:List Addr}{args:List MV}{vs:List V}{N:List Str} (hO:∀ a ∈ O,H a ≠ none) (h:Paired (kE K O H) args vs):aJ K H O O H (args.map some ++ List.replicate (N.length - args.length) none) (fH N vs):=by
 have hl:args.length=vs.length:=Paired.length h
 have get:∀ (i:Nat) (m:MV),(args.map some ++ List.replicate (N.length - args.length) none)[i]?=some (some m)->∃ u,(fH N vs)[i]?=some (some u)/\kE K O H m u:=λi m e=>by
  by_cases hi:i < args.length
  ·rw [List.getElem?_append_left (by simpa using hi),List.getElem?_map] at e
   cases ea:args[i]? with
   | none=>rw [ea] at e;cases e
   | some m' =>
    rw [ea] at e
    cases e
    obtain ⟨u,eu,q⟩:=kP h ea
    refine ⟨u,?_,q⟩
    unfold L2.fH
    rw [List.getElem?_append_left (by rw [List.length_map,<- hl];exact hi),List.getElem?_map,eu]
    rfl
  ·rw [List.getElem?_append_right (by simpa using hi),List.getElem?_replicate] at e
   split at e <;> cases e
 refine ⟨af.refl H,hO,λa ha=>ha,hO,by unfold L2.fH;simp [hl],λi m e=>?_,λi j xs ys a _ e _ ox _=>?_
  ⟩
 ·obtain ⟨u,eu,q⟩:=get i m e
  refine ⟨u,eu,?_⟩
  cases m with
  | val v=>exact q
  | own _=>exact q.elim
  | brw ys=>exact q
  | ownD _=>exact q.elim
  | brwD _=>exact q
 ·obtain ⟨u,eu,q⟩:=get i _ e
  cases xs with
  | own _=>exact q.elim
  | ownD _=>exact q.elim
  | val _=>cases ox
  | brw _=>cases ox
  | brwD _=>cases ox
section
variable {T:Tab}{P:Program}{w:World}{K:PySem.W.Frag}{mg:Str->Option Value}{base:Heap}{ds:List MD}
theorem yj (pr:BV T K mg ds):∀ (n f:Nat) (d:MD),ds[f]?=some d->∀ st fa fd,qM T K mg st d fa fd->lc P w K mg base CX0 n fa fd d.params (spM K (aa ds n) f)
 | 0,f,d,hd,st,fa,fd,D=>⟨λvs H Q E h=>(by obtain ⟨O,args,r,_,_,e,_⟩:=h;exact absurd e (by simp [aa])),λA outer s H args us vs Q E _ _ _ _ h=>(by obtain ⟨O,args,r,_,_,e,_⟩:=h;exact absurd e (by simp [aa]))⟩
 | n + 1,f,d,hd,st,fa,fd,D=>by
  obtain ⟨c0,d0,k0,o0,m0,a0,cdv,t1,a1,sl,lk,hc,rfl⟩:=D.fn.it
  refine Ba lk hc D.scope (λvs H Q E h=>?_) (λA outer s H vs Q E hr h=>?_)
  ·obtain ⟨O,args,r,_,hp,e,_⟩:=h
   obtain ⟨d',hd',hl,_⟩:=kO e
   rw [hd] at hd'
   cases hd'
   rw [<- hl]
   exact (Paired.length hp).symm
  ·obtain ⟨O,args,r,hO,hp,e,q⟩:=h
   obtain ⟨d',hd',hl,hr'⟩:=kO e
   rw [hd] at hd'
   cases hd'
   have g:Gf (nA CX0 P w K mg base d.names d.name (aP st) fa cdv A outer s H E).nox T n (aa ds n):=⟨rfl,hr,λf' x hx=>by
    rw [pr.tab,List.getElem?_map] at hx
    cases hd2:ds[f']? with
    | none=>rw [hd2] at hx;cases hx
    | some d2 =>
     rw [hd2] at hx
     cases hx
     obtain ⟨l2,st2,fa2,fd2,el,D2,bd⟩:=pr.defs.get hd2
     exact ⟨fa2,fd2,d2.params,D2.named,D2.fn.kp,D2.binds,yj pr n f' d2 hd2 st2 fa2 fd2 D2,λl hl=>by rw [el] at hl;cases hl;exact bd⟩,pr.blt,pr.gs⟩
   have df:Df (nA CX0 P w K mg base d.names d.name (aP st) fa cdv A outer s H E).nox:=⟨D.scope.nd,λ_=>rfl,PassesOwn.never,by
    have hk:(nA CX0 P w K mg base d.names d.name (aP st) fa cdv A outer s H E).nox.env.scope.kind=.function:=D.scope.kind
    unfold Env.blockKind
    rw [hk]
    rfl⟩
   refine ⟨_,(soundSs g df d.body (dW st) D.body).nox,H,O,O,_,vc hO hp,?_⟩
   rcases hr' with ⟨ρ,he,rfl⟩|he
   ·rw [he]
    exact λσ' H' O' st' _=>q _ H' st'.keep (m_ _)
   ·rw [he]
    exact λu H' s' r'=>q u H' s' r'
end
theorem zY {K:PySem.W.Frag}{ds:List MD}{n li:Nat}{H:Hp}{a:Addr}{ns:List Int} (h:aa ds n li [.brw (ns.map .int)]=some (.bl true)) (hS:SqL K H a (ns.map V.int)):spM K (aa ds n) li [.ref a] H (λv _=>v=.bl true) λ_ _ _=>False :=
 ⟨[],[.brw (ns.map .int)],.bl true,λ_ z=>by simp at z,.cons ⟨a,_,rfl,hS,.of_ints ns⟩ .nil,h,λu H' _ r=>by rw [Rep] at r;exact r⟩
end MM
namespace MM
open PySem
noncomputable abbrev ofS (ts:List Int):PV:=.tup (ts.map .int)
noncomputable abbrev ofR (R:List (List Int)):PV:=.tup (R.map ofS)
noncomputable abbrev ofL (ns:List Int):PV:=.lst (ns.map .int)
theorem cy:∀ ns:List Int,aS (ns.map .int)=some ns
 | []=>rfl
 | n::ns=>by simp [aS,cy ns]
theorem jf:∀ R:List (List Int),dl (R.map ofS)=some R
 | []=>rfl
 | t::R=>by simp [dl,cy,jf R]
theorem kQ:∀ ns:List Bool,cf (ns.map .bl)=some ns
 | []=>rfl
 | n::ns=>by simp [cf,kQ ns]
theorem l9 {ns:List Int} (h:ns.length < 64):fP (ns.map .int)=some (ofL (sortI ns)):=by
 unfold fP
 rw [if_pos (by simpa using h),cy]
theorem l_ {R:List (List Int)} (h:R.length < 64):fP (R.map ofS)=some (.lst ((sortT R).map ofS)):=by
 unfold fP
 rw [if_pos (by simpa using h)]
 cases R with
 | nil=>rfl
 | cons t R =>
  have:aS ((t::R).map ofS)=none:=rfl
  rw [this]
  simp only [jf,Option.map_some]
theorem cW {α:Type}{g:α->PV}{c:PV->Option Bool}{f:PV->Option PV}{p:α->Bool}{h:α->PV}:∀ {xs:List α},(∀ x ∈ xs,c (g x)=some (p x))->(∀ x ∈ xs,p x=true->f (g x)=some (h x))->eh c f (xs.map g)=some ((xs.filter p).map h)
 | [],_,_=>rfl
 | x::xs,hc,hf=>by
  rw [List.map_cons,eh,hc x (.head _),Option.bind_some]
  have ih:=cW (xs:=xs) (λy hy=>hc y (.tail _ hy)) (λy hy=>hf y (.tail _ hy))
  cases hp:p x with
  | true=>rw [if_pos rfl,hf x (.head _) hp,Option.bind_some,ih,List.filter_cons_of_pos hp];rfl
  | false=>rw [if_neg (by simp),ih,List.filter_cons_of_neg (by simp [hp])]
theorem hV {α:Type}{g:α->PV}{c:PV->Option Bool}{f:PV->Option PV}{h:α->PV}{xs:List α} (hc:∀ x ∈ xs,c (g x)=some true) (hf:∀ x ∈ xs,f (g x)=some (h x)):eh c f (xs.map g)=some (xs.map h):=by
 rw [cW (p:=λ_=>true) hc (λx hx _=>hf x hx),List.filter_eq_self.mpr λ_ _=>rfl]
theorem zZ (a b:Int) (ts:List Int):((b == a) || decide (a ∈ ts))=decide (a=b \/ a ∈ ts):=by
 by_cases e:a=b
 ·subst e;rw [beq_self_eq_true,Bool.true_or];exact (decide_eq_true (.inl rfl)).symm
 ·rw [beq_eq_false_iff_ne.mpr (Ne.symm e),Bool.false_or]
  by_cases q:a ∈ ts
  ·rw [decide_eq_true q,decide_eq_true (.inr q)]
  ·rw [decide_eq_false q,decide_eq_false (λz=>z.elim e q)]
theorem z5 (a b:List Int) (ts:List (List Int)):(decide (b=a) || decide (a ∈ ts))=decide (a=b \/ a ∈ ts):=by
 by_cases e:a=b
 ·subst e;rw [decide_eq_true rfl,Bool.true_or];exact (decide_eq_true (.inl rfl)).symm
 ·rw [decide_eq_false (Ne.symm e),Bool.false_or]
  by_cases q:a ∈ ts
  ·rw [decide_eq_true q,decide_eq_true (.inr q)]
  ·rw [decide_eq_false q,decide_eq_false (λz=>z.elim e q)]
theorem gp (h:Int):∀ ts:List Int,isIn (.int h) (ts.map .int)=some (decide (h ∈ ts))
 | []=>rfl
 | t::ts=>by
  have ih:=gp h ts
  unfold isIn at ih ⊢
  rw [List.map_cons,inL,ih]
  simp only [eqF,Option.bind_some,Option.map_some,List.mem_cons,zZ]
theorem oQ (n:Nat):∀ a b:List Int,eqL (eqF n) (a.map .int) (b.map .int)=some (decide (a=b))
 | [],[]=>rfl
 | [],_::_=>rfl
 | _::_,[]=>rfl
 | x::a,y::b=>by
  rw [List.map_cons,List.map_cons,eqL,oQ n a b]
  simp only [eqF,Option.bind_some,Option.map_some,List.cons.injEq]
  congr 1
  rw [Bool.eq_iff_iff]
  simp
theorem BW (n:Nat) (a b:List Int):eqF (n + 1) (ofS a) (ofS b)=some (decide (a=b)):=by rw [eqF,oQ]
theorem vd (h:List Int):∀ ts:List (List Int),isIn (ofS h) (ts.map ofS)=some (decide (h ∈ ts))
 | []=>rfl
 | t::ts=>by
  have ih:=vd h ts
  unfold isIn at ih ⊢
  rw [List.map_cons,inL,ih,BW 99]
  simp only [Option.bind_some,Option.map_some,List.mem_cons,z5]
noncomputable def bc:R->Option PV
 | .next _=>some .non
 | .ret v=>some v
 | _=>none
theorem ae {ds:List MD}{n f:Nat}{d:MD}{args:List MV} (hd:ds[f]?=some d) (hl:args.length=d.params.length):aa ds (n + 1) f args=bc (exs (aa ds n) d.body (args.map some ++ List.replicate (d.names.length - args.length) none)):=by
 rw [aa,hd]
 simp only [hl,if_true]
 unfold bc
 rfl
@[simp] theorem Au (v:PV):bg (some (.val v))=some v:=rfl
@[simp] theorem Av (v:List PV):bg (some (.own v))=some (.lst v):=rfl
@[simp] theorem Aw (v:List PV):bg (some (.brw v))=some (.lst v):=rfl
@[simp] theorem z6 (v:DD):bg (some (.ownD v))=some (.dI v):=rfl
@[simp] theorem z7 (v:DD):bg (some (.brwD v))=some (.dI v):=rfl
@[simp] theorem z8 (v:DD):fR (some (.ownD v))=some (.brwD v):=rfl
@[simp] theorem z9 (v:DD):fR (some (.brwD v))=some (.brwD v):=rfl
@[simp] theorem z_ (v:DD):eO (some (.ownD v))=some (.brwD v):=rfl
@[simp] theorem Aa (v:DD):eO (some (.brwD v))=some (.brwD v):=rfl
@[simp] theorem C7 (i:Int):sc? (.int i)=some (.int i):=rfl
@[simp] theorem Do (i:Bool):sc? (.bl i)=some (.bl i):=rfl
@[simp] theorem C8:sc? .non=some .non:=rfl
@[simp] theorem C9 (i:Int):(Sc.int i).pv=.int i:=rfl
@[simp] theorem Dp (i:Bool):(Sc.bl i).pv=.bl i:=rfl
@[simp] theorem Ax (v:PV):ul (some (.val v))=some v:=rfl
@[simp] theorem Ay (v:PV):fR (some (.val v))=some (.val v):=rfl
@[simp] theorem Az (v:List PV):fR (some (.own v))=some (.brw v):=rfl
@[simp] theorem AA (v:List PV):fR (some (.brw v))=some (.brw v):=rfl
@[simp] theorem AB (v:PV):eO (some (.val v))=some (.val v):=rfl
@[simp] theorem AC (v:List PV):eO (some (.own v))=some (.brw v):=rfl
@[simp] theorem AD (v:List PV):eO (some (.brw v))=some (.brw v):=rfl
@[simp] theorem AE (b:Bool):aE (.bl b)=some b:=rfl
@[simp] theorem qN (i j:Int):gU .add (.int i) (.int j)=some (.int (i + j)):=rfl
@[simp] theorem Ci (i j:Int):gU .sub (.int i) (.int j)=some (.int (i - j)):=rfl
@[simp] theorem Cj (i j:Int):gU .mul (.int i) (.int j)=if (-(2 ^ 64) < i/\i < 2 ^ 64) \/ (-(2 ^ 64) < j/\j < 2 ^ 64) then some (.int (i * j)) else none:=rfl
@[simp] theorem ve (i j:Int):gU .fdiv (.int i) (.int j)=if 0 < j/\j < 1073741824 then some (.int (i / j)) else none:=rfl
@[simp] theorem jQ (i j:Int):gU .mod (.int i) (.int j)=if 0 < j then some (.int (i % j)) else none:=rfl
@[simp] theorem Ck (x y:List PV):gU .add (.lst x) (.lst y)=if x.length + y.length <= 10000 then some (.lst (x ++ y)) else none:=rfl
@[simp] theorem C_ (i j:Int):cb .lt (.int i) (.int j)=some (decide (i < j)):=rfl
@[simp] theorem Da (i j:Int):cb .le (.int i) (.int j)=some (decide (i <= j)):=rfl
@[simp] theorem Db (i j:Int):cb .gt (.int i) (.int j)=some (decide (j < i)):=rfl
@[simp] theorem Dc (i j:Int):cb .ge (.int i) (.int j)=some (decide (j <= i)):=rfl
@[simp] theorem Ab (x y:PV):cb .eq x y=eqF 100 x y:=rfl
@[simp] theorem Dd (x y:PV):cb .ne x y=if rW x y=true then (eqF 100 x y).map (λp=>!p) else none:=rfl
@[simp] theorem Cl (x:PV):cb .isN x .non=some (dM x):=rfl
@[simp] theorem BX (x:PV):cb .notN x .non=some (!dM x):=rfl
@[simp] theorem Cm (x:PV) (xs:List PV):cb .isIn x (.tup xs)=isIn x xs:=rfl
@[simp] theorem Cn (x:PV) (xs:List PV):cb .isIn x (.lst xs)=isIn x xs:=rfl
@[simp] theorem BY (x:PV) (xs:List PV):cb .notIn x (.tup xs)=(isIn x xs).map λp=>!p:=rfl
@[simp] theorem BZ (x:PV) (xs:List PV):cb .notIn x (.lst xs)=(isIn x xs).map λp=>!p:=rfl
@[simp] theorem xt (n:Nat) (i j:Int):eqF n (.int i) (.int j)=some (i == j):=by cases n <;> rfl
@[simp] theorem De (n:Nat) (i j:Bool):eqF n (.bl i) (.bl j)=some (i == j):=by cases n <;> rfl
@[simp] theorem Co (n:Nat) (i j:Str):eqF n (.str i) (.str j)=some (i == j):=by cases n <;> rfl
@[simp] theorem Cq (x y:List PV):rW (.tup x) (.tup y)=true:=rfl
@[simp] theorem Cr (x y:List PV):rW (.lst x) (.lst y)=true:=rfl
@[simp] theorem Cs (x y:Int):rW (.int x) (.int y)=true:=rfl
@[simp] theorem Ct (x:List PV):aO (.tup x)=some x:=rfl
@[simp] theorem jR (x:List PV):aO (.lst x)=some x:=rfl
@[simp] theorem B0 (x:List PV):ak .len [.tup x]=some (.int x.length):=rfl
@[simp] theorem B1 (x:List PV):ak .len [.lst x]=some (.int x.length):=rfl
@[simp] theorem B2 (x:List (Int × Sc)):ak .len [.dI (.k x)]=some (.int x.length):=rfl
@[simp] theorem Cu (x:PV):ak .tupleOf [x]=(aO x).map .tup:=rfl
@[simp] theorem B3 (x:PV):ak .listOf [x]=(aO x).map .lst:=rfl
@[simp] theorem hW (x:PV):ak .sorted [x]=(aO x).bind fP:=rfl
@[simp] theorem xu (x:List PV):ak .any [.lst x]=(cf x).map λbs=>.bl (bs.any id):=rfl
@[simp] theorem Cv (x:List PV):ak .all [.lst x]=(cf x).map λbs=>.bl (bs.all id):=rfl
@[simp] theorem B4 (i:Int):ak .intOf [.int i]=some (.int i):=rfl
@[simp] theorem B5 (b:Bool):ak .intOf [.bl b]=some (.int (if b then 1 else 0)):=rfl
@[simp] theorem Cw (i:Int):isD (.int i)=false:=rfl
@[simp] theorem Dg (i:Bool):isD (.bl i)=false:=rfl
@[simp] theorem Cy (i:Str):isD (.str i)=false:=rfl
@[simp] theorem Cz (i:List PV):isD (.tup i)=false:=rfl
@[simp] theorem CA (i:List PV):isD (.lst i)=false:=rfl
@[simp] theorem CB:isD .non=false:=rfl
@[simp] theorem AF (x:PV):ak .isInt [x]=if isD x=true then none else some (.bl (isT .isInt x)):=rfl
@[simp] theorem vQ (i:Int):isT .isInt (.int i)=true:=rfl
@[simp] theorem xv (i:Bool):isT .isInt (.bl i)=true:=rfl
@[simp] theorem vR (i:Str):isT .isInt (.str i)=false:=rfl
@[simp] theorem vS (i:List PV):isT .isInt (.lst i)=false:=rfl
@[simp] theorem vT (i:List PV):isT .isInt (.tup i)=false:=rfl
@[simp] theorem vU:isT .isInt .non=false:=rfl
@[simp] theorem Ac (x:PV):ak .isBool [x]=if isD x=true then none else some (.bl (isT .isBool x)):=rfl
@[simp] theorem vf (i:Int):isT .isBool (.int i)=false:=rfl
@[simp] theorem vV (i:Bool):isT .isBool (.bl i)=true:=rfl
@[simp] theorem vg (i:Str):isT .isBool (.str i)=false:=rfl
@[simp] theorem vh (i:List PV):isT .isBool (.lst i)=false:=rfl
@[simp] theorem vi (i:List PV):isT .isBool (.tup i)=false:=rfl
@[simp] theorem vj:isT .isBool .non=false:=rfl
@[simp] theorem AG (x:PV):ak .isStr [x]=if isD x=true then none else some (.bl (isT .isStr x)):=rfl
@[simp] theorem vW (i:Int):isT .isStr (.int i)=false:=rfl
@[simp] theorem xw (i:Bool):isT .isStr (.bl i)=false:=rfl
@[simp] theorem vX (i:Str):isT .isStr (.str i)=true:=rfl
@[simp] theorem vY (i:List PV):isT .isStr (.lst i)=false:=rfl
@[simp] theorem vZ (i:List PV):isT .isStr (.tup i)=false:=rfl
@[simp] theorem v0:isT .isStr .non=false:=rfl
@[simp] theorem Ad (x:PV):ak .isList [x]=if isD x=true then none else some (.bl (isT .isList x)):=rfl
@[simp] theorem vk (i:Int):isT .isList (.int i)=false:=rfl
@[simp] theorem v3 (i:Bool):isT .isList (.bl i)=false:=rfl
@[simp] theorem vm (i:Str):isT .isList (.str i)=false:=rfl
@[simp] theorem vn (i:List PV):isT .isList (.lst i)=true:=rfl
@[simp] theorem vo (i:List PV):isT .isList (.tup i)=false:=rfl
@[simp] theorem vp:isT .isList .non=false:=rfl
@[simp] theorem yk (x:PV):ak .isTuple [x]=if isD x=true then none else some (.bl (isT .isTuple x)):=rfl
@[simp] theorem sA (i:Int):isT .isTuple (.int i)=false:=rfl
@[simp] theorem vq (i:Bool):isT .isTuple (.bl i)=false:=rfl
@[simp] theorem sB (i:Str):isT .isTuple (.str i)=false:=rfl
@[simp] theorem sC (i:List PV):isT .isTuple (.lst i)=false:=rfl
@[simp] theorem sD (i:List PV):isT .isTuple (.tup i)=true:=rfl
@[simp] theorem sE:isT .isTuple .non=false:=rfl
@[simp] theorem B6 (xs:List PV):ak .max1 [.lst xs]=(aS xs).bind λns=>(zm ns).map .int:=rfl
@[simp] theorem Ae (d:DD):ak .valuesOf [.dI d]=if (kr d).length <= 10000 then some (.lst (kr d)) else none:=rfl
@[simp] theorem vt (kvs:List (Int × Sc)):ak .sortedKeys [.dI (.k kvs)]=if kvs.length < 64 then some (ofL (sortI (kvs.map (·.1)))) else none:=rfl
@[simp] theorem Dh (kvs:List (Int × Sc)) (i:Int):rX (.dI (.k kvs)) (.int i)=some (fO kvs i):=rfl
@[simp] theorem Di (kvs:List (List Int × Sc)) (ns:List Int):rX (.dI (.t kvs)) (.tup (ns.map .int))=some (fO kvs ns):=by
 show (aS (ns.map .int)).map (fO kvs)=_
 rw [cy]
 rfl
@[simp] theorem Dj (kvs:List (Int × Sc)) (i:Int) (s:Sc):uh (.k kvs) (.int i) s=if kvs.length < 10000 then some (.k (eM kvs i s)) else none:=rfl
@[simp] theorem Dk (kvs:List (List Int × Sc)) (ns:List Int) (s:Sc):uh (.t kvs) (.tup (ns.map .int)) s=if kvs.length < 10000 then some (.t (eM kvs ns s)) else none:=by
 show ((aS (ns.map .int)).bind λk=>if kvs.length < 10000 then some (DD.t (eM kvs k s)) else none)=_
 rw [cy]
 rfl
@[simp] theorem CC (p q:Bool):cb .isN (.bl p) (.bl q)=some (p == q):=rfl
@[simp] theorem B7 (p q:Bool):cb .notN (.bl p) (.bl q)=some (!(p == q)):=rfl
theorem nn {j:Int} (h0:0 <= j) (h1:j <= 10000):ak .tupleRng [.int j]=some (.tup ((List.range j.toNat).map λ(k:Nat)=>.int (k:Int))):=by
 show (if 0 <= j/\j <= 10000 then some (PV.tup ((List.range j.toNat).map λ(k:Nat)=>PV.int (k:Int))) else none)=_
 rw [if_pos ⟨h0,h1⟩]
@[simp] theorem xx (xs:List PV):ak .tupleRev [.lst xs]=some (.tup xs.reverse):=rfl
@[simp] theorem kR (x:PV):ak .sortedSetT [x]=(eN x).bind λxs=>(dl xs).bind λts=>if ts.length <= 60 then some (.lst ((sortT (ddT ts)).map λt=>.tup (t.map .int))) else none:=rfl
@[simp] theorem v4 (x:PV):ak .sortedSet [x]=(aO x).bind λxs=>(aS xs).bind λns=>if ns.length <= 1000/\(dd ns).length < 64 then some (.lst ((sortI (dd ns)).map .int)) else none:=rfl
@[simp] theorem Dq (x:List PV) (i:Int):n_ (.lst x) (.int i)=(place x.length i).bind λj=>x[j]?:=rfl
@[simp] theorem Dr (x:List PV) (i:Int):n_ (.tup x) (.int i)=(place x.length i).bind λj=>x[j]?:=rfl
@[simp] theorem CD (x:List PV) (lo hi:Option Int):jI (.lst x) lo hi=some (.lst (cut x lo hi)):=rfl
@[simp] theorem CF (i j:Int):bnd (.cst (.int i)) (.int j)=some (some j):=rfl
@[simp] theorem CG (x:PV):cj .seq [x]=aO x:=rfl
theorem xy (j:Int):cj .rng [.int j]=if -(2 ^ 62) <= j/\j < 2 ^ 62 then some ((List.range j.toNat).map λ(k:Nat)=>.int ((0:Int) + k)) else none:=rfl
@[simp] theorem aM (ρ:Rho) (k:Rho->R):(R.next ρ).andThen k=k ρ:=rfl
@[simp] theorem B8 (v:PV) (k:Rho->R):(R.ret v).andThen k=.ret v:=rfl
@[simp] theorem B9 (k:Rho->R):R.bad.andThen k=.bad:=rfl
@[simp] theorem B_ (ρ:Rho) (k:Rho->R):(R.brk ρ).andThen k=.brk ρ:=rfl
@[simp] theorem AH (ρ:Rho) (k:Rho->R):(R.cont ρ).andThen k=.cont ρ:=rfl
@[simp] theorem Af (v:PV) (k:PV->R):eP (some v) k=k v:=rfl
@[simp] theorem fj (v:Bool) (k:Bool->R):um (some v) k=k v:=rfl
@[simp] theorem Ag (v:Rho) (k:Rho->R):db (some v) k=k v:=rfl
@[simp] theorem AI (v:PV):bc (.ret v)=some v:=rfl
@[simp] theorem Ah (ρ:Rho):bc (.next ρ)=some .non:=rfl
@[simp] theorem cF (a:Option MV) (l:Rho) (m:MV):put (a::l) 0 m=some m::l:=rfl
@[simp] theorem cG (a:Option MV) (l:Rho) (n:Nat) (m:MV):put (a::l) (n + 1) m=a::put l n m:=rfl
@[simp] theorem jg (src:List ME) (ρ₀ ρ:Rho):(R.next ρ).back src ρ₀=.next (bD src ρ₀ ρ):=rfl
@[simp] theorem Ca (src:List ME) (ρ₀:Rho) (v:PV):(R.ret v).back src ρ₀=.ret v:=rfl
@[simp] theorem AJ (body:PV->Rho->R) (ρ:Rho):aT body [] ρ=.next ρ:=rfl
theorem kS {j:Int} (h0:0 <= j) (h1:j < 4611686018427387904):cj .rng [.int j]=some ((List.range j.toNat).map λ(k:Nat)=>.int (k:Int)):=by
 rw [xy,if_pos ⟨by omega,by omega⟩]
 congr 1
 exact List.map_congr_left λk _=>by rw [Int.zero_add]
theorem vv {n:Nat}{i:Int} (h0:0 <= i) (h:i < n):place n i=some i.toNat:=by unfold place;rw [if_pos h0,if_pos h]
noncomputable def leT (a b:List Int):Prop:=lexLt b a=false
theorem sortI_perm (l:List Int):(sortI l).Perm l:=by rw [dP];exact L2.Srt.sortI_perm l
theorem sortT_perm (l:List (List Int)):(sortT l).Perm l:=by rw [dQ];exact L2.Srt.sortT_perm l
theorem sortI_len (l:List Int):(sortI l).length=l.length:=(sortI_perm l).length_eq
theorem sortT_len (l:List (List Int)):(sortT l).length=l.length:=(sortT_perm l).length_eq
theorem b8 {l:List Int}{x:Int}:x ∈ sortI l ↔ x ∈ l:=(sortI_perm l).mem_iff
theorem cX {l:List (List Int)}{x:List Int}:x ∈ sortT l ↔ x ∈ l:=(sortT_perm l).mem_iff
theorem sortI_rises (l:List Int):(sortI l).Pairwise (· <= ·):=by rw [dP];exact L2.Srt.sortI_rises l
theorem sortT_rises (l:List (List Int)):(sortT l).Pairwise leT:=by
 rw [dQ]
 exact (L2.Srt.sortT_rises l).imp λh=>by unfold leT;rw [kG];exact h
theorem sortT_of_perm {a b:List (List Int)} (p:a.Perm b):sortT a=sortT b:=by rw [dQ,dQ];exact L2.Srt.sortT_of_perm p
theorem sortI_of_perm {a b:List Int} (p:a.Perm b):sortI a=sortI b:=by rw [dP,dP];exact L2.Srt.sortI_of_perm p
theorem kT {l:List Int} (h:l.Nodup):(sortI l).Pairwise (· < ·):=by
 have h1:=sortI_rises l
 have h2:(sortI l).Nodup:=(sortI_perm l).nodup_iff.mpr h
 exact (h1.and h2).imp λ⟨a,b⟩=>by omega
theorem kU {k:Int}{l:List Int}:k ∈ dd l ↔ k ∈ l:=by rw [lZ];exact L2.St.d9
theorem dd_nodup (l:List Int):(dd l).Nodup:=by rw [lZ];exact L2.St.dd_nodup l
theorem yl:∀ {l:List Int},l.Nodup->dd l=l
 | [],_=>rfl
 | x::r,h=>by
  rw [dd,yl (List.nodup_cons.mp h).2,if_neg (List.nodup_cons.mp h).1]
theorem fW {l:List Int} (h:l.Pairwise (· < ·)):l.Nodup:=h.imp λ{a b} q=>by omega
noncomputable def dq (ts:List Int):Prop:=ts.Pairwise (· < ·)/\∀ h ∈ ts,0 <= h/\h <= 59
noncomputable def aN (R:List (List Int)):Prop:=(∀ ts ∈ R,dq ts)/\R.Pairwise leT/\R.length <= 60
theorem vw:∀ (n:Nat) (l:List Int),l.Nodup->(∀ x ∈ l,0 <= x/\x < (n:Int))->l.length <= n
 | 0,l,_,h=>by
  cases l with
  | nil=>simp
  | cons x r=>have:=h x (.head _);omega
 | n + 1,l,hn,h=>by
  have h1:=vw n (l.filter λx=>decide (x ≠ (n:Int))) (hn.filter _) (λx hx=>by
   obtain ⟨h2,h3⟩:=List.mem_filter.mp hx
   have h4:=of_decide_eq_true h3
   have:=h x h2
   omega)
  have h2:∀ l:List Int,l.Nodup->l.length <= (l.filter λx=>decide (x ≠ (n:Int))).length + 1:=by
   intro l
   induction l with
   | nil=>intro _;simp
   | cons x r ih =>
    intro hn
    by_cases e:x=(n:Int)
    ·have hr:r.filter (λx=>decide (x ≠ (n:Int)))=r:=List.filter_eq_self.mpr λy hy=>decide_eq_true λz=>(List.nodup_cons.mp hn).1 (by rw [e,<- z];exact hy)
     rw [List.filter_cons_of_neg (by simp [e]),hr]
     simp
    ·rw [List.filter_cons_of_pos (by simp [e])]
     have:=ih (List.nodup_cons.mp hn).2
     simp only [List.length_cons]
     omega
  have:=h2 l hn
  omega
theorem dF {ts:List Int} (h:dq ts):ts.length <= 60:=vw 60 ts (fW h.1) λx hx=>by have:=h.2 x hx;omega
noncomputable def pT (ns:List Int) (lo hi:Option Int):List Int:=(ns.drop (gX ns.length 0 lo)).take (gX ns.length ns.length hi - gX ns.length 0 lo)
@[simp] theorem Cb (ns:List Int) (lo hi:Option Int):cut (ns.map .int) lo hi=(pT ns lo hi).map .int:=by
 unfold cut pT
 rw [List.length_map,List.map_take,List.map_drop]
theorem vz (ns:List Int) {a b:Int} (ha:0 <= a) (hb:0 <= b):(pT ns (some a) (some b)).length <= (b - a).toNat:=by
 unfold pT
 rw [List.length_take,List.length_drop]
 have e1:gX ns.length ns.length (some b)=min b.toNat ns.length:=by show (if b < 0 then _ else _)=_;rw [if_neg (by omega)]
 have e2:gX ns.length 0 (some a)=min a.toNat ns.length:=by show (if a < 0 then _ else _)=_;rw [if_neg (by omega)]
 rw [e1,e2]
 omega
end MM
namespace PySem.W.Fast
theorem tw3565798331651609790:True:=⟨⟩
theorem tw16981363912775545900:True:=⟨⟩
theorem tw2827927346046190321:True:=⟨⟩
theorem tw502832729977252362:True:=⟨⟩
theorem tw6215905690468364509:True:=⟨⟩
theorem tw16349247684868638487:True:=⟨⟩
theorem tw14337146699820730747:True:=⟨⟩
theorem tw739697905659678771:True:=⟨⟩
theorem tw9587626460973538293:True:=⟨⟩
theorem tw12163521611595884312:True:=⟨⟩
theorem tw12493437279047162563:True:=⟨⟩
theorem tw17004071011924228336:True:=⟨⟩
theorem tw9543856600169230644:True:=⟨⟩
theorem tw4617019940833554728:True:=⟨⟩
theorem tw16850839192362460854:True:=⟨⟩
theorem tw13733030724838336266:True:=⟨⟩
theorem tw12943581641594944137:True:=⟨⟩
theorem tw17020252528655464377:True:=⟨⟩
theorem tw12748598176267268794:True:=⟨⟩
theorem tw2883665405434832842:True:=⟨⟩
theorem tw11632162946826853286:True:=⟨⟩
theorem tw4558127720312090092:True:=⟨⟩
theorem tw16365769738831427464:True:=⟨⟩
theorem tw14608944540172238811:True:=⟨⟩
theorem tw6578487887034047922:True:=⟨⟩
theorem tw13720856773232435121:True:=⟨⟩
theorem tw6930345864398060499:True:=⟨⟩
theorem tw5037331587362847336:True:=⟨⟩
theorem tw7158009698553362797:True:=⟨⟩
theorem tw14752136405118850944:True:=⟨⟩
theorem tw10892642777307447909:True:=⟨⟩
theorem tw12385561645387494789:True:=⟨⟩
theorem tw8386026655940801688:True:=⟨⟩
theorem tw5269253635740836467:True:=⟨⟩
theorem tw16465312373425945075:True:=⟨⟩
theorem tw6600133755339971041:True:=⟨⟩
theorem tw9600946715689035002:True:=⟨⟩
theorem tw14776862228508990506:True:=⟨⟩
theorem tw16437575599460232602:True:=⟨⟩
theorem tw12574656699858364685:True:=⟨⟩
theorem tw8735479478474031731:True:=⟨⟩
theorem tw2028969909350238266:True:=⟨⟩
theorem tw17715096478252984753:True:=⟨⟩
theorem tw12014214214010921195:True:=⟨⟩
theorem tw7867119216809021097:True:=⟨⟩
theorem tw17172411521200198849:True:=⟨⟩
theorem tw6436946419021482577:True:=⟨⟩
theorem tw1519218784828356944:True:=⟨⟩
theorem tw5796232351471273932:True:=⟨⟩
theorem tw1620452615517799385:True:=⟨⟩
theorem tw13596629783938966899:True:=⟨⟩
theorem tw9233885036355627350:True:=⟨⟩
theorem tw16672470621138419627:True:=⟨⟩
theorem tw1091129985098639210:True:=⟨⟩
theorem tw5966369651872868671:True:=⟨⟩
theorem tw9302392350740417772:True:=⟨⟩
theorem tw18173552464796345168:True:=⟨⟩
theorem tw912068732761549931:True:=⟨⟩
theorem tw14280059279683442017:True:=⟨⟩
theorem tw6528954910582157503:True:=⟨⟩
theorem tw8272177742459163601:True:=⟨⟩
theorem tw1858153465542343694:True:=⟨⟩
theorem tw2938738916292572209:True:=⟨⟩
theorem tw8113805742372579196:True:=⟨⟩
theorem tw5599652092553515453:True:=⟨⟩
theorem tw6665516738399865563:True:=⟨⟩
theorem tw10318022271887837570:True:=⟨⟩
theorem tw179049775221346399:True:=⟨⟩
theorem tw3223025895241313:True:=⟨⟩
theorem tw18133631746241290698:True:=⟨⟩
theorem tw16762872909879639526:True:=⟨⟩
theorem tw10425323339449629444:True:=⟨⟩
theorem tw12465655285434335242:True:=⟨⟩
theorem tw8441100822438816805:True:=⟨⟩
theorem tw6987809678324253382:True:=⟨⟩
theorem tw14882035352274936677:True:=⟨⟩
theorem tw692655348866830242:True:=⟨⟩
theorem tw9195805925149575648:True:=⟨⟩
theorem tw13156584932085444738:True:=⟨⟩
theorem tw1277510569620134766:True:=⟨⟩
theorem tw14175299307875230701:True:=⟨⟩
theorem tw9806139896027072144:True:=⟨⟩
theorem tw5355736368557654323:True:=⟨⟩
theorem tw8299651763940506458:True:=⟨⟩
theorem tw11671324809024641004:True:=⟨⟩
theorem tw66214149225853686:True:=⟨⟩
theorem tw15168066410932370086:True:=⟨⟩
theorem tw1291574586919559542:True:=⟨⟩
theorem tw17727150366690421460:True:=⟨⟩
theorem tw2476877338665440039:True:=⟨⟩
theorem tw11298017599610899010:True:=⟨⟩
theorem tw17662761518884071231:True:=⟨⟩
theorem tw836856600989336906:True:=⟨⟩
theorem tw17340321481812967359:True:=⟨⟩
theorem tw8273548990277966748:True:=⟨⟩
theorem tw6588298116131441598:True:=⟨⟩
theorem tw15878849260270566366:True:=⟨⟩
theorem tw16112567371149809580:True:=⟨⟩
theorem tw16253509441799008000:True:=⟨⟩
theorem tw4578512022606924203:True:=⟨⟩
theorem tw8159002505038639719:True:=⟨⟩
theorem tw10063810533950659409:True:=⟨⟩
theorem tw18098390601300009185:True:=⟨⟩
theorem tw1737225082418427986:True:=⟨⟩
theorem tw12317513918948727647:True:=⟨⟩
theorem tw14207228538652230101:True:=⟨⟩
theorem tw14844467588667308982:True:=⟨⟩
theorem tw13057976699167942399:True:=⟨⟩
theorem tw4257444217333823362:True:=⟨⟩
theorem tw10395132793274022850:True:=⟨⟩
theorem tw9408228003704164452:True:=⟨⟩
theorem tw16292959188975331796:True:=⟨⟩
theorem tw14374489453424965778:True:=⟨⟩
theorem tw765108131849932670:True:=⟨⟩
theorem tw945491014649359935:True:=⟨⟩
theorem tw3137464916963282639:True:=⟨⟩
theorem tw2363067441721180583:True:=⟨⟩
theorem tw4701100834206201222:True:=⟨⟩
theorem tw13708454709075524832:True:=⟨⟩
theorem tw3870132054183258456:True:=⟨⟩
theorem tw4510734705159260484:True:=⟨⟩
theorem tw381506942744862931:True:=⟨⟩
theorem tw12229678440160410883:True:=⟨⟩
theorem tw10812288147661137882:True:=⟨⟩
theorem tw15083182013986322419:True:=⟨⟩
theorem tw13811511743062205879:True:=⟨⟩
theorem tw2284525284516821894:True:=⟨⟩
theorem tw10843249235608752130:True:=⟨⟩
theorem tw936584273136157690:True:=⟨⟩
theorem tw14265775983661107320:True:=⟨⟩
theorem tw8219840136959900078:True:=⟨⟩
theorem tw17113233412948039715:True:=⟨⟩
theorem tw4660288838470479232:True:=⟨⟩
theorem tw17378270730770245562:True:=⟨⟩
theorem tw1450823684161432155:True:=⟨⟩
theorem tw6679275494475645412:True:=⟨⟩
theorem tw8698405941698155500:True:=⟨⟩
theorem tw11031598425106734606:True:=⟨⟩
theorem tw1406240179860336435:True:=⟨⟩
theorem tw18116688811930054718:True:=⟨⟩
theorem tw1938192748184657002:True:=⟨⟩
theorem tw3258488097861366349:True:=⟨⟩
theorem tw4221090253976494041:True:=⟨⟩
theorem tw6981161984618082353:True:=⟨⟩
theorem tw11302001159245133314:True:=⟨⟩
theorem tw7334690785700870034:True:=⟨⟩
theorem tw6796518027629327592:True:=⟨⟩
theorem tw18138646649368020702:True:=⟨⟩
theorem tw8439125142575018766:True:=⟨⟩
theorem tw1030739505332681608:True:=⟨⟩
theorem tw3794746511250580910:True:=⟨⟩
theorem tw10714294920110671304:True:=⟨⟩
theorem tw12300561347274639787:True:=⟨⟩
theorem tw1173420876952436850:True:=⟨⟩
theorem tw9862830586081931362:True:=⟨⟩
theorem tw3783899676421148773:True:=⟨⟩
theorem tw18373597147760036544:True:=⟨⟩
theorem tw869824743505598278:True:=⟨⟩
theorem tw17440341980906594443:True:=⟨⟩
theorem tw4163561242388109440:True:=⟨⟩
theorem tw7284115753735522363:True:=⟨⟩
theorem tw8008398274108013038:True:=⟨⟩
theorem tw13295272478855365717:True:=⟨⟩
theorem tw16676691177302067884:True:=⟨⟩
theorem tw9965198832890083396:True:=⟨⟩
theorem tw13230395233052096825:True:=⟨⟩
theorem tw3884652175322093251:True:=⟨⟩
theorem tw4598152543130999040:True:=⟨⟩
theorem tw13336382967662954824:True:=⟨⟩
theorem tw13294369216010288642:True:=⟨⟩
theorem tw15655782921437840688:True:=⟨⟩
theorem tw8004950668872296143:True:=⟨⟩
theorem tw12046757424811893748:True:=⟨⟩
theorem tw837972440383235554:True:=⟨⟩
theorem tw6830074229878294285:True:=⟨⟩
theorem tw12929175725547480048:True:=⟨⟩
theorem tw147440860417658901:True:=⟨⟩
theorem tw17112429006826052306:True:=⟨⟩
theorem tw11397662479645932297:True:=⟨⟩
theorem tw13577086188890322493:True:=⟨⟩
theorem tw4015331140978589889:True:=⟨⟩
theorem tw14578939421897447163:True:=⟨⟩
theorem tw12274329371517138295:True:=⟨⟩
theorem tw13217036719970636350:True:=⟨⟩
theorem tw3519488175449674962:True:=⟨⟩
theorem tw7104910246874532006:True:=⟨⟩
theorem tw2227644405559283739:True:=⟨⟩
theorem tw18095026175583395758:True:=⟨⟩
theorem tw11525781937485997054:True:=⟨⟩
theorem tw10135532520330775530:True:=⟨⟩
theorem tw13244082318899540006:True:=⟨⟩
theorem tw2881691952177459022:True:=⟨⟩
theorem tw1971154401411396347:True:=⟨⟩
theorem tw15447484708593115725:True:=⟨⟩
theorem tw17733407955503126329:True:=⟨⟩
theorem tw4772547681407769660:True:=⟨⟩
theorem tw11929615938941146642:True:=⟨⟩
theorem tw6939517520099145739:True:=⟨⟩
theorem tw1300641391683968160:True:=⟨⟩
theorem tw532429204387285181:True:=⟨⟩
theorem tw1893572225588895552:True:=⟨⟩
theorem tw16282338887859694187:True:=⟨⟩
theorem tw5613210603603471013:True:=⟨⟩
theorem tw16041791025492163787:True:=⟨⟩
theorem tw5736715385520219320:True:=⟨⟩
theorem tw13431970794022001312:True:=⟨⟩
theorem tw10687739144129502892:True:=⟨⟩
theorem tw1127399052882043136:True:=⟨⟩
theorem tw2736921240462953911:True:=⟨⟩
theorem tw7277971748328026155:True:=⟨⟩
theorem tw4740939441710076543:True:=⟨⟩
theorem tw2531352626464035258:True:=⟨⟩
theorem tw10441114867155217898:True:=⟨⟩
theorem tw16856479176489669619:True:=⟨⟩
theorem tw2523259860581595137:True:=⟨⟩
theorem tw1652953298737360670:True:=⟨⟩
theorem tw4736771422959543589:True:=⟨⟩
theorem tw9913386563237500680:True:=⟨⟩
theorem tw5246467229609514783:True:=⟨⟩
theorem tw7887202281529786042:True:=⟨⟩
theorem tw9299668705027470766:True:=⟨⟩
theorem tw4172435288495448338:True:=⟨⟩
theorem tw9362113203289365073:True:=⟨⟩
theorem tw10537206399438335828:True:=⟨⟩
theorem tw17536750547192604626:True:=⟨⟩
theorem tw15344898741331585826:True:=⟨⟩
theorem tw13639787733199174522:True:=⟨⟩
theorem tw817037740768659257:True:=⟨⟩
theorem tw16210563024510218589:True:=⟨⟩
theorem tw15461937537152023717:True:=⟨⟩
theorem tw12929842415176595540:True:=⟨⟩
theorem tw12100946371037934399:True:=⟨⟩
theorem tw1073398329164225316:True:=⟨⟩
theorem tw530441373733050881:True:=⟨⟩
theorem tw1077832998198025807:True:=⟨⟩
theorem tw16320411681921070011:True:=⟨⟩
theorem tw1448192481215923240:True:=⟨⟩
theorem tw8525650886740882437:True:=⟨⟩
theorem tw7653473866238700621:True:=⟨⟩
theorem tw9168331162511226047:True:=⟨⟩
theorem tw4097322523671781126:True:=⟨⟩
theorem tw3681648526832609459:True:=⟨⟩
theorem tw15536840136811330634:True:=⟨⟩
theorem tw381906602175936284:True:=⟨⟩
theorem tw17439183894518787881:True:=⟨⟩
theorem tw16883187356434969912:True:=⟨⟩
theorem tw18255218557326654979:True:=⟨⟩
theorem tw9724949185581233028:True:=⟨⟩
theorem tw7535420526339986434:True:=⟨⟩
theorem tw5624379551105271860:True:=⟨⟩
theorem tw9257229490790679801:True:=⟨⟩
theorem tw11223163560959382786:True:=⟨⟩
theorem tw5991517979965420133:True:=⟨⟩
theorem tw15832123057717372021:True:=⟨⟩
theorem tw898985544346213842:True:=⟨⟩
theorem tw1967493279070143680:True:=⟨⟩
theorem tw4072369734332077363:True:=⟨⟩
theorem tw2389171144114194017:True:=⟨⟩
theorem tw6629647123716135641:True:=⟨⟩
theorem tw8926937134851941751:True:=⟨⟩
theorem tw2083006964954220716:True:=⟨⟩
theorem tw8749142379344643024:True:=⟨⟩
theorem tw14586838311567462494:True:=⟨⟩
theorem tw357955734710581020:True:=⟨⟩
theorem tw10531467060865166977:True:=⟨⟩
theorem tw8490508127334404492:True:=⟨⟩
theorem tw17846699865088220901:True:=⟨⟩
theorem tw3658907175737723645:True:=⟨⟩
theorem tw9223673068340281369:True:=⟨⟩
theorem tw16178836592429395231:True:=⟨⟩
theorem tw4353035079314275190:True:=⟨⟩
theorem tw11287128294273783174:True:=⟨⟩
theorem tw11493249695784625784:True:=⟨⟩
theorem tw13281010396248490330:True:=⟨⟩
theorem tw3219301961244445311:True:=⟨⟩
theorem tw8654820039391823438:True:=⟨⟩
theorem tw10047299510865684835:True:=⟨⟩
theorem tw15252753236005815541:True:=⟨⟩
theorem tw16118858940081815678:True:=⟨⟩
theorem tw9744001655907795108:True:=⟨⟩
theorem tw1530458223234383493:True:=⟨⟩
theorem tw17252078691922489043:True:=⟨⟩
theorem tw7501032204830384424:True:=⟨⟩
theorem tw3020376109714246346:True:=⟨⟩
theorem tw1380064862534389869:True:=⟨⟩
theorem tw7518152756428323787:True:=⟨⟩
theorem tw11166079588831654542:True:=⟨⟩
theorem tw2444613302134512869:True:=⟨⟩
theorem tw7381753068407031976:True:=⟨⟩
theorem tw6739351036776469285:True:=⟨⟩
end PySem.W.Fast
namespace My
open PySem L2 MM
noncomputable def cH:List MS:=[.extend 1 (.bor 2)]
noncomputable def dA:MD:=⟨"members_of",["rows"],["rows","members","row"],
  [.setOwn 1 (.lst []),
  .for1 2 .seq [(.bor 0)] cH,
  .retOwn 1]⟩
noncomputable def d6:MD:=⟨"each_once",["members"],["members"],
  [.ret (.cmp .eq (.blt .lenSet [(.bor 0)]) (.blt .len [(.bor 0)]))]⟩
noncomputable def cu:MD:=⟨"strip_without",["strip","hole"],["strip","hole"],
  [.ret (.blt .tupleOf [(.comp .seq [(.bor 0)] [1] (.cmp .ne (.bor 0) (.bor 1)) (.var 0))])]⟩
noncomputable def gq:MD:=⟨"knotted",["rest","hole"],["rest","hole"],
  [.ret (.blt .tupleOf [(.blt .sorted [(.comp .seq [(.bor 0)] [1] (.cst (.bl true)) (.call 2 [(.bor 0),(.bor 1)]))])])]⟩
noncomputable def iN:MD:=⟨"bitten",["rest","hole"],["rest","hole"],
  [.ret (.blt .tupleOf [(.comp .seq [(.bor 0)] [1] (.cmp .notIn (.bor 1) (.bor 0)) (.var 0))])]⟩
noncomputable def fk:MD:=⟨"holes_of",["rest"],["rest"],
  [.ret (.blt .sortedSet [(.call 0 [(.bor 0)])])]⟩
noncomputable def fo:MD:=⟨"is_whole",["rest"],["rest"],
  [.ret (.cmp .isIn (.tup []) (.bor 0))]⟩
noncomputable def mf:MD:=⟨"is_bare",["rest"],["rest"],
  [.ret (.cmp .eq (.blt .len [(.bor 0)]) (.cst (.int 0)))]⟩
noncomputable def b9:MD:=⟨"other_hand",["hand"],["hand"],
  [.ret (.ite (.cmp .eq (.bor 0) (.cst (.str "weaver"))) (.cst (.str "moth")) (.cst (.str "weaver")))]⟩
noncomputable def cI:MD:=⟨"behind",["rest","hand","reply"],["rest","hand","reply"],
  [.ite (.cmp .isN (.bor 2) (.cst .non))
   [.ret (.var 0)]
   [],
  .ret (.ite (.cmp .eq (.bor 1) (.cst (.str "weaver"))) (.call 3 [(.bor 0),(.bor 2)]) (.call 4 [(.bor 0),(.bor 2)]))]⟩
noncomputable def c8:MD:=⟨"behind_both",["rest","hand","hole","reply"],["rest","hand","hole","reply"],
  [.ret (.call 9 [(.call 9 [(.bor 0),(.call 8 [(.bor 1)]),(.bor 2)]),(.bor 1),(.bor 3)])]⟩
noncomputable def dR:MD:=⟨"short_strips",["rest","deep"],["rest","deep"],
  [.ret (.blt .tupleOf [(.blt .sortedSetT [(.comp .seq [(.bor 0)] [1] (.cmp .le (.blt .len [(.bor 0)]) (.bin .add (.bor 1) (.cst (.int 1)))) (.var 0))])])]⟩
noncomputable def dh:MD:=⟨"helps_another",["strips","hole","bite"],["strips","hole","bite"],
  [.ret (.blt .any [(.comp .seq [(.bor 0)] [1,2] (.cst (.bl true)) (.and (.cmp .isIn (.bor 1) (.bor 0)) (.cmp .notIn (.bor 2) (.bor 0))))])]⟩
noncomputable def a9:List MS:=[.ite (.cmp .eq (.blt .len [(.bor 2)]) (.cst (.int 2)))
   [.extend 1 (.lst [(.var 2),(.tup [(.idx (.bor 2) (.cst (.int 1))),(.idx (.bor 2) (.cst (.int 0)))])])]
   []]
noncomputable def fq:MD:=⟨"threats_in",["strips"],["strips","told","strip"],
  [.setOwn 1 (.lst []),
  .for1 2 .seq [(.bor 0)] a9,
  .ret (.comp .seq [(.bor 1)] [0] (.call 12 [(.bor 1),(.idx (.bor 0) (.cst (.int 0))),(.idx (.bor 0) (.cst (.int 1)))]) (.var 0))]⟩
noncomputable def a7:List MS:=[.ite (.cmp .eq (.blt .len [(.bor 1)]) (.cst (.int 1)))
   [.ret (.tup [(.cst (.str "knot")),(.idx (.bor 1) (.cst (.int 0))),(.tup [(.cst (.str "whole"))])])]
   []]
noncomputable def fX:MD:=⟨"last_knot",["strips"],["strips","strip"],
  [.ite (.call 6 [(.bor 0)])
   [.ret (.tup [(.cst (.str "whole"))])]
   [],
  .for1 1 .seq [(.bor 0)] a7,
  .ret (.cst .non)]⟩
noncomputable def aC:List MS:=[.set 4 (.call 11 [(.call 10 [(.bor 0),(.cst (.str "moth")),(.bor 2),(.bor 3)]),(.bin .sub (.bor 1) (.cst (.int 1)))]),
  .set 5 (.call 16 [(.bor 4),(.bin .sub (.bor 1) (.cst (.int 1)))]),
  .ite (.cmp .notN (.bor 5) (.cst .non))
   [.set 6 (.tup [(.cst (.str "knot")),(.var 3),(.tup [(.cst (.str "whole"))])]),
   .ret (.tup [(.cst (.str "knot")),(.var 2),(.tup [(.cst (.str "either")),(.tup [(.tup [(.var 3)])]),(.var 6),(.var 4),(.var 5)])])]
   []]
noncomputable def eD:MD:=⟨"next_threat",["strips","deep"],["strips","deep","hole","bite","left","paper","unanswered"],
  [.forT [2,3] .seq [(.call 13 [(.bor 0)])] aC,
  .ret (.cst .non)]⟩
noncomputable def cJ:MD:=⟨"forced_among",["strips","deep"],["strips","deep","paper"],
  [.set 2 (.call 14 [(.bor 0)]),
  .ite (.and (.cmp .isN (.bor 2) (.cst .non)) (.cmp .gt (.bor 1) (.cst (.int 0))))
   [.set 2 (.call 15 [(.bor 0),(.bor 1)])]
   [],
  .ret (.var 2)]⟩
noncomputable def kW:MD:=⟨"forced",["rest","deep"],["rest","deep"],
  [.ret (.call 16 [(.call 11 [(.bor 0),(.bor 1)]),(.bor 1)])]⟩
noncomputable def gr:MD:=⟨"has_all",["strip","other"],["strip","other"],
  [.ret (.cmp .eq (.blt .lenSetSub [(.bor 1),(.bor 0)]) (.cst (.int 0)))]⟩
noncomputable def aU:List MS:=[.ite (.call 18 [(.bor 0),(.bor 3)])
   [.ret (.var 2)]
   []]
noncomputable def cn:MD:=⟨"least_place",["strip","rest"],["strip","rest","place","other"],
  [.forT [2,3] .enm [(.bor 1)] aU,
  .ret (.cst .non)]⟩
noncomputable def gu:MD:=⟨"footing",["rest","other"],["rest","other"],
  [.ret (.comp .seq [(.bor 0)] [1] (.cst (.bl true)) (.call 19 [(.bor 0),(.bor 1)]))]⟩
noncomputable def fu:MD:=⟨"is_below",["rest","other"],["rest","other"],
  [.ret (.cmp .notIn (.cst .non) (.call 20 [(.bor 0),(.bor 1)]))]⟩
noncomputable def iO:MD:=⟨"has_a_pair",["strip","pairs"],["strip","pairs"],
  [.ret (.blt .any [(.comp .seq [(.bor 1)] [0] (.cst (.bl true)) (.call 18 [(.bor 1),(.bor 0)]))])]⟩
noncomputable def iP:MD:=⟨"pairs_hold",["pairs","rest"],["pairs","rest"],
  [.ite (.not (.call 1 [(.call 0 [(.bor 0)])]))
   [.ret (.cst (.bl false))]
   [],
  .ret (.blt .all [(.comp .seq [(.bor 1)] [0] (.cst (.bl true)) (.call 22 [(.bor 0),(.bor 1)]))])]⟩
noncomputable def kX:MD:=⟨"together",["rests"],["rests"],
  [.ret (.blt .tupleOf [(.blt .sorted [(.call 0 [(.bor 0)])])])]⟩
noncomputable def fY:MD:=⟨"are_apart",["rests"],["rests"],
  [.ret (.call 1 [(.call 0 [(.comp .seq [(.bor 0)] [] (.cst (.bl true)) (.call 5 [(.bor 0)]))])])]⟩
noncomputable def fZ:MD:=⟨"strip_weight",["strip"],["strip"],
  [.ret (.bin .shr (.glob "UNIT" (.int 1152921504606846976)) (.blt .len [(.bor 0)]))]⟩
noncomputable def oR:MD:=⟨"weight",["rest"],["rest"],
  [.ret (.blt .sum [(.comp .seq [(.bor 0)] [] (.cst (.bl true)) (.call 26 [(.bor 0)]))])]⟩
noncomputable def sg:List MS:=[.dput 1 (.bor 3) (.bin .add (.dget (.bor 1) (.bor 3) (.cst (.int 0))) (.call 26 [(.bor 2)]))]
noncomputable def si:List MS:=[.for1 3 .seq [(.bor 2)] sg]
noncomputable def qO:MD:=⟨"pulls",["rest"],["rest","pull_of","strip","hole"],
  [.newD false 1,
  .for1 2 .seq [(.bor 0)] si,
  .retOwn 1]⟩
noncomputable def fC:MD:=⟨"greatest_pull",["rest"],["rest"],
  [.ret (.blt .max1 [(.bin .add (.lst [(.cst (.int 0))]) (.blt .valuesOf [(.call 28 [(.bor 0)])]))])]⟩
noncomputable def oS:List MS:=[.extend 1 (.comp .seq [(.slice (.bor 0) (.bin .add (.bor 2) (.cst (.int 1))) (.cst .non))] [3] (.cst (.bl true)) (.tup [(.var 1),(.var 0)]))]
noncomputable def mh:MD:=⟨"twos_of",["strip"],["strip","twos","place","low"],
  [.setOwn 1 (.lst []),
  .forT [2,3] .enm [(.bor 0)] oS,
  .retOwn 1]⟩
noncomputable def jD:List MS:=[.dput 1 (.bor 3) (.bin .add (.dget (.bor 1) (.bor 3) (.cst (.int 0))) (.cst (.int 1)))]
noncomputable def jE:List MS:=[.for1 3 .seq [(.call 30 [(.bor 2)])] jD]
noncomputable def gY:MD:=⟨"most_shared",["rest"],["rest","count_of","strip","two"],
  [.newD true 1,
  .for1 2 .seq [(.bor 0)] jE,
  .ret (.blt .max1 [(.bin .add (.lst [(.cst (.int 0))]) (.blt .valuesOf [(.bor 1)]))])]⟩
noncomputable def gZ:MD:=⟨"moth_weighs",["rest","turn"],["rest","turn"],
  [.ite (.cmp .eq (.bor 1) (.cst (.str "moth")))
   [.ret (.cmp .lt (.call 27 [(.bor 0)]) (.glob "UNIT" (.int 1152921504606846976)))]
   [],
  .ret (.cmp .lt (.bin .add (.call 27 [(.bor 0)]) (.call 29 [(.bor 0)])) (.glob "UNIT" (.int 1152921504606846976)))]⟩
noncomputable def kY:MD:=⟨"is_heavy",["rest"],["rest"],
  [.ret (.cmp .gt (.bin .mul (.cst (.int 4)) (.call 27 [(.bor 0)])) (.bin .mul (.bin .mul (.glob "UNIT" (.int 1152921504606846976)) (.call 31 [(.bor 0)])) (.bin .fdiv (.blt .len [(.call 5 [(.bor 0)])]) (.cst (.int 2)))))]⟩
noncomputable def fD:MD:=⟨"weaver_weighs",["rest","turn"],["rest","turn"],
  [.ite (.cmp .eq (.bor 1) (.cst (.str "weaver")))
   [.ret (.call 33 [(.bor 0)])]
   [],
  .ite (.call 6 [(.bor 0)])
   [.ret (.cst (.bl true))]
   [],
  .ret (.and (.call 33 [(.bor 0)]) (.blt .all [(.comp .seq [(.call 5 [(.bor 0)])] [0] (.cst (.bl true)) (.call 33 [(.call 4 [(.bor 1),(.bor 0)])]))]))]⟩
noncomputable def jh:MD:=⟨"good",["paper","rest","turn","hand"],["paper","rest","turn","hand"],
  [.ite (.cmp .eq (.bor 3) (.cst (.str "moth")))
   [.ret (.call 36 [(.bor 0),(.bor 1),(.bor 2)])]
   [],
  .ret (.call 37 [(.bor 0),(.bor 1),(.bor 2)])]⟩
noncomputable def aK:MD:=⟨"good_for_moth",["paper","rest","turn"],["paper","rest","turn","word"],
  [.set 3 (.idx (.bor 0) (.cst (.int 0))),
  .ite (.cmp .eq (.bor 3) (.cst (.str "bare")))
   [.ret (.call 7 [(.bor 1)])]
   [],
  .ite (.cmp .eq (.bor 3) (.cst (.str "weight")))
   [.ret (.call 32 [(.bor 1),(.bor 2)])]
   [],
  .ite (.cmp .eq (.bor 2) (.cst (.str "moth")))
   [.ret (.and (.cmp .eq (.bor 3) (.cst (.str "bite"))) (.call 38 [(.bor 0),(.bor 1),(.cst (.str "moth"))]))]
   [],
  .ite (.cmp .eq (.bor 3) (.cst (.str "pairs")))
   [.ret (.call 23 [(.idx (.bor 0) (.cst (.int 1))),(.bor 1)])]
   [],
  .ite (.cmp .eq (.bor 3) (.cst (.str "cases")))
   [.ret (.and (.not (.call 6 [(.bor 1)])) (.call 39 [(.idx (.bor 0) (.cst (.int 1))),(.bor 1),(.cst (.str "moth"))]))]
   [],
  .ite (.cmp .eq (.bor 3) (.cst (.str "parts")))
   [.ret (.and (.call 40 [(.idx (.bor 0) (.cst (.int 1))),(.bor 1)]) (.call 41 [(.idx (.bor 0) (.cst (.int 1)))]))]
   [],
  .ret (.cst (.bl false))]⟩
noncomputable def aw:MD:=⟨"good_for_weaver",["paper","rest","turn"],["paper","rest","turn","word"],
  [.set 3 (.idx (.bor 0) (.cst (.int 0))),
  .ite (.cmp .eq (.bor 3) (.cst (.str "whole")))
   [.ret (.call 6 [(.bor 1)])]
   [],
  .ite (.cmp .eq (.bor 3) (.cst (.str "weight")))
   [.ret (.call 34 [(.bor 1),(.bor 2)])]
   [],
  .ite (.cmp .eq (.bor 3) (.cst (.str "fewer")))
   [.ret (.and (.call 21 [(.idx (.bor 0) (.cst (.int 1))),(.bor 1)]) (.call 35 [(.idx (.bor 0) (.cst (.int 2))),(.idx (.bor 0) (.cst (.int 1))),(.bor 2),(.cst (.str "weaver"))]))]
   [],
  .ite (.cmp .eq (.bor 2) (.cst (.str "weaver")))
   [.ret (.and (.cmp .eq (.bor 3) (.cst (.str "knot"))) (.call 38 [(.bor 0),(.bor 1),(.cst (.str "weaver"))]))]
   [],
  .ite (.cmp .eq (.bor 3) (.cst (.str "cases")))
   [.ret (.and (.cmp .gt (.blt .len [(.call 5 [(.bor 1)])]) (.cst (.int 0))) (.call 39 [(.idx (.bor 0) (.cst (.int 1))),(.bor 1),(.cst (.str "weaver"))]))]
   [],
  .ite (.cmp .eq (.bor 3) (.cst (.str "either")))
   [.ret (.call 42 [(.bor 0),(.bor 1)])]
   [],
  .ret (.cst (.bl false))]⟩
noncomputable def cK:MD:=⟨"move_is_good",["paper","rest","hand"],["paper","rest","hand"],
  [.ret (.call 35 [(.idx (.bor 0) (.cst (.int 2))),(.call 9 [(.bor 1),(.bor 2),(.idx (.bor 0) (.cst (.int 1)))]),(.call 8 [(.bor 2)]),(.bor 2)])]⟩
noncomputable def hX:List MS:=[.ite (.not (.call 35 [(.bor 5),(.call 10 [(.bor 1),(.bor 2),(.bor 3),(.bor 4)]),(.call 8 [(.bor 2)]),(.bor 2)]))
   [.ret (.cst (.bl false))]
   []]
noncomputable def eS:MD:=⟨"cases_are_good",["rows","rest","hand"],["rows","rest","hand","hole","reply","paper"],
  [.ite (.cmp .ne (.comp .seq [(.bor 0)] [] (.cst (.bl true)) (.idx (.bor 0) (.cst (.int 0)))) (.call 5 [(.bor 1)]))
   [.ret (.cst (.bl false))]
   [],
  .forT [3,4,5] .seq [(.bor 0)] hX,
  .ret (.cst (.bl true))]⟩
noncomputable def d7:MD:=⟨"parts_stand_for",["rows","rest"],["rows","rest","rests","strips"],
  [.set 2 (.comp .seq [(.bor 0)] [] (.cst (.bl true)) (.idx (.bor 0) (.cst (.int 0)))),
  .set 3 (.call 24 [(.bor 2)]),
  .ite (.or (.cmp .gt (.blt .len [(.bor 3)]) (.blt .len [(.bor 1)])) (.not (.call 25 [(.bor 2)])))
   [.ret (.cst (.bl false))]
   [],
  .ret (.and (.call 18 [(.call 5 [(.bor 1)]),(.call 5 [(.bor 3)])]) (.call 21 [(.bor 1),(.bor 3)]))]⟩
noncomputable def hZ:List MS:=[.ite (.not (.call 35 [(.bor 2),(.bor 1),(.cst (.str "weaver")),(.cst (.str "moth"))]))
   [.ret (.cst (.bl false))]
   []]
noncomputable def eT:MD:=⟨"parts_are_good",["rows"],["rows","rest","paper"],
  [.forT [1,2] .seq [(.bor 0)] hZ,
  .ret (.cst (.bl true))]⟩
noncomputable def b_:MD:=⟨"either_is_good",["paper","rest"],["paper","rest","one","two"],
  [.set 2 (.idx (.bor 0) (.cst (.int 1))),
  .set 3 (.idx (.bor 0) (.cst (.int 3))),
  .ite (.or (.not (.call 25 [(.lst [(.var 2),(.var 3)])])) (.or (.not (.call 21 [(.bor 2),(.bor 1)])) (.not (.call 21 [(.bor 3),(.bor 1)]))))
   [.ret (.cst (.bl false))]
   [],
  .ret (.and (.call 35 [(.idx (.bor 0) (.cst (.int 2))),(.bor 2),(.cst (.str "weaver")),(.cst (.str "weaver"))]) (.call 35 [(.idx (.bor 0) (.cst (.int 4))),(.bor 3),(.cst (.str "weaver")),(.cst (.str "weaver"))]))]⟩
noncomputable def fw:MD:=⟨"_law_cell",["script","k"],["script","k"],
  [.ite (.cmp .lt (.bor 1) (.blt .len [(.bor 0)]))
   [.ret (.idx (.bor 0) (.bor 1))]
   [],
  .ret (.cst (.int 0))]⟩
noncomputable def d8:MD:=⟨"_law_mixed",["cell","by"],["cell","by"],
  [.ret (.bin .mod (.bin .mul (.bin .mod (.bor 0) (.cst (.int 2305843009213693951))) (.bor 1)) (.cst (.int 2305843009213693951)))]⟩
noncomputable def ji:MD:=⟨"_law_map",["strips","shift"],["strips","shift"],
  [.ret (.blt .tupleOf [(.blt .sorted [(.comp .seq [(.bor 0)] [1] (.cst (.bl true)) (.blt .tupleOf [(.blt .sorted [(.comp .seq [(.bor 0)] [1] (.cst (.bl true)) (.bin .mod (.bin .add (.bin .mul (.cst (.int 7)) (.bor 0)) (.bor 1)) (.cst (.int 60))))])]))])])]⟩
noncomputable def eE:MD:=⟨"_law_planted",["deep","spoilt"],["deep","spoilt","strips","last"],
  [.set 2 (.comp .rng [(.bor 0)] [] (.cst (.bl true)) (.bin .add (.blt .tupleRng [(.bin .add (.bor 0) (.cst (.int 1)))]) (.tup [(.bin .add (.cst (.int 10)) (.bor 0))]))),
  .set 3 (.cst (.int 20)),
  .ite (.cmp .gt (.bor 1) (.cst (.int 0)))
   [.set 3 (.bin .add (.cst (.int 10)) (.bin .mod (.bor 1) (.bor 0)))]
   [],
  .ret (.bin .add (.bor 2) (.lst [(.bin .add (.blt .tupleRng [(.bor 0)]) (.tup [(.var 3)]))]))]⟩
noncomputable def bn:List MS:=[.ite (.cmp .eq (.bin .mod (.bor 2) (.cst (.int 2))) (.cst (.int 1)))
   [.append 3 (.var 4)]
   [],
  .ite (.cmp .eq (.bin .mod (.bin .fdiv (.bor 2) (.cst (.int 2))) (.cst (.int 2))) (.cst (.int 1)))
   [.append 3 (.bin .add (.cst (.int 10)) (.bor 4))]
   [],
  .set 2 (.bin .fdiv (.bor 2) (.cst (.int 4)))]
noncomputable def h_:MD:=⟨"_law_more",["cell","deep"],["cell","deep","left","strip","k"],
  [.set 2 (.call 44 [(.bor 0),(.cst (.int 1181783497276652981))]),
  .setOwn 3 (.lst [(.bin .add (.cst (.int 30)) (.bin .mod (.bor 2) (.cst (.int 10)))),(.bin .add (.cst (.int 40)) (.bin .mod (.bin .fdiv (.bor 2) (.cst (.int 10))) (.cst (.int 10)))),(.bin .add (.cst (.int 50)) (.bin .mod (.bin .fdiv (.bor 2) (.cst (.int 100))) (.cst (.int 10))))]),
  .set 2 (.bin .fdiv (.bor 2) (.cst (.int 1000))),
  .for1 4 .rng [(.bor 1)] bn,
  .ret (.blt .tupleOf [(.blt .sorted [(.bor 3)])])]⟩
noncomputable def ib:MD:=⟨"_law_good",["rest","deep"],["rest","deep","paper"],
  [.set 2 (.call 17 [(.bor 0),(.bor 1)]),
  .ret (.and (.blt .isTuple [(.bor 2)]) (.cmp .isN (.call 35 [(.bor 2),(.bor 0),(.cst (.str "weaver")),(.cst (.str "weaver"))]) (.cst (.bl true))))]⟩
noncomputable def qP:MD:=⟨"law",["script"],["script","deep","spoilt","strips","rest"],
  [.set 1 (.bin .add (.cst (.int 1)) (.bin .mod (.call 43 [(.bor 0),(.cst (.int 0))]) (.cst (.int 3)))),
  .set 2 (.cst (.int 0)),
  .ite (.cmp .eq (.bin .mod (.bin .fdiv (.call 43 [(.bor 0),(.cst (.int 0))]) (.cst (.int 3))) (.cst (.int 3))) (.cst (.int 1)))
   [.set 2 (.bin .add (.cst (.int 1)) (.bin .mod (.bin .fdiv (.call 43 [(.bor 0),(.cst (.int 0))]) (.cst (.int 9))) (.cst (.int 6))))]
   [],
  .set 3 (.bin .add (.call 46 [(.bor 1),(.bor 2)]) (.comp .seq [(.slice (.bor 0) (.cst (.int 2)) (.cst (.int 52)))] [1] (.cst (.bl true)) (.call 47 [(.bor 0),(.bor 1)]))),
  .set 4 (.call 45 [(.bor 3),(.bin .mod (.call 43 [(.bor 0),(.cst (.int 1))]) (.cst (.int 60)))]),
  .ite (.cmp .notN (.call 17 [(.bor 4),(.bin .sub (.bor 1) (.cst (.int 1)))]) (.cst .non))
   [.ret (.cst (.bl false))]
   [],
  .ite (.cmp .gt (.bor 2) (.cst (.int 0)))
   [.ret (.cmp .isN (.call 17 [(.bor 4),(.bor 1)]) (.cst .non))]
   [],
  .ite (.not (.call 48 [(.bor 4),(.bor 1)]))
   [.ret (.cst (.bl false))]
   [],
  .ret (.or (.cmp .eq (.bor 1) (.cst (.int 3))) (.call 48 [(.bor 4),(.bin .add (.bor 1) (.cst (.int 1)))]))]⟩
noncomputable def defs:List MD:=[dA,d6,cu,gq,iN,fk,fo,mf,b9,cI,c8,dR,dh,fq,fX,eD,cJ,kW,gr,cn,gu,fu,iO,iP,kX,fY,fZ,oR,qO,fC,mh,gY,gZ,kY,fD,jh,aK,aw,cK,eS,d7,eT,b_,fw,d8,ji,eE,h_,ib,qP]
noncomputable def tab:Tab:=⟨defs.map (·.name),[("UNIT",(.int 1152921504606846976))],[[],[],[],[],[],[],[],[],[],[],[],[],[],[],[],[],[],[],[],[],[],[],[],[],[],[],[],[],[],[],[],[],[],[],[],[],[],[],[],[],[],[],[],[],[],[],[],[],[],[]]⟩
noncomputable def cellOf (ns:List Int) (k:Int):Int:=ns.getD k.toNat 0
theorem Ai (n:Nat) (m:MV) (ns:List Int) (k:Int) (hm:bg (some m)=some (ofL ns)) (h0:0 <= k):aa defs (n + 1) 43 [m,.val (.int k)]=some (.int (cellOf ns k)):=by
 rw [ae (d:=fw) rfl rfl]
 unfold cellOf
 simp [fw,exs,ex,ev,evs,evB,hm]
 by_cases h:k < (ns.length:Int)
 ·have h2:k.toNat < ns.length:=by omega
  simp [h,vv h0 h,h2]
 ·have h2:ns.length <= k.toNat:=by omega
  simp [h,h2]
noncomputable def vA (c b:Int):Int:=c % 2305843009213693951 * b % 2305843009213693951
theorem xz (n:Nat) (c b:Int):aa defs (n + 1) 44 [.val (.int c),.val (.int b)]=some (.int (vA c b)):=by
 rw [ae (d:=d8) rfl rfl]
 have h1:0 <= c % 2305843009213693951:=Int.emod_nonneg _ (by decide)
 have h2:c % 2305843009213693951 < 2305843009213693951:=Int.emod_lt_of_pos _ (by decide)
 have h3:(-18446744073709551616 < c % 2305843009213693951/\c % 2305843009213693951 < 18446744073709551616 \/ -18446744073709551616 < b/\b < 18446744073709551616):=.inl ⟨by omega,by omega⟩
 simp [d8,exs,ex,ev,evs,h3,vA]
theorem np {cal:Cal}{i:Nat}{k:Sk}{src:List ME}{body:List MS}{ρ:Rho}{xs:List PV} (h:(evs cal src ρ).bind (cj k)=some xs):ex cal (.for1 i k src body) ρ=(aT (λx ρ'=>exs cal body (put ρ' i (.val x))) xs (bH src ρ)).back src ρ:=by
 rw [ex,h]
theorem xA {cal:Cal}{is:List Nat}{k:Sk}{src:List ME}{body:List MS}{ρ:Rho}{xs:List PV} (h:(evs cal src ρ).bind (cj k)=some xs):ex cal (.forT is k src body) ρ=(aT (λx ρ'=>db (dY is x ρ') λρ''=>exs cal body ρ'') xs (bH src ρ)).back src ρ:=by
 rw [ex,h]
theorem av (cal:Cal) (m:MS) (ms:List MS) (ρ:Rho):exs cal (m::ms) ρ=(ex cal m ρ).andThen λρ'=>exs cal ms ρ':=by rw [exs]
theorem c9 {cal:Cal}{b:Blt}{e:ME}{ρ:Rho}{v:PV} (h:ev cal e ρ=some v):ev cal (.blt b [e]) ρ=ak b [v]:=by
 rw [ev,evs,h,Option.bind_some,evs,Option.map_some,Option.bind_some]
theorem ic {cal:Cal}{i:Nat}{e:ME}{ρ:Rho}{v:PV} (h:ev cal e ρ=some v):ex cal (.set i e) ρ=.next (put ρ i (.val v)):=by
 rw [ex,h];rfl
theorem pU {cal:Cal}{a b:ME}{ρ:Rho}{p q:Bool} (h:ev cal a ρ=some (.bl p)) (h':p=true->ev cal b ρ=some (.bl q)):ev cal (.and a b) ρ=some (.bl (p&&q)):=by
 rw [ev,h]
 cases p with
 | false=>rfl
 | true=>simp [h' rfl]
theorem dS {cal:Cal}{e:ME}{ρ:Rho}{v:PV} (h:ev cal e ρ=some v):ex cal (.ret e) ρ=.ret v:=by
 rw [ex,h];rfl
theorem ba {cal:Cal}{f:Nat}{es:List ME}{ρ:Rho}{vs:List MV}{v:PV} (h:evA cal es ρ=some vs) (h':cal f vs=some v):ev cal (.call f es) ρ=some v:=by
 rw [ev,h,Option.bind_some,h']
theorem sj {cal:Cal}{i:Nat}{e:ME}{ρ:Rho}{xs:List PV} (h:ev cal e ρ=some (.lst xs)):ex cal (.setOwn i e) ρ=.next (put ρ i (.own xs)):=by
 rw [ex,h];rfl
theorem gw {α:Type}{cal:Cal}{k:Sk}{src:List ME}{js:List Nat}{elt:ME}{ρ:Rho}{vs:List PV}{xs:List α}{g h:α->PV} (h1:evs cal src ρ=some vs) (h2:cj k vs=some (xs.map g)) (hl:xs.length <= 10000)
  (h3:∀ x ∈ xs,ev cal elt (cA js ρ (g x))=some (h x)):ev cal (.comp k src js (.cst (.bl true)) elt) ρ=some (.lst (xs.map h)):=by
 rw [ev,h1,Option.bind_some,h2,Option.bind_some,if_pos (by simpa using hl),hV (h:=h) (λx _=>by simp [ev]) h3]
 rfl
theorem ci (cal:Cal) (v:PV) (ρ:Rho):ev cal (.cst v) ρ=some v:=by rw [ev]
theorem di {cal:Cal}{op:Op2}{a b:ME}{ρ:Rho}{x y:PV} (h:ev cal a ρ=some x) (h':ev cal b ρ=some y):ev cal (.bin op a b) ρ=gU op x y:=by
 rw [ev,h,Option.bind_some,h',Option.bind_some]
theorem pV {cal:Cal}{op:Cp}{a b:ME}{ρ:Rho}{x y:PV} (h:ev cal a ρ=some x) (h':ev cal b ρ=some y):ev cal (.cmp op a b) ρ=(cb op x y).map .bl:=by
 rw [ev,h,Option.bind_some,h',Option.bind_some]
theorem vB {cal:Cal}{a:ME}{ρ:Rho}{x k j:Int} (h:ev cal a ρ=some (.int x)) (hk:0 < k):ev cal (.cmp .eq (.bin .mod a (.cst (.int k))) (.cst (.int j))) ρ=some (.bl (x % k == j)):=by
 rw [pV (di h (ci _ _ _) |>.trans (by rw [jQ,if_pos hk])) (ci _ _ _),Ab,xt]
 rfl
theorem qQ {cal:Cal}{a:ME}{ρ:Rho}{x k:Int} (h:ev cal a ρ=some (.int x)) (hk:0 < k/\k < 1073741824):ev cal (.bin .fdiv a (.cst (.int k))) ρ=some (.int (x / k)):=by
 rw [di h (ci _ _ _),ve,if_pos hk]
theorem nq {cal:Cal}{a:ME}{ρ:Rho}{b:Bool} (h:ev cal a ρ=some (.bl b)):evB cal a ρ=some b:=by
 unfold evB
 rw [h]
 rfl
theorem xB {cal:Cal}{e:ME}{ρ:Rho}{v:PV} (hn:∀ i,e ≠ .bor i) (h:ev cal e ρ=some v):evA cal [e] ρ=some [.val v]:=by
 rw [evA,h,Option.bind_some,evA]
 ·rfl
 ·exact λi z=>hn i z
theorem oT {cal:Cal}{f:Nat}{e:ME}{ρ:Rho}{v r:PV} (hn:∀ i,e ≠ .bor i) (h:ev cal e ρ=some v) (h':cal f [.val v]=some r):ev cal (.call f [e]) ρ=some r:=ba (xB hn h) h'
theorem dU {body:PV->Rho->R}{x:PV}{xs:List PV}{ρ ρ1:Rho} (h:body x ρ=.next ρ1):aT body (x::xs) ρ=aT body xs ρ1:=by rw [aT,h]
theorem iQ {cal:Cal}{i:Nat}{e:ME}{ρ:Rho}{v:PV}{ms:List MS}{X:Option PV} (h:ev cal e ρ=some v) (k:bc (exs cal ms (put ρ i (.val v)))=X):bc (exs cal (.set i e::ms) ρ)=X:=by
 rw [av,ic h,aM,k]
theorem ie {cal:Cal}{m:MS}{ρ ρ':Rho}{ms:List MS}{X:Option PV} (h:ex cal m ρ=.next ρ') (k:bc (exs cal ms ρ')=X):bc (exs cal (m::ms) ρ)=X:=by
 rw [av,h,aM,k]
theorem qR {cal:Cal}{e:ME}{ρ:Rho}{v:PV}{ms:List MS} (h:ev cal e ρ=some v):bc (exs cal (.ret e::ms) ρ)=some v:=by
 rw [av,dS h];rfl
theorem Cc {cal:Cal}{m:MS}{ρ ρ':Rho} (h:ex cal m ρ=.next ρ'):exs cal [m] ρ=.next ρ':=by
 rw [av,h,aM,exs]
theorem Aj {cal:Cal}{c:ME}{a b:List MS}{ρ:Rho}{p:Bool} (h:ev cal c ρ=some (.bl p)):ex cal (.ite c a b) ρ=if p=true then exs cal a ρ else exs cal b ρ:=by
 rw [ex,nq h,fj]
theorem xC (x h:Int):(x == h)=decide (x=h):=rfl
noncomputable def drp (h:Int) (ts:List Int):List Int:=ts.filter λx=>!decide (x=h)
noncomputable def gE (h:Int) (R:List (List Int)):List (List Int):=sortT (R.map (drp h))
theorem vC {h:Int}{ts:List Int} (g:dq ts):dq (drp h ts):=⟨g.1.filter _,λx hx=>g.2 x (List.mem_filter.mp hx).1⟩
theorem jj {h:Int}{R:List (List Int)} (g:aN R):aN (gE h R):=by
 refine ⟨λts hm=>?_,sortT_rises _,by unfold gE;rw [sortT_len,List.length_map];exact g.2.2⟩
 obtain ⟨t,ht,rfl⟩:=List.mem_map.mp (cX.mp hm)
 exact vC (g.1 t ht)
noncomputable def pW (h:Int) (R:List (List Int)):List (List Int):=R.filter λts=>!decide (h ∈ ts)
theorem sk {h:Int}{R:List (List Int)} (g:aN R):aN (pW h R):=⟨λts hm=>g.1 ts (List.mem_filter.mp hm).1,g.2.1.filter _,Nat.le_trans (List.length_filter_le _ _) g.2.2⟩
noncomputable def ig (R:List (List Int)):Bool:=R.any λs=>decide (s.length < 2)
noncomputable def jv (R:List (List Int)):List (List Int):=R.filter (λs=>decide (s.length=2)) ++ (R.filter λs=>decide (s.length=2)).map λs=>[s.getD 1 0,s.getD 0 0]
noncomputable def aB (q:List Int) (R:List (List Int)):List (List Int):=pW (q.getD 1 0) (gE (q.getD 0 0) R)
noncomputable def lf:Nat->List (List Int)->Bool
 | 0,R=>ig R
 | d + 1,R=>ig R || (jv R).any λq=>lf d (aB q R)
noncomputable def am (d:Nat) (R:List (List Int)):List (List Int):=R.filter λs=>decide (s.length <= d + 1)
noncomputable def du (S:List (List Int)) (q:List Int):Bool:=S.any λs=>decide (q.getD 0 0 ∈ s)&&!decide (q.getD 1 0 ∈ s)
noncomputable def qS (f:List (List Int)->List (List Int)):Prop:=∀ R s,s ∈ f R ↔ s ∈ R
noncomputable def ga (f:List (List Int)->List (List Int)):Nat->List (List Int)->Bool
 | 0,S=>ig S
 | d + 1,S=>ig S || ((jv S).filter (du S)).any λq=>ga f d (f (am d (aB q S)))
noncomputable def eU (R:List (List Int)):Prop:=∀ s ∈ R,s.Nodup
theorem f_ {h x:Int}{s:List Int}:x ∈ drp h s ↔ x ∈ s/\x ≠ h:=by
 unfold drp
 rw [List.mem_filter]
 simp
theorem cz {q:List Int}{R:List (List Int)}{u:List Int}:u ∈ aB q R ↔ (∃ s ∈ R,drp (q.getD 0 0) s=u)/\q.getD 1 0 ∉ u:=by
 unfold aB pW gE
 rw [List.mem_filter,cX,List.mem_map]
 simp
theorem eV {q:List Int}{R:List (List Int)} (h:eU R):eU (aB q R):=λu hu=>by
 obtain ⟨⟨s,hs,rfl⟩,_⟩:=cz.mp hu
 exact (h s hs).sublist List.filter_sublist
theorem bX {R:List (List Int)}:ig R=true ↔ ∃ s ∈ R,s.length < 2:=by
 unfold ig
 rw [List.any_eq_true]
 simp
theorem ca {R:List (List Int)}{q:List Int}:q ∈ jv R ↔ ∃ a b,q=[a,b]/\([a,b] ∈ R \/ [b,a] ∈ R):=by
 unfold jv
 rw [List.mem_append,List.mem_filter,List.mem_map]
 constructor
 ·rintro (⟨h1,h2⟩|⟨s,h1,h2⟩)
  ·have h2:q.length=2:=by simpa using h2
   match q,h2 with
   | [a,b],_=>exact ⟨a,b,rfl,.inl h1⟩
  ·obtain ⟨h1,h3⟩:=List.mem_filter.mp h1
   have h3:s.length=2:=by simpa using h3
   match s,h3 with
   | [a,b],_=>exact ⟨b,a,by rw [<- h2];rfl,.inr h1⟩
 ·rintro ⟨a,b,rfl,h|h⟩
  ·exact .inl ⟨h,by simp⟩
  ·exact .inr ⟨[b,a],List.mem_filter.mpr ⟨h,by simp⟩,rfl⟩
noncomputable def Sub (d:Nat) (R Q:List (List Int)):Prop:=∀ s,s.length <= d + 1->s ∈ R->s ∈ Q
theorem qT {h:Int}:∀ {s:List Int},s.Nodup->s.length <= (drp h s).length + 1
 | [],_=>Nat.zero_le _
 | x::s,n=>by
  obtain ⟨n1,n2⟩:=List.nodup_cons.mp n
  by_cases e:x=h
  ·subst e
   have:drp x (x::s)=s:=by
    unfold drp
    rw [List.filter_cons_of_neg (by simp),List.filter_eq_self.mpr]
    intro y hy
    have:y ≠ x:=λz=>n1 (z ▸ hy)
    simp [this]
   rw [this,List.length_cons]
   exact Nat.le_refl _
  ·have:drp h (x::s)=x::drp h s:=by
    unfold drp
    rw [List.filter_cons_of_pos (by simp [e])]
   rw [this,List.length_cons,List.length_cons]
   have:=qT (h:=h) n2
   omega
theorem sm {d:Nat}{R Q:List (List Int)} (hR:eU R) (h:Sub (d + 1) R Q) (q:List Int):Sub d (aB q R) (aB q Q):=λu hl hu=>by
 obtain ⟨⟨s,hs,rfl⟩,h2⟩:=cz.mp hu
 have:=qT (h:=q.getD 0 0) (hR s hs)
 exact cz.mpr ⟨⟨s,h s (by omega) hs,rfl⟩,h2⟩
theorem dB:∀ {d e:Nat}{R Q:List (List Int)},eU R->d <= e->Sub d R Q->lf d R=true->lf e Q=true
 | 0,e,R,Q,hR,_,h,z=>by
  obtain ⟨s,hs,hl⟩:=bX.mp z
  have:ig Q=true:=bX.mpr ⟨s,h s (by omega) hs,hl⟩
  cases e with
  | zero=>exact this
  | succ e=>unfold lf;rw [this];rfl
 | d + 1,e,R,Q,hR,hde,h,z=>by
  unfold lf at z
  rcases Bool.or_eq_true_iff.mp z with z|z
  ·obtain ⟨s,hs,hl⟩:=bX.mp z
   have:ig Q=true:=bX.mpr ⟨s,h s (by omega) hs,hl⟩
   cases e with
   | zero=>exact this
   | succ e=>unfold lf;rw [this];rfl
  ·cases e with
   | zero=>omega
   | succ e =>
    obtain ⟨q,hq,hz⟩:=List.any_eq_true.mp z
    obtain ⟨a,b,rfl,hab⟩:=ca.mp hq
    unfold lf
    refine Bool.or_eq_true_iff.mpr (.inr (List.any_eq_true.mpr ⟨[a,b],ca.mpr ⟨a,b,rfl,hab.imp (h _ (by simp)) (h _ (by simp))⟩,?_⟩))
    exact dB (eV hR) (by omega) (sm hR h _) hz
theorem aG {d:Nat}{R:List (List Int)}{s:List Int}:s ∈ am d R ↔ s ∈ R/\s.length <= d + 1:=by
 unfold am
 rw [List.mem_filter]
 simp
theorem vD {f:List (List Int)->List (List Int)} (hf:qS f):∀ {d:Nat}{S:List (List Int)},eU S->ga f d S=true->lf d S=true
 | 0,S,_,z=>z
 | d + 1,S,hS,z=>by
  unfold ga at z
  unfold lf
  rcases Bool.or_eq_true_iff.mp z with z|z
  ·exact Bool.or_eq_true_iff.mpr (.inl z)
  ·obtain ⟨q,hq,hz⟩:=List.any_eq_true.mp z
   refine Bool.or_eq_true_iff.mpr (.inr (List.any_eq_true.mpr ⟨q,(List.mem_filter.mp hq).1,?_⟩))
   have nd:eU (f (am d (aB q S))):=λs hs=>eV hS s (aG.mp ((hf _ _).mp hs)).1
   exact dB nd (Nat.le_refl _) (λs _ hs=>(aG.mp ((hf _ _).mp hs)).1) (vD hf nd hz)
theorem vE {f:List (List Int)->List (List Int)} (hf:qS f):∀ {d:Nat}{S:List (List Int)},eU S->lf d S=true->ga f d S=true
 | 0,S,_,z=>z
 | d + 1,S,hS,z=>by
  have z0:=z
  unfold ga
  unfold lf at z
  rcases Bool.or_eq_true_iff.mp z with z|z
  ·exact Bool.or_eq_true_iff.mpr (.inl z)
  by_cases hn:ig S=true
  ·exact Bool.or_eq_true_iff.mpr (.inl hn)
  refine Bool.or_eq_true_iff.mpr (.inr (List.any_eq_true.mpr ?_))
  have step:∀ q,lf d (aB q S)=true->ga f d (f (am d (aB q S)))=true:=λq hq=>by
   have nd:eU (f (am d (aB q S))):=λs hs=>eV hS s (aG.mp ((hf _ _).mp hs)).1
   exact vE hf nd (dB (eV hS) (Nat.le_refl _) (λs hl hs=>(hf _ _).mpr (aG.mpr ⟨hs,hl⟩)) hq)
  obtain ⟨q,hq,hz⟩:=List.any_eq_true.mp z
  by_cases hh:du S q=true
  ·exact ⟨q,List.mem_filter.mpr ⟨hq,hh⟩,step q hz⟩
  ·
   have sub:∀ u ∈ aB q S,u ∈ S:=λu hu=>by
    obtain ⟨⟨s,hs,rfl⟩,h2⟩:=cz.mp hu
    by_cases ha:q.getD 0 0 ∈ s
    ·by_cases hb:q.getD 1 0 ∈ s
     ·obtain ⟨a,b,rfl,hab⟩:=ca.mp hq
      have hne:b ≠ a:=λz=>by
       subst z
       rcases hab with w|w <;> exact (List.nodup_cons.mp (hS _ w)).1 (.head _)
      exact absurd (f_.mpr ⟨hb,hne⟩) h2
     ·exfalso
      apply hh
      unfold du
      exact List.any_eq_true.mpr ⟨s,hs,by rw [decide_eq_true ha,decide_eq_false hb];rfl⟩
    ·have:drp (q.getD 0 0) s=s:=by
      unfold drp
      rw [List.filter_eq_self]
      intro y hy
      have:y ≠ q.getD 0 0:=λz=>ha (z ▸ hy)
      rw [decide_eq_false this]
      rfl
     rw [this]
     exact hs
   have l1:lf d S=true:=dB (eV hS) (Nat.le_refl _) (λs _ hs=>sub s hs) hz
   have l2:=vE hf hS l1
   cases d with
   | zero=>exact absurd l2 hn
   | succ e =>
    unfold ga at l2
    rcases Bool.or_eq_true_iff.mp l2 with l2|l2
    ·exact absurd l2 hn
    ·obtain ⟨q',hq',hz'⟩:=List.any_eq_true.mp l2
     refine ⟨q',hq',step q' ?_⟩
     have nd:eU (f (am e (aB q' S))):=λs hs=>eV hS s (aG.mp ((hf _ _).mp hs)).1
     exact dB nd (Nat.le_succ e) (λs _ hs=>(aG.mp ((hf _ _).mp hs)).1) (vD hf nd hz')
theorem Cd {f:List (List Int)->List (List Int)} (hf:qS f) (d:Nat) {R:List (List Int)} (hR:eU R):ga f d (f (am d R))=lf d R:=by
 have nd:eU (f (am d R)):=λs hs=>hR s (aG.mp ((hf _ _).mp hs)).1
 have e:ga f d (f (am d R))=true ↔ lf d R=true :=
  ⟨λz=>dB nd (Nat.le_refl _) (λs _ hs=>(aG.mp ((hf _ _).mp hs)).1) (vD hf nd z),λz=>vE hf nd (dB hR (Nat.le_refl _) (λs hl hs=>(hf _ _).mpr (aG.mpr ⟨hs,hl⟩)) z)⟩
 exact Bool.eq_iff_iff.mpr e
theorem jF (n:Nat) (ts:List Int) (h:Int) (hl:ts.length <= 10000):aa defs (n + 1) 2 [.val (ofS ts),.val (.int h)]=some (ofS (drp h ts)):=by
 rw [ae (d:=cu) rfl rfl]
 simp [cu,exs,ex,ev,evs,hl]
 rw [cW (p:=λx=>!decide (x=h)) (h:=PV.int)]
 ·simp [drp]
 ·intro x _
  simp [ev,cA,xC]
 ·intro x _ _
  simp [ev,cA]
theorem mi (n:Nat) (R:List (List Int)) (h:Int) (g:aN R):aa defs (n + 2) 3 [.val (ofR R),.val (.int h)]=some (ofR (gE h R)):=by
 rw [ae (d:=gq) rfl rfl]
 have hl:R.length <= 10000:=by have:=g.2.2;omega
 simp [gq,exs,ex,ev,evs,hl]
 rw [hV (h:=λts=>ofS (drp h ts))]
 ·have e:(R.map λc=>ofS (drp h c))=(R.map (drp h)).map ofS:=by rw [List.map_map];rfl
  have hl3:(R.map (drp h)).length < 64:=by rw [List.length_map];have:=g.2.2;omega
  rw [e]
  simp [-List.map_map,l_ hl3,gE]
 ·intro c _
  simp [ev]
 ·intro c hc
  have hl:=dF (g.1 c hc)
  simp [ev,evA,cA,jF n c h (by omega)]
theorem oU (n:Nat) (R:List (List Int)) (h:Int) (hl:R.length <= 10000):aa defs (n + 1) 4 [.val (ofR R),.val (.int h)]=some (ofR (pW h R)):=by
 rw [ae (d:=iN) rfl rfl]
 simp [iN,exs,ex,ev,evs,hl]
 rw [cW (p:=λts=>!decide (h ∈ ts)) (h:=ofS)]
 ·simp [pW]
 ·intro ts _
  simp [ev,cA,gp]
 ·intro ts _ _
  simp [ev,cA]
noncomputable def srt (R:List (List Int)):List (List Int):=sortT (ddT R)
theorem dG:qS srt:=λR s=>by
 unfold srt
 rw [cX,ddT_mem]
theorem vF {R:List (List Int)} (h:∀ ts ∈ R,dq ts) (hl:R.length <= 60):aN (srt R):=by
 refine ⟨λts hts=>h ts ((dG R ts).mp hts),sortT_rises _,?_⟩
 unfold srt
 rw [sortT_len]
 have:∀ l:List (List Int),(ddT l).length <= l.length:=λl=>by
  induction l with
  | nil=>exact Nat.le_refl _
  | cons x r ih =>
   show (if x ∈ ddT r then ddT r else x::ddT r).length <= _
   split
   ·rw [List.length_cons];omega
   ·rw [List.length_cons,List.length_cons];omega
 have:=this R
 omega
theorem qU (n:Nat) (R:List (List Int)) (d:Nat) (hl:R.length <= 60):aa defs (n + 1) 11 [.val (ofR R),.val (.int (d:Nat))]=some (ofR (srt (am d R))):=by
 rw [ae (d:=dR) rfl rfl]
 have hl2:R.length <= 10000:=by omega
 have e1:ev (aa defs n) (.comp .seq [(.bor 0)] [1] (.cmp .le (.blt .len [(.bor 0)]) (.bin .add (.bor 1) (.cst (.int 1)))) (.var 0)) [some (.val (ofR R)),some (.val (.int (d:Nat)))]=some (.lst ((am d R).map ofS)):=by
  simp [ev,evs,hl2]
  rw [cW (p:=λs=>decide (s.length <= d + 1)) (h:=ofS)]
  ·rfl
  ·intro s _
   simp [ev,evs,cA]
   omega
  ·intro s _ _
   simp [ev,cA]
 have e2:ev (aa defs n) (.blt .sortedSetT [(.comp .seq [(.bor 0)] [1] (.cmp .le (.blt .len [(.bor 0)]) (.bin .add (.bor 1) (.cst (.int 1)))) (.var 0))]) [some (.val (ofR R)),some (.val (.int (d:Nat)))]=some (.lst ((srt (am d R)).map ofS)):=by
  rw [c9 e1,kR]
  show (dl ((am d R).map ofS)).bind _=_
  rw [jf,Option.bind_some,if_pos]
  ·rfl
  ·exact Nat.le_trans (List.length_filter_le _ _) hl
 show bc (exs _ [.ret _] [some (.val (ofR R)),some (.val (.int (d:Nat)))])=_
 rw [av,dS (v:=ofR (srt (am d R)))]
 ·rfl
 ·rw [c9 e2]
  rfl
theorem xD (n:Nat) (S:List (List Int)) (a b:Int) (hl:S.length <= 60):aa defs (n + 1) 12 [.val (ofR S),.val (.int a),.val (.int b)]=some (.bl (du S [a,b])):=by
 rw [ae (d:=dh) rfl rfl]
 have e1:ev (aa defs n) (.comp .seq [(.bor 0)] [1,2] (.cst (.bl true)) (.and (.cmp .isIn (.bor 1) (.bor 0)) (.cmp .notIn (.bor 2) (.bor 0)))) [some (.val (ofR S)),some (.val (.int a)),some (.val (.int b))]=some (.lst (S.map λs=>.bl (decide (a ∈ s)&&!decide (b ∈ s)))):=by
  refine gw (g:=ofS) (vs:=[ofR S]) (by simp [evs,ev]) rfl (by omega) λs _=>?_
  refine pU ?_ λ_=>?_
  ·simp [ev,cA,gp]
  ·simp [ev,cA,gp]
 show bc (exs _ [.ret _] [some (.val (ofR S)),some (.val (.int a)),some (.val (.int b))])=_
 rw [av,dS (v:=.bl (du S [a,b]))]
 ·rfl
 ·rw [c9 e1,xu,show (S.map λs=>PV.bl (decide (a ∈ s)&&!decide (b ∈ s)))=(S.map λs=>decide (a ∈ s)&&!decide (b ∈ s)).map PV.bl from by rw [List.map_map];rfl,kQ]
  simp [du,List.any_map,Function.comp_def]
noncomputable def eF:List (List Int)->List (List Int)
 | []=>[]
 | s::S=>(if s.length=2 then [s,[s.getD 1 0,s.getD 0 0]] else []) ++ eF S
theorem iR {q:List Int}:∀ {S:List (List Int)},q ∈ eF S ↔ q ∈ jv S
 | []=>by simp [eF,jv]
 | s::S=>by
  have ih:=@iR q S
  show q ∈ _ ++ eF S ↔ _
  rw [List.mem_append,ih,ca,ca]
  constructor
  ·rintro (h|⟨a,b,e,h⟩)
   ·split at h
    ·rename_i h2
     match s,h2 with
     | [a,b],_ =>
      rcases List.mem_cons.mp h with h|h
      ·exact ⟨a,b,h,.inl (.head _)⟩
      ·exact ⟨b,a,List.mem_singleton.mp h,.inr (.head _)⟩
    ·cases h
   ·exact ⟨a,b,e,h.imp (.tail _) (.tail _)⟩
  ·rintro ⟨a,b,e,h|h⟩
   ·rcases List.mem_cons.mp h with h|h
    ·left;rw [<- h,e];simp
    ·exact .inr ⟨a,b,e,.inl h⟩
   ·rcases List.mem_cons.mp h with h|h
    ·left;rw [<- h,e];simp
    ·exact .inr ⟨a,b,e,.inr h⟩
theorem oV:∀ (S:List (List Int)),(eF S).length <= 2 * S.length
 | []=>Nat.le_refl _
 | s::S=>by
  have:=oV S
  show (_ ++ eF S).length <= _
  rw [List.length_append,List.length_cons]
  split
  ·simp;omega
  ·simp;omega
theorem oW:∀ {S:List (List Int)},∀ q ∈ eF S,∃ a b,q=[a,b]:=λq hq=>by
 obtain ⟨a,b,e,_⟩:=ca.mp (iR.mp hq)
 exact ⟨a,b,e⟩
theorem jk (cal:Cal) (v:MV):∀ (S acc:List (List Int)) (kk:Option MV),acc.length + 2 * S.length <= 1000 ->
  ∃ kk',aT (λx ρ'=>exs cal a9 (put ρ' 2 (.val x))) (S.map ofS) [some v,some (.own (acc.map ofS)),kk]=.next [some v,some (.own ((acc ++ eF S).map ofS)),kk']
 | [],acc,kk,_=>⟨kk,by rw [eF,List.append_nil];rfl⟩
 | s::S,acc,kk,h=>by
  rw [List.length_cons] at h
  rw [List.map_cons]
  by_cases h2:s.length=2
  ·match s,h2 with
   | [a,b],_ =>
    have hl:acc.length + 2 <= 10000:=by omega
    have e:exs cal a9 (put [some v,some (.own (acc.map ofS)),kk] 2 (.val (ofS [a,b])))=.next [some v,some (.own ((acc ++ [[a,b],[b,a]]).map ofS)),some (.val (ofS [a,b]))]:=by
     simp [a9,exs,ex,ev,evs,evB,place,hl]
    rw [dU e]
    obtain ⟨kk',e'⟩:=jk cal v S (acc ++ [[a,b],[b,a]]) (some (.val (ofS [a,b]))) (by simp;omega)
    refine ⟨kk',e'.trans ?_⟩
    rw [List.append_assoc]
    rfl
  ·have e:exs cal a9 (put [some v,some (.own (acc.map ofS)),kk] 2 (.val (ofS s)))=.next [some v,some (.own (acc.map ofS)),some (.val (ofS s))]:=by
    have h3:¬ (s.length:Int)=2:=by omega
    simp [a9,exs,ex,ev,evs,evB,h3]
   rw [dU e]
   obtain ⟨kk',e'⟩:=jk cal v S acc (some (.val (ofS s))) (by omega)
   refine ⟨kk',e'.trans ?_⟩
   rw [show eF (s::S)=eF S by show _ ++ eF S=_;rw [if_neg h2];rfl]
theorem sn (n:Nat) {S:List (List Int)} (hl:S.length <= 60):aa defs (n + 2) 13 [.val (ofR S)]=some (.lst (((eF S).filter (du S)).map ofS)):=by
 rw [ae (d:=fq) rfl rfl]
 obtain ⟨kk,e⟩:=jk (aa defs (n + 1)) (.val (ofR S)) S [] none (by simp;omega)
 have ht:=oV S
 have ec:ev (aa defs (n + 1)) (.comp .seq [(.bor 1)] [0] (.call 12 [(.bor 1),(.idx (.bor 0) (.cst (.int 0))),(.idx (.bor 0) (.cst (.int 1)))]) (.var 0)) [some (.val (ofR S)),some (.own ((eF S).map ofS)),kk]=some (.lst (((eF S).filter (du S)).map ofS)):=by
  have hl2:(eF S).length <= 10000:=by omega
  simp [ev,evs,hl2]
  rw [cW (p:=du S) (h:=ofS)]
  ·intro q hq
   obtain ⟨a,b,rfl⟩:=oW q hq
   have:=xD n S a b hl
   simp [ev,evA,cA,place,this]
  ·intro s _ _
   simp [ev,cA]
 show bc (exs (aa defs (n + 1)) [.setOwn 1 (.lst []),.for1 2 .seq [(.bor 0)] a9,.ret _] [some (.val (ofR S)),none,none])=_
 rw [av,sj (xs:=[]) (by rw [ev,evs];rfl),aM]
 show bc (exs (aa defs (n + 1)) _ [some (.val (ofR S)),some (.own ([]:List PV)),none])=_
 rw [av,np (xs:=S.map ofS) (by simp [evs,ev])]
 show bc ((MM.R.back _ _ (aT _ _ [some (.val (ofR S)),some (.own (([]:List (List Int)).map ofS)),none])).andThen _)=_
 rw [e,jg,aM,av,List.nil_append,dS (v:=.lst (((eF S).filter (du S)).map ofS))]
 ·rfl
 ·exact ec
theorem kZ (n:Nat) (R:List (List Int)):aa defs (n + 1) 6 [.val (ofR R)]=some (.bl (decide ([] ∈ R))):=by
 rw [ae (d:=fo) rfl rfl]
 have ein:isIn (.tup []) (R.map ofS)=some (decide ([] ∈ R)):=vd [] R
 simp [fo,exs,ex,ev,evs,ein]
noncomputable def gF (b:Bool) (P:PV->Prop) (v:PV):Prop:=if b=true then P v/\∃ xs,v=.tup xs else v=.non
noncomputable def jl:PV:=.tup [.str "whole"]
noncomputable def jw (a:Int):PV:=.tup [.str "knot",.int a,jl]
noncomputable def FP0 (S:List (List Int)) (v:PV):Prop:=([] ∈ S/\v=jl) \/ ∃ a,[a] ∈ S/\v=jw a
noncomputable def xE (a b:Int) (L:List (List Int)) (p:PV):PV:=.tup [.str "knot",.int a,.tup [.str "either",ofR [[b]],jw b,ofR L,p]]
noncomputable def FP:Nat->List (List Int)->PV->Prop
 | 0,S,v=>FP0 S v
 | d + 1,S,v=>FP0 S v \/ ∃ a b p,([a,b] ∈ S \/ [b,a] ∈ S)/\FP d (srt (am d (aB [a,b] S))) p/\v=xE a b (srt (am d (aB [a,b] S))) p
theorem Ak {S:List (List Int)}{v:PV} (h:FP0 S v):∀ d,FP d S v
 | 0=>h
 | _ + 1=>.inl h
theorem mj (cal:Cal) (v:MV):∀ (S:List (List Int)) (kk:Option MV),
  (∀ s ∈ S,s.length ≠ 1)/\(∃ kk',aT (λx ρ'=>exs cal a7 (put ρ' 1 (.val x))) (S.map ofS) [some v,kk]=.next [some v,kk']) \/
  ∃ a,[a] ∈ S/\aT (λx ρ'=>exs cal a7 (put ρ' 1 (.val x))) (S.map ofS) [some v,kk]=.ret (jw a)
 | [],kk=>.inl ⟨λs hs=>(by cases hs),kk,rfl⟩
 | s::S,kk=>by
  rw [List.map_cons]
  by_cases h1:s.length=1
  ·match s,h1 with
   | [a],_ =>
    refine .inr ⟨a,.head _,?_⟩
    have e:exs cal a7 (put [some v,kk] 1 (.val (ofS [a])))=.ret (jw a):=by
     simp [a7,exs,ex,ev,evs,evB,place,jw,jl]
    rw [aT,e]
  ·have e:exs cal a7 (put [some v,kk] 1 (.val (ofS s)))=.next [some v,some (.val (ofS s))]:=by
    have h3:¬ (s.length:Int)=1:=by omega
    simp [a7,exs,ex,ev,evs,evB,h3]
   rw [dU e]
   rcases mj cal v S (some (.val (ofS s))) with ⟨h,r⟩|⟨a,ht,r⟩
   ·refine .inl ⟨λt ht=>?_,r⟩
    rcases List.mem_cons.mp ht with rfl|ht
    ·exact h1
    ·exact h t ht
   ·exact .inr ⟨a,.tail _ ht,r⟩
theorem vG (n:Nat) (S:List (List Int)):∃ v,aa defs (n + 2) 14 [.val (ofR S)]=some v/\gF (ig S) (FP0 S) v:=by
 rw [ae (d:=fX) rfl rfl]
 show ∃ v,bc (exs (aa defs (n + 1)) [.ite _ _ [],.for1 1 .seq [(.bor 0)] a7,.ret _] [some (.val (ofR S)),none])=some v/\_
 have ew:ev (aa defs (n + 1)) (.call 6 [(.bor 0)]) [some (.val (ofR S)),none]=some (.bl (decide ([] ∈ S))):=ba (vs:=[.val (ofR S)]) (by rw [evA,evA];rfl) (kZ n S)
 rw [av,ex,nq ew,fj]
 by_cases h0:[] ∈ S
 ·have hn:ig S=true:=bX.mpr ⟨[],h0,by simp⟩
  rw [if_pos (decide_eq_true h0),av,dS (v:=jl) (by simp [ev,evs,jl])]
  exact ⟨_,rfl,by unfold gF;rw [if_pos hn];exact ⟨.inl ⟨h0,rfl⟩,_,rfl⟩⟩
 ·rw [if_neg (by simp [h0]),exs,aM,av,np (xs:=S.map ofS) (by simp [evs,ev])]
  show ∃ v,bc ((MM.R.back _ _ (aT _ _ [some (.val (ofR S)),none])).andThen _)=some v/\_
  rcases mj (aa defs (n + 1)) (.val (ofR S)) S none with ⟨h,kk',e⟩|⟨a,hs,e⟩
  ·have hn:ig S=false:=by
    cases hz:ig S with
    | false=>rfl
    | true =>
     obtain ⟨s,hs,hl⟩:=bX.mp hz
     have h1:=h s hs
     have:s=[]:=List.length_eq_zero_iff.mp (by omega)
     subst this
     exact absurd hs h0
   rw [e,jg,aM,av,dS (ci _ _ _)]
   exact ⟨.non,rfl,by unfold gF;rw [hn];rfl⟩
  ·have hn:ig S=true:=bX.mpr ⟨[a],hs,by simp⟩
   rw [e]
   exact ⟨_,rfl,by unfold gF;rw [if_pos hn];exact ⟨.inr ⟨a,hs,rfl⟩,_,rfl⟩⟩
theorem Al (n:Nat) (S:List (List Int)) (a b:Int) (g:aN S):aa defs (n + 4) 10 [.val (ofR S),.val (.str "moth"),.val (.int a),.val (.int b)]=some (ofR (aB [a,b] S)):=by
 rw [ae (d:=c8) rfl rfl]
 have eo:aa defs (n + 3) 8 [.val (.str "moth")]=some (.str "weaver"):=by
  rw [ae (d:=b9) rfl rfl]
  have hne:¬ (("moth":PySem.Str)=("weaver":PySem.Str)):=by decide
  simp [b9,exs,ex,ev,evB,hne]
 have ek:=mi n S a g
 have eb:=oU (n + 1) (gE a S) b (by have:=(jj (h:=a) g).2.2;omega)
 have e1:aa defs (n + 3) 9 [.val (ofR S),.val (.str "weaver"),.val (.int a)]=some (ofR (gE a S)):=by
  rw [ae (d:=cI) rfl rfl]
  simp [cI,exs,ex,ev,evA,evB,dM,ek]
 have e2:aa defs (n + 3) 9 [.val (ofR (gE a S)),.val (.str "moth"),.val (.int b)]=some (ofR (pW b (gE a S))):=by
  rw [ae (d:=cI) rfl rfl]
  have hne:((("moth":PySem.Str) == ("weaver":PySem.Str)))=false:=by decide
  simp [cI,exs,ex,ev,evA,evB,dM,eb,hne]
 simp [c8,exs,ex,ev,evA,eo,e1,e2,aB]
theorem qV {S:List (List Int)} (g:aN S):eU S:=λs hs=>fW (g.1 s hs).1
theorem k4 {S:List (List Int)} (g:aN S) (q:List Int):aN (aB q S):=sk (jj g)
theorem fz {S:List (List Int)} (g:aN S) (d:Nat):aN (srt (am d S)):=vF (λts hts=>g.1 ts (aG.mp hts).1) (Nat.le_trans (List.length_filter_le _ _) g.2.2)
theorem ml (n d:Nat) {S:List (List Int)} (g:aN S) (ih:∀ {Q:List (List Int)},aN Q->∃ v,aa defs (n + 5) 16 [.val (ofR Q),.val (.int (d:Nat))]=some v/\gF (ga srt d Q) (FP d Q) v) :
  ∀ (T:List (List Int)) (x2 x3 x4 x5 x6:Option MV),(∀ q ∈ T,∃ a b,q=[a,b]) ->
   ((T.any λq=>ga srt d (srt (am d (aB q S))))=false/\∃ y2 y3 y4 y5 y6,aT (λx ρ'=>db (dY [2,3] x ρ') λρ''=>exs (aa defs (n + 5)) aC ρ'') (T.map ofS) [some (.val (ofR S)),some (.val (.int ((d + 1:Nat):Int))),x2,x3,x4,x5,x6]=.next [some (.val (ofR S)),some (.val (.int ((d + 1:Nat):Int))),y2,y3,y4,y5,y6]) \/
   ((T.any λq=>ga srt d (srt (am d (aB q S))))=true/\∃ a b p,[a,b] ∈ T/\FP d (srt (am d (aB [a,b] S))) p/\aT (λx ρ'=>db (dY [2,3] x ρ') λρ''=>exs (aa defs (n + 5)) aC ρ'') (T.map ofS) [some (.val (ofR S)),some (.val (.int ((d + 1:Nat):Int))),x2,x3,x4,x5,x6]=.ret (xE a b (srt (am d (aB [a,b] S))) p))
 | [],x2,x3,x4,x5,x6,_=>.inl ⟨rfl,x2,x3,x4,x5,x6,rfl⟩
 | q::T,x2,x3,x4,x5,x6,hT=>by
  obtain ⟨a,b,rfl⟩:=hT q (.head _)
  rw [List.map_cons]
  have e1:=Al (n + 1) S a b g
  have hm:=k4 g [a,b]
  have e2:=qU (n + 4) (aB [a,b] S) d hm.2.2
  obtain ⟨v,e3,hv⟩:=ih (fz hm d)
  have s1:ev (aa defs (n + 5)) (.bin .sub (.bor 1) (.cst (.int 1))) [some (.val (ofR S)),some (.val (.int ((d + 1:Nat):Int))),some (.val (.int a)),some (.val (.int b)),x4,x5,x6]=some (.int (d:Nat)):=by
   rw [di (x:=.int ((d + 1:Nat):Int)) (y:=.int 1) (by rw [ev];rfl) (ci _ _ _)]
   show some (PV.int (((d + 1:Nat):Int) - 1))=_
   congr 2
   omega
  have s4:ev (aa defs (n + 5)) (.call 11 [(.call 10 [(.bor 0),(.cst (.str "moth")),(.bor 2),(.bor 3)]),(.bin .sub (.bor 1) (.cst (.int 1)))]) [some (.val (ofR S)),some (.val (.int ((d + 1:Nat):Int))),some (.val (.int a)),some (.val (.int b)),x4,x5,x6]=some (ofR (srt (am d (aB [a,b] S)))):=by
   have s0:ev (aa defs (n + 5)) (.call 10 [(.bor 0),(.cst (.str "moth")),(.bor 2),(.bor 3)]) [some (.val (ofR S)),some (.val (.int ((d + 1:Nat):Int))),some (.val (.int a)),some (.val (.int b)),x4,x5,x6]=some (ofR (aB [a,b] S)):=ba (vs:=[.val (ofR S),.val (.str "moth"),.val (.int a),.val (.int b)]) (by simp [evA,ev]) e1
   refine ba (vs:=[.val (ofR (aB [a,b] S)),.val (.int (d:Nat))]) ?_ e2
   rw [evA,s0,evA,s1,evA]
   ·rfl
   ·intro i z;cases z
   ·intro i z;cases z
  have turn:(db (dY [2,3] (ofS [a,b]) [some (.val (ofR S)),some (.val (.int ((d + 1:Nat):Int))),x2,x3,x4,x5,x6]) λρ''=>exs (aa defs (n + 5)) aC ρ'')=exs (aa defs (n + 5)) aC [some (.val (ofR S)),some (.val (.int ((d + 1:Nat):Int))),some (.val (.int a)),some (.val (.int b)),x4,x5,x6]:=rfl
  have s5:ev (aa defs (n + 5)) (.call 16 [(.bor 4),(.bin .sub (.bor 1) (.cst (.int 1)))]) [some (.val (ofR S)),some (.val (.int ((d + 1:Nat):Int))),some (.val (.int a)),some (.val (.int b)),some (.val (ofR (srt (am d (aB [a,b] S))))),x5,x6]=some v:=by
   refine ba (vs:=[.val (ofR (srt (am d (aB [a,b] S)))),.val (.int (d:Nat))]) ?_ e3
   have s1':ev (aa defs (n + 5)) (.bin .sub (.bor 1) (.cst (.int 1))) [some (.val (ofR S)),some (.val (.int ((d + 1:Nat):Int))),some (.val (.int a)),some (.val (.int b)),some (.val (ofR (srt (am d (aB [a,b] S))))),x5,x6]=some (.int (d:Nat)):=by
    rw [di (x:=.int ((d + 1:Nat):Int)) (y:=.int 1) (by rw [ev];rfl) (ci _ _ _)]
    show some (PV.int (((d + 1:Nat):Int) - 1))=_
    congr 2
    omega
   rw [evA,evA,s1',evA]
   ·rfl
   ·intro i z;cases z
  have body:exs (aa defs (n + 5)) aC [some (.val (ofR S)),some (.val (.int ((d + 1:Nat):Int))),some (.val (.int a)),some (.val (.int b)),x4,x5,x6]=(ex (aa defs (n + 5)) (.ite (.cmp .notN (.bor 5) (.cst .non)) [.set 6 (.tup [(.cst (.str "knot")),(.var 3),(.tup [(.cst (.str "whole"))])]),.ret (.tup [(.cst (.str "knot")),(.var 2),(.tup [(.cst (.str "either")),(.tup [(.tup [(.var 3)])]),(.var 6),(.var 4),(.var 5)])])] []) [some (.val (ofR S)),some (.val (.int ((d + 1:Nat):Int))),some (.val (.int a)),some (.val (.int b)),some (.val (ofR (srt (am d (aB [a,b] S))))),some (.val v),x6]).andThen λρ'=>.next ρ':=by
   show exs (aa defs (n + 5)) [.set 4 _,.set 5 _,.ite _ _ []] _=_
   rw [av,ic s4,aM]
   show exs (aa defs (n + 5)) _ [some (.val (ofR S)),some (.val (.int ((d + 1:Nat):Int))),some (.val (.int a)),some (.val (.int b)),some (.val (ofR (srt (am d (aB [a,b] S))))),x5,x6]=_
   rw [av,ic s5,aM,av]
   congr 1
  rw [List.any_cons]
  cases hg:ga srt d (srt (am d (aB [a,b] S))) with
  | true =>
   refine .inr ⟨rfl,?_⟩
   unfold gF at hv
   rw [if_pos hg] at hv
   obtain ⟨hF,xs,rfl⟩:=hv
   refine ⟨a,b,.tup xs,.head _,hF,?_⟩
   have eb:exs (aa defs (n + 5)) aC [some (.val (ofR S)),some (.val (.int ((d + 1:Nat):Int))),some (.val (.int a)),some (.val (.int b)),x4,x5,x6]=.ret (xE a b (srt (am d (aB [a,b] S))) (.tup xs)):=by
    rw [body]
    unfold xE
    generalize ofR (srt (am d (aB [a,b] S)))=L
    simp [ex,exs,ev,evs,evB,dM,jw,jl,ofR,ofS]
   rw [aT,turn,eb]
  | false =>
   unfold gF at hv
   rw [hg,if_neg (by decide)] at hv
   subst hv
   have eb:exs (aa defs (n + 5)) aC [some (.val (ofR S)),some (.val (.int ((d + 1:Nat):Int))),some (.val (.int a)),some (.val (.int b)),x4,x5,x6]=.next [some (.val (ofR S)),some (.val (.int ((d + 1:Nat):Int))),some (.val (.int a)),some (.val (.int b)),some (.val (ofR (srt (am d (aB [a,b] S))))),some (.val .non),x6]:=by
    rw [body]
    simp [ex,exs,ev,evB,dM]
   rw [dU (turn.trans eb),Bool.false_or]
   rcases ml n d g ih T (some (.val (.int a))) (some (.val (.int b))) (some (.val (ofR (srt (am d (aB [a,b] S)))))) (some (.val .non)) x6 (λq hq=>hT q (.tail _ hq)) with h|⟨h1,a',b',p,h2,h3,h4⟩
   ·exact .inl h
   ·exact .inr ⟨h1,a',b',p,.tail _ h2,h3,h4⟩
theorem xF {α:Type}{l m:List α}{p:α->Bool} (h:∀ x,x ∈ l ↔ x ∈ m):l.any p=m.any p:=by
 refine Bool.eq_iff_iff.mpr ?_
 rw [List.any_eq_true,List.any_eq_true]
 exact ⟨λ⟨x,hx,hp⟩=>⟨x,(h x).mp hx,hp⟩,λ⟨x,hx,hp⟩=>⟨x,(h x).mpr hx,hp⟩⟩
theorem Am (n d:Nat) {S:List (List Int)} (g:aN S) (ih:∀ {Q:List (List Int)},aN Q->∃ v,aa defs (n + 5) 16 [.val (ofR Q),.val (.int (d:Nat))]=some v/\gF (ga srt d Q) (FP d Q) v):∃ v,aa defs (n + 6) 15 [.val (ofR S),.val (.int ((d + 1:Nat):Int))]=some v/\gF (((jv S).filter (du S)).any λq=>ga srt d (srt (am d (aB q S)))) (FP (d + 1) S) v:=by
 rw [ae (d:=eD) rfl rfl]
 have et:=sn (n + 3) g.2.2
 have em:(((jv S).filter (du S)).any λq=>ga srt d (srt (am d (aB q S))))=(((eF S).filter (du S)).any λq=>ga srt d (srt (am d (aB q S)))):=xF λq=>by rw [List.mem_filter,List.mem_filter,iR]
 rw [em]
 have src:(evs (aa defs (n + 5)) [(.call 13 [(.bor 0)])] [some (.val (ofR S)),some (.val (.int ((d + 1:Nat):Int))),none,none,none,none,none]).bind (cj .seq)=some (((eF S).filter (du S)).map ofS):=by
  have e1:ev (aa defs (n + 5)) (.call 13 [(.bor 0)]) [some (.val (ofR S)),some (.val (.int ((d + 1:Nat):Int))),none,none,none,none,none]=some (.lst (((eF S).filter (du S)).map ofS)):=ba (vs:=[.val (ofR S)]) (by rw [evA,evA];rfl) et
  rw [evs,e1,evs]
  rfl
 show ∃ v,bc (exs (aa defs (n + 5)) [.forT [2,3] .seq _ aC,.ret _] [some (.val (ofR S)),some (.val (.int ((d + 1:Nat):Int))),none,none,none,none,none])=some v/\_
 rw [av,xA src]
 show ∃ v,bc ((MM.R.back _ _ (aT _ _ [some (.val (ofR S)),some (.val (.int ((d + 1:Nat):Int))),none,none,none,none,none])).andThen _)=some v/\_
 rcases ml n d g ih ((eF S).filter (du S)) none none none none none (λq hq=>oW q (List.mem_filter.mp hq).1) with ⟨hz,y2,y3,y4,y5,y6,e⟩|⟨hz,a,b,p,hq,hF,e⟩
 ·rw [e,jg,aM,av,dS (ci _ _ _),hz]
  exact ⟨.non,rfl,rfl⟩
 ·rw [e,hz]
  obtain ⟨a',b',e',hm⟩:=ca.mp (iR.mp (List.mem_filter.mp hq).1)
  cases e'
  exact ⟨_,rfl,.inr ⟨a,b,p,hm,hF,rfl⟩,_,rfl⟩
theorem qW:∀ (d n:Nat) {S:List (List Int)},aN S->∃ v,aa defs (n + 2 * d + 5) 16 [.val (ofR S),.val (.int (d:Nat))]=some v/\gF (ga srt d S) (FP d S) v
 | 0,n,S,g=>by
  rw [ae (d:=cJ) rfl rfl]
  obtain ⟨v,e1,hv⟩:=vG (n + 2) S
  refine ⟨v,?_,hv⟩
  show bc (exs (aa defs (n + 4)) [.set 2 _,.ite _ _ [],.ret _] [some (.val (ofR S)),some (.val (.int ((0:Nat):Int))),none])=_
  rw [av,ic (ba (vs:=[.val (ofR S)]) (by rw [evA,evA];rfl) e1),aM]
  show bc (exs (aa defs (n + 4)) _ [some (.val (ofR S)),some (.val (.int ((0:Nat):Int))),some (.val v)])=_
  simp [exs,ex,ev,evB]
 | d + 1,n,S,g=>by
  rw [show n + 2 * (d + 1) + 5=(n + 2 * d + 6) + 1 by omega,ae (d:=cJ) rfl rfl]
  obtain ⟨v,e1,hv⟩:=vG (n + 2 * d + 4) S
  show ∃ v,bc (exs (aa defs (n + 2 * d + 6)) [.set 2 _,.ite _ _ [],.ret _] [some (.val (ofR S)),some (.val (.int ((d + 1:Nat):Int))),none])=some v/\_
  rw [av,ic (ba (vs:=[.val (ofR S)]) (by rw [evA,evA];rfl) e1),aM]
  show ∃ w,bc (exs (aa defs (n + 2 * d + 6)) _ [some (.val (ofR S)),some (.val (.int ((d + 1:Nat):Int))),some (.val v)])=some w/\_
  unfold ga
  have eg:ev (aa defs (n + 2 * d + 6)) (.cmp .gt (.bor 1) (.cst (.int 0))) [some (.val (ofR S)),some (.val (.int ((d + 1:Nat):Int))),some (.val v)]=some (.bl true):=by
   rw [pV (x:=.int ((d + 1:Nat):Int)) (y:=.int 0) (by rw [ev];rfl) (ci _ _ _)]
   show some (PV.bl (decide ((0:Int) < ((d + 1:Nat):Int))))=_
   rw [decide_eq_true (by omega)]
  have en:ev (aa defs (n + 2 * d + 6)) (.cmp .isN (.bor 2) (.cst .non)) [some (.val (ofR S)),some (.val (.int ((d + 1:Nat):Int))),some (.val v)]=some (.bl (dM v)):=by
   rw [pV (x:=v) (y:=.non) (by rw [ev];rfl) (ci _ _ _)]
   rfl
  cases hn:ig S with
  | true =>
   unfold gF at hv
   rw [if_pos hn] at hv
   obtain ⟨hF,xs,rfl⟩:=hv
   have ec:ev (aa defs (n + 2 * d + 6)) (.and (.cmp .isN (.bor 2) (.cst .non)) (.cmp .gt (.bor 1) (.cst (.int 0)))) [some (.val (ofR S)),some (.val (.int ((d + 1:Nat):Int))),some (.val (.tup xs))]=some (.bl false):=pU en λ_=>eg
   rw [av,ex,nq ec,fj,if_neg (by decide),exs,aM,av,dS (v:=.tup xs) (by rw [ev];rfl)]
   exact ⟨.tup xs,rfl,Ak hF (d + 1),xs,rfl⟩
  | false =>
   unfold gF at hv
   rw [hn,if_neg (by decide)] at hv
   subst hv
   have ec:ev (aa defs (n + 2 * d + 6)) (.and (.cmp .isN (.bor 2) (.cst .non)) (.cmp .gt (.bor 1) (.cst (.int 0)))) [some (.val (ofR S)),some (.val (.int ((d + 1:Nat):Int))),some (.val .non)]=some (.bl true):=pU en λ_=>eg
   obtain ⟨v,e2,hv⟩:=Am (n + 2 * d) d g λgQ=>qW d n gQ
   rw [av,ex,nq ec,fj,if_pos rfl,av,ic (ba (vs:=[.val (ofR S),.val (.int ((d + 1:Nat):Int))]) (by rw [evA,evA,evA];rfl) e2),aM,exs,aM]
   show ∃ w,bc (exs (aa defs (n + 2 * d + 6)) _ [some (.val (ofR S)),some (.val (.int ((d + 1:Nat):Int))),some (.val v)])=some w/\_
   rw [av,dS (v:=v),Bool.false_or]
   ·exact ⟨v,rfl,hv⟩
   ·unfold gF at hv
    split at hv
    ·obtain ⟨_,xs,rfl⟩:=hv;rw [ev];rfl
    ·subst hv;rw [ev];rfl
theorem oX (n d:Nat) {R:List (List Int)} (g:aN R):∃ v,aa defs (n + 2 * d + 6) 17 [.val (ofR R),.val (.int (d:Nat))]=some v/\gF (lf d R) (FP d (srt (am d R))) v:=by
 rw [ae (d:=kW) rfl rfl]
 obtain ⟨v,e1,hv⟩:=qW d n (fz g d)
 rw [Cd dG d (qV g)] at hv
 refine ⟨v,?_,hv⟩
 have es:=qU (n + 2 * d + 4) R d g.2.2
 show bc (exs (aa defs (n + 2 * d + 5)) [.ret _] [some (.val (ofR R)),some (.val (.int (d:Nat)))])=_
 have s0:ev (aa defs (n + 2 * d + 5)) (.call 11 [(.bor 0),(.bor 1)]) [some (.val (ofR R)),some (.val (.int (d:Nat)))]=some (ofR (srt (am d R))):=ba (vs:=[.val (ofR R),.val (.int (d:Nat))]) (by rw [evA,evA,evA];rfl) es
 rw [av,dS (v:=v)]
 ·rfl
 ·refine ba (vs:=[.val (ofR (srt (am d R))),.val (.int (d:Nat))]) ?_ e1
  rw [evA,s0,evA,evA]
  ·rfl
  ·intro i z;cases z
theorem qX {m:Nat}:∀ {R:List (List Int)},(∀ t ∈ R,t.length <= m)->R.flatten.length <= R.length * m
 | [],_=>by simp
 | t::R,h=>by
  have h1:=h t (.head _)
  have h2:=qX (R:=R) λt ht=>h t (.tail _ ht)
  rw [List.flatten_cons,List.length_append,List.length_cons,Nat.succ_mul]
  omega
noncomputable def wgt (s:List Int):Int:=2 ^ (60 - s.length)
section
variable {α:Type} [DecidableEq α]
end
noncomputable def cc (b:Bool):PySem.Str:=if b=true then "moth" else "weaver"
theorem cM (a b:String):((PySem.Str.ofString a) == (PySem.Str.ofString b))=(a == b):=by
 rw [Bool.eq_iff_iff,beq_iff_eq,beq_iff_eq]
 refine ⟨λh=>?_,λh=>by rw [h]⟩
 rw [PySem.Str.ofString_eq_byList] at h
 unfold PySem.Str.ofStringByList at h
 have h1:(a.toList.map Char.toNat).toArray=(b.toList.map Char.toNat).toArray:=by injection h
 have h2:a.toList.map Char.toNat=b.toList.map Char.toNat:=by simpa using h1
 have key:∀ xs ys:List Char,xs.map Char.toNat=ys.map Char.toNat->xs=ys:=by
  intro xs
  induction xs with
  | nil=>intro ys h;cases ys with|nil=>rfl|cons=>simp at h
  | cons x xs ih=>intro ys h;cases ys with
   | nil=>simp at h
   | cons y ys =>
    simp only [List.map_cons,List.cons.injEq] at h
    rw [ih ys h.2,Char.toNat_inj.mp h.1]
 exact String.toList_inj.mp (key _ _ h2)
noncomputable def vH:Option Int->PV
 | none=>.non
 | some i=>.int i
noncomputable def sub (a b:List Int):Bool:=a.all λx=>decide (x ∈ b)
theorem qY {a b:List Int}:sub a b=true ↔ ∀ x ∈ a,x ∈ b:=by simp [sub]
theorem sr (n:Nat) (m m':MV) (a b:List Int) (hm:(bg (some m)).bind aO=some (a.map .int)) (hm':(bg (some m')).bind aO=some (b.map .int)) (ha:a.length <= 1000) (hb:b.length <= 1000) (hd:(dd b).length <= 60):aa defs (n + 1) 18 [m,m']=some (.bl (sub b a)):=by
 rw [ae (d:=gr) rfl rfl]
 have h:((((dd b).filter λx=>!decide (x ∈ a)).length:Int) == 0)=sub b a:=by
  rw [Bool.eq_iff_iff,beq_iff_eq,qY]
  constructor
  ·intro h x hx
   have h2:(dd b).filter (λx=>!decide (x ∈ a))=[]:=List.eq_nil_of_length_eq_zero (by omega)
   have:=List.filter_eq_nil_iff.mp h2 x (kU.mpr hx)
   simpa using this
  ·intro h
   have h2:(dd b).filter (λx=>!decide (x ∈ a))=[]:=List.filter_eq_nil_iff.mpr λx hx=>by simpa using h x (kU.mp hx)
   rw [h2];rfl
 cases h1:bg (some m) with
 | none=>rw [h1] at hm;cases hm
 | some v =>
  cases h2:bg (some m') with
  | none=>rw [h2] at hm';cases hm'
  | some v' =>
   rw [h1] at hm
   rw [h2] at hm'
   have hm:aO v=some (a.map .int):=hm
   have hm':aO v'=some (b.map .int):=hm'
   have e:ak .lenSetSub [v',v]=some (.int ((dd b).filter λx=>!decide (x ∈ a)).length):=by
    show ((aO v').bind λxs=>(aS xs).bind λns=>(aO v).bind λys=>(aS ys).bind λms=>if ns.length <= 1000/\ms.length <= 1000/\(dd ns).length <= 60 then some (PV.int ((dd ns).filter λn=>!decide (n ∈ ms)).length) else none)=_
    rw [hm',hm]
    simp [cy,ha,hb,hd]
   simp [gr,exs,ex,ev,evs,h1,h2,e,h]
theorem iS (cal:Cal) (a:MV):∀ (R:List (List Int)) (g:List Int->PV) (hg:∀ t,aO (g t)=some (t.map .int)) (acc:List Int) (s:Option MV),acc.length + R.flatten.length <= 10000 ->
  ∃ s',aT (λx ρ'=>exs cal cH (put ρ' 2 (.val x))) (R.map g) [some a,some (.own (acc.map .int)),s]=.next [some a,some (.own ((acc ++ R.flatten).map .int)),s']
 | [],g,hg,acc,s,_=>⟨s,by simp⟩
 | t::R,g,hg,acc,s,h=>by
  rw [List.map_cons,aT]
  rw [List.flatten_cons,List.length_append] at h
  have h2:acc.length + t.length <= 10000:=by omega
  have e:exs cal cH (put [some a,some (.own (acc.map .int)),s] 2 (.val (g t)))=.next [some a,some (.own ((acc ++ t).map .int)),some (.val (g t))]:=by
   simp [cH,exs,ex,ev,hg,h2]
  rw [e]
  obtain ⟨s',e2⟩:=iS cal a R g hg (acc ++ t) (some (.val (g t))) (by rw [List.length_append];omega)
  exact ⟨s',by rw [List.flatten_cons,<- List.append_assoc];exact e2⟩
theorem mn (n:Nat) (m:MV) (ho:∀ xs,m ≠ .own xs) (R:List (List Int)) (g:List Int->PV) (hg:∀ t,aO (g t)=some (t.map .int)) (hp:(bg (some m)).bind aO=some (R.map g)) (hl:R.flatten.length <= 10000):aa defs (n + 1) 0 [m]=some (ofL R.flatten):=by
 rw [ae (d:=dA) rfl rfl]
 obtain ⟨s',e⟩:=iS (aa defs n) m R g hg [] none (by simpa using hl)
 simp only [List.map_nil,List.nil_append] at e
 cases hb:bg (some m) with
 | none=>rw [hb] at hp;cases hp
 | some v =>
  rw [hb] at hp
  have hp:aO v=some (R.map g):=hp
  cases m <;> first|exact absurd rfl (ho _)|simp [dA,exs,ex,ev,evs,bH,hb,hp,e,bD,-List.map_flatten]
theorem mo:∀ l:List Int,(dd l).length <= l.length
 | []=>Nat.le_refl _
 | x::r=>by
  have:=mo r
  rw [dd]
  split
  ·rw [List.length_cons];omega
  ·rw [List.length_cons,List.length_cons];omega
theorem iT:∀ l:List Int,(dd l).length=l.length ↔ l.Nodup
 | []=>by simp [dd]
 | x::r=>by
  have h:=mo r
  have ih:=iT r
  rw [dd,List.nodup_cons,<- ih]
  by_cases q:x ∈ dd r
  ·rw [if_pos q,List.length_cons]
   exact ⟨λz=>by omega,λz=>absurd (kU.mp q) z.1⟩
  ·rw [if_neg q,List.length_cons,List.length_cons]
   exact ⟨λz=>⟨λw=>q (kU.mpr w),by omega⟩,λz=>by omega⟩
theorem An (n:Nat) (l:List Int) (hl:l.length <= 1000):aa defs (n + 1) 1 [.val (ofL l)]=some (.bl (decide l.Nodup)):=by
 rw [ae (d:=d6) rfl rfl]
 have e:ak .lenSet [ofL l]=some (.int (dd l).length):=by
  show ((aO (ofL l)).bind λxs=>(aS xs).bind λns=>if ns.length <= 1000 then some (PV.int (dd ns).length) else none)=_
  rw [jR,Option.bind_some,cy,Option.bind_some,if_pos hl]
 have h:(((dd l).length:Int) == (l.length:Int))=decide l.Nodup:=by
  rw [Bool.eq_iff_iff,beq_iff_eq,decide_eq_true_iff,<- iT]
  omega
 simp [d6,exs,ex,ev,evs,e,h]
section
variable {α:Type} [DecidableEq α]
end
noncomputable def Ce (R:List (List Int)) (a b:Int):Int:=((R.filter λs=>decide (a ∈ s)&&decide (b ∈ s)).length:Int)
noncomputable def Dl (R:List (List Int)) (M:Int):Prop:=0 <= M/\(M=0 \/ ∃ a b,a < b/\(∃ s ∈ R,a ∈ s/\b ∈ s)/\Ce R a b=M)/\∀ a b,a < b->Ce R a b <= M
noncomputable def lx (acc:List Int) (h:Int):List Int:=if h ∈ acc then acc else acc ++ [h]
noncomputable def qZ (R:List (List Int)):List Int:=R.foldl (λacc ts=>ts.foldl lx acc) []
noncomputable def aH (R:List (List Int)):List Int:=sortI (qZ R)
theorem xG {acc:List Int}{h:Int} (hn:acc.Nodup):(lx acc h).Nodup/\∀ x,x ∈ lx acc h ↔ x ∈ acc \/ x=h:=by
 unfold lx
 by_cases q:h ∈ acc
 ·rw [if_pos q]
  exact ⟨hn,λx=>⟨.inl,λz=>z.elim id λe=>e ▸ q⟩⟩
 ·rw [if_neg q]
  refine ⟨List.nodup_append.mpr ⟨hn,by simp,λx hx y hy=>by rw [List.mem_singleton.mp hy];exact λz=>q (z ▸ hx)⟩,λx=>?_⟩
  rw [List.mem_append,List.mem_singleton]
theorem oY:∀ (ts acc:List Int),acc.Nodup->(ts.foldl lx acc).Nodup/\∀ x,x ∈ ts.foldl lx acc ↔ x ∈ acc \/ x ∈ ts
 | [],acc,hn=>⟨hn,λx=>by simp⟩
 | t::ts,acc,hn=>by
  obtain ⟨h1,h2⟩:=xG (h:=t) hn
  obtain ⟨h3,h4⟩:=oY ts (lx acc t) h1
  refine ⟨h3,λx=>?_⟩
  rw [List.foldl_cons,h4,h2,List.mem_cons,or_assoc]
theorem eW:∀ (R:List (List Int)) (acc:List Int),acc.Nodup->(R.foldl (λacc ts=>ts.foldl lx acc) acc).Nodup/\∀ x,x ∈ R.foldl (λacc ts=>ts.foldl lx acc) acc ↔ x ∈ acc \/ ∃ ts ∈ R,x ∈ ts
 | [],acc,hn=>⟨hn,λx=>by simp⟩
 | t::ts,acc,hn=>by
  obtain ⟨h1,h2⟩:=oY t acc hn
  obtain ⟨h3,h4⟩:=eW ts (t.foldl lx acc) h1
  refine ⟨h3,λx=>?_⟩
  rw [List.foldl_cons,h4,h2]
  simp [or_assoc]
theorem jx {R:List (List Int)}{x:Int}:x ∈ aH R ↔ ∃ ts ∈ R,x ∈ ts:=by
 unfold aH
 rw [b8]
 have:=(eW R [] List.nodup_nil).2 x
 unfold qZ
 rw [this]
 simp
theorem k5 (R:List (List Int)):(aH R).Pairwise (· < ·):=kT (eW R [] List.nodup_nil).1
theorem iU {R:List (List Int)} (g:∀ ts ∈ R,dq ts):dq (aH R):=⟨k5 R,λh hh=>by
 obtain ⟨ts,h1,h2⟩:=jx.mp hh
 exact (g ts h1).2 h h2⟩
theorem oZ (R:List (List Int)):sortI (dd R.flatten)=aH R:=by
 refine sortI_of_perm ((List.perm_ext_iff_of_nodup (dd_nodup _) (eW R [] List.nodup_nil).1).mpr λx=>?_)
 rw [kU,(eW R [] List.nodup_nil).2 x,List.mem_flatten]
 simp
theorem pX (n:Nat) (R:List (List Int)) (g:∀ ts ∈ R,dq ts) (hl:R.flatten.length <= 1000):aa defs (n + 2) 5 [.val (ofR R)]=some (ofL (aH R)):=by
 rw [ae (d:=fk) rfl rfl]
 have e:=mn n (.val (ofR R)) (λ_ z=>by cases z) R ofS (λ_=>rfl) rfl (by omega)
 have hd:(dd R.flatten).length < 64:=by
  have:=dF (iU g)
  rw [<- oZ,sortI_len] at this
  omega
 simp [fk,exs,ex,ev,evs,evA,e,-List.map_flatten,cy,-List.length_flatten,hl,hd,oZ]
noncomputable def Cf (R:List (List Int)):Prop:=∃ M,Dl R M/\1152921504606846976 * M * (((aH R).length:Int) / 2) < 4 * (R.map wgt).sum
noncomputable def hv (R:List (List Int)):Bool:=@decide (Cf R) (Classical.propDecidable _)
noncomputable def bhd (h:Bool) (R:List (List Int)):Option Int->List (List Int)
 | none=>R
 | some k=>if h=true then pW k R else gE k R
theorem xH (n:Nat) (h:Bool):aa defs (n + 1) 8 [.val (.str (cc h))]=some (.str (cc (!h))):=by
 rw [ae (d:=b9) rfl rfl]
 cases h <;> simp [b9,exs,ex,ev,evs,evB,evA,cM,cc]
theorem vI (n:Nat) (R:List (List Int)) (g:aN R) (h:Bool) (r:Option Int):aa defs (n + 3) 9 [.val (ofR R),.val (.str (cc h)),.val (vH r)]=some (ofR (bhd h R r)):=by
 rw [ae (d:=cI) rfl rfl]
 cases r with
 | none=>simp [cI,exs,ex,ev,evs,evB,evA,vH,bhd,dM]
 | some k =>
  have e1:=mi n R k g
  have e2:=λn=>oU n R k (by have:=g.2.2;omega)
  cases h <;> simp [cI,exs,ex,ev,evs,evB,evA,vH,bhd,cM,cc,dM,e1,e2]
theorem gM {n:Nat}{v:PV}{R:PV}{t:PySem.Str}{r:PV} (h:aa defs n 36 [.val v,.val R,.val (.str t)]=some r):aa defs (n + 1) 35 [.val v,.val R,.val (.str t),.val (.str "moth")]=some r:=by
 rw [ae (d:=jh) rfl rfl]
 simp [jh,exs,ex,ev,evs,evB,evA,cM,h]
theorem gW {n:Nat}{v:PV}{R:PV}{t:PySem.Str}{r:PV} (h:aa defs n 37 [.val v,.val R,.val (.str t)]=some r):aa defs (n + 1) 35 [.val v,.val R,.val (.str t),.val (.str "weaver")]=some r:=by
 rw [ae (d:=jh) rfl rfl]
 simp [jh,exs,ex,ev,evs,evB,evA,cM,h]
theorem q_ (n:Nat) (R:List (List Int)) (t h:Bool):aa defs (n + 3) 35 [.val (.tup [.str "whole"]),.val (ofR R),.val (.str (cc t)),.val (.str (cc h))]=some (.bl (!h&&decide ([] ∈ R))):=by
 cases h with
 | true =>
  refine gM ?_
  rw [ae (d:=aK) rfl rfl]
  cases t <;> simp [aK,exs,ex,ev,evs,evB,evA,place,cM,cc]
 | false =>
  refine gW ?_
  rw [ae (d:=aw) rfl rfl]
  simp [aw,exs,ex,ev,evs,evB,evA,place,cM,kZ]
theorem vJ {n:Nat}{R:List (List Int)} (g:aN R) (k:Bool) (r:Option Int) {p:PV}{b:Bool} (t h:Bool) (hb:aa defs (n + 3) 35 [.val p,.val (ofR (bhd k R r)),.val (.str (cc (!k))),.val (.str (cc k))]=some (.bl b)) :
  aa defs (n + 6) 35 [.val (.tup [.str (if k=true then "bite" else "knot"),vH r,p]),.val (ofR R),.val (.str (cc t)),.val (.str (cc h))]=some (.bl ((h == k)&&(t == k)&&b)):=by
 have e1:aa defs (n + 4) 38 [.val (.tup [.str (if k=true then "bite" else "knot"),vH r,p]),.val (ofR R),.val (.str (cc k))]=some (.bl b):=by
  rw [ae (d:=cK) rfl rfl]
  have e2:=vI n R g k r
  have e3:=xH (n + 2) k
  simp [cK,exs,ex,ev,evs,evB,evA,place,e2,e3,hb]
 cases h with
 | true =>
  refine gM ?_
  rw [ae (d:=aK) rfl rfl]
  cases k <;> cases t <;> simp [cc] at e1 <;> simp [aK,exs,ex,ev,evs,evB,evA,place,cM,cc,e1]
 | false =>
  refine gW ?_
  rw [ae (d:=aw) rfl rfl]
  cases k <;> cases t <;> simp [cc] at e1 <;> simp [aw,exs,ex,ev,evs,evB,evA,place,cM,cc,e1]
theorem xI (n:Nat) (Rs:List (List (List Int))) (hg:∀ R ∈ Rs,(∀ t ∈ R,dq t)/\R.flatten.length <= 1000) (hl:Rs.length <= 16):aa defs (n + 3) 25 [.val (.lst (Rs.map ofR))]=some (.bl (decide (Rs.map aH).flatten.Nodup)):=by
 rw [ae (d:=fY) rfl rfl]
 have hf:∀ Rs:List (List (List Int)),(∀ R ∈ Rs,(∀ t ∈ R,dq t)/\R.flatten.length <= 1000)->(Rs.map aH).flatten.length <= 60 * Rs.length:=λRs=>by
  induction Rs with
  | nil=>intro _;simp
  | cons R Rs ih =>
   intro hg
   have h1:=dF (iU (hg R (.head _)).1)
   have h2:=ih λR hR=>hg R (.tail _ hR)
   rw [List.map_cons,List.flatten_cons,List.length_append,List.length_cons]
   omega
 have hF:=hf Rs hg
 have c1:ev (aa defs (n + 2)) (.comp .seq [(.bor 0)] [] (.cst (.bl true)) (.call 5 [(.bor 0)])) [some (.val (.lst (Rs.map ofR)))]=some (.lst ((Rs.map aH).map ofL)):=by
  refine (gw (g:=ofR) (h:=λR=>ofL (aH R)) (vs:=[.lst (Rs.map ofR)]) (by simp [evs,ev]) rfl (by omega) λR hR=>?_).trans (by rw [List.map_map];rfl)
  exact ba (vs:=[.val (ofR R)]) (by simp [evA,cA]) (pX n R (hg R hR).1 (hg R hR).2)
 have e1:=mn (n + 1) (.val (.lst ((Rs.map aH).map ofL))) (λ_ z=>by cases z) (Rs.map aH) ofL (λ_=>rfl) rfl (by omega)
 have e2:=An (n + 1) (Rs.map aH).flatten (by omega)
 show bc (exs (aa defs (n + 2)) [.ret _] [some (.val (.lst (Rs.map ofR)))])=_
 rw [av,dS (oT (λ_ z=>by cases z) (oT (λ_ z=>by cases z) c1 e1) e2)]
 rfl
theorem xJ {t:List Int} (h:dq t):(dd t).length <= 60:=by rw [yl (fW h.1)];exact dF h
noncomputable def pY:Option Nat->PV
 | none=>.non
 | some i=>.int i
noncomputable def o3 (s:List Int) (R:List (List Int)):Option Nat:=R.findIdx? λt=>sub t s
theorem k6 (n:Nat) (s:List Int) (a b:Option MV) (hs:s.length <= 1000) (ha:a=some (.val (ofS s))):∀ (R:List (List Int)) (k:Nat) (x y:Option MV),(∀ t ∈ R,dq t) ->
  (∀ i,o3 s R=some i->aT (λx ρ'=>db (dY [2,3] x ρ') λρ''=>exs (aa defs (n + 1)) aU ρ'') (bC k (R.map ofS)) [a,b,x,y]=.ret (.int ((k + i:Nat):Int))) /\
  (o3 s R=none->∃ x' y',aT (λx ρ'=>db (dY [2,3] x ρ') λρ''=>exs (aa defs (n + 1)) aU ρ'') (bC k (R.map ofS)) [a,b,x,y]=.next [a,b,x',y'])
 | [],k,x,y,_=>⟨λi h=>(by cases h),λ_=>⟨x,y,rfl⟩⟩
 | t::R,k,x,y,h=>by
  subst ha
  have e:=sr n (.val (ofS s)) (.val (ofS t)) s t rfl rfl hs (by have:=dF (h t (.head _));omega) (xJ (h t (.head _)))
  rw [List.map_cons,bC,aT]
  unfold o3
  rw [List.findIdx?_cons]
  cases hp:sub t s with
  | true =>
   rw [hp] at e
   have e2:(db (dY [2,3] (.tup [.int (k:Nat),ofS t]) [some (.val (ofS s)),b,x,y]) λρ''=>exs (aa defs (n + 1)) aU ρ'')=.ret (.int (k:Nat)):=by
    simp [dY,ku,aU,exs,ex,ev,evs,evB,evA,e]
   rw [e2]
   exact ⟨λi hi=>(by simp at hi;subst hi;rfl),λhi=>(by simp at hi)⟩
  | false =>
   rw [hp] at e
   have e2:(db (dY [2,3] (.tup [.int (k:Nat),ofS t]) [some (.val (ofS s)),b,x,y]) λρ''=>exs (aa defs (n + 1)) aU ρ'')=.next [some (.val (ofS s)),b,some (.val (.int (k:Nat))),some (.val (ofS t))]:=by
    simp [dY,ku,aU,exs,ex,ev,evs,evB,evA,e]
   rw [e2]
   obtain ⟨h1,h2⟩:=k6 n s (some (.val (ofS s))) b hs rfl R (k + 1) (some (.val (.int (k:Nat)))) (some (.val (ofS t))) λu hu=>h u (.tail _ hu)
   constructor
   ·intro i hi
    simp only [Bool.false_eq_true,if_false,Option.map_eq_some_iff] at hi
    obtain ⟨j,hj,rfl⟩:=hi
    rw [show k + (j + 1)=k + 1 + j by omega]
    exact h1 j hj
   ·intro hi
    simp only [Bool.false_eq_true,if_false,Option.map_eq_none_iff] at hi
    exact h2 hi
theorem xK (n:Nat) (s:List Int) (R:List (List Int)) (hs:s.length <= 1000) (g:∀ t ∈ R,dq t):aa defs (n + 2) 19 [.val (ofS s),.val (ofR R)]=some (pY (o3 s R)):=by
 rw [ae (d:=cn) rfl rfl]
 obtain ⟨h1,h2⟩:=k6 n s (some (.val (ofS s))) (some (.val (ofR R))) hs rfl R 0 none none g
 cases hf:o3 s R with
 | some i =>
  have e:=h1 i hf
  rw [Nat.zero_add] at e
  simp [cn,exs,ex,ev,evs,cj,bH,e,pY]
 | none =>
  obtain ⟨x',y',e⟩:=h2 hf
  simp [cn,exs,ex,ev,evs,cj,bH,e,pY,bD]
noncomputable def xL (A B:List (List Int)):List (Option Nat):=A.map λs=>o3 s B
theorem su (n:Nat) (A B:List (List Int)) (ga:aN A) (gb:aN B):aa defs (n + 3) 20 [.val (ofR A),.val (ofR B)]=some (.lst ((xL A B).map pY)):=by
 rw [ae (d:=gu) rfl rfl]
 have hl:A.length <= 10000:=by have:=ga.2.2;omega
 simp [gu,exs,ex,ev,evs,hl]
 rw [hV (h:=λs=>pY (o3 s B))]
 ·simp [xL]
 ·intro c _
  simp [ev]
 ·intro c hc
  simp [ev,evA,cA,xK n c B (by have:=dF (ga.1 c hc);omega) gb.1]
theorem o4:∀ F:List (Option Nat),isIn .non (F.map pY)=some (decide (none ∈ F))
 | []=>rfl
 | o::F=>by
  have ih:=o4 F
  unfold isIn at ih ⊢
  rw [List.map_cons,inL,ih]
  cases o <;> simp [pY,eqF]
noncomputable def below (A B:List (List Int)):Bool:=decide (none ∉ xL A B)
theorem k7 (n:Nat) (A B:List (List Int)) (ga:aN A) (gb:aN B):aa defs (n + 4) 21 [.val (ofR A),.val (ofR B)]=some (.bl (below A B)):=by
 rw [ae (d:=fu) rfl rfl]
 simp [fu,exs,ex,ev,evs,evA,su n A B ga gb,o4,below]
theorem vK {n:Nat}{A B R:List (List Int)} (gA:aN A) (gB:aN B) (g:aN R) (fA:A.flatten.length <= 1000) (fB:B.flatten.length <= 1000) {p q:PV}{x y:Bool} (t h:Bool)
  (hp:aa defs (n + 4) 35 [.val p,.val (ofR A),.val (.str "weaver"),.val (.str "weaver")]=some (.bl x)) (hq:aa defs (n + 4) 35 [.val q,.val (ofR B),.val (.str "weaver"),.val (.str "weaver")]=some (.bl y)) :
  aa defs (n + 7) 35 [.val (.tup [.str "either",ofR A,p,ofR B,q]),.val (ofR R),.val (.str (cc t)),.val (.str (cc h))]=some (.bl (!h&&t&&(decide (aH A ++ aH B).Nodup&&below A R&&below B R&&(x&&y)))):=by
 cases h with
 | true =>
  refine gM ?_
  rw [ae (d:=aK) rfl rfl]
  cases t <;> simp [aK,exs,ex,ev,evs,evB,evA,place,cM,cc]
 | false =>
  refine gW ?_
  cases t with
  | false =>
   rw [ae (d:=aw) rfl rfl]
   simp [aw,exs,ex,ev,evs,evB,evA,place,cM,cc]
  | true =>
   have e0:=xI (n + 1) [A,B] (λR hR=>by
    rcases List.mem_cons.mp hR with rfl|hR
    ·exact ⟨gA.1,fA⟩
    ·rcases List.mem_cons.mp hR with rfl|hR
     ·exact ⟨gB.1,fB⟩
     ·cases hR) (by simp)
   simp only [List.map_cons,List.map_nil,List.flatten_cons,List.flatten_nil,List.append_nil] at e0
   have e1:=k7 n A R gA g
   have e2:=k7 n B R gB g
   have e3:aa defs (n + 5) 42 [.val (.tup [.str "either",ofR A,p,ofR B,q]),.val (ofR R)]=some (.bl (decide (aH A ++ aH B).Nodup&&below A R&&below B R&&(x&&y))):=by
    rw [ae (d:=b_) rfl rfl]
    generalize decide (aH A ++ aH B).Nodup=b0 at e0 ⊢
    generalize below A R=b1 at e1 ⊢
    generalize below B R=b2 at e2 ⊢
    cases b0 <;> cases b1 <;> cases b2 <;> cases x <;> simp [b_,exs,ex,ev,evs,evB,evA,place,e0,e1,e2,hp,hq]
   rw [ae (d:=aw) rfl rfl]
   simp [aw,exs,ex,ev,evs,evB,evA,place,cM,cc,e3]
theorem sw {s:List Int}{R:List (List Int)} (h:∃ t ∈ R,sub t s=true):o3 s R ≠ none:=λz=>by
 obtain ⟨t,ht,q⟩:=h
 have:=List.findIdx?_eq_none_iff.mp z t ht
 rw [q] at this
 cases this
theorem o5 {A B:List (List Int)} (h:∀ s ∈ A,∃ t ∈ B,sub t s=true):below A B=true:=by
 unfold below xL
 rw [decide_eq_true_iff,List.mem_map]
 rintro ⟨s,hs,e⟩
 exact sw (h s hs) e
theorem k8 {h:Int}{R:List (List Int)}{u:List Int}:u ∈ gE h R ↔ ∃ s ∈ R,drp h s=u:=by
 unfold gE
 rw [cX,List.mem_map]
theorem o6 (s:List Int):sub s s=true:=qY.mpr λ_ h=>h
theorem vL {b:Int} (h0:0 <= b) (h1:b <= 59):aN [[b]]:=⟨λt ht=>by
 rw [List.mem_singleton.mp ht]
 exact ⟨List.pairwise_singleton _ _,λx hx=>by rw [List.mem_singleton.mp hx];exact ⟨h0,h1⟩⟩,List.pairwise_singleton _ _,by simp⟩
theorem sx (b:Int):aH [[b]]=[b]:=rfl
theorem pZ {d:Nat} (hd:d <= 15) {S:List (List Int)} (g:aN (srt (am d S))):(srt (am d S)).flatten.length <= 1000:=by
 have h1:=qX (R:=srt (am d S)) (m:=d + 1) λt ht=>(aG.mp ((dG _ t).mp ht)).2
 have h2:=g.2.2
 have h3:(srt (am d S)).length * (d + 1) <= 60 * 16:=Nat.mul_le_mul h2 (by omega)
 omega
theorem k9 (n:Nat) {R:List (List Int)} (g:aN R) {a:Int} (h:[a] ∈ R):aa defs (n + 6) 35 [.val (jw a),.val (ofR R),.val (.str "weaver"),.val (.str "weaver")]=some (.bl true):=by
 have hm:[] ∈ gE a R:=k8.mpr ⟨[a],h,by simp [drp]⟩
 have e1:=q_ n (bhd false R (some a)) true false
 rw [show decide ([] ∈ bhd false R (some a))=true from decide_eq_true hm] at e1
 exact vJ (n:=n) g false (some a) false false e1
theorem o7 (n:Nat) {S R:List (List Int)} (g:aN R) (hs:∀ s ∈ S,s ∈ R) {v:PV} (h:FP0 S v):aa defs (n + 6) 35 [.val v,.val (ofR R),.val (.str "weaver"),.val (.str "weaver")]=some (.bl true):=by
 rcases h with ⟨h0,rfl⟩|⟨a,ha,rfl⟩
 ·have e1:=q_ (n + 3) R false false
  rw [decide_eq_true (hs _ h0)] at e1
  exact e1
 ·exact k9 n g (hs _ ha)
theorem ra:∀ (d n:Nat) {S R:List (List Int)}{v:PV},d <= 15->aN S->aN R->(∀ s ∈ S,s ∈ R)->FP d S v->aa defs (n + 6 * d + 6) 35 [.val v,.val (ofR R),.val (.str "weaver"),.val (.str "weaver")]=some (.bl true)
 | 0,n,S,R,v,_,gS,g,hs,h=>o7 n g hs h
 | d + 1,n,S,R,v,hd,gS,g,hs,h=>by
  rcases h with h|⟨a,b,p,hab,hp,rfl⟩
  ·have:=o7 (n + 6 * (d + 1)) g hs h
   exact this
  ·have gL:=fz (k4 gS [a,b]) d
   have ih:=ra d n (by omega) gL gL (λ_ h=>h) hp
   have hm:[a,b] ∈ S \/ [b,a] ∈ S:=hab
   have hb:(0 <= b/\b <= 59)/\a ≠ b:=by
    rcases hm with h|h
    ·have q:=gS.1 _ h
     have q1:a < b:=by simpa using q.1
     exact ⟨q.2 b (by simp),by omega⟩
    ·have q:=gS.1 _ h
     have q1:b < a:=by simpa using q.1
     exact ⟨q.2 b (by simp),by omega⟩
   have gb:=vL hb.1.1 hb.1.2
   have k1:aa defs (n + 6 * d + 2 + 4) 35 [.val (jw b),.val (ofR [[b]]),.val (.str "weaver"),.val (.str "weaver")]=some (.bl true):=k9 (n + 6 * d) gb (List.mem_singleton.mpr rfl)
   have gK:=jj (h:=a) g
   have e1:=vK (n:=n + 6 * d + 2) gb gL gK (by simp) (pZ (by omega) gL) true false k1 ih
   have b1:below [[b]] (gE a R)=true:=o5 λs hs'=>by
    rw [List.mem_singleton.mp hs']
    refine ⟨[b],k8.mpr ?_,o6 _⟩
    rcases hm with h|h
    ·exact ⟨[a,b],hs _ h,by simp [drp,Ne.symm hb.2]⟩
    ·exact ⟨[b,a],hs _ h,by simp [drp,Ne.symm hb.2]⟩
   have b2:below (srt (am d (aB [a,b] S))) (gE a R)=true:=o5 λs hs'=>by
    obtain ⟨⟨u,hu,e⟩,_⟩:=cz.mp (aG.mp ((dG _ s).mp hs')).1
    exact ⟨s,k8.mpr ⟨u,hs _ hu,e⟩,o6 _⟩
   have b0:(aH [[b]] ++ aH (srt (am d (aB [a,b] S)))).Nodup:=by
    rw [sx]
    refine List.nodup_cons.mpr ⟨λz=>?_,fW (k5 _)⟩
    obtain ⟨t,ht,hbt⟩:=jx.mp z
    exact (cz.mp (aG.mp ((dG _ t).mp ht)).1).2 hbt
   rw [b1,b2,decide_eq_true b0] at e1
   have e2:=vJ (n:=n + 6 * d + 6) g false (some a) false false e1
   exact e2
noncomputable def Ao (P:Int->Bool) (s:List Int):Prop:=∃ a b c,(a ∈ s/\b ∈ s/\c ∈ s)/\(a ≠ b/\a ≠ c/\b ≠ c)/\P a=false/\P b=false/\P c=false
theorem k_ {P:Int->Bool}:∀ {s:List Int},Ao P s->3 <= s.length
 | [],⟨a,_,_,h,_⟩=>by cases h.1
 | [x],⟨a,b,c,⟨h1,h2,_⟩,⟨n,_⟩,_⟩=>absurd ((List.mem_singleton.mp h1).trans (List.mem_singleton.mp h2).symm) n
 | [x,y],⟨a,b,c,⟨h1,h2,h3⟩,⟨n1,n2,n3⟩,_⟩=>by
  simp only [List.mem_cons,List.not_mem_nil,or_false] at h1 h2 h3
  rcases h1 with rfl|rfl <;> rcases h2 with rfl|rfl <;> rcases h3 with rfl|rfl <;> first|exact absurd rfl n1|exact absurd rfl n2|exact absurd rfl n3
 | _::_::_::_,_=>by simp
noncomputable def xM (P:Int->Bool) (R A:List (List Int)):Prop:=∀ s ∈ R,(s ∈ A/\∀ x ∈ s,P x=true) \/ Ao P s
theorem p0 {P:Int->Bool}{R A:List (List Int)} (h:xM P R A) {a b:Int} (ha:P a=true):xM P (aB [a,b] R) (aB [a,b] A):=λu hu=>by
 obtain ⟨⟨s,hs,rfl⟩,h2⟩:=cz.mp hu
 rcases h s hs with ⟨h1,h3⟩|⟨x,y,z,⟨m1,m2,m3⟩,n,p1,p2,p3⟩
 ·exact .inl ⟨cz.mpr ⟨⟨s,h1,rfl⟩,h2⟩,λx hx=>h3 x (f_.mp hx).1⟩
 ·have ne:∀ {x:Int},P x=false->x ≠ a:=λp e=>by rw [e,ha] at p;cases p
  exact .inr ⟨x,y,z,⟨f_.mpr ⟨m1,ne p1⟩,f_.mpr ⟨m2,ne p2⟩,f_.mpr ⟨m3,ne p3⟩⟩,n,p1,p2,p3⟩
theorem nr {P:Int->Bool}:∀ {d:Nat}{R A:List (List Int)},xM P R A->lf d R=true->lf d A=true
 | 0,R,A,h,z=>by
  obtain ⟨s,hs,hl⟩:=bX.mp z
  rcases h s hs with h1|h1
  ·exact bX.mpr ⟨s,h1.1,hl⟩
  ·have:=k_ h1;omega
 | d + 1,R,A,h,z=>by
  unfold lf at z ⊢
  rcases Bool.or_eq_true_iff.mp z with z|z
  ·obtain ⟨s,hs,hl⟩:=bX.mp z
   rcases h s hs with h1|h1
   ·exact Bool.or_eq_true_iff.mpr (.inl (bX.mpr ⟨s,h1.1,hl⟩))
   ·have:=k_ h1;omega
  ·obtain ⟨q,hq,hz⟩:=List.any_eq_true.mp z
   obtain ⟨a,b,rfl,hab⟩:=ca.mp hq
   have two:∀ {x y:Int},[x,y] ∈ R->[x,y] ∈ A/\∀ u ∈ [x,y],P u=true:=λm=>by
    rcases h _ m with h1|h1
    ·exact h1
    ·have:=k_ h1;simp at this
   have hA:([a,b] ∈ A \/ [b,a] ∈ A)/\P a=true:=by
    rcases hab with m|m
    ·exact ⟨.inl (two m).1,(two m).2 a (by simp)⟩
    ·exact ⟨.inr (two m).1,(two m).2 a (by simp)⟩
   exact Bool.or_eq_true_iff.mpr (.inr (List.any_eq_true.mpr ⟨[a,b],ca.mpr ⟨a,b,rfl,hA.1⟩,nr (p0 h hA.2) hz⟩))
noncomputable def mpI (sh x:Int):Int:=(7 * x + sh) % 60
noncomputable def mp (sh:Int) (s:List Int):List Int:=sortI (s.map (mpI sh))
noncomputable def eX (n:Nat):List Int:=(List.range n).map λ(k:Nat)=>(k:Int)
noncomputable def a_ (d:Nat) (last:Int):List (List Int):=(List.range d).map (λ(k:Nat)=>eX (k + 1) ++ [10 + (k:Int)]) ++ [eX d ++ [last]]
noncomputable def Ap (p:Nat × Int) (sh:Nat) (e:Nat):Bool:=lf e ((a_ p.1 p.2).map (mp (sh:Int)))
noncomputable def okP (p:Nat × Int) (sh:Nat):Bool:=!Ap p sh (p.1 - 1)&&(Ap p sh p.1 == (p.2 == 20))
theorem Aq:((List.range 60).all λsh=>[((1:Nat),(20:Int)),(2,20),(3,20),(1,10),(2,10),(2,11),(3,10),(3,11),(3,12)].all λp=>okP p sh)=true:=by decide +kernel
theorem gc {sh y:Int} (h0:0 <= y) (h1:y <= 59):43 * (mpI sh y - sh) % 60=y:=by
 unfold mpI
 omega
theorem Ar (sh y:Int):0 <= mpI sh y/\mpI sh y <= 59:=by
 unfold mpI
 omega
noncomputable def pB (sh x:Int):Bool:=decide (43 * (x - sh) % 60 < 30)
theorem ym {sh y:Int} (h0:0 <= y) (h1:y <= 59):pB sh (mpI sh y)=decide (y < 30):=by
 unfold pB
 rw [gc h0 h1]
theorem nt {sh:Int}{s:List Int} (hn:s.Nodup) (hb:∀ x ∈ s,0 <= x/\x <= 59):dq (mp sh s):=by
 refine ⟨kT ?_,λx hx=>?_⟩
 ·refine List.pairwise_map.mpr (hn.imp_of_mem λ{a b} ha hb' hab e=>hab ?_)
  rw [<- gc (sh:=sh) (hb a ha).1 (hb a ha).2,e,gc (hb b hb').1 (hb b hb').2]
 ·obtain ⟨y,_,rfl⟩:=List.mem_map.mp (b8.mp hx)
  exact Ar sh y
theorem p5 {sh x:Int}{s:List Int} (h:x ∈ s):mpI sh x ∈ mp sh s:=b8.mpr (List.mem_map.mpr ⟨x,h,rfl⟩)
theorem As {sh:Int}{s:List Int} (hb:∀ x ∈ s,0 <= x/\x <= 59) (h:∃ a b c,(a ∈ s/\b ∈ s/\c ∈ s)/\(a ≠ b/\a ≠ c/\b ≠ c)/\30 <= a/\30 <= b/\30 <= c):Ao (pB sh) (mp sh s):=by
 obtain ⟨a,b,c,⟨m1,m2,m3⟩,⟨n1,n2,n3⟩,l1,l2,l3⟩:=h
 have ne:∀ {x y:Int},x ∈ s->y ∈ s->x ≠ y->mpI sh x ≠ mpI sh y:=λ{x y} hx hy n e=>n (by
  rw [<- gc (sh:=sh) (hb x hx).1 (hb x hx).2,e,gc (hb y hy).1 (hb y hy).2])
 have out:∀ {x:Int},x ∈ s->30 <= x->pB sh (mpI sh x)=false:=λ{x} hx l=>by
  rw [ym (hb x hx).1 (hb x hx).2]
  exact decide_eq_false (by omega)
 exact ⟨_,_,_,⟨p5 m1,p5 m2,p5 m3⟩,⟨ne m1 m2 n1,ne m1 m3 n2,ne m2 m3 n3⟩,out m1 l1,out m2 l2,out m3 l3⟩
theorem Cg {sh:Int}{s:List Int} (hb:∀ x ∈ s,0 <= x/\x < 30):∀ x ∈ mp sh s,pB sh x=true:=λx hx=>by
 obtain ⟨y,hy,rfl⟩:=List.mem_map.mp (b8.mp hx)
 rw [ym (hb y hy).1 (by have:=(hb y hy).2;omega)]
 exact decide_eq_true (hb y hy).2
theorem lb {n:Nat}{x:Int}:x ∈ eX n ↔ 0 <= x/\x < n:=by
 unfold eX
 rw [List.mem_map]
 constructor
 ·rintro ⟨k,hk,rfl⟩
  have:=List.mem_range.mp hk
  omega
 ·exact λh=>⟨x.toNat,List.mem_range.mpr (by omega),by omega⟩
theorem xN (n:Nat):(eX n).Nodup:=by
 unfold eX
 exact List.pairwise_map.mpr (List.nodup_range.imp λh e=>h (by omega))
theorem vM {n:Nat}{x:Int} (h:(n:Int) <= x):(eX n ++ [x]).Nodup:=by
 refine List.nodup_append.mpr ⟨xN n,by simp,λa ha b hb e=>?_⟩
 have:=(lb.mp ha).2
 rw [List.mem_singleton.mp hb] at e
 omega
theorem o8 {d:Nat}{last:Int} (hd:d <= 3) (h1:10 <= last) (h2:last <= 20):∀ s ∈ a_ d last,s.Nodup/\(∀ x ∈ s,0 <= x/\x < 30)/\s.length <= 4:=λs hs=>by
 rcases List.mem_append.mp hs with hs|hs
 ·obtain ⟨k,hk,rfl⟩:=List.mem_map.mp hs
  have hk:=List.mem_range.mp hk
  refine ⟨vM (by omega),λx hx=>?_,by simp [eX];omega⟩
  rcases List.mem_append.mp hx with hx|hx
  ·have:=lb.mp hx;omega
  ·rw [List.mem_singleton.mp hx];omega
 ·rw [List.mem_singleton.mp hs]
  refine ⟨vM (by omega),λx hx=>?_,by simp [eX];omega⟩
  rcases List.mem_append.mp hx with hx|hx
  ·have:=lb.mp hx;omega
  ·rw [List.mem_singleton.mp hx];omega
structure Mo (s:List Int):Prop where
 nd:s.Nodup
 len:s.length <= 9
 bnd:∀ x ∈ s,0 <= x/\x <= 59
 out:∃ a b c,(a ∈ s/\b ∈ s/\c ∈ s)/\(a ≠ b/\a ≠ c/\b ≠ c)/\30 <= a/\30 <= b/\30 <= c
theorem vN {d:Nat}{last:Int}{sh:Nat} (hp:(d,last) ∈ [((1:Nat),(20:Int)),(2,20),(3,20),(1,10),(2,10),(2,11),(3,10),(3,11),(3,12)]) (hsh:sh < 60) {M:List (List Int)} (hM:∀ s ∈ M,Mo s) (hl:M.length <= 50) :
  aN (sortT ((a_ d last ++ M).map (mp (sh:Int))))/\lf (d - 1) (sortT ((a_ d last ++ M).map (mp (sh:Int))))=false/\lf d (sortT ((a_ d last ++ M).map (mp (sh:Int))))=(last == 20):=by
 have hb:d <= 3/\10 <= last/\last <= 20:=by
  simp only [List.mem_cons,List.not_mem_nil,or_false,Prod.mk.injEq] at hp
  omega
 have hP:=o8 hb.1 hb.2.1 hb.2.2
 have g:aN (sortT ((a_ d last ++ M).map (mp (sh:Int)))):=by
  refine ⟨λt ht=>?_,sortT_rises _,?_⟩
  ·obtain ⟨s,hs,rfl⟩:=List.mem_map.mp (cX.mp ht)
   rcases List.mem_append.mp hs with hs|hs
   ·obtain ⟨a,b,_⟩:=hP s hs
    exact nt a λx hx=>⟨(b x hx).1,by have:=(b x hx).2;omega⟩
   ·exact nt (hM s hs).nd (hM s hs).bnd
  ·rw [sortT_len,List.length_map,List.length_append]
   simp [a_]
   omega
 have ok:=List.all_eq_true.mp (List.all_eq_true.mp Aq sh (List.mem_range.mpr hsh)) _ hp
 unfold okP at ok
 rw [Bool.and_eq_true,Bool.not_eq_true',beq_iff_eq] at ok
 unfold Ap at ok
 have ex:xM (pB (sh:Int)) (sortT ((a_ d last ++ M).map (mp (sh:Int)))) ((a_ d last).map (mp (sh:Int))):=λt ht=>by
  obtain ⟨s,hs,rfl⟩:=List.mem_map.mp (cX.mp ht)
  rcases List.mem_append.mp hs with hs|hs
  ·exact .inl ⟨List.mem_map.mpr ⟨s,hs,rfl⟩,Cg (hP s hs).2.1⟩
  ·exact .inr (As (hM s hs).bnd (hM s hs).out)
 refine ⟨g,?_,?_⟩
 ·cases h:lf (d - 1) (sortT ((a_ d last ++ M).map (mp (sh:Int)))) with
  | false=>rfl
  | true=>rw [<- ok.1];exact (nr ex h).symm
 ·rw [<- ok.2]
  refine Bool.eq_iff_iff.mpr ⟨nr ex,λz=>?_⟩
  have nd:eU ((a_ d last).map (mp (sh:Int))):=λt ht=>by
   obtain ⟨s,hs,rfl⟩:=List.mem_map.mp ht
   obtain ⟨a,b,_⟩:=hP s hs
   exact fW (nt a λx hx=>⟨(b x hx).1,by have:=(b x hx).2;omega⟩).1
  exact dB nd (Nat.le_refl _) (λs _ hs=>by
   obtain ⟨t,ht,rfl⟩:=List.mem_map.mp hs
   exact cX.mpr (List.mem_map.mpr ⟨t,List.mem_append.mpr (.inl ht),rfl⟩)) z
theorem rb {cal:Cal}{e:ME}{ρ:Rho}{n:Nat} (h:ev cal e ρ=some (.int (n:Int))) (hn:n <= 10) {e2:ME}{x:Int} (h2:ev cal e2 ρ=some (.int x)):ev cal (.bin .add (.blt .tupleRng [e]) (.tup [e2])) ρ=some (ofS (eX n ++ [x])):=by
 rw [di (x:=ofS (eX n)) (y:=ofS [x]) (by
  rw [c9 h,nn (by omega) (by omega)]
  simp [ofS,eX,Function.comp_def]) (by rw [ev,evs,h2,evs];rfl)]
 show (if ((eX n).map PV.int).length + ([x].map PV.int).length <= 10000 then some (PV.tup ((eX n).map PV.int ++ [x].map PV.int)) else none)=_
 rw [if_pos (by simp [eX];omega),<- List.map_append]
theorem sy (n d:Nat) (hd:1 <= d/\d <= 3) (sp:Int) (hs:0 <= sp):aa defs (n + 1) 46 [.val (.int (d:Int)),.val (.int sp)]=some (.lst ((a_ d (if 0 < sp then 10 + sp % (d:Int) else 20)).map ofS)):=by
 rw [ae (d:=eE) rfl rfl]
 have c:∀ r:Rho,ev (aa defs n) (.comp .rng [(.bor 0)] [] (.cst (.bl true)) (.bin .add (.blt .tupleRng [(.bin .add (.bor 0) (.cst (.int 1)))]) (.tup [(.bin .add (.cst (.int 10)) (.bor 0))]))) (some (.val (.int (d:Int)))::r)=some (.lst (((List.range d).map (λ(k:Nat)=>eX (k + 1) ++ [10 + (k:Int)])).map ofS)):=λr=>by
  rw [List.map_map]
  refine gw (g:=λ(k:Nat)=>.int (k:Int)) (vs:=[.int (d:Int)]) (xs:=List.range d) (by simp [evs,ev]) (by rw [kS (by omega) (by omega)];simp) (by simp;omega) λk hk=>?_
  have hk:=List.mem_range.mp hk
  exact rb (n:=k + 1) (by simp [ev,cA]) (by omega) (by simp [ev,cA])
 generalize hL:(List.range d).map (λ(k:Nat)=>eX (k + 1) ++ [10 + (k:Int)])=L at c
 have hLl:L.length=d:=by rw [<- hL];simp
 have fin:∀ last:Int,ev (aa defs n) (.bin .add (.bor 2) (.lst [(.bin .add (.blt .tupleRng [(.bor 0)]) (.tup [(.var 3)]))])) [some (.val (.int (d:Int))),some (.val (.int sp)),some (.val (.lst (L.map ofS))),some (.val (.int last))]=some (.lst ((a_ d last).map ofS)):=λlast=>by
  have e1:ev (aa defs n) (.bin .add (.blt .tupleRng [(.bor 0)]) (.tup [(.var 3)])) [some (.val (.int (d:Int))),some (.val (.int sp)),some (.val (.lst (L.map ofS))),some (.val (.int last))]=some (ofS (eX d ++ [last])):=rb (by simp [ev]) (by omega) (by simp [ev])
  rw [di (x:=.lst (L.map ofS)) (y:=.lst [ofS (eX d ++ [last])]) (by simp [ev]) (by rw [ev,evs,e1,evs];rfl)]
  show (if (L.map ofS).length + 1 <= 10000 then some (PV.lst (L.map ofS ++ [ofS (eX d ++ [last])])) else none)=_
  rw [if_pos (by rw [List.length_map];omega)]
  unfold a_
  rw [hL,List.map_append]
  rfl
 show bc (exs (aa defs n) (.set 2 _::.set 3 _::.ite _ _ []::[.ret _]) [some (.val (.int (d:Int))),some (.val (.int sp)),none,none])=_
 refine iQ (c _) ?_
 simp only [cF,cG]
 refine iQ (ci _ _ _) ?_
 simp only [cF,cG]
 by_cases q:0 < sp
 ·have hd0:(0:Int) < (d:Int):=by omega
  rw [if_pos q]
  refine ie (ρ':=[some (.val (.int (d:Int))),some (.val (.int sp)),some (.val (.lst (L.map ofS))),some (.val (.int (10 + sp % (d:Int))))]) ?_ (qR (fin _))
  have hd1:0 < d:=by omega
  simp [ex,exs,ev,evB,q,hd1]
 ·rw [if_neg q]
  refine ie (ρ':=[some (.val (.int (d:Int))),some (.val (.int sp)),some (.val (.lst (L.map ofS))),some (.val (.int 20))]) ?_ (qR (fin _))
  simp [ex,exs,ev,evB,q]
structure Mk (k:Nat) (s:List Int):Prop where
 nd:s.Nodup
 len:s.length <= 3 + 2 * k
 bnd:∀ x ∈ s,(30 <= x/\x <= 59) \/ (0 <= x/\x < (k:Int)) \/ (10 <= x/\x < 10 + (k:Int))
 out:∃ a b c,(a ∈ s/\b ∈ s/\c ∈ s)/\(a ≠ b/\a ≠ c/\b ≠ c)/\30 <= a/\30 <= b/\30 <= c
theorem mq (cal:Cal) (a0 a1:Option MV):∀ (j k:Nat) (left:Int) (s:List Int) (y:Option MV),k + j <= 3->Mk k s ->
  ∃ left' s' y',Mk (k + j) s'/\aT (λx ρ'=>exs cal bn (put ρ' 4 (.val x))) ((List.range' k j).map λ(k:Nat)=>PV.int (k:Int)) [a0,a1,some (.val (.int left)),some (.own (s.map .int)),y]=.next [a0,a1,some (.val (.int left')),some (.own (s'.map .int)),y']
 | 0,k,left,s,y,_,h=>⟨left,s,y,h,rfl⟩
 | j + 1,k,left,s,y,hk,h=>by
  have hl:=h.len
  have u1:s.length < 10000:=by omega
  have u2:s.length + 1 < 10000:=by omega
  obtain ⟨s',hs',e⟩:∃ s',Mk (k + 1) s'/\exs cal bn (put [a0,a1,some (.val (.int left)),some (.own (s.map .int)),y] 4 (.val (.int (k:Int))))=.next [a0,a1,some (.val (.int (left / 4))),some (.own (s'.map .int)),some (.val (.int (k:Int)))]:=by
   have n1:(k:Int) ∉ s:=λm=>by have:=h.bnd _ m;omega
   have n2:(10 + (k:Int)) ∉ s:=λm=>by have:=h.bnd _ m;omega
   obtain ⟨a,b,c,⟨m1,m2,m3⟩,n,l⟩:=h.out
   have nd1:∀ {t:List Int}{x:Int},t.Nodup->x ∉ t->(t ++ [x]).Nodup:=λ{t x} ht hx=>List.nodup_append.mpr ⟨ht,by simp,λa ha b hb e=>by rw [List.mem_singleton.mp hb] at e;exact hx (e ▸ ha)⟩
   have hb:=h.bnd
   by_cases q1:left % 2=1 <;> by_cases q2:left / 2 % 2=1
   ·refine ⟨s ++ [(k:Int)] ++ [10 + (k:Int)],⟨nd1 (nd1 h.nd n1) (by simp [n2];omega),by simp;omega,λx hx=>?_,a,b,c,⟨by simp [m1],by simp [m2],by simp [m3]⟩,n,l⟩,by simp [bn,exs,ex,ev,evB,q1,q2,u1,u2]⟩
    simp only [List.mem_append,List.mem_singleton] at hx
    rcases hx with (hx|hx)|hx
    ·have:=hb x hx;omega
    ·omega
    ·omega
   ·refine ⟨s ++ [(k:Int)],⟨nd1 h.nd n1,by simp;omega,λx hx=>?_,a,b,c,⟨by simp [m1],by simp [m2],by simp [m3]⟩,n,l⟩,by simp [bn,exs,ex,ev,evB,q1,q2,u1,u2]⟩
    simp only [List.mem_append,List.mem_singleton] at hx
    rcases hx with hx|hx
    ·have:=hb x hx;omega
    ·omega
   ·refine ⟨s ++ [10 + (k:Int)],⟨nd1 h.nd n2,by simp;omega,λx hx=>?_,a,b,c,⟨by simp [m1],by simp [m2],by simp [m3]⟩,n,l⟩,by simp [bn,exs,ex,ev,evB,q1,q2,u1,u2]⟩
    simp only [List.mem_append,List.mem_singleton] at hx
    rcases hx with hx|hx
    ·have:=hb x hx;omega
    ·omega
   ·refine ⟨s,⟨h.nd,by omega,λx hx=>by have:=hb x hx;omega,a,b,c,⟨m1,m2,m3⟩,n,l⟩,by simp [bn,exs,ex,ev,evB,q1,q2,u1,u2]⟩
  obtain ⟨left',s2,y',h2,e2⟩:=mq cal a0 a1 j (k + 1) (left / 4) s' (some (.val (.int (k:Int)))) (by omega) hs'
  refine ⟨left',s2,y',by rw [show k + (j + 1)=k + 1 + j from by omega];exact h2,?_⟩
  rw [List.range'_succ,List.map_cons,dU e,e2]
theorem vO (n d:Nat) (hd:d <= 3) (c:Int):∃ s,(Mo s/\dq s)/\aa defs (n + 2) 47 [.val (.int c),.val (.int (d:Int))]=some (ofS s):=by
 rw [ae (d:=h_) rfl rfl]
 have em:=xz n c 1181783497276652981
 generalize vA c 1181783497276652981=l at em
 have h0:Mk 0 [30 + l % 10,40 + l / 10 % 10,50 + l / 100 % 10]:=by
  refine ⟨?_,by simp,λx hx=>?_,_,_,_,⟨.head _,.tail _ (.head _),.tail _ (.tail _ (.head _))⟩,⟨by omega,by omega,by omega⟩,by omega,by omega,by omega⟩
  ·simp;omega
  ·simp only [List.mem_cons,List.not_mem_nil,or_false] at hx
   omega
 obtain ⟨l',s,y',hs,e⟩:=mq (aa defs (n + 1)) (some (.val (.int c))) (some (.val (.int (d:Int)))) d 0 (l / 1000) _ none (by omega) h0
 rw [Nat.zero_add] at hs
 have hb:∀ x ∈ s,0 <= x/\x <= 59:=λx hx=>by have:=hs.bnd x hx;omega
 have hlen:=hs.len
 refine ⟨sortI s,⟨⟨(sortI_perm s).nodup_iff.mpr hs.nd,by rw [sortI_len];omega,λx hx=>hb x (b8.mp hx),?_⟩,kT hs.nd,λx hx=>hb x (b8.mp hx)⟩,?_⟩
 ·obtain ⟨a,b,c,⟨m1,m2,m3⟩,r⟩:=hs.out
  exact ⟨a,b,c,⟨b8.mpr m1,b8.mpr m2,b8.mpr m3⟩,r⟩
 show bc (exs (aa defs (n + 1)) (.set 2 _::.setOwn 3 _::.set 2 _::.for1 4 .rng [(.bor 1)] bn::[.ret _]) [some (.val (.int c)),some (.val (.int (d:Int))),none,none,none])=_
 refine iQ (ba (vs:=[.val (.int c),.val (.int 1181783497276652981)]) (by simp [evA,ev]) em) ?_
 simp only [cF,cG]
 refine ie (ρ':=[some (.val (.int c)),some (.val (.int (d:Int))),some (.val (.int l)),some (.own ([30 + l % 10,40 + l / 10 % 10,50 + l / 100 % 10].map .int)),none]) (by simp [ex,ev,evs]) ?_
 refine iQ (v:=.int (l / 1000)) (by simp [ev]) ?_
 simp only [cF,cG]
 refine ie (ρ':=[some (.val (.int c)),some (.val (.int (d:Int))),some (.val (.int l')),some (.own (s.map .int)),y']) ?_ ?_
 ·have hsrc:∀ r:Rho,(evs (aa defs (n + 1)) [(.bor 1)] (some (.val (.int c))::some (.val (.int (d:Int)))::r)).bind (cj .rng)=some ((List.range' 0 d).map λ(k:Nat)=>PV.int (k:Int)):=λr=>by
   rw [show evs (aa defs (n + 1)) [(.bor 1)] (some (.val (.int c))::some (.val (.int (d:Int)))::r)=some [.int (d:Int)] from by simp [evs,ev],Option.bind_some,kS (by omega) (by omega),<- List.range_eq_range']
   simp
  rw [np (hsrc _)]
  show MM.R.back _ _ (aT _ _ [some (.val (.int c)),some (.val (.int (d:Int))),some (.val (.int (l / 1000))),some (.own ([30 + l % 10,40 + l / 10 % 10,50 + l / 100 % 10].map .int)),none])=_
  rw [e]
  rfl
 ·refine qR ?_
  refine (c9 (v:=ofL (sortI s)) ?_).trans rfl
  rw [c9 (v:=ofL s) rfl,hW,jR,Option.bind_some,l9 (by omega)]
theorem Ch (n:Nat) {R:List (List Int)} (sh:Int) (hl:R.length <= 60) (hs:∀ s ∈ R,s.length <= 60):aa defs (n + 1) 45 [.val (.lst (R.map ofS)),.val (.int sh)]=some (ofR (sortT (R.map (mp sh)))):=by
 rw [ae (d:=ji) rfl rfl]
 show bc (exs (aa defs n) [.ret _] [some (.val (.lst (R.map ofS))),some (.val (.int sh))])=_
 refine qR ?_
 refine (c9 (v:=.lst ((sortT (R.map (mp sh))).map ofS)) ?_).trans rfl
 rw [c9 (v:=.lst ((R.map (mp sh)).map ofS)) ?_,hW,jR,Option.bind_some,l_ (by rw [List.length_map];omega)]
 rw [List.map_map]
 refine gw (g:=ofS) (h:=ofS ∘ mp sh) (vs:=[.lst (R.map ofS)]) (by simp [evs,ev]) rfl (by omega) λs hs'=>?_
 have hl2:=hs s hs'
 show ev (aa defs n) _ [some (.val (ofS s)),some (.val (.int sh))]=_
 refine (c9 (v:=ofL (mp sh s)) ?_).trans rfl
 rw [c9 (v:=ofL (s.map (mpI sh))) ?_,hW,jR,Option.bind_some,l9 (by rw [List.length_map];omega)]
 ·rfl
 refine (gw (g:=PV.int) (h:=λx=>.int (mpI sh x)) (vs:=[ofS s]) (by simp [evs,ev]) rfl (by omega) λx _=>?_).trans (by unfold ofL;rw [List.map_map];rfl)
 simp [ev,cA,mpI]
theorem re (n d:Nat) (hd:d <= 3) {R:List (List Int)} (g:aN R) (h:lf d R=true):aa defs (n + 25) 48 [.val (ofR R),.val (.int (d:Int))]=some (.bl true):=by
 rw [ae (d:=ib) rfl rfl]
 obtain ⟨v,ev1,hv⟩:=oX (n + 18 - 2 * d) d g
 rw [show n + 18 - 2 * d + 2 * d + 6=n + 24 by omega] at ev1
 unfold gF at hv
 rw [if_pos h] at hv
 obtain ⟨hF,xs,rfl⟩:=hv
 have p2:=ra d (n + 18 - 6 * d) (by omega) (fz g d) g (λs hs=>(aG.mp ((dG _ s).mp hs)).1) hF
 rw [show n + 18 - 6 * d + 6 * d + 6=n + 24 by omega] at p2
 show bc (exs (aa defs (n + 24)) (.set 2 _::[.ret _]) [some (.val (ofR R)),some (.val (.int (d:Int))),none])=_
 refine iQ (ba (vs:=[.val (ofR R),.val (.int (d:Int))]) (by simp [evA]) ev1) ?_
 simp only [cF,cG]
 simp [exs,ex,ev,evs,evA,evB,p2,isT]
theorem vP (ns:List Int) (hl:ns.length <= 63):aa defs 40 49 [.brw (ns.map .int)]=some (.bl true):=by
 rw [ae (d:=qP) rfl rfl]
 have ec:∀ (k:Int) (h0:0 <= k) (r:Rho),ev (aa defs 39) (.call 43 [(.bor 0),(.cst (.int k))]) (some (.brw (ns.map .int))::r)=some (.int (cellOf ns k)):=λk h0 r=>ba (vs:=[.brw (ns.map .int),.val (.int k)]) (by simp [evA,ev]) (Ai 38 (.brw (ns.map .int)) ns k rfl h0)
 have ec0:=ec 0 (by decide)
 have ec1:=ec 1 (by decide)
 generalize cellOf ns 0=z at ec0
 generalize cellOf ns 1=y at ec1
 obtain ⟨d,hd⟩:∃ d:Nat,1 + z % 3=(d:Int):=⟨(1 + z % 3).toNat,by omega⟩
 have hd3:1 <= d/\d <= 3:=by omega
 obtain ⟨sh,hsh⟩:∃ d:Nat,y % 60=(d:Int):=⟨(y % 60).toNat,by omega⟩
 have hsh2:sh < 60:=by omega
 show bc (exs (aa defs 39) [.set 1 _,.set 2 _,.ite _ _ [],.set 3 _,.set 4 _,.ite _ _ [],.ite _ _ [],.ite _ _ [],.ret _] [some (.brw (ns.map .int)),none,none,none,none])=_
 refine iQ (v:=.int (d:Int)) (by rw [di (ci _ _ _) ((di (ec0 _) (ci _ _ _)).trans (by rw [jQ,if_pos (by decide)])),qN,hd]) ?_
 simp only [cF,cG]
 refine iQ (ci _ _ _) ?_
 simp only [cF,cG]
 obtain ⟨sp,h0,e2⟩:∃ sp:Int,0 <= sp/\ex (aa defs 39) (.ite (.cmp .eq (.bin .mod (.bin .fdiv (.call 43 [(.bor 0),(.cst (.int 0))]) (.cst (.int 3))) (.cst (.int 3))) (.cst (.int 1)))
   [.set 2 (.bin .add (.cst (.int 1)) (.bin .mod (.bin .fdiv (.call 43 [(.bor 0),(.cst (.int 0))]) (.cst (.int 9))) (.cst (.int 6))))] [])
   [some (.brw (ns.map .int)),some (.val (.int (d:Int))),some (.val (.int 0)),none,none]=.next [some (.brw (ns.map .int)),some (.val (.int (d:Int))),some (.val (.int sp)),none,none]:=by
  have c:=vB (k:=3) (j:=1) (qQ (k:=3) (ec0 [some (.val (.int (d:Int))),some (.val (.int 0)),none,none]) (by decide)) (by decide)
  rw [Aj c]
  by_cases q:z / 3 % 3=1
  ·refine ⟨1 + z / 9 % 6,by omega,?_⟩
   rw [if_pos (by simp [q])]
   refine Cc (ic ?_)
   rw [di (ci _ _ _) ((di (qQ (ec0 _) (by decide)) (ci _ _ _)).trans (by rw [jQ,if_pos (by decide)])),qN]
  ·refine ⟨0,by omega,?_⟩
   rw [if_neg (by simp [q]),exs]
 refine ie e2 ?_
 obtain ⟨last,hlast⟩:∃ l:Int,l=if 0 < sp then 10 + sp % (d:Int) else 20:=⟨_,rfl⟩
 have ep:=sy 38 d hd3 sp h0
 rw [<- hlast] at ep
 have hp:(d,last) ∈ [((1:Nat),(20:Int)),(2,20),(3,20),(1,10),(2,10),(2,11),(3,10),(3,11),(3,12)]:=by
  have m0:=Int.emod_nonneg sp (show (d:Int) ≠ 0 by omega)
  have m1:=Int.emod_lt_of_pos sp (show (0:Int) < (d:Int) by omega)
  generalize sp % (d:Int)=q at m0 m1 hlast
  simp only [List.mem_cons,List.not_mem_nil,or_false,Prod.mk.injEq]
  split at hlast <;> omega
 have h20:(last == 20)=!decide (0 < sp):=by
  have m1:=Int.emod_lt_of_pos sp (show (0:Int) < (d:Int) by omega)
  generalize sp % (d:Int)=q at m1 hlast
  rw [Bool.eq_iff_iff]
  simp
  split at hlast <;> omega
 obtain ⟨f,hf⟩:∃ f:Int->List Int,∀ c,(Mo (f c)/\dq (f c))/\aa defs 39 47 [.val (.int c),.val (.int (d:Int))]=some (ofS (f c)):=⟨λc=>Classical.choose (vO 37 d hd3.2 c),λc=>Classical.choose_spec (vO 37 d hd3.2 c)⟩
 have hcl:(pT ns (some 2) (some 52)).length <= 50:=by have:=vz ns (a:=2) (b:=52) (by decide) (by decide);omega
 obtain ⟨M,hM⟩:∃ M,M=(pT ns (some 2) (some 52)).map f:=⟨_,rfl⟩
 have hMo:∀ s ∈ M,Mo s:=λs hs=>by
  rw [hM] at hs
  obtain ⟨c,_,rfl⟩:=List.mem_map.mp hs
  exact (hf c).1.1
 have hMl:M.length <= 50:=by rw [hM,List.length_map];exact hcl
 have hPl:(a_ d last).length=d + 1:=by simp [a_]
 have hP:=o8 hd3.2 (last:=last) (by simp only [List.mem_cons,List.not_mem_nil,or_false,Prod.mk.injEq] at hp;omega) (by simp only [List.mem_cons,List.not_mem_nil,or_false,Prod.mk.injEq] at hp;omega)
 refine iQ (v:=.lst ((a_ d last ++ M).map ofS)) ?_ ?_
 ·rw [di (x:=.lst ((a_ d last).map ofS)) (y:=.lst (M.map ofS)) (ba (vs:=[.val (.int (d:Int)),.val (.int sp)]) (by simp [evA]) ep) (by
   rw [hM,List.map_map]
   refine gw (vs:=[ofL (pT ns (some 2) (some 52))]) (g:=PV.int) (h:=ofS ∘ f) (by simp [evs,ev,bnd]) rfl (by omega) λc _=>?_
   exact ba (vs:=[.val (.int c),.val (.int (d:Int))]) (by simp [evA,cA]) (hf c).2)]
  show (if ((a_ d last).map ofS).length + (M.map ofS).length <= 10000 then some (PV.lst ((a_ d last).map ofS ++ M.map ofS)) else none)=_
  rw [if_pos (by rw [List.length_map,List.length_map];omega),<- List.map_append]
 simp only [cF,cG]
 obtain ⟨gR,l1,l2⟩:=vN hp hsh2 hMo hMl
 rw [h20] at l2
 have em:=Ch 38 (R:=a_ d last ++ M) (sh:Int) (by rw [List.length_append];omega) (λs hs=>by
  rcases List.mem_append.mp hs with hs|hs
  ·have:=(hP s hs).2.2;omega
  ·have:=(hMo s hs).len;omega)
 generalize sortT ((a_ d last ++ M).map (mp (sh:Int)))=R at gR l1 l2 em
 generalize (a_ d last ++ M).map ofS=L at em
 refine iQ (v:=ofR R) (ba (vs:=[.val (.lst L),.val (.int (sh:Int))]) (by
  rw [evA,evA,show ∀ ρ:Rho,ev (aa defs 39) (.bin .mod (.call 43 [(.bor 0),(.cst (.int 1))]) (.cst (.int 60))) (some (.brw (ns.map .int))::ρ)=some (.int (sh:Int)) from λρ=>by rw [di (ec1 _) (ci _ _ _),jQ,if_pos (by decide),hsh],evA]
  ·rfl
  ·intro i z;cases z) em) ?_
 simp only [cF,cG]
 have tell:∀ e:Nat,e <= 4->∃ v,aa defs 39 17 [.val (ofR R),.val (.int (e:Int))]=some v/\dM v=!lf e R:=λe he=>by
  obtain ⟨v,ev1,hv⟩:=oX (33 - 2 * e) e gR
  rw [show 33 - 2 * e + 2 * e + 6=39 by omega] at ev1
  refine ⟨v,ev1,?_⟩
  unfold gF at hv
  split at hv
  ·rename_i h
   obtain ⟨_,xs,rfl⟩:=hv
   rw [h];rfl
  ·rename_i h
   rw [hv,Bool.not_eq_true] at *
   rw [h];rfl
 obtain ⟨v1,t1,n1⟩:=tell (d - 1) (by omega)
 rw [l1] at n1
 rw [show ((d - 1:Nat):Int)=(d:Int) - 1 by omega] at t1
 refine ie (ρ':=[some (.brw (ns.map .int)),some (.val (.int (d:Int))),some (.val (.int sp)),some (.val (.lst L)),some (.val (ofR R))]) (by
  simp [ex,exs,ev,evB,evA,t1,n1]) ?_
 obtain ⟨v2,t2,n2⟩:=tell d (by omega)
 rw [l2,Bool.not_not] at n2
 by_cases q:0 < sp
 ·have n3:dM v2=true:=by rw [n2];exact decide_eq_true q
  simp [exs,ex,ev,evB,evA,q,t2,n3]
 ·have l3:lf d R=true:=by rw [l2];simp [q]
  have g1:=re 14 d hd3.2 gR l3
  refine ie (ρ':=[some (.brw (ns.map .int)),some (.val (.int (d:Int))),some (.val (.int sp)),some (.val (.lst L)),some (.val (ofR R))]) (by simp [ex,exs,ev,evB,q]) ?_
  by_cases q3:d=3
  ·have q4:(d:Int)=3:=by omega
   rw [q4] at g1 ⊢
   simp [exs,ex,ev,evB,evA,g1]
  ·have g2:=re 14 (d + 1) (by omega) gR (dB (qV gR) (Nat.le_succ d) (λs _ hs=>hs) l3)
   rw [show ((d + 1:Nat):Int)=(d:Int) + 1 by omega] at g2
   have q4:¬ (d:Int)=3:=by omega
   simp [exs,ex,ev,evB,evA,g1,g2,q4]
noncomputable def top (i:Nat):Stmt:=PySem.Challenge.pw_mothloom_k58_whole_rows_of_threats.main.body.getD i (.Pass ⟨0,0,0,0⟩)
theorem At {l:PySem.W.OpenLaw}{w:World}{K:PySem.W.Frag}{h:Heap}{mg:Str->Option Value}{fa:Addr} (X:K.In h) (G:h.Ns mainGlobals mg) (hfa:mg "law"=some (.ref fa))
  (h0:HD K "members_of" (top 1) dA) (h1:HD K "each_once" (top 2) d6) (h2:HD K "strip_without" (top 3) cu) (h3:HD K "knotted" (top 4) gq) (h4:HD K "bitten" (top 5) iN) (h5:HD K "holes_of" (top 6) fk) (h6:HD K "is_whole" (top 7) fo) (h7:HD K "is_bare" (top 8) mf) (h8:HD K "other_hand" (top 10) b9) (h9:HD K "behind" (top 11) cI) (h10:HD K "behind_both" (top 12) c8) (h11:HD K "short_strips" (top 14) dR) (h12:HD K "helps_another" (top 15) dh) (h13:HD K "threats_in" (top 16) fq) (h14:HD K "last_knot" (top 17) fX) (h15:HD K "next_threat" (top 18) eD) (h16:HD K "forced_among" (top 19) cJ) (h17:HD K "forced" (top 20) kW) (h18:HD K "has_all" (top 22) gr) (h19:HD K "least_place" (top 23) cn) (h20:HD K "footing" (top 24) gu) (h21:HD K "is_below" (top 25) fu) (h22:HD K "has_a_pair" (top 27) iO) (h23:HD K "pairs_hold" (top 28) iP) (h24:HD K "together" (top 30) kX) (h25:HD K "are_apart" (top 31) fY) (h26:HD K "strip_weight" (top 34) fZ) (h27:HD K "weight" (top 35) oR) (h28:HD K "pulls" (top 36) qO) (h29:HD K "greatest_pull" (top 37) fC) (h30:HD K "twos_of" (top 38) mh) (h31:HD K "most_shared" (top 39) gY) (h32:HD K "moth_weighs" (top 40) gZ) (h33:HD K "is_heavy" (top 41) kY) (h34:HD K "weaver_weighs" (top 42) fD) (h35:HD K "good" (top 44) jh) (h36:HD K "good_for_moth" (top 45) aK) (h37:HD K "good_for_weaver" (top 46) aw) (h38:HD K "move_is_good" (top 47) cK) (h39:HD K "cases_are_good" (top 48) eS) (h40:HD K "parts_stand_for" (top 49) d7) (h41:HD K "parts_are_good" (top 50) eT) (h42:HD K "either_is_good" (top 51) b_) (h43:HD K "_law_cell" (top 53) fw) (h44:HD K "_law_mixed" (top 54) d8) (h45:HD K "_law_map" (top 55) ji) (h46:HD K "_law_planted" (top 56) eE) (h47:HD K "_law_more" (top 57) h_) (h48:HD K "_law_good" (top 58) ib) (h49:HD K "law" (top 59) qP λfd=>∀ (s:Shared) (v:Value),BindsTo s fd ⟨[v],[]⟩ [("script",v)])
  (zs:∀ x ∈ iJ,PySem.W.nsIn K mainGlobals x=some none)
  {gv0:Value} (g0:PySem.W.nsIn K mainGlobals "UNIT"=some (some gv0)) (r0:aq (toV (.int 1152921504606846976)) gv0)
 :∃ fd:FuncData,(∀ (s:Shared) (v:Value),BindsTo s fd ⟨[v],[]⟩ [("script",v)])/\∀ base:Heap,K.In base->base.Ns mainGlobals mg->lc l.prog w K mg base CX0 40 fa fd ["script"] (spM K (aa defs 40) 49):=by
 obtain ⟨_,e0,D0,q0⟩:=ai (T:=tab) X G h0 (by kernel_rfl)
 obtain ⟨_,e1,D1,q1⟩:=ai (T:=tab) X G h1 (by kernel_rfl)
 obtain ⟨_,e2,D2,q2⟩:=ai (T:=tab) X G h2 (by kernel_rfl)
 obtain ⟨_,e3,D3,q3⟩:=ai (T:=tab) X G h3 (by kernel_rfl)
 obtain ⟨_,e4,D4,q4⟩:=ai (T:=tab) X G h4 (by kernel_rfl)
 obtain ⟨_,e5,D5,q5⟩:=ai (T:=tab) X G h5 (by kernel_rfl)
 obtain ⟨_,e6,D6,q6⟩:=ai (T:=tab) X G h6 (by kernel_rfl)
 obtain ⟨_,e7,D7,q7⟩:=ai (T:=tab) X G h7 (by kernel_rfl)
 obtain ⟨_,e8,D8,q8⟩:=ai (T:=tab) X G h8 (by kernel_rfl)
 obtain ⟨_,e9,D9,q9⟩:=ai (T:=tab) X G h9 (by kernel_rfl)
 obtain ⟨_,e10,D10,q10⟩:=ai (T:=tab) X G h10 (by kernel_rfl)
 obtain ⟨_,e11,D11,q11⟩:=ai (T:=tab) X G h11 (by kernel_rfl)
 obtain ⟨_,e12,D12,q12⟩:=ai (T:=tab) X G h12 (by kernel_rfl)
 obtain ⟨_,e13,D13,q13⟩:=ai (T:=tab) X G h13 (by kernel_rfl)
 obtain ⟨_,e14,D14,q14⟩:=ai (T:=tab) X G h14 (by kernel_rfl)
 obtain ⟨_,e15,D15,q15⟩:=ai (T:=tab) X G h15 (by kernel_rfl)
 obtain ⟨_,e16,D16,q16⟩:=ai (T:=tab) X G h16 (by kernel_rfl)
 obtain ⟨_,e17,D17,q17⟩:=ai (T:=tab) X G h17 (by kernel_rfl)
 obtain ⟨_,e18,D18,q18⟩:=ai (T:=tab) X G h18 (by kernel_rfl)
 obtain ⟨_,e19,D19,q19⟩:=ai (T:=tab) X G h19 (by kernel_rfl)
 obtain ⟨_,e20,D20,q20⟩:=ai (T:=tab) X G h20 (by kernel_rfl)
 obtain ⟨_,e21,D21,q21⟩:=ai (T:=tab) X G h21 (by kernel_rfl)
 obtain ⟨_,e22,D22,q22⟩:=ai (T:=tab) X G h22 (by kernel_rfl)
 obtain ⟨_,e23,D23,q23⟩:=ai (T:=tab) X G h23 (by kernel_rfl)
 obtain ⟨_,e24,D24,q24⟩:=ai (T:=tab) X G h24 (by kernel_rfl)
 obtain ⟨_,e25,D25,q25⟩:=ai (T:=tab) X G h25 (by kernel_rfl)
 obtain ⟨_,e26,D26,q26⟩:=ai (T:=tab) X G h26 (by kernel_rfl)
 obtain ⟨_,e27,D27,q27⟩:=ai (T:=tab) X G h27 (by kernel_rfl)
 obtain ⟨_,e28,D28,q28⟩:=ai (T:=tab) X G h28 (by kernel_rfl)
 obtain ⟨_,e29,D29,q29⟩:=ai (T:=tab) X G h29 (by kernel_rfl)
 obtain ⟨_,e30,D30,q30⟩:=ai (T:=tab) X G h30 (by kernel_rfl)
 obtain ⟨_,e31,D31,q31⟩:=ai (T:=tab) X G h31 (by kernel_rfl)
 obtain ⟨_,e32,D32,q32⟩:=ai (T:=tab) X G h32 (by kernel_rfl)
 obtain ⟨_,e33,D33,q33⟩:=ai (T:=tab) X G h33 (by kernel_rfl)
 obtain ⟨_,e34,D34,q34⟩:=ai (T:=tab) X G h34 (by kernel_rfl)
 obtain ⟨_,e35,D35,q35⟩:=ai (T:=tab) X G h35 (by kernel_rfl)
 obtain ⟨_,e36,D36,q36⟩:=ai (T:=tab) X G h36 (by kernel_rfl)
 obtain ⟨_,e37,D37,q37⟩:=ai (T:=tab) X G h37 (by kernel_rfl)
 obtain ⟨_,e38,D38,q38⟩:=ai (T:=tab) X G h38 (by kernel_rfl)
 obtain ⟨_,e39,D39,q39⟩:=ai (T:=tab) X G h39 (by kernel_rfl)
 obtain ⟨_,e40,D40,q40⟩:=ai (T:=tab) X G h40 (by kernel_rfl)
 obtain ⟨_,e41,D41,q41⟩:=ai (T:=tab) X G h41 (by kernel_rfl)
 obtain ⟨_,e42,D42,q42⟩:=ai (T:=tab) X G h42 (by kernel_rfl)
 obtain ⟨_,e43,D43,q43⟩:=ai (T:=tab) X G h43 (by kernel_rfl)
 obtain ⟨_,e44,D44,q44⟩:=ai (T:=tab) X G h44 (by kernel_rfl)
 obtain ⟨_,e45,D45,q45⟩:=ai (T:=tab) X G h45 (by kernel_rfl)
 obtain ⟨_,e46,D46,q46⟩:=ai (T:=tab) X G h46 (by kernel_rfl)
 obtain ⟨_,e47,D47,q47⟩:=ai (T:=tab) X G h47 (by kernel_rfl)
 obtain ⟨_,e48,D48,q48⟩:=ai (T:=tab) X G h48 (by kernel_rfl)
 obtain ⟨_,e49,D49,q49⟩:=ai (T:=tab) X G h49 (by kernel_rfl)
 cases hfa.symm.trans D49.named
 have pr:BV tab K mg defs:=by
  refine ⟨rfl,⟨⟨_,_,_,D0,_,D0.binds,.nil⟩,⟨_,_,_,D1,_,D1.binds,.nil⟩,⟨_,_,_,D2,_,D2.binds,.nil⟩,⟨_,_,_,D3,_,D3.binds,.nil⟩,⟨_,_,_,D4,_,D4.binds,.nil⟩,⟨_,_,_,D5,_,D5.binds,.nil⟩,⟨_,_,_,D6,_,D6.binds,.nil⟩,⟨_,_,_,D7,_,D7.binds,.nil⟩,⟨_,_,_,D8,_,D8.binds,.nil⟩,⟨_,_,_,D9,_,D9.binds,.nil⟩,⟨_,_,_,D10,_,D10.binds,.nil⟩,⟨_,_,_,D11,_,D11.binds,.nil⟩,⟨_,_,_,D12,_,D12.binds,.nil⟩,⟨_,_,_,D13,_,D13.binds,.nil⟩,⟨_,_,_,D14,_,D14.binds,.nil⟩,⟨_,_,_,D15,_,D15.binds,.nil⟩,⟨_,_,_,D16,_,D16.binds,.nil⟩,⟨_,_,_,D17,_,D17.binds,.nil⟩,⟨_,_,_,D18,_,D18.binds,.nil⟩,⟨_,_,_,D19,_,D19.binds,.nil⟩,⟨_,_,_,D20,_,D20.binds,.nil⟩,⟨_,_,_,D21,_,D21.binds,.nil⟩,⟨_,_,_,D22,_,D22.binds,.nil⟩,⟨_,_,_,D23,_,D23.binds,.nil⟩,⟨_,_,_,D24,_,D24.binds,.nil⟩,⟨_,_,_,D25,_,D25.binds,.nil⟩,⟨_,_,_,D26,_,D26.binds,.nil⟩,⟨_,_,_,D27,_,D27.binds,.nil⟩,⟨_,_,_,D28,_,D28.binds,.nil⟩,⟨_,_,_,D29,_,D29.binds,.nil⟩,⟨_,_,_,D30,_,D30.binds,.nil⟩,⟨_,_,_,D31,_,D31.binds,.nil⟩,⟨_,_,_,D32,_,D32.binds,.nil⟩,⟨_,_,_,D33,_,D33.binds,.nil⟩,⟨_,_,_,D34,_,D34.binds,.nil⟩,⟨_,_,_,D35,_,D35.binds,.nil⟩,⟨_,_,_,D36,_,D36.binds,.nil⟩,⟨_,_,_,D37,_,D37.binds,.nil⟩,⟨_,_,_,D38,_,D38.binds,.nil⟩,⟨_,_,_,D39,_,D39.binds,.nil⟩,⟨_,_,_,D40,_,D40.binds,.nil⟩,⟨_,_,_,D41,_,D41.binds,.nil⟩,⟨_,_,_,D42,_,D42.binds,.nil⟩,⟨_,_,_,D43,_,D43.binds,.nil⟩,⟨_,_,_,D44,_,D44.binds,.nil⟩,⟨_,_,_,D45,_,D45.binds,.nil⟩,⟨_,_,_,D46,_,D46.binds,.nil⟩,⟨_,_,_,D47,_,D47.binds,.nil⟩,⟨_,_,_,D48,_,D48.binds,.nil⟩,⟨_,_,_,D49,_,D49.binds,.nil⟩,trivial⟩,λx hx=>PySem.W.mg_none_of X G (zs x hx),λp hp=>?_⟩
  ·simp only [tab,List.mem_cons,List.not_mem_nil,or_false] at hp
   rcases hp with rfl
   ·exact ⟨_,PySem.W.mg_of X G g0,r0⟩
 exact ⟨e49,q49,λbase _ _=>yj pr 40 49 qP rfl _ _ _ D49⟩
theorem Dm {l:PySem.W.OpenLaw}{q:Program}{loose:List Str}{XP:(Str->Option Value)->Heap->Prop}{YP:World->Heap->Prop}{d:DefRec}{K:Params->PySem.W.Frag} (hn:l.most=some 63) (hdf:d.params.defaults=[])
  (hY:∀ (w:World) (h:Heap),YP w h->(K w.params).In h)
  (F:∀ (w:World) (mg:Str->Option Value) (fa:Addr) (h:Heap),(K w.params).In h->h.Ns mainGlobals mg->mg d.name=some (.ref fa) ->
   ∃ fd:FuncData,(∀ (s:Shared) (u:Value),BindsTo s fd ⟨[u],[]⟩ [("script",u)])/\∀ base:Heap,(K w.params).In base->base.Ns mainGlobals mg->lc l.prog w (K w.params) mg base CX0 40 fa fd ["script"] (spM (K w.params) (aa defs 40) 49)) :
  PySem.W.WalkO q loose XP YP l.row.toRowW d [] (λf vs=>PySem.call f vs) :=
 L2.ww (n:=63) (k:=40) (x:="script") (CX:=λ_=>CX0) (sp:=λw=>spM (K w.params) (aa defs 40) 49) hn (by decide) hdf ⟨rfl,by decide,by decide⟩ hY F (λ_ _ a ns hl _ hS=>zY (vP ns hl) hS) λ_ _ _ _ _ z=>z
end My
open PySem PySem.W PyProof.Rows
set_option maxRecDepth 100000 in
set_option maxHeartbeats 0 in
theorem PySem.Challenge.cw_mothloom_k58_whole_rows_of_threats_holds : PySem.Challenge.rw_mothloom_k58_whole_rows_of_threats.Holds := by
 w_on;o_law;k_head;(case hw=>w_witness2)
 k_fill
 refine My.Dm (l:=PySem.Challenge.rw_mothloom_k58_whole_rows_of_threats) rfl rfl (λw h Y=>PySem.W.kIn_of Y) ?F
 case F =>
  intro w mg fa h KX G hmg
  refine' My.At KX G hmg ?h0 ?h1 ?h2 ?h3 ?h4 ?h5 ?h6 ?h7 ?h8 ?h9 ?h10 ?h11 ?h12 ?h13 ?h14 ?h15 ?h16 ?h17 ?h18 ?h19 ?h20 ?h21 ?h22 ?h23 ?h24 ?h25 ?h26 ?h27 ?h28 ?h29 ?h30 ?h31 ?h32 ?h33 ?h34 ?h35 ?h36 ?h37 ?h38 ?h39 ?h40 ?h41 ?h42 ?h43 ?h44 ?h45 ?h46 ?h47 ?h48 ?h49 ?zs ?gq0 ?rq0
  (case h0|h1|h5|h6|h7|h8|h13|h14|h24|h25|h26|h27|h28|h29|h30|h31|h33|h41=>refine' ⟨rfl,_,_,?ka,.mk' (d0:=.none) ?kl ?kc ?kk,MM.bn1 λ_=>rfl,trivial⟩;(case ka=>k_is);(case kl=>k_is);(case kc=>k_is);(case kk=>k_is))
  (case h2|h3|h4|h11|h15|h16|h18|h19|h20|h21|h22|h23|h40|h42|h43|h44|h45|h46|h47|h48=>refine' ⟨rfl,_,_,?ka,.mk' (d0:=.none) ?kl ?kc ?kk,MM.bn2 λ_ _=>rfl,trivial⟩;(case ka=>k_is);(case kl=>k_is);(case kc=>k_is);(case kk=>k_is))
  (case h9|h12|h36|h37|h38|h39=>refine' ⟨rfl,_,_,?ka,.mk' (d0:=.none) ?kl ?kc ?kk,MM.bn3 λ_ _ _=>rfl,trivial⟩;(case ka=>k_is);(case kl=>k_is);(case kc=>k_is);(case kk=>k_is))
  (case h10|h35=>refine' ⟨rfl,_,_,?ka,.mk' (d0:=.none) ?kl ?kc ?kk,MM.bn4 λ_ _ _ _=>rfl,trivial⟩;(case ka=>k_is);(case kl=>k_is);(case kc=>k_is);(case kk=>k_is))
  (case h17=>refine' ⟨rfl,_,_,?ka,.mkd ?kl ?kc ?kk,?kb,trivial⟩;(case ka=>k_is);(case kl=>k_is);(case kc=>k_is);(case kk=>k_is);(case kb=>refine' MM.g_ rfl ?kx ?ky;(case kx=>k_is);(case ky=>exact λus hl=>match us,hl with|[_,_],_=>⟨_,rfl,rfl⟩)))
  (case h32=>refine' ⟨rfl,_,_,?ka,.mkd ?kl ?kc ?kk,?kb,trivial⟩;(case ka=>k_is);(case kl=>k_is);(case kc=>k_is);(case kk=>k_is);(case kb=>refine' MM.g_ rfl ?kx ?ky;(case kx=>k_is);(case ky=>exact λus hl=>match us,hl with|[_,_],_=>⟨_,rfl,rfl⟩)))
  (case h34=>refine' ⟨rfl,_,_,?ka,.mkd ?kl ?kc ?kk,?kb,trivial⟩;(case ka=>k_is);(case kl=>k_is);(case kc=>k_is);(case kk=>k_is);(case kb=>refine' MM.g_ rfl ?kx ?ky;(case kx=>k_is);(case ky=>exact λus hl=>match us,hl with|[_,_],_=>⟨_,rfl,rfl⟩)))
  (case h49=>refine' ⟨rfl,_,_,?ka,.mk' (d0:=.none) ?kl ?kc ?kk,MM.bn1 λ_=>rfl,λs v=>.of_eq rfl⟩;(case ka=>k_is);(case kl=>k_is);(case kc=>k_is);(case kk=>k_is))
  (case zs=>intro x hx;simp only [MM.iJ,List.mem_cons,List.not_mem_nil,or_false] at hx;rcases hx with rfl|rfl|rfl|rfl|rfl|rfl|rfl|rfl|rfl|rfl|rfl|rfl|rfl|rfl|rfl|rfl|rfl <;> k_is)
  (case gq0=>k_is);(case rq0=>exact ⟨_,rfl⟩)
