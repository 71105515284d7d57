import PyProof.Rows.All
import Wide.All
import OpenK.AllK
import Wide.FinOn
import Lean
import PyProof.EqAt
import PyProof.EqKinds
import PyProof.TupleCall
import PySem.Challenge.RW_mothloom_k30_fewer
set_option Elab.async false
set_option linter.all false
set_option maxRecDepth 100000
set_option genSizeOf false
set_option backward.eqns.nonrecursive false
set_option bootstrap.genMatcherCode false
namespace L2
open PySem PySem.Spec PyProof.Rows
noncomputable abbrev Key:=Sum Int Str
noncomputable def lG:Key->Value->Bool
 | .inl k,v=>Value.isInt k v
 | .inr x,v=>Value.isStrOf x v
noncomputable def Cu(w:World):Key->Int
 | .inl k=>hashInt k
 | .inr x=>hashStr w x
theorem bv:∀{k:Key}{v:Value},lG k v=true->(∃i t,k=Sum.inl i/\v=Value.int i t)\/(∃x t,k=Sum.inr x/\v=Value.str x t)
 | .inl i,v,h=>by
  obtain⟨t,e⟩:=Value.isInt_shape (k:=i) (v:=v) h
  exact .inl ⟨i,t,rfl,e⟩
 | .inr x,v,h=>by
  obtain⟨t,e⟩:=Value.isStrOf_shape (x:=x) (v:=v) h
  exact .inr ⟨x,t,rfl,e⟩
theorem qX(i:Int)(t:Tok):lG (.inl i) (.int i t)=true:=by simp [lG,Value.isInt]
theorem qY(x:Str)(t:Tok):lG (.inr x) (.str x t)=true:=by simp [lG,Value.isStrOf]
theorem x5(a b:Int):decide ((Sum.inl a:Key)=Sum.inl b)=(a == b):=by
 by_cases e:a=b
 ·subst e;simp
 ·have h:¬ (Sum.inl a:Key)=Sum.inl b:=λq=>e (Sum.inl.inj q)
  rw [decide_eq_false h]
  exact(beq_eq_false_iff_ne.mpr e).symm
theorem x6(a b:Str):decide ((Sum.inr a:Key)=Sum.inr b)=decide (a=b):=by
 by_cases e:a=b
 ·subst e;simp
 ·have h:¬ (Sum.inr a:Key)=Sum.inr b:=λq=>e (Sum.inr.inj q)
  rw [decide_eq_false h,decide_eq_false e]
theorem x9(a:Int)(b:Str):decide ((Sum.inl a:Key)=Sum.inr b)=false:=decide_eq_false (λq=>nomatch q)
theorem x_(a:Str)(b:Int):decide ((Sum.inr a:Key)=Sum.inl b)=false:=decide_eq_false (λq=>nomatch q)
noncomputable def bH(prog:Program)(w:World):PySem.KeyKind prog w Key where
 is:=lG
 hash:=Cu w
 inj:=λv a b ha hb=>by
  rcases bv ha with ⟨i,t,rfl,rfl⟩|⟨x,t,rfl,rfl⟩
  ·rcases bv hb with ⟨j,u,rfl,e⟩|⟨y,u,rfl,e⟩
   ·injection e with e1 _;rw [e1]
   ·exact nomatch e
  ·rcases bv hb with ⟨j,u,rfl,e⟩|⟨y,u,rfl,e⟩
   ·exact nomatch e
   ·injection e with e1 _;rw [e1]
 byValue:=λk v h=>by
  rcases bv h with ⟨i,t,rfl,rfl⟩|⟨x,t,rfl,rfl⟩<;>rfl
 pyHash:=λhv h=>by
  rcases bv hv with ⟨i,t,rfl,rfl⟩|⟨x,t,rfl,rfl⟩
  ·exact wpAny_pyHash_int h
  ·exact wpAny_pyHash_str h
 eqBool:=λhu hv h=>by
  rcases bv hu with ⟨i,t,rfl,rfl⟩|⟨x,t,rfl,rfl⟩
  ·rcases bv hv with ⟨j,u,rfl,rfl⟩|⟨y,u,rfl,rfl⟩
   ·rw [x5]at h;exact wpAny_eqBool_int h
   ·rw [x9]at h;exact SeqAt.EqAt.int_str i t y u _ _ _ _ h
  ·rcases bv hv with ⟨j,u,rfl,rfl⟩|⟨y,u,rfl,rfl⟩
   ·rw [x_]at h;exact SeqAt.EqAt.str_int x t j u _ _ _ _ h
   ·rw [x6]at h;exact wpAny_eqBool_str h
 «strs»:=λk x t v h=>by
  rcases bv h with ⟨i,u,rfl,e⟩|⟨y,u,rfl,e⟩
  ·exact nomatch e
  ·injection e with e1 _
   subst e1
   cases v<;>rfl
theorem nK(prog:Program)(w:World)(i:Int)(t:Tok):(bH prog w).is (.inl i) (.int i t)=true:=qX i t
theorem nL(prog:Program)(w:World)(x:Str)(t:Tok):(bH prog w).is (.inr x) (.str x t)=true:=qY x t
end L2
namespace L2
open PySem PySem.Spec PyProof.Rows
inductive V where
 | non|bl (b:Bool)|int (i:Int)|str (x:Str)|byt (b:Array UInt8)|flt (b:UInt64)|ref (a:Addr)|ty (n:String)
 deriving DecidableEq
noncomputable def aq:V->Value->Prop
 | .non,u=>u=Value.none
 | .bl b,u=>u=Value.bool b
 | .int i,u=>∃t,u=Value.int i t
 | .str x,u=>∃t,u=Value.str x t
 | .byt b,u=>∃t,u=Value.bytes b t
 | .flt b,u=>∃t,u=Value.float b t
 | .ref a,u=>u=Value.ref a
 | .ty n,u=>u=Value.type n
noncomputable abbrev aw:List V->List Value->Prop:=Paired aq
theorem aw.length{xs:List V}{us:List Value}(r:aw xs us):xs.length=us.length:=Paired.length r
theorem aw.get:∀{xs:List V}{us:List Value}{i:Nat}{x:V},aw xs us->xs[i]?=some x->∃u,us[i]?=some u/\aq x u
 | _,_,_,_,.nil,e=>by simp at e
 | _,_,0,_,.cons r _,e=>by simp at e;subst e;exact⟨_,rfl,r⟩
 | _,_,i+1,x,.cons _ t,e=>by
  obtain⟨u,h1,h2⟩:=aw.get (i:=i) (x:=x) t (by simpa using e)
  exact⟨u,by simpa using h1,h2⟩
theorem aw.set{x:V}{u:Value}(r:aq x u):∀{xs:List V}{us:List Value} (i:Nat),aw xs us->aw (xs.set i x) (us.set i u)
 | _,_,_,.nil=>.nil
 | _,_,0,.cons _ t=>.cons r t
 | _,_,i+1,.cons q t=>.cons q (aw.set r i t)
theorem aw.append:∀{xs ys:List V}{us ws:List Value},aw xs us->aw ys ws->aw (xs++ys) (us++ws)
 | _,_,_,_,.nil,s=>s
 | _,_,_,_,.cons r t,s=>.cons r (aw.append t s)
theorem aw.take:∀{xs:List V}{us:List Value} (n:Nat),aw xs us->aw (xs.take n) (us.take n)
 | _,_,0,_=>.nil
 | _,_,_+1,.nil=>.nil
 | _,_,n+1,.cons r t=>.cons r (aw.take n t)
theorem aw.drop:∀{xs:List V}{us:List Value} (n:Nat),aw xs us->aw (xs.drop n) (us.drop n)
 | _,_,0,r=>r
 | _,_,_+1,.nil=>.nil
 | _,_,n+1,.cons _ t=>aw.drop n t
noncomputable def jw:Option V->Option Value->Prop
 |some v,some u=>aq v u
 |none,none=>True
 | _,_=>False
noncomputable def KV{κ:Type}:List (κ×V)->List (κ×Value)->Prop:=Paired λ(p:κ×V) (q:κ×Value)=>p.1=q.1/\aq p.2 q.2
noncomputable def kV:Key->V
 | .inl i=>.int i
 | .inr x=>.str x
inductive HO where
 | lst (xs:List V)
 | tup (xs:List V)
 | dK (kvs:List (Key×V))|dT (kvs:List (List Key×V))
 | set (S:Int->Bool) (n:Nat)
 | ins (C dx:Addr) (fs:List (Str×V))
 | own (x:Addr)
 | xd (fs:List (Str×V))
 | met (f x:Addr)
 | rng (lo hi:Int)
 | frz (o:Obj) (u:HO)
 | tbl (ps:Array Value)
 | ext (φ:Heap->Prop)
noncomputable abbrev Hp:=Addr->Option HO
noncomputable def upd(H:Hp)(a:Addr)(o:HO):Hp:=λb=>if b=a then some o else H b
theorem au{H:Hp}{a:Addr}{o:HO}:upd H a o a=some o:=by unfold upd;rw [if_pos rfl]
theorem aB{H:Hp}{a b:Addr}{o:HO}(h:b≠a):upd H a o b=H b:=by unfold upd;rw [if_neg h]
theorem AF{H:Hp}{a b:Addr}{o u:HO}(h:H a=some o)(h':H b=some u)(d:o≠u):a≠b:=by
 intro e;subst e;rw [h]at h';exact d (Option.some.inj h')
theorem bD{H:Hp}{a b:Addr}{o:HO}(h:H a=some o)(h':H b=none):a≠b:=by
 intro e;subst e;rw [h]at h';cases h'
section
variable(P:Program)(w:World)
noncomputable def bq(H:Hp)(h:Heap)(a:Addr):HO->Prop
 | .lst xs=>xs.length<=sizeLine/\∃(its:List Value) (n:Nat),aw xs its/\h.get? a=some { cls:=.type "list",data:=.seq its.toArray n }
 | .tup xs=>xs.length<=sizeLine/\∃its:List Value,aw xs its/\IsTup h a its.toArray
 | .dK kvs=>kvs.length<=sizeLine/\(a == sysModules)=false/\∃vs,KV kvs vs/\h.DictOf (bH P w) a vs
 | .dT kvs=>kvs.length <= sizeLine/\(a == sysModules)=false/\∃ xs:List (List Key × Addr × Value),
   Paired (λ(p:List Key×V) (q:List Key×Addr×Value)=>p.1=q.1/\H q.2.1=some (.tup (p.1.map kV))/\aq p.2 q.2.2) kvs xs /\
   ∃o es ep,h.get? a=some o/\o.ExactDict/\o.data=.dict es ep/\es.toList=xs.map (entryOfKey (tupleKind (bH P w)))/\(xs.map (·.1)).Nodup
 | .set S n=>h.SetOf (intKind P w) a S n
 | .ins C dx fs=>H dx=some (.own a)/\fs.length <= 1000/\dx ≠ a/\h.get? a=some (PySem.W.instObj C dx) /\
   ∃mA,h.Ns1 dx mA/\(∀f,jw (fs.lookup f) (mA f))/\PySem.Within mA (fs.map (·.1))
 | .own _=>∃o,h.get? a=some o
 | .xd fs=>∃mA,h.Ns1 a mA/\∀f,jw (fs.lookup f) (mA f)
 | .rng lo hi=>∃t u v,h.get? a=some { cls:=.type "range",data:=.fields #[.int lo t,.int hi u,.int 1 v] }
 | .frz o u=>h.get? a=some o/\bq H h a u
 | .tbl ps=>h.get? a=some { cls:=.none,data:=.fields ps }
 | .met f x=>h.get? a=some (PySem.W.methodObj (.ref f) (.ref x))
 | .ext φ=>φ h/\(∃o,h.get? a=some o)/\∀h1 h2:Heap,φ h1->(∀o,h1.get? a=some o->h2.get? a=some o)->φ h2
noncomputable def HOk(H:Hp)(h:Heap):Prop:=∀a o,H a=some o->bq P w H h a o
end
section
variable{P:Program}{w:World}{H H':Hp}{h h':Heap}{a:Addr}{o:HO}
theorem bq.lt(x:bq P w H h a o):a<h.objs.size:=by
 cases o with
 |lst xs=>obtain⟨_,_,_,_,e⟩:=x;exact Heap.lt_size e
 |tup xs=>obtain⟨_,_,_,p⟩:=x;exact p.lt
 |dK kvs=>obtain⟨_,_,_,_,o,_,_,e,_⟩:=x;exact Heap.lt_size e
 |dT kvs=>obtain⟨_,_,_,_,o,_,_,e,_⟩:=x;exact Heap.lt_size e
 |set S n=>obtain⟨o,_,_,_,e,_⟩:=x;exact Heap.lt_size e
 |ins C dx fs=>obtain⟨_,_,_,e,_⟩:=x;exact Heap.lt_size e
 |own y=>obtain⟨_,e⟩:=x;exact Heap.lt_size e
 |xd fs=>obtain⟨_,⟨_,_,_,e,_⟩,_⟩:=x;exact Heap.lt_size e
 |rng lo hi=>obtain⟨_,_,_,e⟩:=x;exact Heap.lt_size e
 |frz ob u=>obtain⟨e,_⟩:=x;exact Heap.lt_size e
 |tbl ps=>exact Heap.lt_size (show h.get? a=some _ from x)
 |met f y=>exact Heap.lt_size (show h.get? a=some _ from x)
 |ext φ=>obtain⟨_,⟨_,e⟩,_⟩:=x;exact Heap.lt_size e
theorem Paired.mapP{α β:Type}{F G:α->β->Prop}:∀{l₁:List α}{l₂:List β},Paired F l₁ l₂->(∀a b,F a b->G a b)->Paired G l₁ l₂
 | _,_,.nil,_=>.nil
 | _,_,.cons r t,f=>.cons (f _ _ r) (Paired.mapP t f)
theorem bq.stay(x:bq P w H h a o)(k:∀b u,(b=a\/H b=some (.own a))->h.get? b=some u->h'.get? b=some u)
  (ho:∀b,H b=some (.own a)->H' b=some (.own a)) (ht:∀b xs,H b=some (.tup xs)->H' b=some (.tup xs)):bq P w H' h' a o:=by
 induction o with
 |lst xs=>obtain⟨z,its,n,r,e⟩:=x;exact⟨z,its,n,r,k _ _ (.inl rfl) e⟩
 |tup xs=>obtain⟨z,its,r,ob,e,c⟩:=x;exact⟨z,its,r,ob,k _ _ (.inl rfl) e,c⟩
 |dK kvs=>obtain⟨z,y,vs,r,ob,es,ep,e,c⟩:=x;exact⟨z,y,vs,r,ob,es,ep,k _ _ (.inl rfl) e,c⟩
 |dT kvs =>
  obtain⟨z,y,xs,r,ob,es,ep,e,c⟩:=x
  exact⟨z,y,xs,Paired.mapP r λp q z=>⟨z.1,ht _ _ z.2.1,z.2.2⟩,ob,es,ep,k _ _ (.inl rfl) e,c⟩
 |set S n=>obtain⟨ob,es,ep,t,e,c⟩:=x;exact⟨ob,es,ep,t,k _ _ (.inl rfl) e,c⟩
 |ins C dx fs =>
  obtain⟨d,z,ne,e,mA,⟨od,es,ep,e2,c⟩,r⟩:=x
  exact⟨ho _ d,z,ne,k _ _ (.inl rfl) e,mA,⟨od,es,ep,k _ _ (.inr d) e2,c⟩,r⟩
 |own y=>obtain⟨ob,e⟩:=x;exact⟨ob,k _ _ (.inl rfl) e⟩
 |xd fs=>obtain⟨mA,⟨od,es,ep,e,c⟩,r⟩:=x;exact⟨mA,⟨od,es,ep,k _ _ (.inl rfl) e,c⟩,r⟩
 |rng lo hi=>obtain⟨t,u,v,e⟩:=x;exact⟨t,u,v,k _ _ (.inl rfl) e⟩
 |frz ob u ih=>obtain⟨e,q⟩:=x;exact⟨k _ _ (.inl rfl) e,ih q⟩
 |tbl ps =>
  have e:h.get? a=some { cls:=.none,data:=.fields ps }:=x
  show h'.get? a=some { cls:=.none,data:=.fields ps }
  exact k a _ (.inl rfl) e
 |met f y =>
  have e:h.get? a=some (PySem.W.methodObj (.ref f) (.ref y)):=x
  show h'.get? a=some (PySem.W.methodObj (.ref f) (.ref y))
  exact k a _ (.inl rfl) e
 |ext φ=>obtain⟨p,⟨o,e⟩,st⟩:=x;exact⟨st _ _ p λo q=>k _ _ (.inl rfl) q,⟨o,k _ _ (.inl rfl) e⟩,st⟩
theorem HOk.lt(x:HOk P w H h)(e:H a=some o):a<h.objs.size:=(x a o e).lt
theorem HOk.fresh(x:HOk P w H h)(e:h.objs.size<=a):H a=none:=by
 cases q:H a with
 |none=>rfl
 |some u=>exact absurd (Nat.lt_of_lt_of_le (x.lt q) e) (Nat.lt_irrefl _)
theorem HOk.kept(x:HOk P w H h)(k:∀b u,h.get? b=some u->h'.get? b=some u):HOk P w H h':=λa o e =>
 (x a o e).stay (λb u _ q=>k b u q) (λ_ q=>q) λ_ _ q=>q
theorem HOk.laid(x:HOk P w H h)(k:∀b u,h.get? b=some u->h'.get? b=some u)(hp:h.objs.size<=a)(new:bq P w (upd H a o) h' a o):HOk P w (upd H a o) h':=λb u e=>by
 have hn:=x.fresh hp
 by_cases hb:b=a
 ·subst hb;rw [au]at e;cases e;exact new
 ·rw [aB hb]at e
  exact(x b u e).stay (λc v _ q=>k c v q) (λc q=>by rw [aB (bD q hn)];exact q) λc xs q=>by rw [aB (bD q hn)];exact q
end
noncomputable def Rd(H:Hp)(a:Addr)(u:HO):Prop:=H a=some u\/∃o,H a=some (.frz o u)
theorem Rd.ok{P:Program}{w:World}{H:Hp}{h:Heap}{a:Addr}{u:HO}(r:Rd H a u)(x:HOk P w H h):bq P w H h a u:=by
 rcases r with r|⟨o,r⟩
 ·exact x a u r
 ·obtain⟨_,q⟩:=x a _ r
  exact q
noncomputable def Mut:Option HO->Prop
 |some (.lst _)=>True
 |some (.dK _)=>True
 |some (.dT _)=>True
 |some (.set _ _)=>True
 |some (.ins _ _ _)=>True
 |some (.ext _)=>True
 | _=>False
section
variable{P:Program}{w:World}{H:Hp}{h h':Heap}{x e:Addr}{o':HO}
theorem HOk.write(ok:HOk P w H h)(mu:Mut (H x))(he:e=x\/H e=some (.own x))(k:∀b u,b≠e->h.get? b=some u->h'.get? b=some u)(heo:∃u,h'.get? e=some u)
  (new:bq P w (upd H x o') h' x o'):HOk P w (upd H x o') h':=λb u q=>by
 have nown:∀c y,H c=some (.own y)->c≠x:=λc y r z=>by subst z;rw [r]at mu;exact mu
 have ntup:∀c xs,H c=some (.tup xs)->c≠x:=λc xs r z=>by subst z;rw [r]at mu;exact mu
 by_cases hb:b=x
 ·subst hb;rw [au]at q;cases q;exact new
 ·rw [aB hb]at q
  by_cases hbe:b=e
  ·have q':H b=some (.own x):=by
    rcases he with z|z
    ·exact absurd (hbe.trans z) hb
    ·rw [hbe];exact z
   rw [q]at q';cases q'
   obtain⟨v,hv⟩:=heo
   exact⟨v,by rw [hbe];exact hv⟩
  ·refine(ok b u q).stay (λc v hc r=>k c v ?_ r) (λc r=>by rw [aB (nown c b r)];exact r) λc xs r=>by rw [aB (ntup c xs r)];exact r
   rcases hc with rfl|hc
   ·exact hbe
   ·rintro rfl
    rcases he with z|z
    ·exact nown c b hc z
    ·rw [hc]at z;cases z;exact hb rfl
end
structure Un(fs ex:List Addr)(H H':Hp)(h h':Heap):Prop where
 keep:∀b o,h.get? b=some o->H b=none->b∉fs->b∉ex->h'.get? b=some o
 slot:∀b o,h.get? b=some o->H b=none->b∈fs->b∉ex->∃sl,h'.get? b=some { o with slots:=sl }
 free:∀b o,h.get? b=some o->H b=none->b∉ex->H' b=none
 there:∀b o,h.get? b=some o->b∉ex->∃o',h'.get? b=some o'
 tups:∀b xs,H b=some (.tup xs)->H' b=some (.tup xs)
 frzs:∀b o u,H b=some (.frz o u)->H' b=some (.frz o u)
 tbls:∀b ps,H b=some (.tbl ps)->∃more,H' b=some (.tbl (ps++more))
section
variable{fs fs' ex ex':List Addr}{H H1 H2:Hp}{h h1 h2 h':Heap}{a x e:Addr}{o:HO}
theorem Un.any(u:Un fs ex H H1 h h1){b:Addr}{ob:Obj}(q:h.get? b=some ob)(n:H b=none)(hx:b∉ex):∃sl,h1.get? b=some { ob with slots:=sl }:=by
 by_cases hb:b∈fs
 ·exact u.slot b ob q n hb hx
 ·exact⟨ob.slots,u.keep b ob q n hb hx⟩
theorem Un.kept(k:∀b u,h.get? b=some u->h'.get? b=some u):Un fs ex H H h h' :=
 ⟨λb ob q _ _ _=>k b ob q,λb ob q _ _ _=>⟨ob.slots,k b ob q⟩,λ_ _ _ n _=>n,λb ob q _=>⟨ob,k b ob q⟩,λ_ _ q=>q,λ_ _ _ q=>q,λ_ ps q=>⟨#[],by rw [q];simp⟩⟩
theorem Un.refl:Un fs ex H H h h:=Un.kept λ_ _ q=>q
theorem Un.laid(k:∀b u,h.get? b=some u->h'.get? b=some u)(hp:h.objs.size<=a)(hn:H a=none):Un fs ex H (upd H a o) h h' where
 keep:=λb u q _ _ _=>k b u q
 slot:=λb u q _ _ _=>⟨u.slots,k b u q⟩
 free:=λb u q n _=>by rw [aB (Nat.ne_of_lt (Nat.lt_of_lt_of_le (Heap.lt_size q) hp))];exact n
 there:=λb u q _=>⟨u,k b u q⟩
 tups:=λb xs q=>by rw [aB (bD q hn)];exact q
 frzs:=λb u xs q=>by rw [aB (bD q hn)];exact q
 tbls:=λb ps q=>⟨#[],by rw [aB (bD q hn),q];simp⟩
theorem Un.write(mu:Mut (H x))(he:e=x\/H e=some (.own x))(k:∀b u,b≠e->h.get? b=some u->h'.get? b=some u)(heo:∃u,h'.get? e=some u):Un fs ex H (upd H x o) h h':=by
 have hx:∀b,H b=none->b≠x:=λb n z=>by subst z;rw [n]at mu;exact mu
 have hb:∀b,H b=none->b≠e:=λb n z=>by
  subst z
  rcases he with r|r
  ·exact hx b n r
  ·rw [n]at r;cases r
 have hm:∀b u,H b=some u->¬ Mut (some u)->b≠x:=λb u q nm z=>by subst z;rw [q]at mu;exact nm mu
 refine⟨λb u q n _ _=>k b u (hb b n) q,λb u q n _ _=>⟨u.slots,k b u (hb b n) q⟩,λb u q n _=>by rw [aB (hx b n)];exact n,λb u q _=>?_,
  λb xs q=>by rw [aB (hm b _ q λz=>z)];exact q,λb u xs q=>by rw [aB (hm b _ q λz=>z)];exact q,λb ps q=>⟨#[],by rw [aB (hm b _ q λz=>z),q];simp⟩⟩
 by_cases hbe:b=e
 ·subst hbe;exact heo
 ·exact⟨u,k b u hbe q⟩
end
noncomputable def trk(h:Heap)(H:Hp):List Addr:=(List.range h.objs.size).filter λa=>(H a).isSome
noncomputable def mM(h:Heap)(H:Hp):Heap:=PySem.W.hideAll h (trk h H)
theorem qZ(h:Heap)(H:Hp):(mM h H).objs.size=h.objs.size:=PySem.W.hideAll_size _ _
theorem sB{h:Heap}{H:Hp}{b:Addr}{o:Obj}(e:h.get? b=some o)(n:H b=none):(mM h H).get? b=some o :=
 PySem.W.hideAll_get _ e λhm=>by
  have q:(H b).isSome=true:=(List.mem_filter.mp hm).2
  rw [n]at q;simp at q
theorem vY{h:Heap}{H:Hp}{b:Addr}{o:Obj}(e:(mM h H).get? b=some o):h.get? b=some o/\H b=none:=by
 have e':h.get? b=some o:=PySem.W.of_hideAll (trk h H) e
 refine⟨e',?_⟩
 cases q:H b with
 |none=>rfl
 |some x =>
  have hm:b∈trk h H:=List.mem_filter.mpr ⟨List.mem_range.mpr (Heap.lt_size e'),by simp [q]⟩
  have z:(mM h H).get? b=none:=PySem.W.hideAll_none (trk h H) hm
  rw [z]at e;cases e
noncomputable def vZ(g h:Heap)(L:Addr):List (Addr×Obj):=(List.range h.objs.size).filterMap λa=>if a=L\/(g.get? a).isSome=true then none else (h.get? a).map λo=>(a,o)
noncomputable def cx(g h:Heap)(L d:Addr):List (Addr×Obj):=(vZ g h L).filter λp=>decide (p.1≠d)
end L2
namespace L2
open PySem PySem.Spec PyProof.Rows
structure Mod(K:PySem.W.Frag)(mg:Str->Option Value)(base:Heap):Prop where
 kin:K.In base
 glob:base.Ns mainGlobals mg
 blt:∃mb,base.Ns builtinsNs mb/\∀x:Str,x ≠ "__name__"->mb x=bootBuiltins x
 nolimit:base.NoLimit
structure Cx where
 prog:Program
 w:World
 K:PySem.W.Frag
 mg:Str->Option Value
 base:Heap
 A:Around
 N:List Str
 s₀:Shared
 H₀:Hp
 env:Env
 outer:List Env
 stack:List Env
 ex:List Addr
 fn:Str->Bool
 calm:Bool
 pn:List (Addr×Obj)
 xe:Value->Shared->Prop
noncomputable def frs(l:List Env):List Addr:=l.filterMap (·.frame)
noncomputable abbrev Cx.fs(X:Cx):List Addr:=frs X.outer
noncomputable def Vis(sc:Scope)(x:Str):Prop:=sc.names.lookup x=some .local\/sc.names.lookup x=some .cell\/sc.names.lookup x=some .free
noncomputable def Loc(sc:Scope)(x:Str):Prop:=sc.names.lookup x=some .local\/sc.names.lookup x=some .cell
noncomputable def Cv(env:Env)(h:Heap)(m:Str->Option Value)(x:Str)(u:Value):Prop :=
 (env.kindOf x=some .local/\m x=some u)\/((env.kindOf x=some .cell\/env.kindOf x=some .free)/\∃c,env.cells.lookup x=some c/\h.IsCell c (some u))
structure Cx.Ok(X:Cx):Prop where
 mod:Mod X.K X.mg X.base
 kind:X.env.scope.kind=.function
 glob:X.env.globals=mainGlobals
 blt:X.env.builtins=builtinsNs
 above:X.s₀.heap.objs.size<=X.env.locals
 inj:∀x y c,X.env.cells.lookup x=some c->X.env.cells.lookup y=some c->x=y
 has:∀x,(X.env.kindOf x=some .cell\/X.env.kindOf x=some .free)->∃c,X.env.cells.lookup x=some c
 cab:∀x c,X.fn x=true->X.env.cells.lookup x=some c->X.s₀.heap.objs.size<=c
 hd:X.calm=true->X.A.handled=none
 frames:X.A.frames=some X.stack
 stk:X.stack=X.outer\/(X.stack=X.env::X.outer/\X.env.frame=some X.env.locals)
 exf:∀b∈X.ex,b≠X.env.locals/\∀x c,X.env.cells.lookup x=some c->c≠b
 bs:∀b o,X.base.get? b=some o->X.s₀.heap.get? b=some o/\X.H₀ b=none
 bsz:X.base.objs.size<=X.s₀.heap.objs.size
 noex:∀b o,X.base.get? b=some o->b∉X.ex
 exfs:∀b∈X.ex,b∉X.fs
 funs:X.s₀.heap.FunFrames X.base X.outer
 frf:∀b∈X.fs,X.H₀ b=none
structure Inv(X:Cx)(pins:List (Addr×Obj))(σ:List (Option V))(H:Hp)(s:Shared):Prop where
 ok:X.Ok
 os:s.os=X.s₀.os
 bare:AllBare s.gens
 base:Un X.fs X.ex X.H₀ H X.s₀.heap s.heap
 loc:∃m,s.heap.Ns X.env.locals m/\∀(i:Nat) (x:Str) (v:V),X.N[i]?=some x->σ[i]?=some (some v)->Vis X.env.scope x->∃u,aq v u/\Cv X.env s.heap m x u
 cell:∀x c,X.env.cells.lookup x=some c->∃v,s.heap.IsCell c v
 free:H X.env.locals=none
 freeC:∀x c,X.env.cells.lookup x=some c->H c=none
 pin:∀p∈X.pn++pins,s.heap.get? p.1=some p.2/\H p.1=none/\p.1≠X.env.locals/\p.1∉X.fs/\∀v,p.2.data≠.cell v
 hok:HOk X.prog X.w H s.heap
 len:σ.length=X.N.length
section
variable{X:Cx}{pins:List (Addr×Obj)}{σ:List (Option V)}{H H':Hp}{s:Shared}{h':Heap}
theorem Cx.Ok.nofr(ok:X.Ok){b:Addr}{o:Obj}(e:X.base.get? b=some o):b∉X.fs:=λhb=>by
 have:=(ok.funs.mem hb).1
 rw [e]at this;cases this
theorem Inv.bs(I:Inv X pins σ H s):∀b o,X.base.get? b=some o->s.heap.get? b=some o/\H b=none:=λb o e =>
 ⟨I.base.keep b o (I.ok.bs b o e).1 (I.ok.bs b o e).2 (I.ok.nofr e) (I.ok.noex b o e),I.base.free b o (I.ok.bs b o e).1 (I.ok.bs b o e).2 (I.ok.noex b o e)⟩
theorem Inv.bk(I:Inv X pins σ H s):∀b o,X.base.get? b=some o->s.heap.get? b=some o:=λb o e=>(I.bs b o e).1
theorem Inv.mod(I:Inv X pins σ H s):Mod X.K X.mg X.base:=I.ok.mod
theorem Inv.kIn(I:Inv X pins σ H s):X.K.In s.heap:=I.ok.mod.kin.keeps I.bk
theorem Inv.lt(I:Inv X pins σ H s):X.env.locals<s.heap.objs.size:=let ⟨_,hn,_⟩:=I.loc;hn.lt
theorem Inv.sz(I:Inv X pins σ H s):X.s₀.heap.objs.size<=s.heap.objs.size:=Nat.le_trans I.ok.above (Nat.le_of_lt I.lt)
theorem Inv.nofs(I:Inv X pins σ H s){a:Addr}(h:s.heap.objs.size<=a):a∉X.fs:=λhb=>by
 obtain⟨_,o,ho,_⟩:=I.ok.funs.mem hb
 exact absurd (Nat.lt_of_lt_of_le (Heap.lt_size ho) (Nat.le_trans I.sz h)) (Nat.lt_irrefl _)
theorem Inv.cne(I:Inv X pins σ H s):∀x c,X.env.cells.lookup x=some c->c≠X.env.locals:=λx c e z=>by
 obtain⟨v,o,ho,hd⟩:=I.cell x c e
 obtain⟨m,⟨o',es,ep,ho',hd',_⟩,_⟩:=I.loc
 rw [z,ho']at ho;cases ho;rw [hd']at hd;cases hd
theorem Inv.funs(I:Inv X pins σ H s):s.heap.FunFrames X.base X.outer:=by
 have all:∀(l:List Env),(∀b∈frs l,b∈X.fs)->X.s₀.heap.FunFrames X.base l->s.heap.FunFrames X.base l:=by
  intro l
  induction l with
  |nil=>intro _ _;trivial
  |cons env r ih =>
   intro hs hl
   obtain⟨hk,⟨L,o,hf,hn,ho,hd⟩,hr⟩:=hl
   have hL:L∈X.fs:=hs L (by unfold frs;rw [List.filterMap_cons,hf];exact List.mem_cons_self)
   obtain⟨sl,e⟩:=I.base.slot L o ho (I.ok.frf L hL) hL λz=>I.ok.exfs L z hL
   exact⟨hk,⟨L,_,hf,hn,e,hd⟩,ih (λb hb=>hs b (by unfold frs;rw [List.filterMap_cons,hf];exact List.mem_cons_of_mem _ hb)) hr⟩
 exact all X.outer (λ_ hb=>hb) I.ok.funs
theorem Inv.stack(I:Inv X pins σ H s):s.heap.FunFrames X.base X.stack:=by
 rcases I.ok.stk with e|⟨e,hf⟩
 ·rw [e];exact I.funs
 ·rw [e]
  obtain⟨m,hn,_⟩:=I.loc
  refine .cons (by rw [I.ok.kind];decide) hf hn ?_ I.funs
  exact Heap.get?_none_of_le (Nat.le_trans I.ok.bsz I.ok.above)
theorem Inv.stkSub(I:Inv X pins σ H s):∀b∈frs X.stack,b∈X.env.locals::X.fs:=λb hb=>by
 rcases I.ok.stk with e|⟨e,hf⟩
 ·rw [e]at hb;exact List.mem_cons_of_mem _ hb
 ·rw [e]at hb
  unfold frs at hb
  rw [List.filterMap_cons,hf]at hb
  exact hb
theorem Inv.stkFree(I:Inv X pins σ H s):∀b∈frs X.stack,H b=none:=λb hb=>by
 rcases List.mem_cons.mp (I.stkSub b hb) with e|hb
 ·rw [e];exact I.free
 ·obtain⟨_,o,ho,_⟩:=I.ok.funs.mem hb
  exact I.base.free b o ho (I.ok.frf b hb) λz=>I.ok.exfs b z hb
theorem Inv.step{g':Array GenState}{t':Nat}{d':Drawn}{ch:List Addr}(I:Inv X pins σ H s)
  (hch:∀b∈ch,(b∈X.ex\/X.s₀.heap.objs.size<=b)/\b≠X.env.locals/\(∀x c,X.env.cells.lookup x=some c->c≠b)/\∀p∈X.pn++pins,p.1≠b)
  (keep:∀b o,b≠X.env.locals->b∉X.fs->b∉ch->s.heap.get? b=some o->H b=none->h'.get? b=some o)
  (slot:∀b o,b≠X.env.locals->b∈X.fs->b∉ch->s.heap.get? b=some o->H b=none->∃sl,h'.get? b=some { o with slots:=sl }) (free:∀b o,b∉ch->s.heap.get? b=some o->H b=none->H' b=none)
  (there:∀b o,b∉ch->s.heap.get? b=some o->∃o',h'.get? b=some o')
  (tups:∀b xs,H b=some (.tup xs)->H' b=some (.tup xs)) (frzs:∀b o u,H b=some (.frz o u)->H' b=some (.frz o u)) (tbls:∀b ps,H b=some (.tbl ps)->∃more,H' b=some (.tbl (ps++more)))
  (ns:∀m,s.heap.Ns X.env.locals m->h'.Ns X.env.locals m) (hok:HOk X.prog X.w H' h') (hg:AllBare g') :
  Inv X pins σ H' { s with heap:=h',gens:=g',drawn:=d',toks:=t' }:=by
 have neL:∀b o,X.s₀.heap.get? b=some o->b≠X.env.locals:=λb o e=>Nat.ne_of_lt (Nat.lt_of_lt_of_le (Heap.lt_size e) I.ok.above)
 have neC:∀b o,X.s₀.heap.get? b=some o->b∉X.ex->b∉ch:=λb o e hx hb=>by
  rcases(hch b hb).1 with z|z
  ·exact hx z
  ·exact absurd (Nat.lt_of_lt_of_le (Heap.lt_size e) z) (Nat.lt_irrefl _)
 have cellK:∀x c,X.env.cells.lookup x=some c->∀v,s.heap.IsCell c v->h'.IsCell c v:=λx c e v ⟨o,ho,hd⟩=>by
  have nch:c∉ch:=λz=>(hch c z).2.2.1 x c e rfl
  by_cases hc:c∈X.fs
  ·obtain⟨sl,q⟩:=slot c o (I.cne x c e) hc nch ho (I.freeC x c e)
   exact⟨_,q,hd⟩
  ·exact⟨o,keep c o (I.cne x c e) hc nch ho (I.freeC x c e),hd⟩
 refine⟨I.ok,I.os,hg,⟨λb o e n hb hx=>?_,λb o e n hb hx=>?_,λb o e n hx=>?_,λb o e hx=>?_,λb xs e=>tups b xs (I.base.tups b xs e),λb o xs e=>frzs b o xs (I.base.frzs b o xs e),λb ps e=>?_⟩,?_,λx c e=>?_,?_,λx c e=>?_,λp hp=>?_,hok,I.len⟩
 ·exact keep b o (neL b o e) hb (neC b o e hx) (I.base.keep b o e n hb hx) (I.base.free b o e n hx)
 ·obtain⟨sl,e1⟩:=I.base.slot b o e n hb hx
  obtain⟨sl',e2⟩:=slot b _ (neL b o e) hb (neC b o e hx) e1 (I.base.free b o e n hx)
  exact⟨sl',e2⟩
 ·obtain⟨o',e1⟩:=I.base.there b o e hx
  exact free b o' (neC b o e hx) e1 (I.base.free b o e n hx)
 ·obtain⟨o',e1⟩:=I.base.there b o e hx
  exact there b o' (neC b o e hx) e1
 ·obtain⟨m1,e1⟩:=I.base.tbls b ps e
  obtain⟨m2,e2⟩:=tbls b _ e1
  exact⟨m1++m2,by rw [e2,Array.append_assoc]⟩
 ·obtain⟨m,hn,hl⟩:=I.loc
  refine⟨m,ns m hn,λi x v e1 e2 e3=>?_⟩
  obtain⟨u,r,l⟩:=hl i x v e1 e2 e3
  refine⟨u,r,?_⟩
  rcases l with l|⟨k,c,e,z⟩
  ·exact .inl l
  ·exact .inr ⟨k,c,e,cellK x c e _ z⟩
 ·obtain⟨v,z⟩:=I.cell x c e
  exact⟨v,cellK x c e v z⟩
 ·obtain⟨m,⟨o,_,_,ho,_⟩,_⟩:=I.loc
  exact free _ o (λz=>(hch _ z).2.1 rfl) ho I.free
 ·obtain⟨v,o,ho,hd⟩:=I.cell x c e
  exact free c o (λz=>(hch c z).2.2.1 x c e rfl) ho (I.freeC x c e)
 ·obtain⟨e,n,ne,nf,d⟩:=I.pin p hp
  have nch:p.1∉ch:=λz=>(hch p.1 z).2.2.2 p hp rfl
  exact⟨keep p.1 p.2 ne nf nch e n,free p.1 p.2 nch e n,ne,nf,d⟩
theorem Inv.un{t':Nat}(I:Inv X pins σ H s)(u:Un X.fs [] H H' s.heap h')(hok:HOk X.prog X.w H' h'):Inv X pins σ H' { s with heap:=h',toks:=t' }:=by
 obtain⟨m,⟨o,es,ep,ho,r⟩,_⟩:=id I.loc
 obtain⟨sl,hL⟩:=u.any ho I.free (by simp)
 exact I.step (g':=s.gens) (d':=s.drawn) (ch:=[]) (λ_ z=>nomatch z) (λb o _ hb _ e n=>u.keep b o e n hb (by simp)) (λb o _ hb _ e n=>u.slot b o e n hb (by simp)) (λb o _ e n=>u.free b o e n (by simp)) (λb o _ e=>u.there b o e (by simp)) u.tups u.frzs u.tbls (λm' hm=>by
  obtain⟨o',es',ep',ho',r'⟩:=hm
  rw [ho]at ho';cases ho'
  exact⟨_,es',ep',hL,r'⟩) hok I.bare
theorem Inv.call{g':Array GenState}{t':Nat}{d':Drawn}{ch:List Addr}(I:Inv X pins σ H s)(u:Un (frs X.stack) ch H H' s.heap h')(hok:HOk X.prog X.w H' h')(hg:AllBare g')
  (hch:∀b∈ch,(b∈X.ex\/X.s₀.heap.objs.size<=b)/\b≠X.env.locals/\(∀x c,X.env.cells.lookup x=some c->c≠b)/\∀p∈X.pn++pins,p.1≠b) :
  Inv X pins σ H' { s with heap:=h',gens:=g',drawn:=d',toks:=t' }:=by
 obtain⟨m,⟨o,es,ep,ho,r⟩,_⟩:=id I.loc
 obtain⟨sl,hL⟩:=u.any ho I.free λz=>(hch _ z).2.1 rfl
 exact I.step (ch:=ch) hch (λb o hL hb hc e n=>u.keep b o e n (λz=>(List.mem_cons.mp (I.stkSub b z)).elim hL hb) hc) (λb o _ _ hc e n=>u.any e n hc) (λb o hc e n=>u.free b o e n hc) (λb o hc e=>u.there b o e hc) u.tups u.frzs u.tbls (λm' hm=>by
  obtain⟨o',es',ep',ho',r'⟩:=hm
  rw [ho]at ho';cases ho'
  exact⟨_,es',ep',hL,r'⟩) hok hg
theorem Inv.turned{t':Nat}{it:Addr}(I:Inv X pins σ H s)(k:∀b o,b≠it->s.heap.get? b=some o->h'.get? b=some o)(hn:H it=none)(hL:it≠X.env.locals)
  (h1:it∈X.ex\/X.s₀.heap.objs.size<=it) (h2:∀x c,X.env.cells.lookup x=some c->c≠it) (h3:∀p∈X.pn++pins,p.1≠it):Inv X pins σ H { s with heap:=h',toks:=t' }:=by
 have nit:∀b u,H b=some u->b≠it:=λb u e z=>by rw [z,hn]at e;cases e
 refine I.step (g':=s.gens) (d':=s.drawn) (ch:=[it]) (λb hb=>?_) (λb o _ _ hc e _=>k b o (λz=>hc (by simp [z])) e) (λb o _ _ hc e _=>⟨o.slots,k b o (λz=>hc (by simp [z])) e⟩) (λ_ _ _ _ n=>n)
  (λb o hc e=>⟨o,k b o (λz=>hc (by simp [z])) e⟩) (λ_ _ e=>e) (λ_ _ _ e=>e) (λb ps e=>⟨#[],by rw [e];simp⟩) (λm hm=>?_) (λb u e=>?_) I.bare
 ·have e:b=it:=by simpa using hb
  subst e
  exact⟨h1,hL,h2,h3⟩
 ·obtain⟨o,es,ep,ho,r⟩:=hm
  exact⟨o,es,ep,k _ o (Ne.symm hL) ho,r⟩
 ·refine(I.hok b u e).stay (λc v hc q=>k c v ?_ q) (λ_ q=>q) λ_ _ q=>q
  rcases hc with z|z
  ·rw [z];exact nit b u e
  ·exact nit c _ z
theorem Inv.tok(I:Inv X pins σ H s)(t:Nat):Inv X pins σ H { s with toks:=t }:=I.un (h':=s.heap) (t':=t) Un.refl I.hok
theorem Inv.kept{t':Nat}(I:Inv X pins σ H s)(k:∀b u,s.heap.get? b=some u->h'.get? b=some u):Inv X pins σ H { s with heap:=h',toks:=t' }:=I.un (Un.kept k) (I.hok.kept k)
theorem Inv.laid{a:Addr}{o:HO}{t':Nat}(I:Inv X pins σ H s)(k:∀b u,s.heap.get? b=some u->h'.get? b=some u)(hp:s.heap.objs.size<=a)(new:bq X.prog X.w (upd H a o) h' a o) :
  Inv X pins σ (upd H a o) { s with heap:=h',toks:=t' }:=I.un (Un.laid k hp (I.hok.fresh hp)) (I.hok.laid k hp new)
theorem Inv.write{x e:Addr}{o:HO}{t':Nat}(I:Inv X pins σ H s)(mu:Mut (H x))(he:e=x\/H e=some (.own x))(k:∀b u,b≠e->s.heap.get? b=some u->h'.get? b=some u)(heo:∃u,h'.get? e=some u)
  (new:bq X.prog X.w (upd H x o) h' x o):Inv X pins σ (upd H x o) { s with heap:=h',toks:=t' }:=I.un (Un.write mu he k heo) (I.hok.write mu he k heo new)
theorem Inv.pins_of{pins':List (Addr×Obj)}(I:Inv X pins σ H s)(h:∀p∈pins',s.heap.get? p.1=some p.2/\H p.1=none/\p.1≠X.env.locals/\p.1∉X.fs/\∀v,p.2.data≠.cell v):Inv X pins' σ H s :=
 ⟨I.ok,I.os,I.bare,I.base,I.loc,I.cell,I.free,I.freeC,λp hp=>(List.mem_append.mp hp).elim (λz=>I.pin p (List.mem_append_left _ z)) (h p),I.hok,I.len⟩
theorem nM{N:List Str}(hN:N.Nodup){i j:Nat}{x:Str}(a:N[i]?=some x)(b:N[j]?=some x):i=j:=by
 obtain⟨h1,e1⟩:=List.getElem?_eq_some_iff.mp a
 obtain⟨h2,e2⟩:=List.getElem?_eq_some_iff.mp b
 exact(List.getElem_inj hN).mp (e1.trans e2.symm)
theorem lH{M:Model}{A:Around}{E:Value->Shared->Prop}{i:Nat}{x:Str}{v:V}{u:Value}{Q:Unit->Shared->Prop}(I:Inv X pins σ H s)(hN:X.N.Nodup)(hi:X.N[i]?=some x)(hx:Loc X.env.scope x)(r:aq v u)
  (h:∀s',Inv X pins (σ.set i (some v)) H s'->(∃a,Heap.SameBut a s.heap s'.heap/\(a=X.env.locals\/X.env.cells.lookup x=some a))->Q () s') (hf:X.fn x=true\/X.env.scope.names.lookup x=some .local:=by first|exact .inl rfl|exact .inr rfl|assumption):wpAny M A (storeName X.env x u) Q E s:=by
 obtain⟨m,hn,hl⟩:=id I.loc
 have hcls:(X.env.scope.kind == .class || (X.env.scope.kind == .module&&X.env.locals != X.env.globals))=false:=by rw [I.ok.kind];rfl
 have hiσ:i<σ.length:=by rw [I.len];exact(List.getElem?_eq_some_iff.mp hi).1
 have cne:=I.cne
 have tracked:∀{a:Addr}{h':Heap},(∃o,s.heap.get? a=some o/\H a=none)->Heap.SameBut a s.heap h'->HOk X.prog X.w H h':=λ{a h'} ha hs b ob e=>by
  obtain⟨_,_,hfree⟩:=ha
  refine(I.hok b ob e).stay (λc w' hc q=>(hs.2 c ?_).trans q) (λ_ q=>q) λ_ _ q=>q
  rintro rfl
  rcases hc with rfl|hc
  ·rw [hfree]at e;cases e
  ·rw [hfree]at hc;cases hc
 rcases hx with hk|hk
 ·refine wpAny_storeName_local hk hn (λh' hn' hs=>?_) hcls
  obtain⟨oL,_,_,hoL,_⟩:=id hn
  refine h _ ⟨I.ok,I.os,I.bare,⟨λb o e n hb hx=>?_,λb o e n hb hx=>?_,I.base.free,λb o e hx=>?_,I.base.tups,I.base.frzs,I.base.tbls⟩,⟨_,hn',λj y v' e1 e2 e3=>?_⟩,λy c e=>?_,I.free,I.freeC,λp hp=>?_,tracked ⟨oL,hoL,I.free⟩ hs,by simpa using I.len⟩ ⟨_,hs,.inl rfl⟩
  ·exact(hs.2 b (Nat.ne_of_lt (Nat.lt_of_lt_of_le (Heap.lt_size e) I.ok.above))).trans (I.base.keep b o e n hb hx)
  ·obtain⟨sl,e1⟩:=I.base.slot b o e n hb hx
   exact⟨sl,(hs.2 b (Nat.ne_of_lt (Nat.lt_of_lt_of_le (Heap.lt_size e) I.ok.above))).trans e1⟩
  ·obtain⟨o',e1⟩:=I.base.there b o e hx
   exact⟨o',(hs.2 b (Nat.ne_of_lt (Nat.lt_of_lt_of_le (Heap.lt_size e) I.ok.above))).trans e1⟩
  ·by_cases hj:j=i
   ·subst hj
    rw [hi]at e1;cases e1
    rw [List.getElem?_set_self hiσ]at e2
    cases e2
    exact⟨u,r,.inl ⟨hk,by simp⟩⟩
   ·rw [List.getElem?_set_ne (Ne.symm hj)]at e2
    obtain⟨u',r',q⟩:=hl j y v' e1 e2 e3
    refine⟨u',r',?_⟩
    rcases q with ⟨k,e⟩|⟨k,c,e,z⟩
    ·refine .inl ⟨k,?_⟩
     have:y≠x:=λe=>hj (nM hN e1 (e ▸ hi))
     simp [this,e]
    ·exact .inr ⟨k,c,e,z.sameBut hs (cne y c e)⟩
  ·obtain⟨w',z⟩:=I.cell y c e
   exact⟨w',z.sameBut hs (cne y c e)⟩
  ·obtain⟨e,n,ne,nf,d⟩:=I.pin p hp
   exact⟨(hs.2 p.1 ne).trans e,n,ne,nf,d⟩
 ·have hfn:X.fn x=true:=by
   rcases hf with z|z
   ·exact z
   ·rw [z]at hk;cases hk
  obtain⟨c,hc⟩:=I.ok.has x (.inl hk)
  obtain⟨w',z⟩:=I.cell x c hc
  refine wpAny_storeName_cell I.ok.kind hk hc z (λh' hc' hs=>?_)
  obtain⟨oc,hoc,hocd⟩:=id z
  refine h { s with heap:=h' } ⟨I.ok,I.os,I.bare,⟨λb o e n hb hx=>?_,λb o e n hb hx=>?_,I.base.free,λb o e hx=>?_,I.base.tups,I.base.frzs,I.base.tbls⟩,⟨m,hn.sameBut hs (Ne.symm (cne x c hc)),λj y v' e1 e2 e3=>?_⟩,λy c' e=>?_,I.free,I.freeC,λp hp=>?_,tracked ⟨oc,hoc,I.freeC x c hc⟩ hs,by simpa using I.len⟩ ⟨c,hs,.inr hc⟩
  ·exact(hs.2 b (Nat.ne_of_lt (Nat.lt_of_lt_of_le (Heap.lt_size e) (I.ok.cab x c hfn hc)))).trans (I.base.keep b o e n hb hx)
  ·obtain⟨sl,e1⟩:=I.base.slot b o e n hb hx
   exact⟨sl,(hs.2 b (Nat.ne_of_lt (Nat.lt_of_lt_of_le (Heap.lt_size e) (I.ok.cab x c hfn hc)))).trans e1⟩
  ·obtain⟨o',e1⟩:=I.base.there b o e hx
   exact⟨o',(hs.2 b (Nat.ne_of_lt (Nat.lt_of_lt_of_le (Heap.lt_size e) (I.ok.cab x c hfn hc)))).trans e1⟩
  ·by_cases hj:j=i
   ·subst hj
    rw [hi]at e1;cases e1
    rw [List.getElem?_set_self hiσ]at e2
    cases e2
    exact⟨u,r,.inr ⟨.inl hk,c,hc,hc'⟩⟩
   ·rw [List.getElem?_set_ne (Ne.symm hj)]at e2
    obtain⟨u',r',q⟩:=hl j y v' e1 e2 e3
    refine⟨u',r',?_⟩
    rcases q with q|⟨k,c',e,z'⟩
    ·exact .inl q
    ·refine .inr ⟨k,c',e,z'.sameBut hs ?_⟩
     rintro rfl
     exact hj (nM hN e1 (I.ok.inj _ _ _ e hc ▸ hi))
  ·by_cases hcc:c'=c
   ·subst hcc;exact⟨_,hc'⟩
   ·obtain⟨w2,z2⟩:=I.cell y c' e
    exact⟨w2,z2.sameBut hs hcc⟩
  ·obtain⟨e,n,ne,nf,d⟩:=I.pin p hp
   refine⟨(hs.2 p.1 ?_).trans e,n,ne,nf,d⟩
   intro q
   rw [q,hoc]at e
   have q':oc=p.2:=Option.some.inj e
   exact d w' (by rw [<- q'];exact hocd)
theorem nN{M:Model}{A:Around}{E:Value->Shared->Prop}{i:Nat}{x:Str}{v:V}{u:Value}{Q:Unit->Shared->Prop}(I:Inv X pins σ H s)(hN:X.N.Nodup)(hi:X.N[i]?=some x)(hx:Loc X.env.scope x)(r:aq v u)
  (h:∀s',Inv X pins (σ.set i (some v)) H s'->Q () s') (hf:X.fn x=true\/X.env.scope.names.lookup x=some .local:=by first|exact .inl rfl|exact .inr rfl|assumption):wpAny M A (storeName X.env x u) Q E s :=
 lH I hN hi hx r (λs' I' _=>h s' I') hf
theorem Inv.call'{s':Shared}{ch:List Addr}(I:Inv X pins σ H s)(ho:s'.os=s.os)(u:Un (frs X.stack) ch H H' s.heap s'.heap)(hok:HOk X.prog X.w H' s'.heap)(hg:AllBare s'.gens)
  (hch:∀b∈ch,(b∈X.ex\/X.s₀.heap.objs.size<=b)/\b≠X.env.locals/\(∀x c,X.env.cells.lookup x=some c->c≠b)/\∀p∈X.pn++pins,p.1≠b):Inv X pins σ H' s':=by
 obtain⟨h',g',d',t',o'⟩:=s'
 have e:o'=s.os:=ho
 subst e
 exact I.call (g':=g') (t':=t') (d':=d') u hok hg hch
end
noncomputable abbrev XK:=Value->Option Addr->Hp->Prop
noncomputable abbrev St:=List (Option V)
noncomputable abbrev VK:=V->Hp->Prop
noncomputable abbrev TE:=St->Hp->VK->Prop
noncomputable abbrev TT:=St->Hp->(Bool->Hp->Prop)->Prop
noncomputable abbrev TA:=St->Hp->(List V->Hp->Prop)->Prop
structure jx where
 nx:St->Hp->Prop
 rt:VK
 bk:St->Hp->Prop:=λ_ _=>False
 ct:St->Hp->Prop:=λ_ _=>False
noncomputable abbrev TS:=jx->St->Hp->Prop
noncomputable def EP(X:Cx)(pins:List (Addr×Obj))(σ:St)(Q:VK)(u:Value)(s':Shared):Prop:=∃v H',Inv X pins σ H' s'/\aq v u/\Q v H'
noncomputable def TP(X:Cx)(pins:List (Addr×Obj))(σ:St)(Q:Bool->Hp->Prop)(b:Bool)(s':Shared):Prop:=∃H',Inv X pins σ H' s'/\Q b H'
noncomputable def AP(X:Cx)(pins:List (Addr×Obj))(σ:St)(Q:List V->Hp->Prop)(us:List Value)(s':Shared):Prop:=∃vs H',Inv X pins σ H' s'/\aw vs us/\Q vs H'
noncomputable def SP(X:Cx)(pins:List (Addr×Obj))(D:jx)(f:Flow)(s':Shared):Prop :=
 match f with
 | .next=>∃σ' H',Inv X pins σ' H' s'/\D.nx σ' H'
 | .brk=>∃σ' H',Inv X pins σ' H' s'/\D.bk σ' H'
 | .cont=>∃σ' H',Inv X pins σ' H' s'/\D.ct σ' H'
 | .ret u=>∃v σ' H',Inv X pins σ' H' s'/\aq v u/\D.rt v H'
noncomputable def PE(X:Cx)(e:Expr)(t:TE):Prop :=
 ∀(pins:List (Addr×Obj)) (s:Shared) (σ:St) (H:Hp) (Q:VK),Inv X pins σ H s->t σ H Q->wpAny (model X.prog X.w) X.A (eval e X.env) (EP X pins σ Q) X.xe s
noncomputable def PT(X:Cx)(e:Expr)(t:TT):Prop :=
 ∀(pins:List (Addr×Obj)) (s:Shared) (σ:St) (H:Hp) (Q:Bool->Hp->Prop),Inv X pins σ H s->t σ H Q->wpAny (model X.prog X.w) X.A (isTrue e X.env (eval e X.env)) (TP X pins σ Q) X.xe s
noncomputable def PW(X:Cx)(e:Expr)(t:TT):Prop :=
 ∀(whole:Sem Value) (pins:List (Addr×Obj)) (s:Shared) (σ:St) (H:Hp) (Q:Bool->Hp->Prop),Inv X pins σ H s->t σ H Q->wpAny (model X.prog X.w) X.A (isTrue e X.env whole) (TP X pins σ Q) X.xe s
theorem PW.pt{X:Cx}{e:Expr}{t:TT}(h:PW X e t):PT X e t:=h _
noncomputable def PA(X:Cx)(es:List Expr)(t:TA):Prop :=
 ∀(pos:Pos) (pins:List (Addr×Obj)) (s:Shared) (σ:St) (H:Hp) (Q:List V->Hp->Prop),Inv X pins σ H s->t σ H Q->wpAny (model X.prog X.w) X.A (spliced (backTo pos (starEach es X.env))) (AP X pins σ Q) X.xe s
noncomputable def PS(X:Cx)(st:Stmt)(t:TS):Prop :=
 ∀(pins:List (Addr×Obj)) (s:Shared) (σ:St) (H:Hp) (D:jx),Inv X pins σ H s->t D σ H->wpAny (model X.prog X.w) X.A (exec st X.env) (SP X pins D) X.xe s
noncomputable def PSs(X:Cx)(st:List Stmt)(t:TS):Prop :=
 ∀(pins:List (Addr×Obj)) (s:Shared) (σ:St) (H:Hp) (D:jx),Inv X pins σ H s->t D σ H->wpAny (model X.prog X.w) X.A (execs st X.env) (SP X pins D) X.xe s
theorem thn{α:Type}{t:Sem α}{Q Q':α->Shared->Prop}{M:Model}{A:Around}{E:Value->Shared->Prop}{s:Shared}(h:wpAny M A t Q E s)(hQ:∀a s,Q a s->Q' a s):wpAny M A t Q' E s:=wpAny_mono h hQ λ_ _ x=>x
end L2
namespace L2
open PySem PySem.Spec PyProof.Rows
section
variable{X:Cx}
theorem bin{a b:Expr}{ta tb:TE}(ha:PE X a ta)(hb:PE X b tb){pins:List (Addr×Obj)}{s:Shared}{σ:St}{H:Hp}{R:V->V->Hp->Prop}(I:Inv X pins σ H s)(h:ta σ H λx H1=>tb σ H1 λy H2=>R x y H2)
  {α:Type}{Q:α->Shared->Prop}{f:Value->Value->Sem α}
  (hf:∀v u s2 x y H2,Inv X pins σ H2 s2->aq x v->aq y u->R x y H2->wpAny (model X.prog X.w) X.A (f v u) Q X.xe s2) :
  wpAny (model X.prog X.w) X.A (eval a X.env) (λv s₁=>wpAny (model X.prog X.w) X.A (eval b X.env) (λu s₂=>wpAny (model X.prog X.w) X.A (f v u) Q X.xe s₂) X.xe s₁) X.xe s:=by
 refine thn (ha pins s σ H _ I h) λv s1 ⟨x,H1,I1,r1,q1⟩=>?_
 refine thn (hb pins s1 σ H1 _ I1 q1) λu s2 ⟨y,H2,I2,r2,q2⟩=>?_
 exact hf v u s2 x y H2 I2 r1 r2 q2
noncomputable def AG(i:Nat):TE:=λσ H Q=>∃v,σ[i]?=some (some v)/\Q v H
noncomputable def tC(v:V):TE:=λ_ H Q=>Q v H
theorem ya {i:Nat}{x:Str}{pos:Pos} (hN:X.N[i]?=some x) (hv:Vis X.env.scope x) (hd:(x == ("__debug__":Str))=false:=by decide) (hcd:(x == ("__classdict__":Str))=false:=by decide):PE X (.Name x pos) (AG i):=by
 intro pins s σ H Q I h
 obtain⟨v,e,h⟩:=h
 obtain⟨m,hn,hl⟩:=I.loc
 obtain⟨u,r,l⟩:=hl i x v hN e hv
 have fin:EP X pins σ Q u s:=⟨v,H,I,r,h⟩
 rcases l with ⟨hk,hm⟩|⟨hk,c,hc,hcell⟩
 ·exact wpAny_Name (wpAny_loadName_local I.ok.kind hk hn hm fin) hd
 ·rcases hk with hk|hk
  ·exact wpAny_Name (wpAny_loadName_cell I.ok.kind hk hc hcell fin) hd
  ·exact wpAny_Name (wpAny_loadName_free I.ok.kind hk hc hcell fin hcd) hd
theorem yb{i j pos}:PE X (.Constant (.int i) j pos) (tC (.int i)):=λ_ _ _ H _ I h=>wpAny_Constant_int ⟨.int i,H,I.tok _,⟨_,rfl⟩,h⟩
theorem AH{b j pos}:PE X (.Constant (.bool b) j pos) (tC (.bl b)):=λ_ _ _ H _ I h=>Constant_bool ⟨.bl b,H,I,rfl,h⟩
theorem yc{j pos}:PE X (.Constant .none j pos) (tC .non):=λ_ _ _ H _ I h=>Constant_none ⟨.non,H,I,rfl,h⟩
theorem yd{x j pos}:PE X (.Constant (.str x) j pos) (tC (.str x)):=λ_ _ _ H _ I h=>Calls.Constant_str ⟨.str x,H,I.tok _,⟨_,rfl⟩,h⟩
noncomputable def Gl(X:Cx)(x:Str):Prop:=X.env.kindOf x=some .globalImplicit
theorem mN{E:Value->Shared->Prop}{pins:List (Addr×Obj)}{s:Shared}{σ:St}{H:Hp}{x:Str}{u:Value}{pos:Pos}{Q:Value->Shared->Prop}(I:Inv X pins σ H s)(hg:Gl X x)(hm:X.mg x=some u)(h:Q u s)
  (hd:(x == ("__debug__":Str))=false:=by decide):wpAny (model X.prog X.w) X.A (eval (.Name x pos) X.env) Q E s :=
 Calls.Name_function_global I.ok.kind hg (Calls.loadGlobal_global (by rw [I.ok.glob];exact I.mod.glob.keeps I.bk) hm h) hd
theorem iQ{E:Value->Shared->Prop}{pins:List (Addr×Obj)}{s:Shared}{σ:St}{H:Hp}{x:Str}{u:Value}{pos:Pos}{Q:Value->Shared->Prop}(I:Inv X pins σ H s)(hg:Gl X x)(hm:X.mg x=none)(hv:bootBuiltins x=some u)(h:Q u s)
  (hn:x ≠ "__name__":=by decide) (hd:(x == ("__debug__":Str))=false:=by decide):wpAny (model X.prog X.w) X.A (eval (.Name x pos) X.env) Q E s:=by
 obtain⟨mb,h1,h2⟩:=I.mod.blt
 exact Calls.Name_function_global I.ok.kind hg (Calls.loadGlobal_builtin (by rw [I.ok.glob];exact I.mod.glob.keeps I.bk) hm (by rw [I.ok.blt];exact h1.keeps I.bk) ((h2 x hn).trans hv) h) hd
theorem v3 {x:Str}{v:V}{u:Value}{pos:Pos} (hg:Gl X x) (hm:X.mg x=some u) (r:aq v u) (hd:(x == ("__debug__":Str))=false:=by decide):PE X (.Name x pos) (tC v) :=
 λ_ _ _ H _ I h=>mN I hg hm ⟨v,H,I,r,h⟩ hd
theorem v4 {x:Str}{v:V}{u:Value}{pos:Pos} (hg:Gl X x) (hm:X.mg x=none) (hv:bootBuiltins x=some u) (r:aq v u) (hn:x ≠ "__name__":=by decide) (hd:(x == ("__debug__":Str))=false:=by decide):PE X (.Name x pos) (tC v) :=
 λ_ _ _ H _ I h=>iQ I hg hm hv ⟨v,H,I,r,h⟩ hn hd
variable{a b:Expr}{ta tb:TE}{pos:Pos}
noncomputable def PC(X:Cx)(op:CmpOp)(a b:Expr)(t:TE):Prop :=
 ∀(pins:List (Addr×Obj)) (s:Shared) (σ:St) (H:Hp) (Q:VK),Inv X pins σ H s->t σ H Q ->
  wpAny (model X.prog X.w) X.A (eval a X.env) (λv s₁=>wpAny (model X.prog X.w) X.A (eval b X.env) (λu s₂=>wpAny (model X.prog X.w) X.A (compareOp op v u) (EP X pins σ Q) X.xe s₂) X.xe s₁) X.xe s
noncomputable def tB(t:TE):TT:=λσ H Q=>t σ H λx H1=>∃c,x=.bl c/\Q c H1
theorem sC{op:CmpOp}{t:TE}(h:PC X op a b t)(h1:behindInMarks op b=false:=by first|exact nobehind _ (by decide) (by decide)|rfl):PE X (.Compare a [op] [b] pos) t:=λpins s σ H Q I hw=>wpAny_Compare1 (h pins s σ H Q I hw) h1
theorem sD{op:CmpOp}{t:TE}(h:PC X op a b t)(h1:behindInMarks op b=false:=by first|exact nobehind _ (by decide) (by decide)|rfl):PT X (.Compare a [op] [b] pos) (tB t):=by
 intro pins s σ H Q I hw
 refine wpAny_isTrue_Compare1 (thn (h pins s σ H _ I hw) λv s1 h1=>thn h1 λu s2 h2=>thn h2 λc s3 ⟨x,H1,I1,r1,q1⟩=>?_) h1
 obtain⟨d,rfl,q⟩:=q1
 cases r1
 exact wpAny_truthy_bool ⟨H1,I1,q⟩
theorem ye{e:Expr}{t:TE}(h:PE X e t)(he:∀whole,isTrue e X.env whole=(do let v <- whole;standAt e.pos;holding [v] (truthy v)):=by intro _;rfl):PT X e (tB t):=by
 intro pins s σ H Q I hw
 refine isTrue_plain (thn (h pins s σ H _ I hw) λv s1 ⟨x,H1,I1,r1,q1⟩=>?_) (he _)
 obtain⟨d,rfl,q⟩:=q1
 cases r1
 exact wpAny_truthy_bool ⟨H1,I1,q⟩
variable{tA tB':TT}{cx:List Expr}
noncomputable def Cw(t u:TT):TT:=λσ H Q=>t σ H λc H1=>if c=true then u σ H1 Q else Q false H1
noncomputable def tOr(t u:TT):TT:=λσ H Q=>t σ H λc H1=>if c=true then Q true H1 else u σ H1 Q
noncomputable def Cy(t:TT):TT:=λσ H Q=>t σ H λc H1=>Q (!c) H1
theorem v5(ha:PT X a tA):PW X (.BoolOp .And [a] pos) tA:=by
 intro wh pins s σ H Q I h
 refine isTrue_and (thn (ha pins s σ H Q I h) λc s1 e=>?_)
 cases c with
 |true=>exact isTrue_and_nil e
 |false=>exact e
theorem yf(ha:PT X a tA):PW X (.BoolOp .Or [a] pos) tA:=by
 intro wh pins s σ H Q I h
 refine isTrue_or (thn (ha pins s σ H Q I h) λc s1 e=>?_)
 cases c with
 |false=>exact isTrue_or_nil e
 |true=>exact e
theorem yg(ha:PT X a tA)(hb:PW X (.BoolOp .And (b::cx) pos) tB'):PW X (.BoolOp .And (a::b::cx) pos) (Cw tA tB'):=by
 intro wh pins s σ H Q I h
 refine isTrue_and (thn (ha pins s σ H _ I h) λc s1 ⟨H1,I1,q1⟩=>?_)
 cases c with
 |true=>exact hb wh pins s1 σ H1 Q I1 q1
 |false=>exact⟨H1,I1,q1⟩
theorem AI(ha:PT X a tA)(hb:PW X (.BoolOp .Or (b::cx) pos) tB'):PW X (.BoolOp .Or (a::b::cx) pos) (tOr tA tB'):=by
 intro wh pins s σ H Q I h
 refine isTrue_or (thn (ha pins s σ H _ I h) λc s1 ⟨H1,I1,q1⟩=>?_)
 cases c with
 |true=>exact⟨H1,I1,q1⟩
 |false=>exact hb wh pins s1 σ H1 Q I1 q1
theorem yh(ha:PT X a tA):PT X (.UnaryOp .Not a pos) (Cy tA):=by
 intro pins s σ H Q I h
 exact isTrue_not (ha pins s σ H (λc H1=>Q (!c) H1) I h)
noncomputable def AJ(ta tb:TE):TE:=λσ H Q=>ta σ H λx H1=>∃c,x=.bl c/\if c=true then tb σ H1 Q else Q (.bl false) H1
noncomputable def Cz(ta tb:TE):TE:=λσ H Q=>ta σ H λx H1=>∃c,x=.bl c/\if c=true then Q (.bl true) H1 else tb σ H1 Q
noncomputable def AK(ta:TE):TE:=λσ H Q=>ta σ H λx H1=>∃c,x=.bl c/\Q (.bl (!c)) H1
theorem sE{op}{t:TE}(h:PE X a t):PE X (.BoolOp op [a] pos) t:=λpins s σ H Q I hw=>BoolOp_one (h pins s σ H Q I hw)
theorem yi(ha:PE X a ta)(hb:PE X (.BoolOp .And (b::cx) pos) tb):PE X (.BoolOp .And (a::b::cx) pos) (AJ ta tb):=by
 intro pins s σ H Q I h
 refine BoolOp_and (thn (ha pins s σ H _ I h) λv s1 ⟨x,H1,I1,r1,q1⟩=>?_)
 obtain⟨c,rfl,q1⟩:=q1
 cases r1
 refine wpAny_truthy_bool ?_
 cases c with
 |true=>exact hb pins s1 σ H1 Q I1 q1
 |false=>exact⟨.bl false,H1,I1,rfl,q1⟩
theorem AL(ha:PE X a ta)(hb:PE X (.BoolOp .Or (b::cx) pos) tb):PE X (.BoolOp .Or (a::b::cx) pos) (Cz ta tb):=by
 intro pins s σ H Q I h
 refine BoolOp_or (thn (ha pins s σ H _ I h) λv s1 ⟨x,H1,I1,r1,q1⟩=>?_)
 obtain⟨c,rfl,q1⟩:=q1
 cases r1
 refine wpAny_truthy_bool ?_
 cases c with
 |false=>exact hb pins s1 σ H1 Q I1 q1
 |true=>exact⟨.bl true,H1,I1,rfl,q1⟩
theorem yj(ha:PE X a ta):PE X (.UnaryOp .Not a pos) (AK ta):=by
 intro pins s σ H Q I h
 refine UnaryOp_ (thn (ha pins s σ H _ I h) λv s1 ⟨x,H1,I1,r1,q1⟩=>?_)
 obtain⟨c,rfl,q1⟩:=q1
 cases r1
 exact not_of (wpAny_truthy_bool ⟨.bl (!c),H1,I1,rfl,q1⟩)
noncomputable def tIf(t:TT)(ta tb:TE):TE:=λσ H Q=>t σ H λc H1=>if c=true then ta σ H1 Q else tb σ H1 Q
theorem sF{c:Expr}(hc:PT X c tA)(ha:PE X a ta)(hb:PE X b tb):PE X (.IfExp c a b pos) (tIf tA ta tb):=by
 intro pins s σ H Q I h
 refine wpAny_IfExp (thn (hc pins s σ H _ I h) λd s1 ⟨H1,I1,q1⟩=>?_)
 cases d with
 |true=>exact ha pins s1 σ H1 Q I1 q1
 |false=>exact hb pins s1 σ H1 Q I1 q1
end
end L2
namespace L2
open PySem PySem.Spec PyProof.Rows
noncomputable def SqL(K:PySem.W.Frag)(H:Hp)(a:Addr)(xs:List V):Prop :=
 Rd H a (.lst xs) \/
  ∃(o:Obj) (its:Array Value) (n:Nat),K.lookup a=some o/\o.cls=.type "list"/\o.dict=none/\o.data=.seq its n/\its.size<=sizeLine/\aw xs its.toList
noncomputable def SqT(K:PySem.W.Frag)(H:Hp)(a:Addr)(xs:List V):Prop :=
 Rd H a (.tup xs) \/
  ∃(o:Obj) (its:Array Value) (n:Nat),K.lookup a=some o/\o.cls=.type "tuple"/\o.data=.seq its n/\its.size<=sizeLine/\aw xs its.toList
noncomputable def CA:Value->Option V
 | .none=>some .non
 | .bool b=>some (.bl b)
 | .int i _=>some (.int i)
 | .str x _=>some (.str x)
 | .bytes b _=>some (.byt b)
 | .float b _=>some (.flt b)
 | .ref a=>some (.ref a)
 | .type n=>some (.ty n)
 | _=>none
theorem aq.abs{x:V}{u:Value}(r:aq x u):CA u=some x:=by
 cases x with
 |non=>cases r;rfl
 |bl _=>cases r;rfl
 |int _=>obtain⟨t,rfl⟩:=r;rfl
 |str _=>obtain⟨t,rfl⟩:=r;rfl
 |byt _=>obtain⟨t,rfl⟩:=r;rfl
 |flt _=>obtain⟨t,rfl⟩:=r;rfl
 |ref _=>cases r;rfl
 |ty _=>cases r;rfl
theorem aq.inj{x y:V}{u:Value}(r:aq x u)(q:aq y u):x=y:=Option.some.inj (r.abs.symm.trans q.abs)
theorem aw.inj:∀{xs ys:List V}{us:List Value},aw xs us->aw ys us->xs=ys
 | _,_,_,.nil,.nil=>rfl
 | _,_,_,.cons r t,.cons r' t'=>by rw [r.inj r',aw.inj t t']
section
variable{X:Cx}{pins:List (Addr×Obj)}{σ:St}{H:Hp}{s:Shared}{a:Addr}{xs ys:List V}
theorem SqL.of{K:PySem.W.Frag}(h:H a=some (.lst xs)):SqL K H a xs:=.inl (.inl h)
theorem SqT.of{K:PySem.W.Frag}(h:H a=some (.tup xs)):SqT K H a xs:=.inl (.inl h)
theorem Inv.list(I:Inv X pins σ H s)(h:SqL X.K H a xs):∃its:List Value,aw xs its/\PlainL s.heap a its.toArray/\xs.length<=sizeLine:=by
 rcases h with h|⟨o,its,n,hk,hc,hd,hs,hz,r⟩
 ·obtain⟨z,its,n,r,e⟩:=h.ok I.hok
  exact⟨its,r,⟨_,n,e,rfl,rfl,rfl⟩,z⟩
 ·refine⟨its.toList,r,⟨o,n,I.kIn a o hk,hc,hd,by simpa using hs⟩,?_⟩
  have e:=r.length
  simp only [Array.length_toList]at e
  omega
theorem Inv.tuple(I:Inv X pins σ H s)(h:SqT X.K H a xs):∃its:List Value,aw xs its/\IsTup s.heap a its.toArray/\xs.length<=sizeLine:=by
 rcases h with h|⟨o,its,n,hk,hc,hs,hz,r⟩
 ·obtain⟨z,its,r,p⟩:=h.ok I.hok
  exact⟨its,r,p,z⟩
 ·refine⟨its.toList,r,⟨o,I.kIn a o hk,hc,n,by simpa using hs⟩,?_⟩
  have e:=r.length
  simp only [Array.length_toList]at e
  omega
theorem Inv.list_inj(I:Inv X pins σ H s)(h:SqL X.K H a xs)(h':SqL X.K H a ys):xs=ys:=by
 obtain⟨its,r,⟨o,n,e,_,_,d⟩,_⟩:=I.list h
 obtain⟨its',r',⟨o',n',e',_,_,d'⟩,_⟩:=I.list h'
 rw [e]at e';cases e'
 rw [d]at d'
 injection d' with d1 _
 have:its=its':=by simpa using congrArg Array.toList d1
 subst this
 exact r.inj r'
theorem Inv.tuple_inj(I:Inv X pins σ H s)(h:SqT X.K H a xs)(h':SqT X.K H a ys):xs=ys:=by
 obtain⟨its,r,⟨o,e,_,n,d⟩,_⟩:=I.tuple h
 obtain⟨its',r',⟨o',e',_,n',d'⟩,_⟩:=I.tuple h'
 rw [e]at e';cases e'
 rw [d]at d'
 injection d' with d1 _
 have:its=its':=by simpa using congrArg Array.toList d1
 subst this
 exact r.inj r'
end
noncomputable abbrev Cx.wish(X:Cx)(E:Value->Shared->Prop):Cx:={ X with xe:=E }
noncomputable abbrev Cx.nox(X:Cx):Cx:=X.wish λ_ _=>False
theorem Cx.Ok.wish{X:Cx}(ok:X.Ok)(E:Value->Shared->Prop):(X.wish E).Ok :=
 ⟨ok.mod,ok.kind,ok.glob,ok.blt,ok.above,ok.inj,ok.has,ok.cab,ok.hd,ok.frames,ok.stk,ok.exf,ok.bs,ok.bsz,ok.noex,ok.exfs,ok.funs,ok.frf⟩
theorem Cx.Ok.unwish{X:Cx}{E:Value->Shared->Prop}(ok:(X.wish E).Ok):X.Ok :=
 ⟨ok.mod,ok.kind,ok.glob,ok.blt,ok.above,ok.inj,ok.has,ok.cab,ok.hd,ok.frames,ok.stk,ok.exf,ok.bs,ok.bsz,ok.noex,ok.exfs,ok.funs,ok.frf⟩
section
variable{X:Cx}{pins:List (Addr×Obj)}{σ:St}{H:Hp}{s:Shared}{E:Value->Shared->Prop}
theorem Inv.wish(I:Inv X pins σ H s)(E:Value->Shared->Prop):Inv (X.wish E) pins σ H s:=⟨I.ok.wish E,I.os,I.bare,I.base,I.loc,I.cell,I.free,I.freeC,I.pin,I.hok,I.len⟩
theorem Inv.unwish(I:Inv (X.wish E) pins σ H s):Inv X pins σ H s:=⟨I.ok.unwish,I.os,I.bare,I.base,I.loc,I.cell,I.free,I.freeC,I.pin,I.hok,I.len⟩
theorem SP.unwish{D:jx}{f:Flow}{s':Shared}(h:SP (X.wish E) pins D f s'):SP X pins D f s':=by
 cases f with
 |next=>obtain⟨σ',H',I,q⟩:=h;exact⟨σ',H',I.unwish,q⟩
 |brk=>obtain⟨σ',H',I,q⟩:=h;exact⟨σ',H',I.unwish,q⟩
 |cont=>obtain⟨σ',H',I,q⟩:=h;exact⟨σ',H',I.unwish,q⟩
 |ret u=>obtain⟨v,σ',H',I,r,q⟩:=h;exact⟨v,σ',H',I.unwish,r,q⟩
theorem PSs.nox{st:List Stmt}{t:TS}(h:PSs X.nox st t):PSs X st t:=λpins s σ H D I hw =>
 wpAny_mono (h pins s σ H D (I.wish _) hw) (λ_ _ q=>q.unwish) λ_ _ z=>False.elim z
end
section
variable{X:Cx}{st:Stmt}{cx:List Stmt}{t u:TS}{e:Expr}{te:TE}{pos:Pos}
noncomputable def AM:TS:=λD σ H=>D.nx σ H
noncomputable def CB(t u:TS):TS:=λD σ H=>t { D with nx:=u D } σ H
theorem v6:PSs X [] AM:=λ_ _ σ H _ I h=>wpAny_execs_nil ⟨σ,H,I,h⟩
theorem sG(h1:PS X st t)(h2:PSs X cx u):PSs X (st::cx) (CB t u):=by
 intro pins s σ H D I h
 refine wpAny_execs_cons (thn (h1 pins s σ H { D with nx:=u D } I h) λf s1 q=>?_)
 cases f with
 |next =>
  obtain⟨σ',H',I',q⟩:=q
  exact h2 pins s1 σ' H' D I' q
 |ret v=>exact q
 |brk=>exact q
 |cont=>exact q
theorem Inv.quiet{pins:List (Addr×Obj)}{σ:St}{H:Hp}{s:Shared}(I:Inv X pins σ H s):interactive X.env=false:=by simp [interactive,I.ok.kind]
noncomputable def AN(te:TE):TS:=λD σ H=>te σ H λ_ H1=>D.nx σ H1
theorem gw(he:PE X e te)(hs:swapsWith e none pos.line X.env=pure false:=by rfl):PS X (.Expr e pos) (AN te):=by
 intro pins s σ H D I h
 exact wpAny_Expr_any (thn (he pins s σ H _ I h) λv s1 ⟨x,H1,I1,r1,q1⟩=>⟨σ,H1,I1,q1⟩) I.quiet hs
noncomputable def CC(te:TE):TS:=λD σ H=>te σ H D.rt
theorem o8(he:PE X e te):PS X (.Return (some e) pos) (CC te):=by
 intro pins s σ H D I h
 exact wpAny_Return_some (thn (he pins s σ H _ I h) λv s1 ⟨x,H1,I1,r1,q1⟩=>⟨x,σ,H1,I1,r1,q1⟩)
noncomputable def CD(c:TT)(t u:TS):TS:=λD σ H=>c σ H λb H1=>if b=true then t D σ H1 else u D σ H1
theorem AO{c:Expr}{a b:List Stmt}{tc:TT}(hc:PT X c tc)(ha:PSs X a t)(hb:PSs X b u):PS X (.If c a b pos) (CD tc t u):=by
 intro pins s σ H D I h
 refine wpAny_If (thn (hc pins s σ H _ I h) λd s1 ⟨H1,I1,q1⟩=>?_)
 cases d with
 |true=>exact ha pins s1 σ H1 D I1 q1
 |false=>exact hb pins s1 σ H1 D I1 q1
noncomputable def yk:TS:=λ_ _ _=>False
theorem sH:PS X st yk:=λ_ _ _ _ _ _ h=>h.elim
end
noncomputable abbrev TG:=V->St->Hp->(St->Hp->Prop)->Prop
noncomputable abbrev TGs:=List V->St->Hp->(St->Hp->Prop)->Prop
noncomputable def PG(X:Cx)(target:Expr)(t:TG):Prop :=
 ∀(pins:List (Addr×Obj)) (s:Shared) (σ:St) (H:Hp) (v:V) (u:Value) (Q:St->Hp->Prop),Inv X pins σ H s->aq v u->t v σ H Q ->
  wpAny (model X.prog X.w) X.A (assign target X.env u) (λ_ s'=>∃σ' H',Inv X pins σ' H' s'/\Q σ' H') X.xe s
noncomputable def PGs(X:Cx)(ts:List Expr)(t:TGs):Prop :=
 ∀(pins:List (Addr×Obj)) (s:Shared) (σ:St) (H:Hp) (vs:List V) (us:List Value) (Q:St->Hp->Prop),Inv X pins σ H s->aw vs us->t vs σ H Q ->
  wpAny (model X.prog X.w) X.A (assignInOrder ((assignEach ts X.env).map (·.2)) us) (λ_ s'=>∃σ' H',Inv X pins σ' H' s'/\Q σ' H') X.xe s
noncomputable abbrev yl:=V->V->V->Hp->(Hp->Prop)->Prop
noncomputable def AQ(X:Cx)(t:yl):Prop :=
 ∀(pins:List (Addr×Obj)) (s:Shared) (σ:St) (H:Hp) (o i v:V) (ov iv u:Value) (Q:Hp->Prop),Inv X pins σ H s->aq o ov->aq i iv->aq v u->t o i v H Q ->
  wpAny (model X.prog X.w) X.A (setItem ov iv u) (λ_ s'=>∃H',Inv X pins σ H' s'/\Q H') X.xe s
section
variable{X:Cx}{pos:Pos}
noncomputable def ic(i:Nat):TG:=λv σ H Q=>Q (σ.set i (some v)) H
theorem mO{i:Nat}{x:Str}(hN:X.N.Nodup)(hi:X.N[i]?=some x)(hx:Loc X.env.scope x)(hf:X.fn x=true\/X.env.scope.names.lookup x=some .local:=by first|exact .inl rfl|exact .inr rfl|assumption):PG X (.Name x pos) (ic i):=by
 intro pins s σ H v u Q I r h
 exact wpAny_assign_Name (nN I hN hi hx r (λs' I'=>⟨_,H,I',h⟩) hf)
noncomputable def AR:TGs:=λvs σ H Q=>vs=[]/\Q σ H
noncomputable def xJ(t:TG)(u:TGs):TGs:=λvs σ H Q=>∃v r,vs=v::r/\t v σ H λσ' H'=>u r σ' H' Q
theorem v7:PGs X [] AR:=by
 intro pins s σ H vs us Q I r h
 obtain⟨e,h⟩:=h
 subst e
 cases r
 exact assignInOrder_nil ⟨σ,H,I,h⟩
theorem sI{e:Expr}{es:List Expr}{t:TG}{u:TGs}(h1:PG X e t)(h2:PGs X es u)
  (hs:(assignEach (e::es) X.env).map (·.2)=assign e X.env::(assignEach es X.env).map (·.2):=by rfl):PGs X (e::es) (xJ t u):=by
 intro pins s σ H vs us Q I r h
 obtain⟨v,vr,e1,h⟩:=h
 subst e1
 cases r with
 |cons r rr =>
  rw [hs]
  refine assignInOrder_cons (thn (h1 pins s σ H _ _ _ I r h) λ_ s1 ⟨σ1,H1,I1,q1⟩=>?_)
  exact h2 pins s1 σ1 H1 _ _ Q I1 rr q1
noncomputable def AS(K:PySem.W.Frag)(n:Nat)(t:TGs):TG:=λv σ H Q=>∃a xs,v=.ref a/\SqT K H a xs/\xs.length=n/\t xs σ H Q
theorem ym{es:List Expr}{k:Nat}{t:TGs}{n:Nat}(hc:X.calm=true)(h:PGs X es t)
  (hn:(assignEach es X.env).length=n:=by rfl) (hst:(assignEach es X.env).findIdx? (·.1)=none:=by rfl):PG X (.Tuple es k pos) (AS X.K n t):=by
 intro pins s σ H v u Q I r hw
 obtain⟨a,xs,e1,hq,hl,hw⟩:=hw
 subst e1
 cases r
 obtain⟨its,rv,ht,hz⟩:=I.tuple hq
 refine assign_Tuple_tuple (I.ok.hd hc) ht (by simp [hn,<- hl,rv.length]) hst λh' hx=>?_
 have I1:Inv X pins σ H { s with heap:=h' }:=I.kept (t':=s.toks) λb o e=>hx b o (Nat.ne_of_lt (Heap.lt_size e)) e
 exact h pins _ σ H xs _ Q I1 (by simpa using rv) hw
noncomputable def CF(to ti:TE)(t:yl):TG:=λv σ H Q=>to σ H λo H1=>ti σ H1 λi H2=>t o i v H2 λH3=>Q σ H3
theorem yn{o i:Expr}{to ti:TE}{t:yl}(ho:PE X o to)(hi:PE X i ti)(hs:AQ X t)
  (ha:∀v,assign (.Subscript o i pos) X.env v=(do
   let ov <- holding [v] (eval o X.env)
   let iv <- holding [v,ov] (eval i X.env)
   standAt pos
   holding [v,ov,iv] (setItem ov iv v)
   release [v,ov,iv] []):=by intro _;rfl):PG X (.Subscript o i pos) (CF to ti t):=by
 intro pins s σ H v u Q I r h
 rw [ha]
 refine wpAny_bind (wpAny_holding (thn (ho pins s σ H _ I h) λov s1 ⟨x,H1,I1,r1,q1⟩=>?_))
 refine wpAny_bind (wpAny_holding (thn (hi pins s1 σ H1 _ I1 q1) λiv s2 ⟨y,H2,I2,r2,q2⟩=>?_))
 refine wpAny_bind (wpAny_standAt (wpAny_bind (wpAny_holding (thn (hs pins s2 σ H2 x y v ov iv u _ I2 r1 r2 r q2) λ_ s3 ⟨H3,I3,q3⟩=>?_))))
 exact wpAny_release ⟨σ,H3,I3,q3⟩
noncomputable def q_(te:TE)(g:TG):TS:=λD σ H=>te σ H λx H1=>g x σ H1 D.nx
theorem yo{tg e:Expr}{te:TE}{g:TG}(he:PE X e te)(hg:PG X tg g)(hs:swapsWithSole [tg] e pos.line X.env=pure false:=by rfl)(hw:swappedStores [tg] e X.env=pure none:=by rfl)
  (h1:(assignEach [tg] X.env).map (·.2)=[assign tg X.env]:=by rfl):PS X (.Assign [tg] e pos) (q_ te g):=by
 intro pins s σ H D I h
 refine wpAny_Assign_stores (thn (he pins s σ H _ I h) λv s1 ⟨x,H1,I1,r1,q1⟩=>?_) hs hw
 rw [h1]
 exact thn (hg pins s1 σ H1 x v _ I1 r1 q1) λ_ s2 q=>q
theorem jS{i:Nat}{x:Str}{e:Expr}{te:TE}{pos':Pos}(hN:X.N.Nodup)(hi:X.N[i]?=some x)(hx:Loc X.env.scope x)(he:PE X e te)(hs:swapsWith e (some (.Name x pos')) pos.line X.env=pure false:=by rfl)(hf:X.fn x=true\/X.env.scope.names.lookup x=some .local:=by first|exact .inl rfl|exact .inr rfl|assumption) :
  PS X (.Assign [.Name x pos'] e pos) (q_ te (ic i)):=by
 intro pins s σ H D I h
 refine wpAny_Assign_Name (thn (he pins s σ H _ I h) λv s1 ⟨y,H1,I1,r1,q1⟩=>?_) hs
 exact nN I1 hN hi hx r1 (λs2 I2=>⟨_,H1,I2,q1⟩) hf
end
section
variable{X:Cx}{pos:Pos}
end
structure It where
 go:Nat->Hp->Prop
 yld:Nat->Hp->V->Hp->Prop
 stop:Nat->Hp->Prop
noncomputable def jy(X:Cx)(pins:List (Addr×Obj))(H:Hp)(b:Addr):Prop :=
 H b=none/\b≠X.env.locals/\b∉X.fs/\(b∈X.ex\/X.s₀.heap.objs.size<=b)/\(∀x c,X.env.cells.lookup x=some c->c≠b)/\∀p∈X.pn++pins,p.1≠b
theorem Inv.fpOk{X:Cx}{pins:List (Addr×Obj)}{σ:St}{H H':Hp}{s:Shared}{b:Addr}(I:Inv X pins σ H s)(hb:s.heap.objs.size<=b)(hn:H' b=none):jy X pins H' b:=by
 refine⟨hn,Nat.ne_of_gt (Nat.lt_of_lt_of_le I.lt hb),I.nofs hb,.inr (Nat.le_trans I.sz hb),λx c e z=>?_,λp hp z=>?_⟩
 ·obtain⟨v,q⟩:=I.cell x c e
  exact absurd (Nat.lt_of_lt_of_le q.lt (by rw [z];exact hb)) (Nat.lt_irrefl _)
 ·exact absurd (Nat.lt_of_lt_of_le (Heap.lt_size (I.pin p hp).1) (by rw [z];exact hb)) (Nat.lt_irrefl _)
structure ra(P:Program)(w:World)(K:PySem.W.Frag)(tg:Expr)(J:It)(fp:List Addr)(it:Addr)(tn:Nat->Heap->Prop):Prop where
 mem:it∈fp
 obj:∀i h,tn i h->∀b∈fp,∃o,h.get? b=some o/\∀v,o.data≠.cell v
 keep:∀i h h',tn i h->(∀b∈fp,∀o,h.get? b=some o->h'.get? b=some o)->tn i h'
 item:∀(X:Cx),X.prog=P->X.w=w->X.K=K->X.calm=true->∀(i:Nat) (pins:List (Addr×Obj)) (s:Shared) (σ:St) (H:Hp) (E:Value->Shared->Prop),Inv X pins σ H s->(∀b∈fp,jy X pins H b)->tn i s.heap->J.go i H ->
  wpAny (model P w) X.A (pyNext (.ref it)) (λr s1=>∃u,r=some u /\
   wpAny (model P w) X.A (letOwnedTupleGo tg (.ref it) u) (λ_ s2=>∃x H',Inv X pins σ H' s2/\aq x u/\J.yld i H x H'/\tn (i+1) s2.heap/\∀b∈fp,H' b=none) E s1) E s
 done:∀(X:Cx),X.prog=P->X.w=w->X.K=K->X.calm=true->∀(i:Nat) (pins:List (Addr×Obj)) (s:Shared) (σ:St) (H:Hp) (E:Value->Shared->Prop),Inv X pins σ H s->(∀b∈fp,jy X pins H b)->tn i s.heap->J.stop i H ->
  wpAny (model P w) X.A (pyNext (.ref it)) (λr s1=>r=none/\Inv X pins σ H s1) E s
 self:∀(A:Around) (i:Nat) (s:Shared) (Q:Value->Shared->Prop) (E:Value->Shared->Prop),tn i s.heap->Q (.ref it) s->wpAny (model P w) A (pyIter (.ref it)) Q E s
noncomputable abbrev TI:=St->Hp->(It->Hp->Prop)->Prop
noncomputable def PIE(X:Cx)(pins:List (Addr×Obj))(σ:St)(tg:Expr)(R:It->Hp->Prop)(itv:Value)(s2:Shared):Prop :=
 ∃(it:Addr) (fp:List Addr) (tn:Nat->Heap->Prop) (J:It) (H':Hp),itv=.ref it/\Inv X pins σ H' s2/\ra X.prog X.w X.K tg J fp it tn/\tn 0 s2.heap/\(∀b∈fp,jy X pins H' b)/\R J H'
noncomputable def PI(X:Cx)(tg iter:Expr)(wi:TI):Prop :=
 ∀(pins:List (Addr×Obj)) (s:Shared) (σ:St) (H:Hp) (R:It->Hp->Prop),Inv X pins σ H s->wi σ H R ->
  wpAny (model X.prog X.w) X.A (eval iter X.env) (λv s1=>wpAny (model X.prog X.w) X.A (pyIter v) (PIE X pins σ tg R) X.xe s1) X.xe s
theorem sJ {M:Model}{A:Around}{E:Value->Shared->Prop}{s:Shared}{tg:Expr}{it:Addr}{u:Value}{o:Obj}{n:String}{vs:Array Value}{Q:Unit->Shared->Prop} (ho:s.heap.get? it=some o) (hc:o.cls=.type n) (hd:o.data=.fields vs)
    (hn:["enumerate","zip","dict_itemiterator","dict_reverseitemiterator","odict_iterator","itertools.zip_longest","itertools.pairwise"].contains n=false) (hQ:Q () s):wpAny M A (letOwnedTupleGo tg (.ref it) u) Q E s:=by
  unfold letOwnedTupleGo
  cases tg <;> first
    | exact wpAny_pure hQ
    | (cases u<;>first
        | exact wpAny_pure hQ
        | (refine wpAny_bind (wpAny_load ho ?_)
           rw [hc,hd]
           show wpAny M A (if (["enumerate","zip","dict_itemiterator","dict_reverseitemiterator","odict_iterator","itertools.zip_longest","itertools.pairwise"].contains n&&vs[0]? == some (rawInt _))=true then _ else _) Q E s
           rw [if_neg (by intro h;rw [hn,Bool.false_and]at h;cases h)]
           exact wpAny_pure hQ))
noncomputable def Itl(K:PySem.W.Frag)(a:Addr):It :=
 ⟨λi H=>∃xs x,SqL K H a xs/\xs[i]?=some x,λi H x H'=>H'=H/\∀xs,SqL K H a xs->xs[i]?=some x,λi H=>∃xs,SqL K H a xs/\xs.length<=i⟩
noncomputable def Itt(K:PySem.W.Frag)(a:Addr):It :=
 ⟨λi H=>∃xs x,SqT K H a xs/\xs[i]?=some x,λi H x H'=>H'=H/\∀xs,SqT K H a xs->xs[i]?=some x,λi H=>∃xs,SqT K H a xs/\xs.length<=i⟩
noncomputable def Itr(lo:Int)(n:Nat):It:=⟨λi _=>i<n,λi H x H'=>H'=H/\x=.int (lo+i),λi _=>n<=i⟩
theorem rb{P:Program}{w:World}{K:PySem.W.Frag}{tg:Expr}(a it:Addr):ra P w K tg (Itl K a) [it] it (λi h=>h.IsListIter it a i) where
 mem:=by simp
 obj:=λi h st b hb=>by
  have e:b=it:=by simpa using hb
  subst e
  obtain⟨o,e,c,d⟩:=st
  exact⟨o,e,λv z=>by rw [d]at z;cases z⟩
 keep:=λi h h' st k=>st.at λo e=>k it (by simp) o e
 item:=by
  intro X hP hw hK hc i pins s σ H E I hf st hg
  subst hP hw hK
  obtain⟨xs,x,hq,hx⟩:=hg
  obtain⟨its,rv,p,hz⟩:=I.list hq
  obtain⟨u,hu,ru⟩:=rv.get hx
  obtain⟨f0,f1,f2,f3,f4,f5⟩:=hf it (by simp)
  refine wpAny_pyNext_list_item st p.isList (x:=u) (by simpa using hu) λh' st' sb=>?_
  have I1:Inv X pins σ H { s with heap:=h' }:=I.turned (t':=s.toks) (λb o hb e=>(sb.2 b hb).trans e) f0 f1 f3 f4 f5
  obtain⟨o,e,c,d⟩:=id st'
  exact⟨u,rfl,sJ (s:={ s with heap:=h' }) e c d (by decide) ⟨x,H,I1,ru,⟨rfl,λys hy=>by rw [I.list_inj hy hq];exact hx⟩,st',λb hb=>(hf b hb).1⟩⟩
 done:=by
  intro X hP hw hK hc i pins s σ H E I hf st hg
  subst hP hw hK
  obtain⟨xs,hq,hx⟩:=hg
  obtain⟨its,rv,p,hz⟩:=I.list hq
  obtain⟨f0,f1,f2,f3,f4,f5⟩:=hf it (by simp)
  have hl:=rv.length
  exact wpAny_pyNext_list_end (I.ok.hd hc) st p.isList (by simp;omega) λh' eb=>⟨rfl,I.turned (t':=s.toks) (λb o hb e=>eb b o hb e) f0 f1 f3 f4 f5⟩
 self:=λ_ _ _ _ _ st h=>wpAny_pyIter_listiter st h
theorem o9{P:Program}{w:World}{K:PySem.W.Frag}{tg:Expr}(a it:Addr):ra P w K tg (Itt K a) [it] it (λi h=>h.IsTupleIter it a i) where
 mem:=by simp
 obj:=λi h st b hb=>by
  have e:b=it:=by simpa using hb
  subst e
  obtain⟨o,e,c,d⟩:=st
  exact⟨o,e,λv z=>by rw [d]at z;cases z⟩
 keep:=λi h h' st k=>st.at λo e=>k it (by simp) o e
 item:=by
  intro X hP hw hK hc i pins s σ H E I hf st hg
  subst hP hw hK
  obtain⟨xs,x,hq,hx⟩:=hg
  obtain⟨its,rv,p,hz⟩:=I.tuple hq
  obtain⟨u,hu,ru⟩:=rv.get hx
  obtain⟨f0,f1,f2,f3,f4,f5⟩:=hf it (by simp)
  refine wpAny_pyNext_tuple_item st (show s.heap.IsTuple a its.toArray from p) (x:=u) (by simpa using hu) λh' st' sb=>?_
  have I1:Inv X pins σ H { s with heap:=h' }:=I.turned (t':=s.toks) (λb o hb e=>(sb.2 b hb).trans e) f0 f1 f3 f4 f5
  obtain⟨o,e,c,d⟩:=id st'
  exact⟨u,rfl,sJ (s:={ s with heap:=h' }) e c d (by decide) ⟨x,H,I1,ru,⟨rfl,λys hy=>by rw [I.tuple_inj hy hq];exact hx⟩,st',λb hb=>(hf b hb).1⟩⟩
 done:=by
  intro X hP hw hK hc i pins s σ H E I hf st hg
  subst hP hw hK
  obtain⟨xs,hq,hx⟩:=hg
  obtain⟨its,rv,p,hz⟩:=I.tuple hq
  obtain⟨f0,f1,f2,f3,f4,f5⟩:=hf it (by simp)
  have hl:=rv.length
  exact wpAny_pyNext_tuple_end (I.ok.hd hc) st (show s.heap.IsTuple a its.toArray from p) (by simp;omega) λh' eb=>⟨rfl,I.turned (t':=s.toks) (λb o hb e=>eb b o hb e) f0 f1 f3 f4 f5⟩
 self:=λ_ _ _ _ _ st h=>wpAny_pyIter_tupleiter st h
theorem o_{P:Program}{w:World}{K:PySem.W.Frag}{tg:Expr}(it:Addr)(lo:Int)(n:Nat):ra P w K tg (Itr lo n) [it] it (λi h=>IsRangeIter h it (lo+(i:Nat)*1) ((n:Int)-(i:Nat)) 1) where
 mem:=by simp
 obj:=λi h st b hb=>by
  have e:b=it:=by simpa using hb
  subst e
  exact⟨_,st,λv z=>by
   have z':Data.fields _=Data.cell v:=z
   cases z'⟩
 keep:=λi h h' st k=>k it (by simp) _ st
 item:=by
  intro X hP hw hK hc i pins s σ H E I hf st hg
  subst hP hw hK
  obtain⟨f0,f1,f2,f3,f4,f5⟩:=hf it (by simp)
  have W:=Walks.range (prog:=X.prog) (w:=X.w) (I.ok.hd hc) it lo 1 n
  refine W.item i s _ _ hg st λv h' tk hv st' kk=>?_
  obtain⟨t,rfl⟩:=hv
  have I1:Inv X pins σ H { s with heap:=h',toks:=tk }:=I.turned (λb o hb e=>kk b o (by simpa using hb) e) f0 f1 f3 f4 f5
  refine⟨_,rfl,sJ (s:={ s with heap:=h',toks:=tk }) (n:="range_iterator") st' rfl rfl (by decide) ⟨.int (lo+i),H,I1,⟨t,?_⟩,⟨rfl,rfl⟩,st',λb hb=>(hf b hb).1⟩⟩
  rw [Int.mul_one]
 done:=by
  intro X hP hw hK hc i pins s σ H E I hf st hg
  subst hP hw hK
  obtain⟨f0,f1,f2,f3,f4,f5⟩:=hf it (by simp)
  exact wpAny_pyNext_range_end (I.ok.hd hc) st (by have:n<=i:=hg;omega) λh' eb=>⟨rfl,I.turned (t':=s.toks) (λb o hb e=>eb b o hb e) f0 f1 f3 f4 f5⟩
 self:=λ_ _ _ _ _ st h=>wpAny_pyIter_rangeiter st h
end L2
namespace L2
open PySem PySem.Spec PyProof.Rows
section
variable{X:Cx}{tg:Expr}
noncomputable def AT(K:PySem.W.Frag)(tl:TE):TI:=λσ H R=>tl σ H λx H1=>∃a,x=.ref a/\(∃xs,SqL K H1 a xs)/\R (Itl K a) H1
noncomputable def CG(K:PySem.W.Frag)(tl:TE):TI:=λσ H R=>tl σ H λx H1=>∃a,x=.ref a/\(∃xs,SqT K H1 a xs)/\R (Itt K a) H1
theorem pZ{l:Expr}{tl:TE}(hl:PE X l tl):PI X tg l (AT X.K tl):=by
 intro pins s σ H R I h
 refine thn (hl pins s σ H _ I h) λv s1 ⟨x,H1,I1,r1,q1⟩=>?_
 obtain⟨a,e,⟨xs,hq⟩,q⟩:=q1
 subst e
 cases r1
 obtain⟨its,rv,p,hz⟩:=I1.list hq
 refine wpAny_pyIter_list p.isList ?_
 refine⟨s1.heap.objs.size,[s1.heap.objs.size],_,_,H1,rfl,I1.kept (t':=s1.toks) λb o e=>Heap.get?_push_of_some _ e,rb a _,⟨_,Heap.get?_push_size _ rfl,rfl,rfl⟩,λb hb=>?_,q⟩
 have e:b=s1.heap.objs.size:=by simpa using hb
 subst e
 exact I1.fpOk (Nat.le_refl _) (I1.hok.fresh (Nat.le_refl _))
theorem sK{l:Expr}{tl:TE}(hl:PE X l tl):PI X tg l (CG X.K tl):=by
 intro pins s σ H R I h
 refine thn (hl pins s σ H _ I h) λv s1 ⟨x,H1,I1,r1,q1⟩=>?_
 obtain⟨a,e,⟨xs,hq⟩,q⟩:=q1
 subst e
 cases r1
 obtain⟨its,rv,p,hz⟩:=I1.tuple hq
 refine wpAny_pyIter_tuple (show s1.heap.IsTuple a its.toArray from p) ?_
 refine⟨s1.heap.objs.size,[s1.heap.objs.size],_,_,H1,rfl,I1.kept (t':=s1.toks) λb o e=>Heap.get?_push_of_some _ e,o9 a _,⟨_,Heap.get?_push_size _ rfl,rfl,rfl⟩,λb hb=>?_,q⟩
 have e:b=s1.heap.objs.size:=by simpa using hb
 subst e
 exact I1.fpOk (Nat.le_refl _) (I1.hok.fresh (Nat.le_refl _))
theorem nO{pins:List (Addr×Obj)}{σ:St}{H:Hp}{s:Shared}{R:It->Hp->Prop}{E:Value->Shared->Prop}{lo hi:Int}{t u v:Tok}{tk:Nat}(I:Inv X pins σ H s)(h1:-(2 ^ 62)<=lo)(h2:lo<2 ^ 62)(h3:-(2 ^ 62)<=hi)(h4:hi<2 ^ 62)
  (q:R (Itr lo (hi-lo).toNat) H):wpAny (model X.prog X.w) X.A (pyIter (.ref s.heap.objs.size)) (PIE X pins σ tg R) E { s with heap:=s.heap.push { cls:=.type "range",data:=.fields #[.int lo t,.int hi u,.int 1 v] },toks:=tk }:=by
 refine wpAny_pyIter_range (IsRange.new ..) (small_one h1 h2 h3 h4) ?_
 have I1:Inv X pins σ H { s with heap:=s.heap.push { cls:=.type "range",data:=.fields #[.int lo t,.int hi u,.int 1 v] },toks:=tk }:=I.kept λb o e=>Heap.get?_push_of_some _ e
 refine⟨(s.heap.push { cls:=.type "range",data:=.fields #[.int lo t,.int hi u,.int 1 v] }).objs.size,[(s.heap.push { cls:=.type "range",data:=.fields #[.int lo t,.int hi u,.int 1 v] }).objs.size],_,_,H,rfl,
  I1.kept (t':=tk) λb o e=>Heap.get?_push_of_some _ e,o_ _ lo (hi-lo).toNat,?_,λb hb=>?_,q⟩
 ·have e1:lo+((0:Nat):Int)*1=lo:=by simp
  have e2:(((hi-lo).toNat:Nat):Int)-((0:Nat):Int)=Builtin.Range.rangeSize lo hi 1:=by rw [rangeSize_one];split<;>omega
  show IsRangeIter _ _ (lo+((0:Nat):Int)*1) ((((hi-lo).toNat:Nat):Int)-((0:Nat):Int)) 1
  rw [e1,e2]
  exact Heap.get?_push_size _ rfl
 ·have e:b=(s.heap.push { cls:=.type "range",data:=.fields #[.int lo t,.int hi u,.int 1 v] }).objs.size:=by simpa using hb
  subst e
  exact I1.fpOk (Nat.le_refl _) (I1.hok.fresh (Nat.le_refl _))
noncomputable def AU(ta:TA):TI:=λσ H R=>ta σ H λvs H1=>∃j:Int,vs=[.int j]/\-(2 ^ 62)<=j/\j<2 ^ 62/\R (Itr 0 j.toNat) H1
noncomputable def AV(ta:TA):TI:=λσ H R=>ta σ H λvs H1=>∃i j:Int,vs=[.int i,.int j]/\(-(2 ^ 62)<=i/\i<2 ^ 62/\-(2 ^ 62)<=j/\j<2 ^ 62)/\R (Itr i (j-i).toNat) H1
theorem re {a:Expr}{ta:TA}{p pos:Pos} (hg:Gl X "range") (hm:X.mg "range"=none) (ha:PA X [a] ta) (hs:starEach [a] X.env=[(false,eval a X.env)]:=by rfl):PI X tg (.Call (.Name "range" p) [a] [] pos) (AU ta):=by
 intro pins s σ H R I h
 refine Call_ (iQ I hg hm boot_range (PyProof.Rows.callWith_type1 (thn (ha pos pins s σ H _ I h) λus s1 ⟨vs,H1,I1,r1,q1⟩=>?_) hs rfl))
 obtain⟨j,e,q1,q2,q⟩:=q1
 subst e
 cases r1 with
 |cons r rr =>
  cases rr
  obtain⟨t,rfl⟩:=r
  exact call_range_1 (nO I1 (by omega) (by omega) q1 q2 (by simpa using q))
theorem rf {a b:Expr}{ta:TA}{p pos:Pos} (hg:Gl X "range") (hm:X.mg "range"=none) (ha:PA X [a,b] ta) (hs:starEach [a,b] X.env=[(false,eval a X.env),(false,eval b X.env)]:=by rfl) (hs2:starEach [b] X.env=[(false,eval b X.env)]:=by rfl) :
  PI X tg (.Call (.Name "range" p) [a,b] [] pos) (AV ta):=by
 intro pins s σ H R I h
 refine Call_ (iQ I hg hm boot_range (PyProof.Rows.callWith_type1 (thn (ha pos pins s σ H _ I h) λus s1 ⟨vs,H1,I1,r1,q1⟩=>?_) (by rw [hs,hs2]) (by rw [hs2];rfl)))
 obtain⟨i,j,e,⟨q1,q2,q3,q4⟩,q⟩:=q1
 subst e
 cases r1 with
 | cons r rr =>
  cases rr with
  |cons r' rr =>
   cases rr
   obtain⟨t,rfl⟩:=r
   obtain⟨t',rfl⟩:=r'
   exact call_range_2 (nO I1 q1 q2 q3 q4 q)
noncomputable def AW(wi:TI)(g:TG)(tb:TS):TS:=λD σ H=>wi σ H λJ H1=>∃W:Nat->Nat->St->Hp->Prop,(∃m,W 0 m σ H1)/\∀i m σ H,W i m σ H ->
 (J.stop i H/\D.nx σ H)\/(J.go i H/\∃N:St->Hp->Prop,(∀σ' H',N σ' H'->∃m',m'<m/\W (i+1) m' σ' H')/\∀x H',J.yld i H x H'->g x σ H' λσ2 H2=>tb { D with nx:=N,ct:=N,bk:=D.nx } σ2 H2)
noncomputable def jT(fp:List Addr)(h:Heap):List (Addr×Obj):=fp.filterMap λb=>(h.get? b).map λo=>(b,o)
theorem fw{fp:List Addr}{h:Heap}{b:Addr}{o:Obj}(hb:b∈fp)(e:h.get? b=some o):(b,o)∈jT fp h:=List.mem_filterMap.mpr ⟨b,hb,by rw [e];rfl⟩
theorem rg{fp:List Addr}{h:Heap}{p:Addr×Obj}(hp:p∈jT fp h):p.1∈fp/\h.get? p.1=some p.2:=by
 obtain⟨b,hb,e⟩:=List.mem_filterMap.mp hp
 cases q:h.get? b with
 |none=>rw [q]at e;cases e
 |some o =>
  rw [q]at e
  have e':(b,o)=p:=Option.some.inj e
  subst e'
  exact⟨hb,q⟩
theorem Inv.pinned{pins:List (Addr×Obj)}{σ:St}{H:Hp}{s:Shared}{fp:List Addr}(I:Inv X pins σ H s)(hf:∀b∈fp,jy X pins H b)(ho:∀b∈fp,∃o,s.heap.get? b=some o/\∀v,o.data≠.cell v):Inv X (pins++jT fp s.heap) σ H s :=
 I.pins_of λp hp=>(List.mem_append.mp hp).elim (λz=>I.pin p (List.mem_append_right _ z)) λz=>by
  obtain⟨hb,e⟩:=rg z
  obtain⟨f0,f1,f2,_⟩:=hf p.1 hb
  obtain⟨o,e',d⟩:=ho p.1 hb
  rw [e]at e';cases e'
  exact⟨e,f0,f1,f2,d⟩
theorem Inv.unpinned{pins pl:List (Addr×Obj)}{σ:St}{H:Hp}{s:Shared}(I:Inv X (pins++pl) σ H s):Inv X pins σ H s:=I.pins_of λp hp=>I.pin p (List.mem_append_right _ (List.mem_append_left _ hp))
theorem sL{iter:Expr}{body:List Stmt}{wi:TI}{g:TG}{tb:TS}{pos:Pos}(hp:PassesOwn (model X.prog X.w) X.A X.env X.xe)(hc:X.calm=true)(hi:PI X tg iter wi)(hg:PG X tg g)(hb:PSs X body tb)
  (hs:∀x,foldedSetIterable iter X.env x=pure x:=by intro _;rfl):PS X (.For tg iter body [] pos) (AW wi g tb):=by
 intro pins s σ H D I h
 refine wpAny_For (thn (hi pins s σ H _ I h) λv s1 h1=>thn h1 λitv s2 h2=>?_) hs
 obtain⟨it,fp,tn,J,H2,e,I2,T,st2,f2,W,⟨m0,w0⟩,turn⟩:=h2
 subst e
 have stat:∀{H':Hp},(∀b∈fp,H' b=none)->∀b∈fp,jy X pins H' b:=λhn b hb=>⟨hn b hb,(f2 b hb).2⟩
 refine codeAny_forLoop_any (λn s'=>∃i σ' H',Inv X pins σ' H' s'/\tn i s'.heap/\(∀b∈fp,H' b=none)/\W i n σ' H') ?_ m0 ⟨0,σ,H2,I2,st2,λb hb=>(f2 b hb).1,w0⟩
 rintro n s3 ⟨i,σ3,H3,I3,st3,fr3,w3⟩
 rcases turn i n σ3 H3 w3 with ⟨stop,qn⟩|⟨go,N,hN,step⟩
 ·refine wpAny_passesOwn hp (thn (T.done X rfl rfl rfl hc i pins s3 σ3 H3 X.xe I3 (stat fr3) st3 stop) λr s4 ⟨hr,I4⟩=>?_)
  subst hr
  exact wpAny_execs_nil ⟨σ3,H3,I4,qn⟩
 ·refine wpAny_passesOwn hp (thn (T.item X rfl rfl rfl hc i pins s3 σ3 H3 X.xe I3 (stat fr3) st3 go) λr s4 ⟨u,hr,h4⟩=>?_)
  subst hr
  refine wpAny_passesOwn hp (thn h4 λ_ s5 ⟨x,H5,I5,r5,y5,st5,fr5⟩=>?_)
  have I5':=I5.pinned (stat fr5) (T.obj _ _ st5)
  refine wpAny_passesOwn hp (thn (hg _ s5 σ3 H5 x u _ I5' r5 (step x H5 y5)) λ_ s6 ⟨σ6,H6,I6,q6⟩=>?_)
  refine wpAny_passesOwn hp (thn (hb _ s6 σ6 H6 _ I6 q6) λf s7 q7=>?_)
  have again:∀{σ7:St}{H7:Hp},Inv X (pins++jT fp s5.heap) σ7 H7 s7->N σ7 H7->∃m,m<n/\∃i σ' H',Inv X pins σ' H' s7/\tn i s7.heap/\(∀b∈fp,H' b=none)/\W i m σ' H':=λ{σ7 H7} I7 n7=>by
   obtain⟨m',hm,w7⟩:=hN σ7 H7 n7
   refine⟨m',hm,i+1,σ7,H7,I7.unpinned,T.keep _ _ _ st5 λb hb o e=>(I7.pin (b,o) (List.mem_append_right _ (List.mem_append_right _ (fw hb e)))).1,λb hb=>?_,w7⟩
   obtain⟨o,e,d⟩:=T.obj _ _ st5 b hb
   exact(I7.pin (b,o) (List.mem_append_right _ (List.mem_append_right _ (fw hb e)))).2.1
  cases f with
  |next=>obtain⟨σ7,H7,I7,n7⟩:=q7;exact again I7 n7
  |cont=>obtain⟨σ7,H7,I7,n7⟩:=q7;exact again I7 n7
  |brk=>obtain⟨σ7,H7,I7,q7⟩:=q7;exact⟨σ7,H7,I7.unpinned,q7⟩
  |ret v=>obtain⟨x7,σ7,H7,I7,r7,q7⟩:=q7;exact⟨x7,σ7,H7,I7.unpinned,r7,q7⟩
end
end L2
namespace L2
open PySem PySem.Spec PyProof.Rows
noncomputable abbrev R2:=V->V->Hp->VK->Prop
noncomputable def OpR(X:Cx)(f:Value->Value->Sem Value)(r:R2):Prop :=
 ∀(pins:List (Addr×Obj)) (s:Shared) (σ:St) (H:Hp) (x y:V) (v u:Value) (Q:VK),Inv X pins σ H s->aq x v->aq y u->r x y H Q ->
  wpAny (model X.prog X.w) X.A (f v u) (EP X pins σ Q) X.xe s
noncomputable def bR(X:Cx)(f:Value)(r:List V->Hp->VK->Prop):Prop :=
 ∀(pins:List (Addr×Obj)) (s:Shared) (σ:St) (H:Hp) (xs:List V) (us:List Value) (Q:VK),Inv X pins σ H s->aw xs us->r xs H Q ->
  wpAny (model X.prog X.w) X.A (call f us) (EP X pins σ Q) X.xe s
noncomputable def tOp(r:R2)(ta tb:TE):TE:=λσ H Q=>ta σ H λx H1=>tb σ H1 λy H2=>r x y H2 Q
noncomputable def rI(C:Int->Int->Prop)(g:Int->Int->V):R2:=λx y H Q=>∃i j,x=.int i/\y=.int j/\C i j/\Q (g i j) H
noncomputable def rI0(g:Int->Int->V):R2:=λx y H Q=>∃i j,x=.int i/\y=.int j/\Q (g i j) H
section
variable{X:Cx}{a b c:Expr}{ta tb tc:TE}{pos:Pos}
theorem yq(ha:PE X a ta)(hb:PE X b tb){pins:List (Addr×Obj)}{s:Shared}{σ:St}{H:Hp}{R:V->V->Hp->Prop}(I:Inv X pins σ H s)
  (h:ta σ H λx H1=>tb σ H1 λy H2=>R x y H2) {Q:Value->Shared->Prop}{f:Value->Value->Sem Value}
  (hf:∀v u s2 x y H2,Inv X pins σ H2 s2->aq x v->aq y u->R x y H2->wpAny (model X.prog X.w) X.A (f v u) Q X.xe s2) :
  wpAny (model X.prog X.w) X.A (eval a X.env) (λv s₁=>wpAny (model X.prog X.w) X.A (eval b X.env) (λu s₂=>wpAny (model X.prog X.w) X.A (f v u) Q X.xe s₂) X.xe s₁) X.xe s:=by
 refine thn (ha pins s σ H _ I h) λv s1 ⟨x,H1,I1,r1,q1⟩=>?_
 refine thn (hb pins s1 σ H1 _ I1 q1) λu s2 ⟨y,H2,I2,r2,q2⟩=>?_
 exact hf v u s2 x y H2 I2 r1 r2 q2
theorem xK{op:Operator}{r:R2}(ho:OpR X (binaryOp op) r)(ha:PE X a ta)(hb:PE X b tb):PE X (.BinOp a op b pos) (tOp r ta tb):=by
 intro pins s σ H Q I h
 exact wpAny_BinOp (yq ha hb I h λv u s2 x y H2 I2 rx ry q=>ho pins s2 σ H2 x y v u Q I2 rx ry q)
theorem opI{f:Value->Value->Sem Value}{C:Int->Int->Prop}{g:Int->Int->Int}
  (rule:∀(i j:Int) (t u:Tok) (s:Shared) (Q:Value->Shared->Prop) (E:Value->Shared->Prop),C i j->Q (.int (g i j) s.toks) { s with toks:=s.toks+1 }->wpAny (model X.prog X.w) X.A (f (.int i t) (.int j u)) Q E s) :
  OpR X f (rI C λi j=>.int (g i j)):=by
 intro pins s σ H x y v u Q I rx ry h
 obtain⟨i,j,rfl,rfl,hc,q⟩:=h
 obtain⟨t,rfl⟩:=rx
 obtain⟨t',rfl⟩:=ry
 exact rule i j t t' s _ _ hc ⟨.int (g i j),H,I.tok _,⟨_,rfl⟩,q⟩
theorem AX{f:Value->Value->Sem Value}{g:Int->Int->Int}
  (rule:∀(i j:Int) (t u:Tok) (s:Shared) (Q:Value->Shared->Prop) (E:Value->Shared->Prop),Q (.int (g i j) s.toks) { s with toks:=s.toks+1 }->wpAny (model X.prog X.w) X.A (f (.int i t) (.int j u)) Q E s) :
  OpR X f (rI0 λi j=>.int (g i j)):=by
 intro pins s σ H x y v u Q I rx ry h
 obtain⟨i,j,rfl,rfl,q⟩:=h
 obtain⟨t,rfl⟩:=rx
 obtain⟨t',rfl⟩:=ry
 exact rule i j t t' s _ _ ⟨.int (g i j),H,I.tok _,⟨_,rfl⟩,q⟩
theorem v8{f:Value->Value->Sem Value}{g:Int->Int->Bool}
  (rule:∀(i j:Int) (t u:Tok) (s:Shared) (Q:Value->Shared->Prop) (E:Value->Shared->Prop),Q (.bool (g i j)) s->wpAny (model X.prog X.w) X.A (f (.int i t) (.int j u)) Q E s) :
  OpR X f (rI0 λi j=>.bl (g i j)):=by
 intro pins s σ H x y v u Q I rx ry h
 obtain⟨i,j,rfl,rfl,q⟩:=h
 obtain⟨t,rfl⟩:=rx
 obtain⟨t',rfl⟩:=ry
 exact rule i j t t' s _ _ ⟨.bl (g i j),H,I,rfl,q⟩
noncomputable def CH(i j:Int):Prop:=0<j/\j<1073741824
noncomputable def CI(i j:Int):Prop:=0<=j/\j<=1000000/\i.natAbs<2 ^ 64
noncomputable def yr(i j:Int):Prop:=(-(2 ^ 64)<i/\i<2 ^ 64)\/(-(2 ^ 64)<j/\j<2 ^ 64)
theorem yr.ok{i j:Int}(h:yr i j):IntMulOk i j:=by
 rcases h with ⟨h1,h2⟩|⟨h1,h2⟩
 ·exact .of_left (intBits_le_64 h1 h2)
 ·exact .of_right (intBits_le_64 h1 h2)
theorem pe(k:Nat):(0:Int)<=2 ^ k:=by
 rw [two_pow_cast]
 exact Int.natCast_nonneg _
theorem yt:OpR X (binaryOp .Add) (rI0 λi j=>.int (i+j)):=AX λ_ _ _ _ _ _ _ q=>add_int q
theorem yu:OpR X (binaryOp .Sub) (rI0 λi j=>.int (i-j)):=AX λ_ _ _ _ _ _ _ q=>sub_int q
theorem yw:OpR X (binaryOp .Mult) (rI yr λi j=>.int (i*j)):=opI λ_ _ _ _ _ _ _ hc q=>mul_int q hc.ok
theorem v9:OpR X (binaryOp .FloorDiv) (rI CH λi j=>.int (i / j)):=opI λi j _ _ _ _ _ hc q=>by
 have h1:(0:Int)<j:=hc.1
 have h2:j<1073741824:=hc.2
 exact floordiv_int (by omega) (by rw [Int.fdiv_eq_ediv_of_nonneg i (by omega)];exact q) (.inl (PyProof.noPylong_small (by omega)))
theorem yx:OpR X (binaryOp .Mod) (rI (λ_ j=>0<j) λi j=>.int (i % j)):=opI λi j _ _ _ _ _ hc q=>by
 have h1:(0:Int)<j:=hc
 exact mod_int' (by omega) (by rw [Int.fmod_eq_emod_of_nonneg i (by omega)];exact q)
theorem yy:OpR X (binaryOp .Pow) (rI CI λi j=>.int (i ^ j.toNat)):=opI λ_ _ _ _ _ _ _ hc q=>pow_int_small hc.1 hc.2.1 hc.2.2 q
theorem yz:OpR X (binaryOp .RShift) (rI (λ_ j=>0<=j) λi j=>.int (i / 2 ^ j.toNat)):=opI λi j _ _ _ _ _ hc q =>
 rshift_int hc (by rw [Int.fdiv_eq_ediv_of_nonneg i (pe _)];exact q)
end
noncomputable def scal:V->V->Bool
 | .non,.non=>true|.non,.int _=>true|.int _,.non=>true|.non,.bl _=>true|.bl _,.non=>true|.non,.str _=>true|.str _,.non=>true
 | .int _,.int _=>true|.bl _,.bl _=>true|.str _,.str _=>true|.byt _,.byt _=>true
 | .int _,.str _=>true|.str _,.int _=>true|.bl _,.str _=>true|.str _,.bl _=>true
 | _,_=>false
noncomputable def rNe:R2:=λx y H Q=>scal x y=true/\Q (.bl (!decide (x=y))) H
theorem p0{i j:Int}:decide (V.int i=V.int j)=(i == j):=by
 rw [Bool.eq_iff_iff]
 simp
theorem sM{i j:Bool}:decide (V.bl i=V.bl j)=(i == j):=by
 rw [Bool.eq_iff_iff]
 simp
theorem p5{i j:Str}:decide (V.str i=V.str j)=(i == j):=by
 rw [Bool.eq_iff_iff]
 simp
theorem v_{i j:Array UInt8}:decide (V.byt i=V.byt j)=(i.toList == j.toList):=by
 rw [Bool.eq_iff_iff]
 cases i
 cases j
 simp
section
variable{X:Cx}{a b c:Expr}{ta tb tc:TE}{pos:Pos}
theorem bU{pins:List (Addr×Obj)}{σ:St}{H:Hp}{s:Shared}{Q:VK}{k k':Bool}(I:Inv X pins σ H s)(q:Q (.bl k) H)(e:k=k'):EP X pins σ Q (.bool k') s:=by
 subst e
 exact⟨.bl k,H,I,rfl,q⟩
theorem AY:OpR X (compareOp .NotEq) rNe:=by
 intro pins s σ H x y v u Q I rx ry h
 obtain⟨hs,q⟩:=h
 cases x with
 |non =>
  cases rx
  cases y with
  |non=>cases ry;exact PySem.EqNone.ne_none_none (bU I q (by simp))
  |bl j=>cases ry;exact PySem.EqNone.ne_none_bool (bU I q (by simp))
  |int j=>obtain⟨t',rfl⟩:=ry;exact PySem.EqNone.ne_none_int (bU I q (by simp))
  |str j=>obtain⟨t',rfl⟩:=ry;exact PySem.EqNone.ne_none_str (bU I q (by simp))
  | _=>exact absurd (show false=true from hs) Bool.false_ne_true
 |bl i =>
  cases rx
  cases y with
  |non=>cases ry;exact PySem.EqNone.ne_bool_none (bU I q (by simp))
  |bl j=>cases ry;exact ne_bool (bU I q (congrArg not sM))
  |str j=>obtain⟨t',rfl⟩:=ry;exact PySem.EqMixed.ne_bool_str (bU I q (by simp))
  | _=>exact absurd (show false=true from hs) Bool.false_ne_true
 |int i =>
  obtain⟨t,rfl⟩:=rx
  cases y with
  |non=>cases ry;exact PySem.EqNone.ne_int_none (bU I q (by simp))
  |int j=>obtain⟨t',rfl⟩:=ry;exact ne_int (bU I q (congrArg not p0))
  |str j=>obtain⟨t',rfl⟩:=ry;exact PySem.EqMixed.ne_int_str (bU I q (by simp))
  | _=>exact absurd (show false=true from hs) Bool.false_ne_true
 |str i =>
  obtain⟨t,rfl⟩:=rx
  cases y with
  |non=>cases ry;exact PySem.EqNone.ne_str_none (bU I q (by simp))
  |bl j=>cases ry;exact PySem.EqMixed.ne_str_bool (bU I q (by simp))
  |int j=>obtain⟨t',rfl⟩:=ry;exact PySem.EqMixed.ne_str_int (bU I q (by simp))
  |str j=>obtain⟨t',rfl⟩:=ry;exact ne_str (bU I q (congrArg not p5))
  | _=>exact absurd (show false=true from hs) Bool.false_ne_true
 |byt i =>
  obtain⟨t,rfl⟩:=rx
  cases y with
  |byt j=>obtain⟨t',rfl⟩:=ry;exact PySem.W.ne_bytes (bU I q (congrArg not v_))
  | _=>exact absurd (show false=true from hs) Bool.false_ne_true
 | _=>cases y<;>exact absurd (show false=true from hs) Bool.false_ne_true
theorem AZ:OpR X (compareOp .Lt) (rI0 λi j=>.bl (decide (i<j))):=v8 λ_ _ _ _ _ _ _ q=>lt_int q
theorem A0:OpR X (compareOp .LtE) (rI0 λi j=>.bl (decide (i<=j))):=v8 λ_ _ _ _ _ _ _ q=>le_int q
theorem A1:OpR X (compareOp .Gt) (rI0 λi j=>.bl (decide (j<i))):=v8 λ_ _ _ _ _ _ _ q=>gt_int q
theorem A2:OpR X (compareOp .GtE) (rI0 λi j=>.bl (decide (j<=i))):=v8 λ_ _ _ _ _ _ _ q=>ge_int q
theorem yA:OpR X (compareOp .Is) (λx y H Q=>y=.non/\Q (.bl (decide (x=.non))) H):=by
 intro pins s σ H x y v u Q I rx ry h
 obtain⟨rfl,q⟩:=h
 cases ry
 refine is_none_gen (bU I q ?_)
 cases x<;>first
  | (cases rx;rfl)
  | (obtain⟨t,rfl⟩:=rx;rfl)
theorem wc:OpR X (compareOp .IsNot) (λx y H Q=>y=.non/\Q (.bl (!decide (x=.non))) H):=by
 intro pins s σ H x y v u Q I rx ry h
 obtain⟨rfl,q⟩:=h
 cases ry
 refine isnot_none_gen (bU I q ?_)
 cases x<;>first
  | (cases rx;rfl)
  | (obtain⟨t,rfl⟩:=rx;rfl)
theorem wd{op:CmpOp}{r:R2}(ho:OpR X (compareOp op) r)(ha:PE X a ta)(hb:PE X b tb)(hm:behindInMarks op b=false):PE X (.Compare a [op] [b] pos) (tOp r ta tb):=by
 intro pins s σ H Q I h
 exact wpAny_Compare1 (yq ha hb I h λv u s2 x y H2 I2 rx ry q=>ho pins s2 σ H2 x y v u Q I2 rx ry q) hm
noncomputable def A3(t:TE):TT:=λσ H Q=>t σ H λx H'=>∃k,x=.bl k/\Q k H'
theorem we{op:CmpOp}{r:R2}(ho:OpR X (compareOp op) r)(ha:PE X a ta)(hb:PE X b tb)(hm:behindInMarks op b=false):PT X (.Compare a [op] [b] pos) (A3 (tOp r ta tb)):=by
 intro pins s σ H Q I h
 refine wpAny_isTrue_Compare1 (thn (ha pins s σ H _ I h) λv s1 ⟨x,H1,I1,r1,q1⟩=>thn (hb pins s1 σ H1 _ I1 q1) λu s2 ⟨y,H2,I2,r2,q2⟩ =>
  thn (ho pins s2 σ H2 x y v u _ I2 r1 r2 q2) λc s3 ⟨z,H3,I3,r3,k,e,q3⟩=>?_) hm
 subst e
 cases r3
 exact wpAny_truthy_bool ⟨H3,I3,q3⟩
theorem iR:(sizeLine:Nat)<2 ^ 63:=by rw [sizeLine_eq];decide
theorem pf:OpR X (binaryOp .Add) (λx y H Q=>∃i j,x=.str i/\y=.str j/\i.length+j.length<=sizeLine/\Q (.str (i++j)) H):=by
 intro pins s σ H x y v u Q I rx ry h
 obtain⟨i,j,rfl,rfl,hz,q⟩:=h
 obtain⟨t,rfl⟩:=rx
 obtain⟨t',rfl⟩:=ry
 exact add_str (λt' tk=>⟨.str (i++j),H,I.tok _,⟨_,rfl⟩,q⟩) hz
theorem eD{x:V}{us:List Value}(r:aw [x] us):∃u,us=[u]/\aq x u:=by
 cases r with
 |cons r1 r2=>cases r2;exact⟨_,rfl,r1⟩
theorem A4{x y:V}{us:List Value}(r:aw [x,y] us):∃u w',us=[u,w']/\aq x u/\aq y w':=by
 cases r with
 |cons r1 r2 =>
  cases r2 with
  |cons r3 r4=>cases r4;exact⟨_,_,rfl,r1,r3⟩
end
end L2
namespace L2
open PySem PySem.Spec PyProof.Rows
section
variable{prog:Program}{w:World}{A:Around}{E:Value->Shared->Prop}{s:Shared}{K:PySem.W.Frag}{x dx C f:Addr}{mA:Str->Option Value}{name:Str}{v:Value}
end
theorem jw.some_of{v:V}{o:Option Value}(r:jw (some v) o):∃u,o=some u/\aq v u:=by
 cases o with
 |none=>exact(show False from r).elim
 |some u=>exact⟨u,rfl,r⟩
section
variable{P:Program}{w:World}{H H':Hp}{h h':Heap}{a C dx:Addr}{fs fs':List (Str×V)}
end
section
variable{X:Cx}{pins:List (Addr×Obj)}{σ:St}{H:Hp}{s:Shared}{a C dx:Addr}{fs:List (Str×V)}{f:Str}{v:V}{A:Around}{E:Value->Shared->Prop}
end
section
variable{X:Cx}{o e value:Expr}{f:Str}{pos pos' tpos:Pos}{ta tv:TE}
end
section
variable{X:Cx}{pins:List (Addr×Obj)}{σ:St}{H:Hp}{s:Shared}{A:Around}{E:Value->Shared->Prop}{Q:Value->Shared->Prop}{c:Value}{b:Bool}
end
end L2
namespace L2
open PySem PySem.Spec PyProof.Rows
structure iS(k:Nat)(A:Around):Prop where
 hd:A.handled=none
 dp:A.depth+3*k+5<recursionLimit
 un:A.units+16*k+200<cLine
theorem iS.deeper{k:Nat}{A:Around}(r:iS (k+1) A)(env:Env):iS k (A.deeper env) :=
 ⟨r.hd,by have:=r.dp;show A.depth+1+3*k+5<_;omega,by have:=r.un;show A.units+3+16*k+200<_;omega⟩
theorem iS.depth{k:Nat}{A:Around}(r:iS k A):A.depth<recursionLimit:=by have:=r.dp;omega
noncomputable def A5:TA:=λ_ H Q=>Q [] H
noncomputable def A6(ta:TE)(tr:TA):TA:=λσ H Q=>ta σ H λx H1=>tr σ H1 λxs H2=>Q (x::xs) H2
section
variable{X:Cx}{e:Expr}{es:List Expr}{te:TE}{t:TA}{pos:Pos}
theorem br:PA X [] A5:=λ_ _ _ _ H Q I h=>Calls.spliced_nil ⟨[],H,I,.nil,h⟩
theorem aK(ha:PE X e te)(hr:PA X es t)(hs:starEach (e::es) X.env=(false,eval e X.env)::starEach es X.env:=by rfl):PA X (e::es) (A6 te t):=by
 intro pos pins s σ H Q I h
 rw [hs]
 show wpAny _ _ (spliced ((false,eval e X.env)::backTo pos (starEach es X.env))) _ _ s
 refine Calls.spliced_cons (thn (ha pins s σ H _ I h) λu s1 ⟨x,H1,I1,r1,q1⟩=>?_)
 exact thn (hr pos pins s1 σ H1 _ I1 q1) λus s2 ⟨xs,H2,I2,r2,q2⟩=>⟨x::xs,H2,I2,.cons r1 r2,q2⟩
noncomputable def CJ(t:TA):TE:=λσ H Q=>t σ H λxs H1=>xs.length<=sizeLine/\∀p,H1 p=none->Q (.ref p) (upd H1 p (.tup xs))
noncomputable def CK(t:TA):TE:=λσ H Q=>t σ H λxs H1=>xs.length<=sizeLine/\∀p,H1 p=none->Q (.ref p) (upd H1 p (.lst xs))
theorem yB{x1}(h:PA X es t):PE X (.Tuple es x1 pos) (CJ t):=by
 intro pins s σ H Q I hq
 refine wpAny_Tuple_spliced (thn (h pos pins s σ H _ I hq) λus s1 ⟨xs,H1,I1,r,z,q⟩=>⟨by rw [<- r.length];exact z,?_⟩)
 have hf:H1 s1.heap.objs.size=none:=I1.hok.fresh (Nat.le_refl _)
 refine⟨.ref s1.heap.objs.size,upd H1 s1.heap.objs.size (.tup xs),I1.laid (t':=s1.toks) (λb u e=>Heap.get?_push_of_some _ e) (Nat.le_refl _) ?_,rfl,q _ hf⟩
 exact⟨z,us,r,⟨_,Heap.get?_push_size _ rfl,rfl,_,rfl⟩⟩
theorem ph(h:PA X es t):PE X (.List es pos) (CK t):=by
 intro pins s σ H Q I hq
 refine wpAny_List_spliced (thn (h pos pins s σ H _ I hq) λus s1 ⟨xs,H1,I1,r,z,q⟩=>⟨by rw [<- r.length];exact z,?_⟩)
 have hf:H1 s1.heap.objs.size=none:=I1.hok.fresh (Nat.le_refl _)
 refine⟨.ref s1.heap.objs.size,upd H1 s1.heap.objs.size (.lst xs),I1.laid (t':=s1.toks) (λb u e=>Heap.get?_push_of_some _ e) (Nat.le_refl _) ?_,rfl,q _ hf⟩
 exact⟨z,us,0,r,Heap.get?_push_size _ rfl⟩
end
noncomputable abbrev Sp:=List V->Hp->VK->XK->Prop
noncomputable abbrev CXT:=List Env->Hp->Shared->XK->Value->Shared->Prop
structure wf(P:Program)(w:World)(K:PySem.W.Frag)(mg:Str->Option Value)(base:Heap)(A:Around)(outer:List Env)(s:Shared)(H:Hp):Prop where
 frames:A.frames=some outer
 mod:Mod K mg base
 bs:∀b o,base.get? b=some o->s.heap.get? b=some o/\H b=none
 bsz:base.objs.size<=s.heap.objs.size
 funs:s.heap.FunFrames base outer
 frf:∀b∈frs outer,H b=none
 hok:HOk P w H s.heap
 bare:AllBare s.gens
noncomputable def CE(outer:List Env)(P:Program)(w:World)(H:Hp)(s:Shared)(Q:VK)(u:Value)(s':Shared):Prop :=
 ∃v H',s'.os=s.os/\AllBare s'.gens/\Un (frs outer) [] H H' s.heap s'.heap/\HOk P w H' s'.heap/\aq v u/\Q v H'
noncomputable def CR(CX:CXT)(outer:List Env)(P:Program)(w:World)(H:Hp)(s:Shared)(Q:VK)(E:XK)(r:Result)(s':Shared):Prop :=
 match r with
 | .ok (.ret u)=>CE outer P w H s Q u s'
 | .ok _=>False
 | .error e=>CX outer H s E e s'
structure iT(P:Program)(w:World)(K:PySem.W.Frag)(mg:Str->Option Value)(base:Heap)(CX:CXT)(k:Nat)(f:Addr)(fd:FuncData)(ps:List Str)(sp:Sp):Prop where
 len:∀vs H Q E,sp vs H Q E->vs.length=ps.length
 run:∀(A:Around) (outer:List Env) (s:Shared) (H:Hp) (args:Args) (us:List Value) (vs:List V) (Q:VK) (E:XK),iS k A->wf P w K mg base A outer s H->BindsTo s fd args (ps.zip us)->aw vs us->sp vs H Q E ->
  codeAny (model P w) A (.call (.ref f) args) (CR CX outer P w H s Q E) s
section
variable{X:Cx}{pins:List (Addr×Obj)}{σ:St}{H:Hp}{s s':Shared}
theorem Inv.env0(I:Inv X pins σ H s):wf X.prog X.w X.K X.mg X.base X.A X.stack s H :=
 ⟨I.ok.frames,I.ok.mod,I.bs,Nat.le_trans I.ok.bsz I.sz,I.stack,I.stkFree,I.hok,I.bare⟩
theorem Inv.after{Q:VK}{u:Value}(I:Inv X pins σ H s)(h:CE X.stack X.prog X.w H s Q u s'):EP X pins σ Q u s':=by
 obtain⟨v,H',os,bare,un,hok,r,q⟩:=h
 obtain⟨hh,g,d,t,os'⟩:=s'
 obtain rfl:os'=s.os:=os
 exact⟨v,H',I.call (h':=hh) (g':=g) (d':=d) (t':=t) (ch:=[]) un hok bare (λb z=>absurd z (by simp)),r,q⟩
end
noncomputable def p6(sp:Sp)(dvs:List V)(E:XK)(t:TA):TE:=λσ H Q=>t σ H λvs H1=>sp (vs++dvs) H1 Q E
noncomputable def dy(K:PySem.W.Frag)(fd:FuncData)(ps:List Str)(ds:List Value):Prop :=
 ∀(s:Shared) (us:List Value),K.In s.heap->(us++ds).length=ps.length->BindsTo s fd ⟨us,[]⟩ (ps.zip (us++ds))
theorem dy.all{K:PySem.W.Frag}{fd:FuncData}{ps:List Str}(h:∀us:List Value,us.length=ps.length->bindArgs fd ⟨us,[]⟩=pure (ps.zip us)):dy K fd ps []:=λs us _ hl=>by
 rw [List.append_nil]at hl ⊢
 exact .of_eq (h us hl)
noncomputable def mP(CX:CXT)(X:Cx)(E:XK):Prop:=∀(pins:List (Addr×Obj)) (σ:St) (H:Hp) (s:Shared) (e:Value) (s':Shared),Inv X pins σ H s->CX X.stack H s E e s'->X.xe e s'
section
variable{X:Cx}{CX:CXT}{k:Nat}{f C:Addr}{fd:FuncData}{ps:List Str}{sp:Sp}{dvs:List V}{ds:List Value}{E:XK}{x m:Str}{p pos apos:Pos}{e o:Expr}{es:List Expr}{ta:TE}{t:TA}
theorem sN{pins:List (Addr×Obj)}{σ:St}{H:Hp}{s:Shared}{Q:VK}{us:List Value}{vs:List V}(F:iT X.prog X.w X.K X.mg X.base CX k f fd ps sp)(hr:iS k X.A)(hb:dy X.K fd ps ds)(hd:aw dvs ds)(hx:mP CX X E)
  (I:Inv X pins σ H s) (r:aw vs us) (h:sp (vs++dvs) H Q E):wpAny (model X.prog X.w) X.A (call (.ref f) us) (EP X pins σ Q) X.xe s:=by
 have r2:aw (vs++dvs) (us++ds):=r.append hd
 have hl:(us++ds).length=ps.length:=by rw [<- r2.length];exact F.len _ _ _ _ h
 refine wpAny_call (codeAny_mono (F.run X.A X.stack s H ⟨us,[]⟩ (us++ds) (vs++dvs) Q E hr I.env0 (hb s us I.kIn hl) r2 h) λr s' hq=>?_)
 cases r with
 |error e=>exact hx pins σ H s e s' I hq
 |ok fl =>
  cases fl with
  |ret u=>exact I.after hq
  |next=>exact False.elim hq
  |brk=>exact False.elim hq
  |cont=>exact False.elim hq
theorem p7(F:iT X.prog X.w X.K X.mg X.base CX k f fd ps sp)(hr:iS k X.A)(hg:Gl X x)(hm:X.mg x=some (.ref f))(hk:PySem.W.keepIn X.K (.ref f)=true)(hb:dy X.K fd ps ds)(hd:aw dvs ds)(hx:mP CX X E)
  (ha:PA X (e::es) t) (hdb:(x == ("__debug__":Str))=false:=by decide) (he:starEach (e::es) X.env=(false,eval e X.env)::starEach es X.env:=by rfl) (hpl:(backTo pos (starEach es X.env)).any (·.1)=false:=by rfl) :
  PE X (.Call (.Name x p) (e::es) [] pos) (p6 sp dvs E t):=by
 intro pins s σ H Q I h
 refine wpAny_Call_Name_kw (mN I hg hm ?_ hdb)
 refine PySem.W.callWith_K (h₀:=X.base) I.ok.mod.kin hk (thn (ha pos pins s σ H _ I h) λus s1 ⟨vs,H1,I1,r,q⟩=>⟨I1.kIn,?_⟩) he hpl
 exact sN F hr hb hd hx I1 r q
theorem nP(F:iT X.prog X.w X.K X.mg X.base CX k f fd ps sp)(hr:iS k X.A)(hg:Gl X x)(hm:X.mg x=some (.ref f))(hk:PySem.W.keepIn X.K (.ref f)=true)(hb:dy X.K fd ps ds)(hd:aw dvs ds)(hx:mP CX X E)
  (hdb:(x == ("__debug__":Str))=false:=by decide):PE X (.Call (.Name x p) [] [] pos) (p6 sp dvs E A5):=by
 intro pins s σ H Q I h
 refine wpAny_Call_Name_kw (mN I hg hm ?_ hdb)
 exact PySem.W.callWith_K0 I.kIn hk (sN (us:=[]) F hr hb hd hx I .nil h)
end
section
variable{X:Cx}{CX:CXT}{k:Nat}{f C:Addr}{fd:FuncData}{ps ks:List Str}{sp:Sp}{E:XK}{x m:Str}{p pos apos kpos:Pos}{e o:Expr}{es:List Expr}{kws:List Keyword}{te ta:TE}{t tk:TA}{nm:Option Str}
variable{g:List Value->List Value->List Value}{gV:List V->List V->List V}
end
structure mQ(N P:List Str)(sc:Scope):Prop where
 kind:sc.kind=.function
 co:sc.isCoroutine=false
 gen:sc.isGenerator=false
 nd:N.Nodup
 pre:N.take P.length=P
 par:∀x∈P,sc.names.lookup x=some .local\/sc.names.lookup x=some .cell
 nofree:∀y∈sc.names,y.2≠.free
theorem lI{kindOf:Str->Option NameKind}{x:Str}:∀{binds:List (Str×Value)}{m:Str->Option Value},(∀v,(x,v)∉binds)->bindL kindOf binds m x=m x
 | [],_,_=>rfl
 | (n,v)::r,m,h=>by
  unfold bindL
  rw [lI λw hw=>h w (List.mem_cons_of_mem _ hw)]
  split
  ·have:x≠n:=by rintro rfl;exact h v List.mem_cons_self
   simp [this]
  ·rfl
theorem lJ{kindOf:Str->Option NameKind}{x:Str}:∀{binds:List (Str×Value)}{m:Str->Option Value},(∀v,(x,v)∉binds)->bindC kindOf binds m x=m x
 | [],_,_=>rfl
 | (n,v)::r,m,h=>by
  unfold bindC
  rw [lJ λw hw=>h w (List.mem_cons_of_mem _ hw)]
  split
  ·rfl
  ·have:x≠n:=by rintro rfl;exact h v List.mem_cons_self
   simp [this]
theorem lK{kindOf:Str->Option NameKind}{x:Str}{v:Value}:∀{P:List Str}{vs:List Value}{i:Nat}{m:Str->Option Value},P.Nodup->P[i]?=some x->vs[i]?=some v->kindOf x=some .local ->
  bindL kindOf (P.zip vs) m x=some v
 | [],_,_,_,_,h,_,_=>by simp at h
 | _::_,[],_,_,_,_,h,_=>by simp at h
 |p::P,w::vs,0,m,nd,h1,h2,hk=>by
  simp at h1 h2;subst h1;subst h2
  show bindL kindOf ((p,w)::P.zip vs) m p=_
  unfold bindL
  rw [lI λv hv=>(List.nodup_cons.mp nd).1 (List.of_mem_zip hv).1,if_pos hk]
  simp
 |p::P,w::vs,i+1,m,nd,h1,h2,hk=>by
  show bindL kindOf ((p,w)::P.zip vs) m x=_
  unfold bindL
  exact lK (i:=i) (List.nodup_cons.mp nd).2 (by simpa using h1) (by simpa using h2) hk
theorem lL{kindOf:Str->Option NameKind}{x:Str}{v:Value}:∀{P:List Str}{vs:List Value}{i:Nat}{m:Str->Option Value},P.Nodup->P[i]?=some x->vs[i]?=some v->kindOf x≠some .local ->
  bindC kindOf (P.zip vs) m x=some v
 | [],_,_,_,_,h,_,_=>by simp at h
 | _::_,[],_,_,_,_,h,_=>by simp at h
 |p::P,w::vs,0,m,nd,h1,h2,hk=>by
  simp at h1 h2;subst h1;subst h2
  show bindC kindOf ((p,w)::P.zip vs) m p=_
  unfold bindC
  rw [lJ λv hv=>(List.nodup_cons.mp nd).1 (List.of_mem_zip hv).1,if_neg hk]
  simp
 |p::P,w::vs,i+1,m,nd,h1,h2,hk=>by
  show bindC kindOf ((p,w)::P.zip vs) m x=_
  unfold bindC
  exact lL (i:=i) (List.nodup_cons.mp nd).2 (by simpa using h1) (by simpa using h2) hk
noncomputable def fW(N:List Str)(vs:List V):St:=vs.map some++List.replicate (N.length-vs.length) none
noncomputable def nQ(CX:CXT)(P:Program)(w:World)(K:PySem.W.Frag)(mg:Str->Option Value)(base:Heap)(N:List Str)(qual:Str)(scope:Scope)(f:Addr)(cd:Value)(A:Around)(outer:List Env)(s:Shared)(H:Hp)(E:XK):Cx where
 prog:=P
 w:=w
 K:=K
 mg:=mg
 base:=base
 A:=A.deeper (envOfC qual scope s.heap.objs.size f cd)
 N:=N
 s₀:=s
 H₀:=H
 env:=envOfC qual scope s.heap.objs.size f cd
 outer:=outer
 stack:=envOfC qual scope s.heap.objs.size f cd::outer
 ex:=[]
 calm:=true
 fn:=λ_=>true
 pn:=[]
 xe:=λe s'=>wpAny (model P w) (A.deeper (envOfC qual scope s.heap.objs.size f cd)) (leaving (envOfC qual scope s.heap.objs.size f cd) e) (λ_ s''=>CX outer H s E e s'') (λe' s''=>CX outer H s E e' s'') s'
theorem nR{sc:Scope}{n:Nat}{x:Str}(h:sc.names.lookup x=some .cell):∃c,(cellsFrom n sc.names []).lookup x=some c:=by
 have q:=PySem.W.cellsFrom_some sc.names n [] (.inl h)
 exact Option.isSome_iff_exists.mp q
theorem rh{CX:CXT}{P:Program}{w:World}{K:PySem.W.Frag}{mg:Str->Option Value}{base:Heap}{N ps:List Str}{qual:Str}{scope:Scope}{f:Addr}{cd:Value}{A:Around}{outer:List Env}{s s1:Shared}{H:Hp}{E:XK}{us:List Value}{vs:List V}
  (S:mQ N ps scope) (hd:A.handled=none) (e0:wf P w K mg base A outer s H) (hl:vs.length=ps.length) (r:aw vs us)
  (x:InCallC s s.heap.objs.size (bindL (envOfC qual scope s.heap.objs.size f cd).kindOf (ps.zip us) λ_=>none) (cellsFrom (s.heap.objs.size+1) scope.names []) (bindC (envOfC qual scope s.heap.objs.size f cd).kindOf (ps.zip us) λ_=>none) s1) :
  Inv (nQ CX P w K mg base N qual scope f cd A outer s H E) [] (fW N vs) H s1:=by
 have hpl:ps.length<=N.length:=by have:=congrArg List.length S.pre;rw [List.length_take]at this;omega
 obtain⟨h1,tk,rfl,hk⟩:=x.done
 have noA:∀b:Addr,b∉(nQ CX P w K mg base N qual scope f cd A outer s H E).ex:=λb z=>absurd (show b∈([]:List Addr) from z) (by simp)
 refine⟨⟨e0.mod,S.kind,rfl,rfl,Nat.le_refl _,λy z c h1 h2=>?_,λy hy=>?_,λy c _ h=>?_,λ_=>hd,Around.frames_deeper e0.frames,.inr ⟨rfl,rfl⟩,λb z=>absurd z (noA b),e0.bs,e0.bsz,λb _ _=>noA b,λb z=>absurd z (noA b),e0.funs,e0.frf⟩,
  rfl,e0.bare,Un.kept hk,⟨_,x.toInCall.ns,λi y v h1 h2 h3=>?_⟩,λy c h=>⟨_,x.cell y c h⟩,e0.hok.fresh (Nat.le_refl _),λy c h=>?_,λp hp=>absurd (show p∈([]:List (Addr×Obj)) from hp) (by simp),e0.hok.kept hk,?_⟩
 ·exact name_of_addr x.apart (PySem.mem_of_lookup h1) (PySem.mem_of_lookup h2)
 ·have hy:scope.names.lookup y=some .cell\/scope.names.lookup y=some .free:=hy
  rcases hy with hy|hy
  ·exact nR hy
  ·exact absurd rfl (S.nofree _ (PySem.mem_of_lookup hy))
 ·exact Nat.le_of_lt (x.above y c (PySem.mem_of_lookup h))
 ·have hi:i<vs.length:=by
   unfold fW at h2
   by_cases hi:i<vs.length
   ·exact hi
   ·rw [List.getElem?_append_right (by simpa using hi)]at h2
    rw [List.getElem?_replicate]at h2
    split at h2<;>cases h2
  have ha:vs[i]?=some v:=by
   unfold fW at h2
   rw [List.getElem?_append_left (by simpa using hi),List.getElem?_map]at h2
   cases e:vs[i]? with
   |none=>rw [e]at h2;cases h2
   |some a=>rw [e]at h2;cases h2;rfl
  obtain⟨u,hu,rv⟩:=r.get ha
  have hp:ps[i]?=some y:=by
   rw [<- S.pre,List.getElem?_take_of_lt (by omega)];exact h1
  have ndP:ps.Nodup:=by rw [<- S.pre];exact S.nd.sublist (List.take_sublist _ _)
  refine⟨u,rv,?_⟩
  rcases S.par y (List.mem_of_getElem? hp) with k|k
  ·exact .inl ⟨k,lK ndP hp hu k⟩
  ·obtain⟨c,e⟩:=nR (n:=s.heap.objs.size+1) k
   refine .inr ⟨.inl k,c,e,?_⟩
   have q:=x.cell y c e
   rw [lL ndP hp hu (by show scope.names.lookup y≠_;rw [k];decide)]at q
   exact q
 ·exact e0.hok.fresh (Nat.le_of_lt (x.above y c (PySem.mem_of_lookup h)))
 ·unfold fW
  show _=N.length
  rw [List.length_append,List.length_map,List.length_replicate]
  omega
theorem xL{CX:CXT}{P:Program}{w:World}{K:PySem.W.Frag}{mg:Str->Option Value}{base:Heap}{k:Nat}{f:Addr}{name qual:Str}{params:Arguments}{body:List Stmt}{scope:Scope}{dV kV doc pm cdv ct oc:Value}{an od:Option Addr}
  {osl:Array (Option Value)}{N ps:List Str}{sp:Sp} (lk:K.lookup f=some ⟨oc,od,.func (PySem.W.fnOf name qual params body scope dV kV doc pm an cdv ct),osl⟩) (hcd:PySem.W.codeIn K cdv qual=true) (S:mQ N ps scope)
  (len:∀vs H Q E,sp vs H Q E->vs.length=ps.length)
  (hbody:∀(A:Around) (outer:List Env) (s:Shared) (H:Hp) (vs:List V) (Q:VK) (E:XK),iS k (A.deeper (envOfC qual scope s.heap.objs.size f cdv))->sp vs H Q E ->
   ∃t,PSs (nQ CX P w K mg base N qual scope f cdv A outer s H E) body t/\t { nx:=λ_ H'=>Q .non H',rt:=Q } (fW N vs) H) :
  iT P w K mg base CX (k+1) f (PySem.W.fnOf name qual params body scope dV kV doc pm an cdv ct) ps sp:=by
 refine⟨len,λA outer s H args us vs Q E hr e0 hb r hsp=>?_⟩
 have hl:=len _ _ _ _ hsp
 have KX:K.In s.heap:=e0.mod.kin.keeps λb o e=>(e0.bs b o e).1
 have lim:s.heap.NoLimit:=e0.mod.nolimit.keeps λb o e=>(e0.bs b o e).1
 have hkind:∀y∈ps.zip us,scope.names.lookup y.1=some .local\/(scope.names.lookup y.1=some .cell/\((cellsFrom (s.heap.objs.size+1) scope.names []).lookup y.1).isSome=true):=λ⟨n,v⟩ hy=>by
  rcases S.par n (List.of_mem_zip hy).1 with q|q
  ·exact .inl q
  ·exact .inr ⟨q,PySem.W.cellsFrom_some _ _ _ (.inl q)⟩
 refine codeAny_call_function hr.depth (KX _ _ lk) rfl S.co S.gen rfl (PySem.W.codeRec_of KX hcd) (hb _ _ _ _ ?_)
 refine wpAny_newFunctionEnv_cells S.kind hkind λenv he s1 x=>?_
 subst he
 refine⟨lim.keeps x.toInCall.keep,codeAny_func ?_⟩
 obtain⟨t,ht,hq⟩:=hbody A outer s H vs Q E (hr.deeper _) hsp
 have I:Inv (nQ CX P w K mg base N qual scope f cdv A outer s H E) [] (fW N vs) H s1:=rh S hr.hd e0 hl r x
 refine wpAny_mono (ht [] s1 (fW N vs) H _ I hq) (λfl s' hs=>?_) λe s' hs=>hs
 have fin:∀{σ':St}{H':Hp}{v:V}{u:Value},Inv (nQ CX P w K mg base N qual scope f cdv A outer s H E) [] σ' H' s'->aq v u->Q v H'->CE outer P w H s Q u s' :=
  λ{σ' H' v u} J rv q=>⟨v,H',J.os,J.bare,J.base,J.hok,rv,q⟩
 cases fl with
 |ret u =>
  obtain⟨v,σ',H',J,rv,q⟩:=hs
  exact fin J rv q
 |next =>
  obtain⟨σ',H',J,q⟩:=hs
  exact fin (v:=V.non) (u:=Value.none) J rfl q
 |brk =>
  obtain⟨_,_,_,q⟩:=hs
  exact False.elim q
 |cont =>
  obtain⟨_,_,_,q⟩:=hs
  exact False.elim q
end L2
namespace L2
open PySem PySem.Spec PyProof.Rows
section
variable{X:Cx}{x:Str}{p pos:Pos}{e:Expr}{es:List Expr}{t:TA}{id T:String}{r:List V->Hp->VK->Prop}
noncomputable def tCB(r:List V->Hp->VK->Prop)(t:TA):TE:=λσ H Q=>t σ H λvs H1=>r vs H1 Q
theorem dz (hc:bR X (.builtin id) r) (hg:Gl X x) (hm:X.mg x=none) (hv:bootBuiltins x=some (.builtin id)) (ha:PA X (e::es) t) (hn:x ≠ "__name__":=by decide) (hdb:(x == ("__debug__":Str))=false:=by decide)
  (he:starEach (e::es) X.env=(false,eval e X.env)::starEach es X.env:=by rfl) (hpl:(backTo pos (starEach es X.env)).any (·.1)=false:=by rfl):PE X (.Call (.Name x p) (e::es) [] pos) (tCB r t):=by
 intro pins s σ H Q I h
 refine wpAny_Call_Name_kw (iQ I hg hm hv ?_ hn hdb)
 exact PyProof.Rows.callWith_builtin1 (thn (ha pos pins s σ H _ I h) λus s1 ⟨vs,H1,I1,r1,q1⟩=>hc pins s1 σ H1 vs us Q I1 r1 q1) he hpl
theorem c_ (hc:bR X (.type T) r) (hg:Gl X x) (hm:X.mg x=none) (hv:bootBuiltins x=some (.type T)) (ha:PA X (e::es) t) (hn:x ≠ "__name__":=by decide) (hdb:(x == ("__debug__":Str))=false:=by decide)
  (he:starEach (e::es) X.env=(false,eval e X.env)::starEach es X.env:=by rfl) (hpl:(backTo pos (starEach es X.env)).any (·.1)=false:=by rfl):PE X (.Call (.Name x p) (e::es) [] pos) (tCB r t):=by
 intro pins s σ H Q I h
 refine wpAny_Call_Name_kw (iQ I hg hm hv ?_ hn hdb)
 exact PyProof.Rows.callWith_type1 (thn (ha pos pins s σ H _ I h) λus s1 ⟨vs,H1,I1,r1,q1⟩=>hc pins s1 σ H1 vs us Q I1 r1 q1) he hpl
end
end L2
namespace HT
open PySem PyProof.Rows
noncomputable def lexLt:List Int->List Int->Bool
 | [],[]=>false
 | [],_::_=>true
 | _::_,[]=>false
 |x::xs,y::ys=>if x=y then lexLt xs ys else decide (x<y)
theorem lexLt_cons(x y:Int)(xs ys:List Int):lexLt (x::xs) (y::ys)=if x=y then lexLt xs ys else decide (x<y):=rfl
theorem lq:lexLt [] []=false:=rfl
theorem jU(y:Int)(ys:List Int):lexLt [] (y::ys)=true:=rfl
theorem jV(x:Int)(xs:List Int):lexLt (x::xs) []=false:=rfl
theorem sO(A:Around)(s:Shared)(a:Int)(t:Tok)(c:Int)(u:Tok):∃e,SeqAt.EqAt A s (.int a t) (.int c u) e/\(e=true ↔ a=c) :=
 ⟨(a == c),SeqAt.EqAt.int_int a t c u,by simp⟩
theorem sP(A:Around)(s:Shared)(a:Int)(t:Tok)(c:Int)(u:Tok)(prog:Program)(w:World)(E:Value->Shared->Prop)(Q:Value->Shared->Prop)(h:Q (.bool (decide (a<c))) s) :
  wpAny (model prog w) A (richCompare .Lt (.int a t) (.int c u)) Q E s :=
 (PyProof.Rows.lt_int h:wpAny (model prog w) A (compareOp .Lt (.int a t) (.int c u)) Q E s)
section
open PySem.SeqAt
open PySem.AutoSeq1 (wpAny_loadPart')
open PySem.MeetsSeq PySem.MeetsSeq2 PySem.MeetsSeq3
theorem tuple_lt_ints(l b:Addr)(items items2:Array Value)(n n2:Nat)(dd dd2:Option Addr)(sl sl2:Array (Option Value))(ns ms:List Int)(hi:IntsAre items.toList ns)(hj:IntsAre items2.toList ms) :
  Meets (Builtin.«tuple.__lt__» ⟨[.ref l,.ref b],[]⟩)
   (λ_ R s=>s.heap.get? l=some { cls:=.type "tuple",dict:=dd,data:=.seq items n,slots:=sl }/\s.heap.get? b=some { cls:=.type "tuple",dict:=dd2,data:=.seq items2 n2,slots:=sl2 } /\
    R (.ok (.ret (.bool (lexLt ns ms)))) s) :=
 .of_wp λprog w A R s h=>by
  obtain⟨hp,g,d,tk,os⟩:=s;obtain⟨hl,hb,h⟩:=h
  have f2:=AutoSeq1.sub_tuple_tuple
  have z1:items.size=ns.length:=by rw [<- hi.length];simp
  have z2:items2.size=ms.length:=by rw [<- hj.length];simp
  wp_walk using wpAny_loadPart' hl,wpAny_loadPart' hb,wpAny_forIn_list _ (λcx b s'=>b.1=none/\s'=⟨hp,g,d,tk,os⟩/\∃(vs ws:List Value) (ns' ms':List Int),cx=vs.zip ws /\
   IntsAre vs ns'/\IntsAre ws ms'/\ns'.length+items2.size=ms'.length+items.size/\R (.ok (.ret (.bool (lexLt ns' ms')))) ⟨hp,g,d,tk,os⟩) _
  case turn =>
   rintro ⟨y,x⟩ cx b s' ⟨hb',rfl,vs,ws,ns',ms',hz,hvi,hwi,hlen,hR⟩
   cases hvi with
   |nil=>rw [List.zip_nil_left]at hz;cases hz
   | cons a t hvi' =>
    cases hwi with
    |nil=>rw [List.zip_nil_right]at hz;cases hz
    | cons c u hwi' =>
     rw [List.zip_cons_cons]at hz
     injection hz with hyx hrest
     injection hyx with hy hx
     subst hy hx
     rw [lexLt_cons]at hR
     simp only [List.length_cons]at hlen
     obtain⟨e,he,hiff⟩:=sO A.in1 ⟨hp,g,d,tk,os⟩ a t c u
     refine wpAny_bind (he prog w _ _ ?_)
     cases e with
     |true =>
      rw [if_pos (hiff.mp rfl)]at hR
      wp_walk
      exact⟨rfl,rfl,_,_,_,_,hrest,hvi',hwi',by omega,hR⟩
     |false =>
      rw [if_neg (λq=>absurd (hiff.mpr q) Bool.false_ne_true)]at hR
      have hri:=sP A.in1 ⟨hp,g,d,tk,os⟩ a t c u prog w
      wp_walk using hri
      exact⟨_,rfl,by simpa using hR⟩
  case fin =>
   rintro ⟨b1,b2⟩ s' ⟨hb',rfl,vs,ws,ns',ms',hz,hvi,hwi,hlen,hR⟩
   simp only at hb'
   subst hb'
   have hv:lexLt ns' ms'=decide (items.size<items2.size):=by
    cases hvi with
    | nil =>
     cases hwi with
     |nil =>
      simp only [List.length_nil]at hlen
      rw [lq]
      exact(decide_eq_false (by omega)).symm
     |cons c u hw =>
      simp only [List.length_nil,List.length_cons]at hlen
      rw [jU]
      exact(decide_eq_true (by omega)).symm
    | cons a t hv =>
     cases hwi with
     |nil =>
      simp only [List.length_nil,List.length_cons]at hlen
      rw [jV]
      exact(decide_eq_false (by omega)).symm
     |cons c u hw =>
      rw [List.zip_cons_cons]at hz
      cases hz
   rw [hv]at hR
   wp_walk
   exact⟨_,rfl,by simpa [Builtin.Tuple.tupleCompareSizes] using hR⟩
  case h =>
   exact⟨rfl,rfl,items.toList,items2.toList,ns,ms,rfl,hi,hj,by omega,h⟩
end
section
variable{prog:Program}{w:World}{A:Around}{E:Value->Shared->Prop}{s:Shared}
theorem lt_tupInts{l b:Addr}{items items2:Array Value}{ns ms:List Int}{Q:Value->Shared->Prop}(hl:IsTup s.heap l items)(hb:IsTup s.heap b items2)(hi:IntsAre items.toList ns)(hj:IntsAre items2.toList ms)
  (hu:A.units<cLine) (h:Q (.bool (lexLt ns ms)) s):wpAny (model prog w) A (compareOp .Lt (.ref l) (.ref b)) Q E s:=by
 obtain⟨⟨cls,dd,data,sl⟩,ho,hc,n,hd⟩:=id hl
 obtain⟨⟨cls2,dd2,data2,sl2⟩,ho2,hc2,n2,hd2⟩:=id hb
 simp only at hc hd hc2 hd2
 subst hc hd hc2 hd2
 exact richCompare_meets_room (op:=.Lt) ⟨_,ho,rfl⟩ ⟨_,ho2,rfl⟩ PySem.F.slot_tuple_lt PySem.F.entry_tuple_lt (PySem.F.args_tuple_lt_2 _ _) (tuple_lt_ints l b items items2 n n2 dd dd2 sl sl2 ns ms hi hj)
  ⟨ho,ho2,show Value.bool (lexLt ns ms)≠Value.notImplemented/\Q (.bool (lexLt ns ms)) s from⟨(λx=>nomatch x),h⟩⟩ hu
theorem cat_tup{t b:Addr}{vs ws:List Value}{Q:Value->Shared->Prop}(ht:IsTup s.heap t vs.toArray)(hb:IsTup s.heap b ws.toArray)(hv:vs≠[])
  (h1:ws=[]->Q (.ref t) s) (h2:ws≠[]->Q (.ref s.heap.objs.size) { s with heap:=s.heap.push { cls:=.type "tuple",data:=.seq (vs++ws).toArray } })
  (hsz:vs.length+ws.length<=sizeLine):wpAny (model prog w) A (binaryOp .Add (.ref t) (.ref b)) Q E s:=by
 obtain⟨⟨cls,dd,data,sl⟩,ho,hc,n,hd⟩:=id ht
 obtain⟨⟨cls2,dd2,data2,sl2⟩,ho2,hc2,n2,hd2⟩:=id hb
 simp only at hc hd hc2 hd2
 subst hc hd hc2 hd2
 have e:vs.toArray++ws.toArray=(vs++ws).toArray:=by simp
 by_cases hw:ws=[]
 ·exact concat_meets ⟨_,ho,rfl⟩ ⟨_,ho2,rfl⟩ noFill_tuple_add seq_tuple_add PySem.F.slot_tuple_add PySem.F.entry_tuple_add (PySem.F.args_tuple_add_2 _ _)
   (tuple_addW1 t b vs.toArray ws.toArray n n2 dd dd2 sl sl2 (by simpa using hv) (by simp [hw])) ⟨ho,ho2,h1 hw⟩
 ·refine concat_meets ⟨_,ho,rfl⟩ ⟨_,ho2,rfl⟩ noFill_tuple_add seq_tuple_add PySem.F.slot_tuple_add PySem.F.entry_tuple_add (PySem.F.args_tuple_add_2 _ _)
   (tuple_addW2 t b vs.toArray ws.toArray n n2 dd dd2 sl sl2 (by simpa using hv) (by simpa using hw) (by rw [List.size_toArray,List.size_toArray];exact hsz)) ⟨ho,ho2,?_⟩
  rw [e]
  exact h2 hw
noncomputable def sIx(n d:Nat):Option Int->Nat
 |none=>d
 |some v=>if v<0 then (v+(n:Int)).toNat else min v.toNat n
theorem yC(n d:Nat)(hd:d<=n)(o:Option Int):sIx n d o<=n:=by
 cases o with
 |none=>exact hd
 |some v =>
  show(if v<0 then (v+(n:Int)).toNat else min v.toNat n)<=n
  by_cases hv:v<0
  ·rw [if_pos hv];omega
  ·rw [if_neg hv];exact Nat.min_le_right _ _
theorem p8(v:Int)(n d:Nat):(if v<0 then max (v+(n:Int)) 0 else min v (n:Int))=((sIx n d (some v):Nat):Int):=by
 show(if v<0 then max (v+(n:Int)) 0 else min v (n:Int))=(((if v<0 then (v+(n:Int)).toNat else min v.toNat n):Nat):Int)
 by_cases hv:v<0
 ·simp only [if_pos hv];omega
 ·simp only [if_neg hv];omega
theorem pi(lo hi:Option Int)(n:Nat):Builtin.Slice.sliceAdjust lo hi 1 (n:Int)=(((sIx n 0 lo:Nat):Int),((sIx n n hi:Nat):Int)):=by
 have h1:¬ ((1:Int)<0):=by omega
 unfold Builtin.Slice.sliceAdjust
 simp only [h1,if_false]
 refine Prod.ext ?_ ?_
 ·cases lo with
  |none=>rfl
  |some v=>exact p8 v n 0
 ·cases hi with
  |none=>rfl
  |some v=>exact p8 v n n
theorem pj(i j:Nat):Builtin.Slice.slicePlaces (i:Int) (j:Int) 1=j-i:=by
 unfold Builtin.Slice.slicePlaces
 have h1:(1:Int) > 0:=by omega
 simp only [h1,if_true,Int.ediv_one]
 split<;>omega
theorem jW{v:Value}{o:Option Int}{Q:Option Int->Shared->Prop}(p:IsPart v o)(h:Q o s):wpAny (model prog w) A (Builtin.Slice.slicePartIndex v) Q E s:=by
 cases p with
 |none=>exact slicePart_none h
 |int i t=>exact slicePart_int h
theorem eW{sl:Addr}{vl vu:Value}{lo hi:Option Int}{n:Nat}{Q:Int×Int×Nat->Shared->Prop}(hs:s.heap.IsSliceOf sl vl vu .none)(pl:IsPart vl lo)(pu:IsPart vu hi)
  (h:Q (((sIx n 0 lo:Nat):Int),1,sIx n n hi-sIx n 0 lo) s):wpAny (model prog w) A (Builtin.Slice.sliceApplied (.ref sl) (pure (n:Int))) Q E s:=by
 obtain⟨os,hos,hcs,hds⟩:=id hs
 unfold Builtin.Slice.sliceApplied Builtin.Slice.sliceFields
 refine wpAny_bind (wpAny_bind (wpAny_field hos hds (x:=vl) rfl (wpAny_bind (wpAny_field hos hds (x:=vu) rfl (wpAny_bind (wpAny_field hos hds (x:=.none) rfl (wpAny_pure ?_)))))))
 refine wpAny_bind (slicePart_none ?_)
 show wpAny _ _ (if ((1:Int) == 0)=true then _ else _) _ _ s
 rw [if_neg (by decide)]
 refine wpAny_bind (jW pl (wpAny_bind (jW pu (wpAny_bind (wpAny_pure ?_)))))
 show wpAny _ _ (match Builtin.Slice.sliceAdjust lo hi 1 (n:Int) with|(lo,hi)=>pure (lo,(1:Int),Builtin.Slice.slicePlaces lo hi 1)) _ _ s
 rw [pi lo hi n]
 show wpAny _ _ (pure (((sIx n 0 lo:Nat):Int),(1:Int),Builtin.Slice.slicePlaces ((sIx n 0 lo:Nat):Int) ((sIx n n hi:Nat):Int) 1)) _ _ s
 rw [pj]
 exact wpAny_pure h
theorem sQ(xs:Array Value)(i k:Nat):((List.range k).filterMap λ(m:Nat)=>xs[((i:Int)+(m:Int)*1).toNat]?).toArray=((xs.toList.drop i).take k).toArray:=by
 have e:(λ(m:Nat)=>xs[((i:Int)+(m:Int)*1).toNat]?)=λm=>xs[i+m]?:=by
  funext m
  have:((i:Int)+(m:Int)*1).toNat=i+m:=by omega
  rw [this]
 rw [e]
 have:=pick_run xs i k
 rw [List.filterMap_map]at this
 have e2:((λx=>xs[x]?) ∘ λx=>i+x)=λm=>xs[i+m]?:=rfl
 rw [e2]at this
 rw [this]
theorem getItem_tuple_cut{t sl:Addr}{items:Array Value}{vl vu:Value}{lo hi:Option Int}{Q:Value->Shared->Prop}(ht:IsTup s.heap t items)(hs:s.heap.IsSliceOf sl vl vu .none)(pl:IsPart vl lo)(pu:IsPart vu hi)
  (hw:¬ (sIx items.size 0 lo=0/\sIx items.size items.size hi=items.size))
  (h:Q (.ref s.heap.objs.size) { s with heap:=s.heap.push { cls:=.type "tuple",data:=.seq ((items.toList.drop (sIx items.size 0 lo)).take (sIx items.size items.size hi-sIx items.size 0 lo)).toArray } })
  (hsz:items.size<=sizeLine):wpAny (model prog w) A (getItem (.ref t) (.ref sl)) Q E s:=by
 have htake:sizeOk (.seq ((items.toList.drop (sIx items.size 0 lo)).take (sIx items.size items.size hi-sIx items.size 0 lo)).toArray):=by
  show((items.toList.drop (sIx items.size 0 lo)).take (sIx items.size items.size hi-sIx items.size 0 lo)).toArray.size<=sizeLine
  rw [List.size_toArray,List.length_take,List.length_drop,Array.length_toList]
  omega
 have hj:sIx items.size items.size hi<=items.size:=yC _ _ (Nat.le_refl _) hi
 obtain⟨os,hos,hcs,hds⟩:=id hs
 have hTs:s.TypeIs (.ref sl) "slice":=⟨os,hos,hcs⟩
 unfold getItem
 try with_reducible refine wpAny_holding ?_
 first|refine wpAny_bind (wpAny_pure ?_)|skip
 refine wpAny_bind (wpAny_sequenceKey ht.typeIs (by decide) ?_)
 refine wpAny_bind (wpAny_callSpecial?_slot (name:=Str.ofString "__getitem__") ht.typeIs PyProof.Rows.slot_tuple_getitem
  (wpAny_call_entry PyProof.Rows.slot_tuple_getitem ht.typeIs entry_tuple_getitem ?_ (args_tuple_getitem _ _)))
 show wpAny _ _ (Builtin.Tuple.tupleItemsOf (.ref t) >>= _) _ _ s
 refine wpAny_bind (tupleItemsOf_ ht ?_)
 refine wpAny_bind (wpAny_typeOf hTs ?_)
 rw [if_pos (by decide)]
 refine wpAny_bind (eW hs pl pu ?_)
 have hno:¬ ((((sIx items.size 0 lo:Nat):Int) == 0&&(1:Int) == 1&&(sIx items.size items.size hi-sIx items.size 0 lo) == items.size)=true):=by
  intro q
  rw [Bool.and_eq_true,Bool.and_eq_true]at q
  have q1:((sIx items.size 0 lo:Nat):Int)=0:=eq_of_beq q.1.1
  have q2:sIx items.size items.size hi-sIx items.size 0 lo=items.size:=eq_of_beq q.2
  exact hw ⟨by omega,by omega⟩
 show wpAny _ _ (if (((sIx items.size 0 lo:Nat):Int) == 0&&(1:Int) == 1&&(sIx items.size items.size hi-sIx items.size 0 lo) == items.size)=true then _ else _) _ _ s
 rw [if_neg hno,sQ]
 first
  | exact wpAny_bind (m:=Builtin.Tuple.tupleExact _) (wpAny_newObj_type (wpAny_pure ⟨_,rfl,wpAny_pure h⟩) htake)
  | exact wpAny_bind (m:=Builtin.Tuple.tupleExact _) (wpAny_newObj_type (wpAny_bind (wpAny_pure (wpAny_pure ⟨_,rfl,wpAny_pure h⟩))) htake)
  | exact wpAny_bind (wpAny_bind (m:=Builtin.Tuple.tupleExact _) (wpAny_newObj_type (wpAny_pure (wpAny_pure ⟨_,rfl,wpAny_pure h⟩)) htake))
  | exact wpAny_bind (wpAny_bind (m:=Builtin.Tuple.tupleExact _) (wpAny_newObj_type (wpAny_pure ⟨_,rfl,wpAny_pure h⟩) htake))
end
end HT
namespace L2
open PySem PySem.Spec PyProof.Rows
noncomputable abbrev TO:=St->Hp->(Option Int->Hp->Prop)->Prop
noncomputable def PO(X:Cx)(e:Option Expr)(t:TO):Prop :=
 ∀(pins:List (Addr×Obj)) (s:Shared) (σ:St) (H:Hp) (Q:Option Int->Hp->Prop),Inv X pins σ H s->t σ H Q ->
  wpAny (model X.prog X.w) X.A (evalPart e X.env) (λu s'=>∃o H',Inv X pins σ H' s'/\IsPart u o/\Q o H') X.xe s
noncomputable def wg:TO:=λ_ H Q=>Q none H
noncomputable def A7(t:TE):TO:=λσ H Q=>t σ H λx H1=>∃i,x=.int i/\Q (some i) H1
theorem cK{ns:List Int}:∀{us:List Value},aw (ns.map V.int) us->IntsAre us ns:=by
 induction ns with
 |nil=>intro us r;rw [List.map_nil]at r;cases r;exact .nil
 | cons n ns ih =>
  intro us r
  rw [List.map_cons]at r
  cases r with
  |cons r1 r2 =>
   obtain⟨t,e⟩:=r1
   subst e
   exact .cons n t (ih r2)
section
variable{X:Cx}{e:Expr}{te:TE}{lo hi:Option Expr}{tl th:TO}{pos p2:Pos}
theorem wj:PO X none wg:=by
 intro pins s σ H Q I h
 rw [evalPart_none]
 exact wpAny_pure ⟨none,H,I,.none,h⟩
theorem wk(h:PE X e te):PO X (some e) (A7 te):=by
 intro pins s σ H Q I hw
 rw [evalPart_some]
 refine thn (h pins s σ H _ I hw) λu s1 ⟨x,H1,I1,r1,q1⟩=>?_
 obtain⟨i,rfl,q⟩:=q1
 obtain⟨t,rfl⟩:=r1
 exact⟨some i,H1,I1,.int i t,q⟩
noncomputable def SlR(X:Cx)(r:V->Option Int->Option Int->Hp->VK->Prop):Prop :=
 ∀(pins:List (Addr×Obj)) (s:Shared) (σ:St) (H:Hp) (x:V) (v vl vu:Value) (lo hi:Option Int) (sl:Addr) (Q:VK),Inv X pins σ H s->aq x v->s.heap.IsSliceOf sl vl vu .none->IsPart vl lo->IsPart vu hi->r x lo hi H Q ->
  ∃T id,typeLookup (.type T) "__getitem__"=pure (some (.builtin id))/\s.TypeIs v T/\wpAny (model X.prog X.w) X.A (getItem v (.ref sl)) (EP X pins σ Q) X.xe s
noncomputable def tSl(r:V->Option Int->Option Int->Hp->VK->Prop)(te:TE)(tl th:TO):TE:=λσ H Q=>te σ H λx H1=>tl σ H1 λl H2=>th σ H2 λu H3=>r x l u H3 Q
theorem sR{r:V->Option Int->Option Int->Hp->VK->Prop}(hr:SlR X r)(he:PE X e te)(hl:PO X lo tl)(hu:PO X hi th):PE X (.Subscript e (.Slice lo hi none p2) pos) (tSl r te tl th):=by
 intro pins s σ H Q I h
 refine Subscript_ (thn (he pins s σ H _ I h) λv s1 ⟨x,H1,I1,r1,q1⟩=>?_)
 refine wpAny_Slice (thn (hl pins s1 σ H1 _ I1 q1) λvl s2 ⟨l,H2,I2,pl,q2⟩=>thn (hu pins s2 σ H2 _ I2 q2) λvu s3 ⟨u,H3,I3,pu,q3⟩=>?_)
 rw [evalPart_none]
 refine wpAny_pure ?_
 have I4:Inv X pins σ H3 { s3 with heap:=s3.heap.push { cls:=.type "slice",data:=.fields #[vl,vu,.none] } }:=I3.kept (t':=s3.toks) λb ob q=>Heap.get?_push_of_some _ q
 obtain⟨T,id,hT,ht,hg⟩:=hr pins { s3 with heap:=s3.heap.push { cls:=.type "slice",data:=.fields #[vl,vu,.none] } } σ H3 x v vl vu l u s3.heap.objs.size Q I4 r1 (Heap.IsSliceOf.new ..) pl pu q3
 show wpAny (model X.prog X.w) X.A (subscriptTail e (.Slice lo hi none p2) v (.ref s3.heap.objs.size)) (EP X pins σ Q) X.xe { s3 with heap:=s3.heap.push { cls:=.type "slice",data:=.fields #[vl,vu,.none] } }
 exact tail_any (ops:=[.ref s3.heap.objs.size,v]) ht hT hg (by with_unfolding_all rfl)
noncomputable def nS(xs:List V)(lo hi:Option Int):List V:=(xs.drop (HT.sIx xs.length 0 lo)).take (HT.sIx xs.length xs.length hi-HT.sIx xs.length 0 lo)
theorem jg(xs:List V)(lo hi:Option Int):(nS xs lo hi).length<=xs.length:=by
 unfold nS
 rw [List.length_take,List.length_drop]
 omega
noncomputable def CL(K:PySem.W.Frag):V->Option Int->Option Int->Hp->VK->Prop:=λx lo hi H Q=>∃a xs,x=.ref a/\SqT K H a xs /\
 ¬ (HT.sIx xs.length 0 lo=0/\HT.sIx xs.length xs.length hi=xs.length)/\∀p,H p=none->Q (.ref p) (upd H p (.tup (nS xs lo hi)))
theorem yD:SlR X (CL X.K):=by
 intro pins s σ H x v vl vu lo hi sl Q I rx hs pl pu h
 obtain⟨a,xs,rfl,hx,hw,q⟩:=h
 cases rx
 obtain⟨its,r,ht,hz⟩:=I.tuple hx
 have hlen:its.toArray.size=xs.length:=by rw [List.size_toArray];exact r.length.symm
 refine⟨"tuple",_,PyProof.Rows.slot_tuple_getitem.lookup,ht.typeIs,?_⟩
 refine HT.getItem_tuple_cut ht hs pl pu (by rw [hlen];exact hw) ?_ (by rw [hlen];exact hz)
 rw [hlen]
 refine⟨.ref s.heap.objs.size,_,I.laid (t':=s.toks) (o:=.tup (nS xs lo hi)) (λb ob q=>Heap.get?_push_of_some _ q) (Nat.le_refl _) ?_,rfl,q _ (I.hok.fresh (Nat.le_refl _))⟩
 exact⟨Nat.le_trans (jg xs lo hi) hz,_,(r.drop (HT.sIx xs.length 0 lo)).take (HT.sIx xs.length xs.length hi-HT.sIx xs.length 0 lo),IsTup.new _ _⟩
noncomputable def A8(K:PySem.W.Frag):R2:=λx y H Q=>∃a b xs ys,x=.ref a/\y=.ref b/\SqT K H a xs/\SqT K H b ys/\xs≠[]/\xs.length+ys.length<=sizeLine /\
 (ys=[]->Q (.ref a) H)/\(ys≠[]->∀p,H p=none->Q (.ref p) (upd H p (.tup (xs++ys))))
theorem aw.nil_iff{xs:List V}{us:List Value}(r:aw xs us):us=[] ↔ xs=[]:=by
 cases r with
 |nil=>simp
 |cons _ _=>simp
theorem wl:OpR X (binaryOp .Add) (A8 X.K):=by
 intro pins s σ H x y v u Q I rx ry h
 obtain⟨a,b,xs,ys,rfl,rfl,ha,hb,hx,hz,q1,q2⟩:=h
 cases rx
 cases ry
 obtain⟨its,r1,p1,_⟩:=I.tuple ha
 obtain⟨its2,r2,p2,_⟩:=I.tuple hb
 refine HT.cat_tup p1 p2 (λz=>hx (r1.nil_iff.mp z)) (λz=>⟨.ref a,H,I,rfl,q1 (r2.nil_iff.mp z)⟩) (λz=>?_) (by rw [<- r1.length,<- r2.length];exact hz)
 refine⟨.ref s.heap.objs.size,_,I.laid (t':=s.toks) (o:=.tup (xs++ys)) (λb ob q=>Heap.get?_push_of_some _ q) (Nat.le_refl _) ?_,rfl,q2 (λw=>z (r2.nil_iff.mpr w)) _ (I.hok.fresh (Nat.le_refl _))⟩
 exact⟨by rw [List.length_append];exact hz,_,r1.append r2,IsTup.new _ _⟩
end
end L2
namespace L2
open PySem PySem.Spec PyProof.Rows
noncomputable def ixN(n:Nat)(i:Int):Option Nat:=if 0<=i then (if i<n then some i.toNat else none) else if -(n:Int)<=i then some (i+n).toNat else none
noncomputable def atI{α:Type}(xs:List α)(i:Int):Option α:=(ixN xs.length i).bind λj=>xs[j]?
theorem p9{n:Nat}{i:Int}{j:Nat}(h:ixN n i=some j):seqIndex? i n=some j/\j<n/\-(n:Int)<=i/\i<n:=by
 unfold ixN at h
 by_cases h0:0<=i
 ·rw [if_pos h0]at h
  by_cases h1:i<n
  ·rw [if_pos h1]at h
   have e:i.toNat=j:=Option.some.inj h
   exact⟨by rw [seqIndex_of h0 h1,e],by omega,by omega,h1⟩
  ·rw [if_neg h1]at h;cases h
 ·rw [if_neg h0]at h
  by_cases h1:-(n:Int)<=i
  ·rw [if_pos h1]at h
   have e:(i+n).toNat=j:=Option.some.inj h
   exact⟨by rw [seqIndex_neg (by omega) h1,e],by omega,h1,by omega⟩
  ·rw [if_neg h1]at h;cases h
theorem mR{α:Type}{xs:List α}{i:Int}{v:α}(h:atI xs i=some v):∃j,seqIndex? i xs.length=some j/\xs[j]?=some v/\j<xs.length/\-(xs.length:Int)<=i/\i<xs.length:=by
 unfold atI at h
 cases e:ixN xs.length i with
 |none=>rw [e]at h;cases h
 |some j =>
  rw [e]at h
  obtain⟨h1,h2,h3,h4⟩:=p9 e
  exact⟨j,h1,h,h2,h3,h4⟩
noncomputable def p_(b:Expr):Prop:=∀o i,subscripted b false o i=operate [o,i] (getItem o i)
noncomputable def IxR(X:Cx)(r:R2):Prop :=
 ∀(value slice:Expr) (pins:List (Addr×Obj)) (s:Shared) (σ:St) (H:Hp) (x y:V) (v u:Value) (Q:VK),Inv X pins σ H s->aq x v->aq y u->r x y H Q ->
  subscripted slice false v u=operate [v,u] (getItem v u)->wpAny (model X.prog X.w) X.A (subscriptTail value slice v u) (EP X pins σ Q) X.xe s
noncomputable def MtR(X:Cx)(id:String)(r:V->List V->Hp->VK->Prop):Prop :=
 ∀(pins:List (Addr×Obj)) (s:Shared) (σ:St) (H:Hp) (x:V) (xs:List V) (v:Value) (us:List Value) (Q:VK),Inv X pins σ H s->aq x v->aw xs us->r x xs H Q ->
  wpAny (model X.prog X.w) X.A (call (.builtin id) (v::us)) (EP X pins σ Q) X.xe s
section
variable{X:Cx}{a b:Expr}{ta tb:TE}{pos:Pos}
theorem IxR.or{r r':R2}(h:IxR X r)(h':IxR X r'):IxR X (λx y H Q=>r x y H Q\/r' x y H Q):=by
 intro value slice pins s σ H x y v u Q I rx ry q hs
 rcases q with q|q
 ·exact h value slice pins s σ H x y v u Q I rx ry q hs
 ·exact h' value slice pins s σ H x y v u Q I rx ry q hs
theorem qa{r:R2}(hr:IxR X r)(ha:PE X a ta)(hb:PE X b tb)(hs:p_ b):PE X (.Subscript a b pos) (tOp r ta tb):=by
 intro pins s σ H Q I h
 exact Subscript_ (yq ha hb I h λv u s2 x y H2 I2 rx ry q=>hr a b pins s2 σ H2 x y v u Q I2 rx ry q (hs _ _))
noncomputable def A9(K:PySem.W.Frag):R2:=λx y H Q=>∃p xs i v,x=.ref p/\y=.int i/\SqL K H p xs/\atI xs i=some v/\Q v H
noncomputable def A_(K:PySem.W.Frag):R2:=λx y H Q=>∃p xs i v,x=.ref p/\y=.int i/\SqT K H p xs/\atI xs i=some v/\Q v H
noncomputable def Ba:R2:=λx y H Q=>∃z i c,x=.str z/\y=.int i/\z.length<=sizeLine/\atI z.cps.toList i=some c/\Q (.str ⟨#[c]⟩) H
theorem jC:IxR X (A9 X.K):=by
 intro value slice pins s σ H x y v u Q I rx ry h hs
 obtain⟨p,xs,i,z,rfl,rfl,hq,he,q⟩:=h
 cases rx
 obtain⟨t,rfl⟩:=ry
 obtain⟨its,r,pl,hz⟩:=I.list hq
 obtain⟨j,h1,h2,h3,h4,h5⟩:=mR he
 obtain⟨w,ew,rw'⟩:=r.get h2
 have hl:=r.length
 have hn:=iR
 have fin:EP X pins σ Q w s:=⟨z,H,I,rw',q⟩
 by_cases h0:0<=i
 ·have hj:i.toNat=j:=by
   rw [seqIndex_of h0 h5]at h1
   exact Option.some.inj h1
  exact item_listR pl.isList h0 (by omega) (by rw [hj];simpa using ew) fin hs
 ·have hj:(i+(its.toArray.size:Int)).toNat=j:=by
   rw [seqIndex_neg (by omega) h4]at h1
   rw [List.size_toArray,<- hl]
   exact Option.some.inj h1
  exact subscriptTail_builtinR (x:=w) pl.isList.typeIs slot_list_getitem.lookup
   (wpAny_getItem_list_neg (Q:=λr s'=>r=w/\EP X pins σ Q r s') pl.isList (by omega) (by rw [List.size_toArray]<;>omega) (by omega) (by rw [hj];simpa using ew) ⟨rfl,fin⟩) hs
theorem yE:IxR X (A_ X.K):=by
 intro value slice pins s σ H x y v u Q I rx ry h hs
 obtain⟨p,xs,i,z,rfl,rfl,hq,he,q⟩:=h
 cases rx
 obtain⟨t,rfl⟩:=ry
 obtain⟨its,r,pl,hz⟩:=I.tuple hq
 obtain⟨j,h1,h2,h3,h4,h5⟩:=mR he
 obtain⟨w,ew,rw'⟩:=r.get h2
 have hl:=r.length
 have hn:=iR
 have fin:EP X pins σ Q w s:=⟨z,H,I,rw',q⟩
 exact subscriptTail_builtinR (x:=w) pl.typeIs slot_tuple_getitem.lookup
  (getItem_tuple (j:=j) (Q:=λr s'=>r=w/\EP X pins σ Q r s') pl (by omega) (by omega) (by rw [List.size_toArray,<- hl];exact h1) (by simpa using ew) ⟨rfl,fin⟩) hs
theorem yF:IxR X Ba:=by
 intro value slice pins s σ H x y v u Q I rx ry h hs
 obtain⟨z,i,c,rfl,rfl,hz,he,q⟩:=h
 obtain⟨t,rfl⟩:=rx
 obtain⟨t',rfl⟩:=ry
 obtain⟨j,h1,h2,h3,h4,h5⟩:=mR he
 have hl:z.cps.toList.length=z.length:=by simp [Str.length]
 rw [hl]at h1 h4 h5
 have hn:=iR
 exact tail_any (typeIs_str s z t) slot_str_getitem.lookup (getItem_str (c:=c) (by
  have e1:decide (i < -(2 ^ 63:Int))=false:=decide_eq_false (by omega)
  have e2:decide (i>=2 ^ 63)=false:=decide_eq_false (by omega)
  rw [e1,e2,Bool.or_false]) (by rw [h1];simpa using h2) ⟨.str ⟨#[c]⟩,H,I.tok _,⟨_,rfl⟩,q⟩) hs
noncomputable def rIx(K:PySem.W.Frag):R2:=λx y H Q=>A9 K x y H Q\/A_ K x y H Q\/Ba x y H Q
theorem sS:IxR X (rIx X.K):=jC.or (yE.or yF)
theorem pk (its:List Value) (n j:Nat) (u:Value):Obj.mapSeq (·.setIfInBounds j u) { cls:=.type "list",data:=.seq its.toArray n }={ cls:=.type "list",data:=.seq (its.set j u).toArray n }:=by
 simp [Obj.mapSeq]
theorem Inv.lst{pins:List (Addr×Obj)}{σ:St}{H:Hp}{s:Shared}{p:Addr}{xs:List V}(I:Inv X pins σ H s)(h:H p=some (.lst xs)) :
  ∃(its:List Value) (n:Nat),aw xs its/\s.heap.get? p=some { cls:=.type "list",data:=.seq its.toArray n }/\xs.length<=sizeLine:=by
 obtain⟨z,its,n,r,e⟩:=I.hok p _ h
 exact⟨its,n,r,e,z⟩
theorem Inv.lstUpd{pins:List (Addr×Obj)}{σ:St}{H:Hp}{s:Shared}{p:Addr}{xs ys:List V}{its its':List Value}{n n':Nat}{f:Obj->Obj}(I:Inv X pins σ H s)(h:H p=some (.lst xs))
  (ho:s.heap.get? p=some { cls:=.type "list",data:=.seq its.toArray n }) (hf:f { cls:=.type "list",data:=.seq its.toArray n }={ cls:=.type "list",data:=.seq its'.toArray n' }) (r:aw ys its') (hz:ys.length<=sizeLine) (t:Nat) :
  Inv X pins σ (upd H p (.lst ys)) { s with heap:=s.heap.update p f,toks:=t }:=by
 have e:(s.heap.update p f).get? p=some { cls:=.type "list",data:=.seq its'.toArray n' }:=by
  rw [Heap.get?_update_self f ho (by rw [hf]<;>rfl),hf]
 refine I.write (x:=p) (e:=p) (by rw [h];trivial) (.inl rfl) (λb u hb q=>(Heap.get?_update_other _ _ (Ne.symm hb)).trans q) ⟨_,e⟩ ?_
 exact⟨hz,its',n',r,e⟩
noncomputable def Bb:V->V->V->Hp->(Hp->Prop)->Prop:=λo i v H Q=>∃p xs k j,o=.ref p/\i=.int k/\H p=some (.lst xs)/\ixN xs.length k=some j/\Q (upd H p (.lst (xs.set j v)))
theorem set_list:AQ X Bb:=by
 intro pins s σ H o i v ov iv u Q I ro ri rv h
 obtain⟨p,xs,k,j,rfl,rfl,hp,hj,q⟩:=h
 cases ro
 obtain⟨t,rfl⟩:=ri
 obtain⟨its,n,r,ho,hz⟩:=I.lst hp
 obtain⟨h1,h2,h3,h4⟩:=p9 hj
 have hl:=r.length
 have hn:=iR
 have I':Inv X pins σ (upd H p (.lst (xs.set j v))) { s with heap:=s.heap.update p (Obj.mapSeq (·.setIfInBounds j u)) } :=
  I.lstUpd hp ho (pk its n j u) (r.set rv j) (by rw [List.length_set];exact hz) s.toks
 by_cases h0:0<=k
 ·have hk:k.toNat=j:=by
   rw [seqIndex_of h0 h4]at h1
   exact Option.some.inj h1
  exact PySem.W.ki_setAt ho h0 (by omega) (by rw [List.size_toArray,<- hl];exact h4) (by rw [hk];exact⟨_,I',q⟩)
 ·have hk:(k+(its.toArray.size:Int)).toNat=j:=by
   rw [seqIndex_neg (by omega) h3]at h1
   rw [List.size_toArray,<- hl]
   exact Option.some.inj h1
  exact PySem.W.ki_setBack ho (by omega) (by rw [List.size_toArray,<- hl];exact h3) (by omega) (by rw [hk];exact⟨_,I',q⟩)
theorem mS(lo hi:Option Int)(n:Nat):(sliceBounds lo hi none n).1=((HT.sIx n 0 lo:Nat):Int)/\(sliceBounds lo hi none n).2.1=((HT.sIx n n hi:Nat):Int)/\(sliceBounds lo hi none n).2.2=1:=by
 refine⟨?_,?_,rfl⟩
 ·cases lo with
  |none=>simp [sliceBounds,HT.sIx]
  |some i =>
   simp only [sliceBounds,HT.sIx,Option.getD_none,show(1:Int) > 0 by decide,if_true]
   by_cases h:i<0
   ·simp only [h,if_true]<;>omega
   ·simp only [h,if_false]<;>omega
 ·cases hi with
  |none=>simp [sliceBounds,HT.sIx]
  |some i =>
   simp only [sliceBounds,HT.sIx,Option.getD_none,show(1:Int) > 0 by decide,if_true]
   by_cases h:i<0
   ·simp only [h,if_true]<;>omega
   ·simp only [h,if_false]<;>omega
theorem lr(its:List Value)(lo hi:Option Int):slicePick its.toArray lo hi none=((its.drop (HT.sIx its.length 0 lo)).take (HT.sIx its.length its.length hi-HT.sIx its.length 0 lo)).toArray:=by
 obtain⟨h1,h2,h3⟩:=mS lo hi its.toArray.size
 unfold slicePick
 rw [h1,h2,h3]
 simp only [sliceRange_one,pick_run,List.size_toArray]<;>rfl
noncomputable def CM(K:PySem.W.Frag):V->Option Int->Option Int->Hp->VK->Prop:=λx lo hi H Q=>∃a xs,x=.ref a/\SqL K H a xs/\∀p,H p=none->Q (.ref p) (upd H p (.lst (nS xs lo hi)))
theorem wm:SlR X (CM X.K):=by
 intro pins s σ H x v vl vu lo hi sl Q I rx hs pl pu h
 obtain⟨a,xs,rfl,hx,q⟩:=h
 cases rx
 obtain⟨its,r,ht,hz⟩:=I.list hx
 have hlen:=r.length
 refine⟨"list",_,slot_list_getitem.lookup,ht.isList.typeIs,?_⟩
 refine wpAny_getItem_list_slice ht.isList hs pl pu .none (by simp) ?_ (by rw [List.size_toArray]<;>omega)
 rw [lr,<- hlen]
 refine⟨.ref s.heap.objs.size,_,I.laid (t':=s.toks) (o:=.lst (nS xs lo hi)) (λb ob q=>Heap.get?_push_of_some _ q) (Nat.le_refl _) ?_,rfl,q _ (I.hok.fresh (Nat.le_refl _))⟩
 exact⟨Nat.le_trans (jg xs lo hi) hz,_,0,(r.drop (HT.sIx xs.length 0 lo)).take (HT.sIx xs.length xs.length hi-HT.sIx xs.length 0 lo),Heap.get?_push_size _ rfl⟩
noncomputable def gK:V->Bool
 | .non=>true
 | .bl _=>true
 | .int _=>true
 | .str _=>true
 | _=>false
noncomputable def eqV:V->V->Bool
 | .non,.non=>true
 | .bl a,.bl b=>a == b
 | .bl a,.int b=>(if a then 1 else 0) == b
 | .int a,.bl b=>a == (if b then 1 else 0)
 | .int a,.int b=>a == b
 | .str a,.str b=>a == b
 | _,_=>false
theorem sT{A:Around}{s:Shared}{y x:V}{u v:Value}(ry:aq y u)(rx:aq x v)(fy:gK y=true)(fx:gK x=true):SeqAt.EqAt A s u v (eqV y x):=by
 cases y with
 |non =>
  cases ry
  cases x with
  |non=>cases rx;exact SeqAt.EqAt.same _
  |bl b=>cases rx;exact SeqAt.EqAt.none_bool b
  |int b=>obtain⟨t,rfl⟩:=rx;exact SeqAt.EqAt.none_int b t
  |str b=>obtain⟨t,rfl⟩:=rx;exact SeqAt.EqAt.none_str b t
  | _=>exact absurd (show false=true from fx) Bool.false_ne_true
 |bl a =>
  cases ry
  cases x with
  |non=>cases rx;exact SeqAt.EqAt.bool_none a
  |bl b=>cases rx;exact SeqAt.EqAt.bool_bool a b
  |int b=>obtain⟨t,rfl⟩:=rx;exact SeqAt.EqAt.bool_int a b t
  |str b=>obtain⟨t,rfl⟩:=rx;exact SeqAt.EqAt.bool_str a b t
  | _=>exact absurd (show false=true from fx) Bool.false_ne_true
 |int a =>
  obtain⟨t',rfl⟩:=ry
  cases x with
  |non=>cases rx;exact SeqAt.EqAt.int_none a t'
  |bl b=>cases rx;exact SeqAt.EqAt.int_bool a t' b
  |int b=>obtain⟨t,rfl⟩:=rx;exact SeqAt.EqAt.int_int a t' b t
  |str b=>obtain⟨t,rfl⟩:=rx;exact SeqAt.EqAt.int_str a t' b t
  | _=>exact absurd (show false=true from fx) Bool.false_ne_true
 |str a =>
  obtain⟨t',rfl⟩:=ry
  cases x with
  |non=>cases rx;exact SeqAt.EqAt.str_none a t'
  |bl b=>cases rx;exact SeqAt.EqAt.str_bool a t' b
  |int b=>obtain⟨t,rfl⟩:=rx;exact SeqAt.EqAt.str_int a t' b t
  |str b=>obtain⟨t,rfl⟩:=rx;exact SeqAt.EqAt.str_str a t' b t
  | _=>exact absurd (show false=true from fx) Bool.false_ne_true
 | _=>exact absurd (show false=true from fy) Bool.false_ne_true
theorem dJ:bR X (.builtin "len") (λxs H Q=>∃p ys,xs=[.ref p]/\(SqL X.K H p ys\/SqT X.K H p ys)/\Q (.int ys.length) H):=by
 intro pins s σ H xs us Q I r h
 obtain⟨p,ys,rfl,hq,q⟩:=h
 obtain⟨u,rfl,rx⟩:=eD r
 cases rx
 have hn:=iR
 rcases hq with hq|hq
 ·obtain⟨its,r',pl,hz⟩:=I.list hq
  have hlen:=r'.length
  exact Calls.call_len_list pl.isList (by simp only [List.size_toArray]<;>omega) ⟨.int ys.length,H,I.tok _,⟨s.toks+1,by rw [List.size_toArray,hlen]⟩,q⟩
 ·obtain⟨its,r',pl,hz⟩:=I.tuple hq
  have hlen:=r'.length
  exact len_tuple pl (by simp only [List.size_toArray]<;>omega) ⟨.int ys.length,H,I.tok _,⟨s.toks+1,by rw [List.size_toArray,hlen]⟩,q⟩
theorem mT:bR X (.type "list") (λxs H Q=>∃p ys,xs=[.ref p]/\(SqL X.K H p ys\/SqT X.K H p ys)/\∀l,H l=none->Q (.ref l) (upd H l (.lst ys))):=by
 intro pins s σ H xs us Q I r h
 obtain⟨p,ys,rfl,hq,q⟩:=h
 obtain⟨u,rfl,rx⟩:=eD r
 cases rx
 have fin:∀(its:List Value),aw ys its->ys.length<=sizeLine->∀(h':Heap) (c':Nat),(∀b o',s.heap.get? b=some o'->h'.get? b=some o') ->
   h'.get? s.heap.objs.size=some { cls:=.type "list",dict:=none,data:=.seq its.toArray c',slots:=#[] }->EP X pins σ Q (.ref s.heap.objs.size) { s with heap:=h' }:=λits r' hz h' c' kp e =>
  ⟨.ref s.heap.objs.size,_,I.laid (t':=s.toks) kp (Nat.le_refl _) (show bq X.prog X.w _ h' _ (.lst ys) from⟨hz,its,c',r',e⟩),rfl,q _ (I.hok.fresh (Nat.le_refl _))⟩
 rcases hq with hq|hq
 ·obtain⟨its,r',pl,hz⟩:=I.list hq
  have hlen:=r'.length
  obtain⟨o,ho,hc,n,hd⟩:=pl.isList
  exact call_list_seq p (.inl rfl) ho hc hd (λh' c' kp e=>fin its r' hz h' c' kp e) (by simp only [List.size_toArray]<;>omega)
 ·obtain⟨its,r',pl,hz⟩:=I.tuple hq
  have hlen:=r'.length
  obtain⟨o,ho,hc,n,hd⟩:=pl
  exact call_list_seq p (.inr rfl) ho hc hd (λh' c' kp e=>fin its r' hz h' c' kp e) (by simp only [List.size_toArray]<;>omega)
theorem gL:bR X (.type "tuple") (λxs H Q=>∃p ys,xs=[.ref p]/\((SqL X.K H p ys/\∀l,H l=none->Q (.ref l) (upd H l (.tup ys)))\/(SqT X.K H p ys/\Q (.ref p) H))):=by
 intro pins s σ H xs us Q I r h
 obtain⟨p,ys,rfl,h⟩:=h
 obtain⟨u,rfl,rx⟩:=eD r
 cases rx
 rcases h with ⟨hq,q⟩|⟨hq,q⟩
 ·obtain⟨its,r',pl,hz⟩:=I.list hq
  have hlen:=r'.length
  refine call_tuple_list pl.isList (λh' kp=>?_) (by simp only [List.size_toArray]<;>omega)
  have I1:Inv X pins σ H { s with heap:=h' }:=I.kept (t':=s.toks) kp
  have I2:Inv X pins σ (upd H h'.objs.size (.tup ys)) { s with heap:=h'.push { cls:=.type "tuple",data:=.seq its.toArray } } :=
   I1.laid (t':=s.toks) (λb o e=>Heap.get?_push_of_some _ e) (Nat.le_refl _) (show bq X.prog X.w _ _ _ (.tup ys) from⟨hz,its,r',IsTup.new _ _⟩)
  exact⟨.ref h'.objs.size,_,I2,rfl,q _ (I1.hok.fresh (Nat.le_refl _))⟩
 ·obtain⟨its,r',pl,hz⟩:=I.tuple hq
  exact call_tuple_same pl ⟨.ref p,H,I,rfl,q⟩
noncomputable def tyV(K:PySem.W.Frag)(T:String)(x:V)(H:Hp):Prop:=match x with
 | .str _=>T="str"
 | .int _=>T="int"
 | .ref p=>(T="list"/\∃ xs,SqL K H p xs) \/ (T="tuple"/\∃ o,K.lookup p=some o/\o.cls=.type "tuple"/\o.dict=none) \/
   (T="dict"/\((∃kvs,H p=some (.dK kvs))\/∃kvs,H p=some (.dT kvs)))\/(T="set"/\∃S n,H p=some (.set S n))
 | _=>False
theorem yG{pins:List (Addr×Obj)}{σ:St}{H:Hp}{s:Shared}{T:String}{x:V}{v:Value}(I:Inv X pins σ H s)(r:aq x v)(ty:tyV X.K T x H) :
  s.TypeIs v T/\∀a,v=.ref a->∃ob,s.heap.get? a=some ob/\ob.dict=none:=by
 cases x with
 |str z =>
  obtain⟨t,rfl⟩:=r
  cases (show T="str" from ty)
  exact⟨typeIs_str s z t,λ_ e=>nomatch e⟩
 |int i =>
  obtain⟨t,rfl⟩:=r
  cases (show T="int" from ty)
  exact⟨typeIs_int s i t,λ_ e=>nomatch e⟩
 | ref p =>
  cases r
  rcases ty with ⟨rfl,xs,hq⟩|⟨rfl,o,hk,hc,hd⟩|⟨rfl,hk⟩|⟨rfl,S,n,hk⟩
  ·obtain⟨its,_,pl,_⟩:=I.list hq
   refine⟨pl.isList.typeIs,λa e=>?_⟩
   cases e
   obtain⟨o,n,e,c,hd,_⟩:=pl
   exact⟨o,e,hd⟩
  ·refine⟨⟨o,I.kIn p o hk,hc⟩,λa e=>?_⟩
   cases e
   exact⟨o,I.kIn _ o hk,hd⟩
  ·have z:∃o,s.heap.get? p=some o/\o.ExactDict:=by
    rcases hk with ⟨kvs,hk⟩|⟨kvs,hk⟩
    ·obtain⟨_,_,_,_,o,_,_,e,ex,_⟩:=I.hok p _ hk
     exact⟨o,e,ex⟩
    ·obtain⟨_,_,_,_,o,_,_,e,ex,_⟩:=I.hok p _ hk
     exact⟨o,e,ex⟩
   obtain⟨o,e,ex⟩:=z
   refine⟨⟨o,e,ex.1⟩,λa e2=>?_⟩
   cases e2
   exact⟨o,e,ex.2.1⟩
  ·obtain⟨o,_,_,_,e,ex,_⟩:=I.hok p _ hk
   refine⟨⟨o,e,ex.1⟩,λa e2=>?_⟩
   cases e2
   exact⟨o,e,ex.2.1⟩
 | _=>exact False.elim ty
noncomputable def tBM(K:PySem.W.Frag)(T:String)(r:V->List V->Hp->VK->Prop)(to:TE)(t:TA):TE:=λσ H Q=>to σ H λx H1=>tyV K T x H1/\t σ H1 λxs H2=>r x xs H2 Q
variable{o e:Expr}{es:List Expr}{to:TE}{t:TA}{name:Str}{apos cpos:Pos}{T id:String}{r:V->List V->Hp->VK->Prop}
theorem lN (pa:PlainAttrs T) (slot:Slot T name id) (hty:typeOf (.builtin id)=pure (.type "method_descriptor")) (hm:MtR X id r) (ho:PE X o to) (ha:PA X (e::es) t)
  (hbase:attributeBase o name X.env (eval o X.env)=eval o X.env:=by rfl)
  (hfew:((backTo cpos (starEach (e::es) X.env)).all (λx=>!x.1)&&(backToKw cpos (keywordEach [] X.env)).all (λx=>x.1.isSome)
  &&decide ((e::es).length+([]:List Keyword).length+(if ([]:List Keyword).isEmpty then 0 else 1)<30))=true:=by rfl)
  (hline:(apos.endLine == cpos.line)=true:=by rfl) (hs:starEach (e::es) X.env=(false,eval e X.env)::starEach es X.env:=by rfl) (hplain:(backTo cpos (starEach es X.env)).any (·.1)=false:=by rfl) :
  PE X (.Call (.Attribute o name apos) (e::es) [] cpos) (tBM X.K T r to t):=by
 intro pins s σ H Q I h
 refine wpAny_Call_method_late hbase hfew hline rfl (thn (ho pins s σ H _ I h) λv s1 ⟨x,H1,I1,r1,ty,q1⟩=>?_)
 obtain⟨h1,h2⟩:=yG I1 r1 ty
 refine⟨T,id,pa,slot,hty,h1,h2,?_⟩
 have hA:=ha cpos pins s1 σ H1 _ I1 q1
 rw [hs]at hA ⊢
 refine Calls.callWith_builtin (by show(false || (backTo cpos (starEach es X.env)).any (·.1))=false;rw [hplain]<;>rfl) (Calls.evalArgs_plain ?_)
 exact thn hA λus s2 ⟨vs,H2,I2,r2,q2⟩=>hm pins s2 σ H2 x vs v us Q I2 r1 r2 q2
end
end L2
namespace L2
open PySem PySem.Spec PyProof.Rows
noncomputable def MtM(X:Cx)(id:String)(r:V->List V->Hp->VK->Prop):Prop :=
 ∀(pins:List (Addr×Obj)) (s:Shared) (σ:St) (H:Hp) (x:V) (xs:List V) (v:Value) (us:List Value) (Q:VK),Inv X pins σ H s->aq x v->aw xs us->r x xs H Q ->
  wpAny (model X.prog X.w) X.A (call (.builtin id) (v::us)) (EP X pins σ Q) X.xe s
theorem aw.one:∀{x:V}{us:List Value},aw [x] us->∃u,us=[u]/\aq x u
 | _,_,.cons r .nil=>⟨_,rfl,r⟩
theorem aw.zero:∀{us:List Value},aw [] us->us=[]
 | _,.nil=>rfl
theorem aw.reverse{xs:List V}{us:List Value}(h:aw xs us):aw xs.reverse us.reverse:=by
 induction h with
 |nil=>exact .nil
 |cons r t ih=>rw [List.reverse_cons,List.reverse_cons];exact aw.append ih (.cons r .nil)
section
variable{X:Cx}{pins:List (Addr×Obj)}{σ:St}{H:Hp}{s:Shared}{l b:Addr}{xs ys zs:List V}
theorem Inv.lset{its its':List Value}{n:Nat}{f:Array Value->Array Value}{t':Nat}(I:Inv X pins σ H s)(hH:H l=some (.lst xs))
  (e:s.heap.get? l=some { cls:=.type "list",data:=.seq its.toArray n }) (hf:f its.toArray=its'.toArray) (hv:aw ys its') (hz:ys.length<=sizeLine) :
  Inv X pins σ (upd H l (.lst ys)) { s with heap:=s.heap.update l (Obj.mapSeq f),toks:=t' }:=by
 have q:=PySem.IsL.update e f
 rw [hf]at q
 refine I.write (x:=l) (e:=l) (by rw [hH];exact trivial) (.inl rfl) (λb' u hb hu=>(Heap.get?_update_other s.heap (Obj.mapSeq f) (Ne.symm hb)).trans hu) ⟨_,q⟩ ?_
 exact⟨hz,its',_,hv,q⟩
theorem Inv.lnew{its:List Value}{t':Nat}(I:Inv X pins σ H s)(hv:aw ys its)(hz:ys.length<=sizeLine) :
  Inv X pins σ (upd H s.heap.objs.size (.lst ys)) { s with heap:=s.heap.push { cls:=.type "list",data:=.seq its.toArray },toks:=t' } :=
 I.laid (λ_ _ q=>Heap.get?_push_of_some _ q) (Nat.le_refl _) ⟨hz,its,0,hv,Heap.get?_push_size _ rfl⟩
theorem Inv.fresh(I:Inv X pins σ H s):H s.heap.objs.size=none:=I.hok.fresh (Nat.le_refl _)
theorem Inv.lstM (I:Inv X pins σ H s) (hH:H l=some (.lst xs)):xs.length<=sizeLine/\∃(its:List Value) (n:Nat),aw xs its/\xs.length=its.length/\s.heap.get? l=some { cls:=.type "list",data:=.seq its.toArray n }:=by
 obtain⟨z,its,n,r,e⟩:=I.hok l _ hH
 exact⟨z,its,n,r,r.length,e⟩
theorem nT{n:Nat}(h:n<=sizeLine):Builtin.List.listTooLong n=false:=by
 unfold Builtin.List.listTooLong
 exact decide_eq_false (by omega)
end
section
variable{X:Cx}
noncomputable def wn:V->List V->Hp->VK->Prop:=λx vs H Q=>∃l xs y,x=.ref l/\vs=[y]/\H l=some (.lst xs)/\xs.length<sizeLine/\Q .non (upd H l (.lst (xs ++ [y])))
theorem gx:MtM X "list.append" wn:=by
 intro pins s σ H x vs v us Q I rx rv h
 obtain⟨l,xs,y,rfl,rfl,hH,hz,q⟩:=h
 cases rx
 obtain⟨u,rfl,ru⟩:=rv.one
 obtain⟨z,its,n,r,hl,e⟩:=I.lstM hH
 refine call_meets F.slot_list_append ⟨_,e,rfl⟩ F.entry_list_append (F.args_list_append_2 _ _) (PySem.list_append l its.toArray n u (by rw [List.size_toArray];omega)) ⟨e,?_⟩
 refine⟨.non,_,I.lset (its':=its ++ [u]) hH e (by simp) (r.append (.cons ru .nil)) ?_,rfl,q⟩
 rw [List.length_append,List.length_singleton]
 omega
noncomputable def rPopAt:V->List V->Hp->VK->Prop:=λx vs H Q=>∃l xs i k y,x=.ref l/\vs=[.int i]/\H l=some (.lst xs)/\-(2 ^ 63)<=i/\i<2 ^ 63/\seqIndex? i xs.length=some k/\xs[k]?=some y/\Q y (upd H l (.lst (xs.eraseIdx k)))
end
section
variable{prog:Program}{w:World}{A:Around}{E:Value->Shared->Prop}{s:Shared}
end
section
variable{X:Cx}
end
end L2
namespace Att
open PySem PySem.W PySem.Calls PyProof.Rows
theorem jz{P:Params}{h:Heap}:∀(ns:List Int) (vs:List Value),WellAll P h vs (ns.map WData.int)->IntsAre vs ns:=by
 intro ns
 induction ns with
 |nil =>
  intro vs w
  rw [List.map_nil]at w
  cases w
  exact .nil
 | cons n ns ih =>
  intro vs w
  rw [List.map_cons]at w
  cases w with
  |cons a b =>
   cases a
   exact .cons _ _ (ih _ b)
theorem rj{l:OpenLaw}{n:Nat}(hn:l.most=some n){P:Params}{h:Heap}{args:List WData}{vals:List Value}
  (hpre:l.row.toRowW.claim.pre args=true) (hwl:WellAll P h vals args) :
  ∃a vs ns,vals=[Value.ref a]/\args=[WData.list (ns.map WData.int)]/\h.get? a=some { cls:=.type "list",data:=.seq vs.toArray }/\IntsAre vs ns/\ns.length<=n:=by
 have hsh:WShape.hasAll [] args [.list .int]=true:=(pre_splitW hpre).1
 have hc:l.pre.holds [] { args:=args }=true:=(pre_splitW hpre).2
 obtain⟨d,r,rfl,h1,h2⟩:=hasAllW_cons hsh
 obtain rfl:=hasAllW_nil h2
 obtain⟨xs,rfl,h3⟩:=hasW_list h1
 obtain⟨ns,rfl⟩:=items_int h3
 have hlen:ns.length<=n:=by
  unfold OpenLaw.pre at hc
  have h4:(WTm.not (.lt (.lit (.int (n:Int))) (.len (.arg 0)))).holds [] { args:=[.list (ns.map .int)] }=true:=by
   have h4:=(holds_andW hc).1
   rw [hn]at h4
   exact h4
  have h5:=condW_of h4 (w_not (w_lt w_lit (w_len_list (w_arg rfl))))
  rw [List.length_map]at h5
  refine Nat.le_of_not_lt λq=>?_
  have q':(n:Int)<((ns.length:Nat):Int):=by omega
  first
   | (rw [decide_eq_true q']at h5;exact absurd h5 (by decide))
   | (simp at h5;omega)
 cases hwl with
 |cons w1 w2 =>
  cases w2
  cases w1 with
  |list ho hall=>exact⟨_,_,ns,rfl,rfl,ho,jz ns _ hall,hlen⟩
theorem rk(l:OpenLaw)(args:List WData):l.row.toRowW.claim.post args (.bool true) args=true :=
 postW_of (r:=l.row.toRowW) (X:=(true == true))
  (show WShape.has [] (.bool true) .bool=true by first|rfl|decide|simp [WShape.has,WShape.arms,WShape.armsAll])
  (show(WTm.eq .res (.lit (.bool true))).value [] { args:=args,res:=some (.bool true),after:=args }=some (.bool (true == true)) from w_eq_bool (w_res rfl) w_lit) rfl
theorem attach_call{l:OpenLaw}{n:Nat}{q:Program}{loose:List Str}{XP:(Str->Option Value)->Heap->Prop}{YP:World->Heap->Prop}{d:DefRec}
  (hn:l.most=some n) (hdf:d.params.defaults=[])
  (call:∀(w:World) (s₀ s₁:Shared) (mg mb:Str->Option Value) (fa:Addr) (o:Obj) (pm cd doc:Value) (a:Addr) (vs:List Value) (ns:List Int),
   Ground q loose [] XP w s₀ mg mb s₁.heap->YP w s₁.heap ->
   s₁.heap.get? fa=some o->o.data=.func (docDef d.name d.params d.body d.scope pm cd doc)->s₁.heap.CodeRec cd d.name->mg d.name=some (.ref fa) ->
   s₁.heap.get? a=some { cls:=.type "list",data:=.seq vs.toArray }->IntsAre vs ns->ns.length<=n->s₁.gens=#[] ->
   codeAny (model l.prog w) callerA (.call (.ref fa) ⟨[.ref a],[]⟩) (λr s'=>r=.ok (.ret (.bool true))/\OldK s₁.heap s'.heap/\s'.os=s₁.os/\AllBare s'.gens) s₁) :
  WalkO q loose XP YP l.row.toRowW d [] (λf vs=>PySem.call f vs):=by
 intro w s₀ s₁ mg mb G Y fa o pm cd doc dV kV ho hd hcd hD hmg hg args vals as hpre hlay hrd hwl hlo
 obtain rfl:dV=.none:=Dflts.none hD hdf
 obtain rfl:kV=.none:=Dflts.noKw hD
 obtain⟨a,vs,ns,rfl,rfl,hobj,hints,hlen⟩:=rj hn hpre hwl
 refine enter_call (codeAny_mono (call w s₀ s₁ mg mb fa o pm cd doc a vs ns G Y ho (fd_plain hd) hcd hmg hobj hints hlen hg) λr s' hq=>?_)
 obtain⟨rfl,h2,h3,h4⟩:=hq
 exact⟨.inl ⟨.bool true,.bool true,[],rfl,λ_=>rfl,.bool true,rk l _,λ_=>⟨List.Pairwise.nil,λ_ hm=>(nomatch hm)⟩⟩,h2,h3,h4⟩
section
variable{prog:Program}{w:World}{A:Around}{E:Value->Shared->Prop}{s:Shared}{K:Frag}
end
end Att
namespace L2
open PySem PySem.Spec PyProof.Rows
theorem iU:∀{vs:List Value}{ns:List Int},IntsAre vs ns->aw (ns.map V.int) vs
 | _,_,.nil=>.nil
 | _,_,.cons n t h=>.cons ⟨t,rfl⟩ (iU h)
noncomputable def yH(H:Hp):Prop:=∀b,H b=none\/∃o xs,H b=some (.frz o (.lst xs))
theorem sU{P:Program}{w:World}{K:PySem.W.Frag}{mg mb:Str->Option Value}{CX:CXT}{k:Nat}{fa a:Addr}{fd:FuncData}{x:Str}{sp:Sp}{s₁:Shared}{vs:List Value}{ns:List Int}
  (KX:K.In s₁.heap) (hns:s₁.heap.Ns mainGlobals mg) (hb:s₁.heap.Ns builtinsNs mb) (hbb:∀x:Str,x ≠ "__name__"->mb x=bootBuiltins x) (hlim:s₁.heap.NoLimit) (hg:s₁.gens=#[])
  (ha:s₁.heap.get? a=some { cls:=.type "list",data:=.seq vs.toArray }) (hi:IntsAre vs ns) (hl:ns.length<=sizeLine) (hr:iS k callerA)
  (F:∀base:Heap,K.In base->base.Ns mainGlobals mg->iT P w K mg base CX k fa fd [x] sp) (hbind:∀(s:Shared) (u:Value),BindsTo s fd ⟨[u],[]⟩ [(x,u)])
  (hsp:∀H:Hp,yH H->SqL K H a (ns.map V.int)->sp [.ref a] H (λv _=>v=.bl true) λ_ _ _=>False)
  (hCX:∀H e s',CX [] H s₁ (λ_ _ _=>False) e s'->False) :
  codeAny (model P w) callerA (.call (.ref fa) ⟨[.ref a],[]⟩) (λr s'=>r=.ok (.ret (.bool true))/\OldK s₁.heap s'.heap/\s'.os=s₁.os/\AllBare s'.gens) s₁:=by
 have rv:=iU hi
 have lenV:=hi.length
 have core:∀ H:Hp,yH H->SqL K H a (ns.map V.int)->HOk P w H s₁.heap->(∀ b,H b ≠ none->b=a)->(H a ≠ none->K.lookup a=none) ->
   codeAny (model P w) callerA (.call (.ref fa) ⟨[.ref a],[]⟩) (λr s'=>r=.ok (.ret (.bool true))/\OldK s₁.heap s'.heap/\s'.os=s₁.os/\AllBare s'.gens) s₁:=by
  intro H hO hS hok hA hK
  have base_of:∀{b:Addr}{o:Obj},s₁.heap.get? b=some o->H b=none->(mM s₁.heap H).get? b=some o:=λe n=>sB e n
  have noA:∀{b:Addr}{o:Obj}{es:Array DictEntry}{ep:Nat},s₁.heap.get? b=some o->o.data=.dict es ep->H b=none:=λ{b o es ep} e d=>by
   cases q:H b with
   |none=>rfl
   |some u =>
    have e':b=a:=hA b (by rw [q];simp)
    subst e'
    rw [ha]at e;cases e
    have d':Data.seq vs.toArray _=Data.dict es ep:=d
    cases d'
  have nsK:∀{b:Addr}{m:Str->Option Value},s₁.heap.Ns b m->(mM s₁.heap H).Ns b m:=λ{b m} ⟨o,es,ep,e,d,r⟩=>⟨o,es,ep,base_of e (noA e d),d,r⟩
  have hKb:K.In (mM s₁.heap H):=λb o e=>base_of (KX b o e) (by
   cases q:H b with
   |none=>rfl
   |some u =>
    have e':b=a:=hA b (by rw [q];simp)
    subst e'
    rw [hK (by rw [q];simp)]at e;cases e)
  have hM:Mod K mg (mM s₁.heap H):=⟨hKb,nsK hns,⟨mb,nsK hb,hbb⟩,let ⟨mc,h1,h2⟩:=hlim;⟨mc,nsK h1,h2⟩⟩
  have e0:wf P w K mg (mM s₁.heap H) callerA [] s₁ H:=⟨rfl,hM,λb o e=>vY e,Nat.le_of_eq (qZ _ _),trivial,λb hb=>absurd (show b∈([]:List Addr) from hb) (by simp),hok,.of_eq hg⟩
  refine codeAny_mono ((F _ hKb (nsK hns)).run callerA [] s₁ H ⟨[.ref a],[]⟩ [.ref a] [.ref a] _ _ hr e0 (hbind s₁ (.ref a)) (.cons rfl .nil) (hsp H hO hS)) λr s' h=>?_
  cases r with
  |error e=>exact(hCX H e s' h).elim
  | ok fl =>
   cases fl with
   |next=>exact False.elim h
   |brk=>exact False.elim h
   |cont=>exact False.elim h
   | ret u =>
    obtain⟨v,H',os,bare,un,hok',r',q⟩:=h
    have q':v=.bl true:=q
    subst q'
    obtain rfl:u=Value.bool true:=r'
    refine⟨rfl,OldK.of_keep λb o e=>?_,os,bare⟩
    cases q:H b with
    |none=>exact un.keep b o e q (by intro z;exact absurd (show b∈([]:List Addr) from z) (by simp)) (by simp)
    | some u =>
     rcases hO b with z|⟨ob,xs,z⟩
     ·rw [q]at z;cases z
     ·have z2:=un.frzs b ob _ z
      obtain⟨e1,_⟩:=hok b _ z
      obtain⟨e2,_⟩:=hok' b _ z2
      rw [e]at e1;cases e1
      exact e2
 cases hk:K.lookup a with
 |some o =>
  have e:=KX a o hk
  rw [ha]at e
  cases e
  refine core (λ_=>none) (λ_=>.inl rfl) (.inr ⟨_,vs.toArray,_,hk,rfl,rfl,rfl,by rw [List.size_toArray,lenV];exact hl,by simpa using rv⟩) (λb u z=>by have z':(none:Option HO)=some u:=z;cases z') (λb z=>absurd rfl z) λz=>absurd rfl z
 | none =>
  refine core (λb=>if b=a then some (.frz { cls:=.type "list",data:=.seq vs.toArray } (.lst (ns.map V.int))) else none) (λb=>?_) (.inl (.inr ⟨{ cls:=.type "list",data:=.seq vs.toArray },if_pos rfl⟩)) (λb u z=>?_) (λb z=>?_) λ_=>hk
  ·by_cases hb:b=a
   ·exact .inr ⟨_,_,if_pos hb⟩
   ·exact .inl (if_neg hb)
  ·by_cases hb:b=a
   ·have z':=(if_pos hb).symm.trans z
    cases z'
    subst hb
    exact⟨ha,by rw [List.length_map];exact hl,vs,_,rv,ha⟩
   ·have z':=(if_neg hb).symm.trans z
    cases z'
  ·by_cases hb:b=a
   ·exact hb
   ·exact absurd (if_neg hb) z
end L2
namespace L2
open PySem PySem.Spec PyProof.Rows
theorem wo{l:PySem.W.OpenLaw}{n k:Nat}{q:Program}{loose:List Str}{XP:(Str->Option Value)->Heap->Prop}{YP:World->Heap->Prop}{d:DefRec}{K:Params->PySem.W.Frag}{CX:World->CXT}{sp:World->Sp}{x:Str}
  (hn:l.most=some n) (hn2:n<=sizeLine) (hdf:d.params.defaults=[]) (hr:iS k callerA)
  (hY:∀(w:World) (h:Heap),YP w h->(K w.params).In h)
  (F:∀(w:World) (mg:Str->Option Value) (fa:Addr) (h:Heap),(K w.params).In h->h.Ns mainGlobals mg->mg d.name=some (.ref fa) ->
   ∃fd:FuncData,(∀(s:Shared) (u:Value),BindsTo s fd ⟨[u],[]⟩ [(x,u)]) /\
    ∀base:Heap,(K w.params).In base->base.Ns mainGlobals mg->iT l.prog w (K w.params) mg base (CX w) k fa fd [x] (sp w))
  (hsp:∀(w:World) (H:Hp) (a:Addr) (ns:List Int),ns.length<=n->yH H->SqL (K w.params) H a (ns.map V.int)->sp w [.ref a] H (λv _=>v=.bl true) λ_ _ _=>False)
  (hCX:∀(w:World) (H:Hp) (s:Shared) (e:Value) (s':Shared),CX w [] H s (λ_ _ _=>False) e s'->False) :
  PySem.W.WalkO q loose XP YP l.row.toRowW d [] (λf vs=>PySem.call f vs):=by
 refine Att.attach_call hn hdf λw s₀ s₁ mg mb fa o pm cd doc a vs ns G Y ho hd hcd hmg hobj hints hlen hg=>?_
 have KX:=hY w _ Y
 obtain⟨fd,hb,hF⟩:=F w mg fa _ KX G.T.g hmg
 exact sU KX G.T.g G.T.b G.T.builtins G.T.nolimit hg hobj hints (Nat.le_trans hlen hn2) hr hF hb (λH hO hS=>hsp w H a ns hlen hO hS) λH e s'=>hCX w H s₁ e s'
end L2
namespace L2
open PySem PySem.Spec PyProof.Rows
noncomputable def ie(s:Stmt):Arguments:=match s with
 | .FunctionDef _ a _ _ _ _ _ _ _ _=>a
 | _=>{ posonlyargs:=[],args:=[],vararg:=none,kwonlyargs:=[],kw_defaults:=[],kwarg:=none,defaults:=[] }
noncomputable def dL(s:Stmt):List Stmt:=match s with
 | .FunctionDef _ _ b _ _ _ _ _ _ _=>b
 | _=>[]
noncomputable def aY(s:Stmt):Scope:=match s with
 | .FunctionDef _ _ _ _ _ _ sc _ _ _=>sc
 | _=>{ kind:=.function,names:=[],isGenerator:=false,isCoroutine:=false }
noncomputable abbrev CX0:CXT:=λ_ _ _ _ _ _=>False
noncomputable abbrev E0:XK:=λ_ _ _=>False
theorem qb{X:Cx}:mP CX0 X E0:=λ_ _ _ _ _ _ _ h=>h.elim
section
variable{P:Program}{w:World}{K:PySem.W.Frag}{mg:Str->Option Value}{base:Heap}
end
section
variable{X:Cx}
end
noncomputable def ae(H H':Hp):Prop:=∀b o,H b=some o->H' b=some o
theorem ae.refl(H:Hp):ae H H:=λ_ _ h=>h
theorem ae.trans{H H1 H2:Hp}(a:ae H H1)(b:ae H1 H2):ae H H2:=λc o h=>b c o (a c o h)
theorem ae.free{H H':Hp}(e:ae H H'){l:Addr}(h:H' l=Option.none):H l=Option.none:=by
 cases q:H l with
 |none=>rfl
 |some o =>
  rw [e l o q]at h
  cases h
theorem ae.seq{K:PySem.W.Frag}{H H':Hp}{a:Addr}{xs:List V}(e:ae H H')(h:SqL K H a xs):SqL K H' a xs:=by
 rcases h with (h|⟨o,h⟩)|h
 ·exact .inl (.inl (e _ _ h))
 ·exact .inl (.inr ⟨o,e _ _ h⟩)
 ·exact .inr h
end L2
namespace L2
open PySem PySem.Spec PyProof.Rows
section
variable{κ:Type} [DecidableEq κ]
noncomputable def ig(kvs:List (κ×V))(k:κ):Option V:=(kvs.find? λkv=>decide (kv.1=k)).map (·.2)
noncomputable def gG(kvs:List (κ×V))(k:κ)(v:V):List (κ×V) :=
 if (kvs.any λkv=>decide (kv.1=k))=true then kvs.map (λkv=>if kv.1=k then (kv.1,v) else kv) else kvs ++ [(k,v)]
noncomputable def C6(kvs:List (κ×V))(k:κ):List (κ×V):=kvs.filter λkv=>decide (kv.1≠k)
theorem jX{p:κ×V}{r:List (κ×V)}{k:κ}(e:p.1=k):ig (p::r) k=some p.2:=by simp [ig,List.find?_cons,e]
theorem jY{p:κ×V}{r:List (κ×V)}{k:κ}(e:¬ p.1=k):ig (p::r) k=ig r k:=by simp [ig,List.find?_cons,e]
theorem nU(k:κ):∀kvs:List (κ×V),(kvs.any λkv=>decide (kv.1=k))=(ig kvs k).isSome
 | []=>rfl
 |p::r=>by
  rw [List.any_cons]
  by_cases e:p.1=k
  ·simp only [jX e,decide_eq_true e,Bool.true_or,Option.isSome_some]
  ·rw [jY e,decide_eq_false e,Bool.false_or];exact nU k r
theorem jh(kvs:List (κ×V))(k:κ)(v:V):(gG kvs k v).length<=kvs.length+1:=by
 unfold gG
 split
 ·rw [List.length_map];omega
 ·rw [List.length_append,List.length_cons,List.length_nil];omega
theorem jw.isSome_eq{o:Option V}{u:Option Value}(r:jw o u):o.isSome=u.isSome:=by
 cases o with
 |none=>cases u with
  |none=>rfl
  |some _=>exact(show False from r).elim
 |some _=>cases u with
  |none=>exact(show False from r).elim
  |some _=>rfl
theorem jw.getD{o:Option V}{u:Option Value}{d:V}{d':Value}(r:jw o u)(rd:aq d d'):aq (o.getD d) (u.getD d'):=by
 cases o with
 |none=>cases u with
  |none=>exact rd
  |some _=>exact(show False from r).elim
 |some _=>cases u with
  |none=>exact(show False from r).elim
  |some _=>exact r
theorem KV.val{kvs:List (κ×V)}{vs:List (κ×Value)}(r:KV kvs vs)(k:κ):jw (ig kvs k) (valueAt vs k):=by
 unfold KV at r
 induction r with
 |nil=>exact True.intro
 | @cons p q ps qs h t ih =>
  obtain⟨h1,h2⟩:=h
  by_cases e:p.1=k
  ·have e':q.1=k:=h1.symm.trans e
   have b:valueAt (q::qs) k=some q.2:=by simp [valueAt,List.find?_cons,e']
   rw [jX e,b];exact h2
  ·have e':¬ q.1=k:=λz=>e (h1.trans z)
   have b:valueAt (q::qs) k=valueAt qs k:=by simp [valueAt,List.find?_cons,e']
   rw [jY e,b];exact ih
theorem KV.any{kvs:List (κ×V)}{vs:List (κ×Value)}(r:KV kvs vs)(k:κ):(kvs.any λkv=>decide (kv.1=k))=vs.any λkv=>decide (kv.1=k):=by
 unfold KV at r
 induction r with
 |nil=>rfl
 |cons h t ih=>rw [List.any_cons,List.any_cons,ih,h.1]
theorem KV.repl{kvs:List (κ×V)}{vs:List (κ×Value)}(r:KV kvs vs)(k:κ){y:V}{u:Value}(ry:aq y u) :
  KV (kvs.map λkv=>if kv.1=k then (kv.1,y) else kv) (vs.map λkv=>if kv.1=k then (kv.1,u) else kv):=by
 unfold KV at r ⊢
 induction r with
 |nil=>exact .nil
 | @cons p q ps qs h t ih =>
  rw [List.map_cons,List.map_cons]
  refine .cons ?_ ih
  obtain⟨h1,h2⟩:=h
  by_cases e:p.1=k
  ·rw [if_pos e,if_pos (h1.symm.trans e)];exact⟨h1,ry⟩
  ·rw [if_neg e,if_neg (λz=>e (h1.trans z))];exact⟨h1,h2⟩
theorem KV.put{kvs:List (κ×V)}{vs:List (κ×Value)}(r:KV kvs vs)(k:κ){y:V}{u:Value}(ry:aq y u):KV (gG kvs k y) (stored vs k u):=by
 unfold gG stored
 rw [r.any k]
 by_cases e:(vs.any λkv=>decide (kv.1=k))=true
 ·rw [if_pos e,if_pos e];exact r.repl k ry
 ·rw [if_neg e,if_neg e];exact Paired.snoc r ⟨rfl,ry⟩
theorem KV.length{kvs:List (κ×V)}{vs:List (κ×Value)}(r:KV kvs vs):kvs.length=vs.length:=Paired.length r
end
theorem lO{P:Program}{w:World}{k:Key}{u:Value}(r:aq (kV k) u):(bH P w).is k u=true:=by
 cases k with
 |inl i=>obtain⟨t,e⟩:=(show ∃t,u=Value.int i t from r);subst e;exact nK P w i t
 |inr x=>obtain⟨t,e⟩:=(show ∃t,u=Value.str x t from r);subst e;exact nL P w x t
theorem lP{P:Program}{w:World}:∀{ks:List Key}{us:List Value},aw (ks.map kV) us->ItemsAre (bH P w) ks us
 | [],_,r=>by rw [List.map_nil]at r;cases r;exact .nil
 |k::ks,_,r=>by
  rw [List.map_cons]at r
  cases r with
  |cons h t=>exact .cons (lO h) (lP t)
noncomputable abbrev KT(H:Hp):List (List Key×V)->List (List Key×Addr×Value)->Prop:=Paired λp q=>p.1=q.1/\H q.2.1=some (.tup (p.1.map kV))/\aq p.2 q.2.2
theorem KT.val{H:Hp}{kvs:List (List Key×V)}{xs:List (List Key×Addr×Value)}(r:KT H kvs xs)(k:List Key):jw (ig kvs k) ((atKey xs k).map (·.2)):=by
 induction r with
 |nil=>exact True.intro
 | @cons p q ps qs h t ih =>
  obtain⟨h1,_,h2⟩:=h
  by_cases e:p.1=k
  ·have e':q.1=k:=h1.symm.trans e
   have b:atKey (q::qs) k=some q.2:=by simp [atKey,List.find?_cons,e']
   rw [jX e,b];exact h2
  ·have e':¬ q.1=k:=λz=>e (h1.trans z)
   have b:atKey (q::qs) k=atKey qs k:=by simp [atKey,List.find?_cons,e']
   rw [jY e,b];exact ih
theorem KT.repl{H:Hp}{kvs:List (List Key×V)}{xs:List (List Key×Addr×Value)}(r:KT H kvs xs)(k:List Key){y:V}{u:Value}(ry:aq y u) :
  KT H (kvs.map λkv=>if kv.1=k then (kv.1,y) else kv) (xs.map (putAt k u)):=by
 induction r with
 |nil=>exact .nil
 | @cons p q ps qs h t ih =>
  rw [List.map_cons,List.map_cons]
  refine .cons ?_ ih
  obtain⟨h1,h2,h3⟩:=h
  unfold putAt
  by_cases e:p.1=k
  ·rw [if_pos e,if_pos (h1.symm.trans e)];exact⟨h1,h2,ry⟩
  ·rw [if_neg e,if_neg (λz=>e (h1.trans z))];exact⟨h1,h2,h3⟩
theorem KT.put{H:Hp}{kvs:List (List Key×V)}{xs:List (List Key×Addr×Value)}(r:KT H kvs xs)(k:List Key){b:Addr}{y:V}{u:Value}(hb:H b=some (.tup (k.map kV)))(ry:aq y u) :
  KT H (gG kvs k y) (storedH xs k b u):=by
 have e:(kvs.any λkv=>decide (kv.1=k))=(atKey xs k).isSome:=by
  rw [nU,(r.val k).isSome_eq,Option.isSome_map]
 unfold gG storedH
 rw [e]
 by_cases q:(atKey xs k).isSome=true
 ·rw [if_pos q,if_pos q];exact r.repl k ry
 ·rw [if_neg q,if_neg q];exact Paired.snoc r ⟨rfl,hb,ry⟩
theorem KT.keeps{H H':Hp}{kvs:List (List Key×V)}{xs:List (List Key×Addr×Value)}(r:KT H kvs xs)(ht:∀b ys,H b=some (.tup ys)->H' b=some (.tup ys)):KT H' kvs xs :=
 Paired.mapP r λ_ _ z=>⟨z.1,ht _ _ z.2.1,z.2.2⟩
section
variable{P:Program}{w:World}{H:Hp}{h:Heap}{a:Addr}
theorem xM{u:HO}(ok:HOk P w H h)(e:Rd H a u):bq P w H h a u:=e.ok ok
theorem ii{kvs:List (Key×V)}(ok:HOk P w H h)(e:Rd H a (.dK kvs)):kvs.length<=sizeLine/\(a == sysModules)=false/\∃vs,KV kvs vs/\h.DictOf (bH P w) a vs :=
 show bq P w H h a (.dK kvs) from xM ok e
theorem Bc{kvs:List (Key×V)}(ok:HOk P w H h)(e:H a=some (.dK kvs)):kvs.length<=sizeLine/\(a == sysModules)=false/\∃vs,KV kvs vs/\h.DictOf (bH P w) a vs:=ii ok (.inl e)
theorem iV{ks:List Key}(ok:HOk P w H h)(e:H a=some (.tup (ks.map kV))):(tupleKind (bH P w)).is h ks a:=by
 obtain⟨_,its,r,o,h1,h2,n,h3⟩:=(show bq P w H h a (.tup (ks.map kV)) from ok a _ e)
 exact⟨o,its.toArray,n,h1,h2,h3,by simpa using lP r⟩
theorem ji{kvs:List (List Key×V)}(ok:HOk P w H h)(e:Rd H a (.dT kvs)):kvs.length<=sizeLine/\(a == sysModules)=false /\
  ∃xs,KT H kvs xs/\h.DictOfH (tupleKind (bH P w)) a xs:=by
 obtain⟨z,y,xs,r,o,es,ep,h1,h2,h3,h4,h5⟩:=(show bq P w H h a (.dT kvs) from xM ok e)
 refine⟨z,y,xs,r,o,es,ep,h1,h2,h3,h4,λx hx=>?_,h5⟩
 have all:∀{l:List (List Key×V)}{m:List (List Key×Addr×Value)},KT H l m->∀x∈m,(tupleKind (bH P w)).is h x.1 x.2.1:=by
  intro l m q
  induction q with
  |nil=>intro x hx;exact nomatch hx
  | @cons p q ps qs hq t ih =>
   intro x hx
   rcases List.mem_cons.mp hx with e|hx
   ·subst e
    exact iV ok (by rw [<- hq.1];exact hq.2.1)
   ·exact ih x hx
 exact all r x hx
theorem Bd{kvs:List (List Key×V)}(ok:HOk P w H h)(e:H a=some (.dT kvs)):kvs.length<=sizeLine/\(a == sysModules)=false /\
  ∃xs,KT H kvs xs/\h.DictOfH (tupleKind (bH P w)) a xs:=ji ok (.inl e)
end
noncomputable def jZ(H:Hp)(a:Addr)(y:V)(r:Option V):Prop :=
 (∃kvs k,Rd H a (.dK kvs)/\y=kV k/\r=ig kvs k)\/∃kvs k b,Rd H a (.dT kvs)/\y=.ref b/\H b=some (.tup (k.map kV))/\r=ig kvs k
noncomputable def j1(H:Hp)(a:Addr)(y v:V)(H':Hp):Prop :=
 (∃kvs k,H a=some (.dK kvs)/\y=kV k/\kvs.length<sizeLine/\H'=upd H a (.dK (gG kvs k v))) \/
 ∃kvs k b,H a=some (.dT kvs)/\y=.ref b/\H b=some (.tup (k.map kV))/\kvs.length<sizeLine/\H'=upd H a (.dT (gG kvs k v))
theorem j1.k{H:Hp}{a:Addr}{kvs:List (Key×V)}{k:Key}{v:V}(e:H a=some (.dK kvs))(hl:kvs.length<sizeLine):j1 H a (kV k) v (upd H a (.dK (gG kvs k v))):=.inl ⟨kvs,k,e,rfl,hl,rfl⟩
theorem j1.t{H:Hp}{a b:Addr}{kvs:List (List Key×V)}{k:List Key}{v:V}(e:H a=some (.dT kvs))(eb:H b=some (.tup (k.map kV)))(hl:kvs.length<sizeLine) :
  j1 H a (.ref b) v (upd H a (.dT (gG kvs k v))):=.inr ⟨kvs,k,b,e,rfl,eb,hl,rfl⟩
section
variable{X:Cx}{pins:List (Addr×Obj)}{σ:St}{H:Hp}{s:Shared}{a:Addr}{y v:V}{u r:Value}{o:Option V}{A:Around}{E:Value->Shared->Prop}
theorem Inv.big(I:Inv X pins σ H s):sysModules<s.heap.objs.size:=by
 have h:mainGlobals<s.heap.objs.size:=(I.mod.glob.keeps I.bk).lt
 exact Nat.lt_trans (by decide) h
theorem rl{Q:Value->Shared->Prop}(hu:A.units+1<cLine)(I:Inv X pins σ H s)(g:jZ H a y (some v))(ry:aq y u)(h:∀w' s',Inv X pins σ H s'->aq v w'->Q w' s') :
  wpAny (model X.prog X.w) A (getItem (.ref a) u) Q E s:=by
 rcases g with ⟨kvs,k,e,ey,l⟩|⟨kvs,k,b,e,ey,eb,l⟩
 ·subst ey
  obtain⟨z,hd,vs,rel,dd⟩:=ii I.hok e
  obtain⟨w',hw,rw'⟩:=jw.some_of (v:=v) (o:=valueAt vs k) (by rw [l];exact rel.val k)
  exact wpAny_getItem_of (lO ry) dd.mapOf hw (h w' _ (I.tok _) rw')
 ·subst ey
  cases (show u=Value.ref b from ry)
  obtain⟨z,hd,xs,rel,dd⟩:=ji I.hok e
  obtain⟨w',hw,rw'⟩:=jw.some_of (v:=v) (o:=(atKey xs k).map (·.2)) (by rw [l];exact rel.val k)
  obtain⟨p,hp,hp2⟩:=Option.map_eq_some_iff.mp hw
  refine wpAny_getItem_heap (tupleKind_room_in1 hu) (iV I.hok eb) dd hp ?_
  rw [hp2]
  exact h w' _ (I.tok _) rw'
theorem CN{Q:Value->Shared->Prop}(hu:A.units+1<cLine)(I:Inv X pins σ H s)(g:jZ H a y o)(ry:aq y u)(h:∀s',Inv X pins σ H s'->Q (.bool o.isSome) s') :
  wpAny (model X.prog X.w) A (compareOp .In u (.ref a)) Q E s:=by
 rcases g with ⟨kvs,k,e,ey,l⟩|⟨kvs,k,b,e,ey,eb,l⟩
 ·subst ey
  obtain⟨z,hd,vs,rel,dd⟩:=ii I.hok e
  refine wpAny_in_of (lO ry) hd dd.mapOf ?_
  rw [<- (rel.val k).isSome_eq,<- l]
  exact h _ (I.tok _)
 ·subst ey
  cases (show u=Value.ref b from ry)
  obtain⟨z,hd,xs,rel,dd⟩:=ji I.hok e
  refine wpAny_in_heap (tupleKind_room_in1 hu) (iV I.hok eb) hd dd ?_
  have q:=(rel.val k).isSome_eq
  rw [Option.isSome_map]at q
  rw [<- q,<- l]
  exact h _ (I.tok _)
theorem wp{Q:Value->Shared->Prop}(hu:A.units+1<cLine)(I:Inv X pins σ H s)(g:jZ H a y o)(ry:aq y u)(h:∀s',Inv X pins σ H s'->Q (.bool (!o.isSome)) s') :
  wpAny (model X.prog X.w) A (compareOp .NotIn u (.ref a)) Q E s:=by
 rcases g with ⟨kvs,k,e,ey,l⟩|⟨kvs,k,b,e,ey,eb,l⟩
 ·subst ey
  obtain⟨z,hd,vs,rel,dd⟩:=ii I.hok e
  refine wpAny_notIn_of (lO ry) hd dd.mapOf ?_
  rw [<- (rel.val k).isSome_eq,<- l]
  exact h _ (I.tok _)
 ·subst ey
  cases (show u=Value.ref b from ry)
  obtain⟨z,hd,xs,rel,dd⟩:=ji I.hok e
  refine wpAny_notIn_heap (tupleKind_room_in1 hu) (iV I.hok eb) hd dd ?_
  have q:=(rel.val k).isSome_eq
  rw [Option.isSome_map]at q
  rw [<- q,<- l]
  exact h _ (I.tok _)
theorem qc{h':Heap}{t':Nat}{ob:HO}(I:Inv X pins σ H s)(mu:Mut (H a))(hs:Heap.SameBut a s.heap h')(he:∃q,h'.get? a=some q)(new:bq X.prog X.w (upd H a ob) h' a ob) :
  Inv X pins σ (upd H a ob) { s with heap:=h',toks:=t' } :=
 I.write (x:=a) (e:=a) mu (.inl rfl) (λb q hb z=>(hs.2 b hb).trans z) he new
theorem yI{P:Program}{w:World}{H':Hp}{h':Heap}{kvs:List (Key×V)}{vs:List (Key×Value)}(z:kvs.length<=sizeLine)(hd:(a == sysModules)=false)(rel:KV kvs vs)(dd:h'.DictOf (bH P w) a vs) :
  bq P w H' h' a (.dK kvs):=⟨z,hd,vs,rel,dd⟩
theorem rm{H':Hp}{Q:Unit->Shared->Prop}(hu:A.units+1<cLine)(I:Inv X pins σ H s)(g:j1 H a y v H')(ry:aq y u)(rv:aq v r)(h:∀s',Inv X pins σ H' s'->Q () s') :
  wpAny (model X.prog X.w) A (setItem (.ref a) u r) Q E s:=by
 rcases g with ⟨kvs,k,e,ey,l,eH⟩|⟨kvs,k,b,e,ey,eb,l,eH⟩
 ·subst ey eH
  obtain⟨z,hd,vs,rel,dd⟩:=Bc I.hok e
  have hz:vs.length<=sizeLine:=by rw [<- rel.length];exact z
  have hl:(gG kvs k v).length<=sizeLine:=by have:=jh kvs k v;omega
  refine wpAny_setItem_pairs (hsz:=hz) (lO ry) dd λh' dd' hs=>h _ ?_
  have he:∃q,h'.get? a=some q:=let ⟨q,_,_,hq,_⟩:=dd';⟨q,hq⟩
  exact qc I (by rw [e];exact True.intro) hs he (yI hl hd (rel.put k rv) dd')
 ·subst ey eH
  cases (show u=Value.ref b from ry)
  obtain⟨z,hd,xs,rel,dd⟩:=Bd I.hok e
  have hz:xs.length<=sizeLine:=by rw [<- Paired.length rel];exact z
  have hl:(gG kvs k v).length<=sizeLine:=by have:=jh kvs k v;omega
  refine wpAny_setItem_heap (hsz:=hz) (tupleKind_room_in1 hu) (iV I.hok eb) dd λh' dd' hs=>h _ ?_
  obtain⟨q,es,ep,hq,h2,h3,h4,_,h5⟩:=dd'
  refine qc I (by rw [e];exact True.intro) hs ⟨q,hq⟩ ⟨hl,hd,_,(rel.put k eb rv).keeps λc ys ec=>?_,q,es,ep,hq,h2,h3,h4,h5⟩
  rw [aB (AF ec e (λz=>nomatch z))]
  exact ec
end
section
variable{X:Cx}{pins:List (Addr×Obj)}{σ:St}{H:Hp}{s:Shared}{a:Addr}{kvs:List (Key×V)}{k:Key}{u:Value}{A:Around}{E:Value->Shared->Prop}
end
noncomputable def Be(i:Expr):Prop:=∀ov iv,subscripted i false ov iv=operate [ov,iv] (getItem ov iv)
theorem wq{prog:Program}{w:World}{A:Around}{E:Value->Shared->Prop}{s:Shared}{env:Env}{value slice:Expr}{pos:Pos}{T id:String}{Q:Value->Shared->Prop}
  (hl:typeLookup (.type T) "__getitem__"=pure (some (.builtin id))) (hs:Be slice)
  (h:wpAny (model prog w) A (eval value env) (λo s₁=>wpAny (model prog w) A (eval slice env) (λi s₂=>s₂.TypeIs o T/\wpAny (model prog w) A (getItem o i) Q E s₂) E s₁) E s) :
  wpAny (model prog w) A (eval (.Subscript value slice pos) env) Q E s:=by
 refine Subscript_ (wpAny_mono h (λo s₁ h₁=>wpAny_mono h₁ (λi s₂ h₂=>?_) λ_ _ x=>x) λ_ _ x=>x)
 obtain⟨hT,h₂⟩:=h₂
 unfold subscriptTail
 refine wpAny_bind ?_
 rw [getitemInPython_of_ne hT.not_modules]
 refine wpAny_bind (wpAny_specialOf hT hl ?_)
 have fin:wpAny (model prog w) A (subscripted slice false o i) (λr s₃=>wpAny (model prog w) A (letTemporaryGo value o r >>= λ_=>pure r) Q E s₃) E s₂:=by
  rw [hs o i]
  exact wpAny_operating (wpAny_mono h₂ (λr s₃ h₃=>wpAny_bind (wpAny_letTemporaryGo (wpAny_pure h₃))) λ_ _ x=>x)
 first
  | exact wpAny_pure (wpAny_bind fin)
  | exact wpAny_bind (wpAny_pure (wpAny_bind fin))
  | exact wpAny_bind fin
theorem nV {X:Cx}{pins:List (Addr×Obj)}{σ:St}{H:Hp}{s:Shared}{a:Addr}{y:V}{o:Option V} (I:Inv X pins σ H s) (g:jZ H a y o):s.TypeIs (.ref a) "dict":=by
 rcases g with ⟨kvs,k,e,_,_⟩|⟨kvs,k,b,e,_,_,_⟩
 ·obtain⟨_,_,vs,_,dd⟩:=ii I.hok e
  exact dd.typeIs
 ·obtain⟨_,_,xs,_,dd⟩:=ji I.hok e
  exact dd.typeIs
noncomputable def Bf(td ty:TE):TE:=λσ H Q=>td σ H λx H1=>ty σ H1 λy H2=>∃a v,x=.ref a/\jZ H2 a y (some v)/\Q v H2
noncomputable def CO(ty td:TE):TE:=λσ H Q=>ty σ H λy H1=>td σ H1 λx H2=>∃a o,x=.ref a/\jZ H2 a y o/\Q (.bl o.isSome) H2
noncomputable def wt(ty td:TE):TE:=λσ H Q=>ty σ H λy H1=>td σ H1 λx H2=>∃a o,x=.ref a/\jZ H2 a y o/\Q (.bl (!o.isSome)) H2
noncomputable def Bg(td ty tv:TE):TS:=λD σ H=>tv σ H λv H1=>td σ H1 λx H2=>ty σ H2 λy H3=>∃a H4,x=.ref a/\j1 H3 a y v H4/\D.nx σ H4
section
variable{X:Cx}{o i e value:Expr}{pos pos' tpos:Pos}{td ty tv:TE}
theorem wu(hu:X.A.units+1<cLine)(ho:PE X o td)(hi:PE X i ty)(hs:Be i):PE X (.Subscript o i pos) (Bf td ty):=by
 intro pins s σ H Q I h
 refine wq PySem.F.slot_dict_getitem.lookup hs (thn (ho pins s σ H _ I h) λu s1 ⟨x,H1,I1,rx,q1⟩=>thn (hi pins s1 σ H1 _ I1 q1) λiv s2 ⟨y,H2,I2,ry,a,v,ex,g,q2⟩=>?_)
 subst ex
 obtain rfl:u=Value.ref a:=rx
 exact⟨nV I2 g,rl hu I2 g ry λw' s3 I3 rw'=>⟨v,H2,I3,rw',q2⟩⟩
theorem sV(hu:X.A.units+1<cLine)(hi:PE X i ty)(ho:PE X o td):PC X .In i o (CO ty td):=by
 intro pins s σ H Q I h
 refine thn (hi pins s σ H _ I h) λiv s1 ⟨y,H1,I1,ry,q1⟩=>thn (ho pins s1 σ H1 _ I1 q1) λu s2 ⟨x,H2,I2,rx,a,ov,ex,g,q2⟩=>?_
 subst ex
 obtain rfl:u=Value.ref a:=rx
 exact CN hu I2 g ry λs3 I3=>⟨.bl ov.isSome,H2,I3,rfl,q2⟩
theorem lQ(hu:X.A.units+1<cLine)(hi:PE X i ty)(ho:PE X o td):PC X .NotIn i o (wt ty td):=by
 intro pins s σ H Q I h
 refine thn (hi pins s σ H _ I h) λiv s1 ⟨y,H1,I1,ry,q1⟩=>thn (ho pins s1 σ H1 _ I1 q1) λu s2 ⟨x,H2,I2,rx,a,ov,ex,g,q2⟩=>?_
 subst ex
 obtain rfl:u=Value.ref a:=rx
 exact wp hu I2 g ry λs3 I3=>⟨.bl (!ov.isSome),H2,I3,rfl,q2⟩
theorem wv(hu:X.A.units+1<cLine)(ho:PE X o td)(hi:PE X i ty)(hv:PE X value tv)(hs:swapsWith value (some (.Subscript o i pos')) pos.line X.env=pure false) :
  PS X (.Assign [.Subscript o i pos'] value pos) (Bg td ty tv):=by
 intro pins s σ H D I h
 refine wpAny_Assign_Subscript (thn (hv pins s σ H _ I h) λr s1 ⟨v,H1,I1,rv,q1⟩=>thn (ho pins s1 σ H1 _ I1 q1) λu s2 ⟨x,H2,I2,rx,q2⟩=>thn (hi pins s2 σ H2 _ I2 q2) λiv s3 ⟨y,H3,I3,ry,a,H4,ex,g,q3⟩=>?_) hs
 subst ex
 obtain rfl:u=Value.ref a:=rx
 exact rm hu I3 g ry rv λs4 I4=>⟨σ,H4,I4,q3⟩
end
theorem sW {P:Program}{w:World}{H:Hp} (h:Heap) (hb:sysModules<h.objs.size):bq P w H (h.push { cls:=.type "dict",data:=.dict #[] }) h.objs.size (.dK []) :=
 ⟨Nat.zero_le _,beq_eq_false_iff_ne.mpr (Ne.symm (Nat.ne_of_lt hb)),[],.nil,Heap.DictOf.new h⟩
theorem sX {P:Program}{w:World}{H:Hp} (h:Heap) (hb:sysModules<h.objs.size):bq P w H (h.push { cls:=.type "dict",data:=.dict #[] }) h.objs.size (.dT []) :=
 ⟨Nat.zero_le _,beq_eq_false_iff_ne.mpr (Ne.symm (Nat.ne_of_lt hb)),[],.nil,_,#[],0,Heap.get?_push_size _ rfl,⟨rfl,rfl,rfl⟩,rfl,rfl,List.nodup_nil⟩
noncomputable def yJ:TE:=λ_ H Q=>∀p,H p=none->Q (.ref p) (upd H p (.dK []))
noncomputable def yK:TE:=λ_ H Q=>∀p,H p=none->Q (.ref p) (upd H p (.dT []))
section
variable{X:Cx}{pos:Pos}
theorem sY:PE X (.Dict [] [] pos) yJ:=λpins s σ H Q I h =>
 wpAny_Dict_empty ⟨.ref s.heap.objs.size,_,I.laid (a:=s.heap.objs.size) (o:=.dK []) (t':=s.toks) (λ_ _ q=>Heap.get?_push_of_some _ q) (Nat.le_refl _) (sW s.heap I.big),rfl,h _ (I.hok.fresh (Nat.le_refl _))⟩
theorem sZ:PE X (.Dict [] [] pos) yK:=λpins s σ H Q I h =>
 wpAny_Dict_empty ⟨.ref s.heap.objs.size,_,I.laid (a:=s.heap.objs.size) (o:=.dT []) (t':=s.toks) (λ_ _ q=>Heap.get?_push_of_some _ q) (Nat.le_refl _) (sX s.heap I.big),rfl,h _ (I.hok.fresh (Nat.le_refl _))⟩
end
structure M2(X:Cx)(o:Expr)(m:Str)(apos:Pos)(e f:Expr)(cpos:Pos):Prop where
 base:attributeBase o m X.env (eval o X.env)=eval o X.env
 few:((backTo cpos (starEach [e,f] X.env)).all (λx=>!x.1)&&(backToKw cpos (keywordEach [] X.env)).all (λx=>x.1.isSome)
 &&decide (([e,f]:List Expr).length+([]:List Keyword).length+(if ([]:List Keyword).isEmpty then 0 else 1)<30))=true
 line:(apos.endLine == cpos.line)=true
 trees:backTo cpos (starEach [e,f] X.env)=[(false,eval e X.env),(false,eval f X.env)]
noncomputable def IsD(H:Hp)(a:Addr):Prop:=(∃kvs,Rd H a (.dK kvs))\/∃kvs,Rd H a (.dT kvs)
theorem po{X:Cx}{pins:List (Addr×Obj)}{σ:St}{H:Hp}{s:Shared}{a:Addr}(I:Inv X pins σ H s)(d:IsD H a) :
  s.TypeIs (.ref a) "dict"/\(∀b,Value.ref a=.ref b->∃ob,s.heap.get? b=some ob/\ob.dict=none)/\(a == sysModules)=false:=by
 rcases d with ⟨kvs,e⟩|⟨kvs,e⟩
 ·obtain⟨_,hd,vs,_,dd⟩:=ii I.hok e
  refine⟨dd.typeIs,λb q=>?_,hd⟩
  cases q
  obtain⟨ob,_,_,h1,h2,_⟩:=dd
  exact⟨ob,h1,h2.2.1⟩
 ·obtain⟨_,hd,xs,_,dd⟩:=ji I.hok e
  refine⟨dd.typeIs,λb q=>?_,hd⟩
  cases q
  obtain⟨ob,_,_,h1,h2,_⟩:=dd
  exact⟨ob,h1,h2.2.1⟩
section
variable{X:Cx}{pins:List (Addr×Obj)}{σ:St}{H:Hp}{s:Shared}{a:Addr}{y d:V}{u r:Value}{o:Option V}{A:Around}{E:Value->Shared->Prop}
theorem yL{Q:Value->Shared->Prop}(hu:A.units+1<cLine)(I:Inv X pins σ H s)(g:jZ H a y o)(ry:aq y u)(rd:aq d r)(h:∀w' s',Inv X pins σ H s'->aq (o.getD d) w'->Q w' s') :
  wpAny (model X.prog X.w) A (call (.builtin "dict.get") [.ref a,u,r]) Q E s:=by
 rcases g with ⟨kvs,k,e,ey,l⟩|⟨kvs,k,b,e,ey,eb,l⟩
 ·subst ey
  obtain⟨z,hd,vs,rel,dd⟩:=ii I.hok e
  refine call_meetsIn PySem.F.slot_dict_get dd.typeIs PySem.F.entry_dict_get (PySem.F.args_dict_get_3 _ _ _) (meets_dict_get_default (bH X.prog X.w) a (lO ry) hd r) ⟨_,dd.mapOf,h _ _ (I.tok _) ?_⟩
  rw [l]
  exact(rel.val k).getD rd
 ·subst ey
  cases (show u=Value.ref b from ry)
  obtain⟨z,hd,xs,rel,dd⟩:=ji I.hok e
  refine call_meetsIn PySem.F.slot_dict_get dd.typeIs PySem.F.entry_dict_get (PySem.F.args_dict_get_3 _ _ _) (meetsH_dict_get_default (tupleKind (bH X.prog X.w)) a b hd r) ⟨tupleKind_room_in1 hu,k,xs,iV I.hok eb,dd,h _ _ (I.tok _) ?_⟩
  rw [l]
  exact(rel.val k).getD rd
end
noncomputable def yM(td ty tx:TE):TE:=λσ H Q=>td σ H λx H1=>∃a,x=.ref a/\IsD H1 a/\ty σ H1 λy H2=>tx σ H2 λz H3=>∃o,jZ H3 a y o/\Q (o.getD z) H3
section
variable{X:Cx}{o e f:Expr}{apos cpos:Pos}{td ty tx:TE}
theorem s_ (hu:X.A.units+1<cLine) (ho:PE X o td) (he:PE X e ty) (hf:PE X f tx) (m:M2 X o "get" apos e f cpos):PE X (.Call (.Attribute o "get" apos) [e,f] [] cpos) (yM td ty tx):=by
 intro pins s σ H Q I h
 refine wpAny_Call_method m.base m.few m.line PySem.F.plainAttrs_dict PySem.F.slot_dict_get PySem.F.type_dict_get (thn (ho pins s σ H _ I h) λu s1 ⟨x,H1,I1,rx,a,ex,d,q1⟩=>?_)
 subst ex
 obtain rfl:u=Value.ref a:=rx
 obtain⟨t1,t2,_⟩:=po I1 d
 refine⟨t1,t2,?_⟩
 rw [m.trees]
 refine Calls.callWith_builtin rfl (Calls.evalArgs_plain (Calls.spliced_cons (thn (he pins s1 σ H1 _ I1 q1) λiv s2 ⟨y,H2,I2,ry,q2⟩ =>
  Calls.spliced_cons (thn (hf pins s2 σ H2 _ I2 q2) λfv s3 ⟨z,H3,I3,rz,ov,g,q3⟩=>Calls.spliced_nil ?_))))
 exact yL hu I3 g ry rz λw' s4 I4 rw'=>⟨_,H3,I4,rw',q3⟩
end
section
variable{X:Cx}{pins:List (Addr×Obj)}{σ:St}{H:Hp}{s:Shared}{a:Addr}{kvs:List (Key×V)}{A:Around}{E:Value->Shared->Prop}
end
section
variable{X:Cx}{pins:List (Addr×Obj)}{σ:St}{H:Hp}{s:Shared}{a:Addr}{y:V}{u:Value}{A:Around}{E:Value->Shared->Prop}
end
end L2
namespace L2.Srt
open PySem PySem.W PyProof.Rows
section
variable{O:KeyOrd}{key:Nat->O.α}{N:Nat}{cmp:Nat->Nat->(Bool->Shared->Prop)->Shared->Prop}{s:Shared}
noncomputable def kk(key:Nat->O.α)(p:Array Nat)(i:Nat):O.α:=key (p.getD i 0)
noncomputable def eE(key:Nat->O.α)(p:Array Nat)(k:Nat):Prop:=∀i j,i<=j->j<k->O.kle (kk key p i) (kk key p j)
noncomputable def nW(key:Nat->O.α)(p:Array Nat)(k:Nat):Prop:=∀i j,i<=j->j<k->O.kle (kk key p j) (kk key p i)
noncomputable def PB(N:Nat)(p:Array Nat):Prop:=p.Perm (List.range N).toArray
theorem PB.size{p:Array Nat}(h:PB N p):p.size=N:=by have:=h.size_eq;simpa using this
theorem PB.lt{p:Array Nat}(h:PB N p){i:Nat}(hi:i<N):p.getD i 0<N:=by
 have hs:i<p.size:=by rw [h.size];exact hi
 have hm:p[i]∈(List.range N):=by
  have e:=(Array.perm_iff_toList_perm.mp h).mem_iff (a:=p[i])
  simpa using e.mp (by simp)
 have e:p.getD i 0=p[i]:=by simp [Array.getD,hs]
 rw [e];exact List.mem_range.mp hm
theorem PB.rev{p:Array Nat}(h:PB N p)(i j:Nat):PB N (kas_rev p i j):=(mirror_perm _ _ _ _).trans h
theorem PB.bub{p:Array Nat}(h:PB N p)(i j:Nat):PB N (bubble p i j):=(bubble_perm _ _ _).trans h
theorem fX{p q:Array Nat}{i j:Nat}(h:p[i]?=q[j]?):kk key p i=kk key q j:=by
 unfold kk;rw [Array.getD_eq_getD_getElem?,Array.getD_eq_getD_getElem?,h]
theorem lR{p:Array Nat}{src d:Nat}(hs:src<p.size)(hd:d<=src)(k:Nat) :
  kk key (bubble p src d) k=if k=src-d then kk key p src else if src-d<k/\k<=src then kk key p (k-1) else kk key p k:=by
 have e:=getElem?_bubble hs d hd k
 by_cases h1:k=src-d
 ·rw [if_pos h1]at e ⊢;exact fX e
 ·rw [if_neg h1]at e ⊢
  by_cases h2:src-d<k/\k<=src
  ·rw [if_pos h2]at e ⊢;exact fX e
  ·rw [if_neg h2]at e ⊢;exact fX e
theorem pp{p:Array Nat}{i j:Nat}(hj:j<=p.size)(k:Nat) :
  kk key (kas_rev p i j) k=if i<=k/\k<j then kk key p (i+j-1-k) else kk key p k:=by
 have e:=getElem?_mirror_all (i:=i) hj k
 unfold kas_rev
 by_cases h1:i<=k/\k<j
 ·rw [if_pos h1]at e ⊢;exact fX e
 ·rw [if_neg h1]at e ⊢;exact fX e
theorem cQ{p:Array Nat}{i j:Nat}(hj:j<=p.size)(heq:∀k,i<=k->k<j->kk key p k=kk key p (j-1))(k:Nat) :
  kk key (kas_rev p i j) k=kk key p k:=by
 rw [pp hj]
 split
 ·rw [heq _ (by omega) (by omega),heq k (by omega) (by omega)]
 ·rfl
variable(hc:∀a b C,a<N->b<N->C (O.blt (key a) (key b)) s->cmp a b C s)
include hc
theorem nX{α:Type}{p:Array Nat}{i j:Nat}{k:Bool->KasT α}{Q:α->Shared->Prop}(hp:PB N p)(hi:i<N)(hj:j<N)
  (h:(k (O.blt (kk key p i) (kk key p j))).kasWp cmp Q s):(KasT.ask (p.getD i 0) (p.getD j 0) k).kasWp cmp Q s :=
 hc _ _ _ (hp.lt hi) (hp.lt hj) h
theorem tj{p:Array Nat}{nrem:Nat}{Q:Nat->Shared->Prop}(hp:PB N p)(hn:nrem<=N):∀(f n:Nat),n+f=nrem->1<=n->eE key p n ->
  (∀m,n<=m->m<=nrem->eE key p m->(m=nrem\/O.klt (kk key p m) (kk key p (m-1)))->Q m s)->(kas_asc p f n).kasWp cmp Q s
 |0,n,e,h1,hs,h=>h n (Nat.le_refl _) (by omega) hs (.inl (by omega))
 | f + 1,n,e,h1,hs,h=>by
  show(KasT.ask (p.getD n 0) (p.getD (n-1) 0) λc=>if c=true then .ret n else kas_asc p f (n+1)).kasWp cmp Q s
  refine nX hc hp (by omega) (by omega) ?_
  cases hless:O.blt (kk key p n) (kk key p (n-1)) with
  |true =>
   rw [if_pos rfl]
   exact h n (Nat.le_refl _) (by omega) hs (.inr hless)
  | false =>
   rw [if_neg (by simp)]
   refine tj hp hn f (n+1) (by omega) (by omega) (λi j hij hj=>?_) λm a b c d=>h m (by omega) b c d
   by_cases hjx:j<n
   ·exact hs i j hij hjx
   ·have hj':j=n:=by omega
    subst hj'
    by_cases hi':i=j
    ·subst hi';exact KeyOrd.kle_refl _
    ·exact KeyOrd.kle_trans (hs i (j-1) (by omega) (by omega)) hless
theorem qd{p:Array Nat}{n nrem:Nat}{Q:Nat×Array Nat->Shared->Prop}(hp:PB N p)(hn:nrem<=N)(h1:1<=n)(hnn:n<=nrem)(hs:nW key p n)
  (h:∀m p',PB N p'->1<=m->m<=nrem->eE key p' m->Q (m,p') s):(kas_tail3 n nrem p).kasWp cmp Q s:=by
 unfold kas_tail3
 rw [KasT.kasWp_bind]
 have hz:n<=p.size:=by rw [hp.size];omega
 refine tj hc (hp.rev 0 n) hn (nrem-n) n (by omega) h1 (λi j hij hj=>?_) λm a b c _=>h m _ (hp.rev 0 n) (by omega) b c
 rw [pp hz,pp hz,if_pos (by omega),if_pos (by omega)]
 exact hs _ _ (by omega) (by omega)
theorem mU{nrem:Nat}{Q:Array Nat×Nat×Nat->Shared->Prop}(hn:nrem<=N):∀(f:Nat) (p:Array Nat) (n q:Nat),n+f=nrem->PB N p->nW key p n->q+1<=n ->
  (∀i,n-(q+1)<=i->i<n->kk key p i=kk key p (n-1)) ->
  (∀p' m q',n<=m->m<=nrem->PB N p'->nW key p' m->q'+1<=m->(∀i,m-(q'+1)<=i->i<m->kk key p' i=kk key p' (m-1))->Q (p',m,q') s) ->
  (kas_desc f p n q).kasWp cmp Q s
 |0,p,n,q,e,hp,hs,hq,he,h=>h p n q (Nat.le_refl _) (by omega) hp hs hq he
 | f + 1,p,n,q,e,hp,hs,hq,he,h=>by
  show(KasT.ask (p.getD n 0) (p.getD (n-1) 0) λc =>
   if c=true then (if q > 0 then kas_desc f (kas_rev p (n-(q+1)) n) (n+1) 0 else kas_desc f p (n+1) 0)
   else .ask (p.getD (n-1) 0) (p.getD n 0) λd=>if d=true then .ret (p,n,q) else kas_desc f p (n+1) (q+1)).kasWp cmp Q s
  have hz:n<=p.size:=by rw [hp.size];omega
  refine nX hc hp (by omega) (by omega) ?_
  cases hless:O.blt (kk key p n) (kk key p (n-1)) with
  | true =>
   rw [if_pos rfl]
   have step1:∀p':Array Nat,(∀k,kk key p' k=kk key p k)->nW key p' (n+1):=by
    intro p' hk i j hij hj
    rw [hk,hk]
    by_cases hjx:j<n
    ·exact hs i j hij hjx
    ·have hj':j=n:=by omega
     subst hj'
     by_cases hi':i=j
     ·subst hi';exact KeyOrd.kle_refl _
     ·exact KeyOrd.kle_trans (KeyOrd.kle_of_klt hless) (hs i (j-1) (by omega) (by omega))
   by_cases hneq:q > 0
   ·rw [if_pos hneq]
    exact mU hn f _ (n+1) 0 (by omega) (hp.rev _ _) (step1 _ (cQ hz he)) (by omega) (λi a b=>by congr 1;omega)
     λp' m q' a=>h p' m q' (by omega)
   ·rw [if_neg hneq]
    exact mU hn f p (n+1) 0 (by omega) hp (step1 _ λ_=>rfl) (by omega) (λi a b=>by congr 1;omega) λp' m q' a=>h p' m q' (by omega)
  | false =>
   rw [if_neg (by simp)]
   refine nX hc hp (by omega) (by omega) ?_
   cases hlarger:O.blt (kk key p (n-1)) (kk key p n) with
   |true =>
    rw [if_pos rfl]
    exact h p n q (Nat.le_refl _) (by omega) hp hs hq he
   | false =>
    rw [if_neg (by simp)]
    have heqx:kk key p n=kk key p (n-1):=KeyOrd.kle_antisymm hlarger hless
    refine mU hn f p (n+1) (q+1) (by omega) hp (λi j hij hj=>?_) (by omega) (λi a b=>?_) λp' m q' a=>h p' m q' (by omega)
    ·by_cases hjx:j<n
     ·exact hs i j hij hjx
     ·have hj':j=n:=by omega
      subst hj'
      by_cases hi':i=j
      ·subst hi';exact KeyOrd.kle_refl _
      ·rw [heqx];exact hs i (j-1) (by omega) (by omega)
    ·rw [show n+1-1=n by omega]
     by_cases hix:i=n
     ·subst hix;rfl
     ·rw [heqx];exact he i (by omega) (by omega)
theorem j2{p:Array Nat}{n nrem:Nat}{Q:Nat×Array Nat->Shared->Prop}(hp:PB N p)(hn:nrem<=N)(hnn:n+1<=nrem)(hs:nW key p (n+1))
  (h:∀m p',PB N p'->1<=m->m<=nrem->eE key p' m->Q (m,p') s):(kas_descPart n nrem p).kasWp cmp Q s:=by
 unfold kas_descPart
 rw [KasT.kasWp_bind]
 refine mU hc hn (nrem-(n+1)) p (n+1) 0 (by omega) hp hs (by omega) (λi a b=>by congr 1;omega) λp' m q' hm1 hm2 hp' hs' hq he=>?_
 dsimp only
 have hz:m<=p'.size:=by rw [hp'.size];omega
 by_cases hneq:q' > 0
 ·rw [if_pos hneq]
  refine qd hc (hp'.rev _ _) hn (by omega) hm2 (λi j hij hj=>?_) h
  rw [cQ hz he,cQ hz he]
  exact hs' i j hij hj
 ·rw [if_neg hneq]
  exact qd hc hp' hn (by omega) hm2 hs' h
theorem ww{p:Array Nat}{nrem:Nat}{Q:Nat×Array Nat->Shared->Prop}(hp:PB N p)(hn:nrem<=N)(h1:1<=nrem)
  (h:∀m p',PB N p'->1<=m->m<=nrem->eE key p' m->Q (m,p') s):(kas_count nrem p).kasWp cmp Q s:=by
 unfold kas_count
 rw [KasT.kasWp_bind]
 refine tj hc hp hn (nrem-1) 1 (by omega) (Nat.le_refl _) (λi j hij hj=>by have:i=j:=(by omega);subst this;exact KeyOrd.kle_refl _) λn hn1 hn2 hsn hor=>?_
 by_cases hnn:n=nrem
 ·rw [if_pos (by simpa using hnn)]
  exact h n p hp hn1 hn2 hsn
 ·rw [if_neg (by simpa using hnn)]
  have hlt:O.klt (kk key p n) (kk key p (n-1)):=hor.resolve_left hnn
  by_cases hgt:n > 1
  ·rw [if_pos hgt]
   refine nX hc hp (by omega) (by omega) ?_
   cases hrose:O.blt (kk key p 0) (kk key p (n-1)) with
   |true =>
    rw [if_pos rfl]
    exact h n p hp hn1 hn2 hsn
   | false =>
    rw [if_neg (by simp)]
    have hsz:n<=p.size:=by rw [hp.size];omega
    have hall:∀k,0<=k->k<n->kk key p k=kk key p (n-1):=by
     intro k _ hk
     have a1:=hsn 0 k (by omega) hk
     have a2:=hsn k (n-1) (by omega) (by omega)
     exact KeyOrd.kle_antisymm a2 (KeyOrd.kle_trans hrose a1)
    refine j2 hc (hp.rev _ _) hn (by omega) (λi j hij hj=>?_) h
    rw [cQ hsz hall,cQ hsz hall]
    by_cases hjn:j<n
    ·rw [hall i (by omega) (by omega),hall j (by omega) hjn];exact KeyOrd.kle_refl _
    ·have hj':j=n:=by omega
     subst hj'
     by_cases hi':i=j
     ·subst hi';exact KeyOrd.kle_refl _
     ·rw [hall i (by omega) (by omega)];exact KeyOrd.kle_of_klt hlt
  ·rw [if_neg hgt]
   have hn1':n=1:=by omega
   subst hn1'
   refine j2 hc hp hn (by omega) (λi j hij hj=>?_) h
   by_cases hi':i=j
   ·subst hi';exact KeyOrd.kle_refl _
   ·have hi0:i=0:=by omega
    have hj1:j=1:=by omega
    subst hi0;subst hj1
    exact KeyOrd.kle_of_klt hlt
theorem mV{p:Array Nat}{k:Nat}{Q:Nat->Shared->Prop}(hp:PB N p)(hk:k<N)(hs:eE key p k):∀(f l r:Nat),r-l<=f->l<=r->r<=k ->
  (∀i,i<l->O.kle (kk key p i) (kk key p k))->(∀i,r<=i->i<k->O.klt (kk key p k) (kk key p i)) ->
  (∀l,l<=k->(∀i,i<l->O.kle (kk key p i) (kk key p k))->(∀i,l<=i->i<k->O.klt (kk key p k) (kk key p i))->Q l s)->(kas_place p k f l r).kasWp cmp Q s
 |0,l,r,hf,hlr,hrk,hlo,hhi,h=>by
  have:l=r:=by omega
  subst this
  exact h l hrk hlo hhi
 | f + 1,l,r,hf,hlr,hrk,hlo,hhi,h=>by
  show(if l>=r then KasT.ret l else .ask (p.getD k 0) (p.getD ((l+r) / 2) 0) λc=>if c=true then kas_place p k f l ((l+r) / 2) else kas_place p k f ((l+r) / 2+1) r).kasWp cmp Q s
  by_cases hge:l>=r
  ·rw [if_pos hge]
   have:l=r:=by omega
   subst this
   exact h l hrk hlo hhi
  ·rw [if_neg hge]
   refine nX hc hp hk (by omega) ?_
   cases hless:O.blt (kk key p k) (kk key p ((l+r) / 2)) with
   |true =>
    rw [if_pos rfl]
    exact mV hp hk hs f l ((l+r) / 2) (by omega) (by omega) (by omega) hlo (λi a b=>KeyOrd.klt_of_klt_of_kle hless (hs _ _ a b)) h
   |false =>
    rw [if_neg (by simp)]
    exact mV hp hk hs f ((l+r) / 2+1) r (by omega) (by omega) (by omega) (λi a=>KeyOrd.kle_trans (hs i ((l+r) / 2) (by omega) (by omega)) (show O.kle _ _ from hless)) hhi h
theorem xN{Q:Array Nat->Shared->Prop}:∀(f:Nat) (p:Array Nat) (k:Nat),k+f=N->PB N p->eE key p k->(∀p',PB N p'->eE key p' N->Q p' s)->(kas_bin f p k).kasWp cmp Q s
 |0,p,k,e,hp,hs,h=>by
  have:k=N:=by omega
  subst this
  exact h p hp hs
 | f + 1,p,k,e,hp,hs,h=>by
  show((kas_place p k k 0 k).bind λl=>kas_bin f (bubble p k (k-l)) (k+1)).kasWp cmp Q s
  rw [KasT.kasWp_bind]
  refine mV hc hp (by omega) hs k 0 k (by omega) (by omega) (by omega) (λi a=>by omega) (λi a b=>by omega) λl hl hlo hhi=>?_
  refine xN f _ (k+1) (by omega) (hp.bub _ _) (λi j hij hj=>?_) h
  have hks:k<p.size:=by rw [hp.size];omega
  rw [lR hks (by omega),lR hks (by omega),show k-(k-l)=l by omega]
  repeat' split
  all_goals first
   | (exfalso;omega)
   | exact KeyOrd.kle_refl _
   | exact hlo _ (by omega)
   | exact KeyOrd.kle_of_klt (hhi _ (by omega) (by omega))
   | exact hs _ _ (by omega) (by omega)
theorem yN{Q:Array Nat->Shared->Prop}(h1:1<=N)(h:∀p,PB N p->eE key p N->Q p s):(kas_sort N).kasWp cmp Q s:=by
 unfold kas_sort
 rw [KasT.kasWp_bind]
 refine ww hc (Array.Perm.refl _) (Nat.le_refl _) h1 λm p' hp' hm1 hm2 hs'=>?_
 dsimp only
 by_cases hlt:m<N
 ·rw [if_pos hlt,show max m 1=m by omega]
  exact xN hc _ _ _ (by omega) hp' hs' h
 ·rw [if_neg hlt]
  have:m=N:=by omega
  subst this
  exact h p' hp' hs'
end
end L2.Srt
namespace L2.Srt
open PySem PyProof.Rows
theorem j3:∀a:List Int,HT.lexLt a a=false
 | []=>rfl
 |x::r=>by rw [HT.lexLt_cons,if_pos rfl];exact j3 r
theorem iW:∀a b c:List Int,HT.lexLt a b=true->HT.lexLt b c=true->HT.lexLt a c=true
 | [],[],_,h,_=>by cases h
 | [],_::_,[],_,h=>by cases h
 | [],_::_,_::_,_,_=>rfl
 | _::_,[],_,h,_=>by cases h
 | _::_,_::_,[],_,h=>by cases h
 | x::a,y::b,z::c,h1,h2=>by
  rw [HT.lexLt_cons]at h1 h2 ⊢
  by_cases e1:x=y
  ·rw [if_pos e1]at h1
   by_cases e2:y=z
   ·rw [if_pos e2]at h2
    rw [if_pos (e1.trans e2)]
    exact iW a b c h1 h2
   ·rw [if_neg e2]at h2
    rw [if_neg (λq=>e2 (e1.symm.trans q)),e1]
    exact h2
  ·rw [if_neg e1]at h1
   have q1:=of_decide_eq_true h1
   by_cases e2:y=z
   ·rw [if_neg (λq=>e1 (q.trans e2.symm)),<- e2]
    exact h1
   ·rw [if_neg e2]at h2
    have q2:=of_decide_eq_true h2
    rw [if_neg (by omega)]
    exact decide_eq_true (by omega)
theorem iX:∀a b:List Int,HT.lexLt a b=false->HT.lexLt b a=false->a=b
 | [],[],_,_=>rfl
 | [],_::_,h,_=>by cases h
 | _::_,[],_,h=>by cases h
 | x::a,y::b,h1,h2=>by
  rw [HT.lexLt_cons]at h1 h2
  by_cases e:x=y
  ·rw [if_pos e]at h1
   rw [if_pos e.symm]at h2
   rw [e,iX a b h1 h2]
  ·rw [if_neg e]at h1
   rw [if_neg (λq=>e q.symm)]at h2
   have q1:=of_decide_eq_false h1
   have q2:=of_decide_eq_false h2
   omega
theorem wz(a b c:List Int)(h:HT.lexLt a c=true):HT.lexLt a b=true\/HT.lexLt b c=true:=by
 cases h1:HT.lexLt a b with
 |true=>exact .inl rfl
 |false =>
  cases h2:HT.lexLt b a with
  |true=>exact .inr (iW b a c h2 h)
  |false=>rw [iX a b h1 h2]at h;exact .inr h
noncomputable def dZ:KeyOrd:=⟨List Int,HT.lexLt,j3,iW,wz,iX⟩
noncomputable def da:KeyOrd:=⟨Int,λa b=>decide (a<b),λa=>decide_eq_false (by omega),λa b c h1 h2=>decide_eq_true (by have:=of_decide_eq_true h1;have:=of_decide_eq_true h2;omega),
 λa b c h=>by
  have:=of_decide_eq_true h
  by_cases q:a<b
  ·exact .inl (decide_eq_true q)
  ·exact .inr (decide_eq_true (by omega)),
 λa b h1 h2=>by have:=of_decide_eq_false h1;have:=of_decide_eq_false h2;omega⟩
section
variable(O:KeyOrd)
noncomputable def jA(x:O.α):List O.α->List O.α
 | []=>[x]
 |y::r=>if O.blt y x then y::jA x r else x::y::r
noncomputable def fY:List O.α->List O.α
 | []=>[]
 |x::r=>jA O x (fY r)
theorem iY(x:O.α):∀l,(jA O x l).Perm (x::l)
 | []=>.refl _
 |y::r=>by
  show(if O.blt y x then y::jA O x r else x::y::r).Perm _
  split
  ·exact(List.Perm.cons y (iY x r)).trans (.swap x y r)
  ·exact .refl _
theorem d4:∀l,(fY O l).Perm l
 | []=>.refl _
 |x::r=>(iY O x _).trans (.cons x (d4 r))
theorem j4(x:O.α):∀l:List O.α,l.Pairwise O.kle->(jA O x l).Pairwise O.kle
 | [],_=>List.pairwise_singleton _ _
 | y::r,h=>by
  show(if O.blt y x then y::jA O x r else x::y::r).Pairwise O.kle
  obtain⟨h1,h2⟩:=List.pairwise_cons.mp h
  by_cases q:O.blt y x=true
  ·rw [if_pos q]
   refine List.pairwise_cons.mpr ⟨λz hz=>?_,j4 x r h2⟩
   rcases List.mem_cons.mp ((iY O x r).mem_iff.mp hz) with e|e
   ·rw [e];exact KeyOrd.kle_of_klt q
   ·exact h1 z e
  ·rw [if_neg q]
   have q':O.kle x y:=Bool.eq_false_iff.mpr q
   refine List.pairwise_cons.mpr ⟨λz hz=>?_,h⟩
   rcases List.mem_cons.mp hz with e|e
   ·rw [e];exact q'
   ·exact KeyOrd.kle_trans q' (h1 z e)
theorem dA:∀l,(fY O l).Pairwise O.kle
 | []=>List.Pairwise.nil
 |x::r=>j4 O x _ (dA r)
theorem ij:∀{a b:List O.α},a.Perm b->a.Pairwise O.kle->b.Pairwise O.kle->a=b
 | [],b,p,_,_=>p.nil_eq
 |x::a,[],p,_,_=>by have:=p.length_eq;simp at this
 | x::a,y::b,p,ha,hb=>by
  obtain⟨a1,a2⟩:=List.pairwise_cons.mp ha
  obtain⟨b1,b2⟩:=List.pairwise_cons.mp hb
  have e:x=y:=by
   have hx:x∈y::b:=p.mem_iff.mp (.head _)
   have hy:y∈x::a:=p.mem_iff.mpr (.head _)
   rcases List.mem_cons.mp hx with q|q
   ·exact q
   ·rcases List.mem_cons.mp hy with q'|q'
    ·exact q'.symm
    ·exact KeyOrd.kle_antisymm (a1 y q') (b1 x q)
  subst e
  rw [ij (p.cons_inv) a2 b2]
theorem j5{a l:List O.α}(p:a.Perm l)(h:a.Pairwise O.kle):a=fY O l:=ij O (p.trans (d4 O l).symm) h (dA O l)
theorem lu{a b:List O.α}(p:a.Perm b):fY O a=fY O b:=j5 O ((d4 O a).trans p) (dA O a)
end
theorem gz{α:Type}(xs:List α)(d:α):(List.range xs.length).map (λi=>xs.getD i d)=xs:=by
 apply List.ext_getElem?
 intro i
 rw [List.getElem?_map]
 by_cases q:i<xs.length
 ·simp [List.getElem?_range,q]
 ·simp [List.getElem?_range,q]
theorem yO{O:KeyOrd}{d:O.α}{xs:List O.α}{p:Array Nat}(hp:PB xs.length p)(hr:eE (λi=>xs.getD i d) p xs.length):p.toList.map (λi=>xs.getD i d)=fY O xs:=by
 refine j5 O ?_ ?_
 ·have h:=(Array.perm_iff_toList_perm.mp hp).map λi=>xs.getD i d
  have e:(List.map (λi=>xs.getD i d) (List.range xs.length).toArray.toList)=xs:=gz xs d
  rw [e]at h
  exact h
 ·rw [List.pairwise_iff_getElem]
  intro i j hi hj hij
  rw [List.length_map,Array.length_toList]at hi hj
  have hz:=hp.size
  have q:=hr i j (Nat.le_of_lt hij) (by omega)
  simp only [List.getElem_map,Array.getElem_toList]
  have ei:p.getD i 0=p[i]:=by simp [Array.getD,hi]
  have ej:p.getD j 0=p[j]:=by simp [Array.getD,hj]
  unfold kk at q
  rw [ei,ej]at q
  exact q
end L2.Srt
namespace L2.Srt
open PySem PySem.W PySem.Calls PyProof.Rows
section
variable{prog:Program}{w:World}{A:Around}{E:Value->Shared->Prop}{s:Shared}
noncomputable def KOk(κ:SortKind):Prop:=κ=tuples' true\/κ=general'\/κ=oneType'
theorem mW {KO:SortKind->Prop}{O:KeyOrd}{key:Nat->O.α}{a:Addr}{vs:List Value}{n:Nat}{R:PySem.Fin->Shared->Prop} (ho:s.heap.get? a=some (seqObj "list" vs.toArray n)) (h64:vs.length<64)
  (hk:2<=vs.length->∀(s':Shared) (Q:SortKind->Shared->Prop),(∀b o,b≠a->s.heap.get? b=some o->s'.heap.get? b=some o)->(∀κ,KO κ->Q κ s')->wpAny (model prog w) A (keyKind' vs.toArray) Q (λ_ _=>False) s')
  (hc:∀κ,KO κ->∀(s':Shared) (i j:Nat) (C:Bool->Shared->Prop),(∀b o,b≠a->s.heap.get? b=some o->s'.heap.get? b=some o)->i<vs.length->j<vs.length->C (O.blt (key i) (key j)) s' ->
   wpAny (model prog w) A (keyLt' κ (vs.getD i Value.none) (vs.getD j Value.none)) C (λ_ _=>False) s')
  (h:∀p:Array Nat,PB vs.length p->eE key p vs.length->R (.done (.ret .none)) { s with heap:=sortedHeap s.heap a vs (p.toList.map λi=>vs.getD i Value.none).toArray }) :
  wpAny (model prog w) A (Builtin.«list.sort» ⟨[.ref a],[]⟩) R E s:=by
 rw [list_sort_plain]
 have ha:a<s.heap.objs.size:=Heap.lt_size ho
 refine wpAny_bind (listItems_at ho rfl ?_)
 refine wpAny_bind (listUpdate_at ho rfl ?_ (by rw [List.size_toArray,sizeLine_eq];omega) (Nat.zero_le _))
 obtain⟨e1,ho1⟩:∃e1,(s.heap.update a (Obj.mapSeq λ_=>(#[]:Array Value))).get? a=some (seqObj "list" #[] e1):=⟨_,get?_update_seq ho λ_=>#[]⟩
 refine wpAny_bind (seqEpoch_at ho1 rfl ?_)
 refine wpAny_bind (wpAny_newTuple ?_ (by show vs.length<=_;rw [sizeLine_eq];omega))
 refine wpAny_bind (wpAny_newList ?_ (Nat.zero_le _))
 refine wpAny_holding ?_
 have ho6:(((s.heap.update a (Obj.mapSeq λ_=>(#[]:Array Value))).push (seqObj "tuple" vs.toArray 0)).push (seqObj "list" #[] 0)).get? a=some (seqObj "list" #[] e1):=Heap.get?_push_of_some _ (Heap.get?_push_of_some _ ho1)
 have kp:∀b o,b≠a->s.heap.get? b=some o->(((s.heap.update a (Obj.mapSeq λ_=>(#[]:Array Value))).push (seqObj "tuple" vs.toArray 0)).push (seqObj "list" #[] 0)).get? b=some o:=λb o hb e =>
  Heap.get?_push_of_some _ (Heap.get?_push_of_some _ ((Heap.get?_update_other _ _ (Ne.symm hb)).trans e))
 show wpAny (model prog w) A _ R E { s with heap:=((s.heap.update a (Obj.mapSeq λ_=>(#[]:Array Value))).push (seqObj "tuple" vs.toArray 0)).push (seqObj "list" #[] 0) }
 dsimp only
 have hsz:vs.toArray.size=vs.length:=by simp
 by_cases h2:vs.toArray.size<2
 ·rw [if_pos h2,if_pos h2]
  refine wpAny_bind (wpAny_pure ?_)
  rw [StateT.run_pure]
  refine wpAny_bind (wpAny_pure ?_)
  dsimp only
  refine wpAny_bind (seqEpoch_at ho6 rfl ?_)
  refine wpAny_bind (listUpdate_at ho6 rfl ?_ (Nat.zero_le _) (by rw [Array.size_map];show(pairsOf vs).size<=_;rw [pairsOf_size,sizeLine_eq];omega))
  simp only [bne_self_eq_false,Bool.false_eq_true,if_false]
  have e:((arrOf (SortSt.mk' general' (vs.toArray.zip vs.toArray) #[] 7 none)).map (·.2))=((List.range vs.length).toArray.toList.map λi=>vs.getD i Value.none).toArray:=by
   have e2:(arrOf (SortSt.mk' general' (vs.toArray.zip vs.toArray) #[] 7 none))=vs.toArray.zip vs.toArray:=rfl
   rw [e2]
   apply Array.toList_inj.mp
   rw [gz]
   simp [List.map_snd_zip]
  refine wpAny_pure ?_
  have q:=h (List.range vs.length).toArray (Array.Perm.refl _) (λi j hij hj=>by
   have:i=j:=by omega
   subst this;exact KeyOrd.kle_refl _)
  rw [<- e]at q
  exact q
 ·rw [if_neg h2,if_neg h2]
  have h2':2<=vs.length:=by omega
  refine wpAny_bind (wpAny_mono (hk h2' _ (λκ s0=>KO κ/\s0={ s with heap:=((s.heap.update a (Obj.mapSeq λ_=>(#[]:Array Value))).push (seqObj "tuple" vs.toArray 0)).push (seqObj "list" #[] 0) }) kp λκ hκ=>⟨hκ,rfl⟩) (λκ s0 hκ=>?_) λ_ _ x=>x.elim)
  obtain⟨hκ,rfl⟩:=hκ
  refine wpAny_bind (wpAny_mono (kat_run (Q:=λst' s'=>∃p:Array Nat,p.size=vs.length/\arrOf st'=p.map (kas_item (vs.toArray.zip vs.toArray))/\failedOf st'=none/\PB vs.length p/\eE key p vs.length/\s'={ s with heap:=((s.heap.update a (Obj.mapSeq λ_=>(#[]:Array Value))).push (seqObj "tuple" vs.toArray 0)).push (seqObj "list" #[] 0) })
   (G:=λp s'=>PB vs.length p/\eE key p vs.length/\s'={ s with heap:=((s.heap.update a (Obj.mapSeq λ_=>(#[]:Array Value))).push (seqObj "tuple" vs.toArray 0)).push (seqObj "list" #[] 0) })
   rfl h2' h64 (λp' st' s' a1 a2 a3 a4=>⟨p',a1,a2,a3,a4⟩)
   (yN (key:=key) (λi j C hi hj q=>hc κ hκ _ i j C kp hi hj q) (by omega) λp hp hr=>⟨hp,hr,rfl⟩)) ?_ λ_ _ e=>e)
  rintro ⟨⟨⟩,st'⟩ s' ⟨p,hp,har,hf,hpb,hrs,rfl⟩
  dsimp only
  have hout:=kat_snds rfl har
  refine wpAny_bind (seqEpoch_at ho6 rfl ?_)
  refine wpAny_bind (listUpdate_at ho6 rfl ?_ (Nat.zero_le _) (by rw [hout];refine Nat.le_trans (Nat.le_of_eq ?_) (show vs.length<=_ by rw [sizeLine_eq];omega);simp [hp]))
  rw [hf,hout]
  simp only [bne_self_eq_false,Bool.false_eq_true,if_false]
  exact wpAny_pure (h p hpb hrs)
theorem jj{fin:Bool}{C:Bool->Shared->Prop}:∀{vs ws:List Value}{ns ms:List Int} (i:Nat),IntsAre vs ns->IntsAre ws ms->fin=decide (ns.length<ms.length)->C (HT.lexLt ns ms) s->KatLex prog w A true fin C (vs.zip ws) i s
 | _,_,_,_,i,.nil,.nil,hf,h=>by
  rw [List.zip_nil_left]
  refine kat_nil ?_
  rw [hf]
  exact h
 | _,_,_,_,i,.nil,.cons c u hw,hf,h=>by
  rw [List.zip_nil_left]
  refine kat_nil ?_
  rw [hf,decide_eq_true (by simp)]
  exact h
 | _,_,_,_,i,.cons a t hv,.nil,hf,h=>by
  rw [List.zip_nil_right]
  refine kat_nil ?_
  rw [hf,decide_eq_false (by simp)]
  exact h
 | _,_,_,_,i,.cons (ns:=ns) a t hv,.cons (ns:=ms) c u hw,hf,h=>by
  rw [List.zip_cons_cons]
  rw [HT.lexLt_cons]at h
  refine kat_cons (wpAny_eqBool_int ?_)
  by_cases e:a=c
  ·rw [if_pos e]at h
   have q:(a == c)=true:=by rw [e];exact beq_self_eq_true c
   rw [q]
   refine kat_yes (jj (i+1) hv hw ?_ h)
   rw [hf]
   simp
  ·rw [if_neg e]at h
   have q:(a == c)=false:=beq_eq_false_iff_ne.mpr e
   rw [q]
   refine kat_no ?_
   cases i with
   |zero=>exact oneLt_int h
   |succ i=>exact kat_one _ _ (lt_int h)
theorem wA{κ:SortKind}(hk:KOk κ){a b:Addr}{its its2:Array Value}{ns ms:List Int}{C:Bool->Shared->Prop}(ha:IsTup s.heap a its)(hb:IsTup s.heap b its2)(hi:IntsAre its.toList ns)(hj:IntsAre its2.toList ms)
  (hu:A.units<cLine) (h:C (HT.lexLt ns ms) s):wpAny (model prog w) A (keyLt' κ (.ref a) (.ref b)) C E s:=by
 rcases hk with rfl|rfl|rfl
 ·obtain⟨o,ho,_,n,hd⟩:=id ha
  obtain⟨o2,ho2,_,n2,hd2⟩:=id hb
  refine kat_lt ho hd ho2 hd2 (jj 0 hi hj ?_ h)
  have z1:its.size=ns.length:=by rw [<- hi.length];simp
  have z2:its2.size=ms.length:=by rw [<- hj.length];simp
  rw [z1,z2]
 ·show wpAny _ _ (oneLt' false (.ref a) (.ref b)) _ _ _
  exact kat_one _ _ (HT.lt_tupInts ha hb hi hj hu h)
 ·rw [keyLt'_oneType,oneLt'_eq]
  simp only [if_true]
  refine wpAny_bind (wpAny_cRoomFor hu ?_)
  obtain⟨⟨cls,dd,data,sl⟩,ho,hc,n,hd⟩:=id ha
  obtain⟨⟨cls2,dd2,data2,sl2⟩,ho2,hc2,n2,hd2⟩:=id hb
  simp only at hc hd hc2 hd2
  subst hc hd hc2 hd2
  refine wpAny_bind (wpAny_callSpecialIfBound?_slot (T:="tuple") ⟨_,ho,rfl⟩ PySem.F.slot_tuple_lt (call_meets PySem.F.slot_tuple_lt (T:="tuple") ⟨_,ho,rfl⟩ PySem.F.entry_tuple_lt (PySem.F.args_tuple_lt_2 _ _) (HT.tuple_lt_ints a b its its2 n n2 dd dd2 sl sl2 ns ms hi hj) ⟨ho,ho2,?_⟩))
  exact wpAny_truthy_bool h
theorem jk:∀(vs:List Value) {Q:List (Option Value)->Shared->Prop},(∀v∈vs,∃a its ns,v=.ref a/\IsTup s.heap a its/\IntsAre its.toList ns) ->
  (∀fs:List (Option Value),fs.length=vs.length->(∀f∈fs,∀v,f=some v->∃n t,v=Value.int n t)->Q fs s)->wpAny (model prog w) A (vs.mapM firstOfTuple') Q E s
 | [],Q,_,h=>by rw [List.mapM_nil];exact wpAny_pure (h [] rfl (by simp))
 | v::vs,Q,hv,h=>by
  obtain⟨a,its,ns,rfl,⟨o,ho,hc,n,hd⟩,hi⟩:=hv v (.head _)
  rw [List.mapM_cons]
  refine wpAny_bind ?_
  rw [kas_first_eq]
  refine wpAny_bind (Looks.here (show Looks (model prog w) s.heap (typeOf (.ref a)) o.cls from(Looks.ld ho).andThen .now) ?_)
  rw [hc,if_neg (by first|decide|simp)]
  refine wpAny_bind (listItems_at ho hd (wpAny_pure ?_))
  refine wpAny_bind (jk vs (Q:=λbs s'=>wpAny (model prog w) A (pure (its[0]?::bs)) Q E s') (λu hu=>hv u (.tail _ hu)) λfs hl hf=>?_)
  refine wpAny_pure (h _ (by simp [hl]) λf hm u e=>?_)
  rcases List.mem_cons.mp hm with z|z
  ·rw [z]at e
   have hmem:u∈its.toList:=by
    rw [<- Array.getElem?_toList]at e
    exact List.mem_of_getElem? e
   exact hi.all u hmem
  ·exact hf f z u e
theorem rn{vs:List Value}{Q:SortKind->Shared->Prop}(h2:2<=vs.length)(hv:∀v∈vs,∃a its ns,v=.ref a/\IsTup s.heap a its/\IntsAre its.toList ns)(h:∀κ,KOk κ->Q κ s) :
  wpAny (model prog w) A (keyKind' vs.toArray) Q E s:=by
 rw [kat_kind_eq,List.mapM_toArray,map_eq_pure_bind]
 refine wpAny_bind (wpAny_bind (jk vs hv λfs hl hf=>wpAny_pure ?_))
 by_cases hall:(fs.toArray.all λx=>x.isSome)=true
 ·rw [if_pos hall]
  refine wpAny_bind (wpAny_rule ?_)
  have hfm:(fs.toArray.filterMap id)=(fs.filterMap id).toArray:=by simp
  rw [hfm,oneTypeOnly'_eq,List.mapM_toArray,map_eq_pure_bind]
  have hints:∀v∈fs.filterMap id,∃n t,v=Value.int n t:=λv hm=>by
   obtain⟨f,hm',e⟩:=List.mem_filterMap.mp hm
   exact hf f hm' v e
  have hne:0<(fs.filterMap id).length:=by
   match fs,hl,hall with
   | [],hl,_=>simp at hl;omega
   |f::r,_,hall =>
    have:f.isSome=true:=by simp at hall;exact hall.1
    obtain⟨u,rfl⟩:=Option.isSome_iff_exists.mp this
    simp
  refine wpAny_bind (wpAny_bind (wpAny_bind (kas_mapM (r:=Value.type "int") _ (λv hm Q' hq=>?_) (wpAny_pure ?_))))
  ·obtain⟨n,t,rfl⟩:=hints v hm
   exact wpAny_pure hq
  ·have h0:(List.map (λ_=>Value.type "int") (fs.filterMap id)).toArray[0]?=some (Value.type "int"):=by
    simp [hne]
   rw [h0]
   have hall2:((List.map (λ_=>Value.type "int") (fs.filterMap id)).toArray.all λx=>x == Value.type "int")=true:=by
    simp only [List.all_toArray,List.all_map,List.all_eq_true]
    intro _ _
    rfl
   simp only [hall2,if_true]
   exact wpAny_pure (wpAny_pure (h _ (.inl rfl)))
 ·rw [if_neg hall]
  by_cases hf0:((fs.toArray[0]?).bind id).isSome=true
  ·rw [if_pos hf0]
   exact wpAny_pure (h _ (.inr (.inl rfl)))
  ·rw [if_neg hf0]
   rw [oneTypeOnly'_eq,List.mapM_toArray,map_eq_pure_bind]
   refine wpAny_bind (wpAny_bind (wpAny_bind (kas_mapM (r:=Value.type "tuple") _ (λv hm Q' hq=>?_) (wpAny_pure ?_))))
   ·obtain⟨a,its,ns,rfl,⟨o,ho,hc,n,hd⟩,hi⟩:=hv v hm
    have q:Looks (model prog w) s.heap (typeOf (.ref a)) o.cls:=(Looks.ld ho).andThen .now
    rw [hc]at q
    exact q.here hq
   ·have h0:(List.map (λ_=>Value.type "tuple") vs).toArray[0]?=some (Value.type "tuple"):=by
     have:0<vs.length:=by omega
     simp [this]
    rw [h0]
    have hall2:((List.map (λ_=>Value.type "tuple") vs).toArray.all λx=>x == Value.type "tuple")=true:=by
     simp only [List.all_toArray,List.all_map,List.all_eq_true]
     intro _ _
     rfl
    simp only [hall2,if_true]
    exact wpAny_pure (wpAny_pure (h _ (.inr (.inr rfl))))
end
end L2.Srt
namespace L2.St
open PySem PyProof.Rows
section
variable{P:Program}{w:World}{A:Around}{E:Value->Shared->Prop}{s:Shared}
theorem jD{items:Array Value}{ns:List Int}(hi:IntsAre items.toList ns):∀(i:Nat) (v:Value),items[i]?=some v->∃t,v=.int (ns.getD i 0) t :=
 λi v e=>IntsAre.int_at hi i v (by rw [Array.getElem?_toList];exact e)
theorem iZ{v:Value}{vs:Array Value}{it:Addr}{Q:Option Value->Shared->Prop}(hh:A.handled=none){R:Value->Shared->Prop}
  (hR:∀e s',(∀b o,s.heap.get? b=some o->s'.heap.get? b=some o)->(∃h',s'={ s with heap:=h' })->s'.TypeIs e "StopIteration"->R e s') {QQ:PySem.Fin->Shared->Prop} :
  wpAny (model P w) A (newExc (.type "StopIteration") [] >>= λe=>(raiseNew e:Sem PySem.Fin)) QQ R s:=by
 refine wpAny_bind ?_
 simp only [newExc,newTuple]
 refine wpAny_bind (wpAny_newObj_type ?_ (by size_fits))
 refine wpAny_bind (m:=firstArgMember _ _) (wpAny_of_eq (a:=Value.none) (by first|rfl|(simp only [firstArgMember];rfl)) ?_)
 refine wpAny_newObj_type ?_ (by size_fits)
 simp only [raiseNew]
 refine wpAny_bind (wpAny_handled ?_)
 rw [hh]
 refine wpAny_bind (wpAny_pure (wpAny_throw ?_))
 exact hR _ _ (λb o e=>Heap.get?_push_of_some _ (Heap.get?_push_of_some _ e)) ⟨_,rfl⟩ ⟨_,Heap.get?_push_size _ rfl,rfl⟩
theorem lv{order:List Int}{acc:Array Value}(h:ItemsOf (λi v=>∃t,v=Value.int (order.getD i 0) t) acc order.length):IntsAre acc.toList order:=by
 obtain⟨hz,hv⟩:=h
 have hl:acc.toList.length=order.length:=by simpa using hz
 have hv':∀j v,acc.toList[j]?=some v->∃t,v=Value.int (order.getD j 0) t:=λj v e=>hv j v (by rw [<- Array.getElem?_toList];exact e)
 clear hv hz
 generalize acc.toList=vs at hl hv'
 induction vs generalizing order with
 |nil =>
  have:order=[]:=List.length_eq_zero_iff.mp hl.symm
  rw [this];exact .nil
 | cons v r ih =>
  match order,hl,hv' with
  | [],hl,_=>simp at hl
  |k::ks,hl,hv' =>
   obtain⟨t,e⟩:=hv' 0 v rfl
   have e':v=Value.int k t:=e
   rw [e']
   exact .cons k t (ih (by simpa using hl) λj u q=>hv' (j+1) u (by simpa using q))
end
end L2.St
namespace L2.St
open PySem
noncomputable def lw(xs:Array Nat):Prop:=∀i j:Nat,i<j->j<xs.size->xs.getD i 0<xs.getD j 0
theorem tm{xs:Array Nat}{i:Nat}(h:i<xs.size)(d e:Nat):xs.getD i d=xs.getD i e:=by simp [Array.getD,h]
theorem j6{xs:Array Nat}{j:Nat}(hr:lw xs):∀(fuel lo hi:Nat),hi-lo<=fuel->lo<=hi->hi<=xs.size->(∀i,i<lo->xs.getD i 0<j)->(∀i,hi<=i->i<xs.size->j<=xs.getD i 0) ->
  (SetTable.below.go xs j fuel lo hi<=xs.size/\(∀i,i<SetTable.below.go xs j fuel lo hi->xs.getD i 0<j)/\∀i,SetTable.below.go xs j fuel lo hi<=i->i<xs.size->j<=xs.getD i 0)
 |0,lo,hi,hf,h1,h2,a,b=>by
  have e:SetTable.below.go xs j 0 lo hi=lo:=rfl
  rw [e]
  have:lo=hi:=by omega
  subst this
  exact⟨h2,a,b⟩
 | fuel + 1,lo,hi,hf,h1,h2,a,b=>by
  have e:SetTable.below.go xs j (fuel+1) lo hi=if lo<hi then (if xs.getD ((lo+hi) / 2) j<j then SetTable.below.go xs j fuel ((lo+hi) / 2+1) hi else SetTable.below.go xs j fuel lo ((lo+hi) / 2)) else lo:=rfl
  rw [e]
  by_cases hl:lo<hi
  ·rw [if_pos hl]
   have hm:(lo+hi) / 2<xs.size:=by omega
   rw [tm hm j 0]
   by_cases hq:xs.getD ((lo+hi) / 2) 0<j
   ·rw [if_pos hq]
    refine j6 hr fuel _ hi (by omega) (by omega) h2 (λi hi'=>?_) b
    by_cases z:i=(lo+hi) / 2
    ·rw [z];exact hq
    ·exact Nat.lt_trans (hr i ((lo+hi) / 2) (by omega) hm) hq
   ·rw [if_neg hq]
    refine j6 hr fuel lo _ (by omega) (by omega) (by omega) a λi hi' hz=>?_
    by_cases z:i=(lo+hi) / 2
    ·rw [z];omega
    ·have:=hr ((lo+hi) / 2) i (by omega) hz;omega
  ·rw [if_neg hl]
   have:lo=hi:=by omega
   subst this
   exact⟨h2,a,b⟩
theorem gT{xs:Array Nat}(hr:lw xs)(j:Nat):SetTable.below xs j<=xs.size/\(∀i,i<SetTable.below xs j->xs.getD i 0<j)/\∀i,SetTable.below xs j<=i->i<xs.size->j<=xs.getD i 0 :=
 j6 hr xs.size 0 xs.size (by omega) (by omega) (Nat.le_refl _) (λi h=>by omega) λi h1 h2=>by omega
theorem lx{α:Type}(xs:Array α)(p:Nat)(x:α)(hp:p<=xs.size):(SetTable.insertAt xs p x).size=xs.size+1:=by
 unfold SetTable.insertAt;simp;omega
theorem ik{α:Type}(xs:Array α)(p:Nat)(x:α)(hp:p<=xs.size)(i:Nat):(SetTable.insertAt xs p x)[i]?=if i<p then xs[i]? else if i=p then some x else xs[i-1]?:=by
 unfold SetTable.insertAt
 have hz:((xs.extract 0 p).push x).size=p+1:=by simp;omega
 by_cases h1:i<p
 ·rw [if_pos h1,Array.getElem?_append_left (by omega)]
  rw [Array.getElem?_push,if_neg (by simp;omega),Array.getElem?_extract,if_pos (by omega),Nat.zero_add]
 ·rw [if_neg h1]
  by_cases h2:i=p
  ·subst h2
   rw [if_pos rfl,Array.getElem?_append_left (by omega)]
   rw [Array.getElem?_push,if_pos (by simp;omega)]
  ·rw [if_neg h2,Array.getElem?_append_right (by omega),hz]
   simp only [Array.getElem?_extract]
   by_cases h3:i-(p+1)<xs.size-p
   ·rw [if_pos (by simpa using h3)];congr 1;omega
   ·rw [if_neg (by simpa using h3)];exact(Array.getElem?_eq_none (by omega)).symm
theorem dj{xs:Array Nat}{i:Nat}:xs.getD i 0=(xs[i]?).getD 0:=Array.getD_eq_getD_getElem?
theorem nY{xs:Array Nat}(hr:lw xs){j:Nat}(hn:xs[SetTable.below xs j]?≠some j):lw (SetTable.insertAt xs (SetTable.below xs j) j):=by
 obtain⟨hp,ha,hb⟩:=gT hr j
 have hb':∀i,SetTable.below xs j<=i->i<xs.size->j<xs.getD i 0:=λi h1 h2=>by
  have q:=hb i h1 h2
  by_cases z:i=SetTable.below xs j
  ·subst z
   have e:xs[SetTable.below xs j]?=some (xs.getD (SetTable.below xs j) 0):=by rw [Array.getElem?_eq_getElem h2];simp [Array.getD,h2]
   have:xs.getD (SetTable.below xs j) 0≠j:=λz=>hn (by rw [e,z])
   omega
  ·have q':=hb _ (Nat.le_refl _) (by omega:SetTable.below xs j<xs.size)
   have:=hr _ i (by omega:SetTable.below xs j<i) h2
   omega
 intro i k hik hk
 rw [lx _ _ _ hp]at hk
 rw [dj,dj,ik _ _ _ hp,ik _ _ _ hp]
 by_cases h1:k<SetTable.below xs j
 ·rw [if_pos h1,if_pos (by omega),<- dj,<- dj]
  exact hr i k hik (by omega)
 ·rw [if_neg h1]
  by_cases h2:k=SetTable.below xs j
  ·rw [if_pos h2,if_pos (by omega),<- dj]
   exact ha i (by omega)
  ·rw [if_neg h2]
   by_cases h3:i<SetTable.below xs j
   ·rw [if_pos h3,<- dj,<- dj]
    exact hr i (k-1) (by omega) (by omega)
   ·rw [if_neg h3]
    by_cases h4:i=SetTable.below xs j
    ·rw [if_pos h4,<- dj]
     exact hb' (k-1) (by omega) (by omega)
    ·rw [if_neg h4,<- dj,<- dj]
     exact hr (i-1) (k-1) (by omega) (by omega)
theorem pq(n:Nat):lw (Array.range n):=λi j h1 h2=>by
 rw [Array.size_range]at h2
 simp [Array.getD,h2,Nat.lt_trans h1 h2];exact h1
theorem tq:lw #[]:=λi j _ h=>by simp at h
structure Gd(L:Bool)(t:SetTable):Prop where
 led:t.led=L
 dum:t.dummies=#[]
 rise:lw t.place
theorem Gd.fresh(L:Bool):Gd L (.fresh 0 0 L):=⟨rfl,rfl,tq⟩
theorem Gd.standIn{L:Bool}{t:SetTable}(h:Gd L t)(n:Nat):Gd L (t.standIn n):=⟨h.led,rfl,pq n⟩
theorem Gd.orStandIn{L:Bool}{t:SetTable}(h:Gd L t)(n:Nat):Gd L (t.orStandIn n):=by
 unfold SetTable.orStandIn;split
 ·exact h
 ·exact h.standIn n
theorem Gd.unplain{L:Bool}{t:SetTable}(h:Gd L t):Gd L { t with plain:=false }:=⟨h.led,h.dum,h.rise⟩
theorem mX{t:SetTable}(hd:t.dummies=#[])(j:Nat):t.slot j≠.dummy:=by
 unfold SetTable.slot SetTable.has
 rw [hd]
 dsimp only
 split
 ·simp
 ·simp
theorem pw{t:SetTable}{j:Nat}(h:t.slot j=.empty):t.place[SetTable.below t.place j]?≠some j:=by
 intro e
 unfold SetTable.slot at h
 dsimp only at h
 rw [if_pos (by rw [e];simp)]at h
 cases h
theorem nZ{t:SetTable}(hd:t.dummies=#[]){ha:Nat->Int}{h:Int}:∀(fuel:Nat) (p:SetTable.Probe),p.dummy=none->∀j d,SetTable.probe.go t ha h fuel p=some (.empty j d)->d=none/\t.slot j=.empty
 |0,p,hp,j,d,e=>by
  have:SetTable.probe.go t ha h 0 p=none:=rfl
  rw [this]at e;cases e
 | fuel + 1,p,hp,j,d,e=>by
  have step:SetTable.probe.go t ha h (fuel+1) p=(match t.slot p.j with
   | .empty=>some (.empty p.j p.dummy)
   | .dummy=>SetTable.probe.go t ha h fuel (t.advance { p with dummy:=some p.j })
   | .live i=>if ha i == h then some (.candidate p.j i (t.advance p)) else SetTable.probe.go t ha h fuel (t.advance p)):=rfl
  rw [step]at e
  have adv:(t.advance p).dummy=none:=by unfold SetTable.advance;split<;>simp [hp]
  cases hs:t.slot p.j with
  |empty =>
   rw [hs]at e
   dsimp only at e
   cases e
   exact⟨hp,hs⟩
  |dummy=>exact absurd hs (mX hd _)
  |live i =>
   rw [hs]at e
   dsimp only at e
   split at e
   ·cases e
   ·exact nZ hd fuel _ adv j d e
theorem rp{t:SetTable}(hd:t.dummies=#[]){h:Int}{j:Nat}{b:Bool}(e:t.freeSlot h=some (j,b)):t.slot j=.empty:=by
 unfold SetTable.freeSlot at e
 split at e
 ·rename_i j' d he
  obtain⟨rfl,hs⟩:=nZ hd _ _ rfl j' d he
  have:j'=j:=by
   have:=Option.some.inj e
   exact(Prod.mk.inj this).1
  exact this ▸ hs
 ·cases e
theorem Gd.put{L:Bool}{t:SetTable}(h:Gd L t){j:Nat}(hs:t.slot j=.empty):Gd L (t.put j).1:=by
 refine⟨h.led,?_,nY h.rise (pw hs)⟩
 show(if SetTable.has t.dummies j then _ else t.dummies)=#[]
 rw [if_neg (by unfold SetTable.has;rw [h.dum];simp)]
 exact h.dum
theorem Gd.layNew{L:Bool}{t:SetTable}(g:Gd L t)(es:Array (Int×Value))(h:Int)(x:Value):Gd L (layNew t es h x).2.1:=by
 unfold PySem.layNew
 cases e:t.freeSlot h with
 |none=>exact g.standIn _
 |some q =>
  obtain⟨j,b⟩:=q
  exact(g.put (rp g.dum e)).orStandIn _
theorem tu(f:Nat->Option Nat)(n:Nat):lw ((((List.range n).filterMap λj=>(f j).map λi=>(j,i)).map λq:Nat×Nat=>q.1).toArray):=by
 have e:((List.range n).filterMap λj=>(f j).map λi=>(j,i)).map (λq:Nat×Nat=>q.1)=(List.range n).filter λj=>(f j).isSome:=by
  generalize List.range n=l
  induction l with
  |nil=>rfl
  |cons a l ih =>
   cases h:f a<;>simp [List.filterMap_cons,List.filter_cons,h,ih]
 rw [e]
 have hp:((List.range n).filter λj=>(f j).isSome).Pairwise (· < ·):=List.Pairwise.filter _ List.pairwise_lt_range
 intro i j hij hj
 have hj':j<((List.range n).filter λj=>(f j).isSome).length:=by simpa using hj
 have hi':i<((List.range n).filter λj=>(f j).isSome).length:=Nat.lt_trans hij hj'
 have:=List.pairwise_iff_getElem.mp hp i j hi' hj' hij
 simpa [Array.getD,hj',hi'] using this
theorem Gd.relaid{L:Bool}{t t':SetTable}(g:Gd L t){hs:Array Int}{n:Nat}{o:Array Nat}(e:t.relaid hs n=some (t',o)):Gd L t':=by
 unfold SetTable.relaid SetTable.laid at e
 cases h:SetTable.layClean (SetTable.sizeAbove n-1) hs with
 |none=>rw [h]at e;cases e
 |some ow =>
  rw [h]at e
  cases e
  exact⟨g.led,rfl,tu (λj=>ow.getD j none) _⟩
theorem Gd.relayAll{L:Bool}{t:SetTable}(g:Gd L t)(es:Array (Int×Value))(n:Nat):Gd L (relayAll t es n).2.1:=by
 unfold PySem.relayAll
 cases e:t.relaid (es.map (·.1)) n with
 |none=>exact g.standIn _
 |some q =>
  obtain⟨t',o⟩:=q
  dsimp only
  split
  ·exact g.relaid e
  ·exact g.standIn _
end L2.St
namespace L2.St
open PySem PyProof.Rows
noncomputable def byT (w:World):Bool:=w.params.followText "set-order"
structure Arr(P:Program)(w:World)(ks:List Int)(es:Array (Int×Value))(t:SetTable):Prop where
 el:ElemsOf (intKind P w) es.toList
 pm:(es.toList.map λe=>numOf e.2).Perm ks
 nd:ks.Nodup
 bd:es.size<scanBound
 fi:t.fits es.size=true
 gd:Gd (!byT w) t
noncomputable def bQ(P:Program)(w:World)(h:Heap)(a:Addr)(ks:List Int):Prop :=
 ∃o es ep t,h.get? a=some o/\o.ExactSet/\o.data=.set es ep t/\ElemsOf (intKind P w) es.toList/\(es.toList.map λe=>numOf e.2).Perm ks/\ks.Nodup/\es.size<scanBound/\t.fits es.size=true/\Gd (!byT w) t
section
variable{P:Program}{w:World}{h h':Heap}{a:Addr}{ks ks':List Int}{o:Obj}{es:Array (Int×Value)}{ep:Nat}{t:SetTable}
theorem bQ.arr(g:bQ P w h a ks):∃o es ep t,(h.get? a=some o/\o.ExactSet/\o.data=.set es ep t)/\Arr P w ks es t:=by
 obtain⟨o,es,ep,t,ho,hex,hd,c1,c2,c3,c4,c5,c6⟩:=g
 exact⟨o,es,ep,t,⟨ho,hex,hd⟩,⟨c1,c2,c3,c4,c5,c6⟩⟩
theorem Arr.set(r:Arr P w ks es t)(ho:h.get? a=some o)(hex:o.ExactSet)(hd:o.data=.set es ep t):bQ P w h a ks :=
 ⟨o,es,ep,t,ho,hex,hd,r.el,r.pm,r.nd,r.bd,r.fi,r.gd⟩
theorem Arr.len(r:Arr P w ks es t):es.size=ks.length:=by simpa using r.pm.length_eq
theorem Arr.bare(r:Arr P w ks es t)(b:Bool):Arr P w ks es (if b=true then t else { t with plain:=false }):=by
 cases b
 ·exact⟨r.el,r.pm,r.nd,r.bd,SetTable.fits_plain_off r.fi,r.gd.unplain⟩
 ·exact r
theorem Arr.lay(r:Arr P w ks es t){k:Int}(tk:Tok)(hk:k∉ks)(hb:ks.length+1<scanBound):Arr P w (k::ks) (layNew t es (hashInt k) (.int k tk)).1 (layNew t es (hashInt k) (.int k tk)).2.1:=by
 have p:(layNew t es (hashInt k) (.int k tk)).1.toList.Perm (es.toList ++ [(hashInt k,.int k tk)]):=by simpa using layNew_perm t es (hashInt k) (.int k tk)
 have z:=p.length_eq
 have l:=r.len
 constructor
 ·exact ElemsOf.perm (r.el.push (k:=k) (x:=.int k tk) (intKind_is _ _ _ _) rfl) p
 ·have q:((es.toList ++ [(hashInt k,Value.int k tk)]).map λe=>numOf e.2).Perm (k::ks):=by
   rw [List.map_append]
   exact List.perm_append_comm.trans (r.pm.cons k)
  exact(p.map _).trans q
 ·exact List.nodup_cons.mpr ⟨hk,r.nd⟩
 ·simp at z;omega
 ·exact layNew_fits _ _ _ _
 ·exact r.gd.layNew _ _ _
theorem Arr.relay(r:Arr P w ks es t)(n:Nat):Arr P w ks (relayAll t es n).1 (relayAll t es n).2.1:=by
 have p:=relayAll_perm t es n
 have z:=p.length_eq
 have b:=r.bd
 exact⟨r.el.perm p,(p.map _).trans r.pm,r.nd,by simp at z;omega,relayAll_fits t es n,r.gd.relayAll es n⟩
theorem bQ.at(g:bQ P w h a ks)(k:∀o,h.get? a=some o->h'.get? a=some o):bQ P w h' a ks:=by
 obtain⟨o,es,ep,t,⟨ho,hex,hd⟩,r⟩:=g.arr
 exact r.set (k o ho) hex hd
end
theorem dS{P:Program}{w:World}{es:List (Int×Value)}(h:ElemsOf (intKind P w) es):∀e∈es,∃t,e.2=.int (numOf e.2) t:=λe he=>by
 obtain⟨⟨k,hk,_⟩,_⟩:=h e he
 obtain⟨t,q⟩:=Value.isInt_shape (show Value.isInt k e.2=true from hk)
 exact⟨t,by rw [q];rfl⟩
theorem gU{P:Program}{w:World}{es:List (Int×Value)}(h:ElemsOf (intKind P w) es){e:Int×Value}(he:e∈es)(k:Int):(intKind P w).is k e.2=true ↔ numOf e.2=k:=by
 obtain⟨t,q⟩:=dS h e he
 constructor
 ·intro z
  obtain⟨t',q'⟩:=Value.isInt_shape (show Value.isInt k e.2=true from z)
  rw [q'];rfl
 ·intro z
  rw [q,z]
  exact intKind_is _ _ _ _
section
variable{P:Program}{w:World}{A:Around}{E:Value->Shared->Prop}{s:Shared}
noncomputable def Now(P:Program)(w:World)(a:Addr)(s:Shared)(ks:List Int)(s':Shared):Prop :=
 ∃h',s'={ s with heap:=h' }/\Heap.SameBut a s.heap h'/\bQ P w h' a ks
theorem Now.stay{a:Addr}{ks:List Int}(g:bQ P w s.heap a ks):Now P w a s ks s:=⟨s.heap,rfl,Heap.SameBut.refl a s.heap,g⟩
theorem qe{h:Heap}{a:Addr}{o:Obj}{es:Array (Int×Value)}{ep:Nat}{t:SetTable}(ho:h.get? a=some o)(hex:o.ExactSet)(hd:o.data=.set es ep t)
  {es':Array (Int×Value)}{t':SetTable}{ks:List Int} (r:Arr P w ks es' t'):bQ P w (h.update a (Obj.putSet es' t')) a ks:=by
 refine r.set (o:={ o with data:=.set es' (ep+1) t' }) (ep:=ep+1) ?_ hex rfl
 have e:Obj.putSet es' t' o={ o with data:=.set es' (ep+1) t' }:=putSet_of es' t' hd
 rw [<- e]
 exact Heap.get?_update_self _ ho (by rw [e];rfl)
theorem Now.put{a:Addr}{ks ks':List Int}{s':Shared}(n:Now P w a s ks s'){es:Array (Int×Value)}{t:SetTable}(r:Arr P w ks' es t){Q:Unit->Shared->Prop}(h:∀s'',Now P w a s ks' s''->Q () s'') :
  wpAny (model P w) A (storeSet a es t) Q E s':=by
 obtain⟨h',rfl,sb,g⟩:=n
 obtain⟨o,_,_,_,⟨ho,hex,hd⟩,_⟩:=g.arr
 exact wpAny_storeSet_of ho hd (h _ ⟨_,rfl,sb.trans (Heap.SameBut.update h' a _),qe ho hex hd r⟩) (fits_of_scanBound r.bd)
theorem Bh{m:Sem Unit}{s':Shared}{Q:Unit->Shared->Prop}(hm:m=pure ()\/∃n,m=rule n)(h:Q () s'):wpAny (model P w) A m Q E s':=by
 rcases hm with rfl|⟨n,rfl⟩
 ·exact wpAny_pure h
 ·exact wpAny_rule h
theorem Bi(k:Int)(tk:Tok)(c:Bool){s':Shared}{f:Bool->Sem (Option Bool)}{Q:Option Bool->Shared->Prop}(h:∀b,wpAny (model P w) A (f b) Q E s') :
  wpAny (model P w) A (if c=true then hashByValue 8 (.int k tk) >>= f else (pure true:Sem Bool) >>= f) Q E s':=by
 cases c
 ·exact wpAny_bind (wpAny_pure (h true))
 ·rw [if_pos rfl,hashByValue_scannable 8 (show(Value.int k tk).scannable=true from rfl)]
  exact wpAny_bind (wpAny_pure (h _))
theorem lS{a:Addr}{ks:List Int}{k:Int}{tk:Tok}{Q:Bool->Shared->Prop}(hS:bQ P w s.heap a ks)(hroom:ks.length+1<scanBound)
  (h:∀h' b,Heap.SameBut a s.heap h'->bQ P w h' a (if k∈ks then ks else k::ks)->Q b { s with heap:=h' }) :
  wpAny (model P w) A (setAddHashed a (.int k tk) (hashInt k)) Q E s:=by
 have fin:∀b s',Now P w a s (if k∈ks then ks else k::ks) s'->Q b s':=by
  rintro b _ ⟨h',rfl,sb,g⟩
  exact h h' b sb g
 have now:=Now.stay hS
 obtain⟨o,es,ep,t,⟨ho,hex,hd⟩,r⟩:=hS.arr
 have here:k∈ks ↔ ((es.toList.findIdx? λe=>(intKind P w).is k e.2).isSome=true):=by
  rw [List.findIdx?_isSome,List.any_eq_true,<- r.pm.mem_iff,List.mem_map]
  exact⟨λ⟨e,he,q⟩=>⟨e,he,(gU r.el he k).mpr q⟩,λ⟨e,he,q⟩=>⟨e,he,(gU r.el he k).mp q⟩⟩
 unfold setAddHashed setAddHashedIn
 refine wpAny_holding (wpAny_bind (wpAny_setState_of ho hd r.fi ?_))
 dsimp only
 rw [byScan_of (x:=.int k tk) rfl r.bd r.el,if_pos rfl]
 refine wpAny_bind ?_
 unfold setAddByScan
 refine wpAny_bind (wpAny_rule (wpAny_bind (wpAny_setScan_of (knd:=intKind P w) (intKind_is _ _ _ _) ho hd r.fi r.el ?_)))
 rcases hf:es.toList.findIdx? λe=>(intKind P w).is k e.2 with _|j
 ·rw [hf]
  have hk:k∉ks:=λz=>by rw [here,hf]at z;exact Bool.noConfusion z
  rw [if_neg hk]at fin
  have r1:=r.lay tk hk hroom
  rcases hl:layNew t es (hashInt k) (.int k tk) with ⟨es1,t1,dm,gv⟩
  rw [hl]at r1
  dsimp only at r1 ⊢
  refine wpAny_bind (Bh ?_ ?_)
  ·cases gv
   ·exact .inl rfl
   ·exact .inr ⟨_,rfl⟩
  refine Bi k tk _ λb=>?_
  have r2:=r1.bare b
  generalize (if b=true then t1 else _)=t2 at r2 ⊢
  refine wpAny_bind (now.put r2 λs2 n2=>?_)
  refine wpAny_ite_split (λ_=>?_) (λ_=>wpAny_pure (wpAny_pure (fin _ _ n2)))
  have r3:=r2.relay (SetTable.grown es1.size)
  rcases hm:relayAll t2 es1 (SetTable.grown es1.size) with ⟨es3,t3,gv3⟩
  rw [hm]at r3
  dsimp only at r3 ⊢
  refine wpAny_bind (Bh ?_ ?_)
  ·cases gv3
   ·exact .inl rfl
   ·exact .inr ⟨_,rfl⟩
  exact wpAny_bind (n2.put r3 λs3 n3=>wpAny_pure (wpAny_pure (fin _ _ n3)))
 ·rw [hf]
  have hk:k∈ks:=here.mpr (by rw [hf];rfl)
  rw [if_pos hk]at fin
  exact wpAny_pure (wpAny_pure (fin _ _ now))
end
noncomputable def dd:List Int->List Int
 | []=>[]
 |k::r=>if k∈dd r then dd r else k::dd r
theorem eO{k:Int}:∀{l:List Int},k∈dd l ↔ k∈l
 | []=>Iff.rfl
 | x::r=>by
  show k∈(if x∈dd r then dd r else x::dd r) ↔ _
  have ih:=@eO k r
  by_cases h:x∈dd r
  ·rw [if_pos h,ih,List.mem_cons]
   exact⟨.inr,λz=>z.elim (λe=>by rw [e];exact eO.mp h) id⟩
  ·rw [if_neg h,List.mem_cons,List.mem_cons,ih]
theorem dd_nodup:∀l:List Int,(dd l).Nodup
 | []=>List.nodup_nil
 |x::r=>by
  show(if x∈dd r then dd r else x::dd r).Nodup
  by_cases h:x∈dd r
  ·rw [if_pos h];exact dd_nodup r
  ·rw [if_neg h];exact List.nodup_cons.mpr ⟨h,dd_nodup r⟩
theorem tz:∀l:List Int,(dd l).length<=l.length
 | []=>Nat.le_refl _
 |x::r=>by
  show(if x∈dd r then dd r else x::dd r).length<=_
  have:=tz r
  by_cases h:x∈dd r
  ·rw [if_pos h,List.length_cons];omega
  ·rw [if_neg h,List.length_cons,List.length_cons];omega
theorem wB(xs:List Int):(List.range xs.length).map (λi=>xs.getD i 0)=xs:=by
 apply List.ext_getElem?
 intro i
 rw [List.getElem?_map]
 by_cases q:i<xs.length
 ·simp [List.getElem?_range,q]
 ·simp [List.getElem?_range,q]
noncomputable def But(ws:List Addr)(s s':Shared):Prop :=
 ∃h' tk,s'={ s with heap:=h',toks:=tk }/\∀b o,b∉ws->s.heap.get? b=some o->h'.get? b=some o
theorem But.on{ws vs:List Addr}{s s' s'':Shared}(x:But ws s s')(y:But vs s' s'')(hs:∀b∈ws,b∈vs):But vs s s'':=by
 obtain⟨h1,t1,rfl,k1⟩:=x
 obtain⟨h2,t2,rfl,k2⟩:=y
 exact⟨h2,t2,rfl,λb o hb e=>k2 b o hb (k1 b o (λz=>hb (hs b z)) e)⟩
section
variable{P:Program}{w:World}{A:Around}{R:Result->Shared->Prop}{I S:Addr}{fp wr:List Addr}{n:Nat}{Pv:Nat->Value->Prop}{St:Nat->Heap->Prop}
noncomputable abbrev upd (S I:Addr):Code:=.builtin "set.update.loop" ⟨[.ref S,.ref I],[]⟩
theorem n4{s:Shared} (h:wpAny (model P w) A.in1 (pyNext (.ref I)) (λv s'=>match v with
   |none=>R (.ok (.ret .none)) s'
   |some x=>wpAny (model P w) A.in1 (setAdd S x) (λ_ s''=>codeAny (model P w) A (upd S I) R s'') (λe s''=>R (.error e) s'') s') (λe s'=>R (.error e) s') s) :
  codeAny (model P w) A (upd S I) R s:=by
 have pl:=PyProof.Rows.F.plain_set_update_loop
 apply codeAny_builtin PyProof.Rows.F.entry_set_update_loop
 rw [Around.under_plainId pl]
 apply wpAny_bind (m:=pyNext (.ref I))
 refine wpAny_mono h (λv s' hv=>?_) λ_ _ x=>x
 cases v with
 |none=>exact wpAny_pure hv
 |some x =>
  refine wpAny_bind (wpAny_holding (wpAny_mono hv (λ_ s'' hc=>?_) λ_ _ x=>x))
  exact wpAny_pure ⟨plainId_quiet pl _,hc⟩
theorem add_int{s:Shared}{E:Value->Shared->Prop}{B:Around}{ks:List Int}{k:Int}{t:Tok}(g:bQ P w s.heap S ks)(room:ks.length+1<scanBound){Q:Bool->Shared->Prop}
  (h:∀b s',But [S] s s'->bQ P w s'.heap S (if k∈ks then ks else k::ks)->(∀b,b≠S->s'.heap.get? b=s.heap.get? b)->Q b s'):wpAny (model P w) B (setAdd S (.int k t)) Q E s:=by
 unfold setAdd
 refine wpAny_holding (wpAny_bind ((intKind P w).pyHash (k:=k) (intKind_is _ _ _ _) ?_))
 refine lS (s:={ s with toks:=s.toks+1 }) g room λh' b sb g'=>h b _ ⟨h',_,rfl,λc o hc e=>?_⟩ g' λc hc=>?_
 ·rw [sb.2 c (by simpa using hc)];exact e
 ·exact sb.2 c hc
theorem qf(W:Walks P w A.in1 I fp wr n Pv St)(hS:S∉fp)(xs:List Int)(hn:xs.length=n)(hv:∀i v,Pv i v->∃t,v=.int (xs.getD i 0) t)(hb:n+1<scanBound) :
  ∀(m i:Nat) (s:Shared),i+m=n->St i s.heap->bQ P w s.heap S (dd (xs.take i).reverse)->(∀s',But (S::wr) s s'->bQ P w s'.heap S (dd xs.reverse)->R (.ok (.ret .none)) s') ->
   codeAny (model P w) A (upd S I) R s
 |0,i,s,e,st,g,h=>by
  have hi:i=n:=e
  subst hi
  refine n4 (W.done s _ _ st λh' tk kp=>h _ ⟨h',tk,rfl,λb o hb'=>kp b o λz=>hb' (.tail _ z)⟩ ?_)
  rw [List.take_of_length_le (by omega)]at g
  exact g.at λo=>kp S o λz=>hS (W.sub S z)
 | m + 1,i,s,e,st,g,h=>by
  have hi:i<n:=by omega
  refine n4 (W.item i s _ _ hi st λv h1 tk1 pv st1 kp=>?_)
  obtain⟨t,rfl⟩:=hv i v pv
  have b1:But wr s { s with heap:=h1,toks:=tk1 }:=⟨h1,tk1,rfl,kp⟩
  have l:(dd (xs.take i).reverse).length+1<scanBound:=by
   have:=tz (xs.take i).reverse
   simp at this;omega
  refine add_int (g.at λo=>kp S o λz=>hS (W.sub S z)) l λ_ s2 b2 g2 st2=>?_
  refine qf W hS xs hn hv hb m (i+1) s2 (by omega) (W.frame _ h1 _ st1 λb hb' o e'=>?_) ?_ λs3 b3 g3=>h s3 ?_ g3
  ·rw [st2 b λz=>hS (z ▸ hb')];exact e'
  ·have:xs.take (i+1)=xs.take i ++ [xs.getD i 0]:=by
    rw [List.take_succ,List.getD_eq_getElem?_getD,List.getElem?_eq_getElem (by omega)];rfl
   rw [this,List.reverse_append]
   exact g2
  ·exact(b1.on (b2.on b3 (by simp)) λb z=>.tail _ z)
end
end L2.St
namespace L2.St
open PySem PyProof.Rows
section
variable{P:Program}{w:World}{A:Around}{E:Value->Shared->Prop}{s:Shared}
theorem cO{Q:Bool->Shared->Prop}(h:Q (byT w) s):wpAny (model P w) A setsByText Q E s:=by
 unfold setsByText
 exact wpAny_bind (wpAny_askSetting (wpAny_pure h))
noncomputable abbrev bc (w:World):Obj:={ cls:=.type "set",dict:=none,data:=.set #[] 0 (.fresh 0 0 (!byT w)) }
noncomputable abbrev aS(w:World)(s:Shared):Shared:={ s with heap:=s.heap.push (bc w) }
theorem mY {Q:Value->Shared->Prop} (h:Q (.ref s.heap.objs.size) (aS w s)):wpAny (model P w) A (newSet (.type "set")) Q E s:=by
 unfold newSet
 refine wpAny_bind (cO ?_)
 dsimp only
 simp only [newObj]
 exact wpAny_bind (wpAny_alloc (wpAny_pure h))
theorem n5(h:Heap):bQ P w (h.push (bc w)) h.objs.size [] :=
 Arr.set (es:=#[]) (ep:=0) ⟨λe he=>by simp at he,by simp,List.nodup_nil,by decide,rfl,Gd.fresh _⟩ (Heap.get?_push_size _ rfl) ⟨rfl,rfl,rfl⟩ rfl
theorem wC (x:Value) {Q:Value->Shared->Prop} (h:Q (.ref s.heap.objs.size) (aS w s)):codeAny (model P w) A (.call (.builtin "set.__new__") ⟨[.type "set",x],[]⟩) (wants Q E) s:=by
 refine codeAny_call_builtin PySem.F.plain_set_new PySem.F.entry_set_new (wpAny_of_eq (PySem.F.newCall_set_1 x) ?_)
 have cls:∀{R:Value×List Value->Shared->Prop}{F:Value->Shared->Prop},R (.type "set",[x]) s->wpAny (model P w) A.in1 (Builtin.Frozenset.newClass "set" ⟨[.type "set",x],[]⟩) R F s:=by
  intro R F hr
  have hsub:=sub_set_self
  unfold Builtin.Frozenset.newClass
  obtain⟨hp,g,d,tk,os⟩:=s
  wp_walk
  exact hr
 unfold Builtin.«set.__new__»
 exact wpAny_bind (cls (wpAny_bind (mY (wpAny_pure h))))
theorem tD(x:Value){Q:Value->Shared->Prop}
  (hU:∀B:Around,B.handled=A.handled->wpAny (model P w) B (Builtin.Frozenset.updateFrom "set.__init__" s.heap.objs.size x) (λ_ s'=>Q (.ref s.heap.objs.size) s') E (aS w s)) :
  wpAny (model P w) A (call (.type "set") [x]) Q E s:=by
 have at0:(aS w s).heap.get? s.heap.objs.size=some (bc w):=Heap.get?_push_size _ rfl
 have init:codeAny (model P w) A.in1 (.call (.builtin "set.__init__") ⟨[.ref s.heap.objs.size,x],[]⟩) (wants (λr s'=>r=.none/\Q (.ref s.heap.objs.size) s') E) (aS w s):=by
  refine codeAny_call_builtin PySem.F.called_set.init.plain PySem.F.entry_set_init (check_set_init_1 ⟨_,at0,rfl⟩ ?_)
  have hu:=hU A.in1.in1 (by simp)
  generalize hw:aS w s=s1 at at0 hu ⊢
  generalize s.heap.objs.size=S at at0 hu ⊢
  obtain⟨hp,g,d,tk,os⟩:=s1
  unfold Builtin.«set.__init__» noKeywords
  generalize Builtin.Frozenset.updateFrom=U at hu ⊢
  wp_walk
  exact wpAny_mono hu (λ_ s' hq=>wpAny_pure ⟨rfl,hq⟩) λ_ _ z=>z
 have ft:=PySem.F.called_set
 refine wpAny_call (codeAny_of_tree (wpAny_pure ⟨Code.quiet_builtin _ (by decide +kernel),codeAny_builtin PySem.F.entry_type_call ?_⟩))
 rw [Around.under_plain (weight_type_call_type "set" [x] []) rfl]
 have f1:=ft.notType;have f2:=ft.canCreate;have f3:=ft.made;have f4:=ft.sub
 have f5:=PySem.F.typeCall_set_1 x
 obtain⟨c,tl,f6⟩:=ft.mro
 repeat (any_goals (first|assumption|wp_step))
 refine codeAny_mono (wC x (E:=E) (Q:=λv s'=>v=.ref s.heap.objs.size/\s'=aS w s) ⟨rfl,rfl⟩) λr s1 hr=>?_
 match r,hr with
 | .error e,hr=>exact hr
 | .ok (.ret v),hr =>
  obtain⟨rfl,rfl⟩:=hr
  have f7:Shared.TypeIs (aS w s) (.ref s.heap.objs.size) "set":=⟨_,at0,rfl⟩
  have f8:=ft.init.lookup;have f9:=ft.init.bind (.ref s.heap.objs.size)
  repeat (any_goals (first|assumption|wp_step))
  refine codeAny_mono init λr s2 hr=>?_
  match r,hr with
  | .error e,hr=>exact hr
  | .ok (.ret v),hr =>
   obtain⟨rfl,hq⟩:=hr
   show wpAny _ A.in1 (pure (some Value.none)) _ _ _
   exact wpAny_pure (wpAny_pure hq)
theorem j7 {l:Addr}{tn:String}{o:Obj} (x:s.heap.get? l=some o) (hc:o.cls=.type tn) (hd:(Value.type tn == .type "dict")=false)
  (ns1:isSubtype (.type tn) (.type "set")=pure false) (ns2:isSubtype (.type tn) (.type "frozenset")=pure false)
  {ns:List Int}{Pv:Nat->Value->Prop}{St:Nat->Heap->Prop} (hv:∀i v,Pv i v->∃t,v=.int (ns.getD i 0) t) (hb:ns.length+1<scanBound) {io:Obj}
  (W:∀B:Around,B.handled=A.handled->Walks P w B ((aS w s).heap.objs.size) [(aS w s).heap.objs.size,l] [(aS w s).heap.objs.size] ns.length Pv St)
  (it:∀(B:Around) (E':Value->Shared->Prop) (R:Value->Shared->Prop),R (.ref (aS w s).heap.objs.size) { s with heap:=(aS w s).heap.push io }->wpAny (model P w) B (pyIter (.ref l)) R E' (aS w s))
  (st:St 0 ((aS w s).heap.push io)) {Q:Value->Shared->Prop}
  (h:∀(h':Heap) (tk:Nat),bQ P w h' s.heap.objs.size (dd ns.reverse)->(∀b o,s.heap.get? b=some o->h'.get? b=some o)->Q (.ref s.heap.objs.size) { s with heap:=h',toks:=tk }) :
  wpAny (model P w) A (call (.type "set") [.ref l]) Q E s:=by
 have z1:(aS w s).heap.objs.size=s.heap.objs.size+1:=Heap.size_push ..
 have far:∀b,b<s.heap.objs.size->b∉[s.heap.objs.size,(aS w s).heap.objs.size]:=λb hb=>by
  rw [z1]
  simp only [List.mem_cons,List.not_mem_nil,or_false,not_or]
  exact⟨Nat.ne_of_lt hb,Nat.ne_of_lt (Nat.lt_succ_of_lt hb)⟩
 have kept:∀b o,s.heap.get? b=some o->((aS w s).heap.push io).get? b=some o:=λb o e=>Heap.get?_push_of_some _ (Heap.get?_push_of_some _ e)
 refine tD _ λB hB=>?_
 have hT:(aS w s).TypeIs (.ref l) tn:=⟨o,Heap.get?_push_of_some _ x,hc⟩
 unfold Builtin.Frozenset.updateFrom Builtin.Frozenset.isAnySet
 refine wpAny_bind (wpAny_bind (wpAny_isInstance hT ns1 ?_))
 show wpAny _ _ (isInstance (.ref l) (.type "frozenset")) _ _ _
 refine wpAny_isInstance hT ns2 ?_
 rw [if_neg Bool.false_ne_true]
 refine wpAny_bind (wpAny_typeOf hT ?_)
 rw [hd,if_neg Bool.false_ne_true]
 refine wpAny_bind (it _ _ _ (wpAny_bind (wpAny_runValue ?_)))
 have hS:s.heap.objs.size∉[(aS w s).heap.objs.size,l]:=by
  have:=Heap.lt_size x
  rw [z1]
  simp only [List.mem_cons,List.not_mem_nil,or_false,not_or]
  exact⟨Nat.ne_of_lt (Nat.lt_succ_self _),Nat.ne_of_gt this⟩
 refine qf (W _ (by simpa using hB)) hS ns rfl hv hb ns.length 0 _ (by omega) st ((n5 s.heap).at λo e=>Heap.get?_push_of_some _ e) ?_
 rintro s' ⟨h',tk,rfl,kp⟩ g
 exact wpAny_pure (h h' tk g λb o e=>kp b o (far b (Heap.lt_size e)) (kept b o e))
theorem set_list{l:Addr}{items:Array Value}{ns:List Int}{Q:Value->Shared->Prop}
  (hh:A.handled=none) (hl:s.heap.IsList l items) (hi:IntsAre items.toList ns) (hb:items.size+1<scanBound)
  (h:∀(h':Heap) (tk:Nat),bQ P w h' s.heap.objs.size (dd ns.reverse)->(∀b o,s.heap.get? b=some o->h'.get? b=some o)->Q (.ref s.heap.objs.size) { s with heap:=h',toks:=tk }) :
  wpAny (model P w) A (call (.type "set") [.ref l]) Q E s:=by
 have z:items.size=ns.length:=by simpa using IntsAre.length hi
 obtain⟨o,ho,hc,hr⟩:=hl
 have l1:(aS w s).heap.IsList l items:=⟨o,Heap.get?_push_of_some _ ho,hc,hr⟩
 refine j7 (io:={ cls:=.type "list_iterator",data:=.fields #[.ref l,Value.int 0 0] }) ho hc (by decide) PySem.F.sub_list_set PySem.F.sub_list_frozenset (jD hi) (z ▸ hb) (λB hB=>z ▸ Walks.list (hB.trans hh) _ l ?_ items)
  (λB E' R=>wpAny_pyIter_list l1) ⟨⟨_,Heap.get?_push_size _ rfl,rfl,rfl⟩,l1.push _⟩ h
 exact Nat.ne_of_lt (Nat.lt_of_lt_of_eq (Nat.lt_succ_of_lt (Heap.lt_size ho)) (Heap.size_push ..).symm)
theorem rq{l:Addr}{items:Array Value}{ns:List Int}{Q:Value->Shared->Prop}
  (hh:A.handled=none) (hl:s.heap.IsTuple l items) (hi:IntsAre items.toList ns) (hb:items.size+1<scanBound)
  (h:∀(h':Heap) (tk:Nat),bQ P w h' s.heap.objs.size (dd ns.reverse)->(∀b o,s.heap.get? b=some o->h'.get? b=some o)->Q (.ref s.heap.objs.size) { s with heap:=h',toks:=tk }) :
  wpAny (model P w) A (call (.type "set") [.ref l]) Q E s:=by
 have z:items.size=ns.length:=by simpa using IntsAre.length hi
 obtain⟨o,ho,hc,hr⟩:=hl
 have l1:(aS w s).heap.IsTuple l items:=⟨o,Heap.get?_push_of_some _ ho,hc,hr⟩
 refine j7 (io:={ cls:=.type "tuple_iterator",data:=.fields #[.ref l,Value.int 0 0] }) ho hc (by decide) PySem.F.sub_tuple_set PySem.F.sub_tuple_frozenset (jD hi) (z ▸ hb) (λB hB=>z ▸ Walks.tuple (hB.trans hh) _ l ?_ items)
  (λB E' R=>wpAny_pyIter_tuple l1) ⟨⟨_,Heap.get?_push_size _ rfl,rfl,rfl⟩,l1.push _⟩ h
 exact Nat.ne_of_lt (Nat.lt_of_lt_of_eq (Nat.lt_succ_of_lt (Heap.lt_size ho)) (Heap.size_push ..).symm)
end
end L2.St
namespace L2.St
open PySem PyProof.Rows
set_option maxRecDepth 100000 in
theorem j8:entryFor table "set.__iter__"=some Builtin.«frozenset.__iter__» :=
 entryFor_alias (id':="frozenset.__iter__") (by kernel_rfl) rfl (by decide +kernel) (by kernel_rfl)
set_option maxRecDepth 100000 in
theorem lT:Manifest.owners.lookup (String.ofList ['r','o','t','a','r','e','t','i','_','t','e','s'].reverse)=some Manifest.sig_set_iterator:=by kernel_rfl
set_option maxRecDepth 100000 in
theorem aF:Slot "set_iterator" "__next__" "set_iterator.__next__" :=
 .of (owner:="set_iterator") (n:="__next__") (by rw [typeLookup_type,builtinLookup_eq_fast];kernel_rfl) (by decide +kernel) (by decide +kernel) (by decide +kernel)
  (by first|exact .inl (by decide +kernel)|exact .inr (by decide +kernel)) (by rw [isSubtype_type];kernel_rfl)
set_option maxRecDepth 100000 in
theorem cR:entryFor table "set_iterator.__next__"=some Builtin.«set_iterator.__next__»:=entryFor_of_tree (by kernel_rfl)
set_option maxRecDepth 100000 in
theorem dk (a:Value):argsOk "set_iterator.__next__" ⟨[a],[]⟩:=by
 unfold argsOk;rw [signature?_of (id:="set_iterator.__next__") (n:=['_','_','t','x','e','n','_','_']) (o:=['r','o','t','a','r','e','t','i','_','t','e','s']) (by kernel_rfl) lT];kernel_rfl
set_option maxRecDepth 100000 in
theorem gN:Slot "set_iterator" "__iter__" "set_iterator.__iter__" :=
 .of (owner:="set_iterator") (n:="__iter__") (by rw [typeLookup_type,builtinLookup_eq_fast];kernel_rfl) (by decide +kernel) (by decide +kernel) (by decide +kernel)
  (by first|exact .inl (by decide +kernel)|exact .inr (by decide +kernel)) (by rw [isSubtype_type];kernel_rfl)
set_option maxRecDepth 100000 in
theorem j9:entryFor table "set_iterator.__iter__"=some Builtin.«dict_keyiterator.__iter__» :=
 entryFor_alias (id':="dict_keyiterator.__iter__") (by kernel_rfl) rfl (by decide +kernel) (by kernel_rfl)
set_option maxRecDepth 100000 in
theorem ly (a:Value):argsOk "set_iterator.__iter__" ⟨[a],[]⟩:=by
 unfold argsOk;rw [signature?_of (id:="set_iterator.__iter__") (n:=['_','_','r','e','t','i','_','_']) (o:=['r','o','t','a','r','e','t','i','_','t','e','s']) (by kernel_rfl) lT];kernel_rfl
theorem tG {P:Program}{w:World}{A:Around}{E:Value->Shared->Prop}{s:Shared}{I:Addr}{Q:Value->Shared->Prop} (hT:s.TypeIs (.ref I) "set_iterator") (h:Q (.ref I) s):wpAny (model P w) A (pyIter (.ref I)) Q E s:=by
 refine wpAny_pyIter_slot hT gN (wpAny_call_entry gN hT j9 ?_ (ly _))
 show wpAny _ _ (ret (.ref I)) _ _ s
 exact wpAny_pure ⟨_,rfl,"set_iterator",_,hT,aF.lookup,h⟩
theorem fz{α:Type}:∀{l:List α}{i:Nat}{x:α},l[i]?=some x->(x::l.eraseIdx i).Perm l
 | [],i,x,h=>by simp at h
 |a::l,0,x,h=>by
  have e:a=x:=by simpa using h
  subst e
  exact .refl _
 |a::l,i+1,x,h=>by
  have h':l[i]?=some x:=by simpa using h
  exact(List.Perm.swap a x _).trans (.cons a (fz h'))
theorem qg{α:Type}(next:Nat->Nat):∀(fuel k:Nat) (left:List α) (out:Array α),fuel=left.length->(pickOrder.go next fuel k left out).toList.Perm (out.toList++left)
 |0,k,left,out,h=>by
  have:left=[]:=List.length_eq_zero_iff.mp h.symm
  subst this
  rw [List.append_nil]
  exact .refl _
 | fuel + 1,k,left,out,h=>by
  have hl:next k % left.length<left.length:=Nat.mod_lt _ (by omega)
  obtain⟨x,hx⟩:∃x,left[next k % left.length]?=some x:=⟨_,List.getElem?_eq_getElem hl⟩
  have e:pickOrder.go next (fuel+1) k left out=pickOrder.go next fuel (k+1) (left.eraseIdx (next k % left.length)) (out.push x):=by
   show(match left[next k % left.length]? with
    |some x=>pickOrder.go next fuel (k+1) (left.eraseIdx (next k % left.length)) (out.push x)
    |none=>out)=_
   rw [hx]
  rw [e]
  refine(qg next fuel (k+1) _ _ (by rw [List.length_eraseIdx_of_lt hl];omega)).trans ?_
  rw [Array.toList_push,List.append_assoc]
  exact List.Perm.append_left _ (fz hx)
theorem lU{α:Type}(next:Nat->Nat)(xs:Array α):(pickOrder next xs).toList.Perm xs.toList:=by
 have:=qg next xs.size 0 xs.toList #[] (by simp)
 simpa [pickOrder] using this
section
variable{M:Model}{A:Around}{E:Value->Shared->Prop}{s:Shared}
theorem pz{src:Source}{n:Nat}{Q:Nat->Shared->Prop}(hn:n≠0)(h:∀i d',i<n->Q i { s with drawn:=d' }):wpAny M A (choose src n) Q E s:=λ_ _ _ =>
 ⟨hn,h _ _ (Nat.mod_lt _ (Nat.pos_of_ne_zero hn))⟩
theorem gX{α:Type}:∀(n:Nat) (xs:List α) (s:Shared) {Q:List α->Shared->Prop},n=xs.length->(∀ys d',ys.Perm xs->Q ys { s with drawn:=d' })->wpAny M A (drawOrder n xs) Q E s
 |0,xs,s,Q,h,q=>by
  have:xs=[]:=List.length_eq_zero_iff.mp h.symm
  subst this
  show wpAny M A (pure []) Q E s
  exact wpAny_pure (q [] s.drawn (.refl _))
 |n+1,[],s,Q,h,q=>by simp at h
 |n+1,x::r,s,Q,h,q=>by
  show wpAny M A (choose .order (x::r).length >>= _) Q E s
  refine wpAny_bind (pz (by simp) λi d' hi=>?_)
  obtain⟨y,hy⟩:∃y,(x::r)[i]?=some y:=⟨_,List.getElem?_eq_getElem hi⟩
  rw [hy]
  dsimp only
  refine wpAny_bind (gX n _ _ (by rw [List.length_eraseIdx_of_lt hi];simp at h ⊢;omega) λys d'' hp=>wpAny_pure ?_)
  exact q (y::ys) d'' ((List.Perm.cons y hp).trans (fz hy))
end
noncomputable def SIt(h:Heap)(I S:Addr)(o:Obj)(f:Value)(i n ep:Nat):Prop :=
 h.get? I=some { cls:=.type "set_iterator",dict:=none,data:=.fields #[f,.int i 0,.ref S,.int n 0,.int ep 0],slots:=#[] }/\h.get? S=some o
theorem SIt.type {s:Shared}{I S:Addr}{o:Obj}{f:Value}{i n ep:Nat} (h:SIt s.heap I S o f i n ep):s.TypeIs (.ref I) "set_iterator":=⟨_,h.1,rfl⟩
section
variable{P:Program}{w:World}{A:Around}{E:Value->Shared->Prop}{s:Shared}
theorem d5{S:Addr}{o:Obj}{es:Array (Int×Value)}{ep:Nat}{t:SetTable}{Q:Array (Int×Value)->Shared->Prop}(ho:s.heap.get? S=some o)(hd:o.data=.set es ep t)(hf:t.fits es.size=true)(h:Q es s) :
  wpAny (model P w) A (setEntries S) Q E s:=wpAny_setEntries_of ho hd hf h
theorem lV{S:Addr}{o:Obj}{es:Array (Int×Value)}{ep slot i:Nat}{t:SetTable}{Q:Option (Value×Nat)->Shared->Prop}(ho:s.heap.get? S=some o)(hd:o.data=.set es ep t)(hf:t.fits es.size=true)(hb:byT w=true)
  (h:Q (((pickOrder (w.params.setOrder S ep) es)[i]?).map λe=>(e.2,slot)) s):wpAny (model P w) A (setNext S slot i ep) Q E s:=by
 unfold setNext
 refine wpAny_bind (wpAny_setState_of ho hd hf ?_)
 dsimp only
 refine wpAny_bind (cO ?_)
 rw [if_pos hb]
 simp only [bne_self_eq_false,Bool.false_eq_true,if_false]
 refine wpAny_bind ?_
 unfold setWalk
 refine wpAny_bind (wpAny_setState_of ho hd hf ?_)
 dsimp only
 refine wpAny_bind (cO ?_)
 rw [if_pos hb]
 refine wpAny_bind (wpAny_askSetting (wpAny_pure ?_))
 exact wpAny_pure h
theorem j_{S:Addr}{o:Obj}{es:Array (Int×Value)}{ep slot i:Nat}{t:SetTable}{Q:Option (Value×Nat)->Shared->Prop}(ho:s.heap.get? S=some o)(hd:o.data=.set es ep t)(hf:t.fits es.size=true)(hb:byT w=false)
  (hdr:(!t.plain&&decide (es.size > 1))=false) (hled:t.led=true)
  (h:Q (match es[SetTable.below t.place slot]?,t.place[SetTable.below t.place slot]? with|some (_,x),some j=>some (x,j+1)|_,_=>none) s):wpAny (model P w) A (setNext S slot i ep) Q E s:=by
 unfold setNext
 refine wpAny_bind (wpAny_setState_of ho hd hf ?_)
 dsimp only
 refine wpAny_bind (cO ?_)
 rw [if_neg (by rw [hb];simp)]
 refine wpAny_ite_split (λhab=>absurd (show(!t.plain&&decide (es.size > 1))=true from hab) (by rw [hdr];simp)) (λ_=>?_)
 refine wpAny_bind ?_
 show wpAny _ _ (if (!t.led&&!es.isEmpty)=true then _ else _) _ _ s
 rw [if_neg (by rw [hled];simp)]
 exact wpAny_pure (wpAny_pure h)
theorem tH{xs:Array Nat}(hr:lw xs){i:Nat}(hi:i<xs.size):SetTable.below xs (xs.getD i 0+1)=i+1:=by
 obtain⟨h1,h2,h3⟩:=gT hr (xs.getD i 0+1)
 have a:i<SetTable.below xs (xs.getD i 0+1):=by
  by_cases q:SetTable.below xs (xs.getD i 0+1)<=i
  ·have:=h3 i q hi;omega
  ·omega
 have b:SetTable.below xs (xs.getD i 0+1)<=i+1:=by
  by_cases q:i+1<SetTable.below xs (xs.getD i 0+1)
  ·have:=h2 (i+1) q
   have:=hr i (i+1) (by omega) (by omega)
   omega
  ·omega
 omega
theorem pA(xs:Array Nat)(hr:lw xs):SetTable.below xs 0=0:=by
 obtain⟨h1,h2,h3⟩:=gT hr 0
 by_cases q:0<SetTable.below xs 0
 ·have:=h2 0 q;omega
 ·omega
end
end L2.St
namespace L2.St
open PySem PyProof.Rows
section
variable{P:Program}{w:World}{A:Around}{E:Value->Shared->Prop}{s:Shared}{I S:Addr}{o:Obj}{es:Array (Int×Value)}{t:SetTable}{i n ep:Nat}
theorem lz{slot nx:Nat}{x:Value}{Q:Option Value->Shared->Prop}(hit:SIt s.heap I S o (.int slot 0) i n ep)(hd:o.data=.set es ep t)(hf:t.fits es.size=true)(hn:es.size=n)(hSI:S≠I)
  (hnx:∀(A':Around) (s':Shared) (Q':Option (Value×Nat)->Shared->Prop) (E':Value->Shared->Prop),s'.heap.get? S=some o->Q' (some (x,nx)) s'->wpAny (model P w) A' (setNext S slot i ep) Q' E' s')
  (hQ:∀h',SIt h' I S o (.int nx 0) (i+1) n ep->Heap.SameBut I s.heap h'->Q (some x) { s with heap:=h' }):wpAny (model P w) A (pyNext (.ref I)) Q E s:=by
 unfold pyNext
 refine wpAny_bind (wpAny_attempt (wpAny_callSpecial?_slot (name:=Str.ofString "__next__") hit.type aF (wpAny_call_entry aF hit.type cR ?_ (dk _))))
 unfold Builtin.«set_iterator.__next__»
 refine wpAny_bind (m:=slotArgs "__next__" 0 _) (wpAny_pure ?_)
 refine wpAny_bind (wpAny_fieldsOf hit.1 rfl ?_)
 dsimp only
 refine wpAny_bind (d5 hit.2 hd hf ?_)
 rw [if_neg (by simp [hn])]
 try dsimp only
 simp only [Int.toNat_natCast]
 refine wpAny_bind (hnx _ _ _ _ hit.2 ?_)
 dsimp only
 refine wpAny_bind (wpAny_setField_rec hit.1 (by simp) λh1 e1 sb1=>?_)
 refine wpAny_bind (wpAny_setField_rec e1 (by simp) λh2 e2 sb2=>?_)
 refine wpAny_pure ⟨x,rfl,wpAny_pure (hQ h2 ⟨?_,?_⟩ (sb1.trans sb2))⟩
 ·simpa [rawInt] using e2
 ·exact((sb1.trans sb2).2 S hSI).trans hit.2
theorem lA{slot:Nat}{Q:Option Value->Shared->Prop}(hh:A.handled=none)(hit:SIt s.heap I S o (.int slot 0) i n ep)(hd:o.data=.set es ep t)(hf:t.fits es.size=true)(hn:es.size=n)
  (hnx:∀(A':Around) (s':Shared) (Q':Option (Value×Nat)->Shared->Prop) (E':Value->Shared->Prop),s'.heap.get? S=some o->Q' none s'->wpAny (model P w) A' (setNext S slot i ep) Q' E' s')
  (hQ:∀h',(∀b o,b≠I->s.heap.get? b=some o->h'.get? b=some o)->Q none { s with heap:=h' }):wpAny (model P w) A (pyNext (.ref I)) Q E s:=by
 unfold pyNext
 refine wpAny_bind (wpAny_attempt (wpAny_callSpecial?_slot (name:=Str.ofString "__next__") hit.type aF (wpAny_call_entry aF hit.type cR ?_ (dk _))))
 unfold Builtin.«set_iterator.__next__»
 refine wpAny_bind (m:=slotArgs "__next__" 0 _) (wpAny_pure ?_)
 refine wpAny_bind (wpAny_fieldsOf hit.1 rfl ?_)
 dsimp only
 refine wpAny_bind (d5 hit.2 hd hf ?_)
 rw [if_neg (by simp [hn])]
 try dsimp only
 simp only [Int.toNat_natCast]
 refine wpAny_bind (hnx _ _ _ _ hit.2 ?_)
 dsimp only
 refine wpAny_bind (wpAny_setField_rec hit.1 (by simp) λh1 e1 sb1=>?_)
 refine iZ (v:=.none) (vs:=#[]) (it:=0) (Q:=λ_ _=>True) (by first|exact hh|simpa using hh) λe s' kp ⟨h',eq⟩ hT=>?_
 subst eq
 refine wpAny_bind (wpAny_isInstance (T:="StopIteration") (b:=true) hT isSubtype_stop ?_)
 exact wpAny_pure (hQ h' λb o hb q=>kp b o ((sb1.2 b hb).trans q))
theorem kd{Tp:Addr}{ot:Obj}{ps:Array Value}{pn place:Nat}{pt:Tok}{hx:Int}{x:Value}{Q:Option Value->Shared->Prop}(hit:SIt s.heap I S o (.ref Tp) i n ep)(hd:o.data=.set es ep t)(hf:t.fits es.size=true)(hn:es.size=n)(hSI:S≠I)
  (hTp:s.heap.get? Tp=some ot) (hTd:ot.data=.seq ps pn) (hp:ps[i]?=some (.int place pt)) (hx':es[place]?=some (hx,x))
  (hQ:∀h',SIt h' I S o (.ref Tp) (i+1) n ep->Heap.SameBut I s.heap h'->Q (some x) { s with heap:=h' }):wpAny (model P w) A (pyNext (.ref I)) Q E s:=by
 unfold pyNext
 refine wpAny_bind (wpAny_attempt (wpAny_callSpecial?_slot (name:=Str.ofString "__next__") hit.type aF (wpAny_call_entry aF hit.type cR ?_ (dk _))))
 unfold Builtin.«set_iterator.__next__»
 refine wpAny_bind (m:=slotArgs "__next__" 0 _) (wpAny_pure ?_)
 refine wpAny_bind (wpAny_fieldsOf hit.1 rfl ?_)
 dsimp only
 refine wpAny_bind (d5 hit.2 hd hf ?_)
 rw [if_neg (by simp [hn])]
 try dsimp only
 refine wpAny_bind (wpAny_seqItems hTp hTd ?_)
 dsimp only
 simp only [Int.toNat_natCast,hp]
 refine wpAny_bind ?_
 unfold setNextDrawn
 refine wpAny_bind (wpAny_setState_of hit.2 hd hf ?_)
 dsimp only
 simp only [bne_self_eq_false,Bool.false_eq_true,if_false,Int.toNat_natCast,hx']
 refine wpAny_pure ?_
 refine wpAny_bind (wpAny_setField_rec hit.1 (by simp) λh1 e1 sb1=>?_)
 refine wpAny_pure ⟨x,rfl,wpAny_pure (hQ h1 ⟨?_,?_⟩ sb1)⟩
 ·simpa [rawInt] using e1
 ·exact(sb1.2 S hSI).trans hit.2
theorem kf{Tp:Addr}{ot:Obj}{ps:Array Value}{pn:Nat}{Q:Option Value->Shared->Prop}(hh:A.handled=none)(hit:SIt s.heap I S o (.ref Tp) i n ep)(hd:o.data=.set es ep t)(hf:t.fits es.size=true)(hn:es.size=n)
  (hTp:s.heap.get? Tp=some ot) (hTd:ot.data=.seq ps pn) (hp:ps[i]?=none)
  (hQ:∀h',(∀b o,b≠I->s.heap.get? b=some o->h'.get? b=some o)->Q none { s with heap:=h' }):wpAny (model P w) A (pyNext (.ref I)) Q E s:=by
 unfold pyNext
 refine wpAny_bind (wpAny_attempt (wpAny_callSpecial?_slot (name:=Str.ofString "__next__") hit.type aF (wpAny_call_entry aF hit.type cR ?_ (dk _))))
 unfold Builtin.«set_iterator.__next__»
 refine wpAny_bind (m:=slotArgs "__next__" 0 _) (wpAny_pure ?_)
 refine wpAny_bind (wpAny_fieldsOf hit.1 rfl ?_)
 dsimp only
 refine wpAny_bind (d5 hit.2 hd hf ?_)
 rw [if_neg (by simp [hn])]
 try dsimp only
 refine wpAny_bind (wpAny_seqItems hTp hTd ?_)
 dsimp only
 simp only [Int.toNat_natCast,hp]
 refine wpAny_bind (wpAny_setField_rec hit.1 (by simp) λh1 e1 sb1=>?_)
 refine wpAny_bind (wpAny_setField_rec e1 (by simp) λh2 e2 sb2=>?_)
 refine iZ (v:=.none) (vs:=#[]) (it:=0) (Q:=λ_ _=>True) (by first|exact hh|simpa using hh) λe s' kp ⟨h',eq⟩ hT=>?_
 subst eq
 refine wpAny_bind (wpAny_isInstance (T:="StopIteration") (b:=true) hT isSubtype_stop ?_)
 exact wpAny_pure (hQ h' λb o hb q=>kp b o (((sb1.trans sb2).2 b hb).trans q))
end
structure mZ(P:Program)(w:World)(I:Addr)(fp:List Addr)(order:List Int)(St:Nat->Heap->Prop):Prop where
 mem:I∈fp
 ty:∀i h,St i h->∃o,h.get? I=some o/\o.cls=.type "set_iterator"
 frame:∀i h h',St i h->(∀b∈fp,∀o,h.get? b=some o->h'.get? b=some o)->St i h'
 item:∀(A:Around) i (s:Shared) (Q:Option Value->Shared->Prop) (E:Value->Shared->Prop),i<order.length->St i s.heap ->
  (∀t h',St (i+1) h'->(∀b o,b≠I->s.heap.get? b=some o->h'.get? b=some o)->Q (some (.int (order.getD i 0) t)) { s with heap:=h' })->wpAny (model P w) A (pyNext (.ref I)) Q E s
 done:∀(A:Around) (s:Shared) (Q:Option Value->Shared->Prop) (E:Value->Shared->Prop),A.handled=none->St order.length s.heap ->
  (∀h',(∀b o,b≠I->s.heap.get? b=some o->h'.get? b=some o)->Q none { s with heap:=h' })->wpAny (model P w) A (pyNext (.ref I)) Q E s
theorem mZ.walks{P:Program}{w:World}{I:Addr}{fp:List Addr}{order:List Int}{St:Nat->Heap->Prop}(W:mZ P w I fp order St){A:Around}(hh:A.handled=none) :
  Walks P w A I fp [I] order.length (λi v=>∃t,v=.int (order.getD i 0) t) St where
 sub:=λb hb=>by rw [List.mem_singleton.mp hb];exact W.mem
 frame:=W.frame
 item:=λi s Q E hi st hQ=>W.item A i s Q E hi st λt h' st' kp=>hQ _ h' s.toks ⟨t,rfl⟩ st' λb o hb e=>kp b o (λz=>hb (by rw [z];exact List.mem_singleton.mpr rfl)) e
 done:=λs Q E st hQ=>W.done A s Q E hh st λh' kp=>hQ h' s.toks λb o hb e=>kp b o (λz=>hb (by rw [z];exact List.mem_singleton.mpr rfl)) e
 self:=λi s Q E st h=>by
  obtain⟨o,e,c⟩:=W.ty i _ st
  exact tG ⟨o,e,c⟩ h
section
variable{P:Program}{w:World}{A:Around}{E:Value->Shared->Prop}{s:Shared}
theorem il{l:List (Int×Value)}{i:Nat}{e:Int×Value}(h:l[i]?=some e):(l.map λe=>numOf e.2).getD i 0=numOf e.2:=by
 rw [List.getD_eq_getElem?_getD,List.getElem?_map,h];rfl
set_option maxRecDepth 100000 in
theorem tI{S:Addr}{ks:List Int}{Q:Value->Shared->Prop}(g:bQ P w s.heap S ks)
  (hQ:∀(I:Addr) (h':Heap) (d':Drawn) (fp:List Addr) (order:List Int) (St:Nat->Heap->Prop),order.Perm ks->(∀b o,s.heap.get? b=some o->h'.get? b=some o)->s.heap.objs.size<=I->(∀b∈fp,b=S\/s.heap.objs.size<=b)->(∀b∈fp,b<h'.objs.size) ->
   mZ P w I fp order St->St 0 h'->Q (.ref I) { s with heap:=h',drawn:=d' }):wpAny (model P w) A (pyIter (.ref S)) Q E s:=by
 obtain⟨o,es,ep,t,ho,hex,hd,hel,hpm,hnd,hb,hf,hgd⟩:=g
 have hT:s.TypeIs (.ref S) "set":=⟨o,ho,hex.1⟩
 have hSlt:S<s.heap.objs.size:=Heap.lt_size ho
 have hps:t.place.size=es.size:=by simp [SetTable.fits]at hf;exact hf.1
 have hlen:es.size=ks.length:=by have:=hpm.length_eq;simpa using this
 refine wpAny_pyIter_slot hT PySem.F.slot_set_iter (wpAny_call_entry PySem.F.slot_set_iter hT j8 ?_ (PySem.F.args_set_iter_1 _))
 unfold Builtin.«frozenset.__iter__»
 refine wpAny_bind (m:=Builtin.Frozenset.slot0 "__iter__" _) (wpAny_pure ?_)
 refine wpAny_bind (m:=Builtin.Frozenset.sizeOf S) (wpAny_bind (d5 ho hd hf (wpAny_pure ?_)))
 refine wpAny_bind (m:=setDrawn S) ?_
 unfold setDrawn
 refine wpAny_bind (wpAny_setState_of ho hd hf ?_)
 dsimp only
 refine wpAny_bind (cO (wpAny_pure ?_))
 have slotted:∀(order:List (Int×Value)) (fs:Nat->Nat),order.Perm es.toList->fs 0=0 ->
   (∀(A':Around) i (s':Shared) (Q':Option (Value×Nat)->Shared->Prop) (E':Value->Shared->Prop) e,order[i]?=some e->s'.heap.get? S=some o->Q' (some (e.2,fs (i+1))) s'->wpAny (model P w) A' (setNext S (fs i) i ep) Q' E' s') ->
   (∀(A':Around) (s':Shared) (Q':Option (Value×Nat)->Shared->Prop) (E':Value->Shared->Prop),s'.heap.get? S=some o->Q' none s'->wpAny (model P w) A' (setNext S (fs order.length) order.length ep) Q' E' s') ->
   Q (.ref s.heap.objs.size) { s with heap:=s.heap.push { cls:=.type "set_iterator",data:=.fields #[.int 0 0,.int 0 0,.ref S,.int (es.size:Nat) 0,.int (ep:Nat) 0] } }:=by
  intro order fs hp h0 hstep hend
  have hol:order.length=es.size:=by have:=hp.length_eq;simpa using this
  refine hQ s.heap.objs.size _ s.drawn [s.heap.objs.size,S] (order.map λe=>numOf e.2) (λi h=>SIt h s.heap.objs.size S o (.int (fs i) 0) i es.size ep) ((hp.map _).trans hpm) (λb o e=>Heap.get?_push_of_some _ e) (Nat.le_refl _) (λb hb=>?_) (λb hb=>?_) ?_ ?_
  ·rcases List.mem_cons.mp hb with e|e
   ·exact .inr (Nat.le_of_eq e.symm)
   ·exact .inl (List.mem_singleton.mp e)
  ·rw [Heap.size_push]
   rcases List.mem_cons.mp hb with e|e
   ·rw [e];exact Nat.lt_succ_self _
   ·rw [List.mem_singleton.mp e];exact Nat.lt_succ_of_lt hSlt
  ·refine⟨.head _,λi h st=>⟨_,st.1,rfl⟩,λi h h' st k=>⟨k _ (.head _) _ st.1,k _ (.tail _ (.head _)) _ st.2⟩,λA' i s' Q' E' hi st hq=>?_,λA' s' Q' E' hh st hq=>?_⟩
   ·rw [List.length_map]at hi
    obtain⟨e,he⟩:∃e,order[i]?=some e:=⟨_,List.getElem?_eq_getElem hi⟩
    have hm:e∈es.toList:=hp.mem_iff.mp (List.mem_of_getElem? he)
    obtain⟨tk,hv⟩:=dS hel e hm
    rw [il he]at hq
    refine lz (slot:=fs i) (nx:=fs (i+1)) (x:=e.2) st hd hf rfl (Nat.ne_of_lt hSlt) (λA'' s'' Q'' E'' hs'' q=>hstep A'' i s'' Q'' E'' e he hs'' q) λh' st' sb=>?_
    rw [hv]
    exact hq tk h' st' λb o hb q=>(sb.2 b hb).trans q
   ·rw [List.length_map]at st
    exact lA (slot:=fs order.length) hh st hd hf rfl (λA'' s'' Q'' E'' hs'' q=>hend A'' s'' Q'' E'' hs'' q) hq
  ·refine⟨?_,Heap.get?_push_of_some _ ho⟩
   rw [h0]
   exact Heap.get?_push_size _ rfl
 cases hbt:byT w with
 | true =>
  simp only [Bool.not_true,Bool.false_and,Bool.false_eq_true,if_false]
  refine wpAny_bind (wpAny_pure ?_)
  refine wpAny_bind (wpAny_setEpoch_of ho hd hf ?_)
  refine wpAny_bind (wpAny_newObj_type (wpAny_pure ⟨_,rfl,"set_iterator",_,⟨_,Heap.get?_push_size _ rfl,rfl⟩,aF.lookup,?_⟩))
  have q:=slotted (pickOrder (w.params.setOrder S ep) es).toList (λ_=>0) (lU _ _) rfl
   (λA' i s' Q' E' e he hs' q=>lV hs' hd hf hbt (by rw [<- Array.getElem?_toList,he];exact q))
   (λA' s' Q' E' hs' q=>lV hs' hd hf hbt (by rw [Array.getElem?_eq_none (by simp)];exact q))
  simpa [rawInt] using q
 | false =>
  cases hdr:(!t.plain&&decide (es.size > 1)) with
  | false =>
   refine wpAny_ite_split (λhab=>absurd (show(!false&&(!t.plain&&decide (es.size > 1)))=true from hab) (by rw [hdr];simp)) (λ_=>?_)
   refine wpAny_bind (wpAny_pure ?_)
   refine wpAny_bind (wpAny_setEpoch_of ho hd hf ?_)
   refine wpAny_bind (wpAny_newObj_type (wpAny_pure ⟨_,rfl,"set_iterator",_,⟨_,Heap.get?_push_size _ rfl,rfl⟩,aF.lookup,?_⟩))
   have hled:t.led=true:=by rw [hgd.led,hbt];rfl
   have hfs:∀i,i<=t.place.size->SetTable.below t.place (match i with|0=>0|j+1=>t.place.getD j 0+1)=i:=λi hi=>by
    cases i with
    |zero=>exact pA _ hgd.rise
    |succ j=>exact tH hgd.rise (by omega)
   have q:=slotted es.toList (λi=>match i with|0=>0|j+1=>t.place.getD j 0+1) (.refl _) rfl
    (λA' i s' Q' E' e he hs' q=>j_ hs' hd hf hbt hdr hled (by
     have hi:i<es.size:=by have:=(List.getElem?_eq_some_iff.mp he).1;simpa using this
     rw [hfs i (by omega)]
     rw [<- Array.getElem?_toList,he,Array.getElem?_eq_getElem (by omega:i<t.place.size)]
     have e2:t.place.getD i 0=t.place[i]:=by simp [Array.getD,(by omega:i<t.place.size)]
     dsimp only at q ⊢
     rw [e2]at q
     exact q))
    (λA' s' Q' E' hs' q=>j_ hs' hd hf hbt hdr hled (by
     rw [hfs _ (by simp [hps]),Array.getElem?_eq_none (by simp)]
     exact q))
   simpa [rawInt] using q
  | true =>
   refine wpAny_ite_split (λ_=>?_) (λhab=>absurd (show(!false&&(!t.plain&&decide (es.size > 1)))=true by rw [hdr];rfl) hab)
   refine wpAny_bind (gX _ _ _ (by simp) λplaces d' hperm=>?_)
   refine wpAny_bind (wpAny_newTuple ?_ (by simp;have:=hperm.length_eq;simp at this;rw [this,sizeLine_eq];unfold scanBound at hb;omega))
   refine wpAny_bind (wpAny_setEpoch_of (Heap.get?_push_of_some _ ho) hd hf ?_)
   refine wpAny_bind (wpAny_newObj_type (wpAny_pure ⟨_,rfl,"set_iterator",_,⟨_,Heap.get?_push_size _ rfl,rfl⟩,aF.lookup,?_⟩))
   have hpl:places.length=es.size:=by have:=hperm.length_eq;simpa using this
   have hat:∀p∈places,p<es.size:=λp hp=>by have:=hperm.mem_iff.mp hp;simpa using this
   have hT0:((s.heap.push { cls:=.type "tuple",data:=.seq (List.map (λ(i:Nat)=>rawInt i) places).toArray }).push { cls:=.type "set_iterator",data:=.fields #[.ref s.heap.objs.size,.int 0 0,.ref S,.int (es.size:Nat) 0,.int (ep:Nat) 0] }).get? s.heap.objs.size=some { cls:=.type "tuple",data:=.seq (List.map (λ(i:Nat)=>rawInt i) places).toArray } :=
    Heap.get?_push_of_some _ (Heap.get?_push_size _ rfl)
   have q:=hQ (s.heap.push { cls:=.type "tuple",data:=.seq (List.map (λ(i:Nat)=>rawInt i) places).toArray }).objs.size
    ((s.heap.push { cls:=.type "tuple",data:=.seq (List.map (λ(i:Nat)=>rawInt i) places).toArray }).push { cls:=.type "set_iterator",data:=.fields #[.ref s.heap.objs.size,.int 0 0,.ref S,.int (es.size:Nat) 0,.int (ep:Nat) 0] }) d'
    [(s.heap.push { cls:=.type "tuple",data:=.seq (List.map (λ(i:Nat)=>rawInt i) places).toArray }).objs.size,S,s.heap.objs.size]
    (places.map λp=>(es.toList.map λe=>numOf e.2).getD p 0)
    (λi h=>SIt h (s.heap.push { cls:=.type "tuple",data:=.seq (List.map (λ(i:Nat)=>rawInt i) places).toArray }).objs.size S o (.ref s.heap.objs.size) i es.size ep/\h.get? s.heap.objs.size=some { cls:=.type "tuple",data:=.seq (List.map (λ(i:Nat)=>rawInt i) places).toArray })
    ?p1 (λb o e=>Heap.get?_push_of_some _ (Heap.get?_push_of_some _ e)) (by rw [Heap.size_push];exact Nat.le_succ _) ?p2 ?p3 ?p4 ⟨⟨Heap.get?_push_size _ rfl,Heap.get?_push_of_some _ (Heap.get?_push_of_some _ ho)⟩,hT0⟩
   ·simpa [rawInt] using q
   case p1 =>
    have e1:(es.toList.map λe=>numOf e.2).length=es.size:=by simp
    have h1:=hperm.map λp=>(es.toList.map λe=>numOf e.2).getD p 0
    rw [<- e1,wB]at h1
    exact h1.trans hpm
   case p2 =>
    intro b hb
    simp only [List.mem_cons,List.not_mem_nil,or_false]at hb
    rcases hb with e|e|e
    ·exact .inr (by rw [e,Heap.size_push];exact Nat.le_succ _)
    ·exact .inl e
    ·exact .inr (Nat.le_of_eq e.symm)
   case p3 =>
    intro b hb
    rw [Heap.size_push]
    simp only [List.mem_cons,List.not_mem_nil,or_false]at hb
    rcases hb with e|e|e
    ·rw [e];exact Nat.lt_succ_self _
    ·rw [e,Heap.size_push];exact Nat.lt_succ_of_lt (Nat.lt_succ_of_lt hSlt)
    ·rw [e,Heap.size_push];exact Nat.lt_succ_of_lt (Nat.lt_succ_self _)
   case p4 =>
    refine⟨.head _,λi h st=>⟨_,st.1.1,rfl⟩,λi h h' st k=>⟨⟨k _ (.head _) _ st.1.1,k _ (.tail _ (.head _)) _ st.1.2⟩,k _ (.tail _ (.tail _ (.head _))) _ st.2⟩,λA' i s' Q' E' hi st hq=>?_,λA' s' Q' E' hh st hq=>?_⟩
    ·rw [List.length_map]at hi
     obtain⟨p,hp⟩:∃p,places[i]?=some p:=⟨_,List.getElem?_eq_getElem hi⟩
     have hpz:p<es.size:=hat p (List.mem_of_getElem? hp)
     obtain⟨e,he⟩:∃e,es.toList[p]?=some e:=⟨_,List.getElem?_eq_getElem (by simpa using hpz)⟩
     obtain⟨tk,hv⟩:=dS hel e (List.mem_of_getElem? he)
     have e3:(places.map λp=>(es.toList.map λe=>numOf e.2).getD p 0).getD i 0=numOf e.2:=by
      rw [List.getD_eq_getElem?_getD,List.getElem?_map,hp]
      exact il he
     rw [e3]at hq
     refine kd (place:=p) (pt:=0) (hx:=e.1) (x:=e.2) st.1 hd hf rfl (by rw [Heap.size_push];exact Nat.ne_of_lt (Nat.lt_succ_of_lt hSlt)) st.2 rfl (by simp [hp,rawInt]) (by rw [<- Array.getElem?_toList,he]) λh' st' sb=>?_
     rw [hv]
     exact hq tk h' ⟨st',(sb.2 _ (by rw [Heap.size_push];exact Nat.ne_of_lt (Nat.lt_succ_self _))).trans st.2⟩ λb o hb q=>(sb.2 b hb).trans q
    ·rw [List.length_map]at st
     exact kf hh st.1 hd hf rfl st.2 rfl (by simp) hq
end
end L2.St
namespace L2.St
open PySem PyProof.Rows
section
variable{P:Program}{w:World}{A:Around}{E:Value->Shared->Prop}{s:Shared}
theorem tJ {r:Addr}{Q:Bool->Shared->Prop} (hT:s.TypeIs (.ref r) "set") (h:Q false s):wpAny (model P w) A (Builtin.List.listLengthHint (.ref r)) Q E s:=by
 unfold Builtin.List.listLengthHint
 refine wpAny_bind (wpAny_specialOf hT PySem.F.slot_set_len.lookup ?_)
 generalize hid:("set.__len__":String)=id0
 wp_delta
 rw [show splitId id0=some ("set","__len__") from by subst hid;decide +kernel]
 subst hid
 refine wpAny_bind (wpAny_isInstance (T:="set") (b:=true) hT (by rw [isSubtype_type];kernel_rfl) ?_)
 refine wpAny_ite_split (λhab=>absurd hab (by decide)) (λ_=>?_)
 refine wpAny_ite_split (λ_=>?_) (λhab=>absurd (by decide +kernel) hab)
 refine wpAny_bind (wpAny_typeOf hT ?_)
 exact wpAny_pure h
set_option maxRecDepth 100000 in
theorem n6{S:Addr}{ks:List Int}{R:List Value->Shared->Prop}(hh:A.handled=none)(g:bQ P w s.heap S ks)
  (h:∀(h':Heap) (tk:Nat) (d':Drawn) (acc:List Value) (order:List Int),(∀b o,s.heap.get? b=some o->h'.get? b=some o)->order.Perm ks->IntsAre acc order->R acc { s with heap:=h',toks:=tk,drawn:=d' }) :
  wpAny (model P w) A (collect (.ref S)) R E s:=by
 have hks:ks.length<scanBound:=by
  obtain⟨o,es,ep,t,ho,hex,hd,hel,hp,hn,hb,_⟩:=g
  have:=hp.length_eq
  have e:es.size=ks.length:=by simpa using this
  omega
 have hSlt:S<s.heap.objs.size:=by
  obtain⟨o,es,ep,t,ho,_⟩:=g
  exact Heap.lt_size ho
 unfold collect
 refine wpAny_bind (wpAny_runValue (codeAny_builtin entry_proto_collect' ?_))
 rw [Around.under_plainId PySem.F.plain_proto_collect _]
 show wpAny _ A.in1 (newList [] >>= λl=>again (.builtin "list.__iadd__" ⟨[l,.ref S],[]⟩)) _ _ s
 refine wpAny_bind (wpAny_newObj_type ?_)
 refine wpAny_pure ⟨plainId_quiet PySem.F.plain_list_iadd _,codeAny_builtin entry_list_iadd' ?_⟩
 rw [Around.under_plainId PySem.F.plain_list_iadd _]
 have hS0:(s.heap.push { cls:=.type "list",data:=.seq ([]:List Value).toArray }).get? s.heap.objs.size=some { cls:=.type "list",data:=.seq #[] }:=Heap.get?_push_size _ rfl
 show wpAny _ A.in1 (Builtin.List.listExtendWith (.ref s.heap.objs.size) (.ref S) (.ref s.heap.objs.size)) _ _ _
 have g1:bQ P w (s.heap.push { cls:=.type "list",data:=.seq ([]:List Value).toArray }) S ks:=g.at λo e=>Heap.get?_push_of_some _ e
 have hT:Shared.TypeIs { s with heap:=s.heap.push { cls:=.type "list",data:=.seq ([]:List Value).toArray } } (.ref S) "set":=by
  obtain⟨o,es,ep,t,ho,hex,_⟩:=g1
  exact⟨o,ho,hex.1⟩
 unfold Builtin.List.listExtendWith
 refine wpAny_bind (wpAny_typeOf (T:="set") hT ?_)
 have q1:Builtin.List.listSameRef (.ref s.heap.objs.size) (.ref S)=false:=by simp [Builtin.List.listSameRef,Nat.ne_of_gt hSlt]
 have q2:(Value.type "set" == Value.type "list")=false:=by decide
 have q3:(Value.type "set" == Value.type "tuple")=false:=by decide
 simp only [q1,q2,q3,Bool.or_false,Bool.false_eq_true,if_false]
 refine wpAny_bind (tI g1 λI h1 d1 fp order St hperm kp hI hfp hlt W st=>?_)
 have hz0:(s.heap.push { cls:=.type "list",data:=.seq ([]:List Value).toArray }).objs.size=s.heap.objs.size+1:=Heap.size_push ..
 have hLf:s.heap.objs.size∉fp:=λhm=>by
  rcases hfp _ hm with e|e
  ·exact Nat.lt_irrefl _ (by rw [<- e]at hSlt;exact hSlt)
  ·dsimp only at e
   rw [hz0]at e
   exact Nat.not_succ_le_self _ e
 have hol:order.length<=sizeLine:=by
  have:=hperm.length_eq
  rw [this]
  exact fits_of_scanBound hks
 have hT1:Shared.TypeIs { s with heap:=h1,drawn:=d1 } (.ref S) "set":=by
  obtain⟨o,e,c⟩:=hT
  exact⟨o,kp S o e,c⟩
 refine wpAny_bind (wpAny_holding (tJ hT1 ?_))
 have WS:=(W.walks (A:=A.in1) (by first|exact hh|simpa using hh)).toS
 have fin:∀(h2:Heap) (c1:Nat),St 0 h2->(∀b o,b≠s.heap.objs.size->h1.get? b=some o->h2.get? b=some o)->h2.get? s.heap.objs.size=some { cls:=.type "list",dict:=none,data:=.seq #[] c1,slots:=#[] } ->
   codeAny (model P w) A (.builtin "list.extend.loop" ⟨[.ref s.heap.objs.size,.ref I,.ref s.heap.objs.size],[]⟩)
    (λr s'=>∃(h':Heap) (tk:Nat) (acc':Array Value) (c':Nat),r=.ok (.ret (.ref s.heap.objs.size))/\s'={ s with heap:=h',toks:=tk,drawn:=d1 }/\(∀b o,s.heap.get? b=some o->h'.get? b=some o) /\
     h'.get? s.heap.objs.size=some { cls:=.type "list",dict:=none,data:=.seq acc' c',slots:=#[] }/\IntsAre acc'.toList order) { s with heap:=h2,drawn:=d1 }:=by
  intro h2 c1 st2 k2 hS2
  refine codeAny_extend_loopS WS hol s.heap.objs.size hLf _ order.length 0 _ #[] c1 rfl (Nat.zero_le _) st2 hS2 (ItemsOf.nil _) λs' acc' c' hm hS' hacc=>?_
  refine⟨s'.heap,s'.toks,acc',c',rfl,(by
   obtain⟨h',g',dr',tk',os'⟩:=s'
   have eg:g'=s.gens:=hm.gens
   have ed:dr'=d1:=hm.drawn
   have eo:os'=s.os:=hm.os
   subst eg;subst ed;subst eo;rfl),λb o e=>?_,hS',lv hacc⟩
  have hbl:b≠s.heap.objs.size:=Nat.ne_of_lt (Heap.lt_size e)
  refine hm.heap b o (λhmem=>?_) (k2 b o hbl (kp b o (Heap.get?_push_of_some _ e)))
  rcases List.mem_cons.mp hmem with z|z
  ·exact hbl z
  ·have hbI:b=I:=List.mem_singleton.mp z
   rw [hbI]at e
   have hI':(s.heap.push { cls:=.type "list",data:=.seq ([]:List Value).toArray }).objs.size<=I:=hI
   rw [hz0]at hI'
   exact absurd (Nat.lt_of_lt_of_le (Heap.lt_size e) (Nat.le_of_succ_le hI')) (Nat.lt_irrefl _)
 have done:∀ (r:Result) (s':Shared),(∃ (h':Heap) (tk:Nat) (acc':Array Value) (c':Nat),r=.ok (.ret (.ref s.heap.objs.size))/\s'={ s with heap:=h',toks:=tk,drawn:=d1 }/\(∀ b o,s.heap.get? b=some o->h'.get? b=some o) /\
     h'.get? s.heap.objs.size=some { cls:=.type "list",dict:=none,data:=.seq acc' c',slots:=#[] }/\IntsAre acc'.toList order) ->
   wants (λv s'=>wpAny (model P w) A (match v with
    | Value.ref a=>do
     match (<- load a).data with
      |Data.seq xs _=>pure xs.toList
      | _=>unsupported "internal:collect"
    | _=>unsupported "internal:collect") R E s') E r s':=by
  rintro r s' ⟨h',tk,acc',c',rfl,rfl,k',hS',hi⟩
  show wpAny _ A (load s.heap.objs.size >>= _) _ _ _
  refine wpAny_bind (wpAny_load hS' ?_)
  exact wpAny_pure (h h' tk d1 acc'.toList order k' hperm hi)
 have h1L:h1.get? s.heap.objs.size=some { cls:=.type "list",dict:=none,data:=.seq #[] 0,slots:=#[] }:=kp _ _ hS0
 refine wpAny_ite_split (λ_=>?_) (λ_=>wpAny_pure ⟨plainId_quiet PySem.F.plain_extend_loop _,codeAny_mono (fin h1 0 st (λ_ _ _ e=>e) h1L) done⟩)
 refine wpAny_bind (wpAny_rule ?_)
 refine wpAny_bind ?_
 show wpAny _ _ (updateSeq s.heap.objs.size (·.push .none) >>= λ_=>updateSeq s.heap.objs.size (·.pop)) _ _ _
 refine wpAny_bind (wpAny_updateSeq h1L rfl ?_)
 have hS2:=Heap.get?_update_self (Obj.mapSeq (·.push Value.none)) h1L rfl
 refine wpAny_updateSeq (hz:=by seq_fits) hS2 rfl ?_
 have hS3:=Heap.get?_update_self (Obj.mapSeq (·.pop)) hS2 rfl
 refine wpAny_pure ⟨plainId_quiet PySem.F.plain_extend_loop _,codeAny_mono (fin _ _ ?_ (λb o hb e=>?_) hS3) done⟩
 ·refine W.frame 0 _ _ st λb hb o e=>?_
  have hbS:b≠s.heap.objs.size:=λz=>hLf (z ▸ hb)
  exact(Heap.get?_update_other _ _ (Ne.symm hbS)).trans ((Heap.get?_update_other _ _ (Ne.symm hbS)).trans e)
 ·exact(Heap.get?_update_other _ _ (Ne.symm hb)).trans ((Heap.get?_update_other _ _ (Ne.symm hb)).trans e)
end
end L2.St
namespace L2
open PySem PySem.Spec PyProof.Rows
noncomputable def gH(scope osc:Scope):Scope :=
 { scope with names:=scope.names.map λ(n,k)=>if (k == .free&&osc.kind == .function&&osc.names.lookup n == some .cell) then (n,.cell) else (n,k) }
noncomputable def lB(osc:Scope)(n:Str)(k:NameKind):NameKind:=if (k == .free&&osc.kind == .function&&osc.names.lookup n == some .cell) then .cell else k
theorem gY(scope osc:Scope):(gH scope osc).names=scope.names.map λq=>(q.1,lB osc q.1 q.2):=by
 show List.map _ scope.names=_
 refine List.map_congr_left λq _=>?_
 obtain⟨n,k⟩:=q
 show(if (k == NameKind.free&&osc.kind == .function&&osc.names.lookup n == some .cell)=true then (n,NameKind.cell) else (n,k))=(n,lB osc n k)
 unfold lB
 split<;>rfl
theorem eF{α β:Type}(g:Str->α->β)(y:Str):∀names:List (Str×α),(names.map λq=>(q.1,g q.1 q.2)).lookup y=(names.lookup y).map (g y)
 | []=>rfl
 | (n,k)::r=>by
  rw [List.map_cons]
  cases hx:y == n with
  |true =>
   simp only [List.lookup_cons,hx,Option.map_some]
   rw [eq_of_beq hx]
  |false =>
   simp only [List.lookup_cons,hx]
   exact eF g y r
theorem rA(osc:Scope)(n:Str):lB osc n .free=.cell\/lB osc n .free=.free:=by
 unfold lB
 split
 ·exact .inl rfl
 ·exact .inr rfl
theorem rB{osc:Scope}{n:Str}{k:NameKind}(hk:k≠.cell)(h:lB osc n k=.cell\/lB osc n k=.free):k=.free:=by
 unfold lB at h
 by_cases hc:(k == NameKind.free&&osc.kind == .function&&osc.names.lookup n == some .cell)=true
 ·simp only [Bool.and_eq_true]at hc
  exact eq_of_beq hc.1.1
 ·rw [if_neg hc]at h
  rcases h with h|h
  ·exact absurd h hk
  ·exact h
theorem gZ{α:Type}{y:Str}{k:α}:∀{l:List (Str×α)},l.lookup y=some k->(y,k)∈l
 | [],h=>by simp at h
 | (n,k')::r,h=>by
  cases hx:y == n with
  |true =>
   simp only [List.lookup_cons,hx]at h
   rw [eq_of_beq hx,Option.some.inj h];exact .head _
  |false =>
   simp only [List.lookup_cons,hx]at h
   exact .tail _ (gZ h)
theorem rC{scope osc:Scope}{y:Str}(h:scope.names.lookup y=some .free):(gH scope osc).names.lookup y=some .cell\/(gH scope osc).names.lookup y=some .free:=by
 rw [gY,eF,h,Option.map_some]
 rcases rA osc y with e|e
 ·exact .inl (by rw [e])
 ·exact .inr (by rw [e])
theorem rD{scope osc:Scope}{x y:Str}(hn:∀z∈scope.names,z.2=.cell->z.1=x)(h:(gH scope osc).names.lookup y=some .cell\/(gH scope osc).names.lookup y=some .free):(y,NameKind.free)∈scope.names\/(y=x/\scope.names.lookup x=some .cell):=by
 rw [gY,eF]at h
 cases e:scope.names.lookup y with
 |none=>rw [e]at h;rcases h with h|h<;>cases h
 | some k =>
  rw [e,Option.map_some]at h
  have hm:=gZ e
  by_cases hc:k=.cell
  ·subst hc
   have q:y=x:=hn _ hm rfl
   exact .inr ⟨q,by rw [<- q];exact e⟩
  ·have hk:k=.free:=rB hc (h.elim (λz=>.inl (Option.some.inj z)) λz=>.inr (Option.some.inj z))
   rw [hk]at hm
   exact .inl hm
theorem rE{scope osc:Scope}{y:Str}(h:scope.names.lookup y=some .cell):(gH scope osc).names.lookup y=some .cell:=by
 rw [gY,eF,h,Option.map_some]
 unfold lB
 split
 ·rfl
 ·rfl
noncomputable def eX(env:Env):List (Str×NameKind)->List (Str×Addr)->List (Str×Addr)
 | [],acc=>acc
 | (n,k)::r,acc=>if k == .free then eX env r ((n,(env.cells.lookup n).getD 0)::acc) else eX env r acc
theorem i0{env:Env}:∀(names:List (Str×NameKind)) (acc:List (Str×Addr)),(∀y∈names,y.2=.free->∃c,env.cells.lookup y.1=some c) ->
  (forIn names acc λx r=>(match x with|(name,kind)=>if (kind == NameKind.free)=true then do let c <- cellOf env name;pure (ForInStep.yield ((name,c)::r)) else pure (ForInStep.yield r)):Sem (List (Str×Addr)))=pure (eX env names acc)
 | [],acc,_=>rfl
 | (n,k)::r,acc,h=>by
  rw [List.forIn_cons]
  have hr:∀y∈r,y.2=.free->∃c,env.cells.lookup y.1=some c:=λy hy=>h y (.tail _ hy)
  by_cases hk:(k == NameKind.free)=true
  ·obtain⟨c,hc⟩:=h (n,k) (.head _) (eq_of_beq hk)
   dsimp only
   rw [if_pos hk]
   have e1:cellOf env n=pure c:=by unfold cellOf;rw [hc]
   rw [e1]
   simp only [pure_bind]
   rw [i0 r _ hr]
   show _=pure (if (k == NameKind.free)=true then _ else _)
   rw [if_pos hk,hc]
   all_goals rfl
  ·dsimp only
   rw [if_neg hk]
   simp only [pure_bind]
   rw [i0 r _ hr]
   show _=pure (if (k == NameKind.free)=true then _ else _)
   rw [if_neg hk]
theorem kg{scope:Scope}{env:Env}(h:∀y∈scope.names,y.2=.free->∃c,env.cells.lookup y.1=some c):closureFor scope env=pure (eX env scope.names []):=by
 unfold closureFor
 have:=i0 (env:=env) scope.names [] h
 first
  | exact this
  | (rw [bind_pure];exact this)
  | simpa using this
theorem kh{env:Env}{y:Str}{c:Addr}:∀(names:List (Str×NameKind)) (acc:List (Str×Addr)),(∀z∈names,z.2=.free->∃c,env.cells.lookup z.1=some c)->(∀c,acc.lookup y=some c->env.cells.lookup y=some c) ->
  (eX env names acc).lookup y=some c->env.cells.lookup y=some c
 | [],acc,_,ha,e=>ha c e
 | (n,k)::r,acc,h,ha,e=>by
  have hr:∀y∈r,y.2=.free->∃c,env.cells.lookup y.1=some c:=λy hy=>h y (.tail _ hy)
  have e':(if (k == NameKind.free)=true then eX env r ((n,(env.cells.lookup n).getD 0)::acc) else eX env r acc).lookup y=some c:=e
  by_cases hk:(k == NameKind.free)=true
  ·rw [if_pos hk]at e'
   refine kh r _ hr (λc' q=>?_) e'
   cases hx:y == n with
   |true =>
    simp only [List.lookup_cons,hx]at q
    obtain⟨c0,hc0⟩:=h (n,k) (.head _) (eq_of_beq hk)
    have en:y=n:=eq_of_beq hx
    have hc1:env.cells.lookup n=some c0:=hc0
    rw [hc1]at q
    rw [en,hc1]
    exact q
   |false =>
    simp only [List.lookup_cons,hx]at q
    exact ha c' q
  ·rw [if_neg hk]at e'
   exact kh r _ hr ha e'
theorem im{env:Env}{y:Str}:∀(names:List (Str×NameKind)) (acc:List (Str×Addr)),((y,NameKind.free)∈names\/∃c,acc.lookup y=some c)->∃c,(eX env names acc).lookup y=some c
 | [],acc,h=>by
  rcases h with h|h
  ·simp at h
  ·exact h
 | (n,k)::r,acc,h=>by
  show ∃c,(if (k == NameKind.free)=true then eX env r ((n,(env.cells.lookup n).getD 0)::acc) else eX env r acc).lookup y=some c
  by_cases hk:(k == NameKind.free)=true
  ·rw [if_pos hk]
   refine im r _ ?_
   cases hx:y == n with
   |true=>exact .inr ⟨(env.cells.lookup n).getD 0,by simp only [List.lookup_cons,hx]⟩
   | false =>
    rcases h with h|⟨c,h⟩
    ·rcases List.mem_cons.mp h with z|z
     ·have:y=n:=(Prod.mk.inj z).1
      rw [this]at hx
      simp at hx
     ·exact .inl z
    ·exact .inr ⟨c,by simp only [List.lookup_cons,hx];exact h⟩
  ·rw [if_neg hk]
   refine im r _ ?_
   rcases h with h|h
   ·rcases List.mem_cons.mp h with z|z
    ·have:NameKind.free=k:=(Prod.mk.inj z).2
     rw [<- this]at hk
     simp at hk
    ·exact .inl z
   ·exact .inr h
structure m3(osc:Scope)(N:List Str)(scope:Scope)(x:Str)(fvs:List Str)(js:List Nat):Prop where
 cells:∀y∈scope.names,y.2=.cell->y.1=x
 once:scope.names.lookup x=some .local/\(scope.names.filter λy=>y.2 == .cell)=[]\/scope.names.lookup x=some .cell/\(scope.names.filter λy=>y.2 == .cell)=[(x,.cell)]
 xf:∀y∈scope.names,y.2=.free->y.1≠x
 kind:scope.kind=.function
 names:∀y∈scope.names,y.2=.local->scope.names.lookup y.1=some .local
 nd:(x::fvs).Nodup
 out:∀y∈scope.names,y.2=.free->osc.names.lookup y.1=some .cell\/osc.names.lookup y.1=some .free
 slots:(js.map λj=>N[j]?)=fvs.map some
 free:∀y∈fvs,scope.names.lookup y=some .free
noncomputable def i4(scope:Scope)(x:Str)(C:Addr):List (Str×Addr):=if scope.names.lookup x=some .cell then [(x,C+1)] else []
noncomputable def Cx.blk(X:Cx)(x:Str)(fvs:List Str)(scope:Scope)(s₁:Shared)(H₁:Hp)(C:Addr)(fp:List Addr):Cx :=
 { X with N:=x::fvs,s₀:=s₁,H₀:=H₁,env:=compEnvC scope (i4 scope x C++eX X.env scope.names []) C X.env,outer:=X.stack,ex:=fp,fn:=λy=>decide (y=x/\scope.names.lookup x=some .cell),pn:=[],xe:=λ_ _=>False }
theorem ki{M:Model}{A:Around}{E:Value->Shared->Prop}:∀{names:List (Str×NameKind)}{acc:List (Str×Addr)}{s:Shared}{Q:List (Str×Addr)->Shared->Prop},(names.filter λy=>y.2 == .cell)=[]->Q acc s ->
  wpAny M A (forIn names acc λx r=>(match x with|(name,kind)=>if (kind == NameKind.cell)=true then do let c <- alloc { cls:=.type "cell",data:=.cell none };pure (ForInStep.yield ((name,c)::r)) else pure (ForInStep.yield r)):Sem (List (Str×Addr))) Q E s
 | [],_,_,_,_,h=>wpAny_pure h
 | (n,k)::r,acc,s,Q,hf,h=>by
  rw [List.forIn_cons]
  have hk:(k == NameKind.cell)=false:=by
   cases q:(k == NameKind.cell) with
   |false=>rfl
   |true=>rw [List.filter_cons_of_pos (by exact q)]at hf;cases hf
  rw [List.filter_cons_of_neg (by rw [hk];decide)]at hf
  dsimp only
  rw [if_neg (by rw [hk];decide)]
  exact wpAny_bind (wpAny_pure (ki hf h))
theorem lW{M:Model}{A:Around}{E:Value->Shared->Prop}{x:Str}:∀{names:List (Str×NameKind)}{acc:List (Str×Addr)}{s:Shared}{Q:List (Str×Addr)->Shared->Prop},(names.filter λy=>y.2 == .cell)=[(x,.cell)] ->
  Q ((x,s.heap.objs.size)::acc) { s with heap:=s.heap.push { cls:=.type "cell",data:=.cell none } } ->
  wpAny M A (forIn names acc λx r=>(match x with|(name,kind)=>if (kind == NameKind.cell)=true then do let c <- alloc { cls:=.type "cell",data:=.cell none };pure (ForInStep.yield ((name,c)::r)) else pure (ForInStep.yield r)):Sem (List (Str×Addr))) Q E s
 | [],_,_,_,hf,_=>by cases hf
 | (n,k)::r,acc,s,Q,hf,h=>by
  rw [List.forIn_cons]
  dsimp only
  cases hk:(k == NameKind.cell) with
  |false =>
   rw [List.filter_cons_of_neg (by rw [hk];decide)]at hf
   rw [if_neg (by decide)]
   exact wpAny_bind (wpAny_pure (lW hf h))
  |true =>
   rw [List.filter_cons_of_pos (by exact hk)]at hf
   obtain⟨e1,e2⟩:=List.cons.inj hf
   cases e1
   rw [if_pos rfl]
   exact wpAny_bind (wpAny_bind (wpAny_alloc (wpAny_pure (ki e2 h))))
theorem pB{M:Model}{A:Around}{E:Value->Shared->Prop}{scope:Scope}{x:Str}{globals:Addr}{cl:List (Str×Addr)}{qual:Str}{env:Env}{s:Shared}{Q:Env->Shared->Prop}(hk:scope.kind=.function)
  (ho:scope.names.lookup x=some .local/\(scope.names.filter λy=>y.2 == .cell)=[]\/scope.names.lookup x=some .cell/\(scope.names.filter λy=>y.2 == .cell)=[(x,.cell)])
  (h:∀h' m,h'.Ns s.heap.objs.size m->(∀b u,s.heap.get? b=some u->h'.get? b=some u)->(scope.names.lookup x=some .cell->h'.IsCell (s.heap.objs.size+1) none)->Q (newEnv scope s.heap.objs.size globals (i4 scope x s.heap.objs.size++cl) qual none .none (some env) builtinsNs) { s with heap:=h' }) :
  wpAny M A (newFunctionEnv scope globals cl [] qual none .none (some env)) Q E s:=by
 rcases ho with ⟨h1,h2⟩|⟨h1,h2⟩
 ·refine wpAny_newFunctionEnv (λy hy z=>?_) (by intro y hy;simp at hy) (λh' hns hsb=>?_) hk
  ·have:y∈scope.names.filter λy=>y.2 == .cell:=List.mem_filter.mpr ⟨hy,by rw [z];rfl⟩
   rw [h2]at this
   cases this
  ·have q:=h h' _ hns (λb u e=>hsb.extBut b u (Nat.ne_of_lt (Heap.lt_size e)) (Heap.get?_push_of_some _ e)) λz=>by rw [h1]at z;cases z
   unfold i4 at q
   rw [if_neg (by rw [h1];simp)]at q
   exact q
 ·unfold newFunctionEnv
  refine wpAny_bind (wpAny_alloc (wpAny_bind (lW h2 ?_)))
  have hn:=Heap.Ns.new s.heap (.type "dict")
  have hs:(s.heap.push { cls:=.type "dict",data:=.dict #[] }).objs.size=s.heap.objs.size+1:=Heap.size_push _ _
  have q:=h ((s.heap.push { cls:=.type "dict",data:=.dict #[] }).push { cls:=.type "cell",data:=.cell none }) _ (hn.keeps λb o e=>Heap.get?_push_of_some _ e) (λb u e=>Heap.get?_push_of_some _ (Heap.get?_push_of_some _ e)) λ_=>⟨_,by rw [<- hs];exact Heap.get?_push_size _ rfl,rfl⟩
  unfold i4 at q
  rw [if_pos h1]at q
  rw [<- hs]at q
  exact wpAny_bind (wpAny_pure (wpAny_pure q))
noncomputable def gI(js:List Nat)(σ:St):St:=none::js.map λj=>(σ[j]?).join
noncomputable def PF(X:Cx)(ifs:List Expr)(t:TT):Prop :=
 ∀(pins:List (Addr×Obj)) (s:Shared) (σ:St) (H:Hp) (Q:Bool->Hp->Prop),Inv X pins σ H s->t σ H Q ->
  wpAny (model X.prog X.w) X.A (forIn ifs true λc r=>if r=true then do let ok <- isTrue c X.env (eval c X.env);pure (ForInStep.yield ok) else pure (ForInStep.yield r)) (TP X pins σ Q) X.xe s
noncomputable def CP:TT:=λ_ H Q=>Q true H
theorem yP{X:Cx}:PF X [] CP:=λ_ _ _ H _ I h=>wpAny_tests_nil ⟨H,I,h⟩
theorem yQ{X:Cx}{c:Expr}{t:TT}(h:PT X c t):PF X [c] t:=λpins s σ H Q I q=>wpAny_tests_one (h pins s σ H Q I q)
section
variable{prog:Program}{w:World}{A:Around}{R:Result->Shared->Prop}{s:Shared}
theorem rF{elt target iter:Expr}{ifs:List Expr}{scope:Scope}{pos:Pos}{it acc:Value}{env:Env}(J:Nat->Shared->Prop)
  (turn:∀n s,J n s->wpAny (model prog w) A (pyNext it) (λr s1=>match r with
   |none=>R (.ok .next) s1
   | some v=>wpAny (model prog w) A (letOwnedTupleGo target it v) (λ_ s2=>wpAny (model prog w) A (assign target env v) (λ_ s3 =>
     wpAny (model prog w) A (forIn ifs true λc r=>if r=true then do let ok <- isTrue c env (eval c env);pure (ForInStep.yield ok) else pure (ForInStep.yield r)) (λok s4 =>
      if ok=true then wpAny (model prog w) A (eval elt env) (λx s5 =>
       wpAny (model prog w) A (call (.builtin "list.append") [acc,x]) (λ_ s6=>∃m,m<n/\J m s6) (λ_ _=>False) s5) (λ_ _=>False) s4
      else ∃m,m<n/\J m s4) (λ_ _=>False) s3) (λ_ _=>False) s2) (λ_ _=>False) s1) (λ_ _=>False) s)
  (n:Nat) (h:J n s):codeAny (model prog w) A (.compLoop (.ListComp elt [⟨target,iter,ifs,0⟩] scope pos) 0 it acc env) R s:=by
 have up:∀{α:Type}{t:Sem α}{Q:α->Shared->Prop}{E:Value->Shared->Prop}{s:Shared},wpAny (model prog w) A t Q (λ_ _=>False) s->wpAny (model prog w) A t Q E s:=λq=>wpAny_mono q (λ_ _ z=>z) λ_ _ z=>z.elim
 refine codeAny_loop rfl J (λn s hJ=>?_) n h
 show wpAny _ A ((compTurn (.ListComp elt [⟨target,iter,ifs,0⟩] scope pos) 0 it acc env).onRaise (λx=>do noteFrame x env;theTreesLotGoes x)) _ _ s
 refine wpAny_noted ?_
 rw [compTurn_list]
 refine wpAny_bind (wpAny_standAt (wpAny_bind (wpAny_mono (up (turn n s hJ)) (λr s1 h1=>?_) λ_ _ z=>z)))
 cases r with
 |none=>exact wpAny_pure h1
 |some v =>
  refine wpAny_bind (wpAny_mono (up h1) (λ_ s2 h2=>?_) λ_ _ z=>z)
  refine wpAny_bind (wpAny_mono (up h2) (λ_ s3 h3=>wpAny_bind (wpAny_mono (up h3) (λok s4 h4=>?_) λ_ _ z=>z)) λ_ _ z=>z)
  cases ok with
  |false=>exact wpAny_pure ⟨rfl,h4⟩
  |true=>exact wpAny_bind (wpAny_bind (wpAny_mono (up h4) (λx s5 h5=>wpAny_bind (wpAny_mono (up h5) (λ_ s6 h6=>wpAny_pure (wpAny_pure ⟨rfl,h6⟩)) λ_ _ z=>z)) λ_ _ z=>z))
end
noncomputable def xO(J:It)(σ0:St)(H1:Hp)(tt:TT)(te:TE)(D:Addr)(Q:VK):Prop :=
 ∃ W:Nat->Nat->St->Hp->Prop,(∃ m,W 0 m σ0 (upd H1 D (.lst [])))/\∀ i m σ' H',W i m σ' H' ->
  (J.stop i H'/\Q (.ref D) H')\/(J.go i H'/\∃N:St->Hp->Prop,(∀σ2 H2,N σ2 H2->∃m',m'<m/\W (i+1) m' σ2 H2)/\∀x H2,J.yld i H' x H2 ->
   tt (σ'.set 0 (some x)) H2 λb H3=>if b=true then te (σ'.set 0 (some x)) H3 λy H4=>∃ys,H4 D=some (.lst ys)/\ys.length<sizeLine/\N (σ'.set 0 (some x)) (upd H4 D (.lst (ys ++ [y]))) else N (σ'.set 0 (some x)) H3)
noncomputable def tK(wi:TI)(js:List Nat)(tt:TT)(te:TE):TE:=λσ H Q=>wi σ H λJ H1=>∀D,H1 D=none->xO J (gI js σ) H1 tt te D Q
section
variable{X:Cx}{elt iter:Expr}{x:Str}{px:Pos}{ifs:List Expr}{scope:Scope}{pos:Pos}{fvs:List Str}{js:List Nat}{wi:TI}{tt:TT}{te:TE}
theorem lX(hsc:m3 X.env.scope X.N scope x fvs js)(hc:X.calm=true)
  (ht:∀s₁ H₁ C fp,PF (X.blk x fvs scope s₁ H₁ C fp) ifs tt) (he:∀s₁ H₁ C fp,PE (X.blk x fvs scope s₁ H₁ C fp) elt te)
  {pins:List (Addr×Obj)}{σ:St}{H2:Hp}{s2:Shared}{Q:VK}{it:Addr}{fp:List Addr}{tn:Nat->Heap->Prop}{J:It}{RR:Value->Addr->Result->Shared->Prop}
  (I2:Inv X pins σ H2 s2) (T:ra X.prog X.w X.K (.Name x px) J fp it tn) (st2:tn 0 s2.heap) (f2:∀b∈fp,jy X pins H2 b)
  (hh:∀D,H2 D=none->xO J (gI js σ) H2 tt te D Q)
  (fin:∀(D C:Addr) (H':Hp) (s':Shared),Inv X pins σ H' s'->(∃m,s'.heap.Ns C m)->H' C=none->C≠X.env.locals->X.s₀.heap.objs.size<=C->(∀y c,X.env.cells.lookup y=some c->c≠C)->(∀p∈X.pn++pins,p.1≠C)->Q (.ref D) H' ->
   RR (.ref D) C (.ok .next) s') {E:Value->Shared->Prop} :
  wpAny (model X.prog X.w) X.A (newList []) (λacc s3=>wpAny (model X.prog X.w) X.A (newFunctionEnv scope X.env.globals (eX X.env scope.names []) [] X.env.qual none .none (some X.env)) (λcenv s4 =>
   codeAny (model X.prog X.w) X.A (.compStart (.ListComp elt [⟨.Name x px,iter,ifs,0⟩] scope pos) 0 (.ref it) acc { cenv with scope:=relabel scope X.env }) (RR acc cenv.locals) s4) E s3) E s2:=by
 have fr:∀y∈scope.names,y.2=.free->∃c,X.env.cells.lookup y.1=some c:=λy hy hk=>I2.ok.has y.1 (hsc.out y hy hk)
 have sub:∀y c,(eX X.env scope.names []).lookup y=some c->X.env.cells.lookup y=some c:=λy c e=>kh scope.names [] fr (λ_ q=>by simp at q) e
 refine wpAny_newObj_type (pB (x:=x) hsc.kind hsc.once λh1 m1 hns1 hsb1 hcl1=>?_)
 dsimp only at hns1 hsb1 hcl1 ⊢
 have I3:Inv X pins σ (upd H2 s2.heap.objs.size (.lst [])) { s2 with heap:=s2.heap.push { cls:=.type "list",data:=.seq ([]:List Value).toArray },toks:=s2.toks }:=I2.lnew (ys:=[]) (its:=[]) .nil (Nat.zero_le _)
 generalize hG:s2.heap.push { cls:=.type "list",dict:=none,data:=.seq ([]:List Value).toArray }=G at hns1 hsb1 hcl1 I3 ⊢
 have hC:G.objs.size=s2.heap.objs.size+1:=by rw [<- hG,Heap.size_push]
 obtain⟨W,⟨m0,w0⟩,turn⟩:=hh s2.heap.objs.size I2.fresh
 have up:∀b u,G.get? b=some u->h1.get? b=some u:=hsb1
 have look:∀{y:Str}{c:Addr},(i4 scope x G.objs.size++eX X.env scope.names []).lookup y=some c->(y=x/\scope.names.lookup x=some .cell/\c=G.objs.size+1)\/(eX X.env scope.names []).lookup y=some c:=λ{y c} e=>by
  unfold i4 at e
  by_cases q:scope.names.lookup x=some .cell
  ·rw [if_pos q]at e
   by_cases z:(y == x)=true
   ·rw [List.cons_append,List.lookup_cons,z]at e
    exact .inl ⟨eq_of_beq z,q,(Option.some.inj e).symm⟩
   ·rw [List.cons_append,List.lookup_cons,(Bool.not_eq_true _).mp z]at e
    exact .inr e
  ·rw [if_neg q]at e
   exact .inr e
 have Cfr:∀{H':Hp}{s':Shared},Inv X pins σ H' s'->True:=λ_=>trivial
 have nC:(upd H2 s2.heap.objs.size (.lst [])) G.objs.size=none:=I3.hok.fresh (Nat.le_refl _)
 have cL:G.objs.size≠X.env.locals:=Nat.ne_of_gt I3.lt
 have cS:X.s₀.heap.objs.size<=G.objs.size:=I3.sz
 have cC:∀y c,X.env.cells.lookup y=some c->c≠G.objs.size:=λy c e z=>by
  obtain⟨v,q⟩:=I3.cell y c e
  exact absurd (show c<G.objs.size from q.lt) (by rw [z];exact Nat.lt_irrefl _)
 have cP:∀p∈X.pn++pins,p.1≠G.objs.size:=λp hp z=>absurd (show p.1<G.objs.size from Heap.lt_size (I3.pin p hp).1) (by rw [z];exact Nat.lt_irrefl _)
 have fpl:∀b∈fp,b<s2.heap.objs.size:=λb hb=>by
  obtain⟨o,e,_⟩:=T.obj 0 _ st2 b hb
  exact Heap.lt_size e
 have ok:(X.blk x fvs scope { s2 with heap:=G,toks:=s2.toks } (upd H2 s2.heap.objs.size (.lst [])) G.objs.size fp).Ok:=by
  have hb:∀b∈fp,b∉frs X.stack:=λb hb z=>(List.mem_cons.mp (I2.stkSub b z)).elim (f2 b hb).2.1 (f2 b hb).2.2.1
  exact {
   mod:=I3.ok.mod
   kind:=by show(relabel scope X.env).kind=_;exact hsc.kind
   glob:=I3.ok.glob
   blt:=I3.ok.blt
   above:=Nat.le_refl _
   inj:=λy z c e1 e2=>by
    have lt:∀{y:Str},(eX X.env scope.names []).lookup y=some c->c<G.objs.size:=λ{y} e=>by
     obtain⟨v,q⟩:=I3.cell y c (sub y c e)
     exact q.lt
    rcases look e1 with ⟨a1,_,a2⟩|a1
    ·rcases look e2 with ⟨b1,_,_⟩|b1
     ·rw [a1,b1]
     ·exact absurd (lt b1) (by rw [a2];exact Nat.not_lt.mpr (Nat.le_succ _))
    ·rcases look e2 with ⟨_,_,b2⟩|b1
     ·exact absurd (lt a1) (by rw [b2];exact Nat.not_lt.mpr (Nat.le_succ _))
     ·exact I3.ok.inj y z c (sub y c a1) (sub z c b1)
   has:=λy hy=>by
    show ∃c,(i4 scope x G.objs.size++eX X.env scope.names []).lookup y=some c
    unfold i4
    rcases rD hsc.cells hy with hm|⟨e,q⟩
    ·obtain⟨c,ec⟩:=im (env:=X.env) scope.names [] (.inl hm)
     by_cases q:scope.names.lookup x=some .cell
     ·have z:(y == x)=false:=beq_eq_false_iff_ne.mpr (hsc.xf _ hm rfl)
      exact⟨c,by rw [if_pos q,List.cons_append,List.lookup_cons,z];exact ec⟩
     ·exact⟨c,by rw [if_neg q];exact ec⟩
    ·subst e
     exact⟨G.objs.size+1,by rw [if_pos q,List.cons_append,List.lookup_cons,beq_self_eq_true]⟩
   cab:=λy c h e=>by
    obtain⟨h1,h2⟩:=of_decide_eq_true h
    have e':(i4 scope x G.objs.size++eX X.env scope.names []).lookup y=some c:=e
    unfold i4 at e'
    rw [if_pos h2,h1,List.cons_append,List.lookup_cons,beq_self_eq_true]at e'
    rw [<- Option.some.inj e']
    exact Nat.le_succ _
   hd:=I3.ok.hd
   frames:=I3.ok.frames
   stk:=.inl rfl
   exf:=λb hb'=>⟨Nat.ne_of_lt (show b<G.objs.size from Nat.lt_of_lt_of_le (fpl b hb') (by rw [hC];exact Nat.le_succ _)),λy c e=>by
    rcases look e with ⟨_,_,a⟩|a
    ·rw [a,hC];exact Nat.ne_of_gt (Nat.lt_of_lt_of_le (fpl b hb') (Nat.le_trans (Nat.le_succ _) (Nat.le_succ _)))
    ·exact(f2 b hb').2.2.2.2.1 y c (sub y c a)⟩
   bs:=I3.bs
   bsz:=Nat.le_trans I3.ok.bsz I3.sz
   noex:=λb o e hb'=>by
    have q:=(f2 b hb').2.2.2.1
    rcases q with q|q
    ·exact I3.ok.noex b o e q
    ·exact absurd (Nat.lt_of_lt_of_le (Heap.lt_size e) (Nat.le_trans I3.ok.bsz q)) (Nat.lt_irrefl _)
   exfs:=hb
   funs:=I3.stack
   frf:=I3.stkFree }
 have hlen:(gI js σ).length=(x::fvs).length:=by
  have e:=congrArg List.length hsc.slots
  simp only [List.length_map]at e
  simp [gI,e]
 have I4:Inv (X.blk x fvs scope { s2 with heap:=G,toks:=s2.toks } (upd H2 s2.heap.objs.size (.lst [])) G.objs.size fp) [] (gI js σ) (upd H2 s2.heap.objs.size (.lst [])) { s2 with heap:=h1,toks:=s2.toks }:=by
  refine⟨ok,rfl,I3.bare,Un.kept up,⟨_,hns1,λi y v e1 e2 e3=>?_⟩,λy c e=>?_,nC,λy c e=>(look e).elim (λ⟨_,_,a⟩=>by rw [a];exact I3.hok.fresh (Nat.le_succ _)) λa=>I3.freeC y c (sub y c a),λp hp=>by simp [Cx.blk]at hp,I3.hok.kept up,hlen⟩
  ·cases i with
   |zero=>simp [gI]at e2
   | succ i =>
    have e1':fvs[i]?=some y:=e1
    have hm:y∈fvs:=List.mem_of_getElem? e1'
    have hfy:=hsc.free y hm
    have hmy:(y,NameKind.free)∈scope.names:=gZ hfy
    have e2':(js.map λj=>(σ[j]?).join)[i]?=some (some v):=by simpa [gI] using e2
    rw [List.getElem?_map]at e2'
    cases ej:js[i]? with
    |none=>rw [ej]at e2';cases e2'
    | some j =>
     rw [ej]at e2'
     have e3':(σ[j]?).join=some v:=Option.some.inj e2'
     have e4:σ[j]?=some (some v):=by
      cases q:σ[j]? with
      |none=>rw [q]at e3';cases e3'
      |some z=>rw [q]at e3';exact congrArg some e3'
     have e5:X.N[j]?=some y:=by
      have q:=congrArg (λl=>l[i]?) hsc.slots
      simp only [List.getElem?_map,ej,e1',Option.map_some]at q
      exact Option.some.inj q
     obtain⟨m,hn,hl⟩:=I3.loc
     have hout:=hsc.out (y,.free) hmy rfl
     obtain⟨u,ru,lk⟩:=hl j y v e5 e4 (.inr hout)
     refine⟨u,ru,.inr ⟨?_,?_⟩⟩
     ·show(relabel scope X.env).names.lookup y=_\/(relabel scope X.env).names.lookup y=_
      exact rC (osc:=X.env.scope) hfy
     ·obtain⟨c,ec⟩:=im (env:=X.env) scope.names [] (.inl hmy)
      have nx:(y == x)=false:=beq_eq_false_iff_ne.mpr (hsc.xf _ hmy rfl)
      refine⟨c,?_,?_⟩
      ·show(i4 scope x G.objs.size++eX X.env scope.names []).lookup y=some c
       unfold i4
       split
       ·rw [List.cons_append,List.lookup_cons,nx];exact ec
       ·exact ec
      rcases lk with ⟨z,_⟩|⟨_,c',ec',q⟩
      ·have z':X.env.scope.names.lookup y=some .local:=z
       rcases hout with w|w
       ·rw [show X.env.scope.names.lookup y=some .cell from w]at z';cases z'
       ·rw [show X.env.scope.names.lookup y=some .free from w]at z';cases z'
      ·have:=sub y c ec
       rw [ec']at this
       cases this
       obtain⟨o,ho,hd⟩:=q
       exact⟨o,up _ _ ho,hd⟩
  ·rcases look e with ⟨_,q,a⟩|a
   ·exact⟨none,by rw [a];exact hcl1 q⟩
   ·obtain⟨v,o,ho,hd⟩:=I3.cell y c (sub y c a)
    exact⟨v,o,up _ _ ho,hd⟩
 have st4:tn 0 h1:=T.keep 0 _ _ st2 λb hb o e=>up b o (by rw [<- hG];exact Heap.get?_push_of_some _ e)
 have fr4:∀b∈fp,(upd H2 s2.heap.objs.size (.lst [])) b=none:=λb hb=>by
  rw [aB (Nat.ne_of_lt (fpl b hb))];exact(f2 b hb).1
 have stat:∀{H':Hp},(∀b∈fp,H' b=none)->∀b∈fp,jy (X.blk x fvs scope { s2 with heap:=G,toks:=s2.toks } (upd H2 s2.heap.objs.size (.lst [])) G.objs.size fp) [] H' b:=λhn b hb =>
  ⟨hn b hb,(ok.exf b hb).1,ok.exfs b hb,.inl hb,(ok.exf b hb).2,λp hp=>by simp [Cx.blk]at hp⟩
 have hch:∀b∈fp,(b∈X.ex\/X.s₀.heap.objs.size<=b)/\b≠X.env.locals/\(∀x c,X.env.cells.lookup x=some c->c≠b)/\∀p∈X.pn++pins,p.1≠b:=λb hb =>
  let ⟨_,q1,_,q2,q3,q4⟩:=f2 b hb;⟨q2,q1,q3,q4⟩
 have loop:∀s5:Shared,s5={ s2 with heap:=h1,toks:=s2.toks } ->
   codeAny (model X.prog X.w) X.A (.compLoop (.ListComp elt [⟨.Name x px,iter,ifs,0⟩] scope pos) 0 (.ref it) (.ref s2.heap.objs.size) (compEnvC scope (i4 scope x G.objs.size++eX X.env scope.names []) G.objs.size X.env)) (RR (.ref s2.heap.objs.size) G.objs.size) s5:=by
  rintro s5 rfl
  refine rF (λn s'=>∃i σ' H',Inv (X.blk x fvs scope { s2 with heap:=G,toks:=s2.toks } (upd H2 s2.heap.objs.size (.lst [])) G.objs.size fp) [] σ' H' s'/\tn i s'.heap/\(∀b∈fp,H' b=none)/\W i n σ' H') ?_ m0 ⟨0,_,_,I4,st4,fr4,w0⟩
  rintro n s6 ⟨i,σ6,H6,I6,st6,fr6,w6⟩
  rcases turn i n σ6 H6 w6 with ⟨stop,qn⟩|⟨go,N,hN,step⟩
  ·refine thn (T.done (X.blk x fvs scope { s2 with heap:=G,toks:=s2.toks } (upd H2 s2.heap.objs.size (.lst [])) G.objs.size fp) rfl rfl rfl hc i [] s6 σ6 H6 _ I6 (stat fr6) st6 stop) λr s7 ⟨hr,I7⟩=>?_
   subst hr
   have I8:Inv X pins σ H6 s7:=I3.call' (ch:=fp) I7.os I7.base I7.hok I7.bare hch
   obtain⟨m,hn,_⟩:=I7.loc
   exact fin _ _ H6 s7 I8 ⟨m,hn⟩ I7.free cL cS cC cP qn
  ·refine thn (T.item (X.blk x fvs scope { s2 with heap:=G,toks:=s2.toks } (upd H2 s2.heap.objs.size (.lst [])) G.objs.size fp) rfl rfl rfl hc i [] s6 σ6 H6 _ I6 (stat fr6) st6 go) λr s7 ⟨u,hr,h7⟩=>?_
   subst hr
   refine thn h7 λ_ s8 ⟨x8,H8,I8,r8,y8,st8,fr8⟩=>?_
   have I8':=I8.pinned (stat fr8) (T.obj _ _ st8)
   have pg:=mO (X:=X.blk x fvs scope { s2 with heap:=G,toks:=s2.toks } (upd H2 s2.heap.objs.size (.lst [])) G.objs.size fp) (i:=0) (x:=x) (pos:=px) hsc.nd rfl (hsc.once.elim (λq=>.inl (lookup_relabel_local q.1)) λq=>.inr (rE q.1)) (hsc.once.elim (λq=>.inr (lookup_relabel_local q.1)) λq=>.inl (decide_eq_true ⟨rfl,q.1⟩))
   refine thn (pg _ s8 σ6 H8 x8 u (λσ9 H9=>σ9=σ6.set 0 (some x8)/\H9=H8) I8' r8 ⟨rfl,rfl⟩) λ_ s9 ⟨σ9,H9,I9,e9,e9'⟩=>?_
   subst e9 e9'
   refine thn (ht _ _ _ _ _ s9 _ H9 _ I9 (step x8 H9 y8)) λok' s10 ⟨H10,I10,q10⟩=>?_
   have again:∀{s11:Shared}{H11:Hp},Inv (X.blk x fvs scope { s2 with heap:=G,toks:=s2.toks } (upd H2 s2.heap.objs.size (.lst [])) G.objs.size fp) ([]++jT fp s8.heap) (σ6.set 0 (some x8)) H11 s11->N (σ6.set 0 (some x8)) H11 ->
     ∃m,m<n/\∃i σ' H',Inv (X.blk x fvs scope { s2 with heap:=G,toks:=s2.toks } (upd H2 s2.heap.objs.size (.lst [])) G.objs.size fp) [] σ' H' s11/\tn i s11.heap/\(∀b∈fp,H' b=none)/\W i m σ' H':=λ{s11 H11} I11 n11=>by
    obtain⟨m',hm,w11⟩:=hN _ H11 n11
    refine⟨m',hm,i+1,_,H11,I11.unpinned,T.keep _ _ _ st8 λb hb o e=>(I11.pin (b,o) (List.mem_append_right _ (List.mem_append_right _ (fw hb e)))).1,λb hb=>?_,w11⟩
    obtain⟨o,e,d⟩:=T.obj _ _ st8 b hb
    exact(I11.pin (b,o) (List.mem_append_right _ (List.mem_append_right _ (fw hb e)))).2.1
   cases ok' with
   |false =>
    rw [if_neg (by simp)]at q10 ⊢
    exact again I10 q10
   |true =>
    rw [if_pos rfl]at q10 ⊢
    refine thn (he _ _ _ _ _ s10 _ H10 _ I10 q10) λy s11 ⟨yv,H11,I11,ry,ys,hys,hl,n11⟩=>?_
    refine thn (gx _ s11 _ H11 (.ref s2.heap.objs.size) [yv] (.ref s2.heap.objs.size) [y] (λ_ H12=>N (σ6.set 0 (some x8)) H12) I11 rfl (.cons ry .nil) ⟨_,ys,yv,rfl,rfl,hys,hl,n11⟩) λ_ s12 ⟨_,H12,I12,_,n12⟩=>again I12 n12
 exact codeAny_compStart_list (loop _ rfl) (T.self _ 0 _ _ _ st4 (loop _ rfl))
theorem wD(hsc:m3 X.env.scope X.N scope x fvs js)(hc:X.calm=true)(hi:PI X (.Name x px) iter wi)
  (ht:∀s₁ H₁ C fp,PF (X.blk x fvs scope s₁ H₁ C fp) ifs tt) (he:∀s₁ H₁ C fp,PE (X.blk x fvs scope s₁ H₁ C fp) elt te)
  (hs:∀v,foldedSetIterable iter X.env v=pure v:=by intro _;rfl):PE X (.ListComp elt [⟨.Name x px,iter,ifs,0⟩] scope pos) (tK wi js tt te):=by
 intro pins s σ H Q I h
 have fr:∀y∈scope.names,y.2=.free->∃c,X.env.cells.lookup y.1=some c:=λy hy hk=>I.ok.has y.1 (hsc.out y hy hk)
 rw [eval_ListComp]
 refine wpAny_comprehension_free (use:=none) rfl hs (kg fr) hsc.kind hsc.names (thn (hi pins s σ H _ I h) λv s1 h1=>thn h1 λitv s2 h2=>?_)
 obtain⟨it,fp,tn,J,H2,e,I2,T,st2,f2,hh⟩:=h2
 subst e
 refine lX (RR:=λacc C=>compPost (model X.prog X.w) X.A X.xe none (EP X pins σ Q) acc C) hsc hc ht he I2 T st2 f2 hh λD C H' s' I' hn nC cL cS cC cP q=>?_
 obtain⟨m,hn⟩:=hn
 refine⟨m,hn,λh' sb=>⟨.ref D,H',?_,rfl,q⟩⟩
 exact I'.turned (t':=s'.toks) (λb o hb e=>(sb.2 b hb).trans e) nC cL (.inr cS) cC cP
theorem pC{i:Nat}{y:Str}{py spos:Pos}(hN:X.N.Nodup)(hi':X.N[i]?=some y)(hy:Loc X.env.scope y)(hsc:m3 X.env.scope X.N scope x fvs js)(hc:X.calm=true)(hi:PI X (.Name x px) iter wi)
  (ht:∀s₁ H₁ C fp,PF (X.blk x fvs scope s₁ H₁ C fp) ifs tt) (he:∀s₁ H₁ C fp,PE (X.blk x fvs scope s₁ H₁ C fp) elt te)
  (hsw:swapsWith (.ListComp elt [⟨.Name x px,iter,ifs,0⟩] scope pos) (some (.Name y py)) spos.line X.env=pure true:=by rfl)
  (hs:∀v,foldedSetIterable iter X.env v=pure v:=by intro _;rfl) (hf:X.fn y=true\/X.env.scope.names.lookup y=some .local:=by first|exact .inl rfl|exact .inr rfl|assumption) :
  PS X (.Assign [.Name y py] (.ListComp elt [⟨.Name x px,iter,ifs,0⟩] scope pos) spos) (q_ (tK wi js tt te) (ic i)):=by
 intro pins s σ H D I h
 have fr:∀y∈scope.names,y.2=.free->∃c,X.env.cells.lookup y.1=some c:=λy hy hk=>I.ok.has y.1 (hsc.out y hy hk)
 rw [exec_Assign_Name_used _ _ _ _ hsw]
 refine wpAny_bind (wpAny_standAt (wpAny_bind ?_))
 show wpAny _ X.A (do let _ <- comprehension (.ListComp elt [⟨.Name x px,iter,ifs,0⟩] scope pos) scope X.env _ (newList []) false (eval iter X.env) (some (assign (.Name y py) X.env))) _ _ s
 refine wpAny_bind (thn (wpAny_comprehension_free (use:=some (assign (.Name y py) X.env)) (Q:=λ_ s'=>SP X pins D .next s') rfl hs (kg fr) hsc.kind hsc.names (thn (hi pins s σ H _ I h) λv s1 h1=>thn h1 λitv s2 h2=>?_)) λ_ s' q=>?_)
 ·obtain⟨it,fp,tn,J,H2,e,I2,T,st2,f2,hh⟩:=h2
  subst e
  refine lX (RR:=λacc C=>compPost (model X.prog X.w) X.A X.xe (some (assign (.Name y py) X.env)) (λ_ s'=>SP X pins D .next s') acc C) (Q:=λv H'=>ic i v σ H' D.nx) hsc hc ht he I2 T st2 f2 hh λD' C H' s' I' hn nC cL cS cC cP q=>?_
  obtain⟨m,hn⟩:=hn
  show wpAny _ _ (assign (.Name y py) X.env (.ref D')) _ _ s'
  refine wpAny_assign_Name (lH I' hN hi' hy (v:=.ref D') rfl (λs'' I'' ⟨a,sb,ha⟩=>?_) hf)
  have ne:C≠a:=by
   rcases ha with z|z
   ·rw [z];exact cL
   ·exact λw=>cC y a z w.symm
  refine⟨m,hn.sameBut sb ne,λh' sb'=>?_⟩
  exact⟨_,H',I''.turned (t':=s''.toks) (λb o hb e=>(sb'.2 b hb).trans e) nC cL (.inr cS) cC cP,q⟩
 ·exact wpAny_pure (wpAny_pure q)
end
end L2
namespace L2
open PySem PySem.Spec PyProof.Rows
noncomputable abbrev pD(K:PySem.W.Frag)(H:Hp):List V->List (List Int)->Prop:=Paired λx ts=>∃a,x=V.ref a/\SqT K H a (ts.map V.int)
theorem pD.len{K:PySem.W.Frag}{H:Hp}{xs:List V}{tss:List (List Int)}(h:pD K H xs tss):xs.length=tss.length:=Paired.length h
theorem am{H:Hp}{p:Addr}(h:H p=none)(o:HO):ae H (upd H p o):=λb u q=>by rw [aB (bD q h)];exact q
theorem ae.seqT{K:PySem.W.Frag}{H H':Hp}{a:Addr}{xs:List V}(e:ae H H')(h:SqT K H a xs):SqT K H' a xs:=by
 rcases h with (h|⟨o,h⟩)|h
 ·exact .inl (.inl (e _ _ h))
 ·exact .inl (.inr ⟨o,e _ _ h⟩)
 ·exact .inr h
section
variable{X:Cx}{pins:List (Addr×Obj)}{σ:St}{H:Hp}{s:Shared}
theorem Inv.laidD{h':Heap}{a:Addr}{o:HO}{t':Nat}{d':Drawn}(I:Inv X pins σ H s)(k:∀b u,s.heap.get? b=some u->h'.get? b=some u)(hp:s.heap.objs.size<=a)(new:bq X.prog X.w (upd H a o) h' a o) :
  Inv X pins σ (upd H a o) { s with heap:=h',toks:=t',drawn:=d' } :=
 I.call (g':=s.gens) (d':=d') (t':=t') (ch:=[]) (Un.laid k hp (I.hok.fresh hp)) (I.hok.laid k hp new) I.bare λ_ z=>nomatch z
theorem Inv.tupInts{a:Addr}{ns:List Int}(I:Inv X pins σ H s)(h:SqT X.K H a (ns.map V.int)):∃its:List Value,IsTup s.heap a its.toArray/\IntsAre its ns:=by
 obtain⟨its,r,p,_⟩:=I.tuple h
 exact⟨its,p,cK r⟩
theorem Inv.tupsAt(I:Inv X pins σ H s):∀{xs:List V}{us:List Value}{tss:List (List Int)},pD X.K H xs tss->aw xs us->Paired (λu ts=>∃a its,u=Value.ref a/\IsTup s.heap a its/\IntsAre its.toList ts) us tss
 | _,_,_,.nil,.nil=>.nil
 | _,_,_,.cons ⟨a,e1,e2⟩ t,.cons r q=>by
  obtain⟨its,p,hi⟩:=I.tupInts e2
  rw [e1]at r
  exact .cons ⟨a,its.toArray,r,p,by simpa using hi⟩ (I.tupsAt t q)
end
noncomputable def gO(P:Program)(w:World)(a:Addr)(ks:List Int):HO:=.ext λh=>St.bQ P w h a ks
theorem n8{P:Program}{w:World}{H:Hp}{h:Heap}{a:Addr}{ks:List Int}(g:St.bQ P w h a ks):bq P w H h a (gO P w a ks):=by
 obtain⟨o,es,ep,t,ho,r⟩:=id g
 exact⟨g,⟨o,ho⟩,λh1 h2 g1 k=>g1.at k⟩
theorem Inv.set{X:Cx}{pins:List (Addr×Obj)}{σ:St}{H:Hp}{s:Shared}{a:Addr}{ks:List Int}(I:Inv X pins σ H s)(h:H a=some (gO X.prog X.w a ks)):St.bQ X.prog X.w s.heap a ks :=
 (show bq X.prog X.w H s.heap a (gO X.prog X.w a ks) from I.hok a _ h).1
section
variable{X:Cx}
theorem tL (hc:X.calm=true):bR X (.type "set") (λxs H Q=>∃(p:Addr) (ns:List Int),xs=[.ref p]/\(SqL X.K H p (ns.map V.int)\/SqT X.K H p (ns.map V.int))/\ns.length<=1000/\∀l:Addr,H l=none->Q (.ref l) (upd H l (gO X.prog X.w l (St.dd ns.reverse)))):=by
 intro pins s σ H xs us Q I r h
 obtain⟨p,ns,rfl,hq,hz,q⟩:=h
 obtain⟨u,rfl,rx⟩:=eD r
 cases rx
 have hh:=I.ok.hd hc
 rcases hq with hq|hq
 ·obtain⟨its,r',pl,_⟩:=I.list hq
  have hi:=cK r'
  have hl:=hi.length
  refine St.set_list hh pl.isList (ns:=ns) (by simpa using hi) (by simp;unfold scanBound;omega) λh' tk g kp=>?_
  exact⟨.ref s.heap.objs.size,_,I.laidD (d':=s.drawn) kp (Nat.le_refl _) (n8 g),rfl,q _ (I.hok.fresh (Nat.le_refl _))⟩
 ·obtain⟨its,r',pl,_⟩:=I.tuple hq
  have hi:=cK r'
  have hl:=hi.length
  refine St.rq hh (show s.heap.IsTuple p its.toArray from pl) (ns:=ns) (by simpa using hi) (by simp;unfold scanBound;omega) λh' tk g kp=>?_
  exact⟨.ref s.heap.objs.size,_,I.laidD (d':=s.drawn) kp (Nat.le_refl _) (n8 g),rfl,q _ (I.hok.fresh (Nat.le_refl _))⟩
end
namespace Srt
noncomputable def sortI(l:List Int):List Int:=fY da l
noncomputable def sortT(l:List (List Int)):List (List Int):=fY dZ l
noncomputable def leT(a b:List Int):Prop:=HT.lexLt b a=false
theorem sortI_perm(l:List Int):(sortI l).Perm l:=d4 da l
theorem sortT_perm(l:List (List Int)):(sortT l).Perm l:=d4 dZ l
theorem sortI_len(l:List Int):(sortI l).length=l.length:=(sortI_perm l).length_eq
theorem sortT_len(l:List (List Int)):(sortT l).length=l.length:=(sortT_perm l).length_eq
theorem sortT_rises(l:List (List Int)):(sortT l).Pairwise leT:=dA dZ l
theorem sortI_of_perm{a b:List Int}(p:a.Perm b):sortI a=sortI b:=lu da p
theorem wE{a b:Int}:da.kle a b ↔ a<=b:=by
 show decide (b<a)=false ↔ a<=b
 rw [decide_eq_false_iff_not]
 omega
theorem sortI_rises(l:List Int):(sortI l).Pairwise (· <= ·):=(dA da l).imp λh=>wE.mp h
section
variable{P:Program}{w:World}{A:Around}{E:Value->Shared->Prop}{s:Shared}
theorem n9{ks ns:List Int}(hp:ns.Perm ks)(hs:ns.Pairwise (· <= ·)):ns=sortI ks:=by
 refine j5 da hp (hs.imp λ{a b} h=>?_)
 show decide (b<a)=false
 exact decide_eq_false (by omega)
theorem kj{x:Value}{ks:List Int}{Q:Value->Shared->Prop}(h64:ks.length<64)
  (hcol:∀(Q':List Value->Shared->Prop),(∀(h':Heap) (tk:Nat) (d':Drawn) (acc:List Value) (order:List Int),(∀b o,s.heap.get? b=some o->h'.get? b=some o)->order.Perm ks->IntsAre acc order->Q' acc { s with heap:=h',toks:=tk,drawn:=d' }) ->
   wpAny (model P w) A.in1 (collect x) Q' E s)
  (h:∀(h1 h':Heap) (tk:Nat) (d':Drawn) (out:List Value) (c:Nat),(∀b o,s.heap.get? b=some o->h1.get? b=some o)->(∀b o,h1.get? b=some o->h'.get? b=some o)->h'.get? h1.objs.size=some { cls:=.type "list",data:=.seq out.toArray c } ->
   IntsAre out (sortI ks)->Q (.ref h1.objs.size) { s with heap:=h',toks:=tk,drawn:=d' }) :
  wpAny (model P w) A (call (.builtin "sorted") [x]) Q E s:=by
 refine Calls.call_function_entry kind_sorted plain_sorted entry_sorted (args_sorted1 _) ?_
 unfold Builtin.«sorted»
 refine wpAny_bind (m:=checkCount "sorted" 1 1 _) (wpAny_pure ?_)
 refine wpAny_bind (hcol _ λh1 tk d1 acc order kp hp hi=>?_)
 have hla:acc.length=order.length:=hi.length
 have hlo:order.length=ks.length:=hp.length_eq
 refine wpAny_bind (wpAny_newList ?_ (by rw [sizeLine_eq];omega))
 have hoL:(h1.push (seqObj "list" acc.toArray 0)).get? h1.objs.size=some (seqObj "list" acc.toArray 0):=Heap.get?_push_size _ rfl
 refine wpAny_bind (wpAny_holding (wpAny_call_entry slot_list_sort ⟨_,hoL,rfl⟩ entry_list_sort (list_sort_tree hoL hi (by omega) λout ns' hi' hp' hs'=>⟨_,rfl,?_⟩) (args_list_sort _)))
 obtain⟨c,hc⟩:=sortedHeap_at (out:=out) (vs:=acc) hoL
 refine wpAny_pure ⟨_,rfl,h h1 _ tk d1 out.toList c kp (λb o e=>?_) ?_ ?_⟩
 ·have hb:b<h1.objs.size:=Heap.lt_size e
  rw [sortedHeap_old (Nat.ne_of_lt hb) (by rw [Heap.size_push];exact Nat.lt_succ_of_lt hb)]
  exact Heap.get?_push_of_some _ e
 ·rw [Array.toArray_toList];exact hc
 ·rw [<- n9 (hp'.trans hp) hs'];exact hi'
theorem km{x:Value}{vs:List Value}{tss:List (List Int)}{Q:Value->Shared->Prop}(h64:vs.length<64)(hu:A.units+2<cLine)
  (hv:Paired (λu ts=>∃a its,u=Value.ref a/\IsTup s.heap a its/\IntsAre its.toList ts) vs tss)
  (hcol:∀(Q':List Value->Shared->Prop),(∀(h':Heap),(∀b o,s.heap.get? b=some o->h'.get? b=some o)->Q' vs { s with heap:=h' })->wpAny (model P w) A.in1 (collect x) Q' E s)
  (h:∀(h1 h':Heap) (p:Array Nat) (c:Nat),(∀b o,s.heap.get? b=some o->h1.get? b=some o)->(∀b o,h1.get? b=some o->h'.get? b=some o)->h'.get? h1.objs.size=some { cls:=.type "list",data:=.seq (p.toList.map λi=>vs.getD i Value.none).toArray c } ->
   PB vs.length p->p.toList.map (λi=>tss.getD i [])=sortT tss->Q (.ref h1.objs.size) { s with heap:=h' }) :
  wpAny (model P w) A (call (.builtin "sorted") [x]) Q E s:=by
 have hlen:vs.length=tss.length:=Paired.length hv
 refine Calls.call_function_entry kind_sorted plain_sorted entry_sorted (args_sorted1 _) ?_
 unfold Builtin.«sorted»
 refine wpAny_bind (m:=checkCount "sorted" 1 1 _) (wpAny_pure ?_)
 refine wpAny_bind (hcol _ λh1 kp=>?_)
 refine wpAny_bind (wpAny_newList ?_ (by rw [sizeLine_eq];omega))
 have hoL:(h1.push (seqObj "list" vs.toArray 0)).get? h1.objs.size=some (seqObj "list" vs.toArray 0):=Heap.get?_push_size _ rfl
 have at_:∀(s':Shared),(∀b o,b≠h1.objs.size->(h1.push (seqObj "list" vs.toArray 0)).get? b=some o->s'.heap.get? b=some o)->∀i,i<vs.length->∃a its,vs.getD i Value.none=.ref a/\IsTup s'.heap a its/\IntsAre its.toList (tss.getD i []):=λs' k i hi=>by
  have gen:∀{us:List Value}{uss:List (List Int)},Paired (λu ts=>∃a its,u=Value.ref a/\IsTup s.heap a its/\IntsAre its.toList ts) us uss->∀i,i<us.length->∃a its,us.getD i Value.none=.ref a/\IsTup s.heap a its/\IntsAre its.toList (uss.getD i []):=by
   intro us uss hp
   induction hp with
   |nil=>intro i hi;simp at hi
   |cons q _ ih =>
    intro i hi
    cases i with
    |zero=>obtain⟨a,its,e,r⟩:=q;exact⟨a,its,by simpa using e,by simpa using r⟩
    |succ i=>obtain⟨a,its,e,r⟩:=ih i (by simpa using hi);exact⟨a,its,by simpa using e,by simpa using r⟩
  obtain⟨a,its,e,⟨o,ho,r⟩,hin⟩:=gen hv i hi
  have ho1:=kp a o ho
  exact⟨a,its,e,⟨o,k a o (Nat.ne_of_lt (Heap.lt_size ho1)) (Heap.get?_push_of_some _ ho1),r⟩,hin⟩
 refine wpAny_bind (wpAny_holding (wpAny_call_entry slot_list_sort ⟨_,hoL,rfl⟩ entry_list_sort (mW (O:=dZ) (key:=λi=>tss.getD i []) hoL h64 (λh2 s' Q' k q=>rn h2 (λv hm=>?_) q) (λκ hκ s' i j C k hi hj q=>?_) λp hp hr=>⟨_,rfl,?_⟩) (args_list_sort _)))
 ·obtain⟨i,hi,e⟩:=List.getElem_of_mem hm
  obtain⟨a,its,e',r1,r2⟩:=at_ s' k i hi
  exact⟨a,its,_,by rw [<- e',<- e];simp [hi],r1,r2⟩
 ·obtain⟨a,its,e,r1,r2⟩:=at_ s' k i hi
  obtain⟨a',its',e',r1',r2'⟩:=at_ s' k j hj
  rw [e,e']
  exact wA hκ r1 r1' r2 r2' (show A.units+1+1<cLine from hu) q
 ·obtain⟨c,hc⟩:=sortedHeap_at (out:=(p.toList.map λi=>vs.getD i Value.none).toArray) (vs:=vs) hoL
  have hp':PB tss.length p:=by rw [<- hlen];exact hp
  have hr':eE (O:=dZ) (λi=>tss.getD i []) p tss.length:=by rw [<- hlen];exact hr
  refine wpAny_pure ⟨_,rfl,h h1 _ p c kp (λb o e=>?_) hc hp (yO (O:=dZ) (d:=([]:List Int)) (xs:=tss) hp' hr')⟩
  have hb:b<h1.objs.size:=Heap.lt_size e
  rw [sortedHeap_old (Nat.ne_of_lt hb) (by rw [Heap.size_push];exact Nat.lt_succ_of_lt hb)]
  exact Heap.get?_push_of_some _ e
end
end Srt
section
variable{X:Cx}
theorem Inv.keptD{pins:List (Addr×Obj)}{σ:St}{H:Hp}{s:Shared}{h':Heap}{t':Nat}{d':Drawn}(I:Inv X pins σ H s)(k:∀b u,s.heap.get? b=some u->h'.get? b=some u):Inv X pins σ H { s with heap:=h',toks:=t',drawn:=d' } :=
 I.call (g':=s.gens) (d':=d') (t':=t') (ch:=[]) (Un.kept k) (I.hok.kept k) I.bare λ_ z=>nomatch z
theorem rG:∀{vs:List Value}{ns:List Int},IntsAre vs ns->aw (ns.map V.int) vs:=iU
noncomputable def yR(X:Cx):List V->Hp->VK->Prop:=λxs H Q=>∃(p:Addr) (ks:List Int),xs=[.ref p]/\(SqL X.K H p (ks.map V.int)\/SqT X.K H p (ks.map V.int)\/H p=some (gO X.prog X.w p ks))/\ks.length<64/\∀l:Addr,H l=none->Q (.ref l) (upd H l (.lst ((Srt.sortI ks).map V.int)))
theorem ip (hc:X.calm=true):bR X (.builtin "sorted") (yR X):=by
 intro pins s σ H xs us Q I r h
 obtain⟨p,ks,rfl,hq,h64,q⟩:=h
 obtain⟨u,rfl,rx⟩:=eD r
 cases rx
 have hh:=I.ok.hd hc
 refine Srt.kj (ks:=ks) h64 (λQ' hQ'=>?_) λh1 h' tk d' out c k1 k2 e hi=>?_
 ·rcases hq with hq|hq|hq
  ·obtain⟨its,r',pl,hz⟩:=I.list hq
   obtain⟨o,ho,hcl,n,hd⟩:=pl.isList
   refine wpAny_collect_seq p (.inl rfl) ho hcl hd (λh' kp=>?_) (by have:=r'.length;simp only [List.size_toArray]<;>omega)
   exact hQ' h' s.toks s.drawn _ ks kp (.refl _) (by simpa using cK r')
  ·obtain⟨its,r',pl,hz⟩:=I.tuple hq
   obtain⟨o,ho,hcl,n,hd⟩:=pl
   refine wpAny_collect_seq p (.inr rfl) ho hcl hd (λh' kp=>?_) (by have:=r'.length;simp only [List.size_toArray]<;>omega)
   exact hQ' h' s.toks s.drawn _ ks kp (.refl _) (by simpa using cK r')
  ·exact St.n6 (by first|exact hh|simpa using hh) (I.set hq) λh' tk d' acc order kp hp hi=>hQ' h' tk d' acc order kp hp hi
 ·have I1:Inv X pins σ H { s with heap:=h1,toks:=tk,drawn:=d' }:=I.keptD k1
  have I2:Inv X pins σ (upd H h1.objs.size (.lst ((Srt.sortI ks).map V.int))) { s with heap:=h',toks:=tk,drawn:=d' } :=
   I1.laid (t':=tk) k2 (Nat.le_refl _) (show bq X.prog X.w _ h' _ (.lst _) from⟨by rw [List.length_map,Srt.sortI_len,sizeLine_eq];omega,out,c,rG hi,e⟩)
  exact⟨.ref h1.objs.size,_,I2,rfl,q _ (I1.hok.fresh (Nat.le_refl _))⟩
noncomputable def yS(X:Cx):List V->Hp->VK->Prop:=λxs H Q=>∃(p:Addr) (vs:List V) (tss:List (List Int)),xs=[.ref p]/\(SqL X.K H p vs\/SqT X.K H p vs)/\pD X.K H vs tss/\tss.length<64 /\
 ∀(l:Addr) (pm:List Nat),H l=none->(∀i∈pm,i<vs.length)->pm.map (λi=>tss.getD i [])=Srt.sortT tss->Q (.ref l) (upd H l (.lst (pm.map λi=>vs.getD i .non)))
theorem lY{vs:List V}{us:List Value}(h:aw vs us):∀(l:List Nat),(∀i∈l,i<vs.length)->aw (l.map λi=>vs.getD i .non) (l.map λi=>us.getD i Value.none)
 | [],_=>.nil
 |i::l,hl=>by
  have hi:=hl i (.head _)
  obtain⟨u,e1,e2⟩:=h.get (i:=i) (x:=vs[i]) (List.getElem?_eq_getElem hi)
  refine .cons ?_ (lY h l λj hj=>hl j (.tail _ hj))
  have q1:vs.getD i .non=vs[i]:=by simp [hi]
  have q2:us.getD i Value.none=u:=by rw [List.getD_eq_getElem?_getD,e1];rfl
  show aq (vs.getD i V.non) (us.getD i Value.none)
  rw [q1,q2];exact e2
theorem m4 (hu:X.A.units+64<cLine):bR X (.builtin "sorted") (yS X):=by
 intro pins s σ H xs us Q I r h
 obtain⟨p,vs,tss,rfl,hq,ht,h64,q⟩:=h
 obtain⟨u,rfl,rx⟩:=eD r
 cases rx
 have key:∀(its:List Value),aw vs its->vs.length<=sizeLine->(∀(Q':List Value->Shared->Prop),(∀(h':Heap),(∀b o,s.heap.get? b=some o->h'.get? b=some o)->Q' its { s with heap:=h' })->wpAny (model X.prog X.w) X.A.in1 (collect (.ref p)) Q' X.xe s) ->
   wpAny (model X.prog X.w) X.A (call (.builtin "sorted") [.ref p]) (EP X pins σ Q) X.xe s:=λits r' hz hcol=>by
  have hl:=r'.length
  have hl2:=ht.len
  refine Srt.km (vs:=its) (tss:=tss) (by omega) (by omega) (I.tupsAt ht r') hcol λh1 h' pm c k1 k2 e hp ho=>?_
  have hpl:∀i∈pm.toList,i<vs.length:=λi hi=>by
   have:=(Array.perm_iff_toList_perm.mp hp).mem_iff.mp hi
   have:=List.mem_range.mp (by simpa using this)
   omega
  have I1:Inv X pins σ H { s with heap:=h1 }:=I.kept (t':=s.toks) k1
  have I2:Inv X pins σ (upd H h1.objs.size (.lst (pm.toList.map λi=>vs.getD i .non))) { s with heap:=h' } :=
   I1.laid (t':=s.toks) k2 (Nat.le_refl _) (show bq X.prog X.w _ h' _ (.lst _) from⟨by have:=hp.size;rw [List.length_map,Array.length_toList,sizeLine_eq];omega,_,c,lY r' _ hpl,e⟩)
  exact⟨.ref h1.objs.size,_,I2,rfl,q _ pm.toList (I1.hok.fresh (Nat.le_refl _)) hpl ho⟩
 rcases hq with hq|hq
 ·obtain⟨its,r',pl,hz⟩:=I.list hq
  obtain⟨o,ho,hcl,n,hd⟩:=pl.isList
  refine key its r' hz λQ' hQ'=>wpAny_collect_seq p (.inl rfl) ho hcl hd (λh' kp=>?_) (by have:=r'.length;simp only [List.size_toArray]<;>omega)
  have:=hQ' h' kp
  simpa using this
 ·obtain⟨its,r',pl,hz⟩:=I.tuple hq
  obtain⟨o,ho,hcl,n,hd⟩:=pl
  refine key its r' hz λQ' hQ'=>wpAny_collect_seq p (.inr rfl) ho hcl hd (λh' kp=>?_) (by have:=r'.length;simp only [List.size_toArray]<;>omega)
  have:=hQ' h' kp
  simpa using this
end
end L2
namespace L2.St
open PySem PyProof.Rows
structure bt(P:Program)(w:World)(h:Heap)(a:Addr)(ks:List Int)(o:Obj)(es:Array (Int×Value))(ep:Nat)(t:SetTable):Prop where
 ho:h.get? a=some o
 ex:o.ExactSet
 hd:o.data=.set es ep t
 el:ElemsOf (intKind P w) es.toList
 pm:(es.toList.map λe=>numOf e.2).Perm ks
 nd:ks.Nodup
 bd:es.size<scanBound
 fi:t.fits es.size=true
theorem bQ.w{P:Program}{w:World}{h:Heap}{a:Addr}{ks:List Int}(g:bQ P w h a ks):∃o es ep t,bt P w h a ks o es ep t/\Gd (!byT w) t:=by
 obtain⟨o,es,ep,t,ho,hex,hd,hel,hp,hn,hb,hf,hg⟩:=g
 exact⟨o,es,ep,t,⟨ho,hex,hd,hel,hp,hn,hb,hf⟩,hg⟩
theorem bt.len{P:Program}{w:World}{h:Heap}{a:Addr}{ks:List Int}{o:Obj}{es:Array (Int×Value)}{ep:Nat}{t:SetTable}(g:bt P w h a ks o es ep t):es.size=ks.length:=by
 have:=g.pm.length_eq;simpa using this
theorem bt.at{P:Program}{w:World}{h h':Heap}{a:Addr}{ks:List Int}{o:Obj}{es:Array (Int×Value)}{ep:Nat}{t:SetTable}(g:bt P w h a ks o es ep t)(k:∀o,h.get? a=some o->h'.get? a=some o):bt P w h' a ks o es ep t :=
 ⟨k o g.ho,g.ex,g.hd,g.el,g.pm,g.nd,g.bd,g.fi⟩
section
variable{P:Program}{w:World}{A:Around}{E:Value->Shared->Prop}{s:Shared}
variable{a:Addr}{ks:List Int}{o:Obj}{es:Array (Int×Value)}{ep:Nat}{t:SetTable}
theorem tM(g:bt P w s.heap a ks o es ep t)(hl:t.led=!byT w){Q:Array (Int×Value)->Shared->Prop}(h:∀es' d',es'.toList.Perm es.toList->Q es' { s with drawn:=d' }):wpAny (model P w) A (setWalk a) Q E s:=by
 unfold setWalk
 refine wpAny_bind (wpAny_setState_of g.ho g.hd g.fi ?_)
 dsimp only
 refine wpAny_bind (cO ?_)
 cases hb:byT w with
 |true =>
  rw [if_pos rfl]
  refine wpAny_bind (wpAny_askSetting (wpAny_pure ?_))
  exact h _ s.drawn (lU _ _)
 | false =>
  rw [if_neg (by simp)]
  refine wpAny_ite_split (λ_=>?_) (λ_=>?_)
  ·refine wpAny_bind (gX es.size es.toList s (by simp) λys d' hp=>?_)
   exact wpAny_pure (h _ d' (by simpa using hp))
  ·refine wpAny_bind ?_
   rw [hb]at hl
   show wpAny _ _ (if (!t.led&&decide (es.size > 1))=true then _ else _) _ _ s
   rw [if_neg (by rw [hl];simp)]
   exact wpAny_pure (wpAny_pure (h es s.drawn (.refl _)))
theorem qh:∀(sets:List Addr),(∀b∈sets,∃ks o es ep t,bt P w s.heap b ks o es ep t)->∀{Q:Bool->Shared->Prop},Q true s->wpAny (model P w) A (setsQuiet sets) Q E s:=by
 intro sets hs Q hq
 unfold setsQuiet
 refine wpAny_bind (wpAny_forIn_list _ (λcx b s'=>(∀c∈cx,c∈sets)/\b.1=none/\s'=s) _ ?_ ?_ sets _ ⟨λc hc=>hc,rfl,rfl⟩)
 ·rintro c cx b s' ⟨hc,hb,rfl⟩
  obtain⟨ks,o,es,ep,t,g⟩:=hs c (hc c (.head _))
  refine wpAny_bind (wpAny_setEntries_of g.ho g.hd g.fi ?_)
  refine wpAny_bind (wpAny_forIn_array' _ (λcx b s''=>(∀e∈cx,e∈es.toList)/\b.1=none/\s''=s') _ ?_ ?_ es _ ⟨λe he=>he,rfl,rfl⟩)
  ·rintro e rest' b' s'' ⟨he,hb',rfl⟩
   obtain⟨t',q⟩:=dS g.el e (he e (.head _))
   obtain⟨hx,x⟩:=e
   dsimp only at q ⊢
   rw [q]
   exact wpAny_pure ⟨λe' he'=>he e' (.tail _ he'),rfl,rfl⟩
  ·rintro b' s'' ⟨_,hb',rfl⟩
   dsimp only
   rw [hb']
   exact wpAny_pure ⟨λc' hc'=>hc c' (.tail _ hc'),rfl,rfl⟩
 ·rintro b s' ⟨_,hb,rfl⟩
  dsimp only
  rw [hb]
  exact wpAny_pure hq
theorem tN(g:bt P w s.heap a ks o es ep t)(hl:t.led=!byT w){others:List Addr}(hs:∀b∈others,∃ks o es ep t,bt P w s.heap b ks o es ep t){Q:Array (Int×Value)->Shared->Prop}
  (h:∀es' d',es'.toList.Perm es.toList->Q es' { s with drawn:=d' }):wpAny (model P w) A (setWalkUnseen a others none) Q E s:=by
 unfold setWalkUnseen
 refine wpAny_bind (wpAny_setState_of g.ho g.hd g.fi ?_)
 dsimp only
 refine wpAny_bind (cO ?_)
 refine wpAny_ite_split (λ_=>?_) (λ_=>?_)
 ·exact tM g hl h
 ·refine wpAny_bind (qh (a::others) (λb hb=>?_) ?_)
  ·rcases List.mem_cons.mp hb with rfl|hb
   ·exact⟨_,_,_,_,_,g⟩
   ·exact hs b hb
  ·simp only [Bool.not_true,Bool.false_eq_true,if_false]
   refine wpAny_bind (wpAny_rule ?_)
   exact wpAny_pure (h es s.drawn (.refl _))
theorem tO(g:bt P w s.heap a ks o es ep t)(hl:t.led=!byT w){others:List Addr}(hs:∀b∈others,∃ks o es ep t,bt P w s.heap b ks o es ep t){f:Addr}(hf:bQ P w s.heap f []){Q:Array (Int×Value)->Shared->Prop}
  (h:∀es' d' h',es'.toList.Perm es.toList->Heap.SameBut f s.heap h'->bQ P w h' f []->Q es' { s with drawn:=d',heap:=h' }):wpAny (model P w) A (setWalkUnseen a others (some f)) Q E s:=by
 unfold setWalkUnseen
 refine wpAny_bind (wpAny_setState_of g.ho g.hd g.fi ?_)
 dsimp only
 refine wpAny_bind (cO ?_)
 refine wpAny_ite_split (λ_=>?_) (λ_=>?_)
 ·exact tM g hl λes' d' hp=>h es' d' s.heap hp (Heap.SameBut.refl f s.heap) hf
 ·refine wpAny_bind (qh (a::others) (λb hb=>?_) ?_)
  ·rcases List.mem_cons.mp hb with rfl|hb
   ·exact⟨_,_,_,_,_,g⟩
   ·exact hs b hb
  ·simp only [Bool.not_true,Bool.false_eq_true,if_false]
   refine wpAny_bind (wpAny_rule ?_)
   obtain⟨of,ef,epf,tf,gf,gd⟩:=hf.w
   refine wpAny_bind (wpAny_setState_of gf.ho gf.hd gf.fi ?_)
   dsimp only
   refine wpAny_ite_split (λ_=>?_) (λ_=>?_)
   ·have hfi:({ tf with led:=tf.led&&t.led,plain:=tf.plain&&t.plain }:SetTable).fits ef.size=true:=gf.fi
    have hgd:Gd (!byT w) ({ tf with led:=tf.led&&t.led,plain:=tf.plain&&t.plain }:SetTable):=⟨by show(tf.led&&t.led)=_;rw [gd.led,hl];simp,gd.dum,gd.rise⟩
    refine wpAny_bind (wpAny_storeSet_of gf.ho gf.hd ?_ (fits_of_scanBound gf.bd))
    have g2:=qe (P:=P) (w:=w) gf.ho gf.ex gf.hd ⟨gf.el,gf.pm,gf.nd,gf.bd,hfi,hgd⟩
    exact wpAny_pure (h es s.drawn _ (.refl _) (Heap.SameBut.update _ f _) g2)
   ·exact wpAny_pure (h es s.drawn s.heap (.refl _) (Heap.SameBut.refl f s.heap) hf)
theorem tP(g:bt P w s.heap a ks o es ep t){k:Int}{tk:Tok}{Q:Option Nat->Shared->Prop}(h:Q (es.toList.findIdx? λe=>(intKind P w).is k e.2) s):wpAny (model P w) A (setFind a (.int k tk) (hashInt k)) Q E s:=by
 have hkey:(intKind P w).is k (.int k tk)=true:=intKind_is _ _ _ _
 have hsc:(Value.int k tk).scannable=true:=rfl
 unfold setFind setFindIn
 refine wpAny_bind (wpAny_setState_of g.ho g.hd g.fi ?_)
 dsimp only
 rw [byScan_of hsc g.bd g.el]
 simp only [↓reduceIte]
 refine wpAny_bind (wpAny_rule ?_)
 refine wpAny_bind (wpAny_setScan_of (knd:=intKind P w) hkey g.ho g.hd g.fi g.el ?_)
 cases hr:List.findIdx? (λe=>(intKind P w).is k e.2) es.toList with
 |some j =>
  rw [hr]at h
  dsimp only
  rw [Nat.zero_add]
  exact wpAny_pure h
 |none =>
  rw [hr]at h
  exact wpAny_pure h
theorem bt.mem(g:bt P w s.heap a ks o es ep t){k:Int}:k∈ks ↔ ∃e∈es.toList,(intKind P w).is k e.2=true:=by
 rw [<- g.pm.mem_iff,List.mem_map]
 constructor
 ·rintro ⟨e,he,q⟩;exact⟨e,he,(gU g.el he k).mpr q⟩
 ·rintro ⟨e,he,q⟩;exact⟨e,he,(gU g.el he k).mp q⟩
theorem n_(g:bt P w s.heap a ks o es ep t)(k:Int):(es.toList.findIdx? λe=>(intKind P w).is k e.2).isSome=decide (k∈ks):=by
 rw [Bool.eq_iff_iff,decide_eq_true_iff,g.mem,List.findIdx?_isSome,List.any_eq_true]
end
end L2.St
namespace L2.St
open PySem PyProof.Rows
section
variable{P:Program}{w:World}{A:Around}{E:Value->Shared->Prop}{s:Shared}
theorem bt.type {a:Addr}{ks:List Int}{o:Obj}{es:Array (Int×Value)}{ep:Nat}{t:SetTable} (g:bt P w s.heap a ks o es ep t):s.TypeIs (.ref a) "set":=⟨o,g.ho,g.ex.1⟩
theorem iq {a:Addr} (hT:s.TypeIs (.ref a) "set") {Q:Bool->Shared->Prop} (h:Q true s):wpAny (model P w) A (Builtin.Frozenset.isAnySet (.ref a)) Q E s:=by
 unfold Builtin.Frozenset.isAnySet
 refine wpAny_bind (wpAny_isInstance (T:="set") (b:=true) hT F.sub_set_set ?_)
 exact wpAny_pure h
theorem og {a:Addr} (hT:s.TypeIs (.ref a) "set") {Q:Value->Shared->Prop} (h:Q (.type "set") s):wpAny (model P w) A (Builtin.Frozenset.baseOf a) Q E s:=by
 unfold Builtin.Frozenset.baseOf
 refine wpAny_bind (wpAny_isInstance (T:="set") (b:=true) hT F.sub_set_set ?_)
 exact wpAny_pure h
theorem eY{a:Addr}{ks:List Int}{o:Obj}{es:Array (Int×Value)}{ep:Nat}{t:SetTable}(g:bt P w s.heap a ks o es ep t){Q:Nat->Shared->Prop}(h:Q ks.length s):wpAny (model P w) A (Builtin.Frozenset.sizeOf a) Q E s:=by
 unfold Builtin.Frozenset.sizeOf
 refine wpAny_bind (wpAny_setEntries_of g.ho g.hd g.fi ?_)
 rw [<- g.len]at h
 exact wpAny_pure h
theorem yT{id:String}{a:Addr}{ks:List Int}{o:Obj}{es:Array (Int×Value)}{ep:Nat}{t:SetTable}(g:bt P w s.heap a ks o es ep t){α:Type}{x:α}{R:α->Shared->Prop}(h:R x s):wpAny (model P w) A (Builtin.Frozenset.unchanged id a ep >>= λ_=>pure x) R E s:=by
 unfold Builtin.Frozenset.unchanged
 refine wpAny_bind (wpAny_bind (wpAny_setEpoch_of g.ho g.hd g.fi ?_))
 simp only [bne_self_eq_false,Bool.false_eq_true,if_false]
 exact wpAny_pure (wpAny_pure h)
theorem yU{id:String}{a b:Addr}{ks js:List Int}{Q:Value->Shared->Prop}(ga:bQ P w s.heap a ks)(gb:bQ P w s.heap b js)(hsz:¬ ks.length / 4 > js.length)
  (h:∀h' d' ls,(∀c o,s.heap.get? c=some o->h'.get? c=some o)->ls.Perm (ks.filter λk=>!decide (k∈js))->bQ P w h' s.heap.objs.size ls->Q (.ref s.heap.objs.size) { s with heap:=h',drawn:=d' }) :
  wpAny (model P w) A (Builtin.Frozenset.difference id a (.ref b)) Q E s:=by
 obtain⟨oa,ea,epa,ta,wa,gda⟩:=ga.w
 obtain⟨ob,eb,epb,tb,wb,gdb⟩:=gb.w
 unfold Builtin.Frozenset.difference
 refine wpAny_bind (iq wb.type ?_)
 simp only [Bool.not_true,Bool.false_eq_true,if_false,Bool.false_and,if_true,Builtin.Frozenset.addrOf,pure_bind]
 refine wpAny_bind (eY wb ?_)
 refine wpAny_bind (eY wa ?_)
 rw [if_neg hsz]
 refine wpAny_bind (og wa.type ?_)
 refine wpAny_bind (mY ?_)
 have keep:∀c o,s.heap.get? c=some o->(s.heap.push (bc w)).get? c=some o:=λc o e=>Heap.get?_push_of_some _ e
 have wa1:=wa.at (keep a)
 have wb1:=wb.at (keep b)
 have gn:bQ P w (s.heap.push (bc w)) s.heap.objs.size []:=n5 _
 have ha:a≠s.heap.objs.size:=Nat.ne_of_lt (Heap.lt_size wa.ho)
 have hb:b≠s.heap.objs.size:=Nat.ne_of_lt (Heap.lt_size wb.ho)
 refine wpAny_bind (wpAny_pure ?_)
 refine wpAny_bind (wpAny_setEpoch_of (s:={ s with heap:=s.heap.push (bc w) }) wa1.ho wa1.hd wa1.fi ?_)
 refine wpAny_bind (wpAny_holding ?_)
 refine wpAny_bind (tO (s:={ s with heap:=s.heap.push (bc w) }) wa1 gda.led (others:=[b,s.heap.objs.size]) (λc hc=>?_) gn λes' d0 h0 hp sb0 g0=>?_)
 ·rcases List.mem_cons.mp hc with rfl|hc
  ·exact⟨_,_,_,_,_,wb1⟩
  ·rw [List.mem_singleton.mp hc]
   obtain⟨_,_,_,_,q,_⟩:=gn.w
   exact⟨_,_,_,_,_,q⟩
 have hel:ElemsOf (intKind P w) es'.toList:=wa.el.perm hp
 have hK:(es'.toList.map λe=>numOf e.2).Perm ks:=(hp.map _).trans wa.pm
 have hKn:(es'.toList.map λe=>numOf e.2).Nodup:=hK.nodup_iff.mpr wa.nd
 refine wpAny_bind (wpAny_forIn_array' _ (λcx _ s'=>∃dn h' d' ls,dn++cx=es'.toList/\s'={ s with heap:=h',drawn:=d' }/\Heap.SameBut s.heap.objs.size (s.heap.push (bc w)) h'/\bQ P w h' s.heap.objs.size ls/\ls.Perm ((dn.map λe:Int×Value=>numOf e.2).filter λk=>!decide (k∈js))) _ ?_ ?_ es' _ ⟨[],h0,d0,[],rfl,rfl,sb0,g0,by simp⟩)
 ·rintro ⟨hx,x⟩ cx u s' ⟨dn,h',d',ls,e1,rfl,sb,gl,pl⟩
  have hmem:(hx,x)∈es'.toList:=by rw [<- e1];simp
  obtain⟨t',q⟩:=dS hel _ hmem
  obtain⟨⟨k0,hk0,hh0⟩,_⟩:=hel _ hmem
  have hk1:=(gU hel hmem k0).mp hk0
  dsimp only at q hk1 hh0
  generalize numOf x=k at q hk1
  subst q hk1
  have hh0:hx=hashInt k:=hh0
  subst hh0
  have keep':∀c o,c≠s.heap.objs.size->s.heap.get? c=some o->h'.get? c=some o:=λc o hc e=>(sb.2 c hc).trans (keep c o e)
  have wa2:bt P w h' a ks oa ea epa ta:=wa.at λo e=>keep' a o ha e
  have wb2:bt P w h' b js ob eb epb tb:=wb.at λo e=>keep' b o hb e
  dsimp only
  have hks:numOf (Value.int k t')=k:=rfl
  have hnk:k∉ls:=λz=>by
   have:=pl.mem_iff.mp z
   have:=(List.mem_filter.mp this).1
   rw [<- e1,List.map_append,List.map_cons]at hKn
   exact(List.nodup_append.mp hKn).2.2 k this k (by rw [hks];exact .head _) rfl
  refine wpAny_bind (wpAny_holding ?_)
  refine wpAny_bind (tP (s:={ s with heap:=h',drawn:=d' }) wb2 ?_)
  rw [n_ (s:={ s with heap:=h',drawn:=d' }) wb2 k]
  by_cases hj:k∈js
  ·simp only [hj,decide_true,Bool.not_true,Bool.false_eq_true,if_false]
   refine wpAny_pure (yT (s:={ s with heap:=h',drawn:=d' }) wa2 ⟨dn ++ [(hashInt k,Value.int k t')],h',d',ls,by rw [List.append_assoc];exact e1,rfl,sb,gl,?_⟩)
   rw [List.map_append,List.filter_append]
   simpa [hks,hj] using pl
  ·simp only [hj,decide_false,Bool.not_false,if_true]
   have hroom:ls.length+1<scanBound:=by
    have h1:=pl.length_eq
    have h2:=List.length_filter_le (λk=>!decide (k∈js)) (dn.map λe:Int×Value=>numOf e.2)
    rw [List.length_map]at h2
    have h3:es'.toList.length<scanBound:=by rw [hp.length_eq,Array.length_toList];exact wa.bd
    rw [<- e1,List.length_append,List.length_cons]at h3
    omega
   refine wpAny_bind (lS (s:={ s with heap:=h',drawn:=d' }) gl hroom λh'' b' sb2 g2=>?_)
   rw [if_neg hnk]at g2
   have wa3:bt P w h'' a ks oa ea epa ta:=wa2.at λo e=>(sb2.2 a ha).trans e
   refine wpAny_pure (yT (s:={ s with heap:=h'',drawn:=d' }) wa3 ⟨dn ++ [(hashInt k,Value.int k t')],h'',d',k::ls,by rw [List.append_assoc];exact e1,rfl,sb.trans sb2,g2,?_⟩)
   rw [List.map_append,List.filter_append]
   have:List.filter (λk=>!decide (k∈js)) (List.map (λe:Int×Value=>numOf e.2) [(hashInt k,Value.int k t')])=[k]:=by simp [hks,hj]
   rw [this]
   exact(List.Perm.cons k pl).trans (List.perm_append_comm (l₁:=[k]))
 ·rintro u s' ⟨dn,h',d',ls,e1,rfl,sb,gl,pl⟩
  rw [List.append_nil]at e1
  subst e1
  refine wpAny_pure (wpAny_pure (h h' d' ls (λc o e=>?_) (pl.trans (hK.filter _)) gl))
  exact(sb.2 c (Nat.ne_of_lt (Heap.lt_size e))).trans (keep c o e)
end
end L2.St
namespace L2.St
open PySem PyProof.Rows
noncomputable def itL(m:Nat):Nat->Nat->Nat
 |0,i=>i
 |t+1,i=>itL m t ((i*5+1) % (m+1))
theorem m5(m:Nat):∀(a b i:Nat),itL m (a+b) i=itL m b (itL m a i)
 |0,b,i=>by rw [Nat.zero_add];rfl
 |a+1,b,i=>by rw [Nat.add_right_comm];exact m5 m a b _
noncomputable def eZ(m:Nat):Bool:=itL m (m+1) 0 == 0&&(List.range (m+1)).all λj=>(List.range (m+1)).any λt=>itL m t 0 == j
theorem qi{m:Nat}(h:itL m (m+1) 0=0):∀(q r:Nat),itL m (q*(m+1)+r) 0=itL m r 0
 |0,r=>by simp
 |q+1,r=>by
  have e:(q+1)*(m+1)+r=(m+1)+(q*(m+1)+r):=by rw [Nat.succ_mul];omega
  rw [e,m5,h,qi h q r]
theorem cov{m:Nat}(h:eZ m=true){i j:Nat}(hi:i<=m)(hj:j<=m):∃t,t<=m/\itL m t i=j:=by
 unfold eZ at h
 rw [Bool.and_eq_true,beq_iff_eq,List.all_eq_true]at h
 obtain⟨h0,h1⟩:=h
 have at_:∀x,x<=m->∃t,t<=m/\itL m t 0=x:=λx hx=>by
  have:=h1 x (List.mem_range.mpr (by omega))
  rw [List.any_eq_true]at this
  obtain⟨t,ht,e⟩:=this
  exact⟨t,by have:=List.mem_range.mp ht;omega,by simpa using e⟩
 obtain⟨a,ha,ea⟩:=at_ i hi
 obtain⟨b,hb,eb⟩:=at_ j hj
 refine⟨(b+(m+1)-a) % (m+1),by have:=Nat.mod_lt (b+(m+1)-a) (show 0<m+1 by omega);omega,?_⟩
 have e2:itL m ((b+(m+1)-a) % (m+1)) i=itL m (a+(b+(m+1)-a) % (m+1)) 0:=by rw [m5,ea]
 rw [e2,<- eb]
 by_cases c:a<=b
 ·have:(b+(m+1)-a) % (m+1)=b-a:=by
   have:b+(m+1)-a=(b-a)+(m+1):=by omega
   rw [this,Nat.add_mod_right,Nat.mod_eq_of_lt (by omega)]
  rw [this]
  congr 1;omega
 ·have:(b+(m+1)-a) % (m+1)=b+(m+1)-a:=Nat.mod_eq_of_lt (by omega)
  rw [this]
  have e3:a+(b+(m+1)-a)=1*(m+1)+b:=by omega
  rw [e3,qi h0]
theorem xP:eZ 7=true:=by decide +kernel
theorem yV:eZ 15=true:=by decide +kernel
theorem yW:eZ 31=true:=by decide +kernel
theorem yX:eZ 63=true:=by decide +kernel
theorem wF:eZ 127=true:=by decide +kernel
theorem wG:eZ 255=true:=by decide +kernel
noncomputable def lp(m:Nat):Nat->Nat×Nat->Nat×Nat
 |0,p=>p
 |t+1,p=>lp m t (SetTable.leap m p.1 p.2)
theorem tQ(m:Nat):∀(a b:Nat) (p:Nat×Nat),lp m (a+b) p=lp m b (lp m a p)
 |0,b,p=>by rw [Nat.zero_add];rfl
 |a+1,b,p=>by rw [Nat.add_right_comm];exact tQ m a b _
theorem qj(m:Nat):∀(t i:Nat),lp m t (i,0)=(itL m t i,0)
 |0,_=>rfl
 |t+1,i=>by
  show lp m t (SetTable.leap m i 0)=_
  have:SetTable.leap m i 0=((i*5+1) % (m+1),0):=by simp [SetTable.leap]
  rw [this,qj m t]
  rfl
theorem xQ(m:Nat):∀(t:Nat) (p:Nat×Nat),p.1<=m->(lp m t p).1<=m
 |0,_,h=>h
 |t+1,p,_=>xQ m t _ (by
  show(p.1*5+1+p.2 / 32) % (m+1)<=m
  have:=Nat.mod_lt (p.1*5+1+p.2 / 32) (show 0<m+1 by omega);omega)
theorem qk(m:Nat):∀(t:Nat) (p:Nat×Nat),(lp m t p).2=p.2 / 32 ^ t
 |0,p=>by simp [lp]
 |t+1,p=>by
  show(lp m t (SetTable.leap m p.1 p.2)).2=_
  rw [qk m t]
  show p.2 / 32 / 32 ^ t=_
  rw [Nat.div_div_eq_div_mul,Nat.pow_succ,Nat.mul_comm]
theorem lZ{m:Nat}{ow:Array (Option Nat)}:∀(fuel i p:Nat),SetTable.layClean.free m ow fuel i p=none->∀t,t<fuel->(ow.getD (lp m t (i,p)).1 (some 0)).isNone=false
 |0,_,_,_,t,h=>absurd h (by omega)
 | fuel + 1,i,p,e,t,h=>by
  rw [SetTable.layClean.free]at e
  split at e
  ·cases e
  ·rename_i q
   cases t with
   |zero =>
    have:=List.find?_eq_none.mp q 0 (List.mem_range.mpr (by unfold SetTable.runEnd;split<;>omega))
    exact(Bool.not_eq_true _).mp this
   |succ t=>exact lZ fuel _ _ e t (by omega)
theorem l0{m:Nat}{ow:Array (Option Nat)}:∀(fuel i p k:Nat),SetTable.layClean.free m ow fuel i p=some k->(ow.getD k (some 0)).isNone=true
 |0,_,_,_,e=>by cases e
 | fuel + 1,i,p,k,e=>by
  rw [SetTable.layClean.free]at e
  split at e
  ·rename_i q
   cases e
   exact List.find?_some (p:=λk=>(ow.getD (i+k) (some 0)).isNone) q
  ·exact l0 fuel _ _ k e
theorem wH{m:Nat}(hg:eZ m=true){ow:Array (Option Nat)}{j i p:Nat}(hj:j<=m)(hn:(ow.getD j (some 0)).isNone=true)(hi:i<=m)(hp:p<2 ^ 64):∃k,SetTable.layClean.free m ow (SetTable.turns m) i p=some k/\(ow.getD k (some 0)).isNone=true:=by
 cases e:SetTable.layClean.free m ow (SetTable.turns m) i p with
 |some k=>exact⟨k,rfl,l0 _ _ _ _ e⟩
 | none =>
  exfalso
  have q:=lZ _ _ _ e
  obtain⟨t,ht,et⟩:=cov hg (xQ m 13 (i,p) hi) hj
  have z:(lp m 13 (i,p)).2=0:=by
   rw [qk]
   exact Nat.div_eq_of_lt (Nat.lt_of_lt_of_le hp (by decide))
  have e13:lp m 13 (i,p)=((lp m 13 (i,p)).1,0):=by rw [<- z]
  have:=q (13+t) (by unfold SetTable.turns;omega)
  rw [tQ,e13,qj,et]at this
  rw [hn]at this
  cases this
noncomputable def vals(m:Nat)(ow:Array (Option Nat)):List Nat:=(List.range (m+1)).filterMap λj=>ow.getD j none
theorem tR{g g':Nat->Option Nat}{j k:Nat}(h1:g j=none)(h2:g' j=some k)(h3:∀x,x≠j->g' x=g x):∀l:List Nat,l.Nodup->j∈l->(l.filterMap g').Perm (k::l.filterMap g)
 | [],_,h=>by cases h
 | x::l,hn,h=>by
  obtain⟨n1,n2⟩:=List.nodup_cons.mp hn
  by_cases e:x=j
  ·subst e
   rw [List.filterMap_cons_none h1,List.filterMap_cons_some h2]
   have:∀l':List Nat,x∉l'->l'.filterMap g'=l'.filterMap g:=by
    intro l'
    induction l' with
    |nil=>intro _;rfl
    |cons y l' ih =>
     intro hx
     have hy:y≠x:=λz=>hx (z ▸ .head _)
     rw [List.filterMap_cons,List.filterMap_cons,h3 y hy,ih λz=>hx (.tail _ z)]
   rw [this l n1]
  ·have hm:j∈l:=(List.mem_cons.mp h).resolve_left λz=>e z.symm
   have ih:=tR h1 h2 h3 l n2 hm
   cases q:g x with
   |none =>
    rw [List.filterMap_cons_none q,List.filterMap_cons_none ((h3 x e).trans q)]
    exact ih
   |some v =>
    rw [List.filterMap_cons_some q,List.filterMap_cons_some ((h3 x e).trans q)]
    exact(List.Perm.cons v ih).trans (List.Perm.swap k v _)
theorem tU{g:Nat->Option Nat}:∀l:List Nat,(∀x∈l,g x≠none)->(l.filterMap g).length=l.length
 | [],_=>rfl
 | x::l,h=>by
  cases q:g x with
  |none=>exact absurd q (h x (.head _))
  |some v =>
   rw [List.filterMap_cons_some q,List.length_cons,List.length_cons,tU l λy hy=>h y (.tail _ hy)]
theorem tV{m:Nat}{ow:Array (Option Nat)}(hs:ow.size=m+1)(h:(vals m ow).length<=m):∃j,j<=m/\(ow.getD j (some 0)).isNone=true:=by
 cases Classical.em (∃j,j<=m/\ow.getD j none=none) with
 |inl q =>
  obtain⟨j,hj,e⟩:=q
  refine⟨j,hj,?_⟩
  have hj':j<ow.size:=by omega
  simp [Array.getD,hj']at e ⊢
  exact e
 |inr q =>
  have:=tU (g:=λj=>ow.getD j none) (List.range (m+1)) λx hx z=>q ⟨x,by have:=List.mem_range.mp hx;omega,z⟩
  unfold vals at h
  rw [this,List.length_range]at h
  omega
noncomputable abbrev yY(m:Nat):Option (Array (Option Nat)×Nat)->Int->Option (Array (Option Nat)×Nat):=λacc h=>do
  let (owner,k) <- acc
  let j <- SetTable.layClean.free m owner (SetTable.turns m) (SetTable.bits h % (m+1)) (SetTable.bits h)
  pure (owner.setIfInBounds j (some k),k+1)
theorem wI(h:Int):SetTable.bits h<2 ^ 64:=by
 unfold SetTable.bits
 have h1:0<=h % (2 ^ 64:Int):=Int.emod_nonneg _ (by decide)
 have h2:h % (2 ^ 64:Int)<2 ^ 64:=Int.emod_lt_of_pos _ (by decide)
 omega
theorem tX{m:Nat}(hg:eZ m=true):∀(hs:List Int) (ow:Array (Option Nat)) (k:Nat),ow.size=m+1->(vals m ow).Perm (List.range k)->k+hs.length<=m ->
  ∃ow',hs.foldl (yY m) (some (ow,k))=some (ow',k+hs.length)/\ow'.size=m+1/\(vals m ow').Perm (List.range (k+hs.length))
 | [],ow,k,h1,h2,_=>⟨ow,rfl,h1,h2⟩
 | h::hs,ow,k,h1,h2,h3=>by
  rw [List.length_cons]at h3
  have hl:=h2.length_eq
  rw [List.length_range]at hl
  obtain⟨j0,hj0,hn0⟩:=tV h1 (by omega)
  obtain⟨j,ej,hj⟩:=wH hg (ow:=ow) (i:=SetTable.bits h % (m+1)) (p:=SetTable.bits h) hj0 hn0 (by have:=Nat.mod_lt (SetTable.bits h) (show 0<m+1 by omega);omega) (wI h)
  have hjs:j<ow.size:=by
   refine Decidable.byContradiction λz=>?_
   simp [Array.getD,z]at hj
  have e1:yY m (some (ow,k)) h=some (ow.setIfInBounds j (some k),k+1):=by
   show(Option.bind (SetTable.layClean.free m ow (SetTable.turns m) (SetTable.bits h % (m+1)) (SetTable.bits h)) _)=_
   rw [ej]
   rfl
  have hv:(vals m (ow.setIfInBounds j (some k))).Perm (List.range (k+1)):=by
   refine(tR (g:=λj=>ow.getD j none) (j:=j) (k:=k) ?_ ?_ ?_ (List.range (m+1)) List.nodup_range (List.mem_range.mpr (by omega))).trans ?_
   ·simp [Array.getD,hjs]at hj ⊢
    exact hj
   ·simp [Array.getD,hjs]
   ·intro x hx
    simp only [Array.getD_eq_getD_getElem?,Array.getElem?_setIfInBounds]
    rw [if_neg λz=>hx z.symm]
   ·rw [List.range_succ (n:=k)]
    exact(List.Perm.cons k h2).trans (List.perm_append_comm (l₁:=[k]))
  obtain⟨ow',q1,q2,q3⟩:=tX hg hs (ow.setIfInBounds j (some k)) (k+1) (by rw [Array.size_setIfInBounds];exact h1) hv (by omega)
  refine⟨ow',?_,q2,?_⟩
  ·rw [List.foldl_cons,e1,q1,List.length_cons]
   congr 2;omega
  ·rw [List.length_cons]
   have:k+(hs.length+1)=k+1+hs.length:=by omega
   rw [this]
   exact q3
theorem ql{m:Nat}(hg:eZ m=true){f mv:Nat}{led plain:Bool}{hs:Array Int}(h:hs.size<=m):∃t order,SetTable.laid m f mv led plain hs=some (t,order)/\order.toList.Perm (List.range hs.size)/\t.place.size=hs.size/\t.mask=m/\t.dummies=#[]:=by
 have e0:(vals m (Array.replicate (m+1) none)).Perm (List.range 0):=by
  have:vals m (Array.replicate (m+1) none)=[]:=by
   unfold vals
   rw [List.filterMap_eq_nil_iff]
   intro x _
   simp [Array.getD]
  rw [this]
  simp
 obtain⟨ow,e1,e2,e3⟩:=tX hg hs.toList (Array.replicate (m+1) none) 0 (by simp) e0 (by simpa using h)
 rw [Nat.zero_add,Array.length_toList]at e1 e3
 have ec:SetTable.layClean m hs=some ow:=by
  unfold SetTable.layClean
  rw [<- Array.foldl_toList]
  show Option.map _ (hs.toList.foldl (yY m) _)=_
  rw [e1]
  rfl
 have el:((List.range (m+1)).filterMap λj=>(ow.getD j none).map (j,·)).map (·.2)=vals m ow:=by
  unfold vals
  rw [List.map_filterMap]
  congr 1
  funext j
  cases ow.getD j none<;>rfl
 refine⟨_,_,by unfold SetTable.laid;rw [ec];rfl,?_,?_,rfl,rfl⟩
 ·show(List.map _ _).Perm _
  rw [el]
  exact e3
 ·show(List.map _ _).toArray.size=_
  rw [List.size_toArray,List.length_map]
  have:=congrArg List.length el
  rw [List.length_map]at this
  rw [this,e3.length_eq,List.length_range]
end L2.St
namespace L2.St
open PySem PyProof.Rows
theorem Bj:∀n,n<241->(SetTable.sizeAbove n=8\/SetTable.sizeAbove n=16\/SetTable.sizeAbove n=32\/SetTable.sizeAbove n=64\/SetTable.sizeAbove n=128\/SetTable.sizeAbove n=256)/\n<SetTable.sizeAbove n:=by decide +kernel
theorem qm{n:Nat}(h:n<241):eZ (SetTable.sizeAbove n-1)=true/\n<=SetTable.sizeAbove n-1/\SetTable.sizeAbove n<=256:=by
 obtain⟨h1,h2⟩:=Bj n h
 refine⟨?_,by omega,by omega⟩
 rcases h1 with e|e|e|e|e|e<;>rw [e]
 ·exact xP
 ·exact yV
 ·exact yW
 ·exact yX
 ·exact wF
 ·exact wG
theorem kn{es:Array (Int×Value)}{order:Array Nat}(h:order.toList.Perm (List.range es.size)):(order.filterMap (es[·]?)).toList.Perm es.toList:=by
 rw [Array.toList_filterMap]
 refine(h.filterMap _).trans ?_
 have:=PySem.List.filterMap_getElem?_range_length es.toList
 rw [Array.length_toList]at this
 have e:(λi:Nat=>es[i]?)=λi:Nat=>es.toList[i]?:=by funext i;simp
 rw [e,this]
section
variable{P:Program}{w:World}{A:Around}{E:Value->Shared->Prop}{s:Shared}
variable{a:Addr}{ks:List Int}{o:Obj}{es:Array (Int×Value)}{ep:Nat}{t:SetTable}
theorem jE{h:Heap}(g:bt P w h a ks o es ep t){es':Array (Int×Value)}{t':SetTable}{ks':List Int}(hel:ElemsOf (intKind P w) es'.toList)(hp:(es'.toList.map λe=>numOf e.2).Perm ks')(hn:ks'.Nodup)(hb:es'.size<scanBound)(hf:t'.fits es'.size=true) :
  bt P w (h.update a (Obj.putSet es' t')) a ks' { o with data:=.set es' (ep+1) t' } es' (ep+1) t':=by
 have hq:(h.update a (Obj.putSet es' t')).get? a=some { o with data:=.set es' (ep+1) t' }:=by
  have:=Heap.get?_update_self (Obj.putSet es' t') g.ho (by rw [putSet_of es' t' g.hd];rfl)
  rw [putSet_of es' t' g.hd]at this;exact this
 exact⟨hq,g.ex,rfl,hel,hp,hn,hb,hf⟩
theorem wJ:(256:Nat)<=sizeLine:=by rw [sizeLine_eq];omega
theorem qo(g:bt P w s.heap a ks o es ep t){wanted:Nat}(hw:wanted<241)(hn:es.size<=wanted){Q:Unit->Shared->Prop}
  (h:∀h' o' es' ep' t',Heap.SameBut a s.heap h'->bt P w h' a ks o' es' ep' t'->t'.dummies=#[]->t'.mask=SetTable.sizeAbove wanted-1->Q () { s with heap:=h' }):wpAny (model P w) A (setRelay a wanted) Q E s:=by
 obtain⟨hg,hle,hz⟩:=qm hw
 unfold setRelay
 refine wpAny_bind (wpAny_setState_of g.ho g.hd g.fi ?_)
 dsimp only
 rw [if_neg (by have:=wJ;omega)]
 obtain⟨t',order,e1,e2,e3,e4,e5⟩:=ql hg (f:=t.finger) (mv:=t.movedTo (SetTable.sizeAbove wanted-1)) (led:=t.led) (plain:=t.plain) (hs:=es.map (·.1)) (by rw [Array.size_map];omega)
 have e1':t.relaid (es.map (·.1)) wanted=some (t',order):=e1
 rw [Array.size_map]at e2 e3
 have hp:=kn e2
 have hsz:(order.filterMap (es[·]?)).size=es.size:=by rw [<- Array.length_toList,hp.length_eq,Array.length_toList]
 rw [e1']
 refine wpAny_bind (wpAny_of_eq (a:=(order.filterMap (es[·]?),t')) ?_ ?_)
 ·show(if ((order.filterMap (es[·]?)).size != es.size)=true then _ else _)=_
  rw [if_neg (by rw [hsz];simp)]
 ·dsimp only
  have hb':(order.filterMap (es[·]?)).size<scanBound:=by rw [hsz];exact g.bd
  have hf':t'.fits (order.filterMap (es[·]?)).size=true:=by
   have hfill:t'.fill=es.size:=by unfold SetTable.fill;rw [e5,e3];simp
   simp only [SetTable.fits,hfill,Bool.and_eq_true,beq_iff_eq,decide_eq_true_eq]
   exact⟨by rw [e3,hsz],by omega⟩
  refine wpAny_storeSet_of g.ho g.hd ?_ (fits_of_scanBound hb')
  exact h _ _ _ _ _ (Heap.SameBut.update _ a _) (jE g (g.el.perm hp) ((hp.map _).trans g.pm) g.nd hb' hf') e5 e4
theorem yZ(g:bt P w s.heap a [] o es ep t)(hd:t.dummies=#[])(h7:t.mask=7){n:Nat}(hn:n<=60){Q:Unit->Shared->Prop}
  (h:∀h' o' es' ep' t',Heap.SameBut a s.heap h'->bt P w h' a [] o' es' ep' t'->t'.dummies=#[]->eZ t'.mask=true->n<=t'.mask->Q () { s with heap:=h' }):wpAny (model P w) A (setRoomFor a n) Q E s:=by
 have hz:es.size=0:=g.len
 have hpl:t.place.size=0:=by
  have:=g.fi
  simp only [SetTable.fits,Bool.and_eq_true,beq_iff_eq]at this
  omega
 have hfill:t.fill=0:=by unfold SetTable.fill;rw [hd,hpl];rfl
 unfold setRoomFor
 refine wpAny_bind (wpAny_setState_of g.ho g.hd g.fi ?_)
 have er:t.roomFor n=if (0+n)*5>=7*3 then some ((0+n)*2) else none:=by
  unfold SetTable.roomFor
  rw [hfill,hpl,h7]
 dsimp only
 rw [er]
 by_cases c:(0+n)*5>=7*3
 ·rw [if_pos c]
  dsimp only
  have hw:(0+n)*2<241:=by omega
  refine qo g hw (by omega) λh' o' es' ep' t' sb g' h1 h2=>?_
  obtain⟨q1,q2,_⟩:=qm hw
  exact h h' o' es' ep' t' sb g' h1 (by rw [h2];exact q1) (by rw [h2];omega)
 ·rw [if_neg c]
  exact wpAny_pure (h s.heap o es ep t (Heap.SameBut.refl a s.heap) g hd (by rw [h7];exact xP) (by omega))
theorem y0(g:bt P w s.heap a ks o es ep t)(h0:0<ks.length)(hn:ks.length<=60){Q:Value->Shared->Prop}
  (h:∀h' o' es' ep' t',(∀c o,s.heap.get? c=some o->h'.get? c=some o)->bt P w h' s.heap.objs.size ks o' es' ep' t'->Q (.ref s.heap.objs.size) { s with heap:=h' }):wpAny (model P w) A (Builtin.Frozenset.copyOf a) Q E s:=by
 have keep:∀c o,s.heap.get? c=some o->(s.heap.push (bc w)).get? c=some o:=λc o e=>Heap.get?_push_of_some _ e
 have ha:a≠s.heap.objs.size:=Nat.ne_of_lt (Heap.lt_size g.ho)
 unfold Builtin.Frozenset.copyOf
 refine wpAny_bind (og g.type ?_)
 refine wpAny_bind (mY ?_)
 simp only [Builtin.Frozenset.addrOf,pure_bind]
 have g1:bt P w (s.heap.push (bc w)) s.heap.objs.size [] (bc w) #[] 0 (.fresh 0 0 (!byT w)):=⟨Heap.get?_push_size _ rfl,⟨rfl,rfl,rfl⟩,rfl,λe he=>by simp at he,by simp,List.nodup_nil,by decide,by rfl⟩
 have hne:(s.heap.objs.size == a)=false:=by simpa using λz=>ha z.symm
 have ga:=g.at (keep a)
 have hes:es.isEmpty=false:=by
  have:=g.len
  rw [Array.isEmpty_eq_false_iff]
  intro z
  rw [z]at this
  simp at this
  omega
 unfold setMerge
 rw [hne]
 simp only [Bool.false_eq_true,if_false,bind_assoc]
 refine wpAny_bind (wpAny_setState_of (s:={ s with heap:=s.heap.push (bc w) }) ga.ho ga.hd ga.fi ?_)
 simp only [hes,Bool.false_eq_true,if_false,bind_assoc]
 refine wpAny_bind (yZ (s:={ s with heap:=s.heap.push (bc w) }) g1 rfl rfl (n:=es.size) (by have:=g.len;omega) λh' o' es' ep' t' sb g' hd hm hle=>?_)
 have fin:∀h' o' es' ep' t',Heap.SameBut s.heap.objs.size (s.heap.push (bc w)) h'->bt P w h' s.heap.objs.size ks o' es' ep' t'->Q (.ref s.heap.objs.size) { s with heap:=h' }:=λh' o' es' ep' t' sb g' =>
  h h' o' es' ep' t' (λc o e=>(sb.2 c (Nat.ne_of_lt (Heap.lt_size e))).trans (keep c o e)) g'
 refine wpAny_bind (wpAny_setState_of (s:={ s with heap:=h' }) g'.ho g'.hd g'.fi ?_)
 have hz:es'.size=0:=g'.len
 have hpl:t'.place.size=0:=by
  have:=g'.fi
  simp only [SetTable.fits,Bool.and_eq_true,beq_iff_eq]at this
  omega
 have hfill:t'.fill=0:=by unfold SetTable.fill;rw [hd,hpl];rfl
 have hroad:t'.road t=if (t'.mask == t.mask&&t.dummies.isEmpty)=true then .slotForSlot else .clean:=by
  unfold SetTable.road
  rw [hfill]
  rfl
 dsimp only
 rw [hroad]
 by_cases c:(t'.mask == t.mask&&t.dummies.isEmpty)=true
 ·rw [if_pos c]
  dsimp only
  refine wpAny_bind (wpAny_storeSet_of (s:={ s with heap:=h' }) g'.ho g'.hd ?_ (fits_of_scanBound g.bd))
  refine wpAny_pure (fin _ _ _ _ _ (sb.trans (Heap.SameBut.update _ _ _)) (jE g' g.el g.pm g.nd g.bd ?_))
  exact g.fi
 ·rw [if_neg c]
  dsimp only
  obtain⟨t2,order,e1,e2,e3,e4,e5⟩:=ql hm (f:=t'.finger) (mv:=t'.moves) (led:=t'.led&&t.led) (plain:=t'.plain&&t.plain) (hs:=es.map (·.1)) (by rw [Array.size_map];have:=g.len;omega)
  rw [Array.size_map]at e2 e3
  have hp:=kn e2
  have hsz:(order.filterMap (es[·]?)).size=es.size:=by rw [<- Array.length_toList,hp.length_eq,Array.length_toList]
  have hb':(order.filterMap (es[·]?)).size<scanBound:=by rw [hsz];exact g.bd
  rw [e1]
  simp only [bind_assoc]
  refine wpAny_bind (wpAny_of_eq (a:=(order.filterMap (es[·]?),t2)) ?_ ?_)
  ·show(if ((order.filterMap (es[·]?)).size != es.size)=true then _ else _)=_
   rw [if_neg (by rw [hsz];simp)]
  ·dsimp only
   have hf':t2.fits (order.filterMap (es[·]?)).size=true:=by
    have hfill:t2.fill=es.size:=by unfold SetTable.fill;rw [e5,e3];simp
    simp only [SetTable.fits,hfill,Bool.and_eq_true,beq_iff_eq,decide_eq_true_eq]
    have:=g.len
    exact⟨by rw [e3,hsz],by omega⟩
   refine wpAny_bind (wpAny_storeSet_of (s:={ s with heap:=h' }) g'.ho g'.hd ?_ (fits_of_scanBound hb'))
   exact wpAny_pure (fin _ _ _ _ _ (sb.trans (Heap.SameBut.update _ _ _)) (jE g' (g.el.perm hp) ((hp.map _).trans g.pm) g.nd hb' hf'))
end
end L2.St
namespace L2.St
open PySem PyProof.Rows
section
variable{P:Program}{w:World}{A:Around}{E:Value->Shared->Prop}{s:Shared}
variable{a:Addr}{ks:List Int}{o:Obj}{es:Array (Int×Value)}{ep:Nat}{t:SetTable}
theorem dM{α:Type}(xs:Array α)(i:Nat):(SetTable.eraseAt xs i).toList=xs.toList.eraseIdx i:=by
 unfold SetTable.eraseAt
 rw [Array.toList_append,Array.toList_extract,Array.toList_extract,List.eraseIdx_eq_take_drop_succ,List.extract_eq_take_drop,List.extract_eq_take_drop]
 simp
 exact List.take_of_length_le (by simp)
theorem rH(g:bt P w s.heap a ks o es ep t){k:Int}{tk:Tok}{Q:Bool->Shared->Prop}
  (h:∀b h' o' es' ep' t',Heap.SameBut a s.heap h'->bt P w h' a (ks.filter λx=>!decide (x=k)) o' es' ep' t'->Q b { s with heap:=h' }):wpAny (model P w) A (setDiscardHashed a (.int k tk) (hashInt k)) Q E s:=by
 unfold setDiscardHashed
 refine wpAny_bind (tP g ?_)
 cases hr:List.findIdx? (λe=>(intKind P w).is k e.2) es.toList with
 | none =>
  have hk:k∉ks:=λz=>by
   have:=n_ (s:=s) g k
   rw [hr]at this
   simp [z]at this
  have e:ks.filter (λx=>!decide (x=k))=ks:=List.filter_eq_self.mpr λx hx=>by
   have:x≠k:=λz=>hk (z ▸ hx)
   simpa using this
  have e2:s={ s with heap:=s.heap }:=by cases s;rfl
  rw [e]at h
  have:=h false s.heap o es ep t (Heap.SameBut.refl a s.heap) g
  exact wpAny_pure this
 | some i =>
  obtain⟨hi,hpi,_⟩:=List.findIdx?_eq_some_iff_getElem.mp hr
  dsimp only
  refine wpAny_bind (wpAny_setState_of g.ho g.hd g.fi ?_)
  dsimp only
  have hnum:numOf (es.toList[i]).2=k:=(gU g.el (List.getElem_mem hi) k).mp hpi
  have hpe:=fz (List.getElem?_eq_getElem hi)
  have hsz:(SetTable.eraseAt es i).size=es.size-1:=by
   rw [<- Array.length_toList,dM,List.length_eraseIdx_of_lt hi,Array.length_toList]
  have hi2:i<es.size:=by simpa using hi
  have hb':(SetTable.eraseAt es i).size<scanBound:=by rw [hsz];have:=g.bd;omega
  have hfi:=g.fi
  simp only [SetTable.fits,Bool.and_eq_true,beq_iff_eq,decide_eq_true_eq]at hfi
  have hip:i<t.place.size:=by omega
  have hf':(t.drop i).fits (SetTable.eraseAt es i).size=true:=by
   have ed:t.drop i={ t with place:=SetTable.eraseAt t.place i,dummies:=SetTable.insertAt t.dummies (SetTable.below t.dummies (t.place[i])) (t.place[i]) }:=by
    unfold SetTable.drop
    rw [Array.getElem?_eq_getElem hip]
   rw [ed]
   have h1:(SetTable.eraseAt t.place i).size=t.place.size-1:=by
    rw [<- Array.length_toList,dM,List.length_eraseIdx_of_lt (by simpa using hip),Array.length_toList]
   have h2:(SetTable.insertAt t.dummies (SetTable.below t.dummies (t.place[i])) (t.place[i])).size<=t.dummies.size+1:=by
    unfold SetTable.insertAt
    rw [Array.size_append,Array.size_push,Array.size_extract,Array.size_extract]
    omega
   have h3:(⟨t.mask,SetTable.eraseAt t.place i,SetTable.insertAt t.dummies (SetTable.below t.dummies (t.place[i])) (t.place[i]),t.finger,t.led,t.moves,t.plain⟩:SetTable).fill<=t.mask:=by
    show(SetTable.eraseAt t.place i).size+(SetTable.insertAt t.dummies (SetTable.below t.dummies (t.place[i])) (t.place[i])).size<=t.mask
    have:t.place.size+t.dummies.size<=t.mask:=hfi.2
    omega
   simp only [SetTable.fits,Bool.and_eq_true,beq_iff_eq,decide_eq_true_eq]
   exact⟨by rw [h1,hsz,hfi.1],h3⟩
  have hel':ElemsOf (intKind P w) (SetTable.eraseAt es i).toList:=λe he=>g.el e (by rw [dM]at he;exact List.mem_of_mem_eraseIdx he)
  have hpm':((SetTable.eraseAt es i).toList.map λe=>numOf e.2).Perm (ks.filter λx=>!decide (x=k)):=by
   rw [dM]
   have h1:(k::(es.toList.eraseIdx i).map λe=>numOf e.2).Perm ks:=by
    have:=(hpe.map λe=>numOf e.2).trans g.pm
    rwa [List.map_cons,hnum]at this
   have h2:=h1.nodup_iff.mpr g.nd
   obtain⟨n1,_⟩:=List.nodup_cons.mp h2
   have h3:=h1.filter λx=>!decide (x=k)
   rw [List.filter_cons_of_neg (by simp)]at h3
   refine List.Perm.trans (List.Perm.of_eq ?_) h3
   refine(List.filter_eq_self.mpr λx hx=>?_).symm
   have:x≠k:=λz=>n1 (z ▸ hx)
   simpa using this
  refine wpAny_bind (wpAny_storeSet_of g.ho g.hd ?_ (fits_of_scanBound hb'))
  refine wpAny_bind (wpAny_point ?_)
  exact wpAny_pure (h true _ _ _ _ _ (Heap.SameBut.update _ _ _) (jE g hel' hpm' (g.nd.filter _) hb' hf'))
theorem Bk{id:String}{r b:Addr}{js:List Int}{ob:Obj}{eb:Array (Int×Value)}{epb:Nat}{tb:SetTable}(g:bt P w s.heap r ks o es ep t)(gb:bt P w s.heap b js ob eb epb tb)(hl:tb.led=!byT w)(hrb:b≠r)(hsz:¬ js.length / 8 > ks.length)(hn:ks.length<=60){Q:Unit->Shared->Prop}
  (h:∀h' d' o' es' ep' t' ls,Heap.SameBut r s.heap h'->bt P w h' r ls o' es' ep' t'->ls=(ks.filter λk=>!decide (k∈js))->Q () { s with heap:=h',drawn:=d' }):wpAny (model P w) A (Builtin.Frozenset.differenceUpdate id r (.ref b)) Q E s:=by
 unfold Builtin.Frozenset.differenceUpdate
 have hne:(Value.ref b == Value.ref r)=false:=by
  simpa using hrb
 rw [hne]
 simp only [Bool.false_eq_true,if_false]
 refine wpAny_bind (iq gb.type ?_)
 simp only [if_true,Builtin.Frozenset.addrOf,pure_bind]
 refine wpAny_bind (eY gb ?_)
 refine wpAny_bind (eY g ?_)
 rw [if_neg hsz]
 refine wpAny_bind (wpAny_setEpoch_of gb.ho gb.hd gb.fi ?_)
 refine wpAny_bind (wpAny_holding ?_)
 refine wpAny_bind (tN gb hl (others:=[r]) (λc hc=>?_) λes1 d0 hp=>?_)
 ·rw [List.mem_singleton.mp hc]
  exact⟨_,_,_,_,_,g⟩
 have hel:ElemsOf (intKind P w) es1.toList:=gb.el.perm hp
 have hK:(es1.toList.map λe=>numOf e.2).Perm js:=(hp.map _).trans gb.pm
 refine wpAny_bind (wpAny_forIn_array' _ (λcx _ s'=>∃dn h' d' o' es' ep' t',dn++cx=es1.toList/\s'={ s with heap:=h',drawn:=d' }/\Heap.SameBut r s.heap h'/\bt P w h' r (ks.filter λk=>!decide (k∈dn.map λe:Int×Value=>numOf e.2)) o' es' ep' t') _ ?_ ?_ es1 _ ⟨[],s.heap,d0,o,es,ep,t,rfl,rfl,Heap.SameBut.refl r s.heap,by
  have:ks.filter (λk=>!decide (k∈([]:List (Int×Value)).map λe=>numOf e.2))=ks:=List.filter_eq_self.mpr λx _=>by simp
  rw [this];exact g⟩)
 ·rintro ⟨hx,x⟩ cx u s' ⟨dn,h',d',o',es',ep',t',e1,rfl,sb,gl⟩
  have hmem:(hx,x)∈es1.toList:=by rw [<- e1];simp
  obtain⟨t'',q⟩:=dS hel _ hmem
  obtain⟨⟨k0,hk0,hh0⟩,_⟩:=hel _ hmem
  have hk1:=(gU hel hmem k0).mp hk0
  dsimp only at q hk1 hh0
  generalize numOf x=k at q hk1
  subst q hk1
  have hh0:hx=hashInt k:=hh0
  subst hh0
  dsimp only
  refine wpAny_bind (wpAny_holding (rH (s:={ s with heap:=h',drawn:=d' }) gl λb' h2 o2 es2 ep2 t2 sb2 g2=>?_))
  have gb2:bt P w h2 b js ob eb epb tb:=gb.at λo e=>(sb2.2 b hrb).trans ((sb.2 b hrb).trans e)
  refine yT (s:={ s with heap:=h2,drawn:=d' }) gb2 ⟨dn ++ [(hashInt k,Value.int k t'')],h2,d',o2,es2,ep2,t2,by rw [List.append_assoc];exact e1,rfl,sb.trans sb2,?_⟩
  have:(ks.filter λx=>!decide (x∈(dn ++ [(hashInt k,Value.int k t'')]).map λe:Int×Value=>numOf e.2))=(ks.filter λk=>!decide (k∈dn.map λe:Int×Value=>numOf e.2)).filter λx=>!decide (x=k):=by
   rw [List.filter_filter]
   congr 1
   funext x
   have hks:numOf (Value.int k t'')=k:=rfl
   rw [List.map_append,List.map_cons,List.map_nil,hks]
   by_cases h1:x=k<;>by_cases h2:x∈dn.map (λe:Int×Value=>numOf e.2)<;>simp [h1,h2]
  rw [this]
  exact g2
 ·rintro u s' ⟨dn,h',d',o',es',ep',t',e1,rfl,sb,gl⟩
  rw [List.append_nil]at e1
  subst e1
  have e3:(ks.filter λk=>!decide (k∈es1.toList.map λe:Int×Value=>numOf e.2))=ks.filter λk=>!decide (k∈js):=by
   congr 1
   funext k
   congr 1
   rw [decide_eq_decide]
   exact hK.mem_iff
  rw [e3]at gl
  refine wpAny_pure ?_
  unfold setTidy
  refine wpAny_bind (wpAny_setState_of (s:={ s with heap:=h',drawn:=d' }) gl.ho gl.hd gl.fi ?_)
  dsimp only
  refine wpAny_ite_split (λ_=>?_) (λ_=>?_)
  ·have hle:es'.size<=60:=by
    rw [gl.len]
    exact Nat.le_trans (List.length_filter_le _ _) hn
   have hgr:SetTable.grown es'.size=es'.size*4:=by unfold SetTable.grown;rw [if_neg (by omega)]
   rw [hgr]
   exact qo (s:={ s with heap:=h',drawn:=d' }) gl (by omega) (by omega) λh2 o2 es2 ep2 t2 sb2 g2 _ _=>h h2 d' o2 es2 ep2 t2 _ (sb.trans sb2) g2 rfl
  ·exact wpAny_pure (h h' d' o' es' ep' t' _ sb gl rfl)
theorem y1{id:String}{b:Addr}{js:List Int}{Q:Value->Shared->Prop}(ga:bQ P w s.heap a ks)(gb:bQ P w s.heap b js)(hsz:ks.length / 4 > js.length)(hn:ks.length<=60)
  (h:∀h' d' ls o' es' ep' t',(∀c o,s.heap.get? c=some o->h'.get? c=some o)->ls.length=(ks.filter λk=>!decide (k∈js)).length->bt P w h' s.heap.objs.size ls o' es' ep' t'->Q (.ref s.heap.objs.size) { s with heap:=h',drawn:=d' }) :
  wpAny (model P w) A (Builtin.Frozenset.difference id a (.ref b)) Q E s:=by
 obtain⟨oa,ea,epa,ta,wa,gda⟩:=ga.w
 obtain⟨ob,eb,epb,tb,wb,gdb⟩:=gb.w
 have hb:b≠s.heap.objs.size:=Nat.ne_of_lt (Heap.lt_size wb.ho)
 unfold Builtin.Frozenset.difference
 refine wpAny_bind (iq wb.type ?_)
 simp only [Bool.not_true,Bool.false_eq_true,if_false,Bool.false_and,if_true,Builtin.Frozenset.addrOf,pure_bind]
 refine wpAny_bind (eY wb ?_)
 refine wpAny_bind (eY wa ?_)
 rw [if_pos hsz]
 refine wpAny_bind (wpAny_rule ?_)
 refine wpAny_bind (y0 wa (by omega) hn λh1 o1 es1 ep1 t1 k1 g1=>?_)
 refine wpAny_bind (wpAny_pure ?_)
 have wb1:=wb.at (k1 b)
 refine wpAny_bind (wpAny_holding (Bk (s:={ s with heap:=h1 }) g1 wb1 gdb.led hb (by omega) hn λh2 d2 o2 es2 ep2 t2 ls sb2 g2 e2=>?_))
 exact wpAny_pure (h h2 d2 ls o2 es2 ep2 t2 (λc o e=>(sb2.2 c (Nat.ne_of_lt (Heap.lt_size e))).trans (k1 c o e)) (by rw [e2]) g2)
theorem tY{id:String}{b:Addr}{js:List Int}{Q:Value->Shared->Prop}(ga:bQ P w s.heap a ks)(gb:bQ P w s.heap b js)(hn:ks.length<=60)
  (h:∀h' d' ls o' es' ep' t',(∀c o,s.heap.get? c=some o->h'.get? c=some o)->ls.length=(ks.filter λk=>!decide (k∈js)).length->bt P w h' s.heap.objs.size ls o' es' ep' t'->Q (.ref s.heap.objs.size) { s with heap:=h',drawn:=d' }) :
  wpAny (model P w) A (Builtin.Frozenset.difference id a (.ref b)) Q E s:=by
 by_cases c:ks.length / 4 > js.length
 ·exact y1 ga gb c hn h
 ·refine yU ga gb c λh' d' ls k p g=>?_
  obtain⟨o',es',ep',t',g',_⟩:=g.w
  exact h h' d' ls o' es' ep' t' k p.length_eq g'
end
end L2.St
namespace L2.St
open PySem PyProof.Rows
theorem lC:entryFor table "set.__sub__"=some Builtin.«frozenset.__sub__» :=
 entryFor_alias (id':="frozenset.__sub__") (by kernel_rfl) (by first|rfl|decide +kernel|(unfold String.splitOn;simp +decide [String.splitOnAux])) (by decide +kernel) (by kernel_rfl)
section
variable{P:Program}{w:World}{A:Around}{E:Value->Shared->Prop}{s:Shared}
theorem tZ{a b:Addr}{ks js:List Int}{Q:Value->Shared->Prop}(ga:bQ P w s.heap a ks)(gb:bQ P w s.heap b js)(hn:ks.length<=60)
  (h:∀h' d' ls o' es' ep' t',(∀c o,s.heap.get? c=some o->h'.get? c=some o)->ls.length=(ks.filter λk=>!decide (k∈js)).length->bt P w h' s.heap.objs.size ls o' es' ep' t'->Q (.ref s.heap.objs.size) { s with heap:=h',drawn:=d' }) :
  wpAny (model P w) A (binaryOp .Sub (.ref a) (.ref b)) Q E s:=by
 obtain⟨oa,ea,epa,ta,wa,gda⟩:=ga.w
 obtain⟨ob,eb,epb,tb,wb,gdb⟩:=gb.w
 refine wpAny_binaryOp_same (op:=.Sub) wa.type wb.type F.fills_set_sub F.slot_set_sub ?_
 refine wpAny_call_entry F.slot_set_sub wa.type lC ?_ (F.args_set_sub_2 _ _)
 unfold Builtin.«frozenset.__sub__»
 show wpAny _ _ (do
  let (self,other) <- Builtin.Frozenset.slot1 "__sub__" ⟨[.ref a,.ref b],[]⟩
  let (l,r):=if false then (other,self) else (self,other)
  if !(<- Builtin.Frozenset.isAnySet l <&&> Builtin.Frozenset.isAnySet r) then rule s!"frozenset.{"__sub__"}.declined";return <- ret .notImplemented
  ret (<- Builtin.Frozenset.difference s!"frozenset.{"__sub__"}" (<- Builtin.Frozenset.addrOf l) r)) _ _ s
 refine wpAny_bind (wpAny_of_eq (a:=(Value.ref a,Value.ref b)) rfl ?_)
 dsimp only
 simp only [Bool.false_eq_true,if_false]
 refine wpAny_bind (wpAny_bind (iq wa.type ?_))
 refine iq wb.type ?_
 simp only [Bool.not_true,Bool.false_eq_true,if_false,Builtin.Frozenset.addrOf,pure_bind]
 refine wpAny_bind (tY ga gb hn λh' d' ls o' es' ep' t' k hl g=>?_)
 exact wpAny_pure ⟨_,rfl,by simp,h h' d' ls o' es' ep' t' k hl g⟩
end
end L2.St
namespace L2
open PySem PySem.Spec PyProof.Rows
noncomputable def m6(P:Program)(w:World)(a:Addr)(n:Nat):HO:=.ext λh=>∃ks o es ep t,St.bt P w h a ks o es ep t/\ks.length=n
theorem rJ{P:Program}{w:World}{H:Hp}{h:Heap}{a:Addr}{n:Nat}{ks:List Int}{o:Obj}{es:Array (Int×Value)}{ep:Nat}{t:SetTable}(g:St.bt P w h a ks o es ep t)(e:ks.length=n):bq P w H h a (m6 P w a n) :=
 ⟨⟨ks,o,es,ep,t,g,e⟩,⟨o,g.ho⟩,λh1 h2 ⟨ks,o,es,ep,t,g,e⟩ k=>⟨ks,o,es,ep,t,g.at k,e⟩⟩
section
variable{X:Cx}
theorem rK:OpR X (binaryOp .Sub) (λx y H Q=>∃a b ks js,x=.ref a/\y=.ref b/\H a=some (gO X.prog X.w a ks)/\H b=some (gO X.prog X.w b js)/\ks.length<=60/\∀p,H p=none->Q (.ref p) (upd H p (m6 X.prog X.w p (ks.filter λk=>!decide (k∈js)).length))):=by
 intro pins s σ H x y v u Q I rx ry h
 obtain⟨a,b,ks,js,rfl,rfl,ha,hb,hn,q⟩:=h
 cases rx
 cases ry
 refine St.tZ (I.set ha) (I.set hb) hn λh' d' ls o' es' ep' t' kp hl g=>?_
 exact⟨.ref s.heap.objs.size,_,I.laidD (t':=s.toks) (d':=d') kp (Nat.le_refl _) (rJ g hl),rfl,q _ (I.hok.fresh (Nat.le_refl _))⟩
theorem oh:bR X (.builtin "len") (λxs H Q=>∃a n,xs=[.ref a]/\H a=some (m6 X.prog X.w a n)/\Q (.int n) H):=by
 intro pins s σ H xs us Q I r h
 obtain⟨a,n,rfl,e,q⟩:=h
 obtain⟨u,rfl,ru⟩:=eD r
 cases ru
 obtain⟨ks,o,es,ep,t,g,hk⟩:=(show bq X.prog X.w H s.heap a (m6 X.prog X.w a n) from I.hok a _ e).1
 have hl:=g.len
 have hb:=g.bd
 have hsb:scanBound=4096:=rfl
 refine call_len_set g.ho g.ex g.hd g.fi (by omega) ⟨.int n,H,I.tok _,⟨s.toks+1,?_⟩,q⟩
 rw [hl,hk]
theorem m7:bR X (.builtin "len") (λxs H Q=>∃a ks,xs=[.ref a]/\H a=some (gO X.prog X.w a ks)/\Q (.int ks.length) H):=by
 intro pins s σ H xs us Q I r h
 obtain⟨a,ks,rfl,e,q⟩:=h
 obtain⟨u,rfl,ru⟩:=eD r
 cases ru
 obtain⟨o,es,ep,t,g,_⟩:=(I.set e).w
 have hb:=g.bd
 have hsb:scanBound=4096:=rfl
 refine call_len_set g.ho g.ex g.hd g.fi (by omega) ⟨.int ks.length,H,I.tok _,⟨s.toks+1,?_⟩,q⟩
 rw [g.len]
end
end L2
namespace L2.En
open PySem PyProof.Rows
open AutoSeq1 (wpAny_loadPart')
section
variable{P:Program}{w:World}{A:Around}{E:Value->Shared->Prop}{s:Shared}
theorem pE{it t:Addr}{i:Nat}{Q:Value->Shared->Prop}(hit:s.heap.IsTupleIter it t i)
  (h:wpAny (model P w) A.in1 (Builtin.«tuple_iterator.__next__» ⟨[.ref it],[]⟩) (λfin s'=>∃v,fin=.done (.ret v)/\Q v s') E s):wpAny (model P w) A (Builtin.SmallTypes.nextOf (.ref it)) Q E s:=by
 unfold Builtin.SmallTypes.nextOf
 refine wpAny_bind (wpAny_callSpecial?_slot (name:=Str.ofString "__next__") hit.typeIs F.slot_tuple_iterator_next ?_)
 refine wpAny_call_entry F.slot_tuple_iterator_next hit.typeIs F.entry_tuple_iterator_next ?_ (F.args_tuple_iterator_next_1 _)
 refine wpAny_mono h (λfin s' hv=>?_) λ_ _ z=>z
 obtain⟨v,rfl,q⟩:=hv
 exact⟨v,rfl,wpAny_pure q⟩
theorem Bl {α:Type}{Q:α->Shared->Prop} (hh:A.handled=none) (h:∀h' e,(∀b o,s.heap.get? b=some o->h'.get? b=some o)->(∃o,h'.get? e=some o/\o.cls=.type "StopIteration")->E (.ref e) { s with heap:=h' }) :
  wpAny (model P w) A (Builtin.SmallTypes.stopIteration:Sem α) Q E s:=by
 unfold Builtin.SmallTypes.stopIteration newExc
 obtain⟨hp,g,d,tk,os⟩:=s
 wp_walk
 exact wpAny_raiseNew_none hh (h _ _ (λb o q=>Heap.get?_push_of_some _ (Heap.get?_push_of_some _ q)) ⟨_,Heap.get?_push_size _ rfl,rfl⟩)
theorem l4{it t:Addr}{i:Nat}{items:Array Value}{Q:Value->Shared->Prop}(hh:A.handled=none)(hit:s.heap.IsTupleIter it t i)(ht:s.heap.IsTuple t items)
  (hQ:∀x h',items[i]?=some x->h'.IsTupleIter it t (i+1)->Heap.SameBut it s.heap h'->Q x { s with heap:=h' })
  (hE:∀h' e,items[i]?=none->Heap.ExtBut it s.heap h'->(∃o,h'.get? e=some o/\o.cls=.type "StopIteration")->E (.ref e) { s with heap:=h' }):wpAny (model P w) A (Builtin.SmallTypes.nextOf (.ref it)) Q E s:=by
 refine pE hit ?_
 obtain⟨⟨c1,d1,t1,l1⟩,h1,e1,e2⟩:=hit
 obtain⟨⟨c2,d2,t2,l2⟩,h2,e3,n2,e4⟩:=ht
 cases e1
 cases e2
 cases e3
 cases e4
 obtain⟨hp,g,d,tk,os⟩:=s
 unfold Builtin.«tuple_iterator.__next__»
 wp_walk using wpAny_loadPart' h1,wpAny_loadPart' h2
 have self:∀(k:Nat) (v:Value),(hp.update it (Obj.mapFields (·.setIfInBounds k v))).get? it=some { cls:=.type "tuple_iterator",dict:=d1,data:=.fields ((#[.ref t,.int (i:Int) 0]:Array Value).setIfInBounds k v),slots:=l1 }:=λk v=>Heap.get?_update_self _ h1 rfl
 rw [Int.toNat_natCast]
 cases hx:items[i]? with
 |some x =>
  refine wpAny_bind (wpAny_setField h1 rfl (by simp) (wpAny_pure ⟨x,rfl,hQ x _ hx ⟨_,self 1 _,rfl,?_⟩ (Heap.SameBut.update ..)⟩))
  simp [rawInt]
 |none =>
  refine wpAny_bind (wpAny_rule (wpAny_bind (wpAny_setField h1 rfl (by simp) (Bl (by simpa using hh) λh' e k st=>?_))))
  exact hE h' e hx (λb o hb q=>k b o ((Heap.SameBut.update hp it _).extBut b o hb q)) st
theorem draws(hh:A.handled=none)(it t:Addr)(hne:t≠it)(items:Array Value):Draws P w A it [it,t] items.size (λi v=>items[i]?=some v) (λi h=>h.IsTupleIter it t i/\h.IsTuple t items) where
 live:=λ_ _ ⟨⟨o,ho,_⟩,_⟩=>⟨o,ho⟩
 frame:=λi h h' ⟨⟨o,ho,r⟩,⟨o2,ho2,r2⟩⟩ k=>⟨⟨o,k it (.head _) o ho,r⟩,⟨o2,k t (.tail _ (.head _)) o2 ho2,r2⟩⟩
 item:=λi s Q E hi ⟨h1,h2⟩ hQ=>l4 hh h1 h2 (λx h' hx h3 sb=>hQ x h' s.toks hx ⟨h3,h2.extBut sb.extBut hne⟩ sb) λh' e hx _ _=>absurd hx (by simp;omega)
 done:=λs Q E ⟨h1,h2⟩ hE=>l4 hh h1 h2 (λx h' hx _ _=>absurd hx (by simp)) λh' e _ eb st=>hE h' e eb st
theorem t0{b:Bool}{Q:Bool->Shared->Prop}(h:∀c,Q c s):wpAny (model P w) A (pure b) Q E s:=wpAny_pure (h b)
theorem wK(l:Addr)(items:Array Value)(n:Nat)(dct:Option Addr)(sl:Array (Option Value)) :
  Meets (Builtin.«enumerate.__new__» ⟨[.type "enumerate",.ref l],[]⟩) (λ_ R s=>s.heap.get? l=some { cls:=.type "tuple",dict:=dct,data:=.seq items n,slots:=sl } /\
   R (.ok (.ret (.ref (s.heap.push { cls:=.type "tuple_iterator",data:=.fields #[.ref l,.int 0 0] }).objs.size)))
    { s with heap:=(s.heap.push { cls:=.type "tuple_iterator",data:=.fields #[.ref l,.int 0 0] }).push { cls:=.type "enumerate",data:=.fields #[.none,.bool false,.ref s.heap.objs.size,rawInt 0,.none,.none] } }):=by
 refine .of_wp λP w A R s h=>?_
 obtain⟨hp,g,d,tk,os⟩:=s
 have tl:Heap.IsTuple (Shared.heap ⟨hp,g,d,tk,os⟩) l items:=⟨_,h.1,rfl,n,rfl⟩
 have en:=sub_enumerate
 wp_walk using wpAny_loadPart' h.1
 apply wpAny_stack_any
 intro st
 refine t0 λc=>?_
 cases c
 ·wp_walk using wpAny_pyIter_tuple tl
  exact⟨_,rfl,h.2⟩
 ·wp_walk using wpAny_pyIter_tuple tl
  exact⟨_,rfl,h.2⟩
theorem call_tup{l:Addr}{items:Array Value}{Q:Value->Shared->Prop}(ht:s.heap.IsTuple l items)
  (h:∀h',IsEnum h' (s.heap.objs.size+1) s.heap.objs.size 0 .none->h'.IsTupleIter s.heap.objs.size l 0->h'.objs.size=s.heap.objs.size+2 ->
   (∀b o,s.heap.get? b=some o->h'.get? b=some o)->Q (.ref (s.heap.objs.size+1)) { s with heap:=h' }):wpAny (model P w) A (call (.type "enumerate") [.ref l]) Q E s:=by
 obtain⟨⟨c,dct,dt,sl⟩,hl,hc,n,hd⟩:=ht
 cases hc
 cases hd
 have made:=wK l items n dct sl
 refine callType_new F.called_enumerate (by decide) (F.typeCall_enumerate_1 _) (F.newCall_enumerate_1 _) (λv=>F.args_object_init_2 v _) F.entry_enumerate_new made ⟨hl,?_⟩
 generalize hi:({ cls:=.type "tuple_iterator",data:=.fields #[.ref l,.int 0 0] }:Obj)=io
 generalize ho:({ cls:=.type "enumerate",data:=.fields #[.none,.bool false,.ref s.heap.objs.size,rawInt 0,.none,.none] }:Obj)=eo
 have z:(s.heap.push io).objs.size=s.heap.objs.size+1:=Heap.size_push ..
 have g1:((s.heap.push io).push eo).get? (s.heap.objs.size+1)=some eo:=by
  rw [<- z]
  exact Heap.get?_push_size _ (by rw [<- ho];rfl)
 have g2:((s.heap.push io).push eo).get? s.heap.objs.size=some io:=Heap.get?_push_of_some _ (Heap.get?_push_size _ (by rw [<- hi];rfl))
 show Shared.TypeIs _ (.ref (s.heap.push io).objs.size) _/\Q (.ref (s.heap.push io).objs.size) _
 rw [z]
 refine⟨⟨_,g1,by rw [<- ho]⟩,h _ (by rw [<- ho]at g1;rw [<- ho];exact g1) ⟨_,g2,by rw [<- hi],by rw [<- hi];rfl⟩ (by rw [Heap.size_push,z]) λb o q=>Heap.get?_push_of_some _ (Heap.get?_push_of_some _ q)⟩
end
end L2.En
namespace L2.Dv
open PySem PyProof.Rows
open AutoSeq1 (wpAny_loadPart')
section
variable{P:Program}{w:World}{A:Around}{E:Value->Shared->Prop}{s:Shared}
noncomputable def Ents(h:Heap)(d:Addr)(es:Array DictEntry)(ep:Nat):Prop:=∃o,h.get? d=some o/\o.ExactDict/\o.data=.dict es ep
theorem Ents.at{h h':Heap}{d:Addr}{es:Array DictEntry}{ep:Nat}(x:Ents h d es ep)(k:∀o,h.get? d=some o->h'.get? d=some o):Ents h' d es ep:=by
 obtain⟨o,ho,r⟩:=x
 exact⟨o,k o ho,r⟩
theorem Ents.type {d:Addr}{es:Array DictEntry}{ep:Nat} (x:Ents s.heap d es ep):s.TypeIs (.ref d) "dict":=by
 obtain⟨o,ho,r,_⟩:=x
 exact⟨o,ho,r.1⟩
theorem values_of{d:Addr}{es:Array DictEntry}{ep:Nat}{Q:Value->Shared->Prop}(hd:(d == sysModules)=false)(x:Ents s.heap d es ep)
  (h:Q (.ref s.heap.objs.size) { s with heap:=s.heap.push { cls:=.type "dict_values",data:=.fields #[.ref d] } }):wpAny (model P w) A (call (.builtin "dict.values") [.ref d]) Q E s:=by
 refine wpAny_call_entry F.slot_dict_values x.type F.entry_dict_values ?_ (F.args_dict_values_1 _)
 obtain⟨⟨c1,d1,t1,l1⟩,h1,hx,e2⟩:=x
 have e1:=hx.1
 cases e1
 cases e2
 obtain⟨hp,g,dr,tk,os⟩:=s
 unfold Builtin.«dict.values»
 wp_walk using wpAny_loadPart' h1
 exact⟨_,rfl,h⟩
theorem wL{v d:Addr}{es:Array DictEntry}{ep:Nat}{Q:Value->Shared->Prop}(hv:s.heap.IsValuesView v d)(x:Ents s.heap d es ep)
  (h:Q (.ref s.heap.objs.size) { s with heap:=s.heap.push { cls:=.type "dict_valueiterator",data:=.fields #[.ref d,.int 0 0,.int es.size 0,.int ep 0] } }):wpAny (model P w) A (pyIter (.ref v)) Q E s:=by
 refine wpAny_pyIter_slot hv.typeIs F.slot_dict_values_iter (wpAny_call_entry F.slot_dict_values_iter hv.typeIs F.entry_dict_values_iter ?_ (F.args_dict_values_iter_1 _))
 obtain⟨⟨c1,d1,t1,l1⟩,h1,hx,e2⟩:=x
 have e1:=hx.1
 cases e1
 cases e2
 obtain⟨⟨c3,d3,t3,l3⟩,h3,e3,e4⟩:=hv
 cases e3
 cases e4
 obtain⟨hp,g,dr,tk,os⟩:=s
 unfold Builtin.«dict_values.__iter__»
 wp_walk using wpAny_loadPart' h1,wpAny_loadPart' h3
 exact⟨_,rfl,_,_,⟨_,Heap.get?_push_size _ rfl,rfl⟩,F.slot_dict_valueiterator_next.lookup,h⟩
theorem qp{it d:Addr}{i:Nat}{es:Array DictEntry}{ep:Nat}{Q:Option Value->Shared->Prop}(hh:A.handled=none)(hv:s.heap.IsValIter it d i es.size ep)(x:Ents s.heap d es ep)
  (h1:∀e h',es[i]?=some e->h'.IsValIter it d (i+1) es.size ep->Heap.SameBut it s.heap h'->Q (some e.val) { s with heap:=h' })
  (h2:∀h',es[i]?=none->Heap.ExtBut it s.heap h'->Q none { s with heap:=h' }):wpAny (model P w) A (pyNext (.ref it)) Q E s:=by
 have ty:=hv.typeIs
 obtain⟨⟨c1,d1,t1,l1⟩,g1,hx,e2⟩:=x
 have e1:=hx.1
 cases e1
 cases e2
 obtain⟨⟨c3,d3,t3,l3⟩,g3,e3,e4⟩:=hv
 cases e3
 cases e4
 obtain⟨hp,g,dr,tk,os⟩:=s
 unfold pyNext
 refine wpAny_bind (wpAny_attempt (wpAny_callSpecial?_slot (name:=Str.ofString "__next__") ty F.slot_dict_valueiterator_next (wpAny_call_entry F.slot_dict_valueiterator_next ty F.entry_dict_valueiterator_next ?_ (F.args_dict_valueiterator_next_1 _))))
 unfold Builtin.«dict_valueiterator.__next__»
 wp_walk using wpAny_loadPart' g1,wpAny_loadPart' g3
 rw [if_neg (by omega),Int.toNat_natCast]
 have self:∀(k:Nat) (v:Value),(hp.update it (Obj.mapFields (·.setIfInBounds k v))).get? it=some { cls:=.type "dict_valueiterator",dict:=d3,data:=.fields ((#[.ref d,.int (i:Int) 0,.int (es.size:Int) 0,.int (ep:Int) 0]:Array Value).setIfInBounds k v),slots:=l3 }:=λk v=>Heap.get?_update_self _ g3 rfl
 cases hx:es[i]? with
 |some e =>
  have g4:=self 1 (rawInt ((i:Int)+1))
  wp_walk using wpAny_loadPart' g3,wpAny_loadPart' g4
  exact⟨_,rfl,wpAny_pure (h1 e _ hx ⟨_,g4,rfl,rfl⟩ (Heap.SameBut.update ..))⟩
 | none =>
  refine wpAny_bind (wpAny_mono (Q:=λ(n:Nat) (s':Shared)=>n=0/\s'=⟨hp,g,dr,tk,os⟩) (E:=λ_ _=>False) ?_ (λn s' q=>?_) λ_ _ z=>z.elim)
  ·wp_walk using wpAny_loadPart' g3
   exact⟨by decide +kernel,rfl⟩
  obtain⟨rfl,rfl⟩:=q
  refine wpAny_bind (wpAny_setField g3 rfl (by simp) ?_)
  refine St.iZ (v:=.none) (vs:=#[]) (it:=0) (Q:=λ_ _=>True) (by simpa using hh) λe s' kp ⟨h',eq⟩ hT=>?_
  subst eq
  refine wpAny_bind (wpAny_isInstance (T:="StopIteration") (b:=true) hT isSubtype_stop ?_)
  exact wpAny_pure (h2 h' hx λb o hb q=>kp b o ((Heap.SameBut.update hp it _).extBut b o hb q))
theorem src {r d:Addr}{es:Array DictEntry}{ep:Nat}:PySem.W.KdlSrc P w "dict_values" r d es.size (λi v=>∃e,es[i]?=some e/\v=e.val) (λh=>h.IsValuesView r d/\Ents h d es ep) where
 type:=λ_ q=>q.1.typeIs
 there:=λ_ ⟨⟨o,ho,_⟩,⟨o',ho',_⟩⟩=>⟨Heap.lt_size ho,Heap.lt_size ho'⟩
 keep:=λ_ _ ⟨⟨o,ho,z⟩,x⟩ k=>⟨⟨o,k r (.inl rfl) o ho,z⟩,x.at λo e=>k d (.inr rfl) o e⟩
 notList:=by decide
 notTuple:=by decide
 hint:=λ_ _ _ _ q z=>PySem.W.kdl_hint_values q.1.typeIs z
 iter:=λA s hh ⟨q,x⟩=>by
  have lt:d<s.heap.objs.size:=by obtain⟨o,ho,_⟩:=x;exact Heap.lt_size ho
  have ne:d≠s.heap.objs.size:=Nat.ne_of_lt lt
  refine⟨{ cls:=.type "dict_valueiterator",data:=.fields #[.ref d,.int 0 0,.int es.size 0,.int ep 0] },λi h=>h.IsValIter s.heap.objs.size d i es.size ep/\Ents h d es ep,λE Q z=>wL q x z,?_,⟨_,Heap.get?_push_size _ rfl,rfl,rfl⟩,x.at λo e=>Heap.get?_push_of_some _ e⟩
  refine⟨λb hb=>by simp at hb;simp [hb],λi h h' ⟨⟨o,ho,z⟩,y⟩ k=>⟨⟨o,k _ (by simp) o ho,z⟩,y.at λo e=>k d (by simp) o e⟩,λi s' Q E hi ⟨y,z⟩ hQ=>?_,λs' Q E ⟨y,z⟩ hQ=>?_,λi s' Q E ⟨y,z⟩ hQ=>?_⟩
  ·refine qp hh y z (λe h' he y' sb=>?_) λh' he _=>absurd he (by simp;omega)
   exact hQ _ h' s'.toks ⟨e,he,rfl⟩ ⟨y',z.at λo q=>sb.extBut d o ne q⟩ λb o hb q=>sb.extBut b o (λw=>hb (by simp [w])) q
  ·refine qp hh y z (λe h' he _ _=>absurd he (by simp)) λh' _ eb=>?_
   exact hQ h' s'.toks λb o hb q=>eb b o (λw=>hb (by simp [w])) q
  ·exact wpAny_pyIter_valiter y hQ
end
end L2.Dv
namespace HT
open PySem PyProof.Rows
section
variable{prog:Program}{w:World}{A:Around}{E:Value->Shared->Prop}{s:Shared}
theorem getItem_tuple_whole{t sl:Addr}{items:Array Value}{vl vu:Value}{lo hi:Option Int}{Q:Value->Shared->Prop}(ht:IsTup s.heap t items)(hs:s.heap.IsSliceOf sl vl vu .none)(pl:IsPart vl lo)(pu:IsPart vu hi)
  (h0:sIx items.size 0 lo=0) (h1:sIx items.size items.size hi=items.size) (h:Q (.ref t) s):wpAny (model prog w) A (getItem (.ref t) (.ref sl)) Q E s:=by
 have hTs:s.TypeIs (.ref sl) "slice":=by obtain⟨os,hos,hcs,_⟩:=hs;exact⟨os,hos,hcs⟩
 unfold getItem
 try with_reducible refine wpAny_holding ?_
 first|refine wpAny_bind (wpAny_pure ?_)|skip
 refine wpAny_bind (wpAny_sequenceKey ht.typeIs (by decide) ?_)
 refine wpAny_bind (wpAny_callSpecial?_slot (name:=Str.ofString "__getitem__") ht.typeIs PyProof.Rows.slot_tuple_getitem
  (wpAny_call_entry PyProof.Rows.slot_tuple_getitem ht.typeIs entry_tuple_getitem ?_ (args_tuple_getitem _ _)))
 show wpAny _ _ (Builtin.Tuple.tupleItemsOf (.ref t) >>= _) _ _ s
 refine wpAny_bind (tupleItemsOf_ ht ?_)
 refine wpAny_bind (wpAny_typeOf hTs ?_)
 rw [if_pos (by decide)]
 refine wpAny_bind (eW hs pl pu ?_)
 show wpAny _ _ (if (((sIx items.size 0 lo:Nat):Int) == 0&&(1:Int) == 1&&(sIx items.size items.size hi-sIx items.size 0 lo) == items.size)=true then _ else _) _ _ s
 rw [h0,h1,if_pos (by simp)]
 unfold Builtin.Tuple.tupleIsExact
 refine wpAny_bind (wpAny_bind (wpAny_typeOf ht.typeIs (wpAny_pure ?_)))
 rw [if_pos (by decide)]
 refine wpAny_bind (wpAny_rule ?_)
 exact wpAny_pure ⟨_,rfl,wpAny_pure h⟩
end
end HT
namespace L2
open PySem PySem.Spec PyProof.Rows
section
variable{X:Cx}
theorem wM:SlR X (λx lo hi H Q=>∃a xs,x=.ref a/\SqT X.K H a xs/\HT.sIx xs.length 0 lo=0/\HT.sIx xs.length xs.length hi=xs.length/\Q (.ref a) H):=by
 intro pins s σ H x v vl vu lo hi sl Q I rx hs pl pu h
 obtain⟨a,xs,rfl,hx,h0,h1,q⟩:=h
 cases rx
 obtain⟨its,r,ht,hz⟩:=I.tuple hx
 have hlen:its.toArray.size=xs.length:=by rw [List.size_toArray];exact r.length.symm
 refine⟨"tuple",_,PyProof.Rows.slot_tuple_getitem.lookup,ht.typeIs,?_⟩
 exact HT.getItem_tuple_whole ht hs pl pu (by rw [hlen];exact h0) (by rw [hlen];exact h1) ⟨.ref a,H,I,rfl,q⟩
end
end L2
namespace L2.Rv
open PySem PyProof.Rows
section
variable{P:Program}{w:World}{A:Around}{E:Value->Shared->Prop}{s:Shared}
noncomputable def Drawn(items:Array Value)(i:Nat)(v:Value):Prop:=items[items.size-1-i]?=some v
end
end L2.Rv
namespace L2
open PySem PySem.Spec PyProof.Rows
section
variable{X:Cx}
end
end L2
namespace L2.Rg
open PySem PyProof.Rows
section
variable{P:Program}{w:World}{A:Around}{E:Value->Shared->Prop}{s:Shared}
end
end L2.Rg
namespace L2
open PySem PySem.Spec PyProof.Rows
section
variable{X:Cx}
end
end L2
namespace MM
open PySem
inductive Sc where
 | non|bl (b:Bool)|int (i:Int)|str (x:Str)
 deriving Inhabited,DecidableEq
inductive DD where
 | k (kvs:List (Int×Sc))|t (kvs:List (List Int×Sc))
 deriving Inhabited
inductive PV where
 | non|bl (b:Bool)|int (i:Int)|str (x:Str)|tup (xs:List PV)|lst (xs:List PV)|dI (d:DD)
 deriving Inhabited
noncomputable def Sc.pv:Sc->PV
 | .non=>.non
 | .bl b=>.bl b
 | .int i=>.int i
 | .str x=>.str x
noncomputable def sc?:PV->Option Sc
 | .non=>some .non
 | .bl b=>some (.bl b)
 | .int i=>some (.int i)
 | .str x=>some (.str x)
 | _=>none
noncomputable def bX{α:Type} [DecidableEq α] (kvs:List (α×Sc)) (k:α):Option Sc:=(kvs.find? λp=>decide (p.1=k)).map (·.2)
noncomputable def bS{α:Type} [DecidableEq α] (kvs:List (α×Sc)) (k:α) (v:Sc):List (α×Sc) :=
 if (kvs.any λp=>decide (p.1=k))=true then kvs.map (λp=>if p.1=k then (p.1,v) else p) else kvs ++ [(k,v)]
noncomputable def eqL(f:PV->PV->Option Bool):List PV->List PV->Option Bool
 | [],[]=>some true
 |x::xs,y::ys=>(f x y).bind λp=>(eqL f xs ys).map λq=>p&&q
 | _,_=>some false
noncomputable def eqF:Nat->PV->PV->Option Bool
 | _,.non,.non=>some true
 | _,.bl a,.bl b=>some (a == b)
 | _,.bl a,.int b=>some ((if a then 1 else 0) == b)
 | _,.int a,.bl b=>some (a == (if b then 1 else 0))
 | _,.int a,.int b=>some (a == b)
 | _,.str a,.str b=>some (a == b)
 |0,.tup _,.tup _=>none
 |0,.lst _,.lst _=>none
 | _,.dI _,_=>none
 | _,_,.dI _=>none
 |n+1,.tup a,.tup b=>eqL (eqF n) a b
 |n+1,.lst a,.lst b=>if a.length=b.length then eqL (eqF n) a b else some false
 | _,_,_=>some false
noncomputable def pF:PV->PV->Bool
 | .tup _,.tup _=>true
 | .lst _,.lst _=>true
 | .tup _,_=>false
 | _,.tup _=>false
 | .lst _,_=>false
 | _,.lst _=>false
 | .bl _,.int _=>false
 | .int _,.bl _=>false
 | .dI _,_=>false
 | _,.dI _=>false
 | _,_=>true
noncomputable def inL(f:PV->Option Bool):List PV->Option Bool
 | []=>some false
 |y::ys=>(f y).bind λp=>(inL f ys).map λq=>p || q
inductive MV where
 | val (v:PV)|own (xs:List PV)|brw (xs:List PV)|ownD (d:DD)|brwD (d:DD)
 | ownL (xss:List (List PV))
 deriving Inhabited
noncomputable abbrev Rho:=List (Option MV)
inductive Op2 where
 | add|sub|mul|fdiv|mod|pow|shr
 deriving DecidableEq
inductive Cp where
 | eq|ne|lt|le|gt|ge|isN|notN|isIn|notIn
 deriving DecidableEq
inductive Blt where
 | len|tupleOf|listOf|sorted|any|all|sum|max1|min1|max2|min2|intOf|boolOf|isInt|isBool|isStr|isList|isTuple
 | sortedSet|lenSet|lenSetSub|sortedKeys|valuesOf|tupleRev
 deriving DecidableEq
inductive Sk where
 | seq|rng|enm|rev
 deriving DecidableEq
set_option genInjectivity false in
inductive ME where
 | var (i:Nat)
 | bor (i:Nat)
 | cst (v:PV)
 | glob (x:Str) (v:PV)
 | bin (op:Op2) (a b:ME)
 | neg (a:ME)
 | not (a:ME)
 | and (a b:ME)
 | or (a b:ME)
 | ite (c a b:ME)
 | cmp (op:Cp) (a b:ME)
 | chain (op op':Cp) (a b c:ME)
 | tup (es:List ME)
 | lst (es:List ME)
 | idx (a i:ME)
 | slice (a lo hi:ME)
 | blt (b:Blt) (es:List ME)
 | call (f:Nat) (es:List ME)
 | callD (f:Nat) (es:List ME) (d:List Sc)
 | comp (k:Sk) (src:List ME) (js:List Nat) (cond elt:ME)
 | dget (a k d:ME)
 | dat (a k:ME)
 | dIn (neg:Bool) (k a:ME)
 | lenL (i:Nat)
 | lenI (i:Nat) (k:ME)
 deriving Inhabited
noncomputable def aZ:List PV->Option (List Int)
 | []=>some []
 | .int i::r=>(aZ r).map (i::·)
 | _=>none
noncomputable def e_:List PV->Option (List (List Int))
 | []=>some []
 | .tup xs::r=>(aZ xs).bind λx=>(e_ r).map (x::·)
 | _=>none
noncomputable def cE:List PV->Option (List Bool)
 | []=>some []
 | .bl i::r=>(cE r).map (i::·)
 | _=>none
noncomputable def rL:PV->PV->Option (Option Sc)
 | .dI (.k kvs),.int i=>some (bX kvs i)
 | .dI (.t kvs),.tup xs=>(aZ xs).map (bX kvs)
 | _,_=>none
noncomputable def rM:DD->PV->Sc->Option DD
 | .k kvs,.int i,s=>if kvs.length<10000 then some (.k (bS kvs i s)) else none
 | .t kvs,.tup xs,s=>(aZ xs).bind λk=>if kvs.length<10000 then some (.t (bS kvs k s)) else none
 | _,_,_=>none
noncomputable def dSc:DD->List Sc
 | .k kvs=>kvs.map (·.2)
 | .t kvs=>kvs.map (·.2)
noncomputable def gP(d:DD):List PV:=(dSc d).map Sc.pv
noncomputable def lexLt:List Int->List Int->Bool
 | [],[]=>false
 | [],_::_=>true
 | _::_,[]=>false
 |x::xs,y::ys=>if x=y then lexLt xs ys else decide (x<y)
noncomputable def t4(x:Int):List Int->List Int
 | []=>[x]
 |y::r=>if y<x then y::t4 x r else x::y::r
noncomputable def sortI:List Int->List Int
 | []=>[]
 |x::r=>t4 x (sortI r)
noncomputable def t5(x:List Int):List (List Int)->List (List Int)
 | []=>[x]
 |y::r=>if lexLt y x=true then y::t5 x r else x::y::r
noncomputable def sortT:List (List Int)->List (List Int)
 | []=>[]
 |x::r=>t5 x (sortT r)
noncomputable def dd:List Int->List Int
 | []=>[]
 |x::r=>if x∈dd r then dd r else x::dd r
noncomputable def ir{α:Type}(f:Int->Int->Option α):PV->PV->Option α
 | .int i,.int j=>f i j
 | _,_=>none
noncomputable def xR:PV->PV->Option PV
 | .int i,.int j=>some (.int (i+j))
 | .lst a,.lst b=>if a.length+b.length<=10000 then some (.lst (a++b)) else none
 | .tup a,.tup b=>if a.length+b.length<=10000 then some (.tup (a++b)) else none
 | .str a,.str b=>if a.length+b.length<=1000000 then some (.str (a++b)) else none
 | _,_=>none
noncomputable def fZ(op:Op2):PV->PV->Option PV:=match op with
 | .add=>xR
 | .sub=>ir λi j=>some (.int (i-j))
 | .mul=>ir λi j=>if (-(2 ^ 64)<i/\i<2 ^ 64)\/(-(2 ^ 64)<j/\j<2 ^ 64) then some (.int (i*j)) else none
 | .fdiv=>ir λi j=>if 0<j/\j<1073741824 then some (.int (i / j)) else none
 | .mod=>ir λi j=>if 0<j then some (.int (i % j)) else none
 | .pow=>ir λi j=>if 0<=j/\j<=1000000/\i.natAbs<2 ^ 64 then some (.int (i ^ j.toNat)) else none
 | .shr=>ir λi j=>if 0<=j then some (.int (i / 2 ^ j.toNat)) else none
noncomputable def l5:PV->Bool
 | .non=>true
 | _=>false
noncomputable def isIn(x:PV)(xs:List PV):Option Bool:=inL (λy=>eqF 100 y x) xs
noncomputable def Bm(a b:PV):Option Bool:=match b with
 | .non=>some (l5 a)
 | .bl q=>(match a with|.bl p=>some (p == q)|_=>none)
 | _=>none
noncomputable def a_:PV->Option (List PV)
 | .tup xs=>some xs
 | .lst xs=>some xs
 | _=>none
noncomputable def f_:PV->Option (List PV)
 | .lst xs=>some xs
 | _=>none
noncomputable def cD(op:Cp):PV->PV->Option Bool:=match op with
 | .eq=>eqF 100
 | .ne=>λa b=>if pF a b=true then (eqF 100 a b).map λp=>!p else none
 | .lt=>ir λi j=>some (decide (i<j))
 | .le=>ir λi j=>some (decide (i<=j))
 | .gt=>ir λi j=>some (decide (j<i))
 | .ge=>ir λi j=>some (decide (j<=i))
 | .isN=>Bm
 | .notN=>λa b=>(Bm a b).map λp=>!p
 | .isIn=>λa b=>(a_ b).bind (isIn a)
 | .notIn=>λa b=>((a_ b).bind (isIn a)).map λp=>!p
noncomputable def place(n:Nat)(i:Int):Option Nat :=
 if 0<=i then (if i<n then some i.toNat else none) else if -(n:Int)<=i then some (i+n).toNat else none
noncomputable def gQ:PV->PV->Option PV
 | .tup xs,.int i=>(place xs.length i).bind λj=>xs[j]?
 | .lst xs,.int i=>(place xs.length i).bind λj=>xs[j]?
 | _,_=>none
noncomputable def fM(n d:Nat):Option Int->Nat
 |none=>d
 |some i=>if i<0 then (i+n).toNat else min i.toNat n
noncomputable def cut(xs:List PV)(lo hi:Option Int):List PV:=(xs.drop (fM xs.length 0 lo)).take (fM xs.length xs.length hi-fM xs.length 0 lo)
noncomputable def iu:PV->Option Int->Option Int->Option PV
 | .lst xs,lo,hi=>some (.lst (cut xs lo hi))
 | .tup xs,lo,hi=>some (.tup (cut xs lo hi))
 | _,_,_=>none
noncomputable def bnd:ME->PV->Option (Option Int)
 | .cst .non,_=>some none
 | _,.int i=>some (some i)
 | _,_=>none
noncomputable def t6:List Int->Option Int
 | []=>none
 |x::r=>some (r.foldl (λa b=>if a<b then b else a) x)
noncomputable def gc(xs:List PV):Option PV :=
 if xs.length<64 then
  match aZ xs with
  |some ns=>some (.lst ((sortI ns).map .int))
  |none=>(e_ xs).map λts=>.lst ((sortT ts).map λt=>.tup (t.map .int))
 else none
noncomputable def isT(b:Blt):PV->Bool
 | .int _=>b == .isInt
 | .bl _=>b == .isInt || b == .isBool
 | .str _=>b == .isStr
 | .lst _=>b == .isList
 | .tup _=>b == .isTuple
 | .non=>false
 | .dI _=>false
noncomputable def isD:PV->Bool
 | .dI _=>true
 | _=>false
noncomputable def b8(vs:List PV)(f:PV->Option PV):Option PV:=match vs with
 | [a]=>f a
 | _=>none
noncomputable def gJ(vs:List PV)(f:PV->PV->Option PV):Option PV:=match vs with
 | [a,b]=>f a b
 | _=>none
noncomputable def fT(b:Blt)(vs:List PV):Option PV:=b8 vs λa=>if isD a=true then none else some (.bl (isT b a))
noncomputable def xS:PV->Option PV
 | .tup xs=>some (.int xs.length)
 | .lst xs=>some (.int xs.length)
 | .dI (.k kvs)=>some (.int kvs.length)
 | _=>none
noncomputable def av(b:Blt)(vs:List PV):Option PV:=match b with
 | .len=>b8 vs xS
 | .tupleOf=>b8 vs λa=>(a_ a).map .tup
 | .listOf=>b8 vs λa=>(a_ a).map .lst
 | .sorted=>b8 vs λa=>(a_ a).bind gc
 | .any=>b8 vs λa=>(f_ a).bind λxs=>(cE xs).map λbs=>.bl (bs.any id)
 | .all=>b8 vs λa=>(f_ a).bind λxs=>(cE xs).map λbs=>.bl (bs.all id)
 | .sum=>b8 vs λa=>(f_ a).bind λxs=>(aZ xs).map λns=>.int ns.sum
 | .max1=>b8 vs λa=>(f_ a).bind λxs=>(aZ xs).bind λns=>(t6 ns).map .int
 | .min1=>none
 | .max2=>gJ vs (ir λi j=>some (.int (if j > i then j else i)))
 | .min2=>gJ vs (ir λi j=>some (.int (if j<i then j else i)))
 | .intOf=>b8 vs λa=>match a with|.int i=>some (.int i)|.bl b=>some (.int (if b then 1 else 0))|_=>none
 | .boolOf=>b8 vs λa=>match a with|.bl b=>some (.bl b)|_=>none
 | .isInt=>fT .isInt vs
 | .isBool=>fT .isBool vs
 | .isStr=>fT .isStr vs
 | .isList=>fT .isList vs
 | .isTuple=>fT .isTuple vs
 | .sortedSet=>b8 vs λa=>(a_ a).bind λxs=>(aZ xs).bind λns=>if ns.length<=1000/\(dd ns).length<64 then some (.lst ((sortI (dd ns)).map .int)) else none
 | .lenSet=>b8 vs λa=>(a_ a).bind λxs=>(aZ xs).bind λns=>if ns.length<=1000 then some (.int (dd ns).length) else none
 | .lenSetSub=>gJ vs λa b=>(a_ a).bind λxs=>(aZ xs).bind λns=>(a_ b).bind λys=>(aZ ys).bind λms =>
   if ns.length<=1000/\ms.length<=1000/\(dd ns).length<=60 then some (.int ((dd ns).filter λn=>!decide (n∈ms)).length) else none
 | .sortedKeys=>b8 vs λa=>match a with|.dI (.k kvs)=>if kvs.length<64 then some (.lst ((sortI (kvs.map (·.1))).map .int)) else none|_=>none
 | .tupleRev=>b8 vs λa=>(f_ a).map λxs=>.tup xs.reverse
 | .valuesOf=>b8 vs λa=>match a with|.dI d=>if (gP d).length<=10000 then some (.lst (gP d)) else none|_=>none
noncomputable def bi(n:Nat):List PV->List PV
 | []=>[]
 |x::r=>.tup [.int (n:Nat),x]::bi (n+1) r
noncomputable def bo:Sk->List PV->Option (List PV)
 | .seq,[a]=>a_ a
 | .rng,[.int j]=>if -(2 ^ 62)<=j/\j<2 ^ 62 then some ((List.range j.toNat).map λ(k:Nat)=>.int ((0:Int)+k)) else none
 | .rng,[.int i,.int j]=>if -(2 ^ 62)<=i/\i<2 ^ 62/\-(2 ^ 62)<=j/\j<2 ^ 62 then some ((List.range (j-i).toNat).map λ(k:Nat)=>.int (i+k)) else none
 | .enm,[a]=>(a_ a).map (bi 0)
 | .rev,[.lst xs]=>some xs.reverse
 | _,_=>none
noncomputable def eP(c:PV->Option Bool)(f:PV->Option PV):List PV->Option (List PV)
 | []=>some []
 |x::r=>(c x).bind λb=>if b=true then (f x).bind λy=>(eP c f r).map (y::·) else eP c f r
noncomputable def aL:PV->Option Bool
 | .bl b=>some b
 | _=>none
noncomputable abbrev Cal:=Nat->List MV->Option PV
noncomputable def t7:Option MV->Option PV
 |some (.val v)=>some v
 | _=>none
noncomputable def bn:Option MV->Option PV
 |some (.val v)=>some v
 |some (.own xs)=>some (.lst xs)
 |some (.brw xs)=>some (.lst xs)
 |some (.ownD kvs)=>some (.dI kvs)
 |some (.brwD kvs)=>some (.dI kvs)
 |some (.ownL _)=>none
 |none=>none
noncomputable def fN:Option MV->Option MV
 |some (.val v)=>some (.val v)
 |some (.own xs)=>some (.brw xs)
 |some (.brw xs)=>some (.brw xs)
 |some (.ownD xs)=>some (.brwD xs)
 |some (.brwD xs)=>some (.brwD xs)
 |some (.ownL _)=>none
 |none=>none
noncomputable def eG:Option MV->Option MV
 |some (.own xs)=>some (.brw xs)
 |some (.ownD xs)=>some (.brwD xs)
 |some (.ownL _)=>none
 |o=>o
noncomputable def c8(js:List Nat)(ρ:Rho)(x:PV):Rho:=some (.val x)::js.map λj=>eG (ρ[j]?).join
noncomputable def y7:Option MV->Option PV
 |some (.ownL xss)=>some (.int xss.length)
 | _=>none
noncomputable def t8:Option MV->PV->Option PV
 |some (.ownL xss),.int j=>(place xss.length j).bind λq=>(xss[q]?).map λxs=>.int xs.length
 | _,_=>none
mutual
noncomputable def ev(cal:Cal):ME->Rho->Option PV
 | .var i,ρ=>t7 (ρ[i]?).join
 | .bor i,ρ=>bn (ρ[i]?).join
 | .cst v,_=>some v
 | .glob _ v,_=>some v
 | .bin op a b,ρ=>(ev cal a ρ).bind λx=>(ev cal b ρ).bind λy=>fZ op x y
 | .neg a,ρ=>(ev cal a ρ).bind λx=>match x with|.int i=>some (.int (-i))|_=>none
 | .not a,ρ=>((ev cal a ρ).bind aL).map λb=>.bl (!b)
 | .and a b,ρ=>((ev cal a ρ).bind aL).bind λc=>if c=true then (ev cal b ρ).bind λy=>(aL y).map .bl else some (.bl false)
 | .or a b,ρ=>((ev cal a ρ).bind aL).bind λc=>if c=true then some (.bl true) else (ev cal b ρ).bind λy=>(aL y).map .bl
 | .ite c a b,ρ=>((ev cal c ρ).bind aL).bind λk=>if k=true then ev cal a ρ else ev cal b ρ
 | .cmp op a b,ρ=>(ev cal a ρ).bind λx=>(ev cal b ρ).bind λy=>(cD op x y).map .bl
 | .chain op op' a b c,ρ=>(ev cal a ρ).bind λx=>(ev cal b ρ).bind λy=>(cD op x y).bind λk=>if k=true then (ev cal c ρ).bind λz=>(cD op' y z).map .bl else some (.bl false)
 | .tup es,ρ=>(evs cal es ρ).bind λvs=>if vs.length<=10000 then some (.tup vs) else none
 | .lst es,ρ=>(evs cal es ρ).bind λvs=>if vs.length<=10000 then some (.lst vs) else none
 | .idx a i,ρ=>(ev cal a ρ).bind λx=>(ev cal i ρ).bind λy=>gQ x y
 | .slice a lo hi,ρ=>(ev cal a ρ).bind λx=>((ev cal lo ρ).bind λl=>bnd lo l).bind λl=>((ev cal hi ρ).bind λh=>bnd hi h).bind λh=>iu x l h
 | .blt b es,ρ=>(evs cal es ρ).bind λvs=>av b vs
 | .call f es,ρ=>(evA cal es ρ).bind λvs=>cal f vs
 | .callD f es d,ρ=>(evA cal es ρ).bind λvs=>cal f (vs++d.map λx=>.val x.pv)
 | .comp k src js cond elt,ρ=>(evs cal src ρ).bind λvs=>(bo k vs).bind λxs =>
   if xs.length<=10000 then (eP (λx=>(ev cal cond (c8 js ρ x)).bind aL) (λx=>ev cal elt (c8 js ρ x)) xs).map .lst else none
 | .dget a k d,ρ=>(ev cal a ρ).bind λx=>(ev cal k ρ).bind λy=>(ev cal d ρ).bind λz=>(rL x y).bind λo=>(sc? z).map λs=>(o.getD s).pv
 | .dat a k,ρ=>(ev cal a ρ).bind λx=>(ev cal k ρ).bind λy=>(rL x y).bind λo=>o.map Sc.pv
 | .dIn neg k a,ρ=>(ev cal k ρ).bind λy=>(ev cal a ρ).bind λx=>(rL x y).map λo=>.bl (if neg=true then !o.isSome else o.isSome)
 | .lenL i,ρ=>y7 (ρ[i]?).join
 | .lenI i k,ρ=>(ev cal k ρ).bind λkv=>t8 (ρ[i]?).join kv
noncomputable def evs(cal:Cal):List ME->Rho->Option (List PV)
 | [],_=>some []
 |e::es,ρ=>(ev cal e ρ).bind λv=>(evs cal es ρ).map (v::·)
noncomputable def evA(cal:Cal):List ME->Rho->Option (List MV)
 | [],_=>some []
 | .bor i::es,ρ=>(fN (ρ[i]?).join).bind λv=>(evA cal es ρ).map (v::·)
 |e::es,ρ=>(ev cal e ρ).bind λv=>(evA cal es ρ).map (MV.val v::·)
end
noncomputable def evB(cal:Cal)(e:ME)(ρ:Rho):Option Bool:=(ev cal e ρ).bind aL
set_option genInjectivity false in
inductive MS where
 | set (i:Nat) (e:ME)
 | setOwn (i:Nat) (e:ME)
 | freeze (i:Nat)
 | append (i:Nat) (e:ME)
 | extend (i:Nat) (e:ME)
 | popAt (i:Nat) (k:ME)
 | setL (i n:Nat)
 | appI (i:Nat) (k e:ME)
 | freezeL (i:Nat)
 | appF (i f:Nat) (es:List ME)
 | popI (i:Nat) (k e:ME)
 | setI (i:Nat) (k e:ME)
 | retO (i:Nat)
 | setIdx (i:Nat) (k v:ME)
 | unpack (is:List Nat) (e:ME)
 | expr (e:ME)
 | ite (c:ME) (a b:List MS)
 | for1 (i:Nat) (k:Sk) (src:List ME) (body:List MS)
 | forT (is:List Nat) (k:Sk) (src:List ME) (body:List MS)
 | while (n:Nat) (c:ME) (body:List MS)
 | ret (e:ME)
 | retOwn (i:Nat)
 | retN
 | brk
 | cont
 | pass
 | never
 | newD (m:Bool) (i:Nat)
 | retF (e:ME)
 | setCall (i f:Nat) (es:List ME)
 | clear (i:Nat)
 | dput (i:Nat) (k v:ME)
 deriving Inhabited
inductive R where
 | next (ρ:Rho)|brk (ρ:Rho)|cont (ρ:Rho)|ret (v:PV)|bad
 | retF (xs:List PV)
 deriving Inhabited
noncomputable def R.andThen:R->(Rho->R)->R
 | .next ρ,k=>k ρ
 |r,_=>r
noncomputable def put(ρ:Rho)(i:Nat)(v:MV):Rho:=ρ.set i (some v)
noncomputable def cb(o:Option PV)(k:PV->R):R:=match o with
 |some v=>k v
 |none=>.bad
noncomputable def t9(o:Option Bool)(k:Bool->R):R:=match o with
 |some v=>k v
 |none=>.bad
noncomputable def ko:List Nat->List PV->Rho->Option Rho
 | [],[],ρ=>some ρ
 |i::is,v::vs,ρ=>ko is vs (put ρ i (.val v))
 | _,_,_=>none
noncomputable def fb(is:List Nat):PV->Rho->Option Rho
 | .tup vs,ρ=>ko is vs ρ
 | _,_=>none
noncomputable def dH(o:Option Rho)(f:Rho->R):R:=match o with
 |some ρ=>f ρ
 |none=>.bad
noncomputable def aD(body:PV->Rho->R):List PV->Rho->R
 | [],ρ=>.next ρ
 |x::r,ρ=>match body x ρ with
  | .next ρ'=>aD body r ρ'
  | .cont ρ'=>aD body r ρ'
  | .brk ρ'=>.next ρ'
  | .ret v=>.ret v
  | .bad=>.bad
  | .retF xs=>.retF xs
noncomputable def m8(c:Rho->Option Bool)(body:Rho->R):Nat->Rho->R
 |0,_=>.bad
 | n + 1,ρ=>match c ρ with
  |none=>.bad
  |some false=>.next ρ
  |some true=>match body ρ with
   | .next ρ'=>m8 c body n ρ'
   | .cont ρ'=>m8 c body n ρ'
   | .brk ρ'=>.next ρ'
   | .ret v=>.ret v
   | .bad=>.bad
   | .retF xs=>.retF xs
noncomputable def aX(src:List ME)(ρ:Rho):Rho:=match src with
 | [.bor i]=>(match (ρ[i]?).join with|some (.own xs)=>put ρ i (.brw xs)|_=>ρ)
 | _=>ρ
noncomputable def aE(src:List ME)(ρ₀ ρ:Rho):Rho:=match src with
 | [.bor i]=>(match (ρ₀[i]?).join,(ρ[i]?).join with|some (.own _),some (.brw xs)=>put ρ i (.own xs)|_,_=>ρ)
 | _=>ρ
noncomputable def R.back(src:List ME)(ρ₀:Rho):R->R
 | .next ρ=>.next (aE src ρ₀ ρ)
 | .brk ρ=>.brk (aE src ρ₀ ρ)
 | .cont ρ=>.cont (aE src ρ₀ ρ)
 |r=>r
noncomputable def isL:MV->Bool
 | .ownL _=>true
 | _=>false
noncomputable def noL(ρ:Rho):Bool:=ρ.all λo=>match o with|some m=>!isL m|none=>true
noncomputable def y_(xss:List (List PV))(k v:PV):Option (List (List PV)):=match k with
 | .int j=>(place xss.length j).bind λq=>(xss[q]?).bind λxs=>if xs.length<10000 then some (xss.set q (xs ++ [v])) else none
 | _=>none
noncomputable def rN(xss:List (List PV))(k j:PV):Option (List (List PV)):=match k,j with
 | .int k,.int j=>(place xss.length k).bind λq=>(xss[q]?).bind λxs=>if 0<=j/\j<xs.length/\xs.length<=10000 then some (xss.set q (xs.eraseIdx j.toNat)) else none
 | _,_=>none
noncomputable def l6(xss:List (List PV))(k v:PV):Option (List (List PV)):=match k,v with
 | .int k,.lst xs=>(place xss.length k).map λq=>xss.set q xs
 | _,_=>none
mutual
noncomputable def ex(cal:Cal):MS->Rho->R
 | .set i e,ρ=>cb (ev cal e ρ) λv=>.next (put ρ i (.val v))
 | .setOwn i e,ρ=>cb (ev cal e ρ) λv=>match v with|.lst xs=>.next (put ρ i (.own xs))|_=>.bad
 | .freeze i,ρ=>match (ρ[i]?).join with|some (.own xs)=>.next (put ρ i (.val (.lst xs)))|some _=>.next ρ|none=>.bad
 | .append i e,ρ=>cb (ev cal e ρ) λv=>match (ρ[i]?).join with
  |some (.own xs)=>if xs.length<10000 then .next (put ρ i (.own (xs ++ [v]))) else .bad
  | _=>.bad
 | .extend i e,ρ=>cb (ev cal e ρ) λv=>match (ρ[i]?).join,a_ v with
  |some (.own xs),some ys=>if xs.length+ys.length<=10000 then .next (put ρ i (.own (xs++ys))) else .bad
  | _,_=>.bad
 | .popAt i k,ρ=>cb (ev cal k ρ) λk=>match (ρ[i]?).join,k with
  |some (.own xs),.int j=>if 0<=j/\j<xs.length/\xs.length<=10000 then .next (put ρ i (.own (xs.eraseIdx j.toNat))) else .bad
  | _,_=>.bad
 | .setL i n,ρ=>if noL ρ=true/\n<=10000 then .next (put ρ i (.ownL (List.replicate n []))) else .bad
 | .appI i k e,ρ=>cb (ev cal k ρ) λk=>cb (ev cal e ρ) λv=>match (ρ[i]?).join with
  |some (.ownL xss)=>(match y_ xss k v with|some yss=>.next (put ρ i (.ownL yss))|none=>.bad)
  | _=>.bad
 | .freezeL i,ρ=>match (ρ[i]?).join with|some (.ownL xss)=>.next (put ρ i (.val (.lst (xss.map .lst))))|_=>.bad
 | .appF i f es,ρ=>cb ((evA cal es ρ).bind λvs=>cal (f+1000) vs) λv=>match (ρ[i]?).join,v with
  |some (.ownL xss),.lst xs=>if xss.length<10000 then .next (put ρ i (.ownL (xss ++ [xs]))) else .bad
  | _,_=>.bad
 | .popI i k e,ρ=>cb (ev cal k ρ) λk=>cb (ev cal e ρ) λj=>match (ρ[i]?).join with
  |some (.ownL xss)=>(match rN xss k j with|some yss=>.next (put ρ i (.ownL yss))|none=>.bad)
  | _=>.bad
 | .setI i k e,ρ=>cb (ev cal e ρ) λv=>cb (ev cal k ρ) λk=>match (ρ[i]?).join with
  |some (.ownL xss)=>(match l6 xss k v with|some yss=>.next (put ρ i (.ownL yss))|none=>.bad)
  | _=>.bad
 | .retO i,ρ=>match (ρ[i]?).join with|some (.own xs)=>.retF xs|_=>.bad
 | .setIdx i k v,ρ=>cb (ev cal v ρ) λv=>cb (ev cal k ρ) λk=>match (ρ[i]?).join,k with
  |some (.own xs),.int k=>(match place xs.length k with|some j=>.next (put ρ i (.own (xs.set j v)))|none=>.bad)
  | _,_=>.bad
 | .unpack is e,ρ=>cb (ev cal e ρ) λv=>dH (fb is v ρ) .next
 | .expr e,ρ=>cb (ev cal e ρ) λ_=>.next ρ
 | .ite c a b,ρ=>t9 (evB cal c ρ) λk=>if k=true then exs cal a ρ else exs cal b ρ
 | .for1 i k src body,ρ=>match (evs cal src ρ).bind (bo k) with
  |some xs=>(aD (λx ρ'=>exs cal body (put ρ' i (.val x))) xs (aX src ρ)).back src ρ
  |none=>.bad
 | .forT is k src body,ρ=>match (evs cal src ρ).bind (bo k) with
  |some xs=>(aD (λx ρ'=>dH (fb is x ρ') λρ''=>exs cal body ρ'') xs (aX src ρ)).back src ρ
  |none=>.bad
 | .while n c body,ρ=>m8 (evB cal c) (λρ'=>exs cal body ρ') n ρ
 | .ret e,ρ=>cb (ev cal e ρ) .ret
 | .retOwn i,ρ=>match (ρ[i]?).join with|some (.own xs)=>.ret (.lst xs)|some (.ownD kvs)=>.ret (.dI kvs)|some (.val v)=>.ret v|_=>.bad
 | .newD m i,ρ=>.next (put ρ i (.ownD (if m=true then .t [] else .k [])))
 | .dput i k v,ρ=>cb (ev cal v ρ) λv=>cb (ev cal k ρ) λk=>match (ρ[i]?).join,sc? v with
  |some (.ownD d),some s=>match rM d k s with|some d'=>.next (put ρ i (.ownD d'))|none=>.bad
  | _,_=>.bad
 | .retF e,ρ=>cb (ev cal e ρ) λv=>match v with|.lst xs=>.retF xs|_=>.bad
 | .setCall i f es,ρ=>cb ((evA cal es ρ).bind λvs=>cal (f+1000) vs) λv=>match v with|.lst xs=>.next (put ρ i (.own xs))|_=>.bad
 | .clear i,ρ=>match (ρ[i]?).join with|some (.own _)=>.next (put ρ i (.own []))|_=>.bad
 | .retN,_=>.ret .non
 | .brk,ρ=>.brk ρ
 | .cont,ρ=>.cont ρ
 | .pass,ρ=>.next ρ
 | .never,_=>.bad
noncomputable def exs(cal:Cal):List MS->Rho->R
 | [],ρ=>.next ρ
 |s::ss,ρ=>(ex cal s ρ).andThen λρ'=>exs cal ss ρ'
end
structure MD where
 name:Str
 params:List Str
 names:List Str
 body:List MS
 deriving Inhabited
noncomputable def ab(ds:List MD):Nat->Cal
 |0,_,_=>none
 | n + 1,f,args=>match ds[f]? with
  |none=>if 2000<=f then none else
   (match ds[f-1000]? with
   |none=>none
   | some d=>if args.length=d.params.length then
     (match exs (ab ds n) d.body (args.map some++List.replicate (d.names.length-args.length) none) with
     | .retF xs=>some (.lst xs)
     | _=>none) else none)
  | some d=>if args.length=d.params.length then
    (match exs (ab ds n) d.body (args.map some++List.replicate (d.names.length-args.length) none) with
    | .next _=>some .non
    | .ret v=>some v
    | .retF xs=>some (.lst xs)
    | _=>none) else none
end MM
namespace MM
open PySem PySem.Spec PyProof.Rows L2
noncomputable abbrev St:=L2.St
noncomputable def ai(H:Hp)(O:List Addr):Hp:=λb=>if b∈O then none else H b
theorem m9{H:Hp}{O:List Addr}{b:Addr}(h:b∈O):ai H O b=none:=if_pos h
theorem bK{H:Hp}{O:List Addr}{b:Addr}(h:b∉O):ai H O b=H b:=if_neg h
theorem ae.rd{H H':Hp}(s:ae H H'){a:Addr}{u:HO}(h:Rd H a u):Rd H' a u:=h.elim (λe=>.inl (s a _ e)) λ⟨o,e⟩=>.inr ⟨o,s a _ e⟩
theorem bw(H:Hp)(O:List Addr):ae (ai H O) H:=λb u e=>by
 unfold ai at e
 split at e
 ·cases e
 ·exact e
theorem aQ{H H':Hp}{O O':List Addr}(s:ae H H')(h:∀b∈O',b∈O\/H b=none):ae (ai H O) (ai H' O'):=λb u e=>by
 have hb:b∉O:=λz=>by rw [m9 z]at e;cases e
 rw [bK hb]at e
 rw [bK]
 ·exact s b u e
 ·intro z
  rcases h b z with q|q
  ·exact hb q
  ·rw [q]at e;cases e
theorem ay{H H':Hp}{O:List Addr}(s:ae H H'):ae (ai H O) (ai H' O):=aQ s λ_ h=>.inl h
noncomputable def Sc.v:Sc->V
 | .non=>.non
 | .bl b=>.bl b
 | .int i=>.int i
 | .str x=>.str x
noncomputable def fU(kvs:List (Int×Sc)):List (Key×V):=kvs.map λp=>(Sum.inl p.1,p.2.v)
noncomputable def g5(kvs:List (List Int×Sc)):List (List Key×V):=kvs.map λp=>(p.1.map Sum.inl,p.2.v)
noncomputable def fc:DD->HO
 | .k kvs=>.dK (fU kvs)
 | .t kvs=>.dT (g5 kvs)
mutual
noncomputable def Rep(K:PySem.W.Frag)(F:Hp):PV->V->Prop
 | .non,u=>u=.non
 | .bl b,u=>u=.bl b
 | .int i,u=>u=.int i
 | .str x,u=>u=.str x
 | .tup xs,u=>∃a us,u=.ref a/\F a=some (.tup us)/\Reps K F xs us
 | .lst xs,u=>∃a us,u=.ref a/\SqL K F a us/\Reps K F xs us
 | .dI kvs,u=>∃a,u=.ref a/\Rd F a (fc kvs)
noncomputable def Reps(K:PySem.W.Frag)(F:Hp):List PV->List V->Prop
 | [],us=>us=[]
 |x::xs,us=>∃u r,us=u::r/\Rep K F x u/\Reps K F xs r
end
section
variable{K:PySem.W.Frag}{F F':Hp}
mutual
theorem Rep.mono(s:ae F F'):∀(x:PV) {u:V},Rep K F x u->Rep K F' x u
 | .non,_,h=>by simpa only [Rep] using h
 | .bl _,_,h=>by simpa only [Rep] using h
 | .int _,_,h=>by simpa only [Rep] using h
 | .str _,_,h=>by simpa only [Rep] using h
 | .tup xs,_,h=>by
  rw [Rep]at h ⊢
  obtain⟨a,us,e,q,r⟩:=h
  exact⟨a,us,e,s a _ q,Reps.mono s xs r⟩
 | .lst xs,_,h=>by
  rw [Rep]at h ⊢
  obtain⟨a,us,e,q,r⟩:=h
  exact⟨a,us,e,s.seq q,Reps.mono s xs r⟩
 | .dI kvs,_,h=>by
  rw [Rep]at h ⊢
  obtain⟨a,e,q⟩:=h
  exact⟨a,e,ae.rd s q⟩
theorem Reps.mono(s:ae F F'):∀(xs:List PV) {us:List V},Reps K F xs us->Reps K F' xs us
 | [],_,h=>by simpa only [Reps] using h
 |x::xs,_,h=>by
  rw [Reps]at h ⊢
  obtain⟨u,r,e,q,t⟩:=h
  exact⟨u,r,e,Rep.mono s x q,Reps.mono s xs t⟩
end
theorem Reps.nil:Reps K F [] []:=by rw [Reps]
theorem Reps.cons{x:PV}{xs:List PV}{u:V}{us:List V}(h:Rep K F x u)(t:Reps K F xs us):Reps K F (x::xs) (u::us):=by
 rw [Reps];exact⟨u,us,rfl,h,t⟩
theorem Reps.length:∀{xs:List PV}{us:List V},Reps K F xs us->xs.length=us.length
 | [],_,h=>by rw [Reps]at h;subst h;rfl
 |x::xs,_,h=>by
  rw [Reps]at h
  obtain⟨u,r,e,_,t⟩:=h
  subst e
  simp [Reps.length t]
theorem Reps.get:∀{xs:List PV}{us:List V}{i:Nat}{x:PV},Reps K F xs us->xs[i]?=some x->∃u,us[i]?=some u/\Rep K F x u
 | [],_,_,_,_,e=>by simp at e
 |x::xs,_,i,y,h,e=>by
  rw [Reps]at h
  obtain⟨u,r,rfl,q,t⟩:=h
  cases i with
  |zero=>simp at e;subst e;exact⟨u,by simp,q⟩
  |succ i=>obtain⟨w,h1,h2⟩:=Reps.get (i:=i) t (by simpa using e);exact⟨w,by simpa using h1,h2⟩
theorem Reps.get':∀{xs:List PV}{us:List V}{i:Nat}{u:V},Reps K F xs us->us[i]?=some u->∃x,xs[i]?=some x/\Rep K F x u
 | [],_,i,_,h,e=>by rw [Reps]at h;subst h;simp at e
 |x::xs,_,i,y,h,e=>by
  rw [Reps]at h
  obtain⟨u,r,rfl,q,t⟩:=h
  cases i with
  |zero=>simp at e;subst e;exact⟨x,by simp,q⟩
  |succ i=>obtain⟨w,h1,h2⟩:=Reps.get' (i:=i) t (by simpa using e);exact⟨w,by simpa using h1,h2⟩
theorem Reps.append:∀{xs ys:List PV}{us ws:List V},Reps K F xs us->Reps K F ys ws->Reps K F (xs++ys) (us++ws)
 | [],_,_,_,h,g=>by rw [Reps]at h;subst h;exact g
 |x::xs,_,_,_,h,g=>by
  rw [Reps]at h
  obtain⟨u,r,rfl,q,t⟩:=h
  exact .cons q (Reps.append t g)
theorem Reps.snoc{xs:List PV}{us:List V}{x:PV}{u:V}(h:Reps K F xs us)(g:Rep K F x u):Reps K F (xs ++ [x]) (us ++ [u]):=h.append (.cons g .nil)
theorem Reps.take:∀{xs:List PV}{us:List V} (n:Nat),Reps K F xs us->Reps K F (xs.take n) (us.take n)
 | _,_,0,_=>by simpa using Reps.nil
 | [],_,n+1,h=>by rw [Reps]at h;subst h;simpa using Reps.nil
 |x::xs,_,n+1,h=>by
  rw [Reps]at h
  obtain⟨u,r,rfl,q,t⟩:=h
  exact .cons q (Reps.take n t)
theorem Reps.drop:∀{xs:List PV}{us:List V} (n:Nat),Reps K F xs us->Reps K F (xs.drop n) (us.drop n)
 | _,_,0,h=>h
 | [],_,n+1,h=>by rw [Reps]at h;subst h;simpa using Reps.nil
 |x::xs,_,n+1,h=>by
  rw [Reps]at h
  obtain⟨u,r,rfl,q,t⟩:=h
  exact Reps.drop n t
theorem Reps.set:∀{xs:List PV}{us:List V}{x:PV}{u:V} (n:Nat),Reps K F xs us->Rep K F x u->Reps K F (xs.set n x) (us.set n u)
 | [],_,_,_,n,h,_=>by rw [Reps]at h;subst h;simpa using Reps.nil
 |x::xs,_,_,_,0,h,g=>by
  rw [Reps]at h
  obtain⟨u,r,rfl,q,t⟩:=h
  exact .cons g t
 |x::xs,_,_,_,n+1,h,g=>by
  rw [Reps]at h
  obtain⟨u,r,rfl,q,t⟩:=h
  exact .cons q (Reps.set n t g)
theorem Reps.ints:∀{ns:List Int}{us:List V},Reps K F (ns.map .int) us->us=ns.map V.int
 | [],_,h=>by simpa [Reps] using h
 |n::ns,_,h=>by
  rw [List.map_cons,Reps]at h
  obtain⟨u,r,rfl,q,t⟩:=h
  rw [Rep]at q
  rw [q,Reps.ints t];rfl
theorem Reps.of_ints:∀(ns:List Int),Reps K F (ns.map .int) (ns.map V.int)
 | []=>.nil
 |n::ns=>.cons (by rw [Rep]) (Reps.of_ints ns)
theorem d6:∀{xs:List PV}{ns:List Int},aZ xs=some ns->xs=ns.map .int
 | [],_,h=>by simp [aZ]at h;subst h;rfl
 | .int i::r,ns,h=>by
  simp only [aZ,Option.map_eq_some_iff]at h
  obtain⟨ms,h1,rfl⟩:=h
  rw [d6 h1];rfl
 | .non::_,_,h=>by simp [aZ]at h
 | .bl _::_,_,h=>by simp [aZ]at h
 | .str _::_,_,h=>by simp [aZ]at h
 | .tup _::_,_,h=>by simp [aZ]at h
 | .lst _::_,_,h=>by simp [aZ]at h
 | .dI _::_,_,h=>by simp [aZ]at h
theorem oj:∀{xs:List PV}{ns:List (List Int)},e_ xs=some ns->xs=ns.map λt=>.tup (t.map .int)
 | [],_,h=>by simp [e_]at h;subst h;rfl
 | .tup i::r,ns,h=>by
  simp only [e_,Option.bind_eq_some_iff,Option.map_eq_some_iff]at h
  obtain⟨t,h0,ms,h1,rfl⟩:=h
  rw [oj h1,d6 h0];rfl
 | .non::_,_,h=>by simp [e_]at h
 | .bl _::_,_,h=>by simp [e_]at h
 | .str _::_,_,h=>by simp [e_]at h
 | .int _::_,_,h=>by simp [e_]at h
 | .lst _::_,_,h=>by simp [e_]at h
 | .dI _::_,_,h=>by simp [e_]at h
theorem i5:∀{xs:List PV}{ns:List Bool},cE xs=some ns->xs=ns.map .bl
 | [],_,h=>by simp [cE]at h;subst h;rfl
 | .bl i::r,ns,h=>by
  simp only [cE,Option.map_eq_some_iff]at h
  obtain⟨ms,h1,rfl⟩:=h
  rw [i5 h1];rfl
 | .non::_,_,h=>by simp [cE]at h
 | .int _::_,_,h=>by simp [cE]at h
 | .str _::_,_,h=>by simp [cE]at h
 | .tup _::_,_,h=>by simp [cE]at h
 | .lst _::_,_,h=>by simp [cE]at h
 | .dI _::_,_,h=>by simp [cE]at h
end
noncomputable def bm(K:PySem.W.Frag)(H:Hp)(O:List Addr)(v:PV)(u:V):Prop :=
 Rep K (ai H O) v u\/(∃xs a us,v=.lst xs/\u=.ref a/\SqL K H a us/\Reps K (ai H O) xs us)\/∃kvs a,v=.dI kvs/\u=.ref a/\Rd H a (fc kvs)
section
variable{K:PySem.W.Frag}{H H':Hp}{O:List Addr}
theorem bm.of{v:PV}{u:V}(h:Rep K (ai H O) v u):bm K H O v u:=.inl h
theorem bm.mono(s:ae H H'){v:PV}{u:V}(h:bm K H O v u):bm K H' O v u:=by
 rcases h with h|⟨xs,a,us,e1,e2,q,r⟩|⟨kvs,a,e1,e2,q⟩
 ·exact .inl (Rep.mono (ay s) _ h)
 ·exact .inr (.inl ⟨xs,a,us,e1,e2,s.seq q,Reps.mono (ay s) _ r⟩)
 ·exact .inr (.inr ⟨kvs,a,e1,e2,ae.rd s q⟩)
theorem bm.lst{xs:List PV}{u:V}(h:bm K H O (.lst xs) u):∃a us,u=.ref a/\SqL K H a us/\Reps K (ai H O) xs us:=by
 rcases h with h|⟨ys,a,us,e1,e2,q,r⟩|⟨kvs,a,e1,e2,q⟩
 ·rw [Rep]at h
  obtain⟨a,us,e,q,r⟩:=h
  exact⟨a,us,e,(bw H O).seq q,r⟩
 ·cases e1
  exact⟨a,us,e2,q,r⟩
 ·cases e1
theorem bm.tupH{xs:List PV}{u:V}(h:bm K H O (.tup xs) u):∃a us,u=.ref a/\H a=some (.tup us)/\Reps K (ai H O) xs us:=by
 rcases h with h|⟨ys,a,us,e1,e2,q,r⟩|⟨kvs,a,e1,e2,q⟩
 ·rw [Rep]at h
  obtain⟨a,us,e,q,r⟩:=h
  exact⟨a,us,e,bw H O a _ q,r⟩
 ·cases e1
 ·cases e1
theorem bm.tup{xs:List PV}{u:V}(h:bm K H O (.tup xs) u):∃a us,u=.ref a/\SqT K H a us/\Reps K (ai H O) xs us:=by
 obtain⟨a,us,e,q,r⟩:=h.tupH
 exact⟨a,us,e,SqT.of q,r⟩
theorem bm.tupR{xs:List PV}{u:V}(h:bm K H O (.tup xs) u):Rep K (ai H O) (.tup xs) u:=by
 rcases h with h|⟨ys,a,us,e1,e2,q,r⟩|⟨kvs,a,e1,e2,q⟩
 ·exact h
 ·cases e1
 ·cases e1
theorem bm.dI{kvs:DD}{u:V}(h:bm K H O (.dI kvs) u):∃a,u=.ref a/\Rd H a (fc kvs):=by
 rcases h with h|⟨ys,a,us,e1,e2,q,r⟩|⟨kvs,a,e1,e2,q⟩
 ·rw [Rep]at h
  obtain⟨a,e,q⟩:=h
  exact⟨a,e,ae.rd (bw H O) q⟩
 ·cases e1
 ·cases e1
  exact⟨a,e2,q⟩
theorem bm.int{i:Int}{u:V}(h:bm K H O (.int i) u):u=.int i:=by
 rcases h with h|⟨ys,a,us,e1,e2,q,r⟩|⟨kvs,a,e1,e2,q⟩
 ·rw [Rep]at h;exact h
 ·cases e1
 ·cases e1
theorem bm.bl{i:Bool}{u:V}(h:bm K H O (.bl i) u):u=.bl i:=by
 rcases h with h|⟨ys,a,us,e1,e2,q,r⟩|⟨kvs,a,e1,e2,q⟩
 ·rw [Rep]at h;exact h
 ·cases e1
 ·cases e1
theorem bm.str{i:Str}{u:V}(h:bm K H O (.str i) u):u=.str i:=by
 rcases h with h|⟨ys,a,us,e1,e2,q,r⟩|⟨kvs,a,e1,e2,q⟩
 ·rw [Rep]at h;exact h
 ·cases e1
 ·cases e1
theorem bm.non{u:V}(h:bm K H O .non u):u=.non:=by
 rcases h with h|⟨ys,a,us,e1,e2,q,r⟩|⟨kvs,a,e1,e2,q⟩
 ·rw [Rep]at h;exact h
 ·cases e1
 ·cases e1
theorem bm.seq{v:PV}{xs:List PV}{u:V}(h:bm K H O v u)(e:a_ v=some xs):∃a us,u=.ref a/\(SqL K H a us\/SqT K H a us)/\Reps K (ai H O) xs us:=by
 cases v with
 |lst ys=>simp [a_]at e;subst e;obtain⟨a,us,e,q,r⟩:=h.lst;exact⟨a,us,e,.inl q,r⟩
 |tup ys=>simp [a_]at e;subst e;obtain⟨a,us,e,q,r⟩:=h.tup;exact⟨a,us,e,.inr q,r⟩
 | _=>simp [a_]at e
theorem bm.whole{v:PV}{u:V}(h:bm K H O v u):Rep K H v u:=by
 rcases h with h|⟨xs,a,us,rfl,e2,q,r⟩|⟨kvs,a,rfl,e2,q⟩
 ·exact Rep.mono (bw H O) _ h
 ·rw [Rep];exact⟨a,us,e2,q,Reps.mono (bw H O) _ r⟩
 ·rw [Rep];exact⟨a,e2,q⟩
end
inductive bL(K:PySem.W.Frag)(H:Hp)(O:List Addr)(B:Hp):List (List PV)->List Addr->Prop where
 | nil:bL K H O B [] []
 | cons {xs:List PV}{xss:List (List PV)}{b:Addr}{bs:List Addr}{us:List V} (h:H b=some (.lst us)) (r:Reps K (ai H O) xs us) (ho:b∈O) (hb:B b=none) (t:bL K H O B xss bs):bL K H O B (xs::xss) (b::bs)
noncomputable def eQ(K:PySem.W.Frag)(B:Hp)(O:List Addr)(H:Hp):MV->V->Prop
 | .val v,u=>Rep K (ai H O) v u
 | .own xs,u=>∃a us,u=.ref a/\H a=some (.lst us)/\Reps K (ai H O) xs us/\a∈O/\B a=none
 | .brw xs,u=>∃a us,u=.ref a/\SqL K B a us/\Reps K (ai H O) xs us
 | .ownD kvs,u=>∃a,u=.ref a/\H a=some (fc kvs)/\a∈O/\B a=none
 | .ownL xss,u=>∃a bs,u=.ref a/\H a=some (.lst (bs.map .ref))/\bL K H O B xss bs/\a∈O/\B a=none/\(a::bs).Nodup
 | .brwD kvs,u=>∃a,u=.ref a/\Rd B a (fc kvs)
noncomputable def db:MV->Bool
 | .own _=>true
 | .ownD _=>true
 | .ownL _=>true
 | _=>false
noncomputable def wN(H:Hp)(ρ:Rho)(σ:St):Prop:=∀(i:Nat) (xss:List (List PV)) (a:Addr) (us:List V),ρ[i]?=some (some (.ownL xss))->σ[i]?=some (some (.ref a))->H a=some (.lst us)->∀(j:Nat) (m:MV),j≠i->ρ[j]?=some (some m)->isL m=false/\∀c,db m=true->σ[j]?=some (some (.ref c))->V.ref c∉us
theorem ol{H:Hp}{ρ:Rho}{σ:St}(h:∀(i:Nat) (xss:List (List PV)),ρ[i]?≠some (some (.ownL xss))):wN H ρ σ:=λi xss _ _ e=>absurd e (h i xss)
theorem d7{H H':Hp}{ρ ρ':Rho}{σ σ':St}(h:wN H ρ σ)(hL:∀(i:Nat) (xss:List (List PV)),ρ'[i]?=some (some (.ownL xss))->ρ[i]?=some (some (.ownL xss))/\σ'[i]?=σ[i]?/\∀a us,σ[i]?=some (some (.ref a))->H' a=some (.lst us)->H a=some (.lst us))
  (hj:∀(j:Nat) (m:MV) (c:Addr),ρ'[j]?=some (some m)->isL m=false->db m=true->σ'[j]?=some (some (.ref c))->(∃m0,ρ[j]?=some (some m0)/\db m0=true/\σ[j]?=some (some (.ref c)))\/∀(i:Nat) (xss:List (List PV)) (a:Addr) (us:List V),ρ[i]?=some (some (.ownL xss))->σ[i]?=some (some (.ref a))->H a=some (.lst us)->V.ref c∉us):wN H' ρ' σ':=λi xss a us e1 e2 e3 j m hji e4=>by
 obtain⟨f1,f2,f3⟩:=hL i xss e1
 rw [f2]at e2
 have f4:=f3 a us e2 e3
 have hl:isL m=false:=by
  cases q:isL m with
  |false=>rfl
  |true =>
   cases m<;>try (cases q;done)
   have:=(h i xss a us f1 e2 f4 j _ hji (hL j _ e4).1).1
   cases this
 refine⟨hl,λc o e5=>?_⟩
 rcases hj j m c e4 hl o e5 with ⟨m0,g1,g2,g3⟩|g
 ·exact(h i xss a us f1 e2 f4 j m0 hji g1).2 c g2 g3
 ·exact g i xss a us f1 e2 f4
structure aC(K:PySem.W.Frag)(B:Hp)(O₀ O:List Addr)(H:Hp)(ρ:Rho)(σ:St):Prop where
 keep:ae B H
 here:∀a∈O,H a≠none
 sub:∀a∈O₀,a∈O
 old:∀a∈O₀,B a≠none
 len:ρ.length=σ.length
 slot:∀(i:Nat) (m:MV),ρ[i]?=some (some m)->∃u,σ[i]?=some (some u)/\eQ K B O H m u
 apart:∀(i j:Nat) (m m':MV) (a:Addr),i≠j->ρ[i]?=some (some m)->ρ[j]?=some (some m')->db m=true->db m'=true->σ[i]?=some (some (.ref a))->σ[j]?≠some (some (.ref a))
 inn:wN H ρ σ
section
variable{K:PySem.W.Frag}{B H H':Hp}{O₀ O:List Addr}{ρ:Rho}{σ:St}
theorem bL.mono(s:ae H H'){xss:List (List PV)}{bs:List Addr}(h:bL K H O B xss bs):bL K H' O B xss bs:=by
 induction h with
 |nil=>exact .nil
 |cons h r ho hb t ih=>exact .cons (s _ _ h) (Reps.mono (ay s) _ r) ho hb ih
theorem bL.at{xss:List (List PV)}{bs:List Addr}(h:bL K H O B xss bs):∀b∈bs,H b≠none/\b∈O/\B b=none:=by
 induction h with
 |nil=>intro b hb;cases hb
 |cons h r ho hb t ih =>
  intro c hc
  rcases List.mem_cons.mp hc with rfl|hc
  ·exact⟨by rw [h];simp,ho,hb⟩
  ·exact ih c hc
theorem bL.len{xss:List (List PV)}{bs:List Addr}(h:bL K H O B xss bs):xss.length=bs.length:=by
 induction h with
 |nil=>rfl
 |cons _ _ _ _ _ ih=>rw [List.length_cons,List.length_cons,ih]
theorem bL.get{xss:List (List PV)}{bs:List Addr}(h:bL K H O B xss bs):∀{q:Nat}{xs:List PV},xss[q]?=some xs->∃b us,bs[q]?=some b/\H b=some (.lst us)/\Reps K (ai H O) xs us/\b∈O/\B b=none:=by
 induction h with
 |nil=>intro q xs e;simp at e
 | cons h r ho hb t ih =>
  intro q xs e
  cases q with
  |zero=>simp at e;subst e;exact⟨_,_,rfl,h,r,ho,hb⟩
  |succ q =>
   obtain⟨b,us,e1,e2⟩:=ih (q:=q) (xs:=xs) (by simpa using e)
   exact⟨b,us,by simpa using e1,e2⟩
theorem dl{b:Addr}{bs:List Addr}:V.ref b∈bs.map V.ref ↔ b∈bs:=by
 rw [List.mem_map]
 exact⟨λ⟨c,h,e⟩=>by cases e;exact h,λh=>⟨b,h,rfl⟩⟩
theorem eQ.mono(s:ae H H'){m:MV}{u:V}(h:eQ K B O H m u):eQ K B O H' m u:=by
 cases m with
 |val v=>exact Rep.mono (ay s) _ h
 |own xs=>obtain⟨a,us,e,q,r,h1,h2⟩:=h;exact⟨a,us,e,s _ _ q,Reps.mono (ay s) _ r,h1,h2⟩
 |brw xs=>obtain⟨a,us,e,q,r⟩:=h;exact⟨a,us,e,q,Reps.mono (ay s) _ r⟩
 |ownD kvs=>obtain⟨a,e,q,h1,h2⟩:=h;exact⟨a,e,s _ _ q,h1,h2⟩
 |ownL xss=>obtain⟨a,bs,e,q,r,h1,h2,h3⟩:=h;exact⟨a,bs,e,s _ _ q,r.mono s,h1,h2,h3⟩
 |brwD kvs=>exact h
theorem aC.mono(s:ae H H')(h:aC K B O₀ O H ρ σ):aC K B O₀ O H' ρ σ where
 keep:=h.keep.trans s
 here:=λa ha e=>h.here a ha (s.free e)
 sub:=h.sub
 old:=h.old
 len:=h.len
 slot:=λi m e=>let ⟨u,e1,q⟩:=h.slot i m e;⟨u,e1,q.mono s⟩
 apart:=h.apart
 inn:=d7 h.inn (λi xss e=>⟨e,rfl,λa us e1 e2=>by
  obtain⟨u,e3,a',bs,rfl,q,_⟩:=h.slot i _ e
  rw [e1]at e3
  cases e3
  have:=s _ _ q
  rw [e2]at this
  rw [q,this]⟩) λj m c e _ o e1=>.inl ⟨m,e,o,e1⟩
theorem eQ.bor{m:MV}{u:V}{v:PV}(hB:ae B H)(h:eQ K B O H m u)(e:bn (some m)=some v):bm K H O v u:=by
 cases m with
 |val w=>simp [bn]at e;subst e;exact .inl h
 |own xs=>simp [bn]at e;subst e;obtain⟨a,us,e,q,r,_⟩:=h;exact .inr (.inl ⟨xs,a,us,rfl,e,SqL.of q,r⟩)
 |brw xs=>simp [bn]at e;subst e;obtain⟨a,us,e,q,r⟩:=h;exact .inr (.inl ⟨xs,a,us,rfl,e,hB.seq q,r⟩)
 |ownD kvs=>simp [bn]at e;subst e;obtain⟨a,e,q,_⟩:=h;exact .inr (.inr ⟨kvs,a,rfl,e,.inl q⟩)
 |ownL _=>simp [bn]at e
 |brwD kvs=>simp [bn]at e;subst e;obtain⟨a,e,q⟩:=h;exact .inr (.inr ⟨kvs,a,rfl,e,ae.rd hB q⟩)
end
theorem join_some{α:Type}{o:Option (Option α)}{x:α}(h:o.join=some x):o=some (some x):=by
 cases o with
 |none=>simp at h
 |some y=>cases y with
  |none=>simp at h
  |some z=>simp at h;rw [h]
end MM
namespace MM
open PySem PySem.Spec PyProof.Rows L2
structure Tab where
 fs:List Str
 gs:List (Str×PV)
 ds:List (List Sc)
noncomputable def za(sc:Scope)(x:Str):Bool:=sc.names.lookup x == some .local || sc.names.lookup x == some .cell || sc.names.lookup x == some .free
noncomputable def iw(sc:Scope)(x:Str):Bool:=sc.names.lookup x == some .local || sc.names.lookup x == some .cell
noncomputable def glB(sc:Scope)(x:Str):Bool:=sc.names.lookup x == some .globalImplicit
noncomputable def az (x:Str):Bool:=!(x == ("__debug__":Str))&&!(x == ("__classdict__":Str))&&!(x == ("__name__":Str))
noncomputable def ax(N:List Str)(sc:Scope)(i:Nat)(x:Str):Bool:=N[i]? == some x&&za sc x&&az x
noncomputable def aH:ME->Bool
 | .bor _=>true
 | _=>false
noncomputable def wO:Op2->Operator
 | .add=>.Add|.sub=>.Sub|.mul=>.Mult|.fdiv=>.FloorDiv|.mod=>.Mod|.pow=>.Pow|.shr=>.RShift
noncomputable def rO:Cp->CmpOp
 | .eq=>.Eq|.ne=>.NotEq|.lt=>.Lt|.le=>.LtE|.gt=>.Gt|.ge=>.GtE|.isN=>.Is|.notN=>.IsNot|.isIn=>.In|.notIn=>.NotIn
noncomputable def m_:PV->Const->Bool
 | .non,.none=>true
 | .bl a,.bool b=>a == b
 | .int a,.int b=>a == b
 | .str a,.str b=>a == b
 | _,_=>false
noncomputable def xT:PV->PV->Bool
 | .non,.non=>true
 | .bl a,.bl b=>a == b
 | .int a,.int b=>a == b
 | .str a,.str b=>a == b
 | _,_=>false
noncomputable def t_(gs:List (Str×PV))(x:Str)(v:PV):Bool:=gs.any λp=>p.1 == x&&xT p.2 v
noncomputable def ag:Expr->Bool
 | .Starred ..=>false
 | _=>true
noncomputable def fA:Expr->Bool
 | .Set ..=>false
 | _=>true
noncomputable def aG:Expr->Bool
 | .Slice ..=>false
 | _=>true
noncomputable def bV:Expr->Bool
 | .ListComp ..=>false
 | .SetComp ..=>false
 | .DictComp ..=>false
 | _=>true
noncomputable def i6:Expr->Bool
 | .UnaryOp .Not _ _=>false
 | .BoolOp ..=>false
 | .IfExp ..=>false
 | .Compare ..=>false
 | _=>true
noncomputable def l7:Blt->String
 | .len=>"len" | .tupleOf=>"tuple" | .listOf=>"list" | .sorted=>"sorted" | .any=>"any" | .all=>"all" | .sum=>"sum" | .max1=>"max" | .min1=>"min" | .max2=>"max" | .min2=>"min"
 | .intOf=>"int" | .boolOf=>"bool" | .isInt=>"isinstance" | .isBool=>"isinstance" | .isStr=>"isinstance" | .isList=>"isinstance" | .isTuple=>"isinstance" | .sortedKeys=>"sorted" | .valuesOf=>"list" | .sortedSet=>"sorted" | .lenSet=>"len" | .lenSetSub=>"len" | .tupleRev=>"tuple"
noncomputable def cF:Blt->Option String
 | .isInt=>some "int" | .isBool=>some "bool" | .isStr=>some "str" | .isList=>some "list" | .isTuple=>some "tuple"
 | _=>none
noncomputable def dU:Blt->Option Nat
 | .len|.tupleOf|.listOf|.sorted|.any|.all|.sum|.intOf|.boolOf|.max1|.sortedKeys=>some 1
 | .max2|.min2=>some 2
 | _=>none
noncomputable def eI(osc:Scope)(N:List Str)(scope:Scope)(x:Str)(fvs:List Str)(js:List Nat):Bool :=
 decide (∀y∈scope.names,y.2=.cell->y.1=x)&&decide (scope.names.lookup x=some .local/\(scope.names.filter λy=>y.2 == .cell)=[]\/scope.names.lookup x=some .cell/\(scope.names.filter λy=>y.2 == .cell)=[(x,.cell)])
 &&decide (∀y∈scope.names,y.2=.free->y.1≠x)&&scope.kind == .function&&decide (∀y∈scope.names,y.2=.local->scope.names.lookup y.1=some .local)
 &&decide ((x::fvs).Nodup)&&decide (∀y∈scope.names,y.2=.free->osc.names.lookup y.1=some .cell\/osc.names.lookup y.1=some .free)&&decide ((js.map λj=>N[j]?)=fvs.map some)
 &&decide (∀y∈fvs,scope.names.lookup y=some .free)
noncomputable def b9(N:List Str)(js:List Nat):List Str:=js.map λj=>(N[j]?).getD Str.empty
noncomputable def dN(sc:Scope)(tup:Bool)(f:List Expr->Bool):Sk->Expr->Bool
 | .seq,it=>fA it&&f [it]
 | .rng,.Call (.Name x _) args [] _=>x == ("range":Str)&&glB sc x&&f args&&(args.length == 1 || args.length == 2)
 | .rev,_=>false
 | .enm,.Call (.Name x _) [a] [] _=>tup&&x == ("enumerate":Str)&&glB sc x&&f [a]&&ag a
 | _,_=>false
noncomputable def kq(sc:Scope)(f:List Expr->Bool)(n:Nat)(c:String):List Expr->Bool
 | [x,.Name t _]=>t == (c:Str)&&glB sc t&&f [x]&&n == 1
 | _=>false
noncomputable def kr:Expr->Bool
 | .Name _ _=>true
 | .Call _ (_::_) _ _=>true
 | _=>false
noncomputable def cy(sc:Scope)(f:List Expr->Bool)(n:Nat)(b:Blt)(args:List Expr):Bool:=match b with
 | .sortedSet=>(match args with|[.Call (.Name g _) [x] [] _]=>g == ("set":Str)&&glB sc g&&f [x]&&n == 1|_=>false)
 | .lenSet=>(match args with|[.Call (.Name g _) [x] [] _]=>g == ("set":Str)&&glB sc g&&f [x]&&n == 1|_=>false)
 | .lenSetSub=>(match args with|[.BinOp (.Call (.Name g _) [x] [] _) .Sub (.Call (.Name g2 _) [y] [] _) _]=>g == ("set":Str)&&glB sc g&&g2 == ("set":Str)&&glB sc g2&&f [x,y]&&n == 2|_=>false)
 | .tupleRev=>false
 | .valuesOf=>(match args with|[.Call (.Attribute x m ap) [] [] cp]=>m == ("values":Str)&&kr x&&ap.endLine == cp.line&&f [x]&&n == 1|_=>false)
 | .sortedKeys=>false
 | .max2=>false
 | .min2=>false
 | .intOf=>false
 | .boolOf=>false
 | .isStr=>false
 | .isList=>false
 |b=>match cF b with
  |some c=>kq sc f n c args
  |none=>dU b == some n&&f args
noncomputable def eT:ME->Bool
 | .cst .non=>true
 | _=>false
noncomputable def gh(f:Expr->Bool)(non:Bool):Option Expr->Bool
 |none=>non
 |some l=>f l&&!non
noncomputable def ku(f:Expr->Bool)(m:ME):List Expr->Bool
 | []=>(match m with|.cst (.bl true)=>true|_=>false)
 | [c]=>f c
 | _=>false
noncomputable def qr(f:Expr->Bool)(op:BoolOp)(pos:Pos)(y:Expr):List Expr->Bool
 | []=>f y
 |z::r=>f (.BoolOp op (y::z::r) pos)
noncomputable def rP:Expr->Option (Str×Option Str×Option Expr)
 | .Call (.Name x _) [.Name y _] [] _=>some (x,some y,none)
 | .Call (.Name x _) [.Subscript (.Name y _) s _] [] _=>some (x,some y,some s)
 | _=>none
theorem qt{e:Expr}{q:Str×Option Str×Option Expr}(h:rP e=some q):(∃p yp pos y,e=.Call (.Name q.1 p) [.Name y yp] [] pos/\q.2.1=some y/\q.2.2=none)\/∃p yp sp pos y s,e=.Call (.Name q.1 p) [.Subscript (.Name y yp) s sp] [] pos/\q.2.1=some y/\q.2.2=some s:=by
 unfold rP at h
 split at h
 ·cases h;exact .inl ⟨_,_,_,_,rfl,rfl,rfl⟩
 ·cases h;exact .inr ⟨_,_,_,_,_,_,rfl,rfl,rfl⟩
 ·cases h
mutual
noncomputable def chk(T:Tab):ME->List Str->Scope->Expr->Bool
 | .var i,N,sc,e0=>(match e0 with|.Name x _=>ax N sc i x|_=>false)
 | .bor i,N,sc,e0=>(match e0 with|.Name x _=>ax N sc i x|_=>false)
 | .cst v,_,_,e0=>(match e0 with|.Constant c _ _=>m_ v c|_=>false)
 | .glob x v,_,sc,e0=>(match e0 with|.Name y _=>x == y&&glB sc x&&t_ T.gs x v&&az x|_=>false)
 | .bin op a b,N,sc,e0=>(match e0 with|.BinOp l o r _=>o == wO op&&chk T a N sc l&&chk T b N sc r|_=>false)
 | .neg _,_,_,_=>false
 | .not a,N,sc,e0=>(match e0 with|.UnaryOp .Not e _=>chk T a N sc e|_=>false)
 | .and a b,N,sc,e0=>(match e0 with|.BoolOp .And (x::y::r) pos=>chk T a N sc x&&qr (λe=>chk T b N sc e) .And pos y r|_=>false)
 | .or a b,N,sc,e0=>(match e0 with|.BoolOp .Or (x::y::r) pos=>chk T a N sc x&&qr (λe=>chk T b N sc e) .Or pos y r|_=>false)
 | .ite c a b,N,sc,e0=>(match e0 with|.IfExp t x y _=>chk T c N sc t&&chk T a N sc x&&chk T b N sc y&&!aH a&&!aH b|_=>false)
 | .cmp op a b,N,sc,e0=>(match e0 with|.Compare l [o] [r] _=>o == rO op&&chk T a N sc l&&chk T b N sc r&&!behindInMarks o r|_=>false)
 | .chain _ _ _ _ _,_,_,_=>false
 | .tup es,N,sc,e0=>(match e0 with|.Tuple xs _ _=>chks T es N sc xs&&es.all (λe=>!aH e)|_=>false)
 | .lst es,N,sc,e0=>(match e0 with|.List xs _=>chks T es N sc xs&&es.all (λe=>!aH e)|_=>false)
 | .idx a i,N,sc,e0=>(match e0 with|.Subscript v s _=>chk T a N sc v&&chk T i N sc s&&aG s|_=>false)
 | .slice a lo hi,N,sc,e0=>(match e0 with|.Subscript v (.Slice l u none _) _=>chk T a N sc v&&gh (λe=>chk T lo N sc e) (eT lo) l&&gh (λe=>chk T hi N sc e) (eT hi) u|_=>false)
 | .blt b es,N,sc,e0=>(match e0 with|.Call (.Name f _) args [] _=>f == (l7 b:Str)&&glB sc f&&cy sc (λxs=>chks T es N sc xs) es.length b args|_=>false)
 | .call f es,N,sc,e0=>(match e0 with|.Call (.Name x _) args [] _=>T.fs[f]? == some x&&glB sc x&&az x&&chks T es N sc args|_=>false)
 | .callD _ _ _,_,_,_=>false
 | .comp k src js cond elt,N,sc,e0=>(match e0 with|.ListComp e [⟨.Name x _,it,ifs,0⟩] scope _=>eI sc N scope x (b9 N js) js&&dN sc false (λxs=>chks T src N sc xs) k it&&ku (λc=>chk T cond (x::b9 N js) (gH scope sc) c) cond ifs&&chk T elt (x::b9 N js) (gH scope sc) e&&!aH elt|_=>false)
 | .dget a k d,N,sc,e0=>(match e0 with|.Call (.Attribute o m ap) [x,y] [] cp=>m == ("get":Str)&&kr o&&ap.endLine == cp.line&&chk T a N sc o&&chk T k N sc x&&chk T d N sc y&&ag x&&ag y|_=>false)
 | .dat a k,N,sc,e0=>(match e0 with|.Subscript v s _=>chk T a N sc v&&chk T k N sc s&&aG s|_=>false)
 | .dIn neg k a,N,sc,e0=>(match e0 with|.Compare l [o] [r] _=>o == (if neg=true then CmpOp.NotIn else CmpOp.In)&&chk T k N sc l&&chk T a N sc r&&!behindInMarks o r|_=>false)
 | .lenL i,N,sc,e0=>(match rP e0 with|some (x,some y,none)=>x == ("len":Str)&&glB sc x&&ax N sc i y|_=>false)
 | .lenI i k,N,sc,e0=>(match rP e0 with|some (x,some y,some s)=>x == ("len":Str)&&glB sc x&&ax N sc i y&&chk T k N sc s&&aG s|_=>false)
noncomputable def chks(T:Tab):List ME->List Str->Scope->List Expr->Bool
 | [],_,_,[]=>true
 |m::ms,N,sc,e::es=>chk T m N sc e&&ag e&&chks T ms N sc es
 | _,_,_,_=>false
end
theorem cc(T:Tab)(i:Nat)(N:List Str)(sc:Scope)(e0:Expr):chk T (.var i) N sc e0=(match e0 with|.Name x _=>ax N sc i x|_=>false):=rfl
theorem ce(T:Tab)(i:Nat)(N:List Str)(sc:Scope)(e0:Expr):chk T (.bor i) N sc e0=(match e0 with|.Name x _=>ax N sc i x|_=>false):=rfl
theorem cf(T:Tab)(v:PV)(N:List Str)(sc:Scope)(e0:Expr):chk T (.cst v) N sc e0=(match e0 with|.Constant c _ _=>m_ v c|_=>false):=rfl
theorem bx(T:Tab)(x:Str)(v:PV)(N:List Str)(sc:Scope)(e0:Expr):chk T (.glob x v) N sc e0=(match e0 with|.Name y _=>x == y&&glB sc x&&t_ T.gs x v&&az x|_=>false):=rfl
theorem cg(T:Tab)(op:Op2)(a b:ME)(N:List Str)(sc:Scope)(e0:Expr):chk T (.bin op a b) N sc e0=(match e0 with|.BinOp l o r _=>o == wO op&&chk T a N sc l&&chk T b N sc r|_=>false):=rfl
theorem ci(T:Tab)(a:ME)(N:List Str)(sc:Scope)(e0:Expr):chk T (.neg a) N sc e0=false:=rfl
theorem cj(T:Tab)(a:ME)(N:List Str)(sc:Scope)(e0:Expr):chk T (.not a) N sc e0=(match e0 with|.UnaryOp .Not e _=>chk T a N sc e|_=>false):=rfl
theorem cm(T:Tab)(a b:ME)(N:List Str)(sc:Scope)(e0:Expr):chk T (.and a b) N sc e0=(match e0 with|.BoolOp .And (x::y::r) pos=>chk T a N sc x&&qr (λe=>chk T b N sc e) .And pos y r|_=>false):=rfl
theorem dB(T:Tab)(a b:ME)(N:List Str)(sc:Scope)(e0:Expr):chk T (.or a b) N sc e0=(match e0 with|.BoolOp .Or (x::y::r) pos=>chk T a N sc x&&qr (λe=>chk T b N sc e) .Or pos y r|_=>false):=rfl
theorem cn(T:Tab)(c a b:ME)(N:List Str)(sc:Scope)(e0:Expr):chk T (.ite c a b) N sc e0=(match e0 with|.IfExp t x y _=>chk T c N sc t&&chk T a N sc x&&chk T b N sc y&&!aH a&&!aH b|_=>false):=rfl
theorem cq(T:Tab)(op:Cp)(a b:ME)(N:List Str)(sc:Scope)(e0:Expr):chk T (.cmp op a b) N sc e0=(match e0 with|.Compare l [o] [r] _=>o == rO op&&chk T a N sc l&&chk T b N sc r&&!behindInMarks o r|_=>false):=rfl
theorem ba(T:Tab)(op op':Cp)(a b c:ME)(N:List Str)(sc:Scope)(e0:Expr):chk T (.chain op op' a b c) N sc e0=false:=rfl
theorem cr(T:Tab)(es:List ME)(N:List Str)(sc:Scope)(e0:Expr):chk T (.tup es) N sc e0=(match e0 with|.Tuple xs _ _=>chks T es N sc xs&&es.all (λe=>!aH e)|_=>false):=rfl
theorem cu(T:Tab)(es:List ME)(N:List Str)(sc:Scope)(e0:Expr):chk T (.lst es) N sc e0=(match e0 with|.List xs _=>chks T es N sc xs&&es.all (λe=>!aH e)|_=>false):=rfl
theorem cv(T:Tab)(a i:ME)(N:List Str)(sc:Scope)(e0:Expr):chk T (.idx a i) N sc e0=(match e0 with|.Subscript v s _=>chk T a N sc v&&chk T i N sc s&&aG s|_=>false):=rfl
theorem bb(T:Tab)(a lo hi:ME)(N:List Str)(sc:Scope)(e0:Expr):chk T (.slice a lo hi) N sc e0=(match e0 with|.Subscript v (.Slice l u none _) _=>chk T a N sc v&&gh (λe=>chk T lo N sc e) (eT lo) l&&gh (λe=>chk T hi N sc e) (eT hi) u|_=>false):=rfl
theorem cw(T:Tab)(b:Blt)(es:List ME)(N:List Str)(sc:Scope)(e0:Expr):chk T (.blt b es) N sc e0=(match e0 with|.Call (.Name f _) args [] _=>f == (l7 b:Str)&&glB sc f&&cy sc (λxs=>chks T es N sc xs) es.length b args|_=>false):=rfl
theorem bz(T:Tab)(f:Nat)(es:List ME)(N:List Str)(sc:Scope)(e0:Expr):chk T (.call f es) N sc e0=(match e0 with|.Call (.Name x _) args [] _=>T.fs[f]? == some x&&glB sc x&&az x&&chks T es N sc args|_=>false):=rfl
theorem aM(T:Tab)(k:Sk)(src:List ME)(js:List Nat)(cond elt:ME)(N:List Str)(sc:Scope)(e0:Expr):chk T (.comp k src js cond elt) N sc e0=(match e0 with|.ListComp e [⟨.Name x _,it,ifs,0⟩] scope _=>eI sc N scope x (b9 N js) js&&dN sc false (λxs=>chks T src N sc xs) k it&&ku (λc=>chk T cond (x::b9 N js) (gH scope sc) c) cond ifs&&chk T elt (x::b9 N js) (gH scope sc) e&&!aH elt|_=>false):=rfl
theorem wP (T:Tab) (a k d:ME) (N:List Str) (sc:Scope) (e0:Expr):chk T (.dget a k d) N sc e0=(match e0 with|.Call (.Attribute o m ap) [x,y] [] cp=>m == ("get":Str)&&kr o&&ap.endLine == cp.line&&chk T a N sc o&&chk T k N sc x&&chk T d N sc y&&ag x&&ag y|_=>false):=rfl
theorem ua(T:Tab)(a k:ME)(N:List Str)(sc:Scope)(e0:Expr):chk T (.dat a k) N sc e0=(match e0 with|.Subscript v s _=>chk T a N sc v&&chk T k N sc s&&aG s|_=>false):=rfl
theorem zb(T:Tab)(neg:Bool)(k a:ME)(N:List Str)(sc:Scope)(e0:Expr):chk T (.dIn neg k a) N sc e0=(match e0 with|.Compare l [o] [r] _=>o == (if neg=true then CmpOp.NotIn else CmpOp.In)&&chk T k N sc l&&chk T a N sc r&&!behindInMarks o r|_=>false):=rfl
noncomputable def bE:ME->Bool
 | .lst _=>true
 | .comp ..=>true
 | .blt .listOf _=>true
 | .blt .sorted _=>true
 | .blt .sortedSet _=>true
 | .blt .sortedKeys _=>true
 | .blt .valuesOf _=>true
 | _=>false
noncomputable def qu(sc:Scope)(t:Str)(tpos:Pos):Expr->Bool
 | .ListComp _ _ s p=>sc.names.lookup t == some .local&&tpos.line == p.line&&!(s.names.any λ(n,k)=>n == t&&(k == .local || k == .cell))
 | _=>false
noncomputable def l8(sc:Scope)(t:Str)(tpos:Pos)(v:Expr)(e:ME):Bool:=qu sc t tpos v
noncomputable def dq(N:List Str)(sc:Scope):List Nat->List Expr->Bool
 | [],[]=>true
 |i::is,.Name x _::es=>N[i]? == some x&&iw sc x&&az x&&dq N sc is es
 | _,_=>false
theorem nc(N:List Str)(sc:Scope)(i:Nat)(is:List Nat)(x:Str)(p:Pos)(es:List Expr):dq N sc (i::is) (.Name x p::es)=(N[i]? == some x&&iw sc x&&az x&&dq N sc is es):=rfl
noncomputable def rQ:Stmt->Option (Str×Pos×Expr)
 | .Assign [.Name x px] v _=>some (x,px,v)
 | _=>none
theorem jF{s:Stmt}{q:Str×Pos×Expr}(h:rQ s=some q):∃pos,s=.Assign [.Name q.1 q.2.1] q.2.2 pos:=by
 unfold rQ at h
 split at h
 ·cases h;exact⟨_,rfl⟩
 ·cases h
noncomputable def rR:Stmt->Option (Str×Str×Pos×List Expr×Pos)
 | .Expr (.Call (.Attribute (.Name x _) m ap) args [] cp) _=>some (x,m,ap,args,cp)
 | _=>none
theorem jG{s:Stmt}{q:Str×Str×Pos×List Expr×Pos}(h:rR s=some q):∃p pos,s=.Expr (.Call (.Attribute (.Name q.1 p) q.2.1 q.2.2.1) q.2.2.2.1 [] q.2.2.2.2) pos:=by
 unfold rR at h
 split at h
 ·cases h;exact⟨_,_,rfl⟩
 ·cases h
noncomputable def wQ:Stmt->Option (Str×Expr×Expr)
 | .Assign [.Subscript (.Name x _) s _] v _=>some (x,s,v)
 | _=>none
theorem qv{s:Stmt}{q:Str×Expr×Expr}(h:wQ s=some q):∃p sp pos,s=.Assign [.Subscript (.Name q.1 p) q.2.1 sp] q.2.2 pos:=by
 unfold wQ at h
 split at h
 ·cases h;exact⟨_,_,_,rfl⟩
 ·cases h
noncomputable def ub:Stmt->Option Expr
 | .Return (some v) _=>some v
 | _=>none
theorem ng{s:Stmt}{v:Expr}(h:ub s=some v):∃pos,s=.Return (some v) pos:=by
 unfold ub at h
 split at h
 ·cases h;exact⟨_,rfl⟩
 ·cases h
noncomputable def qw:Expr->Option Str
 | .Name x _=>some x
 | _=>none
theorem om{e:Expr}{x:Str}(h:qw e=some x):∃p,e=.Name x p:=by
 unfold qw at h
 split at h
 ·cases h;exact⟨_,rfl⟩
 ·cases h
noncomputable def zc:Expr->Option (Str×List Expr)
 | .Call (.Name y _) args [] _=>some (y,args)
 | _=>none
theorem wR{e:Expr}{q:Str×List Expr}(h:zc e=some q):∃p cp,e=.Call (.Name q.1 p) q.2 [] cp:=by
 unfold zc at h
 split at h
 ·cases h;exact⟨_,_,rfl⟩
 ·cases h
noncomputable def kw:List Expr->Option Expr
 | [a]=>some a
 | _=>none
theorem fg{l:List Expr}{a:Expr}(h:kw l=some a):l=[a]:=by
 match l,h with
 | [_],h=>cases h;rfl
noncomputable def uc:Expr->Bool
 | .Dict [] [] _=>true
 | _=>false
theorem ud{e:Expr}(h:uc e=true):∃p,e=.Dict [] [] p:=by
 unfold uc at h
 split at h
 ·exact⟨_,rfl⟩
 ·cases h
noncomputable def wS:Expr->Bool
 | .List [] _=>true
 | _=>false
noncomputable def ue:Expr->Option (List Expr)
 | .List es _=>some es
 | _=>none
theorem uf{e:Expr}{es:List Expr}(h:ue e=some es):∃p,e=.List es p:=by
 unfold ue at h
 split at h
 ·cases h;exact⟨_,rfl⟩
 ·cases h
noncomputable def wT:Stmt->Option (Str×Expr×Str×Pos×List Expr×Pos)
 | .Expr (.Call (.Attribute (.Subscript (.Name x _) s _) m ap) args [] cp) _=>some (x,s,m,ap,args,cp)
 | _=>none
theorem qx{s:Stmt}{q:Str×Expr×Str×Pos×List Expr×Pos}(h:wT s=some q):∃p sp pos,s=.Expr (.Call (.Attribute (.Subscript (.Name q.1 p) q.2.1 sp) q.2.2.1 q.2.2.2.1) q.2.2.2.2.1 [] q.2.2.2.2.2) pos:=by
 unfold wT at h
 split at h
 ·cases h;exact⟨_,_,_,rfl⟩
 ·cases h
noncomputable def onO{α:Type}(o:Option α)(f:α->Bool):Bool:=match o with
 |some a=>f a
 |none=>false
theorem bg{α:Type}{o:Option α}{f:α->Bool}(h:onO o f=true):∃a,o=some a/\f a=true:=by
 cases o with
 |none=>cases h
 |some a=>exact⟨a,rfl,h⟩
mutual
noncomputable def gi(T:Tab)(N:List Str)(sc:Scope):MS->Stmt->Bool
 | .set i e,s0=>onO (rQ s0) λq=>N[i]? == some q.1&&iw sc q.1&&az q.1&&chk T e N sc q.2.2&&!aH e&&(bV q.2.2 || l8 sc q.1 q.2.1 q.2.2 e)
 | .setOwn i e,s0=>onO (rQ s0) λq=>N[i]? == some q.1&&iw sc q.1&&az q.1&&chk T e N sc q.2.2&&bE e&&(bV q.2.2 || l8 sc q.1 q.2.1 q.2.2 e)
 | .append i e,s0=>onO (rR s0) λq=>onO (kw q.2.2.2.1) λv=>ax N sc i q.1&&q.2.1 == ("append":Str)&&chk T e N sc v&&!aH e&&ag v&&q.2.2.1.endLine == q.2.2.2.2.line
 | .extend i e,s0=>onO (rR s0) λq=>onO (kw q.2.2.2.1) λv=>ax N sc i q.1&&q.2.1 == ("extend":Str)&&chk T e N sc v&&ag v&&q.2.2.1.endLine == q.2.2.2.2.line
 | .setL i n,s0=>onO (rQ s0) λq=>onO (ue q.2.2) λes=>N[i]? == some q.1&&iw sc q.1&&az q.1&&es.all wS&&es.length == n
 | .appI i k e,s0=>onO (wT s0) λq=>onO (kw q.2.2.2.2.1) λv=>ax N sc i q.1&&q.2.2.1 == ("append":Str)&&chk T k N sc q.2.1&&aG q.2.1&&chk T e N sc v&&!aH e&&ag v&&q.2.2.2.1.endLine == q.2.2.2.2.2.line
 | .appF i f es,s0=>onO (rR s0) λq=>onO (kw q.2.2.2.1) λv=>onO (zc v) λc=>ax N sc i q.1&&q.2.1 == ("append":Str)&&T.fs[f]? == some c.1&&glB sc c.1&&az c.1&&chks T es N sc c.2&&q.2.2.1.endLine == q.2.2.2.2.line
 | .popI i k e,s0=>onO (wT s0) λq=>onO (kw q.2.2.2.2.1) λv=>ax N sc i q.1&&q.2.2.1 == ("pop":Str)&&chk T k N sc q.2.1&&aG q.2.1&&chk T e N sc v&&ag v&&q.2.2.2.1.endLine == q.2.2.2.2.2.line
 | .setI i k e,s0=>onO (wQ s0) λq=>ax N sc i q.1&&chk T k N sc q.2.1&&aG q.2.1&&chk T e N sc q.2.2&&bE e&&bV q.2.2
 | .retO i,s0=>onO (ub s0) λv=>onO (qw v) λx=>ax N sc i x
 | .setIdx _ _ _,_=>false
 | .unpack _ _,_=>false
 | .ite c a b,s0=>(match s0 with|.If t x y _=>chk T c N sc t&&chkSs T N sc a x&&chkSs T N sc b y|_=>false)
 | .for1 i k src body,s0=>(match s0 with|.For (.Name x _) it b [] _=>N[i]? == some x&&iw sc x&&az x&&dN sc false (λxs=>chks T src N sc xs) k it&&chkSs T N sc body b|_=>false)
 | .forT is k src body,s0=>(match s0 with|.For (.Tuple ts _ _) it b [] _=>dq N sc is ts&&dN sc true (λxs=>chks T src N sc xs) k it&&chkSs T N sc body b|_=>false)
 | .ret e,s0=>onO (ub s0) λv=>chk T e N sc v&&!aH e
 | .popAt i k,s0=>onO (rR s0) λq=>onO (kw q.2.2.2.1) λv=>ax N sc i q.1&&q.2.1 == ("pop":Str)&&chk T k N sc v&&ag v&&q.2.2.1.endLine == q.2.2.2.2.line
 | .retOwn i,s0=>onO (ub s0) λv=>onO (qw v) λx=>ax N sc i x
 | .never,_=>true
 | .newD _ i,s0=>onO (rQ s0) λq=>uc q.2.2&&(N[i]? == some q.1&&iw sc q.1&&az q.1)
 | .dput i k e,s0=>onO (wQ s0) λq=>ax N sc i q.1&&chk T k N sc q.2.1&&aG q.2.1&&chk T e N sc q.2.2&&!aH e&&bV q.2.2
 | _,_=>false
noncomputable def chkSs(T:Tab)(N:List Str)(sc:Scope):List MS->List Stmt->Bool
 | [],[]=>true
 | .freeze _::_,_=>false
 | .freezeL _::ms,ss=>chkSs T N sc ms ss
 |m::ms,s::ss=>gi T N sc m s&&chkSs T N sc ms ss
 | _,_=>false
end
theorem wU(T:Tab)(N:List Str)(sc:Scope)(i:Nat)(k:Sk)(src:List ME)(body:List MS)(s0:Stmt):gi T N sc (.for1 i k src body) s0=(match s0 with|.For (.Name x _) it b [] _=>N[i]? == some x&&iw sc x&&az x&&dN sc false (λxs=>chks T src N sc xs) k it&&chkSs T N sc body b|_=>false):=rfl
theorem wV(T:Tab)(N:List Str)(sc:Scope)(is:List Nat)(k:Sk)(src:List ME)(body:List MS)(s0:Stmt):gi T N sc (.forT is k src body) s0=(match s0 with|.For (.Tuple ts _ _) it b [] _=>dq N sc is ts&&dN sc true (λxs=>chks T src N sc xs) k it&&chkSs T N sc body b|_=>false):=rfl
end MM
namespace MM
open PySem PySem.Spec PyProof.Rows L2
theorem kz{f:PV->PV->Option Bool}(hf:∀x b,f x x=some b->b=true):∀(xs:List PV) {b:Bool},eqL f xs xs=some b->b=true
 | [],b,h=>by simp [eqL]at h;exact h
 |x::xs,b,h=>by
  simp only [eqL,Option.bind_eq_some_iff,Option.map_eq_some_iff]at h
  obtain⟨p,h1,q,h2,rfl⟩:=h
  rw [hf x p h1,kz hf xs h2];rfl
theorem ix:∀(n:Nat) (x:PV) {b:Bool},eqF n x x=some b->b=true
 |n,.non,b,h=>by simp [eqF]at h;exact h
 |n,.bl _,b,h=>by simp [eqF]at h;exact h
 |n,.int _,b,h=>by simp [eqF]at h;exact h
 |n,.str _,b,h=>by simp [eqF]at h;exact h
 |0,.tup _,b,h=>by simp [eqF]at h
 |0,.lst _,b,h=>by simp [eqF]at h
 |n+1,.tup xs,b,h=>by rw [eqF]at h;exact kz (λx b=>ix n x) xs h
 |n+1,.lst xs,b,h=>by rw [eqF,if_pos rfl]at h;exact kz (λx b=>ix n x) xs h
 |n,.dI _,b,h=>by cases n<;>simp [eqF]at h
theorem eU{n:Nat}{x y:PV}{b:Bool}(h:eqF n x y=some b):isD x=false/\isD y=false:=by
 cases x<;>cases y<;>first|exact⟨rfl,rfl⟩|(cases n<;>simp [eqF]at h)
theorem iy{f:PV->PV->Option Bool}:∀(xs ys:List PV) {b:Bool},eqL f xs ys=some b ->
  (∀(j:Nat) x y,xs[j]?=some x->ys[j]?=some y->∃c,f x y=some c) /\
   b=((List.range (min xs.length ys.length)).all (λj=>(f (xs.getD j .non) (ys.getD j .non)).getD false)&&xs.length == ys.length)
 | [],[],b,h=>by simp [eqL]at h;subst h;simp
 | [],y::ys,b,h=>by simp [eqL]at h;subst h;simp
 |x::xs,[],b,h=>by simp [eqL]at h;subst h;simp
 | x::xs,y::ys,b,h=>by
  simp only [eqL,Option.bind_eq_some_iff,Option.map_eq_some_iff]at h
  obtain⟨p,h1,q,h2,rfl⟩:=h
  obtain⟨ih1,ih2⟩:=iy xs ys h2
  refine⟨λj x' y' e1 e2=>?_,?_⟩
  ·cases j with
   |zero=>simp at e1 e2;subst e1 e2;exact⟨p,h1⟩
   |succ j=>exact ih1 j x' y' (by simpa using e1) (by simpa using e2)
  ·rw [ih2]
   have hm:min (x::xs).length (y::ys).length=min xs.length ys.length+1:=by simp only [List.length_cons];omega
   rw [hm,List.range_succ_eq_map,List.all_cons,List.all_map]
   have hl:((x::xs).length == (y::ys).length)=(xs.length == ys.length):=by
    rw [Bool.eq_iff_iff];simp
   rw [hl,Bool.and_assoc]
   simp only [List.getD_cons_zero,h1,Option.getD_some,Function.comp_def,List.getD_cons_succ]
theorem qy{f:PV->Option Bool}:∀(xs:List PV) {b:Bool},inL f xs=some b->(∀x∈xs,∃c,f x=some c)/\b=xs.any λx=>(f x).getD false
 | [],b,h=>by simp [inL]at h;subst h;simp
 | x::xs,b,h=>by
  simp only [inL,Option.bind_eq_some_iff,Option.map_eq_some_iff]at h
  obtain⟨p,h1,q,h2,rfl⟩:=h
  obtain⟨ih1,ih2⟩:=qy xs h2
  refine⟨λy hy=>?_,?_⟩
  ·rcases List.mem_cons.mp hy with rfl|hy
   ·exact⟨p,h1⟩
   ·exact ih1 y hy
  ·rw [List.any_cons,h1,ih2];rfl
section
variable{X:Cx}{pins:List (Addr×Obj)}{σ:St}{H:Hp}{s:Shared}
theorem oq(I:Inv X pins σ H s){a:Addr}{xs ys:List V}(h1:SqL X.K H a xs)(h2:SqT X.K H a ys):False:=by
 obtain⟨its,_,p,_⟩:=I.list h1
 obtain⟨its2,_,q,_⟩:=I.tuple h2
 exact SeqAt.ne_of_list_tuple p.isList (show s.heap.IsTuple a its2.toArray from q) rfl
theorem nh{H:Hp}{a:Addr}{d:DD}(h:Rd H a (fc d)):IsD H a:=by
 cases d with
 |k kvs=>exact .inl ⟨_,h⟩
 |t kvs=>exact .inr ⟨_,h⟩
theorem jH(I:Inv X pins σ H s){a:Addr}{xs:List V}{d:DD}(h1:SqL X.K H a xs\/SqT X.K H a xs)(h2:Rd H a (fc d)):False:=by
 obtain⟨o,ho,hc⟩:=(po I (nh h2)).1
 rcases h1 with h1|h1
 ·obtain⟨its,_,p,_⟩:=I.list h1
  obtain⟨o',ho',hc',_⟩:=p.isList
  rw [ho]at ho'
  cases ho'
  rw [hc]at hc'
  exact absurd hc' (by decide)
 ·obtain⟨its,_,⟨o',ho',hc',_⟩,_⟩:=I.tuple h1
  rw [ho]at ho'
  cases ho'
  rw [hc]at hc'
  exact absurd hc' (by decide)
theorem Sc.v_inj:∀{a b:Sc},a.v=b.v->a=b:=by
 intro a b h
 cases a<;>cases b<;>simp [Sc.v]at h ⊢<;>exact h
theorem ou:∀{a b:List (Int×Sc)},fU a=fU b->a=b
 | [],[],_=>rfl
 | [],_::_,h=>by cases h
 | _::_,[],h=>by cases h
 | (k,v)::a,(k',v')::b,h=>by
  simp only [fU,List.map_cons,List.cons.injEq,Prod.mk.injEq,Sum.inl.injEq]at h
  obtain⟨⟨h1,h2⟩,h3⟩:=h
  rw [h1,Sc.v_inj h2,ou h3]
theorem jI:∀{a b:List Int},(a.map Sum.inl:List Key)=b.map Sum.inl->a=b
 | [],[],_=>rfl
 | [],_::_,h=>by cases h
 | _::_,[],h=>by cases h
 |x::a,y::b,h=>by
  simp only [List.map_cons,List.cons.injEq,Sum.inl.injEq]at h
  rw [h.1,jI h.2]
theorem oA:∀{a b:List (List Int×Sc)},g5 a=g5 b->a=b
 | [],[],_=>rfl
 | [],_::_,h=>by cases h
 | _::_,[],h=>by cases h
 | (k,v)::a,(k',v')::b,h=>by
  simp only [g5,List.map_cons,List.cons.injEq,Prod.mk.injEq]at h
  obtain⟨⟨h1,h2⟩,h3⟩:=h
  rw [jI h1,Sc.v_inj h2,oA h3]
theorem oB{a b:DD}(h:fc a=fc b):a=b:=by
 cases a<;>cases b
 ·rw [ou (HO.dK.inj h)]
 ·cases h
 ·cases h
 ·rw [oA (HO.dT.inj h)]
theorem zd{H:Hp}{a:Addr}{x y:DD}(h:Rd H a (fc x))(g:Rd H a (fc y)):x=y:=by
 have ne:∀(x:DD) (o:Obj) (u:HO),fc x≠.frz o u:=λx o u e=>by cases x<;>cases e
 rcases h with h|⟨o,h⟩<;>rcases g with g|⟨o',g⟩
 ·rw [h]at g;exact oB (Option.some.inj g)
 ·rw [h]at g;exact absurd (Option.some.inj g) (ne x _ _)
 ·rw [g]at h;exact absurd (Option.some.inj h) (ne y _ _)
 ·rw [h]at g;exact oB (HO.frz.inj (Option.some.inj g)).2
mutual
theorem jJ(I:Inv X pins σ H s):∀(x y:PV) {u:V},Rep X.K H x u->Rep X.K H y u->x=y
 | .non,y,u,h,g=>by rw [Rep]at h;subst h;cases y<;>simp [Rep]at g ⊢
 | .bl b,y,u,h,g=>by rw [Rep]at h;subst h;cases y<;>simp [Rep]at g ⊢;exact g
 | .int b,y,u,h,g=>by rw [Rep]at h;subst h;cases y<;>simp [Rep]at g ⊢;exact g
 | .str b,y,u,h,g=>by rw [Rep]at h;subst h;cases y<;>simp [Rep]at g ⊢;exact g
 | .tup xs,y,u,h,g=>by
  rw [Rep]at h
  obtain⟨a,us,rfl,q,r⟩:=h
  cases y with
  |tup ys =>
   rw [Rep]at g
   obtain⟨b,vs,e,q',r'⟩:=g
   cases e
   have:=I.tuple_inj (SqT.of q) (SqT.of q')
   subst this
   rw [reps_inj I xs ys r r']
  |lst ys =>
   rw [Rep]at g
   obtain⟨b,vs,e,q',r'⟩:=g
   cases e
   exact(oq I q' (SqT.of q)).elim
  |dI kvs =>
   rw [Rep]at g
   obtain⟨b,e,q'⟩:=g
   cases e
   exact(jH I (.inr (SqT.of q)) q').elim
  | _=>simp [Rep]at g
 | .lst xs,y,u,h,g=>by
  rw [Rep]at h
  obtain⟨a,us,rfl,q,r⟩:=h
  cases y with
  |lst ys =>
   rw [Rep]at g
   obtain⟨b,vs,e,q',r'⟩:=g
   cases e
   have:=I.list_inj q q'
   subst this
   rw [reps_inj I xs ys r r']
  |tup ys =>
   rw [Rep]at g
   obtain⟨b,vs,e,q',r'⟩:=g
   cases e
   exact(oq I q (SqT.of q')).elim
  |dI kvs =>
   rw [Rep]at g
   obtain⟨b,e,q'⟩:=g
   cases e
   exact(jH I (.inl q) q').elim
  | _=>simp [Rep]at g
 | .dI kvs,y,u,h,g=>by
  rw [Rep]at h
  obtain⟨a,rfl,q⟩:=h
  cases y with
  |dI ks =>
   rw [Rep]at g
   obtain⟨b,e,q'⟩:=g
   cases e
   rw [zd q q']
  |tup ys =>
   rw [Rep]at g
   obtain⟨b,vs,e,q',r'⟩:=g
   cases e
   exact(jH I (.inr (SqT.of q')) q).elim
  |lst ys =>
   rw [Rep]at g
   obtain⟨b,vs,e,q',r'⟩:=g
   cases e
   exact(jH I (.inl q') q).elim
  | _=>simp [Rep]at g
theorem reps_inj(I:Inv X pins σ H s):∀(xs ys:List PV) {us:List V},Reps X.K H xs us->Reps X.K H ys us->xs=ys
 | [],ys,us,h,g=>by
  rw [Reps]at h;subst h
  cases ys with
  |nil=>rfl
  |cons y ys=>rw [Reps]at g;obtain⟨_,_,e,_⟩:=g;cases e
 | x::xs,ys,us,h,g=>by
  rw [Reps]at h
  obtain⟨u,r,rfl,q,t⟩:=h
  cases ys with
  |nil=>rw [Reps]at g;cases g
  |cons y ys =>
   rw [Reps]at g
   obtain⟨u',r',e,q',t'⟩:=g
   cases e
   rw [jJ I x y q q',reps_inj I xs ys t t']
end
theorem Rep.tupAt(I:Inv X pins σ H s){xs:List PV}{u:V}{v:Value}(h:Rep X.K H (.tup xs) u)(r:aq u v) :
  ∃(a:Addr) (us:List V) (its:List Value),u=.ref a/\v=.ref a/\Reps X.K H xs us/\aw us its/\s.heap.IsTuple a its.toArray/\xs.length=its.length:=by
 rw [Rep]at h
 obtain⟨a,us,rfl,q,t⟩:=h
 obtain⟨its,rv,p,_⟩:=I.tuple (SqT.of q)
 exact⟨a,us,its,rfl,r,t,rv,p,t.length.trans rv.length⟩
theorem Rep.lstAt(I:Inv X pins σ H s){xs:List PV}{u:V}{v:Value}(h:Rep X.K H (.lst xs) u)(r:aq u v) :
  ∃(a:Addr) (us:List V) (its:List Value),u=.ref a/\v=.ref a/\Reps X.K H xs us/\aw us its/\s.heap.IsList a its.toArray/\xs.length=its.length:=by
 rw [Rep]at h
 obtain⟨a,us,rfl,q,t⟩:=h
 obtain⟨its,rv,p,_⟩:=I.list q
 exact⟨a,us,its,rfl,r,t,rv,p.isList,t.length.trans rv.length⟩
theorem iz{A:Around}{n:Nat}(ih:∀(x y:PV) {ux uy:V}{vx vy:Value}{b:Bool}{A:Around},A.units+n<cLine->eqF n x y=some b->Rep X.K H x ux->Rep X.K H y uy->aq ux vx->aq uy vy->SeqAt.EqAt A s vx vy b)
  {xs ys:List PV}{us ws:List V}{its its2:List Value} (hu:A.units+(n+1)<cLine) (rx:Reps X.K H xs us) (ry:Reps X.K H ys ws) (vx:aw us its) (vy:aw ws its2)
  (hs:∀(j:Nat) x y,xs[j]?=some x->ys[j]?=some y->∃c,eqF n x y=some c) :
  ∀j (h1:j<its.toArray.size) (h2:j<its2.toArray.size),SeqAt.EqAt A.in1 s its.toArray[j] its2.toArray[j] ((eqF n (xs.getD j .non) (ys.getD j .non)).getD false):=λj h1 h2=>by
 have l1:=rx.length.trans vx.length
 have l2:=ry.length.trans vy.length
 simp only [List.size_toArray]at h1 h2
 have e1:xs[j]?=some xs[j]:=List.getElem?_eq_getElem (by omega)
 have e2:ys[j]?=some ys[j]:=List.getElem?_eq_getElem (by omega)
 obtain⟨ux,q1,p1⟩:=rx.get e1
 obtain⟨uy,q2,p2⟩:=ry.get e2
 obtain⟨wx,q3,p3⟩:=vx.get q1
 obtain⟨wy,q4,p4⟩:=vy.get q2
 obtain⟨c,hc⟩:=hs j _ _ e1 e2
 have d1:xs.getD j .non=xs[j]:=by simp [List.getD,e1]
 have d2:ys.getD j .non=ys[j]:=by simp [List.getD,e2]
 have g1:its.toArray[j]=wx:=by
  have:its[j]?=some its[j]:=List.getElem?_eq_getElem h1
  rw [this]at q3;simpa using q3
 have g2:its2.toArray[j]=wy:=by
  have:its2[j]?=some its2[j]:=List.getElem?_eq_getElem h2
  rw [this]at q4;simpa using q4
 rw [d1,d2,hc,g1,g2]
 exact ih _ _ (show A.units+1+n<cLine by omega) hc p1 p2 p3 p4
theorem wW{A:Around}{n:Nat}(I:Inv X pins σ H s)(ih:∀(x y:PV) {ux uy:V}{vx vy:Value}{b:Bool}{A:Around},A.units+n<cLine->eqF n x y=some b->Rep X.K H x ux->Rep X.K H y uy->aq ux vx->aq uy vy->SeqAt.EqAt A s vx vy b)
  (hu:A.units+(n+1)<cLine):(∀{xs ys:List PV}{ux uy:V}{vx vy:Value}{b:Bool},eqF (n+1) (.tup xs) (.tup ys)=some b->Rep X.K H (.tup xs) ux->Rep X.K H (.tup ys) uy->aq ux vx->aq uy vy->SeqAt.RcAt A s vx vy b) /\
   (∀{xs ys:List PV}{ux uy:V}{vx vy:Value}{b:Bool},eqF (n+1) (.lst xs) (.lst ys)=some b->Rep X.K H (.lst xs) ux->Rep X.K H (.lst ys) uy->aq ux vx->aq uy vy->SeqAt.RcAt A s vx vy b):=by
 refine⟨λ{xs ys ux uy vx vy b} h rx ry r1 r2=>?_,λ{xs ys ux uy vx vy b} h rx ry r1 r2=>?_⟩
 ·obtain⟨a,us,its,rfl,rfl,t1,w1,p1,l1⟩:=rx.tupAt I r1
  obtain⟨c,ws,its2,rfl,rfl,t2,w2,p2,l2⟩:=ry.tupAt I r2
  rw [eqF]at h
  obtain⟨hs,hb⟩:=iy xs ys h
  have q:=SeqAt.RcAt.tuples (A:=A) p1 p2 (by omega) (iz ih hu t1 t2 w1 w2 hs)
  rw [hb]
  simpa [l1,l2] using q
 ·obtain⟨a,us,its,rfl,rfl,t1,w1,p1,l1⟩:=rx.lstAt I r1
  obtain⟨c,ws,its2,rfl,rfl,t2,w2,p2,l2⟩:=ry.lstAt I r2
  rw [eqF]at h
  by_cases hl:xs.length=ys.length
  ·rw [if_pos hl]at h
   obtain⟨hs,hb⟩:=iy xs ys h
   have q:=SeqAt.RcAt.lists (A:=A) p1 p2 (by simp only [List.size_toArray];omega) (by omega) (iz ih hu t1 t2 w1 w2 hs)
   rw [hb,hl,Nat.min_self]
   simpa [<- l1,hl] using q
  ·rw [if_neg hl]at h
   cases h
   exact SeqAt.RcAt.lists_lengths (A:=A) p1 p2 (by simp only [List.size_toArray,bne_iff_ne];omega) (by omega)
theorem cG{x:PV}{u:V}(hd:isD x=false)(h:Rep X.K H x u):(∃xs,x=.tup xs)\/(∃xs,x=.lst xs)\/gK u=true:=by
 cases x with
 |tup xs=>exact .inl ⟨xs,rfl⟩
 |lst xs=>exact .inr (.inl ⟨xs,rfl⟩)
 |non=>rw [Rep]at h;subst h;exact .inr (.inr rfl)
 |bl b=>rw [Rep]at h;subst h;exact .inr (.inr rfl)
 |int b=>rw [Rep]at h;subst h;exact .inr (.inr rfl)
 |str b=>rw [Rep]at h;subst h;exact .inr (.inr rfl)
 |dI _=>cases hd
theorem fB{A:Around}(hu:A.units<cLine){u:V}{v:Value}(f:gK u=true)(r:aq u v){a:Addr}{its:Array Value}(p:s.heap.IsTuple a its) :
  SeqAt.EqAt A s v (.ref a) false/\SeqAt.EqAt A s (.ref a) v false/\SeqAt.RcAt A s v (.ref a) false/\SeqAt.RcAt A s (.ref a) v false:=by
 cases u with
 |non=>cases r;exact⟨.none_tuple p hu,.tuple_none p hu,.none_tuple p hu,.tuple_none p hu⟩
 |bl b=>cases r;exact⟨.bool_tuple b p hu,.tuple_bool b p hu,.bool_tuple b p hu,.tuple_bool b p hu⟩
 |int b=>obtain⟨t,rfl⟩:=r;exact⟨.int_tuple b t p hu,.tuple_int b t p hu,.int_tuple b t p hu,.tuple_int b t p hu⟩
 |str b=>obtain⟨t,rfl⟩:=r;exact⟨.str_tuple b t p hu,.tuple_str b t p hu,.str_tuple b t p hu,.tuple_str b t p hu⟩
 | _=>exact absurd (show false=true from f) Bool.false_ne_true
theorem gB{A:Around}(hu:A.units<cLine){u:V}{v:Value}(f:gK u=true)(r:aq u v){a:Addr}{its:Array Value}(p:s.heap.IsList a its) :
  SeqAt.EqAt A s v (.ref a) false/\SeqAt.EqAt A s (.ref a) v false/\SeqAt.RcAt A s v (.ref a) false/\SeqAt.RcAt A s (.ref a) v false:=by
 cases u with
 |non=>cases r;exact⟨.none_list p hu,.list_none p hu,.none_list p hu,.list_none p hu⟩
 |bl b=>cases r;exact⟨.bool_list b p hu,.list_bool b p hu,.bool_list b p hu,.list_bool b p hu⟩
 |int b=>obtain⟨t,rfl⟩:=r;exact⟨.int_list b t p hu,.list_int b t p hu,.int_list b t p hu,.list_int b t p hu⟩
 |str b=>obtain⟨t,rfl⟩:=r;exact⟨.str_list b t p hu,.list_str b t p hu,.str_list b t p hu,.list_str b t p hu⟩
 | _=>exact absurd (show false=true from f) Bool.false_ne_true
theorem ug{A:Around}{y x:V}{u v:Value}(ry:aq y u)(rx:aq x v)(fy:gK y=true)(fx:gK x=true):SeqAt.RcAt A s u v (eqV y x):=by
 cases y with
 |non =>
  cases ry
  cases x with
  |non=>cases rx;exact SeqAt.RcAt.none_none
  |bl b=>cases rx;exact SeqAt.RcAt.none_bool b
  |int b=>obtain⟨t,rfl⟩:=rx;exact SeqAt.RcAt.none_int b t
  |str b=>obtain⟨t,rfl⟩:=rx;exact SeqAt.RcAt.none_str b t
  | _=>exact absurd (show false=true from fx) Bool.false_ne_true
 |bl a =>
  cases ry
  cases x with
  |non=>cases rx;exact SeqAt.RcAt.bool_none a
  |bl b=>cases rx;exact SeqAt.RcAt.bool_bool a b
  |int b=>obtain⟨t,rfl⟩:=rx;exact SeqAt.RcAt.bool_int a b t
  |str b=>obtain⟨t,rfl⟩:=rx;exact SeqAt.RcAt.bool_str a b t
  | _=>exact absurd (show false=true from fx) Bool.false_ne_true
 |int a =>
  obtain⟨t',rfl⟩:=ry
  cases x with
  |non=>cases rx;exact SeqAt.RcAt.int_none a t'
  |bl b=>cases rx;exact SeqAt.RcAt.int_bool a t' b
  |int b=>obtain⟨t,rfl⟩:=rx;exact SeqAt.RcAt.int_int a t' b t
  |str b=>obtain⟨t,rfl⟩:=rx;exact SeqAt.RcAt.int_str a t' b t
  | _=>exact absurd (show false=true from fx) Bool.false_ne_true
 |str a =>
  obtain⟨t',rfl⟩:=ry
  cases x with
  |non=>cases rx;exact SeqAt.RcAt.str_none a t'
  |bl b=>cases rx;exact SeqAt.RcAt.str_bool a t' b
  |int b=>obtain⟨t,rfl⟩:=rx;exact SeqAt.RcAt.str_int a t' b t
  |str b=>obtain⟨t,rfl⟩:=rx;exact SeqAt.RcAt.str_str a t' b t
  | _=>exact absurd (show false=true from fx) Bool.false_ne_true
 | _=>exact absurd (show false=true from fy) Bool.false_ne_true
theorem kA{n:Nat}{x y:PV}{u v:V}{b:Bool}(rx:Rep X.K H x u)(ry:Rep X.K H y v)(fx:gK u=true)(fy:gK v=true)(h:eqF n x y=some b):b=eqV u v:=by
 cases x<;>cases y<;>simp only [Rep]at rx ry
 all_goals first
  | (obtain⟨_,_,rfl,_⟩:=rx;exact absurd (show false=true from fx) Bool.false_ne_true)
  | (obtain⟨_,_,rfl,_⟩:=ry;exact absurd (show false=true from fy) Bool.false_ne_true)
  | (obtain⟨_,rfl,_⟩:=rx;exact absurd (show false=true from fx) Bool.false_ne_true)
  | (obtain⟨_,rfl,_⟩:=ry;exact absurd (show false=true from fy) Bool.false_ne_true)
  | (subst rx ry;simp only [eqF,Option.some.injEq]at h;subst h;rfl)
theorem ni(I:Inv X pins σ H s):∀(n:Nat) (x y:PV) {ux uy:V}{vx vy:Value}{b:Bool}{A:Around},A.units+n<cLine->eqF n x y=some b->Rep X.K H x ux->Rep X.K H y uy->aq ux vx->aq uy vy ->
  SeqAt.EqAt A s vx vy b/\SeqAt.RcAt A s vx vy b:=by
 intro n
 induction n with
 | zero =>
  intro x y ux uy vx vy b A hu h rx ry r1 r2
  have hu0:A.units<cLine:=by omega
  rcases cG (eU h).1 rx with ⟨xs,rfl⟩|⟨xs,rfl⟩|fx
  ·obtain⟨a,us,its,rfl,rfl,t1,w1,p1,l1⟩:=rx.tupAt I r1
   rcases cG (eU h).2 ry with ⟨ys,rfl⟩|⟨ys,rfl⟩|fy
   ·simp [eqF]at h
   ·obtain⟨c,ws,its2,rfl,rfl,t2,w2,p2,l2⟩:=ry.lstAt I r2
    simp [eqF]at h;subst h
    exact⟨.tuple_list p1 p2 hu0,.tuple_list p1 p2 hu0⟩
   ·obtain⟨z1,z2,z3,z4⟩:=fB hu0 fy r2 p1
    have:b=false:=by cases y<;>simp [eqF,Rep]at h ry<;>first|exact h.symm|exact h|(obtain⟨_,rfl,_⟩:=ry;exact absurd (show false=true from fy) Bool.false_ne_true)
    subst this
    exact⟨z2,z4⟩
  ·obtain⟨a,us,its,rfl,rfl,t1,w1,p1,l1⟩:=rx.lstAt I r1
   rcases cG (eU h).2 ry with ⟨ys,rfl⟩|⟨ys,rfl⟩|fy
   ·obtain⟨c,ws,its2,rfl,rfl,t2,w2,p2,l2⟩:=ry.tupAt I r2
    simp [eqF]at h;subst h
    exact⟨.list_tuple p1 p2 hu0,.list_tuple p1 p2 hu0⟩
   ·simp [eqF]at h
   ·obtain⟨z1,z2,z3,z4⟩:=gB hu0 fy r2 p1
    have:b=false:=by cases y<;>simp [eqF,Rep]at h ry<;>first|exact h.symm|exact h|(obtain⟨_,rfl,_⟩:=ry;exact absurd (show false=true from fy) Bool.false_ne_true)
    subst this
    exact⟨z2,z4⟩
  ·rcases cG (eU h).2 ry with ⟨ys,rfl⟩|⟨ys,rfl⟩|fy
   ·obtain⟨c,ws,its2,rfl,rfl,t2,w2,p2,l2⟩:=ry.tupAt I r2
    obtain⟨z1,z2,z3,z4⟩:=fB hu0 fx r1 p2
    have:b=false:=by cases x<;>simp [eqF,Rep]at h rx<;>first|exact h.symm|exact h|(obtain⟨_,rfl,_⟩:=rx;exact absurd (show false=true from fx) Bool.false_ne_true)
    subst this
    exact⟨z1,z3⟩
   ·obtain⟨c,ws,its2,rfl,rfl,t2,w2,p2,l2⟩:=ry.lstAt I r2
    obtain⟨z1,z2,z3,z4⟩:=gB hu0 fx r1 p2
    have:b=false:=by cases x<;>simp [eqF,Rep]at h rx<;>first|exact h.symm|exact h|(obtain⟨_,rfl,_⟩:=rx;exact absurd (show false=true from fx) Bool.false_ne_true)
    subst this
    exact⟨z1,z3⟩
   ·rw [kA rx ry fx fy h]
    exact⟨sT r1 r2 fx fy,ug r1 r2 fx fy⟩
 | succ n ih =>
  intro x y ux uy vx vy b A hu h rx ry r1 r2
  have hu0:A.units<cLine:=by omega
  obtain⟨kt,kl⟩:=wW I (λx y {_ _ _ _ _ _} a1 a2 a3 a4 a5 a6=>(ih x y a1 a2 a3 a4 a5 a6).1) hu
  rcases cG (eU h).1 rx with ⟨xs,rfl⟩|⟨xs,rfl⟩|fx
  ·obtain⟨a,us,its,e1,e1',t1,w1,p1,l1⟩:=rx.tupAt I r1
   rcases cG (eU h).2 ry with ⟨ys,rfl⟩|⟨ys,rfl⟩|fy
   ·have q:=kt h rx ry r1 r2
    obtain⟨c,ws,its2,e2,e2',t2,w2,p2,l2⟩:=ry.tupAt I r2
    subst e1 e1' e2 e2'
    refine⟨?_,q⟩
    by_cases hac:a=c
    ·subst hac
     have e:=jJ I _ _ rx ry
     rw [e]at h
     rw [ix _ _ h]
     exact .same _
    ·exact .of_refs hac q
   ·obtain⟨c,ws,its2,e2,e2',t2,w2,p2,l2⟩:=ry.lstAt I r2
    subst e1 e1' e2 e2'
    simp [eqF]at h;subst h
    exact⟨.tuple_list p1 p2 hu0,.tuple_list p1 p2 hu0⟩
   ·subst e1 e1'
    obtain⟨z1,z2,z3,z4⟩:=fB hu0 fy r2 p1
    have:b=false:=by cases y<;>simp [eqF,Rep]at h ry<;>first|exact h.symm|exact h|(obtain⟨_,rfl,_⟩:=ry;exact absurd (show false=true from fy) Bool.false_ne_true)
    subst this
    exact⟨z2,z4⟩
  ·obtain⟨a,us,its,e1,e1',t1,w1,p1,l1⟩:=rx.lstAt I r1
   rcases cG (eU h).2 ry with ⟨ys,rfl⟩|⟨ys,rfl⟩|fy
   ·obtain⟨c,ws,its2,e2,e2',t2,w2,p2,l2⟩:=ry.tupAt I r2
    subst e1 e1' e2 e2'
    simp [eqF]at h;subst h
    exact⟨.list_tuple p1 p2 hu0,.list_tuple p1 p2 hu0⟩
   ·have q:=kl h rx ry r1 r2
    obtain⟨c,ws,its2,e2,e2',t2,w2,p2,l2⟩:=ry.lstAt I r2
    subst e1 e1' e2 e2'
    refine⟨?_,q⟩
    by_cases hac:a=c
    ·subst hac
     have e:=jJ I _ _ rx ry
     rw [e]at h
     rw [ix _ _ h]
     exact .same _
    ·exact .of_refs hac q
   ·subst e1 e1'
    obtain⟨z1,z2,z3,z4⟩:=gB hu0 fy r2 p1
    have:b=false:=by cases y<;>simp [eqF,Rep]at h ry<;>first|exact h.symm|exact h|(obtain⟨_,rfl,_⟩:=ry;exact absurd (show false=true from fy) Bool.false_ne_true)
    subst this
    exact⟨z2,z4⟩
  ·rcases cG (eU h).2 ry with ⟨ys,rfl⟩|⟨ys,rfl⟩|fy
   ·obtain⟨c,ws,its2,rfl,rfl,t2,w2,p2,l2⟩:=ry.tupAt I r2
    obtain⟨z1,z2,z3,z4⟩:=fB hu0 fx r1 p2
    have:b=false:=by cases x<;>simp [eqF,Rep]at h rx<;>first|exact h.symm|exact h|(obtain⟨_,rfl,_⟩:=rx;exact absurd (show false=true from fx) Bool.false_ne_true)
    subst this
    exact⟨z1,z3⟩
   ·obtain⟨c,ws,its2,rfl,rfl,t2,w2,p2,l2⟩:=ry.lstAt I r2
    obtain⟨z1,z2,z3,z4⟩:=gB hu0 fx r1 p2
    have:b=false:=by cases x<;>simp [eqF,Rep]at h rx<;>first|exact h.symm|exact h|(obtain⟨_,rfl,_⟩:=rx;exact absurd (show false=true from fx) Bool.false_ne_true)
    subst this
    exact⟨z1,z3⟩
   ·rw [kA rx ry fx fy h]
    exact⟨sT r1 r2 fx fy,ug r1 r2 fx fy⟩
end
section
variable{X:Cx}
theorem ze(hu:X.A.units+101<cLine):OpR X (compareOp .Eq) (λux uy H Q=>∃x y b,Rep X.K H x ux/\Rep X.K H y uy/\eqF 100 x y=some b/\Q (.bl b) H):=by
 intro pins s σ H ux uy v u Q I rx ry h
 obtain⟨x,y,b,r1,r2,e,q⟩:=h
 exact(ni I 100 x y (by omega) e r1 r2 rx ry).2 _ _ _ _ ⟨.bl b,H,I,rfl,q⟩
theorem zf(hu:X.A.units+101<cLine):OpR X (compareOp .NotEq) (λux uy H Q=>∃x y b,Rep X.K H x ux/\Rep X.K H y uy/\pF x y=true/\eqF 100 x y=some b/\Q (.bl (!b)) H):=by
 intro pins s σ H ux uy v u Q I rx ry h
 obtain⟨x,y,b,r1,r2,ok,e,q⟩:=h
 rcases cG (eU e).1 r1 with ⟨xs,rfl⟩|⟨xs,rfl⟩|fx
 ·cases y with
  | tup ys =>
   obtain⟨a,us,its,rfl,rfl,t1,w1,p1,l1⟩:=r1.tupAt I rx
   obtain⟨c,ws,its2,rfl,rfl,t2,w2,p2,l2⟩:=r2.tupAt I ry
   rw [eqF]at e
   obtain⟨hs,hb⟩:=iy xs ys e
   obtain⟨⟨cls,dd,data,sl⟩,ho,hc,n,hd⟩:=id p1
   obtain⟨⟨cls2,dd2,data2,sl2⟩,ho2,hc2,n2,hd2⟩:=id p2
   simp only at hc hd hc2 hd2
   subst hc hd hc2 hd2
   refine richCompare_meets_room (op:=.NotEq) ⟨_,ho,rfl⟩ ⟨_,ho2,rfl⟩ PySem.F.slot_tuple_ne PySem.F.entry_tuple_ne (PySem.F.args_tuple_ne_2 _ _) (SeqAt.tuple_neAt a c its.toArray its2.toArray n n2 dd dd2 sl sl2 _)
    ⟨ho,ho2,iz (n:=99) (λx y {_ _ _ _ _ _} a1 a2 a3 a4 a5 a6=>(ni I 99 x y a1 a2 a3 a4 a5 a6).1) (by omega) t1 t2 w1 w2 hs,?_⟩ (by omega)
   refine⟨(λx=>nomatch x),⟨.bl (!b),H,I,?_,q⟩⟩
   rw [hb]
   simp [l1,l2,L2.aq]
  | _=>cases ok
 ·cases y with
  | lst ys =>
   obtain⟨a,us,its,rfl,rfl,t1,w1,p1,l1⟩:=r1.lstAt I rx
   obtain⟨c,ws,its2,rfl,rfl,t2,w2,p2,l2⟩:=r2.lstAt I ry
   rw [eqF]at e
   obtain⟨⟨cls,dd,data,sl⟩,ho,hc,n,hd⟩:=id p1
   obtain⟨⟨cls2,dd2,data2,sl2⟩,ho2,hc2,n2,hd2⟩:=id p2
   simp only at hc hd hc2 hd2
   subst hc hd hc2 hd2
   by_cases hl:xs.length=ys.length
   ·rw [if_pos hl]at e
    obtain⟨hs,hb⟩:=iy xs ys e
    refine richCompare_meets_room (op:=.NotEq) ⟨_,ho,rfl⟩ ⟨_,ho2,rfl⟩ PySem.F.slot_list_ne PySem.F.entry_list_ne (PySem.F.args_list_ne_2 _ _) (SeqAt.list_neAt a c its.toArray its2.toArray n n2 dd dd2 sl sl2 (by simp only [List.size_toArray];omega) _)
     ⟨ho,ho2,iz (n:=99) (λx y {_ _ _ _ _ _} a1 a2 a3 a4 a5 a6=>(ni I 99 x y a1 a2 a3 a4 a5 a6).1) (by omega) t1 t2 w1 w2 hs,?_⟩ (by omega)
    refine⟨(λx=>nomatch x),⟨.bl (!b),H,I,?_,q⟩⟩
    rw [hb,hl,Nat.min_self]
    simp [<- l1,hl,L2.aq]
   ·rw [if_neg hl]at e
    cases e
    refine richCompare_meets_room (op:=.NotEq) ⟨_,ho,rfl⟩ ⟨_,ho2,rfl⟩ PySem.F.slot_list_ne PySem.F.entry_list_ne (PySem.F.args_list_ne_2 _ _) (SeqAt.list_ne_lengthsAt a c its.toArray its2.toArray n n2 dd dd2 sl sl2 (by simp only [List.size_toArray,bne_iff_ne];omega)) ⟨ho,ho2,?_⟩ (by omega)
    exact⟨(λx=>nomatch x),⟨.bl true,H,I,rfl,q⟩⟩
  | _=>cases ok
 ·have fy:gK uy=true:=by
   rcases cG (eU e).2 r2 with ⟨ys,rfl⟩|⟨ys,rfl⟩|fy
   ·cases x<;>cases ok
    obtain⟨_,_,rfl,_⟩:∃a us,ux=V.ref a/\_:=by rw [Rep]at r1;exact r1
    exact absurd (show false=true from fx) Bool.false_ne_true
   ·cases x<;>cases ok
    obtain⟨_,_,rfl,_⟩:∃a us,ux=V.ref a/\_:=by rw [Rep]at r1;exact r1
    exact absurd (show false=true from fx) Bool.false_ne_true
   ·exact fy
  have hb:=kA r1 r2 fx fy e
  subst hb
  refine AY pins s σ H ux uy v u Q I rx ry ?_
  have key:scal ux uy=true/\decide (ux=uy)=eqV ux uy:=by
   cases x<;>cases y<;>simp only [Rep]at r1 r2<;>first
    | (obtain⟨_,_,rfl,_⟩:=r1;exact absurd (show false=true from fx) Bool.false_ne_true)
    | (obtain⟨_,_,rfl,_⟩:=r2;exact absurd (show false=true from fy) Bool.false_ne_true)
    | (obtain⟨_,rfl,_⟩:=r1;exact absurd (show false=true from fx) Bool.false_ne_true)
    | (obtain⟨_,rfl,_⟩:=r2;exact absurd (show false=true from fy) Bool.false_ne_true)
    | (subst r1 r2;first|(cases ok;done)|exact⟨rfl,by first|exact p0|exact sM|exact p5|exact decide_eq_true rfl|exact decide_eq_false (λz=>by cases z)⟩)
  exact⟨key.1,by rw [key.2];exact q⟩
theorem iA{pins:List (Addr×Obj)}{σ:St}{H:Hp}{s:Shared}(I:Inv X pins σ H s)(hu:X.A.units+101<cLine){x:PV}{ux:V}{vx:Value}(rx:Rep X.K H x ux)(r1:aq ux vx){xs:List PV}{us:List V}{its:List Value}(t:Reps X.K H xs us)(w:aw us its){b:Bool}(h:isIn x xs=some b) :
  ∃e:Value->Bool,(∀y,y∈its.toArray->SeqAt.EqAt X.A.in1 s y vx (e y))/\its.toArray.any e=b:=by
 obtain⟨h1,h2⟩:=qy xs h
 classical
 have uniq:∀(z:PV) (u:V) (y:Value),aq u y->Rep X.K H z u->∀p:(∃z u,aq u y/\Rep X.K H z u),p.choose=z:=λz u y r q p=>by
  obtain⟨u',r',q'⟩:=p.choose_spec
  have e:=r.inj r'
  subst e
  exact jJ I _ _ q' q
 refine⟨λy=>if p:∃z u,aq u y/\Rep X.K H z u then (eqF 100 p.choose x).getD false else false,?_,?_⟩
 ·intro y hy
  obtain⟨j,hj,e⟩:=List.getElem_of_mem (by simpa using hy:y∈its)
  have ej:its[j]?=some y:=by rw [List.getElem?_eq_getElem hj,e]
  have l1:=w.length
  obtain⟨uy,e1⟩:∃uy,us[j]?=some uy:=⟨_,List.getElem?_eq_getElem (by omega)⟩
  obtain⟨wy,e2,ry⟩:=w.get e1
  rw [ej]at e2
  cases e2
  obtain⟨z,e3,rz⟩:=t.get' e1
  obtain⟨c,hc⟩:=h1 z (List.mem_of_getElem? e3)
  have q:=(ni I 100 z x (A:=X.A.in1) (show X.A.units+1+100<cLine by omega) hc rz rx ry r1).1
  have p:∃z u,aq u y/\Rep X.K H z u:=⟨z,uy,ry,rz⟩
  have e4:=uniq z uy y ry rz p
  simp only [p,dite_true,e4,hc,Option.getD_some]
  exact q
 ·rw [h2]
  simp only [List.any_toArray]
  clear h h1 h2
  induction xs generalizing us its with
  |nil =>
   rw [Reps]at t
   subst t
   cases w
   rfl
  | cons z zs ih =>
   rw [Reps]at t
   obtain⟨u,r,rfl,q,t⟩:=t
   cases w with
   |cons rv w =>
    rename_i y ys
    have p:∃z u,aq u y/\Rep X.K H z u:=⟨z,u,rv,q⟩
    have e4:=uniq z u y rv q p
    rw [List.any_cons,List.any_cons,ih t w]
    simp only [p,dite_true,e4]
theorem zg(hu:X.A.units+101<cLine):OpR X (compareOp .In) (λux uy H Q=>∃x xs a us b,Rep X.K H x ux/\uy=.ref a/\(SqL X.K H a us\/SqT X.K H a us)/\Reps X.K H xs us/\isIn x xs=some b/\Q (.bl b) H):=by
 intro pins s σ H ux uy v u Q I rx ry h
 obtain⟨x,xs,a,us,b,r1,rfl,hq,r2,e,q⟩:=h
 cases ry
 rcases hq with hq|hq
 ·obtain⟨its,r,pl,hz⟩:=I.list hq
  obtain⟨f,h1,h2⟩:=iA I hu r1 rx r2 r e
  refine SeqAt.in_listAt f pl.isList h1 ?_
  rw [h2]
  exact⟨.bl b,H,I,rfl,q⟩
 ·obtain⟨its,r,pl,hz⟩:=I.tuple hq
  obtain⟨f,h1,h2⟩:=iA I hu r1 rx r2 r e
  refine SeqAt.in_tupleAt f pl h1 ?_
  rw [h2]
  exact⟨.bl b,H,I,rfl,q⟩
theorem rS(hu:X.A.units+101<cLine):OpR X (compareOp .NotIn) (λux uy H Q=>∃x xs a us b,Rep X.K H x ux/\uy=.ref a/\(SqL X.K H a us\/SqT X.K H a us)/\Reps X.K H xs us/\isIn x xs=some b/\Q (.bl (!b)) H):=by
 intro pins s σ H ux uy v u Q I rx ry h
 obtain⟨x,xs,a,us,b,r1,rfl,hq,r2,e,q⟩:=h
 cases ry
 rcases hq with hq|hq
 ·obtain⟨its,r,pl,hz⟩:=I.list hq
  obtain⟨f,h1,h2⟩:=iA I hu r1 rx r2 r e
  refine SeqAt.notIn_listAt f pl.isList h1 ?_
  rw [h2]
  exact⟨.bl (!b),H,I,rfl,q⟩
 ·obtain⟨its,r,pl,hz⟩:=I.tuple hq
  obtain⟨f,h1,h2⟩:=iA I hu r1 rx r2 r e
  refine SeqAt.notIn_tupleAt f pl h1 ?_
  rw [h2]
  exact⟨.bl (!b),H,I,rfl,q⟩
end
end MM
namespace L2
open PySem PySem.Spec PyProof.Rows
theorem PE.imp{X:Cx}{e:Expr}{t t':TE}(h:PE X e t)(i:∀σ H Q,t' σ H Q->t σ H Q):PE X e t':=λpins s σ H Q I q=>h pins s σ H Q I (i σ H Q q)
theorem PT.imp{X:Cx}{e:Expr}{t t':TT}(h:PT X e t)(i:∀σ H Q,t' σ H Q->t σ H Q):PT X e t':=λpins s σ H Q I q=>h pins s σ H Q I (i σ H Q q)
theorem PA.imp{X:Cx}{e:List Expr}{t t':TA}(h:PA X e t)(i:∀σ H Q,t' σ H Q->t σ H Q):PA X e t':=λpos pins s σ H Q I q=>h pos pins s σ H Q I (i σ H Q q)
theorem PS.imp{X:Cx}{e:Stmt}{t t':TS}(h:PS X e t)(i:∀D σ H,t' D σ H->t D σ H):PS X e t':=λpins s σ H D I q=>h pins s σ H D I (i D σ H q)
theorem PSs.imp{X:Cx}{e:List Stmt}{t t':TS}(h:PSs X e t)(i:∀D σ H,t' D σ H->t D σ H):PSs X e t':=λpins s σ H D I q=>h pins s σ H D I (i D σ H q)
theorem PI.imp{X:Cx}{tg e:Expr}{t t':TI}(h:PI X tg e t)(i:∀σ H R,t' σ H R->t σ H R):PI X tg e t':=λpins s σ H R I q=>h pins s σ H R I (i σ H R q)
end L2
namespace MM
open PySem PySem.Spec PyProof.Rows L2
noncomputable def jl(K:PySem.W.Frag)(O:List Addr)(H:Hp):MV->V->Prop
 | .val v,u=>Rep K (ai H O) v u
 | .brw xs,u=>∃a us,u=.ref a/\SqL K H a us/\Reps K (ai H O) xs us
 | .own _,_=>False
 | .ownD _,_=>False
 | .ownL _,_=>False
 | .brwD kvs,u=>∃a,u=.ref a/\Rd H a (fc kvs)
noncomputable def spM(K:PySem.W.Frag)(cal:Cal)(f:Nat):Sp:=λvs H Q _ =>
 ∃(O:List Addr) (args:List MV) (r:PV),(∀a∈O,H a≠none)/\Paired (jl K O H) args vs/\cal f args=some r/\∀u H',ae H H'->Rep K (ai H' O) r u->Q u H'
noncomputable def spF(K:PySem.W.Frag)(cal:Cal)(f:Nat):Sp:=λvs H Q _ =>
 ∃(O:List Addr) (args:List MV) (xs:List PV),(∀a∈O,H a≠none)/\Paired (jl K O H) args vs/\cal (f+1000) args=some (.lst xs)/\∀p us H',ae H H'->H p=none->H' p=some (.lst us)->Reps K (ai H' (p::O)) xs us->Q (.ref p) H'
noncomputable def iB:List String:=["len","tuple","list","sorted","any","all","sum","max","min","int","bool","str","isinstance","set","range","enumerate","reversed"]
noncomputable def toV:PV->V
 | .non=>.non
 | .bl b=>.bl b
 | .int i=>.int i
 | .str x=>.str x
 | _=>.non
structure Gf(X:Cx)(T:Tab)(k:Nat)(cal:Cal):Prop where
 calm:X.calm=true
 room:iS k X.A
 fns:∀(f:Nat) (x:Str),T.fs[f]?=some x->∃(fa:Addr) (fd:FuncData) (ps:List Str),X.mg x=some (.ref fa)/\PySem.W.keepIn X.K (.ref fa)=true/\dy X.K fd ps []/\iT X.prog X.w X.K X.mg X.base CX0 k fa fd ps (spM X.K cal f)/\∀l,T.ds[f]?=some l->∃vs,dy X.K fd ps vs/\aw (l.map Sc.v) vs
 blt:∀x∈iB,X.mg (x:Str)=none
 gs:∀p∈T.gs,∃u,X.mg p.1=some u/\aq (toV p.2) u
 fnsF:∀(f:Nat) (x:Str),T.fs[f]?=some x->∃(fa:Addr) (fd:FuncData) (ps:List Str),X.mg x=some (.ref fa)/\PySem.W.keepIn X.K (.ref fa)=true/\dy X.K fd ps []/\iT X.prog X.w X.K X.mg X.base CX0 k fa fd ps (spF X.K cal f)
theorem Gf.units{X:Cx}{T:Tab}{k:Nat}{cal:Cal}(g:Gf X T k cal):X.A.units+200<cLine:=by have:=g.room.un;omega
noncomputable def Got(K:PySem.W.Frag)(H:Hp)(O:List Addr)(me:ME)(v:PV)(u:V):Prop:=bm K H O v u/\(aH me=false->Rep K (ai H O) v u)
noncomputable def tE(K:PySem.W.Frag)(cal:Cal)(me:ME):TE:=λσ H Q=>∃B O₀ O ρ v,aC K B O₀ O H ρ σ/\ev cal me ρ=some v/\∀u H',ae H H'->Got K H' O me v u->Q u H'
noncomputable def tT(K:PySem.W.Frag)(cal:Cal)(me:ME):TT:=λσ H Q=>∃B O₀ O ρ b,aC K B O₀ O H ρ σ/\evB cal me ρ=some b/\∀H',ae H H'->Q b H'
noncomputable def CQ(K:PySem.W.Frag)(H:Hp)(O:List Addr)(ms:List ME)(vs:List PV)(us:List V):Prop:=Paired (bm K H O) vs us/\((ms.all λm=>!aH m)=true->Reps K (ai H O) vs us)
noncomputable def tEs(K:PySem.W.Frag)(cal:Cal)(ms:List ME):TA:=λσ H Q=>∃B O₀ O ρ vs,aC K B O₀ O H ρ σ/\evs cal ms ρ=some vs/\∀us H',ae H H'->CQ K H' O ms vs us->Q us H'
noncomputable def tAs(K:PySem.W.Frag)(cal:Cal)(ms:List ME):TA:=λσ H Q=>∃B O₀ O ρ vs,aC K B O₀ O H ρ σ/\evA cal ms ρ=some vs/\∀us H',ae H H'->Paired (jl K O H') vs us->Q us H'
section
variable{K:PySem.W.Frag}{H H':Hp}{O:List Addr}
theorem Got.of{me:ME}{v:PV}{u:V}(h:Rep K (ai H O) v u):Got K H O me v u:=⟨.inl h,λ_=>h⟩
theorem Got.scal{me:ME}{v:PV}{u:V}(h:∀F,Rep K F v u):Got K H O me v u:=.of (h _)
theorem Got.mono{me:ME}{v:PV}{u:V}(s:ae H H')(h:Got K H O me v u):Got K H' O me v u:=⟨h.1.mono s,λe=>Rep.mono (ay s) _ (h.2 e)⟩
theorem dC(F:Hp)(b:Bool):Rep K F (.bl b) (.bl b):=by rw [Rep]
theorem b_(F:Hp)(b:Int):Rep K F (.int b) (.int b):=by rw [Rep]
theorem nj(F:Hp)(b:Str):Rep K F (.str b) (.str b):=by rw [Rep]
theorem nk(F:Hp):Rep K F .non .non:=by rw [Rep]
theorem iC{H1:Hp}{p:Addr}{xs:List PV}{us:List V}(hO:∀a∈O,H1 a≠none)(hp:H1 p=none)(h:Reps K (ai H1 O) xs us):Rep K (ai (upd H1 p (.tup us)) O) (.tup xs) (.ref p):=by
 rw [Rep]
 refine⟨p,us,rfl,?_,Reps.mono (ay (am hp _)) _ h⟩
 rw [bK (λz=>hO p z hp)]
 exact au
theorem oC{H1:Hp}{p:Addr}{xs:List PV}{us:List V}(hO:∀a∈O,H1 a≠none)(hp:H1 p=none)(h:Reps K (ai H1 O) xs us):Rep K (ai (upd H1 p (.lst us)) O) (.lst xs) (.ref p):=by
 rw [Rep]
 refine⟨p,us,rfl,SqL.of ?_,Reps.mono (ay (am hp _)) _ h⟩
 rw [bK (λz=>hO p z hp)]
 exact au
theorem bM(s:ae H H')(h:∀a∈O,H a≠none):∀a∈O,H' a≠none:=λa ha e=>h a ha (s.free e)
theorem dW{n:Nat}(h:n<=10000):n<=sizeLine:=Nat.le_trans h (by decide)
end
section
variable{X:Cx}{T:Tab}{k:Nat}{cal:Cal}
theorem Bn{sc:Scope}{x:Str}(h:za sc x=true):Vis sc x:=by
 unfold za at h
 simp only [Bool.or_eq_true,beq_iff_eq]at h
 rcases h with (h|h)|h
 ·exact .inl h
 ·exact .inr (.inl h)
 ·exact .inr (.inr h)
theorem jm{sc:Scope}{x:Str}(h:iw sc x=true):Loc sc x:=by
 unfold iw at h
 simp only [Bool.or_eq_true,beq_iff_eq]at h
 exact h
theorem gC {x:Str} (h:az x=true):(x == ("__debug__":Str))=false/\(x == ("__classdict__":Str))=false/\x ≠ "__name__":=by
 unfold az at h
 simp only [Bool.and_eq_true,Bool.not_eq_true']at h
 obtain⟨⟨h1,h2⟩,h3⟩:=h
 exact⟨h1,h2,λe=>by rw [e]at h3;simp at h3⟩
theorem dD{x:Str}(h:glB X.env.scope x=true):Gl X x:=by
 unfold glB at h
 simp only [beq_iff_eq]at h
 exact h
theorem bp{i:Nat}{x:Str}{pos:Pos}(h:ax X.N X.env.scope i x=true):PE X (.Name x pos) (AG i):=by
 unfold ax at h
 simp only [Bool.and_eq_true,beq_iff_eq]at h
 obtain⟨⟨h1,h2⟩,h3⟩:=h
 obtain⟨p1,p2,_⟩:=gC h3
 exact ya h1 (Bn h2) p1 p2
theorem be{K:PySem.W.Frag}{B H:Hp}{O₀ O:List Addr}{ρ:Rho}{σ:St}(st:aC K B O₀ O H ρ σ){i:Nat}{m:MV}(e:(ρ[i]?).join=some m):∃u,σ[i]?=some (some u)/\eQ K B O H m u:=st.slot i m (join_some e)
theorem xU{i:Nat}{x:Str}{pos:Pos}(h:ax X.N X.env.scope i x=true):PE X (.Name x pos) (tE X.K cal (.var i)):=by
 refine(bp h).imp λσ H Q hq=>?_
 obtain⟨B,O₀,O,ρ,v,st,he,q⟩:=hq
 rw [ev]at he
 cases hj:(ρ[i]?).join with
 |none=>rw [hj]at he;cases he
 | some m =>
  rw [hj]at he
  cases m with
  |val w =>
   simp only [t7,Option.some.injEq]at he
   subst he
   obtain⟨u,e1,r⟩:=be st hj
   exact⟨u,e1,q u H (ae.refl H) (.of r)⟩
  |own _=>cases he
  |brw _=>cases he
  |ownD _=>cases he
  |ownL _=>cases he
  |brwD _=>cases he
theorem xV{i:Nat}{x:Str}{pos:Pos}(h:ax X.N X.env.scope i x=true):PE X (.Name x pos) (tE X.K cal (.bor i)):=by
 refine(bp h).imp λσ H Q hq=>?_
 obtain⟨B,O₀,O,ρ,v,st,he,q⟩:=hq
 rw [ev]at he
 cases hj:(ρ[i]?).join with
 |none=>rw [hj]at he;cases he
 |some m =>
  rw [hj]at he
  obtain⟨u,e1,r⟩:=be st hj
  exact⟨u,e1,q u H (ae.refl H) ⟨r.bor st.keep he,λz=>by cases z⟩⟩
theorem xW{v:PV}{c:Const}{j:Nat}{pos:Pos}(h:m_ v c=true):PE X (.Constant c j pos) (tE X.K cal (.cst v)):=by
 have key:∀(u:V),(∀F,Rep X.K F v u)->PE X (.Constant c j pos) (tC u)->PE X (.Constant c j pos) (tE X.K cal (.cst v)):=λu r p=>p.imp λσ H Q hq=>by
  obtain⟨B,O₀,O,ρ,w,st,he,q⟩:=hq
  rw [ev]at he
  cases he
  exact q u H (ae.refl H) (.scal r)
 cases v<;>cases c<;>simp only [m_,Bool.false_eq_true,beq_iff_eq]at h
 ·exact key .non (λF=>nk F) yc
 ·subst h;exact key _ (λF=>dC F _) AH
 ·subst h;exact key _ (λF=>b_ F _) yb
 ·subst h;exact key _ (λF=>nj F _) yd
theorem uh{x y:Str}{v:PV}{pos:Pos}(g:Gf X T k cal)(h:chk T (.glob x v) X.N X.env.scope (.Name y pos)=true):PE X (.Name y pos) (tE X.K cal (.glob x v)):=by
 simp only [cc,ce,cf,bx,cg,ci,cj,cm,dB,cn,cq,ba,cr,cu,cv,bb,cw,bz,aM,Bool.and_eq_true,beq_iff_eq]at h
 obtain⟨⟨⟨rfl,hg⟩,hs⟩,hp⟩:=h
 unfold t_ at hs
 obtain⟨p,hp1,hp2⟩:=List.any_eq_true.mp hs
 simp only [Bool.and_eq_true,beq_iff_eq]at hp2
 obtain⟨rfl,hv⟩:=hp2
 obtain⟨u,e1,r⟩:=g.gs p hp1
 have e:p.2=v/\∀F,Rep X.K F v (toV v):=by
  revert hv
  generalize p.2=z
  intro hv
  cases z<;>cases v<;>simp only [xT,Bool.false_eq_true,beq_iff_eq]at hv
  ·exact⟨rfl,λF=>nk F⟩
  ·subst hv;exact⟨rfl,λF=>dC F _⟩
  ·subst hv;exact⟨rfl,λF=>b_ F _⟩
  ·subst hv;exact⟨rfl,λF=>nj F _⟩
 rw [e.1]at r
 refine(v3 (dD hg) e1 r (gC hp).1).imp λσ H Q hq=>?_
 obtain⟨B,O₀,O,ρ,w,st,he,q⟩:=hq
 rw [ev]at he
 cases he
 exact q _ H (ae.refl H) (.scal e.2)
end
section
variable{X:Cx}
noncomputable def R2M(K:PySem.W.Frag)(f:PV->PV->Option PV):R2:=λux uy H Q =>
 ∃O x y v,(∀a∈O,H a≠none)/\bm K H O x ux/\bm K H O y uy/\f x y=some v/\∀u H',ae H H'->Rep K (ai H' O) v u->Q u H'
theorem i7{op:Operator}{C:Int->Int->Prop}{g:Int->Int->Int}{f:PV->PV->Option PV}(h:OpR X (binaryOp op) (rI C λi j=>.int (g i j)))
  (hf:∀x y v,f x y=some v->∃i j,x=.int i/\y=.int j/\C i j/\v=.int (g i j)):OpR X (binaryOp op) (R2M X.K f):=by
 intro pins s σ H ux uy v u Q I rx ry hq
 obtain⟨O,x,y,w,hO,r1,r2,e,q⟩:=hq
 obtain⟨i,j,rfl,rfl,c,rfl⟩:=hf x y w e
 have e1:=r1.int
 have e2:=r2.int
 subst e1 e2
 exact h pins s σ H _ _ v u Q I rx ry ⟨i,j,rfl,rfl,c,q _ H (ae.refl H) (b_ _ _)⟩
theorem wX:OpR X (binaryOp .Add) (λx y H Q=>∃l b xs zs,x=.ref l/\y=.ref b/\SqL X.K H l xs/\SqL X.K H b zs/\xs.length+zs.length<=sizeLine/\∀p,H p=none->Q (.ref p) (upd H p (.lst (xs++zs)))):=by
 intro pins s σ H x y v u Q I rx ry h
 obtain⟨l,b,xs,zs,rfl,rfl,hH,hB,hz,q⟩:=h
 cases rx
 cases ry
 obtain⟨its,r,pl,_⟩:=I.list hH
 obtain⟨its2,r2,pl2,_⟩:=I.list hB
 have l1:=r.length
 have l2:=r2.length
 obtain⟨⟨cls,dd,data,sl⟩,ho,hc,n,hd⟩:=pl.isList
 obtain⟨⟨cls2,dd2,data2,sl2⟩,ho2,hc2,n2,hd2⟩:=pl2.isList
 simp only at hc hd hc2 hd2
 subst hc hd hc2 hd2
 have e:its.toArray++its2.toArray=(its++its2).toArray:=by simp
 refine concat_meets ⟨_,ho,rfl⟩ ⟨_,ho2,rfl⟩ noFill_list_add seq_list_add PySem.F.slot_list_add PySem.F.entry_list_add (PySem.F.args_list_add_2 _ _) (list_addW l b its.toArray its2.toArray n n2 dd dd2 sl sl2 (by rw [List.size_toArray,List.size_toArray];omega)) ⟨ho,ho2,?_⟩
 rw [e]
 exact⟨.ref _,_,I.lnew (t':=s.toks) (r.append r2) (by rw [List.length_append];omega),rfl,q _ I.fresh⟩
theorem wY:OpR X (binaryOp .Add) (λx y H Q=>∃a b ys,x=.ref a/\y=.ref b/\SqT X.K H a []/\SqT X.K H b ys/\Q (.ref b) H):=by
 intro pins s σ H x y v u Q I rx ry h
 obtain⟨a,b,ys,rfl,rfl,ha,hb,q⟩:=h
 cases rx
 cases ry
 obtain⟨its,r1,⟨⟨c1,d1,t1,l1⟩,ho,hc,n,hd⟩,_⟩:=I.tuple ha
 obtain⟨its2,r2,⟨⟨c2,d2,t2,l2⟩,ho2,hc2,n2,hd2⟩,_⟩:=I.tuple hb
 cases hc
 cases hd
 cases hc2
 cases hd2
 have none0:its=[]:=r1.nil_iff.mpr rfl
 have meets:=tuple_addW0 a b its.toArray its2.toArray n n2 d1 d2 l1 l2 (by simp [none0])
 exact concat_meets ⟨_,ho,rfl⟩ ⟨_,ho2,rfl⟩ noFill_tuple_add seq_tuple_add PySem.F.slot_tuple_add PySem.F.entry_tuple_add (PySem.F.args_tuple_add_2 _ _) meets ⟨ho,ho2,.ref b,H,I,rfl,q⟩
theorem dX{α:Type}{f:Int->Int->Option α}{x y:PV}{v:α}(h:ir f x y=some v):∃i j,x=.int i/\y=.int j/\f i j=some v:=by
 cases x<;>try (cases h;done)
 cases y<;>try (cases h;done)
 exact⟨_,_,rfl,rfl,h⟩
theorem iD{C:Int->Int->Prop} [∀i j,Decidable (C i j)] {g:Int->Int->Int}{x y v:PV} (h:ir (λi j=>if C i j then some (.int (g i j)) else none) x y=some v):∃i j,x=.int i/\y=.int j/\C i j/\v=.int (g i j):=by
 obtain⟨i,j,e1,e2,e3⟩:=dX h
 by_cases c:C i j
 ·rw [if_pos c]at e3
  exact⟨i,j,e1,e2,c,(Option.some.inj e3).symm⟩
 ·rw [if_neg c]at e3
  cases e3
theorem zh(op:Op2):OpR X (binaryOp (wO op)) (R2M X.K (fZ op)):=by
 cases op with
 | sub=>exact i7 (C:=λ_ _=>True) (g:=λi j=>i - j) (λpins s σ H x y v u Q I rx ry h=>yu pins s σ H x y v u Q I rx ry (by obtain ⟨i,j,e1,e2,_,q⟩:=h;exact ⟨i,j,e1,e2,q⟩)) (λx y v h=>by
   obtain⟨i,j,e1,e2,e3⟩:=dX h
   exact⟨i,j,e1,e2,trivial,(Option.some.inj e3).symm⟩)
 |mul=>exact i7 yw λx y v h=>by have q:=iD h;exact q
 |fdiv=>exact i7 v9 λx y v h=>by have q:=iD h;exact q
 |mod=>exact i7 yx λx y v h=>by have q:=iD h;exact q
 |pow=>exact i7 yy λx y v h=>by have q:=iD h;exact q
 |shr=>exact i7 yz λx y v h=>by have q:=iD h;exact q
 | add =>
  intro pins s σ H ux uy v u Q I rx ry hq
  obtain⟨O,x,y,w,hO,r1,r2,e,q⟩:=hq
  cases x<;>try (cases e;done)
  all_goals (cases y<;>simp only [fZ,xR]at e<;>try (cases e;done))
  ·cases e
   have e1:=r1.int
   have e2:=r2.int
   subst e1 e2
   exact yt pins s σ H _ _ v u Q I rx ry ⟨_,_,rfl,rfl,q _ H (ae.refl H) (b_ _ _)⟩
  ·split at e
   ·rename_i c
    cases e
    have e1:=r1.str
    have e2:=r2.str
    subst e1 e2
    exact pf pins s σ H _ _ v u Q I rx ry ⟨_,_,rfl,rfl,Nat.le_trans c (by decide),q _ H (ae.refl H) (nj _ _)⟩
   ·cases e
  ·split at e
   ·rename_i c
    cases e
    obtain⟨a,us,rfl,s1,t1⟩:=r1.tup
    obtain⟨b,ws,rfl,s2,t2⟩:=r2.tup
    have l1:=t1.length
    have l2:=t2.length
    have w1:=r1.tupR
    have w2:=r2.tupR
    by_cases z0:us=[]
    ·subst z0
     have z1:=List.eq_nil_of_length_eq_zero l1
     subst z1
     exact wY pins s σ H _ _ v u Q I rx ry ⟨a,b,ws,rfl,rfl,s1,s2,q _ H (ae.refl H) w2⟩
    refine wl pins s σ H _ _ v u Q I rx ry ⟨a,b,us,ws,rfl,rfl,s1,s2,z0,dW (by omega),λz=>?_,λz p hp=>?_⟩
    ·rw [z,List.length_nil]at l2
     have z1:=List.eq_nil_of_length_eq_zero l2
     subst z1
     rw [List.append_nil]at q
     exact q _ H (ae.refl H) w1
    ·exact q _ _ (am hp _) (iC hO hp (t1.append t2))
   ·cases e
  ·split at e
   ·rename_i c
    cases e
    obtain⟨a,us,rfl,s1,t1⟩:=r1.lst
    obtain⟨b,ws,rfl,s2,t2⟩:=r2.lst
    have l1:=t1.length
    have l2:=t2.length
    exact wX pins s σ H _ _ v u Q I rx ry ⟨a,b,us,ws,rfl,rfl,s1,s2,dW (by omega),λp hp=>q _ _ (am hp _) (oC hO hp (t1.append t2))⟩
   ·cases e
noncomputable def R2C(K:PySem.W.Frag)(f:PV->PV->Option Bool):R2:=λux uy H Q =>
 ∃O x y b,bm K H O x ux/\bm K H O y uy/\f x y=some b/\Q (.bl b) H
theorem jK{op:CmpOp}{g:Int->Int->Bool}{f:PV->PV->Option Bool}(h:OpR X (compareOp op) (rI0 λi j=>.bl (g i j)))
  (hf:∀x y v,f x y=some v->∃i j,x=.int i/\y=.int j/\v=g i j):OpR X (compareOp op) (R2C X.K f):=by
 intro pins s σ H ux uy v u Q I rx ry hq
 obtain⟨O,x,y,w,r1,r2,e,q⟩:=hq
 obtain⟨i,j,rfl,rfl,rfl⟩:=hf x y w e
 have e1:=r1.int
 have e2:=r2.int
 subst e1 e2
 exact h pins s σ H _ _ v u Q I rx ry ⟨i,j,rfl,rfl,q⟩
theorem zi:OpR X (compareOp .Is) (λx y H Q=>∃p q,x=.bl p/\y=.bl q/\Q (.bl (p == q)) H):=by
 rintro pins s σ H x y v u Q I rx ry ⟨p,q,rfl,rfl,hq⟩
 cases rx
 cases ry
 exact wpAny_pure (bU I hq (by cases p<;>cases q<;>rfl))
theorem rT:OpR X (compareOp .IsNot) (λx y H Q=>∃p q,x=.bl p/\y=.bl q/\Q (.bl (!(p == q))) H):=by
 rintro pins s σ H x y v u Q I rx ry ⟨p,q,rfl,rfl,hq⟩
 cases rx
 cases ry
 exact wpAny_pure (bU I hq (by cases p<;>cases q<;>rfl))
theorem qz{K:PySem.W.Frag}{H:Hp}{O:List Addr}{x:PV}{u:V}(r:bm K H O x u):decide (u=.non)=l5 x:=by
 cases x with
 |non=>rw [r.non];rfl
 |bl b=>rw [r.bl];rfl
 |int b=>rw [r.int];rfl
 |str b=>rw [r.str];rfl
 |tup xs=>obtain⟨a,us,rfl,_⟩:=r.tup;rfl
 |lst xs=>obtain⟨a,us,rfl,_⟩:=r.lst;rfl
 |dI kvs=>obtain⟨a,rfl,_⟩:=r.dI;rfl
theorem ui(hu:X.A.units+200<cLine)(op:Cp):OpR X (compareOp (rO op)) (R2C X.K (cD op)):=by
 cases op with
 |lt=>exact jK AZ λx y v h=>by obtain⟨i,j,e1,e2,e3⟩:=dX h;exact⟨i,j,e1,e2,(Option.some.inj e3).symm⟩
 |le=>exact jK A0 λx y v h=>by obtain⟨i,j,e1,e2,e3⟩:=dX h;exact⟨i,j,e1,e2,(Option.some.inj e3).symm⟩
 |gt=>exact jK A1 λx y v h=>by obtain⟨i,j,e1,e2,e3⟩:=dX h;exact⟨i,j,e1,e2,(Option.some.inj e3).symm⟩
 |ge=>exact jK A2 λx y v h=>by obtain⟨i,j,e1,e2,e3⟩:=dX h;exact⟨i,j,e1,e2,(Option.some.inj e3).symm⟩
 |eq =>
  intro pins s σ H ux uy v u Q I rx ry hq
  obtain⟨O,x,y,w,r1,r2,e,q⟩:=hq
  exact ze (by omega) pins s σ H ux uy v u Q I rx ry ⟨x,y,w,r1.whole,r2.whole,e,q⟩
 | ne =>
  intro pins s σ H ux uy v u Q I rx ry hq
  obtain⟨O,x,y,w,r1,r2,e,q⟩:=hq
  simp only [cD]at e
  split at e
  ·rename_i c
   simp only [Option.map_eq_some_iff]at e
   obtain⟨b,e,rfl⟩:=e
   exact zf (by omega) pins s σ H ux uy v u Q I rx ry ⟨x,y,b,r1.whole,r2.whole,c,e,q⟩
  ·cases e
 | isN =>
  intro pins s σ H ux uy v u Q I rx ry hq
  obtain⟨O,x,y,w,r1,r2,e,q⟩:=hq
  cases y<;>try (cases e;done)
  ·have e2:=r2.non
   subst e2
   refine yA pins s σ H ux _ v u Q I rx ry ⟨rfl,?_⟩
   have e:some (l5 x)=some w:=e
   rw [qz r1,Option.some.inj e]
   exact q
  ·cases x<;>try (cases e;done)
   have e1:=r1.bl
   have e2:=r2.bl
   subst e1 e2
   exact zi pins s σ H _ _ v u Q I rx ry ⟨_,_,rfl,rfl,by rw [Option.some.inj e];exact q⟩
 | notN =>
  intro pins s σ H ux uy v u Q I rx ry hq
  obtain⟨O,x,y,w,r1,r2,e,q⟩:=hq
  cases y<;>try (cases e;done)
  ·have e2:=r2.non
   subst e2
   refine wc pins s σ H ux _ v u Q I rx ry ⟨rfl,?_⟩
   have e:some (!l5 x)=some w:=e
   rw [qz r1,Option.some.inj e]
   exact q
  ·cases x<;>try (cases e;done)
   have e1:=r1.bl
   have e2:=r2.bl
   subst e1 e2
   cases e
   exact rT pins s σ H _ _ v u Q I rx ry ⟨_,_,rfl,rfl,q⟩
 |isIn =>
  intro pins s σ H ux uy v u Q I rx ry hq
  obtain⟨O,x,y,w,r1,r2,e,q⟩:=hq
  simp only [cD,Option.bind_eq_some_iff]at e
  obtain⟨xs,e1,e2⟩:=e
  obtain⟨a,us,rfl,s2,t2⟩:=r2.seq e1
  exact zg (by omega) pins s σ H ux _ v u Q I rx ry ⟨x,_,a,us,w,r1.whole,rfl,s2,Reps.mono (bw H O) _ t2,e2,q⟩
 |notIn =>
  intro pins s σ H ux uy v u Q I rx ry hq
  obtain⟨O,x,y,w,r1,r2,e,q⟩:=hq
  simp only [cD,Option.bind_eq_some_iff,Option.map_eq_some_iff]at e
  obtain⟨b,⟨xs,e1,e2⟩,rfl⟩:=e
  obtain⟨a,us,rfl,s2,t2⟩:=r2.seq e1
  exact rS (by omega) pins s σ H ux _ v u Q I rx ry ⟨x,_,a,us,b,r1.whole,rfl,s2,Reps.mono (bw H O) _ t2,e2,q⟩
theorem fh(n:Nat)(i:Int):place n i=ixN n i:=rfl
theorem zj:IxR X (R2M X.K gQ):=by
 intro value slice pins s σ H ux uy v u Q I rx ry hq hsub
 obtain⟨O,x,y,w,hO,r1,r2,e,q⟩:=hq
 cases x<;>cases y<;>simp only [gQ]at e<;>try (cases e;done)
 ·simp only [Option.bind_eq_some_iff]at e
  obtain⟨j,e1,e2⟩:=e
  obtain⟨a,us,rfl,s1,t1⟩:=r1.tup
  have e3:=r2.int
  subst e3
  obtain⟨uw,e4,rw'⟩:=t1.get e2
  refine sS value slice pins s σ H _ _ v u Q I rx ry (.inr (.inl ⟨a,us,_,uw,rfl,rfl,s1,?_,q uw H (ae.refl H) rw'⟩)) hsub
  unfold atI
  rw [<- t1.length,<- fh,e1]
  exact e4
 ·simp only [Option.bind_eq_some_iff]at e
  obtain⟨j,e1,e2⟩:=e
  obtain⟨a,us,rfl,s1,t1⟩:=r1.lst
  have e3:=r2.int
  subst e3
  obtain⟨uw,e4,rw'⟩:=t1.get e2
  refine sS value slice pins s σ H _ _ v u Q I rx ry (.inl ⟨a,us,_,uw,rfl,rfl,s1,?_,q uw H (ae.refl H) rw'⟩) hsub
  unfold atI
  rw [<- t1.length,<- fh,e1]
  exact e4
theorem fC{b:Expr}(h:aG b=true):p_ b:=by
 intro o i
 cases b<;>first|rfl|(simp [aG]at h)
theorem oD{K:PySem.W.Frag}{F:Hp}{xs:List PV}{us:List V}(h:Reps K F xs us)(lo hi:Option Int):Reps K F (cut xs lo hi) (nS us lo hi):=by
 have hl:=h.length
 have e:∀(n d:Nat) (o:Option Int),fM n d o=HT.sIx n d o:=λn d o=>by cases o<;>rfl
 unfold cut nS
 rw [e,e,hl]
 exact(h.drop _).take _
theorem zk:SlR X (λx lo hi H Q=>∃O v w,(∀a∈O,H a≠none)/\bm X.K H O v x/\iu v lo hi=some w/\∀u H',ae H H'->Rep X.K (ai H' O) w u->Q u H'):=by
 intro pins s σ H x v vl vu lo hi sl Q I rx hs pl pu hq
 obtain⟨O,pv,w,hO,r1,e,q⟩:=hq
 cases pv<;>simp only [iu]at e<;>try (cases e;done)
 ·rename_i xs
  cases e
  obtain⟨a,us,rfl,s1,t1⟩:=r1.tup
  have e:∀(n d:Nat) (o:Option Int),fM n d o=HT.sIx n d o:=λn d o=>by cases o<;>rfl
  by_cases hn:HT.sIx us.length 0 lo=0/\HT.sIx us.length us.length hi=us.length
  ·refine wM pins s σ H _ v vl vu lo hi sl Q I rx hs pl pu ⟨a,us,rfl,s1,hn.1,hn.2,q _ _ (ae.refl H) ?_⟩
   have:cut xs lo hi=xs:=by
    unfold cut
    rw [e,e,t1.length,hn.1,hn.2,List.drop_zero,<- t1.length,Nat.sub_zero,List.take_length]
   rw [this]
   exact r1.tupR
  ·exact yD pins s σ H _ v vl vu lo hi sl Q I rx hs pl pu ⟨a,us,rfl,s1,hn,λp hp=>q _ _ (am hp _) (iC hO hp (oD t1 lo hi))⟩
 ·cases e
  obtain⟨a,us,rfl,s1,t1⟩:=r1.lst
  exact wm pins s σ H _ v vl vu lo hi sl Q I rx hs pl pu ⟨a,us,rfl,s1,λp hp=>q _ _ (am hp _) (oC hO hp (oD t1 lo hi))⟩
end
end MM
namespace MM
open PySem PySem.Spec PyProof.Rows L2
theorem qA(x:Int):∀l,t4 x l=Srt.jA Srt.da x l
 | []=>rfl
 | y::r=>by
  show(if y<x then y::t4 x r else x::y::r)=(if Srt.da.blt y x=true then y::Srt.jA Srt.da x r else x::y::r)
  rw [qA x r]
  by_cases h:y<x
  ·have e:Srt.da.blt y x=true:=decide_eq_true h
   rw [if_pos h,if_pos e]
  ·have e:Srt.da.blt y x=false:=decide_eq_false h
   rw [if_neg h,if_neg (by rw [e];exact Bool.false_ne_true)]
theorem d8:∀l,sortI l=Srt.sortI l
 | []=>rfl
 |x::r=>by
  show t4 x (sortI r)=Srt.jA Srt.da x (Srt.fY Srt.da r)
  rw [d8 r,qA];rfl
theorem kB:∀a b,lexLt a b=HT.lexLt a b
 | [],[]=>rfl
 | [],_::_=>rfl
 | _::_,[]=>rfl
 |x::xs,y::ys=>by
  rw [lexLt,HT.lexLt_cons,kB xs ys]
theorem qB(x:List Int):∀l,t5 x l=Srt.jA Srt.dZ x l
 | []=>rfl
 |y::r=>by
  show(if lexLt y x=true then y::t5 x r else x::y::r)=(if Srt.dZ.blt y x=true then y::Srt.jA Srt.dZ x r else x::y::r)
  rw [qB x r,kB]
  rfl
theorem iE:∀l,sortT l=Srt.sortT l
 | []=>rfl
 |x::r=>by
  show t5 x (sortT r)=Srt.jA Srt.dZ x (Srt.fY Srt.dZ r)
  rw [iE r,qB];rfl
theorem l9:∀l,dd l=St.dd l
 | []=>rfl
 |x::r=>by
  unfold dd St.dd
  rw [l9 r]
theorem wZ(ns:List Int):Srt.sortI (St.dd ns.reverse)=sortI (dd ns):=by
 rw [d8,l9]
 refine Srt.sortI_of_perm ?_
 refine(List.perm_ext_iff_of_nodup (St.dd_nodup _) (St.dd_nodup _)).mpr λa=>?_
 rw [St.eO,St.eO,List.mem_reverse]
theorem pG(ns:List Int):(St.dd ns.reverse).length=(dd ns).length:=by
 rw [l9]
 refine List.Perm.length_eq ((List.perm_ext_iff_of_nodup (St.dd_nodup _) (St.dd_nodup _)).mpr λa=>?_)
 rw [St.eO,St.eO,List.mem_reverse]
section
variable{X:Cx}{T:Tab}{k:Nat}{cal:Cal}
noncomputable def RBM(K:PySem.W.Frag)(f:List PV->Option PV):List V->Hp->VK->Prop:=λus H Q =>
 ∃O vs v,(∀a∈O,H a≠none)/\Paired (bm K H O) vs us/\f vs=some v/\∀u H',ae H H'->Rep K (ai H' O) v u->Q u H'
theorem p1{K:PySem.W.Frag}{H:Hp}{O:List Addr}{x:PV}{us:List V}(h:Paired (bm K H O) [x] us):∃u,us=[u]/\bm K H O x u:=by
 cases h with
 |cons r t=>cases t;exact⟨_,rfl,r⟩
theorem p2{K:PySem.W.Frag}{H:Hp}{O:List Addr}{x y:PV}{us:List V}(h:Paired (bm K H O) [x,y] us):∃u w,us=[u,w]/\bm K H O x u/\bm K H O y w:=by
 cases h with
 |cons r t=>cases t with
  |cons r' t'=>cases t';exact⟨_,_,rfl,r,r'⟩
theorem dc{f:Blt}{vs:List PV}{v:PV}(h:av f vs=some v)(hf:dU f=some 1\/(cF f).isSome=true\/f=.sortedSet\/f=.lenSet\/f=.valuesOf):∃x,vs=[x]:=by
 cases vs with
 |nil=>cases f<;>simp [av,b8,gJ,fT]at h
 |cons x r=>cases r with
  |nil=>exact⟨x,rfl⟩
  |cons y r=>cases f<;>simp [av,b8,gJ,fT,dU,cF]at h hf
theorem Bo:bR X (.builtin "len") (RBM X.K (av .len)):=by
 intro pins s σ H xs us Q I r h
 obtain⟨O,vs,v,hO,rs,e,q⟩:=h
 obtain⟨x,rfl⟩:=dc e (.inl rfl)
 obtain⟨u,rfl,rx⟩:=p1 rs
 cases x<;>simp only [av,b8,xS]at e<;>try (cases e;done)
 ·cases e
  obtain⟨a,ws,rfl,s1,t1⟩:=rx.tup
  exact dJ pins s σ H _ us Q I r ⟨a,ws,rfl,.inr s1,by rw [<- t1.length];exact q _ H (ae.refl H) (b_ _ _)⟩
 ·cases e
  obtain⟨a,ws,rfl,s1,t1⟩:=rx.lst
  exact dJ pins s σ H _ us Q I r ⟨a,ws,rfl,.inl s1,by rw [<- t1.length];exact q _ H (ae.refl H) (b_ _ _)⟩
 ·rename_i d
  cases d with
  |t kvs=>cases e
  |k kvs =>
   cases e
   obtain⟨a,rfl,ha⟩:=rx.dI
   obtain⟨u,rfl,ru⟩:=eD r
   cases ru
   obtain⟨hz,hs,ws,rel,dd⟩:=ii I.hok (show Rd H a (.dK (fU kvs)) from ha)
   have hlen:ws.length=kvs.length:=by rw [<- rel.length];unfold fU;rw [List.length_map]
   have hz:kvs.length<=sizeLine:=by unfold fU at hz;rw [List.length_map]at hz;exact hz
   have hn:=iR
   exact call_len_dict hs dd (by rw [hlen];omega) ⟨.int kvs.length,H,I.tok _,⟨s.toks+1,by rw [hlen]⟩,q _ H (ae.refl H) (b_ _ _)⟩
theorem w8:bR X (.type "tuple") (RBM X.K (av .tupleOf)):=by
 intro pins s σ H xs us Q I r h
 obtain⟨O,vs,v,hO,rs,e,q⟩:=h
 obtain⟨x,rfl⟩:=dc e (.inl rfl)
 obtain⟨u,rfl,rx⟩:=p1 rs
 simp only [av,b8,gJ,f_,fT,Option.map_eq_some_iff]at e
 obtain⟨ys,e,rfl⟩:=e
 cases x<;>simp [a_]at e
 ·subst e
  obtain⟨a,ws,rfl,s1,t1⟩:=rx.tup
  refine gL pins s σ H _ us Q I r ⟨a,ws,rfl,.inr ⟨s1,q _ H (ae.refl H) ?_⟩⟩
  exact rx.tupR
 ·subst e
  obtain⟨a,ws,rfl,s1,t1⟩:=rx.lst
  exact gL pins s σ H _ us Q I r ⟨a,ws,rfl,.inl ⟨s1,λl hl=>q _ _ (am hl _) (iC hO hl t1)⟩⟩
noncomputable def RBF(K:PySem.W.Frag)(f:List PV->Option PV):List V->Hp->VK->Prop:=λus H Q =>
 ∃O vs xs,(∀a∈O,H a≠none)/\Paired (bm K H O) vs us/\f vs=some (.lst xs)/\∀l ws,H l=none->Reps K (ai H O) xs ws->Q (.ref l) (upd H l (.lst ws))
theorem zl:bR X (.type "list") (RBF X.K (av .listOf)):=by
 intro pins s σ H xs us Q I r h
 obtain⟨O,vs,v,hO,rs,e,q⟩:=h
 obtain⟨x,rfl⟩:=dc e (.inl rfl)
 obtain⟨u,rfl,rx⟩:=p1 rs
 simp only [av,b8,gJ,f_,fT,Option.map_eq_some_iff,PV.lst.injEq,exists_eq_right]at e
 obtain⟨a,ws,rfl,s1,t1⟩:=rx.seq e
 exact mT pins s σ H _ us Q I r ⟨a,ws,rfl,s1,λl hl=>q l ws hl t1⟩
theorem l_{K:PySem.W.Frag}{F:Hp}:∀{tss:List (List Int)}{us:List V},Reps K F (tss.map λt=>.tup (t.map .int)) us->pD K F us tss
 | [],_,h=>by rw [List.map_nil,Reps]at h;subst h;exact .nil
 |t::tss,_,h=>by
  rw [List.map_cons,Reps]at h
  obtain⟨u,r,rfl,q,z⟩:=h
  rw [Rep]at q
  obtain⟨a,vs,e,s1,r1⟩:=q
  rw [r1.ints]at s1
  exact .cons ⟨a,e,SqT.of s1⟩ (l_ z)
theorem mf{K:PySem.W.Frag}{F F':Hp}(s:ae F F'):∀{us:List V}{tss:List (List Int)},pD K F us tss->pD K F' us tss
 | _,_,.nil=>.nil
 | _,_,.cons ⟨a,e1,e2⟩ t=>.cons ⟨a,e1,s.seqT e2⟩ (mf s t)
theorem mh{K:PySem.W.Frag}{F:Hp}{xs:List PV}{us:List V}(h:Reps K F xs us):∀(l:List Nat),(∀i∈l,i<us.length)->Reps K F (l.map λi=>xs.getD i .non) (l.map λi=>us.getD i .non)
 | [],_=>.nil
 |i::l,hl=>by
  have hi:=hl i (.head _)
  have hx:i<xs.length:=by rw [h.length];exact hi
  obtain⟨u,e1,e2⟩:=h.get (i:=i) (x:=xs[i]) (List.getElem?_eq_getElem hx)
  refine .cons ?_ (mh h l λj hj=>hl j (.tail _ hj))
  have q1:xs.getD i .non=xs[i]:=by simp [hx]
  have q2:us.getD i .non=u:=by rw [List.getD_eq_getElem?_getD,e1];rfl
  show Rep K F (xs.getD i .non) (us.getD i .non)
  rw [q1,q2];exact e2
theorem uj (g:Gf X T k cal):bR X (.builtin "sorted") (RBF X.K (av .sorted)):=by
 intro pins s σ H xs us Q I r h
 obtain⟨O,vs,v,hO,rs,e,q⟩:=h
 obtain⟨x,rfl⟩:=dc e (.inl rfl)
 obtain⟨u,rfl,rx⟩:=p1 rs
 simp only [av,b8,gJ,f_,fT,Option.bind_eq_some_iff]at e
 obtain⟨ys,e,e2⟩:=e
 obtain⟨a,ws,rfl,s1,t1⟩:=rx.seq e
 unfold gc at e2
 split at e2
 ·rename_i h64
  split at e2
  ·rename_i ns hn
   cases e2
   have:=d6 hn
   subst this
   have e3:=t1.ints
   subst e3
   rw [List.length_map]at h64
   refine ip g.calm pins s σ H _ us Q I r ⟨a,ns,rfl,s1.imp id .inl,h64,λl hl=>?_⟩
   rw [<- d8]
   exact q l _ hl (.of_ints _)
  ·simp only [Option.map_eq_some_iff,PV.lst.injEq]at e2
   obtain⟨ts,e3,rfl⟩:=e2
   have:=oj e3
   subst this
   rw [List.length_map]at h64
   refine m4 (by have:=g.units;omega) pins s σ H _ us Q I r ⟨a,ws,ts,rfl,s1,mf (bw H O) (l_ t1),h64,λl pm hl hp e=>q l _ hl ?_⟩
   have q2:=mh t1 pm hp
   have e4:(pm.map λi=>(ts.map λt=>PV.tup (t.map .int)).getD i .non)=(sortT ts).map λt=>.tup (t.map .int):=by
    rw [iE,<- e,List.map_map]
    refine List.map_congr_left λi hi=>?_
    have hi':i<ts.length:=by have:=hp i hi;rw [<- t1.length,List.length_map]at this;exact this
    simp [hi']
   rw [e4]at q2
   exact q2
 ·cases e2
theorem jL{x:PV}{ys:List PV}(h:f_ x=some ys):x=.lst ys:=by
 cases x<;>cases h
 rfl
end
end MM
namespace MM
open PySem PySem.Spec PyProof.Rows L2
section
variable{X:Cx}{T:Tab}{k:Nat}{cal:Cal}
theorem zm {b:Blt}{c:String} (hb:cF b=some c):bR X (.builtin "isinstance") (λus H Q=>∃O v u,us=[u,.ty c]/\isD v=false/\bm X.K H O v u/\Q (.bl (isT b v)) H):=by
 intro pins s σ H xs us Q I r h
 obtain⟨O,v,x,rfl,nd,rx,q⟩:=h
 obtain⟨u,t,rfl,r1,rc⟩:=A4 r
 have rc':t=.type c:=rc
 subst rc'
 have fin:∀(z:Bool) (tk:Nat),z=isT b v->EP X pins σ Q (.bool z) { s with toks:=tk }:=λz tk e=>⟨.bl z,H,I.tok tk,rfl,by rw [e];exact q⟩
 cases v with
 |dI _=>cases nd
 | non =>
  have e:=rx.non
  subst e
  cases (show u=Value.none from r1)
  cases b<;>simp only [cF,Option.some.injEq,reduceCtorEq]at hb<;>subst hb <;>
   exact PySem.W.kia_one PySem.W.kitx_none I.kIn True.intro (b:=false) (by first|rfl|kernel_rfl|decide) (λz=>nomatch z) λtk=>fin _ tk rfl
 | bl y =>
  have e:=rx.bl
  subst e
  cases (show u=Value.bool y from r1)
  cases b<;>simp only [cF,Option.some.injEq,reduceCtorEq]at hb<;>subst hb<;>first
   |exact PySem.W.kia_one PySem.W.kitx_bool I.kIn True.intro (b:=true) (by first|rfl|kernel_rfl|decide) (λz=>nomatch z) λtk=>fin _ tk rfl
   |exact PySem.W.kia_one PySem.W.kitx_bool I.kIn True.intro (b:=false) (by first|rfl|kernel_rfl|decide) (λz=>nomatch z) λtk=>fin _ tk rfl
 | int y =>
  have e:=rx.int
  subst e
  obtain⟨t,z⟩:=(show ∃t,u=Value.int y t from r1)
  cases z
  cases b<;>simp only [cF,Option.some.injEq,reduceCtorEq]at hb<;>subst hb<;>first
   |exact PySem.W.kia_one PySem.W.kitx_int I.kIn True.intro (b:=true) (by first|rfl|kernel_rfl|decide) (λz=>nomatch z) λtk=>fin _ tk rfl
   |exact PySem.W.kia_one PySem.W.kitx_int I.kIn True.intro (b:=false) (by first|rfl|kernel_rfl|decide) (λz=>nomatch z) λtk=>fin _ tk rfl
 | str y =>
  have e:=rx.str
  subst e
  obtain⟨t,z⟩:=(show ∃t,u=Value.str y t from r1)
  cases z
  cases b<;>simp only [cF,Option.some.injEq,reduceCtorEq]at hb<;>subst hb<;>first
   |exact PySem.W.kia_one PySem.W.kitx_str I.kIn True.intro (b:=true) (by first|rfl|kernel_rfl|decide) (λz=>nomatch z) λtk=>fin _ tk rfl
   |exact PySem.W.kia_one PySem.W.kitx_str I.kIn True.intro (b:=false) (by first|rfl|kernel_rfl|decide) (λz=>nomatch z) λtk=>fin _ tk rfl
 | lst ys =>
  obtain⟨a,us,rfl,s1,t1⟩:=rx.lst
  cases (show u=Value.ref a from r1)
  obtain⟨its,_,p,_⟩:=I.list s1
  obtain⟨o,h1,h2,_⟩:=p.isList
  cases b<;>simp only [cF,Option.some.injEq,reduceCtorEq]at hb<;>subst hb<;>first
   |exact PySem.W.kia_one PySem.W.kitx_list I.kIn ⟨o,h1,h2⟩ (b:=true) (by first|rfl|kernel_rfl|decide) (λz=>nomatch z) λtk=>fin _ tk rfl
   |exact PySem.W.kia_one PySem.W.kitx_list I.kIn ⟨o,h1,h2⟩ (b:=false) (by first|rfl|kernel_rfl|decide) (λz=>nomatch z) λtk=>fin _ tk rfl
 | tup ys =>
  obtain⟨a,us,rfl,s1,t1⟩:=rx.tup
  cases (show u=Value.ref a from r1)
  obtain⟨its,_,p,_⟩:=I.tuple s1
  obtain⟨o,h1,h2,_⟩:=p
  cases b<;>simp only [cF,Option.some.injEq,reduceCtorEq]at hb<;>subst hb<;>first
   |exact PySem.W.kia_one PySem.W.kitx_tuple I.kIn ⟨o,h1,h2⟩ (b:=true) (by first|rfl|kernel_rfl|decide) (λz=>nomatch z) λtk=>fin _ tk rfl
   |exact PySem.W.kia_one PySem.W.kitx_tuple I.kIn ⟨o,h1,h2⟩ (b:=false) (by first|rfl|kernel_rfl|decide) (λz=>nomatch z) λtk=>fin _ tk rfl
theorem g6{K:PySem.W.Frag}{F:Hp}:∀{bs:List Bool}{us:List V}{its:List Value},Reps K F (bs.map .bl) us->aw us its->its=bs.map Value.bool
 | [],_,_,h,w=>by rw [List.map_nil,Reps]at h;subst h;cases w;rfl
 | b::bs,_,_,h,w=>by
  rw [List.map_cons,Reps]at h
  obtain⟨u,r,rfl,q,t⟩:=h
  rw [Rep]at q
  subst q
  cases w with
  |cons r1 w1 =>
   cases r1
   rw [g6 t w1];rfl
theorem rU(bs:List Bool):(List.range bs.length).all (λi=>bs.getD i false)=bs.all id:=by
 conv=>rhs;rw [<- Srt.gz bs false]
 rw [List.all_map]
 rfl
theorem rV(bs:List Bool):(List.range bs.length).any (λi=>bs.getD i false)=bs.any id:=by
 conv=>rhs;rw [<- Srt.gz bs false]
 rw [List.any_map]
 rfl
theorem jn{P:Program}{w:World}{A:Around}(bs:List Bool):TruthOf P w A (λi v=>(bs.map Value.bool).toArray[i]?=some v) (λi=>bs.getD i false):=by
 intro i v s Q E h q
 simp only [List.getElem?_toArray,List.getElem?_map,Option.map_eq_some_iff]at h
 obtain⟨b,e,rfl⟩:=h
 have:bs.getD i false=b:=by rw [List.getD_eq_getElem?_getD,e];rfl
 have q':Q (bs.getD i false) s:=q
 rw [this]at q'
 exact wpAny_truthy_bool q'
theorem Bp (hc:X.calm=true):bR X (.builtin "any") (RBM X.K (av .any)):=by
 intro pins s σ H xs us Q I r h
 obtain⟨O,vs,v,hO,rs,e,q⟩:=h
 obtain⟨x,rfl⟩:=dc e (.inl rfl)
 obtain⟨u,rfl,rx⟩:=p1 rs
 simp only [av,b8,Option.bind_eq_some_iff,Option.map_eq_some_iff]at e
 obtain⟨ys,e0,bs,e,rfl⟩:=e
 obtain rfl:=jL e0
 have:=i5 e
 subst this
 obtain⟨a,ws,rfl,s1,t1⟩:=rx.lst
 obtain⟨u,rfl,ru⟩:=eD r
 cases ru
 obtain⟨its,r',pl,hz⟩:=I.list s1
 have:=g6 t1 r'
 subst this
 have hlt:a<s.heap.objs.size:=by obtain⟨o,ho,_⟩:=pl.isList;exact Heap.lt_size ho
 refine call_any_walk (wpAny_pyIter_list pl.isList ?_)
 refine⟨s.heap.objs.size,_,_,_,_,_,λi=>bs.getD i false,rfl,Walks.list (by first|exact I.ok.hd hc|simpa using I.ok.hd hc) s.heap.objs.size a (Nat.ne_of_lt hlt) (bs.map Value.bool).toArray,⟨⟨_,Heap.get?_push_size _ rfl,rfl,rfl⟩,pl.isList.push _⟩,jn bs,λh' tk hk=>?_⟩
 have e2:(List.range (bs.map Value.bool).toArray.size).any (λi=>bs.getD i false)=bs.any id:=by
  rw [List.size_toArray,List.length_map];exact rV bs
 rw [e2]
 refine⟨.bl _,H,?_,rfl,q _ H (ae.refl H) (dC _ _)⟩
 refine I.kept (t':=tk) λb o e=>hk b o ?_ (Heap.get?_push_of_some _ e)
 intro hm
 have hb:=Heap.lt_size e
 simp at hm
 exact absurd hm (Nat.ne_of_lt hb)
theorem Bq (hc:X.calm=true):bR X (.builtin "all") (RBM X.K (av .all)):=by
 intro pins s σ H xs us Q I r h
 obtain⟨O,vs,v,hO,rs,e,q⟩:=h
 obtain⟨x,rfl⟩:=dc e (.inl rfl)
 obtain⟨u,rfl,rx⟩:=p1 rs
 simp only [av,b8,Option.bind_eq_some_iff,Option.map_eq_some_iff]at e
 obtain⟨ys,e0,bs,e,rfl⟩:=e
 obtain rfl:=jL e0
 have:=i5 e
 subst this
 obtain⟨a,ws,rfl,s1,t1⟩:=rx.lst
 obtain⟨u,rfl,ru⟩:=eD r
 cases ru
 obtain⟨its,r',pl,hz⟩:=I.list s1
 have:=g6 t1 r'
 subst this
 have hlt:a<s.heap.objs.size:=by obtain⟨o,ho,_⟩:=pl.isList;exact Heap.lt_size ho
 refine call_all_walk (wpAny_pyIter_list pl.isList ?_)
 refine⟨s.heap.objs.size,_,_,_,_,_,λi=>bs.getD i false,rfl,Walks.list (by first|exact I.ok.hd hc|simpa using I.ok.hd hc) s.heap.objs.size a (Nat.ne_of_lt hlt) (bs.map Value.bool).toArray,⟨⟨_,Heap.get?_push_size _ rfl,rfl,rfl⟩,pl.isList.push _⟩,jn bs,λh' tk hk=>?_⟩
 have e2:(List.range (bs.map Value.bool).toArray.size).all (λi=>bs.getD i false)=bs.all id:=by
  rw [List.size_toArray,List.length_map];exact rU bs
 rw [e2]
 refine⟨.bl _,H,?_,rfl,q _ H (ae.refl H) (dC _ _)⟩
 refine I.kept (t':=tk) λb o e=>hk b o ?_ (Heap.get?_push_of_some _ e)
 intro hm
 have hb:=Heap.lt_size e
 simp at hm
 exact absurd hm (Nat.ne_of_lt hb)
theorem jo(ns:List Int):∀k,k<=ns.length->preSum (λi=>ns.getD i 0) k=(ns.take k).sum
 |0,_=>by simp [preSum]
 | k + 1,h=>by
  have e:ns.take (k+1)=ns.take k ++ [ns.getD k 0]:=by
   rw [List.take_succ,List.getD_eq_getElem?_getD,List.getElem?_eq_getElem (by omega)]
   rfl
  rw [preSum,jo ns k (by omega),e,List.sum_append]
  simp
theorem Br (hc:X.calm=true):bR X (.builtin "sum") (RBM X.K (av .sum)):=by
 intro pins s σ H xs us Q I r h
 obtain⟨O,vs,v,hO,rs,e,q⟩:=h
 obtain⟨x,rfl⟩:=dc e (.inl rfl)
 ·simp only [av,b8,Option.bind_eq_some_iff,Option.map_eq_some_iff]at e
  obtain⟨ys,e9,ns,e0,rfl⟩:=e
  obtain rfl:=jL e9
  have:=d6 e0
  subst this
  obtain⟨u,rfl,rx⟩:=p1 rs
  obtain⟨a,ws,rfl,s1,t1⟩:=rx.lst
  have:=t1.ints
  subst this
  obtain⟨u,rfl,ru⟩:=eD r
  cases ru
  obtain⟨its,r',pl,hz⟩:=I.list s1
  have ia:IntsAre its ns:=cK r'
  have hl:=r'.length
  rw [List.length_map]at hl
  have hlt:a<s.heap.objs.size:=by obtain⟨o,ho,_⟩:=pl.isList;exact Heap.lt_size ho
  have hh:X.A.in1.handled=none:=by simpa using I.ok.hd hc
  refine call_sum_walkAnyS (wpAny_pyIter_list pl.isList ⟨s.heap.objs.size,_,_,_,_,_,_,λi=>ns.getD i 0,rfl,(Walks.list hh s.heap.objs.size a (Nat.ne_of_lt hlt) its.toArray).toS,⟨⟨_,Heap.get?_push_size _ rfl,rfl,rfl⟩,pl.isList.push _⟩,λb hb=>?_,λi v hv=>St.jD (items:=its.toArray) (by simpa using ia) i v hv,λs' t' hm=>?_⟩)
  ·simp only [List.mem_cons,List.not_mem_nil,or_false]at hb
   rw [Heap.size_push]
   rcases hb with rfl|rfl
   ·exact Nat.lt_succ_self _
   ·exact Nat.lt_succ_of_lt hlt
  ·obtain⟨h',g',d',tk,os'⟩:=s'
   have e1:g'=s.gens:=hm.gens
   have e2:d'=s.drawn:=hm.drawn
   have e3:os'=s.os:=hm.os
   subst e1 e2 e3
   rw [List.size_toArray,<- hl,jo ns ns.length (Nat.le_refl _),List.take_length]
   refine⟨.int ns.sum,H,I.kept (t':=tk) λb o eb=>hm.heap b o (λz=>?_) (Heap.get?_push_of_some _ eb),⟨_,rfl⟩,q _ H (ae.refl H) (b_ _ _)⟩
   rw [List.mem_singleton.mp z]at eb
   exact absurd (Heap.lt_size eb) (Nat.lt_irrefl _)
theorem mi:∀{ns:List Int}{m:Int},t6 ns=some m->m∈ns/\∀x∈ns,x<=m
 | n::ns,m,h=>by
  have gen:∀(l:List Int) (a:Int),(l.foldl (λa b=>if a<b then b else a) a∈a::l)/\a<=l.foldl (λa b=>if a<b then b else a) a/\∀x∈l,x<=l.foldl (λa b=>if a<b then b else a) a:=by
   intro l
   induction l with
   |nil=>intro a;exact⟨.head _,Int.le_refl _,λx hx=>by cases hx⟩
   | cons b l ih =>
    intro a
    obtain⟨h1,h2,h3⟩:=ih (if a<b then b else a)
    rw [List.foldl_cons]
    refine⟨?_,?_,λx hx=>?_⟩
    ·rcases List.mem_cons.mp h1 with e|e
     ·rw [e]
      split
      ·exact .tail _ (.head _)
      ·exact .head _
     ·exact .tail _ (.tail _ e)
    ·exact Int.le_trans (by split<;>omega) h2
    ·rcases List.mem_cons.mp hx with rfl|hx
     ·exact Int.le_trans (by split<;>omega) h2
     ·exact h3 x hx
  obtain⟨h1,h2,h3⟩:=gen ns n
  cases h
  exact⟨h1,λx hx=>by
   rcases List.mem_cons.mp hx with rfl|hx
   ·exact h2
   ·exact h3 x hx⟩
theorem zn (hc:X.calm=true):bR X (.builtin "max") (RBM X.K (av .max1)):=by
 intro pins s σ H xs us Q I r h
 obtain⟨O,vs,v,hO,rs,e,q⟩:=h
 obtain⟨x,rfl⟩:=dc e (.inl rfl)
 simp only [av,b8,Option.bind_eq_some_iff,Option.map_eq_some_iff]at e
 obtain⟨ys,e9,ns,e0,m,em,rfl⟩:=e
 obtain rfl:=jL e9
 have:=d6 e0
 subst this
 obtain⟨u,rfl,rx⟩:=p1 rs
 obtain⟨a,ws,rfl,s1,t1⟩:=rx.lst
 have:=t1.ints
 subst this
 obtain⟨u,rfl,ru⟩:=eD r
 cases ru
 obtain⟨its,r',pl,hz⟩:=I.list s1
 have ia:IntsAre its ns:=cK r'
 have hl:=r'.length
 rw [List.length_map]at hl
 obtain⟨hm1,hm2⟩:=mi em
 have hpos:0<ns.length:=List.length_pos_iff.mpr (List.ne_nil_of_mem hm1)
 obtain⟨zs,ez⟩:=ia.allInts.items
 have hsz:zs.size=ns.length:=by
  have:=congrArg Array.size ez
  simp [intItems]at this
  omega
 have num:∀i,i<ns.length->numAt zs i=ns.getD i 0:=λi hi=>by
  have h1:(intItems zs)[i]?=some (.int (zs[i]'(by omega)).1 (zs[i]'(by omega)).2):=by simp [intItems,show i<zs.size by omega]
  obtain⟨t,e1⟩:=intItems_at h1
  obtain⟨t',e2⟩:=St.jD (items:=its.toArray) (by simpa using ia) i _ (by rw [ez];exact h1)
  rw [e1]at e2
  exact(Value.int.inj e2).1
 have hlist:s.heap.IsList a (intItems zs):=by rw [<- ez];exact pl.isList
 refine max_intList (I.ok.hd hc) hlist (by omega) λv h' tk hv hk=>?_
 obtain⟨t,rfl⟩:=intItems_at hv
 obtain⟨b1,b2⟩:=argBest_gt (numAt zs) (zs.size-1)
 generalize argBest (λi j=>decide (numAt zs i > numAt zs j)) (zs.size-1)=k at b1 b2
 have hk1:k<ns.length:=by omega
 have e1:numAt zs k=m:=by
  refine Int.le_antisymm ?_ ?_
  ·rw [num k hk1]
   exact hm2 _ (by rw [List.getD_eq_getElem?_getD,List.getElem?_eq_getElem hk1];exact List.getElem_mem hk1)
  ·obtain⟨j,hj,rfl⟩:=List.getElem_of_mem hm1
   have:=b2 j (by omega)
   rw [num j hj,List.getD_eq_getElem?_getD,List.getElem?_eq_getElem hj]at this
   exact this
 rw [e1]
 exact⟨.int m,H,I.kept (t':=tk) hk,⟨_,rfl⟩,q _ H (ae.refl H) (b_ _ _)⟩
theorem qC (hc:X.calm=true):bR X (.type "set") (λus H Q=>∃O v u ns,us=[u]/\bm X.K H O v u/\((a_ v).bind aZ)=some ns/\ns.length<=1000/\∀l,H l=none->Q (.ref l) (upd H l (gO X.prog X.w l (St.dd ns.reverse)))):=by
 intro pins s σ H xs us Q I r h
 obtain⟨O,v,u,ns,rfl,rx,e,h1000,q⟩:=h
 simp only [Option.bind_eq_some_iff]at e
 obtain⟨ys,e1,e2⟩:=e
 obtain⟨a,ws,rfl,s1,t1⟩:=rx.seq e1
 have:=d6 e2
 subst this
 have e3:=t1.ints
 subst e3
 exact tL hc pins s σ H _ us Q I r ⟨a,ns,rfl,s1,h1000,λl hl=>q l hl⟩
theorem oE (hc:X.calm=true):bR X (.builtin "sorted") (λus H Q=>∃(l:Addr) (ks:List Int),us=[.ref l]/\H l=some (gO X.prog X.w l ks)/\ks.length<64/\∀p,H p=none->Q (.ref p) (upd H p (.lst ((Srt.sortI ks).map V.int)))):=by
 intro pins s σ H xs us Q I r h
 obtain⟨l,ks,rfl,e,h64,q⟩:=h
 exact ip hc pins s σ H _ us Q I r ⟨l,ks,rfl,.inr (.inr e),h64,q⟩
end
end MM
namespace L2
open PySem PySem.Spec PyProof.Rows
end L2
namespace L2
open PySem PySem.Spec PyProof.Rows
theorem Inv.turned2{X:Cx}{pins:List (Addr×Obj)}{σ:St}{H:Hp}{s:Shared}{h':Heap}{t':Nat}{e it:Addr}{oe:Obj}(I:Inv X pins σ H s)(he:s.heap.get? e=some oe)(hf:oe.isFreed=false)(he':∃o,h'.get? e=some o)
  (k:∀b o,b≠e->b≠it->s.heap.get? b=some o->h'.get? b=some o) (fe:jy X pins H e) (fi:jy X pins H it):Inv X pins σ H { s with heap:=h',toks:=t' }:=by
 obtain⟨o',ho'⟩:=he'
 obtain⟨a0,a1,a2,a3,a4,a5⟩:=fe
 obtain⟨b0,b1,b2,b3,b4,b5⟩:=fi
 have at1:(h'.update e λ_=>oe).get? e=some oe:=Heap.get?_update_self _ ho' hf
 have oth:∀b,b≠e->(h'.update e λ_=>oe).get? b=h'.get? b:=λb hb=>(Heap.SameBut.update h' e _).2 b hb
 have I1:Inv X pins σ H { s with heap:=h'.update e λ_=>oe,toks:=t' }:=I.turned (it:=it) (λb o hb q=>by
  by_cases z:b=e
  ·subst z
   rw [at1,<- he]
   exact q
  ·rw [oth b z]
   exact k b o z hb q) b0 b1 b3 b4 b5
 exact Inv.turned (s:={ s with heap:=h'.update e λ_=>oe,toks:=t' }) (it:=e) I1 (λb o hb q=>by
  have q:(h'.update e λ_=>oe).get? b=some o:=q
  rw [oth b hb]at q
  exact q) a0 a1 a3 a4 a5
noncomputable def Ite(q:Hp->List V->Prop):It :=
 ⟨λi H=>∃xs,q H xs/\i<xs.length,λi H x H'=>∃p,x=.ref p/\H p=none/\∃u,H'=upd H p (.tup [.int i,u])/\∀xs,q H xs->xs[i]?=some u,λi H=>∃xs,q H xs/\i=xs.length⟩
structure Src(P:Program)(w:World)(K:PySem.W.Frag)(a it:Addr)(q:Hp->List V->Prop)(r:Nat->Heap->Prop):Prop where
 ne:a≠it
 keep:∀i h h',r i h->(∀o,h.get? it=some o->h'.get? it=some o)->r i h'
 live:∀i h,r i h->∃o,h.get? it=some o/\∀v,o.data≠.cell v
 one:∀(X:Cx),X.K=K->∀(pins:List (Addr×Obj)) (s:Shared) (σ:St) (H:Hp) (xs ys:List V),Inv X pins σ H s->q H xs->q H ys->xs=ys
 row:∀(X:Cx),X.prog=P->X.w=w->X.K=K->∀(pins:List (Addr×Obj)) (s:Shared) (σ:St) (H:Hp) (xs:List V),Inv X pins σ H s->q H xs->∃(its:List Value),aw xs its/\∀(A:Around),A.handled=none ->
  ∃St:Nat->Heap->Prop,Draws P w A it [it,a] its.length (λi v=>its[i]?=some v) St/\(∀i,r i s.heap->St i s.heap)/\∀i h,St i h->r i h
theorem ul{P:Program}{w:World}{K:PySem.W.Frag}{ts:List Expr}{j:Nat}{tp:Pos}{a it e:Addr}{q:Hp->List V->Prop}{r:Nat->Heap->Prop}(S:Src P w K a it q r)(hei:e≠it)(hea:e≠a) :
  ra P w K (.Tuple ts j tp) (Ite q) [e,it] e (λi h=>(∃old,IsEnum h e it (i:Nat) old)/\r i h) where
 mem:=.head _
 obj:=λi h st b hb=>by
  obtain⟨⟨old,he⟩,hr⟩:=st
  rcases List.mem_cons.mp hb with rfl|hb
  ·exact⟨_,he,λv z=>by cases z⟩
  ·have z:b=it:=by simpa using hb
   subst z
   exact S.live i h hr
 keep:=λi h h' ⟨⟨old,he⟩,hr⟩ k=>⟨⟨old,k e (.head _) _ he⟩,S.keep i h h' hr (k it (.tail _ (.head _)))⟩
 item:=by
  intro X hP hw hK hc i pins s σ H E I hf st hg
  obtain⟨⟨old,he⟩,hr⟩:=st
  obtain⟨xs,hq,hi⟩:=hg
  obtain⟨its,rv,dr⟩:=S.row X hP hw hK pins s σ H xs I hq
  have hh:X.A.handled=none:=I.ok.hd hc
  obtain⟨St,D,hst,hts⟩:=dr X.A.in1 (by simpa using hh)
  have hl:=rv.length
  have fe:=hf e (.head _)
  have fi:=hf it (.tail _ (.head _))
  refine wpAny_pyNext_enum_itemD D he (hst i hr) (by omega) hei (by simp only [List.mem_cons,List.not_mem_nil,or_false,not_or];exact⟨hei,hea⟩) λx h' tk px eo st' tup sz kp=>?_
  refine⟨_,rfl,wpAny_letOwnedTupleGo_enum eo λh2 en2 sb2=>?_⟩
  have hx:i<xs.length:=hi
  obtain⟨u,hu,ru⟩:=rv.get (List.getElem?_eq_getElem hx)
  have ex:x=u:=by
   have:=px.symm.trans hu
   simpa using this
  subst ex
  have fresh:H s.heap.objs.size=none:=I.hok.fresh (Nat.le_refl _)
  have ne:∀b o,s.heap.get? b=some o->b≠s.heap.objs.size:=λb o q z=>Nat.lt_irrefl _ (by have:=Heap.lt_size q;rw [z]at this;exact this)
  have en:e≠s.heap.objs.size:=ne _ _ he
  obtain⟨oi,hoi,_⟩:=S.live i _ hr
  have inn:it≠s.heap.objs.size:=ne _ _ hoi
  have I1:Inv X pins σ (upd H s.heap.objs.size (.tup [.int i,xs[i]])) { s with heap:=s.heap.push { cls:=.type "tuple",data:=.seq #[.int i tk,x] } } :=
   I.laid (t':=s.toks) (λb o q=>Heap.get?_push_of_some _ q) (Nat.le_refl _) ⟨by show 2<=sizeLine;decide,_,.cons ⟨_,rfl⟩ (.cons ru .nil),IsTup.new _ _⟩
  have up:∀b,b≠s.heap.objs.size->jy X pins H b->jy X pins (upd H s.heap.objs.size (.tup [.int i,xs[i]])) b:=λb hb ⟨z,r⟩=>⟨by rw [aB hb];exact z,r⟩
  have I2:=I1.turned2 (h':=h2) (t':=tk+1) (e:=e) (it:=it) (Heap.get?_push_of_some _ he) rfl ⟨_,en2⟩ (λb o hbe hbi q=>?_) (up e en fe) (up it inn fi)
  ·refine⟨.ref s.heap.objs.size,_,I2,rfl,⟨_,rfl,fresh,_,rfl,λys hy=>?_⟩,⟨⟨_,by simpa using en2⟩,?_⟩,λb hb=>?_⟩
   ·rw [S.one X hK pins s σ H ys xs I hy hq]
    exact List.getElem?_eq_getElem hx
   ·refine hts _ _ (D.frame _ _ _ st' λb hb o q=>?_)
    rw [sb2.2 b λz=>?_]
    ·exact q
    ·subst z
     simp only [List.mem_cons,List.not_mem_nil,or_false]at hb
     exact hb.elim hei hea
   ·rcases List.mem_cons.mp hb with rfl|hb
    ·exact(up b en fe).1
    ·have z:b=it:=by simpa using hb
     subst z
     exact(up b inn fi).1
  ·rw [sb2.2 b hbe]
   rcases Heap.get?_push_cases q with ⟨rfl,rfl⟩|q
   ·exact tup
   ·exact kp b o hbe hbi q
 done:=by
  intro X hP hw hK hc i pins s σ H E I hf st hg
  obtain⟨⟨old,he⟩,hr⟩:=st
  obtain⟨xs,hq,hi⟩:=hg
  obtain⟨its,rv,dr⟩:=S.row X hP hw hK pins s σ H xs I hq
  have hh:X.A.handled=none:=I.ok.hd hc
  obtain⟨St,D,hst,hts⟩:=dr X.A.in1 (by simpa using hh)
  have hl:=rv.length
  obtain⟨f0,f1,f2,f3,f4,f5⟩:=hf it (.tail _ (.head _))
  have e:i=its.length:=by omega
  subst e
  exact wpAny_pyNext_enum_endD D he (hst _ hr) λh' eb=>⟨rfl,I.turned (t':=s.toks) (λb o hb q=>eb b o hb q) f0 f1 f3 f4 f5⟩
 self:=λ_ i s Q E ⟨⟨old,he⟩,_⟩ h=>wpAny_pyIter_enum he h
theorem um{P:Program}{w:World}{K:PySem.W.Frag}{a it:Addr}(ne:a≠it):Src P w K a it (λH xs=>SqL K H a xs) (λi h=>h.IsListIter it a i) where
 ne:=ne
 keep:=λi h h' ⟨o,ho,r⟩ k=>⟨o,k o ho,r⟩
 live:=λi h ⟨o,ho,_,hd⟩=>⟨o,ho,λv z=>by rw [hd]at z;cases z⟩
 one:=λX hK pins s σ H xs ys I h h'=>by subst hK;exact I.list_inj h h'
 row:=λX hP hw hK pins s σ H xs I h=>by
  subst hP hw hK
  obtain⟨its,rv,p,_⟩:=I.list h
  refine⟨its,rv,λA hA=>⟨λi h=>h.IsListIter it a i/\h.IsList a its.toArray,?_,λi st=>⟨st,p.isList⟩,λi h' st=>st.1⟩⟩
  simpa using Draws.list (prog:=X.prog) (w:=X.w) hA it a ne its.toArray
theorem w9{P:Program}{w:World}{K:PySem.W.Frag}{a it:Addr}(ne:a≠it):Src P w K a it (λH xs=>SqT K H a xs) (λi h=>h.IsTupleIter it a i) where
 ne:=ne
 keep:=λi h h' ⟨o,ho,r⟩ k=>⟨o,k o ho,r⟩
 live:=λi h ⟨o,ho,_,hd⟩=>⟨o,ho,λv z=>by rw [hd]at z;cases z⟩
 one:=λX hK pins s σ H xs ys I h h'=>by subst hK;exact I.tuple_inj h h'
 row:=λX hP hw hK pins s σ H xs I h=>by
  subst hP hw hK
  obtain⟨its,rv,p,_⟩:=I.tuple h
  refine⟨its,rv,λA hA=>⟨λi h=>h.IsTupleIter it a i/\h.IsTuple a its.toArray,?_,λi st=>⟨st,(show s.heap.IsTuple a its.toArray from p)⟩,λi h' st=>st.1⟩⟩
  simpa using En.draws (P:=X.prog) (w:=X.w) hA it a ne its.toArray
noncomputable def CS(K:PySem.W.Frag)(tl:TE):TI:=λσ H R=>tl σ H λx H1=>∃a,x=.ref a/\(((∃xs,SqL K H1 a xs)/\R (Ite λH xs=>SqL K H a xs) H1)\/((∃xs,SqT K H1 a xs)/\R (Ite λH xs=>SqT K H a xs) H1))
theorem oF{X:Cx}{pins:List (Addr×Obj)}{σ:St}{H:Hp}{s:Shared}{E:Value->Shared->Prop}{h':Heap}{ts:List Expr}{j:Nat}{tp:Pos}{a:Addr}{q:Hp->List V->Prop}{r:Nat->Heap->Prop}{R:It->Hp->Prop}(I:Inv X pins σ H s)(la:a<s.heap.objs.size)
  (S:Src X.prog X.w X.K a s.heap.objs.size q r) (en:IsEnum h' (s.heap.objs.size+1) s.heap.objs.size 0 .none) (hr:r 0 h') (k:∀b o,s.heap.get? b=some o->h'.get? b=some o) (hR:R (Ite q) H) :
  wpAny (model X.prog X.w) X.A (pyIter (.ref (s.heap.objs.size+1))) (PIE X pins σ (.Tuple ts j tp) R) E { s with heap:=h' }:=by
 have I1:Inv X pins σ H { s with heap:=h' }:=I.kept (t':=s.toks) k
 refine wpAny_pyIter_enum (s:={ s with heap:=h' }) en ⟨s.heap.objs.size+1,[s.heap.objs.size+1,s.heap.objs.size],_,_,H,rfl,I1,ul S (Nat.succ_ne_self _) (Nat.ne_of_gt (Nat.lt_succ_of_lt la)),⟨⟨_,en⟩,hr⟩,λb hb=>?_,hR⟩
 have hb:s.heap.objs.size<=b:=by
  simp only [List.mem_cons,List.not_mem_nil,or_false]at hb
  rcases hb with rfl|rfl
  ·exact Nat.le_succ _
  ·exact Nat.le_refl _
 exact I.fpOk hb (I.hok.fresh hb)
theorem uo {X:Cx}{ts:List Expr}{j:Nat}{tp:Pos}{l:Expr}{tl:TE}{p pos:Pos} (hg:Gl X "enumerate") (hm:X.mg "enumerate"=none) (hl:PE X l tl) (hs:starEach [l] X.env=[(false,eval l X.env)]:=by rfl) :
  PI X (.Tuple ts j tp) (.Call (.Name "enumerate" p) [l] [] pos) (CS X.K tl):=by
 intro pins s σ H R I h
 refine Call_ (iQ I hg hm PyProof.Rows.boot_enumerate (PyProof.Rows.callWith_type1 (thn (aK hl br hs pos pins s σ H (λvs H1=>match vs with
  | [x]=>∃a,x=.ref a/\(((∃xs,SqL X.K H1 a xs)/\R (Ite λH xs=>SqL X.K H a xs) H1)\/((∃xs,SqT X.K H1 a xs)/\R (Ite λH xs=>SqT X.K H a xs) H1))
  | _=>False) I h) λus s1 ⟨vs,H1,I1,r1,q1⟩=>?_) hs rfl))
 cases r1 with
 |nil=>exact q1.elim
 | cons r rr =>
  cases rr with
  |cons _ _=>exact q1.elim
  | nil =>
   obtain⟨a,e,q⟩:=q1
   subst e
   cases r
   rcases q with ⟨⟨xs,hq⟩,q⟩|⟨⟨xs,hq⟩,q⟩
   ·obtain⟨its,_,pl,_⟩:=I1.list hq
    have la:a<s1.heap.objs.size:=let ⟨o,ho,_⟩:=pl.isList;Heap.lt_size ho
    exact call_enumerate_list pl.isList λh' en it _ k=>oF I1 la (um (Nat.ne_of_lt la)) en it k q
   ·obtain⟨its,_,pt,_⟩:=I1.tuple hq
    have pt:s1.heap.IsTuple a its.toArray:=pt
    have la:a<s1.heap.objs.size:=let ⟨o,ho,_⟩:=pt;Heap.lt_size ho
    exact En.call_tup pt λh' en it _ k=>oF I1 la (w9 (Nat.ne_of_lt la)) en it k q
end L2
namespace MM
open PySem PySem.Spec PyProof.Rows L2
structure oG(K:PySem.W.Frag)(J:It)(xs:List PV)(V G:Hp):Prop where
 stop:∀H',ae G H'->J.stop xs.length H'
 go:∀(i:Nat) x H',ae G H'->xs[i]?=some x->J.go i H'
 yld:∀(i:Nat) x H' u H2,ae G H'->xs[i]?=some x->J.yld i H' u H2->ae H' H2/\∀O',(∀a∈O',H' a≠none)->ae V (ai H2 O')->Rep K (ai H2 O') x u
theorem oG.weak{K:PySem.W.Frag}{J:It}{xs:List PV}{V G G':Hp}(h:oG K J xs V G)(s:ae G G'):oG K J xs V G' :=
 ⟨λH' s'=>h.stop H' (s.trans s'),λi x H' s'=>h.go i x H' (s.trans s'),λi x H' u H2 s'=>h.yld i x H' u H2 (s.trans s')⟩
noncomputable def aN(ms:List ME)(ρ:Rho)(σ:St):List Addr:=match ms with
 | [.bor i]=>(match (ρ[i]?).join,(σ[i]?).join with|some (.own _),some (.ref a)=>[a]|_,_=>[])
 | _=>[]
noncomputable def bA(B:Hp)(O:List Addr)(H:Hp)(L:List Addr):Hp:=λb=>if b∈O then (if b∈L then H b else B b) else H b
section
variable{K:PySem.W.Frag}{B H:Hp}{O L:List Addr}
theorem oH(s:ae B H):ae (bA B O H L) H:=λb u e=>by
 unfold bA at e
 split at e
 ·split at e
  ·exact e
  ·exact s b u e
 ·exact e
theorem d9(s:ae B H):ae B (bA B O H L):=λb u e=>by
 unfold bA
 split
 ·split
  ·exact s b u e
  ·exact e
 ·exact s b u e
theorem bW:ae (ai H O) (bA B O H L):=λb u e=>by
 have hb:b∉O:=λz=>by rw [m9 z]at e;cases e
 unfold bA
 rw [if_neg hb]
 rw [bK hb]at e
 exact e
end
theorem jM{K:PySem.W.Frag}{V G:Hp}{a:Addr}{xs:List PV}{us:List L2.V}(h:SqL K G a us)(r:Reps K V xs us):oG K (Itl K a) xs V G where
 stop:=λH' s=>⟨us,s.seq h,Nat.le_of_eq r.length.symm⟩
 go:=λi x H' s e=>by
  obtain⟨u,e1,_⟩:=r.get e
  exact⟨us,u,s.seq h,e1⟩
 yld:=λi x H' u H2 s e y=>by
  obtain⟨rfl,y⟩:=y
  obtain⟨w,e1,q⟩:=r.get e
  have e2:=y us (s.seq h)
  rw [e1]at e2
  cases e2
  exact⟨ae.refl _,λO' _ sv=>Rep.mono sv _ q⟩
theorem uq{K:PySem.W.Frag}{V G:Hp}{a:Addr}{xs:List PV}{us:List L2.V}(h:SqT K G a us)(r:Reps K V xs us):oG K (Itt K a) xs V G where
 stop:=λH' s=>⟨us,s.seqT h,Nat.le_of_eq r.length.symm⟩
 go:=λi x H' s e=>by
  obtain⟨u,e1,_⟩:=r.get e
  exact⟨us,u,s.seqT h,e1⟩
 yld:=λi x H' u H2 s e y=>by
  obtain⟨rfl,y⟩:=y
  obtain⟨w,e1,q⟩:=r.get e
  have e2:=y us (s.seqT h)
  rw [e1]at e2
  cases e2
  exact⟨ae.refl _,λO' _ sv=>Rep.mono sv _ q⟩
theorem oI{K:PySem.W.Frag}{V G:Hp}{lo:Int}{n:Nat}:oG K (Itr lo n) ((List.range n).map λ(k:Nat)=>.int (lo+k)) V G where
 stop:=λH' s=>by simp [Itr]
 go:=λi x H' s e=>by
  have:=(List.getElem?_eq_some_iff.mp e).1
  simpa [Itr] using this
 yld:=λi x H' u H2 s e y=>by
  obtain⟨rfl,rfl⟩:=y
  refine⟨ae.refl _,λO' _ sv=>?_⟩
  have hi:i<n:=by have:=(List.getElem?_eq_some_iff.mp e).1;simpa using this
  rw [List.getElem?_map,List.getElem?_range hi]at e
  cases e
  rw [Rep]
theorem zo{K:PySem.W.Frag}{H:Hp}{O:List Addr}{p:Addr}{xs:List PV}{us:List V}(hO:∀a∈O,H a≠none)(hp:H p=none)(h:Reps K (ai (upd H p (.tup us)) O) xs us):Rep K (ai (upd H p (.tup us)) O) (.tup xs) (.ref p):=by
 rw [Rep]
 refine⟨p,us,rfl,?_,h⟩
 rw [bK λz=>hO p z hp]
 exact au ..
theorem qD:∀(xs:List PV) (k i:Nat),(bi k xs)[i]?=(xs[i]?).map λx=>.tup [.int ((k+i:Nat):Int),x]
 | [],k,i=>by simp [bi]
 |x::xs,k,0=>by simp [bi]
 |x::xs,k,i+1=>by
  rw [bi,List.getElem?_cons_succ,List.getElem?_cons_succ,qD xs (k+1) i,show k+1+i=k+(i+1) by omega]
theorem kC:∀(xs:List PV) (k:Nat),(bi k xs).length=xs.length
 | [],_=>rfl
 |x::xs,k=>by rw [bi,List.length_cons,List.length_cons,kC xs]
theorem i8{K:PySem.W.Frag}{V G:Hp}{q:Hp->List L2.V->Prop}{xs:List PV}{us:List L2.V}(h:∀H',ae G H'->q H' us)(r:Reps K V xs us):oG K (Ite q) (bi 0 xs) V G where
 stop:=λH' s=>⟨us,h H' s,by rw [kC];exact r.length⟩
 go:=λi x H' s e=>by
  refine⟨us,h H' s,?_⟩
  have:=(List.getElem?_eq_some_iff.mp e).1
  rw [kC]at this
  rw [<- r.length]
  exact this
 yld:=λi x H' u H2 s e y=>by
  obtain⟨p,rfl,hp,v,rfl,y⟩:=y
  rw [qD]at e
  obtain⟨z,e1,rfl⟩:=Option.map_eq_some_iff.mp e
  obtain⟨w,e2,rz⟩:=r.get e1
  have e3:=y us (h H' s)
  rw [e2]at e3
  cases e3
  refine⟨am hp _,λO' hO sv=>?_⟩
  rw [Nat.zero_add]
  refine zo hO hp (.cons (b_ _ _) (.cons (Rep.mono sv _ rz) .nil))
noncomputable def tW(K:PySem.W.Frag)(cal:Cal)(k:Sk)(ms:List ME):TI:=λσ H R =>
 ∃B O₀ O ρ vs xs,aC K B O₀ O H ρ σ/\evs cal ms ρ=some vs/\bo k vs=some xs/\∀J H1,ae H H1->oG K J xs (ai H1 O) (bA B O H1 (aN ms ρ σ))->R J H1
section
variable{X:Cx}{cal:Cal}{tg:Expr}
theorem PI.or{e:Expr}{t u:TI}(h:PI X tg e t)(g:PI X tg e u):PI X tg e (λσ H R=>t σ H R\/u σ H R):=λpins s σ H R I q=>q.elim (h pins s σ H R I) (g pins s σ H R I)
theorem nl:∀{ms:List ME}{ρ:Rho}{vs:List PV},evs cal ms ρ=some vs->vs.length=ms.length
 | [],_,_,h=>by simp [evs]at h;subst h;rfl
 |m::ms,_,_,h=>by
  simp only [evs,Option.bind_eq_some_iff,Option.map_eq_some_iff]at h
  obtain⟨v,_,w,e2,rfl⟩:=h
  simp [nl e2]
theorem oJ{m:ME}{ρ:Rho}{vs:List PV}(h:evs cal [m] ρ=some vs):∃v,vs=[v]/\ev cal m ρ=some v:=by
 simp only [evs,Option.bind_eq_some_iff,Option.map_eq_some_iff]at h
 obtain⟨v,e,w,e2,rfl⟩:=h
 cases e2
 exact⟨v,rfl,e⟩
theorem nn{K:PySem.W.Frag}{F:Hp}{v:PV}{u:L2.V}{xs:List PV}(h:Rep K F v u)(e:a_ v=some xs):∃a us,u=.ref a/\Reps K F xs us/\((v=.lst xs/\SqL K F a us)\/(v=.tup xs/\SqT K F a us)):=by
 cases v with
 |lst ys=>simp [a_]at e;subst e;rw [Rep]at h;obtain⟨a,us,e,q,r⟩:=h;exact⟨a,us,e,r,.inl ⟨rfl,q⟩⟩
 |tup ys=>simp [a_]at e;subst e;rw [Rep]at h;obtain⟨a,us,e,q,r⟩:=h;exact⟨a,us,e,r,.inr ⟨rfl,SqT.of q⟩⟩
 | _=>simp [a_]at e
theorem Bs{m:ME}{e:Expr}(hb:aH m=false)(h:PE X e (tE X.K cal m)):PI X tg e (tW X.K cal .seq [m]):=by
 refine(PI.or (pZ h) (sK h)).imp λσ H R q=>?_
 obtain⟨B,O₀,O,ρ,vs,xs,st,e1,e2,q⟩:=q
 obtain⟨v,rfl,e3⟩:=oJ e1
 have e4:a_ v=some xs:=e2
 have hl:aN [m] ρ σ=[]:=by cases m<;>first|rfl|cases hb
 rw [hl]at q
 cases v with
 |lst ys =>
  simp [a_]at e4;subst e4
  refine .inl ⟨B,O₀,O,ρ,_,st,e3,λu H' s g=>?_⟩
  have r:=g.2 hb
  rw [Rep]at r
  obtain⟨a,us,rfl,sq,rs⟩:=r
  exact⟨a,rfl,⟨us,(bw H' O).seq sq⟩,q _ _ s (jM (bW.seq sq) rs)⟩
 |tup ys =>
  simp [a_]at e4;subst e4
  refine .inr ⟨B,O₀,O,ρ,_,st,e3,λu H' s g=>?_⟩
  have r:=g.2 hb
  rw [Rep]at r
  obtain⟨a,us,rfl,sq,rs⟩:=r
  exact⟨a,rfl,⟨us,(bw H' O).seqT (SqT.of sq)⟩,q _ _ s (uq (bW.seqT (SqT.of sq)) rs)⟩
 | _=>simp [a_]at e4
theorem Bt{i:Nat}{x:Str}{pos:Pos}(h:ax X.N X.env.scope i x=true):PI X tg (.Name x pos) (tW X.K cal .seq [.bor i]):=by
 refine(PI.or (pZ (bp h)) (sK (bp h))).imp λσ H R q=>?_
 obtain⟨B,O₀,O,ρ,vs,xs,st,e1,e2,q⟩:=q
 obtain⟨v,rfl,e3⟩:=oJ e1
 have e4:a_ v=some xs:=e2
 rw [ev]at e3
 cases hj:(ρ[i]?).join with
 |none=>rw [hj]at e3;cases e3
 | some m =>
  rw [hj]at e3
  obtain⟨u,eu,so⟩:=be st hj
  cases m with
  |val w =>
   simp only [bn,Option.some.injEq]at e3
   subst e3
   have so':Rep X.K (ai H O) w u:=so
   obtain⟨a,us,rfl,rs,z⟩:=nn so' e4
   rcases z with ⟨rfl,sq⟩|⟨rfl,sq⟩
   ·exact .inl ⟨_,eu,a,rfl,⟨us,(bw H O).seq sq⟩,q _ _ (ae.refl H) (jM (bW.seq sq) rs)⟩
   ·exact .inr ⟨_,eu,a,rfl,⟨us,(bw H O).seqT sq⟩,q _ _ (ae.refl H) (uq (bW.seqT sq) rs)⟩
  |own ys =>
   simp only [bn,Option.some.injEq]at e3
   subst e3
   simp [a_]at e4;subst e4
   obtain⟨a,us,rfl,ha,rs,hO,_⟩:=so
   refine .inl ⟨_,eu,a,rfl,⟨us,SqL.of ha⟩,q _ _ (ae.refl H) (jM (SqL.of ?_) rs)⟩
   have hl:aN [.bor i] ρ σ=[a]:=by simp [aN,hj,eu]
   unfold bA
   rw [hl,if_pos hO,if_pos (by simp)]
   exact ha
  |brw ys =>
   simp only [bn,Option.some.injEq]at e3
   subst e3
   simp [a_]at e4;subst e4
   obtain⟨a,us,rfl,sq,rs⟩:=so
   exact .inl ⟨_,eu,a,rfl,⟨us,st.keep.seq sq⟩,q _ _ (ae.refl H) (jM ((d9 st.keep).seq sq) rs)⟩
  |ownD ys =>
   simp only [bn,Option.some.injEq]at e3
   subst e3
   simp [a_]at e4
  |ownL ys=>simp [bn]at e3
  |brwD ys =>
   simp only [bn,Option.some.injEq]at e3
   subst e3
   simp [a_]at e4
theorem Bu {m:ME}{e:Expr}{f:Str}{ts:List Expr}{j:Nat}{tp p pos:Pos}{T:Tab}{k:Nat} (g:Gf X T k cal) (hf:f=("enumerate":Str)) (hg:glB X.env.scope f=true) (hs:ag e=true) (hb:aH m=false) (h:PE X e (tE X.K cal m)):PI X (.Tuple ts j tp) (.Call (.Name f p) [e] [] pos) (tW X.K cal .enm [m]):=by
 subst hf
 have star:starEach [e] X.env=[(false,eval e X.env)]:=by cases e<;>first|rfl|(simp [ag]at hs)
 refine(uo (dD hg) (g.blt "enumerate" (by decide)) h star).imp λσ H R q=>?_
 obtain⟨B,O₀,O,ρ,vs,xs,st,e1,e2,q⟩:=q
 obtain⟨v,rfl,e3⟩:=oJ e1
 have hl:aN [m] ρ σ=[]:=by cases m<;>first|rfl|cases hb
 rw [hl]at q
 simp only [bo,Option.map_eq_some_iff]at e2
 obtain⟨ys,e4,rfl⟩:=e2
 refine⟨B,O₀,O,ρ,_,st,e3,λu H' s g=>?_⟩
 obtain⟨a,us,rfl,rs,z⟩:=nn (g.2 hb) e4
 rcases z with ⟨_,sq⟩|⟨_,sq⟩
 ·exact⟨a,rfl,.inl ⟨⟨us,(bw H' O).seq sq⟩,q _ _ s (i8 (λH2 s2=>s2.seq (bW.seq sq)) rs)⟩⟩
 ·exact⟨a,rfl,.inr ⟨⟨us,(bw H' O).seqT sq⟩,q _ _ s (i8 (λH2 s2=>s2.seqT (bW.seqT sq)) rs)⟩⟩
theorem zp {i:Nat}{x:Str}{px:Pos}{f:Str}{ts:List Expr}{j:Nat}{tp p pos:Pos}{T:Tab}{k:Nat} (g:Gf X T k cal) (hf:f=("enumerate":Str)) (hg:glB X.env.scope f=true) (h:ax X.N X.env.scope i x=true):PI X (.Tuple ts j tp) (.Call (.Name f p) [.Name x px] [] pos) (tW X.K cal .enm [.bor i]):=by
 subst hf
 refine(uo (dD hg) (g.blt "enumerate" (by decide)) (bp h) rfl).imp λσ H R q=>?_
 obtain⟨B,O₀,O,ρ,vs,xs,st,e1,e2,q⟩:=q
 obtain⟨v,rfl,e3⟩:=oJ e1
 simp only [bo,Option.map_eq_some_iff]at e2
 obtain⟨zs,e4,rfl⟩:=e2
 rw [ev]at e3
 cases hj:(ρ[i]?).join with
 |none=>rw [hj]at e3;cases e3
 | some m =>
  rw [hj]at e3
  obtain⟨u,eu,so⟩:=be st hj
  cases m with
  |val w =>
   simp only [bn,Option.some.injEq]at e3
   subst e3
   have so':Rep X.K (ai H O) w u:=so
   obtain⟨a,us,rfl,rs,z⟩:=nn so' e4
   rcases z with ⟨rfl,sq⟩|⟨rfl,sq⟩
   ·exact⟨_,eu,a,rfl,.inl ⟨⟨us,(bw H O).seq sq⟩,q _ _ (ae.refl H) (i8 (λH2 s2=>s2.seq (bW.seq sq)) rs)⟩⟩
   ·exact⟨_,eu,a,rfl,.inr ⟨⟨us,(bw H O).seqT sq⟩,q _ _ (ae.refl H) (i8 (λH2 s2=>s2.seqT (bW.seqT sq)) rs)⟩⟩
  | own ys =>
   simp only [bn,Option.some.injEq]at e3
   subst e3
   simp [a_]at e4;subst e4
   obtain⟨a,us,rfl,ha,rs,hO,_⟩:=so
   have hl:aN [.bor i] ρ σ=[a]:=by simp [aN,hj,eu]
   have hG:bA B O H (aN [.bor i] ρ σ) a=some (.lst us):=by
    unfold bA
    rw [hl,if_pos hO,if_pos (by simp)]
    exact ha
   exact⟨_,eu,a,rfl,.inl ⟨⟨us,SqL.of ha⟩,q _ _ (ae.refl H) (i8 (λH2 s2=>s2.seq (SqL.of hG)) rs)⟩⟩
  |brw ys =>
   simp only [bn,Option.some.injEq]at e3
   subst e3
   simp [a_]at e4;subst e4
   obtain⟨a,us,rfl,sq,rs⟩:=so
   exact⟨_,eu,a,rfl,.inl ⟨⟨us,st.keep.seq sq⟩,q _ _ (ae.refl H) (i8 (λH2 s2=>s2.seq ((d9 st.keep).seq sq)) rs)⟩⟩
  |ownD ys =>
   simp only [bn,Option.some.injEq]at e3
   subst e3
   simp [a_]at e4
  |ownL ys=>simp [bn]at e3
  |brwD ys =>
   simp only [bn,Option.some.injEq]at e3
   subst e3
   simp [a_]at e4
theorem w_ {T:Tab}{k:Nat}{ms:List ME}{args:List Expr}{f:Str}{p pos:Pos} (g:Gf X T k cal) (hf:f=("range":Str)) (hg:glB X.env.scope f=true) (ha:PA X args (tEs X.K cal ms)) (hn:args.length=1\/args.length=2) (hs:args.all ag=true) (hm:ms.length=args.length) :
  PI X tg (.Call (.Name f p) args [] pos) (tW X.K cal .rng ms):=by
 subst hf
 have star:∀e,ag e=true->∀es env,starEach (e::es) env=(false,eval e env)::starEach es env:=λe he es env=>by
  cases e<;>first|rfl|(simp [ag]at he)
 match args,hn with
 | [a],_ =>
  simp only [List.all_cons,List.all_nil,Bool.and_true]at hs
  refine(re (dD hg) (g.blt "range" (by decide)) ha (by rw [star a hs];rfl)).imp λσ H R q=>?_
  obtain⟨B,O₀,O,ρ,vs,xs,st,e1,e2,q⟩:=q
  refine⟨B,O₀,O,ρ,vs,st,e1,λus H' s gs=>?_⟩
  match vs,e2,gs with
  | [.int j],e2,gs =>
   simp only [bo]at e2
   split at e2
   ·rename_i c
    cases e2
    obtain⟨u,rfl,ru⟩:=p1 gs.1
    have e3:=ru.int
    subst e3
    exact⟨j,rfl,c.1,c.2,q _ _ s oI⟩
   ·cases e2
  | [.int j,.int j'],e2,gs =>
   have:=nl e1
   simp at this hm
   omega
 | [a,b],_ =>
  simp only [List.all_cons,List.all_nil,Bool.and_true,Bool.and_eq_true]at hs
  refine(rf (dD hg) (g.blt "range" (by decide)) ha (by rw [star a hs.1,star b hs.2];rfl) (by rw [star b hs.2];rfl)).imp λσ H R q=>?_
  obtain⟨B,O₀,O,ρ,vs,xs,st,e1,e2,q⟩:=q
  refine⟨B,O₀,O,ρ,vs,st,e1,λus H' s gs=>?_⟩
  match vs,e2,gs with
  | [.int i,.int j],e2,gs =>
   simp only [bo]at e2
   split at e2
   ·rename_i c
    cases e2
    obtain⟨u,u',rfl,ru,ru'⟩:=p2 gs.1
    have e3:=ru.int
    have e4:=ru'.int
    subst e3 e4
    exact⟨i,j,rfl,c,q _ _ s oI⟩
   ·cases e2
  | [.int j],e2,gs =>
   have:=nl e1
   simp at this hm
   omega
end
end MM
namespace MM
open PySem PySem.Spec PyProof.Rows L2
noncomputable def tF(K:PySem.W.Frag)(cal:Cal)(me:ME):TE:=λσ H Q=>∃B O₀ O ρ xs,aC K B O₀ O H ρ σ/\ev cal me ρ=some (.lst xs) /\
 ∀p us H',ae H H'->H p=none->H' p=some (.lst us)->Reps K (ai H' (p::O)) xs us->Q (.ref p) H'
theorem iF{H:Hp}{O:List Addr}{p:Addr}:ae (ai H (p::O)) (ai H O):=aQ (ae.refl H) λb hb=>.inl (List.mem_cons_of_mem _ hb)
theorem fj{H:Hp}{O:List Addr}{p:Addr}{o:HO}(h:p∈O):ai (upd H p o) O=ai H O:=by
 funext b
 unfold ai
 split
 ·rfl
 ·rename_i hb
  exact aB λz=>hb (by rw [z];exact h)
theorem qE{K:PySem.W.Frag}{H H':Hp}{O:List Addr}{me:ME}{xs:List PV}{p:Addr}{us:List V}(hO:∀a∈O,H a≠none)(hp:H p=none)(e:H' p=some (.lst us))(r:Reps K (ai H' (p::O)) xs us):Got K H' O me (.lst xs) (.ref p):=by
 refine .of ?_
 rw [Rep]
 refine⟨p,us,rfl,SqL.of ?_,Reps.mono iF _ r⟩
 rw [bK λz=>hO p z hp]
 exact e
section
variable{X:Cx}{T:Tab}{k:Nat}{cal:Cal}
theorem dY{e:Expr}{me:ME}(hf:∀ρ v,ev cal me ρ=some v->∃xs,v=.lst xs)(h:PE X e (tF X.K cal me)):PE X e (tE X.K cal me):=by
 refine h.imp λσ H Q q=>?_
 obtain⟨B,O₀,O,ρ,v,st,e1,q⟩:=q
 obtain⟨xs,rfl⟩:=hf ρ v e1
 exact⟨B,O₀,O,ρ,xs,st,e1,λp us H' s hp he r=>q _ _ s (qE st.here hp he r)⟩
theorem Gf.blk(g:Gf X T k cal)(x:Str)(fvs:List Str)(scope:Scope)(s₁:Shared)(H₁:Hp)(C:Addr)(fp:List Addr):Gf (X.blk x fvs scope s₁ H₁ C fp) T k cal:={ g with }
theorem mj{osc:Scope}{N:List Str}{scope:Scope}{x:Str}{fvs:List Str}{js:List Nat}(h:eI osc N scope x fvs js=true):m3 osc N scope x fvs js:=by
 unfold eI at h
 simp only [Bool.and_eq_true,beq_iff_eq,decide_eq_true_eq]at h
 obtain⟨⟨⟨⟨⟨⟨⟨⟨h1,h2⟩,h3⟩,h4⟩,h5⟩,h6⟩,h7⟩,h8⟩,h9⟩:=h
 exact⟨h1,h2,h3,h4,h5,h6,h7,h8,h9⟩
theorem zq{K:PySem.W.Frag}{B H H1 H2:Hp}{O₀ O:List Addr}{ρ:Rho}{σ σ':St}{js:List Nat}{D:Addr}{x:PV}{ux:V}(st:aC K B O₀ O H ρ σ)(s1:ae H H1)(s2:ae H1 H2)(hD:H1 D=none)(hD2:H2 D≠none)
  (hσ:∀z,σ'.set 0 z=(gI js σ).set 0 z) (hl:0<σ'.length) (hx:Rep K (ai H2 (D::O)) x ux):aC K H1 [] (D::O) H2 (c8 js ρ x) (σ'.set 0 (some ux)):=by
 have hv:ae (ai H O) (ai H2 (D::O)):=aQ (s1.trans s2) λb hb=>by
  rcases List.mem_cons.mp hb with rfl|hb
  ·exact .inr (s1.free hD)
  ·exact .inl hb
 rw [hσ]
 have noown:∀(i:Nat) (m:MV),db m=true->(c8 js ρ x)[i]?≠some (some m):=λi m hm e=>by
  unfold c8 at e
  cases i with
  |zero =>
   simp at e
   subst e
   cases hm
  | succ i =>
   simp only [List.getElem?_cons_succ,List.getElem?_map,Option.map_eq_some_iff]at e
   obtain⟨j,_,e⟩:=e
   cases hj:(ρ[j]?).join with
   |none=>rw [hj]at e;cases e
   |some mm =>
    rw [hj]at e
    cases mm<;>first|(simp [eG]at e;done)|(simp only [eG,Option.some.injEq]at e;subst e;cases hm)
 refine⟨s2,λa ha=>?_,λa ha=>by simp at ha,λa ha=>by simp at ha,?_,λi m e=>?_,λi j m m' a _ e _ hm=>absurd e (noown i m hm)
  ,ol λi xss=>noown i _ rfl
  ⟩
 ·rcases List.mem_cons.mp ha with rfl|ha
  ·exact hD2
  ·exact λe=>st.here a ha ((s1.trans s2).free e)
 ·simp [c8,gI]
 ·cases i with
  |zero =>
   simp only [c8,List.getElem?_cons_zero,Option.some.injEq]at e
   subst e
   exact⟨ux,by simp [gI],hx⟩
  | succ i =>
   simp only [c8,List.getElem?_cons_succ,List.getElem?_map,Option.map_eq_some_iff]at e
   obtain⟨j,ej,e⟩:=e
   cases hj:(ρ[j]?).join with
   |none=>rw [hj]at e;cases e
   | some mm =>
    rw [hj]at e
    obtain⟨u,eu,so⟩:=be st hj
    have eσ:((gI js σ).set 0 (some ux))[i+1]?=some (some u):=by
     simp [gI,ej,eu]
    refine⟨u,eσ,?_⟩
    cases mm with
    |val w =>
     simp only [eG,Option.some.injEq]at e
     subst e
     exact Rep.mono hv _ so
    |own ys =>
     simp only [eG,Option.some.injEq]at e
     subst e
     obtain⟨a,us,rfl,ha,rs,hO,_⟩:=so
     exact⟨a,us,rfl,SqL.of (s1 _ _ ha),Reps.mono hv _ rs⟩
    |brw ys =>
     simp only [eG,Option.some.injEq]at e
     subst e
     obtain⟨a,us,rfl,sq,rs⟩:=so
     exact⟨a,us,rfl,(st.keep.trans s1).seq sq,Reps.mono hv _ rs⟩
    |ownD kvs =>
     simp only [eG,Option.some.injEq]at e
     subst e
     obtain⟨a,rfl,ha,_⟩:=so
     exact⟨a,rfl,.inl (s1 _ _ ha)⟩
    |ownL _=>simp [eG]at e
    |brwD kvs =>
     simp only [eG,Option.some.injEq]at e
     subst e
     obtain⟨a,rfl,ha⟩:=so
     exact⟨a,rfl,ae.rd (st.keep.trans s1) ha⟩
theorem pH{k':Sk}{ms:List ME}{js:List Nat}{cond elt:ME}{e it:Expr}{x:Str}{px:Pos}{ifs:List Expr}{scope:Scope}{pos:Pos}(g:Gf X T k cal)(hsc:eI X.env.scope X.N scope x (b9 X.N js) js=true)
  (hw:PI X (.Name x px) it (tW X.K cal k' ms)) (hns:fA it=true)
  (hc:∀s₁ H₁ C fp,PF (X.blk x (b9 X.N js) scope s₁ H₁ C fp) ifs (tT X.K cal cond)) (he:∀s₁ H₁ C fp,PE (X.blk x (b9 X.N js) scope s₁ H₁ C fp) e (tE X.K cal elt)) (hb:aH elt=false) :
  PE X (.ListComp e [⟨.Name x px,it,ifs,0⟩] scope pos) (tF X.K cal (.comp k' ms js cond elt)):=by
 refine(wD (mj hsc) g.calm hw hc he (by intro v;cases it<;>first|rfl|(simp [fA]at hns))).imp λσ H Q q=>?_
 exact comp_go hb q
where
 comp_go {k':Sk}{ms:List ME}{js:List Nat}{cond elt:ME}{K:PySem.W.Frag}{σ:St}{H:Hp}{Q:VK} (hb:aH elt=false) (q:tF K cal (.comp k' ms js cond elt) σ H Q):tK (tW K cal k' ms) js (tT K cal cond) (tE K cal elt) σ H Q:=by
  obtain⟨B,O₀,O,ρ,ws,st,e1,q⟩:=q
  rw [ev]at e1
  simp only [Option.bind_eq_some_iff]at e1
  obtain⟨vs,e1,xs,e2,e3⟩:=e1
  split at e3
  ·rename_i hlen
   simp only [Option.map_eq_some_iff,PV.lst.injEq,exists_eq_right]at e3
   refine⟨B,O₀,O,ρ,vs,xs,st,e1,e2,λJ H1 s1 it D hD=>?_⟩
   have hDO:D∉O:=λz=>bM s1 st.here D z hD
   have it1:=it.weak (oH (st.keep.trans s1))
   refine⟨λi m σ' H'=>m=xs.length-i/\i<=xs.length/\ae H1 H'/\(∀z,σ'.set 0 z=(gI js σ).set 0 z)/\0<σ'.length/\∃done cx ys,eP (λx=>(ev cal cond (c8 js ρ x)).bind aL) (λx=>ev cal elt (c8 js ρ x)) (xs.drop i)=some cx/\ws=done++cx/\done.length<=i/\H' D=some (.lst ys)/\Reps K (ai H' (D::O)) done ys,⟨xs.length,by simp,Nat.zero_le _,am hD _,λ_=>rfl,by simp [gI],[],ws,[],by simpa using e3,rfl,Nat.le_refl _,au,.nil⟩,?_⟩
   rintro i m σ' H' ⟨rfl,hi,s2,hσ,hl,done,cx,ys,eg,ew,hdl,hDy,rs⟩
   by_cases hlt:i<xs.length
   ·right
    have ex:xs[i]?=some xs[i]:=List.getElem?_eq_getElem hlt
    refine⟨it1.go i _ H' s2 ex,λσ2 H2=>∃m',m'<xs.length-i/\(m'=xs.length-(i+1)/\i+1<=xs.length/\ae H1 H2/\(∀z,σ2.set 0 z=(gI js σ).set 0 z)/\0<σ2.length/\∃done cx ys,eP (λx=>(ev cal cond (c8 js ρ x)).bind aL) (λx=>ev cal elt (c8 js ρ x)) (xs.drop (i+1))=some cx/\ws=done++cx/\done.length<=i+1/\H2 D=some (.lst ys)/\Reps K (ai H2 (D::O)) done ys),λσ2 H2 z=>z,λux H2 y=>?_⟩
    obtain⟨s3,hr⟩:=it1.yld i _ H' ux H2 s2 ex y
    have sv:ae (ai H1 O) (ai H2 (D::O)):=aQ (s2.trans s3) λb hb=>by
     rcases List.mem_cons.mp hb with rfl|hb
     ·exact .inr hD
     ·exact .inl hb
    have hx:=hr (D::O) (λa ha=>by
     rcases List.mem_cons.mp ha with rfl|ha
     ·rw [hDy];simp
     ·exact λz=>bM s1 st.here a ha (s2.free z)) sv
    have hD2:H2 D=some (.lst ys):=s3 _ _ hDy
    have stb:=zq (js:=js) (ρ:=ρ) st s1 (s2.trans s3) hD (by rw [hD2];simp) hσ hl hx
    rw [List.drop_eq_getElem_cons hlt,eP]at eg
    simp only [Option.bind_eq_some_iff]at eg
    obtain⟨b,eb,eg⟩:=eg
    refine⟨H1,[],D::O,_,b,stb,by simpa [evB,Option.bind_eq_some_iff] using eb,λH3 s4=>?_⟩
    have hσ2:∀z,(σ'.set 0 (some ux)).set 0 z=(gI js σ).set 0 z:=λz=>by rw [List.set_set];exact hσ z
    have hl2:0<(σ'.set 0 (some ux)).length:=by rw [List.length_set];exact hl
    cases b with
    |false =>
     rw [if_neg (by simp)]at eg
     dsimp only
     rw [if_neg (by simp)]
     refine⟨_,by omega,rfl,hlt,(s2.trans s3).trans s4,hσ2,hl2,done,cx,ys,eg,ew,by omega,s4 _ _ hD2,Reps.mono ?_ _ rs⟩
     exact(ay s3).trans (ay s4)
    | true =>
     rw [if_pos rfl]at eg
     dsimp only
     rw [if_pos rfl]
     simp only [Option.bind_eq_some_iff,Option.map_eq_some_iff]at eg
     obtain⟨y',ey,rest',eg,rfl⟩:=eg
     refine⟨H1,[],D::O,_,y',stb.mono s4,ey,λuy H4 s5 gy=>?_⟩
     have hD4:H4 D=some (.lst ys):=s5 _ _ (s4 _ _ hD2)
     have ry:=gy.2 hb
     have rs4:Reps K (ai H4 (D::O)) done ys:=Reps.mono (((ay s3).trans (ay s4)).trans (ay s5)) _ rs
     have hyl:ys.length<=10000:=by rw [<- rs.length];omega
     refine⟨ys,hD4,Nat.lt_of_le_of_lt hyl (by decide),_,by omega,rfl,hlt,?_,hσ2,hl2,done ++ [y'],rest',ys ++ [uy],eg,by simp [ew],by simp;omega,au,?_⟩
     ·intro b u eb
      rw [aB (bD eb hD)]
      exact s5 _ _ (s4 _ _ ((s2.trans s3) _ _ eb))
     ·rw [fj (List.mem_cons_self)]
      exact rs4.snoc ry
   ·left
    have ei:i=xs.length:=by omega
    subst ei
    rw [List.drop_length,eP]at eg
    cases eg
    rw [List.append_nil]at ew
    subst ew
    exact⟨it1.stop H' s2,q D ys H' (s1.trans s2) (s1.free hD) hDy rs⟩
  ·cases e3
end
end MM
namespace MM
open PySem PySem.Spec PyProof.Rows L2
section
variable{X:Cx}{T:Tab}{k:Nat}{cal:Cal}
theorem aO{e:Expr}(he:ag e=true)(es:List Expr)(env:Env):starEach (e::es) env=(false,eval e env)::starEach es env:=by
 cases e<;>first|rfl|(simp [ag]at he)
theorem cM{pos:Pos}{env:Env}:∀{es:List Expr},es.all ag=true->(backTo pos (starEach es env)).any (·.1)=false
 | [],_=>rfl
 |e::es,h=>by
  simp only [List.all_cons,Bool.and_eq_true]at h
  rw [aO h.1]
  show(false || (backTo pos (starEach es env)).any (·.1))=false
  rw [cM h.2];rfl
theorem bN:∀{ms:List ME}{N:List Str}{sc:Scope}{es:List Expr},chks T ms N sc es=true->es.all ag=true/\ms.length=es.length
 | [],_,_,[],_=>⟨rfl,rfl⟩
 | [],_,_,_::_,h=>by simp [chks]at h
 | _::_,_,_,[],h=>by simp [chks]at h
 |m::ms,N,sc,e::es,h=>by
  simp only [chks,Bool.and_eq_true]at h
  obtain⟨h1,h2⟩:=bN h.2
  exact⟨by simp [h.1.2,h1],by simp [h2]⟩
theorem bj{e:Expr}{me:ME}(h:PE X e (tE X.K cal me))(hp:i6 e=true):PT X e (tT X.K cal me):=by
 refine(ye h (by intro w;cases e<;>first|rfl|(simp [i6]at hp;done)|(rename_i op _ _;cases op<;>first|rfl|(simp [i6]at hp)))).imp λσ H Q q=>?_
 obtain⟨B,O₀,O,ρ,b,st,e1,q⟩:=q
 simp only [evB,Option.bind_eq_some_iff]at e1
 obtain⟨v,e1,e2⟩:=e1
 refine⟨B,O₀,O,ρ,v,st,e1,λu H' s g=>?_⟩
 cases v<;>simp [aL]at e2
 subst e2
 exact⟨_,g.1.bl,q H' s⟩
theorem ur{m:ME}{ms:List ME}{e:Expr}{es:List Expr}(h:PE X e (tE X.K cal m))(hs:PA X es (tEs X.K cal ms))(hn:ag e=true):PA X (e::es) (tEs X.K cal (m::ms)):=by
 refine(aK h hs (aO hn es _)).imp λσ H Q q=>?_
 obtain⟨B,O₀,O,ρ,vs,st,e1,q⟩:=q
 simp only [evs,Option.bind_eq_some_iff,Option.map_eq_some_iff]at e1
 obtain⟨v,e1,ws,e2,rfl⟩:=e1
 refine⟨B,O₀,O,ρ,v,st,e1,λu H1 s1 g1=>⟨B,O₀,O,ρ,ws,st.mono s1,e2,λus H2 s2 g2=>q (u::us) H2 (s1.trans s2) ⟨.cons (g1.1.mono s2) g2.1,λhb=>?_⟩⟩⟩
 simp only [List.all_cons,Bool.and_eq_true,Bool.not_eq_true']at hb
 exact .cons ((g1.mono s2).2 hb.1) (g2.2 hb.2)
theorem xa:PA X [] (tEs X.K cal []):=by
 refine br.imp λσ H Q q=>?_
 obtain⟨B,O₀,O,ρ,vs,st,e1,q⟩:=q
 simp only [evs,Option.some.injEq]at e1
 subst e1
 exact q [] H (ae.refl H) ⟨.nil,λ_=>.nil⟩
theorem ut:PA X [] (tAs X.K cal []):=by
 refine br.imp λσ H Q q=>?_
 obtain⟨B,O₀,O,ρ,vs,st,e1,q⟩:=q
 simp only [evA,Option.some.injEq]at e1
 subst e1
 exact q [] H (ae.refl H) .nil
theorem uu{K:PySem.W.Frag}{H H':Hp}{O:List Addr}(s:ae H H'){m:MV}{u:V}(h:jl K O H m u):jl K O H' m u:=by
 cases m with
 |val v=>exact Rep.mono (ay s) _ h
 |own _=>exact h
 |brw xs=>obtain⟨a,us,e,q,r⟩:=h;exact⟨a,us,e,s.seq q,Reps.mono (ay s) _ r⟩
 |ownD _=>exact h
 |ownL _=>exact h
 |brwD kvs=>obtain⟨a,e,q⟩:=h;exact⟨a,e,ae.rd s q⟩
theorem rW{m:ME}{ms:List ME}{e:Expr}{es:List Expr}(hb:aH m=false)(h:PE X e (tE X.K cal m))(hs:PA X es (tAs X.K cal ms))(hn:ag e=true):PA X (e::es) (tAs X.K cal (m::ms)):=by
 refine(aK h hs (aO hn es _)).imp λσ H Q q=>?_
 obtain⟨B,O₀,O,ρ,vs,st,e1,q⟩:=q
 have e1':(ev cal m ρ).bind (λv=>(evA cal ms ρ).map (MV.val v::·))=some vs:=by
  rw [<- e1]
  cases m<;>first|(cases hb;done)|(simp only [evA];done)|rfl
 simp only [Option.bind_eq_some_iff,Option.map_eq_some_iff]at e1'
 obtain⟨v,e9,ws,e2,rfl⟩:=e1'
 exact⟨B,O₀,O,ρ,v,st,e9,λu H1 s1 g1=>⟨B,O₀,O,ρ,ws,st.mono s1,e2,λus H2 s2 g2=>q (u::us) H2 (s1.trans s2) (.cons ((g1.mono s2).2 hb) g2)⟩⟩
theorem uv{i:Nat}{ms:List ME}{x:Str}{pos:Pos}{es:List Expr}(h:ax X.N X.env.scope i x=true)(hs:PA X es (tAs X.K cal ms)):PA X (.Name x pos::es) (tAs X.K cal (.bor i::ms)):=by
 refine(aK (bp h) hs rfl).imp λσ H Q q=>?_
 obtain⟨B,O₀,O,ρ,vs,st,e1,q⟩:=q
 rw [evA]at e1
 simp only [Option.bind_eq_some_iff,Option.map_eq_some_iff]at e1
 obtain⟨m',e1,ws,e2,rfl⟩:=e1
 cases hj:(ρ[i]?).join with
 |none=>rw [hj]at e1;cases e1
 | some m =>
  rw [hj]at e1
  obtain⟨u,eu,so⟩:=be st hj
  have ao:jl X.K O H m' u:=by
   cases m with
   |val w=>simp only [fN,Option.some.injEq]at e1;subst e1;exact so
   |own ys=>simp only [fN,Option.some.injEq]at e1;subst e1;obtain⟨a,us,rfl,ha,rs,_⟩:=so;exact⟨a,us,rfl,SqL.of ha,rs⟩
   |brw ys=>simp only [fN,Option.some.injEq]at e1;subst e1;obtain⟨a,us,rfl,sq,rs⟩:=so;exact⟨a,us,rfl,st.keep.seq sq,rs⟩
   |ownD kvs=>simp only [fN,Option.some.injEq]at e1;subst e1;obtain⟨a,rfl,ha,_⟩:=so;exact⟨a,rfl,.inl ha⟩
   |ownL _=>simp [fN]at e1
   |brwD kvs=>simp only [fN,Option.some.injEq]at e1;subst e1;obtain⟨a,rfl,ha⟩:=so;exact⟨a,rfl,ae.rd st.keep ha⟩
  exact⟨u,eu,⟨B,O₀,O,ρ,ws,st,e2,λus H2 s2 g2=>q (u::us) H2 s2 (.cons (uu s2 ao) g2)⟩⟩
theorem Bv{op:Op2}{a b:ME}{l r:Expr}{pos:Pos}(ha:PE X l (tE X.K cal a))(hb:PE X r (tE X.K cal b)):PE X (.BinOp l (wO op) r pos) (tE X.K cal (.bin op a b)):=by
 refine(xK (zh op) ha hb).imp λσ H Q q=>?_
 obtain⟨B,O₀,O,ρ,v,st,e1,q⟩:=q
 rw [ev]at e1
 simp only [Option.bind_eq_some_iff]at e1
 obtain⟨x,e1,y,e2,e3⟩:=e1
 exact⟨B,O₀,O,ρ,x,st,e1,λux H1 s1 g1=>⟨B,O₀,O,ρ,y,st.mono s1,e2,λuy H2 s2 g2=>⟨O,x,y,v,bM (s1.trans s2) st.here,g1.1.mono s2,g2.1,e3,λu H3 s3 r=>q u H3 ((s1.trans s2).trans s3) (.of r)⟩⟩⟩
theorem Bw{a:ME}{e:Expr}{pos:Pos}(ha:PE X e (tE X.K cal a)):PE X (.UnaryOp .Not e pos) (tE X.K cal (.not a)):=by
 refine(yj ha).imp λσ H Q q=>?_
 obtain⟨B,O₀,O,ρ,v,st,e1,q⟩:=q
 rw [ev]at e1
 simp only [Option.bind_eq_some_iff,Option.map_eq_some_iff]at e1
 obtain⟨b,⟨x,e1,e2⟩,rfl⟩:=e1
 cases x<;>simp only [aL,Option.some.injEq,reduceCtorEq]at e2
 subst e2
 exact⟨B,O₀,O,ρ,_,st,e1,λux H1 s1 g1=>⟨_,g1.1.bl,q _ H1 s1 (.of (dC _ _))⟩⟩
theorem Bx{a:ME}{e:Expr}{pos:Pos}(ha:PT X e (tT X.K cal a)):PT X (.UnaryOp .Not e pos) (tT X.K cal (.not a)):=by
 refine(yh ha).imp λσ H Q q=>?_
 obtain⟨B,O₀,O,ρ,b,st,e1,q⟩:=q
 simp only [evB,ev,Option.bind_eq_some_iff,Option.map_eq_some_iff]at e1
 obtain⟨v,⟨c,⟨x,e1,e2⟩,rfl⟩,e3⟩:=e1
 simp only [aL,Option.some.injEq]at e3
 subst e3
 exact⟨B,O₀,O,ρ,c,st,by simp [evB,e1,e2],λH' s=>q H' s⟩
theorem xX{a b:ME}{x y:Expr}{r:List Expr}{pos:Pos}(ha:PE X x (tE X.K cal a))(hb:PE X (.BoolOp .And (y::r) pos) (tE X.K cal b)):PE X (.BoolOp .And (x::y::r) pos) (tE X.K cal (.and a b)):=by
 refine(yi ha hb).imp λσ H Q q=>?_
 obtain⟨B,O₀,O,ρ,v,st,e1,q⟩:=q
 rw [ev]at e1
 simp only [Option.bind_eq_some_iff]at e1
 obtain⟨c,⟨z,e1,e2⟩,e3⟩:=e1
 cases z<;>simp only [aL,Option.some.injEq,reduceCtorEq]at e2
 subst e2
 refine⟨B,O₀,O,ρ,_,st,e1,λux H1 s1 g1=>⟨_,g1.1.bl,?_⟩⟩
 split at e3
 ·rename_i h
  rw [if_pos h]
  simp only [Option.bind_eq_some_iff,Option.map_eq_some_iff]at e3
  obtain⟨z',e3,c',e4,rfl⟩:=e3
  cases z'<;>simp only [aL,Option.some.injEq,reduceCtorEq]at e4
  subst e4
  exact⟨B,O₀,O,ρ,_,st.mono s1,e3,λu H2 s2 g2=>q u H2 (s1.trans s2) (by rw [g2.1.bl];exact .of (dC _ _))⟩
 ·rename_i h
  rw [if_neg h]
  cases e3
  exact q _ H1 s1 (.of (dC _ _))
theorem By{a b:ME}{x y:Expr}{r:List Expr}{pos:Pos}(ha:PE X x (tE X.K cal a))(hb:PE X (.BoolOp .Or (y::r) pos) (tE X.K cal b)):PE X (.BoolOp .Or (x::y::r) pos) (tE X.K cal (.or a b)):=by
 refine(AL ha hb).imp λσ H Q q=>?_
 obtain⟨B,O₀,O,ρ,v,st,e1,q⟩:=q
 rw [ev]at e1
 simp only [Option.bind_eq_some_iff]at e1
 obtain⟨c,⟨z,e1,e2⟩,e3⟩:=e1
 cases z<;>simp only [aL,Option.some.injEq,reduceCtorEq]at e2
 subst e2
 refine⟨B,O₀,O,ρ,_,st,e1,λux H1 s1 g1=>⟨_,g1.1.bl,?_⟩⟩
 split at e3
 ·rename_i h
  rw [if_pos h]
  cases e3
  exact q _ H1 s1 (.of (dC _ _))
 ·rename_i h
  rw [if_neg h]
  simp only [Option.bind_eq_some_iff,Option.map_eq_some_iff]at e3
  obtain⟨z',e3,c',e4,rfl⟩:=e3
  cases z'<;>simp only [aL,Option.some.injEq,reduceCtorEq]at e4
  subst e4
  exact⟨B,O₀,O,ρ,_,st.mono s1,e3,λu H2 s2 g2=>q u H2 (s1.trans s2) (by rw [g2.1.bl];exact .of (dC _ _))⟩
theorem xY{op:BoolOp}{vs:List Expr}{pos:Pos}{t:TT}(h:PT X (.BoolOp op vs pos) t):PW X (.BoolOp op vs pos) t:=λw pins s σ H Q I q=>by
 have:=h pins s σ H Q I q
 rw [show PySem.isTrue (.BoolOp op vs pos) X.env w=PySem.isTrue (.BoolOp op vs pos) X.env (eval (.BoolOp op vs pos) X.env) from rfl]
 exact this
theorem xZ{a b:ME}{x y:Expr}{r:List Expr}{pos:Pos}(ha:PT X x (tT X.K cal a))(hb:PW X (.BoolOp .And (y::r) pos) (tT X.K cal b)):PT X (.BoolOp .And (x::y::r) pos) (tT X.K cal (.and a b)):=by
 refine(yg ha hb).pt.imp λσ H Q q=>?_
 obtain⟨B,O₀,O,ρ,v,st,e1,q⟩:=q
 simp only [evB,ev,Option.bind_eq_some_iff]at e1
 obtain⟨w,⟨c,⟨z,e1,e2⟩,e3⟩,e4⟩:=e1
 refine⟨B,O₀,O,ρ,c,st,by simp [evB,e1,e2],λH1 s1=>?_⟩
 split at e3
 ·rename_i h
  rw [if_pos h]
  simp only [Option.bind_eq_some_iff,Option.map_eq_some_iff]at e3
  obtain⟨z',e3,c',e5,rfl⟩:=e3
  simp only [aL,Option.some.injEq]at e4
  subst e4
  exact⟨B,O₀,O,ρ,_,st.mono s1,by simp [evB,e3,e5],λH2 s2=>q H2 (s1.trans s2)⟩
 ·rename_i h
  rw [if_neg h]
  cases e3
  cases e4
  exact q H1 s1
theorem Bz{a b:ME}{x y:Expr}{r:List Expr}{pos:Pos}(ha:PT X x (tT X.K cal a))(hb:PW X (.BoolOp .Or (y::r) pos) (tT X.K cal b)):PT X (.BoolOp .Or (x::y::r) pos) (tT X.K cal (.or a b)):=by
 refine(AI ha hb).pt.imp λσ H Q q=>?_
 obtain⟨B,O₀,O,ρ,v,st,e1,q⟩:=q
 simp only [evB,ev,Option.bind_eq_some_iff]at e1
 obtain⟨w,⟨c,⟨z,e1,e2⟩,e3⟩,e4⟩:=e1
 refine⟨B,O₀,O,ρ,c,st,by simp [evB,e1,e2],λH1 s1=>?_⟩
 split at e3
 ·rename_i h
  rw [if_pos h]
  cases e3
  cases e4
  exact q H1 s1
 ·rename_i h
  rw [if_neg h]
  simp only [Option.bind_eq_some_iff,Option.map_eq_some_iff]at e3
  obtain⟨z',e3,c',e5,rfl⟩:=e3
  simp only [aL,Option.some.injEq]at e4
  subst e4
  exact⟨B,O₀,O,ρ,_,st.mono s1,by simp [evB,e3,e5],λH2 s2=>q H2 (s1.trans s2)⟩
theorem BA{c a b:ME}{t x y:Expr}{pos:Pos}(hc:PT X t (tT X.K cal c))(ha:PE X x (tE X.K cal a))(hb:PE X y (tE X.K cal b))(na:aH a=false)(nb:aH b=false):PE X (.IfExp t x y pos) (tE X.K cal (.ite c a b)):=by
 refine(sF hc ha hb).imp λσ H Q q=>?_
 obtain⟨B,O₀,O,ρ,v,st,e1,q⟩:=q
 rw [ev]at e1
 simp only [Option.bind_eq_some_iff]at e1
 obtain⟨k',e1,e3⟩:=e1
 refine⟨B,O₀,O,ρ,k',st,by simpa [evB,Option.bind_eq_some_iff] using e1,λH1 s1=>?_⟩
 split at e3
 ·rename_i h
  rw [if_pos h]
  exact⟨B,O₀,O,ρ,v,st.mono s1,e3,λu H2 s2 g2=>q u H2 (s1.trans s2) (.of (g2.2 na))⟩
 ·rename_i h
  rw [if_neg h]
  exact⟨B,O₀,O,ρ,v,st.mono s1,e3,λu H2 s2 g2=>q u H2 (s1.trans s2) (.of (g2.2 nb))⟩
theorem BB{c a b:ME}{t x y:Expr}{pos:Pos}(hc:PT X t (tT X.K cal c))(ha:PT X x (tT X.K cal a))(hb:PT X y (tT X.K cal b)):PT X (.IfExp t x y pos) (tT X.K cal (.ite c a b)):=by
 intro pins s σ H Q I q
 obtain⟨B,O₀,O,ρ,v,st,e1,q⟩:=q
 simp only [evB,ev,Option.bind_eq_some_iff]at e1
 obtain⟨w,⟨k',e1,e3⟩,e4⟩:=e1
 refine isTrue_IfExp (thn (hc pins s σ H (λb H1=>b=k'/\ae H H1) I ⟨B,O₀,O,ρ,k',st,by simpa [evB,Option.bind_eq_some_iff] using e1,λH1 s1=>⟨rfl,s1⟩⟩) λb s1 ⟨H1,I1,eb,hs⟩=>?_)
 subst eb
 split at e3
 ·rename_i h
  subst h
  exact ha pins s1 σ H1 Q I1 ⟨B,O₀,O,ρ,v,st.mono hs,by simp [evB,e3,e4],λH2 s2=>q H2 (hs.trans s2)⟩
 ·rename_i h
  have:b=false:=by cases b<;>simp at h ⊢
  subst this
  exact hb pins s1 σ H1 Q I1 ⟨B,O₀,O,ρ,v,st.mono hs,by simp [evB,e3,e4],λH2 s2=>q H2 (hs.trans s2)⟩
theorem BC{op:Cp}{a b:ME}{l r:Expr}{pos:Pos}(g:Gf X T k cal)(ha:PE X l (tE X.K cal a))(hb:PE X r (tE X.K cal b))(hm:behindInMarks (rO op) r=false):PE X (.Compare l [rO op] [r] pos) (tE X.K cal (.cmp op a b))/\PT X (.Compare l [rO op] [r] pos) (tT X.K cal (.cmp op a b)):=by
 refine⟨(wd (ui g.units op) ha hb hm).imp λσ H Q q=>?_,(we (ui g.units op) ha hb hm).imp λσ H Q q=>?_⟩
 ·obtain⟨B,O₀,O,ρ,v,st,e1,q⟩:=q
  rw [ev]at e1
  simp only [Option.bind_eq_some_iff,Option.map_eq_some_iff]at e1
  obtain⟨x,e1,y,e2,c,e3,rfl⟩:=e1
  exact⟨B,O₀,O,ρ,x,st,e1,λux H1 s1 g1=>⟨B,O₀,O,ρ,y,st.mono s1,e2,λuy H2 s2 g2=>⟨O,x,y,c,g1.1.mono s2,g2.1,e3,q _ H2 (s1.trans s2) (.of (dC _ _))⟩⟩⟩
 ·obtain⟨B,O₀,O,ρ,v,st,e1,q⟩:=q
  simp only [evB,ev,Option.bind_eq_some_iff,Option.map_eq_some_iff]at e1
  obtain⟨w,⟨x,e1,y,e2,c,e3,rfl⟩,e4⟩:=e1
  simp only [aL,Option.some.injEq]at e4
  subst e4
  exact⟨B,O₀,O,ρ,x,st,e1,λux H1 s1 g1=>⟨B,O₀,O,ρ,y,st.mono s1,e2,λuy H2 s2 g2=>⟨O,x,y,c,g1.1.mono s2,g2.1,e3,_,rfl,q H2 (s1.trans s2)⟩⟩⟩
theorem BD{ms:List ME}{es:List Expr}{j:Nat}{pos:Pos}(h:PA X es (tEs X.K cal ms))(hb:(ms.all λm=>!aH m)=true):PE X (.Tuple es j pos) (tE X.K cal (.tup ms)):=by
 refine(yB h).imp λσ H Q q=>?_
 obtain⟨B,O₀,O,ρ,v,st,e1,q⟩:=q
 rw [ev]at e1
 simp only [Option.bind_eq_some_iff]at e1
 obtain⟨vs,e1,e2⟩:=e1
 split at e2
 ·rename_i hl
  cases e2
  refine⟨B,O₀,O,ρ,vs,st,e1,λus H1 s1 g1=>⟨?_,λp hp=>?_⟩⟩
  ·rw [<- (g1.2 hb).length];exact dW hl
  ·exact q _ _ (s1.trans (am hp _)) (.of (iC (bM s1 st.here) hp (g1.2 hb)))
 ·cases e2
theorem x0{ms:List ME}{es:List Expr}{pos:Pos}(h:PA X es (tEs X.K cal ms))(hb:(ms.all λm=>!aH m)=true):PE X (.List es pos) (tF X.K cal (.lst ms)):=by
 refine(ph h).imp λσ H Q q=>?_
 obtain⟨B,O₀,O,ρ,xs,st,e1,q⟩:=q
 rw [ev]at e1
 simp only [Option.bind_eq_some_iff]at e1
 obtain⟨vs,e1,e2⟩:=e1
 split at e2
 ·rename_i hl
  cases e2
  refine⟨B,O₀,O,ρ,xs,st,e1,λus H1 s1 g1=>⟨?_,λp hp=>?_⟩⟩
  ·rw [<- (g1.2 hb).length];exact dW hl
  ·refine q p us _ (s1.trans (am hp _)) (s1.free hp) au ?_
   rw [fj (List.mem_cons_self)]
   refine Reps.mono (aQ (ae.refl H1) λb hb=>?_) _ (g1.2 hb)
   rcases List.mem_cons.mp hb with rfl|hb
   ·exact .inr hp
   ·exact .inl hb
 ·cases e2
theorem BE{a i:ME}{v s:Expr}{pos:Pos}(ha:PE X v (tE X.K cal a))(hi:PE X s (tE X.K cal i))(hs:aG s=true):PE X (.Subscript v s pos) (tE X.K cal (.idx a i)):=by
 refine(qa zj ha hi (fC hs)).imp λσ H Q q=>?_
 obtain⟨B,O₀,O,ρ,v,st,e1,q⟩:=q
 rw [ev]at e1
 simp only [Option.bind_eq_some_iff]at e1
 obtain⟨x,e1,y,e2,e3⟩:=e1
 exact⟨B,O₀,O,ρ,x,st,e1,λux H1 s1 g1=>⟨B,O₀,O,ρ,y,st.mono s1,e2,λuy H2 s2 g2=>⟨O,x,y,v,bM (s1.trans s2) st.here,g1.1.mono s2,g2.1,e3,λu H3 s3 r=>q u H3 ((s1.trans s2).trans s3) (.of r)⟩⟩⟩
noncomputable def tB1(K:PySem.W.Frag)(cal:Cal)(me:ME):TO:=λσ H Q=>∃B O₀ O ρ o,aC K B O₀ O H ρ σ/\((ev cal me ρ).bind λv=>bnd me v)=some o/\∀H',ae H H'->Q o H'
theorem uA{m:ME}(h:eT m=true):PO X none (tB1 X.K cal m):=by
 have e:m=.cst .non:=by
  unfold eT at h
  split at h
  ·rfl
  ·cases h
 subst e
 intro pins s σ H Q I q
 obtain⟨B,O₀,O,ρ,o,st,e1,q⟩:=q
 simp only [ev,Option.bind_some,bnd,Option.some.injEq]at e1
 subst e1
 exact wj pins s σ H Q I (q H (ae.refl H))
theorem uB{m:ME}{l:Expr}(h:PE X l (tE X.K cal m))(hn:eT m=false):PO X (some l) (tB1 X.K cal m):=by
 intro pins s σ H Q I q
 obtain⟨B,O₀,O,ρ,o,st,e1,q⟩:=q
 simp only [Option.bind_eq_some_iff]at e1
 obtain⟨v,e1,e2⟩:=e1
 obtain⟨i,rfl,rfl⟩:∃i,v=.int i/\o=some i:=by
  unfold bnd at e2
  split at e2
  ·simp [eT]at hn
  ·cases e2;exact⟨_,rfl,rfl⟩
  ·cases e2
 exact wk h pins s σ H Q I ⟨B,O₀,O,ρ,_,st,e1,λu H' s' g=>⟨i,g.1.int,q H' s'⟩⟩
theorem xb{a lo hi:ME}{v:Expr}{l u:Option Expr}{p2 pos:Pos}(ha:PE X v (tE X.K cal a))(hl:PO X l (tB1 X.K cal lo))(hu:PO X u (tB1 X.K cal hi)):PE X (.Subscript v (.Slice l u none p2) pos) (tE X.K cal (.slice a lo hi)):=by
 refine(sR zk ha hl hu).imp λσ H Q q=>?_
 obtain⟨B,O₀,O,ρ,w,st,e1,q⟩:=q
 rw [ev,Option.bind_eq_some_iff]at e1
 obtain⟨x,e1,e2⟩:=e1
 rw [Option.bind_eq_some_iff]at e2
 obtain⟨lo',e2,e3⟩:=e2
 rw [Option.bind_eq_some_iff]at e3
 obtain⟨hi',e3,e4⟩:=e3
 exact⟨B,O₀,O,ρ,x,st,e1,λux H1 s1 g1=>⟨B,O₀,O,ρ,lo',st.mono s1,e2,λH2 s2=>⟨B,O₀,O,ρ,hi',(st.mono s1).mono s2,e3,λH3 s3 =>
  ⟨O,x,w,bM ((s1.trans s2).trans s3) st.here,g1.1.mono (s2.trans s3),e4,λu H4 s4 r=>q u H4 (((s1.trans s2).trans s3).trans s4) (.of r)⟩⟩⟩⟩
theorem oK {f:Blt}{ms:List ME}{x:Str}{e:Expr}{es:List Expr}{p pos:Pos}{id:String} (hc:bR X (.builtin id) (RBM X.K (av f))) (hg:glB X.env.scope x=true) (hm:X.mg x=none) (hv:bootBuiltins x=some (.builtin id)) (hn:x ≠ "__name__") (hd:(x == ("__debug__":Str))=false)
  (ha:PA X (e::es) (tEs X.K cal ms)) (hs:(e::es).all ag=true):PE X (.Call (.Name x p) (e::es) [] pos) (tE X.K cal (.blt f ms)):=by
 simp only [List.all_cons,Bool.and_eq_true]at hs
 refine(dz hc (dD hg) hm hv ha hn hd (aO hs.1 es _) (cM hs.2)).imp λσ H Q q=>?_
 obtain⟨B,O₀,O,ρ,v,st,e1,q⟩:=q
 rw [ev,Option.bind_eq_some_iff]at e1
 obtain⟨vs,e1,e2⟩:=e1
 exact⟨B,O₀,O,ρ,vs,st,e1,λus H1 s1 g1=>⟨O,vs,v,bM s1 st.here,g1.1,e2,λu H2 s2 r=>q u H2 (s1.trans s2) (.of r)⟩⟩
theorem zr {f:Blt}{ms:List ME}{x:Str}{e:Expr}{es:List Expr}{p pos:Pos}{id:String} (hc:bR X (.type id) (RBM X.K (av f))) (hg:glB X.env.scope x=true) (hm:X.mg x=none) (hv:bootBuiltins x=some (.type id)) (hn:x ≠ "__name__") (hd:(x == ("__debug__":Str))=false)
  (ha:PA X (e::es) (tEs X.K cal ms)) (hs:(e::es).all ag=true):PE X (.Call (.Name x p) (e::es) [] pos) (tE X.K cal (.blt f ms)):=by
 simp only [List.all_cons,Bool.and_eq_true]at hs
 refine(c_ hc (dD hg) hm hv ha hn hd (aO hs.1 es _) (cM hs.2)).imp λσ H Q q=>?_
 obtain⟨B,O₀,O,ρ,v,st,e1,q⟩:=q
 rw [ev,Option.bind_eq_some_iff]at e1
 obtain⟨vs,e1,e2⟩:=e1
 exact⟨B,O₀,O,ρ,vs,st,e1,λus H1 s1 g1=>⟨O,vs,v,bM s1 st.here,g1.1,e2,λu H2 s2 r=>q u H2 (s1.trans s2) (.of r)⟩⟩
theorem ml{f:Blt}{ms:List ME}{σ:St}{H:Hp}{Q:VK}{K:PySem.W.Frag}(q:tF K cal (.blt f ms) σ H Q):tCB (RBF K (av f)) (tEs K cal ms) σ H Q:=by
 obtain⟨B,O₀,O,ρ,xs,st,e1,q⟩:=q
 rw [ev,Option.bind_eq_some_iff]at e1
 obtain⟨vs,e1,e2⟩:=e1
 refine⟨B,O₀,O,ρ,vs,st,e1,λus H1 s1 g1=>⟨O,vs,xs,bM s1 st.here,g1.1,e2,λl ws hl r=>q l ws _ (s1.trans (am hl _)) (s1.free hl) au ?_⟩⟩
 rw [fj (List.mem_cons_self)]
 refine Reps.mono (aQ (ae.refl H1) λb hb=>?_) _ r
 rcases List.mem_cons.mp hb with rfl|hb
 ·exact .inr hl
 ·exact .inl hb
theorem zt {f:Blt}{ms:List ME}{x:Str}{e:Expr}{es:List Expr}{p pos:Pos}{id:String} (hc:bR X (.builtin id) (RBF X.K (av f))) (hg:glB X.env.scope x=true) (hm:X.mg x=none) (hv:bootBuiltins x=some (.builtin id)) (hn:x ≠ "__name__") (hd:(x == ("__debug__":Str))=false)
  (ha:PA X (e::es) (tEs X.K cal ms)) (hs:(e::es).all ag=true):PE X (.Call (.Name x p) (e::es) [] pos) (tF X.K cal (.blt f ms)):=by
 simp only [List.all_cons,Bool.and_eq_true]at hs
 exact(dz hc (dD hg) hm hv ha hn hd (aO hs.1 es _) (cM hs.2)).imp λσ H Q q=>ml q
theorem xc {f:Blt}{ms:List ME}{x:Str}{e:Expr}{es:List Expr}{p pos:Pos}{id:String} (hc:bR X (.type id) (RBF X.K (av f))) (hg:glB X.env.scope x=true) (hm:X.mg x=none) (hv:bootBuiltins x=some (.type id)) (hn:x ≠ "__name__") (hd:(x == ("__debug__":Str))=false)
  (ha:PA X (e::es) (tEs X.K cal ms)) (hs:(e::es).all ag=true):PE X (.Call (.Name x p) (e::es) [] pos) (tF X.K cal (.blt f ms)):=by
 simp only [List.all_cons,Bool.and_eq_true]at hs
 exact(c_ hc (dD hg) hm hv ha hn hd (aO hs.1 es _) (cM hs.2)).imp λσ H Q q=>ml q
theorem zu{f:Nat}{ms:List ME}{x:Str}{es:List Expr}{p pos:Pos}(g:Gf X T k cal)(hf:T.fs[f]?=some x)(hg:glB X.env.scope x=true)(hn:az x=true)(ha:PA X es (tAs X.K cal ms))(hs:es.all ag=true)(hl:ms.length=es.length):PE X (.Call (.Name x p) es [] pos) (tE X.K cal (.call f ms)):=by
 obtain⟨fa,fd,ps,h1,h2,h3,F,_⟩:=g.fns f x hf
 have key:∀σ H Q,tE X.K cal (.call f ms) σ H Q->p6 (spM X.K cal f) [] E0 (tAs X.K cal ms) σ H Q:=λσ H Q q=>by
  obtain⟨B,O₀,O,ρ,v,st,e1,q⟩:=q
  rw [ev,Option.bind_eq_some_iff]at e1
  obtain⟨vs,e1,e2⟩:=e1
  refine⟨B,O₀,O,ρ,vs,st,e1,λus H1 s1 g1=>⟨O,vs,v,bM s1 st.here,?_,e2,λu H2 s2 r=>q u H2 (s1.trans s2) (.of r)⟩⟩
  rw [List.append_nil]
  exact g1
 cases es with
 | nil =>
  refine(nP F g.room (dD hg) h1 h2 h3 .nil qb (gC hn).1).imp λσ H Q q=>?_
  obtain⟨B,O₀,O,ρ,vs,st,e1,q⟩:=key σ H Q q
  cases ms with
  |nil =>
   simp only [evA,Option.some.injEq]at e1
   subst e1
   exact q [] H (ae.refl H) .nil
  |cons m ms=>simp at hl
 |cons e es =>
  simp only [List.all_cons,Bool.and_eq_true]at hs
  exact(p7 F g.room (dD hg) h1 h2 h3 .nil qb ha (gC hn).1 (aO hs.1 es _) (cM hs.2)).imp key
noncomputable def tFc(K:PySem.W.Frag)(cal:Cal)(f:Nat)(ms:List ME):TE:=λσ H Q=>∃B O₀ O ρ xs,aC K B O₀ O H ρ σ/\((evA cal ms ρ).bind λvs=>cal (f+1000) vs)=some (.lst xs) /\
 ∀p us H',ae H H'->H p=none->H' p=some (.lst us)->Reps K (ai H' (p::O)) xs us->Q (.ref p) H'
theorem xg{f:Nat}{ms:List ME}{x:Str}{es:List Expr}{p pos:Pos}(g:Gf X T k cal)(hf:T.fs[f]?=some x)(hg:glB X.env.scope x=true)(hn:az x=true)(ha:PA X es (tAs X.K cal ms))(hs:es.all ag=true)(hl:ms.length=es.length):PE X (.Call (.Name x p) es [] pos) (tFc X.K cal f ms):=by
 obtain⟨fa,fd,ps,h1,h2,h3,F⟩:=g.fnsF f x hf
 have key:∀σ H Q,tFc X.K cal f ms σ H Q->p6 (spF X.K cal f) [] E0 (tAs X.K cal ms) σ H Q:=λσ H Q q=>by
  obtain⟨B,O₀,O,ρ,xs,st,e1,q⟩:=q
  rw [Option.bind_eq_some_iff]at e1
  obtain⟨vs,e1,e2⟩:=e1
  refine⟨B,O₀,O,ρ,vs,st,e1,λus H1 s1 g1=>⟨O,vs,xs,bM s1 st.here,?_,e2,λp ws H2 s2 hp he r=>q p ws H2 (s1.trans s2) (s1.free hp) he r⟩⟩
  rw [List.append_nil]
  exact g1
 cases es with
 | nil =>
  refine(nP F g.room (dD hg) h1 h2 h3 .nil qb (gC hn).1).imp λσ H Q q=>?_
  obtain⟨B,O₀,O,ρ,vs,st,e1,q⟩:=key σ H Q q
  cases ms with
  |nil =>
   simp only [evA,Option.some.injEq]at e1
   subst e1
   exact q [] H (ae.refl H) .nil
  |cons m ms=>simp at hl
 |cons e es =>
  simp only [List.all_cons,Bool.and_eq_true]at hs
  exact(p7 F g.room (dD hg) h1 h2 h3 .nil qb ha (gC hn).1 (aO hs.1 es _) (cM hs.2)).imp key
end
end MM
namespace MM
open PySem PySem.Spec PyProof.Rows L2
section
variable{K:PySem.W.Frag}{H:Hp}{O:List Addr}
theorem uC(kvs:List (Int×Sc))(i:Int):ig (fU kvs) (Sum.inl i:Key)=(bX kvs i).map Sc.v:=by
 unfold ig fU bX
 rw [List.find?_map,Option.map_map,Option.map_map]
 have e:((λkv:Key×V=>decide (kv.1=(Sum.inl i:Key))) ∘ λp:Int×Sc=>((Sum.inl p.1:Key),p.2.v))=λp:Int×Sc=>decide (p.1=i):=by
  funext p
  simp
 rw [e]
 rfl
theorem uD(kvs:List (List Int×Sc))(k:List Int):ig (g5 kvs) (k.map Sum.inl)=(bX kvs k).map Sc.v:=by
 unfold ig g5 bX
 rw [List.find?_map,Option.map_map,Option.map_map]
 have e:((λkv:List Key×V=>decide (kv.1=k.map Sum.inl)) ∘ λp:List Int×Sc=>((p.1.map Sum.inl:List Key),p.2.v))=λp:List Int×Sc=>decide (p.1=k):=by
  funext p
  exact decide_eq_decide.mpr ⟨jI,λe=>congrArg (List.map Sum.inl) e⟩
 rw [e]
 rfl
theorem xh(ns:List Int):(ns.map Sum.inl:List Key).map kV=ns.map V.int:=by
 rw [List.map_map]
 rfl
theorem qF{xs:List PV}{ns:List Int}{u:V}(e:aZ xs=some ns)(r:bm K H O (.tup xs) u):∃b,u=.ref b/\H b=some (.tup ((ns.map Sum.inl:List Key).map kV)):=by
 have e1:=d6 e
 subst e1
 obtain⟨b,us,rfl,h,t⟩:=r.tupH
 have e2:=t.ints
 subst e2
 exact⟨b,rfl,by rw [xh];exact h⟩
theorem np{d:DD}{y:PV}{o:Option Sc}{a:Addr}{u:V}(e:rL (.dI d) y=some o)(ha:Rd H a (fc d))(r:bm K H O y u):jZ H a u (o.map Sc.v):=by
 cases d with
 |k kvs =>
  cases y<;>try (cases e;done)
  rename_i i
  have e1:=r.int
  subst e1
  have e2:bX kvs i=o:=Option.some.inj e
  rw [<- e2,<- uC]
  exact .inl ⟨_,Sum.inl i,ha,rfl,rfl⟩
 |t kvs =>
  cases y<;>try (cases e;done)
  rename_i xs
  have e:(aZ xs).map (bX kvs)=some o:=e
  rw [Option.map_eq_some_iff]at e
  obtain⟨ns,e1,e2⟩:=e
  obtain⟨b,rfl,hb⟩:=qF e1 r
  rw [<- e2,<- uD]
  exact .inr ⟨_,_,b,ha,rfl,hb,rfl⟩
theorem uE(kvs:List (Int×Sc))(k:Int)(s:Sc):gG (fU kvs) (Sum.inl k:Key) s.v=fU (bS kvs k s):=by
 have e1:((fU kvs).any λkv=>decide (kv.1=(Sum.inl k:Key)))=kvs.any λp=>decide (p.1=k):=by
  unfold fU
  rw [List.any_map]
  congr 1
  funext p
  simp
 unfold gG bS
 rw [e1]
 split
 ·unfold fU
  rw [List.map_map,List.map_map]
  refine List.map_congr_left λp _=>?_
  by_cases h:p.1=k<;>simp [h]
 ·unfold fU
  rw [List.map_append]
  rfl
theorem uF(kvs:List (List Int×Sc))(k:List Int)(s:Sc):gG (g5 kvs) (k.map Sum.inl:List Key) s.v=g5 (bS kvs k s):=by
 have ee:∀q:List Int,((q.map Sum.inl:List Key)=k.map Sum.inl) ↔ q=k:=λq=>⟨jI,λe=>by rw [e]⟩
 have e1:((g5 kvs).any λkv=>decide (kv.1=(k.map Sum.inl:List Key)))=kvs.any λp=>decide (p.1=k):=by
  unfold g5
  rw [List.any_map]
  congr 1
  funext p
  exact decide_eq_decide.mpr (ee p.1)
 unfold gG bS
 rw [e1]
 split
 ·unfold g5
  rw [List.map_map,List.map_map]
  refine List.map_congr_left λp _=>?_
  by_cases h:p.1=k
  ·have h2:=(ee p.1).mpr h
   simp [h]
  ·have h2:¬ (p.1.map Sum.inl:List Key)=k.map Sum.inl:=λz=>h ((ee p.1).mp z)
   simp [h,h2]
 ·unfold g5
  rw [List.map_append]
  rfl
theorem xi{d d':DD}{y:PV}{s:Sc}{a:Addr}{u:V}(e:rM d y s=some d')(ha:H a=some (fc d))(r:bm K H O y u):j1 H a u s.v (upd H a (fc d')):=by
 cases d with
 | k kvs =>
  cases y<;>try (cases e;done)
  rename_i i
  have e1:=r.int
  subst e1
  have e2:(if kvs.length<10000 then some (DD.k (bS kvs i s)) else none)=some d':=e
  split at e2
  ·rename_i hl
   cases e2
   show j1 H a (.int i) s.v (upd H a (.dK (fU (bS kvs i s))))
   rw [<- uE]
   exact j1.k (k:=Sum.inl i) ha (by unfold fU;rw [List.length_map,sizeLine_eq];omega)
  ·cases e2
 | t kvs =>
  cases y<;>try (cases e;done)
  rename_i xs
  have e:((aZ xs).bind λk=>if kvs.length<10000 then some (DD.t (bS kvs k s)) else none)=some d':=e
  rw [Option.bind_eq_some_iff]at e
  obtain⟨ns,e1,e2⟩:=e
  obtain⟨b,rfl,hb⟩:=qF e1 r
  split at e2
  ·rename_i hl
   cases e2
   show j1 H a (.ref b) s.v (upd H a (.dT (g5 (bS kvs ns s))))
   rw [<- uF]
   exact j1.t ha hb (by unfold g5;rw [List.length_map,sizeLine_eq];omega)
  ·cases e2
end
section
variable{X:Cx}{pins:List (Addr×Obj)}{σ:St}{H:Hp}{s:Shared}
theorem qG(I:Inv X pins σ H s){a:Addr}{d:DD}(h:Rd H a (fc d)):(a == sysModules)=false/\∃es ep,Dv.Ents s.heap a es ep/\aw ((dSc d).map Sc.v) (es.toList.map (·.val)):=by
 cases d with
 | k kvs =>
  obtain⟨_,hs,vs,r,o,es,ep,ho,hx,hd,_,hp,_⟩:=ii I.hok h
  refine⟨hs,es,ep,⟨o,ho,hx,hd⟩,?_⟩
  have gen:∀(kvs:List (Int×Sc)) (vs:List (Key×Value)) (l:List DictEntry),KV (fU kvs) vs->Pairs (bH X.prog X.w) l vs->aw ((kvs.map (·.2)).map Sc.v) (l.map (·.val)):=by
   intro kvs
   induction kvs with
   |nil =>
    intro vs l r p
    cases r
    cases p
    exact .nil
   | cons q kvs ih =>
    intro vs l r p
    cases r with
    |cons r1 r2 =>
     cases p with
     |cons p1 p2 p3=>exact .cons (by have h:=r1.2;rw [<- p2]at h;exact h) (ih _ _ r2 p3)
  exact gen kvs vs es.toList r hp
 | t kvs =>
  obtain⟨_,hs,xs,r,o,es,ep,ho,hx,hd,hp,_⟩:=ji I.hok h
  refine⟨hs,es,ep,⟨o,ho,hx,hd⟩,?_⟩
  rw [hp,List.map_map]
  have gen:∀(kvs:List (List Int×Sc)) (xs:List (List Key×Addr×Value)),KT H (g5 kvs) xs->aw ((kvs.map (·.2)).map Sc.v) (xs.map (·.2.2)):=by
   intro kvs
   induction kvs with
   |nil =>
    intro xs r
    cases r
    exact .nil
   |cons q kvs ih =>
    intro xs r
    cases r with
    |cons r1 r2=>exact .cons r1.2.2 (ih _ r2)
  exact gen kvs xs r
noncomputable def xj(p a:Addr):HO:=.ext λh=>h.IsValuesView p a
theorem pI{es:Array DictEntry}{acc:Array Value}(h:ItemsOf (λi v=>∃e,es[i]?=some e/\v=e.val) acc es.size):acc.toList=es.toList.map (·.val):=by
 refine List.ext_getElem? λi=>?_
 rw [List.getElem?_map,Array.getElem?_toList,Array.getElem?_toList]
 cases e:acc[i]? with
 |none =>
  have:acc.size<=i:=by simpa using e
  rw [Array.getElem?_eq_none (by rw [<- h.1];exact this)]
  rfl
 |some v =>
  obtain⟨q,e1,rfl⟩:=h.2 i v e
  rw [e1]
  rfl
end
section
variable{X:Cx}{T:Tab}{k:Nat}{cal:Cal}
theorem xk {o:Expr}{ap cp:Pos}{td:TE} (hb:attributeBase o "values" X.env (eval o X.env)=eval o X.env) (hl:(ap.endLine == cp.line)=true) (ho:PE X o td) :
  PE X (.Call (.Attribute o "values" ap) [] [] cp) (λσ H Q=>td σ H λx H1=>∃a d,x=.ref a/\Rd H1 a (fc d)/\∀p,H1 p=none->Q (.ref p) (upd H1 p (xj p a))):=by
 intro pins s σ H Q I h
 refine wpAny_Call_method hb rfl hl PySem.F.plainAttrs_dict PySem.F.slot_dict_values PySem.F.type_dict_values (thn (ho pins s σ H _ I h) λu s1 ⟨x,H1,I1,rx,a,d,ex,hd,q1⟩=>?_)
 subst ex
 obtain rfl:u=Value.ref a:=rx
 obtain⟨t1,t2,_⟩:=po I1 (nh hd)
 refine⟨t1,t2,?_⟩
 refine Calls.callWith_builtin rfl (PyProof.Rows.evalArgs_empty ?_)
 obtain⟨hs,es,ep,x,_⟩:=qG I1 hd
 refine Dv.values_of hs x ⟨.ref s1.heap.objs.size,_,I1.laid (t':=s1.toks) (λb o e=>Heap.get?_push_of_some _ e) (Nat.le_refl _) (o:=xj s1.heap.objs.size a) ?_,rfl,q1 _ (I1.hok.fresh (Nat.le_refl _))⟩
 exact⟨⟨_,Heap.get?_push_size _ rfl,rfl,rfl⟩,⟨_,Heap.get?_push_size _ rfl⟩,λh1 h2 ⟨o,ho,r⟩ k=>⟨o,k o ho,r⟩⟩
theorem pJ (hc:X.calm=true):bR X (.type "list") (λus H Q=>∃p a d,us=[.ref p]/\H p=some (xj p a)/\Rd H a (fc d)/\(dSc d).length<=10000/\∀l,H l=none->Q (.ref l) (upd H l (.lst ((dSc d).map Sc.v)))):=by
 intro pins s σ H xs us Q I r h
 obtain⟨p,a,d,rfl,hp,ha,hl,q⟩:=h
 obtain⟨u,rfl,ru⟩:=eD r
 cases ru
 obtain⟨_,es,ep,x,vs⟩:=qG I ha
 have hv:s.heap.IsValuesView p a:=(show bq X.prog X.w H s.heap p (xj p a) from I.hok p _ hp).1
 have hsz:es.size=(dSc d).length:=by have:=vs.length;simp at this;omega
 refine PySem.W.kdl_call (Dv.src (r:=p) (d:=a) (es:=es) (ep:=ep)) (I.ok.hd hc) ⟨hv,x⟩ (by rw [hsz,sizeLine_eq];omega) λh' tk acc c kp e it=>?_
 refine⟨.ref s.heap.objs.size,_,I.laid (t':=tk) kp (Nat.le_refl _) (o:=.lst ((dSc d).map Sc.v)) ⟨by rw [List.length_map,sizeLine_eq];omega,acc.toList,c,?_,by rw [Array.toArray_toList];exact e⟩,rfl,q _ (I.hok.fresh (Nat.le_refl _))⟩
 rw [pI it]
 exact vs
end
end MM
namespace MM
open PySem PySem.Spec PyProof.Rows L2
theorem kD:bootBuiltins "len"=some (.builtin "len"):=by decide +kernel
theorem oM:bootBuiltins "tuple"=some (.type "tuple"):=by decide +kernel
theorem qH:bootBuiltins "list"=some (.type "list"):=by decide +kernel
theorem mo:bootBuiltins "sorted"=some (.builtin "sorted"):=by decide +kernel
theorem zv:bootBuiltins "any"=some (.builtin "any"):=by decide +kernel
theorem zw:bootBuiltins "all"=some (.builtin "all"):=by decide +kernel
theorem zx:bootBuiltins "max"=some (.builtin "max"):=by decide +kernel
theorem zy:bootBuiltins "int"=some (.type "int"):=by decide +kernel
theorem xl:bootBuiltins "bool"=some (.type "bool"):=by decide +kernel
theorem nq:bootBuiltins "set"=some (.type "set"):=by decide +kernel
theorem lD:bootBuiltins "isinstance"=some (.builtin "isinstance"):=by decide +kernel
section
variable{X:Cx}{T:Tab}{k:Nat}{cal:Cal}
theorem zz {f:Blt}{c:String}{m:ME}{e:Expr}{t:Str}{p p2 pos:Pos} (g:Gf X T k cal) (hf:cF f=some c) (hg:glB X.env.scope "isinstance"=true) (ht:t=(c:Str)) (hgt:glB X.env.scope t=true)
  (hbt:bootBuiltins c=some (.type c)) (hmt:X.mg c=none) (hn:(c:Str) ≠ "__name__") (hd:((c:Str) == ("__debug__":Str))=false) (h:PE X e (tE X.K cal m)) (hs:ag e=true):PE X (.Call (.Name "isinstance" p) [e,.Name t p2] [] pos) (tE X.K cal (.blt f [m])):=by
 subst ht
 refine(dz (zm hf) (dD hg) (g.blt "isinstance" (by decide)) lD (aK h (aK (v4 (v:=.ty c) (dD hgt) hmt hbt rfl hn hd) br rfl) (aO hs _ _)) (by decide) (by decide) (aO hs _ _) rfl).imp λσ H Q q=>?_
 obtain⟨B,O₀,O,ρ,v,st,e1,q⟩:=q
 rw [ev,Option.bind_eq_some_iff]at e1
 obtain⟨vs,e1,e2⟩:=e1
 obtain⟨w,rfl,e3⟩:=oJ e1
 have e5:isD w=false/\v=.bl (isT f w):=by
  cases hd:isD w with
  |true=>cases f<;>simp only [cF,reduceCtorEq]at hf<;>(simp only [av,b8,gJ,f_,fT,hd]at e2;cases e2)
  |false=>cases f<;>simp only [cF,reduceCtorEq]at hf<;>(simp only [av,b8,gJ,f_,fT,hd,Bool.false_eq_true,if_false,Option.some.injEq]at e2;exact⟨rfl,e2.symm⟩)
 obtain⟨e5,rfl⟩:=e5
 refine⟨B,O₀,O,ρ,w,st,e3,λu H1 s1 g1=>⟨O,w,u,rfl,e5,g1.1,q _ H1 s1 (.of (dC _ _))⟩⟩
theorem oN {m:ME}{e:Expr}{x y:Str}{p p2 pos pos2:Pos} (g:Gf X T k cal) (hx:x=("sorted":Str)) (hy:y=("set":Str)) (hg:glB X.env.scope x=true) (hg2:glB X.env.scope y=true) (h:PE X e (tE X.K cal m)) (hs:ag e=true):PE X (.Call (.Name x p) [.Call (.Name y p2) [e] [] pos2] [] pos) (tF X.K cal (.blt .sortedSet [m])):=by
 subst hx hy
 refine(dz (oE g.calm) (dD hg) (g.blt "sorted" (by decide)) mo (aK (c_ (qC g.calm) (dD hg2) (g.blt "set" (by decide)) nq (aK h br (aO hs _ _)) (by decide) (by decide) (aO hs _ _) rfl) br rfl) (by decide) (by decide) rfl rfl).imp λσ H Q q=>?_
 obtain⟨B,O₀,O,ρ,xs,st,e1,q⟩:=q
 rw [ev,Option.bind_eq_some_iff]at e1
 obtain⟨vs,e1,e2⟩:=e1
 obtain⟨w,rfl,e3⟩:=oJ e1
 simp only [av,b8,gJ,f_,fT,Option.bind_eq_some_iff]at e2
 obtain⟨ys,e4,ns,e5,e6⟩:=e2
 split at e6
 ·rename_i hc
  cases e6
  refine⟨B,O₀,O,ρ,w,st,e3,λu H1 s1 g1=>⟨O,w,u,ns,rfl,g1.1,by simp [e4,e5],hc.1,λl hl=>⟨l,_,rfl,au,?_,λp' hp'=>?_⟩⟩⟩
  ·rw [pG];exact hc.2
  ·rw [wZ]
   refine q p' _ _ ((s1.trans (am hl _)).trans (am hp' _)) (s1.free ((am hl _).free hp')) au (.of_ints _)
 ·cases e6
theorem zA {i:Nat}{y:Str}{p yp pos:Pos} (g:Gf X T k cal) (hg:glB X.env.scope ("len":Str)=true) (hn:ax X.N X.env.scope i y=true):PE X (.Call (.Name ("len":Str) p) [.Name y yp] [] pos) (tE X.K cal (.lenL i)):=by
 refine(dz dJ (dD hg) (g.blt "len" (by decide)) kD (aK (bp hn) br rfl) (by decide) (by decide) rfl rfl).imp λσ H Q q=>?_
 obtain⟨B,O₀,O,ρ,v,st,e1,q⟩:=q
 rw [ev]at e1
 cases hj:(ρ[i]?).join with
 |none=>rw [hj]at e1;cases e1
 | some m =>
  rw [hj]at e1
  cases m with
  |ownL xss =>
   cases e1
   obtain⟨u,eu,a,bs,rfl,ha,r,_⟩:=be st hj
   refine⟨_,eu,a,bs.map .ref,rfl,.inl (SqL.of ha),?_⟩
   rw [List.length_map,<- r.len]
   exact q _ H (ae.refl H) (.of (b_ _ _))
  | _=>cases e1
theorem zB {i:Nat}{mk:ME}{y:Str}{s:Expr}{p yp sp pos:Pos} (g:Gf X T k cal) (hg:glB X.env.scope ("len":Str)=true) (hn:ax X.N X.env.scope i y=true) (hk:PE X s (tE X.K cal mk)) (hs:aG s=true):PE X (.Call (.Name ("len":Str) p) [.Subscript (.Name y yp) s sp] [] pos) (tE X.K cal (.lenI i mk)):=by
 refine(dz dJ (dD hg) (g.blt "len" (by decide)) kD (aK (qa jC (bp hn) hk (fC hs)) br rfl) (by decide) (by decide) rfl rfl).imp λσ H Q q=>?_
 obtain⟨B,O₀,O,ρ,v,st,e1,q⟩:=q
 rw [ev,Option.bind_eq_some_iff]at e1
 obtain⟨kv,ek,e1⟩:=e1
 cases hj:(ρ[i]?).join with
 |none=>rw [hj]at e1;cases kv<;>cases e1
 | some m =>
  rw [hj]at e1
  cases m with
  | ownL xss =>
   cases kv with
   | int j =>
    simp only [t8,Option.bind_eq_some_iff,Option.map_eq_some_iff]at e1
    obtain⟨pl,f1,xs,f2,rfl⟩:=e1
    obtain⟨u,eu,a,bs,rfl,ha,r,_⟩:=be st hj
    obtain⟨b,us,c1,c2,c3,_⟩:=r.get f2
    refine⟨_,eu,B,O₀,O,ρ,_,st,ek,λuk H1 s1 g1=>?_⟩
    have e4:=g1.1.int
    subst e4
    refine⟨a,bs.map .ref,j,.ref b,rfl,rfl,SqL.of (s1 _ _ ha),?_,b,us,rfl,.inl (SqL.of (s1 _ _ c2)),?_⟩
    ·unfold atI
     rw [List.length_map,<- r.len,<- fh,f1,Option.bind_some,List.getElem?_map,c1]
     rfl
    ·rw [<- c3.length]
     exact q _ H1 s1 (.of (b_ _ _))
   | _=>cases e1
  | _=>cases kv<;>cases e1
theorem uG {m:ME}{e:Expr}{x y:Str}{p p2 pos pos2:Pos} (g:Gf X T k cal) (hx:x=("len":Str)) (hy:y=("set":Str)) (hg:glB X.env.scope x=true) (hg2:glB X.env.scope y=true) (h:PE X e (tE X.K cal m)) (hs:ag e=true):PE X (.Call (.Name x p) [.Call (.Name y p2) [e] [] pos2] [] pos) (tE X.K cal (.blt .lenSet [m])):=by
 subst hx hy
 refine(dz m7 (dD hg) (g.blt "len" (by decide)) kD (aK (c_ (qC g.calm) (dD hg2) (g.blt "set" (by decide)) nq (aK h br (aO hs _ _)) (by decide) (by decide) (aO hs _ _) rfl) br rfl) (by decide) (by decide) rfl rfl).imp λσ H Q q=>?_
 obtain⟨B,O₀,O,ρ,v,st,e1,q⟩:=q
 rw [ev,Option.bind_eq_some_iff]at e1
 obtain⟨vs,e1,e2⟩:=e1
 obtain⟨w,rfl,e3⟩:=oJ e1
 simp only [av,b8,gJ,f_,fT,Option.bind_eq_some_iff]at e2
 obtain⟨ys,e4,ns,e5,e6⟩:=e2
 split at e6
 ·rename_i hc
  cases e6
  refine⟨B,O₀,O,ρ,w,st,e3,λu H1 s1 g1=>⟨O,w,u,ns,rfl,g1.1,by simp [e4,e5],hc,λl hl=>⟨l,_,rfl,au,?_⟩⟩⟩
  rw [pG]
  exact q _ _ (s1.trans (am hl _)) (.of (b_ _ _))
 ·cases e6
theorem oO {m1 m2:ME}{a b:Expr}{x y z:Str}{p p2 p3 q2 q3 q4 pos:Pos} (g:Gf X T k cal) (hx:x=("len":Str)) (hy:y=("set":Str)) (hz:z=("set":Str)) (hg:glB X.env.scope x=true) (hg2:glB X.env.scope y=true) (hg3:glB X.env.scope z=true) (ha:PE X a (tE X.K cal m1)) (hb:PE X b (tE X.K cal m2)) (hsa:ag a=true) (hsb:ag b=true) :
  PE X (.Call (.Name x p) [.BinOp (.Call (.Name y p2) [a] [] q2) .Sub (.Call (.Name z p3) [b] [] q3) q4] [] pos) (tE X.K cal (.blt .lenSetSub [m1,m2])):=by
 subst hx hy hz
 refine(dz oh (dD hg) (g.blt "len" (by decide)) kD (aK (xK rK (c_ (qC g.calm) (dD hg2) (g.blt "set" (by decide)) nq (aK ha br (aO hsa _ _)) (by decide) (by decide) (aO hsa _ _) rfl) (c_ (qC g.calm) (dD hg3) (g.blt "set" (by decide)) nq (aK hb br (aO hsb _ _)) (by decide) (by decide) (aO hsb _ _) rfl)) br rfl) (by decide) (by decide) rfl rfl).imp λσ H Q q=>?_
 obtain⟨B,O₀,O,ρ,v,st,e1,q⟩:=q
 rw [ev,Option.bind_eq_some_iff]at e1
 obtain⟨vs,e1,e2⟩:=e1
 simp only [evs,Option.bind_eq_some_iff,Option.map_eq_some_iff]at e1
 obtain⟨v1,e3,w1,⟨v2,e4,w2,e5,rfl⟩,rfl⟩:=e1
 cases e5
 simp only [av,b8,gJ,f_,fT,Option.bind_eq_some_iff]at e2
 obtain⟨xs,f1,ns,f2,ys,f3,ms,f4,f5⟩:=e2
 split at f5
 ·rename_i hc
  cases f5
  refine⟨B,O₀,O,ρ,v1,st,e3,λu H1 s1 g1=>⟨O,v1,u,ns,rfl,g1.1,by simp [f1,f2],hc.1,λl hl=>?_⟩⟩
  refine⟨B,O₀,O,ρ,v2,st.mono (s1.trans (am hl _)),e4,λu2 H2 s2 g2=>⟨O,v2,u2,ms,rfl,g2.1,by simp [f3,f4],hc.2.1,λl2 hl2=>?_⟩⟩
  refine⟨l,l2,_,_,rfl,rfl,(am hl2 _) l _ (s2 l _ au),au,by rw [pG];exact hc.2.2,λp' hp'=>⟨p',_,rfl,au,?_⟩⟩
  have e6:((St.dd ns.reverse).filter λk=>!decide (k∈St.dd ms.reverse)).length=((dd ns).filter λn=>!decide (n∈ms)).length:=by
   rw [l9]
   have e7:(λk=>!decide (k∈St.dd ms.reverse))=λn=>!decide (n∈ms):=by
    funext k
    congr 1
    rw [decide_eq_decide,St.eO,List.mem_reverse]
   rw [e7]
   refine List.Perm.length_eq (List.Perm.filter _ ((List.perm_ext_iff_of_nodup (St.dd_nodup _) (St.dd_nodup _)).mpr λa=>?_))
   rw [St.eO,St.eO,List.mem_reverse]
  rw [e6]
  exact q _ _ ((s1.trans (am hl _)).trans (s2.trans ((am hl2 _).trans (am hp' _)))) (.of (b_ _ _))
 ·cases f5
end
section
variable{X:Cx}{T:Tab}{k:Nat}{cal:Cal}
theorem oP{k':Sk}{src:List ME}{js:List Nat}{cond elt:ME}:∀ρ v,ev cal (.comp k' src js cond elt) ρ=some v->∃xs,v=.lst xs:=λρ v hv=>by
 rw [ev,Option.bind_eq_some_iff]at hv
 obtain⟨vs,_,hv⟩:=hv
 rw [Option.bind_eq_some_iff]at hv
 obtain⟨xs,_,hv⟩:=hv
 split at hv
 ·simp only [Option.map_eq_some_iff]at hv
  obtain⟨ys,_,rfl⟩:=hv
  exact⟨_,rfl⟩
 ·cases hv
theorem dO{f:Blt}(hf:f=.listOf\/f=.sorted\/f=.sortedSet\/f=.sortedKeys\/f=.valuesOf){ms:List ME}:∀ρ v,ev cal (.blt f ms) ρ=some v->∃xs,v=.lst xs:=λρ v hv=>by
 rw [ev,Option.bind_eq_some_iff]at hv
 obtain⟨vs,_,hv⟩:=hv
 rcases hf with rfl|rfl|rfl|rfl|rfl
 ·obtain⟨x,rfl⟩:=dc hv (.inl rfl)
  simp only [av,b8,gJ,f_,fT,Option.map_eq_some_iff]at hv
  obtain⟨ys,_,rfl⟩:=hv
  exact⟨_,rfl⟩
 ·obtain⟨x,rfl⟩:=dc hv (.inl rfl)
  simp only [av,b8,gJ,f_,fT,Option.bind_eq_some_iff]at hv
  obtain⟨ys,_,hv⟩:=hv
  unfold gc at hv
  split at hv
  ·split at hv
   ·cases hv;exact⟨_,rfl⟩
   ·simp only [Option.map_eq_some_iff]at hv
    obtain⟨ts,_,rfl⟩:=hv
    exact⟨_,rfl⟩
  ·cases hv
 ·obtain⟨x,rfl⟩:=dc hv (.inr (.inr (.inl rfl)))
  simp only [av,b8,gJ,f_,fT,Option.bind_eq_some_iff]at hv
  obtain⟨ys,_,ns,_,hv⟩:=hv
  split at hv
  ·cases hv;exact⟨_,rfl⟩
  ·cases hv
 ·obtain⟨x,rfl⟩:=dc hv (.inl rfl)
  simp only [av,b8]at hv
  split at hv
  ·split at hv
   ·cases hv;exact⟨_,rfl⟩
   ·cases hv
  ·cases hv
 ·obtain⟨x,rfl⟩:=dc hv (.inr (.inr (.inr (.inr rfl))))
  simp only [av,b8]at hv
  split at hv
  ·split at hv
   ·cases hv;exact⟨_,rfl⟩
   ·cases hv
  ·cases hv
theorem pK{ifs:List Expr}{cond:ME}{f:Expr->Bool}(h:ku f cond ifs=true)(hc:∀c,f c=true->PT X c (tT X.K cal cond)):PF X ifs (tT X.K cal cond):=by
 match ifs,h with
 | [],h =>
  have e:cond=.cst (.bl true):=by
   simp only [ku]at h
   split at h
   ·rfl
   ·cases h
  subst e
  intro pins s σ H Q I q
  obtain⟨B,O₀,O,ρ,b,st,e1,q⟩:=q
  simp only [evB,ev,Option.bind_some,aL,Option.some.injEq]at e1
  subst e1
  exact yP pins s σ H Q I (q H (ae.refl H))
 | [c],h=>exact yQ (hc c h)
theorem kE{k':Sk}{src:List ME}{it tg:Expr}{tup:Bool}(htg:tup=true->∃ts j tp,tg=.Tuple ts j tp)(g:Gf X T k cal)(h:dN X.env.scope tup (λxs=>chks T src X.N X.env.scope xs) k' it=true)(hs:∀xs,chks T src X.N X.env.scope xs=true->PA X xs (tEs X.K cal src)/\xs.all ag=true/\src.length=xs.length)
  (h1:∀m x,src=[m]->chks T src X.N X.env.scope [x]=true->PE X x (tE X.K cal m)):PI X tg it (tW X.K cal k' src)/\fA it=true:=by
 cases k' with
 | seq =>
  simp only [dN,Bool.and_eq_true]at h
  refine⟨?_,h.1⟩
  obtain⟨_,_,hl⟩:=hs _ h.2
  match src,hl,h1,h with
  | [m],_,h1,h =>
   cases hb:aH m with
   |false=>exact Bs hb (h1 m it rfl h.2)
   |true =>
    cases m<;>simp [aH]at hb
    have q:=h.2
    simp only [chks,Bool.and_eq_true]at q
    have q1:=q.1.1
    cases it<;>simp only [cc,ce,cf,bx,cg,ci,cj,cm,dB,cn,cq,ba,cr,cu,cv,bb,cw,bz,aM,Bool.false_eq_true]at q1
    exact Bt q1
 | rng =>
  cases it with
  | Call fn args kws pos =>
   cases fn with
   | Name x p =>
    cases kws with
    |nil =>
     simp only [dN,Bool.and_eq_true,beq_iff_eq,Bool.or_eq_true]at h
     obtain⟨⟨⟨hx,hg⟩,ha⟩,hn⟩:=h
     obtain⟨q,hst,hl⟩:=hs _ ha
     exact⟨w_ g hx hg q hn hst hl,rfl⟩
    |cons _ _=>simp [dN]at h
   | _=>simp [dN]at h
  | _=>simp [dN]at h
 | enm =>
  cases it with
  | Call fn args kws pos =>
   cases fn with
   | Name x p =>
    match args,kws,h with
    | [a],[],h =>
     simp only [dN,Bool.and_eq_true,beq_iff_eq]at h
     obtain⟨⟨⟨⟨ht,hx⟩,hg⟩,ha⟩,hn⟩:=h
     obtain⟨ts,j,tp,rfl⟩:=htg ht
     obtain⟨_,_,hl⟩:=hs _ ha
     refine⟨?_,rfl⟩
     match src,hl,h1,ha with
     | [m],_,h1,ha =>
      cases hb:aH m with
      |false=>exact Bu g hx hg hn hb (h1 m a rfl ha)
      |true =>
       cases m<;>simp [aH]at hb
       have q:=ha
       simp only [chks,Bool.and_eq_true]at q
       have q1:=q.1.1
       cases a<;>simp only [cc,ce,cf,bx,cg,ci,cj,cm,dB,cn,cq,ba,cr,cu,cv,bb,cw,bz,aM,Bool.false_eq_true]at q1
       exact zp g hx hg q1
    | [],_,h=>simp [dN]at h
    | _::_::_,_,h=>simp [dN]at h
    | [_],_::_,h=>simp [dN]at h
   | _=>simp [dN]at h
  | _=>simp [dN]at h
 |rev=>cases it<;>simp [dN]at h
theorem pL(K:PySem.W.Frag)(F:Hp)(s:Sc):Rep K F s.pv s.v:=by cases s<;>simp only [Sc.pv,Sc.v,Rep]
theorem uH{K:PySem.W.Frag}{H:Hp}{O:List Addr}{x:PV}{s:Sc}{u:V}(e:sc? x=some s)(r:bm K H O x u):u=s.v:=by
 cases x<;>simp only [sc?,Option.some.injEq,reduceCtorEq]at e<;>subst e
 ·exact r.non
 ·exact r.bl
 ·exact r.int
 ·exact r.str
theorem base_of{o:Expr}{n:Str}(hb:kr o=true):attributeBase o n X.env (eval o X.env)=eval o X.env:=by
 cases o<;>first|rfl|(simp [kr]at hb;done)|skip
 rename_i fn args kws pos
 cases args with
 |nil=>simp [kr]at hb
 |cons _ _=>cases fn<;>rfl
theorem qI(K:PySem.W.Frag)(F:Hp):∀ss:List Sc,Reps K F (ss.map Sc.pv) (ss.map Sc.v)
 | []=>rfl
 |s::ss=>⟨_,_,rfl,pL K F s,qI K F ss⟩
theorem uI {m:ME}{o:Expr}{x:Str}{p ap cp pos:Pos} (g:Gf X T k cal) (hx:x=("list":Str)) (hg:glB X.env.scope x=true) (h:PE X o (tE X.K cal m)) (hb:attributeBase o "values" X.env (eval o X.env)=eval o X.env) (hl:(ap.endLine == cp.line)=true) :
  PE X (.Call (.Name x p) [.Call (.Attribute o "values" ap) [] [] cp] [] pos) (tF X.K cal (.blt .valuesOf [m])):=by
 subst hx
 refine(c_ (pJ g.calm) (dD hg) (g.blt "list" (by decide)) qH (aK (xk hb hl h) br rfl) (by decide) (by decide) rfl rfl).imp λσ H Q q=>?_
 obtain⟨B,O₀,O,ρ,xs,st,e1,q⟩:=q
 rw [ev,Option.bind_eq_some_iff]at e1
 obtain⟨vs,e1,e2⟩:=e1
 obtain⟨w,rfl,e3⟩:=oJ e1
 have hd:∃d,w=.dI d/\(gP d).length<=10000/\xs=gP d:=by
  simp only [av,b8]at e2
  split at e2
  ·split at e2
   ·rename_i d hl
    cases e2
    exact⟨d,rfl,hl,rfl⟩
   ·cases e2
  ·cases e2
 obtain⟨d,rfl,hz,rfl⟩:=hd
 have hz2:(dSc d).length<=10000:=by unfold gP at hz;rw [List.length_map]at hz;exact hz
 refine⟨B,O₀,O,ρ,_,st,e3,λu H1 s1 g1=>?_⟩
 obtain⟨a,rfl,ha⟩:=g1.1.dI
 refine⟨a,d,rfl,ha,λp' hp'=>⟨p',a,d,rfl,au,ae.rd (am hp' _) ha,hz2,λl hl=>?_⟩⟩
 refine q l _ _ ((s1.trans (am hp' _)).trans (am hl _)) (s1.free ((am hp' _).free hl)) au ?_
 exact qI _ _ _
theorem oQ{b:Blt}{es:List ME}{x:Str}{args:List Expr}{p pos:Pos}(g:Gf X T k cal)(hx:x=(l7 b:Str))(hg:glB X.env.scope x=true)(ha:cy X.env.scope (λxs=>chks T es X.N X.env.scope xs) es.length b args=true)
  (hs:∀xs,chks T es X.N X.env.scope xs=true->PA X xs (tEs X.K cal es)/\xs.all ag=true/\es.length=xs.length)
  (h1:∀m x,es=[m]->chks T es X.N X.env.scope [x]=true->PE X x (tE X.K cal m))
  (hh2:∀m m' x x',es=[m,m']->chks T es X.N X.env.scope [x,x']=true->PE X x (tE X.K cal m)/\PE X x' (tE X.K cal m')) :
  (bE (.blt b es)=true->PE X (.Call (.Name x p) args [] pos) (tF X.K cal (.blt b es)))/\PE X (.Call (.Name x p) args [] pos) (tE X.K cal (.blt b es)):=by
 have inst:∀c,cF b=some c->l7 b="isinstance"->bootBuiltins c=some (.type c)->X.mg c=none->(c:Str) ≠ "__name__"->((c:Str) == ("__debug__":Str))=false->cy X.env.scope (λxs=>chks T es X.N X.env.scope xs) es.length b args=kq X.env.scope (λxs=>chks T es X.N X.env.scope xs) es.length c args ->
   PE X (.Call (.Name x p) args [] pos) (tE X.K cal (.blt b es)):=λc hc hb hbt hm hn hd e=>by
  rw [e]at ha
  unfold kq at ha
  split at ha
  ·rename_i y t p2
   simp only [Bool.and_eq_true,beq_iff_eq]at ha
   obtain⟨⟨⟨h2,h3⟩,h4⟩,h5⟩:=ha
   obtain⟨_,hst,_⟩:=hs _ h4
   match es,h5,h1,h4 with
   | [m],_,h1,h4 =>
    rw [hx,hb]at hg ⊢
    exact zz g hc hg h2 h3 hbt hm hn hd (h1 m y rfl h4) (by simpa using hst)
  ·cases ha
 have plain:∀n,cF b=none->dU b=some n->0<n->cy X.env.scope (λxs=>chks T es X.N X.env.scope xs) es.length b args=(dU b == some es.length&&chks T es X.N X.env.scope args) ->
   ∃e r,args=e::r/\PA X (e::r) (tEs X.K cal es)/\(e::r).all ag=true:=λn _ hn hpos eq=>by
  rw [eq,hn]at ha
  simp only [Bool.and_eq_true,beq_iff_eq,Option.some.injEq]at ha
  obtain⟨q1,q2,q3⟩:=hs _ ha.2
  cases args with
  |nil=>rw [<- ha.1]at q3;simp at q3;omega
  |cons e r=>exact⟨e,r,rfl,q1,q2⟩
 cases b with
 |len =>
  obtain⟨e,r,rfl,q1,q2⟩:=plain 1 rfl rfl (by decide) rfl
  subst hx
  exact⟨λz=>(by simp [bE]at z),oK Bo hg (g.blt "len" (by decide)) kD (by decide) (by decide) q1 q2⟩
 |tupleOf =>
  obtain⟨e,r,rfl,q1,q2⟩:=plain 1 rfl rfl (by decide) rfl
  subst hx
  exact⟨λz=>(by simp [bE]at z),zr w8 hg (g.blt "tuple" (by decide)) oM (by decide) (by decide) q1 q2⟩
 |listOf =>
  obtain⟨e,r,rfl,q1,q2⟩:=plain 1 rfl rfl (by decide) rfl
  subst hx
  have q:=xc (p:=p) (pos:=pos) zl hg (g.blt "list" (by decide)) qH (by decide) (by decide) q1 q2
  exact⟨λ_=>q,dY (dO (.inl rfl)) q⟩
 |sorted =>
  obtain⟨e,r,rfl,q1,q2⟩:=plain 1 rfl rfl (by decide) rfl
  subst hx
  have q:=zt (p:=p) (pos:=pos) (uj g) hg (g.blt "sorted" (by decide)) mo (by decide) (by decide) q1 q2
  exact⟨λ_=>q,dY (dO (.inr (.inl rfl))) q⟩
 |any =>
  obtain⟨e,r,rfl,q1,q2⟩:=plain 1 rfl rfl (by decide) rfl
  subst hx
  exact⟨λz=>(by simp [bE]at z),oK (Bp g.calm) hg (g.blt "any" (by decide)) zv (by decide) (by decide) q1 q2⟩
 |all =>
  obtain⟨e,r,rfl,q1,q2⟩:=plain 1 rfl rfl (by decide) rfl
  subst hx
  exact⟨λz=>(by simp [bE]at z),oK (Bq g.calm) hg (g.blt "all" (by decide)) zw (by decide) (by decide) q1 q2⟩
 |intOf=>exact absurd ha Bool.false_ne_true
 |boolOf=>exact absurd ha Bool.false_ne_true
 |max2=>exact absurd ha Bool.false_ne_true
 |min2=>exact absurd ha Bool.false_ne_true
 |isInt=>exact⟨λz=>(by simp [bE]at z),inst "int" rfl rfl zy (g.blt "int" (by decide)) (by decide) (by decide) rfl⟩
 |isBool=>exact⟨λz=>(by simp [bE]at z),inst "bool" rfl rfl xl (g.blt "bool" (by decide)) (by decide) (by decide) rfl⟩
 |isStr=>exact absurd ha Bool.false_ne_true
 |isList=>exact absurd ha Bool.false_ne_true
 |isTuple=>exact⟨λz=>(by simp [bE]at z),inst "tuple" rfl rfl oM (g.blt "tuple" (by decide)) (by decide) (by decide) rfl⟩
 | sortedSet =>
  simp only [cy]at ha
  split at ha
  ·rename_i gg p2 y pos2
   simp only [Bool.and_eq_true,beq_iff_eq]at ha
   obtain⟨⟨⟨h2,h3⟩,h4⟩,h5⟩:=ha
   obtain⟨_,hst,_⟩:=hs _ h4
   match es,h5,h1,h4 with
   | [m],_,h1,h4 =>
    have q:=oN (p:=p) (p2:=p2) (pos:=pos) (pos2:=pos2) g hx h2 hg h3 (h1 m y rfl h4) (by simpa using hst)
    exact⟨λ_=>q,dY (dO (.inr (.inr (.inl rfl)))) q⟩
  ·cases ha
 |sum =>
  obtain⟨e,r,rfl,q1,q2⟩:=plain 1 rfl rfl (by decide) rfl
  subst hx
  exact⟨λz=>(by simp [bE]at z),oK (Br g.calm) hg (g.blt "sum" (by decide)) PyProof.Rows.boot_sum (by decide) (by decide) q1 q2⟩
 |max1 =>
  obtain⟨e,r,rfl,q1,q2⟩:=plain 1 rfl rfl (by decide) rfl
  subst hx
  exact⟨λz=>(by simp [bE]at z),oK (zn g.calm) hg (g.blt "max" (by decide)) zx (by decide) (by decide) q1 q2⟩
 |sortedKeys=>exact absurd ha Bool.false_ne_true
 | valuesOf =>
  simp only [cy]at ha
  split at ha
  ·rename_i y mm ap cp
   simp only [Bool.and_eq_true,beq_iff_eq]at ha
   obtain⟨⟨⟨⟨h2,h3⟩,h4⟩,h5⟩,h6⟩:=ha
   subst h2
   match es,h6,h1,h5 with
   | [m],_,h1,h5 =>
    have q:=uI (p:=p) (ap:=ap) (cp:=cp) (pos:=pos) g hx hg (h1 m y rfl h5) (base_of h3) (by rw [h4];simp)
    exact⟨λ_=>q,dY (dO (.inr (.inr (.inr (.inr rfl))))) q⟩
  ·cases ha
 |min1=>simp [cy,cF,dU]at ha
 |tupleRev=>simp [cy]at ha
 | lenSet =>
  simp only [cy]at ha
  split at ha
  ·rename_i gg p2 y pos2
   simp only [Bool.and_eq_true,beq_iff_eq]at ha
   obtain⟨⟨⟨h2,h3⟩,h4⟩,h5⟩:=ha
   obtain⟨_,hst,_⟩:=hs _ h4
   match es,h5,h1,h4 with
   | [m],_,h1,h4=>exact⟨λz=>(by simp [bE]at z),uG g hx h2 hg h3 (h1 m y rfl h4) (by simpa using hst)⟩
  ·cases ha
 | lenSetSub =>
  simp only [cy]at ha
  split at ha
  ·rename_i gg p2 y q2 gg2 p3 y' q3 q4
   simp only [Bool.and_eq_true,beq_iff_eq]at ha
   obtain⟨⟨⟨⟨⟨a1,a2⟩,a3⟩,a4⟩,a5⟩,a6⟩:=ha
   obtain⟨_,hst,_⟩:=hs _ a5
   match es,a6,hh2,a5 with
   | [m,m'],_,hh2,a5 =>
    simp only [List.all_cons,List.all_nil,Bool.and_true,Bool.and_eq_true]at hst
    obtain⟨b1,b2⟩:=hh2 m m' y y' rfl a5
    exact⟨λz=>(by simp [bE]at z),oO g hx a1 a3 hg a2 a4 b1 b2 hst.1 hst.2⟩
  ·cases ha
end
section
variable{X:Cx}{T:Tab}{k:Nat}{cal:Cal}
theorem BF{neg:Bool}{mk ma:ME}{l r:Expr}{pos:Pos}(g:Gf X T k cal)(hk:PE X l (tE X.K cal mk))(ha:PE X r (tE X.K cal ma))(hm:behindInMarks (if neg=true then CmpOp.NotIn else CmpOp.In) r=false) :
  PE X (.Compare l [if neg=true then CmpOp.NotIn else CmpOp.In] [r] pos) (tE X.K cal (.dIn neg mk ma))/\PT X (.Compare l [if neg=true then CmpOp.NotIn else CmpOp.In] [r] pos) (tT X.K cal (.dIn neg mk ma)):=by
 have hu:X.A.units+1<cLine:=by have:=g.units;omega
 have go:∀{σ:St}{H:Hp}{Q:Bool->Hp->Prop},(∃B O₀ O ρ b,aC X.K B O₀ O H ρ σ/\ev cal (.dIn neg mk ma) ρ=some (.bl b)/\∀H',ae H H'->Q b H') ->
   tE X.K cal mk σ H λy H1=>tE X.K cal ma σ H1 λx H2=>∃a o,x=.ref a/\jZ H2 a y o/\Q (if neg=true then !o.isSome else o.isSome) H2:=λ{σ H Q} q=>by
  obtain⟨B,O₀,O,ρ,b,st,e1,q⟩:=q
  rw [ev]at e1
  simp only [Option.bind_eq_some_iff]at e1
  obtain⟨y,e1,x,e2,e3⟩:=e1
  refine⟨B,O₀,O,ρ,y,st,e1,λuy H1 s1 g1=>⟨B,O₀,O,ρ,x,st.mono s1,e2,λux H2 s2 g2=>?_⟩⟩
  rw [Option.map_eq_some_iff]at e3
  obtain⟨o,e3,e4⟩:=e3
  cases x<;>try (cases e3;done)
  obtain⟨a,rfl,ha⟩:=g2.1.dI
  refine⟨a,_,rfl,np e3 ha (g1.1.mono s2),?_⟩
  rw [Option.isSome_map,PV.bl.inj e4]
  exact q H2 (s1.trans s2)
 have unE:∀{σ:St}{H:Hp}{Q:VK},tE X.K cal (.dIn neg mk ma) σ H Q->∃B O₀ O ρ b,aC X.K B O₀ O H ρ σ/\ev cal (.dIn neg mk ma) ρ=some (.bl b)/\∀H',ae H H'->Q (.bl b) H':=λ{σ H Q} q=>by
  obtain⟨B,O₀,O,ρ,v,st,e1,q⟩:=q
  have hb:∃b,v=.bl b:=by
   rw [ev]at e1
   simp only [Option.bind_eq_some_iff]at e1
   obtain⟨y,_,x,_,e3⟩:=e1
   rw [Option.map_eq_some_iff]at e3
   obtain⟨o,_,e4⟩:=e3
   exact⟨_,e4.symm⟩
  obtain⟨b,rfl⟩:=hb
  exact⟨B,O₀,O,ρ,b,st,e1,λH' s=>q _ H' s (.of (dC _ _))⟩
 have unT:∀{σ:St}{H:Hp}{Q:Bool->Hp->Prop},tT X.K cal (.dIn neg mk ma) σ H Q->∃B O₀ O ρ b,aC X.K B O₀ O H ρ σ/\ev cal (.dIn neg mk ma) ρ=some (.bl b)/\∀H',ae H H'->Q b H':=λ{σ H Q} q=>by
  obtain⟨B,O₀,O,ρ,b,st,e1,q⟩:=q
  unfold evB at e1
  simp only [Option.bind_eq_some_iff]at e1
  obtain⟨v,e1,e2⟩:=e1
  cases v<;>simp only [aL,reduceCtorEq,Option.some.injEq]at e2
  subst e2
  exact⟨B,O₀,O,ρ,_,st,e1,q⟩
 cases neg with
 |false =>
  refine⟨(sC (sV hu hk ha) hm).imp λσ H Q q=>?_,(sD (sV hu hk ha) hm).imp λσ H Q q=>?_⟩
  ·exact go (Q:=λb H'=>Q (.bl b) H') (unE q)
  ·exact go (Q:=λb H'=>∃c,V.bl b=.bl c/\Q c H') (by
    obtain⟨B,O₀,O,ρ,b,st,e1,q⟩:=unT q
    exact⟨B,O₀,O,ρ,b,st,e1,λH' s=>⟨b,rfl,q H' s⟩⟩)
 |true =>
  refine⟨(sC (lQ hu hk ha) hm).imp λσ H Q q=>?_,(sD (lQ hu hk ha) hm).imp λσ H Q q=>?_⟩
  ·exact go (Q:=λb H'=>Q (.bl b) H') (unE q)
  ·exact go (Q:=λb H'=>∃c,V.bl b=.bl c/\Q c H') (by
    obtain⟨B,O₀,O,ρ,b,st,e1,q⟩:=unT q
    exact⟨B,O₀,O,ρ,b,st,e1,λH' s=>⟨b,rfl,q H' s⟩⟩)
theorem zC{ma mk md:ME}{o e f:Expr}{ap cp:Pos}(g:Gf X T k cal)(ha:PE X o (tE X.K cal ma))(hk:PE X e (tE X.K cal mk))(hd:PE X f (tE X.K cal md))(hb:kr o=true)(hl:(ap.endLine == cp.line)=true)(h1:ag e=true)(h2:ag f=true) :
  PE X (.Call (.Attribute o "get" ap) [e,f] [] cp) (tE X.K cal (.dget ma mk md)):=by
 have hu:X.A.units+1<cLine:=by have:=g.units;omega
 have st2:starEach [e,f] X.env=[(false,eval e X.env),(false,eval f X.env)]:=by rw [aO h1,aO h2];rfl
 have m:M2 X o "get" ap e f cp:=by
  refine⟨base_of hb,?_,hl,?_⟩
  ·rw [st2];rfl
  ·rw [st2];rfl
 refine(s_ hu ha hk hd m).imp λσ H Q q=>?_
 obtain⟨B,O₀,O,ρ,v,st,e1,q⟩:=q
 rw [ev]at e1
 simp only [Option.bind_eq_some_iff,Option.map_eq_some_iff]at e1
 obtain⟨x,e1,y,e2,z,e3,oo,e4,sz,e5,e6⟩:=e1
 cases x<;>try (cases e4;done)
 refine⟨B,O₀,O,ρ,_,st,e1,λux H1 s1 g1=>?_⟩
 obtain⟨a,rfl,hH⟩:=g1.1.dI
 refine⟨a,rfl,nh hH,B,O₀,O,ρ,_,st.mono s1,e2,λuy H2 s2 g2=>⟨B,O₀,O,ρ,z,st.mono (s1.trans s2),e3,λuz H3 s3 g3=>?_⟩⟩
 refine⟨_,np e4 (ae.rd s3 (ae.rd s2 hH)) (g2.1.mono s3),?_⟩
 rw [uH e5 g3.1]
 have e7:(oo.map Sc.v).getD sz.v=(oo.getD sz).v:=by cases oo<;>rfl
 rw [e7]
 refine q _ H3 (s1.trans (s2.trans s3)) ?_
 rw [<- e6]
 exact .of (pL _ _ _)
theorem BG{ma mk:ME}{o i:Expr}{pos:Pos}(g:Gf X T k cal)(ha:PE X o (tE X.K cal ma))(hk:PE X i (tE X.K cal mk))(hs:aG i=true):PE X (.Subscript o i pos) (tE X.K cal (.dat ma mk)):=by
 have hu:X.A.units+1<cLine:=by have:=g.units;omega
 refine(wu hu ha hk (by cases i<;>first|(intro _ _;rfl)|(simp [aG]at hs))).imp λσ H Q q=>?_
 obtain⟨B,O₀,O,ρ,v,st,e1,q⟩:=q
 rw [ev]at e1
 simp only [Option.bind_eq_some_iff,Option.map_eq_some_iff]at e1
 obtain⟨x,e1,y,e2,oo,e4,sz,rfl,e6⟩:=e1
 cases x<;>try (cases e4;done)
 refine⟨B,O₀,O,ρ,_,st,e1,λux H1 s1 g1=>?_⟩
 obtain⟨a,rfl,hH⟩:=g1.1.dI
 refine⟨B,O₀,O,ρ,_,st.mono s1,e2,λuy H2 s2 g2=>?_⟩
 refine⟨a,_,rfl,np e4 (ae.rd s2 hH) g2.1,q _ H2 (s1.trans s2) ?_⟩
 rw [<- e6]
 exact .of (pL _ _ _)
end
mutual
theorem aj {T:Tab}{k:Nat}{cal:Cal}:∀ (me:ME) {X:Cx}{e:Expr},Gf X T k cal->chk T me X.N X.env.scope e=true->PE X e (tE X.K cal me)/\PT X e (tT X.K cal me)
  | .var i,X,e,g,h=>by
    cases e<;>simp only [cc,ce,cf,bx,cg,ci,cj,cm,dB,cn,cq,ba,cr,cu,cv,bb,cw,bz,aM,Bool.false_eq_true]at h
    exact⟨xU h,bj (xU h) rfl⟩
  | .bor i,X,e,g,h=>by
    cases e<;>simp only [cc,ce,cf,bx,cg,ci,cj,cm,dB,cn,cq,ba,cr,cu,cv,bb,cw,bz,aM,Bool.false_eq_true]at h
    exact⟨xV h,bj (xV h) rfl⟩
  | .cst v,X,e,g,h=>by
    cases e<;>simp only [cc,ce,cf,bx,cg,ci,cj,cm,dB,cn,cq,ba,cr,cu,cv,bb,cw,bz,aM,Bool.false_eq_true]at h
    exact⟨xW h,bj (xW h) rfl⟩
  | .glob x v,X,e,g,h=>by
    cases e<;>try (simp only [cc,ce,cf,bx,cg,ci,cj,cm,dB,cn,cq,ba,cr,cu,cv,bb,cw,bz,aM,Bool.false_eq_true]at h;done)
    exact⟨uh g h,bj (uh g h) rfl⟩
  | .bin op a b,X,e,g,h=>by
    cases e<;>simp only [cc,ce,cf,bx,cg,ci,cj,cm,dB,cn,cq,ba,cr,cu,cv,bb,cw,bz,aM,Bool.false_eq_true,Bool.and_eq_true,beq_iff_eq]at h
    obtain⟨⟨rfl,h1⟩,h2⟩:=h
    have p:=λ(pos:Pos)=>Bv (op:=op) (pos:=pos) (aj a g h1).1 (aj b g h2).1
    exact⟨p _,bj (p _) rfl⟩
  | .neg _,X,e,g,h=>absurd (show false=true from h) Bool.false_ne_true
  | .not a,X,e,g,h=>by
    cases e with
    | UnaryOp op x pos =>
      cases op<;>simp only [cc,ce,cf,bx,cg,ci,cj,cm,dB,cn,cq,ba,cr,cu,cv,bb,cw,bz,aM,Bool.false_eq_true]at h
      exact⟨Bw (aj a g h).1,Bx (aj a g h).2⟩
    | _=>cases (show false=true from h)
  | .and a b,X,e,g,h=>by
    cases e with
    | BoolOp op vs pos =>
      cases op with
      |Or=>cases (show false=true from h)
      | And =>
        match vs,h with
        | [],h=>cases (show false=true from h)
        | [x],h=>cases (show false=true from h)
        | [x,y],h =>
          have h:(chk T a X.N X.env.scope x&&chk T b X.N X.env.scope y)=true:=h
          simp only [Bool.and_eq_true]at h
          exact⟨xX (aj a g h.1).1 (sE (aj b g h.2).1),xZ (aj a g h.1).2 (v5 (aj b g h.2).2)⟩
        | x::y::z::r,h =>
          have h:(chk T a X.N X.env.scope x&&chk T b X.N X.env.scope (.BoolOp .And (y::z::r) pos))=true:=h
          simp only [Bool.and_eq_true]at h
          exact⟨xX (aj a g h.1).1 (aj b g h.2).1,xZ (aj a g h.1).2 (xY (aj b g h.2).2)⟩
    | _=>cases (show false=true from h)
  | .or a b,X,e,g,h=>by
    cases e with
    | BoolOp op vs pos =>
      cases op with
      |And=>cases (show false=true from h)
      | Or =>
        match vs,h with
        | [],h=>cases (show false=true from h)
        | [x],h=>cases (show false=true from h)
        | [x,y],h =>
          have h:(chk T a X.N X.env.scope x&&chk T b X.N X.env.scope y)=true:=h
          simp only [Bool.and_eq_true]at h
          exact⟨By (aj a g h.1).1 (sE (aj b g h.2).1),Bz (aj a g h.1).2 (yf (aj b g h.2).2)⟩
        | x::y::z::r,h =>
          have h:(chk T a X.N X.env.scope x&&chk T b X.N X.env.scope (.BoolOp .Or (y::z::r) pos))=true:=h
          simp only [Bool.and_eq_true]at h
          exact⟨By (aj a g h.1).1 (aj b g h.2).1,Bz (aj a g h.1).2 (xY (aj b g h.2).2)⟩
    | _=>cases (show false=true from h)
  | .ite c a b,X,e,g,h=>by
    cases e<;>simp only [cc,ce,cf,bx,cg,ci,cj,cm,dB,cn,cq,ba,cr,cu,cv,bb,cw,bz,aM,Bool.false_eq_true,Bool.and_eq_true,Bool.not_eq_true']at h
    obtain⟨⟨⟨⟨h1,h2⟩,h3⟩,h4⟩,h5⟩:=h
    exact⟨BA (aj c g h1).2 (aj a g h2).1 (aj b g h3).1 h4 h5,BB (aj c g h1).2 (aj a g h2).2 (aj b g h3).2⟩
  | .cmp op a b,X,e,g,h=>by
    cases e with
    | Compare l ops rs pos =>
      match ops,rs,h with
      | [o],[r],h =>
        simp only [cc,ce,cf,bx,cg,ci,cj,cm,dB,cn,cq,ba,cr,cu,cv,bb,cw,bz,aM,Bool.and_eq_true,beq_iff_eq,Bool.not_eq_true']at h
        obtain⟨⟨⟨rfl,h1⟩,h2⟩,h3⟩:=h
        exact BC g (aj a g h1).1 (aj b g h2).1 h3
      | [],_,h=>cases (show false=true from h)
      | [_],[],h=>cases (show false=true from h)
      | [_],_::_::_,h=>cases (show false=true from h)
      | _::_::_,_,h=>cases (show false=true from h)
    | _=>cases (show false=true from h)
  | .chain _ _ _ _ _,X,e,g,h=>absurd (show false=true from h) Bool.false_ne_true
  | .tup es,X,e,g,h=>by
    cases e<;>simp only [cc,ce,cf,bx,cg,ci,cj,cm,dB,cn,cq,ba,cr,cu,cv,bb,cw,bz,aM,Bool.false_eq_true,Bool.and_eq_true]at h
    have p:=λ(j:Nat) (pos:Pos)=>BD (j:=j) (pos:=pos) (sounds es g h.1) h.2
    exact⟨p _ _,bj (p _ _) rfl⟩
  | .lst es,X,e,g,h=>by
    cases e<;>simp only [cc,ce,cf,bx,cg,ci,cj,cm,dB,cn,cq,ba,cr,cu,cv,bb,cw,bz,aM,Bool.false_eq_true,Bool.and_eq_true]at h
    have p:=λ(pos:Pos)=>dY (λρ v hv=>by
      rw [ev,Option.bind_eq_some_iff]at hv
      obtain⟨vs,_,hv⟩:=hv
      split at hv
      · cases hv;exact⟨_,rfl⟩
      · cases hv) (x0 (pos:=pos) (sounds es g h.1) h.2)
    exact⟨p _,bj (p _) rfl⟩
  | .idx a i,X,e,g,h=>by
    cases e with
    | Subscript v s pos =>
      cases s<;>first
        | (simp only [cc,ce,cf,bx,cg,ci,cj,cm,dB,cn,cq,ba,cr,cu,cv,bb,cw,bz,aM,Bool.and_eq_true,Bool.false_eq_true] at h
           obtain⟨⟨h1,h2⟩,h3⟩:=h
           have p:=BE (pos:=pos) (aj a g h1).1 (aj i g h2).1 h3
           exact⟨p,bj p rfl⟩)
        | (simp [cc,ce,cf,bx,cg,ci,cj,cm,dB,cn,cq,ba,cr,cu,cv,bb,cw,bz,aM,aG]at h)
    | _=>cases (show false=true from h)
  | .slice a lo hi,X,e,g,h=>by
    cases e with
    | Subscript v s pos =>
      cases s with
      | Slice l u st p2 =>
        cases st with
        | none =>
          have h:(chk T a X.N X.env.scope v&&gh (λe=>chk T lo X.N X.env.scope e) (eT lo) l&&gh (λe=>chk T hi X.N X.env.scope e) (eT hi) u)=true:=h
          simp only [Bool.and_eq_true]at h
          obtain⟨⟨h1,h2⟩,h3⟩:=h
          have q1:PO X l (tB1 X.K cal lo):=by
            cases l with
            |none=>exact uA h2
            | some l =>
              simp only [gh,Bool.and_eq_true,Bool.not_eq_true']at h2
              exact uB (aj lo g h2.1).1 h2.2
          have q2:PO X u (tB1 X.K cal hi):=by
            cases u with
            |none=>exact uA h3
            | some u =>
              simp only [gh,Bool.and_eq_true,Bool.not_eq_true']at h3
              exact uB (aj hi g h3.1).1 h3.2
          have p:=xb (p2:=p2) (pos:=pos) (aj a g h1).1 q1 q2
          exact⟨p,bj p rfl⟩
        |some _=>cases (show false=true from h)
      | _=>cases (show false=true from h)
    | _=>cases (show false=true from h)
  | .blt b es,X,e,g,h=>by
    cases e with
    | Call fn args kws pos =>
      cases fn with
      | Name x p =>
        cases kws with
        | nil =>
          have h:(x == (l7 b:Str)&&glB X.env.scope x&&cy X.env.scope (λxs=>chks T es X.N X.env.scope xs) es.length b args)=true:=h
          simp only [Bool.and_eq_true,beq_iff_eq]at h
          obtain⟨⟨hx,hg⟩,ha⟩:=h
          have q:=(oQ (p:=p) (pos:=pos) g hx hg ha (λxs hxs=>⟨sounds es g hxs,bN hxs⟩) (λm x hm hx=>match es,hm with|[m'],rfl=>(aj m' g (by simp only [chks,Bool.and_eq_true]at hx;exact hx.1.1)).1) (λa b x x' hm hx=>match es,hm with|[m1,m2],rfl=>⟨(aj m1 g (by simp only [chks,Bool.and_eq_true]at hx;exact hx.1.1)).1,(aj m2 g (by simp only [chks,Bool.and_eq_true]at hx;exact hx.2.1.1)).1⟩)).2
          exact⟨q,bj q rfl⟩
        |cons _ _=>cases (show false=true from h)
      | _=>cases (show false=true from h)
    | _=>cases (show false=true from h)
  | .call f es,X,e,g,h=>by
    cases e with
    | Call fn args kws pos =>
      cases fn with
      | Name x p =>
        cases kws with
        | nil =>
          have h:(T.fs[f]? == some x&&glB X.env.scope x&&az x&&chks T es X.N X.env.scope args)=true:=h
          simp only [Bool.and_eq_true,beq_iff_eq]at h
          obtain⟨⟨⟨h1,h2⟩,h3⟩,h4⟩:=h
          obtain⟨hs,hl⟩:=bN h4
          have q:=zu (p:=p) (pos:=pos) g h1 h2 h3 (soundA es g h4) hs hl
          exact⟨q,bj q rfl⟩
        |cons _ _=>cases (show false=true from h)
      | _=>cases (show false=true from h)
    | _=>cases (show false=true from h)
  | .callD _ _ _,X,e,g,h=>absurd (show false=true from h) Bool.false_ne_true
  | .lenL i,X,e,g,h=>by
    have h:(match rP e with|some (x,some y,none)=>x == ("len":Str)&&glB X.env.scope x&&ax X.N X.env.scope i y|_=>false)=true:=h
    split at h
    · rename_i x y hl
      rcases qt hl with ⟨p,yp,pos,y',rfl,h1,_⟩|⟨_,_,_,_,_,_,_,_,z⟩
      · cases h1
        obtain⟨h5,h3⟩:=(iff_of_eq (Bool.and_eq_true _ _)).mp h
        obtain⟨h4,h2⟩:=(iff_of_eq (Bool.and_eq_true _ _)).mp h5
        have hx:x=("len":Str):=eq_of_beq h4
        subst hx
        have q:PE X (.Call (.Name ("len":Str) p) [.Name y yp] [] pos) (tE X.K cal (.lenL i)):=zA g h2 h3
        exact⟨q,bj q rfl⟩
      · cases z
    · cases h
  | .lenI i mk,X,e,g,h=>by
    have h:(match rP e with|some (x,some y,some s)=>x == ("len":Str)&&glB X.env.scope x&&ax X.N X.env.scope i y&&chk T mk X.N X.env.scope s&&aG s|_=>false)=true:=h
    split at h
    · rename_i x y s hl
      rcases qt hl with ⟨_,_,_,_,_,_,z⟩|⟨p,yp,sp,pos,y',s',rfl,h1,h0⟩
      · cases z
      · cases h1
        cases h0
        obtain⟨a1,h5⟩:=(iff_of_eq (Bool.and_eq_true _ _)).mp h
        obtain⟨a2,h4⟩:=(iff_of_eq (Bool.and_eq_true _ _)).mp a1
        obtain⟨a3,h3⟩:=(iff_of_eq (Bool.and_eq_true _ _)).mp a2
        obtain⟨a4,h2⟩:=(iff_of_eq (Bool.and_eq_true _ _)).mp a3
        have hx:x=("len":Str):=eq_of_beq a4
        subst hx
        have q:PE X (.Call (.Name ("len":Str) p) [.Subscript (.Name y yp) s sp] [] pos) (tE X.K cal (.lenI i mk)):=zB g h2 h3 (aj mk g h4).1 h5
        exact⟨q,bj q rfl⟩
    · cases h
  | .dIn neg mk ma,X,e,g,h=>by
    cases e with
    | Compare l ops rs pos =>
      match ops,rs,h with
      | [o],[r],h =>
        simp only [zb,Bool.and_eq_true,beq_iff_eq,Bool.not_eq_true']at h
        obtain⟨⟨⟨rfl,h1⟩,h2⟩,h3⟩:=h
        exact BF g (aj mk g h1).1 (aj ma g h2).1 h3
      | [],_,h=>cases (show false=true from h)
      | [_],[],h=>cases (show false=true from h)
      | [_],_::_::_,h=>cases (show false=true from h)
      | _::_::_,_,h=>cases (show false=true from h)
    | _=>cases (show false=true from h)
  | .dat ma mk,X,e,g,h=>by
    cases e with
    | Subscript v s pos =>
      simp only [ua,Bool.and_eq_true]at h
      have p:=BG (pos:=pos) g (aj ma g h.1.1).1 (aj mk g h.1.2).1 h.2
      exact⟨p,bj p rfl⟩
    | _=>simp only [ua,Bool.false_eq_true]at h
  | .dget ma mk md,X,e,g,h=>by
    cases e with
    | Call fn args kws pos =>
      cases fn with
      | Attribute o m ap =>
        match args,kws,h with
        | [x,y],[],h =>
          simp only [wP,Bool.and_eq_true,beq_iff_eq]at h
          obtain⟨⟨⟨⟨⟨⟨⟨rfl,h1⟩,h2⟩,h3⟩,h4⟩,h5⟩,h6⟩,h7⟩:=h
          have p:=zC (ap:=ap) (cp:=pos) g (aj ma g h3).1 (aj mk g h4).1 (aj md g h5).1 h1 (by rw [h2];simp) h6 h7
          exact⟨p,bj p rfl⟩
        | [],_,h=>cases (show false=true from h)
        | [_],_,h=>cases (show false=true from h)
        | _::_::_::_,_,h=>cases (show false=true from h)
        | [_,_],_::_,h=>cases (show false=true from h)
      | _=>cases (show false=true from h)
    | _=>cases (show false=true from h)
  | .comp k' src js cond elt,X,e,g,h=>by
    cases e with
    | ListComp e gens scope pos =>
      match gens,h with
      | [],h=>cases (show false=true from h)
      | ⟨tg,it,ifs,as⟩::[],h =>
        cases tg with
        | Name x px =>
          by_cases has:as=0
          · subst has
            have h:(eI X.env.scope X.N scope x (b9 X.N js) js&&dN X.env.scope false (λxs=>chks T src X.N X.env.scope xs) k' it&&ku (λc=>chk T cond (x::b9 X.N js) (gH scope X.env.scope) c) cond ifs&&chk T elt (x::b9 X.N js) (gH scope X.env.scope) e&&!aH elt)=true:=h
            simp only [Bool.and_eq_true,Bool.not_eq_true']at h
            obtain⟨⟨⟨⟨h1,h2⟩,h3⟩,h4⟩,h5⟩:=h
            have hw:=kE (tg:=.Name x px) (λz=>by cases z) g h2 (λxs hxs=>⟨sounds src g hxs,bN hxs⟩) (λm x hm hx=>match src,hm with|[m'],rfl=>(aj m' g (by simp only [chks,Bool.and_eq_true]at hx;exact hx.1.1)).1)
            have q:=dY oP (pH (pos:=pos) g h1 hw.1 hw.2 (λs₁ H₁ C fp=>pK h3 λc hc=>(aj cond (g.blk x (b9 X.N js) scope s₁ H₁ C fp) hc).2) (λs₁ H₁ C fp=>(aj elt (g.blk x (b9 X.N js) scope s₁ H₁ C fp) h4).1) h5)
            exact⟨q,bj q rfl⟩
          · exact absurd h (by
              have:chk T (.comp k' src js cond elt) X.N X.env.scope (.ListComp e [⟨.Name x px,it,ifs,as⟩] scope pos)=false:=by
                rw [aM]
                split<;>first|rfl|(rename_i z;simp_all)
              rw [this];exact Bool.false_ne_true)
        | _=>cases (show false=true from h)
      | _::_::_,h=>simp [aM]at h
    | _=>cases (show false=true from h)
theorem sounds{T:Tab}{k:Nat}{cal:Cal}:∀(ms:List ME) {X:Cx}{es:List Expr},Gf X T k cal->chks T ms X.N X.env.scope es=true->PA X es (tEs X.K cal ms)
 | [],X,es,g,h=>by
  cases es with
  |nil=>exact xa
  |cons _ _=>simp [chks]at h
 | m::ms,X,es,g,h=>by
  cases es with
  |nil=>simp [chks]at h
  |cons e es =>
   simp only [chks,Bool.and_eq_true]at h
   exact ur (aj m g h.1.1).1 (sounds ms g h.2) h.1.2
theorem soundA{T:Tab}{k:Nat}{cal:Cal}:∀(ms:List ME) {X:Cx}{es:List Expr},Gf X T k cal->chks T ms X.N X.env.scope es=true->PA X es (tAs X.K cal ms)
 | [],X,es,g,h=>by
  cases es with
  |nil=>exact ut
  |cons _ _=>simp [chks]at h
 | m::ms,X,es,g,h=>by
  cases es with
  |nil=>simp [chks]at h
  | cons e es =>
   simp only [chks,Bool.and_eq_true]at h
   have hs:=soundA ms g h.2
   cases hb:aH m with
   |false=>exact rW hb (aj m g h.1.1).1 hs h.1.2
   |true =>
    cases m<;>simp [aH]at hb
    have h1:=h.1.1
    cases e<;>simp only [cc,ce,cf,bx,cg,ci,cj,cm,dB,cn,cq,ba,cr,cu,cv,bb,cw,bz,aM,Bool.false_eq_true]at h1
    exact uv h1 hs
end
theorem uJ {T:Tab}{k:Nat}{cal:Cal}{me:ME}{X:Cx}{e:Expr} (g:Gf X T k cal) (h:chk T me X.N X.env.scope e=true) (hf:bE me=true):PE X e (tF X.K cal me):=by
 cases me with
 |lst es =>
  cases e<;>simp only [cc,ce,cf,bx,cg,ci,cj,cm,dB,cn,cq,ba,cr,cu,cv,bb,cw,bz,aM,Bool.false_eq_true,Bool.and_eq_true]at h
  exact x0 (sounds es g h.1) h.2
 | blt b es =>
  cases e with
  | Call fn args kws pos =>
   cases fn with
   | Name x p =>
    cases kws with
    |nil =>
     have h:(x == (l7 b:Str)&&glB X.env.scope x&&cy X.env.scope (λxs=>chks T es X.N X.env.scope xs) es.length b args)=true:=h
     simp only [Bool.and_eq_true,beq_iff_eq]at h
     obtain⟨⟨hx,hg⟩,ha⟩:=h
     exact(oQ (p:=p) (pos:=pos) g hx hg ha (λxs hxs=>⟨sounds es g hxs,bN hxs⟩) (λm x hm hx=>match es,hm with|[m'],rfl=>(aj m' g (by simp only [chks,Bool.and_eq_true]at hx;exact hx.1.1)).1) (λa b x x' hm hx=>match es,hm with|[m1,m2],rfl=>⟨(aj m1 g (by simp only [chks,Bool.and_eq_true]at hx;exact hx.1.1)).1,(aj m2 g (by simp only [chks,Bool.and_eq_true]at hx;exact hx.2.1.1)).1⟩)).1 hf
    |cons _ _=>cases (show false=true from h)
   | _=>cases (show false=true from h)
  | _=>cases (show false=true from h)
 | comp k' src js cond elt =>
  cases e with
  | ListComp e gens scope pos =>
   match gens,h with
   | [],h=>cases (show false=true from h)
   | ⟨tg,it,ifs,as⟩::[],h =>
    cases tg with
    | Name x px =>
     by_cases has:as=0
     ·subst has
      have h:(eI X.env.scope X.N scope x (b9 X.N js) js&&dN X.env.scope false (λxs=>chks T src X.N X.env.scope xs) k' it&&ku (λc=>chk T cond (x::b9 X.N js) (gH scope X.env.scope) c) cond ifs&&chk T elt (x::b9 X.N js) (gH scope X.env.scope) e&&!aH elt)=true:=h
      simp only [Bool.and_eq_true,Bool.not_eq_true']at h
      obtain⟨⟨⟨⟨h1,h2⟩,h3⟩,h4⟩,h5⟩:=h
      have hw:=kE (tg:=.Name x px) (λz=>by cases z) g h2 (λxs hxs=>⟨sounds src g hxs,bN hxs⟩) (λm x hm hx=>match src,hm with|[m'],rfl=>(aj m' g (by simp only [chks,Bool.and_eq_true]at hx;exact hx.1.1)).1)
      exact pH (pos:=pos) g h1 hw.1 hw.2 (λs₁ H₁ C fp=>pK h3 λc hc=>(aj cond (g.blk x (b9 X.N js) scope s₁ H₁ C fp) hc).2) (λs₁ H₁ C fp=>(aj elt (g.blk x (b9 X.N js) scope s₁ H₁ C fp) h4).1) h5
     ·exact absurd h (by
       have:chk T (.comp k' src js cond elt) X.N X.env.scope (.ListComp e [⟨.Name x px,it,ifs,as⟩] scope pos)=false:=by
        rw [aM]
        split<;>first|rfl|(rename_i z;simp_all)
       rw [this];exact Bool.false_ne_true)
    | _=>cases (show false=true from h)
   | _::_::_,h=>simp [aM]at h
  | _=>cases (show false=true from h)
 | _=>simp [bE]at hf
end MM
namespace MM
open PySem PySem.Spec PyProof.Rows L2
noncomputable def BH:MV->Bool
 | .brw _=>true
 | .brwD _=>true
 | _=>false
theorem qJ{m:MV}(h1:db m=true)(h2:BH m=true):False:=by cases m<;>first|(cases h2;done)|(cases h1;done)
structure bF(B:Hp)(O O':List Addr)(ρ ρ':Rho)(σ σ':St):Prop where
 stay:∀a,B a≠none->a∈O->a∈O'
 new:∀a∈O',a∈O\/B a=none
 brw:∀(i:Nat) (m:MV),BH m=true->ρ'[i]?=some (some m)->ρ[i]?=some (some m)/\σ'[i]?=σ[i]?
 len:ρ'.length=ρ.length
theorem bF.refl{B:Hp}{O:List Addr}{ρ:Rho}{σ:St}:bF B O O ρ ρ σ σ:=⟨λ_ _ h=>h,λ_ h=>.inl h,λ_ _ _ h=>⟨h,rfl⟩,rfl⟩
theorem bF.trans{B:Hp}{O O1 O2:List Addr}{ρ ρ1 ρ2:Rho}{σ σ1 σ2:St}(a:bF B O O1 ρ ρ1 σ σ1)(b:bF B O1 O2 ρ1 ρ2 σ1 σ2):bF B O O2 ρ ρ2 σ σ2 where
 stay:=λx h1 h2=>b.stay x h1 (a.stay x h1 h2)
 new:=λx h=>(b.new x h).elim (a.new x) .inr
 brw:=λi xs hm h=>by
  obtain⟨h1,e1⟩:=b.brw i xs hm h
  obtain⟨h2,e2⟩:=a.brw i xs hm h1
  exact⟨h2,e1.trans e2⟩
 len:=b.len.trans a.len
noncomputable def fO(K:PySem.W.Frag)(B:Hp)(O₀ O:List Addr)(ρ:Rho)(σ:St)(D:jx):R->Prop
 | .next ρ'=>∀σ' H' O',aC K B O₀ O' H' ρ' σ'->bF B O O' ρ ρ' σ σ'->D.nx σ' H'
 | .brk ρ'=>∀σ' H' O',aC K B O₀ O' H' ρ' σ'->bF B O O' ρ ρ' σ σ'->D.bk σ' H'
 | .cont ρ'=>∀σ' H' O',aC K B O₀ O' H' ρ' σ'->bF B O O' ρ ρ' σ σ'->D.ct σ' H'
 | .ret v=>∀u H',ae B H'->Rep K (ai H' O₀) v u->D.rt u H'
 | .retF xs=>∀p us H',ae B H'->B p=none->H' p=some (.lst us)->Reps K (ai H' (p::O₀)) xs us->D.rt (.ref p) H'
 | .bad=>False
theorem fO.trans{K:PySem.W.Frag}{B:Hp}{O₀ O O':List Addr}{ρ ρ':Rho}{σ σ':St}{D:jx}{r:R}(h:fO K B O₀ O ρ σ D r)(k:bF B O O' ρ ρ' σ σ'):fO K B O₀ O' ρ' σ' D r:=by
 cases r with
 |next ρ2=>exact λσ2 H2 O2 st k2=>h σ2 H2 O2 st (k.trans k2)
 |brk ρ2=>exact λσ2 H2 O2 st k2=>h σ2 H2 O2 st (k.trans k2)
 |cont ρ2=>exact λσ2 H2 O2 st k2=>h σ2 H2 O2 st (k.trans k2)
 |ret v=>exact h
 |bad=>exact h
 |retF xs=>exact h
noncomputable def tS(K:PySem.W.Frag)(cal:Cal)(m:MS):TS:=λD σ H=>∃B O₀ O ρ,aC K B O₀ O H ρ σ/\fO K B O₀ O ρ σ D (ex cal m ρ)
noncomputable def tSs(K:PySem.W.Frag)(cal:Cal)(ms:List MS):TS:=λD σ H=>∃B O₀ O ρ,aC K B O₀ O H ρ σ/\fO K B O₀ O ρ σ D (exs cal ms ρ)
section
variable{K:PySem.W.Frag}{B H H':Hp}{O₀ O:List Addr}{ρ:Rho}{σ:St}
theorem ac{i:Nat}{m:MV}(h:i<ρ.length):(put ρ i m)[i]?=some (some m):=by unfold put;exact List.getElem?_set_self h
theorem aa{i j:Nat}{m:MV}(h:i≠j):(put ρ i m)[j]?=ρ[j]?:=by unfold put;exact List.getElem?_set_ne h
theorem put_len{i:Nat}{m:MV}:(put ρ i m).length=ρ.length:=by unfold put;exact List.length_set
theorem bL.view{O':List Addr}(s:ae H H')(v:ae (ai H O) (ai H' O'))(ho:∀b∈O,b∈O'){xss:List (List PV)}{bs:List Addr}(h:bL K H O B xss bs):bL K H' O' B xss bs:=by
 induction h with
 |nil=>exact .nil
 |cons h r o hb t ih=>exact .cons (s _ _ h) (Reps.mono v _ r) (ho _ o) hb ih
theorem bL.upd{a:Addr}{ob:HO}(hid:ai (L2.upd H a ob) O=ai H O){xss:List (List PV)}{bs:List Addr}(h:bL K H O B xss bs)(hn:∀b∈bs,b≠a):bL K (L2.upd H a ob) O B xss bs:=by
 induction h with
 |nil=>exact .nil
 |cons h r o hb t ih=>exact .cons (by rw [aB (hn _ (.head _))];exact h) (by rw [hid];exact r) o hb (ih λb hb=>hn b (.tail _ hb))
theorem bL.less{O':List Addr}(v:ae (ai H O) (ai H O')){xss:List (List PV)}{bs:List Addr}(h:bL K H O B xss bs)(ho:∀b∈bs,b∈O->b∈O'):bL K H O' B xss bs:=by
 induction h with
 |nil=>exact .nil
 |cons h r o hb t ih=>exact .cons h (Reps.mono v _ r) (ho _ (.head _) o) hb (ih λb hb=>ho b (.tail _ hb))
theorem bL.base{B':Hp}{xss:List (List PV)}{bs:List Addr}(h:bL K H O B xss bs)(hb:∀b∈bs,b∈O->B b=none->B' b=none):bL K H O B' xss bs:=by
 induction h with
 |nil=>exact .nil
 |cons h r o hb' t ih=>exact .cons h r o (hb _ (.head _) o hb') (ih λb h=>hb b (.tail _ h))
theorem aC.store(st:aC K B O₀ O H ρ σ){i:Nat}{v:PV}{u:V}(hi:i<σ.length)(r:Rep K (ai H O) v u):aC K B O₀ O H (put ρ i (.val v)) (σ.set i (some u))/\bF B O O ρ (put ρ i (.val v)) σ (σ.set i (some u)):=by
 have hi':i<ρ.length:=by rw [st.len];exact hi
 refine⟨⟨st.keep,st.here,st.sub,st.old,by rw [put_len,List.length_set];exact st.len,λj m e=>?_,λa b xs ys ad hab e1 e2 o1 o2 e3 e4=>?_
  ,d7 st.inn (λj xss e=>by
   have hj:i≠j:=λz=>by subst z;rw [ac hi']at e;cases e
   rw [aa hj]at e
   exact⟨e,List.getElem?_set_ne hj,λ_ _ _ h=>h⟩) λj m c e _ o es=>.inl (by
   have hj:i≠j:=λz=>by subst z;rw [ac hi']at e;cases e;cases o
   rw [aa hj]at e
   rw [List.getElem?_set_ne hj]at es
   exact⟨m,e,o,es⟩)
  ⟩,⟨λ_ _ h=>h,λ_ h=>.inl h,λj xs hbm e=>?_,put_len
  ⟩⟩
 ·by_cases hj:i=j
  ·subst hj
   rw [ac hi']at e
   cases e
   exact⟨u,List.getElem?_set_self hi,r⟩
  ·rw [aa hj]at e
   obtain⟨w,e1,q⟩:=st.slot j m e
   exact⟨w,by rw [List.getElem?_set_ne hj];exact e1,q⟩
 ·have h1:i≠a:=λz=>by subst z;rw [ac hi']at e1;cases e1;cases o1
  have h2:i≠b:=λz=>by subst z;rw [ac hi']at e2;cases e2;cases o2
  rw [aa h1]at e1
  rw [aa h2]at e2
  rw [List.getElem?_set_ne h1]at e3
  rw [List.getElem?_set_ne h2]at e4
  exact st.apart a b xs ys ad hab e1 e2 o1 o2 e3 e4
 ·have hj:i≠j:=λz=>by subst z;rw [ac hi']at e;cases e;cases hbm
  rw [aa hj]at e
  exact⟨e,List.getElem?_set_ne hj⟩
theorem aC.storeM(st:aC K B O₀ O H ρ σ){i:Nat}{mm:MV}{p:Addr}(hi:i<σ.length)(s:ae H H')(hp:H p=none)(e:H' p≠none)(hm:db mm=true)
  (r:B p=none->eQ K B (p::O) H' mm (.ref p))
  (hLL:isL mm=false:=by rfl)
  :
  aC K B O₀ (p::O) H' (put ρ i mm) (σ.set i (some (.ref p)))/\bF B O (p::O) ρ (put ρ i mm) σ (σ.set i (some (.ref p))):=by
 have hi':i<ρ.length:=by rw [st.len];exact hi
 have hBp:B p=none:=st.keep.free hp
 have vis:ae (ai H O) (ai H' (p::O)):=aQ s λb hb=>by
  rcases List.mem_cons.mp hb with rfl|hb
  ·exact .inr hp
  ·exact .inl hb
 refine⟨⟨st.keep.trans s,λa ha=>?_,λa ha=>List.mem_cons_of_mem _ (st.sub a ha),st.old,by rw [put_len,List.length_set];exact st.len,λj m ej=>?_,λa b xs ys ad hab e1 e2 o1 o2 e3 e4=>?_
  ,d7 st.inn (λj xss e=>by
   have hj:i≠j:=λz=>by subst z;rw [ac hi']at e;cases e;cases hLL
   rw [aa hj]at e
   refine⟨e,List.getElem?_set_ne hj,λa us e1 e2=>?_⟩
   obtain⟨u,e3,a',bs,rfl,q,_⟩:=st.slot j _ e
   rw [e1]at e3
   cases e3
   have:=s _ _ q
   rw [e2]at this
   rw [q,this]) λj m c e _ o es=>by
   by_cases hj:i=j
   ·subst hj
    rw [List.getElem?_set_self hi]at es
    cases es
    refine .inr λk xss a us f1 f2 f3 z=>?_
    obtain⟨u,e3,a',bs,rfl,q,r,_⟩:=st.slot k _ f1
    rw [f2]at e3
    cases e3
    rw [q]at f3
    cases f3
    exact(r.at p (dl.mp z)).1 hp
   ·rw [aa hj]at e
    rw [List.getElem?_set_ne hj]at es
    exact .inl ⟨m,e,o,es⟩
  ⟩,⟨λ_ _ h=>List.mem_cons_of_mem _ h,λa ha=>?_,λj xs hbm ej=>?_,put_len
  ⟩⟩
 ·rcases List.mem_cons.mp ha with rfl|ha
  ·exact e
  ·exact λz=>st.here a ha (s.free z)
 ·by_cases hj:i=j
  ·subst hj
   rw [ac hi']at ej
   cases ej
   exact⟨_,List.getElem?_set_self hi,r hBp⟩
  ·rw [aa hj]at ej
   obtain⟨w,e1,q⟩:=st.slot j m ej
   refine⟨w,by rw [List.getElem?_set_ne hj];exact e1,?_⟩
   cases m with
   |val v=>exact Rep.mono vis _ q
   |own ys=>obtain⟨a,ws,e2,h1,h2,h3,h4⟩:=q;exact⟨a,ws,e2,s _ _ h1,Reps.mono vis _ h2,List.mem_cons_of_mem _ h3,h4⟩
   |brw ys=>obtain⟨a,ws,e2,h1,h2⟩:=q;exact⟨a,ws,e2,h1,Reps.mono vis _ h2⟩
   |ownD ys=>obtain⟨a,e2,h1,h3,h4⟩:=q;exact⟨a,e2,s _ _ h1,List.mem_cons_of_mem _ h3,h4⟩
   |ownL yss =>
    obtain⟨a,bs,e2,h1,h2,h3,h4,h5⟩:=q
    exact⟨a,bs,e2,s _ _ h1,h2.view s vis λb hb=>List.mem_cons_of_mem _ hb,List.mem_cons_of_mem _ h3,h4,h5⟩
   |brwD ys=>exact q
 ·have other:∀(j:Nat) (zs:MV) (ad:Addr),ρ[j]?=some (some zs)->db zs=true->σ[j]?=some (some (.ref ad))->ad≠p:=λj zs ad h1 ho h2 z=>by
   obtain⟨w,e1,q⟩:=st.slot j _ h1
   rw [h2]at e1
   cases e1
   cases zs with
   |own zs =>
    obtain⟨a,ws,e2,h1,_⟩:=q
    cases e2
    rw [z,hp]at h1;cases h1
   |ownD zs =>
    obtain⟨a,e2,h1,_⟩:=q
    cases e2
    rw [z,hp]at h1;cases h1
   |ownL zs =>
    obtain⟨a,bs,e2,h1,_⟩:=q
    cases e2
    rw [z,hp]at h1;cases h1
   |val _=>cases ho
   |brw _=>cases ho
   |brwD _=>cases ho
  by_cases ha:i=a
  ·subst ha
   have hb:i≠b:=hab
   rw [List.getElem?_set_self hi]at e3
   rw [aa hb]at e2
   rw [List.getElem?_set_ne hb]at e4
   cases e3
   exact other b ys _ e2 o2 e4 rfl
  ·by_cases hb:i=b
   ·subst hb
    rw [List.getElem?_set_self hi]at e4
    rw [aa ha]at e1
    rw [List.getElem?_set_ne ha]at e3
    cases e4
    exact other a xs _ e1 o1 e3 rfl
   ·rw [aa ha]at e1
    rw [aa hb]at e2
    rw [List.getElem?_set_ne ha]at e3
    rw [List.getElem?_set_ne hb]at e4
    exact st.apart a b _ _ ad hab e1 e2 o1 o2 e3 e4
 ·rcases List.mem_cons.mp ha with rfl|ha
  ·exact .inr hBp
  ·exact .inl ha
 ·have hj:i≠j:=λz=>by subst z;rw [ac hi']at ej;cases ej;exact qJ hm hbm
  rw [aa hj]at ej
  exact⟨ej,List.getElem?_set_ne hj⟩
theorem aC.storeOwn(st:aC K B O₀ O H ρ σ){i:Nat}{xs:List PV}{p:Addr}{us:List V}(hi:i<σ.length)(s:ae H H')(hp:H p=none)(e:H' p=some (.lst us))(r:Reps K (ai H' (p::O)) xs us) :
  aC K B O₀ (p::O) H' (put ρ i (.own xs)) (σ.set i (some (.ref p)))/\bF B O (p::O) ρ (put ρ i (.own xs)) σ (σ.set i (some (.ref p))) :=
 st.storeM hi s hp (by rw [e];simp) rfl λhB=>⟨p,us,rfl,e,r,List.mem_cons_self,hB⟩
theorem aC.changeM(st:aC K B O₀ O H ρ σ){i:Nat}{m0 m1:MV}{a:Addr}{ob:HO}(e:ρ[i]?=some (some m0))(o0:db m0=true)(o1:db m1=true)
  (es:σ[i]?=some (some (.ref a))) (h3:a∈O) (h4:B a=none) (r:ai (upd H a ob) O=ai H O->eQ K B O (upd H a ob) m1 (.ref a))
  (hLL:isL m1=false:=by rfl)
  :
  aC K B O₀ O (upd H a ob) (put ρ i m1) σ/\bF B O O ρ (put ρ i m1) σ σ:=by
 have hi':i<ρ.length:=(List.getElem?_eq_some_iff.mp e).1
 have hid:ai (upd H a ob) O=ai H O:=fj h3
 have other:∀(j:Nat) (zs:MV) (ad:Addr),i≠j->ρ[j]?=some (some zs)->db zs=true->σ[j]?=some (some (.ref ad))->ad≠a:=λj zs ad hj q1 o2 q2 z=>by
  subst z
  exact st.apart i j m0 zs ad hj e q1 o0 o2 es q2
 refine⟨⟨λb u eb=>?_,λb hb=>?_,st.sub,st.old,by rw [put_len];exact st.len,λj m ej=>?_,λc d ps qs ad hcd e1 e2 p1 p2 e3 e4=>?_
  ,d7 st.inn (λj xss ej=>by
   have hj:i≠j:=λz=>by subst z;rw [ac hi']at ej;cases ej;cases hLL
   rw [aa hj]at ej
   refine⟨ej,rfl,λb us e1 e2=>?_⟩
   rw [aB (other j _ b hj ej rfl e1)]at e2
   exact e2) λj m c ej _ o ec=>.inl (by
   by_cases hj:i=j
   ·subst hj
    exact⟨m0,e,o0,ec⟩
   ·rw [aa hj]at ej
    exact⟨m,ej,o,ec⟩)
  ⟩,⟨λ_ _ h=>h,λ_ h=>.inl h,λj zs hbm ej=>?_,put_len
  ⟩⟩
 ·rw [aB (bD eb h4)]
  exact st.keep b u eb
 ·unfold upd
  split
  ·simp
  ·exact st.here b hb
 ·by_cases hj:i=j
  ·subst hj
   rw [ac hi']at ej
   cases ej
   exact⟨_,es,r hid⟩
  ·rw [aa hj]at ej
   obtain⟨w,ew,q⟩:=st.slot j m ej
   refine⟨w,ew,?_⟩
   cases m with
   |val v=>show Rep K (ai (upd H a ob) O) v w;rw [hid];exact q
   |own zs =>
    obtain⟨ad,ws,rfl,q1,q2,q3,q4⟩:=q
    refine⟨ad,ws,rfl,?_,by rw [hid];exact q2,q3,q4⟩
    rw [aB (other j (.own zs) ad hj ej rfl ew)]
    exact q1
   |ownD zs =>
    obtain⟨ad,rfl,q1,q3,q4⟩:=q
    refine⟨ad,rfl,?_,q3,q4⟩
    rw [aB (other j (.ownD zs) ad hj ej rfl ew)]
    exact q1
   | ownL zss =>
    obtain⟨ad,bs,rfl,q1,q2,q3,q4,q5⟩:=q
    refine⟨ad,bs,rfl,?_,q2.upd hid λb hb z=>?_,q3,q4,q5⟩
    ·rw [aB (other j (.ownL zss) ad hj ej rfl ew)]
     exact q1
    ·have:=(st.inn j zss ad _ ej ew q1 i m0 (λz=>hj z) e).2 a o0 es
     exact this (dl.mpr (z ▸ hb))
   |brwD zs=>exact q
   |brw zs=>obtain⟨ad,ws,rfl,q1,q2⟩:=q;exact⟨ad,ws,rfl,q1,by rw [hid];exact q2⟩
 ·have h1:∀(j:Nat) (zs:MV),(put ρ i m1)[j]?=some (some zs)->db zs=true->∃zs,ρ[j]?=some (some zs)/\db zs=true:=λj zs q oz=>by
   by_cases hj:i=j
   ·subst hj;exact⟨m0,e,o0⟩
   ·rw [aa hj]at q;exact⟨zs,q,oz⟩
  obtain⟨q1,e1,p1⟩:=h1 c ps e1 p1
  obtain⟨q2,e2,p2⟩:=h1 d qs e2 p2
  exact st.apart c d q1 q2 ad hcd e1 e2 p1 p2 e3 e4
 ·have hj:i≠j:=λz=>by subst z;rw [ac hi']at ej;cases ej;exact qJ o1 hbm
  rw [aa hj]at ej
  exact⟨ej,rfl⟩
theorem aC.change(st:aC K B O₀ O H ρ σ){i:Nat}{xs ys:List PV}{a:Addr}{us:List V}(e:ρ[i]?=some (some (.own xs)))(es:σ[i]?=some (some (.ref a)))(r:Reps K (ai H O) ys us) :
  aC K B O₀ O (upd H a (.lst us)) (put ρ i (.own ys)) σ/\bF B O O ρ (put ρ i (.own ys)) σ σ:=by
 obtain⟨w,e1,a',us',e2,h1,h2,h3,h4⟩:=st.slot i _ e
 rw [es]at e1
 cases e1
 cases e2
 exact st.changeM e rfl rfl es h3 h4 λhid=>⟨a,us,rfl,au,by rw [hid];exact r,h3,h4⟩
theorem aC.changeD(st:aC K B O₀ O H ρ σ){i:Nat}{xs ys:DD}{a:Addr}(e:ρ[i]?=some (some (.ownD xs)))(es:σ[i]?=some (some (.ref a))) :
  aC K B O₀ O (upd H a (fc ys)) (put ρ i (.ownD ys)) σ/\bF B O O ρ (put ρ i (.ownD ys)) σ σ:=by
 obtain⟨w,e1,a',e2,h1,h3,h4⟩:=st.slot i _ e
 rw [es]at e1
 cases e1
 cases e2
 exact st.changeM e rfl rfl es h3 h4 λ_=>⟨a,rfl,au,h3,h4⟩
theorem aC.freeze(st:aC K B O₀ O H ρ σ){i:Nat}{xs:List PV}(e:ρ[i]?=some (some (.own xs))):∃O',aC K B O₀ O' H (put ρ i (.val (.lst xs))) σ/\bF B O O' ρ (put ρ i (.val (.lst xs))) σ σ:=by
 obtain⟨w,es,a,us,rfl,h1,h2,h3,h4⟩:=st.slot i _ e
 have hi':i<ρ.length:=(List.getElem?_eq_some_iff.mp e).1
 have vis:ae (ai H O) (ai H (O.filter λb=>decide (b≠a))):=aQ (ae.refl H) λb hb=>.inl (List.mem_filter.mp hb).1
 have mem:∀b,b≠a->b∈O->b∈O.filter λb=>decide (b≠a):=λb hb ho=>List.mem_filter.mpr ⟨ho,decide_eq_true hb⟩
 refine⟨O.filter λb=>decide (b≠a),⟨st.keep,λb hb=>st.here b (List.mem_filter.mp hb).1,λb hb=>mem b (λz=>st.old b hb (z ▸ h4)) (st.sub b hb),st.old,by rw [put_len];exact st.len,λj m ej=>?_,λc d ps qs ad hcd e1 e2 p1 p2 e3 e4=>?_
  ,d7 st.inn (λj xss ej=>by
   have hj:i≠j:=λz=>by subst z;rw [ac hi']at ej;cases ej
   rw [aa hj]at ej
   exact⟨ej,rfl,λ_ _ _ h=>h⟩) λj m c ej _ o ec=>.inl (by
   have hj:i≠j:=λz=>by subst z;rw [ac hi']at ej;cases ej;cases o
   rw [aa hj]at ej
   exact⟨m,ej,o,ec⟩)
  ⟩,⟨λb hb ho=>mem b (λz=>hb (z ▸ h4)) ho,λb hb=>.inl (List.mem_filter.mp hb).1,λj zs hbm ej=>?_,put_len
  ⟩⟩
 ·by_cases hj:i=j
  ·subst hj
   rw [ac hi']at ej
   cases ej
   refine⟨_,es,?_⟩
   show Rep K _ (.lst xs) (.ref a)
   rw [Rep]
   refine⟨a,us,rfl,SqL.of ?_,Reps.mono vis _ h2⟩
   have hna:a∉O.filter λb=>decide (b≠a):=λz=>by simpa using (List.mem_filter.mp z).2
   rw [bK hna]
   exact h1
  ·rw [aa hj]at ej
   obtain⟨w,ew,q⟩:=st.slot j m ej
   refine⟨w,ew,?_⟩
   cases m with
   |val v=>exact Rep.mono vis _ q
   |own zs =>
    obtain⟨ad,ws,rfl,q1,q2,q3,q4⟩:=q
    exact⟨ad,ws,rfl,q1,Reps.mono vis _ q2,mem ad (λz=>st.apart i j (.own xs) (.own zs) a hj e ej rfl rfl es (by rw [ew,z])) q3,q4⟩
   |ownD zs =>
    obtain⟨ad,rfl,q1,q3,q4⟩:=q
    exact⟨ad,rfl,q1,mem ad (λz=>st.apart i j (.own xs) (.ownD zs) a hj e ej rfl rfl es (by rw [ew,z])) q3,q4⟩
   |ownL zss =>
    obtain⟨ad,bs,rfl,q1,q2,q3,q4,q5⟩:=q
    refine⟨ad,bs,rfl,q1,q2.less vis λb hb ho=>mem b (λz=>?_) ho,mem ad (λz=>st.apart i j (.own xs) (.ownL zss) a hj e ej rfl rfl es (by rw [ew,z])) q3,q4,q5⟩
    have:=(st.inn j zss ad _ ej ew q1 i (.own xs) (λz=>hj z) e).2 a rfl es
    exact this (dl.mpr (z ▸ hb))
   |brwD zs=>exact q
   |brw zs=>obtain⟨ad,ws,rfl,q1,q2⟩:=q;exact⟨ad,ws,rfl,q1,Reps.mono vis _ q2⟩
 ·have h1:∀(j:Nat) (zs:MV),db zs=true->(put ρ i (.val (.lst xs)))[j]?=some (some zs)->ρ[j]?=some (some zs):=λj zs oz q=>by
   by_cases hj:i=j
   ·subst hj;rw [ac hi']at q;cases q;cases oz
   ·rw [aa hj]at q;exact q
  exact st.apart c d ps qs ad hcd (h1 c ps p1 e1) (h1 d qs p2 e2) p1 p2 e3 e4
 ·have hj:i≠j:=λz=>by subst z;rw [ac hi']at ej;cases ej;cases hbm
  rw [aa hj]at ej
  exact⟨ej,rfl⟩
end
end MM
namespace MM
open PySem PySem.Spec PyProof.Rows L2
section
open AutoSeq1 (wpAny_loadPart')
open MeetsSeq MeetsSeq2 MeetsSeq3 SeqRoads2 AutoSeq1
theorem nr(l:Addr)(items:Array Value)(n:Nat)(b:Addr)(items2:Array Value)(n2:Nat)(dd2:Option Addr)(sl2:Array (Option Value))(hs0:¬(!items.isEmpty&&Builtin.List.listTooLong (items.size+items2.size))=true)(hs1:items.size<=sizeLine)(hs2:items.size+items2.size<=sizeLine+1) :
  Meets (Builtin.«list.extend» ⟨[.ref l,.ref b],[]⟩) (λ_ R s=>s.heap.get? l=some { cls:=.type "list",dict:=none,data:=.seq items n,slots:=#[] }/\s.heap.get? b=some { cls:=.type "tuple",dict:=dd2,data:=.seq items2 n2,slots:=sl2 }/\R (.ok (.ret Value.none)) { s with heap:=s.heap.update l (Obj.mapSeq λx=>x++items2),toks:=s.toks }) :=
 .of_wp λprog w A R s h=>by
  obtain⟨hp,g,d,tk,os⟩:=s;obtain⟨hl,hb,h⟩:=h;have f1:=AutoSeq1.idx_int;have f2:=AutoSeq1.sub_tuple_tuple;have f3:=AutoSeq1.sub_list_list;have f4:=AutoSeq1.sub_tuple_list;have f5:=AutoSeq1.sub_list_tuple;
  have hz':(items++items2).size<=sizeLine+1:=by rw [Array.size_append];exact hs2
  wp_walk using (wpAny_updateSeq hl rfl (hz:=hs1) (_hz':=hz')),wpAny_loadPart' hl,wpAny_loadPart' hb;exact⟨_,rfl,h⟩
theorem nt(l:Addr)(items:Array Value)(n:Nat)(b:Addr)(items2:Array Value)(n2:Nat)(dd2:Option Addr)(sl2:Array (Option Value))(hs0:¬(!items.isEmpty&&Builtin.List.listTooLong (items.size+items2.size))=true)(hs1:items.size<=sizeLine)(hs2:items.size+items2.size<=sizeLine+1) :
  Meets (Builtin.«list.extend» ⟨[.ref l,.ref b],[]⟩) (λ_ R s=>s.heap.get? l=some { cls:=.type "list",dict:=none,data:=.seq items n,slots:=#[] }/\s.heap.get? b=some { cls:=.type "list",dict:=dd2,data:=.seq items2 n2,slots:=sl2 }/\R (.ok (.ret Value.none)) { s with heap:=s.heap.update l (Obj.mapSeq λx=>x++items2),toks:=s.toks }) :=
 .of_wp λprog w A R s h=>by
  obtain⟨hp,g,d,tk,os⟩:=s;obtain⟨hl,hb,h⟩:=h;have f1:=AutoSeq1.idx_int;have f2:=AutoSeq1.sub_tuple_tuple;have f3:=AutoSeq1.sub_list_list;have f4:=AutoSeq1.sub_tuple_list;have f5:=AutoSeq1.sub_list_tuple;
  have hz':(items++items2).size<=sizeLine+1:=by rw [Array.size_append];exact hs2
  wp_walk using (wpAny_updateSeq hl rfl (hz:=hs1) (_hz':=hz')),wpAny_loadPart' hl,wpAny_loadPart' hb;exact⟨_,rfl,h⟩
end
section
variable{X:Cx}{T:Tab}{k:Nat}{cal:Cal}
theorem pM:MtM X "list.extend" (λx vs H Q=>∃l b xs zs,x=.ref l/\vs=[.ref b]/\H l=some (.lst xs)/\(SqL X.K H b zs\/SqT X.K H b zs)/\xs.length+zs.length<=sizeLine/\Q .non (upd H l (.lst (xs++zs)))):=by
 intro pins s σ H x vs v us Q I rx rv h
 obtain⟨l,b,xs,zs,rfl,rfl,hH,hB,hz,q⟩:=h
 cases rx
 obtain⟨u,rfl,ru⟩:=rv.one
 cases ru
 obtain⟨z,its,n,r,hl,e⟩:=I.lstM hH
 have fin:∀its2:List Value,aw zs its2->EP X pins σ Q .none { s with heap:=s.heap.update l (Obj.mapSeq λx=>x++its2.toArray),toks:=s.toks }:=λits2 r2 =>
  ⟨.non,_,I.lset (its':=its++its2) hH e (by simp) (r.append r2) (by rw [List.length_append];omega),rfl,q⟩
 rcases hB with hB|hB
 ·obtain⟨its2,r2,pl,z2⟩:=I.list hB
  have hl2:=r2.length
  have hsz:its.toArray.size+its2.toArray.size<=sizeLine:=by rw [List.size_toArray,List.size_toArray];omega
  have hlong:¬ (!its.toArray.isEmpty&&Builtin.List.listTooLong (its.toArray.size+its2.toArray.size))=true:=by
   rw [nT hsz,Bool.and_false]
   exact Bool.false_ne_true
  obtain⟨⟨cls,dd,data,sl⟩,ho,hc,n2,hd⟩:=pl.isList
  simp only at hc hd
  subst hc hd
  exact call_meets PySem.F.slot_list_extend ⟨_,e,rfl⟩ PySem.F.entry_list_extend (PySem.F.args_list_extend_2 _ _) (nt l its.toArray n b its2.toArray n2 dd sl hlong (by rw [List.size_toArray];omega) (by omega)) ⟨e,ho,fin its2 r2⟩
 ·obtain⟨its2,r2,pl,z2⟩:=I.tuple hB
  have hl2:=r2.length
  have hsz:its.toArray.size+its2.toArray.size<=sizeLine:=by rw [List.size_toArray,List.size_toArray];omega
  have hlong:¬ (!its.toArray.isEmpty&&Builtin.List.listTooLong (its.toArray.size+its2.toArray.size))=true:=by
   rw [nT hsz,Bool.and_false]
   exact Bool.false_ne_true
  obtain⟨⟨cls,dd,data,sl⟩,ho,hc,n2,hd⟩:=pl
  simp only at hc hd
  subst hc hd
  exact call_meets PySem.F.slot_list_extend ⟨_,e,rfl⟩ PySem.F.entry_list_extend (PySem.F.args_list_extend_2 _ _) (nr l its.toArray n b its2.toArray n2 dd sl hlong (by rw [List.size_toArray];omega) (by omega)) ⟨e,ho,fin its2 r2⟩
structure Df(X:Cx):Prop where
 nd:X.N.Nodup
 fn:∀x,X.fn x=true
 own:PassesOwn (model X.prog X.w) X.A X.env X.xe
 blk:(X.env.blockKind == .function)=true
theorem d_{v:Expr}(h:bV v=true)(t:Option Expr)(n:Nat)(env:Env):swapsWith v t n env=pure false:=by
 cases v<;>first|rfl|(simp [bV]at h)
theorem rX{v:Expr}{x:Str}{px:Pos}{n:Nat}(d:Df X)(h:qu X.env.scope x px v=true):swapsWith v (some (.Name x px)) n X.env=pure true:=by
 cases v with
 |ListComp e gs s p =>
  show pure (X.env.blockKind == .function&&X.env.kindOf x == some .local&&px.line == p.line&&!(s.names.any λ(n,k)=>n == x&&(k == .local || k == .cell)))=pure true
  have h':(X.env.scope.names.lookup x == some .local&&px.line == p.line&&!(s.names.any λ(n,k)=>n == x&&(k == .local || k == .cell)))=true:=h
  rw [d.blk,Bool.true_and]
  exact congrArg pure h'
 | _=>simp [qu]at h
theorem PS.imp'{e:Stmt}{t t':TS}(h:PS X e t)(i:∀D σ H,σ.length=X.N.length->t' D σ H->t D σ H):PS X e t':=λpins s σ H D I q=>h pins s σ H D I (i D σ H I.len q)
theorem ltN{N:List Str}{i:Nat}{x:Str}{σ:St}(h:N[i]?=some x)(hl:σ.length=N.length):i<σ.length:=by rw [hl];exact(List.getElem?_eq_some_iff.mp h).1
theorem aV{K:PySem.W.Frag}{B:Hp}{O₀ O:List Addr}{ρ:Rho}{σ:St}{D:jx}{o:Option PV}{f:PV->R}(h:fO K B O₀ O ρ σ D (cb o f)):∃v,o=some v/\fO K B O₀ O ρ σ D (f v):=by
 cases o with
 |none=>exact(show False from h).elim
 |some v=>exact⟨v,rfl,h⟩
theorem rY{K:PySem.W.Frag}{B:Hp}{O₀ O:List Addr}{ρ:Rho}{σ:St}{D:jx}{o:Option Bool}{f:Bool->R}(h:fO K B O₀ O ρ σ D (t9 o f)):∃v,o=some v/\fO K B O₀ O ρ σ D (f v):=by
 cases o with
 |none=>exact(show False from h).elim
 |some v=>exact⟨v,rfl,h⟩
theorem uK{i:Nat}{me:ME}{σ:St}{H:Hp}{D:jx}{K:PySem.W.Frag}(hi:i<σ.length)(hb:aH me=false)(q:tS K cal (.set i me) D σ H):q_ (tE K cal me) (ic i) D σ H:=by
 obtain⟨B,O₀,O,ρ,st,q⟩:=q
 rw [ex]at q
 obtain⟨w,e,q⟩:=aV q
 refine⟨B,O₀,O,ρ,w,st,e,λu H' s g=>?_⟩
 obtain⟨st',k'⟩:=(st.mono s).store hi (g.2 hb)
 exact q _ H' O st' k'
theorem BI{i:Nat}{me:ME}{x:Str}{v:Expr}{px pos:Pos}(d:Df X)(hi:X.N[i]?=some x)(hx:Loc X.env.scope x)(h:PE X v (tE X.K cal me))(hb:aH me=false)(hc:bV v=true):PS X (.Assign [.Name x px] v pos) (tS X.K cal (.set i me)) :=
 PS.imp' (jS d.nd hi hx h (d_ hc _ _ _) (.inl (d.fn x))) λD σ H hl q=>uK (ltN hi hl) hb q
theorem uL{i:Nat}{me:ME}{σ:St}{H:Hp}{D:jx}{K:PySem.W.Frag}(hi:i<σ.length)(q:tS K cal (.setOwn i me) D σ H):q_ (tF K cal me) (ic i) D σ H:=by
 obtain⟨B,O₀,O,ρ,st,q⟩:=q
 rw [ex]at q
 obtain⟨w,e,q⟩:=aV q
 cases w with
 |lst xs =>
  refine⟨B,O₀,O,ρ,xs,st,e,λp us H' s hp he r=>?_⟩
  obtain⟨st',k'⟩:=st.storeOwn hi s hp he r
  exact q _ H' _ st' k'
 | _=>exact(show False from q).elim
theorem BJ{i:Nat}{me:ME}{x:Str}{v:Expr}{px pos:Pos}(d:Df X)(hi:X.N[i]?=some x)(hx:Loc X.env.scope x)(h:PE X v (tF X.K cal me))(hc:bV v=true):PS X (.Assign [.Name x px] v pos) (tS X.K cal (.setOwn i me)) :=
 PS.imp' (jS d.nd hi hx h (d_ hc _ _ _) (.inl (d.fn x))) λD σ H hl q=>uL (ltN hi hl) q
noncomputable def rPopAt:V->List V->Hp->VK->Prop:=λx vs H Q=>∃l xs,∃k:Int,∃w,x=.ref l/\vs=[.int k]/\H l=some (.lst xs)/\0<=k/\xs[k.toNat]?=some w/\xs.length<=10000/\Q w (upd H l (.lst (xs.eraseIdx k.toNat)))
theorem kF{K:PySem.W.Frag}{F:Hp}:∀{xs:List PV}{us:List V},Reps K F xs us->∀k:Nat,Reps K F (xs.eraseIdx k) (us.eraseIdx k)
 | [],us,r,k=>by
  have e:us=[]:=by simpa only [Reps] using r
  subst e
  simpa using Reps.nil
 |x::xs,us,r,0=>by
  rw [Reps]at r
  obtain⟨v,t,rfl,h1,h2⟩:=r
  simpa using h2
 |x::xs,us,r,k+1=>by
  rw [Reps]at r
  obtain⟨v,t,rfl,h1,h2⟩:=r
  simpa using Reps.cons h1 (kF h2 k)
theorem oR:MtM X "list.pop" rPopAt:=by
 intro pins s σ H x vs v us Q I rx rv h
 obtain⟨l,xs,k,w,rfl,rfl,hH,h0,hk,hz,q⟩:=h
 cases rx
 obtain⟨u0,rfl,r1⟩:∃u0,us=[u0]/\aq (.int k) u0:=by
  cases rv with
  |cons r1 r2 =>
   cases r2
   exact⟨_,rfl,r1⟩
 obtain⟨t,rfl⟩:=r1
 obtain⟨z,its,n,r,hl,e⟩:=I.lstM hH
 have h10:(10000:Nat)<=sizeLine:=by decide
 obtain⟨y,hy,ry⟩:=aw.get r hk
 have hlt:k.toNat<its.length:=(List.getElem?_eq_some_iff.mp hy).1
 have ff:Builtin.List.listFitsIndex k=true:=fitsIndex_both (by omega) (by omega)
 have hz2:its.toArray.size<=sizeLine:=by rw [List.size_toArray];omega
 have hki:seqIndex? k its.toArray.size=some k.toNat:=by
  have h1:¬ k<0:=by omega
  have h2:k<(its.length:Int):=by omega
  simp [seqIndex?,h1,h2,h0]
 have M:=PySem.MeetsSeq.list_pop_at l its.toArray n k t k.toNat y ff hki (by simpa using hy) hz2
 have ar:=PySem.F.args_list_pop_2 (.ref l) (.int k t)
 refine call_meets PySem.F.slot_list_pop ⟨_,e,rfl⟩ PySem.F.entry_list_pop ar M ⟨e,?_⟩
 refine⟨w,_,I.lset (its':=its.eraseIdx k.toNat) hH e ?_ ?_ ?_,ry,q⟩
 ·apply Array.toList_inj.mp
  simp [Array.eraseIdxIfInBounds,hlt]
 ·rw [List.eraseIdx_eq_take_drop_succ,List.eraseIdx_eq_take_drop_succ]
  exact(r.take k.toNat).append (r.drop (k.toNat+1))
 ·rw [List.length_eraseIdx]
  split<;>omega
theorem xm{i:Nat}{ke:ME}{x:Str}{a:Expr}{p apos cpos pos:Pos}(hk:PE X a (tE X.K cal ke))(hn:ax X.N X.env.scope i x=true)(hs1:ag a=true)(hline:(apos.endLine == cpos.line)=true) :
  PS X (.Expr (.Call (.Attribute (.Name x p) "pop" apos) [a] [] cpos) pos) (tS X.K cal (.popAt i ke)):=by
 refine(gw (lN PySem.F.plainAttrs_list PySem.F.slot_list_pop PySem.F.type_list_pop oR (bp hn) (aK hk br (aO hs1 _ _)) rfl (by rw [aO hs1];rfl) hline (aO hs1 _ _) rfl) rfl).imp λD σ H q=>?_
 obtain⟨B,O₀,O,ρ,st,q⟩:=q
 rw [ex]at q
 obtain⟨kv,e0,q⟩:=aV q
 cases hj:(ρ[i]?).join with
 |none=>rw [hj]at q;exact(show False from q).elim
 | some m =>
  rw [hj]at q
  cases m with
  | own xs =>
   cases kv with
   | int j =>
    dsimp only at q
    split at q
    ·rename_i hl
     obtain⟨u,eu,b,us,rfl,ha,rs,hO,hB⟩:=be st hj
     obtain⟨w,hw⟩:∃w,us[j.toNat]?=some w:=⟨_,List.getElem?_eq_getElem (by rw [<- rs.length];omega)⟩
     refine⟨_,eu,.inl ⟨rfl,us,SqL.of ha⟩,B,O₀,O,ρ,.int j,st,e0,λu1 H1 s1 g1=>⟨b,us,j,w,rfl,?_,s1 _ _ ha,hl.1,hw,?_,?_⟩⟩
     ·rw [g1.1.int]
     ·rw [<- rs.length];exact hl.2.2
     ·have rs':=Reps.mono (ay s1) _ rs
      obtain⟨st',k'⟩:=(st.mono s1).change (us:=us.eraseIdx j.toNat) (ys:=xs.eraseIdx j.toNat) (join_some hj) eu (kF rs' _)
      exact q _ _ _ st' k'
    ·exact(show False from q).elim
   | _=>exact(show False from q).elim
  |val _=>exact(show False from q).elim
  |brw _=>exact(show False from q).elim
  |ownD _=>exact(show False from q).elim
  |ownL _=>exact(show False from q).elim
  |brwD _=>exact(show False from q).elim
theorem uM{i:Nat}{me:ME}{x:Str}{v:Expr}{p apos cpos pos:Pos}(h:PE X v (tE X.K cal me))(hn:ax X.N X.env.scope i x=true)(hb:aH me=false)(hs:ag v=true)(hline:(apos.endLine == cpos.line)=true) :
  PS X (.Expr (.Call (.Attribute (.Name x p) "append" apos) [v] [] cpos) pos) (tS X.K cal (.append i me)):=by
 refine(gw (lN PySem.F.plainAttrs_list PySem.F.slot_list_append PySem.F.type_list_append gx (bp hn) (aK h br (aO hs _ _)) rfl (by rw [aO hs];rfl) hline (aO hs _ _) rfl) rfl).imp λD σ H q=>?_
 obtain⟨B,O₀,O,ρ,st,q⟩:=q
 rw [ex]at q
 obtain⟨w,e,q⟩:=aV q
 cases hj:(ρ[i]?).join with
 |none=>rw [hj]at q;exact(show False from q).elim
 | some m =>
  rw [hj]at q
  cases m with
  | own xs =>
   dsimp only at q
   split at q
   ·rename_i hl
    obtain⟨u,eu,a,us,rfl,ha,rs,hO,hB⟩:=be st hj
    refine⟨_,eu,.inl ⟨rfl,us,SqL.of ha⟩,B,O₀,O,ρ,w,st,e,λu H1 s g=>⟨a,us,u,rfl,rfl,s _ _ ha,?_,?_⟩⟩
    ·rw [<- rs.length];exact Nat.lt_of_lt_of_le hl (by decide)
    ·obtain⟨st',k'⟩:=(st.mono s).change (us:=us ++ [u]) (ys:=xs ++ [w]) (join_some hj) eu ((Reps.mono (ay s) _ rs).snoc (g.2 hb))
     exact q _ _ _ st' k'
   ·exact(show False from q).elim
  |val _=>exact(show False from q).elim
  |brw _=>exact(show False from q).elim
  |ownD _=>exact(show False from q).elim
  |ownL _=>exact(show False from q).elim
  |brwD _=>exact(show False from q).elim
theorem uN{i:Nat}{me:ME}{x:Str}{v:Expr}{p apos cpos pos:Pos}(h:PE X v (tE X.K cal me))(hn:ax X.N X.env.scope i x=true)(hs:ag v=true)(hline:(apos.endLine == cpos.line)=true) :
  PS X (.Expr (.Call (.Attribute (.Name x p) "extend" apos) [v] [] cpos) pos) (tS X.K cal (.extend i me)):=by
 refine(gw (lN PySem.F.plainAttrs_list PySem.F.slot_list_extend PySem.F.type_list_extend pM (bp hn) (aK h br (aO hs _ _)) rfl (by rw [aO hs];rfl) hline (aO hs _ _) rfl) rfl).imp λD σ H q=>?_
 obtain⟨B,O₀,O,ρ,st,q⟩:=q
 rw [ex]at q
 obtain⟨w,e,q⟩:=aV q
 cases hj:(ρ[i]?).join with
 |none=>rw [hj]at q;exact(show False from q).elim
 | some m =>
  rw [hj]at q
  cases m with
  | own xs =>
   cases hw:a_ w with
   |none=>rw [hw]at q;exact(show False from q).elim
   | some ys =>
    rw [hw]at q
    dsimp only at q
    split at q
    ·rename_i hl
     obtain⟨u,eu,a,us,rfl,ha,rs,hO,hB⟩:=be st hj
     refine⟨_,eu,.inl ⟨rfl,us,SqL.of ha⟩,B,O₀,O,ρ,w,st,e,λu H1 s g=>?_⟩
     obtain⟨b,ws,rfl,sq,rw'⟩:=g.1.seq hw
     refine⟨a,b,us,ws,rfl,rfl,s _ _ ha,sq,?_,?_⟩
     ·rw [<- rs.length,<- rw'.length];exact dW hl
     ·obtain⟨st',k'⟩:=(st.mono s).change (us:=us++ws) (ys:=xs++ys) (join_some hj) eu ((Reps.mono (ay s) _ rs).append rw')
      exact q _ _ _ st' k'
    ·exact(show False from q).elim
  |val _=>exact(show False from q).elim
  |brw _=>exact(show False from q).elim
  |ownD _=>exact(show False from q).elim
  |ownL _=>exact(show False from q).elim
  |brwD _=>exact(show False from q).elim
theorem zD{m:Bool}{i:Nat}{x:Str}{px dp pos:Pos}(d:Df X)(hi:X.N[i]?=some x)(hx:Loc X.env.scope x):PS X (.Assign [.Name x px] (.Dict [] [] dp) pos) (tS X.K cal (.newD m i)):=by
 cases m with
 |false =>
  refine PS.imp' (jS d.nd hi hx sY (d_ (v:=.Dict [] [] dp) rfl _ _ _) (.inl (d.fn x))) λD σ H hl q=>?_
  obtain⟨B,O₀,O,ρ,st,q⟩:=q
  rw [ex]at q
  intro p hp
  obtain⟨st',k'⟩:=st.storeM (mm:=.ownD (.k [])) (ltN hi hl) (am hp (.dK [])) hp (by rw [au];simp) rfl λhB=>⟨p,rfl,au,List.mem_cons_self,hB⟩
  exact q _ _ _ st' k'
 |true =>
  refine PS.imp' (jS d.nd hi hx sZ (d_ (v:=.Dict [] [] dp) rfl _ _ _) (.inl (d.fn x))) λD σ H hl q=>?_
  obtain⟨B,O₀,O,ρ,st,q⟩:=q
  rw [ex]at q
  intro p hp
  obtain⟨st',k'⟩:=st.storeM (mm:=.ownD (.t [])) (ltN hi hl) (am hp (.dT [])) hp (by rw [au];simp) rfl λhB=>⟨p,rfl,au,List.mem_cons_self,hB⟩
  exact q _ _ _ st' k'
theorem zE{i:Nat}{mk me:ME}{x:Str}{v s:Expr}{p spos pos:Pos}(g0:Gf X T k cal)(hk:PE X s (tE X.K cal mk))(h:PE X v (tE X.K cal me))(hn:ax X.N X.env.scope i x=true)(hc:bV v=true) :
  PS X (.Assign [.Subscript (.Name x p) s spos] v pos) (tS X.K cal (.dput i mk me)):=by
 have hu:X.A.units+1<cLine:=by have:=g0.units;omega
 refine(wv hu (bp hn) hk h (by cases v<;>first|rfl|(simp [bV]at hc))).imp λD σ H q=>?_
 obtain⟨B,O₀,O,ρ,st,q⟩:=q
 rw [ex]at q
 obtain⟨w,e,q⟩:=aV q
 obtain⟨kv,ek,q⟩:=aV q
 cases hj:(ρ[i]?).join with
 |none=>rw [hj]at q;exact(show False from q).elim
 | some m =>
  rw [hj]at q
  cases m with
  | ownD d =>
   cases hz:sc? w with
   |none=>rw [hz]at q;exact(show False from q).elim
   | some sz =>
    rw [hz]at q
    dsimp only at q
    cases hd:rM d kv sz with
    |none=>rw [hd]at q;exact(show False from q).elim
    |some d' =>
     rw [hd]at q
     obtain⟨u,eu,a,rfl,ha,hO,hB⟩:=be st hj
     refine⟨B,O₀,O,ρ,w,st,e,λu H1 s1 g1=>⟨_,eu,B,O₀,O,ρ,_,st.mono s1,ek,λuk H2 s2 g2=>?_⟩⟩
     refine⟨a,_,rfl,by rw [uH hz g1.1];exact xi hd (s2 _ _ (s1 _ _ ha)) g2.1,?_⟩
     obtain⟨st',k'⟩:=((st.mono s1).mono s2).changeD (ys:=d') (join_some hj) eu
     exact q _ _ _ st' k'
  |val _=>exact(show False from q).elim
  |brw _=>exact(show False from q).elim
  |own _=>exact(show False from q).elim
  |ownL _=>exact(show False from q).elim
  |brwD _=>exact(show False from q).elim
theorem BK{me:ME}{v:Expr}{pos:Pos}(h:PE X v (tE X.K cal me))(hb:aH me=false):PS X (.Return (some v) pos) (tS X.K cal (.ret me)):=by
 refine(o8 h).imp λD σ H q=>?_
 obtain⟨B,O₀,O,ρ,st,q⟩:=q
 rw [ex]at q
 obtain⟨w,e,q⟩:=aV q
 exact⟨B,O₀,O,ρ,w,st,e,λu H' s g=>q u H' (st.keep.trans s) (Rep.mono (aQ (ae.refl H') λb hb=>.inl (st.sub b hb)) _ (g.2 hb))⟩
theorem uO{i:Nat}{x:Str}{p pos:Pos}(hn:ax X.N X.env.scope i x=true):PS X (.Return (some (.Name x p)) pos) (tS X.K cal (.retOwn i)):=by
 refine(o8 (bp hn)).imp λD σ H q=>?_
 obtain⟨B,O₀,O,ρ,st,q⟩:=q
 rw [ex]at q
 have low:ae (ai H O) (ai H O₀):=aQ (ae.refl H) λb hb=>.inl (st.sub b hb)
 cases hj:(ρ[i]?).join with
 |none=>rw [hj]at q;exact(show False from q).elim
 | some m =>
  rw [hj]at q
  cases m with
  |own xs =>
   obtain⟨u,eu,a,us,rfl,ha,rs,hO,hB⟩:=be st hj
   refine⟨_,eu,q _ H st.keep ?_⟩
   rw [Rep]
   refine⟨a,us,rfl,SqL.of ?_,Reps.mono low _ rs⟩
   rw [bK λz=>st.old a z hB]
   exact ha
  |val v =>
   obtain⟨u,eu,so⟩:=be st hj
   exact⟨_,eu,q _ H st.keep (Rep.mono low _ so)⟩
  |brw _=>exact(show False from q).elim
  |ownD kvs =>
   obtain⟨u,eu,a,rfl,ha,hO,hB⟩:=be st hj
   refine⟨_,eu,q _ H st.keep ?_⟩
   rw [Rep]
   refine⟨a,rfl,.inl ?_⟩
   rw [bK λz=>st.old a z hB]
   exact ha
  |ownL _=>exact(show False from q).elim
  |brwD _=>exact(show False from q).elim
theorem CT{c:ME}{a b:List MS}{t:Expr}{x y:List Stmt}{pos:Pos}(hc:PT X t (tT X.K cal c))(ha:PSs X x (tSs X.K cal a))(hb:PSs X y (tSs X.K cal b)):PS X (.If t x y pos) (tS X.K cal (.ite c a b)):=by
 refine(AO hc ha hb).imp λD σ H q=>?_
 obtain⟨B,O₀,O,ρ,st,q⟩:=q
 rw [ex]at q
 obtain⟨w,e,q⟩:=rY q
 refine⟨B,O₀,O,ρ,w,st,e,λH' s=>?_⟩
 cases w with
 |true=>rw [if_pos rfl]at q ⊢;exact⟨B,O₀,O,ρ,st.mono s,q⟩
 |false=>rw [if_neg (by simp)]at q ⊢;exact⟨B,O₀,O,ρ,st.mono s,q⟩
theorem zF{m:MS}{ms:List MS}{st:Stmt}{ss:List Stmt}(h1:PS X st (tS X.K cal m))(h2:PSs X ss (tSs X.K cal ms)):PSs X (st::ss) (tSs X.K cal (m::ms)):=by
 refine(sG h1 h2).imp λD σ H q=>?_
 obtain⟨B,O₀,O,ρ,st,q⟩:=q
 refine⟨B,O₀,O,ρ,st,?_⟩
 rw [exs]at q
 cases e:ex cal m ρ with
 |next ρ'=>rw [e]at q;exact λσ' H' O' st' k=>⟨B,O₀,O',ρ',st',fO.trans q k⟩
 |brk ρ'=>rw [e]at q;exact q
 |cont ρ'=>rw [e]at q;exact q
 |ret v=>rw [e]at q;exact q
 |bad=>rw [e]at q;exact q
 |retF xs=>rw [e]at q;exact q
theorem BL:PSs X [] (tSs X.K cal []):=by
 refine v6.imp λD σ H q=>?_
 obtain⟨B,O₀,O,ρ,st,q⟩:=q
 rw [exs]at q
 exact q σ H O st .refl
end
end MM
namespace MM
open PySem PySem.Spec PyProof.Rows L2
section
variable{K:PySem.W.Frag}{B H H':Hp}{O₀ O:List Addr}{ρ:Rho}{σ:St}
theorem zG(h:noL ρ=true){j:Nat}{m:MV}(e:ρ[j]?=some (some m)):isL m=false:=by
 have:=List.all_eq_true.mp h (some m) (List.mem_of_getElem? e)
 simpa using this
theorem iG(st:aC K B O₀ O H ρ σ){j:Nat}{m:MV}{c:Addr}(e:ρ[j]?=some (some m))(o:db m=true)(es:σ[j]?=some (some (.ref c))):H c≠none:=by
 obtain⟨w,e1,q⟩:=st.slot j _ e
 rw [es]at e1
 cases e1
 cases m with
 |own zs=>obtain⟨a,ws,e2,h1,_⟩:=q;cases e2;rw [h1];simp
 |ownD zs=>obtain⟨a,e2,h1,_⟩:=q;cases e2;rw [h1];simp
 |ownL zs=>obtain⟨a,bs,e2,h1,_⟩:=q;cases e2;rw [h1];simp
 |val _=>cases o
 |brw _=>cases o
 |brwD _=>cases o
theorem uP{n:Nat}{bs:List Addr}(hl:bs.length=n)(h:∀b∈bs,H b=some (.lst [])/\b∈O/\B b=none):bL K H O B (List.replicate n []) bs:=by
 subst hl
 induction bs with
 |nil=>exact .nil
 |cons b bs ih =>
  obtain⟨h1,h2,h3⟩:=h b (.head _)
  exact .cons h1 .nil h2 h3 (ih λc hc=>h c (.tail _ hc))
theorem bL.put{b:Addr}{ws:List V}{ys:List PV}(hid:ai (L2.upd H b (.lst ws)) O=ai H O)(r':Reps K (ai H O) ys ws){xss:List (List PV)}{bs:List Addr}(h:bL K H O B xss bs):∀{q:Nat},bs.Nodup->bs[q]?=some b->bL K (L2.upd H b (.lst ws)) O B (xss.set q ys) bs:=by
 induction h with
 |nil=>intro q _ e;simp at e
 | cons h r ho hb t ih =>
  intro q nd e
  obtain⟨n1,n2⟩:=List.nodup_cons.mp nd
  cases q with
  |zero =>
   simp at e
   subst e
   exact .cons au (by rw [hid];exact r') ho hb (t.upd hid λc hc z=>n1 (z ▸ hc))
  |succ q =>
   have e':=(List.getElem?_cons_succ ..).symm.trans e
   refine .cons ?_ (by rw [hid];exact r) ho hb (ih n2 e')
   have hm:=List.mem_of_getElem? e'
   rw [aB λz=>by rw [z]at n1;exact n1 hm]
   exact h
theorem aC.storeL(st:aC K B O₀ O H ρ σ){i n:Nat}{a:Addr}{bs:List Addr}(hi:i<σ.length)(hn:noL ρ=true)(s:ae H H')(ha:H a=none)(ea:H' a=some (.lst (bs.map .ref)))(hl:bs.length=n)(nd:(a::bs).Nodup)(hb:∀b∈bs,H b=none/\H' b=some (.lst [])) :
  aC K B O₀ (a::bs++O) H' (put ρ i (.ownL (List.replicate n []))) (σ.set i (some (.ref a)))/\bF B O (a::bs++O) ρ (put ρ i (.ownL (List.replicate n []))) σ (σ.set i (some (.ref a))):=by
 have hi':i<ρ.length:=by rw [st.len];exact hi
 have free:∀b∈a::bs,H b=none/\H' b≠none:=λb hb'=>by
  rcases List.mem_cons.mp hb' with rfl|h
  ·exact⟨ha,by rw [ea];simp⟩
  ·exact⟨(hb b h).1,by rw [(hb b h).2];simp⟩
 have vis:ae (ai H O) (ai H' (a::bs++O)):=aQ s λb h=>by
  rcases List.mem_append.mp h with h|h
  ·exact .inr (free b h).1
  ·exact .inl h
 have inO:∀b∈O,b∈a::bs++O:=λb h=>List.mem_append.mpr (.inr h)
 refine⟨⟨st.keep.trans s,λb h=>?_,λb h=>inO b (st.sub b h),st.old,by rw [put_len,List.length_set];exact st.len,λj m ej=>?_,λc d xs ys ad hcd e1 e2 o1 o2 e3 e4=>?_,λk xss a' us e1 e2 e3 j m hjk ej=>?_⟩,⟨λ_ _ h=>inO _ h,λb h=>?_,λj xs hbm ej=>?_,put_len
  ⟩⟩
 ·rcases List.mem_append.mp h with h|h
  ·exact(free b h).2
  ·exact λz=>st.here b h (s.free z)
 ·by_cases hj:i=j
  ·subst hj
   rw [ac hi']at ej
   cases ej
   exact⟨_,List.getElem?_set_self hi,a,bs,rfl,ea,uP hl λb h=>⟨(hb b h).2,List.mem_append.mpr (.inl (.tail _ h)),st.keep.free (hb b h).1⟩,List.mem_append.mpr (.inl (.head _)),st.keep.free ha,nd⟩
  ·rw [aa hj]at ej
   obtain⟨w,e1,q⟩:=st.slot j m ej
   refine⟨w,by rw [List.getElem?_set_ne hj];exact e1,?_⟩
   cases m with
   |val v=>exact Rep.mono vis _ q
   |own ys=>obtain⟨a,ws,e2,h1,h2,h3,h4⟩:=q;exact⟨a,ws,e2,s _ _ h1,Reps.mono vis _ h2,inO _ h3,h4⟩
   |brw ys=>obtain⟨a,ws,e2,h1,h2⟩:=q;exact⟨a,ws,e2,h1,Reps.mono vis _ h2⟩
   |ownD ys=>obtain⟨a,e2,h1,h3,h4⟩:=q;exact⟨a,e2,s _ _ h1,inO _ h3,h4⟩
   |ownL yss=>cases zG hn ej
   |brwD ys=>exact q
 ·by_cases hc:i=c
  ·subst hc
   rw [List.getElem?_set_self hi]at e3
   cases e3
   rw [aa hcd]at e2
   rw [List.getElem?_set_ne hcd]at e4
   exact iG st e2 o2 e4 ha
  ·by_cases hd:i=d
   ·subst hd
    rw [List.getElem?_set_self hi]at e4
    cases e4
    rw [aa hc]at e1
    rw [List.getElem?_set_ne hc]at e3
    exact iG st e1 o1 e3 ha
   ·rw [aa hc]at e1
    rw [aa hd]at e2
    rw [List.getElem?_set_ne hc]at e3
    rw [List.getElem?_set_ne hd]at e4
    exact st.apart c d _ _ ad hcd e1 e2 o1 o2 e3 e4
 ·have hk:i=k:=by
   cases Nat.decEq i k with
   |isTrue z=>exact z
   |isFalse z =>
    rw [aa z]at e1
    cases zG hn e1
  subst hk
  rw [List.getElem?_set_self hi]at e2
  cases e2
  rw [ea]at e3
  cases e3
  rw [aa (Ne.symm hjk)]at ej
  refine⟨zG hn ej,λc o ec z=>?_⟩
  rw [List.getElem?_set_ne (Ne.symm hjk)]at ec
  exact iG st ej o ec (hb c (dl.mp z)).1
 ·rcases List.mem_append.mp h with h|h
  ·exact .inr (st.keep.free (free b h).1)
  ·exact .inl h
 ·have hj:i≠j:=λz=>by subst z;rw [ac hi']at ej;cases ej;cases hbm
  rw [aa hj]at ej
  exact⟨ej,List.getElem?_set_ne hj⟩
theorem aC.changeI(st:aC K B O₀ O H ρ σ){i q:Nat}{xss:List (List PV)}{a b:Addr}{bs:List Addr}{ys:List PV}{ws:List V}(e:ρ[i]?=some (some (.ownL xss)))(es:σ[i]?=some (some (.ref a)))(ha:H a=some (.lst (bs.map .ref)))(r:bL K H O B xss bs)(hO:a∈O)(hB:B a=none)(nd:(a::bs).Nodup)
  (eb:bs[q]?=some b) (r':Reps K (ai H O) ys ws):aC K B O₀ O (upd H b (.lst ws)) (put ρ i (.ownL (xss.set q ys))) σ/\bF B O O ρ (put ρ i (.ownL (xss.set q ys))) σ σ:=by
 have hi':i<ρ.length:=(List.getElem?_eq_some_iff.mp e).1
 have hbm:=List.mem_of_getElem? eb
 obtain⟨_,bO,bB⟩:=r.at b hbm
 obtain⟨n1,n2⟩:=List.nodup_cons.mp nd
 have hid:ai (upd H b (.lst ws)) O=ai H O:=fj bO
 have other:∀(j:Nat) (m:MV) (c:Addr),i≠j->ρ[j]?=some (some m)->db m=true->σ[j]?=some (some (.ref c))->c≠b:=λj m c hj ej o ec z=>(st.inn i xss a _ e es ha j m (Ne.symm hj) ej).2 c o ec (dl.mpr (z ▸ hbm))
 have hab:a≠b:=λz=>n1 (z ▸ hbm)
 refine⟨⟨λc u ec=>?_,λc hc=>?_,st.sub,st.old,by rw [put_len];exact st.len,λj m ej=>?_,λc d ps qs ad hcd e1 e2 p1 p2 e3 e4=>?_,λk yss a' us e1 e2 e3 j m hjk ej=>?_⟩,⟨λ_ _ h=>h,λ_ h=>.inl h,λj zs hbm ej=>?_,put_len
  ⟩⟩
 ·rw [aB (bD ec bB)]
  exact st.keep c u ec
 ·unfold upd
  split
  ·simp
  ·exact st.here c hc
 ·by_cases hj:i=j
  ·subst hj
   rw [ac hi']at ej
   cases ej
   exact⟨_,es,a,bs,rfl,by rw [aB hab];exact ha,r.put hid r' n2 eb,hO,hB,nd⟩
  ·rw [aa hj]at ej
   obtain⟨w,ew,q⟩:=st.slot j m ej
   refine⟨w,ew,?_⟩
   cases m with
   |val v=>show Rep K (ai (upd H b (.lst ws)) O) v w;rw [hid];exact q
   |own zs=>obtain⟨ad,us,rfl,q1,q2,q3,q4⟩:=q;exact⟨ad,us,rfl,by rw [aB (other j _ ad hj ej rfl ew)];exact q1,by rw [hid];exact q2,q3,q4⟩
   |ownD zs=>obtain⟨ad,rfl,q1,q3,q4⟩:=q;exact⟨ad,rfl,by rw [aB (other j _ ad hj ej rfl ew)];exact q1,q3,q4⟩
   |ownL zss=>cases (st.inn i xss a _ e es ha j _ (Ne.symm hj) ej).1
   |brwD zs=>exact q
   |brw zs=>obtain⟨ad,us,rfl,q1,q2⟩:=q;exact⟨ad,us,rfl,q1,by rw [hid];exact q2⟩
 ·have h1:∀(j:Nat) (zs:MV),(put ρ i (.ownL (xss.set q ys)))[j]?=some (some zs)->db zs=true->∃zs,ρ[j]?=some (some zs)/\db zs=true:=λj zs q oz=>by
   by_cases hj:i=j
   ·subst hj;exact⟨_,e,rfl⟩
   ·rw [aa hj]at q;exact⟨zs,q,oz⟩
  obtain⟨q1,e1,p1⟩:=h1 c ps e1 p1
  obtain⟨q2,e2,p2⟩:=h1 d qs e2 p2
  exact st.apart c d q1 q2 ad hcd e1 e2 p1 p2 e3 e4
 ·have hk:i=k:=by
   cases Nat.decEq i k with
   |isTrue z=>exact z
   |isFalse z =>
    rw [aa z]at e1
    cases (st.inn i xss a _ e es ha k _ (Ne.symm z) e1).1
  subst hk
  rw [es]at e2
  cases e2
  rw [aB hab]at e3
  rw [aa (Ne.symm hjk)]at ej
  exact st.inn i xss a us e es e3 j m hjk ej
 ·have hj:i≠j:=λz=>by subst z;rw [ac hi']at ej;cases ej;cases hbm
  rw [aa hj]at ej
  exact⟨ej,rfl⟩
theorem rZ{F:Hp}{xss:List (List PV)}{bs:List Addr}(h:bL K H O B xss bs)(v:ae (ai H O) F)(hb:∀b∈bs,∀o,H b=some o->F b=some o):Reps K F (xss.map .lst) (bs.map .ref):=by
 induction h with
 |nil=>exact .nil
 |cons h r ho hb' t ih =>
  refine .cons ?_ (ih λb h=>hb b (.tail _ h))
  rw [Rep]
  exact⟨_,_,rfl,SqL.of (hb _ (.head _) _ h),Reps.mono v _ r⟩
theorem aC.freezeL(st:aC K B O₀ O H ρ σ){i:Nat}{xss:List (List PV)}(e:ρ[i]?=some (some (.ownL xss))):∃O',aC K B O₀ O' H (put ρ i (.val (.lst (xss.map .lst)))) σ/\bF B O O' ρ (put ρ i (.val (.lst (xss.map .lst)))) σ σ:=by
 obtain⟨w,es,a,bs,rfl,ha,r,hO,hB,nd⟩:=st.slot i _ e
 have hi':i<ρ.length:=(List.getElem?_eq_some_iff.mp e).1
 have vis:ae (ai H O) (ai H (O.filter λb=>decide (b∉a::bs))):=aQ (ae.refl H) λb hb=>.inl (List.mem_filter.mp hb).1
 have mem:∀b,b∉a::bs->b∈O->b∈O.filter λb=>decide (b∉a::bs):=λb hb ho=>List.mem_filter.mpr ⟨ho,decide_eq_true hb⟩
 have out:∀b∈a::bs,∀o,H b=some o->ai H (O.filter λb=>decide (b∉a::bs)) b=some o:=λb hb o eo=>by
  have hn:b∉O.filter λb=>decide (b∉a::bs):=λz=>absurd hb (by simpa using (List.mem_filter.mp z).2)
  rw [bK hn]
  exact eo
 have none:∀b∈a::bs,B b=none:=λb hb=>by
  rcases List.mem_cons.mp hb with rfl|h
  ·exact hB
  ·exact(r.at b h).2.2
 have apart:∀(j:Nat) (m:MV) (c:Addr),i≠j->ρ[j]?=some (some m)->db m=true->σ[j]?=some (some (.ref c))->c∉a::bs:=λj m c hj ej o ec z=>by
  rcases List.mem_cons.mp z with rfl|z
  ·exact st.apart i j _ m _ hj e ej rfl o es ec
  ·exact(st.inn i xss a _ e es ha j m (Ne.symm hj) ej).2 c o ec (dl.mpr z)
 refine⟨O.filter λb=>decide (b∉a::bs),⟨st.keep,λb hb=>st.here b (List.mem_filter.mp hb).1,λb hb=>mem b (λz=>st.old b hb (none b z)) (st.sub b hb),st.old,by rw [put_len];exact st.len,λj m ej=>?_,λc d ps qs ad hcd e1 e2 p1 p2 e3 e4=>?_,λk yss a' us e1 e2 e3 j m hjk ej=>?_⟩,⟨λb hb ho=>mem b (λz=>hb (none b z)) ho,λb hb=>.inl (List.mem_filter.mp hb).1,λj zs hbm ej=>?_,put_len
  ⟩⟩
 ·by_cases hj:i=j
  ·subst hj
   rw [ac hi']at ej
   cases ej
   refine⟨_,es,?_⟩
   show Rep K _ (.lst (xss.map .lst)) (.ref a)
   rw [Rep]
   exact⟨a,_,rfl,SqL.of (out a (.head _) _ ha),rZ r vis λb hb=>out b (.tail _ hb)⟩
  ·rw [aa hj]at ej
   obtain⟨w,ew,q⟩:=st.slot j m ej
   refine⟨w,ew,?_⟩
   cases m with
   |val v=>exact Rep.mono vis _ q
   |own zs=>obtain⟨ad,ws,rfl,q1,q2,q3,q4⟩:=q;exact⟨ad,ws,rfl,q1,Reps.mono vis _ q2,mem ad (apart j _ ad hj ej rfl ew) q3,q4⟩
   |ownD zs=>obtain⟨ad,rfl,q1,q3,q4⟩:=q;exact⟨ad,rfl,q1,mem ad (apart j _ ad hj ej rfl ew) q3,q4⟩
   |ownL zss=>cases (st.inn i xss a _ e es ha j _ (Ne.symm hj) ej).1
   |brwD zs=>exact q
   |brw zs=>obtain⟨ad,ws,rfl,q1,q2⟩:=q;exact⟨ad,ws,rfl,q1,Reps.mono vis _ q2⟩
 ·have h1:∀(j:Nat) (zs:MV),db zs=true->(put ρ i (.val (.lst (xss.map .lst))))[j]?=some (some zs)->ρ[j]?=some (some zs):=λj zs oz q=>by
   by_cases hj:i=j
   ·subst hj;rw [ac hi']at q;cases q;cases oz
   ·rw [aa hj]at q;exact q
  exact st.apart c d ps qs ad hcd (h1 c ps p1 e1) (h1 d qs p2 e2) p1 p2 e3 e4
 ·have hk:i≠k:=λz=>by subst z;rw [ac hi']at e1;cases e1
  rw [aa hk]at e1
  cases (st.inn i xss a _ e es ha k _ (Ne.symm hk) e1).1
 ·have hj:i≠j:=λz=>by subst z;rw [ac hi']at ej;cases ej;cases hbm
  rw [aa hj]at ej
  exact⟨ej,rfl⟩
end
section
variable{X:Cx}{T:Tab}{k:Nat}{cal:Cal}
theorem r6{i:Nat}{ms:List MS}{ss:List Stmt}(h:PSs X ss (tSs X.K cal ms)):PSs X ss (tSs X.K cal (.freezeL i::ms)):=by
 refine h.imp λD σ H q=>?_
 obtain⟨B,O₀,O,ρ,st,q⟩:=q
 rw [exs,ex]at q
 cases hj:(ρ[i]?).join with
 |none=>rw [hj]at q;exact(show False from q).elim
 | some m =>
  rw [hj]at q
  cases m with
  |ownL xss =>
   obtain⟨O',st',k'⟩:=st.freezeL (join_some hj)
   exact⟨B,O₀,O',_,st',fO.trans q k'⟩
  | _=>exact(show False from q).elim
theorem zH{i:Nat}{mk me:ME}{x:Str}{sl v:Expr}{p sp apos cpos pos:Pos}(hk:PE X sl (tE X.K cal mk))(hsl:aG sl=true)(h:PE X v (tE X.K cal me))(hn:ax X.N X.env.scope i x=true)(hb:aH me=false)(hs:ag v=true)(hline:(apos.endLine == cpos.line)=true) :
  PS X (.Expr (.Call (.Attribute (.Subscript (.Name x p) sl sp) "append" apos) [v] [] cpos) pos) (tS X.K cal (.appI i mk me)):=by
 refine(gw (lN PySem.F.plainAttrs_list PySem.F.slot_list_append PySem.F.type_list_append gx (qa jC (bp hn) hk (fC hsl)) (aK h br (aO hs _ _)) rfl (by rw [aO hs];rfl) hline (aO hs _ _) rfl) rfl).imp λD σ H q=>?_
 obtain⟨B,O₀,O,ρ,st,q⟩:=q
 rw [ex]at q
 obtain⟨kv,ek,q⟩:=aV q
 obtain⟨w,e,q⟩:=aV q
 cases hj:(ρ[i]?).join with
 |none=>rw [hj]at q;exact(show False from q).elim
 | some m =>
  rw [hj]at q
  cases m with
  | ownL xss =>
   dsimp only at q
   cases ea:y_ xss kv w with
   |none=>rw [ea]at q;exact(show False from q).elim
   | some yss =>
    rw [ea]at q
    cases kv<;>try (cases ea;done)
    rename_i j
    simp only [y_,Option.bind_eq_some_iff]at ea
    obtain⟨pl,e1,xs,e2,e3⟩:=ea
    split at e3
    ·rename_i hl
     cases e3
     obtain⟨u,eu,a,bs,rfl,ha,r,hO,hB,nd⟩:=be st hj
     obtain⟨b,us,f1,f2,f3,f4,f5⟩:=r.get e2
     refine⟨_,eu,B,O₀,O,ρ,_,st,ek,λuk H1 s1 g1=>?_⟩
     have e4:=g1.1.int
     subst e4
     refine⟨a,bs.map .ref,j,.ref b,rfl,rfl,SqL.of (s1 _ _ ha),?_,.inl ⟨rfl,us,SqL.of (s1 _ _ f2)⟩,B,O₀,O,ρ,w,st.mono s1,e,λu H2 s2 g2=>⟨b,us,u,rfl,rfl,s2 _ _ (s1 _ _ f2),?_,?_⟩⟩
     ·unfold atI
      rw [List.length_map,<- r.len,<- fh,e1,Option.bind_some,List.getElem?_map,f1]
      rfl
     ·rw [<- f3.length];exact Nat.lt_of_lt_of_le hl (by decide)
     ·have s3:=s1.trans s2
      obtain⟨st',k'⟩:=(st.mono s3).changeI (q:=pl) (ys:=xs ++ [w]) (ws:=us ++ [u]) (join_some hj) eu (s3 _ _ ha) (r.mono s3) hO hB nd f1 ((Reps.mono (ay s3) _ f3).snoc (g2.2 hb))
      exact q _ _ _ st' k'
    ·cases e3
  | _=>exact(show False from q).elim
noncomputable def tEn(n:Nat):TA:=λ_ H Q=>∀(bs:List Addr) (H':Hp),ae H H'->bs.length=n->bs.Nodup->(∀b∈bs,H b=none/\H' b=some (.lst []))->Q (bs.map .ref) H'
theorem kG:∀(es:List Expr),es.all wS=true->PA X es (tEn es.length)
 | [],_=>br.imp λσ H Q q=>q [] H (ae.refl H) rfl .nil λb hb=>nomatch hb
 | e::es,h=>by
  simp only [List.all_cons,Bool.and_eq_true]at h
  have he:∃p,e=.List [] p:=by
   have h1:=h.1
   unfold wS at h1
   split at h1
   ·exact⟨_,rfl⟩
   ·cases h1
  obtain⟨p,rfl⟩:=he
  refine(aK (ph br) (kG es h.2) rfl).imp λσ H Q q=>?_
  refine⟨Nat.zero_le _,λp hp bs H' s hl nd hb=>q (p::bs) H' ((am hp _).trans s) (by rw [List.length_cons,hl];rfl) (List.nodup_cons.mpr ⟨λz=>?_,nd⟩) λb hb'=>?_⟩
  ·have:=(hb p z).1
   rw [au]at this
   cases this
  ·rcases List.mem_cons.mp hb' with rfl|h
   ·exact⟨hp,s _ _ au⟩
   ·exact⟨(am hp _).free (hb b h).1,(hb b h).2⟩
theorem zI{i:Nat}{es:List Expr}{x:Str}{px lp pos:Pos}(d:Df X)(hi:X.N[i]?=some x)(hx:Loc X.env.scope x)(h:es.all wS=true):PS X (.Assign [.Name x px] (.List es lp) pos) (tS X.K cal (.setL i es.length)):=by
 refine PS.imp' (jS d.nd hi hx (ph (kG es h)) (d_ (v:=.List es lp) rfl _ _ _) (.inl (d.fn x))) λD σ H hl q=>?_
 obtain⟨B,O₀,O,ρ,st,q⟩:=q
 rw [ex]at q
 by_cases c:noL ρ=true/\es.length<=10000
 ·rw [if_pos c]at q
  refine λbs H' s hlen nd hb=>⟨by rw [List.length_map,hlen];exact dW c.2,λa ha=>?_⟩
  have hab:∀b∈bs,b≠a:=λb h z=>by rw [z]at h;rw [(hb a h).2]at ha;cases ha
  obtain⟨st',k'⟩:=st.storeL (ltN hi hl) c.1 (s.trans (am ha _)) (s.free ha) au hlen (List.nodup_cons.mpr ⟨λz=>hab a z rfl,nd⟩) λb h=>⟨(hb b h).1,by rw [aB (hab b h)];exact(hb b h).2⟩
  exact q _ _ _ st' k'
 ·rw [if_neg c]at q
  exact(show False from q).elim
end
end MM
namespace MM
open PySem PySem.Spec PyProof.Rows L2
section
variable{K:PySem.W.Frag}{B H H1:Hp}{O₀ O:List Addr}{ρ:Rho}{σ:St}
theorem bL.snoc{xss:List (List PV)}{bs:List Addr}(h:bL K H O B xss bs){xs:List PV}{p:Addr}{us:List V}(hp:H p=some (.lst us))(r:Reps K (ai H O) xs us)(ho:p∈O)(hb:B p=none):bL K H O B (xss ++ [xs]) (bs ++ [p]):=by
 induction h with
 |nil=>exact .cons hp r ho hb .nil
 |cons h r' ho' hb' t ih=>exact .cons h r' ho' hb' ih
theorem bL.repl{xss:List (List PV)}{bs:List Addr}(h:bL K H O B xss bs){xs:List PV}{p:Addr}{us:List V}(hp:H p=some (.lst us))(r:Reps K (ai H O) xs us)(ho:p∈O)(hb:B p=none):∀q:Nat,bL K H O B (xss.set q xs) (bs.set q p):=by
 induction h with
 |nil=>intro q;exact .nil
 |cons h r' ho' hb' t ih =>
  intro q
  cases q with
  |zero=>exact .cons hp r ho hb t
  |succ q=>exact .cons h r' ho' hb' (ih q)
theorem mq{p:Addr}:∀{l:List Addr},l.Nodup->p∉l->∀q:Nat,(l.set q p).Nodup
 | [],_,_,_=>List.nodup_nil
 |x::l,h,hp,0=>List.nodup_cons.mpr ⟨λz=>hp (.tail _ z),(List.nodup_cons.mp h).2⟩
 |x::l,h,hp,q+1=>by
  obtain⟨h1,h2⟩:=List.nodup_cons.mp h
  refine List.nodup_cons.mpr ⟨λz=>?_,mq h2 (λz=>hp (.tail _ z)) q⟩
  rcases List.mem_or_eq_of_mem_set z with z|z
  ·exact h1 z
  ·exact hp (z ▸ .head _)
theorem aC.wider{p:Addr}(st:aC K B O₀ O H ρ σ)(s:ae H H1)(hp:H p=none)(hp1:H1 p≠none):aC K B O₀ (p::O) H1 ρ σ:=by
 have vis:ae (ai H O) (ai H1 (p::O)):=aQ s λb hb=>by
  rcases List.mem_cons.mp hb with rfl|hb
  ·exact .inr hp
  ·exact .inl hb
 refine⟨st.keep.trans s,λc hc=>?_,λc h=>List.mem_cons_of_mem _ (st.sub c h),st.old,st.len,λj m ej=>?_,st.apart,(st.mono s).inn⟩
 ·rcases List.mem_cons.mp hc with rfl|h
  ·exact hp1
  ·exact λz=>st.here c h (s.free z)
 ·obtain⟨w,ew,q⟩:=st.slot j m ej
  refine⟨w,ew,?_⟩
  cases m with
  |val v=>exact Rep.mono vis _ q
  |own zs=>obtain⟨ad,us,rfl,q1,q2,q3,q4⟩:=q;exact⟨ad,us,rfl,s _ _ q1,Reps.mono vis _ q2,List.mem_cons_of_mem _ q3,q4⟩
  |ownD zs=>obtain⟨ad,rfl,q1,q3,q4⟩:=q;exact⟨ad,rfl,s _ _ q1,List.mem_cons_of_mem _ q3,q4⟩
  |ownL zss=>obtain⟨ad,bs,rfl,q1,q2,q3,q4,q5⟩:=q;exact⟨ad,bs,rfl,s _ _ q1,q2.view s vis λb hb=>List.mem_cons_of_mem _ hb,List.mem_cons_of_mem _ q3,q4,q5⟩
  |brwD zs=>exact q
  |brw zs=>obtain⟨ad,us,rfl,q1,q2⟩:=q;exact⟨ad,us,rfl,q1,Reps.mono vis _ q2⟩
theorem aC.newI(st:aC K B O₀ O H ρ σ){i:Nat}{xss yss:List (List PV)}{a p:Addr}{bs cs:List Addr}(e:ρ[i]?=some (some (.ownL xss)))(es:σ[i]?=some (some (.ref a)))(ha:H a=some (.lst (bs.map .ref)))(hO:a∈O)(hB:B a=none)
  (s:ae H H1) (hp:H p=none) (hp1:H1 p≠none) (r:ai (upd H1 a (.lst (cs.map .ref))) (p::O)=ai H1 (p::O)->bL K (upd H1 a (.lst (cs.map .ref))) (p::O) B yss cs) (nd:(a::cs).Nodup) (hc:∀c∈cs,c=p\/c∈bs) :
  aC K B O₀ (p::O) (upd H1 a (.lst (cs.map .ref))) (put ρ i (.ownL yss)) σ/\bF B O (p::O) ρ (put ρ i (.ownL yss)) σ σ:=by
 have hi':i<ρ.length:=(List.getElem?_eq_some_iff.mp e).1
 have hpa:p≠a:=λz=>by rw [z,ha]at hp;cases hp
 have hid:ai (upd H1 a (.lst (cs.map .ref))) (p::O)=ai H1 (p::O):=fj (List.mem_cons_of_mem _ hO)
 have vis:ae (ai H O) (ai (upd H1 a (.lst (cs.map .ref))) (p::O)):=by
  rw [hid]
  exact aQ s λb hb=>by
   rcases List.mem_cons.mp hb with rfl|hb
   ·exact .inr hp
   ·exact .inl hb
 have other:∀(j:Nat) (m:MV) (c:Addr),i≠j->ρ[j]?=some (some m)->db m=true->σ[j]?=some (some (.ref c))->c≠a:=λj m c hj ej o ec z=>by
  subst z
  exact st.apart i j _ m c hj e ej rfl o es ec
 have at':∀(j:Nat) (m:MV) (c:Addr) (ob:HO),i≠j->ρ[j]?=some (some m)->db m=true->σ[j]?=some (some (.ref c))->H c=some ob->upd H1 a (.lst (cs.map .ref)) c=some ob:=λj m c ob hj ej o ec h=>by
  rw [aB (other j m c hj ej o ec)]
  exact s _ _ h
 refine⟨⟨λc u ec=>?_,λc hc=>?_,λc h=>List.mem_cons_of_mem _ (st.sub c h),st.old,by rw [put_len];exact st.len,λj m ej=>?_,λc d ps qs ad hcd e1 e2 p1 p2 e3 e4=>?_,λk zss a' us e1 e2 e3 j m hjk ej=>?_⟩,⟨λ_ _ h=>List.mem_cons_of_mem _ h,λc h=>?_,λj zs hbm ej=>?_,put_len
  ⟩⟩
 ·rw [aB (bD ec hB)]
  exact s _ _ (st.keep c u ec)
 ·unfold upd
  split
  ·simp
  ·rcases List.mem_cons.mp hc with rfl|h
   ·exact hp1
   ·exact λz=>st.here c h (s.free z)
 ·by_cases hj:i=j
  ·subst hj
   rw [ac hi']at ej
   cases ej
   exact⟨_,es,a,cs,rfl,au,r hid,List.mem_cons_of_mem _ hO,hB,nd⟩
  ·rw [aa hj]at ej
   obtain⟨w,ew,q⟩:=st.slot j m ej
   refine⟨w,ew,?_⟩
   cases m with
   |val v=>exact Rep.mono vis _ q
   |own zs=>obtain⟨ad,us,rfl,q1,q2,q3,q4⟩:=q;exact⟨ad,us,rfl,at' j _ ad _ hj ej rfl ew q1,Reps.mono vis _ q2,List.mem_cons_of_mem _ q3,q4⟩
   |ownD zs=>obtain⟨ad,rfl,q1,q3,q4⟩:=q;exact⟨ad,rfl,at' j _ ad _ hj ej rfl ew q1,List.mem_cons_of_mem _ q3,q4⟩
   |ownL zss=>cases (st.inn i xss a _ e es ha j _ (Ne.symm hj) ej).1
   |brwD zs=>exact q
   |brw zs=>obtain⟨ad,us,rfl,q1,q2⟩:=q;exact⟨ad,us,rfl,q1,Reps.mono vis _ q2⟩
 ·have h1:∀(j:Nat) (zs:MV),(put ρ i (.ownL yss))[j]?=some (some zs)->db zs=true->∃zs,ρ[j]?=some (some zs)/\db zs=true:=λj zs q oz=>by
   by_cases hj:i=j
   ·subst hj;exact⟨_,e,rfl⟩
   ·rw [aa hj]at q;exact⟨zs,q,oz⟩
  obtain⟨q1,e1,p1⟩:=h1 c ps e1 p1
  obtain⟨q2,e2,p2⟩:=h1 d qs e2 p2
  exact st.apart c d q1 q2 ad hcd e1 e2 p1 p2 e3 e4
 ·have hk:i=k:=by
   cases Nat.decEq i k with
   |isTrue z=>exact z
   |isFalse z =>
    rw [aa z]at e1
    cases (st.inn i xss a _ e es ha k _ (Ne.symm z) e1).1
  subst hk
  rw [es]at e2
  cases e2
  rw [au]at e3
  cases e3
  rw [aa (Ne.symm hjk)]at ej
  obtain⟨f1,f2⟩:=st.inn i xss a _ e es ha j m hjk ej
  refine⟨f1,λc o ec z=>?_⟩
  rcases hc c (dl.mp z) with h|h
  ·exact iG st ej o ec (h ▸ hp)
  ·exact f2 c o ec (dl.mpr h)
 ·rcases List.mem_cons.mp h with rfl|h
  ·exact .inr (st.keep.free hp)
  ·exact .inl h
 ·have hj:i≠j:=λz=>by subst z;rw [ac hi']at ej;cases ej;cases hbm
  rw [aa hj]at ej
  exact⟨ej,rfl⟩
theorem bL.behind{xss:List (List PV)}{bs:List Addr}{a p:Addr}{ob:HO}(h:bL K H O B xss bs)(s:ae H H1)(hp:H p=none)(hid:ai (L2.upd H1 a ob) (p::O)=ai H1 (p::O))(hn:a∉bs):bL K (L2.upd H1 a ob) (p::O) B xss bs :=
 (h.view s (aQ s λb hb=>by
  rcases List.mem_cons.mp hb with rfl|hb
  ·exact .inr hp
  ·exact .inl hb) λb hb=>List.mem_cons_of_mem _ hb).upd hid λb hb z=>hn (z ▸ hb)
end
section
variable{X:Cx}{T:Tab}{k:Nat}{cal:Cal}
theorem zJ{i f:Nat}{ms:List ME}{x:Str}{v:Expr}{p apos cpos pos:Pos}(h:PE X v (tFc X.K cal f ms))(hn:ax X.N X.env.scope i x=true)(hs:ag v=true)(hline:(apos.endLine == cpos.line)=true) :
  PS X (.Expr (.Call (.Attribute (.Name x p) "append" apos) [v] [] cpos) pos) (tS X.K cal (.appF i f ms)):=by
 refine(gw (lN PySem.F.plainAttrs_list PySem.F.slot_list_append PySem.F.type_list_append gx (bp hn) (aK h br (aO hs _ _)) rfl (by rw [aO hs];rfl) hline (aO hs _ _) rfl) rfl).imp λD σ H q=>?_
 obtain⟨B,O₀,O,ρ,st,q⟩:=q
 rw [ex]at q
 obtain⟨w,e,q⟩:=aV q
 cases hj:(ρ[i]?).join with
 |none=>rw [hj]at q;exact(show False from q).elim
 | some m =>
  rw [hj]at q
  cases m with
  | ownL xss =>
   cases w with
   | lst xs =>
    dsimp only at q
    split at q
    ·rename_i hl
     obtain⟨u,eu,a,bs,rfl,ha,r,hO,hB,nd⟩:=be st hj
     obtain⟨n1,n2⟩:=List.nodup_cons.mp nd
     refine⟨_,eu,.inl ⟨rfl,_,SqL.of ha⟩,B,O₀,O,ρ,xs,st,e,λp us H1 s hp he rs=>⟨a,bs.map .ref,.ref p,rfl,rfl,s _ _ ha,?_,?_⟩⟩
     ·rw [List.length_map,<- r.len];exact Nat.lt_of_lt_of_le hl (by decide)
     ·have hpa:p≠a:=λz=>by rw [z,ha]at hp;cases hp
      have hpb:p∉bs:=λz=>(r.at p z).1 hp
      have ec:bs.map V.ref ++ [.ref p]=(bs ++ [p]).map V.ref:=by rw [List.map_append];rfl
      rw [ec]
      obtain⟨st',k'⟩:=st.newI (yss:=xss ++ [xs]) (cs:=bs ++ [p]) (join_some hj) eu ha hO hB s hp (by rw [he];simp) (λhid=>(r.behind s hp hid n1).snoc (by rw [aB hpa];exact he) (by rw [hid];exact rs) (.head _) (st.keep.free hp))
       (List.nodup_cons.mpr ⟨λz=>(List.mem_append.mp z).elim n1 λz=>hpa (List.mem_singleton.mp z).symm,List.nodup_append.mpr ⟨n2,by simp,λc hc d hd z=>by rw [List.mem_singleton.mp hd]at z;exact hpb (z ▸ hc)⟩⟩)
       λc hc=>(List.mem_append.mp hc).elim .inr λz=>.inl (List.mem_singleton.mp z)
      exact q _ _ _ st' k'
    ·exact(show False from q).elim
   | _=>exact(show False from q).elim
  | _=>exact(show False from q).elim
theorem zK{i:Nat}{mk me:ME}{x:Str}{sl v:Expr}{p sp apos cpos pos:Pos}(hk:PE X sl (tE X.K cal mk))(hsl:aG sl=true)(h:PE X v (tE X.K cal me))(hn:ax X.N X.env.scope i x=true)(hs:ag v=true)(hline:(apos.endLine == cpos.line)=true) :
  PS X (.Expr (.Call (.Attribute (.Subscript (.Name x p) sl sp) "pop" apos) [v] [] cpos) pos) (tS X.K cal (.popI i mk me)):=by
 refine(gw (lN PySem.F.plainAttrs_list PySem.F.slot_list_pop PySem.F.type_list_pop oR (qa jC (bp hn) hk (fC hsl)) (aK h br (aO hs _ _)) rfl (by rw [aO hs];rfl) hline (aO hs _ _) rfl) rfl).imp λD σ H q=>?_
 obtain⟨B,O₀,O,ρ,st,q⟩:=q
 rw [ex]at q
 obtain⟨kv,ek,q⟩:=aV q
 obtain⟨w,e,q⟩:=aV q
 cases hj:(ρ[i]?).join with
 |none=>rw [hj]at q;exact(show False from q).elim
 | some m =>
  rw [hj]at q
  cases m with
  | ownL xss =>
   dsimp only at q
   cases ea:rN xss kv w with
   |none=>rw [ea]at q;exact(show False from q).elim
   | some yss =>
    rw [ea]at q
    cases kv<;>try (cases ea;done)
    cases w<;>try (cases ea;done)
    rename_i j n
    simp only [rN,Option.bind_eq_some_iff]at ea
    obtain⟨pl,e1,xs,e2,e3⟩:=ea
    split at e3
    ·rename_i hl
     cases e3
     obtain⟨u,eu,a,bs,rfl,ha,r,hO,hB,nd⟩:=be st hj
     obtain⟨b,us,f1,f2,f3,f4,f5⟩:=r.get e2
     obtain⟨w,hw⟩:∃w,us[n.toNat]?=some w:=⟨_,List.getElem?_eq_getElem (by rw [<- f3.length];omega)⟩
     refine⟨_,eu,B,O₀,O,ρ,_,st,ek,λuk H1 s1 g1=>?_⟩
     have e4:=g1.1.int
     subst e4
     refine⟨a,bs.map .ref,j,.ref b,rfl,rfl,SqL.of (s1 _ _ ha),?_,.inl ⟨rfl,us,SqL.of (s1 _ _ f2)⟩,B,O₀,O,ρ,.int n,st.mono s1,e,λu H2 s2 g2=>⟨b,us,n,w,rfl,?_,s2 _ _ (s1 _ _ f2),hl.1,hw,?_,?_⟩⟩
     ·unfold atI
      rw [List.length_map,<- r.len,<- fh,e1,Option.bind_some,List.getElem?_map,f1]
      rfl
     ·rw [g2.1.int]
     ·rw [<- f3.length];exact hl.2.2
     ·have s3:=s1.trans s2
      obtain⟨st',k'⟩:=(st.mono s3).changeI (q:=pl) (ys:=xs.eraseIdx n.toNat) (ws:=us.eraseIdx n.toNat) (join_some hj) eu (s3 _ _ ha) (r.mono s3) hO hB nd f1 (kF (Reps.mono (ay s3) _ f3) _)
      exact q _ _ _ st' k'
    ·cases e3
  | _=>exact(show False from q).elim
theorem zL{i:Nat}{mk me:ME}{x:Str}{v s:Expr}{p spos pos:Pos}(hk:PE X s (tE X.K cal mk))(h:PE X v (tF X.K cal me))(hn:ax X.N X.env.scope i x=true)(hc:bV v=true)(hsl:aG s=true) :
  PS X (.Assign [.Subscript (.Name x p) s spos] v pos) (tS X.K cal (.setI i mk me)):=by
 refine(yo h (yn (bp hn) hk set_list (by intro v';cases s<;>first|rfl|(simp [aG]at hsl))) (by cases v<;>first|rfl|(simp [bV]at hc)) (by cases v<;>rfl) rfl).imp λD σ H q=>?_
 obtain⟨B,O₀,O,ρ,st,q⟩:=q
 rw [ex]at q
 obtain⟨w,e,q⟩:=aV q
 obtain⟨kv,ek,q⟩:=aV q
 cases hj:(ρ[i]?).join with
 |none=>rw [hj]at q;exact(show False from q).elim
 | some m =>
  rw [hj]at q
  cases m with
  | ownL xss =>
   dsimp only at q
   cases ea:l6 xss kv w with
   |none=>rw [ea]at q;exact(show False from q).elim
   | some yss =>
    rw [ea]at q
    cases kv<;>try (cases ea;done)
    cases w<;>try (cases ea;done)
    rename_i j xs
    simp only [l6,Option.map_eq_some_iff]at ea
    obtain⟨pl,e1,rfl⟩:=ea
    obtain⟨u,eu,a,bs,rfl,ha,r,hO,hB,nd⟩:=be st hj
    obtain⟨n1,n2⟩:=List.nodup_cons.mp nd
    refine⟨B,O₀,O,ρ,xs,st,e,λp us H1 s1 hp he rs=>⟨_,eu,B,O₀,p::O,ρ,_,?_,ek,λuk H2 s2 g2=>⟨a,bs.map .ref,j,pl,rfl,g2.1.int,s2 _ _ (s1 _ _ ha),?_,?_⟩⟩⟩
    ·exact st.wider s1 hp (by rw [he];simp)
    ·rw [List.length_map,<- r.len,<- fh];exact e1
    ·have hpa:p≠a:=λz=>by rw [z,ha]at hp;cases hp
     have hpb:p∉bs:=λz=>(r.at p z).1 hp
     have ec:(bs.map V.ref).set pl (.ref p)=(bs.set pl p).map V.ref:=by rw [List.map_set]
     rw [ec]
     have s3:=s1.trans s2
     obtain⟨st',k'⟩:=st.newI (yss:=xss.set pl xs) (cs:=bs.set pl p) (join_some hj) eu ha hO hB s3 hp (by rw [s2 _ _ he];simp) (λhid=>(r.behind s3 hp hid n1).repl (by rw [aB hpa];exact s2 _ _ he) (by rw [hid];exact Reps.mono (ay s2) _ rs) (.head _) (st.keep.free hp) pl)
      (List.nodup_cons.mpr ⟨λz=>(List.mem_or_eq_of_mem_set z).elim n1 λz=>hpa z.symm,mq n2 hpb pl⟩)
      λc hc=>(List.mem_or_eq_of_mem_set hc).elim .inr .inl
     exact q _ _ _ st' k'
  | _=>exact(show False from q).elim
theorem zM{i:Nat}{x:Str}{p pos:Pos}(hn:ax X.N X.env.scope i x=true):PS X (.Return (some (.Name x p)) pos) (tS X.K cal (.retO i)):=by
 refine(o8 (bp hn)).imp λD σ H q=>?_
 obtain⟨B,O₀,O,ρ,st,q⟩:=q
 rw [ex]at q
 cases hj:(ρ[i]?).join with
 |none=>rw [hj]at q;exact(show False from q).elim
 | some m =>
  rw [hj]at q
  cases m with
  |own xs =>
   obtain⟨u,eu,a,us,rfl,ha,rs,hO,hB⟩:=be st hj
   refine⟨_,eu,q a us H st.keep hB ha (Reps.mono (aQ (ae.refl H) λb hb=>.inl ?_) _ rs)⟩
   rcases List.mem_cons.mp hb with rfl|hb
   ·exact hO
   ·exact st.sub b hb
  | _=>exact(show False from q).elim
end
end MM
namespace MM
open PySem PySem.Spec PyProof.Rows L2
section
variable{K:PySem.W.Frag}{B H:Hp}{O₀ O:List Addr}{ρ:Rho}{σ:St}
theorem BM{H1 H':Hp}{O' L:List Addr}{ρ':Rho}{σ':St}(st':aC K (bA B O H1 L) O₀ O' H' ρ' σ')(k:bF (bA B O H1 L) O O' ρ ρ' σ σ'):ae (ai H1 O) (ai H' O'):=λb u e=>by
 have hb:b∉O:=λz=>by rw [m9 z]at e;cases e
 have hg:bA B O H1 L b=some u:=bW b u e
 rw [bK]
 ·exact st'.keep b u hg
 ·intro z
  rcases k.new b z with q|q
  ·exact hb q
  ·rw [hg]at q;cases q
theorem xn{ms:List ME}(st:aC K B O₀ O H ρ σ):aC K (bA B O H (aN ms ρ σ)) O₀ O H (aX ms ρ) σ/\(aX ms ρ).length=ρ.length:=by
 have base:∀ L:List Addr,(∀ a ∈ L,∀ (j:Nat) (ys:MV),(aX ms ρ)[j]?=some (some ys)->db ys=true->σ[j]? ≠ some (some (.ref a)))->(∀ (j:Nat) (m:MV),(aX ms ρ)[j]?=some (some m)->(∃ ys,m=.brw ys/\ρ[j]?=some (some (.own ys))/\∃ a,σ[j]?=some (some (.ref a))/\a ∈ L) \/ ρ[j]?=some (some m))->(aX ms ρ).length=ρ.length ->
   (∀a∈L,∀(j:Nat) (zss:List (List PV)) (c:Addr) (us:List V),ρ[j]?=some (some (.ownL zss))->σ[j]?=some (some (.ref c))->H c=some (.lst us)->V.ref a∉us) ->
   aC K (bA B O H L) O₀ O H (aX ms ρ) σ:=λL h1 h2 h3 h4=>by
  have gl:=oH (O:=O) (L:=L) st.keep
  have lg:=d9 (O:=O) (L:=L) st.keep
  refine⟨gl,st.here,st.sub,λa ha z=>st.old a ha (lg.free z),h3.trans st.len,λj m e=>?_,λc d ps qs ad hcd e1 e2 p1 p2 e3 e4=>?_
   ,d7 st.inn (λj xss e=>by
    rcases h2 j _ e with ⟨_,z,_⟩|e2
    ·cases z
    ·exact⟨e2,rfl,λ_ _ _ h=>h⟩) λj m c e _ o ec=>.inl (by
    rcases h2 j _ e with ⟨_,z,_⟩|e2
    ·rw [z]at o;cases o
    ·exact⟨m,e2,o,ec⟩)
   ⟩
  ·rcases h2 j m e with ⟨ys,rfl,e2,a,ea,haL⟩|e2
   ·obtain⟨u,eu,a',us,rfl,q1,q2,q3,q4⟩:=st.slot j _ e2
    rw [ea]at eu
    cases eu
    refine⟨_,ea,a,us,rfl,SqL.of ?_,q2⟩
    unfold bA
    rw [if_pos q3,if_pos haL]
    exact q1
   ·obtain⟨u,eu,q⟩:=st.slot j m e2
    refine⟨u,eu,?_⟩
    cases m with
    |val v=>exact q
    |own ys =>
     obtain⟨a,us,rfl,q1,q2,q3,q4⟩:=q
     refine⟨a,us,rfl,q1,q2,q3,?_⟩
     unfold bA
     rw [if_pos q3,if_neg λhaL=>h1 a haL j (.own ys) e rfl eu]
     exact q4
    |ownD ys =>
     obtain⟨a,rfl,q1,q3,q4⟩:=q
     refine⟨a,rfl,q1,q3,?_⟩
     unfold bA
     rw [if_pos q3,if_neg λhaL=>h1 a haL j (.ownD ys) e rfl eu]
     exact q4
    | ownL yss =>
     obtain⟨a,bs,rfl,q1,q2,q3,q4,q5⟩:=q
     refine⟨a,bs,rfl,q1,q2.base λb hb ho hB=>?_,q3,?_,q5⟩
     ·unfold bA
      rw [if_pos ho,if_neg λhbL=>h4 b hbL j yss a _ e2 eu q1 (dl.mpr hb)]
      exact hB
     ·unfold bA
      rw [if_pos q3,if_neg λhaL=>h1 a haL j (.ownL yss) e rfl eu]
      exact q4
    |brwD ys=>obtain⟨a,rfl,q1⟩:=q;exact⟨a,rfl,ae.rd lg q1⟩
    |brw ys=>obtain⟨a,us,rfl,q1,q2⟩:=q;exact⟨a,us,rfl,lg.seq q1,q2⟩
  ·rcases h2 c _ e1 with ⟨_,rfl,_⟩|e1
   ·cases p1
   ·rcases h2 d _ e2 with ⟨_,rfl,_⟩|e2
    ·cases p2
    ·exact st.apart c d ps qs ad hcd e1 e2 p1 p2 e3 e4
 have plain:aX ms ρ=ρ->aN ms ρ σ=[]->aC K (bA B O H (aN ms ρ σ)) O₀ O H (aX ms ρ) σ/\(aX ms ρ).length=ρ.length:=λe1 e2=>by
  rw [e2]
  exact⟨base [] (λa ha=>by simp at ha) (λj m e=>.inr (by rw [e1]at e;exact e)) (by rw [e1]) (λa ha=>by simp at ha),by rw [e1]⟩
 match ms with
 | []=>exact plain rfl rfl
 | [.bor i] =>
  cases hj:(ρ[i]?).join with
  |none=>exact plain (by simp [aX,hj]) (by simp [aN,hj])
  | some m =>
   cases m with
   |val _=>exact plain (by simp [aX,hj]) (by simp [aN,hj])
   |brw _=>exact plain (by simp [aX,hj]) (by simp [aN,hj])
   |ownD _=>exact plain (by simp [aX,hj]) (by simp [aN,hj])
   |ownL _=>exact plain (by simp [aX,hj]) (by simp [aN,hj])
   |brwD _=>exact plain (by simp [aX,hj]) (by simp [aN,hj])
   | own xs =>
    have el:aX [.bor i] ρ=put ρ i (.brw xs):=by simp [aX,hj]
    have e0:=join_some hj
    obtain⟨u,eu,a,us,rfl,q1,q2,q3,q4⟩:=st.slot i _ e0
    have eL:aN [.bor i] ρ σ=[a]:=by simp [aN,hj,eu]
    have hi':i<ρ.length:=(List.getElem?_eq_some_iff.mp e0).1
    rw [eL]
    refine⟨base [a] (λb hb j ys e oy z=>?_) (λj m e=>?_) (by rw [el,put_len]) (λb hb j zss c us f1 f2 f3=>by
     rw [List.mem_singleton.mp hb]
     exact(st.inn j zss c us f1 f2 f3 i (.own xs) (λz=>by subst z;rw [e0]at f1;cases f1) e0).2 a rfl eu),by rw [el,put_len]⟩
    ·have:b=a:=by simpa using hb
     subst this
     rw [el]at e
     have hj':i≠j:=λz=>by subst z;rw [ac hi']at e;cases e;cases oy
     rw [aa hj']at e
     exact st.apart i j (.own xs) ys b hj' e0 e rfl oy eu z
    ·rw [el]at e
     by_cases hij:i=j
     ·subst hij
      rw [ac hi']at e
      cases e
      exact .inl ⟨xs,rfl,e0,a,eu,by simp⟩
     ·rw [aa hij]at e
      exact .inr e
 | .var _::_=>exact plain rfl rfl
 | .cst _::_=>exact plain rfl rfl
 | .glob _ _::_=>exact plain rfl rfl
 | .bin _ _ _::_=>exact plain rfl rfl
 | .neg _::_=>exact plain rfl rfl
 | .not _::_=>exact plain rfl rfl
 | .and _ _::_=>exact plain rfl rfl
 | .or _ _::_=>exact plain rfl rfl
 | .ite _ _ _::_=>exact plain rfl rfl
 | .cmp _ _ _::_=>exact plain rfl rfl
 | .chain _ _ _ _ _::_=>exact plain rfl rfl
 | .tup _::_=>exact plain rfl rfl
 | .lst _::_=>exact plain rfl rfl
 | .idx _ _::_=>exact plain rfl rfl
 | .slice _ _ _::_=>exact plain rfl rfl
 | .blt _ _::_=>exact plain rfl rfl
 | .call _ _::_=>exact plain rfl rfl
 | .callD _ _ _::_=>exact plain rfl rfl
 | .comp _ _ _ _ _::_=>exact plain rfl rfl
 | .dget _ _ _::_=>exact plain rfl rfl
 | .dat _ _::_=>exact plain rfl rfl
 | .dIn _ _ _::_=>exact plain rfl rfl
 | .lenL _::_=>exact plain rfl rfl
 | .lenI _ _::_=>exact plain rfl rfl
 | .bor _::_::_=>exact plain rfl rfl
theorem iH{ms:List ME}{j:Nat}{ys:List PV}(h:(aX ms ρ)[j]?=some (some (.brw ys))):ρ[j]?=some (some (.brw ys))\/(ms=[.bor j]/\ρ[j]?=some (some (.own ys))):=by
 unfold aX at h
 split at h
 ·rename_i i
  split at h
  ·rename_i xs hj
   have e0:=join_some hj
   have hi':i<ρ.length:=(List.getElem?_eq_some_iff.mp e0).1
   by_cases hij:i=j
   ·subst hij
    rw [ac hi']at h
    cases h
    exact .inr ⟨rfl,e0⟩
   ·rw [aa hij]at h
    exact .inl h
  ·exact .inl h
 ·exact .inl h
theorem i9{ms:List ME}{j:Nat}{ys:DD}(h:(aX ms ρ)[j]?=some (some (.brwD ys))):ρ[j]?=some (some (.brwD ys)):=by
 unfold aX at h
 split at h
 ·rename_i i
  split at h
  ·rename_i xs hj
   have e0:=join_some hj
   have hi':i<ρ.length:=(List.getElem?_eq_some_iff.mp e0).1
   by_cases hij:i=j
   ·subst hij
    rw [ac hi']at h
    cases h
   ·rw [aa hij]at h
    exact h
  ·exact h
 ·exact h
theorem kH{ms:List ME}:(aX ms ρ).length=ρ.length:=by
 unfold aX
 split
 ·split
  ·exact put_len
  ·rfl
 ·rfl
theorem qK{ms:List ME}{H1 H':Hp}{O':List Addr}{ρ':Rho}{σ':St}(st:aC K B O₀ O H1 ρ σ)(st':aC K (bA B O H1 (aN ms ρ σ)) O₀ O' H' ρ' σ')(k:bF (bA B O H1 (aN ms ρ σ)) O O' (aX ms ρ) ρ' σ σ') :
  aC K B O₀ O' H' (aE ms ρ ρ') σ'/\bF B O O' ρ (aE ms ρ ρ') σ σ':=by
 have lg:=d9 (O:=O) (L:=aN ms ρ σ) st.keep
 have vis:=BM st' k
 have stay:∀a,B a≠none->a∈O->a∈O':=λa h1 h2=>k.stay a (λz=>h1 (lg.free z)) h2
 have new:∀a∈O',a∈O\/B a=none:=λa h=>(k.new a h).imp id lg.free
 have slot:∀(j:Nat) (m:MV),ρ'[j]?=some (some m)->(∀ys,m=.brw ys->¬ (ms=[.bor j]/\ρ[j]?=some (some (.own ys))))->∃u,σ'[j]?=some (some u)/\eQ K B O' H' m u:=λj m e hn=>by
  obtain⟨u,eu,q⟩:=st'.slot j m e
  refine⟨u,eu,?_⟩
  cases m with
  |val v=>exact q
  |own ys=>obtain⟨a,us,rfl,q1,q2,q3,q4⟩:=q;exact⟨a,us,rfl,q1,q2,q3,lg.free q4⟩
  | brw ys =>
   obtain⟨e1,e2⟩:=k.brw j (.brw ys) rfl e
   rcases iH e1 with e3|e3
   ·obtain⟨w,ew,a,us,rfl,q1,q2⟩:=st.slot j _ e3
    rw [eu,ew]at e2
    cases e2
    exact⟨a,us,rfl,q1,Reps.mono vis _ q2⟩
   ·exact absurd e3 (hn ys rfl)
  |ownD ys=>obtain⟨a,rfl,q1,q3,q4⟩:=q;exact⟨a,rfl,q1,q3,lg.free q4⟩
  |ownL yss=>obtain⟨a,bs,rfl,q1,q2,q3,q4,q5⟩:=q;exact⟨a,bs,rfl,q1,q2.base λ_ _ _ h=>lg.free h,q3,lg.free q4,q5⟩
  |brwD ys =>
   obtain⟨e1,e2⟩:=k.brw j (.brwD ys) rfl e
   obtain⟨w,ew,a,rfl,q1⟩:=st.slot j _ (i9 e1)
   rw [eu,ew]at e2
   cases e2
   exact⟨a,rfl,q1⟩
 by_cases hA:∃i xs0 xs,ms=[.bor i]/\(ρ[i]?).join=some (.own xs0)/\(ρ'[i]?).join=some (.brw xs)
 ·obtain⟨i,xs0,xs,rfl,h0,h1⟩:=hA
  have eb:aE [.bor i] ρ ρ'=put ρ' i (.own xs):=by simp [aE,h0,h1]
  rw [eb]
  have e0:=join_some h0
  have e1:=join_some h1
  have hi':i<ρ'.length:=(List.getElem?_eq_some_iff.mp e1).1
  obtain⟨el,es⟩:=k.brw i (.brw xs) rfl e1
  have exs:xs=xs0:=by
   rcases iH el with e3|⟨_,e3⟩
   ·rw [e0]at e3;cases e3
   ·rw [e0]at e3;cases e3;rfl
  subst exs
  obtain⟨w,ew,a,us,rfl,q1,q2,q3,q4⟩:=st.slot i _ e0
  have eL:aN [.bor i] ρ σ=[a]:=by simp [aN,h0,ew]
  have ga:bA B O H1 (aN [.bor i] ρ σ) a=some (.lst us):=by
   unfold bA
   rw [eL,if_pos q3,if_pos (by simp)]
   exact q1
  have other:∀(j:Nat) (ys:MV) (ad:Addr),ρ'[j]?=some (some ys)->db ys=true->σ'[j]?=some (some (.ref ad))->ad≠a:=λj ys ad h1 oy h2 z=>by
   obtain⟨u,eu,qq⟩:=st'.slot j _ h1
   rw [h2]at eu
   cases eu
   cases ys with
   |own ys =>
    obtain⟨b,_,e2,_,_,_,q⟩:=qq
    cases e2
    rw [z,ga]at q
    cases q
   |ownD ys =>
    obtain⟨b,e2,_,_,q⟩:=qq
    cases e2
    rw [z,ga]at q
    cases q
   |ownL yss =>
    obtain⟨b,bs,e2,_,_,_,q,_⟩:=qq
    cases e2
    rw [z,ga]at q
    cases q
   |val _=>cases oy
   |brw _=>cases oy
   |brwD _=>cases oy
  refine⟨⟨lg.trans st'.keep,st'.here,st'.sub,st.old,by rw [put_len];exact st'.len,λj m e=>?_,λc d ps qs ad hcd e1 e2 p1 p2 e3 e4=>?_
   ,d7 st'.inn (λj xss e=>by
    have hj:i≠j:=λz=>by subst z;rw [ac hi']at e;cases e
    rw [aa hj]at e
    exact⟨e,rfl,λ_ _ _ h=>h⟩) λj m c e _ o ec=>by
    by_cases hj:i=j
    ·subst hj
     rw [es,ew]at ec
     cases ec
     refine .inr λk' xss a' us' f1 f2 f3 z=>?_
     obtain⟨u,e3,a'',bs,rfl,qq,r,_⟩:=st'.slot k' _ f1
     rw [f2]at e3
     cases e3
     rw [qq]at f3
     cases f3
     have:=(r.at a (dl.mp z)).2.2
     rw [ga]at this
     cases this
    ·rw [aa hj]at e
     exact .inl ⟨m,e,o,ec⟩
   ⟩,⟨stay,new,λj ys hbm e=>?_,by rw [put_len];exact k.len.trans kH
   ⟩⟩
  ·by_cases hij:i=j
   ·subst hij
    rw [ac hi']at e
    cases e
    refine⟨_,by rw [es];exact ew,a,us,rfl,st'.keep _ _ ga,Reps.mono vis _ q2,k.stay a (by rw [ga];simp) q3,q4⟩
   ·rw [aa hij]at e
    exact slot j m e λys _ ⟨z,_⟩=>hij (by cases z;rfl)
  ·by_cases hc:i=c
   ·subst hc
    rw [es,ew]at e3
    cases e3
    rw [aa hcd]at e2
    exact other d qs _ e2 p2 e4 rfl
   ·rw [aa hc]at e1
    by_cases hd:i=d
    ·subst hd
     rw [es,ew]at e4
     cases e4
     exact other c ps _ e1 p1 e3 rfl
    ·rw [aa hd]at e2
     exact st'.apart c d ps qs ad hcd e1 e2 p1 p2 e3 e4
  ·by_cases hij:i=j
   ·subst hij
    rw [ac hi']at e
    cases e
    cases hbm
   ·rw [aa hij]at e
    obtain⟨e1,e2⟩:=k.brw j ys hbm e
    cases ys with
    |brw ys =>
     rcases iH e1 with e3|⟨z,_⟩
     ·exact⟨e3,e2⟩
     ·cases z;exact absurd rfl hij
    |brwD ys=>exact⟨i9 e1,e2⟩
    |val _=>cases hbm
    |own _=>cases hbm
    |ownD _=>cases hbm
    |ownL _=>cases hbm
 ·have eb:aE ms ρ ρ'=ρ':=by
   unfold aE
   split
   ·rename_i i
    split
    ·rename_i xs0 xs h0 h1
     exact absurd ⟨i,xs0,xs,rfl,h0,h1⟩ hA
    ·rfl
   ·rfl
  rw [eb]
  have no:∀(j:Nat) (ys:List PV),ρ'[j]?=some (some (.brw ys))->¬ (ms=[.bor j]/\ρ[j]?=some (some (.own ys))):=λj ys e ⟨h1,h2⟩=>hA ⟨j,ys,ys,h1,by rw [h2];rfl,by rw [e];rfl⟩
  refine⟨⟨lg.trans st'.keep,st'.here,st'.sub,st.old,st'.len,λj m e=>slot j m e λys z=>no j ys (by rw [e,z]),st'.apart
   ,st'.inn
   ⟩,⟨stay,new,λj ys hbm e=>?_,k.len.trans kH
   ⟩⟩
  obtain⟨e1,e2⟩:=k.brw j ys hbm e
  cases ys with
  |brw ys =>
   rcases iH e1 with e3|e3
   ·exact⟨e3,e2⟩
   ·exact absurd e3 (no j ys e)
  |brwD ys=>exact⟨i9 e1,e2⟩
  |val _=>cases hbm
  |own _=>cases hbm
  |ownD _=>cases hbm
  |ownL _=>cases hbm
end
section
variable{X:Cx}{T:Tab}{k:Nat}{cal:Cal}
noncomputable def zN(K:PySem.W.Frag)(n:Nat)(g:TG)(tk:PV->Rho->Option Rho):Prop :=
 ∀(B:Hp) (O₀ O:List Addr) (H:Hp) (ρ ρ':Rho) (σ:St) (x:PV) (u:V) (Q:St->Hp->Prop),σ.length=n->aC K B O₀ O H ρ σ->Rep K (ai H O) x u->tk x ρ=some ρ' ->
  (∀σ',aC K B O₀ O H ρ' σ'->bF B O O ρ ρ' σ σ'->Q σ' H)->g u σ H Q
theorem uQ{K:PySem.W.Frag}{n:Nat}{k':Sk}{ms:List ME}{g:TG}{tk:PV->Rho->Option Rho}{body:List MS}{D:jx}{σ:St}{H:Hp}(hn:σ.length=n)(hg:zN K n g tk){B:Hp}{O₀ O:List Addr}{ρ:Rho}{vs xs:List PV}(st:aC K B O₀ O H ρ σ)(e1:evs cal ms ρ=some vs)(e2:bo k' vs=some xs)
  (q:fO K B O₀ O ρ σ D ((aD (λx ρ'=>dH (tk x ρ') λρ''=>exs cal body ρ'') xs (aX ms ρ)).back ms ρ)):AW (tW K cal k' ms) g (tSs K cal body) D σ H:=by
 refine⟨B,O₀,O,ρ,vs,xs,st,e1,e2,λJ H1 s1 it=>?_⟩
 have st1:=st.mono s1
 obtain⟨stL,_⟩:=xn (ms:=ms) st1
 refine⟨λi m σ' H'=>m=xs.length-i/\i<=xs.length/\∃ρ' O',aC K (bA B O H1 (aN ms ρ σ)) O₀ O' H' ρ' σ'/\bF (bA B O H1 (aN ms ρ σ)) O O' (aX ms ρ) ρ' σ σ' /\
  aD (λx ρ'=>dH (tk x ρ') λρ''=>exs cal body ρ'') (xs.drop i) ρ'=aD (λx ρ'=>dH (tk x ρ') λρ''=>exs cal body ρ'') xs (aX ms ρ),⟨xs.length,by simp,Nat.zero_le _,aX ms ρ,O,stL,.refl,by simp⟩,?_⟩
 rintro i m σ' H' ⟨rfl,hi,ρ',O',st',k',eq⟩
 by_cases hlt:i<xs.length
 ·right
  have ex:xs[i]?=some xs[i]:=List.getElem?_eq_getElem hlt
  refine⟨it.go i _ H' st'.keep ex,λσ2 H2=>∃m',m'<xs.length-i/\(m'=xs.length-(i+1)/\i+1<=xs.length/\∃ρ' O',aC K (bA B O H1 (aN ms ρ σ)) O₀ O' H2 ρ' σ2/\bF (bA B O H1 (aN ms ρ σ)) O O' (aX ms ρ) ρ' σ σ2 /\
   aD (λx ρ'=>dH (tk x ρ') λρ''=>exs cal body ρ'') (xs.drop (i+1)) ρ'=aD (λx ρ'=>dH (tk x ρ') λρ''=>exs cal body ρ'') xs (aX ms ρ)),λσ2 H2 z=>z,λu H2 y=>?_⟩
  obtain⟨s2,hr⟩:=it.yld i _ H' u H2 st'.keep ex y
  have vis:=BM st' k'
  have hx:Rep K (ai H2 O') xs[i] u:=hr O' st'.here (vis.trans (ay s2))
  rw [List.drop_eq_getElem_cons hlt,aD]at eq
  cases et:tk xs[i] ρ' with
  |none =>
   rw [et]at eq
   rw [<- eq]at q
   exact(show False from q).elim
  | some ρ2 =>
   rw [et,show dH (some ρ2) (λρ''=>exs cal body ρ'')=exs cal body ρ2 from rfl]at eq
   have hlen:σ'.length=n:=by rw [<- st'.len,k'.len,kH,st.len];exact hn
   refine hg _ O₀ O' H2 ρ' ρ2 σ' _ u _ hlen (st'.mono s2) hx et λσ2 st2 k2=>?_
   refine⟨_,O₀,O',ρ2,st2,?_⟩
   have kk:=k'.trans k2
   cases er:exs cal body ρ2 with
   |next ρ3 =>
    rw [er]at eq
    exact λσ3 H3 O3 st3 k3=>⟨_,by omega,rfl,hlt,ρ3,O3,st3,kk.trans k3,eq⟩
   |cont ρ3 =>
    rw [er]at eq
    exact λσ3 H3 O3 st3 k3=>⟨_,by omega,rfl,hlt,ρ3,O3,st3,kk.trans k3,eq⟩
   | brk ρ3 =>
    rw [er]at eq
    rw [<- eq]at q
    exact λσ3 H3 O3 st3 k3=>by
     obtain⟨stb,kb⟩:=qK st1 st3 (kk.trans k3)
     exact q σ3 H3 O3 stb kb
   |ret v =>
    rw [er]at eq
    rw [<- eq]at q
    exact λw H3 s3 r=>q w H3 ((d9 st1.keep).trans s3) r
   |retF ys =>
    rw [er]at eq
    rw [<- eq]at q
    exact λp us H3 s3 hp he r=>q p us H3 ((d9 st1.keep).trans s3) ((d9 st1.keep).free hp) he r
   |bad =>
    rw [er]at eq
    rw [<- eq]at q
    exact(show False from q).elim
 ·left
  have ei:i=xs.length:=by omega
  subst ei
  rw [List.drop_length,aD]at eq
  rw [<- eq]at q
  obtain⟨stb,kb⟩:=qK st1 st' k'
  exact⟨it.stop H' st'.keep,q σ' H' O' stb kb⟩
theorem xo{K:PySem.W.Frag}{n i:Nat}(hi:i<n):zN K n (ic i) (λx ρ=>some (put ρ i (.val x))):=by
 intro B O₀ O H ρ ρ' σ x u Q hn st r e q
 cases e
 obtain⟨st',k'⟩:=st.store (i:=i) (by omega) r
 exact q _ st' k'
theorem zO{i:Nat}{k':Sk}{src:List ME}{body:List MS}{x:Str}{px pos:Pos}{it:Expr}{b:List Stmt}(g:Gf X T k cal)(d:Df X)(hi:X.N[i]?=some x)(hx:Loc X.env.scope x)(hw:PI X (.Name x px) it (tW X.K cal k' src))(hns:fA it=true)(hb:PSs X b (tSs X.K cal body)) :
  PS X (.For (.Name x px) it b [] pos) (tS X.K cal (.for1 i k' src body)):=by
 refine PS.imp' (sL d.own g.calm hw (mO d.nd hi hx (.inl (d.fn x))) hb (by intro v;cases it<;>first|rfl|(simp [fA]at hns))) λD σ H hl q=>?_
 obtain⟨B,O₀,O,ρ,st,q⟩:=q
 rw [ex]at q
 cases e:(evs cal src ρ).bind (bo k') with
 |none=>rw [e]at q;exact(show False from q).elim
 |some xs =>
  rw [e]at q
  simp only [Option.bind_eq_some_iff]at e
  obtain⟨vs,e1,e2⟩:=e
  exact uQ (tk:=λx ρ=>some (put ρ i (.val x))) rfl (xo (ltN hi hl)) st e1 e2 q
end
end MM
namespace MM
open PySem PySem.Spec PyProof.Rows L2
noncomputable def kI:List Nat->TGs
 | []=>AR
 |i::is=>xJ (ic i) (kI is)
section
variable{X:Cx}{T:Tab}{k:Nat}{cal:Cal}
theorem kJ:∀{is:List Nat}{ts:List Expr},dq X.N X.env.scope is ts=true->(assignEach ts X.env).length=is.length/\(assignEach ts X.env).findIdx? (·.1)=none
 | [],[],_=>⟨rfl,rfl⟩
 | [],_::_,h=>by cases h
 | _::_,[],h=>by cases h
 | i::is,e::ts,h=>by
  cases e<;>first|(cases h;done)|skip
  simp only [nc,Bool.and_eq_true]at h
  rename_i x p
  obtain⟨h1,h2⟩:=kJ h.2
  refine⟨?_,?_⟩
  ·show((false,assign (.Name x p) X.env)::assignEach ts X.env).length=_
   simp [h1]
  ·show((false,assign (.Name x p) X.env)::assignEach ts X.env).findIdx? (·.1)=none
   rw [List.findIdx?_cons]
   simp [h2]
theorem mr(d:Df X):∀{is:List Nat}{ts:List Expr},dq X.N X.env.scope is ts=true->PGs X ts (kI is)
 | [],[],_=>v7
 | [],_::_,h=>by cases h
 | _::_,[],h=>by cases h
 |i::is,e::ts,h=>by
  cases e<;>first|(cases h;done)|skip
  simp only [nc,Bool.and_eq_true,beq_iff_eq]at h
  rename_i x p
  exact sI (mO d.nd h.1.1.1 (jm h.1.1.2) (.inl (d.fn x))) (mr d h.2) rfl
theorem oS:∀{is:List Nat}{ts:List Expr},dq X.N X.env.scope is ts=true->∀i∈is,i<X.N.length
 | [],[],_=>λi hi=>by simp at hi
 | [],_::_,h=>by cases h
 | _::_,[],h=>by cases h
 |i::is,e::ts,h=>λj hj=>by
  cases e<;>first|(cases h;done)|skip
  simp only [nc,Bool.and_eq_true,beq_iff_eq]at h
  rcases List.mem_cons.mp hj with rfl|hj
  ·exact(List.getElem?_eq_some_iff.mp h.1.1.1).1
  ·exact oS h.2 j hj
theorem qL{K:PySem.W.Frag}:∀{is:List Nat}{vs:List PV}{us:List V}{B:Hp}{O₀ O:List Addr}{H:Hp}{ρ ρ':Rho}{σ:St}{Q:St->Hp->Prop},(∀i∈is,i<σ.length)->aC K B O₀ O H ρ σ->Reps K (ai H O) vs us->ko is vs ρ=some ρ' ->
  (∀σ',aC K B O₀ O H ρ' σ'->bF B O O ρ ρ' σ σ'->Q σ' H)->kI is us σ H Q
 | [],[],us,_,_,_,_,_,_,_,_,_,st,r,e,q=>by
  rw [Reps]at r
  subst r
  cases e
  exact⟨rfl,q _ st .refl⟩
 | [],_::_,_,_,_,_,_,_,_,_,_,_,_,_,e,_=>by simp [ko]at e
 | _::_,[],_,_,_,_,_,_,_,_,_,_,_,_,e,_=>by simp [ko]at e
 |i::is,v::vs,us,B,O₀,O,H,ρ,ρ',σ,Q,hi,st,r,e,q=>by
  rw [Reps]at r
  obtain⟨u,r',rfl,r1,r2⟩:=r
  rw [ko]at e
  obtain⟨st1,k1⟩:=st.store (i:=i) (hi i (.head _)) r1
  refine⟨u,r',rfl,?_⟩
  show kI is r' (σ.set i (some u)) H Q
  exact qL (λj hj=>by rw [List.length_set];exact hi j (.tail _ hj)) st1 r2 e λσ' st' k'=>q σ' st' (k1.trans k')
theorem zP{K:PySem.W.Frag}{n:Nat}{is:List Nat}(hi:∀i∈is,i<n):zN K n (AS K is.length (kI is)) (fb is):=by
 intro B O₀ O H ρ ρ' σ x u Q hn st r e q
 cases x with
 | tup vs =>
  rw [Rep]at r
  obtain⟨a,us,rfl,sq,rs⟩:=r
  have hl:∀{is:List Nat}{vs:List PV}{ρ ρ':Rho},ko is vs ρ=some ρ'->vs.length=is.length:=by
   intro is
   induction is with
   |nil=>intro vs ρ ρ' h;cases vs<;>simp [ko]at h ⊢
   |cons i is ih=>intro vs ρ ρ' h;cases vs<;>simp [ko]at h ⊢;exact ih h
  exact⟨a,us,rfl,(bw H O).seqT (SqT.of sq),by rw [<- rs.length];exact hl e,qL (λi h=>by rw [hn];exact hi i h) st rs e q⟩
 | _=>cases e
theorem zQ{is:List Nat}{k':Sk}{src:List ME}{body:List MS}{ts:List Expr}{j:Nat}{tp pos:Pos}{it:Expr}{b:List Stmt}(g:Gf X T k cal)(d:Df X)(hi:dq X.N X.env.scope is ts=true)(hw:PI X (.Tuple ts j tp) it (tW X.K cal k' src))(hns:fA it=true)(hb:PSs X b (tSs X.K cal body)) :
  PS X (.For (.Tuple ts j tp) it b [] pos) (tS X.K cal (.forT is k' src body)):=by
 obtain⟨h1,h2⟩:=kJ hi
 refine PS.imp' (sL d.own g.calm hw (ym g.calm (mr d hi) h1 h2) hb (by intro v;cases it<;>first|rfl|(simp [fA]at hns))) λD σ H hl q=>?_
 obtain⟨B,O₀,O,ρ,st,q⟩:=q
 rw [ex]at q
 cases e:(evs cal src ρ).bind (bo k') with
 |none=>rw [e]at q;exact(show False from q).elim
 |some xs =>
  rw [e]at q
  simp only [Option.bind_eq_some_iff]at e
  obtain⟨vs,e1,e2⟩:=e
  exact uQ (tk:=fb is) hl (zP (oS hi)) st e1 e2 q
theorem qM {i:Nat}{me:ME}{x:Str}{v:Expr}{px pos:Pos} (g:Gf X T k cal) (d:Df X) (hi:X.N[i]?=some x) (hx:Loc X.env.scope x) (hc:chk T me X.N X.env.scope v=true) (hs:l8 X.env.scope x px v me=true):∃ t,PS X (.Assign [.Name x px] v pos) (q_ t (ic i))/\(∀ σ H Q,tF X.K cal me σ H Q->t σ H Q)/\bE me=true:=by
 unfold l8 at hs
 cases v with
 | ListComp e gens scope cpos =>
  cases me with
  | comp k' src js cond elt =>
   match gens,hc,hs with
   | [],hc,_=>cases (show false=true from hc)
   | ⟨tg,it,ifs,as⟩::[],h,hs =>
    cases tg with
    | Name y py =>
     by_cases has:as=0
     ·subst has
      have h:(eI X.env.scope X.N scope y (b9 X.N js) js&&dN X.env.scope false (λxs=>chks T src X.N X.env.scope xs) k' it&&ku (λc=>chk T cond (y::b9 X.N js) (gH scope X.env.scope) c) cond ifs&&chk T elt (y::b9 X.N js) (gH scope X.env.scope) e&&!aH elt)=true:=h
      simp only [Bool.and_eq_true,Bool.not_eq_true']at h
      obtain⟨⟨⟨⟨h1,h2⟩,h3⟩,h4⟩,h5⟩:=h
      have hw:=kE (tg:=.Name y py) (λz=>by cases z) g h2 (λxs hxs=>⟨sounds src g hxs,bN hxs⟩) (λm x hm hx=>match src,hm with|[m'],rfl=>(aj m' g (by simp only [chks,Bool.and_eq_true]at hx;exact hx.1.1)).1)
      exact⟨_,pC d.nd hi hx (mj h1) g.calm hw.1 (λs₁ H₁ C fp=>pK h3 λc hc=>(aj cond (g.blk y (b9 X.N js) scope s₁ H₁ C fp) hc).2) (λs₁ H₁ C fp=>(aj elt (g.blk y (b9 X.N js) scope s₁ H₁ C fp) h4).1) (rX d hs) (by have:=hw.2;intro v;cases it<;>first|rfl|(simp [fA]at this)) (.inl (d.fn x)),
       λσ H Q q=>pH.comp_go h5 q,rfl⟩
     ·exact absurd h (by
       have:chk T (.comp k' src js cond elt) X.N X.env.scope (.ListComp e [⟨.Name y py,it,ifs,as⟩] scope cpos)=false:=by
        rw [aM]
        split<;>first|rfl|(rename_i z;simp_all)
       rw [this];exact Bool.false_ne_true)
    | _=>cases (show false=true from h)
   | _::_::_,h,_=>simp [aM]at h
  | _=>cases (show false=true from hc)
 | _=>simp [qu]at hs
theorem BN{me:ME}(hf:bE me=true){σ:St}{H:Hp}{Q:VK}{K:PySem.W.Frag}(q:tE K cal me σ H Q):tF K cal me σ H Q:=by
 obtain⟨B,O₀,O,ρ,v,st,e1,q⟩:=q
 have hv:∃xs,v=.lst xs:=by
  cases me with
  |lst es =>
   rw [ev,Option.bind_eq_some_iff]at e1
   obtain⟨vs,_,hv⟩:=e1
   split at hv
   ·cases hv;exact⟨_,rfl⟩
   ·cases hv
  |comp _ _ _ _ _=>exact oP ρ v e1
  |blt b es=>cases b<;>first|exact dO (.inl rfl) ρ v e1|exact dO (.inr (.inl rfl)) ρ v e1|exact dO (.inr (.inr (.inl rfl))) ρ v e1|exact dO (.inr (.inr (.inr (.inl rfl)))) ρ v e1|exact dO (.inr (.inr (.inr (.inr rfl)))) ρ v e1|(simp [bE]at hf)
  | _=>simp [bE]at hf
 obtain⟨xs,rfl⟩:=hv
 exact⟨B,O₀,O,ρ,xs,st,e1,λp us H' s hp he r=>q _ _ s (qE st.here hp he r)⟩
end
section
variable{T:Tab}{N:List Str}{sc:Scope}
theorem xp{i:Nat}{e:ME}{s:Stmt}(h:gi T N sc (.set i e) s=true):∃x px v pos,s=.Assign [.Name x px] v pos/\(N[i]? == some x&&iw sc x&&az x&&chk T e N sc v&&!aH e&&(bV v || l8 sc x px v e))=true:=by
 obtain⟨q,e1,h1⟩:=bg h
 obtain⟨pos,rfl⟩:=jF e1
 exact⟨_,_,_,_,rfl,h1⟩
theorem xq{i:Nat}{e:ME}{s:Stmt}(h:gi T N sc (.setOwn i e) s=true):∃x px v pos,s=.Assign [.Name x px] v pos/\(N[i]? == some x&&iw sc x&&az x&&chk T e N sc v&&bE e&&(bV v || l8 sc x px v e))=true:=by
 obtain⟨q,e1,h1⟩:=bg h
 obtain⟨pos,rfl⟩:=jF e1
 exact⟨_,_,_,_,rfl,h1⟩
theorem pN {i:Nat}{e:ME}{s:Stmt} (h:gi T N sc (.append i e) s=true):∃x p m ap v cp pos,s=.Expr (.Call (.Attribute (.Name x p) m ap) [v] [] cp) pos/\(ax N sc i x&&m == ("append":Str)&&chk T e N sc v&&!aH e&&ag v&&ap.endLine == cp.line)=true:=by
 obtain⟨q,e1,h1⟩:=bg h
 obtain⟨v,e2,h2⟩:=bg h1
 obtain⟨p,pos,rfl⟩:=jG e1
 rw [fg e2]
 exact⟨_,_,_,_,_,_,_,rfl,h2⟩
theorem r9 {i:Nat}{e:ME}{s:Stmt} (h:gi T N sc (.popAt i e) s=true):∃x p m ap v cp pos,s=.Expr (.Call (.Attribute (.Name x p) m ap) [v] [] cp) pos/\(ax N sc i x&&m == ("pop":Str)&&chk T e N sc v&&ag v&&ap.endLine == cp.line)=true:=by
 obtain⟨q,e1,h1⟩:=bg h
 obtain⟨v,e2,h2⟩:=bg h1
 obtain⟨p,pos,rfl⟩:=jG e1
 rw [fg e2]
 exact⟨_,_,_,_,_,_,_,rfl,h2⟩
theorem pO {i:Nat}{e:ME}{s:Stmt} (h:gi T N sc (.extend i e) s=true):∃x p m ap v cp pos,s=.Expr (.Call (.Attribute (.Name x p) m ap) [v] [] cp) pos/\(ax N sc i x&&m == ("extend":Str)&&chk T e N sc v&&ag v&&ap.endLine == cp.line)=true:=by
 obtain⟨q,e1,h1⟩:=bg h
 obtain⟨v,e2,h2⟩:=bg h1
 obtain⟨p,pos,rfl⟩:=jG e1
 rw [fg e2]
 exact⟨_,_,_,_,_,_,_,rfl,h2⟩
theorem uR{i:Nat}{k e:ME}{s:Stmt}(h:gi T N sc (.dput i k e) s=true):∃x p s' sp v pos,s=.Assign [.Subscript (.Name x p) s' sp] v pos/\(ax N sc i x&&chk T k N sc s'&&aG s'&&chk T e N sc v&&!aH e&&bV v)=true:=by
 obtain⟨q,e1,h1⟩:=bg h
 obtain⟨p,sp,pos,rfl⟩:=qv e1
 exact⟨_,_,_,_,_,_,rfl,h1⟩
theorem uS{m:Bool}{i:Nat}{s:Stmt}(h:gi T N sc (.newD m i) s=true):∃x p dp pos,s=.Assign [.Name x p] (.Dict [] [] dp) pos/\(N[i]? == some x&&iw sc x&&az x)=true:=by
 obtain⟨q,e1,h1⟩:=bg h
 rw [Bool.and_eq_true]at h1
 obtain⟨pos,rfl⟩:=jF e1
 obtain⟨p,e2⟩:=ud h1.1
 rw [e2]
 exact⟨_,_,_,_,rfl,h1.2⟩
theorem xr{c:ME}{a b:List MS}{s:Stmt}(h:gi T N sc (.ite c a b) s=true):∃t x y pos,s=.If t x y pos/\(chk T c N sc t&&chkSs T N sc a x&&chkSs T N sc b y)=true:=by
 cases s with
 |If t x y pos=>exact⟨t,x,y,pos,rfl,h⟩
 | _=>cases (show false=true from h)
theorem uT{i:Nat}{k:Sk}{src:List ME}{body:List MS}{s:Stmt}(h:gi T N sc (.for1 i k src body) s=true):∃x px it b pos,s=.For (.Name x px) it b [] pos/\(N[i]? == some x&&iw sc x&&az x&&dN sc false (λxs=>chks T src N sc xs) k it&&chkSs T N sc body b)=true:=by
 simp only [wU]at h
 split at h<;>first|(cases h;done)|(rename_i heq;cases heq;exact⟨_,_,_,_,_,rfl,h⟩)|(injections;done)|(injections;subst_vars;exact⟨_,_,_,_,_,rfl,h⟩)
theorem uU{is:List Nat}{k:Sk}{src:List ME}{body:List MS}{s:Stmt}(h:gi T N sc (.forT is k src body) s=true):∃ts j tp it b pos,s=.For (.Tuple ts j tp) it b [] pos/\(dq N sc is ts&&dN sc true (λxs=>chks T src N sc xs) k it&&chkSs T N sc body b)=true:=by
 simp only [wV]at h
 split at h<;>first|(cases h;done)|(rename_i heq;cases heq;exact⟨_,_,_,_,_,_,rfl,h⟩)|(injections;done)|(injections;subst_vars;exact⟨_,_,_,_,_,_,rfl,h⟩)
theorem xt{e:ME}{s:Stmt}(h:gi T N sc (.ret e) s=true):∃v pos,s=.Return (some v) pos/\(chk T e N sc v&&!aH e)=true:=by
 obtain⟨v,e1,h1⟩:=bg h
 obtain⟨pos,rfl⟩:=ng e1
 exact⟨_,_,rfl,h1⟩
theorem pP{i:Nat}{s:Stmt}(h:gi T N sc (.retOwn i) s=true):∃x p pos,s=.Return (some (.Name x p)) pos/\(ax N sc i x)=true:=by
 obtain⟨v,e1,h1⟩:=bg h
 obtain⟨x,e2,h2⟩:=bg h1
 obtain⟨pos,rfl⟩:=ng e1
 obtain⟨p,rfl⟩:=om e2
 exact⟨_,_,_,rfl,h2⟩
end
noncomputable def zR:MS->Bool
 | .freeze _=>true
 | .freezeL _=>true
 | _=>false
mutual
theorem zS{T:Tab}{k:Nat}{cal:Cal}{X:Cx}(g:Gf X T k cal)(d:Df X):∀(m:MS) (s:Stmt),gi T X.N X.env.scope m s=true->PS X s (tS X.K cal m)
 | .set i e,s,h=>by
  obtain⟨x,px,v,pos,rfl,hc⟩:=xp h
  simp only [Bool.and_eq_true,Bool.or_eq_true,beq_iff_eq,Bool.not_eq_true']at hc
  obtain⟨⟨⟨⟨⟨h1,h2⟩,h3⟩,h4⟩,h5⟩,h6⟩:=hc
  rcases h6 with h6|h6
  ·exact BI d h1 (jm h2) (aj e g h4).1 h5 h6
  ·obtain⟨t,p,hp,hf⟩:=qM (pos:=pos) g d h1 (jm h2) h4 h6
   exact PS.imp' p λD σ H hl q=>hp _ _ _ (BN hf (uK (ltN h1 hl) h5 q))
 | .setOwn i e,s,h=>by
  obtain⟨x,px,v,pos,rfl,hc⟩:=xq h
  simp only [Bool.and_eq_true,Bool.or_eq_true,beq_iff_eq]at hc
  obtain⟨⟨⟨⟨⟨h1,h2⟩,h3⟩,h4⟩,h5⟩,h6⟩:=hc
  rcases h6 with h6|h6
  ·exact BJ d h1 (jm h2) (uJ g h4 h5) h6
  ·obtain⟨t,p,hp,hf⟩:=qM (pos:=pos) g d h1 (jm h2) h4 h6
   exact PS.imp' p λD σ H hl q=>hp _ _ _ (uL (ltN h1 hl) q)
 | .append i e,s,h=>by
  obtain⟨x,p,m,ap,v,cp,pos,rfl,hc⟩:=pN h
  simp only [Bool.and_eq_true,beq_iff_eq,Bool.not_eq_true']at hc
  obtain⟨⟨⟨⟨⟨h1,rfl⟩,h3⟩,h4⟩,h5⟩,h6⟩:=hc
  exact uM (aj e g h3).1 h1 h4 h5 (beq_iff_eq.mpr h6)
 | .setL i n,s,h=>by
  obtain⟨q,e1,h1⟩:=bg h
  obtain⟨es,e2,h2⟩:=bg h1
  obtain⟨pos,rfl⟩:=jF e1
  obtain⟨x,px,v⟩:=q
  dsimp only at e2 h2 ⊢
  obtain⟨lp,rfl⟩:=uf e2
  simp only [Bool.and_eq_true,beq_iff_eq]at h2
  obtain⟨⟨⟨⟨c1,c2⟩,c3⟩,c4⟩,rfl⟩:=h2
  exact zI d c1 (jm c2) c4
 | .appI i k' e,s,h=>by
  obtain⟨q,e1,h1⟩:=bg h
  obtain⟨v,e2,h2⟩:=bg h1
  obtain⟨p,sp,pos,rfl⟩:=qx e1
  obtain⟨x,sl,m,ap,args,cp⟩:=q
  dsimp only at e2 h2 ⊢
  have:=fg e2
  subst this
  simp only [Bool.and_eq_true,Bool.not_eq_true',beq_iff_eq]at h2
  obtain⟨⟨⟨⟨⟨⟨⟨c1,rfl⟩,h3⟩,h4⟩,h5⟩,h6⟩,h7⟩,h8⟩:=h2
  exact zH (aj k' g h3).1 h4 (aj e g h5).1 c1 h6 h7 (beq_iff_eq.mpr h8)
 | .freezeL _,s,h=>absurd (show false=true from h) Bool.false_ne_true
 | .appF i f es,s,h=>by
  obtain⟨q,e1,h1⟩:=bg h
  obtain⟨v,e2,h2⟩:=bg h1
  obtain⟨c,e3,h3⟩:=bg h2
  obtain⟨p,pos,rfl⟩:=jG e1
  obtain⟨x,m,ap,args,cp⟩:=q
  dsimp only at e2 h3 ⊢
  have:=fg e2
  subst this
  obtain⟨p2,cp2,rfl⟩:=wR e3
  simp only [Bool.and_eq_true,beq_iff_eq]at h3
  obtain⟨⟨⟨⟨⟨⟨c1,rfl⟩,c2⟩,c3⟩,c4⟩,c5⟩,c6⟩:=h3
  exact zJ (xg g c2 c3 c4 (soundA es g c5) (bN c5).1 (bN c5).2) c1 rfl (beq_iff_eq.mpr c6)
 | .popI i k' e,s,h=>by
  obtain⟨q,e1,h1⟩:=bg h
  obtain⟨v,e2,h2⟩:=bg h1
  obtain⟨p,sp,pos,rfl⟩:=qx e1
  obtain⟨x,sl,m,ap,args,cp⟩:=q
  dsimp only at e2 h2 ⊢
  have:=fg e2
  subst this
  simp only [Bool.and_eq_true,beq_iff_eq]at h2
  obtain⟨⟨⟨⟨⟨⟨c1,rfl⟩,h3⟩,h4⟩,h5⟩,h6⟩,h8⟩:=h2
  exact zK (aj k' g h3).1 h4 (aj e g h5).1 c1 h6 (beq_iff_eq.mpr h8)
 | .setI i k' e,s,h=>by
  obtain⟨q,e1,h1⟩:=bg h
  obtain⟨p,sp,pos,rfl⟩:=qv e1
  obtain⟨x,sl,v⟩:=q
  dsimp only at h1 ⊢
  simp only [Bool.and_eq_true]at h1
  obtain⟨⟨⟨⟨⟨c1,c2⟩,c3⟩,c4⟩,c5⟩,c6⟩:=h1
  exact zL (aj k' g c2).1 (uJ g c4 c5) c1 c6 c3
 | .retO i,s,h=>by
  obtain⟨v,e1,h1⟩:=bg h
  obtain⟨x,e2,h2⟩:=bg h1
  obtain⟨pos,rfl⟩:=ng e1
  obtain⟨p,rfl⟩:=om e2
  exact zM h2
 | .extend i e,s,h=>by
  obtain⟨x,p,m,ap,v,cp,pos,rfl,hc⟩:=pO h
  simp only [Bool.and_eq_true,beq_iff_eq]at hc
  obtain⟨⟨⟨⟨h1,rfl⟩,h3⟩,h5⟩,h6⟩:=hc
  exact uN (aj e g h3).1 h1 h5 (beq_iff_eq.mpr h6)
 | .setIdx _ _ _,s,h=>absurd (show false=true from h) Bool.false_ne_true
 | .unpack _ _,s,h=>absurd (show false=true from h) Bool.false_ne_true
 | .expr _,s,h=>absurd (show false=true from h) Bool.false_ne_true
 | .ite c a b,s,h=>by
  obtain⟨t,x,y,pos,rfl,hc⟩:=xr h
  simp only [Bool.and_eq_true]at hc
  exact CT (aj c g hc.1.1).2 (soundSs g d a x hc.1.2) (soundSs g d b y hc.2)
 | .for1 i k' src body,s,h=>by
  obtain⟨x,px,it,b,pos,rfl,hc⟩:=uT h
  simp only [Bool.and_eq_true,beq_iff_eq]at hc
  obtain⟨⟨⟨⟨h1,h2⟩,h3⟩,h4⟩,h5⟩:=hc
  have hw:=kE (tg:=.Name x px) (λz=>by cases z) g h4 (λxs hxs=>⟨sounds src g hxs,bN hxs⟩) (λm x hm hx=>match src,hm with|[m'],rfl=>(aj m' g (by simp only [chks,Bool.and_eq_true]at hx;exact hx.1.1)).1)
  exact zO g d h1 (jm h2) hw.1 hw.2 (soundSs g d body b h5)
 | .forT is k' src body,s,h=>by
  obtain⟨ts,j,tp,it,b,pos,rfl,hc⟩:=uU h
  simp only [Bool.and_eq_true]at hc
  obtain⟨⟨h1,h4⟩,h5⟩:=hc
  have hw:=kE (tg:=.Tuple ts j tp) (λ_=>⟨_,_,_,rfl⟩) g h4 (λxs hxs=>⟨sounds src g hxs,bN hxs⟩) (λm x hm hx=>match src,hm with|[m'],rfl=>(aj m' g (by simp only [chks,Bool.and_eq_true]at hx;exact hx.1.1)).1)
  exact zQ g d h1 hw.1 hw.2 (soundSs g d body b h5)
 | .while _ _ _,s,h=>absurd (show false=true from h) Bool.false_ne_true
 | .ret e,s,h=>by
  obtain⟨v,pos,rfl,hc⟩:=xt h
  simp only [Bool.and_eq_true,Bool.not_eq_true']at hc
  exact BK (aj e g hc.1).1 hc.2
 | .retF _,s,h=>absurd (show false=true from h) Bool.false_ne_true
 | .setCall _ _ _,s,h=>absurd (show false=true from h) Bool.false_ne_true
 | .clear _,s,h=>absurd (show false=true from h) Bool.false_ne_true
 | .retOwn i,s,h=>by
  obtain⟨x,p,pos,rfl,hc⟩:=pP h
  exact uO hc
 | .retN,s,h=>absurd (show false=true from h) Bool.false_ne_true
 | .brk,s,h=>absurd (show false=true from h) Bool.false_ne_true
 | .cont,s,h=>absurd (show false=true from h) Bool.false_ne_true
 | .pass,s,h=>absurd (show false=true from h) Bool.false_ne_true
 | .never,s,h=>by
  refine sH.imp λD σ H q=>?_
  obtain⟨B,O₀,O,ρ,st,q⟩:=q
  rw [ex]at q
  exact q
 | .newD m i,s,h=>by
  obtain⟨x,p,dp,pos,rfl,hc⟩:=uS h
  simp only [Bool.and_eq_true,beq_iff_eq]at hc
  exact zD d hc.1.1 (jm hc.1.2)
 | .dput i mk me,s,h=>by
  obtain⟨x,p,s',sp,v,pos,rfl,hc⟩:=uR h
  simp only [Bool.and_eq_true]at hc
  exact zE g (aj mk g hc.1.1.1.1.2).1 (aj me g hc.1.1.2).1 hc.1.1.1.1.1 hc.2
 | .freeze _,s,h=>absurd (show false=true from h) Bool.false_ne_true
 | .popAt i k,s,h=>by
  obtain⟨x,p,m,ap,a,cp,pos,rfl,hc⟩:=r9 h
  simp only [Bool.and_eq_true,beq_iff_eq]at hc
  obtain⟨⟨⟨⟨h1,rfl⟩,h2⟩,h5⟩,h7⟩:=hc
  exact xm (aj k g h2).1 h1 h5 (beq_iff_eq.mpr h7)
theorem soundSs{T:Tab}{k:Nat}{cal:Cal}{X:Cx}(g:Gf X T k cal)(d:Df X):∀(ms:List MS) (ss:List Stmt),chkSs T X.N X.env.scope ms ss=true->PSs X ss (tSs X.K cal ms)
 | [],ss,h=>by
  cases ss with
  |nil=>exact BL
  |cons _ _=>cases h
 | m::ms,ss,h=>by
  cases hm:zR m with
  |true =>
   cases m<;>simp [zR]at hm
   ·cases h
   ·exact r6 (soundSs g d ms ss h)
  | false =>
   cases ss with
   |nil=>cases m<;>first|(cases h;done)|cases hm
   |cons s ss =>
    have h:(gi T X.N X.env.scope m s&&chkSs T X.N X.env.scope ms ss)=true:=by cases m<;>first|exact h|(simp [zR]at hm)
    simp only [Bool.and_eq_true]at h
    exact zF (zS g d m s h.1) (soundSs g d ms ss h.2)
end
end MM
namespace MM
open PySem PySem.Spec PyProof.Rows L2
structure FnD(K:PySem.W.Frag)(x:Str)(st:Stmt)(fa:Addr)(fd:FuncData):Prop where
 it:∃(c0 d0 k0 o0 m0:Value) (a0:Option Addr) (c1 t1:Value) (a1:Option Addr) (sl:Array (Option Value)),
  K.lookup fa=some ⟨c0,a1,.func fd,sl⟩/\PySem.W.codeIn K c1 x=true/\fd=PySem.W.fnOf x x (ie st) (dL st) (aY st) d0 k0 o0 m0 a0 c1 t1
 kp:PySem.W.keepIn K (.ref fa)=true
theorem FnD.mk'{K:PySem.W.Frag}{x:Str}{st:Stmt}{fa:Addr}{c0 d0 k0 o0 m0 c1 t1:Value}{a0 a1:Option Addr}{sl:Array (Option Value)}
  (l:K.lookup fa=some ⟨c0,a1,.func (PySem.W.fnOf x x (ie st) (dL st) (aY st) d0 k0 o0 m0 a0 c1 t1),sl⟩) (c:PySem.W.codeIn K c1 x=true) (k:PySem.W.keepIn K (.ref fa)=true) :
  FnD K x st fa (PySem.W.fnOf x x (ie st) (dL st) (aY st) d0 k0 o0 m0 a0 c1 t1):=⟨⟨_,_,_,_,_,_,_,_,_,_,l,c,rfl⟩,k⟩
theorem FnD.mkd{K:PySem.W.Frag}{x:Str}{st:Stmt}{fa T:Addr}{c0 k0 o0 m0 c1 t1:Value}{a0 a1:Option Addr}{sl:Array (Option Value)}
  (l:K.lookup fa=some ⟨c0,a1,.func (PySem.W.fnOf x x (ie st) (dL st) (aY st) (.ref T) k0 o0 m0 a0 c1 t1),sl⟩) (c:PySem.W.codeIn K c1 x=true) (k:PySem.W.keepIn K (.ref fa)=true) :
  FnD K x st fa (PySem.W.fnOf x x (ie st) (dL st) (aY st) (.ref T) k0 o0 m0 a0 c1 t1):=.mk' l c k
structure oT(T:Tab)(K:PySem.W.Frag)(mg:Str->Option Value)(st:Stmt)(d:MD)(fa:Addr)(fd:FuncData):Prop where
 fn:FnD K d.name st fa fd
 binds:dy K fd d.params []
 named:mg d.name=some (.ref fa)
 scope:mQ d.names d.params (aY st)
 body:chkSs T d.names (aY st) d.body (dL st)=true
theorem bn1{K:PySem.W.Frag}{fd:FuncData}{pa:Str}(h:∀a,bindArgs fd ⟨[a],[]⟩=pure [(pa,a)]):dy K fd [pa] []:=.all λus hl=>match us,hl with|[a],_=>h a
theorem bn2{K:PySem.W.Frag}{fd:FuncData}{pa pb:Str}(h:∀a b,bindArgs fd ⟨[a,b],[]⟩=pure [(pa,a),(pb,b)]):dy K fd [pa,pb] []:=.all λus hl=>match us,hl with|[a,b],_=>h a b
theorem bn3{K:PySem.W.Frag}{fd:FuncData}{pa pb pc:Str}(h:∀a b c,bindArgs fd ⟨[a,b,c],[]⟩=pure [(pa,a),(pb,b),(pc,c)]):dy K fd [pa,pb,pc] []:=.all λus hl=>match us,hl with|[a,b,c],_=>h a b c
theorem bn4{K:PySem.W.Frag}{fd:FuncData}{pa pb pc pd:Str}(h:∀a b c d,bindArgs fd ⟨[a,b,c,d],[]⟩=pure [(pa,a),(pb,b),(pc,c),(pd,d)]):dy K fd [pa,pb,pc,pd] []:=.all λus hl=>match us,hl with|[a,b,c,d],_=>h a b c d
theorem kK{K:PySem.W.Frag}{fd:FuncData}{ps:List Str}{T:Addr}{c:Value}{o:Option Addr}{vs:Array Value}{n:Nat}{sl:Array (Option Value)}(hd:fd.defaults=.ref T)(l:K.lookup T=some ⟨c,o,.seq vs n,sl⟩)
  (h:∀us:List Value,us.length=ps.length->∃k,bindArgs fd ⟨us,[]⟩=seqItems? fd.defaults >>= k/\k (some vs)=pure (ps.zip us)):dy K fd ps []:=λs us X hl=>by
 rw [List.append_nil]at hl ⊢
 obtain⟨k,h1,h2⟩:=h us hl
 exact .of_defaults hd (X _ _ l) rfl h1 h2
noncomputable def HD(K:PySem.W.Frag)(x:Str)(st:Stmt)(d:MD)(q:FuncData->Prop:=λ_=>True):Prop:=d.name=x/\∃fa fd,PySem.W.nsIn K mainGlobals x=some (some (.ref fa))/\FnD K x st fa fd/\dy K fd d.params []/\q fd
noncomputable def okD(T:Tab)(st:Stmt)(d:MD):Bool :=
 decide ((aY st).kind=.function/\(aY st).isCoroutine=false/\(aY st).isGenerator=false/\d.names.Nodup/\d.names.take d.params.length=d.params/\(∀x∈d.params,(aY st).names.lookup x=some .local\/(aY st).names.lookup x=some .cell)/\∀y∈(aY st).names,y.2≠.free)&&chkSs T d.names (aY st) d.body (dL st)
theorem al{T:Tab}{K:PySem.W.Frag}{mg:Str->Option Value}{h:Heap}{st:Stmt}{d:MD}(X:K.In h)(G:h.Ns mainGlobals mg){q:FuncData->Prop}{x:Str}(hd:HD K x st d q)(ck:okD T st d=true):∃fa fd,oT T K mg st d fa fd/\q fd:=by
 obtain⟨e,_,_,n,f,b,z⟩:=hd
 obtain⟨c1,c2⟩:=Bool.and_eq_true_iff.mp ck
 obtain⟨s1,s2,s3,s4,s5,s6,s7⟩:=of_decide_eq_true c1
 subst e
 exact⟨_,_,⟨f,b,PySem.W.mg_of X G n,⟨s1,s2,s3,s4,s5,s6,s7⟩,c2⟩,z⟩
noncomputable def uV(T:Tab)(K:PySem.W.Frag)(mg:Str->Option Value):List MD->List (List Sc)->Prop
 | [],[]=>True
 |d::ds,l::ls=>(∃st fa fd,oT T K mg st d fa fd/\∃vs,dy K fd d.params vs/\aw (l.map Sc.v) vs)/\uV T K mg ds ls
 | _,_=>False
theorem uV.get{T:Tab}{K:PySem.W.Frag}{mg:Str->Option Value}:∀{ds:List MD}{ls:List (List Sc)}{f:Nat}{d:MD},uV T K mg ds ls->ds[f]?=some d->∃l st fa fd,ls[f]?=some l/\oT T K mg st d fa fd/\∃vs,dy K fd d.params vs/\aw (l.map Sc.v) vs
 | [],_,f,d,_,e=>by simp at e
 | _::_,[],f,d,h,e=>h.elim
 |d0::ds,l::ls,0,d,h,e=>by
  cases e
  obtain⟨⟨st,fa,fd,r⟩,_⟩:=h
  exact⟨l,st,fa,fd,rfl,r⟩
 |d0::ds,l::ls,f+1,d,h,e=>by
  obtain⟨k,st,fa,fd,q,r⟩:=uV.get h.2 (show ds[f]?=some d from by simpa using e)
  exact⟨k,st,fa,fd,by simpa using q,r⟩
structure zT(T:Tab)(K:PySem.W.Frag)(mg:Str->Option Value)(ds:List MD):Prop where
 tab:T.fs=ds.map (·.name)
 defs:uV T K mg ds T.ds
 blt:∀x∈iB,mg (x:Str)=none
 gs:∀p∈T.gs,∃u,mg p.1=some u/\aq (toV p.2) u
theorem kL{ds:List MD}{n f:Nat}{d:MD}{args:List MV}{r:PV}(hd:ds[f]?=some d)(h:ab ds (n+1) f args=some r):args.length=d.params.length /\
  ((∃ρ,exs (ab ds n) d.body (args.map some++List.replicate (d.names.length-args.length) none)=.next ρ/\r=.non)\/exs (ab ds n) d.body (args.map some++List.replicate (d.names.length-args.length) none)=.ret r \/
   ∃xs,exs (ab ds n) d.body (args.map some++List.replicate (d.names.length-args.length) none)=.retF xs/\r=.lst xs):=by
 rw [ab,hd]at h
 dsimp only at h
 by_cases hl:args.length=d.params.length
 ·rw [if_pos hl]at h
  refine⟨hl,?_⟩
  cases he:exs (ab ds n) d.body (args.map some++List.replicate (d.names.length-args.length) none) with
  |next ρ=>rw [he]at h;cases h;exact .inl ⟨ρ,rfl,rfl⟩
  |ret v=>rw [he]at h;cases h;exact .inr (.inl rfl)
  |retF xs=>rw [he]at h;cases h;exact .inr (.inr ⟨xs,rfl,rfl⟩)
  |brk ρ=>rw [he]at h;cases h
  |cont ρ=>rw [he]at h;cases h
  |bad=>rw [he]at h;cases h
 ·rw [if_neg hl]at h
  cases h
theorem jp{ds:List MD}{n f:Nat}{d:MD}{args:List MV}{r:PV}(hf:f<1000)(hn:ds[f+1000]?=none)(hd:ds[f]?=some d)(h:ab ds (n+1) (f+1000) args=some r):args.length=d.params.length /\
  ∃xs,exs (ab ds n) d.body (args.map some++List.replicate (d.names.length-args.length) none)=.retF xs/\r=.lst xs:=by
 rw [ab,hn]at h
 dsimp only at h
 rw [if_neg (by omega),Nat.add_sub_cancel,hd]at h
 dsimp only at h
 by_cases hl:args.length=d.params.length
 ·rw [if_pos hl]at h
  refine⟨hl,?_⟩
  cases he:exs (ab ds n) d.body (args.map some++List.replicate (d.names.length-args.length) none) with
  |retF xs=>rw [he]at h;cases h;exact⟨xs,rfl,rfl⟩
  |next ρ=>rw [he]at h;cases h
  |ret v=>rw [he]at h;cases h
  |brk ρ=>rw [he]at h;cases h
  |cont ρ=>rw [he]at h;cases h
  |bad=>rw [he]at h;cases h
 ·rw [if_neg hl]at h
  cases h
theorem kM{α β:Type}{F:α->β->Prop}:∀{xs:List α}{ys:List β}{i:Nat}{x:α},Paired F xs ys->xs[i]?=some x->∃y,ys[i]?=some y/\F x y
 | _,_,_,_,.nil,e=>by simp at e
 | _,_,0,_,.cons r _,e=>by simp at e;subst e;exact⟨_,rfl,r⟩
 | _,_,i+1,x,.cons _ t,e=>by
  obtain⟨u,h1,h2⟩:=kM (i:=i) (x:=x) t (by simpa using e)
  exact⟨u,by simpa using h1,h2⟩
theorem oU{K:PySem.W.Frag}{H:Hp}{O:List Addr}{args:List MV}{vs:List V}{N:List Str}(hO:∀a∈O,H a≠none)(h:Paired (jl K O H) args vs):aC K H O O H (args.map some++List.replicate (N.length-args.length) none) (fW N vs):=by
 have hl:args.length=vs.length:=Paired.length h
 have get:∀(i:Nat) (m:MV),(args.map some++List.replicate (N.length-args.length) none)[i]?=some (some m)->∃u,(fW N vs)[i]?=some (some u)/\jl K O H m u:=λi m e=>by
  by_cases hi:i<args.length
  ·rw [List.getElem?_append_left (by simpa using hi),List.getElem?_map]at e
   cases ea:args[i]? with
   |none=>rw [ea]at e;cases e
   |some m' =>
    rw [ea]at e
    cases e
    obtain⟨u,eu,q⟩:=kM h ea
    refine⟨u,?_,q⟩
    unfold L2.fW
    rw [List.getElem?_append_left (by rw [List.length_map,<- hl];exact hi),List.getElem?_map,eu]
    rfl
  ·rw [List.getElem?_append_right (by simpa using hi),List.getElem?_replicate]at e
   split at e<;>cases e
 refine⟨ae.refl H,hO,λa ha=>ha,hO,by unfold L2.fW;simp [hl],λi m e=>?_,λi j xs ys a _ e _ ox _=>?_
  ,?_
  ⟩
 ·obtain⟨u,eu,q⟩:=get i m e
  refine⟨u,eu,?_⟩
  cases m with
  |val v=>exact q
  |own _=>exact q.elim
  |brw ys=>exact q
  |ownD _=>exact q.elim
  |ownL _=>exact q.elim
  |brwD _=>exact q
 ·obtain⟨u,eu,q⟩:=get i _ e
  cases xs with
  |own _=>exact q.elim
  |ownD _=>exact q.elim
  |ownL _=>exact q.elim
  |val _=>cases ox
  |brw _=>cases ox
  |brwD _=>cases ox
 ·exact ol λi xss e=>by
   obtain⟨u,eu,q⟩:=get i _ e
   exact q.elim
section
variable{T:Tab}{P:Program}{w:World}{K:PySem.W.Frag}{mg:Str->Option Value}{base:Heap}{ds:List MD}
structure BO(P:Program)(w:World)(K:PySem.W.Frag)(mg:Str->Option Value)(base:Heap)(ds:List MD)(n g:Nat)(fa:Addr)(fd:FuncData)(ps:List Str):Prop where
 m:iT P w K mg base CX0 n fa fd ps (spM K (ab ds n) g)
 f:iT P w K mg base CX0 n fa fd ps (spF K (ab ds n) g)
theorem nu(hlen:ds.length<=1000)(pr:zT T K mg ds):∀(n f:Nat) (d:MD),ds[f]?=some d->∀st fa fd,oT T K mg st d fa fd->BO P w K mg base ds n f fa fd d.params
 | 0,f,d,hd,st,fa,fd,D=>{
   m:=⟨λvs H Q E h=>(by obtain⟨O,args,r,_,_,e,_⟩:=h;exact absurd e (by simp [ab])),λA outer s H args us vs Q E _ _ _ _ h=>(by obtain⟨O,args,r,_,_,e,_⟩:=h;exact absurd e (by simp [ab]))⟩
   f:=⟨λvs H Q E h=>(by obtain⟨O,args,r,_,_,e,_⟩:=h;exact absurd e (by simp [ab])),λA outer s H args us vs Q E _ _ _ _ h=>(by obtain⟨O,args,r,_,_,e,_⟩:=h;exact absurd e (by simp [ab]))⟩
   }
 | n + 1,f,d,hd,st,fa,fd,D=>by
  obtain⟨c0,d0,k0,o0,m0,a0,cdv,t1,a1,sl,lk,hc,rfl⟩:=D.fn.it
  have hf:f<1000:=Nat.lt_of_lt_of_le (List.getElem?_eq_some_iff.mp hd).1 hlen
  have hn:ds[f+1000]?=none:=List.getElem?_eq_none (by omega)
  have gg:∀{A:Around}{outer:_}{s:Shared}{H:Hp}{E:_},_->Gf (nQ CX0 P w K mg base d.names d.name (aY st) fa cdv A outer s H E).nox T n (ab ds n):=λ{A outer s H E} hr=>{
   calm:=rfl
   room:=hr
   fns:=λf' x hx=>by
    rw [pr.tab,List.getElem?_map]at hx
    cases hd2:ds[f']? with
    |none=>rw [hd2]at hx;cases hx
    |some d2 =>
     rw [hd2]at hx
     cases hx
     obtain⟨l2,st2,fa2,fd2,el,D2,bd⟩:=pr.defs.get hd2
     exact⟨fa2,fd2,d2.params,D2.named,D2.fn.kp,D2.binds,(nu hlen pr n f' d2 hd2 st2 fa2 fd2 D2).m,λl hl=>by rw [el]at hl;cases hl;exact bd⟩
   blt:=pr.blt
   gs:=pr.gs
   fnsF:=λf' x hx=>by
    rw [pr.tab,List.getElem?_map]at hx
    cases hd2:ds[f']? with
    |none=>rw [hd2]at hx;cases hx
    |some d2 =>
     rw [hd2]at hx
     cases hx
     obtain⟨l2,st2,fa2,fd2,el,D2,bd⟩:=pr.defs.get hd2
     exact⟨fa2,fd2,d2.params,D2.named,D2.fn.kp,D2.binds,(nu hlen pr n f' d2 hd2 st2 fa2 fd2 D2).f⟩
   }
  have df:∀{A:Around}{outer:_}{s:Shared}{H:Hp}{E:_},Df (nQ CX0 P w K mg base d.names d.name (aY st) fa cdv A outer s H E).nox:=λ{A outer s H E}=>⟨D.scope.nd,λ_=>rfl,PassesOwn.never,by
    have hk:(nQ CX0 P w K mg base d.names d.name (aY st) fa cdv A outer s H E).nox.env.scope.kind=.function:=D.scope.kind
    unfold Env.blockKind
    rw [hk]
    rfl⟩
  refine {
   m:=?_
   f:=?_
   }
  ·refine xL lk hc D.scope (λvs H Q E h=>?_) (λA outer s H vs Q E hr h=>?_)
   ·obtain⟨O,args,r,_,hp,e,_⟩:=h
    rw [<- (kL hd e).1]
    exact(Paired.length hp).symm
   ·obtain⟨O,args,r,hO,hp,e,q⟩:=h
    obtain⟨hl,hr'⟩:=kL hd e
    refine⟨_,(soundSs (gg hr) df d.body (dL st) D.body).nox,H,O,O,_,oU hO hp,?_⟩
    rcases hr' with ⟨ρ,he,rfl⟩|he|⟨xs,he,rfl⟩
    ·rw [he]
     exact λσ' H' O' st' _=>q _ H' st'.keep (nk _)
    ·rw [he]
     exact λu H' s' r'=>q u H' s' r'
    ·rw [he]
     refine λp us H' s' hp' he' r'=>q _ H' s' ?_
     rw [Rep]
     refine⟨p,us,rfl,SqL.of ?_,Reps.mono iF _ r'⟩
     rw [bK λz=>hO p z hp']
     exact he'
  ·refine xL lk hc D.scope (λvs H Q E h=>?_) (λA outer s H vs Q E hr h=>?_)
   ·obtain⟨O,args,r,_,hp,e,_⟩:=h
    rw [<- (jp hf hn hd e).1]
    exact(Paired.length hp).symm
   ·obtain⟨O,args,xs,hO,hp,e,q⟩:=h
    obtain⟨hl,ys,he,ey⟩:=jp hf hn hd e
    cases ey
    refine⟨_,(soundSs (gg hr) df d.body (dL st) D.body).nox,H,O,O,_,oU hO hp,?_⟩
    rw [he]
    exact λp us H' s' hp' he' r'=>q p us H' s' hp' he' r'
theorem BP(hlen:ds.length<=1000)(pr:zT T K mg ds)(n f:Nat)(d:MD)(hd:ds[f]?=some d)(st:Stmt)(fa:Addr)(fd:FuncData)(D:oT T K mg st d fa fd):iT P w K mg base CX0 n fa fd d.params (spM K (ab ds n) f):=(nu hlen pr n f d hd st fa fd D).m
end
theorem zU{K:PySem.W.Frag}{ds:List MD}{n li:Nat}{H:Hp}{a:Addr}{ns:List Int}(h:ab ds n li [.brw (ns.map .int)]=some (.bl true))(hS:SqL K H a (ns.map V.int)):spM K (ab ds n) li [.ref a] H (λv _=>v=.bl true) λ_ _ _=>False :=
 ⟨[],[.brw (ns.map .int)],.bl true,λ_ z=>by simp at z,.cons ⟨a,_,rfl,hS,.of_ints ns⟩ .nil,h,λu H' _ r=>by rw [Rep]at r;exact r⟩
end MM
namespace MM
open PySem
noncomputable abbrev ofS(ts:List Int):PV:=.tup (ts.map .int)
noncomputable abbrev ofR(R:List (List Int)):PV:=.tup (R.map ofS)
noncomputable abbrev ofL(ns:List Int):PV:=.lst (ns.map .int)
theorem bu:∀ns:List Int,aZ (ns.map .int)=some ns
 | []=>rfl
 |n::ns=>by simp [aZ,bu ns]
theorem mt:∀R:List (List Int),e_ (R.map ofS)=some R
 | []=>rfl
 |t::R=>by simp [e_,bu,mt R]
theorem fD:∀ns:List Bool,cE (ns.map .bl)=some ns
 | []=>rfl
 |n::ns=>by simp [cE,fD ns]
theorem i_{ns:List Int}(h:ns.length<64):gc (ns.map .int)=some (ofL (sortI ns)):=by
 unfold gc
 rw [if_pos (by simpa using h),bu]
theorem mw{R:List (List Int)}(h:R.length<64):gc (R.map ofS)=some (.lst ((sortT R).map ofS)):=by
 unfold gc
 rw [if_pos (by simpa using h)]
 cases R with
 |nil=>rfl
 |cons t R =>
  have:aZ ((t::R).map ofS)=none:=rfl
  rw [this]
  simp only [mt,Option.map_some]
theorem fE{α:Type}{g:α->PV}{c:PV->Option Bool}{f:PV->Option PV}{p:α->Bool}{h:α->PV}:∀{xs:List α},(∀x∈xs,c (g x)=some (p x))->(∀x∈xs,p x=true->f (g x)=some (h x))->eP c f (xs.map g)=some ((xs.filter p).map h)
 | [],_,_=>rfl
 |x::xs,hc,hf=>by
  rw [List.map_cons,eP,hc x (.head _),Option.bind_some]
  have ih:=fE (xs:=xs) (λy hy=>hc y (.tail _ hy)) (λy hy=>hf y (.tail _ hy))
  cases hp:p x with
  |true=>rw [if_pos rfl,hf x (.head _) hp,Option.bind_some,ih,List.filter_cons_of_pos hp];rfl
  |false=>rw [if_neg (by simp),ih,List.filter_cons_of_neg (by simp [hp])]
theorem kN{α:Type}{g:α->PV}{c:PV->Option Bool}{f:PV->Option PV}{h:α->PV}{xs:List α}(hc:∀x∈xs,c (g x)=some true)(hf:∀x∈xs,f (g x)=some (h x)):eP c f (xs.map g)=some (xs.map h):=by
 rw [fE (p:=λ_=>true) hc (λx hx _=>hf x hx),List.filter_eq_self.mpr λ_ _=>rfl]
theorem zV(a b:Int)(ts:List Int):((b == a) || decide (a∈ts))=decide (a=b\/a∈ts):=by
 by_cases e:a=b
 ·subst e;rw [beq_self_eq_true,Bool.true_or];exact(decide_eq_true (.inl rfl)).symm
 ·rw [beq_eq_false_iff_ne.mpr (Ne.symm e),Bool.false_or]
  by_cases q:a∈ts
  ·rw [decide_eq_true q,decide_eq_true (.inr q)]
  ·rw [decide_eq_false q,decide_eq_false (λz=>z.elim e q)]
theorem zW(a b:List Int)(ts:List (List Int)):(decide (b=a) || decide (a∈ts))=decide (a=b\/a∈ts):=by
 by_cases e:a=b
 ·subst e;rw [decide_eq_true rfl,Bool.true_or];exact(decide_eq_true (.inl rfl)).symm
 ·rw [decide_eq_false (Ne.symm e),Bool.false_or]
  by_cases q:a∈ts
  ·rw [decide_eq_true q,decide_eq_true (.inr q)]
  ·rw [decide_eq_false q,decide_eq_false (λz=>z.elim e q)]
theorem bP(h:Int):∀ts:List Int,isIn (.int h) (ts.map .int)=some (decide (h∈ts))
 | []=>rfl
 |t::ts=>by
  have ih:=bP h ts
  unfold isIn at ih ⊢
  rw [List.map_cons,inL,ih]
  simp only [eqF,Option.bind_some,Option.map_some,List.mem_cons,zV]
theorem oV(n:Nat):∀a b:List Int,eqL (eqF n) (a.map .int) (b.map .int)=some (decide (a=b))
 | [],[]=>rfl
 | [],_::_=>rfl
 | _::_,[]=>rfl
 |x::a,y::b=>by
  rw [List.map_cons,List.map_cons,eqL,oV n a b]
  simp only [eqF,Option.bind_some,Option.map_some,List.cons.injEq]
  congr 1
  rw [Bool.eq_iff_iff]
  simp
theorem BQ(n:Nat)(a b:List Int):eqF (n+1) (ofS a) (ofS b)=some (decide (a=b)):=by rw [eqF,oV]
theorem nv(h:List Int):∀ts:List (List Int),isIn (ofS h) (ts.map ofS)=some (decide (h∈ts))
 | []=>rfl
 |t::ts=>by
  have ih:=nv h ts
  unfold isIn at ih ⊢
  rw [List.map_cons,inL,ih,BQ 99]
  simp only [Option.bind_some,Option.map_some,List.mem_cons,zW]
noncomputable def bT:R->Option PV
 | .next _=>some .non
 | .ret v=>some v
 | .retF xs=>some (.lst xs)
 | _=>none
theorem af{ds:List MD}{n f:Nat}{d:MD}{args:List MV}(hd:ds[f]?=some d)(hl:args.length=d.params.length):ab ds (n+1) f args=bT (exs (ab ds n) d.body (args.map some++List.replicate (d.names.length-args.length) none)):=by
 rw [ab,hd]
 simp only [hl,if_true]
 unfold bT
 rfl
noncomputable def zX:R->Option PV
 | .retF xs=>some (.lst xs)
 | _=>none
theorem r_{ds:List MD}{n f:Nat}{d:MD}{args:List MV}(hf:f<1000)(hn:ds[f+1000]?=none)(hd:ds[f]?=some d)(hl:args.length=d.params.length):ab ds (n+1) (f+1000) args=zX (exs (ab ds n) d.body (args.map some++List.replicate (d.names.length-args.length) none)):=by
 rw [ab,hn]
 dsimp only
 rw [if_neg (by omega),Nat.add_sub_cancel,hd]
 simp only [hl,if_true]
 unfold zX
 rfl
@[simp] theorem Ap(xs:List PV)(k:Rho->R):(R.retF xs).andThen k=.retF xs:=rfl
@[simp] theorem mx(v:PV):bn (some (.val v))=some v:=rfl
@[simp] theorem Aq(v:List PV):bn (some (.own v))=some (.lst v):=rfl
@[simp] theorem Ar(v:List PV):bn (some (.brw v))=some (.lst v):=rfl
@[simp] theorem pQ(v:DD):bn (some (.ownD v))=some (.dI v):=rfl
@[simp] theorem zY(v:DD):bn (some (.brwD v))=some (.dI v):=rfl
@[simp] theorem zZ(v:DD):fN (some (.ownD v))=some (.brwD v):=rfl
@[simp] theorem z6(v:DD):fN (some (.brwD v))=some (.brwD v):=rfl
@[simp] theorem z7(v:DD):eG (some (.ownD v))=some (.brwD v):=rfl
@[simp] theorem z8(v:DD):eG (some (.brwD v))=some (.brwD v):=rfl
@[simp] theorem z9(i:Int):sc? (.int i)=some (.int i):=rfl
@[simp] theorem C7(i:Bool):sc? (.bl i)=some (.bl i):=rfl
@[simp] theorem CU:sc? .non=some .non:=rfl
@[simp] theorem CV(i:Int):(Sc.int i).pv=.int i:=rfl
@[simp] theorem C8(i:Bool):(Sc.bl i).pv=.bl i:=rfl
@[simp] theorem As(v:PV):t7 (some (.val v))=some v:=rfl
@[simp] theorem At(v:PV):fN (some (.val v))=some (.val v):=rfl
@[simp] theorem Au(v:List PV):fN (some (.own v))=some (.brw v):=rfl
@[simp] theorem Av(v:List PV):fN (some (.brw v))=some (.brw v):=rfl
@[simp] theorem Aw(v:PV):eG (some (.val v))=some (.val v):=rfl
@[simp] theorem Ax(v:List PV):eG (some (.own v))=some (.brw v):=rfl
@[simp] theorem Ay(v:List PV):eG (some (.brw v))=some (.brw v):=rfl
@[simp] theorem Az(b:Bool):aL (.bl b)=some b:=rfl
@[simp] theorem xu(i j:Int):fZ .add (.int i) (.int j)=some (.int (i+j)):=rfl
@[simp] theorem Cb(i j:Int):fZ .sub (.int i) (.int j)=some (.int (i-j)):=rfl
@[simp] theorem jN(i j:Int):fZ .mul (.int i) (.int j)=if (-(2 ^ 64)<i/\i<2 ^ 64)\/(-(2 ^ 64)<j/\j<2 ^ 64) then some (.int (i*j)) else none:=rfl
@[simp] theorem uW(i j:Int):fZ .fdiv (.int i) (.int j)=if 0<j/\j<1073741824 then some (.int (i / j)) else none:=rfl
@[simp] theorem jO(i j:Int):fZ .mod (.int i) (.int j)=if 0<j then some (.int (i % j)) else none:=rfl
@[simp] theorem xv(x y:List PV):fZ .add (.lst x) (.lst y)=if x.length+y.length<=10000 then some (.lst (x++y)) else none:=rfl
@[simp] theorem CW(i j:Int):cD .lt (.int i) (.int j)=some (decide (i<j)):=rfl
@[simp] theorem CY(i j:Int):cD .le (.int i) (.int j)=some (decide (i<=j)):=rfl
@[simp] theorem z_(i j:Int):cD .gt (.int i) (.int j)=some (decide (j<i)):=rfl
@[simp] theorem CZ(i j:Int):cD .ge (.int i) (.int j)=some (decide (j<=i)):=rfl
@[simp] theorem Aa(x y:PV):cD .eq x y=eqF 100 x y:=rfl
@[simp] theorem C0(x y:PV):cD .ne x y=if pF x y=true then (eqF 100 x y).map (λp=>!p) else none:=rfl
@[simp] theorem Cc(x:PV):cD .isN x .non=some (l5 x):=rfl
@[simp] theorem BR(x:PV):cD .notN x .non=some (!l5 x):=rfl
@[simp] theorem qN(x:PV)(xs:List PV):cD .isIn x (.tup xs)=isIn x xs:=rfl
@[simp] theorem Cd(x:PV)(xs:List PV):cD .isIn x (.lst xs)=isIn x xs:=rfl
@[simp] theorem BS(x:PV)(xs:List PV):cD .notIn x (.tup xs)=(isIn x xs).map λp=>!p:=rfl
@[simp] theorem BT(x:PV)(xs:List PV):cD .notIn x (.lst xs)=(isIn x xs).map λp=>!p:=rfl
@[simp] theorem xw(n:Nat)(i j:Int):eqF n (.int i) (.int j)=some (i == j):=by cases n<;>rfl
@[simp] theorem C1(n:Nat)(i j:Bool):eqF n (.bl i) (.bl j)=some (i == j):=by cases n<;>rfl
@[simp] theorem Ce(n:Nat)(i j:Str):eqF n (.str i) (.str j)=some (i == j):=by cases n<;>rfl
@[simp] theorem Cf(x y:List PV):pF (.tup x) (.tup y)=true:=rfl
@[simp] theorem Cg(x y:List PV):pF (.lst x) (.lst y)=true:=rfl
@[simp] theorem Ch(x y:Int):pF (.int x) (.int y)=true:=rfl
@[simp] theorem Ci(x:List PV):a_ (.tup x)=some x:=rfl
@[simp] theorem jP(x:List PV):a_ (.lst x)=some x:=rfl
@[simp] theorem BU(x:List PV):av .len [.tup x]=some (.int x.length):=rfl
@[simp] theorem uX(x:List PV):av .len [.lst x]=some (.int x.length):=rfl
@[simp] theorem BV(x:List (Int×Sc)):av .len [.dI (.k x)]=some (.int x.length):=rfl
@[simp] theorem Cj(x:PV):av .tupleOf [x]=(a_ x).map .tup:=rfl
@[simp] theorem BW(x:PV):av .listOf [x]=(a_ x).map .lst:=rfl
@[simp] theorem fF(x:PV):av .sorted [x]=(a_ x).bind gc:=rfl
@[simp] theorem xx(x:List PV):av .any [.lst x]=(cE x).map λbs=>.bl (bs.any id):=rfl
@[simp] theorem qO(x:List PV):av .all [.lst x]=(cE x).map λbs=>.bl (bs.all id):=rfl
@[simp] theorem BX(i:Int):av .intOf [.int i]=some (.int i):=rfl
@[simp] theorem BY(b:Bool):av .intOf [.bl b]=some (.int (if b then 1 else 0)):=rfl
@[simp] theorem Ck(i:Int):isD (.int i)=false:=rfl
@[simp] theorem C2(i:Bool):isD (.bl i)=false:=rfl
@[simp] theorem Cl(i:Str):isD (.str i)=false:=rfl
@[simp] theorem Cm(i:List PV):isD (.tup i)=false:=rfl
@[simp] theorem Cn(i:List PV):isD (.lst i)=false:=rfl
@[simp] theorem Co:isD .non=false:=rfl
@[simp] theorem AA(x:PV):av .isInt [x]=if isD x=true then none else some (.bl (isT .isInt x)):=rfl
@[simp] theorem vL(i:Int):isT .isInt (.int i)=true:=rfl
@[simp] theorem xy(i:Bool):isT .isInt (.bl i)=true:=rfl
@[simp] theorem vM(i:Str):isT .isInt (.str i)=false:=rfl
@[simp] theorem vN(i:List PV):isT .isInt (.lst i)=false:=rfl
@[simp] theorem vO(i:List PV):isT .isInt (.tup i)=false:=rfl
@[simp] theorem vP:isT .isInt .non=false:=rfl
@[simp] theorem Ab(x:PV):av .isBool [x]=if isD x=true then none else some (.bl (isT .isBool x)):=rfl
@[simp] theorem uY(i:Int):isT .isBool (.int i)=false:=rfl
@[simp] theorem vQ(i:Bool):isT .isBool (.bl i)=true:=rfl
@[simp] theorem uZ(i:Str):isT .isBool (.str i)=false:=rfl
@[simp] theorem u3(i:List PV):isT .isBool (.lst i)=false:=rfl
@[simp] theorem u4(i:List PV):isT .isBool (.tup i)=false:=rfl
@[simp] theorem u5:isT .isBool .non=false:=rfl
@[simp] theorem AB(x:PV):av .isStr [x]=if isD x=true then none else some (.bl (isT .isStr x)):=rfl
@[simp] theorem vR(i:Int):isT .isStr (.int i)=false:=rfl
@[simp] theorem xz(i:Bool):isT .isStr (.bl i)=false:=rfl
@[simp] theorem vS(i:Str):isT .isStr (.str i)=true:=rfl
@[simp] theorem vT(i:List PV):isT .isStr (.lst i)=false:=rfl
@[simp] theorem vU(i:List PV):isT .isStr (.tup i)=false:=rfl
@[simp] theorem vV:isT .isStr .non=false:=rfl
@[simp] theorem Ac(x:PV):av .isList [x]=if isD x=true then none else some (.bl (isT .isList x)):=rfl
@[simp] theorem u6(i:Int):isT .isList (.int i)=false:=rfl
@[simp] theorem vW(i:Bool):isT .isList (.bl i)=false:=rfl
@[simp] theorem u7(i:Str):isT .isList (.str i)=false:=rfl
@[simp] theorem u8(i:List PV):isT .isList (.lst i)=true:=rfl
@[simp] theorem u9(i:List PV):isT .isList (.tup i)=false:=rfl
@[simp] theorem u_:isT .isList .non=false:=rfl
@[simp] theorem x2(x:PV):av .isTuple [x]=if isD x=true then none else some (.bl (isT .isTuple x)):=rfl
@[simp] theorem su(i:Int):isT .isTuple (.int i)=false:=rfl
@[simp] theorem va(i:Bool):isT .isTuple (.bl i)=false:=rfl
@[simp] theorem sw(i:Str):isT .isTuple (.str i)=false:=rfl
@[simp] theorem sx(i:List PV):isT .isTuple (.lst i)=false:=rfl
@[simp] theorem sy(i:List PV):isT .isTuple (.tup i)=true:=rfl
@[simp] theorem sA:isT .isTuple .non=false:=rfl
@[simp] theorem kO(xs:List PV):av .max1 [.lst xs]=(aZ xs).bind λns=>(t6 ns).map .int:=rfl
@[simp] theorem g7(d:DD):av .valuesOf [.dI d]=if (gP d).length<=10000 then some (.lst (gP d)) else none:=rfl
@[simp] theorem vb(kvs:List (Int×Sc)):av .sortedKeys [.dI (.k kvs)]=if kvs.length<64 then some (ofL (sortI (kvs.map (·.1)))) else none:=rfl
@[simp] theorem C3(kvs:List (Int×Sc))(i:Int):rL (.dI (.k kvs)) (.int i)=some (bX kvs i):=rfl
@[simp] theorem Ad(kvs:List (List Int×Sc))(ns:List Int):rL (.dI (.t kvs)) (.tup (ns.map .int))=some (bX kvs ns):=by
 show(aZ (ns.map .int)).map (bX kvs)=_
 rw [bu]
 rfl
@[simp] theorem C4(kvs:List (Int×Sc))(i:Int)(s:Sc):rM (.k kvs) (.int i) s=if kvs.length<10000 then some (.k (bS kvs i s)) else none:=rfl
@[simp] theorem Ae(kvs:List (List Int×Sc))(ns:List Int)(s:Sc):rM (.t kvs) (.tup (ns.map .int)) s=if kvs.length<10000 then some (.t (bS kvs ns s)) else none:=by
 show((aZ (ns.map .int)).bind λk=>if kvs.length<10000 then some (DD.t (bS kvs k s)) else none)=_
 rw [bu]
 rfl
@[simp] theorem Cq(p q:Bool):cD .isN (.bl p) (.bl q)=some (p == q):=rfl
@[simp] theorem BZ(p q:Bool):cD .notN (.bl p) (.bl q)=some (!(p == q)):=rfl
@[simp] theorem xA(xs:List PV):av .tupleRev [.lst xs]=some (.tup xs.reverse):=rfl
@[simp] theorem vX(x:PV):av .sortedSet [x]=(a_ x).bind λxs=>(aZ xs).bind λns=>if ns.length<=1000/\(dd ns).length<64 then some (.lst ((sortI (dd ns)).map .int)) else none:=rfl
@[simp] theorem C9(x:List PV)(i:Int):gQ (.lst x) (.int i)=(place x.length i).bind λj=>x[j]?:=rfl
@[simp] theorem B0(x:List PV)(i:Int):gQ (.tup x) (.int i)=(place x.length i).bind λj=>x[j]?:=rfl
@[simp] theorem Cr(x:List PV)(lo hi:Option Int):iu (.lst x) lo hi=some (.lst (cut x lo hi)):=rfl
@[simp] theorem Cs(i j:Int):bnd (.cst (.int i)) (.int j)=some (some j):=rfl
@[simp] theorem Ct(x:PV):bo .seq [x]=a_ x:=rfl
theorem xB(j:Int):bo .rng [.int j]=if -(2 ^ 62)<=j/\j<2 ^ 62 then some ((List.range j.toNat).map λ(k:Nat)=>.int ((0:Int)+k)) else none:=rfl
@[simp] theorem ak(ρ:Rho)(k:Rho->R):(R.next ρ).andThen k=k ρ:=rfl
@[simp] theorem B1(v:PV)(k:Rho->R):(R.ret v).andThen k=.ret v:=rfl
@[simp] theorem B2(k:Rho->R):R.bad.andThen k=.bad:=rfl
@[simp] theorem B3(ρ:Rho)(k:Rho->R):(R.brk ρ).andThen k=.brk ρ:=rfl
@[simp] theorem AC(ρ:Rho)(k:Rho->R):(R.cont ρ).andThen k=.cont ρ:=rfl
@[simp] theorem g8(v:PV)(k:PV->R):cb (some v) k=k v:=rfl
@[simp] theorem de(v:Bool)(k:Bool->R):t9 (some v) k=k v:=rfl
@[simp] theorem Af(v:Rho)(k:Rho->R):dH (some v) k=k v:=rfl
@[simp] theorem AD(v:PV):bT (.ret v)=some v:=rfl
@[simp] theorem Ag(ρ:Rho):bT (.next ρ)=some .non:=rfl
@[simp] theorem aT(a:Option MV)(l:Rho)(m:MV):put (a::l) 0 m=some m::l:=rfl
@[simp] theorem aU(a:Option MV)(l:Rho)(n:Nat)(m:MV):put (a::l) (n+1) m=a::put l n m:=rfl
@[simp] theorem cz(src:List ME)(ρ₀ ρ:Rho):(R.next ρ).back src ρ₀=.next (aE src ρ₀ ρ):=rfl
@[simp] theorem B4(src:List ME)(ρ₀:Rho)(v:PV):(R.ret v).back src ρ₀=.ret v:=rfl
@[simp] theorem AE(body:PV->Rho->R)(ρ:Rho):aD body [] ρ=.next ρ:=rfl
theorem dg{j:Int}(h0:0<=j)(h1:j<4611686018427387904):bo .rng [.int j]=some ((List.range j.toNat).map λ(k:Nat)=>.int (k:Int)):=by
 rw [xB,if_pos ⟨by omega,by omega⟩]
 congr 1
 exact List.map_congr_left λk _=>by rw [Int.zero_add]
theorem kP{n:Nat}{i:Int}(h0:0<=i)(h:i<n):place n i=some i.toNat:=by unfold place;rw [if_pos h0,if_pos h]
noncomputable def leT(a b:List Int):Prop:=lexLt b a=false
theorem sortI_perm(l:List Int):(sortI l).Perm l:=by rw [d8];exact L2.Srt.sortI_perm l
theorem sortT_perm(l:List (List Int)):(sortT l).Perm l:=by rw [iE];exact L2.Srt.sortT_perm l
theorem sortI_len(l:List Int):(sortI l).length=l.length:=(sortI_perm l).length_eq
theorem sortT_len(l:List (List Int)):(sortT l).length=l.length:=(sortT_perm l).length_eq
theorem gD{l:List Int}{x:Int}:x∈sortI l ↔ x∈l:=(sortI_perm l).mem_iff
theorem ja{l:List (List Int)}{x:List Int}:x∈sortT l ↔ x∈l:=(sortT_perm l).mem_iff
theorem sortI_rises(l:List Int):(sortI l).Pairwise (· <= ·):=by rw [d8];exact L2.Srt.sortI_rises l
theorem sortT_rises(l:List (List Int)):(sortT l).Pairwise leT:=by
 rw [iE]
 exact(L2.Srt.sortT_rises l).imp λh=>by unfold leT;rw [kB];exact h
theorem sortI_of_perm{a b:List Int}(p:a.Perm b):sortI a=sortI b:=by rw [d8,d8];exact L2.Srt.sortI_of_perm p
theorem kQ{l:List Int}(h:l.Nodup):(sortI l).Pairwise (· < ·):=by
 have h1:=sortI_rises l
 have h2:(sortI l).Nodup:=(sortI_perm l).nodup_iff.mpr h
 exact(h1.and h2).imp λ⟨a,b⟩=>by omega
theorem pR{k:Int}{l:List Int}:k∈dd l ↔ k∈l:=by rw [l9];exact L2.St.eO
theorem dd_nodup(l:List Int):(dd l).Nodup:=by rw [l9];exact L2.St.dd_nodup l
theorem x3:∀{l:List Int},l.Nodup->dd l=l
 | [],_=>rfl
 |x::r,h=>by
  rw [dd,x3 (List.nodup_cons.mp h).2,if_neg (List.nodup_cons.mp h).1]
theorem iI{l:List Int}(h:l.Pairwise (· < ·)):l.Nodup:=h.imp λ{a b} q=>by omega
noncomputable def c9(ts:List Int):Prop:=ts.Pairwise (· < ·)/\∀h∈ts,0<=h/\h<=59
noncomputable def bf(R:List (List Int)):Prop:=(∀ts∈R,c9 ts)/\R.Pairwise leT/\R.length<=60
theorem nw:∀(n:Nat) (l:List Int),l.Nodup->(∀x∈l,0<=x/\x<(n:Int))->l.length<=n
 |0,l,_,h=>by
  cases l with
  |nil=>simp
  |cons x r=>have:=h x (.head _);omega
 | n + 1,l,hn,h=>by
  have h1:=nw n (l.filter λx=>decide (x≠(n:Int))) (hn.filter _) (λx hx=>by
   obtain⟨h2,h3⟩:=List.mem_filter.mp hx
   have h4:=of_decide_eq_true h3
   have:=h x h2
   omega)
  have h2:∀l:List Int,l.Nodup->l.length<=(l.filter λx=>decide (x≠(n:Int))).length+1:=by
   intro l
   induction l with
   |nil=>intro _;simp
   | cons x r ih =>
    intro hn
    by_cases e:x=(n:Int)
    ·have hr:r.filter (λx=>decide (x≠(n:Int)))=r:=List.filter_eq_self.mpr λy hy=>decide_eq_true λz=>(List.nodup_cons.mp hn).1 (by rw [e,<- z];exact hy)
     rw [List.filter_cons_of_neg (by simp [e]),hr]
     simp
    ·rw [List.filter_cons_of_pos (by simp [e])]
     have:=ih (List.nodup_cons.mp hn).2
     simp only [List.length_cons]
     omega
  have:=h2 l hn
  omega
theorem aW{ts:List Int}(h:c9 ts):ts.length<=60:=nw 60 ts (iI h.1) λx hx=>by have:=h.2 x hx;omega
noncomputable def sa(ns:List Int)(lo hi:Option Int):List Int:=(ns.drop (fM ns.length 0 lo)).take (fM ns.length ns.length hi-fM ns.length 0 lo)
@[simp] theorem B5(ns:List Int)(lo hi:Option Int):cut (ns.map .int) lo hi=(sa ns lo hi).map .int:=by
 unfold cut sa
 rw [List.length_map,List.map_take,List.map_drop]
theorem vc(ns:List Int){a b:Int}(ha:0<=a)(hb:0<=b):(sa ns (some a) (some b)).length<=(b-a).toNat:=by
 unfold sa
 rw [List.length_take,List.length_drop]
 have e1:fM ns.length ns.length (some b)=min b.toNat ns.length:=by show(if b<0 then _ else _)=_;rw [if_neg (by omega)]
 have e2:fM ns.length 0 (some a)=min a.toNat ns.length:=by show(if a<0 then _ else _)=_;rw [if_neg (by omega)]
 rw [e1,e2]
 omega
end MM
namespace PySem.W.Fast
theorem tw10576648428076297693:True:=⟨⟩
theorem tw15148037499816193909:True:=⟨⟩
theorem tw5683586290209152909:True:=⟨⟩
theorem tw5304220401444343613:True:=⟨⟩
theorem tw11001840318785404164:True:=⟨⟩
theorem tw10869152352434322368:True:=⟨⟩
theorem tw5997920062615350068:True:=⟨⟩
theorem tw2709970866227075820:True:=⟨⟩
theorem tw8942887552719356213:True:=⟨⟩
theorem tw16621069368006452598:True:=⟨⟩
theorem tw8028117417171588715:True:=⟨⟩
theorem tw6861394052927286328:True:=⟨⟩
theorem tw16371505956507885391:True:=⟨⟩
theorem tw9077713645354291741:True:=⟨⟩
theorem tw17354793515677866789:True:=⟨⟩
theorem tw14117206388033178465:True:=⟨⟩
theorem tw14992204749208296351:True:=⟨⟩
theorem tw9054425814804412525:True:=⟨⟩
theorem tw7420308522946369170:True:=⟨⟩
theorem tw7967022481112979844:True:=⟨⟩
theorem tw1775201505884345067:True:=⟨⟩
theorem tw16949274378114021439:True:=⟨⟩
theorem tw6231204273684066365:True:=⟨⟩
theorem tw5177570312115428362:True:=⟨⟩
theorem tw6217881003038538754:True:=⟨⟩
theorem tw2071418813628770142:True:=⟨⟩
theorem tw14904662112975898956:True:=⟨⟩
theorem tw1851787598166500647:True:=⟨⟩
theorem tw2391954294681390693:True:=⟨⟩
theorem tw15409425199226444617:True:=⟨⟩
theorem tw10628363698991948140:True:=⟨⟩
theorem tw7641703850014989501:True:=⟨⟩
theorem tw10496022847098112453:True:=⟨⟩
theorem tw1229382509133198987:True:=⟨⟩
theorem tw3652939233461819452:True:=⟨⟩
theorem tw15507592190973888506:True:=⟨⟩
theorem tw5272318985702633077:True:=⟨⟩
theorem tw12722882122706198994:True:=⟨⟩
theorem tw16502953296588099659:True:=⟨⟩
theorem tw9340729982702582812:True:=⟨⟩
theorem tw16172264500093504002:True:=⟨⟩
theorem tw12262333674805041211:True:=⟨⟩
theorem tw17056109736509511604:True:=⟨⟩
theorem tw18179395419835284257:True:=⟨⟩
theorem tw1198681673206529315:True:=⟨⟩
theorem tw14999294578099694909:True:=⟨⟩
theorem tw6856846810235405767:True:=⟨⟩
theorem tw3852278810794297462:True:=⟨⟩
theorem tw4915125398322476077:True:=⟨⟩
theorem tw3711747998689355924:True:=⟨⟩
theorem tw3875892526417849682:True:=⟨⟩
theorem tw1223172541187035169:True:=⟨⟩
theorem tw9546046074741763644:True:=⟨⟩
theorem tw8763860817835646454:True:=⟨⟩
theorem tw8195490048530803808:True:=⟨⟩
theorem tw2792944982672992553:True:=⟨⟩
theorem tw4848055782271533198:True:=⟨⟩
theorem tw7690158119507346333:True:=⟨⟩
theorem tw13264943681147744124:True:=⟨⟩
theorem tw11482312525748169921:True:=⟨⟩
theorem tw4433242339102902368:True:=⟨⟩
theorem tw2502426330965996480:True:=⟨⟩
theorem tw12206468097272803194:True:=⟨⟩
theorem tw5136997817514171841:True:=⟨⟩
theorem tw3642154119268635529:True:=⟨⟩
theorem tw12871821643286947037:True:=⟨⟩
theorem tw7353946819232255556:True:=⟨⟩
theorem tw9225805249047889713:True:=⟨⟩
theorem tw16049971023490738655:True:=⟨⟩
theorem tw13949484098611361103:True:=⟨⟩
theorem tw16058485352974433777:True:=⟨⟩
theorem tw18012008523022727680:True:=⟨⟩
theorem tw6076223895639587350:True:=⟨⟩
theorem tw12600455549702387148:True:=⟨⟩
theorem tw10050653080811230281:True:=⟨⟩
theorem tw15744022884176297745:True:=⟨⟩
theorem tw13165173128485860678:True:=⟨⟩
theorem tw13758457290666568320:True:=⟨⟩
theorem tw2916683683549423167:True:=⟨⟩
theorem tw12215214541072625948:True:=⟨⟩
theorem tw8363076623623429557:True:=⟨⟩
theorem tw12081784565071144492:True:=⟨⟩
theorem tw11787666105877957997:True:=⟨⟩
theorem tw4532491472015382614:True:=⟨⟩
theorem tw7665986162578709590:True:=⟨⟩
theorem tw2254435802709239248:True:=⟨⟩
theorem tw14990825831573177937:True:=⟨⟩
theorem tw9780130800729788228:True:=⟨⟩
theorem tw14805861545175424497:True:=⟨⟩
theorem tw5654747188029588463:True:=⟨⟩
theorem tw9023774680800306797:True:=⟨⟩
theorem tw15057844990581906419:True:=⟨⟩
theorem tw14641602998685386994:True:=⟨⟩
theorem tw14058682693196069925:True:=⟨⟩
theorem tw13415253488717298282:True:=⟨⟩
theorem tw13942729951563804535:True:=⟨⟩
theorem tw2090486693072397289:True:=⟨⟩
theorem tw9607897476584696554:True:=⟨⟩
theorem tw16428109303072663417:True:=⟨⟩
theorem tw13507846015692445645:True:=⟨⟩
theorem tw8359980816181911165:True:=⟨⟩
theorem tw2649786502575480615:True:=⟨⟩
theorem tw7870545334289583218:True:=⟨⟩
theorem tw125419440495204319:True:=⟨⟩
theorem tw5258090177117467246:True:=⟨⟩
theorem tw18285113454591474199:True:=⟨⟩
theorem tw13238151535758861143:True:=⟨⟩
theorem tw9579937526900508598:True:=⟨⟩
theorem tw3074381329225739392:True:=⟨⟩
theorem tw12102790556391565160:True:=⟨⟩
theorem tw13284620303395036878:True:=⟨⟩
theorem tw7293539989250807480:True:=⟨⟩
theorem tw10657010160334769663:True:=⟨⟩
theorem tw13409773494256680902:True:=⟨⟩
theorem tw4545592246000713713:True:=⟨⟩
theorem tw4290010890192336808:True:=⟨⟩
theorem tw13827800221379814581:True:=⟨⟩
theorem tw1857605853802737193:True:=⟨⟩
theorem tw4787894887278537242:True:=⟨⟩
theorem tw12689643193703625873:True:=⟨⟩
theorem tw6689485164804016088:True:=⟨⟩
theorem tw72267398601867245:True:=⟨⟩
theorem tw13016895669074426490:True:=⟨⟩
theorem tw9533499659277039175:True:=⟨⟩
theorem tw13765270092806723701:True:=⟨⟩
theorem tw1528491816976746643:True:=⟨⟩
theorem tw11035093806011648483:True:=⟨⟩
theorem tw8381597432352967007:True:=⟨⟩
theorem tw8159029213320757159:True:=⟨⟩
theorem tw10402982114712232767:True:=⟨⟩
theorem tw7514481934110538727:True:=⟨⟩
theorem tw7804558004796286012:True:=⟨⟩
theorem tw7123438260791927270:True:=⟨⟩
theorem tw11763419675790812830:True:=⟨⟩
theorem tw16302907751808146156:True:=⟨⟩
theorem tw13995941668530258594:True:=⟨⟩
theorem tw5859086075008160219:True:=⟨⟩
theorem tw12680218145524220725:True:=⟨⟩
theorem tw12190465908216535577:True:=⟨⟩
theorem tw16885721055818817049:True:=⟨⟩
theorem tw7953431990578633574:True:=⟨⟩
theorem tw7814301920987092026:True:=⟨⟩
theorem tw2070540543088948705:True:=⟨⟩
theorem tw2786021046666225445:True:=⟨⟩
theorem tw31071810544209614:True:=⟨⟩
theorem tw12929834264587372401:True:=⟨⟩
theorem tw3697109837942175092:True:=⟨⟩
theorem tw1749092421486638229:True:=⟨⟩
theorem tw9919065059834271555:True:=⟨⟩
theorem tw6022729652244950605:True:=⟨⟩
theorem tw2486224949946278913:True:=⟨⟩
theorem tw13208483652150892148:True:=⟨⟩
theorem tw10809676592295651839:True:=⟨⟩
theorem tw5826390819123475463:True:=⟨⟩
theorem tw16957768645960709880:True:=⟨⟩
theorem tw17928701937361674140:True:=⟨⟩
theorem tw7110026966489202685:True:=⟨⟩
theorem tw6224544878038916787:True:=⟨⟩
theorem tw5925507059303650517:True:=⟨⟩
theorem tw14180106394368868780:True:=⟨⟩
theorem tw2795659621173210090:True:=⟨⟩
theorem tw16392458433456040973:True:=⟨⟩
theorem tw5761330203977224963:True:=⟨⟩
theorem tw11546150531088279706:True:=⟨⟩
theorem tw15765373535638671364:True:=⟨⟩
theorem tw14979437967743271188:True:=⟨⟩
theorem tw6400728554529923655:True:=⟨⟩
theorem tw5443722982795436985:True:=⟨⟩
theorem tw7832032331957600442:True:=⟨⟩
theorem tw11831248168933100812:True:=⟨⟩
theorem tw4098989768368709411:True:=⟨⟩
theorem tw9971991848070528601:True:=⟨⟩
theorem tw2014586133665150906:True:=⟨⟩
theorem tw4991484427219914200:True:=⟨⟩
theorem tw9770013771201272494:True:=⟨⟩
theorem tw17278472398530010990:True:=⟨⟩
theorem tw12595063426637083368:True:=⟨⟩
theorem tw18261533028835365607:True:=⟨⟩
theorem tw3337598127770559573:True:=⟨⟩
theorem tw12700485703605750759:True:=⟨⟩
theorem tw16103552606103023213:True:=⟨⟩
theorem tw10625330019042037496:True:=⟨⟩
theorem tw4599929422332926314:True:=⟨⟩
theorem tw17715601556598448119:True:=⟨⟩
theorem tw15173448105096786193:True:=⟨⟩
theorem tw7808748021058693669:True:=⟨⟩
theorem tw6811123025301387289:True:=⟨⟩
theorem tw2775819533668686076:True:=⟨⟩
theorem tw11535820443556530938:True:=⟨⟩
theorem tw8747786016424382405:True:=⟨⟩
theorem tw10239336114005653812:True:=⟨⟩
theorem tw13240204293630202489:True:=⟨⟩
theorem tw6419013899987088896:True:=⟨⟩
theorem tw14300546236939737468:True:=⟨⟩
theorem tw6676113660884196508:True:=⟨⟩
theorem tw3910611995437388029:True:=⟨⟩
theorem tw11341626419877375507:True:=⟨⟩
theorem tw16011729346871694537:True:=⟨⟩
theorem tw5398810156995440122:True:=⟨⟩
theorem tw5028917658658170025:True:=⟨⟩
theorem tw6781193035737511145:True:=⟨⟩
theorem tw9681946751661646135:True:=⟨⟩
theorem tw848041205986444666:True:=⟨⟩
theorem tw13387194899706857022:True:=⟨⟩
theorem tw11306153255698885988:True:=⟨⟩
theorem tw8885987346803239850:True:=⟨⟩
theorem tw3843909209030395823:True:=⟨⟩
theorem tw10038248854214317178:True:=⟨⟩
theorem tw379686348679343001:True:=⟨⟩
theorem tw2221290718607343200:True:=⟨⟩
theorem tw15653793661650376503:True:=⟨⟩
theorem tw14303673769226683263:True:=⟨⟩
theorem tw6826439727189262452:True:=⟨⟩
theorem tw1404541814233538688:True:=⟨⟩
theorem tw4325322010090120575:True:=⟨⟩
theorem tw14434323447649403138:True:=⟨⟩
theorem tw16320366355103431733:True:=⟨⟩
theorem tw18128521826269635084:True:=⟨⟩
theorem tw17974457576796278287:True:=⟨⟩
theorem tw7540515180473501535:True:=⟨⟩
theorem tw13896326973679061167:True:=⟨⟩
theorem tw14078490316637295275:True:=⟨⟩
theorem tw1028356418076671124:True:=⟨⟩
theorem tw14019998737985484262:True:=⟨⟩
theorem tw12577000690833041378:True:=⟨⟩
theorem tw1342297744674054426:True:=⟨⟩
theorem tw6816106495619381261:True:=⟨⟩
theorem tw91987715363007156:True:=⟨⟩
theorem tw18252897512474011462:True:=⟨⟩
theorem tw2162912352173339379:True:=⟨⟩
theorem tw11276579741682647195:True:=⟨⟩
theorem tw6452336080281080674:True:=⟨⟩
theorem tw17157791663620744641:True:=⟨⟩
theorem tw12669423880422859981:True:=⟨⟩
theorem tw5059386176274729088:True:=⟨⟩
theorem tw14971631151632986691:True:=⟨⟩
theorem tw8598401430552429537:True:=⟨⟩
theorem tw5754873771542875730:True:=⟨⟩
theorem tw7355008295759248058:True:=⟨⟩
theorem tw7112409158621315506:True:=⟨⟩
theorem tw7840824443337615242:True:=⟨⟩
theorem tw6815758162476162327:True:=⟨⟩
theorem tw7391917621442606434:True:=⟨⟩
theorem tw17514363086419706702:True:=⟨⟩
theorem tw4296958134297732255:True:=⟨⟩
theorem tw17873077236321260091:True:=⟨⟩
theorem tw15164703350163837066:True:=⟨⟩
theorem tw2416987278316427746:True:=⟨⟩
theorem tw11508104063907925494:True:=⟨⟩
theorem tw17045089495574288835:True:=⟨⟩
theorem tw15564317091070733798:True:=⟨⟩
theorem tw9859684132256274350:True:=⟨⟩
theorem tw10145081459525305347:True:=⟨⟩
theorem tw5168811169554886591:True:=⟨⟩
theorem tw12197755944505778245:True:=⟨⟩
theorem tw17842723544693263424:True:=⟨⟩
theorem tw5601582598953513120:True:=⟨⟩
theorem tw11124725168777404389:True:=⟨⟩
theorem tw11308525779361988956:True:=⟨⟩
theorem tw17982078578867679120:True:=⟨⟩
theorem tw5720218108071540907:True:=⟨⟩
theorem tw13544013624952564789:True:=⟨⟩
theorem tw16834023323293244712:True:=⟨⟩
theorem tw8382164752986969104:True:=⟨⟩
theorem tw14039981709857984750:True:=⟨⟩
theorem tw10245575721785731753:True:=⟨⟩
theorem tw14976655715239799071:True:=⟨⟩
theorem tw14757701863430631587:True:=⟨⟩
theorem tw12207053079727146190:True:=⟨⟩
theorem tw8443032012667810011:True:=⟨⟩
theorem tw6366606388149687147:True:=⟨⟩
theorem tw12682270450102389248:True:=⟨⟩
theorem tw644966502555810:True:=⟨⟩
theorem tw8330020560089234448:True:=⟨⟩
theorem tw2711662023514852998:True:=⟨⟩
theorem tw2429841224591454895:True:=⟨⟩
theorem tw14508423140080422755:True:=⟨⟩
theorem tw6775156161936891445:True:=⟨⟩
theorem tw11147897390192010928:True:=⟨⟩
theorem tw821814701436907124:True:=⟨⟩
theorem tw11149701887506872767:True:=⟨⟩
theorem tw16182477526528149861:True:=⟨⟩
theorem tw2299414790522605440:True:=⟨⟩
theorem tw5241668331902421529:True:=⟨⟩
theorem tw3873160307199386728:True:=⟨⟩
theorem tw7105473373882780629:True:=⟨⟩
theorem tw11841478990356771881:True:=⟨⟩
theorem tw4693359239826647938:True:=⟨⟩
theorem tw12823171275758320288:True:=⟨⟩
theorem tw16483760100044731038:True:=⟨⟩
theorem tw4751250340765232010:True:=⟨⟩
theorem tw8923605398141953594:True:=⟨⟩
theorem tw6009598902867727123:True:=⟨⟩
theorem tw16715669617486626298:True:=⟨⟩
theorem tw2761825972559522173:True:=⟨⟩
theorem tw405128888081906027:True:=⟨⟩
theorem tw3641211147884836374:True:=⟨⟩
theorem tw18367242668861169156:True:=⟨⟩
theorem tw11565311432139520015:True:=⟨⟩
theorem tw11856544367792922769:True:=⟨⟩
theorem tw14647720979824562056:True:=⟨⟩
theorem tw8860707096462264408:True:=⟨⟩
theorem tw11891163354978346066:True:=⟨⟩
theorem tw14058768792769760532:True:=⟨⟩
theorem tw9684437156415597876:True:=⟨⟩
theorem tw10881840722956232096:True:=⟨⟩
theorem tw16341878376952753094:True:=⟨⟩
theorem tw14403479185641805403:True:=⟨⟩
theorem tw10675587412041759906:True:=⟨⟩
theorem tw16488256367031549291:True:=⟨⟩
end PySem.W.Fast
namespace My
open PySem L2 MM
noncomputable def cT:List MS:=[.extend 1 (.bor 2)]
noncomputable def dP:MD:=⟨"members_of",["rows"],["rows","members","row"],
  [.setOwn 1 (.lst []),
  .for1 2 .seq [(.bor 0)] cT,
  .retOwn 1]⟩
noncomputable def jq:MD:=⟨"each_once",["members"],["members"],
  [.ret (.cmp .eq (.blt .lenSet [(.bor 0)]) (.blt .len [(.bor 0)]))]⟩
noncomputable def fP:MD:=⟨"strip_without",["strip","hole"],["strip","hole"],
  [.ret (.blt .tupleOf [(.comp .seq [(.bor 0)] [1] (.cmp .ne (.bor 0) (.bor 1)) (.var 0))])]⟩
noncomputable def my:MD:=⟨"knotted",["rest","hole"],["rest","hole"],
  [.ret (.blt .tupleOf [(.blt .sorted [(.comp .seq [(.bor 0)] [1] (.cst (.bl true)) (.call 2 [(.bor 0),(.bor 1)]))])])]⟩
noncomputable def iJ:MD:=⟨"bitten",["rest","hole"],["rest","hole"],
  [.ret (.blt .tupleOf [(.comp .seq [(.bor 0)] [1] (.cmp .notIn (.bor 1) (.bor 0)) (.var 0))])]⟩
noncomputable def fG:MD:=⟨"holes_of",["rest"],["rest"],
  [.ret (.blt .sortedSet [(.call 0 [(.bor 0)])])]⟩
noncomputable def fH:MD:=⟨"is_whole",["rest"],["rest"],
  [.ret (.cmp .isIn (.tup []) (.bor 0))]⟩
noncomputable def mz:MD:=⟨"is_bare",["rest"],["rest"],
  [.ret (.cmp .eq (.blt .len [(.bor 0)]) (.cst (.int 0)))]⟩
noncomputable def iK:MD:=⟨"other_hand",["hand"],["hand"],
  [.ret (.ite (.cmp .eq (.bor 0) (.cst (.str "weaver"))) (.cst (.str "moth")) (.cst (.str "weaver")))]⟩
noncomputable def oW:MD:=⟨"behind",["rest","hand","reply"],["rest","hand","reply"],
  [.ite (.cmp .isN (.bor 2) (.cst .non))
   [.ret (.var 0)]
   [],
  .ret (.ite (.cmp .eq (.bor 1) (.cst (.str "weaver"))) (.call 3 [(.bor 0),(.bor 2)]) (.call 4 [(.bor 0),(.bor 2)]))]⟩
noncomputable def gR:MD:=⟨"behind_both",["rest","hand","hole","reply"],["rest","hand","hole","reply"],
  [.ret (.call 9 [(.call 9 [(.bor 0),(.call 8 [(.bor 1)]),(.bor 2)]),(.bor 1),(.bor 3)])]⟩
noncomputable def gE:MD:=⟨"has_all",["strip","other"],["strip","other"],
  [.ret (.cmp .eq (.blt .lenSetSub [(.bor 1),(.bor 0)]) (.cst (.int 0)))]⟩
noncomputable def bh:List MS:=[.ite (.call 11 [(.bor 0),(.bor 3)])
   [.ret (.var 2)]
   []]
noncomputable def cH:MD:=⟨"least_place",["strip","rest"],["strip","rest","place","other"],
  [.forT [2,3] .enm [(.bor 1)] bh,
  .ret (.cst .non)]⟩
noncomputable def gF:MD:=⟨"footing",["rest","other"],["rest","other"],
  [.ret (.comp .seq [(.bor 0)] [1] (.cst (.bl true)) (.call 12 [(.bor 0),(.bor 1)]))]⟩
noncomputable def fI:MD:=⟨"is_below",["rest","other"],["rest","other"],
  [.ret (.cmp .notIn (.cst .non) (.call 13 [(.bor 0),(.bor 1)]))]⟩
noncomputable def iL:MD:=⟨"has_a_pair",["strip","pairs"],["strip","pairs"],
  [.ret (.blt .any [(.comp .seq [(.bor 1)] [0] (.cst (.bl true)) (.call 11 [(.bor 1),(.bor 0)]))])]⟩
noncomputable def iM:MD:=⟨"pairs_hold",["pairs","rest"],["pairs","rest"],
  [.ite (.not (.call 1 [(.call 0 [(.bor 0)])]))
   [.ret (.cst (.bl false))]
   [],
  .ret (.blt .all [(.comp .seq [(.bor 1)] [0] (.cst (.bl true)) (.call 15 [(.bor 0),(.bor 1)]))])]⟩
noncomputable def kR:MD:=⟨"together",["rests"],["rests"],
  [.ret (.blt .tupleOf [(.blt .sorted [(.call 0 [(.bor 0)])])])]⟩
noncomputable def jr:MD:=⟨"are_apart",["rests"],["rests"],
  [.ret (.call 1 [(.call 0 [(.comp .seq [(.bor 0)] [] (.cst (.bl true)) (.call 5 [(.bor 0)]))])])]⟩
noncomputable def cU:MD:=⟨"strip_weight",["strip"],["strip"],
  [.ret (.bin .shr (.glob "UNIT" (.int 1152921504606846976)) (.blt .len [(.bor 0)]))]⟩
noncomputable def kS:MD:=⟨"weight",["rest"],["rest"],
  [.ret (.blt .sum [(.comp .seq [(.bor 0)] [] (.cst (.bl true)) (.call 19 [(.bor 0)]))])]⟩
noncomputable def mB:List MS:=[.dput 1 (.bor 3) (.bin .add (.dget (.bor 1) (.bor 3) (.cst (.int 0))) (.call 19 [(.bor 2)]))]
noncomputable def mC:List MS:=[.for1 3 .seq [(.bor 2)] mB]
noncomputable def ny:MD:=⟨"pulls",["rest"],["rest","pull_of","strip","hole"],
  [.newD false 1,
  .for1 2 .seq [(.bor 0)] mC,
  .retOwn 1]⟩
noncomputable def dE:MD:=⟨"greatest_pull",["rest"],["rest"],
  [.ret (.blt .max1 [(.bin .add (.lst [(.cst (.int 0))]) (.blt .valuesOf [(.call 21 [(.bor 0)])]))])]⟩
noncomputable def gj:List MS:=[.extend 1 (.comp .seq [(.slice (.bor 0) (.bin .add (.bor 2) (.cst (.int 1))) (.cst .non))] [3] (.cst (.bl true)) (.tup [(.var 1),(.var 0)]))]
noncomputable def jb:MD:=⟨"twos_of",["strip"],["strip","twos","place","low"],
  [.setOwn 1 (.lst []),
  .forT [2,3] .enm [(.bor 0)] gj,
  .retOwn 1]⟩
noncomputable def fQ:List MS:=[.dput 1 (.bor 3) (.bin .add (.dget (.bor 1) (.bor 3) (.cst (.int 0))) (.cst (.int 1)))]
noncomputable def fR:List MS:=[.for1 3 .seq [(.call 23 [(.bor 2)])] fQ]
noncomputable def eV:MD:=⟨"most_shared",["rest"],["rest","count_of","strip","two"],
  [.newD true 1,
  .for1 2 .seq [(.bor 0)] fR,
  .ret (.blt .max1 [(.bin .add (.lst [(.cst (.int 0))]) (.blt .valuesOf [(.bor 1)]))])]⟩
noncomputable def b7:MD:=⟨"moth_weighs",["rest","turn"],["rest","turn"],
  [.ite (.cmp .eq (.bor 1) (.cst (.str "moth")))
   [.ret (.cmp .lt (.call 20 [(.bor 0)]) (.glob "UNIT" (.int 1152921504606846976)))]
   [],
  .ret (.cmp .lt (.bin .add (.call 20 [(.bor 0)]) (.call 22 [(.bor 0)])) (.glob "UNIT" (.int 1152921504606846976)))]⟩
noncomputable def g9:MD:=⟨"is_heavy",["rest"],["rest"],
  [.ret (.cmp .gt (.bin .mul (.cst (.int 4)) (.call 20 [(.bor 0)])) (.bin .mul (.bin .mul (.glob "UNIT" (.int 1152921504606846976)) (.call 24 [(.bor 0)])) (.bin .fdiv (.blt .len [(.call 5 [(.bor 0)])]) (.cst (.int 2)))))]⟩
noncomputable def bY:MD:=⟨"weaver_weighs",["rest","turn"],["rest","turn"],
  [.ite (.cmp .eq (.bor 1) (.cst (.str "weaver")))
   [.ret (.call 26 [(.bor 0)])]
   [],
  .ite (.call 6 [(.bor 0)])
   [.ret (.cst (.bl true))]
   [],
  .ret (.and (.call 26 [(.bor 0)]) (.blt .all [(.comp .seq [(.call 5 [(.bor 0)])] [0] (.cst (.bl true)) (.call 26 [(.call 4 [(.bor 1),(.bor 0)])]))]))]⟩
noncomputable def jc:MD:=⟨"good",["paper","rest","turn","hand"],["paper","rest","turn","hand"],
  [.ite (.cmp .eq (.bor 3) (.cst (.str "moth")))
   [.ret (.call 29 [(.bor 0),(.bor 1),(.bor 2)])]
   [],
  .ret (.call 30 [(.bor 0),(.bor 1),(.bor 2)])]⟩
noncomputable def aR:MD:=⟨"good_for_moth",["paper","rest","turn"],["paper","rest","turn","word"],
  [.set 3 (.idx (.bor 0) (.cst (.int 0))),
  .ite (.cmp .eq (.bor 3) (.cst (.str "bare")))
   [.ret (.call 7 [(.bor 1)])]
   [],
  .ite (.cmp .eq (.bor 3) (.cst (.str "weight")))
   [.ret (.call 25 [(.bor 1),(.bor 2)])]
   [],
  .ite (.cmp .eq (.bor 2) (.cst (.str "moth")))
   [.ret (.and (.cmp .eq (.bor 3) (.cst (.str "bite"))) (.call 31 [(.bor 0),(.bor 1),(.cst (.str "moth"))]))]
   [],
  .ite (.cmp .eq (.bor 3) (.cst (.str "pairs")))
   [.ret (.call 16 [(.idx (.bor 0) (.cst (.int 1))),(.bor 1)])]
   [],
  .ite (.cmp .eq (.bor 3) (.cst (.str "cases")))
   [.ret (.and (.not (.call 6 [(.bor 1)])) (.call 32 [(.idx (.bor 0) (.cst (.int 1))),(.bor 1),(.cst (.str "moth"))]))]
   [],
  .ite (.cmp .eq (.bor 3) (.cst (.str "parts")))
   [.ret (.and (.call 33 [(.idx (.bor 0) (.cst (.int 1))),(.bor 1)]) (.call 34 [(.idx (.bor 0) (.cst (.int 1)))]))]
   [],
  .ret (.cst (.bl false))]⟩
noncomputable def aI:MD:=⟨"good_for_weaver",["paper","rest","turn"],["paper","rest","turn","word"],
  [.set 3 (.idx (.bor 0) (.cst (.int 0))),
  .ite (.cmp .eq (.bor 3) (.cst (.str "whole")))
   [.ret (.call 6 [(.bor 1)])]
   [],
  .ite (.cmp .eq (.bor 3) (.cst (.str "weight")))
   [.ret (.call 27 [(.bor 1),(.bor 2)])]
   [],
  .ite (.cmp .eq (.bor 3) (.cst (.str "fewer")))
   [.ret (.and (.call 14 [(.idx (.bor 0) (.cst (.int 1))),(.bor 1)]) (.call 28 [(.idx (.bor 0) (.cst (.int 2))),(.idx (.bor 0) (.cst (.int 1))),(.bor 2),(.cst (.str "weaver"))]))]
   [],
  .ite (.cmp .eq (.bor 2) (.cst (.str "weaver")))
   [.ret (.and (.cmp .eq (.bor 3) (.cst (.str "knot"))) (.call 31 [(.bor 0),(.bor 1),(.cst (.str "weaver"))]))]
   [],
  .ite (.cmp .eq (.bor 3) (.cst (.str "cases")))
   [.ret (.and (.cmp .gt (.blt .len [(.call 5 [(.bor 1)])]) (.cst (.int 0))) (.call 32 [(.idx (.bor 0) (.cst (.int 1))),(.bor 1),(.cst (.str "weaver"))]))]
   [],
  .ite (.cmp .eq (.bor 3) (.cst (.str "either")))
   [.ret (.call 35 [(.bor 0),(.bor 1)])]
   [],
  .ret (.cst (.bl false))]⟩
noncomputable def gk:MD:=⟨"move_is_good",["paper","rest","hand"],["paper","rest","hand"],
  [.ret (.call 28 [(.idx (.bor 0) (.cst (.int 2))),(.call 9 [(.bor 1),(.bor 2),(.idx (.bor 0) (.cst (.int 1)))]),(.call 8 [(.bor 2)]),(.bor 2)])]⟩
noncomputable def g_:List MS:=[.ite (.not (.call 28 [(.bor 5),(.call 10 [(.bor 1),(.bor 2),(.bor 3),(.bor 4)]),(.call 8 [(.bor 2)]),(.bor 2)]))
   [.ret (.cst (.bl false))]
   []]
noncomputable def fk:MD:=⟨"cases_are_good",["rows","rest","hand"],["rows","rest","hand","hole","reply","paper"],
  [.ite (.cmp .ne (.comp .seq [(.bor 0)] [] (.cst (.bl true)) (.idx (.bor 0) (.cst (.int 0)))) (.call 5 [(.bor 1)]))
   [.ret (.cst (.bl false))]
   [],
  .forT [3,4,5] .seq [(.bor 0)] g_,
  .ret (.cst (.bl true))]⟩
noncomputable def eJ:MD:=⟨"parts_stand_for",["rows","rest"],["rows","rest","rests","strips"],
  [.set 2 (.comp .seq [(.bor 0)] [] (.cst (.bl true)) (.idx (.bor 0) (.cst (.int 0)))),
  .set 3 (.call 17 [(.bor 2)]),
  .ite (.or (.cmp .gt (.blt .len [(.bor 3)]) (.blt .len [(.bor 1)])) (.not (.call 18 [(.bor 2)])))
   [.ret (.cst (.bl false))]
   [],
  .ret (.and (.call 11 [(.call 5 [(.bor 1)]),(.call 5 [(.bor 3)])]) (.call 14 [(.bor 1),(.bor 3)]))]⟩
noncomputable def hV:List MS:=[.ite (.not (.call 28 [(.bor 2),(.bor 1),(.cst (.str "weaver")),(.cst (.str "moth"))]))
   [.ret (.cst (.bl false))]
   []]
noncomputable def fm:MD:=⟨"parts_are_good",["rows"],["rows","rest","paper"],
  [.forT [1,2] .seq [(.bor 0)] hV,
  .ret (.cst (.bl true))]⟩
noncomputable def fo:MD:=⟨"either_is_good",["paper","rest"],["paper","rest","one","two"],
  [.set 2 (.idx (.bor 0) (.cst (.int 1))),
  .set 3 (.idx (.bor 0) (.cst (.int 3))),
  .ite (.or (.not (.call 18 [(.lst [(.var 2),(.var 3)])])) (.or (.not (.call 14 [(.bor 2),(.bor 1)])) (.not (.call 14 [(.bor 3),(.bor 1)]))))
   [.ret (.cst (.bl false))]
   [],
  .ret (.and (.call 28 [(.idx (.bor 0) (.cst (.int 2))),(.bor 2),(.cst (.str "weaver")),(.cst (.str "weaver"))]) (.call 28 [(.idx (.bor 0) (.cst (.int 4))),(.bor 3),(.cst (.str "weaver")),(.cst (.str "weaver"))]))]⟩
noncomputable def fJ:MD:=⟨"_law_cell",["script","k"],["script","k"],
  [.ite (.cmp .lt (.bor 1) (.blt .len [(.bor 0)]))
   [.ret (.idx (.bor 0) (.bor 1))]
   [],
  .ret (.cst (.int 0))]⟩
noncomputable def eK:MD:=⟨"_law_mixed",["cell","by"],["cell","by"],
  [.ret (.bin .mod (.bin .mul (.bin .mod (.bor 0) (.cst (.int 2305843009213693951))) (.bor 1)) (.cst (.int 2305843009213693951)))]⟩
noncomputable def cI:List MS:=[.ite (.cmp .notIn (.bin .mod (.bor 4) (.bor 1)) (.bor 6))
   [.append 6 (.bin .mod (.bor 4) (.bor 1))]
   [],
  .set 4 (.bin .fdiv (.bor 4) (.bor 1))]
noncomputable def gm:MD:=⟨"_law_strip",["cell","many","least","most"],["cell","many","least","most","left","size","strip","k"],
  [.set 4 (.call 37 [(.bor 0),(.cst (.int 1181783497276652981))]),
  .set 5 (.bin .add (.bor 2) (.bin .mod (.bor 4) (.bin .add (.bin .sub (.bor 3) (.bor 2)) (.cst (.int 1))))),
  .set 4 (.bin .fdiv (.bor 4) (.bin .add (.bin .sub (.bor 3) (.bor 2)) (.cst (.int 1)))),
  .setOwn 6 (.lst []),
  .for1 7 .rng [(.bor 5)] cI,
  .ret (.blt .tupleOf [(.blt .sorted [(.bor 6)])])]⟩
noncomputable def dQ:MD:=⟨"_law_bitten",["rest","hole"],["rest","hole"],
  [.ret (.blt .tupleOf [(.comp .seq [(.bor 0)] [1] (.cmp .notIn (.bor 1) (.bor 0)) (.var 0))])]⟩
noncomputable def cJ:List MS:=[.ite (.cmp .notIn (.bor 3) (.bor 1))
   [.append 1 (.var 3)]
   []]
noncomputable def du:List MS:=[.for1 3 .seq [(.bor 2)] cJ]
noncomputable def eN:MD:=⟨"_law_holes",["rest"],["rest","found","strip","hole"],
  [.setOwn 1 (.lst []),
  .for1 2 .seq [(.bor 0)] du,
  .ret (.blt .sorted [(.bor 1)])]⟩
noncomputable def cV:List MS:=[.ite (.cmp .notIn (.bor 2) (.bor 1))
   [.ret (.cst (.bl false))]
   []]
noncomputable def cW:MD:=⟨"_law_within",["some","others"],["some","others","hole"],
  [.for1 2 .seq [(.bor 0)] cV,
  .ret (.cst (.bl true))]⟩
noncomputable def dv:List MS:=[.ite (.not (.blt .any [(.comp .seq [(.bor 1)] [2] (.cst (.bl true)) (.call 41 [(.bor 0),(.bor 1)]))]))
   [.ret (.cst (.bl false))]
   []]
noncomputable def gp:MD:=⟨"_law_below",["rest","other"],["rest","other","strip"],
  [.for1 2 .seq [(.bor 0)] dv,
  .ret (.cst (.bl true))]⟩
noncomputable def jd:MD:=⟨"_law_sum",["rest"],["rest"],
  [.ret (.blt .sum [(.comp .seq [(.bor 0)] [] (.cst (.bl true)) (.bin .shr (.bin .pow (.cst (.int 2)) (.cst (.int 60))) (.blt .len [(.bor 0)])))])]⟩
noncomputable def eA:List MS:=[.set 5 (.tup [(.idx (.bor 2) (.bor 4)),(.idx (.bor 2) (.bor 3))]),
  .dput 1 (.bor 5) (.bin .add (.dget (.bor 1) (.bor 5) (.cst (.int 0))) (.cst (.int 1)))]
noncomputable def cX:List MS:=[.for1 4 .rng [(.bor 3)] eA]
noncomputable def gq:List MS:=[.for1 3 .rng [(.blt .len [(.bor 2)])] cX]
noncomputable def fK:MD:=⟨"_law_shared",["rest"],["rest","counts","strip","k","j","pair"],
  [.newD true 1,
  .for1 2 .seq [(.bor 0)] gq,
  .ret (.blt .max1 [(.bin .add (.lst [(.cst (.int 0))]) (.blt .valuesOf [(.bor 1)]))])]⟩
noncomputable def dh:MD:=⟨"_law_weaver_now",["rest"],["rest"],
  [.ret (.cmp .gt (.bin .mul (.cst (.int 4)) (.call 43 [(.bor 0)])) (.bin .mul (.bin .mul (.bin .pow (.cst (.int 2)) (.cst (.int 60))) (.call 44 [(.bor 0)])) (.bin .fdiv (.blt .len [(.call 40 [(.bor 0)])]) (.cst (.int 2)))))]⟩
noncomputable def bI:MD:=⟨"_law_weaver_weighs",["rest","turn"],["rest","turn"],
  [.ite (.cmp .eq (.bor 1) (.cst (.str "weaver")))
   [.ret (.call 45 [(.bor 0)])]
   [],
  .ite (.cmp .isIn (.tup []) (.bor 0))
   [.ret (.cst (.bl true))]
   [],
  .ite (.not (.call 45 [(.bor 0)]))
   [.ret (.cst (.bl false))]
   [],
  .ret (.blt .all [(.comp .seq [(.call 40 [(.bor 0)])] [0] (.cst (.bl true)) (.call 45 [(.call 39 [(.bor 1),(.bor 0)])]))])]⟩
noncomputable def cY:List MS:=[.set 1 (.bin .fdiv (.bor 1) (.cst (.int 16))),
  .ite (.cmp .notIn (.bin .mod (.bor 1) (.bin .add (.bor 2) (.cst (.int 3)))) (.bor 3))
   [.append 3 (.bin .mod (.bor 1) (.bin .add (.bor 2) (.cst (.int 3))))]
   []]
noncomputable def hW:MD:=⟨"_law_more",["strip","left","many"],["strip","left","many","more","k"],
  [.setOwn 3 (.blt .listOf [(.bor 0)]),
  .for1 4 .rng [(.bin .mod (.bor 1) (.cst (.int 3)))] cY,
  .retO 3]⟩
noncomputable def cZ:List MS:=[.appF 4 47 [(.idx (.bor 0) (.bin .mod (.bor 5) (.blt .len [(.bor 0)]))),(.bin .fdiv (.bor 5) (.cst (.int 64))),(.bor 3)]]
noncomputable def fL:MD:=⟨"_law_second",["rest","way","picks","many"],["rest","way","picks","many","strips","pick","at"],
  [.setL 4 0,
  .for1 5 .seq [(.bor 2)] cZ,
  .ite (.and (.cmp .gt (.lenL 4) (.cst (.int 0))) (.cmp .eq (.bin .mod (.bin .fdiv (.bor 1) (.cst (.int 64))) (.cst (.int 2))) (.cst (.int 1))))
   [.set 6 (.bin .mod (.bin .fdiv (.bor 1) (.cst (.int 128))) (.lenL 4)),
   .ite (.and (.cmp .eq (.bin .mod (.bin .fdiv (.bor 1) (.cst (.int 1024))) (.cst (.int 2))) (.cst (.int 1))) (.cmp .gt (.lenI 4 (.bor 6)) (.cst (.int 0))))
    [.popI 4 (.bor 6) (.bin .mod (.bin .fdiv (.bor 1) (.cst (.int 2048))) (.lenI 4 (.bor 6)))]
    [.setI 4 (.bor 6) (.lst [(.bin .mod (.bin .fdiv (.bor 1) (.cst (.int 2048))) (.cst (.int 60)))])]]
   [],
  .freezeL 4,
  .ret (.blt .tupleOf [(.blt .sorted [(.comp .seq [(.bor 4)] [] (.cst (.bl true)) (.blt .tupleOf [(.blt .sorted [(.bor 0)])]))])])]⟩
noncomputable def je:MD:=⟨"_law_due",["word","rest","turn"],["word","rest","turn"],
  [.ite (.cmp .eq (.bor 0) (.cst (.str "whole")))
   [.ret (.cmp .isIn (.tup []) (.bor 1))]
   [],
  .ret (.call 46 [(.bor 1),(.bor 2)])]⟩
noncomputable def jQ:List MS:=[.set 11 (.tup [(.cst (.str "fewer")),(.var 6),(.var 11)])]
noncomputable def qP:List MS:=[.set 14 (.and (.call 42 [(.bor 7),(.bor 6)]) (.call 49 [(.bor 9),(.bor 7),(.bor 13)])),
  .set 15 (.call 28 [(.bor 10),(.bor 6),(.bor 13),(.cst (.str "weaver"))]),
  .ite (.or (.not (.blt .isBool [(.bor 15)])) (.cmp .ne (.bor 15) (.bor 14)))
   [.ret (.cst (.bl false))]
   [],
  .ite (.cmp .notN (.call 28 [(.bor 10),(.bor 6),(.bor 13),(.cst (.str "moth"))]) (.cst (.bl false)))
   [.ret (.cst (.bl false))]
   [],
  .set 15 (.call 28 [(.bor 11),(.bor 6),(.bor 13),(.cst (.str "weaver"))]),
  .ite (.or (.not (.blt .isBool [(.bor 15)])) (.cmp .ne (.bor 15) (.bor 14)))
   [.ret (.cst (.bl false))]
   []]
noncomputable def qQ:List MS:=[.set 10 (.tup [(.cst (.str "fewer")),(.var 7),(.tup [(.var 9)])]),
  .set 11 (.var 10),
  .for1 12 .rng [(.bin .add (.cst (.int 1)) (.bin .mod (.bin .fdiv (.bor 4) (.cst (.int 4096))) (.cst (.int 27))))] jQ,
  .for1 13 .seq [(.lst [(.cst (.str "weaver")),(.cst (.str "moth"))])] qP]
noncomputable def qR:MD:=⟨"law",["script"],["script","by","many","least","way","room","rest","second","picks","word","paper","deep","k","turn","due","found"],
  [.set 1 (.call 37 [(.call 36 [(.bor 0),(.cst (.int 0))]),(.cst (.int 1442695040888963407))]),
  .set 2 (.bin .add (.cst (.int 2)) (.bin .mod (.bor 1) (.cst (.int 8)))),
  .set 3 (.bin .mod (.bin .fdiv (.bor 1) (.cst (.int 8))) (.cst (.int 2))),
  .set 4 (.call 37 [(.call 36 [(.bor 0),(.cst (.int 1))]),(.cst (.int 1865811235122147685))]),
  .set 5 (.idx (.lst [(.cst (.int 1)),(.cst (.int 2)),(.cst (.int 4)),(.cst (.int 10))]) (.bin .mod (.bor 4) (.cst (.int 4)))),
  .set 6 (.blt .tupleOf [(.blt .sorted [(.comp .seq [(.slice (.bor 0) (.cst (.int 2)) (.bin .add (.cst (.int 2)) (.bor 5)))] [2,3] (.cst (.bl true)) (.call 38 [(.bor 0),(.bor 1),(.bor 2),(.bin .add (.bor 2) (.cst (.int 3)))]))])]),
  .set 7 (.tup []),
  .ite (.cmp .gt (.blt .len [(.bor 6)]) (.cst (.int 0)))
   [.set 8 (.comp .rng [(.bin .mod (.bin .fdiv (.bor 4) (.cst (.int 4))) (.cst (.int 8)))] [0] (.cst (.bl true)) (.call 37 [(.call 36 [(.bor 1),(.bin .add (.cst (.int 12)) (.bor 0))]),(.cst (.int 2049848353892358983))])),
   .set 7 (.call 48 [(.bor 6),(.bor 4),(.bor 8),(.bor 2)])]
   [],
  .for1 9 .seq [(.lst [(.cst (.str "whole")),(.cst (.str "weight"))])] qQ,
  .ret (.cst (.bl true))]⟩
noncomputable def defs:List MD:=[dP,jq,fP,my,iJ,fG,fH,mz,iK,oW,gR,gE,cH,gF,fI,iL,iM,kR,jr,cU,kS,ny,dE,jb,eV,b7,g9,bY,jc,aR,aI,gk,fk,eJ,fm,fo,fJ,eK,gm,dQ,eN,cW,gp,jd,fK,dh,bI,hW,fL,je,qR]
noncomputable def tab:Tab:=⟨defs.map (·.name),[("UNIT",(.int 1152921504606846976))],[[],[],[],[],[],[],[],[],[],[],[],[],[],[],[],[],[],[],[],[],[],[],[],[],[],[],[],[],[],[],[],[],[],[],[],[],[],[],[],[],[],[],[],[],[],[],[],[],[],[],[]]⟩
noncomputable def cellOf(ns:List Int)(k:Int):Int:=ns.getD k.toNat 0
theorem vd(n:Nat)(m:MV)(ns:List Int)(k:Int)(hm:bn (some m)=some (ofL ns))(h0:0<=k):ab defs (n+1) 36 [m,.val (.int k)]=some (.int (cellOf ns k)):=by
 rw [af (d:=fJ) rfl rfl]
 unfold cellOf
 simp [fJ,exs,ex,ev,evs,evB,hm]
 by_cases h:k<(ns.length:Int)
 ·have h2:k.toNat<ns.length:=by omega
  simp [h,kP h0 h,h2]
 ·have h2:ns.length<=k.toNat:=by omega
  simp [h,h2]
noncomputable def gr(c b:Int):Int:=c % 2305843009213693951*b % 2305843009213693951
theorem iN(c b:Int):0<=gr c b:=Int.emod_nonneg _ (by decide)
theorem nz(n:Nat)(c b:Int):ab defs (n+1) 37 [.val (.int c),.val (.int b)]=some (.int (gr c b)):=by
 rw [af (d:=eK) rfl rfl]
 have h1:0<=c % 2305843009213693951:=Int.emod_nonneg _ (by decide)
 have h2:c % 2305843009213693951<2305843009213693951:=Int.emod_lt_of_pos _ (by decide)
 have h3:(-18446744073709551616<c % 2305843009213693951/\c % 2305843009213693951<18446744073709551616\/-18446744073709551616<b/\b<18446744073709551616):=.inl ⟨by omega,by omega⟩
 simp [eK,exs,ex,ev,evs,h3,gr]
theorem hX{α:Type}{g:α->PV}{body:PV->Rho->R}{I:Rho->Prop}{p:α->Bool}{r:α->PV}:∀{xs:List α}{ρ:Rho},I ρ ->
  (∀x∈xs,∀ρ,I ρ->(p x=true->body (g x) ρ=.ret (r x))/\(p x=false->∃ρ',I ρ'/\body (g x) ρ=.next ρ')) ->
  (∀x,xs.find? p=some x->aD body (xs.map g) ρ=.ret (r x))/\(xs.find? p=none->∃ρ',I ρ'/\aD body (xs.map g) ρ=.next ρ')
 | [],ρ,hI,_=>⟨λx h=>(by cases h),λ_=>⟨ρ,hI,rfl⟩⟩
 | x::xs,ρ,hI,h=>by
  obtain⟨h1,h2⟩:=h x (.head _) ρ hI
  rw [List.map_cons,aD]
  cases hp:p x with
  |true =>
   rw [h1 hp,List.find?_cons_of_pos hp]
   exact⟨λy e=>(by cases e;rfl),λe=>(by cases e)⟩
  |false =>
   obtain⟨ρ',hI',e⟩:=h2 hp
   rw [e,List.find?_cons_of_neg (by simp [hp])]
   exact hX (xs:=xs) hI' λy hy=>h y (.tail _ hy)
theorem cA{cal:Cal}{i:Nat}{k:Sk}{src:List ME}{body:List MS}{ρ:Rho}{xs:List PV}(h:(evs cal src ρ).bind (bo k)=some xs):ex cal (.for1 i k src body) ρ=(aD (λx ρ'=>exs cal body (put ρ' i (.val x))) xs (aX src ρ)).back src ρ:=by
 rw [ex,h]
theorem xC{cal:Cal}{is:List Nat}{k:Sk}{src:List ME}{body:List MS}{ρ:Rho}{xs:List PV}(h:(evs cal src ρ).bind (bo k)=some xs):ex cal (.forT is k src body) ρ=(aD (λx ρ'=>dH (fb is x ρ') λρ''=>exs cal body ρ'') xs (aX src ρ)).back src ρ:=by
 rw [ex,h]
theorem ah(cal:Cal)(m:MS)(ms:List MS)(ρ:Rho):exs cal (m::ms) ρ=(ex cal m ρ).andThen λρ'=>exs cal ms ρ':=by rw [exs]
theorem aJ{cal:Cal}{b:Blt}{e:ME}{ρ:Rho}{v:PV}(h:ev cal e ρ=some v):ev cal (.blt b [e]) ρ=av b [v]:=by
 rw [ev,evs,h,Option.bind_some,evs,Option.map_some,Option.bind_some]
theorem hZ{cal:Cal}{i:Nat}{e:ME}{ρ:Rho}{v:PV}(h:ev cal e ρ=some v):ex cal (.set i e) ρ=.next (put ρ i (.val v)):=by
 rw [ex,h];rfl
theorem kT{cal:Cal}{a b:ME}{ρ:Rho}{p q:Bool}(h:ev cal a ρ=some (.bl p))(h':p=true->ev cal b ρ=some (.bl q)):ev cal (.and a b) ρ=some (.bl (p&&q)):=by
 rw [ev,h]
 cases p with
 |false=>rfl
 |true=>simp [h' rfl]
theorem cN{cal:Cal}{e:ME}{ρ:Rho}{v:PV}(h:ev cal e ρ=some v):ex cal (.ret e) ρ=.ret v:=by
 rw [ex,h];rfl
theorem aA{cal:Cal}{f:Nat}{es:List ME}{ρ:Rho}{vs:List MV}{v:PV}(h:evA cal es ρ=some vs)(h':cal f vs=some v):ev cal (.call f es) ρ=some v:=by
 rw [ev,h,Option.bind_some,h']
theorem mD{cal:Cal}{i:Nat}{e:ME}{ρ:Rho}{xs:List PV}(h:ev cal e ρ=some (.lst xs)):ex cal (.setOwn i e) ρ=.next (put ρ i (.own xs)):=by
 rw [ex,h];rfl
theorem dR{α:Type}{cal:Cal}{k:Sk}{src:List ME}{js:List Nat}{elt:ME}{ρ:Rho}{vs:List PV}{xs:List α}{g h:α->PV}(h1:evs cal src ρ=some vs)(h2:bo k vs=some (xs.map g))(hl:xs.length<=10000)
  (h3:∀x∈xs,ev cal elt (c8 js ρ (g x))=some (h x)):ev cal (.comp k src js (.cst (.bl true)) elt) ρ=some (.lst (xs.map h)):=by
 rw [ev,h1,Option.bind_some,h2,Option.bind_some,if_pos (by simpa using hl),kN (h:=h) (λx _=>by simp [ev]) h3]
 rfl
theorem dF(cal:Cal)(v:PV)(ρ:Rho):ev cal (.cst v) ρ=some v:=by rw [ev]
theorem dG{cal:Cal}{op:Op2}{a b:ME}{ρ:Rho}{x y:PV}(h:ev cal a ρ=some x)(h':ev cal b ρ=some y):ev cal (.bin op a b) ρ=fZ op x y:=by
 rw [ev,h,Option.bind_some,h',Option.bind_some]
theorem gu{cal:Cal}{op:Cp}{a b:ME}{ρ:Rho}{x y:PV}(h:ev cal a ρ=some x)(h':ev cal b ρ=some y):ev cal (.cmp op a b) ρ=(cD op x y).map .bl:=by
 rw [ev,h,Option.bind_some,h',Option.bind_some]
theorem ve{cal:Cal}{a:ME}{ρ:Rho}{x k j:Int}(h:ev cal a ρ=some (.int x))(hk:0<k):ev cal (.cmp .eq (.bin .mod a (.cst (.int k))) (.cst (.int j))) ρ=some (.bl (x % k == j)):=by
 rw [gu (dG h (dF _ _ _) |>.trans (by rw [jO,if_pos hk])) (dF _ _ _),Aa,xw]
 rfl
theorem jR{cal:Cal}{a:ME}{ρ:Rho}{x k:Int}(h:ev cal a ρ=some (.int x))(hk:0<k/\k<1073741824):ev cal (.bin .fdiv a (.cst (.int k))) ρ=some (.int (x / k)):=by
 rw [dG h (dF _ _ _),uW,if_pos hk]
theorem nA{cal:Cal}{a:ME}{ρ:Rho}{b:Bool}(h:ev cal a ρ=some (.bl b)):evB cal a ρ=some b:=by
 unfold evB
 rw [h]
 rfl
theorem xD{cal:Cal}{e:ME}{ρ:Rho}{v:PV}(hn:∀i,e≠.bor i)(h:ev cal e ρ=some v):evA cal [e] ρ=some [.val v]:=by
 rw [evA,h,Option.bind_some,evA]
 ·rfl
 ·exact λi z=>hn i z
theorem vf{cal:Cal}{f:Nat}{e:ME}{ρ:Rho}{v r:PV}(hn:∀i,e≠.bor i)(h:ev cal e ρ=some v)(h':cal f [.val v]=some r):ev cal (.call f [e]) ρ=some r:=aA (xD hn h) h'
theorem vg{cal:Cal}{a i:ME}{ρ:Rho}{x y:PV}(h:ev cal a ρ=some x)(h':ev cal i ρ=some y):ev cal (.idx a i) ρ=gQ x y:=by
 rw [ev,h,Option.bind_some,h',Option.bind_some]
theorem di{body:PV->Rho->R}{x:PV}{xs:List PV}{ρ ρ1:Rho}(h:body x ρ=.next ρ1):aD body (x::xs) ρ=aD body xs ρ1:=by rw [aD,h]
theorem kU{cal:Cal}{i:Nat}{e:ME}{ρ:Rho}{v:PV}{ms:List MS}{X:Option PV}(h:ev cal e ρ=some v)(k:bT (exs cal ms (put ρ i (.val v)))=X):bT (exs cal (.set i e::ms) ρ)=X:=by
 rw [ah,hZ h,ak,k]
theorem jf{cal:Cal}{m:MS}{ρ ρ':Rho}{ms:List MS}{X:Option PV}(h:ex cal m ρ=.next ρ')(k:bT (exs cal ms ρ')=X):bT (exs cal (m::ms) ρ)=X:=by
 rw [ah,h,ak,k]
theorem vh{cal:Cal}{e:ME}{ρ:Rho}{v:PV}{ms:List MS}(h:ev cal e ρ=some v):bT (exs cal (.ret e::ms) ρ)=some v:=by
 rw [ah,cN h];rfl
theorem kW{cal:Cal}{i:Nat}{e:ME}{ρ:Rho}{v:PV}{ms:List MS}{r:R}(h:ev cal e ρ=some v)(k:exs cal ms (put ρ i (.val v))=r):exs cal (.set i e::ms) ρ=r:=by
 rw [ah,hZ h,ak,k]
theorem Ah{cal:Cal}{m:MS}{ρ ρ':Rho}{ms:List MS}{r:R}(h:ex cal m ρ=.next ρ')(k:exs cal ms ρ'=r):exs cal (m::ms) ρ=r:=by
 rw [ah,h,ak,k]
theorem kX{cal:Cal}{m:MS}{ρ ρ':Rho}(h:ex cal m ρ=.next ρ'):exs cal [m] ρ=.next ρ':=by
 rw [ah,h,ak,exs]
theorem vi{body:PV->Rho->R}{x y:PV}{ρ ρ1 ρ2:Rho}(h1:body x ρ=.next ρ1)(h2:body y ρ1=.next ρ2):aD body [x,y] ρ=.next ρ2:=by
 rw [di h1,di h2,aD]
theorem kY{cal:Cal}{i:Nat}{es:List ME}{body:List MS}{ρ ρ':Rho}{xs:List PV}(h:ev cal (.lst es) ρ=some (.lst xs))(k:aD (λx ρ'=>exs cal body (put ρ' i (.val x))) xs ρ=.next ρ'):ex cal (.for1 i .seq [.lst es] body) ρ=.next ρ':=by
 rw [cA (xs:=xs) (by rw [evs,h];rfl),show aX [.lst es] ρ=ρ from rfl,k]
 rfl
theorem h_{cal:Cal}{c:ME}{a b:List MS}{ρ:Rho}{p:Bool}(h:ev cal c ρ=some (.bl p)):ex cal (.ite c a b) ρ=if p=true then exs cal a ρ else exs cal b ρ:=by
 rw [ex,nA h,de]
theorem vk(n:Nat)(ns:List Int)(k b:Int)(hk:0<=k)(r:Rho):ev (ab defs (n+2)) (.call 37 [(.call 36 [(.bor 0),(.cst (.int k))]),(.cst (.int b))]) (some (.brw (ns.map .int))::r)=some (.int (gr (cellOf ns k) b)):=by
 have e0:ev (ab defs (n+2)) (.call 36 [(.bor 0),(.cst (.int k))]) (some (.brw (ns.map .int))::r)=some (.int (cellOf ns k)):=aA (vs:=[.brw (ns.map .int),.val (.int k)]) (by simp [evA,ev]) (vd (n+1) (.brw (ns.map .int)) ns k rfl hk)
 exact aA (vs:=[.val (.int (cellOf ns k)),.val (.int b)]) (by simp only [evA];rw [e0];simp [ev]) (nz (n+1) (cellOf ns k) b)
noncomputable def bJ(many:Int):Nat->Int->List Int->List Int
 |0,_,acc=>acc
 |n+1,left,acc=>bJ many n (left / many) (if left % many∈acc then acc else acc ++ [left % many])
theorem ib(many:Int)(hm:0<many):∀(n:Nat) (left:Int) (acc:List Int),acc.Nodup->(∀h∈acc,0<=h/\h<many)->(bJ many n left acc).Nodup/\(∀h∈bJ many n left acc,0<=h/\h<many)/\(bJ many n left acc).length<=acc.length+n
 |0,_,acc,h1,h2=>⟨h1,h2,by simp [bJ]⟩
 | n + 1,left,acc,h1,h2=>by
  rw [bJ]
  by_cases q:left % many∈acc
  ·rw [if_pos q]
   obtain⟨a,b,c⟩:=ib many hm n (left / many) acc h1 h2
   exact⟨a,b,by omega⟩
  ·rw [if_neg q]
   obtain⟨a,b,c⟩:=ib many hm n (left / many) (acc ++ [left % many]) (List.nodup_append.mpr ⟨h1,by simp,λx hx y hy=>by rw [List.mem_singleton.mp hy];exact λz=>q (z ▸ hx)⟩) (λh hh=>by
    rcases List.mem_append.mp hh with hh|hh
    ·exact h2 h hh
    ·rw [List.mem_singleton.mp hh];exact⟨Int.emod_nonneg _ (by omega),Int.emod_lt_of_pos _ hm⟩)
   exact⟨a,b,by rw [List.length_append,List.length_singleton]at c;omega⟩
theorem kZ(cal:Cal)(a0 a1 a2 a3 a5:Option MV)(mn:Int)(hmn:a1=some (.val (.int mn)))(h1:0<mn)(h2:mn<1073741824):∀(xs:List PV) (left:Int) (acc:List Int) (kk:Option MV),acc.length+xs.length<=10000 ->
  ∃left' kk',aD (λx ρ'=>exs cal cI (put ρ' 7 (.val x))) xs [a0,a1,a2,a3,some (.val (.int left)),a5,some (.own (acc.map .int)),kk]=.next [a0,a1,a2,a3,some (.val (.int left')),a5,some (.own ((bJ mn xs.length left acc).map .int)),kk']
 | [],left,acc,kk,_=>⟨left,kk,rfl⟩
 | x::xs,left,acc,kk,hl=>by
  simp only [List.length_cons]at hl
  rw [aD]
  subst hmn
  have e:exs cal cI (put [a0,some (.val (.int mn)),a2,a3,some (.val (.int left)),a5,some (.own (acc.map .int)),kk] 7 (.val x)) =
    .next [a0,some (.val (.int mn)),a2,a3,some (.val (.int (left / mn))),a5,some (.own ((if left % mn∈acc then acc else acc ++ [left % mn]).map .int)),some (.val x)]:=by
   by_cases q:left % mn∈acc
   ·simp [cI,exs,ex,ev,evs,evB,h1,h2,bP,q]
   ·have hlt:acc.length<10000:=by omega
    simp [cI,exs,ex,ev,evs,evB,h1,h2,bP,q,hlt]
  rw [e]
  obtain⟨l',k',e2⟩:=kZ cal a0 (some (.val (.int mn))) a2 a3 a5 mn rfl h1 h2 xs (left / mn) (if left % mn∈acc then acc else acc ++ [left % mn]) (some (.val x)) (by
   split
   ·omega
   ·rw [List.length_append,List.length_singleton];omega)
  exact⟨l',k',e2⟩
theorem k4(many:Int):∀(n:Nat) (left:Int) (acc:List Int),(acc≠[]\/0<n)->bJ many n left acc≠[]
 |0,_,acc,h=>by
  rw [bJ]
  exact h.elim id λz=>absurd z (Nat.lt_irrefl 0)
 | n + 1,left,acc,_=>by
  rw [bJ]
  refine k4 many n _ _ (.inl ?_)
  split
  ·rename_i h
   exact λz=>by rw [z]at h;cases h
  ·simp
theorem vm(n:Nat)(c many least most:Int)(h1:0<many)(h2:many<=60)(h3:0<=least)(h4:least<=most)(h5:most<=7):∃s,(c9 s/\s.length<=7/\(∀x∈s,x<many)/\(1<=least->s≠[]))/\ab defs (n+2) 38 [.val (.int c),.val (.int many),.val (.int least),.val (.int most)]=some (ofS s):=by
 rw [af (d:=gm) rfl rfl]
 have em:=nz n c 1181783497276652981
 generalize gr c 1181783497276652981=l at em
 have hp:0<most-least+1:=by omega
 have hp2:most-least+1<1073741824:=by omega
 obtain⟨size,hs⟩:∃x,x=least+l % (most-least+1):=⟨_,rfl⟩
 have q0:0<=l % (most-least+1):=Int.emod_nonneg _ (by omega)
 have q1:l % (most-least+1)<most-least+1:=Int.emod_lt_of_pos _ hp
 have s0:0<=size:=by omega
 have s1:size<=7:=by omega
 obtain⟨g1,g2,g3⟩:=ib many h1 size.toNat (l / (most-least+1)) [] List.nodup_nil (λ_ h=>by cases h)
 have g3:(bJ many size.toNat (l / (most-least+1)) []).length<=7:=by simp only [List.length_nil]at g3;omega
 refine⟨sortI (bJ many size.toNat (l / (most-least+1)) []),⟨⟨kQ g1,λh hh=>by have:=g2 h (gD.mp hh);omega⟩,by rw [sortI_len];exact g3,λh hh=>(g2 h (gD.mp hh)).2,λhl z=>?_⟩,?_⟩
 ·obtain⟨k,hk⟩:∃k,size.toNat=k+1:=⟨size.toNat-1,by omega⟩
  have:=k4 many (k+1) (l / (most-least+1)) [] (.inr (by omega))
  rw [<- hk]at this
  have z2:(bJ many size.toNat (l / (most-least+1)) []).length=0:=by rw [<- sortI_len,z];rfl
  exact this (List.length_eq_zero_iff.mp z2)
 show bT (exs (ab defs (n+1)) (_::_::_::_::_::[_]) [some (.val (.int c)),some (.val (.int many)),some (.val (.int least)),some (.val (.int most)),none,none,none,none])=_
 simp only [ah]
 rw [hZ (aA (vs:=[.val (.int c),.val (.int 1181783497276652981)]) (by simp [evA,ev]) em),ak]
 simp only [aT,aU]
 rw [hZ (v:=.int size) (by simp [ev,hp,hs]),ak]
 simp only [aT,aU]
 rw [hZ (v:=.int (l / (most-least+1))) (by simp [ev,hp,hp2]),ak]
 simp only [aT,aU]
 rw [mD (xs:=[]) (by simp [ev,evs]),ak]
 simp only [aT,aU]
 obtain⟨l',k',e⟩:=kZ (ab defs (n+1)) (some (.val (.int c))) (some (.val (.int many))) (some (.val (.int least))) (some (.val (.int most))) (some (.val (.int size))) many rfl h1 (by omega) ((List.range size.toNat).map λ(k:Nat)=>PV.int (k:Int)) (l / (most-least+1)) [] none (by simp;omega)
 rw [List.length_map,List.length_range,List.map_nil]at e
 have hsrc:(evs (ab defs (n+1)) [.bor 5] [some (.val (.int c)),some (.val (.int many)),some (.val (.int least)),some (.val (.int most)),some (.val (.int (l / (most-least+1)))),some (.val (.int size)),some (.own []),none]).bind (bo .rng)=some ((List.range size.toNat).map λ(k:Nat)=>PV.int (k:Int)):=by
  rw [show evs (ab defs (n+1)) [.bor 5] [some (.val (.int c)),some (.val (.int many)),some (.val (.int least)),some (.val (.int most)),some (.val (.int (l / (most-least+1)))),some (.val (.int size)),some (.own []),none]=some [.int size] from by simp [evs,ev],Option.bind_some,dg s0 (by omega)]
 rw [cA hsrc,show aX [.bor 5] [some (.val (.int c)),some (.val (.int many)),some (.val (.int least)),some (.val (.int most)),some (.val (.int (l / (most-least+1)))),some (.val (.int size)),some (.own []),none]=[some (.val (.int c)),some (.val (.int many)),some (.val (.int least)),some (.val (.int most)),some (.val (.int (l / (most-least+1)))),some (.val (.int size)),some (.own []),none] from rfl,e,cz,ak]
 rw [cN (v:=ofS (sortI (bJ many size.toNat (l / (most-least+1)) [])))]
 ·rfl
 ·refine(aJ (v:=ofL (sortI (bJ many size.toNat (l / (most-least+1)) []))) ?_).trans rfl
  rw [aJ (v:=ofL (bJ many size.toNat (l / (most-least+1)) [])) rfl,fF,jP,Option.bind_some,i_ (by omega)]
theorem qS(n:Nat)(c many least most:Int)(h1:0<many)(h2:many<=60)(h3:0<=least)(h4:least<=most)(h5:most<=7):∃s,(c9 s/\s.length<=7)/\ab defs (n+2) 38 [.val (.int c),.val (.int many),.val (.int least),.val (.int most)]=some (ofS s):=by
 obtain⟨s,⟨g,hl,_⟩,e⟩:=vm n c many least most h1 h2 h3 h4 h5
 exact⟨s,⟨g,hl⟩,e⟩
theorem nB{m:Nat}:∀{R:List (List Int)},(∀t∈R,t.length<=m)->R.flatten.length<=R.length*m
 | [],_=>by simp
 |t::R,h=>by
  have h1:=h t (.head _)
  have h2:=nB (R:=R) λt ht=>h t (.tail _ ht)
  rw [List.flatten_cons,List.length_append,List.length_cons,Nat.succ_mul]
  omega
theorem vn(n:Nat)(cells:List Int)(many least most:Int)(h1:0<many)(h2:many<=60)(h3:0<=least)(h4:least<=most)(h5:most<=7)(hl:cells.length<=60):∃R:List (List Int),bf R/\R.length=cells.length/\(R.flatten.length<=cells.length*7/\∀t∈R,t.length<=7) /\
  ∀(src:ME) (js:List Nat) (es:List ME) (ρ:Rho),evs (ab defs (n+3)) [src] ρ=some [ofL cells]->(∀c:Int,evA (ab defs (n+3)) es (c8 js ρ (.int c))=some [.val (.int c),.val (.int many),.val (.int least),.val (.int most)]) ->
   ev (ab defs (n+3)) (.blt .tupleOf [(.blt .sorted [(.comp .seq [src] js (.cst (.bl true)) (.call 38 es))])]) ρ=some (ofR R):=by
 obtain⟨f,hfs⟩:∃f:Int->List Int,∀c,(c9 (f c)/\(f c).length<=7)/\ab defs (n+3) 38 [.val (.int c),.val (.int many),.val (.int least),.val (.int most)]=some (ofS (f c)):=⟨λc=>Classical.choose (qS (n+1) c many least most h1 h2 h3 h4 h5),λc=>Classical.choose_spec (qS (n+1) c many least most h1 h2 h3 h4 h5)⟩
 have gS:∀t∈sortT (cells.map f),c9 t/\t.length<=7:=λt ht=>by
  obtain⟨c,_,rfl⟩:=List.mem_map.mp (ja.mp ht)
  exact(hfs c).1
 have hL:(sortT (cells.map f)).length=cells.length:=by rw [sortT_len,List.length_map]
 refine⟨sortT (cells.map f),⟨λt ht=>(gS t ht).1,sortT_rises _,by omega⟩,hL,?_,λsrc js es ρ hs hj=>?_⟩
 ·have:=nB (R:=sortT (cells.map f)) (m:=7) λt ht=>(gS t ht).2
  rw [hL]at this
  exact⟨this,λt ht=>(gS t ht).2⟩
 ·have c6:ev (ab defs (n+3)) (.comp .seq [src] js (.cst (.bl true)) (.call 38 es)) ρ=some (.lst ((cells.map f).map ofS)):=by
   rw [List.map_map]
   refine dR (vs:=[ofL cells]) (g:=PV.int) (h:=ofS ∘ f) hs rfl (by omega) λc _=>?_
   exact aA (vs:=[.val (.int c),.val (.int many),.val (.int least),.val (.int most)]) (hj c) (hfs c).2
  refine(aJ (v:=.lst ((sortT (cells.map f)).map ofS)) ?_).trans rfl
  rw [aJ c6,fF,jP,Option.bind_some,mw (by rw [List.length_map];omega)]
noncomputable def fq(h:Int)(R:List (List Int)):List (List Int):=R.filter λts=>!decide (h∈ts)
theorem mE{h:Int}{R:List (List Int)}(g:bf R):bf (fq h R):=⟨λts hm=>g.1 ts (List.mem_filter.mp hm).1,g.2.1.filter _,Nat.le_trans (List.length_filter_le _ _) g.2.2⟩
theorem nD(n:Nat)(R:List (List Int))(h:Int)(hl:R.length<=10000):ab defs (n+1) 39 [.val (ofR R),.val (.int h)]=some (ofR (fq h R)):=by
 rw [af (d:=dQ) rfl rfl]
 simp [dQ,exs,ex,ev,evs,hl]
 rw [fE (p:=λts=>!decide (h∈ts)) (h:=ofS)]
 ·simp [fq]
 ·intro ts _
  simp [ev,c8,bP]
 ·intro ts _ _
  simp [ev,c8]
noncomputable def wgt(s:List Int):Int:=2 ^ (60-s.length)
theorem oX:∀n:Nat,n<=60->(1152921504606846976:Int) / 2 ^ n=2 ^ (60-n):=by decide +kernel
theorem qT(n:Nat)(s:List Int)(hl:s.length<=60):ab defs (n+1) 19 [.val (ofS s)]=some (.int (wgt s)):=by
 rw [af (d:=cU) rfl rfl]
 have e:fZ .shr (.int 1152921504606846976) (.int (s.length:Int))=some (.int (wgt s)):=by
  show(if 0<=(s.length:Int) then some (PV.int (1152921504606846976 / 2 ^ ((s.length:Int)).toNat)) else none)=_
  rw [if_pos (by omega),Int.toNat_natCast,oX _ hl]
  rfl
 simp [cU,exs,ex,ev,evs,e]
noncomputable def eB{α:Type} [DecidableEq α] (d:List (α×Sc)) (f:α->Int):Prop:=(∀k,bX d k=none->f k=0)/\∀k s,bX d k=some s->s=.int (f k)
noncomputable def eC{α:Type}(d:List (α×Sc))(P:α->Prop):Prop:=(d.map (·.1)).Nodup/\∀k,k∈d.map (·.1) ↔ P k
section
variable{α:Type} [DecidableEq α]
theorem vo(d:List (α×Sc))(k:α)(v:Sc):(bS d k v).map (·.1)=if k∈d.map (·.1) then d.map (·.1) else d.map (·.1) ++ [k]:=by
 have e:(d.any λp=>decide (p.1=k))=decide (k∈d.map (·.1)):=by
  rw [Bool.eq_iff_iff,List.any_eq_true,decide_eq_true_iff,List.mem_map]
  exact⟨λ⟨p,hp,z⟩=>⟨p,hp,of_decide_eq_true z⟩,λ⟨p,hp,z⟩=>⟨p,hp,decide_eq_true z⟩⟩
 unfold bS
 rw [e]
 by_cases h:k∈d.map (·.1)
 ·rw [if_pos (decide_eq_true h),if_pos h,List.map_map]
  refine List.map_congr_left λp _=>?_
  show(if p.1=k then (p.1,v) else p).1=p.1
  split<;>rfl
 ·rw [if_neg (by simpa using h),if_neg h,List.map_append]
  rfl
theorem qU(d:List (α×Sc))(k j:α)(v:Sc):bX (bS d k v) j=if j=k then some v else bX d j:=by
 have gen:∀ (d:List (α × Sc)),(d.any λp=>decide (p.1=k))=true->bX (d.map λp=>if p.1=k then (p.1,v) else p) j=if j=k then some v else bX d j:=by
  intro d
  induction d with
  |nil=>intro h;cases h
  | cons p d ih =>
   intro h
   by_cases hp:p.1=k
   ·by_cases hj:j=k
    ·subst hj
     simp [bX,hp]
    ·rw [if_neg hj]
     have:¬ p.1=j:=λz=>hj (by rw [<- z,hp])
     unfold bX
     rw [List.map_cons,if_pos hp,List.find?_cons_of_neg (by simpa using this),List.find?_cons_of_neg (by simpa using this)]
     by_cases ha:(d.any λp=>decide (p.1=k))=true
     ·have:=ih ha
      rw [if_neg hj]at this
      exact this
     ·have e:(d.map λp=>if p.1=k then (p.1,v) else p)=d:=by
       conv=>rhs;rw [<- List.map_id d]
       refine List.map_congr_left λq hq=>?_
       rw [if_neg λz=>ha (List.any_eq_true.mpr ⟨q,hq,decide_eq_true z⟩)]
       rfl
      rw [e]
   ·have ha:(d.any λp=>decide (p.1=k))=true:=by simpa [hp] using h
    have ih:=ih ha
    unfold bX at ih ⊢
    rw [List.map_cons,if_neg hp]
    by_cases hj:p.1=j
    ·have:¬ j=k:=λz=>hp (hj.trans z)
     rw [List.find?_cons_of_pos (by simpa using hj),List.find?_cons_of_pos (by simpa using hj),if_neg this]
    ·rw [List.find?_cons_of_neg (by simpa using hj),List.find?_cons_of_neg (by simpa using hj)]
     exact ih
 unfold bS
 by_cases h:(d.any λp=>decide (p.1=k))=true
 ·rw [if_pos h]
  exact gen d h
 ·rw [if_neg h]
  have no:∀p∈d,¬ p.1=k:=λp hp z=>h (List.any_eq_true.mpr ⟨p,hp,decide_eq_true z⟩)
  unfold bX
  rw [List.find?_append]
  by_cases hj:j=k
  ·subst hj
   have:d.find? (λp=>decide (p.1=j))=none:=List.find?_eq_none.mpr λp hp=>by simpa using no p hp
   rw [this,if_pos rfl]
   simp
  ·rw [if_neg hj]
   have:¬ k=j:=λz=>hj z.symm
   cases d.find? (λp=>decide (p.1=j)) with
   |some p=>rfl
   |none=>simp [this]
theorem put_len(d:List (α×Sc))(k:α)(v:Sc):(bS d k v).length<=d.length+1:=by
 unfold bS
 split
 ·rw [List.length_map];omega
 ·rw [List.length_append,List.length_singleton];exact Nat.le_refl _
theorem k5{d:List (α×Sc)}{f:α->Int}(h:eB d f)(k:α):((bX d k).getD (.int 0)).pv=.int (f k):=by
 cases e:bX d k with
 |none=>rw [h.1 k e];rfl
 |some s=>rw [h.2 k s e];rfl
theorem oY{d:List (α×Sc)}{f:α->Int}(h:eB d f)(k:α)(w:Int):eB (bS d k (.int (f k+w))) (λj=>if j=k then f j+w else f j):=by
 refine⟨λj e=>?_,λj s e=>?_⟩
 ·rw [qU]at e
  by_cases hj:j=k
  ·rw [if_pos hj]at e;cases e
  ·rw [if_neg hj]at e
   dsimp only
   rw [if_neg hj]
   exact h.1 j e
 ·rw [qU]at e
  by_cases hj:j=k
  ·subst hj
   rw [if_pos rfl]at e
   cases e
   dsimp only
   rw [if_pos rfl]
  ·rw [if_neg hj]at e
   dsimp only
   rw [if_neg hj]
   exact h.2 j s e
theorem k6:eB ([]:List (α×Sc)) λ_=>0:=⟨λ_ _=>rfl,λk s z=>by cases z⟩
theorem k7:eC ([]:List (α×Sc)) λ_=>False:=⟨List.nodup_nil,λk=>by simp⟩
theorem oZ{d:List (α×Sc)}{P:α->Prop}(h:eC d P)(k:α)(v:Sc):eC (bS d k v) (λj=>P j\/j=k):=by
 unfold eC
 rw [vo]
 by_cases hk:k∈d.map (·.1)
 ·rw [if_pos hk]
  refine⟨h.1,λj=>?_⟩
  rw [h.2 j]
  refine⟨.inl,λz=>z.elim id λe=>?_⟩
  rw [e]
  exact(h.2 k).mp hk
 ·rw [if_neg hk]
  refine⟨List.nodup_append.mpr ⟨h.1,by simp,λa ha b hb=>by rw [List.mem_singleton.mp hb];exact λe=>hk (e ▸ ha)⟩,λj=>?_⟩
  rw [List.mem_append,List.mem_singleton,h.2 j]
theorem Ai{g:α->PV}{body:PV->Rho->R}{I:List (α×Sc)->Rho->Prop}{w:Int}:∀{xs:List α},(∀x∈xs,∀d ρ (f:α->Int),I d ρ->eB d f->d.length<9500->∃ρ',I (bS d x (.int (f x+w))) ρ'/\body (g x) ρ=.next ρ') ->
  xs.Nodup->∀{d:List (α×Sc)}{ρ:Rho}{f:α->Int}{P:α->Prop},I d ρ->eB d f->eC d P->d.length+xs.length<=9000 ->
  ∃d' ρ',aD body (xs.map g) ρ=.next ρ'/\I d' ρ'/\eB d' (λj=>f j+if j∈xs then w else 0)/\eC d' (λk=>P k\/k∈xs)/\d'.length<=d.length+xs.length
 | [],_,_,d,ρ,f,P,hI,hd,hp,_=>⟨d,ρ,rfl,hI,by simpa using hd,by simpa using hp,by simp⟩
 | x::xs,hb,hn,d,ρ,f,P,hI,hd,hp,hl=>by
  rw [List.length_cons]at hl
  obtain⟨hx,hn⟩:=List.nodup_cons.mp hn
  obtain⟨ρ1,hI1,e1⟩:=hb x (.head _) d ρ f hI hd (by omega)
  have hl1:=put_len d x (.int (f x+w))
  obtain⟨d',ρ',e2,hI2,hd2,hp2,hl2⟩:=Ai (xs:=xs) (λy hy=>hb y (.tail _ hy)) hn hI1 (oY hd x w) (oZ hp x _) (by omega)
  rw [List.map_cons,aD,e1]
  refine⟨d',ρ',e2,hI2,?_,?_,by rw [List.length_cons];omega⟩
  ·have ef:(λj=>(if j=x then f j+w else f j)+if j∈xs then w else 0)=λj=>f j+if j∈x::xs then w else 0:=by
    funext j
    by_cases hj:j=x
    ·subst hj
     simp [hx]
    ·simp [hj]
   rw [<- ef]
   exact hd2
  ·refine⟨hp2.1,λk=>?_⟩
   rw [hp2.2 k]
   simp only [List.mem_cons,or_assoc]
theorem B6{β:Type}{ge:β->PV}{m:β->List α}{w:β->Int}{body:PV->Rho->R}{I:List (α×Sc)->Rho->Prop}{top:Nat}:∀{R:List β},(∀s∈R,∀d ρ (f:α->Int) (P:α->Prop),I d ρ->eB d f->eC d P->d.length<=8000 ->
   ∃d' ρ',body (ge s) ρ=.next ρ'/\I d' ρ'/\eB d' (λj=>f j+if j∈m s then w s else 0)/\eC d' (λk=>P k\/k∈m s)/\d'.length<=d.length+top) ->
  ∀{d:List (α×Sc)}{ρ:Rho}{f:α->Int}{P:α->Prop},I d ρ->eB d f->eC d P->d.length+top*R.length<=8000 ->
  ∃d' ρ',aD body (R.map ge) ρ=.next ρ'/\I d' ρ'/\eB d' (λj=>f j+(R.map λs=>if j∈m s then w s else 0).sum)/\eC d' (λk=>P k\/∃s∈R,k∈m s)/\d'.length<=d.length+top*R.length
 | [],_,d,ρ,f,P,hI,hd,hp,_=>⟨d,ρ,rfl,hI,by simpa using hd,by simpa using hp,by simp⟩
 | s::R,hb,d,ρ,f,P,hI,hd,hp,hl=>by
  rw [List.length_cons,Nat.mul_succ]at hl
  obtain⟨d1,ρ1,e1,hI1,hd1,hp1,hl1⟩:=hb s (.head _) d ρ f P hI hd hp (by omega)
  obtain⟨d',ρ',e2,hI2,hd2,hp2,hl2⟩:=B6 (R:=R) (λy hy=>hb y (.tail _ hy)) hI1 hd1 hp1 (by omega)
  rw [List.map_cons,aD,e1]
  refine⟨d',ρ',e2,hI2,?_,⟨hp2.1,λk=>?_⟩,by rw [List.length_cons,Nat.mul_succ];omega⟩
  ·have ef:(λj=>(f j+if j∈m s then w s else 0)+(R.map λs=>if j∈m s then w s else 0).sum)=λj=>f j+((s::R).map λs=>if j∈m s then w s else 0).sum:=by
    funext j
    simp only [List.map_cons,List.sum_cons]
    omega
   rw [<- ef]
   exact hd2
  ·rw [hp2.2 k]
   simp only [List.mem_cons,exists_eq_or_imp,or_assoc]
end
noncomputable def nE(R:List (List Int))(h:Int):Int:=(R.map λs=>if h∈s then wgt s else 0).sum
theorem o3(n:Nat)(R:List (List Int))(g:bf R):∃d,ab defs (n+2) 21 [.val (ofR R)]=some (.dI (.k d))/\eB d (nE R)/\eC d (λk=>∃s∈R,k∈s)/\d.length<=3600:=by
 have hl:=g.2.2
 obtain⟨d,ρ',e,⟨x,y,rfl⟩,hd,hp,hln⟩:=B6 (R:=R) (ge:=ofS) (m:=id) (w:=wgt) (top:=60) (body:=λv ρ'=>exs (ab defs (n+1)) mC (put ρ' 2 (.val v))) (I:=λd ρ=>∃x y,ρ=[some (.val (ofR R)),some (.ownD (.k d)),x,y]) (d:=[]) (ρ:=[some (.val (ofR R)),some (.ownD (.k [])),none,none]) (f:=λ_=>0) (P:=λ_=>False)
  (by
   rintro s hs d ρ f P ⟨x,y,rfl⟩ hd hp hl
   have gs:=g.1 s hs
   have hls:=aW gs
   have ew:=qT n s hls
   obtain⟨d',ρ',e,⟨y',rfl⟩,r⟩:=Ai (xs:=s) (g:=.int) (w:=wgt s) (body:=λv ρ'=>exs (ab defs (n+1)) mB (put ρ' 3 (.val v))) (I:=λd ρ=>∃y,ρ=[some (.val (ofR R)),some (.ownD (.k d)),some (.val (ofS s)),y]) (d:=d) (ρ:=[some (.val (ofR R)),some (.ownD (.k d)),some (.val (ofS s)),y])
    (by
     rintro z _ d ρ f ⟨y,rfl⟩ hd hl
     have eg:ev (ab defs (n+1)) (.dget (.bor 1) (.bor 3) (.cst (.int 0))) [some (.val (ofR R)),some (.ownD (.k d)),some (.val (ofS s)),some (.val (.int z))]=some (.int (f z)):=by
      rw [<- k5 hd z]
      simp [ev]
     have es:ev (ab defs (n+1)) (.bin .add (.dget (.bor 1) (.bor 3) (.cst (.int 0))) (.call 19 [(.bor 2)])) [some (.val (ofR R)),some (.ownD (.k d)),some (.val (ofS s)),some (.val (.int z))]=some (.int (f z+wgt s)):=by
      rw [ev,eg,aA (vs:=[.val (ofS s)]) (by simp [evA]) ew]
      rfl
     have hlt:d.length<10000:=by omega
     refine⟨_,⟨some (.val (.int z)),rfl⟩,?_⟩
     show exs (ab defs (n+1)) [_] [some (.val (ofR R)),some (.ownD (.k d)),some (.val (ofS s)),some (.val (.int z))]=_
     rw [ah,ex,es]
     simp [ev,hlt,exs])
    (iI gs.1) ⟨y,rfl⟩ hd hp (by omega)
   refine⟨d',_,?_,⟨some (.val (ofS s)),y',rfl⟩,r.1,r.2.1,by have:=r.2.2;omega⟩
   have hsrc:(evs (ab defs (n+1)) [.bor 2] [some (.val (ofR R)),some (.ownD (.k d)),some (.val (ofS s)),y]).bind (bo .seq)=some (s.map .int):=by simp [evs,ev]
   show exs (ab defs (n+1)) [_] [some (.val (ofR R)),some (.ownD (.k d)),some (.val (ofS s)),y]=_
   rw [ah,cA hsrc,show aX [.bor 2] [some (.val (ofR R)),some (.ownD (.k d)),some (.val (ofS s)),y]=[some (.val (ofR R)),some (.ownD (.k d)),some (.val (ofS s)),y] from rfl,e,cz,ak]
   simp [exs,aE])
  ⟨none,none,rfl⟩ k6 k7 (by simp;omega)
 refine⟨d,?_,?_,?_,by simp at hln;omega⟩
 ·rw [af (d:=ny) rfl rfl]
  have hsrc:(evs (ab defs (n+1)) [.bor 0] [some (.val (ofR R)),some (.ownD (.k [])),none,none]).bind (bo .seq)=some (R.map ofS):=by simp [evs,ev]
  show bT (exs (ab defs (n+1)) (_::_::[_]) [some (.val (ofR R)),none,none,none])=_
  simp only [ah]
  rw [show ex (ab defs (n+1)) (.newD false 1) [some (.val (ofR R)),none,none,none]=.next [some (.val (ofR R)),some (.ownD (.k [])),none,none] from by rw [ex];rfl,ak,cA hsrc,show aX [.bor 0] [some (.val (ofR R)),some (.ownD (.k [])),none,none]=[some (.val (ofR R)),some (.ownD (.k [])),none,none] from rfl,e,cz,ak]
  simp [exs,ex,aE]
 ·have ef:(λj=>(0:Int)+(R.map λs=>if j∈id s then wgt s else 0).sum)=nE R:=by funext j;rw [Int.zero_add];rfl
  rw [<- ef]
  exact hd
 ·refine⟨hp.1,λk=>?_⟩
  rw [hp.2 k]
  simp
theorem pS{α:Type} [DecidableEq α] {d:List (α×Sc)}{f:α->Int}{P:α->Prop} (hd:eB d f) (hp:eC d P):∃M ns,(d.map (·.2)).map Sc.pv=ns.map .int/\ns.length=d.length/\t6 (0::ns)=some M/\0<=M/\(M=0\/∃k,P k/\f k=M)/\∀k,P k->f k<=M:=by
 have at':∀ p ∈ d,p.2=.int (f p.1):=λp hpd=>by
  have e:bX d p.1=some p.2:=by
   unfold bX
   have gen:∀(l:List (α×Sc)),(l.map (·.1)).Nodup->p∈l->l.find? (λq=>decide (q.1=p.1))=some p:=by
    intro l
    induction l with
    |nil=>intro _ h;cases h
    | cons q l ih =>
     intro hn h
     rw [List.map_cons,List.nodup_cons]at hn
     rcases List.mem_cons.mp h with rfl|h
     ·exact List.find?_cons_of_pos (decide_eq_true rfl)
     ·rw [List.find?_cons_of_neg (by
       simp only [decide_eq_true_iff]
       intro e
       exact hn.1 (List.mem_map.mpr ⟨p,h,e.symm⟩))]
      exact ih hn.2 h
   rw [gen d hp.1 hpd]
   rfl
  exact hd.2 p.1 p.2 e
 have hm:t6 (0::d.map λp=>f p.1)=some ((d.map λp=>f p.1).foldl (λa b=>if a<b then b else a) 0):=rfl
 obtain⟨h1,h2⟩:=mi hm
 refine⟨_,d.map λp=>f p.1,?_,by simp,hm,h2 0 (.head _),?_,λk hk=>?_⟩
 ·rw [List.map_map,List.map_map]
  refine List.map_congr_left λp hpd=>?_
  show(p.2).pv=_
  rw [at' p hpd]
  rfl
 ·rcases List.mem_cons.mp h1 with h|h
  ·exact .inl h
  ·obtain⟨p,hpd,e⟩:=List.mem_map.mp h
   exact .inr ⟨p.1,(hp.2 p.1).mp (List.mem_map.mpr ⟨p,hpd,rfl⟩),e⟩
 ·obtain⟨p,hpd,rfl⟩:=List.mem_map.mp ((hp.2 k).mpr hk)
  exact h2 _ (.tail _ (List.mem_map.mpr ⟨p,hpd,rfl⟩))
noncomputable def Top(R:List (List Int))(M:Int):Prop:=0<=M/\(M=0\/∃k,(∃s∈R,k∈s)/\nE R k=M)/\∀k,(∃s∈R,k∈s)->nE R k<=M
theorem k8(n:Nat)(R:List (List Int))(g:bf R):∃M,ab defs (n+3) 22 [.val (ofR R)]=some (.int M)/\Top R M:=by
 obtain⟨d,e,hd,hp,hld⟩:=o3 n R g
 obtain⟨M,ns,e1,hln,e2,h0,h1,h2⟩:=pS hd hp
 refine⟨M,?_,h0,h1,h2⟩
 rw [af (d:=dE) rfl rfl]
 have ev1:ev (ab defs (n+2)) (.blt .valuesOf [(.call 21 [(.bor 0)])]) [some (.val (ofR R))]=some (.lst (ns.map .int)):=by
  rw [aJ (aA (vs:=[.val (ofR R)]) (by simp [evA]) e),g7,if_pos (by unfold gP dSc;rw [List.length_map,List.length_map];omega)]
  show some (PV.lst ((d.map (·.2)).map Sc.pv))=_
  rw [e1]
 have ev2:ev (ab defs (n+2)) (.bin .add (.lst [(.cst (.int 0))]) (.blt .valuesOf [(.call 21 [(.bor 0)])])) [some (.val (ofR R))]=some (.lst ((0::ns).map .int)):=by
  rw [ev,ev1]
  simp [ev,evs]
  omega
 show bT (exs (ab defs (n+2)) [_] [some (.val (ofR R))])=_
 rw [ah,cN (v:=.int M)]
 ·rfl
 ·rw [aJ ev2,kO,bu,Option.bind_some,e2]
  rfl
theorem vp{R:List (List Int)}{M N:Int}(h:Top R M)(h':Top R N):M=N:=by
 have key:∀{M N:Int},Top R M->Top R N->M<=N:=λ{M N} h h'=>by
  rcases h.2.1 with e|⟨k,hk,e⟩
  ·rw [e];exact h'.1
  ·rw [<- e];exact h'.2.2 k hk
 have:=key h h'
 have:=key h' h
 omega
noncomputable def bG (b:Bool):PySem.Str:=if b=true then "moth" else "weaver"
theorem dw(a b:String):((PySem.Str.ofString a) == (PySem.Str.ofString b))=(a == b):=by
 rw [Bool.eq_iff_iff,beq_iff_eq,beq_iff_eq]
 refine⟨λh=>?_,λh=>by rw [h]⟩
 rw [PySem.Str.ofString_eq_byList]at h
 unfold PySem.Str.ofStringByList at h
 have h1:(a.toList.map Char.toNat).toArray=(b.toList.map Char.toNat).toArray:=by injection h
 have h2:a.toList.map Char.toNat=b.toList.map Char.toNat:=by simpa using h1
 have key:∀xs ys:List Char,xs.map Char.toNat=ys.map Char.toNat->xs=ys:=by
  intro xs
  induction xs with
  |nil=>intro ys h;cases ys with|nil=>rfl|cons=>simp at h
  | cons x xs ih=>intro ys h;cases ys with
   |nil=>simp at h
   |cons y ys =>
    simp only [List.map_cons,List.cons.injEq]at h
    rw [ih ys h.2,Char.toNat_inj.mp h.1]
 exact String.toList_inj.mp (key _ _ h2)
noncomputable def sub(a b:List Int):Bool:=a.all λx=>decide (x∈b)
theorem nF{a b:List Int}:sub a b=true ↔ ∀x∈a,x∈b:=by simp [sub]
theorem sd(n:Nat)(m m':MV)(a b:List Int)(hm:(bn (some m)).bind a_=some (a.map .int))(hm':(bn (some m')).bind a_=some (b.map .int))(ha:a.length<=1000)(hb:b.length<=1000)(hd:(dd b).length<=60):ab defs (n+1) 11 [m,m']=some (.bl (sub b a)):=by
 rw [af (d:=gE) rfl rfl]
 have h:((((dd b).filter λx=>!decide (x∈a)).length:Int) == 0)=sub b a:=by
  rw [Bool.eq_iff_iff,beq_iff_eq,nF]
  constructor
  ·intro h x hx
   have h2:(dd b).filter (λx=>!decide (x∈a))=[]:=List.eq_nil_of_length_eq_zero (by omega)
   have:=List.filter_eq_nil_iff.mp h2 x (pR.mpr hx)
   simpa using this
  ·intro h
   have h2:(dd b).filter (λx=>!decide (x∈a))=[]:=List.filter_eq_nil_iff.mpr λx hx=>by simpa using h x (pR.mp hx)
   rw [h2];rfl
 cases h1:bn (some m) with
 |none=>rw [h1]at hm;cases hm
 | some v =>
  cases h2:bn (some m') with
  |none=>rw [h2]at hm';cases hm'
  | some v' =>
   rw [h1]at hm
   rw [h2]at hm'
   have hm:a_ v=some (a.map .int):=hm
   have hm':a_ v'=some (b.map .int):=hm'
   have e:av .lenSetSub [v',v]=some (.int ((dd b).filter λx=>!decide (x∈a)).length):=by
    show((a_ v').bind λxs=>(aZ xs).bind λns=>(a_ v).bind λys=>(aZ ys).bind λms=>if ns.length<=1000/\ms.length<=1000/\(dd ns).length<=60 then some (PV.int ((dd ns).filter λn=>!decide (n∈ms)).length) else none)=_
    rw [hm',hm]
    simp [bu,ha,hb,hd]
   simp [gE,exs,ex,ev,evs,h1,h2,e,h]
theorem iO(cal:Cal)(a:MV):∀(R:List (List Int)) (g:List Int->PV) (hg:∀t,a_ (g t)=some (t.map .int)) (acc:List Int) (s:Option MV),acc.length+R.flatten.length<=10000 ->
  ∃s',aD (λx ρ'=>exs cal cT (put ρ' 2 (.val x))) (R.map g) [some a,some (.own (acc.map .int)),s]=.next [some a,some (.own ((acc++R.flatten).map .int)),s']
 | [],g,hg,acc,s,_=>⟨s,by simp⟩
 | t::R,g,hg,acc,s,h=>by
  rw [List.map_cons,aD]
  rw [List.flatten_cons,List.length_append]at h
  have h2:acc.length+t.length<=10000:=by omega
  have e:exs cal cT (put [some a,some (.own (acc.map .int)),s] 2 (.val (g t)))=.next [some a,some (.own ((acc++t).map .int)),some (.val (g t))]:=by
   simp [cT,exs,ex,ev,hg,h2]
  rw [e]
  obtain⟨s',e2⟩:=iO cal a R g hg (acc++t) (some (.val (g t))) (by rw [List.length_append];omega)
  exact⟨s',by rw [List.flatten_cons,<- List.append_assoc];exact e2⟩
theorem se(n:Nat)(m:MV)(ho:∀xs,m≠.own xs)(R:List (List Int))(g:List Int->PV)(hg:∀t,a_ (g t)=some (t.map .int))(hp:(bn (some m)).bind a_=some (R.map g))(hl:R.flatten.length<=10000):ab defs (n+1) 0 [m]=some (ofL R.flatten):=by
 rw [af (d:=dP) rfl rfl]
 obtain⟨s',e⟩:=iO (ab defs n) m R g hg [] none (by simpa using hl)
 simp only [List.map_nil,List.nil_append]at e
 cases hb:bn (some m) with
 |none=>rw [hb]at hp;cases hp
 |some v =>
  rw [hb]at hp
  have hp:a_ v=some (R.map g):=hp
  cases m<;>first|exact absurd rfl (ho _)|simp [dP,exs,ex,ev,evs,aX,hb,hp,e,aE,-List.map_flatten]
theorem vq(n:Nat)(R:List (List Int))(h:Int)(hl:R.length<=10000):ab defs (n+1) 4 [.val (ofR R),.val (.int h)]=some (ofR (fq h R)):=by
 rw [af (d:=iJ) rfl rfl]
 simp [iJ,exs,ex,ev,evs,hl]
 rw [fE (p:=λts=>!decide (h∈ts)) (h:=ofS)]
 ·simp [fq]
 ·intro ts _
  simp [ev,c8,bP]
 ·intro ts _ _
  simp [ev,c8]
theorem o4(n:Nat)(R:List (List Int))(g:∀t∈R,c9 t)(hl:R.length<=10000):ab defs (n+2) 20 [.val (ofR R)]=some (.int (R.map wgt).sum):=by
 rw [af (d:=kS) rfl rfl]
 have ec:ev (ab defs (n+1)) (.comp .seq [(.bor 0)] [] (.cst (.bl true)) (.call 19 [(.bor 0)])) [some (.val (ofR R))]=some (.lst ((R.map wgt).map .int)):=by
  refine(dR (g:=ofS) (h:=λs=>.int (wgt s)) (vs:=[ofR R]) (by simp [evs,ev]) rfl hl λs hs=>?_).trans (by rw [List.map_map];rfl)
  exact aA (vs:=[.val (ofS s)]) (by simp [evA,c8]) (qT n s (aW (g s hs)))
 show bT (exs (ab defs (n+1)) [_] [some (.val (ofR R))])=_
 rw [ah,cN (v:=.int (R.map wgt).sum)]
 ·rfl
 ·rw [aJ ec]
  show((aZ _).map λns=>PV.int ns.sum)=_
  rw [bu]
  rfl
noncomputable def bZ:List Int->List (List Int)
 | []=>[]
 |x::s=>s.map (λy=>[x,y])++bZ s
theorem k9:∀s:List Int,(bZ s).length<=s.length*s.length
 | []=>Nat.le_refl _
 |x::s=>by
  have:=k9 s
  rw [bZ,List.length_append,List.length_map,List.length_cons,Nat.mul_succ,Nat.succ_mul]
  omega
theorem bC{t:List Int}:∀{s:List Int},s.Pairwise (· < ·)->(t∈bZ s ↔ ∃a b,t=[a,b]/\a<b/\a∈s/\b∈s)
 | [],_=>⟨λh=>(by cases h),λ⟨_,_,_,_,h,_⟩=>by cases h⟩
 | x::s,hs=>by
  obtain⟨h1,h2⟩:=List.pairwise_cons.mp hs
  rw [bZ,List.mem_append,bC h2,List.mem_map]
  constructor
  ·rintro (⟨y,hy,rfl⟩|⟨a,b,e,q,ha,hb⟩)
   ·exact⟨x,y,rfl,h1 y hy,.head _,.tail _ hy⟩
   ·exact⟨a,b,e,q,.tail _ ha,.tail _ hb⟩
  ·rintro ⟨a,b,e,q,ha,hb⟩
   rcases List.mem_cons.mp ha with ea|ha
   ·rcases List.mem_cons.mp hb with eb|hb
    ·omega
    ·exact .inl ⟨b,hb,by rw [e,ea]⟩
   ·rcases List.mem_cons.mp hb with eb|hb
    ·have:=h1 a ha
     omega
    ·exact .inr ⟨a,b,e,q,ha,hb⟩
theorem k_:∀{s:List Int},s.Pairwise (· < ·)->(bZ s).Nodup
 | [],_=>List.nodup_nil
 | x::s,hs=>by
  obtain⟨h1,h2⟩:=List.pairwise_cons.mp hs
  rw [bZ]
  refine List.nodup_append.mpr ⟨?_,k_ h2,λt ht u hu e=>?_⟩
  ·unfold List.Nodup
   rw [List.pairwise_map]
   exact h2.imp λ{a b} q e=>by cases e;omega
  ·obtain⟨y,hy,rfl⟩:=List.mem_map.mp ht
   obtain⟨a,b,rfl,q,ha,hb⟩:=(bC h2).mp hu
   cases e
   have:=h1 x ha
   omega
theorem mF(cal:Cal)(s:List Int):∀(r p:List Int) (A:List (List Int)) (y2 y3:Option MV),s=p++r->A.length+(bZ r).length<=10000->s.length<=1000 ->
  ∃z2 z3,aD (λx ρ'=>dH (fb [2,3] x ρ') λρ''=>exs cal gj ρ'') (bi p.length (r.map .int)) [some (.val (ofS s)),some (.own (A.map ofS)),y2,y3]=.next [some (.val (ofS s)),some (.own ((A++bZ r).map ofS)),z2,z3]
 | [],p,A,y2,y3,_,_,_=>⟨y2,y3,by simp [bi,bZ]⟩
 | x::r,p,A,y2,y3,hs,hl,h3=>by
  rw [bZ,List.length_append,List.length_map]at hl
  have hp:p.length<s.length:=by rw [hs,List.length_append,List.length_cons];omega
  have hsl:s.length=p.length+(r.length+1):=by rw [hs,List.length_append,List.length_cons]
  have ec:fM s.length 0 (some ((p.length:Int)+1))=p.length+1:=by
   show(if (p.length:Int)+1<0 then ((p.length:Int)+1+(s.length:Int)).toNat else min ((p.length:Int)+1).toNat s.length)=_
   rw [if_neg (by omega)]
   omega
  have esl:iu (ofS s) (some ((p.length:Int)+1)) none=some (ofS r):=by
   show some (PV.tup (cut (s.map .int) (some ((p.length:Int)+1)) none))=_
   have e1:cut (s.map PV.int) (some ((p.length:Int)+1)) none=r.map .int:=by
    unfold cut
    rw [List.length_map,ec,show fM s.length s.length none=s.length from rfl,hs,List.map_append,List.map_cons,List.drop_append,List.drop_eq_nil_of_le (by rw [List.length_map];omega),List.nil_append,List.length_map,show p.length+1-p.length=1 by omega,List.drop_one,List.tail_cons,List.take_of_length_le (by rw [List.length_map,List.length_append,List.length_cons];omega)]
   rw [e1]
  have eev:ev cal (.comp .seq [(.slice (.bor 0) (.bin .add (.bor 2) (.cst (.int 1))) (.cst .non))] [3] (.cst (.bl true)) (.tup [(.var 1),(.var 0)])) [some (.val (ofS s)),some (.own (A.map ofS)),some (.val (.int (p.length:Int))),some (.val (.int x))]=some (.lst ((r.map λy=>[x,y]).map ofS)):=by
   refine(dR (g:=.int) (h:=λy=>ofS [x,y]) (vs:=[ofS r]) ?_ rfl (by omega) λy _=>?_).trans (by rw [List.map_map];rfl)
   ·simp [evs,ev,bnd,esl]
   ·simp [ev,evs,c8]
  have e:dH (fb [2,3] (.tup [.int (p.length:Nat),.int x]) [some (.val (ofS s)),some (.own (A.map ofS)),y2,y3]) (λρ''=>exs cal gj ρ'')=.next [some (.val (ofS s)),some (.own ((A++r.map λy=>[x,y]).map ofS)),some (.val (.int (p.length:Int))),some (.val (.int x))]:=by
   show exs cal [_] [some (.val (ofS s)),some (.own (A.map ofS)),some (.val (.int (p.length:Int))),some (.val (.int x))]=_
   have hl2:A.length+r.length<=10000:=by omega
   rw [ah,ex,eev,g8]
   simp [exs,hl2]
  rw [List.map_cons,bi,aD,e]
  obtain⟨z2,z3,e2⟩:=mF cal s r (p ++ [x]) (A++r.map λy=>[x,y]) (some (.val (.int (p.length:Int)))) (some (.val (.int x))) (by rw [hs,List.append_assoc];rfl) (by rw [List.length_append,List.length_map];omega) h3
  rw [List.length_append,List.length_singleton]at e2
  refine⟨z2,z3,?_⟩
  rw [bZ,<- List.append_assoc]
  exact e2
theorem sf(n:Nat)(s:List Int)(hl:s.length<=60):ab defs (n+1) 23 [.val (ofS s)]=some (.lst ((bZ s).map ofS)):=by
 have h1:=k9 s
 have h2:s.length*s.length<=60*60:=Nat.mul_le_mul hl hl
 obtain⟨z2,z3,e⟩:=mF (ab defs n) s s [] [] none none rfl (by simp;omega) (by omega)
 rw [af (d:=jb) rfl rfl]
 have hsrc:(evs (ab defs n) [.bor 0] [some (.val (ofS s)),some (.own []),none,none]).bind (bo .enm)=some (bi 0 (s.map .int)):=by simp [evs,ev,bo]
 show bT (exs (ab defs n) (_::_::[_]) [some (.val (ofS s)),none,none,none])=_
 simp only [ah]
 rw [mD (xs:=[]) (by simp [ev,evs]),ak]
 simp only [aT,aU]
 rw [xC hsrc,show aX [.bor 0] [some (.val (ofS s)),some (.own []),none,none]=[some (.val (ofS s)),some (.own []),none,none] from rfl]
 rw [List.length_nil,List.map_nil,List.nil_append]at e
 rw [e,cz,ak]
 simp [exs,ex,aE]
section
variable{α:Type} [DecidableEq α]
theorem vt{β:Type}{ge:β->PV}{m:β->List α}{w:β->Int}{body:PV->Rho->R}{I:List (α×Sc)->Rho->Prop}{B:Nat}{Q:α->Prop}(hB:∀(d:List (α×Sc)) (P:α->Prop),eC d P->(∀k,P k->Q k)->d.length<=B):∀{R:List β},(∀s∈R,∀d ρ (f:α->Int) (P:α->Prop),I d ρ->eB d f->eC d P->d.length<=B ->
   ∃d' ρ',body (ge s) ρ=.next ρ'/\I d' ρ'/\eB d' (λj=>f j+if j∈m s then w s else 0)/\eC d' (λk=>P k\/k∈m s))->(∀s∈R,∀k∈m s,Q k) ->
  ∀{d:List (α×Sc)}{ρ:Rho}{f:α->Int}{P:α->Prop},I d ρ->eB d f->eC d P->(∀k,P k->Q k) ->
  ∃d' ρ',aD body (R.map ge) ρ=.next ρ'/\I d' ρ'/\eB d' (λj=>f j+(R.map λs=>if j∈m s then w s else 0).sum)/\eC d' (λk=>P k\/∃s∈R,k∈m s)/\d'.length<=B
 | [],_,_,d,ρ,f,P,hI,hd,hp,hq=>⟨d,ρ,rfl,hI,by simpa using hd,by simpa using hp,hB d P hp hq⟩
 | s::R,hb,hm,d,ρ,f,P,hI,hd,hp,hq=>by
  obtain⟨d1,ρ1,e1,hI1,hd1,hp1⟩:=hb s (.head _) d ρ f P hI hd hp (hB d P hp hq)
  obtain⟨d',ρ',e2,hI2,hd2,hp2,hl2⟩:=vt hB (R:=R) (λy hy=>hb y (.tail _ hy)) (λy hy=>hm y (.tail _ hy)) hI1 hd1 hp1 (λk hk=>hk.elim (hq k) (hm s (.head _) k))
  rw [List.map_cons,aD,e1]
  refine⟨d',ρ',e2,hI2,?_,⟨hp2.1,λk=>?_⟩,hl2⟩
  ·have ef:(λj=>(f j+if j∈m s then w s else 0)+(R.map λs=>if j∈m s then w s else 0).sum)=λj=>f j+((s::R).map λs=>if j∈m s then w s else 0).sum:=by
    funext j
    simp only [List.map_cons,List.sum_cons]
    omega
   rw [<- ef]
   exact hd2
  ·rw [hp2.2 k]
   simp only [List.mem_cons,exists_eq_or_imp,or_assoc]
end
noncomputable def jt(t:List Int):Prop:=∃a b:Int,t=[a,b]/\0<=a/\a<=59/\0<=b/\b<=59
theorem lb(d:List (List Int×Sc))(P:List Int->Prop)(hp:eC d P)(hq:∀k,P k->jt k):d.length<=3600:=by
 have h1:∀t∈d.map (·.1),jt t:=λt ht=>hq t ((hp.2 t).mp ht)
 have h2:((d.map (·.1)).map λt=>t.getD 0 0*60+t.getD 1 0).Nodup:=by
  unfold List.Nodup
  rw [List.pairwise_map]
  refine hp.1.imp_of_mem λ{t u} ht hu q e=>?_
  obtain⟨a,b,rfl,_⟩:=h1 t ht
  obtain⟨x,y,rfl,_⟩:=h1 u hu
  have e:a*60+b=x*60+y:=e
  have e1:a=x:=by omega
  have e2:b=y:=by omega
  exact q (by rw [e1,e2])
 have h3:=nw 3600 _ h2 λx hx=>by
  obtain⟨t,ht,rfl⟩:=List.mem_map.mp hx
  obtain⟨a,b,rfl,_⟩:=h1 t ht
  show 0<=a*60+b/\a*60+b<((3600:Nat):Int)
  omega
 simpa using h3
noncomputable def sg(R:List (List Int))(a b:Int):Int:=((R.filter λs=>decide (a∈s)&&decide (b∈s)).length:Int)
theorem nG{R:List (List Int)}{a b:Int}(hR:∀s∈R,s.Pairwise (· < ·))(hab:a<b):(R.map λs=>if [a,b]∈bZ s then (1:Int) else 0).sum=sg R a b:=by
 unfold sg
 induction R with
 |nil=>rfl
 | cons s R ih =>
  rw [List.map_cons,List.sum_cons,ih λt ht=>hR t (.tail _ ht)]
  have hm:=bC (t:=[a,b]) (hR s (.head _))
  by_cases q:a∈s/\b∈s
  ·rw [if_pos (hm.mpr ⟨a,b,rfl,hab,q.1,q.2⟩),List.filter_cons_of_pos (by simpa using q),List.length_cons]
   omega
  ·rw [if_neg λz=>q (by obtain⟨x,y,e,_,hx,hy⟩:=hm.mp z;cases e;exact⟨hx,hy⟩),List.filter_cons_of_neg (by simpa using q)]
   omega
noncomputable def pT(R:List (List Int))(M:Int):Prop:=0<=M/\(M=0\/∃a b,a<b/\(∃s∈R,a∈s/\b∈s)/\sg R a b=M)/\∀a b,a<b->sg R a b<=M
theorem mG{R:List (List Int)}{a b:Int}(h:¬ ∃s∈R,a∈s/\b∈s):sg R a b=0:=by
 unfold sg
 rw [List.filter_eq_nil_iff.mpr]
 ·rfl
 ·intro s hs q
  exact h ⟨s,hs,by simpa using q⟩
theorem lE(n:Nat)(R:List (List Int))(g:bf R):∃M,ab defs (n+2) 24 [.val (ofR R)]=some (.int M)/\pT R M:=by
 obtain⟨d,ρ',e,⟨x,y,rfl⟩,hd,hp,hln⟩:=vt (R:=R) (ge:=ofS) (m:=bZ) (w:=λ_=>1) (Q:=jt) (B:=3600) lb (body:=λv ρ'=>exs (ab defs (n+1)) fR (put ρ' 2 (.val v))) (I:=λd ρ=>∃x y,ρ=[some (.val (ofR R)),some (.ownD (.t d)),x,y]) (d:=[]) (ρ:=[some (.val (ofR R)),some (.ownD (.t [])),none,none]) (f:=λ_=>0) (P:=λ_=>False)
  (by
   rintro s hs d ρ f P ⟨x,y,rfl⟩ hd hp hl
   have gs:=g.1 s hs
   have hls:=aW gs
   have et:=sf n s hls
   have hl2:=k9 s
   have hl3:s.length*s.length<=60*60:=Nat.mul_le_mul hls hls
   obtain⟨d',ρ',e,⟨y',rfl⟩,r⟩:=Ai (xs:=bZ s) (g:=ofS) (w:=1) (body:=λv ρ'=>exs (ab defs (n+1)) fQ (put ρ' 3 (.val v))) (I:=λd ρ=>∃y,ρ=[some (.val (ofR R)),some (.ownD (.t d)),some (.val (ofS s)),y]) (d:=d) (ρ:=[some (.val (ofR R)),some (.ownD (.t d)),some (.val (ofS s)),y])
    (by
     rintro z _ d ρ f ⟨y,rfl⟩ hd hl
     have eg:ev (ab defs (n+1)) (.dget (.bor 1) (.bor 3) (.cst (.int 0))) [some (.val (ofR R)),some (.ownD (.t d)),some (.val (ofS s)),some (.val (ofS z))]=some (.int (f z)):=by
      rw [<- k5 hd z]
      simp [ev]
     have es:ev (ab defs (n+1)) (.bin .add (.dget (.bor 1) (.bor 3) (.cst (.int 0))) (.cst (.int 1))) [some (.val (ofR R)),some (.ownD (.t d)),some (.val (ofS s)),some (.val (ofS z))]=some (.int (f z+1)):=by
      rw [ev,eg]
      simp [ev]
     have hlt:d.length<10000:=by omega
     refine⟨_,⟨some (.val (ofS z)),rfl⟩,?_⟩
     show exs (ab defs (n+1)) [_] [some (.val (ofR R)),some (.ownD (.t d)),some (.val (ofS s)),some (.val (ofS z))]=_
     rw [ah,ex,es]
     simp [ev,hlt,exs])
    (k_ gs.1) ⟨y,rfl⟩ hd hp (by omega)
   refine⟨d',_,?_,⟨some (.val (ofS s)),y',rfl⟩,r.1,r.2.1⟩
   have hsrc:(evs (ab defs (n+1)) [.call 23 [(.bor 2)]] [some (.val (ofR R)),some (.ownD (.t d)),some (.val (ofS s)),y]).bind (bo .seq)=some ((bZ s).map ofS):=by
    rw [evs,aA (vs:=[.val (ofS s)]) (by simp [evA]) et]
    simp [evs]
   show exs (ab defs (n+1)) [_] [some (.val (ofR R)),some (.ownD (.t d)),some (.val (ofS s)),y]=_
   rw [ah,cA hsrc,show ∀ρ:Rho,aX [.call 23 [(.bor 2)]] ρ=ρ from λ_=>rfl,e,cz,ak]
   simp [exs,aE])
  (λs hs k hk=>by
   obtain⟨a,b,rfl,_,ha,hb⟩:=(bC (g.1 s hs).1).mp hk
   have:=(g.1 s hs).2 a ha
   have:=(g.1 s hs).2 b hb
   exact⟨a,b,rfl,by omega,by omega,by omega,by omega⟩)
  ⟨none,none,rfl⟩ k6 k7 (λk z=>z.elim)
 obtain⟨M,ns,e1,hns,e2,h0,h1,h2⟩:=pS hd hp
 refine⟨M,?_,h0,?_,?_⟩
 ·rw [af (d:=eV) rfl rfl]
  have hsrc:(evs (ab defs (n+1)) [.bor 0] [some (.val (ofR R)),some (.ownD (.t [])),none,none]).bind (bo .seq)=some (R.map ofS):=by simp [evs,ev]
  have ev1:ev (ab defs (n+1)) (.blt .valuesOf [(.bor 1)]) [some (.val (ofR R)),some (.ownD (.t d)),x,y]=some (.lst (ns.map .int)):=by
   rw [aJ (v:=.dI (.t d)) (by simp [ev]),g7,if_pos (by unfold gP dSc;rw [List.length_map,List.length_map];omega)]
   show some (PV.lst ((d.map (·.2)).map Sc.pv))=_
   rw [e1]
  have ev2:ev (ab defs (n+1)) (.bin .add (.lst [(.cst (.int 0))]) (.blt .valuesOf [(.bor 1)])) [some (.val (ofR R)),some (.ownD (.t d)),x,y]=some (.lst ((0::ns).map .int)):=by
   rw [ev,ev1]
   simp [ev,evs]
   omega
  show bT (exs (ab defs (n+1)) (_::_::[_]) [some (.val (ofR R)),none,none,none])=_
  simp only [ah]
  rw [show ex (ab defs (n+1)) (.newD true 1) [some (.val (ofR R)),none,none,none]=.next [some (.val (ofR R)),some (.ownD (.t [])),none,none] from by rw [ex];rfl,ak,cA hsrc,show aX [.bor 0] [some (.val (ofR R)),some (.ownD (.t [])),none,none]=[some (.val (ofR R)),some (.ownD (.t [])),none,none] from rfl,e,cz,ak]
  rw [show ∀ρ,aE [.bor 0] [some (.val (ofR R)),some (.ownD (.t [])),none,none] ρ=ρ from λ_=>rfl,cN (v:=.int M)]
  ·rfl
  ·rw [aJ ev2,kO,bu,Option.bind_some,e2]
   rfl
 ·refine h1.imp id λ⟨k,hk,ek⟩=>?_
  obtain⟨s,hs,hk⟩:=hk.resolve_left id
  obtain⟨a,b,rfl,hab,ha,hb⟩:=(bC (g.1 s hs).1).mp hk
  refine⟨a,b,hab,⟨s,hs,ha,hb⟩,?_⟩
  rw [<- nG (λs hs=>(g.1 s hs).1) hab,<- ek]
  rw [Int.zero_add]
  exact congrArg List.sum (List.map_congr_left λs _=>by by_cases q:[a,b]∈bZ s<;>simp [q])
 ·intro a b hab
  by_cases q:∃s∈R,a∈s/\b∈s
  ·obtain⟨s,hs,ha,hb⟩:=q
   have:=h2 [a,b] (.inr ⟨s,hs,(bC (g.1 s hs).1).mpr ⟨a,b,rfl,hab,ha,hb⟩⟩)
   rw [<- nG (λs hs=>(g.1 s hs).1) hab]
   refine Int.le_trans (Int.le_of_eq ?_) this
   rw [Int.zero_add]
   exact congrArg List.sum (List.map_congr_left λs _=>by by_cases q:[a,b]∈bZ s<;>simp [q])
  ·rw [mG q]
   exact h0
noncomputable def fV(acc:List Int)(h:Int):List Int:=if h∈acc then acc else acc ++ [h]
noncomputable def iP(R:List (List Int)):List Int:=R.foldl (λacc ts=>ts.foldl fV acc) []
noncomputable def aP(R:List (List Int)):List Int:=sortI (iP R)
theorem qV{acc:List Int}{h:Int}(hn:acc.Nodup):(fV acc h).Nodup/\∀x,x∈fV acc h ↔ x∈acc\/x=h:=by
 unfold fV
 by_cases q:h∈acc
 ·rw [if_pos q]
  exact⟨hn,λx=>⟨.inl,λz=>z.elim id λe=>e ▸ q⟩⟩
 ·rw [if_neg q]
  refine⟨List.nodup_append.mpr ⟨hn,by simp,λx hx y hy=>by rw [List.mem_singleton.mp hy];exact λz=>q (z ▸ hx)⟩,λx=>?_⟩
  rw [List.mem_append,List.mem_singleton]
theorem lc:∀(ts acc:List Int),acc.Nodup->(ts.foldl fV acc).Nodup/\∀x,x∈ts.foldl fV acc ↔ x∈acc\/x∈ts
 | [],acc,hn=>⟨hn,λx=>by simp⟩
 |t::ts,acc,hn=>by
  obtain⟨h1,h2⟩:=qV (h:=t) hn
  obtain⟨h3,h4⟩:=lc ts (fV acc t) h1
  refine⟨h3,λx=>?_⟩
  rw [List.foldl_cons,h4,h2,List.mem_cons,or_assoc]
theorem fu:∀(R:List (List Int)) (acc:List Int),acc.Nodup->(R.foldl (λacc ts=>ts.foldl fV acc) acc).Nodup/\∀x,x∈R.foldl (λacc ts=>ts.foldl fV acc) acc ↔ x∈acc\/∃ts∈R,x∈ts
 | [],acc,hn=>⟨hn,λx=>by simp⟩
 |t::ts,acc,hn=>by
  obtain⟨h1,h2⟩:=lc t acc hn
  obtain⟨h3,h4⟩:=fu ts (t.foldl fV acc) h1
  refine⟨h3,λx=>?_⟩
  rw [List.foldl_cons,h4,h2]
  simp [or_assoc]
theorem o5{R:List (List Int)}{x:Int}:x∈aP R ↔ ∃ts∈R,x∈ts:=by
 unfold aP
 rw [gD]
 have:=(fu R [] List.nodup_nil).2 x
 unfold iP
 rw [this]
 simp
theorem pU(R:List (List Int)):(aP R).Pairwise (· < ·):=kQ (fu R [] List.nodup_nil).1
theorem cB{R:List (List Int)}(g:∀ts∈R,c9 ts):c9 (aP R):=⟨pU R,λh hh=>by
 obtain⟨ts,h1,h2⟩:=o5.mp hh
 exact(g ts h1).2 h h2⟩
theorem sh{R:List (List Int)}(g:∀ts∈R,c9 ts):(iP R).length<=60:=by
 have:=aW (cB g)
 unfold aP at this
 rw [sortI_len]at this
 exact this
theorem xE{R:List (List Int)}{acc:List Int}(hn:acc.Nodup)(h:∀x∈acc,0<=x/\x<=59):acc.length<=60:=nw 60 acc hn λx hx=>by have:=h x hx;omega
theorem o6(R:List (List Int)):sortI (dd R.flatten)=aP R:=by
 refine sortI_of_perm ((List.perm_ext_iff_of_nodup (dd_nodup _) (fu R [] List.nodup_nil).1).mpr λx=>?_)
 rw [pR,(fu R [] List.nodup_nil).2 x,List.mem_flatten]
 simp
theorem lf(n:Nat)(R:List (List Int))(g:∀ts∈R,c9 ts)(hl:R.flatten.length<=1000):ab defs (n+2) 5 [.val (ofR R)]=some (ofL (aP R)):=by
 rw [af (d:=fG) rfl rfl]
 have e:=se n (.val (ofR R)) (λ_ z=>by cases z) R ofS (λ_=>rfl) rfl (by omega)
 have hd:(dd R.flatten).length<64:=by
  have:=aW (cB g)
  rw [<- o6,sortI_len]at this
  omega
 simp [fG,exs,ex,ev,evs,evA,e,-List.map_flatten,bu,-List.length_flatten,hl,hd,o6]
theorem si(h:Int)(R:List (List Int)):(fq h R).flatten.length<=R.flatten.length:=by
 unfold fq
 induction R with
 |nil=>exact Nat.le_refl _
 | cons s R ih =>
  by_cases q:h∈s
  ·rw [List.filter_cons_of_neg (by simpa using q),List.flatten_cons,List.length_append]
   omega
  ·rw [List.filter_cons_of_pos (by simpa using q),List.flatten_cons,List.flatten_cons,List.length_append,List.length_append]
   omega
theorem lh(n:Nat)(R:List (List Int)):ab defs (n+1) 6 [.val (ofR R)]=some (.bl (decide ([]∈R))):=by
 rw [af (d:=fH) rfl rfl]
 have ein:isIn (.tup []) (R.map ofS)=some (decide ([]∈R)):=nv [] R
 simp [fH,exs,ex,ev,evs,ein]
noncomputable def vv(R:List (List Int)):Prop:=∃M,pT R M/\1152921504606846976*M*(((aP R).length:Int) / 2)<4*(R.map wgt).sum
noncomputable def hv(R:List (List Int)):Bool:=@decide (vv R) (Classical.propDecidable _)
theorem vw{R:List (List Int)}:hv R=true ↔ vv R:=@decide_eq_true_iff (vv R) (Classical.propDecidable _)
theorem mH{R:List (List Int)}{M N:Int}(h:pT R M)(h':pT R N):M=N:=by
 have gen:∀{M N:Int},pT R M->pT R N->M<=N:=λ{M N} h h'=>by
  rcases h.2.1 with e|⟨a,b,hab,_,e⟩
  ·have:=h'.1;omega
  ·have:=h'.2.2 a b hab;omega
 exact Int.le_antisymm (gen h h') (gen h' h)
theorem lj(n:Nat)(R:List (List Int))(g:bf R)(hl:R.flatten.length<=1000):ab defs (n+3) 26 [.val (ofR R)]=some (.bl (hv R)):=by
 obtain⟨M,em,hM⟩:=lE n R g
 have ew:=o4 n R g.1 (by have:=g.2.2;omega)
 have eh:=lf n R g.1 hl
 have h60:=aW (cB g.1)
 have hb:hv R=decide (1152921504606846976*M*(((aP R).length:Int) / 2)<4*(R.map wgt).sum):=by
  rw [Bool.eq_iff_iff,vw,decide_eq_true_iff]
  exact⟨λ⟨N,hN,h⟩=>by rw [mH hM hN];exact h,λh=>⟨M,hM,h⟩⟩
 rw [hb,af (d:=g9) rfl rfl]
 generalize (R.map wgt).sum=w at ew
 generalize aP R=ks at eh h60
 have b1:(-18446744073709551616<(4:Int)/\(4:Int)<18446744073709551616\/-18446744073709551616<w/\w<18446744073709551616):=.inl ⟨by decide,by decide⟩
 have b2:(-18446744073709551616<(1152921504606846976:Int)/\(1152921504606846976:Int)<18446744073709551616\/-18446744073709551616<M/\M<18446744073709551616):=.inl ⟨by decide,by decide⟩
 have b3:(-18446744073709551616<1152921504606846976*M/\1152921504606846976*M<18446744073709551616\/-18446744073709551616<(ks.length:Int) / 2/\(ks.length:Int) / 2<18446744073709551616):=.inr ⟨by omega,by omega⟩
 have e1:ev (ab defs (n+2)) (.bin .mul (.cst (.int 4)) (.call 20 [(.bor 0)])) [some (.val (ofR R))]=some (.int (4*w)):=by
  rw [ev,aA (vs:=[.val (ofR R)]) (by simp [evA]) ew]
  simp [ev,b1]
 have e2:ev (ab defs (n+2)) (.bin .mul (.bin .mul (.glob "UNIT" (.int 1152921504606846976)) (.call 24 [(.bor 0)])) (.bin .fdiv (.blt .len [(.call 5 [(.bor 0)])]) (.cst (.int 2)))) [some (.val (ofR R))]=some (.int (1152921504606846976*M*((ks.length:Int) / 2))):=by
  have e3:ev (ab defs (n+2)) (.bin .mul (.glob "UNIT" (.int 1152921504606846976)) (.call 24 [(.bor 0)])) [some (.val (ofR R))]=some (.int (1152921504606846976*M)):=by
   rw [ev,aA (vs:=[.val (ofR R)]) (by simp [evA]) em]
   simp [ev,b2]
  have e4:ev (ab defs (n+2)) (.bin .fdiv (.blt .len [(.call 5 [(.bor 0)])]) (.cst (.int 2))) [some (.val (ofR R))]=some (.int ((ks.length:Int) / 2)):=by
   rw [ev,aJ (aA (vs:=[.val (ofR R)]) (by simp [evA]) eh)]
   simp [ev]
  rw [ev,e3,e4]
  simp only [Option.bind_some,jN]
  rw [if_pos (by exact .inr ⟨by omega,by omega⟩)]
 show bT (exs (ab defs (n+2)) [_] [some (.val (ofR R))])=_
 rw [ah,cN (v:=.bl (decide (1152921504606846976*M*((ks.length:Int) / 2)<4*w)))]
 ·rfl
 ·rw [ev,e1,e2]
  rfl
theorem jB (n:Nat) (R:List (List Int)) (g:bf R) (hl:R.flatten.length<=1000):ab defs (n+4) 27 [.val (ofR R),.val (.str "weaver")]=some (.bl (hv R)) /\
  ab defs (n+4) 27 [.val (ofR R),.val (.str "moth")]=some (.bl (decide ([]∈R) || (hv R&&(aP R).all λh=>hv (fq h R)))):=by
 have e1:=lj n R g hl
 have e2:=lh (n+2) R
 have e3:=lf (n+1) R g.1 hl
 have h60:=aW (cB g.1)
 constructor
 ·rw [af (d:=bY) rfl rfl]
  have h:((("weaver":Str) == ("weaver":Str)))=true:=by decide
  simp [bY,exs,ex,ev,evA,evB,h,e1]
 ·rw [af (d:=bY) rfl rfl]
  have h:((("moth":Str) == ("weaver":Str)))=false:=by decide
  have ec:ev (ab defs (n+3)) (.comp .seq [(.call 5 [(.bor 0)])] [0] (.cst (.bl true)) (.call 26 [(.call 4 [(.bor 1),(.bor 0)])])) [some (.val (ofR R)),some (.val (.str "moth"))]=some (.lst (((aP R).map λh=>hv (fq h R)).map .bl)):=by
   refine(dR (g:=.int) (h:=λh=>.bl (hv (fq h R))) (vs:=[ofL (aP R)]) ?_ rfl (by omega) λh _=>?_).trans (by rw [List.map_map];rfl)
   ·rw [evs,aA (vs:=[.val (ofR R)]) (by simp [evA]) e3]
    simp [evs]
   ·have eb:ev (ab defs (n+3)) (.call 4 [(.bor 1),(.bor 0)]) (c8 [0] [some (.val (ofR R)),some (.val (.str "moth"))] (.int h))=some (ofR (fq h R)):=aA (vs:=[.val (ofR R),.val (.int h)]) (by simp [evA,c8]) (vq (n+2) R h (by have:=g.2.2;omega))
    exact aA (vs:=[.val (ofR (fq h R))]) (by simp only [evA,eb];simp) (lj n (fq h R) (mE g) (Nat.le_trans (si h R) hl))
  have ea:ev (ab defs (n+3)) (.and (.call 26 [(.bor 0)]) (.blt .all [(.comp .seq [(.call 5 [(.bor 0)])] [0] (.cst (.bl true)) (.call 26 [(.call 4 [(.bor 1),(.bor 0)])]))])) [some (.val (ofR R)),some (.val (.str "moth"))]=some (.bl (hv R&&(aP R).all λh=>hv (fq h R))):=by
   refine kT (aA (vs:=[.val (ofR R)]) (by simp [evA]) e1) λ_=>?_
   rw [aJ ec,qO,fD,Option.map_some,List.all_map]
   rfl
  show bT (exs (ab defs (n+3)) (_::_::[_]) [some (.val (ofR R)),some (.val (.str "moth"))])=_
  simp only [ah]
  rw [show ex (ab defs (n+3)) (.ite (.cmp .eq (.bor 1) (.cst (.str "weaver"))) [.ret (.call 26 [(.bor 0)])] []) [some (.val (ofR R)),some (.val (.str "moth"))]=.next [some (.val (ofR R)),some (.val (.str "moth"))] from by simp [ex,exs,ev,evB,h],ak]
  by_cases q:[]∈R
  ·rw [decide_eq_true q]at e2 ⊢
   simp [ex,exs,ev,evA,evB,e2]
  ·rw [decide_eq_false q]at e2 ⊢
   rw [show ex (ab defs (n+3)) (.ite (.call 6 [(.bor 0)]) [.ret (.cst (.bl true))] []) [some (.val (ofR R)),some (.val (.str "moth"))]=.next [some (.val (ofR R)),some (.val (.str "moth"))] from by simp [ex,exs,ev,evA,evB,e2],ak,cN ea]
   rfl
theorem lF (n:Nat) (R:List (List Int)) (g:bf R):∃M,Top R M/\ab defs (n+4) 25 [.val (ofR R),.val (.str "weaver")]=some (.bl (decide ((R.map wgt).sum+M<1152921504606846976)))/\ab defs (n+4) 25 [.val (ofR R),.val (.str "moth")]=some (.bl (decide ((R.map wgt).sum<1152921504606846976))):=by
 obtain⟨M,em,hM⟩:=k8 n R g
 have ew:=o4 (n+1) R g.1 (by have:=g.2.2;omega)
 refine⟨M,hM,?_,?_⟩
 ·rw [af (d:=b7) rfl rfl]
  have h:((("weaver":Str) == ("moth":Str)))=false:=by decide
  simp [b7,exs,ex,ev,evA,evB,h,ew,em]
 ·rw [af (d:=b7) rfl rfl]
  simp [b7,exs,ex,ev,evA,evB,ew]
theorem gM {n:Nat}{v:PV}{R:PV}{t:PySem.Str}{r:PV} (h:ab defs n 29 [.val v,.val R,.val (.str t)]=some r):ab defs (n+1) 28 [.val v,.val R,.val (.str t),.val (.str "moth")]=some r:=by
 rw [af (d:=jc) rfl rfl]
 simp [jc,exs,ex,ev,evs,evB,evA,dw,h]
theorem gW {n:Nat}{v:PV}{R:PV}{t:PySem.Str}{r:PV} (h:ab defs n 30 [.val v,.val R,.val (.str t)]=some r):ab defs (n+1) 28 [.val v,.val R,.val (.str t),.val (.str "weaver")]=some r:=by
 rw [af (d:=jc) rfl rfl]
 simp [jc,exs,ex,ev,evs,evB,evA,dw,h]
theorem xF (n:Nat) (R:List (List Int)) (t h:Bool):ab defs (n+3) 28 [.val (.tup [.str "whole"]),.val (ofR R),.val (.str (bG t)),.val (.str (bG h))]=some (.bl (!h&&decide ([]∈R))):=by
 cases h with
 |true =>
  refine gM ?_
  rw [af (d:=aR) rfl rfl]
  cases t<;>simp [aR,exs,ex,ev,evs,evB,evA,place,dw,bG]
 |false =>
  refine gW ?_
  rw [af (d:=aI) rfl rfl]
  simp [aI,exs,ex,ev,evs,evB,evA,place,dw,lh]
noncomputable def nH(R:List (List Int))(M:Int)(t h:Bool):Bool :=
 if h=true then (if t=true then decide ((R.map wgt).sum<1152921504606846976) else decide ((R.map wgt).sum+M<1152921504606846976))
 else (if t=true then decide ([]∈R) || (hv R&&(aP R).all λh=>hv (fq h R)) else hv R)
theorem vz (n:Nat) (R:List (List Int)) (g:bf R) (hf:R.flatten.length<=1000) {M:Int} (hM:Top R M) (t h:Bool):ab defs (n+6) 28 [.val (.tup [.str "weight"]),.val (ofR R),.val (.str (bG t)),.val (.str (bG h))]=some (.bl (nH R M t h)):=by
 cases h with
 |true =>
  obtain⟨N,hN,m1,m2⟩:=lF n R g
  rw [vp hN hM]at m1
  refine gM ?_
  rw [af (d:=aR) rfl rfl]
  cases t<;>simp [aR,exs,ex,ev,evs,evB,evA,place,dw,bG,m1,m2,nH]
 |false =>
  obtain⟨m1,m2⟩:=jB n R g hf
  refine gW ?_
  rw [af (d:=aI) rfl rfl]
  cases t<;>simp [aI,exs,ex,ev,evs,evB,evA,place,dw,bG,m1,m2,nH]
theorem x4(cal:Cal)(ρ:Rho):ev cal (.bin .pow (.cst (.int 2)) (.cst (.int 60))) ρ=some (.int 1152921504606846976):=by
 rw [dG (dF _ _ _) (dF _ _ _)]
 rfl
theorem B7(cal:Cal)(s:List Int)(hl:s.length<=60)(r:Rho):ev cal (.bin .shr (.bin .pow (.cst (.int 2)) (.cst (.int 60))) (.blt .len [(.bor 0)])) (some (.val (ofS s))::r)=some (.int (wgt s)):=by
 rw [dG (x4 _ _) (y:=.int (s.length:Int)) (by simp [ev,evs])]
 show(if 0<=(s.length:Int) then some (PV.int (1152921504606846976 / 2 ^ ((s.length:Int)).toNat)) else none)=_
 rw [if_pos (by omega),Int.toNat_natCast,oX _ hl]
 rfl
theorem Aj{cal:Cal}{e:ME}{ρ:Rho}{ns:List Int}(h:ev cal e ρ=some (.lst (ns.map .int))):ev cal (.blt .sum [e]) ρ=some (.int ns.sum):=by
 rw [aJ h]
 show((aZ _).map λns=>PV.int ns.sum)=_
 rw [bu]
 rfl
theorem Ak(n:Nat)(R:List (List Int))(g:bf R):ab defs (n+1) 43 [.val (ofR R)]=some (.int (R.map wgt).sum):=by
 rw [af (d:=jd) rfl rfl]
 show bT (exs (ab defs n) [.ret _] [some (.val (ofR R))])=_
 rw [ah,cN (Aj (ns:=R.map wgt) ((dR (g:=ofS) (h:=λs=>.int (wgt s)) (vs:=[ofR R]) (by simp [evs,ev]) rfl (by have:=g.2.2;omega) λs hs=>B7 _ s (aW (g.1 s hs)) _).trans (by rw [List.map_map];rfl)))]
 rfl
theorem sj{p:List Int}{x:Int}(h:(p ++ [x]).Pairwise (· < ·))(t:List Int):(t∈bZ (p ++ [x]) ↔ t∈bZ p\/t∈p.map (λy=>[y,x]))/\¬ (t∈bZ p/\t∈p.map (λy=>[y,x])):=by
 obtain⟨hp,_,hx⟩:=List.pairwise_append.mp h
 have hx:∀a∈p,a<x:=λa ha=>hx a ha x (by simp)
 rw [bC h,bC hp,List.mem_map]
 constructor
 ·constructor
  ·rintro ⟨a,b,rfl,hab,ha,hb⟩
   rcases List.mem_append.mp ha with ha|ha
   ·rcases List.mem_append.mp hb with hb|hb
    ·exact .inl ⟨a,b,rfl,hab,ha,hb⟩
    ·rw [List.mem_singleton.mp hb]
     exact .inr ⟨a,ha,rfl⟩
   ·have ea:=List.mem_singleton.mp ha
    rcases List.mem_append.mp hb with hb|hb
    ·have:=hx b hb
     omega
    ·have:=List.mem_singleton.mp hb
     omega
  ·rintro (⟨a,b,rfl,hab,ha,hb⟩|⟨a,ha,rfl⟩)
   ·exact⟨a,b,rfl,hab,List.mem_append_left _ ha,List.mem_append_left _ hb⟩
   ·exact⟨a,x,rfl,hx a ha,List.mem_append_left _ ha,by simp⟩
 ·rintro ⟨⟨a,b,rfl,hab,ha,hb⟩,y,hy,e⟩
  cases e
  have:=hx x hb
  omega
theorem B8(cal:Cal)(s:List Int)(k:Int)(x:Int)(hk:gQ (ofS s) (.int k)=some (.int x))(hx:0<=x/\x<=59)(a0:Option MV):∀(ys:List Int) (i:Nat),(∀m y,ys[m]?=some y->s[i+m]?=some y)->ys.Nodup->(∀y∈ys,0<=y/\y<=59)->∀(d:List (List Int×Sc)) (f:List Int->Int) (P:List Int->Prop) (y4 y5:Option MV),eB d f->eC d P->(∀t,P t->jt t) ->
  ∃d' f' z4 z5,aD (λv ρ'=>exs cal eA (put ρ' 4 (.val v))) ((List.range' i ys.length).map λ(j:Nat)=>PV.int (j:Int)) [a0,some (.ownD (.t d)),some (.val (ofS s)),some (.val (.int k)),y4,y5]=.next [a0,some (.ownD (.t d')),some (.val (ofS s)),some (.val (.int k)),z4,z5]/\eB d' f'/\eC d' (λt=>P t\/t∈ys.map λy=>[y,x])/\∀j,f' j=f j+if j∈ys.map (λy=>[y,x]) then 1 else 0
 | [],i,_,_,_,d,f,P,y4,y5,hd,hp,ht=>⟨d,f,y4,y5,rfl,hd,by simpa using hp,λj=>by simp⟩
 | y::ys,i,hi,hn,hy9,d,f,P,y4,y5,hd,hp,ht=>by
  obtain⟨hy,hn⟩:=List.nodup_cons.mp hn
  rw [List.length_cons,List.range'_succ,List.map_cons,aD]
  have hlt:d.length<10000:=by have:=lb d P hp ht;omega
  have ei:gQ (ofS s) (.int (i:Int))=some (.int y):=by
   have h0:=hi 0 y rfl
   rw [Nat.add_zero]at h0
   have hl:i<s.length:=(List.getElem?_eq_some_iff.mp h0).1
   show(place (s.map PV.int).length (i:Int)).bind _=_
   rw [List.length_map,kP (by omega) (by omega),Option.bind_some,Int.toNat_natCast,List.getElem?_map,h0]
   rfl
  have e1:ev cal (.tup [(.idx (.bor 2) (.bor 4)),(.idx (.bor 2) (.bor 3))]) [a0,some (.ownD (.t d)),some (.val (ofS s)),some (.val (.int k)),some (.val (.int (i:Int))),y5]=some (ofS [y,x]):=by
   simp [ev,evs,ei,hk,-B0]
  have eg:ev cal (.dget (.bor 1) (.bor 5) (.cst (.int 0))) [a0,some (.ownD (.t d)),some (.val (ofS s)),some (.val (.int k)),some (.val (.int (i:Int))),some (.val (ofS [y,x]))]=some (.int (f [y,x])):=by
   rw [<- k5 hd [y,x]]
   simp only [ev,mx,pQ,List.getElem?_cons_succ,List.getElem?_cons_zero,Option.join_some,Option.bind_some,ofS,Ad]
   rfl
  have es:ev cal (.bin .add (.dget (.bor 1) (.bor 5) (.cst (.int 0))) (.cst (.int 1))) [a0,some (.ownD (.t d)),some (.val (ofS s)),some (.val (.int k)),some (.val (.int (i:Int))),some (.val (ofS [y,x]))]=some (.int (f [y,x]+1)):=by
   rw [dG eg (dF _ _ _),xu]
  have e2:ex cal (.dput 1 (.bor 5) (.bin .add (.dget (.bor 1) (.bor 5) (.cst (.int 0))) (.cst (.int 1)))) [a0,some (.ownD (.t d)),some (.val (ofS s)),some (.val (.int k)),some (.val (.int (i:Int))),some (.val (ofS [y,x]))]=.next [a0,some (.ownD (.t (bS d [y,x] (.int (f [y,x]+1))))),some (.val (ofS s)),some (.val (.int k)),some (.val (.int (i:Int))),some (.val (ofS [y,x]))]:=by
   rw [ex,es,g8]
   have:rM (.t d) (ofS [y,x]) (.int (f [y,x]+1))=some (.t (bS d [y,x] (.int (f [y,x]+1)))):=by
    unfold ofS
    rw [Ae,if_pos hlt]
   simp only [ev,mx,List.getElem?_cons_succ,List.getElem?_cons_zero,Option.join_some,g8,z9,this]
   rfl
  have e:exs cal eA (put [a0,some (.ownD (.t d)),some (.val (ofS s)),some (.val (.int k)),y4,y5] 4 (.val (.int (i:Int))))=.next [a0,some (.ownD (.t (bS d [y,x] (.int (f [y,x]+1))))),some (.val (ofS s)),some (.val (.int k)),some (.val (.int (i:Int))),some (.val (ofS [y,x]))]:=by
   show exs cal (_::[_]) [a0,some (.ownD (.t d)),some (.val (ofS s)),some (.val (.int k)),some (.val (.int (i:Int))),y5]=_
   rw [ah,hZ e1,ak]
   simp only [aT,aU]
   rw [ah,e2]
   rfl
  rw [e]
  have h9:=hy9 y (.head _)
  obtain⟨d',f',z4,z5,q1,q2,q3,q4⟩:=B8 cal s k x hk hx a0 ys (i+1) (λm z hz=>by have:=hi (m+1) z (by simpa using hz);rwa [show i+(m+1)=i+1+m from by omega]at this) hn (λz hz=>hy9 z (.tail _ hz)) (bS d [y,x] (.int (f [y,x]+1))) (λj=>if j=[y,x] then f j+1 else f j) (λt=>P t\/t=[y,x]) (some (.val (.int (i:Int)))) (some (.val (ofS [y,x]))) (oY hd [y,x] 1) (oZ hp [y,x] _) (λt h=>h.elim (ht t) λe=>⟨y,x,e,h9.1,h9.2,hx.1,hx.2⟩)
  refine⟨d',f',z4,z5,q1,q2,⟨q3.1,λt=>?_⟩,λj=>?_⟩
  ·rw [q3.2 t,List.map_cons]
   show(P t\/t=[y,x])\/t∈ys.map (λy=>[y,x]) ↔ P t\/t∈[y,x]::ys.map λy=>[y,x]
   rw [List.mem_cons,or_assoc]
  ·rw [q4 j,List.map_cons]
   by_cases q:j=[y,x]
   ·have:j∉ys.map λy=>[y,x]:=λz=>by
     obtain⟨w,hw,e⟩:=List.mem_map.mp z
     rw [q]at e
     cases e
     exact hy hw
    rw [if_pos q,if_neg this,if_pos (by rw [q];exact .head _)]
    omega
   ·by_cases q2:j∈ys.map λy=>[y,x]
    ·rw [if_neg q,if_pos q2,if_pos (.tail _ q2)]
    ·rw [if_neg q,if_neg q2,if_neg (by rw [List.mem_cons];exact λz=>z.elim q q2)]
theorem B9(cal:Cal)(s:List Int)(gs:c9 s)(a0:Option MV):∀(r p:List Int),s=p++r->∀(d:List (List Int×Sc)) (f:List Int->Int) (P:List Int->Prop) (y3 y4 y5:Option MV),eB d f->eC d P->(∀t,P t->jt t) ->
  ∃d' f' z3 z4 z5,aD (λv ρ'=>exs cal cX (put ρ' 3 (.val v))) ((List.range' p.length r.length).map λ(j:Nat)=>PV.int (j:Int)) [a0,some (.ownD (.t d)),some (.val (ofS s)),y3,y4,y5]=.next [a0,some (.ownD (.t d')),some (.val (ofS s)),z3,z4,z5]/\eB d' f'/\eC d' (λt=>P t\/(t∈bZ s/\t∉bZ p))/\∀j,f' j=f j+if j∈bZ s/\j∉bZ p then 1 else 0
 | [],p,hs,d,f,P,y3,y4,y5,hd,hp,ht=>⟨d,f,y3,y4,y5,by simp,hd,⟨hp.1,λt=>by rw [hp.2 t,hs,List.append_nil];simp⟩,λj=>by rw [hs,List.append_nil];simp⟩
 | x::r,p,hs,d,f,P,y3,y4,y5,hd,hp,ht=>by
  rw [List.length_cons,List.range'_succ,List.map_cons]
  have hpr:s=(p ++ [x])++r:=by rw [hs,List.append_assoc];rfl
  have hl:p.length<s.length:=by rw [hs,List.length_append,List.length_cons];omega
  have h60:=aW gs
  have hxs:s[p.length]?=some x:=by rw [hs,List.getElem?_append_right (Nat.le_refl _),Nat.sub_self];rfl
  have ek:gQ (ofS s) (.int (p.length:Int))=some (.int x):=by
   show(place (s.map PV.int).length (p.length:Int)).bind _=_
   rw [List.length_map,kP (by omega) (by omega),Option.bind_some,Int.toNat_natCast,List.getElem?_map,hxs]
   rfl
  have hmp:∀y∈p,y∈s:=λy hy=>by rw [hs];exact List.mem_append_left _ hy
  have hpn:p.Nodup:=by
   have:=iI gs.1
   rw [hs]at this
   exact(List.nodup_append.mp this).1
  obtain⟨d1,f1,w4,w5,q1,q2,q3,q4⟩:=B8 cal s (p.length:Int) x ek (gs.2 x (by rw [hs];simp)) a0 p 0 (λm y hm=>by
   rw [Nat.zero_add,hs,List.getElem?_append_left (List.getElem?_eq_some_iff.mp hm).1]
   exact hm) hpn (λy hy=>gs.2 y (hmp y hy)) d f P y4 y5 hd hp ht
  have e:exs cal cX (put [a0,some (.ownD (.t d)),some (.val (ofS s)),y3,y4,y5] 3 (.val (.int (p.length:Int))))=.next [a0,some (.ownD (.t d1)),some (.val (ofS s)),some (.val (.int (p.length:Int))),w4,w5]:=by
   show exs cal [_] [a0,some (.ownD (.t d)),some (.val (ofS s)),some (.val (.int (p.length:Int))),y4,y5]=_
   have hsrc:(evs cal [.bor 3] [a0,some (.ownD (.t d)),some (.val (ofS s)),some (.val (.int (p.length:Int))),y4,y5]).bind (bo .rng)=some ((List.range' 0 p.length).map λ(j:Nat)=>PV.int (j:Int)):=by
    rw [show evs cal [.bor 3] [a0,some (.ownD (.t d)),some (.val (ofS s)),some (.val (.int (p.length:Int))),y4,y5]=some [.int (p.length:Int)] from by simp [evs,ev],Option.bind_some,dg (by omega) (by omega),Int.toNat_natCast,List.range_eq_range']
   rw [ah,cA hsrc,show aX [.bor 3] [a0,some (.ownD (.t d)),some (.val (ofS s)),some (.val (.int (p.length:Int))),y4,y5]=[a0,some (.ownD (.t d)),some (.val (ofS s)),some (.val (.int (p.length:Int))),y4,y5] from rfl,q1,cz,ak,exs,show ∀(b d e:Option MV) (x:Int) (f ρ':Rho),aE [.bor 3] (b::d::e::some (.val (.int x))::f) ρ'=ρ' from λ_ _ _ _ _ _=>rfl]
  have tw:=λt=>sj (p:=p) (x:=x) (by
   have:=gs.1
   rw [hpr]at this
   exact(List.pairwise_append.mp this).1) t
  have hin:∀t,t∈p.map (λy=>[y,x])->jt t:=λt h=>by
   obtain⟨y,hy,rfl⟩:=List.mem_map.mp h
   have a:=gs.2 y (hmp y hy)
   have b:=gs.2 x (by rw [hs];simp)
   exact⟨y,x,rfl,a.1,a.2,b.1,b.2⟩
  obtain⟨d',f',z3,z4,z5,r1,r2,r3,r4⟩:=B9 cal s gs a0 r (p ++ [x]) hpr d1 f1 (λt=>P t\/t∈p.map λy=>[y,x]) (some (.val (.int (p.length:Int)))) w4 w5 q2 q3 (λt h=>h.elim (ht t) (hin t))
  rw [List.length_append,List.length_singleton]at r1
  have sub:∀t,t∈bZ (p ++ [x])->t∈bZ s:=λt h=>by
   rw [hpr]
   have hg:=gs.1
   rw [hpr]at hg
   obtain⟨a,b,e,h1,h2,h3⟩:=(bC (List.pairwise_append.mp hg).1).mp h
   exact(bC hg).mpr ⟨a,b,e,h1,List.mem_append_left _ h2,List.mem_append_left _ h3⟩
  refine⟨d',f',z3,z4,z5,(di (body:=λv ρ'=>exs cal cX (put ρ' 3 (.val v))) e).trans r1,r2,⟨r3.1,λt=>?_⟩,λj=>?_⟩
  ·rw [r3.2 t]
   have a:=(tw t).1
   have b:=(tw t).2
   have c:=sub t
   constructor
   ·rintro ((h|h)|⟨h,h'⟩)
    ·exact .inl h
    ·exact .inr ⟨c (a.mpr (.inr h)),λz=>b ⟨z,h⟩⟩
    ·exact .inr ⟨h,λz=>h' (a.mpr (.inl z))⟩
   ·rintro (h|⟨h,h'⟩)
    ·exact .inl (.inl h)
    ·by_cases z:t∈bZ (p ++ [x])
     ·exact .inl (.inr ((a.mp z).resolve_left h'))
     ·exact .inr ⟨h,z⟩
  ·rw [r4 j,q4 j]
   have a:=(tw j).1
   have b:=(tw j).2
   have c:=sub j
   by_cases z:j∈p.map λy=>[y,x]
   ·rw [if_pos z,if_neg (λw=>w.2 (a.mpr (.inr z))),if_pos ⟨c (a.mpr (.inr z)),λw=>b ⟨w,z⟩⟩]
    omega
   ·by_cases w:j∈bZ s/\j∉bZ p
    ·rw [if_neg z,if_pos w,if_pos ⟨w.1,λv=>(a.mp v).elim w.2 z⟩]
     omega
    ·rw [if_neg z,if_neg w,if_neg λv=>w ⟨v.1,λu=>v.2 (a.mpr (.inl u))⟩]
     omega
theorem sk(n:Nat)(R:List (List Int))(g:bf R):∃M,ab defs (n+1) 44 [.val (ofR R)]=some (.int M)/\pT R M:=by
 obtain⟨d,ρ',e,⟨_,x,y,z,w,rfl⟩,hd,hp,hln⟩:=vt (R:=R) (ge:=ofS) (m:=bZ) (w:=λ_=>1) (Q:=jt) (B:=3600) lb (body:=λv ρ'=>exs (ab defs n) gq (put ρ' 2 (.val v))) (I:=λd ρ=>(∀t∈d.map (·.1),jt t)/\∃x y z w,ρ=[some (.val (ofR R)),some (.ownD (.t d)),x,y,z,w]) (d:=[]) (ρ:=[some (.val (ofR R)),some (.ownD (.t [])),none,none,none,none]) (f:=λ_=>0) (P:=λ_=>False)
  (by
   rintro s hs d ρ f P ⟨hI,x,y,z,w,rfl⟩ hd hp hl
   have gs:=g.1 s hs
   have h60:=aW gs
   obtain⟨d',f',z3,z4,z5,q1,q2,q3,q4⟩:=B9 (ab defs n) s gs (some (.val (ofR R))) s [] rfl d f P y z w hd hp (λt ht=>hI t ((hp.2 t).mpr ht))
   have en:∀t,(t∈bZ s/\t∉bZ []) ↔ t∈bZ s:=λt=>⟨λh=>h.1,λh=>⟨h,λz=>by cases z⟩⟩
   refine⟨d',_,?_,⟨λt ht=>?_,some (.val (ofS s)),z3,z4,z5,rfl⟩,?_,⟨q3.1,λt=>(q3.2 t).trans (or_congr Iff.rfl (en t))⟩⟩
   ·show exs (ab defs n) [_] [some (.val (ofR R)),some (.ownD (.t d)),some (.val (ofS s)),y,z,w]=_
    have hsrc:(evs (ab defs n) [(.blt .len [(.bor 2)])] [some (.val (ofR R)),some (.ownD (.t d)),some (.val (ofS s)),y,z,w]).bind (bo .rng)=some ((List.range' 0 s.length).map λ(j:Nat)=>PV.int (j:Int)):=by
     rw [show evs (ab defs n) [(.blt .len [(.bor 2)])] [some (.val (ofR R)),some (.ownD (.t d)),some (.val (ofS s)),y,z,w]=some [.int (s.length:Int)] from by simp [evs,ev],Option.bind_some,dg (by omega) (by omega),Int.toNat_natCast,List.range_eq_range']
    rw [ah,cA hsrc,show ∀ρ:Rho,aX [(.blt .len [(.bor 2)])] ρ=ρ from λ_=>rfl,show([]:List Int).length=0 from rfl]at *
    rw [q1,cz]
    rfl
   ·rcases(q3.2 t).mp ht with h|h
    ·exact hI t ((hp.2 t).mpr h)
    ·obtain⟨a,b,rfl,_,h1,h2⟩:=(bC gs.1).mp h.1
     have p1:=gs.2 a h1
     have p2:=gs.2 b h2
     exact⟨a,b,rfl,p1.1,p1.2,p2.1,p2.2⟩
   ·refine Eq.mp (congrArg (eB d') ?_) q2
    funext j
    rw [q4 j]
    by_cases q:j∈bZ s
    ·rw [if_pos ((en j).mpr q)]
     simp [q]
    ·rw [if_neg λz=>q z.1]
     simp [q])
  (λs hs t ht=>by
   have gs:=g.1 s hs
   obtain⟨a,b,rfl,_,h1,h2⟩:=(bC gs.1).mp ht
   have p1:=gs.2 a h1
   have p2:=gs.2 b h2
   exact⟨a,b,rfl,p1.1,p1.2,p2.1,p2.2⟩) ⟨(λt ht=>by cases ht),none,none,none,none,rfl⟩ k6 k7 (λ_ z=>z.elim)
 obtain⟨M,ns,e1,hns,e2,h0,h1,h2⟩:=pS hd hp
 refine⟨M,?_,h0,?_,?_⟩
 ·rw [af (d:=fK) rfl rfl]
  have hsrc:(evs (ab defs n) [.bor 0] [some (.val (ofR R)),some (.ownD (.t [])),none,none,none,none]).bind (bo .seq)=some (R.map ofS):=by simp [evs,ev]
  have ev1:ev (ab defs n) (.blt .valuesOf [(.bor 1)]) [some (.val (ofR R)),some (.ownD (.t d)),x,y,z,w]=some (.lst (ns.map .int)):=by
   rw [aJ (v:=.dI (.t d)) (by simp [ev]),g7,if_pos (by unfold gP dSc;rw [List.length_map,List.length_map];omega)]
   show some (PV.lst ((d.map (·.2)).map Sc.pv))=_
   rw [e1]
  have ev2:ev (ab defs n) (.bin .add (.lst [(.cst (.int 0))]) (.blt .valuesOf [(.bor 1)])) [some (.val (ofR R)),some (.ownD (.t d)),x,y,z,w]=some (.lst ((0::ns).map .int)):=by
   rw [dG (x:=.lst [.int 0]) (by simp [ev,evs]) ev1,xv,if_pos (by simp;omega)]
   rfl
  show bT (exs (ab defs n) (_::_::[_]) [some (.val (ofR R)),none,none,none,none,none])=_
  simp only [ah]
  rw [show ex (ab defs n) (.newD true 1) [some (.val (ofR R)),none,none,none,none,none]=.next [some (.val (ofR R)),some (.ownD (.t [])),none,none,none,none] from by rw [ex];rfl,ak,cA hsrc,show aX [.bor 0] [some (.val (ofR R)),some (.ownD (.t [])),none,none,none,none]=[some (.val (ofR R)),some (.ownD (.t [])),none,none,none,none] from rfl,e,cz,ak]
  rw [show ∀ρ,aE [.bor 0] [some (.val (ofR R)),some (.ownD (.t [])),none,none,none,none] ρ=ρ from λ_=>rfl,cN (v:=.int M)]
  ·rfl
  ·rw [aJ ev2,kO,bu,Option.bind_some,e2]
   rfl
 ·refine h1.imp id λ⟨k,hk,ek⟩=>?_
  obtain⟨s,hs,hk⟩:=hk.resolve_left id
  obtain⟨a,b,rfl,hab,ha,hb⟩:=(bC (g.1 s hs).1).mp hk
  refine⟨a,b,hab,⟨s,hs,ha,hb⟩,?_⟩
  rw [<- nG (λs hs=>(g.1 s hs).1) hab,<- ek]
  rw [Int.zero_add]
  exact congrArg List.sum (List.map_congr_left λs _=>by by_cases q:[a,b]∈bZ s<;>simp [q])
 ·intro a b hab
  by_cases q:∃s∈R,a∈s/\b∈s
  ·obtain⟨s,hs,ha,hb⟩:=q
   have:=h2 [a,b] (.inr ⟨s,hs,(bC (g.1 s hs).1).mpr ⟨a,b,rfl,hab,ha,hb⟩⟩)
   rw [<- nG (λs hs=>(g.1 s hs).1) hab]
   refine Int.le_trans (Int.le_of_eq ?_) this
   rw [Int.zero_add]
   exact congrArg List.sum (List.map_congr_left λs _=>by by_cases q:[a,b]∈bZ s<;>simp [q])
  ·rw [mG q]
   exact h0
theorem ju(cal:Cal)(a s:MV):∀(ts acc:List Int) (kk:Option MV),acc.Nodup->(∀x∈acc,0<=x/\x<=59)->(∀x∈ts,0<=x/\x<=59) ->
  ∃kk',aD (λx ρ'=>exs cal cJ (put ρ' 3 (.val x))) (ts.map .int) [some a,some (.own (acc.map .int)),some s,kk]=.next [some a,some (.own ((ts.foldl fV acc).map .int)),some s,kk']
 | [],acc,kk,_,_,_=>⟨kk,rfl⟩
 | t::ts,acc,kk,h1,h2,h3=>by
  rw [List.map_cons,aD]
  have hl:acc.length<10000:=by have:=xE (R:=[]) h1 h2;omega
  have e:exs cal cJ (put [some a,some (.own (acc.map .int)),some s,kk] 3 (.val (.int t)))=.next [some a,some (.own ((fV acc t).map .int)),some s,some (.val (.int t))]:=by
   by_cases q:t∈acc
   ·simp [cJ,exs,ex,ev,evB,bP,fV,q]
   ·simp [cJ,exs,ex,ev,evB,bP,fV,q,hl]
  rw [e]
  obtain⟨q1,q2⟩:=qV (h:=t) h1
  exact ju cal a s ts (fV acc t) _ q1 (λx hx=>((q2 x).mp hx).elim (h2 x) λz=>z ▸ h3 t (.head _)) λx hx=>h3 x (.tail _ hx)
theorem ll(cal:Cal)(a:MV):∀(R:List (List Int)) (acc:List Int) (s kk:Option MV),acc.Nodup->(∀x∈acc,0<=x/\x<=59)->(∀ts∈R,∀x∈ts,0<=x/\x<=59) ->
  ∃s' kk',aD (λx ρ'=>exs cal du (put ρ' 2 (.val x))) (R.map ofS) [some a,some (.own (acc.map .int)),s,kk]=.next [some a,some (.own ((R.foldl (λacc ts=>ts.foldl fV acc) acc).map .int)),s',kk']
 | [],acc,s,kk,_,_,_=>⟨s,kk,rfl⟩
 | t::R,acc,s,kk,h1,h2,h3=>by
  rw [List.map_cons,aD]
  obtain⟨k',e2⟩:=ju cal a (.val (ofS t)) t acc kk h1 h2 (h3 t (.head _))
  have e:exs cal du (put [some a,some (.own (acc.map .int)),s,kk] 2 (.val (ofS t)))=.next [some a,some (.own ((t.foldl fV acc).map .int)),some (.val (ofS t)),k']:=by
   simp [du,exs,ex,ev,evs,aX,e2,aE]
  rw [e]
  obtain⟨q1,q2⟩:=lc t acc h1
  exact ll cal a R _ _ _ q1 (λx hx=>((q2 x).mp hx).elim (h2 x) λz=>h3 t (.head _) x z) λts hts=>h3 ts (.tail _ hts)
theorem qW(n:Nat)(R:List (List Int))(g:∀ts∈R,c9 ts):ab defs (n+1) 40 [.val (ofR R)]=some (ofL (aP R)):=by
 rw [af (d:=eN) rfl rfl]
 obtain⟨s',k',e⟩:=ll (ab defs n) (.val (ofR R)) R [] none none List.nodup_nil (λx h=>by cases h) λts hts=>(g ts hts).2
 have hl:(iP R).length<64:=by have:=sh g;omega
 simp only [List.map_nil]at e
 have e':R.foldl (λacc ts=>ts.foldl fV acc) []=iP R:=rfl
 rw [e']at e
 simp [eN,exs,ex,ev,evs,aX,e,aE,i_ hl,aP]
theorem vA(n:Nat)(R:List (List Int))(g:bf R):ab defs (n+2) 45 [.val (ofR R)]=some (.bl (hv R)):=by
 rw [af (d:=dh) rfl rfl]
 have es:=Ak n R g
 have eh:=qW n R g.1
 obtain⟨M,em,hM⟩:=sk n R g
 have h60:=aW (cB g.1)
 have ea:ev (ab defs (n+1)) (.bin .mul (.cst (.int 4)) (.call 43 [(.bor 0)])) [some (.val (ofR R))]=some (.int (4*(R.map wgt).sum)):=by
  rw [dG (dF _ _ _) (aA (vs:=[.val (ofR R)]) (by simp [evA]) es),jN,if_pos (.inl ⟨by decide,by decide⟩)]
 have eb:ev (ab defs (n+1)) (.bin .mul (.bin .pow (.cst (.int 2)) (.cst (.int 60))) (.call 44 [(.bor 0)])) [some (.val (ofR R))]=some (.int (1152921504606846976*M)):=by
  rw [dG (x4 _ _) (aA (vs:=[.val (ofR R)]) (by simp [evA]) em),jN,if_pos (.inl ⟨by decide,by decide⟩)]
 have ed:ev (ab defs (n+1)) (.bin .fdiv (.blt .len [(.call 40 [(.bor 0)])]) (.cst (.int 2))) [some (.val (ofR R))]=some (.int (((aP R).length:Int) / 2)):=by
  refine jR ?_ (by decide)
  rw [aJ (aA (vs:=[.val (ofR R)]) (by simp [evA]) eh),uX,List.length_map]
 show bT (exs (ab defs (n+1)) [.ret _] [some (.val (ofR R))])=_
 rw [ah,cN (v:=.bl (hv R))]
 ·rfl
 ·rw [gu ea (dG eb ed |>.trans (by rw [jN,if_pos (.inr ⟨by omega,by omega⟩)])),z_]
  have:decide (1152921504606846976*M*(((aP R).length:Int) / 2)<4*(R.map wgt).sum)=hv R:=by
   rw [Bool.eq_iff_iff,vw,decide_eq_true_iff]
   constructor
   ·exact λh=>⟨M,hM,h⟩
   ·rintro ⟨N,hN,h⟩
    rw [mH hM hN]
    exact h
  rw [this]
  rfl
theorem sm (n:Nat) (R:List (List Int)) (g:bf R):ab defs (n+3) 46 [.val (ofR R),.val (.str "weaver")]=some (.bl (hv R))/\ab defs (n+3) 46 [.val (ofR R),.val (.str "moth")]=some (.bl (decide ([]∈R) || (hv R&&(aP R).all λh=>hv (fq h R)))):=by
 have e1:=vA n R g
 have eh:=qW (n+1) R g.1
 have h60:=aW (cB g.1)
 constructor
 ·rw [af (d:=bI) rfl rfl]
  show bT (exs (ab defs (n+2)) (.ite _ [_] []::_) [some (.val (ofR R)),some (.val (.str "weaver"))])=_
  rw [ah,ex,show evB (ab defs (n+2)) (.cmp .eq (.bor 1) (.cst (.str "weaver"))) [some (.val (ofR R)),some (.val (.str "weaver"))]=some true from by simp [evB,ev],de,if_pos rfl,ah,cN (aA (vs:=[.val (ofR R)]) (by simp [evA]) e1)]
  rfl
 ·rw [af (d:=bI) rfl rfl]
  show bT (exs (ab defs (n+2)) (.ite _ _ []::.ite _ [_] []::.ite _ [_] []::[_]) [some (.val (ofR R)),some (.val (.str "moth"))])=_
  simp only [ah]
  have h:((("moth":PySem.Str) == ("weaver":PySem.Str)))=false:=by decide
  rw [ex,show evB (ab defs (n+2)) (.cmp .eq (.bor 1) (.cst (.str "weaver"))) [some (.val (ofR R)),some (.val (.str "moth"))]=some false from by simp [evB,ev,h],de,if_neg (by decide),exs,ak]
  have ew:evB (ab defs (n+2)) (.cmp .isIn (.tup []) (.bor 0)) [some (.val (ofR R)),some (.val (.str "moth"))]=some (decide ([]∈R)):=by
   refine nA ((gu (x:=ofS []) (y:=ofR R) (by simp [ev,evs]) (by simp [ev])).trans ?_)
   rw [qN,nv]
   rfl
  rw [ex,ew,de]
  by_cases q:[]∈R
  ·rw [decide_eq_true q,if_pos rfl,ah,cN (v:=.bl true) (by simp [ev])]
   rfl
  ·rw [decide_eq_false q,if_neg (by decide),exs,ak,Bool.false_or]
   have en:evB (ab defs (n+2)) (.not (.call 45 [(.bor 0)])) [some (.val (ofR R)),some (.val (.str "moth"))]=some (!hv R):=by
    refine nA ?_
    rw [ev,aA (vs:=[.val (ofR R)]) (by simp [evA]) e1]
    rfl
   rw [ex,en,de]
   cases hv R with
   |false =>
    rw [if_pos (by decide),ah,cN (v:=.bl false) (by simp [ev])]
    rfl
   | true =>
    rw [if_neg (by decide),exs,ak,Bool.true_and]
    have ec:ev (ab defs (n+2)) (.comp .seq [(.call 40 [(.bor 0)])] [0] (.cst (.bl true)) (.call 45 [(.call 39 [(.bor 1),(.bor 0)])])) [some (.val (ofR R)),some (.val (.str "moth"))]=some (.lst (((aP R).map λh=>hv (fq h R)).map .bl)):=by
     refine(dR (g:=PV.int) (h:=λh=>.bl (hv (fq h R))) (vs:=[ofL (aP R)]) ?_ rfl (by omega) λh _=>?_).trans (by rw [List.map_map];rfl)
     ·rw [evs,aA (vs:=[.val (ofR R)]) (by simp [evA]) eh]
      simp [evs]
     ·exact vf (λ_ z=>by cases z) (aA (vs:=[.val (ofR R),.val (.int h)]) (by simp [evA,c8]) (nD (n+1) R h (by have:=g.2.2;omega))) (vA n (fq h R) (mE g))
    rw [cN (v:=.bl ((aP R).all λh=>hv (fq h R)))]
    ·rfl
    ·rw [aJ ec,qO,fD,Option.map_some,List.all_map]
     rfl
theorem xG{t:List Int}(h:c9 t):(dd t).length<=60:=by rw [x3 (iI h.1)];exact aW h
noncomputable def pV:Option Nat->PV
 |none=>.non
 |some i=>.int i
noncomputable def nI(s:List Int)(R:List (List Int)):Option Nat:=R.findIdx? λt=>sub t s
theorem lm(n:Nat)(s:List Int)(a b:Option MV)(hs:s.length<=1000)(ha:a=some (.val (ofS s))):∀(R:List (List Int)) (k:Nat) (x y:Option MV),(∀t∈R,c9 t) ->
  (∀i,nI s R=some i->aD (λx ρ'=>dH (fb [2,3] x ρ') λρ''=>exs (ab defs (n+1)) bh ρ'') (bi k (R.map ofS)) [a,b,x,y]=.ret (.int ((k+i:Nat):Int))) /\
  (nI s R=none->∃x' y',aD (λx ρ'=>dH (fb [2,3] x ρ') λρ''=>exs (ab defs (n+1)) bh ρ'') (bi k (R.map ofS)) [a,b,x,y]=.next [a,b,x',y'])
 | [],k,x,y,_=>⟨λi h=>(by cases h),λ_=>⟨x,y,rfl⟩⟩
 | t::R,k,x,y,h=>by
  subst ha
  have e:=sd n (.val (ofS s)) (.val (ofS t)) s t rfl rfl hs (by have:=aW (h t (.head _));omega) (xG (h t (.head _)))
  rw [List.map_cons,bi,aD]
  unfold nI
  rw [List.findIdx?_cons]
  cases hp:sub t s with
  | true =>
   rw [hp]at e
   have e2:(dH (fb [2,3] (.tup [.int (k:Nat),ofS t]) [some (.val (ofS s)),b,x,y]) λρ''=>exs (ab defs (n+1)) bh ρ'')=.ret (.int (k:Nat)):=by
    simp [fb,ko,bh,exs,ex,ev,evs,evB,evA,e]
   rw [e2]
   exact⟨λi hi=>(by simp at hi;subst hi;rfl),λhi=>(by simp at hi)⟩
  | false =>
   rw [hp]at e
   have e2:(dH (fb [2,3] (.tup [.int (k:Nat),ofS t]) [some (.val (ofS s)),b,x,y]) λρ''=>exs (ab defs (n+1)) bh ρ'')=.next [some (.val (ofS s)),b,some (.val (.int (k:Nat))),some (.val (ofS t))]:=by
    simp [fb,ko,bh,exs,ex,ev,evs,evB,evA,e]
   rw [e2]
   obtain⟨h1,h2⟩:=lm n s (some (.val (ofS s))) b hs rfl R (k+1) (some (.val (.int (k:Nat)))) (some (.val (ofS t))) λu hu=>h u (.tail _ hu)
   constructor
   ·intro i hi
    simp only [Bool.false_eq_true,if_false,Option.map_eq_some_iff]at hi
    obtain⟨j,hj,rfl⟩:=hi
    rw [show k+(j+1)=k+1+j by omega]
    exact h1 j hj
   ·intro hi
    simp only [Bool.false_eq_true,if_false,Option.map_eq_none_iff]at hi
    exact h2 hi
theorem xH(n:Nat)(s:List Int)(R:List (List Int))(hs:s.length<=1000)(g:∀t∈R,c9 t):ab defs (n+2) 12 [.val (ofS s),.val (ofR R)]=some (pV (nI s R)):=by
 rw [af (d:=cH) rfl rfl]
 obtain⟨h1,h2⟩:=lm n s (some (.val (ofS s))) (some (.val (ofR R))) hs rfl R 0 none none g
 cases hf:nI s R with
 |some i =>
  have e:=h1 i hf
  rw [Nat.zero_add]at e
  simp [cH,exs,ex,ev,evs,bo,aX,e,pV]
 |none =>
  obtain⟨x',y',e⟩:=h2 hf
  simp [cH,exs,ex,ev,evs,bo,aX,e,pV,aE]
noncomputable def vB(A B:List (List Int)):List (Option Nat):=A.map λs=>nI s B
theorem sn(n:Nat)(A B:List (List Int))(ga:bf A)(gb:bf B):ab defs (n+3) 13 [.val (ofR A),.val (ofR B)]=some (.lst ((vB A B).map pV)):=by
 rw [af (d:=gF) rfl rfl]
 have hl:A.length<=10000:=by have:=ga.2.2;omega
 simp [gF,exs,ex,ev,evs,hl]
 rw [kN (h:=λs=>pV (nI s B))]
 ·simp [vB]
 ·intro c _
  simp [ev]
 ·intro c hc
  simp [ev,evA,c8,xH n c B (by have:=aW (ga.1 c hc);omega) gb.1]
theorem o7:∀F:List (Option Nat),isIn .non (F.map pV)=some (decide (none∈F))
 | []=>rfl
 |o::F=>by
  have ih:=o7 F
  unfold isIn at ih ⊢
  rw [List.map_cons,inL,ih]
  cases o<;>simp [pV,eqF]
noncomputable def below(A B:List (List Int)):Bool:=decide (none∉vB A B)
theorem pW(n:Nat)(A B:List (List Int))(ga:bf A)(gb:bf B):ab defs (n+4) 14 [.val (ofR A),.val (ofR B)]=some (.bl (below A B)):=by
 rw [af (d:=fI) rfl rfl]
 simp [fI,exs,ex,ev,evs,evA,sn n A B ga gb,o7,below]
theorem nJ {n:Nat}{A R:List (List Int)} (gA:bf A) (g:bf R) {p:PV}{x:Bool} (t h:Bool) (hp:ab defs (n+4) 28 [.val p,.val (ofR A),.val (.str (bG t)),.val (.str "weaver")]=some (.bl x)) :
  ab defs (n+6) 28 [.val (.tup [.str "fewer",ofR A,p]),.val (ofR R),.val (.str (bG t)),.val (.str (bG h))]=some (.bl (!h&&below A R&&x)):=by
 cases h with
 |true =>
  refine gM ?_
  rw [af (d:=aR) rfl rfl]
  cases t<;>simp [aR,exs,ex,ev,evs,evB,evA,place,dw,bG]
 |false =>
  have e:=pW n A R gA g
  refine gW ?_
  rw [af (d:=aI) rfl rfl]
  cases hb:below A R<;>rw [hb]at e<;>simp [aI,exs,ex,ev,evs,evB,evA,place,dw,e,hp]
theorem vC(n:Nat)(a b:List Int):ab defs (n+1) 41 [.val (ofS a),.val (ofS b)]=some (.bl (sub a b)):=by
 rw [af (d:=cW) rfl rfl]
 have key:=hX (g:=PV.int) (xs:=a) (body:=λx ρ'=>exs (ab defs n) cV (put ρ' 2 (.val x))) (I:=λρ=>∃kk,ρ=[some (.val (ofS a)),some (.val (ofS b)),kk]) (p:=λx=>!decide (x∈b)) (r:=λ_=>.bl false)
  (ρ:=[some (.val (ofS a)),some (.val (ofS b)),none]) ⟨_,rfl⟩ (by
   rintro x hx ρ ⟨kk,rfl⟩
   constructor
   ·intro h
    simp at h
    simp [cV,exs,ex,ev,evs,evB,bP,h]
   ·intro h
    simp at h
    exact⟨[some (.val (ofS a)),some (.val (ofS b)),some (.val (.int x))],⟨_,rfl⟩,by simp [cV,exs,ex,ev,evs,evB,bP,h]⟩)
 cases hf:a.find? (λx=>!decide (x∈b)) with
 | some x =>
  have e:=key.1 x hf
  have hx:=List.find?_some hf
  have hm:=List.mem_of_find?_eq_some hf
  have:sub a b=false:=by
   cases hs:sub a b with
   |false=>rfl
   |true=>simp [nF.mp hs x hm]at hx
  simp [cW,exs,ex,ev,evs,aX,e,this]
 | none =>
  obtain⟨ρ',⟨kk,rfl⟩,e⟩:=key.2 hf
  have:sub a b=true:=nF.mpr λx hx=>by
   have:=List.find?_eq_none.mp hf x hx
   simpa using this
  simp [cW,exs,ex,ev,evs,aX,e,this,aE]
theorem sr{s:List Int}{R:List (List Int)}(h:∃t∈R,sub t s=true):nI s R≠none:=λz=>by
 obtain⟨t,ht,q⟩:=h
 have:=List.findIdx?_eq_none_iff.mp z t ht
 rw [q]at this
 cases this
theorem vD{A B:List (List Int)}(h:∀s∈A,∃t∈B,sub t s=true):below A B=true:=by
 unfold below vB
 rw [decide_eq_true_iff,List.mem_map]
 rintro ⟨s,hs,e⟩
 exact sr (h s hs) e
noncomputable def vE(A R:List (List Int)):Bool:=A.all λs=>R.any λo=>sub o s
theorem vF(n:Nat)(A R:List (List Int))(hR:R.length<=10000):ab defs (n+2) 42 [.val (ofR A),.val (ofR R)]=some (.bl (vE A R)):=by
 rw [af (d:=gp) rfl rfl]
 have key:=hX (g:=ofS) (xs:=A) (body:=λx ρ'=>exs (ab defs (n+1)) dv (put ρ' 2 (.val x))) (I:=λρ=>∃kk,ρ=[some (.val (ofR A)),some (.val (ofR R)),kk]) (p:=λs=>!R.any λo=>sub o s) (r:=λ_=>.bl false)
  (ρ:=[some (.val (ofR A)),some (.val (ofR R)),none]) ⟨_,rfl⟩ (by
   rintro s hs ρ ⟨kk,rfl⟩
   have c1:ev (ab defs (n+1)) (.comp .seq [(.bor 1)] [2] (.cst (.bl true)) (.call 41 [(.bor 0),(.bor 1)])) [some (.val (ofR A)),some (.val (ofR R)),some (.val (ofS s))]=some (.lst ((R.map λo=>sub o s).map .bl)):=by
    rw [List.map_map]
    refine dR (vs:=[ofR R]) (g:=ofS) (by simp [evs,ev]) rfl hR λo _=>?_
    exact aA (vs:=[.val (ofS o),.val (ofS s)]) (by simp [evA,c8]) (vC n o s)
   have c2:ev (ab defs (n+1)) (.not (.blt .any [(.comp .seq [(.bor 1)] [2] (.cst (.bl true)) (.call 41 [(.bor 0),(.bor 1)]))])) [some (.val (ofR A)),some (.val (ofR R)),some (.val (ofS s))]=some (.bl (!R.any λo=>sub o s)):=by
    have:ev (ab defs (n+1)) (.blt .any [(.comp .seq [(.bor 1)] [2] (.cst (.bl true)) (.call 41 [(.bor 0),(.bor 1)]))]) [some (.val (ofR A)),some (.val (ofR R)),some (.val (ofS s))]=some (.bl (R.any λo=>sub o s)):=by
     rw [aJ c1,xx,fD]
     simp
    rw [ev,this]
    rfl
   have st:exs (ab defs (n+1)) dv (put [some (.val (ofR A)),some (.val (ofR R)),kk] 2 (.val (ofS s)))=if (!R.any λo=>sub o s)=true then .ret (.bl false) else .next [some (.val (ofR A)),some (.val (ofR R)),some (.val (ofS s))]:=by
    show exs (ab defs (n+1)) [.ite _ [.ret _] []] [some (.val (ofR A)),some (.val (ofR R)),some (.val (ofS s))]=_
    rw [ah,ex,nA c2,de]
    split
    ·simp [exs,ex,ev]
    ·simp [exs]
   exact⟨λh=>by rw [st,if_pos h],λh=>⟨_,⟨_,rfl⟩,by rw [st,if_neg (by rw [h];decide)]⟩⟩)
 show bT (exs (ab defs (n+1)) [.for1 2 .seq [(.bor 0)] dv,.ret _] [some (.val (ofR A)),some (.val (ofR R)),none])=_
 rw [ah,cA (xs:=A.map ofS) (by simp [evs,ev]),show aX [(.bor 0)] [some (.val (ofR A)),some (.val (ofR R)),none]=[some (.val (ofR A)),some (.val (ofR R)),none] from rfl]
 unfold vE
 cases hf:A.find? (λs=>!R.any λo=>sub o s) with
 | some s =>
  rw [key.1 s hf]
  have:(A.all λs=>R.any λo=>sub o s)=false:=by
   cases q:A.all λs=>R.any λo=>sub o s with
   |false=>rfl
   |true =>
    have h1:=List.all_eq_true.mp q s (List.mem_of_find?_eq_some hf)
    have h2:=List.find?_some hf
    rw [h1]at h2
    cases h2
  rw [this]
  rfl
 | none =>
  obtain⟨ρ',⟨kk,rfl⟩,e⟩:=key.2 hf
  have:(A.all λs=>R.any λo=>sub o s)=true:=List.all_eq_true.mpr λs hs=>by
   have:=List.find?_eq_none.mp hf s hs
   simpa using this
  rw [e,this]
  simp [exs,ex,ev,aE]
theorem vG{A B:List (List Int)}(h:below A B=true):∀s∈A,∃t∈B,sub t s=true:=λs hs=>by
 cases e:nI s B with
 |none =>
  unfold below vB at h
  rw [decide_eq_true_iff]at h
  exact absurd (List.mem_map.mpr ⟨s,hs,e⟩) h
 |some k =>
  obtain⟨hk,q,_⟩:=List.findIdx?_eq_some_iff_getElem.mp e
  exact⟨_,List.getElem_mem hk,q⟩
theorem ln(A R:List (List Int)):vE A R=below A R:=by
 cases h:vE A R with
 | true=>exact (vD λs hs=>by
   obtain⟨o,ho,e⟩:=List.any_eq_true.mp (List.all_eq_true.mp h s hs)
   exact⟨o,ho,e⟩).symm
 | false =>
  cases h2:below A R with
  |false=>rfl
  | true =>
   have:vE A R=true:=List.all_eq_true.mpr λs hs=>List.any_eq_true.mpr (by
    obtain⟨o,ho,e⟩:=vG h2 s hs
    exact⟨o,ho,e⟩)
   rw [this]at h
   cases h
theorem vH{α β:Type}(f:α->β):∀(l:List α) (k:Nat),(l.map f).eraseIdx k=(l.eraseIdx k).map f
 | [],_=>rfl
 | _::_,0=>rfl
 |x::l,k+1=>by simp [vH f l k]
theorem Al{l:List Int}(h:l.Pairwise (· < ·)):l.Nodup:=h.imp λh e=>by omega
noncomputable def Hol(m:List Int):Prop:=m.Nodup/\∀x∈m,0<=x/\x<=59
theorem mI(cal:Cal)(a0:Option MV)(many:Int)(h1:2<=many)(h2:many<=9):∀(xs:List PV) (left:Int) (m:List Int) (y:Option MV),Hol m->m.length+xs.length<=100 ->
  ∃left' m' y',Hol m'/\m'.length<=m.length+xs.length/\aD (λx ρ'=>exs cal cY (put ρ' 4 (.val x))) xs [a0,some (.val (.int left)),some (.val (.int many)),some (.own (m.map .int)),y]=.next [a0,some (.val (.int left')),some (.val (.int many)),some (.own (m'.map .int)),y']
 | [],left,m,y,h,_=>⟨left,m,y,h,Nat.le_refl _,rfl⟩
 | x::xs,left,m,y,h,hl=>by
  rw [List.length_cons]at hl
  have p1:0<many+3:=by omega
  have hlt:m.length<10000:=by omega
  obtain⟨z,hz⟩:∃z,z=left / 16 % (many+3):=⟨_,rfl⟩
  have z0:0<=z:=by rw [hz];exact Int.emod_nonneg _ (by omega)
  have z1:z<many+3:=by rw [hz];exact Int.emod_lt_of_pos _ p1
  have e:exs cal cY (put [a0,some (.val (.int left)),some (.val (.int many)),some (.own (m.map .int)),y] 4 (.val x))=.next [a0,some (.val (.int (left / 16))),some (.val (.int many)),some (.own ((if z∈m then m else m ++ [z]).map .int)),some (.val x)]:=by
   by_cases q:z∈m
   ·have q':=q
    rw [hz]at q'
    simp [cY,exs,ex,ev,evs,evB,p1,bP,q,q']
   ·have q':=q
    rw [hz]at q'
    simp [cY,exs,ex,ev,evs,evB,p1,bP,q,q',hlt,<- hz]
  have hm:Hol (if z∈m then m else m ++ [z]):=by
   split
   ·exact h
   ·rename_i q
    refine⟨List.nodup_append.mpr ⟨h.1,by simp,λa ha b hb z2=>by rw [List.mem_singleton.mp hb]at z2;exact q (z2 ▸ ha)⟩,λx hx=>?_⟩
    rcases List.mem_append.mp hx with hx|hx
    ·exact h.2 x hx
    ·rw [List.mem_singleton.mp hx];omega
  have hml:(if z∈m then m else m ++ [z]).length<=m.length+1:=by
   split
   ·omega
   ·simp
  obtain⟨l',m',y',i1,i2,i3⟩:=mI cal a0 many h1 h2 xs (left / 16) _ (some (.val x)) hm (by omega)
  exact⟨l',m',y',i1,by rw [List.length_cons];omega,by rw [di e,i3]⟩
theorem Am(n:Nat)(s:List Int)(g:c9 s)(hs:s.length<=7)(left many:Int)(h1:2<=many)(h2:many<=9):∃m,Hol m/\m.length<=10/\ab defs (n+1) (47+1000) [.val (ofS s),.val (.int left),.val (.int many)]=some (.lst (m.map .int)):=by
 rw [r_ (f:=47) (d:=hW) (by decide) rfl rfl rfl]
 obtain⟨q,hq⟩:∃q:Nat,left % 3=(q:Int):=⟨(left % 3).toNat,by omega⟩
 have hq3:q<3:=by omega
 have hsrc:(evs (ab defs n) [(.bin .mod (.bor 1) (.cst (.int 3)))] [some (.val (ofS s)),some (.val (.int left)),some (.val (.int many)),some (.own (s.map .int)),none]).bind (bo .rng)=some ((List.range q).map λ(k:Nat)=>PV.int (k:Int)):=by
  rw [show evs (ab defs n) [(.bin .mod (.bor 1) (.cst (.int 3)))] [some (.val (ofS s)),some (.val (.int left)),some (.val (.int many)),some (.own (s.map .int)),none]=some [.int (q:Int)] from by simp [evs,ev,hq],Option.bind_some,dg (by omega) (by omega)]
  simp
 obtain⟨l',m',y',hm,hml,e⟩:=mI (ab defs n) (some (.val (ofS s))) many h1 h2 ((List.range q).map λ(k:Nat)=>PV.int (k:Int)) left s none ⟨Al g.1,g.2⟩ (by simp;omega)
 rw [List.length_map,List.length_range]at hml
 refine⟨m',hm,by omega,?_⟩
 show zX (exs (ab defs n) (.setOwn 3 _::.for1 _ _ _ _::[.retO 3]) [some (.val (ofS s)),some (.val (.int left)),some (.val (.int many)),none,none])=_
 rw [ah,show ex (ab defs n) (.setOwn 3 (.blt .listOf [(.bor 0)])) [some (.val (ofS s)),some (.val (.int left)),some (.val (.int many)),none,none]=.next [some (.val (ofS s)),some (.val (.int left)),some (.val (.int many)),some (.own (s.map .int)),none] from by rw [ex,aJ (v:=ofS s) (by simp [ev])];rfl,ak,ah,cA hsrc,show aX [(.bin .mod (.bor 1) (.cst (.int 3)))] [some (.val (ofS s)),some (.val (.int left)),some (.val (.int many)),some (.own (s.map .int)),none]=[some (.val (ofS s)),some (.val (.int left)),some (.val (.int many)),some (.own (s.map .int)),none] from rfl,e]
 rfl
noncomputable def ca(R:List (List Int))(way:Int)(P:List Int)(many:Int)(M:List (List Int))(y5 y6:Option MV):Rho:=[some (.val (ofR R)),some (.val (.int way)),some (.val (ofL P)),some (.val (.int many)),some (.ownL (M.map λm=>m.map .int)),y5,y6]
theorem jv(n:Nat){R:List (List Int)}(g:bf R)(h7:∀t∈R,t.length<=7)(hR:0<R.length)(way:Int)(P:List Int)(many:Int)(h1:2<=many)(h2:many<=9):∀(ps:List Int) (M:List (List Int)) (y5 y6:Option MV),(∀m∈M,Hol m/\m.length<=10)->M.length+ps.length<=50 ->
  ∃M' y5',(∀m∈M',Hol m/\m.length<=10)/\M'.length<=M.length+ps.length/\aD (λx ρ'=>exs (ab defs (n+1)) cZ (put ρ' 5 (.val x))) (ps.map .int) (ca R way P many M y5 y6)=.next (ca R way P many M' y5' y6)
 | [],M,y5,y6,h,_=>⟨M,y5,h,Nat.le_refl _,rfl⟩
 | p::ps,M,y5,y6,h,hl=>by
  rw [List.length_cons]at hl
  obtain⟨k,hk⟩:∃k:Nat,p % (R.length:Int)=(k:Int):=⟨(p % (R.length:Int)).toNat,by have:=Int.emod_nonneg p (show(R.length:Int)≠0 by omega);omega⟩
  have hk2:k<R.length:=by have:=Int.emod_lt_of_pos p (show(0:Int)<(R.length:Int) by omega);omega
  obtain⟨m,hm,hml,em⟩:=Am n R[k] (g.1 _ (List.getElem_mem hk2)) (h7 _ (List.getElem_mem hk2)) (p / 64) many h1 h2
  have ei:ev (ab defs (n+1)) (.idx (.bor 0) (.bin .mod (.bor 5) (.blt .len [(.bor 0)]))) (ca R way P many M (some (.val (.int p))) y6)=some (ofS R[k]):=by
   rw [vg (x:=ofR R) (y:=.int (k:Int)) (by simp [ev,ca]) (by
    rw [dG (x:=.int p) (y:=.int (R.length:Int)) (by simp [ev,ca]) (by rw [aJ (v:=ofR R) (by simp [ev,ca])];simp),jO,if_pos (by omega),hk])]
   simp [ofR,place,hk2]
  have st:exs (ab defs (n+1)) cZ (put (ca R way P many M y5 y6) 5 (.val (.int p)))=.next (ca R way P many (M ++ [m]) (some (.val (.int p))) y6):=by
   show exs (ab defs (n+1)) [.appF 4 _ _] (ca R way P many M (some (.val (.int p))) y6)=_
   refine kX ?_
   have ea:evA (ab defs (n+1)) [(.idx (.bor 0) (.bin .mod (.bor 5) (.blt .len [(.bor 0)]))),(.bin .fdiv (.bor 5) (.cst (.int 64))),(.bor 3)] (ca R way P many M (some (.val (.int p))) y6)=some [.val (ofS R[k]),.val (.int (p / 64)),.val (.int many)]:=by
    rw [evA,ei]
    ·simp [evA,ev,ca]
    ·intro i z;cases z
   rw [ex,ea,Option.bind_some,em]
   show(if (M.map λm=>m.map PV.int).length<10000 then _ else _)=_
   rw [if_pos (by rw [List.length_map];omega)]
   show MM.R.next [_,_,_,_,some (.ownL ((M.map λm=>m.map PV.int) ++ [m.map .int])),_,_]=_
   rw [show(M.map λm=>m.map PV.int) ++ [m.map .int]=(M ++ [m]).map λm=>m.map PV.int from by rw [List.map_append];rfl]
   rfl
  obtain⟨M',y5',i1,i2,i3⟩:=jv n g h7 hR way P many h1 h2 ps (M ++ [m]) (some (.val (.int p))) y6 (λu hu=>by
   rcases List.mem_append.mp hu with hu|hu
   ·exact h u hu
   ·rw [List.mem_singleton.mp hu];exact⟨hm,hml⟩) (by simp;omega)
  exact⟨M',y5',i1,by rw [List.length_cons];simp at i2;omega,by rw [List.map_cons,di st,i3]⟩
theorem B_(cal:Cal)(R:List (List Int))(way:Int)(P:List Int)(many:Int)(M:List (List Int))(y5 y6:Option MV):ev cal (.lenL 4) (ca R way P many M y5 y6)=some (.int (M.length:Int)):=by
 rw [ev]
 show some (PV.int (((M.map λm=>m.map PV.int).length:Nat):Int))=_
 rw [List.length_map]
theorem lenI(cal:Cal)(R:List (List Int))(way:Int)(P:List Int)(many:Int)(M:List (List Int))(y5:Option MV){q:Nat}(hq:q<M.length):ev cal (.lenI 4 (.bor 6)) (ca R way P many M y5 (some (.val (.int (q:Int)))))=some (.int ((M[q]).length:Int)):=by
 rw [ev,show ev cal (.bor 6) (ca R way P many M y5 (some (.val (.int (q:Int)))))=some (.int (q:Int)) from by simp [ev,ca],Option.bind_some]
 show(place (M.map λm=>m.map PV.int).length (q:Int)).bind _=_
 rw [show place (M.map λm=>m.map PV.int).length (q:Int)=some q from by
  unfold place
  rw [if_pos (by omega),if_pos (by rw [List.length_map];omega)]
  simp,Option.bind_some,List.getElem?_map,List.getElem?_eq_getElem hq]
 simp
theorem vI(n:Nat){R:List (List Int)}(g:bf R)(h7:∀t∈R,t.length<=7)(hR:0<R.length)(way:Int)(P:List Int)(hP:P.length<=20)(many:Int)(h1:2<=many)(h2:many<=9):∃S,bf S/\S.flatten.length<=1000/\ab defs (n+2) 48 [.val (ofR R),.val (.int way),.val (ofL P),.val (.int many)]=some (ofR S):=by
 rw [af (d:=fL) rfl rfl]
 obtain⟨M,y5,hM,lM,eM⟩:=jv n g h7 hR way P many h1 h2 P [] none none (λm h=>by cases h) (by simp;omega)
 simp only [List.length_nil,Nat.zero_add]at lM
 obtain⟨M2,y6,hM2,lM2,e2⟩:∃(M2:List (List Int)) (y6:Option MV),(∀m∈M2,Hol m/\m.length<=10)/\M2.length<=20/\ex (ab defs (n+1)) (.ite (.and (.cmp .gt (.lenL 4) (.cst (.int 0))) (.cmp .eq (.bin .mod (.bin .fdiv (.bor 1) (.cst (.int 64))) (.cst (.int 2))) (.cst (.int 1))))
   [.set 6 (.bin .mod (.bin .fdiv (.bor 1) (.cst (.int 128))) (.lenL 4)),
   .ite (.and (.cmp .eq (.bin .mod (.bin .fdiv (.bor 1) (.cst (.int 1024))) (.cst (.int 2))) (.cst (.int 1))) (.cmp .gt (.lenI 4 (.bor 6)) (.cst (.int 0))))
    [.popI 4 (.bor 6) (.bin .mod (.bin .fdiv (.bor 1) (.cst (.int 2048))) (.lenI 4 (.bor 6)))]
    [.setI 4 (.bor 6) (.lst [(.bin .mod (.bin .fdiv (.bor 1) (.cst (.int 2048))) (.cst (.int 60)))])]] []) (ca R way P many M y5 none)=.next (ca R way P many M2 y5 y6):=by
  have c1:ev (ab defs (n+1)) (.cmp .gt (.lenL 4) (.cst (.int 0))) (ca R way P many M y5 none)=some (.bl (decide (0<M.length))):=by
   rw [gu (B_ _ R way P many M y5 none) (dF _ _ _)]
   simp
  have c2:∀(d:Int) (y:Option MV),0<d->d<1073741824->ev (ab defs (n+1)) (.cmp .eq (.bin .mod (.bin .fdiv (.bor 1) (.cst (.int d))) (.cst (.int 2))) (.cst (.int 1))) (ca R way P many M y5 y)=some (.bl (way / d % 2 == 1)):=λd y h h'=>ve (jR (x:=way) (by simp [ev,ca]) ⟨h,h'⟩) (by decide)
  rw [h_ (kT c1 λ_=>c2 64 none (by decide) (by decide))]
  cases hq:(decide (0<M.length)&&(way / 64 % 2 == 1)) with
  |false=>exact⟨M,none,hM,by omega,by rw [if_neg (by decide),exs]⟩
  | true =>
   rw [if_pos rfl]
   have hp:0<M.length:=by
    rw [Bool.and_eq_true]at hq
    exact of_decide_eq_true hq.1
   obtain⟨q,hqq⟩:∃q:Nat,way / 128 % (M.length:Int)=(q:Int):=⟨(way / 128 % (M.length:Int)).toNat,by have:=Int.emod_nonneg (way / 128) (show(M.length:Int)≠0 by omega);omega⟩
   have hq2:q<M.length:=by have:=Int.emod_lt_of_pos (way / 128) (show(0:Int)<(M.length:Int) by omega);omega
   have s6:ev (ab defs (n+1)) (.bin .mod (.bin .fdiv (.bor 1) (.cst (.int 128))) (.lenL 4)) (ca R way P many M y5 none)=some (.int (q:Int)):=by
    rw [dG (x:=.int (way / 128)) (y:=.int (M.length:Int)) (jR (x:=way) (by simp [ev,ca]) ⟨by decide,by decide⟩) (B_ _ R way P many M y5 none),jO,if_pos (by omega),hqq]
   have el:=lenI (ab defs (n+1)) R way P many M y5 hq2
   have hMq:=hM _ (List.getElem_mem hq2)
   have c3:ev (ab defs (n+1)) (.cmp .gt (.lenI 4 (.bor 6)) (.cst (.int 0))) (ca R way P many M y5 (some (.val (.int (q:Int)))))=some (.bl (decide (0<(M[q]).length))):=by
    rw [gu el (dF _ _ _)]
    simp
   have e6:ev (ab defs (n+1)) (.bor 6) (ca R way P many M y5 (some (.val (.int (q:Int)))))=some (.int (q:Int)):=by simp [ev,ca]
   have pl:place (M.map λm=>m.map PV.int).length (q:Int)=some q:=by
    unfold place
    rw [if_pos (by omega),if_pos (by rw [List.length_map];omega)]
    simp
   have set:∀(u:List Int),(Hol u/\u.length<=10)->∀v∈M.set q u,Hol v/\v.length<=10:=λu hu v hv=>by
    rcases List.mem_or_eq_of_mem_set hv with h|h
    ·exact hM v h
    ·rw [h];exact hu
   cases hb:((way / 1024 % 2 == 1)&&decide (0<(M[q]).length)) with
   | true =>
    have hp2:0<(M[q]).length:=by
     rw [Bool.and_eq_true]at hb
     exact of_decide_eq_true hb.2
    obtain⟨j,hj⟩:∃j:Nat,way / 2048 % ((M[q]).length:Int)=(j:Int):=⟨(way / 2048 % ((M[q]).length:Int)).toNat,by have:=Int.emod_nonneg (way / 2048) (show((M[q]).length:Int)≠0 by omega);omega⟩
    have hj2:j<(M[q]).length:=by have:=Int.emod_lt_of_pos (way / 2048) (show(0:Int)<((M[q]).length:Int) by omega);omega
    have ej:ev (ab defs (n+1)) (.bin .mod (.bin .fdiv (.bor 1) (.cst (.int 2048))) (.lenI 4 (.bor 6))) (ca R way P many M y5 (some (.val (.int (q:Int)))))=some (.int (j:Int)):=by
     rw [dG (x:=.int (way / 2048)) (y:=.int ((M[q]).length:Int)) (jR (x:=way) (by simp [ev,ca]) ⟨by decide,by decide⟩) el,jO,if_pos (by omega),hj]
    refine⟨M.set q ((M[q]).eraseIdx j),some (.val (.int (q:Int))),set _ ⟨⟨List.Nodup.sublist (List.eraseIdx_sublist _ _) hMq.1.1,λx hx=>hMq.1.2 x (List.mem_of_mem_eraseIdx hx)⟩,Nat.le_trans (List.Sublist.length_le (List.eraseIdx_sublist _ _)) hMq.2⟩,by rw [List.length_set];omega,?_⟩
    refine kW s6 (kX ?_)
    show ex (ab defs (n+1)) _ (ca R way P many M y5 (some (.val (.int (q:Int)))))=_
    rw [h_ (kT (c2 1024 _ (by decide) (by decide)) λ_=>c3),hb,if_pos rfl]
    refine kX ?_
    rw [ex,e6,ej]
    have:rN (M.map λm=>m.map PV.int) (.int (q:Int)) (.int (j:Int))=some ((M.map λm=>m.map PV.int).set q (((M[q]).map PV.int).eraseIdx j)):=by
     unfold rN
     dsimp only
     rw [pl,Option.bind_some,List.getElem?_map,List.getElem?_eq_getElem hq2]
     show(if (0:Int)<=(j:Int)/\(j:Int)<(((M[q]).map PV.int).length:Nat)/\((M[q]).map PV.int).length<=10000 then _ else _)=_
     rw [if_pos ⟨by omega,by rw [List.length_map];omega,by rw [List.length_map];have:=hMq.2;omega⟩]
     rfl
    show(match rN (M.map λm=>m.map PV.int) (.int (q:Int)) (.int (j:Int)) with|some yss=>_|none=>_)=_
    rw [this,vH,show(M.map λm=>m.map PV.int).set q (((M[q]).eraseIdx j).map PV.int)=(M.set q ((M[q]).eraseIdx j)).map λm=>m.map PV.int from by rw [List.map_set]]
    rfl
   | false =>
    have hz:0<=way / 2048 % 60/\way / 2048 % 60<=59:=by omega
    refine⟨M.set q [way / 2048 % 60],some (.val (.int (q:Int))),set _ ⟨⟨by simp,λx hx=>by rw [List.mem_singleton.mp hx];exact hz⟩,by simp⟩,by rw [List.length_set];omega,?_⟩
    refine kW s6 (kX ?_)
    show ex (ab defs (n+1)) _ (ca R way P many M y5 (some (.val (.int (q:Int)))))=_
    rw [h_ (kT (c2 1024 _ (by decide) (by decide)) λ_=>c3),hb,if_neg (by decide)]
    refine kX ?_
    rw [ex,show ev (ab defs (n+1)) (.lst [(.bin .mod (.bin .fdiv (.bor 1) (.cst (.int 2048))) (.cst (.int 60)))]) (ca R way P many M y5 (some (.val (.int (q:Int)))))=some (.lst [.int (way / 2048 % 60)]) from by simp [ev,evs,ca],e6]
    have:l6 (M.map λm=>m.map PV.int) (.int (q:Int)) (.lst [.int (way / 2048 % 60)])=some ((M.map λm=>m.map PV.int).set q [.int (way / 2048 % 60)]):=by
     unfold l6
     dsimp only
     rw [pl]
     rfl
    show(match l6 (M.map λm=>m.map PV.int) (.int (q:Int)) (.lst [.int (way / 2048 % 60)]) with|some yss=>_|none=>_)=_
    rw [this,show(M.map λm=>m.map PV.int).set q [.int (way / 2048 % 60)]=(M.set q [way / 2048 % 60]).map λm=>m.map PV.int from by rw [List.map_set];rfl]
    rfl
 have gS:∀t∈M2.map sortI,c9 t/\t.length<=10:=λt ht=>by
  obtain⟨m,hm,rfl⟩:=List.mem_map.mp ht
  obtain⟨⟨h1,h2⟩,h3⟩:=hM2 m hm
  exact⟨⟨kQ h1,λx hx=>h2 x (gD.mp hx)⟩,by rw [sortI_len];exact h3⟩
 have hlen:(sortT (M2.map sortI)).length=M2.length:=by rw [sortT_len,List.length_map]
 refine⟨sortT (M2.map sortI),⟨λt ht=>(gS t (ja.mp ht)).1,sortT_rises _,by omega⟩,?_,?_⟩
 ·have:=nB (m:=10) (R:=sortT (M2.map sortI)) λu hu=>(gS u (ja.mp hu)).2
  omega
 show bT (exs (ab defs (n+1)) (.setL 4 0::.for1 5 .seq [(.bor 2)] cZ::.ite _ _ []::.freezeL 4::[.ret _]) [some (.val (ofR R)),some (.val (.int way)),some (.val (ofL P)),some (.val (.int many)),none,none,none])=_
 refine jf (ρ':=ca R way P many [] none none) (by rw [ex,if_pos ⟨by simp [noL,isL],by decide⟩];rfl) ?_
 refine jf (ρ':=ca R way P many M y5 none) (by
  rw [cA (xs:=P.map .int) (by simp [evs,ev,ca]),show aX [(.bor 2)] (ca R way P many [] none none)=ca R way P many [] none none from rfl,eM]
  rfl) ?_
 refine jf e2 ?_
 refine jf (ρ':=[some (.val (ofR R)),some (.val (.int way)),some (.val (ofL P)),some (.val (.int many)),some (.val (.lst (M2.map ofL))),y5,y6]) (by
  rw [ex]
  show MM.R.next [_,_,_,_,some (.val (.lst ((M2.map λm=>m.map PV.int).map .lst))),_,_]=_
  rw [List.map_map]
  rfl) ?_
 refine vh ?_
 refine(aJ (v:=.lst ((sortT (M2.map sortI)).map ofS)) ?_).trans rfl
 have c1:ev (ab defs (n+1)) (.comp .seq [(.bor 4)] [] (.cst (.bl true)) (.blt .tupleOf [(.blt .sorted [(.bor 0)])])) [some (.val (ofR R)),some (.val (.int way)),some (.val (ofL P)),some (.val (.int many)),some (.val (.lst (M2.map ofL))),y5,y6]=some (.lst ((M2.map sortI).map ofS)):=by
  rw [List.map_map]
  refine dR (vs:=[.lst (M2.map ofL)]) (g:=ofL) (h:=ofS ∘ sortI) (by simp [evs,ev]) (by simp) (by omega) λm hm=>?_
  refine(aJ (v:=ofL (sortI m)) ?_).trans rfl
  rw [aJ (v:=ofL m) (by simp [ev,c8]),fF,jP,Option.bind_some,i_ (by have:=(hM2 m hm).2;omega)]
 rw [aJ c1,fF,jP,Option.bind_some,mw (by rw [List.length_map];omega)]
theorem pX(R:List (List Int)):below R R=true:=by
 rw [<- ln]
 exact List.all_eq_true.mpr λs hs=>List.any_eq_true.mpr ⟨s,hs,List.all_eq_true.mpr λx hx=>by simpa using hx⟩
noncomputable def c7 (w:Bool):PySem.Str:=if w=true then "whole" else "weight"
noncomputable def xI(S:List (List Int))(w t:Bool):Bool:=if w=true then decide ([]∈S) else nH S 0 t false
theorem vJ (n:Nat) {S:List (List Int)} (g:bf S) (hf:S.flatten.length<=1000) (w t:Bool):ab defs (n+6) 28 [.val (.tup [.str (c7 w)]),.val (ofR S),.val (.str (bG t)),.val (.str "weaver")]=some (.bl (xI S w t)):=by
 cases w with
 |true =>
  have:=xF (n+3) S t false
  rw [Bool.not_false,Bool.true_and]at this
  exact this
 |false =>
  obtain⟨M,_,hM⟩:=k8 n S g
  exact vz n S g hf hM t false
theorem Ca(n:Nat){S:List (List Int)}(g:bf S)(w t:Bool):ab defs (n+4) 49 [.val (.str (c7 w)),.val (ofR S),.val (.str (bG t))]=some (.bl (xI S w t)):=by
 rw [af (d:=je) rfl rfl]
 obtain⟨v1,v2⟩:=sm n S g
 show bT (exs (ab defs (n+3)) (_::[_]) [some (.val (.str (c7 w))),some (.val (ofR S)),some (.val (.str (bG t)))])=_
 cases w with
 | true =>
  rw [ah,h_ (p:=true) (by simp [ev,c7,dw]),if_pos rfl,ah,cN (v:=.bl (decide ([]∈S))) (by
   rw [gu (x:=ofS []) (y:=ofR S) (by simp [ev,evs]) (by simp [ev]),qN,nv];rfl)]
  rfl
 |false =>
  rw [ah,h_ (p:=false) (by simp [ev,c7,dw]),if_neg (by decide),exs,ak]
  refine vh ?_
  cases t with
  |true=>exact aA (vs:=[.val (ofR S),.val (.str "moth")]) (by simp [evA,bG]) v2
  |false=>exact aA (vs:=[.val (ofR S),.val (.str "weaver")]) (by simp [evA,bG]) v1
noncomputable def b6(R S:List (List Int))(w:Bool):Nat->PV
 |0=>.tup [.str "fewer",ofR S,.tup [.str (c7 w)]]
 |k+1=>.tup [.str "fewer",ofR R,b6 R S w k]
theorem pY {R S:List (List Int)} (g:bf R) (gS:bf S) (hf:S.flatten.length<=1000) (w t:Bool):∀(k n:Nat),ab defs (n+2*k+8) 28 [.val (b6 R S w k),.val (ofR R),.val (.str (bG t)),.val (.str "weaver")]=some (.bl (below S R&&xI S w t))
 |0,n=>by
  have:=nJ (n:=n+2) gS g t false (vJ n gS hf w t)
  rw [Bool.not_false,Bool.true_and]at this
  exact this
 |k+1,n=>by
  have:=nJ (n:=n+2*k+4) g g t false (pY g gS hf w t k n)
  rw [Bool.not_false,Bool.true_and,pX,Bool.true_and]at this
  exact this
theorem An (n:Nat) {R S:List (List Int)} (g:bf R) (gS:bf S) (hf:S.flatten.length<=1000) (w t:Bool):ab defs (n+8) 28 [.val (b6 R S w 0),.val (ofR R),.val (.str (bG t)),.val (.str "moth")]=some (.bl false):=by
 have:=nJ (n:=n+2) gS g t true (vJ n gS hf w t)
 rw [Bool.not_true,Bool.false_and,Bool.false_and]at this
 exact this
theorem mJ(cal:Cal)(R S:List (List Int))(w:Bool)(a0 a1 a2 a3 a4 a5 a7 a8 a9 a10 a13 a14 a15:Option MV):∀(xs:List PV) (j:Nat) (y:Option MV),∃y',aD (λx ρ'=>exs cal jQ (put ρ' 12 (.val x))) xs [a0,a1,a2,a3,a4,a5,some (.val (ofR R)),a7,a8,a9,a10,some (.val (b6 R S w j)),y,a13,a14,a15]=.next [a0,a1,a2,a3,a4,a5,some (.val (ofR R)),a7,a8,a9,a10,some (.val (b6 R S w (j+xs.length))),y',a13,a14,a15]
 | [],j,y=>⟨y,rfl⟩
 | x::xs,j,y=>by
  have e:exs cal jQ (put [a0,a1,a2,a3,a4,a5,some (.val (ofR R)),a7,a8,a9,a10,some (.val (b6 R S w j)),y,a13,a14,a15] 12 (.val x))=.next [a0,a1,a2,a3,a4,a5,some (.val (ofR R)),a7,a8,a9,a10,some (.val (b6 R S w (j+1))),some (.val x),a13,a14,a15]:=by
   simp [jQ,exs,ex,ev,evs,b6]
  obtain⟨y',i⟩:=mJ cal R S w a0 a1 a2 a3 a4 a5 a7 a8 a9 a10 a13 a14 a15 xs (j+1) (some (.val x))
  exact⟨y',by rw [di e,i,List.length_cons,show j+1+xs.length=j+(xs.length+1) from by omega]⟩
theorem mK{R S:List (List Int)}(g:bf R)(gS:bf S)(hf:S.flatten.length<=1000)(w:Bool){j:Nat}(hj:j<=30)(a0 a1 a2 a3 a4 a5 a8 a12 y13 y14 y15:Option MV)(t:Bool) :
  ∃y14' y15',exs (ab defs 79) qP (put [a0,a1,a2,a3,a4,a5,some (.val (ofR R)),some (.val (ofR S)),a8,some (.val (.str (c7 w))),some (.val (b6 R S w 0)),some (.val (b6 R S w j)),a12,y13,y14,y15] 13 (.val (.str (bG t))))=.next [a0,a1,a2,a3,a4,a5,some (.val (ofR R)),some (.val (ofR S)),a8,some (.val (.str (c7 w))),some (.val (b6 R S w 0)),some (.val (b6 R S w j)),a12,some (.val (.str (bG t))),y14',y15']:=by
 have e1:=vF 77 S R (by have:=g.2.2;omega)
 rw [ln]at e1
 have e2:=Ca 75 gS w t
 have e3:=pY g gS hf w t 0 71
 have e4:=An 71 g gS hf w t
 have e5:=pY g gS hf w t j (71-2*j)
 rw [show 71-2*j+2*j+8=79 from by omega]at e5
 generalize b6 R S w j=vj at e5
 generalize b6 R S w 0=v0 at e3 e4
 generalize below S R=b at e1 e3 e5
 generalize xI S w t=d at e2 e3 e5
 refine⟨some (.val (.bl (b&&d))),some (.val (.bl (b&&d))),?_⟩
 show exs (ab defs 79) (.set 14 _::.set 15 _::.ite _ _ []::.ite _ _ []::.set 15 _::[.ite _ _ []]) [a0,a1,a2,a3,a4,a5,some (.val (ofR R)),some (.val (ofR S)),a8,some (.val (.str (c7 w))),some (.val v0),some (.val vj),a12,some (.val (.str (bG t))),y14,y15]=_
 refine kW (v:=.bl (b&&d)) (kT (aA (vs:=[.val (ofR S),.val (ofR R)]) (by simp [evA]) e1) λ_=>aA (vs:=[.val (.str (c7 w)),.val (ofR S),.val (.str (bG t))]) (by simp [evA]) e2) ?_
 simp only [aT,aU]
 refine kW (v:=.bl (b&&d)) (aA (vs:=[.val v0,.val (ofR R),.val (.str (bG t)),.val (.str "weaver")]) (by simp [evA,ev]) e3) ?_
 simp only [aT,aU]
 generalize (b&&d)=z at e5
 simp [exs,ex,ev,evs,evA,evB,e4,e5,isT,isD,pF]
theorem mL{R S:List (List Int)}(g:bf R)(gS:bf S)(hf:S.flatten.length<=1000)(way:Int)(a0 a1 a2 a3 a5 a8 y9 y10 y11 y12 y13 y14 y15:Option MV)(w:Bool) :
  ∃y11' y12' y13' y14' y15',exs (ab defs 79) qQ (put [a0,a1,a2,a3,some (.val (.int way)),a5,some (.val (ofR R)),some (.val (ofR S)),a8,y9,y10,y11,y12,y13,y14,y15] 9 (.val (.str (c7 w))))=.next [a0,a1,a2,a3,some (.val (.int way)),a5,some (.val (ofR R)),some (.val (ofR S)),a8,some (.val (.str (c7 w))),some (.val (b6 R S w 0)),y11',y12',y13',y14',y15']:=by
 obtain⟨q,hq⟩:∃q:Nat,1+way / 4096 % 27=(q:Int):=⟨(1+way / 4096 % 27).toNat,by omega⟩
 have hq3:q<=30:=by omega
 obtain⟨y12',eL⟩:=mJ (ab defs 79) R S w a0 a1 a2 a3 (some (.val (.int way))) a5 (some (.val (ofR S))) a8 (some (.val (.str (c7 w)))) (some (.val (b6 R S w 0))) y13 y14 y15 ((List.range q).map λ(k:Nat)=>PV.int (k:Int)) 0 y12
 rw [List.length_map,List.length_range,Nat.zero_add]at eL
 obtain⟨p14,p15,t1⟩:=mK g gS hf w hq3 a0 a1 a2 a3 (some (.val (.int way))) a5 a8 y12' y13 y14 y15 false
 obtain⟨q14,q15,t2⟩:=mK g gS hf w hq3 a0 a1 a2 a3 (some (.val (.int way))) a5 a8 y12' (some (.val (.str (bG false)))) p14 p15 true
 refine⟨some (.val (b6 R S w q)),y12',some (.val (.str (bG true))),q14,q15,?_⟩
 refine kW (v:=b6 R S w 0) (by simp [ev,evs,b6]) ?_
 simp only [aT,aU]
 refine kW (v:=b6 R S w 0) (by simp [ev]) ?_
 simp only [aT,aU]
 refine Ah (?_:ex _ _ _=.next [a0,a1,a2,a3,some (.val (.int way)),a5,some (.val (ofR R)),some (.val (ofR S)),a8,some (.val (.str (c7 w))),some (.val (b6 R S w 0)),some (.val (b6 R S w q)),y12',y13,y14,y15]) ?_
 ·have hsrc:∀ρ:Rho,ev (ab defs 79) (.bor 4) ρ=some (.int way)->(evs (ab defs 79) [(.bin .add (.cst (.int 1)) (.bin .mod (.bin .fdiv (.bor 4) (.cst (.int 4096))) (.cst (.int 27))))] ρ).bind (bo .rng)=some ((List.range q).map λ(k:Nat)=>PV.int (k:Int)):=λρ h=>by
   rw [show evs (ab defs 79) [(.bin .add (.cst (.int 1)) (.bin .mod (.bin .fdiv (.bor 4) (.cst (.int 4096))) (.cst (.int 27))))] ρ=some [.int (q:Int)] from by rw [ev]at h;simp [evs,ev,h,<- hq],Option.bind_some,dg (by omega) (by omega)]
   simp
  rw [cA (hsrc _ (by simp [ev]))]
  show MM.R.back _ _ (aD _ _ [a0,a1,a2,a3,some (.val (.int way)),a5,some (.val (ofR R)),some (.val (ofR S)),a8,some (.val (.str (c7 w))),some (.val (b6 R S w 0)),some (.val (b6 R S w 0)),y12,y13,y14,y15])=_
  rw [eL]
  rfl
 exact kX (kY (xs:=[.str (bG false),.str (bG true)]) (by simp [ev,evs,bG]) (vi t1 t2))
theorem vK(ns:List Int)(hl:ns.length<=63):ab defs 80 50 [.brw (ns.map .int)]=some (.bl true):=by
 rw [af (d:=qR) rfl rfl]
 have e10:=vk 77 ns 0 1442695040888963407 (by decide)
 have e11:=vk 77 ns 1 1865811235122147685 (by decide)
 have n0:=iN (cellOf ns 0) 1442695040888963407
 have n1:=iN (cellOf ns 1) 1865811235122147685
 generalize gr (cellOf ns 0) 1442695040888963407=u at e10 n0
 generalize gr (cellOf ns 1) 1865811235122147685=way at e11 n1
 obtain⟨room,hroom,er⟩:∃m:Int,(m=1\/m=2\/m=4\/m=10)/\gQ (.lst [.int 1,.int 2,.int 4,.int 10]) (.int (way % 4))=some (.int m):=by
  rcases(by omega:way % 4=0\/way % 4=1\/way % 4=2\/way % 4=3) with e|e|e|e<;>rw [e]
  ·exact⟨1,.inl rfl,rfl⟩
  ·exact⟨2,.inr (.inl rfl),rfl⟩
  ·exact⟨4,.inr (.inr (.inl rfl)),rfl⟩
  ·exact⟨10,.inr (.inr (.inr rfl)),rfl⟩
 have hcl:(sa ns (some 2) (some (2+room))).length<=10:=by have:=vc ns (a:=2) (b:=2+room) (by decide) (by omega);omega
 obtain⟨R,g,hR,⟨hf,h7⟩,eR⟩:=vn 76 (sa ns (some 2) (some (2+room))) (2+u % 8) (u / 8 % 2) (u / 8 % 2+3) (by omega) (by omega) (by omega) (by omega) (by omega) (by omega)
 show bT (exs (ab defs 79) (_::_::_::_::_::_::_::_::_::[_]) [some (.brw (ns.map .int)),none,none,none,none,none,none,none,none,none,none,none,none,none,none,none])=_
 refine kU (e10 _) ?_
 simp only [aT,aU]
 refine kU (v:=.int (2+u % 8)) (by simp [ev]) ?_
 simp only [aT,aU]
 refine kU (v:=.int (u / 8 % 2)) (by simp [ev]) ?_
 simp only [aT,aU]
 refine kU (e11 _) ?_
 simp only [aT,aU]
 refine kU (v:=.int room) (by rw [vg (x:=.lst [.int 1,.int 2,.int 4,.int 10]) (y:=.int (way % 4)) (by simp [ev,evs]) (by simp [ev]),er]) ?_
 simp only [aT,aU]
 refine kU (eR _ _ _ _ (by simp [evs,ev,bnd]) (λx=>by simp [evA,ev,c8])) ?_
 simp only [aT,aU]
 refine kU (v:=ofR []) (by simp [ev,evs,ofR]) ?_
 simp only [aT,aU]
 obtain⟨S,y8,gS,fS,e7⟩:∃(S:List (List Int)) (y8:Option MV),bf S/\S.flatten.length<=1000/\ex (ab defs 79) (.ite (.cmp .gt (.blt .len [(.bor 6)]) (.cst (.int 0)))
   [.set 8 (.comp .rng [(.bin .mod (.bin .fdiv (.bor 4) (.cst (.int 4))) (.cst (.int 8)))] [0] (.cst (.bl true)) (.call 37 [(.call 36 [(.bor 1),(.bin .add (.cst (.int 12)) (.bor 0))]),(.cst (.int 2049848353892358983))])),
   .set 7 (.call 48 [(.bor 6),(.bor 4),(.bor 8),(.bor 2)])] [])
   [some (.brw (ns.map .int)),some (.val (.int u)),some (.val (.int (2+u % 8))),some (.val (.int (u / 8 % 2))),some (.val (.int way)),some (.val (.int room)),some (.val (ofR R)),some (.val (ofR [])),none,none,none,none,none,none,none,none] =
   .next [some (.brw (ns.map .int)),some (.val (.int u)),some (.val (.int (2+u % 8))),some (.val (.int (u / 8 % 2))),some (.val (.int way)),some (.val (.int room)),some (.val (ofR R)),some (.val (ofR S)),y8,none,none,none,none,none,none,none]:=by
  by_cases hz:R.length=0
  ·refine⟨[],none,⟨λt h=>(by cases h),List.Pairwise.nil,by simp⟩,by simp,?_⟩
   rw [h_ (p:=false) (by rw [gu (x:=.int (R.length:Int)) (y:=.int 0) (by rw [aJ (v:=ofR R) (by simp [ev])];simp) (dF _ _ _)];simp [hz]),if_neg (by decide),exs]
  ·obtain⟨q,hq⟩:∃q:Nat,way / 4 % 8=(q:Int):=⟨(way / 4 % 8).toNat,by omega⟩
   have hq3:q<8:=by omega
   obtain⟨S,gS,fS,eS⟩:=vI 77 g h7 (by omega) way ((List.range q).map λ(k:Nat)=>gr (cellOf ns (12+(k:Int))) 2049848353892358983) (by simp;omega) (2+u % 8) (by omega) (by omega)
   refine⟨S,some (.val (ofL ((List.range q).map λ(k:Nat)=>gr (cellOf ns (12+(k:Int))) 2049848353892358983))),gS,fS,?_⟩
   rw [h_ (p:=true) (by rw [gu (x:=.int (R.length:Int)) (y:=.int 0) (by rw [aJ (v:=ofR R) (by simp [ev])];simp) (dF _ _ _)];simp;omega),if_pos rfl]
   refine kW (v:=ofL ((List.range q).map λ(k:Nat)=>gr (cellOf ns (12+(k:Int))) 2049848353892358983)) ?_ (kX (hZ ?_))
   ·refine(dR (g:=λ(k:Nat)=>.int (k:Int)) (h:=λ(k:Nat)=>.int (gr (cellOf ns (12+(k:Int))) 2049848353892358983)) (vs:=[.int (q:Int)]) (xs:=List.range q) (by simp [evs,ev,hq]) (by rw [dg (by omega) (by omega)];simp) (by simp;omega) λk hk=>?_).trans ?_
    ·have ec:=vd 78 (.brw (ns.map .int)) ns (12+(k:Int)) rfl (by omega)
     refine aA (vs:=[.val (.int (cellOf ns (12+(k:Int)))),.val (.int 2049848353892358983)]) ?_ (nz 78 _ _)
     rw [evA,aA (vs:=[.brw (ns.map .int),.val (.int (12+(k:Int)))]) (by simp [evA,ev,c8]) ec]
     ·simp [evA,ev]
     ·intro i z;cases z
    ·simp [ofL]
   ·simp only [aT,aU]
    exact aA (vs:=[.val (ofR R),.val (.int way),.val (ofL _),.val (.int (2+u % 8))]) (by simp [evA]) eS
 refine jf e7 ?_
 obtain⟨u11,u12,u13,u14,u15,w1⟩:=mL g gS fS way (some (.brw (ns.map .int))) (some (.val (.int u))) (some (.val (.int (2+u % 8)))) (some (.val (.int (u / 8 % 2)))) (some (.val (.int room))) y8 none none none none none none none true
 obtain⟨v11,v12,v13,v14,v15,w2⟩:=mL g gS fS way (some (.brw (ns.map .int))) (some (.val (.int u))) (some (.val (.int (2+u % 8)))) (some (.val (.int (u / 8 % 2)))) (some (.val (.int room))) y8 (some (.val (.str (c7 true)))) (some (.val (b6 R S true 0))) u11 u12 u13 u14 u15 false
 exact jf (kY (xs:=[.str (c7 true),.str (c7 false)]) (by simp [ev,evs,c7]) (vi w1 w2)) (vh (dF _ _ _))
noncomputable def top(i:Nat):Stmt:=PySem.Challenge.pw_mothloom_k30_fewer.main.body.getD i (.Pass ⟨0,0,0,0⟩)
theorem Ao {l:PySem.W.OpenLaw}{w:World}{K:PySem.W.Frag}{h:Heap}{mg:Str->Option Value}{fa:Addr} (X:K.In h) (G:h.Ns mainGlobals mg) (hfa:mg "law"=some (.ref fa))
  (h0:HD K "members_of" (top 1) dP) (h1:HD K "each_once" (top 2) jq) (h2:HD K "strip_without" (top 3) fP) (h3:HD K "knotted" (top 4) my) (h4:HD K "bitten" (top 5) iJ) (h5:HD K "holes_of" (top 6) fG) (h6:HD K "is_whole" (top 7) fH) (h7:HD K "is_bare" (top 8) mz) (h8:HD K "other_hand" (top 10) iK) (h9:HD K "behind" (top 11) oW) (h10:HD K "behind_both" (top 12) gR) (h11:HD K "has_all" (top 14) gE) (h12:HD K "least_place" (top 15) cH) (h13:HD K "footing" (top 16) gF) (h14:HD K "is_below" (top 17) fI) (h15:HD K "has_a_pair" (top 19) iL) (h16:HD K "pairs_hold" (top 20) iM) (h17:HD K "together" (top 22) kR) (h18:HD K "are_apart" (top 23) jr) (h19:HD K "strip_weight" (top 26) cU) (h20:HD K "weight" (top 27) kS) (h21:HD K "pulls" (top 28) ny) (h22:HD K "greatest_pull" (top 29) dE) (h23:HD K "twos_of" (top 30) jb) (h24:HD K "most_shared" (top 31) eV) (h25:HD K "moth_weighs" (top 32) b7) (h26:HD K "is_heavy" (top 33) g9) (h27:HD K "weaver_weighs" (top 34) bY) (h28:HD K "good" (top 36) jc) (h29:HD K "good_for_moth" (top 37) aR) (h30:HD K "good_for_weaver" (top 38) aI) (h31:HD K "move_is_good" (top 39) gk) (h32:HD K "cases_are_good" (top 40) fk) (h33:HD K "parts_stand_for" (top 41) eJ) (h34:HD K "parts_are_good" (top 42) fm) (h35:HD K "either_is_good" (top 43) fo) (h36:HD K "_law_cell" (top 45) fJ) (h37:HD K "_law_mixed" (top 46) eK) (h38:HD K "_law_strip" (top 47) gm) (h39:HD K "_law_bitten" (top 49) dQ) (h40:HD K "_law_holes" (top 50) eN) (h41:HD K "_law_within" (top 51) cW) (h42:HD K "_law_below" (top 52) gp) (h43:HD K "_law_sum" (top 53) jd) (h44:HD K "_law_shared" (top 55) fK) (h45:HD K "_law_weaver_now" (top 57) dh) (h46:HD K "_law_weaver_weighs" (top 58) bI) (h47:HD K "_law_more" (top 59) hW) (h48:HD K "_law_second" (top 60) fL) (h49:HD K "_law_due" (top 61) je) (h50:HD K "law" (top 62) qR λfd=>∀(s:Shared) (v:Value),BindsTo s fd ⟨[v],[]⟩ [("script",v)])
  (zs:∀x∈iB,PySem.W.nsIn K mainGlobals x=some none)
  {gv0:Value} (g0:PySem.W.nsIn K mainGlobals "UNIT"=some (some gv0)) (r0:aq (toV (.int 1152921504606846976)) gv0)
 :∃fd:FuncData,(∀(s:Shared) (v:Value),BindsTo s fd ⟨[v],[]⟩ [("script",v)])/\∀base:Heap,K.In base->base.Ns mainGlobals mg->iT l.prog w K mg base CX0 80 fa fd ["script"] (spM K (ab defs 80) 50):=by
 obtain⟨_,e0,D0,q0⟩:=al (T:=tab) X G h0 (by kernel_rfl)
 obtain⟨_,e1,D1,q1⟩:=al (T:=tab) X G h1 (by kernel_rfl)
 obtain⟨_,e2,D2,q2⟩:=al (T:=tab) X G h2 (by kernel_rfl)
 obtain⟨_,e3,D3,q3⟩:=al (T:=tab) X G h3 (by kernel_rfl)
 obtain⟨_,e4,D4,q4⟩:=al (T:=tab) X G h4 (by kernel_rfl)
 obtain⟨_,e5,D5,q5⟩:=al (T:=tab) X G h5 (by kernel_rfl)
 obtain⟨_,e6,D6,q6⟩:=al (T:=tab) X G h6 (by kernel_rfl)
 obtain⟨_,e7,D7,q7⟩:=al (T:=tab) X G h7 (by kernel_rfl)
 obtain⟨_,e8,D8,q8⟩:=al (T:=tab) X G h8 (by kernel_rfl)
 obtain⟨_,e9,D9,q9⟩:=al (T:=tab) X G h9 (by kernel_rfl)
 obtain⟨_,e10,D10,q10⟩:=al (T:=tab) X G h10 (by kernel_rfl)
 obtain⟨_,e11,D11,q11⟩:=al (T:=tab) X G h11 (by kernel_rfl)
 obtain⟨_,e12,D12,q12⟩:=al (T:=tab) X G h12 (by kernel_rfl)
 obtain⟨_,e13,D13,q13⟩:=al (T:=tab) X G h13 (by kernel_rfl)
 obtain⟨_,e14,D14,q14⟩:=al (T:=tab) X G h14 (by kernel_rfl)
 obtain⟨_,e15,D15,q15⟩:=al (T:=tab) X G h15 (by kernel_rfl)
 obtain⟨_,e16,D16,q16⟩:=al (T:=tab) X G h16 (by kernel_rfl)
 obtain⟨_,e17,D17,q17⟩:=al (T:=tab) X G h17 (by kernel_rfl)
 obtain⟨_,e18,D18,q18⟩:=al (T:=tab) X G h18 (by kernel_rfl)
 obtain⟨_,e19,D19,q19⟩:=al (T:=tab) X G h19 (by kernel_rfl)
 obtain⟨_,e20,D20,q20⟩:=al (T:=tab) X G h20 (by kernel_rfl)
 obtain⟨_,e21,D21,q21⟩:=al (T:=tab) X G h21 (by kernel_rfl)
 obtain⟨_,e22,D22,q22⟩:=al (T:=tab) X G h22 (by kernel_rfl)
 obtain⟨_,e23,D23,q23⟩:=al (T:=tab) X G h23 (by kernel_rfl)
 obtain⟨_,e24,D24,q24⟩:=al (T:=tab) X G h24 (by kernel_rfl)
 obtain⟨_,e25,D25,q25⟩:=al (T:=tab) X G h25 (by kernel_rfl)
 obtain⟨_,e26,D26,q26⟩:=al (T:=tab) X G h26 (by kernel_rfl)
 obtain⟨_,e27,D27,q27⟩:=al (T:=tab) X G h27 (by kernel_rfl)
 obtain⟨_,e28,D28,q28⟩:=al (T:=tab) X G h28 (by kernel_rfl)
 obtain⟨_,e29,D29,q29⟩:=al (T:=tab) X G h29 (by kernel_rfl)
 obtain⟨_,e30,D30,q30⟩:=al (T:=tab) X G h30 (by kernel_rfl)
 obtain⟨_,e31,D31,q31⟩:=al (T:=tab) X G h31 (by kernel_rfl)
 obtain⟨_,e32,D32,q32⟩:=al (T:=tab) X G h32 (by kernel_rfl)
 obtain⟨_,e33,D33,q33⟩:=al (T:=tab) X G h33 (by kernel_rfl)
 obtain⟨_,e34,D34,q34⟩:=al (T:=tab) X G h34 (by kernel_rfl)
 obtain⟨_,e35,D35,q35⟩:=al (T:=tab) X G h35 (by kernel_rfl)
 obtain⟨_,e36,D36,q36⟩:=al (T:=tab) X G h36 (by kernel_rfl)
 obtain⟨_,e37,D37,q37⟩:=al (T:=tab) X G h37 (by kernel_rfl)
 obtain⟨_,e38,D38,q38⟩:=al (T:=tab) X G h38 (by kernel_rfl)
 obtain⟨_,e39,D39,q39⟩:=al (T:=tab) X G h39 (by kernel_rfl)
 obtain⟨_,e40,D40,q40⟩:=al (T:=tab) X G h40 (by kernel_rfl)
 obtain⟨_,e41,D41,q41⟩:=al (T:=tab) X G h41 (by kernel_rfl)
 obtain⟨_,e42,D42,q42⟩:=al (T:=tab) X G h42 (by kernel_rfl)
 obtain⟨_,e43,D43,q43⟩:=al (T:=tab) X G h43 (by kernel_rfl)
 obtain⟨_,e44,D44,q44⟩:=al (T:=tab) X G h44 (by kernel_rfl)
 obtain⟨_,e45,D45,q45⟩:=al (T:=tab) X G h45 (by kernel_rfl)
 obtain⟨_,e46,D46,q46⟩:=al (T:=tab) X G h46 (by kernel_rfl)
 obtain⟨_,e47,D47,q47⟩:=al (T:=tab) X G h47 (by kernel_rfl)
 obtain⟨_,e48,D48,q48⟩:=al (T:=tab) X G h48 (by kernel_rfl)
 obtain⟨_,e49,D49,q49⟩:=al (T:=tab) X G h49 (by kernel_rfl)
 obtain⟨_,e50,D50,q50⟩:=al (T:=tab) X G h50 (by kernel_rfl)
 cases hfa.symm.trans D50.named
 have pr:zT tab K mg defs:=by
  refine⟨rfl,⟨⟨_,_,_,D0,_,D0.binds,.nil⟩,⟨_,_,_,D1,_,D1.binds,.nil⟩,⟨_,_,_,D2,_,D2.binds,.nil⟩,⟨_,_,_,D3,_,D3.binds,.nil⟩,⟨_,_,_,D4,_,D4.binds,.nil⟩,⟨_,_,_,D5,_,D5.binds,.nil⟩,⟨_,_,_,D6,_,D6.binds,.nil⟩,⟨_,_,_,D7,_,D7.binds,.nil⟩,⟨_,_,_,D8,_,D8.binds,.nil⟩,⟨_,_,_,D9,_,D9.binds,.nil⟩,⟨_,_,_,D10,_,D10.binds,.nil⟩,⟨_,_,_,D11,_,D11.binds,.nil⟩,⟨_,_,_,D12,_,D12.binds,.nil⟩,⟨_,_,_,D13,_,D13.binds,.nil⟩,⟨_,_,_,D14,_,D14.binds,.nil⟩,⟨_,_,_,D15,_,D15.binds,.nil⟩,⟨_,_,_,D16,_,D16.binds,.nil⟩,⟨_,_,_,D17,_,D17.binds,.nil⟩,⟨_,_,_,D18,_,D18.binds,.nil⟩,⟨_,_,_,D19,_,D19.binds,.nil⟩,⟨_,_,_,D20,_,D20.binds,.nil⟩,⟨_,_,_,D21,_,D21.binds,.nil⟩,⟨_,_,_,D22,_,D22.binds,.nil⟩,⟨_,_,_,D23,_,D23.binds,.nil⟩,⟨_,_,_,D24,_,D24.binds,.nil⟩,⟨_,_,_,D25,_,D25.binds,.nil⟩,⟨_,_,_,D26,_,D26.binds,.nil⟩,⟨_,_,_,D27,_,D27.binds,.nil⟩,⟨_,_,_,D28,_,D28.binds,.nil⟩,⟨_,_,_,D29,_,D29.binds,.nil⟩,⟨_,_,_,D30,_,D30.binds,.nil⟩,⟨_,_,_,D31,_,D31.binds,.nil⟩,⟨_,_,_,D32,_,D32.binds,.nil⟩,⟨_,_,_,D33,_,D33.binds,.nil⟩,⟨_,_,_,D34,_,D34.binds,.nil⟩,⟨_,_,_,D35,_,D35.binds,.nil⟩,⟨_,_,_,D36,_,D36.binds,.nil⟩,⟨_,_,_,D37,_,D37.binds,.nil⟩,⟨_,_,_,D38,_,D38.binds,.nil⟩,⟨_,_,_,D39,_,D39.binds,.nil⟩,⟨_,_,_,D40,_,D40.binds,.nil⟩,⟨_,_,_,D41,_,D41.binds,.nil⟩,⟨_,_,_,D42,_,D42.binds,.nil⟩,⟨_,_,_,D43,_,D43.binds,.nil⟩,⟨_,_,_,D44,_,D44.binds,.nil⟩,⟨_,_,_,D45,_,D45.binds,.nil⟩,⟨_,_,_,D46,_,D46.binds,.nil⟩,⟨_,_,_,D47,_,D47.binds,.nil⟩,⟨_,_,_,D48,_,D48.binds,.nil⟩,⟨_,_,_,D49,_,D49.binds,.nil⟩,⟨_,_,_,D50,_,D50.binds,.nil⟩,trivial⟩,λx hx=>PySem.W.mg_none_of X G (zs x hx),λp hp=>?_⟩
  ·simp only [tab,List.mem_cons,List.not_mem_nil,or_false]at hp
   rcases hp with rfl
   ·exact⟨_,PySem.W.mg_of X G g0,r0⟩
 exact⟨e50,q50,λbase _ _=>BP (by decide) pr 80 50 qR rfl _ _ _ D50⟩
theorem C5{l:PySem.W.OpenLaw}{q:Program}{loose:List Str}{XP:(Str->Option Value)->Heap->Prop}{YP:World->Heap->Prop}{d:DefRec}{K:Params->PySem.W.Frag}(hn:l.most=some 63)(hdf:d.params.defaults=[])
  (hY:∀(w:World) (h:Heap),YP w h->(K w.params).In h)
  (F:∀(w:World) (mg:Str->Option Value) (fa:Addr) (h:Heap),(K w.params).In h->h.Ns mainGlobals mg->mg d.name=some (.ref fa) ->
   ∃fd:FuncData,(∀(s:Shared) (u:Value),BindsTo s fd ⟨[u],[]⟩ [("script",u)])/\∀base:Heap,(K w.params).In base->base.Ns mainGlobals mg->iT l.prog w (K w.params) mg base CX0 80 fa fd ["script"] (spM (K w.params) (ab defs 80) 50)) :
  PySem.W.WalkO q loose XP YP l.row.toRowW d [] (λf vs=>PySem.call f vs) :=
 L2.wo (n:=63) (k:=80) (x:="script") (CX:=λ_=>CX0) (sp:=λw=>spM (K w.params) (ab defs 80) 50) hn (by decide) hdf ⟨rfl,by decide,by decide⟩ hY F (λ_ _ a ns hl _ hS=>zU (vK ns hl) hS) λ_ _ _ _ _ z=>z
end My
open PySem PySem.W PyProof.Rows
set_option maxRecDepth 100000 in
set_option maxHeartbeats 0 in
theorem PySem.Challenge.cw_mothloom_k30_fewer_holds : PySem.Challenge.rw_mothloom_k30_fewer.Holds := by
 w_on;o_law;k_head;(case hw=>w_witness2)
 k_fill
 refine My.C5 (l:=PySem.Challenge.rw_mothloom_k30_fewer) rfl rfl (λw h Y=>PySem.W.kIn_of Y) ?F
 case F =>
  intro w mg fa h KX G hmg
  refine' My.Ao KX G hmg ?h0 ?h1 ?h2 ?h3 ?h4 ?h5 ?h6 ?h7 ?h8 ?h9 ?h10 ?h11 ?h12 ?h13 ?h14 ?h15 ?h16 ?h17 ?h18 ?h19 ?h20 ?h21 ?h22 ?h23 ?h24 ?h25 ?h26 ?h27 ?h28 ?h29 ?h30 ?h31 ?h32 ?h33 ?h34 ?h35 ?h36 ?h37 ?h38 ?h39 ?h40 ?h41 ?h42 ?h43 ?h44 ?h45 ?h46 ?h47 ?h48 ?h49 ?h50 ?zs ?gq0 ?rq0
  (case h0|h1|h5|h6|h7|h8|h17|h18|h19|h20|h21|h22|h23|h24|h26|h34|h40|h43|h44|h45=>refine' ⟨rfl,_,_,?ka,.mk' (d0:=.none) ?kl ?kc ?kk,MM.bn1 λ_=>rfl,trivial⟩;(case ka=>k_is);(case kl=>k_is);(case kc=>k_is);(case kk=>k_is))
  (case h2|h3|h4|h11|h12|h13|h14|h15|h16|h33|h35|h36|h37|h39|h41|h42|h46=>refine' ⟨rfl,_,_,?ka,.mk' (d0:=.none) ?kl ?kc ?kk,MM.bn2 λ_ _=>rfl,trivial⟩;(case ka=>k_is);(case kl=>k_is);(case kc=>k_is);(case kk=>k_is))
  (case h9|h29|h30|h31|h32|h47|h49=>refine' ⟨rfl,_,_,?ka,.mk' (d0:=.none) ?kl ?kc ?kk,MM.bn3 λ_ _ _=>rfl,trivial⟩;(case ka=>k_is);(case kl=>k_is);(case kc=>k_is);(case kk=>k_is))
  (case h10|h28|h38|h48=>refine' ⟨rfl,_,_,?ka,.mk' (d0:=.none) ?kl ?kc ?kk,MM.bn4 λ_ _ _ _=>rfl,trivial⟩;(case ka=>k_is);(case kl=>k_is);(case kc=>k_is);(case kk=>k_is))
  (case h25=>refine' ⟨rfl,_,_,?ka,.mkd ?kl ?kc ?kk,?kb,trivial⟩;(case ka=>k_is);(case kl=>k_is);(case kc=>k_is);(case kk=>k_is);(case kb=>refine' MM.kK rfl ?kx ?ky;(case kx=>k_is);(case ky=>exact λus hl=>match us,hl with|[_,_],_=>⟨_,rfl,rfl⟩)))
  (case h27=>refine' ⟨rfl,_,_,?ka,.mkd ?kl ?kc ?kk,?kb,trivial⟩;(case ka=>k_is);(case kl=>k_is);(case kc=>k_is);(case kk=>k_is);(case kb=>refine' MM.kK rfl ?kx ?ky;(case kx=>k_is);(case ky=>exact λus hl=>match us,hl with|[_,_],_=>⟨_,rfl,rfl⟩)))
  (case h50=>refine' ⟨rfl,_,_,?ka,.mk' (d0:=.none) ?kl ?kc ?kk,MM.bn1 λ_=>rfl,λs v=>.of_eq rfl⟩;(case ka=>k_is);(case kl=>k_is);(case kc=>k_is);(case kk=>k_is))
  (case zs=>intro x hx;simp only [MM.iB,List.mem_cons,List.not_mem_nil,or_false]at hx;rcases hx with rfl|rfl|rfl|rfl|rfl|rfl|rfl|rfl|rfl|rfl|rfl|rfl|rfl|rfl|rfl|rfl|rfl<;>k_is)
  (case gq0=>k_is);(case rq0=>exact⟨_,rfl⟩)
