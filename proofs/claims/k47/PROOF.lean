import PyProof.Rows.All
import Wide.All
import OpenK.AllK
import Wide.FinOn
import Lean
import PyProof.EqAt
import PyProof.EqKinds
import PyProof.TupleCall
import PySem.Challenge.RW_mothloom_k47_two_tables
set_option Elab.async false
set_option linter.all false
set_option maxRecDepth 100000
set_option genSizeOf false
set_option backward.eqns.nonrecursive false
set_option bootstrap.genMatcherCode false
namespace L2
open PySem PySem.Spec PyProof.Rows
noncomputable abbrev Key:=Sum Int Str
noncomputable def lY:Key->Value->Bool
 | .inl k,v=>Value.isInt k v
 | .inr x,v=>Value.isStrOf x v
noncomputable def Ej(w:World):Key->Int
 | .inl k=>hashInt k
 | .inr x=>hashStr w x
theorem bo:∀{k:Key}{v:Value},lY k v=true->(∃i t,k=Sum.inl i/\v=Value.int i t)\/(∃x t,k=Sum.inr x/\v=Value.str x t)
 | .inl i,v,h=>by
  obtain⟨t,e⟩:=Value.isInt_shape (k:=i) (v:=v) h
  exact .inl ⟨i,t,rfl,e⟩
 | .inr x,v,h=>by
  obtain⟨t,e⟩:=Value.isStrOf_shape (x:=x) (v:=v) h
  exact .inr ⟨x,t,rfl,e⟩
theorem rX(i:Int)(t:Tok):lY (.inl i) (.int i t)=true:=by simp [lY,Value.isInt]
theorem rY(x:Str)(t:Tok):lY (.inr x) (.str x t)=true:=by simp [lY,Value.isStrOf]
theorem zr(a b:Int):decide ((Sum.inl a:Key)=Sum.inl b)=(a == b):=by
 by_cases e:a=b
 ·subst e;simp
 ·have h:¬ (Sum.inl a:Key)=Sum.inl b:=λq=>e (Sum.inl.inj q)
  rw [decide_eq_false h]
  exact(beq_eq_false_iff_ne.mpr e).symm
theorem zt(a b:Str):decide ((Sum.inr a:Key)=Sum.inr b)=decide (a=b):=by
 by_cases e:a=b
 ·subst e;simp
 ·have h:¬ (Sum.inr a:Key)=Sum.inr b:=λq=>e (Sum.inr.inj q)
  rw [decide_eq_false h,decide_eq_false e]
theorem zu(a:Int)(b:Str):decide ((Sum.inl a:Key)=Sum.inr b)=false:=decide_eq_false (λq=>nomatch q)
theorem zv(a:Str)(b:Int):decide ((Sum.inr a:Key)=Sum.inl b)=false:=decide_eq_false (λq=>nomatch q)
noncomputable def bG(prog:Program)(w:World):PySem.KeyKind prog w Key where
 is:=lY
 hash:=Ej w
 inj:=λv a b ha hb=>by
  rcases bo ha with ⟨i,t,rfl,rfl⟩|⟨x,t,rfl,rfl⟩
  ·rcases bo hb with ⟨j,u,rfl,e⟩|⟨y,u,rfl,e⟩
   ·injection e with e1 _;rw [e1]
   ·exact nomatch e
  ·rcases bo hb with ⟨j,u,rfl,e⟩|⟨y,u,rfl,e⟩
   ·exact nomatch e
   ·injection e with e1 _;rw [e1]
 byValue:=λk v h=>by
  rcases bo h with ⟨i,t,rfl,rfl⟩|⟨x,t,rfl,rfl⟩<;>rfl
 pyHash:=λhv h=>by
  rcases bo hv with ⟨i,t,rfl,rfl⟩|⟨x,t,rfl,rfl⟩
  ·exact wpAny_pyHash_int h
  ·exact wpAny_pyHash_str h
 eqBool:=λhu hv h=>by
  rcases bo hu with ⟨i,t,rfl,rfl⟩|⟨x,t,rfl,rfl⟩
  ·rcases bo hv with ⟨j,u,rfl,rfl⟩|⟨y,u,rfl,rfl⟩
   ·rw [zr]at h;exact wpAny_eqBool_int h
   ·rw [zu]at h;exact SeqAt.EqAt.int_str i t y u _ _ _ _ h
  ·rcases bo hv with ⟨j,u,rfl,rfl⟩|⟨y,u,rfl,rfl⟩
   ·rw [zv]at h;exact SeqAt.EqAt.str_int x t j u _ _ _ _ h
   ·rw [zt]at h;exact wpAny_eqBool_str h
 «strs»:=λk x t v h=>by
  rcases bo h with ⟨i,u,rfl,e⟩|⟨y,u,rfl,e⟩
  ·exact nomatch e
  ·injection e with e1 _
   subst e1
   cases v<;>rfl
theorem nQ(prog:Program)(w:World)(i:Int)(t:Tok):(bG prog w).is (.inl i) (.int i t)=true:=rX i t
theorem nR(prog:Program)(w:World)(x:Str)(t:Tok):(bG prog w).is (.inr x) (.str x t)=true:=rY x t
end L2
namespace L2
open PySem PySem.Spec PyProof.Rows
inductive V where
 | non|bl (b:Bool)|int (i:Int)|str (x:Str)|byt (b:Array UInt8)|flt (b:UInt64)|ref (a:Addr)|ty (n:String)
 deriving DecidableEq
noncomputable def av:V->Value->Prop
 | .non,u=>u=Value.none
 | .bl b,u=>u=Value.bool b
 | .int i,u=>∃t,u=Value.int i t
 | .str x,u=>∃t,u=Value.str x t
 | .byt b,u=>∃t,u=Value.bytes b t
 | .flt b,u=>∃t,u=Value.float b t
 | .ref a,u=>u=Value.ref a
 | .ty n,u=>u=Value.type n
noncomputable abbrev aw:List V->List Value->Prop:=Paired av
theorem aw.length{xs:List V}{us:List Value}(r:aw xs us):xs.length=us.length:=Paired.length r
theorem aw.get:∀{xs:List V}{us:List Value}{i:Nat}{x:V},aw xs us->xs[i]?=some x->∃u,us[i]?=some u/\av x u
 | _,_,_,_,.nil,e=>by simp at e
 | _,_,0,_,.cons r _,e=>by simp at e;subst e;exact⟨_,rfl,r⟩
 | _,_,i+1,x,.cons _ t,e=>by
  obtain⟨u,h1,h2⟩:=aw.get (i:=i) (x:=x) t (by simpa using e)
  exact⟨u,by simpa using h1,h2⟩
theorem aw.set{x:V}{u:Value}(r:av x u):∀{xs:List V}{us:List Value} (i:Nat),aw xs us->aw (xs.set i x) (us.set i u)
 | _,_,_,.nil=>.nil
 | _,_,0,.cons _ t=>.cons r t
 | _,_,i+1,.cons q t=>.cons q (aw.set r i t)
theorem aw.append:∀{xs ys:List V}{us ws:List Value},aw xs us->aw ys ws->aw (xs++ys) (us++ws)
 | _,_,_,_,.nil,s=>s
 | _,_,_,_,.cons r t,s=>.cons r (aw.append t s)
theorem aw.take:∀{xs:List V}{us:List Value} (n:Nat),aw xs us->aw (xs.take n) (us.take n)
 | _,_,0,_=>.nil
 | _,_,_+1,.nil=>.nil
 | _,_,n+1,.cons r t=>.cons r (aw.take n t)
theorem aw.drop:∀{xs:List V}{us:List Value} (n:Nat),aw xs us->aw (xs.drop n) (us.drop n)
 | _,_,0,r=>r
 | _,_,_+1,.nil=>.nil
 | _,_,n+1,.cons _ t=>aw.drop n t
noncomputable def fP:Option V->Option Value->Prop
 |some v,some u=>av v u
 |none,none=>True
 | _,_=>False
noncomputable def KV{κ:Type}:List (κ×V)->List (κ×Value)->Prop:=Paired λ(p:κ×V) (q:κ×Value)=>p.1=q.1/\av p.2 q.2
noncomputable def kV:Key->V
 | .inl i=>.int i
 | .inr x=>.str x
inductive HO where
 | lst (xs:List V)
 | tup (xs:List V)
 | dK (kvs:List (Key×V))|dT (kvs:List (List Key×V))
 | set (S:Int->Bool) (n:Nat)
 | ins (C dx:Addr) (fs:List (Str×V))
 | own (x:Addr)
 | xd (fs:List (Str×V))
 | met (f x:Addr)
 | rng (lo hi:Int)
 | frz (o:Obj) (u:HO)
 | tbl (ps:Array Value)
 | ext (φ:Heap->Prop)
noncomputable abbrev Hp:=Addr->Option HO
noncomputable def upd(H:Hp)(a:Addr)(o:HO):Hp:=λb=>if b=a then some o else H b
theorem ah{H:Hp}{a:Addr}{o:HO}:upd H a o a=some o:=by unfold upd;rw [if_pos rfl]
theorem ak{H:Hp}{a b:Addr}{o:HO}(h:b≠a):upd H a o b=H b:=by unfold upd;rw [if_neg h]
theorem B7{H:Hp}{a b:Addr}{o u:HO}(h:H a=some o)(h':H b=some u)(d:o≠u):a≠b:=by
 intro e;subst e;rw [h]at h';exact d (Option.some.inj h')
theorem az{H:Hp}{a b:Addr}{o:HO}(h:H a=some o)(h':H b=none):a≠b:=by
 intro e;subst e;rw [h]at h';cases h'
section
variable(P:Program)(w:World)
noncomputable def bw(H:Hp)(h:Heap)(a:Addr):HO->Prop
 | .lst xs=>xs.length<=sizeLine/\∃(its:List Value) (n:Nat),aw xs its/\h.get? a=some { cls:=.type "list",data:=.seq its.toArray n }
 | .tup xs=>xs.length<=sizeLine/\∃its:List Value,aw xs its/\IsTup h a its.toArray
 | .dK kvs=>kvs.length<=sizeLine/\(a == sysModules)=false/\∃vs,KV kvs vs/\h.DictOf (bG P w) a vs
 | .dT kvs=>kvs.length<=sizeLine/\(a == sysModules)=false/\∃xs:List (List Key×Addr×Value),
   Paired (λ(p:List Key×V) (q:List Key×Addr×Value)=>p.1=q.1/\H q.2.1=some (.tup (p.1.map kV))/\av p.2 q.2.2) kvs xs /\
   ∃o es ep,h.get? a=some o/\o.ExactDict/\o.data=.dict es ep/\es.toList=xs.map (entryOfKey (tupleKind (bG P w)))/\(xs.map (·.1)).Nodup
 | .set S n=>h.SetOf (intKind P w) a S n
 | .ins C dx fs=>H dx=some (.own a)/\fs.length<=1000/\dx≠a/\h.get? a=some (PySem.W.instObj C dx) /\
   ∃mA,h.Ns1 dx mA/\(∀f,fP (fs.lookup f) (mA f))/\PySem.Within mA (fs.map (·.1))
 | .own _=>∃o,h.get? a=some o
 | .xd fs=>∃mA,h.Ns1 a mA/\∀f,fP (fs.lookup f) (mA f)
 | .rng lo hi=>∃t u v,h.get? a=some { cls:=.type "range",data:=.fields #[.int lo t,.int hi u,.int 1 v] }
 | .frz o u=>h.get? a=some o/\bw H h a u
 | .tbl ps=>h.get? a=some { cls:=.none,data:=.fields ps }
 | .met f x=>h.get? a=some (PySem.W.methodObj (.ref f) (.ref x))
 | .ext φ=>φ h/\(∃o,h.get? a=some o)/\∀h1 h2:Heap,φ h1->(∀o,h1.get? a=some o->h2.get? a=some o)->φ h2
noncomputable def HOk(H:Hp)(h:Heap):Prop:=∀a o,H a=some o->bw P w H h a o
end
section
variable{P:Program}{w:World}{H H':Hp}{h h':Heap}{a:Addr}{o:HO}
theorem bw.lt(x:bw P w H h a o):a<h.objs.size:=by
 cases o with
 |lst xs=>obtain⟨_,_,_,_,e⟩:=x;exact Heap.lt_size e
 |tup xs=>obtain⟨_,_,_,p⟩:=x;exact p.lt
 |dK kvs=>obtain⟨_,_,_,_,o,_,_,e,_⟩:=x;exact Heap.lt_size e
 |dT kvs=>obtain⟨_,_,_,_,o,_,_,e,_⟩:=x;exact Heap.lt_size e
 |set S n=>obtain⟨o,_,_,_,e,_⟩:=x;exact Heap.lt_size e
 |ins C dx fs=>obtain⟨_,_,_,e,_⟩:=x;exact Heap.lt_size e
 |own y=>obtain⟨_,e⟩:=x;exact Heap.lt_size e
 |xd fs=>obtain⟨_,⟨_,_,_,e,_⟩,_⟩:=x;exact Heap.lt_size e
 |rng lo hi=>obtain⟨_,_,_,e⟩:=x;exact Heap.lt_size e
 |frz ob u=>obtain⟨e,_⟩:=x;exact Heap.lt_size e
 |tbl ps=>exact Heap.lt_size (show h.get? a=some _ from x)
 |met f y=>exact Heap.lt_size (show h.get? a=some _ from x)
 |ext φ=>obtain⟨_,⟨_,e⟩,_⟩:=x;exact Heap.lt_size e
theorem Paired.mapP{α β:Type}{F G:α->β->Prop}:∀{l₁:List α}{l₂:List β},Paired F l₁ l₂->(∀a b,F a b->G a b)->Paired G l₁ l₂
 | _,_,.nil,_=>.nil
 | _,_,.cons r t,f=>.cons (f _ _ r) (Paired.mapP t f)
theorem bw.stay(x:bw P w H h a o)(k:∀b u,(b=a\/H b=some (.own a))->h.get? b=some u->h'.get? b=some u)
  (ho:∀b,H b=some (.own a)->H' b=some (.own a)) (ht:∀b xs,H b=some (.tup xs)->H' b=some (.tup xs)):bw P w H' h' a o:=by
 induction o with
 |lst xs=>obtain⟨z,its,n,r,e⟩:=x;exact⟨z,its,n,r,k _ _ (.inl rfl) e⟩
 |tup xs=>obtain⟨z,its,r,ob,e,c⟩:=x;exact⟨z,its,r,ob,k _ _ (.inl rfl) e,c⟩
 |dK kvs=>obtain⟨z,y,vs,r,ob,es,ep,e,c⟩:=x;exact⟨z,y,vs,r,ob,es,ep,k _ _ (.inl rfl) e,c⟩
 |dT kvs =>
  obtain⟨z,y,xs,r,ob,es,ep,e,c⟩:=x
  exact⟨z,y,xs,Paired.mapP r λp q z=>⟨z.1,ht _ _ z.2.1,z.2.2⟩,ob,es,ep,k _ _ (.inl rfl) e,c⟩
 |set S n=>obtain⟨ob,es,ep,t,e,c⟩:=x;exact⟨ob,es,ep,t,k _ _ (.inl rfl) e,c⟩
 |ins C dx fs =>
  obtain⟨d,z,ne,e,mA,⟨od,es,ep,e2,c⟩,r⟩:=x
  exact⟨ho _ d,z,ne,k _ _ (.inl rfl) e,mA,⟨od,es,ep,k _ _ (.inr d) e2,c⟩,r⟩
 |own y=>obtain⟨ob,e⟩:=x;exact⟨ob,k _ _ (.inl rfl) e⟩
 |xd fs=>obtain⟨mA,⟨od,es,ep,e,c⟩,r⟩:=x;exact⟨mA,⟨od,es,ep,k _ _ (.inl rfl) e,c⟩,r⟩
 |rng lo hi=>obtain⟨t,u,v,e⟩:=x;exact⟨t,u,v,k _ _ (.inl rfl) e⟩
 |frz ob u ih=>obtain⟨e,q⟩:=x;exact⟨k _ _ (.inl rfl) e,ih q⟩
 |tbl ps =>
  have e:h.get? a=some { cls:=.none,data:=.fields ps }:=x
  show h'.get? a=some { cls:=.none,data:=.fields ps }
  exact k a _ (.inl rfl) e
 |met f y =>
  have e:h.get? a=some (PySem.W.methodObj (.ref f) (.ref y)):=x
  show h'.get? a=some (PySem.W.methodObj (.ref f) (.ref y))
  exact k a _ (.inl rfl) e
 |ext φ=>obtain⟨p,⟨o,e⟩,st⟩:=x;exact⟨st _ _ p λo q=>k _ _ (.inl rfl) q,⟨o,k _ _ (.inl rfl) e⟩,st⟩
theorem HOk.lt(x:HOk P w H h)(e:H a=some o):a<h.objs.size:=(x a o e).lt
theorem HOk.fresh(x:HOk P w H h)(e:h.objs.size<=a):H a=none:=by
 cases q:H a with
 |none=>rfl
 |some u=>exact absurd (Nat.lt_of_lt_of_le (x.lt q) e) (Nat.lt_irrefl _)
theorem HOk.kept(x:HOk P w H h)(k:∀b u,h.get? b=some u->h'.get? b=some u):HOk P w H h':=λa o e =>
 (x a o e).stay (λb u _ q=>k b u q) (λ_ q=>q) λ_ _ q=>q
theorem HOk.laid(x:HOk P w H h)(k:∀b u,h.get? b=some u->h'.get? b=some u)(hp:h.objs.size<=a)(new:bw P w (upd H a o) h' a o):HOk P w (upd H a o) h':=λb u e=>by
 have hn:=x.fresh hp
 by_cases hb:b=a
 ·subst hb;rw [ah]at e;cases e;exact new
 ·rw [ak hb]at e
  exact(x b u e).stay (λc v _ q=>k c v q) (λc q=>by rw [ak (az q hn)];exact q) λc xs q=>by rw [ak (az q hn)];exact q
end
noncomputable def Rd(H:Hp)(a:Addr)(u:HO):Prop:=H a=some u\/∃o,H a=some (.frz o u)
theorem Rd.ok{P:Program}{w:World}{H:Hp}{h:Heap}{a:Addr}{u:HO}(r:Rd H a u)(x:HOk P w H h):bw P w H h a u:=by
 rcases r with r|⟨o,r⟩
 ·exact x a u r
 ·obtain⟨_,q⟩:=x a _ r
  exact q
noncomputable def Mut:Option HO->Prop
 |some (.lst _)=>True
 |some (.dK _)=>True
 |some (.dT _)=>True
 |some (.set _ _)=>True
 |some (.ins _ _ _)=>True
 |some (.ext _)=>True
 | _=>False
section
variable{P:Program}{w:World}{H:Hp}{h h':Heap}{x e:Addr}{o':HO}
theorem HOk.write(ok:HOk P w H h)(mu:Mut (H x))(he:e=x\/H e=some (.own x))(k:∀b u,b≠e->h.get? b=some u->h'.get? b=some u)(heo:∃u,h'.get? e=some u)
  (new:bw P w (upd H x o') h' x o'):HOk P w (upd H x o') h':=λb u q=>by
 have nown:∀c y,H c=some (.own y)->c≠x:=λc y r z=>by subst z;rw [r]at mu;exact mu
 have ntup:∀c xs,H c=some (.tup xs)->c≠x:=λc xs r z=>by subst z;rw [r]at mu;exact mu
 by_cases hb:b=x
 ·subst hb;rw [ah]at q;cases q;exact new
 ·rw [ak hb]at q
  by_cases hbe:b=e
  ·have q':H b=some (.own x):=by
    rcases he with z|z
    ·exact absurd (hbe.trans z) hb
    ·rw [hbe];exact z
   rw [q]at q';cases q'
   obtain⟨v,hv⟩:=heo
   exact⟨v,by rw [hbe];exact hv⟩
  ·refine(ok b u q).stay (λc v hc r=>k c v ?_ r) (λc r=>by rw [ak (nown c b r)];exact r) λc xs r=>by rw [ak (ntup c xs r)];exact r
   rcases hc with rfl|hc
   ·exact hbe
   ·rintro rfl
    rcases he with z|z
    ·exact nown c b hc z
    ·rw [hc]at z;cases z;exact hb rfl
end
structure Un(fs ex:List Addr)(H H':Hp)(h h':Heap):Prop where
 keep:∀b o,h.get? b=some o->H b=none->b∉fs->b∉ex->h'.get? b=some o
 slot:∀b o,h.get? b=some o->H b=none->b∈fs->b∉ex->∃sl,h'.get? b=some { o with slots:=sl }
 free:∀b o,h.get? b=some o->H b=none->b∉ex->H' b=none
 there:∀b o,h.get? b=some o->b∉ex->∃o',h'.get? b=some o'
 tups:∀b xs,H b=some (.tup xs)->H' b=some (.tup xs)
 frzs:∀b o u,H b=some (.frz o u)->H' b=some (.frz o u)
 tbls:∀b ps,H b=some (.tbl ps)->∃more,H' b=some (.tbl (ps++more))
section
variable{fs fs' ex ex':List Addr}{H H1 H2:Hp}{h h1 h2 h':Heap}{a x e:Addr}{o:HO}
theorem Un.any(u:Un fs ex H H1 h h1){b:Addr}{ob:Obj}(q:h.get? b=some ob)(n:H b=none)(hx:b∉ex):∃sl,h1.get? b=some { ob with slots:=sl }:=by
 by_cases hb:b∈fs
 ·exact u.slot b ob q n hb hx
 ·exact⟨ob.slots,u.keep b ob q n hb hx⟩
theorem Un.kept(k:∀b u,h.get? b=some u->h'.get? b=some u):Un fs ex H H h h' :=
 ⟨λb ob q _ _ _=>k b ob q,λb ob q _ _ _=>⟨ob.slots,k b ob q⟩,λ_ _ _ n _=>n,λb ob q _=>⟨ob,k b ob q⟩,λ_ _ q=>q,λ_ _ _ q=>q,λ_ ps q=>⟨#[],by rw [q];simp⟩⟩
theorem Un.refl:Un fs ex H H h h:=Un.kept λ_ _ q=>q
theorem Un.laid(k:∀b u,h.get? b=some u->h'.get? b=some u)(hp:h.objs.size<=a)(hn:H a=none):Un fs ex H (upd H a o) h h' where
 keep:=λb u q _ _ _=>k b u q
 slot:=λb u q _ _ _=>⟨u.slots,k b u q⟩
 free:=λb u q n _=>by rw [ak (Nat.ne_of_lt (Nat.lt_of_lt_of_le (Heap.lt_size q) hp))];exact n
 there:=λb u q _=>⟨u,k b u q⟩
 tups:=λb xs q=>by rw [ak (az q hn)];exact q
 frzs:=λb u xs q=>by rw [ak (az q hn)];exact q
 tbls:=λb ps q=>⟨#[],by rw [ak (az q hn),q];simp⟩
theorem Un.write(mu:Mut (H x))(he:e=x\/H e=some (.own x))(k:∀b u,b≠e->h.get? b=some u->h'.get? b=some u)(heo:∃u,h'.get? e=some u):Un fs ex H (upd H x o) h h':=by
 have hx:∀b,H b=none->b≠x:=λb n z=>by subst z;rw [n]at mu;exact mu
 have hb:∀b,H b=none->b≠e:=λb n z=>by
  subst z
  rcases he with r|r
  ·exact hx b n r
  ·rw [n]at r;cases r
 have hm:∀b u,H b=some u->¬ Mut (some u)->b≠x:=λb u q nm z=>by subst z;rw [q]at mu;exact nm mu
 refine⟨λb u q n _ _=>k b u (hb b n) q,λb u q n _ _=>⟨u.slots,k b u (hb b n) q⟩,λb u q n _=>by rw [ak (hx b n)];exact n,λb u q _=>?_,
  λb xs q=>by rw [ak (hm b _ q λz=>z)];exact q,λb u xs q=>by rw [ak (hm b _ q λz=>z)];exact q,λb ps q=>⟨#[],by rw [ak (hm b _ q λz=>z),q];simp⟩⟩
 by_cases hbe:b=e
 ·subst hbe;exact heo
 ·exact⟨u,k b u hbe q⟩
end
noncomputable def trk(h:Heap)(H:Hp):List Addr:=(List.range h.objs.size).filter λa=>(H a).isSome
noncomputable def mT(h:Heap)(H:Hp):Heap:=PySem.W.hideAll h (trk h H)
theorem rZ(h:Heap)(H:Hp):(mT h H).objs.size=h.objs.size:=PySem.W.hideAll_size _ _
theorem tP{h:Heap}{H:Hp}{b:Addr}{o:Obj}(e:h.get? b=some o)(n:H b=none):(mT h H).get? b=some o :=
 PySem.W.hideAll_get _ e λhm=>by
  have q:(H b).isSome=true:=(List.mem_filter.mp hm).2
  rw [n]at q;simp at q
theorem xc{h:Heap}{H:Hp}{b:Addr}{o:Obj}(e:(mT h H).get? b=some o):h.get? b=some o/\H b=none:=by
 have e':h.get? b=some o:=PySem.W.of_hideAll (trk h H) e
 refine⟨e',?_⟩
 cases q:H b with
 |none=>rfl
 |some x =>
  have hm:b∈trk h H:=List.mem_filter.mpr ⟨List.mem_range.mpr (Heap.lt_size e'),by simp [q]⟩
  have z:(mT h H).get? b=none:=PySem.W.hideAll_none (trk h H) hm
  rw [z]at e;cases e
noncomputable def xg(g h:Heap)(L:Addr):List (Addr×Obj):=(List.range h.objs.size).filterMap λa=>if a=L\/(g.get? a).isSome=true then none else (h.get? a).map λo=>(a,o)
noncomputable def ci(g h:Heap)(L d:Addr):List (Addr×Obj):=(xg g h L).filter λp=>decide (p.1≠d)
end L2
namespace L2
open PySem PySem.Spec PyProof.Rows
structure Mod(K:PySem.W.Frag)(mg:Str->Option Value)(base:Heap):Prop where
 kin:K.In base
 glob:base.Ns mainGlobals mg
 blt:∃mb,base.Ns builtinsNs mb/\∀x:Str,x ≠ "__name__"->mb x=bootBuiltins x
 nolimit:base.NoLimit
structure Cx where
 prog:Program
 w:World
 K:PySem.W.Frag
 mg:Str->Option Value
 base:Heap
 A:Around
 N:List Str
 s₀:Shared
 H₀:Hp
 env:Env
 outer:List Env
 stack:List Env
 ex:List Addr
 fn:Str->Bool
 calm:Bool
 pn:List (Addr×Obj)
 xe:Value->Shared->Prop
noncomputable def frs(l:List Env):List Addr:=l.filterMap (·.frame)
noncomputable abbrev Cx.fs(X:Cx):List Addr:=frs X.outer
noncomputable def Vis(sc:Scope)(x:Str):Prop:=sc.names.lookup x=some .local\/sc.names.lookup x=some .cell\/sc.names.lookup x=some .free
noncomputable def Loc(sc:Scope)(x:Str):Prop:=sc.names.lookup x=some .local\/sc.names.lookup x=some .cell
noncomputable def Ek(env:Env)(h:Heap)(m:Str->Option Value)(x:Str)(u:Value):Prop :=
 (env.kindOf x=some .local/\m x=some u)\/((env.kindOf x=some .cell\/env.kindOf x=some .free)/\∃c,env.cells.lookup x=some c/\h.IsCell c (some u))
structure Cx.Ok(X:Cx):Prop where
 mod:Mod X.K X.mg X.base
 kind:X.env.scope.kind=.function
 glob:X.env.globals=mainGlobals
 blt:X.env.builtins=builtinsNs
 above:X.s₀.heap.objs.size<=X.env.locals
 inj:∀x y c,X.env.cells.lookup x=some c->X.env.cells.lookup y=some c->x=y
 has:∀x,(X.env.kindOf x=some .cell\/X.env.kindOf x=some .free)->∃c,X.env.cells.lookup x=some c
 cab:∀x c,X.fn x=true->X.env.cells.lookup x=some c->X.s₀.heap.objs.size<=c
 hd:X.calm=true->X.A.handled=none
 frames:X.A.frames=some X.stack
 stk:X.stack=X.outer\/(X.stack=X.env::X.outer/\X.env.frame=some X.env.locals)
 exf:∀b∈X.ex,b≠X.env.locals/\∀x c,X.env.cells.lookup x=some c->c≠b
 bs:∀b o,X.base.get? b=some o->X.s₀.heap.get? b=some o/\X.H₀ b=none
 bsz:X.base.objs.size<=X.s₀.heap.objs.size
 noex:∀b o,X.base.get? b=some o->b∉X.ex
 exfs:∀b∈X.ex,b∉X.fs
 funs:X.s₀.heap.FunFrames X.base X.outer
 frf:∀b∈X.fs,X.H₀ b=none
structure Inv(X:Cx)(pins:List (Addr×Obj))(σ:List (Option V))(H:Hp)(s:Shared):Prop where
 ok:X.Ok
 os:s.os=X.s₀.os
 bare:AllBare s.gens
 base:Un X.fs X.ex X.H₀ H X.s₀.heap s.heap
 loc:∃m,s.heap.Ns X.env.locals m/\∀(i:Nat) (x:Str) (v:V),X.N[i]?=some x->σ[i]?=some (some v)->Vis X.env.scope x->∃u,av v u/\Ek X.env s.heap m x u
 cell:∀x c,X.env.cells.lookup x=some c->∃v,s.heap.IsCell c v
 free:H X.env.locals=none
 freeC:∀x c,X.env.cells.lookup x=some c->H c=none
 pin:∀p∈X.pn++pins,s.heap.get? p.1=some p.2/\H p.1=none/\p.1≠X.env.locals/\p.1∉X.fs/\∀v,p.2.data≠.cell v
 hok:HOk X.prog X.w H s.heap
 len:σ.length=X.N.length
section
variable{X:Cx}{pins:List (Addr×Obj)}{σ:List (Option V)}{H H':Hp}{s:Shared}{h':Heap}
theorem Cx.Ok.nofr(ok:X.Ok){b:Addr}{o:Obj}(e:X.base.get? b=some o):b∉X.fs:=λhb=>by
 have:=(ok.funs.mem hb).1
 rw [e]at this;cases this
theorem Inv.bs(I:Inv X pins σ H s):∀b o,X.base.get? b=some o->s.heap.get? b=some o/\H b=none:=λb o e =>
 ⟨I.base.keep b o (I.ok.bs b o e).1 (I.ok.bs b o e).2 (I.ok.nofr e) (I.ok.noex b o e),I.base.free b o (I.ok.bs b o e).1 (I.ok.bs b o e).2 (I.ok.noex b o e)⟩
theorem Inv.bk(I:Inv X pins σ H s):∀b o,X.base.get? b=some o->s.heap.get? b=some o:=λb o e=>(I.bs b o e).1
theorem Inv.mod(I:Inv X pins σ H s):Mod X.K X.mg X.base:=I.ok.mod
theorem Inv.kIn(I:Inv X pins σ H s):X.K.In s.heap:=I.ok.mod.kin.keeps I.bk
theorem Inv.lt(I:Inv X pins σ H s):X.env.locals<s.heap.objs.size:=let ⟨_,hn,_⟩:=I.loc;hn.lt
theorem Inv.sz(I:Inv X pins σ H s):X.s₀.heap.objs.size<=s.heap.objs.size:=Nat.le_trans I.ok.above (Nat.le_of_lt I.lt)
theorem Inv.nofs(I:Inv X pins σ H s){a:Addr}(h:s.heap.objs.size<=a):a∉X.fs:=λhb=>by
 obtain⟨_,o,ho,_⟩:=I.ok.funs.mem hb
 exact absurd (Nat.lt_of_lt_of_le (Heap.lt_size ho) (Nat.le_trans I.sz h)) (Nat.lt_irrefl _)
theorem Inv.cne(I:Inv X pins σ H s):∀x c,X.env.cells.lookup x=some c->c≠X.env.locals:=λx c e z=>by
 obtain⟨v,o,ho,hd⟩:=I.cell x c e
 obtain⟨m,⟨o',es,ep,ho',hd',_⟩,_⟩:=I.loc
 rw [z,ho']at ho;cases ho;rw [hd']at hd;cases hd
theorem Inv.funs(I:Inv X pins σ H s):s.heap.FunFrames X.base X.outer:=by
 have all:∀(l:List Env),(∀b∈frs l,b∈X.fs)->X.s₀.heap.FunFrames X.base l->s.heap.FunFrames X.base l:=by
  intro l
  induction l with
  |nil=>intro _ _;trivial
  |cons env r ih =>
   intro hs hl
   obtain⟨hk,⟨L,o,hf,hn,ho,hd⟩,hr⟩:=hl
   have hL:L∈X.fs:=hs L (by unfold frs;rw [List.filterMap_cons,hf];exact List.mem_cons_self)
   obtain⟨sl,e⟩:=I.base.slot L o ho (I.ok.frf L hL) hL λz=>I.ok.exfs L z hL
   exact⟨hk,⟨L,_,hf,hn,e,hd⟩,ih (λb hb=>hs b (by unfold frs;rw [List.filterMap_cons,hf];exact List.mem_cons_of_mem _ hb)) hr⟩
 exact all X.outer (λ_ hb=>hb) I.ok.funs
theorem Inv.stack(I:Inv X pins σ H s):s.heap.FunFrames X.base X.stack:=by
 rcases I.ok.stk with e|⟨e,hf⟩
 ·rw [e];exact I.funs
 ·rw [e]
  obtain⟨m,hn,_⟩:=I.loc
  refine .cons (by rw [I.ok.kind];decide) hf hn ?_ I.funs
  exact Heap.get?_none_of_le (Nat.le_trans I.ok.bsz I.ok.above)
theorem Inv.stkSub(I:Inv X pins σ H s):∀b∈frs X.stack,b∈X.env.locals::X.fs:=λb hb=>by
 rcases I.ok.stk with e|⟨e,hf⟩
 ·rw [e]at hb;exact List.mem_cons_of_mem _ hb
 ·rw [e]at hb
  unfold frs at hb
  rw [List.filterMap_cons,hf]at hb
  exact hb
theorem Inv.stkFree(I:Inv X pins σ H s):∀b∈frs X.stack,H b=none:=λb hb=>by
 rcases List.mem_cons.mp (I.stkSub b hb) with e|hb
 ·rw [e];exact I.free
 ·obtain⟨_,o,ho,_⟩:=I.ok.funs.mem hb
  exact I.base.free b o ho (I.ok.frf b hb) λz=>I.ok.exfs b z hb
theorem Inv.step{g':Array GenState}{t':Nat}{d':Drawn}{ch:List Addr}(I:Inv X pins σ H s)
  (hch:∀b∈ch,(b∈X.ex\/X.s₀.heap.objs.size<=b)/\b≠X.env.locals/\(∀x c,X.env.cells.lookup x=some c->c≠b)/\∀p∈X.pn++pins,p.1≠b)
  (keep:∀b o,b≠X.env.locals->b∉X.fs->b∉ch->s.heap.get? b=some o->H b=none->h'.get? b=some o)
  (slot:∀b o,b≠X.env.locals->b∈X.fs->b∉ch->s.heap.get? b=some o->H b=none->∃sl,h'.get? b=some { o with slots:=sl }) (free:∀b o,b∉ch->s.heap.get? b=some o->H b=none->H' b=none)
  (there:∀b o,b∉ch->s.heap.get? b=some o->∃o',h'.get? b=some o')
  (tups:∀b xs,H b=some (.tup xs)->H' b=some (.tup xs)) (frzs:∀b o u,H b=some (.frz o u)->H' b=some (.frz o u)) (tbls:∀b ps,H b=some (.tbl ps)->∃more,H' b=some (.tbl (ps++more)))
  (ns:∀m,s.heap.Ns X.env.locals m->h'.Ns X.env.locals m) (hok:HOk X.prog X.w H' h') (hg:AllBare g') :
  Inv X pins σ H' { s with heap:=h',gens:=g',drawn:=d',toks:=t' }:=by
 have neL:∀b o,X.s₀.heap.get? b=some o->b≠X.env.locals:=λb o e=>Nat.ne_of_lt (Nat.lt_of_lt_of_le (Heap.lt_size e) I.ok.above)
 have neC:∀b o,X.s₀.heap.get? b=some o->b∉X.ex->b∉ch:=λb o e hx hb=>by
  rcases(hch b hb).1 with z|z
  ·exact hx z
  ·exact absurd (Nat.lt_of_lt_of_le (Heap.lt_size e) z) (Nat.lt_irrefl _)
 have cellK:∀x c,X.env.cells.lookup x=some c->∀v,s.heap.IsCell c v->h'.IsCell c v:=λx c e v ⟨o,ho,hd⟩=>by
  have nch:c∉ch:=λz=>(hch c z).2.2.1 x c e rfl
  by_cases hc:c∈X.fs
  ·obtain⟨sl,q⟩:=slot c o (I.cne x c e) hc nch ho (I.freeC x c e)
   exact⟨_,q,hd⟩
  ·exact⟨o,keep c o (I.cne x c e) hc nch ho (I.freeC x c e),hd⟩
 refine⟨I.ok,I.os,hg,⟨λb o e n hb hx=>?_,λb o e n hb hx=>?_,λb o e n hx=>?_,λb o e hx=>?_,λb xs e=>tups b xs (I.base.tups b xs e),λb o xs e=>frzs b o xs (I.base.frzs b o xs e),λb ps e=>?_⟩,?_,λx c e=>?_,?_,λx c e=>?_,λp hp=>?_,hok,I.len⟩
 ·exact keep b o (neL b o e) hb (neC b o e hx) (I.base.keep b o e n hb hx) (I.base.free b o e n hx)
 ·obtain⟨sl,e1⟩:=I.base.slot b o e n hb hx
  obtain⟨sl',e2⟩:=slot b _ (neL b o e) hb (neC b o e hx) e1 (I.base.free b o e n hx)
  exact⟨sl',e2⟩
 ·obtain⟨o',e1⟩:=I.base.there b o e hx
  exact free b o' (neC b o e hx) e1 (I.base.free b o e n hx)
 ·obtain⟨o',e1⟩:=I.base.there b o e hx
  exact there b o' (neC b o e hx) e1
 ·obtain⟨m1,e1⟩:=I.base.tbls b ps e
  obtain⟨m2,e2⟩:=tbls b _ e1
  exact⟨m1++m2,by rw [e2,Array.append_assoc]⟩
 ·obtain⟨m,hn,hl⟩:=I.loc
  refine⟨m,ns m hn,λi x v e1 e2 e3=>?_⟩
  obtain⟨u,r,l⟩:=hl i x v e1 e2 e3
  refine⟨u,r,?_⟩
  rcases l with l|⟨k,c,e,z⟩
  ·exact .inl l
  ·exact .inr ⟨k,c,e,cellK x c e _ z⟩
 ·obtain⟨v,z⟩:=I.cell x c e
  exact⟨v,cellK x c e v z⟩
 ·obtain⟨m,⟨o,_,_,ho,_⟩,_⟩:=I.loc
  exact free _ o (λz=>(hch _ z).2.1 rfl) ho I.free
 ·obtain⟨v,o,ho,hd⟩:=I.cell x c e
  exact free c o (λz=>(hch c z).2.2.1 x c e rfl) ho (I.freeC x c e)
 ·obtain⟨e,n,ne,nf,d⟩:=I.pin p hp
  have nch:p.1∉ch:=λz=>(hch p.1 z).2.2.2 p hp rfl
  exact⟨keep p.1 p.2 ne nf nch e n,free p.1 p.2 nch e n,ne,nf,d⟩
theorem Inv.un{t':Nat}(I:Inv X pins σ H s)(u:Un X.fs [] H H' s.heap h')(hok:HOk X.prog X.w H' h'):Inv X pins σ H' { s with heap:=h',toks:=t' }:=by
 obtain⟨m,⟨o,es,ep,ho,r⟩,_⟩:=id I.loc
 obtain⟨sl,hL⟩:=u.any ho I.free (by simp)
 exact I.step (g':=s.gens) (d':=s.drawn) (ch:=[]) (λ_ z=>nomatch z) (λb o _ hb _ e n=>u.keep b o e n hb (by simp)) (λb o _ hb _ e n=>u.slot b o e n hb (by simp)) (λb o _ e n=>u.free b o e n (by simp)) (λb o _ e=>u.there b o e (by simp)) u.tups u.frzs u.tbls (λm' hm=>by
  obtain⟨o',es',ep',ho',r'⟩:=hm
  rw [ho]at ho';cases ho'
  exact⟨_,es',ep',hL,r'⟩) hok I.bare
theorem Inv.call{g':Array GenState}{t':Nat}{d':Drawn}{ch:List Addr}(I:Inv X pins σ H s)(u:Un (frs X.stack) ch H H' s.heap h')(hok:HOk X.prog X.w H' h')(hg:AllBare g')
  (hch:∀b∈ch,(b∈X.ex\/X.s₀.heap.objs.size<=b)/\b≠X.env.locals/\(∀x c,X.env.cells.lookup x=some c->c≠b)/\∀p∈X.pn++pins,p.1≠b) :
  Inv X pins σ H' { s with heap:=h',gens:=g',drawn:=d',toks:=t' }:=by
 obtain⟨m,⟨o,es,ep,ho,r⟩,_⟩:=id I.loc
 obtain⟨sl,hL⟩:=u.any ho I.free λz=>(hch _ z).2.1 rfl
 exact I.step (ch:=ch) hch (λb o hL hb hc e n=>u.keep b o e n (λz=>(List.mem_cons.mp (I.stkSub b z)).elim hL hb) hc) (λb o _ _ hc e n=>u.any e n hc) (λb o hc e n=>u.free b o e n hc) (λb o hc e=>u.there b o e hc) u.tups u.frzs u.tbls (λm' hm=>by
  obtain⟨o',es',ep',ho',r'⟩:=hm
  rw [ho]at ho';cases ho'
  exact⟨_,es',ep',hL,r'⟩) hok hg
theorem Inv.turned{t':Nat}{it:Addr}(I:Inv X pins σ H s)(k:∀b o,b≠it->s.heap.get? b=some o->h'.get? b=some o)(hn:H it=none)(hL:it≠X.env.locals)
  (h1:it∈X.ex\/X.s₀.heap.objs.size<=it) (h2:∀x c,X.env.cells.lookup x=some c->c≠it) (h3:∀p∈X.pn++pins,p.1≠it):Inv X pins σ H { s with heap:=h',toks:=t' }:=by
 have nit:∀b u,H b=some u->b≠it:=λb u e z=>by rw [z,hn]at e;cases e
 refine I.step (g':=s.gens) (d':=s.drawn) (ch:=[it]) (λb hb=>?_) (λb o _ _ hc e _=>k b o (λz=>hc (by simp [z])) e) (λb o _ _ hc e _=>⟨o.slots,k b o (λz=>hc (by simp [z])) e⟩) (λ_ _ _ _ n=>n)
  (λb o hc e=>⟨o,k b o (λz=>hc (by simp [z])) e⟩) (λ_ _ e=>e) (λ_ _ _ e=>e) (λb ps e=>⟨#[],by rw [e];simp⟩) (λm hm=>?_) (λb u e=>?_) I.bare
 ·have e:b=it:=by simpa using hb
  subst e
  exact⟨h1,hL,h2,h3⟩
 ·obtain⟨o,es,ep,ho,r⟩:=hm
  exact⟨o,es,ep,k _ o (Ne.symm hL) ho,r⟩
 ·refine(I.hok b u e).stay (λc v hc q=>k c v ?_ q) (λ_ q=>q) λ_ _ q=>q
  rcases hc with z|z
  ·rw [z];exact nit b u e
  ·exact nit c _ z
theorem Inv.tok(I:Inv X pins σ H s)(t:Nat):Inv X pins σ H { s with toks:=t }:=I.un (h':=s.heap) (t':=t) Un.refl I.hok
theorem Inv.kept{t':Nat}(I:Inv X pins σ H s)(k:∀b u,s.heap.get? b=some u->h'.get? b=some u):Inv X pins σ H { s with heap:=h',toks:=t' }:=I.un (Un.kept k) (I.hok.kept k)
theorem Inv.laid{a:Addr}{o:HO}{t':Nat}(I:Inv X pins σ H s)(k:∀b u,s.heap.get? b=some u->h'.get? b=some u)(hp:s.heap.objs.size<=a)(new:bw X.prog X.w (upd H a o) h' a o) :
  Inv X pins σ (upd H a o) { s with heap:=h',toks:=t' }:=I.un (Un.laid k hp (I.hok.fresh hp)) (I.hok.laid k hp new)
theorem Inv.write{x e:Addr}{o:HO}{t':Nat}(I:Inv X pins σ H s)(mu:Mut (H x))(he:e=x\/H e=some (.own x))(k:∀b u,b≠e->s.heap.get? b=some u->h'.get? b=some u)(heo:∃u,h'.get? e=some u)
  (new:bw X.prog X.w (upd H x o) h' x o):Inv X pins σ (upd H x o) { s with heap:=h',toks:=t' }:=I.un (Un.write mu he k heo) (I.hok.write mu he k heo new)
theorem Inv.pins_of{pins':List (Addr×Obj)}(I:Inv X pins σ H s)(h:∀p∈pins',s.heap.get? p.1=some p.2/\H p.1=none/\p.1≠X.env.locals/\p.1∉X.fs/\∀v,p.2.data≠.cell v):Inv X pins' σ H s :=
 ⟨I.ok,I.os,I.bare,I.base,I.loc,I.cell,I.free,I.freeC,λp hp=>(List.mem_append.mp hp).elim (λz=>I.pin p (List.mem_append_left _ z)) (h p),I.hok,I.len⟩
theorem nS{N:List Str}(hN:N.Nodup){i j:Nat}{x:Str}(a:N[i]?=some x)(b:N[j]?=some x):i=j:=by
 obtain⟨h1,e1⟩:=List.getElem?_eq_some_iff.mp a
 obtain⟨h2,e2⟩:=List.getElem?_eq_some_iff.mp b
 exact(List.getElem_inj hN).mp (e1.trans e2.symm)
theorem lZ{M:Model}{A:Around}{E:Value->Shared->Prop}{i:Nat}{x:Str}{v:V}{u:Value}{Q:Unit->Shared->Prop}(I:Inv X pins σ H s)(hN:X.N.Nodup)(hi:X.N[i]?=some x)(hx:Loc X.env.scope x)(r:av v u)
  (h:∀s',Inv X pins (σ.set i (some v)) H s'->(∃a,Heap.SameBut a s.heap s'.heap/\(a=X.env.locals\/X.env.cells.lookup x=some a))->Q () s') (hf:X.fn x=true\/X.env.scope.names.lookup x=some .local:=by first|exact .inl rfl|exact .inr rfl|assumption):wpAny M A (storeName X.env x u) Q E s:=by
 obtain⟨m,hn,hl⟩:=id I.loc
 have hcls:(X.env.scope.kind == .class || (X.env.scope.kind == .module&&X.env.locals != X.env.globals))=false:=by rw [I.ok.kind];rfl
 have hiσ:i<σ.length:=by rw [I.len];exact(List.getElem?_eq_some_iff.mp hi).1
 have cne:=I.cne
 have tracked:∀{a:Addr}{h':Heap},(∃o,s.heap.get? a=some o/\H a=none)->Heap.SameBut a s.heap h'->HOk X.prog X.w H h':=λ{a h'} ha hs b ob e=>by
  obtain⟨_,_,hfree⟩:=ha
  refine(I.hok b ob e).stay (λc w' hc q=>(hs.2 c ?_).trans q) (λ_ q=>q) λ_ _ q=>q
  rintro rfl
  rcases hc with rfl|hc
  ·rw [hfree]at e;cases e
  ·rw [hfree]at hc;cases hc
 rcases hx with hk|hk
 ·refine wpAny_storeName_local hk hn (λh' hn' hs=>?_) hcls
  obtain⟨oL,_,_,hoL,_⟩:=id hn
  refine h _ ⟨I.ok,I.os,I.bare,⟨λb o e n hb hx=>?_,λb o e n hb hx=>?_,I.base.free,λb o e hx=>?_,I.base.tups,I.base.frzs,I.base.tbls⟩,⟨_,hn',λj y v' e1 e2 e3=>?_⟩,λy c e=>?_,I.free,I.freeC,λp hp=>?_,tracked ⟨oL,hoL,I.free⟩ hs,by simpa using I.len⟩ ⟨_,hs,.inl rfl⟩
  ·exact(hs.2 b (Nat.ne_of_lt (Nat.lt_of_lt_of_le (Heap.lt_size e) I.ok.above))).trans (I.base.keep b o e n hb hx)
  ·obtain⟨sl,e1⟩:=I.base.slot b o e n hb hx
   exact⟨sl,(hs.2 b (Nat.ne_of_lt (Nat.lt_of_lt_of_le (Heap.lt_size e) I.ok.above))).trans e1⟩
  ·obtain⟨o',e1⟩:=I.base.there b o e hx
   exact⟨o',(hs.2 b (Nat.ne_of_lt (Nat.lt_of_lt_of_le (Heap.lt_size e) I.ok.above))).trans e1⟩
  ·by_cases hj:j=i
   ·subst hj
    rw [hi]at e1;cases e1
    rw [List.getElem?_set_self hiσ]at e2
    cases e2
    exact⟨u,r,.inl ⟨hk,by simp⟩⟩
   ·rw [List.getElem?_set_ne (Ne.symm hj)]at e2
    obtain⟨u',r',q⟩:=hl j y v' e1 e2 e3
    refine⟨u',r',?_⟩
    rcases q with ⟨k,e⟩|⟨k,c,e,z⟩
    ·refine .inl ⟨k,?_⟩
     have:y≠x:=λe=>hj (nS hN e1 (e ▸ hi))
     simp [this,e]
    ·exact .inr ⟨k,c,e,z.sameBut hs (cne y c e)⟩
  ·obtain⟨w',z⟩:=I.cell y c e
   exact⟨w',z.sameBut hs (cne y c e)⟩
  ·obtain⟨e,n,ne,nf,d⟩:=I.pin p hp
   exact⟨(hs.2 p.1 ne).trans e,n,ne,nf,d⟩
 ·have hfn:X.fn x=true:=by
   rcases hf with z|z
   ·exact z
   ·rw [z]at hk;cases hk
  obtain⟨c,hc⟩:=I.ok.has x (.inl hk)
  obtain⟨w',z⟩:=I.cell x c hc
  refine wpAny_storeName_cell I.ok.kind hk hc z (λh' hc' hs=>?_)
  obtain⟨oc,hoc,hocd⟩:=id z
  refine h { s with heap:=h' } ⟨I.ok,I.os,I.bare,⟨λb o e n hb hx=>?_,λb o e n hb hx=>?_,I.base.free,λb o e hx=>?_,I.base.tups,I.base.frzs,I.base.tbls⟩,⟨m,hn.sameBut hs (Ne.symm (cne x c hc)),λj y v' e1 e2 e3=>?_⟩,λy c' e=>?_,I.free,I.freeC,λp hp=>?_,tracked ⟨oc,hoc,I.freeC x c hc⟩ hs,by simpa using I.len⟩ ⟨c,hs,.inr hc⟩
  ·exact(hs.2 b (Nat.ne_of_lt (Nat.lt_of_lt_of_le (Heap.lt_size e) (I.ok.cab x c hfn hc)))).trans (I.base.keep b o e n hb hx)
  ·obtain⟨sl,e1⟩:=I.base.slot b o e n hb hx
   exact⟨sl,(hs.2 b (Nat.ne_of_lt (Nat.lt_of_lt_of_le (Heap.lt_size e) (I.ok.cab x c hfn hc)))).trans e1⟩
  ·obtain⟨o',e1⟩:=I.base.there b o e hx
   exact⟨o',(hs.2 b (Nat.ne_of_lt (Nat.lt_of_lt_of_le (Heap.lt_size e) (I.ok.cab x c hfn hc)))).trans e1⟩
  ·by_cases hj:j=i
   ·subst hj
    rw [hi]at e1;cases e1
    rw [List.getElem?_set_self hiσ]at e2
    cases e2
    exact⟨u,r,.inr ⟨.inl hk,c,hc,hc'⟩⟩
   ·rw [List.getElem?_set_ne (Ne.symm hj)]at e2
    obtain⟨u',r',q⟩:=hl j y v' e1 e2 e3
    refine⟨u',r',?_⟩
    rcases q with q|⟨k,c',e,z'⟩
    ·exact .inl q
    ·refine .inr ⟨k,c',e,z'.sameBut hs ?_⟩
     rintro rfl
     exact hj (nS hN e1 (I.ok.inj _ _ _ e hc ▸ hi))
  ·by_cases hcc:c'=c
   ·subst hcc;exact⟨_,hc'⟩
   ·obtain⟨w2,z2⟩:=I.cell y c' e
    exact⟨w2,z2.sameBut hs hcc⟩
  ·obtain⟨e,n,ne,nf,d⟩:=I.pin p hp
   refine⟨(hs.2 p.1 ?_).trans e,n,ne,nf,d⟩
   intro q
   rw [q,hoc]at e
   have q':oc=p.2:=Option.some.inj e
   exact d w' (by rw [<- q'];exact hocd)
theorem nT{M:Model}{A:Around}{E:Value->Shared->Prop}{i:Nat}{x:Str}{v:V}{u:Value}{Q:Unit->Shared->Prop}(I:Inv X pins σ H s)(hN:X.N.Nodup)(hi:X.N[i]?=some x)(hx:Loc X.env.scope x)(r:av v u)
  (h:∀s',Inv X pins (σ.set i (some v)) H s'->Q () s') (hf:X.fn x=true\/X.env.scope.names.lookup x=some .local:=by first|exact .inl rfl|exact .inr rfl|assumption):wpAny M A (storeName X.env x u) Q E s :=
 lZ I hN hi hx r (λs' I' _=>h s' I') hf
theorem Inv.call'{s':Shared}{ch:List Addr}(I:Inv X pins σ H s)(ho:s'.os=s.os)(u:Un (frs X.stack) ch H H' s.heap s'.heap)(hok:HOk X.prog X.w H' s'.heap)(hg:AllBare s'.gens)
  (hch:∀b∈ch,(b∈X.ex\/X.s₀.heap.objs.size<=b)/\b≠X.env.locals/\(∀x c,X.env.cells.lookup x=some c->c≠b)/\∀p∈X.pn++pins,p.1≠b):Inv X pins σ H' s':=by
 obtain⟨h',g',d',t',o'⟩:=s'
 have e:o'=s.os:=ho
 subst e
 exact I.call (g':=g') (t':=t') (d':=d') u hok hg hch
end
noncomputable abbrev XK:=Value->Option Addr->Hp->Prop
noncomputable abbrev St:=List (Option V)
noncomputable abbrev VK:=V->Hp->Prop
noncomputable abbrev TE:=St->Hp->VK->Prop
noncomputable abbrev TT:=St->Hp->(Bool->Hp->Prop)->Prop
noncomputable abbrev TA:=St->Hp->(List V->Hp->Prop)->Prop
structure eN where
 nx:St->Hp->Prop
 rt:VK
 bk:St->Hp->Prop:=λ_ _=>False
 ct:St->Hp->Prop:=λ_ _=>False
noncomputable abbrev TS:=eN->St->Hp->Prop
noncomputable def EP(X:Cx)(pins:List (Addr×Obj))(σ:St)(Q:VK)(u:Value)(s':Shared):Prop:=∃v H',Inv X pins σ H' s'/\av v u/\Q v H'
noncomputable def TP(X:Cx)(pins:List (Addr×Obj))(σ:St)(Q:Bool->Hp->Prop)(b:Bool)(s':Shared):Prop:=∃H',Inv X pins σ H' s'/\Q b H'
noncomputable def AP(X:Cx)(pins:List (Addr×Obj))(σ:St)(Q:List V->Hp->Prop)(us:List Value)(s':Shared):Prop:=∃vs H',Inv X pins σ H' s'/\aw vs us/\Q vs H'
noncomputable def SP(X:Cx)(pins:List (Addr×Obj))(D:eN)(f:Flow)(s':Shared):Prop :=
 match f with
 | .next=>∃σ' H',Inv X pins σ' H' s'/\D.nx σ' H'
 | .brk=>∃σ' H',Inv X pins σ' H' s'/\D.bk σ' H'
 | .cont=>∃σ' H',Inv X pins σ' H' s'/\D.ct σ' H'
 | .ret u=>∃v σ' H',Inv X pins σ' H' s'/\av v u/\D.rt v H'
noncomputable def PE(X:Cx)(e:Expr)(t:TE):Prop :=
 ∀(pins:List (Addr×Obj)) (s:Shared) (σ:St) (H:Hp) (Q:VK),Inv X pins σ H s->t σ H Q->wpAny (model X.prog X.w) X.A (eval e X.env) (EP X pins σ Q) X.xe s
noncomputable def PT(X:Cx)(e:Expr)(t:TT):Prop :=
 ∀(pins:List (Addr×Obj)) (s:Shared) (σ:St) (H:Hp) (Q:Bool->Hp->Prop),Inv X pins σ H s->t σ H Q->wpAny (model X.prog X.w) X.A (isTrue e X.env (eval e X.env)) (TP X pins σ Q) X.xe s
noncomputable def PW(X:Cx)(e:Expr)(t:TT):Prop :=
 ∀(whole:Sem Value) (pins:List (Addr×Obj)) (s:Shared) (σ:St) (H:Hp) (Q:Bool->Hp->Prop),Inv X pins σ H s->t σ H Q->wpAny (model X.prog X.w) X.A (isTrue e X.env whole) (TP X pins σ Q) X.xe s
theorem PW.pt{X:Cx}{e:Expr}{t:TT}(h:PW X e t):PT X e t:=h _
noncomputable def PA(X:Cx)(es:List Expr)(t:TA):Prop :=
 ∀(pos:Pos) (pins:List (Addr×Obj)) (s:Shared) (σ:St) (H:Hp) (Q:List V->Hp->Prop),Inv X pins σ H s->t σ H Q->wpAny (model X.prog X.w) X.A (spliced (backTo pos (starEach es X.env))) (AP X pins σ Q) X.xe s
noncomputable def PS(X:Cx)(st:Stmt)(t:TS):Prop :=
 ∀(pins:List (Addr×Obj)) (s:Shared) (σ:St) (H:Hp) (D:eN),Inv X pins σ H s->t D σ H->wpAny (model X.prog X.w) X.A (exec st X.env) (SP X pins D) X.xe s
noncomputable def PSs(X:Cx)(st:List Stmt)(t:TS):Prop :=
 ∀(pins:List (Addr×Obj)) (s:Shared) (σ:St) (H:Hp) (D:eN),Inv X pins σ H s->t D σ H->wpAny (model X.prog X.w) X.A (execs st X.env) (SP X pins D) X.xe s
theorem thn{α:Type}{t:Sem α}{Q Q':α->Shared->Prop}{M:Model}{A:Around}{E:Value->Shared->Prop}{s:Shared}(h:wpAny M A t Q E s)(hQ:∀a s,Q a s->Q' a s):wpAny M A t Q' E s:=wpAny_mono h hQ λ_ _ x=>x
end L2
namespace L2
open PySem PySem.Spec PyProof.Rows
section
variable{X:Cx}
theorem bin{a b:Expr}{ta tb:TE}(ha:PE X a ta)(hb:PE X b tb){pins:List (Addr×Obj)}{s:Shared}{σ:St}{H:Hp}{R:V->V->Hp->Prop}(I:Inv X pins σ H s)(h:ta σ H λx H1=>tb σ H1 λy H2=>R x y H2)
  {α:Type}{Q:α->Shared->Prop}{f:Value->Value->Sem α}
  (hf:∀v u s2 x y H2,Inv X pins σ H2 s2->av x v->av y u->R x y H2->wpAny (model X.prog X.w) X.A (f v u) Q X.xe s2) :
  wpAny (model X.prog X.w) X.A (eval a X.env) (λv s₁=>wpAny (model X.prog X.w) X.A (eval b X.env) (λu s₂=>wpAny (model X.prog X.w) X.A (f v u) Q X.xe s₂) X.xe s₁) X.xe s:=by
 refine thn (ha pins s σ H _ I h) λv s1 ⟨x,H1,I1,r1,q1⟩=>?_
 refine thn (hb pins s1 σ H1 _ I1 q1) λu s2 ⟨y,H2,I2,r2,q2⟩=>?_
 exact hf v u s2 x y H2 I2 r1 r2 q2
noncomputable def br(i:Nat):TE:=λσ H Q=>∃v,σ[i]?=some (some v)/\Q v H
noncomputable def tC(v:V):TE:=λ_ H Q=>Q v H
theorem pq {i:Nat}{x:Str}{pos:Pos} (hN:X.N[i]?=some x) (hv:Vis X.env.scope x) (hd:(x == ("__debug__":Str))=false:=by decide) (hcd:(x == ("__classdict__":Str))=false:=by decide):PE X (.Name x pos) (br i):=by
 intro pins s σ H Q I h
 obtain⟨v,e,h⟩:=h
 obtain⟨m,hn,hl⟩:=I.loc
 obtain⟨u,r,l⟩:=hl i x v hN e hv
 have fin:EP X pins σ Q u s:=⟨v,H,I,r,h⟩
 rcases l with ⟨hk,hm⟩|⟨hk,c,hc,hcell⟩
 ·exact wpAny_Name (wpAny_loadName_local I.ok.kind hk hn hm fin) hd
 ·rcases hk with hk|hk
  ·exact wpAny_Name (wpAny_loadName_cell I.ok.kind hk hc hcell fin) hd
  ·exact wpAny_Name (wpAny_loadName_free I.ok.kind hk hc hcell fin hcd) hd
theorem mU{i j pos}:PE X (.Constant (.int i) j pos) (tC (.int i)):=λ_ _ _ H _ I h=>wpAny_Constant_int ⟨.int i,H,I.tok _,⟨_,rfl⟩,h⟩
theorem y0{b j pos}:PE X (.Constant (.bool b) j pos) (tC (.bl b)):=λ_ _ _ H _ I h=>Constant_bool ⟨.bl b,H,I,rfl,h⟩
theorem zw{j pos}:PE X (.Constant .none j pos) (tC .non):=λ_ _ _ H _ I h=>Constant_none ⟨.non,H,I,rfl,h⟩
theorem pw{x j pos}:PE X (.Constant (.str x) j pos) (tC (.str x)):=λ_ _ _ H _ I h=>Calls.Constant_str ⟨.str x,H,I.tok _,⟨_,rfl⟩,h⟩
noncomputable def Gl(X:Cx)(x:Str):Prop:=X.env.kindOf x=some .globalImplicit
theorem jR{E:Value->Shared->Prop}{pins:List (Addr×Obj)}{s:Shared}{σ:St}{H:Hp}{x:Str}{u:Value}{pos:Pos}{Q:Value->Shared->Prop}(I:Inv X pins σ H s)(hg:Gl X x)(hm:X.mg x=some u)(h:Q u s)
  (hd:(x == ("__debug__":Str))=false:=by decide):wpAny (model X.prog X.w) X.A (eval (.Name x pos) X.env) Q E s :=
 Calls.Name_function_global I.ok.kind hg (Calls.loadGlobal_global (by rw [I.ok.glob];exact I.mod.glob.keeps I.bk) hm h) hd
theorem iW{E:Value->Shared->Prop}{pins:List (Addr×Obj)}{s:Shared}{σ:St}{H:Hp}{x:Str}{u:Value}{pos:Pos}{Q:Value->Shared->Prop}(I:Inv X pins σ H s)(hg:Gl X x)(hm:X.mg x=none)(hv:bootBuiltins x=some u)(h:Q u s)
  (hn:x ≠ "__name__":=by decide) (hd:(x == ("__debug__":Str))=false:=by decide):wpAny (model X.prog X.w) X.A (eval (.Name x pos) X.env) Q E s:=by
 obtain⟨mb,h1,h2⟩:=I.mod.blt
 exact Calls.Name_function_global I.ok.kind hg (Calls.loadGlobal_builtin (by rw [I.ok.glob];exact I.mod.glob.keeps I.bk) hm (by rw [I.ok.blt];exact h1.keeps I.bk) ((h2 x hn).trans hv) h) hd
theorem xh {x:Str}{v:V}{u:Value}{pos:Pos} (hg:Gl X x) (hm:X.mg x=some u) (r:av v u) (hd:(x == ("__debug__":Str))=false:=by decide):PE X (.Name x pos) (tC v) :=
 λ_ _ _ H _ I h=>jR I hg hm ⟨v,H,I,r,h⟩ hd
theorem xi {x:Str}{v:V}{u:Value}{pos:Pos} (hg:Gl X x) (hm:X.mg x=none) (hv:bootBuiltins x=some u) (r:av v u) (hn:x ≠ "__name__":=by decide) (hd:(x == ("__debug__":Str))=false:=by decide):PE X (.Name x pos) (tC v) :=
 λ_ _ _ H _ I h=>iW I hg hm hv ⟨v,H,I,r,h⟩ hn hd
variable{a b:Expr}{ta tb:TE}{pos:Pos}
noncomputable def PC(X:Cx)(op:CmpOp)(a b:Expr)(t:TE):Prop :=
 ∀(pins:List (Addr×Obj)) (s:Shared) (σ:St) (H:Hp) (Q:VK),Inv X pins σ H s->t σ H Q ->
  wpAny (model X.prog X.w) X.A (eval a X.env) (λv s₁=>wpAny (model X.prog X.w) X.A (eval b X.env) (λu s₂=>wpAny (model X.prog X.w) X.A (compareOp op v u) (EP X pins σ Q) X.xe s₂) X.xe s₁) X.xe s
noncomputable def tB(t:TE):TT:=λσ H Q=>t σ H λx H1=>∃c,x=.bl c/\Q c H1
theorem tQ{op:CmpOp}{t:TE}(h:PC X op a b t)(h1:behindInMarks op b=false:=by first|exact nobehind _ (by decide) (by decide)|rfl):PE X (.Compare a [op] [b] pos) t:=λpins s σ H Q I hw=>wpAny_Compare1 (h pins s σ H Q I hw) h1
theorem tR{op:CmpOp}{t:TE}(h:PC X op a b t)(h1:behindInMarks op b=false:=by first|exact nobehind _ (by decide) (by decide)|rfl):PT X (.Compare a [op] [b] pos) (tB t):=by
 intro pins s σ H Q I hw
 refine wpAny_isTrue_Compare1 (thn (h pins s σ H _ I hw) λv s1 h1=>thn h1 λu s2 h2=>thn h2 λc s3 ⟨x,H1,I1,r1,q1⟩=>?_) h1
 obtain⟨d,rfl,q⟩:=q1
 cases r1
 exact wpAny_truthy_bool ⟨H1,I1,q⟩
theorem zx{e:Expr}{t:TE}(h:PE X e t)(he:∀whole,isTrue e X.env whole=(do let v <- whole;standAt e.pos;holding [v] (truthy v)):=by intro _;rfl):PT X e (tB t):=by
 intro pins s σ H Q I hw
 refine isTrue_plain (thn (h pins s σ H _ I hw) λv s1 ⟨x,H1,I1,r1,q1⟩=>?_) (he _)
 obtain⟨d,rfl,q⟩:=q1
 cases r1
 exact wpAny_truthy_bool ⟨H1,I1,q⟩
variable{tA tB':TT}{ci:List Expr}
noncomputable def El(t u:TT):TT:=λσ H Q=>t σ H λc H1=>if c=true then u σ H1 Q else Q false H1
noncomputable def tOr(t u:TT):TT:=λσ H Q=>t σ H λc H1=>if c=true then Q true H1 else u σ H1 Q
noncomputable def Em(t:TT):TT:=λσ H Q=>t σ H λc H1=>Q (!c) H1
theorem xj(ha:PT X a tA):PW X (.BoolOp .And [a] pos) tA:=by
 intro wh pins s σ H Q I h
 refine isTrue_and (thn (ha pins s σ H Q I h) λc s1 e=>?_)
 cases c with
 |true=>exact isTrue_and_nil e
 |false=>exact e
theorem zy(ha:PT X a tA):PW X (.BoolOp .Or [a] pos) tA:=by
 intro wh pins s σ H Q I h
 refine isTrue_or (thn (ha pins s σ H Q I h) λc s1 e=>?_)
 cases c with
 |false=>exact isTrue_or_nil e
 |true=>exact e
theorem zA(ha:PT X a tA)(hb:PW X (.BoolOp .And (b::ci) pos) tB'):PW X (.BoolOp .And (a::b::ci) pos) (El tA tB'):=by
 intro wh pins s σ H Q I h
 refine isTrue_and (thn (ha pins s σ H _ I h) λc s1 ⟨H1,I1,q1⟩=>?_)
 cases c with
 |true=>exact hb wh pins s1 σ H1 Q I1 q1
 |false=>exact⟨H1,I1,q1⟩
theorem B8(ha:PT X a tA)(hb:PW X (.BoolOp .Or (b::ci) pos) tB'):PW X (.BoolOp .Or (a::b::ci) pos) (tOr tA tB'):=by
 intro wh pins s σ H Q I h
 refine isTrue_or (thn (ha pins s σ H _ I h) λc s1 ⟨H1,I1,q1⟩=>?_)
 cases c with
 |true=>exact⟨H1,I1,q1⟩
 |false=>exact hb wh pins s1 σ H1 Q I1 q1
theorem zB(ha:PT X a tA):PT X (.UnaryOp .Not a pos) (Em tA):=by
 intro pins s σ H Q I h
 exact isTrue_not (ha pins s σ H (λc H1=>Q (!c) H1) I h)
noncomputable def B9(ta tb:TE):TE:=λσ H Q=>ta σ H λx H1=>∃c,x=.bl c/\if c=true then tb σ H1 Q else Q (.bl false) H1
noncomputable def Eo(ta tb:TE):TE:=λσ H Q=>ta σ H λx H1=>∃c,x=.bl c/\if c=true then Q (.bl true) H1 else tb σ H1 Q
noncomputable def B_(ta:TE):TE:=λσ H Q=>ta σ H λx H1=>∃c,x=.bl c/\Q (.bl (!c)) H1
theorem tU{op}{t:TE}(h:PE X a t):PE X (.BoolOp op [a] pos) t:=λpins s σ H Q I hw=>BoolOp_one (h pins s σ H Q I hw)
theorem zC(ha:PE X a ta)(hb:PE X (.BoolOp .And (b::ci) pos) tb):PE X (.BoolOp .And (a::b::ci) pos) (B9 ta tb):=by
 intro pins s σ H Q I h
 refine BoolOp_and (thn (ha pins s σ H _ I h) λv s1 ⟨x,H1,I1,r1,q1⟩=>?_)
 obtain⟨c,rfl,q1⟩:=q1
 cases r1
 refine wpAny_truthy_bool ?_
 cases c with
 |true=>exact hb pins s1 σ H1 Q I1 q1
 |false=>exact⟨.bl false,H1,I1,rfl,q1⟩
theorem Ca(ha:PE X a ta)(hb:PE X (.BoolOp .Or (b::ci) pos) tb):PE X (.BoolOp .Or (a::b::ci) pos) (Eo ta tb):=by
 intro pins s σ H Q I h
 refine BoolOp_or (thn (ha pins s σ H _ I h) λv s1 ⟨x,H1,I1,r1,q1⟩=>?_)
 obtain⟨c,rfl,q1⟩:=q1
 cases r1
 refine wpAny_truthy_bool ?_
 cases c with
 |false=>exact hb pins s1 σ H1 Q I1 q1
 |true=>exact⟨.bl true,H1,I1,rfl,q1⟩
theorem zD(ha:PE X a ta):PE X (.UnaryOp .Not a pos) (B_ ta):=by
 intro pins s σ H Q I h
 refine UnaryOp_ (thn (ha pins s σ H _ I h) λv s1 ⟨x,H1,I1,r1,q1⟩=>?_)
 obtain⟨c,rfl,q1⟩:=q1
 cases r1
 exact not_of (wpAny_truthy_bool ⟨.bl (!c),H1,I1,rfl,q1⟩)
noncomputable def tIf(t:TT)(ta tb:TE):TE:=λσ H Q=>t σ H λc H1=>if c=true then ta σ H1 Q else tb σ H1 Q
theorem tX{c:Expr}(hc:PT X c tA)(ha:PE X a ta)(hb:PE X b tb):PE X (.IfExp c a b pos) (tIf tA ta tb):=by
 intro pins s σ H Q I h
 refine wpAny_IfExp (thn (hc pins s σ H _ I h) λd s1 ⟨H1,I1,q1⟩=>?_)
 cases d with
 |true=>exact ha pins s1 σ H1 Q I1 q1
 |false=>exact hb pins s1 σ H1 Q I1 q1
end
end L2
namespace L2
open PySem PySem.Spec PyProof.Rows
noncomputable def SqL(K:PySem.W.Frag)(H:Hp)(a:Addr)(xs:List V):Prop :=
 Rd H a (.lst xs) \/
  ∃(o:Obj) (its:Array Value) (n:Nat),K.lookup a=some o/\o.cls=.type "list"/\o.dict=none/\o.data=.seq its n/\its.size<=sizeLine/\aw xs its.toList
noncomputable def SqT(K:PySem.W.Frag)(H:Hp)(a:Addr)(xs:List V):Prop :=
 Rd H a (.tup xs) \/
  ∃(o:Obj) (its:Array Value) (n:Nat),K.lookup a=some o/\o.cls=.type "tuple"/\o.data=.seq its n/\its.size<=sizeLine/\aw xs its.toList
noncomputable def Ep:Value->Option V
 | .none=>some .non
 | .bool b=>some (.bl b)
 | .int i _=>some (.int i)
 | .str x _=>some (.str x)
 | .bytes b _=>some (.byt b)
 | .float b _=>some (.flt b)
 | .ref a=>some (.ref a)
 | .type n=>some (.ty n)
 | _=>none
theorem av.abs{x:V}{u:Value}(r:av x u):Ep u=some x:=by
 cases x with
 |non=>cases r;rfl
 |bl _=>cases r;rfl
 |int _=>obtain⟨t,rfl⟩:=r;rfl
 |str _=>obtain⟨t,rfl⟩:=r;rfl
 |byt _=>obtain⟨t,rfl⟩:=r;rfl
 |flt _=>obtain⟨t,rfl⟩:=r;rfl
 |ref _=>cases r;rfl
 |ty _=>cases r;rfl
theorem av.inj{x y:V}{u:Value}(r:av x u)(q:av y u):x=y:=Option.some.inj (r.abs.symm.trans q.abs)
theorem aw.inj:∀{xs ys:List V}{us:List Value},aw xs us->aw ys us->xs=ys
 | _,_,_,.nil,.nil=>rfl
 | _,_,_,.cons r t,.cons r' t'=>by rw [r.inj r',aw.inj t t']
section
variable{X:Cx}{pins:List (Addr×Obj)}{σ:St}{H:Hp}{s:Shared}{a:Addr}{xs ys:List V}
theorem SqL.of{K:PySem.W.Frag}(h:H a=some (.lst xs)):SqL K H a xs:=.inl (.inl h)
theorem SqT.of{K:PySem.W.Frag}(h:H a=some (.tup xs)):SqT K H a xs:=.inl (.inl h)
theorem Inv.list(I:Inv X pins σ H s)(h:SqL X.K H a xs):∃its:List Value,aw xs its/\PlainL s.heap a its.toArray/\xs.length<=sizeLine:=by
 rcases h with h|⟨o,its,n,hk,hc,hd,hs,hz,r⟩
 ·obtain⟨z,its,n,r,e⟩:=h.ok I.hok
  exact⟨its,r,⟨_,n,e,rfl,rfl,rfl⟩,z⟩
 ·refine⟨its.toList,r,⟨o,n,I.kIn a o hk,hc,hd,by simpa using hs⟩,?_⟩
  have e:=r.length
  simp only [Array.length_toList]at e
  omega
theorem Inv.tuple(I:Inv X pins σ H s)(h:SqT X.K H a xs):∃its:List Value,aw xs its/\IsTup s.heap a its.toArray/\xs.length<=sizeLine:=by
 rcases h with h|⟨o,its,n,hk,hc,hs,hz,r⟩
 ·obtain⟨z,its,r,p⟩:=h.ok I.hok
  exact⟨its,r,p,z⟩
 ·refine⟨its.toList,r,⟨o,I.kIn a o hk,hc,n,by simpa using hs⟩,?_⟩
  have e:=r.length
  simp only [Array.length_toList]at e
  omega
theorem Inv.list_inj(I:Inv X pins σ H s)(h:SqL X.K H a xs)(h':SqL X.K H a ys):xs=ys:=by
 obtain⟨its,r,⟨o,n,e,_,_,d⟩,_⟩:=I.list h
 obtain⟨its',r',⟨o',n',e',_,_,d'⟩,_⟩:=I.list h'
 rw [e]at e';cases e'
 rw [d]at d'
 injection d' with d1 _
 have:its=its':=by simpa using congrArg Array.toList d1
 subst this
 exact r.inj r'
theorem Inv.tuple_inj(I:Inv X pins σ H s)(h:SqT X.K H a xs)(h':SqT X.K H a ys):xs=ys:=by
 obtain⟨its,r,⟨o,e,_,n,d⟩,_⟩:=I.tuple h
 obtain⟨its',r',⟨o',e',_,n',d'⟩,_⟩:=I.tuple h'
 rw [e]at e';cases e'
 rw [d]at d'
 injection d' with d1 _
 have:its=its':=by simpa using congrArg Array.toList d1
 subst this
 exact r.inj r'
end
noncomputable abbrev Cx.wish(X:Cx)(E:Value->Shared->Prop):Cx:={ X with xe:=E }
noncomputable abbrev Cx.nox(X:Cx):Cx:=X.wish λ_ _=>False
theorem Cx.Ok.wish{X:Cx}(ok:X.Ok)(E:Value->Shared->Prop):(X.wish E).Ok :=
 ⟨ok.mod,ok.kind,ok.glob,ok.blt,ok.above,ok.inj,ok.has,ok.cab,ok.hd,ok.frames,ok.stk,ok.exf,ok.bs,ok.bsz,ok.noex,ok.exfs,ok.funs,ok.frf⟩
theorem Cx.Ok.unwish{X:Cx}{E:Value->Shared->Prop}(ok:(X.wish E).Ok):X.Ok :=
 ⟨ok.mod,ok.kind,ok.glob,ok.blt,ok.above,ok.inj,ok.has,ok.cab,ok.hd,ok.frames,ok.stk,ok.exf,ok.bs,ok.bsz,ok.noex,ok.exfs,ok.funs,ok.frf⟩
section
variable{X:Cx}{pins:List (Addr×Obj)}{σ:St}{H:Hp}{s:Shared}{E:Value->Shared->Prop}
theorem Inv.wish(I:Inv X pins σ H s)(E:Value->Shared->Prop):Inv (X.wish E) pins σ H s:=⟨I.ok.wish E,I.os,I.bare,I.base,I.loc,I.cell,I.free,I.freeC,I.pin,I.hok,I.len⟩
theorem Inv.unwish(I:Inv (X.wish E) pins σ H s):Inv X pins σ H s:=⟨I.ok.unwish,I.os,I.bare,I.base,I.loc,I.cell,I.free,I.freeC,I.pin,I.hok,I.len⟩
theorem SP.unwish{D:eN}{f:Flow}{s':Shared}(h:SP (X.wish E) pins D f s'):SP X pins D f s':=by
 cases f with
 |next=>obtain⟨σ',H',I,q⟩:=h;exact⟨σ',H',I.unwish,q⟩
 |brk=>obtain⟨σ',H',I,q⟩:=h;exact⟨σ',H',I.unwish,q⟩
 |cont=>obtain⟨σ',H',I,q⟩:=h;exact⟨σ',H',I.unwish,q⟩
 |ret u=>obtain⟨v,σ',H',I,r,q⟩:=h;exact⟨v,σ',H',I.unwish,r,q⟩
theorem PSs.nox{st:List Stmt}{t:TS}(h:PSs X.nox st t):PSs X st t:=λpins s σ H D I hw =>
 wpAny_mono (h pins s σ H D (I.wish _) hw) (λ_ _ q=>q.unwish) λ_ _ z=>False.elim z
end
section
variable{X:Cx}{st:Stmt}{ci:List Stmt}{t u:TS}{e:Expr}{te:TE}{pos:Pos}
noncomputable def nU:TS:=λD σ H=>D.nx σ H
noncomputable def eO(t u:TS):TS:=λD σ H=>t { D with nx:=u D } σ H
theorem mV:PSs X [] nU:=λ_ _ σ H _ I h=>wpAny_execs_nil ⟨σ,H,I,h⟩
theorem aN(h1:PS X st t)(h2:PSs X ci u):PSs X (st::ci) (eO t u):=by
 intro pins s σ H D I h
 refine wpAny_execs_cons (thn (h1 pins s σ H { D with nx:=u D } I h) λf s1 q=>?_)
 cases f with
 |next =>
  obtain⟨σ',H',I',q⟩:=q
  exact h2 pins s1 σ' H' D I' q
 |ret v=>exact q
 |brk=>exact q
 |cont=>exact q
theorem dj(h1:PS X st t):PSs X [st] t:=by
 intro pins s σ H D I h
 refine wpAny_execs_cons (thn (h1 pins s σ H D I h) λf s1 q=>?_)
 cases f with
 |next=>exact wpAny_execs_nil q
 |ret v=>exact q
 |brk=>exact q
 |cont=>exact q
theorem Inv.quiet{pins:List (Addr×Obj)}{σ:St}{H:Hp}{s:Shared}(I:Inv X pins σ H s):interactive X.env=false:=by simp [interactive,I.ok.kind]
noncomputable def d8(te:TE):TS:=λD σ H=>te σ H λ_ H1=>D.nx σ H1
theorem dk(he:PE X e te)(hs:swapsWith e none pos.line X.env=pure false:=by rfl):PS X (.Expr e pos) (d8 te):=by
 intro pins s σ H D I h
 exact wpAny_Expr_any (thn (he pins s σ H _ I h) λv s1 ⟨x,H1,I1,r1,q1⟩=>⟨σ,H1,I1,q1⟩) I.quiet hs
noncomputable def zE(te:TE):TS:=λD σ H=>te σ H D.rt
theorem iX(he:PE X e te):PS X (.Return (some e) pos) (zE te):=by
 intro pins s σ H D I h
 exact wpAny_Return_some (thn (he pins s σ H _ I h) λv s1 ⟨x,H1,I1,r1,q1⟩=>⟨x,σ,H1,I1,r1,q1⟩)
noncomputable def tY(c:TT)(t u:TS):TS:=λD σ H=>c σ H λb H1=>if b=true then t D σ H1 else u D σ H1
theorem tZ{c:Expr}{a b:List Stmt}{tc:TT}(hc:PT X c tc)(ha:PSs X a t)(hb:PSs X b u):PS X (.If c a b pos) (tY tc t u):=by
 intro pins s σ H D I h
 refine wpAny_If (thn (hc pins s σ H _ I h) λd s1 ⟨H1,I1,q1⟩=>?_)
 cases d with
 |true=>exact ha pins s1 σ H1 D I1 q1
 |false=>exact hb pins s1 σ H1 D I1 q1
noncomputable def zF:TS:=λ_ _ _=>False
theorem t5:PS X st zF:=λ_ _ _ _ _ _ h=>h.elim
end
noncomputable abbrev TG:=V->St->Hp->(St->Hp->Prop)->Prop
noncomputable abbrev TGs:=List V->St->Hp->(St->Hp->Prop)->Prop
noncomputable def PG(X:Cx)(target:Expr)(t:TG):Prop :=
 ∀(pins:List (Addr×Obj)) (s:Shared) (σ:St) (H:Hp) (v:V) (u:Value) (Q:St->Hp->Prop),Inv X pins σ H s->av v u->t v σ H Q ->
  wpAny (model X.prog X.w) X.A (assign target X.env u) (λ_ s'=>∃σ' H',Inv X pins σ' H' s'/\Q σ' H') X.xe s
noncomputable def PGs(X:Cx)(ts:List Expr)(t:TGs):Prop :=
 ∀(pins:List (Addr×Obj)) (s:Shared) (σ:St) (H:Hp) (vs:List V) (us:List Value) (Q:St->Hp->Prop),Inv X pins σ H s->aw vs us->t vs σ H Q ->
  wpAny (model X.prog X.w) X.A (assignInOrder ((assignEach ts X.env).map (·.2)) us) (λ_ s'=>∃σ' H',Inv X pins σ' H' s'/\Q σ' H') X.xe s
noncomputable abbrev zG:=V->V->V->Hp->(Hp->Prop)->Prop
noncomputable def Cb(X:Cx)(t:zG):Prop :=
 ∀(pins:List (Addr×Obj)) (s:Shared) (σ:St) (H:Hp) (o i v:V) (ov iv u:Value) (Q:Hp->Prop),Inv X pins σ H s->av o ov->av i iv->av v u->t o i v H Q ->
  wpAny (model X.prog X.w) X.A (setItem ov iv u) (λ_ s'=>∃H',Inv X pins σ H' s'/\Q H') X.xe s
section
variable{X:Cx}{pos:Pos}
noncomputable def bT(i:Nat):TG:=λv σ H Q=>Q (σ.set i (some v)) H
theorem dn{i:Nat}{x:Str}(hN:X.N.Nodup)(hi:X.N[i]?=some x)(hx:Loc X.env.scope x)(hf:X.fn x=true\/X.env.scope.names.lookup x=some .local:=by first|exact .inl rfl|exact .inr rfl|assumption):PG X (.Name x pos) (bT i):=by
 intro pins s σ H v u Q I r h
 exact wpAny_assign_Name (nT I hN hi hx r (λs' I'=>⟨_,H,I',h⟩) hf)
noncomputable def t6:TGs:=λvs σ H Q=>vs=[]/\Q σ H
noncomputable def nV(t:TG)(u:TGs):TGs:=λvs σ H Q=>∃v r,vs=v::r/\t v σ H λσ' H'=>u r σ' H' Q
theorem qz:PGs X [] t6:=by
 intro pins s σ H vs us Q I r h
 obtain⟨e,h⟩:=h
 subst e
 cases r
 exact assignInOrder_nil ⟨σ,H,I,h⟩
theorem ke{e:Expr}{es:List Expr}{t:TG}{u:TGs}(h1:PG X e t)(h2:PGs X es u)
  (hs:(assignEach (e::es) X.env).map (·.2)=assign e X.env::(assignEach es X.env).map (·.2):=by rfl):PGs X (e::es) (nV t u):=by
 intro pins s σ H vs us Q I r h
 obtain⟨v,vr,e1,h⟩:=h
 subst e1
 cases r with
 |cons r rr =>
  rw [hs]
  refine assignInOrder_cons (thn (h1 pins s σ H _ _ _ I r h) λ_ s1 ⟨σ1,H1,I1,q1⟩=>?_)
  exact h2 pins s1 σ1 H1 _ _ Q I1 rr q1
noncomputable def zH(K:PySem.W.Frag)(n:Nat)(t:TGs):TG:=λv σ H Q=>∃a xs,v=.ref a/\SqT K H a xs/\xs.length=n/\t xs σ H Q
theorem t7{es:List Expr}{k:Nat}{t:TGs}{n:Nat}(hc:X.calm=true)(h:PGs X es t)
  (hn:(assignEach es X.env).length=n:=by rfl) (hst:(assignEach es X.env).findIdx? (·.1)=none:=by rfl):PG X (.Tuple es k pos) (zH X.K n t):=by
 intro pins s σ H v u Q I r hw
 obtain⟨a,xs,e1,hq,hl,hw⟩:=hw
 subst e1
 cases r
 obtain⟨its,rv,ht,hz⟩:=I.tuple hq
 refine assign_Tuple_tuple (I.ok.hd hc) ht (by simp [hn,<- hl,rv.length]) hst λh' hx=>?_
 have I1:Inv X pins σ H { s with heap:=h' }:=I.kept (t':=s.toks) λb o e=>hx b o (Nat.ne_of_lt (Heap.lt_size e)) e
 exact h pins _ σ H xs _ Q I1 (by simpa using rv) hw
noncomputable def zI(to ti:TE)(t:zG):TG:=λv σ H Q=>to σ H λo H1=>ti σ H1 λi H2=>t o i v H2 λH3=>Q σ H3
theorem zJ{o i:Expr}{to ti:TE}{t:zG}(ho:PE X o to)(hi:PE X i ti)(hs:Cb X t)
  (ha:∀v,assign (.Subscript o i pos) X.env v=(do
   let ov <- holding [v] (eval o X.env)
   let iv <- holding [v,ov] (eval i X.env)
   standAt pos
   holding [v,ov,iv] (setItem ov iv v)
   release [v,ov,iv] []):=by intro _;rfl):PG X (.Subscript o i pos) (zI to ti t):=by
 intro pins s σ H v u Q I r h
 rw [ha]
 refine wpAny_bind (wpAny_holding (thn (ho pins s σ H _ I h) λov s1 ⟨x,H1,I1,r1,q1⟩=>?_))
 refine wpAny_bind (wpAny_holding (thn (hi pins s1 σ H1 _ I1 q1) λiv s2 ⟨y,H2,I2,r2,q2⟩=>?_))
 refine wpAny_bind (wpAny_standAt (wpAny_bind (wpAny_holding (thn (hs pins s2 σ H2 x y v ov iv u _ I2 r1 r2 r q2) λ_ s3 ⟨H3,I3,q3⟩=>?_))))
 exact wpAny_release ⟨σ,H3,I3,q3⟩
noncomputable def nW(te:TE)(g:TG):TS:=λD σ H=>te σ H λx H1=>g x σ H1 D.nx
theorem zK{tg e:Expr}{te:TE}{g:TG}(he:PE X e te)(hg:PG X tg g)(hs:swapsWithSole [tg] e pos.line X.env=pure false:=by rfl)(hw:swappedStores [tg] e X.env=pure none:=by rfl)
  (h1:(assignEach [tg] X.env).map (·.2)=[assign tg X.env]:=by rfl):PS X (.Assign [tg] e pos) (nW te g):=by
 intro pins s σ H D I h
 refine wpAny_Assign_stores (thn (he pins s σ H _ I h) λv s1 ⟨x,H1,I1,r1,q1⟩=>?_) hs hw
 rw [h1]
 exact thn (hg pins s1 σ H1 x v _ I1 r1 q1) λ_ s2 q=>q
theorem gK{i:Nat}{x:Str}{e:Expr}{te:TE}{pos':Pos}(hN:X.N.Nodup)(hi:X.N[i]?=some x)(hx:Loc X.env.scope x)(he:PE X e te)(hs:swapsWith e (some (.Name x pos')) pos.line X.env=pure false:=by rfl)(hf:X.fn x=true\/X.env.scope.names.lookup x=some .local:=by first|exact .inl rfl|exact .inr rfl|assumption) :
  PS X (.Assign [.Name x pos'] e pos) (nW te (bT i)):=by
 intro pins s σ H D I h
 refine wpAny_Assign_Name (thn (he pins s σ H _ I h) λv s1 ⟨y,H1,I1,r1,q1⟩=>?_) hs
 exact nT I1 hN hi hx r1 (λs2 I2=>⟨_,H1,I2,q1⟩) hf
end
section
variable{X:Cx}{pos:Pos}
end
structure It where
 go:Nat->Hp->Prop
 yld:Nat->Hp->V->Hp->Prop
 stop:Nat->Hp->Prop
noncomputable def hX(X:Cx)(pins:List (Addr×Obj))(H:Hp)(b:Addr):Prop :=
 H b=none/\b≠X.env.locals/\b∉X.fs/\(b∈X.ex\/X.s₀.heap.objs.size<=b)/\(∀x c,X.env.cells.lookup x=some c->c≠b)/\∀p∈X.pn++pins,p.1≠b
theorem Inv.fpOk{X:Cx}{pins:List (Addr×Obj)}{σ:St}{H H':Hp}{s:Shared}{b:Addr}(I:Inv X pins σ H s)(hb:s.heap.objs.size<=b)(hn:H' b=none):hX X pins H' b:=by
 refine⟨hn,Nat.ne_of_gt (Nat.lt_of_lt_of_le I.lt hb),I.nofs hb,.inr (Nat.le_trans I.sz hb),λx c e z=>?_,λp hp z=>?_⟩
 ·obtain⟨v,q⟩:=I.cell x c e
  exact absurd (Nat.lt_of_lt_of_le q.lt (by rw [z];exact hb)) (Nat.lt_irrefl _)
 ·exact absurd (Nat.lt_of_lt_of_le (Heap.lt_size (I.pin p hp).1) (by rw [z];exact hb)) (Nat.lt_irrefl _)
structure nX(P:Program)(w:World)(K:PySem.W.Frag)(tg:Expr)(J:It)(fp:List Addr)(it:Addr)(tn:Nat->Heap->Prop):Prop where
 mem:it∈fp
 obj:∀i h,tn i h->∀b∈fp,∃o,h.get? b=some o/\∀v,o.data≠.cell v
 keep:∀i h h',tn i h->(∀b∈fp,∀o,h.get? b=some o->h'.get? b=some o)->tn i h'
 item:∀(X:Cx),X.prog=P->X.w=w->X.K=K->X.calm=true->∀(i:Nat) (pins:List (Addr×Obj)) (s:Shared) (σ:St) (H:Hp) (E:Value->Shared->Prop),Inv X pins σ H s->(∀b∈fp,hX X pins H b)->tn i s.heap->J.go i H ->
  wpAny (model P w) X.A (pyNext (.ref it)) (λr s1=>∃u,r=some u /\
   wpAny (model P w) X.A (letOwnedTupleGo tg (.ref it) u) (λ_ s2=>∃x H',Inv X pins σ H' s2/\av x u/\J.yld i H x H'/\tn (i+1) s2.heap/\∀b∈fp,H' b=none) E s1) E s
 done:∀(X:Cx),X.prog=P->X.w=w->X.K=K->X.calm=true->∀(i:Nat) (pins:List (Addr×Obj)) (s:Shared) (σ:St) (H:Hp) (E:Value->Shared->Prop),Inv X pins σ H s->(∀b∈fp,hX X pins H b)->tn i s.heap->J.stop i H ->
  wpAny (model P w) X.A (pyNext (.ref it)) (λr s1=>r=none/\Inv X pins σ H s1) E s
 self:∀(A:Around) (i:Nat) (s:Shared) (Q:Value->Shared->Prop) (E:Value->Shared->Prop),tn i s.heap->Q (.ref it) s->wpAny (model P w) A (pyIter (.ref it)) Q E s
noncomputable abbrev TI:=St->Hp->(It->Hp->Prop)->Prop
noncomputable def PIE(X:Cx)(pins:List (Addr×Obj))(σ:St)(tg:Expr)(R:It->Hp->Prop)(itv:Value)(s2:Shared):Prop :=
 ∃(it:Addr) (fp:List Addr) (tn:Nat->Heap->Prop) (J:It) (H':Hp),itv=.ref it/\Inv X pins σ H' s2/\nX X.prog X.w X.K tg J fp it tn/\tn 0 s2.heap/\(∀b∈fp,hX X pins H' b)/\R J H'
noncomputable def PI(X:Cx)(tg iter:Expr)(wi:TI):Prop :=
 ∀(pins:List (Addr×Obj)) (s:Shared) (σ:St) (H:Hp) (R:It->Hp->Prop),Inv X pins σ H s->wi σ H R ->
  wpAny (model X.prog X.w) X.A (eval iter X.env) (λv s1=>wpAny (model X.prog X.w) X.A (pyIter v) (PIE X pins σ tg R) X.xe s1) X.xe s
theorem t8{M:Model}{A:Around}{E:Value->Shared->Prop}{s:Shared}{tg:Expr}{it:Addr}{u:Value}{o:Obj}{n:String}{vs:Array Value}{Q:Unit->Shared->Prop}(ho:s.heap.get? it=some o)(hc:o.cls=.type n)(hd:o.data=.fields vs)
    (hn:["enumerate","zip","dict_itemiterator","dict_reverseitemiterator","odict_iterator","itertools.zip_longest","itertools.pairwise"].contains n=false) (hQ:Q () s):wpAny M A (letOwnedTupleGo tg (.ref it) u) Q E s:=by
  unfold letOwnedTupleGo
  cases tg<;>first
    | exact wpAny_pure hQ
    | (cases u<;>first
        | exact wpAny_pure hQ
        | (refine wpAny_bind (wpAny_load ho ?_)
           rw [hc,hd]
           show wpAny M A (if (["enumerate","zip","dict_itemiterator","dict_reverseitemiterator","odict_iterator","itertools.zip_longest","itertools.pairwise"].contains n&&vs[0]? == some (rawInt _))=true then _ else _) Q E s
           rw [if_neg (by intro h;rw [hn,Bool.false_and]at h;cases h)]
           exact wpAny_pure hQ))
noncomputable def Itl(K:PySem.W.Frag)(a:Addr):It :=
 ⟨λi H=>∃xs x,SqL K H a xs/\xs[i]?=some x,λi H x H'=>H'=H/\∀xs,SqL K H a xs->xs[i]?=some x,λi H=>∃xs,SqL K H a xs/\xs.length<=i⟩
noncomputable def Itt(K:PySem.W.Frag)(a:Addr):It :=
 ⟨λi H=>∃xs x,SqT K H a xs/\xs[i]?=some x,λi H x H'=>H'=H/\∀xs,SqT K H a xs->xs[i]?=some x,λi H=>∃xs,SqT K H a xs/\xs.length<=i⟩
noncomputable def Itr(lo:Int)(n:Nat):It:=⟨λi _=>i<n,λi H x H'=>H'=H/\x=.int (lo+i),λi _=>n<=i⟩
theorem r9{P:Program}{w:World}{K:PySem.W.Frag}{tg:Expr}(a it:Addr):nX P w K tg (Itl K a) [it] it (λi h=>h.IsListIter it a i) where
 mem:=by simp
 obj:=λi h st b hb=>by
  have e:b=it:=by simpa using hb
  subst e
  obtain⟨o,e,c,d⟩:=st
  exact⟨o,e,λv z=>by rw [d]at z;cases z⟩
 keep:=λi h h' st k=>st.at λo e=>k it (by simp) o e
 item:=by
  intro X hP hw hK hc i pins s σ H E I hf st hg
  subst hP hw hK
  obtain⟨xs,x,hq,hx⟩:=hg
  obtain⟨its,rv,p,hz⟩:=I.list hq
  obtain⟨u,hu,ru⟩:=rv.get hx
  obtain⟨f0,f1,f2,f3,f4,f5⟩:=hf it (by simp)
  refine wpAny_pyNext_list_item st p.isList (x:=u) (by simpa using hu) λh' st' sb=>?_
  have I1:Inv X pins σ H { s with heap:=h' }:=I.turned (t':=s.toks) (λb o hb e=>(sb.2 b hb).trans e) f0 f1 f3 f4 f5
  obtain⟨o,e,c,d⟩:=id st'
  exact⟨u,rfl,t8 (s:={ s with heap:=h' }) e c d (by decide) ⟨x,H,I1,ru,⟨rfl,λys hy=>by rw [I.list_inj hy hq];exact hx⟩,st',λb hb=>(hf b hb).1⟩⟩
 done:=by
  intro X hP hw hK hc i pins s σ H E I hf st hg
  subst hP hw hK
  obtain⟨xs,hq,hx⟩:=hg
  obtain⟨its,rv,p,hz⟩:=I.list hq
  obtain⟨f0,f1,f2,f3,f4,f5⟩:=hf it (by simp)
  have hl:=rv.length
  exact wpAny_pyNext_list_end (I.ok.hd hc) st p.isList (by simp;omega) λh' eb=>⟨rfl,I.turned (t':=s.toks) (λb o hb e=>eb b o hb e) f0 f1 f3 f4 f5⟩
 self:=λ_ _ _ _ _ st h=>wpAny_pyIter_listiter st h
theorem pz{P:Program}{w:World}{K:PySem.W.Frag}{tg:Expr}(a it:Addr):nX P w K tg (Itt K a) [it] it (λi h=>h.IsTupleIter it a i) where
 mem:=by simp
 obj:=λi h st b hb=>by
  have e:b=it:=by simpa using hb
  subst e
  obtain⟨o,e,c,d⟩:=st
  exact⟨o,e,λv z=>by rw [d]at z;cases z⟩
 keep:=λi h h' st k=>st.at λo e=>k it (by simp) o e
 item:=by
  intro X hP hw hK hc i pins s σ H E I hf st hg
  subst hP hw hK
  obtain⟨xs,x,hq,hx⟩:=hg
  obtain⟨its,rv,p,hz⟩:=I.tuple hq
  obtain⟨u,hu,ru⟩:=rv.get hx
  obtain⟨f0,f1,f2,f3,f4,f5⟩:=hf it (by simp)
  refine wpAny_pyNext_tuple_item st (show s.heap.IsTuple a its.toArray from p) (x:=u) (by simpa using hu) λh' st' sb=>?_
  have I1:Inv X pins σ H { s with heap:=h' }:=I.turned (t':=s.toks) (λb o hb e=>(sb.2 b hb).trans e) f0 f1 f3 f4 f5
  obtain⟨o,e,c,d⟩:=id st'
  exact⟨u,rfl,t8 (s:={ s with heap:=h' }) e c d (by decide) ⟨x,H,I1,ru,⟨rfl,λys hy=>by rw [I.tuple_inj hy hq];exact hx⟩,st',λb hb=>(hf b hb).1⟩⟩
 done:=by
  intro X hP hw hK hc i pins s σ H E I hf st hg
  subst hP hw hK
  obtain⟨xs,hq,hx⟩:=hg
  obtain⟨its,rv,p,hz⟩:=I.tuple hq
  obtain⟨f0,f1,f2,f3,f4,f5⟩:=hf it (by simp)
  have hl:=rv.length
  exact wpAny_pyNext_tuple_end (I.ok.hd hc) st (show s.heap.IsTuple a its.toArray from p) (by simp;omega) λh' eb=>⟨rfl,I.turned (t':=s.toks) (λb o hb e=>eb b o hb e) f0 f1 f3 f4 f5⟩
 self:=λ_ _ _ _ _ st h=>wpAny_pyIter_tupleiter st h
theorem pA{P:Program}{w:World}{K:PySem.W.Frag}{tg:Expr}(it:Addr)(lo:Int)(n:Nat):nX P w K tg (Itr lo n) [it] it (λi h=>IsRangeIter h it (lo+(i:Nat)*1) ((n:Int)-(i:Nat)) 1) where
 mem:=by simp
 obj:=λi h st b hb=>by
  have e:b=it:=by simpa using hb
  subst e
  exact⟨_,st,λv z=>by
   have z':Data.fields _=Data.cell v:=z
   cases z'⟩
 keep:=λi h h' st k=>k it (by simp) _ st
 item:=by
  intro X hP hw hK hc i pins s σ H E I hf st hg
  subst hP hw hK
  obtain⟨f0,f1,f2,f3,f4,f5⟩:=hf it (by simp)
  have W:=Walks.range (prog:=X.prog) (w:=X.w) (I.ok.hd hc) it lo 1 n
  refine W.item i s _ _ hg st λv h' tk hv st' kk=>?_
  obtain⟨t,rfl⟩:=hv
  have I1:Inv X pins σ H { s with heap:=h',toks:=tk }:=I.turned (λb o hb e=>kk b o (by simpa using hb) e) f0 f1 f3 f4 f5
  refine⟨_,rfl,t8 (s:={ s with heap:=h',toks:=tk }) (n:="range_iterator") st' rfl rfl (by decide) ⟨.int (lo+i),H,I1,⟨t,?_⟩,⟨rfl,rfl⟩,st',λb hb=>(hf b hb).1⟩⟩
  rw [Int.mul_one]
 done:=by
  intro X hP hw hK hc i pins s σ H E I hf st hg
  subst hP hw hK
  obtain⟨f0,f1,f2,f3,f4,f5⟩:=hf it (by simp)
  exact wpAny_pyNext_range_end (I.ok.hd hc) st (by have:n<=i:=hg;omega) λh' eb=>⟨rfl,I.turned (t':=s.toks) (λb o hb e=>eb b o hb e) f0 f1 f3 f4 f5⟩
 self:=λ_ _ _ _ _ st h=>wpAny_pyIter_rangeiter st h
end L2
namespace L2
open PySem PySem.Spec PyProof.Rows
section
variable{X:Cx}{tg:Expr}
noncomputable def jw(K:PySem.W.Frag)(tl:TE):TI:=λσ H R=>tl σ H λx H1=>∃a,x=.ref a/\(∃xs,SqL K H1 a xs)/\R (Itl K a) H1
noncomputable def Er(K:PySem.W.Frag)(tl:TE):TI:=λσ H R=>tl σ H λx H1=>∃a,x=.ref a/\(∃xs,SqT K H1 a xs)/\R (Itt K a) H1
theorem fw{l:Expr}{tl:TE}(hl:PE X l tl):PI X tg l (jw X.K tl):=by
 intro pins s σ H R I h
 refine thn (hl pins s σ H _ I h) λv s1 ⟨x,H1,I1,r1,q1⟩=>?_
 obtain⟨a,e,⟨xs,hq⟩,q⟩:=q1
 subst e
 cases r1
 obtain⟨its,rv,p,hz⟩:=I1.list hq
 refine wpAny_pyIter_list p.isList ?_
 refine⟨s1.heap.objs.size,[s1.heap.objs.size],_,_,H1,rfl,I1.kept (t':=s1.toks) λb o e=>Heap.get?_push_of_some _ e,r9 a _,⟨_,Heap.get?_push_size _ rfl,rfl,rfl⟩,λb hb=>?_,q⟩
 have e:b=s1.heap.objs.size:=by simpa using hb
 subst e
 exact I1.fpOk (Nat.le_refl _) (I1.hok.fresh (Nat.le_refl _))
theorem t9{l:Expr}{tl:TE}(hl:PE X l tl):PI X tg l (Er X.K tl):=by
 intro pins s σ H R I h
 refine thn (hl pins s σ H _ I h) λv s1 ⟨x,H1,I1,r1,q1⟩=>?_
 obtain⟨a,e,⟨xs,hq⟩,q⟩:=q1
 subst e
 cases r1
 obtain⟨its,rv,p,hz⟩:=I1.tuple hq
 refine wpAny_pyIter_tuple (show s1.heap.IsTuple a its.toArray from p) ?_
 refine⟨s1.heap.objs.size,[s1.heap.objs.size],_,_,H1,rfl,I1.kept (t':=s1.toks) λb o e=>Heap.get?_push_of_some _ e,pz a _,⟨_,Heap.get?_push_size _ rfl,rfl,rfl⟩,λb hb=>?_,q⟩
 have e:b=s1.heap.objs.size:=by simpa using hb
 subst e
 exact I1.fpOk (Nat.le_refl _) (I1.hok.fresh (Nat.le_refl _))
theorem nY{pins:List (Addr×Obj)}{σ:St}{H:Hp}{s:Shared}{R:It->Hp->Prop}{E:Value->Shared->Prop}{lo hi:Int}{t u v:Tok}{tk:Nat}(I:Inv X pins σ H s)(h1:-(2 ^ 62)<=lo)(h2:lo<2 ^ 62)(h3:-(2 ^ 62)<=hi)(h4:hi<2 ^ 62)
  (q:R (Itr lo (hi-lo).toNat) H):wpAny (model X.prog X.w) X.A (pyIter (.ref s.heap.objs.size)) (PIE X pins σ tg R) E { s with heap:=s.heap.push { cls:=.type "range",data:=.fields #[.int lo t,.int hi u,.int 1 v] },toks:=tk }:=by
 refine wpAny_pyIter_range (IsRange.new ..) (small_one h1 h2 h3 h4) ?_
 have I1:Inv X pins σ H { s with heap:=s.heap.push { cls:=.type "range",data:=.fields #[.int lo t,.int hi u,.int 1 v] },toks:=tk }:=I.kept λb o e=>Heap.get?_push_of_some _ e
 refine⟨(s.heap.push { cls:=.type "range",data:=.fields #[.int lo t,.int hi u,.int 1 v] }).objs.size,[(s.heap.push { cls:=.type "range",data:=.fields #[.int lo t,.int hi u,.int 1 v] }).objs.size],_,_,H,rfl,
  I1.kept (t':=tk) λb o e=>Heap.get?_push_of_some _ e,pA _ lo (hi-lo).toNat,?_,λb hb=>?_,q⟩
 ·have e1:lo+((0:Nat):Int)*1=lo:=by simp
  have e2:(((hi-lo).toNat:Nat):Int)-((0:Nat):Int)=Builtin.Range.rangeSize lo hi 1:=by rw [rangeSize_one];split<;>omega
  show IsRangeIter _ _ (lo+((0:Nat):Int)*1) ((((hi-lo).toNat:Nat):Int)-((0:Nat):Int)) 1
  rw [e1,e2]
  exact Heap.get?_push_size _ rfl
 ·have e:b=(s.heap.push { cls:=.type "range",data:=.fields #[.int lo t,.int hi u,.int 1 v] }).objs.size:=by simpa using hb
  subst e
  exact I1.fpOk (Nat.le_refl _) (I1.hok.fresh (Nat.le_refl _))
noncomputable def qA(ta:TA):TI:=λσ H R=>ta σ H λvs H1=>∃j:Int,vs=[.int j]/\-(2 ^ 62)<=j/\j<2 ^ 62/\R (Itr 0 j.toNat) H1
noncomputable def Cc(ta:TA):TI:=λσ H R=>ta σ H λvs H1=>∃i j:Int,vs=[.int i,.int j]/\(-(2 ^ 62)<=i/\i<2 ^ 62/\-(2 ^ 62)<=j/\j<2 ^ 62)/\R (Itr i (j-i).toNat) H1
theorem l4 {a:Expr}{ta:TA}{p pos:Pos} (hg:Gl X "range") (hm:X.mg "range"=none) (ha:PA X [a] ta) (hs:starEach [a] X.env=[(false,eval a X.env)]:=by rfl):PI X tg (.Call (.Name "range" p) [a] [] pos) (qA ta):=by
 intro pins s σ H R I h
 refine Call_ (iW I hg hm boot_range (PyProof.Rows.callWith_type1 (thn (ha pos pins s σ H _ I h) λus s1 ⟨vs,H1,I1,r1,q1⟩=>?_) hs rfl))
 obtain⟨j,e,q1,q2,q⟩:=q1
 subst e
 cases r1 with
 |cons r rr =>
  cases rr
  obtain⟨t,rfl⟩:=r
  exact call_range_1 (nY I1 (by omega) (by omega) q1 q2 (by simpa using q))
theorem r_ {a b:Expr}{ta:TA}{p pos:Pos} (hg:Gl X "range") (hm:X.mg "range"=none) (ha:PA X [a,b] ta) (hs:starEach [a,b] X.env=[(false,eval a X.env),(false,eval b X.env)]:=by rfl) (hs2:starEach [b] X.env=[(false,eval b X.env)]:=by rfl) :
  PI X tg (.Call (.Name "range" p) [a,b] [] pos) (Cc ta):=by
 intro pins s σ H R I h
 refine Call_ (iW I hg hm boot_range (PyProof.Rows.callWith_type1 (thn (ha pos pins s σ H _ I h) λus s1 ⟨vs,H1,I1,r1,q1⟩=>?_) (by rw [hs,hs2]) (by rw [hs2];rfl)))
 obtain⟨i,j,e,⟨q1,q2,q3,q4⟩,q⟩:=q1
 subst e
 cases r1 with
 |cons r rr =>
  cases rr with
  |cons r' rr =>
   cases rr
   obtain⟨t,rfl⟩:=r
   obtain⟨t',rfl⟩:=r'
   exact call_range_2 (nY I1 q1 q2 q3 q4 q)
noncomputable def kf(wi:TI)(g:TG)(tb:TS):TS:=λD σ H=>wi σ H λJ H1=>∃W:Nat->Nat->St->Hp->Prop,(∃m,W 0 m σ H1)/\∀i m σ H,W i m σ H ->
 (J.stop i H/\D.nx σ H)\/(J.go i H/\∃N:St->Hp->Prop,(∀σ' H',N σ' H'->∃m',m'<m/\W (i+1) m' σ' H')/\∀x H',J.yld i H x H'->g x σ H' λσ2 H2=>tb { D with nx:=N,ct:=N,bk:=D.nx } σ2 H2)
noncomputable def kg(fp:List Addr)(h:Heap):List (Addr×Obj):=fp.filterMap λb=>(h.get? b).map λo=>(b,o)
theorem fz{fp:List Addr}{h:Heap}{b:Addr}{o:Obj}(hb:b∈fp)(e:h.get? b=some o):(b,o)∈kg fp h:=List.mem_filterMap.mpr ⟨b,hb,by rw [e];rfl⟩
theorem se{fp:List Addr}{h:Heap}{p:Addr×Obj}(hp:p∈kg fp h):p.1∈fp/\h.get? p.1=some p.2:=by
 obtain⟨b,hb,e⟩:=List.mem_filterMap.mp hp
 cases q:h.get? b with
 |none=>rw [q]at e;cases e
 |some o =>
  rw [q]at e
  have e':(b,o)=p:=Option.some.inj e
  subst e'
  exact⟨hb,q⟩
theorem Inv.pinned{pins:List (Addr×Obj)}{σ:St}{H:Hp}{s:Shared}{fp:List Addr}(I:Inv X pins σ H s)(hf:∀b∈fp,hX X pins H b)(ho:∀b∈fp,∃o,s.heap.get? b=some o/\∀v,o.data≠.cell v):Inv X (pins++kg fp s.heap) σ H s :=
 I.pins_of λp hp=>(List.mem_append.mp hp).elim (λz=>I.pin p (List.mem_append_right _ z)) λz=>by
  obtain⟨hb,e⟩:=se z
  obtain⟨f0,f1,f2,_⟩:=hf p.1 hb
  obtain⟨o,e',d⟩:=ho p.1 hb
  rw [e]at e';cases e'
  exact⟨e,f0,f1,f2,d⟩
theorem Inv.unpinned{pins pl:List (Addr×Obj)}{σ:St}{H:Hp}{s:Shared}(I:Inv X (pins++pl) σ H s):Inv X pins σ H s:=I.pins_of λp hp=>I.pin p (List.mem_append_right _ (List.mem_append_left _ hp))
theorem iY{iter:Expr}{body:List Stmt}{wi:TI}{g:TG}{tb:TS}{pos:Pos}(hp:PassesOwn (model X.prog X.w) X.A X.env X.xe)(hc:X.calm=true)(hi:PI X tg iter wi)(hg:PG X tg g)(hb:PSs X body tb)
  (hs:∀x,foldedSetIterable iter X.env x=pure x:=by intro _;rfl):PS X (.For tg iter body [] pos) (kf wi g tb):=by
 intro pins s σ H D I h
 refine wpAny_For (thn (hi pins s σ H _ I h) λv s1 h1=>thn h1 λitv s2 h2=>?_) hs
 obtain⟨it,fp,tn,J,H2,e,I2,T,st2,f2,W,⟨m0,w0⟩,turn⟩:=h2
 subst e
 have stat:∀{H':Hp},(∀b∈fp,H' b=none)->∀b∈fp,hX X pins H' b:=λhn b hb=>⟨hn b hb,(f2 b hb).2⟩
 refine codeAny_forLoop_any (λn s'=>∃i σ' H',Inv X pins σ' H' s'/\tn i s'.heap/\(∀b∈fp,H' b=none)/\W i n σ' H') ?_ m0 ⟨0,σ,H2,I2,st2,λb hb=>(f2 b hb).1,w0⟩
 rintro n s3 ⟨i,σ3,H3,I3,st3,fr3,w3⟩
 rcases turn i n σ3 H3 w3 with ⟨stop,qn⟩|⟨go,N,hN,step⟩
 ·refine wpAny_passesOwn hp (thn (T.done X rfl rfl rfl hc i pins s3 σ3 H3 X.xe I3 (stat fr3) st3 stop) λr s4 ⟨hr,I4⟩=>?_)
  subst hr
  exact wpAny_execs_nil ⟨σ3,H3,I4,qn⟩
 ·refine wpAny_passesOwn hp (thn (T.item X rfl rfl rfl hc i pins s3 σ3 H3 X.xe I3 (stat fr3) st3 go) λr s4 ⟨u,hr,h4⟩=>?_)
  subst hr
  refine wpAny_passesOwn hp (thn h4 λ_ s5 ⟨x,H5,I5,r5,y5,st5,fr5⟩=>?_)
  have I5':=I5.pinned (stat fr5) (T.obj _ _ st5)
  refine wpAny_passesOwn hp (thn (hg _ s5 σ3 H5 x u _ I5' r5 (step x H5 y5)) λ_ s6 ⟨σ6,H6,I6,q6⟩=>?_)
  refine wpAny_passesOwn hp (thn (hb _ s6 σ6 H6 _ I6 q6) λf s7 q7=>?_)
  have again:∀{σ7:St}{H7:Hp},Inv X (pins++kg fp s5.heap) σ7 H7 s7->N σ7 H7->∃m,m<n/\∃i σ' H',Inv X pins σ' H' s7/\tn i s7.heap/\(∀b∈fp,H' b=none)/\W i m σ' H':=λ{σ7 H7} I7 n7=>by
   obtain⟨m',hm,w7⟩:=hN σ7 H7 n7
   refine⟨m',hm,i+1,σ7,H7,I7.unpinned,T.keep _ _ _ st5 λb hb o e=>(I7.pin (b,o) (List.mem_append_right _ (List.mem_append_right _ (fz hb e)))).1,λb hb=>?_,w7⟩
   obtain⟨o,e,d⟩:=T.obj _ _ st5 b hb
   exact(I7.pin (b,o) (List.mem_append_right _ (List.mem_append_right _ (fz hb e)))).2.1
  cases f with
  |next=>obtain⟨σ7,H7,I7,n7⟩:=q7;exact again I7 n7
  |cont=>obtain⟨σ7,H7,I7,n7⟩:=q7;exact again I7 n7
  |brk=>obtain⟨σ7,H7,I7,q7⟩:=q7;exact⟨σ7,H7,I7.unpinned,q7⟩
  |ret v=>obtain⟨x7,σ7,H7,I7,r7,q7⟩:=q7;exact⟨x7,σ7,H7,I7.unpinned,r7,q7⟩
end
end L2
namespace L2
open PySem PySem.Spec PyProof.Rows
noncomputable abbrev R2:=V->V->Hp->VK->Prop
noncomputable def OpR(X:Cx)(f:Value->Value->Sem Value)(r:R2):Prop :=
 ∀(pins:List (Addr×Obj)) (s:Shared) (σ:St) (H:Hp) (x y:V) (v u:Value) (Q:VK),Inv X pins σ H s->av x v->av y u->r x y H Q ->
  wpAny (model X.prog X.w) X.A (f v u) (EP X pins σ Q) X.xe s
noncomputable def b7(X:Cx)(f:Value)(r:List V->Hp->VK->Prop):Prop :=
 ∀(pins:List (Addr×Obj)) (s:Shared) (σ:St) (H:Hp) (xs:List V) (us:List Value) (Q:VK),Inv X pins σ H s->aw xs us->r xs H Q ->
  wpAny (model X.prog X.w) X.A (call f us) (EP X pins σ Q) X.xe s
noncomputable def tOp(r:R2)(ta tb:TE):TE:=λσ H Q=>ta σ H λx H1=>tb σ H1 λy H2=>r x y H2 Q
noncomputable def rI(C:Int->Int->Prop)(g:Int->Int->V):R2:=λx y H Q=>∃i j,x=.int i/\y=.int j/\C i j/\Q (g i j) H
noncomputable def rI0(g:Int->Int->V):R2:=λx y H Q=>∃i j,x=.int i/\y=.int j/\Q (g i j) H
section
variable{X:Cx}{a b c:Expr}{ta tb tc:TE}{pos:Pos}
theorem zL(ha:PE X a ta)(hb:PE X b tb){pins:List (Addr×Obj)}{s:Shared}{σ:St}{H:Hp}{R:V->V->Hp->Prop}(I:Inv X pins σ H s)
  (h:ta σ H λx H1=>tb σ H1 λy H2=>R x y H2) {Q:Value->Shared->Prop}{f:Value->Value->Sem Value}
  (hf:∀v u s2 x y H2,Inv X pins σ H2 s2->av x v->av y u->R x y H2->wpAny (model X.prog X.w) X.A (f v u) Q X.xe s2) :
  wpAny (model X.prog X.w) X.A (eval a X.env) (λv s₁=>wpAny (model X.prog X.w) X.A (eval b X.env) (λu s₂=>wpAny (model X.prog X.w) X.A (f v u) Q X.xe s₂) X.xe s₁) X.xe s:=by
 refine thn (ha pins s σ H _ I h) λv s1 ⟨x,H1,I1,r1,q1⟩=>?_
 refine thn (hb pins s1 σ H1 _ I1 q1) λu s2 ⟨y,H2,I2,r2,q2⟩=>?_
 exact hf v u s2 x y H2 I2 r1 r2 q2
theorem Cd{op:Operator}{r:R2}(ho:OpR X (binaryOp op) r)(ha:PE X a ta)(hb:PE X b tb):PE X (.BinOp a op b pos) (tOp r ta tb):=by
 intro pins s σ H Q I h
 exact wpAny_BinOp (zL ha hb I h λv u s2 x y H2 I2 rx ry q=>ho pins s2 σ H2 x y v u Q I2 rx ry q)
theorem opI{f:Value->Value->Sem Value}{C:Int->Int->Prop}{g:Int->Int->Int}
  (rule:∀(i j:Int) (t u:Tok) (s:Shared) (Q:Value->Shared->Prop) (E:Value->Shared->Prop),C i j->Q (.int (g i j) s.toks) { s with toks:=s.toks+1 }->wpAny (model X.prog X.w) X.A (f (.int i t) (.int j u)) Q E s) :
  OpR X f (rI C λi j=>.int (g i j)):=by
 intro pins s σ H x y v u Q I rx ry h
 obtain⟨i,j,rfl,rfl,hc,q⟩:=h
 obtain⟨t,rfl⟩:=rx
 obtain⟨t',rfl⟩:=ry
 exact rule i j t t' s _ _ hc ⟨.int (g i j),H,I.tok _,⟨_,rfl⟩,q⟩
theorem Ce{f:Value->Value->Sem Value}{g:Int->Int->Int}
  (rule:∀(i j:Int) (t u:Tok) (s:Shared) (Q:Value->Shared->Prop) (E:Value->Shared->Prop),Q (.int (g i j) s.toks) { s with toks:=s.toks+1 }->wpAny (model X.prog X.w) X.A (f (.int i t) (.int j u)) Q E s) :
  OpR X f (rI0 λi j=>.int (g i j)):=by
 intro pins s σ H x y v u Q I rx ry h
 obtain⟨i,j,rfl,rfl,q⟩:=h
 obtain⟨t,rfl⟩:=rx
 obtain⟨t',rfl⟩:=ry
 exact rule i j t t' s _ _ ⟨.int (g i j),H,I.tok _,⟨_,rfl⟩,q⟩
theorem xm{f:Value->Value->Sem Value}{g:Int->Int->Bool}
  (rule:∀(i j:Int) (t u:Tok) (s:Shared) (Q:Value->Shared->Prop) (E:Value->Shared->Prop),Q (.bool (g i j)) s->wpAny (model X.prog X.w) X.A (f (.int i t) (.int j u)) Q E s) :
  OpR X f (rI0 λi j=>.bl (g i j)):=by
 intro pins s σ H x y v u Q I rx ry h
 obtain⟨i,j,rfl,rfl,q⟩:=h
 obtain⟨t,rfl⟩:=rx
 obtain⟨t',rfl⟩:=ry
 exact rule i j t t' s _ _ ⟨.bl (g i j),H,I,rfl,q⟩
noncomputable def Es(i j:Int):Prop:=0<j/\j<1073741824
noncomputable def Et(i j:Int):Prop:=0<=j/\j<=1000000/\i.natAbs<2 ^ 64
noncomputable def zM(i j:Int):Prop:=(-(2 ^ 64)<i/\i<2 ^ 64)\/(-(2 ^ 64)<j/\j<2 ^ 64)
theorem zM.ok{i j:Int}(h:zM i j):IntMulOk i j:=by
 rcases h with ⟨h1,h2⟩|⟨h1,h2⟩
 ·exact .of_left (intBits_le_64 h1 h2)
 ·exact .of_right (intBits_le_64 h1 h2)
theorem pB(k:Nat):(0:Int)<=2 ^ k:=by
 rw [two_pow_cast]
 exact Int.natCast_nonneg _
theorem zN:OpR X (binaryOp .Add) (rI0 λi j=>.int (i+j)):=Ce λ_ _ _ _ _ _ _ q=>add_int q
theorem zO:OpR X (binaryOp .Sub) (rI0 λi j=>.int (i-j)):=Ce λ_ _ _ _ _ _ _ q=>sub_int q
theorem zP:OpR X (binaryOp .Mult) (rI zM λi j=>.int (i*j)):=opI λ_ _ _ _ _ _ _ hc q=>mul_int q hc.ok
theorem xn:OpR X (binaryOp .FloorDiv) (rI Es λi j=>.int (i / j)):=opI λi j _ _ _ _ _ hc q=>by
 have h1:(0:Int)<j:=hc.1
 have h2:j<1073741824:=hc.2
 exact floordiv_int (by omega) (by rw [Int.fdiv_eq_ediv_of_nonneg i (by omega)];exact q) (.inl (PyProof.noPylong_small (by omega)))
theorem zQ:OpR X (binaryOp .Mod) (rI (λ_ j=>0<j) λi j=>.int (i % j)):=opI λi j _ _ _ _ _ hc q=>by
 have h1:(0:Int)<j:=hc
 exact mod_int' (by omega) (by rw [Int.fmod_eq_emod_of_nonneg i (by omega)];exact q)
theorem zR:OpR X (binaryOp .Pow) (rI Et λi j=>.int (i ^ j.toNat)):=opI λ_ _ _ _ _ _ _ hc q=>pow_int_small hc.1 hc.2.1 hc.2.2 q
theorem zS:OpR X (binaryOp .RShift) (rI (λ_ j=>0<=j) λi j=>.int (i / 2 ^ j.toNat)):=opI λi j _ _ _ _ _ hc q =>
 rshift_int hc (by rw [Int.fdiv_eq_ediv_of_nonneg i (pB _)];exact q)
end
noncomputable def scal:V->V->Bool
 | .non,.non=>true|.non,.int _=>true|.int _,.non=>true|.non,.bl _=>true|.bl _,.non=>true|.non,.str _=>true|.str _,.non=>true
 | .int _,.int _=>true|.bl _,.bl _=>true|.str _,.str _=>true|.byt _,.byt _=>true
 | .int _,.str _=>true|.str _,.int _=>true|.bl _,.str _=>true|.str _,.bl _=>true
 | _,_=>false
noncomputable def rNe:R2:=λx y H Q=>scal x y=true/\Q (.bl (!decide (x=y))) H
theorem qB{i j:Int}:decide (V.int i=V.int j)=(i == j):=by
 rw [Bool.eq_iff_iff]
 simp
theorem t_{i j:Bool}:decide (V.bl i=V.bl j)=(i == j):=by
 rw [Bool.eq_iff_iff]
 simp
theorem qC{i j:Str}:decide (V.str i=V.str j)=(i == j):=by
 rw [Bool.eq_iff_iff]
 simp
theorem xp{i j:Array UInt8}:decide (V.byt i=V.byt j)=(i.toList == j.toList):=by
 rw [Bool.eq_iff_iff]
 cases i
 cases j
 simp
section
variable{X:Cx}{a b c:Expr}{ta tb tc:TE}{pos:Pos}
theorem bJ{pins:List (Addr×Obj)}{σ:St}{H:Hp}{s:Shared}{Q:VK}{k k':Bool}(I:Inv X pins σ H s)(q:Q (.bl k) H)(e:k=k'):EP X pins σ Q (.bool k') s:=by
 subst e
 exact⟨.bl k,H,I,rfl,q⟩
theorem Cf:OpR X (compareOp .NotEq) rNe:=by
 intro pins s σ H x y v u Q I rx ry h
 obtain⟨hs,q⟩:=h
 cases x with
 |non =>
  cases rx
  cases y with
  |non=>cases ry;exact PySem.EqNone.ne_none_none (bJ I q (by simp))
  |bl j=>cases ry;exact PySem.EqNone.ne_none_bool (bJ I q (by simp))
  |int j=>obtain⟨t',rfl⟩:=ry;exact PySem.EqNone.ne_none_int (bJ I q (by simp))
  |str j=>obtain⟨t',rfl⟩:=ry;exact PySem.EqNone.ne_none_str (bJ I q (by simp))
  | _=>exact absurd (show false=true from hs) Bool.false_ne_true
 |bl i =>
  cases rx
  cases y with
  |non=>cases ry;exact PySem.EqNone.ne_bool_none (bJ I q (by simp))
  |bl j=>cases ry;exact ne_bool (bJ I q (congrArg not t_))
  |str j=>obtain⟨t',rfl⟩:=ry;exact PySem.EqMixed.ne_bool_str (bJ I q (by simp))
  | _=>exact absurd (show false=true from hs) Bool.false_ne_true
 |int i =>
  obtain⟨t,rfl⟩:=rx
  cases y with
  |non=>cases ry;exact PySem.EqNone.ne_int_none (bJ I q (by simp))
  |int j=>obtain⟨t',rfl⟩:=ry;exact ne_int (bJ I q (congrArg not qB))
  |str j=>obtain⟨t',rfl⟩:=ry;exact PySem.EqMixed.ne_int_str (bJ I q (by simp))
  | _=>exact absurd (show false=true from hs) Bool.false_ne_true
 |str i =>
  obtain⟨t,rfl⟩:=rx
  cases y with
  |non=>cases ry;exact PySem.EqNone.ne_str_none (bJ I q (by simp))
  |bl j=>cases ry;exact PySem.EqMixed.ne_str_bool (bJ I q (by simp))
  |int j=>obtain⟨t',rfl⟩:=ry;exact PySem.EqMixed.ne_str_int (bJ I q (by simp))
  |str j=>obtain⟨t',rfl⟩:=ry;exact ne_str (bJ I q (congrArg not qC))
  | _=>exact absurd (show false=true from hs) Bool.false_ne_true
 |byt i =>
  obtain⟨t,rfl⟩:=rx
  cases y with
  |byt j=>obtain⟨t',rfl⟩:=ry;exact PySem.W.ne_bytes (bJ I q (congrArg not xp))
  | _=>exact absurd (show false=true from hs) Bool.false_ne_true
 | _=>cases y<;>exact absurd (show false=true from hs) Bool.false_ne_true
theorem Cg:OpR X (compareOp .Lt) (rI0 λi j=>.bl (decide (i<j))):=xm λ_ _ _ _ _ _ _ q=>lt_int q
theorem Ch:OpR X (compareOp .LtE) (rI0 λi j=>.bl (decide (i<=j))):=xm λ_ _ _ _ _ _ _ q=>le_int q
theorem Ci:OpR X (compareOp .Gt) (rI0 λi j=>.bl (decide (j<i))):=xm λ_ _ _ _ _ _ _ q=>gt_int q
theorem Cj:OpR X (compareOp .GtE) (rI0 λi j=>.bl (decide (j<=i))):=xm λ_ _ _ _ _ _ _ q=>ge_int q
theorem zT:OpR X (compareOp .Is) (λx y H Q=>y=.non/\Q (.bl (decide (x=.non))) H):=by
 intro pins s σ H x y v u Q I rx ry h
 obtain⟨rfl,q⟩:=h
 cases ry
 refine is_none_gen (bJ I q ?_)
 cases x<;>first
  | (cases rx;rfl)
  | (obtain⟨t,rfl⟩:=rx;rfl)
theorem xq:OpR X (compareOp .IsNot) (λx y H Q=>y=.non/\Q (.bl (!decide (x=.non))) H):=by
 intro pins s σ H x y v u Q I rx ry h
 obtain⟨rfl,q⟩:=h
 cases ry
 refine isnot_none_gen (bJ I q ?_)
 cases x<;>first
  | (cases rx;rfl)
  | (obtain⟨t,rfl⟩:=rx;rfl)
theorem qD{op:CmpOp}{r:R2}(ho:OpR X (compareOp op) r)(ha:PE X a ta)(hb:PE X b tb)(hm:behindInMarks op b=false):PE X (.Compare a [op] [b] pos) (tOp r ta tb):=by
 intro pins s σ H Q I h
 exact wpAny_Compare1 (zL ha hb I h λv u s2 x y H2 I2 rx ry q=>ho pins s2 σ H2 x y v u Q I2 rx ry q) hm
noncomputable def y1(t:TE):TT:=λσ H Q=>t σ H λx H'=>∃k,x=.bl k/\Q k H'
theorem qE{op:CmpOp}{r:R2}(ho:OpR X (compareOp op) r)(ha:PE X a ta)(hb:PE X b tb)(hm:behindInMarks op b=false):PT X (.Compare a [op] [b] pos) (y1 (tOp r ta tb)):=by
 intro pins s σ H Q I h
 refine wpAny_isTrue_Compare1 (thn (ha pins s σ H _ I h) λv s1 ⟨x,H1,I1,r1,q1⟩=>thn (hb pins s1 σ H1 _ I1 q1) λu s2 ⟨y,H2,I2,r2,q2⟩ =>
  thn (ho pins s2 σ H2 x y v u _ I2 r1 r2 q2) λc s3 ⟨z,H3,I3,r3,k,e,q3⟩=>?_) hm
 subst e
 cases r3
 exact wpAny_truthy_bool ⟨H3,I3,q3⟩
noncomputable def ua(r r':R2)(ta tb tc:TE):TE:=λσ H Q=>ta σ H λx H1=>tb σ H1 λy H2=>r x y H2 λz H3=>∃k,z=.bl k /\
 (if k=true then tc σ H3 λw' H4=>r' y w' H4 Q else Q (.bl false) H3)
theorem ub{op op':CmpOp}{r r':R2}(ho:OpR X (compareOp op) r)(ho':OpR X (compareOp op') r')(ha:PE X a ta)(hb:PE X b tb)(hc:PE X c tc)
  (hm:lastMarks [op,op'] [b,c]=false:=by with_unfolding_all rfl):PE X (.Compare a [op,op'] [b,c] pos) (ua r r' ta tb tc):=by
 intro pins s σ H Q I h
 refine Compare_chain (thn (ha pins s σ H _ I h) λv s1 ⟨x,H1,I1,r1,q1⟩=>chain_link (thn (hb pins s1 σ H1 _ I1 q1) λu s2 ⟨y,H2,I2,r2,q2⟩ =>
  thn (ho pins s2 σ H2 x y v u _ I2 r1 r2 q2) λd s3 ⟨z,H3,I3,r3,k,e,q3⟩=>?_)) hm
 subst e
 cases r3
 refine wpAny_truthy_bool ?_
 cases k with
 |false=>exact ite_ff ⟨.bl false,H3,I3,rfl,q3⟩
 |true=>exact ite_tt (chain_last (thn (hc pins s3 σ H3 _ I3 q3) λw' s4 ⟨z',H4,I4,r4,q4⟩=>ho' pins s4 σ H4 y z' u w' Q I4 r2 r4 q4))
theorem ue{op op':CmpOp}{r r':R2}(ho:OpR X (compareOp op) r)(ho':OpR X (compareOp op') r')(ha:PE X a ta)(hb:PE X b tb)(hc:PE X c tc)
  (hm:lastMarks [op,op'] [b,c]=false:=by with_unfolding_all rfl):PT X (.Compare a [op,op'] [b,c] pos) (y1 (ua r r' ta tb tc)):=by
 intro pins s σ H Q I h
 refine isTrue_chain (thn (ha pins s σ H _ I h) λv s1 ⟨x,H1,I1,r1,q1⟩=>test_link (thn (hb pins s1 σ H1 _ I1 q1) λu s2 ⟨y,H2,I2,r2,q2⟩ =>
  thn (ho pins s2 σ H2 x y v u _ I2 r1 r2 q2) λd s3 ⟨z,H3,I3,r3,k,e,q3⟩=>?_)) hm
 subst e
 cases r3
 refine wpAny_truthy_bool ?_
 cases k with
 |false =>
  obtain⟨k',e',q'⟩:=q3
  cases e'
  exact ite_ff ⟨H3,I3,q'⟩
 |true =>
  refine ite_tt (test_last (thn (hc pins s3 σ H3 _ I3 q3) λw' s4 ⟨z',H4,I4,r4,q4⟩=>thn (ho' pins s4 σ H4 y z' u w' _ I4 r2 r4 q4) λd' s5 ⟨z2,H5,I5,r5,k2,e2,q5⟩=>?_))
  subst e2
  cases r5
  exact wpAny_truthy_bool ⟨H5,I5,q5⟩
theorem iZ:(sizeLine:Nat)<2 ^ 63:=by rw [sizeLine_eq];decide
theorem pC:OpR X (binaryOp .Add) (λx y H Q=>∃i j,x=.str i/\y=.str j/\i.length+j.length<=sizeLine/\Q (.str (i++j)) H):=by
 intro pins s σ H x y v u Q I rx ry h
 obtain⟨i,j,rfl,rfl,hz,q⟩:=h
 obtain⟨t,rfl⟩:=rx
 obtain⟨t',rfl⟩:=ry
 exact add_str (λt' tk=>⟨.str (i++j),H,I.tok _,⟨_,rfl⟩,q⟩) hz
theorem hZ{x:V}{us:List Value}(r:aw [x] us):∃u,us=[u]/\av x u:=by
 cases r with
 |cons r1 r2=>cases r2;exact⟨_,rfl,r1⟩
theorem Ck{x y:V}{us:List Value}(r:aw [x,y] us):∃u w',us=[u,w']/\av x u/\av y w':=by
 cases r with
 |cons r1 r2 =>
  cases r2 with
  |cons r3 r4=>cases r4;exact⟨_,_,rfl,r1,r3⟩
end
end L2
namespace L2
open PySem PySem.Spec PyProof.Rows
structure pD(h:Heap)(x dx C:Addr)(mA:Str->Option Value):Prop where
 obj:h.get? x=some (PySem.W.instObj C dx)
 ns:h.Ns1 dx mA
 ne:dx≠x
theorem sf{h:Heap}{dx:Addr}{mA:Str->Option Value}(n:h.Ns1 dx mA):∃od,h.get? dx=some od/\∀name,PySem.W.lookIn name od=some (mA name):=by
 obtain⟨o,es,ep,ho,hd,hk,_,hm⟩:=n
 refine⟨o,ho,λname=>?_⟩
 have e:=hm name
 unfold nsFind findBy at e
 rw [<- Array.find?_toList]at e
 unfold PySem.W.lookIn
 rw [hd]
 dsimp only
 split
 ·rename_i y q
  rw [q]at e
  exact congrArg some e
 ·rename_i q
  rw [q]at e
  have a:es.toList.any (·.refKey)=false:=by
   rw [List.any_eq_false]
   intro y hy
   obtain⟨z,t,hkey⟩:=hk y (Array.mem_toList_iff.mp hy)
   simp [DictEntry.refKey,hkey]
  have a':¬ es.toList.any (·.refKey)=true:=by rw [a];exact Bool.false_ne_true
  rw [if_neg a']
  exact congrArg some e
theorem pD.look{h:Heap}{x dx C:Addr}{mA:Str->Option Value}(I:pD h x dx C mA):∃od,PySem.W.InstAt h x (PySem.W.instObj C dx) C (some od)/\∀name,PySem.W.lookIn name od=some (mA name) :=
 let ⟨od,ho,hl⟩:=sf I.ns
 ⟨od,⟨I.obj,rfl,rfl,ho⟩,hl⟩
section
variable{prog:Program}{w:World}{A:Around}{E:Value->Shared->Prop}{s:Shared}{K:PySem.W.Frag}{x dx C f:Addr}{mA:Str->Option Value}{name:Str}{v:Value}
theorem xr{expr:Bool}{Q:Value->Shared->Prop}(X:K.In s.heap)(I:pD s.heap x dx C mA)(hg:PySem.W.plainGet K C name=true)(hh:PySem.W.hasDictIn K C=true)
  (ha:PySem.W.findIn K (.ref C) name=some none) (hv:mA name=some v) (hv':PySem.W.handedIn v=true) (h:Q v { s with toks:=s.toks+1 }) :
  wpAny (model prog w) A (getAttr (.ref x) name expr) Q E s:=by
 obtain⟨od,J,hl⟩:=I.look
 exact PySem.W.get_value X J (PySem.W.plainGet_of hg).1 (PySem.W.findObj_own hh ha rfl (by rw [hl,hv])) hv' h
theorem ug{pl:Sem Bool}{Q:Value×List Value->Shared->Prop}(X:K.In s.heap)(I:pD s.heap x dx C mA)(hg:PySem.W.plainGet K C name=true)
  (hf:PySem.W.findIn K (.ref C) name=some (some (.ref f))) (ht:PySem.W.isFn K (.ref f)=true) (hv:mA name=none) (h:Q (.ref f,[.ref x]) s) :
  wpAny (model prog w) A (getMethod (.ref x) name pl) Q E s:=by
 obtain⟨od,J,hl⟩:=I.look
 exact PySem.W.method_fn X J (PySem.W.plainGet_of hg).1 (PySem.W.plainGet_of hg).2 hf (beq_iff_eq.mp ht) (by show(PySem.W.lookIn name od).map (·.isSome)=some false;rw [hl,hv];rfl) h
theorem xt{ns:List Str}{Q:Unit->Shared->Prop}(X:K.In s.heap)(I:pD s.heap x dx C mA)
  (hs:PySem.W.findIn K (.ref C) "__setattr__"=some (some (.builtin "object.__setattr__"))) (hp:PySem.W.plainOver K C=true) (ht:PySem.W.takerIn K C name=some none) (hh:PySem.W.hasDictIn K C=true)
  (hw:PySem.Within mA ns) (hsz:ns.length<=sizeLine)
  (h:∀h',pD h' x dx C (λy=>if y=name then some v else mA y)->Heap.SameBut dx s.heap h'->Q () { s with heap:=h',toks:=s.toks+2 }) :
  wpAny (model prog w) A (setAttr (.ref x) name v) Q E s:=by
 obtain⟨od,J,hl⟩:=I.look
 refine PySem.W.set_plain X J hs (PySem.W.osa_open (s:={ s with toks:=s.toks+1 }) (r:=none) X J hp ht λb=>?_)
 obtain⟨cd,hc,hd'⟩:=PySem.W.any_some hh
 have hx:s.heap.get? x=some ⟨.ref C,some dx,.plain,#[]⟩:=I.obj
 refine wpAny_bind (wpAny_pure (wpAny_bind (wpAny_bind (wpAny_loadPart hx (wpAny_bind (PySem.W.Looks.here (s:={ s with toks:=s.toks+1 }) (PySem.W.looks_clsIn X hc) ?_))))))
 rw [hd']
 refine wpAny_pure (a:=some dx) (wpAny_bind (wpAny_pure (wpAny_bind ?_)))
 refine wpAny_nsSet1 (s:={ s with toks:=s.toks+1 }) I.ns λh' hn2 hs2=>?_
 obtain⟨oD,esD,epD,hoD,hdD,hcD⟩:=hn2.count (PySem.Within.cons name v hw)
 refine wpAny_bind (wpAny_lookBehind hoD (by rw [hdD];exact pastItsLine_dict (Nat.le_trans hcD (by rw [List.length_cons];omega))) ?_)
 exact wpAny_pure (h _ ⟨(hs2.2 _ (Ne.symm I.ne)).trans I.obj,hn2,I.ne⟩ hs2)
theorem ui{R:Result->Shared->Prop}{vs:List Value}{kw:List (Str×Value)}(X:K.In s.heap)(hm:PySem.W.makesIn K C=true)
  (hi:PySem.W.findIn K (.ref C) "__init__"=some (some (.ref f))) (hf:PySem.W.typeIn K (.ref f)=some (.type "function"))
  (h:codeAny (model prog w) (A.under (.builtin "type.__call__" ⟨.ref C::vs,kw⟩)) (.call (.ref f) ⟨.ref (s.heap.objs.size+1)::vs,kw⟩) (PySem.W.InitBack (s.heap.objs.size+1) R)
   { s with heap:=(s.heap.push PySem.W.emptyDict).push (PySem.W.instObj C s.heap.objs.size) }) :
  codeAny (model prog w) A (.call (.ref C) ⟨vs,kw⟩) R s:=by
 obtain⟨hh,g,d,t,os⟩:=s
 exact PySem.W.make_core (PySem.W.makes_of X hm) (PySem.W.looks_findIn X hi) (λself=>PySem.W.bind_fn X self hf) (.inl rfl) h
end
noncomputable def dG(f:Str)(v:V):List (Str×V)->List (Str×V)
 | []=>[(f,v)]
 | (g,x)::r=>if g=f then (g,v)::r else (g,x)::dG f v r
theorem aG(f g:Str)(v:V):∀fs:List (Str×V),(dG f v fs).lookup g=if g=f then some v else fs.lookup g
 | []=>by
  show List.lookup g [(f,v)]=_
  by_cases h:g=f
  ·have hb:(g == f)=true:=beq_iff_eq.mpr h
   simp only [List.lookup,hb,if_pos h]
  ·have hb:(g == f)=false:=beq_eq_false_iff_ne.mpr h
   simp only [List.lookup,hb,if_neg h]
 | (k,x)::r=>by
  have ih:=aG f g v r
  rw [show dG f v ((k,x)::r)=(if k=f then (k,v)::r else (k,x)::dG f v r) from rfl]
  by_cases hk:k=f
  ·rw [if_pos hk]
   by_cases h:g=k
   ·have hb:(g == k)=true:=beq_iff_eq.mpr h
    simp only [List.lookup,hb,if_pos (h.trans hk)]
   ·have hb:(g == k)=false:=beq_eq_false_iff_ne.mpr h
    simp only [List.lookup,hb,if_neg (λe:g=f=>h (e.trans hk.symm))]
  ·rw [if_neg hk]
   by_cases h:g=k
   ·have hb:(g == k)=true:=beq_iff_eq.mpr h
    simp only [List.lookup,hb,if_neg (λe:g=f=>hk (h.symm.trans e))]
   ·have hb:(g == k)=false:=beq_eq_false_iff_ne.mpr h
    simp only [List.lookup,hb]
    exact ih
theorem i3(f:Str)(v:V):∀fs:List (Str×V),f∈(dG f v fs).map (·.1)/\∀g,g∈fs.map (·.1)->g∈(dG f v fs).map (·.1)
 | []=>⟨by simp [dG],λg h=>by simp at h⟩
 | (k,x)::r=>by
  obtain⟨i1,i2⟩:=i3 f v r
  rw [show dG f v ((k,x)::r)=(if k=f then (k,v)::r else (k,x)::dG f v r) from rfl]
  by_cases hk:k=f
  ·rw [if_pos hk]
   subst hk
   exact⟨by simp,λg h=>by simpa using h⟩
  ·rw [if_neg hk]
   refine⟨?_,λg h=>?_⟩
   ·rw [List.map_cons]
    exact List.mem_cons_of_mem _ i1
   ·rw [List.map_cons]at h ⊢
    rcases List.mem_cons.mp h with e|e
    ·exact List.mem_cons.mpr (.inl e)
    ·exact List.mem_cons_of_mem _ (i2 g e)
theorem jx(f:Str)(v:V):∀fs:List (Str×V),(dG f v fs).length<=fs.length+1
 | []=>by simp [dG]
 | (k,x)::r=>by
  have ih:=jx f v r
  rw [show dG f v ((k,x)::r)=(if k=f then (k,v)::r else (k,x)::dG f v r) from rfl]
  by_cases hk:k=f
  ·rw [if_pos hk,List.length_cons,List.length_cons];omega
  ·rw [if_neg hk,List.length_cons,List.length_cons];omega
theorem fP.some_of{v:V}{o:Option Value}(r:fP (some v) o):∃u,o=some u/\av v u:=by
 cases o with
 |none=>exact(show False from r).elim
 |some u=>exact⟨u,rfl,r⟩
theorem fP.none_of{o:Option Value}(r:fP none o):o=none:=by
 cases o with
 |none=>rfl
 |some u=>exact(show False from r).elim
theorem sg{v:V}{u:Value}(r:av v u):PySem.W.handedIn u=true:=by
 cases v with
 |non=>cases (show u=Value.none from r);rfl
 |bl b=>cases (show u=Value.bool b from r);rfl
 |int i=>obtain⟨t,e⟩:=(show ∃t,u=Value.int i t from r);cases e;rfl
 |str x=>obtain⟨t,e⟩:=(show ∃t,u=Value.str x t from r);cases e;rfl
 |byt b=>obtain⟨t,e⟩:=(show ∃t,u=Value.bytes b t from r);cases e;rfl
 |flt b=>obtain⟨t,e⟩:=(show ∃t,u=Value.float b t from r);cases e;rfl
 |ref a=>cases (show u=Value.ref a from r);rfl
 |ty n=>cases (show u=Value.type n from r);rfl
section
variable{P:Program}{w:World}{H H':Hp}{h h':Heap}{a C dx:Addr}{fs fs':List (Str×V)}
theorem mW(hok:HOk P w H h)(e:H a=some (.ins C dx fs)):∃mA,pD h a dx C mA/\(∀f,fP (fs.lookup f) (mA f))/\PySem.Within mA (fs.map (·.1))/\fs.length<=1000/\H dx=some (.own a):=by
 obtain⟨d,z,ne,ob,mA,n,r,q⟩:=(show bw P w H h a (.ins C dx fs) from hok a _ e)
 exact⟨mA,⟨ob,n,ne⟩,r,q,z,d⟩
end
structure Cls(K:PySem.W.Frag)(C:Addr):Prop where
 pg:PySem.W.plainGet K C Str.empty=true
 hd:PySem.W.hasDictIn K C=true
 po:PySem.W.plainOver K C=true
 sa:PySem.W.findIn K (.ref C) "__setattr__"=some (some (.builtin "object.__setattr__"))
theorem Cls.get{K:PySem.W.Frag}{C:Addr}(c:Cls K C)(f:Str):PySem.W.plainGet K C f=true:=c.pg
noncomputable def dH(K:PySem.W.Frag)(C:Addr)(f:Str):Prop:=PySem.W.findIn K (.ref C) f=some none
theorem dH.taker{K:PySem.W.Frag}{C:Addr}{f:Str}(n:dH K C f):PySem.W.takerIn K C f=some none:=by
 unfold PySem.W.takerIn
 rw [show PySem.W.findIn K (.ref C) f=some none from n]
 rfl
structure lK(K:PySem.W.Frag)(C:Addr)(m:Str)(f:Addr):Prop where
 at_:PySem.W.findIn K (.ref C) m=some (some (.ref f))
 fn:PySem.W.isFn K (.ref f)=true
 kp:PySem.W.keepIn K (.ref f)=true
section
variable{X:Cx}{pins:List (Addr×Obj)}{σ:St}{H:Hp}{s:Shared}{a C dx:Addr}{fs:List (Str×V)}{f:Str}{v:V}{A:Around}{E:Value->Shared->Prop}
theorem pE{b:Bool}{Q:Value->Shared->Prop}(I:Inv X pins σ H s)(e:H a=some (.ins C dx fs))(c:Cls X.K C)(n:dH X.K C f)(l:fs.lookup f=some v)
  (h:∀u s',Inv X pins σ H s'->av v u->Q u s'):wpAny (model X.prog X.w) A (getAttr (.ref a) f b) Q E s:=by
 obtain⟨mA,O,r,_,_,_⟩:=mW I.hok e
 obtain⟨u,hu,ru⟩:=fP.some_of (v:=v) (o:=mA f) (by rw [<- l];exact r f)
 exact xr I.kIn O (c.get f) c.hd n hu (sg ru) (h u _ (I.tok _) ru)
theorem kh{m:Str}{g:Addr}{pl:Sem Bool}{Q:Value×List Value->Shared->Prop}(I:Inv X pins σ H s)(e:H a=some (.ins C dx fs))(c:Cls X.K C)(k:lK X.K C m g)(l:fs.lookup m=none)
  (h:Q (.ref g,[.ref a]) s):wpAny (model X.prog X.w) A (getMethod (.ref a) m pl) Q E s:=by
 obtain⟨mA,O,r,_,_,_⟩:=mW I.hok e
 have hn:mA m=none:=fP.none_of (by rw [<- l];exact r m)
 exact ug I.kIn O (c.get m) k.at_ k.fn hn h
theorem pF{y:V}{u:Value}{Q:Unit->Shared->Prop}(I:Inv X pins σ H s)(e:H a=some (.ins C dx fs))(c:Cls X.K C)(n:dH X.K C f)(hl:fs.length<1000)(ry:av y u)
  (h:∀s',Inv X pins σ (upd H a (.ins C dx (dG f y fs))) s'->Q () s'):wpAny (model X.prog X.w) A (setAttr (.ref a) f u) Q E s:=by
 obtain⟨mA,O,r,wi,_,ho⟩:=mW I.hok e
 have hz:(fs.map (·.1)).length<=sizeLine:=by rw [List.length_map,sizeLine_eq];omega
 refine xt I.kIn O c.sa c.po n.taker c.hd wi hz λh' O' sb=>h _ ?_
 have hd:∃o,h'.get? dx=some o:=let ⟨o,_,_,e',_⟩:=O'.ns;⟨o,e'⟩
 refine I.write (x:=a) (e:=dx) (by rw [e];exact True.intro) (.inr ho) (λb q hb z=>(sb.2 b hb).trans z) hd ?_
 refine⟨by rw [ak O.ne];exact ho,?_,O.ne,O'.obj,_,O'.ns,λg=>?_,λg hg=>?_⟩
 ·have:=jx f y fs;omega
 ·show fP ((dG f y fs).lookup g) (if g=f then some u else mA g)
  rw [aG]
  by_cases q:g=f
  ·rw [if_pos q,if_pos q];exact ry
  ·rw [if_neg q,if_neg q];exact r g
 ·by_cases q:g=f
  ·rw [q];exact(i3 f y fs).1
  ·refine(i3 f y fs).2 g (wi g λz=>hg ?_)
   show(if g=f then some u else mA g)=none
   rw [if_neg q];exact z
theorem Inv.made(I:Inv X pins σ H s):Inv X pins σ (upd (upd H s.heap.objs.size (.own (s.heap.objs.size+1))) (s.heap.objs.size+1) (.ins C s.heap.objs.size []))
  { s with heap:=(s.heap.push PySem.W.emptyDict).push (PySem.W.instObj C s.heap.objs.size) }:=by
 have e1:(s.heap.push PySem.W.emptyDict).get? s.heap.objs.size=some PySem.W.emptyDict:=Heap.get?_push_size s.heap rfl
 have e2:((s.heap.push PySem.W.emptyDict).push (PySem.W.instObj C s.heap.objs.size)).get? (s.heap.objs.size+1)=some (PySem.W.instObj C s.heap.objs.size):=by
  have:=Heap.get?_push_size (s.heap.push PySem.W.emptyDict) (o:=PySem.W.instObj C s.heap.objs.size) rfl
  rwa [Heap.size_push]at this
 have e3:(s.heap.push PySem.W.emptyDict).Ns s.heap.objs.size (λ_=>none):=⟨PySem.W.emptyDict,#[],_,e1,rfl,(λe he=>absurd he (by simp)),λ_=>rfl⟩
 have I1:=I.laid (a:=s.heap.objs.size) (o:=.own (s.heap.objs.size+1)) (h':=s.heap.push PySem.W.emptyDict) (t':=s.toks) (λb u q=>Heap.get?_push_of_some _ q) (Nat.le_refl _) ⟨_,e1⟩
 refine I1.laid (a:=s.heap.objs.size+1) (o:=.ins C s.heap.objs.size []) (t':=s.toks) (λb u q=>Heap.get?_push_of_some _ q) (Nat.le_of_eq (Heap.size_push _ _)) ?_
 have ne:s.heap.objs.size≠s.heap.objs.size+1:=Nat.ne_of_lt (Nat.lt_succ_self _)
 refine⟨by rw [ak ne,ah],Nat.zero_le _,ne,e2,λ_=>none,(Heap.Ns1.of_empty e3).at λo q=>Heap.get?_push_of_some _ q,λ_=>True.intro,λy hy=>absurd rfl hy⟩
theorem xu{prog:Program}{w:World}{env:Env}{e:Expr}{f:Str}{pos:Pos}{s:Shared}{Q:Value->Shared->Prop}(hb:attributeBase e f env (eval e env)=eval e env)
  (h:wpAny (model prog w) A (eval e env) (λo s₁=>wpAny (model prog w) A (getAttr o f true) Q E s₁) E s):wpAny (model prog w) A (eval (.Attribute e f pos) env) Q E s :=
 Attribute_any_ h (by rw [arm_eval_Attribute,hb])
end
noncomputable def Cm(K:PySem.W.Frag)(ta:TE)(f:Str):TE:=λσ H Q=>ta σ H λx H1=>∃a C dx fs v,x=.ref a/\H1 a=some (.ins C dx fs)/\Cls K C/\dH K C f/\fs.lookup f=some v/\Q v H1
noncomputable def Eu(K:PySem.W.Frag)(ta tv:TE)(f:Str):TS:=λD σ H=>tv σ H λy H1=>ta σ H1 λx H2=>∃a C dx fs,x=.ref a/\H2 a=some (.ins C dx fs)/\Cls K C/\dH K C f/\fs.length<1000 /\
 D.nx σ (upd H2 a (.ins C dx (dG f y fs)))
section
variable{X:Cx}{o e value:Expr}{f:Str}{pos pos' tpos:Pos}{ta tv:TE}
theorem zU(he:PE X e ta)(hb:attributeBase e f X.env (eval e X.env)=eval e X.env):PE X (.Attribute e f pos) (Cm X.K ta f):=by
 intro pins s σ H Q I h
 refine xu hb (thn (he pins s σ H _ I h) λu s1 ⟨x,H1,I1,rx,a,C,dx,fs,v,ex,ea,c,n,l,q⟩=>?_)
 subst ex
 obtain rfl:u=Value.ref a:=rx
 exact pE I1 ea c n l λu' s2 I2 ru=>⟨v,H1,I2,ru,q⟩
theorem mX(ha:PE X o ta)(hv:PE X value tv)(hs:swapsWith value (some (.Attribute o f pos')) pos.line X.env=pure false):PS X (.Assign [.Attribute o f pos'] value pos) (Eu X.K ta tv f):=by
 intro pins s σ H D I h
 refine plainObj_wpAny_Assign_Attribute (thn (hv pins s σ H _ I h) λu s1 ⟨y,H1,I1,ry,q⟩=>thn (ha pins s1 σ H1 _ I1 q) λov s2 ⟨x,H2,I2,rx,a,C,dx,fs,ex,ea,c,n,l,q2⟩=>?_) hs
 subst ex
 obtain rfl:ov=Value.ref a:=rx
 exact pF I2 ea c n l ry λs3 I3=>⟨σ,_,I3,q2⟩
end
section
variable{X:Cx}{pins:List (Addr×Obj)}{σ:St}{H:Hp}{s:Shared}{A:Around}{E:Value->Shared->Prop}{Q:Value->Shared->Prop}{c:Value}{b:Bool}
end
end L2
namespace L2
open PySem PySem.Spec PyProof.Rows
structure cJ(k:Nat)(A:Around):Prop where
 hd:A.handled=none
 dp:A.depth+3*k+5<recursionLimit
 un:A.units+16*k+200<cLine
theorem cJ.mono{j k:Nat}{A:Around}(r:cJ k A)(h:j<=k):cJ j A:=⟨r.hd,by have:=r.dp;omega,by have:=r.un;omega⟩
theorem cJ.deeper{k:Nat}{A:Around}(r:cJ (k+1) A)(env:Env):cJ k (A.deeper env) :=
 ⟨r.hd,by have:=r.dp;show A.depth+1+3*k+5<_;omega,by have:=r.un;show A.units+3+16*k+200<_;omega⟩
theorem pG {A:Around}{C:Addr}{us:List Value}{kw:List (Str×Value)}:(A.under (.builtin "type.__call__" ⟨.ref C::us,kw⟩)).depth=A.depth+1:=by
 first|rfl|simp [Around.under,Code.weight,Code.isCreation,Code.isGuard,Code.isCaller,Code.frames,Code.isFrame,guardIds]
theorem pH {A:Around}{C:Addr}{us:List Value}{kw:List (Str×Value)}:(A.under (.builtin "type.__call__" ⟨.ref C::us,kw⟩)).units=A.units+1:=by
 first|rfl|simp [Around.under,Code.cUnits,Code.frames,Code.isFrame]
theorem cJ.make {k:Nat}{A:Around} (r:cJ (k+1) A) (C:Addr) (us:List Value) (kw:List (Str×Value)):cJ k (A.under (.builtin "type.__call__" ⟨.ref C::us,kw⟩)) :=
 ⟨r.hd,by have:=r.dp;rw [pG];omega,by have:=r.un;rw [pH];omega⟩
theorem cJ.depth{k:Nat}{A:Around}(r:cJ k A):A.depth<recursionLimit:=by have:=r.dp;omega
noncomputable def bA:TA:=λ_ H Q=>Q [] H
noncomputable def aV(ta:TE)(tr:TA):TA:=λσ H Q=>ta σ H λx H1=>tr σ H1 λxs H2=>Q (x::xs) H2
section
variable{X:Cx}{e:Expr}{es:List Expr}{te:TE}{t:TA}{pos:Pos}
theorem aR:PA X [] bA:=λ_ _ _ _ H Q I h=>Calls.spliced_nil ⟨[],H,I,.nil,h⟩
theorem au(ha:PE X e te)(hr:PA X es t)(hs:starEach (e::es) X.env=(false,eval e X.env)::starEach es X.env:=by rfl):PA X (e::es) (aV te t):=by
 intro pos pins s σ H Q I h
 rw [hs]
 show wpAny _ _ (spliced ((false,eval e X.env)::backTo pos (starEach es X.env))) _ _ s
 refine Calls.spliced_cons (thn (ha pins s σ H _ I h) λu s1 ⟨x,H1,I1,r1,q1⟩=>?_)
 exact thn (hr pos pins s1 σ H1 _ I1 q1) λus s2 ⟨xs,H2,I2,r2,q2⟩=>⟨x::xs,H2,I2,.cons r1 r2,q2⟩
noncomputable def Ev(t:TA):TE:=λσ H Q=>t σ H λxs H1=>xs.length<=sizeLine/\∀p,H1 p=none->Q (.ref p) (upd H1 p (.tup xs))
noncomputable def fS(t:TA):TE:=λσ H Q=>t σ H λxs H1=>xs.length<=sizeLine/\∀p,H1 p=none->Q (.ref p) (upd H1 p (.lst xs))
theorem zV{x1}(h:PA X es t):PE X (.Tuple es x1 pos) (Ev t):=by
 intro pins s σ H Q I hq
 refine wpAny_Tuple_spliced (thn (h pos pins s σ H _ I hq) λus s1 ⟨xs,H1,I1,r,z,q⟩=>⟨by rw [<- r.length];exact z,?_⟩)
 have hf:H1 s1.heap.objs.size=none:=I1.hok.fresh (Nat.le_refl _)
 refine⟨.ref s1.heap.objs.size,upd H1 s1.heap.objs.size (.tup xs),I1.laid (t':=s1.toks) (λb u e=>Heap.get?_push_of_some _ e) (Nat.le_refl _) ?_,rfl,q _ hf⟩
 exact⟨z,us,r,⟨_,Heap.get?_push_size _ rfl,rfl,_,rfl⟩⟩
theorem eP(h:PA X es t):PE X (.List es pos) (fS t):=by
 intro pins s σ H Q I hq
 refine wpAny_List_spliced (thn (h pos pins s σ H _ I hq) λus s1 ⟨xs,H1,I1,r,z,q⟩=>⟨by rw [<- r.length];exact z,?_⟩)
 have hf:H1 s1.heap.objs.size=none:=I1.hok.fresh (Nat.le_refl _)
 refine⟨.ref s1.heap.objs.size,upd H1 s1.heap.objs.size (.lst xs),I1.laid (t':=s1.toks) (λb u e=>Heap.get?_push_of_some _ e) (Nat.le_refl _) ?_,rfl,q _ hf⟩
 exact⟨z,us,0,r,Heap.get?_push_size _ rfl⟩
end
noncomputable abbrev Sp:=List V->Hp->VK->XK->Prop
noncomputable abbrev CXT:=List Env->Hp->Shared->XK->Value->Shared->Prop
structure pI(P:Program)(w:World)(K:PySem.W.Frag)(mg:Str->Option Value)(base:Heap)(A:Around)(outer:List Env)(s:Shared)(H:Hp):Prop where
 frames:A.frames=some outer
 mod:Mod K mg base
 bs:∀b o,base.get? b=some o->s.heap.get? b=some o/\H b=none
 bsz:base.objs.size<=s.heap.objs.size
 funs:s.heap.FunFrames base outer
 frf:∀b∈frs outer,H b=none
 hok:HOk P w H s.heap
 bare:AllBare s.gens
noncomputable def CE(outer:List Env)(P:Program)(w:World)(H:Hp)(s:Shared)(Q:VK)(u:Value)(s':Shared):Prop :=
 ∃v H',s'.os=s.os/\AllBare s'.gens/\Un (frs outer) [] H H' s.heap s'.heap/\HOk P w H' s'.heap/\av v u/\Q v H'
noncomputable def CR(CX:CXT)(outer:List Env)(P:Program)(w:World)(H:Hp)(s:Shared)(Q:VK)(E:XK)(r:Result)(s':Shared):Prop :=
 match r with
 | .ok (.ret u)=>CE outer P w H s Q u s'
 | .ok _=>False
 | .error e=>CX outer H s E e s'
structure bW(P:Program)(w:World)(K:PySem.W.Frag)(mg:Str->Option Value)(base:Heap)(CX:CXT)(k:Nat)(f:Addr)(fd:FuncData)(ps:List Str)(sp:Sp):Prop where
 len:∀vs H Q E,sp vs H Q E->vs.length=ps.length
 run:∀(A:Around) (outer:List Env) (s:Shared) (H:Hp) (args:Args) (us:List Value) (vs:List V) (Q:VK) (E:XK),cJ k A->pI P w K mg base A outer s H->BindsTo s fd args (ps.zip us)->aw vs us->sp vs H Q E ->
  codeAny (model P w) A (.call (.ref f) args) (CR CX outer P w H s Q E) s
theorem pI.make{P:Program}{w:World}{K:PySem.W.Frag}{mg:Str->Option Value}{base:Heap}{A:Around}{outer:List Env}{s:Shared}{H:Hp}(e:pI P w K mg base A outer s H)(C:Addr)(us:List Value)(kw:List (Str×Value)) :
  pI P w K mg base (A.under (.builtin "type.__call__" ⟨.ref C::us,kw⟩)) outer s H:=⟨by first|exact e.frames|(simpa [Around.under,Code.envs,Code.isFrame,pushEnvs] using e.frames),e.mod,e.bs,e.bsz,e.funs,e.frf,e.hok,e.bare⟩
section
variable{X:Cx}{pins:List (Addr×Obj)}{σ:St}{H:Hp}{s s':Shared}
theorem Inv.env0(I:Inv X pins σ H s):pI X.prog X.w X.K X.mg X.base X.A X.stack s H :=
 ⟨I.ok.frames,I.ok.mod,I.bs,Nat.le_trans I.ok.bsz I.sz,I.stack,I.stkFree,I.hok,I.bare⟩
theorem Inv.after{Q:VK}{u:Value}(I:Inv X pins σ H s)(h:CE X.stack X.prog X.w H s Q u s'):EP X pins σ Q u s':=by
 obtain⟨v,H',os,bare,un,hok,r,q⟩:=h
 obtain⟨hh,g,d,t,os'⟩:=s'
 obtain rfl:os'=s.os:=os
 exact⟨v,H',I.call (h':=hh) (g':=g) (d':=d) (t':=t) (ch:=[]) un hok bare (λb z=>absurd z (by simp)),r,q⟩
end
noncomputable def jy(sp:Sp)(dvs:List V)(E:XK)(t:TA):TE:=λσ H Q=>t σ H λvs H1=>sp (vs++dvs) H1 Q E
noncomputable def l5(C:Addr)(m:Str)(sp:Sp)(dvs:List V)(E:XK)(ta:TE)(t:TA):TE:=λσ H Q=>ta σ H λx H1=>∃a dx fs,x=.ref a/\H1 a=some (.ins C dx fs)/\fs.lookup m=none /\
 t σ H1 λvs H2=>sp (x::(vs++dvs)) H2 Q E
noncomputable def y2(C:Addr)(sp:Sp)(dvs:List V)(E:XK)(t:TA):TE:=λσ H Q=>t σ H λvs H1=>∀x dx,H1 x=none->H1 dx=none->dx≠x ->
 sp (.ref x::(vs++dvs)) (upd (upd H1 dx (.own x)) x (.ins C dx [])) (λv H2=>v=.non/\Q (.ref x) H2) E
noncomputable def a9(K:PySem.W.Frag)(fd:FuncData)(ps:List Str)(ds:List Value):Prop :=
 ∀(s:Shared) (us:List Value),K.In s.heap->(us++ds).length=ps.length->BindsTo s fd ⟨us,[]⟩ (ps.zip (us++ds))
theorem a9.all{K:PySem.W.Frag}{fd:FuncData}{ps:List Str}(h:∀us:List Value,us.length=ps.length->bindArgs fd ⟨us,[]⟩=pure (ps.zip us)):a9 K fd ps []:=λs us _ hl=>by
 rw [List.append_nil]at hl ⊢
 exact .of_eq (h us hl)
noncomputable def fT(CX:CXT)(X:Cx)(E:XK):Prop:=∀(pins:List (Addr×Obj)) (σ:St) (H:Hp) (s:Shared) (e:Value) (s':Shared),Inv X pins σ H s->CX X.stack H s E e s'->X.xe e s'
section
variable{X:Cx}{CX:CXT}{k:Nat}{f C:Addr}{fd:FuncData}{ps:List Str}{sp:Sp}{dvs:List V}{ds:List Value}{E:XK}{x m:Str}{p pos apos:Pos}{e o:Expr}{es:List Expr}{ta:TE}{t:TA}
theorem mY{pins:List (Addr×Obj)}{σ:St}{H:Hp}{s:Shared}{Q:VK}{us:List Value}{vs:List V}(F:bW X.prog X.w X.K X.mg X.base CX k f fd ps sp)(hr:cJ k X.A)(hb:a9 X.K fd ps ds)(hd:aw dvs ds)(hx:fT CX X E)
  (I:Inv X pins σ H s) (r:aw vs us) (h:sp (vs++dvs) H Q E):wpAny (model X.prog X.w) X.A (call (.ref f) us) (EP X pins σ Q) X.xe s:=by
 have r2:aw (vs++dvs) (us++ds):=r.append hd
 have hl:(us++ds).length=ps.length:=by rw [<- r2.length];exact F.len _ _ _ _ h
 refine wpAny_call (codeAny_mono (F.run X.A X.stack s H ⟨us,[]⟩ (us++ds) (vs++dvs) Q E hr I.env0 (hb s us I.kIn hl) r2 h) λr s' hq=>?_)
 cases r with
 |error e=>exact hx pins σ H s e s' I hq
 |ok fl =>
  cases fl with
  |ret u=>exact I.after hq
  |next=>exact False.elim hq
  |brk=>exact False.elim hq
  |cont=>exact False.elim hq
theorem jS(F:bW X.prog X.w X.K X.mg X.base CX k f fd ps sp)(hr:cJ k X.A)(hg:Gl X x)(hm:X.mg x=some (.ref f))(hk:PySem.W.keepIn X.K (.ref f)=true)(hb:a9 X.K fd ps ds)(hd:aw dvs ds)(hx:fT CX X E)
  (ha:PA X (e::es) t) (hdb:(x == ("__debug__":Str))=false:=by decide) (he:starEach (e::es) X.env=(false,eval e X.env)::starEach es X.env:=by rfl) (hpl:(backTo pos (starEach es X.env)).any (·.1)=false:=by rfl) :
  PE X (.Call (.Name x p) (e::es) [] pos) (jy sp dvs E t):=by
 intro pins s σ H Q I h
 refine wpAny_Call_Name_kw (jR I hg hm ?_ hdb)
 refine PySem.W.callWith_K (h₀:=X.base) I.ok.mod.kin hk (thn (ha pos pins s σ H _ I h) λus s1 ⟨vs,H1,I1,r,q⟩=>⟨I1.kIn,?_⟩) he hpl
 exact mY F hr hb hd hx I1 r q
theorem uj(F:bW X.prog X.w X.K X.mg X.base CX k f fd ps sp)(hr:cJ k X.A)(hg:Gl X x)(hm:X.mg x=some (.ref f))(hk:PySem.W.keepIn X.K (.ref f)=true)(hb:a9 X.K fd ps ds)(hd:aw dvs ds)(hx:fT CX X E)
  (hdb:(x == ("__debug__":Str))=false:=by decide):PE X (.Call (.Name x p) [] [] pos) (jy sp dvs E bA):=by
 intro pins s σ H Q I h
 refine wpAny_Call_Name_kw (jR I hg hm ?_ hdb)
 exact PySem.W.callWith_K0 I.kIn hk (mY (us:=[]) F hr hb hd hx I .nil h)
theorem mZ{pl:Sem Bool}(he:PE X o ta)(c:Cls X.K C)(hm:lK X.K C m f)(F:bW X.prog X.w X.K X.mg X.base CX k f fd ps sp)(hr:cJ k X.A)(hb:a9 X.K fd ps ds)(hd:aw dvs ds)(hx:fT CX X E)(ha:PA X (e::es) t)
  (hst:starEach (e::es) X.env=(false,eval e X.env)::starEach es X.env:=by rfl) (hpl:(backTo pos (starEach es X.env)).any (·.1)=false:=by rfl)
  (ht:eval (.Call (.Attribute o m apos) (e::es) [] pos) X.env=(do
   let ov <- eval o X.env
   standAt apos.atName
   let (f,first) <- holding [ov] (getMethod ov m pl)
   callWith pos f first (backTo pos (starEach (e::es) X.env)) (backToKw pos (keywordEach [] X.env))):=by rfl) :
  PE X (.Call (.Attribute o m apos) (e::es) [] pos) (l5 C m sp dvs E ta t):=by
 intro pins s σ H Q I h
 refine PySem.W.methodCall_KW (pl:=pl) (thn (he pins s σ H _ I h) λu s1 ⟨x,H1,I1,rx,a,dx,fs,ex,ea,l,q⟩=>?_) ht
 subst ex
 obtain rfl:u=Value.ref a:=rx
 refine kh I1 ea c hm l ?_
 refine PySem.W.callWith_K (first:=[.ref a]) (h₀:=X.base) I.ok.mod.kin hm.kp (thn (ha pos pins s1 σ H1 _ I1 q) λus s2 ⟨vs,H2,I2,r,q2⟩=>⟨I2.kIn,?_⟩) hst hpl
 exact mY (us:=.ref a::us) (vs:=.ref a::vs) F hr hb hd hx I2 (.cons rfl r) q2
theorem nZ{pl:Sem Bool}(he:PE X o ta)(c:Cls X.K C)(hm:lK X.K C m f)(F:bW X.prog X.w X.K X.mg X.base CX k f fd ps sp)(hr:cJ k X.A)(hb:a9 X.K fd ps ds)(hd:aw dvs ds)(hx:fT CX X E)
  (ht:eval (.Call (.Attribute o m apos) [] [] pos) X.env=(do
   let ov <- eval o X.env
   standAt apos.atName
   let (f,first) <- holding [ov] (getMethod ov m pl)
   callWith pos f first (backTo pos (starEach [] X.env)) (backToKw pos (keywordEach [] X.env))):=by rfl) :
  PE X (.Call (.Attribute o m apos) [] [] pos) (l5 C m sp dvs E ta bA):=by
 intro pins s σ H Q I h
 refine PySem.W.methodCall_KW (pl:=pl) (thn (he pins s σ H _ I h) λu s1 ⟨x,H1,I1,rx,a,dx,fs,ex,ea,l,q⟩=>?_) ht
 subst ex
 obtain rfl:u=Value.ref a:=rx
 refine kh I1 ea c hm l ?_
 exact PySem.W.callWith_K0 (first:=[.ref a]) I1.kIn hm.kp (mY (us:=[.ref a]) (vs:=[.ref a]) F hr hb hd hx I1 (.cons rfl .nil) q)
structure Mk(K:PySem.W.Frag)(C f:Addr):Prop where
 makes:PySem.W.makesIn K C=true
 init:PySem.W.findIn K (.ref C) "__init__"=some (some (.ref f))
 fn:PySem.W.isFn K (.ref f)=true
 kp:PySem.W.keepIn K (.ref C)=true
theorem um{pins:List (Addr×Obj)}{σ:St}{H:Hp}{s:Shared}{Q:VK}{us:List Value}{vs:List V}(M:Mk X.K C f)(F:bW X.prog X.w X.K X.mg X.base CX k f fd ps sp)(hr:cJ (k+1) X.A)(hb:a9 X.K fd ps ds)(hd:aw dvs ds)
  (hx:fT CX X E) (I:Inv X pins σ H s) (r:aw vs us)
  (h:∀x dx,H x=none->H dx=none->dx≠x->sp (.ref x::(vs++dvs)) (upd (upd H dx (.own x)) x (.ins C dx [])) (λv H2=>v=.non/\Q (.ref x) H2) E) :
  wpAny (model X.prog X.w) X.A (call (.ref C) us) (EP X pins σ Q) X.xe s:=by
 have hq:=h (s.heap.objs.size+1) s.heap.objs.size (I.hok.fresh (Nat.le_succ _)) (I.hok.fresh (Nat.le_refl _)) (Nat.ne_of_lt (Nat.lt_succ_self _))
 have I2:=Inv.made (C:=C) I
 have r2:aw (V.ref (s.heap.objs.size+1)::(vs++dvs)) (Value.ref (s.heap.objs.size+1)::(us++ds)):=.cons rfl (r.append hd)
 have hl:(Value.ref (s.heap.objs.size+1)::us++ds).length=ps.length:=by
  have e:=r2.length
  rw [F.len _ _ _ _ hq]at e
  exact e.symm
 refine wpAny_call (ui (f:=f) I.kIn M.makes M.init (beq_iff_eq.mp M.fn) (codeAny_mono (F.run _ X.stack _ _ ⟨Value.ref (s.heap.objs.size+1)::us,[]⟩ (Value.ref (s.heap.objs.size+1)::(us++ds)) _ _ E (hr.make C us [])
  (I2.env0.make C us []) (hb _ (Value.ref (s.heap.objs.size+1)::us) I2.kIn hl) r2 hq) λr s' hq'=>?_))
 cases r with
 |error e=>exact hx pins σ _ _ e s' I2 hq'
 |ok fl =>
  cases fl with
  |ret u =>
   obtain⟨v,H',I3,rv,ev,q3⟩:=I2.after hq'
   subst ev
   exact⟨rv,⟨V.ref (s.heap.objs.size+1),H',I3,rfl,q3⟩⟩
  |next=>exact False.elim hq'
  |brk=>exact False.elim hq'
  |cont=>exact False.elim hq'
theorem jT(M:Mk X.K C f)(F:bW X.prog X.w X.K X.mg X.base CX k f fd ps sp)(hr:cJ (k+1) X.A)(hg:Gl X x)(hm:X.mg x=some (.ref C))(hb:a9 X.K fd ps ds)(hd:aw dvs ds)(hx:fT CX X E)
  (ha:PA X (e::es) t) (hdb:(x == ("__debug__":Str))=false:=by decide) (he:starEach (e::es) X.env=(false,eval e X.env)::starEach es X.env:=by rfl) (hpl:(backTo pos (starEach es X.env)).any (·.1)=false:=by rfl) :
  PE X (.Call (.Name x p) (e::es) [] pos) (y2 C sp dvs E t):=by
 intro pins s σ H Q I h
 refine wpAny_Call_Name_kw (jR I hg hm ?_ hdb)
 refine PySem.W.callWith_K (h₀:=X.base) I.ok.mod.kin M.kp (thn (ha pos pins s σ H _ I h) λus s1 ⟨vs,H1,I1,r,q⟩=>⟨I1.kIn,?_⟩) he hpl
 exact um M F hr hb hd hx I1 r q
end
section
variable{X:Cx}{CX:CXT}{k:Nat}{f C:Addr}{fd:FuncData}{ps ks:List Str}{sp:Sp}{E:XK}{x m:Str}{p pos apos kpos:Pos}{e o:Expr}{es:List Expr}{kws:List Keyword}{te ta:TE}{t tk:TA}{nm:Option Str}
variable{g:List Value->List Value->List Value}{gV:List V->List V->List V}
end
structure h_(N P:List Str)(sc:Scope):Prop where
 kind:sc.kind=.function
 co:sc.isCoroutine=false
 gen:sc.isGenerator=false
 nd:N.Nodup
 pre:N.take P.length=P
 par:∀x∈P,sc.names.lookup x=some .local\/sc.names.lookup x=some .cell
 nofree:∀y∈sc.names,y.2≠.free
theorem l6{kindOf:Str->Option NameKind}{x:Str}:∀{binds:List (Str×Value)}{m:Str->Option Value},(∀v,(x,v)∉binds)->bindL kindOf binds m x=m x
 | [],_,_=>rfl
 | (n,v)::r,m,h=>by
  unfold bindL
  rw [l6 λw hw=>h w (List.mem_cons_of_mem _ hw)]
  split
  ·have:x≠n:=by rintro rfl;exact h v List.mem_cons_self
   simp [this]
  ·rfl
theorem l7{kindOf:Str->Option NameKind}{x:Str}:∀{binds:List (Str×Value)}{m:Str->Option Value},(∀v,(x,v)∉binds)->bindC kindOf binds m x=m x
 | [],_,_=>rfl
 | (n,v)::r,m,h=>by
  unfold bindC
  rw [l7 λw hw=>h w (List.mem_cons_of_mem _ hw)]
  split
  ·rfl
  ·have:x≠n:=by rintro rfl;exact h v List.mem_cons_self
   simp [this]
theorem l8{kindOf:Str->Option NameKind}{x:Str}{v:Value}:∀{P:List Str}{vs:List Value}{i:Nat}{m:Str->Option Value},P.Nodup->P[i]?=some x->vs[i]?=some v->kindOf x=some .local ->
  bindL kindOf (P.zip vs) m x=some v
 | [],_,_,_,_,h,_,_=>by simp at h
 | _::_,[],_,_,_,_,h,_=>by simp at h
 |p::P,w::vs,0,m,nd,h1,h2,hk=>by
  simp at h1 h2;subst h1;subst h2
  show bindL kindOf ((p,w)::P.zip vs) m p=_
  unfold bindL
  rw [l6 λv hv=>(List.nodup_cons.mp nd).1 (List.of_mem_zip hv).1,if_pos hk]
  simp
 |p::P,w::vs,i+1,m,nd,h1,h2,hk=>by
  show bindL kindOf ((p,w)::P.zip vs) m x=_
  unfold bindL
  exact l8 (i:=i) (List.nodup_cons.mp nd).2 (by simpa using h1) (by simpa using h2) hk
theorem l9{kindOf:Str->Option NameKind}{x:Str}{v:Value}:∀{P:List Str}{vs:List Value}{i:Nat}{m:Str->Option Value},P.Nodup->P[i]?=some x->vs[i]?=some v->kindOf x≠some .local ->
  bindC kindOf (P.zip vs) m x=some v
 | [],_,_,_,_,h,_,_=>by simp at h
 | _::_,[],_,_,_,_,h,_=>by simp at h
 |p::P,w::vs,0,m,nd,h1,h2,hk=>by
  simp at h1 h2;subst h1;subst h2
  show bindC kindOf ((p,w)::P.zip vs) m p=_
  unfold bindC
  rw [l7 λv hv=>(List.nodup_cons.mp nd).1 (List.of_mem_zip hv).1,if_neg hk]
  simp
 |p::P,w::vs,i+1,m,nd,h1,h2,hk=>by
  show bindC kindOf ((p,w)::P.zip vs) m x=_
  unfold bindC
  exact l9 (i:=i) (List.nodup_cons.mp nd).2 (by simpa using h1) (by simpa using h2) hk
noncomputable def dg(N:List Str)(vs:List V):St:=vs.map some++List.replicate (N.length-vs.length) none
noncomputable def ia(CX:CXT)(P:Program)(w:World)(K:PySem.W.Frag)(mg:Str->Option Value)(base:Heap)(N:List Str)(qual:Str)(scope:Scope)(f:Addr)(cd:Value)(A:Around)(outer:List Env)(s:Shared)(H:Hp)(E:XK):Cx where
 prog:=P
 w:=w
 K:=K
 mg:=mg
 base:=base
 A:=A.deeper (envOfC qual scope s.heap.objs.size f cd)
 N:=N
 s₀:=s
 H₀:=H
 env:=envOfC qual scope s.heap.objs.size f cd
 outer:=outer
 stack:=envOfC qual scope s.heap.objs.size f cd::outer
 ex:=[]
 calm:=true
 fn:=λ_=>true
 pn:=[]
 xe:=λe s'=>wpAny (model P w) (A.deeper (envOfC qual scope s.heap.objs.size f cd)) (leaving (envOfC qual scope s.heap.objs.size f cd) e) (λ_ s''=>CX outer H s E e s'') (λe' s''=>CX outer H s E e' s'') s'
theorem n5{sc:Scope}{n:Nat}{x:Str}(h:sc.names.lookup x=some .cell):∃c,(cellsFrom n sc.names []).lookup x=some c:=by
 have q:=PySem.W.cellsFrom_some sc.names n [] (.inl h)
 exact Option.isSome_iff_exists.mp q
theorem sh{CX:CXT}{P:Program}{w:World}{K:PySem.W.Frag}{mg:Str->Option Value}{base:Heap}{N ps:List Str}{qual:Str}{scope:Scope}{f:Addr}{cd:Value}{A:Around}{outer:List Env}{s s1:Shared}{H:Hp}{E:XK}{us:List Value}{vs:List V}
  (S:h_ N ps scope) (hd:A.handled=none) (e0:pI P w K mg base A outer s H) (hl:vs.length=ps.length) (r:aw vs us)
  (x:InCallC s s.heap.objs.size (bindL (envOfC qual scope s.heap.objs.size f cd).kindOf (ps.zip us) λ_=>none) (cellsFrom (s.heap.objs.size+1) scope.names []) (bindC (envOfC qual scope s.heap.objs.size f cd).kindOf (ps.zip us) λ_=>none) s1) :
  Inv (ia CX P w K mg base N qual scope f cd A outer s H E) [] (dg N vs) H s1:=by
 have hpl:ps.length<=N.length:=by have:=congrArg List.length S.pre;rw [List.length_take]at this;omega
 obtain⟨h1,tk,rfl,hk⟩:=x.done
 have noA:∀b:Addr,b∉(ia CX P w K mg base N qual scope f cd A outer s H E).ex:=λb z=>absurd (show b∈([]:List Addr) from z) (by simp)
 refine⟨⟨e0.mod,S.kind,rfl,rfl,Nat.le_refl _,λy z c h1 h2=>?_,λy hy=>?_,λy c _ h=>?_,λ_=>hd,Around.frames_deeper e0.frames,.inr ⟨rfl,rfl⟩,λb z=>absurd z (noA b),e0.bs,e0.bsz,λb _ _=>noA b,λb z=>absurd z (noA b),e0.funs,e0.frf⟩,
  rfl,e0.bare,Un.kept hk,⟨_,x.toInCall.ns,λi y v h1 h2 h3=>?_⟩,λy c h=>⟨_,x.cell y c h⟩,e0.hok.fresh (Nat.le_refl _),λy c h=>?_,λp hp=>absurd (show p∈([]:List (Addr×Obj)) from hp) (by simp),e0.hok.kept hk,?_⟩
 ·exact name_of_addr x.apart (PySem.mem_of_lookup h1) (PySem.mem_of_lookup h2)
 ·have hy:scope.names.lookup y=some .cell\/scope.names.lookup y=some .free:=hy
  rcases hy with hy|hy
  ·exact n5 hy
  ·exact absurd rfl (S.nofree _ (PySem.mem_of_lookup hy))
 ·exact Nat.le_of_lt (x.above y c (PySem.mem_of_lookup h))
 ·have hi:i<vs.length:=by
   unfold dg at h2
   by_cases hi:i<vs.length
   ·exact hi
   ·rw [List.getElem?_append_right (by simpa using hi)]at h2
    rw [List.getElem?_replicate]at h2
    split at h2<;>cases h2
  have ha:vs[i]?=some v:=by
   unfold dg at h2
   rw [List.getElem?_append_left (by simpa using hi),List.getElem?_map]at h2
   cases e:vs[i]? with
   |none=>rw [e]at h2;cases h2
   |some a=>rw [e]at h2;cases h2;rfl
  obtain⟨u,hu,rv⟩:=r.get ha
  have hp:ps[i]?=some y:=by
   rw [<- S.pre,List.getElem?_take_of_lt (by omega)];exact h1
  have ndP:ps.Nodup:=by rw [<- S.pre];exact S.nd.sublist (List.take_sublist _ _)
  refine⟨u,rv,?_⟩
  rcases S.par y (List.mem_of_getElem? hp) with k|k
  ·exact .inl ⟨k,l8 ndP hp hu k⟩
  ·obtain⟨c,e⟩:=n5 (n:=s.heap.objs.size+1) k
   refine .inr ⟨.inl k,c,e,?_⟩
   have q:=x.cell y c e
   rw [l9 ndP hp hu (by show scope.names.lookup y≠_;rw [k];decide)]at q
   exact q
 ·exact e0.hok.fresh (Nat.le_of_lt (x.above y c (PySem.mem_of_lookup h)))
 ·unfold dg
  show _=N.length
  rw [List.length_append,List.length_map,List.length_replicate]
  omega
theorem kj{CX:CXT}{P:Program}{w:World}{K:PySem.W.Frag}{mg:Str->Option Value}{base:Heap}{k:Nat}{f:Addr}{name qual:Str}{params:Arguments}{body:List Stmt}{scope:Scope}{dV kV doc pm cdv ct oc:Value}{an od:Option Addr}
  {osl:Array (Option Value)}{N ps:List Str}{sp:Sp} (lk:K.lookup f=some ⟨oc,od,.func (PySem.W.fnOf name qual params body scope dV kV doc pm an cdv ct),osl⟩) (hcd:PySem.W.codeIn K cdv qual=true) (S:h_ N ps scope)
  (len:∀vs H Q E,sp vs H Q E->vs.length=ps.length)
  (hbody:∀(A:Around) (outer:List Env) (s:Shared) (H:Hp) (vs:List V) (Q:VK) (E:XK),cJ k (A.deeper (envOfC qual scope s.heap.objs.size f cdv))->sp vs H Q E ->
   ∃t,PSs (ia CX P w K mg base N qual scope f cdv A outer s H E) body t/\t { nx:=λ_ H'=>Q .non H',rt:=Q } (dg N vs) H) :
  bW P w K mg base CX (k+1) f (PySem.W.fnOf name qual params body scope dV kV doc pm an cdv ct) ps sp:=by
 refine⟨len,λA outer s H args us vs Q E hr e0 hb r hsp=>?_⟩
 have hl:=len _ _ _ _ hsp
 have KX:K.In s.heap:=e0.mod.kin.keeps λb o e=>(e0.bs b o e).1
 have lim:s.heap.NoLimit:=e0.mod.nolimit.keeps λb o e=>(e0.bs b o e).1
 have hkind:∀y∈ps.zip us,scope.names.lookup y.1=some .local\/(scope.names.lookup y.1=some .cell/\((cellsFrom (s.heap.objs.size+1) scope.names []).lookup y.1).isSome=true):=λ⟨n,v⟩ hy=>by
  rcases S.par n (List.of_mem_zip hy).1 with q|q
  ·exact .inl q
  ·exact .inr ⟨q,PySem.W.cellsFrom_some _ _ _ (.inl q)⟩
 refine codeAny_call_function hr.depth (KX _ _ lk) rfl S.co S.gen rfl (PySem.W.codeRec_of KX hcd) (hb _ _ _ _ ?_)
 refine wpAny_newFunctionEnv_cells S.kind hkind λenv he s1 x=>?_
 subst he
 refine⟨lim.keeps x.toInCall.keep,codeAny_func ?_⟩
 obtain⟨t,ht,hq⟩:=hbody A outer s H vs Q E (hr.deeper _) hsp
 have I:Inv (ia CX P w K mg base N qual scope f cdv A outer s H E) [] (dg N vs) H s1:=sh S hr.hd e0 hl r x
 refine wpAny_mono (ht [] s1 (dg N vs) H _ I hq) (λfl s' hs=>?_) λe s' hs=>hs
 have fin:∀{σ':St}{H':Hp}{v:V}{u:Value},Inv (ia CX P w K mg base N qual scope f cdv A outer s H E) [] σ' H' s'->av v u->Q v H'->CE outer P w H s Q u s' :=
  λ{σ' H' v u} J rv q=>⟨v,H',J.os,J.bare,J.base,J.hok,rv,q⟩
 cases fl with
 |ret u =>
  obtain⟨v,σ',H',J,rv,q⟩:=hs
  exact fin J rv q
 |next =>
  obtain⟨σ',H',J,q⟩:=hs
  exact fin (v:=V.non) (u:=Value.none) J rfl q
 |brk =>
  obtain⟨_,_,_,q⟩:=hs
  exact False.elim q
 |cont =>
  obtain⟨_,_,_,q⟩:=hs
  exact False.elim q
end L2
namespace L2
open PySem PySem.Spec PyProof.Rows
section
variable{X:Cx}{x:Str}{p pos:Pos}{e:Expr}{es:List Expr}{t:TA}{id T:String}{r:List V->Hp->VK->Prop}
noncomputable def tCB(r:List V->Hp->VK->Prop)(t:TA):TE:=λσ H Q=>t σ H λvs H1=>r vs H1 Q
theorem ib (hc:b7 X (.builtin id) r) (hg:Gl X x) (hm:X.mg x=none) (hv:bootBuiltins x=some (.builtin id)) (ha:PA X (e::es) t) (hn:x ≠ "__name__":=by decide) (hdb:(x == ("__debug__":Str))=false:=by decide)
  (he:starEach (e::es) X.env=(false,eval e X.env)::starEach es X.env:=by rfl) (hpl:(backTo pos (starEach es X.env)).any (·.1)=false:=by rfl):PE X (.Call (.Name x p) (e::es) [] pos) (tCB r t):=by
 intro pins s σ H Q I h
 refine wpAny_Call_Name_kw (iW I hg hm hv ?_ hn hdb)
 exact PyProof.Rows.callWith_builtin1 (thn (ha pos pins s σ H _ I h) λus s1 ⟨vs,H1,I1,r1,q1⟩=>hc pins s1 σ H1 vs us Q I1 r1 q1) he hpl
theorem gm (hc:b7 X (.type T) r) (hg:Gl X x) (hm:X.mg x=none) (hv:bootBuiltins x=some (.type T)) (ha:PA X (e::es) t) (hn:x ≠ "__name__":=by decide) (hdb:(x == ("__debug__":Str))=false:=by decide)
  (he:starEach (e::es) X.env=(false,eval e X.env)::starEach es X.env:=by rfl) (hpl:(backTo pos (starEach es X.env)).any (·.1)=false:=by rfl):PE X (.Call (.Name x p) (e::es) [] pos) (tCB r t):=by
 intro pins s σ H Q I h
 refine wpAny_Call_Name_kw (iW I hg hm hv ?_ hn hdb)
 exact PyProof.Rows.callWith_type1 (thn (ha pos pins s σ H _ I h) λus s1 ⟨vs,H1,I1,r1,q1⟩=>hc pins s1 σ H1 vs us Q I1 r1 q1) he hpl
end
end L2
namespace HT
open PySem PyProof.Rows
noncomputable def lexLt:List Int->List Int->Bool
 | [],[]=>false
 | [],_::_=>true
 | _::_,[]=>false
 |x::xs,y::ys=>if x=y then lexLt xs ys else decide (x<y)
theorem lexLt_cons(x y:Int)(xs ys:List Int):lexLt (x::xs) (y::ys)=if x=y then lexLt xs ys else decide (x<y):=rfl
theorem lL:lexLt [] []=false:=rfl
theorem km(y:Int)(ys:List Int):lexLt [] (y::ys)=true:=rfl
theorem ko(x:Int)(xs:List Int):lexLt (x::xs) []=false:=rfl
theorem uq(A:Around)(s:Shared)(a:Int)(t:Tok)(c:Int)(u:Tok):∃e,SeqAt.EqAt A s (.int a t) (.int c u) e/\(e=true ↔ a=c) :=
 ⟨(a == c),SeqAt.EqAt.int_int a t c u,by simp⟩
theorem uu(A:Around)(s:Shared)(a:Int)(t:Tok)(c:Int)(u:Tok)(prog:Program)(w:World)(E:Value->Shared->Prop)(Q:Value->Shared->Prop)(h:Q (.bool (decide (a<c))) s) :
  wpAny (model prog w) A (richCompare .Lt (.int a t) (.int c u)) Q E s :=
 (PyProof.Rows.lt_int h:wpAny (model prog w) A (compareOp .Lt (.int a t) (.int c u)) Q E s)
section
open PySem.SeqAt
open PySem.AutoSeq1 (wpAny_loadPart')
open PySem.MeetsSeq PySem.MeetsSeq2 PySem.MeetsSeq3
theorem tuple_lt_ints(l b:Addr)(items items2:Array Value)(n n2:Nat)(dd dd2:Option Addr)(sl sl2:Array (Option Value))(ns ms:List Int)(hi:IntsAre items.toList ns)(hj:IntsAre items2.toList ms) :
  Meets (Builtin.«tuple.__lt__» ⟨[.ref l,.ref b],[]⟩)
   (λ_ R s=>s.heap.get? l=some { cls:=.type "tuple",dict:=dd,data:=.seq items n,slots:=sl }/\s.heap.get? b=some { cls:=.type "tuple",dict:=dd2,data:=.seq items2 n2,slots:=sl2 } /\
    R (.ok (.ret (.bool (lexLt ns ms)))) s) :=
 .of_wp λprog w A R s h=>by
  obtain⟨hp,g,d,tk,os⟩:=s;obtain⟨hl,hb,h⟩:=h
  have f2:=AutoSeq1.sub_tuple_tuple
  have z1:items.size=ns.length:=by rw [<- hi.length];simp
  have z2:items2.size=ms.length:=by rw [<- hj.length];simp
  wp_walk using wpAny_loadPart' hl,wpAny_loadPart' hb,wpAny_forIn_list _ (λci b s'=>b.1=none/\s'=⟨hp,g,d,tk,os⟩/\∃(vs ws:List Value) (ns' ms':List Int),ci=vs.zip ws /\
   IntsAre vs ns'/\IntsAre ws ms'/\ns'.length+items2.size=ms'.length+items.size/\R (.ok (.ret (.bool (lexLt ns' ms')))) ⟨hp,g,d,tk,os⟩) _
  case turn =>
   rintro ⟨y,x⟩ ci b s' ⟨hb',rfl,vs,ws,ns',ms',hz,hvi,hwi,hlen,hR⟩
   cases hvi with
   |nil=>rw [List.zip_nil_left]at hz;cases hz
   |cons a t hvi' =>
    cases hwi with
    |nil=>rw [List.zip_nil_right]at hz;cases hz
    |cons c u hwi' =>
     rw [List.zip_cons_cons]at hz
     injection hz with hyx hrest
     injection hyx with hy hx
     subst hy hx
     rw [lexLt_cons]at hR
     simp only [List.length_cons]at hlen
     obtain⟨e,he,hiff⟩:=uq A.in1 ⟨hp,g,d,tk,os⟩ a t c u
     refine wpAny_bind (he prog w _ _ ?_)
     cases e with
     |true =>
      rw [if_pos (hiff.mp rfl)]at hR
      wp_walk
      exact⟨rfl,rfl,_,_,_,_,hrest,hvi',hwi',by omega,hR⟩
     |false =>
      rw [if_neg (λq=>absurd (hiff.mpr q) Bool.false_ne_true)]at hR
      have hri:=uu A.in1 ⟨hp,g,d,tk,os⟩ a t c u prog w
      wp_walk using hri
      exact⟨_,rfl,by simpa using hR⟩
  case fin =>
   rintro ⟨b1,b2⟩ s' ⟨hb',rfl,vs,ws,ns',ms',hz,hvi,hwi,hlen,hR⟩
   simp only at hb'
   subst hb'
   have hv:lexLt ns' ms'=decide (items.size<items2.size):=by
    cases hvi with
    |nil =>
     cases hwi with
     |nil =>
      simp only [List.length_nil]at hlen
      rw [lL]
      exact(decide_eq_false (by omega)).symm
     |cons c u hw =>
      simp only [List.length_nil,List.length_cons]at hlen
      rw [km]
      exact(decide_eq_true (by omega)).symm
    |cons a t hv =>
     cases hwi with
     |nil =>
      simp only [List.length_nil,List.length_cons]at hlen
      rw [ko]
      exact(decide_eq_false (by omega)).symm
     |cons c u hw =>
      rw [List.zip_cons_cons]at hz
      cases hz
   rw [hv]at hR
   wp_walk
   exact⟨_,rfl,by simpa [Builtin.Tuple.tupleCompareSizes] using hR⟩
  case h =>
   exact⟨rfl,rfl,items.toList,items2.toList,ns,ms,rfl,hi,hj,by omega,h⟩
end
section
variable{prog:Program}{w:World}{A:Around}{E:Value->Shared->Prop}{s:Shared}
theorem lt_tupInts{l b:Addr}{items items2:Array Value}{ns ms:List Int}{Q:Value->Shared->Prop}(hl:IsTup s.heap l items)(hb:IsTup s.heap b items2)(hi:IntsAre items.toList ns)(hj:IntsAre items2.toList ms)
  (hu:A.units<cLine) (h:Q (.bool (lexLt ns ms)) s):wpAny (model prog w) A (compareOp .Lt (.ref l) (.ref b)) Q E s:=by
 obtain⟨⟨cls,dd,data,sl⟩,ho,hc,n,hd⟩:=id hl
 obtain⟨⟨cls2,dd2,data2,sl2⟩,ho2,hc2,n2,hd2⟩:=id hb
 simp only at hc hd hc2 hd2
 subst hc hd hc2 hd2
 exact richCompare_meets_room (op:=.Lt) ⟨_,ho,rfl⟩ ⟨_,ho2,rfl⟩ PySem.F.slot_tuple_lt PySem.F.entry_tuple_lt (PySem.F.args_tuple_lt_2 _ _) (tuple_lt_ints l b items items2 n n2 dd dd2 sl sl2 ns ms hi hj)
  ⟨ho,ho2,show Value.bool (lexLt ns ms)≠Value.notImplemented/\Q (.bool (lexLt ns ms)) s from⟨(λx=>nomatch x),h⟩⟩ hu
theorem cat_tup{t b:Addr}{vs ws:List Value}{Q:Value->Shared->Prop}(ht:IsTup s.heap t vs.toArray)(hb:IsTup s.heap b ws.toArray)(hv:vs≠[])
  (h1:ws=[]->Q (.ref t) s) (h2:ws≠[]->Q (.ref s.heap.objs.size) { s with heap:=s.heap.push { cls:=.type "tuple",data:=.seq (vs++ws).toArray } })
  (hsz:vs.length+ws.length<=sizeLine):wpAny (model prog w) A (binaryOp .Add (.ref t) (.ref b)) Q E s:=by
 obtain⟨⟨cls,dd,data,sl⟩,ho,hc,n,hd⟩:=id ht
 obtain⟨⟨cls2,dd2,data2,sl2⟩,ho2,hc2,n2,hd2⟩:=id hb
 simp only at hc hd hc2 hd2
 subst hc hd hc2 hd2
 have e:vs.toArray++ws.toArray=(vs++ws).toArray:=by simp
 by_cases hw:ws=[]
 ·exact concat_meets ⟨_,ho,rfl⟩ ⟨_,ho2,rfl⟩ noFill_tuple_add seq_tuple_add PySem.F.slot_tuple_add PySem.F.entry_tuple_add (PySem.F.args_tuple_add_2 _ _)
   (tuple_addW1 t b vs.toArray ws.toArray n n2 dd dd2 sl sl2 (by simpa using hv) (by simp [hw])) ⟨ho,ho2,h1 hw⟩
 ·refine concat_meets ⟨_,ho,rfl⟩ ⟨_,ho2,rfl⟩ noFill_tuple_add seq_tuple_add PySem.F.slot_tuple_add PySem.F.entry_tuple_add (PySem.F.args_tuple_add_2 _ _)
   (tuple_addW2 t b vs.toArray ws.toArray n n2 dd dd2 sl sl2 (by simpa using hv) (by simpa using hw) (by rw [List.size_toArray,List.size_toArray];exact hsz)) ⟨ho,ho2,?_⟩
  rw [e]
  exact h2 hw
noncomputable def sIx(n d:Nat):Option Int->Nat
 |none=>d
 |some v=>if v<0 then (v+(n:Int)).toNat else min v.toNat n
theorem zW(n d:Nat)(hd:d<=n)(o:Option Int):sIx n d o<=n:=by
 cases o with
 |none=>exact hd
 |some v =>
  show(if v<0 then (v+(n:Int)).toNat else min v.toNat n)<=n
  by_cases hv:v<0
  ·rw [if_pos hv];omega
  ·rw [if_neg hv];exact Nat.min_le_right _ _
theorem qF(v:Int)(n d:Nat):(if v<0 then max (v+(n:Int)) 0 else min v (n:Int))=((sIx n d (some v):Nat):Int):=by
 show(if v<0 then max (v+(n:Int)) 0 else min v (n:Int))=(((if v<0 then (v+(n:Int)).toNat else min v.toNat n):Nat):Int)
 by_cases hv:v<0
 ·simp only [if_pos hv];omega
 ·simp only [if_neg hv];omega
theorem pJ(lo hi:Option Int)(n:Nat):Builtin.Slice.sliceAdjust lo hi 1 (n:Int)=(((sIx n 0 lo:Nat):Int),((sIx n n hi:Nat):Int)):=by
 have h1:¬ ((1:Int)<0):=by omega
 unfold Builtin.Slice.sliceAdjust
 simp only [h1,if_false]
 refine Prod.ext ?_ ?_
 ·cases lo with
  |none=>rfl
  |some v=>exact qF v n 0
 ·cases hi with
  |none=>rfl
  |some v=>exact qF v n n
theorem pK(i j:Nat):Builtin.Slice.slicePlaces (i:Int) (j:Int) 1=j-i:=by
 unfold Builtin.Slice.slicePlaces
 have h1:(1:Int) > 0:=by omega
 simp only [h1,if_true,Int.ediv_one]
 split<;>omega
theorem kr{v:Value}{o:Option Int}{Q:Option Int->Shared->Prop}(p:IsPart v o)(h:Q o s):wpAny (model prog w) A (Builtin.Slice.slicePartIndex v) Q E s:=by
 cases p with
 |none=>exact slicePart_none h
 |int i t=>exact slicePart_int h
theorem eY{sl:Addr}{vl vu:Value}{lo hi:Option Int}{n:Nat}{Q:Int×Int×Nat->Shared->Prop}(hs:s.heap.IsSliceOf sl vl vu .none)(pl:IsPart vl lo)(pu:IsPart vu hi)
  (h:Q (((sIx n 0 lo:Nat):Int),1,sIx n n hi-sIx n 0 lo) s):wpAny (model prog w) A (Builtin.Slice.sliceApplied (.ref sl) (pure (n:Int))) Q E s:=by
 obtain⟨os,hos,hcs,hds⟩:=id hs
 unfold Builtin.Slice.sliceApplied Builtin.Slice.sliceFields
 refine wpAny_bind (wpAny_bind (wpAny_field hos hds (x:=vl) rfl (wpAny_bind (wpAny_field hos hds (x:=vu) rfl (wpAny_bind (wpAny_field hos hds (x:=.none) rfl (wpAny_pure ?_)))))))
 refine wpAny_bind (slicePart_none ?_)
 show wpAny _ _ (if ((1:Int) == 0)=true then _ else _) _ _ s
 rw [if_neg (by decide)]
 refine wpAny_bind (kr pl (wpAny_bind (kr pu (wpAny_bind (wpAny_pure ?_)))))
 show wpAny _ _ (match Builtin.Slice.sliceAdjust lo hi 1 (n:Int) with|(lo,hi)=>pure (lo,(1:Int),Builtin.Slice.slicePlaces lo hi 1)) _ _ s
 rw [pJ lo hi n]
 show wpAny _ _ (pure (((sIx n 0 lo:Nat):Int),(1:Int),Builtin.Slice.slicePlaces ((sIx n 0 lo:Nat):Int) ((sIx n n hi:Nat):Int) 1)) _ _ s
 rw [pK]
 exact wpAny_pure h
theorem uv(xs:Array Value)(i k:Nat):((List.range k).filterMap λ(m:Nat)=>xs[((i:Int)+(m:Int)*1).toNat]?).toArray=((xs.toList.drop i).take k).toArray:=by
 have e:(λ(m:Nat)=>xs[((i:Int)+(m:Int)*1).toNat]?)=λm=>xs[i+m]?:=by
  funext m
  have:((i:Int)+(m:Int)*1).toNat=i+m:=by omega
  rw [this]
 rw [e]
 have:=pick_run xs i k
 rw [List.filterMap_map]at this
 have e2:((λx=>xs[x]?) ∘ λx=>i+x)=λm=>xs[i+m]?:=rfl
 rw [e2]at this
 rw [this]
theorem getItem_tuple_cut{t sl:Addr}{items:Array Value}{vl vu:Value}{lo hi:Option Int}{Q:Value->Shared->Prop}(ht:IsTup s.heap t items)(hs:s.heap.IsSliceOf sl vl vu .none)(pl:IsPart vl lo)(pu:IsPart vu hi)
  (hw:¬ (sIx items.size 0 lo=0/\sIx items.size items.size hi=items.size))
  (h:Q (.ref s.heap.objs.size) { s with heap:=s.heap.push { cls:=.type "tuple",data:=.seq ((items.toList.drop (sIx items.size 0 lo)).take (sIx items.size items.size hi-sIx items.size 0 lo)).toArray } })
  (hsz:items.size<=sizeLine):wpAny (model prog w) A (getItem (.ref t) (.ref sl)) Q E s:=by
 have htake:sizeOk (.seq ((items.toList.drop (sIx items.size 0 lo)).take (sIx items.size items.size hi-sIx items.size 0 lo)).toArray):=by
  show((items.toList.drop (sIx items.size 0 lo)).take (sIx items.size items.size hi-sIx items.size 0 lo)).toArray.size<=sizeLine
  rw [List.size_toArray,List.length_take,List.length_drop,Array.length_toList]
  omega
 have hj:sIx items.size items.size hi<=items.size:=zW _ _ (Nat.le_refl _) hi
 obtain⟨os,hos,hcs,hds⟩:=id hs
 have hTs:s.TypeIs (.ref sl) "slice":=⟨os,hos,hcs⟩
 unfold getItem
 try with_reducible refine wpAny_holding ?_
 first|refine wpAny_bind (wpAny_pure ?_)|skip
 refine wpAny_bind (wpAny_sequenceKey ht.typeIs (by decide) ?_)
 refine wpAny_bind (wpAny_callSpecial?_slot (name:=Str.ofString "__getitem__") ht.typeIs PyProof.Rows.slot_tuple_getitem
  (wpAny_call_entry PyProof.Rows.slot_tuple_getitem ht.typeIs entry_tuple_getitem ?_ (args_tuple_getitem _ _)))
 show wpAny _ _ (Builtin.Tuple.tupleItemsOf (.ref t) >>= _) _ _ s
 refine wpAny_bind (tupleItemsOf_ ht ?_)
 refine wpAny_bind (wpAny_typeOf hTs ?_)
 rw [if_pos (by decide)]
 refine wpAny_bind (eY hs pl pu ?_)
 have hno:¬ ((((sIx items.size 0 lo:Nat):Int) == 0&&(1:Int) == 1&&(sIx items.size items.size hi-sIx items.size 0 lo) == items.size)=true):=by
  intro q
  rw [Bool.and_eq_true,Bool.and_eq_true]at q
  have q1:((sIx items.size 0 lo:Nat):Int)=0:=eq_of_beq q.1.1
  have q2:sIx items.size items.size hi-sIx items.size 0 lo=items.size:=eq_of_beq q.2
  exact hw ⟨by omega,by omega⟩
 show wpAny _ _ (if (((sIx items.size 0 lo:Nat):Int) == 0&&(1:Int) == 1&&(sIx items.size items.size hi-sIx items.size 0 lo) == items.size)=true then _ else _) _ _ s
 rw [if_neg hno,uv]
 first
  | exact wpAny_bind (m:=Builtin.Tuple.tupleExact _) (wpAny_newObj_type (wpAny_pure ⟨_,rfl,wpAny_pure h⟩) htake)
  | exact wpAny_bind (m:=Builtin.Tuple.tupleExact _) (wpAny_newObj_type (wpAny_bind (wpAny_pure (wpAny_pure ⟨_,rfl,wpAny_pure h⟩))) htake)
  | exact wpAny_bind (wpAny_bind (m:=Builtin.Tuple.tupleExact _) (wpAny_newObj_type (wpAny_pure (wpAny_pure ⟨_,rfl,wpAny_pure h⟩)) htake))
  | exact wpAny_bind (wpAny_bind (m:=Builtin.Tuple.tupleExact _) (wpAny_newObj_type (wpAny_pure ⟨_,rfl,wpAny_pure h⟩) htake))
end
end HT
namespace L2
open PySem PySem.Spec PyProof.Rows
noncomputable abbrev TO:=St->Hp->(Option Int->Hp->Prop)->Prop
noncomputable def PO(X:Cx)(e:Option Expr)(t:TO):Prop :=
 ∀(pins:List (Addr×Obj)) (s:Shared) (σ:St) (H:Hp) (Q:Option Int->Hp->Prop),Inv X pins σ H s->t σ H Q ->
  wpAny (model X.prog X.w) X.A (evalPart e X.env) (λu s'=>∃o H',Inv X pins σ H' s'/\IsPart u o/\Q o H') X.xe s
noncomputable def xv:TO:=λ_ H Q=>Q none H
noncomputable def Cn(t:TE):TO:=λσ H Q=>t σ H λx H1=>∃i,x=.int i/\Q (some i) H1
theorem dJ{ns:List Int}:∀{us:List Value},aw (ns.map V.int) us->IntsAre us ns:=by
 induction ns with
 |nil=>intro us r;rw [List.map_nil]at r;cases r;exact .nil
 |cons n ns ih =>
  intro us r
  rw [List.map_cons]at r
  cases r with
  |cons r1 r2 =>
   obtain⟨t,e⟩:=r1
   subst e
   exact .cons n t (ih r2)
section
variable{X:Cx}{e:Expr}{te:TE}{lo hi:Option Expr}{tl th:TO}{pos p2:Pos}
theorem xw:PO X none xv:=by
 intro pins s σ H Q I h
 rw [evalPart_none]
 exact wpAny_pure ⟨none,H,I,.none,h⟩
theorem xx(h:PE X e te):PO X (some e) (Cn te):=by
 intro pins s σ H Q I hw
 rw [evalPart_some]
 refine thn (h pins s σ H _ I hw) λu s1 ⟨x,H1,I1,r1,q1⟩=>?_
 obtain⟨i,rfl,q⟩:=q1
 obtain⟨t,rfl⟩:=r1
 exact⟨some i,H1,I1,.int i t,q⟩
noncomputable def SlR(X:Cx)(r:V->Option Int->Option Int->Hp->VK->Prop):Prop :=
 ∀(pins:List (Addr×Obj)) (s:Shared) (σ:St) (H:Hp) (x:V) (v vl vu:Value) (lo hi:Option Int) (sl:Addr) (Q:VK),Inv X pins σ H s->av x v->s.heap.IsSliceOf sl vl vu .none->IsPart vl lo->IsPart vu hi->r x lo hi H Q ->
  ∃T id,typeLookup (.type T) "__getitem__"=pure (some (.builtin id))/\s.TypeIs v T/\wpAny (model X.prog X.w) X.A (getItem v (.ref sl)) (EP X pins σ Q) X.xe s
noncomputable def tSl(r:V->Option Int->Option Int->Hp->VK->Prop)(te:TE)(tl th:TO):TE:=λσ H Q=>te σ H λx H1=>tl σ H1 λl H2=>th σ H2 λu H3=>r x l u H3 Q
theorem uA{r:V->Option Int->Option Int->Hp->VK->Prop}(hr:SlR X r)(he:PE X e te)(hl:PO X lo tl)(hu:PO X hi th):PE X (.Subscript e (.Slice lo hi none p2) pos) (tSl r te tl th):=by
 intro pins s σ H Q I h
 refine Subscript_ (thn (he pins s σ H _ I h) λv s1 ⟨x,H1,I1,r1,q1⟩=>?_)
 refine wpAny_Slice (thn (hl pins s1 σ H1 _ I1 q1) λvl s2 ⟨l,H2,I2,pl,q2⟩=>thn (hu pins s2 σ H2 _ I2 q2) λvu s3 ⟨u,H3,I3,pu,q3⟩=>?_)
 rw [evalPart_none]
 refine wpAny_pure ?_
 have I4:Inv X pins σ H3 { s3 with heap:=s3.heap.push { cls:=.type "slice",data:=.fields #[vl,vu,.none] } }:=I3.kept (t':=s3.toks) λb ob q=>Heap.get?_push_of_some _ q
 obtain⟨T,id,hT,ht,hg⟩:=hr pins { s3 with heap:=s3.heap.push { cls:=.type "slice",data:=.fields #[vl,vu,.none] } } σ H3 x v vl vu l u s3.heap.objs.size Q I4 r1 (Heap.IsSliceOf.new ..) pl pu q3
 show wpAny (model X.prog X.w) X.A (subscriptTail e (.Slice lo hi none p2) v (.ref s3.heap.objs.size)) (EP X pins σ Q) X.xe { s3 with heap:=s3.heap.push { cls:=.type "slice",data:=.fields #[vl,vu,.none] } }
 exact tail_any (ops:=[.ref s3.heap.objs.size,v]) ht hT hg (by with_unfolding_all rfl)
noncomputable def n6(xs:List V)(lo hi:Option Int):List V:=(xs.drop (HT.sIx xs.length 0 lo)).take (HT.sIx xs.length xs.length hi-HT.sIx xs.length 0 lo)
theorem jz(xs:List V)(lo hi:Option Int):(n6 xs lo hi).length<=xs.length:=by
 unfold n6
 rw [List.length_take,List.length_drop]
 omega
noncomputable def Ew(K:PySem.W.Frag):V->Option Int->Option Int->Hp->VK->Prop:=λx lo hi H Q=>∃a xs,x=.ref a/\SqT K H a xs /\
 ¬ (HT.sIx xs.length 0 lo=0/\HT.sIx xs.length xs.length hi=xs.length)/\∀p,H p=none->Q (.ref p) (upd H p (.tup (n6 xs lo hi)))
theorem zX:SlR X (Ew X.K):=by
 intro pins s σ H x v vl vu lo hi sl Q I rx hs pl pu h
 obtain⟨a,xs,rfl,hx,hw,q⟩:=h
 cases rx
 obtain⟨its,r,ht,hz⟩:=I.tuple hx
 have hlen:its.toArray.size=xs.length:=by rw [List.size_toArray];exact r.length.symm
 refine⟨"tuple",_,PyProof.Rows.slot_tuple_getitem.lookup,ht.typeIs,?_⟩
 refine HT.getItem_tuple_cut ht hs pl pu (by rw [hlen];exact hw) ?_ (by rw [hlen];exact hz)
 rw [hlen]
 refine⟨.ref s.heap.objs.size,_,I.laid (t':=s.toks) (o:=.tup (n6 xs lo hi)) (λb ob q=>Heap.get?_push_of_some _ q) (Nat.le_refl _) ?_,rfl,q _ (I.hok.fresh (Nat.le_refl _))⟩
 exact⟨Nat.le_trans (jz xs lo hi) hz,_,(r.drop (HT.sIx xs.length 0 lo)).take (HT.sIx xs.length xs.length hi-HT.sIx xs.length 0 lo),IsTup.new _ _⟩
noncomputable def Co(K:PySem.W.Frag):R2:=λx y H Q=>∃a b xs ys,x=.ref a/\y=.ref b/\SqT K H a xs/\SqT K H b ys/\xs≠[]/\xs.length+ys.length<=sizeLine /\
 (ys=[]->Q (.ref a) H)/\(ys≠[]->∀p,H p=none->Q (.ref p) (upd H p (.tup (xs++ys))))
theorem aw.nil_iff{xs:List V}{us:List Value}(r:aw xs us):us=[] ↔ xs=[]:=by
 cases r with
 |nil=>simp
 |cons _ _=>simp
theorem xy:OpR X (binaryOp .Add) (Co X.K):=by
 intro pins s σ H x y v u Q I rx ry h
 obtain⟨a,b,xs,ys,rfl,rfl,ha,hb,hx,hz,q1,q2⟩:=h
 cases rx
 cases ry
 obtain⟨its,r1,p1,_⟩:=I.tuple ha
 obtain⟨its2,r2,p2,_⟩:=I.tuple hb
 refine HT.cat_tup p1 p2 (λz=>hx (r1.nil_iff.mp z)) (λz=>⟨.ref a,H,I,rfl,q1 (r2.nil_iff.mp z)⟩) (λz=>?_) (by rw [<- r1.length,<- r2.length];exact hz)
 refine⟨.ref s.heap.objs.size,_,I.laid (t':=s.toks) (o:=.tup (xs++ys)) (λb ob q=>Heap.get?_push_of_some _ q) (Nat.le_refl _) ?_,rfl,q2 (λw=>z (r2.nil_iff.mpr w)) _ (I.hok.fresh (Nat.le_refl _))⟩
 exact⟨by rw [List.length_append];exact hz,_,r1.append r2,IsTup.new _ _⟩
end
end L2
namespace L2
open PySem PySem.Spec PyProof.Rows
noncomputable def ixN(n:Nat)(i:Int):Option Nat:=if 0<=i then (if i<n then some i.toNat else none) else if -(n:Int)<=i then some (i+n).toNat else none
noncomputable def atI{α:Type}(xs:List α)(i:Int):Option α:=(ixN xs.length i).bind λj=>xs[j]?
theorem qG{n:Nat}{i:Int}{j:Nat}(h:ixN n i=some j):seqIndex? i n=some j/\j<n/\-(n:Int)<=i/\i<n:=by
 unfold ixN at h
 by_cases h0:0<=i
 ·rw [if_pos h0]at h
  by_cases h1:i<n
  ·rw [if_pos h1]at h
   have e:i.toNat=j:=Option.some.inj h
   exact⟨by rw [seqIndex_of h0 h1,e],by omega,by omega,h1⟩
  ·rw [if_neg h1]at h;cases h
 ·rw [if_neg h0]at h
  by_cases h1:-(n:Int)<=i
  ·rw [if_pos h1]at h
   have e:(i+n).toNat=j:=Option.some.inj h
   exact⟨by rw [seqIndex_neg (by omega) h1,e],by omega,h1,by omega⟩
  ·rw [if_neg h1]at h;cases h
theorem m3{α:Type}{xs:List α}{i:Int}{v:α}(h:atI xs i=some v):∃j,seqIndex? i xs.length=some j/\xs[j]?=some v/\j<xs.length/\-(xs.length:Int)<=i/\i<xs.length:=by
 unfold atI at h
 cases e:ixN xs.length i with
 |none=>rw [e]at h;cases h
 |some j =>
  rw [e]at h
  obtain⟨h1,h2,h3,h4⟩:=qG e
  exact⟨j,h1,h,h2,h3,h4⟩
noncomputable def qH(b:Expr):Prop:=∀o i,subscripted b false o i=operate [o,i] (getItem o i)
noncomputable def IxR(X:Cx)(r:R2):Prop :=
 ∀(value slice:Expr) (pins:List (Addr×Obj)) (s:Shared) (σ:St) (H:Hp) (x y:V) (v u:Value) (Q:VK),Inv X pins σ H s->av x v->av y u->r x y H Q ->
  subscripted slice false v u=operate [v,u] (getItem v u)->wpAny (model X.prog X.w) X.A (subscriptTail value slice v u) (EP X pins σ Q) X.xe s
noncomputable def MtR(X:Cx)(id:String)(r:V->List V->Hp->VK->Prop):Prop :=
 ∀(pins:List (Addr×Obj)) (s:Shared) (σ:St) (H:Hp) (x:V) (xs:List V) (v:Value) (us:List Value) (Q:VK),Inv X pins σ H s->av x v->aw xs us->r x xs H Q ->
  wpAny (model X.prog X.w) X.A (call (.builtin id) (v::us)) (EP X pins σ Q) X.xe s
section
variable{X:Cx}{a b:Expr}{ta tb:TE}{pos:Pos}
theorem IxR.or{r r':R2}(h:IxR X r)(h':IxR X r'):IxR X (λx y H Q=>r x y H Q\/r' x y H Q):=by
 intro value slice pins s σ H x y v u Q I rx ry q hs
 rcases q with q|q
 ·exact h value slice pins s σ H x y v u Q I rx ry q hs
 ·exact h' value slice pins s σ H x y v u Q I rx ry q hs
theorem jA{r:R2}(hr:IxR X r)(ha:PE X a ta)(hb:PE X b tb)(hs:qH b):PE X (.Subscript a b pos) (tOp r ta tb):=by
 intro pins s σ H Q I h
 exact Subscript_ (zL ha hb I h λv u s2 x y H2 I2 rx ry q=>hr a b pins s2 σ H2 x y v u Q I2 rx ry q (hs _ _))
noncomputable def kz(K:PySem.W.Frag):R2:=λx y H Q=>∃p xs i v,x=.ref p/\y=.int i/\SqL K H p xs/\atI xs i=some v/\Q v H
noncomputable def Cq(K:PySem.W.Frag):R2:=λx y H Q=>∃p xs i v,x=.ref p/\y=.int i/\SqT K H p xs/\atI xs i=some v/\Q v H
noncomputable def Cr:R2:=λx y H Q=>∃z i c,x=.str z/\y=.int i/\z.length<=sizeLine/\atI z.cps.toList i=some c/\Q (.str ⟨#[c]⟩) H
theorem gn:IxR X (kz X.K):=by
 intro value slice pins s σ H x y v u Q I rx ry h hs
 obtain⟨p,xs,i,z,rfl,rfl,hq,he,q⟩:=h
 cases rx
 obtain⟨t,rfl⟩:=ry
 obtain⟨its,r,pl,hz⟩:=I.list hq
 obtain⟨j,h1,h2,h3,h4,h5⟩:=m3 he
 obtain⟨w,ew,rw'⟩:=r.get h2
 have hl:=r.length
 have hn:=iZ
 have fin:EP X pins σ Q w s:=⟨z,H,I,rw',q⟩
 by_cases h0:0<=i
 ·have hj:i.toNat=j:=by
   rw [seqIndex_of h0 h5]at h1
   exact Option.some.inj h1
  exact item_listR pl.isList h0 (by omega) (by rw [hj];simpa using ew) fin hs
 ·have hj:(i+(its.toArray.size:Int)).toNat=j:=by
   rw [seqIndex_neg (by omega) h4]at h1
   rw [List.size_toArray,<- hl]
   exact Option.some.inj h1
  exact subscriptTail_builtinR (x:=w) pl.isList.typeIs slot_list_getitem.lookup
   (wpAny_getItem_list_neg (Q:=λr s'=>r=w/\EP X pins σ Q r s') pl.isList (by omega) (by rw [List.size_toArray]<;>omega) (by omega) (by rw [hj];simpa using ew) ⟨rfl,fin⟩) hs
theorem pL:IxR X (Cq X.K):=by
 intro value slice pins s σ H x y v u Q I rx ry h hs
 obtain⟨p,xs,i,z,rfl,rfl,hq,he,q⟩:=h
 cases rx
 obtain⟨t,rfl⟩:=ry
 obtain⟨its,r,pl,hz⟩:=I.tuple hq
 obtain⟨j,h1,h2,h3,h4,h5⟩:=m3 he
 obtain⟨w,ew,rw'⟩:=r.get h2
 have hl:=r.length
 have hn:=iZ
 have fin:EP X pins σ Q w s:=⟨z,H,I,rw',q⟩
 exact subscriptTail_builtinR (x:=w) pl.typeIs slot_tuple_getitem.lookup
  (getItem_tuple (j:=j) (Q:=λr s'=>r=w/\EP X pins σ Q r s') pl (by omega) (by omega) (by rw [List.size_toArray,<- hl];exact h1) (by simpa using ew) ⟨rfl,fin⟩) hs
theorem zY:IxR X Cr:=by
 intro value slice pins s σ H x y v u Q I rx ry h hs
 obtain⟨z,i,c,rfl,rfl,hz,he,q⟩:=h
 obtain⟨t,rfl⟩:=rx
 obtain⟨t',rfl⟩:=ry
 obtain⟨j,h1,h2,h3,h4,h5⟩:=m3 he
 have hl:z.cps.toList.length=z.length:=by simp [Str.length]
 rw [hl]at h1 h4 h5
 have hn:=iZ
 exact tail_any (typeIs_str s z t) slot_str_getitem.lookup (getItem_str (c:=c) (by
  have e1:decide (i < -(2 ^ 63:Int))=false:=decide_eq_false (by omega)
  have e2:decide (i>=2 ^ 63)=false:=decide_eq_false (by omega)
  rw [e1,e2,Bool.or_false]) (by rw [h1];simpa using h2) ⟨.str ⟨#[c]⟩,H,I.tok _,⟨_,rfl⟩,q⟩) hs
noncomputable def rIx(K:PySem.W.Frag):R2:=λx y H Q=>kz K x y H Q\/Cq K x y H Q\/Cr x y H Q
theorem uB:IxR X (rIx X.K):=gn.or (pL.or zY)
theorem pM (its:List Value) (n j:Nat) (u:Value):Obj.mapSeq (·.setIfInBounds j u) { cls:=.type "list",data:=.seq its.toArray n }={ cls:=.type "list",data:=.seq (its.set j u).toArray n }:=by
 simp [Obj.mapSeq]
theorem Inv.lst{pins:List (Addr×Obj)}{σ:St}{H:Hp}{s:Shared}{p:Addr}{xs:List V}(I:Inv X pins σ H s)(h:H p=some (.lst xs)) :
  ∃(its:List Value) (n:Nat),aw xs its/\s.heap.get? p=some { cls:=.type "list",data:=.seq its.toArray n }/\xs.length<=sizeLine:=by
 obtain⟨z,its,n,r,e⟩:=I.hok p _ h
 exact⟨its,n,r,e,z⟩
theorem Inv.lstUpd{pins:List (Addr×Obj)}{σ:St}{H:Hp}{s:Shared}{p:Addr}{xs ys:List V}{its its':List Value}{n n':Nat}{f:Obj->Obj}(I:Inv X pins σ H s)(h:H p=some (.lst xs))
  (ho:s.heap.get? p=some { cls:=.type "list",data:=.seq its.toArray n }) (hf:f { cls:=.type "list",data:=.seq its.toArray n }={ cls:=.type "list",data:=.seq its'.toArray n' }) (r:aw ys its') (hz:ys.length<=sizeLine) (t:Nat) :
  Inv X pins σ (upd H p (.lst ys)) { s with heap:=s.heap.update p f,toks:=t }:=by
 have e:(s.heap.update p f).get? p=some { cls:=.type "list",data:=.seq its'.toArray n' }:=by
  rw [Heap.get?_update_self f ho (by rw [hf]<;>rfl),hf]
 refine I.write (x:=p) (e:=p) (by rw [h];trivial) (.inl rfl) (λb u hb q=>(Heap.get?_update_other _ _ (Ne.symm hb)).trans q) ⟨_,e⟩ ?_
 exact⟨hz,its',n',r,e⟩
noncomputable def uC:V->V->V->Hp->(Hp->Prop)->Prop:=λo i v H Q=>∃p xs k j,o=.ref p/\i=.int k/\H p=some (.lst xs)/\ixN xs.length k=some j/\Q (upd H p (.lst (xs.set j v)))
theorem set_list:Cb X uC:=by
 intro pins s σ H o i v ov iv u Q I ro ri rv h
 obtain⟨p,xs,k,j,rfl,rfl,hp,hj,q⟩:=h
 cases ro
 obtain⟨t,rfl⟩:=ri
 obtain⟨its,n,r,ho,hz⟩:=I.lst hp
 obtain⟨h1,h2,h3,h4⟩:=qG hj
 have hl:=r.length
 have hn:=iZ
 have I':Inv X pins σ (upd H p (.lst (xs.set j v))) { s with heap:=s.heap.update p (Obj.mapSeq (·.setIfInBounds j u)) } :=
  I.lstUpd hp ho (pM its n j u) (r.set rv j) (by rw [List.length_set];exact hz) s.toks
 by_cases h0:0<=k
 ·have hk:k.toNat=j:=by
   rw [seqIndex_of h0 h4]at h1
   exact Option.some.inj h1
  exact PySem.W.ki_setAt ho h0 (by omega) (by rw [List.size_toArray,<- hl];exact h4) (by rw [hk];exact⟨_,I',q⟩)
 ·have hk:(k+(its.toArray.size:Int)).toNat=j:=by
   rw [seqIndex_neg (by omega) h3]at h1
   rw [List.size_toArray,<- hl]
   exact Option.some.inj h1
  exact PySem.W.ki_setBack ho (by omega) (by rw [List.size_toArray,<- hl];exact h3) (by omega) (by rw [hk];exact⟨_,I',q⟩)
theorem m4(lo hi:Option Int)(n:Nat):(sliceBounds lo hi none n).1=((HT.sIx n 0 lo:Nat):Int)/\(sliceBounds lo hi none n).2.1=((HT.sIx n n hi:Nat):Int)/\(sliceBounds lo hi none n).2.2=1:=by
 refine⟨?_,?_,rfl⟩
 ·cases lo with
  |none=>simp [sliceBounds,HT.sIx]
  |some i =>
   simp only [sliceBounds,HT.sIx,Option.getD_none,show(1:Int) > 0 by decide,if_true]
   by_cases h:i<0
   ·simp only [h,if_true]<;>omega
   ·simp only [h,if_false]<;>omega
 ·cases hi with
  |none=>simp [sliceBounds,HT.sIx]
  |some i =>
   simp only [sliceBounds,HT.sIx,Option.getD_none,show(1:Int) > 0 by decide,if_true]
   by_cases h:i<0
   ·simp only [h,if_true]<;>omega
   ·simp only [h,if_false]<;>omega
theorem lM(its:List Value)(lo hi:Option Int):slicePick its.toArray lo hi none=((its.drop (HT.sIx its.length 0 lo)).take (HT.sIx its.length its.length hi-HT.sIx its.length 0 lo)).toArray:=by
 obtain⟨h1,h2,h3⟩:=m4 lo hi its.toArray.size
 unfold slicePick
 rw [h1,h2,h3]
 simp only [sliceRange_one,pick_run,List.size_toArray]<;>rfl
noncomputable def Ex(K:PySem.W.Frag):V->Option Int->Option Int->Hp->VK->Prop:=λx lo hi H Q=>∃a xs,x=.ref a/\SqL K H a xs/\∀p,H p=none->Q (.ref p) (upd H p (.lst (n6 xs lo hi)))
theorem xz:SlR X (Ex X.K):=by
 intro pins s σ H x v vl vu lo hi sl Q I rx hs pl pu h
 obtain⟨a,xs,rfl,hx,q⟩:=h
 cases rx
 obtain⟨its,r,ht,hz⟩:=I.list hx
 have hlen:=r.length
 refine⟨"list",_,slot_list_getitem.lookup,ht.isList.typeIs,?_⟩
 refine wpAny_getItem_list_slice ht.isList hs pl pu .none (by simp) ?_ (by rw [List.size_toArray]<;>omega)
 rw [lM,<- hlen]
 refine⟨.ref s.heap.objs.size,_,I.laid (t':=s.toks) (o:=.lst (n6 xs lo hi)) (λb ob q=>Heap.get?_push_of_some _ q) (Nat.le_refl _) ?_,rfl,q _ (I.hok.fresh (Nat.le_refl _))⟩
 exact⟨Nat.le_trans (jz xs lo hi) hz,_,0,(r.drop (HT.sIx xs.length 0 lo)).take (HT.sIx xs.length xs.length hi-HT.sIx xs.length 0 lo),Heap.get?_push_size _ rfl⟩
noncomputable def fU:V->Bool
 | .non=>true
 | .bl _=>true
 | .int _=>true
 | .str _=>true
 | _=>false
noncomputable def eqV:V->V->Bool
 | .non,.non=>true
 | .bl a,.bl b=>a == b
 | .bl a,.int b=>(if a then 1 else 0) == b
 | .int a,.bl b=>a == (if b then 1 else 0)
 | .int a,.int b=>a == b
 | .str a,.str b=>a == b
 | _,_=>false
theorem uD{A:Around}{s:Shared}{y x:V}{u v:Value}(ry:av y u)(rx:av x v)(fy:fU y=true)(fx:fU x=true):SeqAt.EqAt A s u v (eqV y x):=by
 cases y with
 |non =>
  cases ry
  cases x with
  |non=>cases rx;exact SeqAt.EqAt.same _
  |bl b=>cases rx;exact SeqAt.EqAt.none_bool b
  |int b=>obtain⟨t,rfl⟩:=rx;exact SeqAt.EqAt.none_int b t
  |str b=>obtain⟨t,rfl⟩:=rx;exact SeqAt.EqAt.none_str b t
  | _=>exact absurd (show false=true from fx) Bool.false_ne_true
 |bl a =>
  cases ry
  cases x with
  |non=>cases rx;exact SeqAt.EqAt.bool_none a
  |bl b=>cases rx;exact SeqAt.EqAt.bool_bool a b
  |int b=>obtain⟨t,rfl⟩:=rx;exact SeqAt.EqAt.bool_int a b t
  |str b=>obtain⟨t,rfl⟩:=rx;exact SeqAt.EqAt.bool_str a b t
  | _=>exact absurd (show false=true from fx) Bool.false_ne_true
 |int a =>
  obtain⟨t',rfl⟩:=ry
  cases x with
  |non=>cases rx;exact SeqAt.EqAt.int_none a t'
  |bl b=>cases rx;exact SeqAt.EqAt.int_bool a t' b
  |int b=>obtain⟨t,rfl⟩:=rx;exact SeqAt.EqAt.int_int a t' b t
  |str b=>obtain⟨t,rfl⟩:=rx;exact SeqAt.EqAt.int_str a t' b t
  | _=>exact absurd (show false=true from fx) Bool.false_ne_true
 |str a =>
  obtain⟨t',rfl⟩:=ry
  cases x with
  |non=>cases rx;exact SeqAt.EqAt.str_none a t'
  |bl b=>cases rx;exact SeqAt.EqAt.str_bool a t' b
  |int b=>obtain⟨t,rfl⟩:=rx;exact SeqAt.EqAt.str_int a t' b t
  |str b=>obtain⟨t,rfl⟩:=rx;exact SeqAt.EqAt.str_str a t' b t
  | _=>exact absurd (show false=true from fx) Bool.false_ne_true
 | _=>exact absurd (show false=true from fy) Bool.false_ne_true
theorem ic:b7 X (.builtin "len") (λxs H Q=>∃p ys,xs=[.ref p]/\(SqL X.K H p ys\/SqT X.K H p ys)/\Q (.int ys.length) H):=by
 intro pins s σ H xs us Q I r h
 obtain⟨p,ys,rfl,hq,q⟩:=h
 obtain⟨u,rfl,rx⟩:=hZ r
 cases rx
 have hn:=iZ
 rcases hq with hq|hq
 ·obtain⟨its,r',pl,hz⟩:=I.list hq
  have hlen:=r'.length
  exact Calls.call_len_list pl.isList (by simp only [List.size_toArray]<;>omega) ⟨.int ys.length,H,I.tok _,⟨s.toks+1,by rw [List.size_toArray,hlen]⟩,q⟩
 ·obtain⟨its,r',pl,hz⟩:=I.tuple hq
  have hlen:=r'.length
  exact len_tuple pl (by simp only [List.size_toArray]<;>omega) ⟨.int ys.length,H,I.tok _,⟨s.toks+1,by rw [List.size_toArray,hlen]⟩,q⟩
theorem ie:b7 X (.type "list") (λxs H Q=>∃p ys,xs=[.ref p]/\(SqL X.K H p ys\/SqT X.K H p ys)/\∀l,H l=none->Q (.ref l) (upd H l (.lst ys))):=by
 intro pins s σ H xs us Q I r h
 obtain⟨p,ys,rfl,hq,q⟩:=h
 obtain⟨u,rfl,rx⟩:=hZ r
 cases rx
 have fin:∀(its:List Value),aw ys its->ys.length<=sizeLine->∀(h':Heap) (c':Nat),(∀b o',s.heap.get? b=some o'->h'.get? b=some o') ->
   h'.get? s.heap.objs.size=some { cls:=.type "list",dict:=none,data:=.seq its.toArray c',slots:=#[] }->EP X pins σ Q (.ref s.heap.objs.size) { s with heap:=h' }:=λits r' hz h' c' kp e =>
  ⟨.ref s.heap.objs.size,_,I.laid (t':=s.toks) kp (Nat.le_refl _) (show bw X.prog X.w _ h' _ (.lst ys) from⟨hz,its,c',r',e⟩),rfl,q _ (I.hok.fresh (Nat.le_refl _))⟩
 rcases hq with hq|hq
 ·obtain⟨its,r',pl,hz⟩:=I.list hq
  have hlen:=r'.length
  obtain⟨o,ho,hc,n,hd⟩:=pl.isList
  exact call_list_seq p (.inl rfl) ho hc hd (λh' c' kp e=>fin its r' hz h' c' kp e) (by simp only [List.size_toArray]<;>omega)
 ·obtain⟨its,r',pl,hz⟩:=I.tuple hq
  have hlen:=r'.length
  obtain⟨o,ho,hc,n,hd⟩:=pl
  exact call_list_seq p (.inr rfl) ho hc hd (λh' c' kp e=>fin its r' hz h' c' kp e) (by simp only [List.size_toArray]<;>omega)
theorem gE:b7 X (.type "tuple") (λxs H Q=>∃p ys,xs=[.ref p]/\((SqL X.K H p ys/\∀l,H l=none->Q (.ref l) (upd H l (.tup ys)))\/(SqT X.K H p ys/\Q (.ref p) H))):=by
 intro pins s σ H xs us Q I r h
 obtain⟨p,ys,rfl,h⟩:=h
 obtain⟨u,rfl,rx⟩:=hZ r
 cases rx
 rcases h with ⟨hq,q⟩|⟨hq,q⟩
 ·obtain⟨its,r',pl,hz⟩:=I.list hq
  have hlen:=r'.length
  refine call_tuple_list pl.isList (λh' kp=>?_) (by simp only [List.size_toArray]<;>omega)
  have I1:Inv X pins σ H { s with heap:=h' }:=I.kept (t':=s.toks) kp
  have I2:Inv X pins σ (upd H h'.objs.size (.tup ys)) { s with heap:=h'.push { cls:=.type "tuple",data:=.seq its.toArray } } :=
   I1.laid (t':=s.toks) (λb o e=>Heap.get?_push_of_some _ e) (Nat.le_refl _) (show bw X.prog X.w _ _ _ (.tup ys) from⟨hz,its,r',IsTup.new _ _⟩)
  exact⟨.ref h'.objs.size,_,I2,rfl,q _ (I1.hok.fresh (Nat.le_refl _))⟩
 ·obtain⟨its,r',pl,hz⟩:=I.tuple hq
  exact call_tuple_same pl ⟨.ref p,H,I,rfl,q⟩
noncomputable def tyV(K:PySem.W.Frag)(T:String)(x:V)(H:Hp):Prop:=match x with
 | .str _=>T="str"
 | .int _=>T="int"
 | .ref p=>(T="list"/\∃xs,SqL K H p xs)\/(T="tuple"/\∃o,K.lookup p=some o/\o.cls=.type "tuple"/\o.dict=none) \/
   (T="dict"/\((∃kvs,H p=some (.dK kvs))\/∃kvs,H p=some (.dT kvs)))\/(T="set"/\∃S n,H p=some (.set S n))
 | _=>False
theorem zZ{pins:List (Addr×Obj)}{σ:St}{H:Hp}{s:Shared}{T:String}{x:V}{v:Value}(I:Inv X pins σ H s)(r:av x v)(ty:tyV X.K T x H) :
  s.TypeIs v T/\∀a,v=.ref a->∃ob,s.heap.get? a=some ob/\ob.dict=none:=by
 cases x with
 |str z =>
  obtain⟨t,rfl⟩:=r
  cases (show T="str" from ty)
  exact⟨typeIs_str s z t,λ_ e=>nomatch e⟩
 |int i =>
  obtain⟨t,rfl⟩:=r
  cases (show T="int" from ty)
  exact⟨typeIs_int s i t,λ_ e=>nomatch e⟩
 |ref p =>
  cases r
  rcases ty with ⟨rfl,xs,hq⟩|⟨rfl,o,hk,hc,hd⟩|⟨rfl,hk⟩|⟨rfl,S,n,hk⟩
  ·obtain⟨its,_,pl,_⟩:=I.list hq
   refine⟨pl.isList.typeIs,λa e=>?_⟩
   cases e
   obtain⟨o,n,e,c,hd,_⟩:=pl
   exact⟨o,e,hd⟩
  ·refine⟨⟨o,I.kIn p o hk,hc⟩,λa e=>?_⟩
   cases e
   exact⟨o,I.kIn _ o hk,hd⟩
  ·have z:∃o,s.heap.get? p=some o/\o.ExactDict:=by
    rcases hk with ⟨kvs,hk⟩|⟨kvs,hk⟩
    ·obtain⟨_,_,_,_,o,_,_,e,ex,_⟩:=I.hok p _ hk
     exact⟨o,e,ex⟩
    ·obtain⟨_,_,_,_,o,_,_,e,ex,_⟩:=I.hok p _ hk
     exact⟨o,e,ex⟩
   obtain⟨o,e,ex⟩:=z
   refine⟨⟨o,e,ex.1⟩,λa e2=>?_⟩
   cases e2
   exact⟨o,e,ex.2.1⟩
  ·obtain⟨o,_,_,_,e,ex,_⟩:=I.hok p _ hk
   refine⟨⟨o,e,ex.1⟩,λa e2=>?_⟩
   cases e2
   exact⟨o,e,ex.2.1⟩
 | _=>exact False.elim ty
noncomputable def tBM(K:PySem.W.Frag)(T:String)(r:V->List V->Hp->VK->Prop)(to:TE)(t:TA):TE:=λσ H Q=>to σ H λx H1=>tyV K T x H1/\t σ H1 λxs H2=>r x xs H2 Q
variable{o e:Expr}{es:List Expr}{to:TE}{t:TA}{name:Str}{apos cpos:Pos}{T id:String}{r:V->List V->Hp->VK->Prop}
theorem jB (pa:PlainAttrs T) (slot:Slot T name id) (hty:typeOf (.builtin id)=pure (.type "method_descriptor")) (hm:MtR X id r) (ho:PE X o to) (ha:PA X (e::es) t)
  (hbase:attributeBase o name X.env (eval o X.env)=eval o X.env:=by rfl)
  (hfew:((backTo cpos (starEach (e::es) X.env)).all (λx=>!x.1)&&(backToKw cpos (keywordEach [] X.env)).all (λx=>x.1.isSome)
  &&decide ((e::es).length+([]:List Keyword).length+(if ([]:List Keyword).isEmpty then 0 else 1)<30))=true:=by rfl)
  (hline:(apos.endLine == cpos.line)=true:=by rfl) (hs:starEach (e::es) X.env=(false,eval e X.env)::starEach es X.env:=by rfl) (hplain:(backTo cpos (starEach es X.env)).any (·.1)=false:=by rfl) :
  PE X (.Call (.Attribute o name apos) (e::es) [] cpos) (tBM X.K T r to t):=by
 intro pins s σ H Q I h
 refine wpAny_Call_method_late hbase hfew hline rfl (thn (ho pins s σ H _ I h) λv s1 ⟨x,H1,I1,r1,ty,q1⟩=>?_)
 obtain⟨h1,h2⟩:=zZ I1 r1 ty
 refine⟨T,id,pa,slot,hty,h1,h2,?_⟩
 have hA:=ha cpos pins s1 σ H1 _ I1 q1
 rw [hs]at hA ⊢
 refine Calls.callWith_builtin (by show(false || (backTo cpos (starEach es X.env)).any (·.1))=false;rw [hplain]<;>rfl) (Calls.evalArgs_plain ?_)
 exact thn hA λus s2 ⟨vs,H2,I2,r2,q2⟩=>hm pins s2 σ H2 x vs v us Q I2 r1 r2 q2
end
end L2
namespace L2
open PySem PySem.Spec PyProof.Rows
noncomputable def MtM(X:Cx)(id:String)(r:V->List V->Hp->VK->Prop):Prop :=
 ∀(pins:List (Addr×Obj)) (s:Shared) (σ:St) (H:Hp) (x:V) (xs:List V) (v:Value) (us:List Value) (Q:VK),Inv X pins σ H s->av x v->aw xs us->r x xs H Q ->
  wpAny (model X.prog X.w) X.A (call (.builtin id) (v::us)) (EP X pins σ Q) X.xe s
theorem aw.one:∀{x:V}{us:List Value},aw [x] us->∃u,us=[u]/\av x u
 | _,_,.cons r .nil=>⟨_,rfl,r⟩
theorem aw.zero:∀{us:List Value},aw [] us->us=[]
 | _,.nil=>rfl
theorem aw.reverse{xs:List V}{us:List Value}(h:aw xs us):aw xs.reverse us.reverse:=by
 induction h with
 |nil=>exact .nil
 |cons r t ih=>rw [List.reverse_cons,List.reverse_cons];exact aw.append ih (.cons r .nil)
section
variable{X:Cx}{pins:List (Addr×Obj)}{σ:St}{H:Hp}{s:Shared}{l b:Addr}{xs ys zs:List V}
theorem Inv.lset{its its':List Value}{n:Nat}{f:Array Value->Array Value}{t':Nat}(I:Inv X pins σ H s)(hH:H l=some (.lst xs))
  (e:s.heap.get? l=some { cls:=.type "list",data:=.seq its.toArray n }) (hf:f its.toArray=its'.toArray) (hv:aw ys its') (hz:ys.length<=sizeLine) :
  Inv X pins σ (upd H l (.lst ys)) { s with heap:=s.heap.update l (Obj.mapSeq f),toks:=t' }:=by
 have q:=PySem.IsL.update e f
 rw [hf]at q
 refine I.write (x:=l) (e:=l) (by rw [hH];exact trivial) (.inl rfl) (λb' u hb hu=>(Heap.get?_update_other s.heap (Obj.mapSeq f) (Ne.symm hb)).trans hu) ⟨_,q⟩ ?_
 exact⟨hz,its',_,hv,q⟩
theorem Inv.lnew{its:List Value}{t':Nat}(I:Inv X pins σ H s)(hv:aw ys its)(hz:ys.length<=sizeLine) :
  Inv X pins σ (upd H s.heap.objs.size (.lst ys)) { s with heap:=s.heap.push { cls:=.type "list",data:=.seq its.toArray },toks:=t' } :=
 I.laid (λ_ _ q=>Heap.get?_push_of_some _ q) (Nat.le_refl _) ⟨hz,its,0,hv,Heap.get?_push_size _ rfl⟩
theorem Inv.fresh(I:Inv X pins σ H s):H s.heap.objs.size=none:=I.hok.fresh (Nat.le_refl _)
theorem Inv.lstM (I:Inv X pins σ H s) (hH:H l=some (.lst xs)):xs.length<=sizeLine/\∃(its:List Value) (n:Nat),aw xs its/\xs.length=its.length/\s.heap.get? l=some { cls:=.type "list",data:=.seq its.toArray n }:=by
 obtain⟨z,its,n,r,e⟩:=I.hok l _ hH
 exact⟨z,its,n,r,r.length,e⟩
theorem n8{n:Nat}(h:n<=sizeLine):Builtin.List.listTooLong n=false:=by
 unfold Builtin.List.listTooLong
 exact decide_eq_false (by omega)
end
section
variable{X:Cx}
noncomputable def cr:V->List V->Hp->VK->Prop:=λx vs H Q=>∃l xs y,x=.ref l/\vs=[y]/\H l=some (.lst xs)/\xs.length<sizeLine/\Q .non (upd H l (.lst (xs ++ [y])))
theorem cn:MtM X "list.append" cr:=by
 intro pins s σ H x vs v us Q I rx rv h
 obtain⟨l,xs,y,rfl,rfl,hH,hz,q⟩:=h
 cases rx
 obtain⟨u,rfl,ru⟩:=rv.one
 obtain⟨z,its,n,r,hl,e⟩:=I.lstM hH
 refine call_meets F.slot_list_append ⟨_,e,rfl⟩ F.entry_list_append (F.args_list_append_2 _ _) (PySem.list_append l its.toArray n u (by rw [List.size_toArray];omega)) ⟨e,?_⟩
 refine⟨.non,_,I.lset (its':=its ++ [u]) hH e (by simp) (r.append (.cons ru .nil)) ?_,rfl,q⟩
 rw [List.length_append,List.length_singleton]
 omega
end
section
variable{prog:Program}{w:World}{A:Around}{E:Value->Shared->Prop}{s:Shared}
end
section
variable{X:Cx}
end
end L2
namespace Att
open PySem PySem.W PySem.Calls PyProof.Rows
theorem jL{P:Params}{h:Heap}:∀(ns:List Int) (vs:List Value),WellAll P h vs (ns.map WData.int)->IntsAre vs ns:=by
 intro ns
 induction ns with
 |nil =>
  intro vs w
  rw [List.map_nil]at w
  cases w
  exact .nil
 |cons n ns ih =>
  intro vs w
  rw [List.map_cons]at w
  cases w with
  |cons a b =>
   cases a
   exact .cons _ _ (ih _ b)
theorem si{l:OpenLaw}{n:Nat}(hn:l.most=some n){P:Params}{h:Heap}{args:List WData}{vals:List Value}
  (hpre:l.row.toRowW.claim.pre args=true) (hwl:WellAll P h vals args) :
  ∃a vs ns,vals=[Value.ref a]/\args=[WData.list (ns.map WData.int)]/\h.get? a=some { cls:=.type "list",data:=.seq vs.toArray }/\IntsAre vs ns/\ns.length<=n:=by
 have hsh:WShape.hasAll [] args [.list .int]=true:=(pre_splitW hpre).1
 have hc:l.pre.holds [] { args:=args }=true:=(pre_splitW hpre).2
 obtain⟨d,r,rfl,h1,h2⟩:=hasAllW_cons hsh
 obtain rfl:=hasAllW_nil h2
 obtain⟨xs,rfl,h3⟩:=hasW_list h1
 obtain⟨ns,rfl⟩:=items_int h3
 have hlen:ns.length<=n:=by
  unfold OpenLaw.pre at hc
  have h4:(WTm.not (.lt (.lit (.int (n:Int))) (.len (.arg 0)))).holds [] { args:=[.list (ns.map .int)] }=true:=by
   have h4:=(holds_andW hc).1
   rw [hn]at h4
   exact h4
  have h5:=condW_of h4 (w_not (w_lt w_lit (w_len_list (w_arg rfl))))
  rw [List.length_map]at h5
  refine Nat.le_of_not_lt λq=>?_
  have q':(n:Int)<((ns.length:Nat):Int):=by omega
  first
   | (rw [decide_eq_true q']at h5;exact absurd h5 (by decide))
   | (simp at h5;omega)
 cases hwl with
 |cons w1 w2 =>
  cases w2
  cases w1 with
  |list ho hall=>exact⟨_,_,ns,rfl,rfl,ho,jL ns _ hall,hlen⟩
theorem sj(l:OpenLaw)(args:List WData):l.row.toRowW.claim.post args (.bool true) args=true :=
 postW_of (r:=l.row.toRowW) (X:=(true == true))
  (show WShape.has [] (.bool true) .bool=true by first|rfl|decide|simp [WShape.has,WShape.arms,WShape.armsAll])
  (show(WTm.eq .res (.lit (.bool true))).value [] { args:=args,res:=some (.bool true),after:=args }=some (.bool (true == true)) from w_eq_bool (w_res rfl) w_lit) rfl
theorem attach_call{l:OpenLaw}{n:Nat}{q:Program}{loose:List Str}{XP:(Str->Option Value)->Heap->Prop}{YP:World->Heap->Prop}{d:DefRec}
  (hn:l.most=some n) (hdf:d.params.defaults=[])
  (call:∀(w:World) (s₀ s₁:Shared) (mg mb:Str->Option Value) (fa:Addr) (o:Obj) (pm cd doc:Value) (a:Addr) (vs:List Value) (ns:List Int),
   Ground q loose [] XP w s₀ mg mb s₁.heap->YP w s₁.heap ->
   s₁.heap.get? fa=some o->o.data=.func (docDef d.name d.params d.body d.scope pm cd doc)->s₁.heap.CodeRec cd d.name->mg d.name=some (.ref fa) ->
   s₁.heap.get? a=some { cls:=.type "list",data:=.seq vs.toArray }->IntsAre vs ns->ns.length<=n->s₁.gens=#[] ->
   codeAny (model l.prog w) callerA (.call (.ref fa) ⟨[.ref a],[]⟩) (λr s'=>r=.ok (.ret (.bool true))/\OldK s₁.heap s'.heap/\s'.os=s₁.os/\AllBare s'.gens) s₁) :
  WalkO q loose XP YP l.row.toRowW d [] (λf vs=>PySem.call f vs):=by
 intro w s₀ s₁ mg mb G Y fa o pm cd doc dV kV ho hd hcd hD hmg hg args vals as hpre hlay hrd hwl hlo
 obtain rfl:dV=.none:=Dflts.none hD hdf
 obtain rfl:kV=.none:=Dflts.noKw hD
 obtain⟨a,vs,ns,rfl,rfl,hobj,hints,hlen⟩:=si hn hpre hwl
 refine enter_call (codeAny_mono (call w s₀ s₁ mg mb fa o pm cd doc a vs ns G Y ho (fd_plain hd) hcd hmg hobj hints hlen hg) λr s' hq=>?_)
 obtain⟨rfl,h2,h3,h4⟩:=hq
 exact⟨.inl ⟨.bool true,.bool true,[],rfl,λ_=>rfl,.bool true,sj l _,λ_=>⟨List.Pairwise.nil,λ_ hm=>(nomatch hm)⟩⟩,h2,h3,h4⟩
section
variable{prog:Program}{w:World}{A:Around}{E:Value->Shared->Prop}{s:Shared}{K:Frag}
end
end Att
namespace L2
open PySem PySem.Spec PyProof.Rows
theorem i4:∀{vs:List Value}{ns:List Int},IntsAre vs ns->aw (ns.map V.int) vs
 | _,_,.nil=>.nil
 | _,_,.cons n t h=>.cons ⟨t,rfl⟩ (i4 h)
noncomputable def z5(H:Hp):Prop:=∀b,H b=none\/∃o xs,H b=some (.frz o (.lst xs))
theorem uE{P:Program}{w:World}{K:PySem.W.Frag}{mg mb:Str->Option Value}{CX:CXT}{k:Nat}{fa a:Addr}{fd:FuncData}{x:Str}{sp:Sp}{s₁:Shared}{vs:List Value}{ns:List Int}
  (KX:K.In s₁.heap) (hns:s₁.heap.Ns mainGlobals mg) (hb:s₁.heap.Ns builtinsNs mb) (hbb:∀x:Str,x ≠ "__name__"->mb x=bootBuiltins x) (hlim:s₁.heap.NoLimit) (hg:s₁.gens=#[])
  (ha:s₁.heap.get? a=some { cls:=.type "list",data:=.seq vs.toArray }) (hi:IntsAre vs ns) (hl:ns.length<=sizeLine) (hr:cJ k callerA)
  (F:∀base:Heap,K.In base->base.Ns mainGlobals mg->bW P w K mg base CX k fa fd [x] sp) (hbind:∀(s:Shared) (u:Value),BindsTo s fd ⟨[u],[]⟩ [(x,u)])
  (hsp:∀H:Hp,z5 H->SqL K H a (ns.map V.int)->sp [.ref a] H (λv _=>v=.bl true) λ_ _ _=>False)
  (hCX:∀H e s',CX [] H s₁ (λ_ _ _=>False) e s'->False) :
  codeAny (model P w) callerA (.call (.ref fa) ⟨[.ref a],[]⟩) (λr s'=>r=.ok (.ret (.bool true))/\OldK s₁.heap s'.heap/\s'.os=s₁.os/\AllBare s'.gens) s₁:=by
 have rv:=i4 hi
 have lenV:=hi.length
 have core:∀H:Hp,z5 H->SqL K H a (ns.map V.int)->HOk P w H s₁.heap->(∀b,H b≠none->b=a)->(H a≠none->K.lookup a=none) ->
   codeAny (model P w) callerA (.call (.ref fa) ⟨[.ref a],[]⟩) (λr s'=>r=.ok (.ret (.bool true))/\OldK s₁.heap s'.heap/\s'.os=s₁.os/\AllBare s'.gens) s₁:=by
  intro H hO hS hok hA hK
  have base_of:∀{b:Addr}{o:Obj},s₁.heap.get? b=some o->H b=none->(mT s₁.heap H).get? b=some o:=λe n=>tP e n
  have noA:∀{b:Addr}{o:Obj}{es:Array DictEntry}{ep:Nat},s₁.heap.get? b=some o->o.data=.dict es ep->H b=none:=λ{b o es ep} e d=>by
   cases q:H b with
   |none=>rfl
   |some u =>
    have e':b=a:=hA b (by rw [q];simp)
    subst e'
    rw [ha]at e;cases e
    have d':Data.seq vs.toArray _=Data.dict es ep:=d
    cases d'
  have nsK:∀{b:Addr}{m:Str->Option Value},s₁.heap.Ns b m->(mT s₁.heap H).Ns b m:=λ{b m} ⟨o,es,ep,e,d,r⟩=>⟨o,es,ep,base_of e (noA e d),d,r⟩
  have hKb:K.In (mT s₁.heap H):=λb o e=>base_of (KX b o e) (by
   cases q:H b with
   |none=>rfl
   |some u =>
    have e':b=a:=hA b (by rw [q];simp)
    subst e'
    rw [hK (by rw [q];simp)]at e;cases e)
  have hM:Mod K mg (mT s₁.heap H):=⟨hKb,nsK hns,⟨mb,nsK hb,hbb⟩,let ⟨mc,h1,h2⟩:=hlim;⟨mc,nsK h1,h2⟩⟩
  have e0:pI P w K mg (mT s₁.heap H) callerA [] s₁ H:=⟨rfl,hM,λb o e=>xc e,Nat.le_of_eq (rZ _ _),trivial,λb hb=>absurd (show b∈([]:List Addr) from hb) (by simp),hok,.of_eq hg⟩
  refine codeAny_mono ((F _ hKb (nsK hns)).run callerA [] s₁ H ⟨[.ref a],[]⟩ [.ref a] [.ref a] _ _ hr e0 (hbind s₁ (.ref a)) (.cons rfl .nil) (hsp H hO hS)) λr s' h=>?_
  cases r with
  |error e=>exact(hCX H e s' h).elim
  |ok fl =>
   cases fl with
   |next=>exact False.elim h
   |brk=>exact False.elim h
   |cont=>exact False.elim h
   |ret u =>
    obtain⟨v,H',os,bare,un,hok',r',q⟩:=h
    have q':v=.bl true:=q
    subst q'
    obtain rfl:u=Value.bool true:=r'
    refine⟨rfl,OldK.of_keep λb o e=>?_,os,bare⟩
    cases q:H b with
    |none=>exact un.keep b o e q (by intro z;exact absurd (show b∈([]:List Addr) from z) (by simp)) (by simp)
    |some u =>
     rcases hO b with z|⟨ob,xs,z⟩
     ·rw [q]at z;cases z
     ·have z2:=un.frzs b ob _ z
      obtain⟨e1,_⟩:=hok b _ z
      obtain⟨e2,_⟩:=hok' b _ z2
      rw [e]at e1;cases e1
      exact e2
 cases hk:K.lookup a with
 |some o =>
  have e:=KX a o hk
  rw [ha]at e
  cases e
  refine core (λ_=>none) (λ_=>.inl rfl) (.inr ⟨_,vs.toArray,_,hk,rfl,rfl,rfl,by rw [List.size_toArray,lenV];exact hl,by simpa using rv⟩) (λb u z=>by have z':(none:Option HO)=some u:=z;cases z') (λb z=>absurd rfl z) λz=>absurd rfl z
 |none =>
  refine core (λb=>if b=a then some (.frz { cls:=.type "list",data:=.seq vs.toArray } (.lst (ns.map V.int))) else none) (λb=>?_) (.inl (.inr ⟨{ cls:=.type "list",data:=.seq vs.toArray },if_pos rfl⟩)) (λb u z=>?_) (λb z=>?_) λ_=>hk
  ·by_cases hb:b=a
   ·exact .inr ⟨_,_,if_pos hb⟩
   ·exact .inl (if_neg hb)
  ·by_cases hb:b=a
   ·have z':=(if_pos hb).symm.trans z
    cases z'
    subst hb
    exact⟨ha,by rw [List.length_map];exact hl,vs,_,rv,ha⟩
   ·have z':=(if_neg hb).symm.trans z
    cases z'
  ·by_cases hb:b=a
   ·exact hb
   ·exact absurd (if_neg hb) z
end L2
namespace L2
open PySem PySem.Spec PyProof.Rows
theorem xA{l:PySem.W.OpenLaw}{n k:Nat}{q:Program}{loose:List Str}{XP:(Str->Option Value)->Heap->Prop}{YP:World->Heap->Prop}{d:DefRec}{K:Params->PySem.W.Frag}{CX:World->CXT}{sp:World->Sp}{x:Str}
  (hn:l.most=some n) (hn2:n<=sizeLine) (hdf:d.params.defaults=[]) (hr:cJ k callerA)
  (hY:∀(w:World) (h:Heap),YP w h->(K w.params).In h)
  (F:∀(w:World) (mg:Str->Option Value) (fa:Addr) (h:Heap),(K w.params).In h->h.Ns mainGlobals mg->mg d.name=some (.ref fa) ->
   ∃fd:FuncData,(∀(s:Shared) (u:Value),BindsTo s fd ⟨[u],[]⟩ [(x,u)]) /\
    ∀base:Heap,(K w.params).In base->base.Ns mainGlobals mg->bW l.prog w (K w.params) mg base (CX w) k fa fd [x] (sp w))
  (hsp:∀(w:World) (H:Hp) (a:Addr) (ns:List Int),ns.length<=n->z5 H->SqL (K w.params) H a (ns.map V.int)->sp w [.ref a] H (λv _=>v=.bl true) λ_ _ _=>False)
  (hCX:∀(w:World) (H:Hp) (s:Shared) (e:Value) (s':Shared),CX w [] H s (λ_ _ _=>False) e s'->False) :
  PySem.W.WalkO q loose XP YP l.row.toRowW d [] (λf vs=>PySem.call f vs):=by
 refine Att.attach_call hn hdf λw s₀ s₁ mg mb fa o pm cd doc a vs ns G Y ho hd hcd hmg hobj hints hlen hg=>?_
 have KX:=hY w _ Y
 obtain⟨fd,hb,hF⟩:=F w mg fa _ KX G.T.g hmg
 exact uE KX G.T.g G.T.b G.T.builtins G.T.nolimit hg hobj hints (Nat.le_trans hlen hn2) hr hF hb (λH hO hS=>hsp w H a ns hlen hO hS) λH e s'=>hCX w H s₁ e s'
end L2
namespace L2
open PySem PySem.Spec PyProof.Rows
noncomputable def cU(s:Stmt)(j:Nat):Stmt:=match s with
 | .ClassDef _ _ _ body _ _ _ _ _ _ _=>body.getD j (.Pass ⟨0,0,0,0⟩)
 | _=>.Pass ⟨0,0,0,0⟩
noncomputable def ig(s:Stmt):Arguments:=match s with
 | .FunctionDef _ a _ _ _ _ _ _ _ _=>a
 | _=>{ posonlyargs:=[],args:=[],vararg:=none,kwonlyargs:=[],kw_defaults:=[],kwarg:=none,defaults:=[] }
noncomputable def bK(s:Stmt):List Stmt:=match s with
 | .FunctionDef _ _ b _ _ _ _ _ _ _=>b
 | _=>[]
noncomputable def aj(s:Stmt):Scope:=match s with
 | .FunctionDef _ _ _ _ _ _ sc _ _ _=>sc
 | _=>{ kind:=.function,names:=[],isGenerator:=false,isCoroutine:=false }
noncomputable abbrev CX0:CXT:=λ_ _ _ _ _ _=>False
noncomputable abbrev E0:XK:=λ_ _ _=>False
theorem d_{X:Cx}:fT CX0 X E0:=λ_ _ _ _ _ _ _ h=>h.elim
section
variable{P:Program}{w:World}{K:PySem.W.Frag}{mg:Str->Option Value}{base:Heap}
end
section
variable{X:Cx}
theorem pv (i:Nat) {x:Str}{pos:Pos} (hN:X.N[i]?=some x:=by rfl) (hv:Vis X.env.scope x:=by first|exact Or.inl rfl|exact Or.inr (Or.inl rfl)|exact Or.inr (Or.inr rfl)) (hd:(x == ("__debug__":Str))=false:=by decide)
  (hcd:(x == ("__classdict__":Str))=false:=by decide):PE X (.Name x pos) (br i):=pq hN hv hd hcd
end
theorem Cs{A B:Prop}(h:B):if false=true then A else B:=by
 rw [if_neg Bool.false_ne_true]
 exact h
theorem Ey{A B:Prop}(h:A):if true=true then A else B:=by
 rw [if_pos rfl]
 exact h
noncomputable def ac(H H':Hp):Prop:=∀b o,H b=some o->H' b=some o
theorem ac.refl(H:Hp):ac H H:=λ_ _ h=>h
theorem ac.trans{H H1 H2:Hp}(a:ac H H1)(b:ac H1 H2):ac H H2:=λc o h=>b c o (a c o h)
theorem ac.free{H H':Hp}(e:ac H H'){l:Addr}(h:H' l=Option.none):H l=Option.none:=by
 cases q:H l with
 |none=>rfl
 |some o =>
  rw [e l o q]at h
  cases h
theorem ac.seq{K:PySem.W.Frag}{H H':Hp}{a:Addr}{xs:List V}(e:ac H H')(h:SqL K H a xs):SqL K H' a xs:=by
 rcases h with (h|⟨o,h⟩)|h
 ·exact .inl (.inl (e _ _ h))
 ·exact .inl (.inr ⟨o,e _ _ h⟩)
 ·exact .inr h
end L2
namespace L2
open PySem PySem.Spec PyProof.Rows
section
variable{κ:Type} [DecidableEq κ]
noncomputable def ij(kvs:List (κ×V))(k:κ):Option V:=(kvs.find? λkv=>decide (kv.1=k)).map (·.2)
noncomputable def gB(kvs:List (κ×V))(k:κ)(v:V):List (κ×V) :=
 if (kvs.any λkv=>decide (kv.1=k))=true then kvs.map (λkv=>if kv.1=k then (kv.1,v) else kv) else kvs ++ [(k,v)]
noncomputable def E4(kvs:List (κ×V))(k:κ):List (κ×V):=kvs.filter λkv=>decide (kv.1≠k)
theorem kA{p:κ×V}{r:List (κ×V)}{k:κ}(e:p.1=k):ij (p::r) k=some p.2:=by simp [ij,List.find?_cons,e]
theorem kB{p:κ×V}{r:List (κ×V)}{k:κ}(e:¬ p.1=k):ij (p::r) k=ij r k:=by simp [ij,List.find?_cons,e]
theorem n9(k:κ):∀kvs:List (κ×V),(kvs.any λkv=>decide (kv.1=k))=(ij kvs k).isSome
 | []=>rfl
 |p::r=>by
  rw [List.any_cons]
  by_cases e:p.1=k
  ·simp only [kA e,decide_eq_true e,Bool.true_or,Option.isSome_some]
  ·rw [kB e,decide_eq_false e,Bool.false_or];exact n9 k r
theorem jC(kvs:List (κ×V))(k:κ)(v:V):(gB kvs k v).length<=kvs.length+1:=by
 unfold gB
 split
 ·rw [List.length_map];omega
 ·rw [List.length_append,List.length_cons,List.length_nil];omega
theorem fP.isSome_eq{o:Option V}{u:Option Value}(r:fP o u):o.isSome=u.isSome:=by
 cases o with
 |none=>cases u with
  |none=>rfl
  |some _=>exact(show False from r).elim
 |some _=>cases u with
  |none=>exact(show False from r).elim
  |some _=>rfl
theorem fP.getD{o:Option V}{u:Option Value}{d:V}{d':Value}(r:fP o u)(rd:av d d'):av (o.getD d) (u.getD d'):=by
 cases o with
 |none=>cases u with
  |none=>exact rd
  |some _=>exact(show False from r).elim
 |some _=>cases u with
  |none=>exact(show False from r).elim
  |some _=>exact r
theorem KV.val{kvs:List (κ×V)}{vs:List (κ×Value)}(r:KV kvs vs)(k:κ):fP (ij kvs k) (valueAt vs k):=by
 unfold KV at r
 induction r with
 |nil=>exact True.intro
 | @cons p q ps qs h t ih =>
  obtain⟨h1,h2⟩:=h
  by_cases e:p.1=k
  ·have e':q.1=k:=h1.symm.trans e
   have b:valueAt (q::qs) k=some q.2:=by simp [valueAt,List.find?_cons,e']
   rw [kA e,b];exact h2
  ·have e':¬ q.1=k:=λz=>e (h1.trans z)
   have b:valueAt (q::qs) k=valueAt qs k:=by simp [valueAt,List.find?_cons,e']
   rw [kB e,b];exact ih
theorem KV.any{kvs:List (κ×V)}{vs:List (κ×Value)}(r:KV kvs vs)(k:κ):(kvs.any λkv=>decide (kv.1=k))=vs.any λkv=>decide (kv.1=k):=by
 unfold KV at r
 induction r with
 |nil=>rfl
 |cons h t ih=>rw [List.any_cons,List.any_cons,ih,h.1]
theorem KV.repl{kvs:List (κ×V)}{vs:List (κ×Value)}(r:KV kvs vs)(k:κ){y:V}{u:Value}(ry:av y u) :
  KV (kvs.map λkv=>if kv.1=k then (kv.1,y) else kv) (vs.map λkv=>if kv.1=k then (kv.1,u) else kv):=by
 unfold KV at r ⊢
 induction r with
 |nil=>exact .nil
 | @cons p q ps qs h t ih =>
  rw [List.map_cons,List.map_cons]
  refine .cons ?_ ih
  obtain⟨h1,h2⟩:=h
  by_cases e:p.1=k
  ·rw [if_pos e,if_pos (h1.symm.trans e)];exact⟨h1,ry⟩
  ·rw [if_neg e,if_neg (λz=>e (h1.trans z))];exact⟨h1,h2⟩
theorem KV.put{kvs:List (κ×V)}{vs:List (κ×Value)}(r:KV kvs vs)(k:κ){y:V}{u:Value}(ry:av y u):KV (gB kvs k y) (stored vs k u):=by
 unfold gB stored
 rw [r.any k]
 by_cases e:(vs.any λkv=>decide (kv.1=k))=true
 ·rw [if_pos e,if_pos e];exact r.repl k ry
 ·rw [if_neg e,if_neg e];exact Paired.snoc r ⟨rfl,ry⟩
theorem KV.length{kvs:List (κ×V)}{vs:List (κ×Value)}(r:KV kvs vs):kvs.length=vs.length:=Paired.length r
end
theorem l_{P:Program}{w:World}{k:Key}{u:Value}(r:av (kV k) u):(bG P w).is k u=true:=by
 cases k with
 |inl i=>obtain⟨t,e⟩:=(show ∃t,u=Value.int i t from r);subst e;exact nQ P w i t
 |inr x=>obtain⟨t,e⟩:=(show ∃t,u=Value.str x t from r);subst e;exact nR P w x t
theorem mf{P:Program}{w:World}:∀{ks:List Key}{us:List Value},aw (ks.map kV) us->ItemsAre (bG P w) ks us
 | [],_,r=>by rw [List.map_nil]at r;cases r;exact .nil
 |k::ks,_,r=>by
  rw [List.map_cons]at r
  cases r with
  |cons h t=>exact .cons (l_ h) (mf t)
noncomputable abbrev KT(H:Hp):List (List Key×V)->List (List Key×Addr×Value)->Prop:=Paired λp q=>p.1=q.1/\H q.2.1=some (.tup (p.1.map kV))/\av p.2 q.2.2
theorem KT.val{H:Hp}{kvs:List (List Key×V)}{xs:List (List Key×Addr×Value)}(r:KT H kvs xs)(k:List Key):fP (ij kvs k) ((atKey xs k).map (·.2)):=by
 induction r with
 |nil=>exact True.intro
 | @cons p q ps qs h t ih =>
  obtain⟨h1,_,h2⟩:=h
  by_cases e:p.1=k
  ·have e':q.1=k:=h1.symm.trans e
   have b:atKey (q::qs) k=some q.2:=by simp [atKey,List.find?_cons,e']
   rw [kA e,b];exact h2
  ·have e':¬ q.1=k:=λz=>e (h1.trans z)
   have b:atKey (q::qs) k=atKey qs k:=by simp [atKey,List.find?_cons,e']
   rw [kB e,b];exact ih
theorem KT.repl{H:Hp}{kvs:List (List Key×V)}{xs:List (List Key×Addr×Value)}(r:KT H kvs xs)(k:List Key){y:V}{u:Value}(ry:av y u) :
  KT H (kvs.map λkv=>if kv.1=k then (kv.1,y) else kv) (xs.map (putAt k u)):=by
 induction r with
 |nil=>exact .nil
 | @cons p q ps qs h t ih =>
  rw [List.map_cons,List.map_cons]
  refine .cons ?_ ih
  obtain⟨h1,h2,h3⟩:=h
  unfold putAt
  by_cases e:p.1=k
  ·rw [if_pos e,if_pos (h1.symm.trans e)];exact⟨h1,h2,ry⟩
  ·rw [if_neg e,if_neg (λz=>e (h1.trans z))];exact⟨h1,h2,h3⟩
theorem KT.put{H:Hp}{kvs:List (List Key×V)}{xs:List (List Key×Addr×Value)}(r:KT H kvs xs)(k:List Key){b:Addr}{y:V}{u:Value}(hb:H b=some (.tup (k.map kV)))(ry:av y u) :
  KT H (gB kvs k y) (storedH xs k b u):=by
 have e:(kvs.any λkv=>decide (kv.1=k))=(atKey xs k).isSome:=by
  rw [n9,(r.val k).isSome_eq,Option.isSome_map]
 unfold gB storedH
 rw [e]
 by_cases q:(atKey xs k).isSome=true
 ·rw [if_pos q,if_pos q];exact r.repl k ry
 ·rw [if_neg q,if_neg q];exact Paired.snoc r ⟨rfl,hb,ry⟩
theorem KT.keeps{H H':Hp}{kvs:List (List Key×V)}{xs:List (List Key×Addr×Value)}(r:KT H kvs xs)(ht:∀b ys,H b=some (.tup ys)->H' b=some (.tup ys)):KT H' kvs xs :=
 Paired.mapP r λ_ _ z=>⟨z.1,ht _ _ z.2.1,z.2.2⟩
section
variable{P:Program}{w:World}{H:Hp}{h:Heap}{a:Addr}
theorem y3{u:HO}(ok:HOk P w H h)(e:Rd H a u):bw P w H h a u:=e.ok ok
theorem jD{kvs:List (Key×V)}(ok:HOk P w H h)(e:Rd H a (.dK kvs)):kvs.length<=sizeLine/\(a == sysModules)=false/\∃vs,KV kvs vs/\h.DictOf (bG P w) a vs :=
 show bw P w H h a (.dK kvs) from y3 ok e
theorem Ct{kvs:List (Key×V)}(ok:HOk P w H h)(e:H a=some (.dK kvs)):kvs.length<=sizeLine/\(a == sysModules)=false/\∃vs,KV kvs vs/\h.DictOf (bG P w) a vs:=jD ok (.inl e)
theorem i6{ks:List Key}(ok:HOk P w H h)(e:H a=some (.tup (ks.map kV))):(tupleKind (bG P w)).is h ks a:=by
 obtain⟨_,its,r,o,h1,h2,n,h3⟩:=(show bw P w H h a (.tup (ks.map kV)) from ok a _ e)
 exact⟨o,its.toArray,n,h1,h2,h3,by simpa using mf r⟩
theorem kC{kvs:List (List Key×V)}(ok:HOk P w H h)(e:Rd H a (.dT kvs)):kvs.length<=sizeLine/\(a == sysModules)=false /\
  ∃xs,KT H kvs xs/\h.DictOfH (tupleKind (bG P w)) a xs:=by
 obtain⟨z,y,xs,r,o,es,ep,h1,h2,h3,h4,h5⟩:=(show bw P w H h a (.dT kvs) from y3 ok e)
 refine⟨z,y,xs,r,o,es,ep,h1,h2,h3,h4,λx hx=>?_,h5⟩
 have all:∀{l:List (List Key×V)}{m:List (List Key×Addr×Value)},KT H l m->∀x∈m,(tupleKind (bG P w)).is h x.1 x.2.1:=by
  intro l m q
  induction q with
  |nil=>intro x hx;exact nomatch hx
  | @cons p q ps qs hq t ih =>
   intro x hx
   rcases List.mem_cons.mp hx with e|hx
   ·subst e
    exact i6 ok (by rw [<- hq.1];exact hq.2.1)
   ·exact ih x hx
 exact all r x hx
theorem Cu{kvs:List (List Key×V)}(ok:HOk P w H h)(e:H a=some (.dT kvs)):kvs.length<=sizeLine/\(a == sysModules)=false /\
  ∃xs,KT H kvs xs/\h.DictOfH (tupleKind (bG P w)) a xs:=kC ok (.inl e)
end
noncomputable def kD(H:Hp)(a:Addr)(y:V)(r:Option V):Prop :=
 (∃kvs k,Rd H a (.dK kvs)/\y=kV k/\r=ij kvs k)\/∃kvs k b,Rd H a (.dT kvs)/\y=.ref b/\H b=some (.tup (k.map kV))/\r=ij kvs k
noncomputable def kE(H:Hp)(a:Addr)(y v:V)(H':Hp):Prop :=
 (∃kvs k,H a=some (.dK kvs)/\y=kV k/\kvs.length<sizeLine/\H'=upd H a (.dK (gB kvs k v))) \/
 ∃kvs k b,H a=some (.dT kvs)/\y=.ref b/\H b=some (.tup (k.map kV))/\kvs.length<sizeLine/\H'=upd H a (.dT (gB kvs k v))
theorem kE.k{H:Hp}{a:Addr}{kvs:List (Key×V)}{k:Key}{v:V}(e:H a=some (.dK kvs))(hl:kvs.length<sizeLine):kE H a (kV k) v (upd H a (.dK (gB kvs k v))):=.inl ⟨kvs,k,e,rfl,hl,rfl⟩
theorem kE.t{H:Hp}{a b:Addr}{kvs:List (List Key×V)}{k:List Key}{v:V}(e:H a=some (.dT kvs))(eb:H b=some (.tup (k.map kV)))(hl:kvs.length<sizeLine) :
  kE H a (.ref b) v (upd H a (.dT (gB kvs k v))):=.inr ⟨kvs,k,b,e,rfl,eb,hl,rfl⟩
section
variable{X:Cx}{pins:List (Addr×Obj)}{σ:St}{H:Hp}{s:Shared}{a:Addr}{y v:V}{u r:Value}{o:Option V}{A:Around}{E:Value->Shared->Prop}
theorem Inv.big(I:Inv X pins σ H s):sysModules<s.heap.objs.size:=by
 have h:mainGlobals<s.heap.objs.size:=(I.mod.glob.keeps I.bk).lt
 exact Nat.lt_trans (by decide) h
theorem sk{Q:Value->Shared->Prop}(hu:A.units+1<cLine)(I:Inv X pins σ H s)(g:kD H a y (some v))(ry:av y u)(h:∀w' s',Inv X pins σ H s'->av v w'->Q w' s') :
  wpAny (model X.prog X.w) A (getItem (.ref a) u) Q E s:=by
 rcases g with ⟨kvs,k,e,ey,l⟩|⟨kvs,k,b,e,ey,eb,l⟩
 ·subst ey
  obtain⟨z,hd,vs,rel,dd⟩:=jD I.hok e
  obtain⟨w',hw,rw'⟩:=fP.some_of (v:=v) (o:=valueAt vs k) (by rw [l];exact rel.val k)
  exact wpAny_getItem_of (l_ ry) dd.mapOf hw (h w' _ (I.tok _) rw')
 ·subst ey
  cases (show u=Value.ref b from ry)
  obtain⟨z,hd,xs,rel,dd⟩:=kC I.hok e
  obtain⟨w',hw,rw'⟩:=fP.some_of (v:=v) (o:=(atKey xs k).map (·.2)) (by rw [l];exact rel.val k)
  obtain⟨p,hp,hp2⟩:=Option.map_eq_some_iff.mp hw
  refine wpAny_getItem_heap (tupleKind_room_in1 hu) (i6 I.hok eb) dd hp ?_
  rw [hp2]
  exact h w' _ (I.tok _) rw'
theorem Ez{Q:Value->Shared->Prop}(hu:A.units+1<cLine)(I:Inv X pins σ H s)(g:kD H a y o)(ry:av y u)(h:∀s',Inv X pins σ H s'->Q (.bool o.isSome) s') :
  wpAny (model X.prog X.w) A (compareOp .In u (.ref a)) Q E s:=by
 rcases g with ⟨kvs,k,e,ey,l⟩|⟨kvs,k,b,e,ey,eb,l⟩
 ·subst ey
  obtain⟨z,hd,vs,rel,dd⟩:=jD I.hok e
  refine wpAny_in_of (l_ ry) hd dd.mapOf ?_
  rw [<- (rel.val k).isSome_eq,<- l]
  exact h _ (I.tok _)
 ·subst ey
  cases (show u=Value.ref b from ry)
  obtain⟨z,hd,xs,rel,dd⟩:=kC I.hok e
  refine wpAny_in_heap (tupleKind_room_in1 hu) (i6 I.hok eb) hd dd ?_
  have q:=(rel.val k).isSome_eq
  rw [Option.isSome_map]at q
  rw [<- q,<- l]
  exact h _ (I.tok _)
theorem xB{Q:Value->Shared->Prop}(hu:A.units+1<cLine)(I:Inv X pins σ H s)(g:kD H a y o)(ry:av y u)(h:∀s',Inv X pins σ H s'->Q (.bool (!o.isSome)) s') :
  wpAny (model X.prog X.w) A (compareOp .NotIn u (.ref a)) Q E s:=by
 rcases g with ⟨kvs,k,e,ey,l⟩|⟨kvs,k,b,e,ey,eb,l⟩
 ·subst ey
  obtain⟨z,hd,vs,rel,dd⟩:=jD I.hok e
  refine wpAny_notIn_of (l_ ry) hd dd.mapOf ?_
  rw [<- (rel.val k).isSome_eq,<- l]
  exact h _ (I.tok _)
 ·subst ey
  cases (show u=Value.ref b from ry)
  obtain⟨z,hd,xs,rel,dd⟩:=kC I.hok e
  refine wpAny_notIn_heap (tupleKind_room_in1 hu) (i6 I.hok eb) hd dd ?_
  have q:=(rel.val k).isSome_eq
  rw [Option.isSome_map]at q
  rw [<- q,<- l]
  exact h _ (I.tok _)
theorem qI{h':Heap}{t':Nat}{ob:HO}(I:Inv X pins σ H s)(mu:Mut (H a))(hs:Heap.SameBut a s.heap h')(he:∃q,h'.get? a=some q)(new:bw X.prog X.w (upd H a ob) h' a ob) :
  Inv X pins σ (upd H a ob) { s with heap:=h',toks:=t' } :=
 I.write (x:=a) (e:=a) mu (.inl rfl) (λb q hb z=>(hs.2 b hb).trans z) he new
theorem z6{P:Program}{w:World}{H':Hp}{h':Heap}{kvs:List (Key×V)}{vs:List (Key×Value)}(z:kvs.length<=sizeLine)(hd:(a == sysModules)=false)(rel:KV kvs vs)(dd:h'.DictOf (bG P w) a vs) :
  bw P w H' h' a (.dK kvs):=⟨z,hd,vs,rel,dd⟩
theorem sn{H':Hp}{Q:Unit->Shared->Prop}(hu:A.units+1<cLine)(I:Inv X pins σ H s)(g:kE H a y v H')(ry:av y u)(rv:av v r)(h:∀s',Inv X pins σ H' s'->Q () s') :
  wpAny (model X.prog X.w) A (setItem (.ref a) u r) Q E s:=by
 rcases g with ⟨kvs,k,e,ey,l,eH⟩|⟨kvs,k,b,e,ey,eb,l,eH⟩
 ·subst ey eH
  obtain⟨z,hd,vs,rel,dd⟩:=Ct I.hok e
  have hz:vs.length<=sizeLine:=by rw [<- rel.length];exact z
  have hl:(gB kvs k v).length<=sizeLine:=by have:=jC kvs k v;omega
  refine wpAny_setItem_pairs (hsz:=hz) (l_ ry) dd λh' dd' hs=>h _ ?_
  have he:∃q,h'.get? a=some q:=let ⟨q,_,_,hq,_⟩:=dd';⟨q,hq⟩
  exact qI I (by rw [e];exact True.intro) hs he (z6 hl hd (rel.put k rv) dd')
 ·subst ey eH
  cases (show u=Value.ref b from ry)
  obtain⟨z,hd,xs,rel,dd⟩:=Cu I.hok e
  have hz:xs.length<=sizeLine:=by rw [<- Paired.length rel];exact z
  have hl:(gB kvs k v).length<=sizeLine:=by have:=jC kvs k v;omega
  refine wpAny_setItem_heap (hsz:=hz) (tupleKind_room_in1 hu) (i6 I.hok eb) dd λh' dd' hs=>h _ ?_
  obtain⟨q,es,ep,hq,h2,h3,h4,_,h5⟩:=dd'
  refine qI I (by rw [e];exact True.intro) hs ⟨q,hq⟩ ⟨hl,hd,_,(rel.put k eb rv).keeps λc ys ec=>?_,q,es,ep,hq,h2,h3,h4,h5⟩
  rw [ak (B7 ec e (λz=>nomatch z))]
  exact ec
end
section
variable{X:Cx}{pins:List (Addr×Obj)}{σ:St}{H:Hp}{s:Shared}{a:Addr}{kvs:List (Key×V)}{k:Key}{u:Value}{A:Around}{E:Value->Shared->Prop}
end
noncomputable def Cv(i:Expr):Prop:=∀ov iv,subscripted i false ov iv=operate [ov,iv] (getItem ov iv)
theorem xC{prog:Program}{w:World}{A:Around}{E:Value->Shared->Prop}{s:Shared}{env:Env}{value slice:Expr}{pos:Pos}{T id:String}{Q:Value->Shared->Prop}
  (hl:typeLookup (.type T) "__getitem__"=pure (some (.builtin id))) (hs:Cv slice)
  (h:wpAny (model prog w) A (eval value env) (λo s₁=>wpAny (model prog w) A (eval slice env) (λi s₂=>s₂.TypeIs o T/\wpAny (model prog w) A (getItem o i) Q E s₂) E s₁) E s) :
  wpAny (model prog w) A (eval (.Subscript value slice pos) env) Q E s:=by
 refine Subscript_ (wpAny_mono h (λo s₁ h₁=>wpAny_mono h₁ (λi s₂ h₂=>?_) λ_ _ x=>x) λ_ _ x=>x)
 obtain⟨hT,h₂⟩:=h₂
 unfold subscriptTail
 refine wpAny_bind ?_
 rw [getitemInPython_of_ne hT.not_modules]
 refine wpAny_bind (wpAny_specialOf hT hl ?_)
 have fin:wpAny (model prog w) A (subscripted slice false o i) (λr s₃=>wpAny (model prog w) A (letTemporaryGo value o r >>= λ_=>pure r) Q E s₃) E s₂:=by
  rw [hs o i]
  exact wpAny_operating (wpAny_mono h₂ (λr s₃ h₃=>wpAny_bind (wpAny_letTemporaryGo (wpAny_pure h₃))) λ_ _ x=>x)
 first
  | exact wpAny_pure (wpAny_bind fin)
  | exact wpAny_bind (wpAny_pure (wpAny_bind fin))
  | exact wpAny_bind fin
theorem n_ {X:Cx}{pins:List (Addr×Obj)}{σ:St}{H:Hp}{s:Shared}{a:Addr}{y:V}{o:Option V} (I:Inv X pins σ H s) (g:kD H a y o):s.TypeIs (.ref a) "dict":=by
 rcases g with ⟨kvs,k,e,_,_⟩|⟨kvs,k,b,e,_,_,_⟩
 ·obtain⟨_,_,vs,_,dd⟩:=jD I.hok e
  exact dd.typeIs
 ·obtain⟨_,_,xs,_,dd⟩:=kC I.hok e
  exact dd.typeIs
noncomputable def Cw(td ty:TE):TE:=λσ H Q=>td σ H λx H1=>ty σ H1 λy H2=>∃a v,x=.ref a/\kD H2 a y (some v)/\Q v H2
noncomputable def EA(ty td:TE):TE:=λσ H Q=>ty σ H λy H1=>td σ H1 λx H2=>∃a o,x=.ref a/\kD H2 a y o/\Q (.bl o.isSome) H2
noncomputable def xD(ty td:TE):TE:=λσ H Q=>ty σ H λy H1=>td σ H1 λx H2=>∃a o,x=.ref a/\kD H2 a y o/\Q (.bl (!o.isSome)) H2
noncomputable def Cy(td ty tv:TE):TS:=λD σ H=>tv σ H λv H1=>td σ H1 λx H2=>ty σ H2 λy H3=>∃a H4,x=.ref a/\kE H3 a y v H4/\D.nx σ H4
section
variable{X:Cx}{o i e value:Expr}{pos pos' tpos:Pos}{td ty tv:TE}
theorem xE(hu:X.A.units+1<cLine)(ho:PE X o td)(hi:PE X i ty)(hs:Cv i):PE X (.Subscript o i pos) (Cw td ty):=by
 intro pins s σ H Q I h
 refine xC PySem.F.slot_dict_getitem.lookup hs (thn (ho pins s σ H _ I h) λu s1 ⟨x,H1,I1,rx,q1⟩=>thn (hi pins s1 σ H1 _ I1 q1) λiv s2 ⟨y,H2,I2,ry,a,v,ex,g,q2⟩=>?_)
 subst ex
 obtain rfl:u=Value.ref a:=rx
 exact⟨n_ I2 g,sk hu I2 g ry λw' s3 I3 rw'=>⟨v,H2,I3,rw',q2⟩⟩
theorem uF(hu:X.A.units+1<cLine)(hi:PE X i ty)(ho:PE X o td):PC X .In i o (EA ty td):=by
 intro pins s σ H Q I h
 refine thn (hi pins s σ H _ I h) λiv s1 ⟨y,H1,I1,ry,q1⟩=>thn (ho pins s1 σ H1 _ I1 q1) λu s2 ⟨x,H2,I2,rx,a,ov,ex,g,q2⟩=>?_
 subst ex
 obtain rfl:u=Value.ref a:=rx
 exact Ez hu I2 g ry λs3 I3=>⟨.bl ov.isSome,H2,I3,rfl,q2⟩
theorem mh(hu:X.A.units+1<cLine)(hi:PE X i ty)(ho:PE X o td):PC X .NotIn i o (xD ty td):=by
 intro pins s σ H Q I h
 refine thn (hi pins s σ H _ I h) λiv s1 ⟨y,H1,I1,ry,q1⟩=>thn (ho pins s1 σ H1 _ I1 q1) λu s2 ⟨x,H2,I2,rx,a,ov,ex,g,q2⟩=>?_
 subst ex
 obtain rfl:u=Value.ref a:=rx
 exact xB hu I2 g ry λs3 I3=>⟨.bl (!ov.isSome),H2,I3,rfl,q2⟩
theorem xF(hu:X.A.units+1<cLine)(ho:PE X o td)(hi:PE X i ty)(hv:PE X value tv)(hs:swapsWith value (some (.Subscript o i pos')) pos.line X.env=pure false) :
  PS X (.Assign [.Subscript o i pos'] value pos) (Cy td ty tv):=by
 intro pins s σ H D I h
 refine wpAny_Assign_Subscript (thn (hv pins s σ H _ I h) λr s1 ⟨v,H1,I1,rv,q1⟩=>thn (ho pins s1 σ H1 _ I1 q1) λu s2 ⟨x,H2,I2,rx,q2⟩=>thn (hi pins s2 σ H2 _ I2 q2) λiv s3 ⟨y,H3,I3,ry,a,H4,ex,g,q3⟩=>?_) hs
 subst ex
 obtain rfl:u=Value.ref a:=rx
 exact sn hu I3 g ry rv λs4 I4=>⟨σ,H4,I4,q3⟩
end
theorem uG {P:Program}{w:World}{H:Hp} (h:Heap) (hb:sysModules<h.objs.size):bw P w H (h.push { cls:=.type "dict",data:=.dict #[] }) h.objs.size (.dK []) :=
 ⟨Nat.zero_le _,beq_eq_false_iff_ne.mpr (Ne.symm (Nat.ne_of_lt hb)),[],.nil,Heap.DictOf.new h⟩
theorem uH {P:Program}{w:World}{H:Hp} (h:Heap) (hb:sysModules<h.objs.size):bw P w H (h.push { cls:=.type "dict",data:=.dict #[] }) h.objs.size (.dT []) :=
 ⟨Nat.zero_le _,beq_eq_false_iff_ne.mpr (Ne.symm (Nat.ne_of_lt hb)),[],.nil,_,#[],0,Heap.get?_push_size _ rfl,⟨rfl,rfl,rfl⟩,rfl,rfl,List.nodup_nil⟩
noncomputable def z7:TE:=λ_ H Q=>∀p,H p=none->Q (.ref p) (upd H p (.dK []))
noncomputable def z8:TE:=λ_ H Q=>∀p,H p=none->Q (.ref p) (upd H p (.dT []))
section
variable{X:Cx}{pos:Pos}
theorem uI:PE X (.Dict [] [] pos) z7:=λpins s σ H Q I h =>
 wpAny_Dict_empty ⟨.ref s.heap.objs.size,_,I.laid (a:=s.heap.objs.size) (o:=.dK []) (t':=s.toks) (λ_ _ q=>Heap.get?_push_of_some _ q) (Nat.le_refl _) (uG s.heap I.big),rfl,h _ (I.hok.fresh (Nat.le_refl _))⟩
theorem uJ:PE X (.Dict [] [] pos) z8:=λpins s σ H Q I h =>
 wpAny_Dict_empty ⟨.ref s.heap.objs.size,_,I.laid (a:=s.heap.objs.size) (o:=.dT []) (t':=s.toks) (λ_ _ q=>Heap.get?_push_of_some _ q) (Nat.le_refl _) (uH s.heap I.big),rfl,h _ (I.hok.fresh (Nat.le_refl _))⟩
end
structure M2(X:Cx)(o:Expr)(m:Str)(apos:Pos)(e f:Expr)(cpos:Pos):Prop where
 base:attributeBase o m X.env (eval o X.env)=eval o X.env
 few:((backTo cpos (starEach [e,f] X.env)).all (λx=>!x.1)&&(backToKw cpos (keywordEach [] X.env)).all (λx=>x.1.isSome)
 &&decide (([e,f]:List Expr).length+([]:List Keyword).length+(if ([]:List Keyword).isEmpty then 0 else 1)<30))=true
 line:(apos.endLine == cpos.line)=true
 trees:backTo cpos (starEach [e,f] X.env)=[(false,eval e X.env),(false,eval f X.env)]
noncomputable def IsD(H:Hp)(a:Addr):Prop:=(∃kvs,Rd H a (.dK kvs))\/∃kvs,Rd H a (.dT kvs)
theorem uK{X:Cx}{pins:List (Addr×Obj)}{σ:St}{H:Hp}{s:Shared}{a:Addr}(I:Inv X pins σ H s)(d:IsD H a) :
  s.TypeIs (.ref a) "dict"/\(∀b,Value.ref a=.ref b->∃ob,s.heap.get? b=some ob/\ob.dict=none)/\(a == sysModules)=false:=by
 rcases d with ⟨kvs,e⟩|⟨kvs,e⟩
 ·obtain⟨_,hd,vs,_,dd⟩:=jD I.hok e
  refine⟨dd.typeIs,λb q=>?_,hd⟩
  cases q
  obtain⟨ob,_,_,h1,h2,_⟩:=dd
  exact⟨ob,h1,h2.2.1⟩
 ·obtain⟨_,hd,xs,_,dd⟩:=kC I.hok e
  refine⟨dd.typeIs,λb q=>?_,hd⟩
  cases q
  obtain⟨ob,_,_,h1,h2,_⟩:=dd
  exact⟨ob,h1,h2.2.1⟩
section
variable{X:Cx}{pins:List (Addr×Obj)}{σ:St}{H:Hp}{s:Shared}{a:Addr}{y d:V}{u r:Value}{o:Option V}{A:Around}{E:Value->Shared->Prop}
theorem z9{Q:Value->Shared->Prop}(hu:A.units+1<cLine)(I:Inv X pins σ H s)(g:kD H a y o)(ry:av y u)(rd:av d r)(h:∀w' s',Inv X pins σ H s'->av (o.getD d) w'->Q w' s') :
  wpAny (model X.prog X.w) A (call (.builtin "dict.get") [.ref a,u,r]) Q E s:=by
 rcases g with ⟨kvs,k,e,ey,l⟩|⟨kvs,k,b,e,ey,eb,l⟩
 ·subst ey
  obtain⟨z,hd,vs,rel,dd⟩:=jD I.hok e
  refine call_meetsIn PySem.F.slot_dict_get dd.typeIs PySem.F.entry_dict_get (PySem.F.args_dict_get_3 _ _ _) (meets_dict_get_default (bG X.prog X.w) a (l_ ry) hd r) ⟨_,dd.mapOf,h _ _ (I.tok _) ?_⟩
  rw [l]
  exact(rel.val k).getD rd
 ·subst ey
  cases (show u=Value.ref b from ry)
  obtain⟨z,hd,xs,rel,dd⟩:=kC I.hok e
  refine call_meetsIn PySem.F.slot_dict_get dd.typeIs PySem.F.entry_dict_get (PySem.F.args_dict_get_3 _ _ _) (meetsH_dict_get_default (tupleKind (bG X.prog X.w)) a b hd r) ⟨tupleKind_room_in1 hu,k,xs,i6 I.hok eb,dd,h _ _ (I.tok _) ?_⟩
  rw [l]
  exact(rel.val k).getD rd
end
noncomputable def z_(td ty tx:TE):TE:=λσ H Q=>td σ H λx H1=>∃a,x=.ref a/\IsD H1 a/\ty σ H1 λy H2=>tx σ H2 λz H3=>∃o,kD H3 a y o/\Q (o.getD z) H3
section
variable{X:Cx}{o e f:Expr}{apos cpos:Pos}{td ty tx:TE}
theorem uL (hu:X.A.units+1<cLine) (ho:PE X o td) (he:PE X e ty) (hf:PE X f tx) (m:M2 X o "get" apos e f cpos):PE X (.Call (.Attribute o "get" apos) [e,f] [] cpos) (z_ td ty tx):=by
 intro pins s σ H Q I h
 refine wpAny_Call_method m.base m.few m.line PySem.F.plainAttrs_dict PySem.F.slot_dict_get PySem.F.type_dict_get (thn (ho pins s σ H _ I h) λu s1 ⟨x,H1,I1,rx,a,ex,d,q1⟩=>?_)
 subst ex
 obtain rfl:u=Value.ref a:=rx
 obtain⟨t1,t2,_⟩:=uK I1 d
 refine⟨t1,t2,?_⟩
 rw [m.trees]
 refine Calls.callWith_builtin rfl (Calls.evalArgs_plain (Calls.spliced_cons (thn (he pins s1 σ H1 _ I1 q1) λiv s2 ⟨y,H2,I2,ry,q2⟩ =>
  Calls.spliced_cons (thn (hf pins s2 σ H2 _ I2 q2) λfv s3 ⟨z,H3,I3,rz,ov,g,q3⟩=>Calls.spliced_nil ?_))))
 exact z9 hu I3 g ry rz λw' s4 I4 rw'=>⟨_,H3,I4,rw',q3⟩
end
section
variable{X:Cx}{pins:List (Addr×Obj)}{σ:St}{H:Hp}{s:Shared}{a:Addr}{kvs:List (Key×V)}{A:Around}{E:Value->Shared->Prop}
end
section
variable{X:Cx}{pins:List (Addr×Obj)}{σ:St}{H:Hp}{s:Shared}{a:Addr}{y:V}{u:Value}{A:Around}{E:Value->Shared->Prop}
end
end L2
namespace L2.Srt
open PySem PySem.W PyProof.Rows
section
variable{O:KeyOrd}{key:Nat->O.α}{N:Nat}{cmp:Nat->Nat->(Bool->Shared->Prop)->Shared->Prop}{s:Shared}
noncomputable def kk(key:Nat->O.α)(p:Array Nat)(i:Nat):O.α:=key (p.getD i 0)
noncomputable def ef(key:Nat->O.α)(p:Array Nat)(k:Nat):Prop:=∀i j,i<=j->j<k->O.kle (kk key p i) (kk key p j)
noncomputable def oa(key:Nat->O.α)(p:Array Nat)(k:Nat):Prop:=∀i j,i<=j->j<k->O.kle (kk key p j) (kk key p i)
noncomputable def PB(N:Nat)(p:Array Nat):Prop:=p.Perm (List.range N).toArray
theorem PB.size{p:Array Nat}(h:PB N p):p.size=N:=by have:=h.size_eq;simpa using this
theorem PB.lt{p:Array Nat}(h:PB N p){i:Nat}(hi:i<N):p.getD i 0<N:=by
 have hs:i<p.size:=by rw [h.size];exact hi
 have hm:p[i]∈(List.range N):=by
  have e:=(Array.perm_iff_toList_perm.mp h).mem_iff (a:=p[i])
  simpa using e.mp (by simp)
 have e:p.getD i 0=p[i]:=by simp [Array.getD,hs]
 rw [e];exact List.mem_range.mp hm
theorem PB.rev{p:Array Nat}(h:PB N p)(i j:Nat):PB N (kas_rev p i j):=(mirror_perm _ _ _ _).trans h
theorem PB.bub{p:Array Nat}(h:PB N p)(i j:Nat):PB N (bubble p i j):=(bubble_perm _ _ _).trans h
theorem fV{p q:Array Nat}{i j:Nat}(h:p[i]?=q[j]?):kk key p i=kk key q j:=by
 unfold kk;rw [Array.getD_eq_getD_getElem?,Array.getD_eq_getD_getElem?,h]
theorem sr{p:Array Nat}{src d:Nat}(hs:src<p.size)(hd:d<=src)(k:Nat) :
  kk key (bubble p src d) k=if k=src-d then kk key p src else if src-d<k/\k<=src then kk key p (k-1) else kk key p k:=by
 have e:=getElem?_bubble hs d hd k
 by_cases h1:k=src-d
 ·rw [if_pos h1]at e ⊢;exact fV e
 ·rw [if_neg h1]at e ⊢
  by_cases h2:src-d<k/\k<=src
  ·rw [if_pos h2]at e ⊢;exact fV e
  ·rw [if_neg h2]at e ⊢;exact fV e
theorem pN{p:Array Nat}{i j:Nat}(hj:j<=p.size)(k:Nat) :
  kk key (kas_rev p i j) k=if i<=k/\k<j then kk key p (i+j-1-k) else kk key p k:=by
 have e:=getElem?_mirror_all (i:=i) hj k
 unfold kas_rev
 by_cases h1:i<=k/\k<j
 ·rw [if_pos h1]at e ⊢;exact fV e
 ·rw [if_neg h1]at e ⊢;exact fV e
theorem cu{p:Array Nat}{i j:Nat}(hj:j<=p.size)(heq:∀k,i<=k->k<j->kk key p k=kk key p (j-1))(k:Nat) :
  kk key (kas_rev p i j) k=kk key p k:=by
 rw [pN hj]
 split
 ·rw [heq _ (by omega) (by omega),heq k (by omega) (by omega)]
 ·rfl
variable(hc:∀a b C,a<N->b<N->C (O.blt (key a) (key b)) s->cmp a b C s)
include hc
theorem og{α:Type}{p:Array Nat}{i j:Nat}{k:Bool->KasT α}{Q:α->Shared->Prop}(hp:PB N p)(hi:i<N)(hj:j<N)
  (h:(k (O.blt (kk key p i) (kk key p j))).kasWp cmp Q s):(KasT.ask (p.getD i 0) (p.getD j 0) k).kasWp cmp Q s :=
 hc _ _ _ (hp.lt hi) (hp.lt hj) h
theorem uM{p:Array Nat}{nrem:Nat}{Q:Nat->Shared->Prop}(hp:PB N p)(hn:nrem<=N):∀(f n:Nat),n+f=nrem->1<=n->ef key p n ->
  (∀m,n<=m->m<=nrem->ef key p m->(m=nrem\/O.klt (kk key p m) (kk key p (m-1)))->Q m s)->(kas_asc p f n).kasWp cmp Q s
 |0,n,e,h1,hs,h=>h n (Nat.le_refl _) (Nat.le_of_eq e) hs (.inl e)
 |f+1,n,e,h1,hs,h=>by
  show(KasT.ask (p.getD n 0) (p.getD (n-1) 0) λc=>if c=true then .ret n else kas_asc p f (n+1)).kasWp cmp Q s
  have nN:n<N:=by omega
  refine og hc hp nN (Nat.lt_of_le_of_lt (Nat.sub_le n 1) nN) ?_
  cases hless:O.blt (kk key p n) (kk key p (n-1)) with
  |true =>
   rw [if_pos rfl]
   exact h n (Nat.le_refl _) (Nat.le_trans (Nat.le_add_right n (f+1)) (Nat.le_of_eq e)) hs (.inr hless)
  |false =>
   rw [if_neg (by simp)]
   refine uM hp hn f (n+1) ((Nat.add_right_comm n 1 f).trans e) (Nat.le_add_left 1 n) (λi j hij hj=>?_) λm a b c d=>h m (Nat.le_of_succ_le a) b c d
   by_cases hjx:j<n
   ·exact hs i j hij hjx
   ·have hj':j=n:=Nat.le_antisymm (Nat.le_of_lt_succ hj) (Nat.not_lt.mp hjx)
    subst hj'
    by_cases hi':i=j
    ·subst hi';exact KeyOrd.kle_refl _
    ·exact KeyOrd.kle_trans (hs i (j-1) (Nat.le_sub_one_of_lt (Nat.lt_of_le_of_ne hij hi')) (Nat.sub_lt h1 Nat.one_pos)) hless
theorem qJ{p:Array Nat}{n nrem:Nat}{Q:Nat×Array Nat->Shared->Prop}(hp:PB N p)(hn:nrem<=N)(h1:1<=n)(hnn:n<=nrem)(hs:oa key p n)
  (h:∀m p',PB N p'->1<=m->m<=nrem->ef key p' m->Q (m,p') s):(kas_tail3 n nrem p).kasWp cmp Q s:=by
 unfold kas_tail3
 rw [KasT.kasWp_bind]
 have hz:n<=p.size:=by rw [hp.size];exact Nat.le_trans hnn hn
 refine uM hc (hp.rev 0 n) hn (nrem-n) n (Nat.add_sub_cancel' hnn) h1 (λi j hij hj=>?_) λm a b c _=>h m _ (hp.rev 0 n) (Nat.le_trans h1 a) b c
 rw [pN hz,pN hz,if_pos ⟨Nat.zero_le _,Nat.lt_of_le_of_lt hij hj⟩,if_pos ⟨Nat.zero_le _,hj⟩]
 exact hs _ _ (by omega) (by omega)
theorem m5{nrem:Nat}{Q:Array Nat×Nat×Nat->Shared->Prop}(hn:nrem<=N):∀(f:Nat) (p:Array Nat) (n q:Nat),n+f=nrem->PB N p->oa key p n->q+1<=n ->
  (∀i,n-(q+1)<=i->i<n->kk key p i=kk key p (n-1)) ->
  (∀p' m q',n<=m->m<=nrem->PB N p'->oa key p' m->q'+1<=m->(∀i,m-(q'+1)<=i->i<m->kk key p' i=kk key p' (m-1))->Q (p',m,q') s) ->
  (kas_desc f p n q).kasWp cmp Q s
 |0,p,n,q,e,hp,hs,hq,he,h=>h p n q (Nat.le_refl _) (by omega) hp hs hq he
 |f+1,p,n,q,e,hp,hs,hq,he,h=>by
  show(KasT.ask (p.getD n 0) (p.getD (n-1) 0) λc =>
   if c=true then (if q > 0 then kas_desc f (kas_rev p (n-(q+1)) n) (n+1) 0 else kas_desc f p (n+1) 0)
   else .ask (p.getD (n-1) 0) (p.getD n 0) λd=>if d=true then .ret (p,n,q) else kas_desc f p (n+1) (q+1)).kasWp cmp Q s
  have nN:n<N:=by omega
  have hz:n<=p.size:=by rw [hp.size];exact Nat.le_of_lt nN
  refine og hc hp nN (Nat.lt_of_le_of_lt (Nat.sub_le n 1) nN) ?_
  cases hless:O.blt (kk key p n) (kk key p (n-1)) with
  |true =>
   rw [if_pos rfl]
   have step1:∀p':Array Nat,(∀k,kk key p' k=kk key p k)->oa key p' (n+1):=by
    intro p' hk i j hij hj
    rw [hk,hk]
    by_cases hjx:j<n
    ·exact hs i j hij hjx
    ·have hj':j=n:=Nat.le_antisymm (Nat.le_of_lt_succ hj) (Nat.not_lt.mp hjx)
     subst hj'
     by_cases hi':i=j
     ·subst hi';exact KeyOrd.kle_refl _
     ·exact KeyOrd.kle_trans (KeyOrd.kle_of_klt hless) (hs i (j-1) (Nat.le_sub_one_of_lt (Nat.lt_of_le_of_ne hij hi')) (Nat.sub_lt (Nat.lt_of_lt_of_le (Nat.succ_pos q) hq) Nat.one_pos))
   by_cases hneq:q > 0
   ·rw [if_pos hneq]
    exact m5 hn f _ (n+1) 0 ((Nat.add_right_comm n 1 f).trans e) (hp.rev _ _) (step1 _ (cu hz he)) (Nat.le_add_left 1 n) (λi a b=>by congr 1;omega)
     λp' m q' a=>h p' m q' (Nat.le_of_succ_le a)
   ·rw [if_neg hneq]
    exact m5 hn f p (n+1) 0 ((Nat.add_right_comm n 1 f).trans e) hp (step1 _ λ_=>rfl) (Nat.le_add_left 1 n) (λi a b=>by congr 1;omega) λp' m q' a=>h p' m q' (Nat.le_of_succ_le a)
  |false =>
   rw [if_neg (by simp)]
   refine og hc hp (Nat.lt_of_le_of_lt (Nat.sub_le n 1) nN) nN ?_
   cases hlarger:O.blt (kk key p (n-1)) (kk key p n) with
   |true =>
    rw [if_pos rfl]
    exact h p n q (Nat.le_refl _) (by omega) hp hs hq he
   |false =>
    rw [if_neg (by simp)]
    have heqx:kk key p n=kk key p (n-1):=KeyOrd.kle_antisymm hlarger hless
    refine m5 hn f p (n+1) (q+1) ((Nat.add_right_comm n 1 f).trans e) hp (λi j hij hj=>?_) (Nat.succ_le_succ hq) (λi a b=>?_) λp' m q' a=>h p' m q' (Nat.le_of_succ_le a)
    ·by_cases hjx:j<n
     ·exact hs i j hij hjx
     ·have hj':j=n:=Nat.le_antisymm (Nat.le_of_lt_succ hj) (Nat.not_lt.mp hjx)
      subst hj'
      by_cases hi':i=j
      ·subst hi';exact KeyOrd.kle_refl _
      ·rw [heqx];exact hs i (j-1) (Nat.le_sub_one_of_lt (Nat.lt_of_le_of_ne hij hi')) (Nat.sub_lt (Nat.lt_of_lt_of_le (Nat.succ_pos q) hq) Nat.one_pos)
    ·rw [Nat.add_sub_cancel]
     by_cases hix:i=n
     ·subst hix;rfl
     ·rw [heqx];exact he i (by omega) (by omega)
theorem kF{p:Array Nat}{n nrem:Nat}{Q:Nat×Array Nat->Shared->Prop}(hp:PB N p)(hn:nrem<=N)(hnn:n+1<=nrem)(hs:oa key p (n+1))
  (h:∀m p',PB N p'->1<=m->m<=nrem->ef key p' m->Q (m,p') s):(kas_descPart n nrem p).kasWp cmp Q s:=by
 unfold kas_descPart
 rw [KasT.kasWp_bind]
 refine m5 hc hn (nrem-(n+1)) p (n+1) 0 (by omega) hp hs (by omega) (λi a b=>by congr 1;omega) λp' m q' hm1 hm2 hp' hs' hq he=>?_
 dsimp only
 have hz:m<=p'.size:=by rw [hp'.size];omega
 by_cases hneq:q' > 0
 ·rw [if_pos hneq]
  refine qJ hc (hp'.rev _ _) hn (by omega) hm2 (λi j hij hj=>?_) h
  rw [cu hz he,cu hz he]
  exact hs' i j hij hj
 ·rw [if_neg hneq]
  exact qJ hc hp' hn (by omega) hm2 hs' h
theorem xG{p:Array Nat}{nrem:Nat}{Q:Nat×Array Nat->Shared->Prop}(hp:PB N p)(hn:nrem<=N)(h1:1<=nrem)
  (h:∀m p',PB N p'->1<=m->m<=nrem->ef key p' m->Q (m,p') s):(kas_count nrem p).kasWp cmp Q s:=by
 unfold kas_count
 rw [KasT.kasWp_bind]
 refine uM hc hp hn (nrem-1) 1 (by omega) (Nat.le_refl _) (λi j hij hj=>by have:i=j:=Nat.le_antisymm hij (Nat.le_trans (Nat.le_of_lt_succ hj) (Nat.zero_le i));subst this;exact KeyOrd.kle_refl _) λn hn1 hn2 hsn hor=>?_
 by_cases hnn:n=nrem
 ·rw [if_pos (by simpa using hnn)]
  exact h n p hp hn1 hn2 hsn
 ·rw [if_neg (by simpa using hnn)]
  have nr:n<nrem:=Nat.lt_of_le_of_ne hn2 hnn
  have nN:=Nat.lt_of_lt_of_le nr hn
  have hlt:O.klt (kk key p n) (kk key p (n-1)):=hor.resolve_left hnn
  by_cases hgt:n > 1
  ·rw [if_pos hgt]
   refine og hc hp (Nat.lt_of_le_of_lt (Nat.zero_le n) nN) (Nat.lt_of_le_of_lt (Nat.sub_le n 1) nN) ?_
   cases hrose:O.blt (kk key p 0) (kk key p (n-1)) with
   |true =>
    rw [if_pos rfl]
    exact h n p hp hn1 hn2 hsn
   |false =>
    rw [if_neg (by simp)]
    have hsz:n<=p.size:=by rw [hp.size];exact Nat.le_of_lt nN
    have hall:∀k,0<=k->k<n->kk key p k=kk key p (n-1):=by
     intro k _ hk
     have a1:=hsn 0 k (Nat.zero_le k) hk
     have a2:=hsn k (n-1) (Nat.le_sub_one_of_lt hk) (Nat.sub_lt hn1 Nat.one_pos)
     exact KeyOrd.kle_antisymm a2 (KeyOrd.kle_trans hrose a1)
    refine kF hc (hp.rev _ _) hn nr (λi j hij hj=>?_) h
    rw [cu hsz hall,cu hsz hall]
    by_cases hjn:j<n
    ·rw [hall i (Nat.zero_le _) (Nat.lt_of_le_of_lt hij hjn),hall j (Nat.zero_le _) hjn];exact KeyOrd.kle_refl _
    ·have hj':j=n:=Nat.le_antisymm (Nat.le_of_lt_succ hj) (Nat.not_lt.mp hjn)
     subst hj'
     by_cases hi':i=j
     ·subst hi';exact KeyOrd.kle_refl _
     ·rw [hall i (Nat.zero_le _) (Nat.lt_of_le_of_ne hij hi')];exact KeyOrd.kle_of_klt hlt
  ·rw [if_neg hgt]
   have hn1':n=1:=Nat.le_antisymm (Nat.not_lt.mp hgt) hn1
   subst hn1'
   refine kF hc hp hn nr (λi j hij hj=>?_) h
   by_cases hi':i=j
   ·subst hi';exact KeyOrd.kle_refl _
   ·have hi0:i=0:=by omega
    have hj1:j=1:=by omega
    subst hi0;subst hj1
    exact KeyOrd.kle_of_klt hlt
theorem m6{p:Array Nat}{k:Nat}{Q:Nat->Shared->Prop}(hp:PB N p)(hk:k<N)(hs:ef key p k):∀(f l r:Nat),r<=l+f->l<=r->r<=k ->
  (∀i,i<l->O.kle (kk key p i) (kk key p k))->(∀i,r<=i->i<k->O.klt (kk key p k) (kk key p i)) ->
  (∀l,l<=k->(∀i,i<l->O.kle (kk key p i) (kk key p k))->(∀i,l<=i->i<k->O.klt (kk key p k) (kk key p i))->Q l s)->(kas_place p k f l r).kasWp cmp Q s
 |0,l,r,hf,hlr,hrk,hlo,hhi,h=>by
  have:l=r:=Nat.le_antisymm hlr hf
  subst this
  exact h l hrk hlo hhi
 |f+1,l,r,hf,hlr,hrk,hlo,hhi,h=>by
  show(if l>=r then KasT.ret l else .ask (p.getD k 0) (p.getD ((l+r) / 2) 0) λc=>if c=true then kas_place p k f l ((l+r) / 2) else kas_place p k f ((l+r) / 2+1) r).kasWp cmp Q s
  by_cases hge:l>=r
  ·rw [if_pos hge]
   have:l=r:=Nat.le_antisymm hlr hge
   subst this
   exact h l hrk hlo hhi
  ·rw [if_neg hge]
   obtain⟨m,em,m1,m2⟩:∃m,(l+r) / 2=m/\l<=m/\m<r:=⟨_,rfl,by omega,by omega⟩
   rw [em]
   have mk:=Nat.lt_of_lt_of_le m2 hrk
   refine og hc hp hk (Nat.lt_trans mk hk) ?_
   cases hless:O.blt (kk key p k) (kk key p m) with
   |true =>
    rw [if_pos rfl]
    exact m6 hp hk hs f l m (by omega) m1 (Nat.le_of_lt mk) hlo (λi a b=>KeyOrd.klt_of_klt_of_kle hless (hs _ _ a b)) h
   |false =>
    rw [if_neg (by simp)]
    exact m6 hp hk hs f (m+1) r (by omega) m2 hrk (λi a=>KeyOrd.kle_trans (hs i m (Nat.le_of_lt_succ a) mk) (show O.kle _ _ from hless)) hhi h
theorem y4{Q:Array Nat->Shared->Prop}:∀(f:Nat) (p:Array Nat) (k:Nat),k+f=N->PB N p->ef key p k->(∀p',PB N p'->ef key p' N->Q p' s)->(kas_bin f p k).kasWp cmp Q s
 |0,p,k,e,hp,hs,h=>by
  have:k=N:=by omega
  subst this
  exact h p hp hs
 |f+1,p,k,e,hp,hs,h=>by
  show((kas_place p k k 0 k).bind λl=>kas_bin f (bubble p k (k-l)) (k+1)).kasWp cmp Q s
  rw [KasT.kasWp_bind]
  refine m6 hc hp (by omega) hs k 0 k (Nat.le_add_left k 0) (Nat.zero_le k) (Nat.le_refl k) (λi a=>absurd a (Nat.not_lt_zero i)) (λi a b=>absurd b (Nat.not_lt.mpr a)) λl hl hlo hhi=>?_
  refine y4 f _ (k+1) (by omega) (hp.bub _ _) (λi j hij hj=>?_) h
  have hks:k<p.size:=by rw [hp.size];omega
  have val:∀i,i<k+1->(i<l/\kk key (bubble p k (k-l)) i=kk key p i)\/(i=l/\kk key (bubble p k (k-l)) i=kk key p k)\/∃i',i=i'+1/\l<=i'/\i'<k/\kk key (bubble p k (k-l)) i=kk key p i':=λi hi=>by
   rw [sr hks (Nat.sub_le k l),Nat.sub_sub_self hl]
   rcases Nat.lt_trichotomy i l with q|q|q
   ·exact .inl ⟨q,by rw [if_neg (Nat.ne_of_lt q),if_neg λz=>Nat.lt_asymm q z.1]⟩
   ·exact .inr (.inl ⟨q,by rw [if_pos q]⟩)
   ·obtain⟨c,rfl⟩:=Nat.exists_eq_add_of_lt q
    exact .inr (.inr ⟨l+c,rfl,Nat.le_add_right _ _,Nat.lt_of_succ_lt_succ hi,by rw [if_neg (Nat.ne_of_gt q),if_pos ⟨q,Nat.le_of_lt_succ hi⟩];rfl⟩)
  rcases val i (Nat.lt_of_le_of_lt hij hj) with ⟨a,e1⟩|⟨a,e1⟩|⟨i',a,b,c,e1⟩<;>rcases val j hj with ⟨a',e2⟩|⟨a',e2⟩|⟨j',a',b',c',e2⟩<;>rw [e1,e2]
  ·exact hs i j hij (Nat.lt_of_lt_of_le a' hl)
  ·exact hlo i a
  ·exact hs i j' (Nat.le_trans (Nat.le_of_lt a) b') c'
  ·exact absurd a' (Nat.not_lt.mpr (a ▸ hij))
  ·exact KeyOrd.kle_refl _
  ·exact KeyOrd.kle_of_klt (hhi j' b' c')
  ·exact absurd (Nat.lt_of_le_of_lt (a ▸ hij:i'+1<=j) a') (Nat.not_lt.mpr (Nat.le_succ_of_le b))
  ·exact absurd (a' ▸ a ▸ hij:i'+1<=l) (Nat.not_le.mpr (Nat.lt_succ_of_le b))
  ·exact hs i' j' (Nat.le_of_succ_le_succ (a' ▸ a ▸ hij:i'+1<=j'+1)) c'
theorem Aa{Q:Array Nat->Shared->Prop}(h1:1<=N)(h:∀p,PB N p->ef key p N->Q p s):(kas_sort N).kasWp cmp Q s:=by
 unfold kas_sort
 rw [KasT.kasWp_bind]
 refine xG hc (Array.Perm.refl _) (Nat.le_refl _) h1 λm p' hp' hm1 hm2 hs'=>?_
 dsimp only
 by_cases hlt:m<N
 ·rw [if_pos hlt,show max m 1=m by omega]
  exact y4 hc _ _ _ (by omega) hp' hs' h
 ·rw [if_neg hlt]
  have:m=N:=by omega
  subst this
  exact h p' hp' hs'
end
end L2.Srt
namespace L2.Srt
open PySem PyProof.Rows
theorem kG:∀a:List Int,HT.lexLt a a=false
 | []=>rfl
 |x::r=>by rw [HT.lexLt_cons,if_pos rfl];exact kG r
theorem i7:∀a b c:List Int,HT.lexLt a b=true->HT.lexLt b c=true->HT.lexLt a c=true
 | [],[],_,h,_=>by cases h
 | [],_::_,[],_,h=>by cases h
 | [],_::_,_::_,_,_=>rfl
 | _::_,[],_,h,_=>by cases h
 | _::_,_::_,[],_,h=>by cases h
 |x::a,y::b,z::c,h1,h2=>by
  rw [HT.lexLt_cons]at h1 h2 ⊢
  by_cases e1:x=y
  ·rw [if_pos e1]at h1
   by_cases e2:y=z
   ·rw [if_pos e2]at h2
    rw [if_pos (e1.trans e2)]
    exact i7 a b c h1 h2
   ·rw [if_neg e2]at h2
    rw [if_neg (λq=>e2 (e1.symm.trans q)),e1]
    exact h2
  ·rw [if_neg e1]at h1
   have q1:=of_decide_eq_true h1
   by_cases e2:y=z
   ·rw [if_neg (λq=>e1 (q.trans e2.symm)),<- e2]
    exact h1
   ·rw [if_neg e2]at h2
    have q2:=of_decide_eq_true h2
    rw [if_neg (by omega)]
    exact decide_eq_true (by omega)
theorem i8:∀a b:List Int,HT.lexLt a b=false->HT.lexLt b a=false->a=b
 | [],[],_,_=>rfl
 | [],_::_,h,_=>by cases h
 | _::_,[],_,h=>by cases h
 |x::a,y::b,h1,h2=>by
  rw [HT.lexLt_cons]at h1 h2
  by_cases e:x=y
  ·rw [if_pos e]at h1
   rw [if_pos e.symm]at h2
   rw [e,i8 a b h1 h2]
  ·rw [if_neg e]at h1
   rw [if_neg (λq=>e q.symm)]at h2
   have q1:=of_decide_eq_false h1
   have q2:=of_decide_eq_false h2
   omega
theorem xH(a b c:List Int)(h:HT.lexLt a c=true):HT.lexLt a b=true\/HT.lexLt b c=true:=by
 cases h1:HT.lexLt a b with
 |true=>exact .inl rfl
 |false =>
  cases h2:HT.lexLt b a with
  |true=>exact .inr (i7 b a c h2 h)
  |false=>rw [i8 a b h1 h2]at h;exact .inr h
noncomputable def cK:KeyOrd:=⟨List Int,HT.lexLt,kG,i7,xH,i8⟩
noncomputable def cM:KeyOrd:=⟨Int,λa b=>decide (a<b),λa=>decide_eq_false (by omega),λa b c h1 h2=>decide_eq_true (by have:=of_decide_eq_true h1;have:=of_decide_eq_true h2;omega),
 λa b c h=>by
  have:=of_decide_eq_true h
  by_cases q:a<b
  ·exact .inl (decide_eq_true q)
  ·exact .inr (decide_eq_true (by omega)),
 λa b h1 h2=>by have:=of_decide_eq_false h1;have:=of_decide_eq_false h2;omega⟩
section
variable(O:KeyOrd)
noncomputable def jM(x:O.α):List O.α->List O.α
 | []=>[x]
 |y::r=>if O.blt y x then y::jM x r else x::y::r
noncomputable def fM:List O.α->List O.α
 | []=>[]
 |x::r=>jM O x (fM r)
theorem i9(x:O.α):∀l,(jM O x l).Perm (x::l)
 | []=>.refl _
 |y::r=>by
  show(if O.blt y x then y::jM O x r else x::y::r).Perm _
  split
  ·exact(List.Perm.cons y (i9 x r)).trans (.swap x y r)
  ·exact .refl _
theorem dL:∀l,(fM O l).Perm l
 | []=>.refl _
 |x::r=>(i9 O x _).trans (.cons x (dL r))
theorem kH(x:O.α):∀l:List O.α,l.Pairwise O.kle->(jM O x l).Pairwise O.kle
 | [],_=>List.pairwise_singleton _ _
 |y::r,h=>by
  show(if O.blt y x then y::jM O x r else x::y::r).Pairwise O.kle
  obtain⟨h1,h2⟩:=List.pairwise_cons.mp h
  by_cases q:O.blt y x=true
  ·rw [if_pos q]
   refine List.pairwise_cons.mpr ⟨λz hz=>?_,kH x r h2⟩
   rcases List.mem_cons.mp ((i9 O x r).mem_iff.mp hz) with e|e
   ·rw [e];exact KeyOrd.kle_of_klt q
   ·exact h1 z e
  ·rw [if_neg q]
   have q':O.kle x y:=Bool.eq_false_iff.mpr q
   refine List.pairwise_cons.mpr ⟨λz hz=>?_,h⟩
   rcases List.mem_cons.mp hz with e|e
   ·rw [e];exact q'
   ·exact KeyOrd.kle_trans q' (h1 z e)
theorem cY:∀l,(fM O l).Pairwise O.kle
 | []=>List.Pairwise.nil
 |x::r=>kH O x _ (cY r)
theorem il:∀{a b:List O.α},a.Perm b->a.Pairwise O.kle->b.Pairwise O.kle->a=b
 | [],b,p,_,_=>p.nil_eq
 |x::a,[],p,_,_=>by have:=p.length_eq;simp at this
 |x::a,y::b,p,ha,hb=>by
  obtain⟨a1,a2⟩:=List.pairwise_cons.mp ha
  obtain⟨b1,b2⟩:=List.pairwise_cons.mp hb
  have e:x=y:=by
   have hx:x∈y::b:=p.mem_iff.mp (.head _)
   have hy:y∈x::a:=p.mem_iff.mpr (.head _)
   rcases List.mem_cons.mp hx with q|q
   ·exact q
   ·rcases List.mem_cons.mp hy with q'|q'
    ·exact q'.symm
    ·exact KeyOrd.kle_antisymm (a1 y q') (b1 x q)
  subst e
  rw [il (p.cons_inv) a2 b2]
theorem im{a l:List O.α}(p:a.Perm l)(h:a.Pairwise O.kle):a=fM O l:=il O (p.trans (dL O l).symm) h (cY O l)
theorem gF{a b:List O.α}(p:a.Perm b):fM O a=fM O b:=im O ((dL O a).trans p) (cY O a)
theorem uN{a:List O.α}(h:a.Pairwise O.kle):fM O a=a:=(im O (.refl a) h).symm
end
theorem gp{α:Type}(xs:List α)(d:α):(List.range xs.length).map (λi=>xs.getD i d)=xs:=by
 apply List.ext_getElem?
 intro i
 rw [List.getElem?_map]
 by_cases q:i<xs.length
 ·simp [List.getElem?_range,q]
 ·simp [List.getElem?_range,q]
theorem Ab{O:KeyOrd}{d:O.α}{xs:List O.α}{p:Array Nat}(hp:PB xs.length p)(hr:ef (λi=>xs.getD i d) p xs.length):p.toList.map (λi=>xs.getD i d)=fM O xs:=by
 refine im O ?_ ?_
 ·have h:=(Array.perm_iff_toList_perm.mp hp).map λi=>xs.getD i d
  have e:(List.map (λi=>xs.getD i d) (List.range xs.length).toArray.toList)=xs:=gp xs d
  rw [e]at h
  exact h
 ·rw [List.pairwise_iff_getElem]
  intro i j hi hj hij
  rw [List.length_map,Array.length_toList]at hi hj
  have hz:=hp.size
  have q:=hr i j (Nat.le_of_lt hij) (by omega)
  simp only [List.getElem_map,Array.getElem_toList]
  have ei:p.getD i 0=p[i]:=by simp [Array.getD,hi]
  have ej:p.getD j 0=p[j]:=by simp [Array.getD,hj]
  unfold kk at q
  rw [ei,ej]at q
  exact q
end L2.Srt
namespace L2.Srt
open PySem PySem.W PySem.Calls PyProof.Rows
section
variable{prog:Program}{w:World}{A:Around}{E:Value->Shared->Prop}{s:Shared}
noncomputable def KOk(κ:SortKind):Prop:=κ=tuples' true\/κ=general'\/κ=oneType'
theorem m7 {KO:SortKind->Prop}{O:KeyOrd}{key:Nat->O.α}{a:Addr}{vs:List Value}{n:Nat}{R:PySem.Fin->Shared->Prop} (ho:s.heap.get? a=some (seqObj "list" vs.toArray n)) (h64:vs.length<64)
  (hk:2<=vs.length->∀(s':Shared) (Q:SortKind->Shared->Prop),(∀b o,b≠a->s.heap.get? b=some o->s'.heap.get? b=some o)->(∀κ,KO κ->Q κ s')->wpAny (model prog w) A (keyKind' vs.toArray) Q (λ_ _=>False) s')
  (hc:∀κ,KO κ->∀(s':Shared) (i j:Nat) (C:Bool->Shared->Prop),(∀b o,b≠a->s.heap.get? b=some o->s'.heap.get? b=some o)->i<vs.length->j<vs.length->C (O.blt (key i) (key j)) s' ->
   wpAny (model prog w) A (keyLt' κ (vs.getD i Value.none) (vs.getD j Value.none)) C (λ_ _=>False) s')
  (h:∀p:Array Nat,PB vs.length p->ef key p vs.length->R (.done (.ret .none)) { s with heap:=sortedHeap s.heap a vs (p.toList.map λi=>vs.getD i Value.none).toArray }) :
  wpAny (model prog w) A (Builtin.«list.sort» ⟨[.ref a],[]⟩) R E s:=by
 rw [list_sort_plain]
 have ha:a<s.heap.objs.size:=Heap.lt_size ho
 refine wpAny_bind (listItems_at ho rfl ?_)
 refine wpAny_bind (listUpdate_at ho rfl ?_ (by rw [List.size_toArray,sizeLine_eq];omega) (Nat.zero_le _))
 obtain⟨e1,ho1⟩:∃e1,(s.heap.update a (Obj.mapSeq λ_=>(#[]:Array Value))).get? a=some (seqObj "list" #[] e1):=⟨_,get?_update_seq ho λ_=>#[]⟩
 refine wpAny_bind (seqEpoch_at ho1 rfl ?_)
 refine wpAny_bind (wpAny_newTuple ?_ (by show vs.length<=_;rw [sizeLine_eq];omega))
 refine wpAny_bind (wpAny_newList ?_ (Nat.zero_le _))
 refine wpAny_holding ?_
 have ho6:(((s.heap.update a (Obj.mapSeq λ_=>(#[]:Array Value))).push (seqObj "tuple" vs.toArray 0)).push (seqObj "list" #[] 0)).get? a=some (seqObj "list" #[] e1):=Heap.get?_push_of_some _ (Heap.get?_push_of_some _ ho1)
 have kp:∀b o,b≠a->s.heap.get? b=some o->(((s.heap.update a (Obj.mapSeq λ_=>(#[]:Array Value))).push (seqObj "tuple" vs.toArray 0)).push (seqObj "list" #[] 0)).get? b=some o:=λb o hb e =>
  Heap.get?_push_of_some _ (Heap.get?_push_of_some _ ((Heap.get?_update_other _ _ (Ne.symm hb)).trans e))
 show wpAny (model prog w) A _ R E { s with heap:=((s.heap.update a (Obj.mapSeq λ_=>(#[]:Array Value))).push (seqObj "tuple" vs.toArray 0)).push (seqObj "list" #[] 0) }
 dsimp only
 have hsz:vs.toArray.size=vs.length:=by simp
 by_cases h2:vs.toArray.size<2
 ·rw [if_pos h2,if_pos h2]
  refine wpAny_bind (wpAny_pure ?_)
  rw [StateT.run_pure]
  refine wpAny_bind (wpAny_pure ?_)
  dsimp only
  refine wpAny_bind (seqEpoch_at ho6 rfl ?_)
  refine wpAny_bind (listUpdate_at ho6 rfl ?_ (Nat.zero_le _) (by rw [Array.size_map];show(pairsOf vs).size<=_;rw [pairsOf_size,sizeLine_eq];omega))
  simp only [bne_self_eq_false,Bool.false_eq_true,if_false]
  have e:((arrOf (SortSt.mk' general' (vs.toArray.zip vs.toArray) #[] 7 none)).map (·.2))=((List.range vs.length).toArray.toList.map λi=>vs.getD i Value.none).toArray:=by
   have e2:(arrOf (SortSt.mk' general' (vs.toArray.zip vs.toArray) #[] 7 none))=vs.toArray.zip vs.toArray:=rfl
   rw [e2]
   apply Array.toList_inj.mp
   rw [gp]
   simp [List.map_snd_zip]
  refine wpAny_pure ?_
  have q:=h (List.range vs.length).toArray (Array.Perm.refl _) (λi j hij hj=>by
   have:i=j:=by omega
   subst this;exact KeyOrd.kle_refl _)
  rw [<- e]at q
  exact q
 ·rw [if_neg h2,if_neg h2]
  have h2':2<=vs.length:=by omega
  refine wpAny_bind (wpAny_mono (hk h2' _ (λκ s0=>KO κ/\s0={ s with heap:=((s.heap.update a (Obj.mapSeq λ_=>(#[]:Array Value))).push (seqObj "tuple" vs.toArray 0)).push (seqObj "list" #[] 0) }) kp λκ hκ=>⟨hκ,rfl⟩) (λκ s0 hκ=>?_) λ_ _ x=>x.elim)
  obtain⟨hκ,rfl⟩:=hκ
  refine wpAny_bind (wpAny_mono (kat_run (Q:=λst' s'=>∃p:Array Nat,p.size=vs.length/\arrOf st'=p.map (kas_item (vs.toArray.zip vs.toArray))/\failedOf st'=none/\PB vs.length p/\ef key p vs.length/\s'={ s with heap:=((s.heap.update a (Obj.mapSeq λ_=>(#[]:Array Value))).push (seqObj "tuple" vs.toArray 0)).push (seqObj "list" #[] 0) })
   (G:=λp s'=>PB vs.length p/\ef key p vs.length/\s'={ s with heap:=((s.heap.update a (Obj.mapSeq λ_=>(#[]:Array Value))).push (seqObj "tuple" vs.toArray 0)).push (seqObj "list" #[] 0) })
   rfl h2' h64 (λp' st' s' a1 a2 a3 a4=>⟨p',a1,a2,a3,a4⟩)
   (Aa (key:=key) (λi j C hi hj q=>hc κ hκ _ i j C kp hi hj q) (by omega) λp hp hr=>⟨hp,hr,rfl⟩)) ?_ λ_ _ e=>e)
  rintro ⟨⟨⟩,st'⟩ s' ⟨p,hp,har,hf,hpb,hrs,rfl⟩
  dsimp only
  have hout:=kat_snds rfl har
  refine wpAny_bind (seqEpoch_at ho6 rfl ?_)
  refine wpAny_bind (listUpdate_at ho6 rfl ?_ (Nat.zero_le _) (by rw [hout];refine Nat.le_trans (Nat.le_of_eq ?_) (show vs.length<=_ by rw [sizeLine_eq];omega);simp [hp]))
  rw [hf,hout]
  simp only [bne_self_eq_false,Bool.false_eq_true,if_false]
  exact wpAny_pure (h p hpb hrs)
theorem jE{fin:Bool}{C:Bool->Shared->Prop}:∀{vs ws:List Value}{ns ms:List Int} (i:Nat),IntsAre vs ns->IntsAre ws ms->fin=decide (ns.length<ms.length)->C (HT.lexLt ns ms) s->KatLex prog w A true fin C (vs.zip ws) i s
 | _,_,_,_,i,.nil,.nil,hf,h=>by
  rw [List.zip_nil_left]
  refine kat_nil ?_
  rw [hf]
  exact h
 | _,_,_,_,i,.nil,.cons c u hw,hf,h=>by
  rw [List.zip_nil_left]
  refine kat_nil ?_
  rw [hf,decide_eq_true (by simp)]
  exact h
 | _,_,_,_,i,.cons a t hv,.nil,hf,h=>by
  rw [List.zip_nil_right]
  refine kat_nil ?_
  rw [hf,decide_eq_false (by simp)]
  exact h
 | _,_,_,_,i,.cons (ns:=ns) a t hv,.cons (ns:=ms) c u hw,hf,h=>by
  rw [List.zip_cons_cons]
  rw [HT.lexLt_cons]at h
  refine kat_cons (wpAny_eqBool_int ?_)
  by_cases e:a=c
  ·rw [if_pos e]at h
   have q:(a == c)=true:=by rw [e];exact beq_self_eq_true c
   rw [q]
   refine kat_yes (jE (i+1) hv hw ?_ h)
   rw [hf]
   simp
  ·rw [if_neg e]at h
   have q:(a == c)=false:=beq_eq_false_iff_ne.mpr e
   rw [q]
   refine kat_no ?_
   cases i with
   |zero=>exact oneLt_int h
   |succ i=>exact kat_one _ _ (lt_int h)
theorem xI{κ:SortKind}(hk:KOk κ){a b:Addr}{its its2:Array Value}{ns ms:List Int}{C:Bool->Shared->Prop}(ha:IsTup s.heap a its)(hb:IsTup s.heap b its2)(hi:IntsAre its.toList ns)(hj:IntsAre its2.toList ms)
  (hu:A.units<cLine) (h:C (HT.lexLt ns ms) s):wpAny (model prog w) A (keyLt' κ (.ref a) (.ref b)) C E s:=by
 rcases hk with rfl|rfl|rfl
 ·obtain⟨o,ho,_,n,hd⟩:=id ha
  obtain⟨o2,ho2,_,n2,hd2⟩:=id hb
  refine kat_lt ho hd ho2 hd2 (jE 0 hi hj ?_ h)
  have z1:its.size=ns.length:=by rw [<- hi.length];simp
  have z2:its2.size=ms.length:=by rw [<- hj.length];simp
  rw [z1,z2]
 ·show wpAny _ _ (oneLt' false (.ref a) (.ref b)) _ _ _
  exact kat_one _ _ (HT.lt_tupInts ha hb hi hj hu h)
 ·rw [keyLt'_oneType,oneLt'_eq]
  simp only [if_true]
  refine wpAny_bind (wpAny_cRoomFor hu ?_)
  obtain⟨⟨cls,dd,data,sl⟩,ho,hc,n,hd⟩:=id ha
  obtain⟨⟨cls2,dd2,data2,sl2⟩,ho2,hc2,n2,hd2⟩:=id hb
  simp only at hc hd hc2 hd2
  subst hc hd hc2 hd2
  refine wpAny_bind (wpAny_callSpecialIfBound?_slot (T:="tuple") ⟨_,ho,rfl⟩ PySem.F.slot_tuple_lt (call_meets PySem.F.slot_tuple_lt (T:="tuple") ⟨_,ho,rfl⟩ PySem.F.entry_tuple_lt (PySem.F.args_tuple_lt_2 _ _) (HT.tuple_lt_ints a b its its2 n n2 dd dd2 sl sl2 ns ms hi hj) ⟨ho,ho2,?_⟩))
  exact wpAny_truthy_bool h
theorem jF:∀(vs:List Value) {Q:List (Option Value)->Shared->Prop},(∀v∈vs,∃a its ns,v=.ref a/\IsTup s.heap a its/\IntsAre its.toList ns) ->
  (∀fs:List (Option Value),fs.length=vs.length->(∀f∈fs,∀v,f=some v->∃n t,v=Value.int n t)->Q fs s)->wpAny (model prog w) A (vs.mapM firstOfTuple') Q E s
 | [],Q,_,h=>by rw [List.mapM_nil];exact wpAny_pure (h [] rfl (by simp))
 |v::vs,Q,hv,h=>by
  obtain⟨a,its,ns,rfl,⟨o,ho,hc,n,hd⟩,hi⟩:=hv v (.head _)
  rw [List.mapM_cons]
  refine wpAny_bind ?_
  rw [kas_first_eq]
  refine wpAny_bind (Looks.here (show Looks (model prog w) s.heap (typeOf (.ref a)) o.cls from(Looks.ld ho).andThen .now) ?_)
  rw [hc,if_neg (by first|decide|simp)]
  refine wpAny_bind (listItems_at ho hd (wpAny_pure ?_))
  refine wpAny_bind (jF vs (Q:=λbs s'=>wpAny (model prog w) A (pure (its[0]?::bs)) Q E s') (λu hu=>hv u (.tail _ hu)) λfs hl hf=>?_)
  refine wpAny_pure (h _ (by simp [hl]) λf hm u e=>?_)
  rcases List.mem_cons.mp hm with z|z
  ·rw [z]at e
   have hmem:u∈its.toList:=by
    rw [<- Array.getElem?_toList]at e
    exact List.mem_of_getElem? e
   exact hi.all u hmem
  ·exact hf f z u e
theorem su{vs:List Value}{Q:SortKind->Shared->Prop}(h2:2<=vs.length)(hv:∀v∈vs,∃a its ns,v=.ref a/\IsTup s.heap a its/\IntsAre its.toList ns)(h:∀κ,KOk κ->Q κ s) :
  wpAny (model prog w) A (keyKind' vs.toArray) Q E s:=by
 rw [kat_kind_eq,List.mapM_toArray,map_eq_pure_bind]
 refine wpAny_bind (wpAny_bind (jF vs hv λfs hl hf=>wpAny_pure ?_))
 by_cases hall:(fs.toArray.all λx=>x.isSome)=true
 ·rw [if_pos hall]
  refine wpAny_bind (wpAny_rule ?_)
  have hfm:(fs.toArray.filterMap id)=(fs.filterMap id).toArray:=by simp
  rw [hfm,oneTypeOnly'_eq,List.mapM_toArray,map_eq_pure_bind]
  have hints:∀v∈fs.filterMap id,∃n t,v=Value.int n t:=λv hm=>by
   obtain⟨f,hm',e⟩:=List.mem_filterMap.mp hm
   exact hf f hm' v e
  have hne:0<(fs.filterMap id).length:=by
   match fs,hl,hall with
   | [],hl,_=>simp at hl;omega
   |f::r,_,hall =>
    have:f.isSome=true:=by simp at hall;exact hall.1
    obtain⟨u,rfl⟩:=Option.isSome_iff_exists.mp this
    simp
  refine wpAny_bind (wpAny_bind (wpAny_bind (kas_mapM (r:=Value.type "int") _ (λv hm Q' hq=>?_) (wpAny_pure ?_))))
  ·obtain⟨n,t,rfl⟩:=hints v hm
   exact wpAny_pure hq
  ·have h0:(List.map (λ_=>Value.type "int") (fs.filterMap id)).toArray[0]?=some (Value.type "int"):=by
    simp [hne]
   rw [h0]
   have hall2:((List.map (λ_=>Value.type "int") (fs.filterMap id)).toArray.all λx=>x == Value.type "int")=true:=by
    simp only [List.all_toArray,List.all_map,List.all_eq_true]
    intro _ _
    rfl
   simp only [hall2,if_true]
   exact wpAny_pure (wpAny_pure (h _ (.inl rfl)))
 ·rw [if_neg hall]
  by_cases hf0:((fs.toArray[0]?).bind id).isSome=true
  ·rw [if_pos hf0]
   exact wpAny_pure (h _ (.inr (.inl rfl)))
  ·rw [if_neg hf0]
   rw [oneTypeOnly'_eq,List.mapM_toArray,map_eq_pure_bind]
   refine wpAny_bind (wpAny_bind (wpAny_bind (kas_mapM (r:=Value.type "tuple") _ (λv hm Q' hq=>?_) (wpAny_pure ?_))))
   ·obtain⟨a,its,ns,rfl,⟨o,ho,hc,n,hd⟩,hi⟩:=hv v hm
    have q:Looks (model prog w) s.heap (typeOf (.ref a)) o.cls:=(Looks.ld ho).andThen .now
    rw [hc]at q
    exact q.here hq
   ·have h0:(List.map (λ_=>Value.type "tuple") vs).toArray[0]?=some (Value.type "tuple"):=by
     have:0<vs.length:=by omega
     simp [this]
    rw [h0]
    have hall2:((List.map (λ_=>Value.type "tuple") vs).toArray.all λx=>x == Value.type "tuple")=true:=by
     simp only [List.all_toArray,List.all_map,List.all_eq_true]
     intro _ _
     rfl
    simp only [hall2,if_true]
    exact wpAny_pure (wpAny_pure (h _ (.inr (.inr rfl))))
end
end L2.Srt
namespace L2.St
open PySem PyProof.Rows
section
variable{P:Program}{w:World}{A:Around}{E:Value->Shared->Prop}{s:Shared}
theorem qK{items:Array Value}{ns:List Int}(hi:IntsAre items.toList ns):∀(i:Nat) (v:Value),items[i]?=some v->∃t,v=.int (ns.getD i 0) t :=
 λi v e=>IntsAre.int_at hi i v (by rw [Array.getElem?_toList];exact e)
theorem i_{v:Value}{vs:Array Value}{it:Addr}{Q:Option Value->Shared->Prop}(hh:A.handled=none){R:Value->Shared->Prop}
  (hR:∀e s',(∀b o,s.heap.get? b=some o->s'.heap.get? b=some o)->(∃h',s'={ s with heap:=h' })->s'.TypeIs e "StopIteration"->R e s') {QQ:PySem.Fin->Shared->Prop} :
  wpAny (model P w) A (newExc (.type "StopIteration") [] >>= λe=>(raiseNew e:Sem PySem.Fin)) QQ R s:=by
 refine wpAny_bind ?_
 simp only [newExc,newTuple]
 refine wpAny_bind (wpAny_newObj_type ?_ (by size_fits))
 refine wpAny_bind (m:=firstArgMember _ _) (wpAny_of_eq (a:=Value.none) (by first|rfl|(simp only [firstArgMember];rfl)) ?_)
 refine wpAny_newObj_type ?_ (by size_fits)
 simp only [raiseNew]
 refine wpAny_bind (wpAny_handled ?_)
 rw [hh]
 refine wpAny_bind (wpAny_pure (wpAny_throw ?_))
 exact hR _ _ (λb o e=>Heap.get?_push_of_some _ (Heap.get?_push_of_some _ e)) ⟨_,rfl⟩ ⟨_,Heap.get?_push_size _ rfl,rfl⟩
end
end L2.St
namespace L2.St
open PySem
noncomputable def jN(xs:Array Nat):Prop:=∀i j:Nat,i<j->j<xs.size->xs.getD i 0<xs.getD j 0
theorem uO{xs:Array Nat}{i:Nat}(h:i<xs.size)(d e:Nat):xs.getD i d=xs.getD i e:=by simp [Array.getD,h]
theorem kI{xs:Array Nat}{j:Nat}(hr:jN xs):∀(fuel lo hi:Nat),hi<=lo+fuel->lo<=hi->hi<=xs.size->(∀i,i<lo->xs.getD i 0<j)->(∀i,hi<=i->i<xs.size->j<=xs.getD i 0) ->
  (SetTable.below.go xs j fuel lo hi<=xs.size/\(∀i,i<SetTable.below.go xs j fuel lo hi->xs.getD i 0<j)/\∀i,SetTable.below.go xs j fuel lo hi<=i->i<xs.size->j<=xs.getD i 0)
 |0,lo,hi,hf,h1,h2,a,b=>by
  have e:SetTable.below.go xs j 0 lo hi=lo:=rfl
  rw [e]
  have:lo=hi:=Nat.le_antisymm h1 hf
  subst this
  exact⟨h2,a,b⟩
 |fuel+1,lo,hi,hf,h1,h2,a,b=>by
  have e:SetTable.below.go xs j (fuel+1) lo hi=if lo<hi then (if xs.getD ((lo+hi) / 2) j<j then SetTable.below.go xs j fuel ((lo+hi) / 2+1) hi else SetTable.below.go xs j fuel lo ((lo+hi) / 2)) else lo:=rfl
  rw [e]
  by_cases hl:lo<hi
  ·rw [if_pos hl]
   obtain⟨m,em,m1,m2⟩:∃m,(lo+hi) / 2=m/\lo<=m/\m<hi:=⟨_,rfl,by omega,by omega⟩
   rw [em]
   have hm:m<xs.size:=Nat.lt_of_lt_of_le m2 h2
   rw [uO hm j 0]
   by_cases hq:xs.getD m 0<j
   ·rw [if_pos hq]
    refine kI hr fuel _ hi (by omega) m2 h2 (λi hi'=>?_) b
    rcases Nat.lt_or_eq_of_le (Nat.le_of_lt_succ hi') with z|z
    ·exact Nat.lt_trans (hr i m z hm) hq
    ·rw [z];exact hq
   ·rw [if_neg hq]
    refine kI hr fuel lo _ (by omega) m1 (Nat.le_of_lt hm) a λi hi' hz=>?_
    rcases Nat.lt_or_eq_of_le hi' with z|z
    ·exact Nat.le_trans (Nat.not_lt.mp hq) (Nat.le_of_lt (hr m i z hz))
    ·rw [<- z];exact Nat.not_lt.mp hq
  ·rw [if_neg hl]
   have:lo=hi:=Nat.le_antisymm h1 (Nat.not_lt.mp hl)
   subst this
   exact⟨h2,a,b⟩
theorem gL{xs:Array Nat}(hr:jN xs)(j:Nat):SetTable.below xs j<=xs.size/\(∀i,i<SetTable.below xs j->xs.getD i 0<j)/\∀i,SetTable.below xs j<=i->i<xs.size->j<=xs.getD i 0 :=
 kI hr xs.size 0 xs.size (Nat.le_add_left _ _) (Nat.zero_le _) (Nat.le_refl _) (λi h=>absurd h (Nat.not_lt_zero i)) λi h1 h2=>absurd h2 (Nat.not_lt.mpr h1)
theorem lN{α:Type}(xs:Array α)(p:Nat)(x:α)(hp:p<=xs.size):(SetTable.insertAt xs p x).size=xs.size+1:=by
 unfold SetTable.insertAt;simp;omega
theorem ip{α:Type}(xs:Array α)(p:Nat)(x:α)(hp:p<=xs.size)(i:Nat):(SetTable.insertAt xs p x)[i]?=if i<p then xs[i]? else if i=p then some x else xs[i-1]?:=by
 unfold SetTable.insertAt
 have hz:((xs.extract 0 p).push x).size=p+1:=by rw [Array.size_push,Array.size_extract,Nat.min_eq_left hp,Nat.sub_zero]
 rcases Nat.lt_trichotomy i p with h1|h1|h1
 ·rw [if_pos h1,Array.getElem?_append_left (by rw [hz];exact Nat.lt_succ_of_lt h1)]
  rw [Array.getElem?_push,if_neg (by rw [Array.size_extract,Nat.min_eq_left hp];exact Nat.ne_of_lt h1),Array.getElem?_extract,if_pos (by rw [Nat.min_eq_left hp];exact h1),Nat.zero_add]
 ·subst h1
  rw [if_neg (Nat.lt_irrefl _),if_pos rfl,Array.getElem?_append_left (by rw [hz];exact Nat.lt_succ_self _)]
  rw [Array.getElem?_push,if_pos (by rw [Array.size_extract,Nat.min_eq_left hp];rfl)]
 ·obtain⟨k,rfl⟩:=Nat.exists_eq_add_of_lt h1
  rw [if_neg (Nat.lt_asymm h1),if_neg (Nat.ne_of_gt h1),Array.getElem?_append_right (by rw [hz];exact h1),hz,Array.getElem?_extract,Nat.add_right_comm,Nat.add_sub_cancel_left,Nat.min_self,Nat.add_right_comm,Nat.add_sub_cancel]
  by_cases h3:k<xs.size-p
  ·rw [if_pos h3]
  ·rw [if_neg h3,Array.getElem?_eq_none (Nat.sub_le_iff_le_add'.mp (Nat.not_lt.mp h3))]
theorem cV{xs:Array Nat}{i:Nat}:xs.getD i 0=(xs[i]?).getD 0:=Array.getD_eq_getD_getElem?
theorem oh{xs:Array Nat}(hr:jN xs){j:Nat}(hn:xs[SetTable.below xs j]?≠some j):jN (SetTable.insertAt xs (SetTable.below xs j) j):=by
 obtain⟨hp,ha,hb⟩:=gL hr j
 generalize SetTable.below xs j=p at *
 have hb':∀i,p<=i->i<xs.size->j<xs.getD i 0:=λi h1 h2=>by
  rcases Nat.lt_or_eq_of_le h1 with z|z
  ·exact Nat.lt_of_le_of_lt (hb p (Nat.le_refl _) (Nat.lt_trans z h2)) (hr p i z h2)
  ·subst z
   have e:xs[p]?=some (xs.getD p 0):=by rw [Array.getElem?_eq_getElem h2];simp [Array.getD,h2]
   exact Nat.lt_of_le_of_ne (hb p h1 h2) λz=>hn (by rw [e,<- z])
 intro i k hik hk
 rw [lN _ _ _ hp]at hk
 rw [cV,cV,ip _ _ _ hp,ip _ _ _ hp]
 rcases Nat.lt_trichotomy k p with h1|h1|h1
 ·rw [if_pos h1,if_pos (Nat.lt_trans hik h1),<- cV,<- cV]
  exact hr i k hik (Nat.lt_of_lt_of_le h1 hp)
 ·subst h1
  rw [if_neg (Nat.lt_irrefl k),if_pos rfl,if_pos hik,<- cV]
  exact ha i hik
 ·obtain⟨c,rfl⟩:=Nat.exists_eq_add_of_lt h1
  have hc:=Nat.lt_of_succ_lt_succ hk
  rw [if_neg (Nat.lt_asymm h1),if_neg (Nat.ne_of_gt h1),Nat.add_sub_cancel]
  rcases Nat.lt_trichotomy i p with h3|h3|h3
  ·rw [if_pos h3,<- cV,<- cV]
   exact hr i (p+c) (Nat.lt_of_lt_of_le h3 (Nat.le_add_right p c)) hc
  ·rw [if_neg (h3 ▸ Nat.lt_irrefl p),if_pos h3,<- cV]
   exact hb' (p+c) (Nat.le_add_right p c) hc
  ·obtain⟨b,rfl⟩:=Nat.exists_eq_add_of_lt h3
   rw [if_neg (Nat.lt_asymm h3),if_neg (Nat.ne_of_gt h3),Nat.add_sub_cancel,<- cV,<- cV]
   exact hr (p+b) (p+c) (Nat.lt_of_succ_lt_succ hik) hc
theorem pO(n:Nat):jN (Array.range n):=λi j h1 h2=>by
 rw [Array.size_range]at h2
 simp [Array.getD,h2,Nat.lt_trans h1 h2];exact h1
theorem uP:jN #[]:=λi j _ h=>by simp at h
structure Gd(L:Bool)(t:SetTable):Prop where
 led:t.led=L
 dum:t.dummies=#[]
 rise:jN t.place
theorem Gd.fresh(L:Bool):Gd L (.fresh 0 0 L):=⟨rfl,rfl,uP⟩
theorem Gd.standIn{L:Bool}{t:SetTable}(h:Gd L t)(n:Nat):Gd L (t.standIn n):=⟨h.led,rfl,pO n⟩
theorem Gd.orStandIn{L:Bool}{t:SetTable}(h:Gd L t)(n:Nat):Gd L (t.orStandIn n):=by
 unfold SetTable.orStandIn;split
 ·exact h
 ·exact h.standIn n
theorem Gd.unplain{L:Bool}{t:SetTable}(h:Gd L t):Gd L { t with plain:=false }:=⟨h.led,h.dum,h.rise⟩
theorem m8{t:SetTable}(hd:t.dummies=#[])(j:Nat):t.slot j≠.dummy:=by
 unfold SetTable.slot SetTable.has
 rw [hd]
 dsimp only
 split
 ·simp
 ·simp
theorem pP{t:SetTable}{j:Nat}(h:t.slot j=.empty):t.place[SetTable.below t.place j]?≠some j:=by
 intro e
 unfold SetTable.slot at h
 dsimp only at h
 rw [if_pos (by rw [e];simp)]at h
 cases h
theorem oj{t:SetTable}(hd:t.dummies=#[]){ha:Nat->Int}{h:Int}:∀(fuel:Nat) (p:SetTable.Probe),p.dummy=none->∀j d,SetTable.probe.go t ha h fuel p=some (.empty j d)->d=none/\t.slot j=.empty
 |0,p,hp,j,d,e=>by
  have:SetTable.probe.go t ha h 0 p=none:=rfl
  rw [this]at e;cases e
 |fuel+1,p,hp,j,d,e=>by
  have step:SetTable.probe.go t ha h (fuel+1) p=(match t.slot p.j with
   | .empty=>some (.empty p.j p.dummy)
   | .dummy=>SetTable.probe.go t ha h fuel (t.advance { p with dummy:=some p.j })
   | .live i=>if ha i == h then some (.candidate p.j i (t.advance p)) else SetTable.probe.go t ha h fuel (t.advance p)):=rfl
  rw [step]at e
  have adv:(t.advance p).dummy=none:=by unfold SetTable.advance;split<;>simp [hp]
  cases hs:t.slot p.j with
  |empty =>
   rw [hs]at e
   dsimp only at e
   cases e
   exact⟨hp,hs⟩
  |dummy=>exact absurd hs (m8 hd _)
  |live i =>
   rw [hs]at e
   dsimp only at e
   split at e
   ·cases e
   ·exact oj hd fuel _ adv j d e
theorem sw{t:SetTable}(hd:t.dummies=#[]){h:Int}{j:Nat}{b:Bool}(e:t.freeSlot h=some (j,b)):t.slot j=.empty:=by
 unfold SetTable.freeSlot at e
 split at e
 ·rename_i j' d he
  obtain⟨rfl,hs⟩:=oj hd _ _ rfl j' d he
  have:j'=j:=by
   have:=Option.some.inj e
   exact(Prod.mk.inj this).1
  exact this ▸ hs
 ·cases e
theorem Gd.put{L:Bool}{t:SetTable}(h:Gd L t){j:Nat}(hs:t.slot j=.empty):Gd L (t.put j).1:=by
 refine⟨h.led,?_,oh h.rise (pP hs)⟩
 show(if SetTable.has t.dummies j then _ else t.dummies)=#[]
 rw [if_neg (by unfold SetTable.has;rw [h.dum];simp)]
 exact h.dum
theorem Gd.layNew{L:Bool}{t:SetTable}(g:Gd L t)(es:Array (Int×Value))(h:Int)(x:Value):Gd L (layNew t es h x).2.1:=by
 unfold PySem.layNew
 cases e:t.freeSlot h with
 |none=>exact g.standIn _
 |some q =>
  obtain⟨j,b⟩:=q
  exact(g.put (sw g.dum e)).orStandIn _
theorem uQ(f:Nat->Option Nat)(n:Nat):jN ((((List.range n).filterMap λj=>(f j).map λi=>(j,i)).map λq:Nat×Nat=>q.1).toArray):=by
 have e:((List.range n).filterMap λj=>(f j).map λi=>(j,i)).map (λq:Nat×Nat=>q.1)=(List.range n).filter λj=>(f j).isSome:=by
  generalize List.range n=l
  induction l with
  |nil=>rfl
  |cons a l ih =>
   cases h:f a<;>simp [List.filterMap_cons,List.filter_cons,h,ih]
 rw [e]
 have hp:((List.range n).filter λj=>(f j).isSome).Pairwise (· < ·):=List.Pairwise.filter _ List.pairwise_lt_range
 intro i j hij hj
 have hj':j<((List.range n).filter λj=>(f j).isSome).length:=by simpa using hj
 have hi':i<((List.range n).filter λj=>(f j).isSome).length:=Nat.lt_trans hij hj'
 have:=List.pairwise_iff_getElem.mp hp i j hi' hj' hij
 simpa [Array.getD,hj',hi'] using this
theorem Gd.relaid{L:Bool}{t t':SetTable}(g:Gd L t){hs:Array Int}{n:Nat}{o:Array Nat}(e:t.relaid hs n=some (t',o)):Gd L t':=by
 unfold SetTable.relaid SetTable.laid at e
 cases h:SetTable.layClean (SetTable.sizeAbove n-1) hs with
 |none=>rw [h]at e;cases e
 |some ow =>
  rw [h]at e
  cases e
  exact⟨g.led,rfl,uQ (λj=>ow.getD j none) _⟩
theorem Gd.relayAll{L:Bool}{t:SetTable}(g:Gd L t)(es:Array (Int×Value))(n:Nat):Gd L (relayAll t es n).2.1:=by
 unfold PySem.relayAll
 cases e:t.relaid (es.map (·.1)) n with
 |none=>exact g.standIn _
 |some q =>
  obtain⟨t',o⟩:=q
  dsimp only
  split
  ·exact g.relaid e
  ·exact g.standIn _
end L2.St
namespace L2.St
open PySem PyProof.Rows
noncomputable def byT (w:World):Bool:=w.params.followText "set-order"
structure Arr(P:Program)(w:World)(ks:List Int)(es:Array (Int×Value))(t:SetTable):Prop where
 el:ElemsOf (intKind P w) es.toList
 pm:(es.toList.map λe=>numOf e.2).Perm ks
 nd:ks.Nodup
 bd:es.size<scanBound
 fi:t.fits es.size=true
 gd:Gd (!byT w) t
noncomputable def c_(P:Program)(w:World)(h:Heap)(a:Addr)(ks:List Int):Prop :=
 ∃o es ep t,h.get? a=some o/\o.ExactSet/\o.data=.set es ep t/\ElemsOf (intKind P w) es.toList/\(es.toList.map λe=>numOf e.2).Perm ks/\ks.Nodup/\es.size<scanBound/\t.fits es.size=true/\Gd (!byT w) t
section
variable{P:Program}{w:World}{h h':Heap}{a:Addr}{ks ks':List Int}{o:Obj}{es:Array (Int×Value)}{ep:Nat}{t:SetTable}
theorem c_.arr(g:c_ P w h a ks):∃o es ep t,(h.get? a=some o/\o.ExactSet/\o.data=.set es ep t)/\Arr P w ks es t:=by
 obtain⟨o,es,ep,t,ho,hex,hd,c1,c2,c3,c4,c5,c6⟩:=g
 exact⟨o,es,ep,t,⟨ho,hex,hd⟩,⟨c1,c2,c3,c4,c5,c6⟩⟩
theorem Arr.set(r:Arr P w ks es t)(ho:h.get? a=some o)(hex:o.ExactSet)(hd:o.data=.set es ep t):c_ P w h a ks :=
 ⟨o,es,ep,t,ho,hex,hd,r.el,r.pm,r.nd,r.bd,r.fi,r.gd⟩
theorem Arr.len(r:Arr P w ks es t):es.size=ks.length:=by simpa using r.pm.length_eq
theorem Arr.bare(r:Arr P w ks es t)(b:Bool):Arr P w ks es (if b=true then t else { t with plain:=false }):=by
 cases b
 ·exact⟨r.el,r.pm,r.nd,r.bd,SetTable.fits_plain_off r.fi,r.gd.unplain⟩
 ·exact r
theorem Arr.lay(r:Arr P w ks es t){k:Int}(tk:Tok)(hk:k∉ks)(hb:ks.length+1<scanBound):Arr P w (k::ks) (layNew t es (hashInt k) (.int k tk)).1 (layNew t es (hashInt k) (.int k tk)).2.1:=by
 have p:(layNew t es (hashInt k) (.int k tk)).1.toList.Perm (es.toList ++ [(hashInt k,.int k tk)]):=by simpa using layNew_perm t es (hashInt k) (.int k tk)
 have z:=p.length_eq
 have l:=r.len
 constructor
 ·exact ElemsOf.perm (r.el.push (k:=k) (x:=.int k tk) (intKind_is _ _ _ _) rfl) p
 ·have q:((es.toList ++ [(hashInt k,Value.int k tk)]).map λe=>numOf e.2).Perm (k::ks):=by
   rw [List.map_append]
   exact List.perm_append_comm.trans (r.pm.cons k)
  exact(p.map _).trans q
 ·exact List.nodup_cons.mpr ⟨hk,r.nd⟩
 ·simp at z;omega
 ·exact layNew_fits _ _ _ _
 ·exact r.gd.layNew _ _ _
theorem Arr.relay(r:Arr P w ks es t)(n:Nat):Arr P w ks (relayAll t es n).1 (relayAll t es n).2.1:=by
 have p:=relayAll_perm t es n
 have z:=p.length_eq
 have b:=r.bd
 exact⟨r.el.perm p,(p.map _).trans r.pm,r.nd,by simp at z;omega,relayAll_fits t es n,r.gd.relayAll es n⟩
theorem c_.at(g:c_ P w h a ks)(k:∀o,h.get? a=some o->h'.get? a=some o):c_ P w h' a ks:=by
 obtain⟨o,es,ep,t,⟨ho,hex,hd⟩,r⟩:=g.arr
 exact r.set (k o ho) hex hd
end
theorem mj{P:Program}{w:World}{es:List (Int×Value)}(h:ElemsOf (intKind P w) es):∀e∈es,∃t,e.2=.int (numOf e.2) t:=λe he=>by
 obtain⟨⟨k,hk,_⟩,_⟩:=h e he
 obtain⟨t,q⟩:=Value.isInt_shape (show Value.isInt k e.2=true from hk)
 exact⟨t,by rw [q];rfl⟩
theorem m9{P:Program}{w:World}{es:List (Int×Value)}(h:ElemsOf (intKind P w) es){e:Int×Value}(he:e∈es)(k:Int):(intKind P w).is k e.2=true ↔ numOf e.2=k:=by
 obtain⟨t,q⟩:=mj h e he
 constructor
 ·intro z
  obtain⟨t',q'⟩:=Value.isInt_shape (show Value.isInt k e.2=true from z)
  rw [q'];rfl
 ·intro z
  rw [q,z]
  exact intKind_is _ _ _ _
section
variable{P:Program}{w:World}{A:Around}{E:Value->Shared->Prop}{s:Shared}
noncomputable def Now(P:Program)(w:World)(a:Addr)(s:Shared)(ks:List Int)(s':Shared):Prop :=
 ∃h',s'={ s with heap:=h' }/\Heap.SameBut a s.heap h'/\c_ P w h' a ks
theorem Now.stay{a:Addr}{ks:List Int}(g:c_ P w s.heap a ks):Now P w a s ks s:=⟨s.heap,rfl,Heap.SameBut.refl a s.heap,g⟩
theorem xJ{h:Heap}{a:Addr}{o:Obj}{es:Array (Int×Value)}{ep:Nat}{t:SetTable}(ho:h.get? a=some o)(hex:o.ExactSet)(hd:o.data=.set es ep t)
  {es':Array (Int×Value)}{t':SetTable}{ks:List Int} (r:Arr P w ks es' t'):c_ P w (h.update a (Obj.putSet es' t')) a ks:=by
 refine r.set (o:={ o with data:=.set es' (ep+1) t' }) (ep:=ep+1) ?_ hex rfl
 have e:Obj.putSet es' t' o={ o with data:=.set es' (ep+1) t' }:=putSet_of es' t' hd
 rw [<- e]
 exact Heap.get?_update_self _ ho (by rw [e];rfl)
theorem Now.put{a:Addr}{ks ks':List Int}{s':Shared}(n:Now P w a s ks s'){es:Array (Int×Value)}{t:SetTable}(r:Arr P w ks' es t){Q:Unit->Shared->Prop}(h:∀s'',Now P w a s ks' s''->Q () s'') :
  wpAny (model P w) A (storeSet a es t) Q E s':=by
 obtain⟨h',rfl,sb,g⟩:=n
 obtain⟨o,_,_,_,⟨ho,hex,hd⟩,_⟩:=g.arr
 exact wpAny_storeSet_of ho hd (h _ ⟨_,rfl,sb.trans (Heap.SameBut.update h' a _),xJ ho hex hd r⟩) (fits_of_scanBound r.bd)
theorem Cz{m:Sem Unit}{s':Shared}{Q:Unit->Shared->Prop}(hm:m=pure ()\/∃n,m=rule n)(h:Q () s'):wpAny (model P w) A m Q E s':=by
 rcases hm with rfl|⟨n,rfl⟩
 ·exact wpAny_pure h
 ·exact wpAny_rule h
theorem CA(k:Int)(tk:Tok)(c:Bool){s':Shared}{f:Bool->Sem (Option Bool)}{Q:Option Bool->Shared->Prop}(h:∀b,wpAny (model P w) A (f b) Q E s') :
  wpAny (model P w) A (if c=true then hashByValue 8 (.int k tk) >>= f else (pure true:Sem Bool) >>= f) Q E s':=by
 cases c
 ·exact wpAny_bind (wpAny_pure (h true))
 ·rw [if_pos rfl,hashByValue_scannable 8 (show(Value.int k tk).scannable=true from rfl)]
  exact wpAny_bind (wpAny_pure (h _))
theorem sx{a:Addr}{ks:List Int}{k:Int}{tk:Tok}{Q:Bool->Shared->Prop}(hS:c_ P w s.heap a ks)(hroom:ks.length+1<scanBound)
  (h:∀h' b,Heap.SameBut a s.heap h'->c_ P w h' a (if k∈ks then ks else k::ks)->Q b { s with heap:=h' }) :
  wpAny (model P w) A (setAddHashed a (.int k tk) (hashInt k)) Q E s:=by
 have fin:∀b s',Now P w a s (if k∈ks then ks else k::ks) s'->Q b s':=by
  rintro b _ ⟨h',rfl,sb,g⟩
  exact h h' b sb g
 have now:=Now.stay hS
 obtain⟨o,es,ep,t,⟨ho,hex,hd⟩,r⟩:=hS.arr
 have here:k∈ks ↔ ((es.toList.findIdx? λe=>(intKind P w).is k e.2).isSome=true):=by
  rw [List.findIdx?_isSome,List.any_eq_true,<- r.pm.mem_iff,List.mem_map]
  exact⟨λ⟨e,he,q⟩=>⟨e,he,(m9 r.el he k).mpr q⟩,λ⟨e,he,q⟩=>⟨e,he,(m9 r.el he k).mp q⟩⟩
 unfold setAddHashed setAddHashedIn
 refine wpAny_holding (wpAny_bind (wpAny_setState_of ho hd r.fi ?_))
 dsimp only
 rw [byScan_of (x:=.int k tk) rfl r.bd r.el,if_pos rfl]
 refine wpAny_bind ?_
 unfold setAddByScan
 refine wpAny_bind (wpAny_rule (wpAny_bind (wpAny_setScan_of (knd:=intKind P w) (intKind_is _ _ _ _) ho hd r.fi r.el ?_)))
 rcases hf:es.toList.findIdx? λe=>(intKind P w).is k e.2 with _|j
 ·rw [hf]
  have hk:k∉ks:=λz=>by rw [here,hf]at z;exact Bool.noConfusion z
  rw [if_neg hk]at fin
  have r1:=r.lay tk hk hroom
  rcases hl:layNew t es (hashInt k) (.int k tk) with ⟨es1,t1,dm,gv⟩
  rw [hl]at r1
  dsimp only at r1 ⊢
  refine wpAny_bind (Cz ?_ ?_)
  ·cases gv
   ·exact .inl rfl
   ·exact .inr ⟨_,rfl⟩
  refine CA k tk _ λb=>?_
  have r2:=r1.bare b
  generalize (if b=true then t1 else _)=t2 at r2 ⊢
  refine wpAny_bind (now.put r2 λs2 n2=>?_)
  refine wpAny_ite_split (λ_=>?_) (λ_=>wpAny_pure (wpAny_pure (fin _ _ n2)))
  have r3:=r2.relay (SetTable.grown es1.size)
  rcases hm:relayAll t2 es1 (SetTable.grown es1.size) with ⟨es3,t3,gv3⟩
  rw [hm]at r3
  dsimp only at r3 ⊢
  refine wpAny_bind (Cz ?_ ?_)
  ·cases gv3
   ·exact .inl rfl
   ·exact .inr ⟨_,rfl⟩
  exact wpAny_bind (n2.put r3 λs3 n3=>wpAny_pure (wpAny_pure (fin _ _ n3)))
 ·rw [hf]
  have hk:k∈ks:=here.mpr (by rw [hf];rfl)
  rw [if_pos hk]at fin
  exact wpAny_pure (wpAny_pure (fin _ _ now))
end
noncomputable def dd:List Int->List Int
 | []=>[]
 |k::r=>if k∈dd r then dd r else k::dd r
theorem gM{k:Int}:∀{l:List Int},k∈dd l ↔ k∈l
 | []=>Iff.rfl
 |x::r=>by
  show k∈(if x∈dd r then dd r else x::dd r) ↔ _
  have ih:=@gM k r
  by_cases h:x∈dd r
  ·rw [if_pos h,ih,List.mem_cons]
   exact⟨.inr,λz=>z.elim (λe=>by rw [e];exact gM.mp h) id⟩
  ·rw [if_neg h,List.mem_cons,List.mem_cons,ih]
theorem dd_nodup:∀l:List Int,(dd l).Nodup
 | []=>List.nodup_nil
 |x::r=>by
  show(if x∈dd r then dd r else x::dd r).Nodup
  by_cases h:x∈dd r
  ·rw [if_pos h];exact dd_nodup r
  ·rw [if_neg h];exact List.nodup_cons.mpr ⟨h,dd_nodup r⟩
theorem uR:∀l:List Int,(dd l).length<=l.length
 | []=>Nat.le_refl _
 |x::r=>by
  show(if x∈dd r then dd r else x::dd r).length<=_
  have:=uR r
  by_cases h:x∈dd r
  ·rw [if_pos h,List.length_cons];omega
  ·rw [if_neg h,List.length_cons,List.length_cons];omega
noncomputable def But(ws:List Addr)(s s':Shared):Prop :=
 ∃h' tk,s'={ s with heap:=h',toks:=tk }/\∀b o,b∉ws->s.heap.get? b=some o->h'.get? b=some o
theorem But.on{ws vs:List Addr}{s s' s'':Shared}(x:But ws s s')(y:But vs s' s'')(hs:∀b∈ws,b∈vs):But vs s s'':=by
 obtain⟨h1,t1,rfl,k1⟩:=x
 obtain⟨h2,t2,rfl,k2⟩:=y
 exact⟨h2,t2,rfl,λb o hb e=>k2 b o hb (k1 b o (λz=>hb (hs b z)) e)⟩
section
variable{P:Program}{w:World}{A:Around}{R:Result->Shared->Prop}{I S:Addr}{fp wr:List Addr}{n:Nat}{Pv:Nat->Value->Prop}{St:Nat->Heap->Prop}
noncomputable abbrev upd (S I:Addr):Code:=.builtin "set.update.loop" ⟨[.ref S,.ref I],[]⟩
theorem ol{s:Shared} (h:wpAny (model P w) A.in1 (pyNext (.ref I)) (λv s'=>match v with
   |none=>R (.ok (.ret .none)) s'
   |some x=>wpAny (model P w) A.in1 (setAdd S x) (λ_ s''=>codeAny (model P w) A (upd S I) R s'') (λe s''=>R (.error e) s'') s') (λe s'=>R (.error e) s') s) :
  codeAny (model P w) A (upd S I) R s:=by
 have pl:=PyProof.Rows.F.plain_set_update_loop
 apply codeAny_builtin PyProof.Rows.F.entry_set_update_loop
 rw [Around.under_plainId pl]
 apply wpAny_bind (m:=pyNext (.ref I))
 refine wpAny_mono h (λv s' hv=>?_) λ_ _ x=>x
 cases v with
 |none=>exact wpAny_pure hv
 |some x =>
  refine wpAny_bind (wpAny_holding (wpAny_mono hv (λ_ s'' hc=>?_) λ_ _ x=>x))
  exact wpAny_pure ⟨plainId_quiet pl _,hc⟩
theorem add_int{s:Shared}{E:Value->Shared->Prop}{B:Around}{ks:List Int}{k:Int}{t:Tok}(g:c_ P w s.heap S ks)(room:ks.length+1<scanBound){Q:Bool->Shared->Prop}
  (h:∀b s',But [S] s s'->c_ P w s'.heap S (if k∈ks then ks else k::ks)->(∀b,b≠S->s'.heap.get? b=s.heap.get? b)->Q b s'):wpAny (model P w) B (setAdd S (.int k t)) Q E s:=by
 unfold setAdd
 refine wpAny_holding (wpAny_bind ((intKind P w).pyHash (k:=k) (intKind_is _ _ _ _) ?_))
 refine sx (s:={ s with toks:=s.toks+1 }) g room λh' b sb g'=>h b _ ⟨h',_,rfl,λc o hc e=>?_⟩ g' λc hc=>?_
 ·rw [sb.2 c (by simpa using hc)];exact e
 ·exact sb.2 c hc
theorem qM(W:Walks P w A.in1 I fp wr n Pv St)(hS:S∉fp)(xs:List Int)(hn:xs.length=n)(hv:∀i v,Pv i v->∃t,v=.int (xs.getD i 0) t)(hb:n+1<scanBound) :
  ∀(m i:Nat) (s:Shared),i+m=n->St i s.heap->c_ P w s.heap S (dd (xs.take i).reverse)->(∀s',But (S::wr) s s'->c_ P w s'.heap S (dd xs.reverse)->R (.ok (.ret .none)) s') ->
   codeAny (model P w) A (upd S I) R s
 |0,i,s,e,st,g,h=>by
  have hi:i=n:=e
  subst hi
  refine ol (W.done s _ _ st λh' tk kp=>h _ ⟨h',tk,rfl,λb o hb'=>kp b o λz=>hb' (.tail _ z)⟩ ?_)
  rw [List.take_of_length_le (by omega)]at g
  exact g.at λo=>kp S o λz=>hS (W.sub S z)
 |m+1,i,s,e,st,g,h=>by
  have hi:i<n:=by omega
  refine ol (W.item i s _ _ hi st λv h1 tk1 pv st1 kp=>?_)
  obtain⟨t,rfl⟩:=hv i v pv
  have b1:But wr s { s with heap:=h1,toks:=tk1 }:=⟨h1,tk1,rfl,kp⟩
  have l:(dd (xs.take i).reverse).length+1<scanBound:=by
   have:=uR (xs.take i).reverse
   simp at this;omega
  refine add_int (g.at λo=>kp S o λz=>hS (W.sub S z)) l λ_ s2 b2 g2 st2=>?_
  refine qM W hS xs hn hv hb m (i+1) s2 (by omega) (W.frame _ h1 _ st1 λb hb' o e'=>?_) ?_ λs3 b3 g3=>h s3 ?_ g3
  ·rw [st2 b λz=>hS (z ▸ hb')];exact e'
  ·have:xs.take (i+1)=xs.take i ++ [xs.getD i 0]:=by
    rw [List.take_succ,List.getD_eq_getElem?_getD,List.getElem?_eq_getElem (by omega)];rfl
   rw [this,List.reverse_append]
   exact g2
  ·exact(b1.on (b2.on b3 (by simp)) λb z=>.tail _ z)
end
end L2.St
namespace L2.St
open PySem PyProof.Rows
section
variable{P:Program}{w:World}{A:Around}{E:Value->Shared->Prop}{s:Shared}
theorem eZ{Q:Bool->Shared->Prop}(h:Q (byT w) s):wpAny (model P w) A setsByText Q E s:=by
 unfold setsByText
 exact wpAny_bind (wpAny_askSetting (wpAny_pure h))
noncomputable abbrev ja (w:World):Obj:={ cls:=.type "set",dict:=none,data:=.set #[] 0 (.fresh 0 0 (!byT w)) }
noncomputable abbrev aX(w:World)(s:Shared):Shared:={ s with heap:=s.heap.push (ja w) }
theorem xK {Q:Value->Shared->Prop} (h:Q (.ref s.heap.objs.size) (aX w s)):wpAny (model P w) A (newSet (.type "set")) Q E s:=by
 unfold newSet
 refine wpAny_bind (eZ ?_)
 dsimp only
 simp only [newObj]
 exact wpAny_bind (wpAny_alloc (wpAny_pure h))
theorem uS(h:Heap):c_ P w (h.push (ja w)) h.objs.size [] :=
 Arr.set (es:=#[]) (ep:=0) ⟨λe he=>by simp at he,by simp,List.nodup_nil,by decide,rfl,Gd.fresh _⟩ (Heap.get?_push_size _ rfl) ⟨rfl,rfl,rfl⟩ rfl
theorem xL (x:Value) {Q:Value->Shared->Prop} (h:Q (.ref s.heap.objs.size) (aX w s)):codeAny (model P w) A (.call (.builtin "set.__new__") ⟨[.type "set",x],[]⟩) (wants Q E) s:=by
 refine codeAny_call_builtin PySem.F.plain_set_new PySem.F.entry_set_new (wpAny_of_eq (PySem.F.newCall_set_1 x) ?_)
 have cls:∀{R:Value×List Value->Shared->Prop}{F:Value->Shared->Prop},R (.type "set",[x]) s->wpAny (model P w) A.in1 (Builtin.Frozenset.newClass "set" ⟨[.type "set",x],[]⟩) R F s:=by
  intro R F hr
  have hsub:=sub_set_self
  unfold Builtin.Frozenset.newClass
  obtain⟨hp,g,d,tk,os⟩:=s
  wp_walk
  exact hr
 unfold Builtin.«set.__new__»
 exact wpAny_bind (cls (wpAny_bind (xK (wpAny_pure h))))
theorem uT(x:Value){Q:Value->Shared->Prop}
  (hU:∀B:Around,B.handled=A.handled->wpAny (model P w) B (Builtin.Frozenset.updateFrom "set.__init__" s.heap.objs.size x) (λ_ s'=>Q (.ref s.heap.objs.size) s') E (aX w s)) :
  wpAny (model P w) A (call (.type "set") [x]) Q E s:=by
 have at0:(aX w s).heap.get? s.heap.objs.size=some (ja w):=Heap.get?_push_size _ rfl
 have init:codeAny (model P w) A.in1 (.call (.builtin "set.__init__") ⟨[.ref s.heap.objs.size,x],[]⟩) (wants (λr s'=>r=.none/\Q (.ref s.heap.objs.size) s') E) (aX w s):=by
  refine codeAny_call_builtin PySem.F.called_set.init.plain PySem.F.entry_set_init (check_set_init_1 ⟨_,at0,rfl⟩ ?_)
  have hu:=hU A.in1.in1 (by simp)
  generalize hw:aX w s=s1 at at0 hu ⊢
  generalize s.heap.objs.size=S at at0 hu ⊢
  obtain⟨hp,g,d,tk,os⟩:=s1
  unfold Builtin.«set.__init__» noKeywords
  generalize Builtin.Frozenset.updateFrom=U at hu ⊢
  wp_walk
  exact wpAny_mono hu (λ_ s' hq=>wpAny_pure ⟨rfl,hq⟩) λ_ _ z=>z
 have ft:=PySem.F.called_set
 refine wpAny_call (codeAny_of_tree (wpAny_pure ⟨Code.quiet_builtin _ (by decide +kernel),codeAny_builtin PySem.F.entry_type_call ?_⟩))
 rw [Around.under_plain (weight_type_call_type "set" [x] []) rfl]
 have f1:=ft.notType;have f2:=ft.canCreate;have f3:=ft.made;have f4:=ft.sub
 have f5:=PySem.F.typeCall_set_1 x
 obtain⟨c,tl,f6⟩:=ft.mro
 repeat (any_goals (first|assumption|wp_step))
 refine codeAny_mono (xL x (E:=E) (Q:=λv s'=>v=.ref s.heap.objs.size/\s'=aX w s) ⟨rfl,rfl⟩) λr s1 hr=>?_
 match r,hr with
 | .error e,hr=>exact hr
 | .ok (.ret v),hr =>
  obtain⟨rfl,rfl⟩:=hr
  have f7:Shared.TypeIs (aX w s) (.ref s.heap.objs.size) "set":=⟨_,at0,rfl⟩
  have f8:=ft.init.lookup;have f9:=ft.init.bind (.ref s.heap.objs.size)
  repeat (any_goals (first|assumption|wp_step))
  refine codeAny_mono init λr s2 hr=>?_
  match r,hr with
  | .error e,hr=>exact hr
  | .ok (.ret v),hr =>
   obtain⟨rfl,hq⟩:=hr
   show wpAny _ A.in1 (pure (some Value.none)) _ _ _
   exact wpAny_pure (wpAny_pure hq)
theorem kJ {l:Addr}{tn:String}{o:Obj} (x:s.heap.get? l=some o) (hc:o.cls=.type tn) (hd:(Value.type tn == .type "dict")=false)
  (ns1:isSubtype (.type tn) (.type "set")=pure false) (ns2:isSubtype (.type tn) (.type "frozenset")=pure false)
  {ns:List Int}{Pv:Nat->Value->Prop}{St:Nat->Heap->Prop} (hv:∀i v,Pv i v->∃t,v=.int (ns.getD i 0) t) (hb:ns.length+1<scanBound) {io:Obj}
  (W:∀B:Around,B.handled=A.handled->Walks P w B ((aX w s).heap.objs.size) [(aX w s).heap.objs.size,l] [(aX w s).heap.objs.size] ns.length Pv St)
  (it:∀(B:Around) (E':Value->Shared->Prop) (R:Value->Shared->Prop),R (.ref (aX w s).heap.objs.size) { s with heap:=(aX w s).heap.push io }->wpAny (model P w) B (pyIter (.ref l)) R E' (aX w s))
  (st:St 0 ((aX w s).heap.push io)) {Q:Value->Shared->Prop}
  (h:∀(h':Heap) (tk:Nat),c_ P w h' s.heap.objs.size (dd ns.reverse)->(∀b o,s.heap.get? b=some o->h'.get? b=some o)->Q (.ref s.heap.objs.size) { s with heap:=h',toks:=tk }) :
  wpAny (model P w) A (call (.type "set") [.ref l]) Q E s:=by
 have z1:(aX w s).heap.objs.size=s.heap.objs.size+1:=Heap.size_push ..
 have far:∀b,b<s.heap.objs.size->b∉[s.heap.objs.size,(aX w s).heap.objs.size]:=λb hb=>by
  rw [z1]
  simp only [List.mem_cons,List.not_mem_nil,or_false,not_or]
  exact⟨Nat.ne_of_lt hb,Nat.ne_of_lt (Nat.lt_succ_of_lt hb)⟩
 have kept:∀b o,s.heap.get? b=some o->((aX w s).heap.push io).get? b=some o:=λb o e=>Heap.get?_push_of_some _ (Heap.get?_push_of_some _ e)
 refine uT _ λB hB=>?_
 have hT:(aX w s).TypeIs (.ref l) tn:=⟨o,Heap.get?_push_of_some _ x,hc⟩
 unfold Builtin.Frozenset.updateFrom Builtin.Frozenset.isAnySet
 refine wpAny_bind (wpAny_bind (wpAny_isInstance hT ns1 ?_))
 show wpAny _ _ (isInstance (.ref l) (.type "frozenset")) _ _ _
 refine wpAny_isInstance hT ns2 ?_
 rw [if_neg Bool.false_ne_true]
 refine wpAny_bind (wpAny_typeOf hT ?_)
 rw [hd,if_neg Bool.false_ne_true]
 refine wpAny_bind (it _ _ _ (wpAny_bind (wpAny_runValue ?_)))
 have hS:s.heap.objs.size∉[(aX w s).heap.objs.size,l]:=by
  have:=Heap.lt_size x
  rw [z1]
  simp only [List.mem_cons,List.not_mem_nil,or_false,not_or]
  exact⟨Nat.ne_of_lt (Nat.lt_succ_self _),Nat.ne_of_gt this⟩
 refine qM (W _ (by simpa using hB)) hS ns rfl hv hb ns.length 0 _ (by omega) st ((uS s.heap).at λo e=>Heap.get?_push_of_some _ e) ?_
 rintro s' ⟨h',tk,rfl,kp⟩ g
 exact wpAny_pure (h h' tk g λb o e=>kp b o (far b (Heap.lt_size e)) (kept b o e))
theorem set_list{l:Addr}{items:Array Value}{ns:List Int}{Q:Value->Shared->Prop}
  (hh:A.handled=none) (hl:s.heap.IsList l items) (hi:IntsAre items.toList ns) (hb:items.size+1<scanBound)
  (h:∀(h':Heap) (tk:Nat),c_ P w h' s.heap.objs.size (dd ns.reverse)->(∀b o,s.heap.get? b=some o->h'.get? b=some o)->Q (.ref s.heap.objs.size) { s with heap:=h',toks:=tk }) :
  wpAny (model P w) A (call (.type "set") [.ref l]) Q E s:=by
 have z:items.size=ns.length:=by simpa using IntsAre.length hi
 obtain⟨o,ho,hc,hr⟩:=hl
 have l1:(aX w s).heap.IsList l items:=⟨o,Heap.get?_push_of_some _ ho,hc,hr⟩
 refine kJ (io:={ cls:=.type "list_iterator",data:=.fields #[.ref l,Value.int 0 0] }) ho hc (by decide) PySem.F.sub_list_set PySem.F.sub_list_frozenset (qK hi) (z ▸ hb) (λB hB=>z ▸ Walks.list (hB.trans hh) _ l ?_ items)
  (λB E' R=>wpAny_pyIter_list l1) ⟨⟨_,Heap.get?_push_size _ rfl,rfl,rfl⟩,l1.push _⟩ h
 exact Nat.ne_of_lt (Nat.lt_of_lt_of_eq (Nat.lt_succ_of_lt (Heap.lt_size ho)) (Heap.size_push ..).symm)
theorem sy{l:Addr}{items:Array Value}{ns:List Int}{Q:Value->Shared->Prop}
  (hh:A.handled=none) (hl:s.heap.IsTuple l items) (hi:IntsAre items.toList ns) (hb:items.size+1<scanBound)
  (h:∀(h':Heap) (tk:Nat),c_ P w h' s.heap.objs.size (dd ns.reverse)->(∀b o,s.heap.get? b=some o->h'.get? b=some o)->Q (.ref s.heap.objs.size) { s with heap:=h',toks:=tk }) :
  wpAny (model P w) A (call (.type "set") [.ref l]) Q E s:=by
 have z:items.size=ns.length:=by simpa using IntsAre.length hi
 obtain⟨o,ho,hc,hr⟩:=hl
 have l1:(aX w s).heap.IsTuple l items:=⟨o,Heap.get?_push_of_some _ ho,hc,hr⟩
 refine kJ (io:={ cls:=.type "tuple_iterator",data:=.fields #[.ref l,Value.int 0 0] }) ho hc (by decide) PySem.F.sub_tuple_set PySem.F.sub_tuple_frozenset (qK hi) (z ▸ hb) (λB hB=>z ▸ Walks.tuple (hB.trans hh) _ l ?_ items)
  (λB E' R=>wpAny_pyIter_tuple l1) ⟨⟨_,Heap.get?_push_size _ rfl,rfl,rfl⟩,l1.push _⟩ h
 exact Nat.ne_of_lt (Nat.lt_of_lt_of_eq (Nat.lt_succ_of_lt (Heap.lt_size ho)) (Heap.size_push ..).symm)
end
end L2.St
namespace L2.St
open PySem PyProof.Rows
set_option maxRecDepth 100000 in
theorem kK:entryFor table "set.__iter__"=some Builtin.«frozenset.__iter__» :=
 entryFor_alias (id':="frozenset.__iter__") (by kernel_rfl) rfl (by decide +kernel) (by kernel_rfl)
set_option maxRecDepth 100000 in
theorem ml:Manifest.owners.lookup (String.ofList ['r','o','t','a','r','e','t','i','_','t','e','s'].reverse)=some Manifest.sig_set_iterator:=by kernel_rfl
set_option maxRecDepth 100000 in
theorem aP:Slot "set_iterator" "__next__" "set_iterator.__next__" :=
 .of (owner:="set_iterator") (n:="__next__") (by rw [typeLookup_type,builtinLookup_eq_fast];kernel_rfl) (by decide +kernel) (by decide +kernel) (by decide +kernel)
  (by first|exact .inl (by decide +kernel)|exact .inr (by decide +kernel)) (by rw [isSubtype_type];kernel_rfl)
set_option maxRecDepth 100000 in
theorem cw:entryFor table "set_iterator.__next__"=some Builtin.«set_iterator.__next__»:=entryFor_of_tree (by kernel_rfl)
set_option maxRecDepth 100000 in
theorem cW (a:Value):argsOk "set_iterator.__next__" ⟨[a],[]⟩:=by
 unfold argsOk;rw [signature?_of (id:="set_iterator.__next__") (n:=['_','_','t','x','e','n','_','_']) (o:=['r','o','t','a','r','e','t','i','_','t','e','s']) (by kernel_rfl) ml];kernel_rfl
set_option maxRecDepth 100000 in
theorem gG:Slot "set_iterator" "__iter__" "set_iterator.__iter__" :=
 .of (owner:="set_iterator") (n:="__iter__") (by rw [typeLookup_type,builtinLookup_eq_fast];kernel_rfl) (by decide +kernel) (by decide +kernel) (by decide +kernel)
  (by first|exact .inl (by decide +kernel)|exact .inr (by decide +kernel)) (by rw [isSubtype_type];kernel_rfl)
set_option maxRecDepth 100000 in
theorem kL:entryFor table "set_iterator.__iter__"=some Builtin.«dict_keyiterator.__iter__» :=
 entryFor_alias (id':="dict_keyiterator.__iter__") (by kernel_rfl) rfl (by decide +kernel) (by kernel_rfl)
set_option maxRecDepth 100000 in
theorem lP (a:Value):argsOk "set_iterator.__iter__" ⟨[a],[]⟩:=by
 unfold argsOk;rw [signature?_of (id:="set_iterator.__iter__") (n:=['_','_','r','e','t','i','_','_']) (o:=['r','o','t','a','r','e','t','i','_','t','e','s']) (by kernel_rfl) ml];kernel_rfl
theorem uU {P:Program}{w:World}{A:Around}{E:Value->Shared->Prop}{s:Shared}{I:Addr}{Q:Value->Shared->Prop} (hT:s.TypeIs (.ref I) "set_iterator") (h:Q (.ref I) s):wpAny (model P w) A (pyIter (.ref I)) Q E s:=by
 refine wpAny_pyIter_slot hT gG (wpAny_call_entry gG hT kL ?_ (lP _))
 show wpAny _ _ (ret (.ref I)) _ _ s
 exact wpAny_pure ⟨_,rfl,"set_iterator",_,hT,aP.lookup,h⟩
theorem gN{α:Type}:∀{l:List α}{i:Nat}{x:α},l[i]?=some x->(x::l.eraseIdx i).Perm l
 | [],i,x,h=>by simp at h
 |a::l,0,x,h=>by
  have e:a=x:=by simpa using h
  subst e
  exact .refl _
 |a::l,i+1,x,h=>by
  have h':l[i]?=some x:=by simpa using h
  exact(List.Perm.swap a x _).trans (.cons a (gN h'))
theorem qN{α:Type}(next:Nat->Nat):∀(fuel k:Nat) (left:List α) (out:Array α),fuel=left.length->(pickOrder.go next fuel k left out).toList.Perm (out.toList++left)
 |0,k,left,out,h=>by
  have:left=[]:=List.length_eq_zero_iff.mp h.symm
  subst this
  rw [List.append_nil]
  exact .refl _
 |fuel+1,k,left,out,h=>by
  have hl:next k % left.length<left.length:=Nat.mod_lt _ (by omega)
  obtain⟨x,hx⟩:∃x,left[next k % left.length]?=some x:=⟨_,List.getElem?_eq_getElem hl⟩
  have e:pickOrder.go next (fuel+1) k left out=pickOrder.go next fuel (k+1) (left.eraseIdx (next k % left.length)) (out.push x):=by
   show(match left[next k % left.length]? with
    |some x=>pickOrder.go next fuel (k+1) (left.eraseIdx (next k % left.length)) (out.push x)
    |none=>out)=_
   rw [hx]
  rw [e]
  refine(qN next fuel (k+1) _ _ (by rw [List.length_eraseIdx_of_lt hl];omega)).trans ?_
  rw [Array.toList_push,List.append_assoc]
  exact List.Perm.append_left _ (gN hx)
theorem sB{α:Type}(next:Nat->Nat)(xs:Array α):(pickOrder next xs).toList.Perm xs.toList:=by
 have:=qN next xs.size 0 xs.toList #[] (by simp)
 simpa [pickOrder] using this
section
variable{M:Model}{A:Around}{E:Value->Shared->Prop}{s:Shared}
theorem pQ{src:Source}{n:Nat}{Q:Nat->Shared->Prop}(hn:n≠0)(h:∀i d',i<n->Q i { s with drawn:=d' }):wpAny M A (choose src n) Q E s:=λ_ _ _ =>
 ⟨hn,h _ _ (Nat.mod_lt _ (Nat.pos_of_ne_zero hn))⟩
theorem kM{α:Type}:∀(n:Nat) (xs:List α) (s:Shared) {Q:List α->Shared->Prop},n=xs.length->(∀ys d',ys.Perm xs->Q ys { s with drawn:=d' })->wpAny M A (drawOrder n xs) Q E s
 |0,xs,s,Q,h,q=>by
  have:xs=[]:=List.length_eq_zero_iff.mp h.symm
  subst this
  show wpAny M A (pure []) Q E s
  exact wpAny_pure (q [] s.drawn (.refl _))
 |n+1,[],s,Q,h,q=>by simp at h
 |n+1,x::r,s,Q,h,q=>by
  show wpAny M A (choose .order (x::r).length >>= _) Q E s
  refine wpAny_bind (pQ (by simp) λi d' hi=>?_)
  obtain⟨y,hy⟩:∃y,(x::r)[i]?=some y:=⟨_,List.getElem?_eq_getElem hi⟩
  rw [hy]
  dsimp only
  refine wpAny_bind (kM n _ _ (by rw [List.length_eraseIdx_of_lt hi];simp at h ⊢;omega) λys d'' hp=>wpAny_pure ?_)
  exact q (y::ys) d'' ((List.Perm.cons y hp).trans (gN hy))
end
noncomputable def SIt(h:Heap)(I S:Addr)(o:Obj)(f:Value)(i n ep:Nat):Prop :=
 h.get? I=some { cls:=.type "set_iterator",dict:=none,data:=.fields #[f,.int i 0,.ref S,.int n 0,.int ep 0],slots:=#[] }/\h.get? S=some o
theorem SIt.type {s:Shared}{I S:Addr}{o:Obj}{f:Value}{i n ep:Nat} (h:SIt s.heap I S o f i n ep):s.TypeIs (.ref I) "set_iterator":=⟨_,h.1,rfl⟩
section
variable{P:Program}{w:World}{A:Around}{E:Value->Shared->Prop}{s:Shared}
theorem dM{S:Addr}{o:Obj}{es:Array (Int×Value)}{ep:Nat}{t:SetTable}{Q:Array (Int×Value)->Shared->Prop}(ho:s.heap.get? S=some o)(hd:o.data=.set es ep t)(hf:t.fits es.size=true)(h:Q es s) :
  wpAny (model P w) A (setEntries S) Q E s:=wpAny_setEntries_of ho hd hf h
theorem mq{S:Addr}{o:Obj}{es:Array (Int×Value)}{ep slot i:Nat}{t:SetTable}{Q:Option (Value×Nat)->Shared->Prop}(ho:s.heap.get? S=some o)(hd:o.data=.set es ep t)(hf:t.fits es.size=true)(hb:byT w=true)
  (h:Q (((pickOrder (w.params.setOrder S ep) es)[i]?).map λe=>(e.2,slot)) s):wpAny (model P w) A (setNext S slot i ep) Q E s:=by
 unfold setNext
 refine wpAny_bind (wpAny_setState_of ho hd hf ?_)
 dsimp only
 refine wpAny_bind (eZ ?_)
 rw [if_pos hb]
 simp only [bne_self_eq_false,Bool.false_eq_true,if_false]
 refine wpAny_bind ?_
 unfold setWalk
 refine wpAny_bind (wpAny_setState_of ho hd hf ?_)
 dsimp only
 refine wpAny_bind (eZ ?_)
 rw [if_pos hb]
 refine wpAny_bind (wpAny_askSetting (wpAny_pure ?_))
 exact wpAny_pure h
theorem kN{S:Addr}{o:Obj}{es:Array (Int×Value)}{ep slot i:Nat}{t:SetTable}{Q:Option (Value×Nat)->Shared->Prop}(ho:s.heap.get? S=some o)(hd:o.data=.set es ep t)(hf:t.fits es.size=true)(hb:byT w=false)
  (hdr:(!t.plain&&decide (es.size > 1))=false) (hled:t.led=true)
  (h:Q (match es[SetTable.below t.place slot]?,t.place[SetTable.below t.place slot]? with|some (_,x),some j=>some (x,j+1)|_,_=>none) s):wpAny (model P w) A (setNext S slot i ep) Q E s:=by
 unfold setNext
 refine wpAny_bind (wpAny_setState_of ho hd hf ?_)
 dsimp only
 refine wpAny_bind (eZ ?_)
 rw [if_neg (by rw [hb];simp)]
 refine wpAny_ite_split (λhab=>absurd (show(!t.plain&&decide (es.size > 1))=true from hab) (by rw [hdr];simp)) (λ_=>?_)
 refine wpAny_bind ?_
 show wpAny _ _ (if (!t.led&&!es.isEmpty)=true then _ else _) _ _ s
 rw [if_neg (by rw [hled];simp)]
 exact wpAny_pure (wpAny_pure h)
theorem uV{xs:Array Nat}(hr:jN xs){i:Nat}(hi:i<xs.size):SetTable.below xs (xs.getD i 0+1)=i+1:=by
 obtain⟨h1,h2,h3⟩:=gL hr (xs.getD i 0+1)
 have a:i<SetTable.below xs (xs.getD i 0+1):=by
  by_cases q:SetTable.below xs (xs.getD i 0+1)<=i
  ·have:=h3 i q hi;omega
  ·omega
 have b:SetTable.below xs (xs.getD i 0+1)<=i+1:=by
  by_cases q:i+1<SetTable.below xs (xs.getD i 0+1)
  ·have:=h2 (i+1) q
   have:=hr i (i+1) (by omega) (by omega)
   omega
  ·omega
 omega
theorem pR(xs:Array Nat)(hr:jN xs):SetTable.below xs 0=0:=by
 obtain⟨h1,h2,h3⟩:=gL hr 0
 by_cases q:0<SetTable.below xs 0
 ·have:=h2 0 q;omega
 ·omega
end
end L2.St
namespace L2.St
open PySem PyProof.Rows
section
variable{P:Program}{w:World}{A:Around}{E:Value->Shared->Prop}{s:Shared}{I S:Addr}{o:Obj}{es:Array (Int×Value)}{t:SetTable}{i n ep:Nat}
theorem lQ{slot nx:Nat}{x:Value}{Q:Option Value->Shared->Prop}(hit:SIt s.heap I S o (.int slot 0) i n ep)(hd:o.data=.set es ep t)(hf:t.fits es.size=true)(hn:es.size=n)(hSI:S≠I)
  (hnx:∀(A':Around) (s':Shared) (Q':Option (Value×Nat)->Shared->Prop) (E':Value->Shared->Prop),s'.heap.get? S=some o->Q' (some (x,nx)) s'->wpAny (model P w) A' (setNext S slot i ep) Q' E' s')
  (hQ:∀h',SIt h' I S o (.int nx 0) (i+1) n ep->Heap.SameBut I s.heap h'->Q (some x) { s with heap:=h' }):wpAny (model P w) A (pyNext (.ref I)) Q E s:=by
 unfold pyNext
 refine wpAny_bind (wpAny_attempt (wpAny_callSpecial?_slot (name:=Str.ofString "__next__") hit.type aP (wpAny_call_entry aP hit.type cw ?_ (cW _))))
 unfold Builtin.«set_iterator.__next__»
 refine wpAny_bind (m:=slotArgs "__next__" 0 _) (wpAny_pure ?_)
 refine wpAny_bind (wpAny_fieldsOf hit.1 rfl ?_)
 dsimp only
 refine wpAny_bind (dM hit.2 hd hf ?_)
 rw [if_neg (by simp [hn])]
 try dsimp only
 simp only [Int.toNat_natCast]
 refine wpAny_bind (hnx _ _ _ _ hit.2 ?_)
 dsimp only
 refine wpAny_bind (wpAny_setField_rec hit.1 (by simp) λh1 e1 sb1=>?_)
 refine wpAny_bind (wpAny_setField_rec e1 (by simp) λh2 e2 sb2=>?_)
 refine wpAny_pure ⟨x,rfl,wpAny_pure (hQ h2 ⟨?_,?_⟩ (sb1.trans sb2))⟩
 ·simpa [rawInt] using e2
 ·exact((sb1.trans sb2).2 S hSI).trans hit.2
theorem lR{slot:Nat}{Q:Option Value->Shared->Prop}(hh:A.handled=none)(hit:SIt s.heap I S o (.int slot 0) i n ep)(hd:o.data=.set es ep t)(hf:t.fits es.size=true)(hn:es.size=n)
  (hnx:∀(A':Around) (s':Shared) (Q':Option (Value×Nat)->Shared->Prop) (E':Value->Shared->Prop),s'.heap.get? S=some o->Q' none s'->wpAny (model P w) A' (setNext S slot i ep) Q' E' s')
  (hQ:∀h',(∀b o,b≠I->s.heap.get? b=some o->h'.get? b=some o)->Q none { s with heap:=h' }):wpAny (model P w) A (pyNext (.ref I)) Q E s:=by
 unfold pyNext
 refine wpAny_bind (wpAny_attempt (wpAny_callSpecial?_slot (name:=Str.ofString "__next__") hit.type aP (wpAny_call_entry aP hit.type cw ?_ (cW _))))
 unfold Builtin.«set_iterator.__next__»
 refine wpAny_bind (m:=slotArgs "__next__" 0 _) (wpAny_pure ?_)
 refine wpAny_bind (wpAny_fieldsOf hit.1 rfl ?_)
 dsimp only
 refine wpAny_bind (dM hit.2 hd hf ?_)
 rw [if_neg (by simp [hn])]
 try dsimp only
 simp only [Int.toNat_natCast]
 refine wpAny_bind (hnx _ _ _ _ hit.2 ?_)
 dsimp only
 refine wpAny_bind (wpAny_setField_rec hit.1 (by simp) λh1 e1 sb1=>?_)
 refine i_ (v:=.none) (vs:=#[]) (it:=0) (Q:=λ_ _=>True) (by first|exact hh|simpa using hh) λe s' kp ⟨h',eq⟩ hT=>?_
 subst eq
 refine wpAny_bind (wpAny_isInstance (T:="StopIteration") (b:=true) hT isSubtype_stop ?_)
 exact wpAny_pure (hQ h' λb o hb q=>kp b o ((sb1.2 b hb).trans q))
theorem kO{Tp:Addr}{ot:Obj}{ps:Array Value}{pn place:Nat}{pt:Tok}{hx:Int}{x:Value}{Q:Option Value->Shared->Prop}(hit:SIt s.heap I S o (.ref Tp) i n ep)(hd:o.data=.set es ep t)(hf:t.fits es.size=true)(hn:es.size=n)(hSI:S≠I)
  (hTp:s.heap.get? Tp=some ot) (hTd:ot.data=.seq ps pn) (hp:ps[i]?=some (.int place pt)) (hx':es[place]?=some (hx,x))
  (hQ:∀h',SIt h' I S o (.ref Tp) (i+1) n ep->Heap.SameBut I s.heap h'->Q (some x) { s with heap:=h' }):wpAny (model P w) A (pyNext (.ref I)) Q E s:=by
 unfold pyNext
 refine wpAny_bind (wpAny_attempt (wpAny_callSpecial?_slot (name:=Str.ofString "__next__") hit.type aP (wpAny_call_entry aP hit.type cw ?_ (cW _))))
 unfold Builtin.«set_iterator.__next__»
 refine wpAny_bind (m:=slotArgs "__next__" 0 _) (wpAny_pure ?_)
 refine wpAny_bind (wpAny_fieldsOf hit.1 rfl ?_)
 dsimp only
 refine wpAny_bind (dM hit.2 hd hf ?_)
 rw [if_neg (by simp [hn])]
 try dsimp only
 refine wpAny_bind (wpAny_seqItems hTp hTd ?_)
 dsimp only
 simp only [Int.toNat_natCast,hp]
 refine wpAny_bind ?_
 unfold setNextDrawn
 refine wpAny_bind (wpAny_setState_of hit.2 hd hf ?_)
 dsimp only
 simp only [bne_self_eq_false,Bool.false_eq_true,if_false,Int.toNat_natCast,hx']
 refine wpAny_pure ?_
 refine wpAny_bind (wpAny_setField_rec hit.1 (by simp) λh1 e1 sb1=>?_)
 refine wpAny_pure ⟨x,rfl,wpAny_pure (hQ h1 ⟨?_,?_⟩ sb1)⟩
 ·simpa [rawInt] using e1
 ·exact(sb1.2 S hSI).trans hit.2
theorem kP{Tp:Addr}{ot:Obj}{ps:Array Value}{pn:Nat}{Q:Option Value->Shared->Prop}(hh:A.handled=none)(hit:SIt s.heap I S o (.ref Tp) i n ep)(hd:o.data=.set es ep t)(hf:t.fits es.size=true)(hn:es.size=n)
  (hTp:s.heap.get? Tp=some ot) (hTd:ot.data=.seq ps pn) (hp:ps[i]?=none)
  (hQ:∀h',(∀b o,b≠I->s.heap.get? b=some o->h'.get? b=some o)->Q none { s with heap:=h' }):wpAny (model P w) A (pyNext (.ref I)) Q E s:=by
 unfold pyNext
 refine wpAny_bind (wpAny_attempt (wpAny_callSpecial?_slot (name:=Str.ofString "__next__") hit.type aP (wpAny_call_entry aP hit.type cw ?_ (cW _))))
 unfold Builtin.«set_iterator.__next__»
 refine wpAny_bind (m:=slotArgs "__next__" 0 _) (wpAny_pure ?_)
 refine wpAny_bind (wpAny_fieldsOf hit.1 rfl ?_)
 dsimp only
 refine wpAny_bind (dM hit.2 hd hf ?_)
 rw [if_neg (by simp [hn])]
 try dsimp only
 refine wpAny_bind (wpAny_seqItems hTp hTd ?_)
 dsimp only
 simp only [Int.toNat_natCast,hp]
 refine wpAny_bind (wpAny_setField_rec hit.1 (by simp) λh1 e1 sb1=>?_)
 refine wpAny_bind (wpAny_setField_rec e1 (by simp) λh2 e2 sb2=>?_)
 refine i_ (v:=.none) (vs:=#[]) (it:=0) (Q:=λ_ _=>True) (by first|exact hh|simpa using hh) λe s' kp ⟨h',eq⟩ hT=>?_
 subst eq
 refine wpAny_bind (wpAny_isInstance (T:="StopIteration") (b:=true) hT isSubtype_stop ?_)
 exact wpAny_pure (hQ h' λb o hb q=>kp b o (((sb1.trans sb2).2 b hb).trans q))
end
theorem uW(xs:List Value):(List.range xs.length).map (λi=>xs.getD i .none)=xs:=by
 apply List.ext_getElem?
 intro i
 rw [List.getElem?_map]
 by_cases q:i<xs.length
 ·simp [List.getElem?_range,q]
 ·simp [List.getElem?_range,q]
structure kQ(P:Program)(w:World)(I:Addr)(fp:List Addr)(order:List Value)(St:Nat->Heap->Prop):Prop where
 mem:I∈fp
 ty:∀i h,St i h->∃o,h.get? I=some o/\o.cls=.type "set_iterator"
 frame:∀i h h',St i h->(∀b∈fp,∀o,h.get? b=some o->h'.get? b=some o)->St i h'
 item:∀(A:Around) i (s:Shared) (Q:Option Value->Shared->Prop) (E:Value->Shared->Prop),i<order.length->St i s.heap ->
  (∀h',St (i+1) h'->(∀b o,b≠I->s.heap.get? b=some o->h'.get? b=some o)->Q (some (order.getD i .none)) { s with heap:=h' })->wpAny (model P w) A (pyNext (.ref I)) Q E s
 done:∀(A:Around) (s:Shared) (Q:Option Value->Shared->Prop) (E:Value->Shared->Prop),A.handled=none->St order.length s.heap ->
  (∀h',(∀b o,b≠I->s.heap.get? b=some o->h'.get? b=some o)->Q none { s with heap:=h' })->wpAny (model P w) A (pyNext (.ref I)) Q E s
theorem kQ.walks{P:Program}{w:World}{I:Addr}{fp:List Addr}{order:List Value}{St:Nat->Heap->Prop}(W:kQ P w I fp order St){A:Around}(hh:A.handled=none) :
  Walks P w A I fp [I] order.length (λi v=>v=order.getD i .none) St where
 sub:=λb hb=>by rw [List.mem_singleton.mp hb];exact W.mem
 frame:=W.frame
 item:=λi s Q E hi st hQ=>W.item A i s Q E hi st λh' st' kp=>hQ _ h' s.toks rfl st' λb o hb e=>kp b o (λz=>hb (by rw [z];exact List.mem_singleton.mpr rfl)) e
 done:=λs Q E st hQ=>W.done A s Q E hh st λh' kp=>hQ h' s.toks λb o hb e=>kp b o (λz=>hb (by rw [z];exact List.mem_singleton.mpr rfl)) e
 self:=λi s Q E st h=>by
  obtain⟨o,e,c⟩:=W.ty i _ st
  exact uU ⟨o,e,c⟩ h
section
variable{P:Program}{w:World}{A:Around}{E:Value->Shared->Prop}{s:Shared}
theorem iq{l:List (Int×Value)}{i:Nat}{e:Int×Value}(h:l[i]?=some e):(l.map λe=>e.2).getD i .none=e.2:=by
 rw [List.getD_eq_getElem?_getD,List.getElem?_map,h];rfl
set_option maxRecDepth 100000 in
theorem uX{S:Addr}{o:Obj}{es:Array (Int×Value)}{ep:Nat}{t:SetTable}{Q:Value->Shared->Prop}(ho:s.heap.get? S=some o)(hex:o.ExactSet)(hd:o.data=.set es ep t)(hb:es.size<scanBound)(hf:t.fits es.size=true)(hl:t.led=!byT w)(hri:jN t.place)
  (hQ:∀(I:Addr) (h':Heap) (d':Drawn) (fp:List Addr) (order:List Value) (St:Nat->Heap->Prop),order.Perm (es.toList.map λe=>e.2)->(∀b o,s.heap.get? b=some o->h'.get? b=some o)->s.heap.objs.size<=I->(∀b∈fp,b=S\/s.heap.objs.size<=b)->(∀b∈fp,b<h'.objs.size) ->
   kQ P w I fp order St->St 0 h'->Q (.ref I) { s with heap:=h',drawn:=d' }):wpAny (model P w) A (pyIter (.ref S)) Q E s:=by
 have hT:s.TypeIs (.ref S) "set":=⟨o,ho,hex.1⟩
 have hSlt:S<s.heap.objs.size:=Heap.lt_size ho
 have hps:t.place.size=es.size:=by simp [SetTable.fits]at hf;exact hf.1
 refine wpAny_pyIter_slot hT PySem.F.slot_set_iter (wpAny_call_entry PySem.F.slot_set_iter hT kK ?_ (PySem.F.args_set_iter_1 _))
 unfold Builtin.«frozenset.__iter__»
 refine wpAny_bind (m:=Builtin.Frozenset.slot0 "__iter__" _) (wpAny_pure ?_)
 refine wpAny_bind (m:=Builtin.Frozenset.sizeOf S) (wpAny_bind (dM ho hd hf (wpAny_pure ?_)))
 refine wpAny_bind (m:=setDrawn S) ?_
 unfold setDrawn
 refine wpAny_bind (wpAny_setState_of ho hd hf ?_)
 dsimp only
 refine wpAny_bind (eZ (wpAny_pure ?_))
 have slotted:∀(order:List (Int×Value)) (fs:Nat->Nat),order.Perm es.toList->fs 0=0 ->
   (∀(A':Around) i (s':Shared) (Q':Option (Value×Nat)->Shared->Prop) (E':Value->Shared->Prop) e,order[i]?=some e->s'.heap.get? S=some o->Q' (some (e.2,fs (i+1))) s'->wpAny (model P w) A' (setNext S (fs i) i ep) Q' E' s') ->
   (∀(A':Around) (s':Shared) (Q':Option (Value×Nat)->Shared->Prop) (E':Value->Shared->Prop),s'.heap.get? S=some o->Q' none s'->wpAny (model P w) A' (setNext S (fs order.length) order.length ep) Q' E' s') ->
   Q (.ref s.heap.objs.size) { s with heap:=s.heap.push { cls:=.type "set_iterator",data:=.fields #[.int 0 0,.int 0 0,.ref S,.int (es.size:Nat) 0,.int (ep:Nat) 0] } }:=by
  intro order fs hp h0 hstep hend
  have hol:order.length=es.size:=by have:=hp.length_eq;simpa using this
  refine hQ s.heap.objs.size _ s.drawn [s.heap.objs.size,S] (order.map λe=>e.2) (λi h=>SIt h s.heap.objs.size S o (.int (fs i) 0) i es.size ep) (hp.map _) (λb o e=>Heap.get?_push_of_some _ e) (Nat.le_refl _) (λb hb=>?_) (λb hb=>?_) ?_ ?_
  ·rcases List.mem_cons.mp hb with e|e
   ·exact .inr (Nat.le_of_eq e.symm)
   ·exact .inl (List.mem_singleton.mp e)
  ·rw [Heap.size_push]
   rcases List.mem_cons.mp hb with e|e
   ·rw [e];exact Nat.lt_succ_self _
   ·rw [List.mem_singleton.mp e];exact Nat.lt_succ_of_lt hSlt
  ·refine⟨.head _,λi h st=>⟨_,st.1,rfl⟩,λi h h' st k=>⟨k _ (.head _) _ st.1,k _ (.tail _ (.head _)) _ st.2⟩,λA' i s' Q' E' hi st hq=>?_,λA' s' Q' E' hh st hq=>?_⟩
   ·rw [List.length_map]at hi
    obtain⟨e,he⟩:∃e,order[i]?=some e:=⟨_,List.getElem?_eq_getElem hi⟩
    rw [iq he]at hq
    refine lQ (slot:=fs i) (nx:=fs (i+1)) (x:=e.2) st hd hf rfl (Nat.ne_of_lt hSlt) (λA'' s'' Q'' E'' hs'' q=>hstep A'' i s'' Q'' E'' e he hs'' q) λh' st' sb=>?_
    exact hq h' st' λb o hb q=>(sb.2 b hb).trans q
   ·rw [List.length_map]at st
    exact lR (slot:=fs order.length) hh st hd hf rfl (λA'' s'' Q'' E'' hs'' q=>hend A'' s'' Q'' E'' hs'' q) hq
  ·refine⟨?_,Heap.get?_push_of_some _ ho⟩
   rw [h0]
   exact Heap.get?_push_size _ rfl
 cases hbt:byT w with
 |true =>
  simp only [Bool.not_true,Bool.false_and,Bool.false_eq_true,if_false]
  refine wpAny_bind (wpAny_pure ?_)
  refine wpAny_bind (wpAny_setEpoch_of ho hd hf ?_)
  refine wpAny_bind (wpAny_newObj_type (wpAny_pure ⟨_,rfl,"set_iterator",_,⟨_,Heap.get?_push_size _ rfl,rfl⟩,aP.lookup,?_⟩))
  have q:=slotted (pickOrder (w.params.setOrder S ep) es).toList (λ_=>0) (sB _ _) rfl
   (λA' i s' Q' E' e he hs' q=>mq hs' hd hf hbt (by rw [<- Array.getElem?_toList,he];exact q))
   (λA' s' Q' E' hs' q=>mq hs' hd hf hbt (by rw [Array.getElem?_eq_none (by simp)];exact q))
  simpa [rawInt] using q
 |false =>
  cases hdr:(!t.plain&&decide (es.size > 1)) with
  |false =>
   refine wpAny_ite_split (λhab=>absurd (show(!false&&(!t.plain&&decide (es.size > 1)))=true from hab) (by rw [hdr];simp)) (λ_=>?_)
   refine wpAny_bind (wpAny_pure ?_)
   refine wpAny_bind (wpAny_setEpoch_of ho hd hf ?_)
   refine wpAny_bind (wpAny_newObj_type (wpAny_pure ⟨_,rfl,"set_iterator",_,⟨_,Heap.get?_push_size _ rfl,rfl⟩,aP.lookup,?_⟩))
   have hled:t.led=true:=by rw [hl,hbt];rfl
   have hfs:∀i,i<=t.place.size->SetTable.below t.place (match i with|0=>0|j+1=>t.place.getD j 0+1)=i:=λi hi=>by
    cases i with
    |zero=>exact pR _ hri
    |succ j=>exact uV hri (by omega)
   have q:=slotted es.toList (λi=>match i with|0=>0|j+1=>t.place.getD j 0+1) (.refl _) rfl
    (λA' i s' Q' E' e he hs' q=>kN hs' hd hf hbt hdr hled (by
     have hi:i<es.size:=by have:=(List.getElem?_eq_some_iff.mp he).1;simpa using this
     rw [hfs i (by omega)]
     rw [<- Array.getElem?_toList,he,Array.getElem?_eq_getElem (by omega:i<t.place.size)]
     have e2:t.place.getD i 0=t.place[i]:=by simp [Array.getD,(by omega:i<t.place.size)]
     dsimp only at q ⊢
     rw [e2]at q
     exact q))
    (λA' s' Q' E' hs' q=>kN hs' hd hf hbt hdr hled (by
     rw [hfs _ (by simp [hps]),Array.getElem?_eq_none (by simp)]
     exact q))
   simpa [rawInt] using q
  |true =>
   refine wpAny_ite_split (λ_=>?_) (λhab=>absurd (show(!false&&(!t.plain&&decide (es.size > 1)))=true by rw [hdr];rfl) hab)
   refine wpAny_bind (kM _ _ _ (by simp) λplaces d' hperm=>?_)
   refine wpAny_bind (wpAny_newTuple ?_ (by simp;have:=hperm.length_eq;simp at this;rw [this,sizeLine_eq];unfold scanBound at hb;omega))
   refine wpAny_bind (wpAny_setEpoch_of (Heap.get?_push_of_some _ ho) hd hf ?_)
   refine wpAny_bind (wpAny_newObj_type (wpAny_pure ⟨_,rfl,"set_iterator",_,⟨_,Heap.get?_push_size _ rfl,rfl⟩,aP.lookup,?_⟩))
   have hpl:places.length=es.size:=by have:=hperm.length_eq;simpa using this
   have hat:∀p∈places,p<es.size:=λp hp=>by have:=hperm.mem_iff.mp hp;simpa using this
   have hT0:((s.heap.push { cls:=.type "tuple",data:=.seq (List.map (λ(i:Nat)=>rawInt i) places).toArray }).push { cls:=.type "set_iterator",data:=.fields #[.ref s.heap.objs.size,.int 0 0,.ref S,.int (es.size:Nat) 0,.int (ep:Nat) 0] }).get? s.heap.objs.size=some { cls:=.type "tuple",data:=.seq (List.map (λ(i:Nat)=>rawInt i) places).toArray } :=
    Heap.get?_push_of_some _ (Heap.get?_push_size _ rfl)
   have q:=hQ (s.heap.push { cls:=.type "tuple",data:=.seq (List.map (λ(i:Nat)=>rawInt i) places).toArray }).objs.size
    ((s.heap.push { cls:=.type "tuple",data:=.seq (List.map (λ(i:Nat)=>rawInt i) places).toArray }).push { cls:=.type "set_iterator",data:=.fields #[.ref s.heap.objs.size,.int 0 0,.ref S,.int (es.size:Nat) 0,.int (ep:Nat) 0] }) d'
    [(s.heap.push { cls:=.type "tuple",data:=.seq (List.map (λ(i:Nat)=>rawInt i) places).toArray }).objs.size,S,s.heap.objs.size]
    (places.map λp=>(es.toList.map λe=>e.2).getD p .none)
    (λi h=>SIt h (s.heap.push { cls:=.type "tuple",data:=.seq (List.map (λ(i:Nat)=>rawInt i) places).toArray }).objs.size S o (.ref s.heap.objs.size) i es.size ep/\h.get? s.heap.objs.size=some { cls:=.type "tuple",data:=.seq (List.map (λ(i:Nat)=>rawInt i) places).toArray })
    ?p1 (λb o e=>Heap.get?_push_of_some _ (Heap.get?_push_of_some _ e)) (by rw [Heap.size_push];exact Nat.le_succ _) ?p2 ?p3 ?p4 ⟨⟨Heap.get?_push_size _ rfl,Heap.get?_push_of_some _ (Heap.get?_push_of_some _ ho)⟩,hT0⟩
   ·simpa [rawInt] using q
   case p1 =>
    have e1:(es.toList.map λe=>e.2).length=es.size:=by simp
    have h1:=hperm.map λp=>(es.toList.map λe=>e.2).getD p .none
    rw [<- e1,uW]at h1
    exact h1
   case p2 =>
    intro b hb
    simp only [List.mem_cons,List.not_mem_nil,or_false]at hb
    rcases hb with e|e|e
    ·exact .inr (by rw [e,Heap.size_push];exact Nat.le_succ _)
    ·exact .inl e
    ·exact .inr (Nat.le_of_eq e.symm)
   case p3 =>
    intro b hb
    rw [Heap.size_push]
    simp only [List.mem_cons,List.not_mem_nil,or_false]at hb
    rcases hb with e|e|e
    ·rw [e];exact Nat.lt_succ_self _
    ·rw [e,Heap.size_push];exact Nat.lt_succ_of_lt (Nat.lt_succ_of_lt hSlt)
    ·rw [e,Heap.size_push];exact Nat.lt_succ_of_lt (Nat.lt_succ_self _)
   case p4 =>
    refine⟨.head _,λi h st=>⟨_,st.1.1,rfl⟩,λi h h' st k=>⟨⟨k _ (.head _) _ st.1.1,k _ (.tail _ (.head _)) _ st.1.2⟩,k _ (.tail _ (.tail _ (.head _))) _ st.2⟩,λA' i s' Q' E' hi st hq=>?_,λA' s' Q' E' hh st hq=>?_⟩
    ·rw [List.length_map]at hi
     obtain⟨p,hp⟩:∃p,places[i]?=some p:=⟨_,List.getElem?_eq_getElem hi⟩
     have hpz:p<es.size:=hat p (List.mem_of_getElem? hp)
     obtain⟨e,he⟩:∃e,es.toList[p]?=some e:=⟨_,List.getElem?_eq_getElem (by simpa using hpz)⟩
     have e3:(places.map λp=>(es.toList.map λe=>e.2).getD p .none).getD i .none=e.2:=by
      rw [List.getD_eq_getElem?_getD,List.getElem?_map,hp]
      exact iq he
     rw [e3]at hq
     refine kO (place:=p) (pt:=0) (hx:=e.1) (x:=e.2) st.1 hd hf rfl (by rw [Heap.size_push];exact Nat.ne_of_lt (Nat.lt_succ_of_lt hSlt)) st.2 rfl (by simp [hp,rawInt]) (by rw [<- Array.getElem?_toList,he]) λh' st' sb=>?_
     exact hq h' ⟨st',(sb.2 _ (by rw [Heap.size_push];exact Nat.ne_of_lt (Nat.lt_succ_self _))).trans st.2⟩ λb o hb q=>(sb.2 b hb).trans q
    ·rw [List.length_map]at st
     exact kP hh st.1 hd hf rfl st.2 rfl (by simp) hq
end
end L2.St
namespace L2.St
open PySem PyProof.Rows
section
variable{P:Program}{w:World}{A:Around}{E:Value->Shared->Prop}{s:Shared}
theorem uY {r:Addr}{Q:Bool->Shared->Prop} (hT:s.TypeIs (.ref r) "set") (h:Q false s):wpAny (model P w) A (Builtin.List.listLengthHint (.ref r)) Q E s:=by
 unfold Builtin.List.listLengthHint
 refine wpAny_bind (wpAny_specialOf hT PySem.F.slot_set_len.lookup ?_)
 generalize hid:("set.__len__":String)=id0
 wp_delta
 rw [show splitId id0=some ("set","__len__") from by subst hid;decide +kernel]
 subst hid
 refine wpAny_bind (wpAny_isInstance (T:="set") (b:=true) hT (by rw [isSubtype_type];kernel_rfl) ?_)
 refine wpAny_ite_split (λhab=>absurd hab (by decide)) (λ_=>?_)
 refine wpAny_ite_split (λ_=>?_) (λhab=>absurd (by decide +kernel) hab)
 refine wpAny_bind (wpAny_typeOf hT ?_)
 exact wpAny_pure h
end
theorem lS{order:List Value}{acc:Array Value}(h:ItemsOf (λi v=>v=order.getD i .none) acc order.length):acc.toList=order:=by
 obtain⟨hz,hv⟩:=h
 refine List.ext_getElem? λi=>?_
 by_cases q:i<order.length
 ·have q2:i<acc.size:=by omega
  have:=hv i acc[i] (Array.getElem?_eq_getElem q2)
  rw [Array.getElem?_toList,Array.getElem?_eq_getElem q2,this,List.getD_eq_getElem?_getD,List.getElem?_eq_getElem q]
  rfl
 ·rw [Array.getElem?_toList,Array.getElem?_eq_none (by omega),List.getElem?_eq_none (by omega)]
section
variable{P:Program}{w:World}{A:Around}{E:Value->Shared->Prop}{s:Shared}
set_option maxRecDepth 100000 in
theorem oq{S:Addr}{o:Obj}{es:Array (Int×Value)}{ep:Nat}{t:SetTable}{R:List Value->Shared->Prop}(hh:A.handled=none)(ho:s.heap.get? S=some o)(hex:o.ExactSet)(hd:o.data=.set es ep t)(hb:es.size<scanBound)(hf:t.fits es.size=true)(hl:t.led=!byT w)(hri:jN t.place)
  (h:∀(h':Heap) (tk:Nat) (d':Drawn) (acc:List Value),(∀b o,s.heap.get? b=some o->h'.get? b=some o)->acc.Perm (es.toList.map λe=>e.2)->R acc { s with heap:=h',toks:=tk,drawn:=d' }) :
  wpAny (model P w) A (collect (.ref S)) R E s:=by
 have hSlt:S<s.heap.objs.size:=Heap.lt_size ho
 unfold collect
 refine wpAny_bind (wpAny_runValue (codeAny_builtin entry_proto_collect' ?_))
 rw [Around.under_plainId PySem.F.plain_proto_collect _]
 show wpAny _ A.in1 (newList [] >>= λl=>again (.builtin "list.__iadd__" ⟨[l,.ref S],[]⟩)) _ _ s
 refine wpAny_bind (wpAny_newObj_type ?_)
 refine wpAny_pure ⟨plainId_quiet PySem.F.plain_list_iadd _,codeAny_builtin entry_list_iadd' ?_⟩
 rw [Around.under_plainId PySem.F.plain_list_iadd _]
 have hS0:(s.heap.push { cls:=.type "list",data:=.seq ([]:List Value).toArray }).get? s.heap.objs.size=some { cls:=.type "list",data:=.seq #[] }:=Heap.get?_push_size _ rfl
 show wpAny _ A.in1 (Builtin.List.listExtendWith (.ref s.heap.objs.size) (.ref S) (.ref s.heap.objs.size)) _ _ _
 have ho1:(s.heap.push { cls:=.type "list",data:=.seq ([]:List Value).toArray }).get? S=some o:=Heap.get?_push_of_some _ ho
 have hT:Shared.TypeIs { s with heap:=s.heap.push { cls:=.type "list",data:=.seq ([]:List Value).toArray } } (.ref S) "set":=⟨o,ho1,hex.1⟩
 unfold Builtin.List.listExtendWith
 refine wpAny_bind (wpAny_typeOf (T:="set") hT ?_)
 have q1:Builtin.List.listSameRef (.ref s.heap.objs.size) (.ref S)=false:=by simp [Builtin.List.listSameRef,Nat.ne_of_gt hSlt]
 have q2:(Value.type "set" == Value.type "list")=false:=by decide
 have q3:(Value.type "set" == Value.type "tuple")=false:=by decide
 simp only [q1,q2,q3,Bool.or_false,Bool.false_eq_true,if_false]
 refine wpAny_bind (uX ho1 hex hd hb hf hl hri λI h1 d1 fp order St hperm kp hI hfp hlt W st=>?_)
 have hz0:(s.heap.push { cls:=.type "list",data:=.seq ([]:List Value).toArray }).objs.size=s.heap.objs.size+1:=Heap.size_push ..
 have hLf:s.heap.objs.size∉fp:=λhm=>by
  rcases hfp _ hm with e|e
  ·exact Nat.lt_irrefl _ (by rw [<- e]at hSlt;exact hSlt)
  ·dsimp only at e
   rw [hz0]at e
   exact Nat.not_succ_le_self _ e
 have hol:order.length<=sizeLine:=by
  have:=hperm.length_eq
  rw [this,List.length_map,Array.length_toList]
  exact fits_of_scanBound hb
 have hT1:Shared.TypeIs { s with heap:=h1,drawn:=d1 } (.ref S) "set":=by
  obtain⟨o,e,c⟩:=hT
  exact⟨o,kp S o e,c⟩
 refine wpAny_bind (wpAny_holding (uY hT1 ?_))
 have WS:=(W.walks (A:=A.in1) (by first|exact hh|simpa using hh)).toS
 have fin:∀(h2:Heap) (c1:Nat),St 0 h2->(∀b o,b≠s.heap.objs.size->h1.get? b=some o->h2.get? b=some o)->h2.get? s.heap.objs.size=some { cls:=.type "list",dict:=none,data:=.seq #[] c1,slots:=#[] } ->
   codeAny (model P w) A (.builtin "list.extend.loop" ⟨[.ref s.heap.objs.size,.ref I,.ref s.heap.objs.size],[]⟩)
    (λr s'=>∃(h':Heap) (tk:Nat) (acc':Array Value) (c':Nat),r=.ok (.ret (.ref s.heap.objs.size))/\s'={ s with heap:=h',toks:=tk,drawn:=d1 }/\(∀b o,s.heap.get? b=some o->h'.get? b=some o) /\
     h'.get? s.heap.objs.size=some { cls:=.type "list",dict:=none,data:=.seq acc' c',slots:=#[] }/\acc'.toList=order) { s with heap:=h2,drawn:=d1 }:=by
  intro h2 c1 st2 k2 hS2
  refine codeAny_extend_loopS WS hol s.heap.objs.size hLf _ order.length 0 _ #[] c1 rfl (Nat.zero_le _) st2 hS2 (ItemsOf.nil _) λs' acc' c' hm hS' hacc=>?_
  refine⟨s'.heap,s'.toks,acc',c',rfl,(by
   obtain⟨h',g',dr',tk',os'⟩:=s'
   have eg:g'=s.gens:=hm.gens
   have ed:dr'=d1:=hm.drawn
   have eo:os'=s.os:=hm.os
   subst eg;subst ed;subst eo;rfl),λb o e=>?_,hS',lS hacc⟩
  have hbl:b≠s.heap.objs.size:=Nat.ne_of_lt (Heap.lt_size e)
  refine hm.heap b o (λhmem=>?_) (k2 b o hbl (kp b o (Heap.get?_push_of_some _ e)))
  rcases List.mem_cons.mp hmem with z|z
  ·exact hbl z
  ·have hbI:b=I:=List.mem_singleton.mp z
   rw [hbI]at e
   have hI':(s.heap.push { cls:=.type "list",data:=.seq ([]:List Value).toArray }).objs.size<=I:=hI
   rw [hz0]at hI'
   exact absurd (Nat.lt_of_lt_of_le (Heap.lt_size e) (Nat.le_of_succ_le hI')) (Nat.lt_irrefl _)
 have done:∀(r:Result) (s':Shared),(∃(h':Heap) (tk:Nat) (acc':Array Value) (c':Nat),r=.ok (.ret (.ref s.heap.objs.size))/\s'={ s with heap:=h',toks:=tk,drawn:=d1 }/\(∀b o,s.heap.get? b=some o->h'.get? b=some o) /\
     h'.get? s.heap.objs.size=some { cls:=.type "list",dict:=none,data:=.seq acc' c',slots:=#[] }/\acc'.toList=order) ->
   wants (λv s'=>wpAny (model P w) A (match v with
    |Value.ref a=>do
     match (<- load a).data with
      |Data.seq xs _=>pure xs.toList
      | _=>unsupported "internal:collect"
    | _=>unsupported "internal:collect") R E s') E r s':=by
  rintro r s' ⟨h',tk,acc',c',rfl,rfl,k',hS',hi⟩
  show wpAny _ A (load s.heap.objs.size >>= _) _ _ _
  refine wpAny_bind (wpAny_load hS' ?_)
  exact wpAny_pure (h h' tk d1 acc'.toList k' (by rw [hi];exact hperm))
 have h1L:h1.get? s.heap.objs.size=some { cls:=.type "list",dict:=none,data:=.seq #[] 0,slots:=#[] }:=kp _ _ hS0
 refine wpAny_ite_split (λ_=>?_) (λ_=>wpAny_pure ⟨plainId_quiet PySem.F.plain_extend_loop _,codeAny_mono (fin h1 0 st (λ_ _ _ e=>e) h1L) done⟩)
 refine wpAny_bind (wpAny_rule ?_)
 refine wpAny_bind ?_
 show wpAny _ _ (updateSeq s.heap.objs.size (·.push .none) >>= λ_=>updateSeq s.heap.objs.size (·.pop)) _ _ _
 refine wpAny_bind (wpAny_updateSeq h1L rfl ?_)
 have hS2:=Heap.get?_update_self (Obj.mapSeq (·.push Value.none)) h1L rfl
 refine wpAny_updateSeq (hz:=by seq_fits) hS2 rfl ?_
 have hS3:=Heap.get?_update_self (Obj.mapSeq (·.pop)) hS2 rfl
 refine wpAny_pure ⟨plainId_quiet PySem.F.plain_extend_loop _,codeAny_mono (fin _ _ ?_ (λb o hb e=>?_) hS3) done⟩
 ·refine W.frame 0 _ _ st λb hb o e=>?_
  have hbS:b≠s.heap.objs.size:=λz=>hLf (z ▸ hb)
  exact(Heap.get?_update_other _ _ (Ne.symm hbS)).trans ((Heap.get?_update_other _ _ (Ne.symm hbS)).trans e)
 ·exact(Heap.get?_update_other _ _ (Ne.symm hb)).trans ((Heap.get?_update_other _ _ (Ne.symm hb)).trans e)
end
theorem ou{P:Program}{w:World}{A:Around}{E:Value->Shared->Prop}{s:Shared}{S:Addr}{ks:List Int}{R:List Value->Shared->Prop}(hh:A.handled=none)(g:c_ P w s.heap S ks)
  (h:∀(h':Heap) (tk:Nat) (d':Drawn) (acc:List Value) (order:List Int),(∀b o,s.heap.get? b=some o->h'.get? b=some o)->order.Perm ks->IntsAre acc order->R acc { s with heap:=h',toks:=tk,drawn:=d' }) :
  wpAny (model P w) A (collect (.ref S)) R E s:=by
 obtain⟨o,es,ep,t,ho,hex,hd,hel,hpm,hnd,hb,hf,hgd⟩:=g
 refine oq hh ho hex hd hb hf hgd.led hgd.rise λh' tk d' acc kp hp=>h h' tk d' acc (acc.map numOf) kp ((hp.map numOf).trans (by rw [List.map_map];exact hpm)) ?_
 have key:∀l:List Value,(∀v∈l,∃t,v=.int (numOf v) t)->IntsAre l (l.map numOf):=λl=>by
  induction l with
  |nil=>exact λ_=>.nil
  |cons v l ih =>
   intro hv
   obtain⟨t,e⟩:=hv v (.head _)
   have:=IntsAre.cons (numOf v) t (ih λu hu=>hv u (.tail _ hu))
   rw [<- e]at this
   exact this
 refine key acc λv hv=>?_
 obtain⟨e,he,rfl⟩:=List.mem_map.mp (hp.mem_iff.mp hv)
 exact mj hel e he
end L2.St
namespace L2
open PySem PySem.Spec PyProof.Rows
noncomputable def gC(scope osc:Scope):Scope :=
 { scope with names:=scope.names.map λ(n,k)=>if (k == .free&&osc.kind == .function&&osc.names.lookup n == some .cell) then (n,.cell) else (n,k) }
noncomputable def lT(osc:Scope)(n:Str)(k:NameKind):NameKind:=if (k == .free&&osc.kind == .function&&osc.names.lookup n == some .cell) then .cell else k
theorem gO(scope osc:Scope):(gC scope osc).names=scope.names.map λq=>(q.1,lT osc q.1 q.2):=by
 show List.map _ scope.names=_
 refine List.map_congr_left λq _=>?_
 obtain⟨n,k⟩:=q
 show(if (k == NameKind.free&&osc.kind == .function&&osc.names.lookup n == some .cell)=true then (n,NameKind.cell) else (n,k))=(n,lT osc n k)
 unfold lT
 split<;>rfl
theorem ez{α β:Type}(g:Str->α->β)(y:Str):∀names:List (Str×α),(names.map λq=>(q.1,g q.1 q.2)).lookup y=(names.lookup y).map (g y)
 | []=>rfl
 | (n,k)::r=>by
  rw [List.map_cons]
  cases hx:y == n with
  |true =>
   simp only [List.lookup_cons,hx,Option.map_some]
   rw [eq_of_beq hx]
  |false =>
   simp only [List.lookup_cons,hx]
   exact ez g y r
theorem sC(osc:Scope)(n:Str):lT osc n .free=.cell\/lT osc n .free=.free:=by
 unfold lT
 split
 ·exact .inl rfl
 ·exact .inr rfl
theorem sD{osc:Scope}{n:Str}{k:NameKind}(hk:k≠.cell)(h:lT osc n k=.cell\/lT osc n k=.free):k=.free:=by
 unfold lT at h
 by_cases hc:(k == NameKind.free&&osc.kind == .function&&osc.names.lookup n == some .cell)=true
 ·simp only [Bool.and_eq_true]at hc
  exact eq_of_beq hc.1.1
 ·rw [if_neg hc]at h
  rcases h with h|h
  ·exact absurd h hk
  ·exact h
theorem gP{α:Type}{y:Str}{k:α}:∀{l:List (Str×α)},l.lookup y=some k->(y,k)∈l
 | [],h=>by simp at h
 | (n,k')::r,h=>by
  cases hx:y == n with
  |true =>
   simp only [List.lookup_cons,hx]at h
   rw [eq_of_beq hx,Option.some.inj h];exact .head _
  |false =>
   simp only [List.lookup_cons,hx]at h
   exact .tail _ (gP h)
theorem sE{scope osc:Scope}{y:Str}(h:scope.names.lookup y=some .free):(gC scope osc).names.lookup y=some .cell\/(gC scope osc).names.lookup y=some .free:=by
 rw [gO,ez,h,Option.map_some]
 rcases sC osc y with e|e
 ·exact .inl (by rw [e])
 ·exact .inr (by rw [e])
theorem sG{scope osc:Scope}{x y:Str}(hn:∀z∈scope.names,z.2=.cell->z.1=x)(h:(gC scope osc).names.lookup y=some .cell\/(gC scope osc).names.lookup y=some .free):(y,NameKind.free)∈scope.names\/(y=x/\scope.names.lookup x=some .cell):=by
 rw [gO,ez]at h
 cases e:scope.names.lookup y with
 |none=>rw [e]at h;rcases h with h|h<;>cases h
 |some k =>
  rw [e,Option.map_some]at h
  have hm:=gP e
  by_cases hc:k=.cell
  ·subst hc
   have q:y=x:=hn _ hm rfl
   exact .inr ⟨q,by rw [<- q];exact e⟩
  ·have hk:k=.free:=sD hc (h.elim (λz=>.inl (Option.some.inj z)) λz=>.inr (Option.some.inj z))
   rw [hk]at hm
   exact .inl hm
theorem sH{scope osc:Scope}{y:Str}(h:scope.names.lookup y=some .cell):(gC scope osc).names.lookup y=some .cell:=by
 rw [gO,ez,h,Option.map_some]
 unfold lT
 split
 ·rfl
 ·rfl
noncomputable def eQ(env:Env):List (Str×NameKind)->List (Str×Addr)->List (Str×Addr)
 | [],acc=>acc
 | (n,k)::r,acc=>if k == .free then eQ env r ((n,(env.cells.lookup n).getD 0)::acc) else eQ env r acc
theorem jb{env:Env}:∀(names:List (Str×NameKind)) (acc:List (Str×Addr)),(∀y∈names,y.2=.free->∃c,env.cells.lookup y.1=some c) ->
  (forIn names acc λx r=>(match x with|(name,kind)=>if (kind == NameKind.free)=true then do let c <- cellOf env name;pure (ForInStep.yield ((name,c)::r)) else pure (ForInStep.yield r)):Sem (List (Str×Addr)))=pure (eQ env names acc)
 | [],acc,_=>rfl
 | (n,k)::r,acc,h=>by
  rw [List.forIn_cons]
  have hr:∀y∈r,y.2=.free->∃c,env.cells.lookup y.1=some c:=λy hy=>h y (.tail _ hy)
  by_cases hk:(k == NameKind.free)=true
  ·obtain⟨c,hc⟩:=h (n,k) (.head _) (eq_of_beq hk)
   dsimp only
   rw [if_pos hk]
   have e1:cellOf env n=pure c:=by unfold cellOf;rw [hc]
   rw [e1]
   simp only [pure_bind]
   rw [jb r _ hr]
   show _=pure (if (k == NameKind.free)=true then _ else _)
   rw [if_pos hk,hc]
   all_goals rfl
  ·dsimp only
   rw [if_neg hk]
   simp only [pure_bind]
   rw [jb r _ hr]
   show _=pure (if (k == NameKind.free)=true then _ else _)
   rw [if_neg hk]
theorem gQ{scope:Scope}{env:Env}(h:∀y∈scope.names,y.2=.free->∃c,env.cells.lookup y.1=some c):closureFor scope env=pure (eQ env scope.names []):=by
 unfold closureFor
 have:=jb (env:=env) scope.names [] h
 first
  | exact this
  | (rw [bind_pure];exact this)
  | simpa using this
theorem kR{env:Env}{y:Str}{c:Addr}:∀(names:List (Str×NameKind)) (acc:List (Str×Addr)),(∀z∈names,z.2=.free->∃c,env.cells.lookup z.1=some c)->(∀c,acc.lookup y=some c->env.cells.lookup y=some c) ->
  (eQ env names acc).lookup y=some c->env.cells.lookup y=some c
 | [],acc,_,ha,e=>ha c e
 | (n,k)::r,acc,h,ha,e=>by
  have hr:∀y∈r,y.2=.free->∃c,env.cells.lookup y.1=some c:=λy hy=>h y (.tail _ hy)
  have e':(if (k == NameKind.free)=true then eQ env r ((n,(env.cells.lookup n).getD 0)::acc) else eQ env r acc).lookup y=some c:=e
  by_cases hk:(k == NameKind.free)=true
  ·rw [if_pos hk]at e'
   refine kR r _ hr (λc' q=>?_) e'
   cases hx:y == n with
   |true =>
    simp only [List.lookup_cons,hx]at q
    obtain⟨c0,hc0⟩:=h (n,k) (.head _) (eq_of_beq hk)
    have en:y=n:=eq_of_beq hx
    have hc1:env.cells.lookup n=some c0:=hc0
    rw [hc1]at q
    rw [en,hc1]
    exact q
   |false =>
    simp only [List.lookup_cons,hx]at q
    exact ha c' q
  ·rw [if_neg hk]at e'
   exact kR r _ hr ha e'
theorem ir{env:Env}{y:Str}:∀(names:List (Str×NameKind)) (acc:List (Str×Addr)),((y,NameKind.free)∈names\/∃c,acc.lookup y=some c)->∃c,(eQ env names acc).lookup y=some c
 | [],acc,h=>by
  rcases h with h|h
  ·simp at h
  ·exact h
 | (n,k)::r,acc,h=>by
  show ∃c,(if (k == NameKind.free)=true then eQ env r ((n,(env.cells.lookup n).getD 0)::acc) else eQ env r acc).lookup y=some c
  by_cases hk:(k == NameKind.free)=true
  ·rw [if_pos hk]
   refine ir r _ ?_
   cases hx:y == n with
   |true=>exact .inr ⟨(env.cells.lookup n).getD 0,by simp only [List.lookup_cons,hx]⟩
   |false =>
    rcases h with h|⟨c,h⟩
    ·rcases List.mem_cons.mp h with z|z
     ·have:y=n:=(Prod.mk.inj z).1
      rw [this]at hx
      simp at hx
     ·exact .inl z
    ·exact .inr ⟨c,by simp only [List.lookup_cons,hx];exact h⟩
  ·rw [if_neg hk]
   refine ir r _ ?_
   rcases h with h|h
   ·rcases List.mem_cons.mp h with z|z
    ·have:NameKind.free=k:=(Prod.mk.inj z).2
     rw [<- this]at hk
     simp at hk
    ·exact .inl z
   ·exact .inr h
structure jc(osc:Scope)(N:List Str)(scope:Scope)(x:Str)(fvs:List Str)(js:List Nat):Prop where
 cells:∀y∈scope.names,y.2=.cell->y.1=x
 once:scope.names.lookup x=some .local/\(scope.names.filter λy=>y.2 == .cell)=[]\/scope.names.lookup x=some .cell/\(scope.names.filter λy=>y.2 == .cell)=[(x,.cell)]
 xf:∀y∈scope.names,y.2=.free->y.1≠x
 kind:scope.kind=.function
 names:∀y∈scope.names,y.2=.local->scope.names.lookup y.1=some .local
 nd:(x::fvs).Nodup
 out:∀y∈scope.names,y.2=.free->osc.names.lookup y.1=some .cell\/osc.names.lookup y.1=some .free
 slots:(js.map λj=>N[j]?)=fvs.map some
 free:∀y∈fvs,scope.names.lookup y=some .free
structure iu(osc:Scope)(N:List Str)(scope:Scope)(x:Str)(ys fvs:List Str)(js:List Nat):Prop where
 cells:∀y∈scope.names,y.2=.cell->y.1=x
 once:scope.names.lookup x=some .local/\(scope.names.filter λy=>y.2 == .cell)=[]\/scope.names.lookup x=some .cell/\(scope.names.filter λy=>y.2 == .cell)=[(x,.cell)]
 xf:∀y∈scope.names,y.2=.free->y.1≠x
 kind:scope.kind=.function
 names:∀y∈scope.names,y.2=.local->scope.names.lookup y.1=some .local
 nd:(x::(ys++fvs)).Nodup
 out:∀y∈scope.names,y.2=.free->osc.names.lookup y.1=some .cell\/osc.names.lookup y.1=some .free
 slots:(js.map λj=>N[j]?)=fvs.map some
 free:∀y∈fvs,scope.names.lookup y=some .free
theorem jc.g{osc:Scope}{N:List Str}{scope:Scope}{x:Str}{fvs:List Str}{js:List Nat}(h:jc osc N scope x fvs js):iu osc N scope x [] fvs js:=⟨h.cells,h.once,h.xf,h.kind,h.names,h.nd,h.out,h.slots,h.free⟩
noncomputable def jd(scope:Scope)(x:Str)(C:Addr):List (Str×Addr):=if scope.names.lookup x=some .cell then [(x,C+1)] else []
noncomputable def Cx.blk(X:Cx)(x:Str)(fvs:List Str)(scope:Scope)(s₁:Shared)(H₁:Hp)(C:Addr)(fp:List Addr):Cx :=
 { X with N:=x::fvs,s₀:=s₁,H₀:=H₁,env:=compEnvC scope (jd scope x C++eQ X.env scope.names []) C X.env,outer:=X.stack,ex:=fp,fn:=λy=>decide (y=x/\scope.names.lookup x=some .cell),pn:=[],xe:=λ_ _=>False }
theorem kS{M:Model}{A:Around}{E:Value->Shared->Prop}:∀{names:List (Str×NameKind)}{acc:List (Str×Addr)}{s:Shared}{Q:List (Str×Addr)->Shared->Prop},(names.filter λy=>y.2 == .cell)=[]->Q acc s ->
  wpAny M A (forIn names acc λx r=>(match x with|(name,kind)=>if (kind == NameKind.cell)=true then do let c <- alloc { cls:=.type "cell",data:=.cell none };pure (ForInStep.yield ((name,c)::r)) else pure (ForInStep.yield r)):Sem (List (Str×Addr))) Q E s
 | [],_,_,_,_,h=>wpAny_pure h
 | (n,k)::r,acc,s,Q,hf,h=>by
  rw [List.forIn_cons]
  have hk:(k == NameKind.cell)=false:=by
   cases q:(k == NameKind.cell) with
   |false=>rfl
   |true=>rw [List.filter_cons_of_pos (by exact q)]at hf;cases hf
  rw [List.filter_cons_of_neg (by rw [hk];decide)]at hf
  dsimp only
  rw [if_neg (by rw [hk];decide)]
  exact wpAny_bind (wpAny_pure (kS hf h))
theorem mr{M:Model}{A:Around}{E:Value->Shared->Prop}{x:Str}:∀{names:List (Str×NameKind)}{acc:List (Str×Addr)}{s:Shared}{Q:List (Str×Addr)->Shared->Prop},(names.filter λy=>y.2 == .cell)=[(x,.cell)] ->
  Q ((x,s.heap.objs.size)::acc) { s with heap:=s.heap.push { cls:=.type "cell",data:=.cell none } } ->
  wpAny M A (forIn names acc λx r=>(match x with|(name,kind)=>if (kind == NameKind.cell)=true then do let c <- alloc { cls:=.type "cell",data:=.cell none };pure (ForInStep.yield ((name,c)::r)) else pure (ForInStep.yield r)):Sem (List (Str×Addr))) Q E s
 | [],_,_,_,hf,_=>by cases hf
 | (n,k)::r,acc,s,Q,hf,h=>by
  rw [List.forIn_cons]
  dsimp only
  cases hk:(k == NameKind.cell) with
  |false =>
   rw [List.filter_cons_of_neg (by rw [hk];decide)]at hf
   rw [if_neg (by decide)]
   exact wpAny_bind (wpAny_pure (mr hf h))
  |true =>
   rw [List.filter_cons_of_pos (by exact hk)]at hf
   obtain⟨e1,e2⟩:=List.cons.inj hf
   cases e1
   rw [if_pos rfl]
   exact wpAny_bind (wpAny_bind (wpAny_alloc (wpAny_pure (kS e2 h))))
theorem pS{M:Model}{A:Around}{E:Value->Shared->Prop}{scope:Scope}{x:Str}{globals:Addr}{cl:List (Str×Addr)}{qual:Str}{env:Env}{s:Shared}{Q:Env->Shared->Prop}(hk:scope.kind=.function)
  (ho:scope.names.lookup x=some .local/\(scope.names.filter λy=>y.2 == .cell)=[]\/scope.names.lookup x=some .cell/\(scope.names.filter λy=>y.2 == .cell)=[(x,.cell)])
  (h:∀h' m,h'.Ns s.heap.objs.size m->(∀b u,s.heap.get? b=some u->h'.get? b=some u)->(scope.names.lookup x=some .cell->h'.IsCell (s.heap.objs.size+1) none)->Q (newEnv scope s.heap.objs.size globals (jd scope x s.heap.objs.size++cl) qual none .none (some env) builtinsNs) { s with heap:=h' }) :
  wpAny M A (newFunctionEnv scope globals cl [] qual none .none (some env)) Q E s:=by
 rcases ho with ⟨h1,h2⟩|⟨h1,h2⟩
 ·refine wpAny_newFunctionEnv (λy hy z=>?_) (by intro y hy;simp at hy) (λh' hns hsb=>?_) hk
  ·have:y∈scope.names.filter λy=>y.2 == .cell:=List.mem_filter.mpr ⟨hy,by rw [z];rfl⟩
   rw [h2]at this
   cases this
  ·have q:=h h' _ hns (λb u e=>hsb.extBut b u (Nat.ne_of_lt (Heap.lt_size e)) (Heap.get?_push_of_some _ e)) λz=>by rw [h1]at z;cases z
   unfold jd at q
   rw [if_neg (by rw [h1];simp)]at q
   exact q
 ·unfold newFunctionEnv
  refine wpAny_bind (wpAny_alloc (wpAny_bind (mr h2 ?_)))
  have hn:=Heap.Ns.new s.heap (.type "dict")
  have hs:(s.heap.push { cls:=.type "dict",data:=.dict #[] }).objs.size=s.heap.objs.size+1:=Heap.size_push _ _
  have q:=h ((s.heap.push { cls:=.type "dict",data:=.dict #[] }).push { cls:=.type "cell",data:=.cell none }) _ (hn.keeps λb o e=>Heap.get?_push_of_some _ e) (λb u e=>Heap.get?_push_of_some _ (Heap.get?_push_of_some _ e)) λ_=>⟨_,by rw [<- hs];exact Heap.get?_push_size _ rfl,rfl⟩
  unfold jd at q
  rw [if_pos h1]at q
  rw [<- hs]at q
  exact wpAny_bind (wpAny_pure (wpAny_pure q))
noncomputable def iw(js:List Nat)(σ:St):St:=none::js.map λj=>(σ[j]?).join
noncomputable def m_(n:Nat)(js:List Nat)(σ:St):St:=none::(List.replicate n none++js.map λj=>(σ[j]?).join)
noncomputable def PF(X:Cx)(ifs:List Expr)(t:TT):Prop :=
 ∀(pins:List (Addr×Obj)) (s:Shared) (σ:St) (H:Hp) (Q:Bool->Hp->Prop),Inv X pins σ H s->t σ H Q ->
  wpAny (model X.prog X.w) X.A (forIn ifs true λc r=>if r=true then do let ok <- isTrue c X.env (eval c X.env);pure (ForInStep.yield ok) else pure (ForInStep.yield r)) (TP X pins σ Q) X.xe s
noncomputable def uZ:TT:=λ_ H Q=>Q true H
theorem u0{X:Cx}:PF X [] uZ:=λ_ _ _ H _ I h=>wpAny_tests_nil ⟨H,I,h⟩
theorem Ac{X:Cx}{c:Expr}{t:TT}(h:PT X c t):PF X [c] t:=λpins s σ H Q I q=>wpAny_tests_one (h pins s σ H Q I q)
section
variable{prog:Program}{w:World}{A:Around}{R:Result->Shared->Prop}{s:Shared}
theorem sI{elt target iter:Expr}{ifs:List Expr}{scope:Scope}{pos:Pos}{it acc:Value}{env:Env}(J:Nat->Shared->Prop)
  (turn:∀n s,J n s->wpAny (model prog w) A (pyNext it) (λr s1=>match r with
   |none=>R (.ok .next) s1
   |some v=>wpAny (model prog w) A (letOwnedTupleGo target it v) (λ_ s2=>wpAny (model prog w) A (assign target env v) (λ_ s3 =>
     wpAny (model prog w) A (forIn ifs true λc r=>if r=true then do let ok <- isTrue c env (eval c env);pure (ForInStep.yield ok) else pure (ForInStep.yield r)) (λok s4 =>
      if ok=true then wpAny (model prog w) A (eval elt env) (λx s5 =>
       wpAny (model prog w) A (call (.builtin "list.append") [acc,x]) (λ_ s6=>∃m,m<n/\J m s6) (λ_ _=>False) s5) (λ_ _=>False) s4
      else ∃m,m<n/\J m s4) (λ_ _=>False) s3) (λ_ _=>False) s2) (λ_ _=>False) s1) (λ_ _=>False) s)
  (n:Nat) (h:J n s):codeAny (model prog w) A (.compLoop (.ListComp elt [⟨target,iter,ifs,0⟩] scope pos) 0 it acc env) R s:=by
 have up:∀{α:Type}{t:Sem α}{Q:α->Shared->Prop}{E:Value->Shared->Prop}{s:Shared},wpAny (model prog w) A t Q (λ_ _=>False) s->wpAny (model prog w) A t Q E s:=λq=>wpAny_mono q (λ_ _ z=>z) λ_ _ z=>z.elim
 refine codeAny_loop rfl J (λn s hJ=>?_) n h
 show wpAny _ A ((compTurn (.ListComp elt [⟨target,iter,ifs,0⟩] scope pos) 0 it acc env).onRaise (λx=>do noteFrame x env;theTreesLotGoes x)) _ _ s
 refine wpAny_noted ?_
 rw [compTurn_list]
 refine wpAny_bind (wpAny_standAt (wpAny_bind (wpAny_mono (up (turn n s hJ)) (λr s1 h1=>?_) λ_ _ z=>z)))
 cases r with
 |none=>exact wpAny_pure h1
 |some v =>
  refine wpAny_bind (wpAny_mono (up h1) (λ_ s2 h2=>?_) λ_ _ z=>z)
  refine wpAny_bind (wpAny_mono (up h2) (λ_ s3 h3=>wpAny_bind (wpAny_mono (up h3) (λok s4 h4=>?_) λ_ _ z=>z)) λ_ _ z=>z)
  cases ok with
  |false=>exact wpAny_pure ⟨rfl,h4⟩
  |true=>exact wpAny_bind (wpAny_bind (wpAny_mono (up h4) (λx s5 h5=>wpAny_bind (wpAny_mono (up h5) (λ_ s6 h6=>wpAny_pure (wpAny_pure ⟨rfl,h6⟩)) λ_ _ z=>z)) λ_ _ z=>z))
end
noncomputable def oA(J:It)(σ0:St)(H1:Hp)(tt:TT)(te:TE)(D:Addr)(Q:VK):Prop :=
 ∃W:Nat->Nat->St->Hp->Prop,(∃m,W 0 m σ0 (upd H1 D (.lst [])))/\∀i m σ' H',W i m σ' H' ->
  (J.stop i H'/\Q (.ref D) H')\/(J.go i H'/\∃N:St->Hp->Prop,(∀σ2 H2,N σ2 H2->∃m',m'<m/\W (i+1) m' σ2 H2)/\∀x H2,J.yld i H' x H2 ->
   tt (σ'.set 0 (some x)) H2 λb H3=>if b=true then te (σ'.set 0 (some x)) H3 λy H4=>∃ys,H4 D=some (.lst ys)/\ys.length<sizeLine/\N (σ'.set 0 (some x)) (upd H4 D (.lst (ys ++ [y]))) else N (σ'.set 0 (some x)) H3)
noncomputable def pT(J:It)(g:TG)(σ0:St)(H1:Hp)(tt:TT)(te:TE)(D:Addr)(Q:VK):Prop :=
 ∃W:Nat->Nat->St->Hp->Prop,(∃m,W 0 m σ0 (upd H1 D (.lst [])))/\∀i m σ' H',W i m σ' H' ->
  (J.stop i H'/\Q (.ref D) H')\/(J.go i H'/\∃N:St->Hp->Prop,(∀σ2 H2,N σ2 H2->∃m',m'<m/\W (i+1) m' σ2 H2)/\∀x H2,J.yld i H' x H2 ->
   g x σ' H2 λσ3 H3=>tt σ3 H3 λb H4=>if b=true then te σ3 H4 λy H5=>∃ys,H5 D=some (.lst ys)/\ys.length<sizeLine/\N σ3 (upd H5 D (.lst (ys ++ [y]))) else N σ3 H4)
theorem oA.g{J:It}{σ0:St}{H1:Hp}{tt:TT}{te:TE}{D:Addr}{Q:VK}(h:oA J σ0 H1 tt te D Q):pT J (bT 0) σ0 H1 tt te D Q:=h
noncomputable def oB(wi:TI)(js:List Nat)(tt:TT)(te:TE):TE:=λσ H Q=>wi σ H λJ H1=>∀D,H1 D=none->oA J (iw js σ) H1 tt te D Q
section
variable{X:Cx}{elt iter:Expr}{x:Str}{px:Pos}{ifs:List Expr}{scope:Scope}{pos:Pos}{fvs:List Str}{js:List Nat}{wi:TI}{tt:TT}{te:TE}
theorem u4{tg:Expr}{ys:List Str}(hsc:iu X.env.scope X.N scope x ys fvs js){pins:List (Addr×Obj)}{σ:St}{H2:Hp}{s2:Shared}{it:Addr}{fp:List Addr}{tn:Nat->Heap->Prop}{J:It}{G h1:Heap}{m1}(I2:Inv X pins σ H2 s2)(T:nX X.prog X.w X.K tg J fp it tn)(st2:tn 0 s2.heap)(f2:∀b∈fp,hX X pins H2 b)
  (I3:Inv X pins σ (upd H2 s2.heap.objs.size (.lst [])) { s2 with heap:=G,toks:=s2.toks }) (hG:s2.heap.push { cls:=.type "list",dict:=none,data:=.seq ([]:List Value).toArray }=G) (hns1:h1.Ns G.objs.size m1) (up:∀b u,G.get? b=some u->h1.get? b=some u) (hcl1:scope.names.lookup x=some .cell->h1.IsCell (G.objs.size+1) none) :
  (X.blk x (ys++fvs) scope { s2 with heap:=G,toks:=s2.toks } (upd H2 s2.heap.objs.size (.lst [])) G.objs.size fp).Ok/\Inv (X.blk x (ys++fvs) scope { s2 with heap:=G,toks:=s2.toks } (upd H2 s2.heap.objs.size (.lst [])) G.objs.size fp) [] (m_ ys.length js σ) (upd H2 s2.heap.objs.size (.lst [])) { s2 with heap:=h1,toks:=s2.toks }/\tn 0 h1/\∀b∈fp,(upd H2 s2.heap.objs.size (.lst [])) b=none:=by
 have fr:∀y∈scope.names,y.2=.free->∃c,X.env.cells.lookup y.1=some c:=λy hy hk=>I2.ok.has y.1 (hsc.out y hy hk)
 have sub:∀y c,(eQ X.env scope.names []).lookup y=some c->X.env.cells.lookup y=some c:=λy c e=>kR scope.names [] fr (λ_ q=>by simp at q) e
 have hC:G.objs.size=s2.heap.objs.size+1:=by rw [<- hG,Heap.size_push]
 have look:∀{y:Str}{c:Addr},(jd scope x G.objs.size++eQ X.env scope.names []).lookup y=some c->(y=x/\scope.names.lookup x=some .cell/\c=G.objs.size+1)\/(eQ X.env scope.names []).lookup y=some c:=λ{y c} e=>by
  unfold jd at e
  by_cases q:scope.names.lookup x=some .cell
  ·rw [if_pos q]at e
   by_cases z:(y == x)=true
   ·rw [List.cons_append,List.lookup_cons,z]at e
    exact .inl ⟨eq_of_beq z,q,(Option.some.inj e).symm⟩
   ·rw [List.cons_append,List.lookup_cons,(Bool.not_eq_true _).mp z]at e
    exact .inr e
  ·rw [if_neg q]at e
   exact .inr e
 have nC:(upd H2 s2.heap.objs.size (.lst [])) G.objs.size=none:=I3.hok.fresh (Nat.le_refl _)
 have cL:G.objs.size≠X.env.locals:=Nat.ne_of_gt I3.lt
 have cS:X.s₀.heap.objs.size<=G.objs.size:=I3.sz
 have cC:∀y c,X.env.cells.lookup y=some c->c≠G.objs.size:=λy c e z=>by
  obtain⟨v,q⟩:=I3.cell y c e
  exact absurd (show c<G.objs.size from q.lt) (by rw [z];exact Nat.lt_irrefl _)
 have cP:∀p∈X.pn++pins,p.1≠G.objs.size:=λp hp z=>absurd (show p.1<G.objs.size from Heap.lt_size (I3.pin p hp).1) (by rw [z];exact Nat.lt_irrefl _)
 have fpl:∀b∈fp,b<s2.heap.objs.size:=λb hb=>by
  obtain⟨o,e,_⟩:=T.obj 0 _ st2 b hb
  exact Heap.lt_size e
 have ok:(X.blk x (ys++fvs) scope { s2 with heap:=G,toks:=s2.toks } (upd H2 s2.heap.objs.size (.lst [])) G.objs.size fp).Ok:=by
  have hb:∀b∈fp,b∉frs X.stack:=λb hb z=>(List.mem_cons.mp (I2.stkSub b z)).elim (f2 b hb).2.1 (f2 b hb).2.2.1
  exact {
   mod:=I3.ok.mod
   kind:=by show(relabel scope X.env).kind=_;exact hsc.kind
   glob:=I3.ok.glob
   blt:=I3.ok.blt
   above:=Nat.le_refl _
   inj:=λy z c e1 e2=>by
    have lt:∀{y:Str},(eQ X.env scope.names []).lookup y=some c->c<G.objs.size:=λ{y} e=>by
     obtain⟨v,q⟩:=I3.cell y c (sub y c e)
     exact q.lt
    rcases look e1 with ⟨a1,_,a2⟩|a1
    ·rcases look e2 with ⟨b1,_,_⟩|b1
     ·rw [a1,b1]
     ·exact absurd (lt b1) (by rw [a2];exact Nat.not_lt.mpr (Nat.le_succ _))
    ·rcases look e2 with ⟨_,_,b2⟩|b1
     ·exact absurd (lt a1) (by rw [b2];exact Nat.not_lt.mpr (Nat.le_succ _))
     ·exact I3.ok.inj y z c (sub y c a1) (sub z c b1)
   has:=λy hy=>by
    show ∃c,(jd scope x G.objs.size++eQ X.env scope.names []).lookup y=some c
    unfold jd
    rcases sG hsc.cells hy with hm|⟨e,q⟩
    ·obtain⟨c,ec⟩:=ir (env:=X.env) scope.names [] (.inl hm)
     by_cases q:scope.names.lookup x=some .cell
     ·have z:(y == x)=false:=beq_eq_false_iff_ne.mpr (hsc.xf _ hm rfl)
      exact⟨c,by rw [if_pos q,List.cons_append,List.lookup_cons,z];exact ec⟩
     ·exact⟨c,by rw [if_neg q];exact ec⟩
    ·subst e
     exact⟨G.objs.size+1,by rw [if_pos q,List.cons_append,List.lookup_cons,beq_self_eq_true]⟩
   cab:=λy c h e=>by
    obtain⟨h1,h2⟩:=of_decide_eq_true h
    have e':(jd scope x G.objs.size++eQ X.env scope.names []).lookup y=some c:=e
    unfold jd at e'
    rw [if_pos h2,h1,List.cons_append,List.lookup_cons,beq_self_eq_true]at e'
    rw [<- Option.some.inj e']
    exact Nat.le_succ _
   hd:=I3.ok.hd
   frames:=I3.ok.frames
   stk:=.inl rfl
   exf:=λb hb'=>⟨Nat.ne_of_lt (show b<G.objs.size from Nat.lt_of_lt_of_le (fpl b hb') (by rw [hC];exact Nat.le_succ _)),λy c e=>by
    rcases look e with ⟨_,_,a⟩|a
    ·rw [a,hC];exact Nat.ne_of_gt (Nat.lt_of_lt_of_le (fpl b hb') (Nat.le_trans (Nat.le_succ _) (Nat.le_succ _)))
    ·exact(f2 b hb').2.2.2.2.1 y c (sub y c a)⟩
   bs:=I3.bs
   bsz:=Nat.le_trans I3.ok.bsz I3.sz
   noex:=λb o e hb'=>by
    have q:=(f2 b hb').2.2.2.1
    rcases q with q|q
    ·exact I3.ok.noex b o e q
    ·exact absurd (Nat.lt_of_lt_of_le (Heap.lt_size e) (Nat.le_trans I3.ok.bsz q)) (Nat.lt_irrefl _)
   exfs:=hb
   funs:=I3.stack
   frf:=I3.stkFree }
 have hlen:(m_ ys.length js σ).length=(x::(ys++fvs)).length:=by
  have e:=congrArg List.length hsc.slots
  simp only [List.length_map]at e
  simp [m_,e]
 have I4:Inv (X.blk x (ys++fvs) scope { s2 with heap:=G,toks:=s2.toks } (upd H2 s2.heap.objs.size (.lst [])) G.objs.size fp) [] (m_ ys.length js σ) (upd H2 s2.heap.objs.size (.lst [])) { s2 with heap:=h1,toks:=s2.toks }:=by
  refine⟨ok,rfl,I3.bare,Un.kept up,⟨_,hns1,λi y v e1 e2 e3=>?_⟩,λy c e=>?_,nC,λy c e=>(look e).elim (λ⟨_,_,a⟩=>by rw [a];exact I3.hok.fresh (Nat.le_succ _)) λa=>I3.freeC y c (sub y c a),λp hp=>by simp [Cx.blk]at hp,I3.hok.kept up,hlen⟩
  ·cases i with
   |zero=>simp [m_]at e2
   |succ i0 =>
    have e10:(ys++fvs)[i0]?=some y:=e1
    have e20:(List.replicate ys.length none++js.map λj=>(σ[j]?).join)[i0]?=some (some v):=by simpa [m_] using e2
    by_cases hlt:i0<ys.length
    ·rw [List.getElem?_append_left (by simpa using hlt),List.getElem?_replicate,if_pos hlt]at e20
     cases e20
    rw [List.getElem?_append_right (by simpa using Nat.le_of_not_lt hlt),List.length_replicate]at e20
    rw [List.getElem?_append_right (Nat.le_of_not_lt hlt)]at e10
    generalize i0-ys.length=i at e10 e20
    have e1':fvs[i]?=some y:=e10
    have hm:y∈fvs:=List.mem_of_getElem? e1'
    have hfy:=hsc.free y hm
    have hmy:(y,NameKind.free)∈scope.names:=gP hfy
    have e2':(js.map λj=>(σ[j]?).join)[i]?=some (some v):=e20
    rw [List.getElem?_map]at e2'
    cases ej:js[i]? with
    |none=>rw [ej]at e2';cases e2'
    |some j =>
     rw [ej]at e2'
     have e3':(σ[j]?).join=some v:=Option.some.inj e2'
     have e4:σ[j]?=some (some v):=by
      cases q:σ[j]? with
      |none=>rw [q]at e3';cases e3'
      |some z=>rw [q]at e3';exact congrArg some e3'
     have e5:X.N[j]?=some y:=by
      have q:=congrArg (λl=>l[i]?) hsc.slots
      simp only [List.getElem?_map,ej,e1',Option.map_some]at q
      exact Option.some.inj q
     obtain⟨m,hn,hl⟩:=I3.loc
     have hout:=hsc.out (y,.free) hmy rfl
     obtain⟨u,ru,lk⟩:=hl j y v e5 e4 (.inr hout)
     refine⟨u,ru,.inr ⟨?_,?_⟩⟩
     ·show(relabel scope X.env).names.lookup y=_\/(relabel scope X.env).names.lookup y=_
      exact sE (osc:=X.env.scope) hfy
     ·obtain⟨c,ec⟩:=ir (env:=X.env) scope.names [] (.inl hmy)
      have nx:(y == x)=false:=beq_eq_false_iff_ne.mpr (hsc.xf _ hmy rfl)
      refine⟨c,?_,?_⟩
      ·show(jd scope x G.objs.size++eQ X.env scope.names []).lookup y=some c
       unfold jd
       split
       ·rw [List.cons_append,List.lookup_cons,nx];exact ec
       ·exact ec
      rcases lk with ⟨z,_⟩|⟨_,c',ec',q⟩
      ·have z':X.env.scope.names.lookup y=some .local:=z
       rcases hout with w|w
       ·rw [show X.env.scope.names.lookup y=some .cell from w]at z';cases z'
       ·rw [show X.env.scope.names.lookup y=some .free from w]at z';cases z'
      ·have:=sub y c ec
       rw [ec']at this
       cases this
       obtain⟨o,ho,hd⟩:=q
       exact⟨o,up _ _ ho,hd⟩
  ·rcases look e with ⟨_,q,a⟩|a
   ·exact⟨none,by rw [a];exact hcl1 q⟩
   ·obtain⟨v,o,ho,hd⟩:=I3.cell y c (sub y c a)
    exact⟨v,o,up _ _ ho,hd⟩
 have st4:tn 0 h1:=T.keep 0 _ _ st2 λb hb o e=>up b o (by rw [<- hG];exact Heap.get?_push_of_some _ e)
 have fr4:∀b∈fp,(upd H2 s2.heap.objs.size (.lst [])) b=none:=λb hb=>by
  rw [ak (Nat.ne_of_lt (fpl b hb))];exact(f2 b hb).1
 exact⟨ok,I4,st4,fr4⟩
theorem kT{tg:Expr}{g:TG}{ys:List Str}(hsc:iu X.env.scope X.N scope x ys fvs js)(hc:X.calm=true)(hg:∀s₁ H₁ C fp,PG (X.blk x (ys++fvs) scope s₁ H₁ C fp) tg g)
  (ht:∀s₁ H₁ C fp,PF (X.blk x (ys++fvs) scope s₁ H₁ C fp) ifs tt) (he:∀s₁ H₁ C fp,PE (X.blk x (ys++fvs) scope s₁ H₁ C fp) elt te)
  {pins:List (Addr×Obj)}{σ:St}{H2:Hp}{s2:Shared}{Q:VK}{it:Addr}{fp:List Addr}{tn:Nat->Heap->Prop}{J:It}{RR:Value->Addr->Result->Shared->Prop}
  (I2:Inv X pins σ H2 s2) (T:nX X.prog X.w X.K tg J fp it tn) (st2:tn 0 s2.heap) (f2:∀b∈fp,hX X pins H2 b)
  (hh:∀D,H2 D=none->pT J g (m_ ys.length js σ) H2 tt te D Q)
  (fin:∀(D C:Addr) (H':Hp) (s':Shared),Inv X pins σ H' s'->(∃m,s'.heap.Ns C m)->H' C=none->C≠X.env.locals->X.s₀.heap.objs.size<=C->(∀y c,X.env.cells.lookup y=some c->c≠C)->(∀p∈X.pn++pins,p.1≠C)->Q (.ref D) H' ->
   RR (.ref D) C (.ok .next) s') {E:Value->Shared->Prop} :
  wpAny (model X.prog X.w) X.A (newList []) (λacc s3=>wpAny (model X.prog X.w) X.A (newFunctionEnv scope X.env.globals (eQ X.env scope.names []) [] X.env.qual none .none (some X.env)) (λcenv s4 =>
   codeAny (model X.prog X.w) X.A (.compStart (.ListComp elt [⟨tg,iter,ifs,0⟩] scope pos) 0 (.ref it) acc { cenv with scope:=relabel scope X.env }) (RR acc cenv.locals) s4) E s3) E s2:=by
 refine wpAny_newObj_type (pS (x:=x) hsc.kind hsc.once λh1 m1 hns1 hsb1 hcl1=>?_)
 dsimp only at hns1 hsb1 hcl1 ⊢
 have I3:Inv X pins σ (upd H2 s2.heap.objs.size (.lst [])) { s2 with heap:=s2.heap.push { cls:=.type "list",data:=.seq ([]:List Value).toArray },toks:=s2.toks }:=I2.lnew (ys:=[]) (its:=[]) .nil (Nat.zero_le _)
 generalize hG:s2.heap.push { cls:=.type "list",dict:=none,data:=.seq ([]:List Value).toArray }=G at hns1 hsb1 hcl1 I3 ⊢
 obtain⟨W,⟨m0,w0⟩,turn⟩:=hh s2.heap.objs.size I2.fresh
 obtain⟨ok,I4,st4,fr4⟩:=u4 hsc I2 T st2 f2 I3 hG hns1 hsb1 hcl1
 have cL:G.objs.size≠X.env.locals:=Nat.ne_of_gt I3.lt
 have cS:X.s₀.heap.objs.size<=G.objs.size:=I3.sz
 have cC:∀y c,X.env.cells.lookup y=some c->c≠G.objs.size:=λy c e z=>by
  obtain⟨v,q⟩:=I3.cell y c e
  exact absurd (show c<G.objs.size from q.lt) (by rw [z];exact Nat.lt_irrefl _)
 have cP:∀p∈X.pn++pins,p.1≠G.objs.size:=λp hp z=>absurd (show p.1<G.objs.size from Heap.lt_size (I3.pin p hp).1) (by rw [z];exact Nat.lt_irrefl _)
 have stat:∀{H':Hp},(∀b∈fp,H' b=none)->∀b∈fp,hX (X.blk x (ys++fvs) scope { s2 with heap:=G,toks:=s2.toks } (upd H2 s2.heap.objs.size (.lst [])) G.objs.size fp) [] H' b:=λhn b hb =>
  ⟨hn b hb,(ok.exf b hb).1,ok.exfs b hb,.inl hb,(ok.exf b hb).2,λp hp=>by simp [Cx.blk]at hp⟩
 have hch:∀b∈fp,(b∈X.ex\/X.s₀.heap.objs.size<=b)/\b≠X.env.locals/\(∀x c,X.env.cells.lookup x=some c->c≠b)/\∀p∈X.pn++pins,p.1≠b:=λb hb =>
  let ⟨_,q1,_,q2,q3,q4⟩:=f2 b hb;⟨q2,q1,q3,q4⟩
 have loop:∀s5:Shared,s5={ s2 with heap:=h1,toks:=s2.toks } ->
   codeAny (model X.prog X.w) X.A (.compLoop (.ListComp elt [⟨tg,iter,ifs,0⟩] scope pos) 0 (.ref it) (.ref s2.heap.objs.size) (compEnvC scope (jd scope x G.objs.size++eQ X.env scope.names []) G.objs.size X.env)) (RR (.ref s2.heap.objs.size) G.objs.size) s5:=by
  rintro s5 rfl
  refine sI (λn s'=>∃i σ' H',Inv (X.blk x (ys++fvs) scope { s2 with heap:=G,toks:=s2.toks } (upd H2 s2.heap.objs.size (.lst [])) G.objs.size fp) [] σ' H' s'/\tn i s'.heap/\(∀b∈fp,H' b=none)/\W i n σ' H') ?_ m0 ⟨0,_,_,I4,st4,fr4,w0⟩
  rintro n s6 ⟨i,σ6,H6,I6,st6,fr6,w6⟩
  rcases turn i n σ6 H6 w6 with ⟨stop,qn⟩|⟨go,N,hN,step⟩
  ·refine thn (T.done (X.blk x (ys++fvs) scope { s2 with heap:=G,toks:=s2.toks } (upd H2 s2.heap.objs.size (.lst [])) G.objs.size fp) rfl rfl rfl hc i [] s6 σ6 H6 _ I6 (stat fr6) st6 stop) λr s7 ⟨hr,I7⟩=>?_
   subst hr
   have I8:Inv X pins σ H6 s7:=I3.call' (ch:=fp) I7.os I7.base I7.hok I7.bare hch
   obtain⟨m,hn,_⟩:=I7.loc
   exact fin _ _ H6 s7 I8 ⟨m,hn⟩ I7.free cL cS cC cP qn
  ·refine thn (T.item (X.blk x (ys++fvs) scope { s2 with heap:=G,toks:=s2.toks } (upd H2 s2.heap.objs.size (.lst [])) G.objs.size fp) rfl rfl rfl hc i [] s6 σ6 H6 _ I6 (stat fr6) st6 go) λr s7 ⟨u,hr,h7⟩=>?_
   subst hr
   refine thn h7 λ_ s8 ⟨x8,H8,I8,r8,y8,st8,fr8⟩=>?_
   have I8':=I8.pinned (stat fr8) (T.obj _ _ st8)
   refine thn (hg _ _ _ _ _ s8 σ6 H8 x8 u _ I8' r8 (step x8 H8 y8)) λ_ s9 ⟨σ9,H9,I9,q9⟩=>?_
   refine thn (ht _ _ _ _ _ s9 _ H9 _ I9 q9) λok' s10 ⟨H10,I10,q10⟩=>?_
   have again:∀{s11:Shared}{H11:Hp},Inv (X.blk x (ys++fvs) scope { s2 with heap:=G,toks:=s2.toks } (upd H2 s2.heap.objs.size (.lst [])) G.objs.size fp) ([]++kg fp s8.heap) σ9 H11 s11->N σ9 H11 ->
     ∃m,m<n/\∃i σ' H',Inv (X.blk x (ys++fvs) scope { s2 with heap:=G,toks:=s2.toks } (upd H2 s2.heap.objs.size (.lst [])) G.objs.size fp) [] σ' H' s11/\tn i s11.heap/\(∀b∈fp,H' b=none)/\W i m σ' H':=λ{s11 H11} I11 n11=>by
    obtain⟨m',hm,w11⟩:=hN _ H11 n11
    refine⟨m',hm,i+1,_,H11,I11.unpinned,T.keep _ _ _ st8 λb hb o e=>(I11.pin (b,o) (List.mem_append_right _ (List.mem_append_right _ (fz hb e)))).1,λb hb=>?_,w11⟩
    obtain⟨o,e,d⟩:=T.obj _ _ st8 b hb
    exact(I11.pin (b,o) (List.mem_append_right _ (List.mem_append_right _ (fz hb e)))).2.1
   cases ok' with
   |false =>
    rw [if_neg (by simp)]at q10 ⊢
    exact again I10 q10
   |true =>
    rw [if_pos rfl]at q10 ⊢
    refine thn (he _ _ _ _ _ s10 _ H10 _ I10 q10) λy s11 ⟨yv,H11,I11,ry,ys,hys,hl,n11⟩=>?_
    refine thn (cn _ s11 _ H11 (.ref s2.heap.objs.size) [yv] (.ref s2.heap.objs.size) [y] (λ_ H12=>N σ9 H12) I11 rfl (.cons ry .nil) ⟨_,ys,yv,rfl,rfl,hys,hl,n11⟩) λ_ s12 ⟨_,H12,I12,_,n12⟩=>again I12 n12
 exact codeAny_compStart_list (loop _ rfl) (T.self _ 0 _ _ _ st4 (loop _ rfl))
theorem mv(hsc:jc X.env.scope X.N scope x fvs js)(hc:X.calm=true)
  (ht:∀s₁ H₁ C fp,PF (X.blk x fvs scope s₁ H₁ C fp) ifs tt) (he:∀s₁ H₁ C fp,PE (X.blk x fvs scope s₁ H₁ C fp) elt te)
  {pins:List (Addr×Obj)}{σ:St}{H2:Hp}{s2:Shared}{Q:VK}{it:Addr}{fp:List Addr}{tn:Nat->Heap->Prop}{J:It}{RR:Value->Addr->Result->Shared->Prop}
  (I2:Inv X pins σ H2 s2) (T:nX X.prog X.w X.K (.Name x px) J fp it tn) (st2:tn 0 s2.heap) (f2:∀b∈fp,hX X pins H2 b)
  (hh:∀D,H2 D=none->oA J (iw js σ) H2 tt te D Q)
  (fin:∀(D C:Addr) (H':Hp) (s':Shared),Inv X pins σ H' s'->(∃m,s'.heap.Ns C m)->H' C=none->C≠X.env.locals->X.s₀.heap.objs.size<=C->(∀y c,X.env.cells.lookup y=some c->c≠C)->(∀p∈X.pn++pins,p.1≠C)->Q (.ref D) H' ->
   RR (.ref D) C (.ok .next) s') {E:Value->Shared->Prop} :
  wpAny (model X.prog X.w) X.A (newList []) (λacc s3=>wpAny (model X.prog X.w) X.A (newFunctionEnv scope X.env.globals (eQ X.env scope.names []) [] X.env.qual none .none (some X.env)) (λcenv s4 =>
   codeAny (model X.prog X.w) X.A (.compStart (.ListComp elt [⟨.Name x px,iter,ifs,0⟩] scope pos) 0 (.ref it) acc { cenv with scope:=relabel scope X.env }) (RR acc cenv.locals) s4) E s3) E s2 :=
 kT (ys:=[]) hsc.g hc (λs₁ H₁ C fp=>dn (X:=X.blk x fvs scope s₁ H₁ C fp) (i:=0) (x:=x) (pos:=px) hsc.nd rfl (hsc.once.elim (λq=>.inl (lookup_relabel_local q.1)) λq=>.inr (sH q.1)) (hsc.once.elim (λq=>.inr (lookup_relabel_local q.1)) λq=>.inl (decide_eq_true ⟨rfl,q.1⟩))) ht he I2 T st2 f2 (λD hD=>(hh D hD).g) fin
theorem qO(hsc:jc X.env.scope X.N scope x fvs js)(hc:X.calm=true)(hi:PI X (.Name x px) iter wi)
  (ht:∀s₁ H₁ C fp,PF (X.blk x fvs scope s₁ H₁ C fp) ifs tt) (he:∀s₁ H₁ C fp,PE (X.blk x fvs scope s₁ H₁ C fp) elt te)
  (hs:∀v,foldedSetIterable iter X.env v=pure v:=by intro _;rfl):PE X (.ListComp elt [⟨.Name x px,iter,ifs,0⟩] scope pos) (oB wi js tt te):=by
 intro pins s σ H Q I h
 have fr:∀y∈scope.names,y.2=.free->∃c,X.env.cells.lookup y.1=some c:=λy hy hk=>I.ok.has y.1 (hsc.out y hy hk)
 rw [eval_ListComp]
 refine wpAny_comprehension_free (use:=none) rfl hs (gQ fr) hsc.kind hsc.names (thn (hi pins s σ H _ I h) λv s1 h1=>thn h1 λitv s2 h2=>?_)
 obtain⟨it,fp,tn,J,H2,e,I2,T,st2,f2,hh⟩:=h2
 subst e
 refine mv (RR:=λacc C=>compPost (model X.prog X.w) X.A X.xe none (EP X pins σ Q) acc C) hsc hc ht he I2 T st2 f2 hh λD C H' s' I' hn nC cL cS cC cP q=>?_
 obtain⟨m,hn⟩:=hn
 refine⟨m,hn,λh' sb=>⟨.ref D,H',?_,rfl,q⟩⟩
 exact I'.turned (t':=s'.toks) (λb o hb e=>(sb.2 b hb).trans e) nC cL (.inr cS) cC cP
noncomputable def u5(wi:TI)(g:TG)(n:Nat)(js:List Nat)(tt:TT)(te:TE):TE:=λσ H Q=>wi σ H λJ H1=>∀D,H1 D=none->pT J g (m_ n js σ) H1 tt te D Q
theorem u6{tg:Expr}{g:TG}{ys:List Str}(hsc:iu X.env.scope X.N scope x ys fvs js)(hc:X.calm=true)(hg:∀s₁ H₁ C fp,PG (X.blk x (ys++fvs) scope s₁ H₁ C fp) tg g)(hi:PI X tg iter wi)
  (ht:∀s₁ H₁ C fp,PF (X.blk x (ys++fvs) scope s₁ H₁ C fp) ifs tt) (he:∀s₁ H₁ C fp,PE (X.blk x (ys++fvs) scope s₁ H₁ C fp) elt te)
  (hs:∀v,foldedSetIterable iter X.env v=pure v:=by intro _;rfl):PE X (.ListComp elt [⟨tg,iter,ifs,0⟩] scope pos) (u5 wi g ys.length js tt te):=by
 intro pins s σ H Q I h
 have fr:∀y∈scope.names,y.2=.free->∃c,X.env.cells.lookup y.1=some c:=λy hy hk=>I.ok.has y.1 (hsc.out y hy hk)
 rw [eval_ListComp]
 refine wpAny_comprehension_free (use:=none) rfl hs (gQ fr) hsc.kind hsc.names (thn (hi pins s σ H _ I h) λv s1 h1=>thn h1 λitv s2 h2=>?_)
 obtain⟨it,fp,tn,J,H2,e,I2,T,st2,f2,hh⟩:=h2
 subst e
 refine kT (RR:=λacc C=>compPost (model X.prog X.w) X.A X.xe none (EP X pins σ Q) acc C) hsc hc hg ht he I2 T st2 f2 hh λD C H' s' I' hn nC cL cS cC cP q=>?_
 obtain⟨m,hn⟩:=hn
 refine⟨m,hn,λh' sb=>⟨.ref D,H',?_,rfl,q⟩⟩
 exact I'.turned (t':=s'.toks) (λb o hb e=>(sb.2 b hb).trans e) nC cL (.inr cS) cC cP
theorem pU{i:Nat}{y:Str}{py spos:Pos}(hN:X.N.Nodup)(hi':X.N[i]?=some y)(hy:Loc X.env.scope y)(hsc:jc X.env.scope X.N scope x fvs js)(hc:X.calm=true)(hi:PI X (.Name x px) iter wi)
  (ht:∀s₁ H₁ C fp,PF (X.blk x fvs scope s₁ H₁ C fp) ifs tt) (he:∀s₁ H₁ C fp,PE (X.blk x fvs scope s₁ H₁ C fp) elt te)
  (hsw:swapsWith (.ListComp elt [⟨.Name x px,iter,ifs,0⟩] scope pos) (some (.Name y py)) spos.line X.env=pure true:=by rfl)
  (hs:∀v,foldedSetIterable iter X.env v=pure v:=by intro _;rfl) (hf:X.fn y=true\/X.env.scope.names.lookup y=some .local:=by first|exact .inl rfl|exact .inr rfl|assumption) :
  PS X (.Assign [.Name y py] (.ListComp elt [⟨.Name x px,iter,ifs,0⟩] scope pos) spos) (nW (oB wi js tt te) (bT i)):=by
 intro pins s σ H D I h
 have fr:∀y∈scope.names,y.2=.free->∃c,X.env.cells.lookup y.1=some c:=λy hy hk=>I.ok.has y.1 (hsc.out y hy hk)
 rw [exec_Assign_Name_used _ _ _ _ hsw]
 refine wpAny_bind (wpAny_standAt (wpAny_bind ?_))
 show wpAny _ X.A (do let _ <- comprehension (.ListComp elt [⟨.Name x px,iter,ifs,0⟩] scope pos) scope X.env _ (newList []) false (eval iter X.env) (some (assign (.Name y py) X.env))) _ _ s
 refine wpAny_bind (thn (wpAny_comprehension_free (use:=some (assign (.Name y py) X.env)) (Q:=λ_ s'=>SP X pins D .next s') rfl hs (gQ fr) hsc.kind hsc.names (thn (hi pins s σ H _ I h) λv s1 h1=>thn h1 λitv s2 h2=>?_)) λ_ s' q=>?_)
 ·obtain⟨it,fp,tn,J,H2,e,I2,T,st2,f2,hh⟩:=h2
  subst e
  refine mv (RR:=λacc C=>compPost (model X.prog X.w) X.A X.xe (some (assign (.Name y py) X.env)) (λ_ s'=>SP X pins D .next s') acc C) (Q:=λv H'=>bT i v σ H' D.nx) hsc hc ht he I2 T st2 f2 hh λD' C H' s' I' hn nC cL cS cC cP q=>?_
  obtain⟨m,hn⟩:=hn
  show wpAny _ _ (assign (.Name y py) X.env (.ref D')) _ _ s'
  refine wpAny_assign_Name (lZ I' hN hi' hy (v:=.ref D') rfl (λs'' I'' ⟨a,sb,ha⟩=>?_) hf)
  have ne:C≠a:=by
   rcases ha with z|z
   ·rw [z];exact cL
   ·exact λw=>cC y a z w.symm
  refine⟨m,hn.sameBut sb ne,λh' sb'=>?_⟩
  exact⟨_,H',I''.turned (t':=s''.toks) (λb o hb e=>(sb'.2 b hb).trans e) nC cL (.inr cS) cC cP,q⟩
 ·exact wpAny_pure (wpAny_pure q)
end
end L2
namespace L2
open PySem PySem.Spec PyProof.Rows
noncomputable abbrev pV(K:PySem.W.Frag)(H:Hp):List V->List (List Int)->Prop:=Paired λx ts=>∃a,x=V.ref a/\SqT K H a (ts.map V.int)
theorem pV.len{K:PySem.W.Frag}{H:Hp}{xs:List V}{tss:List (List Int)}(h:pV K H xs tss):xs.length=tss.length:=Paired.length h
theorem aA{H:Hp}{p:Addr}(h:H p=none)(o:HO):ac H (upd H p o):=λb u q=>by rw [ak (az q h)];exact q
theorem ac.seqT{K:PySem.W.Frag}{H H':Hp}{a:Addr}{xs:List V}(e:ac H H')(h:SqT K H a xs):SqT K H' a xs:=by
 rcases h with (h|⟨o,h⟩)|h
 ·exact .inl (.inl (e _ _ h))
 ·exact .inl (.inr ⟨o,e _ _ h⟩)
 ·exact .inr h
section
variable{X:Cx}{pins:List (Addr×Obj)}{σ:St}{H:Hp}{s:Shared}
theorem Inv.laidD{h':Heap}{a:Addr}{o:HO}{t':Nat}{d':Drawn}(I:Inv X pins σ H s)(k:∀b u,s.heap.get? b=some u->h'.get? b=some u)(hp:s.heap.objs.size<=a)(new:bw X.prog X.w (upd H a o) h' a o) :
  Inv X pins σ (upd H a o) { s with heap:=h',toks:=t',drawn:=d' } :=
 I.call (g':=s.gens) (d':=d') (t':=t') (ch:=[]) (Un.laid k hp (I.hok.fresh hp)) (I.hok.laid k hp new) I.bare λ_ z=>nomatch z
theorem Inv.tupInts{a:Addr}{ns:List Int}(I:Inv X pins σ H s)(h:SqT X.K H a (ns.map V.int)):∃its:List Value,IsTup s.heap a its.toArray/\IntsAre its ns:=by
 obtain⟨its,r,p,_⟩:=I.tuple h
 exact⟨its,p,dJ r⟩
theorem Inv.tupsAt(I:Inv X pins σ H s):∀{xs:List V}{us:List Value}{tss:List (List Int)},pV X.K H xs tss->aw xs us->Paired (λu ts=>∃a its,u=Value.ref a/\IsTup s.heap a its/\IntsAre its.toList ts) us tss
 | _,_,_,.nil,.nil=>.nil
 | _,_,_,.cons ⟨a,e1,e2⟩ t,.cons r q=>by
  obtain⟨its,p,hi⟩:=I.tupInts e2
  rw [e1]at r
  exact .cons ⟨a,its.toArray,r,p,by simpa using hi⟩ (I.tupsAt t q)
end
noncomputable def kU(P:Program)(w:World)(a:Addr)(ks:List Int):HO:=.ext λh=>St.c_ P w h a ks
theorem oC{P:Program}{w:World}{H:Hp}{h:Heap}{a:Addr}{ks:List Int}(g:St.c_ P w h a ks):bw P w H h a (kU P w a ks):=by
 obtain⟨o,es,ep,t,ho,r⟩:=id g
 exact⟨g,⟨o,ho⟩,λh1 h2 g1 k=>g1.at k⟩
theorem Inv.set{X:Cx}{pins:List (Addr×Obj)}{σ:St}{H:Hp}{s:Shared}{a:Addr}{ks:List Int}(I:Inv X pins σ H s)(h:H a=some (kU X.prog X.w a ks)):St.c_ X.prog X.w s.heap a ks :=
 (show bw X.prog X.w H s.heap a (kU X.prog X.w a ks) from I.hok a _ h).1
section
variable{X:Cx}
theorem u8 (hc:X.calm=true):b7 X (.type "set") (λxs H Q=>∃(p:Addr) (ns:List Int),xs=[.ref p]/\(SqL X.K H p (ns.map V.int)\/SqT X.K H p (ns.map V.int))/\ns.length<=4000/\∀l:Addr,H l=none->Q (.ref l) (upd H l (kU X.prog X.w l (St.dd ns.reverse)))):=by
 intro pins s σ H xs us Q I r h
 obtain⟨p,ns,rfl,hq,hz,q⟩:=h
 obtain⟨u,rfl,rx⟩:=hZ r
 cases rx
 have hh:=I.ok.hd hc
 rcases hq with hq|hq
 ·obtain⟨its,r',pl,_⟩:=I.list hq
  have hi:=dJ r'
  have hl:=hi.length
  refine St.set_list hh pl.isList (ns:=ns) (by simpa using hi) (by simp;unfold scanBound;omega) λh' tk g kp=>?_
  exact⟨.ref s.heap.objs.size,_,I.laidD (d':=s.drawn) kp (Nat.le_refl _) (oC g),rfl,q _ (I.hok.fresh (Nat.le_refl _))⟩
 ·obtain⟨its,r',pl,_⟩:=I.tuple hq
  have hi:=dJ r'
  have hl:=hi.length
  refine St.sy hh (show s.heap.IsTuple p its.toArray from pl) (ns:=ns) (by simpa using hi) (by simp;unfold scanBound;omega) λh' tk g kp=>?_
  exact⟨.ref s.heap.objs.size,_,I.laidD (d':=s.drawn) kp (Nat.le_refl _) (oC g),rfl,q _ (I.hok.fresh (Nat.le_refl _))⟩
end
namespace Srt
noncomputable def sortI(l:List Int):List Int:=fM cM l
noncomputable def sortT(l:List (List Int)):List (List Int):=fM cK l
noncomputable def leT(a b:List Int):Prop:=HT.lexLt b a=false
theorem sortI_perm(l:List Int):(sortI l).Perm l:=dL cM l
theorem sortT_perm(l:List (List Int)):(sortT l).Perm l:=dL cK l
theorem sortI_len(l:List Int):(sortI l).length=l.length:=(sortI_perm l).length_eq
theorem sortT_len(l:List (List Int)):(sortT l).length=l.length:=(sortT_perm l).length_eq
theorem sortT_rises(l:List (List Int)):(sortT l).Pairwise leT:=cY cK l
theorem sortT_id{l:List (List Int)}(h:l.Pairwise leT):sortT l=l:=uN cK h
theorem sortT_of_perm{a b:List (List Int)}(p:a.Perm b):sortT a=sortT b:=gF cK p
theorem sortI_of_perm{a b:List Int}(p:a.Perm b):sortI a=sortI b:=gF cM p
theorem xM{a b:Int}:cM.kle a b ↔ a<=b:=by
 show decide (b<a)=false ↔ a<=b
 rw [decide_eq_false_iff_not]
 omega
theorem sortI_rises(l:List Int):(sortI l).Pairwise (· <= ·):=(cY cM l).imp λh=>xM.mp h
section
variable{P:Program}{w:World}{A:Around}{E:Value->Shared->Prop}{s:Shared}
theorem oE{ks ns:List Int}(hp:ns.Perm ks)(hs:ns.Pairwise (· <= ·)):ns=sortI ks:=by
 refine im cM hp (hs.imp λ{a b} h=>?_)
 show decide (b<a)=false
 exact decide_eq_false (by omega)
theorem kW{x:Value}{ks:List Int}{Q:Value->Shared->Prop}(h64:ks.length<64)
  (hcol:∀(Q':List Value->Shared->Prop),(∀(h':Heap) (tk:Nat) (d':Drawn) (acc:List Value) (order:List Int),(∀b o,s.heap.get? b=some o->h'.get? b=some o)->order.Perm ks->IntsAre acc order->Q' acc { s with heap:=h',toks:=tk,drawn:=d' }) ->
   wpAny (model P w) A.in1 (collect x) Q' E s)
  (h:∀(h1 h':Heap) (tk:Nat) (d':Drawn) (out:List Value) (c:Nat),(∀b o,s.heap.get? b=some o->h1.get? b=some o)->(∀b o,h1.get? b=some o->h'.get? b=some o)->h'.get? h1.objs.size=some { cls:=.type "list",data:=.seq out.toArray c } ->
   IntsAre out (sortI ks)->Q (.ref h1.objs.size) { s with heap:=h',toks:=tk,drawn:=d' }) :
  wpAny (model P w) A (call (.builtin "sorted") [x]) Q E s:=by
 refine Calls.call_function_entry kind_sorted plain_sorted entry_sorted (args_sorted1 _) ?_
 unfold Builtin.«sorted»
 refine wpAny_bind (m:=checkCount "sorted" 1 1 _) (wpAny_pure ?_)
 refine wpAny_bind (hcol _ λh1 tk d1 acc order kp hp hi=>?_)
 have hla:acc.length=order.length:=hi.length
 have hlo:order.length=ks.length:=hp.length_eq
 refine wpAny_bind (wpAny_newList ?_ (by rw [sizeLine_eq];omega))
 have hoL:(h1.push (seqObj "list" acc.toArray 0)).get? h1.objs.size=some (seqObj "list" acc.toArray 0):=Heap.get?_push_size _ rfl
 refine wpAny_bind (wpAny_holding (wpAny_call_entry slot_list_sort ⟨_,hoL,rfl⟩ entry_list_sort (list_sort_tree hoL hi (by omega) λout ns' hi' hp' hs'=>⟨_,rfl,?_⟩) (args_list_sort _)))
 obtain⟨c,hc⟩:=sortedHeap_at (out:=out) (vs:=acc) hoL
 refine wpAny_pure ⟨_,rfl,h h1 _ tk d1 out.toList c kp (λb o e=>?_) ?_ ?_⟩
 ·have hb:b<h1.objs.size:=Heap.lt_size e
  rw [sortedHeap_old (Nat.ne_of_lt hb) (by rw [Heap.size_push];exact Nat.lt_succ_of_lt hb)]
  exact Heap.get?_push_of_some _ e
 ·rw [Array.toArray_toList];exact hc
 ·rw [<- oE (hp'.trans hp) hs'];exact hi'
theorem kX{x:Value}{vs:List Value}{tss:List (List Int)}{Q:Value->Shared->Prop}(h64:vs.length<64)(hu:A.units+2<cLine)
  (hv:Paired (λu ts=>∃a its,u=Value.ref a/\IsTup s.heap a its/\IntsAre its.toList ts) vs tss)
  (hcol:∀(Q':List Value->Shared->Prop),(∀(h':Heap),(∀b o,s.heap.get? b=some o->h'.get? b=some o)->Q' vs { s with heap:=h' })->wpAny (model P w) A.in1 (collect x) Q' E s)
  (h:∀(h1 h':Heap) (p:Array Nat) (c:Nat),(∀b o,s.heap.get? b=some o->h1.get? b=some o)->(∀b o,h1.get? b=some o->h'.get? b=some o)->h'.get? h1.objs.size=some { cls:=.type "list",data:=.seq (p.toList.map λi=>vs.getD i Value.none).toArray c } ->
   PB vs.length p->p.toList.map (λi=>tss.getD i [])=sortT tss->Q (.ref h1.objs.size) { s with heap:=h' }) :
  wpAny (model P w) A (call (.builtin "sorted") [x]) Q E s:=by
 have hlen:vs.length=tss.length:=Paired.length hv
 refine Calls.call_function_entry kind_sorted plain_sorted entry_sorted (args_sorted1 _) ?_
 unfold Builtin.«sorted»
 refine wpAny_bind (m:=checkCount "sorted" 1 1 _) (wpAny_pure ?_)
 refine wpAny_bind (hcol _ λh1 kp=>?_)
 refine wpAny_bind (wpAny_newList ?_ (by rw [sizeLine_eq];omega))
 have hoL:(h1.push (seqObj "list" vs.toArray 0)).get? h1.objs.size=some (seqObj "list" vs.toArray 0):=Heap.get?_push_size _ rfl
 have at_:∀(s':Shared),(∀b o,b≠h1.objs.size->(h1.push (seqObj "list" vs.toArray 0)).get? b=some o->s'.heap.get? b=some o)->∀i,i<vs.length->∃a its,vs.getD i Value.none=.ref a/\IsTup s'.heap a its/\IntsAre its.toList (tss.getD i []):=λs' k i hi=>by
  have gen:∀{us:List Value}{uss:List (List Int)},Paired (λu ts=>∃a its,u=Value.ref a/\IsTup s.heap a its/\IntsAre its.toList ts) us uss->∀i,i<us.length->∃a its,us.getD i Value.none=.ref a/\IsTup s.heap a its/\IntsAre its.toList (uss.getD i []):=by
   intro us uss hp
   induction hp with
   |nil=>intro i hi;simp at hi
   |cons q _ ih =>
    intro i hi
    cases i with
    |zero=>obtain⟨a,its,e,r⟩:=q;exact⟨a,its,by simpa using e,by simpa using r⟩
    |succ i=>obtain⟨a,its,e,r⟩:=ih i (by simpa using hi);exact⟨a,its,by simpa using e,by simpa using r⟩
  obtain⟨a,its,e,⟨o,ho,r⟩,hin⟩:=gen hv i hi
  have ho1:=kp a o ho
  exact⟨a,its,e,⟨o,k a o (Nat.ne_of_lt (Heap.lt_size ho1)) (Heap.get?_push_of_some _ ho1),r⟩,hin⟩
 refine wpAny_bind (wpAny_holding (wpAny_call_entry slot_list_sort ⟨_,hoL,rfl⟩ entry_list_sort (m7 (O:=cK) (key:=λi=>tss.getD i []) hoL h64 (λh2 s' Q' k q=>su h2 (λv hm=>?_) q) (λκ hκ s' i j C k hi hj q=>?_) λp hp hr=>⟨_,rfl,?_⟩) (args_list_sort _)))
 ·obtain⟨i,hi,e⟩:=List.getElem_of_mem hm
  obtain⟨a,its,e',r1,r2⟩:=at_ s' k i hi
  exact⟨a,its,_,by rw [<- e',<- e];simp [hi],r1,r2⟩
 ·obtain⟨a,its,e,r1,r2⟩:=at_ s' k i hi
  obtain⟨a',its',e',r1',r2'⟩:=at_ s' k j hj
  rw [e,e']
  exact xI hκ r1 r1' r2 r2' (show A.units+1+1<cLine from hu) q
 ·obtain⟨c,hc⟩:=sortedHeap_at (out:=(p.toList.map λi=>vs.getD i Value.none).toArray) (vs:=vs) hoL
  have hp':PB tss.length p:=by rw [<- hlen];exact hp
  have hr':ef (O:=cK) (λi=>tss.getD i []) p tss.length:=by rw [<- hlen];exact hr
  refine wpAny_pure ⟨_,rfl,h h1 _ p c kp (λb o e=>?_) hc hp (Ab (O:=cK) (d:=([]:List Int)) (xs:=tss) hp' hr')⟩
  have hb:b<h1.objs.size:=Heap.lt_size e
  rw [sortedHeap_old (Nat.ne_of_lt hb) (by rw [Heap.size_push];exact Nat.lt_succ_of_lt hb)]
  exact Heap.get?_push_of_some _ e
end
end Srt
section
variable{X:Cx}
theorem Inv.keptD{pins:List (Addr×Obj)}{σ:St}{H:Hp}{s:Shared}{h':Heap}{t':Nat}{d':Drawn}(I:Inv X pins σ H s)(k:∀b u,s.heap.get? b=some u->h'.get? b=some u):Inv X pins σ H { s with heap:=h',toks:=t',drawn:=d' } :=
 I.call (g':=s.gens) (d':=d') (t':=t') (ch:=[]) (Un.kept k) (I.hok.kept k) I.bare λ_ z=>nomatch z
theorem sJ:∀{vs:List Value}{ns:List Int},IntsAre vs ns->aw (ns.map V.int) vs:=i4
noncomputable def Ad(X:Cx):List V->Hp->VK->Prop:=λxs H Q=>∃(p:Addr) (ks:List Int),xs=[.ref p]/\(SqL X.K H p (ks.map V.int)\/SqT X.K H p (ks.map V.int)\/H p=some (kU X.prog X.w p ks))/\ks.length<64/\∀l:Addr,H l=none->Q (.ref l) (upd H l (.lst ((Srt.sortI ks).map V.int)))
theorem ix (hc:X.calm=true):b7 X (.builtin "sorted") (Ad X):=by
 intro pins s σ H xs us Q I r h
 obtain⟨p,ks,rfl,hq,h64,q⟩:=h
 obtain⟨u,rfl,rx⟩:=hZ r
 cases rx
 have hh:=I.ok.hd hc
 refine Srt.kW (ks:=ks) h64 (λQ' hQ'=>?_) λh1 h' tk d' out c k1 k2 e hi=>?_
 ·rcases hq with hq|hq|hq
  ·obtain⟨its,r',pl,hz⟩:=I.list hq
   obtain⟨o,ho,hcl,n,hd⟩:=pl.isList
   refine wpAny_collect_seq p (.inl rfl) ho hcl hd (λh' kp=>?_) (by have:=r'.length;simp only [List.size_toArray]<;>omega)
   exact hQ' h' s.toks s.drawn _ ks kp (.refl _) (by simpa using dJ r')
  ·obtain⟨its,r',pl,hz⟩:=I.tuple hq
   obtain⟨o,ho,hcl,n,hd⟩:=pl
   refine wpAny_collect_seq p (.inr rfl) ho hcl hd (λh' kp=>?_) (by have:=r'.length;simp only [List.size_toArray]<;>omega)
   exact hQ' h' s.toks s.drawn _ ks kp (.refl _) (by simpa using dJ r')
  ·exact St.ou (by first|exact hh|simpa using hh) (I.set hq) λh' tk d' acc order kp hp hi=>hQ' h' tk d' acc order kp hp hi
 ·have I1:Inv X pins σ H { s with heap:=h1,toks:=tk,drawn:=d' }:=I.keptD k1
  have I2:Inv X pins σ (upd H h1.objs.size (.lst ((Srt.sortI ks).map V.int))) { s with heap:=h',toks:=tk,drawn:=d' } :=
   I1.laid (t':=tk) k2 (Nat.le_refl _) (show bw X.prog X.w _ h' _ (.lst _) from⟨by rw [List.length_map,Srt.sortI_len,sizeLine_eq];omega,out,c,sJ hi,e⟩)
  exact⟨.ref h1.objs.size,_,I2,rfl,q _ (I1.hok.fresh (Nat.le_refl _))⟩
noncomputable def Ae(X:Cx):List V->Hp->VK->Prop:=λxs H Q=>∃(p:Addr) (vs:List V) (tss:List (List Int)),xs=[.ref p]/\(SqL X.K H p vs\/SqT X.K H p vs)/\pV X.K H vs tss/\tss.length<64 /\
 ∀(l:Addr) (pm:List Nat),H l=none->(∀i∈pm,i<vs.length)->pm.map (λi=>tss.getD i [])=Srt.sortT tss->Q (.ref l) (upd H l (.lst (pm.map λi=>vs.getD i .non)))
theorem mw{vs:List V}{us:List Value}(h:aw vs us):∀(l:List Nat),(∀i∈l,i<vs.length)->aw (l.map λi=>vs.getD i .non) (l.map λi=>us.getD i Value.none)
 | [],_=>.nil
 |i::l,hl=>by
  have hi:=hl i (.head _)
  obtain⟨u,e1,e2⟩:=h.get (i:=i) (x:=vs[i]) (List.getElem?_eq_getElem hi)
  refine .cons ?_ (mw h l λj hj=>hl j (.tail _ hj))
  have q1:vs.getD i .non=vs[i]:=by simp [hi]
  have q2:us.getD i Value.none=u:=by rw [List.getD_eq_getElem?_getD,e1];rfl
  show av (vs.getD i V.non) (us.getD i Value.none)
  rw [q1,q2];exact e2
theorem nc (hu:X.A.units+64<cLine):b7 X (.builtin "sorted") (Ae X):=by
 intro pins s σ H xs us Q I r h
 obtain⟨p,vs,tss,rfl,hq,ht,h64,q⟩:=h
 obtain⟨u,rfl,rx⟩:=hZ r
 cases rx
 have key:∀(its:List Value),aw vs its->vs.length<=sizeLine->(∀(Q':List Value->Shared->Prop),(∀(h':Heap),(∀b o,s.heap.get? b=some o->h'.get? b=some o)->Q' its { s with heap:=h' })->wpAny (model X.prog X.w) X.A.in1 (collect (.ref p)) Q' X.xe s) ->
   wpAny (model X.prog X.w) X.A (call (.builtin "sorted") [.ref p]) (EP X pins σ Q) X.xe s:=λits r' hz hcol=>by
  have hl:=r'.length
  have hl2:=ht.len
  refine Srt.kX (vs:=its) (tss:=tss) (by omega) (by omega) (I.tupsAt ht r') hcol λh1 h' pm c k1 k2 e hp ho=>?_
  have hpl:∀i∈pm.toList,i<vs.length:=λi hi=>by
   have:=(Array.perm_iff_toList_perm.mp hp).mem_iff.mp hi
   have:=List.mem_range.mp (by simpa using this)
   omega
  have I1:Inv X pins σ H { s with heap:=h1 }:=I.kept (t':=s.toks) k1
  have I2:Inv X pins σ (upd H h1.objs.size (.lst (pm.toList.map λi=>vs.getD i .non))) { s with heap:=h' } :=
   I1.laid (t':=s.toks) k2 (Nat.le_refl _) (show bw X.prog X.w _ h' _ (.lst _) from⟨by have:=hp.size;rw [List.length_map,Array.length_toList,sizeLine_eq];omega,_,c,mw r' _ hpl,e⟩)
  exact⟨.ref h1.objs.size,_,I2,rfl,q _ pm.toList (I1.hok.fresh (Nat.le_refl _)) hpl ho⟩
 rcases hq with hq|hq
 ·obtain⟨its,r',pl,hz⟩:=I.list hq
  obtain⟨o,ho,hcl,n,hd⟩:=pl.isList
  refine key its r' hz λQ' hQ'=>wpAny_collect_seq p (.inl rfl) ho hcl hd (λh' kp=>?_) (by have:=r'.length;simp only [List.size_toArray]<;>omega)
  have:=hQ' h' kp
  simpa using this
 ·obtain⟨its,r',pl,hz⟩:=I.tuple hq
  obtain⟨o,ho,hcl,n,hd⟩:=pl
  refine key its r' hz λQ' hQ'=>wpAny_collect_seq p (.inr rfl) ho hcl hd (λh' kp=>?_) (by have:=r'.length;simp only [List.size_toArray]<;>omega)
  have:=hQ' h' kp
  simpa using this
end
end L2
namespace L2.St
open PySem PyProof.Rows
structure lU(P:Program)(w:World)(h:Heap)(a:Addr)(ks:List Int)(o:Obj)(es:Array (Int×Value))(ep:Nat)(t:SetTable):Prop where
 ho:h.get? a=some o
 ex:o.ExactSet
 hd:o.data=.set es ep t
 el:ElemsOf (intKind P w) es.toList
 pm:(es.toList.map λe=>numOf e.2).Perm ks
 nd:ks.Nodup
 bd:es.size<scanBound
 fi:t.fits es.size=true
theorem c_.w{P:Program}{w:World}{h:Heap}{a:Addr}{ks:List Int}(g:c_ P w h a ks):∃o es ep t,lU P w h a ks o es ep t/\Gd (!byT w) t:=by
 obtain⟨o,es,ep,t,ho,hex,hd,hel,hp,hn,hb,hf,hg⟩:=g
 exact⟨o,es,ep,t,⟨ho,hex,hd,hel,hp,hn,hb,hf⟩,hg⟩
theorem lU.len{P:Program}{w:World}{h:Heap}{a:Addr}{ks:List Int}{o:Obj}{es:Array (Int×Value)}{ep:Nat}{t:SetTable}(g:lU P w h a ks o es ep t):es.size=ks.length:=by
 have:=g.pm.length_eq;simpa using this
theorem lU.at{P:Program}{w:World}{h h':Heap}{a:Addr}{ks:List Int}{o:Obj}{es:Array (Int×Value)}{ep:Nat}{t:SetTable}(g:lU P w h a ks o es ep t)(k:∀o,h.get? a=some o->h'.get? a=some o):lU P w h' a ks o es ep t :=
 ⟨k o g.ho,g.ex,g.hd,g.el,g.pm,g.nd,g.bd,g.fi⟩
section
variable{P:Program}{w:World}{A:Around}{E:Value->Shared->Prop}{s:Shared}
variable{a:Addr}{ks:List Int}{o:Obj}{es:Array (Int×Value)}{ep:Nat}{t:SetTable}
theorem lU.mem(g:lU P w s.heap a ks o es ep t){k:Int}:k∈ks ↔ ∃e∈es.toList,(intKind P w).is k e.2=true:=by
 rw [<- g.pm.mem_iff,List.mem_map]
 constructor
 ·rintro ⟨e,he,q⟩;exact⟨e,he,(m9 g.el he k).mpr q⟩
 ·rintro ⟨e,he,q⟩;exact⟨e,he,(m9 g.el he k).mp q⟩
end
end L2.St
namespace L2.St
open PySem PyProof.Rows
section
variable{P:Program}{w:World}{A:Around}{E:Value->Shared->Prop}{s:Shared}
theorem lU.type {a:Addr}{ks:List Int}{o:Obj}{es:Array (Int×Value)}{ep:Nat}{t:SetTable} (g:lU P w s.heap a ks o es ep t):s.TypeIs (.ref a) "set":=⟨o,g.ho,g.ex.1⟩
end
end L2.St
namespace L2.St
open PySem PyProof.Rows
noncomputable def lp(m:Nat):Nat->Nat×Nat->Nat×Nat
 |0,p=>p
 |t+1,p=>lp m t (SetTable.leap m p.1 p.2)
noncomputable def vals(m:Nat)(ow:Array (Option Nat)):List Nat:=(List.range (m+1)).filterMap λj=>ow.getD j none
end L2.St
namespace L2.St
open PySem PyProof.Rows
section
variable{P:Program}{w:World}{A:Around}{E:Value->Shared->Prop}{s:Shared}
variable{a:Addr}{ks:List Int}{o:Obj}{es:Array (Int×Value)}{ep:Nat}{t:SetTable}
end
end L2.St
namespace L2.St
open PySem PyProof.Rows
section
variable{P:Program}{w:World}{A:Around}{E:Value->Shared->Prop}{s:Shared}
variable{a:Addr}{ks:List Int}{o:Obj}{es:Array (Int×Value)}{ep:Nat}{t:SetTable}
end
end L2.St
namespace L2.St
open PySem PyProof.Rows
section
variable{P:Program}{w:World}{A:Around}{E:Value->Shared->Prop}{s:Shared}
end
end L2.St
namespace L2
open PySem PySem.Spec PyProof.Rows
section
variable{X:Cx}
end
end L2
namespace L2.En
open PySem PyProof.Rows
open AutoSeq1 (wpAny_loadPart')
section
variable{P:Program}{w:World}{A:Around}{E:Value->Shared->Prop}{s:Shared}
theorem pW{it t:Addr}{i:Nat}{Q:Value->Shared->Prop}(hit:s.heap.IsTupleIter it t i)
  (h:wpAny (model P w) A.in1 (Builtin.«tuple_iterator.__next__» ⟨[.ref it],[]⟩) (λfin s'=>∃v,fin=.done (.ret v)/\Q v s') E s):wpAny (model P w) A (Builtin.SmallTypes.nextOf (.ref it)) Q E s:=by
 unfold Builtin.SmallTypes.nextOf
 refine wpAny_bind (wpAny_callSpecial?_slot (name:=Str.ofString "__next__") hit.typeIs F.slot_tuple_iterator_next ?_)
 refine wpAny_call_entry F.slot_tuple_iterator_next hit.typeIs F.entry_tuple_iterator_next ?_ (F.args_tuple_iterator_next_1 _)
 refine wpAny_mono h (λfin s' hv=>?_) λ_ _ z=>z
 obtain⟨v,rfl,q⟩:=hv
 exact⟨v,rfl,wpAny_pure q⟩
theorem CB {α:Type}{Q:α->Shared->Prop} (hh:A.handled=none) (h:∀h' e,(∀b o,s.heap.get? b=some o->h'.get? b=some o)->(∃o,h'.get? e=some o/\o.cls=.type "StopIteration")->E (.ref e) { s with heap:=h' }) :
  wpAny (model P w) A (Builtin.SmallTypes.stopIteration:Sem α) Q E s:=by
 unfold Builtin.SmallTypes.stopIteration newExc
 obtain⟨hp,g,d,tk,os⟩:=s
 wp_walk
 exact wpAny_raiseNew_none hh (h _ _ (λb o q=>Heap.get?_push_of_some _ (Heap.get?_push_of_some _ q)) ⟨_,Heap.get?_push_size _ rfl,rfl⟩)
theorem my{it t:Addr}{i:Nat}{items:Array Value}{Q:Value->Shared->Prop}(hh:A.handled=none)(hit:s.heap.IsTupleIter it t i)(ht:s.heap.IsTuple t items)
  (hQ:∀x h',items[i]?=some x->h'.IsTupleIter it t (i+1)->Heap.SameBut it s.heap h'->Q x { s with heap:=h' })
  (hE:∀h' e,items[i]?=none->Heap.ExtBut it s.heap h'->(∃o,h'.get? e=some o/\o.cls=.type "StopIteration")->E (.ref e) { s with heap:=h' }):wpAny (model P w) A (Builtin.SmallTypes.nextOf (.ref it)) Q E s:=by
 refine pW hit ?_
 obtain⟨⟨c1,d1,t1,l1⟩,h1,e1,e2⟩:=hit
 obtain⟨⟨c2,d2,t2,l2⟩,h2,e3,n2,e4⟩:=ht
 cases e1
 cases e2
 cases e3
 cases e4
 obtain⟨hp,g,d,tk,os⟩:=s
 unfold Builtin.«tuple_iterator.__next__»
 wp_walk using wpAny_loadPart' h1,wpAny_loadPart' h2
 have self:∀(k:Nat) (v:Value),(hp.update it (Obj.mapFields (·.setIfInBounds k v))).get? it=some { cls:=.type "tuple_iterator",dict:=d1,data:=.fields ((#[.ref t,.int (i:Int) 0]:Array Value).setIfInBounds k v),slots:=l1 }:=λk v=>Heap.get?_update_self _ h1 rfl
 rw [Int.toNat_natCast]
 cases hx:items[i]? with
 |some x =>
  refine wpAny_bind (wpAny_setField h1 rfl (by simp) (wpAny_pure ⟨x,rfl,hQ x _ hx ⟨_,self 1 _,rfl,?_⟩ (Heap.SameBut.update ..)⟩))
  simp [rawInt]
 |none =>
  refine wpAny_bind (wpAny_rule (wpAny_bind (wpAny_setField h1 rfl (by simp) (CB (by simpa using hh) λh' e k st=>?_))))
  exact hE h' e hx (λb o hb q=>k b o ((Heap.SameBut.update hp it _).extBut b o hb q)) st
theorem draws(hh:A.handled=none)(it t:Addr)(hne:t≠it)(items:Array Value):Draws P w A it [it,t] items.size (λi v=>items[i]?=some v) (λi h=>h.IsTupleIter it t i/\h.IsTuple t items) where
 live:=λ_ _ ⟨⟨o,ho,_⟩,_⟩=>⟨o,ho⟩
 frame:=λi h h' ⟨⟨o,ho,r⟩,⟨o2,ho2,r2⟩⟩ k=>⟨⟨o,k it (.head _) o ho,r⟩,⟨o2,k t (.tail _ (.head _)) o2 ho2,r2⟩⟩
 item:=λi s Q E hi ⟨h1,h2⟩ hQ=>my hh h1 h2 (λx h' hx h3 sb=>hQ x h' s.toks hx ⟨h3,h2.extBut sb.extBut hne⟩ sb) λh' e hx _ _=>absurd hx (by simp;omega)
 done:=λs Q E ⟨h1,h2⟩ hE=>my hh h1 h2 (λx h' hx _ _=>absurd hx (by simp)) λh' e _ eb st=>hE h' e eb st
theorem u9{b:Bool}{Q:Bool->Shared->Prop}(h:∀c,Q c s):wpAny (model P w) A (pure b) Q E s:=wpAny_pure (h b)
theorem xN(l:Addr)(items:Array Value)(n:Nat)(dct:Option Addr)(sl:Array (Option Value)) :
  Meets (Builtin.«enumerate.__new__» ⟨[.type "enumerate",.ref l],[]⟩) (λ_ R s=>s.heap.get? l=some { cls:=.type "tuple",dict:=dct,data:=.seq items n,slots:=sl } /\
   R (.ok (.ret (.ref (s.heap.push { cls:=.type "tuple_iterator",data:=.fields #[.ref l,.int 0 0] }).objs.size)))
    { s with heap:=(s.heap.push { cls:=.type "tuple_iterator",data:=.fields #[.ref l,.int 0 0] }).push { cls:=.type "enumerate",data:=.fields #[.none,.bool false,.ref s.heap.objs.size,rawInt 0,.none,.none] } }):=by
 refine .of_wp λP w A R s h=>?_
 obtain⟨hp,g,d,tk,os⟩:=s
 have tl:Heap.IsTuple (Shared.heap ⟨hp,g,d,tk,os⟩) l items:=⟨_,h.1,rfl,n,rfl⟩
 have en:=sub_enumerate
 wp_walk using wpAny_loadPart' h.1
 apply wpAny_stack_any
 intro st
 refine u9 λc=>?_
 cases c
 ·wp_walk using wpAny_pyIter_tuple tl
  exact⟨_,rfl,h.2⟩
 ·wp_walk using wpAny_pyIter_tuple tl
  exact⟨_,rfl,h.2⟩
theorem call_tup{l:Addr}{items:Array Value}{Q:Value->Shared->Prop}(ht:s.heap.IsTuple l items)
  (h:∀h',IsEnum h' (s.heap.objs.size+1) s.heap.objs.size 0 .none->h'.IsTupleIter s.heap.objs.size l 0->h'.objs.size=s.heap.objs.size+2 ->
   (∀b o,s.heap.get? b=some o->h'.get? b=some o)->Q (.ref (s.heap.objs.size+1)) { s with heap:=h' }):wpAny (model P w) A (call (.type "enumerate") [.ref l]) Q E s:=by
 obtain⟨⟨c,dct,dt,sl⟩,hl,hc,n,hd⟩:=ht
 cases hc
 cases hd
 have made:=xN l items n dct sl
 refine callType_new F.called_enumerate (by decide) (F.typeCall_enumerate_1 _) (F.newCall_enumerate_1 _) (λv=>F.args_object_init_2 v _) F.entry_enumerate_new made ⟨hl,?_⟩
 generalize hi:({ cls:=.type "tuple_iterator",data:=.fields #[.ref l,.int 0 0] }:Obj)=io
 generalize ho:({ cls:=.type "enumerate",data:=.fields #[.none,.bool false,.ref s.heap.objs.size,rawInt 0,.none,.none] }:Obj)=eo
 have z:(s.heap.push io).objs.size=s.heap.objs.size+1:=Heap.size_push ..
 have g1:((s.heap.push io).push eo).get? (s.heap.objs.size+1)=some eo:=by
  rw [<- z]
  exact Heap.get?_push_size _ (by rw [<- ho];rfl)
 have g2:((s.heap.push io).push eo).get? s.heap.objs.size=some io:=Heap.get?_push_of_some _ (Heap.get?_push_size _ (by rw [<- hi];rfl))
 show Shared.TypeIs _ (.ref (s.heap.push io).objs.size) _/\Q (.ref (s.heap.push io).objs.size) _
 rw [z]
 refine⟨⟨_,g1,by rw [<- ho]⟩,h _ (by rw [<- ho]at g1;rw [<- ho];exact g1) ⟨_,g2,by rw [<- hi],by rw [<- hi];rfl⟩ (by rw [Heap.size_push,z]) λb o q=>Heap.get?_push_of_some _ (Heap.get?_push_of_some _ q)⟩
end
end L2.En
namespace L2.Dv
open PySem PyProof.Rows
open AutoSeq1 (wpAny_loadPart')
section
variable{P:Program}{w:World}{A:Around}{E:Value->Shared->Prop}{s:Shared}
noncomputable def ng(h:Heap)(d:Addr)(es:Array DictEntry)(ep:Nat):Prop:=∃o,h.get? d=some o/\o.ExactDict/\o.data=.dict es ep
theorem ng.at{h h':Heap}{d:Addr}{es:Array DictEntry}{ep:Nat}(x:ng h d es ep)(k:∀o,h.get? d=some o->h'.get? d=some o):ng h' d es ep:=by
 obtain⟨o,ho,r⟩:=x
 exact⟨o,k o ho,r⟩
theorem ng.type {d:Addr}{es:Array DictEntry}{ep:Nat} (x:ng s.heap d es ep):s.TypeIs (.ref d) "dict":=by
 obtain⟨o,ho,r,_⟩:=x
 exact⟨o,ho,r.1⟩
theorem xO{v d:Addr}{es:Array DictEntry}{ep:Nat}{Q:Value->Shared->Prop}(hv:s.heap.IsValuesView v d)(x:ng s.heap d es ep)
  (h:Q (.ref s.heap.objs.size) { s with heap:=s.heap.push { cls:=.type "dict_valueiterator",data:=.fields #[.ref d,.int 0 0,.int es.size 0,.int ep 0] } }):wpAny (model P w) A (pyIter (.ref v)) Q E s:=by
 refine wpAny_pyIter_slot hv.typeIs F.slot_dict_values_iter (wpAny_call_entry F.slot_dict_values_iter hv.typeIs F.entry_dict_values_iter ?_ (F.args_dict_values_iter_1 _))
 obtain⟨⟨c1,d1,t1,l1⟩,h1,hx,e2⟩:=x
 have e1:=hx.1
 cases e1
 cases e2
 obtain⟨⟨c3,d3,t3,l3⟩,h3,e3,e4⟩:=hv
 cases e3
 cases e4
 obtain⟨hp,g,dr,tk,os⟩:=s
 unfold Builtin.«dict_values.__iter__»
 wp_walk using wpAny_loadPart' h1,wpAny_loadPart' h3
 exact⟨_,rfl,_,_,⟨_,Heap.get?_push_size _ rfl,rfl⟩,F.slot_dict_valueiterator_next.lookup,h⟩
theorem qP{it d:Addr}{i:Nat}{es:Array DictEntry}{ep:Nat}{Q:Option Value->Shared->Prop}(hh:A.handled=none)(hv:s.heap.IsValIter it d i es.size ep)(x:ng s.heap d es ep)
  (h1:∀e h',es[i]?=some e->h'.IsValIter it d (i+1) es.size ep->Heap.SameBut it s.heap h'->Q (some e.val) { s with heap:=h' })
  (h2:∀h',es[i]?=none->Heap.ExtBut it s.heap h'->Q none { s with heap:=h' }):wpAny (model P w) A (pyNext (.ref it)) Q E s:=by
 have ty:=hv.typeIs
 obtain⟨⟨c1,d1,t1,l1⟩,g1,hx,e2⟩:=x
 have e1:=hx.1
 cases e1
 cases e2
 obtain⟨⟨c3,d3,t3,l3⟩,g3,e3,e4⟩:=hv
 cases e3
 cases e4
 obtain⟨hp,g,dr,tk,os⟩:=s
 unfold pyNext
 refine wpAny_bind (wpAny_attempt (wpAny_callSpecial?_slot (name:=Str.ofString "__next__") ty F.slot_dict_valueiterator_next (wpAny_call_entry F.slot_dict_valueiterator_next ty F.entry_dict_valueiterator_next ?_ (F.args_dict_valueiterator_next_1 _))))
 unfold Builtin.«dict_valueiterator.__next__»
 wp_walk using wpAny_loadPart' g1,wpAny_loadPart' g3
 rw [if_neg (by omega),Int.toNat_natCast]
 have self:∀(k:Nat) (v:Value),(hp.update it (Obj.mapFields (·.setIfInBounds k v))).get? it=some { cls:=.type "dict_valueiterator",dict:=d3,data:=.fields ((#[.ref d,.int (i:Int) 0,.int (es.size:Int) 0,.int (ep:Int) 0]:Array Value).setIfInBounds k v),slots:=l3 }:=λk v=>Heap.get?_update_self _ g3 rfl
 cases hx:es[i]? with
 |some e =>
  have g4:=self 1 (rawInt ((i:Int)+1))
  wp_walk using wpAny_loadPart' g3,wpAny_loadPart' g4
  exact⟨_,rfl,wpAny_pure (h1 e _ hx ⟨_,g4,rfl,rfl⟩ (Heap.SameBut.update ..))⟩
 |none =>
  refine wpAny_bind (wpAny_mono (Q:=λ(n:Nat) (s':Shared)=>n=0/\s'=⟨hp,g,dr,tk,os⟩) (E:=λ_ _=>False) ?_ (λn s' q=>?_) λ_ _ z=>z.elim)
  ·wp_walk using wpAny_loadPart' g3
   exact⟨by decide +kernel,rfl⟩
  obtain⟨rfl,rfl⟩:=q
  refine wpAny_bind (wpAny_setField g3 rfl (by simp) ?_)
  refine St.i_ (v:=.none) (vs:=#[]) (it:=0) (Q:=λ_ _=>True) (by simpa using hh) λe s' kp ⟨h',eq⟩ hT=>?_
  subst eq
  refine wpAny_bind (wpAny_isInstance (T:="StopIteration") (b:=true) hT isSubtype_stop ?_)
  exact wpAny_pure (h2 h' hx λb o hb q=>kp b o ((Heap.SameBut.update hp it _).extBut b o hb q))
theorem src {r d:Addr}{es:Array DictEntry}{ep:Nat}:PySem.W.KdlSrc P w "dict_values" r d es.size (λi v=>∃e,es[i]?=some e/\v=e.val) (λh=>h.IsValuesView r d/\ng h d es ep) where
 type:=λ_ q=>q.1.typeIs
 there:=λ_ ⟨⟨o,ho,_⟩,⟨o',ho',_⟩⟩=>⟨Heap.lt_size ho,Heap.lt_size ho'⟩
 keep:=λ_ _ ⟨⟨o,ho,z⟩,x⟩ k=>⟨⟨o,k r (.inl rfl) o ho,z⟩,x.at λo e=>k d (.inr rfl) o e⟩
 notList:=by decide
 notTuple:=by decide
 hint:=λ_ _ _ _ q z=>PySem.W.kdl_hint_values q.1.typeIs z
 iter:=λA s hh ⟨q,x⟩=>by
  have lt:d<s.heap.objs.size:=by obtain⟨o,ho,_⟩:=x;exact Heap.lt_size ho
  have ne:d≠s.heap.objs.size:=Nat.ne_of_lt lt
  refine⟨{ cls:=.type "dict_valueiterator",data:=.fields #[.ref d,.int 0 0,.int es.size 0,.int ep 0] },λi h=>h.IsValIter s.heap.objs.size d i es.size ep/\ng h d es ep,λE Q z=>xO q x z,?_,⟨_,Heap.get?_push_size _ rfl,rfl,rfl⟩,x.at λo e=>Heap.get?_push_of_some _ e⟩
  refine⟨λb hb=>by simp at hb;simp [hb],λi h h' ⟨⟨o,ho,z⟩,y⟩ k=>⟨⟨o,k _ (by simp) o ho,z⟩,y.at λo e=>k d (by simp) o e⟩,λi s' Q E hi ⟨y,z⟩ hQ=>?_,λs' Q E ⟨y,z⟩ hQ=>?_,λi s' Q E ⟨y,z⟩ hQ=>?_⟩
  ·refine qP hh y z (λe h' he y' sb=>?_) λh' he _=>absurd he (by simp;omega)
   exact hQ _ h' s'.toks ⟨e,he,rfl⟩ ⟨y',z.at λo q=>sb.extBut d o ne q⟩ λb o hb q=>sb.extBut b o (λw=>hb (by simp [w])) q
  ·refine qP hh y z (λe h' he _ _=>absurd he (by simp)) λh' _ eb=>?_
   exact hQ h' s'.toks λb o hb q=>eb b o (λw=>hb (by simp [w])) q
  ·exact wpAny_pyIter_valiter y hQ
end
end L2.Dv
namespace HT
open PySem PyProof.Rows
section
variable{prog:Program}{w:World}{A:Around}{E:Value->Shared->Prop}{s:Shared}
theorem getItem_tuple_whole{t sl:Addr}{items:Array Value}{vl vu:Value}{lo hi:Option Int}{Q:Value->Shared->Prop}(ht:IsTup s.heap t items)(hs:s.heap.IsSliceOf sl vl vu .none)(pl:IsPart vl lo)(pu:IsPart vu hi)
  (h0:sIx items.size 0 lo=0) (h1:sIx items.size items.size hi=items.size) (h:Q (.ref t) s):wpAny (model prog w) A (getItem (.ref t) (.ref sl)) Q E s:=by
 have hTs:s.TypeIs (.ref sl) "slice":=by obtain⟨os,hos,hcs,_⟩:=hs;exact⟨os,hos,hcs⟩
 unfold getItem
 try with_reducible refine wpAny_holding ?_
 first|refine wpAny_bind (wpAny_pure ?_)|skip
 refine wpAny_bind (wpAny_sequenceKey ht.typeIs (by decide) ?_)
 refine wpAny_bind (wpAny_callSpecial?_slot (name:=Str.ofString "__getitem__") ht.typeIs PyProof.Rows.slot_tuple_getitem
  (wpAny_call_entry PyProof.Rows.slot_tuple_getitem ht.typeIs entry_tuple_getitem ?_ (args_tuple_getitem _ _)))
 show wpAny _ _ (Builtin.Tuple.tupleItemsOf (.ref t) >>= _) _ _ s
 refine wpAny_bind (tupleItemsOf_ ht ?_)
 refine wpAny_bind (wpAny_typeOf hTs ?_)
 rw [if_pos (by decide)]
 refine wpAny_bind (eY hs pl pu ?_)
 show wpAny _ _ (if (((sIx items.size 0 lo:Nat):Int) == 0&&(1:Int) == 1&&(sIx items.size items.size hi-sIx items.size 0 lo) == items.size)=true then _ else _) _ _ s
 rw [h0,h1,if_pos (by simp)]
 unfold Builtin.Tuple.tupleIsExact
 refine wpAny_bind (wpAny_bind (wpAny_typeOf ht.typeIs (wpAny_pure ?_)))
 rw [if_pos (by decide)]
 refine wpAny_bind (wpAny_rule ?_)
 exact wpAny_pure ⟨_,rfl,wpAny_pure h⟩
end
end HT
namespace L2
open PySem PySem.Spec PyProof.Rows
section
variable{X:Cx}
theorem xP:SlR X (λx lo hi H Q=>∃a xs,x=.ref a/\SqT X.K H a xs/\HT.sIx xs.length 0 lo=0/\HT.sIx xs.length xs.length hi=xs.length/\Q (.ref a) H):=by
 intro pins s σ H x v vl vu lo hi sl Q I rx hs pl pu h
 obtain⟨a,xs,rfl,hx,h0,h1,q⟩:=h
 cases rx
 obtain⟨its,r,ht,hz⟩:=I.tuple hx
 have hlen:its.toArray.size=xs.length:=by rw [List.size_toArray];exact r.length.symm
 refine⟨"tuple",_,PyProof.Rows.slot_tuple_getitem.lookup,ht.typeIs,?_⟩
 exact HT.getItem_tuple_whole ht hs pl pu (by rw [hlen];exact h0) (by rw [hlen];exact h1) ⟨.ref a,H,I,rfl,q⟩
end
end L2
namespace L2.Rv
open PySem PyProof.Rows
section
variable{P:Program}{w:World}{A:Around}{E:Value->Shared->Prop}{s:Shared}
end
end L2.Rv
namespace L2
open PySem PySem.Spec PyProof.Rows
section
variable{X:Cx}
end
end L2
namespace L2.Rg
open PySem PyProof.Rows
section
variable{P:Program}{w:World}{A:Around}{E:Value->Shared->Prop}{s:Shared}
end
end L2.Rg
namespace L2
open PySem PySem.Spec PyProof.Rows
section
variable{X:Cx}
end
end L2
namespace MM
open PySem
inductive Sc where
 | non|bl (b:Bool)|int (i:Int)|str (x:Str)
 deriving Inhabited,DecidableEq
inductive DD where
 | k (kvs:List (Int×Sc))|t (kvs:List (List Int×Sc))
 deriving Inhabited
inductive PV where
 | non|bl (b:Bool)|int (i:Int)|str (x:Str)|tup (xs:List PV)|lst (xs:List PV)|dI (d:DD)
 deriving Inhabited
noncomputable def Sc.pv:Sc->PV
 | .non=>.non
 | .bl b=>.bl b
 | .int i=>.int i
 | .str x=>.str x
noncomputable def sc?:PV->Option Sc
 | .non=>some .non
 | .bl b=>some (.bl b)
 | .int i=>some (.int i)
 | .str x=>some (.str x)
 | _=>none
noncomputable def dh{α:Type} [DecidableEq α] (kvs:List (α×Sc)) (k:α):Option Sc:=(kvs.find? λp=>decide (p.1=k)).map (·.2)
noncomputable def cx{α:Type} [DecidableEq α] (kvs:List (α×Sc)) (k:α) (v:Sc):List (α×Sc) :=
 if (kvs.any λp=>decide (p.1=k))=true then kvs.map (λp=>if p.1=k then (p.1,v) else p) else kvs ++ [(k,v)]
noncomputable def eqL(f:PV->PV->Option Bool):List PV->List PV->Option Bool
 | [],[]=>some true
 |x::xs,y::ys=>(f x y).bind λp=>(eqL f xs ys).map λq=>p&&q
 | _,_=>some false
noncomputable def eqF:Nat->PV->PV->Option Bool
 | _,.non,.non=>some true
 | _,.bl a,.bl b=>some (a == b)
 | _,.bl a,.int b=>some ((if a then 1 else 0) == b)
 | _,.int a,.bl b=>some (a == (if b then 1 else 0))
 | _,.int a,.int b=>some (a == b)
 | _,.str a,.str b=>some (a == b)
 |0,.tup _,.tup _=>none
 |0,.lst _,.lst _=>none
 | _,.dI _,_=>none
 | _,_,.dI _=>none
 |n+1,.tup a,.tup b=>eqL (eqF n) a b
 |n+1,.lst a,.lst b=>if a.length=b.length then eqL (eqF n) a b else some false
 | _,_,_=>some false
noncomputable def pX:PV->PV->Bool
 | .tup _,.tup _=>true
 | .lst _,.lst _=>true
 | .tup _,_=>false
 | _,.tup _=>false
 | .lst _,_=>false
 | _,.lst _=>false
 | .bl _,.int _=>false
 | .int _,.bl _=>false
 | .dI _,_=>false
 | _,.dI _=>false
 | _,_=>true
noncomputable def inL(f:PV->Option Bool):List PV->Option Bool
 | []=>some false
 |y::ys=>(f y).bind λp=>(inL f ys).map λq=>p || q
inductive MV where
 | val (v:PV)|own (xs:List PV)|brw (xs:List PV)|ownD (d:DD)|brwD (d:DD)
 | ownO (m:Bool) (fs xs:List PV)|brwO (fs xs:List PV)
 deriving Inhabited
noncomputable abbrev Rho:=List (Option MV)
inductive Op2 where
 | add|sub|mul|fdiv|mod|pow|shr
inductive Cp where
 | eq|ne|lt|le|gt|ge|isN|notN|isIn|notIn
inductive Blt where
 | len|tupleOf|listOf|sorted|any|all|sum|max1|min1|max2|min2|intOf|boolOf|isInt|isBool|isStr|isList|isTuple
 | sortedSet|lenSet|lenSetSub|sortedKeys|valuesOf|tupleRev
 deriving DecidableEq
inductive Sk where
 | seq|rng|enm|rev
noncomputable def sk2:Sk:=.enm
set_option genInjectivity false in
inductive ME where
 | var (i:Nat)
 | bor (i:Nat)
 | cst (v:PV)
 | glob (x:Str) (v:PV)
 | bin (op:Op2) (a b:ME)
 | neg (a:ME)
 | not (a:ME)
 | and (a b:ME)
 | or (a b:ME)
 | ite (c a b:ME)
 | cmp (op:Cp) (a b:ME)
 | chain (op op':Cp) (a b c:ME)
 | tup (es:List ME)
 | lst (es:List ME)
 | idx (a i:ME)
 | slice (a lo hi:ME)
 | blt (b:Blt) (es:List ME)
 | call (f:Nat) (es:List ME)
 | callD (f:Nat) (es:List ME) (d:List Sc)
 | comp (k:Sk) (src:List ME) (js:List Nat) (cond elt:ME)
 | dget (a k d:ME)
 | dat (a k:ME)
 | dIn (neg:Bool) (k a:ME)
 | fld (i n:Nat)
 | fldL (i:Nat)
 | inO (neg:Bool) (e:ME) (i:Nat)
 | callM (f i:Nat) (es:List ME)
 | comp2 (src:List ME) (js:List Nat) (cond elt:ME)
 | callV (f:Nat) (es:List ME)
 deriving Inhabited
noncomputable def bc:List PV->Option (List Int)
 | []=>some []
 | .int i::r=>(bc r).map (i::·)
 | _=>none
noncomputable def e_:List PV->Option (List (List Int))
 | []=>some []
 | .tup xs::r=>(bc xs).bind λx=>(e_ r).map (x::·)
 | _=>none
noncomputable def bY:List PV->Option (List Bool)
 | []=>some []
 | .bl i::r=>(bY r).map (i::·)
 | _=>none
noncomputable def sK:PV->PV->Option (Option Sc)
 | .dI (.k kvs),.int i=>some (dh kvs i)
 | .dI (.t kvs),.tup xs=>(bc xs).map (dh kvs)
 | _,_=>none
noncomputable def pY:DD->PV->Sc->Option DD
 | .k kvs,.int i,s=>if kvs.length<10000 then some (.k (cx kvs i s)) else none
 | .t kvs,.tup xs,s=>(bc xs).bind λk=>if kvs.length<10000 then some (.t (cx kvs k s)) else none
 | _,_,_=>none
noncomputable def dSc:DD->List Sc
 | .k kvs=>kvs.map (·.2)
 | .t kvs=>kvs.map (·.2)
noncomputable def qQ(d:DD):List PV:=(dSc d).map Sc.pv
noncomputable def lexLt:List Int->List Int->Bool
 | [],[]=>false
 | [],_::_=>true
 | _::_,[]=>false
 |x::xs,y::ys=>if x=y then lexLt xs ys else decide (x<y)
noncomputable def u_(x:Int):List Int->List Int
 | []=>[x]
 |y::r=>if y<x then y::u_ x r else x::y::r
noncomputable def sortI:List Int->List Int
 | []=>[]
 |x::r=>u_ x (sortI r)
noncomputable def va(x:List Int):List (List Int)->List (List Int)
 | []=>[x]
 |y::r=>if lexLt y x=true then y::va x r else x::y::r
noncomputable def sortT:List (List Int)->List (List Int)
 | []=>[]
 |x::r=>va x (sortT r)
noncomputable def dd:List Int->List Int
 | []=>[]
 |x::r=>if x∈dd r then dd r else x::dd r
noncomputable def iy{α:Type}(f:Int->Int->Option α):PV->PV->Option α
 | .int i,.int j=>f i j
 | _,_=>none
noncomputable def y6:PV->PV->Option PV
 | .int i,.int j=>some (.int (i+j))
 | .lst a,.lst b=>if a.length+b.length<=10000 then some (.lst (a++b)) else none
 | .tup a,.tup b=>if a.length+b.length<=10000 then some (.tup (a++b)) else none
 | .str a,.str b=>if a.length+b.length<=1000000 then some (.str (a++b)) else none
 | _,_=>none
noncomputable def fW(op:Op2):PV->PV->Option PV:=match op with
 | .add=>y6
 | .sub=>iy λi j=>some (.int (i-j))
 | .mul=>iy λi j=>if (-(2 ^ 64)<i/\i<2 ^ 64)\/(-(2 ^ 64)<j/\j<2 ^ 64) then some (.int (i*j)) else none
 | .fdiv=>iy λi j=>if 0<j/\j<1073741824 then some (.int (i / j)) else none
 | .mod=>iy λi j=>if 0<j then some (.int (i % j)) else none
 | .pow=>iy λi j=>if 0<=j/\j<=1000000/\i.natAbs<2 ^ 64 then some (.int (i ^ j.toNat)) else none
 | .shr=>iy λi j=>if 0<=j then some (.int (i / 2 ^ j.toNat)) else none
noncomputable def iz:PV->Bool
 | .non=>true
 | _=>false
noncomputable def isIn(x:PV)(xs:List PV):Option Bool:=inL (λy=>eqF 100 y x) xs
noncomputable def CC(a b:PV):Option Bool:=match b with
 | .non=>some (iz a)
 | .bl q=>(match a with|.bl p=>some (p == q)|_=>none)
 | _=>none
noncomputable def be:PV->Option (List PV)
 | .tup xs=>some xs
 | .lst xs=>some xs
 | _=>none
noncomputable def gR:PV->Option (List PV)
 | .lst xs=>some xs
 | _=>none
noncomputable def bS(op:Cp):PV->PV->Option Bool:=match op with
 | .eq=>eqF 100
 | .ne=>λa b=>if pX a b=true then (eqF 100 a b).map λp=>!p else none
 | .lt=>iy λi j=>some (decide (i<j))
 | .le=>iy λi j=>some (decide (i<=j))
 | .gt=>iy λi j=>some (decide (j<i))
 | .ge=>iy λi j=>some (decide (j<=i))
 | .isN=>CC
 | .notN=>λa b=>(CC a b).map λp=>!p
 | .isIn=>λa b=>(be b).bind (isIn a)
 | .notIn=>λa b=>((be b).bind (isIn a)).map λp=>!p
noncomputable def place(n:Nat)(i:Int):Option Nat :=
 if 0<=i then (if i<n then some i.toNat else none) else if -(n:Int)<=i then some (i+n).toNat else none
noncomputable def gH:PV->PV->Option PV
 | .tup xs,.int i=>(place xs.length i).bind λj=>xs[j]?
 | .lst xs,.int i=>(place xs.length i).bind λj=>xs[j]?
 | _,_=>none
noncomputable def gI(n d:Nat):Option Int->Nat
 |none=>d
 |some i=>if i<0 then (i+n).toNat else min i.toNat n
noncomputable def cut(xs:List PV)(lo hi:Option Int):List PV:=(xs.drop (gI xs.length 0 lo)).take (gI xs.length xs.length hi-gI xs.length 0 lo)
noncomputable def jU:PV->Option Int->Option Int->Option PV
 | .lst xs,lo,hi=>some (.lst (cut xs lo hi))
 | .tup xs,lo,hi=>some (.tup (cut xs lo hi))
 | _,_,_=>none
noncomputable def bnd:ME->PV->Option (Option Int)
 | .cst .non,_=>some none
 | _,.int i=>some (some i)
 | _,_=>none
noncomputable def CD:List Int->Option Int
 | []=>none
 |x::r=>some (r.foldl (λa b=>if a<b then b else a) x)
noncomputable def fA(xs:List PV):Option PV :=
 if xs.length<64 then
  match bc xs with
  |some ns=>some (.lst ((sortI ns).map .int))
  |none=>(e_ xs).map λts=>.lst ((sortT ts).map λt=>.tup (t.map .int))
 else none
noncomputable def isT(b:Blt):PV->Bool
 | .int _=>b == .isInt
 | .bl _=>b == .isInt || b == .isBool
 | .str _=>b == .isStr
 | .lst _=>b == .isList
 | .tup _=>b == .isTuple
 | .non=>false
 | .dI _=>false
noncomputable def isD:PV->Bool
 | .dI _=>true
 | _=>false
noncomputable def b_(vs:List PV)(f:PV->Option PV):Option PV:=match vs with
 | [a]=>f a
 | _=>none
noncomputable def iA(vs:List PV)(f:PV->PV->Option PV):Option PV:=match vs with
 | [a,b]=>f a b
 | _=>none
noncomputable def gD(b:Blt)(vs:List PV):Option PV:=b_ vs λa=>if isD a=true then none else some (.bl (isT b a))
noncomputable def y7:PV->Option PV
 | .tup xs=>some (.int xs.length)
 | .lst xs=>some (.int xs.length)
 | .dI (.k kvs)=>some (.int kvs.length)
 | _=>none
noncomputable def aE(b:Blt)(vs:List PV):Option PV:=match b with
 | .len=>b_ vs y7
 | .tupleOf=>b_ vs λa=>(be a).map .tup
 | .listOf=>b_ vs λa=>(be a).map .lst
 | .sorted=>b_ vs λa=>(be a).bind fA
 | .any=>b_ vs λa=>(gR a).bind λxs=>(bY xs).map λbs=>.bl (bs.any id)
 | .all=>b_ vs λa=>(gR a).bind λxs=>(bY xs).map λbs=>.bl (bs.all id)
 | .sum=>b_ vs λa=>(gR a).bind λxs=>(bc xs).map λns=>.int ns.sum
 | .max1=>b_ vs λa=>(gR a).bind λxs=>(bc xs).bind λns=>(CD ns).map .int
 | .min1=>none
 | .max2=>iA vs (iy λi j=>some (.int (if j > i then j else i)))
 | .min2=>iA vs (iy λi j=>some (.int (if j<i then j else i)))
 | .intOf=>b_ vs λa=>match a with|.int i=>some (.int i)|.bl b=>some (.int (if b then 1 else 0))|_=>none
 | .boolOf=>b_ vs λa=>match a with|.bl b=>some (.bl b)|_=>none
 | .isInt=>gD .isInt vs
 | .isBool=>gD .isBool vs
 | .isStr=>gD .isStr vs
 | .isList=>gD .isList vs
 | .isTuple=>gD .isTuple vs
 | .sortedSet=>b_ vs λa=>(be a).bind λxs=>(bc xs).bind λns=>if ns.length<=4000/\(dd ns).length<64 then some (.lst ((sortI (dd ns)).map .int)) else none
 | .lenSet=>b_ vs λa=>(be a).bind λxs=>(bc xs).bind λns=>if ns.length<=4000 then some (.int (dd ns).length) else none
 | .lenSetSub=>iA vs λa b=>(be a).bind λxs=>(bc xs).bind λns=>(be b).bind λys=>(bc ys).bind λms =>
   if ns.length<=4000/\ms.length<=4000/\(dd ns).length<=60 then some (.int ((dd ns).filter λn=>!decide (n∈ms)).length) else none
 | .sortedKeys=>b_ vs λa=>match a with|.dI (.k kvs)=>if kvs.length<64 then some (.lst ((sortI (kvs.map (·.1))).map .int)) else none|_=>none
 | .tupleRev=>b_ vs λa=>(gR a).map λxs=>.tup xs.reverse
 | .valuesOf=>b_ vs λa=>match a with|.dI d=>if (qQ d).length<=10000 then some (.lst (qQ d)) else none|_=>none
noncomputable def aY(n:Nat):List PV->List PV
 | []=>[]
 |x::r=>.tup [.int (n:Nat),x]::aY (n+1) r
noncomputable def bF:Sk->List PV->Option (List PV)
 | .seq,[a]=>be a
 | .rng,[.int j]=>if -(2 ^ 62)<=j/\j<2 ^ 62 then some ((List.range j.toNat).map λ(k:Nat)=>.int ((0:Int)+k)) else none
 | .rng,[.int i,.int j]=>if -(2 ^ 62)<=i/\i<2 ^ 62/\-(2 ^ 62)<=j/\j<2 ^ 62 then some ((List.range (j-i).toNat).map λ(k:Nat)=>.int (i+k)) else none
 | .enm,[a]=>(be a).map (aY 0)
 | .rev,[.lst xs]=>some xs.reverse
 | _,_=>none
noncomputable def bU(c:PV->Option Bool)(f:PV->Option PV):List PV->Option (List PV)
 | []=>some []
 |x::r=>(c x).bind λb=>if b=true then (f x).bind λy=>(bU c f r).map (y::·) else bU c f r
noncomputable def aM:PV->Option Bool
 | .bl b=>some b
 | _=>none
noncomputable abbrev Cal:=Nat->List MV->Option PV
noncomputable def vb:Option MV->Option PV
 |some (.val v)=>some v
 | _=>none
noncomputable def bj:Option MV->Option PV
 |some (.val v)=>some v
 |some (.own xs)=>some (.lst xs)
 |some (.brw xs)=>some (.lst xs)
 |some (.ownD kvs)=>some (.dI kvs)
 |some (.brwD kvs)=>some (.dI kvs)
 |some (.ownO _ _ _)=>none
 |some (.brwO _ _)=>none
 |none=>none
noncomputable def eA:Option MV->Option MV
 |some (.val v)=>some (.val v)
 |some (.own xs)=>some (.brw xs)
 |some (.brw xs)=>some (.brw xs)
 |some (.ownD xs)=>some (.brwD xs)
 |some (.brwD xs)=>some (.brwD xs)
 |some (.ownO _ fs xs)=>some (.brwO fs xs)
 |some (.brwO fs xs)=>some (.brwO fs xs)
 |none=>none
noncomputable def cy:Option MV->Option MV
 |some (.own xs)=>some (.brw xs)
 |some (.ownD xs)=>some (.brwD xs)
 |some (.ownO _ fs xs)=>some (.brwO fs xs)
 |o=>o
noncomputable def dq(js:List Nat)(ρ:Rho)(x:PV):Rho:=some (.val x)::js.map λj=>cy (ρ[j]?).join
noncomputable def gS:Option MV->Option (List PV×List PV)
 |some (.ownO _ fs xs)=>some (fs,xs)
 |some (.brwO fs xs)=>some (fs,xs)
 | _=>none
noncomputable def mz:Option MV->Option PV
 |some (.brwO _ xs)=>some (.lst xs)
 | _=>none
noncomputable def unB:MV->MV
 | .brw xs=>.val (.lst xs)
 |m=>m
noncomputable def ni(js:List Nat)(ρ:Rho):PV->Rho
 | .tup [a,b]=>some (.val a)::some (.val b)::js.map λj=>cy (ρ[j]?).join
 | _=>[]
noncomputable def y9:Option MV->Option PV
 |some (.ownO _ _ xs)=>some (.lst xs)
 | _=>none
mutual
noncomputable def ev(cal:Cal):ME->Rho->Option PV
 | .var i,ρ=>vb (ρ[i]?).join
 | .bor i,ρ=>bj (ρ[i]?).join
 | .cst v,_=>some v
 | .glob _ v,_=>some v
 | .bin op a b,ρ=>(ev cal a ρ).bind λx=>(ev cal b ρ).bind λy=>fW op x y
 | .neg a,ρ=>(ev cal a ρ).bind λx=>match x with|.int i=>some (.int (-i))|_=>none
 | .not a,ρ=>((ev cal a ρ).bind aM).map λb=>.bl (!b)
 | .and a b,ρ=>((ev cal a ρ).bind aM).bind λc=>if c=true then (ev cal b ρ).bind λy=>(aM y).map .bl else some (.bl false)
 | .or a b,ρ=>((ev cal a ρ).bind aM).bind λc=>if c=true then some (.bl true) else (ev cal b ρ).bind λy=>(aM y).map .bl
 | .ite c a b,ρ=>((ev cal c ρ).bind aM).bind λk=>if k=true then ev cal a ρ else ev cal b ρ
 | .cmp op a b,ρ=>(ev cal a ρ).bind λx=>(ev cal b ρ).bind λy=>(bS op x y).map .bl
 | .chain op op' a b c,ρ=>(ev cal a ρ).bind λx=>(ev cal b ρ).bind λy=>(bS op x y).bind λk=>if k=true then (ev cal c ρ).bind λz=>(bS op' y z).map .bl else some (.bl false)
 | .tup es,ρ=>(evs cal es ρ).bind λvs=>if vs.length<=10000 then some (.tup vs) else none
 | .lst es,ρ=>(evs cal es ρ).bind λvs=>if vs.length<=10000 then some (.lst vs) else none
 | .idx a i,ρ=>(ev cal a ρ).bind λx=>(ev cal i ρ).bind λy=>gH x y
 | .slice a lo hi,ρ=>(ev cal a ρ).bind λx=>((ev cal lo ρ).bind λl=>bnd lo l).bind λl=>((ev cal hi ρ).bind λh=>bnd hi h).bind λh=>jU x l h
 | .blt b es,ρ=>(evs cal es ρ).bind λvs=>aE b vs
 | .call f es,ρ=>(evA cal es ρ).bind λvs=>cal f vs
 | .callD f es d,ρ=>(evA cal es ρ).bind λvs=>cal f (vs++d.map λx=>.val x.pv)
 | .comp k src js cond elt,ρ=>(evs cal src ρ).bind λvs=>(bF k vs).bind λxs =>
   if xs.length<=10000 then (bU (λx=>(ev cal cond (dq js ρ x)).bind aM) (λx=>ev cal elt (dq js ρ x)) xs).map .lst else none
 | .dget a k d,ρ=>(ev cal a ρ).bind λx=>(ev cal k ρ).bind λy=>(ev cal d ρ).bind λz=>(sK x y).bind λo=>(sc? z).map λs=>(o.getD s).pv
 | .dat a k,ρ=>(ev cal a ρ).bind λx=>(ev cal k ρ).bind λy=>(sK x y).bind λo=>o.map Sc.pv
 | .dIn neg k a,ρ=>(ev cal k ρ).bind λy=>(ev cal a ρ).bind λx=>(sK x y).map λo=>.bl (if neg=true then !o.isSome else o.isSome)
 | .fld i n,ρ=>(gS (ρ[i]?).join).bind λo=>o.1[n]?
 | .fldL i,ρ=>mz (ρ[i]?).join
 | .inO neg e i,ρ=>(ev cal e ρ).bind λy=>(y9 (ρ[i]?).join).bind λx=>(bS (if neg=true then .notIn else .isIn) y x).map .bl
 | .callM f i es,ρ=>(gS (ρ[i]?).join).bind λo=>(evA cal es ρ).bind λvs=>cal f (.brwO o.1 o.2::vs)
 | .callV f es,ρ=>(evA cal es ρ).bind λvs=>(cal f (vs.map unB)).bind λr=>(sc? r).map λ_=>r
 | .comp2 src js cond elt,ρ=>(evs cal src ρ).bind λvs=>(bF sk2 vs).bind λxs =>
   if xs.length<=10000 then (bU (λx=>(ev cal cond (ni js ρ x)).bind aM) (λx=>ev cal elt (ni js ρ x)) xs).map .lst else none
noncomputable def evs(cal:Cal):List ME->Rho->Option (List PV)
 | [],_=>some []
 |e::es,ρ=>(ev cal e ρ).bind λv=>(evs cal es ρ).map (v::·)
noncomputable def evA(cal:Cal):List ME->Rho->Option (List MV)
 | [],_=>some []
 | .bor i::es,ρ=>(eA (ρ[i]?).join).bind λv=>(evA cal es ρ).map (v::·)
 | .fldL _::_,_=>none
 |e::es,ρ=>(ev cal e ρ).bind λv=>(evA cal es ρ).map (MV.val v::·)
end
noncomputable def evB(cal:Cal)(e:ME)(ρ:Rho):Option Bool:=(ev cal e ρ).bind aM
set_option genInjectivity false in
inductive MS where
 | set (i:Nat) (e:ME)
 | setOwn (i:Nat) (e:ME)
 | freeze (i:Nat)
 | append (i:Nat) (e:ME)
 | extend (i:Nat) (e:ME)
 | mkO (i:Nat) (es:List ME)
 | appO (i:Nat) (e:ME)
 | retT (e:ME)
 | takeO (j:Option Nat) (i f:Nat) (es:List ME)
 | setIdx (i:Nat) (k v:ME)
 | unpack (is:List Nat) (e:ME)
 | expr (e:ME)
 | ite (c:ME) (a b:List MS)
 | for1 (i:Nat) (k:Sk) (src:List ME) (body:List MS)
 | forT (is:List Nat) (k:Sk) (src:List ME) (body:List MS)
 | while (n:Nat) (c:ME) (body:List MS)
 | ret (e:ME)
 | retOwn (i:Nat)
 | retN
 | brk
 | cont
 | pass
 | never
 | newD (m:Bool) (i:Nat)
 | retF (e:ME)
 | setCall (i f:Nat) (es:List ME)
 | clear (i:Nat)
 | dput (i:Nat) (k v:ME)
 deriving Inhabited
inductive R where
 | next (ρ:Rho)|brk (ρ:Rho)|cont (ρ:Rho)|ret (v:PV)|bad
 | retF (xs:List PV)
 | retT (v:Sc) (ρ:Rho)
 deriving Inhabited
noncomputable def R.andThen:R->(Rho->R)->R
 | .next ρ,k=>k ρ
 |r,_=>r
noncomputable def put(ρ:Rho)(i:Nat)(v:MV):Rho:=ρ.set i (some v)
noncomputable def cZ(o:Option PV)(k:PV->R):R:=match o with
 |some v=>k v
 |none=>.bad
noncomputable def vc(o:Option Bool)(k:Bool->R):R:=match o with
 |some v=>k v
 |none=>.bad
noncomputable def lV:List Nat->List PV->Rho->Option Rho
 | [],[],ρ=>some ρ
 |i::is,v::vs,ρ=>lV is vs (put ρ i (.val v))
 | _,_,_=>none
noncomputable def kY(is:List Nat):PV->Rho->Option Rho
 | .tup vs,ρ=>lV is vs ρ
 | _,_=>none
noncomputable def fN(o:Option Rho)(f:Rho->R):R:=match o with
 |some ρ=>f ρ
 |none=>.bad
noncomputable def bx(body:PV->Rho->R):List PV->Rho->R
 | [],ρ=>.next ρ
 |x::r,ρ=>match body x ρ with
  | .next ρ'=>bx body r ρ'
  | .cont ρ'=>bx body r ρ'
  | .brk ρ'=>.next ρ'
  | .ret v=>.ret v
  | .bad=>.bad
  | .retF xs=>.retF xs
  | .retT v ρ'=>.retT v ρ'
noncomputable def nj(c:Rho->Option Bool)(body:Rho->R):Nat->Rho->R
 |0,_=>.bad
 |n+1,ρ=>match c ρ with
  |none=>.bad
  |some false=>.next ρ
  |some true=>match body ρ with
   | .next ρ'=>nj c body n ρ'
   | .cont ρ'=>nj c body n ρ'
   | .brk ρ'=>.next ρ'
   | .ret v=>.ret v
   | .bad=>.bad
   | .retF xs=>.retF xs
   | .retT v ρ'=>.retT v ρ'
noncomputable def bu(src:List ME)(ρ:Rho):Rho:=match src with
 | [.bor i]=>(match (ρ[i]?).join with|some (.own xs)=>put ρ i (.brw xs)|_=>ρ)
 | _=>ρ
noncomputable def bf(src:List ME)(ρ₀ ρ:Rho):Rho:=match src with
 | [.bor i]=>(match (ρ₀[i]?).join,(ρ[i]?).join with|some (.own _),some (.brw xs)=>put ρ i (.own xs)|_,_=>ρ)
 | _=>ρ
noncomputable def R.back(src:List ME)(ρ₀:Rho):R->R
 | .next ρ=>.next (bf src ρ₀ ρ)
 | .brk ρ=>.brk (bf src ρ₀ ρ)
 | .cont ρ=>.cont (bf src ρ₀ ρ)
 | .retT v ρ=>.retT v (bf src ρ₀ ρ)
 |r=>r
noncomputable def isL:MV->Bool
 | .ownO _ _ _=>true
 | _=>false
noncomputable def xQ(ρ:Rho)(i:Nat):Bool:=(ρ.set i none).all λo=>match o with|some m=>!isL m|none=>true
noncomputable def sL:List PV->Option (List PV)
 | [.tup [c,r],o]=>some [c,r,o]
 | [.tup [c,r]]=>some [c,r,.str "weaver"]
 | _=>none
mutual
noncomputable def ex(cal:Cal):MS->Rho->R
 | .set i e,ρ=>cZ (ev cal e ρ) λv=>.next (put ρ i (.val v))
 | .setOwn i e,ρ=>cZ (ev cal e ρ) λv=>match v with|.lst xs=>.next (put ρ i (.own xs))|_=>.bad
 | .freeze i,ρ=>match (ρ[i]?).join with|some (.own xs)=>.next (put ρ i (.val (.lst xs)))|some _=>.next ρ|none=>.bad
 | .append i e,ρ=>cZ (ev cal e ρ) λv=>match (ρ[i]?).join with
  |some (.own xs)=>if xs.length<10000 then .next (put ρ i (.own (xs ++ [v]))) else .bad
  | _=>.bad
 | .extend i e,ρ=>cZ (ev cal e ρ) λv=>match (ρ[i]?).join,be v with
  |some (.own xs),some ys=>if xs.length+ys.length<=10000 then .next (put ρ i (.own (xs++ys))) else .bad
  | _,_=>.bad
 | .mkO i es,ρ=>match (evs cal es ρ).bind sL with
  |some fs=>if xQ ρ i=true/\cal 4000 []≠none then .next (put ρ i (.ownO false fs [])) else .bad
  |none=>.bad
 | .appO i e,ρ=>cZ (ev cal e ρ) λv=>match (ρ[i]?).join with
  |some (.ownO m fs xs)=>if xs.length<10000 then .next (put ρ i (.ownO m fs (xs ++ [v]))) else .bad
  | _=>.bad
 | .retT e,ρ=>cZ (ev cal e ρ) λv=>match sc? v with
  |some s=>.retT s ρ
  |none=>.bad
 | .takeO j i f es,ρ=>match (ρ[i]?).join with
  |some (.ownO m fs xs)=>(match (evs cal es ρ).bind λvs=>cal (f+3000) (.ownO true fs xs::vs.map .val) with
   |some (.tup [v,.lst ys])=>(match sc? v with
    |some _=>(match j with
     |some j=>if i=j then .bad else .next (put (put ρ i (.ownO m fs ys)) j (.val v))
     |none=>.next (put ρ i (.ownO m fs ys)))
    |none=>.bad)
   | _=>.bad)
  | _=>.bad
 | .setIdx i k v,ρ=>cZ (ev cal v ρ) λv=>cZ (ev cal k ρ) λk=>match (ρ[i]?).join,k with
  |some (.own xs),.int k=>(match place xs.length k with|some j=>.next (put ρ i (.own (xs.set j v)))|none=>.bad)
  | _,_=>.bad
 | .unpack is e,ρ=>cZ (ev cal e ρ) λv=>fN (kY is v ρ) .next
 | .expr e,ρ=>cZ (ev cal e ρ) λ_=>.next ρ
 | .ite c a b,ρ=>vc (evB cal c ρ) λk=>if k=true then exs cal a ρ else exs cal b ρ
 | .for1 i k src body,ρ=>match (evs cal src ρ).bind (bF k) with
  |some xs=>(bx (λx ρ'=>exs cal body (put ρ' i (.val x))) xs (bu src ρ)).back src ρ
  |none=>.bad
 | .forT is k src body,ρ=>match (evs cal src ρ).bind (bF k) with
  |some xs=>(bx (λx ρ'=>fN (kY is x ρ') λρ''=>exs cal body ρ'') xs (bu src ρ)).back src ρ
  |none=>.bad
 | .while n c body,ρ=>nj (evB cal c) (λρ'=>exs cal body ρ') n ρ
 | .ret e,ρ=>cZ (ev cal e ρ) .ret
 | .retOwn i,ρ=>match (ρ[i]?).join with|some (.own xs)=>.ret (.lst xs)|some (.ownD kvs)=>.ret (.dI kvs)|some (.val v)=>.ret v|_=>.bad
 | .newD m i,ρ=>.next (put ρ i (.ownD (if m=true then .t [] else .k [])))
 | .dput i k v,ρ=>cZ (ev cal v ρ) λv=>cZ (ev cal k ρ) λk=>match (ρ[i]?).join,sc? v with
  |some (.ownD d),some s=>match pY d k s with|some d'=>.next (put ρ i (.ownD d'))|none=>.bad
  | _,_=>.bad
 | .retF e,ρ=>cZ (ev cal e ρ) λv=>match v with|.lst xs=>.retF xs|_=>.bad
 | .setCall i f es,ρ=>cZ ((evA cal es ρ).bind λvs=>cal (f+1000) vs) λv=>match v with|.lst xs=>.next (put ρ i (.own xs))|_=>.bad
 | .clear i,ρ=>match (ρ[i]?).join with|some (.own _)=>.next (put ρ i (.own []))|_=>.bad
 | .retN,_=>.ret .non
 | .brk,ρ=>.brk ρ
 | .cont,ρ=>.cont ρ
 | .pass,ρ=>.next ρ
 | .never,_=>.bad
noncomputable def exs(cal:Cal):List MS->Rho->R
 | [],ρ=>.next ρ
 |s::ss,ρ=>(ex cal s ρ).andThen λρ'=>exs cal ss ρ'
end
structure MD where
 name:Str
 params:List Str
 names:List Str
 body:List MS
 meth:Option Str:=none
 deriving Inhabited
noncomputable def sM:Sc->Rho->Option PV
 |v,some (.ownO true _ xs)::_=>some (.tup [v.pv,.lst xs])
 | _,_=>none
noncomputable def ae(ds:List MD):Nat->Cal
 |0,_,_=>none
 |n+1,f,args=>match ds[f]? with
  |none=>if f=4000 then (if 1<=n then some (.bl true) else none) else if 2000<=f then (
   match ds[f-3000]? with
   |none=>none
   |some d=>if args.length=d.params.length then
     (match exs (ae ds n) d.body (args.map some++List.replicate (d.names.length-args.length) none) with
     | .retT v ρ=>sM v ρ
     | _=>none) else none) else
   (match ds[f-1000]? with
   |none=>none
   |some d=>if args.length=d.params.length then
     (match exs (ae ds n) d.body (args.map some++List.replicate (d.names.length-args.length) none) with
     | .retF xs=>some (.lst xs)
     | _=>none) else none)
  |some d=>if args.length=d.params.length then
    (match exs (ae ds n) d.body (args.map some++List.replicate (d.names.length-args.length) none) with
    | .next _=>some .non
    | .ret v=>some v
    | .retF xs=>some (.lst xs)
    | _=>none) else none
end MM
namespace MM
open PySem PySem.Spec PyProof.Rows L2
noncomputable abbrev St:=L2.St
noncomputable def af(H:Hp)(O:List Addr):Hp:=λb=>if b∈O then none else H b
theorem du{H:Hp}{O:List Addr}{b:Addr}(h:b∈O):af H O b=none:=if_pos h
theorem aD{H:Hp}{O:List Addr}{b:Addr}(h:b∉O):af H O b=H b:=if_neg h
theorem ac.rd{H H':Hp}(s:ac H H'){a:Addr}{u:HO}(h:Rd H a u):Rd H' a u:=h.elim (λe=>.inl (s a _ e)) λ⟨o,e⟩=>.inr ⟨o,s a _ e⟩
theorem aU(H:Hp)(O:List Addr):ac (af H O) H:=λb u e=>by
 unfold af at e
 split at e
 ·cases e
 ·exact e
theorem aQ{H H':Hp}{O O':List Addr}(s:ac H H')(h:∀b∈O',b∈O\/H b=none):ac (af H O) (af H' O'):=λb u e=>by
 have hb:b∉O:=λz=>by rw [du z]at e;cases e
 rw [aD hb]at e
 rw [aD]
 ·exact s b u e
 ·intro z
  rcases h b z with q|q
  ·exact hb q
  ·rw [q]at e;cases e
theorem ag{H H':Hp}{O:List Addr}(s:ac H H'):ac (af H O) (af H' O):=aQ s λ_ h=>.inl h
noncomputable def Sc.v:Sc->V
 | .non=>.non
 | .bl b=>.bl b
 | .int i=>.int i
 | .str x=>.str x
noncomputable def fX(kvs:List (Int×Sc)):List (Key×V):=kvs.map λp=>(Sum.inl p.1,p.2.v)
noncomputable def iB(kvs:List (List Int×Sc)):List (List Key×V):=kvs.map λp=>(p.1.map Sum.inl,p.2.v)
noncomputable def jO:DD->HO
 | .k kvs=>.dK (fX kvs)
 | .t kvs=>.dT (iB kvs)
noncomputable abbrev RdD(F:Hp)(a:Addr)(d:DD):Prop:=Rd F a (jO d)
theorem RdD.rd{F:Hp}{a:Addr}{d:DD}(h:RdD F a d):Rd F a (jO d):=h
theorem ac.rdD{H H':Hp}(s:ac H H'){a:Addr}{d:DD}(h:RdD H a d):RdD H' a d:=ac.rd s h
mutual
noncomputable def Rep(K:PySem.W.Frag)(F:Hp):PV->V->Prop
 | .non,u=>u=.non
 | .bl b,u=>u=.bl b
 | .int i,u=>u=.int i
 | .str x,u=>u=.str x
 | .tup xs,u=>∃a us,u=.ref a/\F a=some (.tup us)/\Reps K F xs us
 | .lst xs,u=>∃a us,u=.ref a/\SqL K F a us/\Reps K F xs us
 | .dI kvs,u=>∃a,u=.ref a/\RdD F a kvs
noncomputable def Reps(K:PySem.W.Frag)(F:Hp):List PV->List V->Prop
 | [],us=>us=[]
 |x::xs,us=>∃u r,us=u::r/\Rep K F x u/\Reps K F xs r
end
section
variable{K:PySem.W.Frag}{F F':Hp}
mutual
theorem Rep.mono(s:ac F F'):∀(x:PV) {u:V},Rep K F x u->Rep K F' x u
 | .non,_,h=>by simpa only [Rep] using h
 | .bl _,_,h=>by simpa only [Rep] using h
 | .int _,_,h=>by simpa only [Rep] using h
 | .str _,_,h=>by simpa only [Rep] using h
 | .tup xs,_,h=>by
  rw [Rep]at h ⊢
  obtain⟨a,us,e,q,r⟩:=h
  exact⟨a,us,e,s a _ q,Reps.mono s xs r⟩
 | .lst xs,_,h=>by
  rw [Rep]at h ⊢
  obtain⟨a,us,e,q,r⟩:=h
  exact⟨a,us,e,s.seq q,Reps.mono s xs r⟩
 | .dI kvs,_,h=>by
  rw [Rep]at h ⊢
  obtain⟨a,e,q⟩:=h
  exact⟨a,e,ac.rdD s q⟩
theorem Reps.mono(s:ac F F'):∀(xs:List PV) {us:List V},Reps K F xs us->Reps K F' xs us
 | [],_,h=>by simpa only [Reps] using h
 |x::xs,_,h=>by
  rw [Reps]at h ⊢
  obtain⟨u,r,e,q,t⟩:=h
  exact⟨u,r,e,Rep.mono s x q,Reps.mono s xs t⟩
end
theorem Reps.nil:Reps K F [] []:=by rw [Reps]
theorem Reps.cons{x:PV}{xs:List PV}{u:V}{us:List V}(h:Rep K F x u)(t:Reps K F xs us):Reps K F (x::xs) (u::us):=by
 rw [Reps];exact⟨u,us,rfl,h,t⟩
theorem Reps.length:∀{xs:List PV}{us:List V},Reps K F xs us->xs.length=us.length
 | [],_,h=>by rw [Reps]at h;subst h;rfl
 |x::xs,_,h=>by
  rw [Reps]at h
  obtain⟨u,r,e,_,t⟩:=h
  subst e
  simp [Reps.length t]
theorem Reps.get:∀{xs:List PV}{us:List V}{i:Nat}{x:PV},Reps K F xs us->xs[i]?=some x->∃u,us[i]?=some u/\Rep K F x u
 | [],_,_,_,_,e=>by simp at e
 |x::xs,_,i,y,h,e=>by
  rw [Reps]at h
  obtain⟨u,r,rfl,q,t⟩:=h
  cases i with
  |zero=>simp at e;subst e;exact⟨u,by simp,q⟩
  |succ i=>obtain⟨w,h1,h2⟩:=Reps.get (i:=i) t (by simpa using e);exact⟨w,by simpa using h1,h2⟩
theorem Reps.get':∀{xs:List PV}{us:List V}{i:Nat}{u:V},Reps K F xs us->us[i]?=some u->∃x,xs[i]?=some x/\Rep K F x u
 | [],_,i,_,h,e=>by rw [Reps]at h;subst h;simp at e
 |x::xs,_,i,y,h,e=>by
  rw [Reps]at h
  obtain⟨u,r,rfl,q,t⟩:=h
  cases i with
  |zero=>simp at e;subst e;exact⟨x,by simp,q⟩
  |succ i=>obtain⟨w,h1,h2⟩:=Reps.get' (i:=i) t (by simpa using e);exact⟨w,by simpa using h1,h2⟩
theorem Reps.append:∀{xs ys:List PV}{us ws:List V},Reps K F xs us->Reps K F ys ws->Reps K F (xs++ys) (us++ws)
 | [],_,_,_,h,g=>by rw [Reps]at h;subst h;exact g
 |x::xs,_,_,_,h,g=>by
  rw [Reps]at h
  obtain⟨u,r,rfl,q,t⟩:=h
  exact .cons q (Reps.append t g)
theorem Reps.snoc{xs:List PV}{us:List V}{x:PV}{u:V}(h:Reps K F xs us)(g:Rep K F x u):Reps K F (xs ++ [x]) (us ++ [u]):=h.append (.cons g .nil)
theorem Reps.take:∀{xs:List PV}{us:List V} (n:Nat),Reps K F xs us->Reps K F (xs.take n) (us.take n)
 | _,_,0,_=>by simpa using Reps.nil
 | [],_,n+1,h=>by rw [Reps]at h;subst h;simpa using Reps.nil
 |x::xs,_,n+1,h=>by
  rw [Reps]at h
  obtain⟨u,r,rfl,q,t⟩:=h
  exact .cons q (Reps.take n t)
theorem Reps.drop:∀{xs:List PV}{us:List V} (n:Nat),Reps K F xs us->Reps K F (xs.drop n) (us.drop n)
 | _,_,0,h=>h
 | [],_,n+1,h=>by rw [Reps]at h;subst h;simpa using Reps.nil
 |x::xs,_,n+1,h=>by
  rw [Reps]at h
  obtain⟨u,r,rfl,q,t⟩:=h
  exact Reps.drop n t
theorem Reps.set:∀{xs:List PV}{us:List V}{x:PV}{u:V} (n:Nat),Reps K F xs us->Rep K F x u->Reps K F (xs.set n x) (us.set n u)
 | [],_,_,_,n,h,_=>by rw [Reps]at h;subst h;simpa using Reps.nil
 |x::xs,_,_,_,0,h,g=>by
  rw [Reps]at h
  obtain⟨u,r,rfl,q,t⟩:=h
  exact .cons g t
 |x::xs,_,_,_,n+1,h,g=>by
  rw [Reps]at h
  obtain⟨u,r,rfl,q,t⟩:=h
  exact .cons q (Reps.set n t g)
theorem Reps.ints:∀{ns:List Int}{us:List V},Reps K F (ns.map .int) us->us=ns.map V.int
 | [],_,h=>by simpa [Reps] using h
 |n::ns,_,h=>by
  rw [List.map_cons,Reps]at h
  obtain⟨u,r,rfl,q,t⟩:=h
  rw [Rep]at q
  rw [q,Reps.ints t];rfl
theorem Reps.of_ints:∀(ns:List Int),Reps K F (ns.map .int) (ns.map V.int)
 | []=>.nil
 |n::ns=>.cons (by rw [Rep]) (Reps.of_ints ns)
theorem fY:∀{xs:List PV}{ns:List Int},bc xs=some ns->xs=ns.map .int
 | [],_,h=>by simp [bc]at h;subst h;rfl
 | .int i::r,ns,h=>by
  simp only [bc,Option.map_eq_some_iff]at h
  obtain⟨ms,h1,rfl⟩:=h
  rw [fY h1];rfl
 | .non::_,_,h=>by simp [bc]at h
 | .bl _::_,_,h=>by simp [bc]at h
 | .str _::_,_,h=>by simp [bc]at h
 | .tup _::_,_,h=>by simp [bc]at h
 | .lst _::_,_,h=>by simp [bc]at h
 | .dI _::_,_,h=>by simp [bc]at h
theorem oF:∀{xs:List PV}{ns:List (List Int)},e_ xs=some ns->xs=ns.map λt=>.tup (t.map .int)
 | [],_,h=>by simp [e_]at h;subst h;rfl
 | .tup i::r,ns,h=>by
  simp only [e_,Option.bind_eq_some_iff,Option.map_eq_some_iff]at h
  obtain⟨t,h0,ms,h1,rfl⟩:=h
  rw [oF h1,fY h0];rfl
 | .non::_,_,h=>by simp [e_]at h
 | .bl _::_,_,h=>by simp [e_]at h
 | .str _::_,_,h=>by simp [e_]at h
 | .int _::_,_,h=>by simp [e_]at h
 | .lst _::_,_,h=>by simp [e_]at h
 | .dI _::_,_,h=>by simp [e_]at h
theorem je:∀{xs:List PV}{ns:List Bool},bY xs=some ns->xs=ns.map .bl
 | [],_,h=>by simp [bY]at h;subst h;rfl
 | .bl i::r,ns,h=>by
  simp only [bY,Option.map_eq_some_iff]at h
  obtain⟨ms,h1,rfl⟩:=h
  rw [je h1];rfl
 | .non::_,_,h=>by simp [bY]at h
 | .int _::_,_,h=>by simp [bY]at h
 | .str _::_,_,h=>by simp [bY]at h
 | .tup _::_,_,h=>by simp [bY]at h
 | .lst _::_,_,h=>by simp [bY]at h
 | .dI _::_,_,h=>by simp [bY]at h
end
theorem cN{K:PySem.W.Frag}{H:Hp}{a:Addr}{us:List V}(h:H a=some (.tup us)):SqT K H a us:=SqT.of h
noncomputable def ba(K:PySem.W.Frag)(H:Hp)(O:List Addr)(v:PV)(u:V):Prop :=
 Rep K (af H O) v u\/(∃xs a us,v=.lst xs/\u=.ref a/\SqL K H a us/\Reps K (af H O) xs us)\/∃kvs a,v=.dI kvs/\u=.ref a/\RdD H a kvs
section
variable{K:PySem.W.Frag}{H H':Hp}{O:List Addr}
theorem ba.of{v:PV}{u:V}(h:Rep K (af H O) v u):ba K H O v u:=.inl h
theorem ba.mono(s:ac H H'){v:PV}{u:V}(h:ba K H O v u):ba K H' O v u:=by
 rcases h with h|⟨xs,a,us,e1,e2,q,r⟩|⟨kvs,a,e1,e2,q⟩
 ·exact .inl (Rep.mono (ag s) _ h)
 ·exact .inr (.inl ⟨xs,a,us,e1,e2,s.seq q,Reps.mono (ag s) _ r⟩)
 ·exact .inr (.inr ⟨kvs,a,e1,e2,ac.rdD s q⟩)
theorem ba.lst{xs:List PV}{u:V}(h:ba K H O (.lst xs) u):∃a us,u=.ref a/\SqL K H a us/\Reps K (af H O) xs us:=by
 rcases h with h|⟨ys,a,us,e1,e2,q,r⟩|⟨kvs,a,e1,e2,q⟩
 ·rw [Rep]at h
  obtain⟨a,us,e,q,r⟩:=h
  exact⟨a,us,e,(aU H O).seq q,r⟩
 ·cases e1
  exact⟨a,us,e2,q,r⟩
 ·cases e1
theorem ba.tupH{xs:List PV}{u:V}(h:ba K H O (.tup xs) u):∃a us,u=.ref a/\H a=some (.tup us)/\Reps K (af H O) xs us:=by
 rcases h with h|⟨ys,a,us,e1,e2,q,r⟩|⟨kvs,a,e1,e2,q⟩
 ·rw [Rep]at h
  obtain⟨a,us,e,q,r⟩:=h
  exact⟨a,us,e,aU H O a _ q,r⟩
 ·cases e1
 ·cases e1
theorem ba.tup{xs:List PV}{u:V}(h:ba K H O (.tup xs) u):∃a us,u=.ref a/\SqT K H a us/\Reps K (af H O) xs us:=by
 obtain⟨a,us,e,q,r⟩:=h.tupH
 exact⟨a,us,e,SqT.of q,r⟩
theorem ba.tupR{xs:List PV}{u:V}(h:ba K H O (.tup xs) u):Rep K (af H O) (.tup xs) u:=by
 rcases h with h|⟨ys,a,us,e1,e2,q,r⟩|⟨kvs,a,e1,e2,q⟩
 ·exact h
 ·cases e1
 ·cases e1
theorem ba.dI{kvs:DD}{u:V}(h:ba K H O (.dI kvs) u):∃a,u=.ref a/\RdD H a kvs:=by
 rcases h with h|⟨ys,a,us,e1,e2,q,r⟩|⟨kvs,a,e1,e2,q⟩
 ·rw [Rep]at h
  obtain⟨a,e,q⟩:=h
  exact⟨a,e,ac.rdD (aU H O) q⟩
 ·cases e1
 ·cases e1
  exact⟨a,e2,q⟩
theorem ba.int{i:Int}{u:V}(h:ba K H O (.int i) u):u=.int i:=by
 rcases h with h|⟨ys,a,us,e1,e2,q,r⟩|⟨kvs,a,e1,e2,q⟩
 ·rw [Rep]at h;exact h
 ·cases e1
 ·cases e1
theorem ba.bl{i:Bool}{u:V}(h:ba K H O (.bl i) u):u=.bl i:=by
 rcases h with h|⟨ys,a,us,e1,e2,q,r⟩|⟨kvs,a,e1,e2,q⟩
 ·rw [Rep]at h;exact h
 ·cases e1
 ·cases e1
theorem ba.str{i:Str}{u:V}(h:ba K H O (.str i) u):u=.str i:=by
 rcases h with h|⟨ys,a,us,e1,e2,q,r⟩|⟨kvs,a,e1,e2,q⟩
 ·rw [Rep]at h;exact h
 ·cases e1
 ·cases e1
theorem ba.non{u:V}(h:ba K H O .non u):u=.non:=by
 rcases h with h|⟨ys,a,us,e1,e2,q,r⟩|⟨kvs,a,e1,e2,q⟩
 ·rw [Rep]at h;exact h
 ·cases e1
 ·cases e1
theorem ba.seq{v:PV}{xs:List PV}{u:V}(h:ba K H O v u)(e:be v=some xs):∃a us,u=.ref a/\(SqL K H a us\/SqT K H a us)/\Reps K (af H O) xs us:=by
 cases v with
 |lst ys=>simp [be]at e;subst e;obtain⟨a,us,e,q,r⟩:=h.lst;exact⟨a,us,e,.inl q,r⟩
 |tup ys=>simp [be]at e;subst e;obtain⟨a,us,e,q,r⟩:=h.tup;exact⟨a,us,e,.inr q,r⟩
 | _=>simp [be]at e
theorem ba.whole{v:PV}{u:V}(h:ba K H O v u):Rep K H v u:=by
 rcases h with h|⟨xs,a,us,rfl,e2,q,r⟩|⟨kvs,a,rfl,e2,q⟩
 ·exact Rep.mono (aU H O) _ h
 ·rw [Rep];exact⟨a,us,e2,q,Reps.mono (aU H O) _ r⟩
 ·rw [Rep];exact⟨a,e2,q⟩
end
noncomputable def IsC (K:PySem.W.Frag) (C:Addr):Prop:=PySem.W.nsIn K mainGlobals "Table"=some (some (.ref C))
noncomputable def gT:List Str:=["hole_count","ribbons","opener"]
noncomputable def mB:List Str:=["hand_at","holes_taken_by","turn","deeds","knots","bites","free","rest","winner","take","back"]
structure ObF(K:PySem.W.Frag)(C:Addr)(F:Hp)(fs:List PV)(l:Addr)(gs:List (Str×V)):Prop where
 cls:IsC K C
 fld:∀(n:Nat) (x:Str) (v:PV),gT[n]?=some x->fs[n]?=some v->∃u,gs.lookup x=some u/\Rep K F v u
 lst:gs.lookup ("taken":Str)=some (.ref l)
 no:∀m∈mB,gs.lookup m=none
theorem ObF.mono{K:PySem.W.Frag}{C:Addr}{F F':Hp}{fs:List PV}{l:Addr}{gs:List (Str×V)}(s:ac F F')(h:ObF K C F fs l gs):ObF K C F' fs l gs :=
 ⟨h.cls,λn x v e1 e2=>let ⟨u,q1,q2⟩:=h.fld n x v e1 e2;⟨u,q1,Rep.mono s _ q2⟩,h.lst,h.no⟩
structure cz(K:PySem.W.Frag)(B:Hp)(O:List Addr)(H:Hp)(fs xs:List PV)(a l:Addr):Prop where
 ob:∃C dx gs,H a=some (.ins C dx gs)/\ObF K C (af H O) fs l gs
 li:∃us,H l=some (.lst us)/\Reps K (af H O) xs us
 aO:a∈O
 lO:l∈O
 aB:B a=none
 lB:B l=none
 ne:a≠l
theorem cz.move{K:PySem.W.Frag}{B B' H H':Hp}{O O':List Addr}{fs xs:List PV}{a l:Addr}(h:cz K B O H fs xs a l)(v:ac (af H O) (af H' O'))(ha:∀o,H a=some o->H' a=some o)(hl:∀o,H l=some o->H' l=some o)(aO:a∈O')(lO:l∈O')(aB:B' a=none)(lB:B' l=none):cz K B' O' H' fs xs a l:=by
 obtain⟨C,dx,gs,e1,q1⟩:=h.ob
 obtain⟨us,e2,q2⟩:=h.li
 exact⟨⟨C,dx,gs,ha _ e1,q1.mono v⟩,⟨us,hl _ e2,Reps.mono v _ q2⟩,aO,lO,aB,lB,h.ne⟩
noncomputable def dN(K:PySem.W.Frag)(B F:Hp)(fs xs:List PV)(a:Addr):Prop:=∃C dx gs l us,B a=some (.ins C dx gs)/\ObF K C F fs l gs/\SqL K B l us/\Reps K F xs us
theorem dN.move{K:PySem.W.Frag}{B B' F F':Hp}{fs xs:List PV}{a:Addr}(h:dN K B F fs xs a)(b:ac B B')(v:ac F F'):dN K B' F' fs xs a:=by
 obtain⟨C,dx,gs,l,us,e1,q1,e2,q2⟩:=h
 exact⟨C,dx,gs,l,us,b _ _ e1,q1.mono v,b.seq e2,Reps.mono v _ q2⟩
theorem cz.lent{K:PySem.W.Frag}{B H:Hp}{O:List Addr}{fs xs:List PV}{a l:Addr}(h:cz K B O H fs xs a l):dN K H (af H O) fs xs a:=by
 obtain⟨C,dx,gs,e1,q1⟩:=h.ob
 obtain⟨us,e2,q2⟩:=h.li
 exact⟨C,dx,gs,l,us,e1,q1,SqL.of e2,q2⟩
noncomputable def lOf:Option HO->Option Addr
 |some (.ins _ _ gs)=>(match gs.lookup ("taken":Str) with|some (.ref l)=>some l|_=>none)
 | _=>none
theorem cz.l{K:PySem.W.Frag}{B H:Hp}{O:List Addr}{fs xs:List PV}{a l:Addr}(h:cz K B O H fs xs a l):lOf (H a)=some l:=by
 obtain⟨C,dx,gs,e1,q1⟩:=h.ob
 rw [e1]
 show(match gs.lookup ("taken":Str) with|some (.ref l)=>some l|_=>none)=some l
 rw [q1.lst]
noncomputable abbrev DAt(_:PySem.W.Frag)(H:Hp)(_:List Addr)(a:Addr)(d:DD):Prop:=H a=some (jO d)
theorem DAt.here{K:PySem.W.Frag}{H:Hp}{O:List Addr}{a:Addr}{d:DD}(h:DAt K H O a d):∃o,H a=some o:=⟨_,h⟩
theorem DAt.put1{K:PySem.W.Frag}{H:Hp}{O:List Addr}{a:Addr}{d d':DD}{y:PV}{s:Sc}(_:pY d y s=some d')(h:DAt K H O a d):H a=some (jO d):=h
theorem DAt.put2{K:PySem.W.Frag}{H:Hp}{O:List Addr}{a:Addr}{d d':DD}{y:PV}{s:Sc}(_:pY d y s=some d')(h:H a=some (jO d')):DAt K H O a d':=h
theorem DAt.move{K:PySem.W.Frag}{H H':Hp}{O O':List Addr}{a:Addr}{d:DD}(h:DAt K H O a d)(e:∀o,H a=some o->H' a=some o)(_:ac (af H O) (af H' O')):DAt K H' O' a d:=e _ h
noncomputable def da(K:PySem.W.Frag)(B:Hp)(O:List Addr)(H:Hp):MV->V->Prop
 | .val v,u=>Rep K (af H O) v u
 | .own xs,u=>∃a us,u=.ref a/\H a=some (.lst us)/\Reps K (af H O) xs us/\a∈O/\B a=none
 | .brw xs,u=>∃a us,u=.ref a/\SqL K B a us/\Reps K (af H O) xs us
 | .ownD kvs,u=>∃a,u=.ref a/\DAt K H O a kvs/\a∈O/\B a=none
 | .ownO _ fs xs,u=>∃a l,u=.ref a/\cz K B O H fs xs a l
 | .brwO fs xs,u=>∃a,u=.ref a/\dN K B (af H O) fs xs a
 | .brwD kvs,u=>∃a,u=.ref a/\Rd B a (jO kvs)
noncomputable def db:MV->Bool
 | .own _=>true
 | .ownD _=>true
 | .ownO _ _ _=>true
 | _=>false
noncomputable def xR(H:Hp)(ρ:Rho)(σ:St):Prop:=∀(i:Nat) (m0:MV) (a l:Addr),ρ[i]?=some (some m0)->isL m0=true->σ[i]?=some (some (.ref a))->lOf (H a)=some l->∀(j:Nat) (m:MV),j≠i->ρ[j]?=some (some m)->isL m=false/\∀c,db m=true->σ[j]?=some (some (.ref c))->c≠l
theorem kZ{H:Hp}{ρ:Rho}{σ:St}(h:∀(i:Nat) (m:MV),ρ[i]?=some (some m)->isL m=false):xR H ρ σ:=λi m _ _ e l=>by rw [h i m e]at l;cases l
theorem c7{H H':Hp}{ρ ρ':Rho}{σ σ':St}(h:xR H ρ σ)(hL:∀(i:Nat) (m0:MV),ρ'[i]?=some (some m0)->isL m0=true->(∃m1,ρ[i]?=some (some m1)/\isL m1=true)/\σ'[i]?=σ[i]?/\∀a l,σ[i]?=some (some (.ref a))->lOf (H' a)=some l->lOf (H a)=some l)
  (hj:∀(j:Nat) (m:MV) (c:Addr),ρ'[j]?=some (some m)->isL m=false->db m=true->σ'[j]?=some (some (.ref c))->(∃m0,ρ[j]?=some (some m0)/\db m0=true/\σ[j]?=some (some (.ref c)))\/∀(i:Nat) (m1:MV) (a l:Addr),ρ[i]?=some (some m1)->isL m1=true->σ[i]?=some (some (.ref a))->lOf (H a)=some l->c≠l):xR H' ρ' σ':=λi m0 a l e1 l0 e2 e3 j m hji e4=>by
 obtain⟨⟨m1,f1,l1⟩,f2,f3⟩:=hL i m0 e1 l0
 rw [f2]at e2
 have f4:=f3 a l e2 e3
 have hl:isL m=false:=by
  cases q:isL m with
  |false=>rfl
  |true =>
   obtain⟨⟨m2,g1,g2⟩,_⟩:=hL j m e4 q
   rw [(h i m1 a l f1 l1 e2 f4 j m2 hji g1).1]at g2
   cases g2
 refine⟨hl,λc o e5=>?_⟩
 rcases hj j m c e4 hl o e5 with ⟨m0,g1,g2,g3⟩|g
 ·exact(h i m1 a l f1 l1 e2 f4 j m0 hji g1).2 c g2 g3
 ·exact g i m1 a l f1 l1 e2 f4
structure aF(K:PySem.W.Frag)(B:Hp)(O₀ O:List Addr)(H:Hp)(ρ:Rho)(σ:St):Prop where
 keep:ac B H
 here:∀a∈O,H a≠none
 sub:∀a∈O₀,a∈O
 old:∀a∈O₀,B a≠none
 len:ρ.length=σ.length
 slot:∀(i:Nat) (m:MV),ρ[i]?=some (some m)->∃u,σ[i]?=some (some u)/\da K B O H m u
 apart:∀(i j:Nat) (m m':MV) (a:Addr),i≠j->ρ[i]?=some (some m)->ρ[j]?=some (some m')->db m=true->db m'=true->σ[i]?=some (some (.ref a))->σ[j]?≠some (some (.ref a))
 inn:xR H ρ σ
section
variable{K:PySem.W.Frag}{B H H':Hp}{O₀ O:List Addr}{ρ:Rho}{σ:St}
theorem da.mono(s:ac H H'){m:MV}{u:V}(h:da K B O H m u):da K B O H' m u:=by
 cases m with
 |val v=>exact Rep.mono (ag s) _ h
 |own xs=>obtain⟨a,us,e,q,r,h1,h2⟩:=h;exact⟨a,us,e,s _ _ q,Reps.mono (ag s) _ r,h1,h2⟩
 |brw xs=>obtain⟨a,us,e,q,r⟩:=h;exact⟨a,us,e,q,Reps.mono (ag s) _ r⟩
 |ownD kvs=>obtain⟨a,e,q,h1,h2⟩:=h;exact⟨a,e,q.move (s _) (ag s),h1,h2⟩
 |ownO _ fs xs=>obtain⟨a,l,e,q⟩:=h;exact⟨a,l,e,q.move (ag s) (λ_=>s _ _) (λ_=>s _ _) q.aO q.lO q.aB q.lB⟩
 |brwO fs xs=>obtain⟨a,e,q⟩:=h;exact⟨a,e,q.move (ac.refl B) (ag s)⟩
 |brwD kvs=>exact h
theorem aF.mono(s:ac H H')(h:aF K B O₀ O H ρ σ):aF K B O₀ O H' ρ σ where
 keep:=h.keep.trans s
 here:=λa ha e=>h.here a ha (s.free e)
 sub:=h.sub
 old:=h.old
 len:=h.len
 slot:=λi m e=>let ⟨u,e1,q⟩:=h.slot i m e;⟨u,e1,q.mono s⟩
 apart:=h.apart
 inn:=c7 h.inn (λi m0 e l0=>⟨⟨m0,e,l0⟩,rfl,λa l e1 e2=>by
  obtain⟨u,e3,q⟩:=h.slot i _ e
  rw [e1]at e3
  cases e3
  cases m0<;>try (cases l0;done)
  obtain⟨a',l',e4,q⟩:=q
  cases e4
  obtain⟨C,dx,gs,e5,_⟩:=q.ob
  rw [s _ _ e5]at e2
  rw [e5]
  exact e2⟩) λj m c e _ o e1=>.inl ⟨m,e,o,e1⟩
theorem da.bor{m:MV}{u:V}{v:PV}(hB:ac B H)(h:da K B O H m u)(e:bj (some m)=some v):ba K H O v u:=by
 cases m with
 |val w=>simp [bj]at e;subst e;exact .inl h
 |own xs=>simp [bj]at e;subst e;obtain⟨a,us,e,q,r,_⟩:=h;exact .inr (.inl ⟨xs,a,us,rfl,e,SqL.of q,r⟩)
 |brw xs=>simp [bj]at e;subst e;obtain⟨a,us,e,q,r⟩:=h;exact .inr (.inl ⟨xs,a,us,rfl,e,hB.seq q,r⟩)
 |ownD kvs=>simp [bj]at e;subst e;obtain⟨a,e,q,_⟩:=h;exact .inr (.inr ⟨kvs,a,rfl,e,.inl q⟩)
 |ownO _ _ _=>simp [bj]at e
 |brwO _ _=>simp [bj]at e
 |brwD kvs=>simp [bj]at e;subst e;obtain⟨a,e,q⟩:=h;exact .inr (.inr ⟨kvs,a,rfl,e,ac.rd hB q⟩)
end
theorem bB{α:Type}{o:Option (Option α)}{x:α}(h:o.join=some x):o=some (some x):=by
 cases o with
 |none=>simp at h
 |some y=>cases y with
  |none=>simp at h
  |some z=>simp at h;rw [h]
end MM
namespace MM
open PySem PySem.Spec PyProof.Rows L2
structure Tab where
 fs:List Str
 gs:List (Str×PV)
 ds:List (List Sc)
 ms:List (Option Str)
noncomputable def Af(sc:Scope)(x:Str):Bool:=sc.names.lookup x == some .local || sc.names.lookup x == some .cell || sc.names.lookup x == some .free
noncomputable def fc(sc:Scope)(x:Str):Bool:=sc.names.lookup x == some .local || sc.names.lookup x == some .cell
noncomputable def glB(sc:Scope)(x:Str):Bool:=sc.names.lookup x == some .globalImplicit
noncomputable def ay (x:Str):Bool:=!(x == ("__debug__":Str))&&!(x == ("__classdict__":Str))&&!(x == ("__name__":Str))
noncomputable def ar(N:List Str)(sc:Scope)(i:Nat)(x:Str):Bool:=N[i]? == some x&&Af sc x&&ay x
noncomputable def onQ{α:Type}:Option α->(α->Bool)->Bool
 |some a,f=>f a
 |none,_=>false
theorem al{α:Type}{o:Option α}{f:α->Bool}(h:onQ o f=true):∃a,o=some a/\f a=true:=by
 cases o with
 |none=>cases h
 |some a=>exact⟨a,rfl,h⟩
theorem fQ{α:Type}{P:Prop}{x:α}(h:none=some x):P:=by cases h
theorem bZ{α β:Type}{o:Option α}{f:α->Option β}{b:β}(h:o.bind f=some b):∃a,o=some a/\f a=some b:=Option.bind_eq_some_iff.mp h
noncomputable def okQ{α:Type}(b:Bool)(x:α):Option α:=if b=true then some x else none
theorem k4{α:Type}{b:Bool}{x y:α}(h:okQ b x=some y):b=true/\x=y:=by
 cases b with
 |false=>cases h
 |true=>cases h;exact⟨rfl,rfl⟩
noncomputable def jP{α:Type}:List α->Option α
 | [x]=>some x
 | _=>none
theorem cA{α:Type}{l:List α}{x:α}(h:jP l=some x):l=[x]:=by
 rcases l with _|⟨a,_|⟨b,l⟩⟩<;>cases h
 rfl
noncomputable def xS{α:Type}:List α->Option (α×α)
 | [x,y]=>some (x,y)
 | _=>none
theorem nk{α:Type}{l:List α}{q:α×α}(h:xS l=some q):l=[q.1,q.2]:=by
 rcases l with _|⟨a,_|⟨b,_|⟨c,l⟩⟩⟩<;>cases h
 rfl
structure Vw where
 nmP:Option (Str×Pos)
 caP:Option (Expr×List Expr×List Keyword×Pos)
 atP:Option (Expr×Str×Pos)
 biP:Option (Expr×Operator×Expr×Pos)
 suP:Option (Expr×Expr×Pos)
 lcP:Option (Expr×List Comprehension×Scope×Pos)
 coP:Option (Expr×List CmpOp×List Expr×Pos)
 ctP:Option (Const×Nat×Pos)
 tuP:Option (List Expr×Nat×Pos)
 liP:Option (List Expr×Pos)
 unP:Option (UnaryOp×Expr×Pos)
 boP:Option (BoolOp×List Expr×Pos)
 ifP:Option (Expr×Expr×Expr×Pos)
 slP:Option (Option Expr×Option Expr×Option Expr×Pos)
 diP:Option (List (Option Expr)×List Expr×Pos)
noncomputable def vw:Expr->Vw
 | .Name x p=>⟨some (x,p),none,none,none,none,none,none,none,none,none,none,none,none,none,none⟩
 | .Call f as ks p=>⟨none,some (f,as,ks,p),none,none,none,none,none,none,none,none,none,none,none,none,none⟩
 | .Attribute o m p=>⟨none,none,some (o,m,p),none,none,none,none,none,none,none,none,none,none,none,none⟩
 | .BinOp l o r p=>⟨none,none,none,some (l,o,r,p),none,none,none,none,none,none,none,none,none,none,none⟩
 | .Subscript v s p=>⟨none,none,none,none,some (v,s,p),none,none,none,none,none,none,none,none,none,none⟩
 | .ListComp e g s p=>⟨none,none,none,none,none,some (e,g,s,p),none,none,none,none,none,none,none,none,none⟩
 | .Compare l o r p=>⟨none,none,none,none,none,none,some (l,o,r,p),none,none,none,none,none,none,none,none⟩
 | .Constant c j p=>⟨none,none,none,none,none,none,none,some (c,j,p),none,none,none,none,none,none,none⟩
 | .Tuple xs j p=>⟨none,none,none,none,none,none,none,none,some (xs,j,p),none,none,none,none,none,none⟩
 | .List xs p=>⟨none,none,none,none,none,none,none,none,none,some (xs,p),none,none,none,none,none⟩
 | .UnaryOp o e p=>⟨none,none,none,none,none,none,none,none,none,none,some (o,e,p),none,none,none,none⟩
 | .BoolOp o vs p=>⟨none,none,none,none,none,none,none,none,none,none,none,some (o,vs,p),none,none,none⟩
 | .IfExp t x y p=>⟨none,none,none,none,none,none,none,none,none,none,none,none,some (t,x,y,p),none,none⟩
 | .Slice l u s p=>⟨none,none,none,none,none,none,none,none,none,none,none,none,none,some (l,u,s,p),none⟩
 | .Dict ks vs p=>⟨none,none,none,none,none,none,none,none,none,none,none,none,none,none,some (ks,vs,p)⟩
 | _=>⟨none,none,none,none,none,none,none,none,none,none,none,none,none,none,none⟩
noncomputable def nmP(e:Expr):Option (Str×Pos):=(vw e).nmP
theorem cO{e:Expr}{q:Str×Pos}(h:nmP e=some q):e=.Name q.1 q.2:=by
 revert h
 cases e<;>first|exact fQ|(rintro ⟨⟩;rfl)
noncomputable def caP(e:Expr):Option (Expr×List Expr×List Keyword×Pos):=(vw e).caP
theorem vd{e:Expr}{q:Expr×List Expr×List Keyword×Pos}(h:caP e=some q):e=.Call q.1 q.2.1 q.2.2.1 q.2.2.2:=by
 revert h
 cases e<;>first|exact fQ|(rintro ⟨⟩;rfl)
noncomputable def atP(e:Expr):Option (Expr×Str×Pos):=(vw e).atP
theorem Ag{e:Expr}{q:Expr×Str×Pos}(h:atP e=some q):e=.Attribute q.1 q.2.1 q.2.2:=by
 revert h
 cases e<;>first|exact fQ|(rintro ⟨⟩;rfl)
noncomputable def biP(e:Expr):Option (Expr×Operator×Expr×Pos):=(vw e).biP
theorem Ah{e:Expr}{q:Expr×Operator×Expr×Pos}(h:biP e=some q):e=.BinOp q.1 q.2.1 q.2.2.1 q.2.2.2:=by
 revert h
 cases e<;>first|exact fQ|(rintro ⟨⟩;rfl)
noncomputable def suP(e:Expr):Option (Expr×Expr×Pos):=(vw e).suP
theorem nq{e:Expr}{q:Expr×Expr×Pos}(h:suP e=some q):e=.Subscript q.1 q.2.1 q.2.2:=by
 revert h
 cases e<;>first|exact fQ|(rintro ⟨⟩;rfl)
noncomputable def lcP(e:Expr):Option (Expr×List Comprehension×Scope×Pos):=(vw e).lcP
theorem nu{e:Expr}{q:Expr×List Comprehension×Scope×Pos}(h:lcP e=some q):e=.ListComp q.1 q.2.1 q.2.2.1 q.2.2.2:=by
 revert h
 cases e<;>first|exact fQ|(rintro ⟨⟩;rfl)
noncomputable def coP(e:Expr):Option (Expr×List CmpOp×List Expr×Pos):=(vw e).coP
theorem Ai{e:Expr}{q:Expr×List CmpOp×List Expr×Pos}(h:coP e=some q):e=.Compare q.1 q.2.1 q.2.2.1 q.2.2.2:=by
 revert h
 cases e<;>first|exact fQ|(rintro ⟨⟩;rfl)
noncomputable def ctP(e:Expr):Option (Const×Nat×Pos):=(vw e).ctP
theorem Aj{e:Expr}{q:Const×Nat×Pos}(h:ctP e=some q):e=.Constant q.1 q.2.1 q.2.2:=by
 revert h
 cases e<;>first|exact fQ|(rintro ⟨⟩;rfl)
noncomputable def tuP(e:Expr):Option (List Expr×Nat×Pos):=(vw e).tuP
theorem ve{e:Expr}{q:List Expr×Nat×Pos}(h:tuP e=some q):e=.Tuple q.1 q.2.1 q.2.2:=by
 revert h
 cases e<;>first|exact fQ|(rintro ⟨⟩;rfl)
noncomputable def liP(e:Expr):Option (List Expr×Pos):=(vw e).liP
theorem pZ{e:Expr}{q:List Expr×Pos}(h:liP e=some q):e=.List q.1 q.2:=by
 revert h
 cases e<;>first|exact fQ|(rintro ⟨⟩;rfl)
noncomputable def unP(e:Expr):Option (UnaryOp×Expr×Pos):=(vw e).unP
theorem Ak{e:Expr}{q:UnaryOp×Expr×Pos}(h:unP e=some q):e=.UnaryOp q.1 q.2.1 q.2.2:=by
 revert h
 cases e<;>first|exact fQ|(rintro ⟨⟩;rfl)
noncomputable def boP(e:Expr):Option (BoolOp×List Expr×Pos):=(vw e).boP
theorem vf{e:Expr}{q:BoolOp×List Expr×Pos}(h:boP e=some q):e=.BoolOp q.1 q.2.1 q.2.2:=by
 revert h
 cases e<;>first|exact fQ|(rintro ⟨⟩;rfl)
noncomputable def ifP(e:Expr):Option (Expr×Expr×Expr×Pos):=(vw e).ifP
theorem Al{e:Expr}{q:Expr×Expr×Expr×Pos}(h:ifP e=some q):e=.IfExp q.1 q.2.1 q.2.2.1 q.2.2.2:=by
 revert h
 cases e<;>first|exact fQ|(rintro ⟨⟩;rfl)
noncomputable def slP(e:Expr):Option (Option Expr×Option Expr×Option Expr×Pos):=(vw e).slP
theorem Am{e:Expr}{q:Option Expr×Option Expr×Option Expr×Pos}(h:slP e=some q):e=.Slice q.1 q.2.1 q.2.2.1 q.2.2.2:=by
 revert h
 cases e<;>first|exact fQ|(rintro ⟨⟩;rfl)
noncomputable def asP:Stmt->Option (List Expr×Expr×Pos)
 | .Assign ts v p=>some (ts,v,p)
 | _=>none
theorem vg{s:Stmt}{q:List Expr×Expr×Pos}(h:asP s=some q):s=.Assign q.1 q.2.1 q.2.2:=by
 revert h
 cases s<;>first|exact fQ|(rintro ⟨⟩;rfl)
noncomputable def sN(e:Expr):Option (Str×List Expr):=(caP e).bind λc=>(nmP c.1).bind λx=>okQ c.2.2.1.isEmpty (x.1,c.2.1)
theorem gq{e:Expr}{q:Str×List Expr}(h:sN e=some q):∃p cp,e=.Call (.Name q.1 p) q.2 [] cp:=by
 obtain⟨c,h1,h⟩:=bZ h
 obtain⟨x,h2,h⟩:=bZ h
 obtain⟨h3,rfl⟩:=k4 h
 exact⟨_,_,by rw [vd h1,cO h2,List.isEmpty_iff.mp h3]⟩
noncomputable def An(e:Expr):Option (Str×Expr):=(sN e).bind λc=>(jP c.2).bind λa=>some (c.1,a)
theorem qR{e:Expr}{q:Str×Expr}(h:An e=some q):∃p cp,e=.Call (.Name q.1 p) [q.2] [] cp:=by
 obtain⟨c,h1,h⟩:=bZ h
 obtain⟨a,h2,h⟩:=bZ h
 cases h
 obtain⟨p,cp,rfl⟩:=gq h1
 exact⟨p,cp,by rw [cA h2]⟩
noncomputable def maP(e:Expr):Option (Expr×Str×Pos×List Expr×Pos):=(caP e).bind λc=>(atP c.1).bind λa=>okQ c.2.2.1.isEmpty (a.1,a.2.1,a.2.2,c.2.1,c.2.2.2)
theorem vh{e:Expr}{q:Expr×Str×Pos×List Expr×Pos}(h:maP e=some q):e=.Call (.Attribute q.1 q.2.1 q.2.2.1) q.2.2.2.1 [] q.2.2.2.2:=by
 obtain⟨c,h1,h⟩:=bZ h
 obtain⟨x,h2,h⟩:=bZ h
 obtain⟨h3,rfl⟩:=k4 h
 rw [vd h1,Ag h2,List.isEmpty_iff.mp h3]
noncomputable def maN(e:Expr):Option (Str×Str×Pos×List Expr×Pos):=(maP e).bind λa=>(nmP a.1).bind λx=>some (x.1,a.2.1,a.2.2.1,a.2.2.2.1,a.2.2.2.2)
theorem vi{e:Expr}{q:Str×Str×Pos×List Expr×Pos}(h:maN e=some q):∃p,e=.Call (.Attribute (.Name q.1 p) q.2.1 q.2.2.1) q.2.2.2.1 [] q.2.2.2.2:=by
 obtain⟨c,h1,h⟩:=bZ h
 obtain⟨x,h2,h⟩:=bZ h
 cases h
 exact⟨x.2,by rw [vh h1,cO h2]⟩
noncomputable def sO(e:Expr):Option (Expr×CmpOp×Expr):=(coP e).bind λc=>(jP c.2.1).bind λo=>(jP c.2.2.1).bind λr=>some (c.1,o,r)
theorem nv{e:Expr}{q:Expr×CmpOp×Expr}(h:sO e=some q):∃pos,e=.Compare q.1 [q.2.1] [q.2.2] pos:=by
 obtain⟨c,h1,h⟩:=bZ h
 obtain⟨x,h2,h⟩:=bZ h
 obtain⟨y,h3,h⟩:=bZ h
 cases h
 exact⟨c.2.2.2,by rw [Ai h1,cA h2,cA h3]⟩
noncomputable def CF(e:Expr):Option (Expr×Option Expr×Option Expr):=(suP e).bind λc=>(slP c.2.1).bind λs=>okQ s.2.2.1.isNone (c.1,s.1,s.2.1)
theorem xT{e:Expr}{q:Expr×Option Expr×Option Expr}(h:CF e=some q):∃p pos,e=.Subscript q.1 (.Slice q.2.1 q.2.2 none p) pos:=by
 obtain⟨c,h1,h⟩:=bZ h
 obtain⟨x,h2,h⟩:=bZ h
 obtain⟨h3,rfl⟩:=k4 h
 exact⟨_,_,by rw [nq h1,Am h2,Option.isNone_iff_eq_none.mp h3]⟩
noncomputable def lcX(e:Expr):Option (Expr×Scope×(Str×Pos)×Expr×List Expr):=(lcP e).bind λc=>(jP c.2.1).bind λg=>(nmP g.target).bind λx=>okQ (g.is_async == 0) (c.1,c.2.2.1,x,g.iter,g.ifs)
theorem Ao{e:Expr}{q:Expr×Scope×(Str×Pos)×Expr×List Expr}(h:lcX e=some q):∃pos,e=.ListComp q.1 [⟨.Name q.2.2.1.1 q.2.2.1.2,q.2.2.2.1,q.2.2.2.2,0⟩] q.2.1 pos:=by
 obtain⟨c,h1,h⟩:=bZ h
 obtain⟨⟨tg,it,is,as⟩,h2,h⟩:=bZ h
 obtain⟨x,h3,h⟩:=bZ h
 obtain⟨h4,rfl⟩:=k4 h
 exact⟨c.2.2.2,by rw [nu h1,cA h2,cO (e:=tg) h3,show as=0 from eq_of_beq h4]⟩
noncomputable def diP(e:Expr):Option (List (Option Expr)×List Expr×Pos):=(vw e).diP
theorem Ap{e:Expr}{q:List (Option Expr)×List Expr×Pos}(h:diP e=some q):e=.Dict q.1 q.2.1 q.2.2:=by
 revert h
 cases e<;>first|exact fQ|(rintro ⟨⟩;rfl)
noncomputable def exP:Stmt->Option (Expr×Pos)
 | .Expr e p=>some (e,p)
 | _=>none
theorem Aq{s:Stmt}{q:Expr×Pos}(h:exP s=some q):s=.Expr q.1 q.2:=by
 revert h
 cases s<;>first|exact fQ|(rintro ⟨⟩;rfl)
noncomputable def reP:Stmt->Option (Option Expr×Pos)
 | .Return v p=>some (v,p)
 | _=>none
theorem Ar{s:Stmt}{q:Option Expr×Pos}(h:reP s=some q):s=.Return q.1 q.2:=by
 revert h
 cases s<;>first|exact fQ|(rintro ⟨⟩;rfl)
noncomputable def aI:ME->Bool
 | .bor _=>true
 | .fldL _=>true
 | _=>false
theorem p_{m:ME}(h:aI m=true):(∃i,m=.bor i)\/∃i,m=.fldL i:=by
 cases m<;>first|(cases h;done)|exact .inl ⟨_,rfl⟩|exact .inr ⟨_,rfl⟩
noncomputable def k5:Expr->Option (Str×Str)
 | .Attribute (.Name y _) m _=>some (y,m)
 | _=>none
theorem iC{e:Expr}{q:Str×Str}(h:k5 e=some q):∃p ap,e=.Attribute (.Name q.1 p) q.2 ap:=by
 unfold k5 at h
 split at h
 ·cases h;exact⟨_,_,rfl⟩
 ·cases h
noncomputable def xU(e:Expr):Option (Str×Str×List Expr×Pos×Pos):=(maN e).bind λa=>some (a.1,a.2.1,a.2.2.2.1,a.2.2.1,a.2.2.2.2)
theorem qS{e:Expr}{q:Str×Str×List Expr×Pos×Pos}(h:xU e=some q):∃p,e=.Call (.Attribute (.Name q.1 p) q.2.1 q.2.2.2.1) q.2.2.1 [] q.2.2.2.2:=by
 obtain⟨x,h1,h⟩:=bZ h
 cases h
 exact vi h1
noncomputable def vj(N:List Str)(sc:Scope)(ms:List (Option Str))(f i:Nat)(ck:List Expr->Bool)(q:Str×Str×List Expr×Pos×Pos):Bool:=ms[f]? == some (some q.2.1)&&mB.contains q.2.1&&ar N sc i q.1&&ck q.2.2.1&&q.2.2.2.1.endLine == q.2.2.2.2.line&&decide (q.2.2.1.length<30)
noncomputable def As:Op2->Operator
 | .add=>.Add|.sub=>.Sub|.mul=>.Mult|.fdiv=>.FloorDiv|.mod=>.Mod|.pow=>.Pow|.shr=>.RShift
noncomputable def fB:Cp->CmpOp
 | .eq=>.Eq|.ne=>.NotEq|.lt=>.Lt|.le=>.LtE|.gt=>.Gt|.ge=>.GtE|.isN=>.Is|.notN=>.IsNot|.isIn=>.In|.notIn=>.NotIn
noncomputable def qa:PV->Const->Bool
 | .non,.none=>true
 | .bl a,.bool b=>a == b
 | .int a,.int b=>a == b
 | .str a,.str b=>a == b
 | _,_=>false
noncomputable def y_:PV->PV->Bool
 | .non,.non=>true
 | .bl a,.bl b=>a == b
 | .int a,.int b=>a == b
 | .str a,.str b=>a == b
 | _,_=>false
noncomputable def vk(gs:List (Str×PV))(x:Str)(v:PV):Bool:=gs.any λp=>p.1 == x&&y_ p.2 v
noncomputable def aq:Expr->Bool
 | .Starred ..=>false
 | _=>true
noncomputable def dO:Expr->Bool
 | .Set ..=>false
 | _=>true
noncomputable def cB:Expr->Bool
 | .Slice ..=>false
 | _=>true
noncomputable def cf:Expr->Bool
 | .ListComp ..=>false
 | .SetComp ..=>false
 | .DictComp ..=>false
 | _=>true
noncomputable def jf:Expr->Bool
 | .UnaryOp .Not _ _=>false
 | .BoolOp ..=>false
 | .IfExp ..=>false
 | .Compare ..=>false
 | _=>true
noncomputable def oG:Blt->String
 | .len=>"len" | .tupleOf=>"tuple" | .listOf=>"list" | .sorted=>"sorted" | .any=>"any" | .all=>"all" | .sum=>"sum" | .max1=>"max" | .min1=>"min" | .max2=>"max" | .min2=>"min"
 | .intOf=>"int" | .boolOf=>"bool" | .isInt=>"isinstance" | .isBool=>"isinstance" | .isStr=>"isinstance" | .isList=>"isinstance" | .isTuple=>"isinstance" | .sortedKeys=>"sorted" | .valuesOf=>"list" | .sortedSet=>"sorted" | .lenSet=>"len" | .lenSetSub=>"len" | .tupleRev=>"tuple"
noncomputable def cD:Blt->Option String
 | .isInt=>some "int" | .isBool=>some "bool" | .isStr=>some "str" | .isList=>some "list" | .isTuple=>some "tuple"
 | _=>none
noncomputable def jg:Blt->Option Nat
 | .len|.tupleOf|.listOf|.sorted|.any|.all|.sum|.intOf|.boolOf|.max1|.sortedKeys=>some 1
 | .max2|.min2=>some 2
 | _=>none
noncomputable def iD(osc:Scope)(N:List Str)(scope:Scope)(x:Str)(fvs:List Str)(js:List Nat):Bool :=
 decide (∀y∈scope.names,y.2=.cell->y.1=x)&&decide (scope.names.lookup x=some .local/\(scope.names.filter λy=>y.2 == .cell)=[]\/scope.names.lookup x=some .cell/\(scope.names.filter λy=>y.2 == .cell)=[(x,.cell)])
 &&decide (∀y∈scope.names,y.2=.free->y.1≠x)&&scope.kind == .function&&decide (∀y∈scope.names,y.2=.local->scope.names.lookup y.1=some .local)
 &&decide ((x::fvs).Nodup)&&decide (∀y∈scope.names,y.2=.free->osc.names.lookup y.1=some .cell\/osc.names.lookup y.1=some .free)&&decide ((js.map λj=>N[j]?)=fvs.map some)
 &&decide (∀y∈fvs,scope.names.lookup y=some .free)
noncomputable def bp(N:List Str)(js:List Nat):List Str:=js.map λj=>(N[j]?).getD Str.empty
noncomputable def ff(osc:Scope)(N:List Str)(scope:Scope)(x y:Str)(fvs:List Str)(js:List Nat):Bool :=
 decide ((scope.names.filter λy=>y.2 == .cell)=[])&&decide (scope.names.lookup x=some .local)&&decide (scope.names.lookup y=some .local)
 &&decide (∀y∈scope.names,y.2=.free->y.1≠x)&&scope.kind == .function&&decide (∀y∈scope.names,y.2=.local->scope.names.lookup y.1=some .local)
 &&decide ((x::([y]++fvs)).Nodup)&&decide (∀y∈scope.names,y.2=.free->osc.names.lookup y.1=some .cell\/osc.names.lookup y.1=some .free)&&decide ((js.map λj=>N[j]?)=fvs.map some)
 &&decide (∀y∈fvs,scope.names.lookup y=some .free)
noncomputable def qb(e:Expr):Option (Expr×Expr×List Expr×Scope×Str×Str):=(lcP e).bind λc=>(jP c.2.1).bind λg=>(tuP g.target).bind λt=>(xS t.1).bind λz=>(nmP z.1).bind λx=>(nmP z.2).bind λy=>okQ (g.is_async == 0) (c.1,g.iter,g.ifs,c.2.2.1,x.1,y.1)
theorem sP{e:Expr}{q:Expr×Expr×List Expr×Scope×Str×Str}(h:qb e=some q):∃px py j tp pos,e=.ListComp q.1 [⟨.Tuple [.Name q.2.2.2.2.1 px,.Name q.2.2.2.2.2 py] j tp,q.2.1,q.2.2.1,0⟩] q.2.2.2.1 pos:=by
 obtain⟨c,h1,h⟩:=bZ h
 obtain⟨⟨tg,it,is,as⟩,h2,h⟩:=bZ h
 obtain⟨t,h3,h⟩:=bZ h
 obtain⟨z,h4,h⟩:=bZ h
 obtain⟨x,h5,h⟩:=bZ h
 obtain⟨y,h6,h⟩:=bZ h
 obtain⟨h7,rfl⟩:=k4 h
 exact⟨x.2,y.2,t.2.1,t.2.2,c.2.2.2,by rw [nu h1,cA h2,ve (e:=tg) h3,nk h4,cO h5,cO h6,show as=0 from eq_of_beq h7]⟩
noncomputable def k6(sc:Scope)(tup:Bool)(f:List Expr->Bool):Sk->Expr->Bool
 | .seq,it=>dO it&&f [it]
 | .rng,it=>onQ (sN it) λc=>c.1 == ("range":Str)&&glB sc c.1&&f c.2&&(c.2.length == 1 || c.2.length == 2)
 | .rev,_=>false
 | .enm,it=>onQ (An it) λc=>tup&&c.1 == ("enumerate":Str)&&glB sc c.1&&f [c.2]&&aq c.2
noncomputable def oH(sc:Scope)(f:List Expr->Bool)(n:Nat)(c:String)(args:List Expr):Bool:=onQ (xS args) λa=>onQ (nmP a.2) λt=>t.1 == (c:Str)&&glB sc t.1&&f [a.1]&&n == 1
noncomputable def vm(sc:Scope)(f:List Expr->Bool)(n:Nat)(g:Str)(args:List Expr):Bool:=onQ (jP args) λa=>onQ (An a) λc=>c.1 == g&&glB sc c.1&&f [c.2]&&n == 1
noncomputable def oI:Expr->Bool
 | .Name _ _=>true
 | .Call _ (_::_) _ _=>true
 | _=>false
noncomputable def qT(sc:Scope)(f:List Expr->Bool)(n:Nat)(b:Blt)(args:List Expr):Bool:=match b with
 | .sortedSet=>vm sc f n "set" args
 | .lenSet=>false
 | .lenSetSub=>false
 | .tupleRev=>false
 | .valuesOf=>false
 | .sortedKeys=>false
 | .max1=>false
 | .sum=>false
 | .max2=>false
 | .min2=>false
 | .intOf=>false
 | .boolOf=>false
 | .isStr=>false
 |b=>match cD b with
  |some c=>oH sc f n c args
  |none=>jg b == some n&&f args
noncomputable def gU:ME->Bool
 | .cst .non=>true
 | _=>false
noncomputable def nw(f:Expr->Bool)(non:Bool):Option Expr->Bool
 |none=>non
 |some l=>f l&&!non
noncomputable def mC(f:Expr->Bool)(m:ME):List Expr->Bool
 | []=>(match m with|.cst (.bl true)=>true|_=>false)
 | [c]=>f c
 | _=>false
noncomputable def CG(f:Expr->Bool)(op:BoolOp)(pos:Pos)(y:Expr):List Expr->Bool
 | []=>f y
 |z::r=>f (.BoolOp op (y::z::r) pos)
noncomputable def At(g f:Expr->Bool)(op:BoolOp)(pos:Pos):List Expr->Bool
 |x::y::r=>g x&&CG f op pos y r
 | _=>false
theorem qU{g f:Expr->Bool}{op:BoolOp}{pos:Pos}{vs:List Expr}(h:At g f op pos vs=true):(∃x y,vs=[x,y]/\g x=true/\f y=true)\/∃x y z r,vs=x::y::z::r/\g x=true/\f (.BoolOp op (y::z::r) pos)=true:=by
 rcases vs with _|⟨x,_|⟨y,_|⟨z,r⟩⟩⟩
 ·cases h
 ·cases h
 ·exact .inl ⟨x,y,rfl,Bool.and_eq_true_iff.mp h⟩
 ·exact .inr ⟨x,y,z,r,rfl,Bool.and_eq_true_iff.mp h⟩
mutual
noncomputable def chk(T:Tab):ME->List Str->Scope->Expr->Bool
 | .var i,N,sc,e0=>onQ (nmP e0) λx=>ar N sc i x.1
 | .bor i,N,sc,e0=>onQ (nmP e0) λx=>ar N sc i x.1
 | .cst v,_,_,e0=>onQ (ctP e0) λc=>qa v c.1
 | .glob x v,_,sc,e0=>onQ (nmP e0) λy=>x == y.1&&glB sc x&&vk T.gs x v&&ay x
 | .bin op a b,N,sc,e0=>onQ (biP e0) λq=>q.2.1 == As op&&chk T a N sc q.1&&chk T b N sc q.2.2.1
 | .neg _,_,_,_=>false
 | .not a,N,sc,e0=>onQ (unP e0) λq=>q.1 == .Not&&chk T a N sc q.2.1
 | .and a b,N,sc,e0=>onQ (boP e0) λq=>q.1 == .And&&At (λe=>chk T a N sc e) (λe=>chk T b N sc e) .And q.2.2 q.2.1
 | .or a b,N,sc,e0=>onQ (boP e0) λq=>q.1 == .Or&&At (λe=>chk T a N sc e) (λe=>chk T b N sc e) .Or q.2.2 q.2.1
 | .ite c a b,N,sc,e0=>onQ (ifP e0) λq=>chk T c N sc q.1&&chk T a N sc q.2.1&&chk T b N sc q.2.2.1&&!aI a&&!aI b
 | .cmp op a b,N,sc,e0=>onQ (sO e0) λq=>q.2.1 == fB op&&chk T a N sc q.1&&chk T b N sc q.2.2&&!behindInMarks q.2.1 q.2.2
 | .chain op op' a b c,N,sc,e0=>(match e0 with|.Compare l [o,o'] [m,r] _=>o == fB op&&o' == fB op'&&chk T a N sc l&&chk T b N sc m&&chk T c N sc r&&!lastMarks [o,o'] [m,r]|_=>false)
 | .tup es,N,sc,e0=>onQ (tuP e0) λq=>chks T es N sc q.1&&es.all (λe=>!aI e)
 | .lst es,N,sc,e0=>onQ (liP e0) λq=>chks T es N sc q.1&&es.all (λe=>!aI e)
 | .idx a i,N,sc,e0=>onQ (suP e0) λq=>chk T a N sc q.1&&chk T i N sc q.2.1&&cB q.2.1
 | .slice a lo hi,N,sc,e0=>onQ (CF e0) λq=>chk T a N sc q.1&&nw (λe=>chk T lo N sc e) (gU lo) q.2.1&&nw (λe=>chk T hi N sc e) (gU hi) q.2.2
 | .blt b es,N,sc,e0=>onQ (sN e0) λq=>q.1 == (oG b:Str)&&glB sc q.1&&qT sc (λxs=>chks T es N sc xs) es.length b q.2
 | .call f es,N,sc,e0=>onQ (sN e0) λq=>T.fs[f]? == some q.1&&glB sc q.1&&ay q.1&&chks T es N sc q.2
 | .callD _ _ _,_,_,_=>false
 | .comp k src js cond elt,N,sc,e0=>onQ (lcX e0) λq=>iD sc N q.2.1 q.2.2.1.1 (bp N js) js&&k6 sc false (λxs=>chks T src N sc xs) k q.2.2.2.1&&mC (λc=>chk T cond (q.2.2.1.1::bp N js) (gC q.2.1 sc) c) cond q.2.2.2.2&&chk T elt (q.2.2.1.1::bp N js) (gC q.2.1 sc) q.1&&!aI elt
 | .dget a k d,N,sc,e0=>onQ (maP e0) λc=>onQ (xS c.2.2.2.1) λz=>c.2.1 == ("get":Str)&&oI c.1&&c.2.2.1.endLine == c.2.2.2.2.line&&chk T a N sc c.1&&chk T k N sc z.1&&chk T d N sc z.2&&aq z.1&&aq z.2
 | .dat a k,N,sc,e0=>onQ (suP e0) λq=>chk T a N sc q.1&&chk T k N sc q.2.1&&cB q.2.1
 | .dIn neg k a,N,sc,e0=>onQ (sO e0) λq=>q.2.1 == (if neg=true then CmpOp.NotIn else CmpOp.In)&&chk T k N sc q.1&&chk T a N sc q.2.2&&!behindInMarks q.2.1 q.2.2
 | .fld i n,N,sc,e0=>onQ (k5 e0) λq=>gT[n]? == some q.2&&ar N sc i q.1
 | .fldL i,N,sc,e0=>onQ (k5 e0) λq=>q.2 == ("taken":Str)&&ar N sc i q.1
 | .inO neg e i,N,sc,e0=>onQ (sO e0) λz=>onQ (k5 z.2.2) λq=>z.2.1 == (if neg=true then CmpOp.NotIn else CmpOp.In)&&chk T e N sc z.1&&q.2 == ("taken":Str)&&ar N sc i q.1
 | .callV _ _,_,_,_=>false
 | .comp2 src js cond elt,N,sc,e0=>onQ (qb e0) λq=>ff sc N q.2.2.2.1 q.2.2.2.2.1 q.2.2.2.2.2 (bp N js) js&&k6 sc true (λxs=>chks T src N sc xs) .enm q.2.1&&mC (λc=>chk T cond (q.2.2.2.2.1::([q.2.2.2.2.2]++bp N js)) (gC q.2.2.2.1 sc) c) cond q.2.2.1&&chk T elt (q.2.2.2.2.1::([q.2.2.2.2.2]++bp N js)) (gC q.2.2.2.1 sc) q.1&&!aI elt
 | .callM f i es,N,sc,e0=>onQ (xU e0) λq=>vj N sc T.ms f i (λxs=>chks T es N sc xs) q
noncomputable def chks(T:Tab):List ME->List Str->Scope->List Expr->Bool
 | [],_,_,[]=>true
 |m::ms,N,sc,e::es=>chk T m N sc e&&aq e&&chks T ms N sc es
 | _,_,_,_=>false
end
theorem vn(T:Tab)(op op':Cp)(a b c:ME)(N:List Str)(sc:Scope)(e0:Expr):chk T (.chain op op' a b c) N sc e0=(match e0 with|.Compare l [o,o'] [m,r] _=>o == fB op&&o' == fB op'&&chk T a N sc l&&chk T b N sc m&&chk T c N sc r&&!lastMarks [o,o'] [m,r]|_=>false):=rfl
theorem ny{T:Tab}{i:Nat}{N:List Str}{sc:Scope}{e:Expr}(h:chk T (.bor i) N sc e=true):∃x p,e=.Name x p/\ar N sc i x=true:=by
 replace h:=al h
 obtain⟨x,h1,h⟩:=h
 exact⟨x.1,x.2,cO h1,h⟩
theorem bn{T:Tab}{m:ME}{ms:List ME}{N:List Str}{sc:Scope}{e:Expr}{es:List Expr}(h:chks T (m::ms) N sc (e::es)=true):(chk T m N sc e=true/\aq e=true)/\chks T ms N sc es=true:=by
 obtain⟨a,b⟩:=Bool.and_eq_true_iff.mp h
 exact⟨Bool.and_eq_true_iff.mp a,b⟩
theorem jh{T:Tab}{N:List Str}{sc:Scope}{k':Sk}{src:List ME}{js:List Nat}{cond elt:ME}{e0:Expr}(h:chk T (.comp k' src js cond elt) N sc e0=true):∃e x px it ifs scope pos,e0=.ListComp e [⟨.Name x px,it,ifs,0⟩] scope pos /\
  (iD sc N scope x (bp N js) js&&k6 sc false (λxs=>chks T src N sc xs) k' it&&mC (λc=>chk T cond (x::bp N js) (gC scope sc) c) cond ifs&&chk T elt (x::bp N js) (gC scope sc) e&&!aI elt)=true:=by
 replace h:=al h
 obtain⟨q,w,h⟩:=h
 obtain⟨pos,rfl⟩:=Ao w
 exact⟨_,_,_,_,_,_,_,rfl,h⟩
noncomputable def fZ:ME->Bool
 | .lst _=>true
 | .comp ..=>true
 | .blt .listOf _=>true
 | .blt .sorted _=>true
 | .blt .sortedSet _=>true
 | .blt .sortedKeys _=>true
 | .blt .valuesOf _=>true
 | _=>false
noncomputable def za(sc:Scope)(t:Str)(tpos:Pos)(e:Expr):Bool:=onQ (lcP e) λq=>sc.names.lookup t == some .local&&tpos.line == q.2.2.2.line&&!(q.2.2.1.names.any λ(n,k)=>n == t&&(k == .local || k == .cell))
noncomputable def EB:ME->Bool
 | .comp2 ..=>true
 | _=>false
noncomputable def mD(sc:Scope)(t:Str)(tpos:Pos)(v:Expr)(e:ME):Bool:=za sc t tpos v&&!EB e
noncomputable def cX(N:List Str)(sc:Scope):List Nat->List Expr->Bool
 | [],[]=>true
 |i::is,.Name x _::es=>N[i]? == some x&&fc sc x&&ay x&&cX N sc is es
 | _,_=>false
theorem nz(N:List Str)(sc:Scope)(i:Nat)(is:List Nat)(x:Str)(p:Pos)(es:List Expr):cX N sc (i::is) (.Name x p::es)=(N[i]? == some x&&fc sc x&&ay x&&cX N sc is es):=rfl
noncomputable def vo(s:Stmt):Option (Str×Pos×Expr):=(asP s).bind λc=>(jP c.1).bind λu=>(nmP u).bind λx=>some (x.1,x.2,c.2.1)
theorem jV{s:Stmt}{q:Str×Pos×Expr}(h:vo s=some q):∃pos,s=.Assign [.Name q.1 q.2.1] q.2.2 pos:=by
 obtain⟨c,h1,h⟩:=bZ h
 obtain⟨u,h2,h⟩:=bZ h
 obtain⟨x,h3,h⟩:=bZ h
 cases h
 exact⟨c.2.2,by rw [vg h1,cA h2,cO h3]⟩
noncomputable def Au(s:Stmt):Option (Str×Str×Pos×List Expr×Pos):=(exP s).bind λa=>maN a.1
theorem qV{s:Stmt}{q:Str×Str×Pos×List Expr×Pos}(h:Au s=some q):∃p pos,s=.Expr (.Call (.Attribute (.Name q.1 p) q.2.1 q.2.2.1) q.2.2.2.1 [] q.2.2.2.2) pos:=by
 obtain⟨x,h1,h⟩:=bZ h
 obtain⟨p,e⟩:=vi h
 exact⟨p,x.2,by rw [Aq h1,e]⟩
noncomputable def CH(s:Stmt):Option (Str×Expr×Expr):=(asP s).bind λc=>(jP c.1).bind λu=>(suP u).bind λw=>(nmP w.1).bind λx=>some (x.1,w.2.1,c.2.1)
theorem xV{s:Stmt}{q:Str×Expr×Expr}(h:CH s=some q):∃p sp pos,s=.Assign [.Subscript (.Name q.1 p) q.2.1 sp] q.2.2 pos:=by
 obtain⟨c,h1,h⟩:=bZ h
 obtain⟨u,h2,h⟩:=bZ h
 obtain⟨w,h3,h⟩:=bZ h
 obtain⟨x,h4,h⟩:=bZ h
 cases h
 exact⟨x.2,w.2.2,c.2.2,by rw [vg h1,cA h2,nq h3,cO h4]⟩
noncomputable def xW(s:Stmt):Option (Expr):=(reP s).bind λc=>c.1
theorem nA{s:Stmt}{v:Expr}(h:xW s=some v):∃pos,s=.Return (some v) pos:=by
 obtain⟨c,h1,h⟩:=bZ h
 exact⟨c.2,by rw [Ar h1,h]⟩
noncomputable def zb(e:Expr):Option (Str):=(nmP e).bind λx=>some x.1
theorem vp{e:Expr}{x:Str}(h:zb e=some x):∃p,e=.Name x p:=by
 obtain⟨x,h1,h⟩:=bZ h
 cases h
 exact⟨x.2,cO h1⟩
noncomputable def zc(e:Expr):Bool:=onQ (diP e) λd=>d.1.isEmpty&&d.2.1.isEmpty
theorem vq{e:Expr}(h:zc e=true):∃p,e=.Dict [] [] p:=by
 replace h:=al h
 obtain⟨d,h1,h⟩:=h
 obtain⟨h2,h3⟩:=Bool.and_eq_true_iff.mp h
 exact⟨d.2.2,by rw [Ap h1,List.isEmpty_iff.mp h2,List.isEmpty_iff.mp h3]⟩
noncomputable def Av:Stmt->Option (Str×Str×Str×Pos×List Expr×Pos)
 | .Expr (.Call (.Attribute (.Attribute (.Name x _) f _) m ap) args [] cp) _=>some (x,f,m,ap,args,cp)
 | _=>none
theorem xX{s:Stmt}{q:Str×Str×Str×Pos×List Expr×Pos}(h:Av s=some q):∃p fp pos,s=.Expr (.Call (.Attribute (.Attribute (.Name q.1 p) q.2.1 fp) q.2.2.1 q.2.2.2.1) q.2.2.2.2.1 [] q.2.2.2.2.2) pos:=by
 unfold Av at h
 split at h
 ·cases h;exact⟨_,_,_,rfl⟩
 ·cases h
mutual
noncomputable def eR(T:Tab)(N:List Str)(sc:Scope):MS->Stmt->Bool
 | .set i e,s0=>onQ (vo s0) λq=>N[i]? == some q.1&&fc sc q.1&&ay q.1&&chk T e N sc q.2.2&&!aI e&&(cf q.2.2 || mD sc q.1 q.2.1 q.2.2 e)
 | .setOwn i e,s0=>onQ (vo s0) λq=>N[i]? == some q.1&&fc sc q.1&&ay q.1&&chk T e N sc q.2.2&&fZ e&&(cf q.2.2 || mD sc q.1 q.2.1 q.2.2 e)
 | .append i e,s0=>onQ (Au s0) λq=>onQ (jP q.2.2.2.1) λv=>ar N sc i q.1&&q.2.1 == ("append":Str)&&chk T e N sc v&&!aI e&&aq v&&q.2.2.1.endLine == q.2.2.2.2.line
 | .extend i e,s0=>onQ (Au s0) λq=>onQ (jP q.2.2.2.1) λv=>ar N sc i q.1&&q.2.1 == ("extend":Str)&&chk T e N sc v&&aq v&&q.2.2.1.endLine == q.2.2.2.2.line
 | .mkO i es,s0=>onQ (vo s0) λq=>onQ (sN q.2.2) λc=>N[i]? == some q.1&&fc sc q.1&&ay q.1&&c.1 == ("Table":Str)&&glB sc c.1&&chks T es N sc c.2&&(es.all λm=>!aI m)&&!c.2.isEmpty
 | .appO i e,s0=>onQ (Av s0) λq=>onQ (jP q.2.2.2.2.1) λv=>ar N sc i q.1&&q.2.1 == ("taken":Str)&&q.2.2.1 == ("append":Str)&&chk T e N sc v&&!aI e&&aq v&&q.2.2.2.1.endLine == q.2.2.2.2.2.line
 | .retT e,s0=>onQ (xW s0) λv=>chk T e N sc v&&!aI e
 | .takeO _ _ _ _,_=>false
 | .setIdx _ _ _,_=>false
 | .unpack _ _,_=>false
 | .ite c a b,s0=>(match s0 with|.If t x y _=>chk T c N sc t&&chkSs T N sc a x&&chkSs T N sc b y|_=>false)
 | .for1 i k src body,s0=>(match s0 with|.For (.Name x _) it b [] _=>N[i]? == some x&&fc sc x&&ay x&&k6 sc false (λxs=>chks T src N sc xs) k it&&chkSs T N sc body b|_=>false)
 | .forT is k src body,s0=>(match s0 with|.For (.Tuple ts _ _) it b [] _=>cX N sc is ts&&k6 sc true (λxs=>chks T src N sc xs) k it&&chkSs T N sc body b|_=>false)
 | .ret e,s0=>onQ (xW s0) λv=>chk T e N sc v&&!aI e
 | .retOwn i,s0=>onQ (xW s0) λv=>onQ (zb v) λx=>ar N sc i x
 | .never,_=>true
 | .newD _ i,s0=>onQ (vo s0) λq=>zc q.2.2&&(N[i]? == some q.1&&fc sc q.1&&ay q.1)
 | .dput i k e,s0=>onQ (CH s0) λq=>ar N sc i q.1&&chk T k N sc q.2.1&&cB q.2.1&&chk T e N sc q.2.2&&!aI e&&cf q.2.2
 | _,_=>false
noncomputable def chkSs(T:Tab)(N:List Str)(sc:Scope):List MS->List Stmt->Bool
 | [],[]=>true
 | .freeze _::_,_=>false
 |m::ms,s::ss=>eR T N sc m s&&chkSs T N sc ms ss
 | _,_=>false
end
theorem xY(T:Tab)(N:List Str)(sc:Scope)(i:Nat)(k:Sk)(src:List ME)(body:List MS)(s0:Stmt):eR T N sc (.for1 i k src body) s0=(match s0 with|.For (.Name x _) it b [] _=>N[i]? == some x&&fc sc x&&ay x&&k6 sc false (λxs=>chks T src N sc xs) k it&&chkSs T N sc body b|_=>false):=rfl
theorem xZ(T:Tab)(N:List Str)(sc:Scope)(is:List Nat)(k:Sk)(src:List ME)(body:List MS)(s0:Stmt):eR T N sc (.forT is k src body) s0=(match s0 with|.For (.Tuple ts _ _) it b [] _=>cX N sc is ts&&k6 sc true (λxs=>chks T src N sc xs) k it&&chkSs T N sc body b|_=>false):=rfl
end MM
namespace MM
open PySem PySem.Spec PyProof.Rows L2
theorem k7{f:PV->PV->Option Bool}(hf:∀x b,f x x=some b->b=true):∀(xs:List PV) {b:Bool},eqL f xs xs=some b->b=true
 | [],b,h=>by simp [eqL]at h;exact h
 |x::xs,b,h=>by
  simp only [eqL,Option.bind_eq_some_iff,Option.map_eq_some_iff]at h
  obtain⟨p,h1,q,h2,rfl⟩:=h
  rw [hf x p h1,k7 hf xs h2];rfl
theorem iE:∀(n:Nat) (x:PV) {b:Bool},eqF n x x=some b->b=true
 |n,.non,b,h=>by cases n<;>cases h<;>rfl
 |n,.bl x,b,h=>by cases n<;>cases h<;>exact beq_self_eq_true x
 |n,.int x,b,h=>by cases n<;>cases h<;>exact beq_self_eq_true x
 |n,.str x,b,h=>by cases n<;>cases h<;>exact beq_self_eq_true x
 |0,.tup _,b,h=>by cases h
 |0,.lst _,b,h=>by cases h
 |n+1,.tup xs,b,h=>k7 (λx b=>iE n x) xs h
 |n+1,.lst xs,b,h=>k7 (λx b=>iE n x) xs ((if_pos rfl).symm.trans h)
 |n,.dI _,b,h=>by cases n<;>cases h
theorem eS{n:Nat}{x y:PV}{b:Bool}(h:eqF n x y=some b):isD x=false/\isD y=false:=by
 cases x<;>cases y<;>first|exact⟨rfl,rfl⟩|(cases n<;>cases h)
noncomputable def Aw:PV->Bool
 | .tup _=>true
 | .lst _=>true
 | _=>false
theorem eB{n:Nat}{x y:PV}{b:Bool}(h:eqF n x y=some b)(e:Aw x=!Aw y):b=false:=by
 cases x<;>cases y<;>first|(cases e;done)|(cases n<;>cases h<;>rfl)
theorem iF{f:PV->PV->Option Bool}:∀(xs ys:List PV) {b:Bool},eqL f xs ys=some b ->
  (∀(j:Nat) x y,xs[j]?=some x->ys[j]?=some y->∃c,f x y=some c) /\
   b=((List.range (min xs.length ys.length)).all (λj=>(f (xs.getD j .non) (ys.getD j .non)).getD false)&&xs.length == ys.length)
 | [],[],b,h=>by simp [eqL]at h;subst h;simp
 | [],y::ys,b,h=>by simp [eqL]at h;subst h;simp
 |x::xs,[],b,h=>by simp [eqL]at h;subst h;simp
 |x::xs,y::ys,b,h=>by
  simp only [eqL,Option.bind_eq_some_iff,Option.map_eq_some_iff]at h
  obtain⟨p,h1,q,h2,rfl⟩:=h
  obtain⟨ih1,ih2⟩:=iF xs ys h2
  refine⟨λj x' y' e1 e2=>?_,?_⟩
  ·cases j with
   |zero=>simp at e1 e2;subst e1 e2;exact⟨p,h1⟩
   |succ j=>exact ih1 j x' y' (by simpa using e1) (by simpa using e2)
  ·rw [ih2]
   have hm:min (x::xs).length (y::ys).length=min xs.length ys.length+1:=by simp only [List.length_cons];omega
   rw [hm,List.range_succ_eq_map,List.all_cons,List.all_map]
   have hl:((x::xs).length == (y::ys).length)=(xs.length == ys.length):=by
    rw [Bool.eq_iff_iff];simp
   rw [hl,Bool.and_assoc]
   simp only [List.getD_cons_zero,h1,Option.getD_some,Function.comp_def,List.getD_cons_succ]
theorem qW{f:PV->Option Bool}:∀(xs:List PV) {b:Bool},inL f xs=some b->(∀x∈xs,∃c,f x=some c)/\b=xs.any λx=>(f x).getD false
 | [],b,h=>by simp [inL]at h;subst h;simp
 |x::xs,b,h=>by
  simp only [inL,Option.bind_eq_some_iff,Option.map_eq_some_iff]at h
  obtain⟨p,h1,q,h2,rfl⟩:=h
  obtain⟨ih1,ih2⟩:=qW xs h2
  refine⟨λy hy=>?_,?_⟩
  ·rcases List.mem_cons.mp hy with rfl|hy
   ·exact⟨p,h1⟩
   ·exact ih1 y hy
  ·rw [List.any_cons,h1,ih2];rfl
section
variable{X:Cx}{pins:List (Addr×Obj)}{σ:St}{H:Hp}{s:Shared}
theorem oJ(I:Inv X pins σ H s){a:Addr}{xs ys:List V}(h1:SqL X.K H a xs)(h2:SqT X.K H a ys):False:=by
 obtain⟨its,_,p,_⟩:=I.list h1
 obtain⟨its2,_,q,_⟩:=I.tuple h2
 exact SeqAt.ne_of_list_tuple p.isList (show s.heap.IsTuple a its2.toArray from q) rfl
theorem qX{H:Hp}{a:Addr}{d:DD}(h:RdD H a d):IsD H a:=by
 cases d with
 |k kvs=>exact .inl ⟨_,h.rd⟩
 |t kvs=>exact .inr ⟨_,h.rd⟩
theorem jW(I:Inv X pins σ H s){a:Addr}{xs:List V}{d:DD}(h1:SqL X.K H a xs\/SqT X.K H a xs)(h2:RdD H a d):False:=by
 obtain⟨o,ho,hc⟩:=(uK I (qX h2)).1
 rcases h1 with h1|h1
 ·obtain⟨its,_,p,_⟩:=I.list h1
  obtain⟨o',ho',hc',_⟩:=p.isList
  rw [ho]at ho'
  cases ho'
  rw [hc]at hc'
  exact absurd hc' (by decide)
 ·obtain⟨its,_,⟨o',ho',hc',_⟩,_⟩:=I.tuple h1
  rw [ho]at ho'
  cases ho'
  rw [hc]at hc'
  exact absurd hc' (by decide)
theorem Sc.v_inj:∀{a b:Sc},a.v=b.v->a=b:=by
 intro a b h
 cases a<;>cases b<;>simp [Sc.v]at h ⊢<;>exact h
theorem oK:∀{a b:List (Int×Sc)},fX a=fX b->a=b
 | [],[],_=>rfl
 | [],_::_,h=>by cases h
 | _::_,[],h=>by cases h
 | (k,v)::a,(k',v')::b,h=>by
  simp only [fX,List.map_cons,List.cons.injEq,Prod.mk.injEq,Sum.inl.injEq]at h
  obtain⟨⟨h1,h2⟩,h3⟩:=h
  rw [h1,Sc.v_inj h2,oK h3]
theorem jX:∀{a b:List Int},(a.map Sum.inl:List Key)=b.map Sum.inl->a=b
 | [],[],_=>rfl
 | [],_::_,h=>by cases h
 | _::_,[],h=>by cases h
 |x::a,y::b,h=>by
  simp only [List.map_cons,List.cons.injEq,Sum.inl.injEq]at h
  rw [h.1,jX h.2]
theorem oM:∀{a b:List (List Int×Sc)},iB a=iB b->a=b
 | [],[],_=>rfl
 | [],_::_,h=>by cases h
 | _::_,[],h=>by cases h
 | (k,v)::a,(k',v')::b,h=>by
  simp only [iB,List.map_cons,List.cons.injEq,Prod.mk.injEq]at h
  obtain⟨⟨h1,h2⟩,h3⟩:=h
  rw [jX h1,Sc.v_inj h2,oM h3]
theorem oN{a b:DD}(h:jO a=jO b):a=b:=by
 cases a<;>cases b
 ·rw [oK (HO.dK.inj h)]
 ·cases h
 ·cases h
 ·rw [oM (HO.dT.inj h)]
theorem Ax{H:Hp}{a:Addr}{x y:DD}(h:RdD H a x)(g:RdD H a y):x=y:=by
 have h:=h.rd
 have g:=g.rd
 have ne:∀(x:DD) (o:Obj) (u:HO),jO x≠.frz o u:=λx o u e=>by cases x<;>cases e
 rcases h with h|⟨o,h⟩<;>rcases g with g|⟨o',g⟩
 ·rw [h]at g;exact oN (Option.some.inj g)
 ·rw [h]at g;exact absurd (Option.some.inj g) (ne x _ _)
 ·rw [g]at h;exact absurd (Option.some.inj h) (ne y _ _)
 ·rw [h]at g;exact oN (HO.frz.inj (Option.some.inj g)).2
mutual
theorem jY(I:Inv X pins σ H s):∀(x y:PV) {u:V},Rep X.K H x u->Rep X.K H y u->x=y
 | .non,y,u,h,g=>by rw [Rep]at h;subst h;cases y<;>simp [Rep]at g ⊢
 | .bl b,y,u,h,g=>by rw [Rep]at h;subst h;cases y<;>simp [Rep]at g ⊢;exact g
 | .int b,y,u,h,g=>by rw [Rep]at h;subst h;cases y<;>simp [Rep]at g ⊢;exact g
 | .str b,y,u,h,g=>by rw [Rep]at h;subst h;cases y<;>simp [Rep]at g ⊢;exact g
 | .tup xs,y,u,h,g=>by
  rw [Rep]at h
  obtain⟨a,us,rfl,q,r⟩:=h
  cases y with
  |tup ys =>
   rw [Rep]at g
   obtain⟨b,vs,e,q',r'⟩:=g
   cases e
   have:=I.tuple_inj (cN q) (cN q')
   subst this
   rw [reps_inj I xs ys r r']
  |lst ys =>
   rw [Rep]at g
   obtain⟨b,vs,e,q',r'⟩:=g
   cases e
   exact(oJ I q' (cN q)).elim
  |dI kvs =>
   rw [Rep]at g
   obtain⟨b,e,q'⟩:=g
   cases e
   exact(jW I (.inr (cN q)) q').elim
  | _=>simp [Rep]at g
 | .lst xs,y,u,h,g=>by
  rw [Rep]at h
  obtain⟨a,us,rfl,q,r⟩:=h
  cases y with
  |lst ys =>
   rw [Rep]at g
   obtain⟨b,vs,e,q',r'⟩:=g
   cases e
   have:=I.list_inj q q'
   subst this
   rw [reps_inj I xs ys r r']
  |tup ys =>
   rw [Rep]at g
   obtain⟨b,vs,e,q',r'⟩:=g
   cases e
   exact(oJ I q (cN q')).elim
  |dI kvs =>
   rw [Rep]at g
   obtain⟨b,e,q'⟩:=g
   cases e
   exact(jW I (.inl q) q').elim
  | _=>simp [Rep]at g
 | .dI kvs,y,u,h,g=>by
  rw [Rep]at h
  obtain⟨a,rfl,q⟩:=h
  cases y with
  |dI ks =>
   rw [Rep]at g
   obtain⟨b,e,q'⟩:=g
   cases e
   rw [Ax q q']
  |tup ys =>
   rw [Rep]at g
   obtain⟨b,vs,e,q',r'⟩:=g
   cases e
   exact(jW I (.inr (cN q')) q).elim
  |lst ys =>
   rw [Rep]at g
   obtain⟨b,vs,e,q',r'⟩:=g
   cases e
   exact(jW I (.inl q') q).elim
  | _=>simp [Rep]at g
theorem reps_inj(I:Inv X pins σ H s):∀(xs ys:List PV) {us:List V},Reps X.K H xs us->Reps X.K H ys us->xs=ys
 | [],ys,us,h,g=>by
  rw [Reps]at h;subst h
  cases ys with
  |nil=>rfl
  |cons y ys=>rw [Reps]at g;obtain⟨_,_,e,_⟩:=g;cases e
 |x::xs,ys,us,h,g=>by
  rw [Reps]at h
  obtain⟨u,r,rfl,q,t⟩:=h
  cases ys with
  |nil=>rw [Reps]at g;cases g
  |cons y ys =>
   rw [Reps]at g
   obtain⟨u',r',e,q',t'⟩:=g
   cases e
   rw [jY I x y q q',reps_inj I xs ys t t']
end
theorem Rep.tupAt(I:Inv X pins σ H s){xs:List PV}{u:V}{v:Value}(h:Rep X.K H (.tup xs) u)(r:av u v) :
  ∃(a:Addr) (us:List V) (its:List Value),u=.ref a/\v=.ref a/\Reps X.K H xs us/\aw us its/\s.heap.IsTuple a its.toArray/\xs.length=its.length:=by
 rw [Rep]at h
 obtain⟨a,us,rfl,q,t⟩:=h
 obtain⟨its,rv,p,_⟩:=I.tuple (cN q)
 exact⟨a,us,its,rfl,r,t,rv,p,t.length.trans rv.length⟩
theorem Rep.lstAt(I:Inv X pins σ H s){xs:List PV}{u:V}{v:Value}(h:Rep X.K H (.lst xs) u)(r:av u v) :
  ∃(a:Addr) (us:List V) (its:List Value),u=.ref a/\v=.ref a/\Reps X.K H xs us/\aw us its/\s.heap.IsList a its.toArray/\xs.length=its.length:=by
 rw [Rep]at h
 obtain⟨a,us,rfl,q,t⟩:=h
 obtain⟨its,rv,p,_⟩:=I.list q
 exact⟨a,us,its,rfl,r,t,rv,p.isList,t.length.trans rv.length⟩
theorem iG{A:Around}{n:Nat}(ih:∀(x y:PV) {ux uy:V}{vx vy:Value}{b:Bool}{A:Around},A.units+n<cLine->eqF n x y=some b->Rep X.K H x ux->Rep X.K H y uy->av ux vx->av uy vy->SeqAt.EqAt A s vx vy b)
  {xs ys:List PV}{us ws:List V}{its its2:List Value} (hu:A.units+(n+1)<cLine) (rx:Reps X.K H xs us) (ry:Reps X.K H ys ws) (vx:aw us its) (vy:aw ws its2)
  (hs:∀(j:Nat) x y,xs[j]?=some x->ys[j]?=some y->∃c,eqF n x y=some c) :
  ∀j (h1:j<its.toArray.size) (h2:j<its2.toArray.size),SeqAt.EqAt A.in1 s its.toArray[j] its2.toArray[j] ((eqF n (xs.getD j .non) (ys.getD j .non)).getD false):=λj h1 h2=>by
 have l1:=rx.length.trans vx.length
 have l2:=ry.length.trans vy.length
 simp only [List.size_toArray]at h1 h2
 have e1:xs[j]?=some xs[j]:=List.getElem?_eq_getElem (by omega)
 have e2:ys[j]?=some ys[j]:=List.getElem?_eq_getElem (by omega)
 obtain⟨ux,q1,p1⟩:=rx.get e1
 obtain⟨uy,q2,p2⟩:=ry.get e2
 obtain⟨wx,q3,p3⟩:=vx.get q1
 obtain⟨wy,q4,p4⟩:=vy.get q2
 obtain⟨c,hc⟩:=hs j _ _ e1 e2
 have d1:xs.getD j .non=xs[j]:=by simp [List.getD,e1]
 have d2:ys.getD j .non=ys[j]:=by simp [List.getD,e2]
 have g1:its.toArray[j]=wx:=by
  have:its[j]?=some its[j]:=List.getElem?_eq_getElem h1
  rw [this]at q3;simpa using q3
 have g2:its2.toArray[j]=wy:=by
  have:its2[j]?=some its2[j]:=List.getElem?_eq_getElem h2
  rw [this]at q4;simpa using q4
 rw [d1,d2,hc,g1,g2]
 exact ih _ _ (show A.units+1+n<cLine by omega) hc p1 p2 p3 p4
theorem x3{A:Around}{n:Nat}(I:Inv X pins σ H s)(ih:∀(x y:PV) {ux uy:V}{vx vy:Value}{b:Bool}{A:Around},A.units+n<cLine->eqF n x y=some b->Rep X.K H x ux->Rep X.K H y uy->av ux vx->av uy vy->SeqAt.EqAt A s vx vy b)
  (hu:A.units+(n+1)<cLine):(∀{xs ys:List PV}{ux uy:V}{vx vy:Value}{b:Bool},eqF (n+1) (.tup xs) (.tup ys)=some b->Rep X.K H (.tup xs) ux->Rep X.K H (.tup ys) uy->av ux vx->av uy vy->SeqAt.RcAt A s vx vy b) /\
   (∀{xs ys:List PV}{ux uy:V}{vx vy:Value}{b:Bool},eqF (n+1) (.lst xs) (.lst ys)=some b->Rep X.K H (.lst xs) ux->Rep X.K H (.lst ys) uy->av ux vx->av uy vy->SeqAt.RcAt A s vx vy b):=by
 refine⟨λ{xs ys ux uy vx vy b} h rx ry r1 r2=>?_,λ{xs ys ux uy vx vy b} h rx ry r1 r2=>?_⟩
 ·obtain⟨a,us,its,rfl,rfl,t1,w1,p1,l1⟩:=rx.tupAt I r1
  obtain⟨c,ws,its2,rfl,rfl,t2,w2,p2,l2⟩:=ry.tupAt I r2
  have h:eqL (eqF n) xs ys=some b:=h
  obtain⟨hs,hb⟩:=iF xs ys h
  have q:=SeqAt.RcAt.tuples (A:=A) p1 p2 (by omega) (iG ih hu t1 t2 w1 w2 hs)
  rw [hb]
  simpa [l1,l2] using q
 ·obtain⟨a,us,its,rfl,rfl,t1,w1,p1,l1⟩:=rx.lstAt I r1
  obtain⟨c,ws,its2,rfl,rfl,t2,w2,p2,l2⟩:=ry.lstAt I r2
  have h:(if xs.length=ys.length then eqL (eqF n) xs ys else some false)=some b:=h
  by_cases hl:xs.length=ys.length
  ·rw [if_pos hl]at h
   obtain⟨hs,hb⟩:=iF xs ys h
   have q:=SeqAt.RcAt.lists (A:=A) p1 p2 (by simp only [List.size_toArray];omega) (by omega) (iG ih hu t1 t2 w1 w2 hs)
   rw [hb,hl,Nat.min_self]
   simpa [<- l1,hl] using q
  ·rw [if_neg hl]at h
   cases h
   exact SeqAt.RcAt.lists_lengths (A:=A) p1 p2 (by simp only [List.size_toArray,bne_iff_ne];omega) (by omega)
theorem ca{x:PV}{u:V}(hd:isD x=false)(h:Rep X.K H x u):(∃xs,x=.tup xs)\/(∃xs,x=.lst xs)\/fU u=true:=by
 cases x with
 |tup xs=>exact .inl ⟨xs,rfl⟩
 |lst xs=>exact .inr (.inl ⟨xs,rfl⟩)
 |non=>rw [Rep]at h;subst h;exact .inr (.inr rfl)
 |bl b=>rw [Rep]at h;subst h;exact .inr (.inr rfl)
 |int b=>rw [Rep]at h;subst h;exact .inr (.inr rfl)
 |str b=>rw [Rep]at h;subst h;exact .inr (.inr rfl)
 |dI _=>cases hd
theorem fC{A:Around}(hu:A.units<cLine){u:V}{v:Value}(f:fU u=true)(r:av u v){a:Addr}{its:Array Value}(p:s.heap.IsTuple a its) :
  SeqAt.EqAt A s v (.ref a) false/\SeqAt.EqAt A s (.ref a) v false/\SeqAt.RcAt A s v (.ref a) false/\SeqAt.RcAt A s (.ref a) v false:=by
 cases u with
 |non=>cases r;exact⟨.none_tuple p hu,.tuple_none p hu,.none_tuple p hu,.tuple_none p hu⟩
 |bl b=>cases r;exact⟨.bool_tuple b p hu,.tuple_bool b p hu,.bool_tuple b p hu,.tuple_bool b p hu⟩
 |int b=>obtain⟨t,rfl⟩:=r;exact⟨.int_tuple b t p hu,.tuple_int b t p hu,.int_tuple b t p hu,.tuple_int b t p hu⟩
 |str b=>obtain⟨t,rfl⟩:=r;exact⟨.str_tuple b t p hu,.tuple_str b t p hu,.str_tuple b t p hu,.tuple_str b t p hu⟩
 | _=>exact absurd (show false=true from f) Bool.false_ne_true
theorem gr{A:Around}(hu:A.units<cLine){u:V}{v:Value}(f:fU u=true)(r:av u v){a:Addr}{its:Array Value}(p:s.heap.IsList a its) :
  SeqAt.EqAt A s v (.ref a) false/\SeqAt.EqAt A s (.ref a) v false/\SeqAt.RcAt A s v (.ref a) false/\SeqAt.RcAt A s (.ref a) v false:=by
 cases u with
 |non=>cases r;exact⟨.none_list p hu,.list_none p hu,.none_list p hu,.list_none p hu⟩
 |bl b=>cases r;exact⟨.bool_list b p hu,.list_bool b p hu,.bool_list b p hu,.list_bool b p hu⟩
 |int b=>obtain⟨t,rfl⟩:=r;exact⟨.int_list b t p hu,.list_int b t p hu,.int_list b t p hu,.list_int b t p hu⟩
 |str b=>obtain⟨t,rfl⟩:=r;exact⟨.str_list b t p hu,.list_str b t p hu,.str_list b t p hu,.list_str b t p hu⟩
 | _=>exact absurd (show false=true from f) Bool.false_ne_true
theorem vt{A:Around}{y x:V}{u v:Value}(ry:av y u)(rx:av x v)(fy:fU y=true)(fx:fU x=true):SeqAt.RcAt A s u v (eqV y x):=by
 cases y with
 |non =>
  cases ry
  cases x with
  |non=>cases rx;exact SeqAt.RcAt.none_none
  |bl b=>cases rx;exact SeqAt.RcAt.none_bool b
  |int b=>obtain⟨t,rfl⟩:=rx;exact SeqAt.RcAt.none_int b t
  |str b=>obtain⟨t,rfl⟩:=rx;exact SeqAt.RcAt.none_str b t
  | _=>exact absurd (show false=true from fx) Bool.false_ne_true
 |bl a =>
  cases ry
  cases x with
  |non=>cases rx;exact SeqAt.RcAt.bool_none a
  |bl b=>cases rx;exact SeqAt.RcAt.bool_bool a b
  |int b=>obtain⟨t,rfl⟩:=rx;exact SeqAt.RcAt.bool_int a b t
  |str b=>obtain⟨t,rfl⟩:=rx;exact SeqAt.RcAt.bool_str a b t
  | _=>exact absurd (show false=true from fx) Bool.false_ne_true
 |int a =>
  obtain⟨t',rfl⟩:=ry
  cases x with
  |non=>cases rx;exact SeqAt.RcAt.int_none a t'
  |bl b=>cases rx;exact SeqAt.RcAt.int_bool a t' b
  |int b=>obtain⟨t,rfl⟩:=rx;exact SeqAt.RcAt.int_int a t' b t
  |str b=>obtain⟨t,rfl⟩:=rx;exact SeqAt.RcAt.int_str a t' b t
  | _=>exact absurd (show false=true from fx) Bool.false_ne_true
 |str a =>
  obtain⟨t',rfl⟩:=ry
  cases x with
  |non=>cases rx;exact SeqAt.RcAt.str_none a t'
  |bl b=>cases rx;exact SeqAt.RcAt.str_bool a t' b
  |int b=>obtain⟨t,rfl⟩:=rx;exact SeqAt.RcAt.str_int a t' b t
  |str b=>obtain⟨t,rfl⟩:=rx;exact SeqAt.RcAt.str_str a t' b t
  | _=>exact absurd (show false=true from fx) Bool.false_ne_true
 | _=>exact absurd (show false=true from fy) Bool.false_ne_true
theorem k8{n:Nat}{x y:PV}{u v:V}{b:Bool}(rx:Rep X.K H x u)(ry:Rep X.K H y v)(fx:fU u=true)(fy:fU v=true)(h:eqF n x y=some b):b=eqV u v:=by
 cases x<;>cases y<;>simp only [Rep]at rx ry
 all_goals first
  | (obtain⟨_,_,rfl,_⟩:=rx;exact absurd (show false=true from fx) Bool.false_ne_true)
  | (obtain⟨_,_,rfl,_⟩:=ry;exact absurd (show false=true from fy) Bool.false_ne_true)
  | (obtain⟨_,rfl,_⟩:=rx;exact absurd (show false=true from fx) Bool.false_ne_true)
  | (obtain⟨_,rfl,_⟩:=ry;exact absurd (show false=true from fy) Bool.false_ne_true)
  | (subst rx ry;cases n<;>cases h<;>rfl)
theorem eE{y:PV}{v:V}(r:Rep X.K H y v)(f:fU v=true):Aw y=false:=by
 cases y with
 |tup _=>obtain⟨_,_,rfl,_⟩:=r;cases f
 |lst _=>obtain⟨_,_,rfl,_⟩:=r;cases f
 | _=>rfl
theorem nB(I:Inv X pins σ H s):∀(n:Nat) (x y:PV) {ux uy:V}{vx vy:Value}{b:Bool}{A:Around},A.units+n<cLine->eqF n x y=some b->Rep X.K H x ux->Rep X.K H y uy->av ux vx->av uy vy ->
  SeqAt.EqAt A s vx vy b/\SeqAt.RcAt A s vx vy b:=by
 intro n
 induction n with
 |zero =>
  intro x y ux uy vx vy b A hu h rx ry r1 r2
  have hu0:A.units<cLine:=by omega
  rcases ca (eS h).1 rx with ⟨xs,rfl⟩|⟨xs,rfl⟩|fx
  ·obtain⟨a,us,its,rfl,rfl,t1,w1,p1,l1⟩:=rx.tupAt I r1
   rcases ca (eS h).2 ry with ⟨ys,rfl⟩|⟨ys,rfl⟩|fy
   ·cases h
   ·obtain⟨c,ws,its2,rfl,rfl,t2,w2,p2,l2⟩:=ry.lstAt I r2
    cases h
    exact⟨.tuple_list p1 p2 hu0,.tuple_list p1 p2 hu0⟩
   ·obtain⟨z1,z2,z3,z4⟩:=fC hu0 fy r2 p1
    have:b=false:=eB h (by rw [eE ry fy];rfl)
    subst this
    exact⟨z2,z4⟩
  ·obtain⟨a,us,its,rfl,rfl,t1,w1,p1,l1⟩:=rx.lstAt I r1
   rcases ca (eS h).2 ry with ⟨ys,rfl⟩|⟨ys,rfl⟩|fy
   ·obtain⟨c,ws,its2,rfl,rfl,t2,w2,p2,l2⟩:=ry.tupAt I r2
    cases h
    exact⟨.list_tuple p1 p2 hu0,.list_tuple p1 p2 hu0⟩
   ·cases h
   ·obtain⟨z1,z2,z3,z4⟩:=gr hu0 fy r2 p1
    have:b=false:=eB h (by rw [eE ry fy];rfl)
    subst this
    exact⟨z2,z4⟩
  ·rcases ca (eS h).2 ry with ⟨ys,rfl⟩|⟨ys,rfl⟩|fy
   ·obtain⟨c,ws,its2,rfl,rfl,t2,w2,p2,l2⟩:=ry.tupAt I r2
    obtain⟨z1,z2,z3,z4⟩:=fC hu0 fx r1 p2
    have:b=false:=eB h (by rw [eE rx fx];rfl)
    subst this
    exact⟨z1,z3⟩
   ·obtain⟨c,ws,its2,rfl,rfl,t2,w2,p2,l2⟩:=ry.lstAt I r2
    obtain⟨z1,z2,z3,z4⟩:=gr hu0 fx r1 p2
    have:b=false:=eB h (by rw [eE rx fx];rfl)
    subst this
    exact⟨z1,z3⟩
   ·rw [k8 rx ry fx fy h]
    exact⟨uD r1 r2 fx fy,vt r1 r2 fx fy⟩
 |succ n ih =>
  intro x y ux uy vx vy b A hu h rx ry r1 r2
  have hu0:A.units<cLine:=by omega
  obtain⟨kt,kl⟩:=x3 I (λx y {_ _ _ _ _ _} a1 a2 a3 a4 a5 a6=>(ih x y a1 a2 a3 a4 a5 a6).1) hu
  rcases ca (eS h).1 rx with ⟨xs,rfl⟩|⟨xs,rfl⟩|fx
  ·obtain⟨a,us,its,e1,e1',t1,w1,p1,l1⟩:=rx.tupAt I r1
   rcases ca (eS h).2 ry with ⟨ys,rfl⟩|⟨ys,rfl⟩|fy
   ·have q:=kt h rx ry r1 r2
    obtain⟨c,ws,its2,e2,e2',t2,w2,p2,l2⟩:=ry.tupAt I r2
    subst e1 e1' e2 e2'
    refine⟨?_,q⟩
    by_cases hac:a=c
    ·subst hac
     have e:=jY I _ _ rx ry
     rw [e]at h
     rw [iE _ _ h]
     exact .same _
    ·exact .of_refs hac q
   ·obtain⟨c,ws,its2,e2,e2',t2,w2,p2,l2⟩:=ry.lstAt I r2
    subst e1 e1' e2 e2'
    cases h
    exact⟨.tuple_list p1 p2 hu0,.tuple_list p1 p2 hu0⟩
   ·subst e1 e1'
    obtain⟨z1,z2,z3,z4⟩:=fC hu0 fy r2 p1
    have:b=false:=eB h (by rw [eE ry fy];rfl)
    subst this
    exact⟨z2,z4⟩
  ·obtain⟨a,us,its,e1,e1',t1,w1,p1,l1⟩:=rx.lstAt I r1
   rcases ca (eS h).2 ry with ⟨ys,rfl⟩|⟨ys,rfl⟩|fy
   ·obtain⟨c,ws,its2,e2,e2',t2,w2,p2,l2⟩:=ry.tupAt I r2
    subst e1 e1' e2 e2'
    cases h
    exact⟨.list_tuple p1 p2 hu0,.list_tuple p1 p2 hu0⟩
   ·have q:=kl h rx ry r1 r2
    obtain⟨c,ws,its2,e2,e2',t2,w2,p2,l2⟩:=ry.lstAt I r2
    subst e1 e1' e2 e2'
    refine⟨?_,q⟩
    by_cases hac:a=c
    ·subst hac
     have e:=jY I _ _ rx ry
     rw [e]at h
     rw [iE _ _ h]
     exact .same _
    ·exact .of_refs hac q
   ·subst e1 e1'
    obtain⟨z1,z2,z3,z4⟩:=gr hu0 fy r2 p1
    have:b=false:=eB h (by rw [eE ry fy];rfl)
    subst this
    exact⟨z2,z4⟩
  ·rcases ca (eS h).2 ry with ⟨ys,rfl⟩|⟨ys,rfl⟩|fy
   ·obtain⟨c,ws,its2,rfl,rfl,t2,w2,p2,l2⟩:=ry.tupAt I r2
    obtain⟨z1,z2,z3,z4⟩:=fC hu0 fx r1 p2
    have:b=false:=eB h (by rw [eE rx fx];rfl)
    subst this
    exact⟨z1,z3⟩
   ·obtain⟨c,ws,its2,rfl,rfl,t2,w2,p2,l2⟩:=ry.lstAt I r2
    obtain⟨z1,z2,z3,z4⟩:=gr hu0 fx r1 p2
    have:b=false:=eB h (by rw [eE rx fx];rfl)
    subst this
    exact⟨z1,z3⟩
   ·rw [k8 rx ry fx fy h]
    exact⟨uD r1 r2 fx fy,vt r1 r2 fx fy⟩
end
section
variable{X:Cx}
theorem Ay(hu:X.A.units+101<cLine):OpR X (compareOp .Eq) (λux uy H Q=>∃x y b,Rep X.K H x ux/\Rep X.K H y uy/\eqF 100 x y=some b/\Q (.bl b) H):=by
 intro pins s σ H ux uy v u Q I rx ry h
 obtain⟨x,y,b,r1,r2,e,q⟩:=h
 exact(nB I 100 x y (by omega) e r1 r2 rx ry).2 _ _ _ _ ⟨.bl b,H,I,rfl,q⟩
theorem Az(hu:X.A.units+101<cLine):OpR X (compareOp .NotEq) (λux uy H Q=>∃x y b,Rep X.K H x ux/\Rep X.K H y uy/\pX x y=true/\eqF 100 x y=some b/\Q (.bl (!b)) H):=by
 intro pins s σ H ux uy v u Q I rx ry h
 obtain⟨x,y,b,r1,r2,ok,e,q⟩:=h
 rcases ca (eS e).1 r1 with ⟨xs,rfl⟩|⟨xs,rfl⟩|fx
 ·cases y with
  |tup ys =>
   obtain⟨a,us,its,rfl,rfl,t1,w1,p1,l1⟩:=r1.tupAt I rx
   obtain⟨c,ws,its2,rfl,rfl,t2,w2,p2,l2⟩:=r2.tupAt I ry
   have e:eqL (eqF 99) xs ys=some b:=e
   obtain⟨hs,hb⟩:=iF xs ys e
   obtain⟨⟨cls,dd,data,sl⟩,ho,hc,n,hd⟩:=id p1
   obtain⟨⟨cls2,dd2,data2,sl2⟩,ho2,hc2,n2,hd2⟩:=id p2
   simp only at hc hd hc2 hd2
   subst hc hd hc2 hd2
   refine richCompare_meets_room (op:=.NotEq) ⟨_,ho,rfl⟩ ⟨_,ho2,rfl⟩ PySem.F.slot_tuple_ne PySem.F.entry_tuple_ne (PySem.F.args_tuple_ne_2 _ _) (SeqAt.tuple_neAt a c its.toArray its2.toArray n n2 dd dd2 sl sl2 _)
    ⟨ho,ho2,iG (n:=99) (λx y {_ _ _ _ _ _} a1 a2 a3 a4 a5 a6=>(nB I 99 x y a1 a2 a3 a4 a5 a6).1) (by omega) t1 t2 w1 w2 hs,?_⟩ (by omega)
   refine⟨(λx=>nomatch x),⟨.bl (!b),H,I,?_,q⟩⟩
   rw [hb]
   simp [l1,l2,L2.av]
  | _=>cases ok
 ·cases y with
  |lst ys =>
   obtain⟨a,us,its,rfl,rfl,t1,w1,p1,l1⟩:=r1.lstAt I rx
   obtain⟨c,ws,its2,rfl,rfl,t2,w2,p2,l2⟩:=r2.lstAt I ry
   have e:(if xs.length=ys.length then eqL (eqF 99) xs ys else some false)=some b:=e
   obtain⟨⟨cls,dd,data,sl⟩,ho,hc,n,hd⟩:=id p1
   obtain⟨⟨cls2,dd2,data2,sl2⟩,ho2,hc2,n2,hd2⟩:=id p2
   simp only at hc hd hc2 hd2
   subst hc hd hc2 hd2
   by_cases hl:xs.length=ys.length
   ·rw [if_pos hl]at e
    obtain⟨hs,hb⟩:=iF xs ys e
    refine richCompare_meets_room (op:=.NotEq) ⟨_,ho,rfl⟩ ⟨_,ho2,rfl⟩ PySem.F.slot_list_ne PySem.F.entry_list_ne (PySem.F.args_list_ne_2 _ _) (SeqAt.list_neAt a c its.toArray its2.toArray n n2 dd dd2 sl sl2 (by simp only [List.size_toArray];omega) _)
     ⟨ho,ho2,iG (n:=99) (λx y {_ _ _ _ _ _} a1 a2 a3 a4 a5 a6=>(nB I 99 x y a1 a2 a3 a4 a5 a6).1) (by omega) t1 t2 w1 w2 hs,?_⟩ (by omega)
    refine⟨(λx=>nomatch x),⟨.bl (!b),H,I,?_,q⟩⟩
    rw [hb,hl,Nat.min_self]
    simp [<- l1,hl,L2.av]
   ·rw [if_neg hl]at e
    cases e
    refine richCompare_meets_room (op:=.NotEq) ⟨_,ho,rfl⟩ ⟨_,ho2,rfl⟩ PySem.F.slot_list_ne PySem.F.entry_list_ne (PySem.F.args_list_ne_2 _ _) (SeqAt.list_ne_lengthsAt a c its.toArray its2.toArray n n2 dd dd2 sl sl2 (by simp only [List.size_toArray,bne_iff_ne];omega)) ⟨ho,ho2,?_⟩ (by omega)
    exact⟨(λx=>nomatch x),⟨.bl true,H,I,rfl,q⟩⟩
  | _=>cases ok
 ·have fy:fU uy=true:=by
   rcases ca (eS e).2 r2 with ⟨ys,rfl⟩|⟨ys,rfl⟩|fy
   ·cases x<;>cases ok
    obtain⟨_,_,rfl,_⟩:∃a us,ux=V.ref a/\_:=by rw [Rep]at r1;exact r1
    exact absurd (show false=true from fx) Bool.false_ne_true
   ·cases x<;>cases ok
    obtain⟨_,_,rfl,_⟩:∃a us,ux=V.ref a/\_:=by rw [Rep]at r1;exact r1
    exact absurd (show false=true from fx) Bool.false_ne_true
   ·exact fy
  have hb:=k8 r1 r2 fx fy e
  subst hb
  refine Cf pins s σ H ux uy v u Q I rx ry ?_
  have key:scal ux uy=true/\decide (ux=uy)=eqV ux uy:=by
   cases x<;>cases y<;>simp only [Rep]at r1 r2<;>first
    | (obtain⟨_,_,rfl,_⟩:=r1;exact absurd (show false=true from fx) Bool.false_ne_true)
    | (obtain⟨_,_,rfl,_⟩:=r2;exact absurd (show false=true from fy) Bool.false_ne_true)
    | (obtain⟨_,rfl,_⟩:=r1;exact absurd (show false=true from fx) Bool.false_ne_true)
    | (obtain⟨_,rfl,_⟩:=r2;exact absurd (show false=true from fy) Bool.false_ne_true)
    | (subst r1 r2;first|(cases ok;done)|exact⟨rfl,by first|exact qB|exact t_|exact qC|exact decide_eq_true rfl|exact decide_eq_false (λz=>by cases z)⟩)
  exact⟨key.1,by rw [key.2];exact q⟩
theorem iH{pins:List (Addr×Obj)}{σ:St}{H:Hp}{s:Shared}(I:Inv X pins σ H s)(hu:X.A.units+101<cLine){x:PV}{ux:V}{vx:Value}(rx:Rep X.K H x ux)(r1:av ux vx){xs:List PV}{us:List V}{its:List Value}(t:Reps X.K H xs us)(w:aw us its){b:Bool}(h:isIn x xs=some b) :
  ∃e:Value->Bool,(∀y,y∈its.toArray->SeqAt.EqAt X.A.in1 s y vx (e y))/\its.toArray.any e=b:=by
 obtain⟨h1,h2⟩:=qW xs h
 classical
 have uniq:∀(z:PV) (u:V) (y:Value),av u y->Rep X.K H z u->∀p:(∃z u,av u y/\Rep X.K H z u),p.choose=z:=λz u y r q p=>by
  obtain⟨u',r',q'⟩:=p.choose_spec
  have e:=r.inj r'
  subst e
  exact jY I _ _ q' q
 refine⟨λy=>if p:∃z u,av u y/\Rep X.K H z u then (eqF 100 p.choose x).getD false else false,?_,?_⟩
 ·intro y hy
  obtain⟨j,hj,e⟩:=List.getElem_of_mem (by simpa using hy:y∈its)
  have ej:its[j]?=some y:=by rw [List.getElem?_eq_getElem hj,e]
  have l1:=w.length
  obtain⟨uy,e1⟩:∃uy,us[j]?=some uy:=⟨_,List.getElem?_eq_getElem (by omega)⟩
  obtain⟨wy,e2,ry⟩:=w.get e1
  rw [ej]at e2
  cases e2
  obtain⟨z,e3,rz⟩:=t.get' e1
  obtain⟨c,hc⟩:=h1 z (List.mem_of_getElem? e3)
  have q:=(nB I 100 z x (A:=X.A.in1) (show X.A.units+1+100<cLine by omega) hc rz rx ry r1).1
  have p:∃z u,av u y/\Rep X.K H z u:=⟨z,uy,ry,rz⟩
  have e4:=uniq z uy y ry rz p
  simp only [p,dite_true,e4,hc,Option.getD_some]
  exact q
 ·rw [h2]
  simp only [List.any_toArray]
  clear h h1 h2
  induction xs generalizing us its with
  |nil =>
   rw [Reps]at t
   subst t
   cases w
   rfl
  |cons z zs ih =>
   rw [Reps]at t
   obtain⟨u,r,rfl,q,t⟩:=t
   cases w with
   |cons rv w =>
    rename_i y ys
    have p:∃z u,av u y/\Rep X.K H z u:=⟨z,u,rv,q⟩
    have e4:=uniq z u y rv q p
    rw [List.any_cons,List.any_cons,ih t w]
    simp only [p,dite_true,e4]
theorem AA(hu:X.A.units+101<cLine):OpR X (compareOp .In) (λux uy H Q=>∃x xs a us b,Rep X.K H x ux/\uy=.ref a/\(SqL X.K H a us\/SqT X.K H a us)/\Reps X.K H xs us/\isIn x xs=some b/\Q (.bl b) H):=by
 intro pins s σ H ux uy v u Q I rx ry h
 obtain⟨x,xs,a,us,b,r1,rfl,hq,r2,e,q⟩:=h
 cases ry
 rcases hq with hq|hq
 ·obtain⟨its,r,pl,hz⟩:=I.list hq
  obtain⟨f,h1,h2⟩:=iH I hu r1 rx r2 r e
  refine SeqAt.in_listAt f pl.isList h1 ?_
  rw [h2]
  exact⟨.bl b,H,I,rfl,q⟩
 ·obtain⟨its,r,pl,hz⟩:=I.tuple hq
  obtain⟨f,h1,h2⟩:=iH I hu r1 rx r2 r e
  refine SeqAt.in_tupleAt f pl h1 ?_
  rw [h2]
  exact⟨.bl b,H,I,rfl,q⟩
theorem sQ(hu:X.A.units+101<cLine):OpR X (compareOp .NotIn) (λux uy H Q=>∃x xs a us b,Rep X.K H x ux/\uy=.ref a/\(SqL X.K H a us\/SqT X.K H a us)/\Reps X.K H xs us/\isIn x xs=some b/\Q (.bl (!b)) H):=by
 intro pins s σ H ux uy v u Q I rx ry h
 obtain⟨x,xs,a,us,b,r1,rfl,hq,r2,e,q⟩:=h
 cases ry
 rcases hq with hq|hq
 ·obtain⟨its,r,pl,hz⟩:=I.list hq
  obtain⟨f,h1,h2⟩:=iH I hu r1 rx r2 r e
  refine SeqAt.notIn_listAt f pl.isList h1 ?_
  rw [h2]
  exact⟨.bl (!b),H,I,rfl,q⟩
 ·obtain⟨its,r,pl,hz⟩:=I.tuple hq
  obtain⟨f,h1,h2⟩:=iH I hu r1 rx r2 r e
  refine SeqAt.notIn_tupleAt f pl h1 ?_
  rw [h2]
  exact⟨.bl (!b),H,I,rfl,q⟩
end
end MM
namespace L2
open PySem PySem.Spec PyProof.Rows
theorem PE.imp{X:Cx}{e:Expr}{t t':TE}(h:PE X e t)(i:∀σ H Q,t' σ H Q->t σ H Q):PE X e t':=λpins s σ H Q I q=>h pins s σ H Q I (i σ H Q q)
theorem PT.imp{X:Cx}{e:Expr}{t t':TT}(h:PT X e t)(i:∀σ H Q,t' σ H Q->t σ H Q):PT X e t':=λpins s σ H Q I q=>h pins s σ H Q I (i σ H Q q)
theorem PA.imp{X:Cx}{e:List Expr}{t t':TA}(h:PA X e t)(i:∀σ H Q,t' σ H Q->t σ H Q):PA X e t':=λpos pins s σ H Q I q=>h pos pins s σ H Q I (i σ H Q q)
theorem PS.imp{X:Cx}{e:Stmt}{t t':TS}(h:PS X e t)(i:∀D σ H,t' D σ H->t D σ H):PS X e t':=λpins s σ H D I q=>h pins s σ H D I (i D σ H q)
theorem PSs.imp{X:Cx}{e:List Stmt}{t t':TS}(h:PSs X e t)(i:∀D σ H,t' D σ H->t D σ H):PSs X e t':=λpins s σ H D I q=>h pins s σ H D I (i D σ H q)
theorem PI.imp{X:Cx}{tg e:Expr}{t t':TI}(h:PI X tg e t)(i:∀σ H R,t' σ H R->t σ H R):PI X tg e t':=λpins s σ H R I q=>h pins s σ H R I (i σ H R q)
end L2
namespace MM
open PySem PySem.Spec PyProof.Rows L2
noncomputable def dP(H:Hp)(ms:List Addr):Hp:=λb=>if b∈ms then none else H b
theorem sR{H:Hp}{O:List Addr}{a l:Addr}(ha:a∈O)(hl:l∈O):af (dP H [a,l]) O=af H O:=by
 funext b
 by_cases hb:b∈O
 ·rw [du hb,du hb]
 ·rw [aD hb,aD hb]
  unfold dP
  rw [if_neg λz=>hb (by
   rcases List.mem_cons.mp z with rfl|z
   ·exact ha
   ·rw [List.mem_singleton.mp z];exact hl)]
theorem fD{α β:Type}{F G:α->β->Prop}(h:∀a b,F a b->G a b):∀{as:List α}{bs:List β},Paired F as bs->Paired G as bs
 | _,_,.nil=>.nil
 | _,_,.cons x t=>.cons (h _ _ x) (fD h t)
noncomputable def dQ(K:PySem.W.Frag)(O:List Addr)(H:Hp):MV->V->Prop
 | .val v,u=>Rep K (af H O) v u
 | .brw xs,u=>∃a us,u=.ref a/\SqL K H a us/\Reps K (af H O) xs us
 | .own _,_=>False
 | .ownD _,_=>False
 | .ownO _ _ _,_=>False
 | .brwO fs xs,u=>∃a,u=.ref a/\dN K H (af H O) fs xs a
 | .brwD kvs,u=>∃a,u=.ref a/\Rd H a (jO kvs)
noncomputable def spM(K:PySem.W.Frag)(cal:Cal)(f:Nat):Sp:=λvs H Q _ =>
 ∃(O:List Addr) (args:List MV) (r:PV),(∀a∈O,H a≠none)/\Paired (dQ K O H) args vs/\cal f args=some r/\∀u H',ac H H'->Rep K (af H' O) r u->Q u H'
noncomputable def spF(K:PySem.W.Frag)(cal:Cal)(f:Nat):Sp:=λvs H Q _ =>
 ∃(O:List Addr) (args:List MV) (xs:List PV),(∀a∈O,H a≠none)/\Paired (dQ K O H) args vs/\cal (f+1000) args=some (.lst xs)/\∀p us H',ac H H'->H p=none->H' p=some (.lst us)->Reps K (af H' (p::O)) xs us->Q (.ref p) H'
noncomputable def spT(K:PySem.W.Frag)(cal:Cal)(f:Nat):Sp:=λvs H Q _ =>
 ∃(O:List Addr) (a l:Addr) (fs xs:List PV) (as:List MV) (ws:List V) (v:Sc) (ys:List PV),vs=.ref a::ws/\(∀b∈O,H b≠none)/\cz K (λ_=>none) O H fs xs a l/\Paired (dQ K O (dP H [a,l])) as ws/\cal (f+3000) (.ownO true fs xs::as)=some (.tup [v.pv,.lst ys]) /\
  ∀l' H',(∀b o,b≠a->b≠l->H b=some o->H' b=some o)->(l'=l\/H l'=none)->cz K (λ_=>none) (l'::O.filter λb=>decide (b≠l)) H' fs ys a l'->Q v.v H'
noncomputable def oO (c r o:V) (l:Addr):List (Str×V):=dG "taken" (.ref l) (dG "opener" o (dG "ribbons" r (dG "hole_count" c [])))
noncomputable def spI(K:PySem.W.Frag)(C:Addr):Sp:=λvs H Q _ =>
 ∃(x dx la:Addr) (c r o:V),vs=[.ref x,.ref la,o]/\H x=some (.ins C dx [])/\SqT K H la [c,r] /\
  ∀(l:Addr) (H':Hp),H l=none->H' x=some (.ins C dx (oO c r o l))->H' l=some (.lst [])->(∀b u,b≠x->H b=some u->H' b=some u)->Q .non H'
noncomputable def fg:List String:=["len","tuple","list","sorted","any","all","sum","max","min","int","bool","str","isinstance","set","range","enumerate","reversed"
 ]
noncomputable def toV:PV->V
 | .non=>.non
 | .bl b=>.bl b
 | .int i=>.int i
 | .str x=>.str x
 | _=>.non
structure Gf(X:Cx)(T:Tab)(k:Nat)(cal:Cal):Prop where
 calm:X.calm=true
 room:cJ k X.A
 fns:∀(f:Nat) (x:Str),T.fs[f]?=some x->ay x=true->∃(fa:Addr) (fd:FuncData) (ps:List Str),X.mg x=some (.ref fa)/\PySem.W.keepIn X.K (.ref fa)=true/\a9 X.K fd ps []/\bW X.prog X.w X.K X.mg X.base CX0 k fa fd ps (spM X.K cal f)/\∀l,T.ds[f]?=some l->∃vs,a9 X.K fd ps vs/\aw (l.map Sc.v) vs
 blt:∀x∈fg,X.mg (x:Str)=none
 gs:∀p∈T.gs,∃u,X.mg p.1=some u/\av (toV p.2) u
 cls:∀C,IsC X.K C->Cls X.K C/\(∀x∈gT,dH X.K C x)/\dH X.K C "taken"
 meths:∀(f:Nat) (m:Str),T.ms[f]?=some (some m)->∀C,IsC X.K C->∃(fa:Addr) (fd:FuncData) (ps:List Str),lK X.K C m fa/\a9 X.K fd ps []/\bW X.prog X.w X.K X.mg X.base CX0 k fa fd ps (spM X.K cal f)
 methsT:∀(f:Nat) (m:Str),T.ms[f]?=some (some m)->∀C,IsC X.K C->∃(fa:Addr) (fd:FuncData) (ps:List Str),lK X.K C m fa/\a9 X.K fd ps []/\bW X.prog X.w X.K X.mg X.base CX0 k fa fd ps (spT X.K cal f)
 lvl:cal 4000 []≠none->cJ 2 X.A
 ini:cal 4000 []≠none->∃C,IsC X.K C/\X.mg ("Table":Str)=some (.ref C)/\∃(fa:Addr) (fd:FuncData) (ps:List Str),Mk X.K C fa/\a9 X.K fd ps []/\bW X.prog X.w X.K X.mg X.base CX0 1 fa fd ps (spI X.K C)/\∃vs,a9 X.K fd ps vs/\aw [V.str "weaver"] vs
 fnsF:∀(f:Nat) (x:Str),T.fs[f]?=some x->ay x=true->∃(fa:Addr) (fd:FuncData) (ps:List Str),X.mg x=some (.ref fa)/\PySem.W.keepIn X.K (.ref fa)=true/\a9 X.K fd ps []/\bW X.prog X.w X.K X.mg X.base CX0 k fa fd ps (spF X.K cal f)
theorem Gf.units{X:Cx}{T:Tab}{k:Nat}{cal:Cal}(g:Gf X T k cal):X.A.units+200<cLine:=by have:=g.room.un;omega
noncomputable def Got(K:PySem.W.Frag)(H:Hp)(O:List Addr)(me:ME)(v:PV)(u:V):Prop:=ba K H O v u/\(aI me=false->Rep K (af H O) v u)
noncomputable def tE(K:PySem.W.Frag)(cal:Cal)(me:ME):TE:=λσ H Q=>∃B O₀ O ρ v,aF K B O₀ O H ρ σ/\ev cal me ρ=some v/\∀u H',ac H H'->Got K H' O me v u->Q u H'
noncomputable def tT(K:PySem.W.Frag)(cal:Cal)(me:ME):TT:=λσ H Q=>∃B O₀ O ρ b,aF K B O₀ O H ρ σ/\evB cal me ρ=some b/\∀H',ac H H'->Q b H'
noncomputable def EC(K:PySem.W.Frag)(H:Hp)(O:List Addr)(ms:List ME)(vs:List PV)(us:List V):Prop:=Paired (ba K H O) vs us/\((ms.all λm=>!aI m)=true->Reps K (af H O) vs us)
noncomputable def tEs(K:PySem.W.Frag)(cal:Cal)(ms:List ME):TA:=λσ H Q=>∃B O₀ O ρ vs,aF K B O₀ O H ρ σ/\evs cal ms ρ=some vs/\∀us H',ac H H'->EC K H' O ms vs us->Q us H'
noncomputable def tAs(K:PySem.W.Frag)(cal:Cal)(ms:List ME):TA:=λσ H Q=>∃B O₀ O ρ vs,aF K B O₀ O H ρ σ/\evA cal ms ρ=some vs/\∀us H',ac H H'->Paired (dQ K O H') vs us->Q us H'
section
variable{K:PySem.W.Frag}{H H':Hp}{O:List Addr}
theorem Got.of{me:ME}{v:PV}{u:V}(h:Rep K (af H O) v u):Got K H O me v u:=⟨.inl h,λ_=>h⟩
theorem Got.scal{me:ME}{v:PV}{u:V}(h:∀F,Rep K F v u):Got K H O me v u:=.of (h _)
theorem Got.mono{me:ME}{v:PV}{u:V}(s:ac H H')(h:Got K H O me v u):Got K H' O me v u:=⟨h.1.mono s,λe=>Rep.mono (ag s) _ (h.2 e)⟩
theorem cj(F:Hp)(b:Bool):Rep K F (.bl b) (.bl b):=by rw [Rep]
theorem eF(F:Hp)(b:Int):Rep K F (.int b) (.int b):=by rw [Rep]
theorem nD(F:Hp)(b:Str):Rep K F (.str b) (.str b):=by rw [Rep]
theorem nE(F:Hp):Rep K F .non .non:=by rw [Rep]
theorem iI{H1:Hp}{p:Addr}{xs:List PV}{us:List V}(hO:∀a∈O,H1 a≠none)(hp:H1 p=none)(h:Reps K (af H1 O) xs us):Rep K (af (upd H1 p (.tup us)) O) (.tup xs) (.ref p):=by
 rw [Rep]
 refine⟨p,us,rfl,?_,Reps.mono (ag (aA hp _)) _ h⟩
 rw [aD (λz=>hO p z hp)]
 exact ah
theorem oP{H1:Hp}{p:Addr}{xs:List PV}{us:List V}(hO:∀a∈O,H1 a≠none)(hp:H1 p=none)(h:Reps K (af H1 O) xs us):Rep K (af (upd H1 p (.lst us)) O) (.lst xs) (.ref p):=by
 rw [Rep]
 refine⟨p,us,rfl,SqL.of ?_,Reps.mono (ag (aA hp _)) _ h⟩
 rw [aD (λz=>hO p z hp)]
 exact ah
theorem a_(s:ac H H')(h:∀a∈O,H a≠none):∀a∈O,H' a≠none:=λa ha e=>h a ha (s.free e)
theorem fh{n:Nat}(h:n<=10000):n<=sizeLine:=Nat.le_trans h (by decide)
end
section
variable{X:Cx}{T:Tab}{k:Nat}{cal:Cal}
theorem CI{sc:Scope}{x:Str}(h:Af sc x=true):Vis sc x:=by
 unfold Af at h
 simp only [Bool.or_eq_true,beq_iff_eq]at h
 rcases h with (h|h)|h
 ·exact .inl h
 ·exact .inr (.inl h)
 ·exact .inr (.inr h)
theorem fj{sc:Scope}{x:Str}(h:fc sc x=true):Loc sc x:=by
 unfold fc at h
 simp only [Bool.or_eq_true,beq_iff_eq]at h
 exact h
theorem jZ {x:Str} (h:ay x=true):(x == ("__debug__":Str))=false/\(x == ("__classdict__":Str))=false/\x ≠ "__name__":=by
 unfold ay at h
 simp only [Bool.and_eq_true,Bool.not_eq_true']at h
 obtain⟨⟨h1,h2⟩,h3⟩:=h
 exact⟨h1,h2,λe=>by rw [e]at h3;simp at h3⟩
theorem dw{x:Str}(h:glB X.env.scope x=true):Gl X x:=by
 unfold glB at h
 simp only [beq_iff_eq]at h
 exact h
theorem bz{i:Nat}{x:Str}{pos:Pos}(h:ar X.N X.env.scope i x=true):PE X (.Name x pos) (br i):=by
 unfold ar at h
 simp only [Bool.and_eq_true,beq_iff_eq]at h
 obtain⟨⟨h1,h2⟩,h3⟩:=h
 obtain⟨p1,p2,_⟩:=jZ h3
 exact pq h1 (CI h2) p1 p2
theorem bh{K:PySem.W.Frag}{B H:Hp}{O₀ O:List Addr}{ρ:Rho}{σ:St}(st:aF K B O₀ O H ρ σ){i:Nat}{m:MV}(e:(ρ[i]?).join=some m):∃u,σ[i]?=some (some u)/\da K B O H m u:=st.slot i m (bB e)
theorem zd{i:Nat}{x:Str}{pos:Pos}(h:ar X.N X.env.scope i x=true):PE X (.Name x pos) (tE X.K cal (.var i)):=by
 refine(bz h).imp λσ H Q hq=>?_
 obtain⟨B,O₀,O,ρ,v,st,he,q⟩:=hq
 rw [ev]at he
 cases hj:(ρ[i]?).join with
 |none=>rw [hj]at he;cases he
 |some m =>
  rw [hj]at he
  cases m with
  |val w =>
   simp only [vb,Option.some.injEq]at he
   subst he
   obtain⟨u,e1,r⟩:=bh st hj
   exact⟨u,e1,q u H (ac.refl H) (.of r)⟩
  |own _=>cases he
  |brw _=>cases he
  |ownD _=>cases he
  |ownO _ _ _=>cases he
  |brwO _ _=>cases he
  |brwD _=>cases he
theorem ze{i:Nat}{x:Str}{pos:Pos}(h:ar X.N X.env.scope i x=true):PE X (.Name x pos) (tE X.K cal (.bor i)):=by
 refine(bz h).imp λσ H Q hq=>?_
 obtain⟨B,O₀,O,ρ,v,st,he,q⟩:=hq
 rw [ev]at he
 cases hj:(ρ[i]?).join with
 |none=>rw [hj]at he;cases he
 |some m =>
  rw [hj]at he
  obtain⟨u,e1,r⟩:=bh st hj
  exact⟨u,e1,q u H (ac.refl H) ⟨r.bor st.keep he,λz=>by cases z⟩⟩
theorem zf{v:PV}{c:Const}{j:Nat}{pos:Pos}(h:qa v c=true):PE X (.Constant c j pos) (tE X.K cal (.cst v)):=by
 have key:∀(u:V),(∀F,Rep X.K F v u)->PE X (.Constant c j pos) (tC u)->PE X (.Constant c j pos) (tE X.K cal (.cst v)):=λu r p=>p.imp λσ H Q hq=>by
  obtain⟨B,O₀,O,ρ,w,st,he,q⟩:=hq
  rw [ev]at he
  cases he
  exact q u H (ac.refl H) (.scal r)
 cases v<;>cases c<;>simp only [qa,Bool.false_eq_true,beq_iff_eq]at h
 ·exact key .non (λF=>nE F) zw
 ·subst h;exact key _ (λF=>cj F _) y0
 ·subst h;exact key _ (λF=>eF F _) mU
 ·subst h;exact key _ (λF=>nD F _) pw
theorem vv{x y:Str}{v:PV}{pos:Pos}(g:Gf X T k cal)(h:(x == y&&glB X.env.scope x&&vk T.gs x v&&ay x)=true):PE X (.Name y pos) (tE X.K cal (.glob x v)):=by
 simp only [Bool.and_eq_true,beq_iff_eq]at h
 obtain⟨⟨⟨rfl,hg⟩,hs⟩,hp⟩:=h
 unfold vk at hs
 obtain⟨p,hp1,hp2⟩:=List.any_eq_true.mp hs
 simp only [Bool.and_eq_true,beq_iff_eq]at hp2
 obtain⟨rfl,hv⟩:=hp2
 obtain⟨u,e1,r⟩:=g.gs p hp1
 have e:p.2=v/\∀F,Rep X.K F v (toV v):=by
  revert hv
  generalize p.2=z
  intro hv
  cases z<;>cases v<;>simp only [y_,Bool.false_eq_true,beq_iff_eq]at hv
  ·exact⟨rfl,λF=>nE F⟩
  ·subst hv;exact⟨rfl,λF=>cj F _⟩
  ·subst hv;exact⟨rfl,λF=>eF F _⟩
  ·subst hv;exact⟨rfl,λF=>nD F _⟩
 rw [e.1]at r
 refine(xh (dw hg) e1 r (jZ hp).1).imp λσ H Q hq=>?_
 obtain⟨B,O₀,O,ρ,w,st,he,q⟩:=hq
 rw [ev]at he
 cases he
 exact q _ H (ac.refl H) (.scal e.2)
end
section
variable{X:Cx}
noncomputable def R2M(K:PySem.W.Frag)(f:PV->PV->Option PV):R2:=λux uy H Q =>
 ∃O x y v,(∀a∈O,H a≠none)/\ba K H O x ux/\ba K H O y uy/\f x y=some v/\∀u H',ac H H'->Rep K (af H' O) v u->Q u H'
theorem ji{op:Operator}{C:Int->Int->Prop}{g:Int->Int->Int}{f:PV->PV->Option PV}(h:OpR X (binaryOp op) (rI C λi j=>.int (g i j)))
  (hf:∀x y v,f x y=some v->∃i j,x=.int i/\y=.int j/\C i j/\v=.int (g i j)):OpR X (binaryOp op) (R2M X.K f):=by
 intro pins s σ H ux uy v u Q I rx ry hq
 obtain⟨O,x,y,w,hO,r1,r2,e,q⟩:=hq
 obtain⟨i,j,rfl,rfl,c,rfl⟩:=hf x y w e
 have e1:=r1.int
 have e2:=r2.int
 subst e1 e2
 exact h pins s σ H _ _ v u Q I rx ry ⟨i,j,rfl,rfl,c,q _ H (ac.refl H) (eF _ _)⟩
theorem x4:OpR X (binaryOp .Add) (λx y H Q=>∃l b xs zs,x=.ref l/\y=.ref b/\SqL X.K H l xs/\SqL X.K H b zs/\xs.length+zs.length<=sizeLine/\∀p,H p=none->Q (.ref p) (upd H p (.lst (xs++zs)))):=by
 intro pins s σ H x y v u Q I rx ry h
 obtain⟨l,b,xs,zs,rfl,rfl,hH,hB,hz,q⟩:=h
 cases rx
 cases ry
 obtain⟨its,r,pl,_⟩:=I.list hH
 obtain⟨its2,r2,pl2,_⟩:=I.list hB
 have l1:=r.length
 have l2:=r2.length
 obtain⟨⟨cls,dd,data,sl⟩,ho,hc,n,hd⟩:=pl.isList
 obtain⟨⟨cls2,dd2,data2,sl2⟩,ho2,hc2,n2,hd2⟩:=pl2.isList
 simp only at hc hd hc2 hd2
 subst hc hd hc2 hd2
 have e:its.toArray++its2.toArray=(its++its2).toArray:=by simp
 refine concat_meets ⟨_,ho,rfl⟩ ⟨_,ho2,rfl⟩ noFill_list_add seq_list_add PySem.F.slot_list_add PySem.F.entry_list_add (PySem.F.args_list_add_2 _ _) (list_addW l b its.toArray its2.toArray n n2 dd dd2 sl sl2 (by rw [List.size_toArray,List.size_toArray];omega)) ⟨ho,ho2,?_⟩
 rw [e]
 exact⟨.ref _,_,I.lnew (t':=s.toks) (r.append r2) (by rw [List.length_append];omega),rfl,q _ I.fresh⟩
theorem x5:OpR X (binaryOp .Add) (λx y H Q=>∃a b ys,x=.ref a/\y=.ref b/\SqT X.K H a []/\SqT X.K H b ys/\Q (.ref b) H):=by
 intro pins s σ H x y v u Q I rx ry h
 obtain⟨a,b,ys,rfl,rfl,ha,hb,q⟩:=h
 cases rx
 cases ry
 obtain⟨its,r1,⟨⟨c1,d1,t1,l1⟩,ho,hc,n,hd⟩,_⟩:=I.tuple ha
 obtain⟨its2,r2,⟨⟨c2,d2,t2,l2⟩,ho2,hc2,n2,hd2⟩,_⟩:=I.tuple hb
 cases hc
 cases hd
 cases hc2
 cases hd2
 have none0:its=[]:=r1.nil_iff.mpr rfl
 have meets:=tuple_addW0 a b its.toArray its2.toArray n n2 d1 d2 l1 l2 (by simp [none0])
 exact concat_meets ⟨_,ho,rfl⟩ ⟨_,ho2,rfl⟩ noFill_tuple_add seq_tuple_add PySem.F.slot_tuple_add PySem.F.entry_tuple_add (PySem.F.args_tuple_add_2 _ _) meets ⟨ho,ho2,.ref b,H,I,rfl,q⟩
theorem dC{α:Type}{f:Int->Int->Option α}{x y:PV}{v:α}(h:iy f x y=some v):∃i j,x=.int i/\y=.int j/\f i j=some v:=by
 cases x<;>try (cases h;done)
 cases y<;>try (cases h;done)
 exact⟨_,_,rfl,rfl,h⟩
theorem iJ{C:Int->Int->Prop} [∀i j,Decidable (C i j)] {g:Int->Int->Int}{x y v:PV} (h:iy (λi j=>if C i j then some (.int (g i j)) else none) x y=some v):∃i j,x=.int i/\y=.int j/\C i j/\v=.int (g i j):=by
 obtain⟨i,j,e1,e2,e3⟩:=dC h
 by_cases c:C i j
 ·rw [if_pos c]at e3
  exact⟨i,j,e1,e2,c,(Option.some.inj e3).symm⟩
 ·rw [if_neg c]at e3
  cases e3
theorem AB(op:Op2):OpR X (binaryOp (As op)) (R2M X.K (fW op)):=by
 cases op with
 |sub=>exact ji (C:=λ_ _=>True) (g:=λi j=>i-j) (λpins s σ H x y v u Q I rx ry h=>zO pins s σ H x y v u Q I rx ry (by obtain⟨i,j,e1,e2,_,q⟩:=h;exact⟨i,j,e1,e2,q⟩)) (λx y v h=>by
   obtain⟨i,j,e1,e2,e3⟩:=dC h
   exact⟨i,j,e1,e2,trivial,(Option.some.inj e3).symm⟩)
 |mul=>exact ji zP λx y v h=>by have q:=iJ h;exact q
 |fdiv=>exact ji xn λx y v h=>by have q:=iJ h;exact q
 |mod=>exact ji zQ λx y v h=>by have q:=iJ h;exact q
 |pow=>exact ji zR λx y v h=>by have q:=iJ h;exact q
 |shr=>exact ji zS λx y v h=>by have q:=iJ h;exact q
 |add =>
  intro pins s σ H ux uy v u Q I rx ry hq
  obtain⟨O,x,y,w,hO,r1,r2,e,q⟩:=hq
  cases x<;>try (cases e;done)
  all_goals (cases y<;>simp only [fW,y6]at e<;>try (cases e;done))
  ·cases e
   have e1:=r1.int
   have e2:=r2.int
   subst e1 e2
   exact zN pins s σ H _ _ v u Q I rx ry ⟨_,_,rfl,rfl,q _ H (ac.refl H) (eF _ _)⟩
  ·split at e
   ·rename_i c
    cases e
    have e1:=r1.str
    have e2:=r2.str
    subst e1 e2
    exact pC pins s σ H _ _ v u Q I rx ry ⟨_,_,rfl,rfl,Nat.le_trans c (by decide),q _ H (ac.refl H) (nD _ _)⟩
   ·cases e
  ·split at e
   ·rename_i c
    cases e
    obtain⟨a,us,rfl,s1,t1⟩:=r1.tup
    obtain⟨b,ws,rfl,s2,t2⟩:=r2.tup
    have l1:=t1.length
    have l2:=t2.length
    have w1:=r1.tupR
    have w2:=r2.tupR
    by_cases z0:us=[]
    ·subst z0
     have z1:=List.eq_nil_of_length_eq_zero l1
     subst z1
     exact x5 pins s σ H _ _ v u Q I rx ry ⟨a,b,ws,rfl,rfl,s1,s2,q _ H (ac.refl H) w2⟩
    refine xy pins s σ H _ _ v u Q I rx ry ⟨a,b,us,ws,rfl,rfl,s1,s2,z0,fh (by omega),λz=>?_,λz p hp=>?_⟩
    ·rw [z,List.length_nil]at l2
     have z1:=List.eq_nil_of_length_eq_zero l2
     subst z1
     rw [List.append_nil]at q
     exact q _ H (ac.refl H) w1
    ·exact q _ _ (aA hp _) (iI hO hp (t1.append t2))
   ·cases e
  ·split at e
   ·rename_i c
    cases e
    obtain⟨a,us,rfl,s1,t1⟩:=r1.lst
    obtain⟨b,ws,rfl,s2,t2⟩:=r2.lst
    have l1:=t1.length
    have l2:=t2.length
    exact x4 pins s σ H _ _ v u Q I rx ry ⟨a,b,us,ws,rfl,rfl,s1,s2,fh (by omega),λp hp=>q _ _ (aA hp _) (oP hO hp (t1.append t2))⟩
   ·cases e
noncomputable def R2C(K:PySem.W.Frag)(f:PV->PV->Option Bool):R2:=λux uy H Q =>
 ∃O x y b,ba K H O x ux/\ba K H O y uy/\f x y=some b/\Q (.bl b) H
theorem j9{op:CmpOp}{g:Int->Int->Bool}{f:PV->PV->Option Bool}(h:OpR X (compareOp op) (rI0 λi j=>.bl (g i j)))
  (hf:∀x y v,f x y=some v->∃i j,x=.int i/\y=.int j/\v=g i j):OpR X (compareOp op) (R2C X.K f):=by
 intro pins s σ H ux uy v u Q I rx ry hq
 obtain⟨O,x,y,w,r1,r2,e,q⟩:=hq
 obtain⟨i,j,rfl,rfl,rfl⟩:=hf x y w e
 have e1:=r1.int
 have e2:=r2.int
 subst e1 e2
 exact h pins s σ H _ _ v u Q I rx ry ⟨i,j,rfl,rfl,q⟩
theorem AC:OpR X (compareOp .Is) (λx y H Q=>∃p q,x=.bl p/\y=.bl q/\Q (.bl (p == q)) H):=by
 rintro pins s σ H x y v u Q I rx ry ⟨p,q,rfl,rfl,hq⟩
 cases rx
 cases ry
 exact wpAny_pure (bJ I hq (by cases p<;>cases q<;>rfl))
theorem sS:OpR X (compareOp .IsNot) (λx y H Q=>∃p q,x=.bl p/\y=.bl q/\Q (.bl (!(p == q))) H):=by
 rintro pins s σ H x y v u Q I rx ry ⟨p,q,rfl,rfl,hq⟩
 cases rx
 cases ry
 exact wpAny_pure (bJ I hq (by cases p<;>cases q<;>rfl))
theorem qY{K:PySem.W.Frag}{H:Hp}{O:List Addr}{x:PV}{u:V}(r:ba K H O x u):decide (u=.non)=iz x:=by
 cases x with
 |non=>rw [r.non];rfl
 |bl b=>rw [r.bl];rfl
 |int b=>rw [r.int];rfl
 |str b=>rw [r.str];rfl
 |tup xs=>obtain⟨a,us,rfl,_⟩:=r.tup;rfl
 |lst xs=>obtain⟨a,us,rfl,_⟩:=r.lst;rfl
 |dI kvs=>obtain⟨a,rfl,_⟩:=r.dI;rfl
theorem f_(hu:X.A.units+200<cLine)(op:Cp):OpR X (compareOp (fB op)) (R2C X.K (bS op)):=by
 cases op with
 |lt=>exact j9 Cg λx y v h=>by obtain⟨i,j,e1,e2,e3⟩:=dC h;exact⟨i,j,e1,e2,(Option.some.inj e3).symm⟩
 |le=>exact j9 Ch λx y v h=>by obtain⟨i,j,e1,e2,e3⟩:=dC h;exact⟨i,j,e1,e2,(Option.some.inj e3).symm⟩
 |gt=>exact j9 Ci λx y v h=>by obtain⟨i,j,e1,e2,e3⟩:=dC h;exact⟨i,j,e1,e2,(Option.some.inj e3).symm⟩
 |ge=>exact j9 Cj λx y v h=>by obtain⟨i,j,e1,e2,e3⟩:=dC h;exact⟨i,j,e1,e2,(Option.some.inj e3).symm⟩
 |eq =>
  intro pins s σ H ux uy v u Q I rx ry hq
  obtain⟨O,x,y,w,r1,r2,e,q⟩:=hq
  exact Ay (by omega) pins s σ H ux uy v u Q I rx ry ⟨x,y,w,r1.whole,r2.whole,e,q⟩
 |ne =>
  intro pins s σ H ux uy v u Q I rx ry hq
  obtain⟨O,x,y,w,r1,r2,e,q⟩:=hq
  simp only [bS]at e
  split at e
  ·rename_i c
   simp only [Option.map_eq_some_iff]at e
   obtain⟨b,e,rfl⟩:=e
   exact Az (by omega) pins s σ H ux uy v u Q I rx ry ⟨x,y,b,r1.whole,r2.whole,c,e,q⟩
  ·cases e
 |isN =>
  intro pins s σ H ux uy v u Q I rx ry hq
  obtain⟨O,x,y,w,r1,r2,e,q⟩:=hq
  cases y<;>try (cases e;done)
  ·have e2:=r2.non
   subst e2
   refine zT pins s σ H ux _ v u Q I rx ry ⟨rfl,?_⟩
   have e:some (iz x)=some w:=e
   rw [qY r1,Option.some.inj e]
   exact q
  ·cases x<;>try (cases e;done)
   have e1:=r1.bl
   have e2:=r2.bl
   subst e1 e2
   exact AC pins s σ H _ _ v u Q I rx ry ⟨_,_,rfl,rfl,by rw [Option.some.inj e];exact q⟩
 |notN =>
  intro pins s σ H ux uy v u Q I rx ry hq
  obtain⟨O,x,y,w,r1,r2,e,q⟩:=hq
  cases y<;>try (cases e;done)
  ·have e2:=r2.non
   subst e2
   refine xq pins s σ H ux _ v u Q I rx ry ⟨rfl,?_⟩
   have e:some (!iz x)=some w:=e
   rw [qY r1,Option.some.inj e]
   exact q
  ·cases x<;>try (cases e;done)
   have e1:=r1.bl
   have e2:=r2.bl
   subst e1 e2
   cases e
   exact sS pins s σ H _ _ v u Q I rx ry ⟨_,_,rfl,rfl,q⟩
 |isIn =>
  intro pins s σ H ux uy v u Q I rx ry hq
  obtain⟨O,x,y,w,r1,r2,e,q⟩:=hq
  simp only [bS,Option.bind_eq_some_iff]at e
  obtain⟨xs,e1,e2⟩:=e
  obtain⟨a,us,rfl,s2,t2⟩:=r2.seq e1
  exact AA (by omega) pins s σ H ux _ v u Q I rx ry ⟨x,_,a,us,w,r1.whole,rfl,s2,Reps.mono (aU H O) _ t2,e2,q⟩
 |notIn =>
  intro pins s σ H ux uy v u Q I rx ry hq
  obtain⟨O,x,y,w,r1,r2,e,q⟩:=hq
  simp only [bS,Option.bind_eq_some_iff,Option.map_eq_some_iff]at e
  obtain⟨b,⟨xs,e1,e2⟩,rfl⟩:=e
  obtain⟨a,us,rfl,s2,t2⟩:=r2.seq e1
  exact sQ (by omega) pins s σ H ux _ v u Q I rx ry ⟨x,_,a,us,b,r1.whole,rfl,s2,Reps.mono (aU H O) _ t2,e2,q⟩
theorem oQ(n:Nat)(i:Int):place n i=ixN n i:=rfl
theorem AD:IxR X (R2M X.K gH):=by
 intro value slice pins s σ H ux uy v u Q I rx ry hq hsub
 obtain⟨O,x,y,w,hO,r1,r2,e,q⟩:=hq
 cases x<;>cases y<;>simp only [gH]at e<;>try (cases e;done)
 ·simp only [Option.bind_eq_some_iff]at e
  obtain⟨j,e1,e2⟩:=e
  obtain⟨a,us,rfl,s1,t1⟩:=r1.tup
  have e3:=r2.int
  subst e3
  obtain⟨uw,e4,rw'⟩:=t1.get e2
  refine uB value slice pins s σ H _ _ v u Q I rx ry (.inr (.inl ⟨a,us,_,uw,rfl,rfl,s1,?_,q uw H (ac.refl H) rw'⟩)) hsub
  unfold atI
  rw [<- t1.length,<- oQ,e1]
  exact e4
 ·simp only [Option.bind_eq_some_iff]at e
  obtain⟨j,e1,e2⟩:=e
  obtain⟨a,us,rfl,s1,t1⟩:=r1.lst
  have e3:=r2.int
  subst e3
  obtain⟨uw,e4,rw'⟩:=t1.get e2
  refine uB value slice pins s σ H _ _ v u Q I rx ry (.inl ⟨a,us,_,uw,rfl,rfl,s1,?_,q uw H (ac.refl H) rw'⟩) hsub
  unfold atI
  rw [<- t1.length,<- oQ,e1]
  exact e4
theorem qc{b:Expr}(h:cB b=true):qH b:=by
 intro o i
 cases b<;>first|rfl|(simp [cB]at h)
theorem oR{K:PySem.W.Frag}{F:Hp}{xs:List PV}{us:List V}(h:Reps K F xs us)(lo hi:Option Int):Reps K F (cut xs lo hi) (n6 us lo hi):=by
 have hl:=h.length
 have e:∀(n d:Nat) (o:Option Int),gI n d o=HT.sIx n d o:=λn d o=>by cases o<;>rfl
 unfold cut n6
 rw [e,e,hl]
 exact(h.drop _).take _
theorem AE:SlR X (λx lo hi H Q=>∃O v w,(∀a∈O,H a≠none)/\ba X.K H O v x/\jU v lo hi=some w/\∀u H',ac H H'->Rep X.K (af H' O) w u->Q u H'):=by
 intro pins s σ H x v vl vu lo hi sl Q I rx hs pl pu hq
 obtain⟨O,pv,w,hO,r1,e,q⟩:=hq
 cases pv<;>simp only [jU]at e<;>try (cases e;done)
 ·rename_i xs
  cases e
  obtain⟨a,us,rfl,s1,t1⟩:=r1.tup
  have e:∀(n d:Nat) (o:Option Int),gI n d o=HT.sIx n d o:=λn d o=>by cases o<;>rfl
  by_cases hn:HT.sIx us.length 0 lo=0/\HT.sIx us.length us.length hi=us.length
  ·refine xP pins s σ H _ v vl vu lo hi sl Q I rx hs pl pu ⟨a,us,rfl,s1,hn.1,hn.2,q _ _ (ac.refl H) ?_⟩
   have:cut xs lo hi=xs:=by
    unfold cut
    rw [e,e,t1.length,hn.1,hn.2,List.drop_zero,<- t1.length,Nat.sub_zero,List.take_length]
   rw [this]
   exact r1.tupR
  ·exact zX pins s σ H _ v vl vu lo hi sl Q I rx hs pl pu ⟨a,us,rfl,s1,hn,λp hp=>q _ _ (aA hp _) (iI hO hp (oR t1 lo hi))⟩
 ·cases e
  obtain⟨a,us,rfl,s1,t1⟩:=r1.lst
  exact xz pins s σ H _ v vl vu lo hi sl Q I rx hs pl pu ⟨a,us,rfl,s1,λp hp=>q _ _ (aA hp _) (oP hO hp (oR t1 lo hi))⟩
end
end MM
namespace MM
open PySem PySem.Spec PyProof.Rows L2
theorem qZ(x:Int):∀l,u_ x l=Srt.jM Srt.cM x l
 | []=>rfl
 |y::r=>by
  show(if y<x then y::u_ x r else x::y::r)=(if Srt.cM.blt y x=true then y::Srt.jM Srt.cM x r else x::y::r)
  rw [qZ x r]
  by_cases h:y<x
  ·have e:Srt.cM.blt y x=true:=decide_eq_true h
   rw [if_pos h,if_pos e]
  ·have e:Srt.cM.blt y x=false:=decide_eq_false h
   rw [if_neg h,if_neg (by rw [e];exact Bool.false_ne_true)]
theorem dR:∀l,sortI l=Srt.sortI l
 | []=>rfl
 |x::r=>by
  show u_ x (sortI r)=Srt.jM Srt.cM x (Srt.fM Srt.cM r)
  rw [dR r,qZ];rfl
theorem iK:∀a b,lexLt a b=HT.lexLt a b
 | [],[]=>rfl
 | [],_::_=>rfl
 | _::_,[]=>rfl
 |x::xs,y::ys=>by
  rw [lexLt,HT.lexLt_cons,iK xs ys]
theorem q_(x:List Int):∀l,va x l=Srt.jM Srt.cK x l
 | []=>rfl
 |y::r=>by
  show(if lexLt y x=true then y::va x r else x::y::r)=(if Srt.cK.blt y x=true then y::Srt.jM Srt.cK x r else x::y::r)
  rw [q_ x r,iK]
  rfl
theorem dS:∀l,sortT l=Srt.sortT l
 | []=>rfl
 |x::r=>by
  show va x (sortT r)=Srt.jM Srt.cK x (Srt.fM Srt.cK r)
  rw [dS r,q_];rfl
theorem oS:∀l,dd l=St.dd l
 | []=>rfl
 |x::r=>by
  unfold dd St.dd
  rw [oS r]
theorem x6(ns:List Int):Srt.sortI (St.dd ns.reverse)=sortI (dd ns):=by
 rw [dR,oS]
 refine Srt.sortI_of_perm ?_
 refine(List.perm_ext_iff_of_nodup (St.dd_nodup _) (St.dd_nodup _)).mpr λa=>?_
 rw [St.gM,St.gM,List.mem_reverse]
theorem AF(ns:List Int):(St.dd ns.reverse).length=(dd ns).length:=by
 rw [oS]
 refine List.Perm.length_eq ((List.perm_ext_iff_of_nodup (St.dd_nodup _) (St.dd_nodup _)).mpr λa=>?_)
 rw [St.gM,St.gM,List.mem_reverse]
section
variable{X:Cx}{T:Tab}{k:Nat}{cal:Cal}
noncomputable def RBM(K:PySem.W.Frag)(f:List PV->Option PV):List V->Hp->VK->Prop:=λus H Q =>
 ∃O vs v,(∀a∈O,H a≠none)/\Paired (ba K H O) vs us/\f vs=some v/\∀u H',ac H H'->Rep K (af H' O) v u->Q u H'
theorem p1{K:PySem.W.Frag}{H:Hp}{O:List Addr}{x:PV}{us:List V}(h:Paired (ba K H O) [x] us):∃u,us=[u]/\ba K H O x u:=by
 cases h with
 |cons r t=>cases t;exact⟨_,rfl,r⟩
theorem p2{K:PySem.W.Frag}{H:Hp}{O:List Addr}{x y:PV}{us:List V}(h:Paired (ba K H O) [x,y] us):∃u w,us=[u,w]/\ba K H O x u/\ba K H O y w:=by
 cases h with
 |cons r t=>cases t with
  |cons r' t'=>cases t';exact⟨_,_,rfl,r,r'⟩
theorem dU{f:Blt}{vs:List PV}{v:PV}(h:aE f vs=some v)(hf:jg f=some 1\/(cD f).isSome=true\/f=.sortedSet\/f=.lenSet\/f=.valuesOf):∃x,vs=[x]:=by
 cases vs with
 |nil=>cases f<;>simp [aE,b_,iA,gD]at h
 |cons x r=>cases r with
  |nil=>exact⟨x,rfl⟩
  |cons y r=>cases f<;>simp [aE,b_,iA,gD,jg,cD]at h hf
theorem CJ:b7 X (.builtin "len") (RBM X.K (aE .len)):=by
 intro pins s σ H xs us Q I r h
 obtain⟨O,vs,v,hO,rs,e,q⟩:=h
 obtain⟨x,rfl⟩:=dU e (.inl rfl)
 obtain⟨u,rfl,rx⟩:=p1 rs
 cases x<;>simp only [aE,b_,y7]at e<;>try (cases e;done)
 ·cases e
  obtain⟨a,ws,rfl,s1,t1⟩:=rx.tup
  exact ic pins s σ H _ us Q I r ⟨a,ws,rfl,.inr s1,by rw [<- t1.length];exact q _ H (ac.refl H) (eF _ _)⟩
 ·cases e
  obtain⟨a,ws,rfl,s1,t1⟩:=rx.lst
  exact ic pins s σ H _ us Q I r ⟨a,ws,rfl,.inl s1,by rw [<- t1.length];exact q _ H (ac.refl H) (eF _ _)⟩
 ·rename_i d
  cases d with
  |t kvs=>cases e
  |k kvs =>
   cases e
   obtain⟨a,rfl,ha⟩:=rx.dI
   obtain⟨u,rfl,ru⟩:=hZ r
   cases ru
   obtain⟨hz,hs,ws,rel,dd⟩:=jD I.hok (show Rd H a (.dK (fX kvs)) from ha.rd)
   have hlen:ws.length=kvs.length:=by rw [<- rel.length];unfold fX;rw [List.length_map]
   have hz:kvs.length<=sizeLine:=by unfold fX at hz;rw [List.length_map]at hz;exact hz
   have hn:=iZ
   exact call_len_dict hs dd (by rw [hlen];omega) ⟨.int kvs.length,H,I.tok _,⟨s.toks+1,by rw [hlen]⟩,q _ H (ac.refl H) (eF _ _)⟩
theorem x9:b7 X (.type "tuple") (RBM X.K (aE .tupleOf)):=by
 intro pins s σ H xs us Q I r h
 obtain⟨O,vs,v,hO,rs,e,q⟩:=h
 obtain⟨x,rfl⟩:=dU e (.inl rfl)
 obtain⟨u,rfl,rx⟩:=p1 rs
 simp only [aE,b_,iA,gR,gD,Option.map_eq_some_iff]at e
 obtain⟨ys,e,rfl⟩:=e
 cases x<;>simp [be]at e
 ·subst e
  obtain⟨a,ws,rfl,s1,t1⟩:=rx.tup
  refine gE pins s σ H _ us Q I r ⟨a,ws,rfl,.inr ⟨s1,q _ H (ac.refl H) ?_⟩⟩
  exact rx.tupR
 ·subst e
  obtain⟨a,ws,rfl,s1,t1⟩:=rx.lst
  exact gE pins s σ H _ us Q I r ⟨a,ws,rfl,.inl ⟨s1,λl hl=>q _ _ (aA hl _) (iI hO hl t1)⟩⟩
noncomputable def RBF(K:PySem.W.Frag)(f:List PV->Option PV):List V->Hp->VK->Prop:=λus H Q =>
 ∃O vs xs,(∀a∈O,H a≠none)/\Paired (ba K H O) vs us/\f vs=some (.lst xs)/\∀l ws,H l=none->Reps K (af H O) xs ws->Q (.ref l) (upd H l (.lst ws))
theorem AG:b7 X (.type "list") (RBF X.K (aE .listOf)):=by
 intro pins s σ H xs us Q I r h
 obtain⟨O,vs,v,hO,rs,e,q⟩:=h
 obtain⟨x,rfl⟩:=dU e (.inl rfl)
 obtain⟨u,rfl,rx⟩:=p1 rs
 simp only [aE,b_,iA,gR,gD,Option.map_eq_some_iff,PV.lst.injEq,exists_eq_right]at e
 obtain⟨a,ws,rfl,s1,t1⟩:=rx.seq e
 exact ie pins s σ H _ us Q I r ⟨a,ws,rfl,s1,λl hl=>q l ws hl t1⟩
theorem mE{K:PySem.W.Frag}{F:Hp}:∀{tss:List (List Int)}{us:List V},Reps K F (tss.map λt=>.tup (t.map .int)) us->pV K F us tss
 | [],_,h=>by rw [List.map_nil,Reps]at h;subst h;exact .nil
 |t::tss,_,h=>by
  rw [List.map_cons,Reps]at h
  obtain⟨u,r,rfl,q,z⟩:=h
  rw [Rep]at q
  obtain⟨a,vs,e,s1,r1⟩:=q
  rw [r1.ints]at s1
  exact .cons ⟨a,e,cN s1⟩ (mE z)
theorem mF{K:PySem.W.Frag}{F F':Hp}(s:ac F F'):∀{us:List V}{tss:List (List Int)},pV K F us tss->pV K F' us tss
 | _,_,.nil=>.nil
 | _,_,.cons ⟨a,e1,e2⟩ t=>.cons ⟨a,e1,s.seqT e2⟩ (mF s t)
theorem mG{K:PySem.W.Frag}{F:Hp}{xs:List PV}{us:List V}(h:Reps K F xs us):∀(l:List Nat),(∀i∈l,i<us.length)->Reps K F (l.map λi=>xs.getD i .non) (l.map λi=>us.getD i .non)
 | [],_=>.nil
 |i::l,hl=>by
  have hi:=hl i (.head _)
  have hx:i<xs.length:=by rw [h.length];exact hi
  obtain⟨u,e1,e2⟩:=h.get (i:=i) (x:=xs[i]) (List.getElem?_eq_getElem hx)
  refine .cons ?_ (mG h l λj hj=>hl j (.tail _ hj))
  have q1:xs.getD i .non=xs[i]:=by simp [hx]
  have q2:us.getD i .non=u:=by rw [List.getD_eq_getElem?_getD,e1];rfl
  show Rep K F (xs.getD i .non) (us.getD i .non)
  rw [q1,q2];exact e2
theorem vz (g:Gf X T k cal):b7 X (.builtin "sorted") (RBF X.K (aE .sorted)):=by
 intro pins s σ H xs us Q I r h
 obtain⟨O,vs,v,hO,rs,e,q⟩:=h
 obtain⟨x,rfl⟩:=dU e (.inl rfl)
 obtain⟨u,rfl,rx⟩:=p1 rs
 simp only [aE,b_,iA,gR,gD,Option.bind_eq_some_iff]at e
 obtain⟨ys,e,e2⟩:=e
 obtain⟨a,ws,rfl,s1,t1⟩:=rx.seq e
 unfold fA at e2
 split at e2
 ·rename_i h64
  split at e2
  ·rename_i ns hn
   cases e2
   have:=fY hn
   subst this
   have e3:=t1.ints
   subst e3
   rw [List.length_map]at h64
   refine ix g.calm pins s σ H _ us Q I r ⟨a,ns,rfl,s1.imp id .inl,h64,λl hl=>?_⟩
   rw [<- dR]
   exact q l _ hl (.of_ints _)
  ·simp only [Option.map_eq_some_iff,PV.lst.injEq]at e2
   obtain⟨ts,e3,rfl⟩:=e2
   have:=oF e3
   subst this
   rw [List.length_map]at h64
   refine nc (by have:=g.units;omega) pins s σ H _ us Q I r ⟨a,ws,ts,rfl,s1,mF (aU H O) (mE t1),h64,λl pm hl hp e=>q l _ hl ?_⟩
   have q2:=mG t1 pm hp
   have e4:(pm.map λi=>(ts.map λt=>PV.tup (t.map .int)).getD i .non)=(sortT ts).map λt=>.tup (t.map .int):=by
    rw [dS,<- e,List.map_map]
    refine List.map_congr_left λi hi=>?_
    have hi':i<ts.length:=by have:=hp i hi;rw [<- t1.length,List.length_map]at this;exact this
    simp [hi']
   rw [e4]at q2
   exact q2
 ·cases e2
theorem ra{x:PV}{ys:List PV}(h:gR x=some ys):x=.lst ys:=by
 cases x<;>cases h
 rfl
end
end MM
namespace MM
open PySem PySem.Spec PyProof.Rows L2
section
variable{X:Cx}{T:Tab}{k:Nat}{cal:Cal}
theorem AH {b:Blt}{c:String} (hb:cD b=some c):b7 X (.builtin "isinstance") (λus H Q=>∃O v u,us=[u,.ty c]/\isD v=false/\ba X.K H O v u/\Q (.bl (isT b v)) H):=by
 intro pins s σ H xs us Q I r h
 obtain⟨O,v,x,rfl,nd,rx,q⟩:=h
 obtain⟨u,t,rfl,r1,rc⟩:=Ck r
 have rc':t=.type c:=rc
 subst rc'
 have fin:∀(z:Bool) (tk:Nat),z=isT b v->EP X pins σ Q (.bool z) { s with toks:=tk }:=λz tk e=>⟨.bl z,H,I.tok tk,rfl,by rw [e];exact q⟩
 cases v with
 |dI _=>cases nd
 |non =>
  have e:=rx.non
  subst e
  cases (show u=Value.none from r1)
  cases b<;>simp only [cD,Option.some.injEq,reduceCtorEq]at hb<;>subst hb <;>
   exact PySem.W.kia_one PySem.W.kitx_none I.kIn True.intro (b:=false) (by first|rfl|kernel_rfl|decide) (λz=>nomatch z) λtk=>fin _ tk rfl
 |bl y =>
  have e:=rx.bl
  subst e
  cases (show u=Value.bool y from r1)
  cases b<;>simp only [cD,Option.some.injEq,reduceCtorEq]at hb<;>subst hb<;>first
   |exact PySem.W.kia_one PySem.W.kitx_bool I.kIn True.intro (b:=true) (by first|rfl|kernel_rfl|decide) (λz=>nomatch z) λtk=>fin _ tk rfl
   |exact PySem.W.kia_one PySem.W.kitx_bool I.kIn True.intro (b:=false) (by first|rfl|kernel_rfl|decide) (λz=>nomatch z) λtk=>fin _ tk rfl
 |int y =>
  have e:=rx.int
  subst e
  obtain⟨t,z⟩:=(show ∃t,u=Value.int y t from r1)
  cases z
  cases b<;>simp only [cD,Option.some.injEq,reduceCtorEq]at hb<;>subst hb<;>first
   |exact PySem.W.kia_one PySem.W.kitx_int I.kIn True.intro (b:=true) (by first|rfl|kernel_rfl|decide) (λz=>nomatch z) λtk=>fin _ tk rfl
   |exact PySem.W.kia_one PySem.W.kitx_int I.kIn True.intro (b:=false) (by first|rfl|kernel_rfl|decide) (λz=>nomatch z) λtk=>fin _ tk rfl
 |str y =>
  have e:=rx.str
  subst e
  obtain⟨t,z⟩:=(show ∃t,u=Value.str y t from r1)
  cases z
  cases b<;>simp only [cD,Option.some.injEq,reduceCtorEq]at hb<;>subst hb<;>first
   |exact PySem.W.kia_one PySem.W.kitx_str I.kIn True.intro (b:=true) (by first|rfl|kernel_rfl|decide) (λz=>nomatch z) λtk=>fin _ tk rfl
   |exact PySem.W.kia_one PySem.W.kitx_str I.kIn True.intro (b:=false) (by first|rfl|kernel_rfl|decide) (λz=>nomatch z) λtk=>fin _ tk rfl
 |lst ys =>
  obtain⟨a,us,rfl,s1,t1⟩:=rx.lst
  cases (show u=Value.ref a from r1)
  obtain⟨its,_,p,_⟩:=I.list s1
  obtain⟨o,h1,h2,_⟩:=p.isList
  cases b<;>simp only [cD,Option.some.injEq,reduceCtorEq]at hb<;>subst hb<;>first
   |exact PySem.W.kia_one PySem.W.kitx_list I.kIn ⟨o,h1,h2⟩ (b:=true) (by first|rfl|kernel_rfl|decide) (λz=>nomatch z) λtk=>fin _ tk rfl
   |exact PySem.W.kia_one PySem.W.kitx_list I.kIn ⟨o,h1,h2⟩ (b:=false) (by first|rfl|kernel_rfl|decide) (λz=>nomatch z) λtk=>fin _ tk rfl
 |tup ys =>
  obtain⟨a,us,rfl,s1,t1⟩:=rx.tup
  cases (show u=Value.ref a from r1)
  obtain⟨its,_,p,_⟩:=I.tuple s1
  obtain⟨o,h1,h2,_⟩:=p
  cases b<;>simp only [cD,Option.some.injEq,reduceCtorEq]at hb<;>subst hb<;>first
   |exact PySem.W.kia_one PySem.W.kitx_tuple I.kIn ⟨o,h1,h2⟩ (b:=true) (by first|rfl|kernel_rfl|decide) (λz=>nomatch z) λtk=>fin _ tk rfl
   |exact PySem.W.kia_one PySem.W.kitx_tuple I.kIn ⟨o,h1,h2⟩ (b:=false) (by first|rfl|kernel_rfl|decide) (λz=>nomatch z) λtk=>fin _ tk rfl
theorem gW{K:PySem.W.Frag}{F:Hp}:∀{bs:List Bool}{us:List V}{its:List Value},Reps K F (bs.map .bl) us->aw us its->its=bs.map Value.bool
 | [],_,_,h,w=>by rw [List.map_nil,Reps]at h;subst h;cases w;rfl
 |b::bs,_,_,h,w=>by
  rw [List.map_cons,Reps]at h
  obtain⟨u,r,rfl,q,t⟩:=h
  rw [Rep]at q
  subst q
  cases w with
  |cons r1 w1 =>
   cases r1
   rw [gW t w1];rfl
theorem sT(bs:List Bool):(List.range bs.length).all (λi=>bs.getD i false)=bs.all id:=by
 conv=>rhs;rw [<- Srt.gp bs false]
 rw [List.all_map]
 rfl
theorem sU(bs:List Bool):(List.range bs.length).any (λi=>bs.getD i false)=bs.any id:=by
 conv=>rhs;rw [<- Srt.gp bs false]
 rw [List.any_map]
 rfl
theorem jG{P:Program}{w:World}{A:Around}(bs:List Bool):TruthOf P w A (λi v=>(bs.map Value.bool).toArray[i]?=some v) (λi=>bs.getD i false):=by
 intro i v s Q E h q
 simp only [List.getElem?_toArray,List.getElem?_map,Option.map_eq_some_iff]at h
 obtain⟨b,e,rfl⟩:=h
 have:bs.getD i false=b:=by rw [List.getD_eq_getElem?_getD,e];rfl
 have q':Q (bs.getD i false) s:=q
 rw [this]at q'
 exact wpAny_truthy_bool q'
theorem CK (hc:X.calm=true):b7 X (.builtin "any") (RBM X.K (aE .any)):=by
 intro pins s σ H xs us Q I r h
 obtain⟨O,vs,v,hO,rs,e,q⟩:=h
 obtain⟨x,rfl⟩:=dU e (.inl rfl)
 obtain⟨u,rfl,rx⟩:=p1 rs
 simp only [aE,b_,Option.bind_eq_some_iff,Option.map_eq_some_iff]at e
 obtain⟨ys,e0,bs,e,rfl⟩:=e
 obtain rfl:=ra e0
 have:=je e
 subst this
 obtain⟨a,ws,rfl,s1,t1⟩:=rx.lst
 obtain⟨u,rfl,ru⟩:=hZ r
 cases ru
 obtain⟨its,r',pl,hz⟩:=I.list s1
 have:=gW t1 r'
 subst this
 have hlt:a<s.heap.objs.size:=by obtain⟨o,ho,_⟩:=pl.isList;exact Heap.lt_size ho
 refine call_any_walk (wpAny_pyIter_list pl.isList ?_)
 refine⟨s.heap.objs.size,_,_,_,_,_,λi=>bs.getD i false,rfl,Walks.list (by first|exact I.ok.hd hc|simpa using I.ok.hd hc) s.heap.objs.size a (Nat.ne_of_lt hlt) (bs.map Value.bool).toArray,⟨⟨_,Heap.get?_push_size _ rfl,rfl,rfl⟩,pl.isList.push _⟩,jG bs,λh' tk hk=>?_⟩
 have e2:(List.range (bs.map Value.bool).toArray.size).any (λi=>bs.getD i false)=bs.any id:=by
  rw [List.size_toArray,List.length_map];exact sU bs
 rw [e2]
 refine⟨.bl _,H,?_,rfl,q _ H (ac.refl H) (cj _ _)⟩
 refine I.kept (t':=tk) λb o e=>hk b o ?_ (Heap.get?_push_of_some _ e)
 intro hm
 have hb:=Heap.lt_size e
 simp at hm
 exact absurd hm (Nat.ne_of_lt hb)
theorem CL (hc:X.calm=true):b7 X (.builtin "all") (RBM X.K (aE .all)):=by
 intro pins s σ H xs us Q I r h
 obtain⟨O,vs,v,hO,rs,e,q⟩:=h
 obtain⟨x,rfl⟩:=dU e (.inl rfl)
 obtain⟨u,rfl,rx⟩:=p1 rs
 simp only [aE,b_,Option.bind_eq_some_iff,Option.map_eq_some_iff]at e
 obtain⟨ys,e0,bs,e,rfl⟩:=e
 obtain rfl:=ra e0
 have:=je e
 subst this
 obtain⟨a,ws,rfl,s1,t1⟩:=rx.lst
 obtain⟨u,rfl,ru⟩:=hZ r
 cases ru
 obtain⟨its,r',pl,hz⟩:=I.list s1
 have:=gW t1 r'
 subst this
 have hlt:a<s.heap.objs.size:=by obtain⟨o,ho,_⟩:=pl.isList;exact Heap.lt_size ho
 refine call_all_walk (wpAny_pyIter_list pl.isList ?_)
 refine⟨s.heap.objs.size,_,_,_,_,_,λi=>bs.getD i false,rfl,Walks.list (by first|exact I.ok.hd hc|simpa using I.ok.hd hc) s.heap.objs.size a (Nat.ne_of_lt hlt) (bs.map Value.bool).toArray,⟨⟨_,Heap.get?_push_size _ rfl,rfl,rfl⟩,pl.isList.push _⟩,jG bs,λh' tk hk=>?_⟩
 have e2:(List.range (bs.map Value.bool).toArray.size).all (λi=>bs.getD i false)=bs.all id:=by
  rw [List.size_toArray,List.length_map];exact sT bs
 rw [e2]
 refine⟨.bl _,H,?_,rfl,q _ H (ac.refl H) (cj _ _)⟩
 refine I.kept (t':=tk) λb o e=>hk b o ?_ (Heap.get?_push_of_some _ e)
 intro hm
 have hb:=Heap.lt_size e
 simp at hm
 exact absurd hm (Nat.ne_of_lt hb)
theorem CM (hc:X.calm=true):b7 X (.type "set") (λus H Q=>∃O v u ns,us=[u]/\ba X.K H O v u/\((be v).bind bc)=some ns/\ns.length<=4000/\∀l,H l=none->Q (.ref l) (upd H l (kU X.prog X.w l (St.dd ns.reverse)))):=by
 intro pins s σ H xs us Q I r h
 obtain⟨O,v,u,ns,rfl,rx,e,h1000,q⟩:=h
 simp only [Option.bind_eq_some_iff]at e
 obtain⟨ys,e1,e2⟩:=e
 obtain⟨a,ws,rfl,s1,t1⟩:=rx.seq e1
 have:=fY e2
 subst this
 have e3:=t1.ints
 subst e3
 exact u8 hc pins s σ H _ us Q I r ⟨a,ns,rfl,s1,h1000,λl hl=>q l hl⟩
theorem oT (hc:X.calm=true):b7 X (.builtin "sorted") (λus H Q=>∃(l:Addr) (ks:List Int),us=[.ref l]/\H l=some (kU X.prog X.w l ks)/\ks.length<64/\∀p,H p=none->Q (.ref p) (upd H p (.lst ((Srt.sortI ks).map V.int)))):=by
 intro pins s σ H xs us Q I r h
 obtain⟨l,ks,rfl,e,h64,q⟩:=h
 exact ix hc pins s σ H _ us Q I r ⟨l,ks,rfl,.inr (.inr e),h64,q⟩
end
end MM
namespace L2
open PySem PySem.Spec PyProof.Rows
end L2
namespace L2
open PySem PySem.Spec PyProof.Rows
theorem Inv.turned2{X:Cx}{pins:List (Addr×Obj)}{σ:St}{H:Hp}{s:Shared}{h':Heap}{t':Nat}{e it:Addr}{oe:Obj}(I:Inv X pins σ H s)(he:s.heap.get? e=some oe)(hf:oe.isFreed=false)(he':∃o,h'.get? e=some o)
  (k:∀b o,b≠e->b≠it->s.heap.get? b=some o->h'.get? b=some o) (fe:hX X pins H e) (fi:hX X pins H it):Inv X pins σ H { s with heap:=h',toks:=t' }:=by
 obtain⟨o',ho'⟩:=he'
 obtain⟨a0,a1,a2,a3,a4,a5⟩:=fe
 obtain⟨b0,b1,b2,b3,b4,b5⟩:=fi
 have at1:(h'.update e λ_=>oe).get? e=some oe:=Heap.get?_update_self _ ho' hf
 have oth:∀b,b≠e->(h'.update e λ_=>oe).get? b=h'.get? b:=λb hb=>(Heap.SameBut.update h' e _).2 b hb
 have I1:Inv X pins σ H { s with heap:=h'.update e λ_=>oe,toks:=t' }:=I.turned (it:=it) (λb o hb q=>by
  by_cases z:b=e
  ·subst z
   rw [at1,<- he]
   exact q
  ·rw [oth b z]
   exact k b o z hb q) b0 b1 b3 b4 b5
 exact Inv.turned (s:={ s with heap:=h'.update e λ_=>oe,toks:=t' }) (it:=e) I1 (λb o hb q=>by
  have q:(h'.update e λ_=>oe).get? b=some o:=q
  rw [oth b hb]at q
  exact q) a0 a1 a3 a4 a5
noncomputable def Ite(q:Hp->List V->Prop):It :=
 ⟨λi H=>∃xs,q H xs/\i<xs.length,λi H x H'=>∃p,x=.ref p/\H p=none/\∃u,H'=upd H p (.tup [.int i,u])/\∀xs,q H xs->xs[i]?=some u,λi H=>∃xs,q H xs/\i=xs.length⟩
structure Src(P:Program)(w:World)(K:PySem.W.Frag)(a it:Addr)(q:Hp->List V->Prop)(r:Nat->Heap->Prop):Prop where
 ne:a≠it
 keep:∀i h h',r i h->(∀o,h.get? it=some o->h'.get? it=some o)->r i h'
 live:∀i h,r i h->∃o,h.get? it=some o/\∀v,o.data≠.cell v
 one:∀(X:Cx),X.K=K->∀(pins:List (Addr×Obj)) (s:Shared) (σ:St) (H:Hp) (xs ys:List V),Inv X pins σ H s->q H xs->q H ys->xs=ys
 row:∀(X:Cx),X.prog=P->X.w=w->X.K=K->∀(pins:List (Addr×Obj)) (s:Shared) (σ:St) (H:Hp) (xs:List V),Inv X pins σ H s->q H xs->∃(its:List Value),aw xs its/\∀(A:Around),A.handled=none ->
  ∃St:Nat->Heap->Prop,Draws P w A it [it,a] its.length (λi v=>its[i]?=some v) St/\(∀i,r i s.heap->St i s.heap)/\∀i h,St i h->r i h
theorem vA{P:Program}{w:World}{K:PySem.W.Frag}{ts:List Expr}{j:Nat}{tp:Pos}{a it e:Addr}{q:Hp->List V->Prop}{r:Nat->Heap->Prop}(S:Src P w K a it q r)(hei:e≠it)(hea:e≠a) :
  nX P w K (.Tuple ts j tp) (Ite q) [e,it] e (λi h=>(∃old,IsEnum h e it (i:Nat) old)/\r i h) where
 mem:=.head _
 obj:=λi h st b hb=>by
  obtain⟨⟨old,he⟩,hr⟩:=st
  rcases List.mem_cons.mp hb with rfl|hb
  ·exact⟨_,he,λv z=>by cases z⟩
  ·have z:b=it:=by simpa using hb
   subst z
   exact S.live i h hr
 keep:=λi h h' ⟨⟨old,he⟩,hr⟩ k=>⟨⟨old,k e (.head _) _ he⟩,S.keep i h h' hr (k it (.tail _ (.head _)))⟩
 item:=by
  intro X hP hw hK hc i pins s σ H E I hf st hg
  obtain⟨⟨old,he⟩,hr⟩:=st
  obtain⟨xs,hq,hi⟩:=hg
  obtain⟨its,rv,dr⟩:=S.row X hP hw hK pins s σ H xs I hq
  have hh:X.A.handled=none:=I.ok.hd hc
  obtain⟨St,D,hst,hts⟩:=dr X.A.in1 (by simpa using hh)
  have hl:=rv.length
  have fe:=hf e (.head _)
  have fi:=hf it (.tail _ (.head _))
  refine wpAny_pyNext_enum_itemD D he (hst i hr) (by omega) hei (by simp only [List.mem_cons,List.not_mem_nil,or_false,not_or];exact⟨hei,hea⟩) λx h' tk px eo st' tup sz kp=>?_
  refine⟨_,rfl,wpAny_letOwnedTupleGo_enum eo λh2 en2 sb2=>?_⟩
  have hx:i<xs.length:=hi
  obtain⟨u,hu,ru⟩:=rv.get (List.getElem?_eq_getElem hx)
  have ex:x=u:=by
   have:=px.symm.trans hu
   simpa using this
  subst ex
  have fresh:H s.heap.objs.size=none:=I.hok.fresh (Nat.le_refl _)
  have ne:∀b o,s.heap.get? b=some o->b≠s.heap.objs.size:=λb o q z=>Nat.lt_irrefl _ (by have:=Heap.lt_size q;rw [z]at this;exact this)
  have en:e≠s.heap.objs.size:=ne _ _ he
  obtain⟨oi,hoi,_⟩:=S.live i _ hr
  have inn:it≠s.heap.objs.size:=ne _ _ hoi
  have I1:Inv X pins σ (upd H s.heap.objs.size (.tup [.int i,xs[i]])) { s with heap:=s.heap.push { cls:=.type "tuple",data:=.seq #[.int i tk,x] } } :=
   I.laid (t':=s.toks) (λb o q=>Heap.get?_push_of_some _ q) (Nat.le_refl _) ⟨by show 2<=sizeLine;decide,_,.cons ⟨_,rfl⟩ (.cons ru .nil),IsTup.new _ _⟩
  have up:∀b,b≠s.heap.objs.size->hX X pins H b->hX X pins (upd H s.heap.objs.size (.tup [.int i,xs[i]])) b:=λb hb ⟨z,r⟩=>⟨by rw [ak hb];exact z,r⟩
  have I2:=I1.turned2 (h':=h2) (t':=tk+1) (e:=e) (it:=it) (Heap.get?_push_of_some _ he) rfl ⟨_,en2⟩ (λb o hbe hbi q=>?_) (up e en fe) (up it inn fi)
  ·refine⟨.ref s.heap.objs.size,_,I2,rfl,⟨_,rfl,fresh,_,rfl,λys hy=>?_⟩,⟨⟨_,by simpa using en2⟩,?_⟩,λb hb=>?_⟩
   ·rw [S.one X hK pins s σ H ys xs I hy hq]
    exact List.getElem?_eq_getElem hx
   ·refine hts _ _ (D.frame _ _ _ st' λb hb o q=>?_)
    rw [sb2.2 b λz=>?_]
    ·exact q
    ·subst z
     simp only [List.mem_cons,List.not_mem_nil,or_false]at hb
     exact hb.elim hei hea
   ·rcases List.mem_cons.mp hb with rfl|hb
    ·exact(up b en fe).1
    ·have z:b=it:=by simpa using hb
     subst z
     exact(up b inn fi).1
  ·rw [sb2.2 b hbe]
   rcases Heap.get?_push_cases q with ⟨rfl,rfl⟩|q
   ·exact tup
   ·exact kp b o hbe hbi q
 done:=by
  intro X hP hw hK hc i pins s σ H E I hf st hg
  obtain⟨⟨old,he⟩,hr⟩:=st
  obtain⟨xs,hq,hi⟩:=hg
  obtain⟨its,rv,dr⟩:=S.row X hP hw hK pins s σ H xs I hq
  have hh:X.A.handled=none:=I.ok.hd hc
  obtain⟨St,D,hst,hts⟩:=dr X.A.in1 (by simpa using hh)
  have hl:=rv.length
  obtain⟨f0,f1,f2,f3,f4,f5⟩:=hf it (.tail _ (.head _))
  have e:i=its.length:=by omega
  subst e
  exact wpAny_pyNext_enum_endD D he (hst _ hr) λh' eb=>⟨rfl,I.turned (t':=s.toks) (λb o hb q=>eb b o hb q) f0 f1 f3 f4 f5⟩
 self:=λ_ i s Q E ⟨⟨old,he⟩,_⟩ h=>wpAny_pyIter_enum he h
theorem vB{P:Program}{w:World}{K:PySem.W.Frag}{a it:Addr}(ne:a≠it):Src P w K a it (λH xs=>SqL K H a xs) (λi h=>h.IsListIter it a i) where
 ne:=ne
 keep:=λi h h' ⟨o,ho,r⟩ k=>⟨o,k o ho,r⟩
 live:=λi h ⟨o,ho,_,hd⟩=>⟨o,ho,λv z=>by rw [hd]at z;cases z⟩
 one:=λX hK pins s σ H xs ys I h h'=>by subst hK;exact I.list_inj h h'
 row:=λX hP hw hK pins s σ H xs I h=>by
  subst hP hw hK
  obtain⟨its,rv,p,_⟩:=I.list h
  refine⟨its,rv,λA hA=>⟨λi h=>h.IsListIter it a i/\h.IsList a its.toArray,?_,λi st=>⟨st,p.isList⟩,λi h' st=>st.1⟩⟩
  simpa using Draws.list (prog:=X.prog) (w:=X.w) hA it a ne its.toArray
theorem x_{P:Program}{w:World}{K:PySem.W.Frag}{a it:Addr}(ne:a≠it):Src P w K a it (λH xs=>SqT K H a xs) (λi h=>h.IsTupleIter it a i) where
 ne:=ne
 keep:=λi h h' ⟨o,ho,r⟩ k=>⟨o,k o ho,r⟩
 live:=λi h ⟨o,ho,_,hd⟩=>⟨o,ho,λv z=>by rw [hd]at z;cases z⟩
 one:=λX hK pins s σ H xs ys I h h'=>by subst hK;exact I.tuple_inj h h'
 row:=λX hP hw hK pins s σ H xs I h=>by
  subst hP hw hK
  obtain⟨its,rv,p,_⟩:=I.tuple h
  refine⟨its,rv,λA hA=>⟨λi h=>h.IsTupleIter it a i/\h.IsTuple a its.toArray,?_,λi st=>⟨st,(show s.heap.IsTuple a its.toArray from p)⟩,λi h' st=>st.1⟩⟩
  simpa using En.draws (P:=X.prog) (w:=X.w) hA it a ne its.toArray
noncomputable def ED(K:PySem.W.Frag)(tl:TE):TI:=λσ H R=>tl σ H λx H1=>∃a,x=.ref a/\(((∃xs,SqL K H1 a xs)/\R (Ite λH xs=>SqL K H a xs) H1)\/((∃xs,SqT K H1 a xs)/\R (Ite λH xs=>SqT K H a xs) H1))
theorem oU{X:Cx}{pins:List (Addr×Obj)}{σ:St}{H:Hp}{s:Shared}{E:Value->Shared->Prop}{h':Heap}{ts:List Expr}{j:Nat}{tp:Pos}{a:Addr}{q:Hp->List V->Prop}{r:Nat->Heap->Prop}{R:It->Hp->Prop}(I:Inv X pins σ H s)(la:a<s.heap.objs.size)
  (S:Src X.prog X.w X.K a s.heap.objs.size q r) (en:IsEnum h' (s.heap.objs.size+1) s.heap.objs.size 0 .none) (hr:r 0 h') (k:∀b o,s.heap.get? b=some o->h'.get? b=some o) (hR:R (Ite q) H) :
  wpAny (model X.prog X.w) X.A (pyIter (.ref (s.heap.objs.size+1))) (PIE X pins σ (.Tuple ts j tp) R) E { s with heap:=h' }:=by
 have I1:Inv X pins σ H { s with heap:=h' }:=I.kept (t':=s.toks) k
 refine wpAny_pyIter_enum (s:={ s with heap:=h' }) en ⟨s.heap.objs.size+1,[s.heap.objs.size+1,s.heap.objs.size],_,_,H,rfl,I1,vA S (Nat.succ_ne_self _) (Nat.ne_of_gt (Nat.lt_succ_of_lt la)),⟨⟨_,en⟩,hr⟩,λb hb=>?_,hR⟩
 have hb:s.heap.objs.size<=b:=by
  simp only [List.mem_cons,List.not_mem_nil,or_false]at hb
  rcases hb with rfl|rfl
  ·exact Nat.le_succ _
  ·exact Nat.le_refl _
 exact I.fpOk hb (I.hok.fresh hb)
theorem qd {X:Cx}{ts:List Expr}{j:Nat}{tp:Pos}{l:Expr}{tl:TE}{p pos:Pos} (hg:Gl X "enumerate") (hm:X.mg "enumerate"=none) (hl:PE X l tl) (hs:starEach [l] X.env=[(false,eval l X.env)]:=by rfl) :
  PI X (.Tuple ts j tp) (.Call (.Name "enumerate" p) [l] [] pos) (ED X.K tl):=by
 intro pins s σ H R I h
 refine Call_ (iW I hg hm PyProof.Rows.boot_enumerate (PyProof.Rows.callWith_type1 (thn (au hl aR hs pos pins s σ H (λvs H1=>match vs with
  | [x]=>∃a,x=.ref a/\(((∃xs,SqL X.K H1 a xs)/\R (Ite λH xs=>SqL X.K H a xs) H1)\/((∃xs,SqT X.K H1 a xs)/\R (Ite λH xs=>SqT X.K H a xs) H1))
  | _=>False) I h) λus s1 ⟨vs,H1,I1,r1,q1⟩=>?_) hs rfl))
 cases r1 with
 |nil=>exact q1.elim
 |cons r rr =>
  cases rr with
  |cons _ _=>exact q1.elim
  |nil =>
   obtain⟨a,e,q⟩:=q1
   subst e
   cases r
   rcases q with ⟨⟨xs,hq⟩,q⟩|⟨⟨xs,hq⟩,q⟩
   ·obtain⟨its,_,pl,_⟩:=I1.list hq
    have la:a<s1.heap.objs.size:=let ⟨o,ho,_⟩:=pl.isList;Heap.lt_size ho
    exact call_enumerate_list pl.isList λh' en it _ k=>oU I1 la (vB (Nat.ne_of_lt la)) en it k q
   ·obtain⟨its,_,pt,_⟩:=I1.tuple hq
    have pt:s1.heap.IsTuple a its.toArray:=pt
    have la:a<s1.heap.objs.size:=let ⟨o,ho,_⟩:=pt;Heap.lt_size ho
    exact En.call_tup pt λh' en it _ k=>oU I1 la (x_ (Nat.ne_of_lt la)) en it k q
end L2
namespace MM
open PySem PySem.Spec PyProof.Rows L2
structure nF(K:PySem.W.Frag)(J:It)(xs:List PV)(V G:Hp):Prop where
 stop:∀H',ac G H'->J.stop xs.length H'
 go:∀(i:Nat) x H',ac G H'->xs[i]?=some x->J.go i H'
 yld:∀(i:Nat) x H' u H2,ac G H'->xs[i]?=some x->J.yld i H' u H2->ac H' H2/\∀O',(∀a∈O',H' a≠none)->ac V (af H2 O')->Rep K (af H2 O') x u
theorem nF.weak{K:PySem.W.Frag}{J:It}{xs:List PV}{V G G':Hp}(h:nF K J xs V G)(s:ac G G'):nF K J xs V G' :=
 ⟨λH' s'=>h.stop H' (s.trans s'),λi x H' s'=>h.go i x H' (s.trans s'),λi x H' u H2 s'=>h.yld i x H' u H2 (s.trans s')⟩
noncomputable def aS(ms:List ME)(ρ:Rho)(σ:St):List Addr:=match ms with
 | [.bor i]=>(match (ρ[i]?).join,(σ[i]?).join with|some (.own _),some (.ref a)=>[a]|_,_=>[])
 | _=>[]
noncomputable def bm(B:Hp)(O:List Addr)(H:Hp)(L:List Addr):Hp:=λb=>if b∈O then (if b∈L then H b else B b) else H b
section
variable{K:PySem.W.Frag}{B H:Hp}{O L:List Addr}
theorem k9(s:ac B H):ac (bm B O H L) H:=λb u e=>by
 unfold bm at e
 split at e
 ·split at e
  ·exact e
  ·exact s b u e
 ·exact e
theorem cE(s:ac B H):ac B (bm B O H L):=λb u e=>by
 unfold bm
 split
 ·split
  ·exact s b u e
  ·exact e
 ·exact s b u e
theorem bM:ac (af H O) (bm B O H L):=λb u e=>by
 have hb:b∉O:=λz=>by rw [du z]at e;cases e
 unfold bm
 rw [if_neg hb]
 rw [aD hb]at e
 exact e
end
theorem iL{K:PySem.W.Frag}{V G:Hp}{a:Addr}{xs:List PV}{us:List L2.V}(h:SqL K G a us)(r:Reps K V xs us):nF K (Itl K a) xs V G where
 stop:=λH' s=>⟨us,s.seq h,Nat.le_of_eq r.length.symm⟩
 go:=λi x H' s e=>by
  obtain⟨u,e1,_⟩:=r.get e
  exact⟨us,u,s.seq h,e1⟩
 yld:=λi x H' u H2 s e y=>by
  obtain⟨rfl,y⟩:=y
  obtain⟨w,e1,q⟩:=r.get e
  have e2:=y us (s.seq h)
  rw [e1]at e2
  cases e2
  exact⟨ac.refl _,λO' _ sv=>Rep.mono sv _ q⟩
theorem vC{K:PySem.W.Frag}{V G:Hp}{a:Addr}{xs:List PV}{us:List L2.V}(h:SqT K G a us)(r:Reps K V xs us):nF K (Itt K a) xs V G where
 stop:=λH' s=>⟨us,s.seqT h,Nat.le_of_eq r.length.symm⟩
 go:=λi x H' s e=>by
  obtain⟨u,e1,_⟩:=r.get e
  exact⟨us,u,s.seqT h,e1⟩
 yld:=λi x H' u H2 s e y=>by
  obtain⟨rfl,y⟩:=y
  obtain⟨w,e1,q⟩:=r.get e
  have e2:=y us (s.seqT h)
  rw [e1]at e2
  cases e2
  exact⟨ac.refl _,λO' _ sv=>Rep.mono sv _ q⟩
theorem oV{K:PySem.W.Frag}{V G:Hp}{lo:Int}{n:Nat}:nF K (Itr lo n) ((List.range n).map λ(k:Nat)=>.int (lo+k)) V G where
 stop:=λH' s=>by simp [Itr]
 go:=λi x H' s e=>by
  have:=(List.getElem?_eq_some_iff.mp e).1
  simpa [Itr] using this
 yld:=λi x H' u H2 s e y=>by
  obtain⟨rfl,rfl⟩:=y
  refine⟨ac.refl _,λO' _ sv=>?_⟩
  have hi:i<n:=by have:=(List.getElem?_eq_some_iff.mp e).1;simpa using this
  rw [List.getElem?_map,List.getElem?_range hi]at e
  cases e
  rw [Rep]
theorem AI{K:PySem.W.Frag}{H:Hp}{O:List Addr}{p:Addr}{xs:List PV}{us:List V}(hO:∀a∈O,H a≠none)(hp:H p=none)(h:Reps K (af (upd H p (.tup us)) O) xs us):Rep K (af (upd H p (.tup us)) O) (.tup xs) (.ref p):=by
 rw [Rep]
 refine⟨p,us,rfl,?_,h⟩
 rw [aD λz=>hO p z hp]
 exact ah ..
theorem re:∀(xs:List PV) (k i:Nat),(aY k xs)[i]?=(xs[i]?).map λx=>.tup [.int ((k+i:Nat):Int),x]
 | [],k,i=>by simp [aY]
 |x::xs,k,0=>by simp [aY]
 |x::xs,k,i+1=>by
  rw [aY,List.getElem?_cons_succ,List.getElem?_cons_succ,re xs (k+1) i,show k+1+i=k+(i+1) by omega]
theorem enum_len:∀(xs:List PV) (k:Nat),(aY k xs).length=xs.length
 | [],_=>rfl
 |x::xs,k=>by rw [aY,List.length_cons,List.length_cons,enum_len xs]
theorem gX{K:PySem.W.Frag}{V G:Hp}{q:Hp->List L2.V->Prop}{xs:List PV}{us:List L2.V}(h:∀H',ac G H'->q H' us)(r:Reps K V xs us):nF K (Ite q) (aY 0 xs) V G where
 stop:=λH' s=>⟨us,h H' s,by rw [enum_len];exact r.length⟩
 go:=λi x H' s e=>by
  refine⟨us,h H' s,?_⟩
  have:=(List.getElem?_eq_some_iff.mp e).1
  rw [enum_len]at this
  rw [<- r.length]
  exact this
 yld:=λi x H' u H2 s e y=>by
  obtain⟨p,rfl,hp,v,rfl,y⟩:=y
  rw [re]at e
  obtain⟨z,e1,rfl⟩:=Option.map_eq_some_iff.mp e
  obtain⟨w,e2,rz⟩:=r.get e1
  have e3:=y us (h H' s)
  rw [e2]at e3
  cases e3
  refine⟨aA hp _,λO' hO sv=>?_⟩
  rw [Nat.zero_add]
  refine AI hO hp (.cons (eF _ _) (.cons (Rep.mono sv _ rz) .nil))
noncomputable def tW(K:PySem.W.Frag)(cal:Cal)(k:Sk)(ms:List ME):TI:=λσ H R =>
 ∃B O₀ O ρ vs xs,aF K B O₀ O H ρ σ/\evs cal ms ρ=some vs/\bF k vs=some xs/\∀J H1,ac H H1->nF K J xs (af H1 O) (bm B O H1 (aS ms ρ σ))->R J H1
section
variable{X:Cx}{cal:Cal}{tg:Expr}
theorem PI.or{e:Expr}{t u:TI}(h:PI X tg e t)(g:PI X tg e u):PI X tg e (λσ H R=>t σ H R\/u σ H R):=λpins s σ H R I q=>q.elim (h pins s σ H R I) (g pins s σ H R I)
theorem iM:∀{ms:List ME}{ρ:Rho}{vs:List PV},evs cal ms ρ=some vs->vs.length=ms.length
 | [],_,_,h=>by simp [evs]at h;subst h;rfl
 |m::ms,_,_,h=>by
  simp only [evs,Option.bind_eq_some_iff,Option.map_eq_some_iff]at h
  obtain⟨v,_,w,e2,rfl⟩:=h
  simp [iM e2]
theorem oW{m:ME}{ρ:Rho}{vs:List PV}(h:evs cal [m] ρ=some vs):∃v,vs=[v]/\ev cal m ρ=some v:=by
 simp only [evs,Option.bind_eq_some_iff,Option.map_eq_some_iff]at h
 obtain⟨v,e,w,e2,rfl⟩:=h
 cases e2
 exact⟨v,rfl,e⟩
theorem nG{K:PySem.W.Frag}{F:Hp}{v:PV}{u:L2.V}{xs:List PV}(h:Rep K F v u)(e:be v=some xs):∃a us,u=.ref a/\Reps K F xs us/\((v=.lst xs/\SqL K F a us)\/(v=.tup xs/\SqT K F a us)):=by
 cases v with
 |lst ys=>simp [be]at e;subst e;rw [Rep]at h;obtain⟨a,us,e,q,r⟩:=h;exact⟨a,us,e,r,.inl ⟨rfl,q⟩⟩
 |tup ys=>simp [be]at e;subst e;rw [Rep]at h;obtain⟨a,us,e,q,r⟩:=h;exact⟨a,us,e,r,.inr ⟨rfl,cN q⟩⟩
 | _=>simp [be]at e
theorem CN{m:ME}{e:Expr}(hb:aI m=false)(h:PE X e (tE X.K cal m)):PI X tg e (tW X.K cal .seq [m]):=by
 refine(PI.or (fw h) (t9 h)).imp λσ H R q=>?_
 obtain⟨B,O₀,O,ρ,vs,xs,st,e1,e2,q⟩:=q
 obtain⟨v,rfl,e3⟩:=oW e1
 have e4:be v=some xs:=e2
 have hl:aS [m] ρ σ=[]:=by cases m<;>first|rfl|cases hb
 rw [hl]at q
 cases v with
 |lst ys =>
  simp [be]at e4;subst e4
  refine .inl ⟨B,O₀,O,ρ,_,st,e3,λu H' s g=>?_⟩
  have r:=g.2 hb
  rw [Rep]at r
  obtain⟨a,us,rfl,sq,rs⟩:=r
  exact⟨a,rfl,⟨us,(aU H' O).seq sq⟩,q _ _ s (iL (bM.seq sq) rs)⟩
 |tup ys =>
  simp [be]at e4;subst e4
  refine .inr ⟨B,O₀,O,ρ,_,st,e3,λu H' s g=>?_⟩
  have r:=g.2 hb
  rw [Rep]at r
  obtain⟨a,us,rfl,sq,rs⟩:=r
  exact⟨a,rfl,⟨us,(aU H' O).seqT (cN sq)⟩,q _ _ s (vC (bM.seqT (cN sq)) rs)⟩
 | _=>simp [be]at e4
theorem CO{i:Nat}{x:Str}{pos:Pos}(h:ar X.N X.env.scope i x=true):PI X tg (.Name x pos) (tW X.K cal .seq [.bor i]):=by
 refine(PI.or (fw (bz h)) (t9 (bz h))).imp λσ H R q=>?_
 obtain⟨B,O₀,O,ρ,vs,xs,st,e1,e2,q⟩:=q
 obtain⟨v,rfl,e3⟩:=oW e1
 have e4:be v=some xs:=e2
 rw [ev]at e3
 cases hj:(ρ[i]?).join with
 |none=>rw [hj]at e3;cases e3
 |some m =>
  rw [hj]at e3
  obtain⟨u,eu,so⟩:=bh st hj
  cases m with
  |val w =>
   simp only [bj,Option.some.injEq]at e3
   subst e3
   have so':Rep X.K (af H O) w u:=so
   obtain⟨a,us,rfl,rs,z⟩:=nG so' e4
   rcases z with ⟨rfl,sq⟩|⟨rfl,sq⟩
   ·exact .inl ⟨_,eu,a,rfl,⟨us,(aU H O).seq sq⟩,q _ _ (ac.refl H) (iL (bM.seq sq) rs)⟩
   ·exact .inr ⟨_,eu,a,rfl,⟨us,(aU H O).seqT sq⟩,q _ _ (ac.refl H) (vC (bM.seqT sq) rs)⟩
  |own ys =>
   simp only [bj,Option.some.injEq]at e3
   subst e3
   simp [be]at e4;subst e4
   obtain⟨a,us,rfl,ha,rs,hO,_⟩:=so
   refine .inl ⟨_,eu,a,rfl,⟨us,SqL.of ha⟩,q _ _ (ac.refl H) (iL (SqL.of ?_) rs)⟩
   have hl:aS [.bor i] ρ σ=[a]:=by simp [aS,hj,eu]
   unfold bm
   rw [hl,if_pos hO,if_pos (by simp)]
   exact ha
  |brw ys =>
   simp only [bj,Option.some.injEq]at e3
   subst e3
   simp [be]at e4;subst e4
   obtain⟨a,us,rfl,sq,rs⟩:=so
   exact .inl ⟨_,eu,a,rfl,⟨us,st.keep.seq sq⟩,q _ _ (ac.refl H) (iL ((cE st.keep).seq sq) rs)⟩
  |ownD ys =>
   simp only [bj,Option.some.injEq]at e3
   subst e3
   simp [be]at e4
  |ownO _ _ _=>simp [bj]at e3
  |brwO _ _=>simp [bj]at e3
  |brwD ys =>
   simp only [bj,Option.some.injEq]at e3
   subst e3
   simp [be]at e4
theorem CP {m:ME}{e:Expr}{f:Str}{ts:List Expr}{j:Nat}{tp p pos:Pos}{T:Tab}{k:Nat} (g:Gf X T k cal) (hf:f=("enumerate":Str)) (hg:glB X.env.scope f=true) (hs:aq e=true) (hb:aI m=false) (h:PE X e (tE X.K cal m)):PI X (.Tuple ts j tp) (.Call (.Name f p) [e] [] pos) (tW X.K cal .enm [m]):=by
 subst hf
 have star:starEach [e] X.env=[(false,eval e X.env)]:=by cases e<;>first|rfl|(simp [aq]at hs)
 refine(qd (dw hg) (g.blt "enumerate" (by decide)) h star).imp λσ H R q=>?_
 obtain⟨B,O₀,O,ρ,vs,xs,st,e1,e2,q⟩:=q
 obtain⟨v,rfl,e3⟩:=oW e1
 have hl:aS [m] ρ σ=[]:=by cases m<;>first|rfl|cases hb
 rw [hl]at q
 simp only [bF,Option.map_eq_some_iff]at e2
 obtain⟨ys,e4,rfl⟩:=e2
 refine⟨B,O₀,O,ρ,_,st,e3,λu H' s g=>?_⟩
 obtain⟨a,us,rfl,rs,z⟩:=nG (g.2 hb) e4
 rcases z with ⟨_,sq⟩|⟨_,sq⟩
 ·exact⟨a,rfl,.inl ⟨⟨us,(aU H' O).seq sq⟩,q _ _ s (gX (λH2 s2=>s2.seq (bM.seq sq)) rs)⟩⟩
 ·exact⟨a,rfl,.inr ⟨⟨us,(aU H' O).seqT sq⟩,q _ _ s (gX (λH2 s2=>s2.seqT (bM.seqT sq)) rs)⟩⟩
theorem AJ {i:Nat}{x:Str}{px:Pos}{f:Str}{ts:List Expr}{j:Nat}{tp p pos:Pos}{T:Tab}{k:Nat} (g:Gf X T k cal) (hf:f=("enumerate":Str)) (hg:glB X.env.scope f=true) (h:ar X.N X.env.scope i x=true):PI X (.Tuple ts j tp) (.Call (.Name f p) [.Name x px] [] pos) (tW X.K cal .enm [.bor i]):=by
 subst hf
 refine(qd (dw hg) (g.blt "enumerate" (by decide)) (bz h) rfl).imp λσ H R q=>?_
 obtain⟨B,O₀,O,ρ,vs,xs,st,e1,e2,q⟩:=q
 obtain⟨v,rfl,e3⟩:=oW e1
 simp only [bF,Option.map_eq_some_iff]at e2
 obtain⟨zs,e4,rfl⟩:=e2
 rw [ev]at e3
 cases hj:(ρ[i]?).join with
 |none=>rw [hj]at e3;cases e3
 |some m =>
  rw [hj]at e3
  obtain⟨u,eu,so⟩:=bh st hj
  cases m with
  |val w =>
   simp only [bj,Option.some.injEq]at e3
   subst e3
   have so':Rep X.K (af H O) w u:=so
   obtain⟨a,us,rfl,rs,z⟩:=nG so' e4
   rcases z with ⟨rfl,sq⟩|⟨rfl,sq⟩
   ·exact⟨_,eu,a,rfl,.inl ⟨⟨us,(aU H O).seq sq⟩,q _ _ (ac.refl H) (gX (λH2 s2=>s2.seq (bM.seq sq)) rs)⟩⟩
   ·exact⟨_,eu,a,rfl,.inr ⟨⟨us,(aU H O).seqT sq⟩,q _ _ (ac.refl H) (gX (λH2 s2=>s2.seqT (bM.seqT sq)) rs)⟩⟩
  |own ys =>
   simp only [bj,Option.some.injEq]at e3
   subst e3
   simp [be]at e4;subst e4
   obtain⟨a,us,rfl,ha,rs,hO,_⟩:=so
   have hl:aS [.bor i] ρ σ=[a]:=by simp [aS,hj,eu]
   have hG:bm B O H (aS [.bor i] ρ σ) a=some (.lst us):=by
    unfold bm
    rw [hl,if_pos hO,if_pos (by simp)]
    exact ha
   exact⟨_,eu,a,rfl,.inl ⟨⟨us,SqL.of ha⟩,q _ _ (ac.refl H) (gX (λH2 s2=>s2.seq (SqL.of hG)) rs)⟩⟩
  |brw ys =>
   simp only [bj,Option.some.injEq]at e3
   subst e3
   simp [be]at e4;subst e4
   obtain⟨a,us,rfl,sq,rs⟩:=so
   exact⟨_,eu,a,rfl,.inl ⟨⟨us,st.keep.seq sq⟩,q _ _ (ac.refl H) (gX (λH2 s2=>s2.seq ((cE st.keep).seq sq)) rs)⟩⟩
  |ownD ys =>
   simp only [bj,Option.some.injEq]at e3
   subst e3
   simp [be]at e4
  |ownO _ _ _=>simp [bj]at e3
  |brwO _ _=>simp [bj]at e3
  |brwD ys =>
   simp only [bj,Option.some.injEq]at e3
   subst e3
   simp [be]at e4
noncomputable abbrev EE(as:List Expr):Prop:=as.length=1\/as.length=2
theorem ya {T:Tab}{k:Nat}{ms:List ME}{args:List Expr}{f:Str}{p pos:Pos} (g:Gf X T k cal) (hf:f=("range":Str)) (hg:glB X.env.scope f=true) (ha:PA X args (tEs X.K cal ms)) (hn:EE args) (hs:args.all aq=true) (hm:ms.length=args.length) :
  PI X tg (.Call (.Name f p) args [] pos) (tW X.K cal .rng ms):=by
 subst hf
 have star:∀e,aq e=true->∀es env,starEach (e::es) env=(false,eval e env)::starEach es env:=λe he es env=>by
  cases e<;>first|rfl|(simp [aq]at he)
 match args,hn with
 | [a],_ =>
  simp only [List.all_cons,List.all_nil,Bool.and_true]at hs
  refine(l4 (dw hg) (g.blt "range" (by decide)) ha (by rw [star a hs];rfl)).imp λσ H R q=>?_
  obtain⟨B,O₀,O,ρ,vs,xs,st,e1,e2,q⟩:=q
  refine⟨B,O₀,O,ρ,vs,st,e1,λus H' s gs=>?_⟩
  match vs,e2,gs with
  | [.int j],e2,gs =>
   simp only [bF]at e2
   split at e2
   ·rename_i c
    cases e2
    obtain⟨u,rfl,ru⟩:=p1 gs.1
    have e3:=ru.int
    subst e3
    exact⟨j,rfl,c.1,c.2,q _ _ s oV⟩
   ·cases e2
  | [.int j,.int j'],e2,gs =>
   have:=iM e1
   simp at this hm
   omega
 | [a,b],_ =>
  simp only [List.all_cons,List.all_nil,Bool.and_true,Bool.and_eq_true]at hs
  refine(r_ (dw hg) (g.blt "range" (by decide)) ha (by rw [star a hs.1,star b hs.2];rfl) (by rw [star b hs.2];rfl)).imp λσ H R q=>?_
  obtain⟨B,O₀,O,ρ,vs,xs,st,e1,e2,q⟩:=q
  refine⟨B,O₀,O,ρ,vs,st,e1,λus H' s gs=>?_⟩
  match vs,e2,gs with
  | [.int i,.int j],e2,gs =>
   simp only [bF]at e2
   split at e2
   ·rename_i c
    cases e2
    obtain⟨u,u',rfl,ru,ru'⟩:=p2 gs.1
    have e3:=ru.int
    have e4:=ru'.int
    subst e3 e4
    exact⟨i,j,rfl,c,q _ _ s oV⟩
   ·cases e2
  | [.int j],e2,gs =>
   have:=iM e1
   simp at this hm
   omega
end
end MM
namespace MM
open PySem PySem.Spec PyProof.Rows L2
noncomputable def tF(K:PySem.W.Frag)(cal:Cal)(me:ME):TE:=λσ H Q=>∃B O₀ O ρ xs,aF K B O₀ O H ρ σ/\ev cal me ρ=some (.lst xs) /\
 ∀p us H',ac H H'->H p=none->H' p=some (.lst us)->Reps K (af H' (p::O)) xs us->Q (.ref p) H'
theorem iN{H:Hp}{O:List Addr}{p:Addr}:ac (af H (p::O)) (af H O):=aQ (ac.refl H) λb hb=>.inl (List.mem_cons_of_mem _ hb)
theorem bV{H:Hp}{O:List Addr}{p:Addr}{o:HO}(h:p∈O):af (upd H p o) O=af H O:=by
 funext b
 unfold af
 split
 ·rfl
 ·rename_i hb
  exact ak λz=>hb (by rw [z];exact h)
theorem rj{K:PySem.W.Frag}{H H':Hp}{O:List Addr}{me:ME}{xs:List PV}{p:Addr}{us:List V}(hO:∀a∈O,H a≠none)(hp:H p=none)(e:H' p=some (.lst us))(r:Reps K (af H' (p::O)) xs us):Got K H' O me (.lst xs) (.ref p):=by
 refine .of ?_
 rw [Rep]
 refine⟨p,us,rfl,SqL.of ?_,Reps.mono iN _ r⟩
 rw [aD λz=>hO p z hp]
 exact e
section
variable{X:Cx}{T:Tab}{k:Nat}{cal:Cal}
theorem dD{e:Expr}{me:ME}(hf:∀ρ v,ev cal me ρ=some v->∃xs,v=.lst xs)(h:PE X e (tF X.K cal me)):PE X e (tE X.K cal me):=by
 refine h.imp λσ H Q q=>?_
 obtain⟨B,O₀,O,ρ,v,st,e1,q⟩:=q
 obtain⟨xs,rfl⟩:=hf ρ v e1
 exact⟨B,O₀,O,ρ,xs,st,e1,λp us H' s hp he r=>q _ _ s (rj st.here hp he r)⟩
theorem Gf.blk(g:Gf X T k cal)(x:Str)(fvs:List Str)(scope:Scope)(s₁:Shared)(H₁:Hp)(C:Addr)(fp:List Addr):Gf (X.blk x fvs scope s₁ H₁ C fp) T k cal:={ g with }
theorem jj{osc:Scope}{N:List Str}{scope:Scope}{x:Str}{fvs:List Str}{js:List Nat}(h:iD osc N scope x fvs js=true):jc osc N scope x fvs js:=by
 unfold iD at h
 simp only [Bool.and_eq_true,beq_iff_eq,decide_eq_true_eq]at h
 obtain⟨⟨⟨⟨⟨⟨⟨⟨h1,h2⟩,h3⟩,h4⟩,h5⟩,h6⟩,h7⟩,h8⟩,h9⟩:=h
 exact⟨h1,h2,h3,h4,h5,h6,h7,h8,h9⟩
theorem vD{K:PySem.W.Frag}{B H H1 H2:Hp}{O₀ O:List Addr}{ρ:Rho}{σ σ':St}{js:List Nat}{D:Addr}{x:PV}{ux:V}(st:aF K B O₀ O H ρ σ)(s1:ac H H1)(s2:ac H1 H2)(hD:H1 D=none)(hD2:H2 D≠none)
  (hσ:∀z,σ'.set 0 z=(iw js σ).set 0 z) (hl:0<σ'.length) (hx:Rep K (af H2 (D::O)) x ux):aF K H1 [] (D::O) H2 (dq js ρ x) (σ'.set 0 (some ux)):=by
 have hv:ac (af H O) (af H2 (D::O)):=aQ (s1.trans s2) λb hb=>by
  rcases List.mem_cons.mp hb with rfl|hb
  ·exact .inr (s1.free hD)
  ·exact .inl hb
 rw [hσ]
 have noown:∀(i:Nat) (m:MV),db m=true->(dq js ρ x)[i]?≠some (some m):=λi m hm e=>by
  unfold dq at e
  cases i with
  |zero =>
   simp at e
   subst e
   cases hm
  |succ i =>
   simp only [List.getElem?_cons_succ,List.getElem?_map,Option.map_eq_some_iff]at e
   obtain⟨j,_,e⟩:=e
   cases hj:(ρ[j]?).join with
   |none=>rw [hj]at e;cases e
   |some mm =>
    rw [hj]at e
    cases mm<;>first|(simp [cy]at e;done)|(simp only [cy,Option.some.injEq]at e;subst e;cases hm)
 refine⟨s2,λa ha=>?_,λa ha=>by simp at ha,λa ha=>by simp at ha,?_,λi m e=>?_,λi j m m' a _ e _ hm=>absurd e (noown i m hm)
  ,kZ λi m e=>by
   cases q:isL m with
   |false=>rfl
   |true=>exact absurd e (noown i m (by cases m<;>first|(cases q;done)|rfl))
  ⟩
 ·rcases List.mem_cons.mp ha with rfl|ha
  ·exact hD2
  ·exact λe=>st.here a ha ((s1.trans s2).free e)
 ·simp [dq,iw]
 ·cases i with
  |zero =>
   simp only [dq,List.getElem?_cons_zero,Option.some.injEq]at e
   subst e
   exact⟨ux,by simp [iw],hx⟩
  |succ i =>
   simp only [dq,List.getElem?_cons_succ,List.getElem?_map,Option.map_eq_some_iff]at e
   obtain⟨j,ej,e⟩:=e
   cases hj:(ρ[j]?).join with
   |none=>rw [hj]at e;cases e
   |some mm =>
    rw [hj]at e
    obtain⟨u,eu,so⟩:=bh st hj
    have eσ:((iw js σ).set 0 (some ux))[i+1]?=some (some u):=by
     simp [iw,ej,eu]
    refine⟨u,eσ,?_⟩
    cases mm with
    |val w =>
     simp only [cy,Option.some.injEq]at e
     subst e
     exact Rep.mono hv _ so
    |own ys =>
     simp only [cy,Option.some.injEq]at e
     subst e
     obtain⟨a,us,rfl,ha,rs,hO,_⟩:=so
     exact⟨a,us,rfl,SqL.of (s1 _ _ ha),Reps.mono hv _ rs⟩
    |brw ys =>
     simp only [cy,Option.some.injEq]at e
     subst e
     obtain⟨a,us,rfl,sq,rs⟩:=so
     exact⟨a,us,rfl,(st.keep.trans s1).seq sq,Reps.mono hv _ rs⟩
    |ownD kvs =>
     simp only [cy,Option.some.injEq]at e
     subst e
     obtain⟨a,rfl,ha,_⟩:=so
     exact⟨a,rfl,.inl (s1 _ _ ha)⟩
    |ownO _ fs ys =>
     simp only [cy,Option.some.injEq]at e
     subst e
     obtain⟨a,l,rfl,q⟩:=so
     exact⟨a,rfl,q.lent.move s1 hv⟩
    |brwO fs ys =>
     simp only [cy,Option.some.injEq]at e
     subst e
     obtain⟨a,rfl,q⟩:=so
     exact⟨a,rfl,q.move (st.keep.trans s1) hv⟩
    |brwD kvs =>
     simp only [cy,Option.some.injEq]at e
     subst e
     obtain⟨a,rfl,ha⟩:=so
     exact⟨a,rfl,ac.rd (st.keep.trans s1) ha⟩
theorem k_{osc:Scope}{N:List Str}{scope:Scope}{x y:Str}{fvs:List Str}{js:List Nat}(h:ff osc N scope x y fvs js=true):iu osc N scope x [y] fvs js/\scope.names.lookup x=some .local/\scope.names.lookup y=some .local:=by
 unfold ff at h
 simp only [Bool.and_eq_true,beq_iff_eq,decide_eq_true_eq]at h
 obtain⟨⟨⟨⟨⟨⟨⟨⟨⟨h1,h2⟩,h3⟩,h4⟩,h5⟩,h6⟩,h7⟩,h8⟩,h9⟩,h10⟩:=h
 refine⟨⟨λy hy e=>?_,.inl ⟨h2,h1⟩,h4,h5,h6,h7,h8,h9,h10⟩,h2,h3⟩
 have:y∈scope.names.filter λy=>y.2 == .cell:=List.mem_filter.mpr ⟨hy,by rw [e];rfl⟩
 rw [h1]at this
 cases this
theorem aF.fill{K:PySem.W.Frag}{B H:Hp}{O₀ O:List Addr}{ρ:Rho}{σ:St}(st:aF K B O₀ O H ρ σ){i:Nat}{v:PV}{u:V}(hi:i<σ.length)(r:Rep K (af H O) v u):aF K B O₀ O H (ρ.set i (some (.val v))) (σ.set i (some u)):=by
 have hi':i<ρ.length:=by rw [st.len];exact hi
 have self:(ρ.set i (some (MV.val v)))[i]?=some (some (.val v)):=List.getElem?_set_self hi'
 refine⟨st.keep,st.here,st.sub,st.old,by rw [List.length_set,List.length_set];exact st.len,λj m e=>?_,λa b xs ys ad hab e1 e2 o1 o2 e3 e4=>?_,c7 st.inn (λj m0 e l0=>?_) λj m c e _ o es=>.inl ?_⟩
 ·by_cases hj:i=j
  ·subst hj
   rw [self]at e
   cases e
   exact⟨u,List.getElem?_set_self hi,r⟩
  ·rw [List.getElem?_set_ne hj]at e
   obtain⟨w,e1,q⟩:=st.slot j m e
   exact⟨w,by rw [List.getElem?_set_ne hj];exact e1,q⟩
 ·have h1:i≠a:=λz=>by subst z;rw [self]at e1;cases e1;cases o1
  have h2:i≠b:=λz=>by subst z;rw [self]at e2;cases e2;cases o2
  rw [List.getElem?_set_ne h1]at e1 e3
  rw [List.getElem?_set_ne h2]at e2 e4
  exact st.apart a b xs ys ad hab e1 e2 o1 o2 e3 e4
 ·have hj:i≠j:=λz=>by subst z;rw [self]at e;cases e;cases l0
  rw [List.getElem?_set_ne hj]at e
  exact⟨⟨m0,e,l0⟩,List.getElem?_set_ne hj,λ_ _ _ h=>h⟩
 ·have hj:i≠j:=λz=>by subst z;rw [self]at e;cases e;cases o
  rw [List.getElem?_set_ne hj]at e es
  exact⟨m,e,o,es⟩
theorem mH:∀(ys:List PV) (n:Nat),∀x∈aY n ys,∃a b,x=.tup [a,b]
 | [],_,x,h=>by cases h
 |y::ys,n,x,h=>by
  rw [aY]at h
  rcases List.mem_cons.mp h with rfl|h
  ·exact⟨_,_,rfl⟩
  ·exact mH ys (n+1) x h
theorem sV{vs xs:List PV}(h:bF sk2 vs=some xs):∀x∈xs,∃a b,x=.tup [a,b]:=by
 have h:bF .enm vs=some xs:=h
 match vs,h with
 | [a],h =>
  simp only [bF,Option.map_eq_some_iff]at h
  obtain⟨ys,_,rfl⟩:=h
  exact mH ys 0
noncomputable def g2(K:PySem.W.Frag):TG:=zH K 2 (nV (bT 0) (nV (bT 1) t6))
theorem yb{ms:List ME}{js:List Nat}{cond elt:ME}{e it tg:Expr}{x y:Str}{ifs:List Expr}{scope:Scope}{pos:Pos}(g:Gf X T k cal)(hsc:ff X.env.scope X.N scope x y (bp X.N js) js=true)
  (hg:∀s₁ H₁ C fp,PG (X.blk x ([y]++bp X.N js) scope s₁ H₁ C fp) tg (g2 X.K)) (hw:PI X tg it (tW X.K cal sk2 ms)) (hns:dO it=true)
  (hc:∀s₁ H₁ C fp,PF (X.blk x ([y]++bp X.N js) scope s₁ H₁ C fp) ifs (tT X.K cal cond)) (he:∀s₁ H₁ C fp,PE (X.blk x ([y]++bp X.N js) scope s₁ H₁ C fp) e (tE X.K cal elt)) (hb:aI elt=false) :
  PE X (.ListComp e [⟨tg,it,ifs,0⟩] scope pos) (tF X.K cal (.comp2 ms js cond elt)):=by
 refine(u6 (k_ hsc).1 g.calm hg hw hc he (by intro v;cases it<;>first|rfl|(simp [dO]at hns))).imp λσ H Q q=>?_
 exact comp_go2 hb q
where
 comp_go2 {ms:List ME}{js:List Nat}{cond elt:ME}{K:PySem.W.Frag}{σ:St}{H:Hp}{Q:VK} (hb:aI elt=false) (q:tF K cal (.comp2 ms js cond elt) σ H Q):u5 (tW K cal sk2 ms) (g2 K) 1 js (tT K cal cond) (tE K cal elt) σ H Q:=by
  obtain⟨B,O₀,O,ρ,ws,st,e1,q⟩:=q
  rw [ev]at e1
  simp only [Option.bind_eq_some_iff]at e1
  obtain⟨vs,e1,xs,e2,e3⟩:=e1
  split at e3
  ·rename_i hlen
   simp only [Option.map_eq_some_iff,PV.lst.injEq,exists_eq_right]at e3
   refine⟨B,O₀,O,ρ,vs,xs,st,e1,e2,λJ H1 s1 it D hD=>?_⟩
   have hDO:D∉O:=λz=>a_ s1 st.here D z hD
   have it1:=it.weak (k9 (st.keep.trans s1))
   refine⟨λi m σ' H'=>m=xs.length-i/\i<=xs.length/\ac H1 H'/\(∀z z',(σ'.set 0 z).set 1 z'=z::z'::js.map λj=>(σ[j]?).join)/\1<σ'.length/\∃done ci ys,bU (λx=>(ev cal cond (ni js ρ x)).bind aM) (λx=>ev cal elt (ni js ρ x)) (xs.drop i)=some ci/\ws=done++ci/\done.length<=i/\H' D=some (.lst ys)/\Reps K (af H' (D::O)) done ys,⟨xs.length,by simp,Nat.zero_le _,aA hD _,λ_ _=>rfl,by simp [m_],[],ws,[],by simpa using e3,rfl,Nat.le_refl _,ah,.nil⟩,?_⟩
   rintro i m σ' H' ⟨rfl,hi,s2,hσ,hl,done,ci,ys,eg,ew,hdl,hDy,rs⟩
   by_cases hlt:i<xs.length
   ·right
    have ex:xs[i]?=some xs[i]:=List.getElem?_eq_getElem hlt
    refine⟨it1.go i _ H' s2 ex,λσ2 H2=>∃m',m'<xs.length-i/\(m'=xs.length-(i+1)/\i+1<=xs.length/\ac H1 H2/\(∀z z',(σ2.set 0 z).set 1 z'=z::z'::js.map λj=>(σ[j]?).join)/\1<σ2.length/\∃done ci ys,bU (λx=>(ev cal cond (ni js ρ x)).bind aM) (λx=>ev cal elt (ni js ρ x)) (xs.drop (i+1))=some ci/\ws=done++ci/\done.length<=i+1/\H2 D=some (.lst ys)/\Reps K (af H2 (D::O)) done ys),λσ2 H2 z=>z,λux H2 y=>?_⟩
    obtain⟨s3,hr⟩:=it1.yld i _ H' ux H2 s2 ex y
    have sv:ac (af H1 O) (af H2 (D::O)):=aQ (s2.trans s3) λb hb=>by
     rcases List.mem_cons.mp hb with rfl|hb
     ·exact .inr hD
     ·exact .inl hb
    have hx:=hr (D::O) (λa ha=>by
     rcases List.mem_cons.mp ha with rfl|ha
     ·rw [hDy];simp
     ·exact λz=>a_ s1 st.here a ha (s2.free z)) sv
    have hD2:H2 D=some (.lst ys):=s3 _ _ hDy
    obtain⟨p,w,exi⟩:=sV e2 _ (List.mem_of_getElem? ex)
    rw [exi,Rep]at hx
    obtain⟨ta,tus,rfl,tt1,tt2⟩:=hx
    rw [Reps]at tt2
    obtain⟨up,r1,rfl,rp,tt2⟩:=tt2
    rw [Reps]at tt2
    obtain⟨uw,r2,rfl,rw2,tt2⟩:=tt2
    rw [Reps]at tt2
    subst tt2
    have hσ0:∀z,(σ'.set 1 none).set 0 z=(iw (σ.length::js) σ).set 0 z:=λz=>by
     rw [List.set_comm _ _ (by decide),hσ]
     show _=z::(σ[σ.length]?).join::_
     rw [List.getElem?_eq_none (Nat.le_refl _)]
     rfl
    have stb0:=vD (js:=σ.length::js) (ρ:=ρ) (σ':=σ'.set 1 none) st s1 (s2.trans s3) hD (by rw [hD2];simp) hσ0 (by rw [List.length_set];omega) rp
    have stb1:=stb0.fill (i:=1) (by rw [List.length_set,List.length_set];exact hl) rw2
    rw [List.set_comm (i:=1) (j:=0) _ _ (by decide),List.set_set]at stb1
    have stb:aF K H1 [] (D::O) H2 (ni js ρ xs[i]) ((σ'.set 0 (some up)).set 1 (some uw)):=by rw [exi];exact stb1
    refine⟨ta,[up,uw],rfl,(aU _ _).seqT (cN tt1),rfl,up,[uw],rfl,?_⟩
    show nV (bT 1) t6 [uw] (σ'.set 0 (some up)) H2 _
    refine⟨uw,[],rfl,?_⟩
    unfold bT t6
    refine⟨rfl,?_⟩
    rw [List.drop_eq_getElem_cons hlt,bU]at eg
    simp only [Option.bind_eq_some_iff]at eg
    obtain⟨b,eb,eg⟩:=eg
    refine⟨H1,[],D::O,_,b,stb,by simpa [evB,Option.bind_eq_some_iff] using eb,λH3 s4=>?_⟩
    have hσ2:∀z z',(((σ'.set 0 (some up)).set 1 (some uw)).set 0 z).set 1 z'=z::z'::js.map λj=>(σ[j]?).join:=λz z'=>by
     rw [List.set_comm (i:=1) (j:=0) _ _ (by decide),List.set_set,List.set_set]
     exact hσ z z'
    have hl2:1<((σ'.set 0 (some up)).set 1 (some uw)).length:=by rw [List.length_set,List.length_set];exact hl
    cases b with
    |false =>
     rw [if_neg (by simp)]at eg
     dsimp only
     rw [if_neg (by simp)]
     refine⟨_,by omega,rfl,hlt,(s2.trans s3).trans s4,hσ2,hl2,done,ci,ys,eg,ew,by omega,s4 _ _ hD2,Reps.mono ?_ _ rs⟩
     exact(ag s3).trans (ag s4)
    |true =>
     rw [if_pos rfl]at eg
     dsimp only
     rw [if_pos rfl]
     simp only [Option.bind_eq_some_iff,Option.map_eq_some_iff]at eg
     obtain⟨y',ey,rest',eg,rfl⟩:=eg
     refine⟨H1,[],D::O,_,y',stb.mono s4,ey,λuy H4 s5 gy=>?_⟩
     have hD4:H4 D=some (.lst ys):=s5 _ _ (s4 _ _ hD2)
     have ry:=gy.2 hb
     have rs4:Reps K (af H4 (D::O)) done ys:=Reps.mono (((ag s3).trans (ag s4)).trans (ag s5)) _ rs
     have hyl:ys.length<=10000:=by rw [<- rs.length];omega
     refine⟨ys,hD4,Nat.lt_of_le_of_lt hyl (by decide),_,by omega,rfl,hlt,?_,hσ2,hl2,done ++ [y'],rest',ys ++ [uy],eg,by simp [ew],by simp;omega,ah,?_⟩
     ·intro b u eb
      rw [ak (az eb hD)]
      exact s5 _ _ (s4 _ _ ((s2.trans s3) _ _ eb))
     ·rw [bV (List.mem_cons_self)]
      exact rs4.snoc ry
   ·left
    have ei:i=xs.length:=by omega
    subst ei
    rw [List.drop_length,bU]at eg
    cases eg
    rw [List.append_nil]at ew
    subst ew
    exact⟨it1.stop H' s2,q D ys H' (s1.trans s2) (s1.free hD) hDy rs⟩
  ·cases e3
theorem qe{k':Sk}{ms:List ME}{js:List Nat}{cond elt:ME}{e it:Expr}{x:Str}{px:Pos}{ifs:List Expr}{scope:Scope}{pos:Pos}(g:Gf X T k cal)(hsc:iD X.env.scope X.N scope x (bp X.N js) js=true)
  (hw:PI X (.Name x px) it (tW X.K cal k' ms)) (hns:dO it=true)
  (hc:∀s₁ H₁ C fp,PF (X.blk x (bp X.N js) scope s₁ H₁ C fp) ifs (tT X.K cal cond)) (he:∀s₁ H₁ C fp,PE (X.blk x (bp X.N js) scope s₁ H₁ C fp) e (tE X.K cal elt)) (hb:aI elt=false) :
  PE X (.ListComp e [⟨.Name x px,it,ifs,0⟩] scope pos) (tF X.K cal (.comp k' ms js cond elt)):=by
 refine(qO (jj hsc) g.calm hw hc he (by intro v;cases it<;>first|rfl|(simp [dO]at hns))).imp λσ H Q q=>?_
 exact comp_go hb q
where
 comp_go {k':Sk}{ms:List ME}{js:List Nat}{cond elt:ME}{K:PySem.W.Frag}{σ:St}{H:Hp}{Q:VK} (hb:aI elt=false) (q:tF K cal (.comp k' ms js cond elt) σ H Q):oB (tW K cal k' ms) js (tT K cal cond) (tE K cal elt) σ H Q:=by
  obtain⟨B,O₀,O,ρ,ws,st,e1,q⟩:=q
  rw [ev]at e1
  simp only [Option.bind_eq_some_iff]at e1
  obtain⟨vs,e1,xs,e2,e3⟩:=e1
  split at e3
  ·rename_i hlen
   simp only [Option.map_eq_some_iff,PV.lst.injEq,exists_eq_right]at e3
   refine⟨B,O₀,O,ρ,vs,xs,st,e1,e2,λJ H1 s1 it D hD=>?_⟩
   have hDO:D∉O:=λz=>a_ s1 st.here D z hD
   have it1:=it.weak (k9 (st.keep.trans s1))
   refine⟨λi m σ' H'=>m=xs.length-i/\i<=xs.length/\ac H1 H'/\(∀z,σ'.set 0 z=(iw js σ).set 0 z)/\0<σ'.length/\∃done ci ys,bU (λx=>(ev cal cond (dq js ρ x)).bind aM) (λx=>ev cal elt (dq js ρ x)) (xs.drop i)=some ci/\ws=done++ci/\done.length<=i/\H' D=some (.lst ys)/\Reps K (af H' (D::O)) done ys,⟨xs.length,by simp,Nat.zero_le _,aA hD _,λ_=>rfl,by simp [iw],[],ws,[],by simpa using e3,rfl,Nat.le_refl _,ah,.nil⟩,?_⟩
   rintro i m σ' H' ⟨rfl,hi,s2,hσ,hl,done,ci,ys,eg,ew,hdl,hDy,rs⟩
   by_cases hlt:i<xs.length
   ·right
    have ex:xs[i]?=some xs[i]:=List.getElem?_eq_getElem hlt
    refine⟨it1.go i _ H' s2 ex,λσ2 H2=>∃m',m'<xs.length-i/\(m'=xs.length-(i+1)/\i+1<=xs.length/\ac H1 H2/\(∀z,σ2.set 0 z=(iw js σ).set 0 z)/\0<σ2.length/\∃done ci ys,bU (λx=>(ev cal cond (dq js ρ x)).bind aM) (λx=>ev cal elt (dq js ρ x)) (xs.drop (i+1))=some ci/\ws=done++ci/\done.length<=i+1/\H2 D=some (.lst ys)/\Reps K (af H2 (D::O)) done ys),λσ2 H2 z=>z,λux H2 y=>?_⟩
    obtain⟨s3,hr⟩:=it1.yld i _ H' ux H2 s2 ex y
    have sv:ac (af H1 O) (af H2 (D::O)):=aQ (s2.trans s3) λb hb=>by
     rcases List.mem_cons.mp hb with rfl|hb
     ·exact .inr hD
     ·exact .inl hb
    have hx:=hr (D::O) (λa ha=>by
     rcases List.mem_cons.mp ha with rfl|ha
     ·rw [hDy];simp
     ·exact λz=>a_ s1 st.here a ha (s2.free z)) sv
    have hD2:H2 D=some (.lst ys):=s3 _ _ hDy
    have stb:=vD (js:=js) (ρ:=ρ) st s1 (s2.trans s3) hD (by rw [hD2];simp) hσ hl hx
    rw [List.drop_eq_getElem_cons hlt,bU]at eg
    simp only [Option.bind_eq_some_iff]at eg
    obtain⟨b,eb,eg⟩:=eg
    refine⟨H1,[],D::O,_,b,stb,by simpa [evB,Option.bind_eq_some_iff] using eb,λH3 s4=>?_⟩
    have hσ2:∀z,(σ'.set 0 (some ux)).set 0 z=(iw js σ).set 0 z:=λz=>by rw [List.set_set];exact hσ z
    have hl2:0<(σ'.set 0 (some ux)).length:=by rw [List.length_set];exact hl
    cases b with
    |false =>
     rw [if_neg (by simp)]at eg
     dsimp only
     rw [if_neg (by simp)]
     refine⟨_,by omega,rfl,hlt,(s2.trans s3).trans s4,hσ2,hl2,done,ci,ys,eg,ew,by omega,s4 _ _ hD2,Reps.mono ?_ _ rs⟩
     exact(ag s3).trans (ag s4)
    |true =>
     rw [if_pos rfl]at eg
     dsimp only
     rw [if_pos rfl]
     simp only [Option.bind_eq_some_iff,Option.map_eq_some_iff]at eg
     obtain⟨y',ey,rest',eg,rfl⟩:=eg
     refine⟨H1,[],D::O,_,y',stb.mono s4,ey,λuy H4 s5 gy=>?_⟩
     have hD4:H4 D=some (.lst ys):=s5 _ _ (s4 _ _ hD2)
     have ry:=gy.2 hb
     have rs4:Reps K (af H4 (D::O)) done ys:=Reps.mono (((ag s3).trans (ag s4)).trans (ag s5)) _ rs
     have hyl:ys.length<=10000:=by rw [<- rs.length];omega
     refine⟨ys,hD4,Nat.lt_of_le_of_lt hyl (by decide),_,by omega,rfl,hlt,?_,hσ2,hl2,done ++ [y'],rest',ys ++ [uy],eg,by simp [ew],by simp;omega,ah,?_⟩
     ·intro b u eb
      rw [ak (az eb hD)]
      exact s5 _ _ (s4 _ _ ((s2.trans s3) _ _ eb))
     ·rw [bV (List.mem_cons_self)]
      exact rs4.snoc ry
   ·left
    have ei:i=xs.length:=by omega
    subst ei
    rw [List.drop_length,bU]at eg
    cases eg
    rw [List.append_nil]at ew
    subst ew
    exact⟨it1.stop H' s2,q D ys H' (s1.trans s2) (s1.free hD) hDy rs⟩
  ·cases e3
end
end MM
namespace MM
open PySem PySem.Spec PyProof.Rows L2
section
variable{X:Cx}{T:Tab}{k:Nat}{cal:Cal}
theorem bb{e:Expr}(he:aq e=true)(es:List Expr)(env:Env):starEach (e::es) env=(false,eval e env)::starEach es env:=by
 cases e<;>first|rfl|(simp [aq]at he)
theorem bg{pos:Pos}{env:Env}:∀{es:List Expr},es.all aq=true->(backTo pos (starEach es env)).any (·.1)=false
 | [],_=>rfl
 |e::es,h=>by
  simp only [List.all_cons,Bool.and_eq_true]at h
  rw [bb h.1]
  show(false || (backTo pos (starEach es env)).any (·.1))=false
  rw [bg h.2];rfl
theorem a7:∀{ms:List ME}{N:List Str}{sc:Scope}{es:List Expr},chks T ms N sc es=true->es.all aq=true/\ms.length=es.length
 | [],_,_,[],_=>⟨rfl,rfl⟩
 | [],_,_,_::_,h=>by simp [chks]at h
 | _::_,_,_,[],h=>by simp [chks]at h
 |m::ms,N,sc,e::es,h=>by
  simp only [chks,Bool.and_eq_true]at h
  obtain⟨h1,h2⟩:=a7 h.2
  exact⟨by simp [h.1.2,h1],by simp [h2]⟩
theorem aZ{e:Expr}{me:ME}(h:PE X e (tE X.K cal me))(hp:jf e=true):PT X e (tT X.K cal me):=by
 refine(zx h (by intro w;cases e<;>first|rfl|(simp [jf]at hp;done)|(rename_i op _ _;cases op<;>first|rfl|(simp [jf]at hp)))).imp λσ H Q q=>?_
 obtain⟨B,O₀,O,ρ,b,st,e1,q⟩:=q
 simp only [evB,Option.bind_eq_some_iff]at e1
 obtain⟨v,e1,e2⟩:=e1
 refine⟨B,O₀,O,ρ,v,st,e1,λu H' s g=>?_⟩
 cases v<;>simp [aM]at e2
 subst e2
 exact⟨_,g.1.bl,q H' s⟩
theorem vE{m:ME}{ms:List ME}{e:Expr}{es:List Expr}(h:PE X e (tE X.K cal m))(hs:PA X es (tEs X.K cal ms))(hn:aq e=true):PA X (e::es) (tEs X.K cal (m::ms)):=by
 refine(au h hs (bb hn es _)).imp λσ H Q q=>?_
 obtain⟨B,O₀,O,ρ,vs,st,e1,q⟩:=q
 simp only [evs,Option.bind_eq_some_iff,Option.map_eq_some_iff]at e1
 obtain⟨v,e1,ws,e2,rfl⟩:=e1
 refine⟨B,O₀,O,ρ,v,st,e1,λu H1 s1 g1=>⟨B,O₀,O,ρ,ws,st.mono s1,e2,λus H2 s2 g2=>q (u::us) H2 (s1.trans s2) ⟨.cons (g1.1.mono s2) g2.1,λhb=>?_⟩⟩⟩
 simp only [List.all_cons,Bool.and_eq_true,Bool.not_eq_true']at hb
 exact .cons ((g1.mono s2).2 hb.1) (g2.2 hb.2)
theorem yc:PA X [] (tEs X.K cal []):=by
 refine aR.imp λσ H Q q=>?_
 obtain⟨B,O₀,O,ρ,vs,st,e1,q⟩:=q
 simp only [evs,Option.some.injEq]at e1
 subst e1
 exact q [] H (ac.refl H) ⟨.nil,λ_=>.nil⟩
theorem vF:PA X [] (tAs X.K cal []):=by
 refine aR.imp λσ H Q q=>?_
 obtain⟨B,O₀,O,ρ,vs,st,e1,q⟩:=q
 simp only [evA,Option.some.injEq]at e1
 subst e1
 exact q [] H (ac.refl H) .nil
theorem vG{K:PySem.W.Frag}{H H':Hp}{O:List Addr}(s:ac H H'){m:MV}{u:V}(h:dQ K O H m u):dQ K O H' m u:=by
 cases m with
 |val v=>exact Rep.mono (ag s) _ h
 |own _=>exact h
 |brw xs=>obtain⟨a,us,e,q,r⟩:=h;exact⟨a,us,e,s.seq q,Reps.mono (ag s) _ r⟩
 |ownD _=>exact h
 |ownO _ _ _=>exact h
 |brwO fs xs=>obtain⟨a,e,q⟩:=h;exact⟨a,e,q.move s (ag s)⟩
 |brwD kvs=>obtain⟨a,e,q⟩:=h;exact⟨a,e,ac.rd s q⟩
theorem sW{m:ME}{ms:List ME}{e:Expr}{es:List Expr}(hb:aI m=false)(h:PE X e (tE X.K cal m))(hs:PA X es (tAs X.K cal ms))(hn:aq e=true):PA X (e::es) (tAs X.K cal (m::ms)):=by
 refine(au h hs (bb hn es _)).imp λσ H Q q=>?_
 obtain⟨B,O₀,O,ρ,vs,st,e1,q⟩:=q
 have e1':(ev cal m ρ).bind (λv=>(evA cal ms ρ).map (MV.val v::·))=some vs:=by
  rw [<- e1]
  cases m<;>first|(cases hb;done)|(simp only [evA];done)|rfl
 simp only [Option.bind_eq_some_iff,Option.map_eq_some_iff]at e1'
 obtain⟨v,e9,ws,e2,rfl⟩:=e1'
 exact⟨B,O₀,O,ρ,v,st,e9,λu H1 s1 g1=>⟨B,O₀,O,ρ,ws,st.mono s1,e2,λus H2 s2 g2=>q (u::us) H2 (s1.trans s2) (.cons ((g1.mono s2).2 hb) g2)⟩⟩
theorem vH{i:Nat}{ms:List ME}{x:Str}{pos:Pos}{es:List Expr}(h:ar X.N X.env.scope i x=true)(hs:PA X es (tAs X.K cal ms)):PA X (.Name x pos::es) (tAs X.K cal (.bor i::ms)):=by
 refine(au (bz h) hs rfl).imp λσ H Q q=>?_
 obtain⟨B,O₀,O,ρ,vs,st,e1,q⟩:=q
 rw [evA]at e1
 simp only [Option.bind_eq_some_iff,Option.map_eq_some_iff]at e1
 obtain⟨m',e1,ws,e2,rfl⟩:=e1
 cases hj:(ρ[i]?).join with
 |none=>rw [hj]at e1;cases e1
 |some m =>
  rw [hj]at e1
  obtain⟨u,eu,so⟩:=bh st hj
  have ao:dQ X.K O H m' u:=by
   cases m with
   |val w=>simp only [eA,Option.some.injEq]at e1;subst e1;exact so
   |own ys=>simp only [eA,Option.some.injEq]at e1;subst e1;obtain⟨a,us,rfl,ha,rs,_⟩:=so;exact⟨a,us,rfl,SqL.of ha,rs⟩
   |brw ys=>simp only [eA,Option.some.injEq]at e1;subst e1;obtain⟨a,us,rfl,sq,rs⟩:=so;exact⟨a,us,rfl,st.keep.seq sq,rs⟩
   |ownD kvs=>simp only [eA,Option.some.injEq]at e1;subst e1;obtain⟨a,rfl,ha,_⟩:=so;exact⟨a,rfl,.inl ha⟩
   |ownO _ fs ys=>simp only [eA,Option.some.injEq]at e1;subst e1;obtain⟨a,l,rfl,q⟩:=so;exact⟨a,rfl,q.lent⟩
   |brwO fs ys=>simp only [eA,Option.some.injEq]at e1;subst e1;obtain⟨a,rfl,q⟩:=so;exact⟨a,rfl,q.move st.keep (ac.refl _)⟩
   |brwD kvs=>simp only [eA,Option.some.injEq]at e1;subst e1;obtain⟨a,rfl,ha⟩:=so;exact⟨a,rfl,ac.rd st.keep ha⟩
  exact⟨u,eu,⟨B,O₀,O,ρ,ws,st,e2,λus H2 s2 g2=>q (u::us) H2 s2 (.cons (vG s2 ao) g2)⟩⟩
theorem CQ{op:Op2}{a b:ME}{l r:Expr}{pos:Pos}(ha:PE X l (tE X.K cal a))(hb:PE X r (tE X.K cal b)):PE X (.BinOp l (As op) r pos) (tE X.K cal (.bin op a b)):=by
 refine(Cd (AB op) ha hb).imp λσ H Q q=>?_
 obtain⟨B,O₀,O,ρ,v,st,e1,q⟩:=q
 rw [ev]at e1
 simp only [Option.bind_eq_some_iff]at e1
 obtain⟨x,e1,y,e2,e3⟩:=e1
 exact⟨B,O₀,O,ρ,x,st,e1,λux H1 s1 g1=>⟨B,O₀,O,ρ,y,st.mono s1,e2,λuy H2 s2 g2=>⟨O,x,y,v,a_ (s1.trans s2) st.here,g1.1.mono s2,g2.1,e3,λu H3 s3 r=>q u H3 ((s1.trans s2).trans s3) (.of r)⟩⟩⟩
theorem CS{a:ME}{e:Expr}{pos:Pos}(ha:PE X e (tE X.K cal a)):PE X (.UnaryOp .Not e pos) (tE X.K cal (.not a)):=by
 refine(zD ha).imp λσ H Q q=>?_
 obtain⟨B,O₀,O,ρ,v,st,e1,q⟩:=q
 rw [ev]at e1
 simp only [Option.bind_eq_some_iff,Option.map_eq_some_iff]at e1
 obtain⟨b,⟨x,e1,e2⟩,rfl⟩:=e1
 cases x<;>simp only [aM,Option.some.injEq,reduceCtorEq]at e2
 subst e2
 exact⟨B,O₀,O,ρ,_,st,e1,λux H1 s1 g1=>⟨_,g1.1.bl,q _ H1 s1 (.of (cj _ _))⟩⟩
theorem CT{a:ME}{e:Expr}{pos:Pos}(ha:PT X e (tT X.K cal a)):PT X (.UnaryOp .Not e pos) (tT X.K cal (.not a)):=by
 refine(zB ha).imp λσ H Q q=>?_
 obtain⟨B,O₀,O,ρ,b,st,e1,q⟩:=q
 simp only [evB,ev,Option.bind_eq_some_iff,Option.map_eq_some_iff]at e1
 obtain⟨v,⟨c,⟨x,e1,e2⟩,rfl⟩,e3⟩:=e1
 simp only [aM,Option.some.injEq]at e3
 subst e3
 exact⟨B,O₀,O,ρ,c,st,by simp [evB,e1,e2],λH' s=>q H' s⟩
theorem zg{a b:ME}{x y:Expr}{r:List Expr}{pos:Pos}(ha:PE X x (tE X.K cal a))(hb:PE X (.BoolOp .And (y::r) pos) (tE X.K cal b)):PE X (.BoolOp .And (x::y::r) pos) (tE X.K cal (.and a b)):=by
 refine(zC ha hb).imp λσ H Q q=>?_
 obtain⟨B,O₀,O,ρ,v,st,e1,q⟩:=q
 rw [ev]at e1
 simp only [Option.bind_eq_some_iff]at e1
 obtain⟨c,⟨z,e1,e2⟩,e3⟩:=e1
 cases z<;>simp only [aM,Option.some.injEq,reduceCtorEq]at e2
 subst e2
 refine⟨B,O₀,O,ρ,_,st,e1,λux H1 s1 g1=>⟨_,g1.1.bl,?_⟩⟩
 split at e3
 ·rename_i h
  rw [if_pos h]
  simp only [Option.bind_eq_some_iff,Option.map_eq_some_iff]at e3
  obtain⟨z',e3,c',e4,rfl⟩:=e3
  cases z'<;>simp only [aM,Option.some.injEq,reduceCtorEq]at e4
  subst e4
  exact⟨B,O₀,O,ρ,_,st.mono s1,e3,λu H2 s2 g2=>q u H2 (s1.trans s2) (by rw [g2.1.bl];exact .of (cj _ _))⟩
 ·rename_i h
  rw [if_neg h]
  cases e3
  exact q _ H1 s1 (.of (cj _ _))
theorem CU{a b:ME}{x y:Expr}{r:List Expr}{pos:Pos}(ha:PE X x (tE X.K cal a))(hb:PE X (.BoolOp .Or (y::r) pos) (tE X.K cal b)):PE X (.BoolOp .Or (x::y::r) pos) (tE X.K cal (.or a b)):=by
 refine(Ca ha hb).imp λσ H Q q=>?_
 obtain⟨B,O₀,O,ρ,v,st,e1,q⟩:=q
 rw [ev]at e1
 simp only [Option.bind_eq_some_iff]at e1
 obtain⟨c,⟨z,e1,e2⟩,e3⟩:=e1
 cases z<;>simp only [aM,Option.some.injEq,reduceCtorEq]at e2
 subst e2
 refine⟨B,O₀,O,ρ,_,st,e1,λux H1 s1 g1=>⟨_,g1.1.bl,?_⟩⟩
 split at e3
 ·rename_i h
  rw [if_pos h]
  cases e3
  exact q _ H1 s1 (.of (cj _ _))
 ·rename_i h
  rw [if_neg h]
  simp only [Option.bind_eq_some_iff,Option.map_eq_some_iff]at e3
  obtain⟨z',e3,c',e4,rfl⟩:=e3
  cases z'<;>simp only [aM,Option.some.injEq,reduceCtorEq]at e4
  subst e4
  exact⟨B,O₀,O,ρ,_,st.mono s1,e3,λu H2 s2 g2=>q u H2 (s1.trans s2) (by rw [g2.1.bl];exact .of (cj _ _))⟩
theorem zh{op:BoolOp}{vs:List Expr}{pos:Pos}{t:TT}(h:PT X (.BoolOp op vs pos) t):PW X (.BoolOp op vs pos) t:=λw pins s σ H Q I q=>by
 have:=h pins s σ H Q I q
 rw [show PySem.isTrue (.BoolOp op vs pos) X.env w=PySem.isTrue (.BoolOp op vs pos) X.env (eval (.BoolOp op vs pos) X.env) from rfl]
 exact this
theorem zi{a b:ME}{x y:Expr}{r:List Expr}{pos:Pos}(ha:PT X x (tT X.K cal a))(hb:PW X (.BoolOp .And (y::r) pos) (tT X.K cal b)):PT X (.BoolOp .And (x::y::r) pos) (tT X.K cal (.and a b)):=by
 refine(zA ha hb).pt.imp λσ H Q q=>?_
 obtain⟨B,O₀,O,ρ,v,st,e1,q⟩:=q
 simp only [evB,ev,Option.bind_eq_some_iff]at e1
 obtain⟨w,⟨c,⟨z,e1,e2⟩,e3⟩,e4⟩:=e1
 refine⟨B,O₀,O,ρ,c,st,by simp [evB,e1,e2],λH1 s1=>?_⟩
 split at e3
 ·rename_i h
  rw [if_pos h]
  simp only [Option.bind_eq_some_iff,Option.map_eq_some_iff]at e3
  obtain⟨z',e3,c',e5,rfl⟩:=e3
  simp only [aM,Option.some.injEq]at e4
  subst e4
  exact⟨B,O₀,O,ρ,_,st.mono s1,by simp [evB,e3,e5],λH2 s2=>q H2 (s1.trans s2)⟩
 ·rename_i h
  rw [if_neg h]
  cases e3
  cases e4
  exact q H1 s1
theorem CV{a b:ME}{x y:Expr}{r:List Expr}{pos:Pos}(ha:PT X x (tT X.K cal a))(hb:PW X (.BoolOp .Or (y::r) pos) (tT X.K cal b)):PT X (.BoolOp .Or (x::y::r) pos) (tT X.K cal (.or a b)):=by
 refine(B8 ha hb).pt.imp λσ H Q q=>?_
 obtain⟨B,O₀,O,ρ,v,st,e1,q⟩:=q
 simp only [evB,ev,Option.bind_eq_some_iff]at e1
 obtain⟨w,⟨c,⟨z,e1,e2⟩,e3⟩,e4⟩:=e1
 refine⟨B,O₀,O,ρ,c,st,by simp [evB,e1,e2],λH1 s1=>?_⟩
 split at e3
 ·rename_i h
  rw [if_pos h]
  cases e3
  cases e4
  exact q H1 s1
 ·rename_i h
  rw [if_neg h]
  simp only [Option.bind_eq_some_iff,Option.map_eq_some_iff]at e3
  obtain⟨z',e3,c',e5,rfl⟩:=e3
  simp only [aM,Option.some.injEq]at e4
  subst e4
  exact⟨B,O₀,O,ρ,_,st.mono s1,by simp [evB,e3,e5],λH2 s2=>q H2 (s1.trans s2)⟩
theorem CW{c a b:ME}{t x y:Expr}{pos:Pos}(hc:PT X t (tT X.K cal c))(ha:PE X x (tE X.K cal a))(hb:PE X y (tE X.K cal b))(na:aI a=false)(nb:aI b=false):PE X (.IfExp t x y pos) (tE X.K cal (.ite c a b)):=by
 refine(tX hc ha hb).imp λσ H Q q=>?_
 obtain⟨B,O₀,O,ρ,v,st,e1,q⟩:=q
 rw [ev]at e1
 simp only [Option.bind_eq_some_iff]at e1
 obtain⟨k',e1,e3⟩:=e1
 refine⟨B,O₀,O,ρ,k',st,by simpa [evB,Option.bind_eq_some_iff] using e1,λH1 s1=>?_⟩
 split at e3
 ·rename_i h
  rw [if_pos h]
  exact⟨B,O₀,O,ρ,v,st.mono s1,e3,λu H2 s2 g2=>q u H2 (s1.trans s2) (.of (g2.2 na))⟩
 ·rename_i h
  rw [if_neg h]
  exact⟨B,O₀,O,ρ,v,st.mono s1,e3,λu H2 s2 g2=>q u H2 (s1.trans s2) (.of (g2.2 nb))⟩
theorem CY{c a b:ME}{t x y:Expr}{pos:Pos}(hc:PT X t (tT X.K cal c))(ha:PT X x (tT X.K cal a))(hb:PT X y (tT X.K cal b)):PT X (.IfExp t x y pos) (tT X.K cal (.ite c a b)):=by
 intro pins s σ H Q I q
 obtain⟨B,O₀,O,ρ,v,st,e1,q⟩:=q
 simp only [evB,ev,Option.bind_eq_some_iff]at e1
 obtain⟨w,⟨k',e1,e3⟩,e4⟩:=e1
 refine isTrue_IfExp (thn (hc pins s σ H (λb H1=>b=k'/\ac H H1) I ⟨B,O₀,O,ρ,k',st,by simpa [evB,Option.bind_eq_some_iff] using e1,λH1 s1=>⟨rfl,s1⟩⟩) λb s1 ⟨H1,I1,eb,hs⟩=>?_)
 subst eb
 split at e3
 ·rename_i h
  subst h
  exact ha pins s1 σ H1 Q I1 ⟨B,O₀,O,ρ,v,st.mono hs,by simp [evB,e3,e4],λH2 s2=>q H2 (hs.trans s2)⟩
 ·rename_i h
  have:b=false:=by cases b<;>simp at h ⊢
  subst this
  exact hb pins s1 σ H1 Q I1 ⟨B,O₀,O,ρ,v,st.mono hs,by simp [evB,e3,e4],λH2 s2=>q H2 (hs.trans s2)⟩
theorem CZ{op:Cp}{a b:ME}{l r:Expr}{pos:Pos}(g:Gf X T k cal)(ha:PE X l (tE X.K cal a))(hb:PE X r (tE X.K cal b))(hm:behindInMarks (fB op) r=false):PE X (.Compare l [fB op] [r] pos) (tE X.K cal (.cmp op a b))/\PT X (.Compare l [fB op] [r] pos) (tT X.K cal (.cmp op a b)):=by
 refine⟨(qD (f_ g.units op) ha hb hm).imp λσ H Q q=>?_,(qE (f_ g.units op) ha hb hm).imp λσ H Q q=>?_⟩
 ·obtain⟨B,O₀,O,ρ,v,st,e1,q⟩:=q
  rw [ev]at e1
  simp only [Option.bind_eq_some_iff,Option.map_eq_some_iff]at e1
  obtain⟨x,e1,y,e2,c,e3,rfl⟩:=e1
  exact⟨B,O₀,O,ρ,x,st,e1,λux H1 s1 g1=>⟨B,O₀,O,ρ,y,st.mono s1,e2,λuy H2 s2 g2=>⟨O,x,y,c,g1.1.mono s2,g2.1,e3,q _ H2 (s1.trans s2) (.of (cj _ _))⟩⟩⟩
 ·obtain⟨B,O₀,O,ρ,v,st,e1,q⟩:=q
  simp only [evB,ev,Option.bind_eq_some_iff,Option.map_eq_some_iff]at e1
  obtain⟨w,⟨x,e1,y,e2,c,e3,rfl⟩,e4⟩:=e1
  simp only [aM,Option.some.injEq]at e4
  subst e4
  exact⟨B,O₀,O,ρ,x,st,e1,λux H1 s1 g1=>⟨B,O₀,O,ρ,y,st.mono s1,e2,λuy H2 s2 g2=>⟨O,x,y,c,g1.1.mono s2,g2.1,e3,_,rfl,q H2 (s1.trans s2)⟩⟩⟩
theorem yd{op op':Cp}{a b c:ME}{l m r:Expr}{pos:Pos}(g:Gf X T k cal)(ha:PE X l (tE X.K cal a))(hb:PE X m (tE X.K cal b))(hc:PE X r (tE X.K cal c))(hm:lastMarks [fB op,fB op'] [m,r]=false) :
  PE X (.Compare l [fB op,fB op'] [m,r] pos) (tE X.K cal (.chain op op' a b c))/\PT X (.Compare l [fB op,fB op'] [m,r] pos) (tT X.K cal (.chain op op' a b c)):=by
 refine⟨(ub (f_ g.units op) (f_ g.units op') ha hb hc hm).imp λσ H Q q=>?_,(ue (f_ g.units op) (f_ g.units op') ha hb hc hm).imp λσ H Q q=>?_⟩
 ·obtain⟨B,O₀,O,ρ,v,st,e1,q⟩:=q
  rw [ev]at e1
  simp only [Option.bind_eq_some_iff]at e1
  obtain⟨x,e1,y,e2,c',e3,e4⟩:=e1
  refine⟨B,O₀,O,ρ,x,st,e1,λux H1 s1 g1=>⟨B,O₀,O,ρ,y,st.mono s1,e2,λuy H2 s2 g2=>⟨O,x,y,c',g1.1.mono s2,g2.1,e3,_,rfl,?_⟩⟩⟩
  split at e4
  ·rename_i h
   rw [if_pos h]
   simp only [Option.bind_eq_some_iff,Option.map_eq_some_iff]at e4
   obtain⟨z,e4,d,e5,rfl⟩:=e4
   exact⟨B,O₀,O,ρ,z,(st.mono s1).mono s2,e4,λuz H3 s3 g3=>⟨O,y,z,d,g2.1.mono s3,g3.1,e5,q _ H3 ((s1.trans s2).trans s3) (.of (cj _ _))⟩⟩
  ·rename_i h
   rw [if_neg h]
   cases e4
   exact q _ H2 (s1.trans s2) (.of (cj _ _))
 ·obtain⟨B,O₀,O,ρ,v,st,e1,q⟩:=q
  simp only [evB,ev,Option.bind_eq_some_iff]at e1
  obtain⟨w,⟨x,e1,y,e2,c',e3,e4⟩,e6⟩:=e1
  refine⟨B,O₀,O,ρ,x,st,e1,λux H1 s1 g1=>⟨B,O₀,O,ρ,y,st.mono s1,e2,λuy H2 s2 g2=>⟨O,x,y,c',g1.1.mono s2,g2.1,e3,_,rfl,?_⟩⟩⟩
  split at e4
  ·rename_i h
   rw [if_pos h]
   simp only [Option.bind_eq_some_iff,Option.map_eq_some_iff]at e4
   obtain⟨z,e4,d,e5,rfl⟩:=e4
   simp only [aM,Option.some.injEq]at e6
   subst e6
   exact⟨B,O₀,O,ρ,z,(st.mono s1).mono s2,e4,λuz H3 s3 g3=>⟨O,y,z,d,g2.1.mono s3,g3.1,e5,_,rfl,q H3 ((s1.trans s2).trans s3)⟩⟩
  ·rename_i h
   rw [if_neg h]
   cases e4
   cases e6
   exact⟨_,rfl,q H2 (s1.trans s2)⟩
theorem C0{ms:List ME}{es:List Expr}{j:Nat}{pos:Pos}(h:PA X es (tEs X.K cal ms))(hb:(ms.all λm=>!aI m)=true):PE X (.Tuple es j pos) (tE X.K cal (.tup ms)):=by
 refine(zV h).imp λσ H Q q=>?_
 obtain⟨B,O₀,O,ρ,v,st,e1,q⟩:=q
 rw [ev]at e1
 simp only [Option.bind_eq_some_iff]at e1
 obtain⟨vs,e1,e2⟩:=e1
 split at e2
 ·rename_i hl
  cases e2
  refine⟨B,O₀,O,ρ,vs,st,e1,λus H1 s1 g1=>⟨?_,λp hp=>?_⟩⟩
  ·rw [<- (g1.2 hb).length];exact fh hl
  ·exact q _ _ (s1.trans (aA hp _)) (.of (iI (a_ s1 st.here) hp (g1.2 hb)))
 ·cases e2
theorem zj{ms:List ME}{es:List Expr}{pos:Pos}(h:PA X es (tEs X.K cal ms))(hb:(ms.all λm=>!aI m)=true):PE X (.List es pos) (tF X.K cal (.lst ms)):=by
 refine(eP h).imp λσ H Q q=>?_
 obtain⟨B,O₀,O,ρ,xs,st,e1,q⟩:=q
 rw [ev]at e1
 simp only [Option.bind_eq_some_iff]at e1
 obtain⟨vs,e1,e2⟩:=e1
 split at e2
 ·rename_i hl
  cases e2
  refine⟨B,O₀,O,ρ,xs,st,e1,λus H1 s1 g1=>⟨?_,λp hp=>?_⟩⟩
  ·rw [<- (g1.2 hb).length];exact fh hl
  ·refine q p us _ (s1.trans (aA hp _)) (s1.free hp) ah ?_
   rw [bV (List.mem_cons_self)]
   refine Reps.mono (aQ (ac.refl H1) λb hb=>?_) _ (g1.2 hb)
   rcases List.mem_cons.mp hb with rfl|hb
   ·exact .inr hp
   ·exact .inl hb
 ·cases e2
theorem C1{a i:ME}{v s:Expr}{pos:Pos}(ha:PE X v (tE X.K cal a))(hi:PE X s (tE X.K cal i))(hs:cB s=true):PE X (.Subscript v s pos) (tE X.K cal (.idx a i)):=by
 refine(jA AD ha hi (qc hs)).imp λσ H Q q=>?_
 obtain⟨B,O₀,O,ρ,v,st,e1,q⟩:=q
 rw [ev]at e1
 simp only [Option.bind_eq_some_iff]at e1
 obtain⟨x,e1,y,e2,e3⟩:=e1
 exact⟨B,O₀,O,ρ,x,st,e1,λux H1 s1 g1=>⟨B,O₀,O,ρ,y,st.mono s1,e2,λuy H2 s2 g2=>⟨O,x,y,v,a_ (s1.trans s2) st.here,g1.1.mono s2,g2.1,e3,λu H3 s3 r=>q u H3 ((s1.trans s2).trans s3) (.of r)⟩⟩⟩
noncomputable def tB1(K:PySem.W.Frag)(cal:Cal)(me:ME):TO:=λσ H Q=>∃B O₀ O ρ o,aF K B O₀ O H ρ σ/\((ev cal me ρ).bind λv=>bnd me v)=some o/\∀H',ac H H'->Q o H'
theorem AK{m:ME}(h:gU m=true):PO X none (tB1 X.K cal m):=by
 have e:m=.cst .non:=by
  unfold gU at h
  split at h
  ·rfl
  ·cases h
 subst e
 intro pins s σ H Q I q
 obtain⟨B,O₀,O,ρ,o,st,e1,q⟩:=q
 simp only [ev,Option.bind_some,bnd,Option.some.injEq]at e1
 subst e1
 exact xw pins s σ H Q I (q H (ac.refl H))
theorem AL{m:ME}{l:Expr}(h:PE X l (tE X.K cal m))(hn:gU m=false):PO X (some l) (tB1 X.K cal m):=by
 intro pins s σ H Q I q
 obtain⟨B,O₀,O,ρ,o,st,e1,q⟩:=q
 simp only [Option.bind_eq_some_iff]at e1
 obtain⟨v,e1,e2⟩:=e1
 obtain⟨i,rfl,rfl⟩:∃i,v=.int i/\o=some i:=by
  unfold bnd at e2
  split at e2
  ·simp [gU]at hn
  ·cases e2;exact⟨_,rfl,rfl⟩
  ·cases e2
 exact xx h pins s σ H Q I ⟨B,O₀,O,ρ,_,st,e1,λu H' s' g=>⟨i,g.1.int,q H' s'⟩⟩
theorem ye{a lo hi:ME}{v:Expr}{l u:Option Expr}{p2 pos:Pos}(ha:PE X v (tE X.K cal a))(hl:PO X l (tB1 X.K cal lo))(hu:PO X u (tB1 X.K cal hi)):PE X (.Subscript v (.Slice l u none p2) pos) (tE X.K cal (.slice a lo hi)):=by
 refine(uA AE ha hl hu).imp λσ H Q q=>?_
 obtain⟨B,O₀,O,ρ,w,st,e1,q⟩:=q
 rw [ev,Option.bind_eq_some_iff]at e1
 obtain⟨x,e1,e2⟩:=e1
 rw [Option.bind_eq_some_iff]at e2
 obtain⟨lo',e2,e3⟩:=e2
 rw [Option.bind_eq_some_iff]at e3
 obtain⟨hi',e3,e4⟩:=e3
 exact⟨B,O₀,O,ρ,x,st,e1,λux H1 s1 g1=>⟨B,O₀,O,ρ,lo',st.mono s1,e2,λH2 s2=>⟨B,O₀,O,ρ,hi',(st.mono s1).mono s2,e3,λH3 s3 =>
  ⟨O,x,w,a_ ((s1.trans s2).trans s3) st.here,g1.1.mono (s2.trans s3),e4,λu H4 s4 r=>q u H4 (((s1.trans s2).trans s3).trans s4) (.of r)⟩⟩⟩⟩
theorem vI {f:Blt}{ms:List ME}{x:Str}{e:Expr}{es:List Expr}{p pos:Pos}{id:String} (hc:b7 X (.builtin id) (RBM X.K (aE f))) (hg:glB X.env.scope x=true) (hm:X.mg x=none) (hv:bootBuiltins x=some (.builtin id)) (hn:x ≠ "__name__") (hd:(x == ("__debug__":Str))=false)
  (ha:PA X (e::es) (tEs X.K cal ms)) (hs:(e::es).all aq=true):PE X (.Call (.Name x p) (e::es) [] pos) (tE X.K cal (.blt f ms)):=by
 simp only [List.all_cons,Bool.and_eq_true]at hs
 refine(ib hc (dw hg) hm hv ha hn hd (bb hs.1 es _) (bg hs.2)).imp λσ H Q q=>?_
 obtain⟨B,O₀,O,ρ,v,st,e1,q⟩:=q
 rw [ev,Option.bind_eq_some_iff]at e1
 obtain⟨vs,e1,e2⟩:=e1
 exact⟨B,O₀,O,ρ,vs,st,e1,λus H1 s1 g1=>⟨O,vs,v,a_ s1 st.here,g1.1,e2,λu H2 s2 r=>q u H2 (s1.trans s2) (.of r)⟩⟩
theorem AM {f:Blt}{ms:List ME}{x:Str}{e:Expr}{es:List Expr}{p pos:Pos}{id:String} (hc:b7 X (.type id) (RBM X.K (aE f))) (hg:glB X.env.scope x=true) (hm:X.mg x=none) (hv:bootBuiltins x=some (.type id)) (hn:x ≠ "__name__") (hd:(x == ("__debug__":Str))=false)
  (ha:PA X (e::es) (tEs X.K cal ms)) (hs:(e::es).all aq=true):PE X (.Call (.Name x p) (e::es) [] pos) (tE X.K cal (.blt f ms)):=by
 simp only [List.all_cons,Bool.and_eq_true]at hs
 refine(gm hc (dw hg) hm hv ha hn hd (bb hs.1 es _) (bg hs.2)).imp λσ H Q q=>?_
 obtain⟨B,O₀,O,ρ,v,st,e1,q⟩:=q
 rw [ev,Option.bind_eq_some_iff]at e1
 obtain⟨vs,e1,e2⟩:=e1
 exact⟨B,O₀,O,ρ,vs,st,e1,λus H1 s1 g1=>⟨O,vs,v,a_ s1 st.here,g1.1,e2,λu H2 s2 r=>q u H2 (s1.trans s2) (.of r)⟩⟩
theorem mI{f:Blt}{ms:List ME}{σ:St}{H:Hp}{Q:VK}{K:PySem.W.Frag}(q:tF K cal (.blt f ms) σ H Q):tCB (RBF K (aE f)) (tEs K cal ms) σ H Q:=by
 obtain⟨B,O₀,O,ρ,xs,st,e1,q⟩:=q
 rw [ev,Option.bind_eq_some_iff]at e1
 obtain⟨vs,e1,e2⟩:=e1
 refine⟨B,O₀,O,ρ,vs,st,e1,λus H1 s1 g1=>⟨O,vs,xs,a_ s1 st.here,g1.1,e2,λl ws hl r=>q l ws _ (s1.trans (aA hl _)) (s1.free hl) ah ?_⟩⟩
 rw [bV (List.mem_cons_self)]
 refine Reps.mono (aQ (ac.refl H1) λb hb=>?_) _ r
 rcases List.mem_cons.mp hb with rfl|hb
 ·exact .inr hl
 ·exact .inl hb
theorem AN {f:Blt}{ms:List ME}{x:Str}{e:Expr}{es:List Expr}{p pos:Pos}{id:String} (hc:b7 X (.builtin id) (RBF X.K (aE f))) (hg:glB X.env.scope x=true) (hm:X.mg x=none) (hv:bootBuiltins x=some (.builtin id)) (hn:x ≠ "__name__") (hd:(x == ("__debug__":Str))=false)
  (ha:PA X (e::es) (tEs X.K cal ms)) (hs:(e::es).all aq=true):PE X (.Call (.Name x p) (e::es) [] pos) (tF X.K cal (.blt f ms)):=by
 simp only [List.all_cons,Bool.and_eq_true]at hs
 exact(ib hc (dw hg) hm hv ha hn hd (bb hs.1 es _) (bg hs.2)).imp λσ H Q q=>mI q
theorem yf {f:Blt}{ms:List ME}{x:Str}{e:Expr}{es:List Expr}{p pos:Pos}{id:String} (hc:b7 X (.type id) (RBF X.K (aE f))) (hg:glB X.env.scope x=true) (hm:X.mg x=none) (hv:bootBuiltins x=some (.type id)) (hn:x ≠ "__name__") (hd:(x == ("__debug__":Str))=false)
  (ha:PA X (e::es) (tEs X.K cal ms)) (hs:(e::es).all aq=true):PE X (.Call (.Name x p) (e::es) [] pos) (tF X.K cal (.blt f ms)):=by
 simp only [List.all_cons,Bool.and_eq_true]at hs
 exact(gm hc (dw hg) hm hv ha hn hd (bb hs.1 es _) (bg hs.2)).imp λσ H Q q=>mI q
theorem AO{f:Nat}{ms:List ME}{x:Str}{es:List Expr}{p pos:Pos}(g:Gf X T k cal)(hf:T.fs[f]?=some x)(hg:glB X.env.scope x=true)(hn:ay x=true)(ha:PA X es (tAs X.K cal ms))(hs:es.all aq=true)(hl:ms.length=es.length):PE X (.Call (.Name x p) es [] pos) (tE X.K cal (.call f ms)):=by
 obtain⟨fa,fd,ps,h1,h2,h3,F,_⟩:=g.fns f x hf hn
 have key:∀σ H Q,tE X.K cal (.call f ms) σ H Q->jy (spM X.K cal f) [] E0 (tAs X.K cal ms) σ H Q:=λσ H Q q=>by
  obtain⟨B,O₀,O,ρ,v,st,e1,q⟩:=q
  rw [ev,Option.bind_eq_some_iff]at e1
  obtain⟨vs,e1,e2⟩:=e1
  refine⟨B,O₀,O,ρ,vs,st,e1,λus H1 s1 g1=>⟨O,vs,v,a_ s1 st.here,?_,e2,λu H2 s2 r=>q u H2 (s1.trans s2) (.of r)⟩⟩
  rw [List.append_nil]
  exact g1
 cases es with
 |nil =>
  refine(uj F g.room (dw hg) h1 h2 h3 .nil d_ (jZ hn).1).imp λσ H Q q=>?_
  obtain⟨B,O₀,O,ρ,vs,st,e1,q⟩:=key σ H Q q
  cases ms with
  |nil =>
   simp only [evA,Option.some.injEq]at e1
   subst e1
   exact q [] H (ac.refl H) .nil
  |cons m ms=>simp at hl
 |cons e es =>
  simp only [List.all_cons,Bool.and_eq_true]at hs
  exact(jS F g.room (dw hg) h1 h2 h3 .nil d_ ha (jZ hn).1 (bb hs.1 es _) (bg hs.2)).imp key
end
end MM
namespace MM
open PySem PySem.Spec PyProof.Rows L2
section
variable{K:PySem.W.Frag}{H:Hp}{O:List Addr}
theorem vJ(kvs:List (Int×Sc))(i:Int):ij (fX kvs) (Sum.inl i:Key)=(dh kvs i).map Sc.v:=by
 unfold ij fX dh
 rw [List.find?_map,Option.map_map,Option.map_map]
 have e:((λkv:Key×V=>decide (kv.1=(Sum.inl i:Key))) ∘ λp:Int×Sc=>((Sum.inl p.1:Key),p.2.v))=λp:Int×Sc=>decide (p.1=i):=by
  funext p
  simp
 rw [e]
 rfl
theorem vK(kvs:List (List Int×Sc))(k:List Int):ij (iB kvs) (k.map Sum.inl)=(dh kvs k).map Sc.v:=by
 unfold ij iB dh
 rw [List.find?_map,Option.map_map,Option.map_map]
 have e:((λkv:List Key×V=>decide (kv.1=k.map Sum.inl)) ∘ λp:List Int×Sc=>((p.1.map Sum.inl:List Key),p.2.v))=λp:List Int×Sc=>decide (p.1=k):=by
  funext p
  exact decide_eq_decide.mpr ⟨jX,λe=>congrArg (List.map Sum.inl) e⟩
 rw [e]
 rfl
theorem yg(ns:List Int):(ns.map Sum.inl:List Key).map kV=ns.map V.int:=by
 rw [List.map_map]
 rfl
theorem rk{xs:List PV}{ns:List Int}{u:V}(e:bc xs=some ns)(r:ba K H O (.tup xs) u):∃b,u=.ref b/\H b=some (.tup ((ns.map Sum.inl:List Key).map kV)):=by
 have e1:=fY e
 subst e1
 obtain⟨b,us,rfl,h,t⟩:=r.tupH
 have e2:=t.ints
 subst e2
 exact⟨b,rfl,by rw [yg];exact h⟩
theorem nH{d:DD}{y:PV}{o:Option Sc}{a:Addr}{u:V}(e:sK (.dI d) y=some o)(ha:RdD H a d)(r:ba K H O y u):kD H a u (o.map Sc.v):=by
 cases d with
 |k kvs =>
  cases y<;>try (cases e;done)
  rename_i i
  have e1:=r.int
  subst e1
  have e2:dh kvs i=o:=Option.some.inj e
  rw [<- e2,<- vJ]
  exact .inl ⟨_,Sum.inl i,ha.rd,rfl,rfl⟩
 |t kvs =>
  cases y<;>try (cases e;done)
  rename_i xs
  have e:(bc xs).map (dh kvs)=some o:=e
  rw [Option.map_eq_some_iff]at e
  obtain⟨ns,e1,e2⟩:=e
  obtain⟨b,rfl,hb⟩:=rk e1 r
  rw [<- e2,<- vK]
  exact .inr ⟨_,_,b,ha.rd,rfl,hb,rfl⟩
theorem vL(kvs:List (Int×Sc))(k:Int)(s:Sc):gB (fX kvs) (Sum.inl k:Key) s.v=fX (cx kvs k s):=by
 have e1:((fX kvs).any λkv=>decide (kv.1=(Sum.inl k:Key)))=kvs.any λp=>decide (p.1=k):=by
  unfold fX
  rw [List.any_map]
  congr 1
  funext p
  simp
 unfold gB cx
 rw [e1]
 split
 ·unfold fX
  rw [List.map_map,List.map_map]
  refine List.map_congr_left λp _=>?_
  by_cases h:p.1=k<;>simp [h]
 ·unfold fX
  rw [List.map_append]
  rfl
theorem vM(kvs:List (List Int×Sc))(k:List Int)(s:Sc):gB (iB kvs) (k.map Sum.inl:List Key) s.v=iB (cx kvs k s):=by
 have ee:∀q:List Int,((q.map Sum.inl:List Key)=k.map Sum.inl) ↔ q=k:=λq=>⟨jX,λe=>by rw [e]⟩
 have e1:((iB kvs).any λkv=>decide (kv.1=(k.map Sum.inl:List Key)))=kvs.any λp=>decide (p.1=k):=by
  unfold iB
  rw [List.any_map]
  congr 1
  funext p
  exact decide_eq_decide.mpr (ee p.1)
 unfold gB cx
 rw [e1]
 split
 ·unfold iB
  rw [List.map_map,List.map_map]
  refine List.map_congr_left λp _=>?_
  by_cases h:p.1=k
  ·have h2:=(ee p.1).mpr h
   simp [h]
  ·have h2:¬ (p.1.map Sum.inl:List Key)=k.map Sum.inl:=λz=>h ((ee p.1).mp z)
   simp [h,h2]
 ·unfold iB
  rw [List.map_append]
  rfl
theorem yh{d d':DD}{y:PV}{s:Sc}{a:Addr}{u:V}(e:pY d y s=some d')(ha:H a=some (jO d))(r:ba K H O y u):kE H a u s.v (upd H a (jO d')):=by
 cases d with
 |k kvs =>
  cases y<;>try (cases e;done)
  rename_i i
  have e1:=r.int
  subst e1
  have e2:(if kvs.length<10000 then some (DD.k (cx kvs i s)) else none)=some d':=e
  split at e2
  ·rename_i hl
   cases e2
   show kE H a (.int i) s.v (upd H a (.dK (fX (cx kvs i s))))
   rw [<- vL]
   exact kE.k (k:=Sum.inl i) ha (by unfold fX;rw [List.length_map,sizeLine_eq];omega)
  ·cases e2
 |t kvs =>
  cases y<;>try (cases e;done)
  rename_i xs
  have e:((bc xs).bind λk=>if kvs.length<10000 then some (DD.t (cx kvs k s)) else none)=some d':=e
  rw [Option.bind_eq_some_iff]at e
  obtain⟨ns,e1,e2⟩:=e
  obtain⟨b,rfl,hb⟩:=rk e1 r
  split at e2
  ·rename_i hl
   cases e2
   show kE H a (.ref b) s.v (upd H a (.dT (iB (cx kvs ns s))))
   rw [<- vM]
   exact kE.t ha hb (by unfold iB;rw [List.length_map,sizeLine_eq];omega)
  ·cases e2
end
section
variable{X:Cx}{pins:List (Addr×Obj)}{σ:St}{H:Hp}{s:Shared}
end
section
variable{X:Cx}{T:Tab}{k:Nat}{cal:Cal}
end
end MM
namespace MM
open PySem PySem.Spec PyProof.Rows L2
theorem AQ:bootBuiltins "len"=some (.builtin "len"):=by decide +kernel
theorem oX:bootBuiltins "tuple"=some (.type "tuple"):=by decide +kernel
theorem rm:bootBuiltins "list"=some (.type "list"):=by decide +kernel
theorem mJ:bootBuiltins "sorted"=some (.builtin "sorted"):=by decide +kernel
theorem AR:bootBuiltins "any"=some (.builtin "any"):=by decide +kernel
theorem AS:bootBuiltins "all"=some (.builtin "all"):=by decide +kernel
theorem AT:bootBuiltins "int"=some (.type "int"):=by decide +kernel
theorem yi:bootBuiltins "bool"=some (.type "bool"):=by decide +kernel
theorem AU:bootBuiltins "set"=some (.type "set"):=by decide +kernel
theorem lW:bootBuiltins "isinstance"=some (.builtin "isinstance"):=by decide +kernel
section
variable{X:Cx}{T:Tab}{k:Nat}{cal:Cal}
theorem AV {f:Blt}{c:String}{m:ME}{e:Expr}{t:Str}{p p2 pos:Pos} (g:Gf X T k cal) (hf:cD f=some c) (hg:glB X.env.scope "isinstance"=true) (ht:t=(c:Str)) (hgt:glB X.env.scope t=true)
  (hbt:bootBuiltins c=some (.type c)) (hmt:X.mg c=none) (hn:(c:Str) ≠ "__name__") (hd:((c:Str) == ("__debug__":Str))=false) (h:PE X e (tE X.K cal m)) (hs:aq e=true):PE X (.Call (.Name "isinstance" p) [e,.Name t p2] [] pos) (tE X.K cal (.blt f [m])):=by
 subst ht
 refine(ib (AH hf) (dw hg) (g.blt "isinstance" (by decide)) lW (au h (au (xi (v:=.ty c) (dw hgt) hmt hbt rfl hn hd) aR rfl) (bb hs _ _)) (by decide) (by decide) (bb hs _ _) rfl).imp λσ H Q q=>?_
 obtain⟨B,O₀,O,ρ,v,st,e1,q⟩:=q
 rw [ev,Option.bind_eq_some_iff]at e1
 obtain⟨vs,e1,e2⟩:=e1
 obtain⟨w,rfl,e3⟩:=oW e1
 have e5:isD w=false/\v=.bl (isT f w):=by
  cases hd:isD w with
  |true=>cases f<;>simp only [cD,reduceCtorEq]at hf<;>(simp only [aE,b_,iA,gR,gD,hd]at e2;cases e2)
  |false=>cases f<;>simp only [cD,reduceCtorEq]at hf<;>(simp only [aE,b_,iA,gR,gD,hd,Bool.false_eq_true,if_false,Option.some.injEq]at e2;exact⟨rfl,e2.symm⟩)
 obtain⟨e5,rfl⟩:=e5
 refine⟨B,O₀,O,ρ,w,st,e3,λu H1 s1 g1=>⟨O,w,u,rfl,e5,g1.1,q _ H1 s1 (.of (cj _ _))⟩⟩
theorem oY {m:ME}{e:Expr}{x y:Str}{p p2 pos pos2:Pos} (g:Gf X T k cal) (hx:x=("sorted":Str)) (hy:y=("set":Str)) (hg:glB X.env.scope x=true) (hg2:glB X.env.scope y=true) (h:PE X e (tE X.K cal m)) (hs:aq e=true):PE X (.Call (.Name x p) [.Call (.Name y p2) [e] [] pos2] [] pos) (tF X.K cal (.blt .sortedSet [m])):=by
 subst hx hy
 refine(ib (oT g.calm) (dw hg) (g.blt "sorted" (by decide)) mJ (au (gm (CM g.calm) (dw hg2) (g.blt "set" (by decide)) AU (au h aR (bb hs _ _)) (by decide) (by decide) (bb hs _ _) rfl) aR rfl) (by decide) (by decide) rfl rfl).imp λσ H Q q=>?_
 obtain⟨B,O₀,O,ρ,xs,st,e1,q⟩:=q
 rw [ev,Option.bind_eq_some_iff]at e1
 obtain⟨vs,e1,e2⟩:=e1
 obtain⟨w,rfl,e3⟩:=oW e1
 simp only [aE,b_,iA,gR,gD,Option.bind_eq_some_iff]at e2
 obtain⟨ys,e4,ns,e5,e6⟩:=e2
 split at e6
 ·rename_i hc
  cases e6
  refine⟨B,O₀,O,ρ,w,st,e3,λu H1 s1 g1=>⟨O,w,u,ns,rfl,g1.1,by simp [e4,e5],hc.1,λl hl=>⟨l,_,rfl,ah,?_,λp' hp'=>?_⟩⟩⟩
  ·rw [AF];exact hc.2
  ·rw [x6]
   refine q p' _ _ ((s1.trans (aA hl _)).trans (aA hp' _)) (s1.free ((aA hl _).free hp')) ah (.of_ints _)
 ·cases e6
end
section
variable{X:Cx}{T:Tab}{k:Nat}{cal:Cal}
theorem oZ{k':Sk}{src:List ME}{js:List Nat}{cond elt:ME}:∀ρ v,ev cal (.comp k' src js cond elt) ρ=some v->∃xs,v=.lst xs:=λρ v hv=>by
 rw [ev,Option.bind_eq_some_iff]at hv
 obtain⟨vs,_,hv⟩:=hv
 rw [Option.bind_eq_some_iff]at hv
 obtain⟨xs,_,hv⟩:=hv
 split at hv
 ·simp only [Option.map_eq_some_iff]at hv
  obtain⟨ys,_,rfl⟩:=hv
  exact⟨_,rfl⟩
 ·cases hv
theorem eG{f:Blt}(hf:f=.listOf\/f=.sorted\/f=.sortedSet\/f=.sortedKeys\/f=.valuesOf){ms:List ME}:∀ρ v,ev cal (.blt f ms) ρ=some v->∃xs,v=.lst xs:=λρ v hv=>by
 rw [ev,Option.bind_eq_some_iff]at hv
 obtain⟨vs,_,hv⟩:=hv
 rcases hf with rfl|rfl|rfl|rfl|rfl
 ·obtain⟨x,rfl⟩:=dU hv (.inl rfl)
  simp only [aE,b_,iA,gR,gD,Option.map_eq_some_iff]at hv
  obtain⟨ys,_,rfl⟩:=hv
  exact⟨_,rfl⟩
 ·obtain⟨x,rfl⟩:=dU hv (.inl rfl)
  simp only [aE,b_,iA,gR,gD,Option.bind_eq_some_iff]at hv
  obtain⟨ys,_,hv⟩:=hv
  unfold fA at hv
  split at hv
  ·split at hv
   ·cases hv;exact⟨_,rfl⟩
   ·simp only [Option.map_eq_some_iff]at hv
    obtain⟨ts,_,rfl⟩:=hv
    exact⟨_,rfl⟩
  ·cases hv
 ·obtain⟨x,rfl⟩:=dU hv (.inr (.inr (.inl rfl)))
  simp only [aE,b_,iA,gR,gD,Option.bind_eq_some_iff]at hv
  obtain⟨ys,_,ns,_,hv⟩:=hv
  split at hv
  ·cases hv;exact⟨_,rfl⟩
  ·cases hv
 ·obtain⟨x,rfl⟩:=dU hv (.inl rfl)
  simp only [aE,b_]at hv
  split at hv
  ·split at hv
   ·cases hv;exact⟨_,rfl⟩
   ·cases hv
  ·cases hv
 ·obtain⟨x,rfl⟩:=dU hv (.inr (.inr (.inr (.inr rfl))))
  simp only [aE,b_]at hv
  split at hv
  ·split at hv
   ·cases hv;exact⟨_,rfl⟩
   ·cases hv
  ·cases hv
theorem nI{ifs:List Expr}{cond:ME}{f:Expr->Bool}(h:mC f cond ifs=true)(hc:∀c,f c=true->PT X c (tT X.K cal cond)):PF X ifs (tT X.K cal cond):=by
 match ifs,h with
 | [],h =>
  have e:cond=.cst (.bl true):=by
   simp only [mC]at h
   split at h
   ·rfl
   ·cases h
  subst e
  intro pins s σ H Q I q
  obtain⟨B,O₀,O,ρ,b,st,e1,q⟩:=q
  simp only [evB,ev,Option.bind_some,aM,Option.some.injEq]at e1
  subst e1
  exact u0 pins s σ H Q I (q H (ac.refl H))
 | [c],h=>exact Ac (hc c h)
theorem rn{N:List Str}{sc:Scope}{ms:List (Option Str)}{f i:Nat}{ck:List Expr->Bool}{q:Str×Str×List Expr×Pos×Pos}(h:vj N sc ms f i ck q=true):ms[f]?=some (some q.2.1)/\q.2.1∈mB/\ar N sc i q.1=true/\ck q.2.2.1=true/\(q.2.2.2.1.endLine == q.2.2.2.2.line)=true/\decide (q.2.2.1.length<30)=true:=by
 unfold vj at h
 obtain⟨a1,h6⟩:=Bool.and_eq_true_iff.mp h
 obtain⟨a2,h5⟩:=Bool.and_eq_true_iff.mp a1
 obtain⟨a3,h4⟩:=Bool.and_eq_true_iff.mp a2
 obtain⟨a4,h3⟩:=Bool.and_eq_true_iff.mp a3
 obtain⟨a5,h2⟩:=Bool.and_eq_true_iff.mp a4
 exact⟨eq_of_beq a5,List.contains_iff_mem.mp h2,h3,h4,h5,h6⟩
theorem sX{src:List ME}{js:List Nat}{cond elt:ME}:∀ρ v,ev cal (.comp2 src js cond elt) ρ=some v->∃xs,v=.lst xs:=λρ v hv=>by
 rw [ev,Option.bind_eq_some_iff]at hv
 obtain⟨vs,_,hv⟩:=hv
 rw [Option.bind_eq_some_iff]at hv
 obtain⟨xs,_,hv⟩:=hv
 split at hv
 ·simp only [Option.map_eq_some_iff]at hv
  obtain⟨ys,_,rfl⟩:=hv
  exact⟨_,rfl⟩
 ·cases hv
theorem AW{js:List Nat}{x y:Str}{px py tp:Pos}{j:Nat}{scope:Scope}{s₁:Shared}{H₁:Hp}{C:Addr}{fp:List Addr}(g:Gf X T k cal)(h:ff X.env.scope X.N scope x y (bp X.N js) js=true):PG (X.blk x ([y]++bp X.N js) scope s₁ H₁ C fp) (.Tuple [.Name x px,.Name y py] j tp) (g2 X.K):=by
 obtain⟨c,l0,l1⟩:=k_ h
 exact t7 g.calm (ke (dn (i:=0) c.nd rfl (.inl (lookup_relabel_local l0)) (.inr (lookup_relabel_local l0))) (ke (dn (i:=1) c.nd rfl (.inl (lookup_relabel_local l1)) (.inr (lookup_relabel_local l1))) qz)) rfl rfl
theorem qf{i:Nat}{x m:Str}{p ap:Pos}(hn:ar X.N X.env.scope i x=true):PE X (.Attribute (.Name x p) m ap) (Cm X.K (br i) m):=zU (bz hn) rfl
theorem iO{K:PySem.W.Frag}{B H:Hp}{O₀ O:List Addr}{ρ:Rho}{σ:St}{i:Nat}{o:List PV×List PV}(st:aF K B O₀ O H ρ σ)(e:gS (ρ[i]?).join=some o):∃a,σ[i]?=some (some (.ref a))/\dN K H (af H O) o.1 o.2 a:=by
 cases hj:(ρ[i]?).join with
 |none=>rw [hj]at e;cases e
 |some m =>
  rw [hj]at e
  cases m with
  |ownO _ fs xs =>
   cases e
   obtain⟨u,eu,a,l,rfl,q⟩:=bh st hj
   exact⟨a,eu,q.lent⟩
  |brwO fs xs =>
   cases e
   obtain⟨u,eu,a,rfl,q⟩:=bh st hj
   exact⟨a,eu,q.move st.keep (ac.refl _)⟩
  | _=>cases e
theorem qg{K:PySem.W.Frag}{B H:Hp}{O₀ O:List Addr}{ρ:Rho}{σ:St}{i:Nat}{v:PV}(st:aF K B O₀ O H ρ σ)(e:mz (ρ[i]?).join=some v):∃a fs xs,v=.lst xs/\σ[i]?=some (some (.ref a))/\dN K B (af H O) fs xs a:=by
 cases hj:(ρ[i]?).join with
 |none=>rw [hj]at e;cases e
 |some m =>
  rw [hj]at e
  cases m with
  |brwO fs xs =>
   cases e
   obtain⟨u,eu,a,rfl,q⟩:=bh st hj
   exact⟨a,fs,xs,rfl,eu,q⟩
  | _=>cases e
theorem C2{i n:Nat}{x m:Str}{p ap:Pos}(g:Gf X T k cal)(hm:gT[n]?=some m)(hn:ar X.N X.env.scope i x=true):PE X (.Attribute (.Name x p) m ap) (tE X.K cal (.fld i n)):=by
 refine(qf hn).imp λσ H Q q=>?_
 obtain⟨B,O₀,O,ρ,v,st,e1,q⟩:=q
 rw [ev,Option.bind_eq_some_iff]at e1
 obtain⟨o,e1,e2⟩:=e1
 obtain⟨a,ea,C,dx,gs,l,us,h1,h2,_⟩:=iO st e1
 obtain⟨c1,c2,_⟩:=g.cls C h2.cls
 obtain⟨u,f1,f2⟩:=h2.fld n m v hm e2
 exact⟨_,ea,a,C,dx,gs,u,rfl,h1,c1,c2 m (List.mem_of_getElem? hm),f1,q u H (ac.refl H) (.of f2)⟩
theorem AX {i:Nat}{x:Str}{p ap:Pos} (g:Gf X T k cal) (hn:ar X.N X.env.scope i x=true):PE X (.Attribute (.Name x p) ("taken":Str) ap) (tE X.K cal (.fldL i)):=by
 refine(qf hn).imp λσ H Q q=>?_
 obtain⟨B,O₀,O,ρ,v,st,e1,q⟩:=q
 rw [ev]at e1
 obtain⟨a,fs,xs,rfl,ea,C,dx,gs,l,us,h1,h2,h3,h4⟩:=qg st e1
 obtain⟨c1,_,c2⟩:=g.cls C h2.cls
 exact⟨_,ea,a,C,dx,gs,.ref l,rfl,st.keep _ _ h1,c1,c2,h2.lst,q _ H (ac.refl H) ⟨.inr (.inl ⟨xs,l,us,rfl,rfl,st.keep.seq h3,h4⟩),λz=>by cases z⟩⟩
theorem AY {tg:Expr}{i:Nat}{x:Str}{p ap:Pos} (g:Gf X T k cal) (hn:ar X.N X.env.scope i x=true):PI X tg (.Attribute (.Name x p) ("taken":Str) ap) (tW X.K cal .seq [.fldL i]):=by
 refine(fw (qf hn)).imp λσ H R q=>?_
 obtain⟨B,O₀,O,ρ,vs,zs,st,e1,e2,q⟩:=q
 obtain⟨v,rfl,e3⟩:=oW e1
 have e4:be v=some zs:=e2
 rw [ev]at e3
 obtain⟨a,fs,xs,rfl,ea,C,dx,gs,l,us,h1,h2,h3,h4⟩:=qg st e3
 cases e4
 obtain⟨c1,_,c2⟩:=g.cls C h2.cls
 exact⟨_,ea,a,C,dx,gs,.ref l,rfl,st.keep _ _ h1,c1,c2,h2.lst,l,rfl,⟨us,st.keep.seq h3⟩,q _ _ (ac.refl H) (iL ((cE st.keep).seq h3) h4)⟩
theorem AZ {i:Nat}{x:Str}{px ap:Pos}{f:Str}{ts:List Expr}{j:Nat}{tp p pos:Pos} (g:Gf X T k cal) (hf:f=("enumerate":Str)) (hg:glB X.env.scope f=true) (hn:ar X.N X.env.scope i x=true):PI X (.Tuple ts j tp) (.Call (.Name f p) [.Attribute (.Name x px) ("taken":Str) ap] [] pos) (tW X.K cal .enm [.fldL i]):=by
 subst hf
 refine(qd (dw hg) (g.blt "enumerate" (by decide)) (qf hn) rfl).imp λσ H R q=>?_
 obtain⟨B,O₀,O,ρ,vs,zs,st,e1,e2,q⟩:=q
 obtain⟨v,rfl,e3⟩:=oW e1
 simp only [bF,Option.map_eq_some_iff]at e2
 obtain⟨ys,e4,rfl⟩:=e2
 rw [ev]at e3
 obtain⟨a,fs,xs,rfl,ea,C,dx,gs,l,us,h1,h2,h3,h4⟩:=qg st e3
 cases e4
 obtain⟨c1,_,c2⟩:=g.cls C h2.cls
 exact⟨_,ea,a,C,dx,gs,.ref l,rfl,st.keep _ _ h1,c1,c2,h2.lst,l,rfl,.inl ⟨⟨us,st.keep.seq h3⟩,q _ _ (ac.refl H) (gX (λH2 s2=>s2.seq ((cE st.keep).seq h3)) h4)⟩⟩
theorem C3 {neg:Bool}{me:ME}{i:Nat}{l:Expr}{x:Str}{p ap pos:Pos} (g:Gf X T k cal) (ha:PE X l (tE X.K cal me)) (hn:ar X.N X.env.scope i x=true):PE X (.Compare l [fB (if neg=true then .notIn else .isIn)] [.Attribute (.Name x p) ("taken":Str) ap] pos) (tE X.K cal (.inO neg me i)):=by
 refine(qD (f_ g.units _) ha (qf hn) (by cases neg<;>rfl)).imp λσ H Q q=>?_
 obtain⟨B,O₀,O,ρ,v,st,e1,q⟩:=q
 rw [ev]at e1
 simp only [Option.bind_eq_some_iff,Option.map_eq_some_iff]at e1
 obtain⟨y,e1,w,e2,c,e3,rfl⟩:=e1
 refine⟨B,O₀,O,ρ,y,st,e1,λux H1 s1 g1=>?_⟩
 cases hj:(ρ[i]?).join with
 |none=>rw [hj]at e2;cases e2
 |some m =>
  rw [hj]at e2
  cases m with
  |ownO b fs xs =>
   cases e2
   obtain⟨u,eu,a,ll,rfl,qq⟩:=bh (st.mono s1) hj
   obtain⟨C,dx,gs,h1,h2⟩:=qq.ob
   obtain⟨us,h3,h4⟩:=qq.li
   obtain⟨c1,_,c2⟩:=g.cls C h2.cls
   exact⟨_,eu,a,C,dx,gs,.ref ll,rfl,h1,c1,c2,h2.lst,O,y,_,c,g1.1,.inr (.inl ⟨xs,ll,us,rfl,rfl,SqL.of h3,h4⟩),e3,q _ H1 s1 (.of (cj _ _))⟩
  | _=>cases e2
theorem A4 {neg:Bool}{me:ME}{i:Nat}{l:Expr}{x:Str}{p ap pos:Pos} (g:Gf X T k cal) (ha:PE X l (tE X.K cal me)) (hn:ar X.N X.env.scope i x=true):PT X (.Compare l [fB (if neg=true then .notIn else .isIn)] [.Attribute (.Name x p) ("taken":Str) ap] pos) (tT X.K cal (.inO neg me i)):=by
 refine(qE (f_ g.units _) ha (qf hn) (by cases neg<;>rfl)).imp λσ H Q q=>?_
 obtain⟨B,O₀,O,ρ,v,st,e1,q⟩:=q
 rw [evB,ev]at e1
 simp only [Option.bind_eq_some_iff,Option.map_eq_some_iff]at e1
 obtain⟨b,⟨y,e1,w,e2,c,e3,rfl⟩,e4⟩:=e1
 simp only [aM,Option.some.injEq]at e4
 subst e4
 refine⟨B,O₀,O,ρ,y,st,e1,λux H1 s1 g1=>?_⟩
 cases hj:(ρ[i]?).join with
 |none=>rw [hj]at e2;cases e2
 |some m =>
  rw [hj]at e2
  cases m with
  |ownO b fs xs =>
   cases e2
   obtain⟨u,eu,a,ll,rfl,qq⟩:=bh (st.mono s1) hj
   obtain⟨C,dx,gs,h1,h2⟩:=qq.ob
   obtain⟨us,h3,h4⟩:=qq.li
   obtain⟨c1,_,c2⟩:=g.cls C h2.cls
   exact⟨_,eu,a,C,dx,gs,.ref ll,rfl,h1,c1,c2,h2.lst,O,y,_,c,g1.1,.inr (.inl ⟨xs,ll,us,rfl,rfl,SqL.of h3,h4⟩),e3,_,rfl,q H1 s1⟩
  | _=>cases e2
theorem A5 {neg:Bool}{i:Nat}{N:List Str}{sc:Scope}{ck:Expr->Bool}{e:Expr}{z:Expr×CmpOp×Expr} (e1:sO e=some z) (h:(onQ (k5 z.2.2) λq=>z.2.1 == (if neg=true then CmpOp.NotIn else CmpOp.In)&&ck z.1&&q.2 == ("taken":Str)&&ar N sc i q.1)=true):ck z.1=true/\∃(x:Str) (p ap pos:Pos),ar N sc i x=true/\e=.Compare z.1 [fB (if neg=true then .notIn else .isIn)] [.Attribute (.Name x p) ("taken":Str) ap] pos:=by
 replace h:=al h
 obtain⟨q,e2,h⟩:=h
 obtain⟨pos,rfl⟩:=nv e1
 obtain⟨p,ap,e3⟩:=iC e2
 obtain⟨a1,h4⟩:=Bool.and_eq_true_iff.mp h
 obtain⟨a2,h3⟩:=Bool.and_eq_true_iff.mp a1
 obtain⟨h1,h2⟩:=Bool.and_eq_true_iff.mp a2
 refine⟨h2,q.1,p,ap,pos,h4,?_⟩
 rw [e3,eq_of_beq h1,eq_of_beq h3]
 cases neg<;>rfl
theorem A6 {neg:Bool}{me:ME}{i:Nat}{e l:Expr}{c:Prop} (g:Gf X T k cal) (h:c/\∃(x:Str) (p ap pos:Pos),ar X.N X.env.scope i x=true/\e=.Compare l [fB (if neg=true then .notIn else .isIn)] [.Attribute (.Name x p) ("taken":Str) ap] pos) (ha:PE X l (tE X.K cal me)):PE X e (tE X.K cal (.inO neg me i))/\PT X e (tT X.K cal (.inO neg me i)):=by
 obtain⟨_,x,p,ap,pos,h1,rfl⟩:=h
 exact⟨C3 g ha h1,A4 g ha h1⟩
theorem j_{x m:Str}{es:List Expr}{p ap pos:Pos}{env:Env}(hs:es.all aq=true)(hl:decide (es.length<30)=true)(hline:(ap.endLine == pos.line)=true):eval (.Call (.Attribute (.Name x p) m ap) es [] pos) env=(do
   let ov <- eval (.Name x p) env
   standAt ap.atName
   let (f,first) <- holding [ov] (getMethod ov m (do return (<- importBound (.Name x p) env).getD true))
   callWith pos f first (backTo pos (starEach es env)) (backToKw pos (keywordEach [] env))):=by
 have hf:methodCallForm (es.length+([]:List Keyword).length) (backTo pos (starEach es env)) (backToKw pos (keywordEach [] env))=true:=by
  unfold methodCallForm
  have h1:((backTo pos (starEach es env)).all λx=>!x.1)=true:=by
   have:=bg (pos:=pos) (env:=env) hs
   rw [List.any_eq_false]at this
   rw [List.all_eq_true]
   intro x hx
   have:=this x hx
   simpa using this
  rw [h1]
  exact hl
 rw [arm_eval_Call]
 unfold methodCall calleeOf methodCallPos
 rw [hf,hline]
 rfl
theorem yj{f i:Nat}{ms:List ME}{x m:Str}{es:List Expr}{p ap pos:Pos}(g:Gf X T k cal)(hf:T.ms[f]?=some (some m))(hM:m∈mB)(hn:ar X.N X.env.scope i x=true)(ha:PA X es (tAs X.K cal ms))(hs:es.all aq=true)(hl:ms.length=es.length)(hline:(ap.endLine == pos.line)=true)(h30:decide (es.length<30)=true):PE X (.Call (.Attribute (.Name x p) m ap) es [] pos) (tE X.K cal (.callM f i ms)):=by
 by_cases hC:∃C,IsC X.K C
 ·obtain⟨C,hC⟩:=hC
  have one:∀C',IsC X.K C'->C'=C:=λC' h=>by
   have:=h.symm.trans hC
   cases this
   rfl
  obtain⟨fa,fd,ps,h1,h3,F⟩:=g.meths f m hf C hC
  have key:∀σ H Q,tE X.K cal (.callM f i ms) σ H Q->l5 C m (spM X.K cal f) [] E0 (br i) (tAs X.K cal ms) σ H Q:=λσ H Q q=>by
   obtain⟨B,O₀,O,ρ,v,st,e1,q⟩:=q
   rw [ev,Option.bind_eq_some_iff]at e1
   obtain⟨o,e0,e1⟩:=e1
   rw [Option.bind_eq_some_iff]at e1
   obtain⟨vs,e1,e2⟩:=e1
   obtain⟨a,ea,C',dx,gs,l,us,f1,f2,f3⟩:=iO st e0
   have hCC:=one C' f2.cls
   subst hCC
   refine⟨_,ea,a,dx,gs,rfl,f1,f2.no m hM,B,O₀,O,ρ,vs,st,e1,λus' H1 s1 g1=>⟨O,_,v,a_ s1 st.here,?_,e2,λu H2 s2 r=>q u H2 (s1.trans s2) (.of r)⟩⟩
   rw [List.append_nil]
   exact .cons ⟨a,rfl,dN.move ⟨C',dx,gs,l,us,f1,f2,f3⟩ s1 (ag s1)⟩ g1
  cases es with
  |nil =>
   refine(nZ (bz hn) (g.cls C hC).1 h1 F g.room h3 .nil d_ (j_ hs h30 hline)).imp λσ H Q q=>?_
   obtain⟨u,eu,a,dx,gs,e,f1,f2,B,O₀,O,ρ,vs,st,e1,q⟩:=key σ H Q q
   cases ms with
   |nil =>
    simp only [evA,Option.some.injEq]at e1
    subst e1
    exact⟨u,eu,a,dx,gs,e,f1,f2,q [] H (ac.refl H) .nil⟩
   |cons _ _=>cases hl
  |cons e es =>
   simp only [List.all_cons,Bool.and_eq_true]at hs
   exact(mZ (bz hn) (g.cls C hC).1 h1 F g.room h3 .nil d_ ha (bb hs.1 _ _) (bg hs.2) (j_ (by simp [hs]) h30 hline)).imp key
 ·exact λpins s σ H Q I q=>by
   obtain⟨B,O₀,O,ρ,v,st,e1,q⟩:=q
   rw [ev,Option.bind_eq_some_iff]at e1
   obtain⟨o,e0,_⟩:=e1
   obtain⟨a,ea,C',dx,gs,l,us,f1,f2,f3⟩:=iO st e0
   exact absurd ⟨C',f2.cls⟩ hC
theorem jk{k':Sk}{src:List ME}{it tg:Expr}{tup:Bool}(htg:tup=true->∃ts j tp,tg=.Tuple ts j tp)(g:Gf X T k cal)(h:k6 X.env.scope tup (λxs=>chks T src X.N X.env.scope xs) k' it=true)(hs:∀xs,chks T src X.N X.env.scope xs=true->PA X xs (tEs X.K cal src)/\xs.all aq=true/\src.length=xs.length)
  (h1:∀m x,src=[m]->chks T src X.N X.env.scope [x]=true->PE X x (tE X.K cal m)):PI X tg it (tW X.K cal k' src)/\dO it=true:=by
 cases k' with
 |seq =>
  replace h:=Bool.and_eq_true_iff.mp h
  obtain⟨hn,h⟩:=h
  refine⟨?_,hn⟩
  obtain⟨_,_,hl⟩:=hs _ h
  obtain⟨m,rfl⟩:=List.length_eq_one_iff.mp hl
  cases hb:aI m with
  |false=>exact CN hb (h1 m it rfl h)
  |true =>
   have q1:=(bn h).1.1
   rcases p_ hb with ⟨i,rfl⟩|⟨i,rfl⟩
   rotate_left
   ·obtain⟨z,e,h2⟩:=al (show onQ (k5 it) (λq=>q.2 == ("taken":Str)&&ar X.N X.env.scope i q.1)=true from q1)
    obtain⟨p,ap,rfl⟩:=iC e
    obtain⟨h3,h4⟩:=Bool.and_eq_true_iff.mp h2
    rw [eq_of_beq h3]
    exact AY g h4
   obtain⟨x,p,rfl,q⟩:=ny q1
   exact CO q
 |rng =>
  replace h:=al h
  obtain⟨c,e1,h⟩:=h
  obtain⟨p,pos,rfl⟩:=gq e1
  simp only [Bool.and_eq_true,beq_iff_eq,Bool.or_eq_true]at h
  obtain⟨⟨⟨hx,hg⟩,ha⟩,hn⟩:=h
  obtain⟨q,hst,hl⟩:=hs _ ha
  exact⟨ya g hx hg q hn hst hl,rfl⟩
 |enm =>
  replace h:=al h
  obtain⟨⟨x,a⟩,e1,h⟩:=h
  obtain⟨p,pos,rfl⟩:=qR e1
  simp only [Bool.and_eq_true,beq_iff_eq]at h
  obtain⟨⟨⟨⟨ht,hx⟩,hg⟩,ha⟩,hn⟩:=h
  obtain⟨ts,j,tp,rfl⟩:=htg ht
  obtain⟨_,_,hl⟩:=hs _ ha
  refine⟨?_,rfl⟩
  obtain⟨m,rfl⟩:=List.length_eq_one_iff.mp hl
  cases hb:aI m with
  |false=>exact CP g hx hg hn hb (h1 m a rfl ha)
  |true =>
   have q1:=(bn ha).1.1
   rcases p_ hb with ⟨i,rfl⟩|⟨i,rfl⟩
   rotate_left
   ·obtain⟨z,e,h2⟩:=al (show onQ (k5 a) (λq=>q.2 == ("taken":Str)&&ar X.N X.env.scope i q.1)=true from q1)
    obtain⟨p,ap,rfl⟩:=iC e
    obtain⟨h3,h4⟩:=Bool.and_eq_true_iff.mp h2
    rw [eq_of_beq h3]
    exact AZ g hx hg h4
   obtain⟨y,p,rfl,q⟩:=ny q1
   exact AJ g hx hg q
 |rev=>cases h
theorem vN(K:PySem.W.Frag)(F:Hp)(s:Sc):Rep K F s.pv s.v:=by cases s<;>simp only [Sc.pv,Sc.v,Rep]
theorem vO{K:PySem.W.Frag}{H:Hp}{O:List Addr}{x:PV}{s:Sc}{u:V}(e:sc? x=some s)(r:ba K H O x u):u=s.v:=by
 cases x<;>simp only [sc?,Option.some.injEq,reduceCtorEq]at e<;>subst e
 ·exact r.non
 ·exact r.bl
 ·exact r.int
 ·exact r.str
theorem base_of{o:Expr}{n:Str}(hb:oI o=true):attributeBase o n X.env (eval o X.env)=eval o X.env:=by
 cases o<;>first|rfl|(simp [oI]at hb;done)|skip
 rename_i fn args kws pos
 cases args with
 |nil=>simp [oI]at hb
 |cons _ _=>cases fn<;>rfl
theorem o3{b:Blt}{es:List ME}{x:Str}{args:List Expr}{p pos:Pos}(g:Gf X T k cal)(hx:x=(oG b:Str))(hg:glB X.env.scope x=true)(ha:qT X.env.scope (λxs=>chks T es X.N X.env.scope xs) es.length b args=true)
  (hs:∀xs,chks T es X.N X.env.scope xs=true->PA X xs (tEs X.K cal es)/\xs.all aq=true/\es.length=xs.length)
  (h1:∀m x,es=[m]->chks T es X.N X.env.scope [x]=true->PE X x (tE X.K cal m))
  (hh2:∀m m' x x',es=[m,m']->chks T es X.N X.env.scope [x,x']=true->PE X x (tE X.K cal m)/\PE X x' (tE X.K cal m')) :
  (fZ (.blt b es)=true->PE X (.Call (.Name x p) args [] pos) (tF X.K cal (.blt b es)))/\PE X (.Call (.Name x p) args [] pos) (tE X.K cal (.blt b es)):=by
 subst hx
 have inst:∀{b:Blt}{args:List Expr} (c:String),glB X.env.scope (oG b)=true->cD b=some c->oG b="isinstance"->bootBuiltins c=some (.type c)->X.mg c=none->(c:Str) ≠ "__name__"->((c:Str) == ("__debug__":Str))=false->oH X.env.scope (λxs=>chks T es X.N X.env.scope xs) es.length c args=true ->
   PE X (.Call (.Name (oG b) p) args [] pos) (tE X.K cal (.blt b es)):=λ{b args} c hg hc hb hbt hm hn hd ha=>by
  replace ha:=al ha
  obtain⟨⟨y,t0⟩,e1,ha⟩:=ha
  replace ha:=al ha
  obtain⟨⟨t,p2⟩,e2,ha⟩:=ha
  obtain rfl:=nk e1
  obtain rfl:=cO (e:=t0) e2
  simp only [Bool.and_eq_true,beq_iff_eq]at ha
  obtain⟨⟨⟨h2,h3⟩,h4⟩,h5⟩:=ha
  obtain⟨m,rfl⟩:=List.length_eq_one_iff.mp h5
  rw [hb]at hg ⊢
  exact AV g hc hg h2 h3 hbt hm hn hd (h1 m y rfl h4) (bn h4).1.2
 have c1:∀{nm:Str},vm X.env.scope (λxs=>chks T es X.N X.env.scope xs) es.length nm args=true->∃m y gg p2 pos2,es=[m]/\args=[.Call (.Name gg p2) [y] [] pos2]/\gg=nm/\glB X.env.scope gg=true/\PE X y (tE X.K cal m)/\aq y=true:=λ{nm} ha=>by
  replace ha:=al ha
  obtain⟨a,e1,ha⟩:=ha
  replace ha:=al ha
  obtain⟨⟨gg,y⟩,e2,ha⟩:=ha
  obtain⟨p2,pos2,rfl⟩:=qR e2
  simp only [Bool.and_eq_true,beq_iff_eq]at ha
  obtain⟨⟨⟨h2,h3⟩,h4⟩,h5⟩:=ha
  obtain⟨m,rfl⟩:=List.length_eq_one_iff.mp h5
  exact⟨m,y,gg,p2,pos2,rfl,cA e1,h2,h3,h1 m y rfl h4,(bn h4).1.2⟩
 have plain:∀{args:List Expr} (n:Nat),0<n->(some n == some es.length&&chks T es X.N X.env.scope args)=true->∃e r,args=e::r/\PA X (e::r) (tEs X.K cal es)/\(e::r).all aq=true:=λ{args} n hpos ha=>by
  simp only [Bool.and_eq_true,beq_iff_eq,Option.some.injEq]at ha
  obtain⟨q1,q2,q3⟩:=hs _ ha.2
  cases args with
  |nil=>rw [<- ha.1]at q3;simp at q3;omega
  |cons e r=>exact⟨e,r,rfl,q1,q2⟩
 cases b with
 |len =>
  obtain⟨e,r,er,q1,q2⟩:=plain 1 (by decide) ha
  rw [er]
  exact⟨λz=>(by cases z),vI CJ hg (g.blt "len" (by decide)) AQ (by decide) (by decide) q1 q2⟩
 |tupleOf =>
  obtain⟨e,r,er,q1,q2⟩:=plain 1 (by decide) ha
  rw [er]
  exact⟨λz=>(by cases z),AM x9 hg (g.blt "tuple" (by decide)) oX (by decide) (by decide) q1 q2⟩
 |listOf =>
  obtain⟨e,r,er,q1,q2⟩:=plain 1 (by decide) ha
  rw [er]
  have q:=yf (p:=p) (pos:=pos) AG hg (g.blt "list" (by decide)) rm (by decide) (by decide) q1 q2
  exact⟨λ_=>q,dD (eG (.inl rfl)) q⟩
 |sorted =>
  obtain⟨e,r,er,q1,q2⟩:=plain 1 (by decide) ha
  rw [er]
  have q:=AN (p:=p) (pos:=pos) (vz g) hg (g.blt "sorted" (by decide)) mJ (by decide) (by decide) q1 q2
  exact⟨λ_=>q,dD (eG (.inr (.inl rfl))) q⟩
 |any =>
  obtain⟨e,r,er,q1,q2⟩:=plain 1 (by decide) ha
  rw [er]
  exact⟨λz=>(by cases z),vI (CK g.calm) hg (g.blt "any" (by decide)) AR (by decide) (by decide) q1 q2⟩
 |all =>
  obtain⟨e,r,er,q1,q2⟩:=plain 1 (by decide) ha
  rw [er]
  exact⟨λz=>(by cases z),vI (CL g.calm) hg (g.blt "all" (by decide)) AS (by decide) (by decide) q1 q2⟩
 |intOf=>exact absurd ha Bool.false_ne_true
 |boolOf=>exact absurd ha Bool.false_ne_true
 |max2=>exact absurd ha Bool.false_ne_true
 |min2=>exact absurd ha Bool.false_ne_true
 |isInt=>exact⟨λz=>(by cases z),inst "int" hg rfl rfl AT (g.blt "int" (by decide)) (by decide) (by decide) ha⟩
 |isBool=>exact⟨λz=>(by cases z),inst "bool" hg rfl rfl yi (g.blt "bool" (by decide)) (by decide) (by decide) ha⟩
 |isStr=>exact absurd ha Bool.false_ne_true
 |isList=>exact⟨λz=>(by cases z),inst "list" hg rfl rfl rm (g.blt "list" (by decide)) (by decide) (by decide) ha⟩
 |isTuple=>exact⟨λz=>(by cases z),inst "tuple" hg rfl rfl oX (g.blt "tuple" (by decide)) (by decide) (by decide) ha⟩
 |sortedSet =>
  obtain⟨m,y,gg,p2,pos2,ee,ea,h2,h3,hp,hst⟩:=c1 ha
  rw [ee,ea]
  have q:=oY (p:=p) (p2:=p2) (pos:=pos) (pos2:=pos2) g rfl h2 hg h3 hp hst
  exact⟨λ_=>q,dD (eG (.inr (.inr (.inl rfl)))) q⟩
 |sum=>exact absurd ha Bool.false_ne_true
 |max1=>exact absurd ha Bool.false_ne_true
 |sortedKeys=>exact absurd ha Bool.false_ne_true
 |valuesOf=>exact absurd ha Bool.false_ne_true
 |min1=>cases ha
 |tupleRev=>cases ha
 |lenSet=>cases ha
 |lenSetSub=>cases ha
end
section
variable{X:Cx}{T:Tab}{k:Nat}{cal:Cal}
theorem C4{neg:Bool}{mk ma:ME}{l r:Expr}{pos:Pos}(g:Gf X T k cal)(hk:PE X l (tE X.K cal mk))(ha:PE X r (tE X.K cal ma))(hm:behindInMarks (if neg=true then CmpOp.NotIn else CmpOp.In) r=false) :
  PE X (.Compare l [if neg=true then CmpOp.NotIn else CmpOp.In] [r] pos) (tE X.K cal (.dIn neg mk ma))/\PT X (.Compare l [if neg=true then CmpOp.NotIn else CmpOp.In] [r] pos) (tT X.K cal (.dIn neg mk ma)):=by
 have hu:X.A.units+1<cLine:=by have:=g.units;omega
 have go:∀{σ:St}{H:Hp}{Q:Bool->Hp->Prop},(∃B O₀ O ρ b,aF X.K B O₀ O H ρ σ/\ev cal (.dIn neg mk ma) ρ=some (.bl b)/\∀H',ac H H'->Q b H') ->
   tE X.K cal mk σ H λy H1=>tE X.K cal ma σ H1 λx H2=>∃a o,x=.ref a/\kD H2 a y o/\Q (if neg=true then !o.isSome else o.isSome) H2:=λ{σ H Q} q=>by
  obtain⟨B,O₀,O,ρ,b,st,e1,q⟩:=q
  rw [ev]at e1
  simp only [Option.bind_eq_some_iff]at e1
  obtain⟨y,e1,x,e2,e3⟩:=e1
  refine⟨B,O₀,O,ρ,y,st,e1,λuy H1 s1 g1=>⟨B,O₀,O,ρ,x,st.mono s1,e2,λux H2 s2 g2=>?_⟩⟩
  rw [Option.map_eq_some_iff]at e3
  obtain⟨o,e3,e4⟩:=e3
  cases x<;>try (cases e3;done)
  obtain⟨a,rfl,ha⟩:=g2.1.dI
  refine⟨a,_,rfl,nH e3 ha (g1.1.mono s2),?_⟩
  rw [Option.isSome_map,PV.bl.inj e4]
  exact q H2 (s1.trans s2)
 have unE:∀{σ:St}{H:Hp}{Q:VK},tE X.K cal (.dIn neg mk ma) σ H Q->∃B O₀ O ρ b,aF X.K B O₀ O H ρ σ/\ev cal (.dIn neg mk ma) ρ=some (.bl b)/\∀H',ac H H'->Q (.bl b) H':=λ{σ H Q} q=>by
  obtain⟨B,O₀,O,ρ,v,st,e1,q⟩:=q
  have hb:∃b,v=.bl b:=by
   rw [ev]at e1
   simp only [Option.bind_eq_some_iff]at e1
   obtain⟨y,_,x,_,e3⟩:=e1
   rw [Option.map_eq_some_iff]at e3
   obtain⟨o,_,e4⟩:=e3
   exact⟨_,e4.symm⟩
  obtain⟨b,rfl⟩:=hb
  exact⟨B,O₀,O,ρ,b,st,e1,λH' s=>q _ H' s (.of (cj _ _))⟩
 have unT:∀{σ:St}{H:Hp}{Q:Bool->Hp->Prop},tT X.K cal (.dIn neg mk ma) σ H Q->∃B O₀ O ρ b,aF X.K B O₀ O H ρ σ/\ev cal (.dIn neg mk ma) ρ=some (.bl b)/\∀H',ac H H'->Q b H':=λ{σ H Q} q=>by
  obtain⟨B,O₀,O,ρ,b,st,e1,q⟩:=q
  unfold evB at e1
  simp only [Option.bind_eq_some_iff]at e1
  obtain⟨v,e1,e2⟩:=e1
  cases v<;>simp only [aM,reduceCtorEq,Option.some.injEq]at e2
  subst e2
  exact⟨B,O₀,O,ρ,_,st,e1,q⟩
 cases neg with
 |false =>
  refine⟨(tQ (uF hu hk ha) hm).imp λσ H Q q=>?_,(tR (uF hu hk ha) hm).imp λσ H Q q=>?_⟩
  ·exact go (Q:=λb H'=>Q (.bl b) H') (unE q)
  ·exact go (Q:=λb H'=>∃c,V.bl b=.bl c/\Q c H') (by
    obtain⟨B,O₀,O,ρ,b,st,e1,q⟩:=unT q
    exact⟨B,O₀,O,ρ,b,st,e1,λH' s=>⟨b,rfl,q H' s⟩⟩)
 |true =>
  refine⟨(tQ (mh hu hk ha) hm).imp λσ H Q q=>?_,(tR (mh hu hk ha) hm).imp λσ H Q q=>?_⟩
  ·exact go (Q:=λb H'=>Q (.bl b) H') (unE q)
  ·exact go (Q:=λb H'=>∃c,V.bl b=.bl c/\Q c H') (by
    obtain⟨B,O₀,O,ρ,b,st,e1,q⟩:=unT q
    exact⟨B,O₀,O,ρ,b,st,e1,λH' s=>⟨b,rfl,q H' s⟩⟩)
theorem A7{ma mk md:ME}{o e f:Expr}{ap cp:Pos}(g:Gf X T k cal)(ha:PE X o (tE X.K cal ma))(hk:PE X e (tE X.K cal mk))(hd:PE X f (tE X.K cal md))(hb:oI o=true)(hl:(ap.endLine == cp.line)=true)(h1:aq e=true)(h2:aq f=true) :
  PE X (.Call (.Attribute o "get" ap) [e,f] [] cp) (tE X.K cal (.dget ma mk md)):=by
 have hu:X.A.units+1<cLine:=by have:=g.units;omega
 have st2:starEach [e,f] X.env=[(false,eval e X.env),(false,eval f X.env)]:=by rw [bb h1,bb h2];rfl
 have m:M2 X o "get" ap e f cp:=by
  refine⟨base_of hb,?_,hl,?_⟩
  ·rw [st2];rfl
  ·rw [st2];rfl
 refine(uL hu ha hk hd m).imp λσ H Q q=>?_
 obtain⟨B,O₀,O,ρ,v,st,e1,q⟩:=q
 rw [ev]at e1
 simp only [Option.bind_eq_some_iff,Option.map_eq_some_iff]at e1
 obtain⟨x,e1,y,e2,z,e3,oo,e4,sz,e5,e6⟩:=e1
 cases x<;>try (cases e4;done)
 refine⟨B,O₀,O,ρ,_,st,e1,λux H1 s1 g1=>?_⟩
 obtain⟨a,rfl,hH⟩:=g1.1.dI
 refine⟨a,rfl,qX hH,B,O₀,O,ρ,_,st.mono s1,e2,λuy H2 s2 g2=>⟨B,O₀,O,ρ,z,st.mono (s1.trans s2),e3,λuz H3 s3 g3=>?_⟩⟩
 refine⟨_,nH e4 (ac.rdD s3 (ac.rdD s2 hH)) (g2.1.mono s3),?_⟩
 rw [vO e5 g3.1]
 have e7:(oo.map Sc.v).getD sz.v=(oo.getD sz).v:=by cases oo<;>rfl
 rw [e7]
 refine q _ H3 (s1.trans (s2.trans s3)) ?_
 rw [<- e6]
 exact .of (vN _ _ _)
theorem C5{ma mk:ME}{o i:Expr}{pos:Pos}(g:Gf X T k cal)(ha:PE X o (tE X.K cal ma))(hk:PE X i (tE X.K cal mk))(hs:cB i=true):PE X (.Subscript o i pos) (tE X.K cal (.dat ma mk)):=by
 have hu:X.A.units+1<cLine:=by have:=g.units;omega
 refine(xE hu ha hk (by cases i<;>first|(intro _ _;rfl)|(simp [cB]at hs))).imp λσ H Q q=>?_
 obtain⟨B,O₀,O,ρ,v,st,e1,q⟩:=q
 rw [ev]at e1
 simp only [Option.bind_eq_some_iff,Option.map_eq_some_iff]at e1
 obtain⟨x,e1,y,e2,oo,e4,sz,rfl,e6⟩:=e1
 cases x<;>try (cases e4;done)
 refine⟨B,O₀,O,ρ,_,st,e1,λux H1 s1 g1=>?_⟩
 obtain⟨a,rfl,hH⟩:=g1.1.dI
 refine⟨B,O₀,O,ρ,_,st.mono s1,e2,λuy H2 s2 g2=>?_⟩
 refine⟨a,_,rfl,nH e4 (ac.rdD s2 hH) g2.1,q _ H2 (s1.trans s2) ?_⟩
 rw [<- e6]
 exact .of (vN _ _ _)
end
set_option maxHeartbeats 0 in
mutual
theorem am{T:Tab}{k:Nat}{cal:Cal}:∀(me:ME) {X:Cx}{e:Expr},Gf X T k cal->chk T me X.N X.env.scope e=true->PE X e (tE X.K cal me)/\PT X e (tT X.K cal me)
 | .var i,X,e,g,h=>by
  replace h:=al h
  obtain⟨x,w,h⟩:=h
  obtain rfl:=cO w
  exact⟨zd h,aZ (zd h) rfl⟩
 | .bor i,X,e,g,h=>by
  replace h:=al h
  obtain⟨x,w,h⟩:=h
  obtain rfl:=cO w
  exact⟨ze h,aZ (ze h) rfl⟩
 | .cst v,X,e,g,h=>by
  replace h:=al h
  obtain⟨x,w,h⟩:=h
  obtain rfl:=Aj w
  exact⟨zf h,aZ (zf h) rfl⟩
 | .glob x v,X,e,g,h=>by
  replace h:=al h
  obtain⟨y,w,h⟩:=h
  obtain rfl:=cO w
  exact⟨vv g h,aZ (vv g h) rfl⟩
 | .bin op a b,X,e,g,h=>by
  replace h:=al h
  obtain⟨⟨l,o,r,pos⟩,w,h⟩:=h
  obtain rfl:=Ah w
  simp only [Bool.and_eq_true,beq_iff_eq]at h
  obtain⟨⟨rfl,h1⟩,h2⟩:=h
  have p:=CQ (op:=op) (pos:=pos) (am a g h1).1 (am b g h2).1
  exact⟨p,aZ p rfl⟩
 | .neg _,X,e,g,h=>absurd (show false=true from h) Bool.false_ne_true
 | .not a,X,e,g,h=>by
  replace h:=al h
  obtain⟨⟨o,x,pos⟩,w,h⟩:=h
  obtain rfl:=Ak w
  replace h:=Bool.and_eq_true_iff.mp h
  obtain⟨h2,h⟩:=h
  obtain rfl:=eq_of_beq h2
  exact⟨CS (am a g h).1,CT (am a g h).2⟩
 | .and a b,X,e,g,h=>by
  replace h:=al h
  obtain⟨⟨o,vs,pos⟩,w,h⟩:=h
  obtain rfl:=vf w
  replace h:=Bool.and_eq_true_iff.mp h
  obtain⟨h2,h⟩:=h
  obtain rfl:=eq_of_beq h2
  rcases qU h with ⟨x,y,rfl,h1,h2⟩|⟨x,y,z,r,rfl,h1,h2⟩
  ·exact⟨zg (am a g h1).1 (tU (am b g h2).1),zi (am a g h1).2 (xj (am b g h2).2)⟩
  ·exact⟨zg (am a g h1).1 (am b g h2).1,zi (am a g h1).2 (zh (am b g h2).2)⟩
 | .or a b,X,e,g,h=>by
  replace h:=al h
  obtain⟨⟨o,vs,pos⟩,w,h⟩:=h
  obtain rfl:=vf w
  replace h:=Bool.and_eq_true_iff.mp h
  obtain⟨h2,h⟩:=h
  obtain rfl:=eq_of_beq h2
  rcases qU h with ⟨x,y,rfl,h1,h2⟩|⟨x,y,z,r,rfl,h1,h2⟩
  ·exact⟨CU (am a g h1).1 (tU (am b g h2).1),CV (am a g h1).2 (zy (am b g h2).2)⟩
  ·exact⟨CU (am a g h1).1 (am b g h2).1,CV (am a g h1).2 (zh (am b g h2).2)⟩
 | .ite c a b,X,e,g,h=>by
  replace h:=al h
  obtain⟨q,w,h⟩:=h
  obtain rfl:=Al w
  simp only [Bool.and_eq_true,Bool.not_eq_true']at h
  obtain⟨⟨⟨⟨h1,h2⟩,h3⟩,h4⟩,h5⟩:=h
  exact⟨CW (am c g h1).2 (am a g h2).1 (am b g h3).1 h4 h5,CY (am c g h1).2 (am a g h2).2 (am b g h3).2⟩
 | .cmp op a b,X,e,g,h=>by
  replace h:=al h
  obtain⟨⟨l,o,r⟩,w,h⟩:=h
  obtain⟨pos,rfl⟩:=nv w
  simp only [Bool.and_eq_true,beq_iff_eq,Bool.not_eq_true']at h
  obtain⟨⟨⟨rfl,h1⟩,h2⟩,h3⟩:=h
  exact CZ g (am a g h1).1 (am b g h2).1 h3
 | .chain op op' a b c,X,e,g,h=>by
  cases e with
  |Compare l ops rs pos =>
   match ops,rs,h with
   | [o,o'],[m,r],h =>
    simp only [vn,Bool.and_eq_true,beq_iff_eq,Bool.not_eq_true']at h
    obtain⟨⟨⟨⟨⟨rfl,rfl⟩,h1⟩,h2⟩,h3⟩,h4⟩:=h
    exact yd g (am a g h1).1 (am b g h2).1 (am c g h3).1 h4
   | [],_,h=>cases (show false=true from h)
   | [_],_,h=>cases (show false=true from h)
   | [_,_],[],h=>cases (show false=true from h)
   | [_,_],[_],h=>cases (show false=true from h)
   | [_,_],_::_::_::_,h=>cases (show false=true from h)
   | _::_::_::_,_,h=>cases (show false=true from h)
  | _=>cases (show false=true from h)
 | .tup es,X,e,g,h=>by
  replace h:=al h
  obtain⟨q,w,h⟩:=h
  obtain rfl:=ve w
  obtain⟨h1,h2⟩:=Bool.and_eq_true_iff.mp h
  have p:=C0 (j:=q.2.1) (pos:=q.2.2) (sounds es g h1) h2
  exact⟨p,aZ p rfl⟩
 | .lst es,X,e,g,h=>by
  replace h:=al h
  obtain⟨q,w,h⟩:=h
  obtain rfl:=pZ w
  replace h:=Bool.and_eq_true_iff.mp h
  have p:=λ(pos:Pos)=>dD (λρ v hv=>by
   rw [ev,Option.bind_eq_some_iff]at hv
   obtain⟨vs,_,hv⟩:=hv
   split at hv
   ·cases hv;exact⟨_,rfl⟩
   ·cases hv) (zj (pos:=pos) (sounds es g h.1) h.2)
  exact⟨p _,aZ (p _) rfl⟩
 | .idx a i,X,e,g,h=>by
  replace h:=al h
  obtain⟨q,w,h⟩:=h
  obtain rfl:=nq w
  simp only [Bool.and_eq_true]at h
  have p:=C1 (pos:=q.2.2) (am a g h.1.1).1 (am i g h.1.2).1 h.2
  exact⟨p,aZ p rfl⟩
 | .slice a lo hi,X,e,g,h=>by
  replace h:=al h
  obtain⟨⟨v,l,u⟩,w,h⟩:=h
  obtain⟨p2,pos,rfl⟩:=xT w
  simp only [Bool.and_eq_true]at h
  obtain⟨⟨h1,h2⟩,h3⟩:=h
  have bd:∀{b:ME}{o:Option Expr},(∀e,chk T b X.N X.env.scope e=true->PE X e (tE X.K cal b))->nw (λe=>chk T b X.N X.env.scope e) (gU b) o=true->PO X o (tB1 X.K cal b):=λ{b o} hb h2=>by
   cases o with
   |none=>exact AK h2
   |some l =>
    simp only [nw,Bool.and_eq_true,Bool.not_eq_true']at h2
    exact AL (hb l h2.1) h2.2
  have p:=ye (p2:=p2) (pos:=pos) (am a g h1).1 (bd (λe he=>(am lo g he).1) h2) (bd (λe he=>(am hi g he).1) h3)
  exact⟨p,aZ p rfl⟩
 | .blt b es,X,e,g,h=>by
  replace h:=al h
  obtain⟨⟨x,args⟩,w,h⟩:=h
  obtain⟨p,pos,rfl⟩:=gq w
  simp only [Bool.and_eq_true,beq_iff_eq]at h
  obtain⟨⟨hx,hg⟩,ha⟩:=h
  have q:=(o3 (p:=p) (pos:=pos) g hx hg ha (λxs hxs=>⟨sounds es g hxs,a7 hxs⟩) (λm x hm hx=>match es,hm with|[m'],rfl=>(am m' g (bn hx).1.1).1) (λa b x x' hm hx=>match es,hm with|[m1,m2],rfl=>⟨(am m1 g (bn hx).1.1).1,(am m2 g (bn (bn hx).2).1.1).1⟩)).2
  exact⟨q,aZ q rfl⟩
 | .call f es,X,e,g,h=>by
  replace h:=al h
  obtain⟨⟨x,args⟩,w,h⟩:=h
  obtain⟨p,pos,rfl⟩:=gq w
  simp only [Bool.and_eq_true,beq_iff_eq]at h
  obtain⟨⟨⟨h1,h2⟩,h3⟩,h4⟩:=h
  obtain⟨hs,hl⟩:=a7 h4
  have q:=AO (p:=p) (pos:=pos) g h1 h2 h3 (soundA es g h4) hs hl
  exact⟨q,aZ q rfl⟩
 | .callD _ _ _,X,e,g,h=>absurd (show false=true from h) Bool.false_ne_true
 | .fld i n,X,e,g,h=>by
  obtain⟨z,e1,h2⟩:=al (show onQ (k5 e) (λq=>gT[n]? == some q.2&&ar X.N X.env.scope i q.1)=true from h)
  obtain⟨p,ap,rfl⟩:=iC e1
  obtain⟨h3,h4⟩:=Bool.and_eq_true_iff.mp h2
  have q:=C2 (p:=p) (ap:=ap) g (eq_of_beq h3) h4
  exact⟨q,aZ q rfl⟩
 | .fldL i,X,e,g,h=>by
  obtain⟨z,e1,h2⟩:=al (show onQ (k5 e) (λq=>q.2 == ("taken":Str)&&ar X.N X.env.scope i q.1)=true from h)
  obtain⟨p,ap,rfl⟩:=iC e1
  obtain⟨h3,h4⟩:=Bool.and_eq_true_iff.mp h2
  rw [eq_of_beq h3]
  have q:=AX (p:=p) (ap:=ap) g h4
  exact⟨q,aZ q rfl⟩
 | .inO neg me i,X,e,g,h=>by
  obtain⟨z,e1,h⟩:=al (show onQ (sO e) (λz=>onQ (k5 z.2.2) λq=>z.2.1 == (if neg=true then CmpOp.NotIn else CmpOp.In)&&chk T me X.N X.env.scope z.1&&q.2 == ("taken":Str)&&ar X.N X.env.scope i q.1)=true from h)
  have hz:=A5 e1 h
  exact A6 g hz (am me g hz.1).1
 | .callV _ _,X,e,g,h=>(by cases h)
 | .comp2 src js cond elt,X,e,g,h=>by
  obtain⟨z,e1,h⟩:=al (show onQ (qb e) (λq=>ff X.env.scope X.N q.2.2.2.1 q.2.2.2.2.1 q.2.2.2.2.2 (bp X.N js) js&&k6 X.env.scope true (λxs=>chks T src X.N X.env.scope xs) .enm q.2.1&&mC (λc=>chk T cond (q.2.2.2.2.1::([q.2.2.2.2.2]++bp X.N js)) (gC q.2.2.2.1 X.env.scope) c) cond q.2.2.1&&chk T elt (q.2.2.2.2.1::([q.2.2.2.2.2]++bp X.N js)) (gC q.2.2.2.1 X.env.scope) q.1&&!aI elt)=true from h)
  obtain⟨px,py,j,tp,pos,rfl⟩:=sP e1
  obtain⟨a1,h5⟩:=Bool.and_eq_true_iff.mp h
  obtain⟨a2,h4⟩:=Bool.and_eq_true_iff.mp a1
  obtain⟨a3,h3⟩:=Bool.and_eq_true_iff.mp a2
  obtain⟨h1,h2⟩:=Bool.and_eq_true_iff.mp a3
  have h5:aI elt=false:=by simpa using h5
  have hw:=jk (tg:=.Tuple [.Name z.2.2.2.2.1 px,.Name z.2.2.2.2.2 py] j tp) (λ_=>⟨_,_,_,rfl⟩) g h2 (λxs hxs=>⟨sounds src g hxs,a7 hxs⟩) (λm x hm hx=>match src,hm with|[m'],rfl=>(am m' g (bn hx).1.1).1)
  have q:=dD sX (yb (pos:=pos) g h1 (λs₁ H₁ C fp=>AW g h1) hw.1 hw.2 (λs₁ H₁ C fp=>nI h3 λc hc=>(am cond (g.blk z.2.2.2.2.1 ([z.2.2.2.2.2]++bp X.N js) z.2.2.2.1 s₁ H₁ C fp) hc).2) (λs₁ H₁ C fp=>(am elt (g.blk z.2.2.2.2.1 ([z.2.2.2.2.2]++bp X.N js) z.2.2.2.1 s₁ H₁ C fp) h4).1) h5)
  exact⟨q,aZ q rfl⟩
 | .callM f i es,X,e,g,h=>by
  obtain⟨z,e1,h⟩:=al (show onQ (xU e) (λq=>vj X.N X.env.scope T.ms f i (λxs=>chks T es X.N X.env.scope xs) q)=true from h)
  obtain⟨p,rfl⟩:=qS e1
  obtain⟨h1,h2,h3,h4,h5,h6⟩:=rn h
  obtain⟨hs,hl⟩:=a7 h4
  have q:=yj (p:=p) g h1 h2 h3 (soundA es g h4) hs hl h5 h6
  exact⟨q,aZ q rfl⟩
 | .dIn neg mk ma,X,e,g,h=>by
  replace h:=al h
  obtain⟨⟨l,o,r⟩,w,h⟩:=h
  obtain⟨pos,rfl⟩:=nv w
  simp only [Bool.and_eq_true,beq_iff_eq,Bool.not_eq_true']at h
  obtain⟨⟨⟨rfl,h1⟩,h2⟩,h3⟩:=h
  exact C4 g (am mk g h1).1 (am ma g h2).1 h3
 | .dat ma mk,X,e,g,h=>by
  replace h:=al h
  obtain⟨q,w,h⟩:=h
  obtain rfl:=nq w
  simp only [Bool.and_eq_true]at h
  have p:=C5 (pos:=q.2.2) g (am ma g h.1.1).1 (am mk g h.1.2).1 h.2
  exact⟨p,aZ p rfl⟩
 | .dget ma mk md,X,e,g,h=>by
  replace h:=al h
  obtain⟨⟨o,m,ap,args,cp⟩,w,h⟩:=h
  obtain rfl:=vh w
  replace h:=al h
  obtain⟨⟨x,y⟩,w,h⟩:=h
  obtain rfl:=nk w
  simp only [Bool.and_eq_true,beq_iff_eq]at h
  obtain⟨⟨⟨⟨⟨⟨⟨rfl,h1⟩,h2⟩,h3⟩,h4⟩,h5⟩,h6⟩,h7⟩:=h
  have p:=A7 (ap:=ap) (cp:=cp) g (am ma g h3).1 (am mk g h4).1 (am md g h5).1 h1 (by rw [h2];simp) h6 h7
  exact⟨p,aZ p rfl⟩
 | .comp k' src js cond elt,X,e,g,h=>by
  replace h:=jh h
  obtain⟨e,x,px,it,ifs,scope,pos,rfl,h⟩:=h
  simp only [Bool.and_eq_true,Bool.not_eq_true']at h
  obtain⟨⟨⟨⟨h1,h2⟩,h3⟩,h4⟩,h5⟩:=h
  have hw:=jk (tg:=.Name x px) (λz=>by cases z) g h2 (λxs hxs=>⟨sounds src g hxs,a7 hxs⟩) (λm x hm hx=>match src,hm with|[m'],rfl=>(am m' g (bn hx).1.1).1)
  have q:=dD oZ (qe (pos:=pos) g h1 hw.1 hw.2 (λs₁ H₁ C fp=>nI h3 λc hc=>(am cond (g.blk x (bp X.N js) scope s₁ H₁ C fp) hc).2) (λs₁ H₁ C fp=>(am elt (g.blk x (bp X.N js) scope s₁ H₁ C fp) h4).1) h5)
  exact⟨q,aZ q rfl⟩
theorem sounds{T:Tab}{k:Nat}{cal:Cal}:∀(ms:List ME) {X:Cx}{es:List Expr},Gf X T k cal->chks T ms X.N X.env.scope es=true->PA X es (tEs X.K cal ms)
 | [],X,es,g,h=>by
  cases es with
  |nil=>exact yc
  |cons _ _=>cases h
 |m::ms,X,es,g,h=>by
  cases es with
  |nil=>cases h
  |cons e es =>
   replace h:=bn h
   exact vE (am m g h.1.1).1 (sounds ms g h.2) h.1.2
theorem soundA{T:Tab}{k:Nat}{cal:Cal}:∀(ms:List ME) {X:Cx}{es:List Expr},Gf X T k cal->chks T ms X.N X.env.scope es=true->PA X es (tAs X.K cal ms)
 | [],X,es,g,h=>by
  cases es with
  |nil=>exact vF
  |cons _ _=>cases h
 |m::ms,X,es,g,h=>by
  cases es with
  |nil=>cases h
  |cons e es =>
   replace h:=bn h
   have hs:=soundA ms g h.2
   cases hb:aI m with
   |false=>exact sW hb (am m g h.1.1).1 hs h.1.2
   |true =>
    have hp:=(am m g h.1.1).1
    rcases p_ hb with ⟨i,rfl⟩|⟨i,rfl⟩
    rotate_left
    ·exact(au hp hs (bb h.1.2 es _)).imp λσ H Q q=>by
      obtain⟨B,O₀,O,ρ,vs,st,e1,q⟩:=q
      cases (show none=some vs from e1)
    obtain⟨x,p,rfl,h1⟩:=ny h.1.1
    exact vH h1 hs
end
theorem nJ{T:Tab}{k:Nat}{cal:Cal}{me:ME}{X:Cx}{e:Expr}(g:Gf X T k cal)(h:chk T me X.N X.env.scope e=true)(hf:fZ me=true):PE X e (tF X.K cal me):=by
 cases me with
 |lst es =>
  replace h:=al h
  obtain⟨q,w,h⟩:=h
  obtain rfl:=pZ w
  replace h:=Bool.and_eq_true_iff.mp h
  exact zj (sounds es g h.1) h.2
 |blt b es =>
  replace h:=al h
  obtain⟨⟨x,args⟩,w,h⟩:=h
  obtain⟨p,pos,rfl⟩:=gq w
  simp only [Bool.and_eq_true,beq_iff_eq]at h
  obtain⟨⟨hx,hg⟩,ha⟩:=h
  exact(o3 (p:=p) (pos:=pos) g hx hg ha (λxs hxs=>⟨sounds es g hxs,a7 hxs⟩) (λm x hm hx=>match es,hm with|[m'],rfl=>(am m' g (bn hx).1.1).1) (λa b x x' hm hx=>match es,hm with|[m1,m2],rfl=>⟨(am m1 g (bn hx).1.1).1,(am m2 g (bn (bn hx).2).1.1).1⟩)).1 hf
 |comp k' src js cond elt =>
  replace h:=jh h
  obtain⟨e,x,px,it,ifs,scope,pos,rfl,h⟩:=h
  simp only [Bool.and_eq_true,Bool.not_eq_true']at h
  obtain⟨⟨⟨⟨h1,h2⟩,h3⟩,h4⟩,h5⟩:=h
  have hw:=jk (tg:=.Name x px) (λz=>by cases z) g h2 (λxs hxs=>⟨sounds src g hxs,a7 hxs⟩) (λm x hm hx=>match src,hm with|[m'],rfl=>(am m' g (bn hx).1.1).1)
  exact qe (pos:=pos) g h1 hw.1 hw.2 (λs₁ H₁ C fp=>nI h3 λc hc=>(am cond (g.blk x (bp X.N js) scope s₁ H₁ C fp) hc).2) (λs₁ H₁ C fp=>(am elt (g.blk x (bp X.N js) scope s₁ H₁ C fp) h4).1) h5
 | _=>cases hf
end MM
namespace MM
open PySem PySem.Spec PyProof.Rows L2
noncomputable def C6:MV->Bool
 | .brw _=>true
 | .brwD _=>true
 | .brwO _ _=>true
 | _=>false
theorem rq{m:MV}(h1:db m=true)(h2:C6 m=true):False:=by cases m<;>first|(cases h2;done)|(cases h1;done)
structure bC(B:Hp)(O O':List Addr)(ρ ρ':Rho)(σ σ':St):Prop where
 stay:∀a,B a≠none->a∈O->a∈O'
 new:∀a∈O',a∈O\/B a=none
 brw:∀(i:Nat) (m:MV),C6 m=true->ρ'[i]?=some (some m)->ρ[i]?=some (some m)/\σ'[i]?=σ[i]?
 len:ρ'.length=ρ.length
 mutO:∀(i:Nat) (fs xs:List PV),ρ'[i]?=some (some (.ownO true fs xs))->(∃ys,ρ[i]?=some (some (.ownO true fs ys)))/\σ'[i]?=σ[i]?
theorem bC.refl{B:Hp}{O:List Addr}{ρ:Rho}{σ:St}:bC B O O ρ ρ σ σ:=⟨λ_ _ h=>h,λ_ h=>.inl h,λ_ _ _ h=>⟨h,rfl⟩,rfl,λ_ _ xs h=>⟨⟨xs,h⟩,rfl⟩⟩
theorem bC.trans{B:Hp}{O O1 O2:List Addr}{ρ ρ1 ρ2:Rho}{σ σ1 σ2:St}(a:bC B O O1 ρ ρ1 σ σ1)(b:bC B O1 O2 ρ1 ρ2 σ1 σ2):bC B O O2 ρ ρ2 σ σ2 where
 stay:=λx h1 h2=>b.stay x h1 (a.stay x h1 h2)
 new:=λx h=>(b.new x h).elim (a.new x) .inr
 brw:=λi xs hm h=>by
  obtain⟨h1,e1⟩:=b.brw i xs hm h
  obtain⟨h2,e2⟩:=a.brw i xs hm h1
  exact⟨h2,e1.trans e2⟩
 len:=b.len.trans a.len
 mutO:=λi fs xs h=>by
  obtain⟨⟨d1,h1⟩,e1⟩:=b.mutO i fs xs h
  obtain⟨h2,e2⟩:=a.mutO i fs d1 h1
  exact⟨h2,e1.trans e2⟩
noncomputable def fk(K:PySem.W.Frag)(B:Hp)(O₀ O:List Addr)(ρ:Rho)(σ:St)(D:eN):R->Prop
 | .next ρ'=>∀σ' H' O',aF K B O₀ O' H' ρ' σ'->bC B O O' ρ ρ' σ σ'->D.nx σ' H'
 | .brk ρ'=>∀σ' H' O',aF K B O₀ O' H' ρ' σ'->bC B O O' ρ ρ' σ σ'->D.bk σ' H'
 | .cont ρ'=>∀σ' H' O',aF K B O₀ O' H' ρ' σ'->bC B O O' ρ ρ' σ σ'->D.ct σ' H'
 | .ret v=>∀u H',ac B H'->Rep K (af H' O₀) v u->D.rt u H'
 | .retF xs=>∀p us H',ac B H'->B p=none->H' p=some (.lst us)->Reps K (af H' (p::O₀)) xs us->D.rt (.ref p) H'
 | .retT v ρ'=>∀σ' H' O',aF K B O₀ O' H' ρ' σ'->bC B O O' ρ ρ' σ σ'->D.rt v.v H'
 | .bad=>False
theorem fk.trans{K:PySem.W.Frag}{B:Hp}{O₀ O O':List Addr}{ρ ρ':Rho}{σ σ':St}{D:eN}{r:R}(h:fk K B O₀ O ρ σ D r)(k:bC B O O' ρ ρ' σ σ'):fk K B O₀ O' ρ' σ' D r:=by
 cases r with
 |next ρ2=>exact λσ2 H2 O2 st k2=>h σ2 H2 O2 st (k.trans k2)
 |brk ρ2=>exact λσ2 H2 O2 st k2=>h σ2 H2 O2 st (k.trans k2)
 |cont ρ2=>exact λσ2 H2 O2 st k2=>h σ2 H2 O2 st (k.trans k2)
 |ret v=>exact h
 |bad=>exact h
 |retF xs=>exact h
 |retT v ρ2=>exact λσ2 H2 O2 st k2=>h σ2 H2 O2 st (k.trans k2)
noncomputable def tS(K:PySem.W.Frag)(cal:Cal)(m:MS):TS:=λD σ H=>∃B O₀ O ρ,aF K B O₀ O H ρ σ/\fk K B O₀ O ρ σ D (ex cal m ρ)
noncomputable def tSs(K:PySem.W.Frag)(cal:Cal)(ms:List MS):TS:=λD σ H=>∃B O₀ O ρ,aF K B O₀ O H ρ σ/\fk K B O₀ O ρ σ D (exs cal ms ρ)
section
variable{K:PySem.W.Frag}{B H H':Hp}{O₀ O:List Addr}{ρ:Rho}{σ:St}
theorem ab{i:Nat}{m:MV}(h:i<ρ.length):(put ρ i m)[i]?=some (some m):=by unfold put;exact List.getElem?_set_self h
theorem aa{i j:Nat}{m:MV}(h:i≠j):(put ρ i m)[j]?=ρ[j]?:=by unfold put;exact List.getElem?_set_ne h
theorem put_len{i:Nat}{m:MV}:(put ρ i m).length=ρ.length:=by unfold put;exact List.length_set
theorem aF.store(st:aF K B O₀ O H ρ σ){i:Nat}{v:PV}{u:V}(hi:i<σ.length)(r:Rep K (af H O) v u):aF K B O₀ O H (put ρ i (.val v)) (σ.set i (some u))/\bC B O O ρ (put ρ i (.val v)) σ (σ.set i (some u)):=by
 have hi':i<ρ.length:=by rw [st.len];exact hi
 refine⟨⟨st.keep,st.here,st.sub,st.old,by rw [put_len,List.length_set];exact st.len,λj m e=>?_,λa b xs ys ad hab e1 e2 o1 o2 e3 e4=>?_
  ,c7 st.inn (λj m0 e l0=>by
   have hj:i≠j:=λz=>by subst z;rw [ab hi']at e;cases e;cases l0
   rw [aa hj]at e
   exact⟨⟨m0,e,l0⟩,List.getElem?_set_ne hj,λ_ _ _ h=>h⟩) λj m c e _ o es=>.inl (by
   have hj:i≠j:=λz=>by subst z;rw [ab hi']at e;cases e;cases o
   rw [aa hj]at e
   rw [List.getElem?_set_ne hj]at es
   exact⟨m,e,o,es⟩)
  ⟩,⟨λ_ _ h=>h,λ_ h=>.inl h,λj xs hbm e=>?_,put_len
  ,λj fs xs e=>by
   have hj:i≠j:=λz=>by subst z;rw [ab hi']at e;cases e
   rw [aa hj]at e
   exact⟨⟨xs,e⟩,List.getElem?_set_ne hj⟩
  ⟩⟩
 ·by_cases hj:i=j
  ·subst hj
   rw [ab hi']at e
   cases e
   exact⟨u,List.getElem?_set_self hi,r⟩
  ·rw [aa hj]at e
   obtain⟨w,e1,q⟩:=st.slot j m e
   exact⟨w,by rw [List.getElem?_set_ne hj];exact e1,q⟩
 ·have h1:i≠a:=λz=>by subst z;rw [ab hi']at e1;cases e1;cases o1
  have h2:i≠b:=λz=>by subst z;rw [ab hi']at e2;cases e2;cases o2
  rw [aa h1]at e1
  rw [aa h2]at e2
  rw [List.getElem?_set_ne h1]at e3
  rw [List.getElem?_set_ne h2]at e4
  exact st.apart a b xs ys ad hab e1 e2 o1 o2 e3 e4
 ·have hj:i≠j:=λz=>by subst z;rw [ab hi']at e;cases e;cases hbm
  rw [aa hj]at e
  exact⟨e,List.getElem?_set_ne hj⟩
theorem aF.storeM(st:aF K B O₀ O H ρ σ){i:Nat}{mm:MV}{p:Addr}(hi:i<σ.length)(s:ac H H')(hp:H p=none)(e:H' p≠none)(hm:db mm=true)
  (r:B p=none->da K B (p::O) H' mm (.ref p))
  (hLL:isL mm=false:=by rfl)
  :
  aF K B O₀ (p::O) H' (put ρ i mm) (σ.set i (some (.ref p)))/\bC B O (p::O) ρ (put ρ i mm) σ (σ.set i (some (.ref p))):=by
 have hi':i<ρ.length:=by rw [st.len];exact hi
 have hBp:B p=none:=st.keep.free hp
 have vis:ac (af H O) (af H' (p::O)):=aQ s λb hb=>by
  rcases List.mem_cons.mp hb with rfl|hb
  ·exact .inr hp
  ·exact .inl hb
 refine⟨⟨st.keep.trans s,λa ha=>?_,λa ha=>List.mem_cons_of_mem _ (st.sub a ha),st.old,by rw [put_len,List.length_set];exact st.len,λj m ej=>?_,λa b xs ys ad hab e1 e2 o1 o2 e3 e4=>?_
  ,c7 (st.mono s).inn (λj m0 e l0=>by
   have hj:i≠j:=λz=>by subst z;rw [ab hi']at e;cases e;rw [hLL]at l0;cases l0
   rw [aa hj]at e
   exact⟨⟨m0,e,l0⟩,List.getElem?_set_ne hj,λ_ _ _ h=>h⟩) λj m c e _ o es=>by
   by_cases hj:i=j
   ·subst hj
    rw [List.getElem?_set_self hi]at es
    cases es
    refine .inr λk m1 a l f1 f0 f2 f3 z=>?_
    subst z
    obtain⟨u,e3,q⟩:=st.slot k _ f1
    rw [f2]at e3
    cases e3
    cases m1<;>try (cases f0;done)
    obtain⟨a',l',e4,q⟩:=q
    cases e4
    obtain⟨C,dx,gs,e5,_⟩:=q.ob
    have e6:=q.l
    rw [s _ _ e5]at f3
    rw [e5]at e6
    rw [e6]at f3
    cases f3
    obtain⟨us,e7,_⟩:=q.li
    rw [hp]at e7
    cases e7
   ·rw [aa hj]at e
    rw [List.getElem?_set_ne hj]at es
    exact .inl ⟨m,e,o,es⟩
  ⟩,⟨λ_ _ h=>List.mem_cons_of_mem _ h,λa ha=>?_,λj xs hbm ej=>?_,put_len
  ,λj fs xs ej=>by
   have hj:i≠j:=λz=>by subst z;rw [ab hi']at ej;cases ej;cases hLL
   rw [aa hj]at ej
   exact⟨⟨xs,ej⟩,List.getElem?_set_ne hj⟩
  ⟩⟩
 ·rcases List.mem_cons.mp ha with rfl|ha
  ·exact e
  ·exact λz=>st.here a ha (s.free z)
 ·by_cases hj:i=j
  ·subst hj
   rw [ab hi']at ej
   cases ej
   exact⟨_,List.getElem?_set_self hi,r hBp⟩
  ·rw [aa hj]at ej
   obtain⟨w,e1,q⟩:=st.slot j m ej
   refine⟨w,by rw [List.getElem?_set_ne hj];exact e1,?_⟩
   cases m with
   |val v=>exact Rep.mono vis _ q
   |own ys=>obtain⟨a,ws,e2,h1,h2,h3,h4⟩:=q;exact⟨a,ws,e2,s _ _ h1,Reps.mono vis _ h2,List.mem_cons_of_mem _ h3,h4⟩
   |brw ys=>obtain⟨a,ws,e2,h1,h2⟩:=q;exact⟨a,ws,e2,h1,Reps.mono vis _ h2⟩
   |ownD ys=>obtain⟨a,e2,h1,h3,h4⟩:=q;exact⟨a,e2,h1.move (s _) vis,List.mem_cons_of_mem _ h3,h4⟩
   |ownO _ fs ys=>obtain⟨a,l,e2,q⟩:=q;exact⟨a,l,e2,q.move vis (λ_=>s _ _) (λ_=>s _ _) (List.mem_cons_of_mem _ q.aO) (List.mem_cons_of_mem _ q.lO) q.aB q.lB⟩
   |brwO fs ys=>obtain⟨a,e2,q⟩:=q;exact⟨a,e2,q.move (ac.refl B) vis⟩
   |brwD ys=>exact q
 ·have other:∀(j:Nat) (zs:MV) (ad:Addr),ρ[j]?=some (some zs)->db zs=true->σ[j]?=some (some (.ref ad))->ad≠p:=λj zs ad h1 ho h2 z=>by
   obtain⟨w,e1,q⟩:=st.slot j _ h1
   rw [h2]at e1
   cases e1
   cases zs with
   |own zs =>
    obtain⟨a,ws,e2,h1,_⟩:=q
    cases e2
    rw [z,hp]at h1;cases h1
   |ownD zs =>
    obtain⟨a,e2,h1,_⟩:=q
    cases e2
    obtain⟨o,h1⟩:=h1.here
    rw [z,hp]at h1;cases h1
   |ownO _ fs zs =>
    obtain⟨a,l,e2,q⟩:=q
    cases e2
    obtain⟨C,dx,gs,h1,_⟩:=q.ob
    rw [z,hp]at h1;cases h1
   |brwO _ _=>cases ho
   |val _=>cases ho
   |brw _=>cases ho
   |brwD _=>cases ho
  by_cases ha:i=a
  ·subst ha
   have hb:i≠b:=hab
   rw [List.getElem?_set_self hi]at e3
   rw [aa hb]at e2
   rw [List.getElem?_set_ne hb]at e4
   cases e3
   exact other b ys _ e2 o2 e4 rfl
  ·by_cases hb:i=b
   ·subst hb
    rw [List.getElem?_set_self hi]at e4
    rw [aa ha]at e1
    rw [List.getElem?_set_ne ha]at e3
    cases e4
    exact other a xs _ e1 o1 e3 rfl
   ·rw [aa ha]at e1
    rw [aa hb]at e2
    rw [List.getElem?_set_ne ha]at e3
    rw [List.getElem?_set_ne hb]at e4
    exact st.apart a b _ _ ad hab e1 e2 o1 o2 e3 e4
 ·rcases List.mem_cons.mp ha with rfl|ha
  ·exact .inr hBp
  ·exact .inl ha
 ·have hj:i≠j:=λz=>by subst z;rw [ab hi']at ej;cases ej;exact rq hm hbm
  rw [aa hj]at ej
  exact⟨ej,List.getElem?_set_ne hj⟩
theorem aF.storeOwn(st:aF K B O₀ O H ρ σ){i:Nat}{xs:List PV}{p:Addr}{us:List V}(hi:i<σ.length)(s:ac H H')(hp:H p=none)(e:H' p=some (.lst us))(r:Reps K (af H' (p::O)) xs us) :
  aF K B O₀ (p::O) H' (put ρ i (.own xs)) (σ.set i (some (.ref p)))/\bC B O (p::O) ρ (put ρ i (.own xs)) σ (σ.set i (some (.ref p))) :=
 st.storeM hi s hp (by rw [e];simp) rfl λhB=>⟨p,us,rfl,e,r,List.mem_cons_self,hB⟩
theorem aF.changeM(st:aF K B O₀ O H ρ σ){i:Nat}{m0 m1:MV}{a:Addr}{ob:HO}(e:ρ[i]?=some (some m0))(o0:db m0=true)(o1:db m1=true)
  (es:σ[i]?=some (some (.ref a))) (h3:a∈O) (h4:B a=none) (r:af (upd H a ob) O=af H O->da K B O (upd H a ob) m1 (.ref a))
  (hLL:isL m1=false:=by rfl) (hL0:isL m0=false:=by rfl)
  :
  aF K B O₀ O (upd H a ob) (put ρ i m1) σ/\bC B O O ρ (put ρ i m1) σ σ:=by
 have hi':i<ρ.length:=(List.getElem?_eq_some_iff.mp e).1
 have hid:af (upd H a ob) O=af H O:=bV h3
 have other:∀(j:Nat) (zs:MV) (ad:Addr),i≠j->ρ[j]?=some (some zs)->db zs=true->σ[j]?=some (some (.ref ad))->ad≠a:=λj zs ad hj q1 o2 q2 z=>by
  subst z
  exact st.apart i j m0 zs ad hj e q1 o0 o2 es q2
 refine⟨⟨λb u eb=>?_,λb hb=>?_,st.sub,st.old,by rw [put_len];exact st.len,λj m ej=>?_,λc d ps qs ad hcd e1 e2 p1 p2 e3 e4=>?_
  ,c7 st.inn (λj mo ej l0=>by
   have hj:i≠j:=λz=>by subst z;rw [ab hi']at ej;cases ej;rw [hLL]at l0;cases l0
   rw [aa hj]at ej
   refine⟨⟨mo,ej,l0⟩,rfl,λb l e1 e2=>?_⟩
   rw [ak (other j _ b hj ej (by cases mo<;>first|(cases l0;done)|rfl) e1)]at e2
   exact e2) λj m c ej _ o ec=>.inl (by
   by_cases hj:i=j
   ·subst hj
    exact⟨m0,e,o0,ec⟩
   ·rw [aa hj]at ej
    exact⟨m,ej,o,ec⟩)
  ⟩,⟨λ_ _ h=>h,λ_ h=>.inl h,λj zs hbm ej=>?_,put_len
  ,λj fs xs ej=>by
   have hj:i≠j:=λz=>by subst z;rw [ab hi']at ej;cases ej;cases hLL
   rw [aa hj]at ej
   exact⟨⟨xs,ej⟩,rfl⟩
  ⟩⟩
 ·rw [ak (az eb h4)]
  exact st.keep b u eb
 ·unfold upd
  split
  ·simp
  ·exact st.here b hb
 ·by_cases hj:i=j
  ·subst hj
   rw [ab hi']at ej
   cases ej
   exact⟨_,es,r hid⟩
  ·rw [aa hj]at ej
   obtain⟨w,ew,q⟩:=st.slot j m ej
   refine⟨w,ew,?_⟩
   cases m with
   |val v=>show Rep K (af (upd H a ob) O) v w;rw [hid];exact q
   |own zs =>
    obtain⟨ad,ws,rfl,q1,q2,q3,q4⟩:=q
    refine⟨ad,ws,rfl,?_,by rw [hid];exact q2,q3,q4⟩
    rw [ak (other j (.own zs) ad hj ej rfl ew)]
    exact q1
   |ownD zs =>
    obtain⟨ad,rfl,q1,q3,q4⟩:=q
    refine⟨ad,rfl,q1.move (λo eo=>?_) (by rw [hid];exact ac.refl _),q3,q4⟩
    rw [ak (other j (.ownD zs) ad hj ej rfl ew)]
    exact eo
   |ownO b fs zs =>
    obtain⟨ad,l,rfl,q⟩:=q
    have n1:=other j (.ownO b fs zs) ad hj ej rfl ew
    have n2:=(st.inn j _ ad l ej rfl ew q.l i m0 (λz=>hj z) e).2 a o0 es
    exact⟨ad,l,rfl,q.move (by rw [hid];exact ac.refl _) (λo h=>by rw [ak n1];exact h) (λo h=>by rw [ak (Ne.symm n2)];exact h) q.aO q.lO q.aB q.lB⟩
   |brwO fs zs=>obtain⟨ad,rfl,q⟩:=q;exact⟨ad,rfl,q.move (ac.refl B) (by rw [hid];exact ac.refl _)⟩
   |brwD zs=>exact q
   |brw zs=>obtain⟨ad,ws,rfl,q1,q2⟩:=q;exact⟨ad,ws,rfl,q1,by rw [hid];exact q2⟩
 ·have h1:∀(j:Nat) (zs:MV),(put ρ i m1)[j]?=some (some zs)->db zs=true->∃zs,ρ[j]?=some (some zs)/\db zs=true:=λj zs q oz=>by
   by_cases hj:i=j
   ·subst hj;exact⟨m0,e,o0⟩
   ·rw [aa hj]at q;exact⟨zs,q,oz⟩
  obtain⟨q1,e1,p1⟩:=h1 c ps e1 p1
  obtain⟨q2,e2,p2⟩:=h1 d qs e2 p2
  exact st.apart c d q1 q2 ad hcd e1 e2 p1 p2 e3 e4
 ·have hj:i≠j:=λz=>by subst z;rw [ab hi']at ej;cases ej;exact rq o1 hbm
  rw [aa hj]at ej
  exact⟨ej,rfl⟩
theorem aF.change(st:aF K B O₀ O H ρ σ){i:Nat}{xs ys:List PV}{a:Addr}{us:List V}(e:ρ[i]?=some (some (.own xs)))(es:σ[i]?=some (some (.ref a)))(r:Reps K (af H O) ys us) :
  aF K B O₀ O (upd H a (.lst us)) (put ρ i (.own ys)) σ/\bC B O O ρ (put ρ i (.own ys)) σ σ:=by
 obtain⟨w,e1,a',us',e2,h1,h2,h3,h4⟩:=st.slot i _ e
 rw [es]at e1
 cases e1
 cases e2
 exact st.changeM e rfl rfl es h3 h4 λhid=>⟨a,us,rfl,ah,by rw [hid];exact r,h3,h4⟩
theorem aF.changeD(st:aF K B O₀ O H ρ σ){i:Nat}{xs ys:DD}{a:Addr}{ob:HO}(e:ρ[i]?=some (some (.ownD xs)))(es:σ[i]?=some (some (.ref a)))(hd:af (upd H a ob) O=af H O->DAt K (upd H a ob) O a ys) :
  aF K B O₀ O (upd H a ob) (put ρ i (.ownD ys)) σ/\bC B O O ρ (put ρ i (.ownD ys)) σ σ:=by
 obtain⟨w,e1,a',e2,h1,h3,h4⟩:=st.slot i _ e
 rw [es]at e1
 cases e1
 cases e2
 exact st.changeM e rfl rfl es h3 h4 λhid=>⟨a,rfl,hd hid,h3,h4⟩
theorem aF.freeze(st:aF K B O₀ O H ρ σ){i:Nat}{xs:List PV}(e:ρ[i]?=some (some (.own xs))):∃O',aF K B O₀ O' H (put ρ i (.val (.lst xs))) σ/\bC B O O' ρ (put ρ i (.val (.lst xs))) σ σ:=by
 obtain⟨w,es,a,us,rfl,h1,h2,h3,h4⟩:=st.slot i _ e
 have hi':i<ρ.length:=(List.getElem?_eq_some_iff.mp e).1
 have vis:ac (af H O) (af H (O.filter λb=>decide (b≠a))):=aQ (ac.refl H) λb hb=>.inl (List.mem_filter.mp hb).1
 have mem:∀b,b≠a->b∈O->b∈O.filter λb=>decide (b≠a):=λb hb ho=>List.mem_filter.mpr ⟨ho,decide_eq_true hb⟩
 refine⟨O.filter λb=>decide (b≠a),⟨st.keep,λb hb=>st.here b (List.mem_filter.mp hb).1,λb hb=>mem b (λz=>st.old b hb (z ▸ h4)) (st.sub b hb),st.old,by rw [put_len];exact st.len,λj m ej=>?_,λc d ps qs ad hcd e1 e2 p1 p2 e3 e4=>?_
  ,c7 st.inn (λj mo ej l0=>by
   have hj:i≠j:=λz=>by subst z;rw [ab hi']at ej;cases ej;cases l0
   rw [aa hj]at ej
   exact⟨⟨mo,ej,l0⟩,rfl,λ_ _ _ h=>h⟩) λj m c ej _ o ec=>.inl (by
   have hj:i≠j:=λz=>by subst z;rw [ab hi']at ej;cases ej;cases o
   rw [aa hj]at ej
   exact⟨m,ej,o,ec⟩)
  ⟩,⟨λb hb ho=>mem b (λz=>hb (z ▸ h4)) ho,λb hb=>.inl (List.mem_filter.mp hb).1,λj zs hbm ej=>?_,put_len
  ,λj fs xs ej=>by
   have hj:i≠j:=λz=>by subst z;rw [ab hi']at ej;cases ej
   rw [aa hj]at ej
   exact⟨⟨xs,ej⟩,rfl⟩
  ⟩⟩
 ·by_cases hj:i=j
  ·subst hj
   rw [ab hi']at ej
   cases ej
   refine⟨_,es,?_⟩
   show Rep K _ (.lst xs) (.ref a)
   rw [Rep]
   refine⟨a,us,rfl,SqL.of ?_,Reps.mono vis _ h2⟩
   have hna:a∉O.filter λb=>decide (b≠a):=λz=>by simpa using (List.mem_filter.mp z).2
   rw [aD hna]
   exact h1
  ·rw [aa hj]at ej
   obtain⟨w,ew,q⟩:=st.slot j m ej
   refine⟨w,ew,?_⟩
   cases m with
   |val v=>exact Rep.mono vis _ q
   |own zs =>
    obtain⟨ad,ws,rfl,q1,q2,q3,q4⟩:=q
    exact⟨ad,ws,rfl,q1,Reps.mono vis _ q2,mem ad (λz=>st.apart i j (.own xs) (.own zs) a hj e ej rfl rfl es (by rw [ew,z])) q3,q4⟩
   |ownD zs =>
    obtain⟨ad,rfl,q1,q3,q4⟩:=q
    exact⟨ad,rfl,q1.move (λ_ eo=>eo) vis,mem ad (λz=>st.apart i j (.own xs) (.ownD zs) a hj e ej rfl rfl es (by rw [ew,z])) q3,q4⟩
   |ownO b fs zs =>
    obtain⟨ad,l,rfl,q⟩:=q
    have n2:=(st.inn j _ ad l ej rfl ew q.l i (.own xs) (λz=>hj z) e).2 a rfl es
    exact⟨ad,l,rfl,q.move vis (λ_ h=>h) (λ_ h=>h) (mem ad (λz=>st.apart i j (.own xs) (.ownO b fs zs) a hj e ej rfl rfl es (by rw [ew,z])) q.aO) (mem l (Ne.symm n2) q.lO) q.aB q.lB⟩
   |brwO fs zs=>obtain⟨ad,rfl,q⟩:=q;exact⟨ad,rfl,q.move (ac.refl B) vis⟩
   |brwD zs=>exact q
   |brw zs=>obtain⟨ad,ws,rfl,q1,q2⟩:=q;exact⟨ad,ws,rfl,q1,Reps.mono vis _ q2⟩
 ·have h1:∀(j:Nat) (zs:MV),db zs=true->(put ρ i (.val (.lst xs)))[j]?=some (some zs)->ρ[j]?=some (some zs):=λj zs oz q=>by
   by_cases hj:i=j
   ·subst hj;rw [ab hi']at q;cases q;cases oz
   ·rw [aa hj]at q;exact q
  exact st.apart c d ps qs ad hcd (h1 c ps p1 e1) (h1 d qs p2 e2) p1 p2 e3 e4
 ·have hj:i≠j:=λz=>by subst z;rw [ab hi']at ej;cases ej;cases hbm
  rw [aa hj]at ej
  exact⟨ej,rfl⟩
end
end MM
namespace MM
open PySem PySem.Spec PyProof.Rows L2
section
open AutoSeq1 (wpAny_loadPart')
open MeetsSeq MeetsSeq2 MeetsSeq3 SeqRoads2 AutoSeq1
theorem nK(l:Addr)(items:Array Value)(n:Nat)(b:Addr)(items2:Array Value)(n2:Nat)(dd2:Option Addr)(sl2:Array (Option Value))(hs0:¬(!items.isEmpty&&Builtin.List.listTooLong (items.size+items2.size))=true)(hs1:items.size<=sizeLine)(hs2:items.size+items2.size<=sizeLine+1) :
  Meets (Builtin.«list.extend» ⟨[.ref l,.ref b],[]⟩) (λ_ R s=>s.heap.get? l=some { cls:=.type "list",dict:=none,data:=.seq items n,slots:=#[] }/\s.heap.get? b=some { cls:=.type "tuple",dict:=dd2,data:=.seq items2 n2,slots:=sl2 }/\R (.ok (.ret Value.none)) { s with heap:=s.heap.update l (Obj.mapSeq λx=>x++items2),toks:=s.toks }) :=
 .of_wp λprog w A R s h=>by
  obtain⟨hp,g,d,tk,os⟩:=s;obtain⟨hl,hb,h⟩:=h;have f1:=AutoSeq1.idx_int;have f2:=AutoSeq1.sub_tuple_tuple;have f3:=AutoSeq1.sub_list_list;have f4:=AutoSeq1.sub_tuple_list;have f5:=AutoSeq1.sub_list_tuple;
  have hz':(items++items2).size<=sizeLine+1:=by rw [Array.size_append];exact hs2
  wp_walk using (wpAny_updateSeq hl rfl (hz:=hs1) (_hz':=hz')),wpAny_loadPart' hl,wpAny_loadPart' hb;exact⟨_,rfl,h⟩
theorem nL(l:Addr)(items:Array Value)(n:Nat)(b:Addr)(items2:Array Value)(n2:Nat)(dd2:Option Addr)(sl2:Array (Option Value))(hs0:¬(!items.isEmpty&&Builtin.List.listTooLong (items.size+items2.size))=true)(hs1:items.size<=sizeLine)(hs2:items.size+items2.size<=sizeLine+1) :
  Meets (Builtin.«list.extend» ⟨[.ref l,.ref b],[]⟩) (λ_ R s=>s.heap.get? l=some { cls:=.type "list",dict:=none,data:=.seq items n,slots:=#[] }/\s.heap.get? b=some { cls:=.type "list",dict:=dd2,data:=.seq items2 n2,slots:=sl2 }/\R (.ok (.ret Value.none)) { s with heap:=s.heap.update l (Obj.mapSeq λx=>x++items2),toks:=s.toks }) :=
 .of_wp λprog w A R s h=>by
  obtain⟨hp,g,d,tk,os⟩:=s;obtain⟨hl,hb,h⟩:=h;have f1:=AutoSeq1.idx_int;have f2:=AutoSeq1.sub_tuple_tuple;have f3:=AutoSeq1.sub_list_list;have f4:=AutoSeq1.sub_tuple_list;have f5:=AutoSeq1.sub_list_tuple;
  have hz':(items++items2).size<=sizeLine+1:=by rw [Array.size_append];exact hs2
  wp_walk using (wpAny_updateSeq hl rfl (hz:=hs1) (_hz':=hz')),wpAny_loadPart' hl,wpAny_loadPart' hb;exact⟨_,rfl,h⟩
end
section
variable{X:Cx}{T:Tab}{k:Nat}{cal:Cal}
theorem qh:MtM X "list.extend" (λx vs H Q=>∃l b xs zs,x=.ref l/\vs=[.ref b]/\H l=some (.lst xs)/\(SqL X.K H b zs\/SqT X.K H b zs)/\xs.length+zs.length<=sizeLine/\Q .non (upd H l (.lst (xs++zs)))):=by
 intro pins s σ H x vs v us Q I rx rv h
 obtain⟨l,b,xs,zs,rfl,rfl,hH,hB,hz,q⟩:=h
 cases rx
 obtain⟨u,rfl,ru⟩:=rv.one
 cases ru
 obtain⟨z,its,n,r,hl,e⟩:=I.lstM hH
 have fin:∀its2:List Value,aw zs its2->EP X pins σ Q .none { s with heap:=s.heap.update l (Obj.mapSeq λx=>x++its2.toArray),toks:=s.toks }:=λits2 r2 =>
  ⟨.non,_,I.lset (its':=its++its2) hH e (by simp) (r.append r2) (by rw [List.length_append];omega),rfl,q⟩
 rcases hB with hB|hB
 ·obtain⟨its2,r2,pl,z2⟩:=I.list hB
  have hl2:=r2.length
  have hsz:its.toArray.size+its2.toArray.size<=sizeLine:=by rw [List.size_toArray,List.size_toArray];omega
  have hlong:¬ (!its.toArray.isEmpty&&Builtin.List.listTooLong (its.toArray.size+its2.toArray.size))=true:=by
   rw [n8 hsz,Bool.and_false]
   exact Bool.false_ne_true
  obtain⟨⟨cls,dd,data,sl⟩,ho,hc,n2,hd⟩:=pl.isList
  simp only at hc hd
  subst hc hd
  exact call_meets PySem.F.slot_list_extend ⟨_,e,rfl⟩ PySem.F.entry_list_extend (PySem.F.args_list_extend_2 _ _) (nL l its.toArray n b its2.toArray n2 dd sl hlong (by rw [List.size_toArray];omega) (by omega)) ⟨e,ho,fin its2 r2⟩
 ·obtain⟨its2,r2,pl,z2⟩:=I.tuple hB
  have hl2:=r2.length
  have hsz:its.toArray.size+its2.toArray.size<=sizeLine:=by rw [List.size_toArray,List.size_toArray];omega
  have hlong:¬ (!its.toArray.isEmpty&&Builtin.List.listTooLong (its.toArray.size+its2.toArray.size))=true:=by
   rw [n8 hsz,Bool.and_false]
   exact Bool.false_ne_true
  obtain⟨⟨cls,dd,data,sl⟩,ho,hc,n2,hd⟩:=pl
  simp only at hc hd
  subst hc hd
  exact call_meets PySem.F.slot_list_extend ⟨_,e,rfl⟩ PySem.F.entry_list_extend (PySem.F.args_list_extend_2 _ _) (nK l its.toArray n b its2.toArray n2 dd sl hlong (by rw [List.size_toArray];omega) (by omega)) ⟨e,ho,fin its2 r2⟩
structure Df(X:Cx):Prop where
 nd:X.N.Nodup
 fn:∀x,X.fn x=true
 own:PassesOwn (model X.prog X.w) X.A X.env X.xe
 blk:(X.env.blockKind == .function)=true
theorem aJ{v:Expr}(h:cf v=true)(t:Option Expr)(n:Nat)(env:Env):swapsWith v t n env=pure false:=by
 cases v<;>first|rfl|(simp [cf]at h)
theorem sY{v:Expr}{x:Str}{px:Pos}{n:Nat}(d:Df X)(h:za X.env.scope x px v=true):swapsWith v (some (.Name x px)) n X.env=pure true:=by
 obtain⟨⟨e,gs,s,p⟩,w,h⟩:=al h
 obtain rfl:=nu w
 show pure (X.env.blockKind == .function&&X.env.kindOf x == some .local&&px.line == p.line&&!(s.names.any λ(n,k)=>n == x&&(k == .local || k == .cell)))=pure true
 rw [d.blk,Bool.true_and]
 exact congrArg pure h
theorem PS.imp'{e:Stmt}{t t':TS}(h:PS X e t)(i:∀D σ H,σ.length=X.N.length->t' D σ H->t D σ H):PS X e t':=λpins s σ H D I q=>h pins s σ H D I (i D σ H I.len q)
theorem ltN{N:List Str}{i:Nat}{x:Str}{σ:St}(h:N[i]?=some x)(hl:σ.length=N.length):i<σ.length:=by rw [hl];exact(List.getElem?_eq_some_iff.mp h).1
theorem bX{K:PySem.W.Frag}{B:Hp}{O₀ O:List Addr}{ρ:Rho}{σ:St}{D:eN}{o:Option PV}{f:PV->R}(h:fk K B O₀ O ρ σ D (cZ o f)):∃v,o=some v/\fk K B O₀ O ρ σ D (f v):=by
 cases o with
 |none=>exact(show False from h).elim
 |some v=>exact⟨v,rfl,h⟩
theorem sZ{K:PySem.W.Frag}{B:Hp}{O₀ O:List Addr}{ρ:Rho}{σ:St}{D:eN}{o:Option Bool}{f:Bool->R}(h:fk K B O₀ O ρ σ D (vc o f)):∃v,o=some v/\fk K B O₀ O ρ σ D (f v):=by
 cases o with
 |none=>exact(show False from h).elim
 |some v=>exact⟨v,rfl,h⟩
theorem vP{i:Nat}{me:ME}{σ:St}{H:Hp}{D:eN}{K:PySem.W.Frag}(hi:i<σ.length)(hb:aI me=false)(q:tS K cal (.set i me) D σ H):nW (tE K cal me) (bT i) D σ H:=by
 obtain⟨B,O₀,O,ρ,st,q⟩:=q
 rw [ex]at q
 obtain⟨w,e,q⟩:=bX q
 refine⟨B,O₀,O,ρ,w,st,e,λu H' s g=>?_⟩
 obtain⟨st',k'⟩:=(st.mono s).store hi (g.2 hb)
 exact q _ H' O st' k'
theorem C7{i:Nat}{me:ME}{x:Str}{v:Expr}{px pos:Pos}(d:Df X)(hi:X.N[i]?=some x)(hx:Loc X.env.scope x)(h:PE X v (tE X.K cal me))(hb:aI me=false)(hc:cf v=true):PS X (.Assign [.Name x px] v pos) (tS X.K cal (.set i me)) :=
 PS.imp' (gK d.nd hi hx h (aJ hc _ _ _) (.inl (d.fn x))) λD σ H hl q=>vP (ltN hi hl) hb q
theorem vQ{i:Nat}{me:ME}{σ:St}{H:Hp}{D:eN}{K:PySem.W.Frag}(hi:i<σ.length)(q:tS K cal (.setOwn i me) D σ H):nW (tF K cal me) (bT i) D σ H:=by
 obtain⟨B,O₀,O,ρ,st,q⟩:=q
 rw [ex]at q
 obtain⟨w,e,q⟩:=bX q
 cases w with
 |lst xs =>
  refine⟨B,O₀,O,ρ,xs,st,e,λp us H' s hp he r=>?_⟩
  obtain⟨st',k'⟩:=st.storeOwn hi s hp he r
  exact q _ H' _ st' k'
 | _=>exact(show False from q).elim
theorem C8{i:Nat}{me:ME}{x:Str}{v:Expr}{px pos:Pos}(d:Df X)(hi:X.N[i]?=some x)(hx:Loc X.env.scope x)(h:PE X v (tF X.K cal me))(hc:cf v=true):PS X (.Assign [.Name x px] v pos) (tS X.K cal (.setOwn i me)) :=
 PS.imp' (gK d.nd hi hx h (aJ hc _ _ _) (.inl (d.fn x))) λD σ H hl q=>vQ (ltN hi hl) q
theorem vR{i:Nat}{me:ME}{x:Str}{v:Expr}{p apos cpos pos:Pos}(h:PE X v (tE X.K cal me))(hn:ar X.N X.env.scope i x=true)(hb:aI me=false)(hs:aq v=true)(hline:(apos.endLine == cpos.line)=true) :
  PS X (.Expr (.Call (.Attribute (.Name x p) "append" apos) [v] [] cpos) pos) (tS X.K cal (.append i me)):=by
 refine(dk (jB PySem.F.plainAttrs_list PySem.F.slot_list_append PySem.F.type_list_append cn (bz hn) (au h aR (bb hs _ _)) rfl (by rw [bb hs];rfl) hline (bb hs _ _) rfl) rfl).imp λD σ H q=>?_
 obtain⟨B,O₀,O,ρ,st,q⟩:=q
 rw [ex]at q
 obtain⟨w,e,q⟩:=bX q
 cases hj:(ρ[i]?).join with
 |none=>rw [hj]at q;exact(show False from q).elim
 |some m =>
  rw [hj]at q
  cases m with
  |own xs =>
   dsimp only at q
   split at q
   ·rename_i hl
    obtain⟨u,eu,a,us,rfl,ha,rs,hO,hB⟩:=bh st hj
    refine⟨_,eu,.inl ⟨rfl,us,SqL.of ha⟩,B,O₀,O,ρ,w,st,e,λu H1 s g=>⟨a,us,u,rfl,rfl,s _ _ ha,?_,?_⟩⟩
    ·rw [<- rs.length];exact Nat.lt_of_lt_of_le hl (by decide)
    ·obtain⟨st',k'⟩:=(st.mono s).change (us:=us ++ [u]) (ys:=xs ++ [w]) (bB hj) eu ((Reps.mono (ag s) _ rs).snoc (g.2 hb))
     exact q _ _ _ st' k'
   ·exact(show False from q).elim
  |val _=>exact(show False from q).elim
  |brw _=>exact(show False from q).elim
  |ownD _=>exact(show False from q).elim
  |ownO _ _ _=>exact(show False from q).elim
  |brwO _ _=>exact(show False from q).elim
  |brwD _=>exact(show False from q).elim
theorem vS{i:Nat}{me:ME}{x:Str}{v:Expr}{p apos cpos pos:Pos}(h:PE X v (tE X.K cal me))(hn:ar X.N X.env.scope i x=true)(hs:aq v=true)(hline:(apos.endLine == cpos.line)=true) :
  PS X (.Expr (.Call (.Attribute (.Name x p) "extend" apos) [v] [] cpos) pos) (tS X.K cal (.extend i me)):=by
 refine(dk (jB PySem.F.plainAttrs_list PySem.F.slot_list_extend PySem.F.type_list_extend qh (bz hn) (au h aR (bb hs _ _)) rfl (by rw [bb hs];rfl) hline (bb hs _ _) rfl) rfl).imp λD σ H q=>?_
 obtain⟨B,O₀,O,ρ,st,q⟩:=q
 rw [ex]at q
 obtain⟨w,e,q⟩:=bX q
 cases hj:(ρ[i]?).join with
 |none=>rw [hj]at q;exact(show False from q).elim
 |some m =>
  rw [hj]at q
  cases m with
  |own xs =>
   cases hw:be w with
   |none=>rw [hw]at q;exact(show False from q).elim
   |some ys =>
    rw [hw]at q
    dsimp only at q
    split at q
    ·rename_i hl
     obtain⟨u,eu,a,us,rfl,ha,rs,hO,hB⟩:=bh st hj
     refine⟨_,eu,.inl ⟨rfl,us,SqL.of ha⟩,B,O₀,O,ρ,w,st,e,λu H1 s g=>?_⟩
     obtain⟨b,ws,rfl,sq,rw'⟩:=g.1.seq hw
     refine⟨a,b,us,ws,rfl,rfl,s _ _ ha,sq,?_,?_⟩
     ·rw [<- rs.length,<- rw'.length];exact fh hl
     ·obtain⟨st',k'⟩:=(st.mono s).change (us:=us++ws) (ys:=xs++ys) (bB hj) eu ((Reps.mono (ag s) _ rs).append rw')
      exact q _ _ _ st' k'
    ·exact(show False from q).elim
  |val _=>exact(show False from q).elim
  |brw _=>exact(show False from q).elim
  |ownD _=>exact(show False from q).elim
  |ownO _ _ _=>exact(show False from q).elim
  |brwO _ _=>exact(show False from q).elim
  |brwD _=>exact(show False from q).elim
theorem A8{m:Bool}{i:Nat}{x:Str}{px dp pos:Pos}(d:Df X)(hi:X.N[i]?=some x)(hx:Loc X.env.scope x):PS X (.Assign [.Name x px] (.Dict [] [] dp) pos) (tS X.K cal (.newD m i)):=by
 cases m with
 |false =>
  refine PS.imp' (gK d.nd hi hx uI (aJ (v:=.Dict [] [] dp) rfl _ _ _) (.inl (d.fn x))) λD σ H hl q=>?_
  obtain⟨B,O₀,O,ρ,st,q⟩:=q
  rw [ex]at q
  intro p hp
  obtain⟨st',k'⟩:=st.storeM (mm:=.ownD (.k [])) (ltN hi hl) (aA hp (.dK [])) hp (by rw [ah];simp) rfl λhB=>⟨p,rfl,ah,List.mem_cons_self,hB⟩
  exact q _ _ _ st' k'
 |true =>
  refine PS.imp' (gK d.nd hi hx uJ (aJ (v:=.Dict [] [] dp) rfl _ _ _) (.inl (d.fn x))) λD σ H hl q=>?_
  obtain⟨B,O₀,O,ρ,st,q⟩:=q
  rw [ex]at q
  intro p hp
  obtain⟨st',k'⟩:=st.storeM (mm:=.ownD (.t [])) (ltN hi hl) (aA hp (.dT [])) hp (by rw [ah];simp) rfl λhB=>⟨p,rfl,ah,List.mem_cons_self,hB⟩
  exact q _ _ _ st' k'
theorem A9{i:Nat}{mk me:ME}{x:Str}{v s:Expr}{p spos pos:Pos}(g0:Gf X T k cal)(hk:PE X s (tE X.K cal mk))(h:PE X v (tE X.K cal me))(hn:ar X.N X.env.scope i x=true)(hc:cf v=true) :
  PS X (.Assign [.Subscript (.Name x p) s spos] v pos) (tS X.K cal (.dput i mk me)):=by
 have hu:X.A.units+1<cLine:=by have:=g0.units;omega
 refine(xF hu (bz hn) hk h (by cases v<;>first|rfl|(simp [cf]at hc))).imp λD σ H q=>?_
 obtain⟨B,O₀,O,ρ,st,q⟩:=q
 rw [ex]at q
 obtain⟨w,e,q⟩:=bX q
 obtain⟨kv,ek,q⟩:=bX q
 cases hj:(ρ[i]?).join with
 |none=>rw [hj]at q;exact(show False from q).elim
 |some m =>
  rw [hj]at q
  cases m with
  |ownD d =>
   cases hz:sc? w with
   |none=>rw [hz]at q;exact(show False from q).elim
   |some sz =>
    rw [hz]at q
    dsimp only at q
    cases hd:pY d kv sz with
    |none=>rw [hd]at q;exact(show False from q).elim
    |some d' =>
     rw [hd]at q
     obtain⟨u,eu,a,rfl,ha,hO,hB⟩:=bh st hj
     refine⟨B,O₀,O,ρ,w,st,e,λu H1 s1 g1=>⟨_,eu,B,O₀,O,ρ,_,st.mono s1,ek,λuk H2 s2 g2=>?_⟩⟩
     refine⟨a,_,rfl,by rw [vO hz g1.1];exact yh hd (s2 _ _ (s1 _ _ (ha.put1 hd))) g2.1,?_⟩
     obtain⟨st',k'⟩:=((st.mono s1).mono s2).changeD (ys:=d') (bB hj) eu λ_=>.put2 hd ah
     exact q _ _ _ st' k'
  |val _=>exact(show False from q).elim
  |brw _=>exact(show False from q).elim
  |own _=>exact(show False from q).elim
  |ownO _ _ _=>exact(show False from q).elim
  |brwO _ _=>exact(show False from q).elim
  |brwD _=>exact(show False from q).elim
theorem C9{me:ME}{v:Expr}{pos:Pos}(h:PE X v (tE X.K cal me))(hb:aI me=false):PS X (.Return (some v) pos) (tS X.K cal (.ret me)):=by
 refine(iX h).imp λD σ H q=>?_
 obtain⟨B,O₀,O,ρ,st,q⟩:=q
 rw [ex]at q
 obtain⟨w,e,q⟩:=bX q
 exact⟨B,O₀,O,ρ,w,st,e,λu H' s g=>q u H' (st.keep.trans s) (Rep.mono (aQ (ac.refl H') λb hb=>.inl (st.sub b hb)) _ (g.2 hb))⟩
theorem vT{i:Nat}{x:Str}{p pos:Pos}(hn:ar X.N X.env.scope i x=true):PS X (.Return (some (.Name x p)) pos) (tS X.K cal (.retOwn i)):=by
 refine(iX (bz hn)).imp λD σ H q=>?_
 obtain⟨B,O₀,O,ρ,st,q⟩:=q
 rw [ex]at q
 have low:ac (af H O) (af H O₀):=aQ (ac.refl H) λb hb=>.inl (st.sub b hb)
 cases hj:(ρ[i]?).join with
 |none=>rw [hj]at q;exact(show False from q).elim
 |some m =>
  rw [hj]at q
  cases m with
  |own xs =>
   obtain⟨u,eu,a,us,rfl,ha,rs,hO,hB⟩:=bh st hj
   refine⟨_,eu,q _ H st.keep ?_⟩
   rw [Rep]
   refine⟨a,us,rfl,SqL.of ?_,Reps.mono low _ rs⟩
   rw [aD λz=>st.old a z hB]
   exact ha
  |val v =>
   obtain⟨u,eu,so⟩:=bh st hj
   exact⟨_,eu,q _ H st.keep (Rep.mono low _ so)⟩
  |brw _=>exact(show False from q).elim
  |ownD kvs =>
   obtain⟨u,eu,a,rfl,ha,hO,hB⟩:=bh st hj
   refine⟨_,eu,q _ H st.keep ?_⟩
   rw [Rep]
   refine⟨a,rfl,.inl ?_⟩
   rw [aD λz=>st.old a z hB]
   exact ha
  |ownO _ _ _=>exact(show False from q).elim
  |brwO _ _=>exact(show False from q).elim
  |brwD _=>exact(show False from q).elim
theorem EF{c:ME}{a b:List MS}{t:Expr}{x y:List Stmt}{pos:Pos}(hc:PT X t (tT X.K cal c))(ha:PSs X x (tSs X.K cal a))(hb:PSs X y (tSs X.K cal b)):PS X (.If t x y pos) (tS X.K cal (.ite c a b)):=by
 refine(tZ hc ha hb).imp λD σ H q=>?_
 obtain⟨B,O₀,O,ρ,st,q⟩:=q
 rw [ex]at q
 obtain⟨w,e,q⟩:=sZ q
 refine⟨B,O₀,O,ρ,w,st,e,λH' s=>?_⟩
 cases w with
 |true=>rw [if_pos rfl]at q ⊢;exact⟨B,O₀,O,ρ,st.mono s,q⟩
 |false=>rw [if_neg (by simp)]at q ⊢;exact⟨B,O₀,O,ρ,st.mono s,q⟩
theorem A_{m:MS}{ms:List MS}{st:Stmt}{ss:List Stmt}(h1:PS X st (tS X.K cal m))(h2:PSs X ss (tSs X.K cal ms)):PSs X (st::ss) (tSs X.K cal (m::ms)):=by
 refine(aN h1 h2).imp λD σ H q=>?_
 obtain⟨B,O₀,O,ρ,st,q⟩:=q
 refine⟨B,O₀,O,ρ,st,?_⟩
 rw [exs]at q
 cases e:ex cal m ρ with
 |next ρ'=>rw [e]at q;exact λσ' H' O' st' k=>⟨B,O₀,O',ρ',st',fk.trans q k⟩
 |brk ρ'=>rw [e]at q;exact q
 |cont ρ'=>rw [e]at q;exact q
 |ret v=>rw [e]at q;exact q
 |bad=>rw [e]at q;exact q
 |retF xs=>rw [e]at q;exact q
 |retT v ρ2=>rw [e]at q;exact q
theorem C_:PSs X [] (tSs X.K cal []):=by
 refine mV.imp λD σ H q=>?_
 obtain⟨B,O₀,O,ρ,st,q⟩:=q
 rw [exs]at q
 exact q σ H O st .refl
end
end MM
namespace MM
open PySem PySem.Spec PyProof.Rows L2
section
variable{K:PySem.W.Frag}{B H H':Hp}{O₀ O:List Addr}{ρ:Rho}{σ:St}
theorem vU{i j:Nat}{m:MV}(h:xQ ρ i=true)(hj:i≠j)(e:ρ[j]?=some (some m)):isL m=false:=by
 have:=List.all_eq_true.mp h (some m) (List.mem_of_getElem? (show(ρ.set i none)[j]?=some (some m) by rw [List.getElem?_set_ne hj];exact e))
 simpa using this
theorem iP(st:aF K B O₀ O H ρ σ){j:Nat}{m:MV}{c:Addr}(e:ρ[j]?=some (some m))(o:db m=true)(es:σ[j]?=some (some (.ref c))):H c≠none:=by
 obtain⟨w,e1,q⟩:=st.slot j _ e
 rw [es]at e1
 cases e1
 cases m with
 |own zs=>obtain⟨a,ws,e2,h1,_⟩:=q;cases e2;rw [h1];simp
 |ownD zs=>obtain⟨a,e2,h1,_⟩:=q;cases e2;rw [h1];simp
 |ownO _ _ _=>obtain⟨a,l,e2,q⟩:=q;cases e2;obtain⟨C,dx,gs,h1,_⟩:=q.ob;rw [h1];simp
 |val _=>cases o
 |brw _=>cases o
 |brwD _=>cases o
 |brwO _ _=>cases o
theorem aF.changeO(st:aF K B O₀ O H ρ σ){i:Nat}{b:Bool}{fs xs ys:List PV}{a l l':Addr}(e:ρ[i]?=some (some (.ownO b fs xs)))(es:σ[i]?=some (some (.ref a)))(q:cz K B O H fs xs a l)(kp:∀c o,c≠a->c≠l->H c=some o->H' c=some o)(hl:l'=l\/H l'=none)
  (q':cz K (λ_=>none) (l'::O.filter λb=>decide (b≠l)) H' fs ys a l'):aF K B O₀ (l'::O.filter λb=>decide (b≠l)) H' (put ρ i (.ownO b fs ys)) σ/\bC B O (l'::O.filter λb=>decide (b≠l)) ρ (put ρ i (.ownO b fs ys)) σ σ:=by
 have hi':i<ρ.length:=(List.getElem?_eq_some_iff.mp e).1
 have lB:B l'=none:=hl.elim (λz=>by rw [z];exact q.lB) st.keep.free
 have mem:∀c,c≠l->c∈O->c∈l'::O.filter λb=>decide (b≠l):=λc hc ho=>List.mem_cons_of_mem _ (List.mem_filter.mpr ⟨ho,decide_eq_true hc⟩)
 have keep:ac B H':=λc u ec=>kp c u (λz=>by rw [z,q.aB]at ec;cases ec) (λz=>by rw [z,q.lB]at ec;cases ec) (st.keep c u ec)
 have vis:ac (af H O) (af H' (l'::O.filter λb=>decide (b≠l))):=λc u ec=>by
  have hc:c∉O:=λz=>by rw [du z]at ec;cases ec
  rw [aD hc]at ec
  rw [aD]
  ·exact kp c u (λz=>hc (z ▸ q.aO)) (λz=>hc (z ▸ q.lO)) ec
  ·intro z
   rcases List.mem_cons.mp z with z|z
   ·rcases hl with w|w
    ·exact hc (by rw [z,w];exact q.lO)
    ·rw [z,w]at ec;cases ec
   ·exact hc (List.mem_filter.mp z).1
 have oth:∀(j:Nat) (m:MV) (c:Addr),i≠j->ρ[j]?=some (some m)->db m=true->σ[j]?=some (some (.ref c))->c≠a/\c≠l:=λj m c hj ej o ec=>⟨λz=>st.apart i j _ m a hj e ej rfl o es (by rw [ec,z]),(st.inn i _ a l e rfl es q.l j m (Ne.symm hj) ej).2 c o ec⟩
 refine⟨⟨keep,λc hc=>?_,λc hc=>mem c (λz=>st.old c hc (z ▸ q.lB)) (st.sub c hc),st.old,by rw [put_len];exact st.len,λj m ej=>?_,λc d ps qs ad hcd e1 e2 p1 p2 e3 e4=>?_,λk m0 a2 l2 e1 l0 e2 e3 j m hjk ej=>?_⟩,⟨λc hc ho=>mem c (λz=>hc (z ▸ q.lB)) ho,λc hc=>?_,λj zs hbm ej=>?_,put_len,λj gs zs ej=>?_⟩⟩
 ·rcases List.mem_cons.mp hc with rfl|hc
  ·obtain⟨us,h1,_⟩:=q'.li
   rw [h1]
   simp
  ·obtain⟨h1,h2⟩:=List.mem_filter.mp hc
   by_cases z:c=a
   ·subst z
    obtain⟨C,dx,gs,h1,_⟩:=q'.ob
    rw [h1]
    simp
   ·cases eo:H c with
    |none=>exact absurd eo (st.here c h1)
    |some o=>rw [kp c o z (of_decide_eq_true h2) eo];simp
 ·by_cases hj:i=j
  ·subst hj
   rw [ab hi']at ej
   cases ej
   exact⟨_,es,a,l',rfl,q'.move (ac.refl _) (λ_ h=>h) (λ_ h=>h) q'.aO q'.lO q.aB lB⟩
  ·rw [aa hj]at ej
   obtain⟨w,ew,qq⟩:=st.slot j m ej
   refine⟨w,ew,?_⟩
   cases m with
   |val v=>exact Rep.mono vis _ qq
   |own zs =>
    obtain⟨ad,ws,rfl,q1,q2,q3,q4⟩:=qq
    obtain⟨n1,n2⟩:=oth j _ ad hj ej rfl ew
    exact⟨ad,ws,rfl,kp _ _ n1 n2 q1,Reps.mono vis _ q2,mem _ n2 q3,q4⟩
   |ownD zs =>
    obtain⟨ad,rfl,q1,q3,q4⟩:=qq
    obtain⟨n1,n2⟩:=oth j _ ad hj ej rfl ew
    exact⟨ad,rfl,kp _ _ n1 n2 q1,mem _ n2 q3,q4⟩
   |ownO _ _ _=>cases (st.inn i _ a l e rfl es q.l j _ (Ne.symm hj) ej).1
   |brw zs=>obtain⟨ad,ws,rfl,q1,q2⟩:=qq;exact⟨ad,ws,rfl,q1,Reps.mono vis _ q2⟩
   |brwD zs=>exact qq
   |brwO gs zs=>obtain⟨ad,rfl,q1⟩:=qq;exact⟨ad,rfl,q1.move (ac.refl B) vis⟩
 ·have h1:∀(j:Nat) (zs:MV),(put ρ i (.ownO b fs ys))[j]?=some (some zs)->db zs=true->∃zs,ρ[j]?=some (some zs)/\db zs=true:=λj zs q oz=>by
   by_cases hj:i=j
   ·subst hj;exact⟨_,e,rfl⟩
   ·rw [aa hj]at q;exact⟨zs,q,oz⟩
  obtain⟨q1,e1,p1⟩:=h1 c ps e1 p1
  obtain⟨q2,e2,p2⟩:=h1 d qs e2 p2
  exact st.apart c d q1 q2 ad hcd e1 e2 p1 p2 e3 e4
 ·have hk:i=k:=by
   cases Nat.decEq i k with
   |isTrue z=>exact z
   |isFalse z =>
    rw [aa z]at e1
    rw [(st.inn i _ a l e rfl es q.l k _ (Ne.symm z) e1).1]at l0
    cases l0
  subst hk
  rw [es]at e2
  cases e2
  rw [q'.l]at e3
  cases e3
  rw [aa (Ne.symm hjk)]at ej
  refine⟨(st.inn i _ a l e rfl es q.l j m hjk ej).1,λc o ec z=>?_⟩
  rcases hl with w|w
  ·exact(st.inn i _ a l e rfl es q.l j m hjk ej).2 c o ec (by rw [z,w])
  ·exact iP st ej o ec (by rw [z,w])
 ·rcases List.mem_cons.mp hc with rfl|hc
  ·exact .inr lB
  ·exact .inl (List.mem_filter.mp hc).1
 ·have hj:i≠j:=λz=>by subst z;rw [ab hi']at ej;cases ej;cases hbm
  rw [aa hj]at ej
  exact⟨ej,rfl⟩
 ·by_cases hj:i=j
  ·subst hj
   rw [ab hi']at ej
   cases ej
   exact⟨⟨xs,e⟩,rfl⟩
  ·rw [aa hj]at ej
   exact⟨⟨zs,ej⟩,rfl⟩
theorem aF.storeO(st:aF K B O₀ O H ρ σ){i:Nat}{fs:List PV}{a l:Addr}(hi:i<σ.length)(hn:xQ ρ i=true)(s:ac H H')(ha:H a=none)(hl:H l=none)(q:cz K (λ_=>none) (a::l::O) H' fs [] a l) :
  aF K B O₀ (a::l::O) H' (put ρ i (.ownO false fs [])) (σ.set i (some (.ref a)))/\bC B O (a::l::O) ρ (put ρ i (.ownO false fs [])) σ (σ.set i (some (.ref a))):=by
 have hi':i<ρ.length:=by rw [st.len];exact hi
 have inO:∀b∈O,b∈a::l::O:=λb h=>.tail _ (.tail _ h)
 have free:∀b∈a::l::O,b∈O\/H b=none:=λb h=>by
  rcases List.mem_cons.mp h with rfl|h
  ·exact .inr ha
  ·rcases List.mem_cons.mp h with rfl|h
   ·exact .inr hl
   ·exact .inl h
 have vis:ac (af H O) (af H' (a::l::O)):=aQ s free
 refine⟨⟨st.keep.trans s,λb h=>?_,λb h=>inO b (st.sub b h),st.old,by rw [put_len,List.length_set];exact st.len,λj m ej=>?_,λc d xs ys ad hcd e1 e2 o1 o2 e3 e4=>?_,λk m0 a2 l2 e1 l0 e2 e3 j m hjk ej=>?_⟩,⟨λ_ _ h=>inO _ h,λb h=>(free b h).imp id st.keep.free,λj xs hbm ej=>?_,put_len,λj gs zs ej=>?_⟩⟩
 ·rcases List.mem_cons.mp h with rfl|h
  ·obtain⟨C,dx,gs,h1,_⟩:=q.ob
   rw [h1]
   simp
  ·rcases List.mem_cons.mp h with rfl|h
   ·obtain⟨us,h1,_⟩:=q.li
    rw [h1]
    simp
   ·exact λz=>st.here b h (s.free z)
 ·by_cases hj:i=j
  ·subst hj
   rw [ab hi']at ej
   cases ej
   exact⟨_,List.getElem?_set_self hi,a,l,rfl,q.move (ac.refl _) (λ_ h=>h) (λ_ h=>h) q.aO q.lO (st.keep.free ha) (st.keep.free hl)⟩
  ·rw [aa hj]at ej
   obtain⟨w,e1,qq⟩:=st.slot j m ej
   refine⟨w,by rw [List.getElem?_set_ne hj];exact e1,?_⟩
   cases m with
   |val v=>exact Rep.mono vis _ qq
   |own ys=>obtain⟨a,ws,e2,h1,h2,h3,h4⟩:=qq;exact⟨a,ws,e2,s _ _ h1,Reps.mono vis _ h2,inO _ h3,h4⟩
   |brw ys=>obtain⟨a,ws,e2,h1,h2⟩:=qq;exact⟨a,ws,e2,h1,Reps.mono vis _ h2⟩
   |ownD ys=>obtain⟨a,e2,h1,h3,h4⟩:=qq;exact⟨a,e2,s _ _ h1,inO _ h3,h4⟩
   |ownO _ _ _=>cases vU hn hj ej
   |brwD ys=>exact qq
   |brwO gs zs=>obtain⟨ad,e2,q1⟩:=qq;exact⟨ad,e2,q1.move (ac.refl B) vis⟩
 ·by_cases hc:i=c
  ·subst hc
   rw [List.getElem?_set_self hi]at e3
   cases e3
   rw [aa hcd]at e2
   rw [List.getElem?_set_ne hcd]at e4
   exact iP st e2 o2 e4 ha
  ·by_cases hd:i=d
   ·subst hd
    rw [List.getElem?_set_self hi]at e4
    cases e4
    rw [aa hc]at e1
    rw [List.getElem?_set_ne hc]at e3
    exact iP st e1 o1 e3 ha
   ·rw [aa hc]at e1
    rw [aa hd]at e2
    rw [List.getElem?_set_ne hc]at e3
    rw [List.getElem?_set_ne hd]at e4
    exact st.apart c d _ _ ad hcd e1 e2 o1 o2 e3 e4
 ·have hk:i=k:=by
   cases Nat.decEq i k with
   |isTrue z=>exact z
   |isFalse z =>
    rw [aa z]at e1
    rw [vU hn z e1]at l0
    cases l0
  subst hk
  rw [List.getElem?_set_self hi]at e2
  cases e2
  rw [q.l]at e3
  cases e3
  rw [aa (Ne.symm hjk)]at ej
  refine⟨vU hn (Ne.symm hjk) ej,λc o ec z=>?_⟩
  rw [List.getElem?_set_ne (Ne.symm hjk)]at ec
  exact iP st ej o ec (by rw [z,hl])
 ·have hj:i≠j:=λz=>by subst z;rw [ab hi']at ej;cases ej;cases hbm
  rw [aa hj]at ej
  exact⟨ej,List.getElem?_set_ne hj⟩
 ·have hj:i≠j:=λz=>by subst z;rw [ab hi']at ej;cases ej
  rw [aa hj]at ej
  exact⟨⟨zs,ej⟩,List.getElem?_set_ne hj⟩
theorem yk{F:Hp}{v:PV}{s:Sc}{u:V}(h:sc? v=some s)(r:Rep K F v u):u=s.v:=by
 cases v<;>first|(cases h;done)|(cases h;rw [Rep]at r;exact r)
end
section
variable{X:Cx}{T:Tab}{k:Nat}{cal:Cal}
theorem Ba{me:ME}{v:Expr}{pos:Pos}(h:PE X v (tE X.K cal me))(hb:aI me=false):PS X (.Return (some v) pos) (tS X.K cal (.retT me)):=by
 refine(iX h).imp λD σ H q=>?_
 obtain⟨B,O₀,O,ρ,st,q⟩:=q
 rw [ex]at q
 obtain⟨w,e,q⟩:=bX q
 refine⟨B,O₀,O,ρ,w,st,e,λu H' s g=>?_⟩
 cases es:sc? w with
 |none=>rw [es]at q;exact(show False from q).elim
 |some sv =>
  rw [es]at q
  rw [yk es (g.2 hb)]
  exact q σ H' O (st.mono s) .refl
theorem Bb{i:Nat}{me:ME}{x:Str}{v:Expr}{p fp apos cpos pos:Pos}(g:Gf X T k cal)(h:PE X v (tE X.K cal me))(hn:ar X.N X.env.scope i x=true)(hb:aI me=false)(hs:aq v=true)(hline:(apos.endLine == cpos.line)=true) :
  PS X (.Expr (.Call (.Attribute (.Attribute (.Name x p) "taken" fp) "append" apos) [v] [] cpos) pos) (tS X.K cal (.appO i me)):=by
 refine(dk (jB PySem.F.plainAttrs_list PySem.F.slot_list_append PySem.F.type_list_append cn (qf hn) (au h aR (bb hs _ _)) rfl (by rw [bb hs];rfl) hline (bb hs _ _) rfl) rfl).imp λD σ H q=>?_
 obtain⟨B,O₀,O,ρ,st,q⟩:=q
 rw [ex]at q
 obtain⟨w,e,q⟩:=bX q
 cases hj:(ρ[i]?).join with
 |none=>rw [hj]at q;exact(show False from q).elim
 |some m =>
  rw [hj]at q
  cases m with
  |ownO b fs xs =>
   dsimp only at q
   split at q
   ·rename_i hl
    obtain⟨u,eu,a,l,rfl,qq⟩:=bh st hj
    obtain⟨C,dx,gs,h1,h2⟩:=qq.ob
    obtain⟨us,h3,h4⟩:=qq.li
    obtain⟨c1,_,c2⟩:=g.cls C h2.cls
    refine⟨_,eu,a,C,dx,gs,.ref l,rfl,h1,c1,c2,h2.lst,.inl ⟨rfl,us,SqL.of h3⟩,B,O₀,O,ρ,w,st,e,λu H1 s g1=>⟨l,us,u,rfl,rfl,s _ _ h3,?_,?_⟩⟩
    ·rw [<- h4.length];exact Nat.lt_of_lt_of_le hl (by decide)
    ·have st1:=st.mono s
     have q1:=qq.move (ag s) (λ_=>s _ _) (λ_=>s _ _) qq.aO qq.lO qq.aB qq.lB
     have vis:ac (af H1 O) (af (upd H1 l (.lst (us ++ [u]))) (l::O.filter λb=>decide (b≠l))):=λc o ec=>by
      have hc:c∉O:=λz=>by rw [du z]at ec;cases ec
      rw [aD hc]at ec
      have hn:c∉l::O.filter λb=>decide (b≠l):=λz=>by
       rcases List.mem_cons.mp z with z|z
       ·exact hc (z ▸ qq.lO)
       ·exact hc (List.mem_filter.mp z).1
      have hcl:c≠l:=λz=>hc (z ▸ qq.lO)
      rw [aD hn,ak hcl]
      exact ec
     obtain⟨st',k'⟩:=st1.changeO (ys:=xs ++ [w]) (l':=l) (H':=upd H1 l (.lst (us ++ [u]))) (bB hj) eu q1 (λc o _ n2 ec=>by rw [ak n2];exact ec) (.inl rfl)
      ⟨⟨C,dx,gs,by rw [ak qq.ne];exact s _ _ h1,(h2.mono (ag s)).mono vis⟩,⟨_,ah,Reps.mono vis _ ((Reps.mono (ag s) _ h4).snoc (g1.2 hb))⟩,List.mem_cons_of_mem _ (List.mem_filter.mpr ⟨qq.aO,decide_eq_true qq.ne⟩),List.mem_cons_self,rfl,rfl,qq.ne⟩
     exact q _ _ _ st' k'
   ·exact(show False from q).elim
  | _=>exact(show False from q).elim
theorem o4 {c r o:V}{l:Addr}:(oO c r o l).lookup ("hole_count":Str)=some c/\(oO c r o l).lookup ("ribbons":Str)=some r/\(oO c r o l).lookup ("opener":Str)=some o/\(oO c r o l).lookup ("taken":Str)=some (.ref l)/\∀m∈mB,(oO c r o l).lookup m=none:=by
 unfold oO
 refine⟨?_,?_,?_,?_,λm hm=>?_⟩
 ·rw [aG,if_neg (by decide +kernel),aG,if_neg (by decide +kernel),aG,if_neg (by decide +kernel),aG,if_pos rfl]
 ·rw [aG,if_neg (by decide +kernel),aG,if_neg (by decide +kernel),aG,if_pos rfl]
 ·rw [aG,if_neg (by decide +kernel),aG,if_pos rfl]
 ·rw [aG,if_pos rfl]
 ·have ne:∀x∈(["taken","opener","ribbons","hole_count"]:List Str),m≠x:=λx hx z=>by
   subst z
   exact absurd hx (by revert m;decide +kernel)
  rw [aG,if_neg (ne _ (by simp)),aG,if_neg (ne _ (by simp)),aG,if_neg (ne _ (by simp)),aG,if_neg (ne _ (by simp))]
  rfl
theorem rA {vs fs:List PV} (h:sL vs=some fs):∃c r o,(vs=[.tup [c,r],o]\/vs=[.tup [c,r]]/\o=.str "weaver")/\fs=[c,r,o]:=by
 unfold sL at h
 split at h
 ·cases h;exact⟨_,_,_,.inl rfl,rfl⟩
 ·cases h;exact⟨_,_,_,.inr ⟨rfl,rfl⟩,rfl⟩
 ·cases h
theorem vV{K:PySem.W.Frag}{B H H1:Hp}{O₀ O:List Addr}{ρ:Rho}{σ:St}{D:eN}{i:Nat}{c r o:PV}{C a dx la:Addr}{ts:List V}{uo:V}(hi:i<σ.length)(hC:IsC K C)(hn:xQ ρ i=true)(st:aF K B O₀ O H ρ σ)(s1:ac H H1)(q:fk K B O₀ O ρ σ D (.next (put ρ i (.ownO false [c,r,o] []))))
  (ht:af H1 O la=some (.tup ts)) (rt:Reps K (af H1 O) [c,r] ts) (ro:Rep K (af H1 O) o uo) (na:H1 a=none) (nd:H1 dx=none):spI K C [.ref a,.ref la,uo] (upd (upd H1 dx (.own a)) a (.ins C dx [])) (λv H2=>v=.non/\D.nx (σ.set i (some (.ref a))) H2) E0:=by
 rw [Reps]at rt
 obtain⟨uc,r3,rfl,rc,rt⟩:=rt
 rw [Reps]at rt
 obtain⟨ur,r4,rfl,rr,rt⟩:=rt
 rw [Reps]at rt
 subst rt
 have s2:ac H1 (upd (upd H1 dx (.own a)) a (.ins C dx [])):=λb u eb=>by rw [ak (az eb na),ak (az eb nd)];exact eb
 refine⟨a,dx,la,uc,ur,uo,rfl,ah,s2.seqT (SqT.of (aU H1 O _ _ ht)),λl H' nl ea el kp=>⟨rfl,?_⟩⟩
 have hla:a≠l:=λz=>by rw [<- z,ah]at nl;cases nl
 have nl1:H1 l=none:=s2.free nl
 have s3:ac H1 H':=λb u eb=>kp b u (az eb na) (s2 b u eb)
 have vis:ac (af H1 O) (af H' (a::l::O)):=aQ s3 λb h=>by
  rcases List.mem_cons.mp h with rfl|h
  ·exact .inr na
  ·rcases List.mem_cons.mp h with rfl|h
   ·exact .inr nl1
   ·exact .inl h
 obtain⟨f1,f2,f3,f4,f5⟩:=o4 (c:=uc) (r:=ur) (o:=uo) (l:=l)
 have hf:∀(n:Nat) (x:Str) (v:PV),gT[n]?=some x->([c,r,o]:List PV)[n]?=some v->∃u,(oO uc ur uo l).lookup x=some u/\Rep K (af H' (a::l::O)) v u:=λn x v en evv=>by
  match n,en,evv with
  |0,en,evv=>cases en;cases evv;exact⟨uc,f1,Rep.mono vis _ rc⟩
  |1,en,evv=>cases en;cases evv;exact⟨ur,f2,Rep.mono vis _ rr⟩
  |2,en,evv=>cases en;cases evv;exact⟨uo,f3,Rep.mono vis _ ro⟩
 obtain⟨st',k'⟩:=st.storeO (fs:=[c,r,o]) hi hn (s1.trans s3) (s1.free na) (s1.free nl1) ⟨⟨C,dx,_,ea,hC,hf,f4,f5⟩,⟨[],el,.nil⟩,List.mem_cons_self,List.mem_cons_of_mem _ List.mem_cons_self,rfl,rfl,hla⟩
 exact q _ _ _ st' k'
theorem Da {i:Nat}{ms:List ME}{e:Expr}{es:List Expr}{x:Str}{px p cp pos:Pos} (g:Gf X T k cal) (d:Df X) (hi:X.N[i]?=some x) (hx:Loc X.env.scope x) (hg:glB X.env.scope ("Table":Str)=true) (ha:PA X (e::es) (tEs X.K cal ms)) (hb:(ms.all λm=>!aI m)=true) (hs:(e::es).all aq=true) (hln:ms.length=(e::es).length) :
  PS X (.Assign [.Name x px] (.Call (.Name ("Table":Str) p) (e::es) [] cp) pos) (tS X.K cal (.mkO i ms)):=by
 by_cases hL:cal 4000 []≠none
 ·obtain⟨C,hC,hm,fa,fd,ps,M,hbd,F,dv,hbl,hdv⟩:=g.ini hL
  simp only [List.all_cons,Bool.and_eq_true]at hs
  cases es with
  |nil =>
   refine PS.imp' (gK d.nd hi hx (jT M F (g.lvl hL) (dw hg) hm hbl hdv d_ ha (by decide) (bb hs.1 _ _) (bg hs.2)) (aJ (v:=.Call (.Name ("Table":Str) p) [e] [] cp) rfl _ _ _) (.inl (d.fn x))) λD σ H hl q=>?_
   obtain⟨B,O₀,O,ρ,st,q⟩:=q
   rw [ex]at q
   cases ev1:(evs cal ms ρ).bind sL with
   |none=>rw [ev1]at q;exact(show False from q).elim
   |some fs =>
    rw [ev1]at q
    dsimp only at q
    split at q
    ·rename_i c0
     rw [Option.bind_eq_some_iff]at ev1
     obtain⟨vs,e1,e2⟩:=ev1
     obtain⟨c,r,o,hv,rfl⟩:=rA e2
     have hvl:=iM e1
     rcases hv with rfl|⟨rfl,rfl⟩
     ·rw [hln]at hvl
      simp at hvl
     ·refine⟨B,O₀,O,ρ,_,st,e1,λus H1 s1 g1 a dx na nd ne=>?_⟩
      have rs:=g1.2 hb
      rw [Reps]at rs
      obtain⟨ut,r1,rfl,rt,rs⟩:=rs
      rw [Reps]at rs
      subst rs
      rw [Rep]at rt
      obtain⟨la,ts,rfl,ht,rt⟩:=rt
      exact vV (ltN hi hl) hC c0.1 st s1 q ht rt (by rw [Rep]) na nd
    ·exact(show False from q).elim
  |cons e' es =>
   refine PS.imp' (gK d.nd hi hx (jT M F (g.lvl hL) (dw hg) hm hbd .nil d_ ha (by decide) (bb hs.1 _ _) (bg (by simpa using hs.2))) (aJ (v:=.Call (.Name ("Table":Str) p) (e::e'::es) [] cp) rfl _ _ _) (.inl (d.fn x))) λD σ H hl q=>?_
   obtain⟨B,O₀,O,ρ,st,q⟩:=q
   rw [ex]at q
   cases ev1:(evs cal ms ρ).bind sL with
   |none=>rw [ev1]at q;exact(show False from q).elim
   |some fs =>
    rw [ev1]at q
    dsimp only at q
    split at q
    ·rename_i c0
     rw [Option.bind_eq_some_iff]at ev1
     obtain⟨vs,e1,e2⟩:=ev1
     obtain⟨c,r,o,hv,rfl⟩:=rA e2
     have hvl:=iM e1
     rcases hv with rfl|⟨rfl,rfl⟩
     ·refine⟨B,O₀,O,ρ,_,st,e1,λus H1 s1 g1 a dx na nd ne=>?_⟩
      have rs:=g1.2 hb
      rw [Reps]at rs
      obtain⟨ut,r1,rfl,rt,rs⟩:=rs
      rw [Reps]at rs
      obtain⟨uo,r2,rfl,ro,rs⟩:=rs
      rw [Reps]at rs
      subst rs
      rw [Rep]at rt
      obtain⟨la,ts,rfl,ht,rt⟩:=rt
      exact vV (ltN hi hl) hC c0.1 st s1 q ht rt ro na nd
     ·rw [hln]at hvl
      simp at hvl
    ·exact(show False from q).elim
 ·exact λpins s σ H D I q=>by
   obtain⟨B,O₀,O,ρ,st,q⟩:=q
   rw [ex]at q
   cases ev1:(evs cal ms ρ).bind sL with
   |none=>rw [ev1]at q;exact(show False from q).elim
   |some fs =>
    rw [ev1]at q
    dsimp only at q
    rw [if_neg λz=>hL z.2]at q
    exact(show False from q).elim
end
end MM
namespace MM
open PySem PySem.Spec PyProof.Rows L2
section
variable{K:PySem.W.Frag}{B H:Hp}{O₀ O:List Addr}{ρ:Rho}{σ:St}
theorem Db{H1 H':Hp}{O' L:List Addr}{ρ':Rho}{σ':St}(st':aF K (bm B O H1 L) O₀ O' H' ρ' σ')(k:bC (bm B O H1 L) O O' ρ ρ' σ σ'):ac (af H1 O) (af H' O'):=λb u e=>by
 have hb:b∉O:=λz=>by rw [du z]at e;cases e
 have hg:bm B O H1 L b=some u:=bM b u e
 rw [aD]
 ·exact st'.keep b u hg
 ·intro z
  rcases k.new b z with q|q
  ·exact hb q
  ·rw [hg]at q;cases q
theorem ym{ms:List ME}(st:aF K B O₀ O H ρ σ):aF K (bm B O H (aS ms ρ σ)) O₀ O H (bu ms ρ) σ/\(bu ms ρ).length=ρ.length:=by
 have base:∀L:List Addr,(∀a∈L,∀(j:Nat) (ys:MV),(bu ms ρ)[j]?=some (some ys)->db ys=true->σ[j]?≠some (some (.ref a)))->(∀(j:Nat) (m:MV),(bu ms ρ)[j]?=some (some m)->(∃ys,m=.brw ys/\ρ[j]?=some (some (.own ys))/\∃a,σ[j]?=some (some (.ref a))/\a∈L)\/ρ[j]?=some (some m))->(bu ms ρ).length=ρ.length ->
   (∀a∈L,∀(j:Nat) (m1:MV) (c l:Addr),ρ[j]?=some (some m1)->isL m1=true->σ[j]?=some (some (.ref c))->lOf (H c)=some l->a≠l) ->
   aF K (bm B O H L) O₀ O H (bu ms ρ) σ:=λL h1 h2 h3 h4=>by
  have gl:=k9 (O:=O) (L:=L) st.keep
  have lg:=cE (O:=O) (L:=L) st.keep
  refine⟨gl,st.here,st.sub,λa ha z=>st.old a ha (lg.free z),h3.trans st.len,λj m e=>?_,λc d ps qs ad hcd e1 e2 p1 p2 e3 e4=>?_
   ,c7 st.inn (λj mo e l0=>by
    rcases h2 j _ e with ⟨_,z,_⟩|e2
    ·rw [z]at l0;cases l0
    ·exact⟨⟨mo,e2,l0⟩,rfl,λ_ _ _ h=>h⟩) λj m c e _ o ec=>.inl (by
    rcases h2 j _ e with ⟨_,z,_⟩|e2
    ·rw [z]at o;cases o
    ·exact⟨m,e2,o,ec⟩)
   ⟩
  ·rcases h2 j m e with ⟨ys,rfl,e2,a,ea,haL⟩|e2
   ·obtain⟨u,eu,a',us,rfl,q1,q2,q3,q4⟩:=st.slot j _ e2
    rw [ea]at eu
    cases eu
    refine⟨_,ea,a,us,rfl,SqL.of ?_,q2⟩
    unfold bm
    rw [if_pos q3,if_pos haL]
    exact q1
   ·obtain⟨u,eu,q⟩:=st.slot j m e2
    refine⟨u,eu,?_⟩
    cases m with
    |val v=>exact q
    |own ys =>
     obtain⟨a,us,rfl,q1,q2,q3,q4⟩:=q
     refine⟨a,us,rfl,q1,q2,q3,?_⟩
     unfold bm
     rw [if_pos q3,if_neg λhaL=>h1 a haL j (.own ys) e rfl eu]
     exact q4
    |ownD ys =>
     obtain⟨a,rfl,q1,q3,q4⟩:=q
     refine⟨a,rfl,q1,q3,?_⟩
     unfold bm
     rw [if_pos q3,if_neg λhaL=>h1 a haL j (.ownD ys) e rfl eu]
     exact q4
    |ownO b fs ys =>
     obtain⟨a,l,rfl,q⟩:=q
     refine⟨a,l,rfl,q.move (ac.refl _) (λ_ h=>h) (λ_ h=>h) q.aO q.lO ?_ ?_⟩
     ·unfold bm
      rw [if_pos q.aO,if_neg λhaL=>h1 a haL j (.ownO b fs ys) e rfl eu]
      exact q.aB
     ·unfold bm
      rw [if_pos q.lO,if_neg λhbL=>h4 l hbL j _ a l e2 rfl eu q.l rfl]
      exact q.lB
    |brwO fs ys=>obtain⟨a,rfl,q⟩:=q;exact⟨a,rfl,q.move lg (ac.refl _)⟩
    |brwD ys=>obtain⟨a,rfl,q1⟩:=q;exact⟨a,rfl,ac.rd lg q1⟩
    |brw ys=>obtain⟨a,us,rfl,q1,q2⟩:=q;exact⟨a,us,rfl,lg.seq q1,q2⟩
  ·rcases h2 c _ e1 with ⟨_,rfl,_⟩|e1
   ·cases p1
   ·rcases h2 d _ e2 with ⟨_,rfl,_⟩|e2
    ·cases p2
    ·exact st.apart c d ps qs ad hcd e1 e2 p1 p2 e3 e4
 have plain:bu ms ρ=ρ->aS ms ρ σ=[]->aF K (bm B O H (aS ms ρ σ)) O₀ O H (bu ms ρ) σ/\(bu ms ρ).length=ρ.length:=λe1 e2=>by
  rw [e2]
  exact⟨base [] (λa ha=>by simp at ha) (λj m e=>.inr (by rw [e1]at e;exact e)) (by rw [e1]) (λa ha=>by simp at ha),by rw [e1]⟩
 match ms with
 | []=>exact plain rfl rfl
 | [.bor i] =>
  cases hj:(ρ[i]?).join with
  |none=>exact plain (by simp [bu,hj]) (by simp [aS,hj])
  |some m =>
   cases m with
   |val _=>exact plain (by simp [bu,hj]) (by simp [aS,hj])
   |brw _=>exact plain (by simp [bu,hj]) (by simp [aS,hj])
   |ownD _=>exact plain (by simp [bu,hj]) (by simp [aS,hj])
   |ownO _ _ _=>exact plain (by simp [bu,hj]) (by simp [aS,hj])
   |brwO _ _=>exact plain (by simp [bu,hj]) (by simp [aS,hj])
   |brwD _=>exact plain (by simp [bu,hj]) (by simp [aS,hj])
   |own xs =>
    have el:bu [.bor i] ρ=put ρ i (.brw xs):=by simp [bu,hj]
    have e0:=bB hj
    obtain⟨u,eu,a,us,rfl,q1,q2,q3,q4⟩:=st.slot i _ e0
    have eL:aS [.bor i] ρ σ=[a]:=by simp [aS,hj,eu]
    have hi':i<ρ.length:=(List.getElem?_eq_some_iff.mp e0).1
    rw [eL]
    refine⟨base [a] (λb hb j ys e oy z=>?_) (λj m e=>?_) (by rw [el,put_len]) (λb hb j m1 c l f1 f0 f2 f3=>by
     rw [List.mem_singleton.mp hb]
     exact(st.inn j m1 c l f1 f0 f2 f3 i (.own xs) (λz=>by subst z;rw [e0]at f1;cases f1;cases f0) e0).2 a rfl eu),by rw [el,put_len]⟩
    ·have:b=a:=by simpa using hb
     subst this
     rw [el]at e
     have hj':i≠j:=λz=>by subst z;rw [ab hi']at e;cases e;cases oy
     rw [aa hj']at e
     exact st.apart i j (.own xs) ys b hj' e0 e rfl oy eu z
    ·rw [el]at e
     by_cases hij:i=j
     ·subst hij
      rw [ab hi']at e
      cases e
      exact .inl ⟨xs,rfl,e0,a,eu,by simp⟩
     ·rw [aa hij]at e
      exact .inr e
 | .var _::_=>exact plain rfl rfl
 | .cst _::_=>exact plain rfl rfl
 | .glob _ _::_=>exact plain rfl rfl
 | .bin _ _ _::_=>exact plain rfl rfl
 | .neg _::_=>exact plain rfl rfl
 | .not _::_=>exact plain rfl rfl
 | .and _ _::_=>exact plain rfl rfl
 | .or _ _::_=>exact plain rfl rfl
 | .ite _ _ _::_=>exact plain rfl rfl
 | .cmp _ _ _::_=>exact plain rfl rfl
 | .chain _ _ _ _ _::_=>exact plain rfl rfl
 | .tup _::_=>exact plain rfl rfl
 | .lst _::_=>exact plain rfl rfl
 | .idx _ _::_=>exact plain rfl rfl
 | .slice _ _ _::_=>exact plain rfl rfl
 | .blt _ _::_=>exact plain rfl rfl
 | .call _ _::_=>exact plain rfl rfl
 | .callD _ _ _::_=>exact plain rfl rfl
 | .comp _ _ _ _ _::_=>exact plain rfl rfl
 | .dget _ _ _::_=>exact plain rfl rfl
 | .dat _ _::_=>exact plain rfl rfl
 | .dIn _ _ _::_=>exact plain rfl rfl
 | .fld _ _::_=>exact plain rfl rfl
 | .fldL _::_=>exact plain rfl rfl
 | .inO _ _ _::_=>exact plain rfl rfl
 | .callM _ _ _::_=>exact plain rfl rfl
 | .comp2 _ _ _ _::_=>exact plain rfl rfl
 | .callV _ _::_=>exact plain rfl rfl
 | .bor _::_::_=>exact plain rfl rfl
theorem iQ{ms:List ME}{j:Nat}{ys:List PV}(h:(bu ms ρ)[j]?=some (some (.brw ys))):ρ[j]?=some (some (.brw ys))\/(ms=[.bor j]/\ρ[j]?=some (some (.own ys))):=by
 unfold bu at h
 split at h
 ·rename_i i
  split at h
  ·rename_i xs hj
   have e0:=bB hj
   have hi':i<ρ.length:=(List.getElem?_eq_some_iff.mp e0).1
   by_cases hij:i=j
   ·subst hij
    rw [ab hi']at h
    cases h
    exact .inr ⟨rfl,e0⟩
   ·rw [aa hij]at h
    exact .inl h
  ·exact .inl h
 ·exact .inl h
theorem jl{ms:List ME}{j:Nat}{ys:DD}(h:(bu ms ρ)[j]?=some (some (.brwD ys))):ρ[j]?=some (some (.brwD ys)):=by
 unfold bu at h
 split at h
 ·rename_i i
  split at h
  ·rename_i xs hj
   have e0:=bB hj
   have hi':i<ρ.length:=(List.getElem?_eq_some_iff.mp e0).1
   by_cases hij:i=j
   ·subst hij
    rw [ab hi']at h
    cases h
   ·rw [aa hij]at h
    exact h
  ·exact h
 ·exact h
theorem gu{ms:List ME}{j:Nat}{m:MV}(hb:∀xs,m≠.brw xs)(h:(bu ms ρ)[j]?=some (some m)):ρ[j]?=some (some m):=by
 unfold bu at h
 split at h
 ·rename_i i
  split at h
  ·rename_i xs hj
   have e0:=bB hj
   have hi':i<ρ.length:=(List.getElem?_eq_some_iff.mp e0).1
   by_cases hij:i=j
   ·subst hij
    rw [ab hi']at h
    cases h
    exact absurd rfl (hb xs)
   ·rw [aa hij]at h
    exact h
  ·exact h
 ·exact h
theorem lf{ms:List ME}:(bu ms ρ).length=ρ.length:=by
 unfold bu
 split
 ·split
  ·exact put_len
  ·rfl
 ·rfl
theorem nM{ms:List ME}{H1 H':Hp}{O':List Addr}{ρ':Rho}{σ':St}(st:aF K B O₀ O H1 ρ σ)(st':aF K (bm B O H1 (aS ms ρ σ)) O₀ O' H' ρ' σ')(k:bC (bm B O H1 (aS ms ρ σ)) O O' (bu ms ρ) ρ' σ σ') :
  aF K B O₀ O' H' (bf ms ρ ρ') σ'/\bC B O O' ρ (bf ms ρ ρ') σ σ':=by
 have lg:=cE (O:=O) (L:=aS ms ρ σ) st.keep
 have vis:=Db st' k
 have stay:∀a,B a≠none->a∈O->a∈O':=λa h1 h2=>k.stay a (λz=>h1 (lg.free z)) h2
 have new:∀a∈O',a∈O\/B a=none:=λa h=>(k.new a h).imp id lg.free
 have mutO:∀(j:Nat) (fs xs:List PV),ρ'[j]?=some (some (.ownO true fs xs))->(∃ys,ρ[j]?=some (some (.ownO true fs ys)))/\σ'[j]?=σ[j]?:=λj fs xs e=>by
  obtain⟨⟨d,e1⟩,e2⟩:=k.mutO j fs xs e
  exact⟨⟨d,gu (λ_ z=>by cases z) e1⟩,e2⟩
 have slot:∀(j:Nat) (m:MV),ρ'[j]?=some (some m)->(∀ys,m=.brw ys->¬ (ms=[.bor j]/\ρ[j]?=some (some (.own ys))))->∃u,σ'[j]?=some (some u)/\da K B O' H' m u:=λj m e hn=>by
  obtain⟨u,eu,q⟩:=st'.slot j m e
  refine⟨u,eu,?_⟩
  cases m with
  |val v=>exact q
  |own ys=>obtain⟨a,us,rfl,q1,q2,q3,q4⟩:=q;exact⟨a,us,rfl,q1,q2,q3,lg.free q4⟩
  |brw ys =>
   obtain⟨e1,e2⟩:=k.brw j (.brw ys) rfl e
   rcases iQ e1 with e3|e3
   ·obtain⟨w,ew,a,us,rfl,q1,q2⟩:=st.slot j _ e3
    rw [eu,ew]at e2
    cases e2
    exact⟨a,us,rfl,q1,Reps.mono vis _ q2⟩
   ·exact absurd e3 (hn ys rfl)
  |ownD ys=>obtain⟨a,rfl,q1,q3,q4⟩:=q;exact⟨a,rfl,q1,q3,lg.free q4⟩
  |ownO b fs ys=>obtain⟨a,l,rfl,q⟩:=q;exact⟨a,l,rfl,q.move (ac.refl _) (λ_ h=>h) (λ_ h=>h) q.aO q.lO (lg.free q.aB) (lg.free q.lB)⟩
  |brwO fs ys =>
   obtain⟨e1,e2⟩:=k.brw j (.brwO fs ys) rfl e
   obtain⟨w,ew,a,rfl,q1⟩:=st.slot j _ (gu (λ_ z=>by cases z) e1)
   rw [eu,ew]at e2
   cases e2
   exact⟨a,rfl,q1.move (ac.refl B) vis⟩
  |brwD ys =>
   obtain⟨e1,e2⟩:=k.brw j (.brwD ys) rfl e
   obtain⟨w,ew,a,rfl,q1⟩:=st.slot j _ (jl e1)
   rw [eu,ew]at e2
   cases e2
   exact⟨a,rfl,q1⟩
 by_cases hA:∃i xs0 xs,ms=[.bor i]/\(ρ[i]?).join=some (.own xs0)/\(ρ'[i]?).join=some (.brw xs)
 ·obtain⟨i,xs0,xs,rfl,h0,h1⟩:=hA
  have eb:bf [.bor i] ρ ρ'=put ρ' i (.own xs):=by simp [bf,h0,h1]
  rw [eb]
  have e0:=bB h0
  have e1:=bB h1
  have hi':i<ρ'.length:=(List.getElem?_eq_some_iff.mp e1).1
  obtain⟨el,es⟩:=k.brw i (.brw xs) rfl e1
  have exs:xs=xs0:=by
   rcases iQ el with e3|⟨_,e3⟩
   ·rw [e0]at e3;cases e3
   ·rw [e0]at e3;cases e3;rfl
  subst exs
  obtain⟨w,ew,a,us,rfl,q1,q2,q3,q4⟩:=st.slot i _ e0
  have eL:aS [.bor i] ρ σ=[a]:=by simp [aS,h0,ew]
  have ga:bm B O H1 (aS [.bor i] ρ σ) a=some (.lst us):=by
   unfold bm
   rw [eL,if_pos q3,if_pos (by simp)]
   exact q1
  have other:∀(j:Nat) (ys:MV) (ad:Addr),ρ'[j]?=some (some ys)->db ys=true->σ'[j]?=some (some (.ref ad))->ad≠a:=λj ys ad h1 oy h2 z=>by
   obtain⟨u,eu,qq⟩:=st'.slot j _ h1
   rw [h2]at eu
   cases eu
   cases ys with
   |own ys =>
    obtain⟨b,_,e2,_,_,_,q⟩:=qq
    cases e2
    rw [z,ga]at q
    cases q
   |ownD ys =>
    obtain⟨b,e2,_,_,q⟩:=qq
    cases e2
    rw [z,ga]at q
    cases q
   |ownO _ _ _ =>
    obtain⟨b,l,e2,q⟩:=qq
    cases e2
    have q:=q.aB
    rw [z,ga]at q
    cases q
   |brwO _ _=>cases oy
   |val _=>cases oy
   |brw _=>cases oy
   |brwD _=>cases oy
  refine⟨⟨lg.trans st'.keep,st'.here,st'.sub,st.old,by rw [put_len];exact st'.len,λj m e=>?_,λc d ps qs ad hcd e1 e2 p1 p2 e3 e4=>?_
   ,c7 st'.inn (λj mo e l0=>by
    have hj:i≠j:=λz=>by subst z;rw [ab hi']at e;cases e;cases l0
    rw [aa hj]at e
    exact⟨⟨mo,e,l0⟩,rfl,λ_ _ _ h=>h⟩) λj m c e _ o ec=>by
    by_cases hj:i=j
    ·subst hj
     rw [es,ew]at ec
     cases ec
     refine .inr λk' m1 a' l' f1 f0 f2 f3 z=>?_
     obtain⟨u,e3,q⟩:=st'.slot k' _ f1
     rw [f2]at e3
     cases e3
     cases m1<;>try (cases f0;done)
     obtain⟨a2,l2,e4,q⟩:=q
     cases e4
     have e6:=q.l
     rw [e6]at f3
     cases f3
     have:=q.lB
     rw [<- z,ga]at this
     cases this
    ·rw [aa hj]at e
     exact .inl ⟨m,e,o,ec⟩
   ⟩,⟨stay,new,λj ys hbm e=>?_,by rw [put_len];exact k.len.trans lf
   ,λj fs xs e=>by
    have hj:i≠j:=λz=>by subst z;rw [ab hi']at e;cases e
    rw [aa hj]at e
    exact mutO j fs xs e
   ⟩⟩
  ·by_cases hij:i=j
   ·subst hij
    rw [ab hi']at e
    cases e
    refine⟨_,by rw [es];exact ew,a,us,rfl,st'.keep _ _ ga,Reps.mono vis _ q2,k.stay a (by rw [ga];simp) q3,q4⟩
   ·rw [aa hij]at e
    exact slot j m e λys _ ⟨z,_⟩=>hij (by cases z;rfl)
  ·by_cases hc:i=c
   ·subst hc
    rw [es,ew]at e3
    cases e3
    rw [aa hcd]at e2
    exact other d qs _ e2 p2 e4 rfl
   ·rw [aa hc]at e1
    by_cases hd:i=d
    ·subst hd
     rw [es,ew]at e4
     cases e4
     exact other c ps _ e1 p1 e3 rfl
    ·rw [aa hd]at e2
     exact st'.apart c d ps qs ad hcd e1 e2 p1 p2 e3 e4
  ·by_cases hij:i=j
   ·subst hij
    rw [ab hi']at e
    cases e
    cases hbm
   ·rw [aa hij]at e
    obtain⟨e1,e2⟩:=k.brw j ys hbm e
    cases ys with
    |brw ys =>
     rcases iQ e1 with e3|⟨z,_⟩
     ·exact⟨e3,e2⟩
     ·cases z;exact absurd rfl hij
    |brwD ys=>exact⟨jl e1,e2⟩
    |val _=>cases hbm
    |own _=>cases hbm
    |ownD _=>cases hbm
    |ownO _ _ _=>cases hbm
    |brwO fs ys=>exact⟨gu (λ_ z=>by cases z) e1,e2⟩
 ·have eb:bf ms ρ ρ'=ρ':=by
   unfold bf
   split
   ·rename_i i
    split
    ·rename_i xs0 xs h0 h1
     exact absurd ⟨i,xs0,xs,rfl,h0,h1⟩ hA
    ·rfl
   ·rfl
  rw [eb]
  have no:∀(j:Nat) (ys:List PV),ρ'[j]?=some (some (.brw ys))->¬ (ms=[.bor j]/\ρ[j]?=some (some (.own ys))):=λj ys e ⟨h1,h2⟩=>hA ⟨j,ys,ys,h1,by rw [h2];rfl,by rw [e];rfl⟩
  refine⟨⟨lg.trans st'.keep,st'.here,st'.sub,st.old,st'.len,λj m e=>slot j m e λys z=>no j ys (by rw [e,z]),st'.apart
   ,st'.inn
   ⟩,⟨stay,new,λj ys hbm e=>?_,k.len.trans lf
   ,mutO
   ⟩⟩
  obtain⟨e1,e2⟩:=k.brw j ys hbm e
  cases ys with
  |brw ys =>
   rcases iQ e1 with e3|e3
   ·exact⟨e3,e2⟩
   ·exact absurd e3 (no j ys e)
  |brwD ys=>exact⟨jl e1,e2⟩
  |val _=>cases hbm
  |own _=>cases hbm
  |ownD _=>cases hbm
  |ownO _ _ _=>cases hbm
  |brwO fs ys=>exact⟨gu (λ_ z=>by cases z) e1,e2⟩
end
section
variable{X:Cx}{T:Tab}{k:Nat}{cal:Cal}
noncomputable def yn(K:PySem.W.Frag)(n:Nat)(g:TG)(tk:PV->Rho->Option Rho):Prop :=
 ∀(B:Hp) (O₀ O:List Addr) (H:Hp) (ρ ρ':Rho) (σ:St) (x:PV) (u:V) (Q:St->Hp->Prop),σ.length=n->aF K B O₀ O H ρ σ->Rep K (af H O) x u->tk x ρ=some ρ' ->
  (∀σ',aF K B O₀ O H ρ' σ'->bC B O O ρ ρ' σ σ'->Q σ' H)->g u σ H Q
theorem vW{K:PySem.W.Frag}{n:Nat}{ms:List ME}{g:TG}{tk:PV->Rho->Option Rho}{body:List MS}{D:eN}{σ:St}{H1:Hp}{J:It}(hn:σ.length=n)(hg:yn K n g tk){B:Hp}{O₀ O:List Addr}{ρ:Rho}{xs:List PV}(st1:aF K B O₀ O H1 ρ σ)(it:nF K J xs (af H1 O) (bm B O H1 (aS ms ρ σ)))
  (q:fk K B O₀ O ρ σ D ((bx (λx ρ'=>fN (tk x ρ') λρ''=>exs cal body ρ'') xs (bu ms ρ)).back ms ρ)):kf (λ_ _ R=>R J H1) g (tSs K cal body) D σ H1:=by
 obtain⟨stL,_⟩:=ym (ms:=ms) st1
 refine⟨λi m σ' H'=>m=xs.length-i/\i<=xs.length/\∃ρ' O',aF K (bm B O H1 (aS ms ρ σ)) O₀ O' H' ρ' σ'/\bC (bm B O H1 (aS ms ρ σ)) O O' (bu ms ρ) ρ' σ σ' /\
  bx (λx ρ'=>fN (tk x ρ') λρ''=>exs cal body ρ'') (xs.drop i) ρ'=bx (λx ρ'=>fN (tk x ρ') λρ''=>exs cal body ρ'') xs (bu ms ρ),⟨xs.length,by simp,Nat.zero_le _,bu ms ρ,O,stL,.refl,by simp⟩,?_⟩
 rintro i m σ' H' ⟨rfl,hi,ρ',O',st',k',eq⟩
 by_cases hlt:i<xs.length
 ·right
  have ex:xs[i]?=some xs[i]:=List.getElem?_eq_getElem hlt
  refine⟨it.go i _ H' st'.keep ex,λσ2 H2=>∃m',m'<xs.length-i/\(m'=xs.length-(i+1)/\i+1<=xs.length/\∃ρ' O',aF K (bm B O H1 (aS ms ρ σ)) O₀ O' H2 ρ' σ2/\bC (bm B O H1 (aS ms ρ σ)) O O' (bu ms ρ) ρ' σ σ2 /\
   bx (λx ρ'=>fN (tk x ρ') λρ''=>exs cal body ρ'') (xs.drop (i+1)) ρ'=bx (λx ρ'=>fN (tk x ρ') λρ''=>exs cal body ρ'') xs (bu ms ρ)),λσ2 H2 z=>z,λu H2 y=>?_⟩
  obtain⟨s2,hr⟩:=it.yld i _ H' u H2 st'.keep ex y
  have vis:=Db st' k'
  have hx:Rep K (af H2 O') xs[i] u:=hr O' st'.here (vis.trans (ag s2))
  rw [List.drop_eq_getElem_cons hlt,bx]at eq
  cases et:tk xs[i] ρ' with
  |none =>
   rw [et]at eq
   rw [<- eq]at q
   exact(show False from q).elim
  |some ρ2 =>
   rw [et,show fN (some ρ2) (λρ''=>exs cal body ρ'')=exs cal body ρ2 from rfl]at eq
   have hlen:σ'.length=n:=by rw [<- st'.len,k'.len,lf,st1.len];exact hn
   refine hg _ O₀ O' H2 ρ' ρ2 σ' _ u _ hlen (st'.mono s2) hx et λσ2 st2 k2=>?_
   refine⟨_,O₀,O',ρ2,st2,?_⟩
   have kk:=k'.trans k2
   cases er:exs cal body ρ2 with
   |next ρ3 =>
    rw [er]at eq
    exact λσ3 H3 O3 st3 k3=>⟨_,by omega,rfl,hlt,ρ3,O3,st3,kk.trans k3,eq⟩
   |cont ρ3 =>
    rw [er]at eq
    exact λσ3 H3 O3 st3 k3=>⟨_,by omega,rfl,hlt,ρ3,O3,st3,kk.trans k3,eq⟩
   |brk ρ3 =>
    rw [er]at eq
    rw [<- eq]at q
    exact λσ3 H3 O3 st3 k3=>by
     obtain⟨stb,kb⟩:=nM st1 st3 (kk.trans k3)
     exact q σ3 H3 O3 stb kb
   |ret v =>
    rw [er]at eq
    rw [<- eq]at q
    exact λw H3 s3 r=>q w H3 ((cE st1.keep).trans s3) r
   |retT v ρ3 =>
    rw [er]at eq
    rw [<- eq]at q
    exact λσ3 H3 O3 st3 k3=>by
     obtain⟨stb,kb⟩:=nM st1 st3 (kk.trans k3)
     exact q σ3 H3 O3 stb kb
   |retF ys =>
    rw [er]at eq
    rw [<- eq]at q
    exact λp us H3 s3 hp he r=>q p us H3 ((cE st1.keep).trans s3) ((cE st1.keep).free hp) he r
   |bad =>
    rw [er]at eq
    rw [<- eq]at q
    exact(show False from q).elim
 ·left
  have ei:i=xs.length:=by omega
  subst ei
  rw [List.drop_length,bx]at eq
  rw [<- eq]at q
  obtain⟨stb,kb⟩:=nM st1 st' k'
  exact⟨it.stop H' st'.keep,q σ' H' O' stb kb⟩
theorem vX{K:PySem.W.Frag}{n:Nat}{k':Sk}{ms:List ME}{g:TG}{tk:PV->Rho->Option Rho}{body:List MS}{D:eN}{σ:St}{H:Hp}(hn:σ.length=n)(hg:yn K n g tk){B:Hp}{O₀ O:List Addr}{ρ:Rho}{vs xs:List PV}(st:aF K B O₀ O H ρ σ)(e1:evs cal ms ρ=some vs)(e2:bF k' vs=some xs)
  (q:fk K B O₀ O ρ σ D ((bx (λx ρ'=>fN (tk x ρ') λρ''=>exs cal body ρ'') xs (bu ms ρ)).back ms ρ)):kf (tW K cal k' ms) g (tSs K cal body) D σ H:=by
 exact⟨B,O₀,O,ρ,vs,xs,st,e1,e2,λJ H1 s1 it=>vW hn hg (st.mono s1) it q⟩
theorem yo{K:PySem.W.Frag}{n i:Nat}(hi:i<n):yn K n (bT i) (λx ρ=>some (put ρ i (.val x))):=by
 intro B O₀ O H ρ ρ' σ x u Q hn st r e q
 cases e
 obtain⟨st',k'⟩:=st.store (i:=i) (by omega) r
 exact q _ st' k'
theorem Bc{i:Nat}{k':Sk}{src:List ME}{body:List MS}{x:Str}{px pos:Pos}{it:Expr}{b:List Stmt}(g:Gf X T k cal)(d:Df X)(hi:X.N[i]?=some x)(hx:Loc X.env.scope x)(hw:PI X (.Name x px) it (tW X.K cal k' src))(hns:dO it=true)(hb:PSs X b (tSs X.K cal body)) :
  PS X (.For (.Name x px) it b [] pos) (tS X.K cal (.for1 i k' src body)):=by
 refine PS.imp' (iY d.own g.calm hw (dn d.nd hi hx (.inl (d.fn x))) hb (by intro v;cases it<;>first|rfl|(simp [dO]at hns))) λD σ H hl q=>?_
 obtain⟨B,O₀,O,ρ,st,q⟩:=q
 rw [ex]at q
 cases e:(evs cal src ρ).bind (bF k') with
 |none=>rw [e]at q;exact(show False from q).elim
 |some xs =>
  rw [e]at q
  simp only [Option.bind_eq_some_iff]at e
  obtain⟨vs,e1,e2⟩:=e
  exact vX (tk:=λx ρ=>some (put ρ i (.val x))) rfl (yo (ltN hi hl)) st e1 e2 q
end
end MM
namespace MM
open PySem PySem.Spec PyProof.Rows L2
noncomputable def lj:List Nat->TGs
 | []=>t6
 |i::is=>nV (bT i) (lj is)
section
variable{X:Cx}{T:Tab}{k:Nat}{cal:Cal}
theorem lq:∀{is:List Nat}{ts:List Expr},cX X.N X.env.scope is ts=true->(assignEach ts X.env).length=is.length/\(assignEach ts X.env).findIdx? (·.1)=none
 | [],[],_=>⟨rfl,rfl⟩
 | [],_::_,h=>by cases h
 | _::_,[],h=>by cases h
 |i::is,e::ts,h=>by
  cases e<;>first|(cases h;done)|skip
  simp only [nz,Bool.and_eq_true]at h
  rename_i x p
  obtain⟨h1,h2⟩:=lq h.2
  refine⟨?_,?_⟩
  ·show((false,assign (.Name x p) X.env)::assignEach ts X.env).length=_
   simp [h1]
  ·show((false,assign (.Name x p) X.env)::assignEach ts X.env).findIdx? (·.1)=none
   rw [List.findIdx?_cons]
   simp [h2]
theorem mK(d:Df X):∀{is:List Nat}{ts:List Expr},cX X.N X.env.scope is ts=true->PGs X ts (lj is)
 | [],[],_=>qz
 | [],_::_,h=>by cases h
 | _::_,[],h=>by cases h
 |i::is,e::ts,h=>by
  cases e<;>first|(cases h;done)|skip
  simp only [nz,Bool.and_eq_true,beq_iff_eq]at h
  rename_i x p
  exact ke (dn d.nd h.1.1.1 (fj h.1.1.2) (.inl (d.fn x))) (mK d h.2) rfl
theorem o5:∀{is:List Nat}{ts:List Expr},cX X.N X.env.scope is ts=true->∀i∈is,i<X.N.length
 | [],[],_=>λi hi=>by simp at hi
 | [],_::_,h=>by cases h
 | _::_,[],h=>by cases h
 |i::is,e::ts,h=>λj hj=>by
  cases e<;>first|(cases h;done)|skip
  simp only [nz,Bool.and_eq_true,beq_iff_eq]at h
  rcases List.mem_cons.mp hj with rfl|hj
  ·exact(List.getElem?_eq_some_iff.mp h.1.1.1).1
  ·exact o5 h.2 j hj
theorem rB{K:PySem.W.Frag}:∀{is:List Nat}{vs:List PV}{us:List V}{B:Hp}{O₀ O:List Addr}{H:Hp}{ρ ρ':Rho}{σ:St}{Q:St->Hp->Prop},(∀i∈is,i<σ.length)->aF K B O₀ O H ρ σ->Reps K (af H O) vs us->lV is vs ρ=some ρ' ->
  (∀σ',aF K B O₀ O H ρ' σ'->bC B O O ρ ρ' σ σ'->Q σ' H)->lj is us σ H Q
 | [],[],us,_,_,_,_,_,_,_,_,_,st,r,e,q=>by
  rw [Reps]at r
  subst r
  cases e
  exact⟨rfl,q _ st .refl⟩
 | [],_::_,_,_,_,_,_,_,_,_,_,_,_,_,e,_=>by simp [lV]at e
 | _::_,[],_,_,_,_,_,_,_,_,_,_,_,_,e,_=>by simp [lV]at e
 |i::is,v::vs,us,B,O₀,O,H,ρ,ρ',σ,Q,hi,st,r,e,q=>by
  rw [Reps]at r
  obtain⟨u,r',rfl,r1,r2⟩:=r
  rw [lV]at e
  obtain⟨st1,k1⟩:=st.store (i:=i) (hi i (.head _)) r1
  refine⟨u,r',rfl,?_⟩
  show lj is r' (σ.set i (some u)) H Q
  exact rB (λj hj=>by rw [List.length_set];exact hi j (.tail _ hj)) st1 r2 e λσ' st' k'=>q σ' st' (k1.trans k')
theorem Bd{K:PySem.W.Frag}{n:Nat}{is:List Nat}(hi:∀i∈is,i<n):yn K n (zH K is.length (lj is)) (kY is):=by
 intro B O₀ O H ρ ρ' σ x u Q hn st r e q
 cases x with
 |tup vs =>
  rw [Rep]at r
  obtain⟨a,us,rfl,sq,rs⟩:=r
  have hl:∀{is:List Nat}{vs:List PV}{ρ ρ':Rho},lV is vs ρ=some ρ'->vs.length=is.length:=by
   intro is
   induction is with
   |nil=>intro vs ρ ρ' h;cases vs<;>simp [lV]at h ⊢
   |cons i is ih=>intro vs ρ ρ' h;cases vs<;>simp [lV]at h ⊢;exact ih h
  exact⟨a,us,rfl,(aU H O).seqT (cN sq),by rw [<- rs.length];exact hl e,rB (λi h=>by rw [hn];exact hi i h) st rs e q⟩
 | _=>cases e
theorem Be{is:List Nat}{k':Sk}{src:List ME}{body:List MS}{ts:List Expr}{j:Nat}{tp pos:Pos}{it:Expr}{b:List Stmt}(g:Gf X T k cal)(d:Df X)(hi:cX X.N X.env.scope is ts=true)(hw:PI X (.Tuple ts j tp) it (tW X.K cal k' src))(hns:dO it=true)(hb:PSs X b (tSs X.K cal body)) :
  PS X (.For (.Tuple ts j tp) it b [] pos) (tS X.K cal (.forT is k' src body)):=by
 obtain⟨h1,h2⟩:=lq hi
 refine PS.imp' (iY d.own g.calm hw (t7 g.calm (mK d hi) h1 h2) hb (by intro v;cases it<;>first|rfl|(simp [dO]at hns))) λD σ H hl q=>?_
 obtain⟨B,O₀,O,ρ,st,q⟩:=q
 rw [ex]at q
 cases e:(evs cal src ρ).bind (bF k') with
 |none=>rw [e]at q;exact(show False from q).elim
 |some xs =>
  rw [e]at q
  simp only [Option.bind_eq_some_iff]at e
  obtain⟨vs,e1,e2⟩:=e
  exact vX (tk:=kY is) hl (Bd (o5 hi)) st e1 e2 q
theorem rC{i:Nat}{me:ME}{x:Str}{v:Expr}{px pos:Pos}(g:Gf X T k cal)(d:Df X)(hi:X.N[i]?=some x)(hx:Loc X.env.scope x)(hc:chk T me X.N X.env.scope v=true)(hs:mD X.env.scope x px v me=true):∃t,PS X (.Assign [.Name x px] v pos) (nW t (bT i))/\(∀σ H Q,tF X.K cal me σ H Q->t σ H Q)/\fZ me=true:=by
 unfold mD at hs
 rw [Bool.and_eq_true]at hs
 obtain⟨hs,hk⟩:=hs
 have hl:=al hs
 obtain⟨c,w,_⟩:=hl
 obtain rfl:=nu w
 cases me with
 |comp2 _ _ _ _=>cases hk
 |comp k' src js cond elt =>
  obtain⟨e,y,py,it,ifs,scope,cpos,e0,h⟩:=jh hc
  rw [e0]at hs ⊢
  simp only [Bool.and_eq_true,Bool.not_eq_true']at h
  obtain⟨⟨⟨⟨h1,h2⟩,h3⟩,h4⟩,h5⟩:=h
  have hw:=jk (tg:=.Name y py) (λz=>by cases z) g h2 (λxs hxs=>⟨sounds src g hxs,a7 hxs⟩) (λm x hm hx=>match src,hm with|[m'],rfl=>(am m' g (bn hx).1.1).1)
  exact⟨_,pU d.nd hi hx (jj h1) g.calm hw.1 (λs₁ H₁ C fp=>nI h3 λc hc=>(am cond (g.blk y (bp X.N js) scope s₁ H₁ C fp) hc).2) (λs₁ H₁ C fp=>(am elt (g.blk y (bp X.N js) scope s₁ H₁ C fp) h4).1) (sY d hs) (by have:=hw.2;intro v;cases it<;>first|rfl|(simp [dO]at this)) (.inl (d.fn x)),
   λσ H Q q=>qe.comp_go h5 q,rfl⟩
 | _=>cases (show false=true from hc)
theorem Dc{me:ME}(hf:fZ me=true){σ:St}{H:Hp}{Q:VK}{K:PySem.W.Frag}(q:tE K cal me σ H Q):tF K cal me σ H Q:=by
 obtain⟨B,O₀,O,ρ,v,st,e1,q⟩:=q
 have hv:∃xs,v=.lst xs:=by
  cases me with
  |lst es =>
   rw [ev,Option.bind_eq_some_iff]at e1
   obtain⟨vs,_,hv⟩:=e1
   split at hv
   ·cases hv;exact⟨_,rfl⟩
   ·cases hv
  |comp _ _ _ _ _=>exact oZ ρ v e1
  |blt b es=>cases b<;>first|exact eG (.inl rfl) ρ v e1|exact eG (.inr (.inl rfl)) ρ v e1|exact eG (.inr (.inr (.inl rfl))) ρ v e1|exact eG (.inr (.inr (.inr (.inl rfl)))) ρ v e1|exact eG (.inr (.inr (.inr (.inr rfl)))) ρ v e1|(simp [fZ]at hf)
  | _=>simp [fZ]at hf
 obtain⟨xs,rfl⟩:=hv
 exact⟨B,O₀,O,ρ,xs,st,e1,λp us H' s hp he r=>q _ _ s (rj st.here hp he r)⟩
end
section
variable{T:Tab}{N:List Str}{sc:Scope}
theorem yp{i:Nat}{e:ME}{s:Stmt}(h:eR T N sc (.set i e) s=true):∃x px v pos,s=.Assign [.Name x px] v pos/\(N[i]? == some x&&fc sc x&&ay x&&chk T e N sc v&&!aI e&&(cf v || mD sc x px v e))=true:=by
 obtain⟨q,e1,h1⟩:=al h
 obtain⟨pos,rfl⟩:=jV e1
 exact⟨_,_,_,_,rfl,h1⟩
theorem yq{i:Nat}{e:ME}{s:Stmt}(h:eR T N sc (.setOwn i e) s=true):∃x px v pos,s=.Assign [.Name x px] v pos/\(N[i]? == some x&&fc sc x&&ay x&&chk T e N sc v&&fZ e&&(cf v || mD sc x px v e))=true:=by
 obtain⟨q,e1,h1⟩:=al h
 obtain⟨pos,rfl⟩:=jV e1
 exact⟨_,_,_,_,rfl,h1⟩
theorem qi {i:Nat}{e:ME}{s:Stmt} (h:eR T N sc (.append i e) s=true):∃x p m ap v cp pos,s=.Expr (.Call (.Attribute (.Name x p) m ap) [v] [] cp) pos/\(ar N sc i x&&m == ("append":Str)&&chk T e N sc v&&!aI e&&aq v&&ap.endLine == cp.line)=true:=by
 obtain⟨q,e1,h1⟩:=al h
 obtain⟨v,e2,h2⟩:=al h1
 obtain⟨p,pos,rfl⟩:=qV e1
 rw [cA e2]
 exact⟨_,_,_,_,_,_,_,rfl,h2⟩
theorem yr {i:Nat}{es:List ME}{s:Stmt} (h:eR T N sc (.mkO i es) s=true):∃x px y py args cp pos,s=.Assign [.Name x px] (.Call (.Name y py) args [] cp) pos/\(N[i]? == some x&&fc sc x&&ay x&&y == ("Table":Str)&&glB sc y&&chks T es N sc args&&(es.all λm=>!aI m)&&!args.isEmpty)=true:=by
 obtain⟨q,e1,h1⟩:=al h
 obtain⟨c,e2,h2⟩:=al h1
 obtain⟨pos,rfl⟩:=jV e1
 obtain⟨p,cp,e3⟩:=gq e2
 rw [e3]
 exact⟨_,_,_,_,_,_,_,rfl,h2⟩
theorem vY {i:Nat}{e:ME}{s:Stmt} (h:eR T N sc (.appO i e) s=true):∃x p f fp m ap v cp pos,s=.Expr (.Call (.Attribute (.Attribute (.Name x p) f fp) m ap) [v] [] cp) pos/\(ar N sc i x&&f == ("taken":Str)&&m == ("append":Str)&&chk T e N sc v&&!aI e&&aq v&&ap.endLine == cp.line)=true:=by
 obtain⟨q,e1,h1⟩:=al h
 obtain⟨v,e2,h2⟩:=al h1
 obtain⟨p,fp,pos,rfl⟩:=xX e1
 rw [cA e2]
 exact⟨_,_,_,_,_,_,_,_,_,rfl,h2⟩
theorem vZ{e:ME}{s:Stmt}(h:eR T N sc (.retT e) s=true):∃v pos,s=.Return (some v) pos/\(chk T e N sc v&&!aI e)=true:=by
 obtain⟨v,e1,h1⟩:=al h
 obtain⟨pos,rfl⟩:=nA e1
 exact⟨v,pos,rfl,h1⟩
theorem qj {i:Nat}{e:ME}{s:Stmt} (h:eR T N sc (.extend i e) s=true):∃x p m ap v cp pos,s=.Expr (.Call (.Attribute (.Name x p) m ap) [v] [] cp) pos/\(ar N sc i x&&m == ("extend":Str)&&chk T e N sc v&&aq v&&ap.endLine == cp.line)=true:=by
 obtain⟨q,e1,h1⟩:=al h
 obtain⟨v,e2,h2⟩:=al h1
 obtain⟨p,pos,rfl⟩:=qV e1
 rw [cA e2]
 exact⟨_,_,_,_,_,_,_,rfl,h2⟩
theorem v2{i:Nat}{k e:ME}{s:Stmt}(h:eR T N sc (.dput i k e) s=true):∃x p s' sp v pos,s=.Assign [.Subscript (.Name x p) s' sp] v pos/\(ar N sc i x&&chk T k N sc s'&&cB s'&&chk T e N sc v&&!aI e&&cf v)=true:=by
 obtain⟨q,e1,h1⟩:=al h
 obtain⟨p,sp,pos,rfl⟩:=xV e1
 exact⟨_,_,_,_,_,_,rfl,h1⟩
theorem v3{m:Bool}{i:Nat}{s:Stmt}(h:eR T N sc (.newD m i) s=true):∃x p dp pos,s=.Assign [.Name x p] (.Dict [] [] dp) pos/\(N[i]? == some x&&fc sc x&&ay x)=true:=by
 obtain⟨q,e1,h1⟩:=al h
 rw [Bool.and_eq_true]at h1
 obtain⟨pos,rfl⟩:=jV e1
 obtain⟨p,e2⟩:=vq h1.1
 rw [e2]
 exact⟨_,_,_,_,rfl,h1.2⟩
theorem yt{c:ME}{a b:List MS}{s:Stmt}(h:eR T N sc (.ite c a b) s=true):∃t x y pos,s=.If t x y pos/\(chk T c N sc t&&chkSs T N sc a x&&chkSs T N sc b y)=true:=by
 cases s with
 |If t x y pos=>exact⟨t,x,y,pos,rfl,h⟩
 | _=>cases (show false=true from h)
theorem v4{i:Nat}{k:Sk}{src:List ME}{body:List MS}{s:Stmt}(h:eR T N sc (.for1 i k src body) s=true):∃x px it b pos,s=.For (.Name x px) it b [] pos/\(N[i]? == some x&&fc sc x&&ay x&&k6 sc false (λxs=>chks T src N sc xs) k it&&chkSs T N sc body b)=true:=by
 simp only [xY]at h
 split at h<;>first|(cases h;done)|(rename_i heq;cases heq;exact⟨_,_,_,_,_,rfl,h⟩)|(injections;done)|(injections;subst_vars;exact⟨_,_,_,_,_,rfl,h⟩)
theorem v5{is:List Nat}{k:Sk}{src:List ME}{body:List MS}{s:Stmt}(h:eR T N sc (.forT is k src body) s=true):∃ts j tp it b pos,s=.For (.Tuple ts j tp) it b [] pos/\(cX N sc is ts&&k6 sc true (λxs=>chks T src N sc xs) k it&&chkSs T N sc body b)=true:=by
 simp only [xZ]at h
 split at h<;>first|(cases h;done)|(rename_i heq;cases heq;exact⟨_,_,_,_,_,_,rfl,h⟩)|(injections;done)|(injections;subst_vars;exact⟨_,_,_,_,_,_,rfl,h⟩)
theorem rD{e:ME}{s:Stmt}(h:eR T N sc (.ret e) s=true):∃v pos,s=.Return (some v) pos/\(chk T e N sc v&&!aI e)=true:=by
 obtain⟨v,e1,h1⟩:=al h
 obtain⟨pos,rfl⟩:=nA e1
 exact⟨_,_,rfl,h1⟩
theorem qk{i:Nat}{s:Stmt}(h:eR T N sc (.retOwn i) s=true):∃x p pos,s=.Return (some (.Name x p)) pos/\(ar N sc i x)=true:=by
 obtain⟨v,e1,h1⟩:=al h
 obtain⟨x,e2,h2⟩:=al h1
 obtain⟨pos,rfl⟩:=nA e1
 obtain⟨p,rfl⟩:=vp e2
 exact⟨_,_,_,rfl,h2⟩
end
theorem s_{T:Tab}{k:Nat}{cal:Cal}{X:Cx}(g:Gf X T k cal)(d:Df X){i:Nat}{e:ME}{s:Stmt}(h:eR T X.N X.env.scope (.set i e) s=true):PS X s (tS X.K cal (.set i e)):=by
 obtain⟨x,px,v,pos,rfl,hc⟩:=yp h
 simp only [Bool.and_eq_true,Bool.or_eq_true,beq_iff_eq,Bool.not_eq_true']at hc
 obtain⟨⟨⟨⟨⟨h1,h2⟩,h3⟩,h4⟩,h5⟩,h6⟩:=hc
 rcases h6 with h6|h6
 ·exact C7 d h1 (fj h2) (am e g h4).1 h5 h6
 ·obtain⟨t,p,hp,hf⟩:=rC (pos:=pos) g d h1 (fj h2) h4 h6
  exact PS.imp' p λD σ H hl q=>hp _ _ _ (Dc hf (vP (ltN h1 hl) h5 q))
noncomputable def Bf:MS->Bool
 | .freeze _=>true
 | _=>false
mutual
theorem Bg{T:Tab}{k:Nat}{cal:Cal}{X:Cx}(g:Gf X T k cal)(d:Df X):∀(m:MS) (s:Stmt),eR T X.N X.env.scope m s=true->PS X s (tS X.K cal m)
 | .set i e,s,h=>s_ g d h
 | .setOwn i e,s,h=>by
  obtain⟨x,px,v,pos,rfl,hc⟩:=yq h
  simp only [Bool.and_eq_true,Bool.or_eq_true,beq_iff_eq]at hc
  obtain⟨⟨⟨⟨⟨h1,h2⟩,h3⟩,h4⟩,h5⟩,h6⟩:=hc
  rcases h6 with h6|h6
  ·exact C8 d h1 (fj h2) (nJ g h4 h5) h6
  ·obtain⟨t,p,hp,hf⟩:=rC (pos:=pos) g d h1 (fj h2) h4 h6
   exact PS.imp' p λD σ H hl q=>hp _ _ _ (vQ (ltN h1 hl) q)
 | .append i e,s,h=>by
  obtain⟨x,p,m,ap,v,cp,pos,rfl,hc⟩:=qi h
  simp only [Bool.and_eq_true,beq_iff_eq,Bool.not_eq_true']at hc
  obtain⟨⟨⟨⟨⟨h1,rfl⟩,h3⟩,h4⟩,h5⟩,h6⟩:=hc
  exact vR (am e g h3).1 h1 h4 h5 (beq_iff_eq.mpr h6)
 | .extend i e,s,h=>by
  obtain⟨x,p,m,ap,v,cp,pos,rfl,hc⟩:=qj h
  simp only [Bool.and_eq_true,beq_iff_eq]at hc
  obtain⟨⟨⟨⟨h1,rfl⟩,h3⟩,h5⟩,h6⟩:=hc
  exact vS (am e g h3).1 h1 h5 (beq_iff_eq.mpr h6)
 | .setIdx _ _ _,s,h=>absurd (show false=true from h) Bool.false_ne_true
 | .unpack _ _,s,h=>absurd (show false=true from h) Bool.false_ne_true
 | .expr _,s,h=>absurd (show false=true from h) Bool.false_ne_true
 | .ite c a b,s,h=>by
  obtain⟨t,x,y,pos,rfl,hc⟩:=yt h
  simp only [Bool.and_eq_true]at hc
  exact EF (am c g hc.1.1).2 (soundSs g d a x hc.1.2) (soundSs g d b y hc.2)
 | .for1 i k' src body,s,h=>by
  obtain⟨x,px,it,b,pos,rfl,hc⟩:=v4 h
  simp only [Bool.and_eq_true,beq_iff_eq]at hc
  obtain⟨⟨⟨⟨h1,h2⟩,h3⟩,h4⟩,h5⟩:=hc
  have hw:=jk (tg:=.Name x px) (λz=>by cases z) g h4 (λxs hxs=>⟨sounds src g hxs,a7 hxs⟩) (λm x hm hx=>match src,hm with|[m'],rfl=>(am m' g (by simp only [chks,Bool.and_eq_true]at hx;exact hx.1.1)).1)
  exact Bc g d h1 (fj h2) hw.1 hw.2 (soundSs g d body b h5)
 | .forT is k' src body,s,h=>by
  obtain⟨ts,j,tp,it,b,pos,rfl,hc⟩:=v5 h
  simp only [Bool.and_eq_true]at hc
  obtain⟨⟨h1,h4⟩,h5⟩:=hc
  have hw:=jk (tg:=.Tuple ts j tp) (λ_=>⟨_,_,_,rfl⟩) g h4 (λxs hxs=>⟨sounds src g hxs,a7 hxs⟩) (λm x hm hx=>match src,hm with|[m'],rfl=>(am m' g (by simp only [chks,Bool.and_eq_true]at hx;exact hx.1.1)).1)
  exact Be g d h1 hw.1 hw.2 (soundSs g d body b h5)
 | .while _ _ _,s,h=>absurd (show false=true from h) Bool.false_ne_true
 | .ret e,s,h=>by
  obtain⟨v,pos,rfl,hc⟩:=rD h
  simp only [Bool.and_eq_true,Bool.not_eq_true']at hc
  exact C9 (am e g hc.1).1 hc.2
 | .mkO i es,s,h=>by
  obtain⟨x,px,y,py,args,cp,pos,rfl,hc⟩:=yr h
  simp only [Bool.and_eq_true,beq_iff_eq]at hc
  obtain⟨⟨⟨⟨⟨⟨⟨h1,h2⟩,h3⟩,h4⟩,h5⟩,h6⟩,h7⟩,h8⟩:=hc
  subst h4
  cases args with
  |nil=>cases h8
  |cons e args=>exact Da g d h1 (fj h2) h5 (sounds es g h6) h7 (a7 h6).1 (a7 h6).2
 | .appO i e,s,h=>by
  obtain⟨x,p,f,fp,m,ap,v,cp,pos,rfl,hc⟩:=vY h
  simp only [Bool.and_eq_true,Bool.not_eq_true']at hc
  obtain⟨⟨⟨⟨⟨⟨h1,h2⟩,h3⟩,h4⟩,h5⟩,h6⟩,h7⟩:=hc
  rw [eq_of_beq h2,eq_of_beq h3]
  exact Bb g (am e g h4).1 h1 h5 h6 h7
 | .retT e,s,h=>by
  obtain⟨v,pos,rfl,hc⟩:=vZ h
  simp only [Bool.and_eq_true,Bool.not_eq_true']at hc
  exact Ba (am e g hc.1).1 hc.2
 | .takeO _ _ _ _,s,h=>(by cases h)
 | .retF _,s,h=>absurd (show false=true from h) Bool.false_ne_true
 | .setCall _ _ _,s,h=>absurd (show false=true from h) Bool.false_ne_true
 | .clear _,s,h=>absurd (show false=true from h) Bool.false_ne_true
 | .retOwn i,s,h=>by
  obtain⟨x,p,pos,rfl,hc⟩:=qk h
  exact vT hc
 | .retN,s,h=>absurd (show false=true from h) Bool.false_ne_true
 | .brk,s,h=>absurd (show false=true from h) Bool.false_ne_true
 | .cont,s,h=>absurd (show false=true from h) Bool.false_ne_true
 | .pass,s,h=>absurd (show false=true from h) Bool.false_ne_true
 | .never,s,h=>by
  refine t5.imp λD σ H q=>?_
  obtain⟨B,O₀,O,ρ,st,q⟩:=q
  rw [ex]at q
  exact q
 | .newD m i,s,h=>by
  obtain⟨x,p,dp,pos,rfl,hc⟩:=v3 h
  simp only [Bool.and_eq_true,beq_iff_eq]at hc
  exact A8 d hc.1.1 (fj hc.1.2)
 | .dput i mk me,s,h=>by
  obtain⟨x,p,s',sp,v,pos,rfl,hc⟩:=v2 h
  simp only [Bool.and_eq_true]at hc
  exact A9 g (am mk g hc.1.1.1.1.2).1 (am me g hc.1.1.2).1 hc.1.1.1.1.1 hc.2
 | .freeze _,s,h=>absurd (show false=true from h) Bool.false_ne_true
theorem soundSs{T:Tab}{k:Nat}{cal:Cal}{X:Cx}(g:Gf X T k cal)(d:Df X):∀(ms:List MS) (ss:List Stmt),chkSs T X.N X.env.scope ms ss=true->PSs X ss (tSs X.K cal ms)
 | [],ss,h=>by
  cases ss with
  |nil=>exact C_
  |cons _ _=>cases h
 |m::ms,ss,h=>by
  cases hm:Bf m with
  |true =>
   cases m<;>simp [Bf]at hm
   cases h
  |false =>
   cases ss with
   |nil=>cases m<;>first|(cases h;done)|cases hm
   |cons s ss =>
    have h:(eR T X.N X.env.scope m s&&chkSs T X.N X.env.scope ms ss)=true:=by cases m<;>first|exact h|(simp [Bf]at hm)
    simp only [Bool.and_eq_true]at h
    exact A_ (Bg g d m s h.1) (soundSs g d ms ss h.2)
end
end MM
namespace MM
open PySem PySem.Spec PyProof.Rows L2
structure FnD(K:PySem.W.Frag)(x y:Str)(st:Stmt)(fa:Addr)(fd:FuncData):Prop where
 it:∃(c0 d0 k0 o0 m0:Value) (a0:Option Addr) (c1 t1:Value) (a1:Option Addr) (sl:Array (Option Value)),
  K.lookup fa=some ⟨c0,a1,.func fd,sl⟩/\PySem.W.codeIn K c1 y=true/\fd=PySem.W.fnOf x y (ig st) (bK st) (aj st) d0 k0 o0 m0 a0 c1 t1
 kp:PySem.W.keepIn K (.ref fa)=true
theorem FnD.mk'{K:PySem.W.Frag}{x y:Str}{st:Stmt}{fa:Addr}{c0 d0 k0 o0 m0 c1 t1:Value}{a0 a1:Option Addr}{sl:Array (Option Value)}
  (l:K.lookup fa=some ⟨c0,a1,.func (PySem.W.fnOf x y (ig st) (bK st) (aj st) d0 k0 o0 m0 a0 c1 t1),sl⟩) (c:PySem.W.codeIn K c1 y=true) (k:PySem.W.keepIn K (.ref fa)=true) :
  FnD K x y st fa (PySem.W.fnOf x y (ig st) (bK st) (aj st) d0 k0 o0 m0 a0 c1 t1):=⟨⟨_,_,_,_,_,_,_,_,_,_,l,c,rfl⟩,k⟩
theorem FnD.mkd{K:PySem.W.Frag}{x y:Str}{st:Stmt}{fa T:Addr}{c0 k0 o0 m0 c1 t1:Value}{a0 a1:Option Addr}{sl:Array (Option Value)}
  (l:K.lookup fa=some ⟨c0,a1,.func (PySem.W.fnOf x y (ig st) (bK st) (aj st) (.ref T) k0 o0 m0 a0 c1 t1),sl⟩) (c:PySem.W.codeIn K c1 y=true) (k:PySem.W.keepIn K (.ref fa)=true) :
  FnD K x y st fa (PySem.W.fnOf x y (ig st) (bK st) (aj st) (.ref T) k0 o0 m0 a0 c1 t1):=.mk' l c k
structure dW(T:Tab)(K:PySem.W.Frag)(mg:Str->Option Value)(st:Stmt)(d:MD)(fa:Addr)(fd:FuncData):Prop where
 fn:FnD K (d.meth.getD d.name) d.name st fa fd
 binds:a9 K fd d.params []
 named:(d.meth=none/\mg d.name=some (.ref fa))\/∃m,d.meth=some m/\∀C,IsC K C->lK K C m fa
 scope:h_ d.names d.params (aj st)
 body:chkSs T d.names (aj st) d.body (bK st)=true
theorem jm{α:Type}{n:Nat}:∀{us:List α},us.length=n+1->∃a t,us=a::t/\t.length=n
 | _::_,h=>⟨_,_,rfl,Nat.succ.inj h⟩
theorem bn1{K:PySem.W.Frag}{fd:FuncData}{pa:Str}(h:∀a,bindArgs fd ⟨[a],[]⟩=pure [(pa,a)]):a9 K fd [pa] []:=.all λus h0=>by
 obtain⟨a,u1,rfl,h1⟩:=jm h0
 obtain rfl:=List.length_eq_zero_iff.mp h1
 exact h a
theorem bn2{K:PySem.W.Frag}{fd:FuncData}{pa pb:Str}(h:∀a b,bindArgs fd ⟨[a,b],[]⟩=pure [(pa,a),(pb,b)]):a9 K fd [pa,pb] []:=.all λus h0=>by
 obtain⟨a,u1,rfl,h1⟩:=jm h0
 obtain⟨b,u2,rfl,h2⟩:=jm h1
 obtain rfl:=List.length_eq_zero_iff.mp h2
 exact h a b
theorem bn3{K:PySem.W.Frag}{fd:FuncData}{pa pb pc:Str}(h:∀a b c,bindArgs fd ⟨[a,b,c],[]⟩=pure [(pa,a),(pb,b),(pc,c)]):a9 K fd [pa,pb,pc] []:=.all λus h0=>by
 obtain⟨a,u1,rfl,h1⟩:=jm h0
 obtain⟨b,u2,rfl,h2⟩:=jm h1
 obtain⟨c,u3,rfl,h3⟩:=jm h2
 obtain rfl:=List.length_eq_zero_iff.mp h3
 exact h a b c
theorem ql{K:PySem.W.Frag}{fd:FuncData}{ps:List Str}{T:Addr}{c:Value}{o:Option Addr}{vs:Array Value}{n:Nat}{sl:Array (Option Value)}(hd:fd.defaults=.ref T)(l:K.lookup T=some ⟨c,o,.seq vs n,sl⟩)
  (h:∀us:List Value,us.length=ps.length->∃k,bindArgs fd ⟨us,[]⟩=seqItems? fd.defaults >>= k/\k (some vs)=pure (ps.zip us)):a9 K fd ps []:=λs us X hl=>by
 rw [List.append_nil]at hl ⊢
 obtain⟨k,h1,h2⟩:=h us hl
 exact .of_defaults hd (X _ _ l) rfl h1 h2
theorem qm{K:PySem.W.Frag}{fd:FuncData}{ps:List Str}{T:Addr}{c v:Value}{o:Option Addr}{n:Nat}{sl:Array (Option Value)}(hd:fd.defaults=.ref T)(l:K.lookup T=some ⟨c,o,.seq #[v] n,sl⟩)
  (h:∀us:List Value,us.length+1=ps.length->∃k,bindArgs fd ⟨us,[]⟩=seqItems? fd.defaults >>= k/\k (some #[v])=pure (ps.zip (us ++ [v]))):a9 K fd ps [v]:=λs us X hl=>by
 obtain⟨k,h1,h2⟩:=h us (by simpa using hl)
 exact .of_defaults hd (X _ _ l) rfl h1 h2
theorem yu{K:PySem.W.Frag}{fd:FuncData}{ps:List Str}{T:Addr}{c:Value}{x:Str}{k:Tok}{o:Option Addr}{n:Nat}{sl:Array (Option Value)}(hd:fd.defaults=.ref T)(l:K.lookup T=some ⟨c,o,.seq #[.str x k] n,sl⟩)
  (h:∀us:List Value,us.length+1=ps.length->∃j,bindArgs fd ⟨us,[]⟩=seqItems? fd.defaults >>= j/\j (some #[.str x k])=pure (ps.zip (us ++ [.str x k]))):∃vs,a9 K fd ps vs/\aw ([Sc.str x].map Sc.v) vs:=⟨_,qm hd l h,.cons ⟨k,rfl⟩ .nil⟩
noncomputable def HD(K:PySem.W.Frag)(x:Str)(st:Stmt)(d:MD)(q:FuncData->Prop:=λ_=>True):Prop:=d.name=x/\∃fa fd,PySem.W.nsIn K mainGlobals x=some (some (.ref fa))/\FnD K x x st fa fd/\a9 K fd d.params []/\q fd
noncomputable def HM(K:PySem.W.Frag)(C:Addr)(x y:Str)(st:Stmt)(d:MD):Prop:=d.meth=some x/\d.name=y/\∃fa fd,lK K C x fa/\FnD K x y st fa fd/\a9 K fd d.params []
structure rE(K:PySem.W.Frag)(C:Addr):Prop where
 cls:Cls K C
 nf:∀x∈gT,dH K C x
 nt:dH K C "taken"
noncomputable def okD(T:Tab)(st:Stmt)(d:MD):Bool :=
 decide ((aj st).kind=.function/\(aj st).isCoroutine=false/\(aj st).isGenerator=false/\d.names.Nodup/\d.names.take d.params.length=d.params/\(∀x∈d.params,(aj st).names.lookup x=some .local\/(aj st).names.lookup x=some .cell)/\∀y∈(aj st).names,y.2≠.free)
 &&d.meth.isNone
 &&chkSs T d.names (aj st) d.body (bK st)
theorem bv{T:Tab}{K:PySem.W.Frag}{mg:Str->Option Value}{h:Heap}{st:Stmt}{d:MD}(X:K.In h)(G:h.Ns mainGlobals mg){q:FuncData->Prop}{x:Str}(hd:HD K x st d q)(ck:okD T st d=true):∃fa fd,dW T K mg st d fa fd/\q fd:=by
 obtain⟨e,_,_,n,f,b,z⟩:=hd
 obtain⟨c1,c2⟩:=Bool.and_eq_true_iff.mp ck
 obtain⟨c1,c3⟩:=Bool.and_eq_true_iff.mp c1
 obtain⟨s1,s2,s3,s4,s5,s6,s7⟩:=of_decide_eq_true c1
 subst e
 have hm:d.meth=none:=Option.isNone_iff_eq_none.mp c3
 exact⟨_,_,⟨by rw [hm];exact f,b,.inl ⟨hm,PySem.W.mg_of X G n⟩,⟨s1,s2,s3,s4,s5,s6,s7⟩,c2⟩,z⟩
noncomputable def okM(T:Tab)(st:Stmt)(d:MD):Bool :=
 decide ((aj st).kind=.function/\(aj st).isCoroutine=false/\(aj st).isGenerator=false/\d.names.Nodup/\d.names.take d.params.length=d.params/\(∀x∈d.params,(aj st).names.lookup x=some .local\/(aj st).names.lookup x=some .cell)/\∀y∈(aj st).names,y.2≠.free)&&chkSs T d.names (aj st) d.body (bK st)
theorem dy{T:Tab}{K:PySem.W.Frag}{mg:Str->Option Value}{C:Addr}{st:Stmt}{d:MD}{x y:Str}(hC:IsC K C)(hd:HM K C x y st d)(ck:okM T st d=true):∃fa fd,dW T K mg st d fa fd:=by
 obtain⟨e,en,_,_,n,f,b⟩:=hd
 obtain⟨c1,c2⟩:=Bool.and_eq_true_iff.mp ck
 obtain⟨s1,s2,s3,s4,s5,s6,s7⟩:=of_decide_eq_true c1
 subst en
 exact⟨_,_,⟨by rw [e];exact f,b,.inr ⟨x,e,λC' h=>by
  have:=h.symm.trans hC
  cases this
  exact n⟩,⟨s1,s2,s3,s4,s5,s6,s7⟩,c2⟩⟩
noncomputable def v6(T:Tab)(K:PySem.W.Frag)(mg:Str->Option Value):List MD->List (List Sc)->Prop
 | [],[]=>True
 |d::ds,l::ls=>(∃st fa fd,dW T K mg st d fa fd/\∃vs,a9 K fd d.params vs/\aw (l.map Sc.v) vs)/\v6 T K mg ds ls
 | _,_=>False
theorem v6.get{T:Tab}{K:PySem.W.Frag}{mg:Str->Option Value}:∀{ds:List MD}{ls:List (List Sc)}{f:Nat}{d:MD},v6 T K mg ds ls->ds[f]?=some d->∃l st fa fd,ls[f]?=some l/\dW T K mg st d fa fd/\∃vs,a9 K fd d.params vs/\aw (l.map Sc.v) vs
 | [],_,f,d,_,e=>by simp at e
 | _::_,[],f,d,h,e=>h.elim
 |d0::ds,l::ls,0,d,h,e=>by
  cases e
  obtain⟨⟨st,fa,fd,r⟩,_⟩:=h
  exact⟨l,st,fa,fd,rfl,r⟩
 |d0::ds,l::ls,f+1,d,h,e=>by
  obtain⟨k,st,fa,fd,q,r⟩:=v6.get h.2 (show ds[f]?=some d from by simpa using e)
  exact⟨k,st,fa,fd,by simpa using q,r⟩
noncomputable def v7(d:MD):Str:=match d.meth with
 |none=>d.name
 |some _=>"__debug__"
theorem kd{d:MD}(h:ay (v7 d)=true):d.meth=none/\v7 d=d.name:=by
 unfold v7 at h ⊢
 cases e:d.meth with
 |none=>exact⟨rfl,rfl⟩
 |some m =>
  rw [e]at h
  exact absurd (show ay ("__debug__":Str)=true from h) (by decide +kernel)
structure jn(T:Tab)(K:PySem.W.Frag)(mg:Str->Option Value)(ds:List MD)
 :Prop where
 tab:T.fs=ds.map v7
 tabM:T.ms=ds.map (·.meth)
 cls:∀C,IsC K C->rE K C
 ini:∃C,IsC K C/\mg ("Table":Str)=some (.ref C)/\∃fa fd ps,Mk K C fa/\a9 K fd ps []/\(∀P w base,bW P w K mg base CX0 1 fa fd ps (spI K C))/\∃vs,a9 K fd ps vs/\aw [V.str "weaver"] vs
 defs:v6 T K mg ds T.ds
 blt:∀x∈fg,mg (x:Str)=none
 gs:∀p∈T.gs,∃u,mg p.1=some u/\av (toV p.2) u
theorem gY{ds:List MD}{n f:Nat}{d:MD}{args:List MV}{r:PV}(hd:ds[f]?=some d)(h:ae ds (n+1) f args=some r):args.length=d.params.length /\
  ((∃ρ,exs (ae ds n) d.body (args.map some++List.replicate (d.names.length-args.length) none)=.next ρ/\r=.non)\/exs (ae ds n) d.body (args.map some++List.replicate (d.names.length-args.length) none)=.ret r \/
   ∃xs,exs (ae ds n) d.body (args.map some++List.replicate (d.names.length-args.length) none)=.retF xs/\r=.lst xs):=by
 rw [ae,hd]at h
 dsimp only at h
 by_cases hl:args.length=d.params.length
 ·rw [if_pos hl]at h
  refine⟨hl,?_⟩
  cases he:exs (ae ds n) d.body (args.map some++List.replicate (d.names.length-args.length) none) with
  |next ρ=>rw [he]at h;cases h;exact .inl ⟨ρ,rfl,rfl⟩
  |ret v=>rw [he]at h;cases h;exact .inr (.inl rfl)
  |retF xs=>rw [he]at h;cases h;exact .inr (.inr ⟨xs,rfl,rfl⟩)
  |retT v ρ=>rw [he]at h;cases h
  |brk ρ=>rw [he]at h;cases h
  |cont ρ=>rw [he]at h;cases h
  |bad=>rw [he]at h;cases h
 ·rw [if_neg hl]at h
  cases h
theorem jH{ds:List MD}{n f:Nat}{d:MD}{args:List MV}{r:PV}(hf:f<1000)(hn:ds[f+1000]?=none)(hd:ds[f]?=some d)(h:ae ds (n+1) (f+1000) args=some r):args.length=d.params.length /\
  ∃xs,exs (ae ds n) d.body (args.map some++List.replicate (d.names.length-args.length) none)=.retF xs/\r=.lst xs:=by
 rw [ae,hn]at h
 dsimp only at h
 rw [if_neg (by omega),if_neg (by omega),Nat.add_sub_cancel,hd]at h
 dsimp only at h
 by_cases hl:args.length=d.params.length
 ·rw [if_pos hl]at h
  refine⟨hl,?_⟩
  cases he:exs (ae ds n) d.body (args.map some++List.replicate (d.names.length-args.length) none) with
  |retF xs=>rw [he]at h;cases h;exact⟨xs,rfl,rfl⟩
  |retT v ρ=>rw [he]at h;cases h
  |next ρ=>rw [he]at h;cases h
  |ret v=>rw [he]at h;cases h
  |brk ρ=>rw [he]at h;cases h
  |cont ρ=>rw [he]at h;cases h
  |bad=>rw [he]at h;cases h
 ·rw [if_neg hl]at h
  cases h
theorem lr{ds:List MD}{n f:Nat}{d:MD}{args:List MV}{r:PV}(hf:f<1000)(hn:ds[f+3000]?=none)(hd:ds[f]?=some d)(h:ae ds (n+1) (f+3000) args=some r):args.length=d.params.length /\
  ∃v ρ,exs (ae ds n) d.body (args.map some++List.replicate (d.names.length-args.length) none)=.retT v ρ/\sM v ρ=some r:=by
 rw [ae,hn]at h
 dsimp only at h
 rw [if_neg (by omega),if_pos (by omega)]at h
 rw [Nat.add_sub_cancel,hd]at h
 dsimp only at h
 by_cases hl:args.length=d.params.length
 ·rw [if_pos hl]at h
  refine⟨hl,?_⟩
  cases he:exs (ae ds n) d.body (args.map some++List.replicate (d.names.length-args.length) none) with
  |retT v ρ=>rw [he]at h;exact⟨v,ρ,rfl,h⟩
  |next ρ=>rw [he]at h;cases h
  |ret v=>rw [he]at h;cases h
  |retF xs=>rw [he]at h;cases h
  |brk ρ=>rw [he]at h;cases h
  |cont ρ=>rw [he]at h;cases h
  |bad=>rw [he]at h;cases h
 ·rw [if_neg hl]at h
  cases h
theorem v8{ds:List MD}{n:Nat}(hlen:ds.length<=1000)(h:ae ds n 4000 []≠none):2<=n:=by
 match n,h with
 |0,h=>exact absurd rfl h
 |1,h =>
  refine absurd ?_ h
  rw [ae,List.getElem?_eq_none (by omega)]
  rfl
 |n+2,h=>omega
theorem yw{v w:Sc}{ρ:Rho}{ys:List PV}(h:sM v ρ=some (.tup [w.pv,.lst ys])):v=w/\∃fs,ρ[0]?=some (some (.ownO true fs ys)):=by
 unfold sM at h
 split at h
 ·cases v<;>cases w<;>cases h<;>exact⟨rfl,_,rfl⟩
 ·cases h
theorem gZ{α β:Type}{F:α->β->Prop}:∀{xs:List α}{ys:List β}{i:Nat}{x:α},Paired F xs ys->xs[i]?=some x->∃y,ys[i]?=some y/\F x y
 | _,_,_,_,.nil,e=>by simp at e
 | _,_,0,_,.cons r _,e=>by simp at e;subst e;exact⟨_,rfl,r⟩
 | _,_,i+1,x,.cons _ t,e=>by
  obtain⟨u,h1,h2⟩:=gZ (i:=i) (x:=x) t (by simpa using e)
  exact⟨u,by simpa using h1,h2⟩
theorem iR{K:PySem.W.Frag}{H:Hp}{O:List Addr}{args:List MV}{vs:List V}{N:List Str}(hO:∀a∈O,H a≠none)(h:Paired (dQ K O H) args vs):aF K H O O H (args.map some++List.replicate (N.length-args.length) none) (dg N vs):=by
 have hl:args.length=vs.length:=Paired.length h
 have get:∀(i:Nat) (m:MV),(args.map some++List.replicate (N.length-args.length) none)[i]?=some (some m)->∃u,(dg N vs)[i]?=some (some u)/\dQ K O H m u:=λi m e=>by
  by_cases hi:i<args.length
  ·rw [List.getElem?_append_left (by simpa using hi),List.getElem?_map]at e
   cases ea:args[i]? with
   |none=>rw [ea]at e;cases e
   |some m' =>
    rw [ea]at e
    cases e
    obtain⟨u,eu,q⟩:=gZ h ea
    refine⟨u,?_,q⟩
    unfold L2.dg
    rw [List.getElem?_append_left (by rw [List.length_map,<- hl];exact hi),List.getElem?_map,eu]
    rfl
  ·rw [List.getElem?_append_right (by simpa using hi),List.getElem?_replicate]at e
   split at e<;>cases e
 refine⟨ac.refl H,hO,λa ha=>ha,hO,by unfold L2.dg;simp [hl],λi m e=>?_,λi j xs ys a _ e _ ox _=>?_
  ,kZ λi m e=>by
   obtain⟨u,eu,q⟩:=get i _ e
   cases m<;>first|rfl|exact q.elim
  ⟩
 ·obtain⟨u,eu,q⟩:=get i m e
  refine⟨u,eu,?_⟩
  cases m with
  |val v=>exact q
  |own _=>exact q.elim
  |ownO _ _ _=>exact q.elim
  |brwO _ _=>exact q
  |brw ys=>exact q
  |ownD _=>exact q.elim
  |brwD _=>exact q
 ·obtain⟨u,eu,q⟩:=get i _ e
  cases xs with
  |own _=>exact q.elim
  |ownD _=>exact q.elim
  |ownO _ _ _=>exact q.elim
  |brwO _ _=>cases ox
  |val _=>cases ox
  |brw _=>cases ox
  |brwD _=>cases ox
theorem jo{α:Type}{F:α->V->Prop}{args:List α}{vs:List V}{N:List Str}(h:Paired F args vs):∀(i:Nat) (m:α),(args.map some++List.replicate (N.length-args.length) none)[i]?=some (some m)->args[i]?=some m/\∃u,vs[i]?=some u/\(dg N vs)[i]?=some (some u)/\F m u:=λi m e=>by
 have hl:args.length=vs.length:=Paired.length h
 by_cases hi:i<args.length
 ·rw [List.getElem?_append_left (by simpa using hi),List.getElem?_map]at e
  cases ea:args[i]? with
  |none=>rw [ea]at e;cases e
  |some m' =>
   rw [ea]at e
   cases e
   obtain⟨u,eu,q⟩:=gZ h ea
   refine⟨rfl,u,eu,?_,q⟩
   unfold L2.dg
   rw [List.getElem?_append_left (by rw [List.length_map,<- hl];exact hi),List.getElem?_map,eu]
   rfl
 ·rw [List.getElem?_append_right (by simpa using hi),List.getElem?_replicate]at e
  split at e<;>cases e
section
variable{T:Tab}{P:Program}{w:World}{K:PySem.W.Frag}{mg:Str->Option Value}{base:Heap}{ds:List MD}
theorem jI{K:PySem.W.Frag}{O:List Addr}{H:Hp}:∀{as:List MV}{ws:List V}{i:Nat}{m:MV},Paired (dQ K O H) as ws->as[i]?=some m->db m=true->False
 | _,_,i,m,.nil,e,_=>by cases i<;>cases e
 | _,_,0,m,.cons x _,e,o=>by
  cases e
  cases m<;>first|(cases o;done)|exact x
 | _,_,i+1,m,.cons _ t,e,o=>jI t (by simpa using e) o
theorem v9{K:PySem.W.Frag}{O:List Addr}{H B:Hp}{m:MV}{u:V}(hh:af B O=af H O)(h:dQ K O B m u):da K B O H m u:=by
 cases m with
 |val v=>rw [show dQ K O B (.val v) u=Rep K (af B O) v u from rfl,hh]at h;exact h
 |brw xs=>obtain⟨c,us,e,q,r⟩:=h;rw [hh]at r;exact⟨c,us,e,q,r⟩
 |brwD d=>exact h
 |brwO fs xs=>obtain⟨c,e,q⟩:=h;rw [hh]at q;exact⟨c,e,q⟩
 |own _=>exact h.elim
 |ownD _=>exact h.elim
 |ownO _ _ _=>exact h.elim
theorem tf{K:PySem.W.Frag}{H:Hp}{O:List Addr}{a l:Addr}{ws:List V}{fs xs:List PV}{as:List MV}{N:List Str}(hO:∀b∈O,H b≠none)(q:cz K (λ_=>none) O H fs xs a l)(r:Paired (dQ K O (dP H [a,l])) as ws) :
  aF K (dP H [a,l]) (O.filter λb=>decide (b∉[a,l])) O H ((.ownO true fs xs::as).map some++List.replicate (N.length-(MV.ownO true fs xs::as).length) none) (dg N (.ref a::ws)):=by
 have hh:=sR (H:=H) q.aO q.lO
 have hp:Paired (λ(m:MV) (u:V)=>(m=.ownO true fs xs/\u=.ref a)\/dQ K O (dP H [a,l]) m u) (.ownO true fs xs::as) (.ref a::ws):=.cons (.inl ⟨rfl,rfl⟩) (fD (λ_ _ h=>.inr h) r)
 have hl:=Paired.length hp
 have key:∀(i:Nat) (m:MV),((.ownO true fs xs::as).map some++List.replicate (N.length-(MV.ownO true fs xs::as).length) none)[i]?=some (some m)->db m=true->i=0:=λi m e o=>by
  obtain⟨ea,u,ev',eu,q⟩:=jo hp i m e
  cases i with
  |zero=>rfl
  |succ i =>
   rw [List.getElem?_cons_succ]at ea
   exact(jI r ea o).elim
 refine⟨λb u e=>?_,hO,λb hb=>(List.mem_filter.mp hb).1,λb hb=>?_,by unfold L2.dg;simp at hl ⊢;omega,λi m e=>?_,λi j m m' c hij e1 e2 o1 o2 s1 s2=>hij ((key i m e1 o1).trans (key j m' e2 o2).symm),λi m0 a2 l2 e1 l0 e2 e3 j m hji ej=>?_⟩
 ·unfold dP at e
  split at e
  ·cases e
  ·exact e
 ·obtain⟨h1,h2⟩:=List.mem_filter.mp hb
  unfold dP
  rw [if_neg (of_decide_eq_true h2)]
  exact hO b h1
 ·obtain⟨ea,u,ev',eu,qq⟩:=jo hp i m e
  refine⟨u,eu,?_⟩
  rcases qq with ⟨rfl,rfl⟩|qq
  ·refine⟨a,l,rfl,q.move (ac.refl _) (λ_ h=>h) (λ_ h=>h) q.aO q.lO ?_ ?_⟩
   ·unfold dP
    rw [if_pos (by simp)]
   ·unfold dP
    rw [if_pos (by simp)]
  ·exact v9 hh qq
 ·have o0:db m0=true:=by cases m0<;>first|(cases l0;done)|rfl
  have hi:=key i m0 e1 o0
  obtain⟨ea,u,ev',eu,qq⟩:=jo hp j m ej
  rcases qq with ⟨rfl,rfl⟩|qq
  ·exact absurd ((key j _ ej rfl).trans hi.symm) hji
  ·cases m<;>first|exact qq.elim|exact⟨rfl,λc o=>by cases o⟩
structure De(T:Tab)(P:Program)(w:World)(K:PySem.W.Frag)(mg:Str->Option Value)(base:Heap)(ds:List MD)(n g:Nat)(fa:Addr)(fd:FuncData)(ps:List Str):Prop where
 m:bW P w K mg base CX0 n fa fd ps (spM K (ae ds n) g)
 f:bW P w K mg base CX0 n fa fd ps (spF K (ae ds n) g)
 t:bW P w K mg base CX0 n fa fd ps (spT K (ae ds n) g)
theorem eI(hlen:ds.length<=1000)
  (pr:jn T K mg ds)
 :∀(n f:Nat) (d:MD),ds[f]?=some d->∀st fa fd,dW T K mg st d fa fd->De T P w K mg base ds n f fa fd d.params
 |0,f,d,hd,st,fa,fd,D=>{
   m:=⟨λvs H Q E h=>(by obtain⟨O,args,r,_,_,e,_⟩:=h;exact absurd e (by simp [ae])),λA outer s H args us vs Q E _ _ _ _ h=>(by obtain⟨O,args,r,_,_,e,_⟩:=h;exact absurd e (by simp [ae]))⟩
   f:=⟨λvs H Q E h=>(by obtain⟨O,args,r,_,_,e,_⟩:=h;exact absurd e (by simp [ae])),λA outer s H args us vs Q E _ _ _ _ h=>(by obtain⟨O,args,r,_,_,e,_⟩:=h;exact absurd e (by simp [ae]))⟩
   t:=⟨λvs H Q E h=>(by obtain⟨O,a,l,fs,xs,as,ws,v,ys,_,_,_,_,e,_⟩:=h;exact absurd e (by simp [ae])),λA outer s H args us vs Q E _ _ _ _ h=>(by obtain⟨O,a,l,fs,xs,as,ws,v,ys,_,_,_,_,e,_⟩:=h;exact absurd e (by simp [ae]))⟩
   }
 |n+1,f,d,hd,st,fa,fd,D=>by
  obtain⟨c0,d0,k0,o0,m0,a0,cdv,t1,a1,sl,lk,hc,rfl⟩:=D.fn.it
  have hf:f<1000:=Nat.lt_of_lt_of_le (List.getElem?_eq_some_iff.mp hd).1 hlen
  have hn:ds[f+1000]?=none:=List.getElem?_eq_none (by omega)
  have hn3:ds[f+3000]?=none:=List.getElem?_eq_none (by omega)
  have gg:∀{CX:CXT}{A:Around}{outer:_}{s:Shared}{H:Hp}{E:_},_->Gf (ia CX P w K mg base d.names d.name (aj st) fa cdv A outer s H E).nox T n (ae ds n):=λ{CX A outer s H E} hr=>{
   calm:=rfl
   room:=hr
   fns:=λf' x hx hp=>by
    rw [pr.tab,List.getElem?_map]at hx
    cases hd2:ds[f']? with
    |none=>rw [hd2]at hx;cases hx
    |some d2 =>
     rw [hd2]at hx
     cases hx
     obtain⟨hm,hnm⟩:=kd hp
     obtain⟨l2,st2,fa2,fd2,el,D2,bd⟩:=pr.defs.get hd2
     rcases D2.named with ⟨_,nd⟩|⟨m,em,_⟩
     ·exact⟨fa2,fd2,d2.params,by rw [hnm];exact nd,D2.fn.kp,D2.binds,(eI hlen pr n f' d2 hd2 st2 fa2 fd2 D2).m,λl hl=>by rw [el]at hl;cases hl;exact bd⟩
     ·rw [hm]at em;cases em
   cls:=λC h=>⟨(pr.cls C h).cls,(pr.cls C h).nf,(pr.cls C h).nt⟩
   meths:=λf' m hx C hC=>by
    rw [pr.tabM,List.getElem?_map]at hx
    cases hd2:ds[f']? with
    |none=>rw [hd2]at hx;cases hx
    |some d2 =>
     rw [hd2]at hx
     have hx:d2.meth=some m:=Option.some.inj hx
     obtain⟨l2,st2,fa2,fd2,el,D2,bd⟩:=pr.defs.get hd2
     rcases D2.named with ⟨em,_⟩|⟨m',em,nd⟩
     ·rw [hx]at em;cases em
     ·rw [hx]at em
      cases em
      exact⟨fa2,fd2,d2.params,nd C hC,D2.binds,(eI hlen pr n f' d2 hd2 st2 fa2 fd2 D2).m⟩
   methsT:=λf' m hx C hC=>by
    rw [pr.tabM,List.getElem?_map]at hx
    cases hd2:ds[f']? with
    |none=>rw [hd2]at hx;cases hx
    |some d2 =>
     rw [hd2]at hx
     have hx:d2.meth=some m:=Option.some.inj hx
     obtain⟨l2,st2,fa2,fd2,el,D2,bd⟩:=pr.defs.get hd2
     rcases D2.named with ⟨em,_⟩|⟨m',em,nd⟩
     ·rw [hx]at em;cases em
     ·rw [hx]at em
      cases em
      exact⟨fa2,fd2,d2.params,nd C hC,D2.binds,(eI hlen pr n f' d2 hd2 st2 fa2 fd2 D2).t⟩
   lvl:=λh=>cJ.mono hr (v8 hlen h)
   ini:=λ_=>by
    obtain⟨C,h1,h2,fa,fd,ps,h3,h4,h5,h6⟩:=pr.ini
    exact⟨C,h1,h2,fa,fd,ps,h3,h4,h5 _ _ _,h6⟩
   blt:=pr.blt
   gs:=pr.gs
   fnsF:=λf' x hx hp=>by
    rw [pr.tab,List.getElem?_map]at hx
    cases hd2:ds[f']? with
    |none=>rw [hd2]at hx;cases hx
    |some d2 =>
     rw [hd2]at hx
     cases hx
     obtain⟨hm,hnm⟩:=kd hp
     obtain⟨l2,st2,fa2,fd2,el,D2,bd⟩:=pr.defs.get hd2
     rcases D2.named with ⟨_,nd⟩|⟨m,em,_⟩
     ·exact⟨fa2,fd2,d2.params,by rw [hnm];exact nd,D2.fn.kp,D2.binds,(eI hlen pr n f' d2 hd2 st2 fa2 fd2 D2).f⟩
     ·rw [hm]at em;cases em
   }
  have df:∀{CX:CXT}{A:Around}{outer:_}{s:Shared}{H:Hp}{E:_},Df (ia CX P w K mg base d.names d.name (aj st) fa cdv A outer s H E).nox:=λ{CX A outer s H E}=>⟨D.scope.nd,λ_=>rfl,PassesOwn.never,by
    have hk:(ia CX P w K mg base d.names d.name (aj st) fa cdv A outer s H E).nox.env.scope.kind=.function:=D.scope.kind
    unfold Env.blockKind
    rw [hk]
    rfl
    ⟩
  refine {
   m:=?_
   f:=?_
   t:=?_
   }
  ·refine kj lk hc D.scope (λvs H Q E h=>?_) (λA outer s H vs Q E hr h=>?_)
   ·obtain⟨O,args,r,_,hp,e,_⟩:=h
    rw [<- (gY hd e).1]
    exact(Paired.length hp).symm
   ·obtain⟨O,args,r,hO,hp,e,q⟩:=h
    obtain⟨hl,hr'⟩:=gY hd e
    refine⟨_,(soundSs (gg hr) df d.body (bK st) D.body).nox,H,O,O,_,iR hO hp,?_⟩
    rcases hr' with ⟨ρ,he,rfl⟩|he|⟨xs,he,rfl⟩
    ·rw [he]
     exact λσ' H' O' st' _=>q _ H' st'.keep (nE _)
    ·rw [he]
     exact λu H' s' r'=>q u H' s' r'
    ·rw [he]
     refine λp us H' s' hp' he' r'=>q _ H' s' ?_
     rw [Rep]
     refine⟨p,us,rfl,SqL.of ?_,Reps.mono iN _ r'⟩
     rw [aD λz=>hO p z hp']
     exact he'
  ·refine kj lk hc D.scope (λvs H Q E h=>?_) (λA outer s H vs Q E hr h=>?_)
   ·obtain⟨O,args,r,_,hp,e,_⟩:=h
    rw [<- (jH hf hn hd e).1]
    exact(Paired.length hp).symm
   ·obtain⟨O,args,xs,hO,hp,e,q⟩:=h
    obtain⟨hl,ys,he,ey⟩:=jH hf hn hd e
    cases ey
    refine⟨_,(soundSs (gg hr) df d.body (bK st) D.body).nox,H,O,O,_,iR hO hp,?_⟩
    rw [he]
    exact λp us H' s' hp' he' r'=>q p us H' s' hp' he' r'
  ·refine kj lk hc D.scope (λvs H Q E h=>?_) (λA outer s H vs Q E hr h=>?_)
   ·obtain⟨O,a,l,fs,xs,as,ws,v,ys,rfl,_,_,r,e,_⟩:=h
    rw [<- (lr hf hn3 hd e).1]
    simp [Paired.length r]
   ·obtain⟨O,a,l,fs,xs,as,ws,v,ys,rfl,hO,q,r,e,kq⟩:=h
    obtain⟨hl,v',ρ,he,ee⟩:=lr hf hn3 hd e
    obtain⟨rfl,fs',e0⟩:=yw ee
    refine⟨_,(soundSs (gg hr) df d.body (bK st) D.body).nox,dP H [a,l],_,O,_,tf hO q r,?_⟩
    rw [he]
    intro σ' H' O' st' k'
    obtain⟨⟨xs0,e1⟩,es⟩:=k'.mutO 0 fs' ys e0
    have efs:fs'=fs:=by
     have e1:some (some (MV.ownO true fs xs))=some (some (MV.ownO true fs' xs0)):=e1
     cases e1
     rfl
    subst efs
    obtain⟨u,eu,a',l',rfl,q2⟩:=st'.slot 0 _ e0
    have ea:a'=a:=by
     rw [eu]at es
     have es:some (some (V.ref a'))=some (some (V.ref a)):=es
     cases es
     rfl
    subst ea
    have lB:=q2.lB
    refine kq l' H' (λb o n1 n2 eb=>st'.keep b o ?_) ?_ (q2.move (aQ (ac.refl _) λb hb=>.inl ?_) (λ_ h=>h) (λ_ h=>h) (List.mem_cons_of_mem _ (List.mem_filter.mpr ⟨q.aO,decide_eq_true q.ne⟩)) List.mem_cons_self rfl rfl)
    ·unfold dP
     rw [if_neg λz=>by
      rcases List.mem_cons.mp z with z|z
      ·exact n1 z
      ·exact n2 (List.mem_singleton.mp z)]
     exact eb
    ·unfold dP at lB
     split at lB
     ·rename_i z
      rcases List.mem_cons.mp z with z|z
      ·exact absurd z.symm q2.ne
      ·exact .inl (List.mem_singleton.mp z)
     ·exact .inr lB
    ·rcases List.mem_cons.mp hb with rfl|hb
     ·exact q2.lO
     ·obtain⟨h1,h2⟩:=List.mem_filter.mp hb
      by_cases z:b=a'
      ·subst z
       exact q2.aO
      ·refine k'.stay b ?_ h1
       unfold dP
       rw [if_neg λw=>by
        rcases List.mem_cons.mp w with w|w
        ·exact z w
        ·exact of_decide_eq_true h2 (List.mem_singleton.mp w)]
       exact hO b h1
end
theorem yx{K:PySem.W.Frag}{H:Hp}{la x C dx:Addr}{us:List V}{gs:List (Str×V)}{o:HO}(h:SqT K H la us)(hx:H x=some (.ins C dx gs)):SqT K (upd H x o) la us:=by
 rcases h with (e|⟨o',e⟩)|e
 ·have n:la≠x:=λz=>by rw [z,hx]at e;cases e
  exact .inl (.inl (by rw [ak n];exact e))
 ·have n:la≠x:=λz=>by rw [z,hx]at e;cases e
  exact .inl (.inr ⟨o',by rw [ak n];exact e⟩)
 ·exact .inr e
theorem iS{x:Str}{v:V}{gs:List (Str×V)}{n:Nat}(h:gs.length<=n):(dG x v gs).length<=n+1:=by
 induction gs generalizing n with
 |nil=>exact Nat.succ_le_succ (Nat.zero_le _)
 |cons p gs ih =>
  obtain⟨y,w⟩:=p
  show(if y=x then (y,v)::gs else (y,w)::dG x v gs).length<=_
  cases n with
  |zero=>cases h
  |succ n =>
   have:=ih (Nat.le_of_succ_le_succ h)
   have:=Nat.le_of_succ_le_succ h
   split
   ·simp only [List.length_cons];omega
   ·simp only [List.length_cons];omega
theorem Bh{K:PySem.W.Frag}{C C':Addr}(h:IsC K C)(c:rE K C)(h':IsC K C'):rE K C':=by
 have:=h'.symm.trans h
 cases this
 exact c
theorem zk {K:PySem.W.Frag}{C:Addr} (n0:PySem.W.findIn K (.ref C) "hole_count"=some none) (n1:PySem.W.findIn K (.ref C) "ribbons"=some none) (n2:PySem.W.findIn K (.ref C) "opener"=some none) (x:Str) (hx:x∈gT):dH K C x:=by
 simp only [gT,List.mem_cons,List.not_mem_nil,or_false]at hx
 rcases hx with rfl|rfl|rfl
 ·exact n0
 ·exact n1
 ·exact n2
end MM
namespace MM
open PySem
noncomputable abbrev ofS(ts:List Int):PV:=.tup (ts.map .int)
noncomputable abbrev ofR(R:List (List Int)):PV:=.tup (R.map ofS)
noncomputable abbrev ofL(ns:List Int):PV:=.lst (ns.map .int)
theorem dE:∀ns:List Int,bc (ns.map .int)=some ns
 | []=>rfl
 |n::ns=>by simp [bc,dE ns]
theorem mL:∀R:List (List Int),e_ (R.map ofS)=some R
 | []=>rfl
 |t::R=>by simp [e_,dE,mL R]
theorem lv:∀ns:List Bool,bY (ns.map .bl)=some ns
 | []=>rfl
 |n::ns=>by simp [bY,lv ns]
theorem jp{ns:List Int}(h:ns.length<64):fA (ns.map .int)=some (ofL (sortI ns)):=by
 unfold fA
 rw [if_pos (by simpa using h),dE]
theorem jq{R:List (List Int)}(h:R.length<64):fA (R.map ofS)=some (.lst ((sortT R).map ofS)):=by
 unfold fA
 rw [if_pos (by simpa using h)]
 cases R with
 |nil=>rfl
 |cons t R =>
  have:bc ((t::R).map ofS)=none:=rfl
  rw [this]
  simp only [mL,Option.map_some]
theorem cm{α:Type}{g:α->PV}{c:PV->Option Bool}{f:PV->Option PV}{p:α->Bool}{h:α->PV}:∀{xs:List α},(∀x∈xs,c (g x)=some (p x))->(∀x∈xs,p x=true->f (g x)=some (h x))->bU c f (xs.map g)=some ((xs.filter p).map h)
 | [],_,_=>rfl
 |x::xs,hc,hf=>by
  rw [List.map_cons,bU,hc x (.head _),Option.bind_some]
  have ih:=cm (xs:=xs) (λy hy=>hc y (.tail _ hy)) (λy hy=>hf y (.tail _ hy))
  cases hp:p x with
  |true=>rw [if_pos rfl,hf x (.head _) hp,Option.bind_some,ih,List.filter_cons_of_pos hp];rfl
  |false=>rw [if_neg (by simp),ih,List.filter_cons_of_neg (by simp [hp])]
theorem qo{α:Type}{g:α->PV}{c:PV->Option Bool}{f:PV->Option PV}{h:α->PV}{xs:List α}(hc:∀x∈xs,c (g x)=some true)(hf:∀x∈xs,f (g x)=some (h x)):bU c f (xs.map g)=some (xs.map h):=by
 rw [cm (p:=λ_=>true) hc (λx hx _=>hf x hx),List.filter_eq_self.mpr λ_ _=>rfl]
theorem Bi(a b:Int)(ts:List Int):((b == a) || decide (a∈ts))=decide (a=b\/a∈ts):=by
 by_cases e:a=b
 ·subst e;rw [beq_self_eq_true,Bool.true_or];exact(decide_eq_true (.inl rfl)).symm
 ·rw [beq_eq_false_iff_ne.mpr (Ne.symm e),Bool.false_or]
  by_cases q:a∈ts
  ·rw [decide_eq_true q,decide_eq_true (.inr q)]
  ·rw [decide_eq_false q,decide_eq_false (λz=>z.elim e q)]
theorem Bj(a b:List Int)(ts:List (List Int)):(decide (b=a) || decide (a∈ts))=decide (a=b\/a∈ts):=by
 by_cases e:a=b
 ·subst e;rw [decide_eq_true rfl,Bool.true_or];exact(decide_eq_true (.inl rfl)).symm
 ·rw [decide_eq_false (Ne.symm e),Bool.false_or]
  by_cases q:a∈ts
  ·rw [decide_eq_true q,decide_eq_true (.inr q)]
  ·rw [decide_eq_false q,decide_eq_false (λz=>z.elim e q)]
@[simp] theorem rF(n:Nat)(i j:Int):eqF n (.int i) (.int j)=some (i == j):=by cases n<;>rfl
theorem cq(h:Int):∀ts:List Int,isIn (.int h) (ts.map .int)=some (decide (h∈ts))
 | []=>rfl
 |t::ts=>by
  have ih:=cq h ts
  unfold isIn at ih ⊢
  rw [List.map_cons,inL,ih]
  simp only [rF,Option.bind_some,Option.map_some,List.mem_cons,Bi]
theorem o6(n:Nat):∀a b:List Int,eqL (eqF n) (a.map .int) (b.map .int)=some (decide (a=b))
 | [],[]=>rfl
 | [],_::_=>rfl
 | _::_,[]=>rfl
 |x::a,y::b=>by
  rw [List.map_cons,List.map_cons,eqL,o6 n a b]
  simp only [rF,Option.bind_some,Option.map_some,List.cons.injEq]
  congr 1
  rw [Bool.eq_iff_iff]
  simp
theorem zl(n:Nat)(a b:List Int):eqF (n+1) (ofS a) (ofS b)=some (decide (a=b)):=o6 n a b
theorem zm(n:Nat):∀a b:List (List Int),eqL (eqF (n+1)) (a.map ofS) (b.map ofS)=some (decide (a=b))
 | [],[]=>rfl
 | [],_::_=>rfl
 | _::_,[]=>rfl
 |x::a,y::b=>by
  rw [List.map_cons,List.map_cons,eqL,zm n a b,zl]
  simp only [Option.bind_some,Option.map_some,List.cons.injEq]
  congr 1
  rw [Bool.eq_iff_iff]
  simp
theorem Dg(n:Nat)(a b:List (List Int)):eqF (n+2) (ofR a) (ofR b)=some (decide (a=b)):=zm n a b
theorem qp(h:List Int):∀ts:List (List Int),isIn (ofS h) (ts.map ofS)=some (decide (h∈ts))
 | []=>rfl
 |t::ts=>by
  have ih:=qp h ts
  unfold isIn at ih ⊢
  rw [List.map_cons,inL,ih,zl 99]
  simp only [Option.bind_some,Option.map_some,List.mem_cons,Bj]
noncomputable def cI:R->Option PV
 | .next _=>some .non
 | .ret v=>some v
 | .retF xs=>some (.lst xs)
 | _=>none
theorem ax{ds:List MD}{n f:Nat}{d:MD}{args:List MV}(hd:ds[f]?=some d)(hl:args.length=d.params.length):ae ds (n+1) f args=cI (exs (ae ds n) d.body (args.map some++List.replicate (d.names.length-args.length) none)):=by
 rw [ae,hd]
 simp only [hl,if_true]
 unfold cI
 rfl
noncomputable def Bk:R->Option PV
 | .retT v ρ=>sM v ρ
 | _=>none
theorem tj{ds:List MD}{n f:Nat}{d:MD}{args:List MV}(hf:f<1000)(hn:ds[f+3000]?=none)(hd:ds[f]?=some d)(hl:args.length=d.params.length):ae ds (n+1) (f+3000) args=Bk (exs (ae ds n) d.body (args.map some++List.replicate (d.names.length-args.length) none)):=by
 rw [ae,hn]
 dsimp only
 rw [if_neg (by omega),if_pos (by omega)]
 rw [Nat.add_sub_cancel,hd]
 simp only [hl,if_true]
 unfold Bk
 rfl
@[simp] theorem BQ(xs:List PV)(k:Rho->R):(R.retF xs).andThen k=.retF xs:=rfl
@[simp] theorem BR(v:PV):bj (some (.val v))=some v:=rfl
@[simp] theorem BS(v:List PV):bj (some (.own v))=some (.lst v):=rfl
@[simp] theorem BT(v:List PV):bj (some (.brw v))=some (.lst v):=rfl
@[simp] theorem Bl(v:DD):bj (some (.ownD v))=some (.dI v):=rfl
@[simp] theorem Bm(v:DD):bj (some (.brwD v))=some (.dI v):=rfl
@[simp] theorem Bn(v:DD):eA (some (.ownD v))=some (.brwD v):=rfl
@[simp] theorem Bo(v:DD):eA (some (.brwD v))=some (.brwD v):=rfl
@[simp] theorem Bp(v:DD):cy (some (.ownD v))=some (.brwD v):=rfl
@[simp] theorem Bq(v:DD):cy (some (.brwD v))=some (.brwD v):=rfl
@[simp] theorem EG(i:Int):sc? (.int i)=some (.int i):=rfl
@[simp] theorem E5(i:Bool):sc? (.bl i)=some (.bl i):=rfl
@[simp] theorem EH:sc? .non=some .non:=rfl
@[simp] theorem EI(i:Int):(Sc.int i).pv=.int i:=rfl
@[simp] theorem E6(i:Bool):(Sc.bl i).pv=.bl i:=rfl
@[simp] theorem BU(v:PV):vb (some (.val v))=some v:=rfl
@[simp] theorem BV(v:PV):eA (some (.val v))=some (.val v):=rfl
@[simp] theorem BW(v:List PV):eA (some (.own v))=some (.brw v):=rfl
@[simp] theorem BX(v:List PV):eA (some (.brw v))=some (.brw v):=rfl
@[simp] theorem BY(v:PV):cy (some (.val v))=some (.val v):=rfl
@[simp] theorem BZ(v:List PV):cy (some (.own v))=some (.brw v):=rfl
@[simp] theorem B0(v:List PV):cy (some (.brw v))=some (.brw v):=rfl
@[simp] theorem B1(b:Bool):aM (.bl b)=some b:=rfl
@[simp] theorem DP(i j:Int):fW .add (.int i) (.int j)=some (.int (i+j)):=rfl
@[simp] theorem DQ(i j:Int):fW .sub (.int i) (.int j)=some (.int (i-j)):=rfl
@[simp] theorem DR(i j:Int):fW .mul (.int i) (.int j)=if (-(2 ^ 64)<i/\i<2 ^ 64)\/(-(2 ^ 64)<j/\j<2 ^ 64) then some (.int (i*j)) else none:=rfl
@[simp] theorem Dh(i j:Int):fW .fdiv (.int i) (.int j)=if 0<j/\j<1073741824 then some (.int (i / j)) else none:=rfl
@[simp] theorem DS(i j:Int):fW .mod (.int i) (.int j)=if 0<j then some (.int (i % j)) else none:=rfl
@[simp] theorem DT(x y:List PV):fW .add (.lst x) (.lst y)=if x.length+y.length<=10000 then some (.lst (x++y)) else none:=rfl
@[simp] theorem EJ(i j:Int):bS .lt (.int i) (.int j)=some (decide (i<j)):=rfl
@[simp] theorem EK(i j:Int):bS .le (.int i) (.int j)=some (decide (i<=j)):=rfl
@[simp] theorem EL(i j:Int):bS .gt (.int i) (.int j)=some (decide (j<i)):=rfl
@[simp] theorem EM(i j:Int):bS .ge (.int i) (.int j)=some (decide (j<=i)):=rfl
@[simp] theorem Br(x y:PV):bS .eq x y=eqF 100 x y:=rfl
@[simp] theorem EN(x y:PV):bS .ne x y=if pX x y=true then (eqF 100 x y).map (λp=>!p) else none:=rfl
@[simp] theorem DU(x:PV):bS .isN x .non=some (iz x):=rfl
@[simp] theorem Di(x:PV):bS .notN x .non=some (!iz x):=rfl
@[simp] theorem yy(x:PV)(xs:List PV):bS .isIn x (.tup xs)=isIn x xs:=rfl
@[simp] theorem DV(x:PV)(xs:List PV):bS .isIn x (.lst xs)=isIn x xs:=rfl
@[simp] theorem Dj(x:PV)(xs:List PV):bS .notIn x (.tup xs)=(isIn x xs).map λp=>!p:=rfl
@[simp] theorem Dk(x:PV)(xs:List PV):bS .notIn x (.lst xs)=(isIn x xs).map λp=>!p:=rfl
@[simp] theorem EO(n:Nat)(i j:Bool):eqF n (.bl i) (.bl j)=some (i == j):=by cases n<;>rfl
@[simp] theorem yz(n:Nat)(i j:Str):eqF n (.str i) (.str j)=some (i == j):=by cases n<;>rfl
@[simp] theorem DW(x y:List PV):pX (.tup x) (.tup y)=true:=rfl
@[simp] theorem DX(x y:List PV):pX (.lst x) (.lst y)=true:=rfl
@[simp] theorem DY(x y:Int):pX (.int x) (.int y)=true:=rfl
@[simp] theorem DZ(x y:Str):pX (.str x) (.str y)=true:=rfl
@[simp] theorem yA(x:List PV):be (.tup x)=some x:=rfl
@[simp] theorem rG(x:List PV):be (.lst x)=some x:=rfl
@[simp] theorem Dl(x:List PV):aE .len [.tup x]=some (.int x.length):=rfl
@[simp] theorem Dm(x:List PV):aE .len [.lst x]=some (.int x.length):=rfl
@[simp] theorem Dn(x:List (Int×Sc)):aE .len [.dI (.k x)]=some (.int x.length):=rfl
@[simp] theorem D_(x:PV):aE .tupleOf [x]=(be x).map .tup:=rfl
@[simp] theorem Do(x:PV):aE .listOf [x]=(be x).map .lst:=rfl
@[simp] theorem lw(x:PV):aE .sorted [x]=(be x).bind fA:=rfl
@[simp] theorem yB(x:List PV):aE .any [.lst x]=(bY x).map λbs=>.bl (bs.any id):=rfl
@[simp] theorem Ea(x:List PV):aE .all [.lst x]=(bY x).map λbs=>.bl (bs.all id):=rfl
@[simp] theorem Dp(i:Int):aE .intOf [.int i]=some (.int i):=rfl
@[simp] theorem Dq(b:Bool):aE .intOf [.bl b]=some (.int (if b then 1 else 0)):=rfl
@[simp] theorem Eb(i:Int):isD (.int i)=false:=rfl
@[simp] theorem EQ(i:Bool):isD (.bl i)=false:=rfl
@[simp] theorem Ec(i:Str):isD (.str i)=false:=rfl
@[simp] theorem Ed(i:List PV):isD (.tup i)=false:=rfl
@[simp] theorem Ee(i:List PV):isD (.lst i)=false:=rfl
@[simp] theorem Ef:isD .non=false:=rfl
@[simp] theorem B2(x:PV):aE .isInt [x]=if isD x=true then none else some (.bl (isT .isInt x)):=rfl
@[simp] theorem wV(i:Int):isT .isInt (.int i)=true:=rfl
@[simp] theorem yC(i:Bool):isT .isInt (.bl i)=true:=rfl
@[simp] theorem wW(i:Str):isT .isInt (.str i)=false:=rfl
@[simp] theorem wX(i:List PV):isT .isInt (.lst i)=false:=rfl
@[simp] theorem wY(i:List PV):isT .isInt (.tup i)=false:=rfl
@[simp] theorem wZ:isT .isInt .non=false:=rfl
@[simp] theorem Bs(x:PV):aE .isBool [x]=if isD x=true then none else some (.bl (isT .isBool x)):=rfl
@[simp] theorem v_(i:Int):isT .isBool (.int i)=false:=rfl
@[simp] theorem w4(i:Bool):isT .isBool (.bl i)=true:=rfl
@[simp] theorem wa(i:Str):isT .isBool (.str i)=false:=rfl
@[simp] theorem wb(i:List PV):isT .isBool (.lst i)=false:=rfl
@[simp] theorem wc(i:List PV):isT .isBool (.tup i)=false:=rfl
@[simp] theorem wd:isT .isBool .non=false:=rfl
@[simp] theorem B3(x:PV):aE .isStr [x]=if isD x=true then none else some (.bl (isT .isStr x)):=rfl
@[simp] theorem w5(i:Int):isT .isStr (.int i)=false:=rfl
@[simp] theorem yD(i:Bool):isT .isStr (.bl i)=false:=rfl
@[simp] theorem w8(i:Str):isT .isStr (.str i)=true:=rfl
@[simp] theorem w9(i:List PV):isT .isStr (.lst i)=false:=rfl
@[simp] theorem w_(i:List PV):isT .isStr (.tup i)=false:=rfl
@[simp] theorem xa:isT .isStr .non=false:=rfl
@[simp] theorem Bt(x:PV):aE .isList [x]=if isD x=true then none else some (.bl (isT .isList x)):=rfl
@[simp] theorem we(i:Int):isT .isList (.int i)=false:=rfl
@[simp] theorem xb(i:Bool):isT .isList (.bl i)=false:=rfl
@[simp] theorem wf(i:Str):isT .isList (.str i)=false:=rfl
@[simp] theorem wg(i:List PV):isT .isList (.lst i)=true:=rfl
@[simp] theorem wj(i:List PV):isT .isList (.tup i)=false:=rfl
@[simp] theorem wk:isT .isList .non=false:=rfl
@[simp] theorem zn(x:PV):aE .isTuple [x]=if isD x=true then none else some (.bl (isT .isTuple x)):=rfl
@[simp] theorem tK(i:Int):isT .isTuple (.int i)=false:=rfl
@[simp] theorem wm(i:Bool):isT .isTuple (.bl i)=false:=rfl
@[simp] theorem tL(i:Str):isT .isTuple (.str i)=false:=rfl
@[simp] theorem tM(i:List PV):isT .isTuple (.lst i)=false:=rfl
@[simp] theorem tN(i:List PV):isT .isTuple (.tup i)=true:=rfl
@[simp] theorem tO:isT .isTuple .non=false:=rfl
@[simp] theorem Dr(xs:List PV):aE .max1 [.lst xs]=(bc xs).bind λns=>(CD ns).map .int:=rfl
@[simp] theorem Bu(d:DD):aE .valuesOf [.dI d]=if (qQ d).length<=10000 then some (.lst (qQ d)) else none:=rfl
@[simp] theorem wn(kvs:List (Int×Sc)):aE .sortedKeys [.dI (.k kvs)]=if kvs.length<64 then some (ofL (sortI (kvs.map (·.1)))) else none:=rfl
@[simp] theorem ER(kvs:List (Int×Sc))(i:Int):sK (.dI (.k kvs)) (.int i)=some (dh kvs i):=rfl
@[simp] theorem ES(kvs:List (List Int×Sc))(ns:List Int):sK (.dI (.t kvs)) (.tup (ns.map .int))=some (dh kvs ns):=by
 show(bc (ns.map .int)).map (dh kvs)=_
 rw [dE]
 rfl
@[simp] theorem ET(kvs:List (Int×Sc))(i:Int)(s:Sc):pY (.k kvs) (.int i) s=if kvs.length<10000 then some (.k (cx kvs i s)) else none:=rfl
@[simp] theorem EU(kvs:List (List Int×Sc))(ns:List Int)(s:Sc):pY (.t kvs) (.tup (ns.map .int)) s=if kvs.length<10000 then some (.t (cx kvs ns s)) else none:=by
 show((bc (ns.map .int)).bind λk=>if kvs.length<10000 then some (DD.t (cx kvs k s)) else none)=_
 rw [dE]
 rfl
@[simp] theorem Eg(p q:Bool):bS .isN (.bl p) (.bl q)=some (p == q):=rfl
@[simp] theorem Ds(p q:Bool):bS .notN (.bl p) (.bl q)=some (!(p == q)):=rfl
@[simp] theorem yE(xs:List PV):aE .tupleRev [.lst xs]=some (.tup xs.reverse):=rfl
@[simp] theorem lX(x:PV):aE .sortedSet [x]=(be x).bind λxs=>(bc xs).bind λns=>if ns.length<=4000/\(dd ns).length<64 then some (.lst ((sortI (dd ns)).map .int)) else none:=rfl
@[simp] theorem E7(x:List PV)(i:Int):gH (.lst x) (.int i)=(place x.length i).bind λj=>x[j]?:=rfl
@[simp] theorem E8(x:List PV)(i:Int):gH (.tup x) (.int i)=(place x.length i).bind λj=>x[j]?:=rfl
@[simp] theorem Eh(x:List PV)(lo hi:Option Int):jU (.lst x) lo hi=some (.lst (cut x lo hi)):=rfl
@[simp] theorem Ei(i j:Int):bnd (.cst (.int i)) (.int j)=some (some j):=rfl
@[simp] theorem yF(x:PV):bF .seq [x]=be x:=rfl
theorem yG(j:Int):bF .rng [.int j]=if -(2 ^ 62)<=j/\j<2 ^ 62 then some ((List.range j.toNat).map λ(k:Nat)=>.int ((0:Int)+k)) else none:=rfl
@[simp] theorem cQ(ρ:Rho)(k:Rho->R):(R.next ρ).andThen k=k ρ:=rfl
@[simp] theorem Dt(v:PV)(k:Rho->R):(R.ret v).andThen k=.ret v:=rfl
@[simp] theorem Du(k:Rho->R):R.bad.andThen k=.bad:=rfl
@[simp] theorem Dw(ρ:Rho)(k:Rho->R):(R.brk ρ).andThen k=.brk ρ:=rfl
@[simp] theorem B4(ρ:Rho)(k:Rho->R):(R.cont ρ).andThen k=.cont ρ:=rfl
@[simp] theorem Bv(v:PV)(k:PV->R):cZ (some v) k=k v:=rfl
@[simp] theorem fE(v:Bool)(k:Bool->R):vc (some v) k=k v:=rfl
@[simp] theorem Bw(v:Rho)(k:Rho->R):fN (some v) k=k v:=rfl
@[simp] theorem B5(v:PV):cI (.ret v)=some v:=rfl
@[simp] theorem Bx(ρ:Rho):cI (.next ρ)=some .non:=rfl
@[simp] theorem wo(a:Option MV)(l:Rho)(m:MV):put (a::l) 0 m=some m::l:=rfl
@[simp] theorem wp(a:Option MV)(l:Rho)(n:Nat)(m:MV):put (a::l) (n+1) m=a::put l n m:=rfl
@[simp] theorem jr(src:List ME)(ρ₀ ρ:Rho):(R.next ρ).back src ρ₀=.next (bf src ρ₀ ρ):=rfl
@[simp] theorem Dx(src:List ME)(ρ₀:Rho)(v:PV):(R.ret v).back src ρ₀=.ret v:=rfl
@[simp] theorem B6(body:PV->Rho->R)(ρ:Rho):bx body [] ρ=.next ρ:=rfl
theorem cR{j:Int}(h0:0<=j)(h1:j<4611686018427387904):bF .rng [.int j]=some ((List.range j.toNat).map λ(k:Nat)=>.int (k:Int)):=by
 rw [yG,if_pos ⟨by omega,by omega⟩]
 congr 1
 exact List.map_congr_left λk _=>by rw [Int.zero_add]
theorem lx{n:Nat}{i:Int}(h0:0<=i)(h:i<n):place n i=some i.toNat:=by unfold place;rw [if_pos h0,if_pos h]
noncomputable def leT(a b:List Int):Prop:=lexLt b a=false
theorem sortI_perm(l:List Int):(sortI l).Perm l:=by rw [dR];exact L2.Srt.sortI_perm l
theorem sortT_perm(l:List (List Int)):(sortT l).Perm l:=by rw [dS];exact L2.Srt.sortT_perm l
theorem sortI_len(l:List Int):(sortI l).length=l.length:=(sortI_perm l).length_eq
theorem sortT_len(l:List (List Int)):(sortT l).length=l.length:=(sortT_perm l).length_eq
theorem fo{l:List Int}{x:Int}:x∈sortI l ↔ x∈l:=(sortI_perm l).mem_iff
theorem dF{l:List (List Int)}{x:List Int}:x∈sortT l ↔ x∈l:=(sortT_perm l).mem_iff
theorem sortI_rises(l:List Int):(sortI l).Pairwise (· <= ·):=by rw [dR];exact L2.Srt.sortI_rises l
theorem sortT_rises(l:List (List Int)):(sortT l).Pairwise leT:=by
 rw [dS]
 exact(L2.Srt.sortT_rises l).imp λh=>by unfold leT;rw [iK];exact h
theorem sortT_id{l:List (List Int)}(h:l.Pairwise leT):sortT l=l:=by
 rw [dS]
 exact L2.Srt.sortT_id (h.imp λh=>by unfold leT at h;rw [iK]at h;exact h)
theorem sortT_of_perm{a b:List (List Int)}(p:a.Perm b):sortT a=sortT b:=by rw [dS,dS];exact L2.Srt.sortT_of_perm p
theorem sortI_of_perm{a b:List Int}(p:a.Perm b):sortI a=sortI b:=by rw [dR,dR];exact L2.Srt.sortI_of_perm p
theorem ly{l:List Int}(h:l.Nodup):(sortI l).Pairwise (· < ·):=by
 have h1:=sortI_rises l
 have h2:(sortI l).Nodup:=(sortI_perm l).nodup_iff.mpr h
 exact(h1.and h2).imp λ⟨a,b⟩=>by omega
theorem By{k:Int}{l:List Int}:k∈dd l ↔ k∈l:=by rw [oS];exact L2.St.gM
theorem dd_nodup(l:List Int):(dd l).Nodup:=by rw [oS];exact L2.St.dd_nodup l
theorem wq{l:List Int}(h:l.Pairwise (· < ·)):l.Nodup:=h.imp λ{a b} q=>by omega
noncomputable def mM(ts:List Int):Prop:=ts.Pairwise (· < ·)/\∀h∈ts,0<=h/\h<=59
noncomputable def fq(R:List (List Int)):Prop:=(∀ts∈R,mM ts)/\R.Pairwise leT/\R.length<=60
theorem wt:∀(n:Nat) (l:List Int),l.Nodup->(∀x∈l,0<=x/\x<(n:Int))->l.length<=n
 |0,l,_,h=>by
  cases l with
  |nil=>simp
  |cons x r=>have:=h x (.head _);omega
 |n+1,l,hn,h=>by
  have h1:=wt n (l.filter λx=>decide (x≠(n:Int))) (hn.filter _) (λx hx=>by
   obtain⟨h2,h3⟩:=List.mem_filter.mp hx
   have h4:=of_decide_eq_true h3
   have:=h x h2
   omega)
  have h2:∀l:List Int,l.Nodup->l.length<=(l.filter λx=>decide (x≠(n:Int))).length+1:=by
   intro l
   induction l with
   |nil=>intro _;simp
   |cons x r ih =>
    intro hn
    by_cases e:x=(n:Int)
    ·have hr:r.filter (λx=>decide (x≠(n:Int)))=r:=List.filter_eq_self.mpr λy hy=>decide_eq_true λz=>(List.nodup_cons.mp hn).1 (by rw [e,<- z];exact hy)
     rw [List.filter_cons_of_neg (by simp [e]),hr]
     simp
    ·rw [List.filter_cons_of_pos (by simp [e])]
     have:=ih (List.nodup_cons.mp hn).2
     simp only [List.length_cons]
     omega
  have:=h2 l hn
  omega
theorem gw{ts:List Int}(h:mM ts):ts.length<=60:=wt 60 ts (wq h.1) λx hx=>by have:=h.2 x hx;omega
noncomputable def lz(ns:List Int)(lo hi:Option Int):List Int:=(ns.drop (gI ns.length 0 lo)).take (gI ns.length ns.length hi-gI ns.length 0 lo)
@[simp] theorem Dy(ns:List Int)(lo hi:Option Int):cut (ns.map .int) lo hi=(lz ns lo hi).map .int:=by
 unfold cut lz
 rw [List.length_map,List.map_take,List.map_drop]
theorem o7(ns:List Int){a b:Int}(ha:0<=a)(hb:0<=b):(lz ns (some a) (some b)).length<=(b-a).toNat:=by
 unfold lz
 rw [List.length_take,List.length_drop]
 have e1:gI ns.length ns.length (some b)=min b.toNat ns.length:=by show(if b<0 then _ else _)=_;rw [if_neg (Int.not_lt.mpr hb)]
 have e2:gI ns.length 0 (some a)=min a.toNat ns.length:=by show(if a<0 then _ else _)=_;rw [if_neg (Int.not_lt.mpr ha)]
 rw [e1,e2]
 obtain⟨A,rfl⟩:=Int.eq_ofNat_of_zero_le ha
 obtain⟨B,rfl⟩:=Int.eq_ofNat_of_zero_le hb
 rw [Int.toNat_sub,Int.toNat_natCast,Int.toNat_natCast]
 refine Nat.le_trans (Nat.min_le_left _ _) ?_
 rcases Nat.le_total A ns.length with h|h
 ·rw [Nat.min_eq_left h];exact Nat.sub_le_sub_right (Nat.min_le_left _ _) A
 ·rw [Nat.min_eq_right h,Nat.sub_eq_zero_of_le (Nat.min_le_right _ _)];exact Nat.zero_le _
end MM
structure PySem.W.Fast:Prop where (tw16976253298018668683 tw15664948699780779262 tw17575580157121254976 tw2283564522479487253 tw5669931170894095998 tw1243237925275539583 tw1996020327821220978 tw121474634304279624 tw3174890454903365054 tw3170091811249710576 tw6076447460363162366 tw17765813462721202148 tw10058167561782459186 tw10360927162225542965 tw7896164139524545306 tw11499405279348670142 tw2072385881973062309 tw8778785672069177337 tw6126479002332178572 tw11324549882836217903 tw2438021522532910718 tw473674402201075712 tw5747867580294820433 tw12784259140995461767 tw9549889092886383988 tw5654626937596783915 tw7818549002289720499 tw1125664329182434879 tw7346480406985797671 tw6963953675330322245 tw4918395976603353703 tw3144444787743110960 tw8326020180684330074 tw2673827554478805994 tw2315979748138093630 tw1647467435097545973 tw9986214576034062265 tw9787285080581701774 tw11548439827840362124 tw13068560101771938675 tw13924431624797499326 tw4516954743909189519 tw4701799385158838116 tw5066151723561823631 tw16111507895765898635 tw7172727390965755930 tw18420708919976455905 tw8087371580765413388 tw10890456891813572157 tw1013430486795095350 tw4168448563124636184 tw11280343503838439966 tw784298476905862248 tw13377097681897688035 tw14906497953122675748 tw15704535155733815833 tw1387775109329382617 tw3527010417629837563 tw4369016836878328577 tw18147182965719112592 tw10178292776380095603 tw981116277171419817 tw13201007859940449176 tw5656613621357584767 tw10027255960296170430 tw11006479301830158205 tw16974162478784806024 tw13939408090568639148 tw6997553188449927172 tw9977739643707993151 tw17864212314188378469 tw10107980566977917497 tw4118665395942957572 tw5945254482926843759 tw14671219547766994970 tw2330533168432349045 tw5455124012562108821 tw4884002273406791503 tw4103439719164365641 tw2454953955390385556 tw14296388345374096681 tw1520370590098821907 tw6040681484344499206 tw3061184921313122576 tw9016537938183009385 tw15159144085201816108 tw11523093175634691402 tw2149448919459064563 tw12327921462980010512 tw3637841057403547854 tw8264288155336639971 tw12457937513080005918 tw3828741995677151558 tw892588231713213023 tw6776750473939319502 tw544002674145853923 tw9321804905001486263 tw6031589942789836266 tw1428210765259457504 tw5006642047741329090 tw3632594692844457731 tw13739589198910625822 tw17615874822218300927 tw12799348035828895043 tw6033676812371414180 tw3073232378504525463 tw13775037419591187987 tw16107407148455977559 tw14374250545240594461 tw17964502631455597946 tw1642306116808158582 tw13586076713533135308 tw3118719846058939637 tw15038270471798024994 tw6186549909439047938 tw14410612915149264884 tw13040447918291323931 tw6920781682165648367 tw8526003432750879861 tw8969257105096626700 tw4806390911098559167 tw3678832748177201212 tw3181305631078756551 tw15523836614428134712 tw2799778317752625144 tw6651110876348742803 tw3141312376285621482 tw4770732406206342000 tw2495391081829254576 tw9249182417200327038 tw3442326126817169948 tw4699339600907065387 tw5601975593113518177 tw3823056068630339950 tw3199707032420840432 tw15452819010038111478 tw10558944246357253903 tw11368279565032600662 tw1418188886464536790 tw12489234827060240138 tw6072393956602952135 tw11299610444788829294 tw2143338457807080813 tw5285902268568209708 tw10526205590847106508 tw16460263580827825731 tw5385283475412353333 tw12080928190370297790 tw16755432148540116812 tw15999807164003865328 tw14151762320514177802 tw2005780775823094128 tw4862145550398736138 tw14218508686150043187 tw4071851219689288711 tw1218629493581655185 tw1463483379522026075 tw17626742226891024124 tw7207364467372434589 tw9944801189959829901 tw6710397326009495100 tw2453625628942706567 tw6232805810518756831 tw16810883448176029571 tw399517900825496225 tw4174295272578399844 tw2979988347834617538 tw16059213004437651442 tw3022573143730086369 tw9692492856094481315 tw2977746854778310212 tw14496644597793964008 tw5555445671215394929 tw3314294421733183155 tw13442555748172378669 tw10568926679344674847 tw14731722531256419459 tw905883834594209441 tw10269472782113852101 tw1931608612710556185 tw5521228557528535497 tw6321369979467458936 tw4987631066005357729 tw8986455495081300086 tw6012914162324115797 tw2338645607131035601 tw3856631653394893367 tw3227821049441465607 tw10741027262125499440 tw18179905085063075845 tw11375853326959676016 tw18094018836292767415 tw15451298264342462433 tw2570118051252850150 tw4429224731032117063 tw13590714862058485469 tw8372797964297519646 tw9940742755257965962 tw11261844127281701821 tw7497515463190969290 tw2197309224240088855 tw9248249257415279559 tw1869444404353273537 tw13551744990974783225 tw1964623697020993151 tw6285862975370770923 tw7588928973764697449 tw735175148042488708 tw10781420233508767677 tw3112635767426025567 tw5803590086695851333 tw17453216802111645952 tw15771043379923674268 tw2180606206559486363 tw8427876559361726814 tw8439739792596496931 tw3428248471930276588 tw612822319126510124 tw8882379777120712094 tw18338545913109679746 tw13153171962687002475 tw11578316719340108586 tw12884217309895633723 tw4184726130712845675 tw18289915473856016283 tw9224313086908671023 tw10357490257314035399 tw6981525694528239234 tw2127288626871320759 tw13334683271581794960 tw5371480279525154176 tw17190514757376822459 tw7544428848709282589 tw2057730388110856675 tw2852060496415326240 tw13009481510648239142 tw17974027198619490087 tw9248251766213958877 tw17432021461763399374 tw14062876690033523865 tw10926982642582732751 tw8493001675596099190 tw12917764705249925423 tw5320205096717159558 tw4197034541192700719 tw15401747351036184637 tw13180936600199757429 tw2615752191747787180 tw1740799189237228051 tw3846355154324924621 tw4002130659843807960 tw524384388999634999 tw12112703502024467356 tw15135438282897910971 tw4851695635772372501 tw7580939635060383466 tw12463065276262518374 tw4742242833930207703 tw6993766354590111967 tw16435659294399418277 tw14590990857192208166 tw13831987543112204855 tw577248113155119424 tw15723694112621518000 tw7822163428900729802 tw17052613691649324440 tw7055846025081404682 tw811331616021031316 tw11200343508880692705 tw5650215704363399100 tw17355374711084366566 tw10280756347237527153 tw13507518543305511113 tw14637398464710676067 tw15956429045561967298 tw6508983831694223280 tw2286214249048815152 tw17223439261338324278 tw782924532712078779 tw9608324839314032301 tw1582822538176361372 tw1390422738383570198 tw103413567892799886 tw17692171162644186672 tw14749269296259022600 tw14858334570768874551 tw16250088092018946334 tw5981101099847886429 tw5505212361065266870:True)
namespace My
open PySem L2 MM
noncomputable def bq:MD:=⟨"is_number_below",["thing","bound"],["thing","bound"],
  [.ite (.or (.blt .isBool [(.bor 0)]) (.not (.blt .isInt [(.bor 0)])))
   [.ret (.cst (.bl false))]
   [],
  .ret (.chain .le .lt (.cst (.int 0)) (.bor 0) (.bor 1))],none⟩
noncomputable def dc:MD:=⟨"strip_without",["strip","hole"],["strip","hole"],
  [.ret (.blt .tupleOf [(.comp .seq [(.bor 0)] [1] (.cmp .ne (.bor 0) (.bor 1)) (.var 0))])],none⟩
noncomputable def jt:MD:=⟨"knotted",["rest","hole"],["rest","hole"],
  [.ret (.blt .tupleOf [(.blt .sorted [(.comp .seq [(.bor 0)] [1] (.cst (.bl true)) (.call 1 [(.bor 0),(.bor 1)]))])])],none⟩
noncomputable def lA:MD:=⟨"bitten",["rest","hole"],["rest","hole"],
  [.ret (.blt .tupleOf [(.comp .seq [(.bor 0)] [1] (.cmp .notIn (.bor 1) (.bor 0)) (.var 0))])],none⟩
noncomputable def g_:MD:=⟨"is_whole",["rest"],["rest"],
  [.ret (.cmp .isIn (.tup []) (.bor 0))],none⟩
noncomputable def ju:MD:=⟨"is_bare",["rest"],["rest"],
  [.ret (.cmp .eq (.blt .len [(.bor 0)]) (.cst (.int 0)))],none⟩
noncomputable def fF:MD:=⟨"other_hand",["hand"],["hand"],
  [.ret (.ite (.cmp .eq (.bor 0) (.cst (.str "weaver"))) (.cst (.str "moth")) (.cst (.str "weaver")))],none⟩
noncomputable def lC:MD:=⟨"behind",["rest","hand","reply"],["rest","hand","reply"],
  [.ite (.cmp .isN (.bor 2) (.cst .non))
   [.ret (.var 0)]
   [],
  .ret (.ite (.cmp .eq (.bor 1) (.cst (.str "weaver"))) (.call 2 [(.bor 0),(.bor 2)]) (.call 3 [(.bor 0),(.bor 2)]))],none⟩
noncomputable def fG:MD:=⟨"_law_cell",["script","k"],["script","k"],
  [.ite (.cmp .lt (.bor 1) (.blt .len [(.bor 0)]))
   [.ret (.idx (.bor 0) (.bor 1))]
   [],
  .ret (.cst (.int 0))],none⟩
noncomputable def gb:MD:=⟨"_law_mixed",["cell","by"],["cell","by"],
  [.ret (.bin .mod (.bin .mul (.bin .mod (.bor 0) (.cst (.int 2305843009213693951))) (.bor 1)) (.cst (.int 2305843009213693951)))],none⟩
noncomputable def cb:List MS:=[.ite (.cmp .notIn (.bin .mod (.bor 3) (.bor 1)) (.bor 5))
   [.append 5 (.bin .mod (.bor 3) (.bor 1))]
   [],
  .set 3 (.bin .fdiv (.bor 3) (.bor 1))]
noncomputable def eJ:MD:=⟨"_law_strip",["cell","many","most"],["cell","many","most","left","size","strip","k"],
  [.set 3 (.call 9 [(.bor 0),(.cst (.int 1181783497276652981))]),
  .set 4 (.bin .mod (.bor 3) (.bin .add (.bor 2) (.cst (.int 1)))),
  .set 3 (.bin .fdiv (.bor 3) (.bin .add (.bor 2) (.cst (.int 1)))),
  .setOwn 5 (.lst []),
  .for1 6 .rng [(.bor 4)] cb,
  .ret (.blt .tupleOf [(.blt .sorted [(.bor 5)])])],none⟩
noncomputable def eM:MD:=⟨"_law_whole",["found"],["found"],
  [.ret (.and (.blt .isInt [(.bor 0)]) (.not (.blt .isBool [(.bor 0)])))],none⟩
noncomputable def cg:List MS:=[.ite (.or (.not (.call 11 [(.idx (.bor 0) (.bor 2))])) (.cmp .ne (.idx (.bor 0) (.bor 2)) (.idx (.bor 1) (.bor 2))))
   [.ret (.cst (.bl false))]
   []]
noncomputable def eU:MD:=⟨"_law_numbers",["found","due"],["found","due","k"],
  [.ite (.or (.not (.blt .isList [(.bor 0)])) (.cmp .ne (.blt .len [(.bor 0)]) (.blt .len [(.bor 1)])))
   [.ret (.cst (.bl false))]
   [],
  .for1 2 .rng [(.blt .len [(.bor 1)])] cg,
  .ret (.cst (.bl true))],none⟩
noncomputable def dX:MD:=⟨"_law_taken_by",["taken","begin"],["taken","begin"],
  [.ret (.blt .sorted [(.comp .rng [(.blt .len [(.bor 0)])] [0,1] (.cmp .eq (.bin .mod (.bor 0) (.cst (.int 2))) (.bor 2)) (.idx (.bor 1) (.bor 0)))])],none⟩
noncomputable def cF:List MS:=[.ite (.not (.blt .any [(.comp .seq [(.bor 4)] [2] (.cst (.bl true)) (.cmp .isIn (.bor 0) (.bor 1)))]))
   [.append 3 (.blt .tupleOf [(.comp .seq [(.bor 4)] [1] (.cmp .notIn (.bor 0) (.bor 1)) (.var 0))])]
   []]
noncomputable def fH:MD:=⟨"_law_left",["ribbons","knots","bites"],["ribbons","knots","bites","strips","ribbon"],
  [.setOwn 3 (.lst []),
  .for1 4 .seq [(.bor 0)] cF,
  .ret (.blt .tupleOf [(.blt .sorted [(.bor 3)])])],none⟩
noncomputable def fu:MD:=⟨"_law_won",["strips"],["strips"],
  [.ite (.cmp .isIn (.tup []) (.bor 0))
   [.ret (.cst (.str "weaver"))]
   [],
  .ite (.cmp .eq (.bor 0) (.tup []))
   [.ret (.cst (.str "moth"))]
   [],
  .ret (.cst .non)],none⟩
noncomputable def fJ:List MS:=[.dput 2 (.bor 3) (.cst (.bl true))]
noncomputable def hV:MD:=⟨"_law_free",["count","taken"],["count","taken","marks","hole"],
  [.newD false 2,
  .for1 3 .seq [(.bor 1)] fJ,
  .ret (.comp .rng [(.bor 0)] [2] (.dIn true (.bor 0) (.bor 1)) (.var 0))],none⟩
noncomputable def eV:List MS:=[.set 4 (.call 10 [(.bor 3),(.bor 1),(.cst (.int 6))]),
  .append 2 (.blt .tupleOf [(.blt .sortedSet [(.bin .add (.bor 4) (.tup [(.bin .mod (.bor 3) (.bor 1))]))])])]
noncomputable def gc:MD:=⟨"_law_grown",["script","count"],["script","count","strips","cell","strip"],
  [.setOwn 2 (.lst []),
  .for1 3 .seq [(.slice (.bor 0) (.cst (.int 3)) (.bin .add (.cst (.int 3)) (.bin .mod (.call 8 [(.bor 0),(.cst (.int 1))]) (.cst (.int 9)))))] eV,
  .retOwn 2],none⟩
noncomputable def a8:MD:=⟨"_law_lists",["table"],["table"],
  [.ret (.lst [(.callM 23 0 []),(.callM 24 0 []),(.callM 25 0 []),(.callM 26 0 [])])],none⟩
noncomputable def hW:MD:=⟨"_law_dues",["count","taken","begin"],["count","taken","begin"],
  [.ret (.lst [(.var 1),(.call 13 [(.bor 1),(.bor 2)]),(.call 13 [(.bor 1),(.bin .sub (.cst (.int 1)) (.bor 2))]),(.call 16 [(.bor 0),(.bor 1)])])],none⟩
noncomputable def eW:List MS:=[.ite (.not (.call 12 [(.idx (.bor 0) (.bor 2)),(.idx (.bor 1) (.bor 2))]))
   [.ret (.cst (.bl false))]
   []]
noncomputable def gf:MD:=⟨"_law_right",["lists","due"],["lists","due","k"],
  [.for1 2 .rng [(.cst (.int 4))] eW,
  .ret (.cst (.bl true))],none⟩
noncomputable def bO:MD:=⟨"Table.hand_at",["self","place"],["self","place"],
  [.ret (.ite (.cmp .eq (.bin .mod (.bor 1) (.cst (.int 2))) (.cst (.int 0))) (.fld 0 2) (.call 6 [(.fld 0 2)]))],some "hand_at"⟩
noncomputable def aW:MD:=⟨"Table.holes_taken_by",["self","hand"],["self","hand"],
  [.ret (.blt .sorted [(.comp2 [(.fldL 0)] [0,1] (.cmp .eq (.callM 21 2 [(.bor 0)]) (.bor 3)) (.var 1))])],some "holes_taken_by"⟩
noncomputable def bP:MD:=⟨"Table.deeds",["self"],["self"],
  [.ret (.blt .listOf [(.fldL 0)])],some "deeds"⟩
noncomputable def bQ:MD:=⟨"Table.knots",["self"],["self"],
  [.ret (.callM 22 0 [(.cst (.str "weaver"))])],some "knots"⟩
noncomputable def bR:MD:=⟨"Table.bites",["self"],["self"],
  [.ret (.callM 22 0 [(.cst (.str "moth"))])],some "bites"⟩
noncomputable def cG:MD:=⟨"Table.free",["self"],["self"],
  [.ret (.comp .rng [(.fld 0 0)] [0] (.cmp .notIn (.bor 0) (.fldL 1)) (.var 0))],some "free"⟩
noncomputable def cH:List MS:=[.set 1 (.call 7 [(.bor 1),(.callM 21 0 [(.bor 2)]),(.bor 3)])]
noncomputable def dz:MD:=⟨"Table.rest",["self"],["self","left","place","hole"],
  [.set 1 (.fld 0 1),
  .forT [2,3] .enm [(.fldL 0)] cH,
  .ret (.var 1)],some "rest"⟩
noncomputable def bD:MD:=⟨"Table.winner",["self"],["self","left"],
  [.set 1 (.callM 27 0 []),
  .ite (.call 4 [(.bor 1)])
   [.ret (.cst (.str "weaver"))]
   [],
  .ite (.call 5 [(.bor 1)])
   [.ret (.cst (.str "moth"))]
   [],
  .ret (.cst .non)],some "winner"⟩
noncomputable def dA:MD:=⟨"Table.take",["self","hole"],["self","hole"],
  [.ite (.cmp .notN (.callM 28 0 []) (.cst .non))
   [.never]
   [],
  .ite (.not (.call 0 [(.bor 1),(.fld 0 0)]))
   [.never]
   [],
  .ite (.inO false (.bor 1) 0)
   [.never]
   [],
  .appO 0 (.var 1),
  .retT (.callM 28 0 [])],some "take"⟩
noncomputable def defs:List MD:=[bq,dc,jt,lA,g_,ju,fF,lC,fG,gb,eJ,eM,eU,dX,fH,fu,hV,gc,a8,hW,gf,bO,aW,bP,bQ,bR,cG,dz,bD,dA]
noncomputable def fO:MD:=⟨"law",["script"],["script","count","ribbons","loom","tables","taken","left","held","copies","cell","at","free","one","lists","due","numbers","k"],[],none⟩
noncomputable def tab:Tab:=⟨defs.map v7,[],[[],[],[],[],[],[],[],[],[],[],[],[],[],[],[],[],[],[],[],[],[],[],[],[],[],[],[],[],[],[]],defs.map (·.meth)⟩
noncomputable def cellOf(ns:List Int)(k:Int):Int:=ns.getD k.toNat 0
theorem wu(n:Nat)(m:MV)(ns:List Int)(k:Int)(hm:bj (some m)=some (ofL ns))(h0:0<=k):ae defs (n+1) 8 [m,.val (.int k)]=some (.int (cellOf ns k)):=by
 rw [ax (d:=fG) rfl rfl]
 unfold cellOf
 simp [fG,exs,ex,ev,evs,evB,hm]
 by_cases h:k<(ns.length:Int)
 ·have h2:k.toNat<ns.length:=by omega
  simp [h,lx h0 h,h2]
 ·have h2:ns.length<=k.toNat:=by omega
  simp [h,h2]
theorem nO{cal:Cal}{i:Nat}{k:Sk}{src:List ME}{body:List MS}{ρ:Rho}{xs:List PV}(h:(evs cal src ρ).bind (bF k)=some xs):ex cal (.for1 i k src body) ρ=(bx (λx ρ'=>exs cal body (put ρ' i (.val x))) xs (bu src ρ)).back src ρ:=by
 rw [ex,h]
theorem bE(cal:Cal)(m:MS)(ms:List MS)(ρ:Rho):exs cal (m::ms) ρ=(ex cal m ρ).andThen λρ'=>exs cal ms ρ':=by rw [exs]
theorem bN{cal:Cal}{b:Blt}{e:ME}{ρ:Rho}{v:PV}(h:ev cal e ρ=some v):ev cal (.blt b [e]) ρ=aE b [v]:=by
 rw [ev,evs,h,Option.bind_some,evs,Option.map_some,Option.bind_some]
theorem Bz{cal:Cal}{i:Nat}{e:ME}{ρ:Rho}{v:PV}(h:ev cal e ρ=some v):ex cal (.set i e) ρ=.next (put ρ i (.val v)):=by
 rw [ex,h];rfl
theorem BA{cal:Cal}{e:ME}{ρ:Rho}{v:PV}(h:ev cal e ρ=some v):ex cal (.ret e) ρ=.ret v:=by
 rw [ex,h];rfl
theorem bi{cal:Cal}{f:Nat}{es:List ME}{ρ:Rho}{vs:List MV}{v:PV}(h:evA cal es ρ=some vs)(h':cal f vs=some v):ev cal (.call f es) ρ=some v:=by
 rw [ev,h,Option.bind_some,h']
theorem rH{α:Type}{cal:Cal}{k:Sk}{src:List ME}{js:List Nat}{elt:ME}{ρ:Rho}{vs:List PV}{xs:List α}{g h:α->PV}(h1:evs cal src ρ=some vs)(h2:bF k vs=some (xs.map g))(hl:xs.length<=10000)
  (h3:∀x∈xs,ev cal elt (dq js ρ (g x))=some (h x)):ev cal (.comp k src js (.cst (.bl true)) elt) ρ=some (.lst (xs.map h)):=by
 rw [ev,h1,Option.bind_some,h2,Option.bind_some,if_pos (by simpa using hl),qo (h:=h) (λx _=>by simp [ev]) h3]
 rfl
theorem jv(cal:Cal)(v:PV)(ρ:Rho):ev cal (.cst v) ρ=some v:=by rw [ev]
theorem gh{cal:Cal}{op:Op2}{a b:ME}{ρ:Rho}{x y:PV}(h:ev cal a ρ=some x)(h':ev cal b ρ=some y):ev cal (.bin op a b) ρ=fW op x y:=by
 rw [ev,h,Option.bind_some,h',Option.bind_some]
theorem lD{cal:Cal}{op:Cp}{a b:ME}{ρ:Rho}{x y:PV}(h:ev cal a ρ=some x)(h':ev cal b ρ=some y):ev cal (.cmp op a b) ρ=(bS op x y).map .bl:=by
 rw [ev,h,Option.bind_some,h',Option.bind_some]
theorem wv{cal:Cal}{a:ME}{ρ:Rho}{b:Bool}(h:ev cal a ρ=some (.bl b)):evB cal a ρ=some b:=by
 unfold evB
 rw [h]
 rfl
theorem dY{cal:Cal}{a i:ME}{ρ:Rho}{x y:PV}(h:ev cal a ρ=some x)(h':ev cal i ρ=some y):ev cal (.idx a i) ρ=gH x y:=by
 rw [ev,h,Option.bind_some,h',Option.bind_some]
theorem cT{body:PV->Rho->R}{x:PV}{xs:List PV}{ρ ρ1:Rho}(h:body x ρ=.next ρ1):bx body (x::xs) ρ=bx body xs ρ1:=by rw [bx,h]
theorem lE{cal:Cal}{m:MS}{ρ ρ':Rho}{ms:List MS}{X:Option PV}(h:ex cal m ρ=.next ρ')(k:cI (exs cal ms ρ')=X):cI (exs cal (m::ms) ρ)=X:=by
 rw [bE,h,cQ,k]
theorem dZ{cal:Cal}{e:ME}{ρ:Rho}{v:PV}{ms:List MS}(h:ev cal e ρ=some v):cI (exs cal (.ret e::ms) ρ)=some v:=by
 rw [bE,BA h];rfl
theorem Dz{cal:Cal}{i:Nat}{e:ME}{ρ:Rho}{v:PV}{ms:List MS}{r:R}(h:ev cal e ρ=some v)(k:exs cal ms (put ρ i (.val v))=r):exs cal (.set i e::ms) ρ=r:=by
 rw [bE,Bz h,cQ,k]
theorem DA{cal:Cal}{m:MS}{ρ ρ':Rho}(h:ex cal m ρ=.next ρ'):exs cal [m] ρ=.next ρ':=by
 rw [bE,h,cQ,exs]
theorem qr{cal:Cal}{c:ME}{a b:List MS}{ρ:Rho}{p:Bool}(h:ev cal c ρ=some (.bl p)):ex cal (.ite c a b) ρ=if p=true then exs cal a ρ else exs cal b ρ:=by
 rw [ex,wv h,fE]
theorem DB{cal:Cal}{c:ME}{a ms:List MS}{ρ:Rho}{X:Option PV}(h:ev cal c ρ=some (.bl false))(k:cI (exs cal ms ρ)=X):cI (exs cal (.ite c a []::ms) ρ)=X:=by
 rw [bE,qr h,if_neg (by decide),exs,cQ,k]
theorem ww{cal:Cal}{f:Nat}{as es:List ME}{ρ:Rho}{v:PV}{vs:List MV}(h:ev cal (.call f as) ρ=some v)(k:evA cal es ρ=some vs):evA cal (.call f as::es) ρ=some (.val v::vs):=by
 rw [evA,h,Option.bind_some,k]
 ·rfl
 ·exact nofun
 ·exact nofun
theorem iT{cal:Cal}{a i:ME}{es:List ME}{ρ:Rho}{v:PV}{vs:List MV}(h:ev cal (.idx a i) ρ=some v)(k:evA cal es ρ=some vs):evA cal (.idx a i::es) ρ=some (.val v::vs):=by
 rw [evA,h,Option.bind_some,k]
 ·rfl
 ·exact nofun
 ·exact nofun
theorem gJ{cal:Cal}{i:Nat}{es:List ME}{ρ:Rho}{m:MV}{vs:List MV}(h:eA (ρ[i]?).join=some m)(k:evA cal es ρ=some vs):evA cal (.bor i::es) ρ=some (m::vs):=by
 rw [evA,h,Option.bind_some,k];rfl
theorem wz{cal:Cal}{a:ME}{ρ:Rho}{p:Bool}(h:ev cal a ρ=some (.bl p)):ev cal (.not a) ρ=some (.bl (!p)):=by
 rw [ev,h];rfl
theorem DC{cal:Cal}{c:ME}{a ms:List MS}{ρ:Rho}{r:R}(h:ev cal c ρ=some (.bl false))(k:exs cal ms ρ=r):exs cal (.ite c a []::ms) ρ=r:=by
 rw [bE,qr h,if_neg (by decide),exs,cQ,k]
theorem EV{cal:Cal}{a b:ME}{ρ:Rho}{x:PV}{xs:List PV}{p:Bool}(h:isIn x xs=some p)(ha:ev cal a ρ=some x)(hb:ev cal b ρ=some (.tup xs)):ev cal (.cmp .isIn a b) ρ=some (.bl p):=by
 rw [lD ha hb,yy,h];rfl
theorem DE{cal:Cal}{i:Nat}{e:ME}{ρ:Rho}{v:PV}{xs:List PV}(ho:(ρ[i]?).join=some (.own xs))(h:ev cal e ρ=some v)(hl:xs.length<10000):ex cal (.append i e) ρ=.next (put ρ i (.own (xs ++ [v]))):=by
 rw [ex,ho,h];simp [hl]
theorem yH{cal:Cal}{a:ME}{ρ:Rho}{xs:List PV}{p:Bool}(h:((xs.length:Int) == 0)=p)(ha:ev cal a ρ=some (.tup xs)):ev cal (.cmp .eq (.blt .len [a]) (.cst (.int 0))) ρ=some (.bl p):=by
 rw [lD (bN ha) (jv _ _ _),<- h];rfl
theorem de{cal:Cal}{e:ME}{es:List ME}{ρ:Rho}{v:PV}{vs:List PV}(h:ev cal e ρ=some v)(k:evs cal es ρ=some vs):evs cal (e::es) ρ=some (v::vs):=by
 rw [evs,h,Option.bind_some,k];rfl
theorem rJ{cal:Cal}{es:List ME}{ρ:Rho}{vs:List PV}(h:evs cal es ρ=some vs)(hl:vs.length<=10000:=by simp):ev cal (.tup es) ρ=some (.tup vs):=by
 rw [ev,h,Option.bind_some,if_pos hl]
theorem BB{cal:Cal}{c a b:ME}{ρ:Rho}{v:PV}(h:ev cal c ρ=some (.bl true))(k:ev cal a ρ=some v):ev cal (.ite c a b) ρ=some v:=by
 rw [ev,h];exact k
theorem BC{cal:Cal}{c a b:ME}{ρ:Rho}{v:PV}(h:ev cal c ρ=some (.bl false))(k:ev cal b ρ=some v):ev cal (.ite c a b) ρ=some v:=by
 rw [ev,h];exact k
theorem o8{α:Type}{cal:Cal}{k:Sk}{src:List ME}{js:List Nat}{c elt:ME}{ρ:Rho}{vs:List PV}{xs:List α}{g h:α->PV}{p:α->Bool}(h1:evs cal src ρ=some vs)(h2:bF k vs=some (xs.map g))(hl:xs.length<=10000)
  (h3:∀x∈xs,ev cal c (dq js ρ (g x))=some (.bl (p x))) (h4:∀x∈xs,p x=true->ev cal elt (dq js ρ (g x))=some (h x)):ev cal (.comp k src js c elt) ρ=some (.lst ((xs.filter p).map h)):=by
 rw [ev,h1,Option.bind_some,h2,Option.bind_some,if_pos (by rw [List.length_map];exact hl),cm (p:=p) (h:=h) (λx m=>by rw [h3 x m];rfl) h4]
 rfl
theorem DF{cal:Cal}{a b:ME}{ρ:Rho}{x y:PV}{xs:List PV}{p:Bool}(h:isIn x xs=some p)(ha:ev cal a ρ=some x)(hb:ev cal b ρ=some y)(hs:be y=some xs):ev cal (.cmp .notIn a b) ρ=some (.bl (!p)):=by
 rw [lD ha hb,show bS .notIn x y=((be y).bind (isIn x)).map λp=>!p from rfl,hs,Option.bind_some,h];rfl
noncomputable def di(c b:Int):Int:=c % 2305843009213693951*b % 2305843009213693951
theorem yI(n:Nat)(c b:Int):ae defs (n+1) 9 [.val (.int c),.val (.int b)]=some (.int (di c b)):=by
 rw [ax (d:=gb) rfl rfl]
 have h1:0<=c % 2305843009213693951:=Int.emod_nonneg _ (by decide)
 have h2:c % 2305843009213693951<2305843009213693951:=Int.emod_lt_of_pos _ (by decide)
 have h3:(-18446744073709551616<c % 2305843009213693951/\c % 2305843009213693951<18446744073709551616\/-18446744073709551616<b/\b<18446744073709551616):=.inl ⟨by omega,by omega⟩
 exact dZ ((gh ((gh ((gh rfl rfl).trans rfl) rfl).trans (show fW .mul (.int (c % 2305843009213693951)) (.int b)=some (.int (c % 2305843009213693951*b)) from if_pos h3)) rfl).trans rfl)
noncomputable def dB(many:Int):Nat->Int->List Int->List Int
 |0,_,acc=>acc
 |n+1,left,acc=>dB many n (left / many) (if left % many∈acc then acc else acc ++ [left % many])
theorem d7(many:Int)(hm:0<many):∀(n:Nat) (left:Int) (acc:List Int),acc.Nodup->(∀h∈acc,0<=h/\h<many)->(dB many n left acc).Nodup/\(∀h∈dB many n left acc,0<=h/\h<many)/\(dB many n left acc).length<=acc.length+n
 |0,_,acc,h1,h2=>⟨h1,h2,by simp [dB]⟩
 |n+1,left,acc,h1,h2=>by
  rw [dB]
  by_cases q:left % many∈acc
  ·rw [if_pos q]
   obtain⟨a,b,c⟩:=d7 many hm n (left / many) acc h1 h2
   exact⟨a,b,by omega⟩
  ·rw [if_neg q]
   obtain⟨a,b,c⟩:=d7 many hm n (left / many) (acc ++ [left % many]) (List.nodup_append.mpr ⟨h1,by simp,λx hx y hy=>by rw [List.mem_singleton.mp hy];exact λz=>q (z ▸ hx)⟩) (λh hh=>by
    rcases List.mem_append.mp hh with hh|hh
    ·exact h2 h hh
    ·rw [List.mem_singleton.mp hh];exact⟨Int.emod_nonneg _ (by omega),Int.emod_lt_of_pos _ hm⟩)
   exact⟨a,b,by rw [List.length_append,List.length_singleton]at c;omega⟩
noncomputable def gx(c many most:Int):List Int:=sortI (dB many (di c 1181783497276652981 % (most+1)).toNat (di c 1181783497276652981 / (most+1)) [])
theorem lF(cal:Cal)(c many most size:MV)(mn:Int)(hmn:bj (some many)=some (.int mn))(h1:0<mn)(h2:mn<1073741824):∀(xs:List PV) (left:Int) (acc:List Int) (kk:Option MV),acc.length+xs.length<=10000 ->
  ∃left' kk',bx (λx ρ'=>exs cal cb (put ρ' 6 (.val x))) xs
   [some c,some many,some most,some (.val (.int left)),some size,some (.own (acc.map .int)),kk]=.next [some c,some many,some most,some (.val (.int left')),some size,some (.own ((dB mn xs.length left acc).map .int)),kk']
 | [],left,acc,kk,_=>⟨left,kk,rfl⟩
 |x::xs,left,acc,kk,hl=>by
  simp only [List.length_cons]at hl
  rw [bx]
  have e:exs cal cb (put [some c,some many,some most,some (.val (.int left)),some size,some (.own (acc.map .int)),kk] 6 (.val x)) =
    .next [some c,some many,some most,some (.val (.int (left / mn))),some size,some (.own ((if left % mn∈acc then acc else acc ++ [left % mn]).map .int)),some (.val x)]:=by
   by_cases q:left % mn∈acc
   ·simp [cb,exs,ex,ev,evs,evB,hmn,h1,h2,cq,q]
   ·have hlt:acc.length<10000:=by omega
    simp [cb,exs,ex,ev,evs,evB,hmn,h1,h2,cq,q,hlt]
  rw [e]
  obtain⟨l',k',e2⟩:=lF cal c many most size mn hmn h1 h2 xs (left / mn) (if left % mn∈acc then acc else acc ++ [left % mn]) (some (.val x)) (by
   split
   ·omega
   ·rw [List.length_append,List.length_singleton];omega)
  exact⟨l',k',e2⟩
theorem yJ(n:Nat)(c many most:Int)(h1:0<many)(h2:many<1073741824)(h3:0<=most)(h4:most<=60):ae defs (n+2) 10 [.val (.int c),.val (.int many),.val (.int most)]=some (ofS (gx c many most)):=by
 rw [ax (d:=eJ) rfl rfl]
 have hp:0<most+1:=by omega
 have hp2:most+1<1073741824:=by omega
 have q0:0<=di c 1181783497276652981 % (most+1):=Int.emod_nonneg _ (by omega)
 have q1:di c 1181783497276652981 % (most+1)<most+1:=Int.emod_lt_of_pos _ hp
 obtain⟨l',k',e⟩:=lF (ae defs (n+1)) (.val (.int c)) (.val (.int many)) (.val (.int most)) (.val (.int (di c 1181783497276652981 % (most+1)))) many rfl h1 h2 ((List.range (di c 1181783497276652981 % (most+1)).toNat).map λ(k:Nat)=>PV.int (k:Int)) (di c 1181783497276652981 / (most+1)) [] none (by simp;omega)
 rw [List.length_map,List.length_range]at e
 obtain⟨g1,g2,g3⟩:=d7 many h1 (di c 1181783497276652981 % (most+1)).toNat (di c 1181783497276652981 / (most+1)) [] List.nodup_nil (λ_ h=>by cases h)
 have hlen:(dB many (di c 1181783497276652981 % (most+1)).toNat (di c 1181783497276652981 / (most+1)) []).length<64:=by simp at g3;omega
 simp only [List.map_nil]at e
 simp [eJ,exs,ex,ev,evs,evA,evB,yI,hp,hp2,bu,cR q0 (by omega),e,bf,jp hlen,gx]
theorem qt(c many most:Int)(h1:0<many)(h2:many<=60):mM (gx c many most):=by
 obtain⟨a,b,_⟩:=d7 many h1 (di c 1181783497276652981 % (most+1)).toNat (di c 1181783497276652981 / (most+1)) [] List.nodup_nil (λ_ h=>by cases h)
 exact⟨ly a,λh hh=>by have:=b h (fo.mp hh);omega⟩
noncomputable def ce (b:Bool):PySem.Str:=if b=true then "moth" else "weaver"
theorem skip{cal:Cal}{i:Nat}{x y:PySem.Str}{ρ:Rho}{a:List MS}(hi:(ρ[i]?).join=some (.val (.str x)))(h:(x == y)=false):ex cal (.ite (.cmp .eq (.bor i) (.cst (.str y))) a []) ρ=.next ρ:=by
 rw [ex,wv (b:=false) ((lD (x:=.str x) (by rw [ev,hi];rfl) (jv _ _ _)).trans (by rw [Br,yz,h];rfl)),fE,if_neg (by decide),exs]
theorem yK(a b:String):((PySem.Str.ofString a) == (PySem.Str.ofString b))=(a == b):=by
 rw [Bool.eq_iff_iff,beq_iff_eq,beq_iff_eq]
 refine⟨λh=>?_,λh=>by rw [h]⟩
 rw [PySem.Str.ofString_eq_byList]at h
 unfold PySem.Str.ofStringByList at h
 have h1:(a.toList.map Char.toNat).toArray=(b.toList.map Char.toNat).toArray:=by injection h
 have h2:a.toList.map Char.toNat=b.toList.map Char.toNat:=by simpa using h1
 have key:∀xs ys:List Char,xs.map Char.toNat=ys.map Char.toNat->xs=ys:=by
  intro xs
  induction xs with
  |nil=>intro ys h;cases ys with|nil=>rfl|cons=>simp at h
  |cons x xs ih=>intro ys h;cases ys with
   |nil=>simp at h
   |cons y ys =>
    simp only [List.map_cons,List.cons.injEq]at h
    rw [ih ys h.2,Char.toNat_inj.mp h.1]
 exact String.toList_inj.mp (key _ _ h2)
noncomputable def BD:Option Int->PV
 |none=>.non
 |some i=>.int i
theorem yL(x h:Int):(x == h)=decide (x=h):=rfl
noncomputable def drp(h:Int)(ts:List Int):List Int:=ts.filter λx=>!decide (x=h)
noncomputable def tm(h:Int)(R:List (List Int)):List (List Int):=sortT (R.map (drp h))
theorem wA{h:Int}{ts:List Int}(g:mM ts):mM (drp h ts):=⟨g.1.filter _,λx hx=>g.2 x (List.mem_filter.mp hx).1⟩
theorem tq{h:Int}{R:List (List Int)}(g:fq R):fq (tm h R):=by
 refine⟨λts hm=>?_,sortT_rises _,by unfold tm;rw [sortT_len,List.length_map];exact g.2.2⟩
 obtain⟨t,ht,rfl⟩:=List.mem_map.mp (dF.mp hm)
 exact wA (g.1 t ht)
theorem jQ(n:Nat)(ts:List Int)(h:Int)(hl:ts.length<=10000):ae defs (n+1) 1 [.val (ofS ts),.val (.int h)]=some (ofS (drp h ts)):=by
 rw [ax (d:=dc) rfl rfl]
 exact dZ ((bN (o8 (xs:=ts) (g:=.int) (h:=.int) (p:=λx=>!decide (x=h)) rfl rfl hl (λ_ _=>rfl) λ_ _ _=>rfl)).trans rfl)
theorem tu(n:Nat)(R:List (List Int))(h:Int)(g:fq R):ae defs (n+2) 2 [.val (ofR R),.val (.int h)]=some (ofR (tm h R)):=by
 rw [ax (d:=jt) rfl rfl]
 have hl3:(R.map (drp h)).length<64:=by rw [List.length_map];exact Nat.lt_of_le_of_lt g.2.2 (by decide)
 have e:=jq hl3
 rw [List.map_map]at e
 have e:aE .sorted [.lst (R.map (ofS ∘ drp h))]=some (.lst ((tm h R).map ofS)):=e
 exact dZ ((bN ((bN (rH (xs:=R) (g:=ofS) (h:=ofS ∘ drp h) rfl rfl (Nat.le_trans g.2.2 (by decide)) λc hc=>bi rfl (jQ n c h (Nat.le_trans (gw (g.1 c hc)) (by decide))))).trans e)).trans rfl)
noncomputable def yM(h:Int)(R:List (List Int)):List (List Int):=R.filter λts=>!decide (h∈ts)
theorem tw{h:Int}{R:List (List Int)}(g:fq R):fq (yM h R):=⟨λts hm=>g.1 ts (List.mem_filter.mp hm).1,g.2.1.filter _,Nat.le_trans (List.length_filter_le _ _) g.2.2⟩
theorem wB(n:Nat)(R:List (List Int))(h:Int)(hl:R.length<=10000):ae defs (n+1) 3 [.val (ofR R),.val (.int h)]=some (ofR (yM h R)):=by
 rw [ax (d:=lA) rfl rfl]
 exact dZ ((bN (o8 (xs:=R) (g:=ofS) (h:=ofS) (p:=λts=>!decide (h∈ts)) rfl rfl hl (λts _=>DF (cq h ts) rfl rfl rfl) λ_ _ _=>rfl)).trans rfl)
noncomputable def bhd(h:Bool)(R:List (List Int)):Option Int->List (List Int)
 |none=>R
 |some k=>if h=true then yM k R else tm k R
theorem wC{h:Bool}{R:List (List Int)}(g:fq R)(r:Option Int):fq (bhd h R r):=by
 cases r with
 |none=>exact g
 |some k=>cases h with|true=>exact tw g|false=>exact tq g
theorem yN(n:Nat)(h:Bool):ae defs (n+1) 6 [.val (.str (ce h))]=some (.str (ce (!h))):=by
 rw [ax (d:=fF) rfl rfl]
 cases h<;>rfl
theorem wD(n:Nat)(R:List (List Int))(g:fq R)(h:Bool)(r:Option Int):ae defs (n+3) 7 [.val (ofR R),.val (.str (ce h)),.val (BD r)]=some (ofR (bhd h R r)):=by
 rw [ax (d:=lC) rfl rfl]
 cases r with
 |none=>rfl
 |some k =>
  have e1:=tu n R k g
  have e2:=λn=>wB n R k (by have:=g.2.2;omega)
  cases h with
  |false=>exact DB rfl (dZ (BB rfl (bi (vs:=[.val (ofR R),.val (.int k)]) rfl e1)))
  |true=>exact DB rfl (dZ (BC rfl (bi (vs:=[.val (ofR R),.val (.int k)]) rfl (e2 _))))
theorem qu(n:Nat)(R:List (List Int)):ae defs (n+1) 4 [.val (ofR R)]=some (.bl (decide ([]∈R))):=by
 rw [ax (d:=g_) rfl rfl]
 exact dZ (EV (qp [] R) rfl rfl)
theorem tz(n:Nat)(R:List (List Int)):ae defs (n+1) 5 [.val (ofR R)]=some (.bl (decide (R=[]))):=by
 rw [ax (d:=ju) rfl rfl]
 cases R with
 |nil=>rfl
 |cons t R =>
  have:¬ ((R.length:Int)+1=0):=by omega
  rw [decide_eq_false (List.cons_ne_nil t R)]
  exact dZ (yH (beq_eq_false_iff_ne.mpr (by rw [List.length_map,List.length_cons];exact this)) rfl)
theorem iU{h x:Int}{ts:List Int}:x∈drp h ts ↔ x∈ts/\x≠h:=by
 unfold drp
 rw [List.mem_filter]
 simp
noncomputable def tD(R:List (List Int))(d:Bool×Int):List (List Int):=if d.1 then tm d.2 R else yM d.2 R
theorem tG{R:List (List Int)}{d:Bool×Int}:∀ts∈tD R d,d.2∉ts:=by
 intro ts h
 unfold tD at h
 split at h
 ·obtain⟨t,_,rfl⟩:=List.mem_map.mp (dF.mp h)
  exact λz=>(iU.mp z).2 rfl
 ·have:=(List.mem_filter.mp h).2
  simpa using this
theorem qv{R:List (List Int)}{d:Bool×Int}{x:Int}(h:∀ts∈R,x∉ts):∀ts∈tD R d,x∉ts:=by
 intro ts hm
 unfold tD at hm
 split at hm
 ·obtain⟨t,ht,rfl⟩:=List.mem_map.mp (dF.mp hm)
  exact λz=>h t ht (iU.mp z).1
 ·exact h ts (List.mem_filter.mp hm).1
noncomputable def hat(o:Bool)(k:Nat):Bool:=if k % 2=0 then o else !o
noncomputable def lft(o:Bool):Nat->List (List Int)->List Int->List (List Int)
 | _,R,[]=>R
 |k,R,h::t=>lft o (k+1) (bhd (hat o k) R (some h)) t
theorem o9(b:Bool)(R:List (List Int))(h:Int):bhd b R (some h)=tD R (!b,h):=by cases b<;>rfl
theorem o_(o:Bool){R:List (List Int)}:∀(t:List Int) (k:Nat) (R:List (List Int)) (x:Int),((∀ts∈R,x∉ts)\/x∈t)->∀ts∈lft o k R t,x∉ts
 | [],k,R,x,h=>h.elim id λz=>by cases z
 |y::t,k,R,x,h=>by
  rw [lft,o9]
  refine o_ (R:=R) o t (k+1) _ x ?_
  rcases h with h|h
  ·exact .inl (qv h)
  ·rcases List.mem_cons.mp h with rfl|h
   ·exact .inl (tG (d:=(!hat o k,x)))
   ·exact .inr h
theorem rK(o:Bool){P:Int->Prop}:∀(t:List Int) (k:Nat) (R:List (List Int)),(∀ts∈R,∀x∈ts,P x)->∀ts∈lft o k R t,∀x∈ts,P x
 | [],k,R,h=>h
 |y::t,k,R,h=>by
  rw [lft,o9]
  refine rK o t (k+1) _ λts hts x hx=>?_
  unfold tD at hts
  split at hts
  ·obtain⟨s,hs,rfl⟩:=List.mem_map.mp (dF.mp hts)
   exact h s hs x (iU.mp hx).1
  ·exact h ts (List.mem_filter.mp hts).1 x hx
noncomputable def eX (R:List (List Int)):Sc:=if []∈R then .str "weaver" else if R=[] then .str "moth" else .non
theorem mN(n:Nat)(c r:PV)(xs:List PV)(o:Bool)(k:Nat):ae defs (n+2) 21 [.brwO [c,r,.str (ce o)] xs,.val (.int (k:Nat))]=some (.str (ce (hat o k))):=by
 rw [ax (d:=bO) rfl rfl]
 have e1:=yN n o
 by_cases h:k % 2=0
 ·have h':((k:Int) % 2 == 0)=true:=by rw [beq_iff_eq];omega
  simp [bO,exs,ex,ev,evs,evB,evA,gS,h',hat,h]
 ·have h':((k:Int) % 2 == 0)=false:=by rw [beq_eq_false_iff_ne];omega
  simp [bO,exs,ex,ev,evs,evB,evA,gS,h',hat,h,e1]
theorem mO(n:Nat)(c r:PV)(xs:List PV)(o:Bool):∀(t:List Int) (k:Nat) (R:List (List Int)) (p h:Option MV),fq R ->
  ∃p' h',bx (λx ρ'=>fN (kY [2,3] x ρ') λρ''=>exs (ae defs (n+3)) cH ρ'') (aY k (t.map .int)) [some (.brwO [c,r,.str (ce o)] xs),some (.val (ofR R)),p,h]
  =.next [some (.brwO [c,r,.str (ce o)] xs),some (.val (ofR (lft o k R t))),p',h']
 | [],k,R,p,h,_=>⟨p,h,rfl⟩
 |x::t,k,R,p,h,g=>by
  have e1:=mN (n+1) c r xs o k
  have e2:=wD n R g (hat o k) (some x)
  have e:(fN (kY [2,3] (.tup [.int (k:Nat),.int x]) [some (.brwO [c,r,.str (ce o)] xs),some (.val (ofR R)),p,h]) λρ''=>exs (ae defs (n+3)) cH ρ'')
   =.next [some (.brwO [c,r,.str (ce o)] xs),some (.val (ofR (bhd (hat o k) R (some x)))),some (.val (.int (k:Nat))),some (.val (.int x))]:=by
   simp [kY,lV,cH,exs,ex,ev,evs,evA,gS,e1,<- BD.eq_def,show PV.int x=BD (some x) from rfl,e2]
  rw [List.map_cons,aY,cT e]
  obtain⟨p',h',q⟩:=mO n c r xs o t (k+1) _ (some (.val (.int (k:Nat)))) (some (.val (.int x))) (wC g (some x))
  exact⟨p',h',q⟩
noncomputable abbrev tbl(c:Int)(R:List (List Int))(o:Bool):List PV:=[.int c,ofR R,.str (ce o)]
theorem BE(n:Nat)(c:Int)(R:List (List Int))(o:Bool)(t:List Int)(g:fq R):ae defs (n+4) 27 [.brwO (tbl c R o) (t.map .int)]=some (ofR (lft o 0 R t)):=by
 rw [ax (d:=dz) rfl rfl]
 obtain⟨p',h',e⟩:=mO n (.int c) (ofR R) (t.map .int) o t 0 R none none g
 simp [dz,exs,ex,ev,evs,evB,evA,gS,mz,bF,bu,e,bf]
theorem pd(n:Nat)(c:Int)(R:List (List Int))(o:Bool)(t:List Int)(g:fq R):ae defs (n+5) 28 [.brwO (tbl c R o) (t.map .int)]=some (eX (lft o 0 R t)).pv:=by
 rw [ax (d:=bD) rfl rfl]
 have e1:=BE n c R o t g
 generalize lft o 0 R t=L at e1
 have e2:=qu (n+3) L
 have e3:=tz (n+3) L
 unfold eX
 by_cases h:[]∈L
 ·simp [bD,exs,ex,ev,evs,evB,evA,gS,e1,e2,h,Sc.pv]
 ·by_cases h2:L=[]
  ·subst h2
   simp [bD,exs,ex,ev,evs,evB,evA,gS,e1,e2,e3,Sc.pv]
  ·simp [bD,exs,ex,ev,evs,evB,evA,gS,e1,e2,e3,h,h2,Sc.pv]
theorem yO(n:Nat)(h c:Int):ae defs (n+1) 0 [.val (.int h),.val (.int c)]=some (.bl (decide (0<=h)&&decide (h<c))):=by
 rw [ax (d:=bq) rfl rfl]
 by_cases q:0<=h
 ·simp [bq,exs,ex,ev,evs,evB,q]
 ·simp [bq,exs,ex,ev,evs,evB,q]
theorem BF(n:Nat)(c:Int)(R:List (List Int))(o:Bool)(t:List Int)(h:Int)(g:fq R)(hw:eX (lft o 0 R t)=.non)(h0:0<=h)(h1:h<c)(hn:h∉t)(hl:t.length<10000) :
  ae defs (n+6) (29+3000) [.ownO true (tbl c R o) (t.map .int),.val (.int h)]=some (.tup [(eX (lft o 0 R (t ++ [h]))).pv,.lst ((t ++ [h]).map .int)]):=by
 rw [tj (d:=dA) (by decide) rfl rfl rfl]
 have e1:=pd n c R o t g
 have e2:=yO (n+4) h c
 have e3:=pd n c R o (t ++ [h]) g
 have e4:(t ++ [h]).map PV.int=t.map PV.int ++ [PV.int h]:=by simp
 rw [hw,show Sc.non.pv=PV.non from rfl]at e1
 rw [e4]at e3 ⊢
 have e5:sc? (eX (lft o 0 R (t ++ [h]))).pv=some (eX (lft o 0 R (t ++ [h]))):=by
  unfold eX
  split
  ·rfl
  ·split<;>rfl
 generalize eX (lft o 0 R (t ++ [h]))=w at e3 e5
 simp [dA,exs,ex,ev,evs,evB,evA,gS,y9,e1,e2,h0,h1,cq,hn,hl,e3,e5,iz,Bk,sM,MM.R.andThen]
theorem wE(c many most:Int)(h1:0<many):(gx c many most).Pairwise (· < ·)/\∀h∈gx c many most,0<=h/\h<=many-1:=by
 obtain⟨a,b,_⟩:=d7 many h1 (di c 1181783497276652981 % (most+1)).toNat (di c 1181783497276652981 / (most+1)) [] List.nodup_nil (λ_ h=>by cases h)
 exact⟨ly a,λh hh=>by have:=b h (fo.mp hh);omega⟩
theorem tH (L:List (List Int)):eX L=.str "weaver" \/ eX L=.str "moth" \/ eX L=.non:=by
 unfold eX
 split
 ·exact .inl rfl
 ·split
  ·exact .inr (.inl rfl)
  ·exact .inr (.inr rfl)
noncomputable def Ff(kn bt:Int->Bool)(Rb:List (List Int)):List (List Int):=(Rb.filter λs=>!s.any bt).map λs=>s.filter λx=>!kn x
noncomputable def tkB(w:Bool)(o:Bool):Nat->List Int->Int->Bool
 | _,[],_=>false
 |k,h::t,x=>(decide (x=h)&&(hat o k == w)) || tkB w o (k+1) t x
theorem rL{w o:Bool}:∀{t:List Int}{k:Nat}{x:Int},x∉t->tkB w o k t x=false
 | [],_,_,_=>rfl
 |h::t,k,x,hx=>by
  rw [List.mem_cons]at hx
  rw [tkB,rL λz=>hx (.inr z),decide_eq_false λz=>hx (.inl z)]
  rfl
theorem yP{kn bt:Int->Bool}{h:Int}(hb:bt h=false)(Rb:List (List Int)):Ff kn bt (Rb.map (drp h))=Ff (λx=>decide (x=h) || kn x) bt Rb:=by
 unfold Ff
 rw [List.filter_map,List.map_map]
 have e1:((λs:List Int=>!s.any bt) ∘ drp h)=λs=>!s.any bt:=by
  funext s
  show(!(drp h s).any bt)=!s.any bt
  congr 1
  rw [Bool.eq_iff_iff,List.any_eq_true,List.any_eq_true]
  refine⟨λ⟨x,hx,q⟩=>⟨x,(iU.mp hx).1,q⟩,λ⟨x,hx,q⟩=>⟨x,iU.mpr ⟨hx,λz=>?_⟩,q⟩⟩
  rw [z,hb]at q
  cases q
 rw [e1]
 refine List.map_congr_left λs _=>?_
 show(drp h s).filter _=_
 unfold drp
 rw [List.filter_filter]
 congr 1
 funext x
 show((!kn x)&&!decide (x=h))=!(decide (x=h) || kn x)
 cases decide (x=h)<;>cases kn x<;>rfl
theorem yQ{kn bt:Int->Bool}{h:Int}(Rb:List (List Int)):Ff kn bt (Rb.filter λts=>!decide (h∈ts))=Ff kn (λx=>decide (x=h) || bt x) Rb:=by
 unfold Ff
 rw [List.filter_filter]
 congr 1
 congr 1
 funext s
 have:(s.any λx=>decide (x=h) || bt x)=(decide (h∈s) || s.any bt):=by
  rw [Bool.eq_iff_iff,List.any_eq_true,Bool.or_eq_true,List.any_eq_true,decide_eq_true_iff]
  constructor
  ·rintro ⟨x,hx,q⟩
   rcases Bool.or_eq_true_iff.mp q with q|q
   ·exact .inl (of_decide_eq_true q ▸ hx)
   ·exact .inr ⟨x,hx,q⟩
  ·rintro (q|⟨x,hx,q⟩)
   ·exact⟨h,q,by simp⟩
   ·exact⟨x,hx,by simp [q]⟩
 rw [this]
 cases decide (h∈s)<;>cases s.any bt<;>rfl
theorem qw(o:Bool):∀(t:List Int) (k:Nat) (Rb:List (List Int)),t.Nodup->lft o k (sortT Rb) t=sortT (Ff (tkB false o k t) (tkB true o k t) Rb)
 | [],k,Rb,_=>by
  unfold lft Ff
  have e:(Rb.filter λs=>!s.any (tkB true o k []))=Rb:=List.filter_eq_self.mpr λs _=>by
   have:s.any (tkB true o k [])=false:=by rw [List.any_eq_false];intro x _ z;cases z
   rw [this]
   rfl
  rw [e]
  have e2:(Rb.map λs=>s.filter λx=>!tkB false o k [] x)=Rb.map id:=List.map_congr_left λs _=>List.filter_eq_self.mpr λx _=>rfl
  rw [e2,List.map_id]
 |h::t,k,Rb,nd=>by
  obtain⟨n1,n2⟩:=List.nodup_cons.mp nd
  rw [lft]
  cases e:hat o k with
  |false =>
   have e1:bhd false (sortT Rb) (some h)=sortT (Rb.map (drp h)):=sortT_of_perm ((sortT_perm Rb).map _)
   rw [e1,qw o t (k+1) _ n2,yP (rL n1)]
   congr 2
   ·funext x
    rw [tkB,e]
    simp
   ·funext x
    rw [tkB,e]
    simp
  |true =>
   have e1:bhd true (sortT Rb) (some h)=sortT (Rb.filter λts=>!decide (h∈ts)):=by
    show(sortT Rb).filter _=_
    rw [<- sortT_id ((sortT_rises Rb).filter λts=>!decide (h∈ts))]
    exact sortT_of_perm ((sortT_perm Rb).filter _)
   rw [e1,qw o t (k+1) _ n2,yQ]
   congr 2
   ·funext x
    rw [tkB,e]
    simp
   ·funext x
    rw [tkB,e]
    simp
theorem nP(w o:Bool):∀(t:List Int) (k:Nat) (x:Int),tkB w o k t x=true ↔ ∃i,t[i]?=some x/\hat o (k+i)=w
 | [],k,x=>⟨λz=>(by cases z),λ⟨i,h,_⟩=>(by simp at h)⟩
 |h::t,k,x=>by
  rw [tkB,Bool.or_eq_true,Bool.and_eq_true,decide_eq_true_iff,beq_iff_eq,nP w o t (k+1) x]
  constructor
  ·rintro (⟨rfl,e⟩|⟨i,e1,e2⟩)
   ·exact⟨0,rfl,e⟩
   ·exact⟨i+1,by simpa using e1,by rw [<- e2];congr 1;omega⟩
  ·rintro ⟨i,e1,e2⟩
   cases i with
   |zero=>simp at e1;exact .inl ⟨e1.symm,e2⟩
   |succ i=>exact .inr ⟨i,by simpa using e1,by rw [<- e2];congr 1;omega⟩
noncomputable def frl(c:Int)(t:List Int):List Int:=((List.range c.toNat).filter λ(k:Nat)=>!decide ((k:Int)∈t)).map λ(k:Nat)=>(k:Int)
theorem rM{c x:Int}{t:List Int}:x∈frl c t ↔ (0<=x/\x<c)/\x∉t:=by
 unfold frl
 rw [List.mem_map]
 constructor
 ·rintro ⟨k,hk,rfl⟩
  obtain⟨h1,h2⟩:=List.mem_filter.mp hk
  have h1:k<c.toNat:=by simpa using h1
  exact⟨by omega,by simpa using h2⟩
 ·rintro ⟨h1,h2⟩
  have e:((x.toNat:Nat):Int)=x:=by omega
  refine⟨x.toNat,List.mem_filter.mpr ⟨by simp;omega,?_⟩,e⟩
  rw [e]
  simpa using h2
theorem rN{c:Int}{t:List Int}:(frl c t).length<=c.toNat:=by
 unfold frl
 rw [List.length_map]
 exact Nat.le_trans (List.length_filter_le _ _) (by rw [List.length_range];exact Nat.le_refl _)
theorem wF{L:List (List Int)}(h:eX L=.non):[]∉L/\L≠[]:=by
 unfold eX at h
 split at h
 ·cases h
 ·rename_i h1
  split at h
  ·cases h
  ·rename_i h2
   exact⟨h1,h2⟩
noncomputable def wG{α:Type}(d:List (α×Sc))(P:α->Prop):Prop:=(d.map (·.1)).Nodup/\∀k,k∈d.map (·.1) ↔ P k
section
variable{α:Type} [DecidableEq α]
theorem pe{d:List (α×Sc)}{k:α}:dh d k=none ↔ k∉d.map (·.1):=by
 unfold dh
 rw [Option.map_eq_none_iff,List.find?_eq_none]
 constructor
 ·intro h z
  obtain⟨p,hp,rfl⟩:=List.mem_map.mp z
  exact h p hp (decide_eq_true rfl)
 ·intro h p hp e
  exact h (List.mem_map.mpr ⟨p,hp,of_decide_eq_true e⟩)
theorem wH(d:List (α×Sc))(k:α)(v:Sc):(cx d k v).map (·.1)=if k∈d.map (·.1) then d.map (·.1) else d.map (·.1) ++ [k]:=by
 have e:(d.any λp=>decide (p.1=k))=decide (k∈d.map (·.1)):=by
  rw [Bool.eq_iff_iff,List.any_eq_true,decide_eq_true_iff,List.mem_map]
  exact⟨λ⟨p,hp,z⟩=>⟨p,hp,of_decide_eq_true z⟩,λ⟨p,hp,z⟩=>⟨p,hp,decide_eq_true z⟩⟩
 unfold cx
 rw [e]
 by_cases h:k∈d.map (·.1)
 ·rw [if_pos (decide_eq_true h),if_pos h,List.map_map]
  refine List.map_congr_left λp _=>?_
  show(if p.1=k then (p.1,v) else p).1=p.1
  split<;>rfl
 ·rw [if_neg (by simpa using h),if_neg h,List.map_append]
  rfl
theorem put_len(d:List (α×Sc))(k:α)(v:Sc):(cx d k v).length<=d.length+1:=by
 unfold cx
 split
 ·rw [List.length_map];omega
 ·rw [List.length_append,List.length_singleton];exact Nat.le_refl _
theorem wI{d:List (α×Sc)}{P:α->Prop}(h:wG d P)(k:α)(v:Sc):wG (cx d k v) (λj=>P j\/j=k):=by
 unfold wG
 rw [wH]
 by_cases hk:k∈d.map (·.1)
 ·rw [if_pos hk]
  refine⟨h.1,λj=>?_⟩
  rw [h.2 j]
  refine⟨.inl,λz=>z.elim id λe=>?_⟩
  rw [e]
  exact(h.2 k).mp hk
 ·rw [if_neg hk]
  refine⟨List.nodup_append.mpr ⟨h.1,by simp,λa ha b hb=>by rw [List.mem_singleton.mp hb];exact λe=>hk (e ▸ ha)⟩,λj=>?_⟩
  rw [List.mem_append,List.mem_singleton,h.2 j]
end
section
variable{α:Type} [DecidableEq α]
theorem zo{g:α->PV}{body:PV->Rho->R}{I:List (α×Sc)->Rho->Prop}{v:Sc}:∀{xs:List α},(∀x∈xs,∀d ρ,I d ρ->d.length<9500->∃ρ',I (cx d x v) ρ'/\body (g x) ρ=.next ρ') ->
  ∀{d:List (α×Sc)}{ρ:Rho}{P:α->Prop},I d ρ->wG d P->d.length+xs.length<=9000 ->
  ∃d' ρ',bx body (xs.map g) ρ=.next ρ'/\I d' ρ'/\wG d' (λk=>P k\/k∈xs)/\d'.length<=d.length+xs.length
 | [],_,d,ρ,P,hI,hp,_=>⟨d,ρ,rfl,hI,by simpa using hp,by simp⟩
 |x::xs,hb,d,ρ,P,hI,hp,hl=>by
  rw [List.length_cons]at hl
  obtain⟨ρ1,hI1,e1⟩:=hb x (.head _) d ρ hI (by omega)
  have hl1:=put_len d x v
  obtain⟨d',ρ',e2,hI2,hp2,hl2⟩:=zo (xs:=xs) (λy hy=>hb y (.tail _ hy)) hI1 (wI hp x v) (by omega)
  rw [List.map_cons,bx,e1]
  refine⟨d',ρ',e2,hI2,⟨hp2.1,λk=>?_⟩,by rw [List.length_cons];omega⟩
  rw [hp2.2 k]
  simp only [List.mem_cons,or_assoc]
end
theorem DG(n:Nat)(L:List (List Int)):ae defs (n+1) 15 [.val (ofR L)]=some (eX L).pv:=by
 rw [ax (d:=fu) rfl rfl]
 have ein:isIn (.tup []) (L.map ofS)=some (decide ([]∈L)):=qp [] L
 have eq:eqF 100 (ofR L) (.tup [])=some (decide (L=[])):=Dg 98 L []
 unfold eX
 by_cases h:[]∈L
 ·simp [fu,exs,ex,ev,evs,evB,ein,h,Sc.pv]
 ·by_cases h2:L=[]
  ·subst h2
   rfl
  ·simp [fu,exs,ex,ev,evs,evB,ein,eq,h,h2,Sc.pv]
noncomputable def tb(t:List Int)(b:Int):List Int:=((List.range t.length).filter λ(k:Nat)=>decide ((k:Int) % 2=b)).map λk=>t.getD k 0
theorem lG(t:List Int)(b:Int):(tb t b).length<=t.length:=by
 unfold tb
 rw [List.length_map]
 exact Nat.le_trans (List.length_filter_le _ _) (by rw [List.length_range];exact Nat.le_refl _)
theorem wJ{t:List Int}{b x:Int}:x∈tb t b ↔ ∃i:Nat,t[i]?=some x/\(i:Int) % 2=b:=by
 unfold tb
 rw [List.mem_map]
 constructor
 ·rintro ⟨k,hk,rfl⟩
  obtain⟨h1,h2⟩:=List.mem_filter.mp hk
  have h1:k<t.length:=by simpa using h1
  exact⟨k,by simp [List.getD,h1],of_decide_eq_true h2⟩
 ·rintro ⟨i,e1,e2⟩
  have h1:i<t.length:=(List.getElem?_eq_some_iff.mp e1).1
  refine⟨i,List.mem_filter.mpr ⟨by simpa using h1,decide_eq_true e2⟩,?_⟩
  simp [List.getD,e1]
theorem wK{o:Bool}{b:Int}(hb:b=if o=true then 1 else 0)(t:List Int):(tkB false o 0 t=λx=>decide (x∈sortI (tb t b)))/\tkB true o 0 t=λx=>decide (x∈sortI (tb t (1-b))):=by
 constructor
 ·funext x
  rw [Bool.eq_iff_iff,nP,decide_eq_true_iff,fo,wJ]
  refine⟨λ⟨i,e1,e2⟩=>⟨i,e1,?_⟩,λ⟨i,e1,e2⟩=>⟨i,e1,?_⟩⟩
  ·rw [Nat.zero_add]at e2
   unfold hat at e2
   subst hb
   cases o<;>simp at e2 ⊢<;>omega
  ·rw [Nat.zero_add]
   unfold hat
   subst hb
   cases o<;>simp at e2 ⊢<;>omega
 ·funext x
  rw [Bool.eq_iff_iff,nP,decide_eq_true_iff,fo,wJ]
  refine⟨λ⟨i,e1,e2⟩=>⟨i,e1,?_⟩,λ⟨i,e1,e2⟩=>⟨i,e1,?_⟩⟩
  ·rw [Nat.zero_add]at e2
   unfold hat at e2
   subst hb
   cases o<;>simp at e2 ⊢<;>omega
  ·rw [Nat.zero_add]
   unfold hat
   subst hb
   cases o<;>simp at e2 ⊢<;>omega
theorem gi(n:Nat)(t:List Int)(b:Int)(hl:t.length<64)(m:MV)(hm:m=.brw (t.map .int)\/m=.val (ofL t)):ae defs (n+1) 13 [m,.val (.int b)]=some (ofL (sortI (tb t b))):=by
 rw [ax (d:=dX) rfl rfl]
 have hl2:(tb t b).length<64:=Nat.lt_of_le_of_lt (lG t b) hl
 have e:ev (ae defs n) (.comp .rng [(.blt .len [(.bor 0)])] [0,1] (.cmp .eq (.bin .mod (.bor 0) (.cst (.int 2))) (.bor 2)) (.idx (.bor 1) (.bor 0))) [some m,some (.val (.int b))]=some (.lst ((tb t b).map .int)):=by
  rw [ev,show evs (ae defs n) [(.blt .len [(.bor 0)])] [some m,some (.val (.int b))]=some [.int t.length] from by rcases hm with rfl|rfl<;>simp [evs,ev],Option.bind_some,cR (by omega) (by omega),Option.bind_some,if_pos (by simp;omega),cm (p:=λ(k:Nat)=>decide ((k:Int) % 2=b)) (h:=λ(k:Nat)=>.int (t.getD k 0))]
  ·unfold tb
   rw [List.map_map]
   simp only [Int.toNat_natCast]
   rfl
  ·intro k _
   rcases hm with rfl|rfl<;>simp [ev,dq,yL]
  ·intro k hk _
   have hk:k<t.length:=by simpa using hk
   rcases hm with rfl|rfl<;>simp [ev,dq,lx (show(0:Int)<=(k:Nat) by omega) (show((k:Nat):Int)<t.length by omega),hk]
 show cI (exs _ [.ret _] [some _,some _])=_
 rw [dZ (v:=ofL (sortI (tb t b)))]
 rw [bN e,lw,rG,Option.bind_some,jp hl2]
theorem mP(cal:Cal)(K B:List Int)(a:MV):∀(Rb acc:List (List Int)) (rb:Option MV),(∀s∈Rb,s.length<=10000)->acc.length+Rb.length<10000 ->
  ∃rb',bx (λx ρ'=>exs cal cF (put ρ' 4 (.val x))) (Rb.map ofS) [some a,some (.val (ofL K)),some (.val (ofL B)),some (.own (acc.map ofS)),rb]
  =.next [some a,some (.val (ofL K)),some (.val (ofL B)),some (.own ((acc++Ff (λx=>decide (x∈K)) (λx=>decide (x∈B)) Rb).map ofS)),rb']
 | [],acc,rb,_,_=>⟨rb,by simp [Ff]⟩
 |s::Rb,acc,rb,hs,hl=>by
  rw [List.length_cons]at hl
  have h1:=hs s (.head _)
  have e1:∀ρ:Rho,(ρ[4]?).join=some (.val (ofS s))->(ρ[2]?).join=some (.val (ofL B))->ev cal (.blt .any [(.comp .seq [(.bor 4)] [2] (.cst (.bl true)) (.cmp .isIn (.bor 0) (.bor 1)))]) ρ=some (.bl (s.any λx=>decide (x∈B))):=λρ q1 q2=>by
   rw [bN (rH (vs:=[ofS s]) (xs:=s) (g:=PV.int) (h:=λx=>.bl (decide (x∈B))) (by rw [evs,ev,q1];rfl) rfl h1 λx _=>by simp [ev,dq,q2,cq]),yB]
   have:(s.map λx=>PV.bl (decide (x∈B)))=(s.map λx=>decide (x∈B)).map PV.bl:=by rw [List.map_map];rfl
   rw [this,lv,Option.map_some,List.any_map]
   rfl
  have e2:∀ρ:Rho,(ρ[4]?).join=some (.val (ofS s))->(ρ[1]?).join=some (.val (ofL K))->ev cal (.blt .tupleOf [(.comp .seq [(.bor 4)] [1] (.cmp .notIn (.bor 0) (.bor 1)) (.var 0))]) ρ=some (ofS (s.filter λx=>!decide (x∈K))):=λρ q1 q2=>by
   have:ev cal (.comp .seq [(.bor 4)] [1] (.cmp .notIn (.bor 0) (.bor 1)) (.var 0)) ρ=some (.lst ((s.filter λx=>!decide (x∈K)).map .int)):=by
    rw [ev,show evs cal [(.bor 4)] ρ=some [ofS s] from by rw [evs,ev,q1];rfl,Option.bind_some,yF,yA,Option.bind_some,if_pos (by simpa using h1),cm (p:=λx=>!decide (x∈K)) (h:=PV.int)]
    ·rfl
    ·intro x _
     simp [ev,dq,q2,cq]
    ·intro x _ _
     simp [ev,dq]
   rw [bN this]
   rfl
  have e:exs cal cF (put [some a,some (.val (ofL K)),some (.val (ofL B)),some (.own (acc.map ofS)),rb] 4 (.val (ofS s)))
   =.next [some a,some (.val (ofL K)),some (.val (ofL B)),some (.own ((acc++Ff (λx=>decide (x∈K)) (λx=>decide (x∈B)) [s]).map ofS)),some (.val (ofS s))]:=by
   have hlt:acc.length<10000:=by omega
   simp only [wp,wo]
   have q1:=e1 [some a,some (.val (ofL K)),some (.val (ofL B)),some (.own (acc.map ofS)),some (.val (ofS s))] rfl rfl
   have q2:=e2 [some a,some (.val (ofL K)),some (.val (ofL B)),some (.own (acc.map ofS)),some (.val (ofS s))] rfl rfl
   cases hb:s.any λx=>decide (x∈B) with
   |true =>
    rw [hb]at q1
    have q3:evB cal (.not (.blt .any [(.comp .seq [(.bor 4)] [2] (.cst (.bl true)) (.cmp .isIn (.bor 0) (.bor 1)))])) [some a,some (.val (ofL K)),some (.val (ofL B)),some (.own (acc.map ofS)),some (.val (ofS s))]=some false:=by
     unfold evB
     rw [ev,q1]
     rfl
    rw [cF,bE,ex,q3,fE,if_neg (by decide),exs,cQ,exs]
    simp [Ff,hb]
   |false =>
    rw [hb]at q1
    have q3:evB cal (.not (.blt .any [(.comp .seq [(.bor 4)] [2] (.cst (.bl true)) (.cmp .isIn (.bor 0) (.bor 1)))])) [some a,some (.val (ofL K)),some (.val (ofL B)),some (.own (acc.map ofS)),some (.val (ofS s))]=some true:=by
     unfold evB
     rw [ev,q1]
     rfl
    rw [cF,bE,ex,q3,fE,if_pos rfl,bE,ex,q2]
    simp [Ff,hb,hlt,exs]
  rw [List.map_cons,cT e]
  obtain⟨rb',q⟩:=mP cal K B a Rb (acc++Ff (λx=>decide (x∈K)) (λx=>decide (x∈B)) [s]) (some (.val (ofS s))) (λs hs'=>hs s (.tail _ hs')) (by
   have:(Ff (λx=>decide (x∈K)) (λx=>decide (x∈B)) [s]).length<=1:=by unfold Ff;rw [List.length_map];exact List.length_filter_le _ _
   rw [List.length_append]
   omega)
  refine⟨rb',?_⟩
  rw [q,List.append_assoc]
  have:Ff (λx=>decide (x∈K)) (λx=>decide (x∈B)) [s]++Ff (λx=>decide (x∈K)) (λx=>decide (x∈B)) Rb=Ff (λx=>decide (x∈K)) (λx=>decide (x∈B)) (s::Rb):=by
   unfold Ff
   rw [<- List.map_append,<- List.filter_append]
   rfl
  rw [this]
theorem BG(n:Nat)(Rb:List (List Int))(K B:List Int)(hs:∀s∈Rb,s.length<=10000)(hl:Rb.length<64):ae defs (n+1) 14 [.val (.lst (Rb.map ofS)),.val (ofL K),.val (ofL B)]=some (ofR (sortT (Ff (λx=>decide (x∈K)) (λx=>decide (x∈B)) Rb))):=by
 rw [ax (d:=fH) rfl rfl]
 obtain⟨rb',e⟩:=mP (ae defs n) K B (.val (.lst (Rb.map ofS))) Rb [] none hs (by simp;omega)
 rw [List.nil_append,List.map_nil]at e
 have hl2:(Ff (λx=>decide (x∈K)) (λx=>decide (x∈B)) Rb).length<64:=by
  unfold Ff
  rw [List.length_map]
  exact Nat.lt_of_le_of_lt (List.length_filter_le _ _) hl
 simp [fH,exs,ex,ev,evs,evB,bu,e,bf,jq hl2]
theorem pf(n:Nat)(c:Int)(t:List Int)(h0:0<=c)(h1:c<=60)(hl:t.length<=60)(m:MV)(hm:m=.brw (t.map .int)\/m=.val (ofL t)):ae defs (n+1) 16 [.val (.int c),m]=some (ofL (frl c t)):=by
 rw [ax (d:=hV) rfl rfl]
 obtain⟨d,ρ',e,hI,hp,_⟩:=zo (g:=PV.int) (v:=.bl true) (body:=λx ρ'=>exs (ae defs n) fJ (put ρ' 3 (.val x))) (I:=λd ρ=>∃hh,ρ=[some (.val (.int c)),some m,some (.ownD (.k d)),hh]) (xs:=t)
  (λx _ d ρ ⟨hh,hI⟩ hd=>by
   subst hI
   have hd:d.length<10000:=by omega
   refine⟨_,⟨some (.val (.int x)),rfl⟩,?_⟩
   simp [fJ,exs,ex,ev,hd,sc?])
  (d:=[]) (ρ:=[some (.val (.int c)),some m,some (.ownD (.k [])),none]) (P:=λ_=>False) ⟨none,rfl⟩ ⟨by simp,λk=>by simp⟩ (by simp;omega)
 obtain⟨hh,rfl⟩:=hI
 have hk:∀x,(dh d x).isSome=decide (x∈t):=λx=>by
  cases q:dh d x with
  |none =>
   have:=pe.mp q
   rw [hp.2 x]at this
   rw [decide_eq_false (λz=>this (.inr z))]
   rfl
  |some s =>
   have:x∈d.map (·.1):=by
    by_cases z:x∈d.map (·.1)
    ·exact z
    ·rw [pe.mpr z]at q;cases q
   rw [hp.2 x]at this
   rw [decide_eq_true (this.elim False.elim id)]
   rfl
 have hl3:c.toNat<=10000:=by omega
 have e2:ev (ae defs n) (.comp .rng [(.bor 0)] [2] (.dIn true (.bor 0) (.bor 1)) (.var 0)) [some (.val (.int c)),some m,some (.ownD (.k d)),hh]=some (ofL (frl c t)):=by
  rw [ev,show evs (ae defs n) [(.bor 0)] [some (.val (.int c)),some m,some (.ownD (.k d)),hh]=some [.int c] from by simp [evs,ev],Option.bind_some,cR h0 (by omega),Option.bind_some,if_pos (by simpa using hl3),cm (p:=λ(k:Nat)=>!decide ((k:Int)∈t)) (h:=λ(k:Nat)=>.int (k:Int))]
  ·unfold frl
   rw [Option.map_some]
   show some (PV.lst _)=some (PV.lst ((List.map _ _).map PV.int))
   rw [List.map_map]
   rfl
  ·intro k _
   simp [ev,dq,cy]
   rw [<- hk]
   cases dh d (k:Int)<;>rfl
  ·intro k _ _
   simp [ev,dq]
 show cI (exs _ [_,_,.ret _] (some _::some _::_))=_
 refine lE (ρ':=[some (.val (.int c)),some m,some (.ownD (.k [])),none]) rfl ?_
 refine lE (ρ':=[some (.val (.int c)),some m,some (.ownD (.k d)),hh]) ?_ ?_
 ·rw [nO (xs:=t.map .int) (by rcases hm with rfl|rfl<;>simp [evs,ev]),show bu [(.bor 1)] [some (.val (.int c)),some m,some (.ownD (.k [])),none]=[some (.val (.int c)),some m,some (.ownD (.k [])),none] from by rcases hm with rfl|rfl<;>rfl,e,jr]
  rcases hm with rfl|rfl<;>rfl
 ·exact dZ e2
noncomputable def byH(o w:Bool):Nat->List Int->List Int
 | _,[]=>[]
 |k,h::t=>if (hat o k == w)=true then h::byH o w (k+1) t else byH o w (k+1) t
theorem qx(o w:Bool):∀(t:List Int) (k:Nat),byH o w k t=((List.range t.length).filter λ(i:Nat)=>hat o (k+i) == w).map λi=>t.getD i 0
 | [],k=>rfl
 |x::t,k=>by
  rw [byH,List.length_cons,List.range_succ_eq_map,List.filter_cons,List.filter_map]
  have ih:=qx o w t (k+1)
  have e:(λ(i:Nat)=>hat o (k+i) == w) ∘ Nat.succ=λ(i:Nat)=>hat o (k+1+i) == w:=by
   funext i
   show(hat o (k+(i+1)) == w)=_
   rw [Nat.add_assoc k 1 i,Nat.add_comm 1 i]
  rw [e,show(hat o (k+0) == w)=(hat o k == w) from rfl]
  by_cases h:(hat o k == w)=true
  ·rw [if_pos h,if_pos h,List.map_cons,ih,List.map_map]
   rfl
  ·rw [if_neg h,if_neg h,ih,List.map_map]
   rfl
theorem rO(o w:Bool):∀(t:List Int) (k:Nat),(byH o w k t).length<=t.length
 | [],_=>Nat.le_refl _
 |x::t,k=>by
  rw [byH]
  have:=rO o w t (k+1)
  split<;>simp only [List.length_cons]<;>omega
theorem qy{o:Bool}{b:Int}(hb:b=if o=true then 1 else 0)(t:List Int):byH o false 0 t=tb t b/\byH o true 0 t=tb t (1-b):=by
 constructor
 ·rw [qx]
  unfold tb
  congr 2
  funext i
  rw [Nat.zero_add,Bool.eq_iff_iff,beq_iff_eq,decide_eq_true_iff]
  unfold hat
  subst hb
  cases o<;>simp<;>omega
 ·rw [qx]
  unfold tb
  congr 2
  funext i
  rw [Nat.zero_add,Bool.eq_iff_iff,beq_iff_eq,decide_eq_true_iff]
  unfold hat
  subst hb
  cases o<;>simp<;>omega
theorem enum_len:∀(ys:List PV) (k:Nat),(aY k ys).length=ys.length
 | [],_=>rfl
 |y::ys,k=>by rw [aY,List.length_cons,List.length_cons,enum_len ys (k+1)]
theorem zp(o w:Bool)(c:PV->Option Bool)(f:PV->Option PV)(hc:∀(k:Nat) (x:Int),c (.tup [.int (k:Nat),.int x])=some (hat o k == w))(hf:∀(k:Nat) (x:Int),f (.tup [.int (k:Nat),.int x])=some (.int x)):∀(t:List Int) (k:Nat),bU c f (aY k (t.map .int))=some ((byH o w k t).map .int)
 | [],_=>rfl
 |x::t,k=>by
  rw [List.map_cons,aY,bU,hc,Option.bind_some,byH,zp o w c f hc hf t (k+1)]
  split
  ·rw [hf,Option.bind_some];rfl
  ·rfl
theorem tI(a b:Bool):(ce a == ce b)=(a == b):=by cases a<;>cases b<;>simp [ce,yK]
theorem lH(n:Nat)(c:Int)(R:List (List Int))(o w:Bool)(t:List Int)(hl:t.length<64):ae defs (n+3) 22 [.brwO (tbl c R o) (t.map .int),.val (.str (ce w))]=some (ofL (sortI (byH o w 0 t))):=by
 rw [ax (d:=aW) rfl rfl]
 have e0:=λk=>mN n (.int c) (ofR R) (t.map .int) o k
 have e:ev (ae defs (n+2)) (.comp2 [(.fldL 0)] [0,1] (.cmp .eq (.callM 21 2 [(.bor 0)]) (.bor 3)) (.var 1)) [some (.brwO (tbl c R o) (t.map .int)),some (.val (.str (ce w)))]=some (.lst ((byH o w 0 t).map .int)):=by
  rw [ev,show evs (ae defs (n+2)) [(.fldL 0)] [some (.brwO (tbl c R o) (t.map .int)),some (.val (.str (ce w)))]=some [.lst (t.map .int)] from by simp [evs,ev,mz],Option.bind_some,show bF sk2 [.lst (t.map PV.int)]=some (aY 0 (t.map .int)) from rfl,Option.bind_some,if_pos (by rw [enum_len,List.length_map];omega),zp o w]
  ·rfl
  ·intro k x
   simp [ev,evA,ni,cy,gS,e0,tI]
  ·intro k x
   simp [ev,ni]
 have hl2:(byH o w 0 t).length<64:=Nat.lt_of_le_of_lt (rO o w t 0) hl
 show cI (exs _ [.ret _] [some _,some _])=_
 rw [dZ (v:=ofL (sortI (byH o w 0 t)))]
 rw [bN e,lw,rG,Option.bind_some,jp hl2]
theorem rP(n:Nat)(fs:List PV)(t:List Int):ae defs (n+1) 23 [.brwO fs (t.map .int)]=some (ofL t):=by
 rw [ax (d:=bP) rfl rfl]
 simp [bP,exs,ex,ev,evs,mz]
theorem yR(n:Nat)(i:Int):ae defs (n+1) 11 [.val (.int i)]=some (.bl true):=by
 rw [ax (d:=eM) rfl rfl]
 simp [eM,exs,ex,ev,evs]
theorem iV(n:Nat)(a:List Int):∀(ks:List Nat) (kk:Option MV),(∀k∈ks,k<a.length) ->
  ∃kk',bx (λx ρ'=>exs (ae defs (n+1)) cg (put ρ' 2 (.val x))) (ks.map λ(k:Nat)=>.int (k:Int)) [some (.val (ofL a)),some (.val (ofL a)),kk]=.next [some (.val (ofL a)),some (.val (ofL a)),kk']
 | [],kk,_=>⟨kk,rfl⟩
 |k::ks,kk,h=>by
  have hk:=h k (.head _)
  have e1:place (a.map PV.int).length ((k:Nat):Int)=some k:=by rw [lx (by omega) (by rw [List.length_map];omega)];simp
  have e2:=yR n a[k]
  have e:exs (ae defs (n+1)) cg (put [some (.val (ofL a)),some (.val (ofL a)),kk] 2 (.val (.int (k:Nat))))=.next [some (.val (ofL a)),some (.val (ofL a)),some (.val (.int (k:Nat)))]:=by
   rw [List.length_map]at e1
   simp [cg,exs,ex,ev,evs,evB,evA,e1,hk,e2]
  rw [List.map_cons,cT e]
  exact iV n a ks _ λj hj=>h j (.tail _ hj)
theorem tJ(n:Nat)(a:List Int)(hl:a.length<=60):ae defs (n+2) 12 [.val (ofL a),.val (ofL a)]=some (.bl true):=by
 rw [ax (d:=eU) rfl rfl]
 obtain⟨kk',e⟩:=iV n a (List.range a.length) none λk hk=>by simpa using hk
 have e2:bF .rng [.int (a.length:Nat)]=some ((List.range a.length).map λ(k:Nat)=>.int (k:Int)):=by rw [cR (by omega) (by omega),Int.toNat_natCast]
 show cI (exs _ [.ite _ _ _,.for1 _ _ _ _,.ret _] (some _::some _::[none]))=_
 refine lE (by rw [qr (p:=false) (by simp [ev,evs]),if_neg (by decide),exs]) ?_
 refine lE (ρ':=[some (.val (ofL a)),some (.val (ofL a)),kk']) ?_ (dZ (by rw [ev]))
 rw [nO (xs:=(List.range a.length).map λ(k:Nat)=>.int (k:Int)) (by rw [show evs (ae defs (n+1)) [(.blt .len [(.bor 1)])] [some (.val (ofL a)),some (.val (ofL a)),none]=some [.int (a.length:Nat)] from by simp [evs,ev],Option.bind_some,e2]),show bu [(.blt .len [(.bor 1)])] [some (.val (ofL a)),some (.val (ofL a)),none]=[some (.val (ofL a)),some (.val (ofL a)),none] from rfl,e,jr]
 rfl
theorem rQ(n:Nat)(c:Int)(R:List (List Int))(o:Bool)(t:List Int)(h0:0<=c)(h1:c<=60):ae defs (n+1) 26 [.brwO (tbl c R o) (t.map .int)]=some (ofL (frl c t)):=by
 rw [ax (d:=cG) rfl rfl]
 have hl:c.toNat<=10000:=by omega
 have e:ev (ae defs n) (.comp .rng [(.fld 0 0)] [0] (.cmp .notIn (.bor 0) (.fldL 1)) (.var 0)) [some (.brwO (tbl c R o) (t.map .int))]=some (ofL (frl c t)):=by
  rw [ev,show evs (ae defs n) [(.fld 0 0)] [some (.brwO (tbl c R o) (t.map .int))]=some [.int c] from by simp [evs,ev,gS],Option.bind_some,cR h0 (by omega),Option.bind_some,if_pos (by simpa using hl),cm (p:=λ(k:Nat)=>!decide ((k:Int)∈t)) (h:=λ(k:Nat)=>.int (k:Int))]
  ·unfold frl
   rw [Option.map_some]
   show some (PV.lst _)=some (PV.lst ((List.map _ _).map PV.int))
   rw [List.map_map]
   rfl
  ·intro k _
   simp [ev,dq,cy,mz,cq]
  ·intro k _ _
   simp [ev,dq]
 show cI (exs _ [.ret _] [some _])=_
 rw [dZ e]
theorem rR(n:Nat)(c:Int)(R:List (List Int))(o:Bool)(t:List Int)(hl:t.length<64):ae defs (n+4) 24 [.brwO (tbl c R o) (t.map .int)]=some (ofL (sortI (byH o false 0 t))):=by
 rw [ax (d:=bQ) rfl rfl]
 have e:=lH n c R o false t hl
 rw [show ce false=("weaver":PySem.Str) from rfl]at e
 simp [bQ,exs,ex,ev,evs,evA,gS,e]
theorem rS(n:Nat)(c:Int)(R:List (List Int))(o:Bool)(t:List Int)(hl:t.length<64):ae defs (n+4) 25 [.brwO (tbl c R o) (t.map .int)]=some (ofL (sortI (byH o true 0 t))):=by
 rw [ax (d:=bR) rfl rfl]
 have e:=lH n c R o true t hl
 rw [show ce true=("moth":PySem.Str) from rfl]at e
 simp [bR,exs,ex,ev,evs,evA,gS,e]
theorem wL{cal:Cal}{i:Nat}{k:Sk}{src:List ME}{body ms:List MS}{ρ ρ':Rho}{xs:List PV}{r:R}(h:(evs cal src ρ).bind (bF k)=some xs)(e:bx (λx ρ'=>exs cal body (put ρ' i (.val x))) xs (bu src ρ)=.next ρ')(q:exs cal ms (bf src ρ ρ')=r):exs cal (.for1 i k src body::ms) ρ=r:=by
 rw [bE,nO h,e,jr,cQ,q]
theorem rT{cal:Cal}{es:List ME}{ρ:Rho}{vs:List PV}(h:evs cal es ρ=some vs)(hl:vs.length<=10000:=by simp):ev cal (.lst es) ρ=some (.lst vs):=by
 rw [ev,h,Option.bind_some,if_pos hl]
noncomputable def lI(c:Int)(t:List Int)(b:Int):PV:=.lst [ofL t,ofL (sortI (tb t b)),ofL (sortI (tb t (1-b))),ofL (frl c t)]
noncomputable def bI(o:Bool):Int:=if o=true then 1 else 0
theorem yS(n:Nat)(c:Int)(R:List (List Int))(o:Bool)(t:List Int)(h0:0<=c)(h1:c<=60)(hl:t.length<64):ae defs (n+5) 18 [.brwO (tbl c R o) (t.map .int)]=some (lI c t (bI o)):=by
 rw [ax (d:=a8) rfl rfl]
 obtain⟨b1,b2⟩:=qy (b:=bI o) rfl t
 have e1:=rP (n+3) (tbl c R o) t
 have e2:=rR n c R o t hl
 have e3:=rS n c R o t hl
 have e4:=rQ (n+3) c R o t h0 h1
 rw [b1]at e2
 rw [b2]at e3
 refine dZ ?_
 have m:∀(f:Nat) (v:PV),ae defs (n+4) f [.brwO (tbl c R o) (t.map .int)]=some v->ev (ae defs (n+4)) (.callM f 0 []) [some (.brwO (tbl c R o) (t.map .int))]=some v:=λf v h=>h
 exact rT (de (m _ _ e1) (de (m _ _ e2) (de (m _ _ e3) (de (m _ _ e4) rfl))))
theorem BH(n:Nat)(c:Int)(t:List Int)(b:Int)(h0:0<=c)(h1:c<=60)(hl:t.length<=60):ae defs (n+2) 19 [.val (.int c),.val (ofL t),.val (.int b)]=some (lI c t b):=by
 rw [ax (d:=hW) rfl rfl]
 have e2:=gi n t b (by omega) _ (.inr rfl)
 have e3:=gi n t (1-b) (by omega) _ (.inr rfl)
 have e4:=pf n c t h0 h1 hl _ (.inr rfl)
 refine dZ ?_
 exact rT (de (v:=ofL t) rfl (de (bi (vs:=[.val (ofL t),.val (.int b)]) rfl e2) (de (bi (vs:=[.val (ofL t),.val (.int (1-b))]) rfl e3) (de (bi (vs:=[.val (.int c),.val (ofL t)]) rfl e4) rfl))))
theorem ph(n:Nat)(A:List (List Int))(hA:∀a∈A,a.length<=60):∀(ks:List Nat) (kk:Option MV),(∀k∈ks,k<A.length)->∃kk',bx (λx ρ'=>exs (ae defs (n+2)) eW (put ρ' 2 (.val x))) (ks.map λ(k:Nat)=>PV.int (k:Int)) [some (.val (.lst (A.map ofL))),some (.val (.lst (A.map ofL))),kk]=.next [some (.val (.lst (A.map ofL))),some (.val (.lst (A.map ofL))),kk']
 | [],kk,_=>⟨kk,rfl⟩
 |k::ks,kk,h=>by
  have hk:=h k (.head _)
  have e:=tJ n A[k] (hA _ (List.getElem_mem hk))
  have i:gH (.lst (A.map ofL)) (.int (k:Int))=some (ofL A[k]):=by
   show(place (A.map ofL).length (k:Int)).bind (λj=>(A.map ofL)[j]?)=_
   rw [List.length_map,show place A.length (k:Int)=some k from by unfold place;simp [hk],Option.bind_some,List.getElem?_map,List.getElem?_eq_getElem hk]
   rfl
  have ii:∀j,j<2->ev (ae defs (n+2)) (.idx (.bor j) (.bor 2)) [some (.val (.lst (A.map ofL))),some (.val (.lst (A.map ofL))),some (.val (.int (k:Int)))]=some (ofL A[k]):=λj hj=>by
   match j,hj with
   |0,_=>exact(dY rfl rfl).trans i
   |1,_=>exact(dY rfl rfl).trans i
  have st:exs (ae defs (n+2)) eW (put [some (.val (.lst (A.map ofL))),some (.val (.lst (A.map ofL))),kk] 2 (.val (.int (k:Int))))=.next [some (.val (.lst (A.map ofL))),some (.val (.lst (A.map ofL))),some (.val (.int (k:Int)))] :=
   DC (wz (p:=true) (bi (iT (ii 0 (by decide)) (iT (ii 1 (by decide)) rfl)) e)) rfl
  rw [List.map_cons,cT st]
  exact ph n A hA ks _ λj hj=>h j (.tail _ hj)
theorem wM(n:Nat)(A:List (List Int))(h4:A.length=4)(hA:∀a∈A,a.length<=60):ae defs (n+3) 20 [.val (.lst (A.map ofL)),.val (.lst (A.map ofL))]=some (.bl true):=by
 rw [ax (d:=gf) rfl rfl]
 obtain⟨kk,e⟩:=ph n A hA (List.range 4) none λk hk=>by rw [h4];exact List.mem_range.mp hk
 show cI (exs (ae defs (n+2)) (_::[_]) [some (.val (.lst (A.map ofL))),some (.val (.lst (A.map ofL))),none])=_
 exact congrArg cI (wL (r:=.ret (.bl true)) (xs:=(List.range 4).map λ(k:Nat)=>PV.int (k:Int)) (by rfl) e rfl)
theorem rU(n:Nat)(c:Int)(t:List Int)(b:Int)(h1:c<=60)(hl:t.length<=60):ae defs (n+3) 20 [.val (lI c t b),.val (lI c t b)]=some (.bl true):=by
 refine wM n [t,sortI (tb t b),sortI (tb t (1-b)),frl c t] rfl λa ha=>?_
 have:=lG t b
 have:=lG t (1-b)
 have:=rN (c:=c) (t:=t)
 simp only [List.mem_cons,List.not_mem_nil,or_false]at ha
 rcases ha with rfl|rfl|rfl|rfl
 ·exact hl
 ·rw [sortI_len];omega
 ·rw [sortI_len];omega
 ·omega
noncomputable def Gd(c:Int)(s:List Int):Prop:=mM s/\∀x∈s,0<=x/\x<c
theorem lJ(n:Nat)(c:Int)(hp:0<c)(h1:c<=60)(sc:Option MV):∀(xs:List Int) (acc:List (List Int)) (a b:Option MV),(∀s∈acc,Gd c s)->acc.length+xs.length<=100 ->
  ∃(acc':List (List Int)) (a' b':Option MV),bx (λx ρ'=>exs (ae defs (n+2)) eV (put ρ' 3 (.val x))) (xs.map .int) [sc,some (.val (.int c)),some (.own (acc.map ofS)),a,b]=.next [sc,some (.val (.int c)),some (.own (acc'.map ofS)),a',b']/\(∀s∈acc',Gd c s)/\acc'.length=acc.length+xs.length
 | [],acc,a,b,h,_=>⟨acc,a,b,rfl,h,rfl⟩
 |x::xs,acc,a,b,h,hl=>by
  rw [List.length_cons]at hl
  have e:=yJ n x c 6 hp (by omega) (by decide) (by decide)
  have g:=qt x c 6 hp h1
  have lt:=(wE x c 6 hp).2
  generalize gx x c 6=s at e g lt
  have gl:=gw g
  have m0:=Int.emod_nonneg x (b:=c) (by omega)
  have m1:=Int.emod_lt_of_pos x hp
  have rg:∀y∈sortI (dd (s ++ [x % c])),0<=y/\y<c:=λy hy=>by
   rcases List.mem_append.mp (By.mp (fo.mp hy)) with q|q
   ·have:=lt y q
    omega
   ·rw [List.mem_singleton.mp q];omega
  have gd:Gd c (sortI (dd (s ++ [x % c]))):=⟨⟨ly (dd_nodup _),λy hy=>by have:=rg y hy;omega⟩,rg⟩
  have dl:(dd (s ++ [x % c])).length<64:=by have:=gw gd.1;rw [sortI_len]at this;omega
  have v1:ev (ae defs (n+2)) (.blt .tupleOf [(.blt .sortedSet [(.bin .add (.bor 4) (.tup [(.bin .mod (.bor 3) (.bor 1))]))])]) [sc,some (.val (.int c)),some (.own (acc.map ofS)),some (.val (.int x)),some (.val (ofS s))]=some (ofS (sortI (dd (s ++ [x % c])))):=by
   have b1:ev (ae defs (n+2)) (.bin .add (.bor 4) (.tup [(.bin .mod (.bor 3) (.bor 1))])) [sc,some (.val (.int c)),some (.own (acc.map ofS)),some (.val (.int x)),some (.val (ofS s))]=some (.tup ((s ++ [x % c]).map .int)):=by
    rw [gh (x:=ofS s) (y:=.tup [.int (x % c)]) rfl (rJ (de (v:=.int (x % c)) (by rw [gh (x:=.int x) (y:=.int c) rfl rfl];show(if 0<c then some (PV.int (x % c)) else none)=_;rw [if_pos hp]) rfl)),List.map_append]
    show(if (s.map PV.int).length+1<=10000 then _ else none)=_
    rw [if_pos (by rw [List.length_map];omega)]
    rfl
   rw [bN (v:=ofL (sortI (dd (s ++ [x % c])))) (by
    rw [bN b1,lX,show be (.tup ((s ++ [x % c]).map .int))=some ((s ++ [x % c]).map .int) from rfl,Option.bind_some,dE,Option.bind_some,if_pos ⟨by simp;omega,dl⟩])]
   rfl
  have st:exs (ae defs (n+2)) eV (put [sc,some (.val (.int c)),some (.own (acc.map ofS)),a,b] 3 (.val (.int x)))=.next [sc,some (.val (.int c)),some (.own ((acc ++ [sortI (dd (s ++ [x % c]))]).map ofS)),some (.val (.int x)),some (.val (ofS s))]:=by
   rw [List.map_append]
   exact Dz (bi (vs:=[.val (.int x),.val (.int c),.val (.int 6)]) rfl e) (DA (DE (xs:=acc.map ofS) rfl v1 (by rw [List.length_map];omega)))
  obtain⟨acc',a',b',e',h',l'⟩:=lJ n c hp h1 sc xs (acc ++ [sortI (dd (s ++ [x % c]))]) (some (.val (.int x))) (some (.val (ofS s))) (λt ht=>by
   rcases List.mem_append.mp ht with q|q
   ·exact h t q
   ·rw [List.mem_singleton.mp q];exact gd) (by rw [List.length_append,List.length_singleton];omega)
  refine⟨acc',a',b',?_,h',by rw [l',List.length_append,List.length_singleton,List.length_cons];omega⟩
  rw [List.map_cons,cT st]
  exact e'
theorem yT(n:Nat)(ns:List Int)(c:Int)(hp:0<c)(h1:c<=60):∃Rb:List (List Int),ae defs (n+3) 17 [.brw (ns.map .int),.val (.int c)]=some (.lst (Rb.map ofS))/\(∀s∈Rb,Gd c s)/\Rb.length<=8:=by
 rw [ax (d:=gc) rfl rfl]
 have ec:=wu (n+1) (.brw (ns.map .int)) ns 1 rfl (by decide)
 generalize cellOf ns 1=sm at ec
 have q0:0<=sm % 9:=Int.emod_nonneg _ (by decide)
 have q1:sm % 9<9:=Int.emod_lt_of_pos _ (by decide)
 have hcut:(lz ns (some 3) (some (3+sm % 9))).length<=8:=by have:=o7 ns (a:=3) (b:=3+sm % 9) (by decide) (by omega);omega
 obtain⟨acc,a',b',e,hg,hl⟩:=lJ n c hp h1 (some (.brw (ns.map .int))) (lz ns (some 3) (some (3+sm % 9))) [] none none (λ_ h=>by cases h) (by simp;omega)
 refine⟨acc,?_,hg,by rw [hl];simpa using hcut⟩
 show cI (exs (ae defs (n+2)) (_::_::[_]) [some (.brw (ns.map .int)),some (.val (.int c)),none,none,none])=_
 refine lE (ρ':=[some (.brw (ns.map .int)),some (.val (.int c)),some (.own []),none,none]) rfl ?_
 refine congrArg cI (wL (r:=.ret (.lst (acc.map ofS))) (xs:=(lz ns (some 3) (some (3+sm % 9))).map .int) ?_ e rfl)
 rw [show evs (ae defs (n+2)) [(.slice (.bor 0) (.cst (.int 3)) (.bin .add (.cst (.int 3)) (.bin .mod (.call 8 [(.bor 0),(.cst (.int 1))]) (.cst (.int 9)))))] [some (.brw (ns.map .int)),some (.val (.int c)),some (.own []),none,none]=some [ofL (lz ns (some 3) (some (3+sm % 9)))] from by simp [evs,ev,evA,ec,bnd]]
 rfl
noncomputable def top(i:Nat):Stmt:=PySem.Challenge.pw_mothloom_k47_two_tables.main.body.getD i (.Pass ⟨0,0,0,0⟩)
noncomputable def wN:Stmt:=cU (top 17) 0
theorem scI:h_ ["self","loom","first"] ["self","loom","first"] (aj wN):=⟨rfl,rfl,rfl,by decide +kernel,rfl,by decide +kernel,by decide +kernel⟩
theorem yU {P:Program}{w:World}{K:PySem.W.Frag}{mg:Str->Option Value}{base:Heap}{f C:Addr}{fd:FuncData} (D:FnD K "__init__" "Table.__init__" wN f fd) (c:rE K C):bW P w K mg base CX0 1 f fd ["self","loom","first"] (spI K C):=by
 obtain⟨c0,d0,k0,o0,m0,a0,cdv,t1,a1,sl,lk,hc,rfl⟩:=D.it
 have n0:=c.nf _ (show("hole_count":Str)∈gT by simp [gT])
 have n1:=c.nf _ (show("ribbons":Str)∈gT by simp [gT])
 have n2:=c.nf _ (show("opener":Str)∈gT by simp [gT])
 refine kj lk hc scI (λvs H Q E h=>?_) (λA outer s H vs Q E hr h=>?_)
 ·obtain⟨x,dx,la,u,r,o,rfl,_⟩:=h
  rfl
 ·obtain⟨x,dx,la,u,r,o,rfl,hx,ht,k⟩:=h
  refine⟨_,aN (mX (pv 0) (jA pL (pv 1) mU (λ_ _=>rfl)) rfl) (aN (mX (pv 0) (jA pL (pv 1) mU (λ_ _=>rfl)) rfl) (aN (mX (pv 0) (pv 2) rfl) (dj (mX (pv 0) (eP aR) rfl)))),?_⟩
  have s1:SqT K (upd H x (.ins C dx (dG "hole_count" u []))) la [u,r]:=yx ht hx
  refine⟨_,rfl,la,_,0,u,rfl,rfl,ht,rfl,_,rfl,x,C,dx,[],rfl,hx,c.cls,n0,(by show 0<1000;decide),?_⟩
  refine⟨_,rfl,la,_,1,r,rfl,rfl,s1,rfl,_,rfl,x,C,dx,_,rfl,ah,c.cls,n1,(by show 1<1000;decide),?_⟩
  refine⟨_,rfl,_,rfl,x,C,dx,_,rfl,ah,c.cls,n2,Nat.lt_of_le_of_lt (iS (iS (Nat.le_refl 0))) (by decide),?_⟩
  refine⟨Nat.zero_le _,λl hl=>?_⟩
  have nx:l≠x:=λz=>by rw [z,ah]at hl;cases hl
  have nl:H l=none:=by rw [ak nx,ak nx,ak nx]at hl;exact hl
  refine⟨_,rfl,x,C,dx,_,rfl,(by rw [ak (Ne.symm nx)];exact ah),c.cls,c.nt,Nat.lt_of_le_of_lt (iS (iS (iS (Nat.le_refl 0)))) (by decide),?_⟩
  refine k l _ nl ah (by rw [ak nx,ah]) λb o nb eb=>?_
  rw [ak nb,ak (az eb nl),ak nb,ak nb,ak nb]
  exact eb
noncomputable def fR:Stmt:=top 32
section
open PySem PySem.Spec PyProof.Rows L2 MM
inductive Vw(K:PySem.W.Frag)(H:Hp)(O:List Addr):Rho->L2.St->Prop
 | nil:Vw K H O [] []
 | skip {ρ:Rho}{σ:L2.St}{z:Option V}:Vw K H O ρ σ->Vw K H O (none::ρ) (z::σ)
 | val {ρ:Rho}{σ:L2.St}{v:PV}{u:V}:Rep K (af H O) v u->Vw K H O ρ σ->Vw K H O (some (.val v)::ρ) (some u::σ)
 | brw {ρ:Rho}{σ:L2.St}{xs:List PV}{a:Addr}{us:List V}:SqL K H a us->Reps K (af H O) xs us->Vw K H O ρ σ->Vw K H O (some (.brw xs)::ρ) (some (.ref a)::σ)
section
variable{K:PySem.W.Frag}{H:Hp}{O:List Addr}
theorem Vw.get:∀{ρ:Rho}{σ:L2.St}{i:Nat}{m:MV},Vw K H O ρ σ->ρ[i]?=some (some m)->db m=false/\∃u,σ[i]?=some (some u)/\da K H O H m u:=by
 intro ρ σ i m h
 induction h generalizing i with
 |nil=>intro e;simp at e
 |skip _ ih =>
  intro e
  cases i with
  |zero=>cases e
  |succ i=>exact ih e
 |val r _ ih =>
  intro e
  cases i with
  |zero=>cases e;exact⟨rfl,_,rfl,r⟩
  |succ i=>exact ih e
 |brw s r _ ih =>
  intro e
  cases i with
  |zero=>cases e;exact⟨rfl,_,rfl,_,_,rfl,s,r⟩
  |succ i=>exact ih e
theorem Vw.len{ρ:Rho}{σ:L2.St}(h:Vw K H O ρ σ):ρ.length=σ.length:=by
 induction h with
 |nil=>rfl
 |skip _ ih=>simp [ih]
 |val _ _ ih=>simp [ih]
 |brw _ _ _ ih=>simp [ih]
theorem Vw.st{ρ:Rho}{σ:L2.St}(h:Vw K H O ρ σ)(hO:∀a∈O,H a≠none):aF K H [] O H ρ σ where
 keep:=ac.refl H
 here:=hO
 sub:=λa ha=>by cases ha
 old:=λa ha=>by cases ha
 len:=h.len
 slot:=λi m e=>(h.get e).2
 apart:=λi j m m' a _ e _ o=>by rw [(h.get e).1]at o;cases o
 inn:=kZ λi m e=>by
  have:=(h.get e).1
  cases m<;>first|rfl|(cases this)
end
noncomputable def tV(K:PySem.W.Frag)(cal:Cal)(me:ME):TE:=λσ H Q=>∃O ρ v,(∀a∈O,H a≠none)/\Vw K H O ρ σ/\ev cal me ρ=some v/\∀u H',ac H H'->Rep K (af H' O) v u->Q u H'
noncomputable def tVB(K:PySem.W.Frag)(cal:Cal)(me:ME):TT:=λσ H Q=>∃O ρ b,(∀a∈O,H a≠none)/\Vw K H O ρ σ/\ev cal me ρ=some (.bl b)/\∀H',ac H H'->Q b H'
section
variable{X:Cx}{T:Tab}{k:Nat}{cal:Cal}
theorem EW{me:ME}{e:Expr}(g:Gf X T k cal)(h:chk T me X.N X.env.scope e=true)(hb:aI me=false):PE X e (tV X.K cal me) :=
 (am me g h).1.imp λσ H Q ⟨O,ρ,v,hO,vw,he,q⟩=>⟨H,[],O,ρ,v,vw.st hO,he,λu H' s g=>q u H' s (g.2 hb)⟩
theorem EX{me:ME}{e:Expr}(g:Gf X T k cal)(h:chk T me X.N X.env.scope e=true):PT X e (tVB X.K cal me) :=
 (am me g h).2.imp λσ H Q ⟨O,ρ,v,hO,vw,he,q⟩=>⟨H,[],O,ρ,v,vw.st hO,by unfold evB;rw [he];rfl,λH' s=>q H' s⟩
end
noncomputable def pi(K:PySem.W.Frag):Sp:=λvs H Q _=>∃(a:Addr) (ns:List Int),vs=[.ref a]/\ns.length<=63/\SqL K H a (ns.map V.int)/\∀H',Q (.bl true) H'
noncomputable def lb:List Stmt:=bK fR
noncomputable def S(i:Nat):Stmt:=lb.getD i (.Pass ⟨0,0,0,0⟩)
theorem DH:lb=[S 0,S 1,S 2,S 3,S 4,S 5,S 6,S 7,S 8,S 9,S 10]:=rfl
structure Lx(X:Cx):Prop where
 n:X.N=fO.names
 s:X.env.scope=aj fR
 d:Df X
 g:Gf X tab 39 (ae defs 39)
section
variable{X:Cx}
theorem Lx.set{i:Nat}{x:Str}{px pos:Pos}{v:Expr}{te:TE}(l:Lx X)(hi:fO.names[i]?=some x)(hx:fc (aj fR) x=true)(h:PE X v te)(hc:swapsWith v (some (.Name x px)) pos.line X.env=pure false):PS X (.Assign [.Name x px] v pos) (λD σ H=>te σ H λu H'=>D.nx (σ.set i (some u)) H') :=
 gK l.d.nd (by rw [l.n];exact hi) (by have:=fj hx;rw [<- l.s]at this;exact this) h hc (.inl (l.d.fn x))
theorem Lx.v{me:ME}{e:Expr}(l:Lx X)(h:chk tab me fO.names (aj fR) e=true)(hb:aI me=false:=by rfl):PE X e (tV X.K (ae defs 39) me):=EW l.g (by rw [l.n,l.s];exact h) hb
theorem Lx.t{me:ME}{e:Expr}(l:Lx X)(h:chk tab me fO.names (aj fR) e=true):PT X e (tVB X.K (ae defs 39) me):=EX l.g (by rw [l.n,l.s];exact h)
theorem Lx.nm{i:Nat}{x:Str}{pos:Pos}(l:Lx X)(h:ar fO.names (aj fR) i x=true):PE X (.Name x pos) (br i):=bz (by rw [l.n,l.s];exact h)
theorem s0(l:Lx X):PS X (S 0) (λD σ H=>tV X.K (ae defs 39) (.bin .add (.cst (.int 1)) (.bin .mod (.call 8 [(.bor 0),(.cst (.int 0))]) (.cst (.int 60)))) σ H λu H'=>D.nx (σ.set 1 (some u)) H') :=
 l.set (i:=1) rfl (by decide +kernel) (l.v (by kernel_rfl)) (aJ rfl _ _ _)
theorem s1(l:Lx X):PS X (S 1) (λD σ H=>tV X.K (ae defs 39) (.call 17 [(.bor 0),(.bor 1)]) σ H λu H'=>D.nx (σ.set 2 (some u)) H') :=
 l.set (i:=2) rfl (by decide +kernel) (l.v (by kernel_rfl)) (aJ rfl _ _ _)
theorem s2(l:Lx X):PS X (S 2) (λD σ H=>tV X.K (ae defs 39) (.tup [(.var 1),(.blt .tupleOf [(.blt .sorted [(.bor 2)])])]) σ H λu H'=>D.nx (σ.set 3 (some u)) H') :=
 l.set (i:=3) rfl (by decide +kernel) (l.v (by kernel_rfl)) (aJ rfl _ _ _)
end
structure Cl where
 aT:Addr
 aK:Addr
 aL:Addr
 aH:Addr
 aC:Addr
 t:Bool->Addr
 l:Bool->Addr
 k:Bool->Addr
noncomputable def Cl.o(z:Cl):List Addr:=[z.aT,z.aL,z.aH,z.aC,z.t false,z.t true,z.l false,z.l true]
noncomputable def Cl.m(z:Cl):List Addr:=z.aK::z.k false::z.k true::z.o
noncomputable def up{α:Type}(x:Bool->α)(b:Bool)(y:α):Bool->α:=λc=>if c=b then y else x c
theorem fK{α:Type}{x:Bool->α}{b:Bool}{y:α}:up x b y b=y:=if_pos rfl
theorem mQ{α:Type}{x:Bool->α}{b c:Bool}{y:α}(h:c≠b):up x b y c=x c:=if_neg h
structure Jt(K:PySem.W.Frag)(ns:Bool->List Int)(c:Int)(Rb:List (List Int))(z:Cl)(xo xk xl:Bool->List Int)(hv cv:List PV)(a0:Bool->Addr)(u2 u3:V)(H:Hp):Prop where
 nd:z.m.Nodup
 sc:∀i,SqL K (af H z.m) (a0 i) ((ns i).map V.int)
 rb:Rep K (af H z.m) (.lst (Rb.map ofS)) u2
 lm:Rep K (af H z.m) (.tup [.int c,ofR (sortT Rb)]) u3
 T:H z.aT=some (.lst [.ref (z.t false),.ref (z.t true)])
 ob:∀b,cz K (λ_=>none) z.m H (tbl c (sortT Rb) b) ((xo b).map .int) (z.t b) (z.l b)
 KK:H z.aK=some (.lst [.ref (z.k false),.ref (z.k true)])
 kk:∀b,H (z.k b)=some (.lst ((xk b).map V.int))
 L:∃us,H z.aL=some (.lst us)/\Reps K (af H z.m) [ofR (lft false 0 (sortT Rb) (xl false)),ofR (lft true 0 (sortT Rb) (xl true))] us
 hh:∃us,H z.aH=some (.lst us)/\Reps K (af H z.m) hv us
 cc:∃us,H z.aC=some (.lst us)/\Reps K (af H z.m) cv us
noncomputable def fr(z:Cl)(c:Int)(a0:Bool->Addr)(u2 u3:V)(σ:L2.St):L2.St:=some (.ref (a0 false))::some (.int c)::some u2::some u3::some (.ref z.aT)::some (.ref z.aK)::some (.ref z.aL)::some (.ref z.aH)::some (.ref z.aC)::σ
section
variable{K:PySem.W.Frag}{ns:Bool->List Int}{c:Int}{Rb:List (List Int)}{z:Cl}{xo xk xl:Bool->List Int}{hv cv:List PV}{a0:Bool->Addr}{u2 u3:V}{H H':Hp}
theorem Jt.ins(j:Jt K ns c Rb z xo xk xl hv cv a0 u2 u3 H)(b:Bool):∃C dx gs,H (z.t b)=some (.ins C dx gs):=let ⟨C,dx,gs,h,_⟩:=(j.ob b).ob;⟨C,dx,gs,h⟩
theorem Jt.here(j:Jt K ns c Rb z xo xk xl hv cv a0 u2 u3 H):∀a∈z.m,H a≠none:=by
 intro a ha
 have h1:∀b,H (z.t b)≠none:=λb e=>by obtain⟨_,_,_,h⟩:=j.ins b;rw [h]at e;cases e
 have h2:∀b,H (z.l b)≠none:=λb e=>by obtain⟨us,h,_⟩:=(j.ob b).li;rw [h]at e;cases e
 have h3:∀b,H (z.k b)≠none:=λb e=>by rw [j.kk b]at e;cases e
 obtain⟨_,e1,_⟩:=j.L
 obtain⟨_,e2,_⟩:=j.hh
 obtain⟨_,e3,_⟩:=j.cc
 simp only [Cl.m,Cl.o,List.mem_cons,List.not_mem_nil,or_false]at ha
 rcases ha with rfl|rfl|rfl|rfl|rfl|rfl|rfl|rfl|rfl|rfl|rfl
 ·rw [j.KK];simp
 ·exact h3 _
 ·exact h3 _
 ·rw [j.T];simp
 ·rw [e1];simp
 ·rw [e2];simp
 ·rw [e3];simp
 ·exact h1 _
 ·exact h1 _
 ·exact h2 _
 ·exact h2 _
theorem Cl.om(z:Cl){a:Addr}(h:a∈z.o):a∈z.m:=.tail _ (.tail _ (.tail _ h))
theorem Cl.kt(z:Cl)(b:Bool):z.k b∈z.m:=by cases b<;>simp [Cl.m]
theorem Jt.mono(j:Jt K ns c Rb z xo xk xl hv cv a0 u2 u3 H)(s:ac H H'):Jt K ns c Rb z xo xk xl hv cv a0 u2 u3 H' where
 nd:=j.nd
 sc:=λi=>(ag s).seq (j.sc i)
 rb:=Rep.mono (ag s) _ j.rb
 lm:=Rep.mono (ag s) _ j.lm
 T:=s _ _ j.T
 ob:=λb=>(j.ob b).move (ag s) (λ_=>s _ _) (λ_=>s _ _) (j.ob b).aO (j.ob b).lO rfl rfl
 KK:=s _ _ j.KK
 kk:=λb=>s _ _ (j.kk b)
 L:=let ⟨us,e,r⟩:=j.L;⟨us,s _ _ e,Reps.mono (ag s) _ r⟩
 hh:=let ⟨us,e,r⟩:=j.hh;⟨us,s _ _ e,Reps.mono (ag s) _ r⟩
 cc:=let ⟨us,e,r⟩:=j.cc;⟨us,s _ _ e,Reps.mono (ag s) _ r⟩
theorem gz(z:Cl):ac (af H z.m) (af H z.o):=aQ (ac.refl H) λ_ h=>.inl (z.om h)
theorem Jt.view(j:Jt K ns c Rb z xo xk xl hv cv a0 u2 u3 H){ρ:Rho}{σ:L2.St}(t:Vw K H z.o ρ σ):Vw K H z.o
  (some (.brw ((ns false).map .int))::some (.val (.int c))::some (.val (.lst (Rb.map ofS)))::some (.val (.tup [.int c,ofR (sortT Rb)]))::none::some (.val (.lst [ofL (xk false),ofL (xk true)]))::some (.brw [ofR (lft false 0 (sortT Rb) (xl false)),ofR (lft true 0 (sortT Rb) (xl true))])::some (.brw hv)::some (.brw cv)::ρ) (fr z c a0 u2 u3 σ):=by
 obtain⟨us1,e1,r1⟩:=j.L
 obtain⟨us2,e2,r2⟩:=j.hh
 obtain⟨us3,e3,r3⟩:=j.cc
 have nd:=j.nd
 unfold Cl.m at nd
 obtain⟨n1,nd⟩:=List.nodup_cons.mp nd
 obtain⟨n2,nd⟩:=List.nodup_cons.mp nd
 obtain⟨n3,nd⟩:=List.nodup_cons.mp nd
 have o1:z.aK∉z.o:=λh=>n1 (.tail _ (.tail _ h))
 have o2:z.k false∉z.o:=λh=>n2 (.tail _ h)
 have ik:∀b,Rep K (af H z.o) (ofL (xk b)) (.ref (z.k b)):=λb=>by
  have o:z.k b∉z.o:=by cases b<;>assumption
  show Rep K _ (.lst ((xk b).map .int)) _
  rw [Rep]
  exact⟨_,_,rfl,SqL.of (by rw [aD o];exact j.kk b),Reps.of_ints _⟩
 refine .brw ((aU H _).seq (j.sc false)) (Reps.of_ints (ns false)) (.val (by rw [Rep]) (.val (Rep.mono (gz z) _ j.rb) (.val (Rep.mono (gz z) _ j.lm) (.skip (.val ?_ (.brw (SqL.of e1) (Reps.mono (gz z) _ r1) (.brw (SqL.of e2) (Reps.mono (gz z) _ r2) (.brw (SqL.of e3) (Reps.mono (gz z) _ r3) t))))))))
 rw [Rep]
 exact⟨_,_,rfl,SqL.of (by rw [aD o1];exact j.KK),.cons (ik _) (.cons (ik _) .nil)⟩
theorem Jt.hereo(j:Jt K ns c Rb z xo xk xl hv cv a0 u2 u3 H):∀a∈z.o,H a≠none:=λa h=>j.here a (z.om h)
end
theorem DJ:ae defs 39 4000 []≠none:=nofun
section
variable{X:Cx}
noncomputable def tTb(K:PySem.W.Frag)(C:Addr)(w:Str):TE:=y2 C (spI K C) [] E0 (aV (br 3) (aV (tC (.str w)) bA))
theorem s3 (l:Lx X):∃C,IsC X.K C/\PS X (S 3) (λD σ H=>fS (aV (tTb X.K C "weaver") (aV (tTb X.K C "moth") bA)) σ H λu H'=>D.nx (σ.set 4 (some u)) H'):=by
 obtain⟨C,hC,hm,fa,fd,ps,M,hbd,F,_⟩:=l.g.ini DJ
 have gt:Gl X "Table":=dw (by rw [l.s];decide +kernel)
 have r:=l.g.lvl DJ
 exact⟨C,hC,l.set (i:=4) rfl (by decide +kernel) (eP (au (jT M F r gt hm hbd .nil d_ (au (l.nm (i:=3) (by decide +kernel)) (au pw aR))) (au (jT M F r gt hm hbd .nil d_ (au (l.nm (i:=3) (by decide +kernel)) (au pw aR))) aR))) (aJ rfl _ _ _)⟩
theorem s4(l:Lx X):PS X (S 4) (λD σ H=>fS (aV (fS bA) (aV (fS bA) bA)) σ H λu H'=>D.nx (σ.set 5 (some u)) H') :=
 l.set (i:=5) rfl (by decide +kernel) (eP (au (eP aR) (au (eP aR) aR))) (aJ rfl _ _ _)
theorem s5(l:Lx X):PS X (S 5) (λD σ H=>fS (aV (tV X.K (ae defs 39) (.idx (.bor 3) (.cst (.int 1)))) (aV (tV X.K (ae defs 39) (.idx (.bor 3) (.cst (.int 1)))) bA)) σ H λu H'=>D.nx (σ.set 6 (some u)) H') :=
 l.set (i:=6) rfl (by decide +kernel) (eP (au (l.v (by kernel_rfl)) (au (l.v (by kernel_rfl)) aR))) (aJ rfl _ _ _)
theorem s6(l:Lx X):PS X (S 6) (λD σ H=>fS bA σ H λu H'=>D.nx (σ.set 7 (some u)) H') :=
 l.set (i:=7) rfl (by decide +kernel) (eP aR) (aJ rfl _ _ _)
theorem s7(l:Lx X):PS X (S 7) (λD σ H=>fS bA σ H λu H'=>D.nx (σ.set 8 (some u)) H') :=
 l.set (i:=8) rfl (by decide +kernel) (eP aR) (aJ rfl _ _ _)
end
noncomputable def fb:Stmt->List Stmt
 | .For _ _ b _ _=>b
 | .If _ b _ _=>b
 | _=>[]
noncomputable def B(i:Nat):Stmt:=(fb (S 8)).getD i (.Pass ⟨0,0,0,0⟩)
noncomputable def A(i:Nat):Stmt:=(fb (B 1)).getD i (.Pass ⟨0,0,0,0⟩)
noncomputable def C(i:Nat):Stmt:=(fb (B 2)).getD i (.Pass ⟨0,0,0,0⟩)
theorem E9:fb (S 8)=[B 0,B 1,B 2]:=rfl
theorem E_:fb (B 1)=[A 0,A 1,A 2,A 3]:=rfl
theorem Fa:fb (B 2)=[C 0,C 1,C 2,C 3,C 4,C 5]:=rfl
section
variable{X:Cx}
noncomputable abbrev cl:Cal:=ae defs 39
theorem b0(l:Lx X):PS X (B 0) (λD σ H=>tV X.K cl (.bin .mod (.bin .fdiv (.bor 9) (.cst (.int 64))) (.cst (.int 2))) σ H λu H'=>D.nx (σ.set 10 (some u)) H') :=
 l.set (i:=10) rfl (by decide +kernel) (l.v (by kernel_rfl)) (aJ rfl _ _ _)
theorem b1{t:TS}(l:Lx X)(h:PSs X [A 0,A 1,A 2,A 3] t):PS X (B 1) (tY (tVB X.K cl (.cmp .isN (.call 15 [(.idx (.bor 6) (.bor 10))]) (.cst .non))) t nU) :=
 tZ (l.t (by kernel_rfl)) h mV
theorem a0(l:Lx X):PS X (A 0) (λD σ H=>tV X.K cl (.call 16 [(.bor 1),(.idx (.bor 5) (.bor 10))]) σ H λu H'=>D.nx (σ.set 11 (some u)) H') :=
 l.set (i:=11) rfl (by decide +kernel) (l.v (by kernel_rfl)) (aJ rfl _ _ _)
noncomputable abbrev pk:ME:=.idx (.bor 11) (.bin .mod (.bor 9) (.blt .len [(.bor 11)]))
theorem a1 (l:Lx X) {C:Addr} (hC:IsC X.K C):PS X (A 1) (d8 (l5 C "take" (spT X.K cl 29) [] E0 (tOp (kz X.K) (br 4) (br 10)) (aV (tV X.K cl pk) bA))):=by
 obtain⟨fa,fd,ps,h1,h3,F⟩:=l.g.methsT 29 "take" rfl C hC
 exact dk (mZ (jA gn (l.nm (i:=4) (by decide +kernel)) (l.nm (i:=10) (by decide +kernel)) (λ_ _=>rfl)) (l.g.cls C hC).1 h1 F l.g.room h3 .nil d_ (au (l.v (by kernel_rfl)) aR)) rfl
theorem a2 (l:Lx X):PS X (A 2) (d8 (tBM X.K "list" cr (tOp (kz X.K) (br 5) (br 10)) (aV (tV X.K cl pk) bA))) :=
 dk (jB PySem.F.plainAttrs_list PySem.F.slot_list_append PySem.F.type_list_append cn (jA gn (l.nm (i:=5) (by decide +kernel)) (l.nm (i:=10) (by decide +kernel)) (λ_ _=>rfl)) (au (l.v (by kernel_rfl)) aR)) rfl
theorem a3(l:Lx X):PS X (A 3) (nW (tV X.K cl (.call 14 [(.bor 2),(.call 13 [(.idx (.bor 5) (.bor 10)),(.bor 10)]),(.call 13 [(.idx (.bor 5) (.bor 10)),(.bin .sub (.cst (.int 1)) (.bor 10))])])) (zI (br 6) (br 10) uC)) :=
 zK (l.v (by kernel_rfl)) (zJ (l.nm (i:=6) (by decide +kernel)) (l.nm (i:=10) (by decide +kernel)) set_list) rfl rfl
theorem c0(l:Lx X):PS X (C 0) (λD σ H=>jy (spM X.K cl 18) [] E0 (aV (tOp (kz X.K) (br 4) (br 12)) bA) σ H λu H'=>D.nx (σ.set 13 (some u)) H'):=by
 obtain⟨fa,fd,ps,h1,h2,h3,F,_⟩:=l.g.fns 18 "_law_lists" rfl (by decide +kernel)
 exact l.set (i:=13) rfl (by decide +kernel) (jS F l.g.room (dw (by rw [l.s];decide +kernel)) h1 h2 h3 .nil d_ (au (jA gn (l.nm (i:=4) (by decide +kernel)) (l.nm (i:=12) (by decide +kernel)) (λ_ _=>rfl)) aR)) (aJ rfl _ _ _)
theorem c1(l:Lx X):PS X (C 1) (λD σ H=>tV X.K cl (.call 19 [(.bor 1),(.idx (.bor 5) (.bor 12)),(.bor 12)]) σ H λu H'=>D.nx (σ.set 14 (some u)) H') :=
 l.set (i:=14) rfl (by decide +kernel) (l.v (by kernel_rfl)) (aJ rfl _ _ _)
theorem c2(l:Lx X):PS X (C 2) (tY (tVB X.K cl (.not (.call 20 [(.bor 13),(.bor 14)]))) (zE (tC (.bl false))) nU) :=
 tZ (l.t (by kernel_rfl)) (dj (iX y0)) mV
theorem c3 (l:Lx X):PS X (C 3) (d8 (tBM X.K "list" cr (br 7) (aV (br 13) bA))) :=
 dk (jB PySem.F.plainAttrs_list PySem.F.slot_list_append PySem.F.type_list_append cn (l.nm (i:=7) (by decide +kernel)) (au (l.nm (i:=13) (by decide +kernel)) aR)) rfl
noncomputable abbrev tCp(K:PySem.W.Frag):TE:=tCB (λus H Q=>∃p ys,us=[.ref p]/\(SqL K H p ys\/SqT K H p ys)/\∀l,H l=none->Q (.ref l) (upd H l (.lst ys))) (aV (br 0) bA)
theorem c4 (l:Lx X):PS X (C 4) (d8 (tBM X.K "list" cr (br 8) (aV (oB (jw X.K (br 14)) [] uZ (tCp X.K)) bA))):=by
 have hm:X.mg ("list":Str)=none:=l.g.blt _ (by simp [fg])
 refine dk (jB PySem.F.plainAttrs_list PySem.F.slot_list_append PySem.F.type_list_append cn (l.nm (i:=8) (by decide +kernel)) (au (qO (fvs:=[]) (jj (by rw [l.n,l.s];kernel_rfl)) l.g.calm (fw (l.nm (i:=14) (by decide +kernel))) (λs₁ H₁ C fp=>u0) (λs₁ H₁ C fp=>?_)) aR)) rfl
 exact gm ie (dw (by show glB (gC _ X.env.scope) _=true;rw [l.s];decide +kernel)) hm rfl (au (pq rfl (.inl (by show(gC _ X.env.scope).names.lookup _=some .local;rw [l.s];decide +kernel))) aR)
theorem c5 (l:Lx X):PS X (C 5) (kf (jw X.K (jy (spM X.K cl 18) [] E0 (aV (tOp (kz X.K) (br 4) (br 12)) bA))) (bT 15) (d8 (tBM X.K "list" cr (br 15) (aV (tV X.K cl (.bin .mod (.bin .fdiv (.bor 9) (.cst (.int 128))) (.cst (.int 60)))) bA)))):=by
 obtain⟨fa,fd,ps,h1,h2,h3,F,_⟩:=l.g.fns 18 "_law_lists" rfl (by decide +kernel)
 exact iY l.d.own l.g.calm (fw (jS F l.g.room (dw (by rw [l.s];decide +kernel)) h1 h2 h3 .nil d_ (au (jA gn (l.nm (i:=4) (by decide +kernel)) (l.nm (i:=12) (by decide +kernel)) (λ_ _=>rfl)) aR))) (dn l.d.nd (by rw [l.n];rfl) (by have:=fj (x:="numbers") (show fc (aj fR) "numbers"=true by decide +kernel);rw [<- l.s]at this;exact this) (.inl (l.d.fn _))) (dj (dk (jB PySem.F.plainAttrs_list PySem.F.slot_list_append PySem.F.type_list_append cn (l.nm (i:=15) (by decide +kernel)) (au (l.v (by kernel_rfl)) aR)) rfl))
theorem b2{t:TS}(l:Lx X)(h:PSs X [C 0,C 1,C 2,C 3,C 4,C 5] t):PS X (B 2) (kf (qA (aV (tC (.int 2)) bA)) (bT 12) t) :=
 iY l.d.own l.g.calm (l4 (dw (by rw [l.s];decide +kernel)) (l.g.blt _ (by simp [fg])) (au mU aR)) (dn l.d.nd (by rw [l.n];rfl) (by have:=fj (x:="one") (show fc (aj fR) "one"=true by decide +kernel);rw [<- l.s]at this;exact this) (.inl (l.d.fn _))) h
theorem s8{t:TS}(l:Lx X)(h:PSs X [B 0,B 1,B 2] t):PS X (S 8) (kf (jw X.K (tV X.K cl (.slice (.bor 0) (.cst (.int 3)) (.cst (.int 19))))) (bT 9) t) :=
 iY l.d.own l.g.calm (fw (l.v (by kernel_rfl))) (dn l.d.nd (by rw [l.n];rfl) (by have:=fj (x:="cell") (show fc (aj fR) "cell"=true by decide +kernel);rw [<- l.s]at this;exact this) (.inl (l.d.fn _))) h
noncomputable abbrev wO:List MS:=[.for1 16 .rng [(.blt .len [(.bor 7)])] [.ite (.not (.call 20 [(.idx (.bor 7) (.bor 16)),(.idx (.bor 8) (.bor 16))])) [.ret (.cst (.bl false))] []],.ret (.cst (.bl true))]
theorem s9(l:Lx X):PSs X [S 9,S 10] (tSs X.K cl wO):=soundSs l.g l.d wO _ (by rw [l.n,l.s];kernel_rfl)
end
theorem zq{l:List Addr}(h:l.Nodup){i j:Nat}{a b:Addr}(hi:l[i]?=some a)(hj:l[j]?=some b)(n:i≠j):a≠b:=λe=>by
 subst e
 obtain⟨h1,e1⟩:=List.getElem?_eq_some_iff.mp hi
 obtain⟨h2,e2⟩:=List.getElem?_eq_some_iff.mp hj
 exact n ((List.getElem_inj h).mp (e1.trans e2.symm))
inductive Pl where
 | aK|k (b:Bool)|aT|aL|aH|aC|t (b:Bool)|l (b:Bool)
 deriving DecidableEq
noncomputable def Pl.n:Pl->Nat
 | .aK=>0|.k false=>1|.k true=>2|.aT=>3|.aL=>4|.aH=>5|.aC=>6|.t false=>7|.t true=>8|.l false=>9|.l true=>10
noncomputable def Cl.at(z:Cl):Pl->Addr
 | .aK=>z.aK|.k b=>z.k b|.aT=>z.aT|.aL=>z.aL|.aH=>z.aH|.aC=>z.aC|.t b=>z.t b|.l b=>z.l b
theorem Cl.at_n(z:Cl)(p:Pl):z.m[p.n]?=some (z.at p):=by
 cases p with
 |k b=>cases b<;>rfl
 |t b=>cases b<;>rfl
 |l b=>cases b<;>rfl
 | _=>rfl
theorem Cl.ne{z:Cl}(h:z.m.Nodup)(p q:Pl)(n:p.n≠q.n):z.at p≠z.at q:=zq h (z.at_n p) (z.at_n q) n
theorem Cl.inm(z:Cl)(p:Pl):z.at p∈z.m:=List.mem_of_getElem? (z.at_n p)
section
variable{K:PySem.W.Frag}{ns:Bool->List Int}{c:Int}{Rb:List (List Int)}{z:Cl}{xo xk xl:Bool->List Int}{hv cv:List PV}{a0:Bool->Addr}{u2 u3:V}{H H':Hp}
theorem Jt.obU(j:Jt K ns c Rb z xo xk xl hv cv a0 u2 u3 H){p:Pl}{o:HO}(h1:∀b,p.n≠(Pl.t b).n)(h2:∀b,p.n≠(Pl.l b).n)(b:Bool):cz K (λ_=>none) z.m (upd H (z.at p) o) (tbl c (sortT Rb) b) ((xo b).map .int) (z.t b) (z.l b):=by
 have q:=j.ob b
 refine q.move (by rw [bV (z.inm p)];exact ac.refl _) (λo' e=>?_) (λo' e=>?_) q.aO q.lO rfl rfl
 ·exact(ak (Cl.ne j.nd (.t b) p (h1 b).symm)).trans e
 ·exact(ak (Cl.ne j.nd (.l b) p (h2 b).symm)).trans e
theorem kn(b:Bool):(Pl.k b).n=if b=true then 2 else 1:=by cases b<;>rfl
theorem tn(b:Bool):(Pl.t b).n=if b=true then 8 else 7:=by cases b<;>rfl
theorem ln(b:Bool):(Pl.l b).n=if b=true then 10 else 9:=by cases b<;>rfl
theorem Jt.appK(j:Jt K ns c Rb z xo xk xl hv cv a0 u2 u3 H)(b:Bool)(h:Int):Jt K ns c Rb z xo (up xk b (xk b ++ [h])) xl hv cv a0 u2 u3 (upd H (z.k b) (.lst ((xk b).map V.int ++ [.int h]))):=by
 have hd:∀o,af (upd H (z.k b) o) z.m=af H z.m:=λo=>bV (z.inm (.k b))
 have ne:∀p:Pl,p.n≠(Pl.k b).n->∀o,upd H (z.k b) o (z.at p)=H (z.at p):=λp n o=>ak (Cl.ne j.nd p (.k b) n)
 have n0:∀p:Pl,p.n≠1->p.n≠2->p.n≠(Pl.k b).n:=λp h1 h2=>by cases b<;>assumption
 refine⟨j.nd,by rw [hd];exact j.sc,by rw [hd];exact j.rb,by rw [hd];exact j.lm,(ne .aT (n0 _ (by decide) (by decide)) _).trans j.T,j.obU (p:=.k b) (λb'=>by cases b<;>cases b'<;>decide) (λb'=>by cases b<;>cases b'<;>decide),(ne .aK (n0 _ (by decide) (by decide)) _).trans j.KK,λb'=>?_,?_,?_,?_⟩
 ·by_cases e:b'=b
  ·subst e
   rw [fK,ah,List.map_append]
   rfl
  ·rw [mQ e]
   exact(ne (.k b') (by cases b<;>cases b'<;>first|decide|exact absurd rfl e) _).trans (j.kk b')
 ·obtain⟨us,e,r⟩:=j.L
  exact⟨us,(ne .aL (n0 _ (by decide) (by decide)) _).trans e,by rw [hd];exact r⟩
 ·obtain⟨us,e,r⟩:=j.hh
  exact⟨us,(ne .aH (n0 _ (by decide) (by decide)) _).trans e,by rw [hd];exact r⟩
 ·obtain⟨us,e,r⟩:=j.cc
  exact⟨us,(ne .aC (n0 _ (by decide) (by decide)) _).trans e,by rw [hd];exact r⟩
theorem Jt.setL(j:Jt K ns c Rb z xo xk xl hv cv a0 u2 u3 H)(b:Bool)(t:List Int){us:List V}{u:V}(e:H z.aL=some (.lst us))(r:Rep K (af H z.m) (ofR (lft b 0 (sortT Rb) t)) u):us.length=2/\Jt K ns c Rb z xo xk (up xl b t) hv cv a0 u2 u3 (upd H z.aL (.lst (us.set (if b=true then 1 else 0) u))):=by
 have hd:∀o,af (upd H (z.aL) o) z.m=af H z.m:=λo=>bV (z.inm .aL)
 have ne:∀p:Pl,p.n≠Pl.aL.n->∀o,upd H (z.aL) o (z.at p)=H (z.at p):=λp n o=>ak (Cl.ne j.nd p .aL n)
 obtain⟨us',e',r'⟩:=j.L
 rw [e]at e'
 cases e'
 refine⟨r'.length.symm,j.nd,by rw [hd];exact j.sc,by rw [hd];exact j.rb,by rw [hd];exact j.lm,(ne .aT (by decide) _).trans j.T,j.obU (p:=.aL) (λb'=>by cases b'<;>decide) (λb'=>by cases b'<;>decide),(ne .aK (by decide) _).trans j.KK,λb'=>(ne (.k b') (by cases b'<;>decide) _).trans (j.kk b'),⟨_,ah,?_⟩,?_,?_⟩
 ·rw [hd]
  cases b with
  |false=>exact Reps.set 0 r' r
  |true=>exact Reps.set 1 r' r
 ·obtain⟨us,e,r⟩:=j.hh
  exact⟨us,(ne .aH (by decide) _).trans e,by rw [hd];exact r⟩
 ·obtain⟨us,e,r⟩:=j.cc
  exact⟨us,(ne .aC (by decide) _).trans e,by rw [hd];exact r⟩
theorem Jt.appH(j:Jt K ns c Rb z xo xk xl hv cv a0 u2 u3 H){us:List V}{v:PV}{u:V}(e:H z.aH=some (.lst us))(r:Rep K (af H z.m) v u):Jt K ns c Rb z xo xk xl (hv ++ [v]) cv a0 u2 u3 (upd H z.aH (.lst (us ++ [u]))):=by
 have hd:∀o,af (upd H (z.aH) o) z.m=af H z.m:=λo=>bV (z.inm .aH)
 have ne:∀p:Pl,p.n≠Pl.aH.n->∀o,upd H (z.aH) o (z.at p)=H (z.at p):=λp n o=>ak (Cl.ne j.nd p .aH n)
 obtain⟨us',e',r'⟩:=j.hh
 rw [e]at e'
 cases e'
 refine⟨j.nd,by rw [hd];exact j.sc,by rw [hd];exact j.rb,by rw [hd];exact j.lm,(ne .aT (by decide) _).trans j.T,j.obU (p:=.aH) (λb'=>by cases b'<;>decide) (λb'=>by cases b'<;>decide),(ne .aK (by decide) _).trans j.KK,λb'=>(ne (.k b') (by cases b'<;>decide) _).trans (j.kk b'),?_,⟨_,ah,by rw [hd];exact r'.snoc r⟩,?_⟩
 ·obtain⟨us,e,r⟩:=j.L
  exact⟨us,(ne .aL (by decide) _).trans e,by rw [hd];exact r⟩
 ·obtain⟨us,e,r⟩:=j.cc
  exact⟨us,(ne .aC (by decide) _).trans e,by rw [hd];exact r⟩
theorem Jt.appC(j:Jt K ns c Rb z xo xk xl hv cv a0 u2 u3 H){us:List V}{v:PV}{u:V}(e:H z.aC=some (.lst us))(r:Rep K (af H z.m) v u):Jt K ns c Rb z xo xk xl hv (cv ++ [v]) a0 u2 u3 (upd H z.aC (.lst (us ++ [u]))):=by
 have hd:∀o,af (upd H (z.aC) o) z.m=af H z.m:=λo=>bV (z.inm .aC)
 have ne:∀p:Pl,p.n≠Pl.aC.n->∀o,upd H (z.aC) o (z.at p)=H (z.at p):=λp n o=>ak (Cl.ne j.nd p .aC n)
 obtain⟨us',e',r'⟩:=j.cc
 rw [e]at e'
 cases e'
 refine⟨j.nd,by rw [hd];exact j.sc,by rw [hd];exact j.rb,by rw [hd];exact j.lm,(ne .aT (by decide) _).trans j.T,j.obU (p:=.aC) (λb'=>by cases b'<;>decide) (λb'=>by cases b'<;>decide),(ne .aK (by decide) _).trans j.KK,λb'=>(ne (.k b') (by cases b'<;>decide) _).trans (j.kk b'),?_,?_,⟨_,ah,by rw [hd];exact r'.snoc r⟩⟩
 ·obtain⟨us,e,r⟩:=j.L
  exact⟨us,(ne .aL (by decide) _).trans e,by rw [hd];exact r⟩
 ·obtain⟨us,e,r⟩:=j.hh
  exact⟨us,(ne .aH (by decide) _).trans e,by rw [hd];exact r⟩
theorem Jt.tupM(j:Jt K ns c Rb z xo xk xl hv cv a0 u2 u3 H)(R:List (List Int)){u:V}(r:Rep K (af H z.o) (ofR R) u):Rep K (af H z.m) (ofR R) u:=by
 have key:∀{a:Addr}{us:List V},af H z.o a=some (.tup us)->af H z.m a=some (.tup us):=λ{a us} e=>by
  have ho:a∉z.o:=λh=>by rw [du h]at e;cases e
  rw [aD ho]at e
  rw [aD]
  ·exact e
  ·intro h
   rcases List.mem_cons.mp h with rfl|h
   ·rw [j.KK]at e;cases e
   rcases List.mem_cons.mp h with rfl|h
   ·rw [j.kk]at e;cases e
   rcases List.mem_cons.mp h with rfl|h
   ·rw [j.kk]at e;cases e
   exact ho h
 have one:∀(s:List Int) {u:V},Rep K (af H z.o) (ofS s) u->Rep K (af H z.m) (ofS s) u:=λs u r=>by
  have r:Rep K (af H z.o) (.tup (s.map .int)) u:=r
  show Rep K (af H z.m) (.tup (s.map .int)) u
  rw [Rep]at r ⊢
  obtain⟨a,us,e1,e2,e3⟩:=r
  exact⟨a,us,e1,key e2,by rw [Reps.ints e3];exact Reps.of_ints s⟩
 have many:∀(R:List (List Int)) {us:List V},Reps K (af H z.o) (R.map ofS) us->Reps K (af H z.m) (R.map ofS) us:=λR=>by
  induction R with
  |nil=>intro us r;rw [List.map_nil,Reps]at r ⊢;exact r
  |cons s R ih =>
   intro us r
   rw [List.map_cons,Reps]at r ⊢
   obtain⟨w,t,e1,e2,e3⟩:=r
   exact⟨w,t,e1,one s e2,ih e3⟩
 have r:Rep K (af H z.o) (.tup (R.map ofS)) u:=r
 show Rep K (af H z.m) (.tup (R.map ofS)) u
 rw [Rep]at r ⊢
 obtain⟨a,us,e1,e2,e3⟩:=r
 exact⟨a,us,e1,key e2,many R e3⟩
end
theorem rV{l:List Addr}(nd:l.Nodup){i:Nat}{x a:Addr}(h:a∈l.set i x):a=x\/(a∈l/\l[i]?≠some a):=by
 obtain⟨j,hj⟩:=List.mem_iff_getElem?.mp h
 by_cases e:i=j
 ·subst e
  by_cases hi:i<l.length
  ·rw [List.getElem?_set_self hi]at hj
   cases hj
   exact .inl rfl
  ·rw [List.getElem?_eq_none (by rw [List.length_set];omega)]at hj
   cases hj
 ·rw [List.getElem?_set_ne e]at hj
  exact .inr ⟨List.mem_of_getElem? hj,λz=>zq nd z hj e rfl⟩
theorem wP:∀{l:List Addr}{i:Nat}{x:Addr},l.Nodup->(x∉l\/l[i]?=some x)->(l.set i x).Nodup
 | [],_,_,h,_=>h
 |a::l,0,x,h,hx=>by
  obtain⟨h1,h2⟩:=List.nodup_cons.mp h
  rw [List.set_cons_zero]
  refine List.nodup_cons.mpr ⟨?_,h2⟩
  rcases hx with hx|hx
  ·exact λz=>hx (.tail _ z)
  ·cases hx;exact h1
 |a::l,i+1,x,h,hx=>by
  obtain⟨h1,h2⟩:=List.nodup_cons.mp h
  rw [List.set_cons_succ]
  refine List.nodup_cons.mpr ⟨λz=>?_,wP h2 (hx.imp (λq z=>q (.tail _ z)) λq=>q)⟩
  rcases rV h2 z with rfl|⟨q,_⟩
  ·rcases hx with hx|hx
   ·exact hx (.head _)
   ·exact h1 (List.mem_of_getElem? hx)
  ·exact h1 q
noncomputable def Cl.wl(z:Cl)(b:Bool)(l':Addr):Cl:={ z with l:=up z.l b l' }
theorem Cl.wl_m(z:Cl)(b:Bool)(l':Addr):(z.wl b l').m=z.m.set (Pl.l b).n l':=by cases b<;>rfl
theorem Cl.wl_o(z:Cl)(b:Bool)(l':Addr):(z.wl b l').o=z.o.set ((Pl.l b).n-3) l':=by cases b<;>rfl
section
variable{K:PySem.W.Frag}{ns:Bool->List Int}{c:Int}{Rb:List (List Int)}{z:Cl}{xo xk xl:Bool->List Int}{hv cv:List PV}{a0:Bool->Addr}{u2 u3:V}{H H':Hp}
theorem Jt.take(j:Jt K ns c Rb z xo xk xl hv cv a0 u2 u3 H)(b:Bool)(ys:List Int){l':Addr}(kp:∀a o,a≠z.t b->a≠z.l b->H a=some o->H' a=some o)(hl:l'=z.l b\/H l'=none)
  (q:cz K (λ_=>none) (l'::z.m.filter λa=>decide (a≠z.l b)) H' (tbl c (sortT Rb) b) (ys.map .int) (z.t b) l'):ac (af H z.o) (af H' (z.wl b l').o)/\Jt K ns c Rb (z.wl b l') (up xo b ys) xk xl hv cv a0 u2 u3 H':=by
 have eo:∀{O O':List Addr},z.t b∈O->z.l b∈O->(∀a∈O',a∈O\/a=l')->ac (af H O) (af H' O'):=λ{O O'} t1 t2 h a o e=>by
  have ha:a∉O:=λw=>by rw [du w]at e;cases e
  rw [aD ha]at e
  rw [aD]
  ·exact kp a o (λw=>ha (w ▸ t1)) (λw=>ha (w ▸ t2)) e
  ·intro w
   rcases h a w with w|w
   ·exact ha w
   ·rcases hl with w2|w2
    ·exact ha (by rw [w,w2];exact t2)
    ·rw [w,w2]at e;cases e
 have mo:∀{l:List Addr}{i:Nat}{a:Addr},a∈l.set i l'->a∈l\/a=l':=λh=>List.mem_or_eq_of_mem_set h
 have vis:ac (af H z.m) (af H' (z.wl b l').m):=eo (z.inm (.t b)) (z.inm (.l b)) λa ha=>by rw [Cl.wl_m]at ha;exact mo ha
 have kp':∀(p:Pl),p.n≠(Pl.t b).n->p.n≠(Pl.l b).n->∀o,H (z.at p)=some o->H' (z.at p)=some o:=λp n1 n2 o e=>kp _ _ (Cl.ne j.nd p (.t b) n1) (Cl.ne j.nd p (.l b) n2) e
 have tl:∀n:Nat,n<7->n≠(Pl.t b).n/\n≠(Pl.l b).n:=λn h=>by rw [tn,ln];cases b<;>exact⟨by simp;omega,by simp;omega⟩
 have kp7:∀(p:Pl),p.n<7->∀o,H (z.at p)=some o->H' (z.at p)=some o:=λp h=>kp' p (tl _ h).1 (tl _ h).2
 have lm:z.m[(Pl.l b).n]?=some (z.l b):=z.at_n (.l b)
 refine⟨eo (by cases b<;>simp [Cl.o]) (by cases b<;>simp [Cl.o]) λa ha=>by rw [Cl.wl_o]at ha;exact mo ha,?_,λi=>vis.seq (j.sc i),Rep.mono vis _ j.rb,Rep.mono vis _ j.lm,kp7 .aT (by decide) _ j.T,λb'=>?_,kp7 .aK (by decide) _ j.KK,λb'=>kp7 (.k b') (by cases b'<;>decide) _ (j.kk b'),?_,?_,?_⟩
 ·rw [Cl.wl_m]
  refine wP j.nd ?_
  rcases hl with w|w
  ·rw [w];exact .inr lm
  ·exact .inl λh=>j.here _ h w
 ·by_cases e:b'=b
  ·subst e
   rw [fK]
   show cz K _ (z.wl b' l').m H' _ _ (z.t b') (up z.l b' l' b')
   rw [fK]
   refine q.move (aQ (ac.refl H') λa ha=>.inl ?_) (λ_ h=>h) (λ_ h=>h) ?_ ?_ rfl rfl
   ·rw [Cl.wl_m]at ha
    rcases rV j.nd ha with rfl|⟨h1,h2⟩
    ·exact .head _
    ·exact .tail _ (List.mem_filter.mpr ⟨h1,decide_eq_true λw=>h2 (w ▸ lm)⟩)
   ·exact(z.wl b' l').inm (.t b')
   ·have:=(z.wl b' l').inm (.l b')
    have e:(z.wl b' l').at (.l b')=l':=fK
    rw [e]at this
    exact this
  ·rw [mQ e]
   show cz K _ (z.wl b l').m H' _ _ (z.t b') (up z.l b l' b')
   rw [mQ e]
   have n1:(Pl.t b').n≠(Pl.t b).n:=by cases b<;>cases b'<;>first|decide|exact absurd rfl e
   have n2:(Pl.t b').n≠(Pl.l b).n:=by cases b<;>cases b'<;>decide
   have n3:(Pl.l b').n≠(Pl.t b).n:=by cases b<;>cases b'<;>decide
   have n4:(Pl.l b').n≠(Pl.l b).n:=by cases b<;>cases b'<;>first|decide|exact absurd rfl e
   refine(j.ob b').move vis (kp' (.t b') n1 n2) (kp' (.l b') n3 n4) ((z.wl b l').inm (.t b')) ?_ rfl rfl
   have:=(z.wl b l').inm (.l b')
   have e':(z.wl b l').at (.l b')=z.l b':=mQ e
   rw [e']at this
   exact this
 ·obtain⟨us,e,r⟩:=j.L
  exact⟨us,kp7 .aL (by decide) _ e,Reps.mono vis _ r⟩
 ·obtain⟨us,e,r⟩:=j.hh
  exact⟨us,kp7 .aH (by decide) _ e,Reps.mono vis _ r⟩
 ·obtain⟨us,e,r⟩:=j.cc
  exact⟨us,kp7 .aC (by decide) _ e,Reps.mono vis _ r⟩
end
theorem BI(fr:List Int)(cell:Int)(hne:fr≠[]):∃h,h∈fr/\∀ρ:Rho,(ρ[9]?).join=some (.val (.int cell))->(ρ[11]?).join=some (.val (ofL fr))->ev cl pk ρ=some (.int h):=by
 have hp:0<fr.length:=List.length_pos_iff.mpr hne
 have m0:=Int.emod_nonneg cell (b:=(fr.length:Int)) (by omega)
 have m1:=Int.emod_lt_of_pos cell (b:=(fr.length:Int)) (by omega)
 have hi:(cell % (fr.length:Int)).toNat<fr.length:=by omega
 refine⟨fr[(cell % (fr.length:Int)).toNat],List.getElem_mem hi,λρ h9 h11=>?_⟩
 have e11:ev cl (.bor 11) ρ=some (ofL fr):=by rw [ev,h11];rfl
 have e9:ev cl (.bor 9) ρ=some (.int cell):=by rw [ev,h9];rfl
 have el:ev cl (.blt .len [(.bor 11)]) ρ=some (.int fr.length):=by
  rw [bN e11]
  show some (PV.int ((fr.map PV.int).length:Nat))=_
  rw [List.length_map]
 have em:ev cl (.bin .mod (.bor 9) (.blt .len [(.bor 11)])) ρ=some (.int (cell % (fr.length:Int))):=by
  rw [gh e9 el]
  show(if 0<(fr.length:Int) then some (PV.int (cell % (fr.length:Int))) else none)=_
  rw [if_pos (by omega)]
 rw [dY e11 em]
 show(place (fr.map PV.int).length (cell % (fr.length:Int))).bind (λj=>(fr.map PV.int)[j]?)=_
 rw [List.length_map,show place fr.length (cell % (fr.length:Int))=some (cell % (fr.length:Int)).toNat from by unfold place;simp [m0,m1],Option.bind_some,List.getElem?_map,List.getElem?_eq_getElem hi]
 rfl
structure Lm(c:Int)(Rb:List (List Int)):Prop where
 p:0<c
 q:c<=60
 r:∀s∈Rb,Gd c s
 n:Rb.length<=8
theorem Lm.g{c:Int}{Rb:List (List Int)}(h:Lm c Rb):fq (sortT Rb):=⟨λs hs=>(h.r s (dF.mp hs)).1,sortT_rises _,by rw [sortT_len];have:=h.n;omega⟩
theorem BJ{c:Int}{Rb:List (List Int)}(h:Lm c Rb)(b:Bool)(t:List Int)(cell:Int)(nd:t.Nodup)(ht:t.length<=40)(hw:eX (lft b 0 (sortT Rb) t)=.non) :
  ∃(x:Int) (w:Sc),(∀ρ:Rho,(ρ[9]?).join=some (.val (.int cell))->(ρ[11]?).join=some (.val (ofL (frl c t)))->ev cl pk ρ=some (.int x))/\(t ++ [x]).Nodup /\
   cl (29+3000) [.ownO true (tbl c (sortT Rb) b) (t.map .int),.val (.int x)]=some (.tup [w.pv,.lst ((t ++ [x]).map .int)]) /\
   cl 14 [.val (.lst (Rb.map ofS)),.val (ofL (sortI (tb (t ++ [x]) (bI b)))),.val (ofL (sortI (tb (t ++ [x]) (1-bI b))))]=some (ofR (lft b 0 (sortT Rb) (t ++ [x]))):=by
 obtain⟨w1,w2⟩:=wF hw
 have hne:frl c t≠[]:=by
  cases e:lft b 0 (sortT Rb) t with
  |nil=>exact absurd e w2
  |cons s L =>
   cases s with
   |nil=>rw [e]at w1;exact absurd (List.mem_cons_self) w1
   |cons y s =>
    have ms:(y::s)∈lft b 0 (sortT Rb) t:=by rw [e];exact .head _
    refine List.ne_nil_of_mem (a:=y) (rM.mpr ⟨rK b (P:=λy=>0<=y/\y<c) t 0 _ (λts hts z hz=>(h.r ts (dF.mp hts)).2 z hz) _ ms y (.head _),λhy=>?_⟩)
    exact o_ (R:=[]) b t 0 _ y (.inr hy) _ ms (.head _)
 obtain⟨x,mx,ep⟩:=BI (frl c t) cell hne
 obtain⟨⟨m0,m1⟩,m2⟩:=rM.mp mx
 have nd':(t ++ [x]).Nodup:=by
  rw [List.nodup_append]
  exact⟨nd,by simp,λa ha y hy z=>m2 (by rw [List.mem_singleton.mp hy]at z;exact z ▸ ha)⟩
 refine⟨x,_,ep,nd',BF 33 c (sortT Rb) b t x h.g hw m0 m1 m2 (by omega),?_⟩
 have el:=BG 38 Rb (sortI (tb (t ++ [x]) (bI b))) (sortI (tb (t ++ [x]) (1-bI b))) (λs hs=>by have:=gw (h.r s hs).1;omega) (by have:=h.n;omega)
 have eq:=qw b (t ++ [x]) 0 Rb nd'
 rw [(wK (b:=bI b) rfl (t ++ [x])).1,(wK (b:=bI b) rfl (t ++ [x])).2]at eq
 rw [<- eq]at el
 exact el
theorem ix2(a b:PV)(o:Bool):gH (.lst [a,b]) (.int (bI o))=some (if o=true then b else a):=by cases o<;>rfl
theorem at2(a b:V)(o:Bool):atI [a,b] (bI o)=some (if o=true then b else a):=by cases o<;>rfl
theorem EY(o:Bool):ixN 2 (bI o)=some (if o=true then 1 else 0):=by cases o<;>rfl
theorem gj{β:Type}(f:Bool->β)(o:Bool):(if o=true then f true else f false)=f o:=by cases o<;>rfl
noncomputable abbrev tA(K:PySem.W.Frag)(C:Addr):TS:=eO (λD σ H=>tV K cl (.call 16 [(.bor 1),(.idx (.bor 5) (.bor 10))]) σ H λu H'=>D.nx (σ.set 11 (some u)) H')
 (eO (d8 (l5 C "take" (spT K cl 29) [] E0 (tOp (kz K) (br 4) (br 10)) (aV (tV K cl pk) bA)))
 (eO (d8 (tBM K "list" cr (tOp (kz K) (br 5) (br 10)) (aV (tV K cl pk) bA)))
 (nW (tV K cl (.call 14 [(.bor 2),(.call 13 [(.idx (.bor 5) (.bor 10)),(.bor 10)]),(.call 13 [(.idx (.bor 5) (.bor 10)),(.bin .sub (.cst (.int 1)) (.bor 10))])])) (zI (br 6) (br 10) uC))))
noncomputable abbrev tB1(K:PySem.W.Frag)(C:Addr):TS:=tY (tVB K cl (.cmp .isN (.call 15 [(.idx (.bor 6) (.bor 10))]) (.cst .non))) (tA K C) nU
section
variable{K:PySem.W.Frag}{ns:Bool->List Int}{c:Int}{Rb:List (List Int)}{z:Cl}{x:Bool->List Int}{hv cv:List PV}{a0:Bool->Addr}{u2 u3:V}{H:Hp}
theorem Jt.cls(j:Jt K ns c Rb z x x x hv cv a0 u2 u3 H)(b:Bool){C:Addr}(hC:IsC K C):∃dx gs,H (z.t b)=some (.ins C dx gs)/\∀m∈mB,gs.lookup m=none:=by
 obtain⟨C',dx,gs,h1,h2⟩:=(j.ob b).ob
 have:C'=C:=by
  have:=h2.cls.symm.trans hC
  cases this
  rfl
 subst this
 exact⟨dx,gs,h1,h2.no⟩
theorem DK{C:Addr}(hC:IsC K C)(lm:Lm c Rb)(j:Jt K ns c Rb z x x x hv cv a0 u2 u3 H)(nd:∀b,(x b).Nodup)(len:∀b,(x b).length<=40)(cell:Int)(b:Bool){q1 q2 q3 q4 q5 q6:Option V}{D:eN}
  (q:∀z' x' H' r,Jt K ns c Rb z' x' x' x' hv cv a0 u2 u3 H'->(∀b,(x' b).Nodup)->(∀b,(x' b).length<=(x b).length+1)->D.nx (fr z' c a0 u2 u3 (some (.int cell)::some (.int (bI b))::r::q2::q3::q4::q5::q6::[])) H') :
  tB1 K C D (fr z c a0 u2 u3 (some (.int cell)::some (.int (bI b))::q1::q2::q3::q4::q5::q6::[])) H:=by
 have i0:∀(F:Hp) (i:Int),Rep K F (.int i) (.int i):=λF i=>by rw [Rep]
 refine⟨z.o,_,iz (eX (lft b 0 (sortT Rb) (x b))).pv,j.hereo,j.view (.val (i0 _ cell) (.val (i0 _ (bI b)) (.skip (.skip (.skip (.skip (.skip (.skip .nil)))))))),?_,λH1 s1=>?_⟩
 ·exact(lD (x:=(eX (lft b 0 (sortT Rb) (x b))).pv) (bi (vs:=[.val (ofR (lft b 0 (sortT Rb) (x b)))]) (iT ((dY rfl rfl).trans ((ix2 _ _ b).trans (congrArg some (gj (λb=>ofR (lft b 0 (sortT Rb) (x b))) b)))) rfl) (DG 38 _)) (jv _ _ _)).trans rfl
 have j1:=j.mono s1
 by_cases hw:eX (lft b 0 (sortT Rb) (x b))=.non
 ·rw [hw]
  obtain⟨h,w,ep,nd',et,el⟩:=BJ lm b (x b) cell (nd b) (len b) hw
  refine Ey ?_
  refine⟨z.o,_,ofL (frl c (x b)),j1.hereo,j1.view (.val (i0 _ cell) (.val (i0 _ (bI b)) (.skip (.skip (.skip (.skip (.skip (.skip .nil)))))))),?_,λuf H2 s2 rf=>?_⟩
  ·refine bi (vs:=[.val (.int c),.val (ofL (x b))]) (gJ rfl (iT ((dY rfl rfl).trans ((ix2 _ _ b).trans (congrArg some (gj (λb=>ofL (x b)) b)))) rfl)) ?_
   exact pf 38 c (x b) (by have:=lm.p;omega) lm.q (by have:=len b;omega) _ (.inr rfl)
  have j2:=j1.mono s2
  show eO _ _ D (fr z c a0 u2 u3 (some (.int cell)::some (.int (bI b))::some uf::q2::q3::q4::q5::q6::[])) H2
  obtain⟨dx,gs,ei,no⟩:=j2.cls b hC
  refine⟨_,rfl,_,rfl,z.aT,_,bI b,.ref (z.t b),rfl,rfl,SqL.of j2.T,(at2 _ _ b).trans (congrArg some (gj (λb=>V.ref (z.t b)) b)),z.t b,dx,gs,rfl,ei,no _ (by decide),z.o,_,.int h,j2.hereo,j2.view (.val (i0 _ cell) (.val (i0 _ (bI b)) (.val rf (.skip (.skip (.skip (.skip (.skip .nil)))))))),ep _ rfl rfl,λu H3 s3 r3=>?_⟩
  rw [Rep]at r3
  subst r3
  have j3:=j2.mono s3
  refine⟨z.m,z.t b,z.l b,tbl c (sortT Rb) b,(x b).map .int,[.val (.int h)],[.int h],w,(x b ++ [h]).map .int,rfl,j3.here,j3.ob b,.cons (i0 (af (dP H3 [z.t b,z.l b]) z.m) h) .nil,et,λl' H4 kp hl' q4=>?_⟩
  obtain⟨vis,j4⟩:=j3.take b (x b ++ [h]) kp hl' q4
  have rf4:Rep K (af H4 (z.wl b l').o) (ofL (frl c (x b))) uf:=Rep.mono ((ag s3).trans vis) _ rf
  refine⟨_,rfl,_,rfl,z.aK,_,bI b,.ref (z.k b),rfl,rfl,SqL.of j4.KK,(at2 _ _ b).trans (congrArg some (gj (λb=>V.ref (z.k b)) b)),.inl ⟨rfl,_,SqL.of (j4.kk b)⟩,(z.wl b l').o,_,.int h,j4.hereo,j4.view (.val (i0 _ cell) (.val (i0 _ (bI b)) (.val rf4 (.skip (.skip (.skip (.skip (.skip .nil)))))))),ep _ rfl rfl,λu H5 s5 r5=>?_⟩
  rw [Rep]at r5
  subst r5
  have j5:=j4.mono s5
  refine⟨z.k b,_,.int h,rfl,rfl,j5.kk b,by rw [List.length_map];exact Nat.lt_of_le_of_lt (len b) (by decide),?_⟩
  have j6:=j5.appK b h
  have ux:∀(i:Int),(i=bI b\/i=1-bI b)->ae defs 39 13 [.val (ofL (x b ++ [h])),.val (.int i)]=some (ofL (sortI (tb (x b ++ [h]) i))):=λi _=>gi 38 (x b ++ [h]) i (by rw [List.length_append,List.length_singleton];have:=len b;omega) _ (.inr rfl)
  have i5:∀(p q:PV),gH (.lst [ofL (up x b (x b ++ [h]) false),ofL (up x b (x b ++ [h]) true)]) (.int (bI b))=some (ofL (x b ++ [h])):=λ_ _=>(ix2 _ _ b).trans (congrArg some ((gj (λb'=>ofL (up x b (x b ++ [h]) b')) b).trans (by rw [fK])))
  refine⟨(z.wl b l').o,_,ofR (lft b 0 (sortT Rb) (x b ++ [h])),j6.hereo,j6.view (.val (i0 _ cell) (.val (i0 _ (bI b)) (.skip (.skip (.skip (.skip (.skip (.skip .nil)))))))),?_,λu7 H7 s7 r7=>?_⟩
  ·refine bi (vs:=[.val (.lst (Rb.map ofS)),.val (ofL (sortI (tb (x b ++ [h]) (bI b)))),.val (ofL (sortI (tb (x b ++ [h]) (1-bI b))))]) (gJ rfl (ww (bi (iT ((dY rfl rfl).trans (i5 .non .non)) (gJ rfl rfl)) (ux _ (.inl rfl))) (ww (bi (vs:=[.val (ofL (x b ++ [h])),.val (.int (1-bI b))]) (iT ((dY rfl rfl).trans (i5 .non .non)) rfl) (ux _ (.inr rfl))) rfl))) el
  have j7:=j6.mono s7
  obtain⟨us,eL,_⟩:=j7.L
  obtain⟨l2,j8⟩:=j7.setL b (x b ++ [h]) eL (j7.tupM _ r7)
  refine⟨_,rfl,_,rfl,z.aL,us,bI b,(if b=true then 1 else 0),rfl,rfl,eL,by rw [l2];exact EY b,?_⟩
  refine q (z.wl b l') (up x b (x b ++ [h])) _ (some uf) j8 (λb'=>?_) (λb'=>?_)
  ·by_cases e:b'=b
   ·subst e;rw [fK];exact nd'
   ·rw [mQ e];exact nd b'
  ·by_cases e:b'=b
   ·subst e;rw [fK,List.length_append,List.length_singleton];exact Nat.le_refl _
   ·rw [mQ e];omega
 ·have:iz (eX (lft b 0 (sortT Rb) (x b))).pv=false:=by
   rcases tH (lft b 0 (sortT Rb) (x b)) with w|w|w
   ·rw [w];rfl
   ·rw [w];rfl
   ·exact absurd w hw
  rw [this]
  exact Cs (q z x H1 q1 j1 nd λb=>by omega)
end
section
variable{T:Tab}{P:Program}{w:World}{K:PySem.W.Frag}{mg:Str->Option Value}{base:Heap}{ds:List MD}
theorem wQ(pr:jn T K mg ds){f:Nat}{d:MD}{m:Str}(hd:ds[f]?=some d)(hm:d.meth=some m){C:Addr}(hC:IsC K C):∃st fa fd,dW T K mg st d fa fd/\lK K C m fa:=by
 obtain⟨l2,st2,fa2,fd2,el,D2,bd⟩:=pr.defs.get hd
 rcases D2.named with ⟨em,_⟩|⟨m',em,nd⟩
 ·rw [hm]at em;cases em
 ·rw [hm]at em
  cases em
  exact⟨st2,fa2,fd2,D2,nd C hC⟩
theorem wR(hlen:ds.length<=1000)(pr:jn T K mg ds){X:Cx}{n:Nat}(h1:X.prog=P)(h2:X.w=w)(h3:X.K=K)(h4:X.mg=mg)(h5:X.base=base)(h6:X.calm=true)(hr:cJ n X.A):Gf X T n (ae ds n):=by
 subst h1 h2 h3 h4 h5
 exact {
  calm:=h6
  room:=hr
  fns:=λf' x hx hp=>by
   rw [pr.tab,List.getElem?_map]at hx
   cases hd2:ds[f']? with
   |none=>rw [hd2]at hx;cases hx
   |some d2 =>
    rw [hd2]at hx
    cases hx
    obtain⟨hm,hnm⟩:=kd hp
    obtain⟨l2,st2,fa2,fd2,el,D2,bd⟩:=pr.defs.get hd2
    rcases D2.named with ⟨_,nd⟩|⟨m,em,_⟩
    ·exact⟨fa2,fd2,d2.params,by rw [hnm];exact nd,D2.fn.kp,D2.binds,(eI hlen pr n f' d2 hd2 st2 fa2 fd2 D2).m,λl hl=>by rw [el]at hl;cases hl;exact bd⟩
    ·rw [hm]at em;cases em
  cls:=λC h=>⟨(pr.cls C h).cls,(pr.cls C h).nf,(pr.cls C h).nt⟩
  meths:=λf' m hx C hC=>by
   rw [pr.tabM,List.getElem?_map]at hx
   cases hd2:ds[f']? with
   |none=>rw [hd2]at hx;cases hx
   |some d2 =>
    rw [hd2]at hx
    obtain⟨st,fa,fd,D2,nd⟩:=wQ pr hd2 (Option.some.inj hx) hC
    exact⟨fa,fd,d2.params,nd,D2.binds,(eI hlen pr n f' d2 hd2 st fa fd D2).m⟩
  methsT:=λf' m hx C hC=>by
   rw [pr.tabM,List.getElem?_map]at hx
   cases hd2:ds[f']? with
   |none=>rw [hd2]at hx;cases hx
   |some d2 =>
    rw [hd2]at hx
    obtain⟨st,fa,fd,D2,nd⟩:=wQ pr hd2 (Option.some.inj hx) hC
    exact⟨fa,fd,d2.params,nd,D2.binds,(eI hlen pr n f' d2 hd2 st fa fd D2).t⟩
  lvl:=λh=>cJ.mono hr (v8 hlen h)
  ini:=λ_=>by
   obtain⟨C,h1,h2,fa,fd,ps,h3,h4,h5,h6⟩:=pr.ini
   exact⟨C,h1,h2,fa,fd,ps,h3,h4,h5 _ _ _,h6⟩
  blt:=pr.blt
  gs:=pr.gs
  fnsF:=λf' x hx hp=>by
   rw [pr.tab,List.getElem?_map]at hx
   cases hd2:ds[f']? with
   |none=>rw [hd2]at hx;cases hx
   |some d2 =>
    rw [hd2]at hx
    cases hx
    obtain⟨hm,hnm⟩:=kd hp
    obtain⟨l2,st2,fa2,fd2,el,D2,bd⟩:=pr.defs.get hd2
    rcases D2.named with ⟨_,nd⟩|⟨m,em,_⟩
    ·exact⟨fa2,fd2,d2.params,by rw [hnm];exact nd,D2.fn.kp,D2.binds,(eI hlen pr n f' d2 hd2 st2 fa2 fd2 D2).f⟩
    ·rw [hm]at em;cases em }
noncomputable def spN(K:PySem.W.Frag)(cal:Cal)(f:Nat):Sp:=λvs H Q _ =>
 ∃(O:List Addr) (args:List MV) (xs:List PV),(∀a∈O,H a≠none)/\Paired (dQ K O H) args vs/\cal f args=some (.lst xs)/\∀p us H',ac H H'->H p=none->H' p=some (.lst us)->Reps K (af H' (p::O)) xs us->Q (.ref p) H'
theorem BK{cal:Cal}{me:ME}{ρ:Rho}{v:PV}(h:exs cal [.ret me] ρ=.ret v):ev cal me ρ=some v:=by
 rw [bE,ex]at h
 cases e:ev cal me ρ with
 |none=>rw [e]at h;cases h
 |some w=>rw [e]at h;cases h;rfl
theorem rW{n f:Nat}{d:MD}{me:ME}{args:List MV}{r:PV}(hd:ds[f]?=some d)(hb:d.body=[.ret me])(e:ae ds (n+1) f args=some r):args.length=d.params.length/\ev (ae ds n) me (args.map some++List.replicate (d.names.length-args.length) none)=some r:=by
 obtain⟨hl,hr⟩:=gY hd e
 rw [hb]at hr
 refine⟨hl,?_⟩
 rcases hr with ⟨ρ,he,_⟩|he|⟨xs,he,_⟩
 ·rw [bE,ex]at he
  cases q:ev (ae ds n) me (args.map some++List.replicate (d.names.length-args.length) none) with
  |none=>rw [q]at he;cases he
  |some w=>rw [q]at he;cases he
 ·exact BK he
 ·rw [bE,ex]at he
  cases q:ev (ae ds n) me (args.map some++List.replicate (d.names.length-args.length) none) with
  |none=>rw [q]at he;cases he
  |some w=>rw [q]at he;cases he
theorem pj{st:Stmt}{d:MD}{fa:Addr}{fd:FuncData}{me:ME}(D:dW T K mg st d fa fd)(hb:d.body=[.ret me]):∃v pos,bK st=[.Return (some v) pos]/\chk T me d.names (aj st) v=true/\aI me=false:=by
 have h:=D.body
 rw [hb]at h
 cases e:bK st with
 |nil=>rw [e]at h;cases h
 |cons s ss =>
  rw [e]at h
  have h:(eR T d.names (aj st) (.ret me) s&&chkSs T d.names (aj st) [] ss)=true:=h
  rw [Bool.and_eq_true]at h
  obtain⟨v,pos,rfl,hc⟩:=rD h.1
  simp only [Bool.and_eq_true,Bool.not_eq_true']at hc
  cases ss with
  |nil=>exact⟨v,pos,rfl,hc.1,hc.2⟩
  |cons _ _=>exact absurd h.2 (by intro z;cases z)
theorem gA{X:Cx}{T:Tab}{k:Nat}{cal:Cal}{f i:Nat}{ms:List ME}{e:Expr}(g:Gf X T k cal)(h:chk T (.callM f i ms) X.N X.env.scope e=true)(hF:∀(m:Str),T.ms[f]?=some (some m)->∀C,IsC X.K C->∃(fa:Addr) (fd:FuncData) (ps:List Str),lK X.K C m fa/\a9 X.K fd ps []/\bW X.prog X.w X.K X.mg X.base CX0 k fa fd ps (spN X.K cal f)):PE X e (tF X.K cal (.callM f i ms)):=by
 obtain⟨z,e1,h⟩:=al (show onQ (xU e) (λq=>vj X.N X.env.scope T.ms f i (λxs=>chks T ms X.N X.env.scope xs) q)=true from h)
 obtain⟨p,rfl⟩:=qS e1
 obtain⟨hf,hM,hn,h4,hline,h30⟩:=rn h
 obtain⟨hs,hl⟩:=a7 h4
 have ha:=soundA ms g h4
 generalize z.2.2.1=es at ha hs hl h30
 by_cases hC:∃C,IsC X.K C
 ·obtain⟨C,hC⟩:=hC
  have one:∀C',IsC X.K C'->C'=C:=λC' h=>by
   have:=h.symm.trans hC
   cases this
   rfl
  obtain⟨fa,fd,ps,h1,h3,F⟩:=hF _ hf C hC
  have key:∀σ H Q,tF X.K cal (.callM f i ms) σ H Q->l5 C z.2.1 (spN X.K cal f) [] E0 (br i) (tAs X.K cal ms) σ H Q:=λσ H Q q=>by
   obtain⟨B,O₀,O,ρ,v,st,e1,q⟩:=q
   rw [ev,Option.bind_eq_some_iff]at e1
   obtain⟨o,e0,e1⟩:=e1
   rw [Option.bind_eq_some_iff]at e1
   obtain⟨vs,e1,e2⟩:=e1
   obtain⟨a,ea,C',dx,gs,l,us,f1,f2,f3⟩:=iO st e0
   have hCC:=one C' f2.cls
   subst hCC
   refine⟨_,ea,a,dx,gs,rfl,f1,f2.no _ hM,B,O₀,O,ρ,vs,st,e1,λus' H1 s1 g1=>⟨O,_,v,a_ s1 st.here,?_,e2,λp us H2 s2 n2 e2 r=>q p us H2 (s1.trans s2) (s1.free n2) e2 r⟩⟩
   rw [List.append_nil]
   exact .cons ⟨a,rfl,dN.move ⟨C',dx,gs,l,us,f1,f2,f3⟩ s1 (ag s1)⟩ g1
  cases es with
  |nil =>
   refine(nZ (bz hn) (g.cls C hC).1 h1 F g.room h3 .nil d_ (j_ hs h30 hline)).imp λσ H Q q=>?_
   obtain⟨u,eu,a,dx,gs,e,f1,f2,B,O₀,O,ρ,vs,st,e1,q⟩:=key σ H Q q
   cases ms with
   |nil =>
    simp only [evA,Option.some.injEq]at e1
    subst e1
    exact⟨u,eu,a,dx,gs,e,f1,f2,q [] H (ac.refl H) .nil⟩
   |cons _ _=>cases hl
  |cons e es =>
   simp only [List.all_cons,Bool.and_eq_true]at hs
   exact(mZ (bz hn) (g.cls C hC).1 h1 F g.room h3 .nil d_ ha (bb hs.1 _ _) (bg hs.2) (j_ (by simp [hs]) h30 hline)).imp key
 ·exact λpins s σ H Q I q=>by
   obtain⟨B,O₀,O,ρ,v,st,e1,q⟩:=q
   rw [ev,Option.bind_eq_some_iff]at e1
   obtain⟨o,e0,_⟩:=e1
   obtain⟨a,ea,C',dx,gs,l,us,f1,f2,f3⟩:=iO st e0
   exact absurd ⟨C',f2.cls⟩ hC
theorem gk(hlen:ds.length<=1000)(pr:jn T K mg ds){n f:Nat}{d:MD}{st:Stmt}{fa:Addr}{fd:FuncData}{me:ME}(hd:ds[f]?=some d)(D:dW T K mg st d fa fd)(hb:d.body=[.ret me])
  (hf:∀(X:Cx) (v:Expr),X.prog=P->X.w=w->X.K=K->X.mg=mg->X.base=base->Gf X T n (ae ds n)->chk T me X.N X.env.scope v=true->PE X v (tF X.K (ae ds n) me)):bW P w K mg base CX0 (n+1) fa fd d.params (spN K (ae ds (n+1)) f):=by
 obtain⟨v,pos,eb,hc,_⟩:=pj D hb
 obtain⟨c0,d0,k0,o0,m0,a0,cdv,t1,a1,sl,lk,hcd,rfl⟩:=D.fn.it
 refine kj lk hcd D.scope (λvs H Q E h=>?_) (λA outer s H vs Q E hr h=>?_)
 ·obtain⟨O,args,xs,_,hp,e,_⟩:=h
  rw [<- (rW hd hb e).1]
  exact(Paired.length hp).symm
 ·obtain⟨O,args,xs,hO,hp,e,q⟩:=h
  rw [eb]
  refine⟨_,(dj (iX (hf _ _ rfl rfl rfl rfl rfl (wR hlen pr rfl rfl rfl rfl rfl rfl hr) hc))).nox,H,O,O,_,xs,iR hO hp,(rW hd hb e).2,λp us H' s' h1 h2 h3=>q p us H' s' h1 h2 h3⟩
end
section
variable{P:Program}{w:World}{K:PySem.W.Frag}{mg:Str->Option Value}{base:Heap}
theorem dl:defs.length<=1000:=by decide
theorem mR{X:Cx}(h1:X.prog=P)(h2:X.w=w)(h3:X.K=K)(h4:X.mg=mg)(h5:X.base=base)(pr:jn tab K mg defs){n f:Nat}{d:MD}(hd:defs[f]?=some d)(F:∀st fa fd,dW tab K mg st d fa fd->bW P w K mg base CX0 n fa fd d.params (spN K (ae defs n) f)):∀(m:Str),tab.ms[f]?=some (some m)->∀C,IsC X.K C->∃(fa:Addr) (fd:FuncData) (ps:List Str),lK X.K C m fa/\a9 X.K fd ps []/\bW X.prog X.w X.K X.mg X.base CX0 n fa fd ps (spN X.K (ae defs n) f):=by
 subst h1 h2 h3 h4 h5
 intro m hm C hC
 rw [pr.tabM,List.getElem?_map,hd]at hm
 obtain⟨st,fa,fd,D,M⟩:=wQ pr hd (Option.some.inj hm) hC
 exact⟨fa,fd,_,M,D.binds,F st fa fd D⟩
theorem f23(pr:jn tab K mg defs){n:Nat}{st:Stmt}{fa:Addr}{fd:FuncData}(D:dW tab K mg st bP fa fd):bW P w K mg base CX0 (n+1) fa fd bP.params (spN K (ae defs (n+1)) 23):=gk dl pr rfl D rfl λX v _ _ _ _ _ g hc=>nJ g hc rfl
theorem f26(pr:jn tab K mg defs){n:Nat}{st:Stmt}{fa:Addr}{fd:FuncData}(D:dW tab K mg st cG fa fd):bW P w K mg base CX0 (n+1) fa fd cG.params (spN K (ae defs (n+1)) 26):=gk dl pr rfl D rfl λX v _ _ _ _ _ g hc=>nJ g hc rfl
theorem f22(pr:jn tab K mg defs){n:Nat}{st:Stmt}{fa:Addr}{fd:FuncData}(D:dW tab K mg st aW fa fd):bW P w K mg base CX0 (n+1) fa fd aW.params (spN K (ae defs (n+1)) 22):=gk dl pr rfl D rfl λX v _ _ _ _ _ g hc=>nJ g hc rfl
theorem f24(pr:jn tab K mg defs){n:Nat}{st:Stmt}{fa:Addr}{fd:FuncData}(D:dW tab K mg st bQ fa fd):bW P w K mg base CX0 (n+2) fa fd bQ.params (spN K (ae defs (n+2)) 24):=gk dl pr rfl D rfl λX v h1 h2 h3 h4 h5 g hc=>gA g hc (mR h1 h2 h3 h4 h5 pr rfl λst fa fd D=>f22 pr D)
theorem f25(pr:jn tab K mg defs){n:Nat}{st:Stmt}{fa:Addr}{fd:FuncData}(D:dW tab K mg st bR fa fd):bW P w K mg base CX0 (n+2) fa fd bR.params (spN K (ae defs (n+2)) 25):=gk dl pr rfl D rfl λX v h1 h2 h3 h4 h5 g hc=>gA g hc (mR h1 h2 h3 h4 h5 pr rfl λst fa fd D=>f22 pr D)
noncomputable def EZ(H H':Hp)(u:V)(A:List (List Int)):Prop:=∃(p:Addr) (bs:List Addr),u=.ref p/\H p=none/\H' p=some (.lst (bs.map .ref))/\Paired (λb a=>b≠p/\H b=none/\H' b=some (.lst (a.map V.int))) bs A
noncomputable def yV(K:PySem.W.Frag)(n:Nat):Sp:=λvs H Q _=>∃(O:List Addr) (t:Addr) (fs xs:List PV) (A0 A1 A2 A3:List Int),vs=[.ref t]/\(∀a∈O,H a≠none)/\dN K H (af H O) fs xs t /\
 ae defs n 23 [.brwO fs xs]=some (ofL A0)/\ae defs n 24 [.brwO fs xs]=some (ofL A1)/\ae defs n 25 [.brwO fs xs]=some (ofL A2)/\ae defs n 26 [.brwO fs xs]=some (ofL A3)/\∀u H',ac H H'->EZ H H' u [A0,A1,A2,A3]->Q u H'
theorem wS(pr:jn tab K mg defs){n:Nat}{st:Stmt}{fa:Addr}{fd:FuncData}(D:dW tab K mg st a8 fa fd):bW P w K mg base CX0 (n+3) fa fd a8.params (yV K (n+2)):=by
 obtain⟨v,pos,eb,hc,_⟩:=pj D rfl
 obtain⟨c0,d0,k0,o0,m0,a0,cdv,t1,a1,sl,lk,hcd,rfl⟩:=D.fn.it
 obtain⟨q,w1,hc⟩:=al (show onQ (liP v) (λq=>chks tab [(.callM 23 0 []),(.callM 24 0 []),(.callM 25 0 []),(.callM 26 0 [])] a8.names (aj st) q.1&&_)=true from hc)
 obtain rfl:=pZ w1
 replace hc:=(Bool.and_eq_true_iff.mp hc).1
 obtain⟨es,lp⟩:=q
 have hl:4=es.length:=(a7 hc).2
 match es,hl,hc with
 | [e0,e1,e2,e3],_,hc =>
  obtain⟨⟨g0,n0⟩,hc⟩:=bn hc
  obtain⟨⟨g1,n1⟩,hc⟩:=bn hc
  obtain⟨⟨g2,n2⟩,hc⟩:=bn hc
  obtain⟨⟨g3,n3⟩,hc⟩:=bn hc
  refine kj lk hcd D.scope (λvs H Q E h=>?_) (λA outer s H vs Q E hr h=>?_)
  ·obtain⟨O,t,fs,xs,A0,A1,A2,A3,rfl,_⟩:=h
   rfl
  ·obtain⟨O,t,fs,xs,A0,A1,A2,A3,rfl,hO,la,f0,f1,f2,f3,q⟩:=h
   rw [eb]
   have g:=wR (X:=(ia CX0 P w K mg base a8.names a8.name (aj st) fa cdv A outer s H E).nox) (n:=n+2) dl pr rfl rfl rfl rfl rfl rfl hr
   refine⟨_,(dj (iX (eP (au (gA g g0 (mR rfl rfl rfl rfl rfl pr rfl λst fa fd D=>f23 pr D)) (au (gA g g1 (mR rfl rfl rfl rfl rfl pr rfl λst fa fd D=>f24 pr D)) (au (gA g g2 (mR rfl rfl rfl rfl rfl pr rfl λst fa fd D=>f25 pr D)) (au (gA g g3 (mR rfl rfl rfl rfl rfl pr rfl λst fa fd D=>f26 pr D)) aR (bb n3 _ _)) (bb n2 _ _)) (bb n1 _ _)) (bb n0 _ _))))).nox,?_⟩
   have st0:∀H1,ac H H1->aF K H1 O O H1 (([.brwO fs xs]:List MV).map some++List.replicate (a8.names.length-([.brwO fs xs]:List MV).length) none) (dg a8.names [.ref t]):=λH1 s1=>iR (λa ha z=>hO a ha (s1.free z)) (.cons ⟨t,rfl,la.move s1 (ag s1)⟩ .nil)
   refine⟨H,O,O,_,_,st0 H (ac.refl H),f0,λp0 us0 H1 s1 k0 e0 r0=>?_⟩
   refine⟨H1,O,O,_,_,st0 H1 s1,f1,λp1 us1 H2 s2 k1 e1 r1=>?_⟩
   refine⟨H2,O,O,_,_,st0 H2 (s1.trans s2),f2,λp2 us2 H3 s3 k2 e2 r2=>?_⟩
   refine⟨H3,O,O,_,_,st0 H3 ((s1.trans s2).trans s3),f3,λp3 us3 H4 s4 k3 e3 r3=>?_⟩
   refine⟨by show 4<=sizeLine;decide,λp hp=>?_⟩
   have t4:ac H4 (upd H4 p (.lst [.ref p0,.ref p1,.ref p2,.ref p3])):=aA hp _
   have t3:=s4.trans t4
   have t2:=s3.trans t3
   have t1:=s2.trans t2
   rw [Reps.ints r0]at e0
   rw [Reps.ints r1]at e1
   rw [Reps.ints r2]at e2
   rw [Reps.ints r3]at e3
   have nn:∀{b:Addr}{o:HO}{G:Hp},G b=some o->ac G H4->b≠p:=λeb sb z=>by rw [z]at eb;rw [sb _ _ eb]at hp;cases hp
   refine q _ _ (s1.trans t1) ⟨p,[p0,p1,p2,p3],rfl,s1.free (s2.free (s3.free (s4.free hp))),ah,.cons ⟨nn e0 (s2.trans (s3.trans s4)),k0,t1 _ _ e0⟩ (.cons ⟨nn e1 (s3.trans s4),s1.free k1,t2 _ _ e1⟩ (.cons ⟨nn e2 s4,s1.free (s2.free k2),t3 _ _ e2⟩ (.cons ⟨nn e3 (ac.refl _),s1.free (s2.free (s3.free k3)),t4 _ _ e3⟩ .nil)))⟩
end
theorem jJ{α β:Type}{F:α->β->Prop}:∀{as:List α}{bs:List β}{a:α}{b:β},Paired F as bs->F a b->Paired F (as ++ [a]) (bs ++ [b])
 | _,_,_,_,.nil,h=>.cons h .nil
 | _,_,_,_,.cons x t,h=>.cons x (jJ t h)
theorem jK{K:PySem.W.Frag}{F:Hp}:∀{bs:List Addr}{A:List (List Int)},Paired (λb (a:List Int)=>F b=some (.lst (a.map V.int))) bs A->Reps K F (A.map ofL) (bs.map .ref)
 | _,_,.nil=>.nil
 | _,_,.cons (a:=b) (b:=a) h t=>by
  refine .cons ?_ (jK t)
  show Rep K F (.lst (a.map .int)) (.ref b)
  rw [Rep]
  exact⟨b,_,rfl,SqL.of h,Reps.of_ints a⟩
theorem BL{K:PySem.W.Frag}{H:Hp}{σ:L2.St}{a:Addr}{us:List V}{A:List (List Int)}{D:Addr}{Q:VK}(hs:SqL K H a us)(hr:Reps K H (A.map ofL) us)(hn:A.length<=100)(hD:H D=none)
  (q:∀H',ac H H'->(∀M,(∀b∈M,H b≠none)->Rep K (af H' M) (.lst (A.map ofL)) (.ref D))->Q (.ref D) H'):oA (Itl K a) (iw [] σ) H uZ (tCp K) D Q:=by
 have hl:us.length=A.length:=by rw [<- hr.length,List.length_map]
 refine⟨λi m σ' H'=>m=A.length-i/\i<=A.length/\0<σ'.length/\ac H H'/\∃bs:List Addr,bs.length=i/\H' D=some (.lst (bs.map .ref))/\Paired (λb (a:List Int)=>b≠D/\H b=none/\H' b=some (.lst (a.map V.int))) bs (A.take i),⟨A.length,by simp,Nat.zero_le _,by simp [iw],aA hD _,[],rfl,ah,.nil⟩,?_⟩
 rintro i m σ' H' ⟨rfl,hi,hσ,s,bs,hb,eD,pr⟩
 by_cases hlt:i<A.length
 ·right
  have hu:i<us.length:=by omega
  refine⟨⟨us,us[i],s.seq hs,List.getElem?_eq_getElem hu⟩,λσ2 H2=>∃m',m'<A.length-i/\(m'=A.length-(i+1)/\i+1<=A.length/\0<σ2.length/\ac H H2/\∃bs:List Addr,bs.length=i+1/\H2 D=some (.lst (bs.map .ref))/\Paired (λb (a:List Int)=>b≠D/\H b=none/\H2 b=some (.lst (a.map V.int))) bs (A.take (i+1))),λσ2 H2 z=>z,λx H2 y=>?_⟩
  obtain⟨rfl,y⟩:=y
  have ex:=y us (s.seq hs)
  obtain⟨v,ev1,rv⟩:=hr.get' ex
  rw [List.getElem?_map,List.getElem?_eq_getElem hlt]at ev1
  cases ev1
  have rv:Rep K H (.lst (A[i].map .int)) x:=rv
  rw [Rep]at rv
  obtain⟨p,ws,rfl,sq,rw'⟩:=rv
  have ew:=Reps.ints rw'
  subst ew
  unfold uZ
  dsimp only
  rw [if_pos rfl]
  refine⟨_,by rw [List.getElem?_set_self hσ],p,_,rfl,.inl (s.seq sq),λl hl'=>?_⟩
  have nl:l≠D:=λw=>by rw [w,eD]at hl';cases hl'
  refine⟨bs.map .ref,by rw [ak nl.symm];exact eD,by rw [List.length_map,hb];exact Nat.lt_of_lt_of_le (Nat.lt_of_lt_of_le hlt hn) (by decide),A.length-(i+1),by omega,rfl,hlt,by rw [List.length_set];exact hσ,λb o e=>?_,bs ++ [l],by simp [hb],by rw [ah,List.map_append];rfl,?_⟩
  ·rw [ak (az e hD),ak (az (s _ _ e) hl')]
   exact s _ _ e
  ·rw [List.take_add_one,List.getElem?_eq_getElem hlt]
   refine jJ (fD (λb a ⟨h1,h2,h3⟩=>⟨h1,h2,?_⟩) pr) ⟨nl,s.free hl',by rw [ak nl,ah]⟩
   rw [ak h1,ak (az h3 hl')]
   exact h3
 ·left
  have:i=A.length:=by omega
  subst this
  rw [List.take_length]at pr
  refine⟨⟨us,s.seq hs,by omega⟩,q H' s λM hM=>?_⟩
  rw [Rep]
  refine⟨D,_,rfl,SqL.of (by rw [aD λz=>hM D z hD];exact eD),jK (fD (λb a ⟨_,h2,h3⟩=>?_) pr)⟩
  rw [aD λz=>hM b z h2]
  exact h3
section
variable{K:PySem.W.Frag}{ns:Bool->List Int}{c:Int}{Rb:List (List Int)}{z:Cl}{x:Bool->List Int}{hv cv:List PV}{a0:Bool->Addr}{u2 u3:V}{H:Hp}
noncomputable abbrev wT:ME:=.bin .mod (.bin .fdiv (.bor 9) (.cst (.int 128))) (.cst (.int 60))
theorem DM{H1:Hp}{p:Addr}{bs:List Addr}{A:List (List Int)}{cell:Int}{q0 q1 q2 q3 q4 q5 q6:Option V}{D:eN}(hp:H p=none)(e:H1 p=some (.lst (bs.map .ref)))(s:ac H H1)(pr:Paired (λb (a:List Int)=>b≠p/\H b=none/\H1 b=some (.lst (a.map V.int))) bs A)(hA:∀a∈A,a.length<=100)(hb:bs.length<=100)
  (q:∀H' r,ac H H'->D.nx (fr z c a0 u2 u3 (some (.int cell)::q1::q2::q3::q4::q5::r::q6::[])) H') :
  ∃W:Nat->Nat->L2.St->Hp->Prop,(∃m,W 0 m (fr z c a0 u2 u3 (some (.int cell)::q1::q2::q3::q4::q5::q0::q6::[])) H1)/\∀i m σ H,W i m σ H ->
   ((Itl K p).stop i H/\D.nx σ H)\/((Itl K p).go i H/\∃N:L2.St->Hp->Prop,(∀σ' H',N σ' H'->∃m',m'<m/\W (i+1) m' σ' H')/\∀y H',(Itl K p).yld i H y H'->bT 15 y σ H' λσ2 H2=>d8 (tBM K "list" cr (br 15) (aV (tV K cl wT) bA)) { D with nx:=N,ct:=N,bk:=D.nx } σ2 H2):=by
 have h0:∀b∈bs,b≠p/\H b=none/\∃us:List V,H1 b=some (.lst us)/\us.length<=100:=by
  clear e hb
  induction pr with
  |nil=>intro b hb;cases hb
  |cons h t ih =>
   intro b hb
   rcases List.mem_cons.mp hb with rfl|hb
   ·exact⟨h.1,h.2.1,_,h.2.2,by rw [List.length_map];exact hA _ (.head _)⟩
   ·exact ih (λa ha=>hA a (.tail _ ha)) b hb
 refine⟨λi m σ' H'=>m=bs.length-i/\i<=bs.length/\(∃r,σ'=fr z c a0 u2 u3 (some (.int cell)::q1::q2::q3::q4::q5::r::q6::[]))/\ac H H'/\H' p=some (.lst (bs.map .ref))/\∀b∈bs,∃us:List V,H' b=some (.lst us)/\us.length<=100+i,⟨_,rfl,Nat.zero_le _,⟨_,rfl⟩,s,e,λb hb=>(h0 b hb).2.2⟩,?_⟩
 rintro i m σ' H' ⟨rfl,hi,⟨r,rfl⟩,s',e',hb'⟩
 have hl:(bs.map V.ref).length=bs.length:=List.length_map ..
 by_cases hlt:i<bs.length
 ·right
  have ei:(bs.map V.ref)[i]?=some (.ref bs[i]):=by rw [List.getElem?_map,List.getElem?_eq_getElem hlt];rfl
  refine⟨⟨_,_,SqL.of e',ei⟩,λσ2 H2=>∃m',m'<bs.length-i/\(m'=bs.length-(i+1)/\i+1<=bs.length/\(∃r,σ2=fr z c a0 u2 u3 (some (.int cell)::q1::q2::q3::q4::q5::r::q6::[]))/\ac H H2/\H2 p=some (.lst (bs.map .ref))/\∀b∈bs,∃us:List V,H2 b=some (.lst us)/\us.length<=100+(i+1)),λσ2 H2 w=>w,λy H2 yl=>?_⟩
  obtain⟨rfl,yl⟩:=yl
  have ey:=yl _ (SqL.of e')
  rw [ei]at ey
  cases ey
  have mi:bs[i]∈bs:=List.getElem_mem hlt
  obtain⟨us,eu,lu⟩:=hb' _ mi
  obtain⟨np,nh,_⟩:=h0 _ mi
  show d8 _ _ (fr z c a0 u2 u3 (some (.int cell)::q1::q2::q3::q4::q5::some (.ref bs[i])::q6::[])) H2
  refine⟨_,rfl,.inl ⟨rfl,us,SqL.of eu⟩,[],[none,none,none,none,none,none,none,none,none,some (.val (.int cell)),none,none,none,none,none,none,none],.int (cell / 128 % 60),(λa ha=>by cases ha),?_,rfl,λu H3 s3 r3=>?_⟩
  ·exact .skip (.skip (.skip (.skip (.skip (.skip (.skip (.skip (.skip (.val (by rw [Rep]) (.skip (.skip (.skip (.skip (.skip (.skip (.skip .nil))))))))))))))))
  ·refine⟨bs[i],us,u,rfl,rfl,s3 _ _ eu,Nat.lt_of_le_of_lt lu (Nat.lt_of_lt_of_le (by omega:100+i<1000) (by decide)),bs.length-(i+1),by omega,rfl,hlt,⟨_,rfl⟩,λb o eb=>?_,?_,λb hbm=>?_⟩
   ·rw [ak (az eb nh)]
    exact s3 _ _ (s' _ _ eb)
   ·rw [ak np.symm]
    exact s3 _ _ e'
   ·by_cases eb:b=bs[i]
    ·rw [eb]
     exact⟨_,ah,by rw [List.length_append,List.length_singleton];omega⟩
    ·obtain⟨ws,e1,e2⟩:=hb' b hbm
     exact⟨ws,by rw [ak eb];exact s3 _ _ e1,by omega⟩
 ·left
  have:i=bs.length:=by omega
  subst this
  exact⟨⟨_,SqL.of e',by rw [hl];exact Nat.le_refl _⟩,q H' r s'⟩
end
noncomputable def LxL (X:Cx):Prop:=∃(fa:Addr) (fd:FuncData) (ps:List Str),X.mg ("_law_lists":Str)=some (.ref fa)/\PySem.W.keepIn X.K (.ref fa)=true/\a9 X.K fd ps []/\bW X.prog X.w X.K X.mg X.base CX0 39 fa fd ps (yV X.K 38)
theorem c5L {X:Cx} (l:Lx X) (h:LxL X):PS X (C 5) (kf (jw X.K (jy (yV X.K 38) [] E0 (aV (tOp (kz X.K) (br 4) (br 12)) bA))) (bT 15) (d8 (tBM X.K "list" cr (br 15) (aV (tV X.K cl wT) bA)))):=by
 obtain⟨fa,fd,ps,h1,h2,h3,F⟩:=h
 exact iY l.d.own l.g.calm (fw (jS F l.g.room (dw (by rw [l.s];decide +kernel)) h1 h2 h3 .nil d_ (au (jA gn (l.nm (i:=4) (by decide +kernel)) (l.nm (i:=12) (by decide +kernel)) (λ_ _=>rfl)) aR))) (dn l.d.nd (by rw [l.n];rfl) (by have:=fj (x:="numbers") (show fc (aj fR) "numbers"=true by decide +kernel);rw [<- l.s]at this;exact this) (.inl (l.d.fn _))) (dj (dk (jB PySem.F.plainAttrs_list PySem.F.slot_list_append PySem.F.type_list_append cn (l.nm (i:=15) (by decide +kernel)) (au (l.v (by kernel_rfl)) aR)) rfl))
noncomputable abbrev tC6(K:PySem.W.Frag):TS:=eO (λD σ H=>jy (spM K cl 18) [] E0 (aV (tOp (kz K) (br 4) (br 12)) bA) σ H λu H'=>D.nx (σ.set 13 (some u)) H')
 (eO (λD σ H=>tV K cl (.call 19 [(.bor 1),(.idx (.bor 5) (.bor 12)),(.bor 12)]) σ H λu H'=>D.nx (σ.set 14 (some u)) H')
 (eO (tY (tVB K cl (.not (.call 20 [(.bor 13),(.bor 14)]))) (zE (tC (.bl false))) nU)
 (eO (d8 (tBM K "list" cr (br 7) (aV (br 13) bA)))
 (eO (d8 (tBM K "list" cr (br 8) (aV (oB (jw K (br 14)) [] uZ (tCp K)) bA)))
 (kf (jw K (jy (yV K 38) [] E0 (aV (tOp (kz K) (br 4) (br 12)) bA))) (bT 15) (d8 (tBM K "list" cr (br 15) (aV (tV K cl wT) bA))))))))
theorem E1{X:Cx}(l:Lx X)(h:LxL X):PSs X [C 0,C 1,C 2,C 3,C 4,C 5] (tC6 X.K):=aN (c0 l) (aN (c1 l) (aN (c2 l) (aN (c3 l) (aN (c4 l) (dj (c5L l h))))))
section
variable{K:PySem.W.Frag}{ns:Bool->List Int}{c:Int}{Rb:List (List Int)}{z:Cl}{x:Bool->List Int}{hv cv:List PV}{a0:Bool->Addr}{u2 u3:V}{H:Hp}
theorem BM(lm:Lm c Rb)(j:Jt K ns c Rb z x x x hv hv a0 u2 u3 H)(len:∀b,(x b).length<=40)(hl:hv.length<=500)(cell:Int)(o:Bool){q1 q2 q3 q4 q5 q6:Option V}{D:eN}
  (q:∀H' r1 r2 r3,Jt K ns c Rb z x x x (hv ++ [lI c (x o) (bI o)]) (hv ++ [lI c (x o) (bI o)]) a0 u2 u3 H'->D.nx (fr z c a0 u2 u3 (some (.int cell)::q1::q2::some (.int (bI o))::r1::r2::r3::q6::[])) H') :
  tC6 K D (fr z c a0 u2 u3 (some (.int cell)::q1::q2::some (.int (bI o))::q3::q4::q5::q6::[])) H:=by
 have i0:∀(F:Hp) (i:Int),Rep K F (.int i) (.int i):=λF i=>by rw [Rep]
 have c0:0<=c:=by have:=lm.p;omega
 have lo:=len o
 refine⟨_,rfl,_,rfl,z.aT,_,bI o,.ref (z.t o),rfl,rfl,SqL.of j.T,(at2 _ _ o).trans (congrArg some (gj (λb=>V.ref (z.t b)) o)),z.m,[.brwO (tbl c (sortT Rb) o) ((x o).map .int)],lI c (x o) (bI o),j.here,.cons ⟨z.t o,rfl,(j.ob o).lent⟩ .nil,yS 34 c (sortT Rb) o (x o) c0 lm.q (by omega),λul H1 s1 rl=>?_⟩
 have j1:=j.mono s1
 show eO _ _ D (fr z c a0 u2 u3 (some (.int cell)::q1::q2::some (.int (bI o))::some ul::q4::q5::q6::[])) H1
 refine⟨z.o,_,lI c (x o) (bI o),j1.hereo,j1.view (.val (i0 _ cell) (.skip (.skip (.val (i0 _ (bI o)) (.skip (.skip (.skip (.skip .nil)))))))),?_,λud H2 s2 rd=>?_⟩
 ·refine bi (vs:=[.val (.int c),.val (ofL (x o)),.val (.int (bI o))]) (gJ rfl (iT ((dY rfl rfl).trans ((ix2 _ _ o).trans (congrArg some (gj (λb=>ofL (x b)) o)))) (gJ rfl rfl))) ?_
  exact BH 37 c (x o) (bI o) c0 lm.q (by omega)
 have j2:=j1.mono s2
 have rl2:=Rep.mono (ag s2) _ rl
 show eO _ _ D (fr z c a0 u2 u3 (some (.int cell)::q1::q2::some (.int (bI o))::some ul::some ud::q5::q6::[])) H2
 refine⟨z.o,_,false,j2.hereo,j2.view (.val (i0 _ cell) (.skip (.skip (.val (i0 _ (bI o)) (.val (Rep.mono (gz z) _ rl2) (.val rd (.skip (.skip .nil)))))))),?_,λH3 s3=>Cs ?_⟩
 ·exact wz (p:=true) (bi (vs:=[.val (lI c (x o) (bI o)),.val (lI c (x o) (bI o))]) (gJ rfl (gJ rfl rfl)) (rU 36 c (x o) (bI o) lm.q (by omega)))
 have j3:=j2.mono s3
 have rl3:=Rep.mono (ag s3) _ rl2
 have rd3:=Rep.mono (ag s3) _ rd
 obtain⟨uh,eh,rh⟩:=j3.hh
 have lh:=rh.length
 refine⟨_,rfl,.inl ⟨rfl,uh,SqL.of eh⟩,_,rfl,z.aH,uh,ul,rfl,rfl,eh,by rw [<- lh];exact Nat.lt_of_le_of_lt hl (by decide),?_⟩
 have j4:=j3.appH eh rl3
 have rd4:Rep K (af (upd H3 z.aH (.lst (uh ++ [ul]))) z.o) (lI c (x o) (bI o)) ud:=by rw [bV (by simp [Cl.o])];exact rd3
 generalize upd H3 z.aH (.lst (uh ++ [ul]))=H4 at j4 rd4
 obtain⟨uc,ec,rc⟩:=j4.cc
 have lc:=rc.length
 have rd5:Rep K H4 (.lst ([x o,sortI (tb (x o) (bI o)),sortI (tb (x o) (1-bI o)),frl c (x o)].map ofL)) ud:=Rep.mono (aU _ _) _ rd4
 rw [Rep]at rd5
 obtain⟨ad,usd,rfl,sd,rsd⟩:=rd5
 refine⟨_,rfl,.inl ⟨rfl,uc,SqL.of ec⟩,_,rfl,ad,rfl,⟨usd,sd⟩,λDd hDd=>BL sd rsd (by show 4<=100;decide) hDd λH5 s5 hn=>?_⟩
 have j5:=j4.mono s5
 refine⟨z.aC,uc,.ref Dd,rfl,rfl,s5 _ _ ec,by rw [<- lc];exact Nat.lt_of_le_of_lt hl (by decide),?_⟩
 have j6:=j5.appC (s5 _ _ ec) (hn z.m j4.here)
 generalize upd H5 z.aC (.lst (uc ++ [.ref Dd]))=H6 at j6
 refine⟨_,rfl,_,rfl,z.aT,_,bI o,.ref (z.t o),rfl,rfl,SqL.of j6.T,(at2 _ _ o).trans (congrArg some (gj (λb=>V.ref (z.t b)) o)),z.m,z.t o,tbl c (sortT Rb) o,(x o).map .int,x o,sortI (tb (x o) (bI o)),sortI (tb (x o) (1-bI o)),frl c (x o),rfl,j6.here,(j6.ob o).lent,rP 37 _ _,?_,?_,rQ 37 c (sortT Rb) o (x o) c0 lm.q,λu H7 s7 nl=>?_⟩
 ·have:=rR 34 c (sortT Rb) o (x o) (by omega)
  rw [(qy (b:=bI o) rfl (x o)).1]at this
  exact this
 ·have:=rS 34 c (sortT Rb) o (x o) (by omega)
  rw [(qy (b:=bI o) rfl (x o)).2]at this
  exact this
 obtain⟨p,bs,rfl,hp,ep,pr⟩:=nl
 have lb4:bs.length=4:=Paired.length pr
 refine⟨p,rfl,⟨_,SqL.of ep⟩,DM hp ep s7 pr (λa ha=>?_) (by omega) λH' r s'=>q H' _ _ r (j6.mono s')⟩
 have t1:=lG (x o) (bI o)
 have t2:=lG (x o) (1-bI o)
 have t3:=rN (c:=c) (t:=x o)
 have t4:=lm.q
 simp only [List.mem_cons,List.not_mem_nil,or_false]at ha
 rcases ha with rfl|rfl|rfl|rfl
 ·omega
 ·rw [sortI_len];omega
 ·rw [sortI_len];omega
 ·omega
noncomputable def Hv(hv:List PV):Prop:=∀v∈hv,cl 20 [.val v,.val v]=some (.bl true)
theorem BN(lm:Lm c Rb)(j:Jt K ns c Rb z x x x hv hv a0 u2 u3 H)(len:∀b,(x b).length<=40)(hl:hv.length<=400)(hh:Hv hv)(cell:Int){q1 q2 q3 q4 q5 q6 q7:Option V}{D:eN}
  (q:∀H' hv' r0 r1 r2 r3,Jt K ns c Rb z x x x hv' hv' a0 u2 u3 H'->hv'.length=hv.length+2->Hv hv'->D.nx (fr z c a0 u2 u3 (some (.int cell)::q1::q2::r0::r1::r2::r3::q7::[])) H') :
  kf (qA (aV (tC (.int 2)) bA)) (bT 12) (tC6 K) D (fr z c a0 u2 u3 (some (.int cell)::q1::q2::q3::q4::q5::q6::q7::[])) H:=by
 refine⟨2,rfl,by decide,by decide,λi m σ' H'=>m=2-i/\i<=2/\∃hv' r0 r1 r2 r3,σ'=fr z c a0 u2 u3 (some (.int cell)::q1::q2::r0::r1::r2::r3::q7::[])/\Jt K ns c Rb z x x x hv' hv' a0 u2 u3 H'/\hv'.length=hv.length+i/\Hv hv',⟨_,rfl,by decide,hv,_,_,_,_,rfl,j,rfl,hh⟩,?_⟩
 rintro i m σ' H' ⟨rfl,hi,hv',r0,r1,r2,r3,rfl,j',hl',hh'⟩
 by_cases hlt:i<2
 ·right
  refine⟨hlt,λσ2 H2=>∃m',m'<2-i/\(m'=2-(i+1)/\i+1<=2/\∃hv' r0 r1 r2 r3,σ2=fr z c a0 u2 u3 (some (.int cell)::q1::q2::r0::r1::r2::r3::q7::[])/\Jt K ns c Rb z x x x hv' hv' a0 u2 u3 H2/\hv'.length=hv.length+(i+1)/\Hv hv'),λσ2 H2 w=>w,λy H2 yl=>?_⟩
  obtain⟨rfl,rfl⟩:=yl
  have eo:((0:Int)+(i:Nat))=bI (decide (i=1)):=by
   match i,hlt with
   |0,_=>rfl
   |1,_=>rfl
  rw [eo]
  refine BM lm j' len (by omega) cell (decide (i=1)) λH3 s1 s2 s3 j3=>⟨_,by omega,rfl,hlt,_,_,s1,s2,s3,rfl,j3,by rw [List.length_append,List.length_singleton];omega,λv hv=>?_⟩
  rcases List.mem_append.mp hv with w|w
  ·exact hh' v w
  ·rw [List.mem_singleton.mp w]
   exact rU 36 c _ _ lm.q (by have:=len (decide (i=1));omega)
 ·left
  have:i=2:=by omega
  subst this
  exact⟨Nat.le_refl _,q H' hv' r0 r1 r2 r3 j' hl' hh'⟩
end
noncomputable abbrev tBd(K:PySem.W.Frag)(C:Addr):TS:=eO (λD σ H=>tV K cl (.bin .mod (.bin .fdiv (.bor 9) (.cst (.int 64))) (.cst (.int 2))) σ H λu H'=>D.nx (σ.set 10 (some u)) H')
 (eO (tB1 K C) (kf (qA (aV (tC (.int 2)) bA)) (bT 12) (tC6 K)))
theorem E2{X:Cx}(l:Lx X)(h:LxL X){C:Addr}(hC:IsC X.K C):PSs X [B 0,B 1,B 2] (tBd X.K C) :=
 aN (b0 l) (aN (b1 l (aN (a0 l) (aN (a1 l hC) (aN (a2 l) (dj (a3 l)))))) (dj (b2 l (E1 l h))))
section
variable{K:PySem.W.Frag}{ns:Bool->List Int}{c:Int}{Rb:List (List Int)}{z:Cl}{x:Bool->List Int}{hv cv:List PV}{a0:Bool->Addr}{u2 u3:V}{H:Hp}
theorem yW{C:Addr}(hC:IsC K C)(lm:Lm c Rb)(j:Jt K ns c Rb z x x x hv hv a0 u2 u3 H)(nd:∀b,(x b).Nodup)(len:∀b,(x b).length<=30)(hl:hv.length<=300)(hh:Hv hv)(cell:Int){q1 q2 q3 q4 q5 q6 q7:Option V}{D:eN}
  (q:∀z' x' hv' H' r1 r2 r3 r4 r5 r6 r7,Jt K ns c Rb z' x' x' x' hv' hv' a0 u2 u3 H'->(∀b,(x' b).Nodup)->(∀b,(x' b).length<=(x b).length+1)->hv'.length=hv.length+2->Hv hv'->D.nx (fr z' c a0 u2 u3 (some (.int cell)::r1::r2::r3::r4::r5::r6::r7::[])) H') :
  tBd K C D (fr z c a0 u2 u3 (some (.int cell)::q1::q2::q3::q4::q5::q6::q7::[])) H:=by
 have eb:cell / 64 % 2=bI (decide (cell / 64 % 2=1)):=by
  by_cases h:cell / 64 % 2=1
  ·rw [decide_eq_true h,h];rfl
  ·rw [decide_eq_false h]
   show _=(0:Int)
   omega
 refine⟨[],[none,none,none,none,none,none,none,none,none,some (.val (.int cell)),none,none,none,none,none,none,none],.int (cell / 64 % 2),(λa ha=>by cases ha),.skip (.skip (.skip (.skip (.skip (.skip (.skip (.skip (.skip (.val (by rw [Rep]) (.skip (.skip (.skip (.skip (.skip (.skip (.skip .nil)))))))))))))))),rfl,λu H1 s1 r1=>?_⟩
 rw [Rep]at r1
 subst r1
 rw [eb]
 show eO _ _ D (fr z c a0 u2 u3 (some (.int cell)::some (.int (bI (decide (cell / 64 % 2=1))))::q2::q3::q4::q5::q6::q7::[])) H1
 refine DK hC lm (j.mono s1) nd (λb=>by have:=len b;omega) cell _ λz' x' H' r j' nd' len'=>?_
 exact BN lm j' (λb=>by have:=len b;have:=len' b;omega) (by omega) hh cell λH2 hv' r0 r1 r2 r3 j2 hl2 hh2=>q z' x' hv' H2 _ _ _ _ _ _ _ j2 nd' len' hl2 hh2
theorem yX{C:Addr}(hC:IsC K C)(lm:Lm c Rb)(j:Jt K ns c Rb z x x x hv hv a0 u2 u3 H)(x0:∀b,x b=[])(h0:hv=[]){q0 q1 q2 q3 q4 q5 q6 q7:Option V}{D:eN}
  (q:∀z' x' hv' a0' ns' H' r0 r1 r2 r3 r4 r5 r6 r7,Jt K ns' c Rb z' x' x' x' hv' hv' a0' u2 u3 H'->a0' false=a0 false->hv'.length<=300->Hv hv'->D.nx (fr z' c a0' u2 u3 (r0::r1::r2::r3::r4::r5::r6::r7::[])) H') :
  kf (jw K (tV K cl (.slice (.bor 0) (.cst (.int 3)) (.cst (.int 19))))) (bT 9) (tBd K C) D (fr z c a0 u2 u3 (q0::q1::q2::q3::q4::q5::q6::q7::[])) H:=by
 have hcut:(lz (ns false) (some 3) (some 19)).length<=16:=by have:=o7 (ns false) (a:=3) (b:=19) (by decide) (by decide);omega
 refine⟨z.m,[some (.brw ((ns false).map .int)),none,none,none,none,none,none,none,none,none,none,none,none,none,none,none,none],ofL (lz (ns false) (some 3) (some 19)),j.here,.brw ((aU H _).seq (j.sc false)) (Reps.of_ints _) (.skip (.skip (.skip (.skip (.skip (.skip (.skip (.skip (.skip (.skip (.skip (.skip (.skip (.skip (.skip (.skip .nil)))))))))))))))),by simp [ev,bnd],λu H1 s1 r1=>?_⟩
 generalize lz (ns false) (some 3) (some 19)=cs at hcut r1
 have r1:Rep K (af H1 z.m) (.lst (cs.map .int)) u:=r1
 rw [Rep]at r1
 obtain⟨a,us,rfl,sq,rs⟩:=r1
 have eu:=Reps.ints rs
 subst eu
 have j0:=j.mono s1
 have j1:Jt K (λi=>if i=true then cs else ns false) c Rb z x x x hv hv (λi=>if i=true then a else a0 false) u2 u3 H1:=⟨j0.nd,λi=>by cases i with|false=>exact j0.sc false|true=>exact sq,j0.rb,j0.lm,j0.T,j0.ob,j0.KK,j0.kk,j0.L,j0.hh,j0.cc⟩
 generalize hns:(λi=>if i=true then cs else ns false)=ns' at j1
 generalize ha0:(λi=>if i=true then a else a0 false)=a0' at j1
 have e1:ns' true=cs:=by rw [<- hns];rfl
 have e2:a0' true=a:=by rw [<- ha0];rfl
 have e3:a0' false=a0 false:=by rw [<- ha0];rfl
 have efr:∀z σ,fr z c a0 u2 u3 σ=fr z c a0' u2 u3 σ:=λz σ=>by unfold fr;rw [e3]
 refine⟨a,rfl,⟨_,(aU _ _).seq sq⟩,?_⟩
 rw [efr]
 refine⟨λi m σ' H'=>m=cs.length-i/\i<=cs.length/\∃z x hv r0 r1 r2 r3 r4 r5 r6 r7,σ'=fr z c a0' u2 u3 (r0::r1::r2::r3::r4::r5::r6::r7::[])/\Jt K ns' c Rb z x x x hv hv a0' u2 u3 H'/\(∀b,(x b).Nodup)/\(∀b,(x b).length<=i)/\hv.length=2*i/\Hv hv,⟨_,rfl,Nat.zero_le _,z,x,hv,_,_,_,_,_,_,_,_,rfl,j1,λb=>by rw [x0 b];exact List.nodup_nil,λb=>by rw [x0 b];exact Nat.le_refl 0,by rw [h0];rfl,by rw [h0];intro v hv;cases hv⟩,?_⟩
 rintro i m σ' H' ⟨rfl,hi,z',x',hv',r0,r1,r2,r3,r4,r5,r6,r7,rfl,j',nd',len',hl',hh'⟩
 have sc:=(aU H' _).seq (j'.sc true)
 rw [e1,e2]at sc
 by_cases hlt:i<cs.length
 ·right
  have ei:(cs.map V.int)[i]?=some (.int cs[i]):=by rw [List.getElem?_map,List.getElem?_eq_getElem hlt];rfl
  refine⟨⟨_,_,sc,ei⟩,λσ2 H2=>∃m',m'<cs.length-i/\(m'=cs.length-(i+1)/\i+1<=cs.length/\∃z x hv r0 r1 r2 r3 r4 r5 r6 r7,σ2=fr z c a0' u2 u3 (r0::r1::r2::r3::r4::r5::r6::r7::[])/\Jt K ns' c Rb z x x x hv hv a0' u2 u3 H2/\(∀b,(x b).Nodup)/\(∀b,(x b).length<=i+1)/\hv.length=2*(i+1)/\Hv hv),λσ2 H2 w=>w,λy H2 yl=>?_⟩
  obtain⟨rfl,yl⟩:=yl
  have ey:=yl _ sc
  rw [ei]at ey
  cases ey
  show tBd K C _ (fr z' c a0' u2 u3 (some (.int cs[i])::r1::r2::r3::r4::r5::r6::r7::[])) H2
  refine yW hC lm j' nd' (λb=>by have:=len' b;omega) (by omega) hh' cs[i] λz2 x2 hv2 H3 s1 s2 s3 s4 s5 s6 s7 j2 nd2 len2 hl2 hh2=>⟨_,by omega,rfl,hlt,z2,x2,hv2,_,_,_,_,_,_,_,_,rfl,j2,nd2,λb=>by have:=len2 b;have:=len' b;omega,by omega,hh2⟩
 ·left
  have:i=cs.length:=by omega
  subst this
  exact⟨⟨_,sc,by rw [List.length_map];exact Nat.le_refl _⟩,q z' x' hv' a0' ns' H' _ _ _ _ _ _ _ _ j' e3 (by omega) hh'⟩
theorem yY{ρ:Rho}(h7:(ρ[7]?).join=some (.brw hv))(h8:(ρ[8]?).join=some (.brw hv))(hρ:ρ.length=17)(hl:hv.length<=300)(hh:Hv hv):exs cl wO ρ=.ret (.bl true):=by
 have key:∀(ks:List Nat) (ρ:Rho),(ρ[7]?).join=some (.brw hv)->(ρ[8]?).join=some (.brw hv)->ρ.length=17->(∀k∈ks,k<hv.length)->∃ρ':Rho,bx (λx ρ'=>exs cl [.ite (.not (.call 20 [(.idx (.bor 7) (.bor 16)),(.idx (.bor 8) (.bor 16))])) [.ret (.cst (.bl false))] []] (put ρ' 16 (.val x))) (ks.map λ(k:Nat)=>PV.int ((k:Nat):Int)) ρ=.next ρ':=by
  intro ks
  induction ks with
  |nil=>exact λρ _ _ _ _=>⟨ρ,rfl⟩
  |cons k ks ih =>
   intro ρ g7 g8 gl hk
   have hk0:=hk k (.head _)
   have p7:((put ρ 16 (.val (.int (k:Nat))))[7]?).join=some (.brw hv):=by rw [aa (by decide)];exact g7
   have p8:((put ρ 16 (.val (.int (k:Nat))))[8]?).join=some (.brw hv):=by rw [aa (by decide)];exact g8
   have p16:((put ρ 16 (.val (.int (k:Nat))))[16]?).join=some (.val (.int (k:Nat))):=by rw [ab (by omega)];rfl
   generalize he:put ρ 16 (.val (.int (k:Nat)))=ρ1 at p7 p8 p16
   have l1:ρ1.length=17:=by rw [<- he,MM.put_len];exact gl
   have e16:ev cl (.bor 16) ρ1=some (.int (k:Nat)):=by rw [ev,p16];rfl
   have i1:gH (.lst hv) (.int (k:Nat))=some hv[k]:=by
    show(place hv.length ((k:Nat):Int)).bind (λj=>hv[j]?)=_
    rw [show place hv.length ((k:Nat):Int)=some k from by unfold place;simp [hk0],Option.bind_some,List.getElem?_eq_getElem hk0]
   have e7:ev cl (.idx (.bor 7) (.bor 16)) ρ1=some hv[k]:=(dY (by rw [ev,p7];rfl) e16).trans i1
   have e8:ev cl (.idx (.bor 8) (.bor 16)) ρ1=some hv[k]:=(dY (by rw [ev,p8];rfl) e16).trans i1
   have st:exs cl [.ite (.not (.call 20 [(.idx (.bor 7) (.bor 16)),(.idx (.bor 8) (.bor 16))])) [.ret (.cst (.bl false))] []] (put ρ 16 (.val (.int (k:Nat))))=.next ρ1:=by
    rw [he]
    exact DC (wz (p:=true) (bi (iT e7 (iT e8 rfl)) (hh _ (List.getElem_mem hk0)))) rfl
   obtain⟨ρ',e'⟩:=ih ρ1 p7 p8 l1 λj hj=>hk j (.tail _ hj)
   exact⟨ρ',by rw [List.map_cons,cT st];exact e'⟩
 obtain⟨ρ',e⟩:=key (List.range hv.length) ρ h7 h8 hρ λk hk=>List.mem_range.mp hk
 have el:ev cl (.blt .len [(.bor 7)]) ρ=some (.int hv.length):=by rw [bN (v:=.lst hv) (by rw [ev,h7];rfl)];rfl
 refine wL (r:=.ret (.bl true)) (xs:=(List.range hv.length).map λ(k:Nat)=>PV.int ((k:Nat):Int)) ?_ e rfl
 rw [show evs cl [(.blt .len [(.bor 7)])] ρ=some [.int hv.length] from de el rfl,Option.bind_some,cR (by omega) (by omega)]
 rfl
end
section
variable{K:PySem.W.Frag}{ns:List Int}{c:Int}{Rb:List (List Int)}{a:Addr}{u2 u3:V}{H:Hp}
theorem c9{l:List Addr}{p:Addr}(h:∀a∈l,H a≠none)(hp:H p=none)(nd:l.Nodup):(p::l).Nodup:=List.nodup_cons.mpr ⟨λz=>h p z hp,nd⟩
theorem mS{G:Hp}{M:List Addr}(s:ac H G)(h:∀b∈M,H b=none):ac H (af G M):=λb o e=>by
 rw [aD λz=>by rw [h b z]at e;cases e]
 exact s b o e
theorem DN{C:Addr}{H0:Hp}(hC:IsC K C){σ:L2.St}(e3:σ[3]?=some (some u3))(s0:ac H0 H)(r:Rep K H0 (.tup [.int c,ofR (sortT Rb)]) u3){o:Bool}{Q:VK}
  (q:∀t l H',ac H H'->H t=none->H l=none->l≠t->(∃dx gs,H' t=some (.ins C dx gs)/\∀F,ac H0 F->ObF K C F (tbl c (sortT Rb) o) l gs)->H' l=some (.lst [])->Q (.ref t) H'):tTb K C (ce o) σ H Q:=by
 rw [Rep]at r
 obtain⟨la,ts,rfl,ht,rt⟩:=r
 rw [Reps]at rt
 obtain⟨uc,r4,rfl,rc,rt⟩:=rt
 rw [Reps]at rt
 obtain⟨ur,r5,rfl,rr,rt⟩:=rt
 rw [Reps]at rt
 subst rt
 rw [Rep]at rc
 subst rc
 refine⟨_,e3,λt dx nt nd ne=>?_⟩
 have s2:ac H (upd (upd H dx (.own t)) t (.ins C dx [])):=λb u eb=>by rw [ak (az eb nt),ak (az eb nd)];exact eb
 refine⟨t,dx,la,.int c,ur,.str (ce o),rfl,ah,s2.seqT (SqT.of (s0 _ _ ht)),λl H' nl et el kp=>⟨rfl,?_⟩⟩
 have hlt:l≠t:=λz=>by rw [z,ah]at nl;cases nl
 obtain⟨f1,f2,f3,f4,f5⟩:=o4 (c:=.int c) (r:=ur) (o:=.str (ce o)) (l:=l)
 refine q t l H' (λb u eb=>kp b u (az eb nt) (s2 b u eb)) nt (s2.free nl) hlt ⟨dx,_,et,λF sF=>⟨hC,λn x v en evv=>?_,f4,f5⟩⟩ el
 match n,en,evv with
 |0,en,evv=>cases en;cases evv;exact⟨_,f1,by rw [Rep]⟩
 |1,en,evv=>cases en;cases evv;exact⟨ur,f2,Rep.mono sF _ rr⟩
 |2,en,evv=>cases en;cases evv;exact⟨_,f3,by rw [Rep]⟩
noncomputable abbrev DO (K:PySem.W.Frag) (C:Addr) (t:TS):TS:=eO (λD σ H=>fS (aV (tTb K C "weaver") (aV (tTb K C "moth") bA)) σ H λu H'=>D.nx (σ.set 4 (some u)) H')
 (eO (λD σ H=>fS (aV (fS bA) (aV (fS bA) bA)) σ H λu H'=>D.nx (σ.set 5 (some u)) H')
 (eO (λD σ H=>fS (aV (tV K cl (.idx (.bor 3) (.cst (.int 1)))) (aV (tV K cl (.idx (.bor 3) (.cst (.int 1)))) bA)) σ H λu H'=>D.nx (σ.set 6 (some u)) H')
 (eO (λD σ H=>fS bA σ H λu H'=>D.nx (σ.set 7 (some u)) H')
 (eO (λD σ H=>fS bA σ H λu H'=>D.nx (σ.set 8 (some u)) H') t))))
theorem tl2{ta tb:TE}{σ:L2.St}{H:Hp}{Q:VK}(h:ta σ H λx H1=>tb σ H1 λy H2=>2<=sizeLine/\∀p,H2 p=none->Q (.ref p) (upd H2 p (.lst [x,y]))):fS (aV ta (aV tb bA)) σ H Q:=h
theorem BO{C:Addr}(hC:IsC K C)(sc:SqL K H a (ns.map V.int))(rb:Rep K H (.lst (Rb.map ofS)) u2)(r3:Rep K H (.tup [.int c,ofR (sortT Rb)]) u3){t:TS}{D:eN}
  (q:∀z H',Jt K (λ_=>ns) c Rb z (λ_=>[]) (λ_=>[]) (λ_=>[]) [] [] (λ_=>a) u2 u3 H'->t D (fr z c (λ_=>a) u2 u3 [none,none,none,none,none,none,none,none]) H') :
  DO K C t D [some (.ref a),some (.int c),some u2,some u3,none,none,none,none,none,none,none,none,none,none,none,none,none] H:=by
 unfold DO eO
 show fS (aV (tTb K C "weaver") (aV (tTb K C "moth") bA)) [some (.ref a),some (.int c),some u2,some u3,none,none,none,none,none,none,none,none,none,none,none,none,none] H _
 refine tl2 (DN (u3:=u3) (o:=false) hC rfl (ac.refl H) r3 λt0 l0 H1 s1 nt0 nl0 ne0 hb0 el0=>?_)
 refine DN (u3:=u3) (o:=true) hC rfl s1 r3 λt1 l1 H2 s2 nt1 nl1 ne1 hb1 el1=>⟨by decide,λaT haT=>?_⟩
 obtain⟨dx0,gs0,et0,ob0⟩:=hb0
 obtain⟨dx1,gs1,et1,ob1⟩:=hb1
 have g3:ac H2 (upd H2 aT (.lst [.ref t0,.ref t1])):=aA haT _
 have eT:(upd H2 aT (.lst [.ref t0,.ref t1])) aT=some (.lst [.ref t0,.ref t1]):=ah
 generalize upd H2 aT (.lst [.ref t0,.ref t1])=H3 at g3 eT
 refine⟨by decide,λk0 hk0=>⟨by decide,λk1 hk1=>⟨by show 2<=sizeLine;decide,λaK haK=>?_⟩⟩⟩
 have g4:ac H3 (upd H3 k0 (.lst [])):=aA hk0 _
 have ek0:(upd H3 k0 (.lst [])) k0=some (.lst []):=ah
 generalize upd H3 k0 (.lst [])=H4 at g4 ek0 hk1 haK ⊢
 have g5:ac H4 (upd H4 k1 (.lst [])):=aA hk1 _
 have ek1:(upd H4 k1 (.lst [])) k1=some (.lst []):=ah
 generalize upd H4 k1 (.lst [])=H5 at g5 ek1 haK ⊢
 have g6:ac H5 (upd H5 aK (.lst [.ref k0,.ref k1])):=aA haK _
 have eK:(upd H5 aK (.lst [.ref k0,.ref k1])) aK=some (.lst [.ref k0,.ref k1]):=ah
 generalize upd H5 aK (.lst [.ref k0,.ref k1])=H6 at g6 eK
 have d0:[l0,t0].Nodup:=by simp [ne0]
 have p0:∀b∈[l0,t0],H1 b≠none:=by simp [el0,et0]
 have d1:[t1,l0,t0].Nodup:=c9 p0 nt1 d0
 have d1':l1∉[t1,l0,t0]:=by
  intro w
  rcases List.mem_cons.mp w with w|w
  ·exact ne1 w
  ·exact p0 l1 w nl1
 have d2:[l1,t1,l0,t0].Nodup:=List.nodup_cons.mpr ⟨d1',d1⟩
 have p2:∀b∈[l1,t1,l0,t0],H2 b≠none:=by simp [el1,et1,s2 _ _ el0,s2 _ _ et0]
 have d3:[aT,l1,t1,l0,t0].Nodup:=c9 p2 haT d2
 have up:∀{A:List Addr}{G G':Hp}{p:Addr},(∀b∈A,G b≠none)->ac G G'->G' p≠none->∀b∈p::A,G' b≠none:=λh s hp b hb=>by
  rcases List.mem_cons.mp hb with rfl|hb
  ·exact hp
  ·exact λw=>h b hb (s.free w)
 have p3:=up p2 g3 (by rw [eT];simp)
 have d4:=c9 p3 hk0 d3
 have p4:=up p3 g4 (by rw [ek0];simp)
 have d5:=c9 p4 hk1 d4
 have p5:=up p4 g5 (by rw [ek1];simp)
 have d6:=c9 p5 haK d5
 have p6:=up p5 g6 (by rw [eK];simp)
 have sA:ac H H6:=s1.trans (s2.trans (g3.trans (g4.trans (g5.trans g6))))
 have f6:∀b∈[aK,k1,k0,aT,l1,t1,l0,t0],H b=none:=λb hb=>by
  simp only [List.mem_cons,List.not_mem_nil,or_false]at hb
  rcases hb with rfl|rfl|rfl|rfl|rfl|rfl|rfl|rfl
  ·exact s1.free (s2.free (g3.free (g4.free (g5.free haK))))
  ·exact s1.free (s2.free (g3.free (g4.free hk1)))
  ·exact s1.free (s2.free (g3.free hk0))
  ·exact s1.free (s2.free haT)
  ·exact s1.free nl1
  ·exact s1.free nt1
  ·exact nl0
  ·exact nt0
 have l3:∀{G:Hp},ac H6 G->Rep K (af G [aK,k1,k0,aT,l1,t1,l0,t0]) (.tup [.int c,ofR (sortT Rb)]) u3:=λg=>Rep.mono (mS (sA.trans g) f6) _ r3
 have ei:∀(ρ:Rho),(ρ[3]?).join=some (.val (.tup [.int c,ofR (sortT Rb)]))->ev cl (.idx (.bor 3) (.cst (.int 1))) ρ=some (ofR (sortT Rb)):=λρ h=>(dY (by rw [ev,h];rfl) (jv _ _ _)).trans rfl
 refine⟨[aK,k1,k0,aT,l1,t1,l0,t0],_,ofR (sortT Rb),p6,.skip (.skip (.skip (.val (l3 (ac.refl _)) (.skip (.skip (.skip (.skip (.skip (.skip (.skip (.skip (.skip (.skip (.skip (.skip (.skip .nil)))))))))))))))),ei _ rfl,λv0 H7 g7 rv0=>?_⟩
 have p7:∀b∈[aK,k1,k0,aT,l1,t1,l0,t0],H7 b≠none:=λb hb w=>p6 b hb (g7.free w)
 refine⟨[aK,k1,k0,aT,l1,t1,l0,t0],_,ofR (sortT Rb),p7,.skip (.skip (.skip (.val (l3 g7) (.skip (.skip (.skip (.skip (.skip (.skip (.skip (.skip (.skip (.skip (.skip (.skip (.skip .nil)))))))))))))))),ei _ rfl,λv1 H8 g8 rv1=>⟨by show 2<=sizeLine;decide,λaL haL=>?_⟩⟩
 have p8:∀b∈[aK,k1,k0,aT,l1,t1,l0,t0],H8 b≠none:=λb hb w=>p7 b hb (g8.free w)
 have d9:=c9 p8 haL d6
 have g9:ac H8 (upd H8 aL (.lst [v0,v1])):=aA haL _
 have eL:(upd H8 aL (.lst [v0,v1])) aL=some (.lst [v0,v1]):=ah
 generalize upd H8 aL (.lst [v0,v1])=H9 at g9 eL
 have p9:=up p8 g9 (by rw [eL];simp)
 refine⟨by decide,λaH haH=>?_⟩
 have d10:=c9 p9 haH d9
 have g10:ac H9 (upd H9 aH (.lst [])):=aA haH _
 have eH:(upd H9 aH (.lst [])) aH=some (.lst []):=ah
 generalize upd H9 aH (.lst [])=H10 at g10 eH
 have p10:=up p9 g10 (by rw [eH];simp)
 refine⟨by decide,λaC haC=>?_⟩
 have d11:=c9 p10 haC d10
 have g11:ac H10 (upd H10 aC (.lst [])):=aA haC _
 have eC:(upd H10 aC (.lst [])) aC=some (.lst []):=ah
 generalize upd H10 aC (.lst [])=G at g11 eC
 have b9:ac H9 G:=g10.trans g11
 have b8:ac H8 G:=g9.trans b9
 have b6:ac H6 G:=g7.trans (g8.trans b8)
 have b5:ac H5 G:=g6.trans b6
 have b4:ac H4 G:=g5.trans b5
 have b3:ac H3 G:=g4.trans b4
 have b2:ac H2 G:=g3.trans b3
 have b1:ac H1 G:=s2.trans b2
 have bH:ac H G:=s1.trans b1
 have c8:∀{b:Addr},H8 b=none->H b=none:=λh=>sA.free (g7.free (g8.free h))
 have zz:(⟨aT,aK,aL,aH,aC,λb=>if b=true then t1 else t0,λb=>if b=true then l1 else l0,λb=>if b=true then k1 else k0⟩:Cl).m=[aK,k0,k1,aT,aL,aH,aC,t0,t1,l0,l1]:=rfl
 have fm:∀b∈[aK,k0,k1,aT,aL,aH,aC,t0,t1,l0,l1],H b=none:=λb hb=>by
  simp only [List.mem_cons,List.not_mem_nil,or_false]at hb
  rcases hb with rfl|rfl|rfl|rfl|rfl|rfl|rfl|rfl|rfl|rfl|rfl
  ·exact f6 _ (by simp)
  ·exact f6 _ (by simp)
  ·exact f6 _ (by simp)
  ·exact f6 _ (by simp)
  ·exact c8 haL
  ·exact c8 (g9.free haH)
  ·exact c8 (g9.free (g10.free haC))
  ·exact f6 _ (by simp)
  ·exact f6 _ (by simp)
  ·exact f6 _ (by simp)
  ·exact f6 _ (by simp)
 have SF:ac H (af G [aK,k0,k1,aT,aL,aH,aC,t0,t1,l0,l1]):=mS bH fm
 refine q ⟨aT,aK,aL,aH,aC,λb=>if b=true then t1 else t0,λb=>if b=true then l1 else l0,λb=>if b=true then k1 else k0⟩ G ⟨?_,λ_=>?_,?_,?_,b3 _ _ eT,λb=>?_,b6 _ _ eK,λb=>?_,⟨[v0,v1],b9 _ _ eL,?_⟩,⟨[],g11 _ _ eH,.nil⟩,⟨[],eC,.nil⟩⟩
 ·rw [zz]
  simp only [List.nodup_cons,List.mem_cons,List.not_mem_nil,not_or,or_false,List.nodup_nil,not_false_iff,and_true]at d11 ⊢
  grind
 ·rw [zz];exact SF.seq sc
 ·rw [zz];exact Rep.mono SF _ rb
 ·rw [zz];exact Rep.mono SF _ r3
 ·rw [zz]
  cases b with
  |false=>exact⟨⟨C,dx0,gs0,b1 _ _ et0,ob0 _ SF⟩,⟨[],b1 _ _ el0,.nil⟩,by simp,by simp,rfl,rfl,λw=>ne0 w.symm⟩
  |true=>exact⟨⟨C,dx1,gs1,b2 _ _ et1,ob1 _ SF⟩,⟨[],b2 _ _ el1,.nil⟩,by simp,by simp,rfl,rfl,λw=>ne1 w.symm⟩
 ·cases b with
  |false=>exact b4 _ _ ek0
  |true=>exact b5 _ _ ek1
 ·rw [zz]
  have v:ac (af H7 [aK,k1,k0,aT,l1,t1,l0,t0]) (af G [aK,k0,k1,aT,aL,aH,aC,t0,t1,l0,l1]):=aQ (g8.trans b8) λb hb=>by
   simp only [List.mem_cons,List.not_mem_nil,or_false]at hb ⊢
   rcases hb with rfl|rfl|rfl|rfl|rfl|rfl|rfl|rfl|rfl|rfl|rfl
   all_goals first|(exact .inr (g8.free haL))|(exact .inr (g8.free (g9.free haH)))|(exact .inr (g8.free (g9.free (g10.free haC))))|(refine .inl ?_;simp)
  have v':ac (af H8 [aK,k1,k0,aT,l1,t1,l0,t0]) (af G [aK,k0,k1,aT,aL,aH,aC,t0,t1,l0,l1]):=aQ b8 λb hb=>by
   simp only [List.mem_cons,List.not_mem_nil,or_false]at hb ⊢
   rcases hb with rfl|rfl|rfl|rfl|rfl|rfl|rfl|rfl|rfl|rfl|rfl
   all_goals first|(exact .inr haL)|(exact .inr (g9.free haH))|(exact .inr (g9.free (g10.free haC)))|(refine .inl ?_;simp)
  exact .cons (Rep.mono v _ rv0) (.cons (Rep.mono v' _ rv1) .nil)
end
theorem scL:h_ fO.names ["script"] (aj fR):=⟨rfl,rfl,rfl,by decide +kernel,rfl,by decide +kernel,by decide +kernel⟩
theorem pp(H:Hp):af H []=H:=by funext b;unfold af;rw [if_neg (by simp)]
theorem wU {P:Program}{w:World}{K:PySem.W.Frag}{mg:Str->Option Value}{base:Heap}{fa:Addr}{fd:FuncData} (pr:jn tab K mg defs) (D:FnD K "law" "law" fR fa fd):bW P w K mg base CX0 40 fa fd ["script"] (pi K):=by
 obtain⟨c0,d0,k0,o0,m0,a0,cdv,t1,a1,sl,lk,hcd,rfl⟩:=D.it
 refine kj lk hcd scL (λvs H Q E h=>?_) (λA outer s H vs Q E hr h=>?_)
 ·obtain⟨a,ns,rfl,_⟩:=h
  rfl
 ·obtain⟨a,ns,rfl,hl,hS,hq⟩:=h
  have g:=wR (X:=(ia CX0 P w K mg base fO.names "law" (aj fR) fa cdv A outer s H E).nox) (n:=39) dl pr rfl rfl rfl rfl rfl rfl hr
  have df:Df (ia CX0 P w K mg base fO.names "law" (aj fR) fa cdv A outer s H E).nox:=⟨scL.nd,λ_=>rfl,PassesOwn.never,by
   have hk:(ia CX0 P w K mg base fO.names "law" (aj fR) fa cdv A outer s H E).nox.env.scope.kind=.function:=scL.kind
   unfold Env.blockKind
   rw [hk]
   rfl⟩
  have l:Lx (ia CX0 P w K mg base fO.names "law" (aj fR) fa cdv A outer s H E).nox:=⟨rfl,rfl,df,g⟩
  have hL:LxL (ia CX0 P w K mg base fO.names "law" (aj fR) fa cdv A outer s H E).nox:=by
   obtain⟨l2,st2,fa2,fd2,el,D2,bd⟩:=pr.defs.get (f:=18) (d:=a8) rfl
   rcases D2.named with ⟨_,nd⟩|⟨m,em,_⟩
   ·exact⟨fa2,fd2,_,nd,D2.fn.kp,D2.binds,wS (n:=36) pr D2⟩
   ·cases em
  obtain⟨C,hC,p3⟩:=s3 l
  refine⟨_,(show PSs _ (bK fR) _ from DH ▸ aN (s0 l) (aN (s1 l) (aN (s2 l) (aN p3 (aN (s4 l) (aN (s5 l) (aN (s6 l) (aN (s7 l) (aN (s8 l (E2 l hL hC)) (s9 l)))))))))).nox,?_⟩
  have ec:=wu 38 (.brw (ns.map .int)) ns 0 rfl (by decide)
  have q0:0<=cellOf ns 0 % 60:=Int.emod_nonneg _ (by decide)
  have q1:cellOf ns 0 % 60<60:=Int.emod_lt_of_pos _ (by decide)
  generalize cellOf ns 0=cc at ec q0 q1
  obtain⟨Rb,er,hR,hRl⟩:=yT 36 ns (1+cc % 60) (by omega) (by omega)
  have lm:Lm (1+cc % 60) Rb:=⟨by omega,by omega,hR,hRl⟩
  have hst:fA (Rb.map ofS)=some (.lst ((sortT Rb).map ofS)):=jq (by omega)
  obtain⟨c,hc⟩:∃c,c=1+cc % 60:=⟨_,rfl⟩
  rw [<- hc]at er lm
  refine⟨[],[some (.brw (ns.map .int)),none,none,none,none,none,none,none,none,none,none,none,none,none,none,none,none],.int c,(λa ha=>by cases ha),.brw hS (Reps.of_ints ns) (.skip (.skip (.skip (.skip (.skip (.skip (.skip (.skip (.skip (.skip (.skip (.skip (.skip (.skip (.skip (.skip .nil)))))))))))))))),?_,λu H1 s1 r1=>?_⟩
  ·rw [hc]
   exact(gh (jv _ _ _) ((gh (bi (vs:=[.brw (ns.map .int),.val (.int 0)]) (gJ rfl rfl) ec) (jv _ _ _)).trans rfl)).trans rfl
  rw [Rep]at r1
  subst r1
  refine⟨[],[some (.brw (ns.map .int)),some (.val (.int c)),none,none,none,none,none,none,none,none,none,none,none,none,none,none,none],.lst (Rb.map ofS),(λa ha=>by cases ha),.brw (s1.seq hS) (Reps.of_ints ns) (.val (by rw [Rep]) (.skip (.skip (.skip (.skip (.skip (.skip (.skip (.skip (.skip (.skip (.skip (.skip (.skip (.skip (.skip .nil)))))))))))))))),bi (vs:=[.brw (ns.map .int),.val (.int c)]) (gJ rfl (gJ rfl rfl)) er,λu2 H2 s2 rb=>?_⟩
  have hS2:=(s1.trans s2).seq hS
  refine⟨[],[some (.brw (ns.map .int)),some (.val (.int c)),some (.val (.lst (Rb.map ofS))),none,none,none,none,none,none,none,none,none,none,none,none,none,none],.tup [.int c,ofR (sortT Rb)],(λa ha=>by cases ha),.brw hS2 (Reps.of_ints ns) (.val (by rw [Rep]) (.val rb (.skip (.skip (.skip (.skip (.skip (.skip (.skip (.skip (.skip (.skip (.skip (.skip (.skip (.skip .nil)))))))))))))))),?_,λu3 H3 s3 r3=>?_⟩
  ·refine rJ (de rfl (de (v:=ofR (sortT Rb)) ?_ rfl))
   rw [bN (v:=.lst ((sortT Rb).map ofS)) (by
    rw [bN (v:=.lst (Rb.map ofS)) rfl]
    exact hst)]
   rfl
  rw [pp]at r3
  have rb3:=Rep.mono (ag s3) _ rb
  rw [pp]at rb3
  refine BO hC (s3.seq hS2) rb3 r3 λz H4 j=>?_
  refine yX hC lm j (λ_=>rfl) rfl λz' x' hv' a0' ns' H' r0 r1 r2 r3 r4 r5 r6 r7 j' _ hl' hh'=>?_
  refine⟨H',[],z'.o,_,(j'.view (.skip (.skip (.skip (.skip (.skip (.skip (.skip (.skip .nil))))))))).st j'.hereo,?_⟩
  rw [yY rfl rfl rfl hl' hh']
  intro u H5 _ r5
  rw [Rep]at r5
  subst r5
  exact hq H5
theorem yZ{K:PySem.W.Frag}{H:Hp}{a:Addr}{ns:List Int}{E:XK}(hl:ns.length<=63)(hS:SqL K H a (ns.map V.int)):pi K [.ref a] H (λv _=>v=.bl true) E:=⟨a,ns,rfl,hl,hS,λ_=>rfl⟩
end
theorem BP {l:PySem.W.OpenLaw}{w:World}{K:PySem.W.Frag}{h:Heap}{mg:Str->Option Value}{fa:Addr} (X:K.In h) (G:h.Ns mainGlobals mg) (hfa:mg "law"=some (.ref fa))
  {C fI:Addr}{fdI:FuncData} (aC:PySem.W.nsIn K mainGlobals "Table"=some (some (.ref C))) (pg:PySem.W.plainGet K C Str.empty=true) (hd:PySem.W.hasDictIn K C=true) (po:PySem.W.plainOver K C=true) (sa:PySem.W.findIn K (.ref C) "__setattr__"=some (some (.builtin "object.__setattr__"))) (mk:PySem.W.makesIn K C=true) (kc:PySem.W.keepIn K (.ref C)=true)
  (n0:PySem.W.findIn K (.ref C) "hole_count"=some none) (n1:PySem.W.findIn K (.ref C) "ribbons"=some none) (n2:PySem.W.findIn K (.ref C) "opener"=some none) (n3:PySem.W.findIn K (.ref C) "taken"=some none)
  (ai:PySem.W.findIn K (.ref C) "__init__"=some (some (.ref fI))) (ii:PySem.W.isFn K (.ref fI)=true) (DI:FnD K "__init__" "Table.__init__" wN fI fdI) (bI:a9 K fdI ["self","loom","first"] []) (bL:∃vs,a9 K fdI ["self","loom","first"] vs/\aw ([Sc.str "weaver"].map Sc.v) vs)
  (h0:HD K "is_number_below" (top 7) bq) (h1:HD K "strip_without" (top 8) dc) (h2:HD K "knotted" (top 9) jt) (h3:HD K "bitten" (top 10) lA) (h4:HD K "is_whole" (top 11) g_) (h5:HD K "is_bare" (top 12) ju) (h6:HD K "other_hand" (top 14) fF) (h7:HD K "behind" (top 15) lC) (h8:HD K "_law_cell" (top 19) fG) (h9:HD K "_law_mixed" (top 20) gb) (h10:HD K "_law_strip" (top 21) eJ) (h11:HD K "_law_whole" (top 22) eM) (h12:HD K "_law_numbers" (top 23) eU) (h13:HD K "_law_taken_by" (top 24) dX) (h14:HD K "_law_left" (top 25) fH) (h15:HD K "_law_won" (top 26) fu) (h16:HD K "_law_free" (top 27) hV) (h17:HD K "_law_grown" (top 28) gc) (h18:HD K "_law_lists" (top 29) a8) (h19:HD K "_law_dues" (top 30) hW) (h20:HD K "_law_right" (top 31) gf) (h21:HM K C "hand_at" "Table.hand_at" (cU (top 17) 1) bO) (h22:HM K C "holes_taken_by" "Table.holes_taken_by" (cU (top 17) 2) aW) (h23:HM K C "deeds" "Table.deeds" (cU (top 17) 4) bP) (h24:HM K C "knots" "Table.knots" (cU (top 17) 5) bQ) (h25:HM K C "bites" "Table.bites" (cU (top 17) 6) bR) (h26:HM K C "free" "Table.free" (cU (top 17) 7) cG) (h27:HM K C "rest" "Table.rest" (cU (top 17) 8) dz) (h28:HM K C "winner" "Table.winner" (cU (top 17) 9) bD) (h29:HM K C "take" "Table.take" (cU (top 17) 10) dA) (hL:HD K "law" (top 32) fO λfd=>∀(s:Shared) (v:Value),BindsTo s fd ⟨[v],[]⟩ [("script",v)])
  (zs:∀x∈fg,PySem.W.nsIn K mainGlobals x=some none)
 :∃fd:FuncData,(∀(s:Shared) (v:Value),BindsTo s fd ⟨[v],[]⟩ [("script",v)])/\∀base:Heap,K.In base->base.Ns mainGlobals mg->bW l.prog w K mg base CX0 40 fa fd ["script"] (pi K):=by
 obtain⟨_,e0,D0,q0⟩:=bv (T:=tab) X G h0 (by kernel_rfl)
 obtain⟨_,e1,D1,q1⟩:=bv (T:=tab) X G h1 (by kernel_rfl)
 obtain⟨_,e2,D2,q2⟩:=bv (T:=tab) X G h2 (by kernel_rfl)
 obtain⟨_,e3,D3,q3⟩:=bv (T:=tab) X G h3 (by kernel_rfl)
 obtain⟨_,e4,D4,q4⟩:=bv (T:=tab) X G h4 (by kernel_rfl)
 obtain⟨_,e5,D5,q5⟩:=bv (T:=tab) X G h5 (by kernel_rfl)
 obtain⟨_,e6,D6,q6⟩:=bv (T:=tab) X G h6 (by kernel_rfl)
 obtain⟨_,e7,D7,q7⟩:=bv (T:=tab) X G h7 (by kernel_rfl)
 obtain⟨_,e8,D8,q8⟩:=bv (T:=tab) X G h8 (by kernel_rfl)
 obtain⟨_,e9,D9,q9⟩:=bv (T:=tab) X G h9 (by kernel_rfl)
 obtain⟨_,e10,D10,q10⟩:=bv (T:=tab) X G h10 (by kernel_rfl)
 obtain⟨_,e11,D11,q11⟩:=bv (T:=tab) X G h11 (by kernel_rfl)
 obtain⟨_,e12,D12,q12⟩:=bv (T:=tab) X G h12 (by kernel_rfl)
 obtain⟨_,e13,D13,q13⟩:=bv (T:=tab) X G h13 (by kernel_rfl)
 obtain⟨_,e14,D14,q14⟩:=bv (T:=tab) X G h14 (by kernel_rfl)
 obtain⟨_,e15,D15,q15⟩:=bv (T:=tab) X G h15 (by kernel_rfl)
 obtain⟨_,e16,D16,q16⟩:=bv (T:=tab) X G h16 (by kernel_rfl)
 obtain⟨_,e17,D17,q17⟩:=bv (T:=tab) X G h17 (by kernel_rfl)
 obtain⟨_,e18,D18,q18⟩:=bv (T:=tab) X G h18 (by kernel_rfl)
 obtain⟨_,e19,D19,q19⟩:=bv (T:=tab) X G h19 (by kernel_rfl)
 obtain⟨_,e20,D20,q20⟩:=bv (T:=tab) X G h20 (by kernel_rfl)
 obtain⟨_,e21,D21⟩:=dy (T:=tab) (mg:=mg) aC h21 (by kernel_rfl)
 obtain⟨_,e22,D22⟩:=dy (T:=tab) (mg:=mg) aC h22 (by kernel_rfl)
 obtain⟨_,e23,D23⟩:=dy (T:=tab) (mg:=mg) aC h23 (by kernel_rfl)
 obtain⟨_,e24,D24⟩:=dy (T:=tab) (mg:=mg) aC h24 (by kernel_rfl)
 obtain⟨_,e25,D25⟩:=dy (T:=tab) (mg:=mg) aC h25 (by kernel_rfl)
 obtain⟨_,e26,D26⟩:=dy (T:=tab) (mg:=mg) aC h26 (by kernel_rfl)
 obtain⟨_,e27,D27⟩:=dy (T:=tab) (mg:=mg) aC h27 (by kernel_rfl)
 obtain⟨_,e28,D28⟩:=dy (T:=tab) (mg:=mg) aC h28 (by kernel_rfl)
 obtain⟨_,e29,D29⟩:=dy (T:=tab) (mg:=mg) aC h29 (by kernel_rfl)
 obtain⟨_,fL,fdL,aL,DL,_,qL⟩:=hL
 cases hfa.symm.trans (PySem.W.mg_of X G aL)
 have pr:jn tab K mg defs:=by
  refine⟨rfl,rfl,λC' h'=>Bh aC ⟨⟨pg,hd,po,sa⟩,λx hx=>zk n0 n1 n2 x hx,n3⟩ h',⟨C,aC,PySem.W.mg_of X G aC,fI,fdI,_,⟨mk,ai,ii,kc⟩,bI,λP w base=>yU DI ⟨⟨pg,hd,po,sa⟩,λx hx=>zk n0 n1 n2 x hx,n3⟩,bL⟩,⟨⟨_,_,_,D0,_,D0.binds,.nil⟩,⟨_,_,_,D1,_,D1.binds,.nil⟩,⟨_,_,_,D2,_,D2.binds,.nil⟩,⟨_,_,_,D3,_,D3.binds,.nil⟩,⟨_,_,_,D4,_,D4.binds,.nil⟩,⟨_,_,_,D5,_,D5.binds,.nil⟩,⟨_,_,_,D6,_,D6.binds,.nil⟩,⟨_,_,_,D7,_,D7.binds,.nil⟩,⟨_,_,_,D8,_,D8.binds,.nil⟩,⟨_,_,_,D9,_,D9.binds,.nil⟩,⟨_,_,_,D10,_,D10.binds,.nil⟩,⟨_,_,_,D11,_,D11.binds,.nil⟩,⟨_,_,_,D12,_,D12.binds,.nil⟩,⟨_,_,_,D13,_,D13.binds,.nil⟩,⟨_,_,_,D14,_,D14.binds,.nil⟩,⟨_,_,_,D15,_,D15.binds,.nil⟩,⟨_,_,_,D16,_,D16.binds,.nil⟩,⟨_,_,_,D17,_,D17.binds,.nil⟩,⟨_,_,_,D18,_,D18.binds,.nil⟩,⟨_,_,_,D19,_,D19.binds,.nil⟩,⟨_,_,_,D20,_,D20.binds,.nil⟩,⟨_,_,_,D21,_,D21.binds,.nil⟩,⟨_,_,_,D22,_,D22.binds,.nil⟩,⟨_,_,_,D23,_,D23.binds,.nil⟩,⟨_,_,_,D24,_,D24.binds,.nil⟩,⟨_,_,_,D25,_,D25.binds,.nil⟩,⟨_,_,_,D26,_,D26.binds,.nil⟩,⟨_,_,_,D27,_,D27.binds,.nil⟩,⟨_,_,_,D28,_,D28.binds,.nil⟩,⟨_,_,_,D29,_,D29.binds,.nil⟩,trivial⟩,λx hx=>PySem.W.mg_none_of X G (zs x hx),λp hp=>?_⟩
  ·simp [tab]at hp
 exact⟨fdL,qL,λbase _ _=>wU pr DL⟩
theorem E3{l:PySem.W.OpenLaw}{q:Program}{loose:List Str}{XP:(Str->Option Value)->Heap->Prop}{YP:World->Heap->Prop}{d:DefRec}{K:Params->PySem.W.Frag}(hn:l.most=some 63)(hdf:d.params.defaults=[])
  (hY:∀(w:World) (h:Heap),YP w h->(K w.params).In h)
  (F:∀(w:World) (mg:Str->Option Value) (fa:Addr) (h:Heap),(K w.params).In h->h.Ns mainGlobals mg->mg d.name=some (.ref fa) ->
   ∃fd:FuncData,(∀(s:Shared) (u:Value),BindsTo s fd ⟨[u],[]⟩ [("script",u)])/\∀base:Heap,(K w.params).In base->base.Ns mainGlobals mg->bW l.prog w (K w.params) mg base CX0 40 fa fd ["script"] (pi (K w.params))) :
  PySem.W.WalkO q loose XP YP l.row.toRowW d [] (λf vs=>PySem.call f vs) :=
 L2.xA (n:=63) (k:=40) (x:="script") (CX:=λ_=>CX0) (sp:=λw=>pi (K w.params)) hn (by decide) hdf ⟨rfl,by decide,by decide⟩ hY F (λ_ _ a ns hl _ hS=>yZ hl hS) λ_ _ _ _ _ z=>z
end My
open PySem PySem.W PyProof.Rows
set_option maxRecDepth 100000 in
set_option maxHeartbeats 0 in
theorem PySem.Challenge.cw_mothloom_k47_two_tables_holds : PySem.Challenge.rw_mothloom_k47_two_tables.Holds := by
 w_on;o_law;k_head;(case hw=>w_witness2)
 k_fill
 refine My.E3 (l:=PySem.Challenge.rw_mothloom_k47_two_tables) rfl rfl (λw h Y=>PySem.W.kIn_of Y) ?F
 case F =>
  intro w mg fa h KX G hmg
  refine' My.BP KX G hmg ?aC ?pg ?hd ?po ?sa ?mk ?kc ?n0 ?n1 ?n2 ?n3 ?ai ?ii ?DI ?bI ?bL ?h0 ?h1 ?h2 ?h3 ?h4 ?h5 ?h6 ?h7 ?h8 ?h9 ?h10 ?h11 ?h12 ?h13 ?h14 ?h15 ?h16 ?h17 ?h18 ?h19 ?h20 ?h21 ?h22 ?h23 ?h24 ?h25 ?h26 ?h27 ?h28 ?h29 ?hL ?zs
  (case aC=>k_is)
  (case pg=>k_is)
  (case hd=>k_is)
  (case po=>k_is)
  (case sa=>k_is)
  (case mk=>k_is)
  (case kc=>k_is)
  (case n0=>k_is)
  (case n1=>k_is)
  (case n2=>k_is)
  (case n3=>k_is)
  (case ai=>k_is)
  (case ii=>k_is)
  (case DI=>refine' .mkd ?kl ?kc ?kk;(case kl=>k_is);(case kc=>k_is);(case kk=>k_is))
  (case bI=>refine' MM.ql rfl ?kx ?ky;(case kx=>k_is);(case ky=>exact λus hl=>match us,hl with|[_,_,_],_=>⟨_,rfl,rfl⟩))
  (case bL=>refine' MM.yu rfl ?ku ?kw;(case ku=>k_is);(case kw=>exact λus hl=>match us,hl with|[_,_],_=>⟨_,rfl,rfl⟩))
  (case hL=>refine' ⟨rfl,_,_,?ka,.mk' (d0:=.none) ?kl ?kc ?kk,MM.bn1 λ_=>rfl,λs v=>.of_eq rfl⟩;(case ka=>k_is);(case kl=>k_is);(case kc=>k_is);(case kk=>k_is))
  (case h0|h1|h2|h3|h8|h9|h12|h13|h16|h17|h20=>refine' ⟨rfl,_,_,?ka,.mk' (d0:=.none) ?kl ?kc ?kk,MM.bn2 λ_ _=>rfl,trivial⟩;(case ka=>k_is);(case kl=>k_is);(case kc=>k_is);(case kk=>k_is))
  (case h4|h5|h6|h11|h15|h18=>refine' ⟨rfl,_,_,?ka,.mk' (d0:=.none) ?kl ?kc ?kk,MM.bn1 λ_=>rfl,trivial⟩;(case ka=>k_is);(case kl=>k_is);(case kc=>k_is);(case kk=>k_is))
  (case h7|h10|h14|h19=>refine' ⟨rfl,_,_,?ka,.mk' (d0:=.none) ?kl ?kc ?kk,MM.bn3 λ_ _ _=>rfl,trivial⟩;(case ka=>k_is);(case kl=>k_is);(case kc=>k_is);(case kk=>k_is))
  (case h21=>refine' ⟨rfl,rfl,_,_,⟨?ka,?ki,?ku⟩,.mk' (d0:=.none) ?kl ?kc ?kk,MM.bn2 λ_ _=>rfl⟩;(case ka=>k_is);(case ki=>k_is);(case ku=>k_is);(case kl=>k_is);(case kc=>k_is);(case kk=>k_is))
  (case h22=>refine' ⟨rfl,rfl,_,_,⟨?ka,?ki,?ku⟩,.mk' (d0:=.none) ?kl ?kc ?kk,MM.bn2 λ_ _=>rfl⟩;(case ka=>k_is);(case ki=>k_is);(case ku=>k_is);(case kl=>k_is);(case kc=>k_is);(case kk=>k_is))
  (case h23=>refine' ⟨rfl,rfl,_,_,⟨?ka,?ki,?ku⟩,.mk' (d0:=.none) ?kl ?kc ?kk,MM.bn1 λ_=>rfl⟩;(case ka=>k_is);(case ki=>k_is);(case ku=>k_is);(case kl=>k_is);(case kc=>k_is);(case kk=>k_is))
  (case h24=>refine' ⟨rfl,rfl,_,_,⟨?ka,?ki,?ku⟩,.mk' (d0:=.none) ?kl ?kc ?kk,MM.bn1 λ_=>rfl⟩;(case ka=>k_is);(case ki=>k_is);(case ku=>k_is);(case kl=>k_is);(case kc=>k_is);(case kk=>k_is))
  (case h25=>refine' ⟨rfl,rfl,_,_,⟨?ka,?ki,?ku⟩,.mk' (d0:=.none) ?kl ?kc ?kk,MM.bn1 λ_=>rfl⟩;(case ka=>k_is);(case ki=>k_is);(case ku=>k_is);(case kl=>k_is);(case kc=>k_is);(case kk=>k_is))
  (case h26=>refine' ⟨rfl,rfl,_,_,⟨?ka,?ki,?ku⟩,.mk' (d0:=.none) ?kl ?kc ?kk,MM.bn1 λ_=>rfl⟩;(case ka=>k_is);(case ki=>k_is);(case ku=>k_is);(case kl=>k_is);(case kc=>k_is);(case kk=>k_is))
  (case h27=>refine' ⟨rfl,rfl,_,_,⟨?ka,?ki,?ku⟩,.mk' (d0:=.none) ?kl ?kc ?kk,MM.bn1 λ_=>rfl⟩;(case ka=>k_is);(case ki=>k_is);(case ku=>k_is);(case kl=>k_is);(case kc=>k_is);(case kk=>k_is))
  (case h28=>refine' ⟨rfl,rfl,_,_,⟨?ka,?ki,?ku⟩,.mk' (d0:=.none) ?kl ?kc ?kk,MM.bn1 λ_=>rfl⟩;(case ka=>k_is);(case ki=>k_is);(case ku=>k_is);(case kl=>k_is);(case kc=>k_is);(case kk=>k_is))
  (case h29=>refine' ⟨rfl,rfl,_,_,⟨?ka,?ki,?ku⟩,.mk' (d0:=.none) ?kl ?kc ?kk,MM.bn2 λ_ _=>rfl⟩;(case ka=>k_is);(case ki=>k_is);(case ku=>k_is);(case kl=>k_is);(case kc=>k_is);(case kk=>k_is))
  (case zs=>intro x hx;simp only [MM.fg,List.mem_cons,List.not_mem_nil,or_false]at hx;rcases hx with rfl|rfl|rfl|rfl|rfl|rfl|rfl|rfl|rfl|rfl|rfl|rfl|rfl|rfl|rfl|rfl|rfl<;>k_is)
