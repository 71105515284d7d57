import PyProof.Rows.All
import Wide.All
import OpenK.AllK
import Wide.FinOn
import Lean
import PyProof.EqAt
import PyProof.EqKinds
import PyProof.TupleCall
import PyProof.ZipIter
import KE.KIntText
import PySem.Challenge.RW_mothloom_k69_papers_read
set_option Elab.async false
set_option linter.all false
set_option maxRecDepth 100000
set_option genSizeOf false
set_option backward.eqns.nonrecursive false
set_option bootstrap.genMatcherCode false
namespace L2
open PySem PySem.Spec PyProof.Rows List Option
noncomputable abbrev Key:=Sum Int Str
noncomputable def lA:Key->Value->Bool
 | .inl k,v=>Value.isInt k v
 | .inr x,v=>Value.isStrOf x v
noncomputable def Dr(w:World):Key->Int
 | .inl k=>hashInt k
 | .inr x=>hashStr w x
theorem bp:∀{k:Key}{v:Value},lA k v=true->(∃i t,k=Sum.inl i/\v=Value.int i t)\/(∃x t,k=Sum.inr x/\v=Value.str x t)
 | .inl i,v,h=>by
  obtain⟨t,e⟩:=Value.isInt_shape (k:=i) (v:=v) h;exact .inl ⟨i,t,rfl,e⟩
 | .inr x,v,h=>by
  obtain⟨t,e⟩:=Value.isStrOf_shape (x:=x) (v:=v) h;exact .inr ⟨x,t,rfl,e⟩
theorem rN(i:Int)(t:Tok):lA (.inl i) (.int i t)=true:=by simp[lA,Value.isInt]
theorem rO(x:Str)(t:Tok):lA (.inr x) (.str x t)=true:=by simp[lA,Value.isStrOf]
theorem yF(a b:Int):decide ((Sum.inl a:Key)=Sum.inl b)=(a==b):=by
 by_cases e:a=b
 ·subst e;simp
 ·have h:¬ (Sum.inl a:Key)=Sum.inl b:=λq=>e (Sum.inl.inj q)
  rw[decide_eq_false h];exact(beq_eq_false_iff_ne.mpr e).symm
theorem yG(a b:Str):decide ((Sum.inr a:Key)=Sum.inr b)=decide (a=b):=by
 by_cases e:a=b
 ·subst e;simp
 ·have h:¬ (Sum.inr a:Key)=Sum.inr b:=λq=>e (Sum.inr.inj q)
  rw[decide_eq_false h,decide_eq_false e]
theorem yH(a:Int)(b:Str):decide ((Sum.inl a:Key)=Sum.inr b)=false:=decide_eq_false (λq=>nomatch q)
theorem yI(a:Str)(b:Int):decide ((Sum.inr a:Key)=Sum.inl b)=false:=decide_eq_false (λq=>nomatch q)
noncomputable def dr(prog:Program)(w:World):PySem.KeyKind prog w Key where
 is:=lA
 hash:=Dr w
 inj:=λv a b J D=>by
  rcases bp J with ⟨i,t,rfl,rfl⟩|⟨x,t,rfl,rfl⟩
  ·rcases bp D with ⟨j,u,rfl,e⟩|⟨y,u,rfl,e⟩
   ·injection e with q _;rw[q]
   ·exact nomatch e
  ·rcases bp D with ⟨j,u,rfl,e⟩|⟨y,u,rfl,e⟩
   ·exact nomatch e
   ·injection e with q _;rw[q]
 byValue:=λk v h=>by
  rcases bp h with ⟨i,t,rfl,rfl⟩|⟨x,t,rfl,rfl⟩<;>rfl
 pyHash:=λz h=>by
  rcases bp z with ⟨i,t,rfl,rfl⟩|⟨x,t,rfl,rfl⟩
  ·exact wpAny_pyHash_int h
  ·exact wpAny_pyHash_str h
 eqBool:=λU z h=>by
  rcases bp U with ⟨i,t,rfl,rfl⟩|⟨x,t,rfl,rfl⟩
  ·rcases bp z with ⟨j,u,rfl,rfl⟩|⟨y,u,rfl,rfl⟩
   ·rw[yF]at h;exact wpAny_eqBool_int h
   ·rw[yH]at h;exact SeqAt.EqAt.int_str i t y u _ _ _ _ h
  ·rcases bp z with ⟨j,u,rfl,rfl⟩|⟨y,u,rfl,rfl⟩
   ·rw[yI]at h;exact SeqAt.EqAt.str_int x t j u _ _ _ _ h
   ·rw[yG]at h;exact wpAny_eqBool_str h
 «strs»:=λk x t v h=>by
  rcases bp h with ⟨i,u,rfl,e⟩|⟨y,u,rfl,e⟩
  ·exact nomatch e
  ·injection e with q _
   subst q;cases v<;>rfl
theorem nt(prog:Program)(w:World)(i:Int)(t:Tok):(dr prog w).is (.inl i) (.int i t)=true:=rN i t
theorem nu(prog:Program)(w:World)(x:Str)(t:Tok):(dr prog w).is (.inr x) (.str x t)=true:=rO x t
inductive V where
 | non|bl (b:Bool)|int (i:Int)|str (x:Str)|byt (b:Array UInt8)|flt (b:UInt64)|ref (a:Addr)|ty (n:String)
 deriving DecidableEq
noncomputable def aA:V->Value->Prop
 | .non,u=>u=Value.none
 | .bl b,u=>u=Value.bool b
 | .int i,u=>∃t,u=Value.int i t
 | .str x,u=>∃t,u=Value.str x t
 | .byt b,u=>∃t,u=Value.bytes b t
 | .flt b,u=>∃t,u=Value.float b t
 | .ref a,u=>u=Value.ref a
 | .ty n,u=>u=Value.type n
noncomputable abbrev ay:List V->List Value->Prop:=Paired aA
theorem ay.length{xs:List V}{us:List Value}(r:ay xs us):xs.length=us.length:=Paired.length r
theorem ay.get:∀{xs:List V}{us:List Value}{i:Nat}{x:V},ay xs us->xs[i]?=some x->∃u,us[i]?=some u/\aA x u
 | _,_,_,_,.nil,e=>by simp at e
 | _,_,0,_,.cons r _,e=>by simp at e;subst e;exact⟨_,rfl,r⟩
 | _,_,i+1,x,.cons _ t,e=>by
  obtain⟨u,h1,h2⟩:=ay.get (i:=i) (x:=x) t (by simpa using e);exact⟨u,by simpa using h1,h2⟩
theorem ay.append:∀{xs ys:List V}{us ws:List Value},ay xs us->ay ys ws->ay (xs++ys) (us++ws)
 | _,_,_,_,.nil,s=>s
 | _,_,_,_,.cons r t,s=>.cons r (ay.append t s)
theorem ay.take:∀{xs:List V}{us:List Value} (n:Nat),ay xs us->ay (xs.take n) (us.take n)
 | _,_,0,_=>.nil
 | _,_,_+1,.nil=>.nil
 | _,_,n+1,.cons r t=>.cons r (ay.take n t)
theorem ay.drop:∀{xs:List V}{us:List Value} (n:Nat),ay xs us->ay (xs.drop n) (us.drop n)
 | _,_,0,r=>r
 | _,_,_+1,.nil=>.nil
 | _,_,n+1,.cons _ t=>ay.drop n t
noncomputable def k9:Option V->Option Value->Prop
 |some v,some u=>aA v u
 |none,none=>True
 | _,_=>False
noncomputable def KV{κ:Type}:List (κ×V)->List (κ×Value)->Prop:=Paired λ(p:κ×V) (q:κ×Value)=>p.1=q.1/\aA p.2 q.2
noncomputable def kV:Key->V
 | .inl i=>.int i
 | .inr x=>.str x
inductive HO where
 | lst (xs:List V)
 | tup (xs:List V)
 | dK (kvs:List (Key×V))|dT (kvs:List (List Key×V))
 | set (S:Int->Bool) (n:Nat)
 | ins (C dx:Addr) (fs:List (Str×V))
 | own (x:Addr)
 | xd (fs:List (Str×V))
 | met (f x:Addr)
 | rng (lo hi:Int)
 | frz (o:Obj) (u:HO)
 | tbl (ps:Array Value)
 | ext (φ:Heap->Prop)
noncomputable abbrev Hp:=Addr->Option HO
noncomputable def upd(H:Hp)(a:Addr)(o:HO):Hp:=λb=>if b=a then some o else H b
theorem au{H:Hp}{a:Addr}{o:HO}:upd H a o a=some o:=by unfold upd;rw[if_pos rfl]
theorem az{H:Hp}{a b:Addr}{o:HO}(h:b≠a):upd H a o b=H b:=by unfold upd;rw[if_neg h]
theorem bb{H:Hp}{a b:Addr}{o:HO}(h:H a=some o)(h':H b=none):a≠b:=by
 intro e;subst e;rw[h]at h';cases h'
section
variable(P:Program)(w:World)
noncomputable def bU(H:Hp)(h:Heap)(a:Addr):HO->Prop
 | .lst xs=>xs.length<=sizeLine/\∃(its:List Value) (n:Nat),ay xs its/\h.get? a=some { cls:=.type "list",data:=.seq its.toArray n }
 | .tup xs=>xs.length<=sizeLine/\∃its:List Value,ay xs its/\IsTup h a its.toArray
 | .dK kvs=>kvs.length<=sizeLine/\(a==sysModules)=false/\∃vs,KV kvs vs/\h.DictOf (dr P w) a vs
 | .dT kvs=>kvs.length <= sizeLine/\(a==sysModules)=false/\∃ xs:List (List Key × Addr × Value),
   Paired (λ(p:List Key×V) (q:List Key×Addr×Value)=>p.1=q.1/\H q.2.1=some (.tup (p.1.map kV))/\aA p.2 q.2.2) kvs xs /\
   ∃o es ep,h.get? a=some o/\o.ExactDict/\o.data=.dict es ep/\es.toList=xs.map (entryOfKey (tupleKind (dr P w)))/\(xs.map (·.1)).Nodup
 | .set S n=>h.SetOf (intKind P w) a S n
 | .ins C dx fs=>H dx=some (.own a)/\fs.length <= 1000/\dx ≠ a/\h.get? a=some (PySem.W.instObj C dx) /\
   ∃mA,h.Ns1 dx mA/\(∀f,k9 (fs.lookup f) (mA f))/\PySem.Within mA (fs.map (·.1))
 | .own _=>∃o,h.get? a=some o
 | .xd fs=>∃mA,h.Ns1 a mA/\∀f,k9 (fs.lookup f) (mA f)
 | .rng lo hi=>∃t u v,h.get? a=some { cls:=.type "range",data:=.fields #[.int lo t,.int hi u,.int 1 v] }
 | .frz o u=>h.get? a=some o/\bU H h a u
 | .tbl ps=>h.get? a=some { cls:=.none,data:=.fields ps }
 | .met f x=>h.get? a=some (PySem.W.methodObj (.ref f) (.ref x))
 | .ext φ=>φ h/\(∃o,h.get? a=some o)/\∀h1 h2:Heap,φ h1->(∀o,h1.get? a=some o->h2.get? a=some o)->φ h2
noncomputable def HOk(H:Hp)(h:Heap):Prop:=∀a o,H a=some o->bU P w H h a o
end
section
variable{P:Program}{w:World}{H H':Hp}{h h':Heap}{a:Addr}{o:HO}
theorem bU.lt(x:bU P w H h a o):a<h.objs.size:=by
 cases o with
 |lst xs=>obtain⟨_,_,_,_,e⟩:=x;exact Heap.lt_size e
 |tup xs=>obtain⟨_,_,_,p⟩:=x;exact p.lt
 |dK kvs=>obtain⟨_,_,_,_,o,_,_,e,_⟩:=x;exact Heap.lt_size e
 |dT kvs=>obtain⟨_,_,_,_,o,_,_,e,_⟩:=x;exact Heap.lt_size e
 |set S n=>obtain⟨o,_,_,_,e,_⟩:=x;exact Heap.lt_size e
 |ins C dx fs=>obtain⟨_,_,_,e,_⟩:=x;exact Heap.lt_size e
 |own y=>obtain⟨_,e⟩:=x;exact Heap.lt_size e
 |xd fs=>obtain⟨_,⟨_,_,_,e,_⟩,_⟩:=x;exact Heap.lt_size e
 |rng lo hi=>obtain⟨_,_,_,e⟩:=x;exact Heap.lt_size e
 |frz q u=>obtain⟨e,_⟩:=x;exact Heap.lt_size e
 |tbl ps=>exact Heap.lt_size (show h.get? a=some _ from x)
 |met f y=>exact Heap.lt_size (show h.get? a=some _ from x)
 |ext z=>obtain⟨_,⟨_,e⟩,_⟩:=x;exact Heap.lt_size e
theorem Paired.mapP{α D:Type}{F G:α->D->Prop}:∀{q:List α}{z:List D},Paired F q z->(∀a b,F a b->G a b)->Paired G q z
 | _,_,.nil,_=>.nil
 | _,_,.cons r t,f=>.cons (f _ _ r) (Paired.mapP t f)
theorem bU.stay(x:bU P w H h a o)(k:∀b u,(b=a\/H b=some (.own a))->h.get? b=some u->h'.get? b=some u)
  (U:∀b,H b=some (.own a)->H' b=some (.own a)) (Y:∀b xs,H b=some (.tup xs)->H' b=some (.tup xs)):bU P w H' h' a o:=by
 induction o with
 |lst xs=>obtain⟨z,its,n,r,e⟩:=x;exact⟨z,its,n,r,k _ _ (.inl rfl) e⟩
 |tup xs=>obtain⟨z,its,r,D,e,c⟩:=x;exact⟨z,its,r,D,k _ _ (.inl rfl) e,c⟩
 |dK kvs=>obtain⟨z,y,vs,r,D,es,ep,e,c⟩:=x;exact⟨z,y,vs,r,D,es,ep,k _ _ (.inl rfl) e,c⟩
 |dT kvs =>
  obtain⟨z,y,xs,r,D,es,ep,e,c⟩:=x;exact⟨z,y,xs,Paired.mapP r λp q z=>⟨z.1,Y _ _ z.2.1,z.2.2⟩,D,es,ep,k _ _ (.inl rfl) e,c⟩
 |set S n=>obtain⟨D,es,ep,t,e,c⟩:=x;exact⟨D,es,ep,t,k _ _ (.inl rfl) e,c⟩
 |ins C dx fs =>
  obtain⟨d,z,ne,e,mA,⟨J,es,ep,Z,c⟩,r⟩:=x;exact⟨U _ d,z,ne,k _ _ (.inl rfl) e,mA,⟨J,es,ep,k _ _ (.inr d) Z,c⟩,r⟩
 |own y=>obtain⟨D,e⟩:=x;exact⟨D,k _ _ (.inl rfl) e⟩
 |xd fs=>obtain⟨mA,⟨J,es,ep,e,c⟩,r⟩:=x;exact⟨mA,⟨J,es,ep,k _ _ (.inl rfl) e,c⟩,r⟩
 |rng lo hi=>obtain⟨t,u,v,e⟩:=x;exact⟨t,u,v,k _ _ (.inl rfl) e⟩
 |frz D u ih=>obtain⟨e,q⟩:=x;exact⟨k _ _ (.inl rfl) e,ih q⟩
 |tbl ps =>
  have e:h.get? a=some { cls:=.none,data:=.fields ps }:=x;show h'.get? a=some { cls:=.none,data:=.fields ps };exact k a _ (.inl rfl) e
 |met f y =>
  have e:h.get? a=some (PySem.W.methodObj (.ref f) (.ref y)):=x;show h'.get? a=some (PySem.W.methodObj (.ref f) (.ref y));exact k a _ (.inl rfl) e
 |ext φ=>obtain⟨p,⟨o,e⟩,st⟩:=x;exact⟨st _ _ p λo q=>k _ _ (.inl rfl) q,⟨o,k _ _ (.inl rfl) e⟩,st⟩
theorem HOk.lt(x:HOk P w H h)(e:H a=some o):a<h.objs.size:=(x a o e).lt
theorem HOk.fresh(x:HOk P w H h)(e:h.objs.size<=a):H a=none:=by
 cases q:H a with
 |none=>rfl
 |some u=>exact absurd (Nat.lt_of_lt_of_le (x.lt q) e) (Nat.lt_irrefl _)
theorem HOk.kept(x:HOk P w H h)(k:∀b u,h.get? b=some u->h'.get? b=some u):HOk P w H h':=λa o e =>
 (x a o e).stay (λb u _ q=>k b u q) (λ_ q=>q) λ_ _ q=>q
theorem HOk.laid(x:HOk P w H h)(k:∀b u,h.get? b=some u->h'.get? b=some u)(J:h.objs.size<=a)(new:bU P w (upd H a o) h' a o):HOk P w (upd H a o) h':=λb u e=>by
 have z:=x.fresh J;by_cases D:b=a
 ·subst D;rw[au]at e;cases e;exact new
 ·rw[az D]at e;exact(x b u e).stay (λc v _ q=>k c v q) (λc q=>by rw[az (bb q z)];exact q) λc xs q=>by rw[az (bb q z)];exact q
end
noncomputable def Rd(H:Hp)(a:Addr)(u:HO):Prop:=H a=some u\/∃o,H a=some (.frz o u)
theorem Rd.ok{P:Program}{w:World}{H:Hp}{h:Heap}{a:Addr}{u:HO}(r:Rd H a u)(x:HOk P w H h):bU P w H h a u:=by
 rcases r with r|⟨o,r⟩
 ·exact x a u r
 ·obtain⟨_,q⟩:=x a _ r;exact q
noncomputable def Mut:Option HO->Prop
 |some (.lst _)=>True
 |some (.dK _)=>True
 |some (.dT _)=>True
 |some (.set _ _)=>True
 |some (.ins _ _ _)=>True
 |some (.ext _)=>True
 | _=>False
section
variable{P:Program}{w:World}{H:Hp}{h h':Heap}{x e:Addr}{o':HO}
theorem HOk.write(ok:HOk P w H h)(Y:Mut (H x))(he:e=x\/H e=some (.own x))(k:∀b u,b≠e->h.get? b=some u->h'.get? b=some u)(ao:∃u,h'.get? e=some u)
  (new:bU P w (upd H x o') h' x o'):HOk P w (upd H x o') h':=λb u q=>by
 have J:∀c y,H c=some (.own y)->c≠x:=λc y r z=>by subst z;rw[r]at Y;exact Y
 have U:∀c xs,H c=some (.tup xs)->c≠x:=λc xs r z=>by subst z;rw[r]at Y;exact Y
 by_cases Z:b=x
 ·subst Z;rw[au]at q;cases q;exact new
 ·rw[az Z]at q;by_cases D:b=e
  ·have q':H b=some (.own x):=by
    rcases he with z|z
    ·exact absurd (D.trans z) Z
    ·rw[D];exact z
   rw[q]at q';cases q'
   obtain⟨v,hv⟩:=ao;exact⟨v,by rw[D];exact hv⟩
  ·refine(ok b u q).stay (λc v hc r=>k c v ?_ r) (λc r=>by rw[az (J c b r)];exact r) λc xs r=>by rw[az (U c xs r)];exact r
   rcases hc with rfl|hc
   ·exact D
   ·rintro rfl;rcases he with z|z
    ·exact J c b hc z
    ·rw[hc]at z;cases z;exact Z rfl
end
structure Un(fs ex:List Addr)(H H':Hp)(h h':Heap):Prop where
 keep:∀b o,h.get? b=some o->H b=none->b∉fs->b∉ex->h'.get? b=some o
 slot:∀b o,h.get? b=some o->H b=none->b∈fs->b∉ex->∃sl,h'.get? b=some { o with slots:=sl }
 free:∀b o,h.get? b=some o->H b=none->b∉ex->H' b=none
 there:∀b o,h.get? b=some o->b∉ex->∃o',h'.get? b=some o'
 tups:∀b xs,H b=some (.tup xs)->H' b=some (.tup xs)
 frzs:∀b o u,H b=some (.frz o u)->H' b=some (.frz o u)
 tbls:∀b ps,H b=some (.tbl ps)->∃more,H' b=some (.tbl (ps++more))
section
variable{fs fs' ex ex':List Addr}{H H1 H2:Hp}{h h1 h2 h':Heap}{a x e:Addr}{o:HO}
theorem Un.any(u:Un fs ex H H1 h h1){b:Addr}{z:Obj}(q:h.get? b=some z)(n:H b=none)(hx:b∉ex):∃J,h1.get? b=some { z with slots:=J }:=by
 by_cases D:b∈fs
 ·exact u.slot b z q n D hx
 ·exact⟨z.slots,u.keep b z q n D hx⟩
theorem Un.kept(k:∀b u,h.get? b=some u->h'.get? b=some u):Un fs ex H H h h':=
 ⟨λb z q _ _ _=>k b z q,λb z q _ _ _=>⟨z.slots,k b z q⟩,λ_ _ _ n _=>n,λb z q _=>⟨z,k b z q⟩,λ_ _ q=>q,λ_ _ _ q=>q,λ_ ps q=>⟨#[],by rw[q];simp⟩⟩
theorem Un.refl:Un fs ex H H h h:=Un.kept λ_ _ q=>q
theorem Un.laid(k:∀b u,h.get? b=some u->h'.get? b=some u)(D:h.objs.size<=a)(z:H a=none):Un fs ex H (upd H a o) h h' where
 keep:=λb u q _ _ _=>k b u q
 slot:=λb u q _ _ _=>⟨u.slots,k b u q⟩
 free:=λb u q n _=>by rw[az (Nat.ne_of_lt (Nat.lt_of_lt_of_le (Heap.lt_size q) D))];exact n
 there:=λb u q _=>⟨u,k b u q⟩
 tups:=λb xs q=>by rw[az (bb q z)];exact q
 frzs:=λb u xs q=>by rw[az (bb q z)];exact q
 tbls:=λb ps q=>⟨#[],by rw[az (bb q z),q];simp⟩
theorem Un.write(J:Mut (H x))(he:e=x\/H e=some (.own x))(k:∀b u,b≠e->h.get? b=some u->h'.get? b=some u)(U:∃u,h'.get? e=some u):Un fs ex H (upd H x o) h h':=by
 have hx:∀b,H b=none->b≠x:=λb n z=>by subst z;rw[n]at J;exact J
 have Z:∀b,H b=none->b≠e:=λb n z=>by
  subst z;rcases he with r|r
  ·exact hx b n r
  ·rw[n]at r;cases r
 have Y:∀b u,H b=some u->¬ Mut (some u)->b≠x:=λb u q nm z=>by subst z;rw[q]at J;exact nm J
 refine⟨λb u q n _ _=>k b u (Z b n) q,λb u q n _ _=>⟨u.slots,k b u (Z b n) q⟩,λb u q n _=>by rw[az (hx b n)];exact n,λb u q _=>?_,
  λb xs q=>by rw[az (Y b _ q λz=>z)];exact q,λb u xs q=>by rw[az (Y b _ q λz=>z)];exact q,λb ps q=>⟨#[],by rw[az (Y b _ q λz=>z),q];simp⟩⟩
 by_cases D:b=e
 ·subst D;exact U
 ·exact⟨u,k b u D q⟩
end
noncomputable def trk(h:Heap)(H:Hp):List Addr:=(range h.objs.size).filter λa=>(H a).isSome
noncomputable def mi(h:Heap)(H:Hp):Heap:=PySem.W.hideAll h (trk h H)
theorem rP(h:Heap)(H:Hp):(mi h H).objs.size=h.objs.size:=PySem.W.hideAll_size _ _
theorem tu{h:Heap}{H:Hp}{b:Addr}{o:Obj}(e:h.get? b=some o)(n:H b=none):(mi h H).get? b=some o:=
 PySem.W.hideAll_get _ e λhm=>by
  have q:(H b).isSome=true:=(mem_filter.mp hm).2;rw[n]at q;simp at q
theorem v9{h:Heap}{H:Hp}{b:Addr}{o:Obj}(e:(mi h H).get? b=some o):h.get? b=some o/\H b=none:=by
 have e':h.get? b=some o:=PySem.W.of_hideAll (trk h H) e;refine⟨e',?_⟩;cases q:H b with
 |none=>rfl
 |some x =>
  have D:b∈trk h H:=mem_filter.mpr ⟨mem_range.mpr (Heap.lt_size e'),by simp[q]⟩;have z:(mi h H).get? b=none:=PySem.W.hideAll_none (trk h H) D;rw[z]at e;cases e
noncomputable def v_(g h:Heap)(L:Addr):List (Addr×Obj):=(range h.objs.size).filterMap λa=>if a=L\/(g.get? a).isSome=true then none else (h.get? a).map λo=>(a,o)
noncomputable def bR(g h:Heap)(L d:Addr):List (Addr×Obj):=(v_ g h L).filter λp=>decide (p.1≠d)
structure Mod(K:PySem.W.Frag)(mg:Str->Option Value)(base:Heap):Prop where
 kin:K.In base
 glob:base.Ns mainGlobals mg
 blt:∃mb,base.Ns builtinsNs mb/\∀x:Str,x ≠ "__name__"->mb x=bootBuiltins x
 nolimit:base.NoLimit
structure Cx where
 prog:Program
 w:World
 K:PySem.W.Frag
 mg:Str->Option Value
 base:Heap
 A:Around
 N:List Str
 s₀:Shared
 H₀:Hp
 env:Env
 outer:List Env
 stack:List Env
 ex:List Addr
 fn:Str->Bool
 calm:Bool
 pn:List (Addr×Obj)
 xe:Value->Shared->Prop
noncomputable def frs(l:List Env):List Addr:=l.filterMap (·.frame)
noncomputable abbrev Cx.fs(X:Cx):List Addr:=frs X.outer
noncomputable def Vis(sc:Scope)(x:Str):Prop:=sc.names.lookup x=some .local\/sc.names.lookup x=some .cell\/sc.names.lookup x=some .free
noncomputable def Loc(sc:Scope)(x:Str):Prop:=sc.names.lookup x=some .local\/sc.names.lookup x=some .cell
noncomputable def Ds(env:Env)(h:Heap)(m:Str->Option Value)(x:Str)(u:Value):Prop:=
 (env.kindOf x=some .local/\m x=some u)\/((env.kindOf x=some .cell\/env.kindOf x=some .free)/\∃c,env.cells.lookup x=some c/\h.IsCell c (some u))
structure Cx.Ok(X:Cx):Prop where
 mod:Mod X.K X.mg X.base
 kind:X.env.scope.kind=.function
 glob:X.env.globals=mainGlobals
 blt:X.env.builtins=builtinsNs
 above:X.s₀.heap.objs.size<=X.env.locals
 inj:∀x y c,X.env.cells.lookup x=some c->X.env.cells.lookup y=some c->x=y
 has:∀x,(X.env.kindOf x=some .cell\/X.env.kindOf x=some .free)->∃c,X.env.cells.lookup x=some c
 cab:∀x c,X.fn x=true->X.env.cells.lookup x=some c->X.s₀.heap.objs.size<=c
 hd:X.calm=true->X.A.handled=none
 frames:X.A.frames=some X.stack
 stk:X.stack=X.outer\/(X.stack=X.env::X.outer/\X.env.frame=some X.env.locals)
 exf:∀b∈X.ex,b≠X.env.locals/\∀x c,X.env.cells.lookup x=some c->c≠b
 bs:∀b o,X.base.get? b=some o->X.s₀.heap.get? b=some o/\X.H₀ b=none
 bsz:X.base.objs.size<=X.s₀.heap.objs.size
 noex:∀b o,X.base.get? b=some o->b∉X.ex
 exfs:∀b∈X.ex,b∉X.fs
 funs:X.s₀.heap.FunFrames X.base X.outer
 frf:∀b∈X.fs,X.H₀ b=none
structure Inv(X:Cx)(pins:List (Addr×Obj))(σ:List (Option V))(H:Hp)(s:Shared):Prop where
 ok:X.Ok
 os:s.os=X.s₀.os
 bare:AllBare s.gens
 base:Un X.fs X.ex X.H₀ H X.s₀.heap s.heap
 loc:∃m,s.heap.Ns X.env.locals m/\∀(i:Nat) (x:Str) (v:V),X.N[i]?=some x->σ[i]?=some (some v)->Vis X.env.scope x->∃u,aA v u/\Ds X.env s.heap m x u
 cell:∀x c,X.env.cells.lookup x=some c->∃v,s.heap.IsCell c v
 free:H X.env.locals=none
 freeC:∀x c,X.env.cells.lookup x=some c->H c=none
 pin:∀p∈X.pn++pins,s.heap.get? p.1=some p.2/\H p.1=none/\p.1≠X.env.locals/\p.1∉X.fs/\∀v,p.2.data≠.cell v
 hok:HOk X.prog X.w H s.heap
 len:σ.length=X.N.length
section
variable{X:Cx}{pins:List (Addr×Obj)}{σ:List (Option V)}{H H':Hp}{s:Shared}{h':Heap}
theorem Cx.Ok.nofr(ok:X.Ok){b:Addr}{o:Obj}(e:X.base.get? b=some o):b∉X.fs:=λq=>by
 have:=(ok.funs.mem q).1;rw[e]at this;cases this
theorem Inv.bs(I:Inv X pins σ H s):∀b o,X.base.get? b=some o->s.heap.get? b=some o/\H b=none:=λb o e =>
 ⟨I.base.keep b o (I.ok.bs b o e).1 (I.ok.bs b o e).2 (I.ok.nofr e) (I.ok.noex b o e),I.base.free b o (I.ok.bs b o e).1 (I.ok.bs b o e).2 (I.ok.noex b o e)⟩
theorem Inv.bk(I:Inv X pins σ H s):∀b o,X.base.get? b=some o->s.heap.get? b=some o:=λb o e=>(I.bs b o e).1
theorem Inv.mod(I:Inv X pins σ H s):Mod X.K X.mg X.base:=I.ok.mod
theorem Inv.kIn(I:Inv X pins σ H s):X.K.In s.heap:=I.ok.mod.kin.keeps I.bk
theorem Inv.lt(I:Inv X pins σ H s):X.env.locals<s.heap.objs.size:=let ⟨_,q,_⟩:=I.loc;q.lt
theorem Inv.sz(I:Inv X pins σ H s):X.s₀.heap.objs.size<=s.heap.objs.size:=Nat.le_trans I.ok.above (Nat.le_of_lt I.lt)
theorem Inv.nofs(I:Inv X pins σ H s){a:Addr}(h:s.heap.objs.size<=a):a∉X.fs:=λq=>by
 obtain⟨_,o,z,_⟩:=I.ok.funs.mem q;exact absurd (Nat.lt_of_lt_of_le (Heap.lt_size z) (Nat.le_trans I.sz h)) (Nat.lt_irrefl _)
theorem Inv.cne(I:Inv X pins σ H s):∀x c,X.env.cells.lookup x=some c->c≠X.env.locals:=λx c e z=>by
 obtain⟨v,o,J,hd⟩:=I.cell x c e;obtain⟨m,⟨o',es,ep,q,D,_⟩,_⟩:=I.loc;rw[z,q]at J;cases J;rw[D]at hd;cases hd
theorem Inv.funs(I:Inv X pins σ H s):s.heap.FunFrames X.base X.outer:=by
 have all:∀(l:List Env),(∀b∈frs l,b∈X.fs)->X.s₀.heap.FunFrames X.base l->s.heap.FunFrames X.base l:=by
  intro l
  induction l with
  |nil=>intro _ _;trivial
  |cons env r ih =>
   intro U Y;obtain⟨Z,⟨L,o,q,hn,ho,hd⟩,hr⟩:=Y;have D:L∈X.fs:=U L (by unfold frs;rw[filterMap_cons,q];exact mem_cons_self);obtain⟨sl,e⟩:=I.base.slot L o ho (I.ok.frf L D) D λz=>I.ok.exfs L z D
   exact⟨Z,⟨L,_,q,hn,e,hd⟩,ih (λb J=>U b (by unfold frs;rw[filterMap_cons,q];exact mem_cons_of_mem _ J)) hr⟩
 exact all X.outer (λ_ J=>J) I.ok.funs
theorem Inv.stack(I:Inv X pins σ H s):s.heap.FunFrames X.base X.stack:=by
 rcases I.ok.stk with e|⟨e,q⟩
 ·rw[e];exact I.funs
 ·rw[e];obtain⟨m,z,_⟩:=I.loc;refine .cons (by rw[I.ok.kind];decide) q z ?_ I.funs;exact Heap.get?_none_of_le (Nat.le_trans I.ok.bsz I.ok.above)
theorem Inv.stkSub(I:Inv X pins σ H s):∀b∈frs X.stack,b∈X.env.locals::X.fs:=λb q=>by
 rcases I.ok.stk with e|⟨e,z⟩
 ·rw[e]at q;exact mem_cons_of_mem _ q
 ·rw[e]at q;unfold frs at q;rw[filterMap_cons,z]at q;exact q
theorem Inv.stkFree(I:Inv X pins σ H s):∀b∈frs X.stack,H b=none:=λb q=>by
 rcases mem_cons.mp (I.stkSub b q) with e|q
 ·rw[e];exact I.free
 ·obtain⟨_,o,D,_⟩:=I.ok.funs.mem q;exact I.base.free b o D (I.ok.frf b q) λz=>I.ok.exfs b z q
theorem Inv.step{g':Array GenState}{t':Nat}{d':Drawn}{ch:List Addr}(I:Inv X pins σ H s)
  (D:∀b∈ch,(b∈X.ex\/X.s₀.heap.objs.size<=b)/\b≠X.env.locals/\(∀x c,X.env.cells.lookup x=some c->c≠b)/\∀p∈X.pn++pins,p.1≠b)
  (keep:∀b o,b≠X.env.locals->b∉X.fs->b∉ch->s.heap.get? b=some o->H b=none->h'.get? b=some o)
  (slot:∀b o,b≠X.env.locals->b∈X.fs->b∉ch->s.heap.get? b=some o->H b=none->∃sl,h'.get? b=some { o with slots:=sl }) (free:∀b o,b∉ch->s.heap.get? b=some o->H b=none->H' b=none)
  (there:∀b o,b∉ch->s.heap.get? b=some o->∃o',h'.get? b=some o')
  (tups:∀b xs,H b=some (.tup xs)->H' b=some (.tup xs)) (frzs:∀b o u,H b=some (.frz o u)->H' b=some (.frz o u)) (tbls:∀b ps,H b=some (.tbl ps)->∃aO,H' b=some (.tbl (ps++aO)))
  (ns:∀m,s.heap.Ns X.env.locals m->h'.Ns X.env.locals m) (hok:HOk X.prog X.w H' h') (hg:AllBare g') :
  Inv X pins σ H' { s with heap:=h',gens:=g',drawn:=d',toks:=t' }:=by
 have a0:∀b o,X.s₀.heap.get? b=some o->b≠X.env.locals:=λb o e=>Nat.ne_of_lt (Nat.lt_of_lt_of_le (Heap.lt_size e) I.ok.above)
 have Y:∀b o,X.s₀.heap.get? b=some o->b∉X.ex->b∉ch:=λb o e hx hb=>by
  rcases(D b hb).1 with z|z
  ·exact hx z
  ·exact absurd (Nat.lt_of_lt_of_le (Heap.lt_size e) z) (Nat.lt_irrefl _)
 have J:∀x c,X.env.cells.lookup x=some c->∀v,s.heap.IsCell c v->h'.IsCell c v:=λx c e v ⟨o,ho,hd⟩=>by
  have U:c∉ch:=λz=>(D c z).2.2.1 x c e rfl
  by_cases hc:c∈X.fs
  ·obtain⟨sl,q⟩:=slot c o (I.cne x c e) hc U ho (I.freeC x c e);exact⟨_,q,hd⟩
  ·exact⟨o,keep c o (I.cne x c e) hc U ho (I.freeC x c e),hd⟩
 refine⟨I.ok,I.os,hg,⟨λb o e n hb hx=>?_,λb o e n hb hx=>?_,λb o e n hx=>?_,λb o e hx=>?_,λb xs e=>tups b xs (I.base.tups b xs e),λb o xs e=>frzs b o xs (I.base.frzs b o xs e),λb ps e=>?_⟩,?_,λx c e=>?_,?_,λx c e=>?_,λp hp=>?_,hok,I.len⟩
 ·exact keep b o (a0 b o e) hb (Y b o e hx) (I.base.keep b o e n hb hx) (I.base.free b o e n hx)
 ·obtain⟨sl,Z⟩:=I.base.slot b o e n hb hx;obtain⟨a3,e2⟩:=slot b _ (a0 b o e) hb (Y b o e hx) Z (I.base.free b o e n hx);exact⟨a3,e2⟩
 ·obtain⟨o',Z⟩:=I.base.there b o e hx;exact free b o' (Y b o e hx) Z (I.base.free b o e n hx)
 ·obtain⟨o',Z⟩:=I.base.there b o e hx;exact there b o' (Y b o e hx) Z
 ·obtain⟨m1,Z⟩:=I.base.tbls b ps e;obtain⟨m2,e2⟩:=tbls b _ Z;exact⟨m1++m2,by rw[e2,Array.append_assoc]⟩
 ·obtain⟨m,hn,hl⟩:=I.loc;refine⟨m,ns m hn,λi x v Z e2 e3=>?_⟩;obtain⟨u,r,l⟩:=hl i x v Z e2 e3;refine⟨u,r,?_⟩;rcases l with l|⟨k,c,e,z⟩
  ·exact .inl l
  ·exact .inr ⟨k,c,e,J x c e _ z⟩
 ·obtain⟨v,z⟩:=I.cell x c e;exact⟨v,J x c e v z⟩
 ·obtain⟨m,⟨o,_,_,ho,_⟩,_⟩:=I.loc;exact free _ o (λz=>(D _ z).2.1 rfl) ho I.free
 ·obtain⟨v,o,ho,hd⟩:=I.cell x c e;exact free c o (λz=>(D c z).2.2.1 x c e rfl) ho (I.freeC x c e)
 ·obtain⟨e,n,ne,nf,d⟩:=I.pin p hp;have U:p.1∉ch:=λz=>(D p.1 z).2.2.2 p hp rfl
  exact⟨keep p.1 p.2 ne nf U e n,free p.1 p.2 U e n,ne,nf,d⟩
theorem Inv.un{t':Nat}(I:Inv X pins σ H s)(u:Un X.fs [] H H' s.heap h')(hok:HOk X.prog X.w H' h'):Inv X pins σ H' { s with heap:=h',toks:=t' }:=by
 obtain⟨m,⟨o,es,ep,Y,r⟩,_⟩:=id I.loc;obtain⟨sl,Z⟩:=u.any Y I.free (by simp);exact I.step (g':=s.gens) (d':=s.drawn) (ch:=[]) (λ_ z=>nomatch z) (λb o _ D _ e n=>u.keep b o e n D (by simp)) (λb o _ D _ e n=>u.slot b o e n D (by simp)) (λb o _ e n=>u.free b o e n (by simp)) (λb o _ e=>u.there b o e (by simp)) u.tups u.frzs u.tbls (λm' hm=>by
  obtain⟨o',J,U,q,r'⟩:=hm;rw[Y]at q;cases q
  exact⟨_,J,U,Z,r'⟩) hok I.bare
theorem Inv.call{g':Array GenState}{t':Nat}{d':Drawn}{ch:List Addr}(I:Inv X pins σ H s)(u:Un (frs X.stack) ch H H' s.heap h')(hok:HOk X.prog X.w H' h')(hg:AllBare g')
  (q:∀b∈ch,(b∈X.ex\/X.s₀.heap.objs.size<=b)/\b≠X.env.locals/\(∀x c,X.env.cells.lookup x=some c->c≠b)/\∀p∈X.pn++pins,p.1≠b) :
  Inv X pins σ H' { s with heap:=h',gens:=g',drawn:=d',toks:=t' }:=by
 obtain⟨m,⟨o,es,ep,Z,r⟩,_⟩:=id I.loc;obtain⟨sl,J⟩:=u.any Z I.free λz=>(q _ z).2.1 rfl
 exact I.step (ch:=ch) q (λb o J hb hc e n=>u.keep b o e n (λz=>(mem_cons.mp (I.stkSub b z)).elim J hb) hc) (λb o _ _ hc e n=>u.any e n hc) (λb o hc e n=>u.free b o e n hc) (λb o hc e=>u.there b o e hc) u.tups u.frzs u.tbls (λm' hm=>by
  obtain⟨o',U,Y,D,r'⟩:=hm;rw[Z]at D;cases D
  exact⟨_,U,Y,J,r'⟩) hok hg
theorem Inv.turned{t':Nat}{it:Addr}(I:Inv X pins σ H s)(k:∀b o,b≠it->s.heap.get? b=some o->h'.get? b=some o)(U:H it=none)(J:it≠X.env.locals)
  (h1:it∈X.ex\/X.s₀.heap.objs.size<=it) (h2:∀x c,X.env.cells.lookup x=some c->c≠it) (h3:∀p∈X.pn++pins,p.1≠it):Inv X pins σ H { s with heap:=h',toks:=t' }:=by
 have D:∀b u,H b=some u->b≠it:=λb u e z=>by rw[z,U]at e;cases e
 refine I.step (g':=s.gens) (d':=s.drawn) (ch:=[it]) (λb Y=>?_) (λb o _ _ hc e _=>k b o (λz=>hc (by simp[z])) e) (λb o _ _ hc e _=>⟨o.slots,k b o (λz=>hc (by simp[z])) e⟩) (λ_ _ _ _ n=>n)
  (λb o hc e=>⟨o,k b o (λz=>hc (by simp[z])) e⟩) (λ_ _ e=>e) (λ_ _ _ e=>e) (λb ps e=>⟨#[],by rw[e];simp⟩) (λm Z=>?_) (λb u e=>?_) I.bare
 ·have e:b=it:=by simpa using Y
  subst e;exact⟨h1,J,h2,h3⟩
 ·obtain⟨o,es,ep,ho,r⟩:=Z;exact⟨o,es,ep,k _ o (Ne.symm J) ho,r⟩
 ·refine(I.hok b u e).stay (λc v hc q=>k c v ?_ q) (λ_ q=>q) λ_ _ q=>q
  rcases hc with z|z
  ·rw[z];exact D b u e
  ·exact D c _ z
theorem Inv.tok(I:Inv X pins σ H s)(t:Nat):Inv X pins σ H { s with toks:=t }:=I.un (h':=s.heap) (t':=t) Un.refl I.hok
theorem Inv.kept{t':Nat}(I:Inv X pins σ H s)(k:∀b u,s.heap.get? b=some u->h'.get? b=some u):Inv X pins σ H { s with heap:=h',toks:=t' }:=I.un (Un.kept k) (I.hok.kept k)
theorem Inv.laid{a:Addr}{o:HO}{t':Nat}(I:Inv X pins σ H s)(k:∀b u,s.heap.get? b=some u->h'.get? b=some u)(q:s.heap.objs.size<=a)(new:bU X.prog X.w (upd H a o) h' a o) :
  Inv X pins σ (upd H a o) { s with heap:=h',toks:=t' }:=I.un (Un.laid k q (I.hok.fresh q)) (I.hok.laid k q new)
theorem Inv.write{x e:Addr}{o:HO}{t':Nat}(I:Inv X pins σ H s)(z:Mut (H x))(D:e=x\/H e=some (.own x))(k:∀b u,b≠e->s.heap.get? b=some u->h'.get? b=some u)(q:∃u,h'.get? e=some u)
  (new:bU X.prog X.w (upd H x o) h' x o):Inv X pins σ (upd H x o) { s with heap:=h',toks:=t' }:=I.un (Un.write z D k q) (I.hok.write z D k q new)
theorem Inv.pins_of{q:List (Addr×Obj)}(I:Inv X pins σ H s)(h:∀p∈q,s.heap.get? p.1=some p.2/\H p.1=none/\p.1≠X.env.locals/\p.1∉X.fs/\∀v,p.2.data≠.cell v):Inv X q σ H s:=
 ⟨I.ok,I.os,I.bare,I.base,I.loc,I.cell,I.free,I.freeC,λp D=>(mem_append.mp D).elim (λz=>I.pin p (mem_append_left _ z)) (h p),I.hok,I.len⟩
theorem nv{N:List Str}(q:N.Nodup){i j:Nat}{x:Str}(a:N[i]?=some x)(b:N[j]?=some x):i=j:=by
 obtain⟨h1,z⟩:=List.getElem?_eq_some_iff.mp a;obtain⟨h2,D⟩:=List.getElem?_eq_some_iff.mp b;exact(getElem_inj q).mp (z.trans D.symm)
theorem lB{M:Model}{A:Around}{E:Value->Shared->Prop}{i:Nat}{x:Str}{v:V}{u:Value}{Q:Unit->Shared->Prop}(I:Inv X pins σ H s)(hN:X.N.Nodup)(hi:X.N[i]?=some x)(hx:Loc X.env.scope x)(r:aA v u)
  (h:∀s',Inv X pins (σ.set i (some v)) H s'->(∃a,Heap.SameBut a s.heap s'.heap/\(a=X.env.locals\/X.env.cells.lookup x=some a))->Q () s') (hf:X.fn x=true\/X.env.scope.names.lookup x=some .local:=by first|exact .inl rfl|exact .inr rfl|assumption):wpAny M A (storeName X.env x u) Q E s:=by
 obtain⟨m,hn,hl⟩:=id I.loc;have a2:(X.env.scope.kind==.class || (X.env.scope.kind==.module&&X.env.locals != X.env.globals))=false:=by rw[I.ok.kind];rfl
 have ao:i<σ.length:=by rw[I.len];exact(List.getElem?_eq_some_iff.mp hi).1
 have cne:=I.cne;have J:∀{a:Addr}{h':Heap},(∃o,s.heap.get? a=some o/\H a=none)->Heap.SameBut a s.heap h'->HOk X.prog X.w H h':=λ{a h'} ha D b ob e=>by
  obtain⟨_,_,Y⟩:=ha;refine(I.hok b ob e).stay (λc w' hc q=>(D.2 c ?_).trans q) (λ_ q=>q) λ_ _ q=>q
  rintro rfl;rcases hc with rfl|hc
  ·rw[Y]at e;cases e
  ·rw[Y]at hc;cases hc
 rcases hx with hk|hk
 ·refine wpAny_storeName_local hk hn (λh' b1 D=>?_) a2;obtain⟨oL,_,_,b2,_⟩:=id hn;refine h _ ⟨I.ok,I.os,I.bare,⟨λb o e n hb hx=>?_,λb o e n hb hx=>?_,I.base.free,λb o e hx=>?_,I.base.tups,I.base.frzs,I.base.tbls⟩,⟨_,b1,λj y v' U Z e3=>?_⟩,λy c e=>?_,I.free,I.freeC,λp hp=>?_,J ⟨oL,b2,I.free⟩ D,by simpa using I.len⟩ ⟨_,D,.inl rfl⟩
  ·exact(D.2 b (Nat.ne_of_lt (Nat.lt_of_lt_of_le (Heap.lt_size e) I.ok.above))).trans (I.base.keep b o e n hb hx)
  ·obtain⟨sl,U⟩:=I.base.slot b o e n hb hx;exact⟨sl,(D.2 b (Nat.ne_of_lt (Nat.lt_of_lt_of_le (Heap.lt_size e) I.ok.above))).trans U⟩
  ·obtain⟨o',U⟩:=I.base.there b o e hx;exact⟨o',(D.2 b (Nat.ne_of_lt (Nat.lt_of_lt_of_le (Heap.lt_size e) I.ok.above))).trans U⟩
  ·by_cases hj:j=i
   ·subst hj;rw[hi]at U;cases U
    rw[getElem?_set_self ao]at Z;cases Z;exact⟨u,r,.inl ⟨hk,by simp⟩⟩
   ·rw[getElem?_set_ne (Ne.symm hj)]at Z;obtain⟨u',r',q⟩:=hl j y v' U Z e3;refine⟨u',r',?_⟩;rcases q with ⟨k,e⟩|⟨k,c,e,z⟩
    ·refine .inl ⟨k,?_⟩;have:y≠x:=λe=>hj (nv hN U (e ▸ hi))
     simp[this,e]
    ·exact .inr ⟨k,c,e,z.sameBut D (cne y c e)⟩
  ·obtain⟨w',z⟩:=I.cell y c e;exact⟨w',z.sameBut D (cne y c e)⟩
  ·obtain⟨e,n,ne,nf,d⟩:=I.pin p hp;exact⟨(D.2 p.1 ne).trans e,n,ne,nf,d⟩
 ·have a1:X.fn x=true:=by
   rcases hf with z|z
   ·exact z
   ·rw[z]at hk;cases hk
  obtain⟨c,hc⟩:=I.ok.has x (.inl hk);obtain⟨w',z⟩:=I.cell x c hc;refine wpAny_storeName_cell I.ok.kind hk hc z (λh' a3 D=>?_);obtain⟨oc,a4,a5⟩:=id z;refine h { s with heap:=h' } ⟨I.ok,I.os,I.bare,⟨λb o e n hb hx=>?_,λb o e n hb hx=>?_,I.base.free,λb o e hx=>?_,I.base.tups,I.base.frzs,I.base.tbls⟩,⟨m,hn.sameBut D (Ne.symm (cne x c hc)),λj y v' U Z e3=>?_⟩,λy c' e=>?_,I.free,I.freeC,λp hp=>?_,J ⟨oc,a4,I.freeC x c hc⟩ D,by simpa using I.len⟩ ⟨c,D,.inr hc⟩
  ·exact(D.2 b (Nat.ne_of_lt (Nat.lt_of_lt_of_le (Heap.lt_size e) (I.ok.cab x c a1 hc)))).trans (I.base.keep b o e n hb hx)
  ·obtain⟨sl,U⟩:=I.base.slot b o e n hb hx;exact⟨sl,(D.2 b (Nat.ne_of_lt (Nat.lt_of_lt_of_le (Heap.lt_size e) (I.ok.cab x c a1 hc)))).trans U⟩
  ·obtain⟨o',U⟩:=I.base.there b o e hx;exact⟨o',(D.2 b (Nat.ne_of_lt (Nat.lt_of_lt_of_le (Heap.lt_size e) (I.ok.cab x c a1 hc)))).trans U⟩
  ·by_cases hj:j=i
   ·subst hj;rw[hi]at U;cases U
    rw[getElem?_set_self ao]at Z;cases Z;exact⟨u,r,.inr ⟨.inl hk,c,hc,a3⟩⟩
   ·rw[getElem?_set_ne (Ne.symm hj)]at Z;obtain⟨u',r',q⟩:=hl j y v' U Z e3;refine⟨u',r',?_⟩;rcases q with q|⟨k,c',e,z'⟩
    ·exact .inl q
    ·refine .inr ⟨k,c',e,z'.sameBut D ?_⟩;rintro rfl;exact hj (nv hN U (I.ok.inj _ _ _ e hc ▸ hi))
  ·by_cases a6:c'=c
   ·subst a6;exact⟨_,a3⟩
   ·obtain⟨w2,z2⟩:=I.cell y c' e;exact⟨w2,z2.sameBut D a6⟩
  ·obtain⟨e,n,ne,nf,d⟩:=I.pin p hp;refine⟨(D.2 p.1 ?_).trans e,n,ne,nf,d⟩;intro q;rw[q,a4]at e;have q':oc=p.2:=Option.some.inj e;exact d w' (by rw[<- q'];exact a5)
theorem nw{M:Model}{A:Around}{E:Value->Shared->Prop}{i:Nat}{x:Str}{v:V}{u:Value}{Q:Unit->Shared->Prop}(I:Inv X pins σ H s)(q:X.N.Nodup)(hi:X.N[i]?=some x)(hx:Loc X.env.scope x)(r:aA v u)
  (h:∀s',Inv X pins (σ.set i (some v)) H s'->Q () s') (z:X.fn x=true\/X.env.scope.names.lookup x=some .local:=by first|exact .inl rfl|exact .inr rfl|assumption):wpAny M A (storeName X.env x u) Q E s:=
 lB I q hi hx r (λs' D _=>h s' D) z
theorem Inv.call'{s':Shared}{ch:List Addr}(I:Inv X pins σ H s)(z:s'.os=s.os)(u:Un (frs X.stack) ch H H' s.heap s'.heap)(hok:HOk X.prog X.w H' s'.heap)(D:AllBare s'.gens)
  (q:∀b∈ch,(b∈X.ex\/X.s₀.heap.objs.size<=b)/\b≠X.env.locals/\(∀x c,X.env.cells.lookup x=some c->c≠b)/\∀p∈X.pn++pins,p.1≠b):Inv X pins σ H' s':=by
 obtain⟨h',g',d',t',o'⟩:=s';have e:o'=s.os:=z;subst e;exact I.call (g':=g') (t':=t') (d':=d') u hok D q
end
noncomputable abbrev XK:=Value->Option Addr->Hp->Prop
noncomputable abbrev St:=List (Option V)
noncomputable abbrev VK:=V->Hp->Prop
noncomputable abbrev TE:=St->Hp->VK->Prop
noncomputable abbrev TT:=St->Hp->(Bool->Hp->Prop)->Prop
noncomputable abbrev TA:=St->Hp->(List V->Hp->Prop)->Prop
structure iR where
 nx:St->Hp->Prop
 rt:VK
 bk:St->Hp->Prop:=λ_ _=>False
 ct:St->Hp->Prop:=λ_ _=>False
noncomputable abbrev TS:=iR->St->Hp->Prop
noncomputable def EP(X:Cx)(pins:List (Addr×Obj))(σ:St)(Q:VK)(u:Value)(s':Shared):Prop:=∃v H',Inv X pins σ H' s'/\aA v u/\Q v H'
noncomputable def TP(X:Cx)(pins:List (Addr×Obj))(σ:St)(Q:Bool->Hp->Prop)(b:Bool)(s':Shared):Prop:=∃H',Inv X pins σ H' s'/\Q b H'
noncomputable def AP(X:Cx)(pins:List (Addr×Obj))(σ:St)(Q:List V->Hp->Prop)(us:List Value)(s':Shared):Prop:=∃vs H',Inv X pins σ H' s'/\ay vs us/\Q vs H'
noncomputable def SP(X:Cx)(pins:List (Addr×Obj))(D:iR)(f:Flow)(s':Shared):Prop:=
 match f with
 | .next=>∃σ' H',Inv X pins σ' H' s'/\D.nx σ' H'
 | .brk=>∃σ' H',Inv X pins σ' H' s'/\D.bk σ' H'
 | .cont=>∃σ' H',Inv X pins σ' H' s'/\D.ct σ' H'
 | .ret u=>∃v σ' H',Inv X pins σ' H' s'/\aA v u/\D.rt v H'
noncomputable def PE(X:Cx)(e:Expr)(t:TE):Prop:=
 ∀(pins:List (Addr×Obj)) (s:Shared) (σ:St) (H:Hp) (Q:VK),Inv X pins σ H s->t σ H Q->wpAny (model X.prog X.w) X.A (eval e X.env) (EP X pins σ Q) X.xe s
noncomputable def PT(X:Cx)(e:Expr)(t:TT):Prop:=
 ∀(pins:List (Addr×Obj)) (s:Shared) (σ:St) (H:Hp) (Q:Bool->Hp->Prop),Inv X pins σ H s->t σ H Q->wpAny (model X.prog X.w) X.A (isTrue e X.env (eval e X.env)) (TP X pins σ Q) X.xe s
noncomputable def PW(X:Cx)(e:Expr)(t:TT):Prop:=
 ∀(whole:Sem Value) (pins:List (Addr×Obj)) (s:Shared) (σ:St) (H:Hp) (Q:Bool->Hp->Prop),Inv X pins σ H s->t σ H Q->wpAny (model X.prog X.w) X.A (isTrue e X.env whole) (TP X pins σ Q) X.xe s
theorem PW.pt{X:Cx}{e:Expr}{t:TT}(h:PW X e t):PT X e t:=h _
noncomputable def PA(X:Cx)(es:List Expr)(t:TA):Prop:=
 ∀(pos:Pos) (pins:List (Addr×Obj)) (s:Shared) (σ:St) (H:Hp) (Q:List V->Hp->Prop),Inv X pins σ H s->t σ H Q->wpAny (model X.prog X.w) X.A (spliced (backTo pos (starEach es X.env))) (AP X pins σ Q) X.xe s
noncomputable def PS(X:Cx)(st:Stmt)(t:TS):Prop:=
 ∀(pins:List (Addr×Obj)) (s:Shared) (σ:St) (H:Hp) (D:iR),Inv X pins σ H s->t D σ H->wpAny (model X.prog X.w) X.A (exec st X.env) (SP X pins D) X.xe s
noncomputable def PSs(X:Cx)(st:List Stmt)(t:TS):Prop:=
 ∀(pins:List (Addr×Obj)) (s:Shared) (σ:St) (H:Hp) (D:iR),Inv X pins σ H s->t D σ H->wpAny (model X.prog X.w) X.A (execs st X.env) (SP X pins D) X.xe s
theorem thn{α:Type}{t:Sem α}{Q q:α->Shared->Prop}{M:Model}{A:Around}{E:Value->Shared->Prop}{s:Shared}(h:wpAny M A t Q E s)(z:∀a s,Q a s->q a s):wpAny M A t q E s:=wpAny_mono h z λ_ _ x=>x
section
variable{X:Cx}
theorem bin{a b:Expr}{ta tb:TE}(J:PE X a ta)(U:PE X b tb){pins:List (Addr×Obj)}{s:Shared}{σ:St}{H:Hp}{R:V->V->Hp->Prop}(I:Inv X pins σ H s)(h:ta σ H λx H1=>tb σ H1 λy H2=>R x y H2)
  {α:Type}{Q:α->Shared->Prop}{f:Value->Value->Sem α}
  (Y:∀v u D x y H2,Inv X pins σ H2 D->aA x v->aA y u->R x y H2->wpAny (model X.prog X.w) X.A (f v u) Q X.xe D) :
  wpAny (model X.prog X.w) X.A (eval a X.env) (λv q=>wpAny (model X.prog X.w) X.A (eval b X.env) (λu z=>wpAny (model X.prog X.w) X.A (f v u) Q X.xe z) X.xe q) X.xe s:=by
 refine thn (J pins s σ H _ I h) λv Z ⟨x,H1,I1,r1,q1⟩=>?_
 refine thn (U pins Z σ H1 _ I1 q1) λu D ⟨y,H2,I2,r2,q2⟩=>?_
 exact Y v u D x y H2 I2 r1 r2 q2
noncomputable def yJ(i:Nat):TE:=λσ H Q=>∃v,σ[i]?=some (some v)/\Q v H
noncomputable def tC(v:V):TE:=λ_ H Q=>Q v H
theorem tw {i:Nat}{x:Str}{pos:Pos} (J:X.N[i]?=some x) (U:Vis X.env.scope x) (hd:(x==("__debug__":Str))=false:=by decide) (D:(x==("__classdict__":Str))=false:=by decide):PE X (.Name x pos) (yJ i):=by
 intro pins s σ H Q I h;obtain⟨v,e,h⟩:=h;obtain⟨m,Y,Z⟩:=I.loc;obtain⟨u,r,l⟩:=Z i x v J e U;have fin:EP X pins σ Q u s:=⟨v,H,I,r,h⟩;rcases l with ⟨z,hm⟩|⟨z,c,hc,q⟩
 ·exact wpAny_Name (wpAny_loadName_local I.ok.kind z Y hm fin) hd
 ·rcases z with z|z
  ·exact wpAny_Name (wpAny_loadName_cell I.ok.kind z hc q fin) hd
  ·exact wpAny_Name (wpAny_loadName_free I.ok.kind z hc q fin D) hd
theorem mj{i j pos}:PE X (.Constant (.int i) j pos) (tC (.int i)):=λ_ _ _ H _ I h=>wpAny_Constant_int ⟨.int i,H,I.tok _,⟨_,rfl⟩,h⟩
theorem Be{b j pos}:PE X (.Constant (.bool b) j pos) (tC (.bl b)):=λ_ _ _ H _ I h=>Constant_bool ⟨.bl b,H,I,rfl,h⟩
theorem yK{j pos}:PE X (.Constant .none j pos) (tC .non):=λ_ _ _ H _ I h=>Constant_none ⟨.non,H,I,rfl,h⟩
theorem pf{x j pos}:PE X (.Constant (.str x) j pos) (tC (.str x)):=λ_ _ _ H _ I h=>Calls.Constant_str ⟨.str x,H,I.tok _,⟨_,rfl⟩,h⟩
noncomputable def Gl(X:Cx)(x:Str):Prop:=X.env.kindOf x=some .globalImplicit
theorem ie{E:Value->Shared->Prop}{pins:List (Addr×Obj)}{s:Shared}{σ:St}{H:Hp}{x:Str}{u:Value}{pos:Pos}{Q:Value->Shared->Prop}(I:Inv X pins σ H s)(q:Gl X x)(z:X.mg x=some u)(h:Q u s)
  (hd:(x==("__debug__":Str))=false:=by decide):wpAny (model X.prog X.w) X.A (eval (.Name x pos) X.env) Q E s:=
 Calls.Name_function_global I.ok.kind q (Calls.loadGlobal_global (by rw[I.ok.glob];exact I.mod.glob.keeps I.bk) z h) hd
theorem fY{E:Value->Shared->Prop}{pins:List (Addr×Obj)}{s:Shared}{σ:St}{H:Hp}{x:Str}{u:Value}{pos:Pos}{Q:Value->Shared->Prop}(I:Inv X pins σ H s)(q:Gl X x)(z:X.mg x=none)(D:bootBuiltins x=some u)(h:Q u s)
  (J:x ≠ "__name__":=by decide) (hd:(x==("__debug__":Str))=false:=by decide):wpAny (model X.prog X.w) X.A (eval (.Name x pos) X.env) Q E s:=by
 obtain⟨U,h1,h2⟩:=I.mod.blt;exact Calls.Name_function_global I.ok.kind q (Calls.loadGlobal_builtin (by rw[I.ok.glob];exact I.mod.glob.keeps I.bk) z (by rw[I.ok.blt];exact h1.keeps I.bk) ((h2 x J).trans D) h) hd
theorem qy {x:Str}{v:V}{u:Value}{pos:Pos} (q:Gl X x) (z:X.mg x=some u) (r:aA v u) (hd:(x==("__debug__":Str))=false:=by decide):PE X (.Name x pos) (tC v):=
 λ_ _ _ H _ I h=>ie I q z ⟨v,H,I,r,h⟩ hd
theorem wa {x:Str}{v:V}{u:Value}{pos:Pos} (q:Gl X x) (z:X.mg x=none) (D:bootBuiltins x=some u) (r:aA v u) (J:x ≠ "__name__":=by decide) (hd:(x==("__debug__":Str))=false:=by decide):PE X (.Name x pos) (tC v):=
 λ_ _ _ H _ I h=>fY I q z D ⟨v,H,I,r,h⟩ J hd
variable{a b:Expr}{ta tb:TE}{pos:Pos}
noncomputable def tB(t:TE):TT:=λσ H Q=>t σ H λx H1=>∃c,x=.bl c/\Q c H1
theorem ph{e:Expr}{t:TE}(h:PE X e t)(z:∀whole,isTrue e X.env whole=(do let v <- whole;standAt e.pos;holding [v] (truthy v)):=by intro _;rfl):PT X e (tB t):=by
 intro pins s σ H Q I hw;refine isTrue_plain (thn (h pins s σ H _ I hw) λv Y ⟨x,H1,D,J,U⟩=>?_) (z _);obtain⟨d,rfl,q⟩:=U;cases J;exact wpAny_truthy_bool ⟨H1,D,q⟩
variable{tA tB':TT}{bR:List Expr}
noncomputable def Dt(t u:TT):TT:=λσ H Q=>t σ H λc H1=>if c=true then u σ H1 Q else Q false H1
noncomputable def tOr(t u:TT):TT:=λσ H Q=>t σ H λc H1=>if c=true then Q true H1 else u σ H1 Q
noncomputable def Du(t:TT):TT:=λσ H Q=>t σ H λc H1=>Q (!c) H1
theorem wb(q:PT X a tA):PW X (.BoolOp .And [a] pos) tA:=by
 intro z pins s σ H Q I h;refine isTrue_and (thn (q pins s σ H Q I h) λc D e=>?_);cases c with
 |true=>exact isTrue_and_nil e
 |false=>exact e
theorem yL(q:PT X a tA):PW X (.BoolOp .Or [a] pos) tA:=by
 intro z pins s σ H Q I h;refine isTrue_or (thn (q pins s σ H Q I h) λc D e=>?_);cases c with
 |false=>exact isTrue_or_nil e
 |true=>exact e
theorem yM(D:PT X a tA)(J:PW X (.BoolOp .And (b::bR) pos) tB'):PW X (.BoolOp .And (a::b::bR) pos) (Dt tA tB'):=by
 intro U pins s σ H Q I h;refine isTrue_and (thn (D pins s σ H _ I h) λc Y ⟨H1,q,z⟩=>?_);cases c with
 |true=>exact J U pins Y σ H1 Q q z
 |false=>exact⟨H1,q,z⟩
theorem Bf(D:PT X a tA)(J:PW X (.BoolOp .Or (b::bR) pos) tB'):PW X (.BoolOp .Or (a::b::bR) pos) (tOr tA tB'):=by
 intro U pins s σ H Q I h;refine isTrue_or (thn (D pins s σ H _ I h) λc Y ⟨H1,q,z⟩=>?_);cases c with
 |true=>exact⟨H1,q,z⟩
 |false=>exact J U pins Y σ H1 Q q z
theorem tz(q:PT X a tA):PT X (.UnaryOp .Not a pos) (Du tA):=by
 intro pins s σ H Q I h;exact isTrue_not (q pins s σ H (λc H1=>Q (!c) H1) I h)
noncomputable def Bg(ta tb:TE):TE:=λσ H Q=>ta σ H λx H1=>∃c,x=.bl c/\if c=true then tb σ H1 Q else Q (.bl false) H1
noncomputable def Dw(ta tb:TE):TE:=λσ H Q=>ta σ H λx H1=>∃c,x=.bl c/\if c=true then Q (.bl true) H1 else tb σ H1 Q
noncomputable def Bh(ta:TE):TE:=λσ H Q=>ta σ H λx H1=>∃c,x=.bl c/\Q (.bl (!c)) H1
theorem tD{op}{t:TE}(h:PE X a t):PE X (.BoolOp op [a] pos) t:=λpins s σ H Q I hw=>BoolOp_one (h pins s σ H Q I hw)
theorem yN(D:PE X a ta)(J:PE X (.BoolOp .And (b::bR) pos) tb):PE X (.BoolOp .And (a::b::bR) pos) (Bg ta tb):=by
 intro pins s σ H Q I h;refine BoolOp_and (thn (D pins s σ H _ I h) λv U ⟨x,H1,z,Y,q⟩=>?_);obtain⟨c,rfl,q⟩:=q;cases Y;refine wpAny_truthy_bool ?_;cases c with
 |true=>exact J pins U σ H1 Q z q
 |false=>exact⟨.bl false,H1,z,rfl,q⟩
theorem Bi(D:PE X a ta)(J:PE X (.BoolOp .Or (b::bR) pos) tb):PE X (.BoolOp .Or (a::b::bR) pos) (Dw ta tb):=by
 intro pins s σ H Q I h;refine BoolOp_or (thn (D pins s σ H _ I h) λv U ⟨x,H1,z,Y,q⟩=>?_);obtain⟨c,rfl,q⟩:=q;cases Y;refine wpAny_truthy_bool ?_;cases c with
 |false=>exact J pins U σ H1 Q z q
 |true=>exact⟨.bl true,H1,z,rfl,q⟩
theorem yO(z:PE X a ta):PE X (.UnaryOp .Not a pos) (Bh ta):=by
 intro pins s σ H Q I h;refine UnaryOp_ (thn (z pins s σ H _ I h) λv U ⟨x,H1,D,J,q⟩=>?_);obtain⟨c,rfl,q⟩:=q;cases J;exact not_of (wpAny_truthy_bool ⟨.bl (!c),H1,D,rfl,q⟩)
noncomputable def tIf(t:TT)(ta tb:TE):TE:=λσ H Q=>t σ H λc H1=>if c=true then ta σ H1 Q else tb σ H1 Q
theorem tG{c:Expr}(hc:PT X c tA)(J:PE X a ta)(U:PE X b tb):PE X (.IfExp c a b pos) (tIf tA ta tb):=by
 intro pins s σ H Q I h;refine wpAny_IfExp (thn (hc pins s σ H _ I h) λd q ⟨H1,z,D⟩=>?_);cases d with
 |true=>exact J pins q σ H1 Q z D
 |false=>exact U pins q σ H1 Q z D
end
noncomputable def SqL(K:PySem.W.Frag)(H:Hp)(a:Addr)(xs:List V):Prop:=
 Rd H a (.lst xs) \/
  ∃(o:Obj) (its:Array Value) (n:Nat),K.lookup a=some o/\o.cls=.type "list"/\o.dict=none/\o.data=.seq its n/\its.size<=sizeLine/\ay xs its.toList
noncomputable def SqT(K:PySem.W.Frag)(H:Hp)(a:Addr)(xs:List V):Prop:=
 Rd H a (.tup xs) \/
  ∃(o:Obj) (its:Array Value) (n:Nat),K.lookup a=some o/\o.cls=.type "tuple"/\o.data=.seq its n/\its.size<=sizeLine/\ay xs its.toList
noncomputable def Dx:Value->Option V
 | .none=>some .non
 | .bool b=>some (.bl b)
 | .int i _=>some (.int i)
 | .str x _=>some (.str x)
 | .bytes b _=>some (.byt b)
 | .float b _=>some (.flt b)
 | .ref a=>some (.ref a)
 | .type n=>some (.ty n)
 | _=>none
theorem aA.abs{x:V}{u:Value}(r:aA x u):Dx u=some x:=by
 cases x with
 |non=>cases r;rfl
 |bl _=>cases r;rfl
 |int _=>obtain⟨t,rfl⟩:=r;rfl
 |str _=>obtain⟨t,rfl⟩:=r;rfl
 |byt _=>obtain⟨t,rfl⟩:=r;rfl
 |flt _=>obtain⟨t,rfl⟩:=r;rfl
 |ref _=>cases r;rfl
 |ty _=>cases r;rfl
theorem aA.inj{x y:V}{u:Value}(r:aA x u)(q:aA y u):x=y:=Option.some.inj (r.abs.symm.trans q.abs)
theorem ay.inj:∀{xs ys:List V}{us:List Value},ay xs us->ay ys us->xs=ys
 | _,_,_,.nil,.nil=>rfl
 | _,_,_,.cons r t,.cons q t'=>by rw[r.inj q,ay.inj t t']
section
variable{X:Cx}{pins:List (Addr×Obj)}{σ:St}{H:Hp}{s:Shared}{a:Addr}{xs ys:List V}
theorem SqL.of{K:PySem.W.Frag}(h:H a=some (.lst xs)):SqL K H a xs:=.inl (.inl h)
theorem SqT.of{K:PySem.W.Frag}(h:H a=some (.tup xs)):SqT K H a xs:=.inl (.inl h)
theorem Inv.list(I:Inv X pins σ H s)(h:SqL X.K H a xs):∃its:List Value,ay xs its/\PlainL s.heap a its.toArray/\xs.length<=sizeLine:=by
 rcases h with h|⟨o,its,n,q,hc,hd,D,hz,r⟩
 ·obtain⟨z,its,n,r,e⟩:=h.ok I.hok;exact⟨its,r,⟨_,n,e,rfl,rfl,rfl⟩,z⟩
 ·refine⟨its.toList,r,⟨o,n,I.kIn a o q,hc,hd,by simpa using D⟩,?_⟩;have e:=r.length;simp only[Array.length_toList]at e;omega
theorem Inv.tuple(I:Inv X pins σ H s)(h:SqT X.K H a xs):∃its:List Value,ay xs its/\IsTup s.heap a its.toArray/\xs.length<=sizeLine:=by
 rcases h with h|⟨o,its,n,q,hc,D,hz,r⟩
 ·obtain⟨z,its,r,p⟩:=h.ok I.hok;exact⟨its,r,p,z⟩
 ·refine⟨its.toList,r,⟨o,I.kIn a o q,hc,n,by simpa using D⟩,?_⟩;have e:=r.length;simp only[Array.length_toList]at e;omega
theorem Inv.list_inj(I:Inv X pins σ H s)(h:SqL X.K H a xs)(h':SqL X.K H a ys):xs=ys:=by
 obtain⟨its,r,⟨o,n,e,_,_,d⟩,_⟩:=I.list h;obtain⟨its',q,⟨o',n',e',_,_,d'⟩,_⟩:=I.list h';rw[e]at e';cases e'
 rw[d]at d';injection d' with z _
 have:its=its':=by simpa using congrArg Array.toList z
 subst this;exact r.inj q
theorem Inv.tuple_inj(I:Inv X pins σ H s)(h:SqT X.K H a xs)(h':SqT X.K H a ys):xs=ys:=by
 obtain⟨its,r,⟨o,e,_,n,d⟩,_⟩:=I.tuple h;obtain⟨its',q,⟨o',e',_,n',d'⟩,_⟩:=I.tuple h';rw[e]at e';cases e'
 rw[d]at d';injection d' with z _
 have:its=its':=by simpa using congrArg Array.toList z
 subst this;exact r.inj q
end
noncomputable abbrev Cx.wish(X:Cx)(E:Value->Shared->Prop):Cx:={ X with xe:=E }
noncomputable abbrev Cx.nox(X:Cx):Cx:=X.wish λ_ _=>False
theorem Cx.Ok.wish{X:Cx}(ok:X.Ok)(E:Value->Shared->Prop):(X.wish E).Ok:=
 ⟨ok.mod,ok.kind,ok.glob,ok.blt,ok.above,ok.inj,ok.has,ok.cab,ok.hd,ok.frames,ok.stk,ok.exf,ok.bs,ok.bsz,ok.noex,ok.exfs,ok.funs,ok.frf⟩
theorem Cx.Ok.unwish{X:Cx}{E:Value->Shared->Prop}(ok:(X.wish E).Ok):X.Ok:=
 ⟨ok.mod,ok.kind,ok.glob,ok.blt,ok.above,ok.inj,ok.has,ok.cab,ok.hd,ok.frames,ok.stk,ok.exf,ok.bs,ok.bsz,ok.noex,ok.exfs,ok.funs,ok.frf⟩
section
variable{X:Cx}{pins:List (Addr×Obj)}{σ:St}{H:Hp}{s:Shared}{E:Value->Shared->Prop}
theorem Inv.wish(I:Inv X pins σ H s)(E:Value->Shared->Prop):Inv (X.wish E) pins σ H s:=⟨I.ok.wish E,I.os,I.bare,I.base,I.loc,I.cell,I.free,I.freeC,I.pin,I.hok,I.len⟩
theorem Inv.unwish(I:Inv (X.wish E) pins σ H s):Inv X pins σ H s:=⟨I.ok.unwish,I.os,I.bare,I.base,I.loc,I.cell,I.free,I.freeC,I.pin,I.hok,I.len⟩
theorem SP.unwish{D:iR}{f:Flow}{s':Shared}(h:SP (X.wish E) pins D f s'):SP X pins D f s':=by
 cases f with
 |next=>obtain⟨σ',H',I,q⟩:=h;exact⟨σ',H',I.unwish,q⟩
 |brk=>obtain⟨σ',H',I,q⟩:=h;exact⟨σ',H',I.unwish,q⟩
 |cont=>obtain⟨σ',H',I,q⟩:=h;exact⟨σ',H',I.unwish,q⟩
 |ret u=>obtain⟨v,σ',H',I,r,q⟩:=h;exact⟨v,σ',H',I.unwish,r,q⟩
theorem PSs.nox{st:List Stmt}{t:TS}(h:PSs X.nox st t):PSs X st t:=λpins s σ H D I hw =>
 wpAny_mono (h pins s σ H D (I.wish _) hw) (λ_ _ q=>q.unwish) λ_ _ z=>False.elim z
end
section
variable{X:Cx}{st:Stmt}{bR:List Stmt}{t u:TS}{e:Expr}{te:TE}{pos:Pos}
noncomputable def Bj:TS:=λD σ H=>D.nx σ H
noncomputable def Dy(t u:TS):TS:=λD σ H=>t { D with nx:=u D } σ H
theorem jE:PSs X [] Bj:=λ_ _ σ H _ I h=>wpAny_execs_nil ⟨σ,H,I,h⟩
theorem ig(h1:PS X st t)(h2:PSs X bR u):PSs X (st::bR) (Dy t u):=by
 intro pins s σ H D I h;refine wpAny_execs_cons (thn (h1 pins s σ H { D with nx:=u D } I h) λf z q=>?_);cases f with
 |next =>
  obtain⟨σ',H',J,q⟩:=q;exact h2 pins z σ' H' D J q
 |ret v=>exact q
 |brk=>exact q
 |cont=>exact q
theorem ml(h1:PS X st t):PSs X [st] t:=by
 intro pins s σ H D I h;refine wpAny_execs_cons (thn (h1 pins s σ H D I h) λf z q=>?_);cases f with
 |next=>exact wpAny_execs_nil q
 |ret v=>exact q
 |brk=>exact q
 |cont=>exact q
theorem Inv.quiet{pins:List (Addr×Obj)}{σ:St}{H:Hp}{s:Shared}(I:Inv X pins σ H s):interactive X.env=false:=by simp[interactive,I.ok.kind]
noncomputable def Bk(te:TE):TS:=λD σ H=>te σ H λ_ H1=>D.nx σ H1
theorem mn(q:PE X e te)(z:swapsWith e none pos.line X.env=pure false:=by rfl):PS X (.Expr e pos) (Bk te):=by
 intro pins s σ H D I h;exact wpAny_Expr_any (thn (q pins s σ H _ I h) λv Y ⟨x,H1,J,Z,U⟩=>⟨σ,H1,J,U⟩) I.quiet z
noncomputable def Dz(te:TE):TS:=λD σ H=>te σ H D.rt
theorem iS(q:PE X e te):PS X (.Return (some e) pos) (Dz te):=by
 intro pins s σ H D I h;exact wpAny_Return_some (thn (q pins s σ H _ I h) λv Y ⟨x,H1,z,J,U⟩=>⟨x,σ,H1,z,J,U⟩)
noncomputable def DA(c:TT)(t u:TS):TS:=λD σ H=>c σ H λb H1=>if b=true then t D σ H1 else u D σ H1
theorem qz{c:Expr}{a b:List Stmt}{tc:TT}(hc:PT X c tc)(U:PSs X a t)(Y:PSs X b u):PS X (.If c a b pos) (DA tc t u):=by
 intro pins s σ H D I h;refine wpAny_If (thn (hc pins s σ H _ I h) λd q ⟨H1,z,J⟩=>?_);cases d with
 |true=>exact U pins q σ H1 D z J
 |false=>exact Y pins q σ H1 D z J
noncomputable def yP:TS:=λ_ _ _=>False
theorem tH:PS X st yP:=λ_ _ _ _ _ _ h=>h.elim
end
noncomputable abbrev TG:=V->St->Hp->(St->Hp->Prop)->Prop
noncomputable abbrev TGs:=List V->St->Hp->(St->Hp->Prop)->Prop
noncomputable def PG(X:Cx)(q:Expr)(t:TG):Prop:=
 ∀(pins:List (Addr×Obj)) (s:Shared) (σ:St) (H:Hp) (v:V) (u:Value) (Q:St->Hp->Prop),Inv X pins σ H s->aA v u->t v σ H Q ->
  wpAny (model X.prog X.w) X.A (assign q X.env u) (λ_ s'=>∃σ' H',Inv X pins σ' H' s'/\Q σ' H') X.xe s
noncomputable def PGs(X:Cx)(ts:List Expr)(t:TGs):Prop:=
 ∀(pins:List (Addr×Obj)) (s:Shared) (σ:St) (H:Hp) (vs:List V) (us:List Value) (Q:St->Hp->Prop),Inv X pins σ H s->ay vs us->t vs σ H Q ->
  wpAny (model X.prog X.w) X.A (assignInOrder ((assignEach ts X.env).map (·.2)) us) (λ_ s'=>∃σ' H',Inv X pins σ' H' s'/\Q σ' H') X.xe s
section
variable{X:Cx}{pos:Pos}
noncomputable def fo(i:Nat):TG:=λv σ H Q=>Q (σ.set i (some v)) H
theorem ij{i:Nat}{x:Str}(q:X.N.Nodup)(hi:X.N[i]?=some x)(hx:Loc X.env.scope x)(z:X.fn x=true\/X.env.scope.names.lookup x=some .local:=by first|exact .inl rfl|exact .inr rfl|assumption):PG X (.Name x pos) (fo i):=by
 intro pins s σ H v u Q I r h;exact wpAny_assign_Name (nw I q hi hx r (λs' D=>⟨_,H,D,h⟩) z)
noncomputable def wc:TGs:=λvs σ H Q=>vs=[]/\Q σ H
noncomputable def qA(t:TG)(u:TGs):TGs:=λvs σ H Q=>∃v r,vs=v::r/\t v σ H λσ' H'=>u r σ' H' Q
theorem wd:PGs X [] wc:=by
 intro pins s σ H vs us Q I r h;obtain⟨e,h⟩:=h;subst e;cases r;exact assignInOrder_nil ⟨σ,H,I,h⟩
theorem ny{e:Expr}{es:List Expr}{t:TG}{u:TGs}(h1:PG X e t)(h2:PGs X es u)
  (z:(assignEach (e::es) X.env).map (·.2)=assign e X.env::(assignEach es X.env).map (·.2):=by rfl):PGs X (e::es) (qA t u):=by
 intro pins s σ H vs us Q I r h;obtain⟨v,vr,D,h⟩:=h;subst D;cases r with
 |cons r J =>
  rw[z];refine assignInOrder_cons (thn (h1 pins s σ H _ _ _ I r h) λ_ U ⟨q,H1,Y,Z⟩=>?_);exact h2 pins U q H1 _ _ Q Y J Z
noncomputable def Bl(K:PySem.W.Frag)(n:Nat)(t:TGs):TG:=λv σ H Q=>∃a xs,v=.ref a/\SqT K H a xs/\xs.length=n/\t xs σ H Q
theorem yQ{es:List Expr}{k:Nat}{t:TGs}{n:Nat}(hc:X.calm=true)(h:PGs X es t)
  (D:(assignEach es X.env).length=n:=by rfl) (q:(assignEach es X.env).findIdx? (·.1)=none:=by rfl):PG X (.Tuple es k pos) (Bl X.K n t):=by
 intro pins s σ H v u Q I r hw;obtain⟨a,xs,J,U,Y,hw⟩:=hw;subst J;cases r;obtain⟨its,z,Z,hz⟩:=I.tuple U;refine assign_Tuple_tuple (I.ok.hd hc) Z (by simp[D,<- Y,z.length]) q λh' hx=>?_
 have I1:Inv X pins σ H { s with heap:=h' }:=I.kept (t':=s.toks) λb o e=>hx b o (Nat.ne_of_lt (Heap.lt_size e)) e
 exact h pins _ σ H xs _ Q I1 (by simpa using z) hw
noncomputable def tI(te:TE)(g:TG):TS:=λD σ H=>te σ H λx H1=>g x σ H1 D.nx
theorem jT{i:Nat}{x:Str}{e:Expr}{te:TE}{pos':Pos}(q:X.N.Nodup)(hi:X.N[i]?=some x)(hx:Loc X.env.scope x)(z:PE X e te)(J:swapsWith e (some (.Name x pos')) pos.line X.env=pure false:=by rfl)(U:X.fn x=true\/X.env.scope.names.lookup x=some .local:=by first|exact .inl rfl|exact .inr rfl|assumption) :
  PS X (.Assign [.Name x pos'] e pos) (tI te (fo i)):=by
 intro pins s σ H D I h;refine wpAny_Assign_Name (thn (z pins s σ H _ I h) λv s1 ⟨y,H1,Y,Z,q1⟩=>?_) J;exact nw Y q hi hx Z (λs2 I2=>⟨_,H1,I2,q1⟩) U
end
section
variable{X:Cx}{pos:Pos}
end
structure It where
 go:Nat->Hp->Prop
 yld:Nat->Hp->V->Hp->Prop
 stop:Nat->Hp->Prop
noncomputable def jU(X:Cx)(pins:List (Addr×Obj))(H:Hp)(b:Addr):Prop:=
 H b=none/\b≠X.env.locals/\b∉X.fs/\(b∈X.ex\/X.s₀.heap.objs.size<=b)/\(∀x c,X.env.cells.lookup x=some c->c≠b)/\∀p∈X.pn++pins,p.1≠b
theorem Inv.fpOk{X:Cx}{pins:List (Addr×Obj)}{σ:St}{H H':Hp}{s:Shared}{b:Addr}(I:Inv X pins σ H s)(D:s.heap.objs.size<=b)(J:H' b=none):jU X pins H' b:=by
 refine⟨J,Nat.ne_of_gt (Nat.lt_of_lt_of_le I.lt D),I.nofs D,.inr (Nat.le_trans I.sz D),λx c e z=>?_,λp U z=>?_⟩
 ·obtain⟨v,q⟩:=I.cell x c e;exact absurd (Nat.lt_of_lt_of_le q.lt (by rw[z];exact D)) (Nat.lt_irrefl _)
 ·exact absurd (Nat.lt_of_lt_of_le (Heap.lt_size (I.pin p U).1) (by rw[z];exact D)) (Nat.lt_irrefl _)
structure nA(P:Program)(w:World)(K:PySem.W.Frag)(tg:Expr)(J:It)(fp:List Addr)(it:Addr)(tn:Nat->Heap->Prop):Prop where
 mem:it∈fp
 obj:∀i h,tn i h->∀b∈fp,∃o,h.get? b=some o/\∀v,o.data≠.cell v
 keep:∀i h h',tn i h->(∀b∈fp,∀o,h.get? b=some o->h'.get? b=some o)->tn i h'
 item:∀(X:Cx),X.prog=P->X.w=w->X.K=K->X.calm=true->∀(i:Nat) (pins:List (Addr×Obj)) (s:Shared) (σ:St) (H:Hp) (E:Value->Shared->Prop),Inv X pins σ H s->(∀b∈fp,jU X pins H b)->tn i s.heap->J.go i H ->
  wpAny (model P w) X.A (pyNext (.ref it)) (λr s1=>∃u,r=some u /\
   wpAny (model P w) X.A (letOwnedTupleGo tg (.ref it) u) (λ_ s2=>∃x H',Inv X pins σ H' s2/\aA x u/\J.yld i H x H'/\tn (i+1) s2.heap/\∀b∈fp,H' b=none) E s1) E s
 done:∀(X:Cx),X.prog=P->X.w=w->X.K=K->X.calm=true->∀(i:Nat) (pins:List (Addr×Obj)) (s:Shared) (σ:St) (H:Hp) (E:Value->Shared->Prop),Inv X pins σ H s->(∀b∈fp,jU X pins H b)->tn i s.heap->J.stop i H ->
  wpAny (model P w) X.A (pyNext (.ref it)) (λr s1=>r=none/\Inv X pins σ H s1) E s
 self:∀(A:Around) (i:Nat) (s:Shared) (Q:Value->Shared->Prop) (E:Value->Shared->Prop),tn i s.heap->Q (.ref it) s->wpAny (model P w) A (pyIter (.ref it)) Q E s
noncomputable abbrev TI:=St->Hp->(It->Hp->Prop)->Prop
noncomputable def PIE(X:Cx)(pins:List (Addr×Obj))(σ:St)(tg:Expr)(R:It->Hp->Prop)(q:Value)(z:Shared):Prop:=
 ∃(it:Addr) (fp:List Addr) (D:Nat->Heap->Prop) (J:It) (H':Hp),q=.ref it/\Inv X pins σ H' z/\nA X.prog X.w X.K tg J fp it D/\D 0 z.heap/\(∀b∈fp,jU X pins H' b)/\R J H'
noncomputable def PI(X:Cx)(tg iter:Expr)(wi:TI):Prop:=
 ∀(pins:List (Addr×Obj)) (s:Shared) (σ:St) (H:Hp) (R:It->Hp->Prop),Inv X pins σ H s->wi σ H R ->
  wpAny (model X.prog X.w) X.A (eval iter X.env) (λv q=>wpAny (model X.prog X.w) X.A (pyIter v) (PIE X pins σ tg R) X.xe q) X.xe s
theorem qB {M:Model}{A:Around}{E:Value->Shared->Prop}{s:Shared}{tg:Expr}{it:Addr}{u:Value}{o:Obj}{n:String}{vs:Array Value}{Q:Unit->Shared->Prop} (ho:s.heap.get? it=some o) (hc:o.cls=.type n) (hd:o.data=.fields vs)
    (hn:["enumerate","zip","dict_itemiterator","dict_reverseitemiterator","odict_iterator","itertools.zip_longest","itertools.pairwise"].contains n=false) (hQ:Q () s):wpAny M A (letOwnedTupleGo tg (.ref it) u) Q E s:=by
  unfold letOwnedTupleGo
  cases tg <;> first
    | exact wpAny_pure hQ
    | (cases u<;>first
        | exact wpAny_pure hQ
        | (refine wpAny_bind (wpAny_load ho ?_)
           rw[hc,hd];show wpAny M A (if (["enumerate","zip","dict_itemiterator","dict_reverseitemiterator","odict_iterator","itertools.zip_longest","itertools.pairwise"].contains n&&vs[0]?==some (rawInt _))=true then _ else _) Q E s;rw[if_neg (by intro h;rw[hn,Bool.false_and]at h;cases h)];exact wpAny_pure hQ))
noncomputable def Itl(K:PySem.W.Frag)(a:Addr):It:=
 ⟨λi H=>∃xs x,SqL K H a xs/\xs[i]?=some x,λi H x H'=>H'=H/\∀xs,SqL K H a xs->xs[i]?=some x,λi H=>∃xs,SqL K H a xs/\xs.length<=i⟩
noncomputable def Itt(K:PySem.W.Frag)(a:Addr):It:=
 ⟨λi H=>∃xs x,SqT K H a xs/\xs[i]?=some x,λi H x H'=>H'=H/\∀xs,SqT K H a xs->xs[i]?=some x,λi H=>∃xs,SqT K H a xs/\xs.length<=i⟩
noncomputable def Itr(lo:Int)(n:Nat):It:=⟨λi _=>i<n,λi H x H'=>H'=H/\x=.int (lo+i),λi _=>n<=i⟩
theorem rQ{P:Program}{w:World}{K:PySem.W.Frag}{tg:Expr}(a it:Addr):nA P w K tg (Itl K a) [it] it (λi h=>h.IsListIter it a i) where
 mem:=by simp
 obj:=λi h st b q=>by
  have e:b=it:=by simpa using q
  subst e;obtain⟨o,e,c,d⟩:=st;exact⟨o,e,λv z=>by rw[d]at z;cases z⟩
 keep:=λi h h' st k=>st.at λo e=>k it (by simp) o e
 item:=by
  intro X Y hw Z hc i pins s σ H E I J st hg;subst Y hw Z;obtain⟨xs,x,U,hx⟩:=hg;obtain⟨its,rv,p,hz⟩:=I.list U;obtain⟨u,hu,ru⟩:=rv.get hx;obtain⟨f0,f1,f2,f3,f4,f5⟩:=J it (by simp);refine wpAny_pyNext_list_item st p.isList (x:=u) (by simpa using hu) λh' D sb=>?_
  have I1:Inv X pins σ H { s with heap:=h' }:=I.turned (t':=s.toks) (λb o q e=>(sb.2 b q).trans e) f0 f1 f3 f4 f5;obtain⟨o,e,c,d⟩:=id D;exact⟨u,rfl,qB (s:={ s with heap:=h' }) e c d (by decide) ⟨x,H,I1,ru,⟨rfl,λys hy=>by rw[I.list_inj hy U];exact hx⟩,D,λb q=>(J b q).1⟩⟩
 done:=by
  intro X Y hw Z hc i pins s σ H E I J st hg;subst Y hw Z;obtain⟨xs,U,hx⟩:=hg;obtain⟨its,rv,p,hz⟩:=I.list U;obtain⟨f0,f1,f2,f3,f4,f5⟩:=J it (by simp);have hl:=rv.length;exact wpAny_pyNext_list_end (I.ok.hd hc) st p.isList (by simp;omega) λh' eb=>⟨rfl,I.turned (t':=s.toks) (λb o q e=>eb b o q e) f0 f1 f3 f4 f5⟩
 self:=λ_ _ _ _ _ st h=>wpAny_pyIter_listiter st h
theorem pi{P:Program}{w:World}{K:PySem.W.Frag}{tg:Expr}(a it:Addr):nA P w K tg (Itt K a) [it] it (λi h=>h.IsTupleIter it a i) where
 mem:=by simp
 obj:=λi h st b q=>by
  have e:b=it:=by simpa using q
  subst e;obtain⟨o,e,c,d⟩:=st;exact⟨o,e,λv z=>by rw[d]at z;cases z⟩
 keep:=λi h h' st k=>st.at λo e=>k it (by simp) o e
 item:=by
  intro X Y hw Z hc i pins s σ H E I J st hg;subst Y hw Z;obtain⟨xs,x,U,hx⟩:=hg;obtain⟨its,rv,p,hz⟩:=I.tuple U;obtain⟨u,hu,ru⟩:=rv.get hx;obtain⟨f0,f1,f2,f3,f4,f5⟩:=J it (by simp);refine wpAny_pyNext_tuple_item st (show s.heap.IsTuple a its.toArray from p) (x:=u) (by simpa using hu) λh' D sb=>?_
  have I1:Inv X pins σ H { s with heap:=h' }:=I.turned (t':=s.toks) (λb o q e=>(sb.2 b q).trans e) f0 f1 f3 f4 f5;obtain⟨o,e,c,d⟩:=id D;exact⟨u,rfl,qB (s:={ s with heap:=h' }) e c d (by decide) ⟨x,H,I1,ru,⟨rfl,λys hy=>by rw[I.tuple_inj hy U];exact hx⟩,D,λb q=>(J b q).1⟩⟩
 done:=by
  intro X Y hw Z hc i pins s σ H E I J st hg;subst Y hw Z;obtain⟨xs,U,hx⟩:=hg;obtain⟨its,rv,p,hz⟩:=I.tuple U;obtain⟨f0,f1,f2,f3,f4,f5⟩:=J it (by simp);have hl:=rv.length;exact wpAny_pyNext_tuple_end (I.ok.hd hc) st (show s.heap.IsTuple a its.toArray from p) (by simp;omega) λh' eb=>⟨rfl,I.turned (t':=s.toks) (λb o q e=>eb b o q e) f0 f1 f3 f4 f5⟩
 self:=λ_ _ _ _ _ st h=>wpAny_pyIter_tupleiter st h
theorem pj{P:Program}{w:World}{K:PySem.W.Frag}{tg:Expr}(it:Addr)(lo:Int)(n:Nat):nA P w K tg (Itr lo n) [it] it (λi h=>IsRangeIter h it (lo+(i:Nat)*1) ((n:Int)-(i:Nat)) 1) where
 mem:=by simp
 obj:=λi h st b q=>by
  have e:b=it:=by simpa using q
  subst e;exact⟨_,st,λv z=>by
   have z':Data.fields _=Data.cell v:=z;cases z'⟩
 keep:=λi h h' st k=>k it (by simp) _ st
 item:=by
  intro X U hw Y hc i pins s σ H E I J st Z;subst U hw Y;obtain⟨f0,f1,f2,f3,f4,f5⟩:=J it (by simp);have W:=Walks.range (prog:=X.prog) (w:=X.w) (I.ok.hd hc) it lo 1 n;refine W.item i s _ _ Z st λv h' tk hv D kk=>?_
  obtain⟨t,rfl⟩:=hv;have I1:Inv X pins σ H { s with heap:=h',toks:=tk }:=I.turned (λb o q e=>kk b o (by simpa using q) e) f0 f1 f3 f4 f5;refine⟨_,rfl,qB (s:={ s with heap:=h',toks:=tk }) (n:="range_iterator") D rfl rfl (by decide) ⟨.int (lo+i),H,I1,⟨t,?_⟩,⟨rfl,rfl⟩,D,λb q=>(J b q).1⟩⟩;rw[Int.mul_one]
 done:=by
  intro X U hw Y hc i pins s σ H E I J st Z;subst U hw Y;obtain⟨f0,f1,f2,f3,f4,f5⟩:=J it (by simp);exact wpAny_pyNext_range_end (I.ok.hd hc) st (by have:n<=i:=Z;omega) λh' eb=>⟨rfl,I.turned (t':=s.toks) (λb o q e=>eb b o q e) f0 f1 f3 f4 f5⟩
 self:=λ_ _ _ _ _ st h=>wpAny_pyIter_rangeiter st h
section
variable{X:Cx}{tg:Expr}
noncomputable def Bm(K:PySem.W.Frag)(tl:TE):TI:=λσ H R=>tl σ H λx H1=>∃a,x=.ref a/\(∃xs,SqL K H1 a xs)/\R (Itl K a) H1
noncomputable def DB(K:PySem.W.Frag)(tl:TE):TI:=λσ H R=>tl σ H λx H1=>∃a,x=.ref a/\(∃xs,SqT K H1 a xs)/\R (Itt K a) H1
theorem qC{l:Expr}{tl:TE}(J:PE X l tl):PI X tg l (Bm X.K tl):=by
 intro pins s σ H R I h;refine thn (J pins s σ H _ I h) λv z ⟨x,H1,D,U,Y⟩=>?_
 obtain⟨a,e,⟨xs,Z⟩,q⟩:=Y;subst e;cases U;obtain⟨its,rv,p,hz⟩:=D.list Z;refine wpAny_pyIter_list p.isList ?_;refine⟨z.heap.objs.size,[z.heap.objs.size],_,_,H1,rfl,D.kept (t':=z.toks) λb o e=>Heap.get?_push_of_some _ e,rQ a _,⟨_,Heap.get?_push_size _ rfl,rfl,rfl⟩,λb hb=>?_,q⟩;have e:b=z.heap.objs.size:=by simpa using hb
 subst e;exact D.fpOk (Nat.le_refl _) (D.hok.fresh (Nat.le_refl _))
theorem tJ{l:Expr}{tl:TE}(J:PE X l tl):PI X tg l (DB X.K tl):=by
 intro pins s σ H R I h;refine thn (J pins s σ H _ I h) λv z ⟨x,H1,D,U,Y⟩=>?_
 obtain⟨a,e,⟨xs,Z⟩,q⟩:=Y;subst e;cases U;obtain⟨its,rv,p,hz⟩:=D.tuple Z;refine wpAny_pyIter_tuple (show z.heap.IsTuple a its.toArray from p) ?_;refine⟨z.heap.objs.size,[z.heap.objs.size],_,_,H1,rfl,D.kept (t':=z.toks) λb o e=>Heap.get?_push_of_some _ e,pi a _,⟨_,Heap.get?_push_size _ rfl,rfl,rfl⟩,λb hb=>?_,q⟩;have e:b=z.heap.objs.size:=by simpa using hb
 subst e;exact D.fpOk (Nat.le_refl _) (D.hok.fresh (Nat.le_refl _))
theorem nB{pins:List (Addr×Obj)}{σ:St}{H:Hp}{s:Shared}{R:It->Hp->Prop}{E:Value->Shared->Prop}{lo hi:Int}{t u v:Tok}{tk:Nat}(I:Inv X pins σ H s)(h1:-(2 ^ 62)<=lo)(h2:lo<2 ^ 62)(h3:-(2 ^ 62)<=hi)(h4:hi<2 ^ 62)
  (q:R (Itr lo (hi-lo).toNat) H):wpAny (model X.prog X.w) X.A (pyIter (.ref s.heap.objs.size)) (PIE X pins σ tg R) E { s with heap:=s.heap.push { cls:=.type "range",data:=.fields #[.int lo t,.int hi u,.int 1 v] },toks:=tk }:=by
 refine wpAny_pyIter_range (IsRange.new ..) (small_one h1 h2 h3 h4) ?_;have z:Inv X pins σ H { s with heap:=s.heap.push { cls:=.type "range",data:=.fields #[.int lo t,.int hi u,.int 1 v] },toks:=tk }:=I.kept λb o e=>Heap.get?_push_of_some _ e
 refine⟨(s.heap.push { cls:=.type "range",data:=.fields #[.int lo t,.int hi u,.int 1 v] }).objs.size,[(s.heap.push { cls:=.type "range",data:=.fields #[.int lo t,.int hi u,.int 1 v] }).objs.size],_,_,H,rfl,
  z.kept (t':=tk) λb o e=>Heap.get?_push_of_some _ e,pj _ lo (hi-lo).toNat,?_,λb D=>?_,q⟩
 ·have J:lo+((0:Nat):Int)*1=lo:=by simp
  have U:(((hi-lo).toNat:Nat):Int)-((0:Nat):Int)=Builtin.Range.rangeSize lo hi 1:=by rw[rangeSize_one];split<;>omega
  show IsRangeIter _ _ (lo+((0:Nat):Int)*1) ((((hi-lo).toNat:Nat):Int)-((0:Nat):Int)) 1;rw[J,U];exact Heap.get?_push_size _ rfl
 ·have e:b=(s.heap.push { cls:=.type "range",data:=.fields #[.int lo t,.int hi u,.int 1 v] }).objs.size:=by simpa using D
  subst e;exact z.fpOk (Nat.le_refl _) (z.hok.fresh (Nat.le_refl _))
noncomputable def Bn(ta:TA):TI:=λσ H R=>ta σ H λvs H1=>∃j:Int,vs=[.int j]/\-(2 ^ 62)<=j/\j<2 ^ 62/\R (Itr 0 j.toNat) H1
noncomputable def Bo(ta:TA):TI:=λσ H R=>ta σ H λvs H1=>∃i j:Int,vs=[.int i,.int j]/\(-(2 ^ 62)<=i/\i<2 ^ 62/\-(2 ^ 62)<=j/\j<2 ^ 62)/\R (Itr i (j-i).toNat) H1
theorem lC {a:Expr}{ta:TA}{p pos:Pos} (D:Gl X "range") (J:X.mg "range"=none) (U:PA X [a] ta) (Y:starEach [a] X.env=[(false,eval a X.env)]:=by rfl):PI X tg (.Call (.Name "range" p) [a] [] pos) (Bn ta):=by
 intro pins s σ H R I h;refine Call_ (fY I D J boot_range (PyProof.Rows.callWith_type1 (thn (U pos pins s σ H _ I h) λus s1 ⟨vs,H1,Z,r1,z⟩=>?_) Y rfl));obtain⟨j,e,z,q2,q⟩:=z;subst e;cases r1 with
 |cons r rr =>
  cases rr;obtain⟨t,rfl⟩:=r;exact call_range_1 (nB Z (by omega) (by omega) z q2 (by simpa using q))
theorem rR {a b:Expr}{ta:TA}{p pos:Pos} (hg:Gl X "range") (hm:X.mg "range"=none) (ha:PA X [a,b] ta) (hs:starEach [a,b] X.env=[(false,eval a X.env),(false,eval b X.env)]:=by rfl) (hs2:starEach [b] X.env=[(false,eval b X.env)]:=by rfl) :
  PI X tg (.Call (.Name "range" p) [a,b] [] pos) (Bo ta):=by
 intro pins s σ H R I h;refine Call_ (fY I hg hm boot_range (PyProof.Rows.callWith_type1 (thn (ha pos pins s σ H _ I h) λus s1 ⟨vs,H1,I1,r1,q1⟩=>?_) (by rw[hs,hs2]) (by rw[hs2];rfl)));obtain⟨i,j,e,⟨q1,q2,q3,q4⟩,q⟩:=q1;subst e;cases r1 with
 | cons r rr =>
  cases rr with
  |cons r' rr =>
   cases rr;obtain⟨t,rfl⟩:=r;obtain⟨t',rfl⟩:=r';exact call_range_2 (nB I1 q1 q2 q3 q4 q)
noncomputable def yR(wi:TI)(g:TG)(tb:TS):TS:=λD σ H=>wi σ H λJ H1=>∃W:Nat->Nat->St->Hp->Prop,(∃m,W 0 m σ H1)/\∀i m σ H,W i m σ H ->
 (J.stop i H/\D.nx σ H)\/(J.go i H/\∃N:St->Hp->Prop,(∀σ' H',N σ' H'->∃z,z<m/\W (i+1) z σ' H')/\∀x H',J.yld i H x H'->g x σ H' λq H2=>tb { D with nx:=N,ct:=N,bk:=D.nx } q H2)
noncomputable def jV(fp:List Addr)(h:Heap):List (Addr×Obj):=fp.filterMap λb=>(h.get? b).map λo=>(b,o)
theorem fH{fp:List Addr}{h:Heap}{b:Addr}{o:Obj}(q:b∈fp)(e:h.get? b=some o):(b,o)∈jV fp h:=mem_filterMap.mpr ⟨b,q,by rw[e];rfl⟩
theorem rS{fp:List Addr}{h:Heap}{p:Addr×Obj}(z:p∈jV fp h):p.1∈fp/\h.get? p.1=some p.2:=by
 obtain⟨b,D,e⟩:=mem_filterMap.mp z;cases q:h.get? b with
 |none=>rw[q]at e;cases e
 |some o =>
  rw[q]at e;have e':(b,o)=p:=Option.some.inj e;subst e';exact⟨D,q⟩
theorem Inv.pinned{pins:List (Addr×Obj)}{σ:St}{H:Hp}{s:Shared}{fp:List Addr}(I:Inv X pins σ H s)(D:∀b∈fp,jU X pins H b)(J:∀b∈fp,∃o,s.heap.get? b=some o/\∀v,o.data≠.cell v):Inv X (pins++jV fp s.heap) σ H s:=
 I.pins_of λp U=>(mem_append.mp U).elim (λz=>I.pin p (mem_append_right _ z)) λz=>by
  obtain⟨q,e⟩:=rS z;obtain⟨Y,Z,f2,_⟩:=D p.1 q;obtain⟨o,e',d⟩:=J p.1 q;rw[e]at e';cases e'
  exact⟨e,Y,Z,f2,d⟩
theorem Inv.unpinned{pins pl:List (Addr×Obj)}{σ:St}{H:Hp}{s:Shared}(I:Inv X (pins++pl) σ H s):Inv X pins σ H s:=I.pins_of λp q=>I.pin p (mem_append_right _ (mem_append_left _ q))
theorem tK{iter:Expr}{body:List Stmt}{wi:TI}{g:TG}{tb:TS}{pos:Pos}(hp:PassesOwn (model X.prog X.w) X.A X.env X.xe)(hc:X.calm=true)(hi:PI X tg iter wi)(hg:PG X tg g)(z:PSs X body tb)
  (hs:∀x,foldedSetIterable iter X.env x=pure x:=by intro _;rfl):PS X (.For tg iter body [] pos) (yR wi g tb):=by
 intro pins s σ H D I h;refine wpAny_For (thn (hi pins s σ H _ I h) λv s1 h1=>thn h1 λce s2 h2=>?_) hs;obtain⟨it,fp,tn,J,H2,e,I2,T,a4,f2,W,⟨m0,w0⟩,turn⟩:=h2;subst e;have U:∀{H':Hp},(∀b∈fp,H' b=none)->∀b∈fp,jU X pins H' b:=λhn b z=>⟨hn b z,(f2 b z).2⟩
 refine codeAny_forLoop_any (λn s'=>∃i σ' H',Inv X pins σ' H' s'/\tn i s'.heap/\(∀b∈fp,H' b=none)/\W i n σ' H') ?_ m0 ⟨0,σ,H2,I2,a4,λb z=>(f2 b z).1,w0⟩;rintro n s3 ⟨i,Y,H3,I3,a1,a2,w3⟩;rcases turn i n Y H3 w3 with ⟨stop,qn⟩|⟨go,N,hN,step⟩
 ·refine wpAny_passesOwn hp (thn (T.done X rfl rfl rfl hc i pins s3 Y H3 X.xe I3 (U a2) a1 stop) λr s4 ⟨hr,I4⟩=>?_);subst hr;exact wpAny_execs_nil ⟨Y,H3,I4,qn⟩
 ·refine wpAny_passesOwn hp (thn (T.item X rfl rfl rfl hc i pins s3 Y H3 X.xe I3 (U a2) a1 go) λr s4 ⟨u,hr,h4⟩=>?_);subst hr;refine wpAny_passesOwn hp (thn h4 λ_ s5 ⟨x,H5,I5,r5,y5,aO,a6⟩=>?_);have a7:=I5.pinned (U a6) (T.obj _ _ aO);refine wpAny_passesOwn hp (thn (hg _ s5 Y H5 x u _ a7 r5 (step x H5 y5)) λ_ s6 ⟨a8,H6,I6,q6⟩=>?_);refine wpAny_passesOwn hp (thn (z _ s6 a8 H6 _ I6 q6) λf s7 q7=>?_);have again:∀{q:St}{Z:Hp},Inv X (pins++jV fp s5.heap) q Z s7->N q Z->∃m,m<n/\∃i σ' H',Inv X pins σ' H' s7/\tn i s7.heap/\(∀b∈fp,H' b=none)/\W i m σ' H':=λ{q Z} I7 n7=>by
   obtain⟨m',hm,w7⟩:=hN q Z n7;refine⟨m',hm,i+1,q,Z,I7.unpinned,T.keep _ _ _ aO λb z o e=>(I7.pin (b,o) (mem_append_right _ (mem_append_right _ (fH z e)))).1,λb z=>?_,w7⟩;obtain⟨o,e,d⟩:=T.obj _ _ aO b z;exact(I7.pin (b,o) (mem_append_right _ (mem_append_right _ (fH z e)))).2.1
  cases f with
  |next=>obtain⟨q,Z,I7,n7⟩:=q7;exact again I7 n7
  |cont=>obtain⟨q,Z,I7,n7⟩:=q7;exact again I7 n7
  |brk=>obtain⟨q,Z,I7,q7⟩:=q7;exact⟨q,Z,I7.unpinned,q7⟩
  |ret v=>obtain⟨x7,q,Z,I7,r7,q7⟩:=q7;exact⟨x7,q,Z,I7.unpinned,r7,q7⟩
end
noncomputable abbrev R2:=V->V->Hp->VK->Prop
noncomputable def OpR(X:Cx)(f:Value->Value->Sem Value)(r:R2):Prop:=
 ∀(pins:List (Addr×Obj)) (s:Shared) (σ:St) (H:Hp) (x y:V) (v u:Value) (Q:VK),Inv X pins σ H s->aA x v->aA y u->r x y H Q ->
  wpAny (model X.prog X.w) X.A (f v u) (EP X pins σ Q) X.xe s
noncomputable def bC(X:Cx)(f:Value)(r:List V->Hp->VK->Prop):Prop:=
 ∀(pins:List (Addr×Obj)) (s:Shared) (σ:St) (H:Hp) (xs:List V) (us:List Value) (Q:VK),Inv X pins σ H s->ay xs us->r xs H Q ->
  wpAny (model X.prog X.w) X.A (call f us) (EP X pins σ Q) X.xe s
noncomputable def tOp(r:R2)(ta tb:TE):TE:=λσ H Q=>ta σ H λx H1=>tb σ H1 λy H2=>r x y H2 Q
noncomputable def rI(C:Int->Int->Prop)(g:Int->Int->V):R2:=λx y H Q=>∃i j,x=.int i/\y=.int j/\C i j/\Q (g i j) H
noncomputable def rI0(g:Int->Int->V):R2:=λx y H Q=>∃i j,x=.int i/\y=.int j/\Q (g i j) H
section
variable{X:Cx}{a b c:Expr}{ta tb tc:TE}{pos:Pos}
theorem yS(J:PE X a ta)(U:PE X b tb){pins:List (Addr×Obj)}{s:Shared}{σ:St}{H:Hp}{R:V->V->Hp->Prop}(I:Inv X pins σ H s)
  (h:ta σ H λx H1=>tb σ H1 λy H2=>R x y H2) {Q:Value->Shared->Prop}{f:Value->Value->Sem Value}
  (Y:∀v u D x y H2,Inv X pins σ H2 D->aA x v->aA y u->R x y H2->wpAny (model X.prog X.w) X.A (f v u) Q X.xe D) :
  wpAny (model X.prog X.w) X.A (eval a X.env) (λv q=>wpAny (model X.prog X.w) X.A (eval b X.env) (λu z=>wpAny (model X.prog X.w) X.A (f v u) Q X.xe z) X.xe q) X.xe s:=by
 refine thn (J pins s σ H _ I h) λv Z ⟨x,H1,I1,r1,q1⟩=>?_
 refine thn (U pins Z σ H1 _ I1 q1) λu D ⟨y,H2,I2,r2,q2⟩=>?_
 exact Y v u D x y H2 I2 r1 r2 q2
theorem lD{op:Operator}{r:R2}(z:OpR X (binaryOp op) r)(D:PE X a ta)(J:PE X b tb):PE X (.BinOp a op b pos) (tOp r ta tb):=by
 intro pins s σ H Q I h;exact wpAny_BinOp (yS D J I h λv u U x y H2 Y Z ry q=>z pins U σ H2 x y v u Q Y Z ry q)
theorem opI{f:Value->Value->Sem Value}{C:Int->Int->Prop}{g:Int->Int->Int}
  (rule:∀(i j:Int) (t u:Tok) (s:Shared) (Q:Value->Shared->Prop) (E:Value->Shared->Prop),C i j->Q (.int (g i j) s.toks) { s with toks:=s.toks+1 }->wpAny (model X.prog X.w) X.A (f (.int i t) (.int j u)) Q E s) :
  OpR X f (rI C λi j=>.int (g i j)):=by
 intro pins s σ H x y v u Q I z D h;obtain⟨i,j,rfl,rfl,hc,q⟩:=h;obtain⟨t,rfl⟩:=z;obtain⟨t',rfl⟩:=D;exact rule i j t t' s _ _ hc ⟨.int (g i j),H,I.tok _,⟨_,rfl⟩,q⟩
theorem Bp{f:Value->Value->Sem Value}{g:Int->Int->Int}
  (rule:∀(i j:Int) (t u:Tok) (s:Shared) (Q:Value->Shared->Prop) (E:Value->Shared->Prop),Q (.int (g i j) s.toks) { s with toks:=s.toks+1 }->wpAny (model X.prog X.w) X.A (f (.int i t) (.int j u)) Q E s) :
  OpR X f (rI0 λi j=>.int (g i j)):=by
 intro pins s σ H x y v u Q I z D h;obtain⟨i,j,rfl,rfl,q⟩:=h;obtain⟨t,rfl⟩:=z;obtain⟨t',rfl⟩:=D;exact rule i j t t' s _ _ ⟨.int (g i j),H,I.tok _,⟨_,rfl⟩,q⟩
theorem we{f:Value->Value->Sem Value}{g:Int->Int->Bool}
  (rule:∀(i j:Int) (t u:Tok) (s:Shared) (Q:Value->Shared->Prop) (E:Value->Shared->Prop),Q (.bool (g i j)) s->wpAny (model X.prog X.w) X.A (f (.int i t) (.int j u)) Q E s) :
  OpR X f (rI0 λi j=>.bl (g i j)):=by
 intro pins s σ H x y v u Q I z D h;obtain⟨i,j,rfl,rfl,q⟩:=h;obtain⟨t,rfl⟩:=z;obtain⟨t',rfl⟩:=D;exact rule i j t t' s _ _ ⟨.bl (g i j),H,I,rfl,q⟩
noncomputable def DC(i j:Int):Prop:=0<j/\j<1073741824
noncomputable def DE(i j:Int):Prop:=0<=j/\j<=1000000/\i.natAbs<2 ^ 64
noncomputable def yT(i j:Int):Prop:=(-(2 ^ 64)<i/\i<2 ^ 64)\/(-(2 ^ 64)<j/\j<2 ^ 64)
theorem yT.ok{i j:Int}(h:yT i j):IntMulOk i j:=by
 rcases h with ⟨h1,h2⟩|⟨h1,h2⟩
 ·exact .of_left (intBits_le_64 h1 h2)
 ·exact .of_right (intBits_le_64 h1 h2)
theorem pp(k:Nat):(0:Int)<=2 ^ k:=by
 rw[two_pow_cast];exact Int.natCast_nonneg _
theorem yU:OpR X (binaryOp .Add) (rI0 λi j=>.int (i+j)):=Bp λ_ _ _ _ _ _ _ q=>add_int q
theorem tL:OpR X (binaryOp .Sub) (rI0 λi j=>.int (i-j)):=Bp λ_ _ _ _ _ _ _ q=>sub_int q
theorem yV:OpR X (binaryOp .Mult) (rI yT λi j=>.int (i*j)):=opI λ_ _ _ _ _ _ _ hc q=>mul_int q hc.ok
theorem wf:OpR X (binaryOp .FloorDiv) (rI DC λi j=>.int (i / j)):=opI λi j _ _ _ _ _ hc q=>by
 have h1:(0:Int)<j:=hc.1;have h2:j<1073741824:=hc.2;exact floordiv_int (by omega) (by rw[Int.fdiv_eq_ediv_of_nonneg i (by omega)];exact q) (.inl (PyProof.noPylong_small (by omega)))
theorem yW:OpR X (binaryOp .Mod) (rI (λ_ j=>0<j) λi j=>.int (i % j)):=opI λi j _ _ _ _ _ hc q=>by
 have h1:(0:Int)<j:=hc;exact mod_int' (by omega) (by rw[Int.fmod_eq_emod_of_nonneg i (by omega)];exact q)
theorem yX:OpR X (binaryOp .Pow) (rI DE λi j=>.int (i ^ j.toNat)):=opI λ_ _ _ _ _ _ _ hc q=>pow_int_small hc.1 hc.2.1 hc.2.2 q
theorem yY:OpR X (binaryOp .RShift) (rI (λ_ j=>0<=j) λi j=>.int (i / 2 ^ j.toNat)):=opI λi j _ _ _ _ _ hc q =>
 rshift_int hc (by rw[Int.fdiv_eq_ediv_of_nonneg i (pp _)];exact q)
end
noncomputable def scal:V->V->Bool
 | .non,.non=>true|.non,.int _=>true|.int _,.non=>true|.non,.bl _=>true|.bl _,.non=>true|.non,.str _=>true|.str _,.non=>true
 | .int _,.int _=>true|.bl _,.bl _=>true|.str _,.str _=>true|.byt _,.byt _=>true
 | .int _,.str _=>true|.str _,.int _=>true|.bl _,.str _=>true|.str _,.bl _=>true
 | _,_=>false
noncomputable def rNe:R2:=λx y H Q=>scal x y=true/\Q (.bl (!decide (x=y))) H
theorem qD{i j:Int}:decide (V.int i=V.int j)=(i==j):=by
 rw[Bool.eq_iff_iff];simp
theorem tM{i j:Bool}:decide (V.bl i=V.bl j)=(i==j):=by
 rw[Bool.eq_iff_iff];simp
theorem qE{i j:Str}:decide (V.str i=V.str j)=(i==j):=by
 rw[Bool.eq_iff_iff];simp
theorem wg{i j:Array UInt8}:decide (V.byt i=V.byt j)=(i.toList==j.toList):=by
 rw[Bool.eq_iff_iff];cases i;cases j;simp
section
variable{X:Cx}{a b c:Expr}{ta tb tc:TE}{pos:Pos}
theorem bw{pins:List (Addr×Obj)}{σ:St}{H:Hp}{s:Shared}{Q:VK}{k z:Bool}(I:Inv X pins σ H s)(q:Q (.bl k) H)(e:k=z):EP X pins σ Q (.bool z) s:=by
 subst e;exact⟨.bl k,H,I,rfl,q⟩
theorem Bq:OpR X (compareOp .NotEq) rNe:=by
 intro pins s σ H x y v u Q I J z h;obtain⟨D,q⟩:=h;cases x with
 |non =>
  cases J;cases y with
  |non=>cases z;exact PySem.EqNone.ne_none_none (bw I q (by simp))
  |bl j=>cases z;exact PySem.EqNone.ne_none_bool (bw I q (by simp))
  |int j=>obtain⟨t',rfl⟩:=z;exact PySem.EqNone.ne_none_int (bw I q (by simp))
  |str j=>obtain⟨t',rfl⟩:=z;exact PySem.EqNone.ne_none_str (bw I q (by simp))
  | _=>exact absurd (show false=true from D) Bool.false_ne_true
 |bl i =>
  cases J;cases y with
  |non=>cases z;exact PySem.EqNone.ne_bool_none (bw I q (by simp))
  |bl j=>cases z;exact ne_bool (bw I q (congrArg not tM))
  |str j=>obtain⟨t',rfl⟩:=z;exact PySem.EqMixed.ne_bool_str (bw I q (by simp))
  | _=>exact absurd (show false=true from D) Bool.false_ne_true
 |int i =>
  obtain⟨t,rfl⟩:=J;cases y with
  |non=>cases z;exact PySem.EqNone.ne_int_none (bw I q (by simp))
  |int j=>obtain⟨t',rfl⟩:=z;exact ne_int (bw I q (congrArg not qD))
  |str j=>obtain⟨t',rfl⟩:=z;exact PySem.EqMixed.ne_int_str (bw I q (by simp))
  | _=>exact absurd (show false=true from D) Bool.false_ne_true
 |str i =>
  obtain⟨t,rfl⟩:=J;cases y with
  |non=>cases z;exact PySem.EqNone.ne_str_none (bw I q (by simp))
  |bl j=>cases z;exact PySem.EqMixed.ne_str_bool (bw I q (by simp))
  |int j=>obtain⟨t',rfl⟩:=z;exact PySem.EqMixed.ne_str_int (bw I q (by simp))
  |str j=>obtain⟨t',rfl⟩:=z;exact ne_str (bw I q (congrArg not qE))
  | _=>exact absurd (show false=true from D) Bool.false_ne_true
 |byt i =>
  obtain⟨t,rfl⟩:=J;cases y with
  |byt j=>obtain⟨t',rfl⟩:=z;exact PySem.W.ne_bytes (bw I q (congrArg not wg))
  | _=>exact absurd (show false=true from D) Bool.false_ne_true
 | _=>cases y<;>exact absurd (show false=true from D) Bool.false_ne_true
theorem x5:OpR X (compareOp .Lt) (rI0 λi j=>.bl (decide (i<j))):=we λ_ _ _ _ _ _ _ q=>lt_int q
theorem Br:OpR X (compareOp .LtE) (rI0 λi j=>.bl (decide (i<=j))):=we λ_ _ _ _ _ _ _ q=>le_int q
theorem Bs:OpR X (compareOp .Gt) (rI0 λi j=>.bl (decide (j<i))):=we λ_ _ _ _ _ _ _ q=>gt_int q
theorem Bt:OpR X (compareOp .GtE) (rI0 λi j=>.bl (decide (j<=i))):=we λ_ _ _ _ _ _ _ q=>ge_int q
theorem rT:OpR X (compareOp .In) (λx y H Q=>∃i j,x=.str i/\y=.str j/\Q (.bl (!(Builtin.Str.occurrences j i 0 j.length 1).isEmpty)) H):=by
 intro pins s σ H x y v u Q I z D h;obtain⟨i,j,rfl,rfl,q⟩:=h;obtain⟨t,rfl⟩:=z;obtain⟨t',rfl⟩:=D;exact in_str (bw I q rfl)
theorem yZ:OpR X (compareOp .Is) (λx y H Q=>y=.non/\Q (.bl (decide (x=.non))) H):=by
 intro pins s σ H x y v u Q I z D h;obtain⟨rfl,q⟩:=h;cases D;refine is_none_gen (bw I q ?_);cases x<;>first
  | (cases z;rfl)
  | (obtain⟨t,rfl⟩:=z;rfl)
theorem wj:OpR X (compareOp .IsNot) (λx y H Q=>y=.non/\Q (.bl (!decide (x=.non))) H):=by
 intro pins s σ H x y v u Q I z D h;obtain⟨rfl,q⟩:=h;cases D;refine isnot_none_gen (bw I q ?_);cases x<;>first
  | (cases z;rfl)
  | (obtain⟨t,rfl⟩:=z;rfl)
theorem mq:OpR X (compareOp .NotIn) (λx y H Q=>∃i j,x=.str i/\y=.str j/\Q (.bl (!(!(Builtin.Str.occurrences j i 0 j.length 1).isEmpty))) H):=by
 intro pins s σ H x y v u Q I z D h;obtain⟨i,j,rfl,rfl,q⟩:=h;obtain⟨t,rfl⟩:=z;obtain⟨t',rfl⟩:=D;exact notIn_str (bw I q rfl)
theorem y3(b:Expr){op:CmpOp}(h:op≠.In:=by decide)(h2:op≠.NotIn:=by decide):behindInMarks op b=false:=by
 have q:(op==CmpOp.In)=false:=by cases op<;>first|rfl|exact absurd rfl h
 have z:(op==CmpOp.NotIn)=false:=by cases op<;>first|rfl|exact absurd rfl h2
 cases b<;>simp[behindInMarks,q,z]
theorem qF{op:CmpOp}{r:R2}(z:OpR X (compareOp op) r)(D:PE X a ta)(J:PE X b tb)(U:behindInMarks op b=false):PE X (.Compare a [op] [b] pos) (tOp r ta tb):=by
 intro pins s σ H Q I h;exact wpAny_Compare1 (yS D J I h λv u Y x y H2 Z rx ry q=>z pins Y σ H2 x y v u Q Z rx ry q) U
noncomputable def x6(t:TE):TT:=λσ H Q=>t σ H λx H'=>∃k,x=.bl k/\Q k H'
theorem qG{op:CmpOp}{r:R2}(q:OpR X (compareOp op) r)(D:PE X a ta)(J:PE X b tb)(U:behindInMarks op b=false):PT X (.Compare a [op] [b] pos) (x6 (tOp r ta tb)):=by
 intro pins s σ H Q I h;refine wpAny_isTrue_Compare1 (thn (D pins s σ H _ I h) λv Y ⟨x,H1,Z,r1,q1⟩=>thn (J pins Y σ H1 _ Z q1) λu s2 ⟨y,H2,I2,r2,q2⟩ =>
  thn (q pins s2 σ H2 x y v u _ I2 r1 r2 q2) λc s3 ⟨z,H3,I3,r3,k,e,q3⟩=>?_) U
 subst e;cases r3;exact wpAny_truthy_bool ⟨H3,I3,q3⟩
noncomputable def tN(r q:R2)(ta tb tc:TE):TE:=λσ H Q=>ta σ H λx H1=>tb σ H1 λy H2=>r x y H2 λz H3=>∃k,z=.bl k /\
 (if k=true then tc σ H3 λw' H4=>q y w' H4 Q else Q (.bl false) H3)
theorem tO{op q:CmpOp}{r J:R2}(ho:OpR X (compareOp op) r)(D:OpR X (compareOp q) J)(ha:PE X a ta)(hb:PE X b tb)(hc:PE X c tc)
  (hm:lastMarks [op,q] [b,c]=false:=by with_unfolding_all rfl):PE X (.Compare a [op,q] [b,c] pos) (tN r J ta tb tc):=by
 intro pins s σ H Q I h;refine Compare_chain (thn (ha pins s σ H _ I h) λv s1 ⟨x,H1,I1,r1,q1⟩=>chain_link (thn (hb pins s1 σ H1 _ I1 q1) λu s2 ⟨y,H2,I2,U,q2⟩ =>
  thn (ho pins s2 σ H2 x y v u _ I2 r1 U q2) λd s3 ⟨z,H3,Y,r3,k,e,Z⟩=>?_)) hm
 subst e;cases r3;refine wpAny_truthy_bool ?_;cases k with
 |false=>exact ite_ff ⟨.bl false,H3,Y,rfl,Z⟩
 |true=>exact ite_tt (chain_last (thn (hc pins s3 σ H3 _ Y Z) λw' s4 ⟨z',H4,I4,r4,q4⟩=>D pins s4 σ H4 y z' u w' Q I4 U r4 q4))
theorem tP{op q:CmpOp}{r J:R2}(ho:OpR X (compareOp op) r)(D:OpR X (compareOp q) J)(ha:PE X a ta)(hb:PE X b tb)(hc:PE X c tc)
  (hm:lastMarks [op,q] [b,c]=false:=by with_unfolding_all rfl):PT X (.Compare a [op,q] [b,c] pos) (x6 (tN r J ta tb tc)):=by
 intro pins s σ H Q I h;refine isTrue_chain (thn (ha pins s σ H _ I h) λv s1 ⟨x,H1,I1,r1,q1⟩=>test_link (thn (hb pins s1 σ H1 _ I1 q1) λu s2 ⟨y,H2,I2,U,q2⟩ =>
  thn (ho pins s2 σ H2 x y v u _ I2 r1 U q2) λd s3 ⟨z,H3,Y,r3,k,e,Z⟩=>?_)) hm
 subst e;cases r3;refine wpAny_truthy_bool ?_;cases k with
 |false =>
  obtain⟨k',e',q'⟩:=Z;cases e';exact ite_ff ⟨H3,Y,q'⟩
 |true =>
  refine ite_tt (test_last (thn (hc pins s3 σ H3 _ Y Z) λw' s4 ⟨z',H4,I4,r4,q4⟩=>thn (D pins s4 σ H4 y z' u w' _ I4 U r4 q4) λd' s5 ⟨z2,H5,I5,r5,k2,e2,q5⟩=>?_));subst e2;cases r5;exact wpAny_truthy_bool ⟨H5,I5,q5⟩
theorem iT:(sizeLine:Nat)<2 ^ 63:=by rw[sizeLine_eq];decide
theorem pq:OpR X (binaryOp .Add) (λx y H Q=>∃i j,x=.str i/\y=.str j/\i.length+j.length<=sizeLine/\Q (.str (i++j)) H):=by
 intro pins s σ H x y v u Q I z D h;obtain⟨i,j,rfl,rfl,hz,q⟩:=h;obtain⟨t,rfl⟩:=z;obtain⟨t',rfl⟩:=D;exact add_str (λt' tk=>⟨.str (i++j),H,I.tok _,⟨_,rfl⟩,q⟩) hz
theorem eP{x:V}{us:List Value}(r:ay [x] us):∃u,us=[u]/\aA x u:=by
 cases r with
 |cons q z=>cases z;exact⟨_,rfl,q⟩
theorem Bu{x y:V}{us:List Value}(r:ay [x,y] us):∃u w',us=[u,w']/\aA x u/\aA y w':=by
 cases r with
 |cons q z =>
  cases z with
  |cons D J=>cases J;exact⟨_,_,rfl,q,D⟩
theorem lE:bC X (.type "int") (λxs H Q=>(∃i,xs=[.int i]/\Q (.int i) H)\/∃k,xs=[.bl k]/\Q (.int (if k then 1 else 0)) H):=by
 intro pins s σ H xs us Q I r h;rcases h with ⟨i,rfl,q⟩|⟨k,rfl,q⟩
 ·obtain⟨u,rfl,t,rfl⟩:=eP r;exact call_int_int ⟨.int i,H,I,⟨_,rfl⟩,q⟩
 ·obtain⟨u,rfl,z⟩:=eP r;cases z;exact call_int_bool ⟨.int (if k then 1 else 0),H,I.tok _,⟨_,rfl⟩,q⟩
end
structure pw(h:Heap)(x dx C:Addr)(mA:Str->Option Value):Prop where
 obj:h.get? x=some (PySem.W.instObj C dx)
 ns:h.Ns1 dx mA
 ne:dx≠x
theorem rU{h:Heap}{dx:Addr}{mA:Str->Option Value}(n:h.Ns1 dx mA):∃J,h.get? dx=some J/\∀name,PySem.W.lookIn name J=some (mA name):=by
 obtain⟨o,es,ep,U,hd,Y,_,Z⟩:=n;refine⟨o,U,λname=>?_⟩;have e:=Z name;unfold nsFind findBy at e;rw[<- Array.find?_toList]at e;unfold PySem.W.lookIn;rw[hd];dsimp only;split
 ·rename_i y q;rw[q]at e;exact congrArg some e
 ·rename_i q;rw[q]at e;have a:es.toList.any (·.refKey)=false:=by
   rw[List.any_eq_false];intro y hy;obtain⟨z,t,D⟩:=Y y (Array.mem_toList_iff.mp hy);simp[DictEntry.refKey,D]
  have a':¬ es.toList.any (·.refKey)=true:=by rw[a];exact Bool.false_ne_true
  rw[if_neg a'];exact congrArg some e
theorem pw.look{h:Heap}{x dx C:Addr}{mA:Str->Option Value}(I:pw h x dx C mA):∃q,PySem.W.InstAt h x (PySem.W.instObj C dx) C (some q)/\∀name,PySem.W.lookIn name q=some (mA name):=
 let ⟨q,z,D⟩:=rU I.ns
 ⟨q,⟨I.obj,rfl,rfl,z⟩,D⟩
section
variable{prog:Program}{w:World}{A:Around}{E:Value->Shared->Prop}{s:Shared}{K:PySem.W.Frag}{x dx C f:Addr}{mA:Str->Option Value}{name:Str}{v:Value}
theorem wk{expr:Bool}{Q:Value->Shared->Prop}(X:K.In s.heap)(I:pw s.heap x dx C mA)(z:PySem.W.plainGet K C name=true)(D:PySem.W.hasDictIn K C=true)
  (U:PySem.W.findIn K (.ref C) name=some none) (Y:mA name=some v) (q:PySem.W.handedIn v=true) (h:Q v { s with toks:=s.toks+1 }) :
  wpAny (model prog w) A (getAttr (.ref x) name expr) Q E s:=by
 obtain⟨od,J,Z⟩:=I.look;exact PySem.W.get_value X J (PySem.W.plainGet_of z).1 (PySem.W.findObj_own D U rfl (by rw[Z,Y])) q h
theorem tQ{pl:Sem Bool}{Q:Value×List Value->Shared->Prop}(X:K.In s.heap)(I:pw s.heap x dx C mA)(q:PySem.W.plainGet K C name=true)
  (z:PySem.W.findIn K (.ref C) name=some (some (.ref f))) (D:PySem.W.isFn K (.ref f)=true) (U:mA name=none) (h:Q (.ref f,[.ref x]) s) :
  wpAny (model prog w) A (getMethod (.ref x) name pl) Q E s:=by
 obtain⟨Y,J,Z⟩:=I.look;exact PySem.W.method_fn X J (PySem.W.plainGet_of q).1 (PySem.W.plainGet_of q).2 z (beq_iff_eq.mp D) (by show(PySem.W.lookIn name Y).map (·.isSome)=some false;rw[Z,U];rfl) h
theorem wl{ns:List Str}{Q:Unit->Shared->Prop}(X:K.In s.heap)(I:pw s.heap x dx C mA)
  (hs:PySem.W.findIn K (.ref C) "__setattr__"=some (some (.builtin "object.__setattr__"))) (hp:PySem.W.plainOver K C=true) (ht:PySem.W.takerIn K C name=some none) (hh:PySem.W.hasDictIn K C=true)
  (hw:PySem.Within mA ns) (a1:ns.length<=sizeLine)
  (h:∀h',pw h' x dx C (λy=>if y=name then some v else mA y)->Heap.SameBut dx s.heap h'->Q () { s with heap:=h',toks:=s.toks+2 }) :
  wpAny (model prog w) A (setAttr (.ref x) name v) Q E s:=by
 obtain⟨od,J,hl⟩:=I.look;refine PySem.W.set_plain X J hs (PySem.W.osa_open (s:={ s with toks:=s.toks+1 }) (r:=none) X J hp ht λb=>?_);obtain⟨cd,hc,D⟩:=PySem.W.any_some hh;have hx:s.heap.get? x=some ⟨.ref C,some dx,.plain,#[]⟩:=I.obj;refine wpAny_bind (wpAny_pure (wpAny_bind (wpAny_bind (wpAny_loadPart hx (wpAny_bind (PySem.W.Looks.here (s:={ s with toks:=s.toks+1 }) (PySem.W.looks_clsIn X hc) ?_))))));rw[D];refine wpAny_pure (a:=some dx) (wpAny_bind (wpAny_pure (wpAny_bind ?_)));refine wpAny_nsSet1 (s:={ s with toks:=s.toks+1 }) I.ns λh' q z=>?_
 obtain⟨oD,a2,a3,U,Y,Z⟩:=q.count (PySem.Within.cons name v hw);refine wpAny_bind (wpAny_lookBehind U (by rw[Y];exact pastItsLine_dict (Nat.le_trans Z (by rw[length_cons];omega))) ?_);exact wpAny_pure (h _ ⟨(z.2 _ (Ne.symm I.ne)).trans I.obj,q,I.ne⟩ z)
theorem tR{R:Result->Shared->Prop}{vs:List Value}{q:List (Str×Value)}(X:K.In s.heap)(z:PySem.W.makesIn K C=true)
  (hi:PySem.W.findIn K (.ref C) "__init__"=some (some (.ref f))) (D:PySem.W.typeIn K (.ref f)=some (.type "function"))
  (h:codeAny (model prog w) (A.under (.builtin "type.__call__" ⟨.ref C::vs,q⟩)) (.call (.ref f) ⟨.ref (s.heap.objs.size+1)::vs,q⟩) (PySem.W.InitBack (s.heap.objs.size+1) R)
   { s with heap:=(s.heap.push PySem.W.emptyDict).push (PySem.W.instObj C s.heap.objs.size) }) :
  codeAny (model prog w) A (.call (.ref C) ⟨vs,q⟩) R s:=by
 obtain⟨J,g,d,t,os⟩:=s;exact PySem.W.make_core (PySem.W.makes_of X z) (PySem.W.looks_findIn X hi) (λself=>PySem.W.bind_fn X self D) (.inl rfl) h
end
noncomputable def fZ(f:Str)(v:V):List (Str×V)->List (Str×V)
 | []=>[(f,v)]
 | (g,x)::r=>if g=f then (g,v)::r else (g,x)::fZ f v r
theorem jn(f g:Str)(v:V):∀fs:List (Str×V),(fZ f v fs).lookup g=if g=f then some v else fs.lookup g
 | []=>by
  show List.lookup g [(f,v)]=_;by_cases h:g=f
  ·have hb:(g==f)=true:=beq_iff_eq.mpr h;simp only[List.lookup,hb,if_pos h]
  ·have hb:(g==f)=false:=beq_eq_false_iff_ne.mpr h;simp only[List.lookup,hb,if_neg h]
 | (k,x)::r=>by
  have ih:=jn f g v r;rw[show fZ f v ((k,x)::r)=(if k=f then (k,v)::r else (k,x)::fZ f v r) from rfl];by_cases hk:k=f
  ·rw[if_pos hk];by_cases h:g=k
   ·have hb:(g==k)=true:=beq_iff_eq.mpr h;simp only[List.lookup,hb,if_pos (h.trans hk)]
   ·have hb:(g==k)=false:=beq_eq_false_iff_ne.mpr h;simp only[List.lookup,hb,if_neg (λe:g=f=>h (e.trans hk.symm))]
  ·rw[if_neg hk];by_cases h:g=k
   ·have hb:(g==k)=true:=beq_iff_eq.mpr h;simp only[List.lookup,hb,if_neg (λe:g=f=>hk (h.symm.trans e))]
   ·have hb:(g==k)=false:=beq_eq_false_iff_ne.mpr h;simp only[List.lookup,hb];exact ih
theorem iU(f:Str)(v:V):∀fs:List (Str×V),f∈(fZ f v fs).map (·.1)/\∀g,g∈fs.map (·.1)->g∈(fZ f v fs).map (·.1)
 | []=>⟨by simp[fZ],λg h=>by simp at h⟩
 | (k,x)::r=>by
  obtain⟨i1,i2⟩:=iU f v r;rw[show fZ f v ((k,x)::r)=(if k=f then (k,v)::r else (k,x)::fZ f v r) from rfl];by_cases hk:k=f
  ·rw[if_pos hk];subst hk;exact⟨by simp,λg h=>by simpa using h⟩
  ·rw[if_neg hk];refine⟨?_,λg h=>?_⟩
   ·rw[map_cons];exact mem_cons_of_mem _ i1
   ·rw[map_cons]at h ⊢;rcases mem_cons.mp h with e|e
    ·exact mem_cons.mpr (.inl e)
    ·exact mem_cons_of_mem _ (i2 g e)
theorem jo(f:Str)(v:V):∀fs:List (Str×V),(fZ f v fs).length<=fs.length+1
 | []=>by simp[fZ]
 | (k,x)::r=>by
  have ih:=jo f v r;rw[show fZ f v ((k,x)::r)=(if k=f then (k,v)::r else (k,x)::fZ f v r) from rfl];by_cases q:k=f
  ·rw[if_pos q,length_cons,length_cons];omega
  ·rw[if_neg q,length_cons,length_cons];omega
theorem k9.some_of{v:V}{o:Option Value}(r:k9 (some v) o):∃u,o=some u/\aA v u:=by
 cases o with
 |none=>exact(show False from r).elim
 |some u=>exact⟨u,rfl,r⟩
theorem k9.none_of{o:Option Value}(r:k9 none o):o=none:=by
 cases o with
 |none=>rfl
 |some u=>exact(show False from r).elim
theorem rV{v:V}{u:Value}(r:aA v u):PySem.W.handedIn u=true:=by
 cases v with
 |non=>cases (show u=Value.none from r);rfl
 |bl b=>cases (show u=Value.bool b from r);rfl
 |int i=>obtain⟨t,e⟩:=(show ∃t,u=Value.int i t from r);cases e;rfl
 |str x=>obtain⟨t,e⟩:=(show ∃t,u=Value.str x t from r);cases e;rfl
 |byt b=>obtain⟨t,e⟩:=(show ∃t,u=Value.bytes b t from r);cases e;rfl
 |flt b=>obtain⟨t,e⟩:=(show ∃t,u=Value.float b t from r);cases e;rfl
 |ref a=>cases (show u=Value.ref a from r);rfl
 |ty n=>cases (show u=Value.type n from r);rfl
section
variable{P:Program}{w:World}{H H':Hp}{h h':Heap}{a C dx:Addr}{fs fs':List (Str×V)}
theorem mr(hok:HOk P w H h)(e:H a=some (.ins C dx fs)):∃mA,pw h a dx C mA/\(∀f,k9 (fs.lookup f) (mA f))/\PySem.Within mA (fs.map (·.1))/\fs.length<=1000/\H dx=some (.own a):=by
 obtain⟨d,z,ne,D,mA,n,r,q⟩:=(show bU P w H h a (.ins C dx fs) from hok a _ e);exact⟨mA,⟨D,n,ne⟩,r,q,z,d⟩
end
structure Cls(K:PySem.W.Frag)(C:Addr):Prop where
 pg:PySem.W.plainGet K C Str.empty=true
 hd:PySem.W.hasDictIn K C=true
 po:PySem.W.plainOver K C=true
 sa:PySem.W.findIn K (.ref C) "__setattr__"=some (some (.builtin "object.__setattr__"))
theorem Cls.get{K:PySem.W.Frag}{C:Addr}(c:Cls K C)(f:Str):PySem.W.plainGet K C f=true:=c.pg
noncomputable def di(K:PySem.W.Frag)(C:Addr)(f:Str):Prop:=PySem.W.findIn K (.ref C) f=some none
theorem di.taker{K:PySem.W.Frag}{C:Addr}{f:Str}(n:di K C f):PySem.W.takerIn K C f=some none:=by
 unfold PySem.W.takerIn;rw[show PySem.W.findIn K (.ref C) f=some none from n]
 rfl
structure nD(K:PySem.W.Frag)(C:Addr)(m:Str)(f:Addr):Prop where
 at_:PySem.W.findIn K (.ref C) m=some (some (.ref f))
 fn:PySem.W.isFn K (.ref f)=true
 kp:PySem.W.keepIn K (.ref f)=true
section
variable{X:Cx}{pins:List (Addr×Obj)}{σ:St}{H:Hp}{s:Shared}{a C dx:Addr}{fs:List (Str×V)}{f:Str}{v:V}{A:Around}{E:Value->Shared->Prop}
theorem jW{b:Bool}{Q:Value->Shared->Prop}(I:Inv X pins σ H s)(e:H a=some (.ins C dx fs))(c:Cls X.K C)(n:di X.K C f)(l:fs.lookup f=some v)
  (h:∀u s',Inv X pins σ H s'->aA v u->Q u s'):wpAny (model X.prog X.w) A (getAttr (.ref a) f b) Q E s:=by
 obtain⟨mA,O,r,_,_,_⟩:=mr I.hok e;obtain⟨u,z,q⟩:=k9.some_of (v:=v) (o:=mA f) (by rw[<- l];exact r f);exact wk I.kIn O (c.get f) c.hd n z (rV q) (h u _ (I.tok _) q)
theorem pz{m:Str}{g:Addr}{pl:Sem Bool}{Q:Value×List Value->Shared->Prop}(I:Inv X pins σ H s)(e:H a=some (.ins C dx fs))(c:Cls X.K C)(k:nD X.K C m g)(l:fs.lookup m=none)
  (h:Q (.ref g,[.ref a]) s):wpAny (model X.prog X.w) A (getMethod (.ref a) m pl) Q E s:=by
 obtain⟨mA,O,r,_,_,_⟩:=mr I.hok e;have q:mA m=none:=k9.none_of (by rw[<- l];exact r m);exact tQ I.kIn O (c.get m) k.at_ k.fn q h
theorem jX{y:V}{u:Value}{Q:Unit->Shared->Prop}(I:Inv X pins σ H s)(e:H a=some (.ins C dx fs))(c:Cls X.K C)(n:di X.K C f)(hl:fs.length<1000)(U:aA y u)
  (h:∀s',Inv X pins σ (upd H a (.ins C dx (fZ f y fs))) s'->Q () s'):wpAny (model X.prog X.w) A (setAttr (.ref a) f u) Q E s:=by
 obtain⟨mA,O,r,wi,_,J⟩:=mr I.hok e;have hz:(fs.map (·.1)).length<=sizeLine:=by rw[length_map,sizeLine_eq];omega
 refine wl I.kIn O c.sa c.po n.taker c.hd wi hz λh' D Y=>h _ ?_
 have hd:∃o,h'.get? dx=some o:=let ⟨o,_,_,e',_⟩:=D.ns;⟨o,e'⟩
 refine I.write (x:=a) (e:=dx) (by rw[e];exact True.intro) (.inr J) (λb q Z z=>(Y.2 b Z).trans z) hd ?_;refine⟨by rw[az O.ne];exact J,?_,O.ne,D.obj,_,D.ns,λg=>?_,λg hg=>?_⟩
 ·have:=jo f y fs;omega
 ·show k9 ((fZ f y fs).lookup g) (if g=f then some u else mA g);rw[jn];by_cases q:g=f
  ·rw[if_pos q,if_pos q];exact U
  ·rw[if_neg q,if_neg q];exact r g
 ·by_cases q:g=f
  ·rw[q];exact(iU f y fs).1
  ·refine(iU f y fs).2 g (wi g λz=>hg ?_);show(if g=f then some u else mA g)=none;rw[if_neg q];exact z
theorem Inv.made(I:Inv X pins σ H s):Inv X pins σ (upd (upd H s.heap.objs.size (.own (s.heap.objs.size+1))) (s.heap.objs.size+1) (.ins C s.heap.objs.size []))
  { s with heap:=(s.heap.push PySem.W.emptyDict).push (PySem.W.instObj C s.heap.objs.size) }:=by
 have z:(s.heap.push PySem.W.emptyDict).get? s.heap.objs.size=some PySem.W.emptyDict:=Heap.get?_push_size s.heap rfl;have D:((s.heap.push PySem.W.emptyDict).push (PySem.W.instObj C s.heap.objs.size)).get? (s.heap.objs.size+1)=some (PySem.W.instObj C s.heap.objs.size):=by
  have:=Heap.get?_push_size (s.heap.push PySem.W.emptyDict) (o:=PySem.W.instObj C s.heap.objs.size) rfl;rwa[Heap.size_push]at this
 have J:(s.heap.push PySem.W.emptyDict).Ns s.heap.objs.size (λ_=>none):=⟨PySem.W.emptyDict,#[],_,z,rfl,(λe U=>absurd U (by simp)),λ_=>rfl⟩;have Y:=I.laid (a:=s.heap.objs.size) (o:=.own (s.heap.objs.size+1)) (h':=s.heap.push PySem.W.emptyDict) (t':=s.toks) (λb u q=>Heap.get?_push_of_some _ q) (Nat.le_refl _) ⟨_,z⟩;refine Y.laid (a:=s.heap.objs.size+1) (o:=.ins C s.heap.objs.size []) (t':=s.toks) (λb u q=>Heap.get?_push_of_some _ q) (Nat.le_of_eq (Heap.size_push _ _)) ?_;have ne:s.heap.objs.size≠s.heap.objs.size+1:=Nat.ne_of_lt (Nat.lt_succ_self _);refine⟨by rw[az ne,au],Nat.zero_le _,ne,D,λ_=>none,(Heap.Ns1.of_empty J).at λo q=>Heap.get?_push_of_some _ q,λ_=>True.intro,λy Z=>absurd rfl Z⟩
theorem wm{prog:Program}{w:World}{env:Env}{e:Expr}{f:Str}{pos:Pos}{s:Shared}{Q:Value->Shared->Prop}(z:attributeBase e f env (eval e env)=eval e env)
  (h:wpAny (model prog w) A (eval e env) (λo q=>wpAny (model prog w) A (getAttr o f true) Q E q) E s):wpAny (model prog w) A (eval (.Attribute e f pos) env) Q E s:=
 Attribute_any_ h (by rw[arm_eval_Attribute,z])
end
noncomputable def DF(K:PySem.W.Frag)(ta:TE)(f:Str):TE:=λσ H Q=>ta σ H λx H1=>∃a C dx fs v,x=.ref a/\H1 a=some (.ins C dx fs)/\Cls K C/\di K C f/\fs.lookup f=some v/\Q v H1
noncomputable def DG(K:PySem.W.Frag)(ta tv:TE)(f:Str):TS:=λD σ H=>tv σ H λy H1=>ta σ H1 λx H2=>∃a C dx fs,x=.ref a/\H2 a=some (.ins C dx fs)/\Cls K C/\di K C f/\fs.length<1000 /\
 D.nx σ (upd H2 a (.ins C dx (fZ f y fs)))
noncomputable def Bv(X:Cx)(op:Operator)(rd:V->V->Hp->VK->Prop):Prop:=
 ∀(pins:List (Addr×Obj)) (s:Shared) (σ:St) (H:Hp) (x y:V) (u v:Value) (Q:VK),Inv X pins σ H s->aA x u->aA y v->rd x y H Q->wpAny (model X.prog X.w) X.A (inplaceOp op u v) (EP X pins σ Q) X.xe s
noncomputable def wn(K:PySem.W.Frag)(ta tv:TE)(rd:V->V->Hp->VK->Prop)(f:Str):TS:=λD σ H=>ta σ H λx H1=>∃a C dx fs v,x=.ref a/\H1 a=some (.ins C dx fs)/\Cls K C/\di K C f/\fs.lookup f=some v /\
 tv σ H1 λy H2=>rd v y H2 λz H3=>∃q fs',H3 a=some (.ins C q fs')/\fs'.length<1000/\D.nx σ (upd H3 a (.ins C q (fZ f z fs')))
section
variable{X:Cx}{o e value:Expr}{f:Str}{pos pos' tpos:Pos}{ta tv:TE}
theorem mv(z:PE X e ta)(D:attributeBase e f X.env (eval e X.env)=eval e X.env):PE X (.Attribute e f pos) (DF X.K ta f):=by
 intro pins s σ H Q I h;refine wm D (thn (z pins s σ H _ I h) λu s1 ⟨x,H1,J,U,a,C,dx,fs,v,ex,Y,c,n,l,q⟩=>?_);subst ex;obtain rfl:u=Value.ref a:=U;exact jW J Y c n l λu' s2 Z ru=>⟨v,H1,Z,ru,q⟩
theorem tU(z:PE X o ta)(J:PE X value tv)(U:swapsWith value (some (.Attribute o f pos')) pos.line X.env=pure false):PS X (.Assign [.Attribute o f pos'] value pos) (DG X.K ta tv f):=by
 intro pins s σ H D I h;refine plainObj_wpAny_Assign_Attribute (thn (J pins s σ H _ I h) λu Y ⟨y,H1,Z,ry,q⟩=>thn (z pins Y σ H1 _ Z q) λov s2 ⟨x,H2,I2,rx,a,C,dx,fs,ex,ea,c,n,l,q2⟩=>?_) U;subst ex;obtain rfl:ov=Value.ref a:=rx;exact jX I2 ea c n l ry λs3 I3=>⟨σ,_,I3,q2⟩
theorem rW{op:Operator}{rd:V->V->Hp->VK->Prop}(Y:PE X o ta)(Z:PE X value tv)(J:Bv X op rd):PS X (.AugAssign (.Attribute o f tpos) op value pos) (wn X.K ta tv rd f):=by
 intro pins s σ H D I h;refine wpAny_AugAssign_AttributeAny (thn (Y pins s σ H _ I h) λov s1 ⟨x,H1,I1,rx,a,C,dx,fs,v,ex,ea,c,n,l,q⟩=>?_);subst ex;obtain rfl:ov=Value.ref a:=rx;refine jW I1 ea c n l λu s2 I2 ru=>thn (Z pins s2 σ H1 _ I2 q) λw3 s3 ⟨y,H2,I3,ry,q3⟩=>thn (J pins s3 σ H2 v y u w3 _ I3 ru ry q3) λw4 s4 ⟨z,H3,I4,rz,b3,fs',U,l',q4⟩=>?_
 exact jX I4 U c n l' rz λs5 I5=>⟨σ,_,I5,q4⟩
noncomputable def DH:V->V->Hp->VK->Prop:=λx y H Q=>∃i j,x=.int i/\y=.int j/\Q (.int (i+j)) H
theorem y4:Bv X .Add DH:=by
 rintro pins s σ H x y u v Q I z D ⟨i,j,rfl,rfl,q⟩;obtain⟨t,rfl⟩:=(show ∃t,u=Value.int i t from z);obtain⟨t',rfl⟩:=(show ∃t',v=Value.int j t' from D);exact PyProof.Rows.iadd_int ⟨.int (i+j),H,I.tok _,⟨_,rfl⟩,q⟩
end
section
variable{X:Cx}{pins:List (Addr×Obj)}{σ:St}{H:Hp}{s:Shared}{A:Around}{E:Value->Shared->Prop}{Q:Value->Shared->Prop}{c:Value}{b:Bool}
end
structure dj(k:Nat)(A:Around):Prop where
 hd:A.handled=none
 dp:A.depth+3*k+5<recursionLimit
 un:A.units+16*k+200<cLine
theorem dj.mono{j k:Nat}{A:Around}(r:dj k A)(h:j<=k):dj j A:=⟨r.hd,by have:=r.dp;omega,by have:=r.un;omega⟩
theorem dj.deeper{k:Nat}{A:Around}(r:dj (k+1) A)(env:Env):dj k (A.deeper env):=
 ⟨r.hd,by have:=r.dp;show A.depth+1+3*k+5<_;omega,by have:=r.un;show A.units+3+16*k+200<_;omega⟩
theorem pA {A:Around}{C:Addr}{us:List Value}{q:List (Str×Value)}:(A.under (.builtin "type.__call__" ⟨.ref C::us,q⟩)).depth=A.depth+1:=by
 first|rfl|simp[Around.under,Code.weight,Code.isCreation,Code.isGuard,Code.isCaller,Code.frames,Code.isFrame,guardIds]
theorem pB {A:Around}{C:Addr}{us:List Value}{q:List (Str×Value)}:(A.under (.builtin "type.__call__" ⟨.ref C::us,q⟩)).units=A.units+1:=by
 first|rfl|simp[Around.under,Code.cUnits,Code.frames,Code.isFrame]
theorem dj.make {k:Nat}{A:Around} (r:dj (k+1) A) (C:Addr) (us:List Value) (q:List (Str×Value)):dj k (A.under (.builtin "type.__call__" ⟨.ref C::us,q⟩)):=
 ⟨r.hd,by have:=r.dp;rw[pA];omega,by have:=r.un;rw[pB];omega⟩
theorem dj.depth{k:Nat}{A:Around}(r:dj k A):A.depth<recursionLimit:=by have:=r.dp;omega
noncomputable def y6:TA:=λ_ H Q=>Q [] H
noncomputable def Bw(ta:TE)(q:TA):TA:=λσ H Q=>ta σ H λx H1=>q σ H1 λxs H2=>Q (x::xs) H2
section
variable{X:Cx}{e:Expr}{es:List Expr}{te:TE}{t:TA}{pos:Pos}
theorem bD:PA X [] y6:=λ_ _ _ _ H Q I h=>Calls.spliced_nil ⟨[],H,I,.nil,h⟩
theorem aI(q:PE X e te)(z:PA X es t)(D:starEach (e::es) X.env=(false,eval e X.env)::starEach es X.env:=by rfl):PA X (e::es) (Bw te t):=by
 intro pos pins s σ H Q I h;rw[D];show wpAny _ _ (spliced ((false,eval e X.env)::backTo pos (starEach es X.env))) _ _ s;refine Calls.spliced_cons (thn (q pins s σ H _ I h) λu J ⟨x,H1,U,Y,Z⟩=>?_);exact thn (z pos pins J σ H1 _ U Z) λus s2 ⟨xs,H2,I2,r2,q2⟩=>⟨x::xs,H2,I2,.cons Y r2,q2⟩
noncomputable def DJ(t:TA):TE:=λσ H Q=>t σ H λxs H1=>xs.length<=sizeLine/\∀p,H1 p=none->Q (.ref p) (upd H1 p (.tup xs))
noncomputable def DK(t:TA):TE:=λσ H Q=>t σ H λxs H1=>xs.length<=sizeLine/\∀p,H1 p=none->Q (.ref p) (upd H1 p (.lst xs))
theorem pC{U}(h:PA X es t):PE X (.Tuple es U pos) (DJ t):=by
 intro pins s σ H Q I Y;refine wpAny_Tuple_spliced (thn (h pos pins s σ H _ I Y) λus D ⟨xs,H1,J,r,z,q⟩=>⟨by rw[<- r.length];exact z,?_⟩);have Z:H1 D.heap.objs.size=none:=J.hok.fresh (Nat.le_refl _);refine⟨.ref D.heap.objs.size,upd H1 D.heap.objs.size (.tup xs),J.laid (t':=D.toks) (λb u e=>Heap.get?_push_of_some _ e) (Nat.le_refl _) ?_,rfl,q _ Z⟩;exact⟨z,us,r,⟨_,Heap.get?_push_size _ rfl,rfl,_,rfl⟩⟩
theorem tV(h:PA X es t):PE X (.List es pos) (DK t):=by
 intro pins s σ H Q I U;refine wpAny_List_spliced (thn (h pos pins s σ H _ I U) λus D ⟨xs,H1,J,r,z,q⟩=>⟨by rw[<- r.length];exact z,?_⟩);have Y:H1 D.heap.objs.size=none:=J.hok.fresh (Nat.le_refl _);refine⟨.ref D.heap.objs.size,upd H1 D.heap.objs.size (.lst xs),J.laid (t':=D.toks) (λb u e=>Heap.get?_push_of_some _ e) (Nat.le_refl _) ?_,rfl,q _ Y⟩;exact⟨z,us,0,r,Heap.get?_push_size _ rfl⟩
end
noncomputable abbrev Sp:=List V->Hp->VK->XK->Prop
noncomputable abbrev CXT:=List Env->Hp->Shared->XK->Value->Shared->Prop
structure pD(P:Program)(w:World)(K:PySem.W.Frag)(mg:Str->Option Value)(base:Heap)(A:Around)(outer:List Env)(s:Shared)(H:Hp):Prop where
 frames:A.frames=some outer
 mod:Mod K mg base
 bs:∀b o,base.get? b=some o->s.heap.get? b=some o/\H b=none
 bsz:base.objs.size<=s.heap.objs.size
 funs:s.heap.FunFrames base outer
 frf:∀b∈frs outer,H b=none
 hok:HOk P w H s.heap
 bare:AllBare s.gens
noncomputable def CE(outer:List Env)(P:Program)(w:World)(H:Hp)(s:Shared)(Q:VK)(u:Value)(s':Shared):Prop:=
 ∃v H',s'.os=s.os/\AllBare s'.gens/\Un (frs outer) [] H H' s.heap s'.heap/\HOk P w H' s'.heap/\aA v u/\Q v H'
noncomputable def CR(CX:CXT)(outer:List Env)(P:Program)(w:World)(H:Hp)(s:Shared)(Q:VK)(E:XK)(r:Result)(s':Shared):Prop:=
 match r with
 | .ok (.ret u)=>CE outer P w H s Q u s'
 | .ok _=>False
 | .error e=>CX outer H s E e s'
structure de(P:Program)(w:World)(K:PySem.W.Frag)(mg:Str->Option Value)(base:Heap)(CX:CXT)(k:Nat)(f:Addr)(fd:FuncData)(ps:List Str)(sp:Sp):Prop where
 len:∀vs H Q E,sp vs H Q E->vs.length=ps.length
 run:∀(A:Around) (outer:List Env) (s:Shared) (H:Hp) (args:Args) (us:List Value) (vs:List V) (Q:VK) (E:XK),dj k A->pD P w K mg base A outer s H->BindsTo s fd args (ps.zip us)->ay vs us->sp vs H Q E ->
  codeAny (model P w) A (.call (.ref f) args) (CR CX outer P w H s Q E) s
theorem pD.make{P:Program}{w:World}{K:PySem.W.Frag}{mg:Str->Option Value}{base:Heap}{A:Around}{outer:List Env}{s:Shared}{H:Hp}(e:pD P w K mg base A outer s H)(C:Addr)(us:List Value)(q:List (Str×Value)) :
  pD P w K mg base (A.under (.builtin "type.__call__" ⟨.ref C::us,q⟩)) outer s H:=⟨by first|exact e.frames|(simpa[Around.under,Code.envs,Code.isFrame,pushEnvs] using e.frames),e.mod,e.bs,e.bsz,e.funs,e.frf,e.hok,e.bare⟩
section
variable{X:Cx}{pins:List (Addr×Obj)}{σ:St}{H:Hp}{s s':Shared}
theorem Inv.env0(I:Inv X pins σ H s):pD X.prog X.w X.K X.mg X.base X.A X.stack s H:=
 ⟨I.ok.frames,I.ok.mod,I.bs,Nat.le_trans I.ok.bsz I.sz,I.stack,I.stkFree,I.hok,I.bare⟩
theorem Inv.after{Q:VK}{u:Value}(I:Inv X pins σ H s)(h:CE X.stack X.prog X.w H s Q u s'):EP X pins σ Q u s':=by
 obtain⟨v,H',os,bare,un,hok,r,q⟩:=h;obtain⟨J,g,d,t,D⟩:=s';obtain rfl:D=s.os:=os;exact⟨v,H',I.call (h':=J) (g':=g) (d':=d) (t':=t) (ch:=[]) un hok bare (λb z=>absurd z (by simp)),r,q⟩
end
noncomputable def tY(sp:Sp)(dvs:List V)(E:XK)(t:TA):TE:=λσ H Q=>t σ H λvs H1=>sp (vs++dvs) H1 Q E
noncomputable def Bx(C:Addr)(m:Str)(sp:Sp)(dvs:List V)(E:XK)(ta:TE)(t:TA):TE:=λσ H Q=>ta σ H λx H1=>∃a dx fs,x=.ref a/\H1 a=some (.ins C dx fs)/\fs.lookup m=none /\
 t σ H1 λvs H2=>sp (x::(vs++dvs)) H2 Q E
noncomputable def By(C:Addr)(sp:Sp)(dvs:List V)(E:XK)(t:TA):TE:=λσ H Q=>t σ H λvs H1=>∀x dx,H1 x=none->H1 dx=none->dx≠x ->
 sp (.ref x::(vs++dvs)) (upd (upd H1 dx (.own x)) x (.ins C dx [])) (λv H2=>v=.non/\Q (.ref x) H2) E
noncomputable def bA(K:PySem.W.Frag)(fd:FuncData)(ps:List Str)(ds:List Value):Prop:=
 ∀(s:Shared) (us:List Value),K.In s.heap->(us++ds).length=ps.length->BindsTo s fd ⟨us,[]⟩ (ps.zip (us++ds))
theorem bA.all{K:PySem.W.Frag}{fd:FuncData}{ps:List Str}(h:∀us:List Value,us.length=ps.length->bindArgs fd ⟨us,[]⟩=pure (ps.zip us)):bA K fd ps []:=λs us _ q=>by
 rw[append_nil]at q ⊢;exact .of_eq (h us q)
noncomputable def gY(CX:CXT)(X:Cx)(E:XK):Prop:=∀(pins:List (Addr×Obj)) (σ:St) (H:Hp) (s:Shared) (e:Value) (s':Shared),Inv X pins σ H s->CX X.stack H s E e s'->X.xe e s'
section
variable{X:Cx}{CX:CXT}{k:Nat}{f C:Addr}{fd:FuncData}{ps:List Str}{sp:Sp}{dvs:List V}{ds:List Value}{E:XK}{x m:Str}{p pos apos:Pos}{e o:Expr}{es:List Expr}{ta:TE}{t:TA}
theorem pE{pins:List (Addr×Obj)}{σ:St}{H:Hp}{s:Shared}{Q:VK}{us:List Value}{vs:List V}(F:de X.prog X.w X.K X.mg X.base CX k f fd ps sp)(D:dj k X.A)(J:bA X.K fd ps ds)(hd:ay dvs ds)(hx:gY CX X E)
  (I:Inv X pins σ H s) (r:ay vs us) (h:sp (vs++dvs) H Q E):wpAny (model X.prog X.w) X.A (call (.ref f) us) (EP X pins σ Q) X.xe s:=by
 have z:ay (vs++dvs) (us++ds):=r.append hd;have U:(us++ds).length=ps.length:=by rw[<- z.length];exact F.len _ _ _ _ h
 refine wpAny_call (codeAny_mono (F.run X.A X.stack s H ⟨us,[]⟩ (us++ds) (vs++dvs) Q E D I.env0 (J s us I.kIn U) z h) λr s' q=>?_);cases r with
 |error e=>exact hx pins σ H s e s' I q
 |ok Y =>
  cases Y with
  |ret u=>exact I.after q
  |next=>exact False.elim q
  |brk=>exact False.elim q
  |cont=>exact False.elim q
theorem jF(F:de X.prog X.w X.K X.mg X.base CX k f fd ps sp)(U:dj k X.A)(Y:Gl X x)(Z:X.mg x=some (.ref f))(hk:PySem.W.keepIn X.K (.ref f)=true)(hb:bA X.K fd ps ds)(hd:ay dvs ds)(hx:gY CX X E)
  (ha:PA X (e::es) t) (z:(x==("__debug__":Str))=false:=by decide) (he:starEach (e::es) X.env=(false,eval e X.env)::starEach es X.env:=by rfl) (D:(backTo pos (starEach es X.env)).any (·.1)=false:=by rfl) :
  PE X (.Call (.Name x p) (e::es) [] pos) (tY sp dvs E t):=by
 intro pins s σ H Q I h;refine wpAny_Call_Name_kw (ie I Y Z ?_ z);refine PySem.W.callWith_K (h₀:=X.base) I.ok.mod.kin hk (thn (ha pos pins s σ H _ I h) λus s1 ⟨vs,H1,J,r,q⟩=>⟨J.kIn,?_⟩) he D;exact pE F U hb hd hx J r q
theorem tZ(F:de X.prog X.w X.K X.mg X.base CX k f fd ps sp)(z:dj k X.A)(D:Gl X x)(J:X.mg x=some (.ref f))(U:PySem.W.keepIn X.K (.ref f)=true)(Y:bA X.K fd ps ds)(hd:ay dvs ds)(hx:gY CX X E)
  (q:(x==("__debug__":Str))=false:=by decide):PE X (.Call (.Name x p) [] [] pos) (tY sp dvs E y6):=by
 intro pins s σ H Q I h;refine wpAny_Call_Name_kw (ie I D J ?_ q);exact PySem.W.callWith_K0 I.kIn U (pE (us:=[]) F z Y hd hx I .nil h)
theorem jY{pl:Sem Bool}(U:PE X o ta)(c:Cls X.K C)(D:nD X.K C m f)(F:de X.prog X.w X.K X.mg X.base CX k f fd ps sp)(Y:dj k X.A)(Z:bA X.K fd ps ds)(hd:ay dvs ds)(hx:gY CX X E)
  (ht:eval (.Call (.Attribute o m apos) [] [] pos) X.env=(do
   let J <- eval o X.env
   standAt apos.atName
   let (f,first) <- holding [J] (getMethod J m pl)
   callWith pos f first (backTo pos (starEach [] X.env)) (backToKw pos (keywordEach [] X.env))):=by rfl) :
  PE X (.Call (.Attribute o m apos) [] [] pos) (Bx C m sp dvs E ta y6):=by
 intro pins s σ H Q I h;refine PySem.W.methodCall_KW (pl:=pl) (thn (U pins s σ H _ I h) λu s1 ⟨x,H1,z,rx,a,dx,fs,ex,ea,l,q⟩=>?_) ht;subst ex;obtain rfl:u=Value.ref a:=rx;refine pz z ea c D l ?_;exact PySem.W.callWith_K0 (first:=[.ref a]) z.kIn D.kp (pE (us:=[.ref a]) (vs:=[.ref a]) F Y Z hd hx z (.cons rfl .nil) q)
structure Mk(K:PySem.W.Frag)(C f:Addr):Prop where
 makes:PySem.W.makesIn K C=true
 init:PySem.W.findIn K (.ref C) "__init__"=some (some (.ref f))
 fn:PySem.W.isFn K (.ref f)=true
 kp:PySem.W.keepIn K (.ref C)=true
theorem t0{pins:List (Addr×Obj)}{σ:St}{H:Hp}{s:Shared}{Q:VK}{us:List Value}{vs:List V}(M:Mk X.K C f)(F:de X.prog X.w X.K X.mg X.base CX k f fd ps sp)(hr:dj (k+1) X.A)(hb:bA X.K fd ps ds)(hd:ay dvs ds)
  (hx:gY CX X E) (I:Inv X pins σ H s) (r:ay vs us)
  (h:∀x dx,H x=none->H dx=none->dx≠x->sp (.ref x::(vs++dvs)) (upd (upd H dx (.own x)) x (.ins C dx [])) (λv H2=>v=.non/\Q (.ref x) H2) E) :
  wpAny (model X.prog X.w) X.A (call (.ref C) us) (EP X pins σ Q) X.xe s:=by
 have hq:=h (s.heap.objs.size+1) s.heap.objs.size (I.hok.fresh (Nat.le_succ _)) (I.hok.fresh (Nat.le_refl _)) (Nat.ne_of_lt (Nat.lt_succ_self _));have I2:=Inv.made (C:=C) I;have r2:ay (V.ref (s.heap.objs.size+1)::(vs++dvs)) (Value.ref (s.heap.objs.size+1)::(us++ds)):=.cons rfl (r.append hd);have hl:(Value.ref (s.heap.objs.size+1)::us++ds).length=ps.length:=by
  have e:=r2.length;rw[F.len _ _ _ _ hq]at e;exact e.symm
 refine wpAny_call (tR (f:=f) I.kIn M.makes M.init (beq_iff_eq.mp M.fn) (codeAny_mono (F.run _ X.stack _ _ ⟨Value.ref (s.heap.objs.size+1)::us,[]⟩ (Value.ref (s.heap.objs.size+1)::(us++ds)) _ _ E (hr.make C us [])
  (I2.env0.make C us []) (hb _ (Value.ref (s.heap.objs.size+1)::us) I2.kIn hl) r2 hq) λr s' hq'=>?_))
 cases r with
 |error e=>exact hx pins σ _ _ e s' I2 hq'
 | ok fl =>
  cases fl with
  |ret u =>
   obtain⟨v,H',I3,rv,ev,q3⟩:=I2.after hq';subst ev;exact⟨rv,⟨V.ref (s.heap.objs.size+1),H',I3,rfl,q3⟩⟩
  |next=>exact False.elim hq'
  |brk=>exact False.elim hq'
  |cont=>exact False.elim hq'
theorem wo(M:Mk X.K C f)(F:de X.prog X.w X.K X.mg X.base CX k f fd ps sp)(U:dj (k+1) X.A)(Y:Gl X x)(Z:X.mg x=some (.ref C))(hb:bA X.K fd ps ds)(hd:ay dvs ds)(hx:gY CX X E)
  (ha:PA X (e::es) t) (z:(x==("__debug__":Str))=false:=by decide) (he:starEach (e::es) X.env=(false,eval e X.env)::starEach es X.env:=by rfl) (D:(backTo pos (starEach es X.env)).any (·.1)=false:=by rfl) :
  PE X (.Call (.Name x p) (e::es) [] pos) (By C sp dvs E t):=by
 intro pins s σ H Q I h;refine wpAny_Call_Name_kw (ie I Y Z ?_ z);refine PySem.W.callWith_K (h₀:=X.base) I.ok.mod.kin M.kp (thn (ha pos pins s σ H _ I h) λus s1 ⟨vs,H1,J,r,q⟩=>⟨J.kIn,?_⟩) he D;exact t0 M F U hb hd hx J r q
end
section
variable{X:Cx}{CX:CXT}{k:Nat}{f C:Addr}{fd:FuncData}{ps ks:List Str}{sp:Sp}{E:XK}{x m:Str}{p pos apos kpos:Pos}{e o:Expr}{es:List Expr}{kws:List Keyword}{te ta:TE}{t tk:TA}{nm:Option Str}
variable{g:List Value->List Value->List Value}{gV:List V->List V->List V}
end
structure gu(N P:List Str)(sc:Scope):Prop where
 kind:sc.kind=.function
 co:sc.isCoroutine=false
 gen:sc.isGenerator=false
 nd:N.Nodup
 pre:N.take P.length=P
 par:∀x∈P,sc.names.lookup x=some .local\/sc.names.lookup x=some .cell
 nofree:∀y∈sc.names,y.2≠.free
theorem lF{kindOf:Str->Option NameKind}{x:Str}:∀{binds:List (Str×Value)}{m:Str->Option Value},(∀v,(x,v)∉binds)->bindL kindOf binds m x=m x
 | [],_,_=>rfl
 | (n,v)::r,m,h=>by
  unfold bindL;rw[lF λw hw=>h w (mem_cons_of_mem _ hw)];split
  ·have:x≠n:=by rintro rfl;exact h v mem_cons_self
   simp[this]
  ·rfl
theorem lG{kindOf:Str->Option NameKind}{x:Str}:∀{binds:List (Str×Value)}{m:Str->Option Value},(∀v,(x,v)∉binds)->bindC kindOf binds m x=m x
 | [],_,_=>rfl
 | (n,v)::r,m,h=>by
  unfold bindC;rw[lG λw hw=>h w (mem_cons_of_mem _ hw)];split
  ·rfl
  ·have:x≠n:=by rintro rfl;exact h v mem_cons_self
   simp[this]
theorem lH{kindOf:Str->Option NameKind}{x:Str}{v:Value}:∀{P:List Str}{vs:List Value}{i:Nat}{m:Str->Option Value},P.Nodup->P[i]?=some x->vs[i]?=some v->kindOf x=some .local ->
  bindL kindOf (P.zip vs) m x=some v
 | [],_,_,_,_,h,_,_=>by simp at h
 | _::_,[],_,_,_,_,h,_=>by simp at h
 |p::P,w::vs,0,m,nd,h1,h2,q=>by
  simp at h1 h2;subst h1;subst h2
  show bindL kindOf ((p,w)::P.zip vs) m p=_;unfold bindL;rw[lF λv z=>(nodup_cons.mp nd).1 (of_mem_zip z).1,if_pos q];simp
 |p::P,w::vs,i+1,m,nd,h1,h2,q=>by
  show bindL kindOf ((p,w)::P.zip vs) m x=_;unfold bindL;exact lH (i:=i) (nodup_cons.mp nd).2 (by simpa using h1) (by simpa using h2) q
theorem lI{kindOf:Str->Option NameKind}{x:Str}{v:Value}:∀{P:List Str}{vs:List Value}{i:Nat}{m:Str->Option Value},P.Nodup->P[i]?=some x->vs[i]?=some v->kindOf x≠some .local ->
  bindC kindOf (P.zip vs) m x=some v
 | [],_,_,_,_,h,_,_=>by simp at h
 | _::_,[],_,_,_,_,h,_=>by simp at h
 |p::P,w::vs,0,m,nd,h1,h2,q=>by
  simp at h1 h2;subst h1;subst h2
  show bindC kindOf ((p,w)::P.zip vs) m p=_;unfold bindC;rw[lG λv z=>(nodup_cons.mp nd).1 (of_mem_zip z).1,if_neg q];simp
 |p::P,w::vs,i+1,m,nd,h1,h2,q=>by
  show bindC kindOf ((p,w)::P.zip vs) m x=_;unfold bindC;exact lI (i:=i) (nodup_cons.mp nd).2 (by simpa using h1) (by simpa using h2) q
noncomputable def dh(N:List Str)(vs:List V):St:=vs.map some++replicate (N.length-vs.length) none
noncomputable def nE(CX:CXT)(P:Program)(w:World)(K:PySem.W.Frag)(mg:Str->Option Value)(base:Heap)(N:List Str)(qual:Str)(scope:Scope)(f:Addr)(z:Value)(A:Around)(outer:List Env)(s:Shared)(H:Hp)(E:XK):Cx where
 prog:=P
 w:=w
 K:=K
 mg:=mg
 base:=base
 A:=A.deeper (envOfC qual scope s.heap.objs.size f z)
 N:=N
 s₀:=s
 H₀:=H
 env:=envOfC qual scope s.heap.objs.size f z
 outer:=outer
 stack:=envOfC qual scope s.heap.objs.size f z::outer
 ex:=[]
 calm:=true
 fn:=λ_=>true
 pn:=[]
 xe:=λe s'=>wpAny (model P w) (A.deeper (envOfC qual scope s.heap.objs.size f z)) (leaving (envOfC qual scope s.heap.objs.size f z) e) (λ_ q=>CX outer H s E e q) (λe' q=>CX outer H s E e' q) s'
theorem nF{sc:Scope}{n:Nat}{x:Str}(h:sc.names.lookup x=some .cell):∃c,(cellsFrom n sc.names []).lookup x=some c:=by
 have q:=PySem.W.cellsFrom_some sc.names n [] (.inl h);exact isSome_iff_exists.mp q
theorem rX{CX:CXT}{P:Program}{w:World}{K:PySem.W.Frag}{mg:Str->Option Value}{base:Heap}{N ps:List Str}{qual:Str}{scope:Scope}{f:Addr}{cd:Value}{A:Around}{outer:List Env}{s s1:Shared}{H:Hp}{E:XK}{us:List Value}{vs:List V}
  (S:gu N ps scope) (hd:A.handled=none) (D:pD P w K mg base A outer s H) (hl:vs.length=ps.length) (r:ay vs us)
  (x:InCallC s s.heap.objs.size (bindL (envOfC qual scope s.heap.objs.size f cd).kindOf (ps.zip us) λ_=>none) (cellsFrom (s.heap.objs.size+1) scope.names []) (bindC (envOfC qual scope s.heap.objs.size f cd).kindOf (ps.zip us) λ_=>none) s1) :
  Inv (nE CX P w K mg base N qual scope f cd A outer s H E) [] (dh N vs) H s1:=by
 have a1:ps.length<=N.length:=by have:=congrArg List.length S.pre;rw[length_take]at this;omega
 obtain⟨h1,tk,rfl,hk⟩:=x.done;have J:∀b:Addr,b∉(nE CX P w K mg base N qual scope f cd A outer s H E).ex:=λb z=>absurd (show b∈([]:List Addr) from z) (by simp)
 refine⟨⟨D.mod,S.kind,rfl,rfl,Nat.le_refl _,λy z c h1 h2=>?_,λy U=>?_,λy c _ h=>?_,λ_=>hd,Around.frames_deeper D.frames,.inr ⟨rfl,rfl⟩,λb z=>absurd z (J b),D.bs,D.bsz,λb _ _=>J b,λb z=>absurd z (J b),D.funs,D.frf⟩,
  rfl,D.bare,Un.kept hk,⟨_,x.toInCall.ns,λi y v h1 h2 h3=>?_⟩,λy c h=>⟨_,x.cell y c h⟩,D.hok.fresh (Nat.le_refl _),λy c h=>?_,λp Y=>absurd (show p∈([]:List (Addr×Obj)) from Y) (by simp),D.hok.kept hk,?_⟩
 ·exact name_of_addr x.apart (PySem.mem_of_lookup h1) (PySem.mem_of_lookup h2)
 ·have U:scope.names.lookup y=some .cell\/scope.names.lookup y=some .free:=U;rcases U with U|U
  ·exact nF U
  ·exact absurd rfl (S.nofree _ (PySem.mem_of_lookup U))
 ·exact Nat.le_of_lt (x.above y c (PySem.mem_of_lookup h))
 ·have hi:i<vs.length:=by
   unfold dh at h2;by_cases hi:i<vs.length
   ·exact hi
   ·rw[getElem?_append_right (by simpa using hi)]at h2;rw[getElem?_replicate]at h2;split at h2<;>cases h2
  have ha:vs[i]?=some v:=by
   unfold dh at h2;rw[getElem?_append_left (by simpa using hi),getElem?_map]at h2;cases e:vs[i]? with
   |none=>rw[e]at h2;cases h2
   |some a=>rw[e]at h2;cases h2;rfl
  obtain⟨u,hu,rv⟩:=r.get ha;have Y:ps[i]?=some y:=by
   rw[<- S.pre,getElem?_take_of_lt (by omega)];exact h1
  have Z:ps.Nodup:=by rw[<- S.pre];exact S.nd.sublist (take_sublist _ _)
  refine⟨u,rv,?_⟩;rcases S.par y (mem_of_getElem? Y) with k|k
  ·exact .inl ⟨k,lH Z Y hu k⟩
  ·obtain⟨c,e⟩:=nF (n:=s.heap.objs.size+1) k;refine .inr ⟨.inl k,c,e,?_⟩;have q:=x.cell y c e;rw[lI Z Y hu (by show scope.names.lookup y≠_;rw[k];decide)]at q;exact q
 ·exact D.hok.fresh (Nat.le_of_lt (x.above y c (PySem.mem_of_lookup h)))
 ·unfold dh;show _=N.length;rw[length_append,length_map,length_replicate];omega
theorem lJ{CX:CXT}{P:Program}{w:World}{K:PySem.W.Frag}{mg:Str->Option Value}{base:Heap}{k:Nat}{f:Addr}{name qual:Str}{params:Arguments}{body:List Stmt}{scope:Scope}{dV kV Z pm z ct oc:Value}{an od:Option Addr}
  {aO:Array (Option Value)}{N ps:List Str}{sp:Sp} (lk:K.lookup f=some ⟨oc,od,.func (PySem.W.fnOf name qual params body scope dV kV Z pm an z ct),aO⟩) (a0:PySem.W.codeIn K z qual=true) (S:gu N ps scope)
  (len:∀vs H Q E,sp vs H Q E->vs.length=ps.length)
  (D:∀(A:Around) (outer:List Env) (s:Shared) (H:Hp) (vs:List V) (Q:VK) (E:XK),dj k (A.deeper (envOfC qual scope s.heap.objs.size f z))->sp vs H Q E ->
   ∃t,PSs (nE CX P w K mg base N qual scope f z A outer s H E) body t/\t { nx:=λ_ H'=>Q .non H',rt:=Q } (dh N vs) H) :
  de P w K mg base CX (k+1) f (PySem.W.fnOf name qual params body scope dV kV Z pm an z ct) ps sp:=by
 refine⟨len,λA outer s H args us vs Q E hr e0 hb r ap=>?_⟩;have hl:=len _ _ _ _ ap;have KX:K.In s.heap:=e0.mod.kin.keeps λb o e=>(e0.bs b o e).1
 have a2:s.heap.NoLimit:=e0.mod.nolimit.keeps λb o e=>(e0.bs b o e).1
 have U:∀y∈ps.zip us,scope.names.lookup y.1=some .local\/(scope.names.lookup y.1=some .cell/\((cellsFrom (s.heap.objs.size+1) scope.names []).lookup y.1).isSome=true):=λ⟨n,v⟩ hy=>by
  rcases S.par n (of_mem_zip hy).1 with q|q
  ·exact .inl q
  ·exact .inr ⟨q,PySem.W.cellsFrom_some _ _ _ (.inl q)⟩
 refine codeAny_call_function hr.depth (KX _ _ lk) rfl S.co S.gen rfl (PySem.W.codeRec_of KX a0) (hb _ _ _ _ ?_);refine wpAny_newFunctionEnv_cells S.kind U λenv he s1 x=>?_
 subst he;refine⟨a2.keeps x.toInCall.keep,codeAny_func ?_⟩;obtain⟨t,ht,hq⟩:=D A outer s H vs Q E (hr.deeper _) ap;have I:Inv (nE CX P w K mg base N qual scope f z A outer s H E) [] (dh N vs) H s1:=rX S hr.hd e0 hl r x;refine wpAny_mono (ht [] s1 (dh N vs) H _ I hq) (λfl s' Y=>?_) λe s' Y=>Y
 have fin:∀{σ':St}{H':Hp}{v:V}{u:Value},Inv (nE CX P w K mg base N qual scope f z A outer s H E) [] σ' H' s'->aA v u->Q v H'->CE outer P w H s Q u s':=
  λ{σ' H' v u} J rv q=>⟨v,H',J.os,J.bare,J.base,J.hok,rv,q⟩
 cases fl with
 |ret u =>
  obtain⟨v,σ',H',J,rv,q⟩:=Y;exact fin J rv q
 |next =>
  obtain⟨σ',H',J,q⟩:=Y;exact fin (v:=V.non) (u:=Value.none) J rfl q
 |brk =>
  obtain⟨_,_,_,q⟩:=Y;exact False.elim q
 |cont =>
  obtain⟨_,_,_,q⟩:=Y;exact False.elim q
section
variable{X:Cx}{x:Str}{p pos:Pos}{e:Expr}{es:List Expr}{t:TA}{id T:String}{r:List V->Hp->VK->Prop}
noncomputable def tCB(r:List V->Hp->VK->Prop)(t:TA):TE:=λσ H Q=>t σ H λvs H1=>r vs H1 Q
theorem fq (hc:bC X (.builtin id) r) (D:Gl X x) (J:X.mg x=none) (U:bootBuiltins x=some (.builtin id)) (Y:PA X (e::es) t) (Z:x ≠ "__name__":=by decide) (q:(x==("__debug__":Str))=false:=by decide)
  (he:starEach (e::es) X.env=(false,eval e X.env)::starEach es X.env:=by rfl) (z:(backTo pos (starEach es X.env)).any (·.1)=false:=by rfl):PE X (.Call (.Name x p) (e::es) [] pos) (tCB r t):=by
 intro pins s σ H Q I h;refine wpAny_Call_Name_kw (fY I D J U ?_ Z q);exact PyProof.Rows.callWith_builtin1 (thn (Y pos pins s σ H _ I h) λus s1 ⟨vs,H1,I1,r1,q1⟩=>hc pins s1 σ H1 vs us Q I1 r1 q1) he z
theorem gw (hc:bC X (.type T) r) (D:Gl X x) (J:X.mg x=none) (U:bootBuiltins x=some (.type T)) (Y:PA X (e::es) t) (Z:x ≠ "__name__":=by decide) (q:(x==("__debug__":Str))=false:=by decide)
  (he:starEach (e::es) X.env=(false,eval e X.env)::starEach es X.env:=by rfl) (z:(backTo pos (starEach es X.env)).any (·.1)=false:=by rfl):PE X (.Call (.Name x p) (e::es) [] pos) (tCB r t):=by
 intro pins s σ H Q I h;refine wpAny_Call_Name_kw (fY I D J U ?_ Z q);exact PyProof.Rows.callWith_type1 (thn (Y pos pins s σ H _ I h) λus s1 ⟨vs,H1,I1,r1,q1⟩=>hc pins s1 σ H1 vs us Q I1 r1 q1) he z
end
end L2
namespace HT
open PySem PyProof.Rows List Option
noncomputable def lexLt:List Int->List Int->Bool
 | [],[]=>false
 | [],_::_=>true
 | _::_,[]=>false
 |x::xs,y::ys=>if x=y then lexLt xs ys else decide (x<y)
theorem lexLt_cons(x y:Int)(xs ys:List Int):lexLt (x::xs) (y::ys)=if x=y then lexLt xs ys else decide (x<y):=rfl
theorem k_:lexLt [] []=false:=rfl
theorem jZ(y:Int)(ys:List Int):lexLt [] (y::ys)=true:=rfl
theorem j0(x:Int)(xs:List Int):lexLt (x::xs) []=false:=rfl
theorem t4(A:Around)(s:Shared)(a:Int)(t:Tok)(c:Int)(u:Tok):∃e,SeqAt.EqAt A s (.int a t) (.int c u) e/\(e=true ↔ a=c):=
 ⟨(a==c),SeqAt.EqAt.int_int a t c u,by simp⟩
theorem t5(A:Around)(s:Shared)(a:Int)(t:Tok)(c:Int)(u:Tok)(prog:Program)(w:World)(E:Value->Shared->Prop)(Q:Value->Shared->Prop)(h:Q (.bool (decide (a<c))) s) :
  wpAny (model prog w) A (richCompare .Lt (.int a t) (.int c u)) Q E s:=
 (PyProof.Rows.lt_int h:wpAny (model prog w) A (compareOp .Lt (.int a t) (.int c u)) Q E s)
section
open PySem.SeqAt List Option
open PySem.AutoSeq1 (wpAny_loadPart')
open PySem.MeetsSeq PySem.MeetsSeq2 PySem.MeetsSeq3 List Option
theorem tuple_lt_ints(l b:Addr)(items items2:Array Value)(n n2:Nat)(dd dd2:Option Addr)(sl sl2:Array (Option Value))(ns ms:List Int)(hi:IntsAre items.toList ns)(hj:IntsAre items2.toList ms) :
  Meets (Builtin.«tuple.__lt__» ⟨[.ref l,.ref b],[]⟩)
   (λ_ R s=>s.heap.get? l=some { cls:=.type "tuple",dict:=dd,data:=.seq items n,slots:=sl }/\s.heap.get? b=some { cls:=.type "tuple",dict:=dd2,data:=.seq items2 n2,slots:=sl2 } /\
    R (.ok (.ret (.bool (lexLt ns ms)))) s):=
 .of_wp λprog w A R s h=>by
  obtain⟨hp,g,d,tk,os⟩:=s;obtain⟨hl,hb,h⟩:=h
  have f2:=AutoSeq1.sub_tuple_tuple;have z1:items.size=ns.length:=by rw[<- hi.length];simp
  have z2:items2.size=ms.length:=by rw[<- hj.length];simp
  wp_walk using wpAny_loadPart' hl,wpAny_loadPart' hb,wpAny_forIn_list _ (λbR b s'=>b.1=none/\s'=⟨hp,g,d,tk,os⟩/\∃(vs ws:List Value) (ns' ms':List Int),bR=vs.zip ws /\
   IntsAre vs ns'/\IntsAre ws ms'/\ns'.length+items2.size=ms'.length+items.size/\R (.ok (.ret (.bool (lexLt ns' ms')))) ⟨hp,g,d,tk,os⟩) _
  case turn =>
   rintro ⟨y,x⟩ bR b s' ⟨hb',rfl,vs,ws,ns',ms',hz,hvi,hwi,hlen,hR⟩;cases hvi with
   |nil=>rw[zip_nil_left]at hz;cases hz
   | cons a t hvi' =>
    cases hwi with
    |nil=>rw[zip_nil_right]at hz;cases hz
    | cons c u hwi' =>
     rw[zip_cons_cons]at hz;injection hz with hyx hrest
     injection hyx with hy hx
     subst hy hx;rw[lexLt_cons]at hR;simp only[length_cons]at hlen;obtain⟨e,he,hiff⟩:=t4 A.in1 ⟨hp,g,d,tk,os⟩ a t c u;refine wpAny_bind (he prog w _ _ ?_);cases e with
     |true =>
      rw[if_pos (hiff.mp rfl)]at hR
      wp_walk
      exact⟨rfl,rfl,_,_,_,_,hrest,hvi',hwi',by omega,hR⟩
     |false =>
      rw[if_neg (λq=>absurd (hiff.mpr q) Bool.false_ne_true)]at hR;have hri:=t5 A.in1 ⟨hp,g,d,tk,os⟩ a t c u prog w
      wp_walk using hri
      exact⟨_,rfl,by simpa using hR⟩
  case fin =>
   rintro ⟨b1,b2⟩ s' ⟨hb',rfl,vs,ws,ns',ms',hz,hvi,hwi,hlen,hR⟩;simp only at hb';subst hb';have hv:lexLt ns' ms'=decide (items.size<items2.size):=by
    cases hvi with
    | nil =>
     cases hwi with
     |nil =>
      simp only[length_nil]at hlen;rw[k_];exact(decide_eq_false (by omega)).symm
     |cons c u hw =>
      simp only[length_nil,length_cons]at hlen;rw[jZ];exact(decide_eq_true (by omega)).symm
    | cons a t hv =>
     cases hwi with
     |nil =>
      simp only[length_nil,length_cons]at hlen;rw[j0];exact(decide_eq_false (by omega)).symm
     |cons c u hw =>
      rw[zip_cons_cons]at hz;cases hz
   rw[hv]at hR
   wp_walk
   exact⟨_,rfl,by simpa[Builtin.Tuple.tupleCompareSizes] using hR⟩
  case h =>
   exact⟨rfl,rfl,items.toList,items2.toList,ns,ms,rfl,hi,hj,by omega,h⟩
end
section
variable{prog:Program}{w:World}{A:Around}{E:Value->Shared->Prop}{s:Shared}
theorem lt_tupInts{l b:Addr}{items q:Array Value}{ns ms:List Int}{Q:Value->Shared->Prop}(hl:IsTup s.heap l items)(hb:IsTup s.heap b q)(hi:IntsAre items.toList ns)(hj:IntsAre q.toList ms)
  (hu:A.units<cLine) (h:Q (.bool (lexLt ns ms)) s):wpAny (model prog w) A (compareOp .Lt (.ref l) (.ref b)) Q E s:=by
 obtain⟨⟨cls,dd,data,sl⟩,Z,hc,n,hd⟩:=id hl;obtain⟨⟨ao,U,data2,Y⟩,z,D,n2,J⟩:=id hb;simp only at hc hd D J;subst hc hd D J;exact richCompare_meets_room (op:=.Lt) ⟨_,Z,rfl⟩ ⟨_,z,rfl⟩ PySem.F.slot_tuple_lt PySem.F.entry_tuple_lt (PySem.F.args_tuple_lt_2 _ _) (tuple_lt_ints l b items q n n2 dd U sl Y ns ms hi hj)
  ⟨Z,z,show Value.bool (lexLt ns ms)≠Value.notImplemented/\Q (.bool (lexLt ns ms)) s from⟨(λx=>nomatch x),h⟩⟩ hu
theorem cat_tup{t b:Addr}{vs ws:List Value}{Q:Value->Shared->Prop}(ht:IsTup s.heap t vs.toArray)(hb:IsTup s.heap b ws.toArray)(hv:vs≠[])
  (h1:ws=[]->Q (.ref t) s) (h2:ws≠[]->Q (.ref s.heap.objs.size) { s with heap:=s.heap.push { cls:=.type "tuple",data:=.seq (vs++ws).toArray } })
  (Z:vs.length+ws.length<=sizeLine):wpAny (model prog w) A (binaryOp .Add (.ref t) (.ref b)) Q E s:=by
 obtain⟨⟨cls,dd,data,sl⟩,Y,hc,n,hd⟩:=id ht;obtain⟨⟨aO,z,data2,D⟩,q,J,n2,U⟩:=id hb;simp only at hc hd J U;subst hc hd J U;have e:vs.toArray++ws.toArray=(vs++ws).toArray:=by simp
 by_cases hw:ws=[]
 ·exact concat_meets ⟨_,Y,rfl⟩ ⟨_,q,rfl⟩ noFill_tuple_add seq_tuple_add PySem.F.slot_tuple_add PySem.F.entry_tuple_add (PySem.F.args_tuple_add_2 _ _)
   (tuple_addW1 t b vs.toArray ws.toArray n n2 dd z sl D (by simpa using hv) (by simp[hw])) ⟨Y,q,h1 hw⟩
 ·refine concat_meets ⟨_,Y,rfl⟩ ⟨_,q,rfl⟩ noFill_tuple_add seq_tuple_add PySem.F.slot_tuple_add PySem.F.entry_tuple_add (PySem.F.args_tuple_add_2 _ _)
   (tuple_addW2 t b vs.toArray ws.toArray n n2 dd z sl D (by simpa using hv) (by simpa using hw) (by rw[List.size_toArray,List.size_toArray];exact Z)) ⟨Y,q,?_⟩
  rw[e];exact h2 hw
noncomputable def sIx(n d:Nat):Option Int->Nat
 |none=>d
 |some v=>if v<0 then (v+(n:Int)).toNat else min v.toNat n
theorem y7(n d:Nat)(hd:d<=n)(o:Option Int):sIx n d o<=n:=by
 cases o with
 |none=>exact hd
 |some v =>
  show(if v<0 then (v+(n:Int)).toNat else min v.toNat n)<=n;by_cases q:v<0
  ·rw[if_pos q];omega
  ·rw[if_neg q];exact Nat.min_le_right _ _
theorem qH(v:Int)(n d:Nat):(if v<0 then max (v+(n:Int)) 0 else min v (n:Int))=((sIx n d (some v):Nat):Int):=by
 show(if v<0 then max (v+(n:Int)) 0 else min v (n:Int))=(((if v<0 then (v+(n:Int)).toNat else min v.toNat n):Nat):Int);by_cases q:v<0
 ·simp only[if_pos q];omega
 ·simp only[if_neg q];omega
theorem pF(lo hi:Option Int)(n:Nat):Builtin.Slice.sliceAdjust lo hi 1 (n:Int)=(((sIx n 0 lo:Nat):Int),((sIx n n hi:Nat):Int)):=by
 have h1:¬ ((1:Int)<0):=by omega
 unfold Builtin.Slice.sliceAdjust;simp only[h1,if_false];refine Prod.ext ?_ ?_
 ·cases lo with
  |none=>rfl
  |some v=>exact qH v n 0
 ·cases hi with
  |none=>rfl
  |some v=>exact qH v n n
theorem pG(i j:Nat):Builtin.Slice.slicePlaces (i:Int) (j:Int) 1=j-i:=by
 unfold Builtin.Slice.slicePlaces;have h1:(1:Int) > 0:=by omega
 simp only[h1,if_true,Int.ediv_one];split<;>omega
theorem j3{v:Value}{o:Option Int}{Q:Option Int->Shared->Prop}(p:IsPart v o)(h:Q o s):wpAny (model prog w) A (Builtin.Slice.slicePartIndex v) Q E s:=by
 cases p with
 |none=>exact slicePart_none h
 |int i t=>exact slicePart_int h
theorem fu{U:Addr}{D J:Value}{lo hi:Option Int}{n:Nat}{Q:Int×Int×Nat->Shared->Prop}(Y:s.heap.IsSliceOf U D J .none)(pl:IsPart D lo)(Z:IsPart J hi)
  (h:Q (((sIx n 0 lo:Nat):Int),1,sIx n n hi-sIx n 0 lo) s):wpAny (model prog w) A (Builtin.Slice.sliceApplied (.ref U) (pure (n:Int))) Q E s:=by
 obtain⟨os,q,ao,z⟩:=id Y;unfold Builtin.Slice.sliceApplied Builtin.Slice.sliceFields;refine wpAny_bind (wpAny_bind (wpAny_field q z (x:=D) rfl (wpAny_bind (wpAny_field q z (x:=J) rfl (wpAny_bind (wpAny_field q z (x:=.none) rfl (wpAny_pure ?_)))))));refine wpAny_bind (slicePart_none ?_);show wpAny _ _ (if ((1:Int)==0)=true then _ else _) _ _ s;rw[if_neg (by decide)];refine wpAny_bind (j3 pl (wpAny_bind (j3 Z (wpAny_bind (wpAny_pure ?_)))));show wpAny _ _ (match Builtin.Slice.sliceAdjust lo hi 1 (n:Int) with|(lo,hi)=>pure (lo,(1:Int),Builtin.Slice.slicePlaces lo hi 1)) _ _ s;rw[pF lo hi n];show wpAny _ _ (pure (((sIx n 0 lo:Nat):Int),(1:Int),Builtin.Slice.slicePlaces ((sIx n 0 lo:Nat):Int) ((sIx n n hi:Nat):Int) 1)) _ _ s;rw[pG];exact wpAny_pure h
theorem t7(xs:Array Value)(i k:Nat):((range k).filterMap λ(m:Nat)=>xs[((i:Int)+(m:Int)*1).toNat]?).toArray=((xs.toList.drop i).take k).toArray:=by
 have e:(λ(m:Nat)=>xs[((i:Int)+(m:Int)*1).toNat]?)=λm=>xs[i+m]?:=by
  funext m
  have:((i:Int)+(m:Int)*1).toNat=i+m:=by omega
  rw[this]
 rw[e];have:=pick_run xs i k;rw[filterMap_map]at this;have q:((λx=>xs[x]?) ∘ λx=>i+x)=λm=>xs[i+m]?:=rfl
 rw[q]at this;rw[this]
theorem getItem_tuple_cut{t J:Addr}{items:Array Value}{vl vu:Value}{lo hi:Option Int}{Q:Value->Shared->Prop}(D:IsTup s.heap t items)(hs:s.heap.IsSliceOf J vl vu .none)(pl:IsPart vl lo)(pu:IsPart vu hi)
  (hw:¬ (sIx items.size 0 lo=0/\sIx items.size items.size hi=items.size))
  (h:Q (.ref s.heap.objs.size) { s with heap:=s.heap.push { cls:=.type "tuple",data:=.seq ((items.toList.drop (sIx items.size 0 lo)).take (sIx items.size items.size hi-sIx items.size 0 lo)).toArray } })
  (a2:items.size<=sizeLine):wpAny (model prog w) A (getItem (.ref t) (.ref J)) Q E s:=by
 have z:sizeOk (.seq ((items.toList.drop (sIx items.size 0 lo)).take (sIx items.size items.size hi-sIx items.size 0 lo)).toArray):=by
  show((items.toList.drop (sIx items.size 0 lo)).take (sIx items.size items.size hi-sIx items.size 0 lo)).toArray.size<=sizeLine;rw[List.size_toArray,length_take,length_drop,Array.length_toList];omega
 have hj:sIx items.size items.size hi<=items.size:=y7 _ _ (Nat.le_refl _) hi;obtain⟨os,U,Y,a3⟩:=id hs;have Z:s.TypeIs (.ref J) "slice":=⟨os,U,Y⟩;unfold getItem
 try with_reducible refine wpAny_holding ?_
 first|refine wpAny_bind (wpAny_pure ?_)|skip
 refine wpAny_bind (wpAny_sequenceKey D.typeIs (by decide) ?_);refine wpAny_bind (wpAny_callSpecial?_slot (name:=Str.ofString "__getitem__") D.typeIs PyProof.Rows.slot_tuple_getitem
  (wpAny_call_entry PyProof.Rows.slot_tuple_getitem D.typeIs entry_tuple_getitem ?_ (args_tuple_getitem _ _)))
 show wpAny _ _ (Builtin.Tuple.tupleItemsOf (.ref t) >>= _) _ _ s;refine wpAny_bind (tupleItemsOf_ D ?_);refine wpAny_bind (wpAny_typeOf Z ?_);rw[if_pos (by decide)];refine wpAny_bind (fu hs pl pu ?_);have ao:¬ ((((sIx items.size 0 lo:Nat):Int)==0&&(1:Int)==1&&(sIx items.size items.size hi-sIx items.size 0 lo)==items.size)=true):=by
  intro q;rw[Bool.and_eq_true,Bool.and_eq_true]at q;have q1:((sIx items.size 0 lo:Nat):Int)=0:=eq_of_beq q.1.1;have q2:sIx items.size items.size hi-sIx items.size 0 lo=items.size:=eq_of_beq q.2;exact hw ⟨by omega,by omega⟩
 show wpAny _ _ (if (((sIx items.size 0 lo:Nat):Int)==0&&(1:Int)==1&&(sIx items.size items.size hi-sIx items.size 0 lo)==items.size)=true then _ else _) _ _ s;rw[if_neg ao,t7]
 first
  | exact wpAny_bind (m:=Builtin.Tuple.tupleExact _) (wpAny_newObj_type (wpAny_pure ⟨_,rfl,wpAny_pure h⟩) z)
  | exact wpAny_bind (m:=Builtin.Tuple.tupleExact _) (wpAny_newObj_type (wpAny_bind (wpAny_pure (wpAny_pure ⟨_,rfl,wpAny_pure h⟩))) z)
  | exact wpAny_bind (wpAny_bind (m:=Builtin.Tuple.tupleExact _) (wpAny_newObj_type (wpAny_pure (wpAny_pure ⟨_,rfl,wpAny_pure h⟩)) z))
  | exact wpAny_bind (wpAny_bind (m:=Builtin.Tuple.tupleExact _) (wpAny_newObj_type (wpAny_pure ⟨_,rfl,wpAny_pure h⟩) z))
end
end HT
namespace L2
open PySem PySem.Spec PyProof.Rows List Option
noncomputable abbrev TO:=St->Hp->(Option Int->Hp->Prop)->Prop
noncomputable def PO(X:Cx)(e:Option Expr)(t:TO):Prop:=
 ∀(pins:List (Addr×Obj)) (s:Shared) (σ:St) (H:Hp) (Q:Option Int->Hp->Prop),Inv X pins σ H s->t σ H Q ->
  wpAny (model X.prog X.w) X.A (evalPart e X.env) (λu s'=>∃o H',Inv X pins σ H' s'/\IsPart u o/\Q o H') X.xe s
noncomputable def wp:TO:=λ_ H Q=>Q none H
noncomputable def Bz(t:TE):TO:=λσ H Q=>t σ H λx H1=>∃i,x=.int i/\Q (some i) H1
theorem d8{ns:List Int}:∀{us:List Value},ay (ns.map V.int) us->IntsAre us ns:=by
 induction ns with
 |nil=>intro us r;rw[map_nil]at r;cases r;exact .nil
 | cons n ns ih =>
  intro us r;rw[map_cons]at r;cases r with
  |cons r1 r2 =>
   obtain⟨t,e⟩:=r1;subst e;exact .cons n t (ih r2)
section
variable{X:Cx}{e:Expr}{te:TE}{lo hi:Option Expr}{tl th:TO}{pos p2:Pos}
theorem wq:PO X none wp:=by
 intro pins s σ H Q I h;rw[evalPart_none];exact wpAny_pure ⟨none,H,I,.none,h⟩
theorem wt(h:PE X e te):PO X (some e) (Bz te):=by
 intro pins s σ H Q I hw;rw[evalPart_some];refine thn (h pins s σ H _ I hw) λu U ⟨x,H1,z,D,J⟩=>?_
 obtain⟨i,rfl,q⟩:=J;obtain⟨t,rfl⟩:=D;exact⟨some i,H1,z,.int i t,q⟩
noncomputable def SlR(X:Cx)(r:V->Option Int->Option Int->Hp->VK->Prop):Prop:=
 ∀(pins:List (Addr×Obj)) (s:Shared) (σ:St) (H:Hp) (x:V) (v q z:Value) (lo hi:Option Int) (D:Addr) (Q:VK),Inv X pins σ H s->aA x v->s.heap.IsSliceOf D q z .none->IsPart q lo->IsPart z hi->r x lo hi H Q ->
  ∃T id,typeLookup (.type T) "__getitem__"=pure (some (.builtin id))/\s.TypeIs v T/\wpAny (model X.prog X.w) X.A (getItem v (.ref D)) (EP X pins σ Q) X.xe s
noncomputable def tSl(r:V->Option Int->Option Int->Hp->VK->Prop)(te:TE)(tl th:TO):TE:=λσ H Q=>te σ H λx H1=>tl σ H1 λl H2=>th σ H2 λu H3=>r x l u H3 Q
theorem t8{r:V->Option Int->Option Int->Hp->VK->Prop}(U:SlR X r)(Y:PE X e te)(Z:PO X lo tl)(hu:PO X hi th):PE X (.Subscript e (.Slice lo hi none p2) pos) (tSl r te tl th):=by
 intro pins s σ H Q I h;refine Subscript_ (thn (Y pins s σ H _ I h) λv s1 ⟨x,H1,I1,r1,q1⟩=>?_);refine wpAny_Slice (thn (Z pins s1 σ H1 _ I1 q1) λD s2 ⟨l,H2,I2,pl,q2⟩=>thn (hu pins s2 σ H2 _ I2 q2) λJ z ⟨u,H3,I3,pu,q3⟩=>?_);rw[evalPart_none];refine wpAny_pure ?_;have I4:Inv X pins σ H3 { z with heap:=z.heap.push { cls:=.type "slice",data:=.fields #[D,J,.none] } }:=I3.kept (t':=z.toks) λb ob q=>Heap.get?_push_of_some _ q
 obtain⟨T,id,hT,ht,hg⟩:=U pins { z with heap:=z.heap.push { cls:=.type "slice",data:=.fields #[D,J,.none] } } σ H3 x v D J l u z.heap.objs.size Q I4 r1 (Heap.IsSliceOf.new ..) pl pu q3;show wpAny (model X.prog X.w) X.A (subscriptTail e (.Slice lo hi none p2) v (.ref z.heap.objs.size)) (EP X pins σ Q) X.xe { z with heap:=z.heap.push { cls:=.type "slice",data:=.fields #[D,J,.none] } };exact tail_any (ops:=[.ref z.heap.objs.size,v]) ht hT hg (by with_unfolding_all rfl)
noncomputable def nG(xs:List V)(lo hi:Option Int):List V:=(xs.drop (HT.sIx xs.length 0 lo)).take (HT.sIx xs.length xs.length hi-HT.sIx xs.length 0 lo)
theorem jp(xs:List V)(lo hi:Option Int):(nG xs lo hi).length<=xs.length:=by
 unfold nG;rw[length_take,length_drop];omega
noncomputable def DL(K:PySem.W.Frag):V->Option Int->Option Int->Hp->VK->Prop:=λx lo hi H Q=>∃a xs,x=.ref a/\SqT K H a xs /\
 ¬ (HT.sIx xs.length 0 lo=0/\HT.sIx xs.length xs.length hi=xs.length)/\∀p,H p=none->Q (.ref p) (upd H p (.tup (nG xs lo hi)))
theorem y9:SlR X (DL X.K):=by
 intro pins s σ H x v Z vu lo hi sl Q I J U pl Y h;obtain⟨a,xs,rfl,hx,hw,q⟩:=h;cases J;obtain⟨its,r,D,hz⟩:=I.tuple hx;have z:its.toArray.size=xs.length:=by rw[List.size_toArray];exact r.length.symm
 refine⟨"tuple",_,PyProof.Rows.slot_tuple_getitem.lookup,D.typeIs,?_⟩;refine HT.getItem_tuple_cut D U pl Y (by rw[z];exact hw) ?_ (by rw[z];exact hz);rw[z];refine⟨.ref s.heap.objs.size,_,I.laid (t':=s.toks) (o:=.tup (nG xs lo hi)) (λb ob q=>Heap.get?_push_of_some _ q) (Nat.le_refl _) ?_,rfl,q _ (I.hok.fresh (Nat.le_refl _))⟩;exact⟨Nat.le_trans (jp xs lo hi) hz,_,(r.drop (HT.sIx xs.length 0 lo)).take (HT.sIx xs.length xs.length hi-HT.sIx xs.length 0 lo),IsTup.new _ _⟩
noncomputable def BA(K:PySem.W.Frag):R2:=λx y H Q=>∃a b xs ys,x=.ref a/\y=.ref b/\SqT K H a xs/\SqT K H b ys/\xs≠[]/\xs.length+ys.length<=sizeLine /\
 (ys=[]->Q (.ref a) H)/\(ys≠[]->∀p,H p=none->Q (.ref p) (upd H p (.tup (xs++ys))))
theorem ay.nil_iff{xs:List V}{us:List Value}(r:ay xs us):us=[] ↔ xs=[]:=by
 cases r with
 |nil=>simp
 |cons _ _=>simp
theorem wu:OpR X (binaryOp .Add) (BA X.K):=by
 intro pins s σ H x y v u Q I Y Z h;obtain⟨a,b,xs,ys,rfl,rfl,ha,hb,hx,hz,q1,q2⟩:=h;cases Y;cases Z;obtain⟨its,J,p1,_⟩:=I.tuple ha;obtain⟨U,D,p2,_⟩:=I.tuple hb;refine HT.cat_tup p1 p2 (λz=>hx (J.nil_iff.mp z)) (λz=>⟨.ref a,H,I,rfl,q1 (D.nil_iff.mp z)⟩) (λz=>?_) (by rw[<- J.length,<- D.length];exact hz);refine⟨.ref s.heap.objs.size,_,I.laid (t':=s.toks) (o:=.tup (xs++ys)) (λb ob q=>Heap.get?_push_of_some _ q) (Nat.le_refl _) ?_,rfl,q2 (λw=>z (D.nil_iff.mpr w)) _ (I.hok.fresh (Nat.le_refl _))⟩;exact⟨by rw[length_append];exact hz,_,J.append D,IsTup.new _ _⟩
end
noncomputable def ixN(n:Nat)(i:Int):Option Nat:=if 0<=i then (if i<n then some i.toNat else none) else if -(n:Int)<=i then some (i+n).toNat else none
noncomputable def atI{α:Type}(xs:List α)(i:Int):Option α:=(ixN xs.length i).bind λj=>xs[j]?
theorem wv{n:Nat}{i:Int}{j:Nat}(h:ixN n i=some j):seqIndex? i n=some j/\j<n/\-(n:Int)<=i/\i<n:=by
 unfold ixN at h;by_cases h0:0<=i
 ·rw[if_pos h0]at h;by_cases h1:i<n
  ·rw[if_pos h1]at h;have e:i.toNat=j:=Option.some.inj h;exact⟨by rw[seqIndex_of h0 h1,e],by omega,by omega,h1⟩
  ·rw[if_neg h1]at h;cases h
 ·rw[if_neg h0]at h;by_cases h1:-(n:Int)<=i
  ·rw[if_pos h1]at h;have e:(i+n).toNat=j:=Option.some.inj h;exact⟨by rw[seqIndex_neg (by omega) h1,e],by omega,h1,by omega⟩
  ·rw[if_neg h1]at h;cases h
theorem mw{α:Type}{xs:List α}{i:Int}{v:α}(h:atI xs i=some v):∃j,seqIndex? i xs.length=some j/\xs[j]?=some v/\j<xs.length/\-(xs.length:Int)<=i/\i<xs.length:=by
 unfold atI at h;cases e:ixN xs.length i with
 |none=>rw[e]at h;cases h
 |some j =>
  rw[e]at h;obtain⟨h1,h2,h3,h4⟩:=wv e;exact⟨j,h1,h,h2,h3,h4⟩
noncomputable def qI(b:Expr):Prop:=∀o i,subscripted b false o i=operate [o,i] (getItem o i)
noncomputable def IxR(X:Cx)(r:R2):Prop:=
 ∀(value slice:Expr) (pins:List (Addr×Obj)) (s:Shared) (σ:St) (H:Hp) (x y:V) (v u:Value) (Q:VK),Inv X pins σ H s->aA x v->aA y u->r x y H Q ->
  subscripted slice false v u=operate [v,u] (getItem v u)->wpAny (model X.prog X.w) X.A (subscriptTail value slice v u) (EP X pins σ Q) X.xe s
noncomputable def MtR(X:Cx)(id:String)(r:V->List V->Hp->VK->Prop):Prop:=
 ∀(pins:List (Addr×Obj)) (s:Shared) (σ:St) (H:Hp) (x:V) (xs:List V) (v:Value) (us:List Value) (Q:VK),Inv X pins σ H s->aA x v->ay xs us->r x xs H Q ->
  wpAny (model X.prog X.w) X.A (call (.builtin id) (v::us)) (EP X pins σ Q) X.xe s
section
variable{X:Cx}{a b:Expr}{ta tb:TE}{pos:Pos}
theorem IxR.or{r z:R2}(h:IxR X r)(h':IxR X z):IxR X (λx y H Q=>r x y H Q\/z x y H Q):=by
 intro value slice pins s σ H x y v u Q I D J q U;rcases q with q|q
 ·exact h value slice pins s σ H x y v u Q I D J q U
 ·exact h' value slice pins s σ H x y v u Q I D J q U
theorem x9{r:R2}(z:IxR X r)(D:PE X a ta)(J:PE X b tb)(U:qI b):PE X (.Subscript a b pos) (tOp r ta tb):=by
 intro pins s σ H Q I h;exact Subscript_ (yS D J I h λv u Y x y H2 Z rx ry q=>z a b pins Y σ H2 x y v u Q Z rx ry q (U _ _))
noncomputable def BB(K:PySem.W.Frag):R2:=λx y H Q=>∃p xs i v,x=.ref p/\y=.int i/\SqL K H p xs/\atI xs i=some v/\Q v H
noncomputable def BC(K:PySem.W.Frag):R2:=λx y H Q=>∃p xs i v,x=.ref p/\y=.int i/\SqT K H p xs/\atI xs i=some v/\Q v H
noncomputable def BD:R2:=λx y H Q=>∃z i c,x=.str z/\y=.int i/\z.length<=sizeLine/\atI z.cps.toList i=some c/\Q (.str ⟨#[c]⟩) H
theorem qJ:IxR X (BB X.K):=by
 intro value slice pins s σ H x y v u Q I Z ry h U;obtain⟨p,xs,i,z,rfl,rfl,hq,he,q⟩:=h;cases Z;obtain⟨t,rfl⟩:=ry;obtain⟨its,r,pl,hz⟩:=I.list hq;obtain⟨j,h1,h2,h3,h4,h5⟩:=mw he;obtain⟨w,Y,D⟩:=r.get h2;have hl:=r.length;have hn:=iT;have fin:EP X pins σ Q w s:=⟨z,H,I,D,q⟩;by_cases h0:0<=i
 ·have J:i.toNat=j:=by
   rw[seqIndex_of h0 h5]at h1;exact Option.some.inj h1
  exact item_listR pl.isList h0 (by omega) (by rw[J];simpa using Y) fin U
 ·have J:(i+(its.toArray.size:Int)).toNat=j:=by
   rw[seqIndex_neg (by omega) h4]at h1;rw[List.size_toArray,<- hl];exact Option.some.inj h1
  exact subscriptTail_builtinR (x:=w) pl.isList.typeIs slot_list_getitem.lookup
   (wpAny_getItem_list_neg (Q:=λr s'=>r=w/\EP X pins σ Q r s') pl.isList (by omega) (by rw[List.size_toArray]<;>omega) (by omega) (by rw[J];simpa using Y) ⟨rfl,fin⟩) U
theorem y_:IxR X (BC X.K):=by
 intro value slice pins s σ H x y v u Q I J U h Y;obtain⟨p,xs,i,z,rfl,rfl,Z,he,q⟩:=h;cases J;obtain⟨t,rfl⟩:=U;obtain⟨its,r,pl,hz⟩:=I.tuple Z;obtain⟨j,h1,h2,h3,h4,h5⟩:=mw he;obtain⟨w,ew,D⟩:=r.get h2;have hl:=r.length;have hn:=iT;have fin:EP X pins σ Q w s:=⟨z,H,I,D,q⟩;exact subscriptTail_builtinR (x:=w) pl.typeIs slot_tuple_getitem.lookup
  (getItem_tuple (j:=j) (Q:=λr s'=>r=w/\EP X pins σ Q r s') pl (by omega) (by omega) (by rw[List.size_toArray,<- hl];exact h1) (by simpa using ew) ⟨rfl,fin⟩) Y
theorem za:IxR X BD:=by
 intro value slice pins s σ H x y v u Q I D J h U;obtain⟨z,i,c,rfl,rfl,hz,Y,q⟩:=h;obtain⟨t,rfl⟩:=D;obtain⟨t',rfl⟩:=J;obtain⟨j,h1,h2,h3,h4,h5⟩:=mw Y;have Z:z.cps.toList.length=z.length:=by simp[Str.length]
 rw[Z]at h1 h4 h5;have hn:=iT;exact tail_any (typeIs_str s z t) slot_str_getitem.lookup (getItem_str (c:=c) (by
  have e1:decide (i < -(2 ^ 63:Int))=false:=decide_eq_false (by omega);have e2:decide (i>=2 ^ 63)=false:=decide_eq_false (by omega);rw[e1,e2,Bool.or_false]) (by rw[h1];simpa using h2) ⟨.str ⟨#[c]⟩,H,I.tok _,⟨_,rfl⟩,q⟩) U
noncomputable def rIx(K:PySem.W.Frag):R2:=λx y H Q=>BB K x y H Q\/BC K x y H Q\/BD x y H Q
theorem pH:IxR X (rIx X.K):=qJ.or (y_.or za)
theorem mx(lo hi:Option Int)(n:Nat):(sliceBounds lo hi none n).1=((HT.sIx n 0 lo:Nat):Int)/\(sliceBounds lo hi none n).2.1=((HT.sIx n n hi:Nat):Int)/\(sliceBounds lo hi none n).2.2=1:=by
 refine⟨?_,?_,rfl⟩
 ·cases lo with
  |none=>simp[sliceBounds,HT.sIx]
  |some i =>
   simp only[sliceBounds,HT.sIx,getD_none,show(1:Int) > 0 by decide,if_true];by_cases h:i<0
   ·simp only[h,if_true]<;>omega
   ·simp only[h,if_false]<;>omega
 ·cases hi with
  |none=>simp[sliceBounds,HT.sIx]
  |some i =>
   simp only[sliceBounds,HT.sIx,getD_none,show(1:Int) > 0 by decide,if_true];by_cases h:i<0
   ·simp only[h,if_true]<;>omega
   ·simp only[h,if_false]<;>omega
theorem lc(its:List Value)(lo hi:Option Int):slicePick its.toArray lo hi none=((its.drop (HT.sIx its.length 0 lo)).take (HT.sIx its.length its.length hi-HT.sIx its.length 0 lo)).toArray:=by
 obtain⟨h1,h2,h3⟩:=mx lo hi its.toArray.size;unfold slicePick;rw[h1,h2,h3];simp only[sliceRange_one,pick_run,List.size_toArray]<;>rfl
noncomputable def DM(K:PySem.W.Frag):V->Option Int->Option Int->Hp->VK->Prop:=λx lo hi H Q=>∃a xs,x=.ref a/\SqL K H a xs/\∀p,H p=none->Q (.ref p) (upd H p (.lst (nG xs lo hi)))
theorem ww:SlR X (DM X.K):=by
 intro pins s σ H x v Z vu lo hi sl Q I J U pl Y h;obtain⟨a,xs,rfl,hx,q⟩:=h;cases J;obtain⟨its,r,D,hz⟩:=I.list hx;have z:=r.length;refine⟨"list",_,slot_list_getitem.lookup,D.isList.typeIs,?_⟩;refine wpAny_getItem_list_slice D.isList U pl Y .none (by simp) ?_ (by rw[List.size_toArray]<;>omega);rw[lc,<- z];refine⟨.ref s.heap.objs.size,_,I.laid (t':=s.toks) (o:=.lst (nG xs lo hi)) (λb ob q=>Heap.get?_push_of_some _ q) (Nat.le_refl _) ?_,rfl,q _ (I.hok.fresh (Nat.le_refl _))⟩;exact⟨Nat.le_trans (jp xs lo hi) hz,_,0,(r.drop (HT.sIx xs.length 0 lo)).take (HT.sIx xs.length xs.length hi-HT.sIx xs.length 0 lo),Heap.get?_push_size _ rfl⟩
noncomputable def gM:V->Bool
 | .non=>true
 | .bl _=>true
 | .int _=>true
 | .str _=>true
 | _=>false
noncomputable def eqV:V->V->Bool
 | .non,.non=>true
 | .bl a,.bl b=>a==b
 | .bl a,.int b=>(if a then 1 else 0)==b
 | .int a,.bl b=>a==(if b then 1 else 0)
 | .int a,.int b=>a==b
 | .str a,.str b=>a==b
 | _,_=>false
theorem t9{A:Around}{s:Shared}{y x:V}{u v:Value}(z:aA y u)(q:aA x v)(J:gM y=true)(D:gM x=true):SeqAt.EqAt A s u v (eqV y x):=by
 cases y with
 |non =>
  cases z;cases x with
  |non=>cases q;exact SeqAt.EqAt.same _
  |bl b=>cases q;exact SeqAt.EqAt.none_bool b
  |int b=>obtain⟨t,rfl⟩:=q;exact SeqAt.EqAt.none_int b t
  |str b=>obtain⟨t,rfl⟩:=q;exact SeqAt.EqAt.none_str b t
  | _=>exact absurd (show false=true from D) Bool.false_ne_true
 |bl a =>
  cases z;cases x with
  |non=>cases q;exact SeqAt.EqAt.bool_none a
  |bl b=>cases q;exact SeqAt.EqAt.bool_bool a b
  |int b=>obtain⟨t,rfl⟩:=q;exact SeqAt.EqAt.bool_int a b t
  |str b=>obtain⟨t,rfl⟩:=q;exact SeqAt.EqAt.bool_str a b t
  | _=>exact absurd (show false=true from D) Bool.false_ne_true
 |int a =>
  obtain⟨t',rfl⟩:=z;cases x with
  |non=>cases q;exact SeqAt.EqAt.int_none a t'
  |bl b=>cases q;exact SeqAt.EqAt.int_bool a t' b
  |int b=>obtain⟨t,rfl⟩:=q;exact SeqAt.EqAt.int_int a t' b t
  |str b=>obtain⟨t,rfl⟩:=q;exact SeqAt.EqAt.int_str a t' b t
  | _=>exact absurd (show false=true from D) Bool.false_ne_true
 |str a =>
  obtain⟨t',rfl⟩:=z;cases x with
  |non=>cases q;exact SeqAt.EqAt.str_none a t'
  |bl b=>cases q;exact SeqAt.EqAt.str_bool a t' b
  |int b=>obtain⟨t,rfl⟩:=q;exact SeqAt.EqAt.str_int a t' b t
  |str b=>obtain⟨t,rfl⟩:=q;exact SeqAt.EqAt.str_str a t' b t
  | _=>exact absurd (show false=true from D) Bool.false_ne_true
 | _=>exact absurd (show false=true from J) Bool.false_ne_true
theorem dN:bC X (.builtin "len") (λxs H Q=>∃p ys,xs=[.ref p]/\(SqL X.K H p ys\/SqT X.K H p ys)/\Q (.int ys.length) H):=by
 intro pins s σ H xs us Q I r h;obtain⟨p,ys,rfl,D,q⟩:=h;obtain⟨u,rfl,U⟩:=eP r;cases U;have Y:=iT;rcases D with D|D
 ·obtain⟨its,J,pl,hz⟩:=I.list D;have z:=J.length;exact Calls.call_len_list pl.isList (by simp only[List.size_toArray]<;>omega) ⟨.int ys.length,H,I.tok _,⟨s.toks+1,by rw[List.size_toArray,z]⟩,q⟩
 ·obtain⟨its,J,pl,hz⟩:=I.tuple D;have z:=J.length;exact len_tuple pl (by simp only[List.size_toArray]<;>omega) ⟨.int ys.length,H,I.tok _,⟨s.toks+1,by rw[List.size_toArray,z]⟩,q⟩
theorem my:bC X (.builtin "len") (λxs H Q=>∃z,xs=[.str z]/\z.length<=sizeLine/\Q (.int z.length) H):=by
 intro pins s σ H xs us Q I r h;obtain⟨z,rfl,hz,q⟩:=h;obtain⟨u,rfl,t,rfl⟩:=eP r;have D:=iT;exact len_str (by omega) ⟨.int z.length,H,I.tok _,⟨_,rfl⟩,q⟩
theorem mz:bC X (.type "list") (λxs H Q=>∃p ys,xs=[.ref p]/\(SqL X.K H p ys\/SqT X.K H p ys)/\∀l,H l=none->Q (.ref l) (upd H l (.lst ys))):=by
 intro pins s σ H xs us Q I r h;obtain⟨p,ys,rfl,J,q⟩:=h;obtain⟨u,rfl,Z⟩:=eP r;cases Z;have fin:∀(its:List Value),ay ys its->ys.length<=sizeLine->∀(h':Heap) (z:Nat),(∀b o',s.heap.get? b=some o'->h'.get? b=some o') ->
   h'.get? s.heap.objs.size=some { cls:=.type "list",dict:=none,data:=.seq its.toArray z,slots:=#[] }->EP X pins σ Q (.ref s.heap.objs.size) { s with heap:=h' }:=λits D hz h' z kp e =>
  ⟨.ref s.heap.objs.size,_,I.laid (t':=s.toks) kp (Nat.le_refl _) (show bU X.prog X.w _ h' _ (.lst ys) from⟨hz,its,z,D,e⟩),rfl,q _ (I.hok.fresh (Nat.le_refl _))⟩
 rcases J with J|J
 ·obtain⟨its,D,pl,hz⟩:=I.list J;have U:=D.length;obtain⟨o,Y,hc,n,hd⟩:=pl.isList;exact call_list_seq p (.inl rfl) Y hc hd (λh' z kp e=>fin its D hz h' z kp e) (by simp only[List.size_toArray]<;>omega)
 ·obtain⟨its,D,pl,hz⟩:=I.tuple J;have U:=D.length;obtain⟨o,Y,hc,n,hd⟩:=pl;exact call_list_seq p (.inr rfl) Y hc hd (λh' z kp e=>fin its D hz h' z kp e) (by simp only[List.size_toArray]<;>omega)
theorem gN:bC X (.type "tuple") (λxs H Q=>∃p ys,xs=[.ref p]/\((SqL X.K H p ys/\∀l,H l=none->Q (.ref l) (upd H l (.tup ys)))\/(SqT X.K H p ys/\Q (.ref p) H))):=by
 intro pins s σ H xs us Q I r h;obtain⟨p,ys,rfl,h⟩:=h;obtain⟨u,rfl,Y⟩:=eP r;cases Y;rcases h with ⟨z,q⟩|⟨z,q⟩
 ·obtain⟨its,D,pl,hz⟩:=I.list z;have J:=D.length;refine call_tuple_list pl.isList (λh' kp=>?_) (by simp only[List.size_toArray]<;>omega);have U:Inv X pins σ H { s with heap:=h' }:=I.kept (t':=s.toks) kp;have Z:Inv X pins σ (upd H h'.objs.size (.tup ys)) { s with heap:=h'.push { cls:=.type "tuple",data:=.seq its.toArray } }:=
   U.laid (t':=s.toks) (λb o e=>Heap.get?_push_of_some _ e) (Nat.le_refl _) (show bU X.prog X.w _ _ _ (.tup ys) from⟨hz,its,D,IsTup.new _ _⟩)
  exact⟨.ref h'.objs.size,_,Z,rfl,q _ (U.hok.fresh (Nat.le_refl _))⟩
 ·obtain⟨its,D,pl,hz⟩:=I.tuple z;exact call_tuple_same pl ⟨.ref p,H,I,rfl,q⟩
noncomputable def tyV(K:PySem.W.Frag)(T:String)(x:V)(H:Hp):Prop:=match x with
 | .str _=>T="str"
 | .int _=>T="int"
 | .ref p=>(T="list"/\∃ xs,SqL K H p xs) \/ (T="tuple"/\∃ o,K.lookup p=some o/\o.cls=.type "tuple"/\o.dict=none) \/
   (T="dict"/\((∃kvs,H p=some (.dK kvs))\/∃kvs,H p=some (.dT kvs)))\/(T="set"/\∃S n,H p=some (.set S n))
 | _=>False
theorem t_{pins:List (Addr×Obj)}{σ:St}{H:Hp}{s:Shared}{T:String}{x:V}{v:Value}(I:Inv X pins σ H s)(r:aA x v)(ty:tyV X.K T x H) :
  s.TypeIs v T/\∀a,v=.ref a->∃ob,s.heap.get? a=some ob/\ob.dict=none:=by
 cases x with
 |str z =>
  obtain⟨t,rfl⟩:=r;cases (show T="str" from ty);exact⟨typeIs_str s z t,λ_ e=>nomatch e⟩
 |int i =>
  obtain⟨t,rfl⟩:=r;cases (show T="int" from ty);exact⟨typeIs_int s i t,λ_ e=>nomatch e⟩
 | ref p =>
  cases r;rcases ty with ⟨rfl,xs,hq⟩|⟨rfl,o,hk,hc,hd⟩|⟨rfl,hk⟩|⟨rfl,S,n,hk⟩
  ·obtain⟨its,_,pl,_⟩:=I.list hq;refine⟨pl.isList.typeIs,λa e=>?_⟩;cases e;obtain⟨o,n,e,c,hd,_⟩:=pl;exact⟨o,e,hd⟩
  ·refine⟨⟨o,I.kIn p o hk,hc⟩,λa e=>?_⟩;cases e;exact⟨o,I.kIn _ o hk,hd⟩
  ·have z:∃o,s.heap.get? p=some o/\o.ExactDict:=by
    rcases hk with ⟨kvs,hk⟩|⟨kvs,hk⟩
    ·obtain⟨_,_,_,_,o,_,_,e,ex,_⟩:=I.hok p _ hk;exact⟨o,e,ex⟩
    ·obtain⟨_,_,_,_,o,_,_,e,ex,_⟩:=I.hok p _ hk;exact⟨o,e,ex⟩
   obtain⟨o,e,ex⟩:=z;refine⟨⟨o,e,ex.1⟩,λa e2=>?_⟩;cases e2;exact⟨o,e,ex.2.1⟩
  ·obtain⟨o,_,_,_,e,ex,_⟩:=I.hok p _ hk;refine⟨⟨o,e,ex.1⟩,λa e2=>?_⟩;cases e2;exact⟨o,e,ex.2.1⟩
 | _=>exact False.elim ty
noncomputable def DN(K:PySem.W.Frag)(T:String)(r:V->List V->Hp->VK->Prop)(to:TE):TE:=λσ H Q=>to σ H λx H1=>tyV K T x H1/\r x [] H1 Q
noncomputable def tBM(K:PySem.W.Frag)(T:String)(r:V->List V->Hp->VK->Prop)(to:TE)(t:TA):TE:=λσ H Q=>to σ H λx H1=>tyV K T x H1/\t σ H1 λxs H2=>r x xs H2 Q
variable{o e:Expr}{es:List Expr}{to:TE}{t:TA}{name:Str}{apos cpos:Pos}{T id:String}{r:V->List V->Hp->VK->Prop}
theorem zb (Y:PlainAttrs T) (slot:Slot T name id) (D:typeOf (.builtin id)=pure (.type "method_descriptor")) (Z:MtR X id r) (ho:PE X o to)
  (q:attributeBase o name X.env (eval o X.env)=eval o X.env:=by rfl) (z:(apos.endLine==cpos.line)=true:=by rfl):PE X (.Call (.Attribute o name apos) [] [] cpos) (DN X.K T r to):=by
 intro pins s σ H Q I h;refine wpAny_Call_method0_late q z (thn (ho pins s σ H _ I h) λv s1 ⟨x,H1,J,U,ty,q1⟩=>?_);obtain⟨h1,h2⟩:=t_ J U ty;exact⟨T,id,Y,slot,D,h1,h2,Calls.callWith_builtin rfl (PySem.evalArgs_none (Z pins s1 σ H1 x [] v [] Q J U .nil q1))⟩
theorem nH (pa:PlainAttrs T) (slot:Slot T name id) (U:typeOf (.builtin id)=pure (.type "method_descriptor")) (hm:MtR X id r) (ho:PE X o to) (ha:PA X (e::es) t)
  (z:attributeBase o name X.env (eval o X.env)=eval o X.env:=by rfl)
  (J:((backTo cpos (starEach (e::es) X.env)).all (λx=>!x.1)&&(backToKw cpos (keywordEach [] X.env)).all (λx=>x.1.isSome)
  &&decide ((e::es).length+([]:List Keyword).length+(if ([]:List Keyword).isEmpty then 0 else 1)<30))=true:=by rfl)
  (D:(apos.endLine==cpos.line)=true:=by rfl) (hs:starEach (e::es) X.env=(false,eval e X.env)::starEach es X.env:=by rfl) (q:(backTo cpos (starEach es X.env)).any (·.1)=false:=by rfl) :
  PE X (.Call (.Attribute o name apos) (e::es) [] cpos) (tBM X.K T r to t):=by
 intro pins s σ H Q I h;refine wpAny_Call_method_late z J D rfl (thn (ho pins s σ H _ I h) λv s1 ⟨x,H1,Y,Z,ty,q1⟩=>?_);obtain⟨h1,h2⟩:=t_ Y Z ty;refine⟨T,id,pa,slot,U,h1,h2,?_⟩;have hA:=ha cpos pins s1 σ H1 _ Y q1;rw[hs]at hA ⊢;refine Calls.callWith_builtin (by show(false || (backTo cpos (starEach es X.env)).any (·.1))=false;rw[q]<;>rfl) (Calls.evalArgs_plain ?_);exact thn hA λus s2 ⟨vs,H2,I2,r2,q2⟩=>hm pins s2 σ H2 x vs v us Q I2 Z r2 q2
end
noncomputable def MtM(X:Cx)(id:String)(r:V->List V->Hp->VK->Prop):Prop:=
 ∀(pins:List (Addr×Obj)) (s:Shared) (σ:St) (H:Hp) (x:V) (xs:List V) (v:Value) (us:List Value) (Q:VK),Inv X pins σ H s->aA x v->ay xs us->r x xs H Q ->
  wpAny (model X.prog X.w) X.A (call (.builtin id) (v::us)) (EP X pins σ Q) X.xe s
theorem ay.one:∀{x:V}{us:List Value},ay [x] us->∃u,us=[u]/\aA x u
 | _,_,.cons r .nil=>⟨_,rfl,r⟩
theorem ay.zero:∀{us:List Value},ay [] us->us=[]
 | _,.nil=>rfl
theorem ay.dropLast{xs:List V}{us:List Value}(h:ay xs us):ay xs.dropLast us.dropLast:=by
 induction h with
 |nil=>exact .nil
 |cons r t ih =>
  cases t with
  |nil=>exact .nil
  |cons q t'=>exact .cons r ih
theorem ay.reverse{xs:List V}{us:List Value}(h:ay xs us):ay xs.reverse us.reverse:=by
 induction h with
 |nil=>exact .nil
 |cons r t ih=>rw[reverse_cons,reverse_cons];exact ay.append ih (.cons r .nil)
theorem pI{α:Type}(l:List α):l.eraseIdx (l.length-1)=l.dropLast:=by
 induction l with
 |nil=>rfl
 | cons a r ih =>
  cases r with
  |nil=>rfl
  | cons b r =>
   have e:(a::b::r).length-1=((b::r).length-1)+1:=by
    have h1:(a::b::r).length=r.length+2:=rfl;have h2:(b::r).length=r.length+1:=rfl;omega
   rw[e,eraseIdx_cons_succ,ih]
   all_goals rfl
section
variable{X:Cx}{pins:List (Addr×Obj)}{σ:St}{H:Hp}{s:Shared}{l b:Addr}{xs ys zs:List V}
theorem Inv.lset{its its':List Value}{n:Nat}{f:Array Value->Array Value}{t':Nat}(I:Inv X pins σ H s)(z:H l=some (.lst xs))
  (e:s.heap.get? l=some { cls:=.type "list",data:=.seq its.toArray n }) (D:f its.toArray=its'.toArray) (J:ay ys its') (hz:ys.length<=sizeLine) :
  Inv X pins σ (upd H l (.lst ys)) { s with heap:=s.heap.update l (Obj.mapSeq f),toks:=t' }:=by
 have q:=PySem.IsL.update e f;rw[D]at q;refine I.write (x:=l) (e:=l) (by rw[z];exact trivial) (.inl rfl) (λZ u U Y=>(Heap.get?_update_other s.heap (Obj.mapSeq f) (Ne.symm U)).trans Y) ⟨_,q⟩ ?_;exact⟨hz,its',_,J,q⟩
theorem Inv.lnew{its:List Value}{t':Nat}(I:Inv X pins σ H s)(z:ay ys its)(hz:ys.length<=sizeLine) :
  Inv X pins σ (upd H s.heap.objs.size (.lst ys)) { s with heap:=s.heap.push { cls:=.type "list",data:=.seq its.toArray },toks:=t' }:=
 I.laid (λ_ _ q=>Heap.get?_push_of_some _ q) (Nat.le_refl _) ⟨hz,its,0,z,Heap.get?_push_size _ rfl⟩
theorem Inv.fresh(I:Inv X pins σ H s):H s.heap.objs.size=none:=I.hok.fresh (Nat.le_refl _)
theorem Inv.lstM (I:Inv X pins σ H s) (q:H l=some (.lst xs)):xs.length<=sizeLine/\∃(its:List Value) (n:Nat),ay xs its/\xs.length=its.length/\s.heap.get? l=some { cls:=.type "list",data:=.seq its.toArray n }:=by
 obtain⟨z,its,n,r,e⟩:=I.hok l _ q;exact⟨z,its,n,r,r.length,e⟩
theorem nI{n:Nat}(h:n<=sizeLine):Builtin.List.listTooLong n=false:=by
 unfold Builtin.List.listTooLong;exact decide_eq_false (by omega)
end
section
variable{X:Cx}
noncomputable def wz:V->List V->Hp->VK->Prop:=λx vs H Q=>∃l xs y,x=.ref l/\vs=[y]/\H l=some (.lst xs)/\xs.length<sizeLine/\Q .non (upd H l (.lst (xs ++ [y])))
theorem iV:MtM X "list.append" wz:=by
 intro pins s σ H x vs v us Q I J U h;obtain⟨l,xs,y,rfl,rfl,D,hz,q⟩:=h;cases J;obtain⟨u,rfl,Y⟩:=U.one;obtain⟨z,its,n,r,Z,e⟩:=I.lstM D;refine call_meets F.slot_list_append ⟨_,e,rfl⟩ F.entry_list_append (F.args_list_append_2 _ _) (PySem.list_append l its.toArray n u (by rw[List.size_toArray];omega)) ⟨e,?_⟩;refine⟨.non,_,I.lset (its':=its ++ [u]) D e (by simp) (r.append (.cons Y .nil)) ?_,rfl,q⟩;rw[length_append,length_singleton];omega
noncomputable def DO:V->List V->Hp->VK->Prop:=λx vs H Q=>∃l xs y,x=.ref l/\vs=[]/\H l=some (.lst xs)/\xs[xs.length-1]?=some y/\Q y (upd H l (.lst xs.dropLast))
theorem zc:MtM X "list.pop" DO:=by
 intro pins s σ H x vs v us Q I Y Z h;obtain⟨l,xs,y,rfl,rfl,U,hy,q⟩:=h;cases Y;have D:=Z.zero;subst D;obtain⟨z,its,n,r,hl,e⟩:=I.lstM U;obtain⟨u,hu,ru⟩:=r.get hy;have J:its.toArray[its.toArray.size-1]?=some u:=by
  show its.toArray[its.length-1]?=some u;rw[<- Array.getElem?_toList,<- hl];exact hu
 refine call_meets F.slot_list_pop ⟨_,e,rfl⟩ F.entry_list_pop (F.args_list_pop_1 _) (MeetsSeq.list_pop_last l its.toArray n u J (by rw[List.size_toArray];omega)) ⟨e,?_⟩;refine⟨y,_,I.lset (its':=its.dropLast) U e ?_ r.dropLast ?_,ru,q⟩
 ·show its.toArray.eraseIdxIfInBounds (its.toArray.size-1)=its.dropLast.toArray;rw[List.size_toArray,eraseIdxIfInBounds_toArray,pI]
 ·rw[length_dropLast];omega
end
section
variable{prog:Program}{w:World}{A:Around}{E:Value->Shared->Prop}{s:Shared}
end
section
variable{X:Cx}
end
end L2
namespace Att
open PySem PySem.W PySem.Calls PyProof.Rows List Option
theorem jy{P:Params}{h:Heap}:∀(ns:List Int) (vs:List Value),WellAll P h vs (ns.map WData.int)->IntsAre vs ns:=by
 intro ns
 induction ns with
 |nil =>
  intro vs w;rw[map_nil]at w;cases w;exact .nil
 | cons n ns ih =>
  intro vs w;rw[map_cons]at w;cases w with
  |cons a b =>
   cases a;exact .cons _ _ (ih _ b)
theorem rY{l:OpenLaw}{n:Nat}(Z:l.most=some n){P:Params}{h:Heap}{args:List WData}{vals:List Value}
  (z:l.row.toRowW.claim.pre args=true) (U:WellAll P h vals args) :
  ∃a vs ns,vals=[Value.ref a]/\args=[WData.list (ns.map WData.int)]/\h.get? a=some { cls:=.type "list",data:=.seq vs.toArray }/\IntsAre vs ns/\ns.length<=n:=by
 have Y:WShape.hasAll [] args [.list .int]=true:=(pre_splitW z).1;have hc:l.pre.holds [] { args:=args }=true:=(pre_splitW z).2;obtain⟨d,r,rfl,h1,h2⟩:=hasAllW_cons Y;obtain rfl:=hasAllW_nil h2;obtain⟨xs,rfl,h3⟩:=hasW_list h1;obtain⟨ns,rfl⟩:=items_int h3;have D:ns.length<=n:=by
  unfold OpenLaw.pre at hc;have h4:(WTm.not (.lt (.lit (.int (n:Int))) (.len (.arg 0)))).holds [] { args:=[.list (ns.map .int)] }=true:=by
   have h4:=(holds_andW hc).1;rw[Z]at h4;exact h4
  have h5:=condW_of h4 (w_not (w_lt w_lit (w_len_list (w_arg rfl))));rw[length_map]at h5;refine Nat.le_of_not_lt λq=>?_
  have q':(n:Int)<((ns.length:Nat):Int):=by omega
  first
   | (rw[decide_eq_true q']at h5;exact absurd h5 (by decide))
   | (simp at h5;omega)
 cases U with
 |cons w1 w2 =>
  cases w2;cases w1 with
  |list ho J=>exact⟨_,_,ns,rfl,rfl,ho,jy ns _ J,D⟩
theorem rZ(l:OpenLaw)(args:List WData):l.row.toRowW.claim.post args (.bool true) args=true:=
 postW_of (r:=l.row.toRowW) (X:=(true==true))
  (show WShape.has [] (.bool true) .bool=true by first|rfl|decide|simp[WShape.has,WShape.arms,WShape.armsAll])
  (show(WTm.eq .res (.lit (.bool true))).value [] { args:=args,res:=some (.bool true),after:=args }=some (.bool (true==true)) from w_eq_bool (w_res rfl) w_lit) rfl
theorem attach_call{l:OpenLaw}{n:Nat}{q:Program}{D:List Str}{XP:(Str->Option Value)->Heap->Prop}{YP:World->Heap->Prop}{d:DefRec}
  (hn:l.most=some n) (a1:d.params.defaults=[])
  (call:∀(w:World) (s₀ z:Shared) (mg mb:Str->Option Value) (Z:Addr) (o:Obj) (pm cd J:Value) (a:Addr) (vs:List Value) (ns:List Int),
   Ground q D [] XP w s₀ mg mb z.heap->YP w z.heap ->
   z.heap.get? Z=some o->o.data=.func (docDef d.name d.params d.body d.scope pm cd J)->z.heap.CodeRec cd d.name->mg d.name=some (.ref Z) ->
   z.heap.get? a=some { cls:=.type "list",data:=.seq vs.toArray }->IntsAre vs ns->ns.length<=n->z.gens=#[] ->
   codeAny (model l.prog w) callerA (.call (.ref Z) ⟨[.ref a],[]⟩) (λr s'=>r=.ok (.ret (.bool true))/\OldK z.heap s'.heap/\s'.os=z.os/\AllBare s'.gens) z) :
  WalkO q D XP YP l.row.toRowW d [] (λf vs=>PySem.call f vs):=by
 intro w s₀ z mg mb G Y Z o pm cd J dV kV ho hd a3 hD a4 hg args vals as ao b1 b6 a5 ca;obtain rfl:dV=.none:=Dflts.none hD a1;obtain rfl:kV=.none:=Dflts.noKw hD;obtain⟨a,vs,ns,rfl,rfl,ap,U,aO⟩:=rY hn ao a5;refine enter_call (codeAny_mono (call w s₀ z mg mb Z o pm cd J a vs ns G Y ho (fd_plain hd) a3 a4 ap U aO hg) λr s' hq=>?_);obtain⟨rfl,h2,h3,h4⟩:=hq;exact⟨.inl ⟨.bool true,.bool true,[],rfl,λ_=>rfl,.bool true,rZ l _,λ_=>⟨Pairwise.nil,λ_ hm=>(nomatch hm)⟩⟩,h2,h3,h4⟩
section
variable{prog:Program}{w:World}{A:Around}{E:Value->Shared->Prop}{s:Shared}{K:Frag}
end
end Att
namespace L2
open PySem PySem.Spec PyProof.Rows List Option
theorem iW:∀{vs:List Value}{ns:List Int},IntsAre vs ns->ay (ns.map V.int) vs
 | _,_,.nil=>.nil
 | _,_,.cons n t h=>.cons ⟨t,rfl⟩ (iW h)
noncomputable def zd(H:Hp):Prop:=∀b,H b=none\/∃o xs,H b=some (.frz o (.lst xs))
theorem ua{P:Program}{w:World}{K:PySem.W.Frag}{mg mb:Str->Option Value}{CX:CXT}{k:Nat}{fa a:Addr}{fd:FuncData}{x:Str}{sp:Sp}{s₁:Shared}{vs:List Value}{ns:List Int}
  (KX:K.In s₁.heap) (hns:s₁.heap.Ns mainGlobals mg) (hb:s₁.heap.Ns builtinsNs mb) (hbb:∀x:Str,x ≠ "__name__"->mb x=bootBuiltins x) (hlim:s₁.heap.NoLimit) (hg:s₁.gens=#[])
  (ha:s₁.heap.get? a=some { cls:=.type "list",data:=.seq vs.toArray }) (hi:IntsAre vs ns) (hl:ns.length<=sizeLine) (hr:dj k callerA)
  (F:∀base:Heap,K.In base->base.Ns mainGlobals mg->de P w K mg base CX k fa fd [x] sp) (hbind:∀(s:Shared) (u:Value),BindsTo s fd ⟨[u],[]⟩ [(x,u)])
  (hsp:∀H:Hp,zd H->SqL K H a (ns.map V.int)->sp [.ref a] H (λv _=>v=.bl true) λ_ _ _=>False)
  (hCX:∀H e s',CX [] H s₁ (λ_ _ _=>False) e s'->False) :
  codeAny (model P w) callerA (.call (.ref fa) ⟨[.ref a],[]⟩) (λr s'=>r=.ok (.ret (.bool true))/\OldK s₁.heap s'.heap/\s'.os=s₁.os/\AllBare s'.gens) s₁:=by
 have rv:=iW hi;have lenV:=hi.length
 have core:∀ H:Hp,zd H->SqL K H a (ns.map V.int)->HOk P w H s₁.heap->(∀ b,H b ≠ none->b=a)->(H a ≠ none->K.lookup a=none) ->
   codeAny (model P w) callerA (.call (.ref fa) ⟨[.ref a],[]⟩) (λr s'=>r=.ok (.ret (.bool true))/\OldK s₁.heap s'.heap/\s'.os=s₁.os/\AllBare s'.gens) s₁:=by
  intro H hO hS hok hA hK;have base_of:∀{b:Addr}{o:Obj},s₁.heap.get? b=some o->H b=none->(mi s₁.heap H).get? b=some o:=λe n=>tu e n
  have noA:∀{b:Addr}{o:Obj}{es:Array DictEntry}{ep:Nat},s₁.heap.get? b=some o->o.data=.dict es ep->H b=none:=λ{b o es ep} e d=>by
   cases q:H b with
   |none=>rfl
   |some u =>
    have e':b=a:=hA b (by rw[q];simp);subst e';rw[ha]at e;cases e
    have d':Data.seq vs.toArray _=Data.dict es ep:=d;cases d'
  have nsK:∀{b:Addr}{m:Str->Option Value},s₁.heap.Ns b m->(mi s₁.heap H).Ns b m:=λ{b m} ⟨o,es,ep,e,d,r⟩=>⟨o,es,ep,base_of e (noA e d),d,r⟩
  have hKb:K.In (mi s₁.heap H):=λb o e=>base_of (KX b o e) (by
   cases q:H b with
   |none=>rfl
   |some u =>
    have e':b=a:=hA b (by rw[q];simp);subst e';rw[hK (by rw[q];simp)]at e;cases e)
  have hM:Mod K mg (mi s₁.heap H):=⟨hKb,nsK hns,⟨mb,nsK hb,hbb⟩,let ⟨mc,h1,h2⟩:=hlim;⟨mc,nsK h1,h2⟩⟩;have e0:pD P w K mg (mi s₁.heap H) callerA [] s₁ H:=⟨rfl,hM,λb o e=>v9 e,Nat.le_of_eq (rP _ _),trivial,λb hb=>absurd (show b∈([]:List Addr) from hb) (by simp),hok,.of_eq hg⟩;refine codeAny_mono ((F _ hKb (nsK hns)).run callerA [] s₁ H ⟨[.ref a],[]⟩ [.ref a] [.ref a] _ _ hr e0 (hbind s₁ (.ref a)) (.cons rfl .nil) (hsp H hO hS)) λr s' h=>?_
  cases r with
  |error e=>exact(hCX H e s' h).elim
  | ok fl =>
   cases fl with
   |next=>exact False.elim h
   |brk=>exact False.elim h
   |cont=>exact False.elim h
   | ret u =>
    obtain⟨v,H',os,bare,un,hok',r',q⟩:=h;have q':v=.bl true:=q;subst q';obtain rfl:u=Value.bool true:=r';refine⟨rfl,OldK.of_keep λb o e=>?_,os,bare⟩;cases q:H b with
    |none=>exact un.keep b o e q (by intro z;exact absurd (show b∈([]:List Addr) from z) (by simp)) (by simp)
    | some u =>
     rcases hO b with z|⟨ob,xs,z⟩
     ·rw[q]at z;cases z
     ·have z2:=un.frzs b ob _ z;obtain⟨e1,_⟩:=hok b _ z;obtain⟨e2,_⟩:=hok' b _ z2;rw[e]at e1;cases e1
      exact e2
 cases hk:K.lookup a with
 |some o =>
  have e:=KX a o hk;rw[ha]at e;cases e;refine core (λ_=>none) (λ_=>.inl rfl) (.inr ⟨_,vs.toArray,_,hk,rfl,rfl,rfl,by rw[List.size_toArray,lenV];exact hl,by simpa using rv⟩) (λb u z=>by have z':(none:Option HO)=some u:=z;cases z') (λb z=>absurd rfl z) λz=>absurd rfl z
 | none =>
  refine core (λb=>if b=a then some (.frz { cls:=.type "list",data:=.seq vs.toArray } (.lst (ns.map V.int))) else none) (λb=>?_) (.inl (.inr ⟨{ cls:=.type "list",data:=.seq vs.toArray },if_pos rfl⟩)) (λb u z=>?_) (λb z=>?_) λ_=>hk
  ·by_cases hb:b=a
   ·exact .inr ⟨_,_,if_pos hb⟩
   ·exact .inl (if_neg hb)
  ·by_cases hb:b=a
   ·have z':=(if_pos hb).symm.trans z;cases z';subst hb;exact⟨ha,by rw[length_map];exact hl,vs,_,rv,ha⟩
   ·have z':=(if_neg hb).symm.trans z;cases z'
  ·by_cases hb:b=a
   ·exact hb
   ·exact absurd (if_neg hb) z
theorem wA{l:PySem.W.OpenLaw}{n k:Nat}{q:Program}{D:List Str}{XP:(Str->Option Value)->Heap->Prop}{YP:World->Heap->Prop}{d:DefRec}{K:Params->PySem.W.Frag}{CX:World->CXT}{sp:World->Sp}{x:Str}
  (hn:l.most=some n) (ap:n<=sizeLine) (aO:d.params.defaults=[]) (hr:dj k callerA)
  (hY:∀(w:World) (h:Heap),YP w h->(K w.params).In h)
  (F:∀(w:World) (mg:Str->Option Value) (fa:Addr) (h:Heap),(K w.params).In h->h.Ns mainGlobals mg->mg d.name=some (.ref fa) ->
   ∃fd:FuncData,(∀(s:Shared) (u:Value),BindsTo s fd ⟨[u],[]⟩ [(x,u)]) /\
    ∀base:Heap,(K w.params).In base->base.Ns mainGlobals mg->de l.prog w (K w.params) mg base (CX w) k fa fd [x] (sp w))
  (a0:∀(w:World) (H:Hp) (a:Addr) (ns:List Int),ns.length<=n->zd H->SqL (K w.params) H a (ns.map V.int)->sp w [.ref a] H (λv _=>v=.bl true) λ_ _ _=>False)
  (a1:∀(w:World) (H:Hp) (s:Shared) (e:Value) (s':Shared),CX w [] H s (λ_ _ _=>False) e s'->False) :
  PySem.W.WalkO q D XP YP l.row.toRowW d [] (λf vs=>PySem.call f vs):=by
 refine Att.attach_call hn aO λw s₀ U mg mb fa o pm cd b1 a vs ns G Y ho hd b2 a2 Z J z hg=>?_
 have KX:=hY w _ Y;obtain⟨fd,hb,hF⟩:=F w mg fa _ KX G.T.g a2;exact ua KX G.T.g G.T.b G.T.builtins G.T.nolimit hg Z J (Nat.le_trans z ap) hr hF hb (λH hO hS=>a0 w H a ns z hO hS) λH e s'=>a1 w H U e s'
noncomputable def mB(s:Stmt)(j:Nat):Stmt:=match s with
 | .ClassDef _ _ _ body _ _ _ _ _ _ _=>body.getD j (.Pass ⟨0,0,0,0⟩)
 | _=>.Pass ⟨0,0,0,0⟩
noncomputable def mC(s:Stmt):Arguments:=match s with
 | .FunctionDef _ a _ _ _ _ _ _ _ _=>a
 | _=>{ posonlyargs:=[],args:=[],vararg:=none,kwonlyargs:=[],kw_defaults:=[],kwarg:=none,defaults:=[] }
noncomputable def eQ(s:Stmt):List Stmt:=match s with
 | .FunctionDef _ _ b _ _ _ _ _ _ _=>b
 | _=>[]
noncomputable def aR(s:Stmt):Scope:=match s with
 | .FunctionDef _ _ _ _ _ _ sc _ _ _=>sc
 | _=>{ kind:=.function,names:=[],isGenerator:=false,isCoroutine:=false }
noncomputable abbrev CX0:CXT:=λ_ _ _ _ _ _=>False
noncomputable abbrev E0:XK:=λ_ _ _=>False
theorem ik{X:Cx}:gY CX0 X E0:=λ_ _ _ _ _ _ _ h=>h.elim
section
variable{P:Program}{w:World}{K:PySem.W.Frag}{mg:Str->Option Value}{base:Heap}
end
section
variable{X:Cx}
theorem pv (i:Nat) {x:Str}{pos:Pos} (z:X.N[i]?=some x:=by rfl) (D:Vis X.env.scope x:=by first|exact Or.inl rfl|exact Or.inr (Or.inl rfl)|exact Or.inr (Or.inr rfl)) (hd:(x==("__debug__":Str))=false:=by decide)
  (q:(x==("__classdict__":Str))=false:=by decide):PE X (.Name x pos) (yJ i):=tw z D hd q
end
theorem DP{A B:Prop}(h:B):if false=true then A else B:=by
 rw[if_neg Bool.false_ne_true];exact h
noncomputable def ae(H H':Hp):Prop:=∀b o,H b=some o->H' b=some o
theorem ae.refl(H:Hp):ae H H:=λ_ _ h=>h
theorem ae.trans{H H1 H2:Hp}(a:ae H H1)(b:ae H1 H2):ae H H2:=λc o h=>b c o (a c o h)
theorem ae.free{H H':Hp}(e:ae H H'){l:Addr}(h:H' l=Option.none):H l=Option.none:=by
 cases q:H l with
 |none=>rfl
 |some o =>
  rw[e l o q]at h;cases h
theorem ae.seq{K:PySem.W.Frag}{H H':Hp}{a:Addr}{xs:List V}(e:ae H H')(h:SqL K H a xs):SqL K H' a xs:=by
 rcases h with (h|⟨o,h⟩)|h
 ·exact .inl (.inl (e _ _ h))
 ·exact .inl (.inr ⟨o,e _ _ h⟩)
 ·exact .inr h
section
variable{κ:Type} [DecidableEq κ]
noncomputable def Ex(kvs:List (κ×V))(k:κ):Option V:=(kvs.find? λq=>decide (q.1=k)).map (·.2)
noncomputable def Ey(kvs:List (κ×V))(k:κ)(v:V):List (κ×V):=
 if (kvs.any λq=>decide (q.1=k))=true then kvs.map (λq=>if q.1=k then (q.1,v) else q) else kvs ++ [(k,v)]
theorem KV.length{kvs:List (κ×V)}{vs:List (κ×Value)}(r:KV kvs vs):kvs.length=vs.length:=Paired.length r
end
theorem BE{P:Program}{w:World}{k:Key}{u:Value}(r:aA (kV k) u):(dr P w).is k u=true:=by
 cases k with
 |inl i=>obtain⟨t,e⟩:=(show ∃t,u=Value.int i t from r);subst e;exact nt P w i t
 |inr x=>obtain⟨t,e⟩:=(show ∃t,u=Value.str x t from r);subst e;exact nu P w x t
theorem lK{P:Program}{w:World}:∀{ks:List Key}{us:List Value},ay (ks.map kV) us->ItemsAre (dr P w) ks us
 | [],_,r=>by rw[map_nil]at r;cases r;exact .nil
 |k::ks,_,r=>by
  rw[map_cons]at r;cases r with
  |cons h t=>exact .cons (BE h) (lK t)
noncomputable abbrev KT(H:Hp):List (List Key×V)->List (List Key×Addr×Value)->Prop:=Paired λp q=>p.1=q.1/\H q.2.1=some (.tup (p.1.map kV))/\aA p.2 q.2.2
section
variable{P:Program}{w:World}{H:Hp}{h:Heap}{a:Addr}
theorem x_{u:HO}(ok:HOk P w H h)(e:Rd H a u):bU P w H h a u:=e.ok ok
theorem ya{kvs:List (Key×V)}(ok:HOk P w H h)(e:Rd H a (.dK kvs)):kvs.length<=sizeLine/\(a==sysModules)=false/\∃vs,KV kvs vs/\h.DictOf (dr P w) a vs:=
 show bU P w H h a (.dK kvs) from x_ ok e
theorem ze{ks:List Key}(ok:HOk P w H h)(e:H a=some (.tup (ks.map kV))):(tupleKind (dr P w)).is h ks a:=by
 obtain⟨_,its,r,o,h1,h2,n,h3⟩:=(show bU P w H h a (.tup (ks.map kV)) from ok a _ e);exact⟨o,its.toArray,n,h1,h2,h3,by simpa using lK r⟩
theorem BF{kvs:List (List Key×V)}(ok:HOk P w H h)(e:Rd H a (.dT kvs)):kvs.length<=sizeLine/\(a==sysModules)=false /\
  ∃xs,KT H kvs xs/\h.DictOfH (tupleKind (dr P w)) a xs:=by
 obtain⟨z,y,xs,r,o,es,ep,h1,h2,h3,h4,h5⟩:=(show bU P w H h a (.dT kvs) from x_ ok e);refine⟨z,y,xs,r,o,es,ep,h1,h2,h3,h4,λx hx=>?_,h5⟩;have all:∀{l:List (List Key×V)}{m:List (List Key×Addr×Value)},KT H l m->∀x∈m,(tupleKind (dr P w)).is h x.1 x.2.1:=by
  intro l m q
  induction q with
  |nil=>intro x hx;exact nomatch hx
  | @cons p q ps J D t ih =>
   intro x hx;rcases mem_cons.mp hx with e|hx
   ·subst e;exact ze ok (by rw[<- D.1];exact D.2.1)
   ·exact ih x hx
 exact all r x hx
end
section
variable{X:Cx}{pins:List (Addr×Obj)}{σ:St}{H:Hp}{s:Shared}{a:Addr}{y v:V}{u r:Value}{o:Option V}{A:Around}{E:Value->Shared->Prop}
end
section
variable{X:Cx}{pins:List (Addr×Obj)}{σ:St}{H:Hp}{s:Shared}{a:Addr}{kvs:List (Key×V)}{k:Key}{u:Value}{A:Around}{E:Value->Shared->Prop}
end
noncomputable def zf(i:Expr):Prop:=∀q z,subscripted i false q z=operate [q,z] (getItem q z)
theorem wB{prog:Program}{w:World}{A:Around}{E:Value->Shared->Prop}{s:Shared}{env:Env}{value slice:Expr}{pos:Pos}{T id:String}{Q:Value->Shared->Prop}
  (hl:typeLookup (.type T) "__getitem__"=pure (some (.builtin id))) (hs:zf slice)
  (h:wpAny (model prog w) A (eval value env) (λo D=>wpAny (model prog w) A (eval slice env) (λi q=>q.TypeIs o T/\wpAny (model prog w) A (getItem o i) Q E q) E D) E s) :
  wpAny (model prog w) A (eval (.Subscript value slice pos) env) Q E s:=by
 refine Subscript_ (wpAny_mono h (λo D U=>wpAny_mono U (λi q z=>?_) λ_ _ x=>x) λ_ _ x=>x);obtain⟨Z,z⟩:=z;unfold subscriptTail;refine wpAny_bind ?_;rw[getitemInPython_of_ne Z.not_modules];refine wpAny_bind (wpAny_specialOf Z hl ?_);have fin:wpAny (model prog w) A (subscripted slice false o i) (λr J=>wpAny (model prog w) A (letTemporaryGo value o r >>= λ_=>pure r) Q E J) E q:=by
  rw[hs o i];exact wpAny_operating (wpAny_mono z (λr J Y=>wpAny_bind (wpAny_letTemporaryGo (wpAny_pure Y))) λ_ _ x=>x)
 first
  | exact wpAny_pure (wpAny_bind fin)
  | exact wpAny_bind (wpAny_pure (wpAny_bind fin))
  | exact wpAny_bind fin
section
variable{X:Cx}{o i e value:Expr}{pos pos' tpos:Pos}{td ty tv:TE}
end
section
variable{X:Cx}{pos:Pos}
end
noncomputable def IsD(H:Hp)(a:Addr):Prop:=(∃kvs,Rd H a (.dK kvs))\/∃kvs,Rd H a (.dT kvs)
theorem zg{X:Cx}{pins:List (Addr×Obj)}{σ:St}{H:Hp}{s:Shared}{a:Addr}(I:Inv X pins σ H s)(d:IsD H a) :
  s.TypeIs (.ref a) "dict"/\(∀b,Value.ref a=.ref b->∃z,s.heap.get? b=some z/\z.dict=none)/\(a==sysModules)=false:=by
 rcases d with ⟨kvs,e⟩|⟨kvs,e⟩
 ·obtain⟨_,hd,vs,_,dd⟩:=ya I.hok e;refine⟨dd.typeIs,λb q=>?_,hd⟩;cases q;obtain⟨z,_,_,h1,h2,_⟩:=dd;exact⟨z,h1,h2.2.1⟩
 ·obtain⟨_,hd,xs,_,dd⟩:=BF I.hok e;refine⟨dd.typeIs,λb q=>?_,hd⟩;cases q;obtain⟨z,_,_,h1,h2,_⟩:=dd;exact⟨z,h1,h2.2.1⟩
section
variable{X:Cx}{pins:List (Addr×Obj)}{σ:St}{H:Hp}{s:Shared}{a:Addr}{y d:V}{u r:Value}{o:Option V}{A:Around}{E:Value->Shared->Prop}
end
section
variable{X:Cx}{o e f:Expr}{apos cpos:Pos}{td ty tx:TE}
end
section
variable{X:Cx}{pins:List (Addr×Obj)}{σ:St}{H:Hp}{s:Shared}{a:Addr}{kvs:List (Key×V)}{A:Around}{E:Value->Shared->Prop}
end
section
variable{X:Cx}{pins:List (Addr×Obj)}{σ:St}{H:Hp}{s:Shared}{a:Addr}{y:V}{u:Value}{A:Around}{E:Value->Shared->Prop}
end
end L2
namespace L2.Srt
open PySem PySem.W PyProof.Rows List Option
section
variable{O:KeyOrd}{key:Nat->O.α}{N:Nat}{cmp:Nat->Nat->(Bool->Shared->Prop)->Shared->Prop}{s:Shared}
noncomputable def kk(key:Nat->O.α)(p:Array Nat)(i:Nat):O.α:=key (p.getD i 0)
noncomputable def eR(key:Nat->O.α)(p:Array Nat)(k:Nat):Prop:=∀i j,i<=j->j<k->O.kle (kk key p i) (kk key p j)
noncomputable def nJ(key:Nat->O.α)(p:Array Nat)(k:Nat):Prop:=∀i j,i<=j->j<k->O.kle (kk key p j) (kk key p i)
noncomputable def PB(N:Nat)(p:Array Nat):Prop:=p.Perm (range N).toArray
theorem PB.size{p:Array Nat}(h:PB N p):p.size=N:=by have:=h.size_eq;simpa using this
theorem PB.lt{p:Array Nat}(h:PB N p){i:Nat}(hi:i<N):p.getD i 0<N:=by
 have q:i<p.size:=by rw[h.size];exact hi
 have z:p[i]∈(range N):=by
  have e:=(Array.perm_iff_toList_perm.mp h).mem_iff (a:=p[i]);simpa using e.mp (by simp)
 have e:p.getD i 0=p[i]:=by simp[Array.getD,q]
 rw[e];exact mem_range.mp z
theorem PB.rev{p:Array Nat}(h:PB N p)(i j:Nat):PB N (kas_rev p i j):=(mirror_perm _ _ _ _).trans h
theorem PB.bub{p:Array Nat}(h:PB N p)(i j:Nat):PB N (bubble p i j):=(bubble_perm _ _ _).trans h
theorem f_{p q:Array Nat}{i j:Nat}(h:p[i]?=q[j]?):kk key p i=kk key q j:=by
 unfold kk;rw[Array.getD_eq_getD_getElem?,Array.getD_eq_getD_getElem?,h]
theorem lL{p:Array Nat}{q d:Nat}(z:q<p.size)(hd:d<=q)(k:Nat) :
  kk key (bubble p q d) k=if k=q-d then kk key p q else if q-d<k/\k<=q then kk key p (k-1) else kk key p k:=by
 have e:=getElem?_bubble z d hd k;by_cases h1:k=q-d
 ·rw[if_pos h1]at e ⊢;exact f_ e
 ·rw[if_neg h1]at e ⊢;by_cases h2:q-d<k/\k<=q
  ·rw[if_pos h2]at e ⊢;exact f_ e
  ·rw[if_neg h2]at e ⊢;exact f_ e
theorem pJ{p:Array Nat}{i j:Nat}(q:j<=p.size)(k:Nat) :
  kk key (kas_rev p i j) k=if i<=k/\k<j then kk key p (i+j-1-k) else kk key p k:=by
 have e:=getElem?_mirror_all (i:=i) q k;unfold kas_rev;by_cases h1:i<=k/\k<j
 ·rw[if_pos h1]at e ⊢;exact f_ e
 ·rw[if_neg h1]at e ⊢;exact f_ e
theorem cW{p:Array Nat}{i j:Nat}(z:j<=p.size)(q:∀k,i<=k->k<j->kk key p k=kk key p (j-1))(k:Nat) :
  kk key (kas_rev p i j) k=kk key p k:=by
 rw[pJ z];split
 ·rw[q _ (by omega) (by omega),q k (by omega) (by omega)]
 ·rfl
variable(hc:∀a b C,a<N->b<N->C (O.blt (key a) (key b)) s->cmp a b C s)
include hc
theorem nK{α:Type}{p:Array Nat}{i j:Nat}{k:Bool->KasT α}{Q:α->Shared->Prop}(q:PB N p)(hi:i<N)(z:j<N)
  (h:(k (O.blt (kk key p i) (kk key p j))).kasWp cmp Q s):(KasT.ask (p.getD i 0) (p.getD j 0) k).kasWp cmp Q s:=
 hc _ _ _ (q.lt hi) (q.lt z) h
theorem ub{p:Array Nat}{nrem:Nat}{Q:Nat->Shared->Prop}(hp:PB N p)(hn:nrem<=N):∀(f n:Nat),n+f=nrem->1<=n->eR key p n ->
  (∀m,n<=m->m<=nrem->eR key p m->(m=nrem\/O.klt (kk key p m) (kk key p (m-1)))->Q m s)->(kas_asc p f n).kasWp cmp Q s
 |0,n,e,h1,hs,h=>h n (Nat.le_refl _) (by omega) hs (.inl (by omega))
 | f + 1,n,e,h1,hs,h=>by
  show(KasT.ask (p.getD n 0) (p.getD (n-1) 0) λc=>if c=true then .ret n else kas_asc p f (n+1)).kasWp cmp Q s;refine nK hc hp (by omega) (by omega) ?_;cases hless:O.blt (kk key p n) (kk key p (n-1)) with
  |true =>
   rw[if_pos rfl];exact h n (Nat.le_refl _) (by omega) hs (.inr hless)
  | false =>
   rw[if_neg (by simp)];refine ub hp hn f (n+1) (by omega) (by omega) (λi j hij hj=>?_) λm a b c d=>h m (by omega) b c d
   by_cases hjx:j<n
   ·exact hs i j hij hjx
   ·have hj':j=n:=by omega
    subst hj';by_cases hi':i=j
    ·subst hi';exact KeyOrd.kle_refl _
    ·exact KeyOrd.kle_trans (hs i (j-1) (by omega) (by omega)) hless
theorem qK{p:Array Nat}{n q:Nat}{Q:Nat×Array Nat->Shared->Prop}(z:PB N p)(J:q<=N)(h1:1<=n)(U:n<=q)(Y:nJ key p n)
  (h:∀m D,PB N D->1<=m->m<=q->eR key D m->Q (m,D) s):(kas_tail3 n q p).kasWp cmp Q s:=by
 unfold kas_tail3;rw[KasT.kasWp_bind];have hz:n<=p.size:=by rw[z.size];omega
 refine ub hc (z.rev 0 n) J (q-n) n (by omega) h1 (λi j Z hj=>?_) λm a b c _=>h m _ (z.rev 0 n) (by omega) b c
 rw[pJ hz,pJ hz,if_pos (by omega),if_pos (by omega)];exact Y _ _ (by omega) (by omega)
theorem mD{nrem:Nat}{Q:Array Nat×Nat×Nat->Shared->Prop}(hn:nrem<=N):∀(f:Nat) (p:Array Nat) (n q:Nat),n+f=nrem->PB N p->nJ key p n->q+1<=n ->
  (∀i,n-(q+1)<=i->i<n->kk key p i=kk key p (n-1)) ->
  (∀p' m q',n<=m->m<=nrem->PB N p'->nJ key p' m->q'+1<=m->(∀i,m-(q'+1)<=i->i<m->kk key p' i=kk key p' (m-1))->Q (p',m,q') s) ->
  (kas_desc f p n q).kasWp cmp Q s
 |0,p,n,q,e,hp,hs,hq,he,h=>h p n q (Nat.le_refl _) (by omega) hp hs hq he
 | f + 1,p,n,q,e,hp,hs,hq,he,h=>by
  show(KasT.ask (p.getD n 0) (p.getD (n-1) 0) λc =>
   if c=true then (if q > 0 then kas_desc f (kas_rev p (n-(q+1)) n) (n+1) 0 else kas_desc f p (n+1) 0)
   else .ask (p.getD (n-1) 0) (p.getD n 0) λd=>if d=true then .ret (p,n,q) else kas_desc f p (n+1) (q+1)).kasWp cmp Q s
  have hz:n<=p.size:=by rw[hp.size];omega
  refine nK hc hp (by omega) (by omega) ?_;cases hless:O.blt (kk key p n) (kk key p (n-1)) with
  | true =>
   rw[if_pos rfl];have step1:∀p':Array Nat,(∀k,kk key p' k=kk key p k)->nJ key p' (n+1):=by
    intro p' hk i j hij hj;rw[hk,hk];by_cases hjx:j<n
    ·exact hs i j hij hjx
    ·have hj':j=n:=by omega
     subst hj';by_cases hi':i=j
     ·subst hi';exact KeyOrd.kle_refl _
     ·exact KeyOrd.kle_trans (KeyOrd.kle_of_klt hless) (hs i (j-1) (by omega) (by omega))
   by_cases hneq:q > 0
   ·rw[if_pos hneq];exact mD hn f _ (n+1) 0 (by omega) (hp.rev _ _) (step1 _ (cW hz he)) (by omega) (λi a b=>by congr 1;omega)
     λp' m q' a=>h p' m q' (by omega)
   ·rw[if_neg hneq];exact mD hn f p (n+1) 0 (by omega) hp (step1 _ λ_=>rfl) (by omega) (λi a b=>by congr 1;omega) λp' m q' a=>h p' m q' (by omega)
  | false =>
   rw[if_neg (by simp)];refine nK hc hp (by omega) (by omega) ?_;cases hlarger:O.blt (kk key p (n-1)) (kk key p n) with
   |true =>
    rw[if_pos rfl];exact h p n q (Nat.le_refl _) (by omega) hp hs hq he
   | false =>
    rw[if_neg (by simp)];have heqx:kk key p n=kk key p (n-1):=KeyOrd.kle_antisymm hlarger hless;refine mD hn f p (n+1) (q+1) (by omega) hp (λi j hij hj=>?_) (by omega) (λi a b=>?_) λp' m q' a=>h p' m q' (by omega)
    ·by_cases hjx:j<n
     ·exact hs i j hij hjx
     ·have hj':j=n:=by omega
      subst hj';by_cases hi':i=j
      ·subst hi';exact KeyOrd.kle_refl _
      ·rw[heqx];exact hs i (j-1) (by omega) (by omega)
    ·rw[show n+1-1=n by omega];by_cases hix:i=n
     ·subst hix;rfl
     ·rw[heqx];exact he i (by omega) (by omega)
theorem j4{p:Array Nat}{n q:Nat}{Q:Nat×Array Nat->Shared->Prop}(hp:PB N p)(Z:q<=N)(a0:n+1<=q)(hs:nJ key p (n+1))
  (h:∀m J,PB N J->1<=m->m<=q->eR key J m->Q (m,J) s):(kas_descPart n q p).kasWp cmp Q s:=by
 unfold kas_descPart;rw[KasT.kasWp_bind];refine mD hc Z (q-(n+1)) p (n+1) 0 (by omega) hp hs (by omega) (λi a b=>by congr 1;omega) λJ m q' a3 U D Y hq he=>?_
 dsimp only;have hz:m<=J.size:=by rw[D.size];omega
 by_cases z:q' > 0
 ·rw[if_pos z];refine qK hc (D.rev _ _) Z (by omega) U (λi j ao hj=>?_) h;rw[cW hz he,cW hz he];exact Y i j ao hj
 ·rw[if_neg z];exact qK hc D Z (by omega) U Y h
theorem wC{p:Array Nat}{nrem:Nat}{Q:Nat×Array Nat->Shared->Prop}(hp:PB N p)(hn:nrem<=N)(h1:1<=nrem)
  (h:∀m p',PB N p'->1<=m->m<=nrem->eR key p' m->Q (m,p') s):(kas_count nrem p).kasWp cmp Q s:=by
 unfold kas_count;rw[KasT.kasWp_bind];refine ub hc hp hn (nrem-1) 1 (by omega) (Nat.le_refl _) (λi j hij hj=>by have:i=j:=(by omega);subst this;exact KeyOrd.kle_refl _) λn hn1 hn2 hsn hor=>?_
 by_cases hnn:n=nrem
 ·rw[if_pos (by simpa using hnn)];exact h n p hp hn1 hn2 hsn
 ·rw[if_neg (by simpa using hnn)]
  have hlt:O.klt (kk key p n) (kk key p (n-1)):=hor.resolve_left hnn;by_cases hgt:n > 1
  ·rw[if_pos hgt];refine nK hc hp (by omega) (by omega) ?_;cases hrose:O.blt (kk key p 0) (kk key p (n-1)) with
   |true =>
    rw[if_pos rfl];exact h n p hp hn1 hn2 hsn
   | false =>
    rw[if_neg (by simp)];have hsz:n<=p.size:=by rw[hp.size];omega
    have hall:∀k,0<=k->k<n->kk key p k=kk key p (n-1):=by
     intro k _ hk;have a1:=hsn 0 k (by omega) hk;have a2:=hsn k (n-1) (by omega) (by omega);exact KeyOrd.kle_antisymm a2 (KeyOrd.kle_trans hrose a1)
    refine j4 hc (hp.rev _ _) hn (by omega) (λi j hij hj=>?_) h;rw[cW hsz hall,cW hsz hall];by_cases hjn:j<n
    ·rw[hall i (by omega) (by omega),hall j (by omega) hjn];exact KeyOrd.kle_refl _
    ·have hj':j=n:=by omega
     subst hj';by_cases hi':i=j
     ·subst hi';exact KeyOrd.kle_refl _
     ·rw[hall i (by omega) (by omega)];exact KeyOrd.kle_of_klt hlt
  ·rw[if_neg hgt];have hn1':n=1:=by omega
   subst hn1';refine j4 hc hp hn (by omega) (λi j hij hj=>?_) h;by_cases hi':i=j
   ·subst hi';exact KeyOrd.kle_refl _
   ·have hi0:i=0:=by omega
    have hj1:j=1:=by omega
    subst hi0;subst hj1
    exact KeyOrd.kle_of_klt hlt
theorem mE{p:Array Nat}{k:Nat}{Q:Nat->Shared->Prop}(hp:PB N p)(hk:k<N)(hs:eR key p k):∀(f l r:Nat),r-l<=f->l<=r->r<=k ->
  (∀i,i<l->O.kle (kk key p i) (kk key p k))->(∀i,r<=i->i<k->O.klt (kk key p k) (kk key p i)) ->
  (∀l,l<=k->(∀i,i<l->O.kle (kk key p i) (kk key p k))->(∀i,l<=i->i<k->O.klt (kk key p k) (kk key p i))->Q l s)->(kas_place p k f l r).kasWp cmp Q s
 |0,l,r,hf,hlr,hrk,hlo,hhi,h=>by
  have:l=r:=by omega
  subst this;exact h l hrk hlo hhi
 | f + 1,l,r,hf,hlr,hrk,hlo,hhi,h=>by
  show(if l>=r then KasT.ret l else .ask (p.getD k 0) (p.getD ((l+r) / 2) 0) λc=>if c=true then kas_place p k f l ((l+r) / 2) else kas_place p k f ((l+r) / 2+1) r).kasWp cmp Q s;by_cases hge:l>=r
  ·rw[if_pos hge];have:l=r:=by omega
   subst this;exact h l hrk hlo hhi
  ·rw[if_neg hge];refine nK hc hp hk (by omega) ?_;cases hless:O.blt (kk key p k) (kk key p ((l+r) / 2)) with
   |true =>
    rw[if_pos rfl];exact mE hp hk hs f l ((l+r) / 2) (by omega) (by omega) (by omega) hlo (λi a b=>KeyOrd.klt_of_klt_of_kle hless (hs _ _ a b)) h
   |false =>
    rw[if_neg (by simp)];exact mE hp hk hs f ((l+r) / 2+1) r (by omega) (by omega) (by omega) (λi a=>KeyOrd.kle_trans (hs i ((l+r) / 2) (by omega) (by omega)) (show O.kle _ _ from hless)) hhi h
theorem yb{Q:Array Nat->Shared->Prop}:∀(f:Nat) (p:Array Nat) (k:Nat),k+f=N->PB N p->eR key p k->(∀p',PB N p'->eR key p' N->Q p' s)->(kas_bin f p k).kasWp cmp Q s
 |0,p,k,e,hp,hs,h=>by
  have:k=N:=by omega
  subst this;exact h p hp hs
 | f + 1,p,k,e,hp,hs,h=>by
  show((kas_place p k k 0 k).bind λl=>kas_bin f (bubble p k (k-l)) (k+1)).kasWp cmp Q s;rw[KasT.kasWp_bind];refine mE hc hp (by omega) hs k 0 k (by omega) (by omega) (by omega) (λi a=>by omega) (λi a b=>by omega) λl hl hlo hhi=>?_
  refine yb f _ (k+1) (by omega) (hp.bub _ _) (λi j hij hj=>?_) h;have hks:k<p.size:=by rw[hp.size];omega
  rw[lL hks (by omega),lL hks (by omega),show k-(k-l)=l by omega]
  repeat' split
  all_goals first
   | (exfalso;omega)
   | exact KeyOrd.kle_refl _
   | exact hlo _ (by omega)
   | exact KeyOrd.kle_of_klt (hhi _ (by omega) (by omega))
   | exact hs _ _ (by omega) (by omega)
theorem zh{Q:Array Nat->Shared->Prop}(h1:1<=N)(h:∀p,PB N p->eR key p N->Q p s):(kas_sort N).kasWp cmp Q s:=by
 unfold kas_sort;rw[KasT.kasWp_bind];refine wC hc (Array.Perm.refl _) (Nat.le_refl _) h1 λm J q U Y z=>?_
 dsimp only;by_cases D:m<N
 ·rw[if_pos D,show max m 1=m by omega];exact yb hc _ _ _ (by omega) q z h
 ·rw[if_neg D];have:m=N:=by omega
  subst this;exact h J q z
end
end L2.Srt
namespace L2.Srt
open PySem PyProof.Rows List Option
theorem j5:∀a:List Int,HT.lexLt a a=false
 | []=>rfl
 |x::r=>by rw[HT.lexLt_cons,if_pos rfl];exact j5 r
theorem iX:∀a b c:List Int,HT.lexLt a b=true->HT.lexLt b c=true->HT.lexLt a c=true
 | [],[],_,h,_=>by cases h
 | [],_::_,[],_,h=>by cases h
 | [],_::_,_::_,_,_=>rfl
 | _::_,[],_,h,_=>by cases h
 | _::_,_::_,[],_,h=>by cases h
 | x::a,y::b,z::c,h1,h2=>by
  rw[HT.lexLt_cons]at h1 h2 ⊢;by_cases e1:x=y
  ·rw[if_pos e1]at h1;by_cases e2:y=z
   ·rw[if_pos e2]at h2;rw[if_pos (e1.trans e2)];exact iX a b c h1 h2
   ·rw[if_neg e2]at h2;rw[if_neg (λq=>e2 (e1.symm.trans q)),e1];exact h2
  ·rw[if_neg e1]at h1;have q1:=of_decide_eq_true h1;by_cases e2:y=z
   ·rw[if_neg (λq=>e1 (q.trans e2.symm)),<- e2];exact h1
   ·rw[if_neg e2]at h2;have q2:=of_decide_eq_true h2;rw[if_neg (by omega)];exact decide_eq_true (by omega)
theorem iY:∀a b:List Int,HT.lexLt a b=false->HT.lexLt b a=false->a=b
 | [],[],_,_=>rfl
 | [],_::_,h,_=>by cases h
 | _::_,[],_,h=>by cases h
 | x::a,y::b,h1,h2=>by
  rw[HT.lexLt_cons]at h1 h2;by_cases e:x=y
  ·rw[if_pos e]at h1;rw[if_pos e.symm]at h2;rw[e,iY a b h1 h2]
  ·rw[if_neg e]at h1;rw[if_neg (λq=>e q.symm)]at h2;have z:=of_decide_eq_false h1;have D:=of_decide_eq_false h2;omega
theorem wD(a b c:List Int)(h:HT.lexLt a c=true):HT.lexLt a b=true\/HT.lexLt b c=true:=by
 cases h1:HT.lexLt a b with
 |true=>exact .inl rfl
 |false =>
  cases h2:HT.lexLt b a with
  |true=>exact .inr (iX b a c h2 h)
  |false=>rw[iY a b h1 h2]at h;exact .inr h
noncomputable def dC:KeyOrd:=⟨List Int,HT.lexLt,j5,iX,wD,iY⟩
noncomputable def cX:KeyOrd:=⟨Int,λa b=>decide (a<b),λa=>decide_eq_false (by omega),λa b c h1 h2=>decide_eq_true (by have:=of_decide_eq_true h1;have:=of_decide_eq_true h2;omega),
 λa b c h=>by
  have:=of_decide_eq_true h;by_cases q:a<b
  ·exact .inl (decide_eq_true q)
  ·exact .inr (decide_eq_true (by omega)),
 λa b h1 h2=>by have:=of_decide_eq_false h1;have:=of_decide_eq_false h2;omega⟩
section
variable(O:KeyOrd)
noncomputable def jz(x:O.α):List O.α->List O.α
 | []=>[x]
 |y::r=>if O.blt y x then y::jz x r else x::y::r
noncomputable def fU:List O.α->List O.α
 | []=>[]
 |x::r=>jz O x (fU r)
theorem iZ(x:O.α):∀l,(jz O x l).Perm (x::l)
 | []=>.refl _
 |y::r=>by
  show(if O.blt y x then y::jz O x r else x::y::r).Perm _;split
  ·exact(Perm.cons y (iZ x r)).trans (.swap x y r)
  ·exact .refl _
theorem d9:∀l,(fU O l).Perm l
 | []=>.refl _
 |x::r=>(iZ O x _).trans (.cons x (d9 r))
theorem j6(x:O.α):∀l:List O.α,l.Pairwise O.kle->(jz O x l).Pairwise O.kle
 | [],_=>pairwise_singleton _ _
 | y::r,h=>by
  show(if O.blt y x then y::jz O x r else x::y::r).Pairwise O.kle;obtain⟨h1,h2⟩:=pairwise_cons.mp h;by_cases q:O.blt y x=true
  ·rw[if_pos q];refine pairwise_cons.mpr ⟨λz hz=>?_,j6 x r h2⟩;rcases mem_cons.mp ((iZ O x r).mem_iff.mp hz) with e|e
   ·rw[e];exact KeyOrd.kle_of_klt q
   ·exact h1 z e
  ·rw[if_neg q];have q':O.kle x y:=Bool.eq_false_iff.mpr q;refine pairwise_cons.mpr ⟨λz hz=>?_,h⟩;rcases mem_cons.mp hz with e|e
   ·rw[e];exact q'
   ·exact KeyOrd.kle_trans q' (h1 z e)
theorem dy:∀l,(fU O l).Pairwise O.kle
 | []=>Pairwise.nil
 |x::r=>j6 O x _ (dy r)
theorem il:∀{a b:List O.α},a.Perm b->a.Pairwise O.kle->b.Pairwise O.kle->a=b
 | [],b,p,_,_=>p.nil_eq
 |x::a,[],p,_,_=>by have:=p.length_eq;simp at this
 | x::a,y::b,p,ha,hb=>by
  obtain⟨a1,a2⟩:=pairwise_cons.mp ha;obtain⟨b1,b2⟩:=pairwise_cons.mp hb;have e:x=y:=by
   have hx:x∈y::b:=p.mem_iff.mp (.head _);have hy:y∈x::a:=p.mem_iff.mpr (.head _);rcases mem_cons.mp hx with q|q
   ·exact q
   ·rcases mem_cons.mp hy with q'|q'
    ·exact q'.symm
    ·exact KeyOrd.kle_antisymm (a1 y q') (b1 x q)
  subst e;rw[il (p.cons_inv) a2 b2]
theorem im{a l:List O.α}(p:a.Perm l)(h:a.Pairwise O.kle):a=fU O l:=il O (p.trans (d9 O l).symm) h (dy O l)
theorem lf{a b:List O.α}(p:a.Perm b):fU O a=fU O b:=im O ((d9 O a).trans p) (dy O a)
theorem nL{a:List O.α}(h:a.Pairwise O.kle):fU O a=a:=(im O (.refl a) h).symm
end
theorem gx{α:Type}(xs:List α)(d:α):(range xs.length).map (λi=>xs.getD i d)=xs:=by
 apply ext_getElem?;intro i;rw[getElem?_map];by_cases q:i<xs.length
 ·simp[getElem?_range,q]
 ·simp[getElem?_range,q]
theorem zi{O:KeyOrd}{d:O.α}{xs:List O.α}{p:Array Nat}(D:PB xs.length p)(U:eR (λi=>xs.getD i d) p xs.length):p.toList.map (λi=>xs.getD i d)=fU O xs:=by
 refine im O ?_ ?_
 ·have h:=(Array.perm_iff_toList_perm.mp D).map λi=>xs.getD i d
  have e:(map (λi=>xs.getD i d) (range xs.length).toArray.toList)=xs:=gx xs d;rw[e]at h;exact h
 ·rw[pairwise_iff_getElem];intro i j hi J z;rw[length_map,Array.length_toList]at hi J;have hz:=D.size;have q:=U i j (Nat.le_of_lt z) (by omega);simp only[getElem_map,Array.getElem_toList];have Y:p.getD i 0=p[i]:=by simp[Array.getD,hi]
  have Z:p.getD j 0=p[j]:=by simp[Array.getD,J]
  unfold kk at q;rw[Y,Z]at q;exact q
end L2.Srt
namespace L2.Srt
open PySem PySem.W PySem.Calls PyProof.Rows List Option
section
variable{prog:Program}{w:World}{A:Around}{E:Value->Shared->Prop}{s:Shared}
noncomputable def KOk(κ:SortKind):Prop:=κ=tuples' true\/κ=general'\/κ=oneType'
theorem mF {KO:SortKind->Prop}{O:KeyOrd}{key:Nat->O.α}{a:Addr}{vs:List Value}{n:Nat}{R:PySem.Fin->Shared->Prop} (ho:s.heap.get? a=some (seqObj "list" vs.toArray n)) (aO:vs.length<64)
  (hk:2<=vs.length->∀(s':Shared) (Q:SortKind->Shared->Prop),(∀b o,b≠a->s.heap.get? b=some o->s'.heap.get? b=some o)->(∀κ,KO κ->Q κ s')->wpAny (model prog w) A (keyKind' vs.toArray) Q (λ_ _=>False) s')
  (hc:∀κ,KO κ->∀(s':Shared) (i j:Nat) (C:Bool->Shared->Prop),(∀b o,b≠a->s.heap.get? b=some o->s'.heap.get? b=some o)->i<vs.length->j<vs.length->C (O.blt (key i) (key j)) s' ->
   wpAny (model prog w) A (keyLt' κ (vs.getD i Value.none) (vs.getD j Value.none)) C (λ_ _=>False) s')
  (h:∀p:Array Nat,PB vs.length p->eR key p vs.length->R (.done (.ret .none)) { s with heap:=sortedHeap s.heap a vs (p.toList.map λi=>vs.getD i Value.none).toArray }) :
  wpAny (model prog w) A (Builtin.«list.sort» ⟨[.ref a],[]⟩) R E s:=by
 rw[list_sort_plain];have ha:a<s.heap.objs.size:=Heap.lt_size ho;refine wpAny_bind (listItems_at ho rfl ?_);refine wpAny_bind (listUpdate_at ho rfl ?_ (by rw[List.size_toArray,sizeLine_eq];omega) (Nat.zero_le _));obtain⟨e1,Y⟩:∃e1,(s.heap.update a (Obj.mapSeq λ_=>(#[]:Array Value))).get? a=some (seqObj "list" #[] e1):=⟨_,get?_update_seq ho λ_=>#[]⟩;refine wpAny_bind (seqEpoch_at Y rfl ?_);refine wpAny_bind (wpAny_newTuple ?_ (by show vs.length<=_;rw[sizeLine_eq];omega));refine wpAny_bind (wpAny_newList ?_ (Nat.zero_le _));refine wpAny_holding ?_;have D:(((s.heap.update a (Obj.mapSeq λ_=>(#[]:Array Value))).push (seqObj "tuple" vs.toArray 0)).push (seqObj "list" #[] 0)).get? a=some (seqObj "list" #[] e1):=Heap.get?_push_of_some _ (Heap.get?_push_of_some _ Y);have kp:∀b o,b≠a->s.heap.get? b=some o->(((s.heap.update a (Obj.mapSeq λ_=>(#[]:Array Value))).push (seqObj "tuple" vs.toArray 0)).push (seqObj "list" #[] 0)).get? b=some o:=λb o hb e =>
  Heap.get?_push_of_some _ (Heap.get?_push_of_some _ ((Heap.get?_update_other _ _ (Ne.symm hb)).trans e))
 show wpAny (model prog w) A _ R E { s with heap:=((s.heap.update a (Obj.mapSeq λ_=>(#[]:Array Value))).push (seqObj "tuple" vs.toArray 0)).push (seqObj "list" #[] 0) };dsimp only;have b5:vs.toArray.size=vs.length:=by simp
 by_cases h2:vs.toArray.size<2
 ·rw[if_pos h2,if_pos h2];refine wpAny_bind (wpAny_pure ?_);rw[StateT.run_pure];refine wpAny_bind (wpAny_pure ?_);dsimp only;refine wpAny_bind (seqEpoch_at D rfl ?_);refine wpAny_bind (listUpdate_at D rfl ?_ (Nat.zero_le _) (by rw[Array.size_map];show(pairsOf vs).size<=_;rw[pairsOf_size,sizeLine_eq];omega));simp only[bne_self_eq_false,Bool.false_eq_true,if_false];have e:((arrOf (SortSt.mk' general' (vs.toArray.zip vs.toArray) #[] 7 none)).map (·.2))=((range vs.length).toArray.toList.map λi=>vs.getD i Value.none).toArray:=by
   have e2:(arrOf (SortSt.mk' general' (vs.toArray.zip vs.toArray) #[] 7 none))=vs.toArray.zip vs.toArray:=rfl;rw[e2];apply Array.toList_inj.mp;rw[gx];simp[map_snd_zip]
  refine wpAny_pure ?_;have q:=h (range vs.length).toArray (Array.Perm.refl _) (λi j ca hj=>by
   have:i=j:=by omega
   subst this;exact KeyOrd.kle_refl _)
  rw[<- e]at q;exact q
 ·rw[if_neg h2,if_neg h2];have Z:2<=vs.length:=by omega
  refine wpAny_bind (wpAny_mono (hk Z _ (λκ s0=>KO κ/\s0={ s with heap:=((s.heap.update a (Obj.mapSeq λ_=>(#[]:Array Value))).push (seqObj "tuple" vs.toArray 0)).push (seqObj "list" #[] 0) }) kp λκ z=>⟨z,rfl⟩) (λκ s0 z=>?_) λ_ _ x=>x.elim);obtain⟨z,rfl⟩:=z;refine wpAny_bind (wpAny_mono (kat_run (Q:=λJ s'=>∃p:Array Nat,p.size=vs.length/\arrOf J=p.map (kas_item (vs.toArray.zip vs.toArray))/\failedOf J=none/\PB vs.length p/\eR key p vs.length/\s'={ s with heap:=((s.heap.update a (Obj.mapSeq λ_=>(#[]:Array Value))).push (seqObj "tuple" vs.toArray 0)).push (seqObj "list" #[] 0) })
   (G:=λp s'=>PB vs.length p/\eR key p vs.length/\s'={ s with heap:=((s.heap.update a (Obj.mapSeq λ_=>(#[]:Array Value))).push (seqObj "tuple" vs.toArray 0)).push (seqObj "list" #[] 0) })
   rfl Z aO (λp' J s' a1 a2 a3 a4=>⟨p',a1,a2,a3,a4⟩)
   (zh (key:=key) (λi j C hi hj q=>hc κ z _ i j C kp hi hj q) (by omega) λp hp hr=>⟨hp,hr,rfl⟩)) ?_ λ_ _ e=>e)
  rintro ⟨⟨⟩,J⟩ s' ⟨p,hp,a6,hf,a7,a8,rfl⟩;dsimp only;have U:=kat_snds rfl a6;refine wpAny_bind (seqEpoch_at D rfl ?_);refine wpAny_bind (listUpdate_at D rfl ?_ (Nat.zero_le _) (by rw[U];refine Nat.le_trans (Nat.le_of_eq ?_) (show vs.length<=_ by rw[sizeLine_eq];omega);simp[hp]));rw[hf,U];simp only[bne_self_eq_false,Bool.false_eq_true,if_false];exact wpAny_pure (h p a7 a8)
theorem jq{fin:Bool}{C:Bool->Shared->Prop}:∀{vs ws:List Value}{ns ms:List Int} (i:Nat),IntsAre vs ns->IntsAre ws ms->fin=decide (ns.length<ms.length)->C (HT.lexLt ns ms) s->KatLex prog w A true fin C (vs.zip ws) i s
 | _,_,_,_,i,.nil,.nil,hf,h=>by
  rw[zip_nil_left];refine kat_nil ?_;rw[hf];exact h
 | _,_,_,_,i,.nil,.cons c u hw,hf,h=>by
  rw[zip_nil_left];refine kat_nil ?_;rw[hf,decide_eq_true (by simp)];exact h
 | _,_,_,_,i,.cons a t hv,.nil,hf,h=>by
  rw[zip_nil_right];refine kat_nil ?_;rw[hf,decide_eq_false (by simp)];exact h
 | _,_,_,_,i,.cons (ns:=ns) a t hv,.cons (ns:=ms) c u hw,hf,h=>by
  rw[zip_cons_cons];rw[HT.lexLt_cons]at h;refine kat_cons (wpAny_eqBool_int ?_);by_cases e:a=c
  ·rw[if_pos e]at h;have q:(a==c)=true:=by rw[e];exact beq_self_eq_true c
   rw[q];refine kat_yes (jq (i+1) hv hw ?_ h);rw[hf];simp
  ·rw[if_neg e]at h;have q:(a==c)=false:=beq_eq_false_iff_ne.mpr e;rw[q];refine kat_no ?_;cases i with
   |zero=>exact oneLt_int h
   |succ i=>exact kat_one _ _ (lt_int h)
theorem wE{κ:SortKind}(hk:KOk κ){a b:Addr}{its q:Array Value}{ns ms:List Int}{C:Bool->Shared->Prop}(Z:IsTup s.heap a its)(hb:IsTup s.heap b q)(hi:IntsAre its.toList ns)(Y:IntsAre q.toList ms)
  (hu:A.units<cLine) (h:C (HT.lexLt ns ms) s):wpAny (model prog w) A (keyLt' κ (.ref a) (.ref b)) C E s:=by
 rcases hk with rfl|rfl|rfl
 ·obtain⟨o,J,_,n,hd⟩:=id Z;obtain⟨o2,D,_,n2,z⟩:=id hb;refine kat_lt J hd D z (jq 0 hi Y ?_ h);have z1:its.size=ns.length:=by rw[<- hi.length];simp
  have z2:q.size=ms.length:=by rw[<- Y.length];simp
  rw[z1,z2]
 ·show wpAny _ _ (oneLt' false (.ref a) (.ref b)) _ _ _;exact kat_one _ _ (HT.lt_tupInts Z hb hi Y hu h)
 ·rw[keyLt'_oneType,oneLt'_eq];simp only[if_true];refine wpAny_bind (wpAny_cRoomFor hu ?_);obtain⟨⟨cls,dd,data,sl⟩,J,hc,n,hd⟩:=id Z;obtain⟨⟨a2,ap,data2,aO⟩,D,U,n2,z⟩:=id hb;simp only at hc hd U z;subst hc hd U z;refine wpAny_bind (wpAny_callSpecialIfBound?_slot (T:="tuple") ⟨_,J,rfl⟩ PySem.F.slot_tuple_lt (call_meets PySem.F.slot_tuple_lt (T:="tuple") ⟨_,J,rfl⟩ PySem.F.entry_tuple_lt (PySem.F.args_tuple_lt_2 _ _) (HT.tuple_lt_ints a b its q n n2 dd ap sl aO ns ms hi Y) ⟨J,D,?_⟩));exact wpAny_truthy_bool h
theorem jr:∀(vs:List Value) {Q:List (Option Value)->Shared->Prop},(∀v∈vs,∃a its ns,v=.ref a/\IsTup s.heap a its/\IntsAre its.toList ns) ->
  (∀fs:List (Option Value),fs.length=vs.length->(∀f∈fs,∀v,f=some v->∃n t,v=Value.int n t)->Q fs s)->wpAny (model prog w) A (vs.mapM firstOfTuple') Q E s
 | [],Q,_,h=>by rw[mapM_nil];exact wpAny_pure (h [] rfl (by simp))
 | v::vs,Q,hv,h=>by
  obtain⟨a,its,ns,rfl,⟨o,ho,hc,n,hd⟩,hi⟩:=hv v (.head _);rw[mapM_cons];refine wpAny_bind ?_;rw[kas_first_eq];refine wpAny_bind (Looks.here (show Looks (model prog w) s.heap (typeOf (.ref a)) o.cls from(Looks.ld ho).andThen .now) ?_);rw[hc,if_neg (by first|decide|simp)];refine wpAny_bind (listItems_at ho hd (wpAny_pure ?_));refine wpAny_bind (jr vs (Q:=λbs s'=>wpAny (model prog w) A (pure (its[0]?::bs)) Q E s') (λu hu=>hv u (.tail _ hu)) λfs hl hf=>?_);refine wpAny_pure (h _ (by simp[hl]) λf hm u e=>?_);rcases mem_cons.mp hm with z|z
  ·rw[z]at e;have hmem:u∈its.toList:=by
    rw[<- Array.getElem?_toList]at e;exact mem_of_getElem? e
   exact hi.all u hmem
  ·exact hf f z u e
theorem r6{vs:List Value}{Q:SortKind->Shared->Prop}(h2:2<=vs.length)(hv:∀v∈vs,∃a its ns,v=.ref a/\IsTup s.heap a its/\IntsAre its.toList ns)(h:∀κ,KOk κ->Q κ s) :
  wpAny (model prog w) A (keyKind' vs.toArray) Q E s:=by
 rw[kat_kind_eq,mapM_toArray,map_eq_pure_bind];refine wpAny_bind (wpAny_bind (jr vs hv λfs hl hf=>wpAny_pure ?_));by_cases hall:(fs.toArray.all λx=>x.isSome)=true
 ·rw[if_pos hall];refine wpAny_bind (wpAny_rule ?_);have hfm:(fs.toArray.filterMap id)=(fs.filterMap id).toArray:=by simp
  rw[hfm,oneTypeOnly'_eq,mapM_toArray,map_eq_pure_bind];have hints:∀v∈fs.filterMap id,∃n t,v=Value.int n t:=λv hm=>by
   obtain⟨f,hm',e⟩:=mem_filterMap.mp hm;exact hf f hm' v e
  have hne:0<(fs.filterMap id).length:=by
   match fs,hl,hall with
   | [],hl,_=>simp at hl;omega
   |f::r,_,hall =>
    have:f.isSome=true:=by simp at hall;exact hall.1
    obtain⟨u,rfl⟩:=isSome_iff_exists.mp this;simp
  refine wpAny_bind (wpAny_bind (wpAny_bind (kas_mapM (r:=Value.type "int") _ (λv hm Q' hq=>?_) (wpAny_pure ?_))))
  ·obtain⟨n,t,rfl⟩:=hints v hm;exact wpAny_pure hq
  ·have h0:(map (λ_=>Value.type "int") (fs.filterMap id)).toArray[0]?=some (Value.type "int"):=by
    simp[hne]
   rw[h0];have hall2:((map (λ_=>Value.type "int") (fs.filterMap id)).toArray.all λx=>x==Value.type "int")=true:=by
    simp only[all_toArray,List.all_map,List.all_eq_true];intro _ _
    rfl
   simp only[hall2,if_true];exact wpAny_pure (wpAny_pure (h _ (.inl rfl)))
 ·rw[if_neg hall]
  by_cases hf0:((fs.toArray[0]?).bind id).isSome=true
  ·rw[if_pos hf0];exact wpAny_pure (h _ (.inr (.inl rfl)))
  ·rw[if_neg hf0];rw[oneTypeOnly'_eq,mapM_toArray,map_eq_pure_bind];refine wpAny_bind (wpAny_bind (wpAny_bind (kas_mapM (r:=Value.type "tuple") _ (λv hm Q' hq=>?_) (wpAny_pure ?_))))
   ·obtain⟨a,its,ns,rfl,⟨o,ho,hc,n,hd⟩,hi⟩:=hv v hm;have q:Looks (model prog w) s.heap (typeOf (.ref a)) o.cls:=(Looks.ld ho).andThen .now;rw[hc]at q;exact q.here hq
   ·have h0:(map (λ_=>Value.type "tuple") vs).toArray[0]?=some (Value.type "tuple"):=by
     have:0<vs.length:=by omega
     simp[this]
    rw[h0];have hall2:((map (λ_=>Value.type "tuple") vs).toArray.all λx=>x==Value.type "tuple")=true:=by
     simp only[all_toArray,List.all_map,List.all_eq_true];intro _ _
     rfl
    simp only[hall2,if_true];exact wpAny_pure (wpAny_pure (h _ (.inr (.inr rfl))))
end
end L2.Srt
namespace L2.St
open PySem PyProof.Rows List Option
section
variable{P:Program}{w:World}{A:Around}{E:Value->Shared->Prop}{s:Shared}
theorem qL{items:Array Value}{ns:List Int}(hi:IntsAre items.toList ns):∀(i:Nat) (v:Value),items[i]?=some v->∃t,v=.int (ns.getD i 0) t:=
 λi v e=>IntsAre.int_at hi i v (by rw[Array.getElem?_toList];exact e)
theorem lM{v:Value}{vs:Array Value}{it:Addr}{Q:Option Value->Shared->Prop}(q:A.handled=none){R:Value->Shared->Prop}
  (z:∀e s',(∀b o,s.heap.get? b=some o->s'.heap.get? b=some o)->(∃h',s'={ s with heap:=h' })->s'.TypeIs e "StopIteration"->R e s') {D:PySem.Fin->Shared->Prop} :
  wpAny (model P w) A (newExc (.type "StopIteration") [] >>= λe=>(raiseNew e:Sem PySem.Fin)) D R s:=by
 refine wpAny_bind ?_;simp only[newExc,newTuple];refine wpAny_bind (wpAny_newObj_type ?_ (by size_fits));refine wpAny_bind (m:=firstArgMember _ _) (wpAny_of_eq (a:=Value.none) (by first|rfl|(simp only[firstArgMember];rfl)) ?_);refine wpAny_newObj_type ?_ (by size_fits);simp only[raiseNew];refine wpAny_bind (wpAny_handled ?_);rw[q];refine wpAny_bind (wpAny_pure (wpAny_throw ?_));exact z _ _ (λb o e=>Heap.get?_push_of_some _ (Heap.get?_push_of_some _ e)) ⟨_,rfl⟩ ⟨_,Heap.get?_push_size _ rfl,rfl⟩
theorem lh{order:List Int}{acc:Array Value}(h:ItemsOf (λi v=>∃t,v=Value.int (order.getD i 0) t) acc order.length):IntsAre acc.toList order:=by
 obtain⟨hz,hv⟩:=h;have hl:acc.toList.length=order.length:=by simpa using hz
 have hv':∀j v,acc.toList[j]?=some v->∃t,v=Value.int (order.getD j 0) t:=λj v e=>hv j v (by rw[<- Array.getElem?_toList];exact e)
 clear hv hz;generalize acc.toList=vs at hl hv'
 induction vs generalizing order with
 |nil =>
  have:order=[]:=length_eq_zero_iff.mp hl.symm;rw[this];exact .nil
 | cons v r ih =>
  match order,hl,hv' with
  | [],hl,_=>simp at hl
  |k::ks,hl,hv' =>
   obtain⟨t,e⟩:=hv' 0 v rfl;have e':v=Value.int k t:=e;rw[e'];exact .cons k t (ih (by simpa using hl) λj u q=>hv' (j+1) u (by simpa using q))
end
end L2.St
namespace L2.St
open PySem List Option
noncomputable def lj(xs:Array Nat):Prop:=∀i j:Nat,i<j->j<xs.size->xs.getD i 0<xs.getD j 0
theorem uc{xs:Array Nat}{i:Nat}(h:i<xs.size)(d e:Nat):xs.getD i d=xs.getD i e:=by simp[Array.getD,h]
theorem j7{xs:Array Nat}{j:Nat}(hr:lj xs):∀(fuel lo hi:Nat),hi-lo<=fuel->lo<=hi->hi<=xs.size->(∀i,i<lo->xs.getD i 0<j)->(∀i,hi<=i->i<xs.size->j<=xs.getD i 0) ->
  (SetTable.below.go xs j fuel lo hi<=xs.size/\(∀i,i<SetTable.below.go xs j fuel lo hi->xs.getD i 0<j)/\∀i,SetTable.below.go xs j fuel lo hi<=i->i<xs.size->j<=xs.getD i 0)
 |0,lo,hi,hf,h1,h2,a,b=>by
  have e:SetTable.below.go xs j 0 lo hi=lo:=rfl;rw[e];have:lo=hi:=by omega
  subst this;exact⟨h2,a,b⟩
 | fuel + 1,lo,hi,hf,h1,h2,a,b=>by
  have e:SetTable.below.go xs j (fuel+1) lo hi=if lo<hi then (if xs.getD ((lo+hi) / 2) j<j then SetTable.below.go xs j fuel ((lo+hi) / 2+1) hi else SetTable.below.go xs j fuel lo ((lo+hi) / 2)) else lo:=rfl
  rw[e];by_cases hl:lo<hi
  ·rw[if_pos hl];have hm:(lo+hi) / 2<xs.size:=by omega
   rw[uc hm j 0];by_cases hq:xs.getD ((lo+hi) / 2) 0<j
   ·rw[if_pos hq];refine j7 hr fuel _ hi (by omega) (by omega) h2 (λi hi'=>?_) b;by_cases z:i=(lo+hi) / 2
    ·rw[z];exact hq
    ·exact Nat.lt_trans (hr i ((lo+hi) / 2) (by omega) hm) hq
   ·rw[if_neg hq];refine j7 hr fuel lo _ (by omega) (by omega) (by omega) a λi hi' hz=>?_
    by_cases z:i=(lo+hi) / 2
    ·rw[z];omega
    ·have:=hr ((lo+hi) / 2) i (by omega) hz;omega
  ·rw[if_neg hl];have:lo=hi:=by omega
   subst this;exact⟨h2,a,b⟩
theorem gZ{xs:Array Nat}(q:lj xs)(j:Nat):SetTable.below xs j<=xs.size/\(∀i,i<SetTable.below xs j->xs.getD i 0<j)/\∀i,SetTable.below xs j<=i->i<xs.size->j<=xs.getD i 0:=
 j7 q xs.size 0 xs.size (by omega) (by omega) (Nat.le_refl _) (λi h=>by omega) λi h1 h2=>by omega
theorem lm{α:Type}(xs:Array α)(p:Nat)(x:α)(q:p<=xs.size):(SetTable.insertAt xs p x).size=xs.size+1:=by
 unfold SetTable.insertAt;simp;omega
theorem ip{α:Type}(xs:Array α)(p:Nat)(x:α)(q:p<=xs.size)(i:Nat):(SetTable.insertAt xs p x)[i]?=if i<p then xs[i]? else if i=p then some x else xs[i-1]?:=by
 unfold SetTable.insertAt;have hz:((xs.extract 0 p).push x).size=p+1:=by simp;omega
 by_cases h1:i<p
 ·rw[if_pos h1,Array.getElem?_append_left (by omega)];rw[Array.getElem?_push,if_neg (by simp;omega),Array.getElem?_extract,if_pos (by omega),Nat.zero_add]
 ·rw[if_neg h1];by_cases h2:i=p
  ·subst h2;rw[if_pos rfl,Array.getElem?_append_left (by omega)];rw[Array.getElem?_push,if_pos (by simp;omega)]
  ·rw[if_neg h2,Array.getElem?_append_right (by omega),hz];simp only[Array.getElem?_extract];by_cases h3:i-(p+1)<xs.size-p
   ·rw[if_pos (by simpa using h3)];congr 1;omega
   ·rw[if_neg (by simpa using h3)];exact(Array.getElem?_eq_none (by omega)).symm
theorem dt{xs:Array Nat}{i:Nat}:xs.getD i 0=(xs[i]?).getD 0:=Array.getD_eq_getD_getElem?
theorem nM{xs:Array Nat}(D:lj xs){j:Nat}(hn:xs[SetTable.below xs j]?≠some j):lj (SetTable.insertAt xs (SetTable.below xs j) j):=by
 obtain⟨J,ha,Z⟩:=gZ D j;have U:∀i,SetTable.below xs j<=i->i<xs.size->j<xs.getD i 0:=λi h1 h2=>by
  have q:=Z i h1 h2;by_cases z:i=SetTable.below xs j
  ·subst z;have e:xs[SetTable.below xs j]?=some (xs.getD (SetTable.below xs j) 0):=by rw[Array.getElem?_eq_getElem h2];simp[Array.getD,h2]
   have:xs.getD (SetTable.below xs j) 0≠j:=λz=>hn (by rw[e,z])
   omega
  ·have q':=Z _ (Nat.le_refl _) (by omega:SetTable.below xs j<xs.size);have:=D _ i (by omega:SetTable.below xs j<i) h2;omega
 intro i k Y hk;rw[lm _ _ _ J]at hk;rw[dt,dt,ip _ _ _ J,ip _ _ _ J];by_cases h1:k<SetTable.below xs j
 ·rw[if_pos h1,if_pos (by omega),<- dt,<- dt];exact D i k Y (by omega)
 ·rw[if_neg h1]
  by_cases h2:k=SetTable.below xs j
  ·rw[if_pos h2,if_pos (by omega),<- dt];exact ha i (by omega)
  ·rw[if_neg h2];by_cases h3:i<SetTable.below xs j
   ·rw[if_pos h3,<- dt,<- dt];exact D i (k-1) (by omega) (by omega)
   ·rw[if_neg h3];by_cases h4:i=SetTable.below xs j
    ·rw[if_pos h4,<- dt];exact U (k-1) (by omega) (by omega)
    ·rw[if_neg h4,<- dt,<- dt];exact D (i-1) (k-1) (by omega) (by omega)
theorem pK(n:Nat):lj (Array.range n):=λi j h1 h2=>by
 rw[Array.size_range]at h2;simp[Array.getD,h2,Nat.lt_trans h1 h2];exact h1
theorem ud:lj #[]:=λi j _ h=>by simp at h
structure Gd(L:Bool)(t:SetTable):Prop where
 led:t.led=L
 dum:t.dummies=#[]
 rise:lj t.place
theorem Gd.fresh(L:Bool):Gd L (.fresh 0 0 L):=⟨rfl,rfl,ud⟩
theorem Gd.standIn{L:Bool}{t:SetTable}(h:Gd L t)(n:Nat):Gd L (t.standIn n):=⟨h.led,rfl,pK n⟩
theorem Gd.orStandIn{L:Bool}{t:SetTable}(h:Gd L t)(n:Nat):Gd L (t.orStandIn n):=by
 unfold SetTable.orStandIn;split
 ·exact h
 ·exact h.standIn n
theorem Gd.unplain{L:Bool}{t:SetTable}(h:Gd L t):Gd L { t with plain:=false }:=⟨h.led,h.dum,h.rise⟩
theorem mG{t:SetTable}(hd:t.dummies=#[])(j:Nat):t.slot j≠.dummy:=by
 unfold SetTable.slot SetTable.has;rw[hd];dsimp only;split
 ·simp
 ·simp
theorem pL{t:SetTable}{j:Nat}(h:t.slot j=.empty):t.place[SetTable.below t.place j]?≠some j:=by
 intro e;unfold SetTable.slot at h;dsimp only at h;rw[if_pos (by rw[e];simp)]at h;cases h
theorem nN{t:SetTable}(hd:t.dummies=#[]){ha:Nat->Int}{h:Int}:∀(fuel:Nat) (p:SetTable.Probe),p.dummy=none->∀j d,SetTable.probe.go t ha h fuel p=some (.empty j d)->d=none/\t.slot j=.empty
 |0,p,hp,j,d,e=>by
  have:SetTable.probe.go t ha h 0 p=none:=rfl;rw[this]at e;cases e
 | fuel + 1,p,hp,j,d,e=>by
  have step:SetTable.probe.go t ha h (fuel+1) p=(match t.slot p.j with
   | .empty=>some (.empty p.j p.dummy)
   | .dummy=>SetTable.probe.go t ha h fuel (t.advance { p with dummy:=some p.j })
   | .live i=>if ha i==h then some (.candidate p.j i (t.advance p)) else SetTable.probe.go t ha h fuel (t.advance p)):=rfl
  rw[step]at e;have adv:(t.advance p).dummy=none:=by unfold SetTable.advance;split<;>simp[hp]
  cases hs:t.slot p.j with
  |empty =>
   rw[hs]at e;dsimp only at e;cases e;exact⟨hp,hs⟩
  |dummy=>exact absurd hs (mG hd _)
  |live i =>
   rw[hs]at e;dsimp only at e;split at e
   ·cases e
   ·exact nN hd fuel _ adv j d e
theorem r9{t:SetTable}(hd:t.dummies=#[]){h:Int}{j:Nat}{b:Bool}(e:t.freeSlot h=some (j,b)):t.slot j=.empty:=by
 unfold SetTable.freeSlot at e;split at e
 ·rename_i q d z;obtain⟨rfl,D⟩:=nN hd _ _ rfl q d z;have:q=j:=by
   have:=Option.some.inj e;exact(Prod.mk.inj this).1
  exact this ▸ D
 ·cases e
theorem Gd.put{L:Bool}{t:SetTable}(h:Gd L t){j:Nat}(q:t.slot j=.empty):Gd L (t.put j).1:=by
 refine⟨h.led,?_,nM h.rise (pL q)⟩;show(if SetTable.has t.dummies j then _ else t.dummies)=#[];rw[if_neg (by unfold SetTable.has;rw[h.dum];simp)];exact h.dum
theorem Gd.layNew{L:Bool}{t:SetTable}(g:Gd L t)(es:Array (Int×Value))(h:Int)(x:Value):Gd L (layNew t es h x).2.1:=by
 unfold PySem.layNew;cases e:t.freeSlot h with
 |none=>exact g.standIn _
 |some q =>
  obtain⟨j,b⟩:=q;exact(g.put (r9 g.dum e)).orStandIn _
theorem ue(f:Nat->Option Nat)(n:Nat):lj ((((range n).filterMap λj=>(f j).map λi=>(j,i)).map λq:Nat×Nat=>q.1).toArray):=by
 have e:((range n).filterMap λj=>(f j).map λi=>(j,i)).map (λq:Nat×Nat=>q.1)=(range n).filter λj=>(f j).isSome:=by
  generalize range n=l
  induction l with
  |nil=>rfl
  |cons a l ih =>
   cases h:f a<;>simp[filterMap_cons,filter_cons,h,ih]
 rw[e];have U:((range n).filter λj=>(f j).isSome).Pairwise (· < ·):=Pairwise.filter _ pairwise_lt_range;intro i j D Y;have z:j<((range n).filter λj=>(f j).isSome).length:=by simpa using Y
 have J:i<((range n).filter λj=>(f j).isSome).length:=Nat.lt_trans D z;have:=pairwise_iff_getElem.mp U i j J z D;simpa[Array.getD,z,J] using this
theorem Gd.relaid{L:Bool}{t t':SetTable}(g:Gd L t){q:Array Int}{n:Nat}{o:Array Nat}(e:t.relaid q n=some (t',o)):Gd L t':=by
 unfold SetTable.relaid SetTable.laid at e;cases h:SetTable.layClean (SetTable.sizeAbove n-1) q with
 |none=>rw[h]at e;cases e
 |some z =>
  rw[h]at e;cases e;exact⟨g.led,rfl,ue (λj=>z.getD j none) _⟩
theorem Gd.relayAll{L:Bool}{t:SetTable}(g:Gd L t)(es:Array (Int×Value))(n:Nat):Gd L (relayAll t es n).2.1:=by
 unfold PySem.relayAll;cases e:t.relaid (es.map (·.1)) n with
 |none=>exact g.standIn _
 |some q =>
  obtain⟨t',o⟩:=q;dsimp only;split
  ·exact g.relaid e
  ·exact g.standIn _
end L2.St
namespace L2.St
open PySem PyProof.Rows List Option
noncomputable def byT (w:World):Bool:=w.params.followText "set-order"
structure Arr(P:Program)(w:World)(ks:List Int)(es:Array (Int×Value))(t:SetTable):Prop where
 el:ElemsOf (intKind P w) es.toList
 pm:(es.toList.map λe=>numOf e.2).Perm ks
 nd:ks.Nodup
 bd:es.size<scanBound
 fi:t.fits es.size=true
 gd:Gd (!byT w) t
noncomputable def dD(P:Program)(w:World)(h:Heap)(a:Addr)(ks:List Int):Prop:=
 ∃o es ep t,h.get? a=some o/\o.ExactSet/\o.data=.set es ep t/\ElemsOf (intKind P w) es.toList/\(es.toList.map λe=>numOf e.2).Perm ks/\ks.Nodup/\es.size<scanBound/\t.fits es.size=true/\Gd (!byT w) t
section
variable{P:Program}{w:World}{h h':Heap}{a:Addr}{ks ks':List Int}{o:Obj}{es:Array (Int×Value)}{ep:Nat}{t:SetTable}
theorem dD.arr(g:dD P w h a ks):∃o es ep t,(h.get? a=some o/\o.ExactSet/\o.data=.set es ep t)/\Arr P w ks es t:=by
 obtain⟨o,es,ep,t,z,q,hd,c1,c2,c3,c4,c5,c6⟩:=g;exact⟨o,es,ep,t,⟨z,q,hd⟩,⟨c1,c2,c3,c4,c5,c6⟩⟩
theorem Arr.set(r:Arr P w ks es t)(z:h.get? a=some o)(q:o.ExactSet)(hd:o.data=.set es ep t):dD P w h a ks:=
 ⟨o,es,ep,t,z,q,hd,r.el,r.pm,r.nd,r.bd,r.fi,r.gd⟩
theorem Arr.len(r:Arr P w ks es t):es.size=ks.length:=by simpa using r.pm.length_eq
theorem Arr.bare(r:Arr P w ks es t)(b:Bool):Arr P w ks es (if b=true then t else { t with plain:=false }):=by
 cases b
 ·exact⟨r.el,r.pm,r.nd,r.bd,SetTable.fits_plain_off r.fi,r.gd.unplain⟩
 ·exact r
theorem Arr.lay(r:Arr P w ks es t){k:Int}(tk:Tok)(D:k∉ks)(J:ks.length+1<scanBound):Arr P w (k::ks) (layNew t es (hashInt k) (.int k tk)).1 (layNew t es (hashInt k) (.int k tk)).2.1:=by
 have p:(layNew t es (hashInt k) (.int k tk)).1.toList.Perm (es.toList ++ [(hashInt k,.int k tk)]):=by simpa using layNew_perm t es (hashInt k) (.int k tk)
 have z:=p.length_eq;have l:=r.len;constructor
 ·exact ElemsOf.perm (r.el.push (k:=k) (x:=.int k tk) (intKind_is _ _ _ _) rfl) p
 ·have q:((es.toList ++ [(hashInt k,Value.int k tk)]).map λe=>numOf e.2).Perm (k::ks):=by
   rw[map_append];exact perm_append_comm.trans (r.pm.cons k)
  exact(p.map _).trans q
 ·exact nodup_cons.mpr ⟨D,r.nd⟩
 ·simp at z;omega
 ·exact layNew_fits _ _ _ _
 ·exact r.gd.layNew _ _ _
theorem Arr.relay(r:Arr P w ks es t)(n:Nat):Arr P w ks (relayAll t es n).1 (relayAll t es n).2.1:=by
 have p:=relayAll_perm t es n;have z:=p.length_eq;have b:=r.bd;exact⟨r.el.perm p,(p.map _).trans r.pm,r.nd,by simp at z;omega,relayAll_fits t es n,r.gd.relayAll es n⟩
theorem dD.at(g:dD P w h a ks)(k:∀o,h.get? a=some o->h'.get? a=some o):dD P w h' a ks:=by
 obtain⟨o,es,ep,t,⟨z,q,hd⟩,r⟩:=g.arr;exact r.set (k o z) q hd
end
theorem i3{P:Program}{w:World}{es:List (Int×Value)}(h:ElemsOf (intKind P w) es):∀e∈es,∃t,e.2=.int (numOf e.2) t:=λe z=>by
 obtain⟨⟨k,D,_⟩,_⟩:=h e z;obtain⟨t,q⟩:=Value.isInt_shape (show Value.isInt k e.2=true from D);exact⟨t,by rw[q];rfl⟩
theorem uf{P:Program}{w:World}{es:List (Int×Value)}(h:ElemsOf (intKind P w) es){e:Int×Value}(D:e∈es)(k:Int):(intKind P w).is k e.2=true ↔ numOf e.2=k:=by
 obtain⟨t,q⟩:=i3 h e D;constructor
 ·intro z;obtain⟨t',J⟩:=Value.isInt_shape (show Value.isInt k e.2=true from z);rw[J];rfl
 ·intro z;rw[q,z];exact intKind_is _ _ _ _
section
variable{P:Program}{w:World}{A:Around}{E:Value->Shared->Prop}{s:Shared}
noncomputable def Now(P:Program)(w:World)(a:Addr)(s:Shared)(ks:List Int)(s':Shared):Prop:=
 ∃h',s'={ s with heap:=h' }/\Heap.SameBut a s.heap h'/\dD P w h' a ks
theorem Now.stay{a:Addr}{ks:List Int}(g:dD P w s.heap a ks):Now P w a s ks s:=⟨s.heap,rfl,Heap.SameBut.refl a s.heap,g⟩
theorem wF{h:Heap}{a:Addr}{o:Obj}{es:Array (Int×Value)}{ep:Nat}{t:SetTable}(D:h.get? a=some o)(z:o.ExactSet)(hd:o.data=.set es ep t)
  {q:Array (Int×Value)}{t':SetTable}{ks:List Int} (r:Arr P w ks q t'):dD P w (h.update a (Obj.putSet q t')) a ks:=by
 refine r.set (o:={ o with data:=.set q (ep+1) t' }) (ep:=ep+1) ?_ z rfl;have e:Obj.putSet q t' o={ o with data:=.set q (ep+1) t' }:=putSet_of q t' hd;rw[<- e];exact Heap.get?_update_self _ D (by rw[e];rfl)
theorem Now.put{a:Addr}{ks ks':List Int}{s':Shared}(n:Now P w a s ks s'){es:Array (Int×Value)}{t:SetTable}(r:Arr P w ks' es t){Q:Unit->Shared->Prop}(h:∀q,Now P w a s ks' q->Q () q) :
  wpAny (model P w) A (storeSet a es t) Q E s':=by
 obtain⟨h',rfl,J,g⟩:=n;obtain⟨o,_,_,_,⟨D,z,hd⟩,_⟩:=g.arr;exact wpAny_storeSet_of D hd (h _ ⟨_,rfl,J.trans (Heap.SameBut.update h' a _),wF D z hd r⟩) (fits_of_scanBound r.bd)
theorem BG{m:Sem Unit}{s':Shared}{Q:Unit->Shared->Prop}(q:m=pure ()\/∃n,m=rule n)(h:Q () s'):wpAny (model P w) A m Q E s':=by
 rcases q with rfl|⟨n,rfl⟩
 ·exact wpAny_pure h
 ·exact wpAny_rule h
theorem BH(k:Int)(tk:Tok)(c:Bool){s':Shared}{f:Bool->Sem (Option Bool)}{Q:Option Bool->Shared->Prop}(h:∀b,wpAny (model P w) A (f b) Q E s') :
  wpAny (model P w) A (if c=true then hashByValue 8 (.int k tk) >>= f else (pure true:Sem Bool) >>= f) Q E s':=by
 cases c
 ·exact wpAny_bind (wpAny_pure (h true))
 ·rw[if_pos rfl,hashByValue_scannable 8 (show(Value.int k tk).scannable=true from rfl)];exact wpAny_bind (wpAny_pure (h _))
theorem r_{a:Addr}{ks:List Int}{k:Int}{tk:Tok}{Q:Bool->Shared->Prop}(hS:dD P w s.heap a ks)(D:ks.length+1<scanBound)
  (h:∀h' b,Heap.SameBut a s.heap h'->dD P w h' a (if k∈ks then ks else k::ks)->Q b { s with heap:=h' }) :
  wpAny (model P w) A (setAddHashed a (.int k tk) (hashInt k)) Q E s:=by
 have fin:∀b s',Now P w a s (if k∈ks then ks else k::ks) s'->Q b s':=by
  rintro b _ ⟨h',rfl,sb,g⟩;exact h h' b sb g
 have now:=Now.stay hS;obtain⟨o,es,ep,t,⟨ho,a5,hd⟩,r⟩:=hS.arr;have here:k∈ks ↔ ((es.toList.findIdx? λe=>(intKind P w).is k e.2).isSome=true):=by
  rw[findIdx?_isSome,List.any_eq_true,<- r.pm.mem_iff,mem_map];exact⟨λ⟨e,U,q⟩=>⟨e,U,(uf r.el U k).mpr q⟩,λ⟨e,U,q⟩=>⟨e,U,(uf r.el U k).mp q⟩⟩
 unfold setAddHashed setAddHashedIn;refine wpAny_holding (wpAny_bind (wpAny_setState_of ho hd r.fi ?_));dsimp only;rw[byScan_of (x:=.int k tk) rfl r.bd r.el,if_pos rfl];refine wpAny_bind ?_;unfold setAddByScan;refine wpAny_bind (wpAny_rule (wpAny_bind (wpAny_setScan_of (knd:=intKind P w) (intKind_is _ _ _ _) ho hd r.fi r.el ?_)));rcases Y:es.toList.findIdx? λe=>(intKind P w).is k e.2 with _|j
 ·rw[Y];have Z:k∉ks:=λz=>by rw[here,Y]at z;exact Bool.noConfusion z
  rw[if_neg Z]at fin;have r1:=r.lay tk Z D;rcases hl:layNew t es (hashInt k) (.int k tk) with ⟨J,t1,dm,gv⟩
  rw[hl]at r1;dsimp only at r1 ⊢;refine wpAny_bind (BG ?_ ?_)
  ·cases gv
   ·exact .inl rfl
   ·exact .inr ⟨_,rfl⟩
  refine BH k tk _ λb=>?_
  have r2:=r1.bare b;generalize (if b=true then t1 else _)=t2 at r2 ⊢;refine wpAny_bind (now.put r2 λs2 n2=>?_);refine wpAny_ite_split (λ_=>?_) (λ_=>wpAny_pure (wpAny_pure (fin _ _ n2)));have r3:=r2.relay (SetTable.grown J.size);rcases hm:relayAll t2 J (SetTable.grown J.size) with ⟨b3,t3,a0⟩
  rw[hm]at r3;dsimp only at r3 ⊢;refine wpAny_bind (BG ?_ ?_)
  ·cases a0
   ·exact .inl rfl
   ·exact .inr ⟨_,rfl⟩
  exact wpAny_bind (n2.put r3 λs3 n3=>wpAny_pure (wpAny_pure (fin _ _ n3)))
 ·rw[Y];have Z:k∈ks:=here.mpr (by rw[Y];rfl);rw[if_pos Z]at fin;exact wpAny_pure (wpAny_pure (fin _ _ now))
end
noncomputable def dd:List Int->List Int
 | []=>[]
 |k::r=>if k∈dd r then dd r else k::dd r
theorem g5{k:Int}:∀{l:List Int},k∈dd l ↔ k∈l
 | []=>Iff.rfl
 | x::r=>by
  show k∈(if x∈dd r then dd r else x::dd r) ↔ _;have ih:=@g5 k r;by_cases h:x∈dd r
  ·rw[if_pos h,ih,mem_cons];exact⟨.inr,λz=>z.elim (λe=>by rw[e];exact g5.mp h) id⟩
  ·rw[if_neg h,mem_cons,mem_cons,ih]
theorem dd_nodup:∀l:List Int,(dd l).Nodup
 | []=>nodup_nil
 |x::r=>by
  show(if x∈dd r then dd r else x::dd r).Nodup;by_cases h:x∈dd r
  ·rw[if_pos h];exact dd_nodup r
  ·rw[if_neg h];exact nodup_cons.mpr ⟨h,dd_nodup r⟩
theorem dd_len:∀l:List Int,(dd l).length<=l.length
 | []=>Nat.le_refl _
 |x::r=>by
  show(if x∈dd r then dd r else x::dd r).length<=_;have:=dd_len r;by_cases h:x∈dd r
  ·rw[if_pos h,length_cons];omega
  ·rw[if_neg h,length_cons,length_cons];omega
theorem wG(xs:List Int):(range xs.length).map (λi=>xs.getD i 0)=xs:=by
 apply ext_getElem?;intro i;rw[getElem?_map];by_cases q:i<xs.length
 ·simp[getElem?_range,q]
 ·simp[getElem?_range,q]
noncomputable def But(ws:List Addr)(s s':Shared):Prop:=
 ∃h' tk,s'={ s with heap:=h',toks:=tk }/\∀b o,b∉ws->s.heap.get? b=some o->h'.get? b=some o
theorem But.on{ws vs:List Addr}{s s' q:Shared}(x:But ws s s')(y:But vs s' q)(J:∀b∈ws,b∈vs):But vs s q:=by
 obtain⟨h1,t1,rfl,U⟩:=x;obtain⟨h2,Y,rfl,Z⟩:=y;exact⟨h2,Y,rfl,λb o D e=>Z b o D (U b o (λz=>D (J b z)) e)⟩
section
variable{P:Program}{w:World}{A:Around}{R:Result->Shared->Prop}{I S:Addr}{fp wr:List Addr}{n:Nat}{Pv:Nat->Value->Prop}{St:Nat->Heap->Prop}
noncomputable abbrev upd (S I:Addr):Code:=.builtin "set.update.loop" ⟨[.ref S,.ref I],[]⟩
theorem nO{s:Shared} (h:wpAny (model P w) A.in1 (pyNext (.ref I)) (λv s'=>match v with
   |none=>R (.ok (.ret .none)) s'
   |some x=>wpAny (model P w) A.in1 (setAdd S x) (λ_ q=>codeAny (model P w) A (upd S I) R q) (λe q=>R (.error e) q) s') (λe s'=>R (.error e) s') s) :
  codeAny (model P w) A (upd S I) R s:=by
 have pl:=PyProof.Rows.F.plain_set_update_loop;apply codeAny_builtin PyProof.Rows.F.entry_set_update_loop;rw[Around.under_plainId pl];apply wpAny_bind (m:=pyNext (.ref I));refine wpAny_mono h (λv s' z=>?_) λ_ _ x=>x
 cases v with
 |none=>exact wpAny_pure z
 |some x =>
  refine wpAny_bind (wpAny_holding (wpAny_mono z (λ_ q hc=>?_) λ_ _ x=>x));exact wpAny_pure ⟨plainId_quiet pl _,hc⟩
theorem add_int{s:Shared}{E:Value->Shared->Prop}{B:Around}{ks:List Int}{k:Int}{t:Tok}(g:dD P w s.heap S ks)(room:ks.length+1<scanBound){Q:Bool->Shared->Prop}
  (h:∀b s',But [S] s s'->dD P w s'.heap S (if k∈ks then ks else k::ks)->(∀b,b≠S->s'.heap.get? b=s.heap.get? b)->Q b s'):wpAny (model P w) B (setAdd S (.int k t)) Q E s:=by
 unfold setAdd;refine wpAny_holding (wpAny_bind ((intKind P w).pyHash (k:=k) (intKind_is _ _ _ _) ?_));refine r_ (s:={ s with toks:=s.toks+1 }) g room λh' b q g'=>h b _ ⟨h',_,rfl,λc o hc e=>?_⟩ g' λc hc=>?_
 ·rw[q.2 c (by simpa using hc)];exact e
 ·exact q.2 c hc
theorem qM(W:Walks P w A.in1 I fp wr n Pv St)(hS:S∉fp)(xs:List Int)(hn:xs.length=n)(hv:∀i v,Pv i v->∃t,v=.int (xs.getD i 0) t)(hb:n+1<scanBound) :
  ∀(m i:Nat) (s:Shared),i+m=n->St i s.heap->dD P w s.heap S (dd (xs.take i).reverse)->(∀s',But (S::wr) s s'->dD P w s'.heap S (dd xs.reverse)->R (.ok (.ret .none)) s') ->
   codeAny (model P w) A (upd S I) R s
 |0,i,s,e,st,g,h=>by
  have hi:i=n:=e;subst hi;refine nO (W.done s _ _ st λh' tk kp=>h _ ⟨h',tk,rfl,λb o hb'=>kp b o λz=>hb' (.tail _ z)⟩ ?_);rw[take_of_length_le (by omega)]at g;exact g.at λo=>kp S o λz=>hS (W.sub S z)
 | m + 1,i,s,e,st,g,h=>by
  have hi:i<n:=by omega
  refine nO (W.item i s _ _ hi st λv h1 tk1 pv st1 kp=>?_);obtain⟨t,rfl⟩:=hv i v pv;have b1:But wr s { s with heap:=h1,toks:=tk1 }:=⟨h1,tk1,rfl,kp⟩;have l:(dd (xs.take i).reverse).length+1<scanBound:=by
   have:=dd_len (xs.take i).reverse;simp at this;omega
  refine add_int (g.at λo=>kp S o λz=>hS (W.sub S z)) l λ_ s2 b2 g2 st2=>?_
  refine qM W hS xs hn hv hb m (i+1) s2 (by omega) (W.frame _ h1 _ st1 λb hb' o e'=>?_) ?_ λs3 b3 g3=>h s3 ?_ g3
  ·rw[st2 b λz=>hS (z ▸ hb')];exact e'
  ·have:xs.take (i+1)=xs.take i ++ [xs.getD i 0]:=by
    rw[take_succ,getD_eq_getElem?_getD,getElem?_eq_getElem (by omega)];rfl
   rw[this,reverse_append];exact g2
  ·exact(b1.on (b2.on b3 (by simp)) λb z=>.tail _ z)
end
section
variable{P:Program}{w:World}{A:Around}{E:Value->Shared->Prop}{s:Shared}
theorem fv{Q:Bool->Shared->Prop}(h:Q (byT w) s):wpAny (model P w) A setsByText Q E s:=by
 unfold setsByText;exact wpAny_bind (wpAny_askSetting (wpAny_pure h))
noncomputable abbrev i4 (w:World):Obj:={ cls:=.type "set",dict:=none,data:=.set #[] 0 (.fresh 0 0 (!byT w)) }
noncomputable abbrev aY(w:World)(s:Shared):Shared:={ s with heap:=s.heap.push (i4 w) }
theorem wH {Q:Value->Shared->Prop} (h:Q (.ref s.heap.objs.size) (aY w s)):wpAny (model P w) A (newSet (.type "set")) Q E s:=by
 unfold newSet;refine wpAny_bind (fv ?_);dsimp only;simp only[newObj];exact wpAny_bind (wpAny_alloc (wpAny_pure h))
theorem ug(h:Heap):dD P w (h.push (i4 w)) h.objs.size []:=
 Arr.set (es:=#[]) (ep:=0) ⟨λe q=>by simp at q,by simp,nodup_nil,by decide,rfl,Gd.fresh _⟩ (Heap.get?_push_size _ rfl) ⟨rfl,rfl,rfl⟩ rfl
theorem wI (x:Value) {Q:Value->Shared->Prop} (h:Q (.ref s.heap.objs.size) (aY w s)):codeAny (model P w) A (.call (.builtin "set.__new__") ⟨[.type "set",x],[]⟩) (wants Q E) s:=by
 refine codeAny_call_builtin PySem.F.plain_set_new PySem.F.entry_set_new (wpAny_of_eq (PySem.F.newCall_set_1 x) ?_);have cls:∀{R:Value×List Value->Shared->Prop}{F:Value->Shared->Prop},R (.type "set",[x]) s->wpAny (model P w) A.in1 (Builtin.Frozenset.newClass "set" ⟨[.type "set",x],[]⟩) R F s:=by
  intro R F z;have q:=sub_set_self;unfold Builtin.Frozenset.newClass;obtain⟨D,g,d,tk,os⟩:=s
  wp_walk
  exact z
 unfold Builtin.«set.__new__»;exact wpAny_bind (cls (wpAny_bind (wH (wpAny_pure h))))
theorem uh(x:Value){Q:Value->Shared->Prop}
  (hU:∀B:Around,B.handled=A.handled->wpAny (model P w) B (Builtin.Frozenset.updateFrom "set.__init__" s.heap.objs.size x) (λ_ s'=>Q (.ref s.heap.objs.size) s') E (aY w s)) :
  wpAny (model P w) A (call (.type "set") [x]) Q E s:=by
 have at0:(aY w s).heap.get? s.heap.objs.size=some (i4 w):=Heap.get?_push_size _ rfl;have init:codeAny (model P w) A.in1 (.call (.builtin "set.__init__") ⟨[.ref s.heap.objs.size,x],[]⟩) (wants (λr s'=>r=.none/\Q (.ref s.heap.objs.size) s') E) (aY w s):=by
  refine codeAny_call_builtin PySem.F.called_set.init.plain PySem.F.entry_set_init (check_set_init_1 ⟨_,at0,rfl⟩ ?_);have hu:=hU A.in1.in1 (by simp);generalize hw:aY w s=s1 at at0 hu ⊢;generalize s.heap.objs.size=S at at0 hu ⊢;obtain⟨hp,g,d,tk,os⟩:=s1;unfold Builtin.«set.__init__» noKeywords;generalize Builtin.Frozenset.updateFrom=U at hu ⊢
  wp_walk
  exact wpAny_mono hu (λ_ s' hq=>wpAny_pure ⟨rfl,hq⟩) λ_ _ z=>z
 have ft:=PySem.F.called_set;refine wpAny_call (codeAny_of_tree (wpAny_pure ⟨Code.quiet_builtin _ (by decide +kernel),codeAny_builtin PySem.F.entry_type_call ?_⟩));rw[Around.under_plain (weight_type_call_type "set" [x] []) rfl];have f1:=ft.notType;have f2:=ft.canCreate;have f3:=ft.made;have f4:=ft.sub
 have f5:=PySem.F.typeCall_set_1 x;obtain⟨c,tl,f6⟩:=ft.mro
 repeat (any_goals (first|assumption|wp_step))
 refine codeAny_mono (wI x (E:=E) (Q:=λv s'=>v=.ref s.heap.objs.size/\s'=aY w s) ⟨rfl,rfl⟩) λr s1 hr=>?_
 match r,hr with
 | .error e,hr=>exact hr
 | .ok (.ret v),hr =>
  obtain⟨rfl,rfl⟩:=hr;have f7:Shared.TypeIs (aY w s) (.ref s.heap.objs.size) "set":=⟨_,at0,rfl⟩;have f8:=ft.init.lookup;have f9:=ft.init.bind (.ref s.heap.objs.size)
  repeat (any_goals (first|assumption|wp_step))
  refine codeAny_mono init λr s2 hr=>?_
  match r,hr with
  | .error e,hr=>exact hr
  | .ok (.ret v),hr =>
   obtain⟨rfl,hq⟩:=hr;show wpAny _ A.in1 (pure (some Value.none)) _ _ _;exact wpAny_pure (wpAny_pure hq)
theorem j8 {l:Addr}{q:String}{o:Obj} (x:s.heap.get? l=some o) (hc:o.cls=.type q) (hd:(Value.type q==.type "dict")=false)
  (D:isSubtype (.type q) (.type "set")=pure false) (J:isSubtype (.type q) (.type "frozenset")=pure false)
  {ns:List Int}{Pv:Nat->Value->Prop}{St:Nat->Heap->Prop} (hv:∀i v,Pv i v->∃t,v=.int (ns.getD i 0) t) (z:ns.length+1<scanBound) {io:Obj}
  (W:∀B:Around,B.handled=A.handled->Walks P w B ((aY w s).heap.objs.size) [(aY w s).heap.objs.size,l] [(aY w s).heap.objs.size] ns.length Pv St)
  (it:∀(B:Around) (E':Value->Shared->Prop) (R:Value->Shared->Prop),R (.ref (aY w s).heap.objs.size) { s with heap:=(aY w s).heap.push io }->wpAny (model P w) B (pyIter (.ref l)) R E' (aY w s))
  (st:St 0 ((aY w s).heap.push io)) {Q:Value->Shared->Prop}
  (h:∀(h':Heap) (tk:Nat),dD P w h' s.heap.objs.size (dd ns.reverse)->(∀b o,s.heap.get? b=some o->h'.get? b=some o)->Q (.ref s.heap.objs.size) { s with heap:=h',toks:=tk }) :
  wpAny (model P w) A (call (.type "set") [.ref l]) Q E s:=by
 have Z:(aY w s).heap.objs.size=s.heap.objs.size+1:=Heap.size_push ..;have U:∀b,b<s.heap.objs.size->b∉[s.heap.objs.size,(aY w s).heap.objs.size]:=λb z=>by
  rw[Z];simp only[mem_cons,not_mem_nil,or_false,not_or];exact⟨Nat.ne_of_lt z,Nat.ne_of_lt (Nat.lt_succ_of_lt z)⟩
 have kept:∀b o,s.heap.get? b=some o->((aY w s).heap.push io).get? b=some o:=λb o e=>Heap.get?_push_of_some _ (Heap.get?_push_of_some _ e)
 refine uh _ λB hB=>?_
 have Y:(aY w s).TypeIs (.ref l) q:=⟨o,Heap.get?_push_of_some _ x,hc⟩;unfold Builtin.Frozenset.updateFrom Builtin.Frozenset.isAnySet;refine wpAny_bind (wpAny_bind (wpAny_isInstance Y D ?_));show wpAny _ _ (isInstance (.ref l) (.type "frozenset")) _ _ _;refine wpAny_isInstance Y J ?_;rw[if_neg Bool.false_ne_true];refine wpAny_bind (wpAny_typeOf Y ?_);rw[hd,if_neg Bool.false_ne_true];refine wpAny_bind (it _ _ _ (wpAny_bind (wpAny_runValue ?_)));have hS:s.heap.objs.size∉[(aY w s).heap.objs.size,l]:=by
  have:=Heap.lt_size x;rw[Z];simp only[mem_cons,not_mem_nil,or_false,not_or];exact⟨Nat.ne_of_lt (Nat.lt_succ_self _),Nat.ne_of_gt this⟩
 refine qM (W _ (by simpa using hB)) hS ns rfl hv z ns.length 0 _ (by omega) st ((ug s.heap).at λo e=>Heap.get?_push_of_some _ e) ?_;rintro s' ⟨h',tk,rfl,kp⟩ g;exact wpAny_pure (h h' tk g λb o e=>kp b o (U b (Heap.lt_size e)) (kept b o e))
theorem ui{l:Addr}{items:Array Value}{ns:List Int}{Q:Value->Shared->Prop}
  (J:A.handled=none) (U:s.heap.IsList l items) (hi:IntsAre items.toList ns) (Y:items.size+1<scanBound)
  (h:∀(h':Heap) (tk:Nat),dD P w h' s.heap.objs.size (dd ns.reverse)->(∀b o,s.heap.get? b=some o->h'.get? b=some o)->Q (.ref s.heap.objs.size) { s with heap:=h',toks:=tk }) :
  wpAny (model P w) A (call (.type "set") [.ref l]) Q E s:=by
 have z:items.size=ns.length:=by simpa using IntsAre.length hi
 obtain⟨o,q,hc,Z⟩:=U;have D:(aY w s).heap.IsList l items:=⟨o,Heap.get?_push_of_some _ q,hc,Z⟩;refine j8 (io:={ cls:=.type "list_iterator",data:=.fields #[.ref l,Value.int 0 0] }) q hc (by decide) PySem.F.sub_list_set PySem.F.sub_list_frozenset (qL hi) (z ▸ Y) (λB hB=>z ▸ Walks.list (hB.trans J) _ l ?_ items)
  (λB E' R=>wpAny_pyIter_list D) ⟨⟨_,Heap.get?_push_size _ rfl,rfl,rfl⟩,D.push _⟩ h
 exact Nat.ne_of_lt (Nat.lt_of_lt_of_eq (Nat.lt_succ_of_lt (Heap.lt_size q)) (Heap.size_push ..).symm)
theorem sd{l:Addr}{items:Array Value}{ns:List Int}{Q:Value->Shared->Prop}
  (J:A.handled=none) (U:s.heap.IsTuple l items) (hi:IntsAre items.toList ns) (Y:items.size+1<scanBound)
  (h:∀(h':Heap) (tk:Nat),dD P w h' s.heap.objs.size (dd ns.reverse)->(∀b o,s.heap.get? b=some o->h'.get? b=some o)->Q (.ref s.heap.objs.size) { s with heap:=h',toks:=tk }) :
  wpAny (model P w) A (call (.type "set") [.ref l]) Q E s:=by
 have z:items.size=ns.length:=by simpa using IntsAre.length hi
 obtain⟨o,q,hc,Z⟩:=U;have D:(aY w s).heap.IsTuple l items:=⟨o,Heap.get?_push_of_some _ q,hc,Z⟩;refine j8 (io:={ cls:=.type "tuple_iterator",data:=.fields #[.ref l,Value.int 0 0] }) q hc (by decide) PySem.F.sub_tuple_set PySem.F.sub_tuple_frozenset (qL hi) (z ▸ Y) (λB hB=>z ▸ Walks.tuple (hB.trans J) _ l ?_ items)
  (λB E' R=>wpAny_pyIter_tuple D) ⟨⟨_,Heap.get?_push_size _ rfl,rfl,rfl⟩,D.push _⟩ h
 exact Nat.ne_of_lt (Nat.lt_of_lt_of_eq (Nat.lt_succ_of_lt (Heap.lt_size q)) (Heap.size_push ..).symm)
end
set_option maxRecDepth 100000 in
theorem j9:entryFor table "set.__iter__"=some Builtin.«frozenset.__iter__»:=
 entryFor_alias (id':="frozenset.__iter__") (by kernel_rfl) rfl (by decide +kernel) (by kernel_rfl)
set_option maxRecDepth 100000 in
theorem lN:Manifest.owners.lookup (String.ofList ['r','o','t','a','r','e','t','i','_','t','e','s'].reverse)=some Manifest.sig_set_iterator:=by kernel_rfl
set_option maxRecDepth 100000 in
theorem aH:Slot "set_iterator" "__next__" "set_iterator.__next__":=
 .of (owner:="set_iterator") (n:="__next__") (by rw[typeLookup_type,builtinLookup_eq_fast];kernel_rfl) (by decide +kernel) (by decide +kernel) (by decide +kernel)
  (by first|exact .inl (by decide +kernel)|exact .inr (by decide +kernel)) (by rw[isSubtype_type];kernel_rfl)
set_option maxRecDepth 100000 in
theorem cY:entryFor table "set_iterator.__next__"=some Builtin.«set_iterator.__next__»:=entryFor_of_tree (by kernel_rfl)
set_option maxRecDepth 100000 in
theorem du (a:Value):argsOk "set_iterator.__next__" ⟨[a],[]⟩:=by
 unfold argsOk;rw[signature?_of (id:="set_iterator.__next__") (n:=['_','_','t','x','e','n','_','_']) (o:=['r','o','t','a','r','e','t','i','_','t','e','s']) (by kernel_rfl) lN];kernel_rfl
set_option maxRecDepth 100000 in
theorem gP:Slot "set_iterator" "__iter__" "set_iterator.__iter__":=
 .of (owner:="set_iterator") (n:="__iter__") (by rw[typeLookup_type,builtinLookup_eq_fast];kernel_rfl) (by decide +kernel) (by decide +kernel) (by decide +kernel)
  (by first|exact .inl (by decide +kernel)|exact .inr (by decide +kernel)) (by rw[isSubtype_type];kernel_rfl)
set_option maxRecDepth 100000 in
theorem j_:entryFor table "set_iterator.__iter__"=some Builtin.«dict_keyiterator.__iter__»:=
 entryFor_alias (id':="dict_keyiterator.__iter__") (by kernel_rfl) rfl (by decide +kernel) (by kernel_rfl)
set_option maxRecDepth 100000 in
theorem ln (a:Value):argsOk "set_iterator.__iter__" ⟨[a],[]⟩:=by
 unfold argsOk;rw[signature?_of (id:="set_iterator.__iter__") (n:=['_','_','r','e','t','i','_','_']) (o:=['r','o','t','a','r','e','t','i','_','t','e','s']) (by kernel_rfl) lN];kernel_rfl
theorem uj {P:Program}{w:World}{A:Around}{E:Value->Shared->Prop}{s:Shared}{I:Addr}{Q:Value->Shared->Prop} (q:s.TypeIs (.ref I) "set_iterator") (h:Q (.ref I) s):wpAny (model P w) A (pyIter (.ref I)) Q E s:=by
 refine wpAny_pyIter_slot q gP (wpAny_call_entry gP q j_ ?_ (ln _));show wpAny _ _ (ret (.ref I)) _ _ s;exact wpAny_pure ⟨_,rfl,"set_iterator",_,q,aH.lookup,h⟩
theorem g6{α:Type}:∀{l:List α}{i:Nat}{x:α},l[i]?=some x->(x::l.eraseIdx i).Perm l
 | [],i,x,h=>by simp at h
 |a::l,0,x,h=>by
  have e:a=x:=by simpa using h
  subst e;exact .refl _
 |a::l,i+1,x,h=>by
  have h':l[i]?=some x:=by simpa using h
  exact(Perm.swap a x _).trans (.cons a (g6 h'))
theorem qN{α:Type}(next:Nat->Nat):∀(fuel k:Nat) (left:List α) (out:Array α),fuel=left.length->(pickOrder.go next fuel k left out).toList.Perm (out.toList++left)
 |0,k,left,out,h=>by
  have:left=[]:=length_eq_zero_iff.mp h.symm;subst this;rw[append_nil];exact .refl _
 | fuel + 1,k,left,out,h=>by
  have hl:next k % left.length<left.length:=Nat.mod_lt _ (by omega);obtain⟨x,hx⟩:∃x,left[next k % left.length]?=some x:=⟨_,getElem?_eq_getElem hl⟩;have e:pickOrder.go next (fuel+1) k left out=pickOrder.go next fuel (k+1) (left.eraseIdx (next k % left.length)) (out.push x):=by
   show(match left[next k % left.length]? with
    |some x=>pickOrder.go next fuel (k+1) (left.eraseIdx (next k % left.length)) (out.push x)
    |none=>out)=_
   rw[hx]
  rw[e];refine(qN next fuel (k+1) _ _ (by rw[length_eraseIdx_of_lt hl];omega)).trans ?_;rw[Array.toList_push,append_assoc];exact Perm.append_left _ (g6 hx)
theorem se{α:Type}(next:Nat->Nat)(xs:Array α):(pickOrder next xs).toList.Perm xs.toList:=by
 have:=qN next xs.size 0 xs.toList #[] (by simp);simpa[pickOrder] using this
section
variable{M:Model}{A:Around}{E:Value->Shared->Prop}{s:Shared}
theorem pM{q:Source}{n:Nat}{Q:Nat->Shared->Prop}(z:n≠0)(h:∀i d',i<n->Q i { s with drawn:=d' }):wpAny M A (choose q n) Q E s:=λ_ _ _ =>
 ⟨z,h _ _ (Nat.mod_lt _ (Nat.pos_of_ne_zero z))⟩
theorem kd{α:Type}:∀(n:Nat) (xs:List α) (s:Shared) {Q:List α->Shared->Prop},n=xs.length->(∀ys d',ys.Perm xs->Q ys { s with drawn:=d' })->wpAny M A (drawOrder n xs) Q E s
 |0,xs,s,Q,h,q=>by
  have:xs=[]:=length_eq_zero_iff.mp h.symm;subst this;show wpAny M A (pure []) Q E s;exact wpAny_pure (q [] s.drawn (.refl _))
 |n+1,[],s,Q,h,q=>by simp at h
 |n+1,x::r,s,Q,h,q=>by
  show wpAny M A (choose .order (x::r).length >>= _) Q E s;refine wpAny_bind (pM (by simp) λi d' hi=>?_);obtain⟨y,D⟩:∃y,(x::r)[i]?=some y:=⟨_,getElem?_eq_getElem hi⟩;rw[D];dsimp only;refine wpAny_bind (kd n _ _ (by rw[length_eraseIdx_of_lt hi];simp at h ⊢;omega) λys z J=>wpAny_pure ?_);exact q (y::ys) z ((Perm.cons y J).trans (g6 D))
end
noncomputable def SIt(h:Heap)(I S:Addr)(o:Obj)(f:Value)(i n ep:Nat):Prop:=
 h.get? I=some { cls:=.type "set_iterator",dict:=none,data:=.fields #[f,.int i 0,.ref S,.int n 0,.int ep 0],slots:=#[] }/\h.get? S=some o
theorem SIt.type {s:Shared}{I S:Addr}{o:Obj}{f:Value}{i n ep:Nat} (h:SIt s.heap I S o f i n ep):s.TypeIs (.ref I) "set_iterator":=⟨_,h.1,rfl⟩
section
variable{P:Program}{w:World}{A:Around}{E:Value->Shared->Prop}{s:Shared}
theorem d_{S:Addr}{o:Obj}{es:Array (Int×Value)}{ep:Nat}{t:SetTable}{Q:Array (Int×Value)->Shared->Prop}(q:s.heap.get? S=some o)(hd:o.data=.set es ep t)(z:t.fits es.size=true)(h:Q es s) :
  wpAny (model P w) A (setEntries S) Q E s:=wpAny_setEntries_of q hd z h
theorem lO{S:Addr}{o:Obj}{es:Array (Int×Value)}{ep slot i:Nat}{t:SetTable}{Q:Option (Value×Nat)->Shared->Prop}(q:s.heap.get? S=some o)(hd:o.data=.set es ep t)(z:t.fits es.size=true)(D:byT w=true)
  (h:Q (((pickOrder (w.params.setOrder S ep) es)[i]?).map λe=>(e.2,slot)) s):wpAny (model P w) A (setNext S slot i ep) Q E s:=by
 unfold setNext;refine wpAny_bind (wpAny_setState_of q hd z ?_);dsimp only;refine wpAny_bind (fv ?_);rw[if_pos D];simp only[bne_self_eq_false,Bool.false_eq_true,if_false];refine wpAny_bind ?_;unfold setWalk;refine wpAny_bind (wpAny_setState_of q hd z ?_);dsimp only;refine wpAny_bind (fv ?_);rw[if_pos D];refine wpAny_bind (wpAny_askSetting (wpAny_pure ?_));exact wpAny_pure h
theorem ke{S:Addr}{o:Obj}{es:Array (Int×Value)}{ep slot i:Nat}{t:SetTable}{Q:Option (Value×Nat)->Shared->Prop}(J:s.heap.get? S=some o)(hd:o.data=.set es ep t)(U:t.fits es.size=true)(Y:byT w=false)
  (z:(!t.plain&&decide (es.size > 1))=false) (q:t.led=true)
  (h:Q (match es[SetTable.below t.place slot]?,t.place[SetTable.below t.place slot]? with|some (_,x),some j=>some (x,j+1)|_,_=>none) s):wpAny (model P w) A (setNext S slot i ep) Q E s:=by
 unfold setNext;refine wpAny_bind (wpAny_setState_of J hd U ?_);dsimp only;refine wpAny_bind (fv ?_);rw[if_neg (by rw[Y];simp)];refine wpAny_ite_split (λD=>absurd (show(!t.plain&&decide (es.size > 1))=true from D) (by rw[z];simp)) (λ_=>?_);refine wpAny_bind ?_;show wpAny _ _ (if (!t.led&&!es.isEmpty)=true then _ else _) _ _ s;rw[if_neg (by rw[q];simp)];exact wpAny_pure (wpAny_pure h)
theorem uk{xs:Array Nat}(z:lj xs){i:Nat}(hi:i<xs.size):SetTable.below xs (xs.getD i 0+1)=i+1:=by
 obtain⟨h1,h2,h3⟩:=gZ z (xs.getD i 0+1);have a:i<SetTable.below xs (xs.getD i 0+1):=by
  by_cases q:SetTable.below xs (xs.getD i 0+1)<=i
  ·have:=h3 i q hi;omega
  ·omega
 have b:SetTable.below xs (xs.getD i 0+1)<=i+1:=by
  by_cases q:i+1<SetTable.below xs (xs.getD i 0+1)
  ·have:=h2 (i+1) q;have:=z i (i+1) (by omega) (by omega);omega
  ·omega
 omega
theorem pN(xs:Array Nat)(z:lj xs):SetTable.below xs 0=0:=by
 obtain⟨h1,h2,h3⟩:=gZ z 0;by_cases q:0<SetTable.below xs 0
 ·have:=h2 0 q;omega
 ·omega
end
section
variable{P:Program}{w:World}{A:Around}{E:Value->Shared->Prop}{s:Shared}{I S:Addr}{o:Obj}{es:Array (Int×Value)}{t:SetTable}{i n ep:Nat}
theorem lq{slot nx:Nat}{x:Value}{Q:Option Value->Shared->Prop}(q:SIt s.heap I S o (.int slot 0) i n ep)(hd:o.data=.set es ep t)(Z:t.fits es.size=true)(hn:es.size=n)(J:S≠I)
  (U:∀(A':Around) (s':Shared) (Y:Option (Value×Nat)->Shared->Prop) (E':Value->Shared->Prop),s'.heap.get? S=some o->Y (some (x,nx)) s'->wpAny (model P w) A' (setNext S slot i ep) Y E' s')
  (hQ:∀h',SIt h' I S o (.int nx 0) (i+1) n ep->Heap.SameBut I s.heap h'->Q (some x) { s with heap:=h' }):wpAny (model P w) A (pyNext (.ref I)) Q E s:=by
 unfold pyNext;refine wpAny_bind (wpAny_attempt (wpAny_callSpecial?_slot (name:=Str.ofString "__next__") q.type aH (wpAny_call_entry aH q.type cY ?_ (du _))));unfold Builtin.«set_iterator.__next__»;refine wpAny_bind (m:=slotArgs "__next__" 0 _) (wpAny_pure ?_);refine wpAny_bind (wpAny_fieldsOf q.1 rfl ?_);dsimp only;refine wpAny_bind (d_ q.2 hd Z ?_);rw[if_neg (by simp[hn])]
 try dsimp only
 simp only[Int.toNat_natCast];refine wpAny_bind (U _ _ _ _ q.2 ?_);dsimp only;refine wpAny_bind (wpAny_setField_rec q.1 (by simp) λh1 e1 z=>?_);refine wpAny_bind (wpAny_setField_rec e1 (by simp) λh2 e2 D=>?_);refine wpAny_pure ⟨x,rfl,wpAny_pure (hQ h2 ⟨?_,?_⟩ (z.trans D))⟩
 ·simpa[rawInt] using e2
 ·exact((z.trans D).2 S J).trans q.2
theorem lr{slot:Nat}{Q:Option Value->Shared->Prop}(U:A.handled=none)(z:SIt s.heap I S o (.int slot 0) i n ep)(hd:o.data=.set es ep t)(Z:t.fits es.size=true)(hn:es.size=n)
  (D:∀(A':Around) (s':Shared) (Y:Option (Value×Nat)->Shared->Prop) (E':Value->Shared->Prop),s'.heap.get? S=some o->Y none s'->wpAny (model P w) A' (setNext S slot i ep) Y E' s')
  (hQ:∀h',(∀b o,b≠I->s.heap.get? b=some o->h'.get? b=some o)->Q none { s with heap:=h' }):wpAny (model P w) A (pyNext (.ref I)) Q E s:=by
 unfold pyNext;refine wpAny_bind (wpAny_attempt (wpAny_callSpecial?_slot (name:=Str.ofString "__next__") z.type aH (wpAny_call_entry aH z.type cY ?_ (du _))));unfold Builtin.«set_iterator.__next__»;refine wpAny_bind (m:=slotArgs "__next__" 0 _) (wpAny_pure ?_);refine wpAny_bind (wpAny_fieldsOf z.1 rfl ?_);dsimp only;refine wpAny_bind (d_ z.2 hd Z ?_);rw[if_neg (by simp[hn])]
 try dsimp only
 simp only[Int.toNat_natCast];refine wpAny_bind (D _ _ _ _ z.2 ?_);dsimp only;refine wpAny_bind (wpAny_setField_rec z.1 (by simp) λh1 e1 J=>?_);refine lM (v:=.none) (vs:=#[]) (it:=0) (Q:=λ_ _=>True) (by first|exact U|simpa using U) λe s' kp ⟨h',eq⟩ hT=>?_
 subst eq;refine wpAny_bind (wpAny_isInstance (T:="StopIteration") (b:=true) hT isSubtype_stop ?_);exact wpAny_pure (hQ h' λb o hb q=>kp b o ((J.2 b hb).trans q))
theorem kf{D:Addr}{ot:Obj}{ps:Array Value}{pn place:Nat}{pt:Tok}{hx:Int}{x:Value}{Q:Option Value->Shared->Prop}(q:SIt s.heap I S o (.ref D) i n ep)(hd:o.data=.set es ep t)(hf:t.fits es.size=true)(hn:es.size=n)(J:S≠I)
  (U:s.heap.get? D=some ot) (Y:ot.data=.seq ps pn) (hp:ps[i]?=some (.int place pt)) (Z:es[place]?=some (hx,x))
  (hQ:∀h',SIt h' I S o (.ref D) (i+1) n ep->Heap.SameBut I s.heap h'->Q (some x) { s with heap:=h' }):wpAny (model P w) A (pyNext (.ref I)) Q E s:=by
 unfold pyNext;refine wpAny_bind (wpAny_attempt (wpAny_callSpecial?_slot (name:=Str.ofString "__next__") q.type aH (wpAny_call_entry aH q.type cY ?_ (du _))));unfold Builtin.«set_iterator.__next__»;refine wpAny_bind (m:=slotArgs "__next__" 0 _) (wpAny_pure ?_);refine wpAny_bind (wpAny_fieldsOf q.1 rfl ?_);dsimp only;refine wpAny_bind (d_ q.2 hd hf ?_);rw[if_neg (by simp[hn])]
 try dsimp only
 refine wpAny_bind (wpAny_seqItems U Y ?_);dsimp only;simp only[Int.toNat_natCast,hp];refine wpAny_bind ?_;unfold setNextDrawn;refine wpAny_bind (wpAny_setState_of q.2 hd hf ?_);dsimp only;simp only[bne_self_eq_false,Bool.false_eq_true,if_false,Int.toNat_natCast,Z];refine wpAny_pure ?_;refine wpAny_bind (wpAny_setField_rec q.1 (by simp) λh1 e1 z=>?_);refine wpAny_pure ⟨x,rfl,wpAny_pure (hQ h1 ⟨?_,?_⟩ z)⟩
 ·simpa[rawInt] using e1
 ·exact(z.2 S J).trans q.2
theorem kg{Z:Addr}{ot:Obj}{ps:Array Value}{pn:Nat}{Q:Option Value->Shared->Prop}(hh:A.handled=none)(z:SIt s.heap I S o (.ref Z) i n ep)(hd:o.data=.set es ep t)(hf:t.fits es.size=true)(hn:es.size=n)
  (D:s.heap.get? Z=some ot) (J:ot.data=.seq ps pn) (hp:ps[i]?=none)
  (hQ:∀h',(∀b o,b≠I->s.heap.get? b=some o->h'.get? b=some o)->Q none { s with heap:=h' }):wpAny (model P w) A (pyNext (.ref I)) Q E s:=by
 unfold pyNext;refine wpAny_bind (wpAny_attempt (wpAny_callSpecial?_slot (name:=Str.ofString "__next__") z.type aH (wpAny_call_entry aH z.type cY ?_ (du _))));unfold Builtin.«set_iterator.__next__»;refine wpAny_bind (m:=slotArgs "__next__" 0 _) (wpAny_pure ?_);refine wpAny_bind (wpAny_fieldsOf z.1 rfl ?_);dsimp only;refine wpAny_bind (d_ z.2 hd hf ?_);rw[if_neg (by simp[hn])]
 try dsimp only
 refine wpAny_bind (wpAny_seqItems D J ?_);dsimp only;simp only[Int.toNat_natCast,hp];refine wpAny_bind (wpAny_setField_rec z.1 (by simp) λh1 e1 U=>?_);refine wpAny_bind (wpAny_setField_rec e1 (by simp) λh2 e2 Y=>?_);refine lM (v:=.none) (vs:=#[]) (it:=0) (Q:=λ_ _=>True) (by first|exact hh|simpa using hh) λe s' kp ⟨h',eq⟩ hT=>?_
 subst eq;refine wpAny_bind (wpAny_isInstance (T:="StopIteration") (b:=true) hT isSubtype_stop ?_);exact wpAny_pure (hQ h' λb o hb q=>kp b o (((U.trans Y).2 b hb).trans q))
end
structure mH(P:Program)(w:World)(I:Addr)(fp:List Addr)(order:List Int)(St:Nat->Heap->Prop):Prop where
 mem:I∈fp
 ty:∀i h,St i h->∃o,h.get? I=some o/\o.cls=.type "set_iterator"
 frame:∀i h h',St i h->(∀b∈fp,∀o,h.get? b=some o->h'.get? b=some o)->St i h'
 item:∀(A:Around) i (s:Shared) (Q:Option Value->Shared->Prop) (E:Value->Shared->Prop),i<order.length->St i s.heap ->
  (∀t h',St (i+1) h'->(∀b o,b≠I->s.heap.get? b=some o->h'.get? b=some o)->Q (some (.int (order.getD i 0) t)) { s with heap:=h' })->wpAny (model P w) A (pyNext (.ref I)) Q E s
 done:∀(A:Around) (s:Shared) (Q:Option Value->Shared->Prop) (E:Value->Shared->Prop),A.handled=none->St order.length s.heap ->
  (∀h',(∀b o,b≠I->s.heap.get? b=some o->h'.get? b=some o)->Q none { s with heap:=h' })->wpAny (model P w) A (pyNext (.ref I)) Q E s
theorem mH.walks{P:Program}{w:World}{I:Addr}{fp:List Addr}{order:List Int}{St:Nat->Heap->Prop}(W:mH P w I fp order St){A:Around}(U:A.handled=none) :
  Walks P w A I fp [I] order.length (λi v=>∃t,v=.int (order.getD i 0) t) St where
 sub:=λb q=>by rw[mem_singleton.mp q];exact W.mem
 frame:=W.frame
 item:=λi s Q E hi st D=>W.item A i s Q E hi st λt h' J kp=>D _ h' s.toks ⟨t,rfl⟩ J λb o q e=>kp b o (λz=>q (by rw[z];exact mem_singleton.mpr rfl)) e
 done:=λs Q E st D=>W.done A s Q E U st λh' kp=>D h' s.toks λb o q e=>kp b o (λz=>q (by rw[z];exact mem_singleton.mpr rfl)) e
 self:=λi s Q E st h=>by
  obtain⟨o,e,c⟩:=W.ty i _ st;exact uj ⟨o,e,c⟩ h
section
variable{P:Program}{w:World}{A:Around}{E:Value->Shared->Prop}{s:Shared}
theorem iq{l:List (Int×Value)}{i:Nat}{e:Int×Value}(h:l[i]?=some e):(l.map λe=>numOf e.2).getD i 0=numOf e.2:=by
 rw[getD_eq_getElem?_getD,getElem?_map,h];rfl
set_option maxRecDepth 100000 in
theorem ul{S:Addr}{ks:List Int}{Q:Value->Shared->Prop}(g:dD P w s.heap S ks)
  (hQ:∀(I:Addr) (h':Heap) (d':Drawn) (fp:List Addr) (order:List Int) (St:Nat->Heap->Prop),order.Perm ks->(∀b o,s.heap.get? b=some o->h'.get? b=some o)->s.heap.objs.size<=I->(∀b∈fp,b=S\/s.heap.objs.size<=b)->(∀b∈fp,b<h'.objs.size) ->
   mH P w I fp order St->St 0 h'->Q (.ref I) { s with heap:=h',drawn:=d' }):wpAny (model P w) A (pyIter (.ref S)) Q E s:=by
 obtain⟨o,es,ep,t,ho,hex,hd,hel,hpm,hnd,hb,hf,hgd⟩:=g;have hT:s.TypeIs (.ref S) "set":=⟨o,ho,hex.1⟩;have hSlt:S<s.heap.objs.size:=Heap.lt_size ho;have hps:t.place.size=es.size:=by simp[SetTable.fits]at hf;exact hf.1
 have hlen:es.size=ks.length:=by have:=hpm.length_eq;simpa using this
 refine wpAny_pyIter_slot hT PySem.F.slot_set_iter (wpAny_call_entry PySem.F.slot_set_iter hT j9 ?_ (PySem.F.args_set_iter_1 _));unfold Builtin.«frozenset.__iter__»;refine wpAny_bind (m:=Builtin.Frozenset.slot0 "__iter__" _) (wpAny_pure ?_);refine wpAny_bind (m:=Builtin.Frozenset.sizeOf S) (wpAny_bind (d_ ho hd hf (wpAny_pure ?_)));refine wpAny_bind (m:=setDrawn S) ?_;unfold setDrawn;refine wpAny_bind (wpAny_setState_of ho hd hf ?_);dsimp only;refine wpAny_bind (fv (wpAny_pure ?_));have slotted:∀(order:List (Int×Value)) (fs:Nat->Nat),order.Perm es.toList->fs 0=0 ->
   (∀(A':Around) i (s':Shared) (Q':Option (Value×Nat)->Shared->Prop) (E':Value->Shared->Prop) e,order[i]?=some e->s'.heap.get? S=some o->Q' (some (e.2,fs (i+1))) s'->wpAny (model P w) A' (setNext S (fs i) i ep) Q' E' s') ->
   (∀(A':Around) (s':Shared) (Q':Option (Value×Nat)->Shared->Prop) (E':Value->Shared->Prop),s'.heap.get? S=some o->Q' none s'->wpAny (model P w) A' (setNext S (fs order.length) order.length ep) Q' E' s') ->
   Q (.ref s.heap.objs.size) { s with heap:=s.heap.push { cls:=.type "set_iterator",data:=.fields #[.int 0 0,.int 0 0,.ref S,.int (es.size:Nat) 0,.int (ep:Nat) 0] } }:=by
  intro order fs hp h0 hstep hend;have hol:order.length=es.size:=by have:=hp.length_eq;simpa using this
  refine hQ s.heap.objs.size _ s.drawn [s.heap.objs.size,S] (order.map λe=>numOf e.2) (λi h=>SIt h s.heap.objs.size S o (.int (fs i) 0) i es.size ep) ((hp.map _).trans hpm) (λb o e=>Heap.get?_push_of_some _ e) (Nat.le_refl _) (λb hb=>?_) (λb hb=>?_) ?_ ?_
  ·rcases mem_cons.mp hb with e|e
   ·exact .inr (Nat.le_of_eq e.symm)
   ·exact .inl (mem_singleton.mp e)
  ·rw[Heap.size_push];rcases mem_cons.mp hb with e|e
   ·rw[e];exact Nat.lt_succ_self _
   ·rw[mem_singleton.mp e];exact Nat.lt_succ_of_lt hSlt
  ·refine⟨.head _,λi h st=>⟨_,st.1,rfl⟩,λi h h' st k=>⟨k _ (.head _) _ st.1,k _ (.tail _ (.head _)) _ st.2⟩,λA' i s' Q' E' hi st hq=>?_,λA' s' Q' E' hh st hq=>?_⟩
   ·rw[length_map]at hi;obtain⟨e,he⟩:∃e,order[i]?=some e:=⟨_,getElem?_eq_getElem hi⟩;have hm:e∈es.toList:=hp.mem_iff.mp (mem_of_getElem? he);obtain⟨tk,hv⟩:=i3 hel e hm;rw[iq he]at hq;refine lq (slot:=fs i) (nx:=fs (i+1)) (x:=e.2) st hd hf rfl (Nat.ne_of_lt hSlt) (λA'' s'' Q'' E'' hs'' q=>hstep A'' i s'' Q'' E'' e he hs'' q) λh' st' sb=>?_
    rw[hv];exact hq tk h' st' λb o hb q=>(sb.2 b hb).trans q
   ·rw[length_map]at st;exact lr (slot:=fs order.length) hh st hd hf rfl (λA'' s'' Q'' E'' hs'' q=>hend A'' s'' Q'' E'' hs'' q) hq
  ·refine⟨?_,Heap.get?_push_of_some _ ho⟩;rw[h0];exact Heap.get?_push_size _ rfl
 cases hbt:byT w with
 | true =>
  simp only[Bool.not_true,Bool.false_and,Bool.false_eq_true,if_false];refine wpAny_bind (wpAny_pure ?_);refine wpAny_bind (wpAny_setEpoch_of ho hd hf ?_);refine wpAny_bind (wpAny_newObj_type (wpAny_pure ⟨_,rfl,"set_iterator",_,⟨_,Heap.get?_push_size _ rfl,rfl⟩,aH.lookup,?_⟩));have q:=slotted (pickOrder (w.params.setOrder S ep) es).toList (λ_=>0) (se _ _) rfl
   (λA' i s' Q' E' e he hs' q=>lO hs' hd hf hbt (by rw[<- Array.getElem?_toList,he];exact q))
   (λA' s' Q' E' hs' q=>lO hs' hd hf hbt (by rw[Array.getElem?_eq_none (by simp)];exact q))
  simpa[rawInt] using q
 | false =>
  cases hdr:(!t.plain&&decide (es.size > 1)) with
  | false =>
   refine wpAny_ite_split (λhab=>absurd (show(!false&&(!t.plain&&decide (es.size > 1)))=true from hab) (by rw[hdr];simp)) (λ_=>?_);refine wpAny_bind (wpAny_pure ?_);refine wpAny_bind (wpAny_setEpoch_of ho hd hf ?_);refine wpAny_bind (wpAny_newObj_type (wpAny_pure ⟨_,rfl,"set_iterator",_,⟨_,Heap.get?_push_size _ rfl,rfl⟩,aH.lookup,?_⟩));have hled:t.led=true:=by rw[hgd.led,hbt];rfl
   have hfs:∀i,i<=t.place.size->SetTable.below t.place (match i with|0=>0|j+1=>t.place.getD j 0+1)=i:=λi hi=>by
    cases i with
    |zero=>exact pN _ hgd.rise
    |succ j=>exact uk hgd.rise (by omega)
   have q:=slotted es.toList (λi=>match i with|0=>0|j+1=>t.place.getD j 0+1) (.refl _) rfl
    (λA' i s' Q' E' e he hs' q=>ke hs' hd hf hbt hdr hled (by
     have hi:i<es.size:=by have:=(List.getElem?_eq_some_iff.mp he).1;simpa using this
     rw[hfs i (by omega)];rw[<- Array.getElem?_toList,he,Array.getElem?_eq_getElem (by omega:i<t.place.size)];have e2:t.place.getD i 0=t.place[i]:=by simp[Array.getD,(by omega:i<t.place.size)]
     dsimp only at q ⊢;rw[e2]at q;exact q))
    (λA' s' Q' E' hs' q=>ke hs' hd hf hbt hdr hled (by
     rw[hfs _ (by simp[hps]),Array.getElem?_eq_none (by simp)];exact q))
   simpa[rawInt] using q
  | true =>
   refine wpAny_ite_split (λ_=>?_) (λhab=>absurd (show(!false&&(!t.plain&&decide (es.size > 1)))=true by rw[hdr];rfl) hab);refine wpAny_bind (kd _ _ _ (by simp) λplaces d' hperm=>?_);refine wpAny_bind (wpAny_newTuple ?_ (by simp;have:=hperm.length_eq;simp at this;rw[this,sizeLine_eq];unfold scanBound at hb;omega));refine wpAny_bind (wpAny_setEpoch_of (Heap.get?_push_of_some _ ho) hd hf ?_);refine wpAny_bind (wpAny_newObj_type (wpAny_pure ⟨_,rfl,"set_iterator",_,⟨_,Heap.get?_push_size _ rfl,rfl⟩,aH.lookup,?_⟩));have hpl:places.length=es.size:=by have:=hperm.length_eq;simpa using this
   have hat:∀p∈places,p<es.size:=λp hp=>by have:=hperm.mem_iff.mp hp;simpa using this
   have hT0:((s.heap.push { cls:=.type "tuple",data:=.seq (map (λ(i:Nat)=>rawInt i) places).toArray }).push { cls:=.type "set_iterator",data:=.fields #[.ref s.heap.objs.size,.int 0 0,.ref S,.int (es.size:Nat) 0,.int (ep:Nat) 0] }).get? s.heap.objs.size=some { cls:=.type "tuple",data:=.seq (map (λ(i:Nat)=>rawInt i) places).toArray }:=
    Heap.get?_push_of_some _ (Heap.get?_push_size _ rfl)
   have q:=hQ (s.heap.push { cls:=.type "tuple",data:=.seq (map (λ(i:Nat)=>rawInt i) places).toArray }).objs.size
    ((s.heap.push { cls:=.type "tuple",data:=.seq (map (λ(i:Nat)=>rawInt i) places).toArray }).push { cls:=.type "set_iterator",data:=.fields #[.ref s.heap.objs.size,.int 0 0,.ref S,.int (es.size:Nat) 0,.int (ep:Nat) 0] }) d'
    [(s.heap.push { cls:=.type "tuple",data:=.seq (map (λ(i:Nat)=>rawInt i) places).toArray }).objs.size,S,s.heap.objs.size]
    (places.map λp=>(es.toList.map λe=>numOf e.2).getD p 0)
    (λi h=>SIt h (s.heap.push { cls:=.type "tuple",data:=.seq (map (λ(i:Nat)=>rawInt i) places).toArray }).objs.size S o (.ref s.heap.objs.size) i es.size ep/\h.get? s.heap.objs.size=some { cls:=.type "tuple",data:=.seq (map (λ(i:Nat)=>rawInt i) places).toArray })
    ?p1 (λb o e=>Heap.get?_push_of_some _ (Heap.get?_push_of_some _ e)) (by rw[Heap.size_push];exact Nat.le_succ _) ?p2 ?p3 ?p4 ⟨⟨Heap.get?_push_size _ rfl,Heap.get?_push_of_some _ (Heap.get?_push_of_some _ ho)⟩,hT0⟩
   ·simpa[rawInt] using q
   case p1 =>
    have e1:(es.toList.map λe=>numOf e.2).length=es.size:=by simp
    have h1:=hperm.map λp=>(es.toList.map λe=>numOf e.2).getD p 0
    rw[<- e1,wG]at h1;exact h1.trans hpm
   case p2 =>
    intro b hb;simp only[mem_cons,not_mem_nil,or_false]at hb;rcases hb with e|e|e
    ·exact .inr (by rw[e,Heap.size_push];exact Nat.le_succ _)
    ·exact .inl e
    ·exact .inr (Nat.le_of_eq e.symm)
   case p3 =>
    intro b hb;rw[Heap.size_push];simp only[mem_cons,not_mem_nil,or_false]at hb;rcases hb with e|e|e
    ·rw[e];exact Nat.lt_succ_self _
    ·rw[e,Heap.size_push];exact Nat.lt_succ_of_lt (Nat.lt_succ_of_lt hSlt)
    ·rw[e,Heap.size_push];exact Nat.lt_succ_of_lt (Nat.lt_succ_self _)
   case p4 =>
    refine⟨.head _,λi h st=>⟨_,st.1.1,rfl⟩,λi h h' st k=>⟨⟨k _ (.head _) _ st.1.1,k _ (.tail _ (.head _)) _ st.1.2⟩,k _ (.tail _ (.tail _ (.head _))) _ st.2⟩,λA' i s' Q' E' hi st hq=>?_,λA' s' Q' E' hh st hq=>?_⟩
    ·rw[length_map]at hi;obtain⟨p,hp⟩:∃p,places[i]?=some p:=⟨_,getElem?_eq_getElem hi⟩;have hpz:p<es.size:=hat p (mem_of_getElem? hp);obtain⟨e,he⟩:∃e,es.toList[p]?=some e:=⟨_,getElem?_eq_getElem (by simpa using hpz)⟩;obtain⟨tk,hv⟩:=i3 hel e (mem_of_getElem? he);have e3:(places.map λp=>(es.toList.map λe=>numOf e.2).getD p 0).getD i 0=numOf e.2:=by
      rw[getD_eq_getElem?_getD,getElem?_map,hp];exact iq he
     rw[e3]at hq;refine kf (place:=p) (pt:=0) (hx:=e.1) (x:=e.2) st.1 hd hf rfl (by rw[Heap.size_push];exact Nat.ne_of_lt (Nat.lt_succ_of_lt hSlt)) st.2 rfl (by simp[hp,rawInt]) (by rw[<- Array.getElem?_toList,he]) λh' st' sb=>?_
     rw[hv];exact hq tk h' ⟨st',(sb.2 _ (by rw[Heap.size_push];exact Nat.ne_of_lt (Nat.lt_succ_self _))).trans st.2⟩ λb o hb q=>(sb.2 b hb).trans q
    ·rw[length_map]at st;exact kg hh st.1 hd hf rfl st.2 rfl (by simp) hq
end
section
variable{P:Program}{w:World}{A:Around}{E:Value->Shared->Prop}{s:Shared}
theorem um {r:Addr}{Q:Bool->Shared->Prop} (D:s.TypeIs (.ref r) "set") (h:Q false s):wpAny (model P w) A (Builtin.List.listLengthHint (.ref r)) Q E s:=by
 unfold Builtin.List.listLengthHint;refine wpAny_bind (wpAny_specialOf D PySem.F.slot_set_len.lookup ?_);generalize z:("set.__len__":String)=J
 wp_delta
 rw[show splitId J=some ("set","__len__") from by subst z;decide +kernel];subst z;refine wpAny_bind (wpAny_isInstance (T:="set") (b:=true) D (by rw[isSubtype_type];kernel_rfl) ?_);refine wpAny_ite_split (λq=>absurd q (by decide)) (λ_=>?_);refine wpAny_ite_split (λ_=>?_) (λq=>absurd (by decide +kernel) q);refine wpAny_bind (wpAny_typeOf D ?_);exact wpAny_pure h
set_option maxRecDepth 100000 in
theorem nP{S:Addr}{ks:List Int}{R:List Value->Shared->Prop}(hh:A.handled=none)(g:dD P w s.heap S ks)
  (h:∀(h':Heap) (tk:Nat) (d':Drawn) (acc:List Value) (order:List Int),(∀b o,s.heap.get? b=some o->h'.get? b=some o)->order.Perm ks->IntsAre acc order->R acc { s with heap:=h',toks:=tk,drawn:=d' }) :
  wpAny (model P w) A (collect (.ref S)) R E s:=by
 have hks:ks.length<scanBound:=by
  obtain⟨o,es,ep,t,ho,hex,hd,hel,hp,hn,hb,_⟩:=g;have:=hp.length_eq;have e:es.size=ks.length:=by simpa using this
  omega
 have hSlt:S<s.heap.objs.size:=by
  obtain⟨o,es,ep,t,ho,_⟩:=g;exact Heap.lt_size ho
 unfold collect;refine wpAny_bind (wpAny_runValue (codeAny_builtin entry_proto_collect' ?_));rw[Around.under_plainId PySem.F.plain_proto_collect _];show wpAny _ A.in1 (newList [] >>= λl=>again (.builtin "list.__iadd__" ⟨[l,.ref S],[]⟩)) _ _ s;refine wpAny_bind (wpAny_newObj_type ?_);refine wpAny_pure ⟨plainId_quiet PySem.F.plain_list_iadd _,codeAny_builtin entry_list_iadd' ?_⟩;rw[Around.under_plainId PySem.F.plain_list_iadd _];have hS0:(s.heap.push { cls:=.type "list",data:=.seq ([]:List Value).toArray }).get? s.heap.objs.size=some { cls:=.type "list",data:=.seq #[] }:=Heap.get?_push_size _ rfl;show wpAny _ A.in1 (Builtin.List.listExtendWith (.ref s.heap.objs.size) (.ref S) (.ref s.heap.objs.size)) _ _ _;have g1:dD P w (s.heap.push { cls:=.type "list",data:=.seq ([]:List Value).toArray }) S ks:=g.at λo e=>Heap.get?_push_of_some _ e
 have hT:Shared.TypeIs { s with heap:=s.heap.push { cls:=.type "list",data:=.seq ([]:List Value).toArray } } (.ref S) "set":=by
  obtain⟨o,es,ep,t,ho,hex,_⟩:=g1;exact⟨o,ho,hex.1⟩
 unfold Builtin.List.listExtendWith;refine wpAny_bind (wpAny_typeOf (T:="set") hT ?_);have q1:Builtin.List.listSameRef (.ref s.heap.objs.size) (.ref S)=false:=by simp[Builtin.List.listSameRef,Nat.ne_of_gt hSlt]
 have q2:(Value.type "set" == Value.type "list")=false:=by decide
 have q3:(Value.type "set" == Value.type "tuple")=false:=by decide
 simp only[q1,q2,q3,Bool.or_false,Bool.false_eq_true,if_false];refine wpAny_bind (ul g1 λI h1 d1 fp order St hperm kp hI hfp hlt W st=>?_);have hz0:(s.heap.push { cls:=.type "list",data:=.seq ([]:List Value).toArray }).objs.size=s.heap.objs.size+1:=Heap.size_push ..;have hLf:s.heap.objs.size∉fp:=λhm=>by
  rcases hfp _ hm with e|e
  ·exact Nat.lt_irrefl _ (by rw[<- e]at hSlt;exact hSlt)
  ·dsimp only at e;rw[hz0]at e;exact Nat.not_succ_le_self _ e
 have hol:order.length<=sizeLine:=by
  have:=hperm.length_eq;rw[this];exact fits_of_scanBound hks
 have hT1:Shared.TypeIs { s with heap:=h1,drawn:=d1 } (.ref S) "set":=by
  obtain⟨o,e,c⟩:=hT;exact⟨o,kp S o e,c⟩
 refine wpAny_bind (wpAny_holding (um hT1 ?_));have WS:=(W.walks (A:=A.in1) (by first|exact hh|simpa using hh)).toS;have fin:∀(h2:Heap) (c1:Nat),St 0 h2->(∀b o,b≠s.heap.objs.size->h1.get? b=some o->h2.get? b=some o)->h2.get? s.heap.objs.size=some { cls:=.type "list",dict:=none,data:=.seq #[] c1,slots:=#[] } ->
   codeAny (model P w) A (.builtin "list.extend.loop" ⟨[.ref s.heap.objs.size,.ref I,.ref s.heap.objs.size],[]⟩)
    (λr s'=>∃(h':Heap) (tk:Nat) (acc':Array Value) (c':Nat),r=.ok (.ret (.ref s.heap.objs.size))/\s'={ s with heap:=h',toks:=tk,drawn:=d1 }/\(∀b o,s.heap.get? b=some o->h'.get? b=some o) /\
     h'.get? s.heap.objs.size=some { cls:=.type "list",dict:=none,data:=.seq acc' c',slots:=#[] }/\IntsAre acc'.toList order) { s with heap:=h2,drawn:=d1 }:=by
  intro h2 c1 st2 k2 hS2;refine codeAny_extend_loopS WS hol s.heap.objs.size hLf _ order.length 0 _ #[] c1 rfl (Nat.zero_le _) st2 hS2 (ItemsOf.nil _) λs' acc' c' hm hS' hacc=>?_
  refine⟨s'.heap,s'.toks,acc',c',rfl,(by
   obtain⟨h',g',dr',tk',os'⟩:=s';have eg:g'=s.gens:=hm.gens;have ed:dr'=d1:=hm.drawn;have eo:os'=s.os:=hm.os;subst eg;subst ed;subst eo;rfl),λb o e=>?_,hS',lh hacc⟩
  have hbl:b≠s.heap.objs.size:=Nat.ne_of_lt (Heap.lt_size e);refine hm.heap b o (λhmem=>?_) (k2 b o hbl (kp b o (Heap.get?_push_of_some _ e)));rcases mem_cons.mp hmem with z|z
  ·exact hbl z
  ·have hbI:b=I:=mem_singleton.mp z;rw[hbI]at e;have hI':(s.heap.push { cls:=.type "list",data:=.seq ([]:List Value).toArray }).objs.size<=I:=hI;rw[hz0]at hI';exact absurd (Nat.lt_of_lt_of_le (Heap.lt_size e) (Nat.le_of_succ_le hI')) (Nat.lt_irrefl _)
 have done:∀ (r:Result) (s':Shared),(∃ (h':Heap) (tk:Nat) (acc':Array Value) (c':Nat),r=.ok (.ret (.ref s.heap.objs.size))/\s'={ s with heap:=h',toks:=tk,drawn:=d1 }/\(∀ b o,s.heap.get? b=some o->h'.get? b=some o) /\
     h'.get? s.heap.objs.size=some { cls:=.type "list",dict:=none,data:=.seq acc' c',slots:=#[] }/\IntsAre acc'.toList order) ->
   wants (λv s'=>wpAny (model P w) A (match v with
    | Value.ref a=>do
     match (<- load a).data with
      |Data.seq xs _=>pure xs.toList
      | _=>unsupported "internal:collect"
    | _=>unsupported "internal:collect") R E s') E r s':=by
  rintro r s' ⟨h',tk,acc',c',rfl,rfl,k',hS',hi⟩;show wpAny _ A (load s.heap.objs.size >>= _) _ _ _;refine wpAny_bind (wpAny_load hS' ?_);exact wpAny_pure (h h' tk d1 acc'.toList order k' hperm hi)
 have h1L:h1.get? s.heap.objs.size=some { cls:=.type "list",dict:=none,data:=.seq #[] 0,slots:=#[] }:=kp _ _ hS0;refine wpAny_ite_split (λ_=>?_) (λ_=>wpAny_pure ⟨plainId_quiet PySem.F.plain_extend_loop _,codeAny_mono (fin h1 0 st (λ_ _ _ e=>e) h1L) done⟩);refine wpAny_bind (wpAny_rule ?_);refine wpAny_bind ?_;show wpAny _ _ (updateSeq s.heap.objs.size (·.push .none) >>= λ_=>updateSeq s.heap.objs.size (·.pop)) _ _ _;refine wpAny_bind (wpAny_updateSeq h1L rfl ?_);have hS2:=Heap.get?_update_self (Obj.mapSeq (·.push Value.none)) h1L rfl;refine wpAny_updateSeq (hz:=by seq_fits) hS2 rfl ?_;have hS3:=Heap.get?_update_self (Obj.mapSeq (·.pop)) hS2 rfl;refine wpAny_pure ⟨plainId_quiet PySem.F.plain_extend_loop _,codeAny_mono (fin _ _ ?_ (λb o hb e=>?_) hS3) done⟩
 ·refine W.frame 0 _ _ st λb hb o e=>?_
  have hbS:b≠s.heap.objs.size:=λz=>hLf (z ▸ hb)
  exact(Heap.get?_update_other _ _ (Ne.symm hbS)).trans ((Heap.get?_update_other _ _ (Ne.symm hbS)).trans e)
 ·exact(Heap.get?_update_other _ _ (Ne.symm hb)).trans ((Heap.get?_update_other _ _ (Ne.symm hb)).trans e)
end
end L2.St
namespace L2
open PySem PySem.Spec PyProof.Rows List Option
noncomputable def dO(scope osc:Scope):Scope:=
 { scope with names:=scope.names.map λ(n,k)=>if (k==.free&&osc.kind==.function&&osc.names.lookup n==some .cell) then (n,.cell) else (n,k) }
noncomputable def lu(osc:Scope)(n:Str)(k:NameKind):NameKind:=if (k==.free&&osc.kind==.function&&osc.names.lookup n==some .cell) then .cell else k
theorem g7(scope osc:Scope):(dO scope osc).names=scope.names.map λq=>(q.1,lu osc q.1 q.2):=by
 show map _ scope.names=_;refine map_congr_left λq _=>?_
 obtain⟨n,k⟩:=q;show(if (k==NameKind.free&&osc.kind==.function&&osc.names.lookup n==some .cell)=true then (n,NameKind.cell) else (n,k))=(n,lu osc n k);unfold lu;split<;>rfl
theorem eT{α β:Type}(g:Str->α->β)(y:Str):∀names:List (Str×α),(names.map λq=>(q.1,g q.1 q.2)).lookup y=(names.lookup y).map (g y)
 | []=>rfl
 | (n,k)::r=>by
  rw[map_cons];cases hx:y==n with
  |true =>
   simp only[lookup_cons,hx,map_some];rw[eq_of_beq hx]
  |false =>
   simp only[lookup_cons,hx];exact eT g y r
theorem sf(osc:Scope)(n:Str):lu osc n .free=.cell\/lu osc n .free=.free:=by
 unfold lu;split
 ·exact .inl rfl
 ·exact .inr rfl
theorem sg{osc:Scope}{n:Str}{k:NameKind}(q:k≠.cell)(h:lu osc n k=.cell\/lu osc n k=.free):k=.free:=by
 unfold lu at h;by_cases hc:(k==NameKind.free&&osc.kind==.function&&osc.names.lookup n==some .cell)=true
 ·simp only[Bool.and_eq_true]at hc;exact eq_of_beq hc.1.1
 ·rw[if_neg hc]at h;rcases h with h|h
  ·exact absurd h q
  ·exact h
theorem g8{α:Type}{y:Str}{k:α}:∀{l:List (Str×α)},l.lookup y=some k->(y,k)∈l
 | [],h=>by simp at h
 | (n,k')::r,h=>by
  cases hx:y==n with
  |true =>
   simp only[lookup_cons,hx]at h;rw[eq_of_beq hx,Option.some.inj h];exact .head _
  |false =>
   simp only[lookup_cons,hx]at h;exact .tail _ (g8 h)
theorem sh{scope osc:Scope}{y:Str}(h:scope.names.lookup y=some .free):(dO scope osc).names.lookup y=some .cell\/(dO scope osc).names.lookup y=some .free:=by
 rw[g7,eT,h,map_some];rcases sf osc y with e|e
 ·exact .inl (by rw[e])
 ·exact .inr (by rw[e])
theorem si{scope osc:Scope}{x y:Str}(J:∀z∈scope.names,z.2=.cell->z.1=x)(h:(dO scope osc).names.lookup y=some .cell\/(dO scope osc).names.lookup y=some .free):(y,NameKind.free)∈scope.names\/(y=x/\scope.names.lookup x=some .cell):=by
 rw[g7,eT]at h;cases e:scope.names.lookup y with
 |none=>rw[e]at h;rcases h with h|h<;>cases h
 | some k =>
  rw[e,map_some]at h;have D:=g8 e;by_cases hc:k=.cell
  ·subst hc;have q:y=x:=J _ D rfl;exact .inr ⟨q,by rw[<- q];exact e⟩
  ·have U:k=.free:=sg hc (h.elim (λz=>.inl (Option.some.inj z)) λz=>.inr (Option.some.inj z));rw[U]at D;exact .inl D
theorem sj{scope osc:Scope}{y:Str}(h:scope.names.lookup y=some .cell):(dO scope osc).names.lookup y=some .cell:=by
 rw[g7,eT,h,map_some];unfold lu;split
 ·rfl
 ·rfl
noncomputable def e_(env:Env):List (Str×NameKind)->List (Str×Addr)->List (Str×Addr)
 | [],acc=>acc
 | (n,k)::r,acc=>if k==.free then e_ env r ((n,(env.cells.lookup n).getD 0)::acc) else e_ env r acc
theorem i5{env:Env}:∀(names:List (Str×NameKind)) (acc:List (Str×Addr)),(∀y∈names,y.2=.free->∃c,env.cells.lookup y.1=some c) ->
  (forIn names acc λx r=>(match x with|(name,kind)=>if (kind==NameKind.free)=true then do let c <- cellOf env name;pure (ForInStep.yield ((name,c)::r)) else pure (ForInStep.yield r)):Sem (List (Str×Addr)))=pure (e_ env names acc)
 | [],acc,_=>rfl
 | (n,k)::r,acc,h=>by
  rw[forIn_cons];have hr:∀y∈r,y.2=.free->∃c,env.cells.lookup y.1=some c:=λy hy=>h y (.tail _ hy)
  by_cases hk:(k==NameKind.free)=true
  ·obtain⟨c,hc⟩:=h (n,k) (.head _) (eq_of_beq hk);dsimp only;rw[if_pos hk];have e1:cellOf env n=pure c:=by unfold cellOf;rw[hc]
   rw[e1];simp only[pure_bind];rw[i5 r _ hr];show _=pure (if (k==NameKind.free)=true then _ else _);rw[if_pos hk,hc]
   all_goals rfl
  ·dsimp only;rw[if_neg hk];simp only[pure_bind];rw[i5 r _ hr];show _=pure (if (k==NameKind.free)=true then _ else _);rw[if_neg hk]
theorem g9{scope:Scope}{env:Env}(h:∀y∈scope.names,y.2=.free->∃c,env.cells.lookup y.1=some c):closureFor scope env=pure (e_ env scope.names []):=by
 unfold closureFor;have:=i5 (env:=env) scope.names [] h
 first
  | exact this
  | (rw[bind_pure];exact this)
  | simpa using this
theorem kh{env:Env}{y:Str}{c:Addr}:∀(names:List (Str×NameKind)) (acc:List (Str×Addr)),(∀z∈names,z.2=.free->∃c,env.cells.lookup z.1=some c)->(∀c,acc.lookup y=some c->env.cells.lookup y=some c) ->
  (e_ env names acc).lookup y=some c->env.cells.lookup y=some c
 | [],acc,_,ha,e=>ha c e
 | (n,k)::r,acc,h,ha,e=>by
  have hr:∀y∈r,y.2=.free->∃c,env.cells.lookup y.1=some c:=λy hy=>h y (.tail _ hy)
  have e':(if (k==NameKind.free)=true then e_ env r ((n,(env.cells.lookup n).getD 0)::acc) else e_ env r acc).lookup y=some c:=e;by_cases hk:(k==NameKind.free)=true
  ·rw[if_pos hk]at e';refine kh r _ hr (λc' q=>?_) e';cases hx:y==n with
   |true =>
    simp only[lookup_cons,hx]at q;obtain⟨c0,hc0⟩:=h (n,k) (.head _) (eq_of_beq hk);have en:y=n:=eq_of_beq hx;have hc1:env.cells.lookup n=some c0:=hc0;rw[hc1]at q;rw[en,hc1];exact q
   |false =>
    simp only[lookup_cons,hx]at q;exact ha c' q
  ·rw[if_neg hk]at e';exact kh r _ hr ha e'
theorem ir{env:Env}{y:Str}:∀(names:List (Str×NameKind)) (acc:List (Str×Addr)),((y,NameKind.free)∈names\/∃c,acc.lookup y=some c)->∃c,(e_ env names acc).lookup y=some c
 | [],acc,h=>by
  rcases h with h|h
  ·simp at h
  ·exact h
 | (n,k)::r,acc,h=>by
  show ∃c,(if (k==NameKind.free)=true then e_ env r ((n,(env.cells.lookup n).getD 0)::acc) else e_ env r acc).lookup y=some c;by_cases hk:(k==NameKind.free)=true
  ·rw[if_pos hk]
   refine ir r _ ?_;cases hx:y==n with
   |true=>exact .inr ⟨(env.cells.lookup n).getD 0,by simp only[lookup_cons,hx]⟩
   | false =>
    rcases h with h|⟨c,h⟩
    ·rcases mem_cons.mp h with z|z
     ·have:y=n:=(Prod.mk.inj z).1;rw[this]at hx;simp at hx
     ·exact .inl z
    ·exact .inr ⟨c,by simp only[lookup_cons,hx];exact h⟩
  ·rw[if_neg hk];refine ir r _ ?_;rcases h with h|h
   ·rcases mem_cons.mp h with z|z
    ·have:NameKind.free=k:=(Prod.mk.inj z).2;rw[<- this]at hk;simp at hk
    ·exact .inl z
   ·exact .inr h
structure i6(osc:Scope)(N:List Str)(scope:Scope)(x:Str)(fvs:List Str)(js:List Nat):Prop where
 cells:∀y∈scope.names,y.2=.cell->y.1=x
 once:scope.names.lookup x=some .local/\(scope.names.filter λy=>y.2==.cell)=[]\/scope.names.lookup x=some .cell/\(scope.names.filter λy=>y.2==.cell)=[(x,.cell)]
 xf:∀y∈scope.names,y.2=.free->y.1≠x
 kind:scope.kind=.function
 names:∀y∈scope.names,y.2=.local->scope.names.lookup y.1=some .local
 nd:(x::fvs).Nodup
 out:∀y∈scope.names,y.2=.free->osc.names.lookup y.1=some .cell\/osc.names.lookup y.1=some .free
 slots:(js.map λj=>N[j]?)=fvs.map some
 free:∀y∈fvs,scope.names.lookup y=some .free
structure jG(osc:Scope)(N:List Str)(scope:Scope)(x:Str)(ys fvs:List Str)(js:List Nat):Prop where
 cells:∀y∈scope.names,y.2=.cell->y.1=x
 once:scope.names.lookup x=some .local/\(scope.names.filter λy=>y.2==.cell)=[]\/scope.names.lookup x=some .cell/\(scope.names.filter λy=>y.2==.cell)=[(x,.cell)]
 xf:∀y∈scope.names,y.2=.free->y.1≠x
 kind:scope.kind=.function
 names:∀y∈scope.names,y.2=.local->scope.names.lookup y.1=some .local
 nd:(x::(ys++fvs)).Nodup
 out:∀y∈scope.names,y.2=.free->osc.names.lookup y.1=some .cell\/osc.names.lookup y.1=some .free
 slots:(js.map λj=>N[j]?)=fvs.map some
 free:∀y∈fvs,scope.names.lookup y=some .free
theorem i6.g{osc:Scope}{N:List Str}{scope:Scope}{x:Str}{fvs:List Str}{js:List Nat}(h:i6 osc N scope x fvs js):jG osc N scope x [] fvs js:=⟨h.cells,h.once,h.xf,h.kind,h.names,h.nd,h.out,h.slots,h.free⟩
noncomputable def i7(scope:Scope)(x:Str)(C:Addr):List (Str×Addr):=if scope.names.lookup x=some .cell then [(x,C+1)] else []
noncomputable def Cx.blk(X:Cx)(x:Str)(fvs:List Str)(scope:Scope)(q:Shared)(z:Hp)(C:Addr)(fp:List Addr):Cx:=
 { X with N:=x::fvs,s₀:=q,H₀:=z,env:=compEnvC scope (i7 scope x C++e_ X.env scope.names []) C X.env,outer:=X.stack,ex:=fp,fn:=λy=>decide (y=x/\scope.names.lookup x=some .cell),pn:=[],xe:=λ_ _=>False }
theorem kj{M:Model}{A:Around}{E:Value->Shared->Prop}:∀{names:List (Str×NameKind)}{acc:List (Str×Addr)}{s:Shared}{Q:List (Str×Addr)->Shared->Prop},(names.filter λy=>y.2==.cell)=[]->Q acc s ->
  wpAny M A (forIn names acc λx r=>(match x with|(name,kind)=>if (kind==NameKind.cell)=true then do let c <- alloc { cls:=.type "cell",data:=.cell none };pure (ForInStep.yield ((name,c)::r)) else pure (ForInStep.yield r)):Sem (List (Str×Addr))) Q E s
 | [],_,_,_,_,h=>wpAny_pure h
 | (n,k)::r,acc,s,Q,hf,h=>by
  rw[forIn_cons];have hk:(k==NameKind.cell)=false:=by
   cases q:(k==NameKind.cell) with
   |false=>rfl
   |true=>rw[filter_cons_of_pos (by exact q)]at hf;cases hf
  rw[filter_cons_of_neg (by rw[hk];decide)]at hf;dsimp only;rw[if_neg (by rw[hk];decide)];exact wpAny_bind (wpAny_pure (kj hf h))
theorem lP{M:Model}{A:Around}{E:Value->Shared->Prop}{x:Str}:∀{names:List (Str×NameKind)}{acc:List (Str×Addr)}{s:Shared}{Q:List (Str×Addr)->Shared->Prop},(names.filter λy=>y.2==.cell)=[(x,.cell)] ->
  Q ((x,s.heap.objs.size)::acc) { s with heap:=s.heap.push { cls:=.type "cell",data:=.cell none } } ->
  wpAny M A (forIn names acc λx r=>(match x with|(name,kind)=>if (kind==NameKind.cell)=true then do let c <- alloc { cls:=.type "cell",data:=.cell none };pure (ForInStep.yield ((name,c)::r)) else pure (ForInStep.yield r)):Sem (List (Str×Addr))) Q E s
 | [],_,_,_,hf,_=>by cases hf
 | (n,k)::r,acc,s,Q,hf,h=>by
  rw[forIn_cons];dsimp only;cases hk:(k==NameKind.cell) with
  |false =>
   rw[filter_cons_of_neg (by rw[hk];decide)]at hf;rw[if_neg (by decide)];exact wpAny_bind (wpAny_pure (lP hf h))
  |true =>
   rw[filter_cons_of_pos (by exact hk)]at hf;obtain⟨e1,e2⟩:=List.cons.inj hf;cases e1;rw[if_pos rfl];exact wpAny_bind (wpAny_bind (wpAny_alloc (wpAny_pure (kj e2 h))))
theorem pO{M:Model}{A:Around}{E:Value->Shared->Prop}{scope:Scope}{x:Str}{globals:Addr}{Y:List (Str×Addr)}{qual:Str}{env:Env}{s:Shared}{Q:Env->Shared->Prop}(hk:scope.kind=.function)
  (ho:scope.names.lookup x=some .local/\(scope.names.filter λy=>y.2==.cell)=[]\/scope.names.lookup x=some .cell/\(scope.names.filter λy=>y.2==.cell)=[(x,.cell)])
  (h:∀h' m,h'.Ns s.heap.objs.size m->(∀b u,s.heap.get? b=some u->h'.get? b=some u)->(scope.names.lookup x=some .cell->h'.IsCell (s.heap.objs.size+1) none)->Q (newEnv scope s.heap.objs.size globals (i7 scope x s.heap.objs.size++Y) qual none .none (some env) builtinsNs) { s with heap:=h' }) :
  wpAny M A (newFunctionEnv scope globals Y [] qual none .none (some env)) Q E s:=by
 rcases ho with ⟨h1,h2⟩|⟨h1,h2⟩
 ·refine wpAny_newFunctionEnv (λy D z=>?_) (by intro y D;simp at D) (λh' J U=>?_) hk
  ·have:y∈scope.names.filter λy=>y.2==.cell:=mem_filter.mpr ⟨D,by rw[z];rfl⟩
   rw[h2]at this;cases this
  ·have q:=h h' _ J (λb u e=>U.extBut b u (Nat.ne_of_lt (Heap.lt_size e)) (Heap.get?_push_of_some _ e)) λz=>by rw[h1]at z;cases z
   unfold i7 at q;rw[if_neg (by rw[h1];simp)]at q;exact q
 ·unfold newFunctionEnv;refine wpAny_bind (wpAny_alloc (wpAny_bind (lP h2 ?_)));have hn:=Heap.Ns.new s.heap (.type "dict");have Z:(s.heap.push { cls:=.type "dict",data:=.dict #[] }).objs.size=s.heap.objs.size+1:=Heap.size_push _ _;have q:=h ((s.heap.push { cls:=.type "dict",data:=.dict #[] }).push { cls:=.type "cell",data:=.cell none }) _ (hn.keeps λb o e=>Heap.get?_push_of_some _ e) (λb u e=>Heap.get?_push_of_some _ (Heap.get?_push_of_some _ e)) λ_=>⟨_,by rw[<- Z];exact Heap.get?_push_size _ rfl,rfl⟩
  unfold i7 at q;rw[if_pos h1]at q;rw[<- Z]at q;exact wpAny_bind (wpAny_pure (wpAny_pure q))
noncomputable def ee(js:List Nat)(σ:St):St:=none::js.map λj=>(σ[j]?).join
noncomputable def nQ(n:Nat)(js:List Nat)(σ:St):St:=none::(replicate n none++js.map λj=>(σ[j]?).join)
noncomputable def PF(X:Cx)(ifs:List Expr)(t:TT):Prop:=
 ∀(pins:List (Addr×Obj)) (s:Shared) (σ:St) (H:Hp) (Q:Bool->Hp->Prop),Inv X pins σ H s->t σ H Q ->
  wpAny (model X.prog X.w) X.A (forIn ifs true λc r=>if r=true then do let ok <- isTrue c X.env (eval c X.env);pure (ForInStep.yield ok) else pure (ForInStep.yield r)) (TP X pins σ Q) X.xe s
noncomputable def DQ:TT:=λ_ H Q=>Q true H
theorem zj{X:Cx}:PF X [] DQ:=λ_ _ _ H _ I h=>wpAny_tests_nil ⟨H,I,h⟩
theorem zk{X:Cx}{c:Expr}{t:TT}(h:PT X c t):PF X [c] t:=λpins s σ H Q I q=>wpAny_tests_one (h pins s σ H Q I q)
section
variable{prog:Program}{w:World}{A:Around}{R:Result->Shared->Prop}{s:Shared}
theorem sk{elt target iter:Expr}{ifs:List Expr}{scope:Scope}{pos:Pos}{it acc:Value}{env:Env}(J:Nat->Shared->Prop)
  (turn:∀n s,J n s->wpAny (model prog w) A (pyNext it) (λr s1=>match r with
   |none=>R (.ok .next) s1
   | some v=>wpAny (model prog w) A (letOwnedTupleGo target it v) (λ_ s2=>wpAny (model prog w) A (assign target env v) (λ_ s3 =>
     wpAny (model prog w) A (forIn ifs true λc r=>if r=true then do let ok <- isTrue c env (eval c env);pure (ForInStep.yield ok) else pure (ForInStep.yield r)) (λok s4 =>
      if ok=true then wpAny (model prog w) A (eval elt env) (λx s5 =>
       wpAny (model prog w) A (call (.builtin "list.append") [acc,x]) (λ_ s6=>∃m,m<n/\J m s6) (λ_ _=>False) s5) (λ_ _=>False) s4
      else ∃m,m<n/\J m s4) (λ_ _=>False) s3) (λ_ _=>False) s2) (λ_ _=>False) s1) (λ_ _=>False) s)
  (n:Nat) (h:J n s):codeAny (model prog w) A (.compLoop (.ListComp elt [⟨target,iter,ifs,0⟩] scope pos) 0 it acc env) R s:=by
 have up:∀{α:Type}{t:Sem α}{Q:α->Shared->Prop}{E:Value->Shared->Prop}{s:Shared},wpAny (model prog w) A t Q (λ_ _=>False) s->wpAny (model prog w) A t Q E s:=λq=>wpAny_mono q (λ_ _ z=>z) λ_ _ z=>z.elim
 refine codeAny_loop rfl J (λn s hJ=>?_) n h;show wpAny _ A ((compTurn (.ListComp elt [⟨target,iter,ifs,0⟩] scope pos) 0 it acc env).onRaise (λx=>do noteFrame x env;theTreesLotGoes x)) _ _ s;refine wpAny_noted ?_;rw[compTurn_list];refine wpAny_bind (wpAny_standAt (wpAny_bind (wpAny_mono (up (turn n s hJ)) (λr s1 h1=>?_) λ_ _ z=>z)));cases r with
 |none=>exact wpAny_pure h1
 |some v =>
  refine wpAny_bind (wpAny_mono (up h1) (λ_ s2 h2=>?_) λ_ _ z=>z);refine wpAny_bind (wpAny_mono (up h2) (λ_ s3 h3=>wpAny_bind (wpAny_mono (up h3) (λok s4 h4=>?_) λ_ _ z=>z)) λ_ _ z=>z);cases ok with
  |false=>exact wpAny_pure ⟨rfl,h4⟩
  |true=>exact wpAny_bind (wpAny_bind (wpAny_mono (up h4) (λx s5 h5=>wpAny_bind (wpAny_mono (up h5) (λ_ s6 h6=>wpAny_pure (wpAny_pure ⟨rfl,h6⟩)) λ_ _ z=>z)) λ_ _ z=>z))
end
noncomputable def nR(J:It)(σ0:St)(H1:Hp)(tt:TT)(te:TE)(D:Addr)(Q:VK):Prop:=
 ∃ W:Nat->Nat->St->Hp->Prop,(∃ m,W 0 m σ0 (upd H1 D (.lst [])))/\∀ i m σ' H',W i m σ' H' ->
  (J.stop i H'/\Q (.ref D) H')\/(J.go i H'/\∃N:St->Hp->Prop,(∀σ2 H2,N σ2 H2->∃m',m'<m/\W (i+1) m' σ2 H2)/\∀x H2,J.yld i H' x H2 ->
   tt (σ'.set 0 (some x)) H2 λb H3=>if b=true then te (σ'.set 0 (some x)) H3 λy H4=>∃ys,H4 D=some (.lst ys)/\ys.length<sizeLine/\N (σ'.set 0 (some x)) (upd H4 D (.lst (ys ++ [y]))) else N (σ'.set 0 (some x)) H3)
noncomputable def pP(J:It)(g:TG)(σ0:St)(H1:Hp)(tt:TT)(te:TE)(D:Addr)(Q:VK):Prop:=
 ∃ W:Nat->Nat->St->Hp->Prop,(∃ m,W 0 m σ0 (upd H1 D (.lst [])))/\∀ i m σ' H',W i m σ' H' ->
  (J.stop i H'/\Q (.ref D) H')\/(J.go i H'/\∃N:St->Hp->Prop,(∀σ2 H2,N σ2 H2->∃m',m'<m/\W (i+1) m' σ2 H2)/\∀x H2,J.yld i H' x H2 ->
   g x σ' H2 λσ3 H3=>tt σ3 H3 λb H4=>if b=true then te σ3 H4 λy H5=>∃ys,H5 D=some (.lst ys)/\ys.length<sizeLine/\N σ3 (upd H5 D (.lst (ys ++ [y]))) else N σ3 H4)
theorem nR.g{J:It}{q:St}{H1:Hp}{tt:TT}{te:TE}{D:Addr}{Q:VK}(h:nR J q H1 tt te D Q):pP J (fo 0) q H1 tt te D Q:=h
noncomputable def uo(wi:TI)(js:List Nat)(tt:TT)(te:TE):TE:=λσ H Q=>wi σ H λJ H1=>∀D,H1 D=none->nR J (ee js σ) H1 tt te D Q
section
variable{X:Cx}{elt iter:Expr}{x:Str}{px:Pos}{ifs:List Expr}{scope:Scope}{pos:Pos}{fvs:List Str}{js:List Nat}{wi:TI}{tt:TT}{te:TE}
theorem km{tg:Expr}{g:TG}{ys:List Str}(hsc:jG X.env.scope X.N scope x ys fvs js)(hc:X.calm=true)(hg:∀s₁ H₁ C fp,PG (X.blk x (ys++fvs) scope s₁ H₁ C fp) tg g)
  (ht:∀s₁ H₁ C fp,PF (X.blk x (ys++fvs) scope s₁ H₁ C fp) ifs tt) (he:∀s₁ H₁ C fp,PE (X.blk x (ys++fvs) scope s₁ H₁ C fp) elt te)
  {pins:List (Addr×Obj)}{σ:St}{H2:Hp}{s2:Shared}{Q:VK}{it:Addr}{fp:List Addr}{tn:Nat->Heap->Prop}{J:It}{RR:Value->Addr->Result->Shared->Prop}
  (I2:Inv X pins σ H2 s2) (T:nA X.prog X.w X.K tg J fp it tn) (st2:tn 0 s2.heap) (f2:∀b∈fp,jU X pins H2 b)
  (hh:∀D,H2 D=none->pP J g (nQ ys.length js σ) H2 tt te D Q)
  (fin:∀(D C:Addr) (H':Hp) (s':Shared),Inv X pins σ H' s'->(∃m,s'.heap.Ns C m)->H' C=none->C≠X.env.locals->X.s₀.heap.objs.size<=C->(∀y c,X.env.cells.lookup y=some c->c≠C)->(∀p∈X.pn++pins,p.1≠C)->Q (.ref D) H' ->
   RR (.ref D) C (.ok .next) s') {E:Value->Shared->Prop} :
  wpAny (model X.prog X.w) X.A (newList []) (λacc s3=>wpAny (model X.prog X.w) X.A (newFunctionEnv scope X.env.globals (e_ X.env scope.names []) [] X.env.qual none .none (some X.env)) (λcenv s4 =>
   codeAny (model X.prog X.w) X.A (.compStart (.ListComp elt [⟨tg,iter,ifs,0⟩] scope pos) 0 (.ref it) acc { cenv with scope:=relabel scope X.env }) (RR acc cenv.locals) s4) E s3) E s2:=by
 have fr:∀y∈scope.names,y.2=.free->∃c,X.env.cells.lookup y.1=some c:=λy hy hk=>I2.ok.has y.1 (hsc.out y hy hk)
 have sub:∀y c,(e_ X.env scope.names []).lookup y=some c->X.env.cells.lookup y=some c:=λy c e=>kh scope.names [] fr (λ_ q=>by simp at q) e
 refine wpAny_newObj_type (pO (x:=x) hsc.kind hsc.once λh1 m1 hns1 hsb1 hcl1=>?_);dsimp only at hns1 hsb1 hcl1 ⊢;have I3:Inv X pins σ (upd H2 s2.heap.objs.size (.lst [])) { s2 with heap:=s2.heap.push { cls:=.type "list",data:=.seq ([]:List Value).toArray },toks:=s2.toks }:=I2.lnew (ys:=[]) (its:=[]) .nil (Nat.zero_le _);generalize hG:s2.heap.push { cls:=.type "list",dict:=none,data:=.seq ([]:List Value).toArray }=G at hns1 hsb1 hcl1 I3 ⊢;have hC:G.objs.size=s2.heap.objs.size+1:=by rw[<- hG,Heap.size_push]
 obtain⟨W,⟨m0,w0⟩,turn⟩:=hh s2.heap.objs.size I2.fresh;have up:∀b u,G.get? b=some u->h1.get? b=some u:=hsb1;have look:∀{y:Str}{c:Addr},(i7 scope x G.objs.size++e_ X.env scope.names []).lookup y=some c->(y=x/\scope.names.lookup x=some .cell/\c=G.objs.size+1)\/(e_ X.env scope.names []).lookup y=some c:=λ{y c} e=>by
  unfold i7 at e;by_cases q:scope.names.lookup x=some .cell
  ·rw[if_pos q]at e;by_cases z:(y==x)=true
   ·rw[cons_append,lookup_cons,z]at e;exact .inl ⟨eq_of_beq z,q,(Option.some.inj e).symm⟩
   ·rw[cons_append,lookup_cons,(Bool.not_eq_true _).mp z]at e;exact .inr e
  ·rw[if_neg q]at e;exact .inr e
 have Cfr:∀{H':Hp}{s':Shared},Inv X pins σ H' s'->True:=λ_=>trivial
 have nC:(upd H2 s2.heap.objs.size (.lst [])) G.objs.size=none:=I3.hok.fresh (Nat.le_refl _);have cL:G.objs.size≠X.env.locals:=Nat.ne_of_gt I3.lt;have cS:X.s₀.heap.objs.size<=G.objs.size:=I3.sz;have cC:∀y c,X.env.cells.lookup y=some c->c≠G.objs.size:=λy c e z=>by
  obtain⟨v,q⟩:=I3.cell y c e;exact absurd (show c<G.objs.size from q.lt) (by rw[z];exact Nat.lt_irrefl _)
 have cP:∀p∈X.pn++pins,p.1≠G.objs.size:=λp hp z=>absurd (show p.1<G.objs.size from Heap.lt_size (I3.pin p hp).1) (by rw[z];exact Nat.lt_irrefl _)
 have fpl:∀b∈fp,b<s2.heap.objs.size:=λb hb=>by
  obtain⟨o,e,_⟩:=T.obj 0 _ st2 b hb;exact Heap.lt_size e
 have ok:(X.blk x (ys ++ fvs) scope { s2 with heap:=G,toks:=s2.toks } (upd H2 s2.heap.objs.size (.lst [])) G.objs.size fp).Ok:=by
  have hb:∀b∈fp,b∉frs X.stack:=λb hb z=>(mem_cons.mp (I2.stkSub b z)).elim (f2 b hb).2.1 (f2 b hb).2.2.1
  exact {
   mod:=I3.ok.mod
   kind:=by show(relabel scope X.env).kind=_;exact hsc.kind
   glob:=I3.ok.glob
   blt:=I3.ok.blt
   above:=Nat.le_refl _
   inj:=λy z c e1 e2=>by
    have lt:∀{y:Str},(e_ X.env scope.names []).lookup y=some c->c<G.objs.size:=λ{y} e=>by
     obtain⟨v,q⟩:=I3.cell y c (sub y c e);exact q.lt
    rcases look e1 with ⟨a1,_,a2⟩|a1
    ·rcases look e2 with ⟨b1,_,_⟩|b1
     ·rw[a1,b1]
     ·exact absurd (lt b1) (by rw[a2];exact Nat.not_lt.mpr (Nat.le_succ _))
    ·rcases look e2 with ⟨_,_,b2⟩|b1
     ·exact absurd (lt a1) (by rw[b2];exact Nat.not_lt.mpr (Nat.le_succ _))
     ·exact I3.ok.inj y z c (sub y c a1) (sub z c b1)
   has:=λy hy=>by
    show ∃c,(i7 scope x G.objs.size++e_ X.env scope.names []).lookup y=some c;unfold i7;rcases si hsc.cells hy with hm|⟨e,q⟩
    ·obtain⟨c,ec⟩:=ir (env:=X.env) scope.names [] (.inl hm);by_cases q:scope.names.lookup x=some .cell
     ·have z:(y==x)=false:=beq_eq_false_iff_ne.mpr (hsc.xf _ hm rfl);exact⟨c,by rw[if_pos q,cons_append,lookup_cons,z];exact ec⟩
     ·exact⟨c,by rw[if_neg q];exact ec⟩
    ·subst e;exact⟨G.objs.size+1,by rw[if_pos q,cons_append,lookup_cons,beq_self_eq_true]⟩
   cab:=λy c h e=>by
    obtain⟨h1,h2⟩:=of_decide_eq_true h;have e':(i7 scope x G.objs.size++e_ X.env scope.names []).lookup y=some c:=e;unfold i7 at e';rw[if_pos h2,h1,cons_append,lookup_cons,beq_self_eq_true]at e';rw[<- Option.some.inj e'];exact Nat.le_succ _
   hd:=I3.ok.hd
   frames:=I3.ok.frames
   stk:=.inl rfl
   exf:=λb hb'=>⟨Nat.ne_of_lt (show b<G.objs.size from Nat.lt_of_lt_of_le (fpl b hb') (by rw[hC];exact Nat.le_succ _)),λy c e=>by
    rcases look e with ⟨_,_,a⟩|a
    ·rw[a,hC];exact Nat.ne_of_gt (Nat.lt_of_lt_of_le (fpl b hb') (Nat.le_trans (Nat.le_succ _) (Nat.le_succ _)))
    ·exact(f2 b hb').2.2.2.2.1 y c (sub y c a)⟩
   bs:=I3.bs
   bsz:=Nat.le_trans I3.ok.bsz I3.sz
   noex:=λb o e hb'=>by
    have q:=(f2 b hb').2.2.2.1;rcases q with q|q
    ·exact I3.ok.noex b o e q
    ·exact absurd (Nat.lt_of_lt_of_le (Heap.lt_size e) (Nat.le_trans I3.ok.bsz q)) (Nat.lt_irrefl _)
   exfs:=hb
   funs:=I3.stack
   frf:=I3.stkFree }
 have hlen:(nQ ys.length js σ).length=(x::(ys++fvs)).length:=by
  have e:=congrArg List.length hsc.slots;simp only[length_map]at e;simp[nQ,e]
 have I4:Inv (X.blk x (ys ++ fvs) scope { s2 with heap:=G,toks:=s2.toks } (upd H2 s2.heap.objs.size (.lst [])) G.objs.size fp) [] (nQ ys.length js σ) (upd H2 s2.heap.objs.size (.lst [])) { s2 with heap:=h1,toks:=s2.toks }:=by
  refine⟨ok,rfl,I3.bare,Un.kept up,⟨_,hns1,λi y v e1 e2 e3=>?_⟩,λy c e=>?_,nC,λy c e=>(look e).elim (λ⟨_,_,a⟩=>by rw[a];exact I3.hok.fresh (Nat.le_succ _)) λa=>I3.freeC y c (sub y c a),λp hp=>by simp[Cx.blk]at hp,I3.hok.kept up,hlen⟩
  ·cases i with
   |zero=>simp[nQ]at e2
   | succ i0 =>
    have e10:(ys++fvs)[i0]?=some y:=e1;have e20:(replicate ys.length none++js.map λj=>(σ[j]?).join)[i0]?=some (some v):=by simpa[nQ] using e2
    by_cases hlt:i0<ys.length
    ·rw[getElem?_append_left (by simpa using hlt),getElem?_replicate,if_pos hlt]at e20;cases e20
    rw[getElem?_append_right (by simpa using Nat.le_of_not_lt hlt),length_replicate]at e20;rw[getElem?_append_right (Nat.le_of_not_lt hlt)]at e10;generalize i0-ys.length=i at e10 e20;have e1':fvs[i]?=some y:=e10;have hm:y∈fvs:=mem_of_getElem? e1';have hfy:=hsc.free y hm;have hmy:(y,NameKind.free)∈scope.names:=g8 hfy;have e2':(js.map λj=>(σ[j]?).join)[i]?=some (some v):=e20;rw[getElem?_map]at e2';cases ej:js[i]? with
    |none=>rw[ej]at e2';cases e2'
    | some j =>
     rw[ej]at e2';have e3':(σ[j]?).join=some v:=Option.some.inj e2';have e4:σ[j]?=some (some v):=by
      cases q:σ[j]? with
      |none=>rw[q]at e3';cases e3'
      |some z=>rw[q]at e3';exact congrArg some e3'
     have e5:X.N[j]?=some y:=by
      have q:=congrArg (λl=>l[i]?) hsc.slots;simp only[getElem?_map,ej,e1',map_some]at q;exact Option.some.inj q
     obtain⟨m,hn,hl⟩:=I3.loc;have hout:=hsc.out (y,.free) hmy rfl;obtain⟨u,ru,lk⟩:=hl j y v e5 e4 (.inr hout);refine⟨u,ru,.inr ⟨?_,?_⟩⟩
     ·show(relabel scope X.env).names.lookup y=_\/(relabel scope X.env).names.lookup y=_;exact sh (osc:=X.env.scope) hfy
     ·obtain⟨c,ec⟩:=ir (env:=X.env) scope.names [] (.inl hmy);have nx:(y==x)=false:=beq_eq_false_iff_ne.mpr (hsc.xf _ hmy rfl);refine⟨c,?_,?_⟩
      ·show(i7 scope x G.objs.size++e_ X.env scope.names []).lookup y=some c;unfold i7;split
       ·rw[cons_append,lookup_cons,nx];exact ec
       ·exact ec
      rcases lk with ⟨z,_⟩|⟨_,c',ec',q⟩
      ·have z':X.env.scope.names.lookup y=some .local:=z;rcases hout with w|w
       ·rw[show X.env.scope.names.lookup y=some .cell from w]at z';cases z'
       ·rw[show X.env.scope.names.lookup y=some .free from w]at z';cases z'
      ·have:=sub y c ec;rw[ec']at this;cases this;obtain⟨o,ho,hd⟩:=q;exact⟨o,up _ _ ho,hd⟩
  ·rcases look e with ⟨_,q,a⟩|a
   ·exact⟨none,by rw[a];exact hcl1 q⟩
   ·obtain⟨v,o,ho,hd⟩:=I3.cell y c (sub y c a);exact⟨v,o,up _ _ ho,hd⟩
 have st4:tn 0 h1:=T.keep 0 _ _ st2 λb hb o e=>up b o (by rw[<- hG];exact Heap.get?_push_of_some _ e)
 have fr4:∀b∈fp,(upd H2 s2.heap.objs.size (.lst [])) b=none:=λb hb=>by
  rw[az (Nat.ne_of_lt (fpl b hb))];exact(f2 b hb).1
 have stat:∀{H':Hp},(∀b∈fp,H' b=none)->∀b∈fp,jU (X.blk x (ys++fvs) scope { s2 with heap:=G,toks:=s2.toks } (upd H2 s2.heap.objs.size (.lst [])) G.objs.size fp) [] H' b:=λhn b hb =>
  ⟨hn b hb,(ok.exf b hb).1,ok.exfs b hb,.inl hb,(ok.exf b hb).2,λp hp=>by simp[Cx.blk]at hp⟩
 have hch:∀b∈fp,(b∈X.ex\/X.s₀.heap.objs.size<=b)/\b≠X.env.locals/\(∀x c,X.env.cells.lookup x=some c->c≠b)/\∀p∈X.pn++pins,p.1≠b:=λb hb =>
  let ⟨_,q1,_,q2,q3,q4⟩:=f2 b hb;⟨q2,q1,q3,q4⟩
 have loop:∀s5:Shared,s5={ s2 with heap:=h1,toks:=s2.toks } ->
   codeAny (model X.prog X.w) X.A (.compLoop (.ListComp elt [⟨tg,iter,ifs,0⟩] scope pos) 0 (.ref it) (.ref s2.heap.objs.size) (compEnvC scope (i7 scope x G.objs.size++e_ X.env scope.names []) G.objs.size X.env)) (RR (.ref s2.heap.objs.size) G.objs.size) s5:=by
  rintro s5 rfl;refine sk (λn s'=>∃i σ' H',Inv (X.blk x (ys++fvs) scope { s2 with heap:=G,toks:=s2.toks } (upd H2 s2.heap.objs.size (.lst [])) G.objs.size fp) [] σ' H' s'/\tn i s'.heap/\(∀b∈fp,H' b=none)/\W i n σ' H') ?_ m0 ⟨0,_,_,I4,st4,fr4,w0⟩;rintro n s6 ⟨i,σ6,H6,I6,st6,fr6,w6⟩;rcases turn i n σ6 H6 w6 with ⟨stop,qn⟩|⟨go,N,hN,step⟩
  ·refine thn (T.done (X.blk x (ys++fvs) scope { s2 with heap:=G,toks:=s2.toks } (upd H2 s2.heap.objs.size (.lst [])) G.objs.size fp) rfl rfl rfl hc i [] s6 σ6 H6 _ I6 (stat fr6) st6 stop) λr s7 ⟨hr,I7⟩=>?_
   subst hr;have I8:Inv X pins σ H6 s7:=I3.call' (ch:=fp) I7.os I7.base I7.hok I7.bare hch;obtain⟨m,hn,_⟩:=I7.loc;exact fin _ _ H6 s7 I8 ⟨m,hn⟩ I7.free cL cS cC cP qn
  ·refine thn (T.item (X.blk x (ys++fvs) scope { s2 with heap:=G,toks:=s2.toks } (upd H2 s2.heap.objs.size (.lst [])) G.objs.size fp) rfl rfl rfl hc i [] s6 σ6 H6 _ I6 (stat fr6) st6 go) λr s7 ⟨u,hr,h7⟩=>?_
   subst hr;refine thn h7 λ_ s8 ⟨x8,H8,I8,r8,y8,st8,fr8⟩=>?_
   have I8':=I8.pinned (stat fr8) (T.obj _ _ st8);refine thn (hg _ _ _ _ _ s8 σ6 H8 x8 u _ I8' r8 (step x8 H8 y8)) λ_ s9 ⟨σ9,H9,I9,q9⟩=>?_
   refine thn (ht _ _ _ _ _ s9 _ H9 _ I9 q9) λok' s10 ⟨H10,I10,q10⟩=>?_
   have again:∀{s11:Shared}{H11:Hp},Inv (X.blk x (ys++fvs) scope { s2 with heap:=G,toks:=s2.toks } (upd H2 s2.heap.objs.size (.lst [])) G.objs.size fp) ([]++jV fp s8.heap) σ9 H11 s11->N σ9 H11 ->
     ∃m,m<n/\∃i σ' H',Inv (X.blk x (ys++fvs) scope { s2 with heap:=G,toks:=s2.toks } (upd H2 s2.heap.objs.size (.lst [])) G.objs.size fp) [] σ' H' s11/\tn i s11.heap/\(∀b∈fp,H' b=none)/\W i m σ' H':=λ{s11 H11} I11 n11=>by
    obtain⟨m',hm,w11⟩:=hN _ H11 n11;refine⟨m',hm,i+1,_,H11,I11.unpinned,T.keep _ _ _ st8 λb hb o e=>(I11.pin (b,o) (mem_append_right _ (mem_append_right _ (fH hb e)))).1,λb hb=>?_,w11⟩;obtain⟨o,e,d⟩:=T.obj _ _ st8 b hb;exact(I11.pin (b,o) (mem_append_right _ (mem_append_right _ (fH hb e)))).2.1
   cases ok' with
   |false =>
    rw[if_neg (by simp)]at q10 ⊢;exact again I10 q10
   |true =>
    rw[if_pos rfl]at q10 ⊢;refine thn (he _ _ _ _ _ s10 _ H10 _ I10 q10) λy s11 ⟨yv,H11,I11,ry,ys,hys,hl,n11⟩=>?_
    refine thn (iV _ s11 _ H11 (.ref s2.heap.objs.size) [yv] (.ref s2.heap.objs.size) [y] (λ_ H12=>N σ9 H12) I11 rfl (.cons ry .nil) ⟨_,ys,yv,rfl,rfl,hys,hl,n11⟩) λ_ s12 ⟨_,H12,I12,_,n12⟩=>again I12 n12
 exact codeAny_compStart_list (loop _ rfl) (T.self _ 0 _ _ _ st4 (loop _ rfl))
theorem lQ(Y:i6 X.env.scope X.N scope x fvs js)(hc:X.calm=true)
  (ht:∀z U C fp,PF (X.blk x fvs scope z U C fp) ifs tt) (he:∀z U C fp,PE (X.blk x fvs scope z U C fp) elt te)
  {pins:List (Addr×Obj)}{σ:St}{H2:Hp}{s2:Shared}{Q:VK}{it:Addr}{fp:List Addr}{tn:Nat->Heap->Prop}{J:It}{RR:Value->Addr->Result->Shared->Prop}
  (I2:Inv X pins σ H2 s2) (T:nA X.prog X.w X.K (.Name x px) J fp it tn) (ap:tn 0 s2.heap) (f2:∀b∈fp,jU X pins H2 b)
  (hh:∀D,H2 D=none->nR J (ee js σ) H2 tt te D Q)
  (fin:∀(D C:Addr) (H':Hp) (s':Shared),Inv X pins σ H' s'->(∃m,s'.heap.Ns C m)->H' C=none->C≠X.env.locals->X.s₀.heap.objs.size<=C->(∀y c,X.env.cells.lookup y=some c->c≠C)->(∀p∈X.pn++pins,p.1≠C)->Q (.ref D) H' ->
   RR (.ref D) C (.ok .next) s') {E:Value->Shared->Prop} :
  wpAny (model X.prog X.w) X.A (newList []) (λacc s3=>wpAny (model X.prog X.w) X.A (newFunctionEnv scope X.env.globals (e_ X.env scope.names []) [] X.env.qual none .none (some X.env)) (λZ s4 =>
   codeAny (model X.prog X.w) X.A (.compStart (.ListComp elt [⟨.Name x px,iter,ifs,0⟩] scope pos) 0 (.ref it) acc { Z with scope:=relabel scope X.env }) (RR acc Z.locals) s4) E s3) E s2:=
 km (ys:=[]) Y.g hc (λz U C fp=>ij (X:=X.blk x fvs scope z U C fp) (i:=0) (x:=x) (pos:=px) Y.nd rfl (Y.once.elim (λq=>.inl (lookup_relabel_local q.1)) λq=>.inr (sj q.1)) (Y.once.elim (λq=>.inr (lookup_relabel_local q.1)) λq=>.inl (decide_eq_true ⟨rfl,q.1⟩))) ht he I2 T ap f2 (λD hD=>(hh D hD).g) fin
theorem mI(Y:i6 X.env.scope X.N scope x fvs js)(hc:X.calm=true)(hi:PI X (.Name x px) iter wi)
  (ht:∀z U C fp,PF (X.blk x fvs scope z U C fp) ifs tt) (he:∀z U C fp,PE (X.blk x fvs scope z U C fp) elt te)
  (hs:∀v,foldedSetIterable iter X.env v=pure v:=by intro _;rfl):PE X (.ListComp elt [⟨.Name x px,iter,ifs,0⟩] scope pos) (uo wi js tt te):=by
 intro pins s σ H Q I h;have fr:∀y∈scope.names,y.2=.free->∃c,X.env.cells.lookup y.1=some c:=λy hy hk=>I.ok.has y.1 (Y.out y hy hk)
 rw[eval_ListComp];refine wpAny_comprehension_free (use:=none) rfl hs (g9 fr) Y.kind Y.names (thn (hi pins s σ H _ I h) λv s1 h1=>thn h1 λa4 s2 h2=>?_);obtain⟨it,fp,tn,J,H2,e,I2,T,Z,f2,hh⟩:=h2;subst e;refine lQ (RR:=λacc C=>compPost (model X.prog X.w) X.A X.xe none (EP X pins σ Q) acc C) Y hc ht he I2 T Z f2 hh λD C H' s' I' hn nC cL cS cC cP q=>?_
 obtain⟨m,hn⟩:=hn;refine⟨m,hn,λh' sb=>⟨.ref D,H',?_,rfl,q⟩⟩;exact I'.turned (t':=s'.toks) (λb o hb e=>(sb.2 b hb).trans e) nC cL (.inr cS) cC cP
noncomputable def uq(wi:TI)(g:TG)(n:Nat)(js:List Nat)(tt:TT)(te:TE):TE:=λσ H Q=>wi σ H λJ H1=>∀D,H1 D=none->pP J g (nQ n js σ) H1 tt te D Q
theorem ur{tg:Expr}{g:TG}{ys:List Str}(Y:jG X.env.scope X.N scope x ys fvs js)(hc:X.calm=true)(hg:∀z U C fp,PG (X.blk x (ys++fvs) scope z U C fp) tg g)(hi:PI X tg iter wi)
  (ht:∀z U C fp,PF (X.blk x (ys++fvs) scope z U C fp) ifs tt) (he:∀z U C fp,PE (X.blk x (ys++fvs) scope z U C fp) elt te)
  (hs:∀v,foldedSetIterable iter X.env v=pure v:=by intro _;rfl):PE X (.ListComp elt [⟨tg,iter,ifs,0⟩] scope pos) (uq wi g ys.length js tt te):=by
 intro pins s σ H Q I h;have fr:∀y∈scope.names,y.2=.free->∃c,X.env.cells.lookup y.1=some c:=λy hy hk=>I.ok.has y.1 (Y.out y hy hk)
 rw[eval_ListComp];refine wpAny_comprehension_free (use:=none) rfl hs (g9 fr) Y.kind Y.names (thn (hi pins s σ H _ I h) λv s1 h1=>thn h1 λa5 s2 h2=>?_);obtain⟨it,fp,tn,J,H2,e,I2,T,Z,f2,hh⟩:=h2;subst e;refine km (RR:=λacc C=>compPost (model X.prog X.w) X.A X.xe none (EP X pins σ Q) acc C) Y hc hg ht he I2 T Z f2 hh λD C H' s' I' hn nC cL cS cC cP q=>?_
 obtain⟨m,hn⟩:=hn;refine⟨m,hn,λh' sb=>⟨.ref D,H',?_,rfl,q⟩⟩;exact I'.turned (t':=s'.toks) (λb o hb e=>(sb.2 b hb).trans e) nC cL (.inr cS) cC cP
theorem pQ{i:Nat}{y:Str}{py ao:Pos}(hN:X.N.Nodup)(aO:X.N[i]?=some y)(hy:Loc X.env.scope y)(Z:i6 X.env.scope X.N scope x fvs js)(hc:X.calm=true)(hi:PI X (.Name x px) iter wi)
  (ht:∀U Y C fp,PF (X.blk x fvs scope U Y C fp) ifs tt) (he:∀U Y C fp,PE (X.blk x fvs scope U Y C fp) elt te)
  (a1:swapsWith (.ListComp elt [⟨.Name x px,iter,ifs,0⟩] scope pos) (some (.Name y py)) ao.line X.env=pure true:=by rfl)
  (hs:∀v,foldedSetIterable iter X.env v=pure v:=by intro _;rfl) (hf:X.fn y=true\/X.env.scope.names.lookup y=some .local:=by first|exact .inl rfl|exact .inr rfl|assumption) :
  PS X (.Assign [.Name y py] (.ListComp elt [⟨.Name x px,iter,ifs,0⟩] scope pos) ao) (tI (uo wi js tt te) (fo i)):=by
 intro pins s σ H D I h;have fr:∀y∈scope.names,y.2=.free->∃c,X.env.cells.lookup y.1=some c:=λy hy hk=>I.ok.has y.1 (Z.out y hy hk)
 rw[exec_Assign_Name_used _ _ _ _ a1];refine wpAny_bind (wpAny_standAt (wpAny_bind ?_));show wpAny _ X.A (do let _ <- comprehension (.ListComp elt [⟨.Name x px,iter,ifs,0⟩] scope pos) scope X.env _ (newList []) false (eval iter X.env) (some (assign (.Name y py) X.env))) _ _ s;refine wpAny_bind (thn (wpAny_comprehension_free (use:=some (assign (.Name y py) X.env)) (Q:=λ_ s'=>SP X pins D .next s') rfl hs (g9 fr) Z.kind Z.names (thn (hi pins s σ H _ I h) λv s1 h1=>thn h1 λce s2 h2=>?_)) λ_ s' q=>?_)
 ·obtain⟨it,fp,tn,J,H2,e,I2,T,a2,f2,hh⟩:=h2;subst e;refine lQ (RR:=λacc C=>compPost (model X.prog X.w) X.A X.xe (some (assign (.Name y py) X.env)) (λ_ s'=>SP X pins D .next s') acc C) (Q:=λv H'=>fo i v σ H' D.nx) Z hc ht he I2 T a2 f2 hh λD' C H' s' I' hn nC cL cS cC cP q=>?_
  obtain⟨m,hn⟩:=hn;show wpAny _ _ (assign (.Name y py) X.env (.ref D')) _ _ s';refine wpAny_assign_Name (lB I' hN aO hy (v:=.ref D') rfl (λa4 a5 ⟨a,sb,ha⟩=>?_) hf);have ne:C≠a:=by
   rcases ha with z|z
   ·rw[z];exact cL
   ·exact λw=>cC y a z w.symm
  refine⟨m,hn.sameBut sb ne,λh' a6=>?_⟩;exact⟨_,H',a5.turned (t':=a4.toks) (λb o hb e=>(a6.2 b hb).trans e) nC cL (.inr cS) cC cP,q⟩
 ·exact wpAny_pure (wpAny_pure q)
end
noncomputable abbrev pR(K:PySem.W.Frag)(H:Hp):List V->List (List Int)->Prop:=Paired λx ts=>∃a,x=V.ref a/\SqT K H a (ts.map V.int)
theorem pR.len{K:PySem.W.Frag}{H:Hp}{xs:List V}{tss:List (List Int)}(h:pR K H xs tss):xs.length=tss.length:=Paired.length h
theorem aM{H:Hp}{p:Addr}(h:H p=none)(o:HO):ae H (upd H p o):=λb u q=>by rw[az (bb q h)];exact q
theorem ae.seqT{K:PySem.W.Frag}{H H':Hp}{a:Addr}{xs:List V}(e:ae H H')(h:SqT K H a xs):SqT K H' a xs:=by
 rcases h with (h|⟨o,h⟩)|h
 ·exact .inl (.inl (e _ _ h))
 ·exact .inl (.inr ⟨o,e _ _ h⟩)
 ·exact .inr h
section
variable{X:Cx}{pins:List (Addr×Obj)}{σ:St}{H:Hp}{s:Shared}
theorem Inv.laidD{h':Heap}{a:Addr}{o:HO}{t':Nat}{d':Drawn}(I:Inv X pins σ H s)(k:∀b u,s.heap.get? b=some u->h'.get? b=some u)(q:s.heap.objs.size<=a)(new:bU X.prog X.w (upd H a o) h' a o) :
  Inv X pins σ (upd H a o) { s with heap:=h',toks:=t',drawn:=d' }:=
 I.call (g':=s.gens) (d':=d') (t':=t') (ch:=[]) (Un.laid k q (I.hok.fresh q)) (I.hok.laid k q new) I.bare λ_ z=>nomatch z
theorem Inv.tupInts{a:Addr}{ns:List Int}(I:Inv X pins σ H s)(h:SqT X.K H a (ns.map V.int)):∃its:List Value,IsTup s.heap a its.toArray/\IntsAre its ns:=by
 obtain⟨its,r,p,_⟩:=I.tuple h;exact⟨its,p,d8 r⟩
theorem Inv.tupsAt(I:Inv X pins σ H s):∀{xs:List V}{us:List Value}{tss:List (List Int)},pR X.K H xs tss->ay xs us->Paired (λu ts=>∃a its,u=Value.ref a/\IsTup s.heap a its/\IntsAre its.toList ts) us tss
 | _,_,_,.nil,.nil=>.nil
 | _,_,_,.cons ⟨a,z,D⟩ t,.cons r q=>by
  obtain⟨its,p,hi⟩:=I.tupInts D;rw[z]at r;exact .cons ⟨a,its.toArray,r,p,by simpa using hi⟩ (I.tupsAt t q)
end
noncomputable def kn(P:Program)(w:World)(a:Addr)(ks:List Int):HO:=.ext λh=>St.dD P w h a ks
theorem nS{P:Program}{w:World}{H:Hp}{h:Heap}{a:Addr}{ks:List Int}(g:St.dD P w h a ks):bU P w H h a (kn P w a ks):=by
 obtain⟨o,es,ep,t,q,r⟩:=id g;exact⟨g,⟨o,q⟩,λh1 h2 z k=>z.at k⟩
theorem Inv.set{X:Cx}{pins:List (Addr×Obj)}{σ:St}{H:Hp}{s:Shared}{a:Addr}{ks:List Int}(I:Inv X pins σ H s)(h:H a=some (kn X.prog X.w a ks)):St.dD X.prog X.w s.heap a ks:=
 (show bU X.prog X.w H s.heap a (kn X.prog X.w a ks) from I.hok a _ h).1
section
variable{X:Cx}
theorem ut (hc:X.calm=true):bC X (.type "set") (λxs H Q=>∃(p:Addr) (ns:List Int),xs=[.ref p]/\(SqL X.K H p (ns.map V.int)\/SqT X.K H p (ns.map V.int))/\ns.length<=1000/\∀l:Addr,H l=none->Q (.ref l) (upd H l (kn X.prog X.w l (St.dd ns.reverse)))):=by
 intro pins s σ H xs us Q I r h;obtain⟨p,ns,rfl,z,hz,q⟩:=h;obtain⟨u,rfl,U⟩:=eP r;cases U;have J:=I.ok.hd hc;rcases z with z|z
 ·obtain⟨its,D,pl,_⟩:=I.list z;have hi:=d8 D;have Y:=hi.length;refine St.ui J pl.isList (ns:=ns) (by simpa using hi) (by simp;unfold scanBound;omega) λh' tk g kp=>?_
  exact⟨.ref s.heap.objs.size,_,I.laidD (d':=s.drawn) kp (Nat.le_refl _) (nS g),rfl,q _ (I.hok.fresh (Nat.le_refl _))⟩
 ·obtain⟨its,D,pl,_⟩:=I.tuple z;have hi:=d8 D;have Y:=hi.length;refine St.sd J (show s.heap.IsTuple p its.toArray from pl) (ns:=ns) (by simpa using hi) (by simp;unfold scanBound;omega) λh' tk g kp=>?_
  exact⟨.ref s.heap.objs.size,_,I.laidD (d':=s.drawn) kp (Nat.le_refl _) (nS g),rfl,q _ (I.hok.fresh (Nat.le_refl _))⟩
end
namespace Srt
noncomputable def sortI(l:List Int):List Int:=fU cX l
noncomputable def sortT(l:List (List Int)):List (List Int):=fU dC l
noncomputable def leT(a b:List Int):Prop:=HT.lexLt b a=false
theorem sortI_perm(l:List Int):(sortI l).Perm l:=d9 cX l
theorem sortT_perm(l:List (List Int)):(sortT l).Perm l:=d9 dC l
theorem sortI_len(l:List Int):(sortI l).length=l.length:=(sortI_perm l).length_eq
theorem sortT_rises(l:List (List Int)):(sortT l).Pairwise leT:=dy dC l
theorem sortT_id{l:List (List Int)}(h:l.Pairwise leT):sortT l=l:=nL dC h
theorem lv{a b:List Int}(p:a.Perm b):sortI a=sortI b:=lf cX p
theorem qO{a b:Int}:cX.kle a b ↔ a<=b:=by
 show decide (b<a)=false ↔ a<=b;rw[decide_eq_false_iff_not];omega
theorem sortI_rises(l:List Int):(sortI l).Pairwise (· <= ·):=(dy cX l).imp λh=>qO.mp h
theorem sortI_id{l:List Int}(h:l.Pairwise (· <= ·)):sortI l=l:=nL cX (h.imp λq=>qO.mpr q)
section
variable{P:Program}{w:World}{A:Around}{E:Value->Shared->Prop}{s:Shared}
theorem nT{ks ns:List Int}(q:ns.Perm ks)(z:ns.Pairwise (· <= ·)):ns=sortI ks:=by
 refine im cX q (z.imp λ{a b} h=>?_);show decide (b<a)=false;exact decide_eq_false (by omega)
theorem ko{x:Value}{ks:List Int}{Q:Value->Shared->Prop}(ap:ks.length<64)
  (z:∀(Y:List Value->Shared->Prop),(∀(h':Heap) (tk:Nat) (d':Drawn) (acc:List Value) (order:List Int),(∀b o,s.heap.get? b=some o->h'.get? b=some o)->order.Perm ks->IntsAre acc order->Y acc { s with heap:=h',toks:=tk,drawn:=d' }) ->
   wpAny (model P w) A.in1 (collect x) Y E s)
  (h:∀(h1 h':Heap) (tk:Nat) (d':Drawn) (out:List Value) (c:Nat),(∀b o,s.heap.get? b=some o->h1.get? b=some o)->(∀b o,h1.get? b=some o->h'.get? b=some o)->h'.get? h1.objs.size=some { cls:=.type "list",data:=.seq out.toArray c } ->
   IntsAre out (sortI ks)->Q (.ref h1.objs.size) { s with heap:=h',toks:=tk,drawn:=d' }) :
  wpAny (model P w) A (call (.builtin "sorted") [x]) Q E s:=by
 refine Calls.call_function_entry kind_sorted plain_sorted entry_sorted (args_sorted1 _) ?_;unfold Builtin.«sorted»;refine wpAny_bind (m:=checkCount "sorted" 1 1 _) (wpAny_pure ?_);refine wpAny_bind (z _ λh1 tk d1 acc order kp Z hi=>?_);have a0:acc.length=order.length:=hi.length;have a1:order.length=ks.length:=Z.length_eq;refine wpAny_bind (wpAny_newList ?_ (by rw[sizeLine_eq];omega));have q:(h1.push (seqObj "list" acc.toArray 0)).get? h1.objs.size=some (seqObj "list" acc.toArray 0):=Heap.get?_push_size _ rfl;refine wpAny_bind (wpAny_holding (wpAny_call_entry slot_list_sort ⟨_,q,rfl⟩ entry_list_sort (list_sort_tree q hi (by omega) λout a2 D J U=>⟨_,rfl,?_⟩) (args_list_sort _)));obtain⟨c,hc⟩:=sortedHeap_at (out:=out) (vs:=acc) q;refine wpAny_pure ⟨_,rfl,h h1 _ tk d1 out.toList c kp (λb o e=>?_) ?_ ?_⟩
 ·have hb:b<h1.objs.size:=Heap.lt_size e;rw[sortedHeap_old (Nat.ne_of_lt hb) (by rw[Heap.size_push];exact Nat.lt_succ_of_lt hb)];exact Heap.get?_push_of_some _ e
 ·rw[Array.toArray_toList];exact hc
 ·rw[<- nT (J.trans Z) U];exact D
theorem kq{x:Value}{vs:List Value}{tss:List (List Int)}{Q:Value->Shared->Prop}(ao:vs.length<64)(hu:A.units+2<cLine)
  (hv:Paired (λu ts=>∃a its,u=Value.ref a/\IsTup s.heap a its/\IntsAre its.toList ts) vs tss)
  (U:∀(Q':List Value->Shared->Prop),(∀(h':Heap),(∀b o,s.heap.get? b=some o->h'.get? b=some o)->Q' vs { s with heap:=h' })->wpAny (model P w) A.in1 (collect x) Q' E s)
  (h:∀(h1 h':Heap) (p:Array Nat) (c:Nat),(∀b o,s.heap.get? b=some o->h1.get? b=some o)->(∀b o,h1.get? b=some o->h'.get? b=some o)->h'.get? h1.objs.size=some { cls:=.type "list",data:=.seq (p.toList.map λi=>vs.getD i Value.none).toArray c } ->
   PB vs.length p->p.toList.map (λi=>tss.getD i [])=sortT tss->Q (.ref h1.objs.size) { s with heap:=h' }) :
  wpAny (model P w) A (call (.builtin "sorted") [x]) Q E s:=by
 have z:vs.length=tss.length:=Paired.length hv;refine Calls.call_function_entry kind_sorted plain_sorted entry_sorted (args_sorted1 _) ?_;unfold Builtin.«sorted»;refine wpAny_bind (m:=checkCount "sorted" 1 1 _) (wpAny_pure ?_);refine wpAny_bind (U _ λh1 kp=>?_);refine wpAny_bind (wpAny_newList ?_ (by rw[sizeLine_eq];omega));have D:(h1.push (seqObj "list" vs.toArray 0)).get? h1.objs.size=some (seqObj "list" vs.toArray 0):=Heap.get?_push_size _ rfl;have at_:∀(s':Shared),(∀b o,b≠h1.objs.size->(h1.push (seqObj "list" vs.toArray 0)).get? b=some o->s'.heap.get? b=some o)->∀i,i<vs.length->∃a its,vs.getD i Value.none=.ref a/\IsTup s'.heap a its/\IntsAre its.toList (tss.getD i []):=λs' k i hi=>by
  have gen:∀{us:List Value}{J:List (List Int)},Paired (λu ts=>∃a its,u=Value.ref a/\IsTup s.heap a its/\IntsAre its.toList ts) us J->∀i,i<us.length->∃a its,us.getD i Value.none=.ref a/\IsTup s.heap a its/\IntsAre its.toList (J.getD i []):=by
   intro us J Z
   induction Z with
   |nil=>intro i hi;simp at hi
   |cons q _ ih =>
    intro i hi;cases i with
    |zero=>obtain⟨a,its,e,r⟩:=q;exact⟨a,its,by simpa using e,by simpa using r⟩
    |succ i=>obtain⟨a,its,e,r⟩:=ih i (by simpa using hi);exact⟨a,its,by simpa using e,by simpa using r⟩
  obtain⟨a,its,e,⟨o,ho,r⟩,aO⟩:=gen hv i hi;have Y:=kp a o ho;exact⟨a,its,e,⟨o,k a o (Nat.ne_of_lt (Heap.lt_size Y)) (Heap.get?_push_of_some _ Y),r⟩,aO⟩
 refine wpAny_bind (wpAny_holding (wpAny_call_entry slot_list_sort ⟨_,D,rfl⟩ entry_list_sort (mF (O:=dC) (key:=λi=>tss.getD i []) D ao (λh2 s' Q' k q=>r6 h2 (λv hm=>?_) q) (λκ a0 s' i j C k hi hj q=>?_) λp Z hr=>⟨_,rfl,?_⟩) (args_list_sort _)))
 ·obtain⟨i,hi,e⟩:=getElem_of_mem hm;obtain⟨a,its,e',r1,r2⟩:=at_ s' k i hi;exact⟨a,its,_,by rw[<- e',<- e];simp[hi],r1,r2⟩
 ·obtain⟨a,its,e,r1,r2⟩:=at_ s' k i hi;obtain⟨a',its',e',a3,a4⟩:=at_ s' k j hj;rw[e,e'];exact wE a0 r1 a3 r2 a4 (show A.units+1+1<cLine from hu) q
 ·obtain⟨c,hc⟩:=sortedHeap_at (out:=(p.toList.map λi=>vs.getD i Value.none).toArray) (vs:=vs) D;have a5:PB tss.length p:=by rw[<- z];exact Z
  have a6:eR (O:=dC) (λi=>tss.getD i []) p tss.length:=by rw[<- z];exact hr
  refine wpAny_pure ⟨_,rfl,h h1 _ p c kp (λb o e=>?_) hc Z (zi (O:=dC) (d:=([]:List Int)) (xs:=tss) a5 a6)⟩;have hb:b<h1.objs.size:=Heap.lt_size e;rw[sortedHeap_old (Nat.ne_of_lt hb) (by rw[Heap.size_push];exact Nat.lt_succ_of_lt hb)];exact Heap.get?_push_of_some _ e
end
end Srt
section
variable{X:Cx}
theorem Inv.keptD{pins:List (Addr×Obj)}{σ:St}{H:Hp}{s:Shared}{h':Heap}{t':Nat}{d':Drawn}(I:Inv X pins σ H s)(k:∀b u,s.heap.get? b=some u->h'.get? b=some u):Inv X pins σ H { s with heap:=h',toks:=t',drawn:=d' }:=
 I.call (g':=s.gens) (d':=d') (t':=t') (ch:=[]) (Un.kept k) (I.hok.kept k) I.bare λ_ z=>nomatch z
theorem sn:∀{vs:List Value}{ns:List Int},IntsAre vs ns->ay (ns.map V.int) vs:=iW
noncomputable def zm(X:Cx):List V->Hp->VK->Prop:=λxs H Q=>∃(p:Addr) (ks:List Int),xs=[.ref p]/\(SqL X.K H p (ks.map V.int)\/SqT X.K H p (ks.map V.int)\/H p=some (kn X.prog X.w p ks))/\ks.length<64/\∀l:Addr,H l=none->Q (.ref l) (upd H l (.lst ((Srt.sortI ks).map V.int)))
theorem iu (hc:X.calm=true):bC X (.builtin "sorted") (zm X):=by
 intro pins s σ H xs us Q I r h;obtain⟨p,ks,rfl,z,Y,q⟩:=h;obtain⟨u,rfl,rx⟩:=eP r;cases rx;have hh:=I.ok.hd hc;refine Srt.ko (ks:=ks) Y (λQ' D=>?_) λh1 h' tk d' out c k1 k2 e hi=>?_
 ·rcases z with z|z|z
  ·obtain⟨its,U,pl,hz⟩:=I.list z;obtain⟨o,Z,J,n,hd⟩:=pl.isList;refine wpAny_collect_seq p (.inl rfl) Z J hd (λh' kp=>?_) (by have:=U.length;simp only[List.size_toArray]<;>omega);exact D h' s.toks s.drawn _ ks kp (.refl _) (by simpa using d8 U)
  ·obtain⟨its,U,pl,hz⟩:=I.tuple z;obtain⟨o,Z,J,n,hd⟩:=pl;refine wpAny_collect_seq p (.inr rfl) Z J hd (λh' kp=>?_) (by have:=U.length;simp only[List.size_toArray]<;>omega);exact D h' s.toks s.drawn _ ks kp (.refl _) (by simpa using d8 U)
  ·exact St.nP (by first|exact hh|simpa using hh) (I.set z) λh' tk d' acc order kp hp hi=>D h' tk d' acc order kp hp hi
 ·have I1:Inv X pins σ H { s with heap:=h1,toks:=tk,drawn:=d' }:=I.keptD k1;have I2:Inv X pins σ (upd H h1.objs.size (.lst ((Srt.sortI ks).map V.int))) { s with heap:=h',toks:=tk,drawn:=d' }:=
   I1.laid (t':=tk) k2 (Nat.le_refl _) (show bU X.prog X.w _ h' _ (.lst _) from⟨by rw[length_map,Srt.sortI_len,sizeLine_eq];omega,out,c,sn hi,e⟩)
  exact⟨.ref h1.objs.size,_,I2,rfl,q _ (I1.hok.fresh (Nat.le_refl _))⟩
noncomputable def zo(X:Cx):List V->Hp->VK->Prop:=λxs H Q=>∃(p:Addr) (vs:List V) (tss:List (List Int)),xs=[.ref p]/\(SqL X.K H p vs\/SqT X.K H p vs)/\pR X.K H vs tss/\tss.length<64 /\
 ∀(l:Addr) (pm:List Nat),H l=none->(∀i∈pm,i<vs.length)->pm.map (λi=>tss.getD i [])=Srt.sortT tss->Q (.ref l) (upd H l (.lst (pm.map λi=>vs.getD i .non)))
theorem lR{vs:List V}{us:List Value}(h:ay vs us):∀(l:List Nat),(∀i∈l,i<vs.length)->ay (l.map λi=>vs.getD i .non) (l.map λi=>us.getD i Value.none)
 | [],_=>.nil
 |i::l,q=>by
  have hi:=q i (.head _);obtain⟨u,z,D⟩:=h.get (i:=i) (x:=vs[i]) (getElem?_eq_getElem hi);refine .cons ?_ (lR h l λj J=>q j (.tail _ J));have U:vs.getD i .non=vs[i]:=by simp[hi]
  have Y:us.getD i Value.none=u:=by rw[getD_eq_getElem?_getD,z];rfl
  show aA (vs.getD i V.non) (us.getD i Value.none);rw[U,Y];exact D
theorem mJ (hu:X.A.units+64<cLine):bC X (.builtin "sorted") (zo X):=by
 intro pins s σ H xs us Q I r h;obtain⟨p,vs,tss,rfl,U,ht,a2,q⟩:=h;obtain⟨u,rfl,rx⟩:=eP r;cases rx;have key:∀(its:List Value),ay vs its->vs.length<=sizeLine->(∀(Q':List Value->Shared->Prop),(∀(h':Heap),(∀b o,s.heap.get? b=some o->h'.get? b=some o)->Q' its { s with heap:=h' })->wpAny (model X.prog X.w) X.A.in1 (collect (.ref p)) Q' X.xe s) ->
   wpAny (model X.prog X.w) X.A (call (.builtin "sorted") [.ref p]) (EP X pins σ Q) X.xe s:=λits z hz Y=>by
  have hl:=z.length;have a4:=ht.len;refine Srt.kq (vs:=its) (tss:=tss) (by omega) (by omega) (I.tupsAt ht z) Y λh1 h' pm c k1 k2 e hp Z=>?_
  have ao:∀i∈pm.toList,i<vs.length:=λi hi=>by
   have:=(Array.perm_iff_toList_perm.mp hp).mem_iff.mp hi;have:=mem_range.mp (by simpa using this);omega
  have I1:Inv X pins σ H { s with heap:=h1 }:=I.kept (t':=s.toks) k1;have I2:Inv X pins σ (upd H h1.objs.size (.lst (pm.toList.map λi=>vs.getD i .non))) { s with heap:=h' }:=
   I1.laid (t':=s.toks) k2 (Nat.le_refl _) (show bU X.prog X.w _ h' _ (.lst _) from⟨by have:=hp.size;rw[length_map,Array.length_toList,sizeLine_eq];omega,_,c,lR z _ ao,e⟩)
  exact⟨.ref h1.objs.size,_,I2,rfl,q _ pm.toList (I1.hok.fresh (Nat.le_refl _)) ao Z⟩
 rcases U with U|U
 ·obtain⟨its,z,pl,hz⟩:=I.list U;obtain⟨o,Z,D,n,hd⟩:=pl.isList;refine key its z hz λQ' J=>wpAny_collect_seq p (.inl rfl) Z D hd (λh' kp=>?_) (by have:=z.length;simp only[List.size_toArray]<;>omega)
  have:=J h' kp;simpa using this
 ·obtain⟨its,z,pl,hz⟩:=I.tuple U;obtain⟨o,Z,D,n,hd⟩:=pl;refine key its z hz λQ' J=>wpAny_collect_seq p (.inr rfl) Z D hd (λh' kp=>?_) (by have:=z.length;simp only[List.size_toArray]<;>omega)
  have:=J h' kp;simpa using this
end
end L2
namespace L2.St
open PySem PyProof.Rows List Option
structure Ez(P:Program)(w:World)(h:Heap)(a:Addr)(ks:List Int)(o:Obj)(es:Array (Int×Value))(ep:Nat)(t:SetTable):Prop where
 ho:h.get? a=some o
 ex:o.ExactSet
 hd:o.data=.set es ep t
 el:ElemsOf (intKind P w) es.toList
 pm:(es.toList.map λe=>numOf e.2).Perm ks
 nd:ks.Nodup
 bd:es.size<scanBound
 fi:t.fits es.size=true
section
variable{P:Program}{w:World}{A:Around}{E:Value->Shared->Prop}{s:Shared}
variable{a:Addr}{ks:List Int}{o:Obj}{es:Array (Int×Value)}{ep:Nat}{t:SetTable}
end
section
variable{P:Program}{w:World}{A:Around}{E:Value->Shared->Prop}{s:Shared}
end
noncomputable def lp(m:Nat):Nat->Nat×Nat->Nat×Nat
 |0,p=>p
 |t+1,p=>lp m t (SetTable.leap m p.1 p.2)
noncomputable def vals(m:Nat)(q:Array (Option Nat)):List Nat:=(range (m+1)).filterMap λj=>q.getD j none
section
variable{P:Program}{w:World}{A:Around}{E:Value->Shared->Prop}{s:Shared}
variable{a:Addr}{ks:List Int}{o:Obj}{es:Array (Int×Value)}{ep:Nat}{t:SetTable}
end
section
variable{P:Program}{w:World}{A:Around}{E:Value->Shared->Prop}{s:Shared}
variable{a:Addr}{ks:List Int}{o:Obj}{es:Array (Int×Value)}{ep:Nat}{t:SetTable}
end
section
variable{P:Program}{w:World}{A:Around}{E:Value->Shared->Prop}{s:Shared}
end
end L2.St
namespace L2
open PySem PySem.Spec PyProof.Rows List Option
section
variable{X:Cx}
end
end L2
namespace L2.En
open PySem PyProof.Rows List Option
open AutoSeq1 (wpAny_loadPart')
section
variable{P:Program}{w:World}{A:Around}{E:Value->Shared->Prop}{s:Shared}
theorem pS{it t:Addr}{i:Nat}{Q:Value->Shared->Prop}(D:s.heap.IsTupleIter it t i)
  (h:wpAny (model P w) A.in1 (Builtin.«tuple_iterator.__next__» ⟨[.ref it],[]⟩) (λfin s'=>∃v,fin=.done (.ret v)/\Q v s') E s):wpAny (model P w) A (Builtin.SmallTypes.nextOf (.ref it)) Q E s:=by
 unfold Builtin.SmallTypes.nextOf;refine wpAny_bind (wpAny_callSpecial?_slot (name:=Str.ofString "__next__") D.typeIs F.slot_tuple_iterator_next ?_);refine wpAny_call_entry F.slot_tuple_iterator_next D.typeIs F.entry_tuple_iterator_next ?_ (F.args_tuple_iterator_next_1 _);refine wpAny_mono h (λfin s' J=>?_) λ_ _ z=>z
 obtain⟨v,rfl,q⟩:=J;exact⟨v,rfl,wpAny_pure q⟩
theorem BI {α:Type}{Q:α->Shared->Prop} (z:A.handled=none) (h:∀h' e,(∀b o,s.heap.get? b=some o->h'.get? b=some o)->(∃o,h'.get? e=some o/\o.cls=.type "StopIteration")->E (.ref e) { s with heap:=h' }) :
  wpAny (model P w) A (Builtin.SmallTypes.stopIteration:Sem α) Q E s:=by
 unfold Builtin.SmallTypes.stopIteration newExc;obtain⟨D,g,d,tk,os⟩:=s
 wp_walk
 exact wpAny_raiseNew_none z (h _ _ (λb o q=>Heap.get?_push_of_some _ (Heap.get?_push_of_some _ q)) ⟨_,Heap.get?_push_size _ rfl,rfl⟩)
theorem next_item{it t:Addr}{i:Nat}{items:Array Value}{Q:Value->Shared->Prop}(J:A.handled=none)(z:s.heap.IsTupleIter it t i)(U:s.heap.IsTuple t items)
  (Y:∀x h',items[i]?=some x->h'.IsTupleIter it t (i+1)->Heap.SameBut it s.heap h'->Q x { s with heap:=h' })
  (Z:∀h' e,items[i]?=none->Heap.ExtBut it s.heap h'->(∃o,h'.get? e=some o/\o.cls=.type "StopIteration")->E (.ref e) { s with heap:=h' }):wpAny (model P w) A (Builtin.SmallTypes.nextOf (.ref it)) Q E s:=by
 refine pS z ?_;obtain⟨⟨c1,d1,t1,l1⟩,h1,e1,e2⟩:=z;obtain⟨⟨c2,d2,t2,l2⟩,h2,e3,n2,e4⟩:=U;cases e1;cases e2;cases e3;cases e4;obtain⟨D,g,d,tk,os⟩:=s;unfold Builtin.«tuple_iterator.__next__»
 wp_walk using wpAny_loadPart' h1,wpAny_loadPart' h2
 have self:∀(k:Nat) (v:Value),(D.update it (Obj.mapFields (·.setIfInBounds k v))).get? it=some { cls:=.type "tuple_iterator",dict:=d1,data:=.fields ((#[.ref t,.int (i:Int) 0]:Array Value).setIfInBounds k v),slots:=l1 }:=λk v=>Heap.get?_update_self _ h1 rfl
 rw[Int.toNat_natCast];cases hx:items[i]? with
 |some x =>
  refine wpAny_bind (wpAny_setField h1 rfl (by simp) (wpAny_pure ⟨x,rfl,Y x _ hx ⟨_,self 1 _,rfl,?_⟩ (Heap.SameBut.update ..)⟩));simp[rawInt]
 |none =>
  refine wpAny_bind (wpAny_rule (wpAny_bind (wpAny_setField h1 rfl (by simp) (BI (by simpa using J) λh' e k st=>?_))));exact Z h' e hx (λb o hb q=>k b o ((Heap.SameBut.update D it _).extBut b o hb q)) st
end
end L2.En
namespace L2.Dv
open PySem PyProof.Rows List Option
open AutoSeq1 (wpAny_loadPart')
section
variable{P:Program}{w:World}{A:Around}{E:Value->Shared->Prop}{s:Shared}
end
end L2.Dv
namespace HT
open PySem PyProof.Rows List Option
section
variable{prog:Program}{w:World}{A:Around}{E:Value->Shared->Prop}{s:Shared}
theorem getItem_tuple_whole{t z:Addr}{items:Array Value}{Y Z:Value}{lo hi:Option Int}{Q:Value->Shared->Prop}(q:IsTup s.heap t items)(hs:s.heap.IsSliceOf z Y Z .none)(pl:IsPart Y lo)(pu:IsPart Z hi)
  (h0:sIx items.size 0 lo=0) (h1:sIx items.size items.size hi=items.size) (h:Q (.ref t) s):wpAny (model prog w) A (getItem (.ref t) (.ref z)) Q E s:=by
 have D:s.TypeIs (.ref z) "slice":=by obtain⟨os,J,U,_⟩:=hs;exact⟨os,J,U⟩
 unfold getItem
 try with_reducible refine wpAny_holding ?_
 first|refine wpAny_bind (wpAny_pure ?_)|skip
 refine wpAny_bind (wpAny_sequenceKey q.typeIs (by decide) ?_);refine wpAny_bind (wpAny_callSpecial?_slot (name:=Str.ofString "__getitem__") q.typeIs PyProof.Rows.slot_tuple_getitem
  (wpAny_call_entry PyProof.Rows.slot_tuple_getitem q.typeIs entry_tuple_getitem ?_ (args_tuple_getitem _ _)))
 show wpAny _ _ (Builtin.Tuple.tupleItemsOf (.ref t) >>= _) _ _ s;refine wpAny_bind (tupleItemsOf_ q ?_);refine wpAny_bind (wpAny_typeOf D ?_);rw[if_pos (by decide)];refine wpAny_bind (fu hs pl pu ?_);show wpAny _ _ (if (((sIx items.size 0 lo:Nat):Int)==0&&(1:Int)==1&&(sIx items.size items.size hi-sIx items.size 0 lo)==items.size)=true then _ else _) _ _ s;rw[h0,h1,if_pos (by simp)];unfold Builtin.Tuple.tupleIsExact;refine wpAny_bind (wpAny_bind (wpAny_typeOf q.typeIs (wpAny_pure ?_)));rw[if_pos (by decide)];refine wpAny_bind (wpAny_rule ?_);exact wpAny_pure ⟨_,rfl,wpAny_pure h⟩
end
end HT
namespace L2
open PySem PySem.Spec PyProof.Rows List Option
section
variable{X:Cx}
theorem wJ:SlR X (λx lo hi H Q=>∃a xs,x=.ref a/\SqT X.K H a xs/\HT.sIx xs.length 0 lo=0/\HT.sIx xs.length xs.length hi=xs.length/\Q (.ref a) H):=by
 intro pins s σ H x v Z vu lo hi sl Q I J U pl Y h;obtain⟨a,xs,rfl,hx,h0,h1,q⟩:=h;cases J;obtain⟨its,r,D,hz⟩:=I.tuple hx;have z:its.toArray.size=xs.length:=by rw[List.size_toArray];exact r.length.symm
 refine⟨"tuple",_,PyProof.Rows.slot_tuple_getitem.lookup,D.typeIs,?_⟩;exact HT.getItem_tuple_whole D U pl Y (by rw[z];exact h0) (by rw[z];exact h1) ⟨.ref a,H,I,rfl,q⟩
end
end L2
namespace L2.Rv
open PySem PyProof.Rows List Option
section
variable{P:Program}{w:World}{A:Around}{E:Value->Shared->Prop}{s:Shared}
theorem zp:typeLookup (.type "list_reverseiterator") "__len__"=pure none:=by rw[typeLookup_type,builtinLookup_eq_fast];kernel_rfl
theorem uu:typeLookup (.type "list_reverseiterator") "__length_hint__"=pure (some (.builtin "list_reverseiterator.__length_hint__")):=by rw[typeLookup_type,builtinLookup_eq_fast];kernel_rfl
theorem uv {it:Addr}{Q:Bool->Shared->Prop} (D:s.TypeIs (.ref it) "list_reverseiterator") (h:Q false s):wpAny (model P w) A (Builtin.List.listLengthHint (.ref it)) Q E s:=by
 unfold Builtin.List.listLengthHint;refine wpAny_bind (wpAny_specialOf D zp ?_);refine wpAny_ite_split (λq=>absurd q (by decide)) (λ_=>?_);refine wpAny_ite_split (λq=>absurd q (by decide)) (λ_=>?_);refine wpAny_bind (wpAny_specialOf D uu ?_);generalize z:("list_reverseiterator.__length_hint__":String)=J
 wp_delta
 rw[show splitId J=some ("list_reverseiterator","__length_hint__") from by subst z;decide +kernel];subst z;refine wpAny_bind (wpAny_isInstance (T:="list_reverseiterator") (b:=true) D (by rw[isSubtype_type];kernel_rfl) ?_);refine wpAny_ite_split (λq=>absurd q (by decide)) (λ_=>?_);refine wpAny_ite_split (λ_=>?_) (λq=>absurd (by decide +kernel) q);refine wpAny_ite_split (λq=>absurd q (by decide +kernel)) (λ_=>?_);exact wpAny_pure h
noncomputable def Drawn(items:Array Value)(i:Nat)(v:Value):Prop:=items[items.size-1-i]?=some v
theorem pT{R:Result->Shared->Prop}{it l S:Addr}{items:Array Value}(hh:A.handled=none)(U:l≠it)(q:s.heap.IsRevIter it l ((items.size:Int)-1))(hl:s.heap.IsList l items)(hn:items.size<=sizeLine)(D:S≠it)(Y:S≠l)(res:Value)
  (hS:s.heap.get? S=some { cls:=.type "list",data:=.seq #[] })
  (hR:∀h' tk acc c,(∀b o,b≠S->b≠it->s.heap.get? b=some o->h'.get? b=some o)->h'.get? S=some { cls:=.type "list",dict:=none,data:=.seq acc c,slots:=#[] }->ItemsOf (Drawn items) acc items.size->R (.ok (.ret res)) { s with heap:=h',toks:=tk }) :
  wpAny (model P w) A.in1 (Builtin.List.listExtendWith (.ref S) (.ref it) res)
   (λfin s'=>match fin with|.done f=>R (.ok f) s'|.again c'=>c'.quiet=true/\codeAny (model P w) A c' R s') (λe s'=>R (.error e) s') s:=by
 have hT:=q.typeIs;have W:=Walks.listRev (prog:=P) (w:=w) (A:=A.in1) (by simpa using hh) it l U items;have Z:S∉[it,l]:=by simp[D,Y]
 unfold Builtin.List.listExtendWith;refine wpAny_bind (wpAny_typeOf hT ?_);have h1:Builtin.List.listSameRef (.ref S) (.ref it)=false:=by simp[Builtin.List.listSameRef,D]
 rw[if_neg (by rw[h1];decide)];refine wpAny_bind (wpAny_pyIter_revIter q ?_);refine wpAny_bind (wpAny_holding (uv hT ?_));refine wpAny_ite_split (λao=>absurd ao (by decide)) (λ_=>?_);refine wpAny_pure ⟨plainId_quiet PySem.F.plain_extend_loop _,?_⟩;refine codeAny_extend_loopS W.toS hn S Z res items.size 0 s #[] 0 rfl (Nat.zero_le _) ⟨Nat.zero_le _,by simpa using q,hl⟩ hS (ItemsOf.nil _) λs' acc c hm ap J=>?_
 rw[Moved.eq_with hm];refine hR s'.heap s'.toks acc c (λb o hb aO e=>hm.heap b o (λz=>?_) e) ap J;rcases mem_cons.mp z with z|z
 ·exact hb z
 ·exact aO (mem_singleton.mp z)
end
end L2.Rv
namespace L2
open PySem PySem.Spec PyProof.Rows List Option
section
variable{X:Cx}
theorem pU{its:List Value}{acc:Array Value}(h:ItemsOf (Rv.Drawn its.toArray) acc its.toArray.size):acc.toList=its.reverse:=by
 have q:acc.size=its.length:=by rw[h.1,List.size_toArray]
 refine ext_getElem? λi=>?_
 rw[Array.getElem?_toList];by_cases hi:i<its.length
 ·cases e:acc[i]? with
  |none=>rw[Array.getElem?_eq_none_iff]at e;omega
  |some v =>
   have:=h.2 i v e;unfold Rv.Drawn at this;rw[List.size_toArray,getElem?_toArray]at this;rw[getElem?_reverse hi,<- this]
 ·rw[Array.getElem?_eq_none (by omega),getElem?_eq_none (by rw[length_reverse];omega)]
end
end L2
namespace L2.Rg
open PySem PyProof.Rows List Option
section
variable{P:Program}{w:World}{A:Around}{E:Value->Shared->Prop}{s:Shared}
end
end L2.Rg
namespace L2
open PySem PySem.Spec PyProof.Rows List Option
section
variable{X:Cx}
end
end L2
namespace L2.Rv
open PySem PyProof.Rows List Option
open AutoSeq1 (wpAny_loadPart')
section
variable{P:Program}{w:World}{A:Around}{E:Value->Shared->Prop}{s:Shared}
theorem list_rev{Q:Value->Shared->Prop}{it l:Addr}{items:Array Value}(hh:A.handled=none)(D:l≠it)(z:s.heap.IsRevIter it l ((items.size:Int)-1))(Z:s.heap.IsList l items)(hn:items.size<=sizeLine)
  (h:∀(h':Heap) (tk:Nat) (acc:Array Value) (c:Nat),(∀b o,b≠it->s.heap.get? b=some o->h'.get? b=some o)->h'.get? s.heap.objs.size=some { cls:=.type "list",dict:=none,data:=.seq acc c,slots:=#[] }->ItemsOf (Drawn items) acc items.size->Q (.ref s.heap.objs.size) { s with heap:=h',toks:=tk }) :
  wpAny (model P w) A (call (.type "list") [.ref it]) Q E s:=by
 have li:it<s.heap.objs.size:=by obtain⟨o,J,_⟩:=z;exact Heap.lt_size J
 have ll:l<s.heap.objs.size:=by obtain⟨o,J,_⟩:=Z;exact Heap.lt_size J
 refine callType_codes F.called_list (F.typeCall_list_1 _) F.entry_list_init (code_list_new (.ref it) (Q₁:=λobj s1=>obj=.ref s.heap.objs.size/\s1={ s with heap:=s.heap.push { cls:=.type "list",data:=.seq #[] } }) ⟨rfl,rfl⟩) λobj s1 h1=>?_
 obtain⟨rfl,rfl⟩:=h1;have U:(s.heap.push { cls:=.type "list",data:=.seq #[] }).get? s.heap.objs.size=some { cls:=.type "list",data:=.seq #[] }:=Heap.get?_push_size _ rfl;refine⟨⟨_,U,rfl⟩,F.args_list_init_2 _ _,?_⟩;unfold Builtin.«list.__init__»;generalize hX:Builtin.List.listExtendWith=X
 wp_walk using wpAny_loadPart' U
 subst hX;have g1:((s.heap.push { cls:=.type "list",data:=.seq #[] }).update s.heap.objs.size (Obj.mapSeq λ_=>#[])).get? s.heap.objs.size=some { cls:=.type "list",data:=.seq #[] }:=Heap.get?_update_self _ U rfl;have kp:∀b o,b≠s.heap.objs.size->s.heap.get? b=some o->((s.heap.push { cls:=.type "list",data:=.seq #[] }).update s.heap.objs.size (Obj.mapSeq λ_=>#[])).get? b=some o:=λb o Y e=>(Heap.SameBut.update ..).extBut b o Y (Heap.get?_push_of_some _ e)
 refine pT (A:=A.in1) (by simpa using hh) D (z.at λo e=>kp _ o (Nat.ne_of_lt li) e) (Z.at λo e=>kp _ o (Nat.ne_of_lt ll) e) hn (Nat.ne_of_gt li) (Nat.ne_of_gt ll) .none g1 λh' tk acc c k e i=>?_
 exact⟨rfl,h h' tk acc c (λb o Y q=>k b o (Nat.ne_of_lt (Heap.lt_size q)) Y (kp b o (Nat.ne_of_lt (Heap.lt_size q)) q)) e i⟩
end
end L2.Rv
namespace L2
open PySem PySem.Spec PyProof.Rows List Option
section
variable{X:Cx}
theorem pV {l:Expr}{tl:TE}{p p2 pos pos2:Pos} (hc:X.calm=true) (hg:Gl X "list") (hm:X.mg "list"=none) (hv:bootBuiltins "list"=some (.type "list")) (hg2:Gl X "reversed") (hm2:X.mg "reversed"=none) (hl:PE X l tl) (hs:starEach [l] X.env=[(false,eval l X.env)]:=by rfl) :
  PE X (.Call (.Name "list" p) [.Call (.Name "reversed" p2) [l] [] pos2] [] pos) (λσ H Q=>tl σ H λx H1=>∃a xs,x=.ref a/\SqL X.K H1 a xs/\∀q,H1 q=none->Q (.ref q) (upd H1 q (.lst xs.reverse))):=by
 intro pins s σ H Q I h;refine wpAny_Call_Name_kw (fY I hg hm hv ?_);refine PyProof.Rows.callWith_type1 (Calls.spliced_cons ?_) rfl rfl;refine wpAny_Call_Name_kw (fY I hg2 hm2 PyProof.Rows.boot_reversed ?_);refine PyProof.Rows.callWith_type1 (thn (aI hl bD hs pos2 pins s σ H (λvs H1=>match vs with|[x]=>∃a xs,x=.ref a/\SqL X.K H1 a xs/\∀q,H1 q=none->Q (.ref q) (upd H1 q (.lst xs.reverse))|_=>False) I h) λus s1 ⟨vs,H1,I1,r1,q1⟩=>?_) hs rfl;cases r1 with
 |nil=>exact q1.elim
 | cons r rr =>
  cases rr with
  |cons _ _=>exact q1.elim
  | nil =>
   obtain⟨a,xs,e,hq,q⟩:=q1;subst e;cases r;obtain⟨its,rv,pl,hz⟩:=I1.list hq;have la:a<s1.heap.objs.size:=by obtain⟨o,ho,_⟩:=pl.isList;exact Heap.lt_size ho
   have hlen:its.toArray.size=xs.length:=by rw[List.size_toArray];exact rv.length.symm
   refine call_reversed_list pl.isList (Calls.spliced_nil ?_);generalize hro:revObj a ((its.toArray.size:Int)-1)=ro;have gro:(s1.heap.push ro).get? s1.heap.objs.size=some ro:=Heap.get?_push_size _ (by rw[<- hro];rfl);have I2:Inv X pins σ H1 { s1 with heap:=s1.heap.push ro }:=I1.kept (t':=s1.toks) λb o e=>Heap.get?_push_of_some _ e
   have hn:H1 s1.heap.objs.size=none:=I1.hok.fresh (Nat.le_refl _);obtain⟨_,f1,_,f3,f4,f5⟩:=I1.fpOk (Nat.le_refl _) hn;refine Rv.list_rev (s:={ s1 with heap:=s1.heap.push ro }) (it:=s1.heap.objs.size) (l:=a) (items:=its.toArray) (I1.ok.hd hc) (Nat.ne_of_lt la) ⟨_,gro,by rw[<- hro];rfl,by rw[<- hro];rfl⟩ (pl.isList.at λo e=>Heap.get?_push_of_some _ e) (by rw[hlen];exact hz) λh' tk acc c k e it=>?_
   have z:(s1.heap.push ro).objs.size=s1.heap.objs.size+1:=Heap.size_push ..;have ne:(s1.heap.push ro).objs.size≠s1.heap.objs.size:=by omega
   have g2:((s1.heap.push ro).push { cls:=.type "list",data:=.seq acc c }).get? (s1.heap.push ro).objs.size=some { cls:=.type "list",data:=.seq acc c }:=Heap.get?_push_size _ rfl;have I3:Inv X pins σ (upd H1 (s1.heap.push ro).objs.size (.lst xs.reverse)) { s1 with heap:=(s1.heap.push ro).push { cls:=.type "list",data:=.seq acc c },toks:=s1.toks }:=I2.laid (λb o e=>Heap.get?_push_of_some _ e) (Nat.le_refl _) ⟨by rw[length_reverse];exact hz,acc.toList,c,by rw[pU it];exact rv.reverse,by rw[Array.toArray_toList];exact g2⟩;have hn2:H1 (s1.heap.push ro).objs.size=none:=I1.hok.fresh (by omega);have I4:=I3.turned (t':=tk) (it:=s1.heap.objs.size) (h':=h') (λb o hb e1=>by
    by_cases eb:b=(s1.heap.push ro).objs.size
    ·subst eb;have e1:((s1.heap.push ro).push { cls:=.type "list",data:=.seq acc c }).get? (s1.heap.push ro).objs.size=some o:=e1;rw[g2]at e1;cases e1;exact e
    ·refine k b o hb ?_;have e1:((s1.heap.push ro).push { cls:=.type "list",data:=.seq acc c }).get? b=some o:=e1;show(s1.heap.push ro).get? b=some o;rw[<- Heap.get?_push_ne _ _ _ eb];exact e1) (by rw[az ne.symm];exact hn) f1 f3 f4 f5
   exact⟨.ref (s1.heap.push ro).objs.size,_,I4,rfl,q _ hn2⟩
theorem uA:bC X (.type "str") (λus H Q=>∃i:Int,us=[.int i]/\i.natAbs<2 ^ 64/\Q (.str (Str.ofString (toString i))) H):=by
 intro pins s σ H xs us Q I r h;obtain⟨i,rfl,hi,q⟩:=h;obtain⟨u,rfl,D⟩:=eP r;obtain⟨t,rfl⟩:=D;refine PySem.P.str_of_int ?_ ⟨.str _,H,I.tok _,⟨s.toks,rfl⟩,q⟩;by_cases z:i.natAbs=0
 ·rw[z];decide
 ·have:=(Nat.log2_lt z (k:=64)).mpr hi;omega
noncomputable def BJ(K:PySem.W.Frag):V->List V->Hp->VK->Prop:=λx vs H Q=>∃q a ws,x=.str q/\vs=[.ref a]/\SqL K H a (ws.map V.str)/\(ws.map λy=>y.length+q.length).sum<=1000000/\Q (.str (Builtin.Str.glued q ws)) H
theorem nU:∀{ws:List Str}{its:List Value},ay (ws.map V.str) its->∃l:List (Str×Tok),its=strValues l/\l.map (·.1)=ws
 | [],_,h=>by cases h;exact⟨[],rfl,rfl⟩
 | y::ws,_,h=>by
  cases h with
  |cons r t =>
   obtain⟨tk,rfl⟩:=r;obtain⟨l,rfl,e⟩:=nU t;exact⟨(y,tk)::l,rfl,by rw[map_cons,e]⟩
theorem nV(g:Array Nat):∀(ps:List Str) (a:Array Nat),(ps.foldl (λacc (p:Str)=>acc++g++p.cps) a).size=a.size+(ps.map λp=>p.length+g.size).sum
 | [],a=>by simp
 |p::ps,a=>by
  rw[foldl_cons,nV g ps,map_cons,sum_cons,Array.size_append,Array.size_append];show a.size+g.size+p.cps.size+_=a.size+(p.cps.size+g.size+_);omega
theorem nW(q:Str):∀(ws:List Str),(Builtin.Str.glued q ws).length<=(ws.map λy=>y.length+q.length).sum
 | []=>Nat.zero_le _
 |w::ws=>by
  show(ws.foldl (λacc (p:Str)=>acc++q.cps++p.cps) w.cps).size<=_;rw[nV,map_cons,sum_cons];show w.cps.size+_<=w.cps.size+q.cps.size+(ws.map λy=>y.length+q.cps.size).sum;omega
theorem nX(q:Str):∀(ws:List Str) (n:Nat),ws.foldl (λz D=>z+D.length+q.length) n=n+(ws.map λy=>y.length+q.length).sum
 | [],n=>rfl
 |w::ws,n=>by
  rw[foldl_cons,nX q ws,map_cons,sum_cons];omega
theorem wK:MtM X "str.join" (BJ X.K):=by
 intro pins s σ H x vs v us Q I J U h;obtain⟨z,a,ws,rfl,rfl,Y,hz,q⟩:=h;obtain⟨t,rfl⟩:=J;obtain⟨u,rfl,Z⟩:=U.one;cases Z;obtain⟨its,r,pl,_⟩:=I.list Y;obtain⟨l,rfl,rfl⟩:=nU r;have ao:1000000<=sizeLine:=by rw[sizeLine_eq];decide
 have D:=nW z (l.map (·.1));refine call_meets F.slot_str_join rfl F.entry_str_join (F.args_str_join_2 _ _) (meets_str_join_list z t a l ?_) ⟨pl.isList,?_⟩
 ·unfold Builtin.Str.tooLong;rw[List.foldl_toArray,nX];refine decide_eq_false ?_;omega
 ·have gen:(Made.str (Builtin.Str.glued z (l.map (·.1)))).post (λv s'=>wants (EP X pins σ Q) X.xe (Except.ok (Flow.ret v)) s') s:=by
   simp only[Made.post];exact⟨by omega,⟨.str _,H,I.tok _,⟨s.toks,rfl⟩,q⟩⟩
  match l,q,gen with
  | [],_,gen=>exact gen
  | [p],q,_ =>
   show wants (EP X pins σ Q) X.xe (Except.ok (Flow.ret (Value.str p.1 p.2))) s;exact⟨.str p.1,H,I,⟨p.2,rfl⟩,q⟩
  | _::_::_,_,gen=>exact gen
end
end L2
namespace L2.Zp
open PySem PyProof.Rows List Option
open AutoSeq1 (wpAny_loadPart')
section
variable{P:Program}{w:World}{A:Around}{E:Value->Shared->Prop}{s:Shared}
structure Apart(z TI TO i1 i2 l1 l2:Addr):Prop where
 zTI:z≠TI
 zTO:z≠TO
 zi1:z≠i1
 zi2:z≠i2
 TITO:TI≠TO
 TIi1:TI≠i1
 TIi2:TI≠i2
 TOi1:TO≠i1
 TOi2:TO≠i2
 i12:i1≠i2
 l1z:l1≠z
 l1TO:l1≠TO
 l1i1:l1≠i1
 l1i2:l1≠i2
 l2z:l2≠z
 l2TO:l2≠TO
 l2i1:l2≠i1
 l2i2:l2≠i2
set_option maxHeartbeats 2000000 in
theorem uB{z TI TO Y Z l1 l2:Addr}{k:Nat}{xs ys:Array Value}{x y a b:Value}{Q:Value->Shared->Prop}(hh:A.handled=none)(D:Apart z TI TO Y Z l1 l2)(hz:IsZip s.heap z TI TO .none)(hI:IsPair s.heap TI (.ref Y) (.ref Z))(hO:IsPair s.heap TO a b)
  (h1:s.heap.IsTupleIter Y l1 k) (h2:s.heap.IsTupleIter Z l2 k) (t1:s.heap.IsTuple l1 xs) (t2:s.heap.IsTuple l2 ys) (e1:xs[k]?=some x) (e2:ys[k]?=some y)
  (hQ:∀h',IsZip h' z TI TO (rawInt s.heap.objs.size)->IsPair h' TO x y->h'.IsTupleIter Y l1 (k+1)->h'.IsTupleIter Z l2 (k+1)->IsPair h' s.heap.objs.size x y->h'.objs.size=s.heap.objs.size+1->(∀c o,c≠z->c≠TO->c≠Y->c≠Z->s.heap.get? c=some o->h'.get? c=some o)->Q (.ref s.heap.objs.size) { s with heap:=h' }) :
  wpAny (model P w) A (Builtin.«zip.__next__» ⟨[.ref z],[]⟩) (λfin s'=>∃v,fin=.done (.ret v)/\Q v s') E s:=by
 unfold Builtin.«zip.__next__»
 wp_walk using wpAny_loadPart' hz,wpAny_loadPart' hI
 generalize hA:s.heap.update z (Obj.mapFields λx=>x.setIfInBounds 0 Value.ellipsis)=U;have z1:U.get? z=some { cls:=.type "zip",data:=.fields #[.ellipsis,.bool false,.bool false,.ref TI,.ref TO] }:=by
  rw[<- hA];exact Heap.get?_update_self _ hz rfl
 have o1:∀b,b≠z->U.get? b=s.heap.get? b:=λb hb=>by
  rw[<- hA];exact(Heap.SameBut.update s.heap z _).2 b hb
 have n1:U.objs.size=s.heap.objs.size:=by
  rw[<- hA];exact(Heap.SameBut.update s.heap z _).1
 have cL:U.IsTupleIter Y l1 k:=h1.at λo e=>(o1 Y D.zi1.symm).trans e
 have cP:U.IsTupleIter Z l2 k:=h2.at λo e=>(o1 Z D.zi2.symm).trans e
 have cS:U.IsTuple l1 xs:=t1.at λo e=>(o1 l1 D.l1z).trans e
 have df:U.IsTuple l2 ys:=t2.at λo e=>(o1 l2 D.l2z).trans e
 show wpAny (model P w) A ((do let v <- Builtin.SmallTypes.nextOf (.ref Y);pure (some v)).onRaise λ_=>setField (.ref z) 0 .none) _ _ _;refine wpAny_onRaise (wpAny_bind (En.next_item (s:={ s with heap:=U }) hh cL cS (λx' ao ex dm aO=>?_) λh' e en _ _=>absurd (en.symm.trans e1) (by simp)));obtain rfl:x'=x:=Option.some.inj (ex.symm.trans e1);have ca:ao.get? TO=some { cls:=.type "tuple",data:=.seq #[a,b] }:=(aO.2 TO D.TOi1).trans ((o1 TO D.zTO.symm).trans hO);have e0:ao.get? TI=some { cls:=.type "tuple",data:=.seq #[.ref Y,.ref Z] }:=(aO.2 TI D.TIi1).trans ((o1 TI D.zTI.symm).trans hI)
 wp_walk using wpAny_loadPart' ca
 generalize hB:ao.update TO (Obj.mapSeq λv=>v.setIfInBounds 0 x')=a0;have o3:∀b,b≠TO->a0.get? b=ao.get? b:=λb hb=>by
  rw[<- hB];exact(Heap.SameBut.update ao TO _).2 b hb
 have d2:a0.get? TO=some { cls:=.type "tuple",data:=.seq #[x',b] }:=by
  rw[<- hB];exact Heap.get?_update_self _ ca rfl
 have n3:a0.objs.size=ao.objs.size:=by
  rw[<- hB];exact(Heap.SameBut.update ao TO _).1
 have ce:a0.IsTupleIter Y l1 (k+1):=dm.at λo e=>(o3 Y D.TOi1.symm).trans e
 have ck:a0.IsTupleIter Z l2 k:=cP.at λo e=>(o3 Z D.TOi2.symm).trans ((aO.2 Z D.i12.symm).trans e)
 have cl:a0.IsTuple l2 ys:=df.at λo e=>(o3 l2 D.l2TO).trans ((aO.2 l2 D.l2i1).trans e)
 show wpAny (model P w) A ((do let v <- Builtin.SmallTypes.nextOf (.ref Z);pure (some v)).onRaise λ_=>setField (.ref z) 0 .none) _ _ _;refine wpAny_onRaise (wpAny_bind (En.next_item (s:={ s with heap:=a0 }) hh ck cl (λy' a5 ey d4 a7=>?_) λh' e en _ _=>absurd (en.symm.trans e2) (by simp)));obtain rfl:y'=y:=Option.some.inj (ey.symm.trans e2);have b5:a5.get? TO=some { cls:=.type "tuple",data:=.seq #[x',b] }:=(a7.2 TO D.TOi2).trans d2;have z4:a5.get? z=some { cls:=.type "zip",data:=.fields #[.ellipsis,.bool false,.bool false,.ref TI,.ref TO] }:=(a7.2 z D.zi2).trans ((o3 z D.zTO).trans ((aO.2 z D.zi1).trans z1));have e6:(a5.update TO (Obj.mapSeq λv=>v.setIfInBounds 1 y')).get? TO=some { cls:=.type "tuple",data:=.seq #[x',y'] }:=Heap.get?_update_self _ b5 rfl
 wp_walk using wpAny_loadPart' b5
 generalize hC:a5.update TO (Obj.mapSeq λv=>v.setIfInBounds (0+1) y')=q;have o5:∀b,b≠TO->q.get? b=a5.get? b:=λb hb=>by
  rw[<- hC];exact(Heap.SameBut.update a5 TO _).2 b hb
 have ea:q.get? TO=some { cls:=.type "tuple",data:=.seq #[x',y'] }:=by
  rw[<- hC];exact Heap.get?_update_self _ b5 rfl
 have n5:q.objs.size=s.heap.objs.size:=by
  rw[<- hC];exact(Heap.SameBut.update a5 TO _).1.trans (a7.1.trans (n3.trans (aO.1.trans n1)))
 have z5:q.get? z=some { cls:=.type "zip",data:=.fields #[.ellipsis,.bool false,.bool false,.ref TI,.ref TO] }:=(o5 z D.zTO).trans z4;have eb:∀c o,c≠z->c≠TO->c≠Y->c≠Z->s.heap.get? c=some o->q.get? c=some o:=λc o a1 a2 a3 a4 e=>(o5 c a2).trans ((a7.2 c a4).trans ((o3 c a2).trans ((aO.2 c a3).trans ((o1 c a1).trans e))))
 have j1:q.IsTupleIter Y l1 (k+1):=ce.at λo e=>(o5 Y D.TOi1.symm).trans ((a7.2 Y D.i12).trans e)
 have j2:q.IsTupleIter Z l2 (k+1):=d4.at λo e=>(o5 Z D.TOi2.symm).trans e
 generalize hD:q.push { cls:=.type "tuple",data:=.seq #[x',y'].toList.toArray }=J;have k6:∀b o,q.get? b=some o->J.get? b=some o:=λb o e=>by
  rw[<- hD];exact Heap.get?_push_of_some _ e
 have t6:J.get? q.objs.size=some { cls:=.type "tuple",data:=.seq #[x',y'] }:=by
  rw[<- hD];exact Heap.get?_push_size _ rfl
 have n6:J.objs.size=s.heap.objs.size+1:=by rw[<- hD,Heap.size_push,n5]
 have z6:=k6 z _ z5;have z7:(J.update z (Obj.mapFields λv=>v.setIfInBounds 0 (rawInt q.objs.size))).get? z=some { cls:=.type "zip",data:=.fields #[rawInt q.objs.size,.bool false,.bool false,.ref TI,.ref TO] }:=Heap.get?_update_self _ z6 rfl;have zn:z≠q.objs.size:=Nat.ne_of_lt (Heap.lt_size z5)
 wp_walk using wpAny_load z6,wpAny_load z7
 have z8:((J.update z (Obj.mapFields λv=>v.setIfInBounds 0 (rawInt q.objs.size))).update z (Obj.mapFields λv=>v.setIfInBounds 1 (.bool false))).get? z=some { cls:=.type "zip",data:=.fields #[rawInt q.objs.size,.bool false,.bool false,.ref TI,.ref TO] }:=Heap.get?_update_self _ z7 rfl;have o8:∀b,b≠z->((J.update z (Obj.mapFields λv=>v.setIfInBounds 0 (rawInt q.objs.size))).update z (Obj.mapFields λv=>v.setIfInBounds 1 (.bool false))).get? b=J.get? b:=λb hb=>((Heap.SameBut.update _ z _).2 b hb).trans ((Heap.SameBut.update J z _).2 b hb)
 have n8:((J.update z (Obj.mapFields λv=>v.setIfInBounds 0 (rawInt q.objs.size))).update z (Obj.mapFields λv=>v.setIfInBounds 1 (.bool false))).objs.size=s.heap.objs.size+1:=((Heap.SameBut.update _ z _).1).trans ((Heap.SameBut.update J z _).1.trans n6);rw[n5]at z8 o8 n8 t6 zn ⊢;exact⟨_,rfl,hQ _ z8 ((o8 TO D.zTO.symm).trans (k6 _ _ ea)) (j1.at λo e=>(o8 Y D.zi1.symm).trans (k6 _ _ e)) (j2.at λo e=>(o8 Z D.zi2.symm).trans (k6 _ _ e)) ((o8 _ zn.symm).trans t6) n8 λc o a1 a2 a3 a4 e=>(o8 c a1).trans (k6 _ _ (eb c o a1 a2 a3 a4 e))⟩
set_option maxHeartbeats 2000000 in
theorem wL{z TI TO J Y U l2:Addr}{k:Nat}{xs:Array Value}{a b:Value}{Q:Fin->Shared->Prop}(hh:A.handled=none)(Z:Apart z TI TO J Y U l2)(hz:IsZip s.heap z TI TO .none)(hI:IsPair s.heap TI (.ref J) (.ref Y))(hO:IsPair s.heap TO a b)
  (h1:s.heap.IsTupleIter J U k) (t1:s.heap.IsTuple U xs) (e1:xs[k]?=none)
  (hE:∀h' e,(∀c o,c≠z->c≠TO->c≠J->c≠Y->s.heap.get? c=some o->h'.get? c=some o)->(∃o,h'.get? e=some o/\o.cls=.type "StopIteration")->E (.ref e) { s with heap:=h' }) :
  wpAny (model P w) A (Builtin.«zip.__next__» ⟨[.ref z],[]⟩) Q E s:=by
 unfold Builtin.«zip.__next__»
 wp_walk using wpAny_loadPart' hz,wpAny_loadPart' hI
 generalize hA:s.heap.update z (Obj.mapFields λx=>x.setIfInBounds 0 Value.ellipsis)=D;have z1:D.get? z=some { cls:=.type "zip",data:=.fields #[.ellipsis,.bool false,.bool false,.ref TI,.ref TO] }:=by
  rw[<- hA];exact Heap.get?_update_self _ hz rfl
 have o1:∀b,b≠z->D.get? b=s.heap.get? b:=λb hb=>by
  rw[<- hA];exact(Heap.SameBut.update s.heap z _).2 b hb
 have a0:D.IsTupleIter J U k:=h1.at λo e=>(o1 J Z.zi1.symm).trans e
 have a5:D.IsTuple U xs:=t1.at λo e=>(o1 U Z.l1z).trans e
 show wpAny (model P w) A ((do let v <- Builtin.SmallTypes.nextOf (.ref J);pure (some v)).onRaise λ_=>setField (.ref z) 0 .none) _ _ _;refine wpAny_onRaise (wpAny_bind (En.next_item (s:={ s with heap:=D }) hh a0 a5 (λx' cl ex _ _=>absurd (ex.symm.trans e1) (by simp)) λh' e _ eb st=>?_));have zz:=eb z _ Z.zi1 z1;refine wpAny_setField zz rfl (by simp) ?_;obtain⟨o,ho,hc⟩:=st;have oz:∀b,b≠z->(h'.update z (Obj.mapFields (·.setIfInBounds 0 .none))).get? b=h'.get? b:=λb hb=>(Heap.SameBut.update h' z _).2 b hb
 refine hE _ e (λc o a1 a2 a3 a4 q=>(oz c a1).trans (eb c o a3 ((o1 c a1).trans q))) ⟨o,(oz e λq=>?_).trans ho,hc⟩;rw[q,zz]at ho;cases ho;exact absurd (show Value.type "zip"=Value.type "StopIteration" from hc) (by decide)
end
end L2.Zp
namespace L2.Zp
open PySem PyProof.Rows List Option
open AutoSeq1 (wpAny_loadPart')
section
variable{P:Program}{w:World}{A:Around}{E:Value->Shared->Prop}{s:Shared}
theorem next_item{z TI TO D J U Y:Addr}{k:Nat}{xs ys:Array Value}{x y a b:Value}{Q:Option Value->Shared->Prop}(Z:A.handled=none)(ap:Apart z TI TO D J U Y)(hz:IsZip s.heap z TI TO .none)(hI:IsPair s.heap TI (.ref D) (.ref J))(hO:IsPair s.heap TO a b)
  (h1:s.heap.IsTupleIter D U k) (h2:s.heap.IsTupleIter J Y k) (t1:s.heap.IsTuple U xs) (t2:s.heap.IsTuple Y ys) (e1:xs[k]?=some x) (e2:ys[k]?=some y)
  (hQ:∀h',IsZip h' z TI TO (rawInt s.heap.objs.size)->IsPair h' TO x y->h'.IsTupleIter D U (k+1)->h'.IsTupleIter J Y (k+1)->IsPair h' s.heap.objs.size x y->h'.objs.size=s.heap.objs.size+1->(∀c o,c≠z->c≠TO->c≠D->c≠J->s.heap.get? c=some o->h'.get? c=some o)->Q (some (.ref s.heap.objs.size)) { s with heap:=h' }) :
  wpAny (model P w) A (pyNext (.ref z)) Q E s:=by
 have ty:s.TypeIs (.ref z) "zip":=⟨_,hz,rfl⟩;unfold pyNext;refine wpAny_bind (wpAny_attempt (wpAny_callSpecial?_slot (name:=Str.ofString "__next__") ty F.slot_zip_next (wpAny_call_entry F.slot_zip_next ty F.entry_zip_next ?_ (F.args_zip_next_1 _))));refine wpAny_mono (uB (A:=A.in1) (by simpa using Z) ap hz hI hO h1 h2 t1 t2 e1 e2 (Q:=λv s'=>v=.ref s.heap.objs.size/\Q (some v) s') λh' a1 a2 a3 a4 a5 a6 a7=>⟨rfl,hQ h' a1 a2 a3 a4 a5 a6 a7⟩) (λfin s' hv=>?_) λ_ _ z=>z
 obtain⟨v,rfl,_,q⟩:=hv;exact⟨v,rfl,wpAny_pure q⟩
theorem next_end{z TI TO q D J U:Addr}{k:Nat}{xs:Array Value}{a b:Value}{Q:Option Value->Shared->Prop}(Y:A.handled=none)(Z:Apart z TI TO q D J U)(hz:IsZip s.heap z TI TO .none)(hI:IsPair s.heap TI (.ref q) (.ref D))(hO:IsPair s.heap TO a b)
  (h1:s.heap.IsTupleIter q J k) (t1:s.heap.IsTuple J xs) (e1:xs[k]?=none)
  (hQ:∀h',(∀c o,c≠z->c≠TO->c≠q->c≠D->s.heap.get? c=some o->h'.get? c=some o)->Q none { s with heap:=h' }) :
  wpAny (model P w) A (pyNext (.ref z)) Q E s:=by
 have ty:s.TypeIs (.ref z) "zip":=⟨_,hz,rfl⟩;unfold pyNext;refine wpAny_bind (wpAny_attempt (wpAny_callSpecial?_slot (name:=Str.ofString "__next__") ty F.slot_zip_next (wpAny_call_entry F.slot_zip_next ty F.entry_zip_next ?_ (F.args_zip_next_1 _))));refine wL (A:=A.in1) (by simpa using Y) Z hz hI hO h1 t1 e1 λh' e k st=>?_
 refine wpAny_bind (wpAny_isInstance (T:="StopIteration") (b:=true) st isSubtype_stop ?_);exact wpAny_pure (hQ h' k)
theorem apart_new{n a b:Nat}(q:a<n)(z:b<n):Apart (n+4) (n+2) (n+3) n (n+1) a b:=by
 constructor<;>exact λe=>by simp only[Addr]at e;omega
noncomputable abbrev ob1 (l:Addr):Obj:={ cls:=.type "tuple_iterator",data:=.fields #[.ref l,.int 0 0] }
noncomputable abbrev ob2 (a b:Value):Obj:={ cls:=.type "tuple",data:=.seq #[a,b] }
noncomputable abbrev ob3 (a b:Addr):Obj:={ cls:=.type "zip",data:=.fields #[.none,.bool false,.bool false,.ref a,.ref b] }
noncomputable def H2(h:Heap)(q z:Addr):Heap:=(h.push (ob1 q)).push (ob1 z)
noncomputable def H3(h:Heap)(q z:Addr):Heap:=(H2 h q z).push (ob2 (.ref h.objs.size) (.ref (h.push (ob1 q)).objs.size))
noncomputable def H4(h:Heap)(q z:Addr):Heap:=(H3 h q z).push (ob2 .none .none)
noncomputable def H5(h:Heap)(q z:Addr):Heap:=(H4 h q z).push (ob3 (H2 h q z).objs.size (H3 h q z).objs.size)
theorem wM(q z:Addr)(xs ys:Array Value) :
  Meets (Builtin.«zip.__new__» ⟨[.type "zip",.ref q,.ref z],[]⟩) (λ_ R s=>s.heap.IsTuple q xs/\s.heap.IsTuple z ys/\R (.ok (.ret (.ref (H4 s.heap q z).objs.size))) { s with heap:=H5 s.heap q z }):=by
 refine .of_wp λP w A R s h=>?_
 obtain⟨J,g,d,tk,os⟩:=s;obtain⟨U,Y,h⟩:=h;have D:Heap.IsTuple (Shared.heap ⟨J.push { cls:=.type "tuple_iterator",data:=.fields #[.ref q,.int 0 0] },g,d,tk,os⟩) z ys:=Heap.IsTuple.at (h:=J) Y λo e=>Heap.get?_push_of_some _ e
 have sz:=sub_zip;unfold Builtin.«zip.__new__»
 wp_walk using wpAny_pyIter_tuple U,wpAny_pyIter_tuple D
 exact⟨_,rfl,h⟩
theorem call_zip{q z:Addr}{xs ys:Array Value}{Q:Value->Shared->Prop}(t1:s.heap.IsTuple q xs)(t2:s.heap.IsTuple z ys)
  (h:∀h',IsZip h' (s.heap.objs.size+4) (s.heap.objs.size+2) (s.heap.objs.size+3) .none->IsPair h' (s.heap.objs.size+2) (.ref s.heap.objs.size) (.ref (s.heap.objs.size+1))->IsPair h' (s.heap.objs.size+3) .none .none ->
   h'.IsTupleIter s.heap.objs.size q 0->h'.IsTupleIter (s.heap.objs.size+1) z 0->(∀c o,s.heap.get? c=some o->h'.get? c=some o)->Q (.ref (s.heap.objs.size+4)) { s with heap:=h' }) :
  wpAny (model P w) A (call (.type "zip") [.ref q,.ref z]) Q E s:=by
 refine callType_new F.called_zip (by decide) (F.typeCall_zip_2 _ _) (F.newCall_zip_2 _ _) (λv=>F.args_object_init_3 v _ _) F.entry_zip_new (wM q z xs ys) ⟨t1,t2,?_⟩;have n1:(s.heap.push (ob1 q)).objs.size=s.heap.objs.size+1:=Heap.size_push ..;have U:(H2 s.heap q z).objs.size=s.heap.objs.size+2:=(Heap.size_push ..).trans (by rw[n1]);have Y:(H3 s.heap q z).objs.size=s.heap.objs.size+3:=(Heap.size_push ..).trans (by rw[U]);have n4:(H4 s.heap q z).objs.size=s.heap.objs.size+4:=(Heap.size_push ..).trans (by rw[Y]);have k0:∀b o,s.heap.get? b=some o->(s.heap.push (ob1 q)).get? b=some o:=λb o e=>Heap.get?_push_of_some _ e
 have k1:∀b o,(s.heap.push (ob1 q)).get? b=some o->(H2 s.heap q z).get? b=some o:=λb o e=>Heap.get?_push_of_some _ e
 have Z:∀b o,(H2 s.heap q z).get? b=some o->(H3 s.heap q z).get? b=some o:=λb o e=>Heap.get?_push_of_some _ e
 have J:∀b o,(H3 s.heap q z).get? b=some o->(H4 s.heap q z).get? b=some o:=λb o e=>Heap.get?_push_of_some _ e
 have D:∀b o,(H4 s.heap q z).get? b=some o->(H5 s.heap q z).get? b=some o:=λb o e=>Heap.get?_push_of_some _ e
 have g0:(s.heap.push (ob1 q)).get? s.heap.objs.size=some (ob1 q):=Heap.get?_push_size _ rfl;have g1:(H2 s.heap q z).get? (s.heap.objs.size+1)=some (ob1 z):=by rw[<- n1];exact Heap.get?_push_size _ rfl
 have g2:(H3 s.heap q z).get? (s.heap.objs.size+2)=some (ob2 (.ref s.heap.objs.size) (.ref (s.heap.objs.size+1))):=by rw[<- U,<- n1];exact Heap.get?_push_size _ rfl
 have g3:(H4 s.heap q z).get? (s.heap.objs.size+3)=some (ob2 .none .none):=by rw[<- Y];exact Heap.get?_push_size _ rfl
 have g4:(H5 s.heap q z).get? (s.heap.objs.size+4)=some (ob3 (s.heap.objs.size+2) (s.heap.objs.size+3)):=by rw[<- n4,<- U,<- Y];exact Heap.get?_push_size _ rfl
 show Shared.TypeIs _ (.ref (H4 s.heap q z).objs.size) _/\Q (.ref (H4 s.heap q z).objs.size) _;rw[n4];exact⟨⟨_,g4,rfl⟩,h _ g4 (D _ _ (J _ _ g2)) (D _ _ g3) ⟨_,D _ _ (J _ _ (Z _ _ (k1 _ _ g0))),rfl,rfl⟩ ⟨_,D _ _ (J _ _ (Z _ _ g1)),rfl,rfl⟩ λc o e=>D _ _ (J _ _ (Z _ _ (k1 _ _ (k0 _ _ e))))⟩
end
end L2.Zp
namespace L2
open PySem PySem.Spec PyProof.Rows List Option
noncomputable def Itz(K:PySem.W.Frag)(a b:Addr):It:=
 ⟨λi H=>∃xs ys,SqT K H a xs/\SqT K H b ys/\xs.length=ys.length/\i<xs.length,λi H x H'=>∃p,x=.ref p/\H p=none/\∃u v,H'=upd H p (.tup [u,v])/\(∀xs,SqT K H a xs->xs[i]?=some u)/\∀ys,SqT K H b ys->ys[i]?=some v,λi H=>∃xs,SqT K H a xs/\i=xs.length⟩
theorem Inv.turnedL{X:Cx}{pins:List (Addr×Obj)}{σ:St}{H:Hp}{s:Shared}{h':Heap}{t':Nat}{L:List Addr}(I:Inv X pins σ H s)(k:∀b o,b∉L->s.heap.get? b=some o->h'.get? b=some o)(J:∀b∈L,jU X pins H b):Inv X pins σ H { s with heap:=h',toks:=t' }:=by
 have out:∀b u,H b=some u->b∉L:=λb u e z=>by
  have:=(J b z).1;rw[e]at this;cases this
 have own:X.env.locals∉L:=λz=>(J _ z).2.1 rfl
 refine I.step (g':=s.gens) (d':=s.drawn) (ch:=L) (λb D=>⟨(J b D).2.2.2.1,(J b D).2.1,(J b D).2.2.2.2.1,(J b D).2.2.2.2.2⟩)
  (λb o _ _ D e _=>k b o D e) (λb o _ _ D e _=>⟨o.slots,k b o D e⟩) (λ_ _ _ _ n=>n) (λb o D e=>⟨o,k b o D e⟩)
  (λ_ _ e=>e) (λ_ _ _ e=>e) (λb ps e=>⟨#[],by rw[e];simp⟩) (λm U=>?_) (λb u e=>?_) I.bare
 ·obtain⟨o,es,ep,Y,r⟩:=U;exact⟨o,es,ep,k _ o own Y,r⟩
 ·refine(I.hok b u e).stay (λc v hc q=>k c v ?_ q) (λ_ q=>q) λ_ _ q=>q
  rcases hc with hc|hc
  ·rw[hc];exact out b u e
  ·exact out c _ hc
theorem uC{P:Program}{w:World}{K:PySem.W.Frag}{ts:List Expr}{j:Nat}{tp:Pos}{z TI TO J U a b:Addr}(D:Zp.Apart z TI TO J U a b) :
  nA P w K (.Tuple ts j tp) (Itz K a b) [z,TI,TO,J,U] z (λi h=>IsZip h z TI TO .none/\IsPair h TI (.ref J) (.ref U)/\(∃p q,IsPair h TO p q)/\h.IsTupleIter J a i/\h.IsTupleIter U b i) where
 mem:=.head _
 obj:=λi h ⟨h1,h2,⟨p,q,h3⟩,⟨o4,Z,_,d4⟩,⟨o5,e5,_,d5⟩⟩ c hc=>by
  simp only[mem_cons,not_mem_nil,or_false]at hc;rcases hc with rfl|rfl|rfl|rfl|rfl
  ·exact⟨_,h1,λv e=>by cases e⟩
  ·exact⟨_,h2,λv e=>by cases e⟩
  ·exact⟨_,h3,λv e=>by cases e⟩
  ·exact⟨o4,Z,λv e=>by rw[d4]at e;cases e⟩
  ·exact⟨o5,e5,λv e=>by rw[d5]at e;cases e⟩
 keep:=λi h h' ⟨h1,h2,⟨p,q,h3⟩,h4,h5⟩ k=>⟨k _ (by simp) _ h1,k _ (by simp) _ h2,⟨p,q,k _ (by simp) _ h3⟩,h4.at λo e=>k _ (by simp) o e,h5.at λo e=>k _ (by simp) o e⟩
 item:=by
  intro X hP hw hK hc i pins s σ H E I hf st hg;subst hP hw hK;obtain⟨h1,h2,⟨p,q,h3⟩,h4,h5⟩:=st;obtain⟨xs,ys,hx,hy,hl,hi⟩:=hg;obtain⟨its,rv,t1,_⟩:=I.tuple hx;obtain⟨b5,b6,t2,_⟩:=I.tuple hy;obtain⟨x,ex,rx⟩:=rv.get (getElem?_eq_getElem hi);obtain⟨y,ey,ry⟩:=b6.get (getElem?_eq_getElem (hl ▸ hi));refine Zp.next_item (I.ok.hd hc) D h1 h2 h3 h4 h5 (show s.heap.IsTuple a its.toArray from t1) (show s.heap.IsTuple b b5.toArray from t2) (x:=x) (y:=y) (by simpa using ex) (by simpa using ey) λh' a1 a2 a3 a4 a5 a6 a7=>?_
  refine⟨_,rfl,wpAny_letOwnedTupleGo_zip (s:={ s with heap:=h' }) a1 λca b1 Y=>?_⟩;have fresh:H s.heap.objs.size=none:=I.hok.fresh (Nat.le_refl _);have ne:∀c o,s.heap.get? c=some o->c≠s.heap.objs.size:=λc o e=>Nat.ne_of_lt (Heap.lt_size e)
  have I1:Inv X pins σ (upd H s.heap.objs.size (.tup [xs[i],ys[i]])) { s with heap:=s.heap.push { cls:=.type "tuple",data:=.seq #[x,y] } }:=
   I.laid (t':=s.toks) (λc o e=>Heap.get?_push_of_some _ e) (Nat.le_refl _) ⟨by show 2<=sizeLine;decide,_,.cons rx (.cons ry .nil),IsTup.new _ _⟩
  have live:∀c∈[z,TI,TO,J,U],c≠s.heap.objs.size:=λc hc=>by
   simp only[mem_cons,not_mem_nil,or_false]at hc;obtain⟨o4,Z,_⟩:=h4;obtain⟨o5,e5,_⟩:=h5;rcases hc with rfl|rfl|rfl|rfl|rfl
   ·exact ne _ _ h1
   ·exact ne _ _ h2
   ·exact ne _ _ h3
   ·exact ne _ _ Z
   ·exact ne _ _ e5
  have up:∀c∈[z,TI,TO,J,U],jU X pins (upd H s.heap.objs.size (.tup [xs[i],ys[i]])) c:=λc hc=>by
   obtain⟨f0,f⟩:=hf c hc;exact⟨by rw[az (live c hc)];exact f0,f⟩
  have zl:z≠s.heap.objs.size:=live z (.head _);have I2:=I1.turnedL (h':=ca) (t':=s.toks) (L:=[z,TI,TO,J,U]) (λc o hc e=>by
   simp only[mem_cons,not_mem_nil,or_false,not_or]at hc;rw[Y.2 c hc.1];rcases Heap.get?_push_cases e with ⟨rfl,rfl⟩|e
   ·exact a5
   ·exact a7 c o hc.1 hc.2.2.1 hc.2.2.2.1 hc.2.2.2.2 e) up
  refine⟨.ref s.heap.objs.size,_,I2,rfl,⟨_,rfl,fresh,_,_,rfl,λef h=>?_,λeg h=>?_⟩,⟨b1,(Y.2 TI D.zTI.symm).trans ?_,⟨x,y,(Y.2 TO D.zTO.symm).trans a2⟩,a3.at λo e=>(Y.2 J D.zi1.symm).trans e,a4.at λo e=>(Y.2 U D.zi2.symm).trans e⟩,λc hc=>(up c hc).1⟩
  ·rw[I.tuple_inj h hx];exact getElem?_eq_getElem hi
  ·rw[I.tuple_inj h hy];exact getElem?_eq_getElem (hl ▸ hi)
  ·exact a7 TI _ D.zTI.symm D.TITO D.TIi1 D.TIi2 h2
 done:=by
  intro X hP hw hK hc i pins s σ H E I hf st hg;subst hP hw hK;obtain⟨h1,h2,⟨p,q,h3⟩,h4,h5⟩:=st;obtain⟨xs,hx,rfl⟩:=hg;obtain⟨its,rv,t1,_⟩:=I.tuple hx;refine Zp.next_end (I.ok.hd hc) D h1 h2 h3 h4 (show s.heap.IsTuple a its.toArray from t1) (by rw[rv.length];simp) λh' k=>⟨rfl,?_⟩
  exact I.turnedL (t':=s.toks) (L:=[z,TI,TO,J,U]) (λc o hc e=>by
   simp only[mem_cons,not_mem_nil,or_false,not_or]at hc;exact k c o hc.1 hc.2.2.1 hc.2.2.2.1 hc.2.2.2.2 e) hf
 self:=λ_ i s Q E ⟨h1,_⟩ h=>wpAny_pyIter_zip h1 h
noncomputable def DR(K:PySem.W.Frag)(ta:TA):TI:=λσ H R=>ta σ H λvs H1=>∃a b xs ys,vs=[.ref a,.ref b]/\SqT K H1 a xs/\SqT K H1 b ys/\xs.length=ys.length/\R (Itz K a b) H1
theorem zq {X:Cx}{ts:List Expr}{j:Nat}{tp:Pos}{l r:Expr}{ta:TA}{p pos:Pos} (hg:Gl X "zip") (hm:X.mg "zip"=none) (ha:PA X [l,r] ta) (hs:starEach [l,r] X.env=[(false,eval l X.env),(false,eval r X.env)]) (hs2:starEach [r] X.env=[(false,eval r X.env)]) :
  PI X (.Tuple ts j tp) (.Call (.Name "zip" p) [l,r] [] pos) (DR X.K ta):=by
 intro pins s σ H R I h;refine Call_ (fY I hg hm PyProof.Rows.boot_zip (PyProof.Rows.callWith_type1 (thn (ha pos pins s σ H _ I h) λus s1 ⟨vs,H1,I1,r1,q1⟩=>?_) (by rw[hs,hs2]) (by rw[hs2];rfl)));obtain⟨a,b,xs,ys,e,hx,hy,hl,q⟩:=q1;subst e;cases r1 with
 | cons rx rr =>
  cases rr with
  | cons ry rr =>
   cases rr with
   | nil =>
    cases rx;cases ry;obtain⟨its,_,t1,_⟩:=I1.tuple hx;obtain⟨jts,_,t2,_⟩:=I1.tuple hy;have t1:s1.heap.IsTuple a its.toArray:=t1;have t2:s1.heap.IsTuple b jts.toArray:=t2;have la:a<s1.heap.objs.size:=let ⟨o,ho,_⟩:=t1;Heap.lt_size ho
    have lb:b<s1.heap.objs.size:=let ⟨o,ho,_⟩:=t2;Heap.lt_size ho
    refine Zp.call_zip t1 t2 λh' a1 a2 a3 a4 a5 k=>?_
    have I2:Inv X pins σ H1 { s1 with heap:=h' }:=I1.kept (t':=s1.toks) k;have T:=uC (P:=X.prog) (w:=X.w) (K:=X.K) (ts:=ts) (j:=j) (tp:=tp) (Zp.apart_new la lb);refine wpAny_pyIter_zip (s:={ s1 with heap:=h' }) a1 ⟨_,_,_,_,H1,rfl,I2,T,⟨a1,a2,⟨_,_,a3⟩,a4,a5⟩,λc hc=>?_,q⟩;have hb:s1.heap.objs.size<=c:=by
     simp only[mem_cons,not_mem_nil,or_false]at hc;rcases hc with rfl|rfl|rfl|rfl|rfl
     ·exact Nat.le_add_right _ _
     ·exact Nat.le_add_right _ _
     ·exact Nat.le_add_right _ _
     ·exact Nat.le_refl _
     ·exact Nat.le_add_right _ _
    exact I1.fpOk hb (I1.hok.fresh hb)
noncomputable def Itc(x:Str):It:=⟨λi _=>i<x.cps.size,λi H v H'=>H'=H/\∃c,x.cps[i]?=some c/\v=.str ⟨#[c]⟩,λi _=>x.cps.size<=i⟩
theorem uD {P:Program}{w:World}{K:PySem.W.Frag}{tg:Expr} (it:Addr) (x:Str) (t:Tok):nA P w K tg (Itc x) [it] it (λi h=>h.IsStrIter it "str_ascii_iterator" x t i) where
 mem:=.head _
 obj:=λi h st b q=>by
  obtain rfl:=mem_singleton.mp q;obtain⟨o,h1,_,h2⟩:=st;exact⟨o,h1,λv z=>by rw[h2]at z;cases z⟩
 keep:=λi h h' st k=>let ⟨o,ho,r⟩:=st;⟨o,k it (.head _) o ho,r⟩
 item:=by
  intro X U hw Y hc i pins s σ H E I J st Z;subst U hw Y;have lt:i<x.cps.size:=Z;obtain⟨f0,f1,f2,f3,f4,f5⟩:=J it (.head _);refine wpAny_pyNext_ascii_item st (c:=x.cps[i]) (by simp[lt]) λh' D sb=>?_
  have I1:Inv X pins σ H { s with heap:=h',toks:=s.toks+1 }:=I.turned (λb o q e=>(sb.2 b q).trans e) f0 f1 f3 f4 f5;obtain⟨o,e,c,d⟩:=id D;exact⟨_,rfl,qB (s:={ s with heap:=h',toks:=s.toks+1 }) e c d (by decide) ⟨.str ⟨#[x.cps[i]]⟩,H,I1,⟨_,rfl⟩,⟨rfl,_,by simp[lt],rfl⟩,D,λb q=>(J b q).1⟩⟩
 done:=by
  intro X U hw Y hc i pins s σ H E I J st Z;subst U hw Y;have le:x.cps.size<=i:=Z;obtain⟨f0,f1,f2,f3,f4,f5⟩:=J it (.head _);exact wpAny_pyNext_ascii_end (I.ok.hd hc) st (by simp[le]) λh' eb=>⟨rfl,I.turned (t':=s.toks) (λb o q e=>eb b o q e) f0 f1 f3 f4 f5⟩
 self:=λ_ _ _ _ _ st h=>wpAny_pyIter_striter_ascii st h
section
variable{X:Cx}{tg:Expr}
noncomputable def DS(tl:TE):TI:=λσ H R=>tl σ H λv H1=>∃x,v=.str x/\x.cps.all (· < 128)=true/\R (Itc x) H1
theorem zr{l:Expr}{tl:TE}(J:PE X l tl):PI X tg l (DS tl):=by
 intro pins s σ H R I h;refine thn (J pins s σ H _ I h) λv z ⟨y,H1,D,U,x,Y,Z,q⟩=>?_
 subst Y;obtain⟨t,rfl⟩:=U;refine wpAny_pyIter_ascii Z ⟨z.heap.objs.size,[z.heap.objs.size],_,_,H1,rfl,D.kept (t':=z.toks) λb o e=>Heap.get?_push_of_some _ e,uD _ x t,⟨_,Heap.get?_push_size _ rfl,rfl,rfl⟩,λb hb=>?_,q⟩;obtain rfl:=mem_singleton.mp hb;exact D.fpOk (Nat.le_refl _) (D.hok.fresh (Nat.le_refl _))
theorem sr:bC X (.type "int") (λus H Q=>∃x n,us=[.str x]/\intText? x=some n/\x.length<=640/\Q (.int n) H):=by
 intro pins s σ H xs us Q I r h;obtain⟨x,n,rfl,z,D,q⟩:=h;obtain⟨u,rfl,J⟩:=eP r;obtain⟨t,rfl⟩:=J;exact PySem.W.KIN.call_text z D ⟨.int n,H,I.tok _,⟨_,rfl⟩,q⟩
noncomputable def zt:V->List V->Hp->VK->Prop:=λx vs H Q=>∃z y,x=.str z/\vs=[.str y]/\(y.length==0)=false/\z.length<=1000000/\(Txt.split z y).length<=1000000/\∀p,H p=none->Q (.ref p) (upd H p (.lst ((Txt.split z y).map V.str)))
theorem nY:∀(l:List (Str×Tok)),ay ((l.map (·.1)).map V.str) (strValues l)
 | []=>.nil
 |p::l=>.cons ⟨p.2,rfl⟩ (nY l)
theorem uE:MtM X "str.split" zt:=by
 intro pins s σ H x vs v us Q I rx rv h;obtain⟨z,y,rfl,rfl,hy,hz,hn,q⟩:=h;obtain⟨t,rfl⟩:=rx;obtain⟨u,rfl,ru⟩:=rv.one;obtain⟨t2,rfl⟩:=ru;have big:1000000<=sizeLine:=by rw[sizeLine_eq];decide
 have fin:∀(l:List (Str×Tok)) (tk c:Nat),l.map (·.1)=Txt.split z y->EP X pins σ Q (.ref s.heap.objs.size) { s with toks:=tk,heap:=s.heap.push { cls:=.type "list",data:=.seq (strValues l).toArray c } }:=λl tk c e=>by
  have hl:l.length=(Txt.split z y).length:=by rw[<- e,length_map]
  refine⟨.ref s.heap.objs.size,_,I.laid (o:=.lst ((Txt.split z y).map V.str)) (λb o g=>Heap.get?_push_of_some _ g) (Nat.le_refl _) ⟨by rw[length_map];omega,strValues l,c,by rw[<- e];exact nY l,Heap.get?_push_size _ rfl⟩,rfl,q _ (I.hok.fresh (Nat.le_refl _))⟩
 cases h1:(decide (z.length<y.length) || decide (Builtin.Str.strKind z<Builtin.Str.strKind y)) with
 |true =>
  refine call_meets F.slot_str_split rfl F.entry_str_split (F.args_str_split_2 _ _) (meets_str_split_cannot_occur z y t t2 h1) ?_;exact fin [(z,t)] s.toks 0 (by unfold Txt.split;rw[if_pos h1];rfl)
 | false =>
  cases h2:(Builtin.Str.occurrences z y 0 z.length (z.length+1)).isEmpty with
  |true =>
   refine call_meets F.slot_str_split rfl F.entry_str_split (F.args_str_split_2 _ _) (meets_str_split_not_found z y t t2 h1 hy h2) ?_;exact fin [(z,t)] s.toks 0 (by unfold Txt.split;rw[if_neg (by rw[h1];decide),if_pos h2];rfl)
  | false =>
   have es:Txt.split z y=Builtin.Str.partsBetween z (Builtin.Str.occurrences z y 0 z.length (z.length+1)) y.length:=by
    unfold Txt.split;rw[if_neg (by rw[h1];decide),if_neg (by rw[h2];decide)]
   refine call_meets F.slot_str_split rfl F.entry_str_split (F.args_str_split_2 _ _) (meets_str_split_sep z y t t2 h1 hy h2 (by omega) (by rw[<- es];omega)) ?_;have g:=fin (numbered s.toks (Txt.split z y)) (s.toks+(Txt.split z y).length) 0 (numbered_texts _ _);rw[<- strsFrom_eq,es]at g;exact g
end
end L2
namespace MM
open PySem List Option
inductive Sc where
 | non|bl (b:Bool)|int (i:Int)|str (x:Str)
 deriving Inhabited,DecidableEq
inductive DD where
 | k (kvs:List (Int×Sc))|t (kvs:List (List Int×Sc))
 | p (ns:List Int)
 | w (ws:List Str) (n:Nat)
 deriving Inhabited
inductive PV where
 | non|bl (b:Bool)|int (i:Int)|str (x:Str)|tup (xs:List PV)|lst (xs:List PV)|dI (d:DD)
 deriving Inhabited
noncomputable def Sc.pv:Sc->PV
 | .non=>.non
 | .bl b=>.bl b
 | .int i=>.int i
 | .str x=>.str x
noncomputable def sc?:PV->Option Sc
 | .non=>some .non
 | .bl b=>some (.bl b)
 | .int i=>some (.int i)
 | .str x=>some (.str x)
 | _=>none
noncomputable def yc{α:Type} [DecidableEq α] (kvs:List (α×Sc)) (k:α):Option Sc:=(kvs.find? λp=>decide (p.1=k)).map (·.2)
noncomputable def yd{α:Type} [DecidableEq α] (kvs:List (α×Sc)) (k:α) (v:Sc):List (α×Sc):=
 if (kvs.any λp=>decide (p.1=k))=true then kvs.map (λp=>if p.1=k then (p.1,v) else p) else kvs ++ [(k,v)]
noncomputable def eqL(f:PV->PV->Option Bool):List PV->List PV->Option Bool
 | [],[]=>some true
 |x::xs,y::ys=>(f x y).bind λp=>(eqL f xs ys).map λq=>p&&q
 | _,_=>some false
noncomputable def eqF:Nat->PV->PV->Option Bool
 | _,.non,.non=>some true
 | _,.bl a,.bl b=>some (a==b)
 | _,.bl a,.int b=>some ((if a then 1 else 0)==b)
 | _,.int a,.bl b=>some (a==(if b then 1 else 0))
 | _,.int a,.int b=>some (a==b)
 | _,.str a,.str b=>some (a==b)
 |0,.tup _,.tup _=>none
 |0,.lst _,.lst _=>none
 | _,.dI _,_=>none
 | _,_,.dI _=>none
 |n+1,.tup a,.tup b=>eqL (eqF n) a b
 |n+1,.lst a,.lst b=>if a.length=b.length then eqL (eqF n) a b else some false
 | _,_,_=>some false
noncomputable def pW:PV->PV->Bool
 | .tup _,.tup _=>true
 | .lst _,.lst _=>true
 | .tup _,_=>false
 | _,.tup _=>false
 | .lst _,_=>false
 | _,.lst _=>false
 | .bl _,.int _=>false
 | .int _,.bl _=>false
 | .dI _,_=>false
 | _,.dI _=>false
 | _,_=>true
noncomputable def inL(f:PV->Option Bool):List PV->Option Bool
 | []=>some false
 |y::ys=>(f y).bind λp=>(inL f ys).map λq=>p || q
inductive MV where
 | val (v:PV)|own (xs:List PV)|brw (xs:List PV)|ownD (d:DD)|brwD (d:DD)
 | mutD (d:DD)
 deriving Inhabited
noncomputable abbrev Rho:=List (Option MV)
inductive Op2 where
 | add|sub|mul|fdiv|mod|pow|shr
 deriving DecidableEq
inductive Cp where
 | eq|ne|lt|le|gt|ge|isN|notN|isIn|notIn
 deriving DecidableEq
inductive Blt where
 | len|tupleOf|listOf|sorted|any|all|sum|max1|min1|max2|min2|intOf|boolOf|isInt|isBool|isStr|isList|isTuple
 | sortedSet|lenSet|lenSetSub|sortedKeys|valuesOf|tupleRev
 | strOf
 deriving DecidableEq
inductive Sk where
 | seq|rng|enm|rev
 | zip
 | chr
 deriving DecidableEq
noncomputable def sk2:Sk:=.zip
set_option genInjectivity false in
inductive ME where
 | var (i:Nat)
 | bor (i:Nat)
 | cst (v:PV)
 | glob (x:Str) (v:PV)
 | bin (op:Op2) (a b:ME)
 | neg (a:ME)
 | not (a:ME)
 | and (a b:ME)
 | or (a b:ME)
 | ite (c a b:ME)
 | cmp (op:Cp) (a b:ME)
 | chain (op op':Cp) (a b c:ME)
 | tup (es:List ME)
 | lst (es:List ME)
 | idx (a i:ME)
 | slice (a lo hi:ME)
 | blt (b:Blt) (es:List ME)
 | call (f:Nat) (es:List ME)
 | callD (f:Nat) (es:List ME) (d:List Sc)
 | comp (k:Sk) (src:List ME) (js:List Nat) (cond elt:ME)
 | dget (a k d:ME)
 | dat (a k:ME)
 | dIn (neg:Bool) (k a:ME)
 | lenP (i:Nat)
 | join (x:Str) (e:ME)
 | cdat (x:Str) (e:ME)
 | comp2 (src:List ME) (js:List Nat) (cond elt:ME)
 deriving Inhabited
noncomputable def bB:List PV->Option (List Int)
 | []=>some []
 | .int i::r=>(bB r).map (i::·)
 | _=>none
noncomputable def fw:List PV->Option (List (List Int))
 | []=>some []
 | .tup xs::r=>(bB xs).bind λx=>(fw r).map (x::·)
 | _=>none
noncomputable def cb:List PV->Option (List Bool)
 | []=>some []
 | .bl i::r=>(cb r).map (i::·)
 | _=>none
noncomputable def eh:List PV->Option (List Str)
 | []=>some []
 | .str i::r=>(eh r).map (i::·)
 | _=>none
noncomputable def ar(n:Int):Str:=Str.ofString (toString n)
noncomputable def ye(x:Str):PV->Option PV
 | .lst xs=>(eh xs).bind λws=>if (ws.map λy=>y.length+x.length).sum<=1000000 then some (.str (Builtin.Str.glued x ws)) else none
 | _=>none
noncomputable def jA:List PV->List PV->List PV
 |a::as,b::bs=>.tup [a,b]::jA as bs
 | _,_=>[]
noncomputable def fJ:List (Str×List (Str×PV)):=[("MEMBERS",[("bare",.tup []),("whole",.tup []),("weight",.tup []),("pairs",.tup [.tup [.str "hole",.str "hole"]]),("bite",.tup [.str "reply",.str "paper"]),("knot",.tup [.str "reply",.str "paper"]),("cases",.tup [.tup [.str "hole",.str "reply",.str "paper"]]),("parts",.tup [.tup [.str "rest",.str "paper"]]),("fewer",.tup [.str "rest",.str "paper"]),("either",.tup [.str "rest",.str "paper",.str "rest",.str "paper"])])]
noncomputable def fK(x:Str):PV->Option PV
 | .str k=>((fJ.find? λp=>decide (p.1=x)).bind λt=>t.2.find? λp=>decide (p.1=k)).map (·.2)
 | _=>none
noncomputable def wN:PV->PV->Option (Option Sc)
 | .dI (.k kvs),.int i=>some (yc kvs i)
 | .dI (.t _),.tup _=>none
 | _,_=>none
noncomputable def zu:DD->PV->Sc->Option DD
 | .k kvs,.int i,s=>if kvs.length<10000 then some (.k (yd kvs i s)) else none
 | .t _,.tup _,_=>none
 | _,_,_=>none
noncomputable def dSc:DD->List Sc
 | .k kvs=>kvs.map (·.2)
 | .t kvs=>kvs.map (·.2)
 | .p _=>[]
 | .w _ _=>[]
noncomputable def qP(d:DD):List PV:=(dSc d).map Sc.pv
noncomputable def lexLt:List Int->List Int->Bool
 | [],[]=>false
 | [],_::_=>true
 | _::_,[]=>false
 |x::xs,y::ys=>if x=y then lexLt xs ys else decide (x<y)
noncomputable def uF(x:Int):List Int->List Int
 | []=>[x]
 |y::r=>if y<x then y::uF x r else x::y::r
noncomputable def sortI:List Int->List Int
 | []=>[]
 |x::r=>uF x (sortI r)
noncomputable def uG(x:List Int):List (List Int)->List (List Int)
 | []=>[x]
 |y::r=>if lexLt y x=true then y::uG x r else x::y::r
noncomputable def sortT:List (List Int)->List (List Int)
 | []=>[]
 |x::r=>uG x (sortT r)
noncomputable def dd:List Int->List Int
 | []=>[]
 |x::r=>if x∈dd r then dd r else x::dd r
noncomputable def iw{α:Type}(f:Int->Int->Option α):PV->PV->Option α
 | .int i,.int j=>f i j
 | _,_=>none
noncomputable def uH:PV->PV->Option PV
 | .int i,.int j=>some (.int (i+j))
 | .lst a,.lst b=>if a.length+b.length<=10000 then some (.lst (a++b)) else none
 | .tup a,.tup b=>if a.length+b.length<=10000 then some (.tup (a++b)) else none
 | .str a,.str b=>if a.length+b.length<=1000000 then some (.str (a++b)) else none
 | _,_=>none
noncomputable def eU(op:Op2):PV->PV->Option PV:=match op with
 | .add=>uH
 | .sub=>iw λi j=>some (.int (i-j))
 | .mul=>iw λi j=>if (-(2 ^ 64)<i/\i<2 ^ 64)\/(-(2 ^ 64)<j/\j<2 ^ 64) then some (.int (i*j)) else none
 | .fdiv=>iw λi j=>if 0<j/\j<1073741824 then some (.int (i / j)) else none
 | .mod=>iw λi j=>if 0<j then some (.int (i % j)) else none
 | .pow=>iw λi j=>if 0<=j/\j<=1000000/\i.natAbs<2 ^ 64 then some (.int (i ^ j.toNat)) else none
 | .shr=>iw λi j=>if 0<=j then some (.int (i / 2 ^ j.toNat)) else none
noncomputable def fz:PV->Bool
 | .non=>true
 | _=>false
noncomputable def isIn(x:PV)(xs:List PV):Option Bool:=inL (λy=>eqF 100 y x) xs
noncomputable def BK(a b:PV):Option Bool:=match b with
 | .non=>some (fz a)
 | .bl q=>(match a with|.bl p=>some (p==q)|_=>none)
 | _=>none
noncomputable def bE:PV->Option (List PV)
 | .tup xs=>some xs
 | .lst xs=>some xs
 | _=>none
noncomputable def gJ:PV->Option (List PV)
 | .lst xs=>some xs
 | _=>none
noncomputable def pX(a:PV):PV->Option Bool
 | .str y=>match a with|.str x=>some (!(Builtin.Str.occurrences y x 0 y.length 1).isEmpty)|_=>none
 |b=>(bE b).bind (isIn a)
noncomputable def cc(op:Cp):PV->PV->Option Bool:=match op with
 | .eq=>eqF 100
 | .ne=>λa b=>if pW a b=true then (eqF 100 a b).map λp=>!p else none
 | .lt=>iw λi j=>some (decide (i<j))
 | .le=>iw λi j=>some (decide (i<=j))
 | .gt=>iw λi j=>some (decide (j<i))
 | .ge=>iw λi j=>some (decide (j<=i))
 | .isN=>BK
 | .notN=>λa b=>(BK a b).map λp=>!p
 | .isIn=>pX
 | .notIn=>λa b=>(pX a b).map λp=>!p
noncomputable def place(n:Nat)(i:Int):Option Nat:=
 if 0<=i then (if i<n then some i.toNat else none) else if -(n:Int)<=i then some (i+n).toNat else none
noncomputable def kr:PV->PV->Option PV
 | .tup xs,.int i=>(place xs.length i).bind λj=>xs[j]?
 | .lst xs,.int i=>(place xs.length i).bind λj=>xs[j]?
 | .str x,.int i=>if x.length<=1000 then (place x.cps.toList.length i).bind λj=>(x.cps.toList[j]?).map λc=>.str ⟨#[c]⟩ else none
 | _,_=>none
noncomputable def ix(n d:Nat):Option Int->Nat
 |none=>d
 |some i=>if i<0 then (i+n).toNat else min i.toNat n
noncomputable def cut(xs:List PV)(lo hi:Option Int):List PV:=(xs.drop (ix xs.length 0 lo)).take (ix xs.length xs.length hi-ix xs.length 0 lo)
noncomputable def iy:PV->Option Int->Option Int->Option PV
 | .lst xs,lo,hi=>some (.lst (cut xs lo hi))
 | .tup xs,lo,hi=>some (.tup (cut xs lo hi))
 | _,_,_=>none
noncomputable def bnd:ME->PV->Option (Option Int)
 | .cst .non,_=>some none
 | _,.int i=>some (some i)
 | _,_=>none
noncomputable def BL:List Int->Option Int
 | []=>none
 |x::r=>some (r.foldl (λa b=>if a<b then b else a) x)
noncomputable def gb(xs:List PV):Option PV:=
 if xs.length<64 then
  match bB xs with
  |some ns=>some (.lst ((sortI ns).map .int))
  |none=>(fw xs).map λts=>.lst ((sortT ts).map λt=>.tup (t.map .int))
 else none
noncomputable def isT(b:Blt):PV->Bool
 | .int _=>b==.isInt
 | .bl _=>b==.isInt || b==.isBool
 | .str _=>b==.isStr
 | .lst _=>b==.isList
 | .tup _=>b==.isTuple
 | .non=>false
 | .dI _=>false
noncomputable def isD:PV->Bool
 | .dI _=>true
 | _=>false
noncomputable def cf(vs:List PV)(f:PV->Option PV):Option PV:=match vs with
 | [a]=>f a
 | _=>none
noncomputable def g_(vs:List PV)(f:PV->PV->Option PV):Option PV:=match vs with
 | [a,b]=>f a b
 | _=>none
noncomputable def gc(b:Blt)(vs:List PV):Option PV:=cf vs λa=>if isD a=true then none else some (.bl (isT b a))
noncomputable def yf:PV->Option PV
 | .tup xs=>some (.int xs.length)
 | .lst xs=>some (.int xs.length)
 | .dI (.k kvs)=>some (.int kvs.length)
 | .str x=>if x.length<=1000 then some (.int x.length) else none
 | _=>none
noncomputable def av(b:Blt)(vs:List PV):Option PV:=match b with
 | .len=>cf vs yf
 | .tupleOf=>cf vs λa=>(bE a).map .tup
 | .listOf=>cf vs λa=>(bE a).map .lst
 | .sorted=>cf vs λa=>(bE a).bind gb
 | .any=>cf vs λa=>(gJ a).bind λxs=>(cb xs).map λbs=>.bl (bs.any id)
 | .all=>cf vs λa=>(gJ a).bind λxs=>(cb xs).map λbs=>.bl (bs.all id)
 | .sum=>cf vs λa=>(gJ a).bind λxs=>(bB xs).map λns=>.int ns.sum
 | .max1=>cf vs λa=>(gJ a).bind λxs=>(bB xs).bind λns=>(BL ns).map .int
 | .min1=>none
 | .max2=>g_ vs (iw λi j=>some (.int (if j > i then j else i)))
 | .min2=>g_ vs (iw λi j=>some (.int (if j<i then j else i)))
 | .intOf=>cf vs λa=>match a with|.int i=>some (.int i)|.bl b=>some (.int (if b then 1 else 0))|.str x=>if x.length<=640 then (intText? x).map .int else none|_=>none
 | .boolOf=>cf vs λa=>match a with|.bl b=>some (.bl b)|_=>none
 | .isInt=>gc .isInt vs
 | .isBool=>gc .isBool vs
 | .isStr=>gc .isStr vs
 | .isList=>gc .isList vs
 | .isTuple=>gc .isTuple vs
 | .sortedSet=>cf vs λa=>(bE a).bind λxs=>(bB xs).bind λns=>if ns.length<=1000/\(dd ns).length<64 then some (.lst ((sortI (dd ns)).map .int)) else none
 | .lenSet=>cf vs λa=>(bE a).bind λxs=>(bB xs).bind λns=>if ns.length<=1000 then some (.int (dd ns).length) else none
 | .lenSetSub=>g_ vs λa b=>(bE a).bind λxs=>(bB xs).bind λns=>(bE b).bind λys=>(bB ys).bind λms =>
   if ns.length<=1000/\ms.length<=1000/\(dd ns).length<=60 then some (.int ((dd ns).filter λn=>!decide (n∈ms)).length) else none
 | .sortedKeys=>cf vs λa=>match a with|.dI (.k kvs)=>if kvs.length<64 then some (.lst ((sortI (kvs.map (·.1))).map .int)) else none|_=>none
 | .tupleRev=>cf vs λa=>(gJ a).map λxs=>.tup xs.reverse
 | .strOf=>cf vs λa=>match a with|.int i=>if i.natAbs<2 ^ 64 then some (.str (ar i)) else none|_=>none
 | .valuesOf=>cf vs λa=>match a with|.dI d=>if (qP d).length<=10000 then some (.lst (qP d)) else none|_=>none
noncomputable def nZ(n:Nat):List PV->List PV
 | []=>[]
 |x::r=>.tup [.int (n:Nat),x]::nZ (n+1) r
noncomputable def bc:Sk->List PV->Option (List PV)
 | .seq,[a]=>bE a
 | .rng,[.int j]=>if -(2 ^ 62)<=j/\j<2 ^ 62 then some ((range j.toNat).map λ(k:Nat)=>.int ((0:Int)+k)) else none
 | .rng,[.int i,.int j]=>if -(2 ^ 62)<=i/\i<2 ^ 62/\-(2 ^ 62)<=j/\j<2 ^ 62 then some ((range (j-i).toNat).map λ(k:Nat)=>.int (i+k)) else none
 | .enm,[a]=>(bE a).map (nZ 0)
 | .zip,[.tup xs,.tup ys]=>if xs.length=ys.length then some (jA xs ys) else none
 | .rev,[.lst xs]=>some xs.reverse
 | .chr,[.str x]=>if x.cps.all (· < 128)=true then some (x.cps.toList.map λc=>.str ⟨#[c]⟩) else none
 | _,_=>none
noncomputable def cQ(c:PV->Option Bool)(f:PV->Option PV):List PV->Option (List PV)
 | []=>some []
 |x::r=>(c x).bind λb=>if b=true then (f x).bind λy=>(cQ c f r).map (y::·) else cQ c f r
noncomputable def aJ:PV->Option Bool
 | .bl b=>some b
 | _=>none
noncomputable abbrev Cal:=Nat->List MV->Option PV
noncomputable def uI:Option MV->Option PV
 |some (.val v)=>some v
 | _=>none
noncomputable def lx:DD->Bool
 | .p _=>false
 | .w _ _=>false
 | _=>true
noncomputable def pY:DD->Bool
 | .w _ _=>false
 | _=>true
noncomputable def bV:Option MV->Option PV
 |some (.val v)=>some v
 |some (.own xs)=>some (.lst xs)
 |some (.brw xs)=>some (.lst xs)
 |some (.ownD kvs)=>if lx kvs=true then some (.dI kvs) else none
 |some (.brwD kvs)=>if lx kvs=true then some (.dI kvs) else none
 |some (.mutD kvs)=>if lx kvs=true then some (.dI kvs) else none
 |none=>none
noncomputable def ek:Option MV->Option MV
 |some (.val v)=>some (.val v)
 |some (.own xs)=>some (.brw xs)
 |some (.brw xs)=>some (.brw xs)
 |some (.ownD xs)=>if pY xs=true then some (.brwD xs) else none
 |some (.brwD xs)=>some (.brwD xs)
 |some (.mutD xs)=>if pY xs=true then some (.brwD xs) else none
 |none=>none
noncomputable def dL:Option MV->Option MV
 |some (.own xs)=>some (.brw xs)
 |some (.ownD xs)=>if pY xs=true then some (.brwD xs) else none
 |some (.mutD xs)=>if pY xs=true then some (.brwD xs) else none
 |o=>o
noncomputable def fA(js:List Nat)(ρ:Rho)(x:PV):Rho:=some (.val x)::js.map λj=>dL (ρ[j]?).join
noncomputable def pZ:Option MV->Option PV
 |some (.ownD (.p ns))=>some (.int ns.length)
 |some (.mutD (.p ns))=>some (.int ns.length)
 | _=>none
noncomputable def n9(js:List Nat)(ρ:Rho):PV->Rho
 | .tup [a,b]=>some (.val a)::some (.val b)::js.map λj=>dL (ρ[j]?).join
 | _=>[]
mutual
noncomputable def ev(cal:Cal):ME->Rho->Option PV
 | .var i,ρ=>uI (ρ[i]?).join
 | .bor i,ρ=>bV (ρ[i]?).join
 | .cst v,_=>some v
 | .glob _ v,_=>some v
 | .bin op a b,ρ=>(ev cal a ρ).bind λx=>(ev cal b ρ).bind λy=>eU op x y
 | .neg a,ρ=>(ev cal a ρ).bind λx=>match x with|.int i=>some (.int (-i))|_=>none
 | .not a,ρ=>((ev cal a ρ).bind aJ).map λb=>.bl (!b)
 | .and a b,ρ=>((ev cal a ρ).bind aJ).bind λc=>if c=true then (ev cal b ρ).bind λy=>(aJ y).map .bl else some (.bl false)
 | .or a b,ρ=>((ev cal a ρ).bind aJ).bind λc=>if c=true then some (.bl true) else (ev cal b ρ).bind λy=>(aJ y).map .bl
 | .ite c a b,ρ=>((ev cal c ρ).bind aJ).bind λk=>if k=true then ev cal a ρ else ev cal b ρ
 | .cmp op a b,ρ=>(ev cal a ρ).bind λx=>(ev cal b ρ).bind λy=>(cc op x y).map .bl
 | .chain op op' a b c,ρ=>(ev cal a ρ).bind λx=>(ev cal b ρ).bind λy=>(cc op x y).bind λk=>if k=true then (ev cal c ρ).bind λz=>(cc op' y z).map .bl else some (.bl false)
 | .tup es,ρ=>(evs cal es ρ).bind λvs=>if vs.length<=10000 then some (.tup vs) else none
 | .lst es,ρ=>(evs cal es ρ).bind λvs=>if vs.length<=10000 then some (.lst vs) else none
 | .idx a i,ρ=>(ev cal a ρ).bind λx=>(ev cal i ρ).bind λy=>kr x y
 | .slice a lo hi,ρ=>(ev cal a ρ).bind λx=>((ev cal lo ρ).bind λl=>bnd lo l).bind λl=>((ev cal hi ρ).bind λh=>bnd hi h).bind λh=>iy x l h
 | .blt b es,ρ=>(evs cal es ρ).bind λvs=>av b vs
 | .call f es,ρ=>(evA cal es ρ).bind λvs=>cal f vs
 | .callD f es d,ρ=>(evA cal es ρ).bind λvs=>cal f (vs++d.map λx=>.val x.pv)
 | .comp k src js cond elt,ρ=>(evs cal src ρ).bind λvs=>(bc k vs).bind λxs =>
   if xs.length<=10000 then (cQ (λx=>(ev cal cond (fA js ρ x)).bind aJ) (λx=>ev cal elt (fA js ρ x)) xs).map .lst else none
 | .dget a k d,ρ=>(ev cal a ρ).bind λx=>(ev cal k ρ).bind λy=>(ev cal d ρ).bind λz=>(wN x y).bind λo=>(sc? z).map λs=>(o.getD s).pv
 | .dat a k,ρ=>(ev cal a ρ).bind λx=>(ev cal k ρ).bind λy=>(wN x y).bind λo=>o.map Sc.pv
 | .dIn neg k a,ρ=>(ev cal k ρ).bind λy=>(ev cal a ρ).bind λx=>(wN x y).map λo=>.bl (if neg=true then !o.isSome else o.isSome)
 | .lenP i,ρ=>pZ (ρ[i]?).join
 | .join x e,ρ=>(ev cal e ρ).bind (ye x)
 | .cdat x e,ρ=>(ev cal e ρ).bind (fK x)
 | .comp2 src js cond elt,ρ=>(evs cal src ρ).bind λvs=>(bc sk2 vs).bind λxs =>
   if xs.length<=10000 then (cQ (λx=>(ev cal cond (n9 js ρ x)).bind aJ) (λx=>ev cal elt (n9 js ρ x)) xs).map .lst else none
noncomputable def evs(cal:Cal):List ME->Rho->Option (List PV)
 | [],_=>some []
 |e::es,ρ=>(ev cal e ρ).bind λv=>(evs cal es ρ).map (v::·)
noncomputable def evA(cal:Cal):List ME->Rho->Option (List MV)
 | [],_=>some []
 | .bor i::es,ρ=>(ek (ρ[i]?).join).bind λv=>(evA cal es ρ).map (v::·)
 |e::es,ρ=>(ev cal e ρ).bind λv=>(evA cal es ρ).map (MV.val v::·)
end
noncomputable def evB(cal:Cal)(e:ME)(ρ:Rho):Option Bool:=(ev cal e ρ).bind aJ
noncomputable def cG:Option MV->Option DD
 |some (.ownD d)=>some d
 |some (.mutD d)=>some d
 | _=>none
noncomputable def evM(cal:Cal):List Bool->List ME->Rho->Option (List MV)
 | [],[],_=>some []
 |true::bs,.bor i::es,ρ=>(cG (ρ[i]?).join).bind λd=>(evM cal bs es ρ).map (MV.mutD d::·)
 |false::bs,e::es,ρ=>(evA cal [e] ρ).bind λa=>match a with|[.val v]=>(evM cal bs es ρ).map (MV.val v::·)|_=>none
 | _,_,_=>none
noncomputable def b_(ρ:Rho)(i:Nat)(d:DD):Rho:=match (ρ[i]?).join with
 |some (.ownD _)=>ρ.set i (some (.ownD d))
 | _=>ρ.set i (some (.mutD d))
noncomputable def fb:List Bool->List ME->List PV->Rho->Option Rho
 | [],[],[],ρ=>some ρ
 |true::bs,.bor i::es,.dI d::ds,ρ=>fb bs es ds (b_ ρ i d)
 |false::bs,_::es,ds,ρ=>fb bs es ds ρ
 | _,_,_,_=>none
noncomputable def jB(cal:Cal)(f:Nat)(q:List Bool)(es:List ME)(ρ:Rho):Option (PV×Rho):=
 match (evM cal q es ρ).bind λvs=>cal (f+2000) vs with
 |some (.tup (v::ds))=>(fb q es ds ρ).map λρ'=>(v,ρ')
 | _=>none
inductive SK where
 | one|cat|pair
 deriving DecidableEq
noncomputable def n_:SK->PV->PV->Option PV
 | .one,_,v=>some v
 | .cat,w,v=>eU .add w v
 | .pair,w,v=>some (.tup [w,v])
noncomputable def p5:Option MV->Option MV
 |some (.val v)=>some (.val v)
 |some (.brw xs)=>some (.brw xs)
 |some (.ownD d)=>some (.mutD d)
 |some (.mutD d)=>some (.mutD d)
 |some (.brwD d)=>some (.brwD d)
 | _=>none
noncomputable def iz(js:List Nat)(ρ:Rho)(x:PV):Rho:=some (.val x)::js.map λj=>p5 (ρ[j]?).join
noncomputable def su(js:List Nat):ME->ME
 | .bor i=>.bor (if i=0 then 0 else js.getD (i-1) 0)
 |e=>e
noncomputable def bn(cal:Cal)(js:List Nat)(k:SK)(e:ME)(f:Nat)(q:List Bool)(es:List ME):List PV->Rho->Option (List PV×Rho)
 | [],ρ=>some ([],ρ)
 |x::xs,ρ=>(ev cal e (iz js ρ x)).bind λw=>match (evM cal q es (iz js ρ x)).bind λvs=>cal (f+2000) vs with
  |some (.tup (v::ds))=>(n_ k w v).bind λr=>(fb q (es.map (su js)) ds ρ).bind λρ'=>(bn cal js k e f q es xs ρ').map λp=>(r::p.1,p.2)
  | _=>none
inductive XE where
 | pure (e:ME)
 | call (f:Nat) (mask:List Bool) (es:List ME)
 | pop (i:Nat)
 | bin (op:Op2) (a:XE) (b:ME)
 | fn (g:Nat) (a:XE) (es:List ME)
 | tup (xs:List XE)
 | tupOf (a:XE)
 | lst (xs:List XE)
 | fn2 (g:Nat) (e:ME) (a:XE)
 | compS (src:ME) (js:List Nat) (k:SK) (e:ME) (f:Nat) (mask:List Bool) (es:List ME)
 | nextw (i:Nat)
 | binR (op:Op2) (a:ME) (x:XE)
 | compR (x:XE) (js:List Nat) (k:SK) (e:ME) (f:Nat) (mask:List Bool) (es:List ME)
 deriving Inhabited
noncomputable def kx(cal:Cal)(i:Nat)(ρ:Rho):Option (PV×Rho):=match cG (ρ[i]?).join with
 |some (.w ws n)=>if cal 4000 []=none then none else (ws[n]?).map λx=>(.str x,b_ ρ i (.w ws (n+1)))
 | _=>none
noncomputable def wO(i:Nat)(ρ:Rho):Option (PV×Rho):=match cG (ρ[i]?).join with
 |some (.p ns)=>(ns.getLast?).map λn=>(.int n,b_ ρ i (.p ns.dropLast))
 | _=>none
mutual
noncomputable def evX(cal:Cal):XE->Rho->Option (PV×Rho)
 | .pure e,ρ=>(ev cal e ρ).map λv=>(v,ρ)
 | .call f mask es,ρ=>jB cal f mask es ρ
 | .pop i,ρ=>wO i ρ
 | .bin op a b,ρ=>(evX cal a ρ).bind λp=>(ev cal b p.2).bind λy=>(eU op p.1 y).map λr=>(r,p.2)
 | .fn g a es,ρ=>(evX cal a ρ).bind λp=>(evA cal es p.2).bind λvs=>(cal g (.val p.1::vs)).map λr=>(r,p.2)
 | .tup xs,ρ=>(evXs cal xs ρ).bind λp=>if p.1.length<=10000 then some (.tup p.1,p.2) else none
 | .lst xs,ρ=>(evXs cal xs ρ).bind λp=>if p.1.length<=10000 then some (.lst p.1,p.2) else none
 | .fn2 g e a,ρ=>(ev cal e ρ).bind λw=>(evX cal a ρ).bind λp=>(cal g [.val w,.val p.1]).map λr=>(r,p.2)
 | .tupOf a,ρ=>(evX cal a ρ).bind λp=>(av .tupleOf [p.1]).map λr=>(r,p.2)
 | .compS src js k e f mask es,ρ=>(evs cal [src] ρ).bind λvs=>(bc .seq vs).bind λxs=>if xs.length<=10000 then (bn cal js k e f mask es xs ρ).map λp=>(.lst p.1,p.2) else none
 | .nextw i,ρ=>kx cal i ρ
 | .binR op a x,ρ=>(ev cal a ρ).bind λv=>(evX cal x ρ).bind λp=>(eU op v p.1).map λr=>(r,p.2)
 | .compR x js k e f mask es,ρ=>(evX cal x ρ).bind λq=>(bc .rng [q.1]).bind λxs=>if xs.length<=10000 then (bn cal js k e f mask es xs q.2).map λp=>(.lst p.1,p.2) else none
noncomputable def evXs(cal:Cal):List XE->Rho->Option (List PV×Rho)
 | [],ρ=>some ([],ρ)
 |x::xs,ρ=>(evX cal x ρ).bind λp=>(evXs cal xs p.2).map λq=>(p.1::q.1,q.2)
end
set_option genInjectivity false in
inductive MS where
 | set (i:Nat) (e:ME)
 | setOwn (i:Nat) (e:ME)
 | freeze (i:Nat)
 | append (i:Nat) (e:ME)
 | extend (i:Nat) (e:ME)
 | setIdx (i:Nat) (k v:ME)
 | unpack (is:List Nat) (e:ME)
 | expr (e:ME)
 | ite (c:ME) (a b:List MS)
 | for1 (i:Nat) (k:Sk) (src:List ME) (body:List MS)
 | forT (is:List Nat) (k:Sk) (src:List ME) (body:List MS)
 | while (n:Nat) (c:ME) (body:List MS)
 | ret (e:ME)
 | retOwn (i:Nat)
 | retN
 | brk
 | cont
 | pass
 | never
 | newD (m:Bool) (i:Nat)
 | retM (e:ME)
 | retF (e:ME)
 | setCall (i f:Nat) (es:List ME)
 | clear (i:Nat)
 | mkW (i:Nat) (e:ME)
 | nomore (i:Nat)
 | isKey (x:Str) (e:ME)
 | setP (i:Nat) (e:ME)
 | setX (i:Nat) (x:XE)
 | appX (i:Nat) (x:XE)
 | retXE (x:XE)
 | forX (i:Nat) (x:XE) (body:List MS)
 | dput (i:Nat) (k v:ME)
 deriving Inhabited
inductive R where
 | next (ρ:Rho)|brk (ρ:Rho)|cont (ρ:Rho)|ret (v:PV)|bad
 | retF (xs:List PV)
 | retM (v:PV) (ρ:Rho)
 deriving Inhabited
noncomputable def R.andThen:R->(Rho->R)->R
 | .next ρ,k=>k ρ
 |r,_=>r
noncomputable def put(ρ:Rho)(i:Nat)(v:MV):Rho:=ρ.set i (some v)
noncomputable def dM(o:Option PV)(k:PV->R):R:=match o with
 |some v=>k v
 |none=>.bad
noncomputable def uJ(o:Option Bool)(k:Bool->R):R:=match o with
 |some v=>k v
 |none=>.bad
noncomputable def BM:List Nat->List PV->Rho->Option Rho
 | [],[],ρ=>some ρ
 |i::is,v::vs,ρ=>BM is vs (put ρ i (.val v))
 | _,_,_=>none
noncomputable def yg(is:List Nat):PV->Rho->Option Rho
 | .tup vs,ρ=>BM is vs ρ
 | _,_=>none
noncomputable def gQ(o:Option Rho)(f:Rho->R):R:=match o with
 |some ρ=>f ρ
 |none=>.bad
noncomputable def a9(body:PV->Rho->R):List PV->Rho->R
 | [],ρ=>.next ρ
 |x::r,ρ=>match body x ρ with
  | .next ρ'=>a9 body r ρ'
  | .cont ρ'=>a9 body r ρ'
  | .brk ρ'=>.next ρ'
  | .ret v=>.ret v
  | .bad=>.bad
  | .retF xs=>.retF xs
  | .retM v ρ'=>.retM v ρ'
noncomputable def mK(c:Rho->Option Bool)(body:Rho->R):Nat->Rho->R
 |0,_=>.bad
 | n + 1,ρ=>match c ρ with
  |none=>.bad
  |some false=>.next ρ
  |some true=>match body ρ with
   | .next ρ'=>mK c body n ρ'
   | .cont ρ'=>mK c body n ρ'
   | .brk ρ'=>.next ρ'
   | .ret v=>.ret v
   | .bad=>.bad
   | .retF xs=>.retF xs
   | .retM v ρ'=>.retM v ρ'
noncomputable def bq(q:List ME)(ρ:Rho):Rho:=match q with
 | [.bor i]=>(match (ρ[i]?).join with|some (.own xs)=>put ρ i (.brw xs)|_=>ρ)
 | _=>ρ
noncomputable def bF(z:List ME)(q ρ:Rho):Rho:=match z with
 | [.bor i]=>(match (q[i]?).join,(ρ[i]?).join with|some (.own _),some (.brw xs)=>put ρ i (.own xs)|_,_=>ρ)
 | _=>ρ
noncomputable def R.back(z:List ME)(q:Rho):R->R
 | .next ρ=>.next (bF z q ρ)
 | .brk ρ=>.brk (bF z q ρ)
 | .cont ρ=>.cont (bF z q ρ)
 | .retM v ρ=>.retM v (bF z q ρ)
 |r=>r
mutual
noncomputable def ex(cal:Cal):MS->Rho->R
 | .set i e,ρ=>dM (ev cal e ρ) λv=>.next (put ρ i (.val v))
 | .setOwn i e,ρ=>dM (ev cal e ρ) λv=>match v with|.lst xs=>.next (put ρ i (.own xs))|_=>.bad
 | .freeze i,ρ=>match (ρ[i]?).join with|some (.own xs)=>.next (put ρ i (.val (.lst xs)))|some _=>.next ρ|none=>.bad
 | .append i e,ρ=>dM (ev cal e ρ) λv=>match (ρ[i]?).join with
  |some (.own xs)=>if xs.length<10000 then .next (put ρ i (.own (xs ++ [v]))) else .bad
  | _=>.bad
 | .extend i e,ρ=>dM (ev cal e ρ) λv=>match (ρ[i]?).join,bE v with
  |some (.own xs),some ys=>if xs.length+ys.length<=10000 then .next (put ρ i (.own (xs++ys))) else .bad
  | _,_=>.bad
 | .setIdx i k v,ρ=>dM (ev cal v ρ) λv=>dM (ev cal k ρ) λk=>match (ρ[i]?).join,k with
  |some (.own xs),.int k=>(match place xs.length k with|some j=>.next (put ρ i (.own (xs.set j v)))|none=>.bad)
  | _,_=>.bad
 | .unpack is e,ρ=>dM (ev cal e ρ) λv=>gQ (yg is v ρ) .next
 | .expr e,ρ=>dM (ev cal e ρ) λ_=>.next ρ
 | .ite c a b,ρ=>uJ (evB cal c ρ) λk=>if k=true then exs cal a ρ else exs cal b ρ
 | .for1 i k src body,ρ=>match (evs cal src ρ).bind (bc k) with
  |some xs=>(a9 (λx ρ'=>exs cal body (put ρ' i (.val x))) xs (bq src ρ)).back src ρ
  |none=>.bad
 | .forT is k src body,ρ=>match (evs cal src ρ).bind (bc k) with
  |some xs=>(a9 (λx ρ'=>gQ (yg is x ρ') λρ''=>exs cal body ρ'') xs (bq src ρ)).back src ρ
  |none=>.bad
 | .while n c body,ρ=>mK (evB cal c) (λρ'=>exs cal body ρ') n ρ
 | .ret e,ρ=>dM (ev cal e ρ) .ret
 | .retOwn i,ρ=>match (ρ[i]?).join with|some (.own xs)=>.ret (.lst xs)|some (.ownD kvs)=>if lx kvs=true then .ret (.dI kvs) else .bad|some (.val v)=>.ret v|_=>.bad
 | .newD m i,ρ=>.next (put ρ i (.ownD (if m=true then .t [] else .k [])))
 | .dput i k v,ρ=>dM (ev cal v ρ) λv=>dM (ev cal k ρ) λk=>match (ρ[i]?).join,sc? v with
  |some (.ownD d),some s=>match zu d k s with|some d'=>.next (put ρ i (.ownD d'))|none=>.bad
  |some (.mutD d),some s=>match zu d k s with|some d'=>.next (put ρ i (.mutD d'))|none=>.bad
  | _,_=>.bad
 | .retM e,ρ=>dM (ev cal e ρ) λv=>.retM v ρ
 | .retF e,ρ=>dM (ev cal e ρ) λv=>match v with|.lst xs=>.retF xs|_=>.bad
 | .setCall i f es,ρ=>dM ((evA cal es ρ).bind λvs=>cal (f+1000) vs) λv=>match v with|.lst xs=>.next (put ρ i (.own xs))|_=>.bad
 | .clear i,ρ=>match (ρ[i]?).join with|some (.own _)=>.next (put ρ i (.own []))|_=>.bad
 | .setP i e,ρ=>match ev cal e ρ with
  |some (.lst xs)=>(match bB xs with
   |some ns=>.next (put ρ i (.ownD (.p ns.reverse)))
   |none=>.bad)
  | _=>.bad
 | .mkW i e,ρ=>match ev cal e ρ with
  |some (.str x)=>if x.length<=1000000/\(Txt.split x (" ":Str)).length<=1000000/\cal 4000 []≠none then .next (put ρ i (.ownD (.w (Txt.split x (" ":Str)) 0))) else .bad
  | _=>.bad
 | .nomore i,ρ=>match cG (ρ[i]?).join with
  |some (.w ws n)=>if n=ws.length/\cal 4000 []≠none then .next ρ else .bad
  | _=>.bad
 | .isKey x e,ρ=>match (ev cal e ρ).bind (fK x) with
  |some _=>.next ρ
  |none=>.bad
 | .setX i x,ρ=>match evX cal x ρ with
  |some (v,ρ')=>.next (put ρ' i (.val v))
  |none=>.bad
 | .appX i x,ρ=>match (ρ[i]?).join with
  | some (.own _)=>(match evX cal x ρ with
   |some (v,ρ')=>(match (ρ'[i]?).join with
    |some (.own xs)=>if xs.length<10000 then .next (put ρ' i (.own (xs ++ [v]))) else .bad
    | _=>.bad)
   |none=>.bad)
  | _=>.bad
 | .retXE x,ρ=>match evX cal x ρ with
  |some (v,ρ')=>.retM v ρ'
  |none=>.bad
 | .forX i x body,ρ=>match evX cal x ρ with
  |some (v,ρ')=>(match bc .rng [v] with
   |some xs=>a9 (λy ρ''=>exs cal body (put ρ'' i (.val y))) xs ρ'
   |none=>.bad)
  |none=>.bad
 | .retN,_=>.ret .non
 | .brk,ρ=>.brk ρ
 | .cont,ρ=>.cont ρ
 | .pass,ρ=>.next ρ
 | .never,_=>.bad
noncomputable def exs(cal:Cal):List MS->Rho->R
 | [],ρ=>.next ρ
 |s::ss,ρ=>(ex cal s ρ).andThen λρ'=>exs cal ss ρ'
end
structure MD where
 name:Str
 params:List Str
 names:List Str
 body:List MS
 deriving Inhabited
noncomputable def bG:List MV->Rho->Option (List PV)
 | [],_=>some []
 | .mutD _::as,some (.mutD d)::ρ=>(bG as ρ).map (.dI d::·)
 | .val _::as,_::ρ=>bG as ρ
 | _,_=>none
noncomputable def aa(ds:List MD):Nat->Cal
 |0,_,_=>none
 | n + 1,f,args=>match ds[f]? with
  |none=>if 2000<=f then (
   if f=4000 then (if 4<=n then some (.bl true) else none) else
   match ds[f-2000]? with
   |none=>none
   | some d=>if args.length=d.params.length then
     (match exs (aa ds n) d.body (args.map some++replicate (d.names.length-args.length) none) with
     | .retM v ρ=>(bG args ρ).map λds=>.tup (v::ds)
     | _=>none) else none) else
   (match ds[f-1000]? with
   |none=>none
   | some d=>if args.length=d.params.length then
     (match exs (aa ds n) d.body (args.map some++replicate (d.names.length-args.length) none) with
     | .retF xs=>some (.lst xs)
     | _=>none) else none)
  | some d=>if args.length=d.params.length then
    (match exs (aa ds n) d.body (args.map some++replicate (d.names.length-args.length) none) with
    | .next _=>some .non
    | .ret v=>some v
    | .retF xs=>some (.lst xs)
    | _=>none) else none
end MM
namespace MM
open PySem PySem.Spec PyProof.Rows L2 List Option
noncomputable abbrev St:=L2.St
noncomputable def aj(H:Hp)(O:List Addr):Hp:=λb=>if b∈O then none else H b
theorem dv{H:Hp}{O:List Addr}{b:Addr}(h:b∈O):aj H O b=none:=if_pos h
theorem aL{H:Hp}{O:List Addr}{b:Addr}(h:b∉O):aj H O b=H b:=if_neg h
theorem ae.rd{H H':Hp}(s:ae H H'){a:Addr}{u:HO}(h:Rd H a u):Rd H' a u:=h.elim (λe=>.inl (s a _ e)) λ⟨o,e⟩=>.inr ⟨o,s a _ e⟩
theorem br(H:Hp)(O:List Addr):ae (aj H O) H:=λb u e=>by
 unfold aj at e;split at e
 ·cases e
 ·exact e
theorem bj{H H':Hp}{O D:List Addr}(s:ae H H')(h:∀b∈D,b∈O\/H b=none):ae (aj H O) (aj H' D):=λb u e=>by
 have J:b∉O:=λz=>by rw[dv z]at e;cases e
 rw[aL J]at e;rw[aL]
 ·exact s b u e
 ·intro z;rcases h b z with q|q
  ·exact J q
  ·rw[q]at e;cases e
theorem af{H H':Hp}{O:List Addr}(s:ae H H'):ae (aj H O) (aj H' O):=bj s λ_ h=>.inl h
noncomputable def Sc.v:Sc->V
 | .non=>.non
 | .bl b=>.bl b
 | .int i=>.int i
 | .str x=>.str x
noncomputable def p6(kvs:List (Int×Sc)):List (Key×V):=kvs.map λp=>(Sum.inl p.1,p.2.v)
noncomputable def wQ(kvs:List (List Int×Sc)):List (List Key×V):=kvs.map λp=>(p.1.map Sum.inl,p.2.v)
noncomputable def iA:DD->HO
 | .k kvs=>.dK (p6 kvs)
 | .t kvs=>.dT (wQ kvs)
 | .p ns=>.lst (ns.map V.int)
 | .w _ _=>.lst []
noncomputable def RdD(F:Hp)(a:Addr)(d:DD):Prop:=Rd F a (iA d)/\lx d=true
theorem RdD.rd{F:Hp}{a:Addr}{d:DD}(h:RdD F a d):Rd F a (iA d):=h.1
theorem ae.rdD{H H':Hp}(s:ae H H'){a:Addr}{d:DD}(h:RdD H a d):RdD H' a d:=⟨ae.rd s h.1,h.2⟩
mutual
noncomputable def Rep(K:PySem.W.Frag)(F:Hp):PV->V->Prop
 | .non,u=>u=.non
 | .bl b,u=>u=.bl b
 | .int i,u=>u=.int i
 | .str x,u=>u=.str x
 | .tup xs,u=>∃a us,u=.ref a/\SqT K F a us/\Reps K F xs us
 | .lst xs,u=>∃a us,u=.ref a/\SqL K F a us/\Reps K F xs us
 | .dI kvs,u=>∃a,u=.ref a/\RdD F a kvs
noncomputable def Reps(K:PySem.W.Frag)(F:Hp):List PV->List V->Prop
 | [],us=>us=[]
 |x::xs,us=>∃u r,us=u::r/\Rep K F x u/\Reps K F xs r
end
section
variable{K:PySem.W.Frag}{F F':Hp}
mutual
theorem Rep.mono(s:ae F F'):∀(x:PV) {u:V},Rep K F x u->Rep K F' x u
 | .non,_,h=>by simpa only[Rep] using h
 | .bl _,_,h=>by simpa only[Rep] using h
 | .int _,_,h=>by simpa only[Rep] using h
 | .str _,_,h=>by simpa only[Rep] using h
 | .tup xs,_,h=>by
  rw[Rep]at h ⊢;obtain⟨a,us,e,q,r⟩:=h;exact⟨a,us,e,s.seqT q,Reps.mono s xs r⟩
 | .lst xs,_,h=>by
  rw[Rep]at h ⊢;obtain⟨a,us,e,q,r⟩:=h;exact⟨a,us,e,s.seq q,Reps.mono s xs r⟩
 | .dI kvs,_,h=>by
  rw[Rep]at h ⊢;obtain⟨a,e,q⟩:=h;exact⟨a,e,ae.rdD s q⟩
theorem Reps.mono(s:ae F F'):∀(xs:List PV) {us:List V},Reps K F xs us->Reps K F' xs us
 | [],_,h=>by simpa only[Reps] using h
 |x::xs,_,h=>by
  rw[Reps]at h ⊢;obtain⟨u,r,e,q,t⟩:=h;exact⟨u,r,e,Rep.mono s x q,Reps.mono s xs t⟩
end
theorem Reps.nil:Reps K F [] []:=by rw[Reps]
theorem Reps.cons{x:PV}{xs:List PV}{u:V}{us:List V}(h:Rep K F x u)(t:Reps K F xs us):Reps K F (x::xs) (u::us):=by
 rw[Reps];exact⟨u,us,rfl,h,t⟩
theorem Reps.length:∀{xs:List PV}{us:List V},Reps K F xs us->xs.length=us.length
 | [],_,h=>by rw[Reps]at h;subst h;rfl
 |x::xs,_,h=>by
  rw[Reps]at h;obtain⟨u,r,e,_,t⟩:=h;subst e;simp[Reps.length t]
theorem Reps.get:∀{xs:List PV}{us:List V}{i:Nat}{x:PV},Reps K F xs us->xs[i]?=some x->∃u,us[i]?=some u/\Rep K F x u
 | [],_,_,_,_,e=>by simp at e
 |x::xs,_,i,y,h,e=>by
  rw[Reps]at h;obtain⟨u,r,rfl,q,t⟩:=h;cases i with
  |zero=>simp at e;subst e;exact⟨u,by simp,q⟩
  |succ i=>obtain⟨w,h1,h2⟩:=Reps.get (i:=i) t (by simpa using e);exact⟨w,by simpa using h1,h2⟩
theorem Reps.get':∀{xs:List PV}{us:List V}{i:Nat}{u:V},Reps K F xs us->us[i]?=some u->∃x,xs[i]?=some x/\Rep K F x u
 | [],_,i,_,h,e=>by rw[Reps]at h;subst h;simp at e
 |x::xs,_,i,y,h,e=>by
  rw[Reps]at h;obtain⟨u,r,rfl,q,t⟩:=h;cases i with
  |zero=>simp at e;subst e;exact⟨x,by simp,q⟩
  |succ i=>obtain⟨w,h1,h2⟩:=Reps.get' (i:=i) t (by simpa using e);exact⟨w,by simpa using h1,h2⟩
theorem Reps.append:∀{xs ys:List PV}{us ws:List V},Reps K F xs us->Reps K F ys ws->Reps K F (xs++ys) (us++ws)
 | [],_,_,_,h,g=>by rw[Reps]at h;subst h;exact g
 |x::xs,_,_,_,h,g=>by
  rw[Reps]at h;obtain⟨u,r,rfl,q,t⟩:=h;exact .cons q (Reps.append t g)
theorem Reps.snoc{xs:List PV}{us:List V}{x:PV}{u:V}(h:Reps K F xs us)(g:Rep K F x u):Reps K F (xs ++ [x]) (us ++ [u]):=h.append (.cons g .nil)
theorem Reps.take:∀{xs:List PV}{us:List V} (n:Nat),Reps K F xs us->Reps K F (xs.take n) (us.take n)
 | _,_,0,_=>by simpa using Reps.nil
 | [],_,n+1,h=>by rw[Reps]at h;subst h;simpa using Reps.nil
 |x::xs,_,n+1,h=>by
  rw[Reps]at h;obtain⟨u,r,rfl,q,t⟩:=h;exact .cons q (Reps.take n t)
theorem Reps.drop:∀{xs:List PV}{us:List V} (n:Nat),Reps K F xs us->Reps K F (xs.drop n) (us.drop n)
 | _,_,0,h=>h
 | [],_,n+1,h=>by rw[Reps]at h;subst h;simpa using Reps.nil
 |x::xs,_,n+1,h=>by
  rw[Reps]at h;obtain⟨u,r,rfl,q,t⟩:=h;exact Reps.drop n t
theorem Reps.ints:∀{ns:List Int}{us:List V},Reps K F (ns.map .int) us->us=ns.map V.int
 | [],_,h=>by simpa[Reps] using h
 |n::ns,_,h=>by
  rw[map_cons,Reps]at h;obtain⟨u,r,rfl,q,t⟩:=h;rw[Rep]at q;rw[q,Reps.ints t];rfl
theorem Reps.of_ints:∀(ns:List Int),Reps K F (ns.map .int) (ns.map V.int)
 | []=>.nil
 |n::ns=>.cons (by rw[Rep]) (Reps.of_ints ns)
theorem gf:∀{xs:List PV}{ns:List Int},bB xs=some ns->xs=ns.map .int
 | [],_,h=>by simp[bB]at h;subst h;rfl
 | .int i::r,ns,h=>by
  simp only[bB,map_eq_some_iff]at h;obtain⟨ms,h1,rfl⟩:=h;rw[gf h1];rfl
 | .non::_,_,h=>by simp[bB]at h
 | .bl _::_,_,h=>by simp[bB]at h
 | .str _::_,_,h=>by simp[bB]at h
 | .tup _::_,_,h=>by simp[bB]at h
 | .lst _::_,_,h=>by simp[bB]at h
 | .dI _::_,_,h=>by simp[bB]at h
theorem oa:∀{xs:List PV}{ns:List (List Int)},fw xs=some ns->xs=ns.map λt=>.tup (t.map .int)
 | [],_,h=>by simp[fw]at h;subst h;rfl
 | .tup i::r,ns,h=>by
  simp only[fw,bind_eq_some_iff,map_eq_some_iff]at h;obtain⟨t,h0,ms,h1,rfl⟩:=h;rw[oa h1,gf h0];rfl
 | .non::_,_,h=>by simp[fw]at h
 | .bl _::_,_,h=>by simp[fw]at h
 | .str _::_,_,h=>by simp[fw]at h
 | .int _::_,_,h=>by simp[fw]at h
 | .lst _::_,_,h=>by simp[fw]at h
 | .dI _::_,_,h=>by simp[fw]at h
theorem i8:∀{xs:List PV}{ns:List Bool},cb xs=some ns->xs=ns.map .bl
 | [],_,h=>by simp[cb]at h;subst h;rfl
 | .bl i::r,ns,h=>by
  simp only[cb,map_eq_some_iff]at h;obtain⟨ms,h1,rfl⟩:=h;rw[i8 h1];rfl
 | .non::_,_,h=>by simp[cb]at h
 | .int _::_,_,h=>by simp[cb]at h
 | .str _::_,_,h=>by simp[cb]at h
 | .tup _::_,_,h=>by simp[cb]at h
 | .lst _::_,_,h=>by simp[cb]at h
 | .dI _::_,_,h=>by simp[cb]at h
end
theorem dE{K:PySem.W.Frag}{H:Hp}{a:Addr}{us:List V}(h:SqT K H a us):SqT K H a us:=h
noncomputable def bH(K:PySem.W.Frag)(H:Hp)(O:List Addr)(v:PV)(u:V):Prop:=
 Rep K (aj H O) v u\/(∃xs a us,v=.lst xs/\u=.ref a/\SqL K H a us/\Reps K (aj H O) xs us)\/∃kvs a,v=.dI kvs/\u=.ref a/\RdD H a kvs
section
variable{K:PySem.W.Frag}{H H':Hp}{O:List Addr}
theorem bH.mono(s:ae H H'){v:PV}{u:V}(h:bH K H O v u):bH K H' O v u:=by
 rcases h with h|⟨xs,a,us,z,D,q,r⟩|⟨kvs,a,z,D,q⟩
 ·exact .inl (Rep.mono (af s) _ h)
 ·exact .inr (.inl ⟨xs,a,us,z,D,s.seq q,Reps.mono (af s) _ r⟩)
 ·exact .inr (.inr ⟨kvs,a,z,D,ae.rdD s q⟩)
theorem bH.lst{xs:List PV}{u:V}(h:bH K H O (.lst xs) u):∃a us,u=.ref a/\SqL K H a us/\Reps K (aj H O) xs us:=by
 rcases h with h|⟨ys,a,us,z,D,q,r⟩|⟨kvs,a,z,D,q⟩
 ·rw[Rep]at h;obtain⟨a,us,e,q,r⟩:=h;exact⟨a,us,e,(br H O).seq q,r⟩
 ·cases z;exact⟨a,us,D,q,r⟩
 ·cases z
theorem bH.tup{xs:List PV}{u:V}(h:bH K H O (.tup xs) u):∃a us,u=.ref a/\SqT K H a us/\Reps K (aj H O) xs us:=by
 rcases h with h|⟨ys,a,us,z,D,q,r⟩|⟨kvs,a,z,D,q⟩
 ·rw[Rep]at h;obtain⟨a,us,e,q,r⟩:=h;exact⟨a,us,e,(br H O).seqT q,r⟩
 ·cases z
 ·cases z
theorem bH.tupR{xs:List PV}{u:V}(h:bH K H O (.tup xs) u):Rep K (aj H O) (.tup xs) u:=by
 rcases h with h|⟨ys,a,us,z,D,q,r⟩|⟨kvs,a,z,D,q⟩
 ·exact h
 ·cases z
 ·cases z
theorem bH.dI{kvs:DD}{u:V}(h:bH K H O (.dI kvs) u):∃a,u=.ref a/\RdD H a kvs:=by
 rcases h with h|⟨ys,a,us,z,D,q,r⟩|⟨kvs,a,z,D,q⟩
 ·rw[Rep]at h;obtain⟨a,e,q⟩:=h;exact⟨a,e,ae.rdD (br H O) q⟩
 ·cases z
 ·cases z;exact⟨a,D,q⟩
theorem bH.int{i:Int}{u:V}(h:bH K H O (.int i) u):u=.int i:=by
 rcases h with h|⟨ys,a,us,z,D,q,r⟩|⟨kvs,a,z,D,q⟩
 ·rw[Rep]at h;exact h
 ·cases z
 ·cases z
theorem bH.bl{i:Bool}{u:V}(h:bH K H O (.bl i) u):u=.bl i:=by
 rcases h with h|⟨ys,a,us,z,D,q,r⟩|⟨kvs,a,z,D,q⟩
 ·rw[Rep]at h;exact h
 ·cases z
 ·cases z
theorem bH.str{i:Str}{u:V}(h:bH K H O (.str i) u):u=.str i:=by
 rcases h with h|⟨ys,a,us,z,D,q,r⟩|⟨kvs,a,z,D,q⟩
 ·rw[Rep]at h;exact h
 ·cases z
 ·cases z
theorem bH.non{u:V}(h:bH K H O .non u):u=.non:=by
 rcases h with h|⟨ys,a,us,z,D,q,r⟩|⟨kvs,a,z,D,q⟩
 ·rw[Rep]at h;exact h
 ·cases z
 ·cases z
theorem bH.seq{v:PV}{xs:List PV}{u:V}(h:bH K H O v u)(e:bE v=some xs):∃a us,u=.ref a/\(SqL K H a us\/SqT K H a us)/\Reps K (aj H O) xs us:=by
 cases v with
 |lst ys=>simp[bE]at e;subst e;obtain⟨a,us,e,q,r⟩:=h.lst;exact⟨a,us,e,.inl q,r⟩
 |tup ys=>simp[bE]at e;subst e;obtain⟨a,us,e,q,r⟩:=h.tup;exact⟨a,us,e,.inr q,r⟩
 | _=>simp[bE]at e
theorem bH.whole{v:PV}{u:V}(h:bH K H O v u):Rep K H v u:=by
 rcases h with h|⟨xs,a,us,rfl,z,q,r⟩|⟨kvs,a,rfl,z,q⟩
 ·exact Rep.mono (br H O) _ h
 ·rw[Rep];exact⟨a,us,z,q,Reps.mono (br H O) _ r⟩
 ·rw[Rep];exact⟨a,z,q⟩
end
noncomputable def IsW (K:PySem.W.Frag) (C:Addr):Prop:=PySem.W.nsIn K mainGlobals "Words"=some (some (.ref C))
noncomputable def DAt(K:PySem.W.Frag)(H:Hp)(O:List Addr)(a:Addr):DD->Prop
 | .w ws n=>∃C dx l,H a=some (.ins C dx [("words",.ref l),("place",.int (n:Nat))])/\IsW K C/\SqL K (aj H O) l (ws.map V.str)
 |d=>H a=some (iA d)
theorem DAt.enc{K:PySem.W.Frag}{H:Hp}{O:List Addr}{a:Addr}{d:DD}(h:DAt K H O a d)(hw:pY d=true):H a=some (iA d):=by
 cases d<;>first|exact h|cases hw
theorem DAt.np{K:PySem.W.Frag}{H:Hp}{O:List Addr}{a:Addr}{d:DD}(h:DAt K H O a d)(hw:lx d=true):H a=some (iA d):=by
 cases d<;>first|exact h|cases hw
theorem ifW{d:DD}{m:MV}(e:(if pY d=true then some (MV.brwD d) else none)=some m):m=.brwD d/\pY d=true:=by
 split at e
 ·rename_i h;exact⟨(Option.some.inj e).symm,h⟩
 ·cases e
theorem DAt.here{K:PySem.W.Frag}{H:Hp}{O:List Addr}{a:Addr}{d:DD}(h:DAt K H O a d):∃o,H a=some o:=by
 cases d<;>first|exact⟨_,h⟩|exact let ⟨_,_,_,e,_⟩:=h;⟨_,e⟩
theorem DAt.move{K:PySem.W.Frag}{H H':Hp}{O q:List Addr}{a:Addr}{d:DD}(h:DAt K H O a d)(e:∀o,H a=some o->H' a=some o)(v:ae (aj H O) (aj H' q)):DAt K H' q a d:=by
 cases d with
 |w ws n=>exact let ⟨C,dx,l,h1,h2,h3⟩:=h;⟨C,dx,l,e _ h1,h2,v.seq h3⟩
 |k _=>exact e _ h
 |t _=>exact e _ h
 |p _=>exact e _ h
noncomputable def ez(K:PySem.W.Frag)(B:Hp)(O:List Addr)(H:Hp):MV->V->Prop
 | .val v,u=>Rep K (aj H O) v u
 | .own xs,u=>∃a us,u=.ref a/\H a=some (.lst us)/\Reps K (aj H O) xs us/\a∈O/\B a=none
 | .brw xs,u=>∃a us,u=.ref a/\SqL K B a us/\Reps K (aj H O) xs us
 | .ownD kvs,u=>∃a,u=.ref a/\DAt K H O a kvs/\a∈O/\B a=none
 | .mutD kvs,u=>∃a,u=.ref a/\DAt K H O a kvs/\a∈O/\B a=none
 | .brwD kvs,u=>∃a,u=.ref a/\Rd B a (iA kvs)
noncomputable def gh:MV->Bool
 | .own _=>true
 | .ownD _=>true
 | .mutD _=>true
 | _=>false
structure aw(K:PySem.W.Frag)(B:Hp)(O₀ O:List Addr)(H:Hp)(ρ:Rho)(σ:St):Prop where
 keep:ae B H
 here:∀a∈O,H a≠none
 sub:∀a∈O₀,a∈O
 old:∀a∈O₀,B a≠none
 len:ρ.length=σ.length
 slot:∀(i:Nat) (m:MV),ρ[i]?=some (some m)->∃u,σ[i]?=some (some u)/\ez K B O H m u
 apart:∀(i j:Nat) (m m':MV) (a:Addr),i≠j->ρ[i]?=some (some m)->ρ[j]?=some (some m')->gh m=true->gh m'=true->σ[i]?=some (some (.ref a))->σ[j]?≠some (some (.ref a))
section
variable{K:PySem.W.Frag}{B H H':Hp}{O₀ O:List Addr}{ρ:Rho}{σ:St}
theorem ez.mono(s:ae H H'){m:MV}{u:V}(h:ez K B O H m u):ez K B O H' m u:=by
 cases m with
 |val v=>exact Rep.mono (af s) _ h
 |own xs=>obtain⟨a,us,e,q,r,h1,h2⟩:=h;exact⟨a,us,e,s _ _ q,Reps.mono (af s) _ r,h1,h2⟩
 |brw xs=>obtain⟨a,us,e,q,r⟩:=h;exact⟨a,us,e,q,Reps.mono (af s) _ r⟩
 |ownD kvs=>obtain⟨a,e,q,h1,h2⟩:=h;exact⟨a,e,q.move (s _) (af s),h1,h2⟩
 |mutD kvs=>obtain⟨a,e,q,h1,h2⟩:=h;exact⟨a,e,q.move (s _) (af s),h1,h2⟩
 |brwD kvs=>exact h
theorem aw.mono(s:ae H H')(h:aw K B O₀ O H ρ σ):aw K B O₀ O H' ρ σ where
 keep:=h.keep.trans s
 here:=λa z e=>h.here a z (s.free e)
 sub:=h.sub
 old:=h.old
 len:=h.len
 slot:=λi m e=>let ⟨u,D,q⟩:=h.slot i m e;⟨u,D,q.mono s⟩
 apart:=h.apart
theorem ez.bor{m:MV}{u:V}{v:PV}(z:ae B H)(h:ez K B O H m u)(e:bV (some m)=some v):bH K H O v u:=by
 cases m with
 |val w=>simp[bV]at e;subst e;exact .inl h
 |own xs=>simp[bV]at e;subst e;obtain⟨a,us,e,q,r,_⟩:=h;exact .inr (.inl ⟨xs,a,us,rfl,e,SqL.of q,r⟩)
 |brw xs=>simp[bV]at e;subst e;obtain⟨a,us,e,q,r⟩:=h;exact .inr (.inl ⟨xs,a,us,rfl,e,z.seq q,r⟩)
 |ownD kvs=>simp[bV]at e;obtain⟨np,rfl⟩:=e;obtain⟨a,e,q,_⟩:=h;exact .inr (.inr ⟨kvs,a,rfl,e,.inl (q.np np),np⟩)
 |mutD kvs=>simp[bV]at e;obtain⟨np,rfl⟩:=e;obtain⟨a,e,q,_⟩:=h;exact .inr (.inr ⟨kvs,a,rfl,e,.inl (q.np np),np⟩)
 |brwD kvs=>simp[bV]at e;obtain⟨np,rfl⟩:=e;obtain⟨a,e,q⟩:=h;exact .inr (.inr ⟨kvs,a,rfl,e,ae.rd z q,np⟩)
end
theorem ax{α:Type}{o:Option (Option α)}{x:α}(h:o.join=some x):o=some (some x):=by
 cases o with
 |none=>simp at h
 |some y=>cases y with
  |none=>simp at h
  |some z=>simp at h;rw[h]
theorem wT{d:DD}{v:PV}(h:bV (some (.ownD d))=some v):v=.dI d:=by
 simp[bV]at h;exact h.2.symm
theorem wU{d:DD}{v:PV}(h:bV (some (.brwD d))=some v):v=.dI d:=by
 simp[bV]at h;exact h.2.symm
theorem wV{d:DD}{v:PV}(h:bV (some (.mutD d))=some v):v=.dI d:=by
 simp[bV]at h;exact h.2.symm
structure Tab where
 fs:List Str
 gs:List (Str×PV)
 ds:List (List Sc)
noncomputable def zv(sc:Scope)(x:Str):Bool:=sc.names.lookup x==some .local || sc.names.lookup x==some .cell || sc.names.lookup x==some .free
noncomputable def fX(sc:Scope)(x:Str):Bool:=sc.names.lookup x==some .local || sc.names.lookup x==some .cell
noncomputable def glB(sc:Scope)(x:Str):Bool:=sc.names.lookup x==some .globalImplicit
noncomputable def ah (x:Str):Bool:=!(x==("__debug__":Str))&&!(x==("__classdict__":Str))&&!(x==("__name__":Str))
noncomputable def aG(N:List Str)(sc:Scope)(i:Nat)(x:Str):Bool:=N[i]?==some x&&zv sc x&&ah x
noncomputable def al:ME->Bool
 | .bor _=>true
 | _=>false
noncomputable def jC:Op2->Operator
 | .add=>.Add|.sub=>.Sub|.mul=>.Mult|.fdiv=>.FloorDiv|.mod=>.Mod|.pow=>.Pow|.shr=>.RShift
noncomputable def gK:Cp->CmpOp
 | .eq=>.Eq|.ne=>.NotEq|.lt=>.Lt|.le=>.LtE|.gt=>.Gt|.ge=>.GtE|.isN=>.Is|.notN=>.IsNot|.isIn=>.In|.notIn=>.NotIn
noncomputable def mM:PV->Const->Bool
 | .non,.none=>true
 | .bl a,.bool b=>a==b
 | .int a,.int b=>a==b
 | .str a,.str b=>a==b
 | _,_=>false
noncomputable def yh:PV->PV->Bool
 | .non,.non=>true
 | .bl a,.bl b=>a==b
 | .int a,.int b=>a==b
 | .str a,.str b=>a==b
 | _,_=>false
noncomputable def uK(gs:List (Str×PV))(x:Str)(v:PV):Bool:=gs.any λp=>p.1==x&&yh p.2 v
noncomputable def ab:Expr->Bool
 | .Starred ..=>false
 | _=>true
noncomputable def dF:Expr->Bool
 | .Set ..=>false
 | _=>true
noncomputable def dz:Expr->Bool
 | .Slice ..=>false
 | _=>true
noncomputable def cD:Expr->Bool
 | .ListComp ..=>false
 | .SetComp ..=>false
 | .DictComp ..=>false
 | _=>true
noncomputable def i9:Expr->Bool
 | .UnaryOp .Not _ _=>false
 | .BoolOp ..=>false
 | .IfExp ..=>false
 | .Compare ..=>false
 | _=>true
noncomputable def lS:Blt->String
 | .strOf=>"str"
 | .len=>"len" | .tupleOf=>"tuple" | .listOf=>"list" | .sorted=>"sorted" | .any=>"any" | .all=>"all" | .sum=>"sum" | .max1=>"max" | .min1=>"min" | .max2=>"max" | .min2=>"min"
 | .intOf=>"int" | .boolOf=>"bool" | .isInt=>"isinstance" | .isBool=>"isinstance" | .isStr=>"isinstance" | .isList=>"isinstance" | .isTuple=>"isinstance" | .sortedKeys=>"sorted" | .valuesOf=>"list" | .sortedSet=>"sorted" | .lenSet=>"len" | .lenSetSub=>"len" | .tupleRev=>"tuple"
noncomputable def cH:Blt->Option String
 | .isInt=>some "int" | .isBool=>some "bool" | .isStr=>some "str" | .isList=>some "list" | .isTuple=>some "tuple"
 | _=>none
noncomputable def dY:Blt->Option Nat
 | .len|.tupleOf|.listOf|.sorted|.any|.all|.sum|.intOf|.boolOf|.max1|.sortedKeys=>some 1
 | .strOf=>some 1
 | .max2|.min2=>some 2
 | _=>none
noncomputable def bW(osc:Scope)(N:List Str)(scope:Scope)(x:Str)(fvs:List Str)(js:List Nat):Bool:=
 decide (∀y∈scope.names,y.2=.cell->y.1=x)&&decide (scope.names.lookup x=some .local/\(scope.names.filter λy=>y.2==.cell)=[]\/scope.names.lookup x=some .cell/\(scope.names.filter λy=>y.2==.cell)=[(x,.cell)])
 &&decide (∀y∈scope.names,y.2=.free->y.1≠x)&&scope.kind==.function&&decide (∀y∈scope.names,y.2=.local->scope.names.lookup y.1=some .local)
 &&decide ((x::fvs).Nodup)&&decide (∀y∈scope.names,y.2=.free->osc.names.lookup y.1=some .cell\/osc.names.lookup y.1=some .free)&&decide ((js.map λj=>N[j]?)=fvs.map some)
 &&decide (∀y∈fvs,scope.names.lookup y=some .free)
noncomputable def aF(N:List Str)(js:List Nat):List Str:=js.map λj=>(N[j]?).getD Str.empty
noncomputable def fB(osc:Scope)(N:List Str)(scope:Scope)(x y:Str)(fvs:List Str)(js:List Nat):Bool:=
 decide ((scope.names.filter λy=>y.2==.cell)=[])&&decide (scope.names.lookup x=some .local)&&decide (scope.names.lookup y=some .local)
 &&decide (∀y∈scope.names,y.2=.free->y.1≠x)&&scope.kind==.function&&decide (∀y∈scope.names,y.2=.local->scope.names.lookup y.1=some .local)
 &&decide ((x::([y]++fvs)).Nodup)&&decide (∀y∈scope.names,y.2=.free->osc.names.lookup y.1=some .cell\/osc.names.lookup y.1=some .free)&&decide ((js.map λj=>N[j]?)=fvs.map some)
 &&decide (∀y∈fvs,scope.names.lookup y=some .free)
noncomputable def mO:Expr->Option (Expr×Expr×List Expr×Scope×Str×Str)
 | .ListComp e [⟨.Tuple [.Name x _,.Name y _] _ _,it,ifs,0⟩] scope _=>some (e,it,ifs,scope,x,y)
 | _=>none
theorem sw{e:Expr}{q:Expr×Expr×List Expr×Scope×Str×Str}(h:mO e=some q):∃px z j tp pos,e=.ListComp q.1 [⟨.Tuple [.Name q.2.2.2.2.1 px,.Name q.2.2.2.2.2 z] j tp,q.2.1,q.2.2.1,0⟩] q.2.2.2.1 pos:=by
 unfold mO at h;split at h
 ·cases h;exact⟨_,_,_,_,_,rfl⟩
 ·cases h
noncomputable def dg(sc:Scope)(tup:Bool)(f:List Expr->Bool):Sk->Expr->Bool
 | .seq,it=>dF it&&f [it]
 | .rng,.Call (.Name x _) args [] _=>x==("range":Str)&&glB sc x&&f args&&(args.length==1 || args.length==2)
 | .rev,_=>false
 | .enm,_=>false
 | .chr,it=>dF it&&f [it]
 | .zip,.Call (.Name x _) [a,b] [] _=>tup&&x==("zip":Str)&&glB sc x&&f [a,b]&&ab a&&ab b
 | _,_=>false
noncomputable def ky(sc:Scope)(f:List Expr->Bool)(n:Nat)(c:String):List Expr->Bool
 | [x,.Name t _]=>t==(c:Str)&&glB sc t&&f [x]&&n==1
 | _=>false
noncomputable def Es:Expr->Bool
 | .Name _ _=>true
 | .Call _ (_::_) _ _=>true
 | _=>false
noncomputable def cM(sc:Scope)(f:List Expr->Bool)(n:Nat)(b:Blt)(args:List Expr):Bool:=match b with
 | .sortedSet=>(match args with|[.Call (.Name g _) [x] [] _]=>g==("set":Str)&&glB sc g&&f [x]&&n==1|_=>false)
 | .lenSet=>false
 | .lenSetSub=>false
 | .tupleRev=>false
 | .valuesOf=>false
 | .sortedKeys=>false
 | .max1=>false
 | .sum=>false
 | .max2=>false
 | .min2=>false
 | .boolOf=>false
 | .isList=>false
 |b=>match cH b with
  |some c=>ky sc f n c args
  |none=>dY b==some n&&f args
noncomputable def fc:ME->Bool
 | .cst .non=>true
 | _=>false
noncomputable def gi(f:Expr->Bool)(non:Bool):Option Expr->Bool
 |none=>non
 |some l=>f l&&!non
noncomputable def gj(f:Expr->Bool)(m:ME):List Expr->Bool
 | []=>(match m with|.cst (.bl true)=>true|_=>false)
 | [c]=>f c
 | _=>false
noncomputable def qQ(f:Expr->Bool)(op:BoolOp)(pos:Pos)(y:Expr):List Expr->Bool
 | []=>f y
 |z::r=>f (.BoolOp op (y::z::r) pos)
noncomputable def onQ{α:Type}:Option α->(α->Bool)->Bool
 |some a,f=>f a
 |none,_=>false
theorem bL{α:Type}{o:Option α}{f:α->Bool}(h:onQ o f=true):∃a,o=some a/\f a=true:=by
 cases o with
 |none=>cases h
 |some a=>exact⟨a,rfl,h⟩
noncomputable def qR:Expr->Option (Str×Str×Expr×Pos×Pos)
 | .Call (.Attribute (.Constant (.str x) _ _) m ap) [e] [] q=>some (x,m,e,ap,q)
 | _=>none
theorem uL{e:Expr}{q:Str×Str×Expr×Pos×Pos}(h:qR e=some q):∃j p,e=.Call (.Attribute (.Constant (.str q.1) j p) q.2.1 q.2.2.2.1) [q.2.2.1] [] q.2.2.2.2:=by
 unfold qR at h;split at h
 ·cases h;exact⟨_,_,rfl⟩
 ·cases h
noncomputable def qS:Expr->Option (Str×Expr)
 | .Subscript (.Name x _) e _=>some (x,e)
 | _=>none
theorem uM{e:Expr}{q:Str×Expr}(h:qS e=some q):∃p pos,e=.Subscript (.Name q.1 p) q.2 pos:=by
 unfold qS at h;split at h
 ·cases h;exact⟨_,_,rfl⟩
 ·cases h
noncomputable def qT:Expr->Option (Str×Str)
 | .Call (.Name x _) [.Name y _] [] _=>some (x,y)
 | _=>none
theorem wW{e:Expr}{q:Str×Str}(h:qT e=some q):∃p p2 pos,e=.Call (.Name q.1 p) [.Name q.2 p2] [] pos:=by
 unfold qT at h;split at h
 ·cases h;exact⟨_,_,_,rfl⟩
 ·cases h
mutual
noncomputable def chk(T:Tab):ME->List Str->Scope->Expr->Bool
 | .var i,N,sc,z=>(match z with|.Name x _=>aG N sc i x|_=>false)
 | .bor i,N,sc,z=>(match z with|.Name x _=>aG N sc i x|_=>false)
 | .cst v,_,_,z=>(match z with|.Constant c _ _=>mM v c|_=>false)
 | .glob x v,_,sc,z=>(match z with|.Name y _=>x==y&&glB sc x&&uK T.gs x v&&ah x|_=>false)
 | .bin op a b,N,sc,z=>(match z with|.BinOp l o r _=>o==jC op&&chk T a N sc l&&chk T b N sc r|_=>false)
 | .neg _,_,_,_=>false
 | .not a,N,sc,z=>(match z with|.UnaryOp .Not e _=>chk T a N sc e|_=>false)
 | .and a b,N,sc,z=>(match z with|.BoolOp .And (x::y::r) pos=>chk T a N sc x&&qQ (λe=>chk T b N sc e) .And pos y r|_=>false)
 | .or a b,N,sc,z=>(match z with|.BoolOp .Or (x::y::r) pos=>chk T a N sc x&&qQ (λe=>chk T b N sc e) .Or pos y r|_=>false)
 | .ite c a b,N,sc,z=>(match z with|.IfExp t x y _=>chk T c N sc t&&chk T a N sc x&&chk T b N sc y&&!al a&&!al b|_=>false)
 | .cmp op a b,N,sc,z=>(match z with|.Compare l [o] [r] _=>o==gK op&&chk T a N sc l&&chk T b N sc r&&!behindInMarks o r|_=>false)
 | .chain op D a b c,N,sc,z=>(match z with|.Compare l [o,o'] [m,r] _=>o==gK op&&o'==gK D&&chk T a N sc l&&chk T b N sc m&&chk T c N sc r&&!lastMarks [o,o'] [m,r]|_=>false)
 | .tup es,N,sc,z=>(match z with|.Tuple xs _ _=>chks T es N sc xs&&es.all (λe=>!al e)|_=>false)
 | .lst es,N,sc,z=>(match z with|.List xs _=>chks T es N sc xs&&es.all (λe=>!al e)|_=>false)
 | .idx a i,N,sc,z=>(match z with|.Subscript v s _=>chk T a N sc v&&chk T i N sc s&&dz s|_=>false)
 | .slice a lo hi,N,sc,z=>(match z with|.Subscript v (.Slice l u none _) _=>chk T a N sc v&&gi (λe=>chk T lo N sc e) (fc lo) l&&gi (λe=>chk T hi N sc e) (fc hi) u|_=>false)
 | .blt b es,N,sc,z=>(match z with|.Call (.Name f _) args [] _=>f==(lS b:Str)&&glB sc f&&cM sc (λxs=>chks T es N sc xs) es.length b args|_=>false)
 | .call f es,N,sc,z=>(match z with|.Call (.Name x _) args [] _=>T.fs[f]?==some x&&glB sc x&&ah x&&chks T es N sc args|_=>false)
 | .callD _ _ _,_,_,_=>false
 | .comp k src js cond elt,N,sc,z=>(match z with|.ListComp e [⟨.Name x _,it,ifs,0⟩] scope _=>bW sc N scope x (aF N js) js&&dg sc false (λxs=>chks T src N sc xs) k it&&gj (λc=>chk T cond (x::aF N js) (dO scope sc) c) cond ifs&&chk T elt (x::aF N js) (dO scope sc) e&&!al elt|_=>false)
 | .dget _ _ _,_,_,_=>false
 | .dat _ _,_,_,_=>false
 | .dIn _ _ _,_,_,_=>false
 | .join x e,N,sc,z=>onQ (qR z) λq=>q.1==x&&q.2.1==("join":Str)&&chk T e N sc q.2.2.1&&ab q.2.2.1&&q.2.2.2.1.endLine==q.2.2.2.2.line
 | .cdat x e,N,sc,z=>onQ (qS z) λq=>q.1==x&&glB sc q.1&&ah q.1&&chk T e N sc q.2&&dz q.2&&fJ.any λt=>t.1==x
 | .comp2 src js cond elt,N,sc,z=>onQ (mO z) λq=>fB sc N q.2.2.2.1 q.2.2.2.2.1 q.2.2.2.2.2 (aF N js) js&&dg sc true (λxs=>chks T src N sc xs) sk2 q.2.1&&gj (λc=>chk T cond (q.2.2.2.2.1::([q.2.2.2.2.2]++aF N js)) (dO q.2.2.2.1 sc) c) cond q.2.2.1&&chk T elt (q.2.2.2.2.1::([q.2.2.2.2.2]++aF N js)) (dO q.2.2.2.1 sc) q.1&&!al elt
 | .lenP i,N,sc,z=>(match qT z with|some (x,y)=>x==("len":Str)&&glB sc x&&aG N sc i y|none=>false)
noncomputable def chks(T:Tab):List ME->List Str->Scope->List Expr->Bool
 | [],_,_,[]=>true
 |m::ms,N,sc,e::es=>chk T m N sc e&&ab e&&chks T ms N sc es
 | _,_,_,_=>false
end
theorem cg(T:Tab)(i:Nat)(N:List Str)(sc:Scope)(q:Expr):chk T (.var i) N sc q=(match q with|.Name x _=>aG N sc i x|_=>false):=rfl
theorem bM(T:Tab)(i:Nat)(N:List Str)(sc:Scope)(q:Expr):chk T (.bor i) N sc q=(match q with|.Name x _=>aG N sc i x|_=>false):=rfl
theorem ci(T:Tab)(v:PV)(N:List Str)(sc:Scope)(q:Expr):chk T (.cst v) N sc q=(match q with|.Constant c _ _=>mM v c|_=>false):=rfl
theorem bt(T:Tab)(x:Str)(v:PV)(N:List Str)(sc:Scope)(q:Expr):chk T (.glob x v) N sc q=(match q with|.Name y _=>x==y&&glB sc x&&uK T.gs x v&&ah x|_=>false):=rfl
theorem bT(T:Tab)(op:Op2)(a b:ME)(N:List Str)(sc:Scope)(q:Expr):chk T (.bin op a b) N sc q=(match q with|.BinOp l o r _=>o==jC op&&chk T a N sc l&&chk T b N sc r|_=>false):=rfl
theorem cj(T:Tab)(a:ME)(N:List Str)(sc:Scope)(q:Expr):chk T (.neg a) N sc q=false:=rfl
theorem cm(T:Tab)(a:ME)(N:List Str)(sc:Scope)(q:Expr):chk T (.not a) N sc q=(match q with|.UnaryOp .Not e _=>chk T a N sc e|_=>false):=rfl
theorem cn(T:Tab)(a b:ME)(N:List Str)(sc:Scope)(q:Expr):chk T (.and a b) N sc q=(match q with|.BoolOp .And (x::y::r) pos=>chk T a N sc x&&qQ (λe=>chk T b N sc e) .And pos y r|_=>false):=rfl
theorem dA(T:Tab)(a b:ME)(N:List Str)(sc:Scope)(q:Expr):chk T (.or a b) N sc q=(match q with|.BoolOp .Or (x::y::r) pos=>chk T a N sc x&&qQ (λe=>chk T b N sc e) .Or pos y r|_=>false):=rfl
theorem cq(T:Tab)(c a b:ME)(N:List Str)(sc:Scope)(q:Expr):chk T (.ite c a b) N sc q=(match q with|.IfExp t x y _=>chk T c N sc t&&chk T a N sc x&&chk T b N sc y&&!al a&&!al b|_=>false):=rfl
theorem cu(T:Tab)(op:Cp)(a b:ME)(N:List Str)(sc:Scope)(q:Expr):chk T (.cmp op a b) N sc q=(match q with|.Compare l [o] [r] _=>o==gK op&&chk T a N sc l&&chk T b N sc r&&!behindInMarks o r|_=>false):=rfl
theorem be(T:Tab)(op q:Cp)(a b c:ME)(N:List Str)(sc:Scope)(z:Expr):chk T (.chain op q a b c) N sc z=(match z with|.Compare l [o,o'] [m,r] _=>o==gK op&&o'==gK q&&chk T a N sc l&&chk T b N sc m&&chk T c N sc r&&!lastMarks [o,o'] [m,r]|_=>false):=rfl
theorem cw(T:Tab)(es:List ME)(N:List Str)(sc:Scope)(q:Expr):chk T (.tup es) N sc q=(match q with|.Tuple xs _ _=>chks T es N sc xs&&es.all (λe=>!al e)|_=>false):=rfl
theorem cx(T:Tab)(es:List ME)(N:List Str)(sc:Scope)(q:Expr):chk T (.lst es) N sc q=(match q with|.List xs _=>chks T es N sc xs&&es.all (λe=>!al e)|_=>false):=rfl
theorem cy(T:Tab)(a i:ME)(N:List Str)(sc:Scope)(q:Expr):chk T (.idx a i) N sc q=(match q with|.Subscript v s _=>chk T a N sc v&&chk T i N sc s&&dz s|_=>false):=rfl
theorem bf(T:Tab)(a lo hi:ME)(N:List Str)(sc:Scope)(q:Expr):chk T (.slice a lo hi) N sc q=(match q with|.Subscript v (.Slice l u none _) _=>chk T a N sc v&&gi (λe=>chk T lo N sc e) (fc lo) l&&gi (λe=>chk T hi N sc e) (fc hi) u|_=>false):=rfl
theorem cz(T:Tab)(b:Blt)(es:List ME)(N:List Str)(sc:Scope)(q:Expr):chk T (.blt b es) N sc q=(match q with|.Call (.Name f _) args [] _=>f==(lS b:Str)&&glB sc f&&cM sc (λxs=>chks T es N sc xs) es.length b args|_=>false):=rfl
theorem bu(T:Tab)(f:Nat)(es:List ME)(N:List Str)(sc:Scope)(q:Expr):chk T (.call f es) N sc q=(match q with|.Call (.Name x _) args [] _=>T.fs[f]?==some x&&glB sc x&&ah x&&chks T es N sc args|_=>false):=rfl
theorem aS(T:Tab)(k:Sk)(q:List ME)(js:List Nat)(cond elt:ME)(N:List Str)(sc:Scope)(z:Expr):chk T (.comp k q js cond elt) N sc z=(match z with|.ListComp e [⟨.Name x _,it,ifs,0⟩] scope _=>bW sc N scope x (aF N js) js&&dg sc false (λxs=>chks T q N sc xs) k it&&gj (λc=>chk T cond (x::aF N js) (dO scope sc) c) cond ifs&&chk T elt (x::aF N js) (dO scope sc) e&&!al elt|_=>false):=rfl
noncomputable def bN:ME->Bool
 | .lst _=>true
 | .comp ..=>true
 | .blt .listOf _=>true
 | .blt .sorted _=>true
 | .blt .sortedSet _=>true
 | .blt .sortedKeys _=>true
 | .blt .valuesOf _=>true
 | _=>false
noncomputable def zw:ME->Bool
 | .bin .add _ _=>true
 | _=>false
noncomputable def qU(sc:Scope)(t:Str)(tpos:Pos):Expr->Bool
 | .ListComp _ _ s p=>sc.names.lookup t==some .local&&tpos.line==p.line&&!(s.names.any λ(n,k)=>n==t&&(k==.local || k==.cell))
 | _=>false
noncomputable def DT:ME->Bool
 | .comp2 ..=>true
 | _=>false
noncomputable def lT(sc:Scope)(t:Str)(tpos:Pos)(v:Expr)(e:ME):Bool:=qU sc t tpos v&&!DT e
noncomputable def hV:List Bool->List ME->Bool
 | [],[]=>true
 |true::bs,e::es=>al e&&hV bs es
 |false::bs,_::es=>hV bs es
 | _,_=>false
noncomputable def eE:List Bool->List ME->List Nat
 |true::bs,.bor i::es=>i::eE bs es
 | _::bs,_::es=>eE bs es
 | _,_=>[]
noncomputable def dP(T:Tab)(f:Nat)(q:List Bool)(es:List ME)(N:List Str)(sc:Scope):Expr->Bool
 | .Call (.Name g _) args [] _=>T.fs[f]?==some g&&glB sc g&&ah g&&chks T es N sc args&&hV q es&&decide (eE q es).Nodup&&!args.isEmpty
 | _=>false
theorem kz{T:Tab}{f:Nat}{q:List Bool}{es:List ME}{N:List Str}{sc:Scope}{e:Expr}(h:dP T f q es N sc e=true):∃g p args z,e=.Call (.Name g p) args [] z/\(T.fs[f]?==some g&&glB sc g&&ah g&&chks T es N sc args&&hV q es&&decide (eE q es).Nodup&&!args.isEmpty)=true:=by
 unfold dP at h;split at h
 ·exact⟨_,_,_,_,rfl,h⟩
 ·cases h
noncomputable def zx:Expr->Option (Expr×Expr)
 | .BinOp l .Add r _=>some (l,r)
 | _=>none
theorem wX{e:Expr}{q:Expr×Expr}(h:zx e=some q):∃pos,e=.BinOp q.1 .Add q.2 pos:=by
 unfold zx at h;split at h
 ·cases h;exact⟨_,rfl⟩
 ·cases h
noncomputable def zy:Expr->Option (Expr×Expr)
 | .Tuple [l,r] _ _=>some (l,r)
 | _=>none
theorem wY{e:Expr}{q:Expr×Expr}(h:zy e=some q):∃j pos,e=.Tuple [q.1,q.2] j pos:=by
 unfold zy at h;split at h
 ·cases h;exact⟨_,_,rfl⟩
 ·cases h
noncomputable def p7:ME->Bool
 | .cst .non=>true
 | _=>false
noncomputable def p8(T:Tab)(k:SK)(e:ME)(f:Nat)(z:List Bool)(es:List ME)(N:List Str)(sc:Scope)(x:Expr):Bool:=match k with
 | .one=>p7 e&&dP T f z es N sc x
 | .cat=>match zx x with|some q=>chk T e N sc q.1&&!al e&&dP T f z es N sc q.2|none=>false
 | .pair=>match zy x with|some q=>chk T e N sc q.1&&!al e&&ab q.1&&dP T f z es N sc q.2|none=>false
noncomputable def lU:Expr->Option (Expr×Scope×Str×Expr)
 | .ListComp e [⟨.Name y _,it,[],0⟩] scope _=>some (e,scope,y,it)
 | _=>none
theorem oe{e:Expr}{q:Expr×Scope×Str×Expr}(h:lU e=some q):∃z pos,e=.ListComp q.1 [⟨.Name q.2.2.1 z,q.2.2.2,[],0⟩] q.2.1 pos:=by
 unfold lU at h;split at h
 ·cases h;exact⟨_,_,rfl⟩
 ·cases h
noncomputable def wZ:Expr->Option (Str×Str×Expr)
 | .Call (.Name f _) [.Call (.Name g _) [e] [] _] [] _=>some (f,g,e)
 | _=>none
theorem w5{e:Expr}{q:Str×Str×Expr}(h:wZ e=some q):∃p p2 pos2 pos,e=.Call (.Name q.1 p) [.Call (.Name q.2.1 p2) [q.2.2] [] pos2] [] pos:=by
 unfold wZ at h;split at h
 ·cases h;exact⟨_,_,_,_,rfl⟩
 ·cases h
noncomputable def og:Expr->Option (Str×Str×Pos×Pos)
 | .Call (.Attribute (.Name x _) m ap) [] [] q=>some (x,m,ap,q)
 | _=>none
theorem mP{e:Expr}{q:Str×Str×Pos×Pos}(h:og e=some q):∃p,e=.Call (.Attribute (.Name q.1 p) q.2.1 q.2.2.1) [] [] q.2.2.2:=by
 unfold og at h;split at h
 ·cases h;exact⟨_,rfl⟩
 ·cases h
noncomputable def sy:Expr->Option (Expr×Operator×Expr)
 | .BinOp l o r _=>some (l,o,r)
 | _=>none
theorem qV{e:Expr}{q:Expr×Operator×Expr}(h:sy e=some q):∃pos,e=.BinOp q.1 q.2.1 q.2.2 pos:=by
 unfold sy at h;split at h
 ·cases h;exact⟨_,rfl⟩
 ·cases h
noncomputable def fnQ:Expr->Option (Str×Expr×List Expr)
 | .Call (.Name x _) (a::as) [] _=>some (x,a,as)
 | _=>none
theorem mQ{e:Expr}{q:Str×Expr×List Expr}(h:fnQ e=some q):∃p pos,e=.Call (.Name q.1 p) (q.2.1::q.2.2) [] pos:=by
 unfold fnQ at h;split at h
 ·cases h;exact⟨_,_,rfl⟩
 ·cases h
noncomputable def w8:Expr->Option (List Expr)
 | .Tuple xs _ _=>some xs
 | _=>none
theorem w9{e:Expr}{q:List Expr}(h:w8 e=some q):∃j pos,e=.Tuple q j pos:=by
 unfold w8 at h;split at h
 ·cases h;exact⟨_,_,rfl⟩
 ·cases h
noncomputable def w_:Expr->Option (List Expr)
 | .List xs _=>some xs
 | _=>none
theorem xa{e:Expr}{q:List Expr}(h:w_ e=some q):∃pos,e=.List q pos:=by
 unfold w_ at h;split at h
 ·cases h;exact⟨_,rfl⟩
 ·cases h
noncomputable def xb:Expr->Option (Str×Expr×Expr)
 | .Call (.Name x _) [a,b] [] _=>some (x,a,b)
 | _=>none
theorem xc{e:Expr}{q:Str×Expr×Expr}(h:xb e=some q):∃p pos,e=.Call (.Name q.1 p) [q.2.1,q.2.2] [] pos:=by
 unfold xb at h;split at h
 ·cases h;exact⟨_,_,rfl⟩
 ·cases h
mutual
noncomputable def bX(T:Tab):XE->List Str->Scope->Expr->Bool
 | .pure e,N,sc,x=>chk T e N sc x&&!al e&&cD x
 | .call f mask es,N,sc,x=>dP T f mask es N sc x
 | .pop i,N,sc,x=>onQ (og x) λq=>aG N sc i q.1&&q.2.1==("pop":Str)&&q.2.2.1.endLine==q.2.2.2.line
 | .bin op a b,N,sc,x=>onQ (sy x) λq=>q.2.1==jC op&&bX T a N sc q.1&&chk T b N sc q.2.2
 | .fn g a es,N,sc,x=>onQ (fnQ x) λq=>T.fs[g]?==some q.1&&glB sc q.1&&ah q.1&&bX T a N sc q.2.1&&ab q.2.1&&chks T es N sc q.2.2
 | .tup xs,N,sc,x=>onQ (w8 x) λq=>chkXEs T xs N sc q
 | .lst xs,N,sc,x=>onQ (w_ x) λq=>chkXEs T xs N sc q
 | .fn2 g e a,N,sc,x=>onQ (xb x) λq=>T.fs[g]?==some q.1&&glB sc q.1&&ah q.1&&chk T e N sc q.2.1&&!al e&&ab q.2.1&&bX T a N sc q.2.2&&ab q.2.2
 | .tupOf a,N,sc,x=>onQ (fnQ x) λq=>q.1==("tuple":Str)&&glB sc q.1&&q.2.2.isEmpty&&bX T a N sc q.2.1&&ab q.2.1
 | .compS src js k e f mask es,N,sc,x=>onQ (lU x) λc=>bW sc N c.2.1 c.2.2.1 (aF N js) js&&dg sc false (λxs=>chks T [src] N sc xs) .seq c.2.2.2&&!al src&&p8 T k e f mask es (c.2.2.1::aF N js) (dO c.2.1 sc) c.1&&decide js.Nodup
 | .nextw i,N,sc,x=>onQ (og x) λq=>aG N sc i q.1&&q.2.1==("next_word":Str)&&q.2.2.1.endLine==q.2.2.2.line
 | .binR op a y,N,sc,x=>onQ (sy x) λq=>q.2.1==jC op&&chk T a N sc q.1&&!al a&&bX T y N sc q.2.2
 | .compR y js k e f mask es,N,sc,x=>onQ (lU x) λc=>bW sc N c.2.1 c.2.2.1 (aF N js) js&&onQ (fnQ c.2.2.2) (λq=>q.1==("range":Str)&&glB sc q.1&&q.2.2.isEmpty&&bX T y N sc q.2.1&&ab q.2.1)&&p8 T k e f mask es (c.2.2.1::aF N js) (dO c.2.1 sc) c.1&&decide js.Nodup
noncomputable def chkXEs(T:Tab):List XE->List Str->Scope->List Expr->Bool
 | [],_,_,[]=>true
 |x::xs,N,sc,e::es=>bX T x N sc e&&ab e&&chkXEs T xs N sc es
 | _,_,_,_=>false
end
noncomputable def ly:Stmt->Option (Str×Pos×Expr)
 | .Assign [.Name x px] v _=>some (x,px,v)
 | _=>none
theorem iB{s:Stmt}{q:Str×Pos×Expr}(h:ly s=some q):∃pos,s=.Assign [.Name q.1 q.2.1] q.2.2 pos:=by
 unfold ly at h;split at h
 ·cases h;exact⟨_,rfl⟩
 ·cases h
noncomputable def sA:Stmt->Option (Str×Str×Pos×List Expr×Pos)
 | .Expr (.Call (.Attribute (.Name x _) m ap) args [] q) _=>some (x,m,ap,args,q)
 | _=>none
theorem mR{s:Stmt}{q:Str×Str×Pos×List Expr×Pos}(h:sA s=some q):∃p pos,s=.Expr (.Call (.Attribute (.Name q.1 p) q.2.1 q.2.2.1) q.2.2.2.1 [] q.2.2.2.2) pos:=by
 unfold sA at h;split at h
 ·cases h;exact⟨_,_,rfl⟩
 ·cases h
noncomputable def p9:Stmt->Option Expr
 | .Return (some v) _=>some v
 | _=>none
theorem jH{s:Stmt}{v:Expr}(h:p9 s=some v):∃pos,s=.Return (some v) pos:=by
 unfold p9 at h;split at h
 ·cases h;exact⟨_,rfl⟩
 ·cases h
noncomputable def ifQ:Stmt->Option Expr
 | .If t _ [] _=>some t
 | _=>none
theorem uN{s:Stmt}{t:Expr}(h:ifQ s=some t):∃a pos,s=.If t a [] pos:=by
 unfold ifQ at h;split at h
 ·cases h;exact⟨_,_,rfl⟩
 ·cases h
noncomputable def mS:Expr->Option (Expr×Str)
 | .Compare l [.NotIn] [.Name y _] _=>some (l,y)
 | _=>none
theorem sB{e:Expr}{q:Expr×Str}(h:mS e=some q):∃p pos,e=.Compare q.1 [.NotIn] [.Name q.2 p] pos:=by
 unfold mS at h;split at h
 ·cases h;exact⟨_,_,rfl⟩
 ·cases h
noncomputable def uO:Expr->Option Str
 | .Name x _=>some x
 | _=>none
theorem uP{e:Expr}{x:Str}(h:uO e=some x):∃p,e=.Name x p:=by
 unfold uO at h;split at h
 ·cases h;exact⟨_,rfl⟩
 ·cases h
noncomputable def xg:Expr->Option (Str×List Expr)
 | .Call (.Name y _) args [] _=>some (y,args)
 | _=>none
theorem xh{e:Expr}{q:Str×List Expr}(h:xg e=some q):∃p z,e=.Call (.Name q.1 p) q.2 [] z:=by
 unfold xg at h;split at h
 ·cases h;exact⟨_,_,rfl⟩
 ·cases h
noncomputable def oh:List Expr->Option Expr
 | [a]=>some a
 | _=>none
theorem kA{l:List Expr}{a:Expr}(h:oh l=some a):l=[a]:=by
 match l,h with
 | [_],h=>cases h;rfl
noncomputable def onO{α:Type}(o:Option α)(f:α->Bool):Bool:=match o with
 |some a=>f a
 |none=>false
theorem bO{α:Type}{o:Option α}{f:α->Bool}(h:onO o f=true):∃a,o=some a/\f a=true:=by
 cases o with
 |none=>cases h
 |some a=>exact⟨a,rfl,h⟩
mutual
noncomputable def gL(T:Tab)(N:List Str)(sc:Scope):MS->Stmt->Bool
 | .set i e,s0=>onO (ly s0) λq=>N[i]?==some q.1&&fX sc q.1&&ah q.1&&chk T e N sc q.2.2&&!al e&&(cD q.2.2 || lT sc q.1 q.2.1 q.2.2 e)
 | .setOwn i e,s0=>onO (ly s0) λq=>N[i]?==some q.1&&fX sc q.1&&ah q.1&&chk T e N sc q.2.2&&(bN e || zw e)&&(cD q.2.2 || lT sc q.1 q.2.1 q.2.2 e)
 | .append i e,s0=>onO (sA s0) λq=>onO (oh q.2.2.2.1) λv=>aG N sc i q.1&&q.2.1==("append":Str)&&chk T e N sc v&&!al e&&ab v&&q.2.2.1.endLine==q.2.2.2.2.line
 | .extend i e,s0=>onO (sA s0) λq=>onO (oh q.2.2.2.1) λv=>aG N sc i q.1&&q.2.1==("extend":Str)&&chk T e N sc v&&ab v&&q.2.2.1.endLine==q.2.2.2.2.line
 | .setIdx _ _ _,_=>false
 | .unpack _ _,_=>false
 | .ite c a b,s0=>(match s0 with|.If t x y _=>chk T c N sc t&&chkSs T N sc a x&&chkSs T N sc b y|_=>false)
 | .for1 i k src body,s0=>(match s0 with|.For (.Name x _) it b [] _=>N[i]?==some x&&fX sc x&&ah x&&dg sc false (λxs=>chks T src N sc xs) k it&&chkSs T N sc body b|_=>false)
 | .ret e,s0=>onO (p9 s0) λv=>chk T e N sc v&&!al e
 | .retOwn i,s0=>onO (p9 s0) λv=>onO (uO v) λx=>aG N sc i x
 | .retM e,s0=>onO (p9 s0) λv=>chk T e N sc v&&!al e
 | .mkW i e,s0=>onO (ly s0) λq=>onO (xg q.2.2) λc=>N[i]?==some q.1&&fX sc q.1&&ah q.1&&c.1==("Words":Str)&&glB sc c.1&&chks T [e] N sc c.2&&!al e
 | .nomore i,s0=>onO (ifQ s0) λt=>onQ (og t) λq=>aG N sc i q.1&&q.2.1==("are_left":Str)&&q.2.2.1.endLine==q.2.2.2.line
 | .isKey x e,s0=>onO (ifQ s0) λt=>onQ (mS t) λq=>q.2==x&&glB sc q.2&&ah q.2&&chk T e N sc q.1&&!al e&&fJ.any λt=>t.1==x
 | .setP i e,s0=>onO (ly s0) λq=>N[i]?==some q.1&&fX sc q.1&&ah q.1&&onQ (wZ q.2.2) λr=>r.1==("list":Str)&&r.2.1==("reversed":Str)&&glB sc r.1&&glB sc r.2.1&&chk T e N sc r.2.2&&ab r.2.2
 | .setX i x,s0=>onO (ly s0) λq=>N[i]?==some q.1&&fX sc q.1&&ah q.1&&bX T x N sc q.2.2&&cD q.2.2
 | .appX i x,s0=>onO (sA s0) λq=>onO (oh q.2.2.2.1) λv=>aG N sc i q.1&&q.2.1==("append":Str)&&bX T x N sc v&&ab v&&q.2.2.1.endLine==q.2.2.2.2.line
 | .retXE x,s0=>onO (p9 s0) λv=>bX T x N sc v
 | .forX i x body,s0=>(match s0 with|.For (.Name y _) it b [] _=>N[i]?==some y&&fX sc y&&ah y&&onQ (fnQ it) (λq=>q.1==("range":Str)&&glB sc q.1&&q.2.2.isEmpty&&bX T x N sc q.2.1&&ab q.2.1)&&chkSs T N sc body b|_=>false)
 | .never,_=>true
 | _,_=>false
noncomputable def chkSs(T:Tab)(N:List Str)(sc:Scope):List MS->List Stmt->Bool
 | [],[]=>true
 | .freeze _::_,_=>false
 |m::ms,s::ss=>gL T N sc m s&&chkSs T N sc ms ss
 | _,_=>false
end
theorem xi (T:Tab) (N:List Str) (sc:Scope) (i:Nat) (x:XE) (body:List MS) (z:Stmt):gL T N sc (.forX i x body) z=(match z with|.For (.Name y _) it b [] _=>N[i]?==some y&&fX sc y&&ah y&&onQ (fnQ it) (λq=>q.1==("range":Str)&&glB sc q.1&&q.2.2.isEmpty&&bX T x N sc q.2.1&&ab q.2.1)&&chkSs T N sc body b|_=>false):=rfl
theorem xj(T:Tab)(N:List Str)(sc:Scope)(i:Nat)(k:Sk)(q:List ME)(body:List MS)(z:Stmt):gL T N sc (.for1 i k q body) z=(match z with|.For (.Name x _) it b [] _=>N[i]?==some x&&fX sc x&&ah x&&dg sc false (λxs=>chks T q N sc xs) k it&&chkSs T N sc body b|_=>false):=rfl
theorem kB{f:PV->PV->Option Bool}(z:∀x b,f x x=some b->b=true):∀(xs:List PV) {b:Bool},eqL f xs xs=some b->b=true
 | [],b,h=>by simp[eqL]at h;exact h
 |x::xs,b,h=>by
  simp only[eqL,bind_eq_some_iff,map_eq_some_iff]at h;obtain⟨p,h1,q,h2,rfl⟩:=h;rw[z x p h1,kB z xs h2];rfl
theorem iC:∀(n:Nat) (x:PV) {b:Bool},eqF n x x=some b->b=true
 |n,.non,b,h=>by simp[eqF]at h;exact h
 |n,.bl _,b,h=>by simp[eqF]at h;exact h
 |n,.int _,b,h=>by simp[eqF]at h;exact h
 |n,.str _,b,h=>by simp[eqF]at h;exact h
 |0,.tup _,b,h=>by simp[eqF]at h
 |0,.lst _,b,h=>by simp[eqF]at h
 |n+1,.tup xs,b,h=>by rw[eqF]at h;exact kB (λx b=>iC n x) xs h
 |n+1,.lst xs,b,h=>by rw[eqF,if_pos rfl]at h;exact kB (λx b=>iC n x) xs h
 |n,.dI _,b,h=>by cases n<;>simp[eqF]at h
theorem fe{n:Nat}{x y:PV}{b:Bool}(h:eqF n x y=some b):isD x=false/\isD y=false:=by
 cases x<;>cases y<;>first|exact⟨rfl,rfl⟩|(cases n<;>simp[eqF]at h)
theorem iD{f:PV->PV->Option Bool}:∀(xs ys:List PV) {b:Bool},eqL f xs ys=some b ->
  (∀(j:Nat) x y,xs[j]?=some x->ys[j]?=some y->∃c,f x y=some c) /\
   b=((range (min xs.length ys.length)).all (λj=>(f (xs.getD j .non) (ys.getD j .non)).getD false)&&xs.length==ys.length)
 | [],[],b,h=>by simp[eqL]at h;subst h;simp
 | [],y::ys,b,h=>by simp[eqL]at h;subst h;simp
 |x::xs,[],b,h=>by simp[eqL]at h;subst h;simp
 | x::xs,y::ys,b,h=>by
  simp only[eqL,bind_eq_some_iff,map_eq_some_iff]at h;obtain⟨p,h1,q,h2,rfl⟩:=h;obtain⟨ih1,ih2⟩:=iD xs ys h2;refine⟨λj x' y' e1 e2=>?_,?_⟩
  ·cases j with
   |zero=>simp at e1 e2;subst e1 e2;exact⟨p,h1⟩
   |succ j=>exact ih1 j x' y' (by simpa using e1) (by simpa using e2)
  ·rw[ih2];have hm:min (x::xs).length (y::ys).length=min xs.length ys.length+1:=by simp only[length_cons];omega
   rw[hm,range_succ_eq_map,all_cons,List.all_map];have hl:((x::xs).length==(y::ys).length)=(xs.length==ys.length):=by
    rw[Bool.eq_iff_iff];simp
   rw[hl,Bool.and_assoc];simp only[getD_cons_zero,h1,getD_some,Function.comp_def,getD_cons_succ]
theorem qW{f:PV->Option Bool}:∀(xs:List PV) {b:Bool},inL f xs=some b->(∀x∈xs,∃c,f x=some c)/\b=xs.any λx=>(f x).getD false
 | [],b,h=>by simp[inL]at h;subst h;simp
 | x::xs,b,h=>by
  simp only[inL,bind_eq_some_iff,map_eq_some_iff]at h;obtain⟨p,h1,q,h2,rfl⟩:=h;obtain⟨ih1,ih2⟩:=qW xs h2;refine⟨λy hy=>?_,?_⟩
  ·rcases mem_cons.mp hy with rfl|hy
   ·exact⟨p,h1⟩
   ·exact ih1 y hy
  ·rw[any_cons,h1,ih2];rfl
section
variable{X:Cx}{pins:List (Addr×Obj)}{σ:St}{H:Hp}{s:Shared}
theorem oi(I:Inv X pins σ H s){a:Addr}{xs ys:List V}(h1:SqL X.K H a xs)(h2:SqT X.K H a ys):False:=by
 obtain⟨its,_,p,_⟩:=I.list h1;obtain⟨z,_,q,_⟩:=I.tuple h2;exact SeqAt.ne_of_list_tuple p.isList (show s.heap.IsTuple a z.toArray from q) rfl
theorem xk{H:Hp}{a:Addr}{d:DD}(h:RdD H a d):IsD H a:=by
 cases d with
 |k kvs=>exact .inl ⟨_,h.rd⟩
 |t kvs=>exact .inr ⟨_,h.rd⟩
 |p ns=>exact absurd h.2 Bool.false_ne_true
 |w _ _=>exact absurd h.2 Bool.false_ne_true
theorem jI(I:Inv X pins σ H s){a:Addr}{xs:List V}{d:DD}(h1:SqL X.K H a xs\/SqT X.K H a xs)(h2:RdD H a d):False:=by
 obtain⟨o,D,hc⟩:=(zg I (xk h2)).1;rcases h1 with h1|h1
 ·obtain⟨its,_,p,_⟩:=I.list h1;obtain⟨o',q,z,_⟩:=p.isList;rw[D]at q;cases q;rw[hc]at z;exact absurd z (by decide)
 ·obtain⟨its,_,⟨o',q,z,_⟩,_⟩:=I.tuple h1;rw[D]at q;cases q;rw[hc]at z;exact absurd z (by decide)
theorem Sc.v_inj:∀{a b:Sc},a.v=b.v->a=b:=by
 intro a b h;cases a<;>cases b<;>simp[Sc.v]at h ⊢<;>exact h
theorem oj:∀{a b:List (Int×Sc)},p6 a=p6 b->a=b
 | [],[],_=>rfl
 | [],_::_,h=>by cases h
 | _::_,[],h=>by cases h
 | (k,v)::a,(q,z)::b,h=>by
  simp only[p6,map_cons,List.cons.injEq,Prod.mk.injEq,Sum.inl.injEq]at h;obtain⟨⟨h1,h2⟩,h3⟩:=h;rw[h1,Sc.v_inj h2,oj h3]
theorem qX:∀{a b:List Int},(a.map Sum.inl:List Key)=b.map Sum.inl->a=b
 | [],[],_=>rfl
 | [],_::_,h=>by cases h
 | _::_,[],h=>by cases h
 |x::a,y::b,h=>by
  simp only[map_cons,List.cons.injEq,Sum.inl.injEq]at h;rw[h.1,qX h.2]
theorem ol:∀{a b:List (List Int×Sc)},wQ a=wQ b->a=b
 | [],[],_=>rfl
 | [],_::_,h=>by cases h
 | _::_,[],h=>by cases h
 | (k,v)::a,(q,z)::b,h=>by
  simp only[wQ,map_cons,List.cons.injEq,Prod.mk.injEq]at h;obtain⟨⟨h1,h2⟩,h3⟩:=h;rw[qX h1,Sc.v_inj h2,ol h3]
theorem oo{a b:DD}(q:lx a=true)(z:lx b=true)(h:iA a=iA b):a=b:=by
 cases a<;>first|(cases q;done)|(cases b<;>first|(cases z;done)|(cases h;done)|(rw[oj (HO.dK.inj h)];done)|rw[ol (HO.dT.inj h)])
theorem zA{H:Hp}{a:Addr}{x y:DD}(h:RdD H a x)(g:RdD H a y):x=y:=by
 have ne:∀(x:DD) (o:Obj) (u:HO),iA x≠.frz o u:=λx o u e=>by cases x<;>cases e
 obtain⟨h,h2⟩:=h;obtain⟨g,g2⟩:=g;rcases h with h|⟨o,h⟩<;>rcases g with g|⟨o',g⟩
 ·rw[h]at g;exact oo h2 g2 (Option.some.inj g)
 ·rw[h]at g;exact absurd (Option.some.inj g) (ne x _ _)
 ·rw[g]at h;exact absurd (Option.some.inj h) (ne y _ _)
 ·rw[h]at g;exact oo h2 g2 (HO.frz.inj (Option.some.inj g)).2
mutual
theorem jJ(I:Inv X pins σ H s):∀(x y:PV) {u:V},Rep X.K H x u->Rep X.K H y u->x=y
 | .non,y,u,h,g=>by rw[Rep]at h;subst h;cases y<;>simp[Rep]at g ⊢
 | .bl b,y,u,h,g=>by rw[Rep]at h;subst h;cases y<;>simp[Rep]at g ⊢;exact g
 | .int b,y,u,h,g=>by rw[Rep]at h;subst h;cases y<;>simp[Rep]at g ⊢;exact g
 | .str b,y,u,h,g=>by rw[Rep]at h;subst h;cases y<;>simp[Rep]at g ⊢;exact g
 | .tup xs,y,u,h,g=>by
  rw[Rep]at h;obtain⟨a,us,rfl,q,r⟩:=h;cases y with
  |tup ys =>
   rw[Rep]at g;obtain⟨b,vs,e,q',r'⟩:=g;cases e;have:=I.tuple_inj (dE q) (dE q');subst this;rw[reps_inj I xs ys r r']
  |lst ys =>
   rw[Rep]at g;obtain⟨b,vs,e,q',r'⟩:=g;cases e;exact(oi I q' (dE q)).elim
  |dI kvs =>
   rw[Rep]at g;obtain⟨b,e,q'⟩:=g;cases e;exact(jI I (.inr (dE q)) q').elim
  | _=>simp[Rep]at g
 | .lst xs,y,u,h,g=>by
  rw[Rep]at h;obtain⟨a,us,rfl,q,r⟩:=h;cases y with
  |lst ys =>
   rw[Rep]at g;obtain⟨b,vs,e,q',r'⟩:=g;cases e;have:=I.list_inj q q';subst this;rw[reps_inj I xs ys r r']
  |tup ys =>
   rw[Rep]at g;obtain⟨b,vs,e,q',r'⟩:=g;cases e;exact(oi I q (dE q')).elim
  |dI kvs =>
   rw[Rep]at g;obtain⟨b,e,q'⟩:=g;cases e;exact(jI I (.inl q) q').elim
  | _=>simp[Rep]at g
 | .dI kvs,y,u,h,g=>by
  rw[Rep]at h;obtain⟨a,rfl,q⟩:=h;cases y with
  |dI ks =>
   rw[Rep]at g;obtain⟨b,e,q'⟩:=g;cases e;rw[zA q q']
  |tup ys =>
   rw[Rep]at g;obtain⟨b,vs,e,q',r'⟩:=g;cases e;exact(jI I (.inr (dE q')) q).elim
  |lst ys =>
   rw[Rep]at g;obtain⟨b,vs,e,q',r'⟩:=g;cases e;exact(jI I (.inl q') q).elim
  | _=>simp[Rep]at g
theorem reps_inj(I:Inv X pins σ H s):∀(xs ys:List PV) {us:List V},Reps X.K H xs us->Reps X.K H ys us->xs=ys
 | [],ys,us,h,g=>by
  rw[Reps]at h;subst h
  cases ys with
  |nil=>rfl
  |cons y ys=>rw[Reps]at g;obtain⟨_,_,e,_⟩:=g;cases e
 | x::xs,ys,us,h,g=>by
  rw[Reps]at h;obtain⟨u,r,rfl,q,t⟩:=h;cases ys with
  |nil=>rw[Reps]at g;cases g
  |cons y ys =>
   rw[Reps]at g;obtain⟨u',r',e,q',t'⟩:=g;cases e;rw[jJ I x y q q',reps_inj I xs ys t t']
end
theorem Rep.tupAt(I:Inv X pins σ H s){xs:List PV}{u:V}{v:Value}(h:Rep X.K H (.tup xs) u)(r:aA u v) :
  ∃(a:Addr) (us:List V) (its:List Value),u=.ref a/\v=.ref a/\Reps X.K H xs us/\ay us its/\s.heap.IsTuple a its.toArray/\xs.length=its.length:=by
 rw[Rep]at h;obtain⟨a,us,rfl,q,t⟩:=h;obtain⟨its,z,p,_⟩:=I.tuple (dE q);exact⟨a,us,its,rfl,r,t,z,p,t.length.trans z.length⟩
theorem Rep.lstAt(I:Inv X pins σ H s){xs:List PV}{u:V}{v:Value}(h:Rep X.K H (.lst xs) u)(r:aA u v) :
  ∃(a:Addr) (us:List V) (its:List Value),u=.ref a/\v=.ref a/\Reps X.K H xs us/\ay us its/\s.heap.IsList a its.toArray/\xs.length=its.length:=by
 rw[Rep]at h;obtain⟨a,us,rfl,q,t⟩:=h;obtain⟨its,z,p,_⟩:=I.list q;exact⟨a,us,its,rfl,r,t,z,p.isList,t.length.trans z.length⟩
theorem iE{A:Around}{n:Nat}(ih:∀(x y:PV) {J U:V}{z D:Value}{b:Bool}{A:Around},A.units+n<cLine->eqF n x y=some b->Rep X.K H x J->Rep X.K H y U->aA J z->aA U D->SeqAt.EqAt A s z D b)
  {xs ys:List PV}{us ws:List V}{its q:List Value} (hu:A.units+(n+1)<cLine) (rx:Reps X.K H xs us) (ry:Reps X.K H ys ws) (z:ay us its) (D:ay ws q)
  (hs:∀(j:Nat) x y,xs[j]?=some x->ys[j]?=some y->∃c,eqF n x y=some c) :
  ∀j (h1:j<its.toArray.size) (h2:j<q.toArray.size),SeqAt.EqAt A.in1 s its.toArray[j] q.toArray[j] ((eqF n (xs.getD j .non) (ys.getD j .non)).getD false):=λj h1 h2=>by
 have l1:=rx.length.trans z.length;have l2:=ry.length.trans D.length;simp only[List.size_toArray]at h1 h2;have Y:xs[j]?=some xs[j]:=getElem?_eq_getElem (by omega);have Z:ys[j]?=some ys[j]:=getElem?_eq_getElem (by omega);obtain⟨J,q1,p1⟩:=rx.get Y;obtain⟨U,q2,p2⟩:=ry.get Z;obtain⟨wx,q3,p3⟩:=z.get q1;obtain⟨wy,q4,p4⟩:=D.get q2;obtain⟨c,hc⟩:=hs j _ _ Y Z;have d1:xs.getD j .non=xs[j]:=by simp[List.getD,Y]
 have d2:ys.getD j .non=ys[j]:=by simp[List.getD,Z]
 have g1:its.toArray[j]=wx:=by
  have:its[j]?=some its[j]:=getElem?_eq_getElem h1;rw[this]at q3;simpa using q3
 have g2:q.toArray[j]=wy:=by
  have:q[j]?=some q[j]:=getElem?_eq_getElem h2;rw[this]at q4;simpa using q4
 rw[d1,d2,hc,g1,g2];exact ih _ _ (show A.units+1+n<cLine by omega) hc p1 p2 p3 p4
theorem xl{A:Around}{n:Nat}(I:Inv X pins σ H s)(ih:∀(x y:PV) {z D:V}{J U:Value}{b:Bool}{A:Around},A.units+n<cLine->eqF n x y=some b->Rep X.K H x z->Rep X.K H y D->aA z J->aA D U->SeqAt.EqAt A s J U b)
  (hu:A.units+(n+1)<cLine):(∀{xs ys:List PV}{z D:V}{J U:Value}{b:Bool},eqF (n+1) (.tup xs) (.tup ys)=some b->Rep X.K H (.tup xs) z->Rep X.K H (.tup ys) D->aA z J->aA D U->SeqAt.RcAt A s J U b) /\
   (∀{xs ys:List PV}{z D:V}{J U:Value}{b:Bool},eqF (n+1) (.lst xs) (.lst ys)=some b->Rep X.K H (.lst xs) z->Rep X.K H (.lst ys) D->aA z J->aA D U->SeqAt.RcAt A s J U b):=by
 refine⟨λ{xs ys z D J U b} h rx ry r1 r2=>?_,λ{xs ys z D J U b} h rx ry r1 r2=>?_⟩
 ·obtain⟨a,us,its,rfl,rfl,t1,w1,p1,l1⟩:=rx.tupAt I r1;obtain⟨c,ws,Y,rfl,rfl,t2,w2,p2,l2⟩:=ry.tupAt I r2;rw[eqF]at h;obtain⟨hs,hb⟩:=iD xs ys h;have q:=SeqAt.RcAt.tuples (A:=A) p1 p2 (by omega) (iE ih hu t1 t2 w1 w2 hs);rw[hb];simpa[l1,l2] using q
 ·obtain⟨a,us,its,rfl,rfl,t1,w1,p1,l1⟩:=rx.lstAt I r1;obtain⟨c,ws,Y,rfl,rfl,t2,w2,p2,l2⟩:=ry.lstAt I r2;rw[eqF]at h;by_cases Z:xs.length=ys.length
  ·rw[if_pos Z]at h;obtain⟨hs,hb⟩:=iD xs ys h;have q:=SeqAt.RcAt.lists (A:=A) p1 p2 (by simp only[List.size_toArray];omega) (by omega) (iE ih hu t1 t2 w1 w2 hs);rw[hb,Z,Nat.min_self];simpa[<- l1,Z] using q
  ·rw[if_neg Z]at h;cases h;exact SeqAt.RcAt.lists_lengths (A:=A) p1 p2 (by simp only[List.size_toArray,bne_iff_ne];omega) (by omega)
theorem cI{x:PV}{u:V}(hd:isD x=false)(h:Rep X.K H x u):(∃xs,x=.tup xs)\/(∃xs,x=.lst xs)\/gM u=true:=by
 cases x with
 |tup xs=>exact .inl ⟨xs,rfl⟩
 |lst xs=>exact .inr (.inl ⟨xs,rfl⟩)
 |non=>rw[Rep]at h;subst h;exact .inr (.inr rfl)
 |bl b=>rw[Rep]at h;subst h;exact .inr (.inr rfl)
 |int b=>rw[Rep]at h;subst h;exact .inr (.inr rfl)
 |str b=>rw[Rep]at h;subst h;exact .inr (.inr rfl)
 |dI _=>cases hd
theorem fL{A:Around}(q:A.units<cLine){u:V}{v:Value}(f:gM u=true)(r:aA u v){a:Addr}{its:Array Value}(p:s.heap.IsTuple a its) :
  SeqAt.EqAt A s v (.ref a) false/\SeqAt.EqAt A s (.ref a) v false/\SeqAt.RcAt A s v (.ref a) false/\SeqAt.RcAt A s (.ref a) v false:=by
 cases u with
 |non=>cases r;exact⟨.none_tuple p q,.tuple_none p q,.none_tuple p q,.tuple_none p q⟩
 |bl b=>cases r;exact⟨.bool_tuple b p q,.tuple_bool b p q,.bool_tuple b p q,.tuple_bool b p q⟩
 |int b=>obtain⟨t,rfl⟩:=r;exact⟨.int_tuple b t p q,.tuple_int b t p q,.int_tuple b t p q,.tuple_int b t p q⟩
 |str b=>obtain⟨t,rfl⟩:=r;exact⟨.str_tuple b t p q,.tuple_str b t p q,.str_tuple b t p q,.tuple_str b t p q⟩
 | _=>exact absurd (show false=true from f) Bool.false_ne_true
theorem gz{A:Around}(q:A.units<cLine){u:V}{v:Value}(f:gM u=true)(r:aA u v){a:Addr}{its:Array Value}(p:s.heap.IsList a its) :
  SeqAt.EqAt A s v (.ref a) false/\SeqAt.EqAt A s (.ref a) v false/\SeqAt.RcAt A s v (.ref a) false/\SeqAt.RcAt A s (.ref a) v false:=by
 cases u with
 |non=>cases r;exact⟨.none_list p q,.list_none p q,.none_list p q,.list_none p q⟩
 |bl b=>cases r;exact⟨.bool_list b p q,.list_bool b p q,.bool_list b p q,.list_bool b p q⟩
 |int b=>obtain⟨t,rfl⟩:=r;exact⟨.int_list b t p q,.list_int b t p q,.int_list b t p q,.list_int b t p q⟩
 |str b=>obtain⟨t,rfl⟩:=r;exact⟨.str_list b t p q,.list_str b t p q,.str_list b t p q,.list_str b t p q⟩
 | _=>exact absurd (show false=true from f) Bool.false_ne_true
theorem uQ{A:Around}{y x:V}{u v:Value}(z:aA y u)(q:aA x v)(J:gM y=true)(D:gM x=true):SeqAt.RcAt A s u v (eqV y x):=by
 cases y with
 |non =>
  cases z;cases x with
  |non=>cases q;exact SeqAt.RcAt.none_none
  |bl b=>cases q;exact SeqAt.RcAt.none_bool b
  |int b=>obtain⟨t,rfl⟩:=q;exact SeqAt.RcAt.none_int b t
  |str b=>obtain⟨t,rfl⟩:=q;exact SeqAt.RcAt.none_str b t
  | _=>exact absurd (show false=true from D) Bool.false_ne_true
 |bl a =>
  cases z;cases x with
  |non=>cases q;exact SeqAt.RcAt.bool_none a
  |bl b=>cases q;exact SeqAt.RcAt.bool_bool a b
  |int b=>obtain⟨t,rfl⟩:=q;exact SeqAt.RcAt.bool_int a b t
  |str b=>obtain⟨t,rfl⟩:=q;exact SeqAt.RcAt.bool_str a b t
  | _=>exact absurd (show false=true from D) Bool.false_ne_true
 |int a =>
  obtain⟨t',rfl⟩:=z;cases x with
  |non=>cases q;exact SeqAt.RcAt.int_none a t'
  |bl b=>cases q;exact SeqAt.RcAt.int_bool a t' b
  |int b=>obtain⟨t,rfl⟩:=q;exact SeqAt.RcAt.int_int a t' b t
  |str b=>obtain⟨t,rfl⟩:=q;exact SeqAt.RcAt.int_str a t' b t
  | _=>exact absurd (show false=true from D) Bool.false_ne_true
 |str a =>
  obtain⟨t',rfl⟩:=z;cases x with
  |non=>cases q;exact SeqAt.RcAt.str_none a t'
  |bl b=>cases q;exact SeqAt.RcAt.str_bool a t' b
  |int b=>obtain⟨t,rfl⟩:=q;exact SeqAt.RcAt.str_int a t' b t
  |str b=>obtain⟨t,rfl⟩:=q;exact SeqAt.RcAt.str_str a t' b t
  | _=>exact absurd (show false=true from D) Bool.false_ne_true
 | _=>exact absurd (show false=true from J) Bool.false_ne_true
theorem kC{n:Nat}{x y:PV}{u v:V}{b:Bool}(q:Rep X.K H x u)(z:Rep X.K H y v)(D:gM u=true)(J:gM v=true)(h:eqF n x y=some b):b=eqV u v:=by
 cases x<;>cases y<;>simp only[Rep]at q z
 all_goals first
  | (obtain⟨_,_,rfl,_⟩:=q;exact absurd (show false=true from D) Bool.false_ne_true)
  | (obtain⟨_,_,rfl,_⟩:=z;exact absurd (show false=true from J) Bool.false_ne_true)
  | (obtain⟨_,rfl,_⟩:=q;exact absurd (show false=true from D) Bool.false_ne_true)
  | (obtain⟨_,rfl,_⟩:=z;exact absurd (show false=true from J) Bool.false_ne_true)
  | (subst q z;simp only[eqF,Option.some.injEq]at h;subst h;rfl)
theorem mT(I:Inv X pins σ H s):∀(n:Nat) (x y:PV) {ux uy:V}{vx vy:Value}{b:Bool}{A:Around},A.units+n<cLine->eqF n x y=some b->Rep X.K H x ux->Rep X.K H y uy->aA ux vx->aA uy vy ->
  SeqAt.EqAt A s vx vy b/\SeqAt.RcAt A s vx vy b:=by
 intro n
 induction n with
 | zero =>
  intro x y ux uy vx vy b A hu h rx ry r1 r2;have hu0:A.units<cLine:=by omega
  rcases cI (fe h).1 rx with ⟨xs,rfl⟩|⟨xs,rfl⟩|fx
  ·obtain⟨a,us,its,rfl,rfl,t1,w1,p1,l1⟩:=rx.tupAt I r1;rcases cI (fe h).2 ry with ⟨ys,rfl⟩|⟨ys,rfl⟩|fy
   ·simp[eqF]at h
   ·obtain⟨c,ws,its2,rfl,rfl,t2,w2,p2,l2⟩:=ry.lstAt I r2;simp[eqF]at h;subst h
    exact⟨.tuple_list p1 p2 hu0,.tuple_list p1 p2 hu0⟩
   ·obtain⟨z1,z2,z3,z4⟩:=fL hu0 fy r2 p1;have:b=false:=by cases y<;>simp[eqF,Rep]at h ry<;>first|exact h.symm|exact h|(obtain⟨_,rfl,_⟩:=ry;exact absurd (show false=true from fy) Bool.false_ne_true)
    subst this;exact⟨z2,z4⟩
  ·obtain⟨a,us,its,rfl,rfl,t1,w1,p1,l1⟩:=rx.lstAt I r1;rcases cI (fe h).2 ry with ⟨ys,rfl⟩|⟨ys,rfl⟩|fy
   ·obtain⟨c,ws,its2,rfl,rfl,t2,w2,p2,l2⟩:=ry.tupAt I r2;simp[eqF]at h;subst h
    exact⟨.list_tuple p1 p2 hu0,.list_tuple p1 p2 hu0⟩
   ·simp[eqF]at h
   ·obtain⟨z1,z2,z3,z4⟩:=gz hu0 fy r2 p1;have:b=false:=by cases y<;>simp[eqF,Rep]at h ry<;>first|exact h.symm|exact h|(obtain⟨_,rfl,_⟩:=ry;exact absurd (show false=true from fy) Bool.false_ne_true)
    subst this;exact⟨z2,z4⟩
  ·rcases cI (fe h).2 ry with ⟨ys,rfl⟩|⟨ys,rfl⟩|fy
   ·obtain⟨c,ws,its2,rfl,rfl,t2,w2,p2,l2⟩:=ry.tupAt I r2;obtain⟨z1,z2,z3,z4⟩:=fL hu0 fx r1 p2;have:b=false:=by cases x<;>simp[eqF,Rep]at h rx<;>first|exact h.symm|exact h|(obtain⟨_,rfl,_⟩:=rx;exact absurd (show false=true from fx) Bool.false_ne_true)
    subst this;exact⟨z1,z3⟩
   ·obtain⟨c,ws,its2,rfl,rfl,t2,w2,p2,l2⟩:=ry.lstAt I r2;obtain⟨z1,z2,z3,z4⟩:=gz hu0 fx r1 p2;have:b=false:=by cases x<;>simp[eqF,Rep]at h rx<;>first|exact h.symm|exact h|(obtain⟨_,rfl,_⟩:=rx;exact absurd (show false=true from fx) Bool.false_ne_true)
    subst this;exact⟨z1,z3⟩
   ·rw[kC rx ry fx fy h];exact⟨t9 r1 r2 fx fy,uQ r1 r2 fx fy⟩
 | succ n ih =>
  intro x y ux uy vx vy b A hu h rx ry r1 r2;have hu0:A.units<cLine:=by omega
  obtain⟨kt,kl⟩:=xl I (λx y {_ _ _ _ _ _} a1 a2 a3 a4 a5 a6=>(ih x y a1 a2 a3 a4 a5 a6).1) hu;rcases cI (fe h).1 rx with ⟨xs,rfl⟩|⟨xs,rfl⟩|fx
  ·obtain⟨a,us,its,e1,e1',t1,w1,p1,l1⟩:=rx.tupAt I r1;rcases cI (fe h).2 ry with ⟨ys,rfl⟩|⟨ys,rfl⟩|fy
   ·have q:=kt h rx ry r1 r2;obtain⟨c,ws,its2,e2,e2',t2,w2,p2,l2⟩:=ry.tupAt I r2;subst e1 e1' e2 e2';refine⟨?_,q⟩;by_cases hac:a=c
    ·subst hac;have e:=jJ I _ _ rx ry;rw[e]at h;rw[iC _ _ h];exact .same _
    ·exact .of_refs hac q
   ·obtain⟨c,ws,its2,e2,e2',t2,w2,p2,l2⟩:=ry.lstAt I r2;subst e1 e1' e2 e2';simp[eqF]at h;subst h
    exact⟨.tuple_list p1 p2 hu0,.tuple_list p1 p2 hu0⟩
   ·subst e1 e1';obtain⟨z1,z2,z3,z4⟩:=fL hu0 fy r2 p1;have:b=false:=by cases y<;>simp[eqF,Rep]at h ry<;>first|exact h.symm|exact h|(obtain⟨_,rfl,_⟩:=ry;exact absurd (show false=true from fy) Bool.false_ne_true)
    subst this;exact⟨z2,z4⟩
  ·obtain⟨a,us,its,e1,e1',t1,w1,p1,l1⟩:=rx.lstAt I r1;rcases cI (fe h).2 ry with ⟨ys,rfl⟩|⟨ys,rfl⟩|fy
   ·obtain⟨c,ws,its2,e2,e2',t2,w2,p2,l2⟩:=ry.tupAt I r2;subst e1 e1' e2 e2';simp[eqF]at h;subst h
    exact⟨.list_tuple p1 p2 hu0,.list_tuple p1 p2 hu0⟩
   ·have q:=kl h rx ry r1 r2;obtain⟨c,ws,its2,e2,e2',t2,w2,p2,l2⟩:=ry.lstAt I r2;subst e1 e1' e2 e2';refine⟨?_,q⟩;by_cases hac:a=c
    ·subst hac;have e:=jJ I _ _ rx ry;rw[e]at h;rw[iC _ _ h];exact .same _
    ·exact .of_refs hac q
   ·subst e1 e1';obtain⟨z1,z2,z3,z4⟩:=gz hu0 fy r2 p1;have:b=false:=by cases y<;>simp[eqF,Rep]at h ry<;>first|exact h.symm|exact h|(obtain⟨_,rfl,_⟩:=ry;exact absurd (show false=true from fy) Bool.false_ne_true)
    subst this;exact⟨z2,z4⟩
  ·rcases cI (fe h).2 ry with ⟨ys,rfl⟩|⟨ys,rfl⟩|fy
   ·obtain⟨c,ws,its2,rfl,rfl,t2,w2,p2,l2⟩:=ry.tupAt I r2;obtain⟨z1,z2,z3,z4⟩:=fL hu0 fx r1 p2;have:b=false:=by cases x<;>simp[eqF,Rep]at h rx<;>first|exact h.symm|exact h|(obtain⟨_,rfl,_⟩:=rx;exact absurd (show false=true from fx) Bool.false_ne_true)
    subst this;exact⟨z1,z3⟩
   ·obtain⟨c,ws,its2,rfl,rfl,t2,w2,p2,l2⟩:=ry.lstAt I r2;obtain⟨z1,z2,z3,z4⟩:=gz hu0 fx r1 p2;have:b=false:=by cases x<;>simp[eqF,Rep]at h rx<;>first|exact h.symm|exact h|(obtain⟨_,rfl,_⟩:=rx;exact absurd (show false=true from fx) Bool.false_ne_true)
    subst this;exact⟨z1,z3⟩
   ·rw[kC rx ry fx fy h];exact⟨t9 r1 r2 fx fy,uQ r1 r2 fx fy⟩
end
section
variable{X:Cx}
theorem zB(hu:X.A.units+101<cLine):OpR X (compareOp .Eq) (λz D H Q=>∃x y b,Rep X.K H x z/\Rep X.K H y D/\eqF 100 x y=some b/\Q (.bl b) H):=by
 intro pins s σ H z D v u Q I J U h;obtain⟨x,y,b,Y,Z,e,q⟩:=h;exact(mT I 100 x y (by omega) e Y Z J U).2 _ _ _ _ ⟨.bl b,H,I,rfl,q⟩
theorem zC(hu:X.A.units+101<cLine):OpR X (compareOp .NotEq) (λux uy H Q=>∃x y b,Rep X.K H x ux/\Rep X.K H y uy/\pW x y=true/\eqF 100 x y=some b/\Q (.bl (!b)) H):=by
 intro pins s σ H ux uy v u Q I rx ry h;obtain⟨x,y,b,r1,r2,ok,e,q⟩:=h;rcases cI (fe e).1 r1 with ⟨xs,rfl⟩|⟨xs,rfl⟩|fx
 ·cases y with
  | tup ys =>
   obtain⟨a,us,its,rfl,rfl,t1,w1,p1,l1⟩:=r1.tupAt I rx;obtain⟨c,ws,its2,rfl,rfl,t2,w2,p2,l2⟩:=r2.tupAt I ry;rw[eqF]at e;obtain⟨hs,hb⟩:=iD xs ys e;obtain⟨⟨cls,dd,data,sl⟩,ho,hc,n,hd⟩:=id p1;obtain⟨⟨cls2,dd2,data2,sl2⟩,ho2,hc2,n2,hd2⟩:=id p2;simp only at hc hd hc2 hd2;subst hc hd hc2 hd2;refine richCompare_meets_room (op:=.NotEq) ⟨_,ho,rfl⟩ ⟨_,ho2,rfl⟩ PySem.F.slot_tuple_ne PySem.F.entry_tuple_ne (PySem.F.args_tuple_ne_2 _ _) (SeqAt.tuple_neAt a c its.toArray its2.toArray n n2 dd dd2 sl sl2 _)
    ⟨ho,ho2,iE (n:=99) (λx y {_ _ _ _ _ _} a1 a2 a3 a4 a5 a6=>(mT I 99 x y a1 a2 a3 a4 a5 a6).1) (by omega) t1 t2 w1 w2 hs,?_⟩ (by omega)
   refine⟨(λx=>nomatch x),⟨.bl (!b),H,I,?_,q⟩⟩;rw[hb];simp[l1,l2,L2.aA]
  | _=>cases ok
 ·cases y with
  | lst ys =>
   obtain⟨a,us,its,rfl,rfl,t1,w1,p1,l1⟩:=r1.lstAt I rx;obtain⟨c,ws,its2,rfl,rfl,t2,w2,p2,l2⟩:=r2.lstAt I ry;rw[eqF]at e;obtain⟨⟨cls,dd,data,sl⟩,ho,hc,n,hd⟩:=id p1;obtain⟨⟨cls2,dd2,data2,sl2⟩,ho2,hc2,n2,hd2⟩:=id p2;simp only at hc hd hc2 hd2;subst hc hd hc2 hd2;by_cases hl:xs.length=ys.length
   ·rw[if_pos hl]at e;obtain⟨hs,hb⟩:=iD xs ys e;refine richCompare_meets_room (op:=.NotEq) ⟨_,ho,rfl⟩ ⟨_,ho2,rfl⟩ PySem.F.slot_list_ne PySem.F.entry_list_ne (PySem.F.args_list_ne_2 _ _) (SeqAt.list_neAt a c its.toArray its2.toArray n n2 dd dd2 sl sl2 (by simp only[List.size_toArray];omega) _)
     ⟨ho,ho2,iE (n:=99) (λx y {_ _ _ _ _ _} a1 a2 a3 a4 a5 a6=>(mT I 99 x y a1 a2 a3 a4 a5 a6).1) (by omega) t1 t2 w1 w2 hs,?_⟩ (by omega)
    refine⟨(λx=>nomatch x),⟨.bl (!b),H,I,?_,q⟩⟩;rw[hb,hl,Nat.min_self];simp[<- l1,hl,L2.aA]
   ·rw[if_neg hl]at e;cases e;refine richCompare_meets_room (op:=.NotEq) ⟨_,ho,rfl⟩ ⟨_,ho2,rfl⟩ PySem.F.slot_list_ne PySem.F.entry_list_ne (PySem.F.args_list_ne_2 _ _) (SeqAt.list_ne_lengthsAt a c its.toArray its2.toArray n n2 dd dd2 sl sl2 (by simp only[List.size_toArray,bne_iff_ne];omega)) ⟨ho,ho2,?_⟩ (by omega);exact⟨(λx=>nomatch x),⟨.bl true,H,I,rfl,q⟩⟩
  | _=>cases ok
 ·have fy:gM uy=true:=by
   rcases cI (fe e).2 r2 with ⟨ys,rfl⟩|⟨ys,rfl⟩|fy
   ·cases x<;>cases ok
    obtain⟨_,_,rfl,_⟩:∃a us,ux=V.ref a/\_:=by rw[Rep]at r1;exact r1
    exact absurd (show false=true from fx) Bool.false_ne_true
   ·cases x<;>cases ok
    obtain⟨_,_,rfl,_⟩:∃a us,ux=V.ref a/\_:=by rw[Rep]at r1;exact r1
    exact absurd (show false=true from fx) Bool.false_ne_true
   ·exact fy
  have hb:=kC r1 r2 fx fy e;subst hb;refine Bq pins s σ H ux uy v u Q I rx ry ?_;have key:scal ux uy=true/\decide (ux=uy)=eqV ux uy:=by
   cases x<;>cases y<;>simp only[Rep]at r1 r2<;>first
    | (obtain⟨_,_,rfl,_⟩:=r1;exact absurd (show false=true from fx) Bool.false_ne_true)
    | (obtain⟨_,_,rfl,_⟩:=r2;exact absurd (show false=true from fy) Bool.false_ne_true)
    | (obtain⟨_,rfl,_⟩:=r1;exact absurd (show false=true from fx) Bool.false_ne_true)
    | (obtain⟨_,rfl,_⟩:=r2;exact absurd (show false=true from fy) Bool.false_ne_true)
    | (subst r1 r2;first|(cases ok;done)|exact⟨rfl,by first|exact qD|exact tM|exact qE|exact decide_eq_true rfl|exact decide_eq_false (λz=>by cases z)⟩)
  exact⟨key.1,by rw[key.2];exact q⟩
theorem iF{pins:List (Addr×Obj)}{σ:St}{H:Hp}{s:Shared}(I:Inv X pins σ H s)(hu:X.A.units+101<cLine){x:PV}{ux:V}{vx:Value}(rx:Rep X.K H x ux)(r1:aA ux vx){xs:List PV}{us:List V}{its:List Value}(t:Reps X.K H xs us)(w:ay us its){b:Bool}(h:isIn x xs=some b) :
  ∃e:Value->Bool,(∀y,y∈its.toArray->SeqAt.EqAt X.A.in1 s y vx (e y))/\its.toArray.any e=b:=by
 obtain⟨h1,h2⟩:=qW xs h
 classical
 have uniq:∀(z:PV) (u:V) (y:Value),aA u y->Rep X.K H z u->∀p:(∃z u,aA u y/\Rep X.K H z u),p.choose=z:=λz u y r q p=>by
  obtain⟨u',r',q'⟩:=p.choose_spec;have e:=r.inj r';subst e;exact jJ I _ _ q' q
 refine⟨λy=>if p:∃z u,aA u y/\Rep X.K H z u then (eqF 100 p.choose x).getD false else false,?_,?_⟩
 ·intro y hy;obtain⟨j,hj,e⟩:=getElem_of_mem (by simpa using hy:y∈its);have ej:its[j]?=some y:=by rw[getElem?_eq_getElem hj,e]
  have l1:=w.length;obtain⟨uy,e1⟩:∃uy,us[j]?=some uy:=⟨_,getElem?_eq_getElem (by omega)⟩;obtain⟨wy,e2,ry⟩:=w.get e1;rw[ej]at e2;cases e2;obtain⟨z,e3,rz⟩:=t.get' e1;obtain⟨c,hc⟩:=h1 z (mem_of_getElem? e3);have q:=(mT I 100 z x (A:=X.A.in1) (show X.A.units+1+100<cLine by omega) hc rz rx ry r1).1;have p:∃z u,aA u y/\Rep X.K H z u:=⟨z,uy,ry,rz⟩;have e4:=uniq z uy y ry rz p;simp only[p,dite_true,e4,hc,getD_some];exact q
 ·rw[h2];simp only[any_toArray];clear h h1 h2
  induction xs generalizing us its with
  |nil =>
   rw[Reps]at t;subst t;cases w
   rfl
  | cons z zs ih =>
   rw[Reps]at t;obtain⟨u,r,rfl,q,t⟩:=t;cases w with
   |cons rv w =>
    rename_i y ys;have p:∃z u,aA u y/\Rep X.K H z u:=⟨z,u,rv,q⟩;have e4:=uniq z u y rv q p;rw[any_cons,any_cons,ih t w];simp only[p,dite_true,e4]
theorem zD(D:X.A.units+101<cLine):OpR X (compareOp .In) (λJ U H Q=>∃x xs a us b,Rep X.K H x J/\U=.ref a/\(SqL X.K H a us\/SqT X.K H a us)/\Reps X.K H xs us/\isIn x xs=some b/\Q (.bl b) H):=by
 intro pins s σ H J U v u Q I Y ry h;obtain⟨x,xs,a,us,b,Z,rfl,z,r2,e,q⟩:=h;cases ry;rcases z with z|z
 ·obtain⟨its,r,pl,hz⟩:=I.list z;obtain⟨f,h1,h2⟩:=iF I D Z Y r2 r e;refine SeqAt.in_listAt f pl.isList h1 ?_;rw[h2];exact⟨.bl b,H,I,rfl,q⟩
 ·obtain⟨its,r,pl,hz⟩:=I.tuple z;obtain⟨f,h1,h2⟩:=iF I D Z Y r2 r e;refine SeqAt.in_tupleAt f pl h1 ?_;rw[h2];exact⟨.bl b,H,I,rfl,q⟩
theorem sC(D:X.A.units+101<cLine):OpR X (compareOp .NotIn) (λJ U H Q=>∃x xs a us b,Rep X.K H x J/\U=.ref a/\(SqL X.K H a us\/SqT X.K H a us)/\Reps X.K H xs us/\isIn x xs=some b/\Q (.bl (!b)) H):=by
 intro pins s σ H J U v u Q I Y ry h;obtain⟨x,xs,a,us,b,Z,rfl,z,r2,e,q⟩:=h;cases ry;rcases z with z|z
 ·obtain⟨its,r,pl,hz⟩:=I.list z;obtain⟨f,h1,h2⟩:=iF I D Z Y r2 r e;refine SeqAt.notIn_listAt f pl.isList h1 ?_;rw[h2];exact⟨.bl (!b),H,I,rfl,q⟩
 ·obtain⟨its,r,pl,hz⟩:=I.tuple z;obtain⟨f,h1,h2⟩:=iF I D Z Y r2 r e;refine SeqAt.notIn_tupleAt f pl h1 ?_;rw[h2];exact⟨.bl (!b),H,I,rfl,q⟩
end
end MM
namespace L2
open PySem PySem.Spec PyProof.Rows List Option
theorem PE.imp{X:Cx}{e:Expr}{t t':TE}(h:PE X e t)(i:∀σ H Q,t' σ H Q->t σ H Q):PE X e t':=λpins s σ H Q I q=>h pins s σ H Q I (i σ H Q q)
theorem PT.imp{X:Cx}{e:Expr}{t t':TT}(h:PT X e t)(i:∀σ H Q,t' σ H Q->t σ H Q):PT X e t':=λpins s σ H Q I q=>h pins s σ H Q I (i σ H Q q)
theorem PA.imp{X:Cx}{e:List Expr}{t t':TA}(h:PA X e t)(i:∀σ H Q,t' σ H Q->t σ H Q):PA X e t':=λpos pins s σ H Q I q=>h pos pins s σ H Q I (i σ H Q q)
theorem PS.imp{X:Cx}{e:Stmt}{t t':TS}(h:PS X e t)(i:∀D σ H,t' D σ H->t D σ H):PS X e t':=λpins s σ H D I q=>h pins s σ H D I (i D σ H q)
theorem PSs.imp{X:Cx}{e:List Stmt}{t t':TS}(h:PSs X e t)(i:∀D σ H,t' D σ H->t D σ H):PSs X e t':=λpins s σ H D I q=>h pins s σ H D I (i D σ H q)
theorem PI.imp{X:Cx}{tg e:Expr}{t t':TI}(h:PI X tg e t)(i:∀σ H R,t' σ H R->t σ H R):PI X tg e t':=λpins s σ H R I q=>h pins s σ H R I (i σ H R q)
end L2
namespace MM
open PySem PySem.Spec PyProof.Rows L2 List Option
noncomputable def gR(H:Hp)(ms:List Addr):Hp:=λb=>if b∈ms then none else H b
noncomputable def jt(K:PySem.W.Frag)(O:List Addr)(H:Hp):MV->V->Prop
 | .val v,u=>Rep K (aj H O) v u
 | .brw xs,u=>∃a us,u=.ref a/\SqL K H a us/\Reps K (aj H O) xs us
 | .own _,_=>False
 | .ownD _,_=>False
 | .mutD _,_=>False
 | .brwD kvs,u=>∃a,u=.ref a/\Rd H a (iA kvs)
noncomputable def spM(K:PySem.W.Frag)(cal:Cal)(f:Nat):Sp:=λvs H Q _ =>
 ∃(O:List Addr) (args:List MV) (r:PV),(∀a∈O,H a≠none)/\Paired (jt K O H) args vs/\cal f args=some r/\∀u H',ae H H'->Rep K (aj H' O) r u->Q u H'
noncomputable def spF(K:PySem.W.Frag)(cal:Cal)(f:Nat):Sp:=λvs H Q _ =>
 ∃(O:List Addr) (args:List MV) (xs:List PV),(∀a∈O,H a≠none)/\Paired (jt K O H) args vs/\cal (f+1000) args=some (.lst xs)/\∀p us H',ae H H'->H p=none->H' p=some (.lst us)->Reps K (aj H' (p::O)) xs us->Q (.ref p) H'
noncomputable def zE(K:PySem.W.Frag)(O:List Addr)(H:Hp):MV->V->Prop
 | .val v,u=>Rep K (aj H O) v u
 | .mutD d,u=>∃a,u=.ref a/\DAt K H O a d/\a∈O
 | _,_=>False
inductive bY(K:PySem.W.Frag)(O:List Addr)(H':Hp):List MV->List V->List PV->List Addr->Prop where
 | nil:bY K O H' [] [] [] []
 | mutd {d d':DD}{a:Addr}{as:List MV}{vs:List V}{ds:List PV}{ms:List Addr} (h:DAt K H' O a d') (hn:a∉ms) (t:bY K O H' as vs ds ms):bY K O H' (.mutD d::as) (.ref a::vs) (.dI d'::ds) (a::ms)
 | other {m:MV}{v:V}{as:List MV}{vs:List V}{ds:List PV}{ms:List Addr} (h:∀d,m≠.mutD d) (t:bY K O H' as vs ds ms):bY K O H' (m::as) (v::vs) ds ms
noncomputable def spD(K:PySem.W.Frag)(cal:Cal)(f:Nat):Sp:=λvs H Q _ =>
 ∃(O:List Addr) (args:List MV) (v:PV) (ds q:List PV) (ms:List Addr),(∀a∈O,H a≠none)/\Paired (zE K O H) args vs/\bY K O H args vs q ms/\cal (f+2000) args=some (.tup (v::ds)) /\
  ∀u H',(∀b o,b∉ms->H b=some o->H' b=some o)->bY K O H' args vs ds ms->Rep K (aj H' O) v u->Q u H'
noncomputable def iG:List String:=["len","tuple","list","sorted","any","all","sum","max","min","int","bool","str","isinstance","set","range","enumerate","reversed"
 ,"zip"
 ]
noncomputable def toV:PV->V
 | .non=>.non
 | .bl b=>.bl b
 | .int i=>.int i
 | .str x=>.str x
 | _=>.non
noncomputable def xm(K:PySem.W.Frag)(mg:Str->Option Value)(w:World):Prop:=∀t∈fJ,∃(d:Addr) (o:Obj) (es:Array DictEntry) (ep:Nat),(d==sysModules)=false/\mg t.1=some (.ref d)/\List.lookup d K=some o/\o.ExactDict/\o.data=.dict es ep/\(∀e∈es,∃k,Value.isStrOf k e.key=true/\e.hash=hashStr w k) /\
 ∀p∈t.2,∃(val:Value) (u:V),findBy Value.isStrOf es p.1=some val/\aA u val/\∀F,Rep K F p.2 u
noncomputable abbrev wGs (l:Addr) (n:Int):List (Str×V):=[("words",.ref l),("place",.int n)]
noncomputable def spL(K:PySem.W.Frag)(C:Addr):Sp:=λvs H Q _=>∃a dx l n ws,vs=[.ref a]/\H a=some (.ins C dx (wGs l n))/\SqL K H l ws/\Q (.bl (decide (n<ws.length))) H
noncomputable def spN(K:PySem.W.Frag)(C:Addr):Sp:=λvs H Q _=>∃a dx l n ws u,vs=[.ref a]/\H a=some (.ins C dx (wGs l (n:Nat)))/\SqL K H l ws/\ws[n]?=some u/\Q u (upd H a (.ins C dx (wGs l (n+1:Nat))))
noncomputable def spW (C:Addr):Sp:=λvs H Q _=>∃x dx t,vs=[.ref x,.str t]/\H x=some (.ins C dx [])/\t.length<=1000000/\(Txt.split t (" ":Str)).length<=1000000 /\
 ∀l H',H l=none->H' x=some (.ins C dx (wGs l (0:Nat)))->H' l=some (.lst ((Txt.split t (" ":Str)).map V.str))->(∀b o,b≠x->H b=some o->H' b=some o)->Q .non H'
structure Gf(X:Cx)(T:Tab)(k:Nat)(cal:Cal):Prop where
 calm:X.calm=true
 room:dj k X.A
 fns:∀(f:Nat) (x:Str),T.fs[f]?=some x->∃(fa:Addr) (fd:FuncData) (ps:List Str),X.mg x=some (.ref fa)/\PySem.W.keepIn X.K (.ref fa)=true/\bA X.K fd ps []/\de X.prog X.w X.K X.mg X.base CX0 k fa fd ps (spM X.K cal f)/\∀l,T.ds[f]?=some l->∃vs,bA X.K fd ps vs/\ay (l.map Sc.v) vs
 blt:∀x∈iG,X.mg (x:Str)=none
 gs:∀p∈T.gs,∃u,X.mg p.1=some u/\aA (toV p.2) u
 ct:xm X.K X.mg X.w
 wlvl:cal 4000 []≠none->dj 3 X.A
 wcls:∀C,IsW X.K C->Cls X.K C/\(∃(fa:Addr) (fd:FuncData) (ps:List Str),nD X.K C "are_left" fa/\bA X.K fd ps []/\de X.prog X.w X.K X.mg X.base CX0 1 fa fd ps (spL X.K C)) /\
  (∃(fa:Addr) (fd:FuncData) (ps:List Str),nD X.K C "next_word" fa/\bA X.K fd ps []/\de X.prog X.w X.K X.mg X.base CX0 2 fa fd ps (spN X.K C))
 wini:∃C,IsW X.K C/\X.mg ("Words":Str)=some (.ref C)/\∃(fa:Addr) (fd:FuncData) (ps:List Str),Mk X.K C fa/\bA X.K fd ps []/\de X.prog X.w X.K X.mg X.base CX0 1 fa fd ps (spW C)
 fnsF:∀(f:Nat) (x:Str),T.fs[f]?=some x->∃(fa:Addr) (fd:FuncData) (ps:List Str),X.mg x=some (.ref fa)/\PySem.W.keepIn X.K (.ref fa)=true/\bA X.K fd ps []/\de X.prog X.w X.K X.mg X.base CX0 k fa fd ps (spF X.K cal f)
 fnsD:∀(f:Nat) (x:Str),T.fs[f]?=some x->∃(fa:Addr) (fd:FuncData) (ps:List Str),X.mg x=some (.ref fa)/\PySem.W.keepIn X.K (.ref fa)=true/\bA X.K fd ps []/\de X.prog X.w X.K X.mg X.base CX0 k fa fd ps (spD X.K cal f)
theorem Gf.units{X:Cx}{T:Tab}{k:Nat}{cal:Cal}(g:Gf X T k cal):X.A.units+200<cLine:=by have:=g.room.un;omega
noncomputable def Got(K:PySem.W.Frag)(H:Hp)(O:List Addr)(q:ME)(v:PV)(u:V):Prop:=bH K H O v u/\(al q=false->Rep K (aj H O) v u)
noncomputable def tE(K:PySem.W.Frag)(cal:Cal)(q:ME):TE:=λσ H Q=>∃B O₀ O ρ v,aw K B O₀ O H ρ σ/\ev cal q ρ=some v/\∀u H',ae H H'->Got K H' O q v u->Q u H'
noncomputable def tT(K:PySem.W.Frag)(cal:Cal)(q:ME):TT:=λσ H Q=>∃B O₀ O ρ b,aw K B O₀ O H ρ σ/\evB cal q ρ=some b/\∀H',ae H H'->Q b H'
noncomputable def DU(K:PySem.W.Frag)(H:Hp)(O:List Addr)(ms:List ME)(vs:List PV)(us:List V):Prop:=Paired (bH K H O) vs us/\((ms.all λm=>!al m)=true->Reps K (aj H O) vs us)
noncomputable def tEs(K:PySem.W.Frag)(cal:Cal)(ms:List ME):TA:=λσ H Q=>∃B O₀ O ρ vs,aw K B O₀ O H ρ σ/\evs cal ms ρ=some vs/\∀us H',ae H H'->DU K H' O ms vs us->Q us H'
noncomputable def tAs(K:PySem.W.Frag)(cal:Cal)(ms:List ME):TA:=λσ H Q=>∃B O₀ O ρ vs,aw K B O₀ O H ρ σ/\evA cal ms ρ=some vs/\∀us H',ae H H'->Paired (jt K O H') vs us->Q us H'
section
variable{K:PySem.W.Frag}{H H':Hp}{O:List Addr}
theorem Got.of{q:ME}{v:PV}{u:V}(h:Rep K (aj H O) v u):Got K H O q v u:=⟨.inl h,λ_=>h⟩
theorem Got.scal{q:ME}{v:PV}{u:V}(h:∀F,Rep K F v u):Got K H O q v u:=.of (h _)
theorem Got.mono{q:ME}{v:PV}{u:V}(s:ae H H')(h:Got K H O q v u):Got K H' O q v u:=⟨h.1.mono s,λe=>Rep.mono (af s) _ (h.2 e)⟩
theorem dk(F:Hp)(b:Bool):Rep K F (.bl b) (.bl b):=by rw[Rep]
theorem cE(F:Hp)(b:Int):Rep K F (.int b) (.int b):=by rw[Rep]
theorem iH(F:Hp)(b:Str):Rep K F (.str b) (.str b):=by rw[Rep]
theorem mU(F:Hp):Rep K F .non .non:=by rw[Rep]
theorem fC{H1:Hp}{p:Addr}{xs:List PV}{us:List V}(D:∀a∈O,H1 a≠none)(q:H1 p=none)(h:Reps K (aj H1 O) xs us):Rep K (aj (upd H1 p (.tup us)) O) (.tup xs) (.ref p):=by
 rw[Rep];refine⟨p,us,rfl,SqT.of ?_,Reps.mono (af (aM q _)) _ h⟩;rw[aL (λz=>D p z q)];exact au
theorem kD{H1:Hp}{p:Addr}{xs:List PV}{us:List V}(D:∀a∈O,H1 a≠none)(q:H1 p=none)(h:Reps K (aj H1 O) xs us):Rep K (aj (upd H1 p (.lst us)) O) (.lst xs) (.ref p):=by
 rw[Rep];refine⟨p,us,rfl,SqL.of ?_,Reps.mono (af (aM q _)) _ h⟩;rw[aL (λz=>D p z q)];exact au
theorem aW(s:ae H H')(h:∀a∈O,H a≠none):∀a∈O,H' a≠none:=λa q e=>h a q (s.free e)
theorem cF{n:Nat}(h:n<=10000):n<=sizeLine:=Nat.le_trans h (by decide)
end
section
variable{X:Cx}{T:Tab}{k:Nat}{cal:Cal}
theorem BN{sc:Scope}{x:Str}(h:zv sc x=true):Vis sc x:=by
 unfold zv at h;simp only[Bool.or_eq_true,beq_iff_eq]at h;rcases h with (h|h)|h
 ·exact .inl h
 ·exact .inr (.inl h)
 ·exact .inr (.inr h)
theorem gS{sc:Scope}{x:Str}(h:fX sc x=true):Loc sc x:=by
 unfold fX at h;simp only[Bool.or_eq_true,beq_iff_eq]at h;exact h
theorem dQ {x:Str} (h:ah x=true):(x==("__debug__":Str))=false/\(x==("__classdict__":Str))=false/\x ≠ "__name__":=by
 unfold ah at h;simp only[Bool.and_eq_true,Bool.not_eq_true']at h;obtain⟨⟨h1,h2⟩,h3⟩:=h;exact⟨h1,h2,λe=>by rw[e]at h3;simp at h3⟩
theorem dB{x:Str}(h:glB X.env.scope x=true):Gl X x:=by
 unfold glB at h;simp only[beq_iff_eq]at h;exact h
theorem bP{i:Nat}{x:Str}{pos:Pos}(h:aG X.N X.env.scope i x=true):PE X (.Name x pos) (yJ i):=by
 unfold aG at h;simp only[Bool.and_eq_true,beq_iff_eq]at h;obtain⟨⟨h1,h2⟩,h3⟩:=h;obtain⟨p1,p2,_⟩:=dQ h3;exact tw h1 (BN h2) p1 p2
theorem aK{K:PySem.W.Frag}{B H:Hp}{O₀ O:List Addr}{ρ:Rho}{σ:St}(st:aw K B O₀ O H ρ σ){i:Nat}{m:MV}(e:(ρ[i]?).join=some m):∃u,σ[i]?=some (some u)/\ez K B O H m u:=st.slot i m (ax e)
theorem yi{i:Nat}{x:Str}{pos:Pos}(h:aG X.N X.env.scope i x=true):PE X (.Name x pos) (tE X.K cal (.var i)):=by
 refine(bP h).imp λσ H Q hq=>?_
 obtain⟨B,O₀,O,ρ,v,st,he,q⟩:=hq;rw[ev]at he;cases hj:(ρ[i]?).join with
 |none=>rw[hj]at he;cases he
 | some m =>
  rw[hj]at he;cases m with
  |val w =>
   simp only[uI,Option.some.injEq]at he;subst he;obtain⟨u,e1,r⟩:=aK st hj;exact⟨u,e1,q u H (ae.refl H) (.of r)⟩
  |own _=>cases he
  |brw _=>cases he
  |ownD _=>cases he
  |mutD _=>cases he
  |brwD _=>cases he
theorem yj{i:Nat}{x:Str}{pos:Pos}(h:aG X.N X.env.scope i x=true):PE X (.Name x pos) (tE X.K cal (.bor i)):=by
 refine(bP h).imp λσ H Q U=>?_
 obtain⟨B,O₀,O,ρ,v,st,D,q⟩:=U;rw[ev]at D;cases J:(ρ[i]?).join with
 |none=>rw[J]at D;cases D
 |some m =>
  rw[J]at D;obtain⟨u,Y,r⟩:=aK st J;exact⟨u,Y,q u H (ae.refl H) ⟨r.bor st.keep D,λz=>by cases z⟩⟩
theorem yk{v:PV}{c:Const}{j:Nat}{pos:Pos}(h:mM v c=true):PE X (.Constant c j pos) (tE X.K cal (.cst v)):=by
 have key:∀(u:V),(∀F,Rep X.K F v u)->PE X (.Constant c j pos) (tC u)->PE X (.Constant c j pos) (tE X.K cal (.cst v)):=λu r p=>p.imp λσ H Q D=>by
  obtain⟨B,O₀,O,ρ,w,st,z,q⟩:=D;rw[ev]at z;cases z;exact q u H (ae.refl H) (.scal r)
 cases v<;>cases c<;>simp only[mM,Bool.false_eq_true,beq_iff_eq]at h
 ·exact key .non (λF=>mU F) yK
 ·subst h;exact key _ (λF=>dk F _) Be
 ·subst h;exact key _ (λF=>cE F _) mj
 ·subst h;exact key _ (λF=>iH F _) pf
theorem uR{x y:Str}{v:PV}{pos:Pos}(g:Gf X T k cal)(h:chk T (.glob x v) X.N X.env.scope (.Name y pos)=true):PE X (.Name y pos) (tE X.K cal (.glob x v)):=by
 simp only[cg,bM,ci,bt,bT,cj,cm,cn,dA,cq,cu,be,cw,cx,cy,bf,cz,bu,aS,Bool.and_eq_true,beq_iff_eq]at h;obtain⟨⟨⟨rfl,hg⟩,Y⟩,hp⟩:=h;unfold uK at Y;obtain⟨p,U,J⟩:=List.any_eq_true.mp Y;simp only[Bool.and_eq_true,beq_iff_eq]at J;obtain⟨rfl,D⟩:=J;obtain⟨u,e1,r⟩:=g.gs p U;have e:p.2=v/\∀F,Rep X.K F v (toV v):=by
  revert D;generalize p.2=z;intro D;cases z<;>cases v<;>simp only[yh,Bool.false_eq_true,beq_iff_eq]at D
  ·exact⟨rfl,λF=>mU F⟩
  ·subst D;exact⟨rfl,λF=>dk F _⟩
  ·subst D;exact⟨rfl,λF=>cE F _⟩
  ·subst D;exact⟨rfl,λF=>iH F _⟩
 rw[e.1]at r;refine(qy (dB hg) e1 r (dQ hp).1).imp λσ H Q hq=>?_
 obtain⟨B,O₀,O,ρ,w,st,Z,q⟩:=hq;rw[ev]at Z;cases Z;exact q _ H (ae.refl H) (.scal e.2)
end
section
variable{X:Cx}
noncomputable def R2M(K:PySem.W.Frag)(f:PV->PV->Option PV):R2:=λq z H Q =>
 ∃O x y v,(∀a∈O,H a≠none)/\bH K H O x q/\bH K H O y z/\f x y=some v/\∀u H',ae H H'->Rep K (aj H' O) v u->Q u H'
theorem i_{op:Operator}{C:Int->Int->Prop}{g:Int->Int->Int}{f:PV->PV->Option PV}(h:OpR X (binaryOp op) (rI C λi j=>.int (g i j)))
  (z:∀x y v,f x y=some v->∃i j,x=.int i/\y=.int j/\C i j/\v=.int (g i j)):OpR X (binaryOp op) (R2M X.K f):=by
 intro pins s σ H ux uy v u Q I D J U;obtain⟨O,x,y,w,hO,Y,Z,e,q⟩:=U;obtain⟨i,j,rfl,rfl,c,rfl⟩:=z x y w e;have e1:=Y.int;have e2:=Z.int;subst e1 e2;exact h pins s σ H _ _ v u Q I D J ⟨i,j,rfl,rfl,c,q _ H (ae.refl H) (cE _ _)⟩
theorem qY:OpR X (binaryOp .Add) (λx y H Q=>∃l b xs zs,x=.ref l/\y=.ref b/\SqL X.K H l xs/\SqL X.K H b zs/\xs.length+zs.length<=sizeLine/\∀p,H p=none->Q (.ref p) (upd H p (.lst (xs++zs)))):=by
 intro pins s σ H x y v u Q I rx ry h;obtain⟨l,b,xs,zs,rfl,rfl,hH,hB,hz,q⟩:=h;cases rx;cases ry;obtain⟨its,r,pl,_⟩:=I.list hH;obtain⟨z,r2,Y,_⟩:=I.list hB;have l1:=r.length;have l2:=r2.length;obtain⟨⟨cls,dd,data,sl⟩,ho,hc,n,hd⟩:=pl.isList;obtain⟨⟨a0,Z,data2,ao⟩,D,J,n2,U⟩:=Y.isList;simp only at hc hd J U;subst hc hd J U;have e:its.toArray++z.toArray=(its++z).toArray:=by simp
 refine concat_meets ⟨_,ho,rfl⟩ ⟨_,D,rfl⟩ noFill_list_add seq_list_add PySem.F.slot_list_add PySem.F.entry_list_add (PySem.F.args_list_add_2 _ _) (list_addW l b its.toArray z.toArray n n2 dd Z sl ao (by rw[List.size_toArray,List.size_toArray];omega)) ⟨ho,D,?_⟩;rw[e];exact⟨.ref _,_,I.lnew (t':=s.toks) (r.append r2) (by rw[length_append];omega),rfl,q _ I.fresh⟩
theorem xn:OpR X (binaryOp .Add) (λx y H Q=>∃a b ys,x=.ref a/\y=.ref b/\SqT X.K H a []/\SqT X.K H b ys/\Q (.ref b) H):=by
 intro pins s σ H x y v u Q I rx ry h;obtain⟨a,b,ys,rfl,rfl,ha,hb,q⟩:=h;cases rx;cases ry;obtain⟨its,r1,⟨⟨c1,d1,t1,l1⟩,ho,hc,n,hd⟩,_⟩:=I.tuple ha;obtain⟨J,r2,⟨⟨c2,d2,t2,l2⟩,U,Y,n2,Z⟩,_⟩:=I.tuple hb;cases hc;cases hd;cases Y;cases Z;have z:its=[]:=r1.nil_iff.mpr rfl;have D:=tuple_addW0 a b its.toArray J.toArray n n2 d1 d2 l1 l2 (by simp[z]);exact concat_meets ⟨_,ho,rfl⟩ ⟨_,U,rfl⟩ noFill_tuple_add seq_tuple_add PySem.F.slot_tuple_add PySem.F.entry_tuple_add (PySem.F.args_tuple_add_2 _ _) D ⟨ho,U,.ref b,H,I,rfl,q⟩
theorem dZ{α:Type}{f:Int->Int->Option α}{x y:PV}{v:α}(h:iw f x y=some v):∃i j,x=.int i/\y=.int j/\f i j=some v:=by
 cases x<;>try (cases h;done)
 cases y<;>try (cases h;done)
 exact⟨_,_,rfl,rfl,h⟩
theorem iI{C:Int->Int->Prop} [∀i j,Decidable (C i j)] {g:Int->Int->Int}{x y v:PV} (h:iw (λi j=>if C i j then some (.int (g i j)) else none) x y=some v):∃i j,x=.int i/\y=.int j/\C i j/\v=.int (g i j):=by
 obtain⟨i,j,z,D,q⟩:=dZ h;by_cases c:C i j
 ·rw[if_pos c]at q;exact⟨i,j,z,D,c,(Option.some.inj q).symm⟩
 ·rw[if_neg c]at q;cases q
theorem mV(op:Op2):OpR X (binaryOp (jC op)) (R2M X.K (eU op)):=by
 cases op with
 | sub=>exact i_ (C:=λ_ _=>True) (g:=λi j=>i - j) (λpins s σ H x y v u Q I rx ry h=>tL pins s σ H x y v u Q I rx ry (by obtain ⟨i,j,e1,e2,_,q⟩:=h;exact ⟨i,j,e1,e2,q⟩)) (λx y v h=>by
   obtain⟨i,j,e1,e2,e3⟩:=dZ h;exact⟨i,j,e1,e2,trivial,(Option.some.inj e3).symm⟩)
 |mul=>exact i_ yV λx y v h=>by have q:=iI h;exact q
 |fdiv=>exact i_ wf λx y v h=>by have q:=iI h;exact q
 |mod=>exact i_ yW λx y v h=>by have q:=iI h;exact q
 |pow=>exact i_ yX λx y v h=>by have q:=iI h;exact q
 |shr=>exact i_ yY λx y v h=>by have q:=iI h;exact q
 | add =>
  intro pins s σ H ux uy v u Q I rx ry hq;obtain⟨O,x,y,w,hO,r1,r2,e,q⟩:=hq;cases x<;>try (cases e;done)
  all_goals (cases y<;>simp only[eU,uH]at e<;>try (cases e;done))
  ·cases e;have e1:=r1.int;have e2:=r2.int;subst e1 e2;exact yU pins s σ H _ _ v u Q I rx ry ⟨_,_,rfl,rfl,q _ H (ae.refl H) (cE _ _)⟩
  ·split at e
   ·rename_i c;cases e;have e1:=r1.str;have e2:=r2.str;subst e1 e2;exact pq pins s σ H _ _ v u Q I rx ry ⟨_,_,rfl,rfl,Nat.le_trans c (by decide),q _ H (ae.refl H) (iH _ _)⟩
   ·cases e
  ·split at e
   ·rename_i c;cases e;obtain⟨a,us,rfl,s1,t1⟩:=r1.tup;obtain⟨b,ws,rfl,s2,t2⟩:=r2.tup;have l1:=t1.length;have l2:=t2.length;have w1:=r1.tupR;have w2:=r2.tupR;by_cases z0:us=[]
    ·subst z0;have z1:=eq_nil_of_length_eq_zero l1;subst z1;exact xn pins s σ H _ _ v u Q I rx ry ⟨a,b,ws,rfl,rfl,s1,s2,q _ H (ae.refl H) w2⟩
    refine wu pins s σ H _ _ v u Q I rx ry ⟨a,b,us,ws,rfl,rfl,s1,s2,z0,cF (by omega),λz=>?_,λz p hp=>?_⟩
    ·rw[z,length_nil]at l2;have z1:=eq_nil_of_length_eq_zero l2;subst z1;rw[append_nil]at q;exact q _ H (ae.refl H) w1
    ·exact q _ _ (aM hp _) (fC hO hp (t1.append t2))
   ·cases e
  ·split at e
   ·rename_i c;cases e;obtain⟨a,us,rfl,s1,t1⟩:=r1.lst;obtain⟨b,ws,rfl,s2,t2⟩:=r2.lst;have l1:=t1.length;have l2:=t2.length;exact qY pins s σ H _ _ v u Q I rx ry ⟨a,b,us,ws,rfl,rfl,s1,s2,cF (by omega),λp hp=>q _ _ (aM hp _) (kD hO hp (t1.append t2))⟩
   ·cases e
noncomputable def R2C(K:PySem.W.Frag)(f:PV->PV->Option Bool):R2:=λq z H Q =>
 ∃O x y b,bH K H O x q/\bH K H O y z/\f x y=some b/\Q (.bl b) H
theorem jK{op:CmpOp}{g:Int->Int->Bool}{f:PV->PV->Option Bool}(h:OpR X (compareOp op) (rI0 λi j=>.bl (g i j)))
  (z:∀x y v,f x y=some v->∃i j,x=.int i/\y=.int j/\v=g i j):OpR X (compareOp op) (R2C X.K f):=by
 intro pins s σ H ux uy v u Q I D J U;obtain⟨O,x,y,w,Y,Z,e,q⟩:=U;obtain⟨i,j,rfl,rfl,rfl⟩:=z x y w e;have e1:=Y.int;have e2:=Z.int;subst e1 e2;exact h pins s σ H _ _ v u Q I D J ⟨i,j,rfl,rfl,q⟩
theorem zF:OpR X (compareOp .Is) (λx y H Q=>∃p q,x=.bl p/\y=.bl q/\Q (.bl (p==q)) H):=by
 rintro pins s σ H x y v u Q I z D ⟨p,q,rfl,rfl,J⟩;cases z;cases D;exact wpAny_pure (bw I J (by cases p<;>cases q<;>rfl))
theorem sD:OpR X (compareOp .IsNot) (λx y H Q=>∃p q,x=.bl p/\y=.bl q/\Q (.bl (!(p==q))) H):=by
 rintro pins s σ H x y v u Q I z D ⟨p,q,rfl,rfl,J⟩;cases z;cases D;exact wpAny_pure (bw I J (by cases p<;>cases q<;>rfl))
theorem qZ{K:PySem.W.Frag}{H:Hp}{O:List Addr}{x:PV}{u:V}(r:bH K H O x u):decide (u=.non)=fz x:=by
 cases x with
 |non=>rw[r.non];rfl
 |bl b=>rw[r.bl];rfl
 |int b=>rw[r.int];rfl
 |str b=>rw[r.str];rfl
 |tup xs=>obtain⟨a,us,rfl,_⟩:=r.tup;rfl
 |lst xs=>obtain⟨a,us,rfl,_⟩:=r.lst;rfl
 |dI kvs=>obtain⟨a,rfl,_⟩:=r.dI;rfl
theorem q_{x y:PV}{b:Bool}(h:pX x y=some b):(∃i j,x=.str i/\y=.str j/\b=!(Builtin.Str.occurrences j i 0 j.length 1).isEmpty)\/∃xs,bE y=some xs/\isIn x xs=some b:=by
 unfold pX at h;split at h
 ·split at h
  ·cases h;exact .inl ⟨_,_,rfl,rfl,rfl⟩
  ·cases h
 ·rw[bind_eq_some_iff]at h;exact .inr h
theorem ja(hu:X.A.units+200<cLine)(op:Cp):OpR X (compareOp (gK op)) (R2C X.K (cc op)):=by
 cases op with
 |lt=>exact jK x5 λx y v h=>by obtain⟨i,j,e1,e2,e3⟩:=dZ h;exact⟨i,j,e1,e2,(Option.some.inj e3).symm⟩
 |le=>exact jK Br λx y v h=>by obtain⟨i,j,e1,e2,e3⟩:=dZ h;exact⟨i,j,e1,e2,(Option.some.inj e3).symm⟩
 |gt=>exact jK Bs λx y v h=>by obtain⟨i,j,e1,e2,e3⟩:=dZ h;exact⟨i,j,e1,e2,(Option.some.inj e3).symm⟩
 |ge=>exact jK Bt λx y v h=>by obtain⟨i,j,e1,e2,e3⟩:=dZ h;exact⟨i,j,e1,e2,(Option.some.inj e3).symm⟩
 |eq =>
  intro pins s σ H ux uy v u Q I rx ry hq;obtain⟨O,x,y,w,r1,r2,e,q⟩:=hq;exact zB (by omega) pins s σ H ux uy v u Q I rx ry ⟨x,y,w,r1.whole,r2.whole,e,q⟩
 | ne =>
  intro pins s σ H ux uy v u Q I rx ry hq;obtain⟨O,x,y,w,r1,r2,e,q⟩:=hq;simp only[cc]at e;split at e
  ·rename_i c;simp only[map_eq_some_iff]at e;obtain⟨b,e,rfl⟩:=e;exact zC (by omega) pins s σ H ux uy v u Q I rx ry ⟨x,y,b,r1.whole,r2.whole,c,e,q⟩
  ·cases e
 | isN =>
  intro pins s σ H ux uy v u Q I rx ry hq;obtain⟨O,x,y,w,r1,r2,e,q⟩:=hq;cases y<;>try (cases e;done)
  ·have e2:=r2.non;subst e2;refine yZ pins s σ H ux _ v u Q I rx ry ⟨rfl,?_⟩;have e:some (fz x)=some w:=e;rw[qZ r1,Option.some.inj e];exact q
  ·cases x<;>try (cases e;done)
   have e1:=r1.bl;have e2:=r2.bl;subst e1 e2;exact zF pins s σ H _ _ v u Q I rx ry ⟨_,_,rfl,rfl,by rw[Option.some.inj e];exact q⟩
 | notN =>
  intro pins s σ H ux uy v u Q I rx ry hq;obtain⟨O,x,y,w,r1,r2,e,q⟩:=hq;cases y<;>try (cases e;done)
  ·have e2:=r2.non;subst e2;refine wj pins s σ H ux _ v u Q I rx ry ⟨rfl,?_⟩;have e:some (!fz x)=some w:=e;rw[qZ r1,Option.some.inj e];exact q
  ·cases x<;>try (cases e;done)
   have e1:=r1.bl;have e2:=r2.bl;subst e1 e2;cases e;exact sD pins s σ H _ _ v u Q I rx ry ⟨_,_,rfl,rfl,q⟩
 | isIn =>
  intro pins s σ H ux uy v u Q I rx ry hq;obtain⟨O,x,y,w,r1,r2,e,q⟩:=hq;rcases q_ (show pX x y=some w from e) with ⟨i,j,rfl,rfl,rfl⟩|⟨xs,e1,e2⟩
  ·have z1:=r1.str;have z2:=r2.str;subst z1 z2;exact rT pins s σ H _ _ v u Q I rx ry ⟨i,j,rfl,rfl,q⟩
  obtain⟨a,us,rfl,s2,t2⟩:=r2.seq e1;exact zD (by omega) pins s σ H ux _ v u Q I rx ry ⟨x,_,a,us,w,r1.whole,rfl,s2,Reps.mono (br H O) _ t2,e2,q⟩
 | notIn =>
  intro pins s σ H ux uy v u Q I rx ry hq;obtain⟨O,x,y,w,r1,r2,e,q⟩:=hq;obtain⟨b,e9,rfl⟩:=map_eq_some_iff.mp (show(pX x y).map _=some w from e);rcases q_ e9 with ⟨i,j,rfl,rfl,rfl⟩|⟨xs,e1,e2⟩
  ·have z1:=r1.str;have z2:=r2.str;subst z1 z2;exact mq pins s σ H _ _ v u Q I rx ry ⟨i,j,rfl,rfl,q⟩
  obtain⟨a,us,rfl,s2,t2⟩:=r2.seq e1;exact sC (by omega) pins s σ H ux _ v u Q I rx ry ⟨x,_,a,us,b,r1.whole,rfl,s2,Reps.mono (br H O) _ t2,e2,q⟩
theorem kE(n:Nat)(i:Int):place n i=ixN n i:=rfl
theorem zG:IxR X (R2M X.K kr):=by
 intro value slice pins s σ H ux uy v u Q I rx ry hq z;obtain⟨O,x,y,w,hO,r1,r2,e,q⟩:=hq;cases x<;>cases y<;>simp only[kr]at e<;>try (cases e;done)
 ·split at e
  ·rename_i hz;simp only[bind_eq_some_iff,map_eq_some_iff]at e;obtain⟨j,J,c,U,rfl⟩:=e;have z1:=r1.str;have z2:=r2.int;subst z1 z2;refine pH value slice pins s σ H _ _ v u Q I rx ry (.inr (.inr ⟨_,_,c,rfl,rfl,Nat.le_trans hz (by rw[sizeLine_eq];decide),?_,q _ H (ae.refl H) (iH _ _)⟩)) z;unfold atI;rw[<- kE,J];exact U
  ·cases e
 ·simp only[bind_eq_some_iff]at e;obtain⟨j,J,U⟩:=e;obtain⟨a,us,rfl,s1,Y⟩:=r1.tup;have e3:=r2.int;subst e3;obtain⟨Z,e4,D⟩:=Y.get U;refine pH value slice pins s σ H _ _ v u Q I rx ry (.inr (.inl ⟨a,us,_,Z,rfl,rfl,s1,?_,q Z H (ae.refl H) D⟩)) z;unfold atI;rw[<- Y.length,<- kE,J];exact e4
 ·simp only[bind_eq_some_iff]at e;obtain⟨j,J,U⟩:=e;obtain⟨a,us,rfl,s1,Y⟩:=r1.lst;have e3:=r2.int;subst e3;obtain⟨Z,e4,D⟩:=Y.get U;refine pH value slice pins s σ H _ _ v u Q I rx ry (.inl ⟨a,us,_,Z,rfl,rfl,s1,?_,q Z H (ae.refl H) D⟩) z;unfold atI;rw[<- Y.length,<- kE,J];exact e4
theorem p_{b:Expr}(h:dz b=true):qI b:=by
 intro o i;cases b<;>first|rfl|(simp[dz]at h)
theorem oq{K:PySem.W.Frag}{F:Hp}{xs:List PV}{us:List V}(h:Reps K F xs us)(lo hi:Option Int):Reps K F (cut xs lo hi) (nG us lo hi):=by
 have q:=h.length;have e:∀(n d:Nat) (o:Option Int),ix n d o=HT.sIx n d o:=λn d o=>by cases o<;>rfl
 unfold cut nG;rw[e,e,q];exact(h.drop _).take _
theorem zH:SlR X (λx lo hi H Q=>∃O v w,(∀a∈O,H a≠none)/\bH X.K H O v x/\iy v lo hi=some w/\∀u H',ae H H'->Rep X.K (aj H' O) w u->Q u H'):=by
 intro pins s σ H x v Y Z lo hi sl Q I rx hs pl pu hq;obtain⟨O,pv,w,hO,r1,e,q⟩:=hq;cases pv<;>simp only[iy]at e<;>try (cases e;done)
 ·rename_i xs;cases e;obtain⟨a,us,rfl,U,z⟩:=r1.tup;have e:∀(n d:Nat) (o:Option Int),ix n d o=HT.sIx n d o:=λn d o=>by cases o<;>rfl
  by_cases D:HT.sIx us.length 0 lo=0/\HT.sIx us.length us.length hi=us.length
  ·refine wJ pins s σ H _ v Y Z lo hi sl Q I rx hs pl pu ⟨a,us,rfl,U,D.1,D.2,q _ _ (ae.refl H) ?_⟩;have:cut xs lo hi=xs:=by
    unfold cut;rw[e,e,z.length,D.1,D.2,drop_zero,<- z.length,Nat.sub_zero,take_length]
   rw[this];exact r1.tupR
  ·exact y9 pins s σ H _ v Y Z lo hi sl Q I rx hs pl pu ⟨a,us,rfl,U,D,λp J=>q _ _ (aM J _) (fC hO J (oq z lo hi))⟩
 ·cases e;obtain⟨a,us,rfl,U,z⟩:=r1.lst;exact ww pins s σ H _ v Y Z lo hi sl Q I rx hs pl pu ⟨a,us,rfl,U,λp J=>q _ _ (aM J _) (kD hO J (oq z lo hi))⟩
end
theorem ra(x:Int):∀l,uF x l=Srt.jz Srt.cX x l
 | []=>rfl
 | y::r=>by
  show(if y<x then y::uF x r else x::y::r)=(if Srt.cX.blt y x=true then y::Srt.jz Srt.cX x r else x::y::r);rw[ra x r];by_cases h:y<x
  ·have e:Srt.cX.blt y x=true:=decide_eq_true h;rw[if_pos h,if_pos e]
  ·have e:Srt.cX.blt y x=false:=decide_eq_false h;rw[if_neg h,if_neg (by rw[e];exact Bool.false_ne_true)]
theorem fD:∀l,sortI l=Srt.sortI l
 | []=>rfl
 |x::r=>by
  show uF x (sortI r)=Srt.jz Srt.cX x (Srt.fU Srt.cX r);rw[fD r,ra];rfl
theorem iJ:∀a b,lexLt a b=HT.lexLt a b
 | [],[]=>rfl
 | [],_::_=>rfl
 | _::_,[]=>rfl
 |x::xs,y::ys=>by
  rw[lexLt,HT.lexLt_cons,iJ xs ys]
theorem rb(x:List Int):∀l,uG x l=Srt.jz Srt.dC x l
 | []=>rfl
 |y::r=>by
  show(if lexLt y x=true then y::uG x r else x::y::r)=(if Srt.dC.blt y x=true then y::Srt.jz Srt.dC x r else x::y::r);rw[rb x r,iJ]
  rfl
theorem gk:∀l,sortT l=Srt.sortT l
 | []=>rfl
 |x::r=>by
  show uG x (sortT r)=Srt.jz Srt.dC x (Srt.fU Srt.dC r);rw[gk r,rb];rfl
theorem ou:∀l,dd l=St.dd l
 | []=>rfl
 |x::r=>by
  unfold dd St.dd;rw[ou r]
theorem xp(ns:List Int):Srt.sortI (St.dd ns.reverse)=sortI (dd ns):=by
 rw[fD,ou];refine Srt.lv ?_;refine(perm_ext_iff_of_nodup (St.dd_nodup _) (St.dd_nodup _)).mpr λa=>?_
 rw[St.g5,St.g5,mem_reverse]
theorem zI(ns:List Int):(St.dd ns.reverse).length=(dd ns).length:=by
 rw[ou];refine Perm.length_eq ((perm_ext_iff_of_nodup (St.dd_nodup _) (St.dd_nodup _)).mpr λa=>?_);rw[St.g5,St.g5,mem_reverse]
section
variable{X:Cx}{T:Tab}{k:Nat}{cal:Cal}
noncomputable def RBM(K:PySem.W.Frag)(f:List PV->Option PV):List V->Hp->VK->Prop:=λus H Q =>
 ∃O vs v,(∀a∈O,H a≠none)/\Paired (bH K H O) vs us/\f vs=some v/\∀u H',ae H H'->Rep K (aj H' O) v u->Q u H'
theorem p1{K:PySem.W.Frag}{H:Hp}{O:List Addr}{x:PV}{us:List V}(h:Paired (bH K H O) [x] us):∃u,us=[u]/\bH K H O x u:=by
 cases h with
 |cons r t=>cases t;exact⟨_,rfl,r⟩
theorem p2{K:PySem.W.Frag}{H:Hp}{O:List Addr}{x y:PV}{us:List V}(h:Paired (bH K H O) [x,y] us):∃u w,us=[u,w]/\bH K H O x u/\bH K H O y w:=by
 cases h with
 |cons r t=>cases t with
  |cons q t'=>cases t';exact⟨_,_,rfl,r,q⟩
theorem dl{f:Blt}{vs:List PV}{v:PV}(h:av f vs=some v)(q:dY f=some 1\/(cH f).isSome=true\/f=.sortedSet\/f=.lenSet\/f=.valuesOf):∃x,vs=[x]:=by
 cases vs with
 |nil=>cases f<;>simp[av,cf,g_,gc]at h
 |cons x r=>cases r with
  |nil=>exact⟨x,rfl⟩
  |cons y r=>cases f<;>simp[av,cf,g_,gc,dY,cH]at h q
theorem BO:bC X (.builtin "len") (RBM X.K (av .len)):=by
 intro pins s σ H xs us Q I r h;obtain⟨O,vs,v,hO,rs,e,q⟩:=h;obtain⟨x,rfl⟩:=dl e (.inl rfl);obtain⟨u,rfl,J⟩:=p1 rs;cases x<;>simp only[av,cf,yf]at e<;>try (cases e;done)
 ·split at e
  ·rename_i hz;cases e;have z:=J.str;subst z;exact my pins s σ H _ us Q I r ⟨_,rfl,Nat.le_trans hz (by rw[sizeLine_eq];decide),q _ H (ae.refl H) (cE _ _)⟩
  ·cases e
 ·cases e;obtain⟨a,ws,rfl,U,Y⟩:=J.tup;exact dN pins s σ H _ us Q I r ⟨a,ws,rfl,.inr U,by rw[<- Y.length];exact q _ H (ae.refl H) (cE _ _)⟩
 ·cases e;obtain⟨a,ws,rfl,U,Y⟩:=J.lst;exact dN pins s σ H _ us Q I r ⟨a,ws,rfl,.inl U,by rw[<- Y.length];exact q _ H (ae.refl H) (cE _ _)⟩
 ·rename_i d;cases d with
  |t kvs=>cases e
  |p ns=>cases e
  |w _ _=>cases e
  |k kvs =>
   cases e;obtain⟨a,rfl,ha⟩:=J.dI;obtain⟨u,rfl,ru⟩:=eP r;cases ru;obtain⟨hz,hs,ws,Z,dd⟩:=ya I.hok (show Rd H a (.dK (p6 kvs)) from ha.rd);have D:ws.length=kvs.length:=by rw[<- Z.length];unfold p6;rw[length_map]
   have hz:kvs.length<=sizeLine:=by unfold p6 at hz;rw[length_map]at hz;exact hz
   have hn:=iT;exact call_len_dict hs dd (by rw[D];omega) ⟨.int kvs.length,H,I.tok _,⟨s.toks+1,by rw[D]⟩,q _ H (ae.refl H) (cE _ _)⟩
theorem re:bC X (.type "tuple") (RBM X.K (av .tupleOf)):=by
 intro pins s σ H xs us Q I r h;obtain⟨O,vs,v,Y,Z,e,q⟩:=h;obtain⟨x,rfl⟩:=dl e (.inl rfl);obtain⟨u,rfl,z⟩:=p1 Z;simp only[av,cf,g_,gJ,gc,map_eq_some_iff]at e;obtain⟨ys,e,rfl⟩:=e;cases x<;>simp[bE]at e
 ·subst e;obtain⟨a,ws,rfl,D,J⟩:=z.tup;refine gN pins s σ H _ us Q I r ⟨a,ws,rfl,.inr ⟨D,q _ H (ae.refl H) ?_⟩⟩;exact z.tupR
 ·subst e;obtain⟨a,ws,rfl,D,J⟩:=z.lst;exact gN pins s σ H _ us Q I r ⟨a,ws,rfl,.inl ⟨D,λl U=>q _ _ (aM U _) (fC Y U J)⟩⟩
noncomputable def RBF(K:PySem.W.Frag)(f:List PV->Option PV):List V->Hp->VK->Prop:=λus H Q =>
 ∃O vs xs,(∀a∈O,H a≠none)/\Paired (bH K H O) vs us/\f vs=some (.lst xs)/\∀l ws,H l=none->Reps K (aj H O) xs ws->Q (.ref l) (upd H l (.lst ws))
theorem zJ:bC X (.type "list") (RBF X.K (av .listOf)):=by
 intro pins s σ H xs us Q I r h;obtain⟨O,vs,v,Z,z,e,q⟩:=h;obtain⟨x,rfl⟩:=dl e (.inl rfl);obtain⟨u,rfl,D⟩:=p1 z;simp only[av,cf,g_,gJ,gc,map_eq_some_iff,PV.lst.injEq,exists_eq_right]at e;obtain⟨a,ws,rfl,J,U⟩:=D.seq e;exact mz pins s σ H _ us Q I r ⟨a,ws,rfl,J,λl Y=>q l ws Y U⟩
theorem lV{K:PySem.W.Frag}{F:Hp}:∀{tss:List (List Int)}{us:List V},Reps K F (tss.map λt=>.tup (t.map .int)) us->pR K F us tss
 | [],_,h=>by rw[map_nil,Reps]at h;subst h;exact .nil
 |t::tss,_,h=>by
  rw[map_cons,Reps]at h;obtain⟨u,r,rfl,q,z⟩:=h;rw[Rep]at q;obtain⟨a,vs,e,D,J⟩:=q;rw[J.ints]at D;exact .cons ⟨a,e,dE D⟩ (lV z)
theorem lW{K:PySem.W.Frag}{F F':Hp}(s:ae F F'):∀{us:List V}{tss:List (List Int)},pR K F us tss->pR K F' us tss
 | _,_,.nil=>.nil
 | _,_,.cons ⟨a,q,z⟩ t=>.cons ⟨a,q,s.seqT z⟩ (lW s t)
theorem lX{K:PySem.W.Frag}{F:Hp}{xs:List PV}{us:List V}(h:Reps K F xs us):∀(l:List Nat),(∀i∈l,i<us.length)->Reps K F (l.map λi=>xs.getD i .non) (l.map λi=>us.getD i .non)
 | [],_=>.nil
 |i::l,q=>by
  have hi:=q i (.head _);have hx:i<xs.length:=by rw[h.length];exact hi
  obtain⟨u,z,D⟩:=h.get (i:=i) (x:=xs[i]) (getElem?_eq_getElem hx);refine .cons ?_ (lX h l λj J=>q j (.tail _ J));have U:xs.getD i .non=xs[i]:=by simp[hx]
  have Y:us.getD i .non=u:=by rw[getD_eq_getElem?_getD,z];rfl
  show Rep K F (xs.getD i .non) (us.getD i .non);rw[U,Y];exact D
theorem uS (g:Gf X T k cal):bC X (.builtin "sorted") (RBF X.K (av .sorted)):=by
 intro pins s σ H xs us Q I r h;obtain⟨O,vs,v,hO,rs,e,q⟩:=h;obtain⟨x,rfl⟩:=dl e (.inl rfl);obtain⟨u,rfl,rx⟩:=p1 rs;simp only[av,cf,g_,gJ,gc,bind_eq_some_iff]at e;obtain⟨ys,e,D⟩:=e;obtain⟨a,ws,rfl,s1,J⟩:=rx.seq e;unfold gb at D;split at D
 ·rename_i z;split at D
  ·rename_i ns hn;cases D;have:=gf hn;subst this;have U:=J.ints;subst U;rw[length_map]at z;refine iu g.calm pins s σ H _ us Q I r ⟨a,ns,rfl,s1.imp id .inl,z,λl Y=>?_⟩;rw[<- fD];exact q l _ Y (.of_ints _)
  ·simp only[map_eq_some_iff,PV.lst.injEq]at D;obtain⟨ts,U,rfl⟩:=D;have:=oa U;subst this;rw[length_map]at z;refine mJ (by have:=g.units;omega) pins s σ H _ us Q I r ⟨a,ws,ts,rfl,s1,lW (br H O) (lV J),z,λl pm Y hp e=>q l _ Y ?_⟩;have q2:=lX J pm hp;have e4:(pm.map λi=>(ts.map λt=>PV.tup (t.map .int)).getD i .non)=(sortT ts).map λt=>.tup (t.map .int):=by
    rw[gk,<- e,List.map_map];refine map_congr_left λi hi=>?_
    have Z:i<ts.length:=by have:=hp i hi;rw[<- J.length,length_map]at this;exact this
    simp[Z]
   rw[e4]at q2;exact q2
 ·cases D
theorem BP:bC X (.type "int") (RBM X.K (av .intOf)):=by
 intro pins s σ H xs us Q I r h;obtain⟨O,vs,v,Y,J,e,q⟩:=h;obtain⟨x,rfl⟩:=dl e (.inl rfl);obtain⟨u,rfl,D⟩:=p1 J;cases x<;>simp only[av,cf,g_,gJ,gc]at e<;>try (cases e;done)
 ·cases e;have:=D.bl;subst this;exact lE pins s σ H _ us Q I r (.inr ⟨_,rfl,q _ H (ae.refl H) (cE _ _)⟩)
 ·cases e;have:=D.int;subst this;exact lE pins s σ H _ us Q I r (.inl ⟨_,rfl,q _ H (ae.refl H) (cE _ _)⟩)
 ·split at e
  ·rename_i hz;rw[map_eq_some_iff]at e;obtain⟨n,U,rfl⟩:=e;have z:=D.str;subst z;exact sr pins s σ H _ us Q I r ⟨_,n,rfl,U,hz,q _ H (ae.refl H) (cE _ _)⟩
  ·cases e
theorem BQ:bC X (.type "str") (RBM X.K (av .strOf)):=by
 intro pins s σ H xs us Q I r h;obtain⟨O,vs,v,J,z,e,q⟩:=h;obtain⟨x,rfl⟩:=dl e (.inl rfl);obtain⟨u,rfl,D⟩:=p1 z;cases x<;>simp only[av,cf]at e<;>try (cases e;done)
 split at e
 ·rename_i i hi;cases e;have:=D.int;subst this;exact uA pins s σ H _ us Q I r ⟨_,rfl,hi,q _ H (ae.refl H) (by rw[Rep];rfl)⟩
 ·cases e
theorem rf{x:PV}{ys:List PV}(h:gJ x=some ys):x=.lst ys:=by
 cases x<;>cases h
 rfl
end
section
variable{X:Cx}{T:Tab}{k:Nat}{cal:Cal}
theorem zK {b:Blt}{c:String} (hb:cH b=some c):bC X (.builtin "isinstance") (λus H Q=>∃O v u,us=[u,.ty c]/\isD v=false/\bH X.K H O v u/\Q (.bl (isT b v)) H):=by
 intro pins s σ H xs us Q I r h;obtain⟨O,v,x,rfl,nd,rx,q⟩:=h;obtain⟨u,t,rfl,r1,rc⟩:=Bu r;have rc':t=.type c:=rc;subst rc';have fin:∀(z:Bool) (tk:Nat),z=isT b v->EP X pins σ Q (.bool z) { s with toks:=tk }:=λz tk e=>⟨.bl z,H,I.tok tk,rfl,by rw[e];exact q⟩
 cases v with
 |dI _=>cases nd
 | non =>
  have e:=rx.non;subst e;cases (show u=Value.none from r1);cases b<;>simp only[cH,Option.some.injEq,reduceCtorEq]at hb<;>subst hb <;>
   exact PySem.W.kia_one PySem.W.kitx_none I.kIn True.intro (b:=false) (by first|rfl|kernel_rfl|decide) (λz=>nomatch z) λtk=>fin _ tk rfl
 | bl y =>
  have e:=rx.bl;subst e;cases (show u=Value.bool y from r1);cases b<;>simp only[cH,Option.some.injEq,reduceCtorEq]at hb<;>subst hb<;>first
   |exact PySem.W.kia_one PySem.W.kitx_bool I.kIn True.intro (b:=true) (by first|rfl|kernel_rfl|decide) (λz=>nomatch z) λtk=>fin _ tk rfl
   |exact PySem.W.kia_one PySem.W.kitx_bool I.kIn True.intro (b:=false) (by first|rfl|kernel_rfl|decide) (λz=>nomatch z) λtk=>fin _ tk rfl
 | int y =>
  have e:=rx.int;subst e;obtain⟨t,z⟩:=(show ∃t,u=Value.int y t from r1);cases z;cases b<;>simp only[cH,Option.some.injEq,reduceCtorEq]at hb<;>subst hb<;>first
   |exact PySem.W.kia_one PySem.W.kitx_int I.kIn True.intro (b:=true) (by first|rfl|kernel_rfl|decide) (λz=>nomatch z) λtk=>fin _ tk rfl
   |exact PySem.W.kia_one PySem.W.kitx_int I.kIn True.intro (b:=false) (by first|rfl|kernel_rfl|decide) (λz=>nomatch z) λtk=>fin _ tk rfl
 | str y =>
  have e:=rx.str;subst e;obtain⟨t,z⟩:=(show ∃t,u=Value.str y t from r1);cases z;cases b<;>simp only[cH,Option.some.injEq,reduceCtorEq]at hb<;>subst hb<;>first
   |exact PySem.W.kia_one PySem.W.kitx_str I.kIn True.intro (b:=true) (by first|rfl|kernel_rfl|decide) (λz=>nomatch z) λtk=>fin _ tk rfl
   |exact PySem.W.kia_one PySem.W.kitx_str I.kIn True.intro (b:=false) (by first|rfl|kernel_rfl|decide) (λz=>nomatch z) λtk=>fin _ tk rfl
 | lst ys =>
  obtain⟨a,us,rfl,s1,t1⟩:=rx.lst;cases (show u=Value.ref a from r1);obtain⟨its,_,p,_⟩:=I.list s1;obtain⟨o,h1,h2,_⟩:=p.isList;cases b<;>simp only[cH,Option.some.injEq,reduceCtorEq]at hb<;>subst hb<;>first
   |exact PySem.W.kia_one PySem.W.kitx_list I.kIn ⟨o,h1,h2⟩ (b:=true) (by first|rfl|kernel_rfl|decide) (λz=>nomatch z) λtk=>fin _ tk rfl
   |exact PySem.W.kia_one PySem.W.kitx_list I.kIn ⟨o,h1,h2⟩ (b:=false) (by first|rfl|kernel_rfl|decide) (λz=>nomatch z) λtk=>fin _ tk rfl
 | tup ys =>
  obtain⟨a,us,rfl,s1,t1⟩:=rx.tup;cases (show u=Value.ref a from r1);obtain⟨its,_,p,_⟩:=I.tuple s1;obtain⟨o,h1,h2,_⟩:=p;cases b<;>simp only[cH,Option.some.injEq,reduceCtorEq]at hb<;>subst hb<;>first
   |exact PySem.W.kia_one PySem.W.kitx_tuple I.kIn ⟨o,h1,h2⟩ (b:=true) (by first|rfl|kernel_rfl|decide) (λz=>nomatch z) λtk=>fin _ tk rfl
   |exact PySem.W.kia_one PySem.W.kitx_tuple I.kIn ⟨o,h1,h2⟩ (b:=false) (by first|rfl|kernel_rfl|decide) (λz=>nomatch z) λtk=>fin _ tk rfl
theorem hW{K:PySem.W.Frag}{F:Hp}:∀{bs:List Bool}{us:List V}{its:List Value},Reps K F (bs.map .bl) us->ay us its->its=bs.map Value.bool
 | [],_,_,h,w=>by rw[map_nil,Reps]at h;subst h;cases w;rfl
 | b::bs,_,_,h,w=>by
  rw[map_cons,Reps]at h;obtain⟨u,r,rfl,q,t⟩:=h;rw[Rep]at q;subst q;cases w with
  |cons r1 w1 =>
   cases r1;rw[hW t w1];rfl
theorem sE(bs:List Bool):(range bs.length).all (λi=>bs.getD i false)=bs.all id:=by
 conv=>rhs;rw[<- Srt.gx bs false]
 rw[List.all_map]
 rfl
theorem sF(bs:List Bool):(range bs.length).any (λi=>bs.getD i false)=bs.any id:=by
 conv=>rhs;rw[<- Srt.gx bs false]
 rw[List.any_map]
 rfl
theorem ju{P:Program}{w:World}{A:Around}(bs:List Bool):TruthOf P w A (λi v=>(bs.map Value.bool).toArray[i]?=some v) (λi=>bs.getD i false):=by
 intro i v s Q E h q;simp only[getElem?_toArray,getElem?_map,map_eq_some_iff]at h;obtain⟨b,e,rfl⟩:=h;have:bs.getD i false=b:=by rw[getD_eq_getElem?_getD,e];rfl
 have z:Q (bs.getD i false) s:=q;rw[this]at z;exact wpAny_truthy_bool z
theorem BR (hc:X.calm=true):bC X (.builtin "any") (RBM X.K (av .any)):=by
 intro pins s σ H xs us Q I r h;obtain⟨O,vs,v,hO,J,e,q⟩:=h;obtain⟨x,rfl⟩:=dl e (.inl rfl);obtain⟨u,rfl,U⟩:=p1 J;simp only[av,cf,bind_eq_some_iff,map_eq_some_iff]at e;obtain⟨ys,Y,bs,e,rfl⟩:=e;obtain rfl:=rf Y;have:=i8 e;subst this;obtain⟨a,ws,rfl,Z,t1⟩:=U.lst;obtain⟨u,rfl,ru⟩:=eP r;cases ru;obtain⟨its,r',pl,hz⟩:=I.list Z;have:=hW t1 r';subst this;have z:a<s.heap.objs.size:=by obtain⟨o,ho,_⟩:=pl.isList;exact Heap.lt_size ho
 refine call_any_walk (wpAny_pyIter_list pl.isList ?_);refine⟨s.heap.objs.size,_,_,_,_,_,λi=>bs.getD i false,rfl,Walks.list (by first|exact I.ok.hd hc|simpa using I.ok.hd hc) s.heap.objs.size a (Nat.ne_of_lt z) (bs.map Value.bool).toArray,⟨⟨_,Heap.get?_push_size _ rfl,rfl,rfl⟩,pl.isList.push _⟩,ju bs,λh' tk hk=>?_⟩;have e2:(range (bs.map Value.bool).toArray.size).any (λi=>bs.getD i false)=bs.any id:=by
  rw[List.size_toArray,length_map];exact sF bs
 rw[e2];refine⟨.bl _,H,?_,rfl,q _ H (ae.refl H) (dk _ _)⟩;refine I.kept (t':=tk) λb o e=>hk b o ?_ (Heap.get?_push_of_some _ e)
 intro D;have hb:=Heap.lt_size e;simp at D;exact absurd D (Nat.ne_of_lt hb)
theorem BS (hc:X.calm=true):bC X (.builtin "all") (RBM X.K (av .all)):=by
 intro pins s σ H xs us Q I r h;obtain⟨O,vs,v,hO,J,e,q⟩:=h;obtain⟨x,rfl⟩:=dl e (.inl rfl);obtain⟨u,rfl,U⟩:=p1 J;simp only[av,cf,bind_eq_some_iff,map_eq_some_iff]at e;obtain⟨ys,Y,bs,e,rfl⟩:=e;obtain rfl:=rf Y;have:=i8 e;subst this;obtain⟨a,ws,rfl,Z,t1⟩:=U.lst;obtain⟨u,rfl,ru⟩:=eP r;cases ru;obtain⟨its,r',pl,hz⟩:=I.list Z;have:=hW t1 r';subst this;have z:a<s.heap.objs.size:=by obtain⟨o,ho,_⟩:=pl.isList;exact Heap.lt_size ho
 refine call_all_walk (wpAny_pyIter_list pl.isList ?_);refine⟨s.heap.objs.size,_,_,_,_,_,λi=>bs.getD i false,rfl,Walks.list (by first|exact I.ok.hd hc|simpa using I.ok.hd hc) s.heap.objs.size a (Nat.ne_of_lt z) (bs.map Value.bool).toArray,⟨⟨_,Heap.get?_push_size _ rfl,rfl,rfl⟩,pl.isList.push _⟩,ju bs,λh' tk hk=>?_⟩;have e2:(range (bs.map Value.bool).toArray.size).all (λi=>bs.getD i false)=bs.all id:=by
  rw[List.size_toArray,length_map];exact sE bs
 rw[e2];refine⟨.bl _,H,?_,rfl,q _ H (ae.refl H) (dk _ _)⟩;refine I.kept (t':=tk) λb o e=>hk b o ?_ (Heap.get?_push_of_some _ e)
 intro D;have hb:=Heap.lt_size e;simp at D;exact absurd D (Nat.ne_of_lt hb)
theorem BT (hc:X.calm=true):bC X (.type "set") (λus H Q=>∃O v u ns,us=[u]/\bH X.K H O v u/\((bE v).bind bB)=some ns/\ns.length<=1000/\∀l,H l=none->Q (.ref l) (upd H l (kn X.prog X.w l (St.dd ns.reverse)))):=by
 intro pins s σ H xs us Q I r h;obtain⟨O,v,u,ns,rfl,D,e,z,q⟩:=h;simp only[bind_eq_some_iff]at e;obtain⟨ys,J,U⟩:=e;obtain⟨a,ws,rfl,Y,Z⟩:=D.seq J;have:=gf U;subst this;have e3:=Z.ints;subst e3;exact ut hc pins s σ H _ us Q I r ⟨a,ns,rfl,Y,z,λl hl=>q l hl⟩
theorem oA (hc:X.calm=true):bC X (.builtin "sorted") (λus H Q=>∃(l:Addr) (ks:List Int),us=[.ref l]/\H l=some (kn X.prog X.w l ks)/\ks.length<64/\∀p,H p=none->Q (.ref p) (upd H p (.lst ((Srt.sortI ks).map V.int)))):=by
 intro pins s σ H xs us Q I r h;obtain⟨l,ks,rfl,e,z,q⟩:=h;exact iu hc pins s σ H _ us Q I r ⟨l,ks,rfl,.inr (.inr e),z,q⟩
end
end MM
namespace L2
open PySem PySem.Spec PyProof.Rows List Option
end L2
namespace MM
open PySem PySem.Spec PyProof.Rows L2 List Option
structure jD(K:PySem.W.Frag)(J:It)(xs:List PV)(V G:Hp):Prop where
 stop:∀H',ae G H'->J.stop xs.length H'
 go:∀(i:Nat) x H',ae G H'->xs[i]?=some x->J.go i H'
 yld:∀(i:Nat) x H' u H2,ae G H'->xs[i]?=some x->J.yld i H' u H2->ae H' H2/\∀O',(∀a∈O',H' a≠none)->ae V (aj H2 O')->Rep K (aj H2 O') x u
theorem jD.weak{K:PySem.W.Frag}{J:It}{xs:List PV}{V G q:Hp}(h:jD K J xs V G)(s:ae G q):jD K J xs V q:=
 ⟨λH' s'=>h.stop H' (s.trans s'),λi x H' s'=>h.go i x H' (s.trans s'),λi x H' u H2 s'=>h.yld i x H' u H2 (s.trans s')⟩
noncomputable def aT(ms:List ME)(ρ:Rho)(σ:St):List Addr:=match ms with
 | [.bor i]=>(match (ρ[i]?).join,(σ[i]?).join with|some (.own _),some (.ref a)=>[a]|_,_=>[])
 | _=>[]
noncomputable def aU(B:Hp)(O:List Addr)(H:Hp)(L:List Addr):Hp:=λb=>if b∈O then (if b∈L then H b else B b) else H b
section
variable{K:PySem.W.Frag}{B H:Hp}{O L:List Addr}
theorem iK(s:ae B H):ae (aU B O H L) H:=λb u e=>by
 unfold aU at e;split at e
 ·split at e
  ·exact e
  ·exact s b u e
 ·exact e
theorem eF(s:ae B H):ae B (aU B O H L):=λb u e=>by
 unfold aU;split
 ·split
  ·exact s b u e
  ·exact e
 ·exact s b u e
theorem cR:ae (aj H O) (aU B O H L):=λb u e=>by
 have q:b∉O:=λz=>by rw[dv z]at e;cases e
 unfold aU;rw[if_neg q];rw[aL q]at e;exact e
end
theorem jL{K:PySem.W.Frag}{V G:Hp}{a:Addr}{xs:List PV}{us:List L2.V}(h:SqL K G a us)(r:Reps K V xs us):jD K (Itl K a) xs V G where
 stop:=λH' s=>⟨us,s.seq h,Nat.le_of_eq r.length.symm⟩
 go:=λi x H' s e=>by
  obtain⟨u,z,_⟩:=r.get e;exact⟨us,u,s.seq h,z⟩
 yld:=λi x H' u H2 s e y=>by
  obtain⟨rfl,y⟩:=y;obtain⟨w,z,q⟩:=r.get e;have D:=y us (s.seq h);rw[z]at D;cases D;exact⟨ae.refl _,λU _ J=>Rep.mono J _ q⟩
theorem uT{K:PySem.W.Frag}{V G:Hp}{a:Addr}{xs:List PV}{us:List L2.V}(h:SqT K G a us)(r:Reps K V xs us):jD K (Itt K a) xs V G where
 stop:=λH' s=>⟨us,s.seqT h,Nat.le_of_eq r.length.symm⟩
 go:=λi x H' s e=>by
  obtain⟨u,z,_⟩:=r.get e;exact⟨us,u,s.seqT h,z⟩
 yld:=λi x H' u H2 s e y=>by
  obtain⟨rfl,y⟩:=y;obtain⟨w,z,q⟩:=r.get e;have D:=y us (s.seqT h);rw[z]at D;cases D;exact⟨ae.refl _,λU _ J=>Rep.mono J _ q⟩
theorem zL{K:PySem.W.Frag}{V G:Hp}{x:Str}:jD K (Itc x) (x.cps.toList.map λc=>.str ⟨#[c]⟩) V G where
 stop:=λH' s=>by simp[Itc]
 go:=λi y H' s e=>by
  have:=(List.getElem?_eq_some_iff.mp e).1;simpa[Itc] using this
 yld:=λi y H' u H2 s e z=>by
  obtain⟨rfl,c,hc,rfl⟩:=z;refine⟨ae.refl _,λq _ D=>?_⟩;rw[getElem?_map,Array.getElem?_toList,hc]at e;cases e;rw[Rep]
theorem kF{K:PySem.W.Frag}{V G:Hp}{lo:Int}{n:Nat}:jD K (Itr lo n) ((range n).map λ(k:Nat)=>.int (lo+k)) V G where
 stop:=λH' s=>by simp[Itr]
 go:=λi x H' s e=>by
  have:=(List.getElem?_eq_some_iff.mp e).1;simpa[Itr] using this
 yld:=λi x H' u H2 s e y=>by
  obtain⟨rfl,rfl⟩:=y;refine⟨ae.refl _,λq _ z=>?_⟩;have hi:i<n:=by have:=(List.getElem?_eq_some_iff.mp e).1;simpa using this
  rw[getElem?_map,getElem?_range hi]at e;cases e;rw[Rep]
theorem zM{K:PySem.W.Frag}{H:Hp}{O:List Addr}{p:Addr}{xs:List PV}{us:List V}(q:∀a∈O,H a≠none)(D:H p=none)(h:Reps K (aj (upd H p (.tup us)) O) xs us):Rep K (aj (upd H p (.tup us)) O) (.tup xs) (.ref p):=by
 rw[Rep];refine⟨p,us,rfl,SqT.of ?_,h⟩;rw[aL λz=>q p z D];exact au ..
theorem mW:∀{xs ys:List PV},xs.length=ys.length->(jA xs ys).length=xs.length
 | [],[],_=>rfl
 | _::_,_::_,h=>by
  rw[jA,length_cons,length_cons,mW (by simpa using h)]
theorem qa:∀{xs ys:List PV}{i:Nat}{z:PV},(jA xs ys)[i]?=some z->∃a b,xs[i]?=some a/\ys[i]?=some b/\z=.tup [a,b]
 | [],_,i,z,h=>by simp[jA]at h
 | _::_,[],i,z,h=>by simp[jA]at h
 |x::xs,y::ys,0,z,h=>by
  simp[jA]at h;exact⟨x,y,rfl,rfl,h.symm⟩
 |x::xs,y::ys,i+1,z,h=>by
  rw[jA,getElem?_cons_succ]at h;obtain⟨a,b,h1,h2,h3⟩:=qa h;exact⟨a,b,by simpa using h1,by simpa using h2,h3⟩
theorem zN{K:PySem.W.Frag}{V G:Hp}{a b:Addr}{xs ys:List PV}{us ws:List L2.V}(h1:∀H',ae G H'->SqT K H' a us)(h2:∀H',ae G H'->SqT K H' b ws)(q:Reps K V xs us)(D:Reps K V ys ws)(z:xs.length=ys.length):jD K (Itz K a b) (jA xs ys) V G where
 stop:=λH' s=>⟨us,h1 H' s,by rw[mW z];exact q.length⟩
 go:=λi x H' s e=>by
  refine⟨us,ws,h1 H' s,h2 H' s,by rw[<- q.length,<- D.length];exact z,?_⟩;have:=(List.getElem?_eq_some_iff.mp e).1;rw[mW z]at this;rw[<- q.length];exact this
 yld:=λi x H' u H2 s e y=>by
  obtain⟨p,rfl,J,v,w,rfl,Z,y2⟩:=y;obtain⟨z1,z2,e1,e2,rfl⟩:=qa e;obtain⟨w1,f1,q1⟩:=q.get e1;obtain⟨w2,f2,q2⟩:=D.get e2;have U:=Z us (h1 H' s);have g2:=y2 ws (h2 H' s);rw[f1]at U;rw[f2]at g2;cases U;cases g2;exact⟨aM J _,λO' hO Y=>zM hO J (.cons (Rep.mono Y _ q1) (.cons (Rep.mono Y _ q2) .nil))⟩
noncomputable def tW(K:PySem.W.Frag)(cal:Cal)(k:Sk)(ms:List ME):TI:=λσ H R =>
 ∃B O₀ O ρ vs xs,aw K B O₀ O H ρ σ/\evs cal ms ρ=some vs/\bc k vs=some xs/\∀J H1,ae H H1->jD K J xs (aj H1 O) (aU B O H1 (aT ms ρ σ))->R J H1
section
variable{X:Cx}{cal:Cal}{tg:Expr}
theorem PI.or{e:Expr}{t u:TI}(h:PI X tg e t)(g:PI X tg e u):PI X tg e (λσ H R=>t σ H R\/u σ H R):=λpins s σ H R I q=>q.elim (h pins s σ H R I) (g pins s σ H R I)
theorem mX:∀{ms:List ME}{ρ:Rho}{vs:List PV},evs cal ms ρ=some vs->vs.length=ms.length
 | [],_,_,h=>by simp[evs]at h;subst h;rfl
 |m::ms,_,_,h=>by
  simp only[evs,bind_eq_some_iff,map_eq_some_iff]at h;obtain⟨v,_,w,q,rfl⟩:=h;simp[mX q]
theorem uU{m:ME}{ρ:Rho}{vs:List PV}(h:evs cal [m] ρ=some vs):∃v,vs=[v]/\ev cal m ρ=some v:=by
 simp only[evs,bind_eq_some_iff,map_eq_some_iff]at h;obtain⟨v,e,w,q,rfl⟩:=h;cases q;exact⟨v,rfl,e⟩
theorem xq{K:PySem.W.Frag}{F:Hp}{v:PV}{u:L2.V}{xs:List PV}(h:Rep K F v u)(e:bE v=some xs):∃a us,u=.ref a/\Reps K F xs us/\((v=.lst xs/\SqL K F a us)\/(v=.tup xs/\SqT K F a us)):=by
 cases v with
 |lst ys=>simp[bE]at e;subst e;rw[Rep]at h;obtain⟨a,us,e,q,r⟩:=h;exact⟨a,us,e,r,.inl ⟨rfl,q⟩⟩
 |tup ys=>simp[bE]at e;subst e;rw[Rep]at h;obtain⟨a,us,e,q,r⟩:=h;exact⟨a,us,e,r,.inr ⟨rfl,dE q⟩⟩
 | _=>simp[bE]at e
theorem BU{m:ME}{e:Expr}(J:al m=false)(h:PE X e (tE X.K cal m)):PI X tg e (tW X.K cal .seq [m]):=by
 refine(PI.or (qC h) (tJ h)).imp λσ H R q=>?_
 obtain⟨B,O₀,O,ρ,vs,xs,st,Z,e2,q⟩:=q;obtain⟨v,rfl,Y⟩:=uU Z;have z:bE v=some xs:=e2;have hl:aT [m] ρ σ=[]:=by cases m<;>first|rfl|cases J
 rw[hl]at q;cases v with
 |lst ys =>
  simp[bE]at z;subst z
  refine .inl ⟨B,O₀,O,ρ,_,st,Y,λu H' s g=>?_⟩;have r:=g.2 J;rw[Rep]at r;obtain⟨a,us,rfl,D,U⟩:=r;exact⟨a,rfl,⟨us,(br H' O).seq D⟩,q _ _ s (jL (cR.seq D) U)⟩
 |tup ys =>
  simp[bE]at z;subst z
  refine .inr ⟨B,O₀,O,ρ,_,st,Y,λu H' s g=>?_⟩;have r:=g.2 J;rw[Rep]at r;obtain⟨a,us,rfl,D,U⟩:=r;exact⟨a,rfl,⟨us,(br H' O).seqT (dE D)⟩,q _ _ s (uT (cR.seqT (dE D)) U)⟩
 | _=>simp[bE]at z
theorem BV{i:Nat}{x:Str}{pos:Pos}(h:aG X.N X.env.scope i x=true):PI X tg (.Name x pos) (tW X.K cal .seq [.bor i]):=by
 refine(PI.or (qC (bP h)) (tJ (bP h))).imp λσ H R q=>?_
 obtain⟨B,O₀,O,ρ,vs,xs,st,e1,e2,q⟩:=q;obtain⟨v,rfl,e3⟩:=uU e1;have e4:bE v=some xs:=e2;rw[ev]at e3;cases hj:(ρ[i]?).join with
 |none=>rw[hj]at e3;cases e3
 | some m =>
  rw[hj]at e3;obtain⟨u,eu,so⟩:=aK st hj;cases m with
  |val w =>
   simp only[bV,Option.some.injEq]at e3;subst e3;have so':Rep X.K (aj H O) w u:=so;obtain⟨a,us,rfl,rs,z⟩:=xq so' e4;rcases z with ⟨rfl,sq⟩|⟨rfl,sq⟩
   ·exact .inl ⟨_,eu,a,rfl,⟨us,(br H O).seq sq⟩,q _ _ (ae.refl H) (jL (cR.seq sq) rs)⟩
   ·exact .inr ⟨_,eu,a,rfl,⟨us,(br H O).seqT sq⟩,q _ _ (ae.refl H) (uT (cR.seqT sq) rs)⟩
  |own ys =>
   simp only[bV,Option.some.injEq]at e3;subst e3;simp[bE]at e4;subst e4
   obtain⟨a,us,rfl,ha,rs,hO,_⟩:=so;refine .inl ⟨_,eu,a,rfl,⟨us,SqL.of ha⟩,q _ _ (ae.refl H) (jL (SqL.of ?_) rs)⟩;have hl:aT [.bor i] ρ σ=[a]:=by simp[aT,hj,eu]
   unfold aU;rw[hl,if_pos hO,if_pos (by simp)];exact ha
  |brw ys =>
   simp only[bV,Option.some.injEq]at e3;subst e3;simp[bE]at e4;subst e4
   obtain⟨a,us,rfl,sq,rs⟩:=so;exact .inl ⟨_,eu,a,rfl,⟨us,st.keep.seq sq⟩,q _ _ (ae.refl H) (jL ((eF st.keep).seq sq) rs)⟩
  |ownD ys =>
   have e3:=wT e3;subst e3;simp[bE]at e4
  |mutD ys =>
   have e3:=wV e3;subst e3;simp[bE]at e4
  |brwD ys =>
   have e3:=wU e3;subst e3;simp[bE]at e4
theorem BW {T:Tab}{k:Nat}{ms:List ME}{a b:Expr}{f:Str}{ts:List Expr}{j:Nat}{tp p pos:Pos} (g:Gf X T k cal) (hf:f=("zip":Str)) (hg:glB X.env.scope f=true) (ha:PA X [a,b] (tEs X.K cal ms)) (Y:ab a=true) (U:ab b=true) (hm:ms.length=2) :
  PI X (.Tuple ts j tp) (.Call (.Name f p) [a,b] [] pos) (tW X.K cal .zip ms):=by
 subst hf;have D:∀e,ab e=true->∀es env,starEach (e::es) env=(false,eval e env)::starEach es env:=λe he es env=>by
  cases e<;>first|rfl|(simp[ab]at he)
 refine(zq (dB hg) (g.blt "zip" (by decide)) ha (by rw[D a Y,D b U];rfl) (by rw[D b U];rfl)).imp λσ H R q=>?_
 obtain⟨B,O₀,O,ρ,vs,xs,st,e1,J,q⟩:=q;refine⟨B,O₀,O,ρ,vs,st,e1,λus H' s gs=>?_⟩;have hl:aT ms ρ σ=[]:=by
  match ms,hm with
  | [m1,m2],_=>cases m1<;>rfl
 rw[hl]at q
 match vs,J,gs with
 | [.tup ys,.tup zs],J,gs =>
  simp only[bc]at J;split at J
  ·rename_i c;cases J;obtain⟨u,u',rfl,ru,Z⟩:=p2 gs.1;have r1:=ru.tupR;have r2:=Z.tupR;rw[Rep]at r1 r2;obtain⟨a1,ao,rfl,s1,t1⟩:=r1;obtain⟨a2,ap,rfl,s2,t2⟩:=r2;exact⟨a1,a2,ao,ap,rfl,(br H' O).seqT s1,(br H' O).seqT s2,by rw[<- t1.length,<- t2.length];exact c,q _ _ s (zN (λH2 z=>z.seqT (cR.seqT s1)) (λH2 z=>z.seqT (cR.seqT s2)) t1 t2 c)⟩
  ·cases J
theorem BX{m:ME}{e:Expr}(h:PE X e (tE X.K cal m)):PI X tg e (tW X.K cal .chr [m]):=by
 refine(zr h).imp λσ H R q=>?_
 obtain⟨B,O₀,O,ρ,vs,xs,st,J,D,q⟩:=q;obtain⟨v,rfl,U⟩:=uU J;cases v with
 | str x =>
  have z:(if x.cps.all (· < 128)=true then some (x.cps.toList.map λc=>PV.str ⟨#[c]⟩) else none)=some xs:=D;split at z
  ·rename_i Y;cases z;exact⟨B,O₀,O,ρ,_,st,U,λu H' s g=>⟨x,g.1.str,Y,q _ _ s zL⟩⟩
  ·cases z
 | _=>cases D
theorem xr {T:Tab}{k:Nat}{ms:List ME}{args:List Expr}{f:Str}{p pos:Pos} (g:Gf X T k cal) (hf:f=("range":Str)) (hg:glB X.env.scope f=true) (ha:PA X args (tEs X.K cal ms)) (hn:args.length=1\/args.length=2) (hs:args.all ab=true) (hm:ms.length=args.length) :
  PI X tg (.Call (.Name f p) args [] pos) (tW X.K cal .rng ms):=by
 subst hf;have star:∀e,ab e=true->∀es env,starEach (e::es) env=(false,eval e env)::starEach es env:=λe he es env=>by
  cases e<;>first|rfl|(simp[ab]at he)
 match args,hn with
 | [a],_ =>
  simp only[all_cons,all_nil,Bool.and_true]at hs;refine(lC (dB hg) (g.blt "range" (by decide)) ha (by rw[star a hs];rfl)).imp λσ H R q=>?_
  obtain⟨B,O₀,O,ρ,vs,xs,st,e1,e2,q⟩:=q;refine⟨B,O₀,O,ρ,vs,st,e1,λus H' s gs=>?_⟩
  match vs,e2,gs with
  | [.int j],e2,gs =>
   simp only[bc]at e2;split at e2
   ·rename_i c;cases e2;obtain⟨u,rfl,ru⟩:=p1 gs.1;have e3:=ru.int;subst e3;exact⟨j,rfl,c.1,c.2,q _ _ s kF⟩
   ·cases e2
  | [.int j,.int j'],e2,gs =>
   have:=mX e1;simp at this hm;omega
 | [a,b],_ =>
  simp only[all_cons,all_nil,Bool.and_true,Bool.and_eq_true]at hs;refine(rR (dB hg) (g.blt "range" (by decide)) ha (by rw[star a hs.1,star b hs.2];rfl) (by rw[star b hs.2];rfl)).imp λσ H R q=>?_
  obtain⟨B,O₀,O,ρ,vs,xs,st,e1,e2,q⟩:=q;refine⟨B,O₀,O,ρ,vs,st,e1,λus H' s gs=>?_⟩
  match vs,e2,gs with
  | [.int i,.int j],e2,gs =>
   simp only[bc]at e2;split at e2
   ·rename_i c;cases e2;obtain⟨u,u',rfl,ru,ru'⟩:=p2 gs.1;have e3:=ru.int;have e4:=ru'.int;subst e3 e4;exact⟨i,j,rfl,c,q _ _ s kF⟩
   ·cases e2
  | [.int j],e2,gs =>
   have:=mX e1;simp at this hm;omega
end
noncomputable def tF(K:PySem.W.Frag)(cal:Cal)(q:ME):TE:=λσ H Q=>∃B O₀ O ρ xs,aw K B O₀ O H ρ σ/\ev cal q ρ=some (.lst xs) /\
 ∀p us H',ae H H'->H p=none->H' p=some (.lst us)->Reps K (aj H' (p::O)) xs us->Q (.ref p) H'
theorem fM{H:Hp}{O:List Addr}{p:Addr}:ae (aj H (p::O)) (aj H O):=bj (ae.refl H) λb q=>.inl (mem_cons_of_mem _ q)
theorem eG{H:Hp}{O:List Addr}{p:Addr}{o:HO}(h:p∈O):aj (upd H p o) O=aj H O:=by
 funext b
 unfold aj;split
 ·rfl
 ·rename_i q;exact az λz=>q (by rw[z];exact h)
theorem rg{K:PySem.W.Frag}{H H':Hp}{O:List Addr}{q:ME}{xs:List PV}{p:Addr}{us:List V}(D:∀a∈O,H a≠none)(J:H p=none)(e:H' p=some (.lst us))(r:Reps K (aj H' (p::O)) xs us):Got K H' O q (.lst xs) (.ref p):=by
 refine .of ?_;rw[Rep];refine⟨p,us,rfl,SqL.of ?_,Reps.mono fM _ r⟩;rw[aL λz=>D p z J];exact e
section
variable{X:Cx}{T:Tab}{k:Nat}{cal:Cal}
theorem d3{e:Expr}{z:ME}(J:∀ρ v,ev cal z ρ=some v->∃xs,v=.lst xs)(h:PE X e (tF X.K cal z)):PE X e (tE X.K cal z):=by
 refine h.imp λσ H Q q=>?_
 obtain⟨B,O₀,O,ρ,v,st,D,q⟩:=q;obtain⟨xs,rfl⟩:=J ρ v D;exact⟨B,O₀,O,ρ,xs,st,D,λp us H' s U Y r=>q _ _ s (rg st.here U Y r)⟩
theorem Gf.blk(g:Gf X T k cal)(x:Str)(fvs:List Str)(scope:Scope)(q:Shared)(z:Hp)(C:Addr)(fp:List Addr):Gf (X.blk x fvs scope q z C fp) T k cal:={ g with }
theorem gA{osc:Scope}{N:List Str}{scope:Scope}{x:Str}{fvs:List Str}{js:List Nat}(h:bW osc N scope x fvs js=true):i6 osc N scope x fvs js:=by
 unfold bW at h;simp only[Bool.and_eq_true,beq_iff_eq,decide_eq_true_eq]at h;obtain⟨⟨⟨⟨⟨⟨⟨⟨h1,h2⟩,h3⟩,h4⟩,h5⟩,h6⟩,h7⟩,h8⟩,h9⟩:=h;exact⟨h1,h2,h3,h4,h5,h6,h7,h8,h9⟩
theorem uV{K:PySem.W.Frag}{B H H1 H2:Hp}{O₀ O:List Addr}{ρ:Rho}{σ σ':St}{js:List Nat}{D:Addr}{x:PV}{ux:V}(st:aw K B O₀ O H ρ σ)(s1:ae H H1)(s2:ae H1 H2)(hD:H1 D=none)(hD2:H2 D≠none)
  (hσ:∀z,σ'.set 0 z=(ee js σ).set 0 z) (hl:0<σ'.length) (hx:Rep K (aj H2 (D::O)) x ux):aw K H1 [] (D::O) H2 (fA js ρ x) (σ'.set 0 (some ux)):=by
 have hv:ae (aj H O) (aj H2 (D::O)):=bj (s1.trans s2) λb hb=>by
  rcases mem_cons.mp hb with rfl|hb
  ·exact .inr (s1.free hD)
  ·exact .inl hb
 rw[hσ];have noown:∀(i:Nat) (m:MV),gh m=true->(fA js ρ x)[i]?≠some (some m):=λi m hm e=>by
  unfold fA at e;cases i with
  |zero =>
   simp at e;subst e;cases hm
  | succ i =>
   simp only[getElem?_cons_succ,getElem?_map,map_eq_some_iff]at e;obtain⟨j,_,e⟩:=e;cases hj:(ρ[j]?).join with
   |none=>rw[hj]at e;cases e
   |some mm =>
    rw[hj]at e;cases mm<;>first|(simp[dL]at e;done)|(obtain⟨rfl,_⟩:=ifW e;cases hm;done)|(simp only[dL,Option.some.injEq]at e;subst e;cases hm)
 refine⟨s2,λa ha=>?_,λa ha=>by simp at ha,λa ha=>by simp at ha,?_,λi m e=>?_,λi j m m' a _ e _ hm=>absurd e (noown i m hm)
  ⟩
 ·rcases mem_cons.mp ha with rfl|ha
  ·exact hD2
  ·exact λe=>st.here a ha ((s1.trans s2).free e)
 ·simp[fA,ee]
 ·cases i with
  |zero =>
   simp only[fA,getElem?_cons_zero,Option.some.injEq]at e;subst e;exact⟨ux,by simp[ee],hx⟩
  | succ i =>
   simp only[fA,getElem?_cons_succ,getElem?_map,map_eq_some_iff]at e;obtain⟨j,ej,e⟩:=e;cases hj:(ρ[j]?).join with
   |none=>rw[hj]at e;cases e
   | some mm =>
    rw[hj]at e;obtain⟨u,eu,so⟩:=aK st hj;have eσ:((ee js σ).set 0 (some ux))[i+1]?=some (some u):=by
     simp[ee,ej,eu]
    refine⟨u,eσ,?_⟩;cases mm with
    |val w =>
     simp only[dL,Option.some.injEq]at e;subst e;exact Rep.mono hv _ so
    |own ys =>
     simp only[dL,Option.some.injEq]at e;subst e;obtain⟨a,us,rfl,ha,rs,hO,_⟩:=so;exact⟨a,us,rfl,SqL.of (s1 _ _ ha),Reps.mono hv _ rs⟩
    |brw ys =>
     simp only[dL,Option.some.injEq]at e;subst e;obtain⟨a,us,rfl,sq,rs⟩:=so;exact⟨a,us,rfl,(st.keep.trans s1).seq sq,Reps.mono hv _ rs⟩
    |ownD kvs =>
     obtain⟨rfl,hw⟩:=ifW e;obtain⟨a,rfl,ha,_⟩:=so;have ha:=ha.enc hw;exact⟨a,rfl,.inl (s1 _ _ ha)⟩
    |mutD kvs =>
     obtain⟨rfl,hw⟩:=ifW e;obtain⟨a,rfl,ha,_⟩:=so;have ha:=ha.enc hw;exact⟨a,rfl,.inl (s1 _ _ ha)⟩
    |brwD kvs =>
     simp only[dL,Option.some.injEq]at e;subst e;obtain⟨a,rfl,ha⟩:=so;exact⟨a,rfl,ae.rd (st.keep.trans s1) ha⟩
theorem kG{osc:Scope}{N:List Str}{scope:Scope}{x y:Str}{fvs:List Str}{js:List Nat}(h:fB osc N scope x y fvs js=true):jG osc N scope x [y] fvs js/\scope.names.lookup x=some .local/\scope.names.lookup y=some .local:=by
 unfold fB at h;simp only[Bool.and_eq_true,beq_iff_eq,decide_eq_true_eq]at h;obtain⟨⟨⟨⟨⟨⟨⟨⟨⟨h1,h2⟩,h3⟩,h4⟩,h5⟩,h6⟩,h7⟩,h8⟩,h9⟩,h10⟩:=h;refine⟨⟨λy q e=>?_,.inl ⟨h2,h1⟩,h4,h5,h6,h7,h8,h9,h10⟩,h2,h3⟩;have:y∈scope.names.filter λy=>y.2==.cell:=mem_filter.mpr ⟨q,by rw[e];rfl⟩
 rw[h1]at this;cases this
theorem aw.fill{K:PySem.W.Frag}{B H:Hp}{O₀ O:List Addr}{ρ:Rho}{σ:St}(st:aw K B O₀ O H ρ σ){i:Nat}{v:PV}{u:V}(hi:i<σ.length)(r:Rep K (aj H O) v u):aw K B O₀ O H (ρ.set i (some (.val v))) (σ.set i (some u)):=by
 have U:i<ρ.length:=by rw[st.len];exact hi
 have self:(ρ.set i (some (MV.val v)))[i]?=some (some (.val v)):=getElem?_set_self U;refine⟨st.keep,st.here,st.sub,st.old,by rw[length_set,length_set];exact st.len,λj m e=>?_,λa b xs ys ad Y D J o1 o2 e3 e4=>?_⟩
 ·by_cases Z:i=j
  ·subst Z;rw[self]at e;cases e;exact⟨u,getElem?_set_self hi,r⟩
  ·rw[getElem?_set_ne Z]at e;obtain⟨w,D,q⟩:=st.slot j m e;exact⟨w,by rw[getElem?_set_ne Z];exact D,q⟩
 ·have h1:i≠a:=λz=>by subst z;rw[self]at D;cases D;cases o1
  have h2:i≠b:=λz=>by subst z;rw[self]at J;cases J;cases o2
  rw[getElem?_set_ne h1]at D e3;rw[getElem?_set_ne h2]at J e4;exact st.apart a b xs ys ad Y D J o1 o2 e3 e4
theorem sH{vs xs:List PV}(h:bc sk2 vs=some xs):∀x∈xs,∃a b,x=.tup [a,b]:=by
 have h:bc .zip vs=some xs:=h
 match vs,h with
 | [.tup ys,.tup zs],h =>
  simp only[bc]at h;split at h
  ·cases h;intro x hx;obtain⟨i,hi⟩:=mem_iff_getElem?.mp hx;obtain⟨a,b,_,_,e⟩:=qa hi;exact⟨a,b,e⟩
  ·cases h
noncomputable def g2(K:PySem.W.Frag):TG:=Bl K 2 (qA (fo 0) (qA (fo 1) wc))
theorem xt{ms:List ME}{js:List Nat}{cond elt:ME}{e it tg:Expr}{x y:Str}{ifs:List Expr}{scope:Scope}{pos:Pos}(g:Gf X T k cal)(J:fB X.env.scope X.N scope x y (aF X.N js) js=true)
  (Y:∀z D C fp,PG (X.blk x ([y]++aF X.N js) scope z D C fp) tg (g2 X.K)) (hw:PI X tg it (tW X.K cal sk2 ms)) (U:dF it=true)
  (hc:∀z D C fp,PF (X.blk x ([y]++aF X.N js) scope z D C fp) ifs (tT X.K cal cond)) (Z:∀z D C fp,PE (X.blk x ([y]++aF X.N js) scope z D C fp) e (tE X.K cal elt)) (hb:al elt=false) :
  PE X (.ListComp e [⟨tg,it,ifs,0⟩] scope pos) (tF X.K cal (.comp2 ms js cond elt)):=by
 refine(ur (kG J).1 g.calm Y hw hc Z (by intro v;cases it<;>first|rfl|(simp[dF]at U))).imp λσ H Q q=>?_
 exact comp_go2 hb q
where
 comp_go2 {ms:List ME}{js:List Nat}{cond elt:ME}{K:PySem.W.Frag}{σ:St}{H:Hp}{Q:VK} (hb:al elt=false) (q:tF K cal (.comp2 ms js cond elt) σ H Q):uq (tW K cal sk2 ms) (g2 K) 1 js (tT K cal cond) (tE K cal elt) σ H Q:=by
  obtain⟨B,O₀,O,ρ,ws,st,e1,q⟩:=q;rw[ev]at e1;simp only[bind_eq_some_iff]at e1;obtain⟨vs,e1,xs,e2,e3⟩:=e1;split at e3
  ·rename_i hlen;simp only[map_eq_some_iff,PV.lst.injEq,exists_eq_right]at e3;refine⟨B,O₀,O,ρ,vs,xs,st,e1,e2,λJ H1 s1 it D hD=>?_⟩;have hDO:D∉O:=λz=>aW s1 st.here D z hD
   have it1:=it.weak (iK (st.keep.trans s1));refine⟨λi m σ' H'=>m=xs.length-i/\i<=xs.length/\ae H1 H'/\(∀z z',(σ'.set 0 z).set 1 z'=z::z'::js.map λj=>(σ[j]?).join)/\1<σ'.length/\∃done bR ys,cQ (λx=>(ev cal cond (n9 js ρ x)).bind aJ) (λx=>ev cal elt (n9 js ρ x)) (xs.drop i)=some bR/\ws=done++bR/\done.length<=i/\H' D=some (.lst ys)/\Reps K (aj H' (D::O)) done ys,⟨xs.length,by simp,Nat.zero_le _,aM hD _,λ_ _=>rfl,by simp[nQ],[],ws,[],by simpa using e3,rfl,Nat.le_refl _,au,.nil⟩,?_⟩;rintro i m σ' H' ⟨rfl,hi,s2,hσ,hl,done,bR,ys,eg,ew,hdl,hDy,rs⟩;by_cases hlt:i<xs.length
   ·right;have ex:xs[i]?=some xs[i]:=getElem?_eq_getElem hlt;refine⟨it1.go i _ H' s2 ex,λσ2 H2=>∃m',m'<xs.length-i/\(m'=xs.length-(i+1)/\i+1<=xs.length/\ae H1 H2/\(∀z z',(σ2.set 0 z).set 1 z'=z::z'::js.map λj=>(σ[j]?).join)/\1<σ2.length/\∃done bR ys,cQ (λx=>(ev cal cond (n9 js ρ x)).bind aJ) (λx=>ev cal elt (n9 js ρ x)) (xs.drop (i+1))=some bR/\ws=done++bR/\done.length<=i+1/\H2 D=some (.lst ys)/\Reps K (aj H2 (D::O)) done ys),λσ2 H2 z=>z,λux H2 y=>?_⟩;obtain⟨s3,hr⟩:=it1.yld i _ H' ux H2 s2 ex y;have sv:ae (aj H1 O) (aj H2 (D::O)):=bj (s2.trans s3) λb hb=>by
     rcases mem_cons.mp hb with rfl|hb
     ·exact .inr hD
     ·exact .inl hb
    have hx:=hr (D::O) (λa ha=>by
     rcases mem_cons.mp ha with rfl|ha
     ·rw[hDy];simp
     ·exact λz=>aW s1 st.here a ha (s2.free z)) sv
    have hD2:H2 D=some (.lst ys):=s3 _ _ hDy;obtain⟨p,w,exi⟩:=sH e2 _ (mem_of_getElem? ex);rw[exi,Rep]at hx;obtain⟨ta,tus,rfl,tt1,tt2⟩:=hx;rw[Reps]at tt2;obtain⟨up,r1,rfl,rp,tt2⟩:=tt2;rw[Reps]at tt2;obtain⟨uw,r2,rfl,rw2,tt2⟩:=tt2;rw[Reps]at tt2;subst tt2;have hσ0:∀z,(σ'.set 1 none).set 0 z=(ee (σ.length::js) σ).set 0 z:=λz=>by
     rw[set_comm _ _ (by decide),hσ];show _=z::(σ[σ.length]?).join::_;rw[getElem?_eq_none (Nat.le_refl _)]
     rfl
    have stb0:=uV (js:=σ.length::js) (ρ:=ρ) (σ':=σ'.set 1 none) st s1 (s2.trans s3) hD (by rw[hD2];simp) hσ0 (by rw[length_set];omega) rp;have stb1:=stb0.fill (i:=1) (by rw[length_set,length_set];exact hl) rw2;rw[set_comm (i:=1) (j:=0) _ _ (by decide),set_set]at stb1;have stb:aw K H1 [] (D::O) H2 (n9 js ρ xs[i]) ((σ'.set 0 (some up)).set 1 (some uw)):=by rw[exi];exact stb1
    refine⟨ta,[up,uw],rfl,(br _ _).seqT (dE tt1),rfl,up,[uw],rfl,?_⟩;show qA (fo 1) wc [uw] (σ'.set 0 (some up)) H2 _;refine⟨uw,[],rfl,?_⟩;unfold fo wc;refine⟨rfl,?_⟩;rw[drop_eq_getElem_cons hlt,cQ]at eg;simp only[bind_eq_some_iff]at eg;obtain⟨b,eb,eg⟩:=eg;refine⟨H1,[],D::O,_,b,stb,by simpa[evB,bind_eq_some_iff] using eb,λH3 s4=>?_⟩;have hσ2:∀z z',(((σ'.set 0 (some up)).set 1 (some uw)).set 0 z).set 1 z'=z::z'::js.map λj=>(σ[j]?).join:=λz z'=>by
     rw[set_comm (i:=1) (j:=0) _ _ (by decide),set_set,set_set];exact hσ z z'
    have hl2:1<((σ'.set 0 (some up)).set 1 (some uw)).length:=by rw[length_set,length_set];exact hl
    cases b with
    |false =>
     rw[if_neg (by simp)]at eg;dsimp only;rw[if_neg (by simp)];refine⟨_,by omega,rfl,hlt,(s2.trans s3).trans s4,hσ2,hl2,done,bR,ys,eg,ew,by omega,s4 _ _ hD2,Reps.mono ?_ _ rs⟩;exact(af s3).trans (af s4)
    | true =>
     rw[if_pos rfl]at eg;dsimp only;rw[if_pos rfl];simp only[bind_eq_some_iff,map_eq_some_iff]at eg;obtain⟨y',ey,rest',eg,rfl⟩:=eg;refine⟨H1,[],D::O,_,y',stb.mono s4,ey,λuy H4 s5 gy=>?_⟩;have hD4:H4 D=some (.lst ys):=s5 _ _ (s4 _ _ hD2);have ry:=gy.2 hb;have rs4:Reps K (aj H4 (D::O)) done ys:=Reps.mono (((af s3).trans (af s4)).trans (af s5)) _ rs;have hyl:ys.length<=10000:=by rw[<- rs.length];omega
     refine⟨ys,hD4,Nat.lt_of_le_of_lt hyl (by decide),_,by omega,rfl,hlt,?_,hσ2,hl2,done ++ [y'],rest',ys ++ [uy],eg,by simp[ew],by simp;omega,au,?_⟩
     ·intro b u eb;rw[az (bb eb hD)];exact s5 _ _ (s4 _ _ ((s2.trans s3) _ _ eb))
     ·rw[eG (mem_cons_self)];exact rs4.snoc ry
   ·left;have ei:i=xs.length:=by omega
    subst ei;rw[drop_length,cQ]at eg;cases eg;rw[append_nil]at ew;subst ew;exact⟨it1.stop H' s2,q D ys H' (s1.trans s2) (s1.free hD) hDy rs⟩
  ·cases e3
theorem qb{Y:Sk}{ms:List ME}{js:List Nat}{cond elt:ME}{e it:Expr}{x:Str}{px:Pos}{ifs:List Expr}{scope:Scope}{pos:Pos}(g:Gf X T k cal)(J:bW X.env.scope X.N scope x (aF X.N js) js=true)
  (hw:PI X (.Name x px) it (tW X.K cal Y ms)) (U:dF it=true)
  (hc:∀z D C fp,PF (X.blk x (aF X.N js) scope z D C fp) ifs (tT X.K cal cond)) (Z:∀z D C fp,PE (X.blk x (aF X.N js) scope z D C fp) e (tE X.K cal elt)) (hb:al elt=false) :
  PE X (.ListComp e [⟨.Name x px,it,ifs,0⟩] scope pos) (tF X.K cal (.comp Y ms js cond elt)):=by
 refine(mI (gA J) g.calm hw hc Z (by intro v;cases it<;>first|rfl|(simp[dF]at U))).imp λσ H Q q=>?_
 exact comp_go hb q
where
 comp_go {k':Sk}{ms:List ME}{js:List Nat}{cond elt:ME}{K:PySem.W.Frag}{σ:St}{H:Hp}{Q:VK} (hb:al elt=false) (q:tF K cal (.comp k' ms js cond elt) σ H Q):uo (tW K cal k' ms) js (tT K cal cond) (tE K cal elt) σ H Q:=by
  obtain⟨B,O₀,O,ρ,ws,st,e1,q⟩:=q;rw[ev]at e1;simp only[bind_eq_some_iff]at e1;obtain⟨vs,e1,xs,e2,e3⟩:=e1;split at e3
  ·rename_i hlen;simp only[map_eq_some_iff,PV.lst.injEq,exists_eq_right]at e3;refine⟨B,O₀,O,ρ,vs,xs,st,e1,e2,λJ H1 s1 it D hD=>?_⟩;have hDO:D∉O:=λz=>aW s1 st.here D z hD
   have it1:=it.weak (iK (st.keep.trans s1));refine⟨λi m σ' H'=>m=xs.length-i/\i<=xs.length/\ae H1 H'/\(∀z,σ'.set 0 z=(ee js σ).set 0 z)/\0<σ'.length/\∃done bR ys,cQ (λx=>(ev cal cond (fA js ρ x)).bind aJ) (λx=>ev cal elt (fA js ρ x)) (xs.drop i)=some bR/\ws=done++bR/\done.length<=i/\H' D=some (.lst ys)/\Reps K (aj H' (D::O)) done ys,⟨xs.length,by simp,Nat.zero_le _,aM hD _,λ_=>rfl,by simp[ee],[],ws,[],by simpa using e3,rfl,Nat.le_refl _,au,.nil⟩,?_⟩;rintro i m σ' H' ⟨rfl,hi,s2,hσ,hl,done,bR,ys,eg,ew,hdl,hDy,rs⟩;by_cases hlt:i<xs.length
   ·right;have ex:xs[i]?=some xs[i]:=getElem?_eq_getElem hlt;refine⟨it1.go i _ H' s2 ex,λσ2 H2=>∃m',m'<xs.length-i/\(m'=xs.length-(i+1)/\i+1<=xs.length/\ae H1 H2/\(∀z,σ2.set 0 z=(ee js σ).set 0 z)/\0<σ2.length/\∃done bR ys,cQ (λx=>(ev cal cond (fA js ρ x)).bind aJ) (λx=>ev cal elt (fA js ρ x)) (xs.drop (i+1))=some bR/\ws=done++bR/\done.length<=i+1/\H2 D=some (.lst ys)/\Reps K (aj H2 (D::O)) done ys),λσ2 H2 z=>z,λux H2 y=>?_⟩;obtain⟨s3,hr⟩:=it1.yld i _ H' ux H2 s2 ex y;have sv:ae (aj H1 O) (aj H2 (D::O)):=bj (s2.trans s3) λb hb=>by
     rcases mem_cons.mp hb with rfl|hb
     ·exact .inr hD
     ·exact .inl hb
    have hx:=hr (D::O) (λa ha=>by
     rcases mem_cons.mp ha with rfl|ha
     ·rw[hDy];simp
     ·exact λz=>aW s1 st.here a ha (s2.free z)) sv
    have hD2:H2 D=some (.lst ys):=s3 _ _ hDy;have stb:=uV (js:=js) (ρ:=ρ) st s1 (s2.trans s3) hD (by rw[hD2];simp) hσ hl hx;rw[drop_eq_getElem_cons hlt,cQ]at eg;simp only[bind_eq_some_iff]at eg;obtain⟨b,eb,eg⟩:=eg;refine⟨H1,[],D::O,_,b,stb,by simpa[evB,bind_eq_some_iff] using eb,λH3 s4=>?_⟩;have hσ2:∀z,(σ'.set 0 (some ux)).set 0 z=(ee js σ).set 0 z:=λz=>by rw[set_set];exact hσ z
    have hl2:0<(σ'.set 0 (some ux)).length:=by rw[length_set];exact hl
    cases b with
    |false =>
     rw[if_neg (by simp)]at eg;dsimp only;rw[if_neg (by simp)];refine⟨_,by omega,rfl,hlt,(s2.trans s3).trans s4,hσ2,hl2,done,bR,ys,eg,ew,by omega,s4 _ _ hD2,Reps.mono ?_ _ rs⟩;exact(af s3).trans (af s4)
    | true =>
     rw[if_pos rfl]at eg;dsimp only;rw[if_pos rfl];simp only[bind_eq_some_iff,map_eq_some_iff]at eg;obtain⟨y',ey,rest',eg,rfl⟩:=eg;refine⟨H1,[],D::O,_,y',stb.mono s4,ey,λuy H4 s5 gy=>?_⟩;have hD4:H4 D=some (.lst ys):=s5 _ _ (s4 _ _ hD2);have ry:=gy.2 hb;have rs4:Reps K (aj H4 (D::O)) done ys:=Reps.mono (((af s3).trans (af s4)).trans (af s5)) _ rs;have hyl:ys.length<=10000:=by rw[<- rs.length];omega
     refine⟨ys,hD4,Nat.lt_of_le_of_lt hyl (by decide),_,by omega,rfl,hlt,?_,hσ2,hl2,done ++ [y'],rest',ys ++ [uy],eg,by simp[ew],by simp;omega,au,?_⟩
     ·intro b u eb;rw[az (bb eb hD)];exact s5 _ _ (s4 _ _ ((s2.trans s3) _ _ eb))
     ·rw[eG (mem_cons_self)];exact rs4.snoc ry
   ·left;have ei:i=xs.length:=by omega
    subst ei;rw[drop_length,cQ]at eg;cases eg;rw[append_nil]at ew;subst ew;exact⟨it1.stop H' s2,q D ys H' (s1.trans s2) (s1.free hD) hDy rs⟩
  ·cases e3
end
section
variable{X:Cx}{T:Tab}{k:Nat}{cal:Cal}
theorem aQ{e:Expr}(q:ab e=true)(es:List Expr)(env:Env):starEach (e::es) env=(false,eval e env)::starEach es env:=by
 cases e<;>first|rfl|(simp[ab]at q)
theorem bg{pos:Pos}{env:Env}:∀{es:List Expr},es.all ab=true->(backTo pos (starEach es env)).any (·.1)=false
 | [],_=>rfl
 |e::es,h=>by
  simp only[all_cons,Bool.and_eq_true]at h;rw[aQ h.1];show(false || (backTo pos (starEach es env)).any (·.1))=false;rw[bg h.2];rfl
theorem bm:∀{ms:List ME}{N:List Str}{sc:Scope}{es:List Expr},chks T ms N sc es=true->es.all ab=true/\ms.length=es.length
 | [],_,_,[],_=>⟨rfl,rfl⟩
 | [],_,_,_::_,h=>by simp[chks]at h
 | _::_,_,_,[],h=>by simp[chks]at h
 |m::ms,N,sc,e::es,h=>by
  simp only[chks,Bool.and_eq_true]at h;obtain⟨h1,h2⟩:=bm h.2;exact⟨by simp[h.1.2,h1],by simp[h2]⟩
theorem bh{e:Expr}{D:ME}(h:PE X e (tE X.K cal D))(J:i9 e=true):PT X e (tT X.K cal D):=by
 refine(ph h (by intro w;cases e<;>first|rfl|(simp[i9]at J;done)|(rename_i op _ _;cases op<;>first|rfl|(simp[i9]at J)))).imp λσ H Q q=>?_
 obtain⟨B,O₀,O,ρ,b,st,z,q⟩:=q;simp only[evB,bind_eq_some_iff]at z;obtain⟨v,z,U⟩:=z;refine⟨B,O₀,O,ρ,v,st,z,λu H' s g=>?_⟩;cases v<;>simp[aJ]at U
 subst U;exact⟨_,g.1.bl,q H' s⟩
theorem uW{m:ME}{ms:List ME}{e:Expr}{es:List Expr}(h:PE X e (tE X.K cal m))(Z:PA X es (tEs X.K cal ms))(hn:ab e=true):PA X (e::es) (tEs X.K cal (m::ms)):=by
 refine(aI h Z (aQ hn es _)).imp λσ H Q q=>?_
 obtain⟨B,O₀,O,ρ,vs,st,z,q⟩:=q;simp only[evs,bind_eq_some_iff,map_eq_some_iff]at z;obtain⟨v,z,ws,e2,rfl⟩:=z;refine⟨B,O₀,O,ρ,v,st,z,λu H1 U Y=>⟨B,O₀,O,ρ,ws,st.mono U,e2,λus H2 D g2=>q (u::us) H2 (U.trans D) ⟨.cons (Y.1.mono D) g2.1,λJ=>?_⟩⟩⟩;simp only[all_cons,Bool.and_eq_true,Bool.not_eq_true']at J;exact .cons ((Y.mono D).2 J.1) (g2.2 J.2)
theorem xu:PA X [] (tEs X.K cal []):=by
 refine bD.imp λσ H Q q=>?_
 obtain⟨B,O₀,O,ρ,vs,st,z,q⟩:=q;simp only[evs,Option.some.injEq]at z;subst z;exact q [] H (ae.refl H) ⟨.nil,λ_=>.nil⟩
theorem uX:PA X [] (tAs X.K cal []):=by
 refine bD.imp λσ H Q q=>?_
 obtain⟨B,O₀,O,ρ,vs,st,z,q⟩:=q;simp only[evA,Option.some.injEq]at z;subst z;exact q [] H (ae.refl H) .nil
theorem uY{K:PySem.W.Frag}{H H':Hp}{O:List Addr}(s:ae H H'){m:MV}{u:V}(h:jt K O H m u):jt K O H' m u:=by
 cases m with
 |val v=>exact Rep.mono (af s) _ h
 |own _=>exact h
 |brw xs=>obtain⟨a,us,e,q,r⟩:=h;exact⟨a,us,e,s.seq q,Reps.mono (af s) _ r⟩
 |ownD _=>exact h
 |mutD d=>exact h
 |brwD kvs=>obtain⟨a,e,q⟩:=h;exact⟨a,e,ae.rd s q⟩
theorem sI{m:ME}{ms:List ME}{e:Expr}{es:List Expr}(D:al m=false)(h:PE X e (tE X.K cal m))(Y:PA X es (tAs X.K cal ms))(Z:ab e=true):PA X (e::es) (tAs X.K cal (m::ms)):=by
 refine(aI h Y (aQ Z es _)).imp λσ H Q q=>?_
 obtain⟨B,O₀,O,ρ,vs,st,e1,q⟩:=q;have z:(ev cal m ρ).bind (λv=>(evA cal ms ρ).map (MV.val v::·))=some vs:=by
  rw[<- e1];cases m<;>first|(cases D;done)|(simp only[evA];done)|rfl
 simp only[bind_eq_some_iff,map_eq_some_iff]at z;obtain⟨v,e9,ws,e2,rfl⟩:=z;exact⟨B,O₀,O,ρ,v,st,e9,λu H1 J g1=>⟨B,O₀,O,ρ,ws,st.mono J,e2,λus H2 U g2=>q (u::us) H2 (J.trans U) (.cons ((g1.mono U).2 D) g2)⟩⟩
theorem uZ{i:Nat}{ms:List ME}{x:Str}{pos:Pos}{es:List Expr}(h:aG X.N X.env.scope i x=true)(hs:PA X es (tAs X.K cal ms)):PA X (.Name x pos::es) (tAs X.K cal (.bor i::ms)):=by
 refine(aI (bP h) hs rfl).imp λσ H Q q=>?_
 obtain⟨B,O₀,O,ρ,vs,st,e1,q⟩:=q;rw[evA]at e1;simp only[bind_eq_some_iff,map_eq_some_iff]at e1;obtain⟨m',e1,ws,e2,rfl⟩:=e1;cases hj:(ρ[i]?).join with
 |none=>rw[hj]at e1;cases e1
 | some m =>
  rw[hj]at e1;obtain⟨u,eu,so⟩:=aK st hj;have ao:jt X.K O H m' u:=by
   cases m with
   |val w=>simp only[ek,Option.some.injEq]at e1;subst e1;exact so
   |own ys=>simp only[ek,Option.some.injEq]at e1;subst e1;obtain⟨a,us,rfl,ha,rs,_⟩:=so;exact⟨a,us,rfl,SqL.of ha,rs⟩
   |brw ys=>simp only[ek,Option.some.injEq]at e1;subst e1;obtain⟨a,us,rfl,sq,rs⟩:=so;exact⟨a,us,rfl,st.keep.seq sq,rs⟩
   |ownD kvs=>obtain⟨rfl,hw⟩:=ifW e1;obtain⟨a,rfl,ha,_⟩:=so;exact⟨a,rfl,.inl (ha.enc hw)⟩
   |mutD kvs=>obtain⟨rfl,hw⟩:=ifW e1;obtain⟨a,rfl,ha,_⟩:=so;exact⟨a,rfl,.inl (ha.enc hw)⟩
   |brwD kvs=>simp only[ek,Option.some.injEq]at e1;subst e1;obtain⟨a,rfl,ha⟩:=so;exact⟨a,rfl,ae.rd st.keep ha⟩
  exact⟨u,eu,⟨B,O₀,O,ρ,ws,st,e2,λus H2 s2 g2=>q (u::us) H2 s2 (.cons (uY s2 ao) g2)⟩⟩
theorem BY{op:Op2}{a b:ME}{l r:Expr}{pos:Pos}(U:PE X l (tE X.K cal a))(Y:PE X r (tE X.K cal b)):PE X (.BinOp l (jC op) r pos) (tE X.K cal (.bin op a b)):=by
 refine(lD (mV op) U Y).imp λσ H Q q=>?_
 obtain⟨B,O₀,O,ρ,v,st,z,q⟩:=q;rw[ev]at z;simp only[bind_eq_some_iff]at z;obtain⟨x,z,y,Z,e3⟩:=z;exact⟨B,O₀,O,ρ,x,st,z,λux H1 D g1=>⟨B,O₀,O,ρ,y,st.mono D,Z,λuy H2 J g2=>⟨O,x,y,v,aW (D.trans J) st.here,g1.1.mono J,g2.1,e3,λu H3 s3 r=>q u H3 ((D.trans J).trans s3) (.of r)⟩⟩⟩
theorem BZ{a b:ME}{l r:Expr}{pos:Pos}(ha:PE X l (tE X.K cal a))(D:PE X r (tE X.K cal b)):PE X (.BinOp l .Add r pos) (tF X.K cal (.bin .add a b)):=by
 refine(lD qY ha D).imp λσ H Q q=>?_
 obtain⟨B,O₀,O,ρ,xs,st,J,q⟩:=q;rw[ev]at J;simp only[bind_eq_some_iff]at J;obtain⟨x,J,y,e2,z⟩:=J;have hl:∃U Y,x=.lst U/\y=.lst Y/\U.length+Y.length<=10000/\xs=U++Y:=by
  cases x<;>try (cases z;done)
  all_goals (cases y<;>simp only[eU,uH]at z<;>try (cases z;done))
  all_goals (split at z<;>try (cases z;done))
  rename_i c;cases z;exact⟨_,_,rfl,rfl,c,rfl⟩
 obtain⟨U,Y,rfl,rfl,hc,rfl⟩:=hl;refine⟨B,O₀,O,ρ,_,st,J,λux H1 Z g1=>⟨B,O₀,O,ρ,_,st.mono Z,e2,λuy H2 s2 g2=>?_⟩⟩;obtain⟨a',us,rfl,q1,t1⟩:=(g1.1.mono s2).lst;obtain⟨b',ws,rfl,q2,t2⟩:=g2.1.lst;have l1:=t1.length;have l2:=t2.length;refine⟨a',b',us,ws,rfl,rfl,q1,q2,cF (by omega),λp hp=>q p _ _ ((Z.trans s2).trans (aM hp _)) ((Z.trans s2).free hp) au ?_⟩;rw[eG (mem_cons_self)];refine Reps.mono (bj (ae.refl H2) λb D=>?_) _ (t1.append t2);rcases mem_cons.mp D with rfl|D
 ·exact .inr hp
 ·exact .inl D
theorem B0{a:ME}{e:Expr}{pos:Pos}(J:PE X e (tE X.K cal a)):PE X (.UnaryOp .Not e pos) (tE X.K cal (.not a)):=by
 refine(yO J).imp λσ H Q q=>?_
 obtain⟨B,O₀,O,ρ,v,st,z,q⟩:=q;rw[ev]at z;simp only[bind_eq_some_iff,map_eq_some_iff]at z;obtain⟨b,⟨x,z,D⟩,rfl⟩:=z;cases x<;>simp only[aJ,Option.some.injEq,reduceCtorEq]at D
 subst D;exact⟨B,O₀,O,ρ,_,st,z,λZ H1 U Y=>⟨_,Y.1.bl,q _ H1 U (.of (dk _ _))⟩⟩
theorem B1{a:ME}{e:Expr}{pos:Pos}(J:PT X e (tT X.K cal a)):PT X (.UnaryOp .Not e pos) (tT X.K cal (.not a)):=by
 refine(tz J).imp λσ H Q q=>?_
 obtain⟨B,O₀,O,ρ,b,st,z,q⟩:=q;simp only[evB,ev,bind_eq_some_iff,map_eq_some_iff]at z;obtain⟨v,⟨c,⟨x,z,U⟩,rfl⟩,D⟩:=z;simp only[aJ,Option.some.injEq]at D;subst D;exact⟨B,O₀,O,ρ,c,st,by simp[evB,z,U],λH' s=>q H' s⟩
theorem yl{a b:ME}{x y:Expr}{r:List Expr}{pos:Pos}(ha:PE X x (tE X.K cal a))(hb:PE X (.BoolOp .And (y::r) pos) (tE X.K cal b)):PE X (.BoolOp .And (x::y::r) pos) (tE X.K cal (.and a b)):=by
 refine(yN ha hb).imp λσ H Q q=>?_
 obtain⟨B,O₀,O,ρ,v,st,J,q⟩:=q;rw[ev]at J;simp only[bind_eq_some_iff]at J;obtain⟨c,⟨z,J,Y⟩,D⟩:=J;cases z<;>simp only[aJ,Option.some.injEq,reduceCtorEq]at Y
 subst Y;refine⟨B,O₀,O,ρ,_,st,J,λux H1 U g1=>⟨_,g1.1.bl,?_⟩⟩;split at D
 ·rename_i h;rw[if_pos h];simp only[bind_eq_some_iff,map_eq_some_iff]at D;obtain⟨z',D,c',Z,rfl⟩:=D;cases z'<;>simp only[aJ,Option.some.injEq,reduceCtorEq]at Z
  subst Z;exact⟨B,O₀,O,ρ,_,st.mono U,D,λu H2 s2 g2=>q u H2 (U.trans s2) (by rw[g2.1.bl];exact .of (dk _ _))⟩
 ·rename_i h;rw[if_neg h];cases D;exact q _ H1 U (.of (dk _ _))
theorem B2{a b:ME}{x y:Expr}{r:List Expr}{pos:Pos}(ha:PE X x (tE X.K cal a))(hb:PE X (.BoolOp .Or (y::r) pos) (tE X.K cal b)):PE X (.BoolOp .Or (x::y::r) pos) (tE X.K cal (.or a b)):=by
 refine(Bi ha hb).imp λσ H Q q=>?_
 obtain⟨B,O₀,O,ρ,v,st,J,q⟩:=q;rw[ev]at J;simp only[bind_eq_some_iff]at J;obtain⟨c,⟨z,J,Y⟩,D⟩:=J;cases z<;>simp only[aJ,Option.some.injEq,reduceCtorEq]at Y
 subst Y;refine⟨B,O₀,O,ρ,_,st,J,λux H1 U g1=>⟨_,g1.1.bl,?_⟩⟩;split at D
 ·rename_i h;rw[if_pos h];cases D;exact q _ H1 U (.of (dk _ _))
 ·rename_i h;rw[if_neg h];simp only[bind_eq_some_iff,map_eq_some_iff]at D;obtain⟨z',D,c',Z,rfl⟩:=D;cases z'<;>simp only[aJ,Option.some.injEq,reduceCtorEq]at Z
  subst Z;exact⟨B,O₀,O,ρ,_,st.mono U,D,λu H2 s2 g2=>q u H2 (U.trans s2) (by rw[g2.1.bl];exact .of (dk _ _))⟩
theorem ym{op:BoolOp}{vs:List Expr}{pos:Pos}{t:TT}(h:PT X (.BoolOp op vs pos) t):PW X (.BoolOp op vs pos) t:=λw pins s σ H Q I q=>by
 have:=h pins s σ H Q I q;rw[show PySem.isTrue (.BoolOp op vs pos) X.env w=PySem.isTrue (.BoolOp op vs pos) X.env (eval (.BoolOp op vs pos) X.env) from rfl];exact this
theorem yn{a b:ME}{x y:Expr}{r:List Expr}{pos:Pos}(Z:PT X x (tT X.K cal a))(hb:PW X (.BoolOp .And (y::r) pos) (tT X.K cal b)):PT X (.BoolOp .And (x::y::r) pos) (tT X.K cal (.and a b)):=by
 refine(yM Z hb).pt.imp λσ H Q q=>?_
 obtain⟨B,O₀,O,ρ,v,st,J,q⟩:=q;simp only[evB,ev,bind_eq_some_iff]at J;obtain⟨w,⟨c,⟨z,J,e2⟩,D⟩,U⟩:=J;refine⟨B,O₀,O,ρ,c,st,by simp[evB,J,e2],λH1 Y=>?_⟩;split at D
 ·rename_i h;rw[if_pos h];simp only[bind_eq_some_iff,map_eq_some_iff]at D;obtain⟨z',D,c',e5,rfl⟩:=D;simp only[aJ,Option.some.injEq]at U;subst U;exact⟨B,O₀,O,ρ,_,st.mono Y,by simp[evB,D,e5],λH2 s2=>q H2 (Y.trans s2)⟩
 ·rename_i h;rw[if_neg h];cases D;cases U;exact q H1 Y
theorem B3{a b:ME}{x y:Expr}{r:List Expr}{pos:Pos}(Z:PT X x (tT X.K cal a))(hb:PW X (.BoolOp .Or (y::r) pos) (tT X.K cal b)):PT X (.BoolOp .Or (x::y::r) pos) (tT X.K cal (.or a b)):=by
 refine(Bf Z hb).pt.imp λσ H Q q=>?_
 obtain⟨B,O₀,O,ρ,v,st,J,q⟩:=q;simp only[evB,ev,bind_eq_some_iff]at J;obtain⟨w,⟨c,⟨z,J,e2⟩,D⟩,U⟩:=J;refine⟨B,O₀,O,ρ,c,st,by simp[evB,J,e2],λH1 Y=>?_⟩;split at D
 ·rename_i h;rw[if_pos h];cases D;cases U;exact q H1 Y
 ·rename_i h;rw[if_neg h];simp only[bind_eq_some_iff,map_eq_some_iff]at D;obtain⟨z',D,c',e5,rfl⟩:=D;simp only[aJ,Option.some.injEq]at U;subst U;exact⟨B,O₀,O,ρ,_,st.mono Y,by simp[evB,D,e5],λH2 s2=>q H2 (Y.trans s2)⟩
theorem B4{c a b:ME}{t x y:Expr}{pos:Pos}(hc:PT X t (tT X.K cal c))(Y:PE X x (tE X.K cal a))(Z:PE X y (tE X.K cal b))(na:al a=false)(nb:al b=false):PE X (.IfExp t x y pos) (tE X.K cal (.ite c a b)):=by
 refine(tG hc Y Z).imp λσ H Q q=>?_
 obtain⟨B,O₀,O,ρ,v,st,z,q⟩:=q;rw[ev]at z;simp only[bind_eq_some_iff]at z;obtain⟨k',z,J⟩:=z;refine⟨B,O₀,O,ρ,k',st,by simpa[evB,bind_eq_some_iff] using z,λH1 D=>?_⟩;split at J
 ·rename_i h;rw[if_pos h];exact⟨B,O₀,O,ρ,v,st.mono D,J,λu H2 U g2=>q u H2 (D.trans U) (.of (g2.2 na))⟩
 ·rename_i h;rw[if_neg h];exact⟨B,O₀,O,ρ,v,st.mono D,J,λu H2 U g2=>q u H2 (D.trans U) (.of (g2.2 nb))⟩
theorem B5{c a b:ME}{t x y:Expr}{pos:Pos}(hc:PT X t (tT X.K cal c))(ha:PT X x (tT X.K cal a))(hb:PT X y (tT X.K cal b)):PT X (.IfExp t x y pos) (tT X.K cal (.ite c a b)):=by
 intro pins s σ H Q I q;obtain⟨B,O₀,O,ρ,v,st,z,q⟩:=q;simp only[evB,ev,bind_eq_some_iff]at z;obtain⟨w,⟨Z,z,U⟩,e4⟩:=z;refine isTrue_IfExp (thn (hc pins s σ H (λb H1=>b=Z/\ae H H1) I ⟨B,O₀,O,ρ,Z,st,by simpa[evB,bind_eq_some_iff] using z,λH1 D=>⟨rfl,D⟩⟩) λb D ⟨H1,I1,eb,J⟩=>?_);subst eb;split at U
 ·rename_i h;subst h;exact ha pins D σ H1 Q I1 ⟨B,O₀,O,ρ,v,st.mono J,by simp[evB,U,e4],λH2 Y=>q H2 (J.trans Y)⟩
 ·rename_i h;have:b=false:=by cases b<;>simp at h ⊢
  subst this;exact hb pins D σ H1 Q I1 ⟨B,O₀,O,ρ,v,st.mono J,by simp[evB,U,e4],λH2 Y=>q H2 (J.trans Y)⟩
theorem B6{op:Cp}{a b:ME}{l r:Expr}{pos:Pos}(g:Gf X T k cal)(ha:PE X l (tE X.K cal a))(hb:PE X r (tE X.K cal b))(hm:behindInMarks (gK op) r=false):PE X (.Compare l [gK op] [r] pos) (tE X.K cal (.cmp op a b))/\PT X (.Compare l [gK op] [r] pos) (tT X.K cal (.cmp op a b)):=by
 refine⟨(qF (ja g.units op) ha hb hm).imp λσ H Q q=>?_,(qG (ja g.units op) ha hb hm).imp λσ H Q q=>?_⟩
 ·obtain⟨B,O₀,O,ρ,v,st,z,q⟩:=q;rw[ev]at z;simp only[bind_eq_some_iff,map_eq_some_iff]at z;obtain⟨x,z,y,U,c,Y,rfl⟩:=z;exact⟨B,O₀,O,ρ,x,st,z,λux H1 D Z=>⟨B,O₀,O,ρ,y,st.mono D,U,λuy H2 J g2=>⟨O,x,y,c,Z.1.mono J,g2.1,Y,q _ H2 (D.trans J) (.of (dk _ _))⟩⟩⟩
 ·obtain⟨B,O₀,O,ρ,v,st,z,q⟩:=q;simp only[evB,ev,bind_eq_some_iff,map_eq_some_iff]at z;obtain⟨w,⟨x,z,y,U,c,Y,rfl⟩,e4⟩:=z;simp only[aJ,Option.some.injEq]at e4;subst e4;exact⟨B,O₀,O,ρ,x,st,z,λux H1 D Z=>⟨B,O₀,O,ρ,y,st.mono D,U,λuy H2 J g2=>⟨O,x,y,c,Z.1.mono J,g2.1,Y,_,rfl,q H2 (D.trans J)⟩⟩⟩
theorem xv{op D:Cp}{a b c:ME}{l m r:Expr}{pos:Pos}(g:Gf X T k cal)(ha:PE X l (tE X.K cal a))(hb:PE X m (tE X.K cal b))(hc:PE X r (tE X.K cal c))(hm:lastMarks [gK op,gK D] [m,r]=false) :
  PE X (.Compare l [gK op,gK D] [m,r] pos) (tE X.K cal (.chain op D a b c))/\PT X (.Compare l [gK op,gK D] [m,r] pos) (tT X.K cal (.chain op D a b c)):=by
 refine⟨(tO (ja g.units op) (ja g.units D) ha hb hc hm).imp λσ H Q q=>?_,(tP (ja g.units op) (ja g.units D) ha hb hc hm).imp λσ H Q q=>?_⟩
 ·obtain⟨B,O₀,O,ρ,v,st,U,q⟩:=q;rw[ev]at U;simp only[bind_eq_some_iff]at U;obtain⟨x,U,y,e2,c',e3,J⟩:=U;refine⟨B,O₀,O,ρ,x,st,U,λux H1 Y g1=>⟨B,O₀,O,ρ,y,st.mono Y,e2,λuy H2 Z g2=>⟨O,x,y,c',g1.1.mono Z,g2.1,e3,_,rfl,?_⟩⟩⟩;split at J
  ·rename_i h;rw[if_pos h];simp only[bind_eq_some_iff,map_eq_some_iff]at J;obtain⟨z,J,d,e5,rfl⟩:=J;exact⟨B,O₀,O,ρ,z,(st.mono Y).mono Z,J,λuz H3 s3 g3=>⟨O,y,z,d,g2.1.mono s3,g3.1,e5,q _ H3 ((Y.trans Z).trans s3) (.of (dk _ _))⟩⟩
  ·rename_i h;rw[if_neg h];cases J;exact q _ H2 (Y.trans Z) (.of (dk _ _))
 ·obtain⟨B,O₀,O,ρ,v,st,U,q⟩:=q;simp only[evB,ev,bind_eq_some_iff]at U;obtain⟨w,⟨x,U,y,e2,c',e3,J⟩,e6⟩:=U;refine⟨B,O₀,O,ρ,x,st,U,λux H1 Y g1=>⟨B,O₀,O,ρ,y,st.mono Y,e2,λuy H2 Z g2=>⟨O,x,y,c',g1.1.mono Z,g2.1,e3,_,rfl,?_⟩⟩⟩;split at J
  ·rename_i h;rw[if_pos h];simp only[bind_eq_some_iff,map_eq_some_iff]at J;obtain⟨z,J,d,e5,rfl⟩:=J;simp only[aJ,Option.some.injEq]at e6;subst e6;exact⟨B,O₀,O,ρ,z,(st.mono Y).mono Z,J,λuz H3 s3 g3=>⟨O,y,z,d,g2.1.mono s3,g3.1,e5,_,rfl,q H3 ((Y.trans Z).trans s3)⟩⟩
  ·rename_i h;rw[if_neg h];cases J;cases e6;exact⟨_,rfl,q H2 (Y.trans Z)⟩
theorem B7{ms:List ME}{es:List Expr}{j:Nat}{pos:Pos}(h:PA X es (tEs X.K cal ms))(J:(ms.all λm=>!al m)=true):PE X (.Tuple es j pos) (tE X.K cal (.tup ms)):=by
 refine(pC h).imp λσ H Q q=>?_
 obtain⟨B,O₀,O,ρ,v,st,z,q⟩:=q;rw[ev]at z;simp only[bind_eq_some_iff]at z;obtain⟨vs,z,D⟩:=z;split at D
 ·rename_i hl;cases D;refine⟨B,O₀,O,ρ,vs,st,z,λus H1 U Y=>⟨?_,λp Z=>?_⟩⟩
  ·rw[<- (Y.2 J).length];exact cF hl
  ·exact q _ _ (U.trans (aM Z _)) (.of (fC (aW U st.here) Z (Y.2 J)))
 ·cases D
theorem yo{ms:List ME}{es:List Expr}{pos:Pos}(h:PA X es (tEs X.K cal ms))(z:(ms.all λm=>!al m)=true):PE X (.List es pos) (tF X.K cal (.lst ms)):=by
 refine(tV h).imp λσ H Q q=>?_
 obtain⟨B,O₀,O,ρ,xs,st,D,q⟩:=q;rw[ev]at D;simp only[bind_eq_some_iff]at D;obtain⟨vs,D,J⟩:=D;split at J
 ·rename_i hl;cases J;refine⟨B,O₀,O,ρ,xs,st,D,λus H1 Y Z=>⟨?_,λp U=>?_⟩⟩
  ·rw[<- (Z.2 z).length];exact cF hl
  ·refine q p us _ (Y.trans (aM U _)) (Y.free U) au ?_;rw[eG (mem_cons_self)];refine Reps.mono (bj (ae.refl H1) λb z=>?_) _ (Z.2 z);rcases mem_cons.mp z with rfl|z
   ·exact .inr U
   ·exact .inl z
 ·cases J
theorem B8{a i:ME}{v s:Expr}{pos:Pos}(U:PE X v (tE X.K cal a))(hi:PE X s (tE X.K cal i))(Y:dz s=true):PE X (.Subscript v s pos) (tE X.K cal (.idx a i)):=by
 refine(x9 zG U hi (p_ Y)).imp λσ H Q q=>?_
 obtain⟨B,O₀,O,ρ,v,st,z,q⟩:=q;rw[ev]at z;simp only[bind_eq_some_iff]at z;obtain⟨x,z,y,Z,e3⟩:=z;exact⟨B,O₀,O,ρ,x,st,z,λux H1 D g1=>⟨B,O₀,O,ρ,y,st.mono D,Z,λuy H2 J g2=>⟨O,x,y,v,aW (D.trans J) st.here,g1.1.mono J,g2.1,e3,λu H3 s3 r=>q u H3 ((D.trans J).trans s3) (.of r)⟩⟩⟩
noncomputable def tB1(K:PySem.W.Frag)(cal:Cal)(q:ME):TO:=λσ H Q=>∃B O₀ O ρ o,aw K B O₀ O H ρ σ/\((ev cal q ρ).bind λv=>bnd q v)=some o/\∀H',ae H H'->Q o H'
theorem u0{m:ME}(h:fc m=true):PO X none (tB1 X.K cal m):=by
 have e:m=.cst .non:=by
  unfold fc at h;split at h
  ·rfl
  ·cases h
 subst e;intro pins s σ H Q I q;obtain⟨B,O₀,O,ρ,o,st,z,q⟩:=q;simp only[ev,bind_some,bnd,Option.some.injEq]at z;subst z;exact wq pins s σ H Q I (q H (ae.refl H))
theorem u3{m:ME}{l:Expr}(h:PE X l (tE X.K cal m))(J:fc m=false):PO X (some l) (tB1 X.K cal m):=by
 intro pins s σ H Q I q;obtain⟨B,O₀,O,ρ,o,st,z,q⟩:=q;simp only[bind_eq_some_iff]at z;obtain⟨v,z,D⟩:=z;obtain⟨i,rfl,rfl⟩:∃i,v=.int i/\o=some i:=by
  unfold bnd at D;split at D
  ·simp[fc]at J
  ·cases D;exact⟨_,rfl,rfl⟩
  ·cases D
 exact wt h pins s σ H Q I ⟨B,O₀,O,ρ,_,st,z,λu H' s' g=>⟨i,g.1.int,q H' s'⟩⟩
theorem xw{a lo hi:ME}{v:Expr}{l u:Option Expr}{p2 pos:Pos}(ha:PE X v (tE X.K cal a))(hl:PO X l (tB1 X.K cal lo))(hu:PO X u (tB1 X.K cal hi)):PE X (.Subscript v (.Slice l u none p2) pos) (tE X.K cal (.slice a lo hi)):=by
 refine(t8 zH ha hl hu).imp λσ H Q q=>?_
 obtain⟨B,O₀,O,ρ,w,st,z,q⟩:=q;rw[ev,bind_eq_some_iff]at z;obtain⟨x,z,D⟩:=z;rw[bind_eq_some_iff]at D;obtain⟨Z,D,J⟩:=D;rw[bind_eq_some_iff]at J;obtain⟨ao,J,e4⟩:=J;exact⟨B,O₀,O,ρ,x,st,z,λux H1 U g1=>⟨B,O₀,O,ρ,Z,st.mono U,D,λH2 Y=>⟨B,O₀,O,ρ,ao,(st.mono U).mono Y,J,λH3 s3 =>
  ⟨O,x,w,aW ((U.trans Y).trans s3) st.here,g1.1.mono (Y.trans s3),e4,λu H4 s4 r=>q u H4 (((U.trans Y).trans s3).trans s4) (.of r)⟩⟩⟩⟩
theorem u4 {f:Blt}{ms:List ME}{x:Str}{e:Expr}{es:List Expr}{p pos:Pos}{id:String} (hc:bC X (.builtin id) (RBM X.K (av f))) (U:glB X.env.scope x=true) (Y:X.mg x=none) (Z:bootBuiltins x=some (.builtin id)) (hn:x ≠ "__name__") (hd:(x==("__debug__":Str))=false)
  (ha:PA X (e::es) (tEs X.K cal ms)) (D:(e::es).all ab=true):PE X (.Call (.Name x p) (e::es) [] pos) (tE X.K cal (.blt f ms)):=by
 simp only[all_cons,Bool.and_eq_true]at D;refine(fq hc (dB U) Y Z ha hn hd (aQ D.1 es _) (bg D.2)).imp λσ H Q q=>?_
 obtain⟨B,O₀,O,ρ,v,st,z,q⟩:=q;rw[ev,bind_eq_some_iff]at z;obtain⟨vs,z,e2⟩:=z;exact⟨B,O₀,O,ρ,vs,st,z,λus H1 J g1=>⟨O,vs,v,aW J st.here,g1.1,e2,λu H2 s2 r=>q u H2 (J.trans s2) (.of r)⟩⟩
theorem qc {f:Blt}{ms:List ME}{x:Str}{e:Expr}{es:List Expr}{p pos:Pos}{id:String} (hc:bC X (.type id) (RBM X.K (av f))) (U:glB X.env.scope x=true) (Y:X.mg x=none) (Z:bootBuiltins x=some (.type id)) (hn:x ≠ "__name__") (hd:(x==("__debug__":Str))=false)
  (ha:PA X (e::es) (tEs X.K cal ms)) (D:(e::es).all ab=true):PE X (.Call (.Name x p) (e::es) [] pos) (tE X.K cal (.blt f ms)):=by
 simp only[all_cons,Bool.and_eq_true]at D;refine(gw hc (dB U) Y Z ha hn hd (aQ D.1 es _) (bg D.2)).imp λσ H Q q=>?_
 obtain⟨B,O₀,O,ρ,v,st,z,q⟩:=q;rw[ev,bind_eq_some_iff]at z;obtain⟨vs,z,e2⟩:=z;exact⟨B,O₀,O,ρ,vs,st,z,λus H1 J g1=>⟨O,vs,v,aW J st.here,g1.1,e2,λu H2 s2 r=>q u H2 (J.trans s2) (.of r)⟩⟩
theorem lY{f:Blt}{ms:List ME}{σ:St}{H:Hp}{Q:VK}{K:PySem.W.Frag}(q:tF K cal (.blt f ms) σ H Q):tCB (RBF K (av f)) (tEs K cal ms) σ H Q:=by
 obtain⟨B,O₀,O,ρ,xs,st,z,q⟩:=q;rw[ev,bind_eq_some_iff]at z;obtain⟨vs,z,Y⟩:=z;refine⟨B,O₀,O,ρ,vs,st,z,λus H1 D Z=>⟨O,vs,xs,aW D st.here,Z.1,Y,λl ws J r=>q l ws _ (D.trans (aM J _)) (D.free J) au ?_⟩⟩;rw[eG (mem_cons_self)];refine Reps.mono (bj (ae.refl H1) λb U=>?_) _ r;rcases mem_cons.mp U with rfl|U
 ·exact .inr J
 ·exact .inl U
theorem zO {f:Blt}{ms:List ME}{x:Str}{e:Expr}{es:List Expr}{p pos:Pos}{id:String} (hc:bC X (.builtin id) (RBF X.K (av f))) (D:glB X.env.scope x=true) (J:X.mg x=none) (U:bootBuiltins x=some (.builtin id)) (Y:x ≠ "__name__") (hd:(x==("__debug__":Str))=false)
  (Z:PA X (e::es) (tEs X.K cal ms)) (z:(e::es).all ab=true):PE X (.Call (.Name x p) (e::es) [] pos) (tF X.K cal (.blt f ms)):=by
 simp only[all_cons,Bool.and_eq_true]at z;exact(fq hc (dB D) J U Z Y hd (aQ z.1 es _) (bg z.2)).imp λσ H Q q=>lY q
theorem xx {f:Blt}{ms:List ME}{x:Str}{e:Expr}{es:List Expr}{p pos:Pos}{id:String} (hc:bC X (.type id) (RBF X.K (av f))) (D:glB X.env.scope x=true) (J:X.mg x=none) (U:bootBuiltins x=some (.type id)) (Y:x ≠ "__name__") (hd:(x==("__debug__":Str))=false)
  (Z:PA X (e::es) (tEs X.K cal ms)) (z:(e::es).all ab=true):PE X (.Call (.Name x p) (e::es) [] pos) (tF X.K cal (.blt f ms)):=by
 simp only[all_cons,Bool.and_eq_true]at z;exact(gw hc (dB D) J U Z Y hd (aQ z.1 es _) (bg z.2)).imp λσ H Q q=>lY q
theorem zP{f:Nat}{ms:List ME}{x:Str}{es:List Expr}{p pos:Pos}(g:Gf X T k cal)(hf:T.fs[f]?=some x)(hg:glB X.env.scope x=true)(hn:ah x=true)(ha:PA X es (tAs X.K cal ms))(hs:es.all ab=true)(hl:ms.length=es.length):PE X (.Call (.Name x p) es [] pos) (tE X.K cal (.call f ms)):=by
 obtain⟨fa,fd,ps,h1,h2,h3,F,_⟩:=g.fns f x hf;have key:∀σ H Q,tE X.K cal (.call f ms) σ H Q->tY (spM X.K cal f) [] E0 (tAs X.K cal ms) σ H Q:=λσ H Q q=>by
  obtain⟨B,O₀,O,ρ,v,st,e1,q⟩:=q;rw[ev,bind_eq_some_iff]at e1;obtain⟨vs,e1,e2⟩:=e1;refine⟨B,O₀,O,ρ,vs,st,e1,λus H1 s1 g1=>⟨O,vs,v,aW s1 st.here,?_,e2,λu H2 s2 r=>q u H2 (s1.trans s2) (.of r)⟩⟩;rw[append_nil];exact g1
 cases es with
 | nil =>
  refine(tZ F g.room (dB hg) h1 h2 h3 .nil ik (dQ hn).1).imp λσ H Q q=>?_
  obtain⟨B,O₀,O,ρ,vs,st,e1,q⟩:=key σ H Q q;cases ms with
  |nil =>
   simp only[evA,Option.some.injEq]at e1;subst e1;exact q [] H (ae.refl H) .nil
  |cons m ms=>simp at hl
 |cons e es =>
  simp only[all_cons,Bool.and_eq_true]at hs;exact(jF F g.room (dB hg) h1 h2 h3 .nil ik ha (dQ hn).1 (aQ hs.1 es _) (bg hs.2)).imp key
end
section
variable{K:PySem.W.Frag}{H:Hp}{O:List Addr}
end
section
variable{X:Cx}{pins:List (Addr×Obj)}{σ:St}{H:Hp}{s:Shared}
end
section
variable{X:Cx}{T:Tab}{k:Nat}{cal:Cal}
end
theorem qd:bootBuiltins "len"=some (.builtin "len"):=by decide +kernel
theorem kH:bootBuiltins "tuple"=some (.type "tuple"):=by decide +kernel
theorem rh:bootBuiltins "list"=some (.type "list"):=by decide +kernel
theorem lZ:bootBuiltins "sorted"=some (.builtin "sorted"):=by decide +kernel
theorem zQ:bootBuiltins "any"=some (.builtin "any"):=by decide +kernel
theorem zR:bootBuiltins "all"=some (.builtin "all"):=by decide +kernel
theorem u5:bootBuiltins "int"=some (.type "int"):=by decide +kernel
theorem xy:bootBuiltins "bool"=some (.type "bool"):=by decide +kernel
theorem zS:bootBuiltins "str"=some (.type "str"):=by decide +kernel
theorem zT:bootBuiltins "set"=some (.type "set"):=by decide +kernel
theorem lz:bootBuiltins "isinstance"=some (.builtin "isinstance"):=by decide +kernel
section
variable{X:Cx}{T:Tab}{k:Nat}{cal:Cal}
theorem zU {f:Blt}{c:String}{m:ME}{e:Expr}{t:Str}{p p2 pos:Pos} (g:Gf X T k cal) (J:cH f=some c) (hg:glB X.env.scope "isinstance"=true) (ht:t=(c:Str)) (U:glB X.env.scope t=true)
  (Y:bootBuiltins c=some (.type c)) (Z:X.mg c=none) (hn:(c:Str) ≠ "__name__") (hd:((c:Str)==("__debug__":Str))=false) (h:PE X e (tE X.K cal m)) (hs:ab e=true):PE X (.Call (.Name "isinstance" p) [e,.Name t p2] [] pos) (tE X.K cal (.blt f [m])):=by
 subst ht;refine(fq (zK J) (dB hg) (g.blt "isinstance" (by decide)) lz (aI h (aI (wa (v:=.ty c) (dB U) Z Y rfl hn hd) bD rfl) (aQ hs _ _)) (by decide) (by decide) (aQ hs _ _) rfl).imp λσ H Q q=>?_
 obtain⟨B,O₀,O,ρ,v,st,z,q⟩:=q;rw[ev,bind_eq_some_iff]at z;obtain⟨vs,z,D⟩:=z;obtain⟨w,rfl,e3⟩:=uU z;have e5:isD w=false/\v=.bl (isT f w):=by
  cases hd:isD w with
  |true=>cases f<;>simp only[cH,reduceCtorEq]at J<;>(simp only[av,cf,g_,gJ,gc,hd]at D;cases D)
  |false=>cases f<;>simp only[cH,reduceCtorEq]at J<;>(simp only[av,cf,g_,gJ,gc,hd,Bool.false_eq_true,if_false,Option.some.injEq]at D;exact⟨rfl,D.symm⟩)
 obtain⟨e5,rfl⟩:=e5;refine⟨B,O₀,O,ρ,w,st,e3,λu H1 s1 g1=>⟨O,w,u,rfl,e5,g1.1,q _ H1 s1 (.of (dk _ _))⟩⟩
theorem oB {m:ME}{e:Expr}{x y:Str}{p p2 pos pos2:Pos} (g:Gf X T k cal) (hx:x=("sorted":Str)) (hy:y=("set":Str)) (hg:glB X.env.scope x=true) (J:glB X.env.scope y=true) (h:PE X e (tE X.K cal m)) (Y:ab e=true):PE X (.Call (.Name x p) [.Call (.Name y p2) [e] [] pos2] [] pos) (tF X.K cal (.blt .sortedSet [m])):=by
 subst hx hy;refine(fq (oA g.calm) (dB hg) (g.blt "sorted" (by decide)) lZ (aI (gw (BT g.calm) (dB J) (g.blt "set" (by decide)) zT (aI h bD (aQ Y _ _)) (by decide) (by decide) (aQ Y _ _) rfl) bD rfl) (by decide) (by decide) rfl rfl).imp λσ H Q q=>?_
 obtain⟨B,O₀,O,ρ,xs,st,D,q⟩:=q;rw[ev,bind_eq_some_iff]at D;obtain⟨vs,D,Z⟩:=D;obtain⟨w,rfl,e3⟩:=uU D;simp only[av,cf,g_,gJ,gc,bind_eq_some_iff]at Z;obtain⟨ys,e4,ns,e5,U⟩:=Z;split at U
 ·rename_i hc;cases U;refine⟨B,O₀,O,ρ,w,st,e3,λu H1 s1 g1=>⟨O,w,u,ns,rfl,g1.1,by simp[e4,e5],hc.1,λl hl=>⟨l,_,rfl,au,?_,λp' z=>?_⟩⟩⟩
  ·rw[zI];exact hc.2
  ·rw[xp];refine q p' _ _ ((s1.trans (aM hl _)).trans (aM z _)) (s1.free ((aM hl _).free z)) au (.of_ints _)
 ·cases U
theorem oC:∀{xs:List PV}{ws:List Str},eh xs=some ws->xs=ws.map .str
 | [],_,h=>by simp[eh]at h;subst h;rfl
 | .str i::r,ns,h=>by
  simp only[eh,map_eq_some_iff]at h;obtain⟨ms,h1,rfl⟩:=h;rw[oC h1];rfl
 | .non::_,_,h=>by simp[eh]at h
 | .bl _::_,_,h=>by simp[eh]at h
 | .int _::_,_,h=>by simp[eh]at h
 | .tup _::_,_,h=>by simp[eh]at h
 | .lst _::_,_,h=>by simp[eh]at h
 | .dI _::_,_,h=>by simp[eh]at h
theorem l4{K:PySem.W.Frag}{F:Hp}:∀{ws:List Str}{us:List V},Reps K F (ws.map .str) us->us=ws.map V.str
 | [],_,h=>by simpa[Reps] using h
 |n::ns,_,h=>by
  rw[map_cons,Reps]at h;obtain⟨u,r,rfl,q,t⟩:=h;rw[Rep]at q;rw[q,l4 t];rfl
theorem zV {x:Str}{m:ME}{e:Expr}{j:Nat}{p Y Z:Pos} (h:PE X e (tE X.K cal m)) (J:ab e=true) (hl:(Y.endLine==Z.line)=true):PE X (.Call (.Attribute (.Constant (.str x) j p) "join" Y) [e] [] Z) (tE X.K cal (.join x m)):=by
 refine(nH PySem.F.plainAttrs_str PySem.F.slot_str_join PySem.F.type_str_join wK pf (aI h bD (aQ J _ _)) rfl (by rw[aQ J];rfl) hl (aQ J _ _) rfl).imp λσ H Q q=>?_
 obtain⟨B,O₀,O,ρ,v,st,D,q⟩:=q;rw[ev,bind_eq_some_iff]at D;obtain⟨w,D,z⟩:=D;cases w with
 | lst xs =>
  have z:((eh xs).bind λws=>if (ws.map λy=>y.length+x.length).sum<=1000000 then some (PV.str (Builtin.Str.glued x ws)) else none)=some v:=z;rw[bind_eq_some_iff]at z;obtain⟨ws,e3,U⟩:=z;split at U
  ·rename_i hz;cases U;have e5:=oC e3;subst e5;refine⟨rfl,B,O₀,O,ρ,_,st,D,λu H1 s1 g1=>?_⟩;obtain⟨a,us,rfl,sq,rs⟩:=g1.1.lst;have e6:=l4 rs;subst e6;exact⟨x,a,ws,rfl,rfl,sq,hz,q _ H1 s1 (.of (by rw[Rep]))⟩
  ·cases U
 | _=>cases z
theorem B9 {x:Str}{d:Addr}{o:Obj}{es:Array DictEntry}{ep:Nat}{i:Expr}{ty:TE}{p pos:Pos} (D:Gl X x) (J:(x==("__debug__":Str))=false) (U:X.mg x=some (.ref d)) (Y:List.lookup d X.K=some o) (hx:o.ExactDict) (hd:o.data=.dict es ep) (Z:∀e∈es,∃k,Value.isStrOf k e.key=true/\e.hash=hashStr X.w k) (hi:PE X i ty) (hs:zf i) :
  PE X (.Subscript (.Name x p) i pos) (λσ H Q=>ty σ H λy H1=>∃k val v,y=.str k/\findBy Value.isStrOf es k=some val/\aA v val/\Q v H1):=by
 intro pins s σ H Q I h;refine wB PySem.F.slot_dict_getitem.lookup hs (ie I D U (thn (hi pins s σ H _ I h) λiv s2 ⟨y,H2,q,ry,k,val,v,ey,ef,rv,q2⟩=>?_) J);subst ey;obtain⟨t,rfl⟩:=ry;have z:=q.kIn d o Y;refine⟨⟨o,z,hx.1⟩,wpAny_getItem_of (knd:=strKind X.prog X.w) (k:=k) (f:=findBy Value.isStrOf es) (by show Value.isStrOf k (.str k t)=true;simp[Value.isStrOf]) ⟨o,es,ep,z,hx,hd,Z,λ_=>rfl⟩ ef ⟨v,H2,q.tok _,rv,q2⟩⟩
theorem zW{x:Str}{m:ME}{i:Expr}{p pos:Pos}(g:Gf X T k cal)(hg:glB X.env.scope x=true)(hn:ah x=true)(hc:(fJ.any λt=>t.1==x)=true)(h:PE X i (tE X.K cal m))(hs:zf i):PE X (.Subscript (.Name x p) i pos) (tE X.K cal (.cdat x m)):=by
 have hx:∃t∈fJ,t.1=x:=by
  obtain⟨t,h1,h2⟩:=List.any_eq_true.mp hc;exact⟨t,h1,eq_of_beq h2⟩
 ·obtain⟨t,ht,rfl⟩:=hx;obtain⟨d,o,es,ep,h0,h1,h2,h3,h4,h5,h6⟩:=g.ct t ht;refine(B9 (dB hg) (dQ hn).1 h1 h2 h3 h4 h5 h hs).imp λσ H Q q=>?_
  obtain⟨B,O₀,O,ρ,v,st,e1,q⟩:=q;rw[ev,bind_eq_some_iff]at e1;obtain⟨w,e1,e2⟩:=e1;cases w with
  | str k =>
   have e2:(((fJ.find? λp=>decide (p.1=t.1)).bind λt=>t.2.find? λp=>decide (p.1=k)).map (·.2))=some v:=e2;have et:fJ.find? (λp=>decide (p.1=t.1))=some t:=by
    unfold fJ at ht ⊢;simp only[mem_cons,not_mem_nil,or_false]at ht;subst ht;simp
   rw[et,bind_some,map_eq_some_iff]at e2;obtain⟨pr,e3,rfl⟩:=e2;have hm:=mem_of_find?_eq_some e3;have hk:=find?_some e3;have hk:pr.1=k:=of_decide_eq_true hk;obtain⟨val,u,f1,f2,f3⟩:=h6 pr hm;refine⟨B,O₀,O,ρ,_,st,e1,λuy H1 s1 g1=>?_⟩;have ey:=g1.1.str;subst ey;exact⟨k,val,u,rfl,by rw[<- hk];exact f1,f2,q _ H1 s1 (.of (f3 _))⟩
  | _=>cases e2
theorem zX {i:Nat}{y:Str}{p yp pos:Pos} (g:Gf X T k cal) (hg:glB X.env.scope ("len":Str)=true) (hn:aG X.N X.env.scope i y=true):PE X (.Call (.Name ("len":Str) p) [.Name y yp] [] pos) (tE X.K cal (.lenP i)):=by
 refine(fq dN (dB hg) (g.blt "len" (by decide)) qd (aI (bP hn) bD rfl) (by decide) (by decide) rfl rfl).imp λσ H Q q=>?_
 obtain⟨B,O₀,O,ρ,v,st,e1,q⟩:=q;rw[ev]at e1;have fin:∀(ns:List Int) (a:Addr),H a=some (iA (.p ns))->v=.int ns.length->σ[i]?=some (some (.ref a))->∃u,σ[i]?=some (some u)/\∃a ws,[u]=[V.ref a]/\(SqL X.K H a ws\/SqT X.K H a ws)/\Q (.int ws.length) H:=λns a ha hv eu=>by
  refine⟨_,eu,a,ns.map V.int,rfl,.inl (SqL.of ha),?_⟩;rw[length_map];subst hv;exact q _ H (ae.refl H) (.of (cE _ _))
 cases hj:(ρ[i]?).join with
 |none=>rw[hj]at e1;cases e1
 | some m =>
  rw[hj]at e1;obtain⟨u,eu,so⟩:=aK st hj;cases m with
  | ownD d =>
   cases d with
   |p ns =>
    cases e1;obtain⟨a,rfl,ha,_⟩:=so;exact fin ns a ha rfl eu
   | _=>cases e1
  | mutD d =>
   cases d with
   |p ns =>
    cases e1;obtain⟨a,rfl,ha,_⟩:=so;exact fin ns a ha rfl eu
   | _=>cases e1
  | _=>cases e1
end
section
variable{X:Cx}{T:Tab}{k:Nat}{cal:Cal}
theorem oE{D:Sk}{z:List ME}{js:List Nat}{cond elt:ME}:∀ρ v,ev cal (.comp D z js cond elt) ρ=some v->∃xs,v=.lst xs:=λρ v q=>by
 rw[ev,bind_eq_some_iff]at q;obtain⟨vs,_,q⟩:=q;rw[bind_eq_some_iff]at q;obtain⟨xs,_,q⟩:=q;split at q
 ·simp only[map_eq_some_iff]at q;obtain⟨ys,_,rfl⟩:=q;exact⟨_,rfl⟩
 ·cases q
theorem eV{f:Blt}(z:f=.listOf\/f=.sorted\/f=.sortedSet\/f=.sortedKeys\/f=.valuesOf){ms:List ME}:∀ρ v,ev cal (.blt f ms) ρ=some v->∃xs,v=.lst xs:=λρ v q=>by
 rw[ev,bind_eq_some_iff]at q;obtain⟨vs,_,q⟩:=q;rcases z with rfl|rfl|rfl|rfl|rfl
 ·obtain⟨x,rfl⟩:=dl q (.inl rfl);simp only[av,cf,g_,gJ,gc,map_eq_some_iff]at q;obtain⟨ys,_,rfl⟩:=q;exact⟨_,rfl⟩
 ·obtain⟨x,rfl⟩:=dl q (.inl rfl);simp only[av,cf,g_,gJ,gc,bind_eq_some_iff]at q;obtain⟨ys,_,q⟩:=q;unfold gb at q;split at q
  ·split at q
   ·cases q;exact⟨_,rfl⟩
   ·simp only[map_eq_some_iff]at q;obtain⟨ts,_,rfl⟩:=q;exact⟨_,rfl⟩
  ·cases q
 ·obtain⟨x,rfl⟩:=dl q (.inr (.inr (.inl rfl)));simp only[av,cf,g_,gJ,gc,bind_eq_some_iff]at q;obtain⟨ys,_,ns,_,q⟩:=q;split at q
  ·cases q;exact⟨_,rfl⟩
  ·cases q
 ·obtain⟨x,rfl⟩:=dl q (.inl rfl);simp only[av,cf]at q;split at q
  ·split at q
   ·cases q;exact⟨_,rfl⟩
   ·cases q
  ·cases q
 ·obtain⟨x,rfl⟩:=dl q (.inr (.inr (.inr (.inr rfl))));simp only[av,cf]at q;split at q
  ·split at q
   ·cases q;exact⟨_,rfl⟩
   ·cases q
  ·cases q
theorem jb{ifs:List Expr}{cond:ME}{f:Expr->Bool}(h:gj f cond ifs=true)(hc:∀c,f c=true->PT X c (tT X.K cal cond)):PF X ifs (tT X.K cal cond):=by
 match ifs,h with
 | [],h =>
  have e:cond=.cst (.bl true):=by
   simp only[gj]at h;split at h
   ·rfl
   ·cases h
  subst e;intro pins s σ H Q I q;obtain⟨B,O₀,O,ρ,b,st,e1,q⟩:=q;simp only[evB,ev,bind_some,aJ,Option.some.injEq]at e1;subst e1;exact zj pins s σ H Q I (q H (ae.refl H))
 | [c],h=>exact zk (hc c h)
theorem sJ{z:List ME}{js:List Nat}{cond elt:ME}:∀ρ v,ev cal (.comp2 z js cond elt) ρ=some v->∃xs,v=.lst xs:=λρ v q=>by
 rw[ev,bind_eq_some_iff]at q;obtain⟨vs,_,q⟩:=q;rw[bind_eq_some_iff]at q;obtain⟨xs,_,q⟩:=q;split at q
 ·simp only[map_eq_some_iff]at q;obtain⟨ys,_,rfl⟩:=q;exact⟨_,rfl⟩
 ·cases q
theorem zY{js:List Nat}{x y:Str}{px U tp:Pos}{j:Nat}{scope:Scope}{q:Shared}{z:Hp}{C:Addr}{fp:List Addr}(g:Gf X T k cal)(h:fB X.env.scope X.N scope x y (aF X.N js) js=true):PG (X.blk x ([y]++aF X.N js) scope q z C fp) (.Tuple [.Name x px,.Name y U] j tp) (g2 X.K):=by
 obtain⟨c,D,J⟩:=kG h;exact yQ g.calm (ny (ij (i:=0) c.nd rfl (.inl (lookup_relabel_local D)) (.inr (lookup_relabel_local D))) (ny (ij (i:=1) c.nd rfl (.inl (lookup_relabel_local J)) (.inr (lookup_relabel_local J))) wd)) rfl rfl
theorem mY{x m:Str}{es:List Expr}{p z pos:Pos}{env:Env}(J:es.all ab=true)(U:decide (es.length<30)=true)(q:(z.endLine==pos.line)=true):eval (.Call (.Attribute (.Name x p) m z) es [] pos) env=(do
   let D <- eval (.Name x p) env
   standAt z.atName
   let (f,first) <- holding [D] (getMethod D m (do return (<- importBound (.Name x p) env).getD true))
   callWith pos f first (backTo pos (starEach es env)) (backToKw pos (keywordEach [] env))):=by
 have Y:methodCallForm (es.length+([]:List Keyword).length) (backTo pos (starEach es env)) (backToKw pos (keywordEach [] env))=true:=by
  unfold methodCallForm;have h1:((backTo pos (starEach es env)).all λx=>!x.1)=true:=by
   have:=bg (pos:=pos) (env:=env) J;rw[List.any_eq_false]at this;rw[List.all_eq_true];intro x hx;have:=this x hx;simpa using this
  rw[h1];exact U
 rw[arm_eval_Call];unfold methodCall calleeOf methodCallPos;rw[Y,q]
 rfl
theorem jc{k':Sk}{src:List ME}{it tg:Expr}{tup:Bool}(htg:tup=true->∃ts j tp,tg=.Tuple ts j tp)(g:Gf X T k cal)(h:dg X.env.scope tup (λxs=>chks T src X.N X.env.scope xs) k' it=true)(hs:∀xs,chks T src X.N X.env.scope xs=true->PA X xs (tEs X.K cal src)/\xs.all ab=true/\src.length=xs.length)
  (h1:∀m x,src=[m]->chks T src X.N X.env.scope [x]=true->PE X x (tE X.K cal m)):PI X tg it (tW X.K cal k' src)/\dF it=true:=by
 cases k' with
 | seq =>
  simp only[dg,Bool.and_eq_true]at h;refine⟨?_,h.1⟩;obtain⟨_,_,hl⟩:=hs _ h.2
  match src,hl,h1,h with
  | [m],_,h1,h =>
   cases hb:al m with
   |false=>exact BU hb (h1 m it rfl h.2)
   |true =>
    cases m<;>simp[al]at hb
    have q:=h.2;simp only[chks,Bool.and_eq_true]at q;have q1:=q.1.1;cases it<;>simp only[cg,bM,ci,bt,bT,cj,cm,cn,dA,cq,cu,be,cw,cx,cy,bf,cz,bu,aS,Bool.false_eq_true]at q1
    exact BV q1
 |chr =>
  simp only[dg,Bool.and_eq_true]at h;refine⟨?_,h.1⟩;obtain⟨_,_,hl⟩:=hs _ h.2
  match src,hl,h1,h with
  | [m],_,h1,h=>exact BX (h1 m it rfl h.2)
 | rng =>
  cases it with
  | Call fn args kws pos =>
   cases fn with
   | Name x p =>
    cases kws with
    |nil =>
     simp only[dg,Bool.and_eq_true,beq_iff_eq,Bool.or_eq_true]at h;obtain⟨⟨⟨hx,hg⟩,ha⟩,hn⟩:=h;obtain⟨q,hst,hl⟩:=hs _ ha;exact⟨xr g hx hg q hn hst hl,rfl⟩
    |cons _ _=>simp[dg]at h
   | _=>simp[dg]at h
  | _=>simp[dg]at h
 |enm=>cases it<;>simp[dg]at h
 | zip =>
  cases it with
  | Call fn args kws pos =>
   cases fn with
   | Name x p =>
    match args,kws,h with
    | [a,b],[],h =>
     simp only[dg,Bool.and_eq_true,beq_iff_eq]at h;obtain⟨⟨⟨⟨⟨ht,hx⟩,hg⟩,ha⟩,hn⟩,hn2⟩:=h;obtain⟨ts,j,tp,rfl⟩:=htg ht;obtain⟨q,_,hl⟩:=hs _ ha;exact⟨BW g hx hg q hn hn2 hl,rfl⟩
    | [],_,h=>simp[dg]at h
    | [_],_,h=>simp[dg]at h
    | _::_::_::_,_,h=>simp[dg]at h
    | [_,_],_::_,h=>simp[dg]at h
   | _=>simp[dg]at h
  | _=>simp[dg]at h
 |rev=>cases it<;>simp[dg]at h
theorem oF{b:Blt}{es:List ME}{x:Str}{args:List Expr}{p pos:Pos}(g:Gf X T k cal)(hx:x=(lS b:Str))(hg:glB X.env.scope x=true)(ha:cM X.env.scope (λxs=>chks T es X.N X.env.scope xs) es.length b args=true)
  (hs:∀xs,chks T es X.N X.env.scope xs=true->PA X xs (tEs X.K cal es)/\xs.all ab=true/\es.length=xs.length)
  (h1:∀m x,es=[m]->chks T es X.N X.env.scope [x]=true->PE X x (tE X.K cal m))
  (hh2:∀m m' x x',es=[m,m']->chks T es X.N X.env.scope [x,x']=true->PE X x (tE X.K cal m)/\PE X x' (tE X.K cal m')) :
  (bN (.blt b es)=true->PE X (.Call (.Name x p) args [] pos) (tF X.K cal (.blt b es)))/\PE X (.Call (.Name x p) args [] pos) (tE X.K cal (.blt b es)):=by
 have inst:∀c,cH b=some c->lS b="isinstance"->bootBuiltins c=some (.type c)->X.mg c=none->(c:Str) ≠ "__name__"->((c:Str)==("__debug__":Str))=false->cM X.env.scope (λxs=>chks T es X.N X.env.scope xs) es.length b args=ky X.env.scope (λxs=>chks T es X.N X.env.scope xs) es.length c args ->
   PE X (.Call (.Name x p) args [] pos) (tE X.K cal (.blt b es)):=λc hc hb hbt hm hn hd e=>by
  rw[e]at ha;unfold ky at ha;split at ha
  ·rename_i y t p2;simp only[Bool.and_eq_true,beq_iff_eq]at ha;obtain⟨⟨⟨h2,h3⟩,h4⟩,h5⟩:=ha;obtain⟨_,hst,_⟩:=hs _ h4
   match es,h5,h1,h4 with
   | [m],_,h1,h4 =>
    rw[hx,hb]at hg ⊢;exact zU g hc hg h2 h3 hbt hm hn hd (h1 m y rfl h4) (by simpa using hst)
  ·cases ha
 have plain:∀n,cH b=none->dY b=some n->0<n->cM X.env.scope (λxs=>chks T es X.N X.env.scope xs) es.length b args=(dY b==some es.length&&chks T es X.N X.env.scope args) ->
   ∃e r,args=e::r/\PA X (e::r) (tEs X.K cal es)/\(e::r).all ab=true:=λn _ hn hpos eq=>by
  rw[eq,hn]at ha;simp only[Bool.and_eq_true,beq_iff_eq,Option.some.injEq]at ha;obtain⟨q1,q2,q3⟩:=hs _ ha.2;cases args with
  |nil=>rw[<- ha.1]at q3;simp at q3;omega
  |cons e r=>exact⟨e,r,rfl,q1,q2⟩
 cases b with
 |len =>
  obtain⟨e,r,rfl,q1,q2⟩:=plain 1 rfl rfl (by decide) rfl;subst hx;exact⟨λz=>(by simp[bN]at z),u4 BO hg (g.blt "len" (by decide)) qd (by decide) (by decide) q1 q2⟩
 |tupleOf =>
  obtain⟨e,r,rfl,q1,q2⟩:=plain 1 rfl rfl (by decide) rfl;subst hx;exact⟨λz=>(by simp[bN]at z),qc re hg (g.blt "tuple" (by decide)) kH (by decide) (by decide) q1 q2⟩
 |listOf =>
  obtain⟨e,r,rfl,q1,q2⟩:=plain 1 rfl rfl (by decide) rfl;subst hx;have q:=xx (p:=p) (pos:=pos) zJ hg (g.blt "list" (by decide)) rh (by decide) (by decide) q1 q2;exact⟨λ_=>q,d3 (eV (.inl rfl)) q⟩
 |sorted =>
  obtain⟨e,r,rfl,q1,q2⟩:=plain 1 rfl rfl (by decide) rfl;subst hx;have q:=zO (p:=p) (pos:=pos) (uS g) hg (g.blt "sorted" (by decide)) lZ (by decide) (by decide) q1 q2;exact⟨λ_=>q,d3 (eV (.inr (.inl rfl))) q⟩
 |any =>
  obtain⟨e,r,rfl,q1,q2⟩:=plain 1 rfl rfl (by decide) rfl;subst hx;exact⟨λz=>(by simp[bN]at z),u4 (BR g.calm) hg (g.blt "any" (by decide)) zQ (by decide) (by decide) q1 q2⟩
 |all =>
  obtain⟨e,r,rfl,q1,q2⟩:=plain 1 rfl rfl (by decide) rfl;subst hx;exact⟨λz=>(by simp[bN]at z),u4 (BS g.calm) hg (g.blt "all" (by decide)) zR (by decide) (by decide) q1 q2⟩
 |strOf =>
  obtain⟨e,r,rfl,q1,q2⟩:=plain 1 rfl rfl (by decide) rfl;subst hx;exact⟨λz=>(by simp[bN]at z),qc BQ hg (g.blt "str" (by decide)) PyProof.Rows.boot_str (by decide) (by decide) q1 q2⟩
 |intOf =>
  obtain⟨e,r,rfl,q1,q2⟩:=plain 1 rfl rfl (by decide) rfl;subst hx;exact⟨λz=>(by simp[bN]at z),qc BP hg (g.blt "int" (by decide)) u5 (by decide) (by decide) q1 q2⟩
 |boolOf=>exact absurd ha Bool.false_ne_true
 |max2=>exact absurd ha Bool.false_ne_true
 |min2=>exact absurd ha Bool.false_ne_true
 |isInt=>exact⟨λz=>(by simp[bN]at z),inst "int" rfl rfl u5 (g.blt "int" (by decide)) (by decide) (by decide) rfl⟩
 |isBool=>exact⟨λz=>(by simp[bN]at z),inst "bool" rfl rfl xy (g.blt "bool" (by decide)) (by decide) (by decide) rfl⟩
 |isStr=>exact⟨λz=>(by simp[bN]at z),inst "str" rfl rfl zS (g.blt "str" (by decide)) (by decide) (by decide) rfl⟩
 |isList=>exact absurd ha Bool.false_ne_true
 |isTuple=>exact⟨λz=>(by simp[bN]at z),inst "tuple" rfl rfl kH (g.blt "tuple" (by decide)) (by decide) (by decide) rfl⟩
 | sortedSet =>
  simp only[cM]at ha;split at ha
  ·rename_i gg p2 y pos2;simp only[Bool.and_eq_true,beq_iff_eq]at ha;obtain⟨⟨⟨h2,h3⟩,h4⟩,h5⟩:=ha;obtain⟨_,hst,_⟩:=hs _ h4
   match es,h5,h1,h4 with
   | [m],_,h1,h4 =>
    have q:=oB (p:=p) (p2:=p2) (pos:=pos) (pos2:=pos2) g hx h2 hg h3 (h1 m y rfl h4) (by simpa using hst);exact⟨λ_=>q,d3 (eV (.inr (.inr (.inl rfl)))) q⟩
  ·cases ha
 |sum=>exact absurd ha Bool.false_ne_true
 |max1=>exact absurd ha Bool.false_ne_true
 |sortedKeys=>exact absurd ha Bool.false_ne_true
 |valuesOf=>exact absurd ha Bool.false_ne_true
 |min1=>simp[cM,cH,dY]at ha
 |tupleRev=>simp[cM]at ha
 |lenSet=>simp[cM]at ha
 |lenSetSub=>simp[cM]at ha
end
section
variable{X:Cx}{T:Tab}{k:Nat}{cal:Cal}
end
mutual
theorem ak {T:Tab}{k:Nat}{cal:Cal}:∀ (me:ME) {X:Cx}{e:Expr},Gf X T k cal->chk T me X.N X.env.scope e=true->PE X e (tE X.K cal me)/\PT X e (tT X.K cal me)
  | .var i,X,e,g,h=>by
    cases e<;>simp only[cg,bM,ci,bt,bT,cj,cm,cn,dA,cq,cu,be,cw,cx,cy,bf,cz,bu,aS,Bool.false_eq_true]at h
    exact⟨yi h,bh (yi h) rfl⟩
  | .bor i,X,e,g,h=>by
    cases e<;>simp only[cg,bM,ci,bt,bT,cj,cm,cn,dA,cq,cu,be,cw,cx,cy,bf,cz,bu,aS,Bool.false_eq_true]at h
    exact⟨yj h,bh (yj h) rfl⟩
  | .cst v,X,e,g,h=>by
    cases e<;>simp only[cg,bM,ci,bt,bT,cj,cm,cn,dA,cq,cu,be,cw,cx,cy,bf,cz,bu,aS,Bool.false_eq_true]at h
    exact⟨yk h,bh (yk h) rfl⟩
  | .glob x v,X,e,g,h=>by
    cases e<;>try (simp only[cg,bM,ci,bt,bT,cj,cm,cn,dA,cq,cu,be,cw,cx,cy,bf,cz,bu,aS,Bool.false_eq_true]at h;done)
    exact⟨uR g h,bh (uR g h) rfl⟩
  | .bin op a b,X,e,g,h=>by
    cases e<;>simp only[cg,bM,ci,bt,bT,cj,cm,cn,dA,cq,cu,be,cw,cx,cy,bf,cz,bu,aS,Bool.false_eq_true,Bool.and_eq_true,beq_iff_eq]at h
    obtain⟨⟨rfl,h1⟩,h2⟩:=h;have p:=λ(pos:Pos)=>BY (op:=op) (pos:=pos) (ak a g h1).1 (ak b g h2).1
    exact⟨p _,bh (p _) rfl⟩
  | .neg _,X,e,g,h=>absurd (show false=true from h) Bool.false_ne_true
  | .not a,X,e,g,h=>by
    cases e with
    | UnaryOp op x pos =>
      cases op<;>simp only[cg,bM,ci,bt,bT,cj,cm,cn,dA,cq,cu,be,cw,cx,cy,bf,cz,bu,aS,Bool.false_eq_true]at h
      exact⟨B0 (ak a g h).1,B1 (ak a g h).2⟩
    | _=>cases (show false=true from h)
  | .and a b,X,e,g,h=>by
    cases e with
    | BoolOp op vs pos =>
      cases op with
      |Or=>cases (show false=true from h)
      | And =>
        match vs,h with
        | [],h=>cases (show false=true from h)
        | [x],h=>cases (show false=true from h)
        | [x,y],h =>
          have h:(chk T a X.N X.env.scope x&&chk T b X.N X.env.scope y)=true:=h;simp only[Bool.and_eq_true]at h;exact⟨yl (ak a g h.1).1 (tD (ak b g h.2).1),yn (ak a g h.1).2 (wb (ak b g h.2).2)⟩
        | x::y::z::r,h =>
          have h:(chk T a X.N X.env.scope x&&chk T b X.N X.env.scope (.BoolOp .And (y::z::r) pos))=true:=h;simp only[Bool.and_eq_true]at h;exact⟨yl (ak a g h.1).1 (ak b g h.2).1,yn (ak a g h.1).2 (ym (ak b g h.2).2)⟩
    | _=>cases (show false=true from h)
  | .or a b,X,e,g,h=>by
    cases e with
    | BoolOp op vs pos =>
      cases op with
      |And=>cases (show false=true from h)
      | Or =>
        match vs,h with
        | [],h=>cases (show false=true from h)
        | [x],h=>cases (show false=true from h)
        | [x,y],h =>
          have h:(chk T a X.N X.env.scope x&&chk T b X.N X.env.scope y)=true:=h;simp only[Bool.and_eq_true]at h;exact⟨B2 (ak a g h.1).1 (tD (ak b g h.2).1),B3 (ak a g h.1).2 (yL (ak b g h.2).2)⟩
        | x::y::z::r,h =>
          have h:(chk T a X.N X.env.scope x&&chk T b X.N X.env.scope (.BoolOp .Or (y::z::r) pos))=true:=h;simp only[Bool.and_eq_true]at h;exact⟨B2 (ak a g h.1).1 (ak b g h.2).1,B3 (ak a g h.1).2 (ym (ak b g h.2).2)⟩
    | _=>cases (show false=true from h)
  | .ite c a b,X,e,g,h=>by
    cases e<;>simp only[cg,bM,ci,bt,bT,cj,cm,cn,dA,cq,cu,be,cw,cx,cy,bf,cz,bu,aS,Bool.false_eq_true,Bool.and_eq_true,Bool.not_eq_true']at h
    obtain⟨⟨⟨⟨h1,h2⟩,h3⟩,h4⟩,h5⟩:=h;exact⟨B4 (ak c g h1).2 (ak a g h2).1 (ak b g h3).1 h4 h5,B5 (ak c g h1).2 (ak a g h2).2 (ak b g h3).2⟩
  | .cmp op a b,X,e,g,h=>by
    cases e with
    | Compare l ops rs pos =>
      match ops,rs,h with
      | [o],[r],h =>
        simp only[cg,bM,ci,bt,bT,cj,cm,cn,dA,cq,cu,be,cw,cx,cy,bf,cz,bu,aS,Bool.and_eq_true,beq_iff_eq,Bool.not_eq_true']at h;obtain⟨⟨⟨rfl,h1⟩,h2⟩,h3⟩:=h;exact B6 g (ak a g h1).1 (ak b g h2).1 h3
      | [],_,h=>cases (show false=true from h)
      | [_],[],h=>cases (show false=true from h)
      | [_],_::_::_,h=>cases (show false=true from h)
      | _::_::_,_,h=>cases (show false=true from h)
    | _=>cases (show false=true from h)
  | .chain op op' a b c,X,e,g,h=>by
    cases e with
    | Compare l ops rs pos =>
      match ops,rs,h with
      | [o,o'],[m,r],h =>
        simp only[cg,bM,ci,bt,bT,cj,cm,cn,dA,cq,cu,be,cw,cx,cy,bf,cz,bu,aS,Bool.and_eq_true,beq_iff_eq,Bool.not_eq_true']at h;obtain⟨⟨⟨⟨⟨rfl,rfl⟩,h1⟩,h2⟩,h3⟩,h4⟩:=h;exact xv g (ak a g h1).1 (ak b g h2).1 (ak c g h3).1 h4
      | [],_,h=>cases (show false=true from h)
      | [_],_,h=>cases (show false=true from h)
      | [_,_],[],h=>cases (show false=true from h)
      | [_,_],[_],h=>cases (show false=true from h)
      | [_,_],_::_::_::_,h=>cases (show false=true from h)
      | _::_::_::_,_,h=>cases (show false=true from h)
    | _=>cases (show false=true from h)
  | .tup es,X,e,g,h=>by
    cases e<;>simp only[cg,bM,ci,bt,bT,cj,cm,cn,dA,cq,cu,be,cw,cx,cy,bf,cz,bu,aS,Bool.false_eq_true,Bool.and_eq_true]at h
    have p:=λ(j:Nat) (pos:Pos)=>B7 (j:=j) (pos:=pos) (sounds es g h.1) h.2
    exact⟨p _ _,bh (p _ _) rfl⟩
  | .lst es,X,e,g,h=>by
    cases e<;>simp only[cg,bM,ci,bt,bT,cj,cm,cn,dA,cq,cu,be,cw,cx,cy,bf,cz,bu,aS,Bool.false_eq_true,Bool.and_eq_true]at h
    have p:=λ(pos:Pos)=>d3 (λρ v hv=>by
      rw[ev,bind_eq_some_iff]at hv;obtain⟨vs,_,hv⟩:=hv;split at hv
      · cases hv;exact⟨_,rfl⟩
      · cases hv) (yo (pos:=pos) (sounds es g h.1) h.2)
    exact⟨p _,bh (p _) rfl⟩
  | .idx a i,X,e,g,h=>by
    cases e with
    | Subscript v s pos =>
      cases s<;>first
        | (simp only[cg,bM,ci,bt,bT,cj,cm,cn,dA,cq,cu,be,cw,cx,cy,bf,cz,bu,aS,Bool.and_eq_true,Bool.false_eq_true] at h
           obtain⟨⟨h1,h2⟩,h3⟩:=h;have p:=B8 (pos:=pos) (ak a g h1).1 (ak i g h2).1 h3;exact⟨p,bh p rfl⟩)
        | (simp[cg,bM,ci,bt,bT,cj,cm,cn,dA,cq,cu,be,cw,cx,cy,bf,cz,bu,aS,dz]at h)
    | _=>cases (show false=true from h)
  | .slice a lo hi,X,e,g,h=>by
    cases e with
    | Subscript v s pos =>
      cases s with
      | Slice l u st p2 =>
        cases st with
        | none =>
          have h:(chk T a X.N X.env.scope v&&gi (λe=>chk T lo X.N X.env.scope e) (fc lo) l&&gi (λe=>chk T hi X.N X.env.scope e) (fc hi) u)=true:=h;simp only[Bool.and_eq_true]at h;obtain⟨⟨h1,h2⟩,h3⟩:=h;have q1:PO X l (tB1 X.K cal lo):=by
            cases l with
            |none=>exact u0 h2
            | some l =>
              simp only[gi,Bool.and_eq_true,Bool.not_eq_true']at h2;exact u3 (ak lo g h2.1).1 h2.2
          have q2:PO X u (tB1 X.K cal hi):=by
            cases u with
            |none=>exact u0 h3
            | some u =>
              simp only[gi,Bool.and_eq_true,Bool.not_eq_true']at h3;exact u3 (ak hi g h3.1).1 h3.2
          have p:=xw (p2:=p2) (pos:=pos) (ak a g h1).1 q1 q2;exact⟨p,bh p rfl⟩
        |some _=>cases (show false=true from h)
      | _=>cases (show false=true from h)
    | _=>cases (show false=true from h)
  | .blt b es,X,e,g,h=>by
    cases e with
    | Call fn args kws pos =>
      cases fn with
      | Name x p =>
        cases kws with
        | nil =>
          have h:(x==(lS b:Str)&&glB X.env.scope x&&cM X.env.scope (λxs=>chks T es X.N X.env.scope xs) es.length b args)=true:=h;simp only[Bool.and_eq_true,beq_iff_eq]at h;obtain⟨⟨hx,hg⟩,ha⟩:=h;have q:=(oF (p:=p) (pos:=pos) g hx hg ha (λxs hxs=>⟨sounds es g hxs,bm hxs⟩) (λm x hm hx=>match es,hm with|[m'],rfl=>(ak m' g (by simp only[chks,Bool.and_eq_true]at hx;exact hx.1.1)).1) (λa b x x' hm hx=>match es,hm with|[m1,m2],rfl=>⟨(ak m1 g (by simp only[chks,Bool.and_eq_true]at hx;exact hx.1.1)).1,(ak m2 g (by simp only[chks,Bool.and_eq_true]at hx;exact hx.2.1.1)).1⟩)).2;exact⟨q,bh q rfl⟩
        |cons _ _=>cases (show false=true from h)
      | _=>cases (show false=true from h)
    | _=>cases (show false=true from h)
  | .call f es,X,e,g,h=>by
    cases e with
    | Call fn args kws pos =>
      cases fn with
      | Name x p =>
        cases kws with
        | nil =>
          have h:(T.fs[f]?==some x&&glB X.env.scope x&&ah x&&chks T es X.N X.env.scope args)=true:=h;simp only[Bool.and_eq_true,beq_iff_eq]at h;obtain⟨⟨⟨h1,h2⟩,h3⟩,h4⟩:=h;obtain⟨hs,hl⟩:=bm h4;have q:=zP (p:=p) (pos:=pos) g h1 h2 h3 (soundA es g h4) hs hl;exact⟨q,bh q rfl⟩
        |cons _ _=>cases (show false=true from h)
      | _=>cases (show false=true from h)
    | _=>cases (show false=true from h)
  | .callD _ _ _,X,e,g,h=>absurd (show false=true from h) Bool.false_ne_true
  | .join x m,X,e,g,h=>by
    obtain⟨q,e1,h⟩:=bL (show onQ (qR e) (λq=>q.1==x&&q.2.1==("join":Str)&&chk T m X.N X.env.scope q.2.2.1&&ab q.2.2.1&&q.2.2.2.1.endLine==q.2.2.2.2.line)=true from h);obtain⟨y,md,a,ap,cp⟩:=q;obtain⟨j,p,rfl⟩:=uL e1;obtain⟨a1,h5⟩:=Bool.and_eq_true_iff.mp h;obtain⟨a2,h4⟩:=Bool.and_eq_true_iff.mp a1;obtain⟨a3,h3⟩:=Bool.and_eq_true_iff.mp a2;obtain⟨h1,h2⟩:=Bool.and_eq_true_iff.mp a3;obtain rfl:y=x:=eq_of_beq h1;obtain rfl:md=("join":Str):=eq_of_beq h2;have q:PE X (.Call (.Attribute (.Constant (.str y) j p) "join" ap) [a] [] cp) (tE X.K cal (.join y m)):=zV (ak m g h3).1 h4 h5;exact⟨q,bh q rfl⟩
  | .cdat x m,X,e,g,h=>by
    obtain⟨q,e1,h⟩:=bL (show onQ (qS e) (λq=>q.1==x&&glB X.env.scope q.1&&ah q.1&&chk T m X.N X.env.scope q.2&&dz q.2&&fJ.any λt=>t.1==x)=true from h);obtain⟨y,a⟩:=q;obtain⟨p,pos,rfl⟩:=uM e1;obtain⟨a0,h6⟩:=Bool.and_eq_true_iff.mp h;obtain⟨a1,h5⟩:=Bool.and_eq_true_iff.mp a0;obtain⟨a2,h4⟩:=Bool.and_eq_true_iff.mp a1;obtain⟨a3,h3⟩:=Bool.and_eq_true_iff.mp a2;obtain⟨h1,h2⟩:=Bool.and_eq_true_iff.mp a3;obtain rfl:y=x:=eq_of_beq h1;have q:PE X (.Subscript (.Name y p) a pos) (tE X.K cal (.cdat y m)):=zW g h2 h3 h6 (ak m g h4).1 (by intro ov iv;cases a<;>first|rfl|(cases h5;done));exact⟨q,bh q rfl⟩
  | .comp2 src js cond elt,X,e,g,h=>by
    obtain⟨z,e1,h⟩:=bL (show onQ (mO e) (λq=>fB X.env.scope X.N q.2.2.2.1 q.2.2.2.2.1 q.2.2.2.2.2 (aF X.N js) js&&dg X.env.scope true (λxs=>chks T src X.N X.env.scope xs) sk2 q.2.1&&gj (λc=>chk T cond (q.2.2.2.2.1::([q.2.2.2.2.2]++aF X.N js)) (dO q.2.2.2.1 X.env.scope) c) cond q.2.2.1&&chk T elt (q.2.2.2.2.1::([q.2.2.2.2.2]++aF X.N js)) (dO q.2.2.2.1 X.env.scope) q.1&&!al elt)=true from h);obtain⟨px,py,j,tp,pos,rfl⟩:=sw e1;obtain⟨a1,h5⟩:=Bool.and_eq_true_iff.mp h;obtain⟨a2,h4⟩:=Bool.and_eq_true_iff.mp a1;obtain⟨a3,h3⟩:=Bool.and_eq_true_iff.mp a2;obtain⟨h1,h2⟩:=Bool.and_eq_true_iff.mp a3;have h5:al elt=false:=by simpa using h5
    have hw:=jc (tg:=.Tuple [.Name z.2.2.2.2.1 px,.Name z.2.2.2.2.2 py] j tp) (λ_=>⟨_,_,_,rfl⟩) g h2 (λxs hxs=>⟨sounds src g hxs,bm hxs⟩) (λm x hm hx=>match src,hm with|[m'],rfl=>(ak m' g (by simp only[chks,Bool.and_eq_true]at hx;exact hx.1.1)).1);have q:=d3 sJ (xt (pos:=pos) g h1 (λs₁ H₁ C fp=>zY g h1) hw.1 hw.2 (λs₁ H₁ C fp=>jb h3 λc hc=>(ak cond (g.blk z.2.2.2.2.1 ([z.2.2.2.2.2]++aF X.N js) z.2.2.2.1 s₁ H₁ C fp) hc).2) (λs₁ H₁ C fp=>(ak elt (g.blk z.2.2.2.2.1 ([z.2.2.2.2.2]++aF X.N js) z.2.2.2.1 s₁ H₁ C fp) h4).1) h5);exact⟨q,bh q rfl⟩
  | .lenP i,X,e,g,h=>by
    have h:(match qT e with|some (x,y)=>x==("len":Str)&&glB X.env.scope x&&aG X.N X.env.scope i y|none=>false)=true:=h;split at h
    · rename_i x y hl
      obtain⟨p,yp,pos,rfl⟩:=wW hl;obtain⟨h5,h3⟩:=(iff_of_eq (Bool.and_eq_true _ _)).mp h;obtain⟨h4,h2⟩:=(iff_of_eq (Bool.and_eq_true _ _)).mp h5;have hx:x=("len":Str):=eq_of_beq h4;subst hx;have q:PE X (.Call (.Name ("len":Str) p) [.Name y yp] [] pos) (tE X.K cal (.lenP i)):=zX g h2 h3;exact⟨q,bh q rfl⟩
    · cases h
  | .dIn _ _ _,X,e,g,h=>absurd (show false=true from h) Bool.false_ne_true
  | .dat _ _,X,e,g,h=>absurd (show false=true from h) Bool.false_ne_true
  | .dget _ _ _,X,e,g,h=>absurd (show false=true from h) Bool.false_ne_true
  | .comp k' src js cond elt,X,e,g,h=>by
    cases e with
    | ListComp e gens scope pos =>
      match gens,h with
      | [],h=>cases (show false=true from h)
      | ⟨tg,it,ifs,as⟩::[],h =>
        cases tg with
        | Name x px =>
          by_cases has:as=0
          · subst has
            have h:(bW X.env.scope X.N scope x (aF X.N js) js&&dg X.env.scope false (λxs=>chks T src X.N X.env.scope xs) k' it&&gj (λc=>chk T cond (x::aF X.N js) (dO scope X.env.scope) c) cond ifs&&chk T elt (x::aF X.N js) (dO scope X.env.scope) e&&!al elt)=true:=h;simp only[Bool.and_eq_true,Bool.not_eq_true']at h;obtain⟨⟨⟨⟨h1,h2⟩,h3⟩,h4⟩,h5⟩:=h;have hw:=jc (tg:=.Name x px) (λz=>by cases z) g h2 (λxs hxs=>⟨sounds src g hxs,bm hxs⟩) (λm x hm hx=>match src,hm with|[m'],rfl=>(ak m' g (by simp only[chks,Bool.and_eq_true]at hx;exact hx.1.1)).1);have q:=d3 oE (qb (pos:=pos) g h1 hw.1 hw.2 (λs₁ H₁ C fp=>jb h3 λc hc=>(ak cond (g.blk x (aF X.N js) scope s₁ H₁ C fp) hc).2) (λs₁ H₁ C fp=>(ak elt (g.blk x (aF X.N js) scope s₁ H₁ C fp) h4).1) h5);exact⟨q,bh q rfl⟩
          · exact absurd h (by
              have:chk T (.comp k' src js cond elt) X.N X.env.scope (.ListComp e [⟨.Name x px,it,ifs,as⟩] scope pos)=false:=by
                rw[aS];split<;>first|rfl|(rename_i z;simp_all)
              rw[this];exact Bool.false_ne_true)
        | _=>cases (show false=true from h)
      | _::_::_,h=>simp[aS]at h
    | _=>cases (show false=true from h)
theorem sounds{T:Tab}{k:Nat}{cal:Cal}:∀(ms:List ME) {X:Cx}{es:List Expr},Gf X T k cal->chks T ms X.N X.env.scope es=true->PA X es (tEs X.K cal ms)
 | [],X,es,g,h=>by
  cases es with
  |nil=>exact xu
  |cons _ _=>simp[chks]at h
 | m::ms,X,es,g,h=>by
  cases es with
  |nil=>simp[chks]at h
  |cons e es =>
   simp only[chks,Bool.and_eq_true]at h;exact uW (ak m g h.1.1).1 (sounds ms g h.2) h.1.2
theorem soundA{T:Tab}{k:Nat}{cal:Cal}:∀(ms:List ME) {X:Cx}{es:List Expr},Gf X T k cal->chks T ms X.N X.env.scope es=true->PA X es (tAs X.K cal ms)
 | [],X,es,g,h=>by
  cases es with
  |nil=>exact uX
  |cons _ _=>simp[chks]at h
 | m::ms,X,es,g,h=>by
  cases es with
  |nil=>simp[chks]at h
  | cons e es =>
   simp only[chks,Bool.and_eq_true]at h;have hs:=soundA ms g h.2;cases hb:al m with
   |false=>exact sI hb (ak m g h.1.1).1 hs h.1.2
   |true =>
    cases m<;>simp[al]at hb
    have h1:=h.1.1;cases e<;>simp only[cg,bM,ci,bt,bT,cj,cm,cn,dA,cq,cu,be,cw,cx,cy,bf,cz,bu,aS,Bool.false_eq_true]at h1
    exact uZ h1 hs
end
theorem zZ {T:Tab}{k:Nat}{cal:Cal}{me:ME}{X:Cx}{e:Expr} (g:Gf X T k cal) (h:chk T me X.N X.env.scope e=true) (hf:bN me=true):PE X e (tF X.K cal me):=by
 cases me with
 |lst es =>
  cases e<;>simp only[cg,bM,ci,bt,bT,cj,cm,cn,dA,cq,cu,be,cw,cx,cy,bf,cz,bu,aS,Bool.false_eq_true,Bool.and_eq_true]at h
  exact yo (sounds es g h.1) h.2
 | blt b es =>
  cases e with
  | Call fn args kws pos =>
   cases fn with
   | Name x p =>
    cases kws with
    |nil =>
     have h:(x==(lS b:Str)&&glB X.env.scope x&&cM X.env.scope (λxs=>chks T es X.N X.env.scope xs) es.length b args)=true:=h;simp only[Bool.and_eq_true,beq_iff_eq]at h;obtain⟨⟨hx,hg⟩,ha⟩:=h;exact(oF (p:=p) (pos:=pos) g hx hg ha (λxs hxs=>⟨sounds es g hxs,bm hxs⟩) (λm x hm hx=>match es,hm with|[m'],rfl=>(ak m' g (by simp only[chks,Bool.and_eq_true]at hx;exact hx.1.1)).1) (λa b x x' hm hx=>match es,hm with|[m1,m2],rfl=>⟨(ak m1 g (by simp only[chks,Bool.and_eq_true]at hx;exact hx.1.1)).1,(ak m2 g (by simp only[chks,Bool.and_eq_true]at hx;exact hx.2.1.1)).1⟩)).1 hf
    |cons _ _=>cases (show false=true from h)
   | _=>cases (show false=true from h)
  | _=>cases (show false=true from h)
 | comp k' src js cond elt =>
  cases e with
  | ListComp e gens scope pos =>
   match gens,h with
   | [],h=>cases (show false=true from h)
   | ⟨tg,it,ifs,as⟩::[],h =>
    cases tg with
    | Name x px =>
     by_cases has:as=0
     ·subst has;have h:(bW X.env.scope X.N scope x (aF X.N js) js&&dg X.env.scope false (λxs=>chks T src X.N X.env.scope xs) k' it&&gj (λc=>chk T cond (x::aF X.N js) (dO scope X.env.scope) c) cond ifs&&chk T elt (x::aF X.N js) (dO scope X.env.scope) e&&!al elt)=true:=h;simp only[Bool.and_eq_true,Bool.not_eq_true']at h;obtain⟨⟨⟨⟨h1,h2⟩,h3⟩,h4⟩,h5⟩:=h;have hw:=jc (tg:=.Name x px) (λz=>by cases z) g h2 (λxs hxs=>⟨sounds src g hxs,bm hxs⟩) (λm x hm hx=>match src,hm with|[m'],rfl=>(ak m' g (by simp only[chks,Bool.and_eq_true]at hx;exact hx.1.1)).1);exact qb (pos:=pos) g h1 hw.1 hw.2 (λs₁ H₁ C fp=>jb h3 λc hc=>(ak cond (g.blk x (aF X.N js) scope s₁ H₁ C fp) hc).2) (λs₁ H₁ C fp=>(ak elt (g.blk x (aF X.N js) scope s₁ H₁ C fp) h4).1) h5
     ·exact absurd h (by
       have:chk T (.comp k' src js cond elt) X.N X.env.scope (.ListComp e [⟨.Name x px,it,ifs,as⟩] scope pos)=false:=by
        rw[aS];split<;>first|rfl|(rename_i z;simp_all)
       rw[this];exact Bool.false_ne_true)
    | _=>cases (show false=true from h)
   | _::_::_,h=>simp[aS]at h
  | _=>cases (show false=true from h)
 | _=>simp[bN]at hf
theorem z9{T:Tab}{k:Nat}{cal:Cal}{me:ME}{X:Cx}{e:Expr}(g:Gf X T k cal)(h:chk T me X.N X.env.scope e=true)(hf:zw me=true):PE X e (tF X.K cal me):=by
 cases me with
 | bin op a b =>
  cases op with
  |add =>
   cases e<;>simp only[bT,Bool.false_eq_true,Bool.and_eq_true,beq_iff_eq]at h
   obtain⟨⟨h1,h2⟩,h3⟩:=h;subst h1;exact BZ (ak a g h2).1 (ak b g h3).1
  | _=>cases hf
 | _=>cases hf
noncomputable def B_:MV->Bool
 | .brw _=>true
 | .brwD _=>true
 | _=>false
theorem ri{m:MV}(h1:gh m=true)(h2:B_ m=true):False:=by cases m<;>first|(cases h2;done)|(cases h1;done)
structure a_(B:Hp)(O O':List Addr)(ρ ρ':Rho)(σ σ':St):Prop where
 stay:∀a,B a≠none->a∈O->a∈O'
 new:∀a∈O',a∈O\/B a=none
 brw:∀(i:Nat) (m:MV),B_ m=true->ρ'[i]?=some (some m)->ρ[i]?=some (some m)/\σ'[i]?=σ[i]?
 len:ρ'.length=ρ.length
 mutK:∀(i:Nat) (d':DD),ρ'[i]?=some (some (.mutD d'))->(∃d,ρ[i]?=some (some (.mutD d)))/\σ'[i]?=σ[i]?
theorem a_.refl{B:Hp}{O:List Addr}{ρ:Rho}{σ:St}:a_ B O O ρ ρ σ σ:=⟨λ_ _ h=>h,λ_ h=>.inl h,λ_ _ _ h=>⟨h,rfl⟩,rfl,λ_ d' h=>⟨⟨d',h⟩,rfl⟩⟩
theorem a_.trans{B:Hp}{O Z O2:List Addr}{ρ q z:Rho}{σ D J:St}(a:a_ B O Z ρ q σ D)(b:a_ B Z O2 q z D J):a_ B O O2 ρ z σ J where
 stay:=λx h1 h2=>b.stay x h1 (a.stay x h1 h2)
 new:=λx h=>(b.new x h).elim (a.new x) .inr
 brw:=λi xs hm h=>by
  obtain⟨h1,U⟩:=b.brw i xs hm h;obtain⟨h2,Y⟩:=a.brw i xs hm h1;exact⟨h2,U.trans Y⟩
 len:=b.len.trans a.len
 mutK:=λi d' h=>by
  obtain⟨⟨d1,h1⟩,U⟩:=b.mutK i d' h;obtain⟨h2,Y⟩:=a.mutK i d1 h1;exact⟨h2,U.trans Y⟩
noncomputable def fE(K:PySem.W.Frag)(B:Hp)(O₀ O:List Addr)(ρ:Rho)(σ:St)(D:iR):R->Prop
 | .next ρ'=>∀σ' H' q,aw K B O₀ q H' ρ' σ'->a_ B O q ρ ρ' σ σ'->D.nx σ' H'
 | .brk ρ'=>∀σ' H' q,aw K B O₀ q H' ρ' σ'->a_ B O q ρ ρ' σ σ'->D.bk σ' H'
 | .cont ρ'=>∀σ' H' q,aw K B O₀ q H' ρ' σ'->a_ B O q ρ ρ' σ σ'->D.ct σ' H'
 | .ret v=>∀u H',ae B H'->Rep K (aj H' O₀) v u->D.rt u H'
 | .retM v ρ'=>∀u σ' H' q,aw K B O₀ q H' ρ' σ'->a_ B O q ρ ρ' σ σ'->Rep K (aj H' q) v u->D.rt u H'
 | .retF xs=>∀p us H',ae B H'->B p=none->H' p=some (.lst us)->Reps K (aj H' (p::O₀)) xs us->D.rt (.ref p) H'
 | .bad=>False
theorem fE.trans{K:PySem.W.Frag}{B:Hp}{O₀ O Y:List Addr}{ρ ρ':Rho}{σ σ':St}{D:iR}{r:R}(h:fE K B O₀ O ρ σ D r)(k:a_ B O Y ρ ρ' σ σ'):fE K B O₀ Y ρ' σ' D r:=by
 cases r with
 |next z=>exact λq H2 J st U=>h q H2 J st (k.trans U)
 |brk z=>exact λq H2 J st U=>h q H2 J st (k.trans U)
 |cont z=>exact λq H2 J st U=>h q H2 J st (k.trans U)
 |ret v=>exact h
 |bad=>exact h
 |retF xs=>exact h
 |retM v z=>exact λu q H2 J st U=>h u q H2 J st (k.trans U)
noncomputable def tS(K:PySem.W.Frag)(cal:Cal)(m:MS):TS:=λD σ H=>∃B O₀ O ρ,aw K B O₀ O H ρ σ/\fE K B O₀ O ρ σ D (ex cal m ρ)
noncomputable def tSs(K:PySem.W.Frag)(cal:Cal)(ms:List MS):TS:=λD σ H=>∃B O₀ O ρ,aw K B O₀ O H ρ σ/\fE K B O₀ O ρ σ D (exs cal ms ρ)
section
variable{K:PySem.W.Frag}{B H H':Hp}{O₀ O:List Addr}{ρ:Rho}{σ:St}
theorem ag{i:Nat}{m:MV}(h:i<ρ.length):(put ρ i m)[i]?=some (some m):=by unfold put;exact getElem?_set_self h
theorem ac{i j:Nat}{m:MV}(h:i≠j):(put ρ i m)[j]?=ρ[j]?:=by unfold put;exact getElem?_set_ne h
theorem cZ{i:Nat}{m:MV}:(put ρ i m).length=ρ.length:=by unfold put;exact length_set
theorem aw.store(st:aw K B O₀ O H ρ σ){i:Nat}{v:PV}{u:V}(hi:i<σ.length)(r:Rep K (aj H O) v u):aw K B O₀ O H (put ρ i (.val v)) (σ.set i (some u))/\a_ B O O ρ (put ρ i (.val v)) σ (σ.set i (some u)):=by
 have D:i<ρ.length:=by rw[st.len];exact hi
 refine⟨⟨st.keep,st.here,st.sub,st.old,by rw[cZ,length_set];exact st.len,λj m e=>?_,λa b xs ys ad Z U Y o1 o2 e3 e4=>?_
  ⟩,⟨λ_ _ h=>h,λ_ h=>.inl h,λj xs ao e=>?_,cZ
  ,λj d' e=>?_
  ⟩⟩
 ·by_cases J:i=j
  ·subst J;rw[ag D]at e;cases e;exact⟨u,getElem?_set_self hi,r⟩
  ·rw[ac J]at e;obtain⟨w,U,q⟩:=st.slot j m e;exact⟨w,by rw[getElem?_set_ne J];exact U,q⟩
 ·have h1:i≠a:=λz=>by subst z;rw[ag D]at U;cases U;cases o1
  have h2:i≠b:=λz=>by subst z;rw[ag D]at Y;cases Y;cases o2
  rw[ac h1]at U;rw[ac h2]at Y;rw[getElem?_set_ne h1]at e3;rw[getElem?_set_ne h2]at e4;exact st.apart a b xs ys ad Z U Y o1 o2 e3 e4
 ·have J:i≠j:=λz=>by subst z;rw[ag D]at e;cases e;cases ao
  rw[ac J]at e;exact⟨e,getElem?_set_ne J⟩
 ·have J:i≠j:=λz=>by subst z;rw[ag D]at e;cases e
  rw[ac J]at e;exact⟨⟨d',e⟩,getElem?_set_ne J⟩
theorem aw.storeM(st:aw K B O₀ O H ρ σ){i:Nat}{mm:MV}{p:Addr}(hi:i<σ.length)(s:ae H H')(hp:H p=none)(e:H' p≠none)(hm:gh mm=true)
  (a5:∀d,mm≠.mutD d)
  (r:B p=none->ez K B (p::O) H' mm (.ref p))
  :
  aw K B O₀ (p::O) H' (put ρ i mm) (σ.set i (some (.ref p)))/\a_ B O (p::O) ρ (put ρ i mm) σ (σ.set i (some (.ref p))):=by
 have aO:i<ρ.length:=by rw[st.len];exact hi
 have a3:B p=none:=st.keep.free hp;have Y:ae (aj H O) (aj H' (p::O)):=bj s λb Z=>by
  rcases mem_cons.mp Z with rfl|Z
  ·exact .inr hp
  ·exact .inl Z
 refine⟨⟨st.keep.trans s,λa J=>?_,λa J=>mem_cons_of_mem _ (st.sub a J),st.old,by rw[cZ,length_set];exact st.len,λj m U=>?_,λa b xs ys ad a4 e1 D o1 o2 e3 e4=>?_
  ⟩,⟨λ_ _ h=>mem_cons_of_mem _ h,λa J=>?_,λj xs a6 U=>?_,cZ
  ,λj d' U=>?_
  ⟩⟩
 ·rcases mem_cons.mp J with rfl|J
  ·exact e
  ·exact λz=>st.here a J (s.free z)
 ·by_cases hj:i=j
  ·subst hj;rw[ag aO]at U;cases U;exact⟨_,getElem?_set_self hi,r a3⟩
  ·rw[ac hj]at U;obtain⟨w,e1,q⟩:=st.slot j m U;refine⟨w,by rw[getElem?_set_ne hj];exact e1,?_⟩;cases m with
   |val v=>exact Rep.mono Y _ q
   |own ys=>obtain⟨a,ws,D,h1,h2,h3,h4⟩:=q;exact⟨a,ws,D,s _ _ h1,Reps.mono Y _ h2,mem_cons_of_mem _ h3,h4⟩
   |brw ys=>obtain⟨a,ws,D,h1,h2⟩:=q;exact⟨a,ws,D,h1,Reps.mono Y _ h2⟩
   |ownD ys=>obtain⟨a,D,h1,h3,h4⟩:=q;exact⟨a,D,h1.move (s _) Y,mem_cons_of_mem _ h3,h4⟩
   |mutD ys=>obtain⟨a,D,h1,h3,h4⟩:=q;exact⟨a,D,h1.move (s _) Y,mem_cons_of_mem _ h3,h4⟩
   |brwD ys=>exact q
 ·have other:∀(j:Nat) (zs:MV) (ad:Addr),ρ[j]?=some (some zs)->gh zs=true->σ[j]?=some (some (.ref ad))->ad≠p:=λj zs ad h1 ho h2 z=>by
   obtain⟨w,e1,q⟩:=st.slot j _ h1;rw[h2]at e1;cases e1;cases zs with
   |own zs =>
    obtain⟨a,ws,D,h1,_⟩:=q;cases D;rw[z,hp]at h1;cases h1
   |ownD zs =>
    obtain⟨a,D,h1,_⟩:=q;cases D;obtain⟨o,h1⟩:=h1.here;rw[z,hp]at h1;cases h1
   |mutD zs =>
    obtain⟨a,D,h1,_⟩:=q;cases D;obtain⟨o,h1⟩:=h1.here;rw[z,hp]at h1;cases h1
   |val _=>cases ho
   |brw _=>cases ho
   |brwD _=>cases ho
  by_cases J:i=a
  ·subst J;have Z:i≠b:=a4;rw[getElem?_set_self hi]at e3;rw[ac Z]at D;rw[getElem?_set_ne Z]at e4;cases e3;exact other b ys _ D o2 e4 rfl
  ·by_cases Z:i=b
   ·subst Z;rw[getElem?_set_self hi]at e4;rw[ac J]at e1;rw[getElem?_set_ne J]at e3;cases e4;exact other a xs _ e1 o1 e3 rfl
   ·rw[ac J]at e1;rw[ac Z]at D;rw[getElem?_set_ne J]at e3;rw[getElem?_set_ne Z]at e4;exact st.apart a b _ _ ad a4 e1 D o1 o2 e3 e4
 ·rcases mem_cons.mp J with rfl|J
  ·exact .inr a3
  ·exact .inl J
 ·have hj:i≠j:=λz=>by subst z;rw[ag aO]at U;cases U;exact ri hm a6
  rw[ac hj]at U;exact⟨U,getElem?_set_ne hj⟩
 ·have hj:i≠j:=λz=>by subst z;rw[ag aO]at U;cases U;exact a5 d' rfl
  rw[ac hj]at U;exact⟨⟨d',U⟩,getElem?_set_ne hj⟩
theorem aw.storeOwn(st:aw K B O₀ O H ρ σ){i:Nat}{xs:List PV}{p:Addr}{us:List V}(hi:i<σ.length)(s:ae H H')(q:H p=none)(e:H' p=some (.lst us))(r:Reps K (aj H' (p::O)) xs us) :
  aw K B O₀ (p::O) H' (put ρ i (.own xs)) (σ.set i (some (.ref p)))/\a_ B O (p::O) ρ (put ρ i (.own xs)) σ (σ.set i (some (.ref p))):=
 st.storeM hi s q (by rw[e];simp) rfl (λ_ z=>by cases z) λD=>⟨p,us,rfl,e,r,mem_cons_self,D⟩
theorem aw.changeM(st:aw K B O₀ O H ρ σ){i:Nat}{m0 m1:MV}{a:Addr}{ob:HO}(e:ρ[i]?=some (some m0))(o0:gh m0=true)(o1:gh m1=true)
  (om:∀d',m1=.mutD d'->∃d,m0=.mutD d)
  (es:σ[i]?=some (some (.ref a))) (h3:a∈O) (h4:B a=none) (r:aj (upd H a ob) O=aj H O->ez K B O (upd H a ob) m1 (.ref a))
  :
  aw K B O₀ O (upd H a ob) (put ρ i m1) σ/\a_ B O O ρ (put ρ i m1) σ σ:=by
 have Z:i<ρ.length:=(List.getElem?_eq_some_iff.mp e).1;have U:aj (upd H a ob) O=aj H O:=eG h3;have other:∀(j:Nat) (zs:MV) (ad:Addr),i≠j->ρ[j]?=some (some zs)->gh zs=true->σ[j]?=some (some (.ref ad))->ad≠a:=λj zs ad J Y o2 q2 z=>by
  subst z;exact st.apart i j m0 zs ad J e Y o0 o2 es q2
 refine⟨⟨λb u eb=>?_,λb hb=>?_,st.sub,st.old,by rw[cZ];exact st.len,λj m D=>?_,λc d ps qs ad a4 e1 e2 p1 p2 e3 e4=>?_
  ⟩,⟨λ_ _ h=>h,λ_ h=>.inl h,λj zs a7 D=>?_,cZ
  ,λj d' D=>?_
  ⟩⟩
 ·rw[az (bb eb h4)];exact st.keep b u eb
 ·unfold upd;split
  ·simp
  ·exact st.here b hb
 ·by_cases J:i=j
  ·subst J;rw[ag Z]at D;cases D;exact⟨_,es,r U⟩
  ·rw[ac J]at D;obtain⟨w,ew,q⟩:=st.slot j m D;refine⟨w,ew,?_⟩;cases m with
   |val v=>show Rep K (aj (upd H a ob) O) v w;rw[U];exact q
   |own zs =>
    obtain⟨ad,ws,rfl,Y,q2,q3,q4⟩:=q;refine⟨ad,ws,rfl,?_,by rw[U];exact q2,q3,q4⟩;rw[az (other j (.own zs) ad J D rfl ew)];exact Y
   |ownD zs =>
    obtain⟨ad,rfl,Y,q3,q4⟩:=q;refine⟨ad,rfl,Y.move (λo eo=>?_) (by rw[U];exact ae.refl _),q3,q4⟩;rw[az (other j (.ownD zs) ad J D rfl ew)];exact eo
   |mutD zs =>
    obtain⟨ad,rfl,Y,q3,q4⟩:=q;refine⟨ad,rfl,Y.move (λo eo=>?_) (by rw[U];exact ae.refl _),q3,q4⟩;rw[az (other j (.mutD zs) ad J D rfl ew)];exact eo
   |brwD zs=>exact q
   |brw zs=>obtain⟨ad,ws,rfl,Y,q2⟩:=q;exact⟨ad,ws,rfl,Y,by rw[U];exact q2⟩
 ·have h1:∀(j:Nat) (zs:MV),(put ρ i m1)[j]?=some (some zs)->gh zs=true->∃zs,ρ[j]?=some (some zs)/\gh zs=true:=λj zs q oz=>by
   by_cases J:i=j
   ·subst J;exact⟨m0,e,o0⟩
   ·rw[ac J]at q;exact⟨zs,q,oz⟩
  obtain⟨Y,e1,p1⟩:=h1 c ps e1 p1;obtain⟨q2,e2,p2⟩:=h1 d qs e2 p2;exact st.apart c d Y q2 ad a4 e1 e2 p1 p2 e3 e4
 ·have J:i≠j:=λz=>by subst z;rw[ag Z]at D;cases D;exact ri o1 a7
  rw[ac J]at D;exact⟨D,rfl⟩
 ·by_cases J:i=j
  ·subst J;rw[ag Z]at D;cases D;obtain⟨d,rfl⟩:=om d' rfl;exact⟨⟨d,e⟩,rfl⟩
  ·rw[ac J]at D;exact⟨⟨d',D⟩,rfl⟩
theorem aw.change(st:aw K B O₀ O H ρ σ){i:Nat}{xs ys:List PV}{a:Addr}{us:List V}(e:ρ[i]?=some (some (.own xs)))(es:σ[i]?=some (some (.ref a)))(r:Reps K (aj H O) ys us) :
  aw K B O₀ O (upd H a (.lst us)) (put ρ i (.own ys)) σ/\a_ B O O ρ (put ρ i (.own ys)) σ σ:=by
 obtain⟨w,D,Y,J,U,h1,h2,h3,h4⟩:=st.slot i _ e;rw[es]at D;cases D;cases U;exact st.changeM e rfl rfl (λ_ z=>by cases z) es h3 h4 λq=>⟨a,us,rfl,au,by rw[q];exact r,h3,h4⟩
theorem aw.changeD(st:aw K B O₀ O H ρ σ){i:Nat}{xs ys:DD}{a:Addr}{q:HO}(e:ρ[i]?=some (some (.ownD xs)))(es:σ[i]?=some (some (.ref a)))(hd:aj (upd H a q) O=aj H O->DAt K (upd H a q) O a ys) :
  aw K B O₀ O (upd H a q) (put ρ i (.ownD ys)) σ/\a_ B O O ρ (put ρ i (.ownD ys)) σ σ:=by
 obtain⟨w,J,Y,U,h1,h3,h4⟩:=st.slot i _ e;rw[es]at J;cases J;cases U;exact st.changeM e rfl rfl (λ_ z=>by cases z) es h3 h4 λD=>⟨a,rfl,hd D,h3,h4⟩
theorem aw.changeU(st:aw K B O₀ O H ρ σ){i:Nat}{xs ys:DD}{a:Addr}{q:HO}(e:ρ[i]?=some (some (.mutD xs)))(es:σ[i]?=some (some (.ref a)))(hd:aj (upd H a q) O=aj H O->DAt K (upd H a q) O a ys) :
  aw K B O₀ O (upd H a q) (put ρ i (.mutD ys)) σ/\a_ B O O ρ (put ρ i (.mutD ys)) σ σ:=by
 obtain⟨w,D,U,J,h1,h3,h4⟩:=st.slot i _ e;rw[es]at D;cases D;cases J;exact st.changeM e rfl rfl (λ_ _=>⟨_,rfl⟩) es h3 h4 λz=>⟨a,rfl,hd z,h3,h4⟩
end
section
open AutoSeq1 (wpAny_loadPart')
open MeetsSeq MeetsSeq2 MeetsSeq3 SeqRoads2 AutoSeq1
theorem mZ(l:Addr)(items:Array Value)(n:Nat)(b:Addr)(q:Array Value)(n2:Nat)(z:Option Addr)(D:Array (Option Value))(ap:¬(!items.isEmpty&&Builtin.List.listTooLong (items.size+q.size))=true)(J:items.size<=sizeLine)(U:items.size+q.size<=sizeLine+1) :
  Meets (Builtin.«list.extend» ⟨[.ref l,.ref b],[]⟩) (λ_ R s=>s.heap.get? l=some { cls:=.type "list",dict:=none,data:=.seq items n,slots:=#[] }/\s.heap.get? b=some { cls:=.type "tuple",dict:=z,data:=.seq q n2,slots:=D }/\R (.ok (.ret Value.none)) { s with heap:=s.heap.update l (Obj.mapSeq λx=>x++q),toks:=s.toks }):=
 .of_wp λprog w A R s h=>by
  obtain⟨hp,g,d,tk,os⟩:=s;obtain⟨Z,hb,h⟩:=h;have f1:=AutoSeq1.idx_int;have f2:=AutoSeq1.sub_tuple_tuple;have f3:=AutoSeq1.sub_list_list;have f4:=AutoSeq1.sub_tuple_list;have f5:=AutoSeq1.sub_list_tuple;
  have Y:(items++q).size<=sizeLine+1:=by rw[Array.size_append];exact U
  wp_walk using (wpAny_updateSeq Z rfl (hz:=J) (_hz':=Y)),wpAny_loadPart' Z,wpAny_loadPart' hb;exact⟨_,rfl,h⟩
theorem m3(l:Addr)(items:Array Value)(n:Nat)(b:Addr)(q:Array Value)(n2:Nat)(z:Option Addr)(D:Array (Option Value))(ap:¬(!items.isEmpty&&Builtin.List.listTooLong (items.size+q.size))=true)(J:items.size<=sizeLine)(U:items.size+q.size<=sizeLine+1) :
  Meets (Builtin.«list.extend» ⟨[.ref l,.ref b],[]⟩) (λ_ R s=>s.heap.get? l=some { cls:=.type "list",dict:=none,data:=.seq items n,slots:=#[] }/\s.heap.get? b=some { cls:=.type "list",dict:=z,data:=.seq q n2,slots:=D }/\R (.ok (.ret Value.none)) { s with heap:=s.heap.update l (Obj.mapSeq λx=>x++q),toks:=s.toks }):=
 .of_wp λprog w A R s h=>by
  obtain⟨hp,g,d,tk,os⟩:=s;obtain⟨Z,hb,h⟩:=h;have f1:=AutoSeq1.idx_int;have f2:=AutoSeq1.sub_tuple_tuple;have f3:=AutoSeq1.sub_list_list;have f4:=AutoSeq1.sub_tuple_list;have f5:=AutoSeq1.sub_list_tuple;
  have Y:(items++q).size<=sizeLine+1:=by rw[Array.size_append];exact U
  wp_walk using (wpAny_updateSeq Z rfl (hz:=J) (_hz':=Y)),wpAny_loadPart' Z,wpAny_loadPart' hb;exact⟨_,rfl,h⟩
end
section
variable{X:Cx}{T:Tab}{k:Nat}{cal:Cal}
theorem qe:MtM X "list.extend" (λx vs H Q=>∃l b xs zs,x=.ref l/\vs=[.ref b]/\H l=some (.lst xs)/\(SqL X.K H b zs\/SqT X.K H b zs)/\xs.length+zs.length<=sizeLine/\Q .non (upd H l (.lst (xs++zs)))):=by
 intro pins s σ H x vs v us Q I rx rv h;obtain⟨l,b,xs,zs,rfl,rfl,hH,Z,hz,q⟩:=h;cases rx;obtain⟨u,rfl,ru⟩:=rv.one;cases ru;obtain⟨z,its,n,r,hl,e⟩:=I.lstM hH;have fin:∀D:List Value,ay zs D->EP X pins σ Q .none { s with heap:=s.heap.update l (Obj.mapSeq λx=>x++D.toArray),toks:=s.toks }:=λD U =>
  ⟨.non,_,I.lset (its':=its++D) hH e (by simp) (r.append U) (by rw[length_append];omega),rfl,q⟩
 rcases Z with Z|Z
 ·obtain⟨D,U,pl,z2⟩:=I.list Z;have ao:=U.length;have Y:its.toArray.size+D.toArray.size<=sizeLine:=by rw[List.size_toArray,List.size_toArray];omega
  have J:¬ (!its.toArray.isEmpty&&Builtin.List.listTooLong (its.toArray.size+D.toArray.size))=true:=by
   rw[nI Y,Bool.and_false];exact Bool.false_ne_true
  obtain⟨⟨cls,dd,data,sl⟩,ho,hc,n2,hd⟩:=pl.isList;simp only at hc hd;subst hc hd;exact call_meets PySem.F.slot_list_extend ⟨_,e,rfl⟩ PySem.F.entry_list_extend (PySem.F.args_list_extend_2 _ _) (m3 l its.toArray n b D.toArray n2 dd sl J (by rw[List.size_toArray];omega) (by omega)) ⟨e,ho,fin D U⟩
 ·obtain⟨D,U,pl,z2⟩:=I.tuple Z;have ao:=U.length;have Y:its.toArray.size+D.toArray.size<=sizeLine:=by rw[List.size_toArray,List.size_toArray];omega
  have J:¬ (!its.toArray.isEmpty&&Builtin.List.listTooLong (its.toArray.size+D.toArray.size))=true:=by
   rw[nI Y,Bool.and_false];exact Bool.false_ne_true
  obtain⟨⟨cls,dd,data,sl⟩,ho,hc,n2,hd⟩:=pl;simp only at hc hd;subst hc hd;exact call_meets PySem.F.slot_list_extend ⟨_,e,rfl⟩ PySem.F.entry_list_extend (PySem.F.args_list_extend_2 _ _) (mZ l its.toArray n b D.toArray n2 dd sl J (by rw[List.size_toArray];omega) (by omega)) ⟨e,ho,fin D U⟩
structure Df(X:Cx):Prop where
 nd:X.N.Nodup
 fn:∀x,X.fn x=true
 own:PassesOwn (model X.prog X.w) X.A X.env X.xe
 blk:(X.env.blockKind==.function)=true
theorem eH{v:Expr}(h:cD v=true)(t:Option Expr)(n:Nat)(env:Env):swapsWith v t n env=pure false:=by
 cases v<;>first|rfl|(simp[cD]at h)
theorem sK{v:Expr}{x:Str}{px:Pos}{n:Nat}(d:Df X)(h:qU X.env.scope x px v=true):swapsWith v (some (.Name x px)) n X.env=pure true:=by
 cases v with
 |ListComp e gs s p =>
  show pure (X.env.blockKind==.function&&X.env.kindOf x==some .local&&px.line==p.line&&!(s.names.any λ(n,k)=>n==x&&(k==.local || k==.cell)))=pure true;have h':(X.env.scope.names.lookup x==some .local&&px.line==p.line&&!(s.names.any λ(n,k)=>n==x&&(k==.local || k==.cell)))=true:=h;rw[d.blk,Bool.true_and];exact congrArg pure h'
 | _=>simp[qU]at h
theorem PS.imp'{e:Stmt}{t t':TS}(h:PS X e t)(i:∀D σ H,σ.length=X.N.length->t' D σ H->t D σ H):PS X e t':=λpins s σ H D I q=>h pins s σ H D I (i D σ H I.len q)
theorem ltN{N:List Str}{i:Nat}{x:Str}{σ:St}(h:N[i]?=some x)(q:σ.length=N.length):i<σ.length:=by rw[q];exact(List.getElem?_eq_some_iff.mp h).1
theorem d6{K:PySem.W.Frag}{B:Hp}{O₀ O:List Addr}{ρ:Rho}{σ:St}{D:iR}{o:Option PV}{f:PV->R}(h:fE K B O₀ O ρ σ D (dM o f)):∃v,o=some v/\fE K B O₀ O ρ σ D (f v):=by
 cases o with
 |none=>exact(show False from h).elim
 |some v=>exact⟨v,rfl,h⟩
theorem sL{K:PySem.W.Frag}{B:Hp}{O₀ O:List Addr}{ρ:Rho}{σ:St}{D:iR}{o:Option Bool}{f:Bool->R}(h:fE K B O₀ O ρ σ D (uJ o f)):∃v,o=some v/\fE K B O₀ O ρ σ D (f v):=by
 cases o with
 |none=>exact(show False from h).elim
 |some v=>exact⟨v,rfl,h⟩
theorem u6{i:Nat}{z:ME}{σ:St}{H:Hp}{D:iR}{K:PySem.W.Frag}(hi:i<σ.length)(U:al z=false)(q:tS K cal (.set i z) D σ H):tI (tE K cal z) (fo i) D σ H:=by
 obtain⟨B,O₀,O,ρ,st,q⟩:=q;rw[ex]at q;obtain⟨w,e,q⟩:=d6 q;refine⟨B,O₀,O,ρ,w,st,e,λu H' s g=>?_⟩;obtain⟨J,Y⟩:=(st.mono s).store hi (g.2 U);exact q _ H' O J Y
theorem Ca{i:Nat}{z:ME}{x:Str}{v:Expr}{px pos:Pos}(d:Df X)(hi:X.N[i]?=some x)(hx:Loc X.env.scope x)(h:PE X v (tE X.K cal z))(J:al z=false)(hc:cD v=true):PS X (.Assign [.Name x px] v pos) (tS X.K cal (.set i z)):=
 PS.imp' (jT d.nd hi hx h (eH hc _ _ _) (.inl (d.fn x))) λD σ H U q=>u6 (ltN hi U) J q
theorem u7{i:Nat}{J:ME}{σ:St}{H:Hp}{D:iR}{K:PySem.W.Frag}(hi:i<σ.length)(q:tS K cal (.setOwn i J) D σ H):tI (tF K cal J) (fo i) D σ H:=by
 obtain⟨B,O₀,O,ρ,st,q⟩:=q;rw[ex]at q;obtain⟨w,e,q⟩:=d6 q;cases w with
 |lst xs =>
  refine⟨B,O₀,O,ρ,xs,st,e,λp us H' s U Y r=>?_⟩;obtain⟨z,Z⟩:=st.storeOwn hi s U Y r;exact q _ H' _ z Z
 | _=>exact(show False from q).elim
theorem yq{i:Nat}{z:ME}{x:Str}{v:Expr}{px pos:Pos}(d:Df X)(hi:X.N[i]?=some x)(hx:Loc X.env.scope x)(h:PE X v (tF X.K cal z))(hc:cD v=true):PS X (.Assign [.Name x px] v pos) (tS X.K cal (.setOwn i z)):=
 PS.imp' (jT d.nd hi hx h (eH hc _ _ _) (.inl (d.fn x))) λD σ H J q=>u7 (ltN hi J) q
theorem u8{i:Nat}{me:ME}{x:Str}{v:Expr}{p apos cpos pos:Pos}(h:PE X v (tE X.K cal me))(hn:aG X.N X.env.scope i x=true)(hb:al me=false)(hs:ab v=true)(hline:(apos.endLine==cpos.line)=true) :
  PS X (.Expr (.Call (.Attribute (.Name x p) "append" apos) [v] [] cpos) pos) (tS X.K cal (.append i me)):=by
 refine(mn (nH PySem.F.plainAttrs_list PySem.F.slot_list_append PySem.F.type_list_append iV (bP hn) (aI h bD (aQ hs _ _)) rfl (by rw[aQ hs];rfl) hline (aQ hs _ _) rfl) rfl).imp λD σ H q=>?_
 obtain⟨B,O₀,O,ρ,st,q⟩:=q;rw[ex]at q;obtain⟨w,e,q⟩:=d6 q;cases hj:(ρ[i]?).join with
 |none=>rw[hj]at q;exact(show False from q).elim
 | some m =>
  rw[hj]at q;cases m with
  | own xs =>
   dsimp only at q;split at q
   ·rename_i hl;obtain⟨u,eu,a,us,rfl,ha,rs,hO,hB⟩:=aK st hj;refine⟨_,eu,.inl ⟨rfl,us,SqL.of ha⟩,B,O₀,O,ρ,w,st,e,λu H1 s g=>⟨a,us,u,rfl,rfl,s _ _ ha,?_,?_⟩⟩
    ·rw[<- rs.length];exact Nat.lt_of_lt_of_le hl (by decide)
    ·obtain⟨st',k'⟩:=(st.mono s).change (us:=us ++ [u]) (ys:=xs ++ [w]) (ax hj) eu ((Reps.mono (af s) _ rs).snoc (g.2 hb));exact q _ _ _ st' k'
   ·exact(show False from q).elim
  |val _=>exact(show False from q).elim
  |brw _=>exact(show False from q).elim
  |ownD _=>exact(show False from q).elim
  |mutD _=>exact(show False from q).elim
  |brwD _=>exact(show False from q).elim
theorem u9{i:Nat}{me:ME}{x:Str}{v:Expr}{p apos cpos pos:Pos}(h:PE X v (tE X.K cal me))(hn:aG X.N X.env.scope i x=true)(hs:ab v=true)(hline:(apos.endLine==cpos.line)=true) :
  PS X (.Expr (.Call (.Attribute (.Name x p) "extend" apos) [v] [] cpos) pos) (tS X.K cal (.extend i me)):=by
 refine(mn (nH PySem.F.plainAttrs_list PySem.F.slot_list_extend PySem.F.type_list_extend qe (bP hn) (aI h bD (aQ hs _ _)) rfl (by rw[aQ hs];rfl) hline (aQ hs _ _) rfl) rfl).imp λD σ H q=>?_
 obtain⟨B,O₀,O,ρ,st,q⟩:=q;rw[ex]at q;obtain⟨w,e,q⟩:=d6 q;cases hj:(ρ[i]?).join with
 |none=>rw[hj]at q;exact(show False from q).elim
 | some m =>
  rw[hj]at q;cases m with
  | own xs =>
   cases hw:bE w with
   |none=>rw[hw]at q;exact(show False from q).elim
   | some ys =>
    rw[hw]at q;dsimp only at q;split at q
    ·rename_i hl;obtain⟨u,eu,a,us,rfl,ha,rs,hO,hB⟩:=aK st hj;refine⟨_,eu,.inl ⟨rfl,us,SqL.of ha⟩,B,O₀,O,ρ,w,st,e,λu H1 s g=>?_⟩;obtain⟨b,ws,rfl,sq,rw'⟩:=g.1.seq hw;refine⟨a,b,us,ws,rfl,rfl,s _ _ ha,sq,?_,?_⟩
     ·rw[<- rs.length,<- rw'.length];exact cF hl
     ·obtain⟨st',k'⟩:=(st.mono s).change (us:=us++ws) (ys:=xs++ys) (ax hj) eu ((Reps.mono (af s) _ rs).append rw');exact q _ _ _ st' k'
    ·exact(show False from q).elim
  |val _=>exact(show False from q).elim
  |brw _=>exact(show False from q).elim
  |ownD _=>exact(show False from q).elim
  |mutD _=>exact(show False from q).elim
  |brwD _=>exact(show False from q).elim
theorem Cb{z:ME}{v:Expr}{pos:Pos}(h:PE X v (tE X.K cal z))(J:al z=false):PS X (.Return (some v) pos) (tS X.K cal (.ret z)):=by
 refine(iS h).imp λD σ H q=>?_
 obtain⟨B,O₀,O,ρ,st,q⟩:=q;rw[ex]at q;obtain⟨w,e,q⟩:=d6 q;exact⟨B,O₀,O,ρ,w,st,e,λu H' s g=>q u H' (st.keep.trans s) (Rep.mono (bj (ae.refl H') λb J=>.inl (st.sub b J)) _ (g.2 J))⟩
theorem z_{z:ME}{v:Expr}{pos:Pos}(h:PE X v (tE X.K cal z))(J:al z=false):PS X (.Return (some v) pos) (tS X.K cal (.retM z)):=by
 refine(iS h).imp λD σ H q=>?_
 obtain⟨B,O₀,O,ρ,st,q⟩:=q;rw[ex]at q;obtain⟨w,e,q⟩:=d6 q;exact⟨B,O₀,O,ρ,w,st,e,λu H' s g=>q u σ H' O (st.mono s) .refl (g.2 J)⟩
theorem u_{i:Nat}{x:Str}{p pos:Pos}(hn:aG X.N X.env.scope i x=true):PS X (.Return (some (.Name x p)) pos) (tS X.K cal (.retOwn i)):=by
 refine(iS (bP hn)).imp λD σ H q=>?_
 obtain⟨B,O₀,O,ρ,st,q⟩:=q;rw[ex]at q;have low:ae (aj H O) (aj H O₀):=bj (ae.refl H) λb hb=>.inl (st.sub b hb)
 cases hj:(ρ[i]?).join with
 |none=>rw[hj]at q;exact(show False from q).elim
 | some m =>
  rw[hj]at q;cases m with
  |own xs =>
   obtain⟨u,eu,a,us,rfl,ha,rs,hO,hB⟩:=aK st hj;refine⟨_,eu,q _ H st.keep ?_⟩;rw[Rep];refine⟨a,us,rfl,SqL.of ?_,Reps.mono low _ rs⟩;rw[aL λz=>st.old a z hB];exact ha
  |val v =>
   obtain⟨u,eu,so⟩:=aK st hj;exact⟨_,eu,q _ H st.keep (Rep.mono low _ so)⟩
  |brw _=>exact(show False from q).elim
  |mutD _=>exact(show False from q).elim
  | ownD kvs =>
   dsimp only at q;split at q
   ·rename_i np;obtain⟨u,eu,a,rfl,ha,hO,hB⟩:=aK st hj;refine⟨_,eu,q _ H st.keep ?_⟩;rw[Rep];refine⟨a,rfl,.inl ?_,np⟩;rw[aL λz=>st.old a z hB];exact ha.np np
   ·exact(show False from q).elim
  |brwD _=>exact(show False from q).elim
theorem DV{c:ME}{a b:List MS}{t:Expr}{x y:List Stmt}{pos:Pos}(hc:PT X t (tT X.K cal c))(z:PSs X x (tSs X.K cal a))(J:PSs X y (tSs X.K cal b)):PS X (.If t x y pos) (tS X.K cal (.ite c a b)):=by
 refine(qz hc z J).imp λD σ H q=>?_
 obtain⟨B,O₀,O,ρ,st,q⟩:=q;rw[ex]at q;obtain⟨w,e,q⟩:=sL q;refine⟨B,O₀,O,ρ,w,st,e,λH' s=>?_⟩;cases w with
 |true=>rw[if_pos rfl]at q ⊢;exact⟨B,O₀,O,ρ,st.mono s,q⟩
 |false=>rw[if_neg (by simp)]at q ⊢;exact⟨B,O₀,O,ρ,st.mono s,q⟩
theorem Aa{m:MS}{ms:List MS}{st:Stmt}{ss:List Stmt}(h1:PS X st (tS X.K cal m))(h2:PSs X ss (tSs X.K cal ms)):PSs X (st::ss) (tSs X.K cal (m::ms)):=by
 refine(ig h1 h2).imp λD σ H q=>?_
 obtain⟨B,O₀,O,ρ,st,q⟩:=q;refine⟨B,O₀,O,ρ,st,?_⟩;rw[exs]at q;cases e:ex cal m ρ with
 |next ρ'=>rw[e]at q;exact λσ' H' J z k=>⟨B,O₀,J,ρ',z,fE.trans q k⟩
 |brk ρ'=>rw[e]at q;exact q
 |cont ρ'=>rw[e]at q;exact q
 |ret v=>rw[e]at q;exact q
 |bad=>rw[e]at q;exact q
 |retF xs=>rw[e]at q;exact q
 |retM v U=>rw[e]at q;exact q
theorem Cc:PSs X [] (tSs X.K cal []):=by
 refine jE.imp λD σ H q=>?_
 obtain⟨B,O₀,O,ρ,st,q⟩:=q;rw[exs]at q;exact q σ H O st .refl
end
end MM
namespace MM
open PySem PySem.Spec PyProof.Rows L2 List Option
inductive bZ(σ:St)(ρ:Rho):List Bool->List ME->List MV->List V->List Addr->List Nat->Prop where
 | nil:bZ σ ρ [] [] [] [] [] []
 | mutd {i:Nat}{d:DD}{a:Addr}{bs:List Bool}{es:List ME}{as:List MV}{vs:List V}{ms:List Addr}{is:List Nat} (hd:cG (ρ[i]?).join=some d) (hσ:σ[i]?=some (some (.ref a))) (hi:i∉is) (ha:a∉ms) (t:bZ σ ρ bs es as vs ms is):bZ σ ρ (true::bs) (.bor i::es) (.mutD d::as) (.ref a::vs) (a::ms) (i::is)
 | other {e:ME}{m:MV}{v:V}{bs:List Bool}{es:List ME}{as:List MV}{vs:List V}{ms:List Addr}{is:List Nat} (hm:∀d,m≠.mutD d) (t:bZ σ ρ bs es as vs ms is):bZ σ ρ (false::bs) (e::es) (m::as) (v::vs) ms is
theorem c8{o:Option MV}{d:DD}(h:cG o=some d):o=some (.ownD d)\/o=some (.mutD d):=by
 match o,h with
 |some (.ownD _),rfl=>exact .inl rfl
 |some (.mutD _),rfl=>exact .inr rfl
section
variable{σ:St}{ρ:Rho}{bs:List Bool}{es:List ME}{as:List MV}{vs:List V}{ms:List Addr}{is:List Nat}
theorem bZ.addr(h:bZ σ ρ bs es as vs ms is):∀a∈ms,∃j∈is,σ[j]?=some (some (.ref a))/\∃d,cG (ρ[j]?).join=some d:=by
 induction h with
 |nil=>intro a D;cases D
 | mutd hd q hi D t ih =>
  intro b z;rcases mem_cons.mp z with rfl|z
  ·exact⟨_,.head _,q,_,hd⟩
  ·obtain⟨j,h1,h2⟩:=ih b z;exact⟨j,.tail _ h1,h2⟩
 |other hm t ih=>exact ih
theorem bZ.put(h:bZ σ ρ bs es as vs ms is){i:Nat}{d:DD}(hi:i∉is):bZ σ (b_ ρ i d) bs es as vs ms is:=by
 induction h with
 |nil=>exact .nil
 | mutd hd hσ hi2 ha t ih =>
  rename_i j _ _ _ _ _ _ _ is;refine .mutd ?_ hσ hi2 ha (ih λz=>hi (.tail _ z));have hij:i≠j:=λz=>hi (z ▸ .head _)
  have:(b_ ρ i d)[j]?=ρ[j]?:=by
   unfold b_;split<;>exact getElem?_set_ne hij
  rw[this];exact hd
 |other hm t ih=>exact .other hm (ih hi)
theorem bZ.at{K:PySem.W.Frag}{B H:Hp}{O₀ O:List Addr}(st:aw K B O₀ O H ρ σ)(h:bZ σ ρ bs es as vs ms is):∃ds,bY K O H as vs ds ms:=by
 induction h with
 |nil=>exact⟨[],.nil⟩
 | mutd hd z hi U t ih =>
  obtain⟨ds,q⟩:=ih;rename_i i d a bs es as vs ms is;refine⟨.dI d::ds,.mutd (d':=d) ?_ U q⟩;rcases c8 hd with e|e
  ·obtain⟨u,D,Y,J,h1,_⟩:=st.slot _ _ (ax e);rw[z]at D;cases D;cases J;exact h1
  ·obtain⟨u,D,Y,J,h1,_⟩:=st.slot _ _ (ax e);rw[z]at D;cases D;cases J;exact h1
 |other hm t ih =>
  obtain⟨ds,q⟩:=ih;exact⟨ds,.other hm q⟩
theorem bZ.inO{K:PySem.W.Frag}{B H:Hp}{O₀ O:List Addr}(st:aw K B O₀ O H ρ σ)(h:bZ σ ρ bs es as vs ms is):∀a∈ms,a∈O:=λa D=>by
 obtain⟨j,_,z,d,J⟩:=h.addr a D;rcases c8 J with e|e
 ·obtain⟨u,q,U,rfl,_,h2,_⟩:=aK st e;rw[z]at q;cases q;exact h2
 ·obtain⟨u,q,U,rfl,_,h2,_⟩:=aK st e;rw[z]at q;cases q;exact h2
theorem kI{K:PySem.W.Frag}{B H':Hp}{O₀ O:List Addr}:∀{bs:List Bool}{es:List ME}{as:List MV}{vs:List V}{ms:List Addr}{is:List Nat}{ρ ρ':Rho}{H:Hp}{ds:List PV},bZ σ ρ bs es as vs ms is->aw K B O₀ O H ρ σ->(∀b,b∉ms->H b=H' b)->bY K O H' as vs ds ms->fb bs es ds ρ=some ρ'->aw K B O₀ O H' ρ' σ/\a_ B O O ρ ρ' σ σ
 | _,_,_,_,_,_,ρ,ρ',H,ds,.nil,st,hk,hm,e=>by
  cases hm;rw[fb]at e;cases e;have hh:H=H':=funext λb=>hk b λz=>nomatch z
  subst hh;exact⟨st,.refl⟩
 | _,_,_,_,_,_,ρ,ρ',H,ds,.other hn t,st,hk,hm,e=>by
  cases hm with
  |mutd=>exact absurd rfl (hn _)
  |other _ hm =>
   rw[fb]at e;exact kI t st hk hm e
 | _,_,_,_,_,_,ρ,ρ',H,ds,.mutd (i:=i) (a:=a) hd hσ hi ha t,st,hk,hm,e=>by
  cases hm with
  |other h0=>exact absurd rfl (h0 _)
  | mutd h1 h2 hm =>
   rename_i d' ds;rw[fb]at e;obtain⟨o,ho⟩:=h1.here;have inO:=t.inO st;have aO:a∈O:=(bZ.mutd hd hσ hi ha t).inO st a (.head _);have dd:DAt K (upd H a o) O a d':=h1.move (λu eu=>by rw[ho]at eu;cases eu;exact au) λb u eb=>by
    have hb:b∉O:=λz=>by rw[dv z]at eb;cases eb
    rw[aL hb]at eb ⊢;have ne:b≠a:=λz=>hb (by rw[z];exact aO)
    rw[az ne,hk b λw=>(mem_cons.mp w).elim ne λz=>hb (inO b z)];exact eb
   have key:aw K B O₀ O (upd H a o) (b_ ρ i d') σ/\a_ B O O ρ (b_ ρ i d') σ σ:=by
    rcases c8 hd with q|q
    ·have e1:b_ ρ i d'=put ρ i (.ownD d'):=by unfold b_;rw[q];rfl
     rw[e1];exact st.changeD (ax q) hσ λ_=>dd
    ·have e1:b_ ρ i d'=put ρ i (.mutD d'):=by unfold b_;rw[q];rfl
     rw[e1];exact st.changeU (ax q) hσ λ_=>dd
   obtain⟨st1,k1⟩:=key;obtain⟨st2,k2⟩:=kI (t.put hi) st1 (λb hb=>by
    by_cases z:b=a
    ·subst z;rw[au,ho]
    ·rw[az z];exact hk b λw=>(mem_cons.mp w).elim z hb) hm e
   exact⟨st2,k1.trans k2⟩
theorem rj{K:PySem.W.Frag}{B H H':Hp}{O₀ O:List Addr}{ρ':Rho}{ds:List PV}(D:bZ σ ρ bs es as vs ms is)(st:aw K B O₀ O H ρ σ)(J:∀b o,b∉ms->H b=some o->H' b=some o)(U:bY K O H' as vs ds ms)(e:fb bs es ds ρ=some ρ'):aw K B O₀ O H' ρ' σ/\a_ B O O ρ ρ' σ σ:=
 kI D (st.mono (H':=λb=>if b∈ms then H b else H' b) λb o q=>by
  by_cases z:b∈ms
  ·exact(if_pos z).trans q
  ·exact(if_neg z).trans (J b o z q)) (λb Y=>if_neg Y) U e
end
noncomputable def tAM(K:PySem.W.Frag)(cal:Cal)(q:List Bool)(ms:List ME):TA:=λσ H Q=>∃B O₀ O ρ vs,aw K B O₀ O H ρ σ/\evM cal q ms ρ=some vs/\∀us H' as,ae H H'->Paired (zE K O H') vs us->bZ σ ρ q ms vs us as (eE q ms)->Q us H'
section
variable{X:Cx}{T:Tab}{k:Nat}{cal:Cal}
theorem sM:PA X [] (tAM X.K cal [] []):=by
 refine bD.imp λσ H Q q=>?_
 obtain⟨B,O₀,O,ρ,vs,st,z,q⟩:=q;rw[evM]at z;cases z;exact q [] H [] (ae.refl H) .nil .nil
theorem va{i:Nat}{bs:List Bool}{ms:List ME}{x:Str}{pos:Pos}{es:List Expr}(h:aG X.N X.env.scope i x=true)(hi:i∉eE bs ms)(hs:PA X es (tAM X.K cal bs ms)):PA X (.Name x pos::es) (tAM X.K cal (true::bs) (.bor i::ms)):=by
 refine(aI (bP h) hs rfl).imp λσ H Q q=>?_
 obtain⟨B,O₀,O,ρ,vs,st,J,q⟩:=q;rw[evM]at J;simp only[bind_eq_some_iff,map_eq_some_iff]at J;obtain⟨d,J,ws,e2,rfl⟩:=J;obtain⟨m,hj,om,so⟩:∃m,(ρ[i]?).join=some m/\gh m=true/\∃a,σ[i]?=some (some (.ref a))/\DAt X.K H O a d/\a∈O:=by
  rcases c8 J with e|e
  ·obtain⟨u,D,a,rfl,h1,h2,_⟩:=aK st e;exact⟨_,e,rfl,a,D,h1,h2⟩
  ·obtain⟨u,D,a,rfl,h1,h2,_⟩:=aK st e;exact⟨_,e,rfl,a,D,h1,h2⟩
 obtain⟨a,D,h1,h2⟩:=so;refine⟨_,D,B,O₀,O,ρ,ws,st,e2,λus H2 as Y g2 ma=>q (.ref a::us) H2 (a::as) Y (.cons ⟨a,rfl,h1.move (Y _) (af Y),h2⟩ g2) (.mutd J D hi (λz=>?_) ma)⟩;obtain⟨j,Z,ej,d2,ao⟩:=ma.addr a z;have U:i≠j:=λw=>hi (w ▸ Z)
 rcases c8 ao with e|e
 ·exact st.apart i j m _ a U (ax hj) (ax e) om rfl D ej
 ·exact st.apart i j m _ a U (ax hj) (ax e) om rfl D ej
theorem qf{m:ME}{bs:List Bool}{ms:List ME}{e:Expr}{es:List Expr}(U:al m=false)(h:PE X e (tE X.K cal m))(hs:PA X es (tAM X.K cal bs ms))(hn:ab e=true):PA X (e::es) (tAM X.K cal (false::bs) (m::ms)):=by
 refine(aI h hs (aQ hn es _)).imp λσ H Q q=>?_
 obtain⟨B,O₀,O,ρ,vs,st,D,q⟩:=q;rw[evM,bind_eq_some_iff]at D;obtain⟨a,e0,D⟩:=D;have J:(ev cal m ρ).bind (λv=>some [MV.val v])=some a:=by
  rw[<- e0];cases m<;>first|(cases U;done)|(simp only[evA];rfl)
 rw[bind_eq_some_iff]at J;obtain⟨v,e9,e8⟩:=J;cases e8;dsimp only at D;rw[map_eq_some_iff]at D;obtain⟨ws,e2,rfl⟩:=D;exact⟨B,O₀,O,ρ,v,st,e9,λu H1 Y g1=>⟨B,O₀,O,ρ,ws,st.mono Y,e2,λus H2 as Z g2 ma=>q (u::us) H2 as (Y.trans Z) (.cons (show Rep X.K (aj H2 O) v u from(g1.mono Z).2 U) g2) (.other (λ_ z=>by cases z) ma)⟩⟩
theorem sN{i:Nat}{bs:List Bool}{ms:List ME}{x:Str}{pos:Pos}{es:List Expr}(h:aG X.N X.env.scope i x=true)(hs:PA X es (tAM X.K cal bs ms)):PA X (.Name x pos::es) (tAM X.K cal (false::bs) (.bor i::ms)):=by
 refine(aI (bP h) hs rfl).imp λσ H Q q=>?_
 obtain⟨B,O₀,O,ρ,vs,st,e1,q⟩:=q;rw[evM,bind_eq_some_iff]at e1;obtain⟨a,e0,e1⟩:=e1;rw[evA,evA]at e0;cases hj:(ρ[i]?).join with
 |none=>rw[hj]at e0;cases e0
 | some m =>
  rw[hj]at e0;obtain⟨u,eu,so⟩:=aK st hj;cases m with
  |val w =>
   cases e0;dsimp only at e1;rw[map_eq_some_iff]at e1;obtain⟨ws,e2,rfl⟩:=e1;exact⟨u,eu,⟨B,O₀,O,ρ,ws,st,e2,λus H2 as s2 g2 ma=>q (u::us) H2 as s2 (.cons (show Rep X.K (aj H2 O) w u from Rep.mono (af s2) _ so) g2) (.other (λ_ z=>by cases z) ma)⟩⟩
  |own ys=>cases e0;cases e1
  |brw ys=>cases e0;cases e1
  |ownD ys =>
   cases hz:ek (some (.ownD ys)) with
   |none=>rw[hz]at e0;cases e0
   |some z=>rw[hz]at e0;cases e0;obtain⟨rfl,_⟩:=ifW hz;cases e1
  |mutD ys =>
   cases hz:ek (some (.mutD ys)) with
   |none=>rw[hz]at e0;cases e0
   |some z=>rw[hz]at e0;cases e0;obtain⟨rfl,_⟩:=ifW hz;cases e1
  |brwD ys=>cases e0;cases e1
theorem m4(g:Gf X T k cal):∀(bs:List Bool) (ms:List ME) (es:List Expr),chks T ms X.N X.env.scope es=true->hV bs ms=true->(eE bs ms).Nodup->PA X es (tAM X.K cal bs ms)
 | [],[],es,h,_,_=>by
  cases es with
  |nil=>exact sM
  |cons _ _=>simp[chks]at h
 | [],_::_,_,_,h2,_=>by cases h2
 |true::_,[],_,_,h2,_=>by cases h2
 |false::_,[],_,_,h2,_=>by cases h2
 | b::bs,m::ms,es,h,h2,hn=>by
  cases es with
  |nil=>simp[chks]at h
  | cons e es =>
   simp only[chks,Bool.and_eq_true]at h;cases b with
   |true =>
    have h2':(al m&&hV bs ms)=true:=h2;rw[Bool.and_eq_true]at h2';have hb:=h2'.1;cases m<;>simp[al]at hb
    have h1:=h.1.1;cases e<;>simp only[bM,Bool.false_eq_true]at h1
    obtain⟨n1,n2⟩:=nodup_cons.mp (show(_::eE bs ms).Nodup from hn);exact va h1 n1 (m4 g bs ms es h.2 h2'.2 n2)
   | false =>
    have hs:=m4 g bs ms es h.2 (show hV bs ms=true from h2) (show(eE bs ms).Nodup from hn);cases hb:al m with
    |false=>exact qf hb (ak m g h.1.1).1 hs h.1.2
    |true =>
     cases m<;>simp[al]at hb
     have h1:=h.1.1;cases e<;>simp only[bM,Bool.false_eq_true]at h1
     exact sN h1 hs
end
theorem sO{cal:Cal}{f:Nat}{q:List Bool}{ms:List ME}{ρ ρ':Rho}{v:PV}(h:jB cal f q ms ρ=some (v,ρ')):∃ds,((evM cal q ms ρ).bind λvs=>cal (f+2000) vs)=some (.tup (v::ds))/\fb q ms ds ρ=some ρ':=by
 unfold jB at h;split at h
 ·rename_i v ds e;rw[map_eq_some_iff]at h;obtain⟨z,D,J⟩:=h;cases J;exact⟨ds,e,D⟩
 ·cases h
section
variable{X:Cx}{T:Tab}{k:Nat}{cal:Cal}
noncomputable def tMr(K:PySem.W.Frag)(cal:Cal)(f:Nat)(q:List Bool)(ms:List ME):TE:=λσ H Q=>∃B O₀ O ρ vs v ds,aw K B O₀ O H ρ σ/\evM cal q ms ρ=some vs/\cal (f+2000) vs=some (.tup (v::ds)) /\
 ∀u us as H1 H',ae H H1->bZ σ ρ q ms vs us as (eE q ms)->(∀b o,b∉as->H1 b=some o->H' b=some o)->bY K O H' vs us ds as->Rep K (aj H' O) v u->Q u H'
theorem rk{f:Nat}{z:List Bool}{ms:List ME}{x:Str}{e:Expr}{es:List Expr}{p pos:Pos}(g:Gf X T k cal)(hf:T.fs[f]?=some x)(hg:glB X.env.scope x=true)(hn:ah x=true)(ha:PA X (e::es) (tAM X.K cal z ms))(J:(e::es).all ab=true):PE X (.Call (.Name x p) (e::es) [] pos) (tMr X.K cal f z ms):=by
 obtain⟨fa,fd,ps,h1,h2,h3,F⟩:=g.fnsD f x hf;simp only[all_cons,Bool.and_eq_true]at J;refine(jF F g.room (dB hg) h1 h2 h3 .nil ik ha (dQ hn).1 (aQ J.1 es _) (bg J.2)).imp λσ H Q q=>?_
 obtain⟨B,O₀,O,ρ,vs,v,ds,st,e1,e3,q⟩:=q;refine⟨B,O₀,O,ρ,vs,st,e1,λus H1 as U g1 Z=>?_⟩;show spD X.K cal f (us ++ []) H1 Q E0;rw[append_nil];obtain⟨D,Y⟩:=Z.at (st.mono U);exact⟨O,vs,v,ds,D,as,aW U st.here,g1,Y,e3,λu H' hk hm ru=>q u us as H1 H' U Z hk hm ru⟩
end
theorem bY.mono{K:PySem.W.Frag}{O q:List Addr}{H H':Hp}{args:List MV}{vs:List V}{ds:List PV}{ms:List Addr}(h:bY K O H args vs ds ms)(s:∀a∈ms,∀o,H a=some o->H' a=some o)(v:ae (aj H O) (aj H' q)):bY K q H' args vs ds ms:=by
 induction h with
 |nil=>exact .nil
 |mutd h z t ih=>exact .mutd (h.move (s _ (.head _)) v) z (ih λa D=>s a (.tail _ D))
 |other h t ih=>exact .other h (ih s)
theorem bY.here{K:PySem.W.Frag}{O:List Addr}{H:Hp}{args:List MV}{vs:List V}{ds:List PV}{ms:List Addr}(h:bY K O H args vs ds ms):∀a∈ms,H a≠none:=by
 induction h with
 |nil=>intro a z;cases z
 | mutd h D t ih =>
  intro b q;rcases mem_cons.mp q with rfl|q
  ·obtain⟨o,h⟩:=h.here;rw[h];simp
  ·exact ih b q
 |other h t ih=>exact ih
theorem bZ.own{K:PySem.W.Frag}{B H:Hp}{O₀ O:List Addr}{σ:St}{ρ:Rho}{bs:List Bool}{es:List ME}{as:List MV}{vs:List V}{ms:List Addr}{is:List Nat}(st:aw K B O₀ O H ρ σ)(h:bZ σ ρ bs es as vs ms is):∀a∈ms,a∈O/\B a=none/\∃o,H a=some o:=λa D=>by
 obtain⟨j,_,z,d,J⟩:=h.addr a D;rcases c8 J with e|e
 ·obtain⟨u,q,U,rfl,h1,h2,h3⟩:=aK st e;rw[z]at q;cases q;exact⟨h2,h3,h1.here⟩
 ·obtain⟨u,q,U,rfl,h1,h2,h3⟩:=aK st e;rw[z]at q;cases q;exact⟨h2,h3,h1.here⟩
theorem gC{H1 H':Hp}{O as:List Addr}(h:∀a∈as,a∈O)(D:∀b o,b∉as->H1 b=some o->H' b=some o):ae (aj H1 O) (aj H' O):=λb o e=>by
 have q:b∉O:=λz=>by rw[dv z]at e;cases e
 rw[aL q]at e ⊢;exact D b o (λz=>q (h b z)) e
section
variable{X:Cx}{T:Tab}{k:Nat}{cal:Cal}
noncomputable def tSr(K:PySem.W.Frag)(cal:Cal)(j:SK)(e:ME)(f:Nat)(q:List Bool)(ms:List ME):TE:=λσ H Q=>∃B O₀ O ρ w vs v ds r,aw K B O₀ O H ρ σ/\ev cal e ρ=some w/\evM cal q ms ρ=some vs/\cal (f+2000) vs=some (.tup (v::ds))/\n_ j w v=some r /\
 ∀u us as H1 H',ae H H1->bZ σ ρ q ms vs us as (eE q ms)->(∀b o,b∉as->H1 b=some o->H' b=some o)->bY K O H' vs us ds as->Rep K (aj H' O) r u->Q u H'
theorem l5{K:PySem.W.Frag}{B H H1 H':Hp}{O₀ O:List Addr}{σ:St}{ρ:Rho}{args:List MV}{vs:List V}{ds:List PV}{as:List Addr}(st:aw K B O₀ O H ρ σ)(q:ae H H1)(D:∀b o,b∉as->H1 b=some o->H' b=some o)(J:bY K O H' args vs ds as):∀a∈O,H' a≠none:=λa U=>by
 by_cases z:a∈as
 ·exact J.here a z
 ·cases e:H1 a with
  |none=>exact absurd (q.free e) (st.here a U)
  |some o=>rw[D a o z e];simp
theorem Cd{f:Nat}{z:List Bool}{ms:List ME}{c:Expr}(h:PE X c (tMr X.K cal f z ms)):PE X c (tSr X.K cal .one (.cst .non) f z ms):=by
 refine h.imp λσ H Q q=>?_
 obtain⟨B,O₀,O,ρ,w,vs,v,ds,r,st,Y,D,J,U,q⟩:=q;cases U;exact⟨B,O₀,O,ρ,vs,v,ds,st,D,J,q⟩
theorem Ab{e:ME}{f:Nat}{z:List Bool}{ms:List ME}{l c:Expr}{pos:Pos}(J:al e=false)(ha:PE X l (tE X.K cal e))(h:PE X c (tMr X.K cal f z ms)):PE X (.BinOp l .Add c pos) (tSr X.K cal .cat e f z ms):=by
 refine(lD (mV .add) ha h).imp λσ H Q q=>?_
 obtain⟨B,O₀,O,ρ,w,vs,v,ds,r,st,e1,e2,e3,e4,q⟩:=q;refine⟨B,O₀,O,ρ,w,st,e1,λux H1 D g1=>⟨B,O₀,O,ρ,vs,v,ds,st.mono D,e2,e3,λuy us as H2 H' U ma Y hm ry=>?_⟩⟩;have own:=ma.own (st.mono D);have rx:Rep X.K (aj H' O) w ux:=Rep.mono ((af U).trans (gC (λa h=>(own a h).1) Y)) _ (g1.2 J);exact⟨O,w,v,r,l5 (st.mono D) U Y hm,.inl rx,.inl ry,e4,λu H3 Z ru=>q u us as H2 H3 (D.trans U) ma (λb o J eb=>Z b o (Y b o J eb)) (hm.mono (λa _ o e=>Z a o e) (af Z)) ru⟩
theorem xz{e:ME}{f:Nat}{z:List Bool}{ms:List ME}{l c:Expr}{j:Nat}{pos:Pos}(J:al e=false)(hl:ab l=true)(hc:ab c=true)(ha:PE X l (tE X.K cal e))(h:PE X c (tMr X.K cal f z ms)):PE X (.Tuple [l,c] j pos) (tSr X.K cal .pair e f z ms):=by
 refine(pC (aI ha (aI h bD (aQ hc _ _)) (aQ hl _ _))).imp λσ H Q q=>?_
 obtain⟨B,O₀,O,ρ,w,vs,v,ds,r,st,e1,e2,e3,e4,q⟩:=q;cases e4;refine⟨B,O₀,O,ρ,w,st,e1,λux H1 D g1=>⟨B,O₀,O,ρ,vs,v,ds,st.mono D,e2,e3,λuy us as H2 H' U ma Y hm ry=>⟨cF (show 2<=10000 by decide),λp hp=>?_⟩⟩⟩;have own:=ma.own (st.mono D);have rx:Rep X.K (aj H' O) w ux:=Rep.mono ((af U).trans (gC (λa h=>(own a h).1) Y)) _ (g1.2 J);have Z:ae H' (upd H' p (.tup [ux,uy])):=aM hp _;exact q _ us as H2 _ (D.trans U) ma (λb o J eb=>Z b o (Y b o J eb)) (hm.mono (λa _ o e=>Z a o e) (af Z)) (fC (l5 (st.mono D) U Y hm) hp (.cons rx (.cons ry .nil)))
theorem vb{j:SK}{e:ME}{f:Nat}{mask:List Bool}{ms:List ME}{v:Expr}(g:Gf X T k cal)(h:p8 T j e f mask ms X.N X.env.scope v=true):PE X v (tSr X.K cal j e f mask ms):=by
 have call:∀c,dP T f mask ms X.N X.env.scope c=true->PE X c (tMr X.K cal f mask ms)/\ab c=true:=λc hc=>by
  obtain⟨y,p,args,cp,rfl,hq⟩:=kz hc;simp only[Bool.and_eq_true,beq_iff_eq,decide_eq_true_eq,Bool.not_eq_true']at hq;obtain⟨⟨⟨⟨⟨⟨q1,q2⟩,q3⟩,q4⟩,q5⟩,q6⟩,q7⟩:=hq;cases args with
  |nil=>cases q7
  |cons a args=>exact⟨rk g q1 q2 q3 (m4 g mask ms (a::args) q4 q5 q6) (bm q4).1,rfl⟩
 cases j with
 | one =>
  have h:(p7 e&&dP T f mask ms X.N X.env.scope v)=true:=h;rw[Bool.and_eq_true]at h;have e0:e=.cst .non:=by
   have h1:=h.1;unfold p7 at h1;split at h1
   ·rfl
   ·cases h1
  subst e0;exact Cd (call v h.2).1
 | cat =>
  unfold p8 at h;dsimp only at h;split at h
  ·rename_i q hq;obtain⟨pos,rfl⟩:=wX hq;simp only[Bool.and_eq_true,Bool.not_eq_true']at h;exact Ab h.1.2 (ak e g h.1.1).1 (call _ h.2).1
  ·cases h
 | pair =>
  unfold p8 at h;dsimp only at h;split at h
  ·rename_i q hq;obtain⟨i,pos,rfl⟩:=wY hq;simp only[Bool.and_eq_true,Bool.not_eq_true']at h;exact xz h.1.1.2 h.1.2 (call _ h.2).2 (ak e g h.1.1.1).1 (call _ h.2).1
  ·cases h
noncomputable def cJ(H:Hp)(D:Addr):Hp:=λb=>if b=D then none else H b
theorem iL(H:Hp)(D:Addr):ae (cJ H D) H:=λb o e=>by
 unfold cJ at e;split at e
 ·cases e
 ·exact e
theorem kJ{H:Hp}{D b:Addr}(h:b≠D):cJ H D b=H b:=if_neg h
theorem qg{H H':Hp}{D:Addr}(s:ae H H'):ae (cJ H D) (cJ H' D):=λb o e=>by
 unfold cJ at e ⊢;split at e
 ·cases e
 ·rename_i q;rw[if_neg q];exact s b o e
theorem gE{H:Hp}{D:Addr}{o:HO}:cJ (upd H D o) D=cJ H D:=by
 funext b
 unfold cJ;split
 ·rfl
 ·rename_i q;exact az q
theorem kK{H:Hp}{D:Addr}(h:H D=none):cJ H D=H:=by
 funext b
 unfold cJ;split
 ·rename_i q;rw[q,h]
 ·rfl
theorem sP{σ σb:St}{ρ:Rho}{js:List Nat}{x:PV}(hjs:js.Nodup)(hσ:∀i jj u,js[i]?=some jj->σb[i+1]?=some (some u)->σ[jj]?=some (some u)){bs:List Bool}{es:List ME}{as:List MV}{vs:List V}{ms:List Addr}{is:List Nat}(h:bZ σb (iz js ρ x) bs es as vs ms is) :
  ∃is',bZ σ ρ bs (es.map (su js)) as vs ms is'/\∀jj∈is',∃i,i+1∈is/\js[i]?=some jj:=by
 induction h with
 |nil=>exact⟨[],.nil,λjj h=>by cases h⟩
 | mutd hd hs hi ha t ih =>
  rename_i i d a bs es as vs ms is;obtain⟨is',m',h'⟩:=ih;cases i with
  |zero=>cases hd
  | succ i =>
   unfold iz at hd;rw[getElem?_cons_succ,getElem?_map]at hd;cases ej:js[i]? with
   |none=>rw[ej]at hd;cases hd
   | some jj =>
    rw[ej]at hd;have e1:cG (ρ[jj]?).join=some d:=by
     have hd:cG (p5 (ρ[jj]?).join)=some d:=hd;cases hj:(ρ[jj]?).join with
     |none=>rw[hj]at hd;cases hd
     |some m=>rw[hj]at hd;cases m<;>first|(cases hd;done)|exact hd
    have e2:js.getD i 0=jj:=by rw[getD_eq_getElem?_getD,ej];rfl
    refine⟨jj::is',?_,λj2 h2=>?_⟩
    ·rw[map_cons,show su js (.bor (i+1))=.bor jj from by show ME.bor (if i+1=0 then 0 else js.getD (i+1-1) 0)=.bor jj;rw[if_neg (by omega),Nat.add_sub_cancel,e2]];refine .mutd e1 (hσ i jj _ ej hs) (λz=>?_) ha m';obtain⟨i2,h3,h4⟩:=h' jj z;have hl:=(List.getElem?_eq_some_iff.mp ej).1;have:i=i2:=(getElem?_inj hl hjs).mp (ej.trans h4.symm);exact hi (this ▸ h3)
    ·rcases mem_cons.mp h2 with rfl|h2
     ·exact⟨i,.head _,ej⟩
     ·obtain⟨i2,h3,h4⟩:=h' j2 h2;exact⟨i2,.tail _ h3,h4⟩
 |other hm t ih =>
  obtain⟨is',m',h'⟩:=ih;exact⟨is',.other hm m',h'⟩
theorem xA{K:PySem.W.Frag}{B H G H2:Hp}{O₀ O:List Addr}{ρ:Rho}{σ σ':St}{js:List Nat}{D:Addr}{x:PV}{ux:V}(hjs:js.Nodup)(st:aw K B O₀ O H ρ σ)(s:ae H H2)(hG:ae G H2)(hB:ae B G)(hO:∀a∈O,B a=none->G a=none)(hD:H D=none)(hD2:H2 D≠none)
  (hσ:∀z,σ'.set 0 z=(ee js σ).set 0 z) (hx:Rep K (aj H2 (D::O)) x ux):aw K G [] (D::O) H2 (iz js ρ x) (σ'.set 0 (some ux)):=by
 have hv:ae (aj H O) (aj H2 (D::O)):=bj s λb hb=>by
  rcases mem_cons.mp hb with rfl|hb
  ·exact .inr hD
  ·exact .inl hb
 rw[hσ];have get:∀(i:Nat) (m:MV),(iz js ρ x)[i+1]?=some (some m)->∃jj m0 u,js[i]?=some jj/\(ρ[jj]?).join=some m0/\p5 (some m0)=some m/\σ[jj]?=some (some u)/\ez K B O H m0 u/\((ee js σ).set 0 (some ux))[i+1]?=some (some u):=λi m e=>by
  simp only[iz,getElem?_cons_succ,getElem?_map,map_eq_some_iff]at e;obtain⟨j,ej,e⟩:=e;cases hj:(ρ[j]?).join with
  |none=>rw[hj]at e;cases e
  |some mm =>
   rw[hj]at e;obtain⟨u,eu,so⟩:=aK st hj;exact⟨j,mm,u,ej,hj,e,eu,so,by simp[ee,ej,eu]⟩
 refine⟨hG,λa ha=>?_,λa ha=>by simp at ha,λa ha=>by simp at ha,by simp[iz,ee],λi m e=>?_,λi i2 m m' a hij e e' om om' es es'=>?_⟩
 ·rcases mem_cons.mp ha with rfl|ha
  ·exact hD2
  ·exact λe=>st.here a ha (s.free e)
 ·cases i with
  |zero =>
   simp only[iz,getElem?_cons_zero,Option.some.injEq]at e;subst e;exact⟨ux,by simp[ee],hx⟩
  | succ i =>
   obtain⟨jj,m0,u,ej,hj,e,eu,so,eσ⟩:=get i m e;refine⟨u,eσ,?_⟩;cases m0 with
   |val w =>
    cases e;exact Rep.mono hv _ so
   |own ys=>cases e
   |brw ys =>
    cases e;obtain⟨a,us,rfl,sq,rs⟩:=so;exact⟨a,us,rfl,hB.seq sq,Reps.mono hv _ rs⟩
   |ownD kvs =>
    cases e;obtain⟨a,rfl,ha,h1,h2⟩:=so;exact⟨a,rfl,ha.move (s _) hv,mem_cons_of_mem _ h1,hO a h1 h2⟩
   |mutD kvs =>
    cases e;obtain⟨a,rfl,ha,h1,h2⟩:=so;exact⟨a,rfl,ha.move (s _) hv,mem_cons_of_mem _ h1,hO a h1 h2⟩
   |brwD kvs =>
    cases e;obtain⟨a,rfl,ha⟩:=so;exact⟨a,rfl,ae.rd hB ha⟩
 ·have zero:∀(m:MV),(iz js ρ x)[0]?=some (some m)->gh m=true->False:=λm e o=>by
   simp only[iz,getElem?_cons_zero,Option.some.injEq]at e;subst e;cases o
  have ownc:∀(m0 m:MV),p5 (some m0)=some m->gh m=true->gh m0=true:=λm0 m e o=>by
   cases m0<;>first|rfl|(cases e;cases o;done)|(cases e;done)
  cases i with
  |zero=>exact zero m e om
  | succ i =>
   cases i2 with
   |zero=>exact zero m' e' om'
   |succ i2 =>
    obtain⟨j1,n1,u1,ej1,hj1,c1,eu1,_,eσ1⟩:=get i m e;obtain⟨j2,n2,u2,ej2,hj2,c2,eu2,_,eσ2⟩:=get i2 m' e';rw[eσ1]at es;rw[eσ2]at es';cases es;cases es';refine st.apart j1 j2 n1 n2 a (λz=>hij ?_) (ax hj1) (ax hj2) (ownc _ _ c1 om) (ownc _ _ c2 om') eu1 eu2;subst z;have hl:=(List.getElem?_eq_some_iff.mp ej1).1;rw[(getElem?_inj hl hjs).mp (ej1.trans ej2.symm)]
theorem jv{js:List Nat}{j:SK}{e:ME}{f:Nat}{Z:List Bool}{ms:List ME}{K:PySem.W.Frag}{B H H1:Hp}{O₀ O:List Addr}{ρ ρ':Rho}{σ:St}{J:It}{xs ws:List PV}{D:Addr}{Q:VK}(b5:js.Nodup)(st:aw K B O₀ O H ρ σ)(s1:ae H H1)(a4:jD K J xs (aj H1 O) (aU B O H1 []))(ed:xs.length<=10000)
  (e3:bn cal js j e f Z ms xs ρ=some (ws,ρ')) (hD:H1 D=none) (q:∀H',ae (aj H O) (aj H' O)->aw K B O₀ O H' ρ' σ->a_ B O O ρ ρ' σ σ->Rep K (aj H' O) (.lst ws) (.ref D)->Q (.ref D) H'):nR J (ee js σ) H1 (tT K cal (.cst (.bl true))) (tSr K cal j e f Z ms) D Q:=by
 have a5:D∉O:=λz=>aW s1 st.here D z hD
 have a0:ae B H1:=st.keep.trans s1;have gB:ae B (aU B O H1 []):=eF a0;have gO:∀a∈O,B a=none->aU B O H1 [] a=none:=λa ha hb=>by
  unfold aU;rw[if_pos ha,if_neg (λz=>nomatch z)];exact hb
 have gD:aU B O H1 [] D=none:=by
  unfold aU;rw[if_neg a5];exact hD
 refine⟨λi m σ' H'=>m=xs.length-i/\i<=xs.length/\(∀z,σ'.set 0 z=(ee js σ).set 0 z)/\0<σ'.length/\∃Y done bR ys,aw K B O₀ O (cJ H' D) Y σ/\a_ B O O ρ Y σ σ/\ae (aU B O H1 []) (cJ H' D)/\bn cal js j e f Z ms (xs.drop i) Y=some (bR,ρ')/\ws=done++bR/\done.length<=i/\H' D=some (.lst ys)/\Reps K (aj H' (D::O)) done ys,⟨xs.length,by simp,Nat.zero_le _,λ_=>rfl,by simp[ee],ρ,[],ws,[],?_,.refl,?_,by simpa using e3,rfl,Nat.le_refl _,au,.nil⟩,?_⟩
 ·rw[gE,kK hD];exact st.mono s1
 ·rw[gE,kK hD];exact iK a0
 rintro i m σ' H' ⟨rfl,hi,a6,hl,Y,done,bR,ys,a1,ki,sG,eg,ew,eI,a7,rs⟩;have ap:ae (aU B O H1 []) H':=sG.trans (iL H' D);by_cases a8:i<xs.length
 ·right;have ex:xs[i]?=some xs[i]:=getElem?_eq_getElem a8;refine⟨a4.go i _ H' ap ex,λb1 H2=>∃m',m'<xs.length-i/\(m'=xs.length-(i+1)/\i+1<=xs.length/\(∀z,b1.set 0 z=(ee js σ).set 0 z)/\0<b1.length/\∃Y done bR ys,aw K B O₀ O (cJ H2 D) Y σ/\a_ B O O ρ Y σ σ/\ae (aU B O H1 []) (cJ H2 D)/\bn cal js j e f Z ms (xs.drop (i+1)) Y=some (bR,ρ')/\ws=done++bR/\done.length<=i+1/\H2 D=some (.lst ys)/\Reps K (aj H2 (D::O)) done ys),λb1 H2 z=>z,λux H2 y=>?_⟩;obtain⟨s3,hr⟩:=a4.yld i _ H' ux H2 ap ex y;have sv:ae (aj H1 O) (aj H2 (D::O)):=λb o U=>by
   have hb:b∉O:=λz=>by rw[dv z]at U;cases U
   rw[aL hb]at U;have b2:b≠D:=λz=>by rw[z,hD]at U;cases U
   rw[aL λz=>(mem_cons.mp z).elim b2 hb];refine s3 b o (ap b o ?_);unfold aU;rw[if_neg hb];exact U
  have hx:=hr (D::O) (λa ha=>by
   rcases mem_cons.mp ha with rfl|ha
   ·rw[a7];simp
   ·exact λz=>a1.here a ha ((iL H' D).free z)) sv
  have ca:H2 D=some (.lst ys):=s3 _ _ a7;have cP:ae (cJ H' D) H2:=(iL H' D).trans s3;have b3:=xA (σ':=σ') b5 a1 cP (ap.trans s3) gB gO (if_pos rfl) (by rw[ca];simp) a6 hx;rw[drop_eq_getElem_cons a8,bn]at eg;simp only[bind_eq_some_iff]at eg;obtain⟨w,e1,eg⟩:=eg;refine⟨_,[],D::O,_,true,b3,by simp[evB,ev,aJ],λH3 s4=>?_⟩;dsimp only;rw[if_pos rfl];split at eg
  ·rename_i v ds ec;simp only[bind_eq_some_iff,map_eq_some_iff]at eg ec;obtain⟨r,e4,cS,e5,⟨df,fa⟩,e6,e7⟩:=eg;obtain⟨vs,e2,ec⟩:=ec;cases e7;refine⟨_,[],D::O,_,w,vs,v,ds,r,b3.mono s4,e1,e2,ec,e4,λu us as H4 H5 s5 ma hk hm ru=>?_⟩;have own:=ma.own (b3.mono s4);obtain⟨fI,mo,_⟩:=sP (σ:=σ) (ρ:=Y) (js:=js) b5 (λi jj u ej eu=>by
    rw[a6]at eu;have:(σ[jj]?).join=some u:=by simpa[ee,ej] using eu
    exact ax this) ma
   have aO:∀a∈as,a∈O:=λa ha=>(mo.own a1 a ha).1
   have ce:D∉as:=λz=>a5 (aO D z)
   have d1:H5 D=some (.lst ys):=hk D _ ce (s5 _ _ (s4 _ _ ca));have ck:∀z,(σ'.set 0 (some ux)).set 0 z=(ee js σ).set 0 z:=λz=>by rw[set_set];exact a6 z
   have d2:0<(σ'.set 0 (some ux)).length:=by rw[length_set];exact hl
   have vw:ae (aj H' (D::O)) (aj H5 (D::O)):=((af s3).trans ((af s4).trans (af s5))).trans (gC (λa h=>mem_cons_of_mem _ (aO a h)) hk);have d4:ys.length<=10000:=by rw[<- rs.length];omega
   have cl:∀b o,b∉as->cJ H4 D b=some o->cJ H5 D b=some o:=λb o hb U=>by
    have b2:b≠D:=λz=>by rw[z]at U;unfold cJ at U;rw[if_pos rfl]at U;cases U
    rw[kJ b2]at U ⊢;exact hk b o hb U
   have cp:ae (cJ H' D) (cJ H4 D):=qg ((s3.trans s4).trans s5);obtain⟨d5,k6⟩:=rj mo (a1.mono cp) cl (hm.mono (λa ha o eo=>by
    have ea:a≠D:=λz=>by rw[z]at ha;exact ce ha
    rw[kJ ea];exact eo) λb o U=>by
    have hb:b∉D::O:=λz=>by rw[dv z]at U;cases U
    rw[aL hb]at U;rw[aL λz=>hb (.tail _ z),kJ (show b≠D from λz=>hb (by rw[z];exact .head _))];exact U) e5
   refine⟨ys,d1,Nat.lt_of_le_of_lt d4 (by decide),_,by omega,rfl,a8,ck,d2,cS,done ++ [r],df,ys ++ [u],?_,ki.trans k6,?_,e6,by rw[ew];simp,by simp;omega,au,?_⟩
   ·rw[gE];exact d5
   ·rw[gE];intro b o U;refine cl b o (λz=>?_) (cp b o (sG b o U));have:=(own b z).2.1;rw[this]at U;cases U
   ·rw[eG (mem_cons_self)];exact(Reps.mono vw _ rs).snoc ru
  ·cases eg
 ·left;have ei:i=xs.length:=by omega
  subst ei;rw[drop_length,bn]at eg;cases eg;rw[append_nil]at ew;subst ew;refine⟨a4.stop H' ap,q H' (λb o U=>?_) (a1.mono (iL H' D)) ki ?_⟩
  ·have hb:b∉O:=λz=>by rw[dv z]at U;cases U
   rw[aL hb]at U ⊢;refine ap b o ?_;unfold aU;rw[if_neg hb];exact s1 b o U
  rw[Rep];refine⟨D,ys,rfl,SqL.of ?_,Reps.mono fM _ rs⟩;rw[aL a5];exact a7
end
section
variable{X:Cx}{T:Tab}{k:Nat}{cal:Cal}
noncomputable def tX(K:PySem.W.Frag)(cal:Cal)(x:XE):TE:=λσ H Q=>∃B O₀ O ρ v ρ',aw K B O₀ O H ρ σ/\evX cal x ρ=some (v,ρ') /\
 ∀u H',ae (aj H O) (aj H' O)->aw K B O₀ O H' ρ' σ->a_ B O O ρ ρ' σ σ->Rep K (aj H' O) v u->Q u H'
noncomputable def tXs(K:PySem.W.Frag)(cal:Cal)(xs:List XE):TA:=λσ H Q=>∃B O₀ O ρ vs ρ',aw K B O₀ O H ρ σ/\evXs cal xs ρ=some (vs,ρ') /\
 ∀us H',ae (aj H O) (aj H' O)->aw K B O₀ O H' ρ' σ->a_ B O O ρ ρ' σ σ->Reps K (aj H' O) vs us->Q us H'
theorem Ac{m:ME}{e:Expr}(D:al m=false)(h:PE X e (tE X.K cal m)):PE X e (tX X.K cal (.pure m)):=by
 refine h.imp λσ H Q q=>?_
 obtain⟨B,O₀,O,ρ,v,ρ',st,z,q⟩:=q;rw[evX,map_eq_some_iff]at z;obtain⟨w,z,J⟩:=z;cases J;exact⟨B,O₀,O,ρ,v,st,z,λu H' s g=>q u H' (af s) (st.mono s) .refl (g.2 D)⟩
theorem Ad{f:Nat}{z:List Bool}{ms:List ME}{e:Expr}(h:PE X e (tMr X.K cal f z ms)):PE X e (tX X.K cal (.call f z ms)):=by
 refine h.imp λσ H Q q=>?_
 obtain⟨B,O₀,O,ρ,v,ρ',st,e0,q⟩:=q;obtain⟨ds,D,e2⟩:=sO (show jB cal f z ms ρ=some (v,ρ') from e0);rw[bind_eq_some_iff]at D;obtain⟨vs,D,e3⟩:=D;refine⟨B,O₀,O,ρ,vs,v,ds,st,D,e3,λu us as H1 H' J Y Z hm ru=>?_⟩;obtain⟨U,k'⟩:=rj Y (st.mono J) Z hm e2;have own:=Y.own (st.mono J);exact q u H' ((af J).trans (gC (λa h=>(own a h).1) Z)) U k' ru
theorem vc:∀{ns:List Int}{n:Int},ns.getLast?=some n->(ns.map V.int).getLast?=some (V.int n):=by
 intro ns n h;rw[getLast?_map,h]
 rfl
theorem Ce {i:Nat}{x:Str}{p apos cpos:Pos} (hn:aG X.N X.env.scope i x=true) (hline:(apos.endLine==cpos.line)=true):PE X (.Call (.Attribute (.Name x p) "pop" apos) [] [] cpos) (tX X.K cal (.pop i)):=by
 refine(zb PySem.F.plainAttrs_list PySem.F.slot_list_pop PySem.F.type_list_pop zc (bP hn) rfl hline).imp λσ H Q q=>?_
 obtain⟨B,O₀,O,ρ,v,ρ',st,e0,q⟩:=q;have e0:wO i ρ=some (v,ρ'):=e0;unfold wO at e0;cases hd:cG (ρ[i]?).join with
 |none=>rw[hd]at e0;cases e0
 | some d =>
  rw[hd]at e0;cases d with
  | p ns =>
   rw[map_eq_some_iff]at e0;obtain⟨n,el,e1⟩:=e0;cases e1;obtain⟨a,eu,ha,hO,key⟩:∃a,σ[i]?=some (some (.ref a))/\H a=some (iA (.p ns))/\a∈O/\(aw X.K B O₀ O (upd H a (iA (.p ns.dropLast))) (b_ ρ i (.p ns.dropLast)) σ/\a_ B O O ρ (b_ ρ i (.p ns.dropLast)) σ σ):=by
    rcases c8 hd with e|e
    ·obtain⟨u,eu,a,rfl,h1,h2,h3⟩:=aK st e;refine⟨a,eu,h1,h2,?_⟩;have e1:b_ ρ i (.p ns.dropLast)=put ρ i (.ownD (.p ns.dropLast)):=by unfold b_;rw[e];rfl
     rw[e1];exact st.changeD (ax e) eu λ_=>au
    ·obtain⟨u,eu,a,rfl,h1,h2,h3⟩:=aK st e;refine⟨a,eu,h1,h2,?_⟩;have e1:b_ ρ i (.p ns.dropLast)=put ρ i (.mutD (.p ns.dropLast)):=by unfold b_;rw[e];rfl
     rw[e1];exact st.changeU (ax e) eu λ_=>au
   have vis:ae (aj H O) (aj (upd H a (iA (.p ns.dropLast))) O):=λb o e=>by
    have hb:b∉O:=λz=>by rw[dv z]at e;cases e
    rw[aL hb]at e ⊢;rw[az (show b≠a from λz=>hb (z ▸ hO))];exact e
   have fin:=q (.int n) _ vis key.1 key.2 (cE _ _);have el2:(ns.map V.int)[(ns.map V.int).length-1]?=some (V.int n):=by
    rw[<- getLast?_eq_getElem?];exact vc el
   refine⟨_,eu,.inl ⟨rfl,ns.map V.int,SqL.of ha⟩,a,ns.map V.int,.int n,rfl,rfl,ha,el2,?_⟩;have e9:(ns.map V.int).dropLast=ns.dropLast.map V.int:=map_dropLast.symm;rw[e9];exact fin
  | _=>cases e0
theorem Cf{op:Op2}{a:XE}{b:ME}{l r:Expr}{pos:Pos}(Z:PE X l (tX X.K cal a))(hb:PE X r (tE X.K cal b)):PE X (.BinOp l (jC op) r pos) (tX X.K cal (.bin op a b)):=by
 refine(lD (mV op) Z hb).imp λσ H Q q=>?_
 obtain⟨B,O₀,O,ρ,v,ρ',st,D,q⟩:=q;rw[evX]at D;simp only[bind_eq_some_iff,map_eq_some_iff]at D;obtain⟨⟨x,J⟩,D,y,e2,r,e3,e4⟩:=D;cases e4;exact⟨B,O₀,O,ρ,x,J,st,D,λux H1 v1 z k1 rx=>⟨B,O₀,O,J,y,z,e2,λuy H2 U g2=>⟨O,x,y,v,aW U z.here,.inl (Rep.mono (af U) _ rx),g2.1,e3,λu H3 Y ru=>q u H3 (v1.trans (af (U.trans Y))) (z.mono (U.trans Y)) k1 ru⟩⟩⟩
theorem DW{f:Nat}{a:XE}{ms:List ME}{x:Str}{e:Expr}{es:List Expr}{p pos:Pos}(g:Gf X T k cal)(hf:T.fs[f]?=some x)(hg:glB X.env.scope x=true)(hn:ah x=true)(ha:PE X e (tX X.K cal a))(has:PA X es (tAs X.K cal ms))(D:ab e=true)(hs:es.all ab=true):PE X (.Call (.Name x p) (e::es) [] pos) (tX X.K cal (.fn f a ms)):=by
 obtain⟨fa,fd,ps,h1,h2,h3,F,_⟩:=g.fns f x hf;refine(jF F g.room (dB hg) h1 h2 h3 .nil ik (aI ha has (aQ D es _)) (dQ hn).1 (aQ D es _) (bg hs)).imp λσ H Q q=>?_
 obtain⟨B,O₀,O,ρ,v,ρ',st,J,q⟩:=q;rw[evX]at J;simp only[bind_eq_some_iff,map_eq_some_iff]at J;obtain⟨⟨w,U⟩,J,vs,e2,r,e3,e4⟩:=J;cases e4;refine⟨B,O₀,O,ρ,w,U,st,J,λux H1 v1 z k1 rx=>⟨B,O₀,O,U,vs,z,e2,λus H2 Y g2=>⟨O,.val w::vs,v,aW Y z.here,?_,e3,λu H3 Z ru=>q u H3 (v1.trans (af (Y.trans Z))) (z.mono (Y.trans Z)) k1 ru⟩⟩⟩;rw[append_nil];exact .cons (show Rep X.K (aj H2 O) w ux from Rep.mono (af Y) _ rx) g2
theorem Cg:PA X [] (tXs X.K cal []):=by
 refine bD.imp λσ H Q q=>?_
 obtain⟨B,O₀,O,ρ,vs,ρ',st,z,q⟩:=q;rw[evXs]at z;cases z;exact q [] H (ae.refl _) st .refl .nil
theorem Ae{x:XE}{xs:List XE}{e:Expr}{es:List Expr}(h:PE X e (tX X.K cal x))(Z:PA X es (tXs X.K cal xs))(hn:ab e=true):PA X (e::es) (tXs X.K cal (x::xs)):=by
 refine(aI h Z (aQ hn es _)).imp λσ H Q q=>?_
 obtain⟨B,O₀,O,ρ,vs,ρ',st,z,q⟩:=q;rw[evXs]at z;simp only[bind_eq_some_iff,map_eq_some_iff]at z;obtain⟨⟨v,D⟩,z,⟨ws,ap⟩,e2,e3⟩:=z;cases e3;exact⟨B,O₀,O,ρ,v,D,st,z,λu H1 v1 J k1 ru=>⟨B,O₀,O,D,ws,_,J,e2,λus H2 Y U k2 rs=>q (u::us) H2 (v1.trans Y) U (k1.trans k2) (.cons (Rep.mono Y _ ru) rs)⟩⟩
theorem Ch{xs:List XE}{es:List Expr}{j:Nat}{pos:Pos}(h:PA X es (tXs X.K cal xs)):PE X (.Tuple es j pos) (tX X.K cal (.tup xs)):=by
 refine(pC h).imp λσ H Q q=>?_
 obtain⟨B,O₀,O,ρ,v,ρ',st,D,q⟩:=q;rw[evX,bind_eq_some_iff]at D;obtain⟨⟨vs,ao⟩,D,J⟩:=D;dsimp only at J;split at J
 ·rename_i hl;cases J;refine⟨B,O₀,O,ρ,vs,_,st,D,λus H1 v1 z k1 U=>⟨?_,λp Y=>?_⟩⟩
  ·rw[<- U.length];exact cF hl
  ·have Z:ae H1 (upd H1 p (.tup us)):=aM Y _;exact q _ _ (v1.trans (af Z)) (z.mono Z) k1 (fC z.here Y U)
 ·cases J
theorem xB {a:XE}{e:Expr}{p pos:Pos} (g:Gf X T k cal) (Z:glB X.env.scope ("tuple":Str)=true) (ha:PE X e (tX X.K cal a)) (U:ab e=true):PE X (.Call (.Name ("tuple":Str) p) [e] [] pos) (tX X.K cal (.tupOf a)):=by
 refine(gw re (dB Z) (g.blt "tuple" (by decide)) kH (aI ha bD (aQ U _ _)) (by decide) (by decide) (aQ U [] _) (bg rfl)).imp λσ H Q q=>?_
 obtain⟨B,O₀,O,ρ,v,ρ',st,z,q⟩:=q;rw[evX]at z;simp only[bind_eq_some_iff,map_eq_some_iff]at z;obtain⟨⟨w,J⟩,z,r,e2,e3⟩:=z;cases e3;exact⟨B,O₀,O,ρ,w,J,st,z,λu H1 v1 D k1 ru=>⟨O,[w],_,D.here,.cons (.inl ru) .nil,e2,λu2 H2 Y r2=>q u2 H2 (v1.trans (af Y)) (D.mono Y) k1 r2⟩⟩
theorem Ci{xs:List XE}{es:List Expr}{pos:Pos}(h:PA X es (tXs X.K cal xs)):PE X (.List es pos) (tX X.K cal (.lst xs)):=by
 refine(tV h).imp λσ H Q q=>?_
 obtain⟨B,O₀,O,ρ,v,ρ',st,D,q⟩:=q;rw[evX,bind_eq_some_iff]at D;obtain⟨⟨vs,ao⟩,D,J⟩:=D;dsimp only at J;split at J
 ·rename_i hl;cases J;refine⟨B,O₀,O,ρ,vs,_,st,D,λus H1 v1 z k1 U=>⟨?_,λp Y=>?_⟩⟩
  ·rw[<- U.length];exact cF hl
  ·have Z:ae H1 (upd H1 p (.lst us)):=aM Y _;exact q _ _ (v1.trans (af Z)) (z.mono Z) k1 (kD z.here Y U)
 ·cases J
theorem Cj{f:Nat}{m:ME}{a:XE}{x:Str}{l r:Expr}{p pos:Pos}(g:Gf X T k cal)(hf:T.fs[f]?=some x)(hg:glB X.env.scope x=true)(hn:ah x=true)(hm:PE X l (tE X.K cal m))(hb:al m=false)(ha:PE X r (tX X.K cal a))(z:ab l=true)(D:ab r=true):PE X (.Call (.Name x p) [l,r] [] pos) (tX X.K cal (.fn2 f m a)):=by
 obtain⟨fa,fd,ps,h1,h2,h3,F,_⟩:=g.fns f x hf;refine(jF F g.room (dB hg) h1 h2 h3 .nil ik (aI hm (aI ha bD (aQ D _ _)) (aQ z _ _)) (dQ hn).1 (aQ z [r] _) (bg (by rw[all_cons,D];rfl))).imp λσ H Q q=>?_
 obtain⟨B,O₀,O,ρ,v,ρ',st,J,q⟩:=q;rw[evX]at J;simp only[bind_eq_some_iff,map_eq_some_iff]at J;obtain⟨w,J,⟨Y,a5⟩,e2,r,e3,e4⟩:=J;cases e4;refine⟨B,O₀,O,ρ,w,st,J,λux H1 Z g1=>⟨B,O₀,O,ρ,Y,_,st.mono Z,e2,λuy H2 v2 U k2 ry=>⟨O,[.val w,.val Y],v,U.here,?_,e3,λu H3 s3 ru=>q u H3 ((af Z).trans (v2.trans (af s3))) (U.mono s3) k2 ru⟩⟩⟩;rw[append_nil];exact .cons (show Rep X.K (aj H2 O) w ux from Rep.mono v2 _ (g1.2 hb)) (.cons (show Rep X.K (aj H2 O) Y uy from ry) .nil)
theorem xC{z:ME}{js:List Nat}{j:SK}{e:ME}{f:Nat}{D:List Bool}{ms:List ME}{y:Str}{py cpos:Pos}{el it:Expr}{scope:Scope}(g:Gf X T k cal)
  (a0:bW X.env.scope X.N scope y (aF X.N js) js=true) (hw:PI X (.Name y py) it (tW X.K cal .seq [z])) (a1:dF it=true) (hb:al z=false) (a2:js.Nodup) (he:∀U Y C fp,PE (X.blk y (aF X.N js) scope U Y C fp) el (tSr X.K cal j e f D ms)) :
  PE X (.ListComp el [⟨.Name y py,it,[],0⟩] scope cpos) (tX X.K cal (.compS z js j e f D ms)):=by
 refine(mI (tt:=tT X.K cal (.cst (.bl true))) (gA a0) g.calm hw (λU Y C fp=>jb (show gj (λ_=>false) (.cst (.bl true)) []=true from rfl) λc hc=>nomatch hc) he (by intro v;cases it<;>first|rfl|(simp[dF]at a1))).imp λσ H Q q=>?_
 obtain⟨B,O₀,O,ρ,v,ρ',st,Z,q⟩:=q;rw[evX]at Z;simp only[bind_eq_some_iff]at Z;obtain⟨vs,e2,xs,e3,Z⟩:=Z;split at Z
 ·rename_i ao;rw[map_eq_some_iff]at Z;obtain⟨⟨ws,b1⟩,e1,e4⟩:=Z;cases e4;have ap:aT [z] ρ σ=[]:=by
   cases z<;>first|rfl|(cases hb;done)
  refine⟨B,O₀,O,ρ,vs,xs,st,e2,e3,λJ H1 s1 aO D' hD=>?_⟩;rw[ap]at aO;exact jv a2 st s1 aO ao e1 hD λH' v' a3 k' ru=>q _ H' v' a3 k' ru
 ·cases Z
noncomputable def tWX(K:PySem.W.Frag)(cal:Cal)(y:XE):TI:=λσ H R =>
 ∃B O₀ O ρ v ρ' xs,aw K B O₀ O H ρ σ/\evX cal y ρ=some (v,ρ')/\bc .rng [v]=some xs/\∀J H1,ae (aj H O) (aj H1 O)->aw K B O₀ O H1 ρ' σ->a_ B O O ρ ρ' σ σ->jD K J xs (aj H1 O) (aU B O H1 (aT [.cst v] ρ' σ))->R J H1
theorem oG {tg:Expr}{y:XE}{e:Expr}{p pos:Pos} (g:Gf X T k cal) (Y:glB X.env.scope ("range":Str)=true) (h:PE X e (tX X.K cal y)) (J:ab e=true):PI X tg (.Call (.Name ("range":Str) p) [e] [] pos) (tWX X.K cal y):=by
 refine(lC (dB Y) (g.blt "range" (by decide)) (aI h bD (aQ J _ _)) (aQ J _ _)).imp λσ H R q=>?_
 obtain⟨B,O₀,O,ρ,v,ρ',xs,st,Z,z,q⟩:=q;refine⟨B,O₀,O,ρ,v,ρ',st,Z,λu H1 v1 D k1 U=>?_⟩;cases v with
 | int j =>
  simp only[bc]at z;split at z
  ·rename_i c;cases z;rw[Rep]at U;subst U;exact⟨j,rfl,c.1,c.2,q _ _ v1 D k1 kF⟩
  ·cases z
 | _=>simp[bc]at z
theorem xD{y:XE}{js:List Nat}{j:SK}{e:ME}{f:Nat}{D:List Bool}{ms:List ME}{z:Str}{py p rp cpos:Pos}{el a:Expr}{scope:Scope}(g:Gf X T k cal)
  (ap:bW X.env.scope X.N scope z (aF X.N js) js=true) (hg:glB X.env.scope ("range":Str)=true) (h:PE X a (tX X.K cal y)) (hs:ab a=true) (aO:js.Nodup) (he:∀U Y C fp,PE (X.blk z (aF X.N js) scope U Y C fp) el (tSr X.K cal j e f D ms)) :
  PE X (.ListComp el [⟨.Name z py,.Call (.Name ("range":Str) p) [a] [] rp,[],0⟩] scope cpos) (tX X.K cal (.compR y js j e f D ms)):=by
 refine(mI (tt:=tT X.K cal (.cst (.bl true))) (gA ap) g.calm (oG g hg h hs) (λU Y C fp=>jb (show gj (λ_=>false) (.cst (.bl true)) []=true from rfl) λc hc=>nomatch hc) he (by intro v;rfl)).imp λσ H Q q=>?_
 obtain⟨B,O₀,O,ρ,v,ρ',st,Z,q⟩:=q;rw[evX]at Z;simp only[bind_eq_some_iff]at Z;obtain⟨⟨w,a0⟩,e1,xs,e2,Z⟩:=Z;split at Z
 ·rename_i ao;rw[map_eq_some_iff]at Z;obtain⟨⟨ws,b3⟩,e3,e4⟩:=Z;cases e4;exact⟨B,O₀,O,ρ,w,a0,xs,st,e1,e2,λJ H1 v1 a1 k1 a2 D' hD=>jv aO a1 (ae.refl H1) a2 ao e3 hD λH' v' a3 k' ru=>q _ H' (v1.trans v') a3 (k1.trans k') ru⟩
 ·cases Z
theorem Af{op:Op2}{a:ME}{b:XE}{l r:Expr}{pos:Pos}(Z:al a=false)(ha:PE X l (tE X.K cal a))(hb:PE X r (tX X.K cal b)):PE X (.BinOp l (jC op) r pos) (tX X.K cal (.binR op a b)):=by
 refine(lD (mV op) ha hb).imp λσ H Q q=>?_
 obtain⟨B,O₀,O,ρ,v,ρ',st,z,q⟩:=q;rw[evX]at z;simp only[bind_eq_some_iff,map_eq_some_iff]at z;obtain⟨x,z,⟨y,aO⟩,e2,r,e3,e4⟩:=z;cases e4;exact⟨B,O₀,O,ρ,x,st,z,λux H1 J g1=>⟨B,O₀,O,ρ,y,_,st.mono J,e2,λuy H2 U D k2 ry=>⟨O,x,y,v,D.here,.inl (Rep.mono U _ (g1.2 Z)),.inl ry,e3,λu H3 Y ru=>q u H3 ((af J).trans (U.trans (af Y))) (D.mono Y) k2 ru⟩⟩⟩
theorem xE {i:Nat}{x:Str}{p apos cpos:Pos} (g:Gf X T k cal) (hn:aG X.N X.env.scope i x=true) (U:(apos.endLine==cpos.line)=true):PE X (.Call (.Attribute (.Name x p) ("next_word":Str) apos) [] [] cpos) (tX X.K cal (.nextw i)):=by
 obtain⟨C,hC,_⟩:=g.wini;have one:∀J,IsW X.K J->J=C:=λJ h=>by
  have:=h.symm.trans hC;cases this
  rfl
 by_cases hL:cal 4000 []=none
 ·intro pins s σ H Q I q;obtain⟨B,O₀,O,ρ,v,ρ',st,D,q⟩:=q;have D:kx cal i ρ=some (v,ρ'):=D;unfold kx at D;split at D
  ·rw[if_pos hL]at D;cases D
  ·cases D
 ·obtain⟨c1,_,fa,fd,ps,h1,h3,F⟩:=g.wcls C hC;refine(jY (bP hn) c1 h1 F (dj.mono (g.wlvl hL) (by decide)) h3 .nil ik (mY rfl (by decide) U)).imp λσ H Q q=>?_
  obtain⟨B,O₀,O,ρ,v,ρ',st,D,q⟩:=q;have D:kx cal i ρ=some (v,ρ'):=D;unfold kx at D;split at D
  ·rename_i ws n hd;rw[if_neg hL,map_eq_some_iff]at D;obtain⟨y,ey,Z⟩:=D;cases Z;obtain⟨a,Y,dat,hO,key⟩:∃a,σ[i]?=some (some (.ref a))/\DAt X.K H O a (.w ws n)/\a∈O/\∀ob,(aj (upd H a ob) O=aj H O->DAt X.K (upd H a ob) O a (.w ws (n+1)))->aw X.K B O₀ O (upd H a ob) (b_ ρ i (.w ws (n+1))) σ/\a_ B O O ρ (b_ ρ i (.w ws (n+1))) σ σ:=by
    rcases c8 hd with e|e
    ·obtain⟨u,Y,a,rfl,h1,h2,h3⟩:=aK st e;refine⟨a,Y,h1,h2,λob hd=>?_⟩;have Z:b_ ρ i (.w ws (n+1))=put ρ i (.ownD (.w ws (n+1))):=by unfold b_;rw[e];rfl
     rw[Z];exact st.changeD (ax e) Y hd
    ·obtain⟨u,Y,a,rfl,h1,h2,h3⟩:=aK st e;refine⟨a,Y,h1,h2,λob hd=>?_⟩;have Z:b_ ρ i (.w ws (n+1))=put ρ i (.mutD (.w ws (n+1))):=by unfold b_;rw[e];rfl
     rw[Z];exact st.changeU (ax e) Y hd
   obtain⟨J,dx,l,h4,h5,h6⟩:=dat;obtain rfl:=one J h5;have aO:ae (aj H O) (aj (upd H a (.ins J dx (wGs l (n+1:Nat)))) O):=λb o e=>by
    have hb:b∉O:=λz=>by rw[dv z]at e;cases e
    rw[aL hb]at e ⊢;rw[az (show b≠a from λz=>hb (z ▸ hO))];exact e
   obtain⟨a0,k'⟩:=key (.ins J dx (wGs l (n+1:Nat))) λa1=>⟨J,dx,l,au,h5,by rw[a1];exact h6⟩
   exact⟨_,Y,a,dx,_,rfl,h4,rfl,a,dx,l,n,ws.map V.str,.str y,rfl,h4,(br H O).seq h6,by rw[getElem?_map,ey];rfl,q _ _ aO a0 k' (iH _ _)⟩
  ·cases D
mutual
theorem c9(g:Gf X T k cal):∀(x:XE) (e:Expr),bX T x X.N X.env.scope e=true->PE X e (tX X.K cal x)
 | .pure m,e,h=>by
  have h:(chk T m X.N X.env.scope e&&!al m&&cD e)=true:=h;simp only[Bool.and_eq_true,Bool.not_eq_true']at h;exact Ac h.1.2 (ak m g h.1.1).1
 | .call f mask ms,e,h=>by
  obtain⟨y,p,args,cp,rfl,hq⟩:=kz (show dP T f mask ms X.N X.env.scope e=true from h);simp only[Bool.and_eq_true,beq_iff_eq,decide_eq_true_eq,Bool.not_eq_true']at hq;obtain⟨⟨⟨⟨⟨⟨q1,q2⟩,q3⟩,q4⟩,q5⟩,q6⟩,q7⟩:=hq;cases args with
  |nil=>cases q7
  |cons a args=>exact Ad (rk g q1 q2 q3 (m4 g mask ms (a::args) q4 q5 q6) (bm q4).1)
 | .pop i,e,h=>by
  obtain⟨q,D,h⟩:=bL (show onQ (og e) (λq=>aG X.N X.env.scope i q.1&&q.2.1==("pop":Str)&&q.2.2.1.endLine==q.2.2.2.line)=true from h);obtain⟨y,m,ap,cp⟩:=q;obtain⟨p,rfl⟩:=mP D;obtain⟨J,h3⟩:=Bool.and_eq_true_iff.mp h;obtain⟨h1,h2⟩:=Bool.and_eq_true_iff.mp J;obtain rfl:m=("pop":Str):=eq_of_beq h2;exact Ce h1 h3
 | .bin op a b,e,h=>by
  obtain⟨q,D,h⟩:=bL (show onQ (sy e) (λq=>q.2.1==jC op&&bX T a X.N X.env.scope q.1&&chk T b X.N X.env.scope q.2.2)=true from h);obtain⟨l,o,r⟩:=q;obtain⟨pos,rfl⟩:=qV D;obtain⟨J,h3⟩:=Bool.and_eq_true_iff.mp h;obtain⟨h1,h2⟩:=Bool.and_eq_true_iff.mp J;obtain rfl:o=jC op:=eq_of_beq h1;exact Cf (c9 g a l h2) (ak b g h3).1
 | .fn f a ms,e,h=>by
  obtain⟨q,D,h⟩:=bL (show onQ (fnQ e) (λq=>T.fs[f]?==some q.1&&glB X.env.scope q.1&&ah q.1&&bX T a X.N X.env.scope q.2.1&&ab q.2.1&&chks T ms X.N X.env.scope q.2.2)=true from h);obtain⟨y,l,r⟩:=q;obtain⟨p,pos,rfl⟩:=mQ D;obtain⟨J,h6⟩:=Bool.and_eq_true_iff.mp h;obtain⟨Z,h5⟩:=Bool.and_eq_true_iff.mp J;obtain⟨a3,h4⟩:=Bool.and_eq_true_iff.mp Z;obtain⟨a4,h3⟩:=Bool.and_eq_true_iff.mp a3;obtain⟨h1,h2⟩:=Bool.and_eq_true_iff.mp a4;exact DW g (eq_of_beq h1) h2 h3 (c9 g a l h4) (soundA ms g h6) h5 (bm h6).1
 | .tup xs,e,h=>by
  obtain⟨q,D,h⟩:=bL (show onQ (w8 e) (λq=>chkXEs T xs X.N X.env.scope q)=true from h);obtain⟨j,pos,rfl⟩:=w9 D;exact Ch (soundXEs g xs q h)
 | .lst xs,e,h=>by
  obtain⟨q,D,h⟩:=bL (show onQ (w_ e) (λq=>chkXEs T xs X.N X.env.scope q)=true from h);obtain⟨pos,rfl⟩:=xa D;exact Ci (soundXEs g xs q h)
 | .fn2 f m a,e,h=>by
  obtain⟨q,D,h⟩:=bL (show onQ (xb e) (λq=>T.fs[f]?==some q.1&&glB X.env.scope q.1&&ah q.1&&chk T m X.N X.env.scope q.2.1&&!al m&&ab q.2.1&&bX T a X.N X.env.scope q.2.2&&ab q.2.2)=true from h);obtain⟨y,l,r⟩:=q;obtain⟨p,pos,rfl⟩:=xc D;obtain⟨J,h8⟩:=Bool.and_eq_true_iff.mp h;obtain⟨Z,h7⟩:=Bool.and_eq_true_iff.mp J;obtain⟨a3,h6⟩:=Bool.and_eq_true_iff.mp Z;obtain⟨a4,h5⟩:=Bool.and_eq_true_iff.mp a3;obtain⟨a5,h4⟩:=Bool.and_eq_true_iff.mp a4;obtain⟨a6,h3⟩:=Bool.and_eq_true_iff.mp a5;obtain⟨h1,h2⟩:=Bool.and_eq_true_iff.mp a6;exact Cj g (eq_of_beq h1) h2 h3 (ak m g h4).1 (by simpa using h5) (c9 g a r h7) h6 h8
 | .tupOf a,e,h=>by
  obtain⟨q,D,h⟩:=bL (show onQ (fnQ e) (λq=>q.1==("tuple":Str)&&glB X.env.scope q.1&&q.2.2.isEmpty&&bX T a X.N X.env.scope q.2.1&&ab q.2.1)=true from h);obtain⟨y,l,r⟩:=q;obtain⟨p,pos,rfl⟩:=mQ D;obtain⟨J,h5⟩:=Bool.and_eq_true_iff.mp h;obtain⟨Z,h4⟩:=Bool.and_eq_true_iff.mp J;obtain⟨a3,h3⟩:=Bool.and_eq_true_iff.mp Z;obtain⟨h1,h2⟩:=Bool.and_eq_true_iff.mp a3;obtain rfl:y=("tuple":Str):=eq_of_beq h1;obtain rfl:r=[]:=isEmpty_iff.mp h3;exact xB g h2 (c9 g a l h4) h5
 | .compS src js j m f mask ms,e,h=>by
  obtain⟨c,e2,h2⟩:=bL (show onQ (lU e) (λc=>bW X.env.scope X.N c.2.1 c.2.2.1 (aF X.N js) js&&dg X.env.scope false (λxs=>chks T [src] X.N X.env.scope xs) .seq c.2.2.2&&!al src&&p8 T j m f mask ms (c.2.2.1::aF X.N js) (dO c.2.1 X.env.scope) c.1&&decide js.Nodup)=true from h);obtain⟨py,cpos,rfl⟩:=oe e2;obtain⟨el,scope,y,it⟩:=c;simp only[Bool.and_eq_true,Bool.not_eq_true',decide_eq_true_eq]at h2;obtain⟨⟨⟨⟨h5,h6⟩,h7⟩,h8⟩,h9⟩:=h2;have hw:=jc (tg:=.Name y py) (λz=>by cases z) g h6 (λxs aO=>⟨sounds [src] g aO,bm aO⟩) (λm x hm hx=>by cases hm;exact(ak src g (by simp only[chks,Bool.and_eq_true]at hx;exact hx.1.1)).1);exact xC g h5 hw.1 hw.2 h7 h9 λU Y C fp=>vb (g.blk y (aF X.N js) scope U Y C fp) h8
 | .nextw i,e,h=>by
  obtain⟨q,D,h⟩:=bL (show onQ (og e) (λq=>aG X.N X.env.scope i q.1&&q.2.1==("next_word":Str)&&q.2.2.1.endLine==q.2.2.2.line)=true from h);obtain⟨y,m,ap,cp⟩:=q;obtain⟨p,rfl⟩:=mP D;obtain⟨J,h3⟩:=Bool.and_eq_true_iff.mp h;obtain⟨h1,h2⟩:=Bool.and_eq_true_iff.mp J;obtain rfl:m=("next_word":Str):=eq_of_beq h2;exact xE g h1 h3
 | .binR op a b,e,h=>by
  obtain⟨q,D,h⟩:=bL (show onQ (sy e) (λq=>q.2.1==jC op&&chk T a X.N X.env.scope q.1&&!al a&&bX T b X.N X.env.scope q.2.2)=true from h);obtain⟨l,o,r⟩:=q;obtain⟨pos,rfl⟩:=qV D;obtain⟨J,h4⟩:=Bool.and_eq_true_iff.mp h;obtain⟨Z,h3⟩:=Bool.and_eq_true_iff.mp J;obtain⟨h1,h2⟩:=Bool.and_eq_true_iff.mp Z;obtain rfl:o=jC op:=eq_of_beq h1;exact Af (by simpa using h3) (ak a g h2).1 (c9 g b r h4)
 | .compR y js j m f mask ms,e,h=>by
  obtain⟨c,e2,h2⟩:=bL (show onQ (lU e) (λc=>bW X.env.scope X.N c.2.1 c.2.2.1 (aF X.N js) js&&onQ (fnQ c.2.2.2) (λq=>q.1==("range":Str)&&glB X.env.scope q.1&&q.2.2.isEmpty&&bX T y X.N X.env.scope q.2.1&&ab q.2.1)&&p8 T j m f mask ms (c.2.2.1::aF X.N js) (dO c.2.1 X.env.scope) c.1&&decide js.Nodup)=true from h);obtain⟨py,cpos,rfl⟩:=oe e2;obtain⟨el,scope,z,it⟩:=c;simp only[Bool.and_eq_true,decide_eq_true_eq]at h2;obtain⟨⟨⟨h5,h6⟩,h8⟩,h9⟩:=h2;obtain⟨q,e3,h6⟩:=bL h6;obtain⟨r,a,as⟩:=q;obtain⟨p,rp,e4⟩:=mQ e3;simp only[Bool.and_eq_true,beq_iff_eq]at h6;obtain⟨⟨⟨⟨k1,k2⟩,k3⟩,k4⟩,k5⟩:=h6;dsimp only at e4 k1 k2 k3 k4 k5;obtain rfl:as=[]:=isEmpty_iff.mp k3;subst k1;subst e4;exact xD g h5 k2 (c9 g y a k4) k5 h9 λU Y C fp=>vb (g.blk z (aF X.N js) scope U Y C fp) h8
theorem soundXEs(g:Gf X T k cal):∀(xs:List XE) (es:List Expr),chkXEs T xs X.N X.env.scope es=true->PA X es (tXs X.K cal xs)
 | [],es,h=>by
  cases es with
  |nil=>exact Cg
  |cons _ _=>cases h
 | x::xs,es,h=>by
  cases es with
  |nil=>cases h
  |cons e es =>
   have h:(bX T x X.N X.env.scope e&&ab e&&chkXEs T xs X.N X.env.scope es)=true:=h;simp only[Bool.and_eq_true]at h;exact Ae (c9 g x e h.1.1) (soundXEs g xs es h.2) h.1.2
end
theorem Ag{i:Nat}{y:XE}{x:Str}{v:Expr}{px pos:Pos}(d:Df X)(hi:X.N[i]?=some x)(hx:Loc X.env.scope x)(h:PE X v (tX X.K cal y))(hc:cD v=true):PS X (.Assign [.Name x px] v pos) (tS X.K cal (.setX i y)):=
 PS.imp' (jT d.nd hi hx h (eH hc _ _ _) (.inl (d.fn x))) λD σ H U q=>by
  obtain⟨B,O₀,O,ρ,st,q⟩:=q;rw[ex]at q;cases e:evX cal y ρ with
  |none=>rw[e]at q;exact(show False from q).elim
  |some cr =>
   obtain⟨s,ρ'⟩:=cr;rw[e]at q;refine⟨B,O₀,O,ρ,s,ρ',st,e,λu H' _ z Y Z=>?_⟩;obtain⟨J,k2⟩:=z.store (ltN hi U) Z;exact q _ H' O J (Y.trans k2)
theorem xF{y:XE}{v:Expr}{pos:Pos}(h:PE X v (tX X.K cal y)):PS X (.Return (some v) pos) (tS X.K cal (.retXE y)):=by
 refine(iS h).imp λD σ H q=>?_
 obtain⟨B,O₀,O,ρ,st,q⟩:=q;rw[ex]at q;cases e:evX cal y ρ with
 |none=>rw[e]at q;exact(show False from q).elim
 |some cr =>
  obtain⟨s,ρ'⟩:=cr;rw[e]at q;exact⟨B,O₀,O,ρ,s,ρ',st,e,λu H' _ z J U=>q u σ H' O z J U⟩
theorem Ah {i:Nat}{y:XE}{x:Str}{v:Expr}{p apos cpos pos:Pos} (h:PE X v (tX X.K cal y)) (hn:aG X.N X.env.scope i x=true) (hs:ab v=true) (hline:(apos.endLine==cpos.line)=true) :
  PS X (.Expr (.Call (.Attribute (.Name x p) "append" apos) [v] [] cpos) pos) (tS X.K cal (.appX i y)):=by
 refine(mn (nH PySem.F.plainAttrs_list PySem.F.slot_list_append PySem.F.type_list_append iV (bP hn) (aI h bD (aQ hs _ _)) rfl (by rw[aQ hs];rfl) hline (aQ hs _ _) rfl) rfl).imp λD σ H q=>?_
 obtain⟨B,O₀,O,ρ,st,q⟩:=q;rw[ex]at q;cases hj:(ρ[i]?).join with
 |none=>rw[hj]at q;exact(show False from q).elim
 | some m =>
  rw[hj]at q;cases m with
  | own xs₀ =>
   dsimp only at q;obtain⟨u₀,eu,a,us₀,rfl,ha,_,hO,_⟩:=aK st hj;cases e:evX cal y ρ with
   |none=>rw[e]at q;exact(show False from q).elim
   | some cr =>
    obtain⟨w,ρ'⟩:=cr;rw[e]at q;dsimp only at q;cases hj':(ρ'[i]?).join with
    |none=>rw[hj']at q;exact(show False from q).elim
    | some m' =>
     rw[hj']at q;cases m' with
     | own xs =>
      dsimp only at q;split at q
      ·rename_i hl;refine⟨_,eu,.inl ⟨rfl,us₀,SqL.of ha⟩,B,O₀,O,ρ,w,ρ',st,e,λu H1 v1 st1 k1 ru=>?_⟩;obtain⟨u1,eu1,a1,us,e5,ha1,rs,_,_⟩:=aK st1 hj';rw[eu]at eu1;cases eu1;cases e5;refine⟨a,us,u,rfl,rfl,ha1,?_,?_⟩
       ·rw[<- rs.length];exact Nat.lt_of_lt_of_le hl (by decide)
       ·obtain⟨st2,k2⟩:=st1.change (us:=us ++ [u]) (ys:=xs ++ [w]) (ax hj') eu (rs.snoc ru);exact q _ _ _ st2 (k1.trans k2)
      ·exact(show False from q).elim
     | _=>exact(show False from q).elim
  | _=>exact(show False from q).elim
theorem aw.storeP{K:PySem.W.Frag}{B H H':Hp}{O₀ O:List Addr}{ρ:Rho}{σ:St}{i:Nat}{p:Addr}{ns:List Int}{us:List V}(st:aw K B O₀ O H ρ σ)(hi:i<σ.length)(s:ae H H')(D:H p=none)(q:H' p=some (.lst us))(r:Reps K (aj H' (p::O)) (ns.map .int) us):aw K B O₀ (p::O) H' (put ρ i (.ownD (.p ns))) (σ.set i (some (.ref p)))/\a_ B O (p::O) ρ (put ρ i (.ownD (.p ns))) σ (σ.set i (some (.ref p))):=by
 have J:=r.ints;subst J;exact st.storeM (mm:=.ownD (.p ns)) hi s D (by rw[q];simp) rfl (λ_ z=>by cases z) λU=>⟨p,rfl,q,mem_cons_self,U⟩
theorem Ai {i:Nat}{me:ME}{x:Str}{e:Expr}{px p p2 pos2 cp pos:Pos} (g:Gf X T k cal) (d:Df X) (hi:X.N[i]?=some x) (hx:Loc X.env.scope x) (h1:glB X.env.scope ("list":Str)=true) (h2:glB X.env.scope ("reversed":Str)=true) (h:PE X e (tE X.K cal me)) (hs:ab e=true):PS X (.Assign [.Name x px] (.Call (.Name ("list":Str) p) [.Call (.Name ("reversed":Str) p2) [e] [] pos2] [] cp) pos) (tS X.K cal (.setP i me)):=by
 refine PS.imp' (jT d.nd hi hx (pV g.calm (dB h1) (g.blt "list" (by decide)) rh (dB h2) (g.blt "reversed" (by decide)) h (aQ hs _ _)) (eH (v:=.Call _ _ _ _) rfl _ _ _) (.inl (d.fn x))) λD σ H hl q=>?_
 obtain⟨B,O₀,O,ρ,st,q⟩:=q;rw[ex]at q;cases e1:ev cal me ρ with
 |none=>rw[e1]at q;exact(show False from q).elim
 | some w =>
  rw[e1]at q;cases w with
  | lst xs =>
   dsimp only at q;cases e2:bB xs with
   |none=>rw[e2]at q;exact(show False from q).elim
   |some ns =>
    rw[e2]at q;have e3:=gf e2;subst e3;refine⟨B,O₀,O,ρ,_,st,e1,λu H1 s1 g1=>?_⟩;obtain⟨a,us,rfl,sq,rs⟩:=g1.1.lst;have e4:=rs.ints;subst e4;refine⟨a,_,rfl,sq,λl hl2=>?_⟩;rw[show(ns.map V.int).reverse=ns.reverse.map V.int from map_reverse.symm];obtain⟨st',k'⟩:=st.storeP (ns:=ns.reverse) (ltN hi hl) (s1.trans (aM hl2 (.lst (ns.reverse.map V.int)))) (s1.free hl2) au (Reps.of_ints _);exact q _ _ _ st' k'
  | _=>exact(show False from q).elim
end
section
variable{X:Cx}{T:Tab}{k:Nat}{cal:Cal}
theorem kL{ss:List Stmt}:PSs X ss (λ_ _ _=>False):=λ_ _ _ _ _ _ h=>h.elim
theorem vd {i:Nat}{x:Str}{p Z cp pos:Pos}{a:List Stmt} (g:Gf X T k cal) (hn:aG X.N X.env.scope i x=true) (J:(Z.endLine==cp.line)=true):PS X (.If (.Call (.Attribute (.Name x p) ("are_left":Str) Z) [] [] cp) a [] pos) (tS X.K cal (.nomore i)):=by
 obtain⟨C,hC,_⟩:=g.wini;have one:∀U,IsW X.K U->U=C:=λU h=>by
  have:=h.symm.trans hC;cases this
  rfl
 by_cases hL:cal 4000 []≠none
 ·obtain⟨c1,⟨fa,fd,ps,h1,h3,F⟩,_⟩:=g.wcls C hC;refine(qz (ph (jY (bP hn) c1 h1 F (dj.mono (g.wlvl hL) (by decide)) h3 .nil ik (mY rfl (by decide) J)) (by intro w;rfl)) kL jE).imp λD σ H q=>?_
  obtain⟨B,O₀,O,ρ,st,q⟩:=q;rw[ex]at q;split at q
  ·rename_i ws n hd;split at q
   ·rename_i hc;obtain⟨a,Y,dat⟩:∃a,σ[i]?=some (some (.ref a))/\DAt X.K H O a (.w ws n):=by
     rcases c8 hd with e|e
     ·obtain⟨u,Y,a,rfl,h1,_⟩:=aK st e;exact⟨a,Y,h1⟩
     ·obtain⟨u,Y,a,rfl,h1,_⟩:=aK st e;exact⟨a,Y,h1⟩
    obtain⟨U,dx,l,h4,h5,h6⟩:=dat;obtain rfl:=one U h5;refine⟨_,Y,a,dx,_,rfl,h4,rfl,a,dx,l,(n:Nat),ws.map V.str,rfl,h4,(br H O).seq h6,false,?_,?_⟩
    ·rw[length_map,hc.1];simp
    ·exact q σ H O st .refl
   ·exact(show False from q).elim
  ·exact(show False from q).elim
 ·intro pins s σ H D I q;obtain⟨B,O₀,O,ρ,st,q⟩:=q;rw[ex]at q;split at q
  ·rw[if_neg λz=>hL z.2]at q;exact(show False from q).elim
  ·exact(show False from q).elim
theorem Aj{d:Addr}{o:Obj}{es:Array DictEntry}{ep:Nat}(z:(d==sysModules)=false)(D:List.lookup d X.K=some o)(hx:o.ExactDict)(hd:o.data=.dict es ep)(J:∀e∈es,∃k,Value.isStrOf k e.key=true/\e.hash=hashStr X.w k) :
  OpR X (compareOp .NotIn) (λx y H Q=>∃k,x=.str k/\y=.ref d/\Q (.bl (!(findBy Value.isStrOf es k).isSome)) H):=by
 rintro pins s σ H x y v u Q I U Y ⟨k,rfl,rfl,q⟩;obtain⟨t,rfl⟩:=U;cases Y;exact wpAny_notIn_of (knd:=strKind X.prog X.w) (k:=k) (f:=findBy Value.isStrOf es) (by show Value.isStrOf k (.str k t)=true;simp[Value.isStrOf]) z ⟨o,es,ep,I.kIn d o D,hx,hd,J,λ_=>rfl⟩ ⟨.bl _,H,I.tok _,rfl,q⟩
theorem xG{x:Str}{m:ME}{l:Expr}{p cp pos:Pos}{a:List Stmt}(g:Gf X T k cal)(hg:glB X.env.scope x=true)(hn:ah x=true)(hc:(fJ.any λt=>t.1==x)=true)(h:PE X l (tE X.K cal m)):PS X (.If (.Compare l [.NotIn] [.Name x p] cp) a [] pos) (tS X.K cal (.isKey x m)):=by
 obtain⟨t,ht,rfl⟩:∃t∈fJ,t.1=x:=by
  obtain⟨t,h1,h2⟩:=List.any_eq_true.mp hc;exact⟨t,h1,eq_of_beq h2⟩
 obtain⟨d,o,es,ep,h0,h1,h2,h3,h4,h5,h6⟩:=g.ct t ht;refine(qz (qG (Aj h0 h2 h3 h4 h5) h (qy (v:=.ref d) (dB hg) h1 rfl (dQ hn).1) (by with_unfolding_all rfl)) kL jE).imp λD σ H q=>?_
 obtain⟨B,O₀,O,ρ,st,q⟩:=q;rw[ex]at q;split at q
 ·rename_i r e1;rw[bind_eq_some_iff]at e1;obtain⟨w,e1,e2⟩:=e1;cases w with
  | str k =>
   have e2:(((fJ.find? λp=>decide (p.1=t.1)).bind λt=>t.2.find? λp=>decide (p.1=k)).map (·.2))=some r:=e2;have et:fJ.find? (λp=>decide (p.1=t.1))=some t:=by
    unfold fJ at ht ⊢;simp only[mem_cons,not_mem_nil,or_false]at ht;subst ht;simp
   rw[et,bind_some,map_eq_some_iff]at e2;obtain⟨pr,e3,rfl⟩:=e2;obtain⟨val,u,f1,_⟩:=h6 pr (mem_of_find?_eq_some e3);have hk:=find?_some e3;have hk:pr.1=k:=of_decide_eq_true hk;refine⟨B,O₀,O,ρ,_,st,e1,λuy H1 s1 g1=>⟨k,g1.1.str,rfl,false,?_,?_⟩⟩
   ·rw[<- hk,f1];rfl
   ·exact q σ H1 O (st.mono s1) .refl
  | _=>cases e2
 ·exact(show False from q).elim
theorem Ck {i:Nat}{m:ME}{e:Expr}{x:Str}{px p cp pos:Pos} (g:Gf X T k cal) (d:Df X) (hi:X.N[i]?=some x) (hx:Loc X.env.scope x) (hg:glB X.env.scope ("Words":Str)=true) (h:PE X e (tE X.K cal m)) (hs:ab e=true) :
  PS X (.Assign [.Name x px] (.Call (.Name ("Words":Str) p) [e] [] cp) pos) (tS X.K cal (.mkW i m)):=by
 by_cases hL:cal 4000 []≠none
 ·obtain⟨C,hC,hm,fa,fd,ps,M,U,F⟩:=g.wini;refine PS.imp' (jT d.nd hi hx (wo M F (dj.mono (g.wlvl hL) (by decide)) (dB hg) hm U .nil ik (aI h bD (aQ hs _ _)) (by decide) (aQ hs _ _) (bg rfl)) (eH (v:=.Call (.Name ("Words":Str) p) [e] [] cp) rfl _ _ _) (.inl (d.fn x))) λD σ H hl q=>?_
  obtain⟨B,O₀,O,ρ,st,q⟩:=q;rw[ex]at q;split at q
  ·rename_i t e1;split at q
   ·rename_i hc;refine⟨B,O₀,O,ρ,_,st,e1,λu H1 Y g1 a dx Z nd ne=>?_⟩;obtain rfl:=g1.1.str;have s2:ae H1 (upd (upd H1 dx (.own a)) a (.ins C dx [])):=λb u J=>by rw[az (bb J Z),az (bb J nd)];exact J
    refine⟨a,dx,t,rfl,au,hc.1,hc.2.1,λl H' nl ea el kp=>⟨rfl,?_⟩⟩;have ap:a≠l:=λz=>by rw[<- z,au]at nl;cases nl
    have s3:ae H1 H':=λb u J=>kp b u (bb J Z) (s2 b u J)
    have aO:l∉a::O:=λz=>by
     rcases mem_cons.mp z with z|z
     ·exact ap z.symm
     ·exact st.here l z (Y.free (s2.free nl))
    obtain⟨a0,k'⟩:=st.storeM (mm:=.ownD (.w (Txt.split t (" ":Str)) 0)) (ltN hi hl) (Y.trans s3) (Y.free Z) (by rw[ea];simp) rfl (λ_ z=>by cases z) λhB=>⟨a,rfl,⟨C,dx,l,ea,hC,SqL.of (by rw[aL aO];exact el)⟩,mem_cons_self,hB⟩
    exact q _ _ _ a0 k'
   ·exact(show False from q).elim
  ·exact(show False from q).elim
 ·intro pins s σ H D I q;obtain⟨B,O₀,O,ρ,st,q⟩:=q;rw[ex]at q;split at q
  ·rw[if_neg λz=>hL z.2.2]at q;exact(show False from q).elim
  ·exact(show False from q).elim
end
section
variable{K:PySem.W.Frag}{B H:Hp}{O₀ O:List Addr}{ρ:Rho}{σ:St}
theorem Cl{H1 H':Hp}{D L:List Addr}{ρ':Rho}{σ':St}(J:aw K (aU B O H1 L) O₀ D H' ρ' σ')(k:a_ (aU B O H1 L) O D ρ ρ' σ σ'):ae (aj H1 O) (aj H' D):=λb u e=>by
 have Y:b∉O:=λz=>by rw[dv z]at e;cases e
 have U:aU B O H1 L b=some u:=cR b u e;rw[aL]
 ·exact J.keep b u U
 ·intro z;rcases k.new b z with q|q
  ·exact Y q
  ·rw[U]at q;cases q
theorem xH{ms:List ME}(st:aw K B O₀ O H ρ σ):aw K (aU B O H (aT ms ρ σ)) O₀ O H (bq ms ρ) σ/\(bq ms ρ).length=ρ.length:=by
 have base:∀L:List Addr,(∀a∈L,∀(j:Nat) (ys:MV),(bq ms ρ)[j]?=some (some ys)->gh ys=true->σ[j]?≠some (some (.ref a)))->(∀(j:Nat) (m:MV),(bq ms ρ)[j]?=some (some m)->(∃ys,m=.brw ys/\ρ[j]?=some (some (.own ys))/\∃a,σ[j]?=some (some (.ref a))/\a∈L)\/ρ[j]?=some (some m))->(bq ms ρ).length=ρ.length ->
   aw K (aU B O H L) O₀ O H (bq ms ρ) σ:=λL h1 h2 h3=>by
  have gl:=iK (O:=O) (L:=L) st.keep;have lg:=eF (O:=O) (L:=L) st.keep;refine⟨gl,st.here,st.sub,λa ha z=>st.old a ha (lg.free z),h3.trans st.len,λj m e=>?_,λc d ps qs ad hcd e1 e2 p1 p2 e3 e4=>?_
   ⟩
  ·rcases h2 j m e with ⟨ys,rfl,e2,a,ea,haL⟩|e2
   ·obtain⟨u,eu,a',us,rfl,q1,q2,q3,q4⟩:=st.slot j _ e2;rw[ea]at eu;cases eu;refine⟨_,ea,a,us,rfl,SqL.of ?_,q2⟩;unfold aU;rw[if_pos q3,if_pos haL];exact q1
   ·obtain⟨u,eu,q⟩:=st.slot j m e2;refine⟨u,eu,?_⟩;cases m with
    |val v=>exact q
    |own ys =>
     obtain⟨a,us,rfl,q1,q2,q3,q4⟩:=q;refine⟨a,us,rfl,q1,q2,q3,?_⟩;unfold aU;rw[if_pos q3,if_neg λhaL=>h1 a haL j (.own ys) e rfl eu];exact q4
    |ownD ys =>
     obtain⟨a,rfl,q1,q3,q4⟩:=q;refine⟨a,rfl,q1,q3,?_⟩;unfold aU;rw[if_pos q3,if_neg λhaL=>h1 a haL j (.ownD ys) e rfl eu];exact q4
    |mutD ys =>
     obtain⟨a,rfl,q1,q3,q4⟩:=q;refine⟨a,rfl,q1,q3,?_⟩;unfold aU;rw[if_pos q3,if_neg λhaL=>h1 a haL j (.mutD ys) e rfl eu];exact q4
    |brwD ys=>obtain⟨a,rfl,q1⟩:=q;exact⟨a,rfl,ae.rd lg q1⟩
    |brw ys=>obtain⟨a,us,rfl,q1,q2⟩:=q;exact⟨a,us,rfl,lg.seq q1,q2⟩
  ·rcases h2 c _ e1 with ⟨_,rfl,_⟩|e1
   ·cases p1
   ·rcases h2 d _ e2 with ⟨_,rfl,_⟩|e2
    ·cases p2
    ·exact st.apart c d ps qs ad hcd e1 e2 p1 p2 e3 e4
 have plain:bq ms ρ=ρ->aT ms ρ σ=[]->aw K (aU B O H (aT ms ρ σ)) O₀ O H (bq ms ρ) σ/\(bq ms ρ).length=ρ.length:=λe1 e2=>by
  rw[e2];exact⟨base [] (λa ha=>by simp at ha) (λj m e=>.inr (by rw[e1]at e;exact e)) (by rw[e1]),by rw[e1]⟩
 match ms with
 | []=>exact plain rfl rfl
 | [.bor i] =>
  cases hj:(ρ[i]?).join with
  |none=>exact plain (by simp[bq,hj]) (by simp[aT,hj])
  | some m =>
   cases m with
   |val _=>exact plain (by simp[bq,hj]) (by simp[aT,hj])
   |brw _=>exact plain (by simp[bq,hj]) (by simp[aT,hj])
   |ownD _=>exact plain (by simp[bq,hj]) (by simp[aT,hj])
   |mutD _=>exact plain (by simp[bq,hj]) (by simp[aT,hj])
   |brwD _=>exact plain (by simp[bq,hj]) (by simp[aT,hj])
   | own xs =>
    have el:bq [.bor i] ρ=put ρ i (.brw xs):=by simp[bq,hj]
    have e0:=ax hj;obtain⟨u,eu,a,us,rfl,q1,q2,q3,q4⟩:=st.slot i _ e0;have eL:aT [.bor i] ρ σ=[a]:=by simp[aT,hj,eu]
    have hi':i<ρ.length:=(List.getElem?_eq_some_iff.mp e0).1;rw[eL];refine⟨base [a] (λb hb j ys e oy z=>?_) (λj m e=>?_) (by rw[el,cZ]),by rw[el,cZ]⟩
    ·have:b=a:=by simpa using hb
     subst this;rw[el]at e;have hj':i≠j:=λz=>by subst z;rw[ag hi']at e;cases e;cases oy
     rw[ac hj']at e;exact st.apart i j (.own xs) ys b hj' e0 e rfl oy eu z
    ·rw[el]at e;by_cases hij:i=j
     ·subst hij;rw[ag hi']at e;cases e;exact .inl ⟨xs,rfl,e0,a,eu,by simp⟩
     ·rw[ac hij]at e;exact .inr e
 | .var _::_=>exact plain rfl rfl
 | .cst _::_=>exact plain rfl rfl
 | .glob _ _::_=>exact plain rfl rfl
 | .bin _ _ _::_=>exact plain rfl rfl
 | .neg _::_=>exact plain rfl rfl
 | .not _::_=>exact plain rfl rfl
 | .and _ _::_=>exact plain rfl rfl
 | .or _ _::_=>exact plain rfl rfl
 | .ite _ _ _::_=>exact plain rfl rfl
 | .cmp _ _ _::_=>exact plain rfl rfl
 | .chain _ _ _ _ _::_=>exact plain rfl rfl
 | .tup _::_=>exact plain rfl rfl
 | .lst _::_=>exact plain rfl rfl
 | .idx _ _::_=>exact plain rfl rfl
 | .slice _ _ _::_=>exact plain rfl rfl
 | .blt _ _::_=>exact plain rfl rfl
 | .call _ _::_=>exact plain rfl rfl
 | .callD _ _ _::_=>exact plain rfl rfl
 | .comp _ _ _ _ _::_=>exact plain rfl rfl
 | .dget _ _ _::_=>exact plain rfl rfl
 | .dat _ _::_=>exact plain rfl rfl
 | .dIn _ _ _::_=>exact plain rfl rfl
 | .lenP _::_=>exact plain rfl rfl
 | .join _ _::_=>exact plain rfl rfl
 | .cdat _ _::_=>exact plain rfl rfl
 | .comp2 _ _ _ _::_=>exact plain rfl rfl
 | .bor _::_::_=>exact plain rfl rfl
theorem iM{ms:List ME}{j:Nat}{ys:List PV}(h:(bq ms ρ)[j]?=some (some (.brw ys))):ρ[j]?=some (some (.brw ys))\/(ms=[.bor j]/\ρ[j]?=some (some (.own ys))):=by
 unfold bq at h;split at h
 ·rename_i i;split at h
  ·rename_i xs J;have D:=ax J;have z:i<ρ.length:=(List.getElem?_eq_some_iff.mp D).1;by_cases q:i=j
   ·subst q;rw[ag z]at h;cases h;exact .inr ⟨rfl,D⟩
   ·rw[ac q]at h;exact .inl h
  ·exact .inl h
 ·exact .inl h
theorem jd{ms:List ME}{j:Nat}{ys:DD}(h:(bq ms ρ)[j]?=some (some (.brwD ys))):ρ[j]?=some (some (.brwD ys)):=by
 unfold bq at h;split at h
 ·rename_i i;split at h
  ·rename_i xs D;have J:=ax D;have z:i<ρ.length:=(List.getElem?_eq_some_iff.mp J).1;by_cases q:i=j
   ·subst q;rw[ag z]at h;cases h
   ·rw[ac q]at h;exact h
  ·exact h
 ·exact h
theorem sQ{ms:List ME}{j:Nat}{ys:DD}(h:(bq ms ρ)[j]?=some (some (.mutD ys))):ρ[j]?=some (some (.mutD ys)):=by
 unfold bq at h;split at h
 ·rename_i i;split at h
  ·rename_i xs D;have J:=ax D;have z:i<ρ.length:=(List.getElem?_eq_some_iff.mp J).1;by_cases q:i=j
   ·subst q;rw[ag z]at h;cases h
   ·rw[ac q]at h;exact h
  ·exact h
 ·exact h
theorem kM{ms:List ME}:(bq ms ρ).length=ρ.length:=by
 unfold bq;split
 ·split
  ·exact cZ
  ·rfl
 ·rfl
theorem m5{ms:List ME}{H1 H':Hp}{O':List Addr}{ρ':Rho}{σ':St}(st:aw K B O₀ O H1 ρ σ)(D:aw K (aU B O H1 (aT ms ρ σ)) O₀ O' H' ρ' σ')(k:a_ (aU B O H1 (aT ms ρ σ)) O O' (bq ms ρ) ρ' σ σ') :
  aw K B O₀ O' H' (bF ms ρ ρ') σ'/\a_ B O O' ρ (bF ms ρ ρ') σ σ':=by
 have lg:=eF (O:=O) (L:=aT ms ρ σ) st.keep;have a7:=Cl D k;have stay:∀a,B a≠none->a∈O->a∈O':=λa h1 h2=>k.stay a (λz=>h1 (lg.free z)) h2
 have new:∀a∈O',a∈O\/B a=none:=λa h=>(k.new a h).imp id lg.free
 have mutK:∀(j:Nat) (d':DD),ρ'[j]?=some (some (.mutD d'))->(∃d,ρ[j]?=some (some (.mutD d)))/\σ'[j]?=σ[j]?:=λj d' e=>by
  obtain⟨⟨d,e1⟩,U⟩:=k.mutK j d' e;exact⟨⟨d,sQ e1⟩,U⟩
 have slot:∀(j:Nat) (m:MV),ρ'[j]?=some (some m)->(∀ys,m=.brw ys->¬ (ms=[.bor j]/\ρ[j]?=some (some (.own ys))))->∃u,σ'[j]?=some (some u)/\ez K B O' H' m u:=λj m e hn=>by
  obtain⟨u,eu,q⟩:=D.slot j m e;refine⟨u,eu,?_⟩;cases m with
  |val v=>exact q
  |own ys=>obtain⟨a,us,rfl,q1,q2,q3,q4⟩:=q;exact⟨a,us,rfl,q1,q2,q3,lg.free q4⟩
  | brw ys =>
   obtain⟨e1,U⟩:=k.brw j (.brw ys) rfl e;rcases iM e1 with Z|Z
   ·obtain⟨w,ew,a,us,rfl,q1,q2⟩:=st.slot j _ Z;rw[eu,ew]at U;cases U;exact⟨a,us,rfl,q1,Reps.mono a7 _ q2⟩
   ·exact absurd Z (hn ys rfl)
  |ownD ys=>obtain⟨a,rfl,q1,q3,q4⟩:=q;exact⟨a,rfl,q1,q3,lg.free q4⟩
  |mutD ys=>obtain⟨a,rfl,q1,q3,q4⟩:=q;exact⟨a,rfl,q1,q3,lg.free q4⟩
  |brwD ys =>
   obtain⟨e1,U⟩:=k.brw j (.brwD ys) rfl e;obtain⟨w,ew,a,rfl,q1⟩:=st.slot j _ (jd e1);rw[eu,ew]at U;cases U;exact⟨a,rfl,q1⟩
 by_cases hA:∃i aO xs,ms=[.bor i]/\(ρ[i]?).join=some (.own aO)/\(ρ'[i]?).join=some (.brw xs)
 ·obtain⟨i,aO,xs,rfl,h0,h1⟩:=hA;have eb:bF [.bor i] ρ ρ'=put ρ' i (.own xs):=by simp[bF,h0,h1]
  rw[eb];have e0:=ax h0;have e1:=ax h1;have a5:i<ρ'.length:=(List.getElem?_eq_some_iff.mp e1).1;obtain⟨el,es⟩:=k.brw i (.brw xs) rfl e1;have exs:xs=aO:=by
   rcases iM el with Z|⟨_,Z⟩
   ·rw[e0]at Z;cases Z
   ·rw[e0]at Z;cases Z;rfl
  subst exs;obtain⟨w,ew,a,us,rfl,q1,q2,q3,q4⟩:=st.slot i _ e0;have eL:aT [.bor i] ρ σ=[a]:=by simp[aT,h0,ew]
  have ga:aU B O H1 (aT [.bor i] ρ σ) a=some (.lst us):=by
   unfold aU;rw[eL,if_pos q3,if_pos (by simp)];exact q1
  have other:∀(j:Nat) (ys:MV) (ad:Addr),ρ'[j]?=some (some ys)->gh ys=true->σ'[j]?=some (some (.ref ad))->ad≠a:=λj ys ad h1 oy h2 z=>by
   obtain⟨u,eu,qq⟩:=D.slot j _ h1;rw[h2]at eu;cases eu;cases ys with
   |own ys =>
    obtain⟨b,_,U,_,_,_,q⟩:=qq;cases U;rw[z,ga]at q;cases q
   |ownD ys =>
    obtain⟨b,U,_,_,q⟩:=qq;cases U;rw[z,ga]at q;cases q
   |mutD ys =>
    obtain⟨b,U,_,_,q⟩:=qq;cases U;rw[z,ga]at q;cases q
   |val _=>cases oy
   |brw _=>cases oy
   |brwD _=>cases oy
  refine⟨⟨lg.trans D.keep,D.here,D.sub,st.old,by rw[cZ];exact D.len,λj m e=>?_,λc d ps qs ad b2 e1 U p1 p2 Z e4=>?_
   ⟩,⟨stay,new,λj ys J e=>?_,by rw[cZ];exact k.len.trans kM
   ,λj d' e=>?_
   ⟩⟩
  ·by_cases Y:i=j
   ·subst Y;rw[ag a5]at e;cases e;refine⟨_,by rw[es];exact ew,a,us,rfl,D.keep _ _ ga,Reps.mono a7 _ q2,k.stay a (by rw[ga];simp) q3,q4⟩
   ·rw[ac Y]at e;exact slot j m e λys _ ⟨z,_⟩=>Y (by cases z;rfl)
  ·by_cases hc:i=c
   ·subst hc;rw[es,ew]at Z;cases Z;rw[ac b2]at U;exact other d qs _ U p2 e4 rfl
   ·rw[ac hc]at e1;by_cases hd:i=d
    ·subst hd;rw[es,ew]at e4;cases e4;exact other c ps _ e1 p1 Z rfl
    ·rw[ac hd]at U;exact D.apart c d ps qs ad b2 e1 U p1 p2 Z e4
  ·by_cases Y:i=j
   ·subst Y;rw[ag a5]at e;cases e;cases J
   ·rw[ac Y]at e;obtain⟨e1,U⟩:=k.brw j ys J e;cases ys with
    |brw ys =>
     rcases iM e1 with Z|⟨z,_⟩
     ·exact⟨Z,U⟩
     ·cases z;exact absurd rfl Y
    |brwD ys=>exact⟨jd e1,U⟩
    |val _=>cases J
    |own _=>cases J
    |ownD _=>cases J
    |mutD _=>cases J
  ·by_cases Y:i=j
   ·subst Y;rw[ag a5]at e;cases e
   ·rw[ac Y]at e;exact mutK j d' e
 ·have eb:bF ms ρ ρ'=ρ':=by
   unfold bF;split
   ·rename_i i;split
    ·rename_i aO xs h0 h1;exact absurd ⟨i,aO,xs,rfl,h0,h1⟩ hA
    ·rfl
   ·rfl
  rw[eb];have no:∀(j:Nat) (ys:List PV),ρ'[j]?=some (some (.brw ys))->¬ (ms=[.bor j]/\ρ[j]?=some (some (.own ys))):=λj ys e ⟨h1,h2⟩=>hA ⟨j,ys,ys,h1,by rw[h2];rfl,by rw[e];rfl⟩
  refine⟨⟨lg.trans D.keep,D.here,D.sub,st.old,D.len,λj m e=>slot j m e λys z=>no j ys (by rw[e,z]),D.apart
   ⟩,⟨stay,new,λj ys J e=>?_,k.len.trans kM
   ,λj d' e=>mutK j d' e
   ⟩⟩
  obtain⟨e1,U⟩:=k.brw j ys J e;cases ys with
  |brw ys =>
   rcases iM e1 with Z|Z
   ·exact⟨Z,U⟩
   ·exact absurd Z (no j ys e)
  |brwD ys=>exact⟨jd e1,U⟩
  |val _=>cases J
  |own _=>cases J
  |ownD _=>cases J
  |mutD _=>cases J
end
section
variable{X:Cx}{T:Tab}{k:Nat}{cal:Cal}
noncomputable def Ak(K:PySem.W.Frag)(n:Nat)(g:TG)(tk:PV->Rho->Option Rho):Prop:=
 ∀(B:Hp) (O₀ O:List Addr) (H:Hp) (ρ ρ':Rho) (σ:St) (x:PV) (u:V) (Q:St->Hp->Prop),σ.length=n->aw K B O₀ O H ρ σ->Rep K (aj H O) x u->tk x ρ=some ρ' ->
  (∀σ',aw K B O₀ O H ρ' σ'->a_ B O O ρ ρ' σ σ'->Q σ' H)->g u σ H Q
theorem oH{K:PySem.W.Frag}{n:Nat}{ms:List ME}{g:TG}{tk:PV->Rho->Option Rho}{body:List MS}{D:iR}{σ:St}{H1:Hp}{J:It}(hn:σ.length=n)(hg:Ak K n g tk){B:Hp}{O₀ O:List Addr}{ρ:Rho}{xs:List PV}(st1:aw K B O₀ O H1 ρ σ)(it:jD K J xs (aj H1 O) (aU B O H1 (aT ms ρ σ)))
  (q:fE K B O₀ O ρ σ D ((a9 (λx ρ'=>gQ (tk x ρ') λρ''=>exs cal body ρ'') xs (bq ms ρ)).back ms ρ)):yR (λ_ _ R=>R J H1) g (tSs K cal body) D σ H1:=by
 obtain⟨stL,_⟩:=xH (ms:=ms) st1;refine⟨λi m σ' H'=>m=xs.length-i/\i<=xs.length/\∃ρ' O',aw K (aU B O H1 (aT ms ρ σ)) O₀ O' H' ρ' σ'/\a_ (aU B O H1 (aT ms ρ σ)) O O' (bq ms ρ) ρ' σ σ' /\
  a9 (λx ρ'=>gQ (tk x ρ') λρ''=>exs cal body ρ'') (xs.drop i) ρ'=a9 (λx ρ'=>gQ (tk x ρ') λρ''=>exs cal body ρ'') xs (bq ms ρ),⟨xs.length,by simp,Nat.zero_le _,bq ms ρ,O,stL,.refl,by simp⟩,?_⟩
 rintro i m σ' H' ⟨rfl,hi,ρ',O',st',k',eq⟩;by_cases hlt:i<xs.length
 ·right;have ex:xs[i]?=some xs[i]:=getElem?_eq_getElem hlt;refine⟨it.go i _ H' st'.keep ex,λσ2 H2=>∃m',m'<xs.length-i/\(m'=xs.length-(i+1)/\i+1<=xs.length/\∃ρ' O',aw K (aU B O H1 (aT ms ρ σ)) O₀ O' H2 ρ' σ2/\a_ (aU B O H1 (aT ms ρ σ)) O O' (bq ms ρ) ρ' σ σ2 /\
   a9 (λx ρ'=>gQ (tk x ρ') λρ''=>exs cal body ρ'') (xs.drop (i+1)) ρ'=a9 (λx ρ'=>gQ (tk x ρ') λρ''=>exs cal body ρ'') xs (bq ms ρ)),λσ2 H2 z=>z,λu H2 y=>?_⟩
  obtain⟨s2,hr⟩:=it.yld i _ H' u H2 st'.keep ex y;have vis:=Cl st' k';have hx:Rep K (aj H2 O') xs[i] u:=hr O' st'.here (vis.trans (af s2));rw[drop_eq_getElem_cons hlt,a9]at eq;cases et:tk xs[i] ρ' with
  |none =>
   rw[et]at eq;rw[<- eq]at q;exact(show False from q).elim
  | some ρ2 =>
   rw[et,show gQ (some ρ2) (λρ''=>exs cal body ρ'')=exs cal body ρ2 from rfl]at eq;have hlen:σ'.length=n:=by rw[<- st'.len,k'.len,kM,st1.len];exact hn
   refine hg _ O₀ O' H2 ρ' ρ2 σ' _ u _ hlen (st'.mono s2) hx et λσ2 st2 k2=>?_
   refine⟨_,O₀,O',ρ2,st2,?_⟩;have kk:=k'.trans k2;cases er:exs cal body ρ2 with
   |next ρ3 =>
    rw[er]at eq;exact λσ3 H3 O3 st3 k3=>⟨_,by omega,rfl,hlt,ρ3,O3,st3,kk.trans k3,eq⟩
   |cont ρ3 =>
    rw[er]at eq;exact λσ3 H3 O3 st3 k3=>⟨_,by omega,rfl,hlt,ρ3,O3,st3,kk.trans k3,eq⟩
   | brk ρ3 =>
    rw[er]at eq;rw[<- eq]at q;exact λσ3 H3 O3 st3 k3=>by
     obtain⟨stb,kb⟩:=m5 st1 st3 (kk.trans k3);exact q σ3 H3 O3 stb kb
   |ret v =>
    rw[er]at eq;rw[<- eq]at q;exact λw H3 s3 r=>q w H3 ((eF st1.keep).trans s3) r
   | retM v ρ3 =>
    rw[er]at eq;rw[<- eq]at q;exact λu σ3 H3 O3 st3 k3 ru=>by
     obtain⟨stb,kb⟩:=m5 st1 st3 (kk.trans k3);exact q u σ3 H3 O3 stb kb ru
   |retF ys =>
    rw[er]at eq;rw[<- eq]at q;exact λp us H3 s3 hp he r=>q p us H3 ((eF st1.keep).trans s3) ((eF st1.keep).free hp) he r
   |bad =>
    rw[er]at eq;rw[<- eq]at q;exact(show False from q).elim
 ·left;have ei:i=xs.length:=by omega
  subst ei;rw[drop_length,a9]at eq;rw[<- eq]at q;obtain⟨stb,kb⟩:=m5 st1 st' k';exact⟨it.stop H' st'.keep,q σ' H' O' stb kb⟩
theorem Al{K:PySem.W.Frag}{n:Nat}{U:Sk}{ms:List ME}{g:TG}{tk:PV->Rho->Option Rho}{body:List MS}{D:iR}{σ:St}{H:Hp}(Y:σ.length=n)(Z:Ak K n g tk){B:Hp}{O₀ O:List Addr}{ρ:Rho}{vs xs:List PV}(st:aw K B O₀ O H ρ σ)(e1:evs cal ms ρ=some vs)(e2:bc U vs=some xs)
  (q:fE K B O₀ O ρ σ D ((a9 (λx ρ'=>gQ (tk x ρ') λz=>exs cal body z) xs (bq ms ρ)).back ms ρ)):yR (tW K cal U ms) g (tSs K cal body) D σ H:=by
 exact⟨B,O₀,O,ρ,vs,xs,st,e1,e2,λJ H1 s1 it=>oH Y Z (st.mono s1) it q⟩
theorem rl{K:PySem.W.Frag}{n i:Nat}(hi:i<n):Ak K n (fo i) (λx ρ=>some (put ρ i (.val x))):=by
 intro B O₀ O H ρ ρ' σ x u Q J st r e q;cases e;obtain⟨z,D⟩:=st.store (i:=i) (by omega) r;exact q _ z D
theorem Am{i:Nat}{J:Sk}{z:List ME}{body:List MS}{x:Str}{px pos:Pos}{it:Expr}{b:List Stmt}(g:Gf X T k cal)(d:Df X)(hi:X.N[i]?=some x)(hx:Loc X.env.scope x)(hw:PI X (.Name x px) it (tW X.K cal J z))(U:dF it=true)(Y:PSs X b (tSs X.K cal body)) :
  PS X (.For (.Name x px) it b [] pos) (tS X.K cal (.for1 i J z body)):=by
 refine PS.imp' (tK d.own g.calm hw (ij d.nd hi hx (.inl (d.fn x))) Y (by intro v;cases it<;>first|rfl|(simp[dF]at U))) λD σ H Z q=>?_
 obtain⟨B,O₀,O,ρ,st,q⟩:=q;rw[ex]at q;cases e:(evs cal z ρ).bind (bc J) with
 |none=>rw[e]at q;exact(show False from q).elim
 |some xs =>
  rw[e]at q;simp only[bind_eq_some_iff]at e;obtain⟨vs,e1,e2⟩:=e;exact Al (tk:=λx ρ=>some (put ρ i (.val x))) rfl (rl (ltN hi Z)) st e1 e2 q
theorem An {i:Nat}{y:XE}{body:List MS}{x:Str}{px p rp pos:Pos}{e:Expr}{b:List Stmt} (g:Gf X T k cal) (d:Df X) (hi:X.N[i]?=some x) (hx:Loc X.env.scope x) (hg:glB X.env.scope ("range":Str)=true) (h:PE X e (tX X.K cal y)) (hs:ab e=true) (hb:PSs X b (tSs X.K cal body)) :
  PS X (.For (.Name x px) (.Call (.Name ("range":Str) p) [e] [] rp) b [] pos) (tS X.K cal (.forX i y body)):=by
 refine PS.imp' (tK d.own g.calm (oG g hg h hs) (ij d.nd hi hx (.inl (d.fn x))) hb (by intro v;rfl)) λD σ H hl q=>?_
 obtain⟨B,O₀,O,ρ,st,q⟩:=q;rw[ex]at q;cases e1:evX cal y ρ with
 |none=>rw[e1]at q;exact(show False from q).elim
 | some pr =>
  obtain⟨v,ρ'⟩:=pr;rw[e1]at q;dsimp only at q;cases e2:bc .rng [v] with
  |none=>rw[e2]at q;exact(show False from q).elim
  |some xs =>
   rw[e2]at q;refine⟨B,O₀,O,ρ,v,ρ',xs,st,e1,e2,λJ H1 _ st1 k1 it=>?_⟩;refine oH (ms:=[.cst v]) (tk:=λx ρ=>some (put ρ i (.val x))) rfl (rl (ltN hi hl)) st1 it ?_;have q2:=fE.trans q k1;have back:∀r:R,r.back [.cst v] ρ'=r:=λr=>by cases r<;>rfl
   rw[back];exact q2
end
section
variable{X:Cx}{T:Tab}{k:Nat}{cal:Cal}
theorem rm {i:Nat}{me:ME}{x:Str}{v:Expr}{px pos:Pos} (g:Gf X T k cal) (d:Df X) (hi:X.N[i]?=some x) (hx:Loc X.env.scope x) (hc:chk T me X.N X.env.scope v=true) (hs:lT X.env.scope x px v me=true):∃ t,PS X (.Assign [.Name x px] v pos) (tI t (fo i))/\(∀ σ H Q,tF X.K cal me σ H Q->t σ H Q)/\bN me=true:=by
 unfold lT at hs;rw[Bool.and_eq_true]at hs;obtain⟨hs,hk⟩:=hs;cases v with
 | ListComp e gens scope cpos =>
  cases me with
  |comp2 _ _ _ _=>cases hk
  | comp k' src js cond elt =>
   match gens,hc,hs with
   | [],hc,_=>cases (show false=true from hc)
   | ⟨tg,it,ifs,as⟩::[],h,hs =>
    cases tg with
    | Name y py =>
     by_cases has:as=0
     ·subst has;have h:(bW X.env.scope X.N scope y (aF X.N js) js&&dg X.env.scope false (λxs=>chks T src X.N X.env.scope xs) k' it&&gj (λc=>chk T cond (y::aF X.N js) (dO scope X.env.scope) c) cond ifs&&chk T elt (y::aF X.N js) (dO scope X.env.scope) e&&!al elt)=true:=h;simp only[Bool.and_eq_true,Bool.not_eq_true']at h;obtain⟨⟨⟨⟨h1,h2⟩,h3⟩,h4⟩,h5⟩:=h;have hw:=jc (tg:=.Name y py) (λz=>by cases z) g h2 (λxs hxs=>⟨sounds src g hxs,bm hxs⟩) (λm x hm hx=>match src,hm with|[m'],rfl=>(ak m' g (by simp only[chks,Bool.and_eq_true]at hx;exact hx.1.1)).1);exact⟨_,pQ d.nd hi hx (gA h1) g.calm hw.1 (λs₁ H₁ C fp=>jb h3 λc hc=>(ak cond (g.blk y (aF X.N js) scope s₁ H₁ C fp) hc).2) (λs₁ H₁ C fp=>(ak elt (g.blk y (aF X.N js) scope s₁ H₁ C fp) h4).1) (sK d hs) (by have:=hw.2;intro v;cases it<;>first|rfl|(simp[dF]at this)) (.inl (d.fn x)),
       λσ H Q q=>qb.comp_go h5 q,rfl⟩
     ·exact absurd h (by
       have:chk T (.comp k' src js cond elt) X.N X.env.scope (.ListComp e [⟨.Name y py,it,ifs,as⟩] scope cpos)=false:=by
        rw[aS];split<;>first|rfl|(rename_i z;simp_all)
       rw[this];exact Bool.false_ne_true)
    | _=>cases (show false=true from h)
   | _::_::_,h,_=>simp[aS]at h
  | _=>cases (show false=true from hc)
 | _=>simp[qU]at hs
theorem Cm{J:ME}(U:bN J=true){σ:St}{H:Hp}{Q:VK}{K:PySem.W.Frag}(q:tE K cal J σ H Q):tF K cal J σ H Q:=by
 obtain⟨B,O₀,O,ρ,v,st,z,q⟩:=q;have D:∃xs,v=.lst xs:=by
  cases J with
  |lst es =>
   rw[ev,bind_eq_some_iff]at z;obtain⟨vs,_,D⟩:=z;split at D
   ·cases D;exact⟨_,rfl⟩
   ·cases D
  |comp _ _ _ _ _=>exact oE ρ v z
  |blt b es=>cases b<;>first|exact eV (.inl rfl) ρ v z|exact eV (.inr (.inl rfl)) ρ v z|exact eV (.inr (.inr (.inl rfl))) ρ v z|exact eV (.inr (.inr (.inr (.inl rfl)))) ρ v z|exact eV (.inr (.inr (.inr (.inr rfl)))) ρ v z|(simp[bN]at U)
  | _=>simp[bN]at U
 obtain⟨xs,rfl⟩:=D;exact⟨B,O₀,O,ρ,xs,st,z,λp us H' s Y Z r=>q _ _ s (rg st.here Y Z r)⟩
end
section
variable{T:Tab}{N:List Str}{sc:Scope}
theorem xI{i:Nat}{e:ME}{s:Stmt}(h:gL T N sc (.set i e) s=true):∃x px v pos,s=.Assign [.Name x px] v pos/\(N[i]?==some x&&fX sc x&&ah x&&chk T e N sc v&&!al e&&(cD v || lT sc x px v e))=true:=by
 obtain⟨q,z,h1⟩:=bO h;obtain⟨pos,rfl⟩:=iB z;exact⟨_,_,_,_,rfl,h1⟩
theorem xJ{i:Nat}{e:ME}{s:Stmt}(h:gL T N sc (.setOwn i e) s=true):∃x px v pos,s=.Assign [.Name x px] v pos/\(N[i]?==some x&&fX sc x&&ah x&&chk T e N sc v&&(bN e || zw e)&&(cD v || lT sc x px v e))=true:=by
 obtain⟨q,z,h1⟩:=bO h;obtain⟨pos,rfl⟩:=iB z;exact⟨_,_,_,_,rfl,h1⟩
theorem qh {i:Nat}{e:ME}{s:Stmt} (h:gL T N sc (.append i e) s=true):∃x p m z v D pos,s=.Expr (.Call (.Attribute (.Name x p) m z) [v] [] D) pos/\(aG N sc i x&&m==("append":Str)&&chk T e N sc v&&!al e&&ab v&&z.endLine==D.line)=true:=by
 obtain⟨q,J,h1⟩:=bO h;obtain⟨v,U,h2⟩:=bO h1;obtain⟨p,pos,rfl⟩:=mR J;rw[kA U];exact⟨_,_,_,_,_,_,_,rfl,h2⟩
theorem qi {i:Nat}{e:ME}{s:Stmt} (h:gL T N sc (.extend i e) s=true):∃x p m z v D pos,s=.Expr (.Call (.Attribute (.Name x p) m z) [v] [] D) pos/\(aG N sc i x&&m==("extend":Str)&&chk T e N sc v&&ab v&&z.endLine==D.line)=true:=by
 obtain⟨q,J,h1⟩:=bO h;obtain⟨v,U,h2⟩:=bO h1;obtain⟨p,pos,rfl⟩:=mR J;rw[kA U];exact⟨_,_,_,_,_,_,_,rfl,h2⟩
theorem xK{c:ME}{a b:List MS}{s:Stmt}(h:gL T N sc (.ite c a b) s=true):∃t x y pos,s=.If t x y pos/\(chk T c N sc t&&chkSs T N sc a x&&chkSs T N sc b y)=true:=by
 cases s with
 |If t x y pos=>exact⟨t,x,y,pos,rfl,h⟩
 | _=>cases (show false=true from h)
theorem ve {i:Nat}{y:XE}{body:List MS}{s:Stmt} (h:gL T N sc (.forX i y body) s=true):∃x px it b pos,s=.For (.Name x px) it b [] pos/\(N[i]?==some x&&fX sc x&&ah x&&onQ (fnQ it) (λq=>q.1==("range":Str)&&glB sc q.1&&q.2.2.isEmpty&&bX T y N sc q.2.1&&ab q.2.1)&&chkSs T N sc body b)=true:=by
 rw[xi]at h;split at h
 ·exact⟨_,_,_,_,_,rfl,h⟩
 ·cases h
theorem vf{i:Nat}{k:Sk}{q:List ME}{body:List MS}{s:Stmt}(h:gL T N sc (.for1 i k q body) s=true):∃x px it b pos,s=.For (.Name x px) it b [] pos/\(N[i]?==some x&&fX sc x&&ah x&&dg sc false (λxs=>chks T q N sc xs) k it&&chkSs T N sc body b)=true:=by
 simp only[xj]at h;split at h<;>first|(cases h;done)|(rename_i z;cases z;exact⟨_,_,_,_,_,rfl,h⟩)|(injections;done)|(injections;subst_vars;exact⟨_,_,_,_,_,rfl,h⟩)
theorem vg{e:ME}{s:Stmt}(h:gL T N sc (.retM e) s=true):∃v pos,s=.Return (some v) pos/\(chk T e N sc v&&!al e)=true:=by
 obtain⟨v,q,h1⟩:=bO h;obtain⟨pos,rfl⟩:=jH q;exact⟨_,_,rfl,h1⟩
theorem xL{e:ME}{s:Stmt}(h:gL T N sc (.ret e) s=true):∃v pos,s=.Return (some v) pos/\(chk T e N sc v&&!al e)=true:=by
 obtain⟨v,q,h1⟩:=bO h;obtain⟨pos,rfl⟩:=jH q;exact⟨_,_,rfl,h1⟩
theorem qj{i:Nat}{s:Stmt}(h:gL T N sc (.retOwn i) s=true):∃x p pos,s=.Return (some (.Name x p)) pos/\(aG N sc i x)=true:=by
 obtain⟨v,q,h1⟩:=bO h;obtain⟨x,z,h2⟩:=bO h1;obtain⟨pos,rfl⟩:=jH q;obtain⟨p,rfl⟩:=uP z;exact⟨_,_,_,rfl,h2⟩
end
theorem sR{T:Tab}{k:Nat}{cal:Cal}{X:Cx}(g:Gf X T k cal)(d:Df X){i:Nat}{e:ME}{s:Stmt}(h:gL T X.N X.env.scope (.set i e) s=true):PS X s (tS X.K cal (.set i e)):=by
 obtain⟨x,px,v,pos,rfl,hc⟩:=xI h;simp only[Bool.and_eq_true,Bool.or_eq_true,beq_iff_eq,Bool.not_eq_true']at hc;obtain⟨⟨⟨⟨⟨h1,h2⟩,h3⟩,h4⟩,h5⟩,h6⟩:=hc;rcases h6 with h6|h6
 ·exact Ca d h1 (gS h2) (ak e g h4).1 h5 h6
 ·obtain⟨t,p,z,J⟩:=rm (pos:=pos) g d h1 (gS h2) h4 h6;exact PS.imp' p λD σ H U q=>z _ _ _ (Cm J (u6 (ltN h1 U) h5 q))
noncomputable def Ao:MS->Bool
 | .freeze _=>true
 | _=>false
mutual
theorem Ap{T:Tab}{k:Nat}{cal:Cal}{X:Cx}(g:Gf X T k cal)(d:Df X):∀(m:MS) (s:Stmt),gL T X.N X.env.scope m s=true->PS X s (tS X.K cal m)
 | .set i e,s,h=>sR g d h
 | .setOwn i e,s,h=>by
  obtain⟨x,px,v,pos,rfl,hc⟩:=xJ h;simp only[Bool.and_eq_true,Bool.or_eq_true,beq_iff_eq]at hc;obtain⟨⟨⟨⟨⟨h1,h2⟩,h3⟩,h4⟩,h5⟩,h6⟩:=hc;rcases h6 with h6|h6
  ·rcases h5 with h5|h5
   ·exact yq d h1 (gS h2) (zZ g h4 h5) h6
   ·exact yq d h1 (gS h2) (z9 g h4 h5) h6
  ·obtain⟨t,p,hp,hf⟩:=rm (pos:=pos) g d h1 (gS h2) h4 h6;exact PS.imp' p λD σ H hl q=>hp _ _ _ (u7 (ltN h1 hl) q)
 | .append i e,s,h=>by
  obtain⟨x,p,m,ap,v,cp,pos,rfl,hc⟩:=qh h;simp only[Bool.and_eq_true,beq_iff_eq,Bool.not_eq_true']at hc;obtain⟨⟨⟨⟨⟨h1,rfl⟩,h3⟩,h4⟩,h5⟩,h6⟩:=hc;exact u8 (ak e g h3).1 h1 h4 h5 (beq_iff_eq.mpr h6)
 | .extend i e,s,h=>by
  obtain⟨x,p,m,ap,v,cp,pos,rfl,hc⟩:=qi h;simp only[Bool.and_eq_true,beq_iff_eq]at hc;obtain⟨⟨⟨⟨h1,rfl⟩,h3⟩,h5⟩,h6⟩:=hc;exact u9 (ak e g h3).1 h1 h5 (beq_iff_eq.mpr h6)
 | .setIdx _ _ _,s,h=>absurd (show false=true from h) Bool.false_ne_true
 | .unpack _ _,s,h=>absurd (show false=true from h) Bool.false_ne_true
 | .expr _,s,h=>absurd (show false=true from h) Bool.false_ne_true
 | .ite c a b,s,h=>by
  obtain⟨t,x,y,pos,rfl,hc⟩:=xK h;simp only[Bool.and_eq_true]at hc;exact DV (ak c g hc.1.1).2 (soundSs g d a x hc.1.2) (soundSs g d b y hc.2)
 | .for1 i k' src body,s,h=>by
  obtain⟨x,px,it,b,pos,rfl,hc⟩:=vf h;simp only[Bool.and_eq_true,beq_iff_eq]at hc;obtain⟨⟨⟨⟨h1,h2⟩,h3⟩,h4⟩,h5⟩:=hc;have hw:=jc (tg:=.Name x px) (λz=>by cases z) g h4 (λxs hxs=>⟨sounds src g hxs,bm hxs⟩) (λm x hm hx=>match src,hm with|[m'],rfl=>(ak m' g (by simp only[chks,Bool.and_eq_true]at hx;exact hx.1.1)).1);exact Am g d h1 (gS h2) hw.1 hw.2 (soundSs g d body b h5)
 | .forT _ _ _ _,s,h=>absurd (show false=true from h) Bool.false_ne_true
 | .while _ _ _,s,h=>absurd (show false=true from h) Bool.false_ne_true
 | .ret e,s,h=>by
  obtain⟨v,pos,rfl,hc⟩:=xL h;simp only[Bool.and_eq_true,Bool.not_eq_true']at hc;exact Cb (ak e g hc.1).1 hc.2
 | .mkW i m,s,h=>by
  obtain⟨q,e1,hc⟩:=bO (show onO (ly s) (λq=>onO (xg q.2.2) λc=>X.N[i]?==some q.1&&fX X.env.scope q.1&&ah q.1&&c.1==("Words":Str)&&glB X.env.scope c.1&&chks T [m] X.N X.env.scope c.2&&!al m)=true from h);obtain⟨x,px,v⟩:=q;obtain⟨pos,rfl⟩:=iB e1;obtain⟨c,e2,hc⟩:=bO hc;obtain⟨f,args⟩:=c;obtain⟨p,cp,rfl⟩:=xh e2;obtain⟨a1,h7⟩:=Bool.and_eq_true_iff.mp hc;obtain⟨a2,h6⟩:=Bool.and_eq_true_iff.mp a1;obtain⟨a3,h5⟩:=Bool.and_eq_true_iff.mp a2;obtain⟨a4,h4⟩:=Bool.and_eq_true_iff.mp a3;obtain⟨a5,h3⟩:=Bool.and_eq_true_iff.mp a4;obtain⟨h1,h2⟩:=Bool.and_eq_true_iff.mp a5;obtain rfl:f=("Words":Str):=eq_of_beq h4
  match args,h6 with
  | [a],h6 =>
   simp only[chks,Bool.and_eq_true]at h6;exact Ck g d (eq_of_beq h1) (gS h2) h5 (ak m g h6.1.1).1 h6.1.2
  | [],h6=>simp[chks]at h6
  | _::_::_,h6=>simp[chks]at h6
 | .nomore i,s,h=>by
  obtain⟨t,e1,hc⟩:=bO (show onO (ifQ s) (λt=>onQ (og t) λq=>aG X.N X.env.scope i q.1&&q.2.1==("are_left":Str)&&q.2.2.1.endLine==q.2.2.2.line)=true from h);obtain⟨a,pos,rfl⟩:=uN e1;obtain⟨q,e2,hc⟩:=bL hc;obtain⟨y,m,ap,cp⟩:=q;obtain⟨p,rfl⟩:=mP e2;obtain⟨a1,h3⟩:=Bool.and_eq_true_iff.mp hc;obtain⟨h1,h2⟩:=Bool.and_eq_true_iff.mp a1;obtain rfl:m=("are_left":Str):=eq_of_beq h2;exact vd g h1 h3
 | .isKey x m,s,h=>by
  obtain⟨t,e1,hc⟩:=bO (show onO (ifQ s) (λt=>onQ (mS t) λq=>q.2==x&&glB X.env.scope q.2&&ah q.2&&chk T m X.N X.env.scope q.1&&!al m&&fJ.any λt=>t.1==x)=true from h);obtain⟨a,pos,rfl⟩:=uN e1;obtain⟨q,e2,hc⟩:=bL hc;obtain⟨l,y⟩:=q;obtain⟨p,cp,rfl⟩:=sB e2;obtain⟨a1,h6⟩:=Bool.and_eq_true_iff.mp hc;obtain⟨a2,h5⟩:=Bool.and_eq_true_iff.mp a1;obtain⟨a3,h4⟩:=Bool.and_eq_true_iff.mp a2;obtain⟨a4,h3⟩:=Bool.and_eq_true_iff.mp a3;obtain⟨h1,h2⟩:=Bool.and_eq_true_iff.mp a4;obtain rfl:y=x:=eq_of_beq h1;exact xG g h2 h3 h6 (ak m g h4).1
 | .setP i e,s,h=>by
  obtain⟨q,e1,hc⟩:=bO (show onO (ly s) (λq=>X.N[i]?==some q.1&&fX X.env.scope q.1&&ah q.1&&onQ (wZ q.2.2) λr=>r.1==("list":Str)&&r.2.1==("reversed":Str)&&glB X.env.scope r.1&&glB X.env.scope r.2.1&&chk T e X.N X.env.scope r.2.2&&ab r.2.2)=true from h);obtain⟨x,px,v⟩:=q;obtain⟨pos,rfl⟩:=iB e1;obtain⟨a1,h4⟩:=Bool.and_eq_true_iff.mp hc;obtain⟨a2,h3⟩:=Bool.and_eq_true_iff.mp a1;obtain⟨h1,h2⟩:=Bool.and_eq_true_iff.mp a2;obtain⟨r,e2,hr⟩:=bL h4;obtain⟨f,f2,w⟩:=r;obtain⟨p,p2,pos2,cp,rfl⟩:=w5 e2;obtain⟨b1,c6⟩:=Bool.and_eq_true_iff.mp hr;obtain⟨b2,c5⟩:=Bool.and_eq_true_iff.mp b1;obtain⟨b3,c4⟩:=Bool.and_eq_true_iff.mp b2;obtain⟨b4,c3⟩:=Bool.and_eq_true_iff.mp b3;obtain⟨c1,c2⟩:=Bool.and_eq_true_iff.mp b4;obtain rfl:f=("list":Str):=eq_of_beq c1;obtain rfl:f2=("reversed":Str):=eq_of_beq c2;exact Ai g d (eq_of_beq h1) (gS h2) c3 c4 (ak e g c5).1 c6
 | .setX i y,s,h=>by
  obtain⟨q,e1,hc⟩:=bO (show onO (ly s) (λq=>X.N[i]?==some q.1&&fX X.env.scope q.1&&ah q.1&&bX T y X.N X.env.scope q.2.2&&cD q.2.2)=true from h);obtain⟨pos,rfl⟩:=iB e1;obtain⟨a2,h5⟩:=Bool.and_eq_true_iff.mp hc;obtain⟨a3,h4⟩:=Bool.and_eq_true_iff.mp a2;obtain⟨a4,h3⟩:=Bool.and_eq_true_iff.mp a3;obtain⟨h1,h2⟩:=Bool.and_eq_true_iff.mp a4;exact Ag d (eq_of_beq h1) (gS h2) (c9 g y _ h4) h5
 | .appX i y,s,h=>by
  obtain⟨q,e1,hc⟩:=bO (show onO (sA s) (λq=>onO (oh q.2.2.2.1) λv=>aG X.N X.env.scope i q.1&&q.2.1==("append":Str)&&bX T y X.N X.env.scope v&&ab v&&q.2.2.1.endLine==q.2.2.2.2.line)=true from h);obtain⟨v,e2,hc⟩:=bO hc;obtain⟨x,m,ap,as,cp⟩:=q;obtain⟨p,pos,rfl⟩:=mR e1;have e3:as=[v]:=kA e2;subst e3;obtain⟨a2,h5⟩:=Bool.and_eq_true_iff.mp hc;obtain⟨a3,h4⟩:=Bool.and_eq_true_iff.mp a2;obtain⟨a4,h3⟩:=Bool.and_eq_true_iff.mp a3;obtain⟨h1,h2⟩:=Bool.and_eq_true_iff.mp a4;obtain rfl:m=("append":Str):=eq_of_beq h2;exact Ah (c9 g y _ h3) h1 h4 h5
 | .retXE y,s,h=>by
  obtain⟨v,e1,hc⟩:=bO (show onO (p9 s) (λv=>bX T y X.N X.env.scope v)=true from h);obtain⟨pos,rfl⟩:=jH e1;exact xF (c9 g y _ hc)
 | .forX i y body,s,h=>by
  obtain⟨x,px,it,b,pos,rfl,h⟩:=ve h;obtain⟨a1,h5⟩:=Bool.and_eq_true_iff.mp h;obtain⟨a2,h4⟩:=Bool.and_eq_true_iff.mp a1;obtain⟨a3,h3⟩:=Bool.and_eq_true_iff.mp a2;obtain⟨h1,h2⟩:=Bool.and_eq_true_iff.mp a3;obtain⟨q,e1,hc⟩:=bL h4;obtain⟨f,e,es⟩:=q;obtain⟨p,rp,rfl⟩:=mQ e1;obtain⟨b1,c5⟩:=Bool.and_eq_true_iff.mp hc;obtain⟨b2,c4⟩:=Bool.and_eq_true_iff.mp b1;obtain⟨b3,c3⟩:=Bool.and_eq_true_iff.mp b2;obtain⟨c1,c2⟩:=Bool.and_eq_true_iff.mp b3;obtain rfl:f=("range":Str):=eq_of_beq c1;have e3:es=[]:=isEmpty_iff.mp c3;subst e3;exact An g d (eq_of_beq h1) (gS h2) c2 (c9 g y _ c4) c5 (soundSs g d body b h5)
 | .retM e,s,h=>by
  obtain⟨v,pos,rfl,hc⟩:=vg h;simp only[Bool.and_eq_true,Bool.not_eq_true']at hc;exact z_ (ak e g hc.1).1 hc.2
 | .retF _,s,h=>absurd (show false=true from h) Bool.false_ne_true
 | .setCall _ _ _,s,h=>absurd (show false=true from h) Bool.false_ne_true
 | .clear _,s,h=>absurd (show false=true from h) Bool.false_ne_true
 | .retOwn i,s,h=>by
  obtain⟨x,p,pos,rfl,hc⟩:=qj h;exact u_ hc
 | .retN,s,h=>absurd (show false=true from h) Bool.false_ne_true
 | .brk,s,h=>absurd (show false=true from h) Bool.false_ne_true
 | .cont,s,h=>absurd (show false=true from h) Bool.false_ne_true
 | .pass,s,h=>absurd (show false=true from h) Bool.false_ne_true
 | .never,s,h=>by
  refine tH.imp λD σ H q=>?_
  obtain⟨B,O₀,O,ρ,st,q⟩:=q;rw[ex]at q;exact q
 | .newD _ _,s,h=>absurd (show false=true from h) Bool.false_ne_true
 | .dput _ _ _,s,h=>absurd (show false=true from h) Bool.false_ne_true
 | .freeze _,s,h=>absurd (show false=true from h) Bool.false_ne_true
theorem soundSs{T:Tab}{k:Nat}{cal:Cal}{X:Cx}(g:Gf X T k cal)(d:Df X):∀(ms:List MS) (ss:List Stmt),chkSs T X.N X.env.scope ms ss=true->PSs X ss (tSs X.K cal ms)
 | [],ss,h=>by
  cases ss with
  |nil=>exact Cc
  |cons _ _=>cases h
 | m::ms,ss,h=>by
  cases hm:Ao m with
  |true =>
   cases m<;>simp[Ao]at hm
   cases h
  | false =>
   cases ss with
   |nil=>cases m<;>first|(cases h;done)|cases hm
   |cons s ss =>
    have h:(gL T X.N X.env.scope m s&&chkSs T X.N X.env.scope ms ss)=true:=by cases m<;>first|exact h|(simp[Ao]at hm)
    simp only[Bool.and_eq_true]at h;exact Aa (Ap g d m s h.1) (soundSs g d ms ss h.2)
end
structure FnD(K:PySem.W.Frag)(x y:Str)(st:Stmt)(fa:Addr)(fd:FuncData):Prop where
 it:∃(c0 d0 k0 o0 m0:Value) (a0:Option Addr) (c1 t1:Value) (a1:Option Addr) (sl:Array (Option Value)),
  K.lookup fa=some ⟨c0,a1,.func fd,sl⟩/\PySem.W.codeIn K c1 y=true/\fd=PySem.W.fnOf x y (mC st) (eQ st) (aR st) d0 k0 o0 m0 a0 c1 t1
 kp:PySem.W.keepIn K (.ref fa)=true
theorem FnD.mk'{K:PySem.W.Frag}{x y:Str}{st:Stmt}{q:Addr}{c0 d0 z D J c1 U:Value}{Y Z:Option Addr}{sl:Array (Option Value)}
  (l:K.lookup q=some ⟨c0,Z,.func (PySem.W.fnOf x y (mC st) (eQ st) (aR st) d0 z D J Y c1 U),sl⟩) (c:PySem.W.codeIn K c1 y=true) (k:PySem.W.keepIn K (.ref q)=true) :
  FnD K x y st q (PySem.W.fnOf x y (mC st) (eQ st) (aR st) d0 z D J Y c1 U):=⟨⟨_,_,_,_,_,_,_,_,_,_,l,c,rfl⟩,k⟩
structure oI(T:Tab)(K:PySem.W.Frag)(mg:Str->Option Value)(st:Stmt)(d:MD)(fa:Addr)(fd:FuncData):Prop where
 fn:FnD K d.name d.name st fa fd
 binds:bA K fd d.params []
 named:mg d.name=some (.ref fa)
 scope:gu d.names d.params (aR st)
 body:chkSs T d.names (aR st) d.body (eQ st)=true
theorem bn1{K:PySem.W.Frag}{fd:FuncData}{q:Str}(h:∀a,bindArgs fd ⟨[a],[]⟩=pure [(q,a)]):bA K fd [q] []:=.all λus z=>match us,z with|[a],_=>h a
theorem bn2{K:PySem.W.Frag}{fd:FuncData}{q z:Str}(h:∀a b,bindArgs fd ⟨[a,b],[]⟩=pure [(q,a),(z,b)]):bA K fd [q,z] []:=.all λus D=>match us,D with|[a,b],_=>h a b
theorem bn3{K:PySem.W.Frag}{fd:FuncData}{q z D:Str}(h:∀a b c,bindArgs fd ⟨[a,b,c],[]⟩=pure [(q,a),(z,b),(D,c)]):bA K fd [q,z,D] []:=.all λus J=>match us,J with|[a,b,c],_=>h a b c
noncomputable def HD(K:PySem.W.Frag)(x:Str)(st:Stmt)(d:MD)(q:FuncData->Prop:=λ_=>True):Prop:=d.name=x/\∃z fd,PySem.W.nsIn K mainGlobals x=some (some (.ref z))/\FnD K x x st z fd/\bA K fd d.params []/\q fd
noncomputable def okD(T:Tab)(st:Stmt)(d:MD):Bool:=
 decide ((aR st).kind=.function/\(aR st).isCoroutine=false/\(aR st).isGenerator=false/\d.names.Nodup/\d.names.take d.params.length=d.params/\(∀x∈d.params,(aR st).names.lookup x=some .local\/(aR st).names.lookup x=some .cell)/\∀y∈(aR st).names,y.2≠.free)
 &&chkSs T d.names (aR st) d.body (eQ st)
theorem aN{T:Tab}{K:PySem.W.Frag}{mg:Str->Option Value}{h:Heap}{st:Stmt}{d:MD}(X:K.In h)(G:h.Ns mainGlobals mg){q:FuncData->Prop}{x:Str}(hd:HD K x st d q)(D:okD T st d=true):∃J fd,oI T K mg st d J fd/\q fd:=by
 obtain⟨e,_,_,n,f,b,z⟩:=hd;obtain⟨c1,c2⟩:=Bool.and_eq_true_iff.mp D;obtain⟨U,Y,Z,s4,s5,s6,s7⟩:=of_decide_eq_true c1;subst e;exact⟨_,_,⟨f,b,PySem.W.mg_of X G n,⟨U,Y,Z,s4,s5,s6,s7⟩,c2⟩,z⟩
noncomputable def vh(T:Tab)(K:PySem.W.Frag)(mg:Str->Option Value):List MD->List (List Sc)->Prop
 | [],[]=>True
 |d::ds,l::ls=>(∃st q fd,oI T K mg st d q fd/\∃vs,bA K fd d.params vs/\ay (l.map Sc.v) vs)/\vh T K mg ds ls
 | _,_=>False
theorem vh.get{T:Tab}{K:PySem.W.Frag}{mg:Str->Option Value}:∀{ds:List MD}{D:List (List Sc)}{f:Nat}{d:MD},vh T K mg ds D->ds[f]?=some d->∃l st z fd,D[f]?=some l/\oI T K mg st d z fd/\∃vs,bA K fd d.params vs/\ay (l.map Sc.v) vs
 | [],_,f,d,_,e=>by simp at e
 | _::_,[],f,d,h,e=>h.elim
 |d0::ds,l::D,0,d,h,e=>by
  cases e;obtain⟨⟨st,z,fd,r⟩,_⟩:=h;exact⟨l,st,z,fd,rfl,r⟩
 |d0::ds,l::D,f+1,d,h,e=>by
  obtain⟨k,st,z,fd,q,r⟩:=vh.get h.2 (show ds[f]?=some d from by simpa using e);exact⟨k,st,z,fd,by simpa using q,r⟩
noncomputable def sS(K:PySem.W.Frag):Nat->PV->Value->Bool
 | _,.str x,.str y _=>x==y
 | n + 1,.tup xs,.ref a=>(match List.lookup a K with
  |some o=>(match o.cls,o.data with
   | .type t,.seq its _=>t == "tuple"&&decide (its.size<=10000)&&xs.length==its.size&&(xs.zip its.toList).all λp=>sS K n p.1 p.2
   | _,_=>false)
  |none=>false)
 | _,_,_=>false
theorem rn{K:PySem.W.Frag}{n:Nat}(ih:∀(v:PV) (val:Value),sS K n v val=true->∃u,aA u val/\∀F,Rep K F v u):∀(xs:List PV) (its:List Value),xs.length=its.length->((xs.zip its).all λp=>sS K n p.1 p.2)=true->∃us,ay us its/\∀F,Reps K F xs us
 | [],[],_,_=>⟨[],.nil,λ_=>.nil⟩
 | [],_::_,h,_=>by cases h
 | _::_,[],h,_=>by cases h
 |x::xs,v::vs,h,z=>by
  rw[zip_cons_cons,all_cons,Bool.and_eq_true]at z;obtain⟨u,r,q⟩:=ih x v z.1;obtain⟨us,D,J⟩:=rn ih xs vs (by simpa using h) z.2;exact⟨u::us,.cons r D,λF=>.cons (q F) (J F)⟩
theorem rq{K:PySem.W.Frag}:∀(n:Nat) (v:PV) (val:Value),sS K n v val=true->∃u,aA u val/\∀F,Rep K F v u
 | n,.str x,val,h=>by
  cases val with
  |str y t =>
   have h:(x==y)=true:=by cases n<;>exact h
   obtain rfl:=eq_of_beq h;exact⟨.str x,⟨t,rfl⟩,λF=>by rw[Rep]⟩
  | _=>cases n<;>cases h
 | n + 1,.tup xs,val,h=>by
  cases val with
  | ref a =>
   have h:(match List.lookup a K with|some o=>(match o.cls,o.data with|.type t,.seq its _=>t == "tuple"&&decide (its.size<=10000)&&xs.length==its.size&&(xs.zip its.toList).all λp=>sS K n p.1 p.2|_,_=>false)|none=>false)=true:=h;split at h
   ·rename_i o ho;split at h
    ·rename_i t its m hc hd;simp only[Bool.and_eq_true,beq_iff_eq,decide_eq_true_eq]at h;obtain⟨⟨⟨rfl,h1⟩,h2⟩,h3⟩:=h;obtain⟨us,rs,qs⟩:=rn (rq n) xs its.toList (by simpa using h2) h3;refine⟨.ref a,rfl,λF=>?_⟩;rw[Rep];exact⟨a,us,rfl,.inr ⟨o,its,m,ho,hc,hd,by rw[sizeLine_eq];omega,rs⟩,qs F⟩
    ·cases h
   ·cases h
  | _=>cases h
 |0,.tup _,val,h=>by cases val<;>cases h
 |n,.non,val,h=>by cases n<;>cases val<;>cases h
 |n,.bl _,val,h=>by cases n<;>cases val<;>cases h
 |n,.int _,val,h=>by cases n<;>cases val<;>cases h
 |n,.lst _,val,h=>by cases n<;>cases val<;>cases h
 |n,.dI _,val,h=>by cases n<;>cases val<;>cases h
noncomputable def jM(w:World):List DictEntry->Prop
 | []=>True
 |e::r=>(match e.key with|.str x _=>e.hash=hashStr w x|_=>False)/\jM w r
theorem rA{w:World}:∀{es:List DictEntry},jM w es->∀e∈es,∃k,Value.isStrOf k e.key=true/\e.hash=hashStr w k
 | [],_,e,he=>by cases he
 | d::es,h,e,he=>by
  rcases mem_cons.mp he with rfl|he
  ·have h1:(match e.key with|.str x _=>e.hash=hashStr w x|_=>False):=h.1;split at h1
   ·rename_i x t hk;exact⟨x,by rw[hk];simp[Value.isStrOf],h1⟩
   ·exact h1.elim
  ·exact rA h.2 e he
noncomputable def Cn(K:PySem.W.Frag)(es:Array DictEntry)(tbl:List (Str×PV)):Bool:=tbl.all λp=>match findBy Value.isStrOf es p.1 with|some val=>sS K 4 p.2 val|none=>false
theorem Co {K:PySem.W.Frag}{mg:Str->Option Value}{w:World}{d:Addr}{o:Obj}{es:Array DictEntry}{ep:Nat} (h1:mg ("MEMBERS":Str)=some (.ref d)) (h2:List.lookup d K=some o) (h3:o.ExactDict) (h4:o.data=.dict es ep) (h5:jM w es.toList) (h0:(d==sysModules)=false) (h6:(fJ.all λt=>Cn K es t.2)=true):xm K mg w:=λt z=>by
 have h7:=List.all_eq_true.mp h6 t z;refine⟨d,o,es,ep,h0,?_,h2,h3,h4,λe D=>rA h5 e (by simpa using D),λp J=>?_⟩
 ·unfold fJ at z;simp only[mem_cons,not_mem_nil,or_false]at z;subst z;exact h1
 ·have h8:=List.all_eq_true.mp h7 p J;split at h8
  ·rename_i val U;obtain⟨u,r,q⟩:=rq _ _ _ h8;exact⟨val,u,U,r,q⟩
  ·cases h8
structure Aq(T:Tab)(K:PySem.W.Frag)(mg:Str->Option Value)(ds:List MD)
  (w:World)
 :Prop where
 tab:T.fs=ds.map (·.name)
 defs:vh T K mg ds T.ds
 blt:∀x∈iG,mg (x:Str)=none
 gs:∀p∈T.gs,∃u,mg p.1=some u/\aA (toV p.2) u
 ct:xm K mg w
 wcls:∀C,IsW K C->Cls K C/\(∃(fa:Addr) (fd:FuncData) (ps:List Str),nD K C "are_left" fa/\bA K fd ps []/\∀P w base,de P w K mg base CX0 1 fa fd ps (spL K C)) /\
  (∃(fa:Addr) (fd:FuncData) (ps:List Str),nD K C "next_word" fa/\bA K fd ps []/\∀P w base,de P w K mg base CX0 2 fa fd ps (spN K C))
 wini:∃C,IsW K C/\mg ("Words":Str)=some (.ref C)/\∃(fa:Addr) (fd:FuncData) (ps:List Str),Mk K C fa/\bA K fd ps []/\∀P w base,de P w K mg base CX0 1 fa fd ps (spW C)
theorem kN{ds:List MD}{n f:Nat}{d:MD}{args:List MV}{r:PV}(hd:ds[f]?=some d)(h:aa ds (n+1) f args=some r):args.length=d.params.length /\
  ((∃ρ,exs (aa ds n) d.body (args.map some++replicate (d.names.length-args.length) none)=.next ρ/\r=.non)\/exs (aa ds n) d.body (args.map some++replicate (d.names.length-args.length) none)=.ret r \/
   ∃xs,exs (aa ds n) d.body (args.map some++replicate (d.names.length-args.length) none)=.retF xs/\r=.lst xs):=by
 rw[aa,hd]at h;dsimp only at h;by_cases q:args.length=d.params.length
 ·rw[if_pos q]at h;refine⟨q,?_⟩;cases he:exs (aa ds n) d.body (args.map some++replicate (d.names.length-args.length) none) with
  |next ρ=>rw[he]at h;cases h;exact .inl ⟨ρ,rfl,rfl⟩
  |ret v=>rw[he]at h;cases h;exact .inr (.inl rfl)
  |retF xs=>rw[he]at h;cases h;exact .inr (.inr ⟨xs,rfl,rfl⟩)
  |retM v ρ=>rw[he]at h;cases h
  |brk ρ=>rw[he]at h;cases h
  |cont ρ=>rw[he]at h;cases h
  |bad=>rw[he]at h;cases h
 ·rw[if_neg q]at h;cases h
theorem jw{ds:List MD}{n f:Nat}{d:MD}{args:List MV}{r:PV}(D:f<1000)(z:ds[f+1000]?=none)(hd:ds[f]?=some d)(h:aa ds (n+1) (f+1000) args=some r):args.length=d.params.length /\
  ∃xs,exs (aa ds n) d.body (args.map some++replicate (d.names.length-args.length) none)=.retF xs/\r=.lst xs:=by
 rw[aa,z]at h;dsimp only at h;rw[if_neg (by omega),Nat.add_sub_cancel,hd]at h;dsimp only at h;by_cases q:args.length=d.params.length
 ·rw[if_pos q]at h;refine⟨q,?_⟩;cases he:exs (aa ds n) d.body (args.map some++replicate (d.names.length-args.length) none) with
  |retF xs=>rw[he]at h;cases h;exact⟨xs,rfl,rfl⟩
  |retM v ρ=>rw[he]at h;cases h
  |next ρ=>rw[he]at h;cases h
  |ret v=>rw[he]at h;cases h
  |brk ρ=>rw[he]at h;cases h
  |cont ρ=>rw[he]at h;cases h
  |bad=>rw[he]at h;cases h
 ·rw[if_neg q]at h;cases h
theorem DX{ds:List MD}{n:Nat}(q:ds.length<=1000)(h:aa ds n 4000 []≠none):3<=n:=by
 match n,h with
 |0,h=>exact absurd rfl h
 | n + 1,h =>
  by_cases c:4<=n
  ·omega
  ·refine absurd ?_ h;rw[aa,getElem?_eq_none (by omega)];dsimp only;rw[if_pos (by decide),if_pos rfl,if_neg c]
noncomputable def HMW(K:PySem.W.Frag)(C:Addr)(x y:Str)(st:Stmt)(ps:List Str):Prop:=∃q fd,nD K C x q/\FnD K x y st q fd/\bA K fd ps []
theorem l6{ds:List MD}{n f:Nat}{d:MD}{args:List MV}{r:PV}(U:f<1000)(z:ds[f+2000]?=none)(hd:ds[f]?=some d)(h:aa ds (n+1) (f+2000) args=some r):args.length=d.params.length /\
  ∃v ρ ms,exs (aa ds n) d.body (args.map some++replicate (d.names.length-args.length) none)=.retM v ρ/\bG args ρ=some ms/\r=.tup (v::ms):=by
 rw[aa,z]at h;dsimp only at h;rw[if_pos (by omega)]at h;rw[if_neg (by omega)]at h;rw[Nat.add_sub_cancel,hd]at h;dsimp only at h;by_cases q:args.length=d.params.length
 ·rw[if_pos q]at h;refine⟨q,?_⟩;cases he:exs (aa ds n) d.body (args.map some++replicate (d.names.length-args.length) none) with
  |retM v ρ =>
   rw[he]at h;dsimp only at h;rw[map_eq_some_iff]at h;obtain⟨ms,D,J⟩:=h;exact⟨v,ρ,ms,rfl,D,J.symm⟩
  |next ρ=>rw[he]at h;cases h
  |ret v=>rw[he]at h;cases h
  |retF xs=>rw[he]at h;cases h
  |brk ρ=>rw[he]at h;cases h
  |cont ρ=>rw[he]at h;cases h
  |bad=>rw[he]at h;cases h
 ·rw[if_neg q]at h;cases h
theorem je{K:PySem.W.Frag}{O:List Addr}{H:Hp}{args:List MV}{vs:List V}{ds:List PV}{ms:List Addr}(h:bY K O H args vs ds ms):∀(i:Nat) (d:DD) (a:Addr),args[i]?=some (.mutD d)->vs[i]?=some (.ref a)->a∈ms:=by
 induction h with
 |nil=>intro i d a e;simp at e
 |mutd h D t ih =>
  intro i d a q z;cases i with
  |zero=>simp at z;subst z;exact .head _
  |succ i=>exact .tail _ (ih i d a (by simpa using q) (by simpa using z))
 |other hm t ih =>
  intro i d a q z;cases i with
  |zero=>simp at q;exact absurd q (hm d)
  |succ i=>exact ih i d a (by simpa using q) (by simpa using z)
theorem oJ{K:PySem.W.Frag}{O:List Addr}{H:Hp}{args:List MV}{vs:List V}{ds:List PV}{ms:List Addr}(h:bY K O H args vs ds ms):∀(i j:Nat) (d d':DD) (a:Addr),i≠j->args[i]?=some (.mutD d)->args[j]?=some (.mutD d')->vs[i]?=some (.ref a)->vs[j]?≠some (.ref a):=by
 induction h with
 |nil=>intro i j d d' a _ e;simp at e
 | mutd h hn t ih =>
  intro i j d d' a hij e1 e2 e3 e4;cases i with
  | zero =>
   cases j with
   |zero=>exact hij rfl
   |succ j =>
    simp at e3;subst e3;exact hn (je t j d' _ (by simpa using e2) (by simpa using e4))
  | succ i =>
   cases j with
   |zero =>
    simp at e4;subst e4;exact hn (je t i d _ (by simpa using e1) (by simpa using e3))
   |succ j=>exact ih i j d d' a (by omega) (by simpa using e1) (by simpa using e2) (by simpa using e3) (by simpa using e4)
 | other hm t ih =>
  intro i j d d' a hij e1 e2 e3 e4;cases i with
  |zero=>simp at e1;exact hm d e1
  |succ i =>
   cases j with
   |zero=>simp at e2;exact hm d' e2
   |succ j=>exact ih i j d d' a (by omega) (by simpa using e1) (by simpa using e2) (by simpa using e3) (by simpa using e4)
theorem qk{K:PySem.W.Frag}{O:List Addr}{H:Hp}{args:List MV}{vs:List V}{ds:List PV}{ms:List Addr}(h:bY K O H args vs ds ms):∀{ρ:Rho}{ds':List PV},bG args ρ=some ds'->∀a∈ms,∃(i:Nat) (d:DD),vs[i]?=some (.ref a)/\ρ[i]?=some (some (.mutD d)):=by
 induction h with
 |nil=>intro ρ ds' _ a ha;cases ha
 | mutd h hn t ih =>
  intro ρ ds' e b hb
  match ρ,e with
  | some (.mutD d')::ρ,e =>
   rw[bG,map_eq_some_iff]at e;obtain⟨ds2,e0,rfl⟩:=e;rcases mem_cons.mp hb with rfl|hb
   ·exact⟨0,d',rfl,rfl⟩
   ·obtain⟨i,d,h1,h2⟩:=ih e0 b hb;exact⟨i+1,d,by simpa using h1,by simpa using h2⟩
 | other hm t ih =>
  intro ρ ds' e b hb;rename_i m v as vs ds ms
  match m,ρ,e,hm with
  | .val _,r::ρ,e,hm =>
   rw[bG]at e;obtain⟨i,d,h1,h2⟩:=ih e b hb;exact⟨i+1,d,by simpa using h1,by simpa using h2⟩
  | .mutD d,_,_,hm=>exact absurd rfl (hm d)
theorem sT{K:PySem.W.Frag}{O O':List Addr}{H H':Hp}{args:List MV}{vs:List V}{ds:List PV}{ms:List Addr}(h:bY K O H args vs ds ms):∀{ρ:Rho}{ds':List PV},bG args ρ=some ds'->(∀(i:Nat) (d d':DD) (a:Addr),args[i]?=some (.mutD d)->ρ[i]?=some (some (.mutD d'))->vs[i]?=some (.ref a)->DAt K H' O' a d')->bY K O' H' args vs ds' ms:=by
 induction h with
 |nil=>intro ρ ds' e _;rw[bG]at e;cases e;exact .nil
 | mutd h hn t ih =>
  intro ρ ds' e hq
  match ρ,e with
  |some (.mutD d')::ρ,e =>
   rw[bG,map_eq_some_iff]at e;obtain⟨ds2,e0,rfl⟩:=e;exact .mutd (hq 0 _ d' _ rfl rfl rfl) hn (ih e0 λi d d2 a e1 e2 e3=>hq (i+1) d d2 a (by simpa using e1) (by simpa using e2) (by simpa using e3))
 | other hm t ih =>
  intro ρ ds' e hq;rename_i m v as vs ds ms
  match m,ρ,e,hm with
  | .val _,r::ρ,e,hm =>
   rw[bG]at e;exact .other hm (ih e λi d d2 a e1 e2 e3=>hq (i+1) d d2 a (by simpa using e1) (by simpa using e2) (by simpa using e3))
  | .mutD d,_,_,hm=>exact absurd rfl (hm d)
theorem hZ{α q:Type}{F:α->q->Prop}:∀{xs:List α}{ys:List q}{i:Nat}{x:α},Paired F xs ys->xs[i]?=some x->∃y,ys[i]?=some y/\F x y
 | _,_,_,_,.nil,e=>by simp at e
 | _,_,0,_,.cons r _,e=>by simp at e;subst e;exact⟨_,rfl,r⟩
 | _,_,i+1,x,.cons _ t,e=>by
  obtain⟨u,h1,h2⟩:=hZ (i:=i) (x:=x) t (by simpa using e);exact⟨u,by simpa using h1,h2⟩
theorem oK{K:PySem.W.Frag}{H:Hp}{O:List Addr}{args:List MV}{vs:List V}{N:List Str}(U:∀a∈O,H a≠none)(h:Paired (jt K O H) args vs):aw K H O O H (args.map some++replicate (N.length-args.length) none) (dh N vs):=by
 have Y:args.length=vs.length:=Paired.length h;have get:∀(i:Nat) (m:MV),(args.map some++replicate (N.length-args.length) none)[i]?=some (some m)->∃u,(dh N vs)[i]?=some (some u)/\jt K O H m u:=λi m e=>by
  by_cases hi:i<args.length
  ·rw[getElem?_append_left (by simpa using hi),getElem?_map]at e;cases D:args[i]? with
   |none=>rw[D]at e;cases e
   |some m' =>
    rw[D]at e;cases e;obtain⟨u,z,q⟩:=hZ h D;refine⟨u,?_,q⟩;unfold L2.dh;rw[getElem?_append_left (by rw[length_map,<- Y];exact hi),getElem?_map,z]
    rfl
  ·rw[getElem?_append_right (by simpa using hi),getElem?_replicate]at e;split at e<;>cases e
 refine⟨ae.refl H,U,λa Z=>Z,U,by unfold L2.dh;simp[Y],λi m e=>?_,λi j xs ys a _ e _ J _=>?_
  ⟩
 ·obtain⟨u,z,q⟩:=get i m e;refine⟨u,z,?_⟩;cases m with
  |val v=>exact q
  |own _=>exact q.elim
  |brw ys=>exact q
  |ownD _=>exact q.elim
  |mutD _=>exact q.elim
  |brwD _=>exact q
 ·obtain⟨u,z,q⟩:=get i _ e;cases xs with
  |own _=>exact q.elim
  |ownD _=>exact q.elim
  |mutD _=>exact q.elim
  |val _=>cases J
  |brw _=>cases J
  |brwD _=>cases J
theorem jf{α:Type}{F:α->V->Prop}{args:List α}{vs:List V}{N:List Str}(h:Paired F args vs):∀(i:Nat) (m:α),(args.map some++replicate (N.length-args.length) none)[i]?=some (some m)->args[i]?=some m/\∃u,vs[i]?=some u/\(dh N vs)[i]?=some (some u)/\F m u:=λi m e=>by
 have J:args.length=vs.length:=Paired.length h;by_cases hi:i<args.length
 ·rw[getElem?_append_left (by simpa using hi),getElem?_map]at e;cases z:args[i]? with
  |none=>rw[z]at e;cases e
  |some U =>
   rw[z]at e;cases e;obtain⟨u,D,q⟩:=hZ h z;refine⟨rfl,u,D,?_,q⟩;unfold L2.dh;rw[getElem?_append_left (by rw[length_map,<- J];exact hi),getElem?_map,D]
   rfl
 ·rw[getElem?_append_right (by simpa using hi),getElem?_replicate]at e;split at e<;>cases e
theorem sU{K:PySem.W.Frag}{H:Hp}{O:List Addr}{args:List MV}{vs:List V}{N:List Str}{ds:List PV}{ms:List Addr}(hO:∀a∈O,H a≠none)(h:Paired (zE K O H) args vs)(hm:bY K O H args vs ds ms):aw K (gR H ms) (O.filter λb=>decide (b∉ms)) O H (args.map some++replicate (N.length-args.length) none) (dh N vs):=by
 have hl:args.length=vs.length:=Paired.length h;have le:ae (gR H ms) H:=λb u e=>by
  unfold gR at e;split at e
  ·cases e
  ·exact e
 refine⟨le,hO,λa D=>(mem_filter.mp D).1,λa D=>?_,by unfold L2.dh;simp[hl],λi m e=>?_,λi j x y a J e1 e2 ox oy s1 s2=>?_
  ⟩
 ·obtain⟨h1,h2⟩:=mem_filter.mp D;unfold gR;rw[if_neg (of_decide_eq_true h2)];exact hO a h1
 ·obtain⟨U,u,Y,Z,q⟩:=jf h i m e;refine⟨u,Z,?_⟩;cases m with
  |val v=>exact q
  |mutD d =>
   obtain⟨a,rfl,h1,h2⟩:=q;refine⟨a,rfl,h1,h2,?_⟩;unfold gR;rw[if_pos (je hm i d a U Y)]
  |own _=>exact q.elim
  |brw _=>exact q.elim
  |ownD _=>exact q.elim
  |brwD _=>exact q.elim
 ·obtain⟨U,u,ao,Z,q⟩:=jf h i x e1;obtain⟨eb,w,ap,ew,z⟩:=jf h j y e2;rw[Z]at s1;cases s1;rw[ew]at s2;cases s2;cases x with
  |mutD d =>
   cases y with
   |mutD d'=>exact oJ hm i j d d' a J U eb ao ap
   |val _=>cases oy
   |own _=>exact z.elim
   |brw _=>exact z.elim
   |ownD _=>exact z.elim
   |brwD _=>exact z.elim
  |val _=>cases ox
  |own _=>exact q.elim
  |brw _=>exact q.elim
  |ownD _=>exact q.elim
  |brwD _=>exact q.elim
section
variable{T:Tab}{P:Program}{w:World}{K:PySem.W.Frag}{mg:Str->Option Value}{base:Heap}{ds:List MD}
structure Cq(T:Tab)(P:Program)(w:World)(K:PySem.W.Frag)(mg:Str->Option Value)(base:Heap)(ds:List MD)(n g:Nat)(fa:Addr)(fd:FuncData)(ps:List Str):Prop where
 m:de P w K mg base CX0 n fa fd ps (spM K (aa ds n) g)
 f:de P w K mg base CX0 n fa fd ps (spF K (aa ds n) g)
 d:de P w K mg base CX0 n fa fd ps (spD K (aa ds n) g)
theorem jN(hlen:ds.length<=1000)
  (pr:Aq T K mg ds w)
 :∀(n f:Nat) (d:MD),ds[f]?=some d->∀st fa fd,oI T K mg st d fa fd->Cq T P w K mg base ds n f fa fd d.params
 | 0,f,d,hd,st,fa,fd,D=>{
   m:=⟨λvs H Q E h=>(by obtain⟨O,args,r,_,_,e,_⟩:=h;exact absurd e (by simp[aa])),λA outer s H args us vs Q E _ _ _ _ h=>(by obtain⟨O,args,r,_,_,e,_⟩:=h;exact absurd e (by simp[aa]))⟩
   f:=⟨λvs H Q E h=>(by obtain⟨O,args,r,_,_,e,_⟩:=h;exact absurd e (by simp[aa])),λA outer s H args us vs Q E _ _ _ _ h=>(by obtain⟨O,args,r,_,_,e,_⟩:=h;exact absurd e (by simp[aa]))⟩
   d:=⟨λvs H Q E h=>(by obtain⟨O,args,v,ds,ds₀,ms,_,_,_,e,_⟩:=h;exact absurd e (by simp[aa])),λA outer s H args us vs Q E _ _ _ _ h=>(by obtain⟨O,args,v,ds,ds₀,ms,_,_,_,e,_⟩:=h;exact absurd e (by simp[aa]))⟩
   }
 | n + 1,f,d,hd,st,fa,fd,D=>by
  obtain⟨c0,d0,k0,o0,m0,a0,cdv,t1,a1,sl,lk,hc,rfl⟩:=D.fn.it;have hf:f<1000:=Nat.lt_of_lt_of_le (List.getElem?_eq_some_iff.mp hd).1 hlen;have hn:ds[f+1000]?=none:=getElem?_eq_none (by omega);have hn2:ds[f+2000]?=none:=getElem?_eq_none (by omega);have gg:∀{CX:CXT}{A:Around}{outer:_}{s:Shared}{H:Hp}{E:_},_->Gf (nE CX P w K mg base d.names d.name (aR st) fa cdv A outer s H E).nox T n (aa ds n):=λ{CX A outer s H E} hr=>{
   calm:=rfl
   room:=hr
   fns:=λf' x hx=>by
    rw[pr.tab,getElem?_map]at hx;cases hd2:ds[f']? with
    |none=>rw[hd2]at hx;cases hx
    |some d2 =>
     rw[hd2]at hx;cases hx;obtain⟨l2,st2,fa2,fd2,el,D2,bd⟩:=pr.defs.get hd2;exact⟨fa2,fd2,d2.params,D2.named,D2.fn.kp,D2.binds,(jN hlen pr n f' d2 hd2 st2 fa2 fd2 D2).m,λl hl=>by rw[el]at hl;cases hl;exact bd⟩
   blt:=pr.blt
   gs:=pr.gs
   ct:=pr.ct
   wlvl:=λh=>dj.mono hr (DX hlen h)
   wcls:=λC hC=>by
    obtain⟨h1,⟨fa,fd,ps,h2,h3,h4⟩,fa',fd',ps',k2,k3,k4⟩:=pr.wcls C hC;exact⟨h1,⟨fa,fd,ps,h2,h3,h4 _ _ _⟩,fa',fd',ps',k2,k3,k4 _ _ _⟩
   wini:=by
    obtain⟨C,h1,h2,fa,fd,ps,h3,h4,h5⟩:=pr.wini;exact⟨C,h1,h2,fa,fd,ps,h3,h4,h5 _ _ _⟩
   fnsF:=λf' x hx=>by
    rw[pr.tab,getElem?_map]at hx;cases hd2:ds[f']? with
    |none=>rw[hd2]at hx;cases hx
    |some d2 =>
     rw[hd2]at hx;cases hx;obtain⟨l2,st2,fa2,fd2,el,D2,bd⟩:=pr.defs.get hd2;exact⟨fa2,fd2,d2.params,D2.named,D2.fn.kp,D2.binds,(jN hlen pr n f' d2 hd2 st2 fa2 fd2 D2).f⟩
   fnsD:=λf' x hx=>by
    rw[pr.tab,getElem?_map]at hx;cases hd2:ds[f']? with
    |none=>rw[hd2]at hx;cases hx
    |some d2 =>
     rw[hd2]at hx;cases hx;obtain⟨l2,st2,fa2,fd2,el,D2,bd⟩:=pr.defs.get hd2;exact⟨fa2,fd2,d2.params,D2.named,D2.fn.kp,D2.binds,(jN hlen pr n f' d2 hd2 st2 fa2 fd2 D2).d⟩
   }
  have df:∀{CX:CXT}{A:Around}{outer:_}{s:Shared}{H:Hp}{E:_},Df (nE CX P w K mg base d.names d.name (aR st) fa cdv A outer s H E).nox:=λ{CX A outer s H E}=>⟨D.scope.nd,λ_=>rfl,PassesOwn.never,by
    have hk:(nE CX P w K mg base d.names d.name (aR st) fa cdv A outer s H E).nox.env.scope.kind=.function:=D.scope.kind;unfold Env.blockKind;rw[hk]
    rfl
    ⟩
  refine {
   m:=?_
   f:=?_
   d:=?_
   }
  ·refine lJ lk hc D.scope (λvs H Q E h=>?_) (λA outer s H vs Q E hr h=>?_)
   ·obtain⟨O,args,r,_,hp,e,_⟩:=h;rw[<- (kN hd e).1];exact(Paired.length hp).symm
   ·obtain⟨O,args,r,hO,hp,e,q⟩:=h;obtain⟨hl,hr'⟩:=kN hd e;refine⟨_,(soundSs (gg hr) df d.body (eQ st) D.body).nox,H,O,O,_,oK hO hp,?_⟩;rcases hr' with ⟨ρ,he,rfl⟩|he|⟨xs,he,rfl⟩
    ·rw[he];exact λσ' H' O' st' _=>q _ H' st'.keep (mU _)
    ·rw[he];exact λu H' s' r'=>q u H' s' r'
    ·rw[he];refine λp us H' s' hp' he' r'=>q _ H' s' ?_
     rw[Rep];refine⟨p,us,rfl,SqL.of ?_,Reps.mono fM _ r'⟩;rw[aL λz=>hO p z hp'];exact he'
  ·refine lJ lk hc D.scope (λvs H Q E h=>?_) (λA outer s H vs Q E hr h=>?_)
   ·obtain⟨O,args,r,_,hp,e,_⟩:=h;rw[<- (jw hf hn hd e).1];exact(Paired.length hp).symm
   ·obtain⟨O,args,xs,hO,hp,e,q⟩:=h;obtain⟨hl,ys,he,ey⟩:=jw hf hn hd e;cases ey;refine⟨_,(soundSs (gg hr) df d.body (eQ st) D.body).nox,H,O,O,_,oK hO hp,?_⟩;rw[he];exact λp us H' s' hp' he' r'=>q p us H' s' hp' he' r'
  ·refine lJ lk hc D.scope (λvs H Q E h=>?_) (λA outer s H vs Q E hr h=>?_)
   ·obtain⟨O,args,v,es,ds₀,ms,_,hp,_,e,_⟩:=h;rw[<- (l6 hf hn2 hd e).1];exact(Paired.length hp).symm
   ·obtain⟨O,args,v,es,ds₀,ms,hO,hp,hm,e,q⟩:=h;obtain⟨hl,v',ρ,es',he,hms,ey⟩:=l6 hf hn2 hd e;cases ey;refine⟨_,(soundSs (gg hr) df d.body (eQ st) D.body).nox,gR H ms,_,O,_,sU hO hp hm,?_⟩;rw[he];have key:∀{σ':St}{H':Hp}{O':List Addr},aw K (gR H ms) (O.filter λb=>decide (b∉ms)) O' H' ρ σ'->a_ (gR H ms) O O' (args.map some++replicate (d.names.length-args.length) none) ρ (dh d.names vs) σ'->∀(i:Nat) (d':DD) (a:Addr),ρ[i]?=some (some (.mutD d'))->vs[i]?=some (.ref a)->DAt K H' O' a d'/\a∈O':=λ{σ' H' O'} st' k' i d' a e2 e3=>by
     obtain⟨_,es2⟩:=k'.mutK i d' e2;obtain⟨u,eu,a',rfl,h1,h2,_⟩:=st'.slot i _ e2;have ei:(dh d.names vs)[i]?=some (some (.ref a)):=by
      have hi:i<vs.length:=(List.getElem?_eq_some_iff.mp e3).1;unfold L2.dh;rw[getElem?_append_left (by simpa using hi),getElem?_map,e3]
      rfl
     rw[es2,ei]at eu;cases eu;exact⟨h1,h2⟩
    refine λu σ' H' O' st' k' ru=>?_
    have vw:ae (aj H' O') (aj H' O):=bj (ae.refl H') λb hb=>.inl (by
     by_cases z:b∈ms
     ·obtain⟨i,d',h1,h2⟩:=qk hm hms b z;exact(key st' k' i d' b h2 h1).2
     ·refine k'.stay b ?_ hb;unfold gR;rw[if_neg z];exact hO b hb)
    refine q u H' (λb o hb eb=>st'.keep b o ?_) (sT hm hms λi d1 d' a e1 e2 e3=>(key st' k' i d' a e2 e3).1.move (λ_ z=>z) vw) (Rep.mono vw _ ru);unfold gR;rw[if_neg hb];exact eb
theorem Cr(q:ds.length<=1000)
  (J:Aq T K mg ds w)
  (n f:Nat) (d:MD) (hd:ds[f]?=some d) (st:Stmt) (z:Addr) (fd:FuncData) (D:oI T K mg st d z fd):de P w K mg base CX0 n z fd d.params (spM K (aa ds n) f):=(jN q J n f d hd st z fd D).m
end
theorem Ar{K:PySem.W.Frag}{ds:List MD}{n q:Nat}{H:Hp}{a:Addr}{ns:List Int}(h:aa ds n q [.brw (ns.map .int)]=some (.bl true))(D:SqL K H a (ns.map V.int)):spM K (aa ds n) q [.ref a] H (λv _=>v=.bl true) λ_ _ _=>False:=
 ⟨[],[.brw (ns.map .int)],.bl true,λ_ z=>by simp at z,.cons ⟨a,_,rfl,D,.of_ints ns⟩ .nil,h,λu H' _ r=>by rw[Rep]at r;exact r⟩
end MM
namespace MM
open PySem List Option
noncomputable abbrev ofS(ts:List Int):PV:=.tup (ts.map .int)
noncomputable abbrev ofR(R:List (List Int)):PV:=.tup (R.map ofS)
noncomputable abbrev ofL(ns:List Int):PV:=.lst (ns.map .int)
theorem gF:∀ns:List Int,bB (ns.map .int)=some ns
 | []=>rfl
 |n::ns=>by simp[bB,gF ns]
theorem l7:∀R:List (List Int),fw (R.map ofS)=some R
 | []=>rfl
 |t::R=>by simp[fw,gF,l7 R]
theorem kO:∀ns:List Bool,cb (ns.map .bl)=some ns
 | []=>rfl
 |n::ns=>by simp[cb,kO ns]
theorem sV{ns:List Int}(h:ns.length<64):gb (ns.map .int)=some (ofL (sortI ns)):=by
 unfold gb;rw[if_pos (by simpa using h),gF]
theorem l8{R:List (List Int)}(h:R.length<64):gb (R.map ofS)=some (.lst ((sortT R).map ofS)):=by
 unfold gb;rw[if_pos (by simpa using h)];cases R with
 |nil=>rfl
 |cons t R =>
  have:bB ((t::R).map ofS)=none:=rfl;rw[this];simp only[l7,map_some]
theorem kP{α:Type}{g:α->PV}{c:PV->Option Bool}{f:PV->Option PV}{p:α->Bool}{h:α->PV}:∀{xs:List α},(∀x∈xs,c (g x)=some (p x))->(∀x∈xs,p x=true->f (g x)=some (h x))->cQ c f (xs.map g)=some ((xs.filter p).map h)
 | [],_,_=>rfl
 |x::xs,hc,hf=>by
  rw[map_cons,cQ,hc x (.head _),bind_some];have ih:=kP (xs:=xs) (λy q=>hc y (.tail _ q)) (λy q=>hf y (.tail _ q));cases z:p x with
  |true=>rw[if_pos rfl,hf x (.head _) z,bind_some,ih,filter_cons_of_pos z];rfl
  |false=>rw[if_neg (by simp),ih,filter_cons_of_neg (by simp[z])]
theorem h_{α:Type}{g:α->PV}{c:PV->Option Bool}{f:PV->Option PV}{h:α->PV}{xs:List α}(hc:∀x∈xs,c (g x)=some true)(q:∀x∈xs,f (g x)=some (h x)):cQ c f (xs.map g)=some (xs.map h):=by
 rw[kP (p:=λ_=>true) hc (λx hx _=>q x hx),filter_eq_self.mpr λ_ _=>rfl]
theorem As(a b:Int)(ts:List Int):((b==a) || decide (a∈ts))=decide (a=b\/a∈ts):=by
 by_cases e:a=b
 ·subst e;rw[beq_self_eq_true,Bool.true_or];exact(decide_eq_true (.inl rfl)).symm
 ·rw[beq_eq_false_iff_ne.mpr (Ne.symm e),Bool.false_or];by_cases q:a∈ts
  ·rw[decide_eq_true q,decide_eq_true (.inr q)]
  ·rw[decide_eq_false q,decide_eq_false (λz=>z.elim e q)]
theorem jg(h:Int):∀ts:List Int,isIn (.int h) (ts.map .int)=some (decide (h∈ts))
 | []=>rfl
 |t::ts=>by
  have ih:=jg h ts;unfold isIn at ih ⊢;rw[map_cons,inL,ih];simp only[eqF,bind_some,map_some,mem_cons,As]
theorem oM(n:Nat):∀a b:List Int,eqL (eqF n) (a.map .int) (b.map .int)=some (decide (a=b))
 | [],[]=>rfl
 | [],_::_=>rfl
 | _::_,[]=>rfl
 |x::a,y::b=>by
  rw[map_cons,map_cons,eqL,oM n a b];simp only[eqF,bind_some,map_some,List.cons.injEq]
  congr 1
  rw[Bool.eq_iff_iff];simp
theorem Cs(n:Nat)(a b:List Int):eqF (n+1) (ofS a) (ofS b)=some (decide (a=b)):=by rw[eqF,oM]
theorem yr(n:Nat):∀a b:List (List Int),eqL (eqF (n+1)) (a.map ofS) (b.map ofS)=some (decide (a=b))
 | [],[]=>rfl
 | [],_::_=>rfl
 | _::_,[]=>rfl
 |x::a,y::b=>by
  rw[map_cons,map_cons,eqL,yr n a b,Cs];simp only[bind_some,map_some,List.cons.injEq]
  congr 1
  rw[Bool.eq_iff_iff];simp
theorem Ct(n:Nat)(a b:List (List Int)):eqF (n+2) (ofR a) (ofR b)=some (decide (a=b)):=by rw[eqF,yr]
noncomputable def bo:R->Option PV
 | .next _=>some .non
 | .ret v=>some v
 | .retF xs=>some (.lst xs)
 | _=>none
theorem aq{ds:List MD}{n f:Nat}{d:MD}{args:List MV}(hd:ds[f]?=some d)(q:args.length=d.params.length):aa ds (n+1) f args=bo (exs (aa ds n) d.body (args.map some++replicate (d.names.length-args.length) none)):=by
 rw[aa,hd];simp only[q,if_true];unfold bo
 rfl
noncomputable def iN(args:List MV):R->Option PV
 | .retM v ρ=>(bG args ρ).map λds=>.tup (v::ds)
 | _=>none
theorem fF{ds:List MD}{n f:Nat}{d:MD}{args:List MV}(q:ds[f+2000]?=none)(hd:ds[f]?=some d)(z:args.length=d.params.length)
  (D:f<1000:=by decide)
 :aa ds (n+1) (f+2000) args=iN args (exs (aa ds n) d.body (args.map some++replicate (d.names.length-args.length) none)):=by
 rw[aa,q];dsimp only;rw[if_pos (by omega)];rw[if_neg (by omega)];rw[Nat.add_sub_cancel,hd];simp only[z,if_true];unfold iN
 rfl
@[simp] theorem AW(v:PV)(ρ:Rho)(k:Rho->R):(R.retM v ρ).andThen k=.retM v ρ:=rfl
@[simp] theorem At(v:List (Int×Sc)):ek (some (.mutD (.k v)))=some (.brwD (.k v)):=rfl
@[simp] theorem yt(v:List Int):ek (some (.mutD (.p v)))=some (.brwD (.p v)):=rfl
@[simp] theorem Au(v:List (Int×Sc)):dL (some (.mutD (.k v)))=some (.brwD (.k v)):=rfl
@[simp] theorem yu(v:List Int):dL (some (.mutD (.p v)))=some (.brwD (.p v)):=rfl
@[simp] theorem AX(xs:List PV)(k:Rho->R):(R.retF xs).andThen k=.retF xs:=rfl
@[simp] theorem AY(v:PV):bV (some (.val v))=some v:=rfl
@[simp] theorem AZ(v:List PV):bV (some (.own v))=some (.lst v):=rfl
@[simp] theorem A0(v:List PV):bV (some (.brw v))=some (.lst v):=rfl
@[simp] theorem Av(v:List (Int×Sc)):bV (some (.ownD (.k v)))=some (.dI (.k v)):=rfl
@[simp] theorem Aw(v:List (List Int×Sc)):bV (some (.ownD (.t v)))=some (.dI (.t v)):=rfl
@[simp] theorem Ax(v:List (Int×Sc)):bV (some (.brwD (.k v)))=some (.dI (.k v)):=rfl
@[simp] theorem DY(v:List (Int×Sc)):lx (.k v)=true:=rfl
@[simp] theorem DZ(v:List (List Int×Sc)):lx (.t v)=true:=rfl
@[simp] theorem Ay(v:List (List Int×Sc)):bV (some (.brwD (.t v)))=some (.dI (.t v)):=rfl
@[simp] theorem Az(v:List (Int×Sc)):ek (some (.ownD (.k v)))=some (.brwD (.k v)):=rfl
@[simp] theorem yw(v:List Int):ek (some (.ownD (.p v)))=some (.brwD (.p v)):=rfl
@[simp] theorem AA(v:DD):ek (some (.brwD v))=some (.brwD v):=rfl
@[simp] theorem AB(v:List (Int×Sc)):dL (some (.ownD (.k v)))=some (.brwD (.k v)):=rfl
@[simp] theorem yx(v:List Int):dL (some (.ownD (.p v)))=some (.brwD (.p v)):=rfl
@[simp] theorem AC(v:DD):dL (some (.brwD v))=some (.brwD v):=rfl
@[simp] theorem D_(i:Int):sc? (.int i)=some (.int i):=rfl
@[simp] theorem Et(i:Bool):sc? (.bl i)=some (.bl i):=rfl
@[simp] theorem Ea:sc? .non=some .non:=rfl
@[simp] theorem Eb(i:Int):(Sc.int i).pv=.int i:=rfl
@[simp] theorem Eu(i:Bool):(Sc.bl i).pv=.bl i:=rfl
@[simp] theorem A1(v:PV):uI (some (.val v))=some v:=rfl
@[simp] theorem A2(v:PV):ek (some (.val v))=some (.val v):=rfl
@[simp] theorem A3(v:List PV):ek (some (.own v))=some (.brw v):=rfl
@[simp] theorem A4(v:List PV):ek (some (.brw v))=some (.brw v):=rfl
@[simp] theorem A5(v:PV):dL (some (.val v))=some (.val v):=rfl
@[simp] theorem A6(v:List PV):dL (some (.own v))=some (.brw v):=rfl
@[simp] theorem A7(v:List PV):dL (some (.brw v))=some (.brw v):=rfl
@[simp] theorem sW(b:Bool):aJ (.bl b)=some b:=rfl
@[simp] theorem C0(i j:Int):eU .add (.int i) (.int j)=some (.int (i+j)):=rfl
@[simp] theorem C1(i j:Int):eU .sub (.int i) (.int j)=some (.int (i-j)):=rfl
@[simp] theorem C2(i j:Int):eU .mul (.int i) (.int j)=if (-(2 ^ 64)<i/\i<2 ^ 64)\/(-(2 ^ 64)<j/\j<2 ^ 64) then some (.int (i*j)) else none:=rfl
@[simp] theorem Cu(i j:Int):eU .fdiv (.int i) (.int j)=if 0<j/\j<1073741824 then some (.int (i / j)) else none:=rfl
@[simp] theorem C3(i j:Int):eU .mod (.int i) (.int j)=if 0<j then some (.int (i % j)) else none:=rfl
@[simp] theorem C4(x y:List PV):eU .add (.lst x) (.lst y)=if x.length+y.length<=10000 then some (.lst (x++y)) else none:=rfl
@[simp] theorem Ec(i j:Int):cc .lt (.int i) (.int j)=some (decide (i<j)):=rfl
@[simp] theorem Ed(i j:Int):cc .le (.int i) (.int j)=some (decide (i<=j)):=rfl
@[simp] theorem Ee(i j:Int):cc .gt (.int i) (.int j)=some (decide (j<i)):=rfl
@[simp] theorem Ef(i j:Int):cc .ge (.int i) (.int j)=some (decide (j<=i)):=rfl
@[simp] theorem Eg(x y:PV):cc .eq x y=eqF 100 x y:=rfl
@[simp] theorem Eh(x y:PV):cc .ne x y=if pW x y=true then (eqF 100 x y).map (λp=>!p) else none:=rfl
@[simp] theorem C5(x:PV):cc .isN x .non=some (fz x):=rfl
@[simp] theorem Cv(x:PV):cc .notN x .non=some (!fz x):=rfl
@[simp] theorem C6(x:PV)(xs:List PV):cc .isIn x (.tup xs)=isIn x xs:=rfl
@[simp] theorem C7(x:PV)(xs:List PV):cc .isIn x (.lst xs)=isIn x xs:=rfl
@[simp] theorem Cw(x:PV)(xs:List PV):cc .notIn x (.tup xs)=(isIn x xs).map λp=>!p:=rfl
@[simp] theorem Cy(x:PV)(xs:List PV):cc .notIn x (.lst xs)=(isIn x xs).map λp=>!p:=rfl
@[simp] theorem C8(n:Nat)(i j:Int):eqF n (.int i) (.int j)=some (i==j):=by cases n<;>rfl
@[simp] theorem Ei(n:Nat)(i j:Bool):eqF n (.bl i) (.bl j)=some (i==j):=by cases n<;>rfl
@[simp] theorem C9(n:Nat)(i j:Str):eqF n (.str i) (.str j)=some (i==j):=by cases n<;>rfl
@[simp] theorem C_(x y:List PV):pW (.tup x) (.tup y)=true:=rfl
@[simp] theorem Da(x y:List PV):pW (.lst x) (.lst y)=true:=rfl
@[simp] theorem Db(x y:Int):pW (.int x) (.int y)=true:=rfl
@[simp] theorem Dc(x:List PV):bE (.tup x)=some x:=rfl
@[simp] theorem Dd(x:List PV):bE (.lst x)=some x:=rfl
@[simp] theorem Cz(x:List PV):av .len [.tup x]=some (.int x.length):=rfl
@[simp] theorem CA(x:List PV):av .len [.lst x]=some (.int x.length):=rfl
@[simp] theorem CB(x:List (Int×Sc)):av .len [.dI (.k x)]=some (.int x.length):=rfl
@[simp] theorem De(x:PV):av .tupleOf [x]=(bE x).map .tup:=rfl
@[simp] theorem CC(x:PV):av .listOf [x]=(bE x).map .lst:=rfl
@[simp] theorem AD(x:PV):av .sorted [x]=(bE x).bind gb:=rfl
@[simp] theorem Dg(x:List PV):av .any [.lst x]=(cb x).map λbs=>.bl (bs.any id):=rfl
@[simp] theorem Dh(x:List PV):av .all [.lst x]=(cb x).map λbs=>.bl (bs.all id):=rfl
@[simp] theorem CD(i:Int):av .intOf [.int i]=some (.int i):=rfl
@[simp] theorem CF(b:Bool):av .intOf [.bl b]=some (.int (if b then 1 else 0)):=rfl
@[simp] theorem Di(i:Int):isD (.int i)=false:=rfl
@[simp] theorem Ej(i:Bool):isD (.bl i)=false:=rfl
@[simp] theorem Dj(i:Str):isD (.str i)=false:=rfl
@[simp] theorem Dk(i:List PV):isD (.tup i)=false:=rfl
@[simp] theorem Dl(i:List PV):isD (.lst i)=false:=rfl
@[simp] theorem Dm:isD .non=false:=rfl
@[simp] theorem A8(x:PV):av .isInt [x]=if isD x=true then none else some (.bl (isT .isInt x)):=rfl
@[simp] theorem vU(i:Int):isT .isInt (.int i)=true:=rfl
@[simp] theorem xM(i:Bool):isT .isInt (.bl i)=true:=rfl
@[simp] theorem vV(i:Str):isT .isInt (.str i)=false:=rfl
@[simp] theorem vW(i:List PV):isT .isInt (.lst i)=false:=rfl
@[simp] theorem vX(i:List PV):isT .isInt (.tup i)=false:=rfl
@[simp] theorem vY:isT .isInt .non=false:=rfl
@[simp] theorem AE(x:PV):av .isBool [x]=if isD x=true then none else some (.bl (isT .isBool x)):=rfl
@[simp] theorem vi(i:Int):isT .isBool (.int i)=false:=rfl
@[simp] theorem vZ(i:Bool):isT .isBool (.bl i)=true:=rfl
@[simp] theorem vj(i:Str):isT .isBool (.str i)=false:=rfl
@[simp] theorem vk(i:List PV):isT .isBool (.lst i)=false:=rfl
@[simp] theorem vm(i:List PV):isT .isBool (.tup i)=false:=rfl
@[simp] theorem vn:isT .isBool .non=false:=rfl
@[simp] theorem A9(x:PV):av .isStr [x]=if isD x=true then none else some (.bl (isT .isStr x)):=rfl
@[simp] theorem v0(i:Int):isT .isStr (.int i)=false:=rfl
@[simp] theorem xN(i:Bool):isT .isStr (.bl i)=false:=rfl
@[simp] theorem v3(i:Str):isT .isStr (.str i)=true:=rfl
@[simp] theorem v4(i:List PV):isT .isStr (.lst i)=false:=rfl
@[simp] theorem v5(i:List PV):isT .isStr (.tup i)=false:=rfl
@[simp] theorem v6:isT .isStr .non=false:=rfl
@[simp] theorem AF(x:PV):av .isList [x]=if isD x=true then none else some (.bl (isT .isList x)):=rfl
@[simp] theorem vo(i:Int):isT .isList (.int i)=false:=rfl
@[simp] theorem v7(i:Bool):isT .isList (.bl i)=false:=rfl
@[simp] theorem vp(i:Str):isT .isList (.str i)=false:=rfl
@[simp] theorem vq(i:List PV):isT .isList (.lst i)=true:=rfl
@[simp] theorem vt(i:List PV):isT .isList (.tup i)=false:=rfl
@[simp] theorem vv:isT .isList .non=false:=rfl
@[simp] theorem yy(x:PV):av .isTuple [x]=if isD x=true then none else some (.bl (isT .isTuple x)):=rfl
@[simp] theorem tf(i:Int):isT .isTuple (.int i)=false:=rfl
@[simp] theorem vz(i:Bool):isT .isTuple (.bl i)=false:=rfl
@[simp] theorem ti(i:Str):isT .isTuple (.str i)=false:=rfl
@[simp] theorem tj(i:List PV):isT .isTuple (.lst i)=false:=rfl
@[simp] theorem tm(i:List PV):isT .isTuple (.tup i)=true:=rfl
@[simp] theorem tq:isT .isTuple .non=false:=rfl
@[simp] theorem CG(xs:List PV):av .max1 [.lst xs]=(bB xs).bind λns=>(BL ns).map .int:=rfl
@[simp] theorem AG(d:DD):av .valuesOf [.dI d]=if (qP d).length<=10000 then some (.lst (qP d)) else none:=rfl
@[simp] theorem vA(kvs:List (Int×Sc)):av .sortedKeys [.dI (.k kvs)]=if kvs.length<64 then some (ofL (sortI (kvs.map (·.1)))) else none:=rfl
@[simp] theorem Ek(kvs:List (Int×Sc))(i:Int):wN (.dI (.k kvs)) (.int i)=some (yc kvs i):=rfl
@[simp] theorem El(kvs:List (Int×Sc))(i:Int)(s:Sc):zu (.k kvs) (.int i) s=if kvs.length<10000 then some (.k (yd kvs i s)) else none:=rfl
@[simp] theorem Dn(p q:Bool):cc .isN (.bl p) (.bl q)=some (p==q):=rfl
@[simp] theorem CH(p q:Bool):cc .notN (.bl p) (.bl q)=some (!(p==q)):=rfl
@[simp] theorem xO(xs:List PV):av .tupleRev [.lst xs]=some (.tup xs.reverse):=rfl
@[simp] theorem v8(x:PV):av .sortedSet [x]=(bE x).bind λxs=>(bB xs).bind λns=>if ns.length<=1000/\(dd ns).length<64 then some (.lst ((sortI (dd ns)).map .int)) else none:=rfl
@[simp] theorem Ev(x:List PV)(i:Int):kr (.lst x) (.int i)=(place x.length i).bind λj=>x[j]?:=rfl
@[simp] theorem Ew(x:List PV)(i:Int):kr (.tup x) (.int i)=(place x.length i).bind λj=>x[j]?:=rfl
@[simp] theorem Do(x:List PV)(lo hi:Option Int):iy (.lst x) lo hi=some (.lst (cut x lo hi)):=rfl
@[simp] theorem Dp(i j:Int):bnd (.cst (.int i)) (.int j)=some (some j):=rfl
@[simp] theorem Dq(x:PV):bc .seq [x]=bE x:=rfl
theorem xP(j:Int):bc .rng [.int j]=if -(2 ^ 62)<=j/\j<2 ^ 62 then some ((range j.toNat).map λ(k:Nat)=>.int ((0:Int)+k)) else none:=rfl
@[simp] theorem cV(ρ:Rho)(k:Rho->R):(R.next ρ).andThen k=k ρ:=rfl
@[simp] theorem CI(v:PV)(k:Rho->R):(R.ret v).andThen k=.ret v:=rfl
@[simp] theorem CJ(k:Rho->R):R.bad.andThen k=.bad:=rfl
@[simp] theorem CK(ρ:Rho)(k:Rho->R):(R.brk ρ).andThen k=.brk ρ:=rfl
@[simp] theorem A_(ρ:Rho)(k:Rho->R):(R.cont ρ).andThen k=.cont ρ:=rfl
@[simp] theorem AH(v:PV)(k:PV->R):dM (some v) k=k v:=rfl
@[simp] theorem ql(v:Bool)(k:Bool->R):uJ (some v) k=k v:=rfl
@[simp] theorem AI(v:Rho)(k:Rho->R):gQ (some v) k=k v:=rfl
@[simp] theorem Ba(v:PV):bo (.ret v)=some v:=rfl
@[simp] theorem AJ(ρ:Rho):bo (.next ρ)=some .non:=rfl
@[simp] theorem aD(a:Option MV)(l:Rho)(m:MV):put (a::l) 0 m=some m::l:=rfl
@[simp] theorem aE(a:Option MV)(l:Rho)(n:Nat)(m:MV):put (a::l) (n+1) m=a::put l n m:=rfl
@[simp] theorem Bb(z:List ME)(q ρ:Rho):(R.next ρ).back z q=.next (bF z q ρ):=rfl
@[simp] theorem CL(z:List ME)(q:Rho)(v:PV):(R.ret v).back z q=.ret v:=rfl
@[simp] theorem Bc(body:PV->Rho->R)(ρ:Rho):a9 body [] ρ=.next ρ:=rfl
theorem ia{j:Int}(h0:0<=j)(h1:j<4611686018427387904):bc .rng [.int j]=some ((range j.toNat).map λ(k:Nat)=>.int (k:Int)):=by
 rw[xP,if_pos ⟨by omega,by omega⟩]
 congr 1
 exact map_congr_left λk _=>by rw[Int.zero_add]
noncomputable def leT(a b:List Int):Prop:=lexLt b a=false
theorem sortI_perm(l:List Int):(sortI l).Perm l:=by rw[fD];exact L2.Srt.sortI_perm l
theorem sortT_perm(l:List (List Int)):(sortT l).Perm l:=by rw[gk];exact L2.Srt.sortT_perm l
theorem sortI_len(l:List Int):(sortI l).length=l.length:=(sortI_perm l).length_eq
theorem l9(l:List (List Int)):(sortT l).length=l.length:=(sortT_perm l).length_eq
theorem sX{l:List Int}{x:Int}:x∈sortI l ↔ x∈l:=(sortI_perm l).mem_iff
theorem jh{l:List (List Int)}{x:List Int}:x∈sortT l ↔ x∈l:=(sortT_perm l).mem_iff
theorem sortI_rises(l:List Int):(sortI l).Pairwise (· <= ·):=by rw[fD];exact L2.Srt.sortI_rises l
theorem sortT_rises(l:List (List Int)):(sortT l).Pairwise leT:=by
 rw[gk];exact(L2.Srt.sortT_rises l).imp λh=>by unfold leT;rw[iJ];exact h
theorem sortI_id{l:List Int}(h:l.Pairwise (· <= ·)):sortI l=l:=by rw[fD];exact L2.Srt.sortI_id h
theorem sortT_id{l:List (List Int)}(h:l.Pairwise leT):sortT l=l:=by
 rw[gk];exact L2.Srt.sortT_id (h.imp λh=>by unfold leT at h;rw[iJ]at h;exact h)
theorem vB{l:List Int}(h:l.Nodup):(sortI l).Pairwise (· < ·):=by
 have h1:=sortI_rises l;have h2:(sortI l).Nodup:=(sortI_perm l).nodup_iff.mpr h;exact(h1.and h2).imp λ⟨a,b⟩=>by omega
theorem AK{k:Int}{l:List Int}:k∈dd l ↔ k∈l:=by rw[ou];exact L2.St.g5
theorem dd_nodup(l:List Int):(dd l).Nodup:=by rw[ou];exact L2.St.dd_nodup l
theorem yz:∀{l:List Int},l.Nodup->dd l=l
 | [],_=>rfl
 |x::r,h=>by
  rw[dd,yz (nodup_cons.mp h).2,if_neg (nodup_cons.mp h).1]
theorem vC{l:List Int}(h:l.Pairwise (· < ·)):l.Nodup:=h.imp λ{a b} q=>by omega
theorem qm{l:List Int}(h:l.Pairwise (· < ·)):sortI (dd l)=l:=by
 rw[yz (vC h)];exact sortI_id (h.imp λ{a b} q=>by omega)
noncomputable def vD(ts:List Int):Prop:=ts.Pairwise (· < ·)/\∀h∈ts,0<=h/\h<=59
noncomputable def CM(R:List (List Int)):Prop:=(∀ts∈R,vD ts)/\R.Pairwise leT/\R.length<=60
theorem vE:∀(n:Nat) (l:List Int),l.Nodup->(∀x∈l,0<=x/\x<(n:Int))->l.length<=n
 |0,l,_,h=>by
  cases l with
  |nil=>simp
  |cons x r=>have:=h x (.head _);omega
 | n + 1,l,hn,h=>by
  have h1:=vE n (l.filter λx=>decide (x≠(n:Int))) (hn.filter _) (λx hx=>by
   obtain⟨h2,h3⟩:=mem_filter.mp hx;have h4:=of_decide_eq_true h3;have:=h x h2;omega)
  have h2:∀l:List Int,l.Nodup->l.length<=(l.filter λx=>decide (x≠(n:Int))).length+1:=by
   intro l
   induction l with
   |nil=>intro _;simp
   | cons x r ih =>
    intro hn;by_cases e:x=(n:Int)
    ·have hr:r.filter (λx=>decide (x≠(n:Int)))=r:=filter_eq_self.mpr λy hy=>decide_eq_true λz=>(nodup_cons.mp hn).1 (by rw[e,<- z];exact hy)
     rw[filter_cons_of_neg (by simp[e]),hr];simp
    ·rw[filter_cons_of_pos (by simp[e])];have:=ih (nodup_cons.mp hn).2;simp only[length_cons];omega
  have:=h2 l hn;omega
noncomputable def CN(ns:List Int)(lo hi:Option Int):List Int:=(ns.drop (ix ns.length 0 lo)).take (ix ns.length ns.length hi-ix ns.length 0 lo)
@[simp] theorem CO(ns:List Int)(lo hi:Option Int):cut (ns.map .int) lo hi=(CN ns lo hi).map .int:=by
 unfold cut CN;rw[length_map,map_take,map_drop]
end MM
namespace PySem.W.Fast
theorem tw6295139209016818872:True:=⟨⟩
theorem tw15088914585755824961:True:=⟨⟩
theorem tw6209259590552107549:True:=⟨⟩
theorem tw7168951089475954321:True:=⟨⟩
theorem tw10662535703728647778:True:=⟨⟩
theorem tw9912382126325101542:True:=⟨⟩
theorem tw2652561568584170377:True:=⟨⟩
theorem tw13987274371039989520:True:=⟨⟩
theorem tw14415266310685699481:True:=⟨⟩
theorem tw16990548921953428654:True:=⟨⟩
theorem tw8273941824562910184:True:=⟨⟩
theorem tw12980556367572798673:True:=⟨⟩
theorem tw937876913163476799:True:=⟨⟩
theorem tw13769824350357986986:True:=⟨⟩
theorem tw16271573010014384451:True:=⟨⟩
theorem tw8594166832135809216:True:=⟨⟩
theorem tw564835714400470532:True:=⟨⟩
theorem tw8691519947295206082:True:=⟨⟩
theorem tw17989444549680615512:True:=⟨⟩
theorem tw4527554888544040786:True:=⟨⟩
theorem tw14036950650366198289:True:=⟨⟩
theorem tw16486643824708458897:True:=⟨⟩
theorem tw18187512648564143620:True:=⟨⟩
theorem tw5819750574561021465:True:=⟨⟩
theorem tw3685569094047275485:True:=⟨⟩
theorem tw450485851264199447:True:=⟨⟩
theorem tw8649545076275573983:True:=⟨⟩
theorem tw202617855241192016:True:=⟨⟩
theorem tw17461470454005848967:True:=⟨⟩
theorem tw11941137549152459607:True:=⟨⟩
theorem tw16192828961349189044:True:=⟨⟩
theorem tw7428650715147924417:True:=⟨⟩
theorem tw17551311699463272750:True:=⟨⟩
theorem tw6593920689859028782:True:=⟨⟩
theorem tw15637715086499767223:True:=⟨⟩
theorem tw3825802283204043097:True:=⟨⟩
theorem tw14239294957478992886:True:=⟨⟩
theorem tw7249174437680088571:True:=⟨⟩
theorem tw10000764716135040526:True:=⟨⟩
theorem tw10571456700960632049:True:=⟨⟩
theorem tw14974554738402692028:True:=⟨⟩
theorem tw6709827540828866701:True:=⟨⟩
theorem tw2917033476649202012:True:=⟨⟩
theorem tw10092478695302147676:True:=⟨⟩
theorem tw3151119449483861789:True:=⟨⟩
theorem tw12108628365793193477:True:=⟨⟩
theorem tw6286222049524120865:True:=⟨⟩
theorem tw7627339841650666070:True:=⟨⟩
theorem tw8049900283728460555:True:=⟨⟩
theorem tw7235713917779139777:True:=⟨⟩
theorem tw1611561240948577722:True:=⟨⟩
theorem tw15533965315988112069:True:=⟨⟩
theorem tw10396389858611144732:True:=⟨⟩
theorem tw627448184642909214:True:=⟨⟩
theorem tw15166882547182452177:True:=⟨⟩
theorem tw7914079780906224469:True:=⟨⟩
theorem tw6071908326662275291:True:=⟨⟩
theorem tw536192458561446072:True:=⟨⟩
theorem tw10057788731665943989:True:=⟨⟩
theorem tw6724190484111625372:True:=⟨⟩
theorem tw8635266534668862599:True:=⟨⟩
theorem tw13725126267757285613:True:=⟨⟩
theorem tw6866489916629931424:True:=⟨⟩
theorem tw5218429624691483188:True:=⟨⟩
theorem tw16191199532971511891:True:=⟨⟩
theorem tw9864178951253228822:True:=⟨⟩
theorem tw14652070464255098971:True:=⟨⟩
theorem tw7875144121681911417:True:=⟨⟩
theorem tw15618549623870266538:True:=⟨⟩
theorem tw2682559720624883033:True:=⟨⟩
theorem tw3435078531786033449:True:=⟨⟩
theorem tw2491973463937615729:True:=⟨⟩
theorem tw8253063223529005978:True:=⟨⟩
theorem tw6218247412443581887:True:=⟨⟩
theorem tw4628208407722468659:True:=⟨⟩
theorem tw11126689302115968130:True:=⟨⟩
theorem tw7632656600474088183:True:=⟨⟩
theorem tw4389580196756381829:True:=⟨⟩
theorem tw1535357694883920008:True:=⟨⟩
theorem tw1860003158338993105:True:=⟨⟩
theorem tw8136456271772124354:True:=⟨⟩
theorem tw3907788266001754738:True:=⟨⟩
theorem tw4993388533338842781:True:=⟨⟩
theorem tw5693897224994079353:True:=⟨⟩
theorem tw5724291018554695272:True:=⟨⟩
theorem tw7402247108124901133:True:=⟨⟩
theorem tw11980740070949922972:True:=⟨⟩
theorem tw4915876275204601384:True:=⟨⟩
theorem tw17932476316429098223:True:=⟨⟩
theorem tw10686300074901291502:True:=⟨⟩
theorem tw8107004564618276218:True:=⟨⟩
theorem tw4804750022257314055:True:=⟨⟩
theorem tw3879355191209065050:True:=⟨⟩
theorem tw12778026247328850525:True:=⟨⟩
theorem tw10558727572914025247:True:=⟨⟩
theorem tw4219055462758552238:True:=⟨⟩
theorem tw18221205083177572781:True:=⟨⟩
theorem tw7383356237565261272:True:=⟨⟩
theorem tw5641757759888113885:True:=⟨⟩
theorem tw9490069581521766690:True:=⟨⟩
theorem tw11817553026452864731:True:=⟨⟩
theorem tw8036765792453564070:True:=⟨⟩
theorem tw11267443092487944490:True:=⟨⟩
theorem tw5789987994803148584:True:=⟨⟩
theorem tw17554565695405555315:True:=⟨⟩
theorem tw5696728298467010466:True:=⟨⟩
theorem tw17663734646828722859:True:=⟨⟩
theorem tw13822184071704479721:True:=⟨⟩
theorem tw13235201731476914485:True:=⟨⟩
theorem tw1517958592155959803:True:=⟨⟩
theorem tw4751991919596783254:True:=⟨⟩
theorem tw12479868635109181657:True:=⟨⟩
theorem tw11644880563708290747:True:=⟨⟩
theorem tw9792959462837650209:True:=⟨⟩
theorem tw10264563440033044822:True:=⟨⟩
theorem tw11498321758363673736:True:=⟨⟩
theorem tw15437618090441487881:True:=⟨⟩
theorem tw11741463556792455034:True:=⟨⟩
theorem tw6071588098451914433:True:=⟨⟩
theorem tw11418858899729990194:True:=⟨⟩
theorem tw2812523614185495213:True:=⟨⟩
theorem tw1829095439292470747:True:=⟨⟩
theorem tw13260968881311888295:True:=⟨⟩
theorem tw7622939779455168243:True:=⟨⟩
theorem tw12705718299136433887:True:=⟨⟩
theorem tw12745397848205438236:True:=⟨⟩
theorem tw10388129221324139504:True:=⟨⟩
theorem tw8030380286597904975:True:=⟨⟩
theorem tw5367933398400033273:True:=⟨⟩
theorem tw4632127596281263119:True:=⟨⟩
theorem tw3735732843039518839:True:=⟨⟩
theorem tw15149012067560064296:True:=⟨⟩
theorem tw11585039988760853802:True:=⟨⟩
theorem tw15669011994594741275:True:=⟨⟩
theorem tw11022996497681442548:True:=⟨⟩
theorem tw11359876668983425573:True:=⟨⟩
theorem tw18063024738080939465:True:=⟨⟩
theorem tw13490184994403156109:True:=⟨⟩
theorem tw6438302351876319361:True:=⟨⟩
theorem tw10057970045726934286:True:=⟨⟩
theorem tw17109490380060464897:True:=⟨⟩
theorem tw2419682285489949993:True:=⟨⟩
theorem tw13706694478313520129:True:=⟨⟩
theorem tw7347413292031054799:True:=⟨⟩
theorem tw1000639694346340995:True:=⟨⟩
theorem tw9704692146874520516:True:=⟨⟩
theorem tw9129977385808818210:True:=⟨⟩
theorem tw17856813451981724827:True:=⟨⟩
theorem tw4865135112011692042:True:=⟨⟩
theorem tw15946292016998963674:True:=⟨⟩
theorem tw15163589401982498016:True:=⟨⟩
theorem tw2846092665515802653:True:=⟨⟩
theorem tw11409246505677031948:True:=⟨⟩
theorem tw5653548405410032044:True:=⟨⟩
theorem tw15882259035967211409:True:=⟨⟩
theorem tw14313280778616073058:True:=⟨⟩
theorem tw18219968276891365672:True:=⟨⟩
theorem tw4729693701309830912:True:=⟨⟩
theorem tw10250029922245318764:True:=⟨⟩
theorem tw6301727137922842829:True:=⟨⟩
theorem tw5150760757823683848:True:=⟨⟩
theorem tw12005073519301763590:True:=⟨⟩
theorem tw13446852877569840599:True:=⟨⟩
theorem tw8873064255708614667:True:=⟨⟩
theorem tw3401294643896677031:True:=⟨⟩
theorem tw15097103168822704926:True:=⟨⟩
theorem tw2269525714734267543:True:=⟨⟩
theorem tw18107765767140327697:True:=⟨⟩
theorem tw12500272261317283966:True:=⟨⟩
theorem tw16647144430782044672:True:=⟨⟩
theorem tw11394037232671453352:True:=⟨⟩
theorem tw14817940886127358159:True:=⟨⟩
theorem tw6305378335747616992:True:=⟨⟩
theorem tw586079081723996374:True:=⟨⟩
theorem tw13818261565216104220:True:=⟨⟩
theorem tw13270485130746610462:True:=⟨⟩
theorem tw4788317742201273883:True:=⟨⟩
theorem tw5592905528451048280:True:=⟨⟩
theorem tw4807722476229898445:True:=⟨⟩
theorem tw11495456017558072960:True:=⟨⟩
theorem tw10760452999426238483:True:=⟨⟩
theorem tw905418478793544997:True:=⟨⟩
theorem tw10760699383982516336:True:=⟨⟩
theorem tw9194092281929426127:True:=⟨⟩
theorem tw795372091167766649:True:=⟨⟩
theorem tw595738297243102896:True:=⟨⟩
theorem tw6088082278982061430:True:=⟨⟩
theorem tw15224602324469705007:True:=⟨⟩
theorem tw14133602357868737741:True:=⟨⟩
theorem tw14940532328491918880:True:=⟨⟩
theorem tw15328563671852799148:True:=⟨⟩
theorem tw16673750489355045331:True:=⟨⟩
theorem tw12903193380274892957:True:=⟨⟩
theorem tw1870275736508573868:True:=⟨⟩
theorem tw9654628565064831126:True:=⟨⟩
theorem tw9442541412727405600:True:=⟨⟩
theorem tw10107703314634346472:True:=⟨⟩
theorem tw8085721714506325823:True:=⟨⟩
theorem tw9034872045990603447:True:=⟨⟩
theorem tw1808100074728044523:True:=⟨⟩
theorem tw2724228106821650428:True:=⟨⟩
theorem tw18381570161658434249:True:=⟨⟩
theorem tw12270799102718870521:True:=⟨⟩
theorem tw3279331656106907413:True:=⟨⟩
theorem tw12786151979322158662:True:=⟨⟩
theorem tw18299121618622713372:True:=⟨⟩
theorem tw7300958924616683076:True:=⟨⟩
theorem tw6243466872810516400:True:=⟨⟩
theorem tw10683554331470057672:True:=⟨⟩
theorem tw8963711111140929142:True:=⟨⟩
theorem tw9803099652181219848:True:=⟨⟩
theorem tw10691809410279602220:True:=⟨⟩
theorem tw12048330234158798077:True:=⟨⟩
theorem tw16217922330429503811:True:=⟨⟩
theorem tw18281255076772511483:True:=⟨⟩
theorem tw5910450158949830032:True:=⟨⟩
theorem tw17117367220618449657:True:=⟨⟩
theorem tw17614350369105410842:True:=⟨⟩
theorem tw1660439306484244106:True:=⟨⟩
theorem tw17001002238722400084:True:=⟨⟩
theorem tw5206394406235794678:True:=⟨⟩
theorem tw3623697474443149800:True:=⟨⟩
theorem tw4421641587766487613:True:=⟨⟩
theorem tw5399406735103766414:True:=⟨⟩
theorem tw6589030055566502330:True:=⟨⟩
theorem tw1811943126829603088:True:=⟨⟩
theorem tw11566962300938736470:True:=⟨⟩
theorem tw3624900559230728307:True:=⟨⟩
theorem tw7203792013900154971:True:=⟨⟩
theorem tw15328048313916117555:True:=⟨⟩
theorem tw11487417928684054857:True:=⟨⟩
theorem tw7768678219924176168:True:=⟨⟩
theorem tw6754260089645328447:True:=⟨⟩
theorem tw3562933234433047194:True:=⟨⟩
theorem tw18329250951634037255:True:=⟨⟩
theorem tw23608284615306069:True:=⟨⟩
theorem tw7195336866696798053:True:=⟨⟩
theorem tw14816797378440974627:True:=⟨⟩
theorem tw14793876658892166697:True:=⟨⟩
theorem tw9063248383415186922:True:=⟨⟩
theorem tw2043547814755218662:True:=⟨⟩
theorem tw10555241064566390630:True:=⟨⟩
theorem tw10820376580064169138:True:=⟨⟩
theorem tw1539913812797259093:True:=⟨⟩
theorem tw9864245775300660941:True:=⟨⟩
theorem tw3005813797690490817:True:=⟨⟩
theorem tw14847207715682196617:True:=⟨⟩
theorem tw17155596124126856982:True:=⟨⟩
theorem tw1796260339011700190:True:=⟨⟩
theorem tw8257391107738128849:True:=⟨⟩
theorem tw9057126929765084029:True:=⟨⟩
theorem tw12144848885371196636:True:=⟨⟩
theorem tw6933778183925829368:True:=⟨⟩
theorem tw11976365830487088300:True:=⟨⟩
theorem tw14871418539524160589:True:=⟨⟩
theorem tw2502737894864715849:True:=⟨⟩
theorem tw14044607618695168603:True:=⟨⟩
theorem tw3264646629826121353:True:=⟨⟩
theorem tw3265031580037035307:True:=⟨⟩
theorem tw3801096718328420360:True:=⟨⟩
theorem tw11468384087160717443:True:=⟨⟩
theorem tw11630889669219038812:True:=⟨⟩
theorem tw15886637984152593912:True:=⟨⟩
theorem tw12896543950763639376:True:=⟨⟩
theorem tw14994813453623816439:True:=⟨⟩
theorem tw6259615106287556841:True:=⟨⟩
theorem tw17457954172193114221:True:=⟨⟩
theorem tw12484364870654920912:True:=⟨⟩
theorem tw5778777206051812746:True:=⟨⟩
theorem tw6317856382235929448:True:=⟨⟩
theorem tw8514219616531125361:True:=⟨⟩
theorem tw1143661568787177651:True:=⟨⟩
theorem tw11398693316794858750:True:=⟨⟩
theorem tw9505073253489694972:True:=⟨⟩
theorem tw14762351849107822533:True:=⟨⟩
theorem tw11816980023891274394:True:=⟨⟩
theorem tw8810245069428125322:True:=⟨⟩
theorem tw9869703822921824403:True:=⟨⟩
theorem tw16649228931192616598:True:=⟨⟩
theorem tw8329445440228459005:True:=⟨⟩
theorem tw4485625320859580646:True:=⟨⟩
theorem tw15363435811650652000:True:=⟨⟩
theorem tw13877460345582603670:True:=⟨⟩
theorem tw7876948033942778721:True:=⟨⟩
theorem tw1912911537602611464:True:=⟨⟩
theorem tw255459415597353756:True:=⟨⟩
theorem tw9670238778881460027:True:=⟨⟩
theorem tw16114704558652884327:True:=⟨⟩
theorem tw14755549691164819627:True:=⟨⟩
end PySem.W.Fast
namespace My
open PySem L2 MM List Option
noncomputable def dw:MD:=⟨"number_read",["word"],["word"],
  [.ite (.or (.cmp .notIn (.blt .len [(.bor 0)]) (.tup [(.cst (.int 1)),(.cst (.int 2))])) (.not (.blt .all [(.comp .chr [(.bor 0)] [] (.cst (.bl true)) (.cmp .isIn (.bor 0) (.glob "FIGURES" (.str "0123456789"))))])))
   [.ret (.cst .non)]
   [],
  .ite (.and (.cmp .eq (.blt .len [(.bor 0)]) (.cst (.int 2))) (.cmp .eq (.idx (.bor 0) (.cst (.int 0))) (.cst (.str "0"))))
   [.ret (.cst .non)]
   [],
  .ret (.blt .intOf [(.bor 0)])]⟩
noncomputable def b0:MD:=⟨"is_number_below",["thing","bound"],["thing","bound"],
  [.ite (.or (.blt .isBool [(.bor 0)]) (.not (.blt .isInt [(.bor 0)])))
   [.ret (.cst (.bl false))]
   [],
  .ret (.chain .le .lt (.cst (.int 0)) (.bor 0) (.bor 1))]⟩
noncomputable def c_:List MS:=[.extend 1 (.bor 2)]
noncomputable def dR:MD:=⟨"members_of",["rows"],["rows","members","row"],
  [.setOwn 1 (.lst []),
  .for1 2 .seq [(.bor 0)] c_,
  .retOwn 1]⟩
noncomputable def da:List MS:=[.ite (.not (.call 1 [(.bor 1),(.glob "HOLE_COUNT" (.int 60))]))
   [.never]
   []]
noncomputable def dS:MD:=⟨"strip_made",["row"],["row","thing"],
  [.for1 1 .seq [(.bor 0)] da,
  .ret (.blt .tupleOf [(.blt .sortedSet [(.bor 0)])])]⟩
noncomputable def eW:MD:=⟨"rest_made",["strips"],["strips"],
  [.ite (.cmp .gt (.blt .len [(.bor 0)]) (.glob "MOST_STRIPS" (.int 60)))
   [.never]
   [],
  .ret (.blt .tupleOf [(.blt .sorted [(.comp .seq [(.bor 0)] [] (.cst (.bl true)) (.call 3 [(.bor 0)]))])])]⟩
noncomputable def ji:MD:=⟨"counted",["rows"],["rows"],
  [.ret (.bin .add (.lst [(.blt .strOf [(.blt .len [(.bor 0)])])]) (.call 2 [(.bor 0)]))]⟩
noncomputable def ff:MD:=⟨"strip_words",["strip"],["strip"],
  [.ret (.call 5 [(.comp .seq [(.bor 0)] [] (.cst (.bl true)) (.lst [(.blt .strOf [(.bor 0)])]))])]⟩
noncomputable def aV:MD:=⟨"member_words",["member","kind"],["member","kind"],
  [.ite (.or (.cmp .eq (.bor 1) (.cst (.str "hole"))) (.cmp .eq (.bor 1) (.cst (.str "reply"))))
   [.ret (.lst [(.ite (.cmp .isN (.bor 0) (.cst .non)) (.cst (.str "-")) (.blt .strOf [(.bor 0)]))])]
   [],
  .ite (.cmp .eq (.bor 1) (.cst (.str "rest")))
   [.ret (.call 5 [(.comp .seq [(.bor 0)] [] (.cst (.bl true)) (.call 6 [(.bor 0)]))])]
   [],
  .ite (.cmp .eq (.bor 1) (.cst (.str "paper")))
   [.ret (.call 9 [(.bor 0)])]
   [],
  .ret (.call 5 [(.comp .seq [(.bor 0)] [1] (.cst (.bl true)) (.call 8 [(.bor 0),(.bor 1)]))])]⟩
noncomputable def dG:MD:=⟨"members_words",["members","kinds"],["members","kinds"],
  [.ret (.call 2 [(.comp2 [(.bor 0),(.bor 1)] [] (.cst (.bl true)) (.call 7 [(.bor 0),(.bor 1)]))])]⟩
noncomputable def fg:MD:=⟨"paper_words",["paper"],["paper"],
  [.ret (.bin .add (.lst [(.idx (.bor 0) (.cst (.int 0)))]) (.call 8 [(.slice (.bor 0) (.cst (.int 1)) (.cst .non)),(.cdat "MEMBERS" (.idx (.bor 0) (.cst (.int 0))))]))]⟩
noncomputable def dH:MD:=⟨"paper_written",["paper"],["paper"],
  [.ret (.join " " (.call 9 [(.bor 0)]))]⟩
noncomputable def db:MD:=⟨"number_below",["word","bound"],["word","bound","number"],
  [.set 2 (.call 0 [(.bor 0)]),
  .ite (.not (.call 1 [(.bor 2),(.bor 1)]))
   [.never]
   [],
  .ret (.var 2)]⟩
noncomputable def eX:MD:=⟨"hole_from",["words"],["words"],
  [.retXE (.fn 11 (.nextw 0) [(.glob "HOLE_COUNT" (.int 60))])]⟩
noncomputable def fN:MD:=⟨"reply_from",["words"],["words","word"],
  [.setX 1 (.nextw 0),
  .retM (.ite (.cmp .eq (.bor 1) (.cst (.str "-"))) (.cst .non) (.call 11 [(.bor 1),(.glob "HOLE_COUNT" (.int 60))]))]⟩
noncomputable def dU:MD:=⟨"count_from",["words"],["words"],
  [.retXE (.fn 11 (.nextw 0) [(.bin .add (.glob "MOST_COUNT" (.int 60)) (.cst (.int 1)))])]⟩
noncomputable def fO:MD:=⟨"strip_from",["words"],["words"],
  [.retXE (.tupOf (.compR (.call 14 [true] [(.bor 0)]) [0] .one (.cst .non) 12 [true] [(.bor 1)]))]⟩
noncomputable def gm:MD:=⟨"rest_from",["words"],["words","rest"],
  [.setX 1 (.tupOf (.compR (.call 14 [true] [(.bor 0)]) [0] .one (.cst .non) 15 [true] [(.bor 1)])),
  .ite (.cmp .ne (.call 4 [(.bor 1)]) (.bor 1))
   [.never]
   [],
  .retM (.var 1)]⟩
noncomputable def bx:MD:=⟨"member_from",["words","kind","room"],["words","kind","room"],
  [.ite (.cmp .eq (.bor 1) (.cst (.str "hole")))
   [.retXE (.call 12 [true] [(.bor 0)])]
   [],
  .ite (.cmp .eq (.bor 1) (.cst (.str "reply")))
   [.retXE (.call 13 [true] [(.bor 0)])]
   [],
  .ite (.cmp .eq (.bor 1) (.cst (.str "rest")))
   [.retXE (.call 16 [true] [(.bor 0)])]
   [],
  .ite (.cmp .eq (.bor 1) (.cst (.str "paper")))
   [.retXE (.call 19 [true,false] [(.bor 0),(.bor 2)])]
   [],
  .retXE (.tupOf (.compR (.call 14 [true] [(.bor 0)]) [0,1,2] .one (.cst .non) 18 [true,false,false] [(.bor 1),(.bor 2),(.bor 3)]))]⟩
noncomputable def eJ:MD:=⟨"members_from",["words","kinds","room"],["words","kinds","room"],
  [.retXE (.tupOf (.compS (.var 1) [0,2] .one (.cst .non) 17 [true,false,false] [(.bor 1),(.bor 0),(.bor 2)]))]⟩
noncomputable def fP:MD:=⟨"paper_from",["words","room"],["words","room","word"],
  [.ite (.cmp .eq (.bor 1) (.cst (.int 0)))
   [.never]
   [],
  .setX 2 (.nextw 0),
  .isKey "MEMBERS" (.var 2),
  .retXE (.binR .add (.tup [(.var 2)]) (.call 18 [true,false,false] [(.bor 0),(.cdat "MEMBERS" (.bor 2)),(.bin .sub (.bor 1) (.cst (.int 1)))]))]⟩
noncomputable def fQ:MD:=⟨"paper_read",["text"],["text","words","paper"],
  [.mkW 1 (.var 0),
  .setX 2 (.call 19 [true,false] [(.bor 1),(.glob "MOST_DEEP" (.int 30))]),
  .nomore 1,
  .ret (.var 2)]⟩
noncomputable def eY:MD:=⟨"_law_mixed",["cell","by"],["cell","by"],
  [.ret (.bin .mod (.bin .mul (.bin .mod (.bor 0) (.cst (.int 2305843009213693951))) (.bor 1)) (.cst (.int 2305843009213693951)))]⟩
noncomputable def eK:MD:=⟨"_law_next",["tape"],["tape"],
  [.ite (.cmp .gt (.lenP 0) (.cst (.int 0)))
   [.retXE (.fn 21 (.pop 0) [(.cst (.int 2049848353892358983))])]
   [],
  .retM (.cst (.int 0))]⟩
noncomputable def bv:List MS:=[.set 4 (.bin .fdiv (.bor 4) (.cst (.int 60))),
  .ite (.cmp .notIn (.bin .mod (.bor 4) (.cst (.int 60))) (.bor 5))
   [.append 5 (.bin .mod (.bor 4) (.cst (.int 60)))]
   []]
noncomputable def b7:List MS:=[.setX 4 (.call 22 [true] [(.bor 0)]),
  .setOwn 5 (.lst []),
  .for1 6 .rng [(.bin .mod (.bor 4) (.cst (.int 5)))] bv,
  .append 2 (.blt .tupleOf [(.blt .sorted [(.bor 5)])])]
noncomputable def cN:MD:=⟨"_law_some_rest",["tape","most"],["tape","most","strips","k","left","strip","j"],
  [.setOwn 2 (.lst []),
  .forX 3 (.bin .mod (.call 22 [true] [(.bor 0)]) (.bor 1)) b7,
  .retM (.blt .tupleOf [(.blt .sorted [(.bor 2)])])]⟩
noncomputable def bJ:MD:=⟨"_law_some_reply",["pick"],["pick"],
  [.ite (.cmp .eq (.bin .mod (.bor 0) (.cst (.int 4))) (.cst (.int 0)))
   [.ret (.cst .non)]
   [],
  .ret (.bin .mod (.bin .fdiv (.bor 0) (.cst (.int 4))) (.cst (.int 60)))]⟩
noncomputable def aB:List MS:=[.ite (.cmp .eq (.bin .mod (.bor 1) (.cst (.int 2))) (.cst (.int 0)))
   [.setX 5 (.tup [(.bin .mod (.call 22 [true] [(.bor 0)]) (.cst (.int 60))),(.fn 24 (.call 22 [true] [(.bor 0)]) [])]),
   .appX 3 (.tup [(.pure (.idx (.bor 5) (.cst (.int 0)))),(.pure (.idx (.bor 5) (.cst (.int 1)))),(.call 26 [true,false] [(.bor 0),(.bor 2)])])]
   [.setX 6 (.call 23 [true,false] [(.bor 0),(.cst (.int 4))]),
   .appX 3 (.tup [(.pure (.var 6)),(.call 26 [true,false] [(.bor 0),(.bor 2)])])]]
noncomputable def bS:MD:=⟨"_law_some_rows",["tape","pick","deep"],["tape","pick","deep","rows","k","row","rest"],
  [.setOwn 3 (.lst []),
  .for1 4 .rng [(.bin .mod (.bin .fdiv (.bor 1) (.cst (.int 2))) (.cst (.int 4)))] aB,
  .retM (.tup [(.idx (.lst [(.cst (.str "cases")),(.cst (.str "parts"))]) (.bin .mod (.bor 1) (.cst (.int 2)))),(.blt .tupleOf [(.bor 3)])])]⟩
noncomputable def eZ:List MS:=[.appX 4 (.tup [(.bin .mod (.call 22 [true] [(.bor 0)]) (.cst (.int 60))),(.bin .mod (.call 22 [true] [(.bor 0)]) (.cst (.int 60)))])]
noncomputable def aX:MD:=⟨"_law_any",["tape","deep"],["tape","deep","pick","kind","pairs","k","one","left","two"],
  [.setX 2 (.call 22 [true] [(.bor 0)]),
  .set 3 (.bin .mod (.bor 2) (.cst (.int 9))),
  .ite (.cmp .eq (.bor 1) (.cst (.int 0)))
   [.set 3 (.bin .mod (.bor 2) (.cst (.int 4)))]
   [],
  .ite (.cmp .lt (.bor 3) (.cst (.int 3)))
   [.retM (.idx (.lst [(.tup [(.cst (.str "bare"))]),(.tup [(.cst (.str "whole"))]),(.tup [(.cst (.str "weight"))])]) (.bor 3))]
   [],
  .ite (.cmp .eq (.bor 3) (.cst (.int 3)))
   [.setOwn 4 (.lst []),
   .for1 5 .rng [(.bin .mod (.bin .fdiv (.bor 2) (.cst (.int 9))) (.cst (.int 4)))] eZ,
   .retM (.tup [(.cst (.str "pairs")),(.blt .tupleOf [(.bor 4)])])]
   [],
  .ite (.or (.cmp .eq (.bor 3) (.cst (.int 4))) (.cmp .eq (.bor 3) (.cst (.int 5))))
   [.retXE (.tup [(.pure (.idx (.lst [(.cst (.str "bite")),(.cst (.str "knot"))]) (.bin .sub (.bor 3) (.cst (.int 4))))),(.pure (.call 24 [(.bin .fdiv (.bor 2) (.cst (.int 9)))])),(.call 26 [true,false] [(.bor 0),(.bin .sub (.bor 1) (.cst (.int 1)))])])]
   [],
  .ite (.cmp .eq (.bor 3) (.cst (.int 8)))
   [.retXE (.call 25 [true,false,false] [(.bor 0),(.bin .fdiv (.bor 2) (.cst (.int 9))),(.bin .sub (.bor 1) (.cst (.int 1)))])]
   [],
  .setX 6 (.call 23 [true,false] [(.bor 0),(.cst (.int 5))]),
  .setX 7 (.call 26 [true,false] [(.bor 0),(.bin .sub (.bor 1) (.cst (.int 1)))]),
  .ite (.cmp .eq (.bor 3) (.cst (.int 6)))
   [.retM (.tup [(.cst (.str "fewer")),(.var 6),(.var 7)])]
   [],
  .setX 8 (.call 23 [true,false] [(.bor 0),(.cst (.int 3))]),
  .retXE (.tup [(.pure (.cst (.str "either"))),(.pure (.var 6)),(.pure (.var 7)),(.pure (.var 8)),(.call 26 [true,false] [(.bor 0),(.bin .sub (.bor 1) (.cst (.int 1)))])])]⟩
noncomputable def bQ:List MS:=[.set 1 (.bin .add (.bin .add (.bor 1) (.lst [(.blt .strOf [(.blt .len [(.bor 2)])])])) (.comp .seq [(.bor 2)] [] (.cst (.bl true)) (.blt .strOf [(.bor 0)])))]
noncomputable def dn:MD:=⟨"_law_rest_words",["rest"],["rest","words","strip"],
  [.set 1 (.lst [(.blt .strOf [(.blt .len [(.bor 0)])])]),
  .for1 2 .seq [(.bor 0)] bQ,
  .ret (.var 1)]⟩
noncomputable def bK:MD:=⟨"_law_reply_word",["reply"],["reply"],
  [.ite (.cmp .isN (.bor 0) (.cst .non))
   [.ret (.cst (.str "-"))]
   [],
  .ret (.blt .strOf [(.bor 0)])]⟩
noncomputable def fh:List MS:=[.ite (.cmp .eq (.bor 1) (.cst (.str "pairs")))
   [.setOwn 2 (.bin .add (.bor 2) (.lst [(.blt .strOf [(.idx (.bor 3) (.cst (.int 0)))]),(.blt .strOf [(.idx (.bor 3) (.cst (.int 1)))])]))]
   [.ite (.cmp .eq (.bor 1) (.cst (.str "cases")))
    [.setOwn 2 (.bin .add (.bin .add (.bor 2) (.lst [(.blt .strOf [(.idx (.bor 3) (.cst (.int 0)))]),(.call 28 [(.idx (.bor 3) (.cst (.int 1)))])])) (.call 29 [(.idx (.bor 3) (.cst (.int 2)))]))]
    [.setOwn 2 (.bin .add (.bin .add (.bor 2) (.call 27 [(.idx (.bor 3) (.cst (.int 0)))])) (.call 29 [(.idx (.bor 3) (.cst (.int 1)))]))]]]
noncomputable def am:MD:=⟨"_law_words",["paper"],["paper","word","words","row"],
  [.set 1 (.idx (.bor 0) (.cst (.int 0))),
  .setOwn 2 (.lst [(.var 1)]),
  .ite (.or (.cmp .eq (.bor 1) (.cst (.str "pairs"))) (.or (.cmp .eq (.bor 1) (.cst (.str "cases"))) (.cmp .eq (.bor 1) (.cst (.str "parts")))))
   [.append 2 (.blt .strOf [(.blt .len [(.idx (.bor 0) (.cst (.int 1)))])]),
   .for1 3 .seq [(.idx (.bor 0) (.cst (.int 1)))] fh]
   [],
  .ite (.or (.cmp .eq (.bor 1) (.cst (.str "bite"))) (.cmp .eq (.bor 1) (.cst (.str "knot"))))
   [.setOwn 2 (.bin .add (.bin .add (.bor 2) (.lst [(.call 28 [(.idx (.bor 0) (.cst (.int 1)))])])) (.call 29 [(.idx (.bor 0) (.cst (.int 2)))]))]
   [],
  .ite (.or (.cmp .eq (.bor 1) (.cst (.str "fewer"))) (.cmp .eq (.bor 1) (.cst (.str "either"))))
   [.setOwn 2 (.bin .add (.bin .add (.bor 2) (.call 27 [(.idx (.bor 0) (.cst (.int 1)))])) (.call 29 [(.idx (.bor 0) (.cst (.int 2)))]))]
   [],
  .ite (.cmp .eq (.bor 1) (.cst (.str "either")))
   [.setOwn 2 (.bin .add (.bin .add (.bor 2) (.call 27 [(.idx (.bor 0) (.cst (.int 3)))])) (.call 29 [(.idx (.bor 0) (.cst (.int 4)))]))]
   [],
  .retOwn 2]⟩
noncomputable def bz:MD:=⟨"_law_same",["found","due"],["found","due"],
  [.ite (.blt .isTuple [(.bor 1)])
   [.ite (.or (.not (.blt .isTuple [(.bor 0)])) (.cmp .ne (.blt .len [(.bor 0)]) (.blt .len [(.bor 1)])))
    [.ret (.cst (.bl false))]
    [],
   .ret (.blt .all [(.comp .rng [(.blt .len [(.bor 1)])] [0,1] (.cst (.bl true)) (.call 30 [(.idx (.bor 1) (.bor 0)),(.idx (.bor 2) (.bor 0))]))])]
   [],
  .ite (.cmp .isN (.bor 1) (.cst .non))
   [.ret (.cmp .isN (.bor 0) (.cst .non))]
   [],
  .ite (.blt .isStr [(.bor 1)])
   [.ret (.and (.blt .isStr [(.bor 0)]) (.cmp .eq (.bor 0) (.bor 1)))]
   [],
  .ret (.and (.blt .isInt [(.bor 0)]) (.and (.not (.blt .isBool [(.bor 0)])) (.cmp .eq (.bor 0) (.bor 1))))]⟩
noncomputable def jO:List MS:=[.setX 3 (.call 26 [true,false] [(.bor 1),(.cst (.int 4))]),
  .ite (.not (.call 30 [(.call 20 [(.join " " (.call 29 [(.bor 3)]))]),(.bor 3)]))
   [.ret (.cst (.bl false))]
   [],
  .ite (.not (.call 30 [(.call 20 [(.call 10 [(.bor 3)])]),(.bor 3)]))
   [.ret (.cst (.bl false))]
   []]
noncomputable def rB:MD:=⟨"law",["script"],["script","tape","k","paper"],
  [.setP 1 (.bor 0),
  .for1 2 .rng [(.cst (.int 4))] jO,
  .ret (.cst (.bl true))]⟩
noncomputable def defs:List MD:=[dw,b0,dR,dS,eW,ji,ff,aV,dG,fg,dH,db,eX,fN,dU,fO,gm,bx,eJ,fP,fQ,eY,eK,cN,bJ,bS,aX,dn,bK,am,bz,rB]
noncomputable def tab:Tab:=⟨defs.map (·.name),[("FIGURES",(.str "0123456789")),("HOLE_COUNT",(.int 60)),("MOST_STRIPS",(.int 60)),("MOST_COUNT",(.int 60)),("MOST_DEEP",(.int 30))],[[],[],[],[],[],[],[],[],[],[],[],[],[],[],[],[],[],[],[],[],[],[],[],[],[],[],[],[],[],[],[],[]]⟩
noncomputable def oN(c b:Int):Int:=c % 2305843009213693951*b % 2305843009213693951
theorem m6(c b:Int):0<=oN c b:=Int.emod_nonneg _ (by decide)
theorem xQ(n:Nat)(c b:Int):aa defs (n+1) 21 [.val (.int c),.val (.int b)]=some (.int (oN c b)):=by
 rw[aq (d:=eY) rfl rfl];have h1:0<=c % 2305843009213693951:=Int.emod_nonneg _ (by decide);have h2:c % 2305843009213693951<2305843009213693951:=Int.emod_lt_of_pos _ (by decide);have h3:(-18446744073709551616<c % 2305843009213693951/\c % 2305843009213693951<18446744073709551616\/-18446744073709551616<b/\b<18446744073709551616):=.inl ⟨by omega,by omega⟩;simp[eY,exs,ex,ev,evs,h3,oN]
theorem gG{cal:Cal}{i:Nat}{k:Sk}{q:List ME}{body:List MS}{ρ:Rho}{xs:List PV}(h:(evs cal q ρ).bind (bc k)=some xs):ex cal (.for1 i k q body) ρ=(a9 (λx ρ'=>exs cal body (put ρ' i (.val x))) xs (bq q ρ)).back q ρ:=by
 rw[ex,h]
theorem ba(cal:Cal)(m:MS)(ms:List MS)(ρ:Rho):exs cal (m::ms) ρ=(ex cal m ρ).andThen λρ'=>exs cal ms ρ':=by rw[exs]
theorem aZ{cal:Cal}{b:Blt}{e:ME}{ρ:Rho}{v:PV}(h:ev cal e ρ=some v):ev cal (.blt b [e]) ρ=av b [v]:=by
 rw[ev,evs,h,bind_some,evs,map_some,bind_some]
theorem m7{cal:Cal}{i:Nat}{e:ME}{ρ:Rho}{v:PV}(h:ev cal e ρ=some v):ex cal (.set i e) ρ=.next (put ρ i (.val v)):=by
 rw[ex,h];rfl
theorem vF{cal:Cal}{e:ME}{ρ:Rho}{v:PV}(h:ev cal e ρ=some v):ex cal (.ret e) ρ=.ret v:=by
 rw[ex,h];rfl
theorem b8{cal:Cal}{f:Nat}{es:List ME}{ρ:Rho}{vs:List MV}{v:PV}(h:evA cal es ρ=some vs)(h':cal f vs=some v):ev cal (.call f es) ρ=some v:=by
 rw[ev,h,bind_some,h']
theorem dq{cal:Cal}{i:Nat}{e:ME}{ρ:Rho}{xs:List PV}(h:ev cal e ρ=some (.lst xs)):ex cal (.setOwn i e) ρ=.next (put ρ i (.own xs)):=by
 rw[ex,h];rfl
theorem gH{α:Type}{cal:Cal}{k:Sk}{q:List ME}{js:List Nat}{elt:ME}{ρ:Rho}{vs:List PV}{xs:List α}{g h:α->PV}(h1:evs cal q ρ=some vs)(h2:bc k vs=some (xs.map g))(z:xs.length<=10000)
  (h3:∀x∈xs,ev cal elt (fA js ρ (g x))=some (h x)):ev cal (.comp k q js (.cst (.bl true)) elt) ρ=some (.lst (xs.map h)):=by
 rw[ev,h1,bind_some,h2,bind_some,if_pos (by simpa using z),h_ (h:=h) (λx _=>by simp[ev]) h3]
 rfl
theorem qo{cal:Cal}{op:Cp}{a b:ME}{ρ:Rho}{x y:PV}(h:ev cal a ρ=some x)(h':ev cal b ρ=some y):ev cal (.cmp op a b) ρ=(cc op x y).map .bl:=by
 rw[ev,h,bind_some,h',bind_some]
theorem AL{cal:Cal}{a:ME}{ρ:Rho}{b:Bool}(h:ev cal a ρ=some (.bl b)):evB cal a ρ=some b:=by
 unfold evB;rw[h]
 rfl
theorem m8{cal:Cal}{e:ME}{ρ:Rho}{v:PV}(q:∀i,e≠.bor i)(h:ev cal e ρ=some v):evA cal [e] ρ=some [.val v]:=by
 rw[evA,h,bind_some,evA]
 ·rfl
 ·exact λi z=>q i z
theorem bi{cal:Cal}{f:Nat}{e:ME}{ρ:Rho}{v r:PV}(q:∀i,e≠.bor i)(h:ev cal e ρ=some v)(h':cal f [.val v]=some r):ev cal (.call f [e]) ρ=some r:=b8 (m8 q h) h'
theorem yA{cal:Cal}{i:Nat}{e:ME}{ρ:Rho}{v:PV}{ms:List MS}{X:Option PV}(h:ev cal e ρ=some v)(k:bo (exs cal ms (put ρ i (.val v)))=X):bo (exs cal (.set i e::ms) ρ)=X:=by
 rw[ba,m7 h,cV,k]
theorem fR{cal:Cal}{m:MS}{ρ ρ':Rho}{ms:List MS}{X:Option PV}(h:ex cal m ρ=.next ρ')(k:bo (exs cal ms ρ')=X):bo (exs cal (m::ms) ρ)=X:=by
 rw[ba,h,cV,k]
theorem gT{cal:Cal}{e:ME}{ρ:Rho}{v:PV}{ms:List MS}(h:ev cal e ρ=some v):bo (exs cal (.ret e::ms) ρ)=some v:=by
 rw[ba,vF h];rfl
theorem CP{cal:Cal}{i:Nat}{e:ME}{ρ:Rho}{v:PV}{ms:List MS}{r:R}(h:ev cal e ρ=some v)(k:exs cal ms (put ρ i (.val v))=r):exs cal (.set i e::ms) ρ=r:=by
 rw[ba,m7 h,cV,k]
theorem fj{cal:Cal}{m:MS}{ρ ρ':Rho}{ms:List MS}{r:R}(h:ex cal m ρ=.next ρ')(k:exs cal ms ρ'=r):exs cal (m::ms) ρ=r:=by
 rw[ba,h,cV,k]
theorem cK{cal:Cal}{m:MS}{ρ ρ':Rho}(h:ex cal m ρ=.next ρ'):exs cal [m] ρ=.next ρ':=by
 rw[ba,h,cV,exs]
theorem cA{cal:Cal}{c:ME}{a b:List MS}{ρ:Rho}{p:Bool}(h:ev cal c ρ=some (.bl p)):ex cal (.ite c a b) ρ=if p=true then exs cal a ρ else exs cal b ρ:=by
 rw[ex,AL h,ql]
theorem fS(a b:String):((PySem.Str.ofString a)==(PySem.Str.ofString b))=(a==b):=by
 rw[Bool.eq_iff_iff,beq_iff_eq,beq_iff_eq];refine⟨λh=>?_,λh=>by rw[h]⟩;rw[PySem.Str.ofString_eq_byList]at h;unfold PySem.Str.ofStringByList at h;have h1:(a.toList.map Char.toNat).toArray=(b.toList.map Char.toNat).toArray:=by injection h
 have h2:a.toList.map Char.toNat=b.toList.map Char.toNat:=by simpa using h1
 have key:∀xs ys:List Char,xs.map Char.toNat=ys.map Char.toNat->xs=ys:=by
  intro xs
  induction xs with
  |nil=>intro ys h;cases ys with|nil=>rfl|cons=>simp at h
  | cons x xs ih=>intro ys h;cases ys with
   |nil=>simp at h
   |cons y ys =>
    simp only[map_cons,List.cons.injEq]at h;rw[ih ys h.2,Char.toNat_inj.mp h.1]
 exact String.toList_inj.mp (key _ _ h2)
noncomputable def lw(ws:List Str):PV:=.lst (ws.map .str)
noncomputable def wS(s:List Int):List Str:=ar s.length::s.map ar
noncomputable def wR(R:List (List Int)):List Str:=ar R.length::(R.map wS).flatten
noncomputable def wP:Option Int->Str
 |none=>"-"
 |some i=>ar i
noncomputable def vP:Option Int->PV
 |none=>.non
 |some i=>.int i
noncomputable def Sm(i:Int):Prop:=0<=i/\i<60
theorem rC{i:Int}(h:i.natAbs<2 ^ 64):av .strOf [.int i]=some (.str (ar i)):=if_pos h
theorem jP(n:Nat)(h:n<=10000):av .strOf [.int (n:Int)]=some (.str (ar n)):=rC (by omega)
theorem ib{i:Int}(h:Sm i):av .strOf [.int i]=some (.str (ar i)):=rC (by unfold Sm at h;omega)
theorem oO(cal:Cal)(a:MV):∀(R:List (List Str)) (acc:List Str) (s:Option MV),acc.length+R.flatten.length<=10000 ->
  ∃s',a9 (λx ρ'=>exs cal c_ (put ρ' 2 (.val x))) (R.map lw) [some a,some (.own (acc.map .str)),s]=.next [some a,some (.own ((acc++R.flatten).map .str)),s']
 | [],acc,s,_=>⟨s,by simp⟩
 | t::R,acc,s,h=>by
  rw[map_cons,a9];rw[flatten_cons,length_append]at h;have h2:acc.length+t.length<=10000:=by omega
  have e:exs cal c_ (put [some a,some (.own (acc.map .str)),s] 2 (.val (lw t)))=.next [some a,some (.own ((acc++t).map .str)),some (.val (lw t))]:=by
   simp[c_,exs,ex,ev,lw,h2]
  rw[e];obtain⟨s',e2⟩:=oO cal a R (acc++t) (some (.val (lw t))) (by rw[length_append];omega);exact⟨s',by rw[flatten_cons,<- append_assoc];exact e2⟩
theorem yB(n:Nat)(R:List (List Str))(q:R.flatten.length<=10000):aa defs (n+1) 2 [.val (.lst (R.map lw))]=some (lw R.flatten):=by
 rw[aq (d:=dR) rfl rfl];obtain⟨s',e⟩:=oO (aa defs n) (.val (.lst (R.map lw))) R [] none (by simpa using q);simp only[map_nil,nil_append]at e;simp[dR,exs,ex,ev,evs,bq,e,bF,lw,-map_flatten]
theorem jk(n:Nat)(R:List (List Str))(q:R.flatten.length<10000)(z:R.length<=10000):aa defs (n+2) 5 [.val (.lst (R.map lw))]=some (lw (ar R.length::R.flatten)):=by
 rw[aq (d:=ji) rfl rfl];have D:=yB n R (Nat.le_of_lt q);have J:=jP R.length z;have U:1+R.flatten.length<=10000:=by omega
 have Y:ev (aa defs (n+1)) (.call 2 [.bor 0]) [some (.val (.lst (R.map lw)))]=some (lw R.flatten):=b8 (vs:=[.val (.lst (R.map lw))]) (by simp[evA]) D;have Z:ev (aa defs (n+1)) (.blt .strOf [.blt .len [.bor 0]]) [some (.val (.lst (R.map lw)))]=some (.str (ar R.length)):=by
  rw[aZ (v:=.int R.length) (by rw[aZ (v:=.lst (R.map lw)) (by simp[ev])];simp),J]
 refine gT (ρ:=[some (.val (.lst (R.map lw)))]) ?_;rw[ev,Y,ev,evs,Z];simp[evs,lw,U,-map_flatten,-length_flatten]
theorem oP(s:List Int):(s.map λi=>[ar i]).flatten=s.map ar:=by
 induction s with
 |nil=>rfl
 |cons x s ih=>rw[map_cons,flatten_cons,ih];rfl
theorem xR(n:Nat)(s:List Int)(D:∀i∈s,Sm i)(J:s.length<10000):aa defs (n+3) 6 [.val (ofS s)]=some (lw (wS s)):=by
 rw[aq (d:=ff) rfl rfl];have U:ev (aa defs (n+2)) (.comp .seq [(.bor 0)] [] (.cst (.bl true)) (.lst [(.blt .strOf [(.bor 0)])])) [some (.val (ofS s))]=some (.lst (s.map λi=>lw [ar i])):=by
  refine gH (vs:=[ofS s]) (xs:=s) (g:=PV.int) (by simp[evs,ev]) (by simp[bc,ofS]) (by omega) λi hi=>?_
  rw[ev,evs,aZ (v:=.int i) (by simp[ev,fA]),ib (D i hi)];simp[evs,lw]
 have q:=jk n (s.map λi=>[ar i]) (by rw[oP,length_map];exact J) (by rw[length_map];omega);rw[oP,length_map,List.map_map]at q;exact gT (bi (λi z=>by cases z) U q)
structure ROk(R:List (List Int)):Prop where
 l:R.length<=4
 s:∀t∈R,t.length<=4
 m:∀t∈R,∀i∈t,Sm i
 g:CM R
theorem cT{R:List (List Int)}(h:ROk R):(wR R).length<=21:=by
 have:∀(R:List (List Int)),(∀t∈R,t.length<=4)->(R.map wS).flatten.length<=5*R.length:=by
  intro R
  induction R with
  |nil=>intro _;simp
  |cons t R ih =>
   intro h;have h1:=h t (.head _);have h2:=ih λu q=>h u (.tail _ q)
   rw[map_cons,flatten_cons,length_append,length_cons];have:(wS t).length=t.length+1:=by simp[wS]
   omega
 have h1:=this R h.s;have h2:=h.l;show(R.map wS).flatten.length+1<=21;omega
theorem gn (n:Nat) (r:Option Int) (z:∀i,r=some i->Sm i) (k:Str) (q:k="hole" \/ k="reply"):aa defs (n+1) 7 [.val (vP r),.val (.str k)]=some (lw [wP r]):=by
 rw[aq (d:=aV) rfl rfl];cases r with
 |none =>
  rcases q with rfl|rfl<;>simp[aV,exs,ex,ev,evs,evB,fS,vP,wP,lw,fz]
 |some i =>
  have e:=ib (z i rfl);rcases q with rfl|rfl<;>simp[aV,exs,ex,ev,evs,evB,fS,vP,wP,lw,fz,e]
theorem d7 (n:Nat) (v w:PV) (h:aa defs n 9 [.val v]=some w):aa defs (n+1) 7 [.val v,.val (.str "paper")]=some w:=by
 rw[aq (d:=aV) rfl rfl];simp[aV,exs,ex,ev,evs,evA,evB,fS,h]
theorem gp{cal:Cal}{c:ME}{a ms:List MS}{ρ:Rho}{X:Option PV}(h:ev cal c ρ=some (.bl false))(k:bo (exs cal ms ρ)=X):bo (exs cal (.ite c a []::ms) ρ)=X:=by
 rw[ba,cA h,if_neg (by decide),exs,cV,k]
theorem xS{cal:Cal}{c e:ME}{b ms:List MS}{ρ:Rho}{v:PV}(h:ev cal c ρ=some (.bl true))(k:ev cal e ρ=some v):bo (exs cal (.ite c [.ret e] b::ms) ρ)=some v:=by
 rw[ba,cA h,if_pos rfl,ba,vF k]
 rfl
theorem iO (n:Nat) (R:List (List Int)) (h:ROk R):aa defs (n+4) 7 [.val (ofR R),.val (.str "rest")]=some (lw (wR R)):=by
 rw[aq (d:=aV) rfl rfl];have Y:=cT h;have J:=h.l;have U:ev (aa defs (n+3)) (.comp .seq [(.bor 0)] [] (.cst (.bl true)) (.call 6 [(.bor 0)])) [some (.val (ofR R)),some (.val (.str "rest"))]=some (.lst (R.map λt=>lw (wS t))):=by
  refine gH (vs:=[ofR R]) (xs:=R) (g:=ofS) (by simp[evs,ev]) (by simp[bc,ofR]) (by omega) λt q=>?_
  exact b8 (vs:=[.val (ofS t)]) (by simp[evA,fA]) (xR n t (h.m t q) (by have:=h.s t q;omega))
 have D:=jk (n+1) (R.map wS) (by have:(wR R).length=(R.map wS).flatten.length+1:=rfl;omega) (by rw[length_map];omega);rw[length_map,List.map_map]at D;exact gp (ρ:=[some (.val (ofR R)),some (.val (.str "rest"))]) (by simp[ev,fS]) (xS (by simp[ev,fS]) (bi (f:=5) (λi z=>by cases z) U D))
theorem oQ{α:Type}(f g:α->PV):∀(rows:List α),jA (rows.map f) (rows.map g)=rows.map λr=>.tup [f r,g r]
 | []=>rfl
 |r::rows=>by rw[map_cons,map_cons,jA,oQ f g rows,map_cons]
theorem CQ{α:Type}(n:Nat)(f g:α->PV)(w:α->List Str)(rows:List α)(D:rows.length<=10000)(hw:(rows.map w).flatten.length<=10000)(h:∀r∈rows,aa defs (n+1) 7 [.val (f r),.val (g r)]=some (lw (w r))) :
  aa defs (n+2) 8 [.val (.tup (rows.map f)),.val (.tup (rows.map g))]=some (lw (rows.map w).flatten):=by
 rw[aq (d:=dG) rfl rfl];have J:ev (aa defs (n+1)) (.comp2 [(.bor 0),(.bor 1)] [] (.cst (.bl true)) (.call 7 [(.bor 0),(.bor 1)])) [some (.val (.tup (rows.map f))),some (.val (.tup (rows.map g)))]=some (.lst (rows.map λr=>lw (w r))):=by
  have U:bc sk2 [.tup (rows.map f),.tup (rows.map g)]=some (rows.map λr=>.tup [f r,g r]):=by
   show(if _ then _ else _)=_;rw[if_pos (by rw[length_map,length_map]),oQ]
  rw[ev,show evs (aa defs (n+1)) [(.bor 0),(.bor 1)] [some (.val (.tup (rows.map f))),some (.val (.tup (rows.map g)))]=some [.tup (rows.map f),.tup (rows.map g)] from by simp[evs,ev],bind_some,U,bind_some,if_pos (by rw[length_map];exact D),
   h_ (h:=λr=>lw (w r)) (λx _=>by simp[ev]) λr Y=>b8 (vs:=[.val (f r),.val (g r)]) (by simp[evA,n9]) (h r Y)]
  rfl
 have q:=yB n (rows.map w) hw;rw[List.map_map]at q;exact gT (ρ:=[some (.val (.tup (rows.map f))),some (.val (.tup (rows.map g)))]) (bi (λi z=>by cases z) J q)
theorem kQ{α:Type}(n:Nat)(f:α->PV)(w:α->List Str)(rows:List α)(ks:List PV)(D:rows.length<=10000)(hw:(rows.map w).flatten.length<10000)(h:∀r∈rows,aa defs (n+2) 8 [.val (f r),.val (.tup ks)]=some (lw (w r))) :
  aa defs (n+3) 7 [.val (.tup (rows.map f)),.val (.tup ks)]=some (lw (ar rows.length::(rows.map w).flatten)):=by
 rw[aq (d:=aV) rfl rfl];have U:ev (aa defs (n+2)) (.comp .seq [(.bor 0)] [1] (.cst (.bl true)) (.call 8 [(.bor 0),(.bor 1)])) [some (.val (.tup (rows.map f))),some (.val (.tup ks))]=some (.lst (rows.map λr=>lw (w r))):=by
  refine gH (vs:=[.tup (rows.map f)]) (xs:=rows) (g:=f) (by simp[evs,ev]) (by simp[bc]) D λr Y=>?_
  exact b8 (vs:=[.val (f r),.val (.tup ks)]) (by simp[evA,fA]) (h r Y)
 have J:=jk n (rows.map w) hw (by rw[length_map];exact D);rw[length_map,List.map_map]at J;have q:∀k:Str,ev (aa defs (n+2)) (.cmp .eq (.bor 1) (.cst (.str k))) [some (.val (.tup (rows.map f))),some (.val (.tup ks))]=some (.bl false):=λk=>by
  simp[ev,eqF]
 refine gp (ρ:=[some (.val (.tup (rows.map f))),some (.val (.tup ks))]) (by rw[ev,q,q];simp) (gp (q _) (gp (q _) (gT (bi (λi z=>by cases z) U J))))
theorem qp (n:Nat) (k:Str) (vs ks:List PV) (ws:List Str) (z:fK "MEMBERS" (.str k)=some (.tup ks)) (Y:vs.length<=9999) (hw:ws.length<10000) (h:aa defs n 8 [.val (.tup vs),.val (.tup ks)]=some (lw ws)):aa defs (n+1) 9 [.val (.tup (.str k::vs))]=some (lw (k::ws)):=by
 rw[aq (d:=fg) rfl rfl];have q:ev (aa defs n) (.idx (.bor 0) (.cst (.int 0))) [some (.val (.tup (.str k::vs)))]=some (.str k):=by simp[ev,place]
 have D:ev (aa defs n) (.slice (.bor 0) (.cst (.int 1)) (.cst .non)) [some (.val (.tup (.str k::vs)))]=some (.tup vs):=by
  simp[ev,bnd,iy,cut,ix]
 have J:ev (aa defs n) (.cdat "MEMBERS" (.idx (.bor 0) (.cst (.int 0)))) [some (.val (.tup (.str k::vs)))]=some (.tup ks):=by rw[ev,q,bind_some,z]
 have U:ev (aa defs n) (.call 8 [(.slice (.bor 0) (.cst (.int 1)) (.cst .non)),(.cdat "MEMBERS" (.idx (.bor 0) (.cst (.int 0))))]) [some (.val (.tup (.str k::vs)))]=some (lw ws):=b8 (vs:=[.val (.tup vs),.val (.tup ks)]) (by simp[evA,D,J]) h;refine gT (ρ:=[some (.val (.tup (.str k::vs)))]) ?_;rw[ev,U,ev,evs,q];have:1+ws.length<=10000:=by omega
 simp[evs,lw,this]
inductive Pap:Nat->PV->List Str->Prop where
 | leaf {d:Nat} (k:Str) (hk:k="bare" \/ k="whole" \/ k="weight"):Pap d (.tup [.str k]) [k]
 | pairs {d:Nat} (ps:List (Int×Int)) (hl:ps.length<=3) (h1:∀p∈ps,Sm p.1) (h2:∀p∈ps,Sm p.2):Pap d (.tup [.str "pairs",.tup (ps.map λp=>.tup [.int p.1,.int p.2])]) ("pairs"::ar ps.length::(ps.map λp=>[ar p.1,ar p.2]).flatten)
 | one {d:Nat}{v:PV}{ws:List Str} (k:Str) (hk:k="bite" \/ k="knot") (r:Option Int) (hr:∀i,r=some i->Sm i) (h:Pap d v ws):Pap (d+1) (.tup [.str k,vP r,v]) (k::wP r::ws)
 | cases {d:Nat} (rows:List (Int×Option Int×PV×List Str)) (hl:rows.length<=3) (h1:∀r∈rows,Sm r.1) (h2:∀r∈rows,∀i,r.2.1=some i->Sm i) (h3:∀r∈rows,Pap d r.2.2.1 r.2.2.2):Pap (d+1) (.tup [.str "cases",.tup (rows.map λr=>.tup [.int r.1,vP r.2.1,r.2.2.1])]) ("cases"::ar rows.length::(rows.map λr=>ar r.1::wP r.2.1::r.2.2.2).flatten)
 | parts {d:Nat} (rows:List (List (List Int)×PV×List Str)) (hl:rows.length<=3) (h1:∀r∈rows,ROk r.1) (h3:∀r∈rows,Pap d r.2.1 r.2.2):Pap (d+1) (.tup [.str "parts",.tup (rows.map λr=>.tup [ofR r.1,r.2.1])]) ("parts"::ar rows.length::(rows.map λr=>wR r.1++r.2.2).flatten)
 | fewer {d:Nat}{v:PV}{ws:List Str} (R:List (List Int)) (hR:ROk R) (h:Pap d v ws):Pap (d+1) (.tup [.str "fewer",ofR R,v]) ("fewer"::(wR R++ws))
 | either {d:Nat}{v v':PV}{ws ws':List Str} (R S:List (List Int)) (hR:ROk R) (hS:ROk S) (h:Pap d v ws) (h':Pap d v' ws'):Pap (d+1) (.tup [.str "either",ofR R,v,ofR S,v']) ("either"::(wR R++ws++(wR S++ws')))
noncomputable def Bd:Nat->Nat
 |0=>60
 |d+1=>3*Bd d+80
theorem vG:∀d,60<=Bd d
 |0=>Nat.le_refl _
 |d+1=>by have:=vG d;show 60<=3*Bd d+80;omega
theorem cO:∀{d e:Nat},d<=e->Bd d<=Bd e:=by
 intro d e h
 induction h with
 |refl=>exact Nat.le_refl _
 |step _ ih=>show Bd d<=3*Bd _+80;omega
theorem oR{α:Type}{w:α->List Str}{m:Nat}:∀{rows:List α},(∀r∈rows,(w r).length<=m)->(rows.map w).flatten.length<=rows.length*m
 | [],_=>by simp
 |r::rows,h=>by
  rw[map_cons,flatten_cons,length_append,length_cons,Nat.add_mul,Nat.one_mul];have h1:=h r (.head _);have h2:=oR (rows:=rows) λx hx=>h x (.tail _ hx)
  omega
theorem iP{α:Type}{w:α->List Str}{m:Nat}{rows:List α}(q:rows.length<=3)(h:∀r∈rows,(w r).length<=m):(rows.map w).flatten.length<=3*m:=
 Nat.le_trans (oR h) (Nat.mul_le_mul_right m q)
theorem b9{d:Nat}{v:PV}{ws:List Str}(h:Pap d v ws):ws.length<=Bd d:=by
 induction h with
 | @leaf d k hk=>have:=vG d;show 1<=_;omega
 | @pairs d ps hl h1 h2 =>
  have:=vG d;have:=iP (w:=λp:Int×Int=>[ar p.1,ar p.2]) (m:=2) hl λr _=>by simp
  simp only[length_cons];omega
 | @one d v ws k hk r hr h ih=>simp only[length_cons];show _<=3*Bd d+80;omega
 | @cases d rows hl h1 h2 h3 ih =>
  have:=iP (w:=λr:Int×Option Int×PV×List Str=>ar r.1::wP r.2.1::r.2.2.2) (m:=Bd d+2) hl λr hr=>by
   have:=ih r hr;simp only[length_cons];omega
  simp only[length_cons];show _<=3*Bd d+80;omega
 | @parts d rows hl h1 h3 ih =>
  have:=iP (w:=λr:List (List Int)×PV×List Str=>wR r.1++r.2.2) (m:=Bd d+21) hl λr hr=>by
   have:=ih r hr;have:=cT (h1 r hr);rw[length_append];omega
  simp only[length_cons];show _<=3*Bd d+80;omega
 | @fewer d v ws R hR h ih =>
  have:=cT hR;rw[length_cons,length_append];show _<=3*Bd d+80;omega
 | @either d v v' ws ws' R S hR hS h h' ih ih' =>
  have:=cT hR;have:=cT hS;rw[length_cons,length_append,length_append,length_append];show _<=3*Bd d+80;omega
noncomputable abbrev Row:=PV×PV×List Str
theorem gU(n:Nat)(rows:List Row)(q:rows.length<=10000)(hw:(rows.map λr=>r.2.2).flatten.length<=10000)(h:∀r∈rows,aa defs (n+1) 7 [.val r.1,.val r.2.1]=some (lw r.2.2)) :
  aa defs (n+2) 8 [.val (.tup (rows.map λr=>r.1)),.val (.tup (rows.map λr=>r.2.1))]=some (lw (rows.map λr=>r.2.2).flatten):=by
 have e:=CQ (α:=Row) n (λr=>r.1) (λr=>r.2.1) (λr=>r.2.2) rows q hw h;exact e
theorem rD:fK "MEMBERS" (.str "bare")=some (.tup []):=by rfl
theorem oS:fK "MEMBERS" (.str "whole")=some (.tup []):=by rfl
theorem l_:fK "MEMBERS" (.str "weight")=some (.tup []):=by rfl
theorem oT:fK "MEMBERS" (.str "pairs")=some (.tup [.tup [.str "hole",.str "hole"]]):=by rfl
theorem rE:fK "MEMBERS" (.str "bite")=some (.tup [.str "reply",.str "paper"]):=by rfl
theorem rF:fK "MEMBERS" (.str "knot")=some (.tup [.str "reply",.str "paper"]):=by rfl
theorem oU:fK "MEMBERS" (.str "cases")=some (.tup [.tup [.str "hole",.str "reply",.str "paper"]]):=by rfl
theorem oV:fK "MEMBERS" (.str "parts")=some (.tup [.tup [.str "rest",.str "paper"]]):=by rfl
theorem oW:fK "MEMBERS" (.str "fewer")=some (.tup [.str "rest",.str "paper"]):=by rfl
theorem mf:fK "MEMBERS" (.str "either")=some (.tup [.str "rest",.str "paper",.str "rest",.str "paper"]):=by rfl
theorem oX{d:Nat}{v:PV}{ws:List Str}(h:Pap d v ws):d<=4->∀N,5*d+6<=N->aa defs N 9 [.val v]=some (lw ws):=by
 induction h with
 | @leaf d k hk =>
  intro _ N hN;obtain⟨n,rfl⟩:∃n,N=n+3:=⟨N-3,by omega⟩;have e:=gU n [] (by simp) (by simp) (λr hr=>by cases hr);have hg:fK "MEMBERS" (.str k)=some (.tup []):=by
   rcases hk with rfl|rfl|rfl
   ·exact rD
   ·exact oS
   ·exact l_
  exact qp (n+2) k [] [] [] hg (by simp) (by simp) e
 | @pairs d ps hl h1 h2 =>
  intro _ N hN;obtain⟨n,rfl⟩:∃n,N=n+6:=⟨N-6,by omega⟩;have hf:=iP (w:=λp:Int×Int=>[ar p.1,ar p.2]) (m:=2) hl λr _=>by simp
  have e1:=kQ (n+1) (λp:Int×Int=>.tup [.int p.1,.int p.2]) (λp=>[ar p.1,ar p.2]) ps [.str "hole",.str "hole"] (by omega) (by omega) λp hp=>by
   have:=gU (n+1) [(.int p.1,.str "hole",[ar p.1]),(.int p.2,.str "hole",[ar p.2])] (by simp) (by simp) λr hr=>by
    simp only[mem_cons,not_mem_nil,or_false]at hr;rcases hr with rfl|rfl
    ·exact gn (n+1) (some p.1) (λi e=>by cases e;exact h1 p hp) "hole" (.inl rfl)
    ·exact gn (n+1) (some p.2) (λi e=>by cases e;exact h2 p hp) "hole" (.inl rfl)
   simpa using this
  have e2:=gU (n+3) [(.tup (ps.map λp=>.tup [.int p.1,.int p.2]),.tup [.str "hole",.str "hole"],ar ps.length::(ps.map λp=>[ar p.1,ar p.2]).flatten)] (by simp) (by simp only[map_cons,map_nil,flatten_cons,flatten_nil,append_nil,length_cons];omega) λr hr=>by
   simp only[mem_cons,not_mem_nil,or_false]at hr;subst hr;exact e1
  simp only[map_cons,map_nil,flatten_cons,flatten_nil,append_nil]at e2;exact qp (n+5) "pairs" _ _ _ oT (by simp) (by simp only[length_cons];omega) e2
 | @one d v ws k hk r hr h ih =>
  intro hd N hN;obtain⟨n,rfl⟩:∃n,N=n+3:=⟨N-3,by omega⟩;have hb:=Nat.le_trans (b9 h) (cO (e:=3) (by omega));have hb:ws.length<=2660:=hb;have e1:=gU n [(vP r,.str "reply",[wP r]),(v,.str "paper",ws)] (by simp) (by simp only[map_cons,map_nil,flatten_cons,flatten_nil,append_nil,length_append,length_cons,length_nil];omega) λq hq=>by
   simp only[mem_cons,not_mem_nil,or_false]at hq;rcases hq with rfl|rfl
   ·exact gn n r hr "reply" (.inr rfl)
   ·exact d7 n v _ (ih (by omega) n (by omega))
  simp only[map_cons,map_nil,flatten_cons,flatten_nil,append_nil,singleton_append]at e1;have hg:fK "MEMBERS" (.str k)=some (.tup [.str "reply",.str "paper"]):=by
   rcases hk with rfl|rfl
   ·exact rE
   ·exact rF
  exact qp (n+2) k _ _ _ hg (by simp) (by simp only[length_cons];omega) e1
 | @cases d rows hl h1 h2 h3 ih =>
  intro hd N hN;obtain⟨n,rfl⟩:∃n,N=n+6:=⟨N-6,by omega⟩;have hb:∀r∈rows,r.2.2.2.length<=2660:=λr hr=>Nat.le_trans (b9 (h3 r hr)) (cO (e:=3) (by omega))
  have hf:=iP (w:=λr:Int×Option Int×PV×List Str=>ar r.1::wP r.2.1::r.2.2.2) (m:=2662) hl λr hr=>by
   have:=hb r hr;simp only[length_cons];omega
  have e1:=kQ (n+1) (λr:Int×Option Int×PV×List Str=>.tup [.int r.1,vP r.2.1,r.2.2.1]) (λr=>ar r.1::wP r.2.1::r.2.2.2) rows [.str "hole",.str "reply",.str "paper"] (by omega) (by omega) λp hp=>by
   have hbp:=hb p hp;have:=gU (n+1) [(.int p.1,.str "hole",[ar p.1]),(vP p.2.1,.str "reply",[wP p.2.1]),(p.2.2.1,.str "paper",p.2.2.2)] (by simp) (by simp only[map_cons,map_nil,flatten_cons,flatten_nil,append_nil,length_append,length_cons,length_nil];omega) λr hr=>by
    simp only[mem_cons,not_mem_nil,or_false]at hr;rcases hr with rfl|rfl|rfl
    ·exact gn (n+1) (some p.1) (λi e=>by cases e;exact h1 p hp) "hole" (.inl rfl)
    ·exact gn (n+1) p.2.1 (h2 p hp) "reply" (.inr rfl)
    ·exact d7 (n+1) _ _ (ih p hp (by omega) (n+1) (by omega))
   simpa using this
  have e2:=gU (n+3) [(.tup (rows.map λr=>.tup [.int r.1,vP r.2.1,r.2.2.1]),.tup [.str "hole",.str "reply",.str "paper"],ar rows.length::(rows.map λr=>ar r.1::wP r.2.1::r.2.2.2).flatten)] (by simp) (by simp only[map_cons,map_nil,flatten_cons,flatten_nil,append_nil,length_cons];omega) λr hr=>by
   simp only[mem_cons,not_mem_nil,or_false]at hr;subst hr;exact e1
  simp only[map_cons,map_nil,flatten_cons,flatten_nil,append_nil]at e2;exact qp (n+5) "cases" _ _ _ oU (by simp) (by simp only[length_cons];omega) e2
 | @parts d rows hl h1 h3 ih =>
  intro hd N hN;obtain⟨n,rfl⟩:∃n,N=n+6:=⟨N-6,by omega⟩;have hb:∀r∈rows,r.2.2.length<=2660:=λr hr=>Nat.le_trans (b9 (h3 r hr)) (cO (e:=3) (by omega))
  have hf:=iP (w:=λr:List (List Int)×PV×List Str=>wR r.1++r.2.2) (m:=2690) hl λr hr=>by
   have:=hb r hr;have:=cT (h1 r hr);rw[length_append];omega
  have e1:=kQ (n+1) (λr:List (List Int)×PV×List Str=>.tup [ofR r.1,r.2.1]) (λr=>wR r.1++r.2.2) rows [.str "rest",.str "paper"] (by omega) (by omega) λp hp=>by
   have hbp:=hb p hp;have hbr:=cT (h1 p hp);have:=gU (n+1) [(ofR p.1,.str "rest",wR p.1),(p.2.1,.str "paper",p.2.2)] (by simp) (by simp only[map_cons,map_nil,flatten_cons,flatten_nil,append_nil,length_append];omega) λr hr=>by
    simp only[mem_cons,not_mem_nil,or_false]at hr;rcases hr with rfl|rfl
    ·obtain⟨m,rfl⟩:∃m,n=m+2:=⟨n-2,by omega⟩;exact iO m p.1 (h1 p hp)
    ·exact d7 (n+1) _ _ (ih p hp (by omega) (n+1) (by omega))
   simpa using this
  have e2:=gU (n+3) [(.tup (rows.map λr=>.tup [ofR r.1,r.2.1]),.tup [.str "rest",.str "paper"],ar rows.length::(rows.map λr=>wR r.1++r.2.2).flatten)] (by simp) (by simp only[map_cons,map_nil,flatten_cons,flatten_nil,append_nil,length_cons];omega) λr hr=>by
   simp only[mem_cons,not_mem_nil,or_false]at hr;subst hr;exact e1
  simp only[map_cons,map_nil,flatten_cons,flatten_nil,append_nil]at e2;exact qp (n+5) "parts" _ _ _ oV (by simp) (by simp only[length_cons];omega) e2
 | @fewer d v ws R hR h ih =>
  intro hd N hN;obtain⟨n,rfl⟩:∃n,N=n+6:=⟨N-6,by omega⟩;have hb:ws.length<=2660:=Nat.le_trans (b9 h) (cO (e:=3) (by omega));have hbr:=cT hR;have e1:=gU (n+3) [(ofR R,.str "rest",wR R),(v,.str "paper",ws)] (by simp) (by simp only[map_cons,map_nil,flatten_cons,flatten_nil,append_nil,length_append];omega) λq hq=>by
   simp only[mem_cons,not_mem_nil,or_false]at hq;rcases hq with rfl|rfl
   ·exact iO n R hR
   ·exact d7 (n+3) v _ (ih (by omega) (n+3) (by omega))
  simp only[map_cons,map_nil,flatten_cons,flatten_nil,append_nil]at e1;exact qp (n+5) "fewer" _ _ _ oW (by simp) (by rw[length_append];omega) e1
 | @either d v v' ws ws' R S hR hS h h' ih ih' =>
  intro hd N hN;obtain⟨n,rfl⟩:∃n,N=n+6:=⟨N-6,by omega⟩;have hb:ws.length<=2660:=Nat.le_trans (b9 h) (cO (e:=3) (by omega));have hb':ws'.length<=2660:=Nat.le_trans (b9 h') (cO (e:=3) (by omega));have hbr:=cT hR;have hbs:=cT hS;have e1:=gU (n+3) [(ofR R,.str "rest",wR R),(v,.str "paper",ws),(ofR S,.str "rest",wR S),(v',.str "paper",ws')] (by simp) (by simp only[map_cons,map_nil,flatten_cons,flatten_nil,append_nil,length_append];omega) λq hq=>by
   simp only[mem_cons,not_mem_nil,or_false]at hq;rcases hq with rfl|rfl|rfl|rfl
   ·exact iO n R hR
   ·exact d7 (n+3) v _ (ih (by omega) (n+3) (by omega))
   ·exact iO n S hS
   ·exact d7 (n+3) v' _ (ih' (by omega) (n+3) (by omega))
  simp only[map_cons,map_nil,flatten_cons,flatten_nil,append_nil]at e1;rw[<- append_assoc]at e1;exact qp (n+5) "either" _ _ _ mf (by simp) (by simp only[length_append];omega) e1
theorem kR(cal:Cal)(a:Option MV):∀(R:List (List Int)) (acc:List Str) (s:Option MV),(∀t∈R,∀i∈t,Sm i)->acc.length+(R.map wS).flatten.length<=10000 ->
  ∃s',a9 (λx ρ'=>exs cal bQ (put ρ' 2 (.val x))) (R.map ofS) [a,some (.val (lw acc)),s]=.next [a,some (.val (lw (acc++(R.map wS).flatten))),s']
 | [],acc,s,_,_=>⟨s,by simp⟩
 | t::R,acc,s,hs,h=>by
  rw[map_cons,a9];rw[map_cons,flatten_cons,length_append]at h;have hw:(wS t).length=t.length+1:=by simp[wS]
  have e1:ev cal (.comp .seq [(.bor 2)] [] (.cst (.bl true)) (.blt .strOf [(.bor 0)])) [a,some (.val (lw acc)),some (.val (ofS t))]=some (.lst (t.map λi=>.str (ar i))):=by
   refine gH (vs:=[ofS t]) (xs:=t) (g:=PV.int) (by simp[evs,ev]) (by simp[bc,ofS]) (by omega) λi hi=>?_
   rw[aZ (v:=.int i) (by simp[ev,fA]),ib (hs t (.head _) i hi)]
  have e0:ev cal (.lst [(.blt .strOf [(.blt .len [(.bor 2)])])]) [a,some (.val (lw acc)),some (.val (ofS t))]=some (.lst [.str (ar t.length)]):=by
   rw[ev,evs,aZ (v:=.int t.length) (by rw[aZ (v:=ofS t) (by simp[ev])];simp[ofS]),jP _ (by omega)];simp[evs]
  have c1:acc.length+1<=10000:=by omega
  have c2:acc.length+1+t.length<=10000:=by omega
  have e2:ev cal (.bin .add (.bin .add (.bor 1) (.lst [(.blt .strOf [(.blt .len [(.bor 2)])])])) (.comp .seq [(.bor 2)] [] (.cst (.bl true)) (.blt .strOf [(.bor 0)]))) [a,some (.val (lw acc)),some (.val (ofS t))]=some (lw (acc++wS t)):=by
   rw[ev,e1,ev,e0];simp[ev,lw,c1,c2,wS]
  have e:exs cal bQ (put [a,some (.val (lw acc)),s] 2 (.val (ofS t)))=.next [a,some (.val (lw (acc++wS t))),some (.val (ofS t))]:=by
   simp only[aE,aD,bQ];exact cK (m7 e2)
  rw[e];obtain⟨s',e3⟩:=kR cal a R (acc++wS t) (some (.val (ofS t))) (λu hu=>hs u (.tail _ hu)) (by rw[length_append];omega);exact⟨s',by rw[map_cons,flatten_cons,<- append_assoc];exact e3⟩
theorem jQ(n:Nat)(R:List (List Int))(h:ROk R):aa defs (n+1) 27 [.val (ofR R)]=some (lw (wR R)):=by
 rw[aq (d:=dn) rfl rfl];have D:=cT h;have q:=h.l;have hw:(wR R).length=(R.map wS).flatten.length+1:=rfl;obtain⟨s',e⟩:=kR (aa defs n) (some (.val (ofR R))) R [ar R.length] none h.m (by simp only[length_singleton];omega);have z:ev (aa defs n) (.lst [(.blt .strOf [(.blt .len [(.bor 0)])])]) [some (.val (ofR R)),none,none]=some (lw [ar R.length]):=by
  rw[ev,evs,aZ (v:=.int R.length) (by rw[aZ (v:=ofR R) (by simp[ev])];simp[ofR]),jP _ (by omega)];simp[evs,lw]
 refine yA (ρ:=[some (.val (ofR R)),none,none]) z (fR (ρ':=[some (.val (ofR R)),some (.val (lw (wR R))),s']) ?_ (gT (by simp[ev])));simp only[aD,aE];rw[gG (xs:=R.map ofS) (by simp[evs,ev,bc,ofR])];rw[show bq [ME.bor 0] [some (.val (ofR R)),some (.val (lw [ar R.length])),none]=[some (.val (ofR R)),some (.val (lw [ar R.length])),none] from rfl,e]
 rfl
theorem oY(n:Nat)(r:Option Int)(q:∀i,r=some i->Sm i):aa defs (n+1) 28 [.val (vP r)]=some (.str (wP r)):=by
 rw[aq (d:=bK) rfl rfl];cases r with
 |none=>simp[bK,exs,ex,ev,evs,evB,vP,wP,fz]
 |some i =>
  have e:=ib (q i rfl);simp[bK,exs,ex,ev,evs,evB,vP,wP,fz,e]
theorem kS{cal:Cal}{c:ME}{a b ms:List MS}{ρ ρ':Rho}{X:Option PV}(h:ev cal c ρ=some (.bl true))(g:exs cal a ρ=.next ρ')(k:bo (exs cal ms ρ')=X):bo (exs cal (.ite c a b::ms) ρ)=X:=by
 rw[ba,cA h,if_pos rfl,g,cV,k]
theorem cB(cal:Cal)(k q:String)(p:Option MV)(r:Rho):ev cal (.cmp .eq (.bor 1) (.cst (.str q))) (p::some (.val (.str k))::r)=some (.bl (k==q)):=by
 simp[ev,fS]
theorem fT{cal:Cal}{a b:ME}{ρ:Rho}{p q:Bool}(h:ev cal a ρ=some (.bl p))(h':ev cal b ρ=some (.bl q)):ev cal (.or a b) ρ=some (.bl (p || q)):=by
 rw[ev,h,bind_some,sW,bind_some,h'];cases p<;>simp
theorem jl{cal:Cal}{e e':ME}{ρ:Rho}{acc a b:List Str}(h0:(ρ[(2:Nat)]?).join=some (.own (acc.map .str)))(h1:ev cal e ρ=some (lw a))(h2:ev cal e' ρ=some (lw b))(q:acc.length+a.length+b.length<=10000):ex cal (.setOwn 2 (.bin .add (.bin .add (.bor 2) e) e')) ρ=.next (put ρ 2 (.own ((acc++a++b).map .str))):=by
 refine dq ?_;have c1:acc.length+a.length<=10000:=by omega
 rw[ev,h2,ev,h1];simp[ev,h0,lw,c1,q]
theorem xT{cal:Cal}{e:ME}{ρ:Rho}{acc a:List Str}(h0:(ρ[(2:Nat)]?).join=some (.own (acc.map .str)))(h1:ev cal e ρ=some (lw a))(q:acc.length+a.length<=10000):ex cal (.setOwn 2 (.bin .add (.bor 2) e)) ρ=.next (put ρ 2 (.own ((acc++a).map .str))):=by
 refine dq ?_;rw[ev,h1];simp[ev,h0,lw,q]
theorem gq(cal:Cal)(k:String)(vs:List PV){X:Option PV}(h:bo (exs cal (am.body.drop 2) [some (.val (.tup (.str k::vs))),some (.val (.str k)),some (.own [.str k]),none])=X):bo (exs cal am.body [some (.val (.tup (.str k::vs))),none,none,none])=X:=by
 refine yA (v:=.str k) (by simp[ev,place]) (fR (ρ':=[some (.val (.tup (.str k::vs))),some (.val (.str k)),some (.own [.str k]),none]) ?_ h);simp only[aD,aE];exact dq (by simp[ev,evs])
theorem m9 (cal:Cal) (k:String) (v:PV) (o s:Option MV) {X:Option PV} (q:(k == "pairs" || (k == "cases" || k == "parts"))=false) (h:bo (exs cal (am.body.drop 3) [some (.val v),some (.val (.str k)),o,s])=X):bo (exs cal (am.body.drop 2) [some (.val v),some (.val (.str k)),o,s])=X:=
 gp ((fT (cB ..) (fT (cB ..) (cB ..))).trans (by rw[q])) h
theorem m_ (cal:Cal) (k:String) (v:PV) (o s:Option MV) {X:Option PV} (q:(k == "bite" || k == "knot")=false) (h:bo (exs cal (am.body.drop 4) [some (.val v),some (.val (.str k)),o,s])=X):bo (exs cal (am.body.drop 3) [some (.val v),some (.val (.str k)),o,s])=X:=
 gp ((fT (cB ..) (cB ..)).trans (by rw[q])) h
theorem qr (cal:Cal) (k:String) (v:PV) (o s:Option MV) {X:Option PV} (q:(k == "fewer" || k == "either")=false) (h:bo (exs cal (am.body.drop 5) [some (.val v),some (.val (.str k)),o,s])=X):bo (exs cal (am.body.drop 4) [some (.val v),some (.val (.str k)),o,s])=X:=
 gp ((fT (cB ..) (cB ..)).trans (by rw[q])) h
theorem nc (cal:Cal) (k:String) (v:PV) (acc:List Str) (s:Option MV) (q:(k == "either")=false):bo (exs cal (am.body.drop 5) [some (.val v),some (.val (.str k)),some (.own (acc.map .str)),s])=some (lw acc):=by
 refine gp ((cB ..).trans (by rw[q])) ?_;simp[exs,ex,lw]
theorem AM(cal:Cal)(p q s:Option MV)(acc:List Str):bo (exs cal (am.body.drop 6) [p,q,some (.own (acc.map .str)),s])=some (lw acc):=by
 show bo (exs cal [.retOwn 2] _)=_;simp[exs,ex,lw]
theorem ng {α:Type} (cal:Cal) (k:String) (f:α->PV) (w:α->List Str) (rows:List α) (U:(k == "pairs" || (k == "cases" || k == "parts"))=true) (D:rows.length<=3) (hw:(rows.map w).flatten.length<=9990)
  (h:∀r∈rows,∀(acc:List Str) (v:PV),acc.length+(w r).length<=10000->exs cal fh [some (.val v),some (.val (.str k)),some (.own (acc.map .str)),some (.val (f r))]=.next [some (.val v),some (.val (.str k)),some (.own ((acc++w r).map .str)),some (.val (f r))])
  (h2:(k == "bite" || k == "knot")=false) (h3:(k == "fewer" || k == "either")=false) (h4:(k == "either")=false) (Y:∀r∈rows,(w r).length<=(rows.map w).flatten.length) :
  bo (exs cal am.body [some (.val (.tup [.str k,.tup (rows.map f)])),none,none,none])=some (lw (k::ar rows.length::(rows.map w).flatten)):=by
 have Z:∀o s,ev cal (.blt .strOf [(.blt .len [(.idx (.bor 0) (.cst (.int 1)))])]) [some (.val (.tup [.str k,.tup (rows.map f)])),some (.val (.str k)),o,s]=some (.str (ar rows.length)):=λo s=>by
  rw[aZ (v:=.int rows.length) (by rw[aZ (v:=.tup (rows.map f)) (by simp[ev,place])];simp),jP _ (by omega)]
 have lp:∀(q:List α) (acc:List Str) (s:Option MV),(∀r∈q,r∈rows)->acc.length+(q.map w).flatten.length<=9992 ->
   ∃s',a9 (λx ρ'=>exs cal fh (put ρ' 3 (.val x))) (q.map f) [some (.val (.tup [.str k,.tup (rows.map f)])),some (.val (.str k)),some (.own (acc.map .str)),s]=.next [some (.val (.tup [.str k,.tup (rows.map f)])),some (.val (.str k)),some (.own ((acc++(q.map w).flatten).map .str)),s']:=by
  intro q
  induction q with
  |nil=>intro acc s _ _;exact⟨s,by simp⟩
  |cons r q ih =>
   intro acc s J D;rw[map_cons,flatten_cons,length_append]at D;rw[map_cons,a9];have e:=h r (J r (.head _)) acc (.tup [.str k,.tup (rows.map f)]) (by omega);rw[show put [some (MV.val (.tup [.str k,.tup (rows.map f)])),some (.val (.str k)),some (.own (acc.map .str)),s] 3 (.val (f r))=[some (.val (.tup [.str k,.tup (rows.map f)])),some (.val (.str k)),some (.own (acc.map .str)),some (.val (f r))] from rfl,e];obtain⟨s',e2⟩:=ih (acc++w r) (some (.val (f r))) (λx hx=>J x (.tail _ hx)) (by rw[length_append];omega);exact⟨s',by rw[map_cons,flatten_cons,<- append_assoc];exact e2⟩
 obtain⟨s',e1⟩:=lp rows [Str.ofString k,ar rows.length] none (λ_ z=>z) (by simp only[length_cons,length_nil];omega);refine gq cal k _ (kS ((fT (cB ..) (fT (cB ..) (cB ..))).trans (by rw[U])) (ρ':=[some (.val (.tup [.str k,.tup (rows.map f)])),some (.val (.str k)),some (.own ((Str.ofString k::ar rows.length::(rows.map w).flatten).map .str)),s']) ?_ (m_ cal k _ _ _ h2 (qr cal k _ _ _ h3 (nc cal k _ _ _ h4))));refine fj (ρ':=[some (.val (.tup [.str k,.tup (rows.map f)])),some (.val (.str k)),some (.own ([Str.ofString k,ar rows.length].map .str)),none]) ?_ (cK ?_)
 ·rw[ex,Z];simp
 ·rw[gG (xs:=rows.map f) (by rw[evs,show ev cal (.idx (.bor 0) (.cst (.int 1))) [some (.val (.tup [.str k,.tup (rows.map f)])),some (.val (.str k)),some (.own ([Str.ofString k,ar rows.length].map .str)),none]=some (.tup (rows.map f)) from by simp[ev,place]];simp[evs,bc])];rw[show bq [ME.idx (.bor 0) (.cst (.int 1))] [some (MV.val (.tup [.str k,.tup (rows.map f)])),some (.val (.str k)),some (.own ([Str.ofString k,ar rows.length].map .str)),none]=[some (.val (.tup [.str k,.tup (rows.map f)])),some (.val (.str k)),some (.own ([Str.ofString k,ar rows.length].map .str)),none] from rfl,e1]
  rfl
theorem xU{d:Nat}{v:PV}{ws:List Str}(h:Pap d v ws):d<=4->∀N,d+3<=N->aa defs N 29 [.val v]=some (lw ws):=by
 induction h with
 | @leaf d k hk =>
  intro _ N hN;obtain⟨n,rfl⟩:∃n,N=n+1:=⟨N-1,by omega⟩;rw[aq (d:=am) rfl rfl];have go:∀k:String,(k == "pairs" || (k == "cases" || k == "parts"))=false->(k == "bite" || k == "knot")=false->(k == "fewer" || k == "either")=false->(k == "either")=false->bo (exs (aa defs n) am.body [some (.val (.tup [.str k])),none,none,none])=some (lw [Str.ofString k]):=λk a b c e =>
   gq _ k [] (m9 _ k _ _ _ a (m_ _ k _ _ _ b (qr _ k _ _ _ c (nc _ k _ [Str.ofString k] _ e))))
  rcases hk with rfl|rfl|rfl
  ·exact go "bare" (by decide) (by decide) (by decide) (by decide)
  ·exact go "whole" (by decide) (by decide) (by decide) (by decide)
  ·exact go "weight" (by decide) (by decide) (by decide) (by decide)
 | @pairs d ps hl h1 h2 =>
  intro _ N hN;obtain⟨n,rfl⟩:∃n,N=n+1:=⟨N-1,by omega⟩;rw[aq (d:=am) rfl rfl];have hf:=iP (w:=λp:Int×Int=>[ar p.1,ar p.2]) (m:=2) hl λr _=>by simp
  refine ng (aa defs n) "pairs" (λp:Int×Int=>.tup [.int p.1,.int p.2]) (λp=>[ar p.1,ar p.2]) ps (by decide) hl (by omega) (λp hp acc v ha=>?_) (by decide) (by decide) (by decide) (λr hr=>?_)
  ·have a1:=ib (h1 p hp);have a2:=ib (h2 p hp);have e1:ev (aa defs n) (.lst [(.blt .strOf [(.idx (.bor 3) (.cst (.int 0)))]),(.blt .strOf [(.idx (.bor 3) (.cst (.int 1)))])]) [some (.val v),some (.val (.str "pairs")),some (.own (acc.map .str)),some (.val (.tup [.int p.1,.int p.2]))]=some (lw [ar p.1,ar p.2]):=by
    rw[ev,evs,aZ (v:=.int p.1) (by simp[ev,place]),a1,evs,aZ (v:=.int p.2) (by simp[ev,place]),a2];simp[evs,lw]
   show exs _ [.ite _ _ _] _=_;refine cK ?_;rw[cA (p:=true) (by rw[cB];rfl),if_pos rfl];exact cK (xT (acc:=acc) rfl e1 ha)
  ·have:0<ps.length:=length_pos_of_mem hr;have q:=sublist_flatten_of_mem (List.mem_map_of_mem (f:=λp:Int×Int=>[ar p.1,ar p.2]) hr);exact q.length_le
 | @one d v ws k hk r hr h ih =>
  intro hd N hN;obtain⟨n,rfl⟩:∃n,N=n+2:=⟨N-2,by omega⟩;rw[aq (d:=am) rfl rfl];have hb:ws.length<=2660:=Nat.le_trans (b9 h) (cO (e:=3) (by omega));have go:∀k:String,(k == "pairs" || (k == "cases" || k == "parts"))=false->(k == "bite" || k == "knot")=true->(k == "fewer" || k == "either")=false->(k == "either")=false->bo (exs (aa defs (n+1)) am.body [some (.val (.tup [.str k,vP r,v])),none,none,none])=some (lw (Str.ofString k::wP r::ws)):=λk a b c e=>by
   refine gq _ k _ (m9 _ k _ _ _ a (kS ((fT (cB ..) (cB ..)).trans (by rw[b])) (ρ':=[some (.val (.tup [.str k,vP r,v])),some (.val (.str k)),some (.own ((Str.ofString k::wP r::ws).map .str)),none]) (cK ?_) (qr _ k _ _ _ c (nc _ k _ _ _ e))));refine jl (acc:=[Str.ofString k]) (a:=[wP r]) (b:=ws) rfl ?_ ?_ (by simp only[length_singleton];omega)
   ·rw[ev,evs,bi (v:=vP r) (r:=.str (wP r)) (λi z=>by cases z) (by simp[ev,place]) (oY n r hr)];simp[evs,lw]
   ·exact bi (v:=v) (λi z=>by cases z) (by simp[ev,place]) (ih (by omega) (n+1) (by omega))
  rcases hk with rfl|rfl
  ·exact go "bite" (by decide) (by decide) (by decide) (by decide)
  ·exact go "knot" (by decide) (by decide) (by decide) (by decide)
 | @cases d rows hl h1 h2 h3 ih =>
  intro hd N hN;obtain⟨n,rfl⟩:∃n,N=n+2:=⟨N-2,by omega⟩;rw[aq (d:=am) rfl rfl];have hb:∀r∈rows,r.2.2.2.length<=2660:=λr hr=>Nat.le_trans (b9 (h3 r hr)) (cO (e:=3) (by omega))
  have hf:=iP (w:=λr:Int×Option Int×PV×List Str=>ar r.1::wP r.2.1::r.2.2.2) (m:=2662) hl λr hr=>by
   have:=hb r hr;simp only[length_cons];omega
  refine ng (aa defs (n+1)) "cases" (λr:Int×Option Int×PV×List Str=>.tup [.int r.1,vP r.2.1,r.2.2.1]) (λr=>ar r.1::wP r.2.1::r.2.2.2) rows (by decide) hl (by omega) (λp hp acc v ha=>?_) (by decide) (by decide) (by decide) (λr hr=>(sublist_flatten_of_mem (List.mem_map_of_mem (f:=λr:Int×Option Int×PV×List Str=>ar r.1::wP r.2.1::r.2.2.2) hr)).length_le);have a1:=ib (h1 p hp);have e1:ev (aa defs (n+1)) (.lst [(.blt .strOf [(.idx (.bor 3) (.cst (.int 0)))]),(.call 28 [(.idx (.bor 3) (.cst (.int 1)))])]) [some (.val v),some (.val (.str "cases")),some (.own (acc.map .str)),some (.val (.tup [.int p.1,vP p.2.1,p.2.2.1]))]=some (lw [ar p.1,wP p.2.1]):=by
   rw[ev,evs,aZ (v:=.int p.1) (by simp[ev,place]),a1,evs,bi (v:=vP p.2.1) (r:=.str (wP p.2.1)) (λi z=>by cases z) (by simp[ev,place]) (oY n _ (h2 p hp))];simp[evs,lw]
  have e2:ev (aa defs (n+1)) (.call 29 [(.idx (.bor 3) (.cst (.int 2)))]) [some (.val v),some (.val (.str "cases")),some (.own (acc.map .str)),some (.val (.tup [.int p.1,vP p.2.1,p.2.2.1]))]=some (lw p.2.2.2):=bi (v:=p.2.2.1) (λi z=>by cases z) (by simp[ev,place]) (ih p hp (by omega) (n+1) (by omega));show exs _ [.ite _ _ _] _=_;refine cK ?_;rw[cA (p:=false) (by rw[cB];rfl),if_neg (by decide)];refine cK ?_;rw[cA (p:=true) (by rw[cB];rfl),if_pos rfl];refine cK ?_;simp only[length_cons]at ha;have q:=jl (acc:=acc) rfl e1 e2 (by simp only[length_cons,length_nil];omega);rw[append_assoc]at q;exact q
 | @parts d rows hl h1 h3 ih =>
  intro hd N hN;obtain⟨n,rfl⟩:∃n,N=n+2:=⟨N-2,by omega⟩;rw[aq (d:=am) rfl rfl];have hb:∀r∈rows,r.2.2.length<=2660:=λr hr=>Nat.le_trans (b9 (h3 r hr)) (cO (e:=3) (by omega))
  have hf:=iP (w:=λr:List (List Int)×PV×List Str=>wR r.1++r.2.2) (m:=2690) hl λr hr=>by
   have:=hb r hr;have:=cT (h1 r hr);rw[length_append];omega
  refine ng (aa defs (n+1)) "parts" (λr:List (List Int)×PV×List Str=>.tup [ofR r.1,r.2.1]) (λr=>wR r.1++r.2.2) rows (by decide) hl (by omega) (λp hp acc v ha=>?_) (by decide) (by decide) (by decide) (λr hr=>(sublist_flatten_of_mem (List.mem_map_of_mem (f:=λr:List (List Int)×PV×List Str=>wR r.1++r.2.2) hr)).length_le);have e1:ev (aa defs (n+1)) (.call 27 [(.idx (.bor 3) (.cst (.int 0)))]) [some (.val v),some (.val (.str "parts")),some (.own (acc.map .str)),some (.val (.tup [ofR p.1,p.2.1]))]=some (lw (wR p.1)):=bi (v:=ofR p.1) (λi z=>by cases z) (by simp[ev,place]) (jQ n p.1 (h1 p hp));have e2:ev (aa defs (n+1)) (.call 29 [(.idx (.bor 3) (.cst (.int 1)))]) [some (.val v),some (.val (.str "parts")),some (.own (acc.map .str)),some (.val (.tup [ofR p.1,p.2.1]))]=some (lw p.2.2):=bi (v:=p.2.1) (λi z=>by cases z) (by simp[ev,place]) (ih p hp (by omega) (n+1) (by omega));show exs _ [.ite _ _ _] _=_;refine cK ?_;rw[cA (p:=false) (by rw[cB];rfl),if_neg (by decide)];refine cK ?_;rw[cA (p:=false) (by rw[cB];rfl),if_neg (by decide)];refine cK ?_;rw[length_append]at ha;have q:=jl (acc:=acc) rfl e1 e2 (by omega);rw[append_assoc]at q;exact q
 | @fewer d v ws R hR h ih =>
  intro hd N hN;obtain⟨n,rfl⟩:∃n,N=n+2:=⟨N-2,by omega⟩;rw[aq (d:=am) rfl rfl];have hb:ws.length<=2660:=Nat.le_trans (b9 h) (cO (e:=3) (by omega));have hbr:=cT hR;refine gq _ "fewer" _ (m9 _ "fewer" _ _ _ (by decide) (m_ _ "fewer" _ _ _ (by decide) (kS ((fT (cB ..) (cB ..)).trans rfl) (ρ':=[some (.val (.tup [.str "fewer",ofR R,v])),some (.val (.str "fewer")),some (.own ((Str.ofString "fewer"::(wR R++ws)).map .str)),none]) (cK ?_) (nc _ "fewer" _ _ _ (by decide)))));refine jl (acc:=[Str.ofString "fewer"]) (a:=wR R) (b:=ws) rfl ?_ ?_ (by simp only[length_singleton];omega)
  ·exact bi (v:=ofR R) (λi z=>by cases z) (by simp[ev,place]) (jQ n R hR)
  ·exact bi (v:=v) (λi z=>by cases z) (by simp[ev,place]) (ih (by omega) (n+1) (by omega))
 | @either d v v' ws ws' R S hR hS h h' ih ih' =>
  intro hd N hN;obtain⟨n,rfl⟩:∃n,N=n+2:=⟨N-2,by omega⟩;rw[aq (d:=am) rfl rfl];have hb:ws.length<=2660:=Nat.le_trans (b9 h) (cO (e:=3) (by omega));have hb':ws'.length<=2660:=Nat.le_trans (b9 h') (cO (e:=3) (by omega));have hbr:=cT hR;have hbs:=cT hS;refine gq _ "either" _ (m9 _ "either" _ _ _ (by decide) (m_ _ "either" _ _ _ (by decide) (kS ((fT (cB ..) (cB ..)).trans rfl) (ρ':=[some (.val (.tup [.str "either",ofR R,v,ofR S,v'])),some (.val (.str "either")),some (.own ((Str.ofString "either"::(wR R++ws)).map .str)),none]) (cK ?_) (kS ((cB ..).trans rfl) (ρ':=[some (.val (.tup [.str "either",ofR R,v,ofR S,v'])),some (.val (.str "either")),some (.own ((Str.ofString "either"::(wR R++ws++(wR S++ws'))).map .str)),none]) (cK ?_) (AM _ _ _ _ _)))))
  ·refine jl (acc:=[Str.ofString "either"]) (a:=wR R) (b:=ws) rfl ?_ ?_ (by simp only[length_singleton];omega)
   ·exact bi (v:=ofR R) (λi z=>by cases z) (by simp[ev,place]) (jQ n R hR)
   ·exact bi (v:=v) (λi z=>by cases z) (by simp[ev,place]) (ih (by omega) (n+1) (by omega))
  ·have q:=jl (cal:=aa defs (n+1)) (ρ:=[some (.val (.tup [.str "either",ofR R,v,ofR S,v'])),some (.val (.str "either")),some (.own ((Str.ofString "either"::(wR R++ws)).map .str)),none]) (e:=.call 27 [(.idx (.bor 0) (.cst (.int 3)))]) (e':=.call 29 [(.idx (.bor 0) (.cst (.int 4)))]) (acc:=Str.ofString "either"::(wR R++ws)) (a:=wR S) (b:=ws') rfl
    (bi (v:=ofR S) (λi z=>by cases z) (by simp[ev,place]) (jQ n S hS)) (bi (v:=v') (λi z=>by cases z) (by simp[ev,place]) (ih' (by omega) (n+1) (by omega))) (by simp only[length_cons,length_append];omega)
   rw[append_assoc]at q;exact q
theorem xc1{cal:Cal}{f:Nat}{ns q:List Int}{v:PV}{r:Rho}(h:cal (f+2000) [.mutD (.p ns)]=some (.tup [v,.dI (.p q)])):evX cal (.call f [true] [.bor 0]) (some (.mutD (.p ns))::r)=some (v,some (.mutD (.p q))::r):=by
 simp[evX,jB,evM,cG,h,fb,b_]
theorem xc2{cal:Cal}{f:Nat}{ns q:List Int}{v w:PV}{e:ME}{r:Rho}(z:evA cal [e] (some (.mutD (.p ns))::r)=some [.val w])(h:cal (f+2000) [.mutD (.p ns),.val w]=some (.tup [v,.dI (.p q)])):evX cal (.call f [true,false] [.bor 0,e]) (some (.mutD (.p ns))::r)=some (v,some (.mutD (.p q))::r):=by
 simp[evX,jB,evM,cG,z,h,fb,b_]
theorem xc3{cal:Cal}{f:Nat}{ns q:List Int}{v w w':PV}{e e':ME}{r:Rho}(D:evA cal [e] (some (.mutD (.p ns))::r)=some [.val w])(z:evA cal [e'] (some (.mutD (.p ns))::r)=some [.val w'])(h:cal (f+2000) [.mutD (.p ns),.val w,.val w']=some (.tup [v,.dI (.p q)])):evX cal (.call f [true,false,false] [.bor 0,e,e']) (some (.mutD (.p ns))::r)=some (v,some (.mutD (.p q))::r):=by
 simp[evX,jB,evM,cG,D,z,h,fb,b_]
theorem fk{cal:Cal}{e:ME}{ρ:Rho}{v:PV}{ms:List MS}(h:ev cal e ρ=some v):exs cal (.retM e::ms) ρ=.retM v ρ:=by
 rw[ba,ex,h];rfl
theorem dc{cal:Cal}{x:XE}{ρ ρ':Rho}{v:PV}{ms:List MS}(h:evX cal x ρ=some (v,ρ')):exs cal (.retXE x::ms) ρ=.retM v ρ':=by
 rw[ba,ex,h];rfl
theorem eO{cal:Cal}{c:ME}{a ms:List MS}{ρ:Rho}{r:R}(h:ev cal c ρ=some (.bl false))(k:exs cal ms ρ=r):exs cal (.ite c a []::ms) ρ=r:=by
 rw[ba,cA h,if_neg (by decide),exs,cV,k]
theorem fV{cal:Cal}{c:ME}{a b ms:List MS}{ρ ρ':Rho}{v:PV}(h:ev cal c ρ=some (.bl true))(k:exs cal a ρ=.retM v ρ'):exs cal (.ite c a b::ms) ρ=.retM v ρ':=by
 rw[ba,cA h,if_pos rfl,k];rfl
theorem eM{cal:Cal}{i:Nat}{x:XE}{ρ ρ':Rho}{v:PV}{ms:List MS}{r:R}(h:evX cal x ρ=some (v,ρ'))(k:exs cal ms (put ρ' i (.val v))=r):exs cal (.setX i x::ms) ρ=r:=by
 rw[ba,ex,h];exact k
noncomputable def jm(cal:Cal):Prop:=∀ns,∃(x:Int) (q:List Int),0<=x/\cal (22+2000) [.mutD (.p ns)]=some (.tup [.int x,.dI (.p q)])
theorem kT(n:Nat):jm (aa defs (n+2)):=λns=>by
 rw[fF (d:=eK) (by decide) rfl rfl];by_cases q:ns=[]
 ·subst q;refine⟨0,[],Int.le_refl _,?_⟩;have e:exs (aa defs (n+1)) eK.body [some (.mutD (.p []))]=.retM (.int 0) [some (.mutD (.p []))]:=eO (by simp[ev,pZ]) (fk (by simp[ev]));show iN _ (exs _ _ [some (.mutD (.p []))])=_;rw[e];simp[iN,bG]
 ·obtain⟨l,x,rfl⟩:∃l x,ns=l ++ [x]:=⟨ns.dropLast,ns.getLast q,(dropLast_concat_getLast q).symm⟩;refine⟨oN x 2049848353892358983,l,m6 _ _,?_⟩;have z:=xQ n x 2049848353892358983;have e:exs (aa defs (n+1)) eK.body [some (.mutD (.p (l ++ [x])))]=.retM (.int (oN x 2049848353892358983)) [some (.mutD (.p l))]:=fV (by simp[ev,pZ]) (dc (by simp[evX,wO,cG,b_,evA,ev,z]));show iN _ (exs _ _ [some (.mutD (.p (l ++ [x])))])=_;rw[e];simp[iN,bG]
theorem CS{cal:Cal}{g:Nat}{x:XE}{ρ ρ':Rho}{v w:PV}(h:evX cal x ρ=some (v,ρ'))(h':cal g [.val v]=some w):evX cal (.fn g x []) ρ=some (w,ρ'):=by
 rw[evX,h,bind_some];simp[evA,h']
theorem nh{cal:Cal}{x:XE}{ρ ρ':Rho}{y m:Int}(h:evX cal x ρ=some (.int y,ρ'))(q:0<m):evX cal (.bin .mod x (.cst (.int m))) ρ=some (.int (y % m),ρ'):=by
 rw[evX,h,bind_some];simp[ev,q]
theorem dW{cal:Cal}{e:ME}{xs:List XE}{ρ ρ':Rho}{v:PV}{vs:List PV}(h:ev cal e ρ=some v)(k:evXs cal xs ρ=some (vs,ρ')):evXs cal (.pure e::xs) ρ=some (v::vs,ρ'):=by
 rw[evXs,evX,h,map_some,bind_some,k];rfl
theorem iQ{cal:Cal}{x:XE}{ρ ρ':Rho}{v:PV}(h:evX cal x ρ=some (v,ρ')):evXs cal [x] ρ=some ([v],ρ'):=by
 rw[evXs,h,bind_some,evXs];rfl
theorem kU{cal:Cal}{xs:List XE}{ρ ρ':Rho}{vs:List PV}(h:evXs cal xs ρ=some (vs,ρ'))(q:vs.length<=10000:=by simp):evX cal (.tup xs) ρ=some (.tup vs,ρ'):=by
 rw[evX,h,bind_some,if_pos q]
theorem vH(cal:Cal)(a0 a1 a2 a3:Option MV):∀(xs:List PV) (left:Int) (acc:List Int) (j:Option MV),acc.length+xs.length<=1000->(∀i∈acc,Sm i)/\acc.Nodup ->
  ∃(left':Int) (acc':List Int) (j':Option MV),a9 (λx ρ'=>exs cal bv (put ρ' 6 (.val x))) xs [a0,a1,a2,a3,some (.val (.int left)),some (.own (acc.map .int)),j]=.next [a0,a1,a2,a3,some (.val (.int left')),some (.own (acc'.map .int)),j']/\acc'.length<=acc.length+xs.length/\(∀i∈acc',Sm i)/\acc'.Nodup
 | [],left,acc,j,_,hs=>⟨left,acc,j,rfl,Nat.le_refl _,hs⟩
 | x::xs,left,acc,j,hl,hs=>by
  simp only[length_cons]at hl;rw[a9];have sm:Sm (left / 60 % 60):=⟨Int.emod_nonneg _ (by decide),Int.emod_lt_of_pos _ (by decide)⟩;have e:exs cal bv (put [a0,a1,a2,a3,some (.val (.int left)),some (.own (acc.map .int)),j] 6 (.val x)) =
    .next [a0,a1,a2,a3,some (.val (.int (left / 60))),some (.own ((if left / 60 % 60∈acc then acc else acc ++ [left / 60 % 60]).map .int)),some (.val x)]:=by
   by_cases q:left / 60 % 60∈acc
   ·simp[bv,exs,ex,ev,evs,evB,jg,q]
   ·have hlt:acc.length<10000:=by omega
    simp[bv,exs,ex,ev,evs,evB,jg,q,hlt]
  rw[e];obtain⟨l',a',j',e2,h2,h3⟩:=vH cal a0 a1 a2 a3 xs (left / 60) (if left / 60 % 60∈acc then acc else acc ++ [left / 60 % 60]) (some (.val x)) (by
   split
   ·omega
   ·rw[length_append,length_singleton];omega) (by
   split
   ·exact hs
   ·rename_i q;refine⟨λi hi=>?_,nodup_append.mpr ⟨hs.2,nodup_cons.mpr ⟨not_mem_nil,nodup_nil⟩,λa ha b hb z=>?_⟩⟩
    ·rcases mem_append.mp hi with hi|hi
     ·exact hs.1 i hi
     ·rw[mem_singleton.mp hi];exact sm
    ·rw[mem_singleton.mp hb]at z;exact q (z ▸ ha))
  refine⟨l',a',j',e2,?_,h3⟩;rw[length_cons];split at h2
  ·omega
  ·rw[length_append,length_singleton]at h2;omega
theorem jR{j:Int}(h0:0<=j)(h1:j<1000):∃xs:List PV,bc .rng [.int j]=some xs/\xs.length=j.toNat:=by
 refine⟨_,ia (by omega) (by omega),?_⟩;simp
theorem vI(cal:Cal)(hx:jm cal)(a1:Option MV):∀(xs:List PV) (ns:List Int) (R:List (List Int)) (a3 a4 a5 a6:Option MV),R.length+xs.length<=60->(∀t∈R,t.length<=4)->(∀t∈R,vD t) ->
  ∃(ns':List Int) (R':List (List Int)) (b3 b4 b5 b6:Option MV),a9 (λx ρ'=>exs cal b7 (put ρ' 3 (.val x))) xs [some (.mutD (.p ns)),a1,some (.own (R.map ofS)),a3,a4,a5,a6]=.next [some (.mutD (.p ns')),a1,some (.own (R'.map ofS)),b3,b4,b5,b6]/\R'.length<=R.length+xs.length/\(∀t∈R',t.length<=4)/\∀t∈R',vD t
 | [],ns,R,a3,a4,a5,a6,_,h1,h2=>⟨ns,R,a3,a4,a5,a6,rfl,Nat.le_refl _,h1,h2⟩
 | x::xs,ns,R,a3,a4,a5,a6,hl,h1,h2=>by
  simp only[length_cons]at hl;rw[a9];obtain⟨y,ns1,hy,e1⟩:=hx ns;obtain⟨zs,e2,hz⟩:=jR (j:=y % 5) (Int.emod_nonneg _ (by decide)) (Int.lt_trans (Int.emod_lt_of_pos _ (by decide)) (by decide));have hz4:zs.length<=4:=by have:=Int.emod_lt_of_pos y (show(0:Int)<5 by decide);have:=Int.emod_nonneg y (show(5:Int)≠0 by decide);omega
  obtain⟨l',acc,j',e3,hl3,hs3⟩:=vH cal (some (.mutD (.p ns1))) a1 (some (.own (R.map ofS))) (some (.val x)) zs y [] a6 (by simp only[length_nil];omega) ⟨λi hi=>(by cases hi),nodup_nil⟩;simp only[length_nil,Nat.zero_add]at hl3;simp only[map_nil]at e3;have hacc:acc.length<64:=by omega
  have hR:R.length<10000:=by omega
  have e:exs cal b7 (put [some (.mutD (.p ns)),a1,some (.own (R.map ofS)),a3,a4,a5,a6] 3 (.val x))=.next [some (.mutD (.p ns1)),a1,some (.own ((R ++ [sortI acc]).map ofS)),some (.val x),some (.val (.int l')),some (.own (acc.map .int)),j']:=by
   simp only[aD,aE,b7];refine eM (xc1 e1) ?_;simp only[aD,aE];refine fj (dq (xs:=[]) (by simp[ev,evs])) ?_;simp only[aD,aE];refine fj (ρ':=[some (.mutD (.p ns1)),a1,some (.own (R.map ofS)),some (.val x),some (.val (.int l')),some (.own (acc.map .int)),j']) ?_ (cK ?_)
   ·rw[gG (xs:=zs) (by rw[evs,show ev cal (.bin .mod (.bor 4) (.cst (.int 5))) [some (.mutD (.p ns1)),a1,some (.own (R.map ofS)),some (.val x),some (.val (.int y)),some (.own []),a6]=some (.int (y % 5)) from by simp[ev]];simp only[evs,bind_some,map_some];exact e2)];rw[show ∀ρ,bq [ME.bin .mod (.bor 4) (.cst (.int 5))] ρ=ρ from λ_=>rfl];rw[e3]
    rfl
   ·rw[ex,show ev cal (.blt .tupleOf [(.blt .sorted [(.bor 5)])]) [some (.mutD (.p ns1)),a1,some (.own (R.map ofS)),some (.val x),some (.val (.int l')),some (.own (acc.map .int)),j']=some (ofS (sortI acc)) from by simp[ev,evs,sV hacc,ofL,ofS]];simp[hR]
  rw[e];obtain⟨ns',R',b3,b4,b5,b6,e4,h5,h6,h7⟩:=vI cal hx a1 xs ns1 (R ++ [sortI acc]) (some (.val x)) (some (.val (.int l'))) (some (.own (acc.map .int))) j' (by rw[length_append,length_singleton];omega) (λt ht=>by
   rcases mem_append.mp ht with ht|ht
   ·exact h1 t ht
   ·rw[mem_singleton.mp ht,sortI_len];omega) (λt ht=>by
   rcases mem_append.mp ht with ht|ht
   ·exact h2 t ht
   ·rw[mem_singleton.mp ht];exact⟨vB hs3.2,λi hi=>by have:=hs3.1 i (sX.mp hi);unfold Sm at this;omega⟩)
  refine⟨ns',R',b3,b4,b5,b6,e4,?_,h6,h7⟩;rw[length_append,length_singleton]at h5;rw[length_cons];omega
noncomputable def ni(cal:Cal):Prop:=∀(ns:List Int) (m:Int),0<m->m<=5->∃R q,cal (23+2000) [.mutD (.p ns),.val (.int m)]=some (.tup [ofR R,.dI (.p q)])/\ROk R
theorem gr(n:Nat):ni (aa defs (n+3)):=λns m Y a0=>by
 rw[fF (d:=cN) (by decide) rfl rfl];obtain⟨y,D,hy,e1⟩:=kT n ns;have y0:0<=y % m:=Int.emod_nonneg _ (by omega);have y1:y % m<m:=Int.emod_lt_of_pos _ Y;obtain⟨zs,e2,hz⟩:=jR (j:=y % m) y0 (by omega);obtain⟨z,R,Z,b4,b5,b6,e3,h1,h2,h3⟩:=vI (aa defs (n+2)) (kT n) (some (.val (.int m))) zs D [] none none none none (by simp only[length_nil];omega) (λt q=>by cases q) (λt q=>by cases q);simp only[length_nil,Nat.zero_add]at h1;have hR:R.length<=4:=by omega
 have J:R.length<64:=by omega
 refine⟨sortT R,z,?_,⟨by rw[l9];exact hR,λt q=>h2 t (jh.mp q),λt q i hi=>by have:=(h3 t (jh.mp q)).2 i hi;unfold Sm;omega,λt q=>h3 t (jh.mp q),sortT_rises _,by rw[l9];omega⟩⟩;have e:exs (aa defs (n+2)) cN.body [some (.mutD (.p ns)),some (.val (.int m)),none,none,none,none,none]=.retM (ofR (sortT R)) [some (.mutD (.p z)),some (.val (.int m)),some (.own (R.map ofS)),Z,b4,b5,b6]:=by
  refine fj (dq (xs:=[]) (by simp[ev,evs])) ?_;simp only[aD,aE];refine fj (ρ':=[some (.mutD (.p z)),some (.val (.int m)),some (.own (R.map ofS)),Z,b4,b5,b6]) ?_ (fk ?_)
  ·have U:evX (aa defs (n+2)) (.bin .mod (.call 22 [true] [(.bor 0)]) (.bor 1)) [some (.mutD (.p ns)),some (.val (.int m)),some (.own []),none,none,none,none]=some (.int (y % m),[some (.mutD (.p D)),some (.val (.int m)),some (.own []),none,none,none,none]):=by
    rw[evX,xc1 e1];simp[ev,Y]
   rw[ex,U];dsimp only;rw[e2];exact e3
  ·simp[ev,evs,l8 J,ofR]
 show iN _ (exs _ _ [some (.mutD (.p ns)),some (.val (.int m)),none,none,none,none,none])=_;rw[e];simp[iN,bG]
noncomputable def jS(cal:Cal):Prop:=∀x:Int,∃r,cal 24 [.val (.int x)]=some (vP r)/\∀i,r=some i->Sm i
theorem nj(n:Nat):jS (aa defs (n+1)):=λx=>by
 rw[aq (d:=bJ) rfl rfl];by_cases h:x % 4=0
 ·exact⟨none,by simp[bJ,exs,ex,ev,evs,evB,h,vP],λi e=>by cases e⟩
 ·refine⟨some (x / 4 % 60),by simp[bJ,exs,ex,ev,evs,evB,h,vP],λi e=>?_⟩;cases e;exact⟨Int.emod_nonneg _ (by decide),Int.emod_lt_of_pos _ (by decide)⟩
noncomputable def kW(cal:Cal)(d:Nat):Prop:=∀ns,∃v ws q,cal (26+2000) [.mutD (.p ns),.val (.int d)]=some (.tup [v,.dI (.p q)])/\Pap d v ws
noncomputable def qt(cal:Cal)(d:Nat):Prop:=∀ns (q:Int),∃v ws z,cal (25+2000) [.mutD (.p ns),.val (.int q),.val (.int d)]=some (.tup [v,.dI (.p z)])/\Pap (d+1) v ws
theorem AN(x:Int):Sm (x % 60):=⟨Int.emod_nonneg _ (by decide),Int.emod_lt_of_pos _ (by decide)⟩
theorem kX(cal:Cal)(hx:jm cal)(hy:jS cal){d:Nat}(hg:kW cal d)(pick:Int)(hp:pick % 2=0):∀(xs:List PV) (ns:List Int) (rows:List (Int×Option Int×PV×List Str)) (a4 a5 a6:Option MV),rows.length+xs.length<=60->(∀r∈rows,Sm r.1)->(∀r∈rows,∀i,r.2.1=some i->Sm i)->(∀r∈rows,Pap d r.2.2.1 r.2.2.2) ->
  ∃(ns':List Int) (rows':List (Int×Option Int×PV×List Str)) (b4 b5 b6:Option MV),a9 (λx ρ'=>exs cal aB (put ρ' 4 (.val x))) xs [some (.mutD (.p ns)),some (.val (.int pick)),some (.val (.int d)),some (.own (rows.map λr=>.tup [.int r.1,vP r.2.1,r.2.2.1])),a4,a5,a6]=.next [some (.mutD (.p ns')),some (.val (.int pick)),some (.val (.int d)),some (.own (rows'.map λr=>.tup [.int r.1,vP r.2.1,r.2.2.1])),b4,b5,b6]/\rows'.length<=rows.length+xs.length/\(∀r∈rows',Sm r.1)/\(∀r∈rows',∀i,r.2.1=some i->Sm i)/\∀r∈rows',Pap d r.2.2.1 r.2.2.2
 | [],ns,rows,a4,a5,a6,_,h1,h2,h3=>⟨ns,rows,a4,a5,a6,rfl,Nat.le_refl _,h1,h2,h3⟩
 | x::xs,ns,rows,a4,a5,a6,hl,h1,h2,h3=>by
  simp only[length_cons]at hl;rw[a9];obtain⟨y1,n1,_,e1⟩:=hx ns;obtain⟨y2,n2,_,e2⟩:=hx n1;obtain⟨r,e3,hr⟩:=hy y2;obtain⟨v,ws,n3,e4,hv⟩:=hg n2;have hlt:rows.length<10000:=by omega
  have e:exs cal aB (put [some (.mutD (.p ns)),some (.val (.int pick)),some (.val (.int d)),some (.own (rows.map λr=>.tup [.int r.1,vP r.2.1,r.2.2.1])),a4,a5,a6] 4 (.val x))=.next [some (.mutD (.p n3)),some (.val (.int pick)),some (.val (.int d)),some (.own ((rows ++ [(y1 % 60,r,v,ws)]).map λr=>.tup [.int r.1,vP r.2.1,r.2.2.1])),some (.val x),some (.val (.tup [.int (y1 % 60),vP r])),a6]:=by
   simp only[aD,aE,aB];refine cK ?_;rw[cA (p:=true) (by simp[ev,hp]),if_pos rfl];refine eM (v:=.tup [.int (y1 % 60),vP r]) (ρ':=[some (.mutD (.p n2)),some (.val (.int pick)),some (.val (.int d)),some (.own (rows.map λr=>.tup [.int r.1,vP r.2.1,r.2.2.1])),some (.val x),a5,a6]) ?_ ?_
   ·rw[evX,evXs,nh (xc1 e1) (by decide),bind_some,evXs,CS (xc1 e2) e3];simp[evXs]
   ·simp only[aD,aE];refine cK ?_;have q:evX cal (.tup [(.pure (.idx (.bor 5) (.cst (.int 0)))),(.pure (.idx (.bor 5) (.cst (.int 1)))),(.call 26 [true,false] [(.bor 0),(.bor 2)])]) [some (.mutD (.p n2)),some (.val (.int pick)),some (.val (.int d)),some (.own (rows.map λr=>.tup [.int r.1,vP r.2.1,r.2.2.1])),some (.val x),some (.val (.tup [.int (y1 % 60),vP r])),a6]=some (.tup [.int (y1 % 60),vP r,v],[some (.mutD (.p n3)),some (.val (.int pick)),some (.val (.int d)),some (.own (rows.map λr=>.tup [.int r.1,vP r.2.1,r.2.2.1])),some (.val x),some (.val (.tup [.int (y1 % 60),vP r])),a6]):=by
     exact kU (dW (by simp[ev,place]) (dW (by simp[ev,place]) (iQ (xc2 (w:=.int d) (by simp[evA]) e4))))
    rw[ex];simp only[getElem?_cons_zero,getElem?_cons_succ,Option.join];simp only[Option.bind,id,q];simp[hlt]
  rw[e];have mem:∀(P:(Int×Option Int×PV×List Str)->Prop),(∀r∈rows,P r)->P (y1 % 60,r,v,ws)->∀q∈rows ++ [(y1 % 60,r,v,ws)],P q:=λP hP h q hq=>by
   rcases mem_append.mp hq with hq|hq
   ·exact hP q hq
   ·rw[mem_singleton.mp hq];exact h
  obtain⟨ns',rows',b4,b5,b6,f1,f2,f3⟩:=kX cal hx hy hg pick hp xs n3 (rows ++ [(y1 % 60,r,v,ws)]) (some (.val x)) (some (.val (.tup [.int (y1 % 60),vP r]))) a6 (by rw[length_append,length_singleton];omega) (mem _ h1 (AN _)) (mem _ h2 hr) (mem _ h3 hv);refine⟨ns',rows',b4,b5,b6,f1,?_,f3⟩;rw[length_append,length_singleton]at f2;rw[length_cons];omega
theorem kY(cal:Cal)(hx:ni cal){d:Nat}(hg:kW cal d)(pick:Int)(hp:¬ pick % 2=0):∀(xs:List PV) (ns:List Int) (rows:List (List (List Int)×PV×List Str)) (a4 a5 a6:Option MV),rows.length+xs.length<=60->(∀r∈rows,ROk r.1)->(∀r∈rows,Pap d r.2.1 r.2.2) ->
  ∃(ns':List Int) (rows':List (List (List Int)×PV×List Str)) (b4 b5 b6:Option MV),a9 (λx ρ'=>exs cal aB (put ρ' 4 (.val x))) xs [some (.mutD (.p ns)),some (.val (.int pick)),some (.val (.int d)),some (.own (rows.map λr=>.tup [ofR r.1,r.2.1])),a4,a5,a6]=.next [some (.mutD (.p ns')),some (.val (.int pick)),some (.val (.int d)),some (.own (rows'.map λr=>.tup [ofR r.1,r.2.1])),b4,b5,b6]/\rows'.length<=rows.length+xs.length/\(∀r∈rows',ROk r.1)/\∀r∈rows',Pap d r.2.1 r.2.2
 | [],ns,rows,a4,a5,a6,_,h1,h3=>⟨ns,rows,a4,a5,a6,rfl,Nat.le_refl _,h1,h3⟩
 | x::xs,ns,rows,a4,a5,a6,hl,h1,h3=>by
  simp only[length_cons]at hl;rw[a9];obtain⟨R,n1,e1,hR⟩:=hx ns 4 (by decide) (by decide);obtain⟨v,ws,n3,e4,hv⟩:=hg n1;have hlt:rows.length<10000:=by omega
  have e:exs cal aB (put [some (.mutD (.p ns)),some (.val (.int pick)),some (.val (.int d)),some (.own (rows.map λr=>.tup [ofR r.1,r.2.1])),a4,a5,a6] 4 (.val x))=.next [some (.mutD (.p n3)),some (.val (.int pick)),some (.val (.int d)),some (.own ((rows ++ [(R,v,ws)]).map λr=>.tup [ofR r.1,r.2.1])),some (.val x),a5,some (.val (ofR R))]:=by
   simp only[aD,aE,aB];refine cK ?_;rw[cA (p:=false) (by simp[ev,hp]),if_neg (by decide)];refine eM (xc2 (w:=.int 4) (by simp[evA,ev]) e1) ?_;simp only[aD,aE];refine cK ?_;have q:evX cal (.tup [(.pure (.var 6)),(.call 26 [true,false] [(.bor 0),(.bor 2)])]) [some (.mutD (.p n1)),some (.val (.int pick)),some (.val (.int d)),some (.own (rows.map λr=>.tup [ofR r.1,r.2.1])),some (.val x),a5,some (.val (ofR R))]=some (.tup [ofR R,v],[some (.mutD (.p n3)),some (.val (.int pick)),some (.val (.int d)),some (.own (rows.map λr=>.tup [ofR r.1,r.2.1])),some (.val x),a5,some (.val (ofR R))]):=by
    exact kU (dW (by simp[ev]) (iQ (xc2 (w:=.int d) (by simp[evA]) e4)))
   rw[ex];simp only[getElem?_cons_zero,getElem?_cons_succ,Option.join];simp only[Option.bind,id,q];simp[hlt]
  rw[e];have mem:∀(P:(List (List Int)×PV×List Str)->Prop),(∀r∈rows,P r)->P (R,v,ws)->∀q∈rows ++ [(R,v,ws)],P q:=λP hP h q hq=>by
   rcases mem_append.mp hq with hq|hq
   ·exact hP q hq
   ·rw[mem_singleton.mp hq];exact h
  obtain⟨ns',rows',b4,b5,b6,f1,f2,f3⟩:=kY cal hx hg pick hp xs n3 (rows ++ [(R,v,ws)]) (some (.val x)) a5 (some (.val (ofR R))) (by rw[length_append,length_singleton];omega) (mem _ h1 hR) (mem _ h3 hv);refine⟨ns',rows',b4,b5,b6,f1,?_,f3⟩;rw[length_append,length_singleton]at f2;rw[length_cons];omega
theorem AO(n:Nat){d:Nat}(hx:jm (aa defs n))(hr:ni (aa defs n))(hy:jS (aa defs n))(hg:kW (aa defs n) d):qt (aa defs (n+1)) d:=λns z=>by
 rw[fF (d:=bS) (by decide) rfl rfl];have y0:0<=z / 2 % 4:=Int.emod_nonneg _ (by decide);have y1:z / 2 % 4<4:=Int.emod_lt_of_pos _ (by decide);obtain⟨zs,e2,hz⟩:=jR (j:=z / 2 % 4) y0 (by omega);have a7:zs.length<=3:=by omega
 have lp:∀(f:List PV) (ρ:Rho) (D:List Int) (vs:List PV) (J U Y:Option MV),a9 (λx ρ'=>exs (aa defs n) aB (put ρ' 4 (.val x))) zs [some (.mutD (.p ns)),some (.val (.int z)),some (.val (.int d)),some (.own []),none,none,none]=.next [some (.mutD (.p D)),some (.val (.int z)),some (.val (.int d)),some (.own vs),J,U,Y] ->
   ex (aa defs n) (.for1 4 .rng [(.bin .mod (.bin .fdiv (.bor 1) (.cst (.int 2))) (.cst (.int 4)))] aB) [some (.mutD (.p ns)),some (.val (.int z)),some (.val (.int d)),some (.own []),none,none,none]=.next [some (.mutD (.p D)),some (.val (.int z)),some (.val (.int d)),some (.own vs),J,U,Y]:=λf ρ D vs J U Y h=>by
  rw[gG (xs:=zs) (by rw[evs,show ev (aa defs n) (.bin .mod (.bin .fdiv (.bor 1) (.cst (.int 2))) (.cst (.int 4))) [some (.mutD (.p ns)),some (.val (.int z)),some (.val (.int d)),some (.own []),none,none,none]=some (.int (z / 2 % 4)) from by simp[ev]];simp only[evs,bind_some,map_some];exact e2)];rw[show ∀ρ,bq [ME.bin .mod (.bin .fdiv (.bor 1) (.cst (.int 2))) (.cst (.int 4))] ρ=ρ from λ_=>rfl,h]
  rfl
 have fin:∀(k:String) (D:List Int) (vs:List PV) (J U Y:Option MV),(["cases","parts"][(z % 2).toNat]?=some k)->a9 (λx ρ'=>exs (aa defs n) aB (put ρ' 4 (.val x))) zs [some (.mutD (.p ns)),some (.val (.int z)),some (.val (.int d)),some (.own []),none,none,none]=.next [some (.mutD (.p D)),some (.val (.int z)),some (.val (.int d)),some (.own vs),J,U,Y] ->
   iN [.mutD (.p ns),.val (.int z),.val (.int d)] (exs (aa defs n) bS.body [some (.mutD (.p ns)),some (.val (.int z)),some (.val (.int d)),none,none,none,none])=some (.tup [.tup [.str k,.tup vs],.dI (.p D)]):=λk D vs J U Y hk h=>by
  have e:exs (aa defs n) bS.body [some (.mutD (.p ns)),some (.val (.int z)),some (.val (.int d)),none,none,none,none]=.retM (.tup [.str k,.tup vs]) [some (.mutD (.p D)),some (.val (.int z)),some (.val (.int d)),some (.own vs),J,U,Y]:=by
   refine fj (dq (xs:=[]) (by simp[ev,evs])) ?_;simp only[aD,aE];refine fj (lp [] [] D vs J U Y h) (fk ?_);have p0:0<=z % 2:=Int.emod_nonneg _ (by decide);have p1:z % 2<2:=Int.emod_lt_of_pos _ (by decide);rcases(show z % 2=0\/z % 2=1 by omega) with q|q<;>rw[q]at hk<;>cases hk<;>simp[ev,evs,q,place]
  rw[e];simp[iN,bG]
 by_cases Z:z % 2=0
 ·obtain⟨D,rows,J,U,Y,f1,f2,f3,f4,f5⟩:=kX (aa defs n) hx hy hg z Z zs ns [] none none none (by simp only[length_nil];omega) (λr h=>by cases h) (λr h=>by cases h) (λr h=>by cases h);refine⟨_,_,D,fin "cases" D _ J U Y (by rw[Z];rfl) f1,.cases rows (by simp only[length_nil]at f2;omega) f3 f4 f5⟩
 ·obtain⟨D,rows,J,U,Y,f1,f2,f3,f4⟩:=kY (aa defs n) hr hg z Z zs ns [] none none none (by simp only[length_nil];omega) (λr h=>by cases h) (λr h=>by cases h);refine⟨_,_,D,fin "parts" D _ J U Y (by rw[show z % 2=1 by omega];rfl) f1,.parts rows (by simp only[length_nil]at f2;omega) f3 f4⟩
theorem kZ(cal:Cal)(hx:jm cal)(a1 a2 a3 a6 a7 a8:Option MV):∀(xs:List PV) (ns:List Int) (ps:List (Int×Int)) (a5:Option MV),ps.length+xs.length<=60->(∀p∈ps,Sm p.1)->(∀p∈ps,Sm p.2) ->
  ∃(ns':List Int) (ps':List (Int×Int)) (b5:Option MV),a9 (λx ρ'=>exs cal eZ (put ρ' 5 (.val x))) xs [some (.mutD (.p ns)),a1,a2,a3,some (.own (ps.map λp=>.tup [.int p.1,.int p.2])),a5,a6,a7,a8]=.next [some (.mutD (.p ns')),a1,a2,a3,some (.own (ps'.map λp=>.tup [.int p.1,.int p.2])),b5,a6,a7,a8]/\ps'.length<=ps.length+xs.length/\(∀p∈ps',Sm p.1)/\∀p∈ps',Sm p.2
 | [],ns,ps,a5,_,h1,h2=>⟨ns,ps,a5,rfl,Nat.le_refl _,h1,h2⟩
 | x::xs,ns,ps,a5,hl,h1,h2=>by
  simp only[length_cons]at hl;rw[a9];obtain⟨y1,n1,_,e1⟩:=hx ns;obtain⟨y2,n2,_,e2⟩:=hx n1;have hlt:ps.length<10000:=by omega
  have e:exs cal eZ (put [some (.mutD (.p ns)),a1,a2,a3,some (.own (ps.map λp=>.tup [.int p.1,.int p.2])),a5,a6,a7,a8] 5 (.val x))=.next [some (.mutD (.p n2)),a1,a2,a3,some (.own ((ps ++ [(y1 % 60,y2 % 60)]).map λp=>.tup [.int p.1,.int p.2])),some (.val x),a6,a7,a8]:=by
   simp only[aD,aE,eZ];refine cK ?_;have q:evX cal (.tup [(.bin .mod (.call 22 [true] [(.bor 0)]) (.cst (.int 60))),(.bin .mod (.call 22 [true] [(.bor 0)]) (.cst (.int 60)))]) [some (.mutD (.p ns)),a1,a2,a3,some (.own (ps.map λp=>.tup [.int p.1,.int p.2])),some (.val x),a6,a7,a8]=some (.tup [.int (y1 % 60),.int (y2 % 60)],[some (.mutD (.p n2)),a1,a2,a3,some (.own (ps.map λp=>.tup [.int p.1,.int p.2])),some (.val x),a6,a7,a8]):=by
    refine kU ?_;rw[evXs,nh (xc1 e1) (by decide),bind_some,iQ (nh (xc1 e2) (by decide))]
    rfl
   rw[ex];simp only[getElem?_cons_zero,getElem?_cons_succ,Option.join];simp only[Option.bind,id,q];simp[hlt]
  rw[e];have mem:∀(P:(Int×Int)->Prop),(∀r∈ps,P r)->P (y1 % 60,y2 % 60)->∀q∈ps ++ [(y1 % 60,y2 % 60)],P q:=λP hP h q hq=>by
   rcases mem_append.mp hq with hq|hq
   ·exact hP q hq
   ·rw[mem_singleton.mp hq];exact h
  obtain⟨ns',ps',b5,f1,f2,f3⟩:=kZ cal hx a1 a2 a3 a6 a7 a8 xs n2 (ps ++ [(y1 % 60,y2 % 60)]) (some (.val x)) (by rw[length_append,length_singleton];omega) (mem _ h1 (AN _)) (mem _ h2 (AN _));refine⟨ns',ps',b5,f1,?_,f3⟩;rw[length_append,length_singleton]at f2;rw[length_cons];omega
theorem vJ(n:Nat)(d:Nat)(hx:jm (aa defs n))(hr:ni (aa defs n))(hy:jS (aa defs n))(hs:∀e,d=e+1->kW (aa defs n) e/\qt (aa defs n) e):kW (aa defs (n+1)) d:=λns=>by
 rw[fF (d:=aX) (by decide) rfl rfl];obtain⟨z,n1,hp,e1⟩:=hx ns;obtain⟨kind,hk,ea,aO⟩:∃kind:Int,kind=(if d=0 then z % 4 else z % 9)/\(0<=kind/\kind<9)/\(d=0->kind<4):=by
  refine⟨_,rfl,?_,?_⟩
  ·split
   ·have:=Int.emod_lt_of_pos z (show(0:Int)<4 by decide);have:=Int.emod_nonneg z (show(4:Int)≠0 by decide);omega
   ·have:=Int.emod_lt_of_pos z (show(0:Int)<9 by decide);have:=Int.emod_nonneg z (show(9:Int)≠0 by decide);omega
  ·intro h;rw[if_pos h];exact Int.emod_lt_of_pos z (by decide)
 have a0:∀{r:R},exs (aa defs n) (aX.body.drop 3) [some (.mutD (.p n1)),some (.val (.int d)),some (.val (.int z)),some (.val (.int kind)),none,none,none,none,none]=r->exs (aa defs n) aX.body [some (.mutD (.p ns)),some (.val (.int d)),none,none,none,none,none,none,none]=r:=λ{r} h=>by
  refine eM (xc1 e1) ?_;simp only[aD,aE];refine CP (v:=.int (z % 9)) (by simp[ev]) ?_;simp only[aD,aE];refine fj (ρ':=[some (.mutD (.p n1)),some (.val (.int d)),some (.val (.int z)),some (.val (.int kind)),none,none,none,none,none]) ?_ h;by_cases hd:d=0
  ·subst hd;rw[cA (p:=true) (by simp[ev]),if_pos rfl];refine cK ?_;rw[m7 (v:=.int (z % 4)) (by simp[ev])];simp[hk]
  ·rw[cA (p:=false) (by simp[ev];omega),if_neg (by decide)];rw[hk,if_neg hd]
   rfl
 have fin:∀(v:PV) (ws:List Str) (D:List Int) (a1 a2 a3 a4 a5 a6 a7 a8:Option MV),exs (aa defs n) (aX.body.drop 3) [some (.mutD (.p n1)),some (.val (.int d)),some (.val (.int z)),some (.val (.int kind)),none,none,none,none,none]=.retM v [some (.mutD (.p D)),a1,a2,a3,a4,a5,a6,a7,a8]->Pap d v ws->∃v ws D,iN [.mutD (.p ns),.val (.int d)] (exs (aa defs n) aX.body [some (.mutD (.p ns)),some (.val (.int d)),none,none,none,none,none,none,none])=some (.tup [v,.dI (.p D)])/\Pap d v ws:=λv ws D a1 a2 a3 a4 a5 a6 a7 a8 h U=>by
  refine⟨v,ws,D,?_,U⟩;rw[a0 h];simp[iN,bG]
 show ∃v ws D,iN [.mutD (.p ns),.val (.int d)] (exs (aa defs n) aX.body [some (.mutD (.p ns)),some (.val (.int d)),none,none,none,none,none,none,none])=some (.tup [v,.dI (.p D)])/\Pap d v ws;by_cases h3:kind<3
 ·rcases(show kind=0\/kind=1\/kind=2 by omega) with q|q|q
  ·exact fin _ _ _ _ _ _ _ _ _ _ _ (fV (by simp[ev,q]) (fk (v:=.tup [.str "bare"]) (by simp[ev,evs,q,place]))) (.leaf _ (.inl rfl))
  ·exact fin _ _ _ _ _ _ _ _ _ _ _ (fV (by simp[ev,q]) (fk (v:=.tup [.str "whole"]) (by simp[ev,evs,q,place]))) (.leaf _ (.inr (.inl rfl)))
  ·exact fin _ _ _ _ _ _ _ _ _ _ _ (fV (by simp[ev,q]) (fk (v:=.tup [.str "weight"]) (by simp[ev,evs,q,place]))) (.leaf _ (.inr (.inr rfl)))
 by_cases q3:kind=3
 ·have y0:0<=z / 9 % 4:=Int.emod_nonneg _ (by decide);have y1:z / 9 % 4<4:=Int.emod_lt_of_pos _ (by decide);obtain⟨zs,e2,hz⟩:=jR (j:=z / 9 % 4) y0 (by omega);have ed:zs.length<=3:=by omega
  obtain⟨D,ps,b5,f1,f2,f3,f4⟩:=kZ (aa defs n) hx (some (.val (.int d))) (some (.val (.int z))) (some (.val (.int kind))) none none none zs n1 [] none (by simp only[length_nil];omega) (λr h=>by cases h) (λr h=>by cases h);simp only[length_nil,Nat.zero_add,map_nil]at f1 f2;refine fin _ _ D (some (.val (.int d))) (some (.val (.int z))) (some (.val (.int kind))) (some (.own (ps.map λp=>.tup [.int p.1,.int p.2]))) b5 none none none (eO (by simp[ev,q3]) (fV (by simp[ev,q3]) (fj (dq (xs:=[]) (by simp[ev,evs])) ?_))) (.pairs ps (by omega) f3 f4);simp only[aD,aE];refine fj (ρ':=[some (.mutD (.p D)),some (.val (.int d)),some (.val (.int z)),some (.val (.int kind)),some (.own (ps.map λp=>.tup [.int p.1,.int p.2])),b5,none,none,none]) ?_ (fk (by simp[ev,evs,ofL]));rw[gG (xs:=zs) (by rw[evs,show ev (aa defs n) (.bin .mod (.bin .fdiv (.bor 2) (.cst (.int 9))) (.cst (.int 4))) [some (.mutD (.p n1)),some (.val (.int d)),some (.val (.int z)),some (.val (.int kind)),some (.own []),none,none,none,none]=some (.int (z / 9 % 4)) from by simp[ev]];simp only[evs,bind_some,map_some];exact e2)];rw[show ∀ρ,bq [ME.bin .mod (.bin .fdiv (.bor 2) (.cst (.int 9))) (.cst (.int 4))] ρ=ρ from λ_=>rfl,f1]
  rfl
 obtain⟨e,rfl⟩:∃e,d=e+1:=by
  refine⟨d-1,?_⟩;have:d≠0:=λh=>by have:=aO h;omega
  omega
 obtain⟨hg,hw⟩:=hs e rfl;have J:((e+1:Nat):Int)-1=(e:Int):=by omega
 have nn:∀{r:R},exs (aa defs n) (aX.body.drop 5) [some (.mutD (.p n1)),some (.val (.int (e+1:Nat))),some (.val (.int z)),some (.val (.int kind)),none,none,none,none,none]=r->exs (aa defs n) (aX.body.drop 3) [some (.mutD (.p n1)),some (.val (.int (e+1:Nat))),some (.val (.int z)),some (.val (.int kind)),none,none,none,none,none]=r:=λ{r} h=>eO (by simp[ev];omega) (eO (by simp[ev];omega) h)
 by_cases q4:kind=4\/kind=5
 ·obtain⟨v,ws,Y,Z,U⟩:=hg n1;obtain⟨r,e5,hr⟩:=hy (z / 9);have go:∀k:String,kind=4/\k="bite" \/ kind=5/\k="knot"->ev (aa defs n) (.idx (.lst [(.cst (.str "bite")),(.cst (.str "knot"))]) (.bin .sub (.bor 3) (.cst (.int 4)))) [some (.mutD (.p n1)),some (.val (.int (e+1:Nat))),some (.val (.int z)),some (.val (.int kind)),none,none,none,none,none]=some (.str k):=λk h=>by
   rcases h with ⟨a,rfl⟩|⟨a,rfl⟩<;>simp[ev,evs,a,place]
  have all:∀k:String,kind=4/\k="bite" \/ kind=5/\k="knot"->_:=λk h =>
   fin _ _ Y _ _ _ _ _ _ _ _ (nn (fV (by rcases q4 with q|q<;>simp[ev,q]) (dc (kU (dW (go k h) (dW (v:=vP r) (by simp[ev,evA,e5]) (iQ (xc2 (w:=.int e) (by simp[evA,ev,J]) Z)))))))) (.one (Str.ofString k) (by rcases h with ⟨_,rfl⟩|⟨_,rfl⟩;exact .inl rfl;exact .inr rfl) r hr U)
  rcases q4 with q|q
  ·exact all "bite" (.inl ⟨q,rfl⟩)
  ·exact all "knot" (.inr ⟨q,rfl⟩)
 have ao:∀{r:R},exs (aa defs n) (aX.body.drop 6) [some (.mutD (.p n1)),some (.val (.int (e+1:Nat))),some (.val (.int z)),some (.val (.int kind)),none,none,none,none,none]=r->exs (aa defs n) (aX.body.drop 3) [some (.mutD (.p n1)),some (.val (.int (e+1:Nat))),some (.val (.int z)),some (.val (.int kind)),none,none,none,none,none]=r:=λ{r} h=>nn (eO (by simp[ev,show kind≠4 by omega,show kind≠5 by omega]) h)
 by_cases q8:kind=8
 ·obtain⟨v,ws,Y,Z,U⟩:=hw n1 (z / 9);exact fin _ _ Y _ _ _ _ _ _ _ _ (ao (fV (by simp[ev,q8]) (dc (xc3 (w:=.int (z / 9)) (w':=.int e) (by simp[evA,ev]) (by simp[evA,ev,J]) Z)))) U
 have b3:∀{r:R},exs (aa defs n) (aX.body.drop 7) [some (.mutD (.p n1)),some (.val (.int (e+1:Nat))),some (.val (.int z)),some (.val (.int kind)),none,none,none,none,none]=r->exs (aa defs n) (aX.body.drop 3) [some (.mutD (.p n1)),some (.val (.int (e+1:Nat))),some (.val (.int z)),some (.val (.int kind)),none,none,none,none,none]=r:=λ{r} h=>ao (eO (by simp[ev];omega) h)
 obtain⟨Q,Y,Z,hR⟩:=hr n1 5 (by decide) (by decide);obtain⟨v,ws,n3,e5,U⟩:=hg Y;have sx:∀{r:R},exs (aa defs n) (aX.body.drop 9) [some (.mutD (.p n3)),some (.val (.int (e+1:Nat))),some (.val (.int z)),some (.val (.int kind)),none,none,some (.val (ofR Q)),some (.val v),none]=r->exs (aa defs n) (aX.body.drop 3) [some (.mutD (.p n1)),some (.val (.int (e+1:Nat))),some (.val (.int z)),some (.val (.int kind)),none,none,none,none,none]=r:=λ{r} h=>by
  refine b3 (eM (xc2 (w:=.int 5) (by simp[evA,ev]) Z) ?_);simp only[aD,aE];refine eM (xc2 (w:=.int e) (by simp[evA,ev,J]) e5) ?_;simp only[aD,aE];exact h
 by_cases q6:kind=6
 ·exact fin _ _ n3 _ _ _ _ _ _ _ _ (sx (fV (by simp[ev,q6]) (fk (v:=.tup [.str "fewer",ofR Q,v]) (by simp[ev,evs])))) (.fewer Q hR U)
 ·obtain⟨S,n4,e6,hS⟩:=hr n3 3 (by decide) (by decide);obtain⟨v',er,n5,e7,b6⟩:=hg n4;refine fin _ _ n5 (some (.val (.int (e+1:Nat)))) (some (.val (.int z))) (some (.val (.int kind))) none none (some (.val (ofR Q))) (some (.val v)) (some (.val (ofR S))) (sx (eO (by simp[ev,q6]) (eM (xc2 (w:=.int 3) (by simp[evA,ev]) e6) ?_))) (.either Q S hR hS U b6);simp only[aD,aE];exact dc (kU (dW (by simp[ev]) (dW (by simp[ev]) (dW (by simp[ev]) (dW (by simp[ev]) (iQ (xc2 (w:=.int e) (by simp[evA,ev,J]) e7)))))))
theorem CT(d:Nat):∀m:Nat,kW (aa defs (m+2*d+4)) d:=by
 induction d with
 |zero=>exact λm=>vJ (m+3) 0 (kT (m+1)) (gr m) (nj (m+2)) λe h=>by cases h
 | succ d ih =>
  intro m;have g:kW (aa defs (m+2*d+5)) d:=by
   have:=ih (m+1);rwa[show m+1+2*d+4=m+2*d+5 by omega]at this
  have r:qt (aa defs (m+2*d+5)) d:=AO (m+2*d+4) (kT (m+2*d+2)) (gr (m+2*d+1)) (nj (m+2*d+3)) (ih m);have:=vJ (m+2*d+5) (d+1) (kT (m+2*d+3)) (gr (m+2*d+2)) (nj (m+2*d+4)) λe h=>by
   cases h;exact⟨g,r⟩
  rwa[show m+2*(d+1)+4=m+2*d+5+1 by omega]
noncomputable abbrev Wk(w:Str):Prop:=w.length<=6/\32∉w.cps.toList
theorem sY{i:Int}(h:Sm i):Wk (ar i):=by
 have h0:=h.1;have h1:=h.2;obtain⟨n,rfl⟩:∃n:Nat,i=n:=⟨i.toNat,by omega⟩;have q:∀n:Fin 60,Wk (ar (n.val:Int)):=by decide
 exact q ⟨n,by omega⟩
theorem vK{n:Nat}(h:n<=4):Wk (ar (n:Int)):=sY ⟨by omega,by omega⟩
theorem w_P{r:Option Int}(h:∀i,r=some i->Sm i):Wk (wP r):=by
 cases r with
 |none=>decide
 |some i=>exact sY (h i rfl)
theorem w_R{R:List (List Int)}(h:ROk R):∀w∈wR R,Wk w:=by
 intro w hw;rcases mem_cons.mp hw with rfl|hw
 ·exact vK h.l
 ·obtain⟨l,z,hw⟩:=mem_flatten.mp hw;obtain⟨t,q,rfl⟩:=mem_map.mp z;rcases mem_cons.mp hw with rfl|hw
  ·exact vK (h.s t q)
  ·obtain⟨i,hi,rfl⟩:=mem_map.mp hw;exact sY (h.m t q i hi)
theorem qu{α:Type}{f:α->List Str}{rows:List α}(h:∀r∈rows,∀w∈f r,Wk w):∀w∈(rows.map f).flatten,Wk w:=by
 intro w hw;obtain⟨l,q,hw⟩:=mem_flatten.mp hw;obtain⟨r,z,rfl⟩:=mem_map.mp q;exact h r z w hw
theorem cU{x:Str}{ws:List Str}(h:Wk x)(k:∀w∈ws,Wk w):∀w∈x::ws,Wk w:=by
 intro w hw;rcases mem_cons.mp hw with rfl|hw
 ·exact h
 ·exact k w hw
theorem oZ{a b:List Str}(h:∀w∈a,Wk w)(k:∀w∈b,Wk w):∀w∈a++b,Wk w:=λw hw=>(mem_append.mp hw).elim (h w) (k w)
theorem yC:∀w∈([]:List Str),Wk w:=λw hw=>by cases hw
theorem vL{d:Nat}{v:PV}{ws:List Str}(h:Pap d v ws):∀w∈ws,Wk w:=by
 induction h with
 |leaf k z=>exact cU (by rcases z with rfl|rfl|rfl<;>decide) yC
 |pairs ps U h1 h2=>exact cU (by decide) (cU (vK (by omega)) (qu λp q=>cU (sY (h1 p q)) (cU (sY (h2 p q)) yC)))
 |one k z r Y h ih=>exact cU (by rcases z with rfl|rfl<;>decide) (cU (w_P Y) ih)
 |cases rows U h1 h2 h3 ih=>exact cU (by decide) (cU (vK (by omega)) (qu λp q=>cU (sY (h1 p q)) (cU (w_P (h2 p q)) (ih p q))))
 |parts rows U h1 h3 ih=>exact cU (by decide) (cU (vK (by omega)) (qu λp q=>oZ (w_R (h1 p q)) (ih p q)))
 |fewer R D h ih=>exact cU (by decide) (oZ (w_R D) ih)
 |either R S D Z h h' ih J=>exact cU (by decide) (oZ (oZ (w_R D) ih) (oZ (w_R Z) J))
theorem o6:∀ws:List Str,eh (ws.map .str)=some ws
 | []=>rfl
 |w::ws=>by rw[map_cons,eh,o6 ws];rfl
theorem AQ:∀{ws:List Str},(∀w∈ws,Wk w)->(ws.map λy=>y.length+1).sum<=7*ws.length
 | [],_=>Nat.le_refl _
 |w::ws,h=>by
  have h1:=(h w (.head _)).1;have h2:=AQ (ws:=ws) λx hx=>h x (.tail _ hx)
  rw[map_cons,sum_cons,length_cons];omega
theorem o7 {v:PV}{ws:List Str} (h:Pap 4 v ws):ye " " (lw ws)=some (.str (Builtin.Str.glued " " ws)):=by
 have h1:ws.length<=8060:=b9 h;have h2:=AQ (vL h);show(eh (ws.map .str)).bind _=_;rw[o6,bind_some];exact if_pos (Nat.le_trans h2 (by omega))
theorem xo{cal:Cal}{f:Nat}{ns q:List Int}{v:PV}{a:Option MV}{r:Rho}(h:cal (f+2000) [.mutD (.p ns),.val (.int 4)]=some (.tup [v,.dI (.p q)])):evX cal (.call f [true,false] [.bor 1,.cst (.int 4)]) (a::some (.ownD (.p ns))::r)=some (v,a::some (.ownD (.p q))::r):=by
 simp[evX,jB,evM,cG,evA,ev,h,fb,b_]
theorem vM:∀ns:List Int,bB (ns.map .int)=some ns
 | []=>rfl
 |n::ns=>by rw[map_cons,bB,vM ns];rfl
theorem CU{c:Nat}:∀{a b p q:List Nat},c∉a->c∉b->a++c::p=b++c::q->a=b/\p=q
 | [],[],_,_,_,_,h=>by cases h;exact⟨rfl,rfl⟩
 | [],y::b,_,_,_,D,h=>by
  rw[nil_append,cons_append]at h;cases h;exact absurd (.head _) D
 |x::a,[],_,_,J,_,h=>by
  rw[nil_append,cons_append]at h;cases h;exact absurd (.head _) J
 |x::a,y::b,p,q,J,D,h=>by
  rw[cons_append,cons_append]at h;obtain⟨e,h'⟩:=List.cons.inj h;obtain⟨U,Y⟩:=CU (λz=>J (.tail _ z)) (λz=>D (.tail _ z)) h';exact⟨by rw[e,U],Y⟩
theorem rG(c:Nat)(x y:Str)(r:List Str):(Str.join ⟨#[c]⟩ (x::y::r)).cps.toList=x.cps.toList++c::(Str.join ⟨#[c]⟩ (y::r)).cps.toList:=by
 show((x.cps ++ #[c])++(Str.join ⟨#[c]⟩ (y::r)).cps).toList=_;simp
theorem rH{x y:Str}(h:x.cps.toList=y.cps.toList):x=y:=by
 cases x;cases y
 congr 1
 exact Array.toList_inj.mp h
theorem o9{c:Nat}:∀{us vs:List Str},us≠[]->vs≠[]->(∀u∈us,c∉u.cps.toList)->(∀v∈vs,c∉v.cps.toList)->(Str.join ⟨#[c]⟩ us).cps.toList=(Str.join ⟨#[c]⟩ vs).cps.toList->us=vs
 | [],_,h,_,_,_,_=>absurd rfl h
 | _,[],_,h,_,_,_=>absurd rfl h
 | [x],[y],_,_,_,_,h=>by
  have h:x.cps.toList=y.cps.toList:=h;rw[rH h]
 | [x],y::z::r,_,_,hx,_,h=>by
  rw[rG]at h;have h:x.cps.toList=_:=h;exact absurd (by rw[h];simp) (hx x (.head _))
 |y::z::r,[x],_,_,_,hx,h=>by
  rw[rG]at h;have h:_=x.cps.toList:=h;exact absurd (by rw[<- h];simp) (hx x (.head _))
 |x::U::r,y::Y::q,_,_,hx,J,h=>by
  rw[rG,rG]at h;obtain⟨h1,h2⟩:=CU (hx x (.head _)) (J y (.head _)) h;have h3:=o9 (us:=U::r) (vs:=Y::q) (λz=>nomatch z) (λz=>nomatch z) (λu D=>hx u (.tail _ D)) (λu D=>J u (.tail _ D)) h2;rw[rH h1,h3]
theorem o_ {ws:List Str} (q:ws≠[]) (h:∀w∈ws,32∉w.cps.toList):Txt.split (Builtin.Str.glued " " ws) (" ":Str)=ws:=by
 have D:(" ":Str)=⟨#[32]⟩:=by decide
 rw[PySem.StrLaws.glued_eq_join,D];refine o9 (c:=32) (λz=>?_) q (PySem.StrLaws.split_free _ 32) h (by rw[PySem.StrLaws.join_split]);have e:=PySem.StrLaws.join_split (Str.join ⟨#[32]⟩ ws) ⟨#[32]⟩;rw[z]at e;rw[<- e]at z;revert z
 decide
noncomputable def jx(r:List Int):List Int:=sortI (dd r)
noncomputable def nk(R:List (List Int)):List (List Int):=sortT (R.map jx)
theorem dd_len(r:List Int)(h:∀x∈r,0<=x/\x<=59):(dd r).length<=60:=vE 60 (dd r) (dd_nodup r) λx hx=>by have:=h x (AK.mp hx);omega
theorem rJ(n:Nat)(i b:Int)(h:0<=i/\i<b):aa defs (n+1) 1 [.val (.int i),.val (.int b)]=some (.bl true):=by
 rw[aq (d:=b0) rfl rfl];simp[b0,exs,ex,ev,evs,evB,h.1,h.2]
theorem fW(n:Nat)(a:MV):∀(r:List Int) (kk:Option MV),(∀x∈r,0<=x/\x<=59) ->
  ∃kk',a9 (λx ρ'=>exs (aa defs (n+1)) da (put ρ' 1 (.val x))) (r.map .int) [some a,kk]=.next [some a,kk']
 | [],kk,_=>⟨kk,rfl⟩
 | t::r,kk,h=>by
  rw[map_cons,a9];have e:exs (aa defs (n+1)) da (put [some a,kk] 1 (.val (.int t)))=.next [some a,some (.val (.int t))]:=by
   simp[da,exs,ex,ev,evB,evA,rJ n t 60 ⟨(h t (.head _)).1,by have:=(h t (.head _)).2;omega⟩]
  rw[e];exact fW n a r _ λx hx=>h x (.tail _ hx)
theorem nq(n:Nat)(p:PV)(r:List Int)(q:p=ofL r\/p=ofS r)(h:∀x∈r,0<=x/\x<=59)(z:r.length<=1000):aa defs (n+2) 3 [.val p]=some (ofS (jx r)):=by
 rw[aq (d:=dS) rfl rfl];obtain⟨D,e⟩:=fW n (.val p) r none h;have hd:(dd r).length<64:=by have:=dd_len r h;omega
 rcases q with rfl|rfl<;>simp[dS,exs,ex,ev,evs,evB,bq,e,bF,gF,z,hd,jx]
theorem pd(n:Nat)(p:PV)(g:List Int->PV)(R:List (List Int))(J:g=ofL\/g=ofS)(D:p=.lst (R.map g)\/p=.tup (R.map g))(h:∀r∈R,(∀x∈r,0<=x/\x<=59)/\r.length<=1000)(Z:R.length<=60) :
  aa defs (n+3) 4 [.val p]=some (ofR (nk R)):=by
 rw[aq (d:=eW) rfl rfl];have h1:¬ (60:Int)<(R.length:Int):=by omega
 have h2:R.length<=10000:=by omega
 have U:bE p=some (R.map g):=by rcases D with rfl|rfl<;>rfl
 have Y:av .len [p]=some (.int R.length):=by rcases D with rfl|rfl<;>simp
 simp[eW,exs,ex,ev,evs,evB,U,Y,h1,h2];rw[h_ (h:=λr=>ofS (jx r))]
 ·have e:(R.map λc=>ofS (jx c))=(R.map jx).map ofS:=by rw[List.map_map];rfl
  have z:(R.map jx).length<64:=by rw[length_map];omega
  rw[e];simp[-List.map_map,l8 z,nk]
 ·intro c _;simp[ev]
 ·intro c hc;have q:=nq n (g c) c (by rcases J with rfl|rfl<;>simp) (h c hc).1 (h c hc).2;simp[ev,evA,fA,q]
noncomputable def shp(x:Str):Bool:=match x.cps.toList with
 | [c]=>decide (48<=c/\c<=57)
 | [c,d]=>decide (49<=c/\c<=57/\48<=d/\d<=57)
 | _=>false
theorem xV:∀n:Fin 61,shp (ar (n.val:Int))=true:=by decide +kernel
theorem fig {c:Nat} (h:48<=c/\c<=57):pX (.str ⟨#[c]⟩) (.str "0123456789")=some true:=by
 show some (!(Builtin.Str.occurrences _ _ 0 _ 1).isEmpty)=_;rw[PySem.StrLaws.found_one]
 congr 1
 refine decide_eq_true ?_;have:∀k:Fin 10,(48+k.val)∈("0123456789":Str).cps.toList:=by decide
 have:=this ⟨c-48,by omega⟩;rwa[show 48+(c-48)=c by omega]at this
theorem yD(cal:Cal){x:Str}{q:List Nat}{m:Int}(ex:x.cps.toList=q)(D:q.length=1\/q.length=2)(hd:∀c∈q,48<=c/\c<=57)(h0:q.length=2->q.head?≠some 48)(hi:intText? x=some m):bo (exs cal dw.body [some (.val (.str x))])=some (.int m):=by
 have hz:x.length=q.length:=by rw[<- ex,Array.length_toList];rfl
 have J:ev cal (.blt .len [.bor 0]) [some (.val (.str x))]=some (.int q.length):=by
  rw[aZ (v:=.str x) (by simp[ev])];show(if x.length<=1000 then _ else _)=_;rw[hz,if_pos (by omega)]
 have U:bc .chr [.str x]=some (q.map λc=>.str ⟨#[c]⟩):=by
  show(if x.cps.all (· < 128)=true then _ else _)=_;rw[if_pos,ex];rw[<- Array.all_toList,ex,List.all_eq_true];exact λc hc=>decide_eq_true (by have:=hd c hc;omega)
 have Y:ev cal (.comp .chr [(.bor 0)] [] (.cst (.bl true)) (.cmp .isIn (.bor 0) (.glob "FIGURES" (.str "0123456789")))) [some (.val (.str x))]=some (.lst (q.map λ_=>.bl true)):=by
  refine gH (vs:=[.str x]) (xs:=q) (g:=λc=>.str ⟨#[c]⟩) (by simp[evs,ev]) U (by omega) λc hc=>?_
  have f:=fig (hd c hc);simp[ev,fA,cc,f]
 have Z:ev cal (.blt .all [(.comp .chr [(.bor 0)] [] (.cst (.bl true)) (.cmp .isIn (.bor 0) (.glob "FIGURES" (.str "0123456789"))))]) [some (.val (.str x))]=some (.bl true):=by
  rw[aZ Y];rcases q with _|⟨a,_|⟨b,_|⟨c,q⟩⟩⟩<;>first|rfl|(simp at D;done)
 have eA:ev cal (.cmp .notIn (.blt .len [.bor 0]) (.tup [(.cst (.int 1)),(.cst (.int 2))])) [some (.val (.str x))]=some (.bl false):=by
  rw[ev,J];rcases D with D|D<;>rw[D]<;>rfl
 have eD:ev cal (.and (.cmp .eq (.blt .len [(.bor 0)]) (.cst (.int 2))) (.cmp .eq (.idx (.bor 0) (.cst (.int 0))) (.cst (.str "0")))) [some (.val (.str x))]=some (.bl false):=by
  rcases D with D|D
  ·rw[ev,ev,J,D]
   rfl
  ·obtain⟨c,r,rfl⟩:∃c r,q=c::r:=by
    cases q with
    |nil=>cases D
    |cons c r=>exact⟨c,r,rfl⟩
   have nz:((⟨#[c]⟩:Str)==("0":Str))=false:=by
    rw[beq_eq_false_iff_ne];intro z;have e:("0":Str)=⟨#[48]⟩:=by decide
    rw[e]at z;cases z;exact h0 D rfl
   have eI:ev cal (.idx (.bor 0) (.cst (.int 0))) [some (.val (.str x))]=some (.str ⟨#[c]⟩):=by
    rw[ev];show(some (PV.str x)).bind (λa=>(some (PV.int 0)).bind (kr a))=_;show(if x.length<=1000 then _ else _)=_;rw[if_pos (by omega),ex,D]
    rfl
   have e2:=qo (op:=.eq) eI (show ev cal (.cst (.str "0")) [some (.val (.str x))]=some (.str "0") from by rw[ev]);have e3:(cc .eq (.str ⟨#[c]⟩) (.str "0")).map PV.bl=some (.bl false):=by
    show(some ((⟨#[c]⟩:Str)==("0":Str))).map PV.bl=_;rw[nz]
    rfl
   rw[ev,e2,e3,ev,J,D]
   rfl
 refine fR (ρ':=[some (.val (.str x))]) ?_ (fR (ρ':=[some (.val (.str x))]) ?_ (gT ?_))
 ·rw[cA (p:=false) ?_,if_neg (by decide),exs];rw[ev,eA,ev,Z]
  rfl
 ·rw[cA (p:=false) eD,if_neg (by decide),exs]
 ·rw[aZ (v:=.str x) (by simp[ev])];show(if x.length<=640 then _ else _)=_;rw[hz,if_pos (by omega),hi]
  rfl
theorem sZ(n:Nat){i:Int}(h0:0<=i)(h1:i<=60):aa defs (n+1) 0 [.val (.str (ar i))]=some (.int i):=by
 obtain⟨m,rfl⟩:∃m:Nat,i=m:=⟨i.toNat,by omega⟩;rw[aq (d:=dw) rfl rfl];have q:=xV ⟨m,by omega⟩;have hi:intText? (ar (m:Int))=some (m:Int):=PySem.W.KIN.num_reads h0 (by omega);dsimp only at q;unfold shp at q;split at q
 ·rename_i c e;have h:=of_decide_eq_true q;exact yD _ e (.inl rfl) (λd hd=>by rw[mem_singleton.mp hd];exact h) (λz=>by cases z) hi
 ·rename_i c d e;have h:=of_decide_eq_true q;refine yD _ e (.inr rfl) (λa D=>?_) (λ_ z=>?_) hi
  ·simp only[mem_cons,not_mem_nil,or_false]at D;rcases D with rfl|rfl<;>omega
  ·cases z;omega
 ·cases q
theorem ic(n:Nat){i b:Int}(h0:0<=i)(h1:i<=60)(h2:i<b):aa defs (n+2) 11 [.val (.str (ar i)),.val (.int b)]=some (.int i):=by
 rw[aq (d:=db) rfl rfl];have q:=sZ n h0 h1;have z:=rJ n i b ⟨h0,h2⟩;simp[db,exs,ex,ev,evs,evB,evA,q,z]
noncomputable def RD(cal:Cal)(f:Nat)(es:List MV)(v:PV)(ws:List Str):Prop:=∀(W:List Str) (n:Nat) (r:List Str),W.drop n=ws++r->cal (f+2000) (.mutD (.w W n)::es)=some (.tup [v,.dI (.w W (n+ws.length))])
theorem gI(n:Nat):aa defs (n+5) 4000 []≠none:=by
 rw[aa,show defs[4000]?=none from rfl];dsimp only;rw[if_pos (by decide),if_pos rfl,if_pos (by omega)];exact λz=>nomatch z
theorem vN{W:List Str}{n:Nat}{x:Str}{r:List Str}(h:W.drop n=x::r):W[n]?=some x/\W.drop (n+1)=r:=by
 constructor
 ·have:=congrArg (λl=>l[0]?) h;simpa using this
 ·rw[<- drop_drop,h];rfl
theorem eN{W:List Str}{n:Nat}{a b:List Str}(h:W.drop n=a++b):W.drop (n+a.length)=b:=by
 rw[<- drop_drop,h,drop_left]
theorem xW{cal:Cal}(hc:cal 4000 []≠none){W:List Str}{n:Nat}{x:Str}{r:List Str}(h:W.drop n=x::r){ρ:Rho}:evX cal (.nextw 0) (some (.mutD (.w W n))::ρ)=some (.str x,some (.mutD (.w W (n+1)))::ρ):=by
 show kx cal 0 _=_;unfold kx;show(if cal 4000 []=none then none else (W[n]?).map _)=_;rw[if_neg hc,(vN h).1]
 rfl
theorem dJ{n f:Nat}{d:MD}{es:List MV}{v:PV}{ws:List Str}(z:f<1000)(hd:defs[f]?=some d)(D:es.length+1=d.params.length)(h:∀(W:List Str) (k:Nat) (r:List Str),W.drop k=ws++r->∃ρ,exs (aa defs n) d.body (some (.mutD (.w W k))::(es.map some++replicate (d.names.length-(es.length+1)) none))=.retM v (some (.mutD (.w W (k+ws.length)))::ρ)/\bG es ρ=some []):RD (aa defs (n+1)) f es v ws:=λW k r hw=>by
 have q:defs.length<=100:=by decide
 rw[fF (d:=d) (getElem?_eq_none (by omega)) hd (by simpa using D) z];obtain⟨ρ,e,J⟩:=h W k r hw;show iN _ (exs _ _ (some (.mutD (.w W k))::(es.map some++replicate (d.names.length-(es.length+1)) none)))=_;rw[e];show(bG (.mutD (.w W k)::es) _).map _=_;rw[bG,J]
 rfl
theorem rK(m:Nat){i:Int}(h:Sm i):RD (aa defs (m+6)) 12 [] (.int i) [ar i]:=
 dJ (d:=eX) (by decide) rfl rfl λW k r hw=>by
  refine⟨[],dc ?_,rfl⟩;rw[evX,show(map some ([]:List MV)++replicate (eX.names.length-(([]:List MV).length+1)) none)=[] from rfl,xW (gI m) hw];have e:=ic (m+3) (i:=i) (b:=60) h.1 (by have:=h.2;omega) h.2;simp[evA,ev,e]
theorem k7(m:Nat){k:Nat}(h:k<=60):RD (aa defs (m+6)) 14 [] (.int k) [ar k]:=
 dJ (d:=dU) (by decide) rfl rfl λW n r hw=>by
  refine⟨[],dc ?_,rfl⟩;rw[evX,show(map some ([]:List MV)++replicate (dU.names.length-(([]:List MV).length+1)) none)=[] from rfl,xW (gI m) hw];have e:=ic (m+3) (i:=k) (b:=61) (by omega) (by omega) (by omega);simp[evA,ev,e]
theorem vO(m:Nat){o:Option Int}(h:∀i,o=some i->Sm i):RD (aa defs (m+6)) 13 [] (vP o) [wP o]:=
 dJ (d:=fN) (by decide) rfl rfl λW k r hw=>by
  show ∃ρ,exs _ _ [some (.mutD (.w W k)),none]=_/\_;refine⟨[some (.val (.str (wP o)))],eM (xW (gI m) hw) (fk ?_),rfl⟩;cases o with
  |none=>simp[ev,aD,aE,wP,vP]
  | some i =>
   have hi:=h i rfl;have e:=ic (m+3) (i:=i) (b:=60) hi.1 (by have:=hi.2;omega) hi.2;have ne:((ar i)==("-":Str))=false:=by
    obtain⟨n,rfl⟩:∃n:Nat,i=n:=⟨i.toNat,by have:=hi.1;omega⟩;have q:∀n:Fin 60,((ar (n.val:Int))==("-":Str))=false:=by decide +kernel
    exact q ⟨n,by have:=hi.2;omega⟩
   simp[ev,aD,aE,wP,vP,ne,evA,e]
theorem goA{cal:Cal}{f:Nat}:∀(xs:List PV) (L:List (PV×List Str)),xs.length=L.length->(∀p∈L,RD cal f [] p.1 p.2)->∀(W:List Str) (n:Nat) (s:List Str) (r:Rho),W.drop n=(L.map (·.2)).flatten++s ->
  bn cal [0] .one (.cst .non) f [true] [.bor 1] xs (some (.mutD (.w W n))::r)=some (L.map (·.1),some (.mutD (.w W (n+(L.map (·.2)).flatten.length)))::r)
 | [],[],_,_,W,n,s,r,_=>by rw[bn];simp
 | [],_::_,h,_,_,_,_,_,_=>by cases h
 | _::_,[],h,_,_,_,_,_,_=>by cases h
 |x::xs,p::L,z,h,W,n,s,r,hw=>by
  rw[map_cons,flatten_cons,append_assoc]at hw;have e:=h p (.head _) W n _ hw;have D:=goA xs L (by simpa using z) (λq J=>h q (.tail _ J)) W (n+p.2.length) s r (eN hw);rw[bn];simp[ev,iz,p5,evM,cG,e,n_,su,fb,b_,D,Nat.add_assoc]
theorem goB{cal:Cal}{f:Nat}{k m:PV}:∀(xs:List PV) (L:List (PV×List Str)),xs.length=L.length->(∀p∈L,RD cal f [.val k,.val m] p.1 p.2)->∀(W:List Str) (n:Nat) (s:List Str) (r:Rho),W.drop n=(L.map (·.2)).flatten++s ->
  bn cal [0,1,2] .one (.cst .non) f [true,false,false] [.bor 1,.bor 2,.bor 3] xs (some (.mutD (.w W n))::some (.val k)::some (.val m)::r)=some (L.map (·.1),some (.mutD (.w W (n+(L.map (·.2)).flatten.length)))::some (.val k)::some (.val m)::r)
 | [],[],_,_,W,n,s,r,_=>by rw[bn];simp
 | [],_::_,h,_,_,_,_,_,_=>by cases h
 | _::_,[],h,_,_,_,_,_,_=>by cases h
 |x::xs,p::L,z,h,W,n,s,r,hw=>by
  rw[map_cons,flatten_cons,append_assoc]at hw;have e:=h p (.head _) W n _ hw;have D:=goB xs L (by simpa using z) (λq J=>h q (.tail _ J)) W (n+p.2.length) s r (eN hw);rw[bn];simp[ev,iz,p5,evM,evA,cG,e,n_,su,fb,b_,D,Nat.add_assoc]
theorem goC{cal:Cal}{f:Nat}{m:PV}:∀(L:List (PV×PV×List Str)),(∀p∈L,RD cal f [.val p.1,.val m] p.2.1 p.2.2)->∀(W:List Str) (n:Nat) (s:List Str) (a:Option MV) (r:Rho),W.drop n=(L.map (·.2.2)).flatten++s ->
  bn cal [0,2] .one (.cst .non) f [true,false,false] [.bor 1,.bor 0,.bor 2] (L.map (·.1)) (some (.mutD (.w W n))::a::some (.val m)::r)=some (L.map (·.2.1),some (.mutD (.w W (n+(L.map (·.2.2)).flatten.length)))::a::some (.val m)::r)
 | [],_,W,n,s,a,r,_=>by rw[map_nil,bn];simp
 |p::L,h,W,n,s,a,r,hw=>by
  rw[map_cons,flatten_cons,append_assoc]at hw;have e:=h p (.head _) W n _ hw;have z:=goC L (λq D=>h q (.tail _ D)) W (n+p.2.2.length) s a r (eN hw);rw[map_cons,bn];simp[ev,iz,p5,evM,evA,cG,e,n_,su,fb,b_,z,Nat.add_assoc]
theorem CV(k:Nat)(h:k<=60):∃xs:List PV,bc .rng [.int (k:Int)]=some xs/\xs.length=k:=by
 refine⟨_,ia (by omega) (by omega),?_⟩;simp
theorem xw1{cal:Cal}{f:Nat}{W:List Str}{n n':Nat}{v:PV}{r:Rho}(h:cal (f+2000) [.mutD (.w W n)]=some (.tup [v,.dI (.w W n')])):evX cal (.call f [true] [.bor 0]) (some (.mutD (.w W n))::r)=some (v,some (.mutD (.w W n'))::r):=by
 simp[evX,jB,evM,cG,h,fb,b_]
theorem qv{cal:Cal}{f g:Nat}{js:List Nat}{q:List Bool}{es:List ME}{W:List Str}{n n':Nat}{k:Nat}{vs:List PV}{r:Rho}(z:k<=60)(h:cal (f+2000) [.mutD (.w W n)]=some (.tup [.int (k:Int),.dI (.w W (n+1))]))(Y:vs.length<=10000)
  (D:∀xs:List PV,xs.length=k->bn cal js .one (.cst .non) g q es xs (some (.mutD (.w W (n+1)))::r)=some (vs,some (.mutD (.w W n'))::r)):evX cal (.tupOf (.compR (.call f [true] [.bor 0]) js .one (.cst .non) g q es)) (some (.mutD (.w W n))::r)=some (.tup vs,some (.mutD (.w W n'))::r):=by
 obtain⟨xs,J,U⟩:=CV k z;rw[evX,evX,xw1 h,bind_some];dsimp only;rw[J,bind_some,if_pos (by omega),D xs U]
 rfl
theorem fl1:∀t:List Int,((t.map λi=>(PV.int i,[ar i])).map (·.2)).flatten=t.map ar
 | []=>rfl
 |i::t=>by
  have:=fl1 t;simp only[map_cons,flatten_cons,singleton_append]at this ⊢;rw[this]
theorem vQ(m:Nat){t:List Int}(q:t.length<=60)(h:∀i∈t,Sm i):RD (aa defs (m+7)) 15 [] (ofS t) (wS t):=
 dJ (d:=fO) (by decide) rfl rfl λW n r hw=>by
  have hw:W.drop n=[ar t.length]++(t.map ar++r):=hw;refine⟨[],dc ?_,rfl⟩;refine qv (g:=12) (r:=[]) (vs:=t.map .int) q (k7 m q W n _ hw) (by rw[length_map];omega) λxs hx=>?_
  have key:=goA (f:=12) xs (t.map λi=>(PV.int i,[ar i])) (by rw[length_map];exact hx) (λp z=>by
   obtain⟨i,hi,rfl⟩:=mem_map.mp z;exact rK m (h i hi)) W (n+1) r [] (by rw[fl1];exact eN hw)
  rw[fl1,List.map_map,length_map]at key;rw[show n+(wS t).length=n+1+t.length by simp[wS];omega];exact key
theorem fl2:∀R:List (List Int),((R.map λt=>(ofS t,wS t)).map (·.2)).flatten=(R.map wS).flatten:=λR=>by rw[List.map_map];rfl
theorem xX(m:Nat){R:List (List Int)}(h:ROk R):RD (aa defs (m+8)) 16 [] (ofR R) (wR R):=
 dJ (d:=gm) (by decide) rfl rfl λW n r hw=>by
  have hl:=h.l;have hw:W.drop n=[ar R.length]++((R.map wS).flatten++r):=hw;show ∃ρ,exs _ _ [some (.mutD (.w W n)),none]=_/\_;refine⟨[some (.val (ofR R))],eM (qv (n':=n+(wR R).length) (g:=15) (r:=[none]) (vs:=R.map ofS) (k:=R.length) (by omega) (k7 (m+1) (by omega) W n _ hw) (by rw[length_map];omega) λxs hx=>?_) (eO ?_ (fk (by simp[ev,aD,aE,ofR]))),rfl⟩
  ·have key:=goA (f:=15) xs (R.map λt=>(ofS t,wS t)) (by rw[length_map];exact hx) (λp hp=>by
    obtain⟨t,ht,rfl⟩:=mem_map.mp hp;exact vQ m (by have:=h.s t ht;omega) (h.m t ht)) W (n+1) r [none] (by rw[fl2];exact eN hw)
   rw[fl2,List.map_map]at key;rw[show n+(wR R).length=n+1+(R.map wS).flatten.length by simp only[wR,length_cons];omega];exact key
  ·have e:=pd (m+4) (ofR R) ofS R (.inr rfl) (.inr rfl) (λt ht=>⟨λx hx=>by have:=h.m t ht x hx;unfold Sm at this;omega,by have:=h.s t ht;omega⟩) (by omega);have eg:nk R=R:=by
    unfold nk;have e1:R.map jx=R:=by
     conv=>rhs;rw[<- List.map_id R]
     exact map_congr_left λt ht=>qm (h.g.1 t ht).1
    rw[e1];exact sortT_id h.g.2.1
   rw[eg]at e;have e2:=Ct 98 R R;simp only[aD,aE];rw[qo (b8 (vs:=[.val (ofR R)]) (by simp[evA,ofR]) e) (show ev _ (.bor 1) _=some (ofR R) from by simp[ev,ofR])];show((eqF 100 (ofR R) (ofR R)).map λp=>!p).map PV.bl=_;rw[e2];simp
theorem gW(cal:Cal)(k q:String)(p:Option MV)(r:Rho):ev cal (.cmp .eq (.bor 1) (.cst (.str q))) (p::some (.val (.str k))::r)=some (.bl (k==q)):=by
 simp[ev,fS]
theorem rL(cal:Cal)(ks:List PV)(q:String)(p:Option MV)(r:Rho):ev cal (.cmp .eq (.bor 1) (.cst (.str q))) (p::some (.val (.tup ks))::r)=some (.bl false):=by
 simp[ev,eqF]
theorem xw2{cal:Cal}{f:Nat}{W:List Str}{n n':Nat}{v w:PV}{e:ME}{r:Rho}(q:evA cal [e] (some (.mutD (.w W n))::r)=some [.val w])(h:cal (f+2000) [.mutD (.w W n),.val w]=some (.tup [v,.dI (.w W n')])):evX cal (.call f [true,false] [.bor 0,e]) (some (.mutD (.w W n))::r)=some (v,some (.mutD (.w W n'))::r):=by
 simp[evX,jB,evM,cG,q,h,fb,b_]
theorem xw3{cal:Cal}{f:Nat}{W:List Str}{n n':Nat}{v w w':PV}{e e':ME}{r:Rho}(z:evA cal [e] (some (.mutD (.w W n))::r)=some [.val w])(q:evA cal [e'] (some (.mutD (.w W n))::r)=some [.val w'])(h:cal (f+2000) [.mutD (.w W n),.val w,.val w']=some (.tup [v,.dI (.w W n')])):evX cal (.call f [true,false,false] [.bor 0,e,e']) (some (.mutD (.w W n))::r)=some (v,some (.mutD (.w W n'))::r):=by
 simp[evX,jB,evM,cG,z,q,h,fb,b_]
section
variable{n:Nat}{room:PV}{v:PV}{ws:List Str}
theorem xY (h:RD (aa defs n) 12 [] v ws):RD (aa defs (n+1)) 17 [.val (.str "hole"),.val room] v ws:=
 dJ (d:=bx) (by decide) rfl rfl λW k r hw=>⟨[some (.val (.str "hole")),some (.val room)],fV (gW _ "hole" "hole" _ _) (dc (xw1 (h W k r hw))),rfl⟩
theorem vR (h:RD (aa defs n) 13 [] v ws):RD (aa defs (n+1)) 17 [.val (.str "reply"),.val room] v ws:=
 dJ (d:=bx) (by decide) rfl rfl λW k r hw=>⟨[some (.val (.str "reply")),some (.val room)],eO (gW _ "reply" "hole" _ _) (fV (gW _ "reply" "reply" _ _) (dc (xw1 (h W k r hw)))),rfl⟩
theorem xZ (h:RD (aa defs n) 16 [] v ws):RD (aa defs (n+1)) 17 [.val (.str "rest"),.val room] v ws:=
 dJ (d:=bx) (by decide) rfl rfl λW k r hw=>⟨[some (.val (.str "rest")),some (.val room)],eO (gW _ "rest" "hole" _ _) (eO (gW _ "rest" "reply" _ _) (fV (gW _ "rest" "rest" _ _) (dc (xw1 (h W k r hw))))),rfl⟩
theorem fG (h:RD (aa defs n) 19 [.val room] v ws):RD (aa defs (n+1)) 17 [.val (.str "paper"),.val room] v ws:=
 dJ (d:=bx) (by decide) rfl rfl λW k r hw=>⟨[some (.val (.str "paper")),some (.val room)],eO (gW _ "paper" "hole" _ _) (eO (gW _ "paper" "reply" _ _) (eO (gW _ "paper" "rest" _ _) (fV (gW _ "paper" "paper" _ _) (dc (xw2 (w:=room) (by simp[evA]) (h W k r hw)))))),rfl⟩
theorem x0{ks:List PV}{L:List (PV×List Str)}(q:L.length<=60)(h0:RD (aa defs n) 14 [] (.int L.length) [ar L.length])(h:∀p∈L,RD (aa defs n) 18 [.val (.tup ks),.val room] p.1 p.2):RD (aa defs (n+1)) 17 [.val (.tup ks),.val room] (.tup (L.map (·.1))) (ar L.length::(L.map (·.2)).flatten):=
 dJ (d:=bx) (by decide) rfl rfl λW k r hw=>by
  have hw:W.drop k=[ar L.length]++((L.map (·.2)).flatten++r):=hw;refine⟨[some (.val (.tup ks)),some (.val room)],eO (rL _ ks "hole" _ _) (eO (rL _ ks "reply" _ _) (eO (rL _ ks "rest" _ _) (eO (rL _ ks "paper" _ _) (dc ?_)))),rfl⟩;refine qv (g:=18) (r:=[some (.val (.tup ks)),some (.val room)]) q (h0 W k _ hw) (by rw[length_map];omega) λxs hx=>?_
  have key:=goB (f:=18) xs L hx h W (k+1) r [] (eN hw);rw[show k+(ar L.length::(L.map (·.2)).flatten).length=k+1+(L.map (·.2)).flatten.length by rw[length_cons];omega];exact key
theorem gX{L:List (PV×PV×List Str)}(q:L.length<=60)(h:∀p∈L,RD (aa defs n) 17 [.val p.1,.val room] p.2.1 p.2.2):RD (aa defs (n+1)) 18 [.val (.tup (L.map (·.1))),.val room] (.tup (L.map (·.2.1))) (L.map (·.2.2)).flatten:=
 dJ (d:=eJ) (by decide) rfl rfl λW k r hw=>by
  refine⟨[some (.val (.tup (L.map (·.1)))),some (.val room)],dc ?_,rfl⟩;have key:=goC (f:=17) L h W k r (some (.val (.tup (L.map (·.1))))) [] hw;show evX _ (.tupOf (.compS (.var 1) [0,2] .one (.cst .non) 17 [true,false,false] [(.bor 1),(.bor 0),(.bor 2)])) [some (.mutD (.w W k)),some (.val (.tup (L.map (·.1)))),some (.val room)]=_;rw[evX,evX,show evs (aa defs n) [.var 1] [some (.mutD (.w W k)),some (.val (.tup (L.map (·.1)))),some (.val room)]=some [.tup (L.map (·.1))] from by simp[evs,ev],bind_some,show bc .seq [.tup (L.map (·.1))]=some (L.map (·.1)) from rfl,bind_some,if_pos (by rw[length_map];omega),key]
  rfl
theorem k8 {k:Str}{kinds vs:List PV}{m:Nat} (hg:fK "MEMBERS" (.str k)=some (.tup kinds)) (hl:vs.length<=60) (h:RD (aa defs (n+5)) 18 [.val (.tup kinds),.val (.int (m:Int))] (.tup vs) ws):RD (aa defs (n+6)) 19 [.val (.int (m+1:Nat))] (.tup (.str k::vs)) (k::ws):=
 dJ (d:=fP) (by decide) rfl rfl λW j r hw=>by
  have hw:W.drop j=[k]++(ws++r):=hw;show ∃ρ,exs _ _ [some (.mutD (.w W j)),some (.val (.int (m+1:Nat))),none]=_/\_;refine⟨[some (.val (.int (m+1:Nat))),some (.val (.str k))],eO ?_ (eM (xW (gI n) hw) ?_),rfl⟩
  ·have:¬ ((m:Int)+1=0):=by omega
   simp[ev,this]
  ·simp only[aD,aE];rw[ba,ex,show(ev (aa defs (n+5)) (.var 2) [some (.mutD (.w W (j+1))),some (.val (.int (m+1:Nat))),some (.val (.str k))]).bind (fK "MEMBERS")=some (.tup kinds) from by rw[ev];exact hg];refine dc ?_;have e1:=h W (j+1) r (eN hw);have e2:=xw3 (f:=18) (e:=.cdat "MEMBERS" (.bor 2)) (e':=.bin .sub (.bor 1) (.cst (.int 1))) (r:=[some (.val (.int (m+1:Nat))),some (.val (.str k))]) (w:=.tup kinds) (w':=.int (m:Int)) (by
    have:ev (aa defs (n+5)) (.cdat "MEMBERS" (.bor 2)) [some (.mutD (.w W (j+1))),some (.val (.int (m+1:Nat))),some (.val (.str k))]=some (.tup kinds):=by rw[ev];exact hg
    rw[evA]
    ·rw[this];rfl
    ·intro i z;cases z) (by simp[evA,ev]) e1
   rw[evX,e2,ev,evs,show ev (aa defs (n+5)) (.var 2) [some (.mutD (.w W (j+1))),some (.val (.int (m+1:Nat))),some (.val (.str k))]=some (.str k) from by simp[ev]];have hl2:eU .add (.tup [.str k]) (.tup vs)=some (.tup (.str k::vs)):=if_pos (by rw[length_singleton];omega);rw[show j+(k::ws).length=j+1+ws.length by rw[length_cons];omega];simp[evs,hl2]
end
theorem dX{cal:Cal}{f:Nat}{es:List MV}{v z:PV}{ws q:List Str}(h:RD cal f es v ws)(D:v=z)(hw:ws=q):RD cal f es z q:=by
 subst D hw;exact h
section
variable{N:Nat}{room:PV}
theorem qw (q:7<=N) {i:Int} (h:Sm i):RD (aa defs N) 17 [.val (.str "hole"),.val room] (.int i) [ar i]:=by
 obtain⟨m,rfl⟩:∃m,N=m+7:=⟨N-7,by omega⟩;exact xY (rK m h)
theorem rM (q:7<=N) {o:Option Int} (h:∀i,o=some i->Sm i):RD (aa defs N) 17 [.val (.str "reply"),.val room] (vP o) [wP o]:=by
 obtain⟨m,rfl⟩:∃m,N=m+7:=⟨N-7,by omega⟩;exact vR (vO m h)
theorem nr (q:9<=N) {R:List (List Int)} (h:ROk R):RD (aa defs N) 17 [.val (.str "rest"),.val room] (ofR R) (wR R):=by
 obtain⟨m,rfl⟩:∃m,N=m+9:=⟨N-9,by omega⟩;exact xZ (xX m h)
theorem qx{n:Nat}(U:6<=n){α:Type}{ks:List PV}{L:List α}{f:α->PV}{w:α->List Str}(z:L.length<=60)(h:∀p∈L,RD (aa defs n) 18 [.val (.tup ks),.val room] (f p) (w p)):RD (aa defs (n+1)) 17 [.val (.tup ks),.val room] (.tup (L.map f)) (ar L.length::(L.map w).flatten):=by
 have e:=x0 (n:=n) (room:=room) (ks:=ks) (L:=L.map λp=>(f p,w p)) (by rw[length_map];exact z) (by
  obtain⟨m,rfl⟩:∃m,n=m+6:=⟨n-6,by omega⟩;exact k7 m (by rw[length_map];exact z)) λq D=>by
   obtain⟨p,J,rfl⟩:=mem_map.mp D;exact h p J
 refine dX e ?_ ?_
 ·rw[List.map_map];rfl
 ·rw[List.map_map,length_map];rfl
end
theorem vS{d:Nat}{v:PV}{ws:List Str}(h:Pap d v ws):∀(N m:Nat),5*d+14<=N->d<=m->RD (aa defs N) 19 [.val (.int (m+1:Nat))] v ws:=by
 induction h with
 | @leaf d k hk =>
  intro N m hN hm;obtain⟨n,rfl⟩:∃n,N=n+6:=⟨N-6,by omega⟩;have hg:fK "MEMBERS" (.str k)=some (.tup []):=by
   rcases hk with rfl|rfl|rfl
   ·exact rD
   ·exact oS
   ·exact l_
  exact k8 hg (by decide) (gX (L:=[]) (by decide) λp hp=>by cases hp)
 | @pairs d ps hl h1 h2 =>
  intro N m hN hm;obtain⟨n,rfl⟩:∃n,N=n+6:=⟨N-6,by omega⟩;refine k8 oT (by simp) (dX (gX (L:=[(.tup [.str "hole",.str "hole"],.tup (ps.map λp=>.tup [.int p.1,.int p.2]),ar ps.length::(ps.map λp=>[ar p.1,ar p.2]).flatten)]) (by simp) λq hq=>?_) rfl (by simp));rw[mem_singleton.mp hq];exact qx (n:=n+3) (by omega) (by omega) λp hp=>gX (L:=[(.str "hole",.int p.1,[ar p.1]),(.str "hole",.int p.2,[ar p.2])]) (by simp) λr hr=>by
   simp only[mem_cons,not_mem_nil,or_false]at hr;rcases hr with rfl|rfl
   ·exact qw (by omega) (h1 p hp)
   ·exact qw (by omega) (h2 p hp)
 | @one d v ws k hk r hr h ih =>
  intro N m hN hm;obtain⟨n,rfl⟩:∃n,N=n+6:=⟨N-6,by omega⟩;obtain⟨m,rfl⟩:∃j,m=j+1:=⟨m-1,by omega⟩;have hg:fK "MEMBERS" (.str k)=some (.tup [.str "reply",.str "paper"]):=by
   rcases hk with rfl|rfl
   ·exact rE
   ·exact rF
  refine k8 hg (by simp) (dX (gX (L:=[(.str "reply",vP r,[wP r]),(.str "paper",v,ws)]) (by simp) λq hq=>?_) rfl (by simp));simp only[mem_cons,not_mem_nil,or_false]at hq;rcases hq with rfl|rfl
  ·exact rM (by omega) hr
  ·exact fG (ih (n+3) m (by omega) (by omega))
 | @cases d rows hl h1 h2 h3 ih =>
  intro N m hN hm;obtain⟨n,rfl⟩:∃n,N=n+6:=⟨N-6,by omega⟩;obtain⟨m,rfl⟩:∃j,m=j+1:=⟨m-1,by omega⟩;refine k8 oU (by simp) (dX (gX (L:=[(.tup [.str "hole",.str "reply",.str "paper"],.tup (rows.map λr=>.tup [.int r.1,vP r.2.1,r.2.2.1]),ar rows.length::(rows.map λr=>ar r.1::wP r.2.1::r.2.2.2).flatten)]) (by simp) λq hq=>?_) rfl (by simp));rw[mem_singleton.mp hq];refine qx (n:=n+3) (by omega) (by omega) λp hp=>dX (gX (L:=[(.str "hole",.int p.1,[ar p.1]),(.str "reply",vP p.2.1,[wP p.2.1]),(.str "paper",p.2.2.1,p.2.2.2)]) (by simp) λr hr=>?_) rfl (by simp)
  simp only[mem_cons,not_mem_nil,or_false]at hr;rcases hr with rfl|rfl|rfl
  ·exact qw (by omega) (h1 p hp)
  ·exact rM (by omega) (h2 p hp)
  ·exact fG (ih p hp (n+1) m (by omega) (by omega))
 | @parts d rows hl h1 h3 ih =>
  intro N m hN hm;obtain⟨n,rfl⟩:∃n,N=n+6:=⟨N-6,by omega⟩;obtain⟨m,rfl⟩:∃j,m=j+1:=⟨m-1,by omega⟩;refine k8 oV (by simp) (dX (gX (L:=[(.tup [.str "rest",.str "paper"],.tup (rows.map λr=>.tup [ofR r.1,r.2.1]),ar rows.length::(rows.map λr=>wR r.1++r.2.2).flatten)]) (by simp) λq hq=>?_) rfl (by simp));rw[mem_singleton.mp hq];refine qx (n:=n+3) (by omega) (by omega) λp hp=>dX (gX (L:=[(.str "rest",ofR p.1,wR p.1),(.str "paper",p.2.1,p.2.2)]) (by simp) λr hr=>?_) rfl (by simp)
  simp only[mem_cons,not_mem_nil,or_false]at hr;rcases hr with rfl|rfl
  ·exact nr (by omega) (h1 p hp)
  ·exact fG (ih p hp (n+1) m (by omega) (by omega))
 | @fewer d v ws R hR h ih =>
  intro N m hN hm;obtain⟨n,rfl⟩:∃n,N=n+6:=⟨N-6,by omega⟩;obtain⟨m,rfl⟩:∃j,m=j+1:=⟨m-1,by omega⟩;refine k8 oW (by simp) (dX (gX (L:=[(.str "rest",ofR R,wR R),(.str "paper",v,ws)]) (by simp) λq hq=>?_) rfl (by simp));simp only[mem_cons,not_mem_nil,or_false]at hq;rcases hq with rfl|rfl
  ·exact nr (by omega) hR
  ·exact fG (ih (n+3) m (by omega) (by omega))
 | @either d v v' ws ws' R S hR hS h h' ih ih' =>
  intro N m hN hm;obtain⟨n,rfl⟩:∃n,N=n+6:=⟨N-6,by omega⟩;obtain⟨m,rfl⟩:∃j,m=j+1:=⟨m-1,by omega⟩;refine k8 mf (by simp) (dX (gX (L:=[(.str "rest",ofR R,wR R),(.str "paper",v,ws),(.str "rest",ofR S,wR S),(.str "paper",v',ws')]) (by simp) λq hq=>?_) rfl (by simp));simp only[mem_cons,not_mem_nil,or_false]at hq;rcases hq with rfl|rfl|rfl|rfl
  ·exact nr (by omega) hR
  ·exact fG (ih (n+3) m (by omega) (by omega))
  ·exact nr (by omega) hS
  ·exact fG (ih' (n+3) m (by omega) (by omega))
theorem AR{d:Nat}{v:PV}{ws:List Str}(h:Pap d v ws):ws≠[]:=by cases h<;>exact λz=>nomatch z
theorem s_ {v:PV}{ws:List Str} (h:Pap 4 v ws):Txt.split (Builtin.Str.glued " " ws) (" ":Str)=ws:=o_ (AR h) λw hw=>(vL h w hw).2
theorem xwo{cal:Cal}{f:Nat}{W:List Str}{n n':Nat}{v w:PV}{e:ME}{a:Option MV}{r:Rho}(q:evA cal [e] (a::some (.ownD (.w W n))::r)=some [.val w])(h:cal (f+2000) [.mutD (.w W n),.val w]=some (.tup [v,.dI (.w W n')])):evX cal (.call f [true,false] [.bor 1,e]) (a::some (.ownD (.w W n))::r)=some (v,a::some (.ownD (.w W n'))::r):=by
 simp[evX,jB,evM,cG,q,h,fb,b_]
theorem AS (N:Nat) {v:PV}{ws:List Str} (h:Pap 4 v ws):aa defs (N+35) 20 [.val (.str (Builtin.Str.glued " " ws))]=some v:=by
 rw[aq (d:=fQ) rfl rfl];have q:=s_ h;have D:ws.length<=8060:=b9 h;have z:(Builtin.Str.glued " " ws).length<=1000000:=by
  have h1:=L2.nW (" ":Str) ws;have h2:=AQ (vL h);have h3:(ws.map λy=>y.length+(" ":Str).length).sum<=7*ws.length:=h2;omega
 have e:=vS h (N+34) 29 (by omega) (by omega) ws 0 [] (by simp);rw[Nat.zero_add]at e;generalize Builtin.Str.glued " " ws=g at q z;refine fR (ρ:=[some (.val (.str g)),none,none]) (ρ':=[some (.val (.str g)),some (.ownD (.w ws 0)),none]) ?_ (fR (ρ':=[some (.val (.str g)),some (.ownD (.w ws ws.length)),some (.val v)]) ?_ (fR (ρ':=[some (.val (.str g)),some (.ownD (.w ws ws.length)),some (.val v)]) ?_ (gT (by simp[ev]))))
 ·rw[ex,show ev (aa defs (N+34)) (.var 0) [some (.val (.str g)),none,none]=some (.str g) from by simp[ev]];dsimp only;rw[q,if_pos ⟨z,by omega,gI (N+29)⟩]
  rfl
 ·rw[ex,xwo (w:=.int 30) (by simp[evA,ev]) e]
  rfl
 ·rw[ex];show(if ws.length=ws.length/\aa defs (N+34) 4000 []≠none then R.next _ else _)=_;rw[if_pos ⟨rfl,gI (N+29)⟩]
inductive PL:Nat->PV->Prop where
 | int {n:Nat} (i:Int):PL n (.int i)
 | str {n:Nat} (x:Str):PL n (.str x)
 | non {n:Nat}:PL n .non
 | tup {n:Nat}{vs:List PV} (hl:vs.length<=10000) (h:∀v∈vs,PL n v):PL (n+1) (.tup vs)
theorem AT{n:Nat}{v:PV}(h:PL n v):∀m,aa defs (m+n+1) 30 [.val v,.val v]=some (.bl true):=by
 induction h with
 |int i =>
  intro m;rw[aq (d:=bz) rfl rfl];simp[bz,exs,ex,ev,evs,evB,fz]
 |str x =>
  intro m;rw[aq (d:=bz) rfl rfl];simp[bz,exs,ex,ev,evs,evB,fz]
 |non =>
  intro m;rw[aq (d:=bz) rfl rfl];simp[bz,exs,ex,ev,evs,evB,fz]
 | @tup n vs hl h ih =>
  intro m;rw[show m+(n+1)+1=(m+n+1)+1 by omega,aq (d:=bz) rfl rfl];have eC:ev (aa defs (m+n+1)) (.comp .rng [(.blt .len [(.bor 1)])] [0,1] (.cst (.bl true)) (.call 30 [(.idx (.bor 1) (.bor 0)),(.idx (.bor 2) (.bor 0))])) [some (.val (.tup vs)),some (.val (.tup vs))]=some (.lst ((range vs.length).map λ_=>.bl true)):=by
   refine gH (vs:=[.int vs.length]) (xs:=range vs.length) (g:=λ(k:Nat)=>.int ((0:Int)+k)) ?_ ?_ (by rw[length_range];exact hl) λk hk=>?_
   ·rw[evs,aZ (v:=.tup vs) (by simp[ev])];simp[evs]
   ·rw[ia (by omega) (by omega)];simp
   ·have hk:=mem_range.mp hk;have pk:place vs.length ((0:Int)+k)=some k:=by
     unfold place;rw[if_pos (by omega),if_pos (by omega)]
     congr 1
     omega
    have e1:=ih vs[k] (getElem_mem hk) m;refine b8 (vs:=[.val vs[k],.val vs[k]]) ?_ e1;rw[Int.zero_add]at pk ⊢;simp[evA,ev,fA,kr,pk,hk]
  have e:exs (aa defs (m+n+1)) bz.body [some (.val (.tup vs)),some (.val (.tup vs))]=.ret (.bl true):=by
   have eL:ev (aa defs (m+n+1)) (.blt .len [.bor 0]) [some (.val (.tup vs)),some (.val (.tup vs))]=some (.int vs.length):=by rw[aZ (v:=.tup vs) (by simp[ev])];rfl
   have eL2:ev (aa defs (m+n+1)) (.blt .len [.bor 1]) [some (.val (.tup vs)),some (.val (.tup vs))]=some (.int vs.length):=by rw[aZ (v:=.tup vs) (by simp[ev])];rfl
   have a:exs (aa defs (m+n+1)) [.ite (.or (.not (.blt .isTuple [(.bor 0)])) (.cmp .ne (.blt .len [(.bor 0)]) (.blt .len [(.bor 1)]))) [.ret (.cst (.bl false))] [],.ret (.blt .all [(.comp .rng [(.blt .len [(.bor 1)])] [0,1] (.cst (.bl true)) (.call 30 [(.idx (.bor 1) (.bor 0)),(.idx (.bor 2) (.bor 0))]))])] [some (.val (.tup vs)),some (.val (.tup vs))]=.ret (.bl true):=by
    refine eO ?_ ?_
    ·rw[ev,qo eL eL2,ev,aZ (v:=.tup vs) (by simp[ev])];simp[cc,pW,eqF]
    ·rw[ba,ex,aZ eC];have:av .all [.lst ((range vs.length).map λ_=>.bl true)]=some (.bl true):=by
      have q:=kO ((range vs.length).map λ_=>true);rw[List.map_map]at q;show(cb ((range vs.length).map λ_=>PV.bl true)).map _=_;rw[show((range vs.length).map λ_=>PV.bl true)=(range vs.length).map (PV.bl ∘ λ_=>true) from rfl,q];simp
     rw[this]
     rfl
   show exs _ (.ite _ _ _::_) _=_;rw[ba,cA (p:=true) (by rw[aZ (v:=.tup vs) (by simp[ev])];rfl),if_pos rfl,a]
   rfl
  show bo (exs _ _ [some (.val (.tup vs)),some (.val (.tup vs))])=_;rw[e]
  rfl
theorem mh{n:Nat}{v:PV}(h:PL n v):∀{m:Nat},n<=m->PL m v:=by
 induction h with
 |int i=>exact λ_=>.int i
 |str x=>exact λ_=>.str x
 |non=>exact λ_=>.non
 | @tup n vs q h ih =>
  intro m D;obtain⟨k,rfl⟩:∃k,m=k+1:=⟨m-1,by omega⟩;exact .tup q λv z=>ih v z (by omega)
theorem CW{n:Nat}(r:Option Int):PL n (vP r):=by
 cases r with
 |none=>exact .non
 |some i=>exact .int i
theorem x3{n:Nat}{R:List (List Int)}(h:ROk R):PL (n+2) (ofR R):=by
 refine .tup (by rw[length_map];have:=h.l;omega) λv q=>?_
 obtain⟨t,z,rfl⟩:=mem_map.mp q;refine .tup (by rw[length_map];have:=h.s t z;omega) λv q=>?_
 obtain⟨i,hi,rfl⟩:=mem_map.mp q;exact .int i
theorem fm{n:Nat}:∀v∈([]:List PV),PL n v:=λ_ h=>nomatch h
theorem aP{n:Nat}{v:PV}{vs:List PV}(h:PL n v)(k:∀v∈vs,PL n v):∀w∈v::vs,PL n w:=λw hw=>by
 rcases mem_cons.mp hw with rfl|hw
 ·exact h
 ·exact k w hw
theorem AU{d:Nat}{v:PV}{ws:List Str}(h:Pap d v ws):PL (3*d+4) v:=by
 induction h with
 |leaf k Y=>exact .tup (by simp) (aP (.str k) fm)
 |pairs ps U h1 h2 =>
  refine .tup (by simp) (aP (.str _) (aP (.tup (by rw[length_map];omega) λv q=>?_) fm));obtain⟨p,z,rfl⟩:=mem_map.mp q;exact .tup (by simp) (aP (.int _) (aP (.int _) fm))
 |one k Y r hr h ih=>exact .tup (by simp) (aP (.str k) (aP (CW r) (aP (mh ih (by omega)) fm)))
 |cases rows U h1 h2 h3 ih =>
  refine .tup (by simp) (aP (.str _) (aP (.tup (by rw[length_map];omega) λv q=>?_) fm));obtain⟨p,z,rfl⟩:=mem_map.mp q;exact .tup (by simp) (aP (.int _) (aP (CW _) (aP (mh (ih p z) (by omega)) fm)))
 |parts rows U h1 h3 ih =>
  refine .tup (by simp) (aP (.str _) (aP (.tup (by rw[length_map];omega) λv q=>?_) fm));obtain⟨p,z,rfl⟩:=mem_map.mp q;exact .tup (by simp) (aP (x3 (h1 p z)) (aP (mh (ih p z) (by omega)) fm))
 |fewer R D h ih=>exact .tup (by simp) (aP (.str _) (aP (x3 D) (aP (mh ih (by omega)) fm)))
 |either R S D Z h h' ih J=>exact .tup (by simp) (aP (.str _) (aP (x3 D) (aP (mh ih (by omega)) (aP (x3 Z) (aP (mh J (by omega)) fm)))))
theorem pe(a:Option MV):∀(xs:List PV) (ns:List Int) (a2 a3:Option MV),∃ns' b2 b3,a9 (λx ρ'=>exs (aa defs 39) jO (put ρ' 2 (.val x))) xs [a,some (.ownD (.p ns)),a2,a3]=.next [a,some (.ownD (.p ns')),b2,b3]
 | [],ns,a2,a3=>⟨ns,a2,a3,rfl⟩
 | x::xs,ns,a2,a3=>by
  rw[a9];obtain⟨v,ws,n1,e1,hv⟩:=CT 4 27 ns;have e2:aa defs 39 10 [.val v]=some (.str (Builtin.Str.glued " " ws)):=by
   rw[aq (d:=dH) rfl rfl];refine gT (ρ:=[some (.val v)]) ?_;rw[ev,b8 (vs:=[.val v]) (by simp[evA]) (oX hv (Nat.le_refl _) 38 (by omega)),bind_some];exact o7 hv
  have e4:=AS 4 hv;have e5:=AT (AU hv) 22;have e:exs (aa defs 39) jO (put [a,some (.ownD (.p ns)),a2,a3] 2 (.val x))=.next [a,some (.ownD (.p n1)),some (.val x),some (.val v)]:=by
   simp only[aD,aE,jO];refine eM (xo e1) ?_;simp only[aD,aE];have e3:ev (aa defs 39) (.join " " (.call 29 [(.bor 3)])) [a,some (.ownD (.p n1)),some (.val x),some (.val v)]=some (.str (Builtin.Str.glued " " ws)):=by
    rw[ev,b8 (vs:=[.val v]) (by simp[evA]) (xU hv (Nat.le_refl _) 39 (by omega)),bind_some];exact o7 hv
   have e6:ev (aa defs 39) (.call 20 [(.join " " (.call 29 [(.bor 3)]))]) [a,some (.ownD (.p n1)),some (.val x),some (.val v)]=some v:=b8 (vs:=[.val (.str (Builtin.Str.glued " " ws))]) (m8 (λ_ z=>by cases z) e3) e4;have e7:ev (aa defs 39) (.call 20 [(.call 10 [(.bor 3)])]) [a,some (.ownD (.p n1)),some (.val x),some (.val v)]=some v:=b8 (vs:=[.val (.str (Builtin.Str.glued " " ws))]) (m8 (λ_ z=>by cases z) (b8 (vs:=[.val v]) (by simp[evA]) e2)) e4;have two:∀E:ME,(∀i,E≠.bor i)->ev (aa defs 39) E [a,some (.ownD (.p n1)),some (.val x),some (.val v)]=some v->ev (aa defs 39) (.not (.call 30 [E,.bor 3])) [a,some (.ownD (.p n1)),some (.val x),some (.val v)]=some (.bl false):=λE hn h=>by
    have q:evA (aa defs 39) [E,.bor 3] [a,some (.ownD (.p n1)),some (.val x),some (.val v)]=some [.val v,.val v]:=by
     rw[evA,h,bind_some]
     ·simp[evA]
     ·exact λi z=>hn i z
    rw[ev,b8 q e5]
    rfl
   exact eO (two _ (λ_ z=>by cases z) e6) (eO (two _ (λ_ z=>by cases z) e7) rfl)
  rw[e];exact pe a xs n1 _ _
theorem vT(ns:List Int)(J:ns.length<=63):aa defs 40 31 [.brw (ns.map .int)]=some (.bl true):=by
 rw[aq (d:=rB) rfl rfl];obtain⟨q,z,D,e⟩:=pe (some (.brw (ns.map .int))) [.int 0,.int 1,.int 2,.int 3] ns.reverse none none;refine fR (ρ:=[some (.brw (ns.map .int)),none,none,none]) (ρ':=[some (.brw (ns.map .int)),some (.ownD (.p ns.reverse)),none,none]) ?_ (fR (ρ':=[some (.brw (ns.map .int)),some (.ownD (.p q)),z,D]) ?_ (gT (by simp[ev])))
 ·simp[ex,ev,vM]
 ·rw[gG (xs:=[.int 0,.int 1,.int 2,.int 3]) (by rfl),show ∀ρ,bq [ME.cst (.int 4)] ρ=ρ from λ_=>rfl,e]
  rfl
noncomputable def top(i:Nat):Stmt:=PySem.Challenge.pw_mothloom_k69_papers_read.main.body.getD i (.Pass ⟨0,0,0,0⟩)
noncomputable def sWi:Stmt:=mB (top 18) 0
noncomputable def sWl:Stmt:=mB (top 18) 1
noncomputable def sWn:Stmt:=mB (top 18) 2
theorem Em:gu ["self","text"] ["self","text"] (aR sWi):=⟨rfl,rfl,rfl,by decide +kernel,rfl,by decide +kernel,by decide +kernel⟩
theorem Eo:gu ["self"] ["self"] (aR sWl):=⟨rfl,rfl,rfl,by decide +kernel,rfl,by decide +kernel,by decide +kernel⟩
theorem Ep:gu ["self"] ["self"] (aR sWn):=⟨rfl,rfl,rfl,by decide +kernel,rfl,by decide +kernel,by decide +kernel⟩
section
variable{P:Program}{w:World}{K:PySem.W.Frag}{mg:Str->Option Value}{base:Heap}{f C:Addr}{fd:FuncData}
theorem CY (D:FnD K "__init__" "Words.__init__" sWi f fd) (c:Cls K C) (n0:di K C "words") (n1:di K C "place"):de P w K mg base CX0 1 f fd ["self","text"] (spW C):=by
 obtain⟨c0,d0,Z,o0,m0,a0,Y,t1,a1,sl,lk,hc,rfl⟩:=D.it;refine lJ lk hc Em (λvs H Q E h=>?_) (λA outer s H vs Q E hr h=>?_)
 ·obtain⟨x,dx,t,rfl,_⟩:=h
  rfl
 ·obtain⟨x,dx,t,rfl,hx,h1,h2,k⟩:=h;refine⟨_,ig (tU (pv 0) (nH PySem.F.plainAttrs_str PySem.F.slot_str_split PySem.F.type_str_split uE (pv 1) (aI pf bD)) rfl) (ml (tU (pv 0) mj rfl)),?_⟩;refine⟨_,rfl,rfl,t," ",rfl,rfl,rfl,h1,h2,λl q=>?_⟩;have nx:x≠l:=λz=>by rw[z,q]at hx;cases hx
  refine⟨_,rfl,x,C,dx,[],rfl,(by rw[az nx];exact hx),c,n0,(by show 0<1000;decide),?_⟩;refine⟨_,rfl,x,C,dx,_,rfl,au,c,n1,(by show 1<1000;decide),?_⟩;refine k l _ q au (by rw[az nx.symm,az nx.symm,au]) λb o J U=>?_
  rw[az J,az J,az (bb U q)];exact U
theorem yE (D:FnD K "are_left" "Words.are_left" sWl f fd) (c:Cls K C) (n0:di K C "words") (n1:di K C "place") (J:mg "len"=none):de P w K mg base CX0 1 f fd ["self"] (spL K C):=by
 obtain⟨c0,d0,Z,o0,m0,a0,U,t1,a1,sl,lk,hc,rfl⟩:=D.it;refine lJ lk hc Eo (λvs H Q E h=>?_) (λA outer s H vs Q E hr h=>?_)
 ·obtain⟨a,dx,l,n,ws,rfl,_⟩:=h
  rfl
 ·obtain⟨a,dx,l,n,ws,rfl,z,Y,q⟩:=h;refine⟨_,ml (iS (qF x5 (mv (pv 0) rfl) (fq dN (dB (show glB (aR sWl) "len"=true from by decide +kernel)) J qd (aI (mv (pv 0) rfl) bD) (by decide) (by decide) rfl rfl) (y3 _))),?_⟩;exact⟨_,rfl,a,C,dx,_,_,rfl,z,c,n1,rfl,_,rfl,a,C,dx,_,_,rfl,z,c,n0,rfl,l,ws,rfl,.inl Y,n,ws.length,rfl,rfl,q⟩
theorem x4{H:Hp}{q x dx:Addr}{us:List V}{gs:List (Str×V)}{o:HO}(h:SqL K H q us)(hx:H x=some (.ins C dx gs)):SqL K (upd H x o) q us:=by
 rcases h with (e|⟨o',e⟩)|e
 ·have n:q≠x:=λz=>by rw[z,hx]at e;cases e
  exact .inl (.inl (by rw[az n];exact e))
 ·have n:q≠x:=λz=>by rw[z,hx]at e;cases e
  exact .inl (.inr ⟨o',by rw[az n];exact e⟩)
 ·exact .inr e
theorem CZ {Z:Addr}{z:FuncData}{J:List Str} (D:FnD K "next_word" "Words.next_word" sWn f fd) (c:Cls K C) (n0:di K C "words") (n1:di K C "place") (m:nD K C "are_left" Z) (b:bA K z J []) (F:de P w K mg base CX0 1 Z z J (spL K C)):de P w K mg base CX0 2 f fd ["self"] (spN K C):=by
 obtain⟨c0,d0,k0,o0,m0,a0,aO,t1,a1,sl,lk,hc,rfl⟩:=D.it;refine lJ lk hc Ep (λvs H Q E h=>?_) (λA outer s H vs Q E hr h=>?_)
 ·obtain⟨a,dx,l,n,ws,u,rfl,_⟩:=h
  rfl
 ·obtain⟨a,dx,l,n,ws,u,rfl,U,hs,hu,q⟩:=h;have lt:=(List.getElem?_eq_some_iff.mp hu).1;refine⟨_,ig (qz (tz (ph (jY (pv 0) c m F hr b .nil ik (mY rfl (by decide) rfl)))) kL jE) (ig (rW (pv 0) mj y4) (ml (iS (x9 qJ (mv (pv 0) rfl) (lD tL (mv (pv 0) rfl) mj) (λ_ _=>rfl))))),?_⟩;refine⟨_,rfl,a,dx,_,rfl,U,rfl,a,dx,l,n,ws,rfl,U,hs,_,rfl,?_⟩;rw[decide_eq_true (by omega)];refine DP ?_;refine⟨_,rfl,a,C,dx,_,_,rfl,U,c,n1,rfl,n,1,rfl,rfl,dx,_,U,(by show 2<1000;decide),?_⟩;have Y:SqL K (upd H a (.ins C dx (wGs l (n+1:Nat)))) l ws:=x4 hs U;refine⟨_,rfl,a,C,dx,_,_,rfl,au,c,n0,rfl,_,rfl,a,C,dx,_,_,rfl,au,c,n1,rfl,n+1,1,rfl,rfl,l,ws,_,u,rfl,rfl,Y,?_,q⟩;have e:(n:Int)+1-1=n:=by omega
  unfold atI ixN;rw[e,if_pos (Int.natCast_nonneg n),if_pos (by omega)];exact hu
end
theorem AV {l:PySem.W.OpenLaw}{w:World}{K:PySem.W.Frag}{h:Heap}{mg:Str->Option Value}{fa:Addr} (X:K.In h) (G:h.Ns mainGlobals mg) (cC:mg "law"=some (.ref fa))
  {C fI:Addr}{D:FuncData} (aC:PySem.W.nsIn K mainGlobals "Words"=some (some (.ref C))) (pg:PySem.W.plainGet K C Str.empty=true) (hd:PySem.W.hasDictIn K C=true) (po:PySem.W.plainOver K C=true) (sa:PySem.W.findIn K (.ref C) "__setattr__"=some (some (.builtin "object.__setattr__"))) (mk:PySem.W.makesIn K C=true) (kc:PySem.W.keepIn K (.ref C)=true)
  (n0:PySem.W.findIn K (.ref C) "words"=some none) (n1:PySem.W.findIn K (.ref C) "place"=some none) (ai:PySem.W.findIn K (.ref C) "__init__"=some (some (.ref fI))) (ii:PySem.W.isFn K (.ref fI)=true) (DI:FnD K "__init__" "Words.__init__" sWi fI D) (bI:bA K D ["self","text"] [])
  (mL:HMW K C "are_left" "Words.are_left" sWl ["self"]) (mN:HMW K C "next_word" "Words.next_word" sWn ["self"])
  (h0:HD K "number_read" (top 6) dw) (h1:HD K "is_number_below" (top 10) b0) (h2:HD K "members_of" (top 11) dR) (h3:HD K "strip_made" (top 12) dS) (h4:HD K "rest_made" (top 13) eW) (h5:HD K "counted" (top 19) ji) (h6:HD K "strip_words" (top 20) ff) (h7:HD K "member_words" (top 21) aV) (h8:HD K "members_words" (top 22) dG) (h9:HD K "paper_words" (top 23) fg) (h10:HD K "paper_written" (top 24) dH) (h11:HD K "number_below" (top 25) db) (h12:HD K "hole_from" (top 26) eX) (h13:HD K "reply_from" (top 27) fN) (h14:HD K "count_from" (top 28) dU) (h15:HD K "strip_from" (top 29) fO) (h16:HD K "rest_from" (top 30) gm) (h17:HD K "member_from" (top 31) bx) (h18:HD K "members_from" (top 32) eJ) (h19:HD K "paper_from" (top 33) fP) (h20:HD K "paper_read" (top 34) fQ) (h21:HD K "_law_mixed" (top 37) eY) (h22:HD K "_law_next" (top 38) eK) (h23:HD K "_law_some_rest" (top 39) cN) (h24:HD K "_law_some_reply" (top 40) bJ) (h25:HD K "_law_some_rows" (top 41) bS) (h26:HD K "_law_any" (top 42) aX) (h27:HD K "_law_rest_words" (top 43) dn) (h28:HD K "_law_reply_word" (top 44) bK) (h29:HD K "_law_words" (top 45) am) (h30:HD K "_law_same" (top 46) bz) (h31:HD K "law" (top 47) rB λfd=>∀(s:Shared) (v:Value),BindsTo s fd ⟨[v],[]⟩ [("script",v)])
  (zs:∀x∈iG,PySem.W.nsIn K mainGlobals x=some none)
  {J:Value} (g0:PySem.W.nsIn K mainGlobals "FIGURES"=some (some J)) (r0:aA (toV (.str "0123456789")) J)
  {U:Value} (g1:PySem.W.nsIn K mainGlobals "HOLE_COUNT"=some (some U)) (r1:aA (toV (.int 60)) U)
  {Y:Value} (g2:PySem.W.nsIn K mainGlobals "MOST_STRIPS"=some (some Y)) (r2:aA (toV (.int 60)) Y)
  {Z:Value} (g3:PySem.W.nsIn K mainGlobals "MOST_COUNT"=some (some Z)) (r3:aA (toV (.int 60)) Z)
  {ao:Value} (g4:PySem.W.nsIn K mainGlobals "MOST_DEEP"=some (some ao)) (r4:aA (toV (.int 30)) ao)
  {cv:Value}{ca:Addr}{co:Obj}{ce:Array DictEntry}{cp:Nat} (c0:PySem.W.nsIn K mainGlobals "MEMBERS"=some (some cv)) (c1:cv=.ref ca) (c2:List.lookup ca K=some co) (c3:co.ExactDict) (c4:co.data=.dict ce cp) (c5:jM w ce.toList) (c6:(fJ.all λt=>Cn K ce t.2)=true) (c7:(ca==sysModules)=false)
 :∃fd:FuncData,(∀(s:Shared) (v:Value),BindsTo s fd ⟨[v],[]⟩ [("script",v)])/\∀base:Heap,K.In base->base.Ns mainGlobals mg->de l.prog w K mg base CX0 40 fa fd ["script"] (spM K (aa defs 40) 31):=by
 obtain⟨_,e0,D0,q0⟩:=aN (T:=tab) X G h0 (by kernel_rfl);obtain⟨_,e1,D1,q1⟩:=aN (T:=tab) X G h1 (by kernel_rfl);obtain⟨_,e2,D2,q2⟩:=aN (T:=tab) X G h2 (by kernel_rfl);obtain⟨_,e3,D3,q3⟩:=aN (T:=tab) X G h3 (by kernel_rfl);obtain⟨_,e4,D4,q4⟩:=aN (T:=tab) X G h4 (by kernel_rfl);obtain⟨_,e5,D5,q5⟩:=aN (T:=tab) X G h5 (by kernel_rfl);obtain⟨_,e6,D6,q6⟩:=aN (T:=tab) X G h6 (by kernel_rfl);obtain⟨_,e7,D7,q7⟩:=aN (T:=tab) X G h7 (by kernel_rfl);obtain⟨_,e8,D8,q8⟩:=aN (T:=tab) X G h8 (by kernel_rfl);obtain⟨_,e9,D9,q9⟩:=aN (T:=tab) X G h9 (by kernel_rfl);obtain⟨_,eS,ap,fr⟩:=aN (T:=tab) X G h10 (by kernel_rfl);obtain⟨_,ft,aO,fx⟩:=aN (T:=tab) X G h11 (by kernel_rfl);obtain⟨_,fy,a0,f0⟩:=aN (T:=tab) X G h12 (by kernel_rfl);obtain⟨_,f1,a1,f2⟩:=aN (T:=tab) X G h13 (by kernel_rfl);obtain⟨_,f3,a2,f4⟩:=aN (T:=tab) X G h14 (by kernel_rfl);obtain⟨_,f5,a3,f6⟩:=aN (T:=tab) X G h15 (by kernel_rfl);obtain⟨_,f7,a4,f8⟩:=aN (T:=tab) X G h16 (by kernel_rfl);obtain⟨_,f9,a5,ga⟩:=aN (T:=tab) X G h17 (by kernel_rfl);obtain⟨_,gg,a6,gl⟩:=aN (T:=tab) X G h18 (by kernel_rfl);obtain⟨_,gv,a7,gy⟩:=aN (T:=tab) X G h19 (by kernel_rfl);obtain⟨_,gB,a8,gD⟩:=aN (T:=tab) X G h20 (by kernel_rfl);obtain⟨_,gO,b1,ha⟩:=aN (T:=tab) X G h21 (by kernel_rfl);obtain⟨_,hb,b2,he⟩:=aN (T:=tab) X G h22 (by kernel_rfl);obtain⟨_,hf,b3,hg⟩:=aN (T:=tab) X G h23 (by kernel_rfl);obtain⟨_,hh,b4,hj⟩:=aN (T:=tab) X G h24 (by kernel_rfl);obtain⟨_,hk,b5,hl⟩:=aN (T:=tab) X G h25 (by kernel_rfl);obtain⟨_,hm,b6,hn⟩:=aN (T:=tab) X G h26 (by kernel_rfl);obtain⟨_,ho,cd,hq⟩:=aN (T:=tab) X G h27 (by kernel_rfl);obtain⟨_,hr,ck,hs⟩:=aN (T:=tab) X G h28 (by kernel_rfl);obtain⟨_,ht,cl,hu⟩:=aN (T:=tab) X G h29 (by kernel_rfl);obtain⟨_,hv,cr,hy⟩:=aN (T:=tab) X G h30 (by kernel_rfl);obtain⟨_,cS,q,df⟩:=aN (T:=tab) X G h31 (by kernel_rfl);cases cC.symm.trans q.named;have ct:xm K mg w:=Co ((PySem.W.mg_of X G c0).trans (congrArg some c1)) c2 c3 c4 c5 c7 c6;have pr:Aq tab K mg defs w:=by
  refine⟨rfl,⟨⟨_,_,_,D0,_,D0.binds,.nil⟩,⟨_,_,_,D1,_,D1.binds,.nil⟩,⟨_,_,_,D2,_,D2.binds,.nil⟩,⟨_,_,_,D3,_,D3.binds,.nil⟩,⟨_,_,_,D4,_,D4.binds,.nil⟩,⟨_,_,_,D5,_,D5.binds,.nil⟩,⟨_,_,_,D6,_,D6.binds,.nil⟩,⟨_,_,_,D7,_,D7.binds,.nil⟩,⟨_,_,_,D8,_,D8.binds,.nil⟩,⟨_,_,_,D9,_,D9.binds,.nil⟩,⟨_,_,_,ap,_,ap.binds,.nil⟩,⟨_,_,_,aO,_,aO.binds,.nil⟩,⟨_,_,_,a0,_,a0.binds,.nil⟩,⟨_,_,_,a1,_,a1.binds,.nil⟩,⟨_,_,_,a2,_,a2.binds,.nil⟩,⟨_,_,_,a3,_,a3.binds,.nil⟩,⟨_,_,_,a4,_,a4.binds,.nil⟩,⟨_,_,_,a5,_,a5.binds,.nil⟩,⟨_,_,_,a6,_,a6.binds,.nil⟩,⟨_,_,_,a7,_,a7.binds,.nil⟩,⟨_,_,_,a8,_,a8.binds,.nil⟩,⟨_,_,_,b1,_,b1.binds,.nil⟩,⟨_,_,_,b2,_,b2.binds,.nil⟩,⟨_,_,_,b3,_,b3.binds,.nil⟩,⟨_,_,_,b4,_,b4.binds,.nil⟩,⟨_,_,_,b5,_,b5.binds,.nil⟩,⟨_,_,_,b6,_,b6.binds,.nil⟩,⟨_,_,_,cd,_,cd.binds,.nil⟩,⟨_,_,_,ck,_,ck.binds,.nil⟩,⟨_,_,_,cl,_,cl.binds,.nil⟩,⟨_,_,_,cr,_,cr.binds,.nil⟩,⟨_,_,_,q,_,q.binds,.nil⟩,trivial⟩,λx hx=>PySem.W.mg_none_of X G (zs x hx),λp hp=>?_,ct,λC' h'=>by
   cases aC.symm.trans h';obtain⟨fl,dm,l1,l2,l3⟩:=mL;obtain⟨fn,dV,k1,k2,k3⟩:=mN;have z:=PySem.W.mg_none_of X G (zs "len" (by decide));exact⟨⟨pg,hd,po,sa⟩,⟨fl,dm,_,l1,l3,λP w base=>yE l2 ⟨pg,hd,po,sa⟩ n0 n1 z⟩,fn,dV,_,k1,k3,λP w base=>CZ k2 ⟨pg,hd,po,sa⟩ n0 n1 l1 l3 (yE l2 ⟨pg,hd,po,sa⟩ n0 n1 z)⟩,⟨C,aC,PySem.W.mg_of X G aC,fI,D,_,⟨mk,ai,ii,kc⟩,bI,λP w base=>CY DI ⟨pg,hd,po,sa⟩ n0 n1⟩⟩
  ·simp only[tab,mem_cons,not_mem_nil,or_false]at hp;rcases hp with rfl|rfl|rfl|rfl|rfl
   ·exact⟨_,PySem.W.mg_of X G g0,r0⟩
   ·exact⟨_,PySem.W.mg_of X G g1,r1⟩
   ·exact⟨_,PySem.W.mg_of X G g2,r2⟩
   ·exact⟨_,PySem.W.mg_of X G g3,r3⟩
   ·exact⟨_,PySem.W.mg_of X G g4,r4⟩
 exact⟨cS,df,λbase _ _=>Cr (by decide) pr 40 31 rB rfl _ _ _ q⟩
theorem Er{l:PySem.W.OpenLaw}{q:Program}{D:List Str}{Z:(Str->Option Value)->Heap->Prop}{U:World->Heap->Prop}{d:DefRec}{K:Params->PySem.W.Frag}(hn:l.most=some 63)(J:d.params.defaults=[])
  (hY:∀(w:World) (h:Heap),U w h->(K w.params).In h)
  (F:∀(w:World) (mg:Str->Option Value) (Y:Addr) (h:Heap),(K w.params).In h->h.Ns mainGlobals mg->mg d.name=some (.ref Y) ->
   ∃fd:FuncData,(∀(s:Shared) (u:Value),BindsTo s fd ⟨[u],[]⟩ [("script",u)])/\∀base:Heap,(K w.params).In base->base.Ns mainGlobals mg->de l.prog w (K w.params) mg base CX0 40 Y fd ["script"] (spM (K w.params) (aa defs 40) 31)) :
  PySem.W.WalkO q D Z U l.row.toRowW d [] (λf vs=>PySem.call f vs):=
 L2.wA (n:=63) (k:=40) (x:="script") (CX:=λ_=>CX0) (sp:=λw=>spM (K w.params) (aa defs 40) 31) hn (by decide) J ⟨rfl,by decide,by decide⟩ hY F (λ_ _ a ns hl _ hS=>Ar (vT ns hl) hS) λ_ _ _ _ _ z=>z
end My
open PySem PySem.W PyProof.Rows List Option
set_option maxRecDepth 100000 in
set_option maxHeartbeats 0 in
theorem PySem.Challenge.cw_mothloom_k69_papers_read_holds : PySem.Challenge.rw_mothloom_k69_papers_read.Holds := by
 w_on;o_law;k_head;(case hw=>w_witness2)
 k_fill
 refine My.Er (l:=PySem.Challenge.rw_mothloom_k69_papers_read) rfl rfl (λw h Y=>PySem.W.kIn_of Y) ?F
 case F =>
  intro w mg fa h KX G hmg
  refine' My.AV KX G hmg ?aC ?pg ?hd ?po ?sa ?mk ?kc ?n0 ?n1 ?ai ?ii ?DI ?bI ?mL ?mN ?h0 ?h1 ?h2 ?h3 ?h4 ?h5 ?h6 ?h7 ?h8 ?h9 ?h10 ?h11 ?h12 ?h13 ?h14 ?h15 ?h16 ?h17 ?h18 ?h19 ?h20 ?h21 ?h22 ?h23 ?h24 ?h25 ?h26 ?h27 ?h28 ?h29 ?h30 ?h31 ?zs ?gq0 ?rq0 ?gq1 ?rq1 ?gq2 ?rq2 ?gq3 ?rq3 ?gq4 ?rq4 ?c0 ?c1 ?c2 ?c3 ?c4 ?c5 ?c6 ?c7
  (case aC=>k_is)
  (case pg=>k_is)
  (case hd=>k_is)
  (case po=>k_is)
  (case sa=>k_is)
  (case mk=>k_is)
  (case kc=>k_is)
  (case n0=>k_is)
  (case n1=>k_is)
  (case ai=>k_is)
  (case ii=>k_is)
  (case DI=>refine' .mk' (d0:=.none) ?kl ?kc ?kk;(case kl=>k_is);(case kc=>k_is);(case kk=>k_is))
  (case bI=>exact MM.bn2 λ_ _=>rfl)
  (case mL=>refine' ⟨_,_,⟨?ka,?ki,?ku⟩,.mk' (d0:=.none) ?kl ?kc ?kk,MM.bn1 λ_=>rfl⟩;(case ka=>k_is);(case ki=>k_is);(case ku=>k_is);(case kl=>k_is);(case kc=>k_is);(case kk=>k_is))
  (case mN=>refine' ⟨_,_,⟨?ka,?ki,?ku⟩,.mk' (d0:=.none) ?kl ?kc ?kk,MM.bn1 λ_=>rfl⟩;(case ka=>k_is);(case ki=>k_is);(case ku=>k_is);(case kl=>k_is);(case kc=>k_is);(case kk=>k_is))
  (case h0|h2|h3|h4|h5|h6|h9|h10|h12|h13|h14|h15|h16|h20|h22|h24|h27|h28|h29=>refine' ⟨rfl,_,_,?ka,.mk' (d0:=.none) ?kl ?kc ?kk,MM.bn1 λ_=>rfl,trivial⟩;(case ka=>k_is);(case kl=>k_is);(case kc=>k_is);(case kk=>k_is))
  (case h1|h7|h8|h11|h19|h21|h23|h26|h30=>refine' ⟨rfl,_,_,?ka,.mk' (d0:=.none) ?kl ?kc ?kk,MM.bn2 λ_ _=>rfl,trivial⟩;(case ka=>k_is);(case kl=>k_is);(case kc=>k_is);(case kk=>k_is))
  (case h17|h18|h25=>refine' ⟨rfl,_,_,?ka,.mk' (d0:=.none) ?kl ?kc ?kk,MM.bn3 λ_ _ _=>rfl,trivial⟩;(case ka=>k_is);(case kl=>k_is);(case kc=>k_is);(case kk=>k_is))
  (case h31=>refine' ⟨rfl,_,_,?ka,.mk' (d0:=.none) ?kl ?kc ?kk,MM.bn1 λ_=>rfl,λs v=>.of_eq rfl⟩;(case ka=>k_is);(case kl=>k_is);(case kc=>k_is);(case kk=>k_is))
  (case zs=>intro x hx;simp only[MM.iG,mem_cons,not_mem_nil,or_false]at hx;rcases hx with rfl|rfl|rfl|rfl|rfl|rfl|rfl|rfl|rfl|rfl|rfl|rfl|rfl|rfl|rfl|rfl|rfl|rfl<;>k_is)
  (case gq0=>k_is);(case rq0=>exact⟨_,rfl⟩)
  (case gq1=>k_is);(case rq1=>exact⟨_,rfl⟩)
  (case gq2=>k_is);(case rq2=>exact⟨_,rfl⟩)
  (case gq3=>k_is);(case rq3=>exact⟨_,rfl⟩)
  (case gq4=>k_is);(case rq4=>exact⟨_,rfl⟩)
  (case c0=>k_is);(case c1=>exact rfl);(case c2=>k_is);(case c3=>exact⟨rfl,rfl,rfl⟩);(case c4=>exact rfl)
  (case c5=>exact⟨rfl,rfl,rfl,rfl,rfl,rfl,rfl,rfl,rfl,rfl,trivial⟩);(case c6=>kernel_rfl);(case c7=>kernel_rfl)
