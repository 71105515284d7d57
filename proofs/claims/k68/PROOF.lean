import PyProof.Rows.All
import Wide.All
import OpenK.AllK
import Wide.FinOn
import Lean
import PyProof.EqAt
import PyProof.EqKinds
import PyProof.TupleCall
import PyProof.ZipIter
import PySem.Challenge.RW_mothloom_k68_papers_written
set_option Elab.async false
set_option linter.all false
set_option maxRecDepth 100000
set_option genSizeOf false
set_option backward.eqns.nonrecursive false
set_option bootstrap.genMatcherCode false
namespace L2
open PySem PySem.Spec PyProof.Rows
noncomputable abbrev Key:=Sum Int Str
noncomputable def keyIs:Key -> Value -> Bool
 | .inl k,v => Value.isInt k v
 | .inr x,v => Value.isStrOf x v
noncomputable def keyH (w:World):Key -> Int
 | .inl k => hashInt k
 | .inr x => hashStr w x
theorem keyIs_shape:∀ {k:Key} {v:Value},keyIs k v = true -> (∃ i t,k = Sum.inl i /\ v = Value.int i t) \/ (∃ x t,k = Sum.inr x /\ v = Value.str x t)
 | .inl i,v,h => by
  obtain ⟨t,e⟩:=Value.isInt_shape (k:=i) (v:=v) h
  exact .inl ⟨i,t,rfl,e⟩
 | .inr x,v,h => by
  obtain ⟨t,e⟩:=Value.isStrOf_shape (x:=x) (v:=v) h
  exact .inr ⟨x,t,rfl,e⟩
theorem keyIs_int (i:Int) (t:Tok):keyIs (.inl i) (.int i t) = true:=by simp [keyIs,Value.isInt]
theorem keyIs_str (x:Str) (t:Tok):keyIs (.inr x) (.str x t) = true:=by simp [keyIs,Value.isStrOf]
theorem key_ll (a b:Int):decide ((Sum.inl a:Key) = Sum.inl b) = (a == b):=by
 by_cases e:a = b
 ·subst e; simp
 ·have h:¬ (Sum.inl a:Key) = Sum.inl b:=fun q => e (Sum.inl.inj q)
  rw [decide_eq_false h]
  exact (beq_eq_false_iff_ne.mpr e).symm
theorem key_rr (a b:Str):decide ((Sum.inr a:Key) = Sum.inr b) = decide (a = b):=by
 by_cases e:a = b
 ·subst e; simp
 ·have h:¬ (Sum.inr a:Key) = Sum.inr b:=fun q => e (Sum.inr.inj q)
  rw [decide_eq_false h,decide_eq_false e]
theorem key_lr (a:Int) (b:Str):decide ((Sum.inl a:Key) = Sum.inr b) = false:=decide_eq_false (fun q => nomatch q)
theorem key_rl (a:Str) (b:Int):decide ((Sum.inr a:Key) = Sum.inl b) = false:=decide_eq_false (fun q => nomatch q)
noncomputable def mixKind (prog:Program) (w:World):PySem.KeyKind prog w Key where
 is:=keyIs
 hash:=keyH w
 inj:=fun v a b ha hb => by
  rcases keyIs_shape ha with ⟨i,t,rfl,rfl⟩ | ⟨x,t,rfl,rfl⟩
  ·rcases keyIs_shape hb with ⟨j,u,rfl,e⟩ | ⟨y,u,rfl,e⟩
   ·injection e with e1 _; rw [e1]
   ·exact nomatch e
  ·rcases keyIs_shape hb with ⟨j,u,rfl,e⟩ | ⟨y,u,rfl,e⟩
   ·exact nomatch e
   ·injection e with e1 _; rw [e1]
 byValue:=fun k v h => by
  rcases keyIs_shape h with ⟨i,t,rfl,rfl⟩ | ⟨x,t,rfl,rfl⟩ <;> rfl
 pyHash:=fun hv h => by
  rcases keyIs_shape hv with ⟨i,t,rfl,rfl⟩ | ⟨x,t,rfl,rfl⟩
  ·exact wpAny_pyHash_int h
  ·exact wpAny_pyHash_str h
 eqBool:=fun hu hv h => by
  rcases keyIs_shape hu with ⟨i,t,rfl,rfl⟩ | ⟨x,t,rfl,rfl⟩
  ·rcases keyIs_shape hv with ⟨j,u,rfl,rfl⟩ | ⟨y,u,rfl,rfl⟩
   ·rw [key_ll] at h; exact wpAny_eqBool_int h
   ·rw [key_lr] at h; exact SeqAt.EqAt.int_str i t y u _ _ _ _ h
  ·rcases keyIs_shape hv with ⟨j,u,rfl,rfl⟩ | ⟨y,u,rfl,rfl⟩
   ·rw [key_rl] at h; exact SeqAt.EqAt.str_int x t j u _ _ _ _ h
   ·rw [key_rr] at h; exact wpAny_eqBool_str h
 «strs»:=fun k x t v h => by
  rcases keyIs_shape h with ⟨i,u,rfl,e⟩ | ⟨y,u,rfl,e⟩
  ·exact nomatch e
  ·injection e with e1 _
   subst e1
   cases v <;> rfl
theorem mixKind_int (prog:Program) (w:World) (i:Int) (t:Tok):(mixKind prog w).is (.inl i) (.int i t) = true:=keyIs_int i t
theorem mixKind_str (prog:Program) (w:World) (x:Str) (t:Tok):(mixKind prog w).is (.inr x) (.str x t) = true:=keyIs_str x t
end L2
namespace L2
open PySem PySem.Spec PyProof.Rows
inductive V where
 | non | bl (b:Bool) | int (i:Int) | str (x:Str) | byt (b:Array UInt8) | flt (b:UInt64) | ref (a:Addr) | ty (n:String)
 deriving DecidableEq
noncomputable def RelV:V -> Value -> Prop
 | .non,u => u = Value.none
 | .bl b,u => u = Value.bool b
 | .int i,u => ∃ t,u = Value.int i t
 | .str x,u => ∃ t,u = Value.str x t
 | .byt b,u => ∃ t,u = Value.bytes b t
 | .flt b,u => ∃ t,u = Value.float b t
 | .ref a,u => u = Value.ref a
 | .ty n,u => u = Value.type n
noncomputable abbrev Vals:List V -> List Value -> Prop:=Paired RelV
theorem Vals.length {xs:List V} {us:List Value} (r:Vals xs us):xs.length = us.length:=Paired.length r
theorem Vals.get:∀ {xs:List V} {us:List Value} {i:Nat} {x:V},Vals xs us -> xs[i]? = some x -> ∃ u,us[i]? = some u /\ RelV x u
 | _,_,_,_,.nil,e => by simp at e
 | _,_,0,_,.cons r _,e => by simp at e; subst e; exact ⟨_,rfl,r⟩
 | _,_,i + 1,x,.cons _ t,e => by
  obtain ⟨u,h1,h2⟩:=Vals.get (i:=i) (x:=x) t (by simpa using e)
  exact ⟨u,by simpa using h1,h2⟩
theorem Vals.set {x:V} {u:Value} (r:RelV x u):∀ {xs:List V} {us:List Value} (i:Nat),Vals xs us -> Vals (xs.set i x) (us.set i u)
 | _,_,_,.nil => .nil
 | _,_,0,.cons _ t => .cons r t
 | _,_,i + 1,.cons q t => .cons q (Vals.set r i t)
theorem Vals.append:∀ {xs ys:List V} {us ws:List Value},Vals xs us -> Vals ys ws -> Vals (xs ++ ys) (us ++ ws)
 | _,_,_,_,.nil,s => s
 | _,_,_,_,.cons r t,s => .cons r (Vals.append t s)
theorem Vals.take:∀ {xs:List V} {us:List Value} (n:Nat),Vals xs us -> Vals (xs.take n) (us.take n)
 | _,_,0,_ => .nil
 | _,_,_ + 1,.nil => .nil
 | _,_,n + 1,.cons r t => .cons r (Vals.take n t)
theorem Vals.drop:∀ {xs:List V} {us:List Value} (n:Nat),Vals xs us -> Vals (xs.drop n) (us.drop n)
 | _,_,0,r => r
 | _,_,_ + 1,.nil => .nil
 | _,_,n + 1,.cons _ t => Vals.drop n t
noncomputable def RelO:Option V -> Option Value -> Prop
 | some v,some u => RelV v u
 | none,none => True
 | _,_ => False
noncomputable def KV {κ:Type}:List (κ × V) -> List (κ × Value) -> Prop:=Paired fun (p:κ × V) (q:κ × Value) => p.1 = q.1 /\ RelV p.2 q.2
noncomputable def kV:Key -> V
 | .inl i => .int i
 | .inr x => .str x
inductive HO where
 | lst (xs:List V)
 | tup (xs:List V)
 | dK (kvs:List (Key × V)) | dT (kvs:List (List Key × V))
 | set (S:Int -> Bool) (n:Nat)
 | ins (C dx:Addr) (fs:List (Str × V))
 | own (x:Addr)
 | xd (fs:List (Str × V))
 | met (f x:Addr)
 | rng (lo hi:Int)
 | frz (o:Obj) (u:HO)
 | tbl (ps:Array Value)
 | ext (φ:Heap -> Prop)
noncomputable abbrev Hp:=Addr -> Option HO
noncomputable def upd (H:Hp) (a:Addr) (o:HO):Hp:=fun b => if b = a then some o else H b
theorem upd_same {H:Hp} {a:Addr} {o:HO}:upd H a o a = some o:=by unfold upd; rw [if_pos rfl]
theorem upd_ne {H:Hp} {a b:Addr} {o:HO} (h:b ≠ a):upd H a o b = H b:=by unfold upd; rw [if_neg h]
theorem ne_of_none {H:Hp} {a b:Addr} {o:HO} (h:H a = some o) (h':H b = none):a ≠ b:=by
 intro e; subst e; rw [h] at h'; cases h'
section
variable (P:Program) (w:World)
noncomputable def ObjOk (H:Hp) (h:Heap) (a:Addr):HO -> Prop
 | .lst xs => xs.length <= sizeLine /\ ∃ (its:List Value) (n:Nat),Vals xs its /\ h.get? a = some { cls:=.type "list",data:=.seq its.toArray n }
 | .tup xs => xs.length <= sizeLine /\ ∃ its:List Value,Vals xs its /\ IsTup h a its.toArray
 | .dK kvs => kvs.length <= sizeLine /\ (a == sysModules) = false /\ ∃ vs,KV kvs vs /\ h.DictOf (mixKind P w) a vs
 | .dT kvs => kvs.length <= sizeLine /\ (a == sysModules) = false /\ ∃ xs:List (List Key × Addr × Value),
   Paired (fun (p:List Key × V) (q:List Key × Addr × Value) => p.1 = q.1 /\ H q.2.1 = some (.tup (p.1.map kV)) /\ RelV p.2 q.2.2) kvs xs /\
   ∃ o es ep,h.get? a = some o /\ o.ExactDict /\ o.data = .dict es ep /\ es.toList = xs.map (entryOfKey (tupleKind (mixKind P w))) /\ (xs.map (·.1)).Nodup
 | .set S n => h.SetOf (intKind P w) a S n
 | .ins C dx fs => H dx = some (.own a) /\ fs.length <= 1000 /\ dx ≠ a /\ h.get? a = some (PySem.W.instObj C dx) /\
   ∃ mA,h.Ns1 dx mA /\ (∀ f,RelO (fs.lookup f) (mA f)) /\ PySem.Within mA (fs.map (·.1))
 | .own _ => ∃ o,h.get? a = some o
 | .xd fs => ∃ mA,h.Ns1 a mA /\ ∀ f,RelO (fs.lookup f) (mA f)
 | .rng lo hi => ∃ t u v,h.get? a = some { cls:=.type "range",data:=.fields #[.int lo t,.int hi u,.int 1 v] }
 | .frz o u => h.get? a = some o /\ ObjOk H h a u
 | .tbl ps => h.get? a = some { cls:=.none,data:=.fields ps }
 | .met f x => h.get? a = some (PySem.W.methodObj (.ref f) (.ref x))
 | .ext φ => φ h /\ (∃ o,h.get? a = some o) /\ ∀ h1 h2:Heap,φ h1 -> (∀ o,h1.get? a = some o -> h2.get? a = some o) -> φ h2
noncomputable def HOk (H:Hp) (h:Heap):Prop:=∀ a o,H a = some o -> ObjOk P w H h a o
end
section
variable {P:Program} {w:World} {H H':Hp} {h h':Heap} {a:Addr} {o:HO}
theorem ObjOk.lt (x:ObjOk P w H h a o):a < h.objs.size:=by
 cases o with
 | lst xs => obtain ⟨_,_,_,_,e⟩:=x; exact Heap.lt_size e
 | tup xs => obtain ⟨_,_,_,p⟩:=x; exact p.lt
 | dK kvs => obtain ⟨_,_,_,_,o,_,_,e,_⟩:=x; exact Heap.lt_size e
 | dT kvs => obtain ⟨_,_,_,_,o,_,_,e,_⟩:=x; exact Heap.lt_size e
 | set S n => obtain ⟨o,_,_,_,e,_⟩:=x; exact Heap.lt_size e
 | ins C dx fs => obtain ⟨_,_,_,e,_⟩:=x; exact Heap.lt_size e
 | own y => obtain ⟨_,e⟩:=x; exact Heap.lt_size e
 | xd fs => obtain ⟨_,⟨_,_,_,e,_⟩,_⟩:=x; exact Heap.lt_size e
 | rng lo hi => obtain ⟨_,_,_,e⟩:=x; exact Heap.lt_size e
 | frz ob u => obtain ⟨e,_⟩:=x; exact Heap.lt_size e
 | tbl ps => exact Heap.lt_size (show h.get? a = some _ from x)
 | met f y => exact Heap.lt_size (show h.get? a = some _ from x)
 | ext φ => obtain ⟨_,⟨_,e⟩,_⟩:=x; exact Heap.lt_size e
theorem Paired.mapP {α β:Type} {F G:α -> β -> Prop}:∀ {l₁:List α} {l₂:List β},Paired F l₁ l₂ -> (∀ a b,F a b -> G a b) -> Paired G l₁ l₂
 | _,_,.nil,_ => .nil
 | _,_,.cons r t,f => .cons (f _ _ r) (Paired.mapP t f)
theorem ObjOk.stay (x:ObjOk P w H h a o) (k:∀ b u,(b = a \/ H b = some (.own a)) -> h.get? b = some u -> h'.get? b = some u)
  (ho:∀ b,H b = some (.own a) -> H' b = some (.own a)) (ht:∀ b xs,H b = some (.tup xs) -> H' b = some (.tup xs)):ObjOk P w H' h' a o:=by
 induction o with
 | lst xs => obtain ⟨z,its,n,r,e⟩:=x; exact ⟨z,its,n,r,k _ _ (.inl rfl) e⟩
 | tup xs => obtain ⟨z,its,r,ob,e,c⟩:=x; exact ⟨z,its,r,ob,k _ _ (.inl rfl) e,c⟩
 | dK kvs => obtain ⟨z,y,vs,r,ob,es,ep,e,c⟩:=x; exact ⟨z,y,vs,r,ob,es,ep,k _ _ (.inl rfl) e,c⟩
 | dT kvs =>
  obtain ⟨z,y,xs,r,ob,es,ep,e,c⟩:=x
  exact ⟨z,y,xs,Paired.mapP r fun p q z => ⟨z.1,ht _ _ z.2.1,z.2.2⟩,ob,es,ep,k _ _ (.inl rfl) e,c⟩
 | set S n => obtain ⟨ob,es,ep,t,e,c⟩:=x; exact ⟨ob,es,ep,t,k _ _ (.inl rfl) e,c⟩
 | ins C dx fs =>
  obtain ⟨d,z,ne,e,mA,⟨od,es,ep,e2,c⟩,r⟩:=x
  exact ⟨ho _ d,z,ne,k _ _ (.inl rfl) e,mA,⟨od,es,ep,k _ _ (.inr d) e2,c⟩,r⟩
 | own y => obtain ⟨ob,e⟩:=x; exact ⟨ob,k _ _ (.inl rfl) e⟩
 | xd fs => obtain ⟨mA,⟨od,es,ep,e,c⟩,r⟩:=x; exact ⟨mA,⟨od,es,ep,k _ _ (.inl rfl) e,c⟩,r⟩
 | rng lo hi => obtain ⟨t,u,v,e⟩:=x; exact ⟨t,u,v,k _ _ (.inl rfl) e⟩
 | frz ob u ih => obtain ⟨e,q⟩:=x; exact ⟨k _ _ (.inl rfl) e,ih q⟩
 | tbl ps =>
  have e:h.get? a = some { cls:=.none,data:=.fields ps }:=x
  show h'.get? a = some { cls:=.none,data:=.fields ps }
  exact k a _ (.inl rfl) e
 | met f y =>
  have e:h.get? a = some (PySem.W.methodObj (.ref f) (.ref y)):=x
  show h'.get? a = some (PySem.W.methodObj (.ref f) (.ref y))
  exact k a _ (.inl rfl) e
 | ext φ => obtain ⟨p,⟨o,e⟩,st⟩:=x; exact ⟨st _ _ p fun o q => k _ _ (.inl rfl) q,⟨o,k _ _ (.inl rfl) e⟩,st⟩
theorem HOk.lt (x:HOk P w H h) (e:H a = some o):a < h.objs.size:=(x a o e).lt
theorem HOk.fresh (x:HOk P w H h) (e:h.objs.size <= a):H a = none:=by
 cases q:H a with
 | none => rfl
 | some u => exact absurd (Nat.lt_of_lt_of_le (x.lt q) e) (Nat.lt_irrefl _)
theorem HOk.kept (x:HOk P w H h) (k:∀ b u,h.get? b = some u -> h'.get? b = some u):HOk P w H h':=fun a o e =>
 (x a o e).stay (fun b u _ q => k b u q) (fun _ q => q) fun _ _ q => q
theorem HOk.laid (x:HOk P w H h) (k:∀ b u,h.get? b = some u -> h'.get? b = some u) (hp:h.objs.size <= a) (new:ObjOk P w (upd H a o) h' a o):HOk P w (upd H a o) h':=fun b u e => by
 have hn:=x.fresh hp
 by_cases hb:b = a
 ·subst hb; rw [upd_same] at e; cases e; exact new
 ·rw [upd_ne hb] at e
  exact (x b u e).stay (fun c v _ q => k c v q) (fun c q => by rw [upd_ne (ne_of_none q hn)]; exact q) fun c xs q => by rw [upd_ne (ne_of_none q hn)]; exact q
end
noncomputable def Rd (H:Hp) (a:Addr) (u:HO):Prop:=H a = some u \/ ∃ o,H a = some (.frz o u)
theorem Rd.ok {P:Program} {w:World} {H:Hp} {h:Heap} {a:Addr} {u:HO} (r:Rd H a u) (x:HOk P w H h):ObjOk P w H h a u:=by
 rcases r with r | ⟨o,r⟩
 ·exact x a u r
 ·obtain ⟨_,q⟩:=x a _ r
  exact q
noncomputable def Mut:Option HO -> Prop
 | some (.lst _) => True
 | some (.dK _) => True
 | some (.dT _) => True
 | some (.set _ _) => True
 | some (.ins _ _ _) => True
 | some (.ext _) => True
 | _ => False
section
variable {P:Program} {w:World} {H:Hp} {h h':Heap} {x e:Addr} {o':HO}
theorem HOk.write (ok:HOk P w H h) (mu:Mut (H x)) (he:e = x \/ H e = some (.own x)) (k:∀ b u,b ≠ e -> h.get? b = some u -> h'.get? b = some u) (heo:∃ u,h'.get? e = some u)
  (new:ObjOk P w (upd H x o') h' x o'):HOk P w (upd H x o') h':=fun b u q => by
 have nown:∀ c y,H c = some (.own y) -> c ≠ x:=fun c y r z => by subst z; rw [r] at mu; exact mu
 have ntup:∀ c xs,H c = some (.tup xs) -> c ≠ x:=fun c xs r z => by subst z; rw [r] at mu; exact mu
 by_cases hb:b = x
 ·subst hb; rw [upd_same] at q; cases q; exact new
 ·rw [upd_ne hb] at q
  by_cases hbe:b = e
  ·have q':H b = some (.own x):=by
    rcases he with z | z
    ·exact absurd (hbe.trans z) hb
    ·rw [hbe]; exact z
   rw [q] at q'; cases q'
   obtain ⟨v,hv⟩:=heo
   exact ⟨v,by rw [hbe]; exact hv⟩
  ·refine (ok b u q).stay (fun c v hc r => k c v ?_ r) (fun c r => by rw [upd_ne (nown c b r)]; exact r) fun c xs r => by rw [upd_ne (ntup c xs r)]; exact r
   rcases hc with rfl | hc
   ·exact hbe
   ·rintro rfl
    rcases he with z | z
    ·exact nown c b hc z
    ·rw [hc] at z; cases z; exact hb rfl
end
structure Un (fs ex:List Addr) (H H':Hp) (h h':Heap):Prop where
 keep:∀ b o,h.get? b = some o -> H b = none -> b ∉ fs -> b ∉ ex -> h'.get? b = some o
 slot:∀ b o,h.get? b = some o -> H b = none -> b ∈ fs -> b ∉ ex -> ∃ sl,h'.get? b = some { o with slots:=sl }
 free:∀ b o,h.get? b = some o -> H b = none -> b ∉ ex -> H' b = none
 there:∀ b o,h.get? b = some o -> b ∉ ex -> ∃ o',h'.get? b = some o'
 tups:∀ b xs,H b = some (.tup xs) -> H' b = some (.tup xs)
 frzs:∀ b o u,H b = some (.frz o u) -> H' b = some (.frz o u)
 tbls:∀ b ps,H b = some (.tbl ps) -> ∃ more,H' b = some (.tbl (ps ++ more))
section
variable {fs fs' ex ex':List Addr} {H H1 H2:Hp} {h h1 h2 h':Heap} {a x e:Addr} {o:HO}
theorem Un.any (u:Un fs ex H H1 h h1) {b:Addr} {ob:Obj} (q:h.get? b = some ob) (n:H b = none) (hx:b ∉ ex):∃ sl,h1.get? b = some { ob with slots:=sl }:=by
 by_cases hb:b ∈ fs
 ·exact u.slot b ob q n hb hx
 ·exact ⟨ob.slots,u.keep b ob q n hb hx⟩
theorem Un.kept (k:∀ b u,h.get? b = some u -> h'.get? b = some u):Un fs ex H H h h' :=
 ⟨fun b ob q _ _ _ => k b ob q,fun b ob q _ _ _ => ⟨ob.slots,k b ob q⟩,fun _ _ _ n _ => n,fun b ob q _ => ⟨ob,k b ob q⟩,fun _ _ q => q,fun _ _ _ q => q,fun _ ps q => ⟨#[],by rw [q]; simp⟩⟩
theorem Un.refl:Un fs ex H H h h:=Un.kept fun _ _ q => q
theorem Un.laid (k:∀ b u,h.get? b = some u -> h'.get? b = some u) (hp:h.objs.size <= a) (hn:H a = none):Un fs ex H (upd H a o) h h' where
 keep:=fun b u q _ _ _ => k b u q
 slot:=fun b u q _ _ _ => ⟨u.slots,k b u q⟩
 free:=fun b u q n _ => by rw [upd_ne (Nat.ne_of_lt (Nat.lt_of_lt_of_le (Heap.lt_size q) hp))]; exact n
 there:=fun b u q _ => ⟨u,k b u q⟩
 tups:=fun b xs q => by rw [upd_ne (ne_of_none q hn)]; exact q
 frzs:=fun b u xs q => by rw [upd_ne (ne_of_none q hn)]; exact q
 tbls:=fun b ps q => ⟨#[],by rw [upd_ne (ne_of_none q hn),q]; simp⟩
theorem Un.write (mu:Mut (H x)) (he:e = x \/ H e = some (.own x)) (k:∀ b u,b ≠ e -> h.get? b = some u -> h'.get? b = some u) (heo:∃ u,h'.get? e = some u):Un fs ex H (upd H x o) h h':=by
 have hx:∀ b,H b = none -> b ≠ x:=fun b n z => by subst z; rw [n] at mu; exact mu
 have hb:∀ b,H b = none -> b ≠ e:=fun b n z => by
  subst z
  rcases he with r | r
  ·exact hx b n r
  ·rw [n] at r; cases r
 have hm:∀ b u,H b = some u -> ¬ Mut (some u) -> b ≠ x:=fun b u q nm z => by subst z; rw [q] at mu; exact nm mu
 refine ⟨fun b u q n _ _ => k b u (hb b n) q,fun b u q n _ _ => ⟨u.slots,k b u (hb b n) q⟩,fun b u q n _ => by rw [upd_ne (hx b n)]; exact n,fun b u q _ => ?_,
  fun b xs q => by rw [upd_ne (hm b _ q fun z => z)]; exact q,fun b u xs q => by rw [upd_ne (hm b _ q fun z => z)]; exact q,fun b ps q => ⟨#[],by rw [upd_ne (hm b _ q fun z => z),q]; simp⟩⟩
 by_cases hbe:b = e
 ·subst hbe; exact heo
 ·exact ⟨u,k b u hbe q⟩
end
noncomputable def trk (h:Heap) (H:Hp):List Addr:=(List.range h.objs.size).filter fun a => (H a).isSome
noncomputable def hidT (h:Heap) (H:Hp):Heap:=PySem.W.hideAll h (trk h H)
theorem hidT_size (h:Heap) (H:Hp):(hidT h H).objs.size = h.objs.size:=PySem.W.hideAll_size _ _
theorem hidT_get {h:Heap} {H:Hp} {b:Addr} {o:Obj} (e:h.get? b = some o) (n:H b = none):(hidT h H).get? b = some o :=
 PySem.W.hideAll_get _ e fun hm => by
  have q:(H b).isSome = true:=(List.mem_filter.mp hm).2
  rw [n] at q; simp at q
theorem of_hidT {h:Heap} {H:Hp} {b:Addr} {o:Obj} (e:(hidT h H).get? b = some o):h.get? b = some o /\ H b = none:=by
 have e':h.get? b = some o:=PySem.W.of_hideAll (trk h H) e
 refine ⟨e',?_⟩
 cases q:H b with
 | none => rfl
 | some x =>
  have hm:b ∈ trk h H:=List.mem_filter.mpr ⟨List.mem_range.mpr (Heap.lt_size e'),by simp [q]⟩
  have z:(hidT h H).get? b = none:=PySem.W.hideAll_none (trk h H) hm
  rw [z] at e; cases e
noncomputable def allNews (g h:Heap) (L:Addr):List (Addr × Obj):=(List.range h.objs.size).filterMap fun a => if a = L \/ (g.get? a).isSome = true then none else (h.get? a).map fun o => (a,o)
noncomputable def rest (g h:Heap) (L d:Addr):List (Addr × Obj):=(allNews g h L).filter fun p => decide (p.1 ≠ d)
end L2
namespace L2
open PySem PySem.Spec PyProof.Rows
structure Mod (K:PySem.W.Frag) (mg:Str -> Option Value) (base:Heap):Prop where
 kin:K.In base
 glob:base.Ns mainGlobals mg
 blt:∃ mb,base.Ns builtinsNs mb /\ ∀ x:Str,x ≠ "__name__" -> mb x = bootBuiltins x
 nolimit:base.NoLimit
structure Cx where
 prog:Program
 w:World
 K:PySem.W.Frag
 mg:Str -> Option Value
 base:Heap
 A:Around
 N:List Str
 s₀:Shared
 H₀:Hp
 env:Env
 outer:List Env
 stack:List Env
 ex:List Addr
 fn:Str -> Bool
 calm:Bool
 pn:List (Addr × Obj)
 xe:Value -> Shared -> Prop
noncomputable def frs (l:List Env):List Addr:=l.filterMap (·.frame)
noncomputable abbrev Cx.fs (X:Cx):List Addr:=frs X.outer
noncomputable def Vis (sc:Scope) (x:Str):Prop:=sc.names.lookup x = some .local \/ sc.names.lookup x = some .cell \/ sc.names.lookup x = some .free
noncomputable def Loc (sc:Scope) (x:Str):Prop:=sc.names.lookup x = some .local \/ sc.names.lookup x = some .cell
noncomputable def Look (env:Env) (h:Heap) (m:Str -> Option Value) (x:Str) (u:Value):Prop :=
 (env.kindOf x = some .local /\ m x = some u) \/ ((env.kindOf x = some .cell \/ env.kindOf x = some .free) /\ ∃ c,env.cells.lookup x = some c /\ h.IsCell c (some u))
structure Cx.Ok (X:Cx):Prop where
 mod:Mod X.K X.mg X.base
 kind:X.env.scope.kind = .function
 glob:X.env.globals = mainGlobals
 blt:X.env.builtins = builtinsNs
 above:X.s₀.heap.objs.size <= X.env.locals
 inj:∀ x y c,X.env.cells.lookup x = some c -> X.env.cells.lookup y = some c -> x = y
 has:∀ x,(X.env.kindOf x = some .cell \/ X.env.kindOf x = some .free) -> ∃ c,X.env.cells.lookup x = some c
 cab:∀ x c,X.fn x = true -> X.env.cells.lookup x = some c -> X.s₀.heap.objs.size <= c
 hd:X.calm = true -> X.A.handled = none
 frames:X.A.frames = some X.stack
 stk:X.stack = X.outer \/ (X.stack = X.env :: X.outer /\ X.env.frame = some X.env.locals)
 exf:∀ b ∈ X.ex,b ≠ X.env.locals /\ ∀ x c,X.env.cells.lookup x = some c -> c ≠ b
 bs:∀ b o,X.base.get? b = some o -> X.s₀.heap.get? b = some o /\ X.H₀ b = none
 bsz:X.base.objs.size <= X.s₀.heap.objs.size
 noex:∀ b o,X.base.get? b = some o -> b ∉ X.ex
 exfs:∀ b ∈ X.ex,b ∉ X.fs
 funs:X.s₀.heap.FunFrames X.base X.outer
 frf:∀ b ∈ X.fs,X.H₀ b = none
structure Inv (X:Cx) (pins:List (Addr × Obj)) (σ:List (Option V)) (H:Hp) (s:Shared):Prop where
 ok:X.Ok
 os:s.os = X.s₀.os
 bare:AllBare s.gens
 base:Un X.fs X.ex X.H₀ H X.s₀.heap s.heap
 loc:∃ m,s.heap.Ns X.env.locals m /\ ∀ (i:Nat) (x:Str) (v:V),X.N[i]? = some x -> σ[i]? = some (some v) -> Vis X.env.scope x -> ∃ u,RelV v u /\ Look X.env s.heap m x u
 cell:∀ x c,X.env.cells.lookup x = some c -> ∃ v,s.heap.IsCell c v
 free:H X.env.locals = none
 freeC:∀ x c,X.env.cells.lookup x = some c -> H c = none
 pin:∀ p ∈ X.pn ++ pins,s.heap.get? p.1 = some p.2 /\ H p.1 = none /\ p.1 ≠ X.env.locals /\ p.1 ∉ X.fs /\ ∀ v,p.2.data ≠ .cell v
 hok:HOk X.prog X.w H s.heap
 len:σ.length = X.N.length
section
variable {X:Cx} {pins:List (Addr × Obj)} {σ:List (Option V)} {H H':Hp} {s:Shared} {h':Heap}
theorem Cx.Ok.nofr (ok:X.Ok) {b:Addr} {o:Obj} (e:X.base.get? b = some o):b ∉ X.fs:=fun hb => by
 have:=(ok.funs.mem hb).1
 rw [e] at this; cases this
theorem Inv.bs (I:Inv X pins σ H s):∀ b o,X.base.get? b = some o -> s.heap.get? b = some o /\ H b = none:=fun b o e =>
 ⟨I.base.keep b o (I.ok.bs b o e).1 (I.ok.bs b o e).2 (I.ok.nofr e) (I.ok.noex b o e),I.base.free b o (I.ok.bs b o e).1 (I.ok.bs b o e).2 (I.ok.noex b o e)⟩
theorem Inv.bk (I:Inv X pins σ H s):∀ b o,X.base.get? b = some o -> s.heap.get? b = some o:=fun b o e => (I.bs b o e).1
theorem Inv.mod (I:Inv X pins σ H s):Mod X.K X.mg X.base:=I.ok.mod
theorem Inv.kIn (I:Inv X pins σ H s):X.K.In s.heap:=I.ok.mod.kin.keeps I.bk
theorem Inv.lt (I:Inv X pins σ H s):X.env.locals < s.heap.objs.size:=let ⟨_,hn,_⟩:=I.loc; hn.lt
theorem Inv.sz (I:Inv X pins σ H s):X.s₀.heap.objs.size <= s.heap.objs.size:=Nat.le_trans I.ok.above (Nat.le_of_lt I.lt)
theorem Inv.nofs (I:Inv X pins σ H s) {a:Addr} (h:s.heap.objs.size <= a):a ∉ X.fs:=fun hb => by
 obtain ⟨_,o,ho,_⟩:=I.ok.funs.mem hb
 exact absurd (Nat.lt_of_lt_of_le (Heap.lt_size ho) (Nat.le_trans I.sz h)) (Nat.lt_irrefl _)
theorem Inv.cne (I:Inv X pins σ H s):∀ x c,X.env.cells.lookup x = some c -> c ≠ X.env.locals:=fun x c e z => by
 obtain ⟨v,o,ho,hd⟩:=I.cell x c e
 obtain ⟨m,⟨o',es,ep,ho',hd',_⟩,_⟩:=I.loc
 rw [z,ho'] at ho; cases ho; rw [hd'] at hd; cases hd
theorem Inv.funs (I:Inv X pins σ H s):s.heap.FunFrames X.base X.outer:=by
 have all:∀ (l:List Env),(∀ b ∈ frs l,b ∈ X.fs) -> X.s₀.heap.FunFrames X.base l -> s.heap.FunFrames X.base l:=by
  intro l
  induction l with
  | nil => intro _ _; trivial
  | cons env r ih =>
   intro hs hl
   obtain ⟨hk,⟨L,o,hf,hn,ho,hd⟩,hr⟩:=hl
   have hL:L ∈ X.fs:=hs L (by unfold frs; rw [List.filterMap_cons,hf]; exact List.mem_cons_self)
   obtain ⟨sl,e⟩:=I.base.slot L o ho (I.ok.frf L hL) hL fun z => I.ok.exfs L z hL
   exact ⟨hk,⟨L,_,hf,hn,e,hd⟩,ih (fun b hb => hs b (by unfold frs; rw [List.filterMap_cons,hf]; exact List.mem_cons_of_mem _ hb)) hr⟩
 exact all X.outer (fun _ hb => hb) I.ok.funs
theorem Inv.stack (I:Inv X pins σ H s):s.heap.FunFrames X.base X.stack:=by
 rcases I.ok.stk with e | ⟨e,hf⟩
 ·rw [e]; exact I.funs
 ·rw [e]
  obtain ⟨m,hn,_⟩:=I.loc
  refine .cons (by rw [I.ok.kind]; decide) hf hn ?_ I.funs
  exact Heap.get?_none_of_le (Nat.le_trans I.ok.bsz I.ok.above)
theorem Inv.stkSub (I:Inv X pins σ H s):∀ b ∈ frs X.stack,b ∈ X.env.locals :: X.fs:=fun b hb => by
 rcases I.ok.stk with e | ⟨e,hf⟩
 ·rw [e] at hb; exact List.mem_cons_of_mem _ hb
 ·rw [e] at hb
  unfold frs at hb
  rw [List.filterMap_cons,hf] at hb
  exact hb
theorem Inv.stkFree (I:Inv X pins σ H s):∀ b ∈ frs X.stack,H b = none:=fun b hb => by
 rcases List.mem_cons.mp (I.stkSub b hb) with e | hb
 ·rw [e]; exact I.free
 ·obtain ⟨_,o,ho,_⟩:=I.ok.funs.mem hb
  exact I.base.free b o ho (I.ok.frf b hb) fun z => I.ok.exfs b z hb
theorem Inv.step {g':Array GenState} {t':Nat} {d':Drawn} {ch:List Addr} (I:Inv X pins σ H s)
  (hch:∀ b ∈ ch,(b ∈ X.ex \/ X.s₀.heap.objs.size <= b) /\ b ≠ X.env.locals /\ (∀ x c,X.env.cells.lookup x = some c -> c ≠ b) /\ ∀ p ∈ X.pn ++ pins,p.1 ≠ b)
  (keep:∀ b o,b ≠ X.env.locals -> b ∉ X.fs -> b ∉ ch -> s.heap.get? b = some o -> H b = none -> h'.get? b = some o)
  (slot:∀ b o,b ≠ X.env.locals -> b ∈ X.fs -> b ∉ ch -> s.heap.get? b = some o -> H b = none -> ∃ sl,h'.get? b = some { o with slots:=sl }) (free:∀ b o,b ∉ ch -> s.heap.get? b = some o -> H b = none -> H' b = none)
  (there:∀ b o,b ∉ ch -> s.heap.get? b = some o -> ∃ o',h'.get? b = some o')
  (tups:∀ b xs,H b = some (.tup xs) -> H' b = some (.tup xs)) (frzs:∀ b o u,H b = some (.frz o u) -> H' b = some (.frz o u)) (tbls:∀ b ps,H b = some (.tbl ps) -> ∃ more,H' b = some (.tbl (ps ++ more)))
  (ns:∀ m,s.heap.Ns X.env.locals m -> h'.Ns X.env.locals m) (hok:HOk X.prog X.w H' h') (hg:AllBare g') :
  Inv X pins σ H' { s with heap:=h',gens:=g',drawn:=d',toks:=t' }:=by
 have neL:∀ b o,X.s₀.heap.get? b = some o -> b ≠ X.env.locals:=fun b o e => Nat.ne_of_lt (Nat.lt_of_lt_of_le (Heap.lt_size e) I.ok.above)
 have neC:∀ b o,X.s₀.heap.get? b = some o -> b ∉ X.ex -> b ∉ ch:=fun b o e hx hb => by
  rcases (hch b hb).1 with z | z
  ·exact hx z
  ·exact absurd (Nat.lt_of_lt_of_le (Heap.lt_size e) z) (Nat.lt_irrefl _)
 have cellK:∀ x c,X.env.cells.lookup x = some c -> ∀ v,s.heap.IsCell c v -> h'.IsCell c v:=fun x c e v ⟨o,ho,hd⟩ => by
  have nch:c ∉ ch:=fun z => (hch c z).2.2.1 x c e rfl
  by_cases hc:c ∈ X.fs
  ·obtain ⟨sl,q⟩:=slot c o (I.cne x c e) hc nch ho (I.freeC x c e)
   exact ⟨_,q,hd⟩
  ·exact ⟨o,keep c o (I.cne x c e) hc nch ho (I.freeC x c e),hd⟩
 refine ⟨I.ok,I.os,hg,⟨fun b o e n hb hx => ?_,fun b o e n hb hx => ?_,fun b o e n hx => ?_,fun b o e hx => ?_,fun b xs e => tups b xs (I.base.tups b xs e),fun b o xs e => frzs b o xs (I.base.frzs b o xs e),fun b ps e => ?_⟩,?_,fun x c e => ?_,?_,fun x c e => ?_,fun p hp => ?_,hok,I.len⟩
 ·exact keep b o (neL b o e) hb (neC b o e hx) (I.base.keep b o e n hb hx) (I.base.free b o e n hx)
 ·obtain ⟨sl,e1⟩:=I.base.slot b o e n hb hx
  obtain ⟨sl',e2⟩:=slot b _ (neL b o e) hb (neC b o e hx) e1 (I.base.free b o e n hx)
  exact ⟨sl',e2⟩
 ·obtain ⟨o',e1⟩:=I.base.there b o e hx
  exact free b o' (neC b o e hx) e1 (I.base.free b o e n hx)
 ·obtain ⟨o',e1⟩:=I.base.there b o e hx
  exact there b o' (neC b o e hx) e1
 ·obtain ⟨m1,e1⟩:=I.base.tbls b ps e
  obtain ⟨m2,e2⟩:=tbls b _ e1
  exact ⟨m1 ++ m2,by rw [e2,Array.append_assoc]⟩
 ·obtain ⟨m,hn,hl⟩:=I.loc
  refine ⟨m,ns m hn,fun i x v e1 e2 e3 => ?_⟩
  obtain ⟨u,r,l⟩:=hl i x v e1 e2 e3
  refine ⟨u,r,?_⟩
  rcases l with l | ⟨k,c,e,z⟩
  ·exact .inl l
  ·exact .inr ⟨k,c,e,cellK x c e _ z⟩
 ·obtain ⟨v,z⟩:=I.cell x c e
  exact ⟨v,cellK x c e v z⟩
 ·obtain ⟨m,⟨o,_,_,ho,_⟩,_⟩:=I.loc
  exact free _ o (fun z => (hch _ z).2.1 rfl) ho I.free
 ·obtain ⟨v,o,ho,hd⟩:=I.cell x c e
  exact free c o (fun z => (hch c z).2.2.1 x c e rfl) ho (I.freeC x c e)
 ·obtain ⟨e,n,ne,nf,d⟩:=I.pin p hp
  have nch:p.1 ∉ ch:=fun z => (hch p.1 z).2.2.2 p hp rfl
  exact ⟨keep p.1 p.2 ne nf nch e n,free p.1 p.2 nch e n,ne,nf,d⟩
theorem Inv.un {t':Nat} (I:Inv X pins σ H s) (u:Un X.fs [] H H' s.heap h') (hok:HOk X.prog X.w H' h'):Inv X pins σ H' { s with heap:=h',toks:=t' }:=by
 obtain ⟨m,⟨o,es,ep,ho,r⟩,_⟩:=id I.loc
 obtain ⟨sl,hL⟩:=u.any ho I.free (by simp)
 exact I.step (g':=s.gens) (d':=s.drawn) (ch:=[]) (fun _ z => nomatch z) (fun b o _ hb _ e n => u.keep b o e n hb (by simp)) (fun b o _ hb _ e n => u.slot b o e n hb (by simp)) (fun b o _ e n => u.free b o e n (by simp)) (fun b o _ e => u.there b o e (by simp)) u.tups u.frzs u.tbls (fun m' hm => by
  obtain ⟨o',es',ep',ho',r'⟩:=hm
  rw [ho] at ho'; cases ho'
  exact ⟨_,es',ep',hL,r'⟩) hok I.bare
theorem Inv.call {g':Array GenState} {t':Nat} {d':Drawn} {ch:List Addr} (I:Inv X pins σ H s) (u:Un (frs X.stack) ch H H' s.heap h') (hok:HOk X.prog X.w H' h') (hg:AllBare g')
  (hch:∀ b ∈ ch,(b ∈ X.ex \/ X.s₀.heap.objs.size <= b) /\ b ≠ X.env.locals /\ (∀ x c,X.env.cells.lookup x = some c -> c ≠ b) /\ ∀ p ∈ X.pn ++ pins,p.1 ≠ b) :
  Inv X pins σ H' { s with heap:=h',gens:=g',drawn:=d',toks:=t' }:=by
 obtain ⟨m,⟨o,es,ep,ho,r⟩,_⟩:=id I.loc
 obtain ⟨sl,hL⟩:=u.any ho I.free fun z => (hch _ z).2.1 rfl
 exact I.step (ch:=ch) hch (fun b o hL hb hc e n => u.keep b o e n (fun z => (List.mem_cons.mp (I.stkSub b z)).elim hL hb) hc) (fun b o _ _ hc e n => u.any e n hc) (fun b o hc e n => u.free b o e n hc) (fun b o hc e => u.there b o e hc) u.tups u.frzs u.tbls (fun m' hm => by
  obtain ⟨o',es',ep',ho',r'⟩:=hm
  rw [ho] at ho'; cases ho'
  exact ⟨_,es',ep',hL,r'⟩) hok hg
theorem Inv.turned {t':Nat} {it:Addr} (I:Inv X pins σ H s) (k:∀ b o,b ≠ it -> s.heap.get? b = some o -> h'.get? b = some o) (hn:H it = none) (hL:it ≠ X.env.locals)
  (h1:it ∈ X.ex \/ X.s₀.heap.objs.size <= it) (h2:∀ x c,X.env.cells.lookup x = some c -> c ≠ it) (h3:∀ p ∈ X.pn ++ pins,p.1 ≠ it):Inv X pins σ H { s with heap:=h',toks:=t' }:=by
 have nit:∀ b u,H b = some u -> b ≠ it:=fun b u e z => by rw [z,hn] at e; cases e
 refine I.step (g':=s.gens) (d':=s.drawn) (ch:=[it]) (fun b hb => ?_) (fun b o _ _ hc e _ => k b o (fun z => hc (by simp [z])) e) (fun b o _ _ hc e _ => ⟨o.slots,k b o (fun z => hc (by simp [z])) e⟩) (fun _ _ _ _ n => n)
  (fun b o hc e => ⟨o,k b o (fun z => hc (by simp [z])) e⟩) (fun _ _ e => e) (fun _ _ _ e => e) (fun b ps e => ⟨#[],by rw [e]; simp⟩) (fun m hm => ?_) (fun b u e => ?_) I.bare
 ·have e:b = it:=by simpa using hb
  subst e
  exact ⟨h1,hL,h2,h3⟩
 ·obtain ⟨o,es,ep,ho,r⟩:=hm
  exact ⟨o,es,ep,k _ o (Ne.symm hL) ho,r⟩
 ·refine (I.hok b u e).stay (fun c v hc q => k c v ?_ q) (fun _ q => q) fun _ _ q => q
  rcases hc with z | z
  ·rw [z]; exact nit b u e
  ·exact nit c _ z
theorem Inv.tok (I:Inv X pins σ H s) (t:Nat):Inv X pins σ H { s with toks:=t }:=I.un (h':=s.heap) (t':=t) Un.refl I.hok
theorem Inv.kept {t':Nat} (I:Inv X pins σ H s) (k:∀ b u,s.heap.get? b = some u -> h'.get? b = some u):Inv X pins σ H { s with heap:=h',toks:=t' }:=I.un (Un.kept k) (I.hok.kept k)
theorem Inv.laid {a:Addr} {o:HO} {t':Nat} (I:Inv X pins σ H s) (k:∀ b u,s.heap.get? b = some u -> h'.get? b = some u) (hp:s.heap.objs.size <= a) (new:ObjOk X.prog X.w (upd H a o) h' a o) :
  Inv X pins σ (upd H a o) { s with heap:=h',toks:=t' }:=I.un (Un.laid k hp (I.hok.fresh hp)) (I.hok.laid k hp new)
theorem Inv.write {x e:Addr} {o:HO} {t':Nat} (I:Inv X pins σ H s) (mu:Mut (H x)) (he:e = x \/ H e = some (.own x)) (k:∀ b u,b ≠ e -> s.heap.get? b = some u -> h'.get? b = some u) (heo:∃ u,h'.get? e = some u)
  (new:ObjOk X.prog X.w (upd H x o) h' x o):Inv X pins σ (upd H x o) { s with heap:=h',toks:=t' }:=I.un (Un.write mu he k heo) (I.hok.write mu he k heo new)
theorem Inv.pins_of {pins':List (Addr × Obj)} (I:Inv X pins σ H s) (h:∀ p ∈ pins',s.heap.get? p.1 = some p.2 /\ H p.1 = none /\ p.1 ≠ X.env.locals /\ p.1 ∉ X.fs /\ ∀ v,p.2.data ≠ .cell v):Inv X pins' σ H s :=
 ⟨I.ok,I.os,I.bare,I.base,I.loc,I.cell,I.free,I.freeC,fun p hp => (List.mem_append.mp hp).elim (fun z => I.pin p (List.mem_append_left _ z)) (h p),I.hok,I.len⟩
theorem nodup_ix {N:List Str} (hN:N.Nodup) {i j:Nat} {x:Str} (a:N[i]? = some x) (b:N[j]? = some x):i = j:=by
 obtain ⟨h1,e1⟩:=List.getElem?_eq_some_iff.mp a
 obtain ⟨h2,e2⟩:=List.getElem?_eq_some_iff.mp b
 exact (List.getElem_inj hN).mp (e1.trans e2.symm)
theorem store_ok2 {M:Model} {A:Around} {E:Value -> Shared -> Prop} {i:Nat} {x:Str} {v:V} {u:Value} {Q:Unit -> Shared -> Prop} (I:Inv X pins σ H s) (hN:X.N.Nodup) (hi:X.N[i]? = some x) (hx:Loc X.env.scope x) (r:RelV v u)
  (h:∀ s',Inv X pins (σ.set i (some v)) H s' -> (∃ a,Heap.SameBut a s.heap s'.heap /\ (a = X.env.locals \/ X.env.cells.lookup x = some a)) -> Q () s') (hf:X.fn x = true \/ X.env.scope.names.lookup x = some .local:=by first | exact .inl rfl | exact .inr rfl | assumption):wpAny M A (storeName X.env x u) Q E s:=by
 obtain ⟨m,hn,hl⟩:=id I.loc
 have hcls:(X.env.scope.kind == .class || (X.env.scope.kind == .module && X.env.locals != X.env.globals)) = false:=by rw [I.ok.kind]; rfl
 have hiσ:i < σ.length:=by rw [I.len]; exact (List.getElem?_eq_some_iff.mp hi).1
 have cne:=I.cne
 have tracked:∀ {a:Addr} {h':Heap},(∃ o,s.heap.get? a = some o /\ H a = none) -> Heap.SameBut a s.heap h' -> HOk X.prog X.w H h':=fun {a h'} ha hs b ob e => by
  obtain ⟨_,_,hfree⟩:=ha
  refine (I.hok b ob e).stay (fun c w' hc q => (hs.2 c ?_).trans q) (fun _ q => q) fun _ _ q => q
  rintro rfl
  rcases hc with rfl | hc
  ·rw [hfree] at e; cases e
  ·rw [hfree] at hc; cases hc
 rcases hx with hk | hk
 ·refine wpAny_storeName_local hk hn (fun h' hn' hs => ?_) hcls
  obtain ⟨oL,_,_,hoL,_⟩:=id hn
  refine h _ ⟨I.ok,I.os,I.bare,⟨fun b o e n hb hx => ?_,fun b o e n hb hx => ?_,I.base.free,fun b o e hx => ?_,I.base.tups,I.base.frzs,I.base.tbls⟩,⟨_,hn',fun j y v' e1 e2 e3 => ?_⟩,fun y c e => ?_,I.free,I.freeC,fun p hp => ?_,tracked ⟨oL,hoL,I.free⟩ hs,by simpa using I.len⟩ ⟨_,hs,.inl rfl⟩
  ·exact (hs.2 b (Nat.ne_of_lt (Nat.lt_of_lt_of_le (Heap.lt_size e) I.ok.above))).trans (I.base.keep b o e n hb hx)
  ·obtain ⟨sl,e1⟩:=I.base.slot b o e n hb hx
   exact ⟨sl,(hs.2 b (Nat.ne_of_lt (Nat.lt_of_lt_of_le (Heap.lt_size e) I.ok.above))).trans e1⟩
  ·obtain ⟨o',e1⟩:=I.base.there b o e hx
   exact ⟨o',(hs.2 b (Nat.ne_of_lt (Nat.lt_of_lt_of_le (Heap.lt_size e) I.ok.above))).trans e1⟩
  ·by_cases hj:j = i
   ·subst hj
    rw [hi] at e1; cases e1
    rw [List.getElem?_set_self hiσ] at e2
    cases e2
    exact ⟨u,r,.inl ⟨hk,by simp⟩⟩
   ·rw [List.getElem?_set_ne (Ne.symm hj)] at e2
    obtain ⟨u',r',q⟩:=hl j y v' e1 e2 e3
    refine ⟨u',r',?_⟩
    rcases q with ⟨k,e⟩ | ⟨k,c,e,z⟩
    ·refine .inl ⟨k,?_⟩
     have:y ≠ x:=fun e => hj (nodup_ix hN e1 (e ▸ hi))
     simp [this,e]
    ·exact .inr ⟨k,c,e,z.sameBut hs (cne y c e)⟩
  ·obtain ⟨w',z⟩:=I.cell y c e
   exact ⟨w',z.sameBut hs (cne y c e)⟩
  ·obtain ⟨e,n,ne,nf,d⟩:=I.pin p hp
   exact ⟨(hs.2 p.1 ne).trans e,n,ne,nf,d⟩
 ·have hfn:X.fn x = true:=by
   rcases hf with z | z
   ·exact z
   ·rw [z] at hk; cases hk
  obtain ⟨c,hc⟩:=I.ok.has x (.inl hk)
  obtain ⟨w',z⟩:=I.cell x c hc
  refine wpAny_storeName_cell I.ok.kind hk hc z (fun h' hc' hs => ?_)
  obtain ⟨oc,hoc,hocd⟩:=id z
  refine h { s with heap:=h' } ⟨I.ok,I.os,I.bare,⟨fun b o e n hb hx => ?_,fun b o e n hb hx => ?_,I.base.free,fun b o e hx => ?_,I.base.tups,I.base.frzs,I.base.tbls⟩,⟨m,hn.sameBut hs (Ne.symm (cne x c hc)),fun j y v' e1 e2 e3 => ?_⟩,fun y c' e => ?_,I.free,I.freeC,fun p hp => ?_,tracked ⟨oc,hoc,I.freeC x c hc⟩ hs,by simpa using I.len⟩ ⟨c,hs,.inr hc⟩
  ·exact (hs.2 b (Nat.ne_of_lt (Nat.lt_of_lt_of_le (Heap.lt_size e) (I.ok.cab x c hfn hc)))).trans (I.base.keep b o e n hb hx)
  ·obtain ⟨sl,e1⟩:=I.base.slot b o e n hb hx
   exact ⟨sl,(hs.2 b (Nat.ne_of_lt (Nat.lt_of_lt_of_le (Heap.lt_size e) (I.ok.cab x c hfn hc)))).trans e1⟩
  ·obtain ⟨o',e1⟩:=I.base.there b o e hx
   exact ⟨o',(hs.2 b (Nat.ne_of_lt (Nat.lt_of_lt_of_le (Heap.lt_size e) (I.ok.cab x c hfn hc)))).trans e1⟩
  ·by_cases hj:j = i
   ·subst hj
    rw [hi] at e1; cases e1
    rw [List.getElem?_set_self hiσ] at e2
    cases e2
    exact ⟨u,r,.inr ⟨.inl hk,c,hc,hc'⟩⟩
   ·rw [List.getElem?_set_ne (Ne.symm hj)] at e2
    obtain ⟨u',r',q⟩:=hl j y v' e1 e2 e3
    refine ⟨u',r',?_⟩
    rcases q with q | ⟨k,c',e,z'⟩
    ·exact .inl q
    ·refine .inr ⟨k,c',e,z'.sameBut hs ?_⟩
     rintro rfl
     exact hj (nodup_ix hN e1 (I.ok.inj _ _ _ e hc ▸ hi))
  ·by_cases hcc:c' = c
   ·subst hcc; exact ⟨_,hc'⟩
   ·obtain ⟨w2,z2⟩:=I.cell y c' e
    exact ⟨w2,z2.sameBut hs hcc⟩
  ·obtain ⟨e,n,ne,nf,d⟩:=I.pin p hp
   refine ⟨(hs.2 p.1 ?_).trans e,n,ne,nf,d⟩
   intro q
   rw [q,hoc] at e
   have q':oc = p.2:=Option.some.inj e
   exact d w' (by rw [<- q']; exact hocd)
theorem store_ok {M:Model} {A:Around} {E:Value -> Shared -> Prop} {i:Nat} {x:Str} {v:V} {u:Value} {Q:Unit -> Shared -> Prop} (I:Inv X pins σ H s) (hN:X.N.Nodup) (hi:X.N[i]? = some x) (hx:Loc X.env.scope x) (r:RelV v u)
  (h:∀ s',Inv X pins (σ.set i (some v)) H s' -> Q () s') (hf:X.fn x = true \/ X.env.scope.names.lookup x = some .local:=by first | exact .inl rfl | exact .inr rfl | assumption):wpAny M A (storeName X.env x u) Q E s :=
 store_ok2 I hN hi hx r (fun s' I' _ => h s' I') hf
theorem Inv.call' {s':Shared} {ch:List Addr} (I:Inv X pins σ H s) (ho:s'.os = s.os) (u:Un (frs X.stack) ch H H' s.heap s'.heap) (hok:HOk X.prog X.w H' s'.heap) (hg:AllBare s'.gens)
  (hch:∀ b ∈ ch,(b ∈ X.ex \/ X.s₀.heap.objs.size <= b) /\ b ≠ X.env.locals /\ (∀ x c,X.env.cells.lookup x = some c -> c ≠ b) /\ ∀ p ∈ X.pn ++ pins,p.1 ≠ b):Inv X pins σ H' s':=by
 obtain ⟨h',g',d',t',o'⟩:=s'
 have e:o' = s.os:=ho
 subst e
 exact I.call (g':=g') (t':=t') (d':=d') u hok hg hch
end
noncomputable abbrev XK:=Value -> Option Addr -> Hp -> Prop
noncomputable abbrev St:=List (Option V)
noncomputable abbrev VK:=V -> Hp -> Prop
noncomputable abbrev TE:=St -> Hp -> VK -> Prop
noncomputable abbrev TT:=St -> Hp -> (Bool -> Hp -> Prop) -> Prop
noncomputable abbrev TA:=St -> Hp -> (List V -> Hp -> Prop) -> Prop
structure Ends where
 nx:St -> Hp -> Prop
 rt:VK
 bk:St -> Hp -> Prop:=fun _ _ => False
 ct:St -> Hp -> Prop:=fun _ _ => False
noncomputable abbrev TS:=Ends -> St -> Hp -> Prop
noncomputable def EP (X:Cx) (pins:List (Addr × Obj)) (σ:St) (Q:VK) (u:Value) (s':Shared):Prop:=∃ v H',Inv X pins σ H' s' /\ RelV v u /\ Q v H'
noncomputable def TP (X:Cx) (pins:List (Addr × Obj)) (σ:St) (Q:Bool -> Hp -> Prop) (b:Bool) (s':Shared):Prop:=∃ H',Inv X pins σ H' s' /\ Q b H'
noncomputable def AP (X:Cx) (pins:List (Addr × Obj)) (σ:St) (Q:List V -> Hp -> Prop) (us:List Value) (s':Shared):Prop:=∃ vs H',Inv X pins σ H' s' /\ Vals vs us /\ Q vs H'
noncomputable def SP (X:Cx) (pins:List (Addr × Obj)) (D:Ends) (f:Flow) (s':Shared):Prop :=
 match f with
 | .next => ∃ σ' H',Inv X pins σ' H' s' /\ D.nx σ' H'
 | .brk => ∃ σ' H',Inv X pins σ' H' s' /\ D.bk σ' H'
 | .cont => ∃ σ' H',Inv X pins σ' H' s' /\ D.ct σ' H'
 | .ret u => ∃ v σ' H',Inv X pins σ' H' s' /\ RelV v u /\ D.rt v H'
noncomputable def PE (X:Cx) (e:Expr) (t:TE):Prop :=
 ∀ (pins:List (Addr × Obj)) (s:Shared) (σ:St) (H:Hp) (Q:VK),Inv X pins σ H s -> t σ H Q -> wpAny (model X.prog X.w) X.A (eval e X.env) (EP X pins σ Q) X.xe s
noncomputable def PT (X:Cx) (e:Expr) (t:TT):Prop :=
 ∀ (pins:List (Addr × Obj)) (s:Shared) (σ:St) (H:Hp) (Q:Bool -> Hp -> Prop),Inv X pins σ H s -> t σ H Q -> wpAny (model X.prog X.w) X.A (isTrue e X.env (eval e X.env)) (TP X pins σ Q) X.xe s
noncomputable def PW (X:Cx) (e:Expr) (t:TT):Prop :=
 ∀ (whole:Sem Value) (pins:List (Addr × Obj)) (s:Shared) (σ:St) (H:Hp) (Q:Bool -> Hp -> Prop),Inv X pins σ H s -> t σ H Q -> wpAny (model X.prog X.w) X.A (isTrue e X.env whole) (TP X pins σ Q) X.xe s
theorem PW.pt {X:Cx} {e:Expr} {t:TT} (h:PW X e t):PT X e t:=h _
noncomputable def PA (X:Cx) (es:List Expr) (t:TA):Prop :=
 ∀ (pos:Pos) (pins:List (Addr × Obj)) (s:Shared) (σ:St) (H:Hp) (Q:List V -> Hp -> Prop),Inv X pins σ H s -> t σ H Q -> wpAny (model X.prog X.w) X.A (spliced (backTo pos (starEach es X.env))) (AP X pins σ Q) X.xe s
noncomputable def PS (X:Cx) (st:Stmt) (t:TS):Prop :=
 ∀ (pins:List (Addr × Obj)) (s:Shared) (σ:St) (H:Hp) (D:Ends),Inv X pins σ H s -> t D σ H -> wpAny (model X.prog X.w) X.A (exec st X.env) (SP X pins D) X.xe s
noncomputable def PSs (X:Cx) (st:List Stmt) (t:TS):Prop :=
 ∀ (pins:List (Addr × Obj)) (s:Shared) (σ:St) (H:Hp) (D:Ends),Inv X pins σ H s -> t D σ H -> wpAny (model X.prog X.w) X.A (execs st X.env) (SP X pins D) X.xe s
theorem thn {α:Type} {t:Sem α} {Q Q':α -> Shared -> Prop} {M:Model} {A:Around} {E:Value -> Shared -> Prop} {s:Shared} (h:wpAny M A t Q E s) (hQ:∀ a s,Q a s -> Q' a s):wpAny M A t Q' E s:=wpAny_mono h hQ fun _ _ x => x
end L2
namespace L2
open PySem PySem.Spec PyProof.Rows
section
variable {X:Cx}
theorem bin {a b:Expr} {ta tb:TE} (ha:PE X a ta) (hb:PE X b tb) {pins:List (Addr × Obj)} {s:Shared} {σ:St} {H:Hp} {R:V -> V -> Hp -> Prop} (I:Inv X pins σ H s) (h:ta σ H fun x H1 => tb σ H1 fun y H2 => R x y H2)
  {α:Type} {Q:α -> Shared -> Prop} {f:Value -> Value -> Sem α}
  (hf:∀ v u s2 x y H2,Inv X pins σ H2 s2 -> RelV x v -> RelV y u -> R x y H2 -> wpAny (model X.prog X.w) X.A (f v u) Q X.xe s2) :
  wpAny (model X.prog X.w) X.A (eval a X.env) (fun v s₁ => wpAny (model X.prog X.w) X.A (eval b X.env) (fun u s₂ => wpAny (model X.prog X.w) X.A (f v u) Q X.xe s₂) X.xe s₁) X.xe s:=by
 refine thn (ha pins s σ H _ I h) fun v s1 ⟨x,H1,I1,r1,q1⟩ => ?_
 refine thn (hb pins s1 σ H1 _ I1 q1) fun u s2 ⟨y,H2,I2,r2,q2⟩ => ?_
 exact hf v u s2 x y H2 I2 r1 r2 q2
noncomputable def tVar (i:Nat):TE:=fun σ H Q => ∃ v,σ[i]? = some (some v) /\ Q v H
noncomputable def tC (v:V):TE:=fun _ H Q => Q v H
theorem pe_var {i:Nat} {x:Str} {pos:Pos} (hN:X.N[i]? = some x) (hv:Vis X.env.scope x) (hd:(x == ("__debug__":Str)) = false:=by decide) (hcd:(x == ("__classdict__":Str)) = false:=by decide):PE X (.Name x pos) (tVar i):=by
 intro pins s σ H Q I h
 obtain ⟨v,e,h⟩:=h
 obtain ⟨m,hn,hl⟩:=I.loc
 obtain ⟨u,r,l⟩:=hl i x v hN e hv
 have fin:EP X pins σ Q u s:=⟨v,H,I,r,h⟩
 rcases l with ⟨hk,hm⟩ | ⟨hk,c,hc,hcell⟩
 ·exact wpAny_Name (wpAny_loadName_local I.ok.kind hk hn hm fin) hd
 ·rcases hk with hk | hk
  ·exact wpAny_Name (wpAny_loadName_cell I.ok.kind hk hc hcell fin) hd
  ·exact wpAny_Name (wpAny_loadName_free I.ok.kind hk hc hcell fin hcd) hd
theorem pe_int {i j pos}:PE X (.Constant (.int i) j pos) (tC (.int i)):=fun _ _ _ H _ I h => wpAny_Constant_int ⟨.int i,H,I.tok _,⟨_,rfl⟩,h⟩
theorem pe_bl {b j pos}:PE X (.Constant (.bool b) j pos) (tC (.bl b)):=fun _ _ _ H _ I h => Constant_bool ⟨.bl b,H,I,rfl,h⟩
theorem pe_non {j pos}:PE X (.Constant .none j pos) (tC .non):=fun _ _ _ H _ I h => Constant_none ⟨.non,H,I,rfl,h⟩
theorem pe_str {x j pos}:PE X (.Constant (.str x) j pos) (tC (.str x)):=fun _ _ _ H _ I h => Calls.Constant_str ⟨.str x,H,I.tok _,⟨_,rfl⟩,h⟩
noncomputable def Gl (X:Cx) (x:Str):Prop:=X.env.kindOf x = some .globalImplicit
theorem ld_glob {E:Value -> Shared -> Prop} {pins:List (Addr × Obj)} {s:Shared} {σ:St} {H:Hp} {x:Str} {u:Value} {pos:Pos} {Q:Value -> Shared -> Prop} (I:Inv X pins σ H s) (hg:Gl X x) (hm:X.mg x = some u) (h:Q u s)
  (hd:(x == ("__debug__":Str)) = false:=by decide):wpAny (model X.prog X.w) X.A (eval (.Name x pos) X.env) Q E s :=
 Calls.Name_function_global I.ok.kind hg (Calls.loadGlobal_global (by rw [I.ok.glob]; exact I.mod.glob.keeps I.bk) hm h) hd
theorem ld_blt {E:Value -> Shared -> Prop} {pins:List (Addr × Obj)} {s:Shared} {σ:St} {H:Hp} {x:Str} {u:Value} {pos:Pos} {Q:Value -> Shared -> Prop} (I:Inv X pins σ H s) (hg:Gl X x) (hm:X.mg x = none) (hv:bootBuiltins x = some u) (h:Q u s)
  (hn:x ≠ "__name__":=by decide) (hd:(x == ("__debug__":Str)) = false:=by decide):wpAny (model X.prog X.w) X.A (eval (.Name x pos) X.env) Q E s:=by
 obtain ⟨mb,h1,h2⟩:=I.mod.blt
 exact Calls.Name_function_global I.ok.kind hg (Calls.loadGlobal_builtin (by rw [I.ok.glob]; exact I.mod.glob.keeps I.bk) hm (by rw [I.ok.blt]; exact h1.keeps I.bk) ((h2 x hn).trans hv) h) hd
theorem pe_glob {x:Str} {v:V} {u:Value} {pos:Pos} (hg:Gl X x) (hm:X.mg x = some u) (r:RelV v u) (hd:(x == ("__debug__":Str)) = false:=by decide):PE X (.Name x pos) (tC v) :=
 fun _ _ _ H _ I h => ld_glob I hg hm ⟨v,H,I,r,h⟩ hd
theorem pe_bltn {x:Str} {v:V} {u:Value} {pos:Pos} (hg:Gl X x) (hm:X.mg x = none) (hv:bootBuiltins x = some u) (r:RelV v u) (hn:x ≠ "__name__":=by decide) (hd:(x == ("__debug__":Str)) = false:=by decide):PE X (.Name x pos) (tC v) :=
 fun _ _ _ H _ I h => ld_blt I hg hm hv ⟨v,H,I,r,h⟩ hn hd
variable {a b:Expr} {ta tb:TE} {pos:Pos}
noncomputable def tB (t:TE):TT:=fun σ H Q => t σ H fun x H1 => ∃ c,x = .bl c /\ Q c H1
theorem pt_val {e:Expr} {t:TE} (h:PE X e t) (he:∀ whole,isTrue e X.env whole = (do let v <- whole; standAt e.pos; holding [v] (truthy v)):=by intro _; rfl):PT X e (tB t):=by
 intro pins s σ H Q I hw
 refine isTrue_plain (thn (h pins s σ H _ I hw) fun v s1 ⟨x,H1,I1,r1,q1⟩ => ?_) (he _)
 obtain ⟨d,rfl,q⟩:=q1
 cases r1
 exact wpAny_truthy_bool ⟨H1,I1,q⟩
variable {tA tB':TT} {rest:List Expr}
noncomputable def tAnd (t u:TT):TT:=fun σ H Q => t σ H fun c H1 => if c = true then u σ H1 Q else Q false H1
noncomputable def tOr (t u:TT):TT:=fun σ H Q => t σ H fun c H1 => if c = true then Q true H1 else u σ H1 Q
noncomputable def tNot (t:TT):TT:=fun σ H Q => t σ H fun c H1 => Q (!c) H1
theorem pw_and1 (ha:PT X a tA):PW X (.BoolOp .And [a] pos) tA:=by
 intro wh pins s σ H Q I h
 refine isTrue_and (thn (ha pins s σ H Q I h) fun c s1 e => ?_)
 cases c with
 | true => exact isTrue_and_nil e
 | false => exact e
theorem pw_or1 (ha:PT X a tA):PW X (.BoolOp .Or [a] pos) tA:=by
 intro wh pins s σ H Q I h
 refine isTrue_or (thn (ha pins s σ H Q I h) fun c s1 e => ?_)
 cases c with
 | false => exact isTrue_or_nil e
 | true => exact e
theorem pw_and (ha:PT X a tA) (hb:PW X (.BoolOp .And (b :: rest) pos) tB'):PW X (.BoolOp .And (a :: b :: rest) pos) (tAnd tA tB'):=by
 intro wh pins s σ H Q I h
 refine isTrue_and (thn (ha pins s σ H _ I h) fun c s1 ⟨H1,I1,q1⟩ => ?_)
 cases c with
 | true => exact hb wh pins s1 σ H1 Q I1 q1
 | false => exact ⟨H1,I1,q1⟩
theorem pw_or (ha:PT X a tA) (hb:PW X (.BoolOp .Or (b :: rest) pos) tB'):PW X (.BoolOp .Or (a :: b :: rest) pos) (tOr tA tB'):=by
 intro wh pins s σ H Q I h
 refine isTrue_or (thn (ha pins s σ H _ I h) fun c s1 ⟨H1,I1,q1⟩ => ?_)
 cases c with
 | true => exact ⟨H1,I1,q1⟩
 | false => exact hb wh pins s1 σ H1 Q I1 q1
theorem pt_not (ha:PT X a tA):PT X (.UnaryOp .Not a pos) (tNot tA):=by
 intro pins s σ H Q I h
 exact isTrue_not (ha pins s σ H (fun c H1 => Q (!c) H1) I h)
noncomputable def tAndV (ta tb:TE):TE:=fun σ H Q => ta σ H fun x H1 => ∃ c,x = .bl c /\ if c = true then tb σ H1 Q else Q (.bl false) H1
noncomputable def tOrV (ta tb:TE):TE:=fun σ H Q => ta σ H fun x H1 => ∃ c,x = .bl c /\ if c = true then Q (.bl true) H1 else tb σ H1 Q
noncomputable def tNotV (ta:TE):TE:=fun σ H Q => ta σ H fun x H1 => ∃ c,x = .bl c /\ Q (.bl (!c)) H1
theorem pe_one {op} {t:TE} (h:PE X a t):PE X (.BoolOp op [a] pos) t:=fun pins s σ H Q I hw => BoolOp_one (h pins s σ H Q I hw)
theorem pe_and (ha:PE X a ta) (hb:PE X (.BoolOp .And (b :: rest) pos) tb):PE X (.BoolOp .And (a :: b :: rest) pos) (tAndV ta tb):=by
 intro pins s σ H Q I h
 refine BoolOp_and (thn (ha pins s σ H _ I h) fun v s1 ⟨x,H1,I1,r1,q1⟩ => ?_)
 obtain ⟨c,rfl,q1⟩:=q1
 cases r1
 refine wpAny_truthy_bool ?_
 cases c with
 | true => exact hb pins s1 σ H1 Q I1 q1
 | false => exact ⟨.bl false,H1,I1,rfl,q1⟩
theorem pe_or (ha:PE X a ta) (hb:PE X (.BoolOp .Or (b :: rest) pos) tb):PE X (.BoolOp .Or (a :: b :: rest) pos) (tOrV ta tb):=by
 intro pins s σ H Q I h
 refine BoolOp_or (thn (ha pins s σ H _ I h) fun v s1 ⟨x,H1,I1,r1,q1⟩ => ?_)
 obtain ⟨c,rfl,q1⟩:=q1
 cases r1
 refine wpAny_truthy_bool ?_
 cases c with
 | false => exact hb pins s1 σ H1 Q I1 q1
 | true => exact ⟨.bl true,H1,I1,rfl,q1⟩
theorem pe_not (ha:PE X a ta):PE X (.UnaryOp .Not a pos) (tNotV ta):=by
 intro pins s σ H Q I h
 refine UnaryOp_ (thn (ha pins s σ H _ I h) fun v s1 ⟨x,H1,I1,r1,q1⟩ => ?_)
 obtain ⟨c,rfl,q1⟩:=q1
 cases r1
 exact not_of (wpAny_truthy_bool ⟨.bl (!c),H1,I1,rfl,q1⟩)
noncomputable def tIf (t:TT) (ta tb:TE):TE:=fun σ H Q => t σ H fun c H1 => if c = true then ta σ H1 Q else tb σ H1 Q
theorem pe_ifExp {c:Expr} (hc:PT X c tA) (ha:PE X a ta) (hb:PE X b tb):PE X (.IfExp c a b pos) (tIf tA ta tb):=by
 intro pins s σ H Q I h
 refine wpAny_IfExp (thn (hc pins s σ H _ I h) fun d s1 ⟨H1,I1,q1⟩ => ?_)
 cases d with
 | true => exact ha pins s1 σ H1 Q I1 q1
 | false => exact hb pins s1 σ H1 Q I1 q1
end
end L2
namespace L2
open PySem PySem.Spec PyProof.Rows
noncomputable def SqL (K:PySem.W.Frag) (H:Hp) (a:Addr) (xs:List V):Prop :=
 Rd H a (.lst xs) \/
  ∃ (o:Obj) (its:Array Value) (n:Nat),K.lookup a = some o /\ o.cls = .type "list" /\ o.dict = none /\ o.data = .seq its n /\ its.size <= sizeLine /\ Vals xs its.toList
noncomputable def SqT (K:PySem.W.Frag) (H:Hp) (a:Addr) (xs:List V):Prop :=
 Rd H a (.tup xs) \/
  ∃ (o:Obj) (its:Array Value) (n:Nat),K.lookup a = some o /\ o.cls = .type "tuple" /\ o.data = .seq its n /\ its.size <= sizeLine /\ Vals xs its.toList
noncomputable def absV:Value -> Option V
 | .none => some .non
 | .bool b => some (.bl b)
 | .int i _ => some (.int i)
 | .str x _ => some (.str x)
 | .bytes b _ => some (.byt b)
 | .float b _ => some (.flt b)
 | .ref a => some (.ref a)
 | .type n => some (.ty n)
 | _ => none
theorem RelV.abs {x:V} {u:Value} (r:RelV x u):absV u = some x:=by
 cases x with
 | non => cases r; rfl
 | bl _ => cases r; rfl
 | int _ => obtain ⟨t,rfl⟩:=r; rfl
 | str _ => obtain ⟨t,rfl⟩:=r; rfl
 | byt _ => obtain ⟨t,rfl⟩:=r; rfl
 | flt _ => obtain ⟨t,rfl⟩:=r; rfl
 | ref _ => cases r; rfl
 | ty _ => cases r; rfl
theorem RelV.inj {x y:V} {u:Value} (r:RelV x u) (q:RelV y u):x = y:=Option.some.inj (r.abs.symm.trans q.abs)
theorem Vals.inj:∀ {xs ys:List V} {us:List Value},Vals xs us -> Vals ys us -> xs = ys
 | _,_,_,.nil,.nil => rfl
 | _,_,_,.cons r t,.cons r' t' => by rw [r.inj r',Vals.inj t t']
section
variable {X:Cx} {pins:List (Addr × Obj)} {σ:St} {H:Hp} {s:Shared} {a:Addr} {xs ys:List V}
theorem SqL.of {K:PySem.W.Frag} (h:H a = some (.lst xs)):SqL K H a xs:=.inl (.inl h)
theorem SqT.of {K:PySem.W.Frag} (h:H a = some (.tup xs)):SqT K H a xs:=.inl (.inl h)
theorem Inv.list (I:Inv X pins σ H s) (h:SqL X.K H a xs):∃ its:List Value,Vals xs its /\ PlainL s.heap a its.toArray /\ xs.length <= sizeLine:=by
 rcases h with h | ⟨o,its,n,hk,hc,hd,hs,hz,r⟩
 ·obtain ⟨z,its,n,r,e⟩:=h.ok I.hok
  exact ⟨its,r,⟨_,n,e,rfl,rfl,rfl⟩,z⟩
 ·refine ⟨its.toList,r,⟨o,n,I.kIn a o hk,hc,hd,by simpa using hs⟩,?_⟩
  have e:=r.length
  simp only [Array.length_toList] at e
  omega
theorem Inv.tuple (I:Inv X pins σ H s) (h:SqT X.K H a xs):∃ its:List Value,Vals xs its /\ IsTup s.heap a its.toArray /\ xs.length <= sizeLine:=by
 rcases h with h | ⟨o,its,n,hk,hc,hs,hz,r⟩
 ·obtain ⟨z,its,r,p⟩:=h.ok I.hok
  exact ⟨its,r,p,z⟩
 ·refine ⟨its.toList,r,⟨o,I.kIn a o hk,hc,n,by simpa using hs⟩,?_⟩
  have e:=r.length
  simp only [Array.length_toList] at e
  omega
theorem Inv.list_inj (I:Inv X pins σ H s) (h:SqL X.K H a xs) (h':SqL X.K H a ys):xs = ys:=by
 obtain ⟨its,r,⟨o,n,e,_,_,d⟩,_⟩:=I.list h
 obtain ⟨its',r',⟨o',n',e',_,_,d'⟩,_⟩:=I.list h'
 rw [e] at e'; cases e'
 rw [d] at d'
 injection d' with d1 _
 have:its = its':=by simpa using congrArg Array.toList d1
 subst this
 exact r.inj r'
theorem Inv.tuple_inj (I:Inv X pins σ H s) (h:SqT X.K H a xs) (h':SqT X.K H a ys):xs = ys:=by
 obtain ⟨its,r,⟨o,e,_,n,d⟩,_⟩:=I.tuple h
 obtain ⟨its',r',⟨o',e',_,n',d'⟩,_⟩:=I.tuple h'
 rw [e] at e'; cases e'
 rw [d] at d'
 injection d' with d1 _
 have:its = its':=by simpa using congrArg Array.toList d1
 subst this
 exact r.inj r'
end
noncomputable abbrev Cx.wish (X:Cx) (E:Value -> Shared -> Prop):Cx:={ X with xe:=E }
noncomputable abbrev Cx.nox (X:Cx):Cx:=X.wish fun _ _ => False
theorem Cx.Ok.wish {X:Cx} (ok:X.Ok) (E:Value -> Shared -> Prop):(X.wish E).Ok :=
 ⟨ok.mod,ok.kind,ok.glob,ok.blt,ok.above,ok.inj,ok.has,ok.cab,ok.hd,ok.frames,ok.stk,ok.exf,ok.bs,ok.bsz,ok.noex,ok.exfs,ok.funs,ok.frf⟩
theorem Cx.Ok.unwish {X:Cx} {E:Value -> Shared -> Prop} (ok:(X.wish E).Ok):X.Ok :=
 ⟨ok.mod,ok.kind,ok.glob,ok.blt,ok.above,ok.inj,ok.has,ok.cab,ok.hd,ok.frames,ok.stk,ok.exf,ok.bs,ok.bsz,ok.noex,ok.exfs,ok.funs,ok.frf⟩
section
variable {X:Cx} {pins:List (Addr × Obj)} {σ:St} {H:Hp} {s:Shared} {E:Value -> Shared -> Prop}
theorem Inv.wish (I:Inv X pins σ H s) (E:Value -> Shared -> Prop):Inv (X.wish E) pins σ H s:=⟨I.ok.wish E,I.os,I.bare,I.base,I.loc,I.cell,I.free,I.freeC,I.pin,I.hok,I.len⟩
theorem Inv.unwish (I:Inv (X.wish E) pins σ H s):Inv X pins σ H s:=⟨I.ok.unwish,I.os,I.bare,I.base,I.loc,I.cell,I.free,I.freeC,I.pin,I.hok,I.len⟩
theorem SP.unwish {D:Ends} {f:Flow} {s':Shared} (h:SP (X.wish E) pins D f s'):SP X pins D f s':=by
 cases f with
 | next => obtain ⟨σ',H',I,q⟩:=h; exact ⟨σ',H',I.unwish,q⟩
 | brk => obtain ⟨σ',H',I,q⟩:=h; exact ⟨σ',H',I.unwish,q⟩
 | cont => obtain ⟨σ',H',I,q⟩:=h; exact ⟨σ',H',I.unwish,q⟩
 | ret u => obtain ⟨v,σ',H',I,r,q⟩:=h; exact ⟨v,σ',H',I.unwish,r,q⟩
theorem PSs.nox {st:List Stmt} {t:TS} (h:PSs X.nox st t):PSs X st t:=fun pins s σ H D I hw =>
 wpAny_mono (h pins s σ H D (I.wish _) hw) (fun _ _ q => q.unwish) fun _ _ z => False.elim z
end
section
variable {X:Cx} {st:Stmt} {rest:List Stmt} {t u:TS} {e:Expr} {te:TE} {pos:Pos}
noncomputable def tNext:TS:=fun D σ H => D.nx σ H
noncomputable def tSeq (t u:TS):TS:=fun D σ H => t { D with nx:=u D } σ H
theorem pss_nil:PSs X [] tNext:=fun _ _ σ H _ I h => wpAny_execs_nil ⟨σ,H,I,h⟩
theorem pss_cons (h1:PS X st t) (h2:PSs X rest u):PSs X (st :: rest) (tSeq t u):=by
 intro pins s σ H D I h
 refine wpAny_execs_cons (thn (h1 pins s σ H { D with nx:=u D } I h) fun f s1 q => ?_)
 cases f with
 | next =>
  obtain ⟨σ',H',I',q⟩:=q
  exact h2 pins s1 σ' H' D I' q
 | ret v => exact q
 | brk => exact q
 | cont => exact q
theorem Inv.quiet {pins:List (Addr × Obj)} {σ:St} {H:Hp} {s:Shared} (I:Inv X pins σ H s):interactive X.env = false:=by simp [interactive,I.ok.kind]
noncomputable def tDrop (te:TE):TS:=fun D σ H => te σ H fun _ H1 => D.nx σ H1
theorem ps_expr (he:PE X e te) (hs:swapsWith e none pos.line X.env = pure false:=by rfl):PS X (.Expr e pos) (tDrop te):=by
 intro pins s σ H D I h
 exact wpAny_Expr_any (thn (he pins s σ H _ I h) fun v s1 ⟨x,H1,I1,r1,q1⟩ => ⟨σ,H1,I1,q1⟩) I.quiet hs
noncomputable def tRet (te:TE):TS:=fun D σ H => te σ H D.rt
theorem ps_ret (he:PE X e te):PS X (.Return (some e) pos) (tRet te):=by
 intro pins s σ H D I h
 exact wpAny_Return_some (thn (he pins s σ H _ I h) fun v s1 ⟨x,H1,I1,r1,q1⟩ => ⟨x,σ,H1,I1,r1,q1⟩)
noncomputable def tIfS (c:TT) (t u:TS):TS:=fun D σ H => c σ H fun b H1 => if b = true then t D σ H1 else u D σ H1
theorem ps_if {c:Expr} {a b:List Stmt} {tc:TT} (hc:PT X c tc) (ha:PSs X a t) (hb:PSs X b u):PS X (.If c a b pos) (tIfS tc t u):=by
 intro pins s σ H D I h
 refine wpAny_If (thn (hc pins s σ H _ I h) fun d s1 ⟨H1,I1,q1⟩ => ?_)
 cases d with
 | true => exact ha pins s1 σ H1 D I1 q1
 | false => exact hb pins s1 σ H1 D I1 q1
noncomputable def tNever:TS:=fun _ _ _ => False
theorem ps_never:PS X st tNever:=fun _ _ _ _ _ _ h => h.elim
end
noncomputable abbrev TG:=V -> St -> Hp -> (St -> Hp -> Prop) -> Prop
noncomputable abbrev TGs:=List V -> St -> Hp -> (St -> Hp -> Prop) -> Prop
noncomputable def PG (X:Cx) (target:Expr) (t:TG):Prop :=
 ∀ (pins:List (Addr × Obj)) (s:Shared) (σ:St) (H:Hp) (v:V) (u:Value) (Q:St -> Hp -> Prop),Inv X pins σ H s -> RelV v u -> t v σ H Q ->
  wpAny (model X.prog X.w) X.A (assign target X.env u) (fun _ s' => ∃ σ' H',Inv X pins σ' H' s' /\ Q σ' H') X.xe s
noncomputable def PGs (X:Cx) (ts:List Expr) (t:TGs):Prop :=
 ∀ (pins:List (Addr × Obj)) (s:Shared) (σ:St) (H:Hp) (vs:List V) (us:List Value) (Q:St -> Hp -> Prop),Inv X pins σ H s -> Vals vs us -> t vs σ H Q ->
  wpAny (model X.prog X.w) X.A (assignInOrder ((assignEach ts X.env).map (·.2)) us) (fun _ s' => ∃ σ' H',Inv X pins σ' H' s' /\ Q σ' H') X.xe s
section
variable {X:Cx} {pos:Pos}
noncomputable def gName (i:Nat):TG:=fun v σ H Q => Q (σ.set i (some v)) H
theorem pg_name {i:Nat} {x:Str} (hN:X.N.Nodup) (hi:X.N[i]? = some x) (hx:Loc X.env.scope x) (hf:X.fn x = true \/ X.env.scope.names.lookup x = some .local:=by first | exact .inl rfl | exact .inr rfl | assumption):PG X (.Name x pos) (gName i):=by
 intro pins s σ H v u Q I r h
 exact wpAny_assign_Name (store_ok I hN hi hx r (fun s' I' => ⟨_,H,I',h⟩) hf)
noncomputable def gNil:TGs:=fun vs σ H Q => vs = [] /\ Q σ H
noncomputable def gCons (t:TG) (u:TGs):TGs:=fun vs σ H Q => ∃ v r,vs = v :: r /\ t v σ H fun σ' H' => u r σ' H' Q
theorem pgs_nil:PGs X [] gNil:=by
 intro pins s σ H vs us Q I r h
 obtain ⟨e,h⟩:=h
 subst e
 cases r
 exact assignInOrder_nil ⟨σ,H,I,h⟩
theorem pgs_cons {e:Expr} {es:List Expr} {t:TG} {u:TGs} (h1:PG X e t) (h2:PGs X es u)
  (hs:(assignEach (e :: es) X.env).map (·.2) = assign e X.env :: (assignEach es X.env).map (·.2):=by rfl):PGs X (e :: es) (gCons t u):=by
 intro pins s σ H vs us Q I r h
 obtain ⟨v,vr,e1,h⟩:=h
 subst e1
 cases r with
 | cons r rr =>
  rw [hs]
  refine assignInOrder_cons (thn (h1 pins s σ H _ _ _ I r h) fun _ s1 ⟨σ1,H1,I1,q1⟩ => ?_)
  exact h2 pins s1 σ1 H1 _ _ Q I1 rr q1
noncomputable def gTup (K:PySem.W.Frag) (n:Nat) (t:TGs):TG:=fun v σ H Q => ∃ a xs,v = .ref a /\ SqT K H a xs /\ xs.length = n /\ t xs σ H Q
theorem pg_tup {es:List Expr} {k:Nat} {t:TGs} {n:Nat} (hc:X.calm = true) (h:PGs X es t)
  (hn:(assignEach es X.env).length = n:=by rfl) (hst:(assignEach es X.env).findIdx? (·.1) = none:=by rfl):PG X (.Tuple es k pos) (gTup X.K n t):=by
 intro pins s σ H v u Q I r hw
 obtain ⟨a,xs,e1,hq,hl,hw⟩:=hw
 subst e1
 cases r
 obtain ⟨its,rv,ht,hz⟩:=I.tuple hq
 refine assign_Tuple_tuple (I.ok.hd hc) ht (by simp [hn,<- hl,rv.length]) hst fun h' hx => ?_
 have I1:Inv X pins σ H { s with heap:=h' }:=I.kept (t':=s.toks) fun b o e => hx b o (Nat.ne_of_lt (Heap.lt_size e)) e
 exact h pins _ σ H xs _ Q I1 (by simpa using rv) hw
noncomputable def tAsg (te:TE) (g:TG):TS:=fun D σ H => te σ H fun x H1 => g x σ H1 D.nx
theorem ps_set {i:Nat} {x:Str} {e:Expr} {te:TE} {pos':Pos} (hN:X.N.Nodup) (hi:X.N[i]? = some x) (hx:Loc X.env.scope x) (he:PE X e te) (hs:swapsWith e (some (.Name x pos')) pos.line X.env = pure false:=by rfl) (hf:X.fn x = true \/ X.env.scope.names.lookup x = some .local:=by first | exact .inl rfl | exact .inr rfl | assumption) :
  PS X (.Assign [.Name x pos'] e pos) (tAsg te (gName i)):=by
 intro pins s σ H D I h
 refine wpAny_Assign_Name (thn (he pins s σ H _ I h) fun v s1 ⟨y,H1,I1,r1,q1⟩ => ?_) hs
 exact store_ok I1 hN hi hx r1 (fun s2 I2 => ⟨_,H1,I2,q1⟩) hf
end
section
variable {X:Cx} {pos:Pos}
end
structure It where
 go:Nat -> Hp -> Prop
 yld:Nat -> Hp -> V -> Hp -> Prop
 stop:Nat -> Hp -> Prop
noncomputable def FpOk (X:Cx) (pins:List (Addr × Obj)) (H:Hp) (b:Addr):Prop :=
 H b = none /\ b ≠ X.env.locals /\ b ∉ X.fs /\ (b ∈ X.ex \/ X.s₀.heap.objs.size <= b) /\ (∀ x c,X.env.cells.lookup x = some c -> c ≠ b) /\ ∀ p ∈ X.pn ++ pins,p.1 ≠ b
theorem Inv.fpOk {X:Cx} {pins:List (Addr × Obj)} {σ:St} {H H':Hp} {s:Shared} {b:Addr} (I:Inv X pins σ H s) (hb:s.heap.objs.size <= b) (hn:H' b = none):FpOk X pins H' b:=by
 refine ⟨hn,Nat.ne_of_gt (Nat.lt_of_lt_of_le I.lt hb),I.nofs hb,.inr (Nat.le_trans I.sz hb),fun x c e z => ?_,fun p hp z => ?_⟩
 ·obtain ⟨v,q⟩:=I.cell x c e
  exact absurd (Nat.lt_of_lt_of_le q.lt (by rw [z]; exact hb)) (Nat.lt_irrefl _)
 ·exact absurd (Nat.lt_of_lt_of_le (Heap.lt_size (I.pin p hp).1) (by rw [z]; exact hb)) (Nat.lt_irrefl _)
structure Turn (P:Program) (w:World) (K:PySem.W.Frag) (tg:Expr) (J:It) (fp:List Addr) (it:Addr) (tn:Nat -> Heap -> Prop):Prop where
 mem:it ∈ fp
 obj:∀ i h,tn i h -> ∀ b ∈ fp,∃ o,h.get? b = some o /\ ∀ v,o.data ≠ .cell v
 keep:∀ i h h',tn i h -> (∀ b ∈ fp,∀ o,h.get? b = some o -> h'.get? b = some o) -> tn i h'
 item:∀ (X:Cx),X.prog = P -> X.w = w -> X.K = K -> X.calm = true -> ∀ (i:Nat) (pins:List (Addr × Obj)) (s:Shared) (σ:St) (H:Hp) (E:Value -> Shared -> Prop),Inv X pins σ H s -> (∀ b ∈ fp,FpOk X pins H b) -> tn i s.heap -> J.go i H ->
  wpAny (model P w) X.A (pyNext (.ref it)) (fun r s1 => ∃ u,r = some u /\
   wpAny (model P w) X.A (letOwnedTupleGo tg (.ref it) u) (fun _ s2 => ∃ x H',Inv X pins σ H' s2 /\ RelV x u /\ J.yld i H x H' /\ tn (i + 1) s2.heap /\ ∀ b ∈ fp,H' b = none) E s1) E s
 done:∀ (X:Cx),X.prog = P -> X.w = w -> X.K = K -> X.calm = true -> ∀ (i:Nat) (pins:List (Addr × Obj)) (s:Shared) (σ:St) (H:Hp) (E:Value -> Shared -> Prop),Inv X pins σ H s -> (∀ b ∈ fp,FpOk X pins H b) -> tn i s.heap -> J.stop i H ->
  wpAny (model P w) X.A (pyNext (.ref it)) (fun r s1 => r = none /\ Inv X pins σ H s1) E s
 self:∀ (A:Around) (i:Nat) (s:Shared) (Q:Value -> Shared -> Prop) (E:Value -> Shared -> Prop),tn i s.heap -> Q (.ref it) s -> wpAny (model P w) A (pyIter (.ref it)) Q E s
noncomputable abbrev TI:=St -> Hp -> (It -> Hp -> Prop) -> Prop
noncomputable def PIE (X:Cx) (pins:List (Addr × Obj)) (σ:St) (tg:Expr) (R:It -> Hp -> Prop) (itv:Value) (s2:Shared):Prop :=
 ∃ (it:Addr) (fp:List Addr) (tn:Nat -> Heap -> Prop) (J:It) (H':Hp),itv = .ref it /\ Inv X pins σ H' s2 /\ Turn X.prog X.w X.K tg J fp it tn /\ tn 0 s2.heap /\ (∀ b ∈ fp,FpOk X pins H' b) /\ R J H'
noncomputable def PI (X:Cx) (tg iter:Expr) (wi:TI):Prop :=
 ∀ (pins:List (Addr × Obj)) (s:Shared) (σ:St) (H:Hp) (R:It -> Hp -> Prop),Inv X pins σ H s -> wi σ H R ->
  wpAny (model X.prog X.w) X.A (eval iter X.env) (fun v s1 => wpAny (model X.prog X.w) X.A (pyIter v) (PIE X pins σ tg R) X.xe s1) X.xe s
theorem go_of {M:Model} {A:Around} {E:Value -> Shared -> Prop} {s:Shared} {tg:Expr} {it:Addr} {u:Value} {o:Obj} {n:String} {vs:Array Value} {Q:Unit -> Shared -> Prop} (ho:s.heap.get? it = some o) (hc:o.cls = .type n) (hd:o.data = .fields vs)
    (hn:["enumerate","zip","dict_itemiterator","dict_reverseitemiterator","odict_iterator","itertools.zip_longest","itertools.pairwise"].contains n = false) (hQ:Q () s):wpAny M A (letOwnedTupleGo tg (.ref it) u) Q E s:=by
  unfold letOwnedTupleGo
  cases tg <;> first
    | exact wpAny_pure hQ
    | (cases u <;> first
        | exact wpAny_pure hQ
        | (refine wpAny_bind (wpAny_load ho ?_)
           rw [hc,hd]
           show wpAny M A (if (["enumerate","zip","dict_itemiterator","dict_reverseitemiterator","odict_iterator","itertools.zip_longest","itertools.pairwise"].contains n && vs[0]? == some (rawInt _)) = true then _ else _) Q E s
           rw [if_neg (by intro h; rw [hn,Bool.false_and] at h; cases h)]
           exact wpAny_pure hQ))
noncomputable def Itl (K:PySem.W.Frag) (a:Addr):It :=
 ⟨fun i H => ∃ xs x,SqL K H a xs /\ xs[i]? = some x,fun i H x H' => H' = H /\ ∀ xs,SqL K H a xs -> xs[i]? = some x,fun i H => ∃ xs,SqL K H a xs /\ xs.length <= i⟩
noncomputable def Itt (K:PySem.W.Frag) (a:Addr):It :=
 ⟨fun i H => ∃ xs x,SqT K H a xs /\ xs[i]? = some x,fun i H x H' => H' = H /\ ∀ xs,SqT K H a xs -> xs[i]? = some x,fun i H => ∃ xs,SqT K H a xs /\ xs.length <= i⟩
noncomputable def Itr (lo:Int) (n:Nat):It:=⟨fun i _ => i < n,fun i H x H' => H' = H /\ x = .int (lo + i),fun i _ => n <= i⟩
theorem turn_list {P:Program} {w:World} {K:PySem.W.Frag} {tg:Expr} (a it:Addr):Turn P w K tg (Itl K a) [it] it (fun i h => h.IsListIter it a i) where
 mem:=by simp
 obj:=fun i h st b hb => by
  have e:b = it:=by simpa using hb
  subst e
  obtain ⟨o,e,c,d⟩:=st
  exact ⟨o,e,fun v z => by rw [d] at z; cases z⟩
 keep:=fun i h h' st k => st.at fun o e => k it (by simp) o e
 item:=by
  intro X hP hw hK hc i pins s σ H E I hf st hg
  subst hP hw hK
  obtain ⟨xs,x,hq,hx⟩:=hg
  obtain ⟨its,rv,p,hz⟩:=I.list hq
  obtain ⟨u,hu,ru⟩:=rv.get hx
  obtain ⟨f0,f1,f2,f3,f4,f5⟩:=hf it (by simp)
  refine wpAny_pyNext_list_item st p.isList (x:=u) (by simpa using hu) fun h' st' sb => ?_
  have I1:Inv X pins σ H { s with heap:=h' }:=I.turned (t':=s.toks) (fun b o hb e => (sb.2 b hb).trans e) f0 f1 f3 f4 f5
  obtain ⟨o,e,c,d⟩:=id st'
  exact ⟨u,rfl,go_of (s:={ s with heap:=h' }) e c d (by decide) ⟨x,H,I1,ru,⟨rfl,fun ys hy => by rw [I.list_inj hy hq]; exact hx⟩,st',fun b hb => (hf b hb).1⟩⟩
 done:=by
  intro X hP hw hK hc i pins s σ H E I hf st hg
  subst hP hw hK
  obtain ⟨xs,hq,hx⟩:=hg
  obtain ⟨its,rv,p,hz⟩:=I.list hq
  obtain ⟨f0,f1,f2,f3,f4,f5⟩:=hf it (by simp)
  have hl:=rv.length
  exact wpAny_pyNext_list_end (I.ok.hd hc) st p.isList (by simp; omega) fun h' eb => ⟨rfl,I.turned (t':=s.toks) (fun b o hb e => eb b o hb e) f0 f1 f3 f4 f5⟩
 self:=fun _ _ _ _ _ st h => wpAny_pyIter_listiter st h
theorem turn_tuple {P:Program} {w:World} {K:PySem.W.Frag} {tg:Expr} (a it:Addr):Turn P w K tg (Itt K a) [it] it (fun i h => h.IsTupleIter it a i) where
 mem:=by simp
 obj:=fun i h st b hb => by
  have e:b = it:=by simpa using hb
  subst e
  obtain ⟨o,e,c,d⟩:=st
  exact ⟨o,e,fun v z => by rw [d] at z; cases z⟩
 keep:=fun i h h' st k => st.at fun o e => k it (by simp) o e
 item:=by
  intro X hP hw hK hc i pins s σ H E I hf st hg
  subst hP hw hK
  obtain ⟨xs,x,hq,hx⟩:=hg
  obtain ⟨its,rv,p,hz⟩:=I.tuple hq
  obtain ⟨u,hu,ru⟩:=rv.get hx
  obtain ⟨f0,f1,f2,f3,f4,f5⟩:=hf it (by simp)
  refine wpAny_pyNext_tuple_item st (show s.heap.IsTuple a its.toArray from p) (x:=u) (by simpa using hu) fun h' st' sb => ?_
  have I1:Inv X pins σ H { s with heap:=h' }:=I.turned (t':=s.toks) (fun b o hb e => (sb.2 b hb).trans e) f0 f1 f3 f4 f5
  obtain ⟨o,e,c,d⟩:=id st'
  exact ⟨u,rfl,go_of (s:={ s with heap:=h' }) e c d (by decide) ⟨x,H,I1,ru,⟨rfl,fun ys hy => by rw [I.tuple_inj hy hq]; exact hx⟩,st',fun b hb => (hf b hb).1⟩⟩
 done:=by
  intro X hP hw hK hc i pins s σ H E I hf st hg
  subst hP hw hK
  obtain ⟨xs,hq,hx⟩:=hg
  obtain ⟨its,rv,p,hz⟩:=I.tuple hq
  obtain ⟨f0,f1,f2,f3,f4,f5⟩:=hf it (by simp)
  have hl:=rv.length
  exact wpAny_pyNext_tuple_end (I.ok.hd hc) st (show s.heap.IsTuple a its.toArray from p) (by simp; omega) fun h' eb => ⟨rfl,I.turned (t':=s.toks) (fun b o hb e => eb b o hb e) f0 f1 f3 f4 f5⟩
 self:=fun _ _ _ _ _ st h => wpAny_pyIter_tupleiter st h
theorem turn_range {P:Program} {w:World} {K:PySem.W.Frag} {tg:Expr} (it:Addr) (lo:Int) (n:Nat):Turn P w K tg (Itr lo n) [it] it (fun i h => IsRangeIter h it (lo + (i:Nat) * 1) ((n:Int) - (i:Nat)) 1) where
 mem:=by simp
 obj:=fun i h st b hb => by
  have e:b = it:=by simpa using hb
  subst e
  exact ⟨_,st,fun v z => by
   have z':Data.fields _ = Data.cell v:=z
   cases z'⟩
 keep:=fun i h h' st k => k it (by simp) _ st
 item:=by
  intro X hP hw hK hc i pins s σ H E I hf st hg
  subst hP hw hK
  obtain ⟨f0,f1,f2,f3,f4,f5⟩:=hf it (by simp)
  have W:=Walks.range (prog:=X.prog) (w:=X.w) (I.ok.hd hc) it lo 1 n
  refine W.item i s _ _ hg st fun v h' tk hv st' kk => ?_
  obtain ⟨t,rfl⟩:=hv
  have I1:Inv X pins σ H { s with heap:=h',toks:=tk }:=I.turned (fun b o hb e => kk b o (by simpa using hb) e) f0 f1 f3 f4 f5
  refine ⟨_,rfl,go_of (s:={ s with heap:=h',toks:=tk }) (n:="range_iterator") st' rfl rfl (by decide) ⟨.int (lo + i),H,I1,⟨t,?_⟩,⟨rfl,rfl⟩,st',fun b hb => (hf b hb).1⟩⟩
  rw [Int.mul_one]
 done:=by
  intro X hP hw hK hc i pins s σ H E I hf st hg
  subst hP hw hK
  obtain ⟨f0,f1,f2,f3,f4,f5⟩:=hf it (by simp)
  exact wpAny_pyNext_range_end (I.ok.hd hc) st (by have:n <= i:=hg; omega) fun h' eb => ⟨rfl,I.turned (t':=s.toks) (fun b o hb e => eb b o hb e) f0 f1 f3 f4 f5⟩
 self:=fun _ _ _ _ _ st h => wpAny_pyIter_rangeiter st h
end L2
namespace L2
open PySem PySem.Spec PyProof.Rows
section
variable {X:Cx} {tg:Expr}
noncomputable def iList (K:PySem.W.Frag) (tl:TE):TI:=fun σ H R => tl σ H fun x H1 => ∃ a,x = .ref a /\ (∃ xs,SqL K H1 a xs) /\ R (Itl K a) H1
noncomputable def iTup (K:PySem.W.Frag) (tl:TE):TI:=fun σ H R => tl σ H fun x H1 => ∃ a,x = .ref a /\ (∃ xs,SqT K H1 a xs) /\ R (Itt K a) H1
theorem pi_list {l:Expr} {tl:TE} (hl:PE X l tl):PI X tg l (iList X.K tl):=by
 intro pins s σ H R I h
 refine thn (hl pins s σ H _ I h) fun v s1 ⟨x,H1,I1,r1,q1⟩ => ?_
 obtain ⟨a,e,⟨xs,hq⟩,q⟩:=q1
 subst e
 cases r1
 obtain ⟨its,rv,p,hz⟩:=I1.list hq
 refine wpAny_pyIter_list p.isList ?_
 refine ⟨s1.heap.objs.size,[s1.heap.objs.size],_,_,H1,rfl,I1.kept (t':=s1.toks) fun b o e => Heap.get?_push_of_some _ e,turn_list a _,⟨_,Heap.get?_push_size _ rfl,rfl,rfl⟩,fun b hb => ?_,q⟩
 have e:b = s1.heap.objs.size:=by simpa using hb
 subst e
 exact I1.fpOk (Nat.le_refl _) (I1.hok.fresh (Nat.le_refl _))
theorem pi_tup {l:Expr} {tl:TE} (hl:PE X l tl):PI X tg l (iTup X.K tl):=by
 intro pins s σ H R I h
 refine thn (hl pins s σ H _ I h) fun v s1 ⟨x,H1,I1,r1,q1⟩ => ?_
 obtain ⟨a,e,⟨xs,hq⟩,q⟩:=q1
 subst e
 cases r1
 obtain ⟨its,rv,p,hz⟩:=I1.tuple hq
 refine wpAny_pyIter_tuple (show s1.heap.IsTuple a its.toArray from p) ?_
 refine ⟨s1.heap.objs.size,[s1.heap.objs.size],_,_,H1,rfl,I1.kept (t':=s1.toks) fun b o e => Heap.get?_push_of_some _ e,turn_tuple a _,⟨_,Heap.get?_push_size _ rfl,rfl,rfl⟩,fun b hb => ?_,q⟩
 have e:b = s1.heap.objs.size:=by simpa using hb
 subst e
 exact I1.fpOk (Nat.le_refl _) (I1.hok.fresh (Nat.le_refl _))
theorem range_it {pins:List (Addr × Obj)} {σ:St} {H:Hp} {s:Shared} {R:It -> Hp -> Prop} {E:Value -> Shared -> Prop} {lo hi:Int} {t u v:Tok} {tk:Nat} (I:Inv X pins σ H s) (h1:-(2 ^ 62) <= lo) (h2:lo < 2 ^ 62) (h3:-(2 ^ 62) <= hi) (h4:hi < 2 ^ 62)
  (q:R (Itr lo (hi - lo).toNat) H):wpAny (model X.prog X.w) X.A (pyIter (.ref s.heap.objs.size)) (PIE X pins σ tg R) E { s with heap:=s.heap.push { cls:=.type "range",data:=.fields #[.int lo t,.int hi u,.int 1 v] },toks:=tk }:=by
 refine wpAny_pyIter_range (IsRange.new ..) (small_one h1 h2 h3 h4) ?_
 have I1:Inv X pins σ H { s with heap:=s.heap.push { cls:=.type "range",data:=.fields #[.int lo t,.int hi u,.int 1 v] },toks:=tk }:=I.kept fun b o e => Heap.get?_push_of_some _ e
 refine ⟨(s.heap.push { cls:=.type "range",data:=.fields #[.int lo t,.int hi u,.int 1 v] }).objs.size,[(s.heap.push { cls:=.type "range",data:=.fields #[.int lo t,.int hi u,.int 1 v] }).objs.size],_,_,H,rfl,
  I1.kept (t':=tk) fun b o e => Heap.get?_push_of_some _ e,turn_range _ lo (hi - lo).toNat,?_,fun b hb => ?_,q⟩
 ·have e1:lo + ((0:Nat):Int) * 1 = lo:=by simp
  have e2:(((hi - lo).toNat:Nat):Int) - ((0:Nat):Int) = Builtin.Range.rangeSize lo hi 1:=by rw [rangeSize_one]; split <;> omega
  show IsRangeIter _ _ (lo + ((0:Nat):Int) * 1) ((((hi - lo).toNat:Nat):Int) - ((0:Nat):Int)) 1
  rw [e1,e2]
  exact Heap.get?_push_size _ rfl
 ·have e:b = (s.heap.push { cls:=.type "range",data:=.fields #[.int lo t,.int hi u,.int 1 v] }).objs.size:=by simpa using hb
  subst e
  exact I1.fpOk (Nat.le_refl _) (I1.hok.fresh (Nat.le_refl _))
noncomputable def iRng1 (ta:TA):TI:=fun σ H R => ta σ H fun vs H1 => ∃ j:Int,vs = [.int j] /\ -(2 ^ 62) <= j /\ j < 2 ^ 62 /\ R (Itr 0 j.toNat) H1
noncomputable def iRng2 (ta:TA):TI:=fun σ H R => ta σ H fun vs H1 => ∃ i j:Int,vs = [.int i,.int j] /\ (-(2 ^ 62) <= i /\ i < 2 ^ 62 /\ -(2 ^ 62) <= j /\ j < 2 ^ 62) /\ R (Itr i (j - i).toNat) H1
theorem pi_range1 {a:Expr} {ta:TA} {p pos:Pos} (hg:Gl X "range") (hm:X.mg "range" = none) (ha:PA X [a] ta) (hs:starEach [a] X.env = [(false,eval a X.env)]:=by rfl):PI X tg (.Call (.Name "range" p) [a] [] pos) (iRng1 ta):=by
 intro pins s σ H R I h
 refine Call_ (ld_blt I hg hm boot_range (PyProof.Rows.callWith_type1 (thn (ha pos pins s σ H _ I h) fun us s1 ⟨vs,H1,I1,r1,q1⟩ => ?_) hs rfl))
 obtain ⟨j,e,q1,q2,q⟩:=q1
 subst e
 cases r1 with
 | cons r rr =>
  cases rr
  obtain ⟨t,rfl⟩:=r
  exact call_range_1 (range_it I1 (by omega) (by omega) q1 q2 (by simpa using q))
theorem pi_range2 {a b:Expr} {ta:TA} {p pos:Pos} (hg:Gl X "range") (hm:X.mg "range" = none) (ha:PA X [a,b] ta) (hs:starEach [a,b] X.env = [(false,eval a X.env),(false,eval b X.env)]:=by rfl) (hs2:starEach [b] X.env = [(false,eval b X.env)]:=by rfl) :
  PI X tg (.Call (.Name "range" p) [a,b] [] pos) (iRng2 ta):=by
 intro pins s σ H R I h
 refine Call_ (ld_blt I hg hm boot_range (PyProof.Rows.callWith_type1 (thn (ha pos pins s σ H _ I h) fun us s1 ⟨vs,H1,I1,r1,q1⟩ => ?_) (by rw [hs,hs2]) (by rw [hs2]; rfl)))
 obtain ⟨i,j,e,⟨q1,q2,q3,q4⟩,q⟩:=q1
 subst e
 cases r1 with
 | cons r rr =>
  cases rr with
  | cons r' rr =>
   cases rr
   obtain ⟨t,rfl⟩:=r
   obtain ⟨t',rfl⟩:=r'
   exact call_range_2 (range_it I1 q1 q2 q3 q4 q)
noncomputable def tFor (wi:TI) (g:TG) (tb:TS):TS:=fun D σ H => wi σ H fun J H1 => ∃ W:Nat -> Nat -> St -> Hp -> Prop,(∃ m,W 0 m σ H1) /\ ∀ i m σ H,W i m σ H ->
 (J.stop i H /\ D.nx σ H) \/ (J.go i H /\ ∃ N:St -> Hp -> Prop,(∀ σ' H',N σ' H' -> ∃ m',m' < m /\ W (i + 1) m' σ' H') /\ ∀ x H',J.yld i H x H' -> g x σ H' fun σ2 H2 => tb { D with nx:=N,ct:=N,bk:=D.nx } σ2 H2)
noncomputable def pinsAt (fp:List Addr) (h:Heap):List (Addr × Obj):=fp.filterMap fun b => (h.get? b).map fun o => (b,o)
theorem mem_pinsAt {fp:List Addr} {h:Heap} {b:Addr} {o:Obj} (hb:b ∈ fp) (e:h.get? b = some o):(b,o) ∈ pinsAt fp h:=List.mem_filterMap.mpr ⟨b,hb,by rw [e]; rfl⟩
theorem of_pinsAt {fp:List Addr} {h:Heap} {p:Addr × Obj} (hp:p ∈ pinsAt fp h):p.1 ∈ fp /\ h.get? p.1 = some p.2:=by
 obtain ⟨b,hb,e⟩:=List.mem_filterMap.mp hp
 cases q:h.get? b with
 | none => rw [q] at e; cases e
 | some o =>
  rw [q] at e
  have e':(b,o) = p:=Option.some.inj e
  subst e'
  exact ⟨hb,q⟩
theorem Inv.pinned {pins:List (Addr × Obj)} {σ:St} {H:Hp} {s:Shared} {fp:List Addr} (I:Inv X pins σ H s) (hf:∀ b ∈ fp,FpOk X pins H b) (ho:∀ b ∈ fp,∃ o,s.heap.get? b = some o /\ ∀ v,o.data ≠ .cell v):Inv X (pins ++ pinsAt fp s.heap) σ H s :=
 I.pins_of fun p hp => (List.mem_append.mp hp).elim (fun z => I.pin p (List.mem_append_right _ z)) fun z => by
  obtain ⟨hb,e⟩:=of_pinsAt z
  obtain ⟨f0,f1,f2,_⟩:=hf p.1 hb
  obtain ⟨o,e',d⟩:=ho p.1 hb
  rw [e] at e'; cases e'
  exact ⟨e,f0,f1,f2,d⟩
theorem Inv.unpinned {pins pl:List (Addr × Obj)} {σ:St} {H:Hp} {s:Shared} (I:Inv X (pins ++ pl) σ H s):Inv X pins σ H s:=I.pins_of fun p hp => I.pin p (List.mem_append_right _ (List.mem_append_left _ hp))
theorem ps_for {iter:Expr} {body:List Stmt} {wi:TI} {g:TG} {tb:TS} {pos:Pos} (hp:PassesOwn (model X.prog X.w) X.A X.env X.xe) (hc:X.calm = true) (hi:PI X tg iter wi) (hg:PG X tg g) (hb:PSs X body tb)
  (hs:∀ x,foldedSetIterable iter X.env x = pure x:=by intro _; rfl):PS X (.For tg iter body [] pos) (tFor wi g tb):=by
 intro pins s σ H D I h
 refine wpAny_For (thn (hi pins s σ H _ I h) fun v s1 h1 => thn h1 fun itv s2 h2 => ?_) hs
 obtain ⟨it,fp,tn,J,H2,e,I2,T,st2,f2,W,⟨m0,w0⟩,turn⟩:=h2
 subst e
 have stat:∀ {H':Hp},(∀ b ∈ fp,H' b = none) -> ∀ b ∈ fp,FpOk X pins H' b:=fun hn b hb => ⟨hn b hb,(f2 b hb).2⟩
 refine codeAny_forLoop_any (fun n s' => ∃ i σ' H',Inv X pins σ' H' s' /\ tn i s'.heap /\ (∀ b ∈ fp,H' b = none) /\ W i n σ' H') ?_ m0 ⟨0,σ,H2,I2,st2,fun b hb => (f2 b hb).1,w0⟩
 rintro n s3 ⟨i,σ3,H3,I3,st3,fr3,w3⟩
 rcases turn i n σ3 H3 w3 with ⟨stop,qn⟩ | ⟨go,N,hN,step⟩
 ·refine wpAny_passesOwn hp (thn (T.done X rfl rfl rfl hc i pins s3 σ3 H3 X.xe I3 (stat fr3) st3 stop) fun r s4 ⟨hr,I4⟩ => ?_)
  subst hr
  exact wpAny_execs_nil ⟨σ3,H3,I4,qn⟩
 ·refine wpAny_passesOwn hp (thn (T.item X rfl rfl rfl hc i pins s3 σ3 H3 X.xe I3 (stat fr3) st3 go) fun r s4 ⟨u,hr,h4⟩ => ?_)
  subst hr
  refine wpAny_passesOwn hp (thn h4 fun _ s5 ⟨x,H5,I5,r5,y5,st5,fr5⟩ => ?_)
  have I5':=I5.pinned (stat fr5) (T.obj _ _ st5)
  refine wpAny_passesOwn hp (thn (hg _ s5 σ3 H5 x u _ I5' r5 (step x H5 y5)) fun _ s6 ⟨σ6,H6,I6,q6⟩ => ?_)
  refine wpAny_passesOwn hp (thn (hb _ s6 σ6 H6 _ I6 q6) fun f s7 q7 => ?_)
  have again:∀ {σ7:St} {H7:Hp},Inv X (pins ++ pinsAt fp s5.heap) σ7 H7 s7 -> N σ7 H7 -> ∃ m,m < n /\ ∃ i σ' H',Inv X pins σ' H' s7 /\ tn i s7.heap /\ (∀ b ∈ fp,H' b = none) /\ W i m σ' H':=fun {σ7 H7} I7 n7 => by
   obtain ⟨m',hm,w7⟩:=hN σ7 H7 n7
   refine ⟨m',hm,i + 1,σ7,H7,I7.unpinned,T.keep _ _ _ st5 fun b hb o e => (I7.pin (b,o) (List.mem_append_right _ (List.mem_append_right _ (mem_pinsAt hb e)))).1,fun b hb => ?_,w7⟩
   obtain ⟨o,e,d⟩:=T.obj _ _ st5 b hb
   exact (I7.pin (b,o) (List.mem_append_right _ (List.mem_append_right _ (mem_pinsAt hb e)))).2.1
  cases f with
  | next => obtain ⟨σ7,H7,I7,n7⟩:=q7; exact again I7 n7
  | cont => obtain ⟨σ7,H7,I7,n7⟩:=q7; exact again I7 n7
  | brk => obtain ⟨σ7,H7,I7,q7⟩:=q7; exact ⟨σ7,H7,I7.unpinned,q7⟩
  | ret v => obtain ⟨x7,σ7,H7,I7,r7,q7⟩:=q7; exact ⟨x7,σ7,H7,I7.unpinned,r7,q7⟩
end
end L2
namespace L2
open PySem PySem.Spec PyProof.Rows
noncomputable abbrev R2:=V -> V -> Hp -> VK -> Prop
noncomputable def OpR (X:Cx) (f:Value -> Value -> Sem Value) (r:R2):Prop :=
 ∀ (pins:List (Addr × Obj)) (s:Shared) (σ:St) (H:Hp) (x y:V) (v u:Value) (Q:VK),Inv X pins σ H s -> RelV x v -> RelV y u -> r x y H Q ->
  wpAny (model X.prog X.w) X.A (f v u) (EP X pins σ Q) X.xe s
noncomputable def CallR (X:Cx) (f:Value) (r:List V -> Hp -> VK -> Prop):Prop :=
 ∀ (pins:List (Addr × Obj)) (s:Shared) (σ:St) (H:Hp) (xs:List V) (us:List Value) (Q:VK),Inv X pins σ H s -> Vals xs us -> r xs H Q ->
  wpAny (model X.prog X.w) X.A (call f us) (EP X pins σ Q) X.xe s
noncomputable def tOp (r:R2) (ta tb:TE):TE:=fun σ H Q => ta σ H fun x H1 => tb σ H1 fun y H2 => r x y H2 Q
noncomputable def rI (C:Int -> Int -> Prop) (g:Int -> Int -> V):R2:=fun x y H Q => ∃ i j,x = .int i /\ y = .int j /\ C i j /\ Q (g i j) H
noncomputable def rI0 (g:Int -> Int -> V):R2:=fun x y H Q => ∃ i j,x = .int i /\ y = .int j /\ Q (g i j) H
section
variable {X:Cx} {a b c:Expr} {ta tb tc:TE} {pos:Pos}
theorem binT (ha:PE X a ta) (hb:PE X b tb) {pins:List (Addr × Obj)} {s:Shared} {σ:St} {H:Hp} {R:V -> V -> Hp -> Prop} (I:Inv X pins σ H s)
  (h:ta σ H fun x H1 => tb σ H1 fun y H2 => R x y H2) {Q:Value -> Shared -> Prop} {f:Value -> Value -> Sem Value}
  (hf:∀ v u s2 x y H2,Inv X pins σ H2 s2 -> RelV x v -> RelV y u -> R x y H2 -> wpAny (model X.prog X.w) X.A (f v u) Q X.xe s2) :
  wpAny (model X.prog X.w) X.A (eval a X.env) (fun v s₁ => wpAny (model X.prog X.w) X.A (eval b X.env) (fun u s₂ => wpAny (model X.prog X.w) X.A (f v u) Q X.xe s₂) X.xe s₁) X.xe s:=by
 refine thn (ha pins s σ H _ I h) fun v s1 ⟨x,H1,I1,r1,q1⟩ => ?_
 refine thn (hb pins s1 σ H1 _ I1 q1) fun u s2 ⟨y,H2,I2,r2,q2⟩ => ?_
 exact hf v u s2 x y H2 I2 r1 r2 q2
theorem pe_op {op:Operator} {r:R2} (ho:OpR X (binaryOp op) r) (ha:PE X a ta) (hb:PE X b tb):PE X (.BinOp a op b pos) (tOp r ta tb):=by
 intro pins s σ H Q I h
 exact wpAny_BinOp (binT ha hb I h fun v u s2 x y H2 I2 rx ry q => ho pins s2 σ H2 x y v u Q I2 rx ry q)
theorem opI {f:Value -> Value -> Sem Value} {C:Int -> Int -> Prop} {g:Int -> Int -> Int}
  (rule:∀ (i j:Int) (t u:Tok) (s:Shared) (Q:Value -> Shared -> Prop) (E:Value -> Shared -> Prop),C i j -> Q (.int (g i j) s.toks) { s with toks:=s.toks + 1 } -> wpAny (model X.prog X.w) X.A (f (.int i t) (.int j u)) Q E s) :
  OpR X f (rI C fun i j => .int (g i j)):=by
 intro pins s σ H x y v u Q I rx ry h
 obtain ⟨i,j,rfl,rfl,hc,q⟩:=h
 obtain ⟨t,rfl⟩:=rx
 obtain ⟨t',rfl⟩:=ry
 exact rule i j t t' s _ _ hc ⟨.int (g i j),H,I.tok _,⟨_,rfl⟩,q⟩
theorem opI0 {f:Value -> Value -> Sem Value} {g:Int -> Int -> Int}
  (rule:∀ (i j:Int) (t u:Tok) (s:Shared) (Q:Value -> Shared -> Prop) (E:Value -> Shared -> Prop),Q (.int (g i j) s.toks) { s with toks:=s.toks + 1 } -> wpAny (model X.prog X.w) X.A (f (.int i t) (.int j u)) Q E s) :
  OpR X f (rI0 fun i j => .int (g i j)):=by
 intro pins s σ H x y v u Q I rx ry h
 obtain ⟨i,j,rfl,rfl,q⟩:=h
 obtain ⟨t,rfl⟩:=rx
 obtain ⟨t',rfl⟩:=ry
 exact rule i j t t' s _ _ ⟨.int (g i j),H,I.tok _,⟨_,rfl⟩,q⟩
theorem opB0 {f:Value -> Value -> Sem Value} {g:Int -> Int -> Bool}
  (rule:∀ (i j:Int) (t u:Tok) (s:Shared) (Q:Value -> Shared -> Prop) (E:Value -> Shared -> Prop),Q (.bool (g i j)) s -> wpAny (model X.prog X.w) X.A (f (.int i t) (.int j u)) Q E s) :
  OpR X f (rI0 fun i j => .bl (g i j)):=by
 intro pins s σ H x y v u Q I rx ry h
 obtain ⟨i,j,rfl,rfl,q⟩:=h
 obtain ⟨t,rfl⟩:=rx
 obtain ⟨t',rfl⟩:=ry
 exact rule i j t t' s _ _ ⟨.bl (g i j),H,I,rfl,q⟩
noncomputable def CDiv (i j:Int):Prop:=0 < j /\ j < 1073741824
noncomputable def CPow (i j:Int):Prop:=0 <= j /\ j <= 1000000 /\ i.natAbs < 2 ^ 64
noncomputable def CMul (i j:Int):Prop:=(-(2 ^ 64) < i /\ i < 2 ^ 64) \/ (-(2 ^ 64) < j /\ j < 2 ^ 64)
theorem CMul.ok {i j:Int} (h:CMul i j):IntMulOk i j:=by
 rcases h with ⟨h1,h2⟩ | ⟨h1,h2⟩
 ·exact .of_left (intBits_le_64 h1 h2)
 ·exact .of_right (intBits_le_64 h1 h2)
theorem two_pow_nn (k:Nat):(0:Int) <= 2 ^ k:=by
 rw [two_pow_cast]
 exact Int.natCast_nonneg _
theorem op_add:OpR X (binaryOp .Add) (rI0 fun i j => .int (i + j)):=opI0 fun _ _ _ _ _ _ _ q => add_int q
theorem op_sub:OpR X (binaryOp .Sub) (rI0 fun i j => .int (i - j)):=opI0 fun _ _ _ _ _ _ _ q => sub_int q
theorem op_mul:OpR X (binaryOp .Mult) (rI CMul fun i j => .int (i * j)):=opI fun _ _ _ _ _ _ _ hc q => mul_int q hc.ok
theorem op_fdiv:OpR X (binaryOp .FloorDiv) (rI CDiv fun i j => .int (i / j)):=opI fun i j _ _ _ _ _ hc q => by
 have h1:(0:Int) < j:=hc.1
 have h2:j < 1073741824:=hc.2
 exact floordiv_int (by omega) (by rw [Int.fdiv_eq_ediv_of_nonneg i (by omega)]; exact q) (.inl (PyProof.noPylong_small (by omega)))
theorem op_mod:OpR X (binaryOp .Mod) (rI (fun _ j => 0 < j) fun i j => .int (i % j)):=opI fun i j _ _ _ _ _ hc q => by
 have h1:(0:Int) < j:=hc
 exact mod_int' (by omega) (by rw [Int.fmod_eq_emod_of_nonneg i (by omega)]; exact q)
theorem op_pow:OpR X (binaryOp .Pow) (rI CPow fun i j => .int (i ^ j.toNat)):=opI fun _ _ _ _ _ _ _ hc q => pow_int_small hc.1 hc.2.1 hc.2.2 q
theorem op_shr:OpR X (binaryOp .RShift) (rI (fun _ j => 0 <= j) fun i j => .int (i / 2 ^ j.toNat)):=opI fun i j _ _ _ _ _ hc q =>
 rshift_int hc (by rw [Int.fdiv_eq_ediv_of_nonneg i (two_pow_nn _)]; exact q)
end
noncomputable def scal:V -> V -> Bool
 | .non,.non => true | .non,.int _ => true | .int _,.non => true | .non,.bl _ => true | .bl _,.non => true | .non,.str _ => true | .str _,.non => true
 | .int _,.int _ => true | .bl _,.bl _ => true | .str _,.str _ => true | .byt _,.byt _ => true
 | .int _,.str _ => true | .str _,.int _ => true | .bl _,.str _ => true | .str _,.bl _ => true
 | _,_ => false
noncomputable def rNe:R2:=fun x y H Q => scal x y = true /\ Q (.bl (!decide (x = y))) H
theorem dec_int {i j:Int}:decide (V.int i = V.int j) = (i == j):=by
 rw [Bool.eq_iff_iff]
 simp
theorem dec_bl {i j:Bool}:decide (V.bl i = V.bl j) = (i == j):=by
 rw [Bool.eq_iff_iff]
 simp
theorem dec_str {i j:Str}:decide (V.str i = V.str j) = (i == j):=by
 rw [Bool.eq_iff_iff]
 simp
theorem dec_byt {i j:Array UInt8}:decide (V.byt i = V.byt j) = (i.toList == j.toList):=by
 rw [Bool.eq_iff_iff]
 cases i
 cases j
 simp
section
variable {X:Cx} {a b c:Expr} {ta tb tc:TE} {pos:Pos}
theorem fin_bl {pins:List (Addr × Obj)} {σ:St} {H:Hp} {s:Shared} {Q:VK} {k k':Bool} (I:Inv X pins σ H s) (q:Q (.bl k) H) (e:k = k'):EP X pins σ Q (.bool k') s:=by
 subst e
 exact ⟨.bl k,H,I,rfl,q⟩
theorem op_ne:OpR X (compareOp .NotEq) rNe:=by
 intro pins s σ H x y v u Q I rx ry h
 obtain ⟨hs,q⟩:=h
 cases x with
 | non =>
  cases rx
  cases y with
  | non => cases ry; exact PySem.EqNone.ne_none_none (fin_bl I q (by simp))
  | bl j => cases ry; exact PySem.EqNone.ne_none_bool (fin_bl I q (by simp))
  | int j => obtain ⟨t',rfl⟩:=ry; exact PySem.EqNone.ne_none_int (fin_bl I q (by simp))
  | str j => obtain ⟨t',rfl⟩:=ry; exact PySem.EqNone.ne_none_str (fin_bl I q (by simp))
  | _ => exact absurd (show false = true from hs) Bool.false_ne_true
 | bl i =>
  cases rx
  cases y with
  | non => cases ry; exact PySem.EqNone.ne_bool_none (fin_bl I q (by simp))
  | bl j => cases ry; exact ne_bool (fin_bl I q (congrArg not dec_bl))
  | str j => obtain ⟨t',rfl⟩:=ry; exact PySem.EqMixed.ne_bool_str (fin_bl I q (by simp))
  | _ => exact absurd (show false = true from hs) Bool.false_ne_true
 | int i =>
  obtain ⟨t,rfl⟩:=rx
  cases y with
  | non => cases ry; exact PySem.EqNone.ne_int_none (fin_bl I q (by simp))
  | int j => obtain ⟨t',rfl⟩:=ry; exact ne_int (fin_bl I q (congrArg not dec_int))
  | str j => obtain ⟨t',rfl⟩:=ry; exact PySem.EqMixed.ne_int_str (fin_bl I q (by simp))
  | _ => exact absurd (show false = true from hs) Bool.false_ne_true
 | str i =>
  obtain ⟨t,rfl⟩:=rx
  cases y with
  | non => cases ry; exact PySem.EqNone.ne_str_none (fin_bl I q (by simp))
  | bl j => cases ry; exact PySem.EqMixed.ne_str_bool (fin_bl I q (by simp))
  | int j => obtain ⟨t',rfl⟩:=ry; exact PySem.EqMixed.ne_str_int (fin_bl I q (by simp))
  | str j => obtain ⟨t',rfl⟩:=ry; exact ne_str (fin_bl I q (congrArg not dec_str))
  | _ => exact absurd (show false = true from hs) Bool.false_ne_true
 | byt i =>
  obtain ⟨t,rfl⟩:=rx
  cases y with
  | byt j => obtain ⟨t',rfl⟩:=ry; exact PySem.W.ne_bytes (fin_bl I q (congrArg not dec_byt))
  | _ => exact absurd (show false = true from hs) Bool.false_ne_true
 | _ => cases y <;> exact absurd (show false = true from hs) Bool.false_ne_true
theorem op_lt:OpR X (compareOp .Lt) (rI0 fun i j => .bl (decide (i < j))):=opB0 fun _ _ _ _ _ _ _ q => lt_int q
theorem op_le:OpR X (compareOp .LtE) (rI0 fun i j => .bl (decide (i <= j))):=opB0 fun _ _ _ _ _ _ _ q => le_int q
theorem op_gt:OpR X (compareOp .Gt) (rI0 fun i j => .bl (decide (j < i))):=opB0 fun _ _ _ _ _ _ _ q => gt_int q
theorem op_ge:OpR X (compareOp .GtE) (rI0 fun i j => .bl (decide (j <= i))):=opB0 fun _ _ _ _ _ _ _ q => ge_int q
theorem op_isN:OpR X (compareOp .Is) (fun x y H Q => y = .non /\ Q (.bl (decide (x = .non))) H):=by
 intro pins s σ H x y v u Q I rx ry h
 obtain ⟨rfl,q⟩:=h
 cases ry
 refine is_none_gen (fin_bl I q ?_)
 cases x <;> first
  | (cases rx; rfl)
  | (obtain ⟨t,rfl⟩:=rx; rfl)
theorem op_notN:OpR X (compareOp .IsNot) (fun x y H Q => y = .non /\ Q (.bl (!decide (x = .non))) H):=by
 intro pins s σ H x y v u Q I rx ry h
 obtain ⟨rfl,q⟩:=h
 cases ry
 refine isnot_none_gen (fin_bl I q ?_)
 cases x <;> first
  | (cases rx; rfl)
  | (obtain ⟨t,rfl⟩:=rx; rfl)
theorem pe_cmpR {op:CmpOp} {r:R2} (ho:OpR X (compareOp op) r) (ha:PE X a ta) (hb:PE X b tb) (hm:behindInMarks op b = false):PE X (.Compare a [op] [b] pos) (tOp r ta tb):=by
 intro pins s σ H Q I h
 exact wpAny_Compare1 (binT ha hb I h fun v u s2 x y H2 I2 rx ry q => ho pins s2 σ H2 x y v u Q I2 rx ry q) hm
noncomputable def tTest (t:TE):TT:=fun σ H Q => t σ H fun x H' => ∃ k,x = .bl k /\ Q k H'
theorem pt_cmpR {op:CmpOp} {r:R2} (ho:OpR X (compareOp op) r) (ha:PE X a ta) (hb:PE X b tb) (hm:behindInMarks op b = false):PT X (.Compare a [op] [b] pos) (tTest (tOp r ta tb)):=by
 intro pins s σ H Q I h
 refine wpAny_isTrue_Compare1 (thn (ha pins s σ H _ I h) fun v s1 ⟨x,H1,I1,r1,q1⟩ => thn (hb pins s1 σ H1 _ I1 q1) fun u s2 ⟨y,H2,I2,r2,q2⟩ =>
  thn (ho pins s2 σ H2 x y v u _ I2 r1 r2 q2) fun c s3 ⟨z,H3,I3,r3,k,e,q3⟩ => ?_) hm
 subst e
 cases r3
 exact wpAny_truthy_bool ⟨H3,I3,q3⟩
theorem line63:(sizeLine:Nat) < 2 ^ 63:=by rw [sizeLine_eq]; decide
theorem op_add_str:OpR X (binaryOp .Add) (fun x y H Q => ∃ i j,x = .str i /\ y = .str j /\ i.length + j.length <= sizeLine /\ Q (.str (i ++ j)) H):=by
 intro pins s σ H x y v u Q I rx ry h
 obtain ⟨i,j,rfl,rfl,hz,q⟩:=h
 obtain ⟨t,rfl⟩:=rx
 obtain ⟨t',rfl⟩:=ry
 exact add_str (fun t' tk => ⟨.str (i ++ j),H,I.tok _,⟨_,rfl⟩,q⟩) hz
theorem vals1 {x:V} {us:List Value} (r:Vals [x] us):∃ u,us = [u] /\ RelV x u:=by
 cases r with
 | cons r1 r2 => cases r2; exact ⟨_,rfl,r1⟩
theorem vals2 {x y:V} {us:List Value} (r:Vals [x,y] us):∃ u w',us = [u,w'] /\ RelV x u /\ RelV y w':=by
 cases r with
 | cons r1 r2 =>
  cases r2 with
  | cons r3 r4 => cases r4; exact ⟨_,_,rfl,r1,r3⟩
end
end L2
namespace L2
open PySem PySem.Spec PyProof.Rows
section
variable {prog:Program} {w:World} {A:Around} {E:Value -> Shared -> Prop} {s:Shared} {K:PySem.W.Frag} {x dx C f:Addr} {mA:Str -> Option Value} {name:Str} {v:Value}
end
section
variable {P:Program} {w:World} {H H':Hp} {h h':Heap} {a C dx:Addr} {fs fs':List (Str × V)}
end
section
variable {X:Cx} {pins:List (Addr × Obj)} {σ:St} {H:Hp} {s:Shared} {a C dx:Addr} {fs:List (Str × V)} {f:Str} {v:V} {A:Around} {E:Value -> Shared -> Prop}
end
section
variable {X:Cx} {o e value:Expr} {f:Str} {pos pos' tpos:Pos} {ta tv:TE}
end
section
variable {X:Cx} {pins:List (Addr × Obj)} {σ:St} {H:Hp} {s:Shared} {A:Around} {E:Value -> Shared -> Prop} {Q:Value -> Shared -> Prop} {c:Value} {b:Bool}
end
end L2
namespace L2
open PySem PySem.Spec PyProof.Rows
structure Room (k:Nat) (A:Around):Prop where
 hd:A.handled = none
 dp:A.depth + 3 * k + 5 < recursionLimit
 un:A.units + 16 * k + 200 < cLine
theorem Room.deeper {k:Nat} {A:Around} (r:Room (k + 1) A) (env:Env):Room k (A.deeper env) :=
 ⟨r.hd,by have:=r.dp; show A.depth + 1 + 3 * k + 5 < _; omega,by have:=r.un; show A.units + 3 + 16 * k + 200 < _; omega⟩
theorem Room.depth {k:Nat} {A:Around} (r:Room k A):A.depth < recursionLimit:=by have:=r.dp; omega
noncomputable def tNil:TA:=fun _ H Q => Q [] H
noncomputable def tCons (ta:TE) (tr:TA):TA:=fun σ H Q => ta σ H fun x H1 => tr σ H1 fun xs H2 => Q (x :: xs) H2
section
variable {X:Cx} {e:Expr} {es:List Expr} {te:TE} {t:TA} {pos:Pos}
theorem pa_nil:PA X [] tNil:=fun _ _ _ _ H Q I h => Calls.spliced_nil ⟨[],H,I,.nil,h⟩
theorem pa_cons (ha:PE X e te) (hr:PA X es t) (hs:starEach (e :: es) X.env = (false,eval e X.env) :: starEach es X.env:=by rfl):PA X (e :: es) (tCons te t):=by
 intro pos pins s σ H Q I h
 rw [hs]
 show wpAny _ _ (spliced ((false,eval e X.env) :: backTo pos (starEach es X.env))) _ _ s
 refine Calls.spliced_cons (thn (ha pins s σ H _ I h) fun u s1 ⟨x,H1,I1,r1,q1⟩ => ?_)
 exact thn (hr pos pins s1 σ H1 _ I1 q1) fun us s2 ⟨xs,H2,I2,r2,q2⟩ => ⟨x :: xs,H2,I2,.cons r1 r2,q2⟩
noncomputable def tTup (t:TA):TE:=fun σ H Q => t σ H fun xs H1 => xs.length <= sizeLine /\ ∀ p,H1 p = none -> Q (.ref p) (upd H1 p (.tup xs))
noncomputable def tLst (t:TA):TE:=fun σ H Q => t σ H fun xs H1 => xs.length <= sizeLine /\ ∀ p,H1 p = none -> Q (.ref p) (upd H1 p (.lst xs))
theorem pe_tup {x1} (h:PA X es t):PE X (.Tuple es x1 pos) (tTup t):=by
 intro pins s σ H Q I hq
 refine wpAny_Tuple_spliced (thn (h pos pins s σ H _ I hq) fun us s1 ⟨xs,H1,I1,r,z,q⟩ => ⟨by rw [<- r.length]; exact z,?_⟩)
 have hf:H1 s1.heap.objs.size = none:=I1.hok.fresh (Nat.le_refl _)
 refine ⟨.ref s1.heap.objs.size,upd H1 s1.heap.objs.size (.tup xs),I1.laid (t':=s1.toks) (fun b u e => Heap.get?_push_of_some _ e) (Nat.le_refl _) ?_,rfl,q _ hf⟩
 exact ⟨z,us,r,⟨_,Heap.get?_push_size _ rfl,rfl,_,rfl⟩⟩
theorem pe_lst (h:PA X es t):PE X (.List es pos) (tLst t):=by
 intro pins s σ H Q I hq
 refine wpAny_List_spliced (thn (h pos pins s σ H _ I hq) fun us s1 ⟨xs,H1,I1,r,z,q⟩ => ⟨by rw [<- r.length]; exact z,?_⟩)
 have hf:H1 s1.heap.objs.size = none:=I1.hok.fresh (Nat.le_refl _)
 refine ⟨.ref s1.heap.objs.size,upd H1 s1.heap.objs.size (.lst xs),I1.laid (t':=s1.toks) (fun b u e => Heap.get?_push_of_some _ e) (Nat.le_refl _) ?_,rfl,q _ hf⟩
 exact ⟨z,us,0,r,Heap.get?_push_size _ rfl⟩
end
noncomputable abbrev Sp:=List V -> Hp -> VK -> XK -> Prop
noncomputable abbrev CXT:=List Env -> Hp -> Shared -> XK -> Value -> Shared -> Prop
structure Env0 (P:Program) (w:World) (K:PySem.W.Frag) (mg:Str -> Option Value) (base:Heap) (A:Around) (outer:List Env) (s:Shared) (H:Hp):Prop where
 frames:A.frames = some outer
 mod:Mod K mg base
 bs:∀ b o,base.get? b = some o -> s.heap.get? b = some o /\ H b = none
 bsz:base.objs.size <= s.heap.objs.size
 funs:s.heap.FunFrames base outer
 frf:∀ b ∈ frs outer,H b = none
 hok:HOk P w H s.heap
 bare:AllBare s.gens
noncomputable def CE (outer:List Env) (P:Program) (w:World) (H:Hp) (s:Shared) (Q:VK) (u:Value) (s':Shared):Prop :=
 ∃ v H',s'.os = s.os /\ AllBare s'.gens /\ Un (frs outer) [] H H' s.heap s'.heap /\ HOk P w H' s'.heap /\ RelV v u /\ Q v H'
noncomputable def CR (CX:CXT) (outer:List Env) (P:Program) (w:World) (H:Hp) (s:Shared) (Q:VK) (E:XK) (r:Result) (s':Shared):Prop :=
 match r with
 | .ok (.ret u) => CE outer P w H s Q u s'
 | .ok _ => False
 | .error e => CX outer H s E e s'
structure FnOk (P:Program) (w:World) (K:PySem.W.Frag) (mg:Str -> Option Value) (base:Heap) (CX:CXT) (k:Nat) (f:Addr) (fd:FuncData) (ps:List Str) (sp:Sp):Prop where
 len:∀ vs H Q E,sp vs H Q E -> vs.length = ps.length
 run:∀ (A:Around) (outer:List Env) (s:Shared) (H:Hp) (args:Args) (us:List Value) (vs:List V) (Q:VK) (E:XK),Room k A -> Env0 P w K mg base A outer s H -> BindsTo s fd args (ps.zip us) -> Vals vs us -> sp vs H Q E ->
  codeAny (model P w) A (.call (.ref f) args) (CR CX outer P w H s Q E) s
section
variable {X:Cx} {pins:List (Addr × Obj)} {σ:St} {H:Hp} {s s':Shared}
theorem Inv.env0 (I:Inv X pins σ H s):Env0 X.prog X.w X.K X.mg X.base X.A X.stack s H :=
 ⟨I.ok.frames,I.ok.mod,I.bs,Nat.le_trans I.ok.bsz I.sz,I.stack,I.stkFree,I.hok,I.bare⟩
theorem Inv.after {Q:VK} {u:Value} (I:Inv X pins σ H s) (h:CE X.stack X.prog X.w H s Q u s'):EP X pins σ Q u s':=by
 obtain ⟨v,H',os,bare,un,hok,r,q⟩:=h
 obtain ⟨hh,g,d,t,os'⟩:=s'
 obtain rfl:os' = s.os:=os
 exact ⟨v,H',I.call (h':=hh) (g':=g) (d':=d) (t':=t) (ch:=[]) un hok bare (fun b z => absurd z (by simp)),r,q⟩
end
noncomputable def tCall (sp:Sp) (dvs:List V) (E:XK) (t:TA):TE:=fun σ H Q => t σ H fun vs H1 => sp (vs ++ dvs) H1 Q E
noncomputable def Binds (K:PySem.W.Frag) (fd:FuncData) (ps:List Str) (ds:List Value):Prop :=
 ∀ (s:Shared) (us:List Value),K.In s.heap -> (us ++ ds).length = ps.length -> BindsTo s fd ⟨us,[]⟩ (ps.zip (us ++ ds))
theorem Binds.all {K:PySem.W.Frag} {fd:FuncData} {ps:List Str} (h:∀ us:List Value,us.length = ps.length -> bindArgs fd ⟨us,[]⟩ = pure (ps.zip us)):Binds K fd ps []:=fun s us _ hl => by
 rw [List.append_nil] at hl ⊢
 exact .of_eq (h us hl)
noncomputable def Passes (CX:CXT) (X:Cx) (E:XK):Prop:=∀ (pins:List (Addr × Obj)) (σ:St) (H:Hp) (s:Shared) (e:Value) (s':Shared),Inv X pins σ H s -> CX X.stack H s E e s' -> X.xe e s'
section
variable {X:Cx} {CX:CXT} {k:Nat} {f C:Addr} {fd:FuncData} {ps:List Str} {sp:Sp} {dvs:List V} {ds:List Value} {E:XK} {x m:Str} {p pos apos:Pos} {e o:Expr} {es:List Expr} {ta:TE} {t:TA}
theorem run_fn {pins:List (Addr × Obj)} {σ:St} {H:Hp} {s:Shared} {Q:VK} {us:List Value} {vs:List V} (F:FnOk X.prog X.w X.K X.mg X.base CX k f fd ps sp) (hr:Room k X.A) (hb:Binds X.K fd ps ds) (hd:Vals dvs ds) (hx:Passes CX X E)
  (I:Inv X pins σ H s) (r:Vals vs us) (h:sp (vs ++ dvs) H Q E):wpAny (model X.prog X.w) X.A (call (.ref f) us) (EP X pins σ Q) X.xe s:=by
 have r2:Vals (vs ++ dvs) (us ++ ds):=r.append hd
 have hl:(us ++ ds).length = ps.length:=by rw [<- r2.length]; exact F.len _ _ _ _ h
 refine wpAny_call (codeAny_mono (F.run X.A X.stack s H ⟨us,[]⟩ (us ++ ds) (vs ++ dvs) Q E hr I.env0 (hb s us I.kIn hl) r2 h) fun r s' hq => ?_)
 cases r with
 | error e => exact hx pins σ H s e s' I hq
 | ok fl =>
  cases fl with
  | ret u => exact I.after hq
  | next => exact False.elim hq
  | brk => exact False.elim hq
  | cont => exact False.elim hq
theorem pe_call (F:FnOk X.prog X.w X.K X.mg X.base CX k f fd ps sp) (hr:Room k X.A) (hg:Gl X x) (hm:X.mg x = some (.ref f)) (hk:PySem.W.keepIn X.K (.ref f) = true) (hb:Binds X.K fd ps ds) (hd:Vals dvs ds) (hx:Passes CX X E)
  (ha:PA X (e :: es) t) (hdb:(x == ("__debug__":Str)) = false:=by decide) (he:starEach (e :: es) X.env = (false,eval e X.env) :: starEach es X.env:=by rfl) (hpl:(backTo pos (starEach es X.env)).any (·.1) = false:=by rfl) :
  PE X (.Call (.Name x p) (e :: es) [] pos) (tCall sp dvs E t):=by
 intro pins s σ H Q I h
 refine wpAny_Call_Name_kw (ld_glob I hg hm ?_ hdb)
 refine PySem.W.callWith_K (h₀:=X.base) I.ok.mod.kin hk (thn (ha pos pins s σ H _ I h) fun us s1 ⟨vs,H1,I1,r,q⟩ => ⟨I1.kIn,?_⟩) he hpl
 exact run_fn F hr hb hd hx I1 r q
theorem pe_call0 (F:FnOk X.prog X.w X.K X.mg X.base CX k f fd ps sp) (hr:Room k X.A) (hg:Gl X x) (hm:X.mg x = some (.ref f)) (hk:PySem.W.keepIn X.K (.ref f) = true) (hb:Binds X.K fd ps ds) (hd:Vals dvs ds) (hx:Passes CX X E)
  (hdb:(x == ("__debug__":Str)) = false:=by decide):PE X (.Call (.Name x p) [] [] pos) (tCall sp dvs E tNil):=by
 intro pins s σ H Q I h
 refine wpAny_Call_Name_kw (ld_glob I hg hm ?_ hdb)
 exact PySem.W.callWith_K0 I.kIn hk (run_fn (us:=[]) F hr hb hd hx I .nil h)
end
section
variable {X:Cx} {CX:CXT} {k:Nat} {f C:Addr} {fd:FuncData} {ps ks:List Str} {sp:Sp} {E:XK} {x m:Str} {p pos apos kpos:Pos} {e o:Expr} {es:List Expr} {kws:List Keyword} {te ta:TE} {t tk:TA} {nm:Option Str}
variable {g:List Value -> List Value -> List Value} {gV:List V -> List V -> List V}
end
structure FnScope (N P:List Str) (sc:Scope):Prop where
 kind:sc.kind = .function
 co:sc.isCoroutine = false
 gen:sc.isGenerator = false
 nd:N.Nodup
 pre:N.take P.length = P
 par:∀ x ∈ P,sc.names.lookup x = some .local \/ sc.names.lookup x = some .cell
 nofree:∀ y ∈ sc.names,y.2 ≠ .free
theorem bindL_out {kindOf:Str -> Option NameKind} {x:Str}:∀ {binds:List (Str × Value)} {m:Str -> Option Value},(∀ v,(x,v) ∉ binds) -> bindL kindOf binds m x = m x
 | [],_,_ => rfl
 | (n,v) :: r,m,h => by
  unfold bindL
  rw [bindL_out fun w hw => h w (List.mem_cons_of_mem _ hw)]
  split
  ·have:x ≠ n:=by rintro rfl; exact h v List.mem_cons_self
   simp [this]
  ·rfl
theorem bindC_out {kindOf:Str -> Option NameKind} {x:Str}:∀ {binds:List (Str × Value)} {m:Str -> Option Value},(∀ v,(x,v) ∉ binds) -> bindC kindOf binds m x = m x
 | [],_,_ => rfl
 | (n,v) :: r,m,h => by
  unfold bindC
  rw [bindC_out fun w hw => h w (List.mem_cons_of_mem _ hw)]
  split
  ·rfl
  ·have:x ≠ n:=by rintro rfl; exact h v List.mem_cons_self
   simp [this]
theorem bindL_get {kindOf:Str -> Option NameKind} {x:Str} {v:Value}:∀ {P:List Str} {vs:List Value} {i:Nat} {m:Str -> Option Value},P.Nodup -> P[i]? = some x -> vs[i]? = some v -> kindOf x = some .local ->
  bindL kindOf (P.zip vs) m x = some v
 | [],_,_,_,_,h,_,_ => by simp at h
 | _ :: _,[],_,_,_,_,h,_ => by simp at h
 | p :: P,w :: vs,0,m,nd,h1,h2,hk => by
  simp at h1 h2; subst h1; subst h2
  show bindL kindOf ((p,w) :: P.zip vs) m p = _
  unfold bindL
  rw [bindL_out fun v hv => (List.nodup_cons.mp nd).1 (List.of_mem_zip hv).1,if_pos hk]
  simp
 | p :: P,w :: vs,i + 1,m,nd,h1,h2,hk => by
  show bindL kindOf ((p,w) :: P.zip vs) m x = _
  unfold bindL
  exact bindL_get (i:=i) (List.nodup_cons.mp nd).2 (by simpa using h1) (by simpa using h2) hk
theorem bindC_get {kindOf:Str -> Option NameKind} {x:Str} {v:Value}:∀ {P:List Str} {vs:List Value} {i:Nat} {m:Str -> Option Value},P.Nodup -> P[i]? = some x -> vs[i]? = some v -> kindOf x ≠ some .local ->
  bindC kindOf (P.zip vs) m x = some v
 | [],_,_,_,_,h,_,_ => by simp at h
 | _ :: _,[],_,_,_,_,h,_ => by simp at h
 | p :: P,w :: vs,0,m,nd,h1,h2,hk => by
  simp at h1 h2; subst h1; subst h2
  show bindC kindOf ((p,w) :: P.zip vs) m p = _
  unfold bindC
  rw [bindC_out fun v hv => (List.nodup_cons.mp nd).1 (List.of_mem_zip hv).1,if_neg hk]
  simp
 | p :: P,w :: vs,i + 1,m,nd,h1,h2,hk => by
  show bindC kindOf ((p,w) :: P.zip vs) m x = _
  unfold bindC
  exact bindC_get (i:=i) (List.nodup_cons.mp nd).2 (by simpa using h1) (by simpa using h2) hk
noncomputable def start (N:List Str) (vs:List V):St:=vs.map some ++ List.replicate (N.length - vs.length) none
noncomputable def cxOf (CX:CXT) (P:Program) (w:World) (K:PySem.W.Frag) (mg:Str -> Option Value) (base:Heap) (N:List Str) (qual:Str) (scope:Scope) (f:Addr) (cd:Value) (A:Around) (outer:List Env) (s:Shared) (H:Hp) (E:XK):Cx where
 prog:=P
 w:=w
 K:=K
 mg:=mg
 base:=base
 A:=A.deeper (envOfC qual scope s.heap.objs.size f cd)
 N:=N
 s₀:=s
 H₀:=H
 env:=envOfC qual scope s.heap.objs.size f cd
 outer:=outer
 stack:=envOfC qual scope s.heap.objs.size f cd :: outer
 ex:=[]
 calm:=true
 fn:=fun _ => true
 pn:=[]
 xe:=fun e s' => wpAny (model P w) (A.deeper (envOfC qual scope s.heap.objs.size f cd)) (leaving (envOfC qual scope s.heap.objs.size f cd) e) (fun _ s'' => CX outer H s E e s'') (fun e' s'' => CX outer H s E e' s'') s'
theorem cell_has {sc:Scope} {n:Nat} {x:Str} (h:sc.names.lookup x = some .cell):∃ c,(cellsFrom n sc.names []).lookup x = some c:=by
 have q:=PySem.W.cellsFrom_some sc.names n [] (.inl h)
 exact Option.isSome_iff_exists.mp q
theorem inv_start {CX:CXT} {P:Program} {w:World} {K:PySem.W.Frag} {mg:Str -> Option Value} {base:Heap} {N ps:List Str} {qual:Str} {scope:Scope} {f:Addr} {cd:Value} {A:Around} {outer:List Env} {s s1:Shared} {H:Hp} {E:XK} {us:List Value} {vs:List V}
  (S:FnScope N ps scope) (hd:A.handled = none) (e0:Env0 P w K mg base A outer s H) (hl:vs.length = ps.length) (r:Vals vs us)
  (x:InCallC s s.heap.objs.size (bindL (envOfC qual scope s.heap.objs.size f cd).kindOf (ps.zip us) fun _ => none) (cellsFrom (s.heap.objs.size + 1) scope.names []) (bindC (envOfC qual scope s.heap.objs.size f cd).kindOf (ps.zip us) fun _ => none) s1) :
  Inv (cxOf CX P w K mg base N qual scope f cd A outer s H E) [] (start N vs) H s1:=by
 have hpl:ps.length <= N.length:=by have:=congrArg List.length S.pre; rw [List.length_take] at this; omega
 obtain ⟨h1,tk,rfl,hk⟩:=x.done
 have noA:∀ b:Addr,b ∉ (cxOf CX P w K mg base N qual scope f cd A outer s H E).ex:=fun b z => absurd (show b ∈ ([]:List Addr) from z) (by simp)
 refine ⟨⟨e0.mod,S.kind,rfl,rfl,Nat.le_refl _,fun y z c h1 h2 => ?_,fun y hy => ?_,fun y c _ h => ?_,fun _ => hd,Around.frames_deeper e0.frames,.inr ⟨rfl,rfl⟩,fun b z => absurd z (noA b),e0.bs,e0.bsz,fun b _ _ => noA b,fun b z => absurd z (noA b),e0.funs,e0.frf⟩,
  rfl,e0.bare,Un.kept hk,⟨_,x.toInCall.ns,fun i y v h1 h2 h3 => ?_⟩,fun y c h => ⟨_,x.cell y c h⟩,e0.hok.fresh (Nat.le_refl _),fun y c h => ?_,fun p hp => absurd (show p ∈ ([]:List (Addr × Obj)) from hp) (by simp),e0.hok.kept hk,?_⟩
 ·exact name_of_addr x.apart (PySem.mem_of_lookup h1) (PySem.mem_of_lookup h2)
 ·have hy:scope.names.lookup y = some .cell \/ scope.names.lookup y = some .free:=hy
  rcases hy with hy | hy
  ·exact cell_has hy
  ·exact absurd rfl (S.nofree _ (PySem.mem_of_lookup hy))
 ·exact Nat.le_of_lt (x.above y c (PySem.mem_of_lookup h))
 ·have hi:i < vs.length:=by
   unfold start at h2
   by_cases hi:i < vs.length
   ·exact hi
   ·rw [List.getElem?_append_right (by simpa using hi)] at h2
    rw [List.getElem?_replicate] at h2
    split at h2 <;> cases h2
  have ha:vs[i]? = some v:=by
   unfold start at h2
   rw [List.getElem?_append_left (by simpa using hi),List.getElem?_map] at h2
   cases e:vs[i]? with
   | none => rw [e] at h2; cases h2
   | some a => rw [e] at h2; cases h2; rfl
  obtain ⟨u,hu,rv⟩:=r.get ha
  have hp:ps[i]? = some y:=by
   rw [<- S.pre,List.getElem?_take_of_lt (by omega)]; exact h1
  have ndP:ps.Nodup:=by rw [<- S.pre]; exact S.nd.sublist (List.take_sublist _ _)
  refine ⟨u,rv,?_⟩
  rcases S.par y (List.mem_of_getElem? hp) with k | k
  ·exact .inl ⟨k,bindL_get ndP hp hu k⟩
  ·obtain ⟨c,e⟩:=cell_has (n:=s.heap.objs.size + 1) k
   refine .inr ⟨.inl k,c,e,?_⟩
   have q:=x.cell y c e
   rw [bindC_get ndP hp hu (by show scope.names.lookup y ≠ _; rw [k]; decide)] at q
   exact q
 ·exact e0.hok.fresh (Nat.le_of_lt (x.above y c (PySem.mem_of_lookup h)))
 ·unfold start
  show _ = N.length
  rw [List.length_append,List.length_map,List.length_replicate]
  omega
theorem fn_of {CX:CXT} {P:Program} {w:World} {K:PySem.W.Frag} {mg:Str -> Option Value} {base:Heap} {k:Nat} {f:Addr} {name qual:Str} {params:Arguments} {body:List Stmt} {scope:Scope} {dV kV doc pm cdv ct oc:Value} {an od:Option Addr}
  {osl:Array (Option Value)} {N ps:List Str} {sp:Sp} (lk:K.lookup f = some ⟨oc,od,.func (PySem.W.fnOf name qual params body scope dV kV doc pm an cdv ct),osl⟩) (hcd:PySem.W.codeIn K cdv qual = true) (S:FnScope N ps scope)
  (len:∀ vs H Q E,sp vs H Q E -> vs.length = ps.length)
  (hbody:∀ (A:Around) (outer:List Env) (s:Shared) (H:Hp) (vs:List V) (Q:VK) (E:XK),Room k (A.deeper (envOfC qual scope s.heap.objs.size f cdv)) -> sp vs H Q E ->
   ∃ t,PSs (cxOf CX P w K mg base N qual scope f cdv A outer s H E) body t /\ t { nx:=fun _ H' => Q .non H',rt:=Q } (start N vs) H) :
  FnOk P w K mg base CX (k + 1) f (PySem.W.fnOf name qual params body scope dV kV doc pm an cdv ct) ps sp:=by
 refine ⟨len,fun A outer s H args us vs Q E hr e0 hb r hsp => ?_⟩
 have hl:=len _ _ _ _ hsp
 have KX:K.In s.heap:=e0.mod.kin.keeps fun b o e => (e0.bs b o e).1
 have lim:s.heap.NoLimit:=e0.mod.nolimit.keeps fun b o e => (e0.bs b o e).1
 have hkind:∀ y ∈ ps.zip us,scope.names.lookup y.1 = some .local \/ (scope.names.lookup y.1 = some .cell /\ ((cellsFrom (s.heap.objs.size + 1) scope.names []).lookup y.1).isSome = true):=fun ⟨n,v⟩ hy => by
  rcases S.par n (List.of_mem_zip hy).1 with q | q
  ·exact .inl q
  ·exact .inr ⟨q,PySem.W.cellsFrom_some _ _ _ (.inl q)⟩
 refine codeAny_call_function hr.depth (KX _ _ lk) rfl S.co S.gen rfl (PySem.W.codeRec_of KX hcd) (hb _ _ _ _ ?_)
 refine wpAny_newFunctionEnv_cells S.kind hkind fun env he s1 x => ?_
 subst he
 refine ⟨lim.keeps x.toInCall.keep,codeAny_func ?_⟩
 obtain ⟨t,ht,hq⟩:=hbody A outer s H vs Q E (hr.deeper _) hsp
 have I:Inv (cxOf CX P w K mg base N qual scope f cdv A outer s H E) [] (start N vs) H s1:=inv_start S hr.hd e0 hl r x
 refine wpAny_mono (ht [] s1 (start N vs) H _ I hq) (fun fl s' hs => ?_) fun e s' hs => hs
 have fin:∀ {σ':St} {H':Hp} {v:V} {u:Value},Inv (cxOf CX P w K mg base N qual scope f cdv A outer s H E) [] σ' H' s' -> RelV v u -> Q v H' -> CE outer P w H s Q u s' :=
  fun {σ' H' v u} J rv q => ⟨v,H',J.os,J.bare,J.base,J.hok,rv,q⟩
 cases fl with
 | ret u =>
  obtain ⟨v,σ',H',J,rv,q⟩:=hs
  exact fin J rv q
 | next =>
  obtain ⟨σ',H',J,q⟩:=hs
  exact fin (v:=V.non) (u:=Value.none) J rfl q
 | brk =>
  obtain ⟨_,_,_,q⟩:=hs
  exact False.elim q
 | cont =>
  obtain ⟨_,_,_,q⟩:=hs
  exact False.elim q
end L2
namespace L2
open PySem PySem.Spec PyProof.Rows
section
variable {X:Cx} {x:Str} {p pos:Pos} {e:Expr} {es:List Expr} {t:TA} {id T:String} {r:List V -> Hp -> VK -> Prop}
noncomputable def tCB (r:List V -> Hp -> VK -> Prop) (t:TA):TE:=fun σ H Q => t σ H fun vs H1 => r vs H1 Q
theorem pe_callB (hc:CallR X (.builtin id) r) (hg:Gl X x) (hm:X.mg x = none) (hv:bootBuiltins x = some (.builtin id)) (ha:PA X (e :: es) t) (hn:x ≠ "__name__":=by decide) (hdb:(x == ("__debug__":Str)) = false:=by decide)
  (he:starEach (e :: es) X.env = (false,eval e X.env) :: starEach es X.env:=by rfl) (hpl:(backTo pos (starEach es X.env)).any (·.1) = false:=by rfl):PE X (.Call (.Name x p) (e :: es) [] pos) (tCB r t):=by
 intro pins s σ H Q I h
 refine wpAny_Call_Name_kw (ld_blt I hg hm hv ?_ hn hdb)
 exact PyProof.Rows.callWith_builtin1 (thn (ha pos pins s σ H _ I h) fun us s1 ⟨vs,H1,I1,r1,q1⟩ => hc pins s1 σ H1 vs us Q I1 r1 q1) he hpl
theorem pe_callTy (hc:CallR X (.type T) r) (hg:Gl X x) (hm:X.mg x = none) (hv:bootBuiltins x = some (.type T)) (ha:PA X (e :: es) t) (hn:x ≠ "__name__":=by decide) (hdb:(x == ("__debug__":Str)) = false:=by decide)
  (he:starEach (e :: es) X.env = (false,eval e X.env) :: starEach es X.env:=by rfl) (hpl:(backTo pos (starEach es X.env)).any (·.1) = false:=by rfl):PE X (.Call (.Name x p) (e :: es) [] pos) (tCB r t):=by
 intro pins s σ H Q I h
 refine wpAny_Call_Name_kw (ld_blt I hg hm hv ?_ hn hdb)
 exact PyProof.Rows.callWith_type1 (thn (ha pos pins s σ H _ I h) fun us s1 ⟨vs,H1,I1,r1,q1⟩ => hc pins s1 σ H1 vs us Q I1 r1 q1) he hpl
end
end L2
namespace HT
open PySem PyProof.Rows
noncomputable def lexLt:List Int -> List Int -> Bool
 | [],[] => false
 | [],_ :: _ => true
 | _ :: _,[] => false
 | x :: xs,y :: ys => if x = y then lexLt xs ys else decide (x < y)
theorem lexLt_cons (x y:Int) (xs ys:List Int):lexLt (x :: xs) (y :: ys) = if x = y then lexLt xs ys else decide (x < y):=rfl
theorem lexLt_nil_nil:lexLt [] [] = false:=rfl
theorem lexLt_nil_cons (y:Int) (ys:List Int):lexLt [] (y :: ys) = true:=rfl
theorem lexLt_cons_nil (x:Int) (xs:List Int):lexLt (x :: xs) [] = false:=rfl
theorem eqAt_int (A:Around) (s:Shared) (a:Int) (t:Tok) (c:Int) (u:Tok):∃ e,SeqAt.EqAt A s (.int a t) (.int c u) e /\ (e = true ↔ a = c) :=
 ⟨(a == c),SeqAt.EqAt.int_int a t c u,by simp⟩
theorem rcLt_int (A:Around) (s:Shared) (a:Int) (t:Tok) (c:Int) (u:Tok) (prog:Program) (w:World) (E:Value -> Shared -> Prop) (Q:Value -> Shared -> Prop) (h:Q (.bool (decide (a < c))) s) :
  wpAny (model prog w) A (richCompare .Lt (.int a t) (.int c u)) Q E s :=
 (PyProof.Rows.lt_int h:wpAny (model prog w) A (compareOp .Lt (.int a t) (.int c u)) Q E s)
section
open PySem.SeqAt
open PySem.AutoSeq1 (wpAny_loadPart')
open PySem.MeetsSeq PySem.MeetsSeq2 PySem.MeetsSeq3
theorem tuple_lt_ints (l b:Addr) (items items2:Array Value) (n n2:Nat) (dd dd2:Option Addr) (sl sl2:Array (Option Value)) (ns ms:List Int) (hi:IntsAre items.toList ns) (hj:IntsAre items2.toList ms) :
  Meets (Builtin.«tuple.__lt__» ⟨[.ref l,.ref b],[]⟩)
   (fun _ R s => s.heap.get? l = some { cls:=.type "tuple",dict:=dd,data:=.seq items n,slots:=sl } /\ s.heap.get? b = some { cls:=.type "tuple",dict:=dd2,data:=.seq items2 n2,slots:=sl2 } /\
    R (.ok (.ret (.bool (lexLt ns ms)))) s) :=
 .of_wp fun prog w A R s h => by
  obtain ⟨hp,g,d,tk,os⟩:=s; obtain ⟨hl,hb,h⟩:=h
  have f2:=AutoSeq1.sub_tuple_tuple
  have z1:items.size = ns.length:=by rw [<- hi.length]; simp
  have z2:items2.size = ms.length:=by rw [<- hj.length]; simp
  wp_walk using wpAny_loadPart' hl,wpAny_loadPart' hb,wpAny_forIn_list _ (fun rest b s' => b.1 = none /\ s' = ⟨hp,g,d,tk,os⟩ /\ ∃ (vs ws:List Value) (ns' ms':List Int),rest = vs.zip ws /\
   IntsAre vs ns' /\ IntsAre ws ms' /\ ns'.length + items2.size = ms'.length + items.size /\ R (.ok (.ret (.bool (lexLt ns' ms')))) ⟨hp,g,d,tk,os⟩) _
  case turn =>
   rintro ⟨y,x⟩ rest b s' ⟨hb',rfl,vs,ws,ns',ms',hz,hvi,hwi,hlen,hR⟩
   cases hvi with
   | nil => rw [List.zip_nil_left] at hz; cases hz
   | cons a t hvi' =>
    cases hwi with
    | nil => rw [List.zip_nil_right] at hz; cases hz
    | cons c u hwi' =>
     rw [List.zip_cons_cons] at hz
     injection hz with hyx hrest
     injection hyx with hy hx
     subst hy hx
     rw [lexLt_cons] at hR
     simp only [List.length_cons] at hlen
     obtain ⟨e,he,hiff⟩:=eqAt_int A.in1 ⟨hp,g,d,tk,os⟩ a t c u
     refine wpAny_bind (he prog w _ _ ?_)
     cases e with
     | true =>
      rw [if_pos (hiff.mp rfl)] at hR
      wp_walk
      exact ⟨rfl,rfl,_,_,_,_,hrest,hvi',hwi',by omega,hR⟩
     | false =>
      rw [if_neg (fun q => absurd (hiff.mpr q) Bool.false_ne_true)] at hR
      have hri:=rcLt_int A.in1 ⟨hp,g,d,tk,os⟩ a t c u prog w
      wp_walk using hri
      exact ⟨_,rfl,by simpa using hR⟩
  case fin =>
   rintro ⟨b1,b2⟩ s' ⟨hb',rfl,vs,ws,ns',ms',hz,hvi,hwi,hlen,hR⟩
   simp only at hb'
   subst hb'
   have hv:lexLt ns' ms' = decide (items.size < items2.size):=by
    cases hvi with
    | nil =>
     cases hwi with
     | nil =>
      simp only [List.length_nil] at hlen
      rw [lexLt_nil_nil]
      exact (decide_eq_false (by omega)).symm
     | cons c u hw =>
      simp only [List.length_nil,List.length_cons] at hlen
      rw [lexLt_nil_cons]
      exact (decide_eq_true (by omega)).symm
    | cons a t hv =>
     cases hwi with
     | nil =>
      simp only [List.length_nil,List.length_cons] at hlen
      rw [lexLt_cons_nil]
      exact (decide_eq_false (by omega)).symm
     | cons c u hw =>
      rw [List.zip_cons_cons] at hz
      cases hz
   rw [hv] at hR
   wp_walk
   exact ⟨_,rfl,by simpa [Builtin.Tuple.tupleCompareSizes] using hR⟩
  case h =>
   exact ⟨rfl,rfl,items.toList,items2.toList,ns,ms,rfl,hi,hj,by omega,h⟩
end
section
variable {prog:Program} {w:World} {A:Around} {E:Value -> Shared -> Prop} {s:Shared}
theorem lt_tupInts {l b:Addr} {items items2:Array Value} {ns ms:List Int} {Q:Value -> Shared -> Prop} (hl:IsTup s.heap l items) (hb:IsTup s.heap b items2) (hi:IntsAre items.toList ns) (hj:IntsAre items2.toList ms)
  (hu:A.units < cLine) (h:Q (.bool (lexLt ns ms)) s):wpAny (model prog w) A (compareOp .Lt (.ref l) (.ref b)) Q E s:=by
 obtain ⟨⟨cls,dd,data,sl⟩,ho,hc,n,hd⟩:=id hl
 obtain ⟨⟨cls2,dd2,data2,sl2⟩,ho2,hc2,n2,hd2⟩:=id hb
 simp only at hc hd hc2 hd2
 subst hc hd hc2 hd2
 exact richCompare_meets_room (op:=.Lt) ⟨_,ho,rfl⟩ ⟨_,ho2,rfl⟩ PySem.F.slot_tuple_lt PySem.F.entry_tuple_lt (PySem.F.args_tuple_lt_2 _ _) (tuple_lt_ints l b items items2 n n2 dd dd2 sl sl2 ns ms hi hj)
  ⟨ho,ho2,show Value.bool (lexLt ns ms) ≠ Value.notImplemented /\ Q (.bool (lexLt ns ms)) s from ⟨(fun x => nomatch x),h⟩⟩ hu
theorem cat_tup {t b:Addr} {vs ws:List Value} {Q:Value -> Shared -> Prop} (ht:IsTup s.heap t vs.toArray) (hb:IsTup s.heap b ws.toArray) (hv:vs ≠ [])
  (h1:ws = [] -> Q (.ref t) s) (h2:ws ≠ [] -> Q (.ref s.heap.objs.size) { s with heap:=s.heap.push { cls:=.type "tuple",data:=.seq (vs ++ ws).toArray } })
  (hsz:vs.length + ws.length <= sizeLine):wpAny (model prog w) A (binaryOp .Add (.ref t) (.ref b)) Q E s:=by
 obtain ⟨⟨cls,dd,data,sl⟩,ho,hc,n,hd⟩:=id ht
 obtain ⟨⟨cls2,dd2,data2,sl2⟩,ho2,hc2,n2,hd2⟩:=id hb
 simp only at hc hd hc2 hd2
 subst hc hd hc2 hd2
 have e:vs.toArray ++ ws.toArray = (vs ++ ws).toArray:=by simp
 by_cases hw:ws = []
 ·exact concat_meets ⟨_,ho,rfl⟩ ⟨_,ho2,rfl⟩ noFill_tuple_add seq_tuple_add PySem.F.slot_tuple_add PySem.F.entry_tuple_add (PySem.F.args_tuple_add_2 _ _)
   (tuple_addW1 t b vs.toArray ws.toArray n n2 dd dd2 sl sl2 (by simpa using hv) (by simp [hw])) ⟨ho,ho2,h1 hw⟩
 ·refine concat_meets ⟨_,ho,rfl⟩ ⟨_,ho2,rfl⟩ noFill_tuple_add seq_tuple_add PySem.F.slot_tuple_add PySem.F.entry_tuple_add (PySem.F.args_tuple_add_2 _ _)
   (tuple_addW2 t b vs.toArray ws.toArray n n2 dd dd2 sl sl2 (by simpa using hv) (by simpa using hw) (by rw [List.size_toArray,List.size_toArray]; exact hsz)) ⟨ho,ho2,?_⟩
  rw [e]
  exact h2 hw
noncomputable def sIx (n d:Nat):Option Int -> Nat
 | none => d
 | some v => if v < 0 then (v + (n:Int)).toNat else min v.toNat n
theorem sIx_le (n d:Nat) (hd:d <= n) (o:Option Int):sIx n d o <= n:=by
 cases o with
 | none => exact hd
 | some v =>
  show (if v < 0 then (v + (n:Int)).toNat else min v.toNat n) <= n
  by_cases hv:v < 0
  ·rw [if_pos hv]; omega
  ·rw [if_neg hv]; exact Nat.min_le_right _ _
theorem clip_eq (v:Int) (n d:Nat):(if v < 0 then max (v + (n:Int)) 0 else min v (n:Int)) = ((sIx n d (some v):Nat):Int):=by
 show (if v < 0 then max (v + (n:Int)) 0 else min v (n:Int)) = (((if v < 0 then (v + (n:Int)).toNat else min v.toNat n):Nat):Int)
 by_cases hv:v < 0
 ·simp only [if_pos hv]; omega
 ·simp only [if_neg hv]; omega
theorem adjust_gen (lo hi:Option Int) (n:Nat):Builtin.Slice.sliceAdjust lo hi 1 (n:Int) = (((sIx n 0 lo:Nat):Int),((sIx n n hi:Nat):Int)):=by
 have h1:¬ ((1:Int) < 0):=by omega
 unfold Builtin.Slice.sliceAdjust
 simp only [h1,if_false]
 refine Prod.ext ?_ ?_
 ·cases lo with
  | none => rfl
  | some v => exact clip_eq v n 0
 ·cases hi with
  | none => rfl
  | some v => exact clip_eq v n n
theorem places_gen (i j:Nat):Builtin.Slice.slicePlaces (i:Int) (j:Int) 1 = j - i:=by
 unfold Builtin.Slice.slicePlaces
 have h1:(1:Int) > 0:=by omega
 simp only [h1,if_true,Int.ediv_one]
 split <;> omega
theorem slicePart_ {v:Value} {o:Option Int} {Q:Option Int -> Shared -> Prop} (p:IsPart v o) (h:Q o s):wpAny (model prog w) A (Builtin.Slice.slicePartIndex v) Q E s:=by
 cases p with
 | none => exact slicePart_none h
 | int i t => exact slicePart_int h
theorem sliceApplied_gen {sl:Addr} {vl vu:Value} {lo hi:Option Int} {n:Nat} {Q:Int × Int × Nat -> Shared -> Prop} (hs:s.heap.IsSliceOf sl vl vu .none) (pl:IsPart vl lo) (pu:IsPart vu hi)
  (h:Q (((sIx n 0 lo:Nat):Int),1,sIx n n hi - sIx n 0 lo) s):wpAny (model prog w) A (Builtin.Slice.sliceApplied (.ref sl) (pure (n:Int))) Q E s:=by
 obtain ⟨os,hos,hcs,hds⟩:=id hs
 unfold Builtin.Slice.sliceApplied Builtin.Slice.sliceFields
 refine wpAny_bind (wpAny_bind (wpAny_field hos hds (x:=vl) rfl (wpAny_bind (wpAny_field hos hds (x:=vu) rfl (wpAny_bind (wpAny_field hos hds (x:=.none) rfl (wpAny_pure ?_)))))))
 refine wpAny_bind (slicePart_none ?_)
 show wpAny _ _ (if ((1:Int) == 0) = true then _ else _) _ _ s
 rw [if_neg (by decide)]
 refine wpAny_bind (slicePart_ pl (wpAny_bind (slicePart_ pu (wpAny_bind (wpAny_pure ?_)))))
 show wpAny _ _ (match Builtin.Slice.sliceAdjust lo hi 1 (n:Int) with | (lo,hi) => pure (lo,(1:Int),Builtin.Slice.slicePlaces lo hi 1)) _ _ s
 rw [adjust_gen lo hi n]
 show wpAny _ _ (pure (((sIx n 0 lo:Nat):Int),(1:Int),Builtin.Slice.slicePlaces ((sIx n 0 lo:Nat):Int) ((sIx n n hi:Nat):Int) 1)) _ _ s
 rw [places_gen]
 exact wpAny_pure h
theorem pick_gen (xs:Array Value) (i k:Nat):((List.range k).filterMap fun (m:Nat) => xs[((i:Int) + (m:Int) * 1).toNat]?).toArray = ((xs.toList.drop i).take k).toArray:=by
 have e:(fun (m:Nat) => xs[((i:Int) + (m:Int) * 1).toNat]?) = fun m => xs[i + m]?:=by
  funext m
  have:((i:Int) + (m:Int) * 1).toNat = i + m:=by omega
  rw [this]
 rw [e]
 have:=pick_run xs i k
 rw [List.filterMap_map] at this
 have e2:((fun x => xs[x]?) ∘ fun x => i + x) = fun m => xs[i + m]?:=rfl
 rw [e2] at this
 rw [this]
theorem getItem_tuple_cut {t sl:Addr} {items:Array Value} {vl vu:Value} {lo hi:Option Int} {Q:Value -> Shared -> Prop} (ht:IsTup s.heap t items) (hs:s.heap.IsSliceOf sl vl vu .none) (pl:IsPart vl lo) (pu:IsPart vu hi)
  (hw:¬ (sIx items.size 0 lo = 0 /\ sIx items.size items.size hi = items.size))
  (h:Q (.ref s.heap.objs.size) { s with heap:=s.heap.push { cls:=.type "tuple",data:=.seq ((items.toList.drop (sIx items.size 0 lo)).take (sIx items.size items.size hi - sIx items.size 0 lo)).toArray } })
  (hsz:items.size <= sizeLine):wpAny (model prog w) A (getItem (.ref t) (.ref sl)) Q E s:=by
 have htake:sizeOk (.seq ((items.toList.drop (sIx items.size 0 lo)).take (sIx items.size items.size hi - sIx items.size 0 lo)).toArray):=by
  show ((items.toList.drop (sIx items.size 0 lo)).take (sIx items.size items.size hi - sIx items.size 0 lo)).toArray.size <= sizeLine
  rw [List.size_toArray,List.length_take,List.length_drop,Array.length_toList]
  omega
 have hj:sIx items.size items.size hi <= items.size:=sIx_le _ _ (Nat.le_refl _) hi
 obtain ⟨os,hos,hcs,hds⟩:=id hs
 have hTs:s.TypeIs (.ref sl) "slice":=⟨os,hos,hcs⟩
 unfold getItem
 try with_reducible refine wpAny_holding ?_
 first | refine wpAny_bind (wpAny_pure ?_) | skip
 refine wpAny_bind (wpAny_sequenceKey ht.typeIs (by decide) ?_)
 refine wpAny_bind (wpAny_callSpecial?_slot (name:=Str.ofString "__getitem__") ht.typeIs PyProof.Rows.slot_tuple_getitem
  (wpAny_call_entry PyProof.Rows.slot_tuple_getitem ht.typeIs entry_tuple_getitem ?_ (args_tuple_getitem _ _)))
 show wpAny _ _ (Builtin.Tuple.tupleItemsOf (.ref t) >>= _) _ _ s
 refine wpAny_bind (tupleItemsOf_ ht ?_)
 refine wpAny_bind (wpAny_typeOf hTs ?_)
 rw [if_pos (by decide)]
 refine wpAny_bind (sliceApplied_gen hs pl pu ?_)
 have hno:¬ ((((sIx items.size 0 lo:Nat):Int) == 0 && (1:Int) == 1 && (sIx items.size items.size hi - sIx items.size 0 lo) == items.size) = true):=by
  intro q
  rw [Bool.and_eq_true,Bool.and_eq_true] at q
  have q1:((sIx items.size 0 lo:Nat):Int) = 0:=eq_of_beq q.1.1
  have q2:sIx items.size items.size hi - sIx items.size 0 lo = items.size:=eq_of_beq q.2
  exact hw ⟨by omega,by omega⟩
 show wpAny _ _ (if (((sIx items.size 0 lo:Nat):Int) == 0 && (1:Int) == 1 && (sIx items.size items.size hi - sIx items.size 0 lo) == items.size) = true then _ else _) _ _ s
 rw [if_neg hno,pick_gen]
 first
  | exact wpAny_bind (m:=Builtin.Tuple.tupleExact _) (wpAny_newObj_type (wpAny_pure ⟨_,rfl,wpAny_pure h⟩) htake)
  | exact wpAny_bind (m:=Builtin.Tuple.tupleExact _) (wpAny_newObj_type (wpAny_bind (wpAny_pure (wpAny_pure ⟨_,rfl,wpAny_pure h⟩))) htake)
  | exact wpAny_bind (wpAny_bind (m:=Builtin.Tuple.tupleExact _) (wpAny_newObj_type (wpAny_pure (wpAny_pure ⟨_,rfl,wpAny_pure h⟩)) htake))
  | exact wpAny_bind (wpAny_bind (m:=Builtin.Tuple.tupleExact _) (wpAny_newObj_type (wpAny_pure ⟨_,rfl,wpAny_pure h⟩) htake))
end
end HT
namespace L2
open PySem PySem.Spec PyProof.Rows
noncomputable abbrev TO:=St -> Hp -> (Option Int -> Hp -> Prop) -> Prop
noncomputable def PO (X:Cx) (e:Option Expr) (t:TO):Prop :=
 ∀ (pins:List (Addr × Obj)) (s:Shared) (σ:St) (H:Hp) (Q:Option Int -> Hp -> Prop),Inv X pins σ H s -> t σ H Q ->
  wpAny (model X.prog X.w) X.A (evalPart e X.env) (fun u s' => ∃ o H',Inv X pins σ H' s' /\ IsPart u o /\ Q o H') X.xe s
noncomputable def tNoPart:TO:=fun _ H Q => Q none H
noncomputable def tPart (t:TE):TO:=fun σ H Q => t σ H fun x H1 => ∃ i,x = .int i /\ Q (some i) H1
theorem intsAre_of {ns:List Int}:∀ {us:List Value},Vals (ns.map V.int) us -> IntsAre us ns:=by
 induction ns with
 | nil => intro us r; rw [List.map_nil] at r; cases r; exact .nil
 | cons n ns ih =>
  intro us r
  rw [List.map_cons] at r
  cases r with
  | cons r1 r2 =>
   obtain ⟨t,e⟩:=r1
   subst e
   exact .cons n t (ih r2)
section
variable {X:Cx} {e:Expr} {te:TE} {lo hi:Option Expr} {tl th:TO} {pos p2:Pos}
theorem po_none:PO X none tNoPart:=by
 intro pins s σ H Q I h
 rw [evalPart_none]
 exact wpAny_pure ⟨none,H,I,.none,h⟩
theorem po_some (h:PE X e te):PO X (some e) (tPart te):=by
 intro pins s σ H Q I hw
 rw [evalPart_some]
 refine thn (h pins s σ H _ I hw) fun u s1 ⟨x,H1,I1,r1,q1⟩ => ?_
 obtain ⟨i,rfl,q⟩:=q1
 obtain ⟨t,rfl⟩:=r1
 exact ⟨some i,H1,I1,.int i t,q⟩
noncomputable def SlR (X:Cx) (r:V -> Option Int -> Option Int -> Hp -> VK -> Prop):Prop :=
 ∀ (pins:List (Addr × Obj)) (s:Shared) (σ:St) (H:Hp) (x:V) (v vl vu:Value) (lo hi:Option Int) (sl:Addr) (Q:VK),Inv X pins σ H s -> RelV x v -> s.heap.IsSliceOf sl vl vu .none -> IsPart vl lo -> IsPart vu hi -> r x lo hi H Q ->
  ∃ T id,typeLookup (.type T) "__getitem__" = pure (some (.builtin id)) /\ s.TypeIs v T /\ wpAny (model X.prog X.w) X.A (getItem v (.ref sl)) (EP X pins σ Q) X.xe s
noncomputable def tSl (r:V -> Option Int -> Option Int -> Hp -> VK -> Prop) (te:TE) (tl th:TO):TE:=fun σ H Q => te σ H fun x H1 => tl σ H1 fun l H2 => th σ H2 fun u H3 => r x l u H3 Q
theorem pe_slice {r:V -> Option Int -> Option Int -> Hp -> VK -> Prop} (hr:SlR X r) (he:PE X e te) (hl:PO X lo tl) (hu:PO X hi th):PE X (.Subscript e (.Slice lo hi none p2) pos) (tSl r te tl th):=by
 intro pins s σ H Q I h
 refine Subscript_ (thn (he pins s σ H _ I h) fun v s1 ⟨x,H1,I1,r1,q1⟩ => ?_)
 refine wpAny_Slice (thn (hl pins s1 σ H1 _ I1 q1) fun vl s2 ⟨l,H2,I2,pl,q2⟩ => thn (hu pins s2 σ H2 _ I2 q2) fun vu s3 ⟨u,H3,I3,pu,q3⟩ => ?_)
 rw [evalPart_none]
 refine wpAny_pure ?_
 have I4:Inv X pins σ H3 { s3 with heap:=s3.heap.push { cls:=.type "slice",data:=.fields #[vl,vu,.none] } }:=I3.kept (t':=s3.toks) fun b ob q => Heap.get?_push_of_some _ q
 obtain ⟨T,id,hT,ht,hg⟩:=hr pins { s3 with heap:=s3.heap.push { cls:=.type "slice",data:=.fields #[vl,vu,.none] } } σ H3 x v vl vu l u s3.heap.objs.size Q I4 r1 (Heap.IsSliceOf.new ..) pl pu q3
 show wpAny (model X.prog X.w) X.A (subscriptTail e (.Slice lo hi none p2) v (.ref s3.heap.objs.size)) (EP X pins σ Q) X.xe { s3 with heap:=s3.heap.push { cls:=.type "slice",data:=.fields #[vl,vu,.none] } }
 exact tail_any (ops:=[.ref s3.heap.objs.size,v]) ht hT hg (by with_unfolding_all rfl)
noncomputable def cutV (xs:List V) (lo hi:Option Int):List V:=(xs.drop (HT.sIx xs.length 0 lo)).take (HT.sIx xs.length xs.length hi - HT.sIx xs.length 0 lo)
theorem cutV_length (xs:List V) (lo hi:Option Int):(cutV xs lo hi).length <= xs.length:=by
 unfold cutV
 rw [List.length_take,List.length_drop]
 omega
noncomputable def rSlT (K:PySem.W.Frag):V -> Option Int -> Option Int -> Hp -> VK -> Prop:=fun x lo hi H Q => ∃ a xs,x = .ref a /\ SqT K H a xs /\
 ¬ (HT.sIx xs.length 0 lo = 0 /\ HT.sIx xs.length xs.length hi = xs.length) /\ ∀ p,H p = none -> Q (.ref p) (upd H p (.tup (cutV xs lo hi)))
theorem sl_tup:SlR X (rSlT X.K):=by
 intro pins s σ H x v vl vu lo hi sl Q I rx hs pl pu h
 obtain ⟨a,xs,rfl,hx,hw,q⟩:=h
 cases rx
 obtain ⟨its,r,ht,hz⟩:=I.tuple hx
 have hlen:its.toArray.size = xs.length:=by rw [List.size_toArray]; exact r.length.symm
 refine ⟨"tuple",_,PyProof.Rows.slot_tuple_getitem.lookup,ht.typeIs,?_⟩
 refine HT.getItem_tuple_cut ht hs pl pu (by rw [hlen]; exact hw) ?_ (by rw [hlen]; exact hz)
 rw [hlen]
 refine ⟨.ref s.heap.objs.size,_,I.laid (t':=s.toks) (o:=.tup (cutV xs lo hi)) (fun b ob q => Heap.get?_push_of_some _ q) (Nat.le_refl _) ?_,rfl,q _ (I.hok.fresh (Nat.le_refl _))⟩
 exact ⟨Nat.le_trans (cutV_length xs lo hi) hz,_,(r.drop (HT.sIx xs.length 0 lo)).take (HT.sIx xs.length xs.length hi - HT.sIx xs.length 0 lo),IsTup.new _ _⟩
noncomputable def rCatT (K:PySem.W.Frag):R2:=fun x y H Q => ∃ a b xs ys,x = .ref a /\ y = .ref b /\ SqT K H a xs /\ SqT K H b ys /\ xs ≠ [] /\ xs.length + ys.length <= sizeLine /\
 (ys = [] -> Q (.ref a) H) /\ (ys ≠ [] -> ∀ p,H p = none -> Q (.ref p) (upd H p (.tup (xs ++ ys))))
theorem Vals.nil_iff {xs:List V} {us:List Value} (r:Vals xs us):us = [] ↔ xs = []:=by
 cases r with
 | nil => simp
 | cons _ _ => simp
theorem op_catT:OpR X (binaryOp .Add) (rCatT X.K):=by
 intro pins s σ H x y v u Q I rx ry h
 obtain ⟨a,b,xs,ys,rfl,rfl,ha,hb,hx,hz,q1,q2⟩:=h
 cases rx
 cases ry
 obtain ⟨its,r1,p1,_⟩:=I.tuple ha
 obtain ⟨its2,r2,p2,_⟩:=I.tuple hb
 refine HT.cat_tup p1 p2 (fun z => hx (r1.nil_iff.mp z)) (fun z => ⟨.ref a,H,I,rfl,q1 (r2.nil_iff.mp z)⟩) (fun z => ?_) (by rw [<- r1.length,<- r2.length]; exact hz)
 refine ⟨.ref s.heap.objs.size,_,I.laid (t':=s.toks) (o:=.tup (xs ++ ys)) (fun b ob q => Heap.get?_push_of_some _ q) (Nat.le_refl _) ?_,rfl,q2 (fun w => z (r2.nil_iff.mpr w)) _ (I.hok.fresh (Nat.le_refl _))⟩
 exact ⟨by rw [List.length_append]; exact hz,_,r1.append r2,IsTup.new _ _⟩
end
end L2
namespace L2
open PySem PySem.Spec PyProof.Rows
noncomputable def ixN (n:Nat) (i:Int):Option Nat:=if 0 <= i then (if i < n then some i.toNat else none) else if -(n:Int) <= i then some (i + n).toNat else none
noncomputable def atI {α:Type} (xs:List α) (i:Int):Option α:=(ixN xs.length i).bind fun j => xs[j]?
theorem ixN_seq {n:Nat} {i:Int} {j:Nat} (h:ixN n i = some j):seqIndex? i n = some j /\ j < n /\ -(n:Int) <= i /\ i < n:=by
 unfold ixN at h
 by_cases h0:0 <= i
 ·rw [if_pos h0] at h
  by_cases h1:i < n
  ·rw [if_pos h1] at h
   have e:i.toNat = j:=Option.some.inj h
   exact ⟨by rw [seqIndex_of h0 h1,e],by omega,by omega,h1⟩
  ·rw [if_neg h1] at h; cases h
 ·rw [if_neg h0] at h
  by_cases h1:-(n:Int) <= i
  ·rw [if_pos h1] at h
   have e:(i + n).toNat = j:=Option.some.inj h
   exact ⟨by rw [seqIndex_neg (by omega) h1,e],by omega,h1,by omega⟩
  ·rw [if_neg h1] at h; cases h
theorem atI_get {α:Type} {xs:List α} {i:Int} {v:α} (h:atI xs i = some v):∃ j,seqIndex? i xs.length = some j /\ xs[j]? = some v /\ j < xs.length /\ -(xs.length:Int) <= i /\ i < xs.length:=by
 unfold atI at h
 cases e:ixN xs.length i with
 | none => rw [e] at h; cases h
 | some j =>
  rw [e] at h
  obtain ⟨h1,h2,h3,h4⟩:=ixN_seq e
  exact ⟨j,h1,h,h2,h3,h4⟩
noncomputable def PlainIx (b:Expr):Prop:=∀ o i,subscripted b false o i = operate [o,i] (getItem o i)
noncomputable def IxR (X:Cx) (r:R2):Prop :=
 ∀ (value slice:Expr) (pins:List (Addr × Obj)) (s:Shared) (σ:St) (H:Hp) (x y:V) (v u:Value) (Q:VK),Inv X pins σ H s -> RelV x v -> RelV y u -> r x y H Q ->
  subscripted slice false v u = operate [v,u] (getItem v u) -> wpAny (model X.prog X.w) X.A (subscriptTail value slice v u) (EP X pins σ Q) X.xe s
noncomputable def MtR (X:Cx) (id:String) (r:V -> List V -> Hp -> VK -> Prop):Prop :=
 ∀ (pins:List (Addr × Obj)) (s:Shared) (σ:St) (H:Hp) (x:V) (xs:List V) (v:Value) (us:List Value) (Q:VK),Inv X pins σ H s -> RelV x v -> Vals xs us -> r x xs H Q ->
  wpAny (model X.prog X.w) X.A (call (.builtin id) (v :: us)) (EP X pins σ Q) X.xe s
section
variable {X:Cx} {a b:Expr} {ta tb:TE} {pos:Pos}
theorem IxR.or {r r':R2} (h:IxR X r) (h':IxR X r'):IxR X (fun x y H Q => r x y H Q \/ r' x y H Q):=by
 intro value slice pins s σ H x y v u Q I rx ry q hs
 rcases q with q | q
 ·exact h value slice pins s σ H x y v u Q I rx ry q hs
 ·exact h' value slice pins s σ H x y v u Q I rx ry q hs
theorem pe_ix {r:R2} (hr:IxR X r) (ha:PE X a ta) (hb:PE X b tb) (hs:PlainIx b):PE X (.Subscript a b pos) (tOp r ta tb):=by
 intro pins s σ H Q I h
 exact Subscript_ (binT ha hb I h fun v u s2 x y H2 I2 rx ry q => hr a b pins s2 σ H2 x y v u Q I2 rx ry q (hs _ _))
noncomputable def rIxL (K:PySem.W.Frag):R2:=fun x y H Q => ∃ p xs i v,x = .ref p /\ y = .int i /\ SqL K H p xs /\ atI xs i = some v /\ Q v H
noncomputable def rIxT (K:PySem.W.Frag):R2:=fun x y H Q => ∃ p xs i v,x = .ref p /\ y = .int i /\ SqT K H p xs /\ atI xs i = some v /\ Q v H
noncomputable def rIxS:R2:=fun x y H Q => ∃ z i c,x = .str z /\ y = .int i /\ z.length <= sizeLine /\ atI z.cps.toList i = some c /\ Q (.str ⟨#[c]⟩) H
theorem ix_list:IxR X (rIxL X.K):=by
 intro value slice pins s σ H x y v u Q I rx ry h hs
 obtain ⟨p,xs,i,z,rfl,rfl,hq,he,q⟩:=h
 cases rx
 obtain ⟨t,rfl⟩:=ry
 obtain ⟨its,r,pl,hz⟩:=I.list hq
 obtain ⟨j,h1,h2,h3,h4,h5⟩:=atI_get he
 obtain ⟨w,ew,rw'⟩:=r.get h2
 have hl:=r.length
 have hn:=line63
 have fin:EP X pins σ Q w s:=⟨z,H,I,rw',q⟩
 by_cases h0:0 <= i
 ·have hj:i.toNat = j:=by
   rw [seqIndex_of h0 h5] at h1
   exact Option.some.inj h1
  exact item_listR pl.isList h0 (by omega) (by rw [hj]; simpa using ew) fin hs
 ·have hj:(i + (its.toArray.size:Int)).toNat = j:=by
   rw [seqIndex_neg (by omega) h4] at h1
   rw [List.size_toArray,<- hl]
   exact Option.some.inj h1
  exact subscriptTail_builtinR (x:=w) pl.isList.typeIs slot_list_getitem.lookup
   (wpAny_getItem_list_neg (Q:=fun r s' => r = w /\ EP X pins σ Q r s') pl.isList (by omega) (by rw [List.size_toArray] <;> omega) (by omega) (by rw [hj]; simpa using ew) ⟨rfl,fin⟩) hs
theorem ix_tup:IxR X (rIxT X.K):=by
 intro value slice pins s σ H x y v u Q I rx ry h hs
 obtain ⟨p,xs,i,z,rfl,rfl,hq,he,q⟩:=h
 cases rx
 obtain ⟨t,rfl⟩:=ry
 obtain ⟨its,r,pl,hz⟩:=I.tuple hq
 obtain ⟨j,h1,h2,h3,h4,h5⟩:=atI_get he
 obtain ⟨w,ew,rw'⟩:=r.get h2
 have hl:=r.length
 have hn:=line63
 have fin:EP X pins σ Q w s:=⟨z,H,I,rw',q⟩
 exact subscriptTail_builtinR (x:=w) pl.typeIs slot_tuple_getitem.lookup
  (getItem_tuple (j:=j) (Q:=fun r s' => r = w /\ EP X pins σ Q r s') pl (by omega) (by omega) (by rw [List.size_toArray,<- hl]; exact h1) (by simpa using ew) ⟨rfl,fin⟩) hs
theorem ix_str:IxR X rIxS:=by
 intro value slice pins s σ H x y v u Q I rx ry h hs
 obtain ⟨z,i,c,rfl,rfl,hz,he,q⟩:=h
 obtain ⟨t,rfl⟩:=rx
 obtain ⟨t',rfl⟩:=ry
 obtain ⟨j,h1,h2,h3,h4,h5⟩:=atI_get he
 have hl:z.cps.toList.length = z.length:=by simp [Str.length]
 rw [hl] at h1 h4 h5
 have hn:=line63
 exact tail_any (typeIs_str s z t) slot_str_getitem.lookup (getItem_str (c:=c) (by
  have e1:decide (i < -(2 ^ 63:Int)) = false:=decide_eq_false (by omega)
  have e2:decide (i >= 2 ^ 63) = false:=decide_eq_false (by omega)
  rw [e1,e2,Bool.or_false]) (by rw [h1]; simpa using h2) ⟨.str ⟨#[c]⟩,H,I.tok _,⟨_,rfl⟩,q⟩) hs
noncomputable def rIx (K:PySem.W.Frag):R2:=fun x y H Q => rIxL K x y H Q \/ rIxT K x y H Q \/ rIxS x y H Q
theorem ix_seq:IxR X (rIx X.K):=ix_list.or (ix_tup.or ix_str)
theorem Inv.lst {pins:List (Addr × Obj)} {σ:St} {H:Hp} {s:Shared} {p:Addr} {xs:List V} (I:Inv X pins σ H s) (h:H p = some (.lst xs)) :
  ∃ (its:List Value) (n:Nat),Vals xs its /\ s.heap.get? p = some { cls:=.type "list",data:=.seq its.toArray n } /\ xs.length <= sizeLine:=by
 obtain ⟨z,its,n,r,e⟩:=I.hok p _ h
 exact ⟨its,n,r,e,z⟩
theorem slice_bounds (lo hi:Option Int) (n:Nat):(sliceBounds lo hi none n).1 = ((HT.sIx n 0 lo:Nat):Int) /\ (sliceBounds lo hi none n).2.1 = ((HT.sIx n n hi:Nat):Int) /\ (sliceBounds lo hi none n).2.2 = 1:=by
 refine ⟨?_,?_,rfl⟩
 ·cases lo with
  | none => simp [sliceBounds,HT.sIx]
  | some i =>
   simp only [sliceBounds,HT.sIx,Option.getD_none,show (1:Int) > 0 by decide,if_true]
   by_cases h:i < 0
   ·simp only [h,if_true] <;> omega
   ·simp only [h,if_false] <;> omega
 ·cases hi with
  | none => simp [sliceBounds,HT.sIx]
  | some i =>
   simp only [sliceBounds,HT.sIx,Option.getD_none,show (1:Int) > 0 by decide,if_true]
   by_cases h:i < 0
   ·simp only [h,if_true] <;> omega
   ·simp only [h,if_false] <;> omega
theorem slicePick_cut (its:List Value) (lo hi:Option Int):slicePick its.toArray lo hi none = ((its.drop (HT.sIx its.length 0 lo)).take (HT.sIx its.length its.length hi - HT.sIx its.length 0 lo)).toArray:=by
 obtain ⟨h1,h2,h3⟩:=slice_bounds lo hi its.toArray.size
 unfold slicePick
 rw [h1,h2,h3]
 simp only [sliceRange_one,pick_run,List.size_toArray] <;> rfl
noncomputable def rSlL (K:PySem.W.Frag):V -> Option Int -> Option Int -> Hp -> VK -> Prop:=fun x lo hi H Q => ∃ a xs,x = .ref a /\ SqL K H a xs /\ ∀ p,H p = none -> Q (.ref p) (upd H p (.lst (cutV xs lo hi)))
theorem sl_list:SlR X (rSlL X.K):=by
 intro pins s σ H x v vl vu lo hi sl Q I rx hs pl pu h
 obtain ⟨a,xs,rfl,hx,q⟩:=h
 cases rx
 obtain ⟨its,r,ht,hz⟩:=I.list hx
 have hlen:=r.length
 refine ⟨"list",_,slot_list_getitem.lookup,ht.isList.typeIs,?_⟩
 refine wpAny_getItem_list_slice ht.isList hs pl pu .none (by simp) ?_ (by rw [List.size_toArray] <;> omega)
 rw [slicePick_cut,<- hlen]
 refine ⟨.ref s.heap.objs.size,_,I.laid (t':=s.toks) (o:=.lst (cutV xs lo hi)) (fun b ob q => Heap.get?_push_of_some _ q) (Nat.le_refl _) ?_,rfl,q _ (I.hok.fresh (Nat.le_refl _))⟩
 exact ⟨Nat.le_trans (cutV_length xs lo hi) hz,_,0,(r.drop (HT.sIx xs.length 0 lo)).take (HT.sIx xs.length xs.length hi - HT.sIx xs.length 0 lo),Heap.get?_push_size _ rfl⟩
noncomputable def flatV:V -> Bool
 | .non => true
 | .bl _ => true
 | .int _ => true
 | .str _ => true
 | _ => false
noncomputable def eqV:V -> V -> Bool
 | .non,.non => true
 | .bl a,.bl b => a == b
 | .bl a,.int b => (if a then 1 else 0) == b
 | .int a,.bl b => a == (if b then 1 else 0)
 | .int a,.int b => a == b
 | .str a,.str b => a == b
 | _,_ => false
theorem eqAt_V {A:Around} {s:Shared} {y x:V} {u v:Value} (ry:RelV y u) (rx:RelV x v) (fy:flatV y = true) (fx:flatV x = true):SeqAt.EqAt A s u v (eqV y x):=by
 cases y with
 | non =>
  cases ry
  cases x with
  | non => cases rx; exact SeqAt.EqAt.same _
  | bl b => cases rx; exact SeqAt.EqAt.none_bool b
  | int b => obtain ⟨t,rfl⟩:=rx; exact SeqAt.EqAt.none_int b t
  | str b => obtain ⟨t,rfl⟩:=rx; exact SeqAt.EqAt.none_str b t
  | _ => exact absurd (show false = true from fx) Bool.false_ne_true
 | bl a =>
  cases ry
  cases x with
  | non => cases rx; exact SeqAt.EqAt.bool_none a
  | bl b => cases rx; exact SeqAt.EqAt.bool_bool a b
  | int b => obtain ⟨t,rfl⟩:=rx; exact SeqAt.EqAt.bool_int a b t
  | str b => obtain ⟨t,rfl⟩:=rx; exact SeqAt.EqAt.bool_str a b t
  | _ => exact absurd (show false = true from fx) Bool.false_ne_true
 | int a =>
  obtain ⟨t',rfl⟩:=ry
  cases x with
  | non => cases rx; exact SeqAt.EqAt.int_none a t'
  | bl b => cases rx; exact SeqAt.EqAt.int_bool a t' b
  | int b => obtain ⟨t,rfl⟩:=rx; exact SeqAt.EqAt.int_int a t' b t
  | str b => obtain ⟨t,rfl⟩:=rx; exact SeqAt.EqAt.int_str a t' b t
  | _ => exact absurd (show false = true from fx) Bool.false_ne_true
 | str a =>
  obtain ⟨t',rfl⟩:=ry
  cases x with
  | non => cases rx; exact SeqAt.EqAt.str_none a t'
  | bl b => cases rx; exact SeqAt.EqAt.str_bool a t' b
  | int b => obtain ⟨t,rfl⟩:=rx; exact SeqAt.EqAt.str_int a t' b t
  | str b => obtain ⟨t,rfl⟩:=rx; exact SeqAt.EqAt.str_str a t' b t
  | _ => exact absurd (show false = true from fx) Bool.false_ne_true
 | _ => exact absurd (show false = true from fy) Bool.false_ne_true
theorem call_len_seq:CallR X (.builtin "len") (fun xs H Q => ∃ p ys,xs = [.ref p] /\ (SqL X.K H p ys \/ SqT X.K H p ys) /\ Q (.int ys.length) H):=by
 intro pins s σ H xs us Q I r h
 obtain ⟨p,ys,rfl,hq,q⟩:=h
 obtain ⟨u,rfl,rx⟩:=vals1 r
 cases rx
 have hn:=line63
 rcases hq with hq | hq
 ·obtain ⟨its,r',pl,hz⟩:=I.list hq
  have hlen:=r'.length
  exact Calls.call_len_list pl.isList (by simp only [List.size_toArray] <;> omega) ⟨.int ys.length,H,I.tok _,⟨s.toks + 1,by rw [List.size_toArray,hlen]⟩,q⟩
 ·obtain ⟨its,r',pl,hz⟩:=I.tuple hq
  have hlen:=r'.length
  exact len_tuple pl (by simp only [List.size_toArray] <;> omega) ⟨.int ys.length,H,I.tok _,⟨s.toks + 1,by rw [List.size_toArray,hlen]⟩,q⟩
theorem call_list_of:CallR X (.type "list") (fun xs H Q => ∃ p ys,xs = [.ref p] /\ (SqL X.K H p ys \/ SqT X.K H p ys) /\ ∀ l,H l = none -> Q (.ref l) (upd H l (.lst ys))):=by
 intro pins s σ H xs us Q I r h
 obtain ⟨p,ys,rfl,hq,q⟩:=h
 obtain ⟨u,rfl,rx⟩:=vals1 r
 cases rx
 have fin:∀ (its:List Value),Vals ys its -> ys.length <= sizeLine -> ∀ (h':Heap) (c':Nat),(∀ b o',s.heap.get? b = some o' -> h'.get? b = some o') ->
   h'.get? s.heap.objs.size = some { cls:=.type "list",dict:=none,data:=.seq its.toArray c',slots:=#[] } -> EP X pins σ Q (.ref s.heap.objs.size) { s with heap:=h' }:=fun its r' hz h' c' kp e =>
  ⟨.ref s.heap.objs.size,_,I.laid (t':=s.toks) kp (Nat.le_refl _) (show ObjOk X.prog X.w _ h' _ (.lst ys) from ⟨hz,its,c',r',e⟩),rfl,q _ (I.hok.fresh (Nat.le_refl _))⟩
 rcases hq with hq | hq
 ·obtain ⟨its,r',pl,hz⟩:=I.list hq
  have hlen:=r'.length
  obtain ⟨o,ho,hc,n,hd⟩:=pl.isList
  exact call_list_seq p (.inl rfl) ho hc hd (fun h' c' kp e => fin its r' hz h' c' kp e) (by simp only [List.size_toArray] <;> omega)
 ·obtain ⟨its,r',pl,hz⟩:=I.tuple hq
  have hlen:=r'.length
  obtain ⟨o,ho,hc,n,hd⟩:=pl
  exact call_list_seq p (.inr rfl) ho hc hd (fun h' c' kp e => fin its r' hz h' c' kp e) (by simp only [List.size_toArray] <;> omega)
theorem call_tuple_of:CallR X (.type "tuple") (fun xs H Q => ∃ p ys,xs = [.ref p] /\ ((SqL X.K H p ys /\ ∀ l,H l = none -> Q (.ref l) (upd H l (.tup ys))) \/ (SqT X.K H p ys /\ Q (.ref p) H))):=by
 intro pins s σ H xs us Q I r h
 obtain ⟨p,ys,rfl,h⟩:=h
 obtain ⟨u,rfl,rx⟩:=vals1 r
 cases rx
 rcases h with ⟨hq,q⟩ | ⟨hq,q⟩
 ·obtain ⟨its,r',pl,hz⟩:=I.list hq
  have hlen:=r'.length
  refine call_tuple_list pl.isList (fun h' kp => ?_) (by simp only [List.size_toArray] <;> omega)
  have I1:Inv X pins σ H { s with heap:=h' }:=I.kept (t':=s.toks) kp
  have I2:Inv X pins σ (upd H h'.objs.size (.tup ys)) { s with heap:=h'.push { cls:=.type "tuple",data:=.seq its.toArray } } :=
   I1.laid (t':=s.toks) (fun b o e => Heap.get?_push_of_some _ e) (Nat.le_refl _) (show ObjOk X.prog X.w _ _ _ (.tup ys) from ⟨hz,its,r',IsTup.new _ _⟩)
  exact ⟨.ref h'.objs.size,_,I2,rfl,q _ (I1.hok.fresh (Nat.le_refl _))⟩
 ·obtain ⟨its,r',pl,hz⟩:=I.tuple hq
  exact call_tuple_same pl ⟨.ref p,H,I,rfl,q⟩
noncomputable def tyV (K:PySem.W.Frag) (T:String) (x:V) (H:Hp):Prop:=match x with
 | .str _ => T = "str"
 | .int _ => T = "int"
 | .ref p => (T = "list" /\ ∃ xs,SqL K H p xs) \/ (T = "tuple" /\ ∃ o,K.lookup p = some o /\ o.cls = .type "tuple" /\ o.dict = none) \/
   (T = "dict" /\ ((∃ kvs,H p = some (.dK kvs)) \/ ∃ kvs,H p = some (.dT kvs))) \/ (T = "set" /\ ∃ S n,H p = some (.set S n))
 | _ => False
theorem tyV_is {pins:List (Addr × Obj)} {σ:St} {H:Hp} {s:Shared} {T:String} {x:V} {v:Value} (I:Inv X pins σ H s) (r:RelV x v) (ty:tyV X.K T x H) :
  s.TypeIs v T /\ ∀ a,v = .ref a -> ∃ ob,s.heap.get? a = some ob /\ ob.dict = none:=by
 cases x with
 | str z =>
  obtain ⟨t,rfl⟩:=r
  cases (show T = "str" from ty)
  exact ⟨typeIs_str s z t,fun _ e => nomatch e⟩
 | int i =>
  obtain ⟨t,rfl⟩:=r
  cases (show T = "int" from ty)
  exact ⟨typeIs_int s i t,fun _ e => nomatch e⟩
 | ref p =>
  cases r
  rcases ty with ⟨rfl,xs,hq⟩ | ⟨rfl,o,hk,hc,hd⟩ | ⟨rfl,hk⟩ | ⟨rfl,S,n,hk⟩
  ·obtain ⟨its,_,pl,_⟩:=I.list hq
   refine ⟨pl.isList.typeIs,fun a e => ?_⟩
   cases e
   obtain ⟨o,n,e,c,hd,_⟩:=pl
   exact ⟨o,e,hd⟩
  ·refine ⟨⟨o,I.kIn p o hk,hc⟩,fun a e => ?_⟩
   cases e
   exact ⟨o,I.kIn _ o hk,hd⟩
  ·have z:∃ o,s.heap.get? p = some o /\ o.ExactDict:=by
    rcases hk with ⟨kvs,hk⟩ | ⟨kvs,hk⟩
    ·obtain ⟨_,_,_,_,o,_,_,e,ex,_⟩:=I.hok p _ hk
     exact ⟨o,e,ex⟩
    ·obtain ⟨_,_,_,_,o,_,_,e,ex,_⟩:=I.hok p _ hk
     exact ⟨o,e,ex⟩
   obtain ⟨o,e,ex⟩:=z
   refine ⟨⟨o,e,ex.1⟩,fun a e2 => ?_⟩
   cases e2
   exact ⟨o,e,ex.2.1⟩
  ·obtain ⟨o,_,_,_,e,ex,_⟩:=I.hok p _ hk
   refine ⟨⟨o,e,ex.1⟩,fun a e2 => ?_⟩
   cases e2
   exact ⟨o,e,ex.2.1⟩
 | _ => exact False.elim ty
noncomputable def tBM0 (K:PySem.W.Frag) (T:String) (r:V -> List V -> Hp -> VK -> Prop) (to:TE):TE:=fun σ H Q => to σ H fun x H1 => tyV K T x H1 /\ r x [] H1 Q
noncomputable def tBM (K:PySem.W.Frag) (T:String) (r:V -> List V -> Hp -> VK -> Prop) (to:TE) (t:TA):TE:=fun σ H Q => to σ H fun x H1 => tyV K T x H1 /\ t σ H1 fun xs H2 => r x xs H2 Q
variable {o e:Expr} {es:List Expr} {to:TE} {t:TA} {name:Str} {apos cpos:Pos} {T id:String} {r:V -> List V -> Hp -> VK -> Prop}
theorem pe_bm0 (pa:PlainAttrs T) (slot:Slot T name id) (hty:typeOf (.builtin id) = pure (.type "method_descriptor")) (hm:MtR X id r) (ho:PE X o to)
  (hbase:attributeBase o name X.env (eval o X.env) = eval o X.env:=by rfl) (hline:(apos.endLine == cpos.line) = true:=by rfl):PE X (.Call (.Attribute o name apos) [] [] cpos) (tBM0 X.K T r to):=by
 intro pins s σ H Q I h
 refine wpAny_Call_method0_late hbase hline (thn (ho pins s σ H _ I h) fun v s1 ⟨x,H1,I1,r1,ty,q1⟩ => ?_)
 obtain ⟨h1,h2⟩:=tyV_is I1 r1 ty
 exact ⟨T,id,pa,slot,hty,h1,h2,Calls.callWith_builtin rfl (PySem.evalArgs_none (hm pins s1 σ H1 x [] v [] Q I1 r1 .nil q1))⟩
theorem pe_bm (pa:PlainAttrs T) (slot:Slot T name id) (hty:typeOf (.builtin id) = pure (.type "method_descriptor")) (hm:MtR X id r) (ho:PE X o to) (ha:PA X (e :: es) t)
  (hbase:attributeBase o name X.env (eval o X.env) = eval o X.env:=by rfl)
  (hfew:((backTo cpos (starEach (e :: es) X.env)).all (fun x => !x.1) && (backToKw cpos (keywordEach [] X.env)).all (fun x => x.1.isSome)
   && decide ((e :: es).length + ([]:List Keyword).length + (if ([]:List Keyword).isEmpty then 0 else 1) < 30)) = true:=by rfl)
  (hline:(apos.endLine == cpos.line) = true:=by rfl) (hs:starEach (e :: es) X.env = (false,eval e X.env) :: starEach es X.env:=by rfl) (hplain:(backTo cpos (starEach es X.env)).any (·.1) = false:=by rfl) :
  PE X (.Call (.Attribute o name apos) (e :: es) [] cpos) (tBM X.K T r to t):=by
 intro pins s σ H Q I h
 refine wpAny_Call_method_late hbase hfew hline rfl (thn (ho pins s σ H _ I h) fun v s1 ⟨x,H1,I1,r1,ty,q1⟩ => ?_)
 obtain ⟨h1,h2⟩:=tyV_is I1 r1 ty
 refine ⟨T,id,pa,slot,hty,h1,h2,?_⟩
 have hA:=ha cpos pins s1 σ H1 _ I1 q1
 rw [hs] at hA ⊢
 refine Calls.callWith_builtin (by show (false || (backTo cpos (starEach es X.env)).any (·.1)) = false; rw [hplain] <;> rfl) (Calls.evalArgs_plain ?_)
 exact thn hA fun us s2 ⟨vs,H2,I2,r2,q2⟩ => hm pins s2 σ H2 x vs v us Q I2 r1 r2 q2
end
end L2
namespace L2
open PySem PySem.Spec PyProof.Rows
noncomputable def MtM (X:Cx) (id:String) (r:V -> List V -> Hp -> VK -> Prop):Prop :=
 ∀ (pins:List (Addr × Obj)) (s:Shared) (σ:St) (H:Hp) (x:V) (xs:List V) (v:Value) (us:List Value) (Q:VK),Inv X pins σ H s -> RelV x v -> Vals xs us -> r x xs H Q ->
  wpAny (model X.prog X.w) X.A (call (.builtin id) (v :: us)) (EP X pins σ Q) X.xe s
theorem Vals.one:∀ {x:V} {us:List Value},Vals [x] us -> ∃ u,us = [u] /\ RelV x u
 | _,_,.cons r .nil => ⟨_,rfl,r⟩
theorem Vals.zero:∀ {us:List Value},Vals [] us -> us = []
 | _,.nil => rfl
theorem Vals.dropLast {xs:List V} {us:List Value} (h:Vals xs us):Vals xs.dropLast us.dropLast:=by
 induction h with
 | nil => exact .nil
 | cons r t ih =>
  cases t with
  | nil => exact .nil
  | cons q t' => exact .cons r ih
theorem Vals.reverse {xs:List V} {us:List Value} (h:Vals xs us):Vals xs.reverse us.reverse:=by
 induction h with
 | nil => exact .nil
 | cons r t ih => rw [List.reverse_cons,List.reverse_cons]; exact Vals.append ih (.cons r .nil)
theorem erase_last {α:Type} (l:List α):l.eraseIdx (l.length - 1) = l.dropLast:=by
 induction l with
 | nil => rfl
 | cons a r ih =>
  cases r with
  | nil => rfl
  | cons b r =>
   have e:(a :: b :: r).length - 1 = ((b :: r).length - 1) + 1:=by
    have h1:(a :: b :: r).length = r.length + 2:=rfl
    have h2:(b :: r).length = r.length + 1:=rfl
    omega
   rw [e,List.eraseIdx_cons_succ,ih]
   all_goals rfl
section
variable {X:Cx} {pins:List (Addr × Obj)} {σ:St} {H:Hp} {s:Shared} {l b:Addr} {xs ys zs:List V}
theorem Inv.lset {its its':List Value} {n:Nat} {f:Array Value -> Array Value} {t':Nat} (I:Inv X pins σ H s) (hH:H l = some (.lst xs))
  (e:s.heap.get? l = some { cls:=.type "list",data:=.seq its.toArray n }) (hf:f its.toArray = its'.toArray) (hv:Vals ys its') (hz:ys.length <= sizeLine) :
  Inv X pins σ (upd H l (.lst ys)) { s with heap:=s.heap.update l (Obj.mapSeq f),toks:=t' }:=by
 have q:=PySem.IsL.update e f
 rw [hf] at q
 refine I.write (x:=l) (e:=l) (by rw [hH]; exact trivial) (.inl rfl) (fun b' u hb hu => (Heap.get?_update_other s.heap (Obj.mapSeq f) (Ne.symm hb)).trans hu) ⟨_,q⟩ ?_
 exact ⟨hz,its',_,hv,q⟩
theorem Inv.lnew {its:List Value} {t':Nat} (I:Inv X pins σ H s) (hv:Vals ys its) (hz:ys.length <= sizeLine) :
  Inv X pins σ (upd H s.heap.objs.size (.lst ys)) { s with heap:=s.heap.push { cls:=.type "list",data:=.seq its.toArray },toks:=t' } :=
 I.laid (fun _ _ q => Heap.get?_push_of_some _ q) (Nat.le_refl _) ⟨hz,its,0,hv,Heap.get?_push_size _ rfl⟩
theorem Inv.fresh (I:Inv X pins σ H s):H s.heap.objs.size = none:=I.hok.fresh (Nat.le_refl _)
theorem Inv.lstM (I:Inv X pins σ H s) (hH:H l = some (.lst xs)):xs.length <= sizeLine /\ ∃ (its:List Value) (n:Nat),Vals xs its /\ xs.length = its.length /\ s.heap.get? l = some { cls:=.type "list",data:=.seq its.toArray n }:=by
 obtain ⟨z,its,n,r,e⟩:=I.hok l _ hH
 exact ⟨z,its,n,r,r.length,e⟩
theorem notLongL {n:Nat} (h:n <= sizeLine):Builtin.List.listTooLong n = false:=by
 unfold Builtin.List.listTooLong
 exact decide_eq_false (by omega)
end
section
variable {X:Cx}
noncomputable def rAppend:V -> List V -> Hp -> VK -> Prop:=fun x vs H Q => ∃ l xs y,x = .ref l /\ vs = [y] /\ H l = some (.lst xs) /\ xs.length < sizeLine /\ Q .non (upd H l (.lst (xs ++ [y])))
theorem mt_append:MtM X "list.append" rAppend:=by
 intro pins s σ H x vs v us Q I rx rv h
 obtain ⟨l,xs,y,rfl,rfl,hH,hz,q⟩:=h
 cases rx
 obtain ⟨u,rfl,ru⟩:=rv.one
 obtain ⟨z,its,n,r,hl,e⟩:=I.lstM hH
 refine call_meets F.slot_list_append ⟨_,e,rfl⟩ F.entry_list_append (F.args_list_append_2 _ _) (PySem.list_append l its.toArray n u (by rw [List.size_toArray]; omega)) ⟨e,?_⟩
 refine ⟨.non,_,I.lset (its':=its ++ [u]) hH e (by simp) (r.append (.cons ru .nil)) ?_,rfl,q⟩
 rw [List.length_append,List.length_singleton]
 omega
noncomputable def rPop:V -> List V -> Hp -> VK -> Prop:=fun x vs H Q => ∃ l xs y,x = .ref l /\ vs = [] /\ H l = some (.lst xs) /\ xs[xs.length - 1]? = some y /\ Q y (upd H l (.lst xs.dropLast))
theorem mt_pop:MtM X "list.pop" rPop:=by
 intro pins s σ H x vs v us Q I rx rv h
 obtain ⟨l,xs,y,rfl,rfl,hH,hy,q⟩:=h
 cases rx
 have hus:=rv.zero
 subst hus
 obtain ⟨z,its,n,r,hl,e⟩:=I.lstM hH
 obtain ⟨u,hu,ru⟩:=r.get hy
 have hy':its.toArray[its.toArray.size - 1]? = some u:=by
  show its.toArray[its.length - 1]? = some u
  rw [<- Array.getElem?_toList,<- hl]
  exact hu
 refine call_meets F.slot_list_pop ⟨_,e,rfl⟩ F.entry_list_pop (F.args_list_pop_1 _) (MeetsSeq.list_pop_last l its.toArray n u hy' (by rw [List.size_toArray]; omega)) ⟨e,?_⟩
 refine ⟨y,_,I.lset (its':=its.dropLast) hH e ?_ r.dropLast ?_,ru,q⟩
 ·show its.toArray.eraseIdxIfInBounds (its.toArray.size - 1) = its.dropLast.toArray
  rw [List.size_toArray,List.eraseIdxIfInBounds_toArray,erase_last]
 ·rw [List.length_dropLast]
  omega
end
section
variable {prog:Program} {w:World} {A:Around} {E:Value -> Shared -> Prop} {s:Shared}
end
section
variable {X:Cx}
end
end L2
namespace Att
open PySem PySem.W PySem.Calls PyProof.Rows
theorem ints_of_wellAll {P:Params} {h:Heap}:∀ (ns:List Int) (vs:List Value),WellAll P h vs (ns.map WData.int) -> IntsAre vs ns:=by
 intro ns
 induction ns with
 | nil =>
  intro vs w
  rw [List.map_nil] at w
  cases w
  exact .nil
 | cons n ns ih =>
  intro vs w
  rw [List.map_cons] at w
  cases w with
  | cons a b =>
   cases a
   exact .cons _ _ (ih _ b)
theorem script_of {l:OpenLaw} {n:Nat} (hn:l.most = some n) {P:Params} {h:Heap} {args:List WData} {vals:List Value}
  (hpre:l.row.toRowW.claim.pre args = true) (hwl:WellAll P h vals args) :
  ∃ a vs ns,vals = [Value.ref a] /\ args = [WData.list (ns.map WData.int)] /\ h.get? a = some { cls:=.type "list",data:=.seq vs.toArray } /\ IntsAre vs ns /\ ns.length <= n:=by
 have hsh:WShape.hasAll [] args [.list .int] = true:=(pre_splitW hpre).1
 have hc:l.pre.holds [] { args:=args } = true:=(pre_splitW hpre).2
 obtain ⟨d,r,rfl,h1,h2⟩:=hasAllW_cons hsh
 obtain rfl:=hasAllW_nil h2
 obtain ⟨xs,rfl,h3⟩:=hasW_list h1
 obtain ⟨ns,rfl⟩:=items_int h3
 have hlen:ns.length <= n:=by
  unfold OpenLaw.pre at hc
  have h4:(WTm.not (.lt (.lit (.int (n:Int))) (.len (.arg 0)))).holds [] { args:=[.list (ns.map .int)] } = true:=by
   have h4:=(holds_andW hc).1
   rw [hn] at h4
   exact h4
  have h5:=condW_of h4 (w_not (w_lt w_lit (w_len_list (w_arg rfl))))
  rw [List.length_map] at h5
  refine Nat.le_of_not_lt fun q => ?_
  have q':(n:Int) < ((ns.length:Nat):Int):=by omega
  first
   | (rw [decide_eq_true q'] at h5; exact absurd h5 (by decide))
   | (simp at h5; omega)
 cases hwl with
 | cons w1 w2 =>
  cases w2
  cases w1 with
  | list ho hall => exact ⟨_,_,ns,rfl,rfl,ho,ints_of_wellAll ns _ hall,hlen⟩
theorem post_true (l:OpenLaw) (args:List WData):l.row.toRowW.claim.post args (.bool true) args = true :=
 postW_of (r:=l.row.toRowW) (X:=(true == true))
  (show WShape.has [] (.bool true) .bool = true by first | rfl | decide | simp [WShape.has,WShape.arms,WShape.armsAll])
  (show (WTm.eq .res (.lit (.bool true))).value [] { args:=args,res:=some (.bool true),after:=args } = some (.bool (true == true)) from w_eq_bool (w_res rfl) w_lit) rfl
theorem attach_call {l:OpenLaw} {n:Nat} {q:Program} {loose:List Str} {XP:(Str -> Option Value) -> Heap -> Prop} {YP:World -> Heap -> Prop} {d:DefRec}
  (hn:l.most = some n) (hdf:d.params.defaults = [])
  (call:∀ (w:World) (s₀ s₁:Shared) (mg mb:Str -> Option Value) (fa:Addr) (o:Obj) (pm cd doc:Value) (a:Addr) (vs:List Value) (ns:List Int),
   Ground q loose [] XP w s₀ mg mb s₁.heap -> YP w s₁.heap ->
   s₁.heap.get? fa = some o -> o.data = .func (docDef d.name d.params d.body d.scope pm cd doc) -> s₁.heap.CodeRec cd d.name -> mg d.name = some (.ref fa) ->
   s₁.heap.get? a = some { cls:=.type "list",data:=.seq vs.toArray } -> IntsAre vs ns -> ns.length <= n -> s₁.gens = #[] ->
   codeAny (model l.prog w) callerA (.call (.ref fa) ⟨[.ref a],[]⟩) (fun r s' => r = .ok (.ret (.bool true)) /\ OldK s₁.heap s'.heap /\ s'.os = s₁.os /\ AllBare s'.gens) s₁) :
  WalkO q loose XP YP l.row.toRowW d [] (fun f vs => PySem.call f vs):=by
 intro w s₀ s₁ mg mb G Y fa o pm cd doc dV kV ho hd hcd hD hmg hg args vals as hpre hlay hrd hwl hlo
 obtain rfl:dV = .none:=Dflts.none hD hdf
 obtain rfl:kV = .none:=Dflts.noKw hD
 obtain ⟨a,vs,ns,rfl,rfl,hobj,hints,hlen⟩:=script_of hn hpre hwl
 refine enter_call (codeAny_mono (call w s₀ s₁ mg mb fa o pm cd doc a vs ns G Y ho (fd_plain hd) hcd hmg hobj hints hlen hg) fun r s' hq => ?_)
 obtain ⟨rfl,h2,h3,h4⟩:=hq
 exact ⟨.inl ⟨.bool true,.bool true,[],rfl,fun _ => rfl,.bool true,post_true l _,fun _ => ⟨List.Pairwise.nil,fun _ hm => (nomatch hm)⟩⟩,h2,h3,h4⟩
section
variable {prog:Program} {w:World} {A:Around} {E:Value -> Shared -> Prop} {s:Shared} {K:Frag}
end
end Att
namespace L2
open PySem PySem.Spec PyProof.Rows
theorem vals_ints:∀ {vs:List Value} {ns:List Int},IntsAre vs ns -> Vals (ns.map V.int) vs
 | _,_,.nil => .nil
 | _,_,.cons n t h => .cons ⟨t,rfl⟩ (vals_ints h)
noncomputable def Only (H:Hp):Prop:=∀ b,H b = none \/ ∃ o xs,H b = some (.frz o (.lst xs))
theorem law_call {P:Program} {w:World} {K:PySem.W.Frag} {mg mb:Str -> Option Value} {CX:CXT} {k:Nat} {fa a:Addr} {fd:FuncData} {x:Str} {sp:Sp} {s₁:Shared} {vs:List Value} {ns:List Int}
  (KX:K.In s₁.heap) (hns:s₁.heap.Ns mainGlobals mg) (hb:s₁.heap.Ns builtinsNs mb) (hbb:∀ x:Str,x ≠ "__name__" -> mb x = bootBuiltins x) (hlim:s₁.heap.NoLimit) (hg:s₁.gens = #[])
  (ha:s₁.heap.get? a = some { cls:=.type "list",data:=.seq vs.toArray }) (hi:IntsAre vs ns) (hl:ns.length <= sizeLine) (hr:Room k callerA)
  (F:∀ base:Heap,K.In base -> base.Ns mainGlobals mg -> FnOk P w K mg base CX k fa fd [x] sp) (hbind:∀ (s:Shared) (u:Value),BindsTo s fd ⟨[u],[]⟩ [(x,u)])
  (hsp:∀ H:Hp,Only H -> SqL K H a (ns.map V.int) -> sp [.ref a] H (fun v _ => v = .bl true) fun _ _ _ => False)
  (hCX:∀ H e s',CX [] H s₁ (fun _ _ _ => False) e s' -> False) :
  codeAny (model P w) callerA (.call (.ref fa) ⟨[.ref a],[]⟩) (fun r s' => r = .ok (.ret (.bool true)) /\ OldK s₁.heap s'.heap /\ s'.os = s₁.os /\ AllBare s'.gens) s₁:=by
 have rv:=vals_ints hi
 have lenV:=hi.length
 have core:∀ H:Hp,Only H -> SqL K H a (ns.map V.int) -> HOk P w H s₁.heap -> (∀ b,H b ≠ none -> b = a) -> (H a ≠ none -> K.lookup a = none) ->
   codeAny (model P w) callerA (.call (.ref fa) ⟨[.ref a],[]⟩) (fun r s' => r = .ok (.ret (.bool true)) /\ OldK s₁.heap s'.heap /\ s'.os = s₁.os /\ AllBare s'.gens) s₁:=by
  intro H hO hS hok hA hK
  have base_of:∀ {b:Addr} {o:Obj},s₁.heap.get? b = some o -> H b = none -> (hidT s₁.heap H).get? b = some o:=fun e n => hidT_get e n
  have noA:∀ {b:Addr} {o:Obj} {es:Array DictEntry} {ep:Nat},s₁.heap.get? b = some o -> o.data = .dict es ep -> H b = none:=fun {b o es ep} e d => by
   cases q:H b with
   | none => rfl
   | some u =>
    have e':b = a:=hA b (by rw [q]; simp)
    subst e'
    rw [ha] at e; cases e
    have d':Data.seq vs.toArray _ = Data.dict es ep:=d
    cases d'
  have nsK:∀ {b:Addr} {m:Str -> Option Value},s₁.heap.Ns b m -> (hidT s₁.heap H).Ns b m:=fun {b m} ⟨o,es,ep,e,d,r⟩ => ⟨o,es,ep,base_of e (noA e d),d,r⟩
  have hKb:K.In (hidT s₁.heap H):=fun b o e => base_of (KX b o e) (by
   cases q:H b with
   | none => rfl
   | some u =>
    have e':b = a:=hA b (by rw [q]; simp)
    subst e'
    rw [hK (by rw [q]; simp)] at e; cases e)
  have hM:Mod K mg (hidT s₁.heap H):=⟨hKb,nsK hns,⟨mb,nsK hb,hbb⟩,let ⟨mc,h1,h2⟩:=hlim; ⟨mc,nsK h1,h2⟩⟩
  have e0:Env0 P w K mg (hidT s₁.heap H) callerA [] s₁ H:=⟨rfl,hM,fun b o e => of_hidT e,Nat.le_of_eq (hidT_size _ _),trivial,fun b hb => absurd (show b ∈ ([]:List Addr) from hb) (by simp),hok,.of_eq hg⟩
  refine codeAny_mono ((F _ hKb (nsK hns)).run callerA [] s₁ H ⟨[.ref a],[]⟩ [.ref a] [.ref a] _ _ hr e0 (hbind s₁ (.ref a)) (.cons rfl .nil) (hsp H hO hS)) fun r s' h => ?_
  cases r with
  | error e => exact (hCX H e s' h).elim
  | ok fl =>
   cases fl with
   | next => exact False.elim h
   | brk => exact False.elim h
   | cont => exact False.elim h
   | ret u =>
    obtain ⟨v,H',os,bare,un,hok',r',q⟩:=h
    have q':v = .bl true:=q
    subst q'
    obtain rfl:u = Value.bool true:=r'
    refine ⟨rfl,OldK.of_keep fun b o e => ?_,os,bare⟩
    cases q:H b with
    | none => exact un.keep b o e q (by intro z; exact absurd (show b ∈ ([]:List Addr) from z) (by simp)) (by simp)
    | some u =>
     rcases hO b with z | ⟨ob,xs,z⟩
     ·rw [q] at z; cases z
     ·have z2:=un.frzs b ob _ z
      obtain ⟨e1,_⟩:=hok b _ z
      obtain ⟨e2,_⟩:=hok' b _ z2
      rw [e] at e1; cases e1
      exact e2
 cases hk:K.lookup a with
 | some o =>
  have e:=KX a o hk
  rw [ha] at e
  cases e
  refine core (fun _ => none) (fun _ => .inl rfl) (.inr ⟨_,vs.toArray,_,hk,rfl,rfl,rfl,by rw [List.size_toArray,lenV]; exact hl,by simpa using rv⟩) (fun b u z => by have z':(none:Option HO) = some u:=z; cases z') (fun b z => absurd rfl z) fun z => absurd rfl z
 | none =>
  refine core (fun b => if b = a then some (.frz { cls:=.type "list",data:=.seq vs.toArray } (.lst (ns.map V.int))) else none) (fun b => ?_) (.inl (.inr ⟨{ cls:=.type "list",data:=.seq vs.toArray },if_pos rfl⟩)) (fun b u z => ?_) (fun b z => ?_) fun _ => hk
  ·by_cases hb:b = a
   ·exact .inr ⟨_,_,if_pos hb⟩
   ·exact .inl (if_neg hb)
  ·by_cases hb:b = a
   ·have z':=(if_pos hb).symm.trans z
    cases z'
    subst hb
    exact ⟨ha,by rw [List.length_map]; exact hl,vs,_,rv,ha⟩
   ·have z':=(if_neg hb).symm.trans z
    cases z'
  ·by_cases hb:b = a
   ·exact hb
   ·exact absurd (if_neg hb) z
end L2
namespace L2
open PySem PySem.Spec PyProof.Rows
theorem walk_of {l:PySem.W.OpenLaw} {n k:Nat} {q:Program} {loose:List Str} {XP:(Str -> Option Value) -> Heap -> Prop} {YP:World -> Heap -> Prop} {d:DefRec} {K:Params -> PySem.W.Frag} {CX:World -> CXT} {sp:World -> Sp} {x:Str}
  (hn:l.most = some n) (hn2:n <= sizeLine) (hdf:d.params.defaults = []) (hr:Room k callerA)
  (hY:∀ (w:World) (h:Heap),YP w h -> (K w.params).In h)
  (F:∀ (w:World) (mg:Str -> Option Value) (fa:Addr) (h:Heap),(K w.params).In h -> h.Ns mainGlobals mg -> mg d.name = some (.ref fa) ->
   ∃ fd:FuncData,(∀ (s:Shared) (u:Value),BindsTo s fd ⟨[u],[]⟩ [(x,u)]) /\
    ∀ base:Heap,(K w.params).In base -> base.Ns mainGlobals mg -> FnOk l.prog w (K w.params) mg base (CX w) k fa fd [x] (sp w))
  (hsp:∀ (w:World) (H:Hp) (a:Addr) (ns:List Int),ns.length <= n -> Only H -> SqL (K w.params) H a (ns.map V.int) -> sp w [.ref a] H (fun v _ => v = .bl true) fun _ _ _ => False)
  (hCX:∀ (w:World) (H:Hp) (s:Shared) (e:Value) (s':Shared),CX w [] H s (fun _ _ _ => False) e s' -> False) :
  PySem.W.WalkO q loose XP YP l.row.toRowW d [] (fun f vs => PySem.call f vs):=by
 refine Att.attach_call hn hdf fun w s₀ s₁ mg mb fa o pm cd doc a vs ns G Y ho hd hcd hmg hobj hints hlen hg => ?_
 have KX:=hY w _ Y
 obtain ⟨fd,hb,hF⟩:=F w mg fa _ KX G.T.g hmg
 exact law_call KX G.T.g G.T.b G.T.builtins G.T.nolimit hg hobj hints (Nat.le_trans hlen hn2) hr hF hb (fun H hO hS => hsp w H a ns hlen hO hS) fun H e s' => hCX w H s₁ e s'
end L2
namespace L2
open PySem PySem.Spec PyProof.Rows
noncomputable def defArgs (s:Stmt):Arguments:=match s with
 | .FunctionDef _ a _ _ _ _ _ _ _ _ => a
 | _ => { posonlyargs:=[],args:=[],vararg:=none,kwonlyargs:=[],kw_defaults:=[],kwarg:=none,defaults:=[] }
noncomputable def defBody (s:Stmt):List Stmt:=match s with
 | .FunctionDef _ _ b _ _ _ _ _ _ _ => b
 | _ => []
noncomputable def defScope (s:Stmt):Scope:=match s with
 | .FunctionDef _ _ _ _ _ _ sc _ _ _ => sc
 | _ => { kind:=.function,names:=[],isGenerator:=false,isCoroutine:=false }
noncomputable abbrev CX0:CXT:=fun _ _ _ _ _ _ => False
noncomputable abbrev E0:XK:=fun _ _ _ => False
theorem pass0 {X:Cx}:Passes CX0 X E0:=fun _ _ _ _ _ _ _ h => h.elim
section
variable {P:Program} {w:World} {K:PySem.W.Frag} {mg:Str -> Option Value} {base:Heap}
end
section
variable {X:Cx}
end
noncomputable def Same (H H':Hp):Prop:=∀ b o,H b = some o -> H' b = some o
theorem Same.refl (H:Hp):Same H H:=fun _ _ h => h
theorem Same.trans {H H1 H2:Hp} (a:Same H H1) (b:Same H1 H2):Same H H2:=fun c o h => b c o (a c o h)
theorem Same.free {H H':Hp} (e:Same H H') {l:Addr} (h:H' l = Option.none):H l = Option.none:=by
 cases q:H l with
 | none => rfl
 | some o =>
  rw [e l o q] at h
  cases h
theorem Same.seq {K:PySem.W.Frag} {H H':Hp} {a:Addr} {xs:List V} (e:Same H H') (h:SqL K H a xs):SqL K H' a xs:=by
 rcases h with (h | ⟨o,h⟩) | h
 ·exact .inl (.inl (e _ _ h))
 ·exact .inl (.inr ⟨o,e _ _ h⟩)
 ·exact .inr h
end L2
namespace L2
open PySem PySem.Spec PyProof.Rows
section
variable {κ:Type} [DecidableEq κ]
noncomputable def valV (kvs:List (κ × V)) (k:κ):Option V:=(kvs.find? fun kv => decide (kv.1 = k)).map (·.2)
noncomputable def putK (kvs:List (κ × V)) (k:κ) (v:V):List (κ × V) :=
 if (kvs.any fun kv => decide (kv.1 = k)) = true then kvs.map (fun kv => if kv.1 = k then (kv.1,v) else kv) else kvs ++ [(k,v)]
noncomputable def dropK (kvs:List (κ × V)) (k:κ):List (κ × V):=kvs.filter fun kv => decide (kv.1 ≠ k)
theorem valV_pos {p:κ × V} {r:List (κ × V)} {k:κ} (e:p.1 = k):valV (p :: r) k = some p.2:=by simp [valV,List.find?_cons,e]
theorem valV_neg {p:κ × V} {r:List (κ × V)} {k:κ} (e:¬ p.1 = k):valV (p :: r) k = valV r k:=by simp [valV,List.find?_cons,e]
theorem valV_any (k:κ):∀ kvs:List (κ × V),(kvs.any fun kv => decide (kv.1 = k)) = (valV kvs k).isSome
 | [] => rfl
 | p :: r => by
  rw [List.any_cons]
  by_cases e:p.1 = k
  ·simp only [valV_pos e,decide_eq_true e,Bool.true_or,Option.isSome_some]
  ·rw [valV_neg e,decide_eq_false e,Bool.false_or]; exact valV_any k r
theorem RelO.isSome_eq {o:Option V} {u:Option Value} (r:RelO o u):o.isSome = u.isSome:=by
 cases o with
 | none => cases u with
  | none => rfl
  | some _ => exact (show False from r).elim
 | some _ => cases u with
  | none => exact (show False from r).elim
  | some _ => rfl
theorem RelO.getD {o:Option V} {u:Option Value} {d:V} {d':Value} (r:RelO o u) (rd:RelV d d'):RelV (o.getD d) (u.getD d'):=by
 cases o with
 | none => cases u with
  | none => exact rd
  | some _ => exact (show False from r).elim
 | some _ => cases u with
  | none => exact (show False from r).elim
  | some _ => exact r
theorem KV.val {kvs:List (κ × V)} {vs:List (κ × Value)} (r:KV kvs vs) (k:κ):RelO (valV kvs k) (valueAt vs k):=by
 unfold KV at r
 induction r with
 | nil => exact True.intro
 | @cons p q ps qs h t ih =>
  obtain ⟨h1,h2⟩:=h
  by_cases e:p.1 = k
  ·have e':q.1 = k:=h1.symm.trans e
   have b:valueAt (q :: qs) k = some q.2:=by simp [valueAt,List.find?_cons,e']
   rw [valV_pos e,b]; exact h2
  ·have e':¬ q.1 = k:=fun z => e (h1.trans z)
   have b:valueAt (q :: qs) k = valueAt qs k:=by simp [valueAt,List.find?_cons,e']
   rw [valV_neg e,b]; exact ih
theorem KV.any {kvs:List (κ × V)} {vs:List (κ × Value)} (r:KV kvs vs) (k:κ):(kvs.any fun kv => decide (kv.1 = k)) = vs.any fun kv => decide (kv.1 = k):=by
 unfold KV at r
 induction r with
 | nil => rfl
 | cons h t ih => rw [List.any_cons,List.any_cons,ih,h.1]
theorem KV.repl {kvs:List (κ × V)} {vs:List (κ × Value)} (r:KV kvs vs) (k:κ) {y:V} {u:Value} (ry:RelV y u) :
  KV (kvs.map fun kv => if kv.1 = k then (kv.1,y) else kv) (vs.map fun kv => if kv.1 = k then (kv.1,u) else kv):=by
 unfold KV at r ⊢
 induction r with
 | nil => exact .nil
 | @cons p q ps qs h t ih =>
  rw [List.map_cons,List.map_cons]
  refine .cons ?_ ih
  obtain ⟨h1,h2⟩:=h
  by_cases e:p.1 = k
  ·rw [if_pos e,if_pos (h1.symm.trans e)]; exact ⟨h1,ry⟩
  ·rw [if_neg e,if_neg (fun z => e (h1.trans z))]; exact ⟨h1,h2⟩
theorem KV.put {kvs:List (κ × V)} {vs:List (κ × Value)} (r:KV kvs vs) (k:κ) {y:V} {u:Value} (ry:RelV y u):KV (putK kvs k y) (stored vs k u):=by
 unfold putK stored
 rw [r.any k]
 by_cases e:(vs.any fun kv => decide (kv.1 = k)) = true
 ·rw [if_pos e,if_pos e]; exact r.repl k ry
 ·rw [if_neg e,if_neg e]; exact Paired.snoc r ⟨rfl,ry⟩
theorem KV.length {kvs:List (κ × V)} {vs:List (κ × Value)} (r:KV kvs vs):kvs.length = vs.length:=Paired.length r
end
theorem kV_is {P:Program} {w:World} {k:Key} {u:Value} (r:RelV (kV k) u):(mixKind P w).is k u = true:=by
 cases k with
 | inl i => obtain ⟨t,e⟩:=(show ∃ t,u = Value.int i t from r); subst e; exact mixKind_int P w i t
 | inr x => obtain ⟨t,e⟩:=(show ∃ t,u = Value.str x t from r); subst e; exact mixKind_str P w x t
theorem items_are {P:Program} {w:World}:∀ {ks:List Key} {us:List Value},Vals (ks.map kV) us -> ItemsAre (mixKind P w) ks us
 | [],_,r => by rw [List.map_nil] at r; cases r; exact .nil
 | k :: ks,_,r => by
  rw [List.map_cons] at r
  cases r with
  | cons h t => exact .cons (kV_is h) (items_are t)
noncomputable abbrev KT (H:Hp):List (List Key × V) -> List (List Key × Addr × Value) -> Prop:=Paired fun p q => p.1 = q.1 /\ H q.2.1 = some (.tup (p.1.map kV)) /\ RelV p.2 q.2.2
theorem KT.val {H:Hp} {kvs:List (List Key × V)} {xs:List (List Key × Addr × Value)} (r:KT H kvs xs) (k:List Key):RelO (valV kvs k) ((atKey xs k).map (·.2)):=by
 induction r with
 | nil => exact True.intro
 | @cons p q ps qs h t ih =>
  obtain ⟨h1,_,h2⟩:=h
  by_cases e:p.1 = k
  ·have e':q.1 = k:=h1.symm.trans e
   have b:atKey (q :: qs) k = some q.2:=by simp [atKey,List.find?_cons,e']
   rw [valV_pos e,b]; exact h2
  ·have e':¬ q.1 = k:=fun z => e (h1.trans z)
   have b:atKey (q :: qs) k = atKey qs k:=by simp [atKey,List.find?_cons,e']
   rw [valV_neg e,b]; exact ih
theorem KT.repl {H:Hp} {kvs:List (List Key × V)} {xs:List (List Key × Addr × Value)} (r:KT H kvs xs) (k:List Key) {y:V} {u:Value} (ry:RelV y u) :
  KT H (kvs.map fun kv => if kv.1 = k then (kv.1,y) else kv) (xs.map (putAt k u)):=by
 induction r with
 | nil => exact .nil
 | @cons p q ps qs h t ih =>
  rw [List.map_cons,List.map_cons]
  refine .cons ?_ ih
  obtain ⟨h1,h2,h3⟩:=h
  unfold putAt
  by_cases e:p.1 = k
  ·rw [if_pos e,if_pos (h1.symm.trans e)]; exact ⟨h1,h2,ry⟩
  ·rw [if_neg e,if_neg (fun z => e (h1.trans z))]; exact ⟨h1,h2,h3⟩
theorem KT.put {H:Hp} {kvs:List (List Key × V)} {xs:List (List Key × Addr × Value)} (r:KT H kvs xs) (k:List Key) {b:Addr} {y:V} {u:Value} (hb:H b = some (.tup (k.map kV))) (ry:RelV y u) :
  KT H (putK kvs k y) (storedH xs k b u):=by
 have e:(kvs.any fun kv => decide (kv.1 = k)) = (atKey xs k).isSome:=by
  rw [valV_any,(r.val k).isSome_eq,Option.isSome_map]
 unfold putK storedH
 rw [e]
 by_cases q:(atKey xs k).isSome = true
 ·rw [if_pos q,if_pos q]; exact r.repl k ry
 ·rw [if_neg q,if_neg q]; exact Paired.snoc r ⟨rfl,hb,ry⟩
theorem KT.keeps {H H':Hp} {kvs:List (List Key × V)} {xs:List (List Key × Addr × Value)} (r:KT H kvs xs) (ht:∀ b ys,H b = some (.tup ys) -> H' b = some (.tup ys)):KT H' kvs xs :=
 Paired.mapP r fun _ _ z => ⟨z.1,ht _ _ z.2.1,z.2.2⟩
section
variable {P:Program} {w:World} {H:Hp} {h:Heap} {a:Addr}
theorem rd_of {u:HO} (ok:HOk P w H h) (e:Rd H a u):ObjOk P w H h a u:=e.ok ok
theorem dk_rd {kvs:List (Key × V)} (ok:HOk P w H h) (e:Rd H a (.dK kvs)):kvs.length <= sizeLine /\ (a == sysModules) = false /\ ∃ vs,KV kvs vs /\ h.DictOf (mixKind P w) a vs :=
 show ObjOk P w H h a (.dK kvs) from rd_of ok e
theorem key_of {ks:List Key} (ok:HOk P w H h) (e:H a = some (.tup (ks.map kV))):(tupleKind (mixKind P w)).is h ks a:=by
 obtain ⟨_,its,r,o,h1,h2,n,h3⟩:=(show ObjOk P w H h a (.tup (ks.map kV)) from ok a _ e)
 exact ⟨o,its.toArray,n,h1,h2,h3,by simpa using items_are r⟩
theorem dt_rd {kvs:List (List Key × V)} (ok:HOk P w H h) (e:Rd H a (.dT kvs)):kvs.length <= sizeLine /\ (a == sysModules) = false /\
  ∃ xs,KT H kvs xs /\ h.DictOfH (tupleKind (mixKind P w)) a xs:=by
 obtain ⟨z,y,xs,r,o,es,ep,h1,h2,h3,h4,h5⟩:=(show ObjOk P w H h a (.dT kvs) from rd_of ok e)
 refine ⟨z,y,xs,r,o,es,ep,h1,h2,h3,h4,fun x hx => ?_,h5⟩
 have all:∀ {l:List (List Key × V)} {m:List (List Key × Addr × Value)},KT H l m -> ∀ x ∈ m,(tupleKind (mixKind P w)).is h x.1 x.2.1:=by
  intro l m q
  induction q with
  | nil => intro x hx; exact nomatch hx
  | @cons p q ps qs hq t ih =>
   intro x hx
   rcases List.mem_cons.mp hx with e | hx
   ·subst e
    exact key_of ok (by rw [<- hq.1]; exact hq.2.1)
   ·exact ih x hx
 exact all r x hx
end
section
variable {X:Cx} {pins:List (Addr × Obj)} {σ:St} {H:Hp} {s:Shared} {a:Addr} {y v:V} {u r:Value} {o:Option V} {A:Around} {E:Value -> Shared -> Prop}
theorem Inv.big (I:Inv X pins σ H s):sysModules < s.heap.objs.size:=by
 have h:mainGlobals < s.heap.objs.size:=(I.mod.glob.keeps I.bk).lt
 exact Nat.lt_trans (by decide) h
end
section
variable {X:Cx} {pins:List (Addr × Obj)} {σ:St} {H:Hp} {s:Shared} {a:Addr} {kvs:List (Key × V)} {k:Key} {u:Value} {A:Around} {E:Value -> Shared -> Prop}
end
noncomputable def NoSl (i:Expr):Prop:=∀ ov iv,subscripted i false ov iv = operate [ov,iv] (getItem ov iv)
theorem subD_of {prog:Program} {w:World} {A:Around} {E:Value -> Shared -> Prop} {s:Shared} {env:Env} {value slice:Expr} {pos:Pos} {T id:String} {Q:Value -> Shared -> Prop}
  (hl:typeLookup (.type T) "__getitem__" = pure (some (.builtin id))) (hs:NoSl slice)
  (h:wpAny (model prog w) A (eval value env) (fun o s₁ => wpAny (model prog w) A (eval slice env) (fun i s₂ => s₂.TypeIs o T /\ wpAny (model prog w) A (getItem o i) Q E s₂) E s₁) E s) :
  wpAny (model prog w) A (eval (.Subscript value slice pos) env) Q E s:=by
 refine Subscript_ (wpAny_mono h (fun o s₁ h₁ => wpAny_mono h₁ (fun i s₂ h₂ => ?_) fun _ _ x => x) fun _ _ x => x)
 obtain ⟨hT,h₂⟩:=h₂
 unfold subscriptTail
 refine wpAny_bind ?_
 rw [getitemInPython_of_ne hT.not_modules]
 refine wpAny_bind (wpAny_specialOf hT hl ?_)
 have fin:wpAny (model prog w) A (subscripted slice false o i) (fun r s₃ => wpAny (model prog w) A (letTemporaryGo value o r >>= fun _ => pure r) Q E s₃) E s₂:=by
  rw [hs o i]
  exact wpAny_operating (wpAny_mono h₂ (fun r s₃ h₃ => wpAny_bind (wpAny_letTemporaryGo (wpAny_pure h₃))) fun _ _ x => x)
 first
  | exact wpAny_pure (wpAny_bind fin)
  | exact wpAny_bind (wpAny_pure (wpAny_bind fin))
  | exact wpAny_bind fin
section
variable {X:Cx} {o i e value:Expr} {pos pos' tpos:Pos} {td ty tv:TE}
end
section
variable {X:Cx} {pos:Pos}
end
noncomputable def IsD (H:Hp) (a:Addr):Prop:=(∃ kvs,Rd H a (.dK kvs)) \/ ∃ kvs,Rd H a (.dT kvs)
theorem isD_at {X:Cx} {pins:List (Addr × Obj)} {σ:St} {H:Hp} {s:Shared} {a:Addr} (I:Inv X pins σ H s) (d:IsD H a) :
  s.TypeIs (.ref a) "dict" /\ (∀ b,Value.ref a = .ref b -> ∃ ob,s.heap.get? b = some ob /\ ob.dict = none) /\ (a == sysModules) = false:=by
 rcases d with ⟨kvs,e⟩ | ⟨kvs,e⟩
 ·obtain ⟨_,hd,vs,_,dd⟩:=dk_rd I.hok e
  refine ⟨dd.typeIs,fun b q => ?_,hd⟩
  cases q
  obtain ⟨ob,_,_,h1,h2,_⟩:=dd
  exact ⟨ob,h1,h2.2.1⟩
 ·obtain ⟨_,hd,xs,_,dd⟩:=dt_rd I.hok e
  refine ⟨dd.typeIs,fun b q => ?_,hd⟩
  cases q
  obtain ⟨ob,_,_,h1,h2,_⟩:=dd
  exact ⟨ob,h1,h2.2.1⟩
section
variable {X:Cx} {pins:List (Addr × Obj)} {σ:St} {H:Hp} {s:Shared} {a:Addr} {y d:V} {u r:Value} {o:Option V} {A:Around} {E:Value -> Shared -> Prop}
end
section
variable {X:Cx} {o e f:Expr} {apos cpos:Pos} {td ty tx:TE}
end
section
variable {X:Cx} {pins:List (Addr × Obj)} {σ:St} {H:Hp} {s:Shared} {a:Addr} {kvs:List (Key × V)} {A:Around} {E:Value -> Shared -> Prop}
end
section
variable {X:Cx} {pins:List (Addr × Obj)} {σ:St} {H:Hp} {s:Shared} {a:Addr} {y:V} {u:Value} {A:Around} {E:Value -> Shared -> Prop}
end
end L2
namespace L2.Srt
open PySem PySem.W PyProof.Rows
section
variable {O:KeyOrd} {key:Nat -> O.α} {N:Nat} {cmp:Nat -> Nat -> (Bool -> Shared -> Prop) -> Shared -> Prop} {s:Shared}
noncomputable def kk (key:Nat -> O.α) (p:Array Nat) (i:Nat):O.α:=key (p.getD i 0)
noncomputable def Rises (key:Nat -> O.α) (p:Array Nat) (k:Nat):Prop:=∀ i j,i <= j -> j < k -> O.kle (kk key p i) (kk key p j)
noncomputable def Falls (key:Nat -> O.α) (p:Array Nat) (k:Nat):Prop:=∀ i j,i <= j -> j < k -> O.kle (kk key p j) (kk key p i)
noncomputable def PB (N:Nat) (p:Array Nat):Prop:=p.Perm (List.range N).toArray
theorem PB.size {p:Array Nat} (h:PB N p):p.size = N:=by have:=h.size_eq; simpa using this
theorem PB.lt {p:Array Nat} (h:PB N p) {i:Nat} (hi:i < N):p.getD i 0 < N:=by
 have hs:i < p.size:=by rw [h.size]; exact hi
 have hm:p[i] ∈ (List.range N):=by
  have e:=(Array.perm_iff_toList_perm.mp h).mem_iff (a:=p[i])
  simpa using e.mp (by simp)
 have e:p.getD i 0 = p[i]:=by simp [Array.getD,hs]
 rw [e]; exact List.mem_range.mp hm
theorem PB.rev {p:Array Nat} (h:PB N p) (i j:Nat):PB N (kas_rev p i j):=(mirror_perm _ _ _ _).trans h
theorem PB.bub {p:Array Nat} (h:PB N p) (i j:Nat):PB N (bubble p i j):=(bubble_perm _ _ _).trans h
theorem kk_congr {p q:Array Nat} {i j:Nat} (h:p[i]? = q[j]?):kk key p i = kk key q j:=by
 unfold kk; rw [Array.getD_eq_getD_getElem?,Array.getD_eq_getD_getElem?,h]
theorem kk_bubble {p:Array Nat} {src d:Nat} (hs:src < p.size) (hd:d <= src) (k:Nat) :
  kk key (bubble p src d) k = if k = src - d then kk key p src else if src - d < k /\ k <= src then kk key p (k - 1) else kk key p k:=by
 have e:=getElem?_bubble hs d hd k
 by_cases h1:k = src - d
 ·rw [if_pos h1] at e ⊢; exact kk_congr e
 ·rw [if_neg h1] at e ⊢
  by_cases h2:src - d < k /\ k <= src
  ·rw [if_pos h2] at e ⊢; exact kk_congr e
  ·rw [if_neg h2] at e ⊢; exact kk_congr e
theorem kk_rev {p:Array Nat} {i j:Nat} (hj:j <= p.size) (k:Nat) :
  kk key (kas_rev p i j) k = if i <= k /\ k < j then kk key p (i + j - 1 - k) else kk key p k:=by
 have e:=getElem?_mirror_all (i:=i) hj k
 unfold kas_rev
 by_cases h1:i <= k /\ k < j
 ·rw [if_pos h1] at e ⊢; exact kk_congr e
 ·rw [if_neg h1] at e ⊢; exact kk_congr e
theorem kk_rev_equal {p:Array Nat} {i j:Nat} (hj:j <= p.size) (heq:∀ k,i <= k -> k < j -> kk key p k = kk key p (j - 1)) (k:Nat) :
  kk key (kas_rev p i j) k = kk key p k:=by
 rw [kk_rev hj]
 split
 ·rw [heq _ (by omega) (by omega),heq k (by omega) (by omega)]
 ·rfl
variable (hc:∀ a b C,a < N -> b < N -> C (O.blt (key a) (key b)) s -> cmp a b C s)
include hc
theorem t_ask {α:Type} {p:Array Nat} {i j:Nat} {k:Bool -> KasT α} {Q:α -> Shared -> Prop} (hp:PB N p) (hi:i < N) (hj:j < N)
  (h:(k (O.blt (kk key p i) (kk key p j))).kasWp cmp Q s):(KasT.ask (p.getD i 0) (p.getD j 0) k).kasWp cmp Q s :=
 hc _ _ _ (hp.lt hi) (hp.lt hj) h
theorem t_asc {p:Array Nat} {nrem:Nat} {Q:Nat -> Shared -> Prop} (hp:PB N p) (hn:nrem <= N):∀ (f n:Nat),n + f = nrem -> 1 <= n -> Rises key p n ->
  (∀ m,n <= m -> m <= nrem -> Rises key p m -> (m = nrem \/ O.klt (kk key p m) (kk key p (m - 1))) -> Q m s) -> (kas_asc p f n).kasWp cmp Q s
 | 0,n,e,h1,hs,h => h n (Nat.le_refl _) (by omega) hs (.inl (by omega))
 | f + 1,n,e,h1,hs,h => by
  show (KasT.ask (p.getD n 0) (p.getD (n - 1) 0) fun c => if c = true then .ret n else kas_asc p f (n + 1)).kasWp cmp Q s
  refine t_ask hc hp (by omega) (by omega) ?_
  cases hless:O.blt (kk key p n) (kk key p (n - 1)) with
  | true =>
   rw [if_pos rfl]
   exact h n (Nat.le_refl _) (by omega) hs (.inr hless)
  | false =>
   rw [if_neg (by simp)]
   refine t_asc hp hn f (n + 1) (by omega) (by omega) (fun i j hij hj => ?_) fun m a b c d => h m (by omega) b c d
   by_cases hjx:j < n
   ·exact hs i j hij hjx
   ·have hj':j = n:=by omega
    subst hj'
    by_cases hi':i = j
    ·subst hi'; exact KeyOrd.kle_refl _
    ·exact KeyOrd.kle_trans (hs i (j - 1) (by omega) (by omega)) hless
theorem t_tail3 {p:Array Nat} {n nrem:Nat} {Q:Nat × Array Nat -> Shared -> Prop} (hp:PB N p) (hn:nrem <= N) (h1:1 <= n) (hnn:n <= nrem) (hs:Falls key p n)
  (h:∀ m p',PB N p' -> 1 <= m -> m <= nrem -> Rises key p' m -> Q (m,p') s):(kas_tail3 n nrem p).kasWp cmp Q s:=by
 unfold kas_tail3
 rw [KasT.kasWp_bind]
 have hz:n <= p.size:=by rw [hp.size]; omega
 refine t_asc hc (hp.rev 0 n) hn (nrem - n) n (by omega) h1 (fun i j hij hj => ?_) fun m a b c _ => h m _ (hp.rev 0 n) (by omega) b c
 rw [kk_rev hz,kk_rev hz,if_pos (by omega),if_pos (by omega)]
 exact hs _ _ (by omega) (by omega)
theorem t_desc {nrem:Nat} {Q:Array Nat × Nat × Nat -> Shared -> Prop} (hn:nrem <= N):∀ (f:Nat) (p:Array Nat) (n q:Nat),n + f = nrem -> PB N p -> Falls key p n -> q + 1 <= n ->
  (∀ i,n - (q + 1) <= i -> i < n -> kk key p i = kk key p (n - 1)) ->
  (∀ p' m q',n <= m -> m <= nrem -> PB N p' -> Falls key p' m -> q' + 1 <= m -> (∀ i,m - (q' + 1) <= i -> i < m -> kk key p' i = kk key p' (m - 1)) -> Q (p',m,q') s) ->
  (kas_desc f p n q).kasWp cmp Q s
 | 0,p,n,q,e,hp,hs,hq,he,h => h p n q (Nat.le_refl _) (by omega) hp hs hq he
 | f + 1,p,n,q,e,hp,hs,hq,he,h => by
  show (KasT.ask (p.getD n 0) (p.getD (n - 1) 0) fun c =>
   if c = true then (if q > 0 then kas_desc f (kas_rev p (n - (q + 1)) n) (n + 1) 0 else kas_desc f p (n + 1) 0)
   else .ask (p.getD (n - 1) 0) (p.getD n 0) fun d => if d = true then .ret (p,n,q) else kas_desc f p (n + 1) (q + 1)).kasWp cmp Q s
  have hz:n <= p.size:=by rw [hp.size]; omega
  refine t_ask hc hp (by omega) (by omega) ?_
  cases hless:O.blt (kk key p n) (kk key p (n - 1)) with
  | true =>
   rw [if_pos rfl]
   have step1:∀ p':Array Nat,(∀ k,kk key p' k = kk key p k) -> Falls key p' (n + 1):=by
    intro p' hk i j hij hj
    rw [hk,hk]
    by_cases hjx:j < n
    ·exact hs i j hij hjx
    ·have hj':j = n:=by omega
     subst hj'
     by_cases hi':i = j
     ·subst hi'; exact KeyOrd.kle_refl _
     ·exact KeyOrd.kle_trans (KeyOrd.kle_of_klt hless) (hs i (j - 1) (by omega) (by omega))
   by_cases hneq:q > 0
   ·rw [if_pos hneq]
    exact t_desc hn f _ (n + 1) 0 (by omega) (hp.rev _ _) (step1 _ (kk_rev_equal hz he)) (by omega) (fun i a b => by congr 1; omega)
     fun p' m q' a => h p' m q' (by omega)
   ·rw [if_neg hneq]
    exact t_desc hn f p (n + 1) 0 (by omega) hp (step1 _ fun _ => rfl) (by omega) (fun i a b => by congr 1; omega) fun p' m q' a => h p' m q' (by omega)
  | false =>
   rw [if_neg (by simp)]
   refine t_ask hc hp (by omega) (by omega) ?_
   cases hlarger:O.blt (kk key p (n - 1)) (kk key p n) with
   | true =>
    rw [if_pos rfl]
    exact h p n q (Nat.le_refl _) (by omega) hp hs hq he
   | false =>
    rw [if_neg (by simp)]
    have heqx:kk key p n = kk key p (n - 1):=KeyOrd.kle_antisymm hlarger hless
    refine t_desc hn f p (n + 1) (q + 1) (by omega) hp (fun i j hij hj => ?_) (by omega) (fun i a b => ?_) fun p' m q' a => h p' m q' (by omega)
    ·by_cases hjx:j < n
     ·exact hs i j hij hjx
     ·have hj':j = n:=by omega
      subst hj'
      by_cases hi':i = j
      ·subst hi'; exact KeyOrd.kle_refl _
      ·rw [heqx]; exact hs i (j - 1) (by omega) (by omega)
    ·rw [show n + 1 - 1 = n by omega]
     by_cases hix:i = n
     ·subst hix; rfl
     ·rw [heqx]; exact he i (by omega) (by omega)
theorem t_descPart {p:Array Nat} {n nrem:Nat} {Q:Nat × Array Nat -> Shared -> Prop} (hp:PB N p) (hn:nrem <= N) (hnn:n + 1 <= nrem) (hs:Falls key p (n + 1))
  (h:∀ m p',PB N p' -> 1 <= m -> m <= nrem -> Rises key p' m -> Q (m,p') s):(kas_descPart n nrem p).kasWp cmp Q s:=by
 unfold kas_descPart
 rw [KasT.kasWp_bind]
 refine t_desc hc hn (nrem - (n + 1)) p (n + 1) 0 (by omega) hp hs (by omega) (fun i a b => by congr 1; omega) fun p' m q' hm1 hm2 hp' hs' hq he => ?_
 dsimp only
 have hz:m <= p'.size:=by rw [hp'.size]; omega
 by_cases hneq:q' > 0
 ·rw [if_pos hneq]
  refine t_tail3 hc (hp'.rev _ _) hn (by omega) hm2 (fun i j hij hj => ?_) h
  rw [kk_rev_equal hz he,kk_rev_equal hz he]
  exact hs' i j hij hj
 ·rw [if_neg hneq]
  exact t_tail3 hc hp' hn (by omega) hm2 hs' h
theorem t_count {p:Array Nat} {nrem:Nat} {Q:Nat × Array Nat -> Shared -> Prop} (hp:PB N p) (hn:nrem <= N) (h1:1 <= nrem)
  (h:∀ m p',PB N p' -> 1 <= m -> m <= nrem -> Rises key p' m -> Q (m,p') s):(kas_count nrem p).kasWp cmp Q s:=by
 unfold kas_count
 rw [KasT.kasWp_bind]
 refine t_asc hc hp hn (nrem - 1) 1 (by omega) (Nat.le_refl _) (fun i j hij hj => by have:i = j:=(by omega); subst this; exact KeyOrd.kle_refl _) fun n hn1 hn2 hsn hor => ?_
 by_cases hnn:n = nrem
 ·rw [if_pos (by simpa using hnn)]
  exact h n p hp hn1 hn2 hsn
 ·rw [if_neg (by simpa using hnn)]
  have hlt:O.klt (kk key p n) (kk key p (n - 1)):=hor.resolve_left hnn
  by_cases hgt:n > 1
  ·rw [if_pos hgt]
   refine t_ask hc hp (by omega) (by omega) ?_
   cases hrose:O.blt (kk key p 0) (kk key p (n - 1)) with
   | true =>
    rw [if_pos rfl]
    exact h n p hp hn1 hn2 hsn
   | false =>
    rw [if_neg (by simp)]
    have hsz:n <= p.size:=by rw [hp.size]; omega
    have hall:∀ k,0 <= k -> k < n -> kk key p k = kk key p (n - 1):=by
     intro k _ hk
     have a1:=hsn 0 k (by omega) hk
     have a2:=hsn k (n - 1) (by omega) (by omega)
     exact KeyOrd.kle_antisymm a2 (KeyOrd.kle_trans hrose a1)
    refine t_descPart hc (hp.rev _ _) hn (by omega) (fun i j hij hj => ?_) h
    rw [kk_rev_equal hsz hall,kk_rev_equal hsz hall]
    by_cases hjn:j < n
    ·rw [hall i (by omega) (by omega),hall j (by omega) hjn]; exact KeyOrd.kle_refl _
    ·have hj':j = n:=by omega
     subst hj'
     by_cases hi':i = j
     ·subst hi'; exact KeyOrd.kle_refl _
     ·rw [hall i (by omega) (by omega)]; exact KeyOrd.kle_of_klt hlt
  ·rw [if_neg hgt]
   have hn1':n = 1:=by omega
   subst hn1'
   refine t_descPart hc hp hn (by omega) (fun i j hij hj => ?_) h
   by_cases hi':i = j
   ·subst hi'; exact KeyOrd.kle_refl _
   ·have hi0:i = 0:=by omega
    have hj1:j = 1:=by omega
    subst hi0; subst hj1
    exact KeyOrd.kle_of_klt hlt
theorem t_place {p:Array Nat} {k:Nat} {Q:Nat -> Shared -> Prop} (hp:PB N p) (hk:k < N) (hs:Rises key p k):∀ (f l r:Nat),r - l <= f -> l <= r -> r <= k ->
  (∀ i,i < l -> O.kle (kk key p i) (kk key p k)) -> (∀ i,r <= i -> i < k -> O.klt (kk key p k) (kk key p i)) ->
  (∀ l,l <= k -> (∀ i,i < l -> O.kle (kk key p i) (kk key p k)) -> (∀ i,l <= i -> i < k -> O.klt (kk key p k) (kk key p i)) -> Q l s) -> (kas_place p k f l r).kasWp cmp Q s
 | 0,l,r,hf,hlr,hrk,hlo,hhi,h => by
  have:l = r:=by omega
  subst this
  exact h l hrk hlo hhi
 | f + 1,l,r,hf,hlr,hrk,hlo,hhi,h => by
  show (if l >= r then KasT.ret l else .ask (p.getD k 0) (p.getD ((l + r) / 2) 0) fun c => if c = true then kas_place p k f l ((l + r) / 2) else kas_place p k f ((l + r) / 2 + 1) r).kasWp cmp Q s
  by_cases hge:l >= r
  ·rw [if_pos hge]
   have:l = r:=by omega
   subst this
   exact h l hrk hlo hhi
  ·rw [if_neg hge]
   refine t_ask hc hp hk (by omega) ?_
   cases hless:O.blt (kk key p k) (kk key p ((l + r) / 2)) with
   | true =>
    rw [if_pos rfl]
    exact t_place hp hk hs f l ((l + r) / 2) (by omega) (by omega) (by omega) hlo (fun i a b => KeyOrd.klt_of_klt_of_kle hless (hs _ _ a b)) h
   | false =>
    rw [if_neg (by simp)]
    exact t_place hp hk hs f ((l + r) / 2 + 1) r (by omega) (by omega) (by omega) (fun i a => KeyOrd.kle_trans (hs i ((l + r) / 2) (by omega) (by omega)) (show O.kle _ _ from hless)) hhi h
theorem t_bin {Q:Array Nat -> Shared -> Prop}:∀ (f:Nat) (p:Array Nat) (k:Nat),k + f = N -> PB N p -> Rises key p k -> (∀ p',PB N p' -> Rises key p' N -> Q p' s) -> (kas_bin f p k).kasWp cmp Q s
 | 0,p,k,e,hp,hs,h => by
  have:k = N:=by omega
  subst this
  exact h p hp hs
 | f + 1,p,k,e,hp,hs,h => by
  show ((kas_place p k k 0 k).bind fun l => kas_bin f (bubble p k (k - l)) (k + 1)).kasWp cmp Q s
  rw [KasT.kasWp_bind]
  refine t_place hc hp (by omega) hs k 0 k (by omega) (by omega) (by omega) (fun i a => by omega) (fun i a b => by omega) fun l hl hlo hhi => ?_
  refine t_bin f _ (k + 1) (by omega) (hp.bub _ _) (fun i j hij hj => ?_) h
  have hks:k < p.size:=by rw [hp.size]; omega
  rw [kk_bubble hks (by omega),kk_bubble hks (by omega),show k - (k - l) = l by omega]
  repeat' split
  all_goals first
   | (exfalso; omega)
   | exact KeyOrd.kle_refl _
   | exact hlo _ (by omega)
   | exact KeyOrd.kle_of_klt (hhi _ (by omega) (by omega))
   | exact hs _ _ (by omega) (by omega)
theorem t_sort {Q:Array Nat -> Shared -> Prop} (h1:1 <= N) (h:∀ p,PB N p -> Rises key p N -> Q p s):(kas_sort N).kasWp cmp Q s:=by
 unfold kas_sort
 rw [KasT.kasWp_bind]
 refine t_count hc (Array.Perm.refl _) (Nat.le_refl _) h1 fun m p' hp' hm1 hm2 hs' => ?_
 dsimp only
 by_cases hlt:m < N
 ·rw [if_pos hlt,show max m 1 = m by omega]
  exact t_bin hc _ _ _ (by omega) hp' hs' h
 ·rw [if_neg hlt]
  have:m = N:=by omega
  subst this
  exact h p' hp' hs'
end
end L2.Srt
namespace L2.Srt
open PySem PyProof.Rows
theorem lex_irrefl:∀ a:List Int,HT.lexLt a a = false
 | [] => rfl
 | x :: r => by rw [HT.lexLt_cons,if_pos rfl]; exact lex_irrefl r
theorem lex_trans:∀ a b c:List Int,HT.lexLt a b = true -> HT.lexLt b c = true -> HT.lexLt a c = true
 | [],[],_,h,_ => by cases h
 | [],_ :: _,[],_,h => by cases h
 | [],_ :: _,_ :: _,_,_ => rfl
 | _ :: _,[],_,h,_ => by cases h
 | _ :: _,_ :: _,[],_,h => by cases h
 | x :: a,y :: b,z :: c,h1,h2 => by
  rw [HT.lexLt_cons] at h1 h2 ⊢
  by_cases e1:x = y
  ·rw [if_pos e1] at h1
   by_cases e2:y = z
   ·rw [if_pos e2] at h2
    rw [if_pos (e1.trans e2)]
    exact lex_trans a b c h1 h2
   ·rw [if_neg e2] at h2
    rw [if_neg (fun q => e2 (e1.symm.trans q)),e1]
    exact h2
  ·rw [if_neg e1] at h1
   have q1:=of_decide_eq_true h1
   by_cases e2:y = z
   ·rw [if_neg (fun q => e1 (q.trans e2.symm)),<- e2]
    exact h1
   ·rw [if_neg e2] at h2
    have q2:=of_decide_eq_true h2
    rw [if_neg (by omega)]
    exact decide_eq_true (by omega)
theorem lex_total:∀ a b:List Int,HT.lexLt a b = false -> HT.lexLt b a = false -> a = b
 | [],[],_,_ => rfl
 | [],_ :: _,h,_ => by cases h
 | _ :: _,[],_,h => by cases h
 | x :: a,y :: b,h1,h2 => by
  rw [HT.lexLt_cons] at h1 h2
  by_cases e:x = y
  ·rw [if_pos e] at h1
   rw [if_pos e.symm] at h2
   rw [e,lex_total a b h1 h2]
  ·rw [if_neg e] at h1
   rw [if_neg (fun q => e q.symm)] at h2
   have q1:=of_decide_eq_false h1
   have q2:=of_decide_eq_false h2
   omega
theorem lex_neg (a b c:List Int) (h:HT.lexLt a c = true):HT.lexLt a b = true \/ HT.lexLt b c = true:=by
 cases h1:HT.lexLt a b with
 | true => exact .inl rfl
 | false =>
  cases h2:HT.lexLt b a with
  | true => exact .inr (lex_trans b a c h2 h)
  | false => rw [lex_total a b h1 h2] at h; exact .inr h
noncomputable def lexOrd:KeyOrd:=⟨List Int,HT.lexLt,lex_irrefl,lex_trans,lex_neg,lex_total⟩
noncomputable def intOrd:KeyOrd:=⟨Int,fun a b => decide (a < b),fun a => decide_eq_false (by omega),fun a b c h1 h2 => decide_eq_true (by have:=of_decide_eq_true h1; have:=of_decide_eq_true h2; omega),
 fun a b c h => by
  have:=of_decide_eq_true h
  by_cases q:a < b
  ·exact .inl (decide_eq_true q)
  ·exact .inr (decide_eq_true (by omega)),
 fun a b h1 h2 => by have:=of_decide_eq_false h1; have:=of_decide_eq_false h2; omega⟩
section
variable (O:KeyOrd)
noncomputable def insO (x:O.α):List O.α -> List O.α
 | [] => [x]
 | y :: r => if O.blt y x then y :: insO x r else x :: y :: r
noncomputable def sortO:List O.α -> List O.α
 | [] => []
 | x :: r => insO O x (sortO r)
theorem insO_perm (x:O.α):∀ l,(insO O x l).Perm (x :: l)
 | [] => .refl _
 | y :: r => by
  show (if O.blt y x then y :: insO O x r else x :: y :: r).Perm _
  split
  ·exact (List.Perm.cons y (insO_perm x r)).trans (.swap x y r)
  ·exact .refl _
theorem sortO_perm:∀ l,(sortO O l).Perm l
 | [] => .refl _
 | x :: r => (insO_perm O x _).trans (.cons x (sortO_perm r))
theorem insO_rises (x:O.α):∀ l:List O.α,l.Pairwise O.kle -> (insO O x l).Pairwise O.kle
 | [],_ => List.pairwise_singleton _ _
 | y :: r,h => by
  show (if O.blt y x then y :: insO O x r else x :: y :: r).Pairwise O.kle
  obtain ⟨h1,h2⟩:=List.pairwise_cons.mp h
  by_cases q:O.blt y x = true
  ·rw [if_pos q]
   refine List.pairwise_cons.mpr ⟨fun z hz => ?_,insO_rises x r h2⟩
   rcases List.mem_cons.mp ((insO_perm O x r).mem_iff.mp hz) with e | e
   ·rw [e]; exact KeyOrd.kle_of_klt q
   ·exact h1 z e
  ·rw [if_neg q]
   have q':O.kle x y:=Bool.eq_false_iff.mpr q
   refine List.pairwise_cons.mpr ⟨fun z hz => ?_,h⟩
   rcases List.mem_cons.mp hz with e | e
   ·rw [e]; exact q'
   ·exact KeyOrd.kle_trans q' (h1 z e)
theorem sortO_rises:∀ l,(sortO O l).Pairwise O.kle
 | [] => List.Pairwise.nil
 | x :: r => insO_rises O x _ (sortO_rises r)
theorem rises_unique:∀ {a b:List O.α},a.Perm b -> a.Pairwise O.kle -> b.Pairwise O.kle -> a = b
 | [],b,p,_,_ => p.nil_eq
 | x :: a,[],p,_,_ => by have:=p.length_eq; simp at this
 | x :: a,y :: b,p,ha,hb => by
  obtain ⟨a1,a2⟩:=List.pairwise_cons.mp ha
  obtain ⟨b1,b2⟩:=List.pairwise_cons.mp hb
  have e:x = y:=by
   have hx:x ∈ y :: b:=p.mem_iff.mp (.head _)
   have hy:y ∈ x :: a:=p.mem_iff.mpr (.head _)
   rcases List.mem_cons.mp hx with q | q
   ·exact q
   ·rcases List.mem_cons.mp hy with q' | q'
    ·exact q'.symm
    ·exact KeyOrd.kle_antisymm (a1 y q') (b1 x q)
  subst e
  rw [rises_unique (p.cons_inv) a2 b2]
theorem eq_sortO {a l:List O.α} (p:a.Perm l) (h:a.Pairwise O.kle):a = sortO O l:=rises_unique O (p.trans (sortO_perm O l).symm) h (sortO_rises O l)
end
theorem map_range {α:Type} (xs:List α) (d:α):(List.range xs.length).map (fun i => xs.getD i d) = xs:=by
 apply List.ext_getElem?
 intro i
 rw [List.getElem?_map]
 by_cases q:i < xs.length
 ·simp [List.getElem?_range,q]
 ·simp [List.getElem?_range,q]
theorem out_eq {O:KeyOrd} {d:O.α} {xs:List O.α} {p:Array Nat} (hp:PB xs.length p) (hr:Rises (fun i => xs.getD i d) p xs.length):p.toList.map (fun i => xs.getD i d) = sortO O xs:=by
 refine eq_sortO O ?_ ?_
 ·have h:=(Array.perm_iff_toList_perm.mp hp).map fun i => xs.getD i d
  have e:(List.map (fun i => xs.getD i d) (List.range xs.length).toArray.toList) = xs:=map_range xs d
  rw [e] at h
  exact h
 ·rw [List.pairwise_iff_getElem]
  intro i j hi hj hij
  rw [List.length_map,Array.length_toList] at hi hj
  have hz:=hp.size
  have q:=hr i j (Nat.le_of_lt hij) (by omega)
  simp only [List.getElem_map,Array.getElem_toList]
  have ei:p.getD i 0 = p[i]:=by simp [Array.getD,hi]
  have ej:p.getD j 0 = p[j]:=by simp [Array.getD,hj]
  unfold kk at q
  rw [ei,ej] at q
  exact q
end L2.Srt
namespace L2.Srt
open PySem PySem.W PySem.Calls PyProof.Rows
section
variable {prog:Program} {w:World} {A:Around} {E:Value -> Shared -> Prop} {s:Shared}
noncomputable def KOk (κ:SortKind):Prop:=κ = tuples' true \/ κ = general' \/ κ = oneType'
theorem list_sort_by {KO:SortKind -> Prop} {O:KeyOrd} {key:Nat -> O.α} {a:Addr} {vs:List Value} {n:Nat} {R:PySem.Fin -> Shared -> Prop} (ho:s.heap.get? a = some (seqObj "list" vs.toArray n)) (h64:vs.length < 64)
  (hk:2 <= vs.length -> ∀ (s':Shared) (Q:SortKind -> Shared -> Prop),(∀ b o,b ≠ a -> s.heap.get? b = some o -> s'.heap.get? b = some o) -> (∀ κ,KO κ -> Q κ s') -> wpAny (model prog w) A (keyKind' vs.toArray) Q (fun _ _ => False) s')
  (hc:∀ κ,KO κ -> ∀ (s':Shared) (i j:Nat) (C:Bool -> Shared -> Prop),(∀ b o,b ≠ a -> s.heap.get? b = some o -> s'.heap.get? b = some o) -> i < vs.length -> j < vs.length -> C (O.blt (key i) (key j)) s' ->
   wpAny (model prog w) A (keyLt' κ (vs.getD i Value.none) (vs.getD j Value.none)) C (fun _ _ => False) s')
  (h:∀ p:Array Nat,PB vs.length p -> Rises key p vs.length -> R (.done (.ret .none)) { s with heap:=sortedHeap s.heap a vs (p.toList.map fun i => vs.getD i Value.none).toArray }) :
  wpAny (model prog w) A (Builtin.«list.sort» ⟨[.ref a],[]⟩) R E s:=by
 rw [list_sort_plain]
 have ha:a < s.heap.objs.size:=Heap.lt_size ho
 refine wpAny_bind (listItems_at ho rfl ?_)
 refine wpAny_bind (listUpdate_at ho rfl ?_ (by rw [List.size_toArray,sizeLine_eq]; omega) (Nat.zero_le _))
 obtain ⟨e1,ho1⟩:∃ e1,(s.heap.update a (Obj.mapSeq fun _ => (#[]:Array Value))).get? a = some (seqObj "list" #[] e1):=⟨_,get?_update_seq ho fun _ => #[]⟩
 refine wpAny_bind (seqEpoch_at ho1 rfl ?_)
 refine wpAny_bind (wpAny_newTuple ?_ (by show vs.length <= _; rw [sizeLine_eq]; omega))
 refine wpAny_bind (wpAny_newList ?_ (Nat.zero_le _))
 refine wpAny_holding ?_
 have ho6:(((s.heap.update a (Obj.mapSeq fun _ => (#[]:Array Value))).push (seqObj "tuple" vs.toArray 0)).push (seqObj "list" #[] 0)).get? a = some (seqObj "list" #[] e1):=Heap.get?_push_of_some _ (Heap.get?_push_of_some _ ho1)
 have kp:∀ b o,b ≠ a -> s.heap.get? b = some o -> (((s.heap.update a (Obj.mapSeq fun _ => (#[]:Array Value))).push (seqObj "tuple" vs.toArray 0)).push (seqObj "list" #[] 0)).get? b = some o:=fun b o hb e =>
  Heap.get?_push_of_some _ (Heap.get?_push_of_some _ ((Heap.get?_update_other _ _ (Ne.symm hb)).trans e))
 show wpAny (model prog w) A _ R E { s with heap:=((s.heap.update a (Obj.mapSeq fun _ => (#[]:Array Value))).push (seqObj "tuple" vs.toArray 0)).push (seqObj "list" #[] 0) }
 dsimp only
 have hsz:vs.toArray.size = vs.length:=by simp
 by_cases h2:vs.toArray.size < 2
 ·rw [if_pos h2,if_pos h2]
  refine wpAny_bind (wpAny_pure ?_)
  rw [StateT.run_pure]
  refine wpAny_bind (wpAny_pure ?_)
  dsimp only
  refine wpAny_bind (seqEpoch_at ho6 rfl ?_)
  refine wpAny_bind (listUpdate_at ho6 rfl ?_ (Nat.zero_le _) (by rw [Array.size_map]; show (pairsOf vs).size <= _; rw [pairsOf_size,sizeLine_eq]; omega))
  simp only [bne_self_eq_false,Bool.false_eq_true,if_false]
  have e:((arrOf (SortSt.mk' general' (vs.toArray.zip vs.toArray) #[] 7 none)).map (·.2)) = ((List.range vs.length).toArray.toList.map fun i => vs.getD i Value.none).toArray:=by
   have e2:(arrOf (SortSt.mk' general' (vs.toArray.zip vs.toArray) #[] 7 none)) = vs.toArray.zip vs.toArray:=rfl
   rw [e2]
   apply Array.toList_inj.mp
   rw [map_range]
   simp [List.map_snd_zip]
  refine wpAny_pure ?_
  have q:=h (List.range vs.length).toArray (Array.Perm.refl _) (fun i j hij hj => by
   have:i = j:=by omega
   subst this; exact KeyOrd.kle_refl _)
  rw [<- e] at q
  exact q
 ·rw [if_neg h2,if_neg h2]
  have h2':2 <= vs.length:=by omega
  refine wpAny_bind (wpAny_mono (hk h2' _ (fun κ s0 => KO κ /\ s0 = { s with heap:=((s.heap.update a (Obj.mapSeq fun _ => (#[]:Array Value))).push (seqObj "tuple" vs.toArray 0)).push (seqObj "list" #[] 0) }) kp fun κ hκ => ⟨hκ,rfl⟩) (fun κ s0 hκ => ?_) fun _ _ x => x.elim)
  obtain ⟨hκ,rfl⟩:=hκ
  refine wpAny_bind (wpAny_mono (kat_run (Q:=fun st' s' => ∃ p:Array Nat,p.size = vs.length /\ arrOf st' = p.map (kas_item (vs.toArray.zip vs.toArray)) /\ failedOf st' = none /\ PB vs.length p /\ Rises key p vs.length /\ s' = { s with heap:=((s.heap.update a (Obj.mapSeq fun _ => (#[]:Array Value))).push (seqObj "tuple" vs.toArray 0)).push (seqObj "list" #[] 0) })
   (G:=fun p s' => PB vs.length p /\ Rises key p vs.length /\ s' = { s with heap:=((s.heap.update a (Obj.mapSeq fun _ => (#[]:Array Value))).push (seqObj "tuple" vs.toArray 0)).push (seqObj "list" #[] 0) })
   rfl h2' h64 (fun p' st' s' a1 a2 a3 a4 => ⟨p',a1,a2,a3,a4⟩)
   (t_sort (key:=key) (fun i j C hi hj q => hc κ hκ _ i j C kp hi hj q) (by omega) fun p hp hr => ⟨hp,hr,rfl⟩)) ?_ fun _ _ e => e)
  rintro ⟨⟨⟩,st'⟩ s' ⟨p,hp,har,hf,hpb,hrs,rfl⟩
  dsimp only
  have hout:=kat_snds rfl har
  refine wpAny_bind (seqEpoch_at ho6 rfl ?_)
  refine wpAny_bind (listUpdate_at ho6 rfl ?_ (Nat.zero_le _) (by rw [hout]; refine Nat.le_trans (Nat.le_of_eq ?_) (show vs.length <= _ by rw [sizeLine_eq]; omega); simp [hp]))
  rw [hf,hout]
  simp only [bne_self_eq_false,Bool.false_eq_true,if_false]
  exact wpAny_pure (h p hpb hrs)
theorem katlex_ints {fin:Bool} {C:Bool -> Shared -> Prop}:∀ {vs ws:List Value} {ns ms:List Int} (i:Nat),IntsAre vs ns -> IntsAre ws ms -> fin = decide (ns.length < ms.length) -> C (HT.lexLt ns ms) s -> KatLex prog w A true fin C (vs.zip ws) i s
 | _,_,_,_,i,.nil,.nil,hf,h => by
  rw [List.zip_nil_left]
  refine kat_nil ?_
  rw [hf]
  exact h
 | _,_,_,_,i,.nil,.cons c u hw,hf,h => by
  rw [List.zip_nil_left]
  refine kat_nil ?_
  rw [hf,decide_eq_true (by simp)]
  exact h
 | _,_,_,_,i,.cons a t hv,.nil,hf,h => by
  rw [List.zip_nil_right]
  refine kat_nil ?_
  rw [hf,decide_eq_false (by simp)]
  exact h
 | _,_,_,_,i,.cons (ns:=ns) a t hv,.cons (ns:=ms) c u hw,hf,h => by
  rw [List.zip_cons_cons]
  rw [HT.lexLt_cons] at h
  refine kat_cons (wpAny_eqBool_int ?_)
  by_cases e:a = c
  ·rw [if_pos e] at h
   have q:(a == c) = true:=by rw [e]; exact beq_self_eq_true c
   rw [q]
   refine kat_yes (katlex_ints (i + 1) hv hw ?_ h)
   rw [hf]
   simp
  ·rw [if_neg e] at h
   have q:(a == c) = false:=beq_eq_false_iff_ne.mpr e
   rw [q]
   refine kat_no ?_
   cases i with
   | zero => exact oneLt_int h
   | succ i => exact kat_one _ _ (lt_int h)
theorem lt_tups {κ:SortKind} (hk:KOk κ) {a b:Addr} {its its2:Array Value} {ns ms:List Int} {C:Bool -> Shared -> Prop} (ha:IsTup s.heap a its) (hb:IsTup s.heap b its2) (hi:IntsAre its.toList ns) (hj:IntsAre its2.toList ms)
  (hu:A.units < cLine) (h:C (HT.lexLt ns ms) s):wpAny (model prog w) A (keyLt' κ (.ref a) (.ref b)) C E s:=by
 rcases hk with rfl | rfl | rfl
 ·obtain ⟨o,ho,_,n,hd⟩:=id ha
  obtain ⟨o2,ho2,_,n2,hd2⟩:=id hb
  refine kat_lt ho hd ho2 hd2 (katlex_ints 0 hi hj ?_ h)
  have z1:its.size = ns.length:=by rw [<- hi.length]; simp
  have z2:its2.size = ms.length:=by rw [<- hj.length]; simp
  rw [z1,z2]
 ·show wpAny _ _ (oneLt' false (.ref a) (.ref b)) _ _ _
  exact kat_one _ _ (HT.lt_tupInts ha hb hi hj hu h)
 ·rw [keyLt'_oneType,oneLt'_eq]
  simp only [if_true]
  refine wpAny_bind (wpAny_cRoomFor hu ?_)
  obtain ⟨⟨cls,dd,data,sl⟩,ho,hc,n,hd⟩:=id ha
  obtain ⟨⟨cls2,dd2,data2,sl2⟩,ho2,hc2,n2,hd2⟩:=id hb
  simp only at hc hd hc2 hd2
  subst hc hd hc2 hd2
  refine wpAny_bind (wpAny_callSpecialIfBound?_slot (T:="tuple") ⟨_,ho,rfl⟩ PySem.F.slot_tuple_lt (call_meets PySem.F.slot_tuple_lt (T:="tuple") ⟨_,ho,rfl⟩ PySem.F.entry_tuple_lt (PySem.F.args_tuple_lt_2 _ _) (HT.tuple_lt_ints a b its its2 n n2 dd dd2 sl sl2 ns ms hi hj) ⟨ho,ho2,?_⟩))
  exact wpAny_truthy_bool h
theorem firsts_tups:∀ (vs:List Value) {Q:List (Option Value) -> Shared -> Prop},(∀ v ∈ vs,∃ a its ns,v = .ref a /\ IsTup s.heap a its /\ IntsAre its.toList ns) ->
  (∀ fs:List (Option Value),fs.length = vs.length -> (∀ f ∈ fs,∀ v,f = some v -> ∃ n t,v = Value.int n t) -> Q fs s) -> wpAny (model prog w) A (vs.mapM firstOfTuple') Q E s
 | [],Q,_,h => by rw [List.mapM_nil]; exact wpAny_pure (h [] rfl (by simp))
 | v :: vs,Q,hv,h => by
  obtain ⟨a,its,ns,rfl,⟨o,ho,hc,n,hd⟩,hi⟩:=hv v (.head _)
  rw [List.mapM_cons]
  refine wpAny_bind ?_
  rw [kas_first_eq]
  refine wpAny_bind (Looks.here (show Looks (model prog w) s.heap (typeOf (.ref a)) o.cls from (Looks.ld ho).andThen .now) ?_)
  rw [hc,if_neg (by first | decide | simp)]
  refine wpAny_bind (listItems_at ho hd (wpAny_pure ?_))
  refine wpAny_bind (firsts_tups vs (Q:=fun bs s' => wpAny (model prog w) A (pure (its[0]? :: bs)) Q E s') (fun u hu => hv u (.tail _ hu)) fun fs hl hf => ?_)
  refine wpAny_pure (h _ (by simp [hl]) fun f hm u e => ?_)
  rcases List.mem_cons.mp hm with z | z
  ·rw [z] at e
   have hmem:u ∈ its.toList:=by
    rw [<- Array.getElem?_toList] at e
    exact List.mem_of_getElem? e
   exact hi.all u hmem
  ·exact hf f z u e
theorem kind_tups {vs:List Value} {Q:SortKind -> Shared -> Prop} (h2:2 <= vs.length) (hv:∀ v ∈ vs,∃ a its ns,v = .ref a /\ IsTup s.heap a its /\ IntsAre its.toList ns) (h:∀ κ,KOk κ -> Q κ s) :
  wpAny (model prog w) A (keyKind' vs.toArray) Q E s:=by
 rw [kat_kind_eq,List.mapM_toArray,map_eq_pure_bind]
 refine wpAny_bind (wpAny_bind (firsts_tups vs hv fun fs hl hf => wpAny_pure ?_))
 by_cases hall:(fs.toArray.all fun x => x.isSome) = true
 ·rw [if_pos hall]
  refine wpAny_bind (wpAny_rule ?_)
  have hfm:(fs.toArray.filterMap id) = (fs.filterMap id).toArray:=by simp
  rw [hfm,oneTypeOnly'_eq,List.mapM_toArray,map_eq_pure_bind]
  have hints:∀ v ∈ fs.filterMap id,∃ n t,v = Value.int n t:=fun v hm => by
   obtain ⟨f,hm',e⟩:=List.mem_filterMap.mp hm
   exact hf f hm' v e
  have hne:0 < (fs.filterMap id).length:=by
   match fs,hl,hall with
   | [],hl,_ => simp at hl; omega
   | f :: r,_,hall =>
    have:f.isSome = true:=by simp at hall; exact hall.1
    obtain ⟨u,rfl⟩:=Option.isSome_iff_exists.mp this
    simp
  refine wpAny_bind (wpAny_bind (wpAny_bind (kas_mapM (r:=Value.type "int") _ (fun v hm Q' hq => ?_) (wpAny_pure ?_))))
  ·obtain ⟨n,t,rfl⟩:=hints v hm
   exact wpAny_pure hq
  ·have h0:(List.map (fun _ => Value.type "int") (fs.filterMap id)).toArray[0]? = some (Value.type "int"):=by
    simp [hne]
   rw [h0]
   have hall2:((List.map (fun _ => Value.type "int") (fs.filterMap id)).toArray.all fun x => x == Value.type "int") = true:=by
    simp only [List.all_toArray,List.all_map,List.all_eq_true]
    intro _ _
    rfl
   simp only [hall2,if_true]
   exact wpAny_pure (wpAny_pure (h _ (.inl rfl)))
 ·rw [if_neg hall]
  by_cases hf0:((fs.toArray[0]?).bind id).isSome = true
  ·rw [if_pos hf0]
   exact wpAny_pure (h _ (.inr (.inl rfl)))
  ·rw [if_neg hf0]
   rw [oneTypeOnly'_eq,List.mapM_toArray,map_eq_pure_bind]
   refine wpAny_bind (wpAny_bind (wpAny_bind (kas_mapM (r:=Value.type "tuple") _ (fun v hm Q' hq => ?_) (wpAny_pure ?_))))
   ·obtain ⟨a,its,ns,rfl,⟨o,ho,hc,n,hd⟩,hi⟩:=hv v hm
    have q:Looks (model prog w) s.heap (typeOf (.ref a)) o.cls:=(Looks.ld ho).andThen .now
    rw [hc] at q
    exact q.here hq
   ·have h0:(List.map (fun _ => Value.type "tuple") vs).toArray[0]? = some (Value.type "tuple"):=by
     have:0 < vs.length:=by omega
     simp [this]
    rw [h0]
    have hall2:((List.map (fun _ => Value.type "tuple") vs).toArray.all fun x => x == Value.type "tuple") = true:=by
     simp only [List.all_toArray,List.all_map,List.all_eq_true]
     intro _ _
     rfl
    simp only [hall2,if_true]
    exact wpAny_pure (wpAny_pure (h _ (.inr (.inr rfl))))
end
end L2.Srt
namespace L2.St
open PySem PyProof.Rows
section
variable {P:Program} {w:World} {A:Around} {E:Value -> Shared -> Prop} {s:Shared}
theorem stop_here {v:Value} {vs:Array Value} {it:Addr} {Q:Option Value -> Shared -> Prop} (hh:A.handled = none) {R:Value -> Shared -> Prop}
  (hR:∀ e s',(∀ b o,s.heap.get? b = some o -> s'.heap.get? b = some o) -> (∃ h',s' = { s with heap:=h' }) -> s'.TypeIs e "StopIteration" -> R e s') {QQ:PySem.Fin -> Shared -> Prop} :
  wpAny (model P w) A (newExc (.type "StopIteration") [] >>= fun e => (raiseNew e:Sem PySem.Fin)) QQ R s:=by
 refine wpAny_bind ?_
 simp only [newExc,newTuple]
 refine wpAny_bind (wpAny_newObj_type ?_ (by size_fits))
 refine wpAny_bind (m:=firstArgMember _ _) (wpAny_of_eq (a:=Value.none) (by first | rfl | (simp only [firstArgMember]; rfl)) ?_)
 refine wpAny_newObj_type ?_ (by size_fits)
 simp only [raiseNew]
 refine wpAny_bind (wpAny_handled ?_)
 rw [hh]
 refine wpAny_bind (wpAny_pure (wpAny_throw ?_))
 exact hR _ _ (fun b o e => Heap.get?_push_of_some _ (Heap.get?_push_of_some _ e)) ⟨_,rfl⟩ ⟨_,Heap.get?_push_size _ rfl,rfl⟩
end
end L2.St
namespace L2
open PySem PySem.Spec PyProof.Rows
noncomputable def relS (scope osc:Scope):Scope :=
 { scope with names:=scope.names.map fun (n,k) => if (k == .free && osc.kind == .function && osc.names.lookup n == some .cell) then (n,.cell) else (n,k) }
noncomputable def relK (osc:Scope) (n:Str) (k:NameKind):NameKind:=if (k == .free && osc.kind == .function && osc.names.lookup n == some .cell) then .cell else k
theorem relS_names (scope osc:Scope):(relS scope osc).names = scope.names.map fun q => (q.1,relK osc q.1 q.2):=by
 show List.map _ scope.names = _
 refine List.map_congr_left fun q _ => ?_
 obtain ⟨n,k⟩:=q
 show (if (k == NameKind.free && osc.kind == .function && osc.names.lookup n == some .cell) = true then (n,NameKind.cell) else (n,k)) = (n,relK osc n k)
 unfold relK
 split <;> rfl
theorem lookup_mapG {α β:Type} (g:Str -> α -> β) (y:Str):∀ names:List (Str × α),(names.map fun q => (q.1,g q.1 q.2)).lookup y = (names.lookup y).map (g y)
 | [] => rfl
 | (n,k) :: r => by
  rw [List.map_cons]
  cases hx:y == n with
  | true =>
   simp only [List.lookup_cons,hx,Option.map_some]
   rw [eq_of_beq hx]
  | false =>
   simp only [List.lookup_cons,hx]
   exact lookup_mapG g y r
theorem relK_free (osc:Scope) (n:Str):relK osc n .free = .cell \/ relK osc n .free = .free:=by
 unfold relK
 split
 ·exact .inl rfl
 ·exact .inr rfl
theorem relK_back {osc:Scope} {n:Str} {k:NameKind} (hk:k ≠ .cell) (h:relK osc n k = .cell \/ relK osc n k = .free):k = .free:=by
 unfold relK at h
 by_cases hc:(k == NameKind.free && osc.kind == .function && osc.names.lookup n == some .cell) = true
 ·simp only [Bool.and_eq_true] at hc
  exact eq_of_beq hc.1.1
 ·rw [if_neg hc] at h
  rcases h with h | h
  ·exact absurd h hk
  ·exact h
theorem lookup_mem {α:Type} {y:Str} {k:α}:∀ {l:List (Str × α)},l.lookup y = some k -> (y,k) ∈ l
 | [],h => by simp at h
 | (n,k') :: r,h => by
  cases hx:y == n with
  | true =>
   simp only [List.lookup_cons,hx] at h
   rw [eq_of_beq hx,Option.some.inj h]; exact .head _
  | false =>
   simp only [List.lookup_cons,hx] at h
   exact .tail _ (lookup_mem h)
theorem relS_free {scope osc:Scope} {y:Str} (h:scope.names.lookup y = some .free):(relS scope osc).names.lookup y = some .cell \/ (relS scope osc).names.lookup y = some .free:=by
 rw [relS_names,lookup_mapG,h,Option.map_some]
 rcases relK_free osc y with e | e
 ·exact .inl (by rw [e])
 ·exact .inr (by rw [e])
theorem relS_back {scope osc:Scope} {x y:Str} (hn:∀ z ∈ scope.names,z.2 = .cell -> z.1 = x) (h:(relS scope osc).names.lookup y = some .cell \/ (relS scope osc).names.lookup y = some .free):(y,NameKind.free) ∈ scope.names \/ (y = x /\ scope.names.lookup x = some .cell):=by
 rw [relS_names,lookup_mapG] at h
 cases e:scope.names.lookup y with
 | none => rw [e] at h; rcases h with h | h <;> cases h
 | some k =>
  rw [e,Option.map_some] at h
  have hm:=lookup_mem e
  by_cases hc:k = .cell
  ·subst hc
   have q:y = x:=hn _ hm rfl
   exact .inr ⟨q,by rw [<- q]; exact e⟩
  ·have hk:k = .free:=relK_back hc (h.elim (fun z => .inl (Option.some.inj z)) fun z => .inr (Option.some.inj z))
   rw [hk] at hm
   exact .inl hm
theorem relS_cell {scope osc:Scope} {y:Str} (h:scope.names.lookup y = some .cell):(relS scope osc).names.lookup y = some .cell:=by
 rw [relS_names,lookup_mapG,h,Option.map_some]
 unfold relK
 split
 ·rfl
 ·rfl
noncomputable def clOf (env:Env):List (Str × NameKind) -> List (Str × Addr) -> List (Str × Addr)
 | [],acc => acc
 | (n,k) :: r,acc => if k == .free then clOf env r ((n,(env.cells.lookup n).getD 0) :: acc) else clOf env r acc
theorem clOf_pure {env:Env}:∀ (names:List (Str × NameKind)) (acc:List (Str × Addr)),(∀ y ∈ names,y.2 = .free -> ∃ c,env.cells.lookup y.1 = some c) ->
  (forIn names acc fun x r => (match x with | (name,kind) => if (kind == NameKind.free) = true then do let c <- cellOf env name; pure (ForInStep.yield ((name,c) :: r)) else pure (ForInStep.yield r)):Sem (List (Str × Addr))) = pure (clOf env names acc)
 | [],acc,_ => rfl
 | (n,k) :: r,acc,h => by
  rw [List.forIn_cons]
  have hr:∀ y ∈ r,y.2 = .free -> ∃ c,env.cells.lookup y.1 = some c:=fun y hy => h y (.tail _ hy)
  by_cases hk:(k == NameKind.free) = true
  ·obtain ⟨c,hc⟩:=h (n,k) (.head _) (eq_of_beq hk)
   dsimp only
   rw [if_pos hk]
   have e1:cellOf env n = pure c:=by unfold cellOf; rw [hc]
   rw [e1]
   simp only [pure_bind]
   rw [clOf_pure r _ hr]
   show _ = pure (if (k == NameKind.free) = true then _ else _)
   rw [if_pos hk,hc]
   all_goals rfl
  ·dsimp only
   rw [if_neg hk]
   simp only [pure_bind]
   rw [clOf_pure r _ hr]
   show _ = pure (if (k == NameKind.free) = true then _ else _)
   rw [if_neg hk]
theorem closure_is {scope:Scope} {env:Env} (h:∀ y ∈ scope.names,y.2 = .free -> ∃ c,env.cells.lookup y.1 = some c):closureFor scope env = pure (clOf env scope.names []):=by
 unfold closureFor
 have:=clOf_pure (env:=env) scope.names [] h
 first
  | exact this
  | (rw [bind_pure]; exact this)
  | simpa using this
theorem clOf_sub {env:Env} {y:Str} {c:Addr}:∀ (names:List (Str × NameKind)) (acc:List (Str × Addr)),(∀ z ∈ names,z.2 = .free -> ∃ c,env.cells.lookup z.1 = some c) -> (∀ c,acc.lookup y = some c -> env.cells.lookup y = some c) ->
  (clOf env names acc).lookup y = some c -> env.cells.lookup y = some c
 | [],acc,_,ha,e => ha c e
 | (n,k) :: r,acc,h,ha,e => by
  have hr:∀ y ∈ r,y.2 = .free -> ∃ c,env.cells.lookup y.1 = some c:=fun y hy => h y (.tail _ hy)
  have e':(if (k == NameKind.free) = true then clOf env r ((n,(env.cells.lookup n).getD 0) :: acc) else clOf env r acc).lookup y = some c:=e
  by_cases hk:(k == NameKind.free) = true
  ·rw [if_pos hk] at e'
   refine clOf_sub r _ hr (fun c' q => ?_) e'
   cases hx:y == n with
   | true =>
    simp only [List.lookup_cons,hx] at q
    obtain ⟨c0,hc0⟩:=h (n,k) (.head _) (eq_of_beq hk)
    have en:y = n:=eq_of_beq hx
    have hc1:env.cells.lookup n = some c0:=hc0
    rw [hc1] at q
    rw [en,hc1]
    exact q
   | false =>
    simp only [List.lookup_cons,hx] at q
    exact ha c' q
  ·rw [if_neg hk] at e'
   exact clOf_sub r _ hr ha e'
theorem clOf_has {env:Env} {y:Str}:∀ (names:List (Str × NameKind)) (acc:List (Str × Addr)),((y,NameKind.free) ∈ names \/ ∃ c,acc.lookup y = some c) -> ∃ c,(clOf env names acc).lookup y = some c
 | [],acc,h => by
  rcases h with h | h
  ·simp at h
  ·exact h
 | (n,k) :: r,acc,h => by
  show ∃ c,(if (k == NameKind.free) = true then clOf env r ((n,(env.cells.lookup n).getD 0) :: acc) else clOf env r acc).lookup y = some c
  by_cases hk:(k == NameKind.free) = true
  ·rw [if_pos hk]
   refine clOf_has r _ ?_
   cases hx:y == n with
   | true => exact .inr ⟨(env.cells.lookup n).getD 0,by simp only [List.lookup_cons,hx]⟩
   | false =>
    rcases h with h | ⟨c,h⟩
    ·rcases List.mem_cons.mp h with z | z
     ·have:y = n:=(Prod.mk.inj z).1
      rw [this] at hx
      simp at hx
     ·exact .inl z
    ·exact .inr ⟨c,by simp only [List.lookup_cons,hx]; exact h⟩
  ·rw [if_neg hk]
   refine clOf_has r _ ?_
   rcases h with h | h
   ·rcases List.mem_cons.mp h with z | z
    ·have:NameKind.free = k:=(Prod.mk.inj z).2
     rw [<- this] at hk
     simp at hk
    ·exact .inl z
   ·exact .inr h
structure CompSc (osc:Scope) (N:List Str) (scope:Scope) (x:Str) (fvs:List Str) (js:List Nat):Prop where
 cells:∀ y ∈ scope.names,y.2 = .cell -> y.1 = x
 once:scope.names.lookup x = some .local /\ (scope.names.filter fun y => y.2 == .cell) = [] \/ scope.names.lookup x = some .cell /\ (scope.names.filter fun y => y.2 == .cell) = [(x,.cell)]
 xf:∀ y ∈ scope.names,y.2 = .free -> y.1 ≠ x
 kind:scope.kind = .function
 names:∀ y ∈ scope.names,y.2 = .local -> scope.names.lookup y.1 = some .local
 nd:(x :: fvs).Nodup
 out:∀ y ∈ scope.names,y.2 = .free -> osc.names.lookup y.1 = some .cell \/ osc.names.lookup y.1 = some .free
 slots:(js.map fun j => N[j]?) = fvs.map some
 free:∀ y ∈ fvs,scope.names.lookup y = some .free
structure CompScG (osc:Scope) (N:List Str) (scope:Scope) (x:Str) (ys fvs:List Str) (js:List Nat):Prop where
 cells:∀ y ∈ scope.names,y.2 = .cell -> y.1 = x
 once:scope.names.lookup x = some .local /\ (scope.names.filter fun y => y.2 == .cell) = [] \/ scope.names.lookup x = some .cell /\ (scope.names.filter fun y => y.2 == .cell) = [(x,.cell)]
 xf:∀ y ∈ scope.names,y.2 = .free -> y.1 ≠ x
 kind:scope.kind = .function
 names:∀ y ∈ scope.names,y.2 = .local -> scope.names.lookup y.1 = some .local
 nd:(x :: (ys ++ fvs)).Nodup
 out:∀ y ∈ scope.names,y.2 = .free -> osc.names.lookup y.1 = some .cell \/ osc.names.lookup y.1 = some .free
 slots:(js.map fun j => N[j]?) = fvs.map some
 free:∀ y ∈ fvs,scope.names.lookup y = some .free
theorem CompSc.g {osc:Scope} {N:List Str} {scope:Scope} {x:Str} {fvs:List Str} {js:List Nat} (h:CompSc osc N scope x fvs js):CompScG osc N scope x [] fvs js:=⟨h.cells,h.once,h.xf,h.kind,h.names,h.nd,h.out,h.slots,h.free⟩
noncomputable def ownC (scope:Scope) (x:Str) (C:Addr):List (Str × Addr):=if scope.names.lookup x = some .cell then [(x,C + 1)] else []
noncomputable def Cx.blk (X:Cx) (x:Str) (fvs:List Str) (scope:Scope) (s₁:Shared) (H₁:Hp) (C:Addr) (fp:List Addr):Cx :=
 { X with N:=x :: fvs,s₀:=s₁,H₀:=H₁,env:=compEnvC scope (ownC scope x C ++ clOf X.env scope.names []) C X.env,outer:=X.stack,ex:=fp,fn:=fun y => decide (y = x /\ scope.names.lookup x = some .cell),pn:=[],xe:=fun _ _ => False }
theorem cells_none {M:Model} {A:Around} {E:Value -> Shared -> Prop}:∀ {names:List (Str × NameKind)} {acc:List (Str × Addr)} {s:Shared} {Q:List (Str × Addr) -> Shared -> Prop},(names.filter fun y => y.2 == .cell) = [] -> Q acc s ->
  wpAny M A (forIn names acc fun x r => (match x with | (name,kind) => if (kind == NameKind.cell) = true then do let c <- alloc { cls:=.type "cell",data:=.cell none }; pure (ForInStep.yield ((name,c) :: r)) else pure (ForInStep.yield r)):Sem (List (Str × Addr))) Q E s
 | [],_,_,_,_,h => wpAny_pure h
 | (n,k) :: r,acc,s,Q,hf,h => by
  rw [List.forIn_cons]
  have hk:(k == NameKind.cell) = false:=by
   cases q:(k == NameKind.cell) with
   | false => rfl
   | true => rw [List.filter_cons_of_pos (by exact q)] at hf; cases hf
  rw [List.filter_cons_of_neg (by rw [hk]; decide)] at hf
  dsimp only
  rw [if_neg (by rw [hk]; decide)]
  exact wpAny_bind (wpAny_pure (cells_none hf h))
theorem cells_one {M:Model} {A:Around} {E:Value -> Shared -> Prop} {x:Str}:∀ {names:List (Str × NameKind)} {acc:List (Str × Addr)} {s:Shared} {Q:List (Str × Addr) -> Shared -> Prop},(names.filter fun y => y.2 == .cell) = [(x,.cell)] ->
  Q ((x,s.heap.objs.size) :: acc) { s with heap:=s.heap.push { cls:=.type "cell",data:=.cell none } } ->
  wpAny M A (forIn names acc fun x r => (match x with | (name,kind) => if (kind == NameKind.cell) = true then do let c <- alloc { cls:=.type "cell",data:=.cell none }; pure (ForInStep.yield ((name,c) :: r)) else pure (ForInStep.yield r)):Sem (List (Str × Addr))) Q E s
 | [],_,_,_,hf,_ => by cases hf
 | (n,k) :: r,acc,s,Q,hf,h => by
  rw [List.forIn_cons]
  dsimp only
  cases hk:(k == NameKind.cell) with
  | false =>
   rw [List.filter_cons_of_neg (by rw [hk]; decide)] at hf
   rw [if_neg (by decide)]
   exact wpAny_bind (wpAny_pure (cells_one hf h))
  | true =>
   rw [List.filter_cons_of_pos (by exact hk)] at hf
   obtain ⟨e1,e2⟩:=List.cons.inj hf
   cases e1
   rw [if_pos rfl]
   exact wpAny_bind (wpAny_bind (wpAny_alloc (wpAny_pure (cells_none e2 h))))
theorem newEnv_blk {M:Model} {A:Around} {E:Value -> Shared -> Prop} {scope:Scope} {x:Str} {globals:Addr} {cl:List (Str × Addr)} {qual:Str} {env:Env} {s:Shared} {Q:Env -> Shared -> Prop} (hk:scope.kind = .function)
  (ho:scope.names.lookup x = some .local /\ (scope.names.filter fun y => y.2 == .cell) = [] \/ scope.names.lookup x = some .cell /\ (scope.names.filter fun y => y.2 == .cell) = [(x,.cell)])
  (h:∀ h' m,h'.Ns s.heap.objs.size m -> (∀ b u,s.heap.get? b = some u -> h'.get? b = some u) -> (scope.names.lookup x = some .cell -> h'.IsCell (s.heap.objs.size + 1) none) -> Q (newEnv scope s.heap.objs.size globals (ownC scope x s.heap.objs.size ++ cl) qual none .none (some env) builtinsNs) { s with heap:=h' }) :
  wpAny M A (newFunctionEnv scope globals cl [] qual none .none (some env)) Q E s:=by
 rcases ho with ⟨h1,h2⟩ | ⟨h1,h2⟩
 ·refine wpAny_newFunctionEnv (fun y hy z => ?_) (by intro y hy; simp at hy) (fun h' hns hsb => ?_) hk
  ·have:y ∈ scope.names.filter fun y => y.2 == .cell:=List.mem_filter.mpr ⟨hy,by rw [z]; rfl⟩
   rw [h2] at this
   cases this
  ·have q:=h h' _ hns (fun b u e => hsb.extBut b u (Nat.ne_of_lt (Heap.lt_size e)) (Heap.get?_push_of_some _ e)) fun z => by rw [h1] at z; cases z
   unfold ownC at q
   rw [if_neg (by rw [h1]; simp)] at q
   exact q
 ·unfold newFunctionEnv
  refine wpAny_bind (wpAny_alloc (wpAny_bind (cells_one h2 ?_)))
  have hn:=Heap.Ns.new s.heap (.type "dict")
  have hs:(s.heap.push { cls:=.type "dict",data:=.dict #[] }).objs.size = s.heap.objs.size + 1:=Heap.size_push _ _
  have q:=h ((s.heap.push { cls:=.type "dict",data:=.dict #[] }).push { cls:=.type "cell",data:=.cell none }) _ (hn.keeps fun b o e => Heap.get?_push_of_some _ e) (fun b u e => Heap.get?_push_of_some _ (Heap.get?_push_of_some _ e)) fun _ => ⟨_,by rw [<- hs]; exact Heap.get?_push_size _ rfl,rfl⟩
  unfold ownC at q
  rw [if_pos h1] at q
  rw [<- hs] at q
  exact wpAny_bind (wpAny_pure (wpAny_pure q))
noncomputable def blk0 (js:List Nat) (σ:St):St:=none :: js.map fun j => (σ[j]?).join
noncomputable def blkG (n:Nat) (js:List Nat) (σ:St):St:=none :: (List.replicate n none ++ js.map fun j => (σ[j]?).join)
noncomputable def PF (X:Cx) (ifs:List Expr) (t:TT):Prop :=
 ∀ (pins:List (Addr × Obj)) (s:Shared) (σ:St) (H:Hp) (Q:Bool -> Hp -> Prop),Inv X pins σ H s -> t σ H Q ->
  wpAny (model X.prog X.w) X.A (forIn ifs true fun c r => if r = true then do let ok <- isTrue c X.env (eval c X.env); pure (ForInStep.yield ok) else pure (ForInStep.yield r)) (TP X pins σ Q) X.xe s
noncomputable def tYes:TT:=fun _ H Q => Q true H
theorem pf_nil {X:Cx}:PF X [] tYes:=fun _ _ _ H _ I h => wpAny_tests_nil ⟨H,I,h⟩
theorem pf_one {X:Cx} {c:Expr} {t:TT} (h:PT X c t):PF X [c] t:=fun pins s σ H Q I q => wpAny_tests_one (h pins s σ H Q I q)
section
variable {prog:Program} {w:World} {A:Around} {R:Result -> Shared -> Prop} {s:Shared}
theorem comp_loop {elt target iter:Expr} {ifs:List Expr} {scope:Scope} {pos:Pos} {it acc:Value} {env:Env} (J:Nat -> Shared -> Prop)
  (turn:∀ n s,J n s -> wpAny (model prog w) A (pyNext it) (fun r s1 => match r with
   | none => R (.ok .next) s1
   | some v => wpAny (model prog w) A (letOwnedTupleGo target it v) (fun _ s2 => wpAny (model prog w) A (assign target env v) (fun _ s3 =>
     wpAny (model prog w) A (forIn ifs true fun c r => if r = true then do let ok <- isTrue c env (eval c env); pure (ForInStep.yield ok) else pure (ForInStep.yield r)) (fun ok s4 =>
      if ok = true then wpAny (model prog w) A (eval elt env) (fun x s5 =>
       wpAny (model prog w) A (call (.builtin "list.append") [acc,x]) (fun _ s6 => ∃ m,m < n /\ J m s6) (fun _ _ => False) s5) (fun _ _ => False) s4
      else ∃ m,m < n /\ J m s4) (fun _ _ => False) s3) (fun _ _ => False) s2) (fun _ _ => False) s1) (fun _ _ => False) s)
  (n:Nat) (h:J n s):codeAny (model prog w) A (.compLoop (.ListComp elt [⟨target,iter,ifs,0⟩] scope pos) 0 it acc env) R s:=by
 have up:∀ {α:Type} {t:Sem α} {Q:α -> Shared -> Prop} {E:Value -> Shared -> Prop} {s:Shared},wpAny (model prog w) A t Q (fun _ _ => False) s -> wpAny (model prog w) A t Q E s:=fun q => wpAny_mono q (fun _ _ z => z) fun _ _ z => z.elim
 refine codeAny_loop rfl J (fun n s hJ => ?_) n h
 show wpAny _ A ((compTurn (.ListComp elt [⟨target,iter,ifs,0⟩] scope pos) 0 it acc env).onRaise (fun x => do noteFrame x env; theTreesLotGoes x)) _ _ s
 refine wpAny_noted ?_
 rw [compTurn_list]
 refine wpAny_bind (wpAny_standAt (wpAny_bind (wpAny_mono (up (turn n s hJ)) (fun r s1 h1 => ?_) fun _ _ z => z)))
 cases r with
 | none => exact wpAny_pure h1
 | some v =>
  refine wpAny_bind (wpAny_mono (up h1) (fun _ s2 h2 => ?_) fun _ _ z => z)
  refine wpAny_bind (wpAny_mono (up h2) (fun _ s3 h3 => wpAny_bind (wpAny_mono (up h3) (fun ok s4 h4 => ?_) fun _ _ z => z)) fun _ _ z => z)
  cases ok with
  | false => exact wpAny_pure ⟨rfl,h4⟩
  | true => exact wpAny_bind (wpAny_bind (wpAny_mono (up h4) (fun x s5 h5 => wpAny_bind (wpAny_mono (up h5) (fun _ s6 h6 => wpAny_pure (wpAny_pure ⟨rfl,h6⟩)) fun _ _ z => z)) fun _ _ z => z))
end
noncomputable def CompW (J:It) (σ0:St) (H1:Hp) (tt:TT) (te:TE) (D:Addr) (Q:VK):Prop :=
 ∃ W:Nat -> Nat -> St -> Hp -> Prop,(∃ m,W 0 m σ0 (upd H1 D (.lst []))) /\ ∀ i m σ' H',W i m σ' H' ->
  (J.stop i H' /\ Q (.ref D) H') \/ (J.go i H' /\ ∃ N:St -> Hp -> Prop,(∀ σ2 H2,N σ2 H2 -> ∃ m',m' < m /\ W (i + 1) m' σ2 H2) /\ ∀ x H2,J.yld i H' x H2 ->
   tt (σ'.set 0 (some x)) H2 fun b H3 => if b = true then te (σ'.set 0 (some x)) H3 fun y H4 => ∃ ys,H4 D = some (.lst ys) /\ ys.length < sizeLine /\ N (σ'.set 0 (some x)) (upd H4 D (.lst (ys ++ [y]))) else N (σ'.set 0 (some x)) H3)
noncomputable def CompWG (J:It) (g:TG) (σ0:St) (H1:Hp) (tt:TT) (te:TE) (D:Addr) (Q:VK):Prop :=
 ∃ W:Nat -> Nat -> St -> Hp -> Prop,(∃ m,W 0 m σ0 (upd H1 D (.lst []))) /\ ∀ i m σ' H',W i m σ' H' ->
  (J.stop i H' /\ Q (.ref D) H') \/ (J.go i H' /\ ∃ N:St -> Hp -> Prop,(∀ σ2 H2,N σ2 H2 -> ∃ m',m' < m /\ W (i + 1) m' σ2 H2) /\ ∀ x H2,J.yld i H' x H2 ->
   g x σ' H2 fun σ3 H3 => tt σ3 H3 fun b H4 => if b = true then te σ3 H4 fun y H5 => ∃ ys,H5 D = some (.lst ys) /\ ys.length < sizeLine /\ N σ3 (upd H5 D (.lst (ys ++ [y]))) else N σ3 H4)
theorem CompW.g {J:It} {σ0:St} {H1:Hp} {tt:TT} {te:TE} {D:Addr} {Q:VK} (h:CompW J σ0 H1 tt te D Q):CompWG J (gName 0) σ0 H1 tt te D Q:=h
noncomputable def tComp (wi:TI) (js:List Nat) (tt:TT) (te:TE):TE:=fun σ H Q => wi σ H fun J H1 => ∀ D,H1 D = none -> CompW J (blk0 js σ) H1 tt te D Q
section
variable {X:Cx} {elt iter:Expr} {x:Str} {px:Pos} {ifs:List Expr} {scope:Scope} {pos:Pos} {fvs:List Str} {js:List Nat} {wi:TI} {tt:TT} {te:TE}
theorem comp_coreG {tg:Expr} {g:TG} {ys:List Str} (hsc:CompScG X.env.scope X.N scope x ys fvs js) (hc:X.calm = true) (hg:∀ s₁ H₁ C fp,PG (X.blk x (ys ++ fvs) scope s₁ H₁ C fp) tg g)
  (ht:∀ s₁ H₁ C fp,PF (X.blk x (ys ++ fvs) scope s₁ H₁ C fp) ifs tt) (he:∀ s₁ H₁ C fp,PE (X.blk x (ys ++ fvs) scope s₁ H₁ C fp) elt te)
  {pins:List (Addr × Obj)} {σ:St} {H2:Hp} {s2:Shared} {Q:VK} {it:Addr} {fp:List Addr} {tn:Nat -> Heap -> Prop} {J:It} {RR:Value -> Addr -> Result -> Shared -> Prop}
  (I2:Inv X pins σ H2 s2) (T:Turn X.prog X.w X.K tg J fp it tn) (st2:tn 0 s2.heap) (f2:∀ b ∈ fp,FpOk X pins H2 b)
  (hh:∀ D,H2 D = none -> CompWG J g (blkG ys.length js σ) H2 tt te D Q)
  (fin:∀ (D C:Addr) (H':Hp) (s':Shared),Inv X pins σ H' s' -> (∃ m,s'.heap.Ns C m) -> H' C = none -> C ≠ X.env.locals -> X.s₀.heap.objs.size <= C -> (∀ y c,X.env.cells.lookup y = some c -> c ≠ C) -> (∀ p ∈ X.pn ++ pins,p.1 ≠ C) -> Q (.ref D) H' ->
   RR (.ref D) C (.ok .next) s') {E:Value -> Shared -> Prop} :
  wpAny (model X.prog X.w) X.A (newList []) (fun acc s3 => wpAny (model X.prog X.w) X.A (newFunctionEnv scope X.env.globals (clOf X.env scope.names []) [] X.env.qual none .none (some X.env)) (fun cenv s4 =>
   codeAny (model X.prog X.w) X.A (.compStart (.ListComp elt [⟨tg,iter,ifs,0⟩] scope pos) 0 (.ref it) acc { cenv with scope:=relabel scope X.env }) (RR acc cenv.locals) s4) E s3) E s2:=by
 have fr:∀ y ∈ scope.names,y.2 = .free -> ∃ c,X.env.cells.lookup y.1 = some c:=fun y hy hk => I2.ok.has y.1 (hsc.out y hy hk)
 have sub:∀ y c,(clOf X.env scope.names []).lookup y = some c -> X.env.cells.lookup y = some c:=fun y c e => clOf_sub scope.names [] fr (fun _ q => by simp at q) e
 refine wpAny_newObj_type (newEnv_blk (x:=x) hsc.kind hsc.once fun h1 m1 hns1 hsb1 hcl1 => ?_)
 dsimp only at hns1 hsb1 hcl1 ⊢
 have I3:Inv X pins σ (upd H2 s2.heap.objs.size (.lst [])) { s2 with heap:=s2.heap.push { cls:=.type "list",data:=.seq ([]:List Value).toArray },toks:=s2.toks }:=I2.lnew (ys:=[]) (its:=[]) .nil (Nat.zero_le _)
 generalize hG:s2.heap.push { cls:=.type "list",dict:=none,data:=.seq ([]:List Value).toArray } = G at hns1 hsb1 hcl1 I3 ⊢
 have hC:G.objs.size = s2.heap.objs.size + 1:=by rw [<- hG,Heap.size_push]
 obtain ⟨W,⟨m0,w0⟩,turn⟩:=hh s2.heap.objs.size I2.fresh
 have up:∀ b u,G.get? b = some u -> h1.get? b = some u:=hsb1
 have look:∀ {y:Str} {c:Addr},(ownC scope x G.objs.size ++ clOf X.env scope.names []).lookup y = some c -> (y = x /\ scope.names.lookup x = some .cell /\ c = G.objs.size + 1) \/ (clOf X.env scope.names []).lookup y = some c:=fun {y c} e => by
  unfold ownC at e
  by_cases q:scope.names.lookup x = some .cell
  ·rw [if_pos q] at e
   by_cases z:(y == x) = true
   ·rw [List.cons_append,List.lookup_cons,z] at e
    exact .inl ⟨eq_of_beq z,q,(Option.some.inj e).symm⟩
   ·rw [List.cons_append,List.lookup_cons,(Bool.not_eq_true _).mp z] at e
    exact .inr e
  ·rw [if_neg q] at e
   exact .inr e
 have Cfr:∀ {H':Hp} {s':Shared},Inv X pins σ H' s' -> True:=fun _ => trivial
 have nC:(upd H2 s2.heap.objs.size (.lst [])) G.objs.size = none:=I3.hok.fresh (Nat.le_refl _)
 have cL:G.objs.size ≠ X.env.locals:=Nat.ne_of_gt I3.lt
 have cS:X.s₀.heap.objs.size <= G.objs.size:=I3.sz
 have cC:∀ y c,X.env.cells.lookup y = some c -> c ≠ G.objs.size:=fun y c e z => by
  obtain ⟨v,q⟩:=I3.cell y c e
  exact absurd (show c < G.objs.size from q.lt) (by rw [z]; exact Nat.lt_irrefl _)
 have cP:∀ p ∈ X.pn ++ pins,p.1 ≠ G.objs.size:=fun p hp z => absurd (show p.1 < G.objs.size from Heap.lt_size (I3.pin p hp).1) (by rw [z]; exact Nat.lt_irrefl _)
 have fpl:∀ b ∈ fp,b < s2.heap.objs.size:=fun b hb => by
  obtain ⟨o,e,_⟩:=T.obj 0 _ st2 b hb
  exact Heap.lt_size e
 have ok:(X.blk x (ys ++ fvs) scope { s2 with heap:=G,toks:=s2.toks } (upd H2 s2.heap.objs.size (.lst [])) G.objs.size fp).Ok:=by
  have hb:∀ b ∈ fp,b ∉ frs X.stack:=fun b hb z => (List.mem_cons.mp (I2.stkSub b z)).elim (f2 b hb).2.1 (f2 b hb).2.2.1
  exact {
   mod:=I3.ok.mod
   kind:=by show (relabel scope X.env).kind = _; exact hsc.kind
   glob:=I3.ok.glob
   blt:=I3.ok.blt
   above:=Nat.le_refl _
   inj:=fun y z c e1 e2 => by
    have lt:∀ {y:Str},(clOf X.env scope.names []).lookup y = some c -> c < G.objs.size:=fun {y} e => by
     obtain ⟨v,q⟩:=I3.cell y c (sub y c e)
     exact q.lt
    rcases look e1 with ⟨a1,_,a2⟩ | a1
    ·rcases look e2 with ⟨b1,_,_⟩ | b1
     ·rw [a1,b1]
     ·exact absurd (lt b1) (by rw [a2]; exact Nat.not_lt.mpr (Nat.le_succ _))
    ·rcases look e2 with ⟨_,_,b2⟩ | b1
     ·exact absurd (lt a1) (by rw [b2]; exact Nat.not_lt.mpr (Nat.le_succ _))
     ·exact I3.ok.inj y z c (sub y c a1) (sub z c b1)
   has:=fun y hy => by
    show ∃ c,(ownC scope x G.objs.size ++ clOf X.env scope.names []).lookup y = some c
    unfold ownC
    rcases relS_back hsc.cells hy with hm | ⟨e,q⟩
    ·obtain ⟨c,ec⟩:=clOf_has (env:=X.env) scope.names [] (.inl hm)
     by_cases q:scope.names.lookup x = some .cell
     ·have z:(y == x) = false:=beq_eq_false_iff_ne.mpr (hsc.xf _ hm rfl)
      exact ⟨c,by rw [if_pos q,List.cons_append,List.lookup_cons,z]; exact ec⟩
     ·exact ⟨c,by rw [if_neg q]; exact ec⟩
    ·subst e
     exact ⟨G.objs.size + 1,by rw [if_pos q,List.cons_append,List.lookup_cons,beq_self_eq_true]⟩
   cab:=fun y c h e => by
    obtain ⟨h1,h2⟩:=of_decide_eq_true h
    have e':(ownC scope x G.objs.size ++ clOf X.env scope.names []).lookup y = some c:=e
    unfold ownC at e'
    rw [if_pos h2,h1,List.cons_append,List.lookup_cons,beq_self_eq_true] at e'
    rw [<- Option.some.inj e']
    exact Nat.le_succ _
   hd:=I3.ok.hd
   frames:=I3.ok.frames
   stk:=.inl rfl
   exf:=fun b hb' => ⟨Nat.ne_of_lt (show b < G.objs.size from Nat.lt_of_lt_of_le (fpl b hb') (by rw [hC]; exact Nat.le_succ _)),fun y c e => by
    rcases look e with ⟨_,_,a⟩ | a
    ·rw [a,hC]; exact Nat.ne_of_gt (Nat.lt_of_lt_of_le (fpl b hb') (Nat.le_trans (Nat.le_succ _) (Nat.le_succ _)))
    ·exact (f2 b hb').2.2.2.2.1 y c (sub y c a)⟩
   bs:=I3.bs
   bsz:=Nat.le_trans I3.ok.bsz I3.sz
   noex:=fun b o e hb' => by
    have q:=(f2 b hb').2.2.2.1
    rcases q with q | q
    ·exact I3.ok.noex b o e q
    ·exact absurd (Nat.lt_of_lt_of_le (Heap.lt_size e) (Nat.le_trans I3.ok.bsz q)) (Nat.lt_irrefl _)
   exfs:=hb
   funs:=I3.stack
   frf:=I3.stkFree }
 have hlen:(blkG ys.length js σ).length = (x :: (ys ++ fvs)).length:=by
  have e:=congrArg List.length hsc.slots
  simp only [List.length_map] at e
  simp [blkG,e]
 have I4:Inv (X.blk x (ys ++ fvs) scope { s2 with heap:=G,toks:=s2.toks } (upd H2 s2.heap.objs.size (.lst [])) G.objs.size fp) [] (blkG ys.length js σ) (upd H2 s2.heap.objs.size (.lst [])) { s2 with heap:=h1,toks:=s2.toks }:=by
  refine ⟨ok,rfl,I3.bare,Un.kept up,⟨_,hns1,fun i y v e1 e2 e3 => ?_⟩,fun y c e => ?_,nC,fun y c e => (look e).elim (fun ⟨_,_,a⟩ => by rw [a]; exact I3.hok.fresh (Nat.le_succ _)) fun a => I3.freeC y c (sub y c a),fun p hp => by simp [Cx.blk] at hp,I3.hok.kept up,hlen⟩
  ·cases i with
   | zero => simp [blkG] at e2
   | succ i0 =>
    have e10:(ys ++ fvs)[i0]? = some y:=e1
    have e20:(List.replicate ys.length none ++ js.map fun j => (σ[j]?).join)[i0]? = some (some v):=by simpa [blkG] using e2
    by_cases hlt:i0 < ys.length
    ·rw [List.getElem?_append_left (by simpa using hlt),List.getElem?_replicate,if_pos hlt] at e20
     cases e20
    rw [List.getElem?_append_right (by simpa using Nat.le_of_not_lt hlt),List.length_replicate] at e20
    rw [List.getElem?_append_right (Nat.le_of_not_lt hlt)] at e10
    generalize i0 - ys.length = i at e10 e20
    have e1':fvs[i]? = some y:=e10
    have hm:y ∈ fvs:=List.mem_of_getElem? e1'
    have hfy:=hsc.free y hm
    have hmy:(y,NameKind.free) ∈ scope.names:=lookup_mem hfy
    have e2':(js.map fun j => (σ[j]?).join)[i]? = some (some v):=e20
    rw [List.getElem?_map] at e2'
    cases ej:js[i]? with
    | none => rw [ej] at e2'; cases e2'
    | some j =>
     rw [ej] at e2'
     have e3':(σ[j]?).join = some v:=Option.some.inj e2'
     have e4:σ[j]? = some (some v):=by
      cases q:σ[j]? with
      | none => rw [q] at e3'; cases e3'
      | some z => rw [q] at e3'; exact congrArg some e3'
     have e5:X.N[j]? = some y:=by
      have q:=congrArg (fun l => l[i]?) hsc.slots
      simp only [List.getElem?_map,ej,e1',Option.map_some] at q
      exact Option.some.inj q
     obtain ⟨m,hn,hl⟩:=I3.loc
     have hout:=hsc.out (y,.free) hmy rfl
     obtain ⟨u,ru,lk⟩:=hl j y v e5 e4 (.inr hout)
     refine ⟨u,ru,.inr ⟨?_,?_⟩⟩
     ·show (relabel scope X.env).names.lookup y = _ \/ (relabel scope X.env).names.lookup y = _
      exact relS_free (osc:=X.env.scope) hfy
     ·obtain ⟨c,ec⟩:=clOf_has (env:=X.env) scope.names [] (.inl hmy)
      have nx:(y == x) = false:=beq_eq_false_iff_ne.mpr (hsc.xf _ hmy rfl)
      refine ⟨c,?_,?_⟩
      ·show (ownC scope x G.objs.size ++ clOf X.env scope.names []).lookup y = some c
       unfold ownC
       split
       ·rw [List.cons_append,List.lookup_cons,nx]; exact ec
       ·exact ec
      rcases lk with ⟨z,_⟩ | ⟨_,c',ec',q⟩
      ·have z':X.env.scope.names.lookup y = some .local:=z
       rcases hout with w | w
       ·rw [show X.env.scope.names.lookup y = some .cell from w] at z'; cases z'
       ·rw [show X.env.scope.names.lookup y = some .free from w] at z'; cases z'
      ·have:=sub y c ec
       rw [ec'] at this
       cases this
       obtain ⟨o,ho,hd⟩:=q
       exact ⟨o,up _ _ ho,hd⟩
  ·rcases look e with ⟨_,q,a⟩ | a
   ·exact ⟨none,by rw [a]; exact hcl1 q⟩
   ·obtain ⟨v,o,ho,hd⟩:=I3.cell y c (sub y c a)
    exact ⟨v,o,up _ _ ho,hd⟩
 have st4:tn 0 h1:=T.keep 0 _ _ st2 fun b hb o e => up b o (by rw [<- hG]; exact Heap.get?_push_of_some _ e)
 have fr4:∀ b ∈ fp,(upd H2 s2.heap.objs.size (.lst [])) b = none:=fun b hb => by
  rw [upd_ne (Nat.ne_of_lt (fpl b hb))]; exact (f2 b hb).1
 have stat:∀ {H':Hp},(∀ b ∈ fp,H' b = none) -> ∀ b ∈ fp,FpOk (X.blk x (ys ++ fvs) scope { s2 with heap:=G,toks:=s2.toks } (upd H2 s2.heap.objs.size (.lst [])) G.objs.size fp) [] H' b:=fun hn b hb =>
  ⟨hn b hb,(ok.exf b hb).1,ok.exfs b hb,.inl hb,(ok.exf b hb).2,fun p hp => by simp [Cx.blk] at hp⟩
 have hch:∀ b ∈ fp,(b ∈ X.ex \/ X.s₀.heap.objs.size <= b) /\ b ≠ X.env.locals /\ (∀ x c,X.env.cells.lookup x = some c -> c ≠ b) /\ ∀ p ∈ X.pn ++ pins,p.1 ≠ b:=fun b hb =>
  let ⟨_,q1,_,q2,q3,q4⟩:=f2 b hb; ⟨q2,q1,q3,q4⟩
 have loop:∀ s5:Shared,s5 = { s2 with heap:=h1,toks:=s2.toks } ->
   codeAny (model X.prog X.w) X.A (.compLoop (.ListComp elt [⟨tg,iter,ifs,0⟩] scope pos) 0 (.ref it) (.ref s2.heap.objs.size) (compEnvC scope (ownC scope x G.objs.size ++ clOf X.env scope.names []) G.objs.size X.env)) (RR (.ref s2.heap.objs.size) G.objs.size) s5:=by
  rintro s5 rfl
  refine comp_loop (fun n s' => ∃ i σ' H',Inv (X.blk x (ys ++ fvs) scope { s2 with heap:=G,toks:=s2.toks } (upd H2 s2.heap.objs.size (.lst [])) G.objs.size fp) [] σ' H' s' /\ tn i s'.heap /\ (∀ b ∈ fp,H' b = none) /\ W i n σ' H') ?_ m0 ⟨0,_,_,I4,st4,fr4,w0⟩
  rintro n s6 ⟨i,σ6,H6,I6,st6,fr6,w6⟩
  rcases turn i n σ6 H6 w6 with ⟨stop,qn⟩ | ⟨go,N,hN,step⟩
  ·refine thn (T.done (X.blk x (ys ++ fvs) scope { s2 with heap:=G,toks:=s2.toks } (upd H2 s2.heap.objs.size (.lst [])) G.objs.size fp) rfl rfl rfl hc i [] s6 σ6 H6 _ I6 (stat fr6) st6 stop) fun r s7 ⟨hr,I7⟩ => ?_
   subst hr
   have I8:Inv X pins σ H6 s7:=I3.call' (ch:=fp) I7.os I7.base I7.hok I7.bare hch
   obtain ⟨m,hn,_⟩:=I7.loc
   exact fin _ _ H6 s7 I8 ⟨m,hn⟩ I7.free cL cS cC cP qn
  ·refine thn (T.item (X.blk x (ys ++ fvs) scope { s2 with heap:=G,toks:=s2.toks } (upd H2 s2.heap.objs.size (.lst [])) G.objs.size fp) rfl rfl rfl hc i [] s6 σ6 H6 _ I6 (stat fr6) st6 go) fun r s7 ⟨u,hr,h7⟩ => ?_
   subst hr
   refine thn h7 fun _ s8 ⟨x8,H8,I8,r8,y8,st8,fr8⟩ => ?_
   have I8':=I8.pinned (stat fr8) (T.obj _ _ st8)
   refine thn (hg _ _ _ _ _ s8 σ6 H8 x8 u _ I8' r8 (step x8 H8 y8)) fun _ s9 ⟨σ9,H9,I9,q9⟩ => ?_
   refine thn (ht _ _ _ _ _ s9 _ H9 _ I9 q9) fun ok' s10 ⟨H10,I10,q10⟩ => ?_
   have again:∀ {s11:Shared} {H11:Hp},Inv (X.blk x (ys ++ fvs) scope { s2 with heap:=G,toks:=s2.toks } (upd H2 s2.heap.objs.size (.lst [])) G.objs.size fp) ([] ++ pinsAt fp s8.heap) σ9 H11 s11 -> N σ9 H11 ->
     ∃ m,m < n /\ ∃ i σ' H',Inv (X.blk x (ys ++ fvs) scope { s2 with heap:=G,toks:=s2.toks } (upd H2 s2.heap.objs.size (.lst [])) G.objs.size fp) [] σ' H' s11 /\ tn i s11.heap /\ (∀ b ∈ fp,H' b = none) /\ W i m σ' H':=fun {s11 H11} I11 n11 => by
    obtain ⟨m',hm,w11⟩:=hN _ H11 n11
    refine ⟨m',hm,i + 1,_,H11,I11.unpinned,T.keep _ _ _ st8 fun b hb o e => (I11.pin (b,o) (List.mem_append_right _ (List.mem_append_right _ (mem_pinsAt hb e)))).1,fun b hb => ?_,w11⟩
    obtain ⟨o,e,d⟩:=T.obj _ _ st8 b hb
    exact (I11.pin (b,o) (List.mem_append_right _ (List.mem_append_right _ (mem_pinsAt hb e)))).2.1
   cases ok' with
   | false =>
    rw [if_neg (by simp)] at q10 ⊢
    exact again I10 q10
   | true =>
    rw [if_pos rfl] at q10 ⊢
    refine thn (he _ _ _ _ _ s10 _ H10 _ I10 q10) fun y s11 ⟨yv,H11,I11,ry,ys,hys,hl,n11⟩ => ?_
    refine thn (mt_append _ s11 _ H11 (.ref s2.heap.objs.size) [yv] (.ref s2.heap.objs.size) [y] (fun _ H12 => N σ9 H12) I11 rfl (.cons ry .nil) ⟨_,ys,yv,rfl,rfl,hys,hl,n11⟩) fun _ s12 ⟨_,H12,I12,_,n12⟩ => again I12 n12
 exact codeAny_compStart_list (loop _ rfl) (T.self _ 0 _ _ _ st4 (loop _ rfl))
theorem comp_core (hsc:CompSc X.env.scope X.N scope x fvs js) (hc:X.calm = true)
  (ht:∀ s₁ H₁ C fp,PF (X.blk x fvs scope s₁ H₁ C fp) ifs tt) (he:∀ s₁ H₁ C fp,PE (X.blk x fvs scope s₁ H₁ C fp) elt te)
  {pins:List (Addr × Obj)} {σ:St} {H2:Hp} {s2:Shared} {Q:VK} {it:Addr} {fp:List Addr} {tn:Nat -> Heap -> Prop} {J:It} {RR:Value -> Addr -> Result -> Shared -> Prop}
  (I2:Inv X pins σ H2 s2) (T:Turn X.prog X.w X.K (.Name x px) J fp it tn) (st2:tn 0 s2.heap) (f2:∀ b ∈ fp,FpOk X pins H2 b)
  (hh:∀ D,H2 D = none -> CompW J (blk0 js σ) H2 tt te D Q)
  (fin:∀ (D C:Addr) (H':Hp) (s':Shared),Inv X pins σ H' s' -> (∃ m,s'.heap.Ns C m) -> H' C = none -> C ≠ X.env.locals -> X.s₀.heap.objs.size <= C -> (∀ y c,X.env.cells.lookup y = some c -> c ≠ C) -> (∀ p ∈ X.pn ++ pins,p.1 ≠ C) -> Q (.ref D) H' ->
   RR (.ref D) C (.ok .next) s') {E:Value -> Shared -> Prop} :
  wpAny (model X.prog X.w) X.A (newList []) (fun acc s3 => wpAny (model X.prog X.w) X.A (newFunctionEnv scope X.env.globals (clOf X.env scope.names []) [] X.env.qual none .none (some X.env)) (fun cenv s4 =>
   codeAny (model X.prog X.w) X.A (.compStart (.ListComp elt [⟨.Name x px,iter,ifs,0⟩] scope pos) 0 (.ref it) acc { cenv with scope:=relabel scope X.env }) (RR acc cenv.locals) s4) E s3) E s2 :=
 comp_coreG (ys:=[]) hsc.g hc (fun s₁ H₁ C fp => pg_name (X:=X.blk x fvs scope s₁ H₁ C fp) (i:=0) (x:=x) (pos:=px) hsc.nd rfl (hsc.once.elim (fun q => .inl (lookup_relabel_local q.1)) fun q => .inr (relS_cell q.1)) (hsc.once.elim (fun q => .inr (lookup_relabel_local q.1)) fun q => .inl (decide_eq_true ⟨rfl,q.1⟩))) ht he I2 T st2 f2 (fun D hD => (hh D hD).g) fin
theorem pe_comp (hsc:CompSc X.env.scope X.N scope x fvs js) (hc:X.calm = true) (hi:PI X (.Name x px) iter wi)
  (ht:∀ s₁ H₁ C fp,PF (X.blk x fvs scope s₁ H₁ C fp) ifs tt) (he:∀ s₁ H₁ C fp,PE (X.blk x fvs scope s₁ H₁ C fp) elt te)
  (hs:∀ v,foldedSetIterable iter X.env v = pure v:=by intro _; rfl):PE X (.ListComp elt [⟨.Name x px,iter,ifs,0⟩] scope pos) (tComp wi js tt te):=by
 intro pins s σ H Q I h
 have fr:∀ y ∈ scope.names,y.2 = .free -> ∃ c,X.env.cells.lookup y.1 = some c:=fun y hy hk => I.ok.has y.1 (hsc.out y hy hk)
 rw [eval_ListComp]
 refine wpAny_comprehension_free (use:=none) rfl hs (closure_is fr) hsc.kind hsc.names (thn (hi pins s σ H _ I h) fun v s1 h1 => thn h1 fun itv s2 h2 => ?_)
 obtain ⟨it,fp,tn,J,H2,e,I2,T,st2,f2,hh⟩:=h2
 subst e
 refine comp_core (RR:=fun acc C => compPost (model X.prog X.w) X.A X.xe none (EP X pins σ Q) acc C) hsc hc ht he I2 T st2 f2 hh fun D C H' s' I' hn nC cL cS cC cP q => ?_
 obtain ⟨m,hn⟩:=hn
 refine ⟨m,hn,fun h' sb => ⟨.ref D,H',?_,rfl,q⟩⟩
 exact I'.turned (t':=s'.toks) (fun b o hb e => (sb.2 b hb).trans e) nC cL (.inr cS) cC cP
noncomputable def tCompG (wi:TI) (g:TG) (n:Nat) (js:List Nat) (tt:TT) (te:TE):TE:=fun σ H Q => wi σ H fun J H1 => ∀ D,H1 D = none -> CompWG J g (blkG n js σ) H1 tt te D Q
theorem pe_compG {tg:Expr} {g:TG} {ys:List Str} (hsc:CompScG X.env.scope X.N scope x ys fvs js) (hc:X.calm = true) (hg:∀ s₁ H₁ C fp,PG (X.blk x (ys ++ fvs) scope s₁ H₁ C fp) tg g) (hi:PI X tg iter wi)
  (ht:∀ s₁ H₁ C fp,PF (X.blk x (ys ++ fvs) scope s₁ H₁ C fp) ifs tt) (he:∀ s₁ H₁ C fp,PE (X.blk x (ys ++ fvs) scope s₁ H₁ C fp) elt te)
  (hs:∀ v,foldedSetIterable iter X.env v = pure v:=by intro _; rfl):PE X (.ListComp elt [⟨tg,iter,ifs,0⟩] scope pos) (tCompG wi g ys.length js tt te):=by
 intro pins s σ H Q I h
 have fr:∀ y ∈ scope.names,y.2 = .free -> ∃ c,X.env.cells.lookup y.1 = some c:=fun y hy hk => I.ok.has y.1 (hsc.out y hy hk)
 rw [eval_ListComp]
 refine wpAny_comprehension_free (use:=none) rfl hs (closure_is fr) hsc.kind hsc.names (thn (hi pins s σ H _ I h) fun v s1 h1 => thn h1 fun itv s2 h2 => ?_)
 obtain ⟨it,fp,tn,J,H2,e,I2,T,st2,f2,hh⟩:=h2
 subst e
 refine comp_coreG (RR:=fun acc C => compPost (model X.prog X.w) X.A X.xe none (EP X pins σ Q) acc C) hsc hc hg ht he I2 T st2 f2 hh fun D C H' s' I' hn nC cL cS cC cP q => ?_
 obtain ⟨m,hn⟩:=hn
 refine ⟨m,hn,fun h' sb => ⟨.ref D,H',?_,rfl,q⟩⟩
 exact I'.turned (t':=s'.toks) (fun b o hb e => (sb.2 b hb).trans e) nC cL (.inr cS) cC cP
theorem ps_setComp {i:Nat} {y:Str} {py spos:Pos} (hN:X.N.Nodup) (hi':X.N[i]? = some y) (hy:Loc X.env.scope y) (hsc:CompSc X.env.scope X.N scope x fvs js) (hc:X.calm = true) (hi:PI X (.Name x px) iter wi)
  (ht:∀ s₁ H₁ C fp,PF (X.blk x fvs scope s₁ H₁ C fp) ifs tt) (he:∀ s₁ H₁ C fp,PE (X.blk x fvs scope s₁ H₁ C fp) elt te)
  (hsw:swapsWith (.ListComp elt [⟨.Name x px,iter,ifs,0⟩] scope pos) (some (.Name y py)) spos.line X.env = pure true:=by rfl)
  (hs:∀ v,foldedSetIterable iter X.env v = pure v:=by intro _; rfl) (hf:X.fn y = true \/ X.env.scope.names.lookup y = some .local:=by first | exact .inl rfl | exact .inr rfl | assumption) :
  PS X (.Assign [.Name y py] (.ListComp elt [⟨.Name x px,iter,ifs,0⟩] scope pos) spos) (tAsg (tComp wi js tt te) (gName i)):=by
 intro pins s σ H D I h
 have fr:∀ y ∈ scope.names,y.2 = .free -> ∃ c,X.env.cells.lookup y.1 = some c:=fun y hy hk => I.ok.has y.1 (hsc.out y hy hk)
 rw [exec_Assign_Name_used _ _ _ _ hsw]
 refine wpAny_bind (wpAny_standAt (wpAny_bind ?_))
 show wpAny _ X.A (do let _ <- comprehension (.ListComp elt [⟨.Name x px,iter,ifs,0⟩] scope pos) scope X.env _ (newList []) false (eval iter X.env) (some (assign (.Name y py) X.env))) _ _ s
 refine wpAny_bind (thn (wpAny_comprehension_free (use:=some (assign (.Name y py) X.env)) (Q:=fun _ s' => SP X pins D .next s') rfl hs (closure_is fr) hsc.kind hsc.names (thn (hi pins s σ H _ I h) fun v s1 h1 => thn h1 fun itv s2 h2 => ?_)) fun _ s' q => ?_)
 ·obtain ⟨it,fp,tn,J,H2,e,I2,T,st2,f2,hh⟩:=h2
  subst e
  refine comp_core (RR:=fun acc C => compPost (model X.prog X.w) X.A X.xe (some (assign (.Name y py) X.env)) (fun _ s' => SP X pins D .next s') acc C) (Q:=fun v H' => gName i v σ H' D.nx) hsc hc ht he I2 T st2 f2 hh fun D' C H' s' I' hn nC cL cS cC cP q => ?_
  obtain ⟨m,hn⟩:=hn
  show wpAny _ _ (assign (.Name y py) X.env (.ref D')) _ _ s'
  refine wpAny_assign_Name (store_ok2 I' hN hi' hy (v:=.ref D') rfl (fun s'' I'' ⟨a,sb,ha⟩ => ?_) hf)
  have ne:C ≠ a:=by
   rcases ha with z | z
   ·rw [z]; exact cL
   ·exact fun w => cC y a z w.symm
  refine ⟨m,hn.sameBut sb ne,fun h' sb' => ?_⟩
  exact ⟨_,H',I''.turned (t':=s''.toks) (fun b o hb e => (sb'.2 b hb).trans e) nC cL (.inr cS) cC cP,q⟩
 ·exact wpAny_pure (wpAny_pure q)
end
end L2
namespace L2
open PySem PySem.Spec PyProof.Rows
noncomputable abbrev Tups (K:PySem.W.Frag) (H:Hp):List V -> List (List Int) -> Prop:=Paired fun x ts => ∃ a,x = V.ref a /\ SqT K H a (ts.map V.int)
theorem Tups.len {K:PySem.W.Frag} {H:Hp} {xs:List V} {tss:List (List Int)} (h:Tups K H xs tss):xs.length = tss.length:=Paired.length h
theorem same_new {H:Hp} {p:Addr} (h:H p = none) (o:HO):Same H (upd H p o):=fun b u q => by rw [upd_ne (ne_of_none q h)]; exact q
theorem Same.seqT {K:PySem.W.Frag} {H H':Hp} {a:Addr} {xs:List V} (e:Same H H') (h:SqT K H a xs):SqT K H' a xs:=by
 rcases h with (h | ⟨o,h⟩) | h
 ·exact .inl (.inl (e _ _ h))
 ·exact .inl (.inr ⟨o,e _ _ h⟩)
 ·exact .inr h
section
variable {X:Cx} {pins:List (Addr × Obj)} {σ:St} {H:Hp} {s:Shared}
theorem Inv.tupInts {a:Addr} {ns:List Int} (I:Inv X pins σ H s) (h:SqT X.K H a (ns.map V.int)):∃ its:List Value,IsTup s.heap a its.toArray /\ IntsAre its ns:=by
 obtain ⟨its,r,p,_⟩:=I.tuple h
 exact ⟨its,p,intsAre_of r⟩
theorem Inv.tupsAt (I:Inv X pins σ H s):∀ {xs:List V} {us:List Value} {tss:List (List Int)},Tups X.K H xs tss -> Vals xs us -> Paired (fun u ts => ∃ a its,u = Value.ref a /\ IsTup s.heap a its /\ IntsAre its.toList ts) us tss
 | _,_,_,.nil,.nil => .nil
 | _,_,_,.cons ⟨a,e1,e2⟩ t,.cons r q => by
  obtain ⟨its,p,hi⟩:=I.tupInts e2
  rw [e1] at r
  exact .cons ⟨a,its.toArray,r,p,by simpa using hi⟩ (I.tupsAt t q)
end
namespace Srt
noncomputable def sortI (l:List Int):List Int:=sortO intOrd l
noncomputable def sortT (l:List (List Int)):List (List Int):=sortO lexOrd l
theorem sortI_perm (l:List Int):(sortI l).Perm l:=sortO_perm intOrd l
theorem sortT_perm (l:List (List Int)):(sortT l).Perm l:=sortO_perm lexOrd l
theorem sortI_len (l:List Int):(sortI l).length = l.length:=(sortI_perm l).length_eq
theorem sortT_len (l:List (List Int)):(sortT l).length = l.length:=(sortT_perm l).length_eq
section
variable {P:Program} {w:World} {A:Around} {E:Value -> Shared -> Prop} {s:Shared}
theorem ints_sorted {ks ns:List Int} (hp:ns.Perm ks) (hs:ns.Pairwise (· <= ·)):ns = sortI ks:=by
 refine eq_sortO intOrd hp (hs.imp fun {a b} h => ?_)
 show decide (b < a) = false
 exact decide_eq_false (by omega)
theorem sorted_ints_of {x:Value} {ks:List Int} {Q:Value -> Shared -> Prop} (h64:ks.length < 64)
  (hcol:∀ (Q':List Value -> Shared -> Prop),(∀ (h':Heap) (tk:Nat) (d':Drawn) (acc:List Value) (order:List Int),(∀ b o,s.heap.get? b = some o -> h'.get? b = some o) -> order.Perm ks -> IntsAre acc order -> Q' acc { s with heap:=h',toks:=tk,drawn:=d' }) ->
   wpAny (model P w) A.in1 (collect x) Q' E s)
  (h:∀ (h1 h':Heap) (tk:Nat) (d':Drawn) (out:List Value) (c:Nat),(∀ b o,s.heap.get? b = some o -> h1.get? b = some o) -> (∀ b o,h1.get? b = some o -> h'.get? b = some o) -> h'.get? h1.objs.size = some { cls:=.type "list",data:=.seq out.toArray c } ->
   IntsAre out (sortI ks) -> Q (.ref h1.objs.size) { s with heap:=h',toks:=tk,drawn:=d' }) :
  wpAny (model P w) A (call (.builtin "sorted") [x]) Q E s:=by
 refine Calls.call_function_entry kind_sorted plain_sorted entry_sorted (args_sorted1 _) ?_
 unfold Builtin.«sorted»
 refine wpAny_bind (m:=checkCount "sorted" 1 1 _) (wpAny_pure ?_)
 refine wpAny_bind (hcol _ fun h1 tk d1 acc order kp hp hi => ?_)
 have hla:acc.length = order.length:=hi.length
 have hlo:order.length = ks.length:=hp.length_eq
 refine wpAny_bind (wpAny_newList ?_ (by rw [sizeLine_eq]; omega))
 have hoL:(h1.push (seqObj "list" acc.toArray 0)).get? h1.objs.size = some (seqObj "list" acc.toArray 0):=Heap.get?_push_size _ rfl
 refine wpAny_bind (wpAny_holding (wpAny_call_entry slot_list_sort ⟨_,hoL,rfl⟩ entry_list_sort (list_sort_tree hoL hi (by omega) fun out ns' hi' hp' hs' => ⟨_,rfl,?_⟩) (args_list_sort _)))
 obtain ⟨c,hc⟩:=sortedHeap_at (out:=out) (vs:=acc) hoL
 refine wpAny_pure ⟨_,rfl,h h1 _ tk d1 out.toList c kp (fun b o e => ?_) ?_ ?_⟩
 ·have hb:b < h1.objs.size:=Heap.lt_size e
  rw [sortedHeap_old (Nat.ne_of_lt hb) (by rw [Heap.size_push]; exact Nat.lt_succ_of_lt hb)]
  exact Heap.get?_push_of_some _ e
 ·rw [Array.toArray_toList]; exact hc
 ·rw [<- ints_sorted (hp'.trans hp) hs']; exact hi'
theorem sorted_tups_of {x:Value} {vs:List Value} {tss:List (List Int)} {Q:Value -> Shared -> Prop} (h64:vs.length < 64) (hu:A.units + 2 < cLine)
  (hv:Paired (fun u ts => ∃ a its,u = Value.ref a /\ IsTup s.heap a its /\ IntsAre its.toList ts) vs tss)
  (hcol:∀ (Q':List Value -> Shared -> Prop),(∀ (h':Heap),(∀ b o,s.heap.get? b = some o -> h'.get? b = some o) -> Q' vs { s with heap:=h' }) -> wpAny (model P w) A.in1 (collect x) Q' E s)
  (h:∀ (h1 h':Heap) (p:Array Nat) (c:Nat),(∀ b o,s.heap.get? b = some o -> h1.get? b = some o) -> (∀ b o,h1.get? b = some o -> h'.get? b = some o) -> h'.get? h1.objs.size = some { cls:=.type "list",data:=.seq (p.toList.map fun i => vs.getD i Value.none).toArray c } ->
   PB vs.length p -> p.toList.map (fun i => tss.getD i []) = sortT tss -> Q (.ref h1.objs.size) { s with heap:=h' }) :
  wpAny (model P w) A (call (.builtin "sorted") [x]) Q E s:=by
 have hlen:vs.length = tss.length:=Paired.length hv
 refine Calls.call_function_entry kind_sorted plain_sorted entry_sorted (args_sorted1 _) ?_
 unfold Builtin.«sorted»
 refine wpAny_bind (m:=checkCount "sorted" 1 1 _) (wpAny_pure ?_)
 refine wpAny_bind (hcol _ fun h1 kp => ?_)
 refine wpAny_bind (wpAny_newList ?_ (by rw [sizeLine_eq]; omega))
 have hoL:(h1.push (seqObj "list" vs.toArray 0)).get? h1.objs.size = some (seqObj "list" vs.toArray 0):=Heap.get?_push_size _ rfl
 have at_:∀ (s':Shared),(∀ b o,b ≠ h1.objs.size -> (h1.push (seqObj "list" vs.toArray 0)).get? b = some o -> s'.heap.get? b = some o) -> ∀ i,i < vs.length -> ∃ a its,vs.getD i Value.none = .ref a /\ IsTup s'.heap a its /\ IntsAre its.toList (tss.getD i []):=fun s' k i hi => by
  have gen:∀ {us:List Value} {uss:List (List Int)},Paired (fun u ts => ∃ a its,u = Value.ref a /\ IsTup s.heap a its /\ IntsAre its.toList ts) us uss -> ∀ i,i < us.length -> ∃ a its,us.getD i Value.none = .ref a /\ IsTup s.heap a its /\ IntsAre its.toList (uss.getD i []):=by
   intro us uss hp
   induction hp with
   | nil => intro i hi; simp at hi
   | cons q _ ih =>
    intro i hi
    cases i with
    | zero => obtain ⟨a,its,e,r⟩:=q; exact ⟨a,its,by simpa using e,by simpa using r⟩
    | succ i => obtain ⟨a,its,e,r⟩:=ih i (by simpa using hi); exact ⟨a,its,by simpa using e,by simpa using r⟩
  obtain ⟨a,its,e,⟨o,ho,r⟩,hin⟩:=gen hv i hi
  have ho1:=kp a o ho
  exact ⟨a,its,e,⟨o,k a o (Nat.ne_of_lt (Heap.lt_size ho1)) (Heap.get?_push_of_some _ ho1),r⟩,hin⟩
 refine wpAny_bind (wpAny_holding (wpAny_call_entry slot_list_sort ⟨_,hoL,rfl⟩ entry_list_sort (list_sort_by (O:=lexOrd) (key:=fun i => tss.getD i []) hoL h64 (fun h2 s' Q' k q => kind_tups h2 (fun v hm => ?_) q) (fun κ hκ s' i j C k hi hj q => ?_) fun p hp hr => ⟨_,rfl,?_⟩) (args_list_sort _)))
 ·obtain ⟨i,hi,e⟩:=List.getElem_of_mem hm
  obtain ⟨a,its,e',r1,r2⟩:=at_ s' k i hi
  exact ⟨a,its,_,by rw [<- e',<- e]; simp [hi],r1,r2⟩
 ·obtain ⟨a,its,e,r1,r2⟩:=at_ s' k i hi
  obtain ⟨a',its',e',r1',r2'⟩:=at_ s' k j hj
  rw [e,e']
  exact lt_tups hκ r1 r1' r2 r2' (show A.units + 1 + 1 < cLine from hu) q
 ·obtain ⟨c,hc⟩:=sortedHeap_at (out:=(p.toList.map fun i => vs.getD i Value.none).toArray) (vs:=vs) hoL
  have hp':PB tss.length p:=by rw [<- hlen]; exact hp
  have hr':Rises (O:=lexOrd) (fun i => tss.getD i []) p tss.length:=by rw [<- hlen]; exact hr
  refine wpAny_pure ⟨_,rfl,h h1 _ p c kp (fun b o e => ?_) hc hp (out_eq (O:=lexOrd) (d:=([]:List Int)) (xs:=tss) hp' hr')⟩
  have hb:b < h1.objs.size:=Heap.lt_size e
  rw [sortedHeap_old (Nat.ne_of_lt hb) (by rw [Heap.size_push]; exact Nat.lt_succ_of_lt hb)]
  exact Heap.get?_push_of_some _ e
end
end Srt
section
variable {X:Cx}
theorem Inv.keptD {pins:List (Addr × Obj)} {σ:St} {H:Hp} {s:Shared} {h':Heap} {t':Nat} {d':Drawn} (I:Inv X pins σ H s) (k:∀ b u,s.heap.get? b = some u -> h'.get? b = some u):Inv X pins σ H { s with heap:=h',toks:=t',drawn:=d' } :=
 I.call (g':=s.gens) (d':=d') (t':=t') (ch:=[]) (Un.kept k) (I.hok.kept k) I.bare fun _ z => nomatch z
theorem ints_vals:∀ {vs:List Value} {ns:List Int},IntsAre vs ns -> Vals (ns.map V.int) vs:=vals_ints
noncomputable def rSortI (X:Cx):List V -> Hp -> VK -> Prop:=fun xs H Q => ∃ (p:Addr) (ks:List Int),xs = [.ref p] /\ (SqL X.K H p (ks.map V.int) \/ SqT X.K H p (ks.map V.int) \/ False) /\ ks.length < 64 /\ ∀ l:Addr,H l = none -> Q (.ref l) (upd H l (.lst ((Srt.sortI ks).map V.int)))
theorem call_sortedI (hc:X.calm = true):CallR X (.builtin "sorted") (rSortI X):=by
 intro pins s σ H xs us Q I r h
 obtain ⟨p,ks,rfl,hq,h64,q⟩:=h
 obtain ⟨u,rfl,rx⟩:=vals1 r
 cases rx
 have hh:=I.ok.hd hc
 refine Srt.sorted_ints_of (ks:=ks) h64 (fun Q' hQ' => ?_) fun h1 h' tk d' out c k1 k2 e hi => ?_
 ·rcases hq with hq | hq | hq
  ·obtain ⟨its,r',pl,hz⟩:=I.list hq
   obtain ⟨o,ho,hcl,n,hd⟩:=pl.isList
   refine wpAny_collect_seq p (.inl rfl) ho hcl hd (fun h' kp => ?_) (by have:=r'.length; simp only [List.size_toArray] <;> omega)
   exact hQ' h' s.toks s.drawn _ ks kp (.refl _) (by simpa using intsAre_of r')
  ·obtain ⟨its,r',pl,hz⟩:=I.tuple hq
   obtain ⟨o,ho,hcl,n,hd⟩:=pl
   refine wpAny_collect_seq p (.inr rfl) ho hcl hd (fun h' kp => ?_) (by have:=r'.length; simp only [List.size_toArray] <;> omega)
   exact hQ' h' s.toks s.drawn _ ks kp (.refl _) (by simpa using intsAre_of r')
  ·exact hq.elim
 ·have I1:Inv X pins σ H { s with heap:=h1,toks:=tk,drawn:=d' }:=I.keptD k1
  have I2:Inv X pins σ (upd H h1.objs.size (.lst ((Srt.sortI ks).map V.int))) { s with heap:=h',toks:=tk,drawn:=d' } :=
   I1.laid (t':=tk) k2 (Nat.le_refl _) (show ObjOk X.prog X.w _ h' _ (.lst _) from ⟨by rw [List.length_map,Srt.sortI_len,sizeLine_eq]; omega,out,c,ints_vals hi,e⟩)
  exact ⟨.ref h1.objs.size,_,I2,rfl,q _ (I1.hok.fresh (Nat.le_refl _))⟩
noncomputable def rSortT (X:Cx):List V -> Hp -> VK -> Prop:=fun xs H Q => ∃ (p:Addr) (vs:List V) (tss:List (List Int)),xs = [.ref p] /\ (SqL X.K H p vs \/ SqT X.K H p vs) /\ Tups X.K H vs tss /\ tss.length < 64 /\
 ∀ (l:Addr) (pm:List Nat),H l = none -> (∀ i ∈ pm,i < vs.length) -> pm.map (fun i => tss.getD i []) = Srt.sortT tss -> Q (.ref l) (upd H l (.lst (pm.map fun i => vs.getD i .non)))
theorem vals_pick {vs:List V} {us:List Value} (h:Vals vs us):∀ (l:List Nat),(∀ i ∈ l,i < vs.length) -> Vals (l.map fun i => vs.getD i .non) (l.map fun i => us.getD i Value.none)
 | [],_ => .nil
 | i :: l,hl => by
  have hi:=hl i (.head _)
  obtain ⟨u,e1,e2⟩:=h.get (i:=i) (x:=vs[i]) (List.getElem?_eq_getElem hi)
  refine .cons ?_ (vals_pick h l fun j hj => hl j (.tail _ hj))
  have q1:vs.getD i .non = vs[i]:=by simp [hi]
  have q2:us.getD i Value.none = u:=by rw [List.getD_eq_getElem?_getD,e1]; rfl
  show RelV (vs.getD i V.non) (us.getD i Value.none)
  rw [q1,q2]; exact e2
theorem call_sortedT (hu:X.A.units + 64 < cLine):CallR X (.builtin "sorted") (rSortT X):=by
 intro pins s σ H xs us Q I r h
 obtain ⟨p,vs,tss,rfl,hq,ht,h64,q⟩:=h
 obtain ⟨u,rfl,rx⟩:=vals1 r
 cases rx
 have key:∀ (its:List Value),Vals vs its -> vs.length <= sizeLine -> (∀ (Q':List Value -> Shared -> Prop),(∀ (h':Heap),(∀ b o,s.heap.get? b = some o -> h'.get? b = some o) -> Q' its { s with heap:=h' }) -> wpAny (model X.prog X.w) X.A.in1 (collect (.ref p)) Q' X.xe s) ->
   wpAny (model X.prog X.w) X.A (call (.builtin "sorted") [.ref p]) (EP X pins σ Q) X.xe s:=fun its r' hz hcol => by
  have hl:=r'.length
  have hl2:=ht.len
  refine Srt.sorted_tups_of (vs:=its) (tss:=tss) (by omega) (by omega) (I.tupsAt ht r') hcol fun h1 h' pm c k1 k2 e hp ho => ?_
  have hpl:∀ i ∈ pm.toList,i < vs.length:=fun i hi => by
   have:=(Array.perm_iff_toList_perm.mp hp).mem_iff.mp hi
   have:=List.mem_range.mp (by simpa using this)
   omega
  have I1:Inv X pins σ H { s with heap:=h1 }:=I.kept (t':=s.toks) k1
  have I2:Inv X pins σ (upd H h1.objs.size (.lst (pm.toList.map fun i => vs.getD i .non))) { s with heap:=h' } :=
   I1.laid (t':=s.toks) k2 (Nat.le_refl _) (show ObjOk X.prog X.w _ h' _ (.lst _) from ⟨by have:=hp.size; rw [List.length_map,Array.length_toList,sizeLine_eq]; omega,_,c,vals_pick r' _ hpl,e⟩)
  exact ⟨.ref h1.objs.size,_,I2,rfl,q _ pm.toList (I1.hok.fresh (Nat.le_refl _)) hpl ho⟩
 rcases hq with hq | hq
 ·obtain ⟨its,r',pl,hz⟩:=I.list hq
  obtain ⟨o,ho,hcl,n,hd⟩:=pl.isList
  refine key its r' hz fun Q' hQ' => wpAny_collect_seq p (.inl rfl) ho hcl hd (fun h' kp => ?_) (by have:=r'.length; simp only [List.size_toArray] <;> omega)
  have:=hQ' h' kp
  simpa using this
 ·obtain ⟨its,r',pl,hz⟩:=I.tuple hq
  obtain ⟨o,ho,hcl,n,hd⟩:=pl
  refine key its r' hz fun Q' hQ' => wpAny_collect_seq p (.inr rfl) ho hcl hd (fun h' kp => ?_) (by have:=r'.length; simp only [List.size_toArray] <;> omega)
  have:=hQ' h' kp
  simpa using this
end
end L2
namespace L2.En
open PySem PyProof.Rows
open AutoSeq1 (wpAny_loadPart')
section
variable {P:Program} {w:World} {A:Around} {E:Value -> Shared -> Prop} {s:Shared}
theorem next_entry {it t:Addr} {i:Nat} {Q:Value -> Shared -> Prop} (hit:s.heap.IsTupleIter it t i)
  (h:wpAny (model P w) A.in1 (Builtin.«tuple_iterator.__next__» ⟨[.ref it],[]⟩) (fun fin s' => ∃ v,fin = .done (.ret v) /\ Q v s') E s):wpAny (model P w) A (Builtin.SmallTypes.nextOf (.ref it)) Q E s:=by
 unfold Builtin.SmallTypes.nextOf
 refine wpAny_bind (wpAny_callSpecial?_slot (name:=Str.ofString "__next__") hit.typeIs F.slot_tuple_iterator_next ?_)
 refine wpAny_call_entry F.slot_tuple_iterator_next hit.typeIs F.entry_tuple_iterator_next ?_ (F.args_tuple_iterator_next_1 _)
 refine wpAny_mono h (fun fin s' hv => ?_) fun _ _ z => z
 obtain ⟨v,rfl,q⟩:=hv
 exact ⟨v,rfl,wpAny_pure q⟩
theorem stop_ {α:Type} {Q:α -> Shared -> Prop} (hh:A.handled = none) (h:∀ h' e,(∀ b o,s.heap.get? b = some o -> h'.get? b = some o) -> (∃ o,h'.get? e = some o /\ o.cls = .type "StopIteration") -> E (.ref e) { s with heap:=h' }) :
  wpAny (model P w) A (Builtin.SmallTypes.stopIteration:Sem α) Q E s:=by
 unfold Builtin.SmallTypes.stopIteration newExc
 obtain ⟨hp,g,d,tk,os⟩:=s
 wp_walk
 exact wpAny_raiseNew_none hh (h _ _ (fun b o q => Heap.get?_push_of_some _ (Heap.get?_push_of_some _ q)) ⟨_,Heap.get?_push_size _ rfl,rfl⟩)
theorem next_item {it t:Addr} {i:Nat} {items:Array Value} {Q:Value -> Shared -> Prop} (hh:A.handled = none) (hit:s.heap.IsTupleIter it t i) (ht:s.heap.IsTuple t items)
  (hQ:∀ x h',items[i]? = some x -> h'.IsTupleIter it t (i + 1) -> Heap.SameBut it s.heap h' -> Q x { s with heap:=h' })
  (hE:∀ h' e,items[i]? = none -> Heap.ExtBut it s.heap h' -> (∃ o,h'.get? e = some o /\ o.cls = .type "StopIteration") -> E (.ref e) { s with heap:=h' }):wpAny (model P w) A (Builtin.SmallTypes.nextOf (.ref it)) Q E s:=by
 refine next_entry hit ?_
 obtain ⟨⟨c1,d1,t1,l1⟩,h1,e1,e2⟩:=hit
 obtain ⟨⟨c2,d2,t2,l2⟩,h2,e3,n2,e4⟩:=ht
 cases e1
 cases e2
 cases e3
 cases e4
 obtain ⟨hp,g,d,tk,os⟩:=s
 unfold Builtin.«tuple_iterator.__next__»
 wp_walk using wpAny_loadPart' h1,wpAny_loadPart' h2
 have self:∀ (k:Nat) (v:Value),(hp.update it (Obj.mapFields (·.setIfInBounds k v))).get? it = some { cls:=.type "tuple_iterator",dict:=d1,data:=.fields ((#[.ref t,.int (i:Int) 0]:Array Value).setIfInBounds k v),slots:=l1 }:=fun k v => Heap.get?_update_self _ h1 rfl
 rw [Int.toNat_natCast]
 cases hx:items[i]? with
 | some x =>
  refine wpAny_bind (wpAny_setField h1 rfl (by simp) (wpAny_pure ⟨x,rfl,hQ x _ hx ⟨_,self 1 _,rfl,?_⟩ (Heap.SameBut.update ..)⟩))
  simp [rawInt]
 | none =>
  refine wpAny_bind (wpAny_rule (wpAny_bind (wpAny_setField h1 rfl (by simp) (stop_ (by simpa using hh) fun h' e k st => ?_))))
  exact hE h' e hx (fun b o hb q => k b o ((Heap.SameBut.update hp it _).extBut b o hb q)) st
end
end L2.En
namespace L2.Dv
open PySem PyProof.Rows
open AutoSeq1 (wpAny_loadPart')
section
variable {P:Program} {w:World} {A:Around} {E:Value -> Shared -> Prop} {s:Shared}
noncomputable def Ents (h:Heap) (d:Addr) (es:Array DictEntry) (ep:Nat):Prop:=∃ o,h.get? d = some o /\ o.ExactDict /\ o.data = .dict es ep
theorem Ents.at {h h':Heap} {d:Addr} {es:Array DictEntry} {ep:Nat} (x:Ents h d es ep) (k:∀ o,h.get? d = some o -> h'.get? d = some o):Ents h' d es ep:=by
 obtain ⟨o,ho,r⟩:=x
 exact ⟨o,k o ho,r⟩
theorem Ents.type {d:Addr} {es:Array DictEntry} {ep:Nat} (x:Ents s.heap d es ep):s.TypeIs (.ref d) "dict":=by
 obtain ⟨o,ho,r,_⟩:=x
 exact ⟨o,ho,r.1⟩
theorem iter_of {v d:Addr} {es:Array DictEntry} {ep:Nat} {Q:Value -> Shared -> Prop} (hv:s.heap.IsValuesView v d) (x:Ents s.heap d es ep)
  (h:Q (.ref s.heap.objs.size) { s with heap:=s.heap.push { cls:=.type "dict_valueiterator",data:=.fields #[.ref d,.int 0 0,.int es.size 0,.int ep 0] } }):wpAny (model P w) A (pyIter (.ref v)) Q E s:=by
 refine wpAny_pyIter_slot hv.typeIs F.slot_dict_values_iter (wpAny_call_entry F.slot_dict_values_iter hv.typeIs F.entry_dict_values_iter ?_ (F.args_dict_values_iter_1 _))
 obtain ⟨⟨c1,d1,t1,l1⟩,h1,hx,e2⟩:=x
 have e1:=hx.1
 cases e1
 cases e2
 obtain ⟨⟨c3,d3,t3,l3⟩,h3,e3,e4⟩:=hv
 cases e3
 cases e4
 obtain ⟨hp,g,dr,tk,os⟩:=s
 unfold Builtin.«dict_values.__iter__»
 wp_walk using wpAny_loadPart' h1,wpAny_loadPart' h3
 exact ⟨_,rfl,_,_,⟨_,Heap.get?_push_size _ rfl,rfl⟩,F.slot_dict_valueiterator_next.lookup,h⟩
theorem next_of {it d:Addr} {i:Nat} {es:Array DictEntry} {ep:Nat} {Q:Option Value -> Shared -> Prop} (hh:A.handled = none) (hv:s.heap.IsValIter it d i es.size ep) (x:Ents s.heap d es ep)
  (h1:∀ e h',es[i]? = some e -> h'.IsValIter it d (i + 1) es.size ep -> Heap.SameBut it s.heap h' -> Q (some e.val) { s with heap:=h' })
  (h2:∀ h',es[i]? = none -> Heap.ExtBut it s.heap h' -> Q none { s with heap:=h' }):wpAny (model P w) A (pyNext (.ref it)) Q E s:=by
 have ty:=hv.typeIs
 obtain ⟨⟨c1,d1,t1,l1⟩,g1,hx,e2⟩:=x
 have e1:=hx.1
 cases e1
 cases e2
 obtain ⟨⟨c3,d3,t3,l3⟩,g3,e3,e4⟩:=hv
 cases e3
 cases e4
 obtain ⟨hp,g,dr,tk,os⟩:=s
 unfold pyNext
 refine wpAny_bind (wpAny_attempt (wpAny_callSpecial?_slot (name:=Str.ofString "__next__") ty F.slot_dict_valueiterator_next (wpAny_call_entry F.slot_dict_valueiterator_next ty F.entry_dict_valueiterator_next ?_ (F.args_dict_valueiterator_next_1 _))))
 unfold Builtin.«dict_valueiterator.__next__»
 wp_walk using wpAny_loadPart' g1,wpAny_loadPart' g3
 rw [if_neg (by omega),Int.toNat_natCast]
 have self:∀ (k:Nat) (v:Value),(hp.update it (Obj.mapFields (·.setIfInBounds k v))).get? it = some { cls:=.type "dict_valueiterator",dict:=d3,data:=.fields ((#[.ref d,.int (i:Int) 0,.int (es.size:Int) 0,.int (ep:Int) 0]:Array Value).setIfInBounds k v),slots:=l3 }:=fun k v => Heap.get?_update_self _ g3 rfl
 cases hx:es[i]? with
 | some e =>
  have g4:=self 1 (rawInt ((i:Int) + 1))
  wp_walk using wpAny_loadPart' g3,wpAny_loadPart' g4
  exact ⟨_,rfl,wpAny_pure (h1 e _ hx ⟨_,g4,rfl,rfl⟩ (Heap.SameBut.update ..))⟩
 | none =>
  refine wpAny_bind (wpAny_mono (Q:=fun (n:Nat) (s':Shared) => n = 0 /\ s' = ⟨hp,g,dr,tk,os⟩) (E:=fun _ _ => False) ?_ (fun n s' q => ?_) fun _ _ z => z.elim)
  ·wp_walk using wpAny_loadPart' g3
   exact ⟨by decide +kernel,rfl⟩
  obtain ⟨rfl,rfl⟩:=q
  refine wpAny_bind (wpAny_setField g3 rfl (by simp) ?_)
  refine St.stop_here (v:=.none) (vs:=#[]) (it:=0) (Q:=fun _ _ => True) (by simpa using hh) fun e s' kp ⟨h',eq⟩ hT => ?_
  subst eq
  refine wpAny_bind (wpAny_isInstance (T:="StopIteration") (b:=true) hT isSubtype_stop ?_)
  exact wpAny_pure (h2 h' hx fun b o hb q => kp b o ((Heap.SameBut.update hp it _).extBut b o hb q))
theorem src {r d:Addr} {es:Array DictEntry} {ep:Nat}:PySem.W.KdlSrc P w "dict_values" r d es.size (fun i v => ∃ e,es[i]? = some e /\ v = e.val) (fun h => h.IsValuesView r d /\ Ents h d es ep) where
 type:=fun _ q => q.1.typeIs
 there:=fun _ ⟨⟨o,ho,_⟩,⟨o',ho',_⟩⟩ => ⟨Heap.lt_size ho,Heap.lt_size ho'⟩
 keep:=fun _ _ ⟨⟨o,ho,z⟩,x⟩ k => ⟨⟨o,k r (.inl rfl) o ho,z⟩,x.at fun o e => k d (.inr rfl) o e⟩
 notList:=by decide
 notTuple:=by decide
 hint:=fun _ _ _ _ q z => PySem.W.kdl_hint_values q.1.typeIs z
 iter:=fun A s hh ⟨q,x⟩ => by
  have lt:d < s.heap.objs.size:=by obtain ⟨o,ho,_⟩:=x; exact Heap.lt_size ho
  have ne:d ≠ s.heap.objs.size:=Nat.ne_of_lt lt
  refine ⟨{ cls:=.type "dict_valueiterator",data:=.fields #[.ref d,.int 0 0,.int es.size 0,.int ep 0] },fun i h => h.IsValIter s.heap.objs.size d i es.size ep /\ Ents h d es ep,fun E Q z => iter_of q x z,?_,⟨_,Heap.get?_push_size _ rfl,rfl,rfl⟩,x.at fun o e => Heap.get?_push_of_some _ e⟩
  refine ⟨fun b hb => by simp at hb; simp [hb],fun i h h' ⟨⟨o,ho,z⟩,y⟩ k => ⟨⟨o,k _ (by simp) o ho,z⟩,y.at fun o e => k d (by simp) o e⟩,fun i s' Q E hi ⟨y,z⟩ hQ => ?_,fun s' Q E ⟨y,z⟩ hQ => ?_,fun i s' Q E ⟨y,z⟩ hQ => ?_⟩
  ·refine next_of hh y z (fun e h' he y' sb => ?_) fun h' he _ => absurd he (by simp; omega)
   exact hQ _ h' s'.toks ⟨e,he,rfl⟩ ⟨y',z.at fun o q => sb.extBut d o ne q⟩ fun b o hb q => sb.extBut b o (fun w => hb (by simp [w])) q
  ·refine next_of hh y z (fun e h' he _ _ => absurd he (by simp)) fun h' _ eb => ?_
   exact hQ h' s'.toks fun b o hb q => eb b o (fun w => hb (by simp [w])) q
  ·exact wpAny_pyIter_valiter y hQ
end
end L2.Dv
namespace HT
open PySem PyProof.Rows
section
variable {prog:Program} {w:World} {A:Around} {E:Value -> Shared -> Prop} {s:Shared}
theorem getItem_tuple_whole {t sl:Addr} {items:Array Value} {vl vu:Value} {lo hi:Option Int} {Q:Value -> Shared -> Prop} (ht:IsTup s.heap t items) (hs:s.heap.IsSliceOf sl vl vu .none) (pl:IsPart vl lo) (pu:IsPart vu hi)
  (h0:sIx items.size 0 lo = 0) (h1:sIx items.size items.size hi = items.size) (h:Q (.ref t) s):wpAny (model prog w) A (getItem (.ref t) (.ref sl)) Q E s:=by
 have hTs:s.TypeIs (.ref sl) "slice":=by obtain ⟨os,hos,hcs,_⟩:=hs; exact ⟨os,hos,hcs⟩
 unfold getItem
 try with_reducible refine wpAny_holding ?_
 first | refine wpAny_bind (wpAny_pure ?_) | skip
 refine wpAny_bind (wpAny_sequenceKey ht.typeIs (by decide) ?_)
 refine wpAny_bind (wpAny_callSpecial?_slot (name:=Str.ofString "__getitem__") ht.typeIs PyProof.Rows.slot_tuple_getitem
  (wpAny_call_entry PyProof.Rows.slot_tuple_getitem ht.typeIs entry_tuple_getitem ?_ (args_tuple_getitem _ _)))
 show wpAny _ _ (Builtin.Tuple.tupleItemsOf (.ref t) >>= _) _ _ s
 refine wpAny_bind (tupleItemsOf_ ht ?_)
 refine wpAny_bind (wpAny_typeOf hTs ?_)
 rw [if_pos (by decide)]
 refine wpAny_bind (sliceApplied_gen hs pl pu ?_)
 show wpAny _ _ (if (((sIx items.size 0 lo:Nat):Int) == 0 && (1:Int) == 1 && (sIx items.size items.size hi - sIx items.size 0 lo) == items.size) = true then _ else _) _ _ s
 rw [h0,h1,if_pos (by simp)]
 unfold Builtin.Tuple.tupleIsExact
 refine wpAny_bind (wpAny_bind (wpAny_typeOf ht.typeIs (wpAny_pure ?_)))
 rw [if_pos (by decide)]
 refine wpAny_bind (wpAny_rule ?_)
 exact wpAny_pure ⟨_,rfl,wpAny_pure h⟩
end
end HT
namespace L2
open PySem PySem.Spec PyProof.Rows
section
variable {X:Cx}
theorem sl_tupW:SlR X (fun x lo hi H Q => ∃ a xs,x = .ref a /\ SqT X.K H a xs /\ HT.sIx xs.length 0 lo = 0 /\ HT.sIx xs.length xs.length hi = xs.length /\ Q (.ref a) H):=by
 intro pins s σ H x v vl vu lo hi sl Q I rx hs pl pu h
 obtain ⟨a,xs,rfl,hx,h0,h1,q⟩:=h
 cases rx
 obtain ⟨its,r,ht,hz⟩:=I.tuple hx
 have hlen:its.toArray.size = xs.length:=by rw [List.size_toArray]; exact r.length.symm
 refine ⟨"tuple",_,PyProof.Rows.slot_tuple_getitem.lookup,ht.typeIs,?_⟩
 exact HT.getItem_tuple_whole ht hs pl pu (by rw [hlen]; exact h0) (by rw [hlen]; exact h1) ⟨.ref a,H,I,rfl,q⟩
end
end L2
namespace L2.Rv
open PySem PyProof.Rows
section
variable {P:Program} {w:World} {A:Around} {E:Value -> Shared -> Prop} {s:Shared}
theorem no_len:typeLookup (.type "list_reverseiterator") "__len__" = pure none:=by rw [typeLookup_type,builtinLookup_eq_fast]; kernel_rfl
theorem its_hint:typeLookup (.type "list_reverseiterator") "__length_hint__" = pure (some (.builtin "list_reverseiterator.__length_hint__")):=by rw [typeLookup_type,builtinLookup_eq_fast]; kernel_rfl
theorem hint_rev {it:Addr} {Q:Bool -> Shared -> Prop} (hT:s.TypeIs (.ref it) "list_reverseiterator") (h:Q false s):wpAny (model P w) A (Builtin.List.listLengthHint (.ref it)) Q E s:=by
 unfold Builtin.List.listLengthHint
 refine wpAny_bind (wpAny_specialOf hT no_len ?_)
 refine wpAny_ite_split (fun hab => absurd hab (by decide)) (fun _ => ?_)
 refine wpAny_ite_split (fun hab => absurd hab (by decide)) (fun _ => ?_)
 refine wpAny_bind (wpAny_specialOf hT its_hint ?_)
 generalize hid:("list_reverseiterator.__length_hint__":String) = id0
 wp_delta
 rw [show splitId id0 = some ("list_reverseiterator","__length_hint__") from by subst hid; decide +kernel]
 subst hid
 refine wpAny_bind (wpAny_isInstance (T:="list_reverseiterator") (b:=true) hT (by rw [isSubtype_type]; kernel_rfl) ?_)
 refine wpAny_ite_split (fun hab => absurd hab (by decide)) (fun _ => ?_)
 refine wpAny_ite_split (fun _ => ?_) (fun hab => absurd (by decide +kernel) hab)
 refine wpAny_ite_split (fun hab => absurd hab (by decide +kernel)) (fun _ => ?_)
 exact wpAny_pure h
noncomputable def Drawn (items:Array Value) (i:Nat) (v:Value):Prop:=items[items.size - 1 - i]? = some v
theorem extend_rev {R:Result -> Shared -> Prop} {it l S:Addr} {items:Array Value} (hh:A.handled = none) (hne:l ≠ it) (hit:s.heap.IsRevIter it l ((items.size:Int) - 1)) (hl:s.heap.IsList l items) (hn:items.size <= sizeLine) (hSi:S ≠ it) (hSl:S ≠ l) (res:Value)
  (hS:s.heap.get? S = some { cls:=.type "list",data:=.seq #[] })
  (hR:∀ h' tk acc c,(∀ b o,b ≠ S -> b ≠ it -> s.heap.get? b = some o -> h'.get? b = some o) -> h'.get? S = some { cls:=.type "list",dict:=none,data:=.seq acc c,slots:=#[] } -> ItemsOf (Drawn items) acc items.size -> R (.ok (.ret res)) { s with heap:=h',toks:=tk }) :
  wpAny (model P w) A.in1 (Builtin.List.listExtendWith (.ref S) (.ref it) res)
   (fun fin s' => match fin with | .done f => R (.ok f) s' | .again c' => c'.quiet = true /\ codeAny (model P w) A c' R s') (fun e s' => R (.error e) s') s:=by
 have hT:=hit.typeIs
 have W:=Walks.listRev (prog:=P) (w:=w) (A:=A.in1) (by simpa using hh) it l hne items
 have hSf:S ∉ [it,l]:=by simp [hSi,hSl]
 unfold Builtin.List.listExtendWith
 refine wpAny_bind (wpAny_typeOf hT ?_)
 have h1:Builtin.List.listSameRef (.ref S) (.ref it) = false:=by simp [Builtin.List.listSameRef,hSi]
 rw [if_neg (by rw [h1]; decide)]
 refine wpAny_bind (wpAny_pyIter_revIter hit ?_)
 refine wpAny_bind (wpAny_holding (hint_rev hT ?_))
 refine wpAny_ite_split (fun hab => absurd hab (by decide)) (fun _ => ?_)
 refine wpAny_pure ⟨plainId_quiet PySem.F.plain_extend_loop _,?_⟩
 refine codeAny_extend_loopS W.toS hn S hSf res items.size 0 s #[] 0 rfl (Nat.zero_le _) ⟨Nat.zero_le _,by simpa using hit,hl⟩ hS (ItemsOf.nil _) fun s' acc c hm hS' hacc => ?_
 rw [Moved.eq_with hm]
 refine hR s'.heap s'.toks acc c (fun b o hb hb2 e => hm.heap b o (fun z => ?_) e) hS' hacc
 rcases List.mem_cons.mp z with z | z
 ·exact hb z
 ·exact hb2 (List.mem_singleton.mp z)
end
end L2.Rv
namespace L2
open PySem PySem.Spec PyProof.Rows
section
variable {X:Cx}
theorem drawn_vals {its:List Value} {acc:Array Value} (h:ItemsOf (Rv.Drawn its.toArray) acc its.toArray.size):acc.toList = its.reverse:=by
 have hs:acc.size = its.length:=by rw [h.1,List.size_toArray]
 refine List.ext_getElem? fun i => ?_
 rw [Array.getElem?_toList]
 by_cases hi:i < its.length
 ·cases e:acc[i]? with
  | none => rw [Array.getElem?_eq_none_iff] at e; omega
  | some v =>
   have:=h.2 i v e
   unfold Rv.Drawn at this
   rw [List.size_toArray,List.getElem?_toArray] at this
   rw [List.getElem?_reverse hi,<- this]
 ·rw [Array.getElem?_eq_none (by omega),List.getElem?_eq_none (by rw [List.length_reverse]; omega)]
end
end L2
namespace L2.Rg
open PySem PyProof.Rows
section
variable {P:Program} {w:World} {A:Around} {E:Value -> Shared -> Prop} {s:Shared}
end
end L2.Rg
namespace L2
open PySem PySem.Spec PyProof.Rows
section
variable {X:Cx}
end
end L2
namespace L2.Rv
open PySem PyProof.Rows
open AutoSeq1 (wpAny_loadPart')
section
variable {P:Program} {w:World} {A:Around} {E:Value -> Shared -> Prop} {s:Shared}
theorem list_rev {Q:Value -> Shared -> Prop} {it l:Addr} {items:Array Value} (hh:A.handled = none) (hne:l ≠ it) (hit:s.heap.IsRevIter it l ((items.size:Int) - 1)) (hl:s.heap.IsList l items) (hn:items.size <= sizeLine)
  (h:∀ (h':Heap) (tk:Nat) (acc:Array Value) (c:Nat),(∀ b o,b ≠ it -> s.heap.get? b = some o -> h'.get? b = some o) -> h'.get? s.heap.objs.size = some { cls:=.type "list",dict:=none,data:=.seq acc c,slots:=#[] } -> ItemsOf (Drawn items) acc items.size -> Q (.ref s.heap.objs.size) { s with heap:=h',toks:=tk }) :
  wpAny (model P w) A (call (.type "list") [.ref it]) Q E s:=by
 have li:it < s.heap.objs.size:=by obtain ⟨o,ho,_⟩:=hit; exact Heap.lt_size ho
 have ll:l < s.heap.objs.size:=by obtain ⟨o,ho,_⟩:=hl; exact Heap.lt_size ho
 refine callType_codes F.called_list (F.typeCall_list_1 _) F.entry_list_init (code_list_new (.ref it) (Q₁:=fun obj s1 => obj = .ref s.heap.objs.size /\ s1 = { s with heap:=s.heap.push { cls:=.type "list",data:=.seq #[] } }) ⟨rfl,rfl⟩) fun obj s1 h1 => ?_
 obtain ⟨rfl,rfl⟩:=h1
 have hS:(s.heap.push { cls:=.type "list",data:=.seq #[] }).get? s.heap.objs.size = some { cls:=.type "list",data:=.seq #[] }:=Heap.get?_push_size _ rfl
 refine ⟨⟨_,hS,rfl⟩,F.args_list_init_2 _ _,?_⟩
 unfold Builtin.«list.__init__»
 generalize hX:Builtin.List.listExtendWith = X
 wp_walk using wpAny_loadPart' hS
 subst hX
 have g1:((s.heap.push { cls:=.type "list",data:=.seq #[] }).update s.heap.objs.size (Obj.mapSeq fun _ => #[])).get? s.heap.objs.size = some { cls:=.type "list",data:=.seq #[] }:=Heap.get?_update_self _ hS rfl
 have kp:∀ b o,b ≠ s.heap.objs.size -> s.heap.get? b = some o -> ((s.heap.push { cls:=.type "list",data:=.seq #[] }).update s.heap.objs.size (Obj.mapSeq fun _ => #[])).get? b = some o:=fun b o hb e => (Heap.SameBut.update ..).extBut b o hb (Heap.get?_push_of_some _ e)
 refine extend_rev (A:=A.in1) (by simpa using hh) hne (hit.at fun o e => kp _ o (Nat.ne_of_lt li) e) (hl.at fun o e => kp _ o (Nat.ne_of_lt ll) e) hn (Nat.ne_of_gt li) (Nat.ne_of_gt ll) .none g1 fun h' tk acc c k e i => ?_
 exact ⟨rfl,h h' tk acc c (fun b o hb q => k b o (Nat.ne_of_lt (Heap.lt_size q)) hb (kp b o (Nat.ne_of_lt (Heap.lt_size q)) q)) e i⟩
end
end L2.Rv
namespace L2
open PySem PySem.Spec PyProof.Rows
section
variable {X:Cx}
theorem pe_listRev {l:Expr} {tl:TE} {p p2 pos pos2:Pos} (hc:X.calm = true) (hg:Gl X "list") (hm:X.mg "list" = none) (hv:bootBuiltins "list" = some (.type "list")) (hg2:Gl X "reversed") (hm2:X.mg "reversed" = none) (hl:PE X l tl) (hs:starEach [l] X.env = [(false,eval l X.env)]:=by rfl) :
  PE X (.Call (.Name "list" p) [.Call (.Name "reversed" p2) [l] [] pos2] [] pos) (fun σ H Q => tl σ H fun x H1 => ∃ a xs,x = .ref a /\ SqL X.K H1 a xs /\ ∀ q,H1 q = none -> Q (.ref q) (upd H1 q (.lst xs.reverse))):=by
 intro pins s σ H Q I h
 refine wpAny_Call_Name_kw (ld_blt I hg hm hv ?_)
 refine PyProof.Rows.callWith_type1 (Calls.spliced_cons ?_) rfl rfl
 refine wpAny_Call_Name_kw (ld_blt I hg2 hm2 PyProof.Rows.boot_reversed ?_)
 refine PyProof.Rows.callWith_type1 (thn (pa_cons hl pa_nil hs pos2 pins s σ H (fun vs H1 => match vs with | [x] => ∃ a xs,x = .ref a /\ SqL X.K H1 a xs /\ ∀ q,H1 q = none -> Q (.ref q) (upd H1 q (.lst xs.reverse)) | _ => False) I h) fun us s1 ⟨vs,H1,I1,r1,q1⟩ => ?_) hs rfl
 cases r1 with
 | nil => exact q1.elim
 | cons r rr =>
  cases rr with
  | cons _ _ => exact q1.elim
  | nil =>
   obtain ⟨a,xs,e,hq,q⟩:=q1
   subst e
   cases r
   obtain ⟨its,rv,pl,hz⟩:=I1.list hq
   have la:a < s1.heap.objs.size:=by obtain ⟨o,ho,_⟩:=pl.isList; exact Heap.lt_size ho
   have hlen:its.toArray.size = xs.length:=by rw [List.size_toArray]; exact rv.length.symm
   refine call_reversed_list pl.isList (Calls.spliced_nil ?_)
   generalize hro:revObj a ((its.toArray.size:Int) - 1) = ro
   have gro:(s1.heap.push ro).get? s1.heap.objs.size = some ro:=Heap.get?_push_size _ (by rw [<- hro]; rfl)
   have I2:Inv X pins σ H1 { s1 with heap:=s1.heap.push ro }:=I1.kept (t':=s1.toks) fun b o e => Heap.get?_push_of_some _ e
   have hn:H1 s1.heap.objs.size = none:=I1.hok.fresh (Nat.le_refl _)
   obtain ⟨_,f1,_,f3,f4,f5⟩:=I1.fpOk (Nat.le_refl _) hn
   refine Rv.list_rev (s:={ s1 with heap:=s1.heap.push ro }) (it:=s1.heap.objs.size) (l:=a) (items:=its.toArray) (I1.ok.hd hc) (Nat.ne_of_lt la) ⟨_,gro,by rw [<- hro]; rfl,by rw [<- hro]; rfl⟩ (pl.isList.at fun o e => Heap.get?_push_of_some _ e) (by rw [hlen]; exact hz) fun h' tk acc c k e it => ?_
   have z:(s1.heap.push ro).objs.size = s1.heap.objs.size + 1:=Heap.size_push ..
   have ne:(s1.heap.push ro).objs.size ≠ s1.heap.objs.size:=by omega
   have g2:((s1.heap.push ro).push { cls:=.type "list",data:=.seq acc c }).get? (s1.heap.push ro).objs.size = some { cls:=.type "list",data:=.seq acc c }:=Heap.get?_push_size _ rfl
   have I3:Inv X pins σ (upd H1 (s1.heap.push ro).objs.size (.lst xs.reverse)) { s1 with heap:=(s1.heap.push ro).push { cls:=.type "list",data:=.seq acc c },toks:=s1.toks }:=I2.laid (fun b o e => Heap.get?_push_of_some _ e) (Nat.le_refl _) ⟨by rw [List.length_reverse]; exact hz,acc.toList,c,by rw [drawn_vals it]; exact rv.reverse,by rw [Array.toArray_toList]; exact g2⟩
   have hn2:H1 (s1.heap.push ro).objs.size = none:=I1.hok.fresh (by omega)
   have I4:=I3.turned (t':=tk) (it:=s1.heap.objs.size) (h':=h') (fun b o hb e1 => by
    by_cases eb:b = (s1.heap.push ro).objs.size
    ·subst eb
     have e1:((s1.heap.push ro).push { cls:=.type "list",data:=.seq acc c }).get? (s1.heap.push ro).objs.size = some o:=e1
     rw [g2] at e1
     cases e1
     exact e
    ·refine k b o hb ?_
     have e1:((s1.heap.push ro).push { cls:=.type "list",data:=.seq acc c }).get? b = some o:=e1
     show (s1.heap.push ro).get? b = some o
     rw [<- Heap.get?_push_ne _ _ _ eb]
     exact e1) (by rw [upd_ne ne.symm]; exact hn) f1 f3 f4 f5
   exact ⟨.ref (s1.heap.push ro).objs.size,_,I4,rfl,q _ hn2⟩
theorem c_strInt:CallR X (.type "str") (fun us H Q => ∃ i:Int,us = [.int i] /\ i.natAbs < 2 ^ 64 /\ Q (.str (Str.ofString (toString i))) H):=by
 intro pins s σ H xs us Q I r h
 obtain ⟨i,rfl,hi,q⟩:=h
 obtain ⟨u,rfl,ru⟩:=vals1 r
 obtain ⟨t,rfl⟩:=ru
 refine PySem.P.str_of_int ?_ ⟨.str _,H,I.tok _,⟨s.toks,rfl⟩,q⟩
 by_cases z:i.natAbs = 0
 ·rw [z]; decide
 ·have:=(Nat.log2_lt z (k:=64)).mpr hi
  omega
noncomputable def rJoin (K:PySem.W.Frag):V -> List V -> Hp -> VK -> Prop:=fun x vs H Q => ∃ sep a ws,x = .str sep /\ vs = [.ref a] /\ SqL K H a (ws.map V.str) /\ (ws.map fun y => y.length + sep.length).sum <= 1000000 /\ Q (.str (Builtin.Str.glued sep ws)) H
theorem str_vals:∀ {ws:List Str} {its:List Value},Vals (ws.map V.str) its -> ∃ l:List (Str × Tok),its = strValues l /\ l.map (·.1) = ws
 | [],_,h => by cases h; exact ⟨[],rfl,rfl⟩
 | y :: ws,_,h => by
  cases h with
  | cons r t =>
   obtain ⟨tk,rfl⟩:=r
   obtain ⟨l,rfl,e⟩:=str_vals t
   exact ⟨(y,tk) :: l,rfl,by rw [List.map_cons,e]⟩
theorem glue_len (g:Array Nat):∀ (ps:List Str) (a:Array Nat),(ps.foldl (fun acc (p:Str) => acc ++ g ++ p.cps) a).size = a.size + (ps.map fun p => p.length + g.size).sum
 | [],a => by simp
 | p :: ps,a => by
  rw [List.foldl_cons,glue_len g ps,List.map_cons,List.sum_cons,Array.size_append,Array.size_append]
  show a.size + g.size + p.cps.size + _ = a.size + (p.cps.size + g.size + _)
  omega
theorem glued_le (sep:Str):∀ (ws:List Str),(Builtin.Str.glued sep ws).length <= (ws.map fun y => y.length + sep.length).sum
 | [] => Nat.zero_le _
 | w :: ws => by
  show (ws.foldl (fun acc (p:Str) => acc ++ sep.cps ++ p.cps) w.cps).size <= _
  rw [glue_len,List.map_cons,List.sum_cons]
  show w.cps.size + _ <= w.cps.size + sep.cps.size + (ws.map fun y => y.length + sep.cps.size).sum
  omega
theorem fold_sum (sep:Str):∀ (ws:List Str) (n:Nat),ws.foldl (fun x1 x2 => x1 + x2.length + sep.length) n = n + (ws.map fun y => y.length + sep.length).sum
 | [],n => rfl
 | w :: ws,n => by
  rw [List.foldl_cons,fold_sum sep ws,List.map_cons,List.sum_cons]
  omega
theorem mt_join:MtM X "str.join" (rJoin X.K):=by
 intro pins s σ H x vs v us Q I rx rv h
 obtain ⟨sep,a,ws,rfl,rfl,hq,hz,q⟩:=h
 obtain ⟨t,rfl⟩:=rx
 obtain ⟨u,rfl,ru⟩:=rv.one
 cases ru
 obtain ⟨its,r,pl,_⟩:=I.list hq
 obtain ⟨l,rfl,rfl⟩:=str_vals r
 have big:1000000 <= sizeLine:=by rw [sizeLine_eq]; decide
 have hlen:=glued_le sep (l.map (·.1))
 refine call_meets F.slot_str_join rfl F.entry_str_join (F.args_str_join_2 _ _) (meets_str_join_list sep t a l ?_) ⟨pl.isList,?_⟩
 ·unfold Builtin.Str.tooLong
  rw [List.foldl_toArray,fold_sum]
  refine decide_eq_false ?_
  omega
 ·have gen:(Made.str (Builtin.Str.glued sep (l.map (·.1)))).post (fun v s' => wants (EP X pins σ Q) X.xe (Except.ok (Flow.ret v)) s') s:=by
   simp only [Made.post]
   exact ⟨by omega,⟨.str _,H,I.tok _,⟨s.toks,rfl⟩,q⟩⟩
  match l,q,gen with
  | [],_,gen => exact gen
  | [p],q,_ =>
   show wants (EP X pins σ Q) X.xe (Except.ok (Flow.ret (Value.str p.1 p.2))) s
   exact ⟨.str p.1,H,I,⟨p.2,rfl⟩,q⟩
  | _ :: _ :: _,_,gen => exact gen
end
end L2
namespace L2.Zp
open PySem PyProof.Rows
open AutoSeq1 (wpAny_loadPart')
section
variable {P:Program} {w:World} {A:Around} {E:Value -> Shared -> Prop} {s:Shared}
structure Apart (z TI TO i1 i2 l1 l2:Addr):Prop where
 zTI:z ≠ TI
 zTO:z ≠ TO
 zi1:z ≠ i1
 zi2:z ≠ i2
 TITO:TI ≠ TO
 TIi1:TI ≠ i1
 TIi2:TI ≠ i2
 TOi1:TO ≠ i1
 TOi2:TO ≠ i2
 i12:i1 ≠ i2
 l1z:l1 ≠ z
 l1TO:l1 ≠ TO
 l1i1:l1 ≠ i1
 l1i2:l1 ≠ i2
 l2z:l2 ≠ z
 l2TO:l2 ≠ TO
 l2i1:l2 ≠ i1
 l2i2:l2 ≠ i2
set_option maxHeartbeats 2000000 in
theorem zip_item {z TI TO i1 i2 l1 l2:Addr} {k:Nat} {xs ys:Array Value} {x y a b:Value} {Q:Value -> Shared -> Prop} (hh:A.handled = none) (ap:Apart z TI TO i1 i2 l1 l2) (hz:IsZip s.heap z TI TO .none) (hI:IsPair s.heap TI (.ref i1) (.ref i2)) (hO:IsPair s.heap TO a b)
  (h1:s.heap.IsTupleIter i1 l1 k) (h2:s.heap.IsTupleIter i2 l2 k) (t1:s.heap.IsTuple l1 xs) (t2:s.heap.IsTuple l2 ys) (e1:xs[k]? = some x) (e2:ys[k]? = some y)
  (hQ:∀ h',IsZip h' z TI TO (rawInt s.heap.objs.size) -> IsPair h' TO x y -> h'.IsTupleIter i1 l1 (k + 1) -> h'.IsTupleIter i2 l2 (k + 1) -> IsPair h' s.heap.objs.size x y -> h'.objs.size = s.heap.objs.size + 1 -> (∀ c o,c ≠ z -> c ≠ TO -> c ≠ i1 -> c ≠ i2 -> s.heap.get? c = some o -> h'.get? c = some o) -> Q (.ref s.heap.objs.size) { s with heap:=h' }) :
  wpAny (model P w) A (Builtin.«zip.__next__» ⟨[.ref z],[]⟩) (fun fin s' => ∃ v,fin = .done (.ret v) /\ Q v s') E s:=by
 unfold Builtin.«zip.__next__»
 wp_walk using wpAny_loadPart' hz,wpAny_loadPart' hI
 generalize hA:s.heap.update z (Obj.mapFields fun x => x.setIfInBounds 0 Value.ellipsis) = hp1
 have z1:hp1.get? z = some { cls:=.type "zip",data:=.fields #[.ellipsis,.bool false,.bool false,.ref TI,.ref TO] }:=by
  rw [<- hA]
  exact Heap.get?_update_self _ hz rfl
 have o1:∀ b,b ≠ z -> hp1.get? b = s.heap.get? b:=fun b hb => by
  rw [<- hA]
  exact (Heap.SameBut.update s.heap z _).2 b hb
 have n1:hp1.objs.size = s.heap.objs.size:=by
  rw [<- hA]
  exact (Heap.SameBut.update s.heap z _).1
 have it1:hp1.IsTupleIter i1 l1 k:=h1.at fun o e => (o1 i1 ap.zi1.symm).trans e
 have it2:hp1.IsTupleIter i2 l2 k:=h2.at fun o e => (o1 i2 ap.zi2.symm).trans e
 have tu1:hp1.IsTuple l1 xs:=t1.at fun o e => (o1 l1 ap.l1z).trans e
 have tu2:hp1.IsTuple l2 ys:=t2.at fun o e => (o1 l2 ap.l2z).trans e
 show wpAny (model P w) A ((do let v <- Builtin.SmallTypes.nextOf (.ref i1); pure (some v)).onRaise fun _ => setField (.ref z) 0 .none) _ _ _
 refine wpAny_onRaise (wpAny_bind (En.next_item (s:={ s with heap:=hp1 }) hh it1 tu1 (fun x' hp2 ex st1 sb1 => ?_) fun h' e en _ _ => absurd (en.symm.trans e1) (by simp)))
 obtain rfl:x' = x:=Option.some.inj (ex.symm.trans e1)
 have hO2:hp2.get? TO = some { cls:=.type "tuple",data:=.seq #[a,b] }:=(sb1.2 TO ap.TOi1).trans ((o1 TO ap.zTO.symm).trans hO)
 have hI2:hp2.get? TI = some { cls:=.type "tuple",data:=.seq #[.ref i1,.ref i2] }:=(sb1.2 TI ap.TIi1).trans ((o1 TI ap.zTI.symm).trans hI)
 wp_walk using wpAny_loadPart' hO2
 generalize hB:hp2.update TO (Obj.mapSeq fun v => v.setIfInBounds 0 x') = hp3
 have o3:∀ b,b ≠ TO -> hp3.get? b = hp2.get? b:=fun b hb => by
  rw [<- hB]
  exact (Heap.SameBut.update hp2 TO _).2 b hb
 have hO3:hp3.get? TO = some { cls:=.type "tuple",data:=.seq #[x',b] }:=by
  rw [<- hB]
  exact Heap.get?_update_self _ hO2 rfl
 have n3:hp3.objs.size = hp2.objs.size:=by
  rw [<- hB]
  exact (Heap.SameBut.update hp2 TO _).1
 have st1':hp3.IsTupleIter i1 l1 (k + 1):=st1.at fun o e => (o3 i1 ap.TOi1.symm).trans e
 have it2':hp3.IsTupleIter i2 l2 k:=it2.at fun o e => (o3 i2 ap.TOi2.symm).trans ((sb1.2 i2 ap.i12.symm).trans e)
 have tu2':hp3.IsTuple l2 ys:=tu2.at fun o e => (o3 l2 ap.l2TO).trans ((sb1.2 l2 ap.l2i1).trans e)
 show wpAny (model P w) A ((do let v <- Builtin.SmallTypes.nextOf (.ref i2); pure (some v)).onRaise fun _ => setField (.ref z) 0 .none) _ _ _
 refine wpAny_onRaise (wpAny_bind (En.next_item (s:={ s with heap:=hp3 }) hh it2' tu2' (fun y' hp4 ey st2 sb2 => ?_) fun h' e en _ _ => absurd (en.symm.trans e2) (by simp)))
 obtain rfl:y' = y:=Option.some.inj (ey.symm.trans e2)
 have hO4:hp4.get? TO = some { cls:=.type "tuple",data:=.seq #[x',b] }:=(sb2.2 TO ap.TOi2).trans hO3
 have z4:hp4.get? z = some { cls:=.type "zip",data:=.fields #[.ellipsis,.bool false,.bool false,.ref TI,.ref TO] }:=(sb2.2 z ap.zi2).trans ((o3 z ap.zTO).trans ((sb1.2 z ap.zi1).trans z1))
 have hO5:(hp4.update TO (Obj.mapSeq fun v => v.setIfInBounds 1 y')).get? TO = some { cls:=.type "tuple",data:=.seq #[x',y'] }:=Heap.get?_update_self _ hO4 rfl
 wp_walk using wpAny_loadPart' hO4
 generalize hC:hp4.update TO (Obj.mapSeq fun v => v.setIfInBounds (0 + 1) y') = hp5
 have o5:∀ b,b ≠ TO -> hp5.get? b = hp4.get? b:=fun b hb => by
  rw [<- hC]
  exact (Heap.SameBut.update hp4 TO _).2 b hb
 have hO6:hp5.get? TO = some { cls:=.type "tuple",data:=.seq #[x',y'] }:=by
  rw [<- hC]
  exact Heap.get?_update_self _ hO4 rfl
 have n5:hp5.objs.size = s.heap.objs.size:=by
  rw [<- hC]
  exact (Heap.SameBut.update hp4 TO _).1.trans (sb2.1.trans (n3.trans (sb1.1.trans n1)))
 have z5:hp5.get? z = some { cls:=.type "zip",data:=.fields #[.ellipsis,.bool false,.bool false,.ref TI,.ref TO] }:=(o5 z ap.zTO).trans z4
 have low:∀ c o,c ≠ z -> c ≠ TO -> c ≠ i1 -> c ≠ i2 -> s.heap.get? c = some o -> hp5.get? c = some o:=fun c o a1 a2 a3 a4 e => (o5 c a2).trans ((sb2.2 c a4).trans ((o3 c a2).trans ((sb1.2 c a3).trans ((o1 c a1).trans e))))
 have j1:hp5.IsTupleIter i1 l1 (k + 1):=st1'.at fun o e => (o5 i1 ap.TOi1.symm).trans ((sb2.2 i1 ap.i12).trans e)
 have j2:hp5.IsTupleIter i2 l2 (k + 1):=st2.at fun o e => (o5 i2 ap.TOi2.symm).trans e
 generalize hD:hp5.push { cls:=.type "tuple",data:=.seq #[x',y'].toList.toArray } = hp6
 have k6:∀ b o,hp5.get? b = some o -> hp6.get? b = some o:=fun b o e => by
  rw [<- hD]
  exact Heap.get?_push_of_some _ e
 have t6:hp6.get? hp5.objs.size = some { cls:=.type "tuple",data:=.seq #[x',y'] }:=by
  rw [<- hD]
  exact Heap.get?_push_size _ rfl
 have n6:hp6.objs.size = s.heap.objs.size + 1:=by rw [<- hD,Heap.size_push,n5]
 have z6:=k6 z _ z5
 have z7:(hp6.update z (Obj.mapFields fun v => v.setIfInBounds 0 (rawInt hp5.objs.size))).get? z = some { cls:=.type "zip",data:=.fields #[rawInt hp5.objs.size,.bool false,.bool false,.ref TI,.ref TO] }:=Heap.get?_update_self _ z6 rfl
 have zn:z ≠ hp5.objs.size:=Nat.ne_of_lt (Heap.lt_size z5)
 wp_walk using wpAny_load z6,wpAny_load z7
 have z8:((hp6.update z (Obj.mapFields fun v => v.setIfInBounds 0 (rawInt hp5.objs.size))).update z (Obj.mapFields fun v => v.setIfInBounds 1 (.bool false))).get? z = some { cls:=.type "zip",data:=.fields #[rawInt hp5.objs.size,.bool false,.bool false,.ref TI,.ref TO] }:=Heap.get?_update_self _ z7 rfl
 have o8:∀ b,b ≠ z -> ((hp6.update z (Obj.mapFields fun v => v.setIfInBounds 0 (rawInt hp5.objs.size))).update z (Obj.mapFields fun v => v.setIfInBounds 1 (.bool false))).get? b = hp6.get? b:=fun b hb => ((Heap.SameBut.update _ z _).2 b hb).trans ((Heap.SameBut.update hp6 z _).2 b hb)
 have n8:((hp6.update z (Obj.mapFields fun v => v.setIfInBounds 0 (rawInt hp5.objs.size))).update z (Obj.mapFields fun v => v.setIfInBounds 1 (.bool false))).objs.size = s.heap.objs.size + 1:=((Heap.SameBut.update _ z _).1).trans ((Heap.SameBut.update hp6 z _).1.trans n6)
 rw [n5] at z8 o8 n8 t6 zn ⊢
 exact ⟨_,rfl,hQ _ z8 ((o8 TO ap.zTO.symm).trans (k6 _ _ hO6)) (j1.at fun o e => (o8 i1 ap.zi1.symm).trans (k6 _ _ e)) (j2.at fun o e => (o8 i2 ap.zi2.symm).trans (k6 _ _ e)) ((o8 _ zn.symm).trans t6) n8 fun c o a1 a2 a3 a4 e => (o8 c a1).trans (k6 _ _ (low c o a1 a2 a3 a4 e))⟩
set_option maxHeartbeats 2000000 in
theorem zip_end {z TI TO i1 i2 l1 l2:Addr} {k:Nat} {xs:Array Value} {a b:Value} {Q:Fin -> Shared -> Prop} (hh:A.handled = none) (ap:Apart z TI TO i1 i2 l1 l2) (hz:IsZip s.heap z TI TO .none) (hI:IsPair s.heap TI (.ref i1) (.ref i2)) (hO:IsPair s.heap TO a b)
  (h1:s.heap.IsTupleIter i1 l1 k) (t1:s.heap.IsTuple l1 xs) (e1:xs[k]? = none)
  (hE:∀ h' e,(∀ c o,c ≠ z -> c ≠ TO -> c ≠ i1 -> c ≠ i2 -> s.heap.get? c = some o -> h'.get? c = some o) -> (∃ o,h'.get? e = some o /\ o.cls = .type "StopIteration") -> E (.ref e) { s with heap:=h' }) :
  wpAny (model P w) A (Builtin.«zip.__next__» ⟨[.ref z],[]⟩) Q E s:=by
 unfold Builtin.«zip.__next__»
 wp_walk using wpAny_loadPart' hz,wpAny_loadPart' hI
 generalize hA:s.heap.update z (Obj.mapFields fun x => x.setIfInBounds 0 Value.ellipsis) = hp1
 have z1:hp1.get? z = some { cls:=.type "zip",data:=.fields #[.ellipsis,.bool false,.bool false,.ref TI,.ref TO] }:=by
  rw [<- hA]
  exact Heap.get?_update_self _ hz rfl
 have o1:∀ b,b ≠ z -> hp1.get? b = s.heap.get? b:=fun b hb => by
  rw [<- hA]
  exact (Heap.SameBut.update s.heap z _).2 b hb
 have it1:hp1.IsTupleIter i1 l1 k:=h1.at fun o e => (o1 i1 ap.zi1.symm).trans e
 have tu1:hp1.IsTuple l1 xs:=t1.at fun o e => (o1 l1 ap.l1z).trans e
 show wpAny (model P w) A ((do let v <- Builtin.SmallTypes.nextOf (.ref i1); pure (some v)).onRaise fun _ => setField (.ref z) 0 .none) _ _ _
 refine wpAny_onRaise (wpAny_bind (En.next_item (s:={ s with heap:=hp1 }) hh it1 tu1 (fun x' hp2 ex _ _ => absurd (ex.symm.trans e1) (by simp)) fun h' e _ eb st => ?_))
 have zz:=eb z _ ap.zi1 z1
 refine wpAny_setField zz rfl (by simp) ?_
 obtain ⟨o,ho,hc⟩:=st
 have oz:∀ b,b ≠ z -> (h'.update z (Obj.mapFields (·.setIfInBounds 0 .none))).get? b = h'.get? b:=fun b hb => (Heap.SameBut.update h' z _).2 b hb
 refine hE _ e (fun c o a1 a2 a3 a4 q => (oz c a1).trans (eb c o a3 ((o1 c a1).trans q))) ⟨o,(oz e fun q => ?_).trans ho,hc⟩
 rw [q,zz] at ho
 cases ho
 exact absurd (show Value.type "zip" = Value.type "StopIteration" from hc) (by decide)
end
end L2.Zp
namespace L2.Zp
open PySem PyProof.Rows
open AutoSeq1 (wpAny_loadPart')
section
variable {P:Program} {w:World} {A:Around} {E:Value -> Shared -> Prop} {s:Shared}
theorem next_item {z TI TO i1 i2 l1 l2:Addr} {k:Nat} {xs ys:Array Value} {x y a b:Value} {Q:Option Value -> Shared -> Prop} (hh:A.handled = none) (ap:Apart z TI TO i1 i2 l1 l2) (hz:IsZip s.heap z TI TO .none) (hI:IsPair s.heap TI (.ref i1) (.ref i2)) (hO:IsPair s.heap TO a b)
  (h1:s.heap.IsTupleIter i1 l1 k) (h2:s.heap.IsTupleIter i2 l2 k) (t1:s.heap.IsTuple l1 xs) (t2:s.heap.IsTuple l2 ys) (e1:xs[k]? = some x) (e2:ys[k]? = some y)
  (hQ:∀ h',IsZip h' z TI TO (rawInt s.heap.objs.size) -> IsPair h' TO x y -> h'.IsTupleIter i1 l1 (k + 1) -> h'.IsTupleIter i2 l2 (k + 1) -> IsPair h' s.heap.objs.size x y -> h'.objs.size = s.heap.objs.size + 1 -> (∀ c o,c ≠ z -> c ≠ TO -> c ≠ i1 -> c ≠ i2 -> s.heap.get? c = some o -> h'.get? c = some o) -> Q (some (.ref s.heap.objs.size)) { s with heap:=h' }) :
  wpAny (model P w) A (pyNext (.ref z)) Q E s:=by
 have ty:s.TypeIs (.ref z) "zip":=⟨_,hz,rfl⟩
 unfold pyNext
 refine wpAny_bind (wpAny_attempt (wpAny_callSpecial?_slot (name:=Str.ofString "__next__") ty F.slot_zip_next (wpAny_call_entry F.slot_zip_next ty F.entry_zip_next ?_ (F.args_zip_next_1 _))))
 refine wpAny_mono (zip_item (A:=A.in1) (by simpa using hh) ap hz hI hO h1 h2 t1 t2 e1 e2 (Q:=fun v s' => v = .ref s.heap.objs.size /\ Q (some v) s') fun h' a1 a2 a3 a4 a5 a6 a7 => ⟨rfl,hQ h' a1 a2 a3 a4 a5 a6 a7⟩) (fun fin s' hv => ?_) fun _ _ z => z
 obtain ⟨v,rfl,_,q⟩:=hv
 exact ⟨v,rfl,wpAny_pure q⟩
theorem next_end {z TI TO i1 i2 l1 l2:Addr} {k:Nat} {xs:Array Value} {a b:Value} {Q:Option Value -> Shared -> Prop} (hh:A.handled = none) (ap:Apart z TI TO i1 i2 l1 l2) (hz:IsZip s.heap z TI TO .none) (hI:IsPair s.heap TI (.ref i1) (.ref i2)) (hO:IsPair s.heap TO a b)
  (h1:s.heap.IsTupleIter i1 l1 k) (t1:s.heap.IsTuple l1 xs) (e1:xs[k]? = none)
  (hQ:∀ h',(∀ c o,c ≠ z -> c ≠ TO -> c ≠ i1 -> c ≠ i2 -> s.heap.get? c = some o -> h'.get? c = some o) -> Q none { s with heap:=h' }) :
  wpAny (model P w) A (pyNext (.ref z)) Q E s:=by
 have ty:s.TypeIs (.ref z) "zip":=⟨_,hz,rfl⟩
 unfold pyNext
 refine wpAny_bind (wpAny_attempt (wpAny_callSpecial?_slot (name:=Str.ofString "__next__") ty F.slot_zip_next (wpAny_call_entry F.slot_zip_next ty F.entry_zip_next ?_ (F.args_zip_next_1 _))))
 refine zip_end (A:=A.in1) (by simpa using hh) ap hz hI hO h1 t1 e1 fun h' e k st => ?_
 refine wpAny_bind (wpAny_isInstance (T:="StopIteration") (b:=true) st isSubtype_stop ?_)
 exact wpAny_pure (hQ h' k)
theorem apart_new {n a b:Nat} (la:a < n) (lb:b < n):Apart (n + 4) (n + 2) (n + 3) n (n + 1) a b:=by
 constructor <;> exact fun e => by simp only [Addr] at e; omega
noncomputable abbrev ob1 (l:Addr):Obj:={ cls:=.type "tuple_iterator",data:=.fields #[.ref l,.int 0 0] }
noncomputable abbrev ob2 (a b:Value):Obj:={ cls:=.type "tuple",data:=.seq #[a,b] }
noncomputable abbrev ob3 (a b:Addr):Obj:={ cls:=.type "zip",data:=.fields #[.none,.bool false,.bool false,.ref a,.ref b] }
noncomputable def H2 (h:Heap) (l1 l2:Addr):Heap:=(h.push (ob1 l1)).push (ob1 l2)
noncomputable def H3 (h:Heap) (l1 l2:Addr):Heap:=(H2 h l1 l2).push (ob2 (.ref h.objs.size) (.ref (h.push (ob1 l1)).objs.size))
noncomputable def H4 (h:Heap) (l1 l2:Addr):Heap:=(H3 h l1 l2).push (ob2 .none .none)
noncomputable def H5 (h:Heap) (l1 l2:Addr):Heap:=(H4 h l1 l2).push (ob3 (H2 h l1 l2).objs.size (H3 h l1 l2).objs.size)
theorem zip_new (l1 l2:Addr) (xs ys:Array Value) :
  Meets (Builtin.«zip.__new__» ⟨[.type "zip",.ref l1,.ref l2],[]⟩) (fun _ R s => s.heap.IsTuple l1 xs /\ s.heap.IsTuple l2 ys /\ R (.ok (.ret (.ref (H4 s.heap l1 l2).objs.size))) { s with heap:=H5 s.heap l1 l2 }):=by
 refine .of_wp fun P w A R s h => ?_
 obtain ⟨hp,g,d,tk,os⟩:=s
 obtain ⟨t1,t2,h⟩:=h
 have t2':Heap.IsTuple (Shared.heap ⟨hp.push { cls:=.type "tuple_iterator",data:=.fields #[.ref l1,.int 0 0] },g,d,tk,os⟩) l2 ys:=Heap.IsTuple.at (h:=hp) t2 fun o e => Heap.get?_push_of_some _ e
 have sz:=sub_zip
 unfold Builtin.«zip.__new__»
 wp_walk using wpAny_pyIter_tuple t1,wpAny_pyIter_tuple t2'
 exact ⟨_,rfl,h⟩
theorem call_zip {l1 l2:Addr} {xs ys:Array Value} {Q:Value -> Shared -> Prop} (t1:s.heap.IsTuple l1 xs) (t2:s.heap.IsTuple l2 ys)
  (h:∀ h',IsZip h' (s.heap.objs.size + 4) (s.heap.objs.size + 2) (s.heap.objs.size + 3) .none -> IsPair h' (s.heap.objs.size + 2) (.ref s.heap.objs.size) (.ref (s.heap.objs.size + 1)) -> IsPair h' (s.heap.objs.size + 3) .none .none ->
   h'.IsTupleIter s.heap.objs.size l1 0 -> h'.IsTupleIter (s.heap.objs.size + 1) l2 0 -> (∀ c o,s.heap.get? c = some o -> h'.get? c = some o) -> Q (.ref (s.heap.objs.size + 4)) { s with heap:=h' }) :
  wpAny (model P w) A (call (.type "zip") [.ref l1,.ref l2]) Q E s:=by
 refine callType_new F.called_zip (by decide) (F.typeCall_zip_2 _ _) (F.newCall_zip_2 _ _) (fun v => F.args_object_init_3 v _ _) F.entry_zip_new (zip_new l1 l2 xs ys) ⟨t1,t2,?_⟩
 have n1:(s.heap.push (ob1 l1)).objs.size = s.heap.objs.size + 1:=Heap.size_push ..
 have n2:(H2 s.heap l1 l2).objs.size = s.heap.objs.size + 2:=(Heap.size_push ..).trans (by rw [n1])
 have n3:(H3 s.heap l1 l2).objs.size = s.heap.objs.size + 3:=(Heap.size_push ..).trans (by rw [n2])
 have n4:(H4 s.heap l1 l2).objs.size = s.heap.objs.size + 4:=(Heap.size_push ..).trans (by rw [n3])
 have k0:∀ b o,s.heap.get? b = some o -> (s.heap.push (ob1 l1)).get? b = some o:=fun b o e => Heap.get?_push_of_some _ e
 have k1:∀ b o,(s.heap.push (ob1 l1)).get? b = some o -> (H2 s.heap l1 l2).get? b = some o:=fun b o e => Heap.get?_push_of_some _ e
 have k2:∀ b o,(H2 s.heap l1 l2).get? b = some o -> (H3 s.heap l1 l2).get? b = some o:=fun b o e => Heap.get?_push_of_some _ e
 have k3:∀ b o,(H3 s.heap l1 l2).get? b = some o -> (H4 s.heap l1 l2).get? b = some o:=fun b o e => Heap.get?_push_of_some _ e
 have k4:∀ b o,(H4 s.heap l1 l2).get? b = some o -> (H5 s.heap l1 l2).get? b = some o:=fun b o e => Heap.get?_push_of_some _ e
 have g0:(s.heap.push (ob1 l1)).get? s.heap.objs.size = some (ob1 l1):=Heap.get?_push_size _ rfl
 have g1:(H2 s.heap l1 l2).get? (s.heap.objs.size + 1) = some (ob1 l2):=by rw [<- n1]; exact Heap.get?_push_size _ rfl
 have g2:(H3 s.heap l1 l2).get? (s.heap.objs.size + 2) = some (ob2 (.ref s.heap.objs.size) (.ref (s.heap.objs.size + 1))):=by rw [<- n2,<- n1]; exact Heap.get?_push_size _ rfl
 have g3:(H4 s.heap l1 l2).get? (s.heap.objs.size + 3) = some (ob2 .none .none):=by rw [<- n3]; exact Heap.get?_push_size _ rfl
 have g4:(H5 s.heap l1 l2).get? (s.heap.objs.size + 4) = some (ob3 (s.heap.objs.size + 2) (s.heap.objs.size + 3)):=by rw [<- n4,<- n2,<- n3]; exact Heap.get?_push_size _ rfl
 show Shared.TypeIs _ (.ref (H4 s.heap l1 l2).objs.size) _ /\ Q (.ref (H4 s.heap l1 l2).objs.size) _
 rw [n4]
 exact ⟨⟨_,g4,rfl⟩,h _ g4 (k4 _ _ (k3 _ _ g2)) (k4 _ _ g3) ⟨_,k4 _ _ (k3 _ _ (k2 _ _ (k1 _ _ g0))),rfl,rfl⟩ ⟨_,k4 _ _ (k3 _ _ (k2 _ _ g1)),rfl,rfl⟩ fun c o e => k4 _ _ (k3 _ _ (k2 _ _ (k1 _ _ (k0 _ _ e))))⟩
end
end L2.Zp
namespace L2
open PySem PySem.Spec PyProof.Rows
noncomputable def Itz (K:PySem.W.Frag) (a b:Addr):It :=
 ⟨fun i H => ∃ xs ys,SqT K H a xs /\ SqT K H b ys /\ xs.length = ys.length /\ i < xs.length,fun i H x H' => ∃ p,x = .ref p /\ H p = none /\ ∃ u v,H' = upd H p (.tup [u,v]) /\ (∀ xs,SqT K H a xs -> xs[i]? = some u) /\ ∀ ys,SqT K H b ys -> ys[i]? = some v,fun i H => ∃ xs,SqT K H a xs /\ i = xs.length⟩
theorem Inv.turnedL {X:Cx} {pins:List (Addr × Obj)} {σ:St} {H:Hp} {s:Shared} {h':Heap} {t':Nat} {L:List Addr} (I:Inv X pins σ H s) (k:∀ b o,b ∉ L -> s.heap.get? b = some o -> h'.get? b = some o) (hf:∀ b ∈ L,FpOk X pins H b):Inv X pins σ H { s with heap:=h',toks:=t' }:=by
 have out:∀ b u,H b = some u -> b ∉ L:=fun b u e z => by
  have:=(hf b z).1
  rw [e] at this
  cases this
 have own:X.env.locals ∉ L:=fun z => (hf _ z).2.1 rfl
 refine I.step (g':=s.gens) (d':=s.drawn) (ch:=L) (fun b hb => ⟨(hf b hb).2.2.2.1,(hf b hb).2.1,(hf b hb).2.2.2.2.1,(hf b hb).2.2.2.2.2⟩)
  (fun b o _ _ hb e _ => k b o hb e) (fun b o _ _ hb e _ => ⟨o.slots,k b o hb e⟩) (fun _ _ _ _ n => n) (fun b o hb e => ⟨o,k b o hb e⟩)
  (fun _ _ e => e) (fun _ _ _ e => e) (fun b ps e => ⟨#[],by rw [e]; simp⟩) (fun m hm => ?_) (fun b u e => ?_) I.bare
 ·obtain ⟨o,es,ep,ho,r⟩:=hm
  exact ⟨o,es,ep,k _ o own ho,r⟩
 ·refine (I.hok b u e).stay (fun c v hc q => k c v ?_ q) (fun _ q => q) fun _ _ q => q
  rcases hc with hc | hc
  ·rw [hc]
   exact out b u e
  ·exact out c _ hc
theorem turn_zip {P:Program} {w:World} {K:PySem.W.Frag} {ts:List Expr} {j:Nat} {tp:Pos} {z TI TO i1 i2 a b:Addr} (ap:Zp.Apart z TI TO i1 i2 a b) :
  Turn P w K (.Tuple ts j tp) (Itz K a b) [z,TI,TO,i1,i2] z (fun i h => IsZip h z TI TO .none /\ IsPair h TI (.ref i1) (.ref i2) /\ (∃ p q,IsPair h TO p q) /\ h.IsTupleIter i1 a i /\ h.IsTupleIter i2 b i) where
 mem:=.head _
 obj:=fun i h ⟨h1,h2,⟨p,q,h3⟩,⟨o4,e4,_,d4⟩,⟨o5,e5,_,d5⟩⟩ c hc => by
  simp only [List.mem_cons,List.not_mem_nil,or_false] at hc
  rcases hc with rfl | rfl | rfl | rfl | rfl
  ·exact ⟨_,h1,fun v e => by cases e⟩
  ·exact ⟨_,h2,fun v e => by cases e⟩
  ·exact ⟨_,h3,fun v e => by cases e⟩
  ·exact ⟨o4,e4,fun v e => by rw [d4] at e; cases e⟩
  ·exact ⟨o5,e5,fun v e => by rw [d5] at e; cases e⟩
 keep:=fun i h h' ⟨h1,h2,⟨p,q,h3⟩,h4,h5⟩ k => ⟨k _ (by simp) _ h1,k _ (by simp) _ h2,⟨p,q,k _ (by simp) _ h3⟩,h4.at fun o e => k _ (by simp) o e,h5.at fun o e => k _ (by simp) o e⟩
 item:=by
  intro X hP hw hK hc i pins s σ H E I hf st hg
  subst hP hw hK
  obtain ⟨h1,h2,⟨p,q,h3⟩,h4,h5⟩:=st
  obtain ⟨xs,ys,hx,hy,hl,hi⟩:=hg
  obtain ⟨its,rv,t1,_⟩:=I.tuple hx
  obtain ⟨jts,rw',t2,_⟩:=I.tuple hy
  obtain ⟨x,ex,rx⟩:=rv.get (List.getElem?_eq_getElem hi)
  obtain ⟨y,ey,ry⟩:=rw'.get (List.getElem?_eq_getElem (hl ▸ hi))
  refine Zp.next_item (I.ok.hd hc) ap h1 h2 h3 h4 h5 (show s.heap.IsTuple a its.toArray from t1) (show s.heap.IsTuple b jts.toArray from t2) (x:=x) (y:=y) (by simpa using ex) (by simpa using ey) fun h' a1 a2 a3 a4 a5 a6 a7 => ?_
  refine ⟨_,rfl,wpAny_letOwnedTupleGo_zip (s:={ s with heap:=h' }) a1 fun h2' b1 sb => ?_⟩
  have fresh:H s.heap.objs.size = none:=I.hok.fresh (Nat.le_refl _)
  have ne:∀ c o,s.heap.get? c = some o -> c ≠ s.heap.objs.size:=fun c o e => Nat.ne_of_lt (Heap.lt_size e)
  have I1:Inv X pins σ (upd H s.heap.objs.size (.tup [xs[i],ys[i]])) { s with heap:=s.heap.push { cls:=.type "tuple",data:=.seq #[x,y] } } :=
   I.laid (t':=s.toks) (fun c o e => Heap.get?_push_of_some _ e) (Nat.le_refl _) ⟨by show 2 <= sizeLine; decide,_,.cons rx (.cons ry .nil),IsTup.new _ _⟩
  have live:∀ c ∈ [z,TI,TO,i1,i2],c ≠ s.heap.objs.size:=fun c hc => by
   simp only [List.mem_cons,List.not_mem_nil,or_false] at hc
   obtain ⟨o4,e4,_⟩:=h4
   obtain ⟨o5,e5,_⟩:=h5
   rcases hc with rfl | rfl | rfl | rfl | rfl
   ·exact ne _ _ h1
   ·exact ne _ _ h2
   ·exact ne _ _ h3
   ·exact ne _ _ e4
   ·exact ne _ _ e5
  have up:∀ c ∈ [z,TI,TO,i1,i2],FpOk X pins (upd H s.heap.objs.size (.tup [xs[i],ys[i]])) c:=fun c hc => by
   obtain ⟨f0,f⟩:=hf c hc
   exact ⟨by rw [upd_ne (live c hc)]; exact f0,f⟩
  have zl:z ≠ s.heap.objs.size:=live z (.head _)
  have I2:=I1.turnedL (h':=h2') (t':=s.toks) (L:=[z,TI,TO,i1,i2]) (fun c o hc e => by
   simp only [List.mem_cons,List.not_mem_nil,or_false,not_or] at hc
   rw [sb.2 c hc.1]
   rcases Heap.get?_push_cases e with ⟨rfl,rfl⟩ | e
   ·exact a5
   ·exact a7 c o hc.1 hc.2.2.1 hc.2.2.2.1 hc.2.2.2.2 e) up
  refine ⟨.ref s.heap.objs.size,_,I2,rfl,⟨_,rfl,fresh,_,_,rfl,fun xs' h => ?_,fun ys' h => ?_⟩,⟨b1,(sb.2 TI ap.zTI.symm).trans ?_,⟨x,y,(sb.2 TO ap.zTO.symm).trans a2⟩,a3.at fun o e => (sb.2 i1 ap.zi1.symm).trans e,a4.at fun o e => (sb.2 i2 ap.zi2.symm).trans e⟩,fun c hc => (up c hc).1⟩
  ·rw [I.tuple_inj h hx]
   exact List.getElem?_eq_getElem hi
  ·rw [I.tuple_inj h hy]
   exact List.getElem?_eq_getElem (hl ▸ hi)
  ·exact a7 TI _ ap.zTI.symm ap.TITO ap.TIi1 ap.TIi2 h2
 done:=by
  intro X hP hw hK hc i pins s σ H E I hf st hg
  subst hP hw hK
  obtain ⟨h1,h2,⟨p,q,h3⟩,h4,h5⟩:=st
  obtain ⟨xs,hx,rfl⟩:=hg
  obtain ⟨its,rv,t1,_⟩:=I.tuple hx
  refine Zp.next_end (I.ok.hd hc) ap h1 h2 h3 h4 (show s.heap.IsTuple a its.toArray from t1) (by rw [rv.length]; simp) fun h' k => ⟨rfl,?_⟩
  exact I.turnedL (t':=s.toks) (L:=[z,TI,TO,i1,i2]) (fun c o hc e => by
   simp only [List.mem_cons,List.not_mem_nil,or_false,not_or] at hc
   exact k c o hc.1 hc.2.2.1 hc.2.2.2.1 hc.2.2.2.2 e) hf
 self:=fun _ i s Q E ⟨h1,_⟩ h => wpAny_pyIter_zip h1 h
noncomputable def iZip (K:PySem.W.Frag) (ta:TA):TI:=fun σ H R => ta σ H fun vs H1 => ∃ a b xs ys,vs = [.ref a,.ref b] /\ SqT K H1 a xs /\ SqT K H1 b ys /\ xs.length = ys.length /\ R (Itz K a b) H1
theorem pi_zip {X:Cx} {ts:List Expr} {j:Nat} {tp:Pos} {l r:Expr} {ta:TA} {p pos:Pos} (hg:Gl X "zip") (hm:X.mg "zip" = none) (ha:PA X [l,r] ta) (hs:starEach [l,r] X.env = [(false,eval l X.env),(false,eval r X.env)]) (hs2:starEach [r] X.env = [(false,eval r X.env)]) :
  PI X (.Tuple ts j tp) (.Call (.Name "zip" p) [l,r] [] pos) (iZip X.K ta):=by
 intro pins s σ H R I h
 refine Call_ (ld_blt I hg hm PyProof.Rows.boot_zip (PyProof.Rows.callWith_type1 (thn (ha pos pins s σ H _ I h) fun us s1 ⟨vs,H1,I1,r1,q1⟩ => ?_) (by rw [hs,hs2]) (by rw [hs2]; rfl)))
 obtain ⟨a,b,xs,ys,e,hx,hy,hl,q⟩:=q1
 subst e
 cases r1 with
 | cons rx rr =>
  cases rr with
  | cons ry rr =>
   cases rr with
   | nil =>
    cases rx
    cases ry
    obtain ⟨its,_,t1,_⟩:=I1.tuple hx
    obtain ⟨jts,_,t2,_⟩:=I1.tuple hy
    have t1:s1.heap.IsTuple a its.toArray:=t1
    have t2:s1.heap.IsTuple b jts.toArray:=t2
    have la:a < s1.heap.objs.size:=let ⟨o,ho,_⟩:=t1; Heap.lt_size ho
    have lb:b < s1.heap.objs.size:=let ⟨o,ho,_⟩:=t2; Heap.lt_size ho
    refine Zp.call_zip t1 t2 fun h' a1 a2 a3 a4 a5 k => ?_
    have I2:Inv X pins σ H1 { s1 with heap:=h' }:=I1.kept (t':=s1.toks) k
    have T:=turn_zip (P:=X.prog) (w:=X.w) (K:=X.K) (ts:=ts) (j:=j) (tp:=tp) (Zp.apart_new la lb)
    refine wpAny_pyIter_zip (s:={ s1 with heap:=h' }) a1 ⟨_,_,_,_,H1,rfl,I2,T,⟨a1,a2,⟨_,_,a3⟩,a4,a5⟩,fun c hc => ?_,q⟩
    have hb:s1.heap.objs.size <= c:=by
     simp only [List.mem_cons,List.not_mem_nil,or_false] at hc
     rcases hc with rfl | rfl | rfl | rfl | rfl
     ·exact Nat.le_add_right _ _
     ·exact Nat.le_add_right _ _
     ·exact Nat.le_add_right _ _
     ·exact Nat.le_refl _
     ·exact Nat.le_add_right _ _
    exact I1.fpOk hb (I1.hok.fresh hb)
end L2
namespace MM
open PySem
inductive Sc where
 | non | bl (b:Bool) | int (i:Int) | str (x:Str)
 deriving Inhabited,DecidableEq
inductive DD where
 | k (kvs:List (Int × Sc)) | t (kvs:List (List Int × Sc))
 | p (ns:List Int)
 deriving Inhabited
inductive PV where
 | non | bl (b:Bool) | int (i:Int) | str (x:Str) | tup (xs:List PV) | lst (xs:List PV) | dI (d:DD)
 deriving Inhabited
noncomputable def Sc.pv:Sc -> PV
 | .non => .non
 | .bl b => .bl b
 | .int i => .int i
 | .str x => .str x
noncomputable def sc?:PV -> Option Sc
 | .non => some .non
 | .bl b => some (.bl b)
 | .int i => some (.int i)
 | .str x => some (.str x)
 | _ => none
noncomputable def dGetL {α:Type} [DecidableEq α] (kvs:List (α × Sc)) (k:α):Option Sc:=(kvs.find? fun p => decide (p.1 = k)).map (·.2)
noncomputable def dPutL {α:Type} [DecidableEq α] (kvs:List (α × Sc)) (k:α) (v:Sc):List (α × Sc) :=
 if (kvs.any fun p => decide (p.1 = k)) = true then kvs.map (fun p => if p.1 = k then (p.1,v) else p) else kvs ++ [(k,v)]
noncomputable def eqL (f:PV -> PV -> Option Bool):List PV -> List PV -> Option Bool
 | [],[] => some true
 | x :: xs,y :: ys => (f x y).bind fun p => (eqL f xs ys).map fun q => p && q
 | _,_ => some false
noncomputable def eqF:Nat -> PV -> PV -> Option Bool
 | _,.non,.non => some true
 | _,.bl a,.bl b => some (a == b)
 | _,.bl a,.int b => some ((if a then 1 else 0) == b)
 | _,.int a,.bl b => some (a == (if b then 1 else 0))
 | _,.int a,.int b => some (a == b)
 | _,.str a,.str b => some (a == b)
 | 0,.tup _,.tup _ => none
 | 0,.lst _,.lst _ => none
 | _,.dI _,_ => none
 | _,_,.dI _ => none
 | n + 1,.tup a,.tup b => eqL (eqF n) a b
 | n + 1,.lst a,.lst b => if a.length = b.length then eqL (eqF n) a b else some false
 | _,_,_ => some false
noncomputable def neOk:PV -> PV -> Bool
 | .tup _,.tup _ => true
 | .lst _,.lst _ => true
 | .tup _,_ => false
 | _,.tup _ => false
 | .lst _,_ => false
 | _,.lst _ => false
 | .bl _,.int _ => false
 | .int _,.bl _ => false
 | .dI _,_ => false
 | _,.dI _ => false
 | _,_ => true
noncomputable def inL (f:PV -> Option Bool):List PV -> Option Bool
 | [] => some false
 | y :: ys => (f y).bind fun p => (inL f ys).map fun q => p || q
inductive MV where
 | val (v:PV) | own (xs:List PV) | brw (xs:List PV) | ownD (d:DD) | brwD (d:DD)
 | mutD (d:DD)
 deriving Inhabited
noncomputable abbrev Rho:=List (Option MV)
inductive Op2 where
 | add | sub | mul | fdiv | mod | pow | shr
 deriving DecidableEq
inductive Cp where
 | eq | ne | lt | le | gt | ge | isN | notN | isIn | notIn
 deriving DecidableEq
inductive Blt where
 | len | tupleOf | listOf | sorted | any | all | sum | max1 | min1 | max2 | min2 | intOf | boolOf | isInt | isBool | isStr | isList | isTuple
 | sortedSet | lenSet | lenSetSub | sortedKeys | valuesOf | tupleRev
 | strOf
 deriving DecidableEq
inductive Sk where
 | seq | rng | enm | rev
 | zip
 deriving DecidableEq
noncomputable def sk2:Sk:=.zip
set_option genInjectivity false in
inductive ME where
 | var (i:Nat)
 | bor (i:Nat)
 | cst (v:PV)
 | glob (x:Str) (v:PV)
 | bin (op:Op2) (a b:ME)
 | neg (a:ME)
 | not (a:ME)
 | and (a b:ME)
 | or (a b:ME)
 | ite (c a b:ME)
 | cmp (op:Cp) (a b:ME)
 | chain (op op':Cp) (a b c:ME)
 | tup (es:List ME)
 | lst (es:List ME)
 | idx (a i:ME)
 | slice (a lo hi:ME)
 | blt (b:Blt) (es:List ME)
 | call (f:Nat) (es:List ME)
 | callD (f:Nat) (es:List ME) (d:List Sc)
 | comp (k:Sk) (src:List ME) (js:List Nat) (cond elt:ME)
 | dget (a k d:ME)
 | dat (a k:ME)
 | dIn (neg:Bool) (k a:ME)
 | lenP (i:Nat)
 | join (x:Str) (e:ME)
 | cdat (x:Str) (e:ME)
 | comp2 (src:List ME) (js:List Nat) (cond elt:ME)
 deriving Inhabited
noncomputable def ints?:List PV -> Option (List Int)
 | [] => some []
 | .int i :: r => (ints? r).map (i :: ·)
 | _ => none
noncomputable def tups?:List PV -> Option (List (List Int))
 | [] => some []
 | .tup xs :: r => (ints? xs).bind fun x => (tups? r).map (x :: ·)
 | _ => none
noncomputable def bools?:List PV -> Option (List Bool)
 | [] => some []
 | .bl i :: r => (bools? r).map (i :: ·)
 | _ => none
noncomputable def strs?:List PV -> Option (List Str)
 | [] => some []
 | .str i :: r => (strs? r).map (i :: ·)
 | _ => none
noncomputable def strI (n:Int):Str:=Str.ofString (toString n)
noncomputable def joinV (x:Str):PV -> Option PV
 | .lst xs => (strs? xs).bind fun ws => if (ws.map fun y => y.length + x.length).sum <= 1000000 then some (.str (Builtin.Str.glued x ws)) else none
 | _ => none
noncomputable def zipP:List PV -> List PV -> List PV
 | a :: as,b :: bs => .tup [a,b] :: zipP as bs
 | _,_ => []
noncomputable def cTab:List (Str × List (Str × PV)):=[("MEMBERS",[("bare",.tup []),("whole",.tup []),("weight",.tup []),("pairs",.tup [.tup [.str "hole",.str "hole"]]),("bite",.tup [.str "reply",.str "paper"]),("knot",.tup [.str "reply",.str "paper"]),("cases",.tup [.tup [.str "hole",.str "reply",.str "paper"]]),("parts",.tup [.tup [.str "rest",.str "paper"]]),("fewer",.tup [.str "rest",.str "paper"]),("either",.tup [.str "rest",.str "paper",.str "rest",.str "paper"])])]
noncomputable def cGet (x:Str):PV -> Option PV
 | .str k => ((cTab.find? fun p => decide (p.1 = x)).bind fun t => t.2.find? fun p => decide (p.1 = k)).map (·.2)
 | _ => none
noncomputable def dGet:PV -> PV -> Option (Option Sc)
 | .dI (.k kvs),.int i => some (dGetL kvs i)
 | .dI (.t _),.tup _ => none
 | _,_ => none
noncomputable def dPut:DD -> PV -> Sc -> Option DD
 | .k kvs,.int i,s => if kvs.length < 10000 then some (.k (dPutL kvs i s)) else none
 | .t _,.tup _,_ => none
 | _,_,_ => none
noncomputable def dSc:DD -> List Sc
 | .k kvs => kvs.map (·.2)
 | .t kvs => kvs.map (·.2)
 | .p _ => []
noncomputable def dVals (d:DD):List PV:=(dSc d).map Sc.pv
noncomputable def lexLt:List Int -> List Int -> Bool
 | [],[] => false
 | [],_ :: _ => true
 | _ :: _,[] => false
 | x :: xs,y :: ys => if x = y then lexLt xs ys else decide (x < y)
noncomputable def insI (x:Int):List Int -> List Int
 | [] => [x]
 | y :: r => if y < x then y :: insI x r else x :: y :: r
noncomputable def sortI:List Int -> List Int
 | [] => []
 | x :: r => insI x (sortI r)
noncomputable def insT (x:List Int):List (List Int) -> List (List Int)
 | [] => [x]
 | y :: r => if lexLt y x = true then y :: insT x r else x :: y :: r
noncomputable def sortT:List (List Int) -> List (List Int)
 | [] => []
 | x :: r => insT x (sortT r)
noncomputable def dd:List Int -> List Int
 | [] => []
 | x :: r => if x ∈ dd r then dd r else x :: dd r
noncomputable def int2 {α:Type} (f:Int -> Int -> Option α):PV -> PV -> Option α
 | .int i,.int j => f i j
 | _,_ => none
noncomputable def addOp:PV -> PV -> Option PV
 | .int i,.int j => some (.int (i + j))
 | .lst a,.lst b => if a.length + b.length <= 10000 then some (.lst (a ++ b)) else none
 | .tup a,.tup b => if a.length + b.length <= 10000 then some (.tup (a ++ b)) else none
 | .str a,.str b => if a.length + b.length <= 1000000 then some (.str (a ++ b)) else none
 | _,_ => none
noncomputable def binOp (op:Op2):PV -> PV -> Option PV:=match op with
 | .add => addOp
 | .sub => int2 fun i j => some (.int (i - j))
 | .mul => int2 fun i j => if (-(2 ^ 64) < i /\ i < 2 ^ 64) \/ (-(2 ^ 64) < j /\ j < 2 ^ 64) then some (.int (i * j)) else none
 | .fdiv => int2 fun i j => if 0 < j /\ j < 1073741824 then some (.int (i / j)) else none
 | .mod => int2 fun i j => if 0 < j then some (.int (i % j)) else none
 | .pow => int2 fun i j => if 0 <= j /\ j <= 1000000 /\ i.natAbs < 2 ^ 64 then some (.int (i ^ j.toNat)) else none
 | .shr => int2 fun i j => if 0 <= j then some (.int (i / 2 ^ j.toNat)) else none
noncomputable def isNon:PV -> Bool
 | .non => true
 | _ => false
noncomputable def isIn (x:PV) (xs:List PV):Option Bool:=inL (fun y => eqF 100 y x) xs
noncomputable def isOp (a b:PV):Option Bool:=match b with
 | .non => some (isNon a)
 | .bl q => (match a with | .bl p => some (p == q) | _ => none)
 | _ => none
noncomputable def seq?:PV -> Option (List PV)
 | .tup xs => some xs
 | .lst xs => some xs
 | _ => none
noncomputable def lst?:PV -> Option (List PV)
 | .lst xs => some xs
 | _ => none
noncomputable def cmpOp (op:Cp):PV -> PV -> Option Bool:=match op with
 | .eq => eqF 100
 | .ne => fun a b => if neOk a b = true then (eqF 100 a b).map fun p => !p else none
 | .lt => int2 fun i j => some (decide (i < j))
 | .le => int2 fun i j => some (decide (i <= j))
 | .gt => int2 fun i j => some (decide (j < i))
 | .ge => int2 fun i j => some (decide (j <= i))
 | .isN => isOp
 | .notN => fun a b => (isOp a b).map fun p => !p
 | .isIn => fun a b => (seq? b).bind (isIn a)
 | .notIn => fun a b => ((seq? b).bind (isIn a)).map fun p => !p
noncomputable def place (n:Nat) (i:Int):Option Nat :=
 if 0 <= i then (if i < n then some i.toNat else none) else if -(n:Int) <= i then some (i + n).toNat else none
noncomputable def idxOp:PV -> PV -> Option PV
 | .tup xs,.int i => (place xs.length i).bind fun j => xs[j]?
 | .lst xs,.int i => (place xs.length i).bind fun j => xs[j]?
 | _,_ => none
noncomputable def cutAt (n d:Nat):Option Int -> Nat
 | none => d
 | some i => if i < 0 then (i + n).toNat else min i.toNat n
noncomputable def cut (xs:List PV) (lo hi:Option Int):List PV:=(xs.drop (cutAt xs.length 0 lo)).take (cutAt xs.length xs.length hi - cutAt xs.length 0 lo)
noncomputable def sliceOp:PV -> Option Int -> Option Int -> Option PV
 | .lst xs,lo,hi => some (.lst (cut xs lo hi))
 | .tup xs,lo,hi => some (.tup (cut xs lo hi))
 | _,_,_ => none
noncomputable def bnd:ME -> PV -> Option (Option Int)
 | .cst .non,_ => some none
 | _,.int i => some (some i)
 | _,_ => none
noncomputable def maxI:List Int -> Option Int
 | [] => none
 | x :: r => some (r.foldl (fun a b => if a < b then b else a) x)
noncomputable def sortOp (xs:List PV):Option PV :=
 if xs.length < 64 then
  match ints? xs with
  | some ns => some (.lst ((sortI ns).map .int))
  | none => (tups? xs).map fun ts => .lst ((sortT ts).map fun t => .tup (t.map .int))
 else none
noncomputable def isT (b:Blt):PV -> Bool
 | .int _ => b == .isInt
 | .bl _ => b == .isInt || b == .isBool
 | .str _ => b == .isStr
 | .lst _ => b == .isList
 | .tup _ => b == .isTuple
 | .non => false
 | .dI _ => false
noncomputable def isD:PV -> Bool
 | .dI _ => true
 | _ => false
noncomputable def one1 (vs:List PV) (f:PV -> Option PV):Option PV:=match vs with
 | [a] => f a
 | _ => none
noncomputable def two1 (vs:List PV) (f:PV -> PV -> Option PV):Option PV:=match vs with
 | [a,b] => f a b
 | _ => none
noncomputable def isOf (b:Blt) (vs:List PV):Option PV:=one1 vs fun a => if isD a = true then none else some (.bl (isT b a))
noncomputable def lenOf:PV -> Option PV
 | .tup xs => some (.int xs.length)
 | .lst xs => some (.int xs.length)
 | .dI (.k kvs) => some (.int kvs.length)
 | _ => none
noncomputable def bltOp (b:Blt) (vs:List PV):Option PV:=match b with
 | .len => one1 vs lenOf
 | .tupleOf => one1 vs fun a => (seq? a).map .tup
 | .listOf => one1 vs fun a => (seq? a).map .lst
 | .sorted => one1 vs fun a => (seq? a).bind sortOp
 | .any => one1 vs fun a => (lst? a).bind fun xs => (bools? xs).map fun bs => .bl (bs.any id)
 | .all => one1 vs fun a => (lst? a).bind fun xs => (bools? xs).map fun bs => .bl (bs.all id)
 | .sum => one1 vs fun a => (lst? a).bind fun xs => (ints? xs).map fun ns => .int ns.sum
 | .max1 => one1 vs fun a => (lst? a).bind fun xs => (ints? xs).bind fun ns => (maxI ns).map .int
 | .min1 => none
 | .max2 => two1 vs (int2 fun i j => some (.int (if j > i then j else i)))
 | .min2 => two1 vs (int2 fun i j => some (.int (if j < i then j else i)))
 | .intOf => one1 vs fun a => match a with | .int i => some (.int i) | .bl b => some (.int (if b then 1 else 0)) | _ => none
 | .boolOf => one1 vs fun a => match a with | .bl b => some (.bl b) | _ => none
 | .isInt => isOf .isInt vs
 | .isBool => isOf .isBool vs
 | .isStr => isOf .isStr vs
 | .isList => isOf .isList vs
 | .isTuple => isOf .isTuple vs
 | .sortedSet => one1 vs fun a => (seq? a).bind fun xs => (ints? xs).bind fun ns => if ns.length <= 1000 /\ (dd ns).length < 64 then some (.lst ((sortI (dd ns)).map .int)) else none
 | .lenSet => one1 vs fun a => (seq? a).bind fun xs => (ints? xs).bind fun ns => if ns.length <= 1000 then some (.int (dd ns).length) else none
 | .lenSetSub => two1 vs fun a b => (seq? a).bind fun xs => (ints? xs).bind fun ns => (seq? b).bind fun ys => (ints? ys).bind fun ms =>
   if ns.length <= 1000 /\ ms.length <= 1000 /\ (dd ns).length <= 60 then some (.int ((dd ns).filter fun n => !decide (n ∈ ms)).length) else none
 | .sortedKeys => one1 vs fun a => match a with | .dI (.k kvs) => if kvs.length < 64 then some (.lst ((sortI (kvs.map (·.1))).map .int)) else none | _ => none
 | .tupleRev => one1 vs fun a => (lst? a).map fun xs => .tup xs.reverse
 | .strOf => one1 vs fun a => match a with | .int i => if i.natAbs < 2 ^ 64 then some (.str (strI i)) else none | _ => none
 | .valuesOf => one1 vs fun a => match a with | .dI d => if (dVals d).length <= 10000 then some (.lst (dVals d)) else none | _ => none
noncomputable def enumFrom (n:Nat):List PV -> List PV
 | [] => []
 | x :: r => .tup [.int (n:Nat),x] :: enumFrom (n + 1) r
noncomputable def srcOf:Sk -> List PV -> Option (List PV)
 | .seq,[a] => seq? a
 | .rng,[.int j] => if -(2 ^ 62) <= j /\ j < 2 ^ 62 then some ((List.range j.toNat).map fun (k:Nat) => .int ((0:Int) + k)) else none
 | .rng,[.int i,.int j] => if -(2 ^ 62) <= i /\ i < 2 ^ 62 /\ -(2 ^ 62) <= j /\ j < 2 ^ 62 then some ((List.range (j - i).toNat).map fun (k:Nat) => .int (i + k)) else none
 | .enm,[a] => (seq? a).map (enumFrom 0)
 | .zip,[.tup xs,.tup ys] => if xs.length = ys.length then some (zipP xs ys) else none
 | .rev,[.lst xs] => some xs.reverse
 | _,_ => none
noncomputable def compGo (c:PV -> Option Bool) (f:PV -> Option PV):List PV -> Option (List PV)
 | [] => some []
 | x :: r => (c x).bind fun b => if b = true then (f x).bind fun y => (compGo c f r).map (y :: ·) else compGo c f r
noncomputable def boolOf?:PV -> Option Bool
 | .bl b => some b
 | _ => none
noncomputable abbrev Cal:=Nat -> List MV -> Option PV
noncomputable def varOf:Option MV -> Option PV
 | some (.val v) => some v
 | _ => none
noncomputable def notP:DD -> Bool
 | .p _ => false
 | _ => true
noncomputable def borOf:Option MV -> Option PV
 | some (.val v) => some v
 | some (.own xs) => some (.lst xs)
 | some (.brw xs) => some (.lst xs)
 | some (.ownD kvs) => if notP kvs = true then some (.dI kvs) else none
 | some (.brwD kvs) => if notP kvs = true then some (.dI kvs) else none
 | some (.mutD kvs) => if notP kvs = true then some (.dI kvs) else none
 | none => none
noncomputable def argOf:Option MV -> Option MV
 | some (.val v) => some (.val v)
 | some (.own xs) => some (.brw xs)
 | some (.brw xs) => some (.brw xs)
 | some (.ownD xs) => some (.brwD xs)
 | some (.brwD xs) => some (.brwD xs)
 | some (.mutD xs) => some (.brwD xs)
 | none => none
noncomputable def capOf:Option MV -> Option MV
 | some (.own xs) => some (.brw xs)
 | some (.ownD xs) => some (.brwD xs)
 | some (.mutD xs) => some (.brwD xs)
 | o => o
noncomputable def blkR (js:List Nat) (ρ:Rho) (x:PV):Rho:=some (.val x) :: js.map fun j => capOf (ρ[j]?).join
noncomputable def lenPOf:Option MV -> Option PV
 | some (.ownD (.p ns)) => some (.int ns.length)
 | some (.mutD (.p ns)) => some (.int ns.length)
 | _ => none
noncomputable def blk2 (js:List Nat) (ρ:Rho):PV -> Rho
 | .tup [a,b] => some (.val a) :: some (.val b) :: js.map fun j => capOf (ρ[j]?).join
 | _ => []
mutual
noncomputable def ev (cal:Cal):ME -> Rho -> Option PV
 | .var i,ρ => varOf (ρ[i]?).join
 | .bor i,ρ => borOf (ρ[i]?).join
 | .cst v,_ => some v
 | .glob _ v,_ => some v
 | .bin op a b,ρ => (ev cal a ρ).bind fun x => (ev cal b ρ).bind fun y => binOp op x y
 | .neg a,ρ => (ev cal a ρ).bind fun x => match x with | .int i => some (.int (-i)) | _ => none
 | .not a,ρ => ((ev cal a ρ).bind boolOf?).map fun b => .bl (!b)
 | .and a b,ρ => ((ev cal a ρ).bind boolOf?).bind fun c => if c = true then (ev cal b ρ).bind fun y => (boolOf? y).map .bl else some (.bl false)
 | .or a b,ρ => ((ev cal a ρ).bind boolOf?).bind fun c => if c = true then some (.bl true) else (ev cal b ρ).bind fun y => (boolOf? y).map .bl
 | .ite c a b,ρ => ((ev cal c ρ).bind boolOf?).bind fun k => if k = true then ev cal a ρ else ev cal b ρ
 | .cmp op a b,ρ => (ev cal a ρ).bind fun x => (ev cal b ρ).bind fun y => (cmpOp op x y).map .bl
 | .chain op op' a b c,ρ => (ev cal a ρ).bind fun x => (ev cal b ρ).bind fun y => (cmpOp op x y).bind fun k => if k = true then (ev cal c ρ).bind fun z => (cmpOp op' y z).map .bl else some (.bl false)
 | .tup es,ρ => (evs cal es ρ).bind fun vs => if vs.length <= 10000 then some (.tup vs) else none
 | .lst es,ρ => (evs cal es ρ).bind fun vs => if vs.length <= 10000 then some (.lst vs) else none
 | .idx a i,ρ => (ev cal a ρ).bind fun x => (ev cal i ρ).bind fun y => idxOp x y
 | .slice a lo hi,ρ => (ev cal a ρ).bind fun x => ((ev cal lo ρ).bind fun l => bnd lo l).bind fun l => ((ev cal hi ρ).bind fun h => bnd hi h).bind fun h => sliceOp x l h
 | .blt b es,ρ => (evs cal es ρ).bind fun vs => bltOp b vs
 | .call f es,ρ => (evA cal es ρ).bind fun vs => cal f vs
 | .callD f es d,ρ => (evA cal es ρ).bind fun vs => cal f (vs ++ d.map fun x => .val x.pv)
 | .comp k src js cond elt,ρ => (evs cal src ρ).bind fun vs => (srcOf k vs).bind fun xs =>
   if xs.length <= 10000 then (compGo (fun x => (ev cal cond (blkR js ρ x)).bind boolOf?) (fun x => ev cal elt (blkR js ρ x)) xs).map .lst else none
 | .dget a k d,ρ => (ev cal a ρ).bind fun x => (ev cal k ρ).bind fun y => (ev cal d ρ).bind fun z => (dGet x y).bind fun o => (sc? z).map fun s => (o.getD s).pv
 | .dat a k,ρ => (ev cal a ρ).bind fun x => (ev cal k ρ).bind fun y => (dGet x y).bind fun o => o.map Sc.pv
 | .dIn neg k a,ρ => (ev cal k ρ).bind fun y => (ev cal a ρ).bind fun x => (dGet x y).map fun o => .bl (if neg = true then !o.isSome else o.isSome)
 | .lenP i,ρ => lenPOf (ρ[i]?).join
 | .join x e,ρ => (ev cal e ρ).bind (joinV x)
 | .cdat x e,ρ => (ev cal e ρ).bind (cGet x)
 | .comp2 src js cond elt,ρ => (evs cal src ρ).bind fun vs => (srcOf sk2 vs).bind fun xs =>
   if xs.length <= 10000 then (compGo (fun x => (ev cal cond (blk2 js ρ x)).bind boolOf?) (fun x => ev cal elt (blk2 js ρ x)) xs).map .lst else none
noncomputable def evs (cal:Cal):List ME -> Rho -> Option (List PV)
 | [],_ => some []
 | e :: es,ρ => (ev cal e ρ).bind fun v => (evs cal es ρ).map (v :: ·)
noncomputable def evA (cal:Cal):List ME -> Rho -> Option (List MV)
 | [],_ => some []
 | .bor i :: es,ρ => (argOf (ρ[i]?).join).bind fun v => (evA cal es ρ).map (v :: ·)
 | e :: es,ρ => (ev cal e ρ).bind fun v => (evA cal es ρ).map (MV.val v :: ·)
end
noncomputable def evB (cal:Cal) (e:ME) (ρ:Rho):Option Bool:=(ev cal e ρ).bind boolOf?
noncomputable def mutOf:Option MV -> Option DD
 | some (.ownD d) => some d
 | some (.mutD d) => some d
 | _ => none
noncomputable def evM (cal:Cal):List Bool -> List ME -> Rho -> Option (List MV)
 | [],[],_ => some []
 | true :: bs,.bor i :: es,ρ => (mutOf (ρ[i]?).join).bind fun d => (evM cal bs es ρ).map (MV.mutD d :: ·)
 | false :: bs,e :: es,ρ => (evA cal [e] ρ).bind fun a => match a with | [.val v] => (evM cal bs es ρ).map (MV.val v :: ·) | _ => none
 | _,_,_ => none
noncomputable def putD (ρ:Rho) (i:Nat) (d:DD):Rho:=match (ρ[i]?).join with
 | some (.ownD _) => ρ.set i (some (.ownD d))
 | _ => ρ.set i (some (.mutD d))
noncomputable def putM:List Bool -> List ME -> List PV -> Rho -> Option Rho
 | [],[],[],ρ => some ρ
 | true :: bs,.bor i :: es,.dI d :: ds,ρ => putM bs es ds (putD ρ i d)
 | false :: bs,_ :: es,ds,ρ => putM bs es ds ρ
 | _,_,_,_ => none
noncomputable def valM (cal:Cal) (f:Nat) (mask:List Bool) (es:List ME) (ρ:Rho):Option (PV × Rho) :=
 match (evM cal mask es ρ).bind fun vs => cal (f + 2000) vs with
 | some (.tup (v :: ds)) => (putM mask es ds ρ).map fun ρ' => (v,ρ')
 | _ => none
inductive XE where
 | pure (e:ME)
 | call (f:Nat) (mask:List Bool) (es:List ME)
 | pop (i:Nat)
 | bin (op:Op2) (a:XE) (b:ME)
 | fn (g:Nat) (a:XE) (es:List ME)
 | tup (xs:List XE)
 deriving Inhabited
noncomputable def popV (i:Nat) (ρ:Rho):Option (PV × Rho):=match mutOf (ρ[i]?).join with
 | some (.p ns) => (ns.getLast?).map fun n => (.int n,putD ρ i (.p ns.dropLast))
 | _ => none
mutual
noncomputable def evX (cal:Cal):XE -> Rho -> Option (PV × Rho)
 | .pure e,ρ => (ev cal e ρ).map fun v => (v,ρ)
 | .call f mask es,ρ => valM cal f mask es ρ
 | .pop i,ρ => popV i ρ
 | .bin op a b,ρ => (evX cal a ρ).bind fun p => (ev cal b p.2).bind fun y => (binOp op p.1 y).map fun r => (r,p.2)
 | .fn g a es,ρ => (evX cal a ρ).bind fun p => (evA cal es p.2).bind fun vs => (cal g (.val p.1 :: vs)).map fun r => (r,p.2)
 | .tup xs,ρ => (evXs cal xs ρ).bind fun p => if p.1.length <= 10000 then some (.tup p.1,p.2) else none
noncomputable def evXs (cal:Cal):List XE -> Rho -> Option (List PV × Rho)
 | [],ρ => some ([],ρ)
 | x :: xs,ρ => (evX cal x ρ).bind fun p => (evXs cal xs p.2).map fun q => (p.1 :: q.1,q.2)
end
set_option genInjectivity false in
inductive MS where
 | set (i:Nat) (e:ME)
 | setOwn (i:Nat) (e:ME)
 | freeze (i:Nat)
 | append (i:Nat) (e:ME)
 | extend (i:Nat) (e:ME)
 | setIdx (i:Nat) (k v:ME)
 | unpack (is:List Nat) (e:ME)
 | expr (e:ME)
 | ite (c:ME) (a b:List MS)
 | for1 (i:Nat) (k:Sk) (src:List ME) (body:List MS)
 | forT (is:List Nat) (k:Sk) (src:List ME) (body:List MS)
 | while (n:Nat) (c:ME) (body:List MS)
 | ret (e:ME)
 | retOwn (i:Nat)
 | retN
 | brk
 | cont
 | pass
 | never
 | newD (m:Bool) (i:Nat)
 | retM (e:ME)
 | retF (e:ME)
 | setCall (i f:Nat) (es:List ME)
 | clear (i:Nat)
 | setP (i:Nat) (e:ME)
 | setX (i:Nat) (x:XE)
 | appX (i:Nat) (x:XE)
 | retXE (x:XE)
 | forX (i:Nat) (x:XE) (body:List MS)
 | dput (i:Nat) (k v:ME)
 deriving Inhabited
inductive R where
 | next (ρ:Rho) | brk (ρ:Rho) | cont (ρ:Rho) | ret (v:PV) | bad
 | retF (xs:List PV)
 | retM (v:PV) (ρ:Rho)
 deriving Inhabited
noncomputable def R.andThen:R -> (Rho -> R) -> R
 | .next ρ,k => k ρ
 | r,_ => r
noncomputable def put (ρ:Rho) (i:Nat) (v:MV):Rho:=ρ.set i (some v)
noncomputable def bindR (o:Option PV) (k:PV -> R):R:=match o with
 | some v => k v
 | none => .bad
noncomputable def bindB (o:Option Bool) (k:Bool -> R):R:=match o with
 | some v => k v
 | none => .bad
noncomputable def puts:List Nat -> List PV -> Rho -> Option Rho
 | [],[],ρ => some ρ
 | i :: is,v :: vs,ρ => puts is vs (put ρ i (.val v))
 | _,_,_ => none
noncomputable def unTup (is:List Nat):PV -> Rho -> Option Rho
 | .tup vs,ρ => puts is vs ρ
 | _,_ => none
noncomputable def bindO (o:Option Rho) (f:Rho -> R):R:=match o with
 | some ρ => f ρ
 | none => .bad
noncomputable def forGo (body:PV -> Rho -> R):List PV -> Rho -> R
 | [],ρ => .next ρ
 | x :: r,ρ => match body x ρ with
  | .next ρ' => forGo body r ρ'
  | .cont ρ' => forGo body r ρ'
  | .brk ρ' => .next ρ'
  | .ret v => .ret v
  | .bad => .bad
  | .retF xs => .retF xs
  | .retM v ρ' => .retM v ρ'
noncomputable def whileGo (c:Rho -> Option Bool) (body:Rho -> R):Nat -> Rho -> R
 | 0,_ => .bad
 | n + 1,ρ => match c ρ with
  | none => .bad
  | some false => .next ρ
  | some true => match body ρ with
   | .next ρ' => whileGo c body n ρ'
   | .cont ρ' => whileGo c body n ρ'
   | .brk ρ' => .next ρ'
   | .ret v => .ret v
   | .bad => .bad
   | .retF xs => .retF xs
   | .retM v ρ' => .retM v ρ'
noncomputable def lend (src:List ME) (ρ:Rho):Rho:=match src with
 | [.bor i] => (match (ρ[i]?).join with | some (.own xs) => put ρ i (.brw xs) | _ => ρ)
 | _ => ρ
noncomputable def giveBack (src:List ME) (ρ₀ ρ:Rho):Rho:=match src with
 | [.bor i] => (match (ρ₀[i]?).join,(ρ[i]?).join with | some (.own _),some (.brw xs) => put ρ i (.own xs) | _,_ => ρ)
 | _ => ρ
noncomputable def R.back (src:List ME) (ρ₀:Rho):R -> R
 | .next ρ => .next (giveBack src ρ₀ ρ)
 | .brk ρ => .brk (giveBack src ρ₀ ρ)
 | .cont ρ => .cont (giveBack src ρ₀ ρ)
 | .retM v ρ => .retM v (giveBack src ρ₀ ρ)
 | r => r
mutual
noncomputable def ex (cal:Cal):MS -> Rho -> R
 | .set i e,ρ => bindR (ev cal e ρ) fun v => .next (put ρ i (.val v))
 | .setOwn i e,ρ => bindR (ev cal e ρ) fun v => match v with | .lst xs => .next (put ρ i (.own xs)) | _ => .bad
 | .freeze i,ρ => match (ρ[i]?).join with | some (.own xs) => .next (put ρ i (.val (.lst xs))) | some _ => .next ρ | none => .bad
 | .append i e,ρ => bindR (ev cal e ρ) fun v => match (ρ[i]?).join with
  | some (.own xs) => if xs.length < 10000 then .next (put ρ i (.own (xs ++ [v]))) else .bad
  | _ => .bad
 | .extend i e,ρ => bindR (ev cal e ρ) fun v => match (ρ[i]?).join,seq? v with
  | some (.own xs),some ys => if xs.length + ys.length <= 10000 then .next (put ρ i (.own (xs ++ ys))) else .bad
  | _,_ => .bad
 | .setIdx i k v,ρ => bindR (ev cal v ρ) fun v => bindR (ev cal k ρ) fun k => match (ρ[i]?).join,k with
  | some (.own xs),.int k => (match place xs.length k with | some j => .next (put ρ i (.own (xs.set j v))) | none => .bad)
  | _,_ => .bad
 | .unpack is e,ρ => bindR (ev cal e ρ) fun v => bindO (unTup is v ρ) .next
 | .expr e,ρ => bindR (ev cal e ρ) fun _ => .next ρ
 | .ite c a b,ρ => bindB (evB cal c ρ) fun k => if k = true then exs cal a ρ else exs cal b ρ
 | .for1 i k src body,ρ => match (evs cal src ρ).bind (srcOf k) with
  | some xs => (forGo (fun x ρ' => exs cal body (put ρ' i (.val x))) xs (lend src ρ)).back src ρ
  | none => .bad
 | .forT is k src body,ρ => match (evs cal src ρ).bind (srcOf k) with
  | some xs => (forGo (fun x ρ' => bindO (unTup is x ρ') fun ρ'' => exs cal body ρ'') xs (lend src ρ)).back src ρ
  | none => .bad
 | .while n c body,ρ => whileGo (evB cal c) (fun ρ' => exs cal body ρ') n ρ
 | .ret e,ρ => bindR (ev cal e ρ) .ret
 | .retOwn i,ρ => match (ρ[i]?).join with | some (.own xs) => .ret (.lst xs) | some (.ownD kvs) => if notP kvs = true then .ret (.dI kvs) else .bad | some (.val v) => .ret v | _ => .bad
 | .newD m i,ρ => .next (put ρ i (.ownD (if m = true then .t [] else .k [])))
 | .dput i k v,ρ => bindR (ev cal v ρ) fun v => bindR (ev cal k ρ) fun k => match (ρ[i]?).join,sc? v with
  | some (.ownD d),some s => match dPut d k s with | some d' => .next (put ρ i (.ownD d')) | none => .bad
  | some (.mutD d),some s => match dPut d k s with | some d' => .next (put ρ i (.mutD d')) | none => .bad
  | _,_ => .bad
 | .retM e,ρ => bindR (ev cal e ρ) fun v => .retM v ρ
 | .retF e,ρ => bindR (ev cal e ρ) fun v => match v with | .lst xs => .retF xs | _ => .bad
 | .setCall i f es,ρ => bindR ((evA cal es ρ).bind fun vs => cal (f + 1000) vs) fun v => match v with | .lst xs => .next (put ρ i (.own xs)) | _ => .bad
 | .clear i,ρ => match (ρ[i]?).join with | some (.own _) => .next (put ρ i (.own [])) | _ => .bad
 | .setP i e,ρ => match ev cal e ρ with
  | some (.lst xs) => (match ints? xs with
   | some ns => .next (put ρ i (.ownD (.p ns.reverse)))
   | none => .bad)
  | _ => .bad
 | .setX i x,ρ => match evX cal x ρ with
  | some (v,ρ') => .next (put ρ' i (.val v))
  | none => .bad
 | .appX i x,ρ => match (ρ[i]?).join with
  | some (.own _) => (match evX cal x ρ with
   | some (v,ρ') => (match (ρ'[i]?).join with
    | some (.own xs) => if xs.length < 10000 then .next (put ρ' i (.own (xs ++ [v]))) else .bad
    | _ => .bad)
   | none => .bad)
  | _ => .bad
 | .retXE x,ρ => match evX cal x ρ with
  | some (v,ρ') => .retM v ρ'
  | none => .bad
 | .forX i x body,ρ => match evX cal x ρ with
  | some (v,ρ') => (match srcOf .rng [v] with
   | some xs => forGo (fun y ρ'' => exs cal body (put ρ'' i (.val y))) xs ρ'
   | none => .bad)
  | none => .bad
 | .retN,_ => .ret .non
 | .brk,ρ => .brk ρ
 | .cont,ρ => .cont ρ
 | .pass,ρ => .next ρ
 | .never,_ => .bad
noncomputable def exs (cal:Cal):List MS -> Rho -> R
 | [],ρ => .next ρ
 | s :: ss,ρ => (ex cal s ρ).andThen fun ρ' => exs cal ss ρ'
end
structure MD where
 name:Str
 params:List Str
 names:List Str
 body:List MS
 deriving Inhabited
noncomputable def mutsOf:List MV -> Rho -> Option (List PV)
 | [],_ => some []
 | .mutD _ :: as,some (.mutD d) :: ρ => (mutsOf as ρ).map (.dI d :: ·)
 | .val _ :: as,_ :: ρ => mutsOf as ρ
 | _,_ => none
noncomputable def callN (ds:List MD):Nat -> Cal
 | 0,_,_ => none
 | n + 1,f,args => match ds[f]? with
  | none => if 2000 <= f then (
   match ds[f - 2000]? with
   | none => none
   | some d => if args.length = d.params.length then
     (match exs (callN ds n) d.body (args.map some ++ List.replicate (d.names.length - args.length) none) with
     | .retM v ρ => (mutsOf args ρ).map fun ds => .tup (v :: ds)
     | _ => none) else none) else
   (match ds[f - 1000]? with
   | none => none
   | some d => if args.length = d.params.length then
     (match exs (callN ds n) d.body (args.map some ++ List.replicate (d.names.length - args.length) none) with
     | .retF xs => some (.lst xs)
     | _ => none) else none)
  | some d => if args.length = d.params.length then
    (match exs (callN ds n) d.body (args.map some ++ List.replicate (d.names.length - args.length) none) with
    | .next _ => some .non
    | .ret v => some v
    | .retF xs => some (.lst xs)
    | _ => none) else none
end MM
namespace MM
open PySem PySem.Spec PyProof.Rows L2
noncomputable abbrev St:=L2.St
noncomputable def hide (H:Hp) (O:List Addr):Hp:=fun b => if b ∈ O then none else H b
theorem hide_in {H:Hp} {O:List Addr} {b:Addr} (h:b ∈ O):hide H O b = none:=if_pos h
theorem hide_out {H:Hp} {O:List Addr} {b:Addr} (h:b ∉ O):hide H O b = H b:=if_neg h
theorem Same.rd {H H':Hp} (s:Same H H') {a:Addr} {u:HO} (h:Rd H a u):Rd H' a u:=h.elim (fun e => .inl (s a _ e)) fun ⟨o,e⟩ => .inr ⟨o,s a _ e⟩
theorem hide_le (H:Hp) (O:List Addr):Same (hide H O) H:=fun b u e => by
 unfold hide at e
 split at e
 ·cases e
 ·exact e
theorem hide_mono {H H':Hp} {O O':List Addr} (s:Same H H') (h:∀ b ∈ O',b ∈ O \/ H b = none):Same (hide H O) (hide H' O'):=fun b u e => by
 have hb:b ∉ O:=fun z => by rw [hide_in z] at e; cases e
 rw [hide_out hb] at e
 rw [hide_out]
 ·exact s b u e
 ·intro z
  rcases h b z with q | q
  ·exact hb q
  ·rw [q] at e; cases e
theorem hide_same {H H':Hp} {O:List Addr} (s:Same H H'):Same (hide H O) (hide H' O):=hide_mono s fun _ h => .inl h
noncomputable def Sc.v:Sc -> V
 | .non => .non
 | .bl b => .bl b
 | .int i => .int i
 | .str x => .str x
noncomputable def encK (kvs:List (Int × Sc)):List (Key × V):=kvs.map fun p => (Sum.inl p.1,p.2.v)
noncomputable def encT (kvs:List (List Int × Sc)):List (List Key × V):=kvs.map fun p => (p.1.map Sum.inl,p.2.v)
noncomputable def encD:DD -> HO
 | .k kvs => .dK (encK kvs)
 | .t kvs => .dT (encT kvs)
 | .p ns => .lst (ns.map V.int)
noncomputable def RdD (F:Hp) (a:Addr) (d:DD):Prop:=Rd F a (encD d) /\ notP d = true
theorem RdD.rd {F:Hp} {a:Addr} {d:DD} (h:RdD F a d):Rd F a (encD d):=h.1
theorem Same.rdD {H H':Hp} (s:Same H H') {a:Addr} {d:DD} (h:RdD H a d):RdD H' a d:=⟨Same.rd s h.1,h.2⟩
mutual
noncomputable def Rep (K:PySem.W.Frag) (F:Hp):PV -> V -> Prop
 | .non,u => u = .non
 | .bl b,u => u = .bl b
 | .int i,u => u = .int i
 | .str x,u => u = .str x
 | .tup xs,u => ∃ a us,u = .ref a /\ SqT K F a us /\ Reps K F xs us
 | .lst xs,u => ∃ a us,u = .ref a /\ SqL K F a us /\ Reps K F xs us
 | .dI kvs,u => ∃ a,u = .ref a /\ RdD F a kvs
noncomputable def Reps (K:PySem.W.Frag) (F:Hp):List PV -> List V -> Prop
 | [],us => us = []
 | x :: xs,us => ∃ u r,us = u :: r /\ Rep K F x u /\ Reps K F xs r
end
section
variable {K:PySem.W.Frag} {F F':Hp}
mutual
theorem Rep.mono (s:Same F F'):∀ (x:PV) {u:V},Rep K F x u -> Rep K F' x u
 | .non,_,h => by simpa only [Rep] using h
 | .bl _,_,h => by simpa only [Rep] using h
 | .int _,_,h => by simpa only [Rep] using h
 | .str _,_,h => by simpa only [Rep] using h
 | .tup xs,_,h => by
  rw [Rep] at h ⊢
  obtain ⟨a,us,e,q,r⟩:=h
  exact ⟨a,us,e,s.seqT q,Reps.mono s xs r⟩
 | .lst xs,_,h => by
  rw [Rep] at h ⊢
  obtain ⟨a,us,e,q,r⟩:=h
  exact ⟨a,us,e,s.seq q,Reps.mono s xs r⟩
 | .dI kvs,_,h => by
  rw [Rep] at h ⊢
  obtain ⟨a,e,q⟩:=h
  exact ⟨a,e,Same.rdD s q⟩
theorem Reps.mono (s:Same F F'):∀ (xs:List PV) {us:List V},Reps K F xs us -> Reps K F' xs us
 | [],_,h => by simpa only [Reps] using h
 | x :: xs,_,h => by
  rw [Reps] at h ⊢
  obtain ⟨u,r,e,q,t⟩:=h
  exact ⟨u,r,e,Rep.mono s x q,Reps.mono s xs t⟩
end
theorem Reps.nil:Reps K F [] []:=by rw [Reps]
theorem Reps.cons {x:PV} {xs:List PV} {u:V} {us:List V} (h:Rep K F x u) (t:Reps K F xs us):Reps K F (x :: xs) (u :: us):=by
 rw [Reps]; exact ⟨u,us,rfl,h,t⟩
theorem Reps.length:∀ {xs:List PV} {us:List V},Reps K F xs us -> xs.length = us.length
 | [],_,h => by rw [Reps] at h; subst h; rfl
 | x :: xs,_,h => by
  rw [Reps] at h
  obtain ⟨u,r,e,_,t⟩:=h
  subst e
  simp [Reps.length t]
theorem Reps.get:∀ {xs:List PV} {us:List V} {i:Nat} {x:PV},Reps K F xs us -> xs[i]? = some x -> ∃ u,us[i]? = some u /\ Rep K F x u
 | [],_,_,_,_,e => by simp at e
 | x :: xs,_,i,y,h,e => by
  rw [Reps] at h
  obtain ⟨u,r,rfl,q,t⟩:=h
  cases i with
  | zero => simp at e; subst e; exact ⟨u,by simp,q⟩
  | succ i => obtain ⟨w,h1,h2⟩:=Reps.get (i:=i) t (by simpa using e); exact ⟨w,by simpa using h1,h2⟩
theorem Reps.get':∀ {xs:List PV} {us:List V} {i:Nat} {u:V},Reps K F xs us -> us[i]? = some u -> ∃ x,xs[i]? = some x /\ Rep K F x u
 | [],_,i,_,h,e => by rw [Reps] at h; subst h; simp at e
 | x :: xs,_,i,y,h,e => by
  rw [Reps] at h
  obtain ⟨u,r,rfl,q,t⟩:=h
  cases i with
  | zero => simp at e; subst e; exact ⟨x,by simp,q⟩
  | succ i => obtain ⟨w,h1,h2⟩:=Reps.get' (i:=i) t (by simpa using e); exact ⟨w,by simpa using h1,h2⟩
theorem Reps.append:∀ {xs ys:List PV} {us ws:List V},Reps K F xs us -> Reps K F ys ws -> Reps K F (xs ++ ys) (us ++ ws)
 | [],_,_,_,h,g => by rw [Reps] at h; subst h; exact g
 | x :: xs,_,_,_,h,g => by
  rw [Reps] at h
  obtain ⟨u,r,rfl,q,t⟩:=h
  exact .cons q (Reps.append t g)
theorem Reps.snoc {xs:List PV} {us:List V} {x:PV} {u:V} (h:Reps K F xs us) (g:Rep K F x u):Reps K F (xs ++ [x]) (us ++ [u]):=h.append (.cons g .nil)
theorem Reps.take:∀ {xs:List PV} {us:List V} (n:Nat),Reps K F xs us -> Reps K F (xs.take n) (us.take n)
 | _,_,0,_ => by simpa using Reps.nil
 | [],_,n + 1,h => by rw [Reps] at h; subst h; simpa using Reps.nil
 | x :: xs,_,n + 1,h => by
  rw [Reps] at h
  obtain ⟨u,r,rfl,q,t⟩:=h
  exact .cons q (Reps.take n t)
theorem Reps.drop:∀ {xs:List PV} {us:List V} (n:Nat),Reps K F xs us -> Reps K F (xs.drop n) (us.drop n)
 | _,_,0,h => h
 | [],_,n + 1,h => by rw [Reps] at h; subst h; simpa using Reps.nil
 | x :: xs,_,n + 1,h => by
  rw [Reps] at h
  obtain ⟨u,r,rfl,q,t⟩:=h
  exact Reps.drop n t
theorem Reps.set:∀ {xs:List PV} {us:List V} {x:PV} {u:V} (n:Nat),Reps K F xs us -> Rep K F x u -> Reps K F (xs.set n x) (us.set n u)
 | [],_,_,_,n,h,_ => by rw [Reps] at h; subst h; simpa using Reps.nil
 | x :: xs,_,_,_,0,h,g => by
  rw [Reps] at h
  obtain ⟨u,r,rfl,q,t⟩:=h
  exact .cons g t
 | x :: xs,_,_,_,n + 1,h,g => by
  rw [Reps] at h
  obtain ⟨u,r,rfl,q,t⟩:=h
  exact .cons q (Reps.set n t g)
theorem Reps.dropLast {xs:List PV} {us:List V} (h:Reps K F xs us):Reps K F xs.dropLast us.dropLast:=by
 rw [List.dropLast_eq_take,List.dropLast_eq_take,<- h.length]; exact h.take _
theorem Reps.ints:∀ {ns:List Int} {us:List V},Reps K F (ns.map .int) us -> us = ns.map V.int
 | [],_,h => by simpa [Reps] using h
 | n :: ns,_,h => by
  rw [List.map_cons,Reps] at h
  obtain ⟨u,r,rfl,q,t⟩:=h
  rw [Rep] at q
  rw [q,Reps.ints t]; rfl
theorem Reps.of_ints:∀ (ns:List Int),Reps K F (ns.map .int) (ns.map V.int)
 | [] => .nil
 | n :: ns => .cons (by rw [Rep]) (Reps.of_ints ns)
theorem ints?_eq:∀ {xs:List PV} {ns:List Int},ints? xs = some ns -> xs = ns.map .int
 | [],_,h => by simp [ints?] at h; subst h; rfl
 | .int i :: r,ns,h => by
  simp only [ints?,Option.map_eq_some_iff] at h
  obtain ⟨ms,h1,rfl⟩:=h
  rw [ints?_eq h1]; rfl
 | .non :: _,_,h => by simp [ints?] at h
 | .bl _ :: _,_,h => by simp [ints?] at h
 | .str _ :: _,_,h => by simp [ints?] at h
 | .tup _ :: _,_,h => by simp [ints?] at h
 | .lst _ :: _,_,h => by simp [ints?] at h
 | .dI _ :: _,_,h => by simp [ints?] at h
theorem tups?_eq:∀ {xs:List PV} {ns:List (List Int)},tups? xs = some ns -> xs = ns.map fun t => .tup (t.map .int)
 | [],_,h => by simp [tups?] at h; subst h; rfl
 | .tup i :: r,ns,h => by
  simp only [tups?,Option.bind_eq_some_iff,Option.map_eq_some_iff] at h
  obtain ⟨t,h0,ms,h1,rfl⟩:=h
  rw [tups?_eq h1,ints?_eq h0]; rfl
 | .non :: _,_,h => by simp [tups?] at h
 | .bl _ :: _,_,h => by simp [tups?] at h
 | .str _ :: _,_,h => by simp [tups?] at h
 | .int _ :: _,_,h => by simp [tups?] at h
 | .lst _ :: _,_,h => by simp [tups?] at h
 | .dI _ :: _,_,h => by simp [tups?] at h
theorem bools?_eq:∀ {xs:List PV} {ns:List Bool},bools? xs = some ns -> xs = ns.map .bl
 | [],_,h => by simp [bools?] at h; subst h; rfl
 | .bl i :: r,ns,h => by
  simp only [bools?,Option.map_eq_some_iff] at h
  obtain ⟨ms,h1,rfl⟩:=h
  rw [bools?_eq h1]; rfl
 | .non :: _,_,h => by simp [bools?] at h
 | .int _ :: _,_,h => by simp [bools?] at h
 | .str _ :: _,_,h => by simp [bools?] at h
 | .tup _ :: _,_,h => by simp [bools?] at h
 | .lst _ :: _,_,h => by simp [bools?] at h
 | .dI _ :: _,_,h => by simp [bools?] at h
end
theorem sqT_of {K:PySem.W.Frag} {H:Hp} {a:Addr} {us:List V} (h:SqT K H a us):SqT K H a us:=h
noncomputable def RepB (K:PySem.W.Frag) (H:Hp) (O:List Addr) (v:PV) (u:V):Prop :=
 Rep K (hide H O) v u \/ (∃ xs a us,v = .lst xs /\ u = .ref a /\ SqL K H a us /\ Reps K (hide H O) xs us) \/ ∃ kvs a,v = .dI kvs /\ u = .ref a /\ RdD H a kvs
section
variable {K:PySem.W.Frag} {H H':Hp} {O:List Addr}
theorem RepB.of {v:PV} {u:V} (h:Rep K (hide H O) v u):RepB K H O v u:=.inl h
theorem RepB.mono (s:Same H H') {v:PV} {u:V} (h:RepB K H O v u):RepB K H' O v u:=by
 rcases h with h | ⟨xs,a,us,e1,e2,q,r⟩ | ⟨kvs,a,e1,e2,q⟩
 ·exact .inl (Rep.mono (hide_same s) _ h)
 ·exact .inr (.inl ⟨xs,a,us,e1,e2,s.seq q,Reps.mono (hide_same s) _ r⟩)
 ·exact .inr (.inr ⟨kvs,a,e1,e2,Same.rdD s q⟩)
theorem RepB.lst {xs:List PV} {u:V} (h:RepB K H O (.lst xs) u):∃ a us,u = .ref a /\ SqL K H a us /\ Reps K (hide H O) xs us:=by
 rcases h with h | ⟨ys,a,us,e1,e2,q,r⟩ | ⟨kvs,a,e1,e2,q⟩
 ·rw [Rep] at h
  obtain ⟨a,us,e,q,r⟩:=h
  exact ⟨a,us,e,(hide_le H O).seq q,r⟩
 ·cases e1
  exact ⟨a,us,e2,q,r⟩
 ·cases e1
theorem RepB.tup {xs:List PV} {u:V} (h:RepB K H O (.tup xs) u):∃ a us,u = .ref a /\ SqT K H a us /\ Reps K (hide H O) xs us:=by
 rcases h with h | ⟨ys,a,us,e1,e2,q,r⟩ | ⟨kvs,a,e1,e2,q⟩
 ·rw [Rep] at h
  obtain ⟨a,us,e,q,r⟩:=h
  exact ⟨a,us,e,(hide_le H O).seqT q,r⟩
 ·cases e1
 ·cases e1
theorem RepB.tupR {xs:List PV} {u:V} (h:RepB K H O (.tup xs) u):Rep K (hide H O) (.tup xs) u:=by
 rcases h with h | ⟨ys,a,us,e1,e2,q,r⟩ | ⟨kvs,a,e1,e2,q⟩
 ·exact h
 ·cases e1
 ·cases e1
theorem RepB.dI {kvs:DD} {u:V} (h:RepB K H O (.dI kvs) u):∃ a,u = .ref a /\ RdD H a kvs:=by
 rcases h with h | ⟨ys,a,us,e1,e2,q,r⟩ | ⟨kvs,a,e1,e2,q⟩
 ·rw [Rep] at h
  obtain ⟨a,e,q⟩:=h
  exact ⟨a,e,Same.rdD (hide_le H O) q⟩
 ·cases e1
 ·cases e1
  exact ⟨a,e2,q⟩
theorem RepB.int {i:Int} {u:V} (h:RepB K H O (.int i) u):u = .int i:=by
 rcases h with h | ⟨ys,a,us,e1,e2,q,r⟩ | ⟨kvs,a,e1,e2,q⟩
 ·rw [Rep] at h; exact h
 ·cases e1
 ·cases e1
theorem RepB.bl {i:Bool} {u:V} (h:RepB K H O (.bl i) u):u = .bl i:=by
 rcases h with h | ⟨ys,a,us,e1,e2,q,r⟩ | ⟨kvs,a,e1,e2,q⟩
 ·rw [Rep] at h; exact h
 ·cases e1
 ·cases e1
theorem RepB.str {i:Str} {u:V} (h:RepB K H O (.str i) u):u = .str i:=by
 rcases h with h | ⟨ys,a,us,e1,e2,q,r⟩ | ⟨kvs,a,e1,e2,q⟩
 ·rw [Rep] at h; exact h
 ·cases e1
 ·cases e1
theorem RepB.non {u:V} (h:RepB K H O .non u):u = .non:=by
 rcases h with h | ⟨ys,a,us,e1,e2,q,r⟩ | ⟨kvs,a,e1,e2,q⟩
 ·rw [Rep] at h; exact h
 ·cases e1
 ·cases e1
theorem RepB.seq {v:PV} {xs:List PV} {u:V} (h:RepB K H O v u) (e:seq? v = some xs):∃ a us,u = .ref a /\ (SqL K H a us \/ SqT K H a us) /\ Reps K (hide H O) xs us:=by
 cases v with
 | lst ys => simp [seq?] at e; subst e; obtain ⟨a,us,e,q,r⟩:=h.lst; exact ⟨a,us,e,.inl q,r⟩
 | tup ys => simp [seq?] at e; subst e; obtain ⟨a,us,e,q,r⟩:=h.tup; exact ⟨a,us,e,.inr q,r⟩
 | _ => simp [seq?] at e
theorem RepB.whole {v:PV} {u:V} (h:RepB K H O v u):Rep K H v u:=by
 rcases h with h | ⟨xs,a,us,rfl,e2,q,r⟩ | ⟨kvs,a,rfl,e2,q⟩
 ·exact Rep.mono (hide_le H O) _ h
 ·rw [Rep]; exact ⟨a,us,e2,q,Reps.mono (hide_le H O) _ r⟩
 ·rw [Rep]; exact ⟨a,e2,q⟩
end
noncomputable def SlotOk (K:PySem.W.Frag) (B:Hp) (O:List Addr) (H:Hp):MV -> V -> Prop
 | .val v,u => Rep K (hide H O) v u
 | .own xs,u => ∃ a us,u = .ref a /\ H a = some (.lst us) /\ Reps K (hide H O) xs us /\ a ∈ O /\ B a = none
 | .brw xs,u => ∃ a us,u = .ref a /\ SqL K B a us /\ Reps K (hide H O) xs us
 | .ownD kvs,u => ∃ a,u = .ref a /\ H a = some (encD kvs) /\ a ∈ O /\ B a = none
 | .mutD kvs,u => ∃ a,u = .ref a /\ H a = some (encD kvs) /\ a ∈ O /\ B a = none
 | .brwD kvs,u => ∃ a,u = .ref a /\ Rd B a (encD kvs)
noncomputable def ownM:MV -> Bool
 | .own _ => true
 | .ownD _ => true
 | .mutD _ => true
 | _ => false
structure StOk (K:PySem.W.Frag) (B:Hp) (O₀ O:List Addr) (H:Hp) (ρ:Rho) (σ:St):Prop where
 keep:Same B H
 here:∀ a ∈ O,H a ≠ none
 sub:∀ a ∈ O₀,a ∈ O
 old:∀ a ∈ O₀,B a ≠ none
 len:ρ.length = σ.length
 slot:∀ (i:Nat) (m:MV),ρ[i]? = some (some m) -> ∃ u,σ[i]? = some (some u) /\ SlotOk K B O H m u
 apart:∀ (i j:Nat) (m m':MV) (a:Addr),i ≠ j -> ρ[i]? = some (some m) -> ρ[j]? = some (some m') -> ownM m = true -> ownM m' = true -> σ[i]? = some (some (.ref a)) -> σ[j]? ≠ some (some (.ref a))
section
variable {K:PySem.W.Frag} {B H H':Hp} {O₀ O:List Addr} {ρ:Rho} {σ:St}
theorem SlotOk.mono (s:Same H H') {m:MV} {u:V} (h:SlotOk K B O H m u):SlotOk K B O H' m u:=by
 cases m with
 | val v => exact Rep.mono (hide_same s) _ h
 | own xs => obtain ⟨a,us,e,q,r,h1,h2⟩:=h; exact ⟨a,us,e,s _ _ q,Reps.mono (hide_same s) _ r,h1,h2⟩
 | brw xs => obtain ⟨a,us,e,q,r⟩:=h; exact ⟨a,us,e,q,Reps.mono (hide_same s) _ r⟩
 | ownD kvs => obtain ⟨a,e,q,h1,h2⟩:=h; exact ⟨a,e,s _ _ q,h1,h2⟩
 | mutD kvs => obtain ⟨a,e,q,h1,h2⟩:=h; exact ⟨a,e,s _ _ q,h1,h2⟩
 | brwD kvs => exact h
theorem StOk.mono (s:Same H H') (h:StOk K B O₀ O H ρ σ):StOk K B O₀ O H' ρ σ where
 keep:=h.keep.trans s
 here:=fun a ha e => h.here a ha (s.free e)
 sub:=h.sub
 old:=h.old
 len:=h.len
 slot:=fun i m e => let ⟨u,e1,q⟩:=h.slot i m e; ⟨u,e1,q.mono s⟩
 apart:=h.apart
theorem SlotOk.bor {m:MV} {u:V} {v:PV} (hB:Same B H) (h:SlotOk K B O H m u) (e:borOf (some m) = some v):RepB K H O v u:=by
 cases m with
 | val w => simp [borOf] at e; subst e; exact .inl h
 | own xs => simp [borOf] at e; subst e; obtain ⟨a,us,e,q,r,_⟩:=h; exact .inr (.inl ⟨xs,a,us,rfl,e,SqL.of q,r⟩)
 | brw xs => simp [borOf] at e; subst e; obtain ⟨a,us,e,q,r⟩:=h; exact .inr (.inl ⟨xs,a,us,rfl,e,hB.seq q,r⟩)
 | ownD kvs => simp [borOf] at e; obtain ⟨np,rfl⟩:=e; obtain ⟨a,e,q,_⟩:=h; exact .inr (.inr ⟨kvs,a,rfl,e,.inl q,np⟩)
 | mutD kvs => simp [borOf] at e; obtain ⟨np,rfl⟩:=e; obtain ⟨a,e,q,_⟩:=h; exact .inr (.inr ⟨kvs,a,rfl,e,.inl q,np⟩)
 | brwD kvs => simp [borOf] at e; obtain ⟨np,rfl⟩:=e; obtain ⟨a,e,q⟩:=h; exact .inr (.inr ⟨kvs,a,rfl,e,Same.rd hB q,np⟩)
end
theorem join_some {α:Type} {o:Option (Option α)} {x:α} (h:o.join = some x):o = some (some x):=by
 cases o with
 | none => simp at h
 | some y => cases y with
  | none => simp at h
  | some z => simp at h; rw [h]
theorem bor_own {d:DD} {v:PV} (h:borOf (some (.ownD d)) = some v):v = .dI d:=by
 simp [borOf] at h; exact h.2.symm
theorem bor_brw {d:DD} {v:PV} (h:borOf (some (.brwD d)) = some v):v = .dI d:=by
 simp [borOf] at h; exact h.2.symm
theorem bor_mut {d:DD} {v:PV} (h:borOf (some (.mutD d)) = some v):v = .dI d:=by
 simp [borOf] at h; exact h.2.symm
end MM
namespace MM
open PySem PySem.Spec PyProof.Rows L2
structure Tab where
 fs:List Str
 gs:List (Str × PV)
 ds:List (List Sc)
noncomputable def visB (sc:Scope) (x:Str):Bool:=sc.names.lookup x == some .local || sc.names.lookup x == some .cell || sc.names.lookup x == some .free
noncomputable def locB (sc:Scope) (x:Str):Bool:=sc.names.lookup x == some .local || sc.names.lookup x == some .cell
noncomputable def glB (sc:Scope) (x:Str):Bool:=sc.names.lookup x == some .globalImplicit
noncomputable def plainName (x:Str):Bool:=!(x == ("__debug__":Str)) && !(x == ("__classdict__":Str)) && !(x == ("__name__":Str))
noncomputable def nameAt (N:List Str) (sc:Scope) (i:Nat) (x:Str):Bool:=N[i]? == some x && visB sc x && plainName x
noncomputable def isBor:ME -> Bool
 | .bor _ => true
 | _ => false
noncomputable def opOf:Op2 -> Operator
 | .add => .Add | .sub => .Sub | .mul => .Mult | .fdiv => .FloorDiv | .mod => .Mod | .pow => .Pow | .shr => .RShift
noncomputable def cpOf:Cp -> CmpOp
 | .eq => .Eq | .ne => .NotEq | .lt => .Lt | .le => .LtE | .gt => .Gt | .ge => .GtE | .isN => .Is | .notN => .IsNot | .isIn => .In | .notIn => .NotIn
noncomputable def constB:PV -> Const -> Bool
 | .non,.none => true
 | .bl a,.bool b => a == b
 | .int a,.int b => a == b
 | .str a,.str b => a == b
 | _,_ => false
noncomputable def scalB:PV -> PV -> Bool
 | .non,.non => true
 | .bl a,.bl b => a == b
 | .int a,.int b => a == b
 | .str a,.str b => a == b
 | _,_ => false
noncomputable def gsHas (gs:List (Str × PV)) (x:Str) (v:PV):Bool:=gs.any fun p => p.1 == x && scalB p.2 v
noncomputable def notStar:Expr -> Bool
 | .Starred .. => false
 | _ => true
noncomputable def notSet:Expr -> Bool
 | .Set .. => false
 | _ => true
noncomputable def notSlice:Expr -> Bool
 | .Slice .. => false
 | _ => true
noncomputable def notComp:Expr -> Bool
 | .ListComp .. => false
 | .SetComp .. => false
 | .DictComp .. => false
 | _ => true
noncomputable def plainTest:Expr -> Bool
 | .UnaryOp .Not _ _ => false
 | .BoolOp .. => false
 | .IfExp .. => false
 | .Compare .. => false
 | _ => true
noncomputable def bltOf:Blt -> String
 | .strOf => "str"
 | .len => "len" | .tupleOf => "tuple" | .listOf => "list" | .sorted => "sorted" | .any => "any" | .all => "all" | .sum => "sum" | .max1 => "max" | .min1 => "min" | .max2 => "max" | .min2 => "min"
 | .intOf => "int" | .boolOf => "bool" | .isInt => "isinstance" | .isBool => "isinstance" | .isStr => "isinstance" | .isList => "isinstance" | .isTuple => "isinstance" | .sortedKeys => "sorted" | .valuesOf => "list" | .sortedSet => "sorted" | .lenSet => "len" | .lenSetSub => "len" | .tupleRev => "tuple"
noncomputable def instOf:Blt -> Option String
 | .isInt => some "int" | .isBool => some "bool" | .isStr => some "str" | .isList => some "list" | .isTuple => some "tuple"
 | _ => none
noncomputable def plainArgs:Blt -> Option Nat
 | .len | .tupleOf | .listOf | .sorted | .any | .all | .sum | .intOf | .boolOf | .max1 | .sortedKeys => some 1
 | .strOf => some 1
 | .max2 | .min2 => some 2
 | _ => none
noncomputable def compScB (osc:Scope) (N:List Str) (scope:Scope) (x:Str) (fvs:List Str) (js:List Nat):Bool :=
 decide (∀ y ∈ scope.names,y.2 = .cell -> y.1 = x) && decide (scope.names.lookup x = some .local /\ (scope.names.filter fun y => y.2 == .cell) = [] \/ scope.names.lookup x = some .cell /\ (scope.names.filter fun y => y.2 == .cell) = [(x,.cell)])
  && decide (∀ y ∈ scope.names,y.2 = .free -> y.1 ≠ x) && scope.kind == .function && decide (∀ y ∈ scope.names,y.2 = .local -> scope.names.lookup y.1 = some .local)
  && decide ((x :: fvs).Nodup) && decide (∀ y ∈ scope.names,y.2 = .free -> osc.names.lookup y.1 = some .cell \/ osc.names.lookup y.1 = some .free) && decide ((js.map fun j => N[j]?) = fvs.map some)
  && decide (∀ y ∈ fvs,scope.names.lookup y = some .free)
noncomputable def fvsOf (N:List Str) (js:List Nat):List Str:=js.map fun j => (N[j]?).getD Str.empty
noncomputable def compScB2 (osc:Scope) (N:List Str) (scope:Scope) (x y:Str) (fvs:List Str) (js:List Nat):Bool :=
 decide ((scope.names.filter fun y => y.2 == .cell) = []) && decide (scope.names.lookup x = some .local) && decide (scope.names.lookup y = some .local)
  && decide (∀ y ∈ scope.names,y.2 = .free -> y.1 ≠ x) && scope.kind == .function && decide (∀ y ∈ scope.names,y.2 = .local -> scope.names.lookup y.1 = some .local)
  && decide ((x :: ([y] ++ fvs)).Nodup) && decide (∀ y ∈ scope.names,y.2 = .free -> osc.names.lookup y.1 = some .cell \/ osc.names.lookup y.1 = some .free) && decide ((js.map fun j => N[j]?) = fvs.map some)
  && decide (∀ y ∈ fvs,scope.names.lookup y = some .free)
noncomputable def comp2X:Expr -> Option (Expr × Expr × List Expr × Scope × Str × Str)
 | .ListComp e [⟨.Tuple [.Name x _,.Name y _] _ _,it,ifs,0⟩] scope _ => some (e,it,ifs,scope,x,y)
 | _ => none
theorem comp2X_of {e:Expr} {q:Expr × Expr × List Expr × Scope × Str × Str} (h:comp2X e = some q):∃ px py j tp pos,e = .ListComp q.1 [⟨.Tuple [.Name q.2.2.2.2.1 px,.Name q.2.2.2.2.2 py] j tp,q.2.1,q.2.2.1,0⟩] q.2.2.2.1 pos:=by
 unfold comp2X at h
 split at h
 ·cases h; exact ⟨_,_,_,_,_,rfl⟩
 ·cases h
noncomputable def chkW (sc:Scope) (tup:Bool) (f:List Expr -> Bool):Sk -> Expr -> Bool
 | .seq,it => notSet it && f [it]
 | .rng,.Call (.Name x _) args [] _ => x == ("range":Str) && glB sc x && f args && (args.length == 1 || args.length == 2)
 | .rev,_ => false
 | .enm,_ => false
 | .zip,.Call (.Name x _) [a,b] [] _ => tup && x == ("zip":Str) && glB sc x && f [a,b] && notStar a && notStar b
 | _,_ => false
noncomputable def instArgs (sc:Scope) (f:List Expr -> Bool) (n:Nat) (c:String):List Expr -> Bool
 | [x,.Name t _] => t == (c:Str) && glB sc t && f [x] && n == 1
 | _ => false
noncomputable def baseB:Expr -> Bool
 | .Name _ _ => true
 | .Call _ (_ :: _) _ _ => true
 | _ => false
noncomputable def bltArgs (sc:Scope) (f:List Expr -> Bool) (n:Nat) (b:Blt) (args:List Expr):Bool:=match b with
 | .sortedSet => false
 | .lenSet => false
 | .lenSetSub => false
 | .tupleRev => false
 | .valuesOf => false
 | .sortedKeys => false
 | .max1 => false
 | .sum => false
 | .max2 => false
 | .min2 => false
 | .intOf => false
 | .boolOf => false
 | .isList => false
 | b => match instOf b with
  | some c => instArgs sc f n c args
  | none => plainArgs b == some n && f args
noncomputable def isNonE:ME -> Bool
 | .cst .non => true
 | _ => false
noncomputable def boundB (f:Expr -> Bool) (non:Bool):Option Expr -> Bool
 | none => non
 | some l => f l && !non
noncomputable def condB (f:Expr -> Bool) (m:ME):List Expr -> Bool
 | [] => (match m with | .cst (.bl true) => true | _ => false)
 | [c] => f c
 | _ => false
noncomputable def tailB (f:Expr -> Bool) (op:BoolOp) (pos:Pos) (y:Expr):List Expr -> Bool
 | [] => f y
 | z :: r => f (.BoolOp op (y :: z :: r) pos)
noncomputable def onQ {α:Type}:Option α -> (α -> Bool) -> Bool
 | some a,f => f a
 | none,_ => false
theorem onQ_of {α:Type} {o:Option α} {f:α -> Bool} (h:onQ o f = true):∃ a,o = some a /\ f a = true:=by
 cases o with
 | none => cases h
 | some a => exact ⟨a,rfl,h⟩
noncomputable def joinQ:Expr -> Option (Str × Str × Expr × Pos × Pos)
 | .Call (.Attribute (.Constant (.str x) _ _) m ap) [e] [] cp => some (x,m,e,ap,cp)
 | _ => none
theorem joinQ_of {e:Expr} {q:Str × Str × Expr × Pos × Pos} (h:joinQ e = some q):∃ j p,e = .Call (.Attribute (.Constant (.str q.1) j p) q.2.1 q.2.2.2.1) [q.2.2.1] [] q.2.2.2.2:=by
 unfold joinQ at h
 split at h
 ·cases h; exact ⟨_,_,rfl⟩
 ·cases h
noncomputable def cdatQ:Expr -> Option (Str × Expr)
 | .Subscript (.Name x _) e _ => some (x,e)
 | _ => none
theorem cdatQ_of {e:Expr} {q:Str × Expr} (h:cdatQ e = some q):∃ p pos,e = .Subscript (.Name q.1 p) q.2 pos:=by
 unfold cdatQ at h
 split at h
 ·cases h; exact ⟨_,_,rfl⟩
 ·cases h
noncomputable def lenP?:Expr -> Option (Str × Str)
 | .Call (.Name x _) [.Name y _] [] _ => some (x,y)
 | _ => none
theorem lenP_of {e:Expr} {q:Str × Str} (h:lenP? e = some q):∃ p p2 pos,e = .Call (.Name q.1 p) [.Name q.2 p2] [] pos:=by
 unfold lenP? at h
 split at h
 ·cases h; exact ⟨_,_,_,rfl⟩
 ·cases h
mutual
noncomputable def chk (T:Tab):ME -> List Str -> Scope -> Expr -> Bool
 | .var i,N,sc,e0 => (match e0 with | .Name x _ => nameAt N sc i x | _ => false)
 | .bor i,N,sc,e0 => (match e0 with | .Name x _ => nameAt N sc i x | _ => false)
 | .cst v,_,_,e0 => (match e0 with | .Constant c _ _ => constB v c | _ => false)
 | .glob x v,_,sc,e0 => (match e0 with | .Name y _ => x == y && glB sc x && gsHas T.gs x v && plainName x | _ => false)
 | .bin op a b,N,sc,e0 => (match e0 with | .BinOp l o r _ => o == opOf op && chk T a N sc l && chk T b N sc r | _ => false)
 | .neg _,_,_,_ => false
 | .not a,N,sc,e0 => (match e0 with | .UnaryOp .Not e _ => chk T a N sc e | _ => false)
 | .and a b,N,sc,e0 => (match e0 with | .BoolOp .And (x :: y :: r) pos => chk T a N sc x && tailB (fun e => chk T b N sc e) .And pos y r | _ => false)
 | .or a b,N,sc,e0 => (match e0 with | .BoolOp .Or (x :: y :: r) pos => chk T a N sc x && tailB (fun e => chk T b N sc e) .Or pos y r | _ => false)
 | .ite c a b,N,sc,e0 => (match e0 with | .IfExp t x y _ => chk T c N sc t && chk T a N sc x && chk T b N sc y && !isBor a && !isBor b | _ => false)
 | .cmp op a b,N,sc,e0 => (match e0 with | .Compare l [o] [r] _ => o == cpOf op && chk T a N sc l && chk T b N sc r && !behindInMarks o r | _ => false)
 | .chain _ _ _ _ _,_,_,_ => false
 | .tup es,N,sc,e0 => (match e0 with | .Tuple xs _ _ => chks T es N sc xs && es.all (fun e => !isBor e) | _ => false)
 | .lst es,N,sc,e0 => (match e0 with | .List xs _ => chks T es N sc xs && es.all (fun e => !isBor e) | _ => false)
 | .idx a i,N,sc,e0 => (match e0 with | .Subscript v s _ => chk T a N sc v && chk T i N sc s && notSlice s | _ => false)
 | .slice a lo hi,N,sc,e0 => (match e0 with | .Subscript v (.Slice l u none _) _ => chk T a N sc v && boundB (fun e => chk T lo N sc e) (isNonE lo) l && boundB (fun e => chk T hi N sc e) (isNonE hi) u | _ => false)
 | .blt b es,N,sc,e0 => (match e0 with | .Call (.Name f _) args [] _ => f == (bltOf b:Str) && glB sc f && bltArgs sc (fun xs => chks T es N sc xs) es.length b args | _ => false)
 | .call f es,N,sc,e0 => (match e0 with | .Call (.Name x _) args [] _ => T.fs[f]? == some x && glB sc x && plainName x && chks T es N sc args | _ => false)
 | .callD _ _ _,_,_,_ => false
 | .comp k src js cond elt,N,sc,e0 => (match e0 with | .ListComp e [⟨.Name x _,it,ifs,0⟩] scope _ => compScB sc N scope x (fvsOf N js) js && chkW sc false (fun xs => chks T src N sc xs) k it && condB (fun c => chk T cond (x :: fvsOf N js) (relS scope sc) c) cond ifs && chk T elt (x :: fvsOf N js) (relS scope sc) e && !isBor elt | _ => false)
 | .dget _ _ _,_,_,_ => false
 | .dat _ _,_,_,_ => false
 | .dIn _ _ _,_,_,_ => false
 | .join x e,N,sc,e0 => onQ (joinQ e0) fun q => q.1 == x && q.2.1 == ("join":Str) && chk T e N sc q.2.2.1 && notStar q.2.2.1 && q.2.2.2.1.endLine == q.2.2.2.2.line
 | .cdat x e,N,sc,e0 => onQ (cdatQ e0) fun q => q.1 == x && glB sc q.1 && plainName q.1 && chk T e N sc q.2 && notSlice q.2 && cTab.any fun t => t.1 == x
 | .comp2 src js cond elt,N,sc,e0 => onQ (comp2X e0) fun q => compScB2 sc N q.2.2.2.1 q.2.2.2.2.1 q.2.2.2.2.2 (fvsOf N js) js && chkW sc true (fun xs => chks T src N sc xs) sk2 q.2.1 && condB (fun c => chk T cond (q.2.2.2.2.1 :: ([q.2.2.2.2.2] ++ fvsOf N js)) (relS q.2.2.2.1 sc) c) cond q.2.2.1 && chk T elt (q.2.2.2.2.1 :: ([q.2.2.2.2.2] ++ fvsOf N js)) (relS q.2.2.2.1 sc) q.1 && !isBor elt
 | .lenP i,N,sc,e0 => (match lenP? e0 with | some (x,y) => x == ("len":Str) && glB sc x && nameAt N sc i y | none => false)
noncomputable def chks (T:Tab):List ME -> List Str -> Scope -> List Expr -> Bool
 | [],_,_,[] => true
 | m :: ms,N,sc,e :: es => chk T m N sc e && notStar e && chks T ms N sc es
 | _,_,_,_ => false
end
theorem ck_var (T:Tab) (i:Nat) (N:List Str) (sc:Scope) (e0:Expr):chk T (.var i) N sc e0 = (match e0 with | .Name x _ => nameAt N sc i x | _ => false):=rfl
theorem ck_bor (T:Tab) (i:Nat) (N:List Str) (sc:Scope) (e0:Expr):chk T (.bor i) N sc e0 = (match e0 with | .Name x _ => nameAt N sc i x | _ => false):=rfl
theorem ck_cst (T:Tab) (v:PV) (N:List Str) (sc:Scope) (e0:Expr):chk T (.cst v) N sc e0 = (match e0 with | .Constant c _ _ => constB v c | _ => false):=rfl
theorem ck_glob (T:Tab) (x:Str) (v:PV) (N:List Str) (sc:Scope) (e0:Expr):chk T (.glob x v) N sc e0 = (match e0 with | .Name y _ => x == y && glB sc x && gsHas T.gs x v && plainName x | _ => false):=rfl
theorem ck_bin (T:Tab) (op:Op2) (a b:ME) (N:List Str) (sc:Scope) (e0:Expr):chk T (.bin op a b) N sc e0 = (match e0 with | .BinOp l o r _ => o == opOf op && chk T a N sc l && chk T b N sc r | _ => false):=rfl
theorem ck_neg (T:Tab) (a:ME) (N:List Str) (sc:Scope) (e0:Expr):chk T (.neg a) N sc e0 = false:=rfl
theorem ck_not (T:Tab) (a:ME) (N:List Str) (sc:Scope) (e0:Expr):chk T (.not a) N sc e0 = (match e0 with | .UnaryOp .Not e _ => chk T a N sc e | _ => false):=rfl
theorem ck_and (T:Tab) (a b:ME) (N:List Str) (sc:Scope) (e0:Expr):chk T (.and a b) N sc e0 = (match e0 with | .BoolOp .And (x :: y :: r) pos => chk T a N sc x && tailB (fun e => chk T b N sc e) .And pos y r | _ => false):=rfl
theorem ck_or (T:Tab) (a b:ME) (N:List Str) (sc:Scope) (e0:Expr):chk T (.or a b) N sc e0 = (match e0 with | .BoolOp .Or (x :: y :: r) pos => chk T a N sc x && tailB (fun e => chk T b N sc e) .Or pos y r | _ => false):=rfl
theorem ck_ite (T:Tab) (c a b:ME) (N:List Str) (sc:Scope) (e0:Expr):chk T (.ite c a b) N sc e0 = (match e0 with | .IfExp t x y _ => chk T c N sc t && chk T a N sc x && chk T b N sc y && !isBor a && !isBor b | _ => false):=rfl
theorem ck_cmp (T:Tab) (op:Cp) (a b:ME) (N:List Str) (sc:Scope) (e0:Expr):chk T (.cmp op a b) N sc e0 = (match e0 with | .Compare l [o] [r] _ => o == cpOf op && chk T a N sc l && chk T b N sc r && !behindInMarks o r | _ => false):=rfl
theorem ck_chain (T:Tab) (op op':Cp) (a b c:ME) (N:List Str) (sc:Scope) (e0:Expr):chk T (.chain op op' a b c) N sc e0 = false:=rfl
theorem ck_tup (T:Tab) (es:List ME) (N:List Str) (sc:Scope) (e0:Expr):chk T (.tup es) N sc e0 = (match e0 with | .Tuple xs _ _ => chks T es N sc xs && es.all (fun e => !isBor e) | _ => false):=rfl
theorem ck_lst (T:Tab) (es:List ME) (N:List Str) (sc:Scope) (e0:Expr):chk T (.lst es) N sc e0 = (match e0 with | .List xs _ => chks T es N sc xs && es.all (fun e => !isBor e) | _ => false):=rfl
theorem ck_idx (T:Tab) (a i:ME) (N:List Str) (sc:Scope) (e0:Expr):chk T (.idx a i) N sc e0 = (match e0 with | .Subscript v s _ => chk T a N sc v && chk T i N sc s && notSlice s | _ => false):=rfl
theorem ck_slice (T:Tab) (a lo hi:ME) (N:List Str) (sc:Scope) (e0:Expr):chk T (.slice a lo hi) N sc e0 = (match e0 with | .Subscript v (.Slice l u none _) _ => chk T a N sc v && boundB (fun e => chk T lo N sc e) (isNonE lo) l && boundB (fun e => chk T hi N sc e) (isNonE hi) u | _ => false):=rfl
theorem ck_blt (T:Tab) (b:Blt) (es:List ME) (N:List Str) (sc:Scope) (e0:Expr):chk T (.blt b es) N sc e0 = (match e0 with | .Call (.Name f _) args [] _ => f == (bltOf b:Str) && glB sc f && bltArgs sc (fun xs => chks T es N sc xs) es.length b args | _ => false):=rfl
theorem ck_call (T:Tab) (f:Nat) (es:List ME) (N:List Str) (sc:Scope) (e0:Expr):chk T (.call f es) N sc e0 = (match e0 with | .Call (.Name x _) args [] _ => T.fs[f]? == some x && glB sc x && plainName x && chks T es N sc args | _ => false):=rfl
theorem ck_comp (T:Tab) (k:Sk) (src:List ME) (js:List Nat) (cond elt:ME) (N:List Str) (sc:Scope) (e0:Expr):chk T (.comp k src js cond elt) N sc e0 = (match e0 with | .ListComp e [⟨.Name x _,it,ifs,0⟩] scope _ => compScB sc N scope x (fvsOf N js) js && chkW sc false (fun xs => chks T src N sc xs) k it && condB (fun c => chk T cond (x :: fvsOf N js) (relS scope sc) c) cond ifs && chk T elt (x :: fvsOf N js) (relS scope sc) e && !isBor elt | _ => false):=rfl
noncomputable def freshB:ME -> Bool
 | .lst _ => true
 | .comp .. => true
 | .blt .listOf _ => true
 | .blt .sorted _ => true
 | .blt .sortedSet _ => true
 | .blt .sortedKeys _ => true
 | .blt .valuesOf _ => true
 | _ => false
noncomputable def catB:ME -> Bool
 | .bin .add _ _ => true
 | _ => false
noncomputable def swapB (sc:Scope) (t:Str) (tpos:Pos):Expr -> Bool
 | .ListComp _ _ s p => sc.names.lookup t == some .local && tpos.line == p.line && !(s.names.any fun (n,k) => n == t && (k == .local || k == .cell))
 | _ => false
noncomputable def isC2:ME -> Bool
 | .comp2 .. => true
 | _ => false
noncomputable def swapK (sc:Scope) (t:Str) (tpos:Pos) (v:Expr) (e:ME):Bool:=swapB sc t tpos v && !isC2 e
noncomputable def maskOk:List Bool -> List ME -> Bool
 | [],[] => true
 | true :: bs,e :: es => isBor e && maskOk bs es
 | false :: bs,_ :: es => maskOk bs es
 | _,_ => false
noncomputable def maskIs:List Bool -> List ME -> List Nat
 | true :: bs,.bor i :: es => i :: maskIs bs es
 | _ :: bs,_ :: es => maskIs bs es
 | _,_ => []
noncomputable def callOkM (T:Tab) (f:Nat) (mask:List Bool) (es:List ME) (N:List Str) (sc:Scope):Expr -> Bool
 | .Call (.Name g _) args [] _ => T.fs[f]? == some g && glB sc g && plainName g && chks T es N sc args && maskOk mask es && decide (maskIs mask es).Nodup && !args.isEmpty
 | _ => false
theorem callOkM_of {T:Tab} {f:Nat} {mask:List Bool} {es:List ME} {N:List Str} {sc:Scope} {e:Expr} (h:callOkM T f mask es N sc e = true):∃ g p args cp,e = .Call (.Name g p) args [] cp /\ (T.fs[f]? == some g && glB sc g && plainName g && chks T es N sc args && maskOk mask es && decide (maskIs mask es).Nodup && !args.isEmpty) = true:=by
 unfold callOkM at h
 split at h
 ·exact ⟨_,_,_,_,rfl,h⟩
 ·cases h
noncomputable def revQ:Expr -> Option (Str × Str × Expr)
 | .Call (.Name f _) [.Call (.Name g _) [e] [] _] [] _ => some (f,g,e)
 | _ => none
theorem revQ_of {e:Expr} {q:Str × Str × Expr} (h:revQ e = some q):∃ p p2 pos2 pos,e = .Call (.Name q.1 p) [.Call (.Name q.2.1 p2) [q.2.2] [] pos2] [] pos:=by
 unfold revQ at h
 split at h
 ·cases h; exact ⟨_,_,_,_,rfl⟩
 ·cases h
noncomputable def popQ:Expr -> Option (Str × Str × Pos × Pos)
 | .Call (.Attribute (.Name x _) m ap) [] [] cp => some (x,m,ap,cp)
 | _ => none
theorem popQ_of {e:Expr} {q:Str × Str × Pos × Pos} (h:popQ e = some q):∃ p,e = .Call (.Attribute (.Name q.1 p) q.2.1 q.2.2.1) [] [] q.2.2.2:=by
 unfold popQ at h
 split at h
 ·cases h; exact ⟨_,rfl⟩
 ·cases h
noncomputable def binQ:Expr -> Option (Expr × Operator × Expr)
 | .BinOp l o r _ => some (l,o,r)
 | _ => none
theorem binQ_of {e:Expr} {q:Expr × Operator × Expr} (h:binQ e = some q):∃ pos,e = .BinOp q.1 q.2.1 q.2.2 pos:=by
 unfold binQ at h
 split at h
 ·cases h; exact ⟨_,rfl⟩
 ·cases h
noncomputable def fnQ:Expr -> Option (Str × Expr × List Expr)
 | .Call (.Name x _) (a :: as) [] _ => some (x,a,as)
 | _ => none
theorem fnQ_of {e:Expr} {q:Str × Expr × List Expr} (h:fnQ e = some q):∃ p pos,e = .Call (.Name q.1 p) (q.2.1 :: q.2.2) [] pos:=by
 unfold fnQ at h
 split at h
 ·cases h; exact ⟨_,_,rfl⟩
 ·cases h
noncomputable def tupQ:Expr -> Option (List Expr)
 | .Tuple xs _ _ => some xs
 | _ => none
theorem tupQ_of {e:Expr} {q:List Expr} (h:tupQ e = some q):∃ j pos,e = .Tuple q j pos:=by
 unfold tupQ at h
 split at h
 ·cases h; exact ⟨_,_,rfl⟩
 ·cases h
mutual
noncomputable def chkXE (T:Tab):XE -> List Str -> Scope -> Expr -> Bool
 | .pure e,N,sc,x => chk T e N sc x && !isBor e && notComp x
 | .call f mask es,N,sc,x => callOkM T f mask es N sc x
 | .pop i,N,sc,x => onQ (popQ x) fun q => nameAt N sc i q.1 && q.2.1 == ("pop":Str) && q.2.2.1.endLine == q.2.2.2.line
 | .bin op a b,N,sc,x => onQ (binQ x) fun q => q.2.1 == opOf op && chkXE T a N sc q.1 && chk T b N sc q.2.2
 | .fn g a es,N,sc,x => onQ (fnQ x) fun q => T.fs[g]? == some q.1 && glB sc q.1 && plainName q.1 && chkXE T a N sc q.2.1 && notStar q.2.1 && chks T es N sc q.2.2
 | .tup xs,N,sc,x => onQ (tupQ x) fun q => chkXEs T xs N sc q
noncomputable def chkXEs (T:Tab):List XE -> List Str -> Scope -> List Expr -> Bool
 | [],_,_,[] => true
 | x :: xs,N,sc,e :: es => chkXE T x N sc e && notStar e && chkXEs T xs N sc es
 | _,_,_,_ => false
end
noncomputable def asgN:Stmt -> Option (Str × Pos × Expr)
 | .Assign [.Name x px] v _ => some (x,px,v)
 | _ => none
theorem asgN_of {s:Stmt} {q:Str × Pos × Expr} (h:asgN s = some q):∃ pos,s = .Assign [.Name q.1 q.2.1] q.2.2 pos:=by
 unfold asgN at h
 split at h
 ·cases h; exact ⟨_,rfl⟩
 ·cases h
noncomputable def metC:Stmt -> Option (Str × Str × Pos × List Expr × Pos)
 | .Expr (.Call (.Attribute (.Name x _) m ap) args [] cp) _ => some (x,m,ap,args,cp)
 | _ => none
theorem metC_of {s:Stmt} {q:Str × Str × Pos × List Expr × Pos} (h:metC s = some q):∃ p pos,s = .Expr (.Call (.Attribute (.Name q.1 p) q.2.1 q.2.2.1) q.2.2.2.1 [] q.2.2.2.2) pos:=by
 unfold metC at h
 split at h
 ·cases h; exact ⟨_,_,rfl⟩
 ·cases h
noncomputable def retV:Stmt -> Option Expr
 | .Return (some v) _ => some v
 | _ => none
theorem retV_of {s:Stmt} {v:Expr} (h:retV s = some v):∃ pos,s = .Return (some v) pos:=by
 unfold retV at h
 split at h
 ·cases h; exact ⟨_,rfl⟩
 ·cases h
noncomputable def nameX:Expr -> Option Str
 | .Name x _ => some x
 | _ => none
theorem nameX_of {e:Expr} {x:Str} (h:nameX e = some x):∃ p,e = .Name x p:=by
 unfold nameX at h
 split at h
 ·cases h; exact ⟨_,rfl⟩
 ·cases h
noncomputable def list1:List Expr -> Option Expr
 | [a] => some a
 | _ => none
theorem list1_of {l:List Expr} {a:Expr} (h:list1 l = some a):l = [a]:=by
 match l,h with
 | [_],h => cases h; rfl
noncomputable def onO {α:Type} (o:Option α) (f:α -> Bool):Bool:=match o with
 | some a => f a
 | none => false
theorem onO_of {α:Type} {o:Option α} {f:α -> Bool} (h:onO o f = true):∃ a,o = some a /\ f a = true:=by
 cases o with
 | none => cases h
 | some a => exact ⟨a,rfl,h⟩
mutual
noncomputable def chkS (T:Tab) (N:List Str) (sc:Scope):MS -> Stmt -> Bool
 | .set i e,s0 => onO (asgN s0) fun q => N[i]? == some q.1 && locB sc q.1 && plainName q.1 && chk T e N sc q.2.2 && !isBor e && (notComp q.2.2 || swapK sc q.1 q.2.1 q.2.2 e)
 | .setOwn i e,s0 => onO (asgN s0) fun q => N[i]? == some q.1 && locB sc q.1 && plainName q.1 && chk T e N sc q.2.2 && (freshB e || catB e) && (notComp q.2.2 || swapK sc q.1 q.2.1 q.2.2 e)
 | .append i e,s0 => onO (metC s0) fun q => onO (list1 q.2.2.2.1) fun v => nameAt N sc i q.1 && q.2.1 == ("append":Str) && chk T e N sc v && !isBor e && notStar v && q.2.2.1.endLine == q.2.2.2.2.line
 | .extend i e,s0 => onO (metC s0) fun q => onO (list1 q.2.2.2.1) fun v => nameAt N sc i q.1 && q.2.1 == ("extend":Str) && chk T e N sc v && notStar v && q.2.2.1.endLine == q.2.2.2.2.line
 | .setIdx _ _ _,_ => false
 | .unpack _ _,_ => false
 | .ite c a b,s0 => (match s0 with | .If t x y _ => chk T c N sc t && chkSs T N sc a x && chkSs T N sc b y | _ => false)
 | .for1 i k src body,s0 => (match s0 with | .For (.Name x _) it b [] _ => N[i]? == some x && locB sc x && plainName x && chkW sc false (fun xs => chks T src N sc xs) k it && chkSs T N sc body b | _ => false)
 | .ret e,s0 => onO (retV s0) fun v => chk T e N sc v && !isBor e
 | .retOwn i,s0 => onO (retV s0) fun v => onO (nameX v) fun x => nameAt N sc i x
 | .retM e,s0 => onO (retV s0) fun v => chk T e N sc v && !isBor e
 | .setP i e,s0 => onO (asgN s0) fun q => N[i]? == some q.1 && locB sc q.1 && plainName q.1 && onQ (revQ q.2.2) fun r => r.1 == ("list":Str) && r.2.1 == ("reversed":Str) && glB sc r.1 && glB sc r.2.1 && chk T e N sc r.2.2 && notStar r.2.2
 | .setX i x,s0 => onO (asgN s0) fun q => N[i]? == some q.1 && locB sc q.1 && plainName q.1 && chkXE T x N sc q.2.2 && notComp q.2.2
 | .appX i x,s0 => onO (metC s0) fun q => onO (list1 q.2.2.2.1) fun v => nameAt N sc i q.1 && q.2.1 == ("append":Str) && chkXE T x N sc v && notStar v && q.2.2.1.endLine == q.2.2.2.2.line
 | .retXE x,s0 => onO (retV s0) fun v => chkXE T x N sc v
 | .forX i x body,s0 => (match s0 with | .For (.Name y _) it b [] _ => N[i]? == some y && locB sc y && plainName y && onQ (fnQ it) (fun q => q.1 == ("range":Str) && glB sc q.1 && q.2.2.isEmpty && chkXE T x N sc q.2.1 && notStar q.2.1) && chkSs T N sc body b | _ => false)
 | .never,_ => true
 | _,_ => false
noncomputable def chkSs (T:Tab) (N:List Str) (sc:Scope):List MS -> List Stmt -> Bool
 | [],[] => true
 | .freeze _ :: _,_ => false
 | m :: ms,s :: ss => chkS T N sc m s && chkSs T N sc ms ss
 | _,_ => false
end
theorem cs_forX (T:Tab) (N:List Str) (sc:Scope) (i:Nat) (x:XE) (body:List MS) (s0:Stmt):chkS T N sc (.forX i x body) s0 = (match s0 with | .For (.Name y _) it b [] _ => N[i]? == some y && locB sc y && plainName y && onQ (fnQ it) (fun q => q.1 == ("range":Str) && glB sc q.1 && q.2.2.isEmpty && chkXE T x N sc q.2.1 && notStar q.2.1) && chkSs T N sc body b | _ => false):=rfl
theorem cs_for1 (T:Tab) (N:List Str) (sc:Scope) (i:Nat) (k:Sk) (src:List ME) (body:List MS) (s0:Stmt):chkS T N sc (.for1 i k src body) s0 = (match s0 with | .For (.Name x _) it b [] _ => N[i]? == some x && locB sc x && plainName x && chkW sc false (fun xs => chks T src N sc xs) k it && chkSs T N sc body b | _ => false):=rfl
end MM
namespace MM
open PySem PySem.Spec PyProof.Rows L2
theorem eqL_refl {f:PV -> PV -> Option Bool} (hf:∀ x b,f x x = some b -> b = true):∀ (xs:List PV) {b:Bool},eqL f xs xs = some b -> b = true
 | [],b,h => by simp [eqL] at h; exact h
 | x :: xs,b,h => by
  simp only [eqL,Option.bind_eq_some_iff,Option.map_eq_some_iff] at h
  obtain ⟨p,h1,q,h2,rfl⟩:=h
  rw [hf x p h1,eqL_refl hf xs h2]; rfl
theorem eqF_refl:∀ (n:Nat) (x:PV) {b:Bool},eqF n x x = some b -> b = true
 | n,.non,b,h => by simp [eqF] at h; exact h
 | n,.bl _,b,h => by simp [eqF] at h; exact h
 | n,.int _,b,h => by simp [eqF] at h; exact h
 | n,.str _,b,h => by simp [eqF] at h; exact h
 | 0,.tup _,b,h => by simp [eqF] at h
 | 0,.lst _,b,h => by simp [eqF] at h
 | n + 1,.tup xs,b,h => by rw [eqF] at h; exact eqL_refl (fun x b => eqF_refl n x) xs h
 | n + 1,.lst xs,b,h => by rw [eqF,if_pos rfl] at h; exact eqL_refl (fun x b => eqF_refl n x) xs h
 | n,.dI _,b,h => by cases n <;> simp [eqF] at h
theorem eqF_nd {n:Nat} {x y:PV} {b:Bool} (h:eqF n x y = some b):isD x = false /\ isD y = false:=by
 cases x <;> cases y <;> first | exact ⟨rfl,rfl⟩ | (cases n <;> simp [eqF] at h)
theorem eqL_all {f:PV -> PV -> Option Bool}:∀ (xs ys:List PV) {b:Bool},eqL f xs ys = some b ->
  (∀ (j:Nat) x y,xs[j]? = some x -> ys[j]? = some y -> ∃ c,f x y = some c) /\
   b = ((List.range (min xs.length ys.length)).all (fun j => (f (xs.getD j .non) (ys.getD j .non)).getD false) && xs.length == ys.length)
 | [],[],b,h => by simp [eqL] at h; subst h; simp
 | [],y :: ys,b,h => by simp [eqL] at h; subst h; simp
 | x :: xs,[],b,h => by simp [eqL] at h; subst h; simp
 | x :: xs,y :: ys,b,h => by
  simp only [eqL,Option.bind_eq_some_iff,Option.map_eq_some_iff] at h
  obtain ⟨p,h1,q,h2,rfl⟩:=h
  obtain ⟨ih1,ih2⟩:=eqL_all xs ys h2
  refine ⟨fun j x' y' e1 e2 => ?_,?_⟩
  ·cases j with
   | zero => simp at e1 e2; subst e1 e2; exact ⟨p,h1⟩
   | succ j => exact ih1 j x' y' (by simpa using e1) (by simpa using e2)
  ·rw [ih2]
   have hm:min (x :: xs).length (y :: ys).length = min xs.length ys.length + 1:=by simp only [List.length_cons]; omega
   rw [hm,List.range_succ_eq_map,List.all_cons,List.all_map]
   have hl:((x :: xs).length == (y :: ys).length) = (xs.length == ys.length):=by
    rw [Bool.eq_iff_iff]; simp
   rw [hl,Bool.and_assoc]
   simp only [List.getD_cons_zero,h1,Option.getD_some,Function.comp_def,List.getD_cons_succ]
theorem inL_any {f:PV -> Option Bool}:∀ (xs:List PV) {b:Bool},inL f xs = some b -> (∀ x ∈ xs,∃ c,f x = some c) /\ b = xs.any fun x => (f x).getD false
 | [],b,h => by simp [inL] at h; subst h; simp
 | x :: xs,b,h => by
  simp only [inL,Option.bind_eq_some_iff,Option.map_eq_some_iff] at h
  obtain ⟨p,h1,q,h2,rfl⟩:=h
  obtain ⟨ih1,ih2⟩:=inL_any xs h2
  refine ⟨fun y hy => ?_,?_⟩
  ·rcases List.mem_cons.mp hy with rfl | hy
   ·exact ⟨p,h1⟩
   ·exact ih1 y hy
  ·rw [List.any_cons,h1,ih2]; rfl
section
variable {X:Cx} {pins:List (Addr × Obj)} {σ:St} {H:Hp} {s:Shared}
theorem not_both (I:Inv X pins σ H s) {a:Addr} {xs ys:List V} (h1:SqL X.K H a xs) (h2:SqT X.K H a ys):False:=by
 obtain ⟨its,_,p,_⟩:=I.list h1
 obtain ⟨its2,_,q,_⟩:=I.tuple h2
 exact SeqAt.ne_of_list_tuple p.isList (show s.heap.IsTuple a its2.toArray from q) rfl
theorem isD_enc {H:Hp} {a:Addr} {d:DD} (h:RdD H a d):IsD H a:=by
 cases d with
 | k kvs => exact .inl ⟨_,h.rd⟩
 | t kvs => exact .inr ⟨_,h.rd⟩
 | p ns => exact absurd h.2 Bool.false_ne_true
theorem no_dict (I:Inv X pins σ H s) {a:Addr} {xs:List V} {d:DD} (h1:SqL X.K H a xs \/ SqT X.K H a xs) (h2:RdD H a d):False:=by
 obtain ⟨o,ho,hc⟩:=(isD_at I (isD_enc h2)).1
 rcases h1 with h1 | h1
 ·obtain ⟨its,_,p,_⟩:=I.list h1
  obtain ⟨o',ho',hc',_⟩:=p.isList
  rw [ho] at ho'
  cases ho'
  rw [hc] at hc'
  exact absurd hc' (by decide)
 ·obtain ⟨its,_,⟨o',ho',hc',_⟩,_⟩:=I.tuple h1
  rw [ho] at ho'
  cases ho'
  rw [hc] at hc'
  exact absurd hc' (by decide)
theorem Sc.v_inj:∀ {a b:Sc},a.v = b.v -> a = b:=by
 intro a b h
 cases a <;> cases b <;> simp [Sc.v] at h ⊢ <;> exact h
theorem encK_inj:∀ {a b:List (Int × Sc)},encK a = encK b -> a = b
 | [],[],_ => rfl
 | [],_ :: _,h => by cases h
 | _ :: _,[],h => by cases h
 | (k,v) :: a,(k',v') :: b,h => by
  simp only [encK,List.map_cons,List.cons.injEq,Prod.mk.injEq,Sum.inl.injEq] at h
  obtain ⟨⟨h1,h2⟩,h3⟩:=h
  rw [h1,Sc.v_inj h2,encK_inj h3]
theorem inl_inj:∀ {a b:List Int},(a.map Sum.inl:List Key) = b.map Sum.inl -> a = b
 | [],[],_ => rfl
 | [],_ :: _,h => by cases h
 | _ :: _,[],h => by cases h
 | x :: a,y :: b,h => by
  simp only [List.map_cons,List.cons.injEq,Sum.inl.injEq] at h
  rw [h.1,inl_inj h.2]
theorem encT_inj:∀ {a b:List (List Int × Sc)},encT a = encT b -> a = b
 | [],[],_ => rfl
 | [],_ :: _,h => by cases h
 | _ :: _,[],h => by cases h
 | (k,v) :: a,(k',v') :: b,h => by
  simp only [encT,List.map_cons,List.cons.injEq,Prod.mk.injEq] at h
  obtain ⟨⟨h1,h2⟩,h3⟩:=h
  rw [inl_inj h1,Sc.v_inj h2,encT_inj h3]
theorem mapInt_inj:∀ {a b:List Int},a.map V.int = b.map V.int -> a = b
 | [],[],_ => rfl
 | [],_ :: _,h => by cases h
 | _ :: _,[],h => by cases h
 | x :: a,y :: b,h => by
  simp only [List.map_cons,List.cons.injEq] at h
  rw [V.int.inj h.1,mapInt_inj h.2]
theorem encD_inj {a b:DD} (h:encD a = encD b):a = b:=by
 cases a <;> cases b <;> first
  | (cases h; done)
  | (rw [encK_inj (HO.dK.inj h)]; done)
  | (rw [encT_inj (HO.dT.inj h)]; done)
  | rw [mapInt_inj (HO.lst.inj h)]
theorem rd_inj {H:Hp} {a:Addr} {x y:DD} (h:RdD H a x) (g:RdD H a y):x = y:=by
 have h:=h.rd
 have g:=g.rd
 have ne:∀ (x:DD) (o:Obj) (u:HO),encD x ≠ .frz o u:=fun x o u e => by cases x <;> cases e
 rcases h with h | ⟨o,h⟩ <;> rcases g with g | ⟨o',g⟩
 ·rw [h] at g; exact encD_inj (Option.some.inj g)
 ·rw [h] at g; exact absurd (Option.some.inj g) (ne x _ _)
 ·rw [g] at h; exact absurd (Option.some.inj h) (ne y _ _)
 ·rw [h] at g; exact encD_inj (HO.frz.inj (Option.some.inj g)).2
mutual
theorem rep_inj (I:Inv X pins σ H s):∀ (x y:PV) {u:V},Rep X.K H x u -> Rep X.K H y u -> x = y
 | .non,y,u,h,g => by rw [Rep] at h; subst h; cases y <;> simp [Rep] at g ⊢
 | .bl b,y,u,h,g => by rw [Rep] at h; subst h; cases y <;> simp [Rep] at g ⊢; exact g
 | .int b,y,u,h,g => by rw [Rep] at h; subst h; cases y <;> simp [Rep] at g ⊢; exact g
 | .str b,y,u,h,g => by rw [Rep] at h; subst h; cases y <;> simp [Rep] at g ⊢; exact g
 | .tup xs,y,u,h,g => by
  rw [Rep] at h
  obtain ⟨a,us,rfl,q,r⟩:=h
  cases y with
  | tup ys =>
   rw [Rep] at g
   obtain ⟨b,vs,e,q',r'⟩:=g
   cases e
   have:=I.tuple_inj (sqT_of q) (sqT_of q')
   subst this
   rw [reps_inj I xs ys r r']
  | lst ys =>
   rw [Rep] at g
   obtain ⟨b,vs,e,q',r'⟩:=g
   cases e
   exact (not_both I q' (sqT_of q)).elim
  | dI kvs =>
   rw [Rep] at g
   obtain ⟨b,e,q'⟩:=g
   cases e
   exact (no_dict I (.inr (sqT_of q)) q').elim
  | _ => simp [Rep] at g
 | .lst xs,y,u,h,g => by
  rw [Rep] at h
  obtain ⟨a,us,rfl,q,r⟩:=h
  cases y with
  | lst ys =>
   rw [Rep] at g
   obtain ⟨b,vs,e,q',r'⟩:=g
   cases e
   have:=I.list_inj q q'
   subst this
   rw [reps_inj I xs ys r r']
  | tup ys =>
   rw [Rep] at g
   obtain ⟨b,vs,e,q',r'⟩:=g
   cases e
   exact (not_both I q (sqT_of q')).elim
  | dI kvs =>
   rw [Rep] at g
   obtain ⟨b,e,q'⟩:=g
   cases e
   exact (no_dict I (.inl q) q').elim
  | _ => simp [Rep] at g
 | .dI kvs,y,u,h,g => by
  rw [Rep] at h
  obtain ⟨a,rfl,q⟩:=h
  cases y with
  | dI ks =>
   rw [Rep] at g
   obtain ⟨b,e,q'⟩:=g
   cases e
   rw [rd_inj q q']
  | tup ys =>
   rw [Rep] at g
   obtain ⟨b,vs,e,q',r'⟩:=g
   cases e
   exact (no_dict I (.inr (sqT_of q')) q).elim
  | lst ys =>
   rw [Rep] at g
   obtain ⟨b,vs,e,q',r'⟩:=g
   cases e
   exact (no_dict I (.inl q') q).elim
  | _ => simp [Rep] at g
theorem reps_inj (I:Inv X pins σ H s):∀ (xs ys:List PV) {us:List V},Reps X.K H xs us -> Reps X.K H ys us -> xs = ys
 | [],ys,us,h,g => by
  rw [Reps] at h; subst h
  cases ys with
  | nil => rfl
  | cons y ys => rw [Reps] at g; obtain ⟨_,_,e,_⟩:=g; cases e
 | x :: xs,ys,us,h,g => by
  rw [Reps] at h
  obtain ⟨u,r,rfl,q,t⟩:=h
  cases ys with
  | nil => rw [Reps] at g; cases g
  | cons y ys =>
   rw [Reps] at g
   obtain ⟨u',r',e,q',t'⟩:=g
   cases e
   rw [rep_inj I x y q q',reps_inj I xs ys t t']
end
theorem Rep.tupAt (I:Inv X pins σ H s) {xs:List PV} {u:V} {v:Value} (h:Rep X.K H (.tup xs) u) (r:RelV u v) :
  ∃ (a:Addr) (us:List V) (its:List Value),u = .ref a /\ v = .ref a /\ Reps X.K H xs us /\ Vals us its /\ s.heap.IsTuple a its.toArray /\ xs.length = its.length:=by
 rw [Rep] at h
 obtain ⟨a,us,rfl,q,t⟩:=h
 obtain ⟨its,rv,p,_⟩:=I.tuple (sqT_of q)
 exact ⟨a,us,its,rfl,r,t,rv,p,t.length.trans rv.length⟩
theorem Rep.lstAt (I:Inv X pins σ H s) {xs:List PV} {u:V} {v:Value} (h:Rep X.K H (.lst xs) u) (r:RelV u v) :
  ∃ (a:Addr) (us:List V) (its:List Value),u = .ref a /\ v = .ref a /\ Reps X.K H xs us /\ Vals us its /\ s.heap.IsList a its.toArray /\ xs.length = its.length:=by
 rw [Rep] at h
 obtain ⟨a,us,rfl,q,t⟩:=h
 obtain ⟨its,rv,p,_⟩:=I.list q
 exact ⟨a,us,its,rfl,r,t,rv,p.isList,t.length.trans rv.length⟩
theorem items_eq {A:Around} {n:Nat} (ih:∀ (x y:PV) {ux uy:V} {vx vy:Value} {b:Bool} {A:Around},A.units + n < cLine -> eqF n x y = some b -> Rep X.K H x ux -> Rep X.K H y uy -> RelV ux vx -> RelV uy vy -> SeqAt.EqAt A s vx vy b)
  {xs ys:List PV} {us ws:List V} {its its2:List Value} (hu:A.units + (n + 1) < cLine) (rx:Reps X.K H xs us) (ry:Reps X.K H ys ws) (vx:Vals us its) (vy:Vals ws its2)
  (hs:∀ (j:Nat) x y,xs[j]? = some x -> ys[j]? = some y -> ∃ c,eqF n x y = some c) :
  ∀ j (h1:j < its.toArray.size) (h2:j < its2.toArray.size),SeqAt.EqAt A.in1 s its.toArray[j] its2.toArray[j] ((eqF n (xs.getD j .non) (ys.getD j .non)).getD false):=fun j h1 h2 => by
 have l1:=rx.length.trans vx.length
 have l2:=ry.length.trans vy.length
 simp only [List.size_toArray] at h1 h2
 have e1:xs[j]? = some xs[j]:=List.getElem?_eq_getElem (by omega)
 have e2:ys[j]? = some ys[j]:=List.getElem?_eq_getElem (by omega)
 obtain ⟨ux,q1,p1⟩:=rx.get e1
 obtain ⟨uy,q2,p2⟩:=ry.get e2
 obtain ⟨wx,q3,p3⟩:=vx.get q1
 obtain ⟨wy,q4,p4⟩:=vy.get q2
 obtain ⟨c,hc⟩:=hs j _ _ e1 e2
 have d1:xs.getD j .non = xs[j]:=by simp [List.getD,e1]
 have d2:ys.getD j .non = ys[j]:=by simp [List.getD,e2]
 have g1:its.toArray[j] = wx:=by
  have:its[j]? = some its[j]:=List.getElem?_eq_getElem h1
  rw [this] at q3; simpa using q3
 have g2:its2.toArray[j] = wy:=by
  have:its2[j]? = some its2[j]:=List.getElem?_eq_getElem h2
  rw [this] at q4; simpa using q4
 rw [d1,d2,hc,g1,g2]
 exact ih _ _ (show A.units + 1 + n < cLine by omega) hc p1 p2 p3 p4
theorem rc_refs {A:Around} {n:Nat} (I:Inv X pins σ H s) (ih:∀ (x y:PV) {ux uy:V} {vx vy:Value} {b:Bool} {A:Around},A.units + n < cLine -> eqF n x y = some b -> Rep X.K H x ux -> Rep X.K H y uy -> RelV ux vx -> RelV uy vy -> SeqAt.EqAt A s vx vy b)
  (hu:A.units + (n + 1) < cLine):(∀ {xs ys:List PV} {ux uy:V} {vx vy:Value} {b:Bool},eqF (n + 1) (.tup xs) (.tup ys) = some b -> Rep X.K H (.tup xs) ux -> Rep X.K H (.tup ys) uy -> RelV ux vx -> RelV uy vy -> SeqAt.RcAt A s vx vy b) /\
   (∀ {xs ys:List PV} {ux uy:V} {vx vy:Value} {b:Bool},eqF (n + 1) (.lst xs) (.lst ys) = some b -> Rep X.K H (.lst xs) ux -> Rep X.K H (.lst ys) uy -> RelV ux vx -> RelV uy vy -> SeqAt.RcAt A s vx vy b):=by
 refine ⟨fun {xs ys ux uy vx vy b} h rx ry r1 r2 => ?_,fun {xs ys ux uy vx vy b} h rx ry r1 r2 => ?_⟩
 ·obtain ⟨a,us,its,rfl,rfl,t1,w1,p1,l1⟩:=rx.tupAt I r1
  obtain ⟨c,ws,its2,rfl,rfl,t2,w2,p2,l2⟩:=ry.tupAt I r2
  rw [eqF] at h
  obtain ⟨hs,hb⟩:=eqL_all xs ys h
  have q:=SeqAt.RcAt.tuples (A:=A) p1 p2 (by omega) (items_eq ih hu t1 t2 w1 w2 hs)
  rw [hb]
  simpa [l1,l2] using q
 ·obtain ⟨a,us,its,rfl,rfl,t1,w1,p1,l1⟩:=rx.lstAt I r1
  obtain ⟨c,ws,its2,rfl,rfl,t2,w2,p2,l2⟩:=ry.lstAt I r2
  rw [eqF] at h
  by_cases hl:xs.length = ys.length
  ·rw [if_pos hl] at h
   obtain ⟨hs,hb⟩:=eqL_all xs ys h
   have q:=SeqAt.RcAt.lists (A:=A) p1 p2 (by simp only [List.size_toArray]; omega) (by omega) (items_eq ih hu t1 t2 w1 w2 hs)
   rw [hb,hl,Nat.min_self]
   simpa [<- l1,hl] using q
  ·rw [if_neg hl] at h
   cases h
   exact SeqAt.RcAt.lists_lengths (A:=A) p1 p2 (by simp only [List.size_toArray,bne_iff_ne]; omega) (by omega)
theorem rep_flat {x:PV} {u:V} (hd:isD x = false) (h:Rep X.K H x u):(∃ xs,x = .tup xs) \/ (∃ xs,x = .lst xs) \/ flatV u = true:=by
 cases x with
 | tup xs => exact .inl ⟨xs,rfl⟩
 | lst xs => exact .inr (.inl ⟨xs,rfl⟩)
 | non => rw [Rep] at h; subst h; exact .inr (.inr rfl)
 | bl b => rw [Rep] at h; subst h; exact .inr (.inr rfl)
 | int b => rw [Rep] at h; subst h; exact .inr (.inr rfl)
 | str b => rw [Rep] at h; subst h; exact .inr (.inr rfl)
 | dI _ => cases hd
theorem flat_tuple {A:Around} (hu:A.units < cLine) {u:V} {v:Value} (f:flatV u = true) (r:RelV u v) {a:Addr} {its:Array Value} (p:s.heap.IsTuple a its) :
  SeqAt.EqAt A s v (.ref a) false /\ SeqAt.EqAt A s (.ref a) v false /\ SeqAt.RcAt A s v (.ref a) false /\ SeqAt.RcAt A s (.ref a) v false:=by
 cases u with
 | non => cases r; exact ⟨.none_tuple p hu,.tuple_none p hu,.none_tuple p hu,.tuple_none p hu⟩
 | bl b => cases r; exact ⟨.bool_tuple b p hu,.tuple_bool b p hu,.bool_tuple b p hu,.tuple_bool b p hu⟩
 | int b => obtain ⟨t,rfl⟩:=r; exact ⟨.int_tuple b t p hu,.tuple_int b t p hu,.int_tuple b t p hu,.tuple_int b t p hu⟩
 | str b => obtain ⟨t,rfl⟩:=r; exact ⟨.str_tuple b t p hu,.tuple_str b t p hu,.str_tuple b t p hu,.tuple_str b t p hu⟩
 | _ => exact absurd (show false = true from f) Bool.false_ne_true
theorem flat_list {A:Around} (hu:A.units < cLine) {u:V} {v:Value} (f:flatV u = true) (r:RelV u v) {a:Addr} {its:Array Value} (p:s.heap.IsList a its) :
  SeqAt.EqAt A s v (.ref a) false /\ SeqAt.EqAt A s (.ref a) v false /\ SeqAt.RcAt A s v (.ref a) false /\ SeqAt.RcAt A s (.ref a) v false:=by
 cases u with
 | non => cases r; exact ⟨.none_list p hu,.list_none p hu,.none_list p hu,.list_none p hu⟩
 | bl b => cases r; exact ⟨.bool_list b p hu,.list_bool b p hu,.bool_list b p hu,.list_bool b p hu⟩
 | int b => obtain ⟨t,rfl⟩:=r; exact ⟨.int_list b t p hu,.list_int b t p hu,.int_list b t p hu,.list_int b t p hu⟩
 | str b => obtain ⟨t,rfl⟩:=r; exact ⟨.str_list b t p hu,.list_str b t p hu,.str_list b t p hu,.list_str b t p hu⟩
 | _ => exact absurd (show false = true from f) Bool.false_ne_true
theorem rcAt_V {A:Around} {y x:V} {u v:Value} (ry:RelV y u) (rx:RelV x v) (fy:flatV y = true) (fx:flatV x = true):SeqAt.RcAt A s u v (eqV y x):=by
 cases y with
 | non =>
  cases ry
  cases x with
  | non => cases rx; exact SeqAt.RcAt.none_none
  | bl b => cases rx; exact SeqAt.RcAt.none_bool b
  | int b => obtain ⟨t,rfl⟩:=rx; exact SeqAt.RcAt.none_int b t
  | str b => obtain ⟨t,rfl⟩:=rx; exact SeqAt.RcAt.none_str b t
  | _ => exact absurd (show false = true from fx) Bool.false_ne_true
 | bl a =>
  cases ry
  cases x with
  | non => cases rx; exact SeqAt.RcAt.bool_none a
  | bl b => cases rx; exact SeqAt.RcAt.bool_bool a b
  | int b => obtain ⟨t,rfl⟩:=rx; exact SeqAt.RcAt.bool_int a b t
  | str b => obtain ⟨t,rfl⟩:=rx; exact SeqAt.RcAt.bool_str a b t
  | _ => exact absurd (show false = true from fx) Bool.false_ne_true
 | int a =>
  obtain ⟨t',rfl⟩:=ry
  cases x with
  | non => cases rx; exact SeqAt.RcAt.int_none a t'
  | bl b => cases rx; exact SeqAt.RcAt.int_bool a t' b
  | int b => obtain ⟨t,rfl⟩:=rx; exact SeqAt.RcAt.int_int a t' b t
  | str b => obtain ⟨t,rfl⟩:=rx; exact SeqAt.RcAt.int_str a t' b t
  | _ => exact absurd (show false = true from fx) Bool.false_ne_true
 | str a =>
  obtain ⟨t',rfl⟩:=ry
  cases x with
  | non => cases rx; exact SeqAt.RcAt.str_none a t'
  | bl b => cases rx; exact SeqAt.RcAt.str_bool a t' b
  | int b => obtain ⟨t,rfl⟩:=rx; exact SeqAt.RcAt.str_int a t' b t
  | str b => obtain ⟨t,rfl⟩:=rx; exact SeqAt.RcAt.str_str a t' b t
  | _ => exact absurd (show false = true from fx) Bool.false_ne_true
 | _ => exact absurd (show false = true from fy) Bool.false_ne_true
theorem eqF_flat {n:Nat} {x y:PV} {u v:V} {b:Bool} (rx:Rep X.K H x u) (ry:Rep X.K H y v) (fx:flatV u = true) (fy:flatV v = true) (h:eqF n x y = some b):b = eqV u v:=by
 cases x <;> cases y <;> simp only [Rep] at rx ry
 all_goals first
  | (obtain ⟨_,_,rfl,_⟩:=rx; exact absurd (show false = true from fx) Bool.false_ne_true)
  | (obtain ⟨_,_,rfl,_⟩:=ry; exact absurd (show false = true from fy) Bool.false_ne_true)
  | (obtain ⟨_,rfl,_⟩:=rx; exact absurd (show false = true from fx) Bool.false_ne_true)
  | (obtain ⟨_,rfl,_⟩:=ry; exact absurd (show false = true from fy) Bool.false_ne_true)
  | (subst rx ry; simp only [eqF,Option.some.injEq] at h; subst h; rfl)
theorem eq_rep (I:Inv X pins σ H s):∀ (n:Nat) (x y:PV) {ux uy:V} {vx vy:Value} {b:Bool} {A:Around},A.units + n < cLine -> eqF n x y = some b -> Rep X.K H x ux -> Rep X.K H y uy -> RelV ux vx -> RelV uy vy ->
  SeqAt.EqAt A s vx vy b /\ SeqAt.RcAt A s vx vy b:=by
 intro n
 induction n with
 | zero =>
  intro x y ux uy vx vy b A hu h rx ry r1 r2
  have hu0:A.units < cLine:=by omega
  rcases rep_flat (eqF_nd h).1 rx with ⟨xs,rfl⟩ | ⟨xs,rfl⟩ | fx
  ·obtain ⟨a,us,its,rfl,rfl,t1,w1,p1,l1⟩:=rx.tupAt I r1
   rcases rep_flat (eqF_nd h).2 ry with ⟨ys,rfl⟩ | ⟨ys,rfl⟩ | fy
   ·simp [eqF] at h
   ·obtain ⟨c,ws,its2,rfl,rfl,t2,w2,p2,l2⟩:=ry.lstAt I r2
    simp [eqF] at h; subst h
    exact ⟨.tuple_list p1 p2 hu0,.tuple_list p1 p2 hu0⟩
   ·obtain ⟨z1,z2,z3,z4⟩:=flat_tuple hu0 fy r2 p1
    have:b = false:=by cases y <;> simp [eqF,Rep] at h ry <;> first | exact h.symm | exact h | (obtain ⟨_,rfl,_⟩:=ry; exact absurd (show false = true from fy) Bool.false_ne_true)
    subst this
    exact ⟨z2,z4⟩
  ·obtain ⟨a,us,its,rfl,rfl,t1,w1,p1,l1⟩:=rx.lstAt I r1
   rcases rep_flat (eqF_nd h).2 ry with ⟨ys,rfl⟩ | ⟨ys,rfl⟩ | fy
   ·obtain ⟨c,ws,its2,rfl,rfl,t2,w2,p2,l2⟩:=ry.tupAt I r2
    simp [eqF] at h; subst h
    exact ⟨.list_tuple p1 p2 hu0,.list_tuple p1 p2 hu0⟩
   ·simp [eqF] at h
   ·obtain ⟨z1,z2,z3,z4⟩:=flat_list hu0 fy r2 p1
    have:b = false:=by cases y <;> simp [eqF,Rep] at h ry <;> first | exact h.symm | exact h | (obtain ⟨_,rfl,_⟩:=ry; exact absurd (show false = true from fy) Bool.false_ne_true)
    subst this
    exact ⟨z2,z4⟩
  ·rcases rep_flat (eqF_nd h).2 ry with ⟨ys,rfl⟩ | ⟨ys,rfl⟩ | fy
   ·obtain ⟨c,ws,its2,rfl,rfl,t2,w2,p2,l2⟩:=ry.tupAt I r2
    obtain ⟨z1,z2,z3,z4⟩:=flat_tuple hu0 fx r1 p2
    have:b = false:=by cases x <;> simp [eqF,Rep] at h rx <;> first | exact h.symm | exact h | (obtain ⟨_,rfl,_⟩:=rx; exact absurd (show false = true from fx) Bool.false_ne_true)
    subst this
    exact ⟨z1,z3⟩
   ·obtain ⟨c,ws,its2,rfl,rfl,t2,w2,p2,l2⟩:=ry.lstAt I r2
    obtain ⟨z1,z2,z3,z4⟩:=flat_list hu0 fx r1 p2
    have:b = false:=by cases x <;> simp [eqF,Rep] at h rx <;> first | exact h.symm | exact h | (obtain ⟨_,rfl,_⟩:=rx; exact absurd (show false = true from fx) Bool.false_ne_true)
    subst this
    exact ⟨z1,z3⟩
   ·rw [eqF_flat rx ry fx fy h]
    exact ⟨eqAt_V r1 r2 fx fy,rcAt_V r1 r2 fx fy⟩
 | succ n ih =>
  intro x y ux uy vx vy b A hu h rx ry r1 r2
  have hu0:A.units < cLine:=by omega
  obtain ⟨kt,kl⟩:=rc_refs I (fun x y {_ _ _ _ _ _} a1 a2 a3 a4 a5 a6 => (ih x y a1 a2 a3 a4 a5 a6).1) hu
  rcases rep_flat (eqF_nd h).1 rx with ⟨xs,rfl⟩ | ⟨xs,rfl⟩ | fx
  ·obtain ⟨a,us,its,e1,e1',t1,w1,p1,l1⟩:=rx.tupAt I r1
   rcases rep_flat (eqF_nd h).2 ry with ⟨ys,rfl⟩ | ⟨ys,rfl⟩ | fy
   ·have q:=kt h rx ry r1 r2
    obtain ⟨c,ws,its2,e2,e2',t2,w2,p2,l2⟩:=ry.tupAt I r2
    subst e1 e1' e2 e2'
    refine ⟨?_,q⟩
    by_cases hac:a = c
    ·subst hac
     have e:=rep_inj I _ _ rx ry
     rw [e] at h
     rw [eqF_refl _ _ h]
     exact .same _
    ·exact .of_refs hac q
   ·obtain ⟨c,ws,its2,e2,e2',t2,w2,p2,l2⟩:=ry.lstAt I r2
    subst e1 e1' e2 e2'
    simp [eqF] at h; subst h
    exact ⟨.tuple_list p1 p2 hu0,.tuple_list p1 p2 hu0⟩
   ·subst e1 e1'
    obtain ⟨z1,z2,z3,z4⟩:=flat_tuple hu0 fy r2 p1
    have:b = false:=by cases y <;> simp [eqF,Rep] at h ry <;> first | exact h.symm | exact h | (obtain ⟨_,rfl,_⟩:=ry; exact absurd (show false = true from fy) Bool.false_ne_true)
    subst this
    exact ⟨z2,z4⟩
  ·obtain ⟨a,us,its,e1,e1',t1,w1,p1,l1⟩:=rx.lstAt I r1
   rcases rep_flat (eqF_nd h).2 ry with ⟨ys,rfl⟩ | ⟨ys,rfl⟩ | fy
   ·obtain ⟨c,ws,its2,e2,e2',t2,w2,p2,l2⟩:=ry.tupAt I r2
    subst e1 e1' e2 e2'
    simp [eqF] at h; subst h
    exact ⟨.list_tuple p1 p2 hu0,.list_tuple p1 p2 hu0⟩
   ·have q:=kl h rx ry r1 r2
    obtain ⟨c,ws,its2,e2,e2',t2,w2,p2,l2⟩:=ry.lstAt I r2
    subst e1 e1' e2 e2'
    refine ⟨?_,q⟩
    by_cases hac:a = c
    ·subst hac
     have e:=rep_inj I _ _ rx ry
     rw [e] at h
     rw [eqF_refl _ _ h]
     exact .same _
    ·exact .of_refs hac q
   ·subst e1 e1'
    obtain ⟨z1,z2,z3,z4⟩:=flat_list hu0 fy r2 p1
    have:b = false:=by cases y <;> simp [eqF,Rep] at h ry <;> first | exact h.symm | exact h | (obtain ⟨_,rfl,_⟩:=ry; exact absurd (show false = true from fy) Bool.false_ne_true)
    subst this
    exact ⟨z2,z4⟩
  ·rcases rep_flat (eqF_nd h).2 ry with ⟨ys,rfl⟩ | ⟨ys,rfl⟩ | fy
   ·obtain ⟨c,ws,its2,rfl,rfl,t2,w2,p2,l2⟩:=ry.tupAt I r2
    obtain ⟨z1,z2,z3,z4⟩:=flat_tuple hu0 fx r1 p2
    have:b = false:=by cases x <;> simp [eqF,Rep] at h rx <;> first | exact h.symm | exact h | (obtain ⟨_,rfl,_⟩:=rx; exact absurd (show false = true from fx) Bool.false_ne_true)
    subst this
    exact ⟨z1,z3⟩
   ·obtain ⟨c,ws,its2,rfl,rfl,t2,w2,p2,l2⟩:=ry.lstAt I r2
    obtain ⟨z1,z2,z3,z4⟩:=flat_list hu0 fx r1 p2
    have:b = false:=by cases x <;> simp [eqF,Rep] at h rx <;> first | exact h.symm | exact h | (obtain ⟨_,rfl,_⟩:=rx; exact absurd (show false = true from fx) Bool.false_ne_true)
    subst this
    exact ⟨z1,z3⟩
   ·rw [eqF_flat rx ry fx fy h]
    exact ⟨eqAt_V r1 r2 fx fy,rcAt_V r1 r2 fx fy⟩
end
section
variable {X:Cx}
theorem op_eqR (hu:X.A.units + 101 < cLine):OpR X (compareOp .Eq) (fun ux uy H Q => ∃ x y b,Rep X.K H x ux /\ Rep X.K H y uy /\ eqF 100 x y = some b /\ Q (.bl b) H):=by
 intro pins s σ H ux uy v u Q I rx ry h
 obtain ⟨x,y,b,r1,r2,e,q⟩:=h
 exact (eq_rep I 100 x y (by omega) e r1 r2 rx ry).2 _ _ _ _ ⟨.bl b,H,I,rfl,q⟩
theorem op_neR (hu:X.A.units + 101 < cLine):OpR X (compareOp .NotEq) (fun ux uy H Q => ∃ x y b,Rep X.K H x ux /\ Rep X.K H y uy /\ neOk x y = true /\ eqF 100 x y = some b /\ Q (.bl (!b)) H):=by
 intro pins s σ H ux uy v u Q I rx ry h
 obtain ⟨x,y,b,r1,r2,ok,e,q⟩:=h
 rcases rep_flat (eqF_nd e).1 r1 with ⟨xs,rfl⟩ | ⟨xs,rfl⟩ | fx
 ·cases y with
  | tup ys =>
   obtain ⟨a,us,its,rfl,rfl,t1,w1,p1,l1⟩:=r1.tupAt I rx
   obtain ⟨c,ws,its2,rfl,rfl,t2,w2,p2,l2⟩:=r2.tupAt I ry
   rw [eqF] at e
   obtain ⟨hs,hb⟩:=eqL_all xs ys e
   obtain ⟨⟨cls,dd,data,sl⟩,ho,hc,n,hd⟩:=id p1
   obtain ⟨⟨cls2,dd2,data2,sl2⟩,ho2,hc2,n2,hd2⟩:=id p2
   simp only at hc hd hc2 hd2
   subst hc hd hc2 hd2
   refine richCompare_meets_room (op:=.NotEq) ⟨_,ho,rfl⟩ ⟨_,ho2,rfl⟩ PySem.F.slot_tuple_ne PySem.F.entry_tuple_ne (PySem.F.args_tuple_ne_2 _ _) (SeqAt.tuple_neAt a c its.toArray its2.toArray n n2 dd dd2 sl sl2 _)
    ⟨ho,ho2,items_eq (n:=99) (fun x y {_ _ _ _ _ _} a1 a2 a3 a4 a5 a6 => (eq_rep I 99 x y a1 a2 a3 a4 a5 a6).1) (by omega) t1 t2 w1 w2 hs,?_⟩ (by omega)
   refine ⟨(fun x => nomatch x),⟨.bl (!b),H,I,?_,q⟩⟩
   rw [hb]
   simp [l1,l2,L2.RelV]
  | _ => cases ok
 ·cases y with
  | lst ys =>
   obtain ⟨a,us,its,rfl,rfl,t1,w1,p1,l1⟩:=r1.lstAt I rx
   obtain ⟨c,ws,its2,rfl,rfl,t2,w2,p2,l2⟩:=r2.lstAt I ry
   rw [eqF] at e
   obtain ⟨⟨cls,dd,data,sl⟩,ho,hc,n,hd⟩:=id p1
   obtain ⟨⟨cls2,dd2,data2,sl2⟩,ho2,hc2,n2,hd2⟩:=id p2
   simp only at hc hd hc2 hd2
   subst hc hd hc2 hd2
   by_cases hl:xs.length = ys.length
   ·rw [if_pos hl] at e
    obtain ⟨hs,hb⟩:=eqL_all xs ys e
    refine richCompare_meets_room (op:=.NotEq) ⟨_,ho,rfl⟩ ⟨_,ho2,rfl⟩ PySem.F.slot_list_ne PySem.F.entry_list_ne (PySem.F.args_list_ne_2 _ _) (SeqAt.list_neAt a c its.toArray its2.toArray n n2 dd dd2 sl sl2 (by simp only [List.size_toArray]; omega) _)
     ⟨ho,ho2,items_eq (n:=99) (fun x y {_ _ _ _ _ _} a1 a2 a3 a4 a5 a6 => (eq_rep I 99 x y a1 a2 a3 a4 a5 a6).1) (by omega) t1 t2 w1 w2 hs,?_⟩ (by omega)
    refine ⟨(fun x => nomatch x),⟨.bl (!b),H,I,?_,q⟩⟩
    rw [hb,hl,Nat.min_self]
    simp [<- l1,hl,L2.RelV]
   ·rw [if_neg hl] at e
    cases e
    refine richCompare_meets_room (op:=.NotEq) ⟨_,ho,rfl⟩ ⟨_,ho2,rfl⟩ PySem.F.slot_list_ne PySem.F.entry_list_ne (PySem.F.args_list_ne_2 _ _) (SeqAt.list_ne_lengthsAt a c its.toArray its2.toArray n n2 dd dd2 sl sl2 (by simp only [List.size_toArray,bne_iff_ne]; omega)) ⟨ho,ho2,?_⟩ (by omega)
    exact ⟨(fun x => nomatch x),⟨.bl true,H,I,rfl,q⟩⟩
  | _ => cases ok
 ·have fy:flatV uy = true:=by
   rcases rep_flat (eqF_nd e).2 r2 with ⟨ys,rfl⟩ | ⟨ys,rfl⟩ | fy
   ·cases x <;> cases ok
    obtain ⟨_,_,rfl,_⟩:∃ a us,ux = V.ref a /\ _:=by rw [Rep] at r1; exact r1
    exact absurd (show false = true from fx) Bool.false_ne_true
   ·cases x <;> cases ok
    obtain ⟨_,_,rfl,_⟩:∃ a us,ux = V.ref a /\ _:=by rw [Rep] at r1; exact r1
    exact absurd (show false = true from fx) Bool.false_ne_true
   ·exact fy
  have hb:=eqF_flat r1 r2 fx fy e
  subst hb
  refine op_ne pins s σ H ux uy v u Q I rx ry ?_
  have key:scal ux uy = true /\ decide (ux = uy) = eqV ux uy:=by
   cases x <;> cases y <;> simp only [Rep] at r1 r2 <;> first
    | (obtain ⟨_,_,rfl,_⟩:=r1; exact absurd (show false = true from fx) Bool.false_ne_true)
    | (obtain ⟨_,_,rfl,_⟩:=r2; exact absurd (show false = true from fy) Bool.false_ne_true)
    | (obtain ⟨_,rfl,_⟩:=r1; exact absurd (show false = true from fx) Bool.false_ne_true)
    | (obtain ⟨_,rfl,_⟩:=r2; exact absurd (show false = true from fy) Bool.false_ne_true)
    | (subst r1 r2; first | (cases ok; done) | exact ⟨rfl,by first | exact dec_int | exact dec_bl | exact dec_str | exact decide_eq_true rfl | exact decide_eq_false (fun z => by cases z)⟩)
  exact ⟨key.1,by rw [key.2]; exact q⟩
theorem in_items {pins:List (Addr × Obj)} {σ:St} {H:Hp} {s:Shared} (I:Inv X pins σ H s) (hu:X.A.units + 101 < cLine) {x:PV} {ux:V} {vx:Value} (rx:Rep X.K H x ux) (r1:RelV ux vx) {xs:List PV} {us:List V} {its:List Value} (t:Reps X.K H xs us) (w:Vals us its) {b:Bool} (h:isIn x xs = some b) :
  ∃ e:Value -> Bool,(∀ y,y ∈ its.toArray -> SeqAt.EqAt X.A.in1 s y vx (e y)) /\ its.toArray.any e = b:=by
 obtain ⟨h1,h2⟩:=inL_any xs h
 classical
 have uniq:∀ (z:PV) (u:V) (y:Value),RelV u y -> Rep X.K H z u -> ∀ p:(∃ z u,RelV u y /\ Rep X.K H z u),p.choose = z:=fun z u y r q p => by
  obtain ⟨u',r',q'⟩:=p.choose_spec
  have e:=r.inj r'
  subst e
  exact rep_inj I _ _ q' q
 refine ⟨fun y => if p:∃ z u,RelV u y /\ Rep X.K H z u then (eqF 100 p.choose x).getD false else false,?_,?_⟩
 ·intro y hy
  obtain ⟨j,hj,e⟩:=List.getElem_of_mem (by simpa using hy:y ∈ its)
  have ej:its[j]? = some y:=by rw [List.getElem?_eq_getElem hj,e]
  have l1:=w.length
  obtain ⟨uy,e1⟩:∃ uy,us[j]? = some uy:=⟨_,List.getElem?_eq_getElem (by omega)⟩
  obtain ⟨wy,e2,ry⟩:=w.get e1
  rw [ej] at e2
  cases e2
  obtain ⟨z,e3,rz⟩:=t.get' e1
  obtain ⟨c,hc⟩:=h1 z (List.mem_of_getElem? e3)
  have q:=(eq_rep I 100 z x (A:=X.A.in1) (show X.A.units + 1 + 100 < cLine by omega) hc rz rx ry r1).1
  have p:∃ z u,RelV u y /\ Rep X.K H z u:=⟨z,uy,ry,rz⟩
  have e4:=uniq z uy y ry rz p
  simp only [p,dite_true,e4,hc,Option.getD_some]
  exact q
 ·rw [h2]
  simp only [List.any_toArray]
  clear h h1 h2
  induction xs generalizing us its with
  | nil =>
   rw [Reps] at t
   subst t
   cases w
   rfl
  | cons z zs ih =>
   rw [Reps] at t
   obtain ⟨u,r,rfl,q,t⟩:=t
   cases w with
   | cons rv w =>
    rename_i y ys
    have p:∃ z u,RelV u y /\ Rep X.K H z u:=⟨z,u,rv,q⟩
    have e4:=uniq z u y rv q p
    rw [List.any_cons,List.any_cons,ih t w]
    simp only [p,dite_true,e4]
theorem op_inR (hu:X.A.units + 101 < cLine):OpR X (compareOp .In) (fun ux uy H Q => ∃ x xs a us b,Rep X.K H x ux /\ uy = .ref a /\ (SqL X.K H a us \/ SqT X.K H a us) /\ Reps X.K H xs us /\ isIn x xs = some b /\ Q (.bl b) H):=by
 intro pins s σ H ux uy v u Q I rx ry h
 obtain ⟨x,xs,a,us,b,r1,rfl,hq,r2,e,q⟩:=h
 cases ry
 rcases hq with hq | hq
 ·obtain ⟨its,r,pl,hz⟩:=I.list hq
  obtain ⟨f,h1,h2⟩:=in_items I hu r1 rx r2 r e
  refine SeqAt.in_listAt f pl.isList h1 ?_
  rw [h2]
  exact ⟨.bl b,H,I,rfl,q⟩
 ·obtain ⟨its,r,pl,hz⟩:=I.tuple hq
  obtain ⟨f,h1,h2⟩:=in_items I hu r1 rx r2 r e
  refine SeqAt.in_tupleAt f pl h1 ?_
  rw [h2]
  exact ⟨.bl b,H,I,rfl,q⟩
theorem op_notInR (hu:X.A.units + 101 < cLine):OpR X (compareOp .NotIn) (fun ux uy H Q => ∃ x xs a us b,Rep X.K H x ux /\ uy = .ref a /\ (SqL X.K H a us \/ SqT X.K H a us) /\ Reps X.K H xs us /\ isIn x xs = some b /\ Q (.bl (!b)) H):=by
 intro pins s σ H ux uy v u Q I rx ry h
 obtain ⟨x,xs,a,us,b,r1,rfl,hq,r2,e,q⟩:=h
 cases ry
 rcases hq with hq | hq
 ·obtain ⟨its,r,pl,hz⟩:=I.list hq
  obtain ⟨f,h1,h2⟩:=in_items I hu r1 rx r2 r e
  refine SeqAt.notIn_listAt f pl.isList h1 ?_
  rw [h2]
  exact ⟨.bl (!b),H,I,rfl,q⟩
 ·obtain ⟨its,r,pl,hz⟩:=I.tuple hq
  obtain ⟨f,h1,h2⟩:=in_items I hu r1 rx r2 r e
  refine SeqAt.notIn_tupleAt f pl h1 ?_
  rw [h2]
  exact ⟨.bl (!b),H,I,rfl,q⟩
end
end MM
namespace L2
open PySem PySem.Spec PyProof.Rows
theorem PE.imp {X:Cx} {e:Expr} {t t':TE} (h:PE X e t) (i:∀ σ H Q,t' σ H Q -> t σ H Q):PE X e t':=fun pins s σ H Q I q => h pins s σ H Q I (i σ H Q q)
theorem PT.imp {X:Cx} {e:Expr} {t t':TT} (h:PT X e t) (i:∀ σ H Q,t' σ H Q -> t σ H Q):PT X e t':=fun pins s σ H Q I q => h pins s σ H Q I (i σ H Q q)
theorem PA.imp {X:Cx} {e:List Expr} {t t':TA} (h:PA X e t) (i:∀ σ H Q,t' σ H Q -> t σ H Q):PA X e t':=fun pos pins s σ H Q I q => h pos pins s σ H Q I (i σ H Q q)
theorem PS.imp {X:Cx} {e:Stmt} {t t':TS} (h:PS X e t) (i:∀ D σ H,t' D σ H -> t D σ H):PS X e t':=fun pins s σ H D I q => h pins s σ H D I (i D σ H q)
theorem PSs.imp {X:Cx} {e:List Stmt} {t t':TS} (h:PSs X e t) (i:∀ D σ H,t' D σ H -> t D σ H):PSs X e t':=fun pins s σ H D I q => h pins s σ H D I (i D σ H q)
theorem PI.imp {X:Cx} {tg e:Expr} {t t':TI} (h:PI X tg e t) (i:∀ σ H R,t' σ H R -> t σ H R):PI X tg e t':=fun pins s σ H R I q => h pins s σ H R I (i σ H R q)
end L2
namespace MM
open PySem PySem.Spec PyProof.Rows L2
noncomputable def dropH (H:Hp) (ms:List Addr):Hp:=fun b => if b ∈ ms then none else H b
noncomputable def ArgOk (K:PySem.W.Frag) (O:List Addr) (H:Hp):MV -> V -> Prop
 | .val v,u => Rep K (hide H O) v u
 | .brw xs,u => ∃ a us,u = .ref a /\ SqL K H a us /\ Reps K (hide H O) xs us
 | .own _,_ => False
 | .ownD _,_ => False
 | .mutD _,_ => False
 | .brwD kvs,u => ∃ a,u = .ref a /\ Rd H a (encD kvs)
noncomputable def spM (K:PySem.W.Frag) (cal:Cal) (f:Nat):Sp:=fun vs H Q _ =>
 ∃ (O:List Addr) (args:List MV) (r:PV),(∀ a ∈ O,H a ≠ none) /\ Paired (ArgOk K O H) args vs /\ cal f args = some r /\ ∀ u H',Same H H' -> Rep K (hide H' O) r u -> Q u H'
noncomputable def spF (K:PySem.W.Frag) (cal:Cal) (f:Nat):Sp:=fun vs H Q _ =>
 ∃ (O:List Addr) (args:List MV) (xs:List PV),(∀ a ∈ O,H a ≠ none) /\ Paired (ArgOk K O H) args vs /\ cal (f + 1000) args = some (.lst xs) /\ ∀ p us H',Same H H' -> H p = none -> H' p = some (.lst us) -> Reps K (hide H' (p :: O)) xs us -> Q (.ref p) H'
noncomputable def ArgM (K:PySem.W.Frag) (O:List Addr) (H:Hp):MV -> V -> Prop
 | .val v,u => Rep K (hide H O) v u
 | .mutD d,u => ∃ a,u = .ref a /\ H a = some (encD d) /\ a ∈ O
 | _,_ => False
inductive MutAt (H':Hp):List MV -> List V -> List PV -> List Addr -> Prop where
 | nil:MutAt H' [] [] [] []
 | mutd {d d':DD} {a:Addr} {as:List MV} {vs:List V} {ds:List PV} {ms:List Addr} (h:H' a = some (encD d')) (hn:a ∉ ms) (t:MutAt H' as vs ds ms):MutAt H' (.mutD d :: as) (.ref a :: vs) (.dI d' :: ds) (a :: ms)
 | other {m:MV} {v:V} {as:List MV} {vs:List V} {ds:List PV} {ms:List Addr} (h:∀ d,m ≠ .mutD d) (t:MutAt H' as vs ds ms):MutAt H' (m :: as) (v :: vs) ds ms
noncomputable def spD (K:PySem.W.Frag) (cal:Cal) (f:Nat):Sp:=fun vs H Q _ =>
 ∃ (O:List Addr) (args:List MV) (v:PV) (ds ds₀:List PV) (ms:List Addr),(∀ a ∈ O,H a ≠ none) /\ Paired (ArgM K O H) args vs /\ MutAt H args vs ds₀ ms /\ cal (f + 2000) args = some (.tup (v :: ds)) /\
  ∀ u H',(∀ b o,b ∉ ms -> H b = some o -> H' b = some o) -> MutAt H' args vs ds ms -> Rep K (hide H' O) v u -> Q u H'
noncomputable def bltNames:List String:=["len","tuple","list","sorted","any","all","sum","max","min","int","bool","str","isinstance","set","range","enumerate","reversed"
 ,"zip"
 ]
noncomputable def toV:PV -> V
 | .non => .non
 | .bl b => .bl b
 | .int i => .int i
 | .str x => .str x
 | _ => .non
noncomputable def CtOk (K:PySem.W.Frag) (mg:Str -> Option Value) (w:World):Prop:=∀ t ∈ cTab,∃ (d:Addr) (o:Obj) (es:Array DictEntry) (ep:Nat),mg t.1 = some (.ref d) /\ List.lookup d K = some o /\ o.ExactDict /\ o.data = .dict es ep /\ (∀ e ∈ es,∃ k,Value.isStrOf k e.key = true /\ e.hash = hashStr w k) /\
 ∀ p ∈ t.2,∃ (val:Value) (u:V),findBy Value.isStrOf es p.1 = some val /\ RelV u val /\ ∀ F,Rep K F p.2 u
structure Gf (X:Cx) (T:Tab) (k:Nat) (cal:Cal):Prop where
 calm:X.calm = true
 room:Room k X.A
 fns:∀ (f:Nat) (x:Str),T.fs[f]? = some x -> ∃ (fa:Addr) (fd:FuncData) (ps:List Str),X.mg x = some (.ref fa) /\ PySem.W.keepIn X.K (.ref fa) = true /\ Binds X.K fd ps [] /\ FnOk X.prog X.w X.K X.mg X.base CX0 k fa fd ps (spM X.K cal f) /\ ∀ l,T.ds[f]? = some l -> ∃ vs,Binds X.K fd ps vs /\ Vals (l.map Sc.v) vs
 blt:∀ x ∈ bltNames,X.mg (x:Str) = none
 gs:∀ p ∈ T.gs,∃ u,X.mg p.1 = some u /\ RelV (toV p.2) u
 ct:CtOk X.K X.mg X.w
 fnsF:∀ (f:Nat) (x:Str),T.fs[f]? = some x -> ∃ (fa:Addr) (fd:FuncData) (ps:List Str),X.mg x = some (.ref fa) /\ PySem.W.keepIn X.K (.ref fa) = true /\ Binds X.K fd ps [] /\ FnOk X.prog X.w X.K X.mg X.base CX0 k fa fd ps (spF X.K cal f)
 fnsD:∀ (f:Nat) (x:Str),T.fs[f]? = some x -> ∃ (fa:Addr) (fd:FuncData) (ps:List Str),X.mg x = some (.ref fa) /\ PySem.W.keepIn X.K (.ref fa) = true /\ Binds X.K fd ps [] /\ FnOk X.prog X.w X.K X.mg X.base CX0 k fa fd ps (spD X.K cal f)
theorem Gf.units {X:Cx} {T:Tab} {k:Nat} {cal:Cal} (g:Gf X T k cal):X.A.units + 200 < cLine:=by have:=g.room.un; omega
noncomputable def Got (K:PySem.W.Frag) (H:Hp) (O:List Addr) (me:ME) (v:PV) (u:V):Prop:=RepB K H O v u /\ (isBor me = false -> Rep K (hide H O) v u)
noncomputable def tE (K:PySem.W.Frag) (cal:Cal) (me:ME):TE:=fun σ H Q => ∃ B O₀ O ρ v,StOk K B O₀ O H ρ σ /\ ev cal me ρ = some v /\ ∀ u H',Same H H' -> Got K H' O me v u -> Q u H'
noncomputable def tT (K:PySem.W.Frag) (cal:Cal) (me:ME):TT:=fun σ H Q => ∃ B O₀ O ρ b,StOk K B O₀ O H ρ σ /\ evB cal me ρ = some b /\ ∀ H',Same H H' -> Q b H'
noncomputable def GotS (K:PySem.W.Frag) (H:Hp) (O:List Addr) (ms:List ME) (vs:List PV) (us:List V):Prop:=Paired (RepB K H O) vs us /\ ((ms.all fun m => !isBor m) = true -> Reps K (hide H O) vs us)
noncomputable def tEs (K:PySem.W.Frag) (cal:Cal) (ms:List ME):TA:=fun σ H Q => ∃ B O₀ O ρ vs,StOk K B O₀ O H ρ σ /\ evs cal ms ρ = some vs /\ ∀ us H',Same H H' -> GotS K H' O ms vs us -> Q us H'
noncomputable def tAs (K:PySem.W.Frag) (cal:Cal) (ms:List ME):TA:=fun σ H Q => ∃ B O₀ O ρ vs,StOk K B O₀ O H ρ σ /\ evA cal ms ρ = some vs /\ ∀ us H',Same H H' -> Paired (ArgOk K O H') vs us -> Q us H'
section
variable {K:PySem.W.Frag} {H H':Hp} {O:List Addr}
theorem Got.of {me:ME} {v:PV} {u:V} (h:Rep K (hide H O) v u):Got K H O me v u:=⟨.inl h,fun _ => h⟩
theorem Got.scal {me:ME} {v:PV} {u:V} (h:∀ F,Rep K F v u):Got K H O me v u:=.of (h _)
theorem Got.mono {me:ME} {v:PV} {u:V} (s:Same H H') (h:Got K H O me v u):Got K H' O me v u:=⟨h.1.mono s,fun e => Rep.mono (hide_same s) _ (h.2 e)⟩
theorem rep_bl (F:Hp) (b:Bool):Rep K F (.bl b) (.bl b):=by rw [Rep]
theorem rep_int (F:Hp) (b:Int):Rep K F (.int b) (.int b):=by rw [Rep]
theorem rep_str (F:Hp) (b:Str):Rep K F (.str b) (.str b):=by rw [Rep]
theorem rep_non (F:Hp):Rep K F .non .non:=by rw [Rep]
theorem rep_newT {H1:Hp} {p:Addr} {xs:List PV} {us:List V} (hO:∀ a ∈ O,H1 a ≠ none) (hp:H1 p = none) (h:Reps K (hide H1 O) xs us):Rep K (hide (upd H1 p (.tup us)) O) (.tup xs) (.ref p):=by
 rw [Rep]
 refine ⟨p,us,rfl,SqT.of ?_,Reps.mono (hide_same (same_new hp _)) _ h⟩
 rw [hide_out (fun z => hO p z hp)]
 exact upd_same
theorem rep_newL {H1:Hp} {p:Addr} {xs:List PV} {us:List V} (hO:∀ a ∈ O,H1 a ≠ none) (hp:H1 p = none) (h:Reps K (hide H1 O) xs us):Rep K (hide (upd H1 p (.lst us)) O) (.lst xs) (.ref p):=by
 rw [Rep]
 refine ⟨p,us,rfl,SqL.of ?_,Reps.mono (hide_same (same_new hp _)) _ h⟩
 rw [hide_out (fun z => hO p z hp)]
 exact upd_same
theorem here_mono (s:Same H H') (h:∀ a ∈ O,H a ≠ none):∀ a ∈ O,H' a ≠ none:=fun a ha e => h a ha (s.free e)
theorem size10000 {n:Nat} (h:n <= 10000):n <= sizeLine:=Nat.le_trans h (by decide)
end
section
variable {X:Cx} {T:Tab} {k:Nat} {cal:Cal}
theorem visOf {sc:Scope} {x:Str} (h:visB sc x = true):Vis sc x:=by
 unfold visB at h
 simp only [Bool.or_eq_true,beq_iff_eq] at h
 rcases h with (h | h) | h
 ·exact .inl h
 ·exact .inr (.inl h)
 ·exact .inr (.inr h)
theorem locOf {sc:Scope} {x:Str} (h:locB sc x = true):Loc sc x:=by
 unfold locB at h
 simp only [Bool.or_eq_true,beq_iff_eq] at h
 exact h
theorem plainOf {x:Str} (h:plainName x = true):(x == ("__debug__":Str)) = false /\ (x == ("__classdict__":Str)) = false /\ x ≠ "__name__":=by
 unfold plainName at h
 simp only [Bool.and_eq_true,Bool.not_eq_true'] at h
 obtain ⟨⟨h1,h2⟩,h3⟩:=h
 exact ⟨h1,h2,fun e => by rw [e] at h3; simp at h3⟩
theorem glOf {x:Str} (h:glB X.env.scope x = true):Gl X x:=by
 unfold glB at h
 simp only [beq_iff_eq] at h
 exact h
theorem name_at {i:Nat} {x:Str} {pos:Pos} (h:nameAt X.N X.env.scope i x = true):PE X (.Name x pos) (tVar i):=by
 unfold nameAt at h
 simp only [Bool.and_eq_true,beq_iff_eq] at h
 obtain ⟨⟨h1,h2⟩,h3⟩:=h
 obtain ⟨p1,p2,_⟩:=plainOf h3
 exact pe_var h1 (visOf h2) p1 p2
theorem slot_of {K:PySem.W.Frag} {B H:Hp} {O₀ O:List Addr} {ρ:Rho} {σ:St} (st:StOk K B O₀ O H ρ σ) {i:Nat} {m:MV} (e:(ρ[i]?).join = some m):∃ u,σ[i]? = some (some u) /\ SlotOk K B O H m u:=st.slot i m (join_some e)
theorem s_var {i:Nat} {x:Str} {pos:Pos} (h:nameAt X.N X.env.scope i x = true):PE X (.Name x pos) (tE X.K cal (.var i)):=by
 refine (name_at h).imp fun σ H Q hq => ?_
 obtain ⟨B,O₀,O,ρ,v,st,he,q⟩:=hq
 rw [ev] at he
 cases hj:(ρ[i]?).join with
 | none => rw [hj] at he; cases he
 | some m =>
  rw [hj] at he
  cases m with
  | val w =>
   simp only [varOf,Option.some.injEq] at he
   subst he
   obtain ⟨u,e1,r⟩:=slot_of st hj
   exact ⟨u,e1,q u H (Same.refl H) (.of r)⟩
  | own _ => cases he
  | brw _ => cases he
  | ownD _ => cases he
  | mutD _ => cases he
  | brwD _ => cases he
theorem s_bor {i:Nat} {x:Str} {pos:Pos} (h:nameAt X.N X.env.scope i x = true):PE X (.Name x pos) (tE X.K cal (.bor i)):=by
 refine (name_at h).imp fun σ H Q hq => ?_
 obtain ⟨B,O₀,O,ρ,v,st,he,q⟩:=hq
 rw [ev] at he
 cases hj:(ρ[i]?).join with
 | none => rw [hj] at he; cases he
 | some m =>
  rw [hj] at he
  obtain ⟨u,e1,r⟩:=slot_of st hj
  exact ⟨u,e1,q u H (Same.refl H) ⟨r.bor st.keep he,fun z => by cases z⟩⟩
theorem s_cst {v:PV} {c:Const} {j:Nat} {pos:Pos} (h:constB v c = true):PE X (.Constant c j pos) (tE X.K cal (.cst v)):=by
 have key:∀ (u:V),(∀ F,Rep X.K F v u) -> PE X (.Constant c j pos) (tC u) -> PE X (.Constant c j pos) (tE X.K cal (.cst v)):=fun u r p => p.imp fun σ H Q hq => by
  obtain ⟨B,O₀,O,ρ,w,st,he,q⟩:=hq
  rw [ev] at he
  cases he
  exact q u H (Same.refl H) (.scal r)
 cases v <;> cases c <;> simp only [constB,Bool.false_eq_true,beq_iff_eq] at h
 ·exact key .non (fun F => rep_non F) pe_non
 ·subst h; exact key _ (fun F => rep_bl F _) pe_bl
 ·subst h; exact key _ (fun F => rep_int F _) pe_int
 ·subst h; exact key _ (fun F => rep_str F _) pe_str
theorem s_glob {x y:Str} {v:PV} {pos:Pos} (g:Gf X T k cal) (h:chk T (.glob x v) X.N X.env.scope (.Name y pos) = true):PE X (.Name y pos) (tE X.K cal (.glob x v)):=by
 simp only [ck_var,ck_bor,ck_cst,ck_glob,ck_bin,ck_neg,ck_not,ck_and,ck_or,ck_ite,ck_cmp,ck_chain,ck_tup,ck_lst,ck_idx,ck_slice,ck_blt,ck_call,ck_comp,Bool.and_eq_true,beq_iff_eq] at h
 obtain ⟨⟨⟨rfl,hg⟩,hs⟩,hp⟩:=h
 unfold gsHas at hs
 obtain ⟨p,hp1,hp2⟩:=List.any_eq_true.mp hs
 simp only [Bool.and_eq_true,beq_iff_eq] at hp2
 obtain ⟨rfl,hv⟩:=hp2
 obtain ⟨u,e1,r⟩:=g.gs p hp1
 have e:p.2 = v /\ ∀ F,Rep X.K F v (toV v):=by
  revert hv
  generalize p.2 = z
  intro hv
  cases z <;> cases v <;> simp only [scalB,Bool.false_eq_true,beq_iff_eq] at hv
  ·exact ⟨rfl,fun F => rep_non F⟩
  ·subst hv; exact ⟨rfl,fun F => rep_bl F _⟩
  ·subst hv; exact ⟨rfl,fun F => rep_int F _⟩
  ·subst hv; exact ⟨rfl,fun F => rep_str F _⟩
 rw [e.1] at r
 refine (pe_glob (glOf hg) e1 r (plainOf hp).1).imp fun σ H Q hq => ?_
 obtain ⟨B,O₀,O,ρ,w,st,he,q⟩:=hq
 rw [ev] at he
 cases he
 exact q _ H (Same.refl H) (.scal e.2)
end
section
variable {X:Cx}
noncomputable def R2M (K:PySem.W.Frag) (f:PV -> PV -> Option PV):R2:=fun ux uy H Q =>
 ∃ O x y v,(∀ a ∈ O,H a ≠ none) /\ RepB K H O x ux /\ RepB K H O y uy /\ f x y = some v /\ ∀ u H',Same H H' -> Rep K (hide H' O) v u -> Q u H'
theorem int_op {op:Operator} {C:Int -> Int -> Prop} {g:Int -> Int -> Int} {f:PV -> PV -> Option PV} (h:OpR X (binaryOp op) (rI C fun i j => .int (g i j)))
  (hf:∀ x y v,f x y = some v -> ∃ i j,x = .int i /\ y = .int j /\ C i j /\ v = .int (g i j)):OpR X (binaryOp op) (R2M X.K f):=by
 intro pins s σ H ux uy v u Q I rx ry hq
 obtain ⟨O,x,y,w,hO,r1,r2,e,q⟩:=hq
 obtain ⟨i,j,rfl,rfl,c,rfl⟩:=hf x y w e
 have e1:=r1.int
 have e2:=r2.int
 subst e1 e2
 exact h pins s σ H _ _ v u Q I rx ry ⟨i,j,rfl,rfl,c,q _ H (Same.refl H) (rep_int _ _)⟩
theorem op_catS:OpR X (binaryOp .Add) (fun x y H Q => ∃ l b xs zs,x = .ref l /\ y = .ref b /\ SqL X.K H l xs /\ SqL X.K H b zs /\ xs.length + zs.length <= sizeLine /\ ∀ p,H p = none -> Q (.ref p) (upd H p (.lst (xs ++ zs)))):=by
 intro pins s σ H x y v u Q I rx ry h
 obtain ⟨l,b,xs,zs,rfl,rfl,hH,hB,hz,q⟩:=h
 cases rx
 cases ry
 obtain ⟨its,r,pl,_⟩:=I.list hH
 obtain ⟨its2,r2,pl2,_⟩:=I.list hB
 have l1:=r.length
 have l2:=r2.length
 obtain ⟨⟨cls,dd,data,sl⟩,ho,hc,n,hd⟩:=pl.isList
 obtain ⟨⟨cls2,dd2,data2,sl2⟩,ho2,hc2,n2,hd2⟩:=pl2.isList
 simp only at hc hd hc2 hd2
 subst hc hd hc2 hd2
 have e:its.toArray ++ its2.toArray = (its ++ its2).toArray:=by simp
 refine concat_meets ⟨_,ho,rfl⟩ ⟨_,ho2,rfl⟩ noFill_list_add seq_list_add PySem.F.slot_list_add PySem.F.entry_list_add (PySem.F.args_list_add_2 _ _) (list_addW l b its.toArray its2.toArray n n2 dd dd2 sl sl2 (by rw [List.size_toArray,List.size_toArray]; omega)) ⟨ho,ho2,?_⟩
 rw [e]
 exact ⟨.ref _,_,I.lnew (t':=s.toks) (r.append r2) (by rw [List.length_append]; omega),rfl,q _ I.fresh⟩
theorem op_catE:OpR X (binaryOp .Add) (fun x y H Q => ∃ a b ys,x = .ref a /\ y = .ref b /\ SqT X.K H a [] /\ SqT X.K H b ys /\ Q (.ref b) H):=by
 intro pins s σ H x y v u Q I rx ry h
 obtain ⟨a,b,ys,rfl,rfl,ha,hb,q⟩:=h
 cases rx
 cases ry
 obtain ⟨its,r1,⟨⟨c1,d1,t1,l1⟩,ho,hc,n,hd⟩,_⟩:=I.tuple ha
 obtain ⟨its2,r2,⟨⟨c2,d2,t2,l2⟩,ho2,hc2,n2,hd2⟩,_⟩:=I.tuple hb
 cases hc
 cases hd
 cases hc2
 cases hd2
 have none0:its = []:=r1.nil_iff.mpr rfl
 have meets:=tuple_addW0 a b its.toArray its2.toArray n n2 d1 d2 l1 l2 (by simp [none0])
 exact concat_meets ⟨_,ho,rfl⟩ ⟨_,ho2,rfl⟩ noFill_tuple_add seq_tuple_add PySem.F.slot_tuple_add PySem.F.entry_tuple_add (PySem.F.args_tuple_add_2 _ _) meets ⟨ho,ho2,.ref b,H,I,rfl,q⟩
theorem int2_some {α:Type} {f:Int -> Int -> Option α} {x y:PV} {v:α} (h:int2 f x y = some v):∃ i j,x = .int i /\ y = .int j /\ f i j = some v:=by
 cases x <;> try (cases h; done)
 cases y <;> try (cases h; done)
 exact ⟨_,_,rfl,rfl,h⟩
theorem int2_if {C:Int -> Int -> Prop} [∀ i j,Decidable (C i j)] {g:Int -> Int -> Int} {x y v:PV} (h:int2 (fun i j => if C i j then some (.int (g i j)) else none) x y = some v):∃ i j,x = .int i /\ y = .int j /\ C i j /\ v = .int (g i j):=by
 obtain ⟨i,j,e1,e2,e3⟩:=int2_some h
 by_cases c:C i j
 ·rw [if_pos c] at e3
  exact ⟨i,j,e1,e2,c,(Option.some.inj e3).symm⟩
 ·rw [if_neg c] at e3
  cases e3
theorem op_bin (op:Op2):OpR X (binaryOp (opOf op)) (R2M X.K (binOp op)):=by
 cases op with
 | sub => exact int_op (C:=fun _ _ => True) (g:=fun i j => i - j) (fun pins s σ H x y v u Q I rx ry h => op_sub pins s σ H x y v u Q I rx ry (by obtain ⟨i,j,e1,e2,_,q⟩:=h; exact ⟨i,j,e1,e2,q⟩)) (fun x y v h => by
   obtain ⟨i,j,e1,e2,e3⟩:=int2_some h
   exact ⟨i,j,e1,e2,trivial,(Option.some.inj e3).symm⟩)
 | mul => exact int_op op_mul fun x y v h => by have q:=int2_if h; exact q
 | fdiv => exact int_op op_fdiv fun x y v h => by have q:=int2_if h; exact q
 | mod => exact int_op op_mod fun x y v h => by have q:=int2_if h; exact q
 | pow => exact int_op op_pow fun x y v h => by have q:=int2_if h; exact q
 | shr => exact int_op op_shr fun x y v h => by have q:=int2_if h; exact q
 | add =>
  intro pins s σ H ux uy v u Q I rx ry hq
  obtain ⟨O,x,y,w,hO,r1,r2,e,q⟩:=hq
  cases x <;> try (cases e; done)
  all_goals (cases y <;> simp only [binOp,addOp] at e <;> try (cases e; done))
  ·cases e
   have e1:=r1.int
   have e2:=r2.int
   subst e1 e2
   exact op_add pins s σ H _ _ v u Q I rx ry ⟨_,_,rfl,rfl,q _ H (Same.refl H) (rep_int _ _)⟩
  ·split at e
   ·rename_i c
    cases e
    have e1:=r1.str
    have e2:=r2.str
    subst e1 e2
    exact op_add_str pins s σ H _ _ v u Q I rx ry ⟨_,_,rfl,rfl,Nat.le_trans c (by decide),q _ H (Same.refl H) (rep_str _ _)⟩
   ·cases e
  ·split at e
   ·rename_i c
    cases e
    obtain ⟨a,us,rfl,s1,t1⟩:=r1.tup
    obtain ⟨b,ws,rfl,s2,t2⟩:=r2.tup
    have l1:=t1.length
    have l2:=t2.length
    have w1:=r1.tupR
    have w2:=r2.tupR
    by_cases z0:us = []
    ·subst z0
     have z1:=List.eq_nil_of_length_eq_zero l1
     subst z1
     exact op_catE pins s σ H _ _ v u Q I rx ry ⟨a,b,ws,rfl,rfl,s1,s2,q _ H (Same.refl H) w2⟩
    refine op_catT pins s σ H _ _ v u Q I rx ry ⟨a,b,us,ws,rfl,rfl,s1,s2,z0,size10000 (by omega),fun z => ?_,fun z p hp => ?_⟩
    ·rw [z,List.length_nil] at l2
     have z1:=List.eq_nil_of_length_eq_zero l2
     subst z1
     rw [List.append_nil] at q
     exact q _ H (Same.refl H) w1
    ·exact q _ _ (same_new hp _) (rep_newT hO hp (t1.append t2))
   ·cases e
  ·split at e
   ·rename_i c
    cases e
    obtain ⟨a,us,rfl,s1,t1⟩:=r1.lst
    obtain ⟨b,ws,rfl,s2,t2⟩:=r2.lst
    have l1:=t1.length
    have l2:=t2.length
    exact op_catS pins s σ H _ _ v u Q I rx ry ⟨a,b,us,ws,rfl,rfl,s1,s2,size10000 (by omega),fun p hp => q _ _ (same_new hp _) (rep_newL hO hp (t1.append t2))⟩
   ·cases e
noncomputable def R2C (K:PySem.W.Frag) (f:PV -> PV -> Option Bool):R2:=fun ux uy H Q =>
 ∃ O x y b,RepB K H O x ux /\ RepB K H O y uy /\ f x y = some b /\ Q (.bl b) H
theorem int_cmp {op:CmpOp} {g:Int -> Int -> Bool} {f:PV -> PV -> Option Bool} (h:OpR X (compareOp op) (rI0 fun i j => .bl (g i j)))
  (hf:∀ x y v,f x y = some v -> ∃ i j,x = .int i /\ y = .int j /\ v = g i j):OpR X (compareOp op) (R2C X.K f):=by
 intro pins s σ H ux uy v u Q I rx ry hq
 obtain ⟨O,x,y,w,r1,r2,e,q⟩:=hq
 obtain ⟨i,j,rfl,rfl,rfl⟩:=hf x y w e
 have e1:=r1.int
 have e2:=r2.int
 subst e1 e2
 exact h pins s σ H _ _ v u Q I rx ry ⟨i,j,rfl,rfl,q⟩
theorem op_isB:OpR X (compareOp .Is) (fun x y H Q => ∃ p q,x = .bl p /\ y = .bl q /\ Q (.bl (p == q)) H):=by
 rintro pins s σ H x y v u Q I rx ry ⟨p,q,rfl,rfl,hq⟩
 cases rx
 cases ry
 exact wpAny_pure (fin_bl I hq (by cases p <;> cases q <;> rfl))
theorem op_isnotB:OpR X (compareOp .IsNot) (fun x y H Q => ∃ p q,x = .bl p /\ y = .bl q /\ Q (.bl (!(p == q))) H):=by
 rintro pins s σ H x y v u Q I rx ry ⟨p,q,rfl,rfl,hq⟩
 cases rx
 cases ry
 exact wpAny_pure (fin_bl I hq (by cases p <;> cases q <;> rfl))
theorem non_iff {K:PySem.W.Frag} {H:Hp} {O:List Addr} {x:PV} {u:V} (r:RepB K H O x u):decide (u = .non) = isNon x:=by
 cases x with
 | non => rw [r.non]; rfl
 | bl b => rw [r.bl]; rfl
 | int b => rw [r.int]; rfl
 | str b => rw [r.str]; rfl
 | tup xs => obtain ⟨a,us,rfl,_⟩:=r.tup; rfl
 | lst xs => obtain ⟨a,us,rfl,_⟩:=r.lst; rfl
 | dI kvs => obtain ⟨a,rfl,_⟩:=r.dI; rfl
theorem op_cmp (hu:X.A.units + 200 < cLine) (op:Cp):OpR X (compareOp (cpOf op)) (R2C X.K (cmpOp op)):=by
 cases op with
 | lt => exact int_cmp op_lt fun x y v h => by obtain ⟨i,j,e1,e2,e3⟩:=int2_some h; exact ⟨i,j,e1,e2,(Option.some.inj e3).symm⟩
 | le => exact int_cmp op_le fun x y v h => by obtain ⟨i,j,e1,e2,e3⟩:=int2_some h; exact ⟨i,j,e1,e2,(Option.some.inj e3).symm⟩
 | gt => exact int_cmp op_gt fun x y v h => by obtain ⟨i,j,e1,e2,e3⟩:=int2_some h; exact ⟨i,j,e1,e2,(Option.some.inj e3).symm⟩
 | ge => exact int_cmp op_ge fun x y v h => by obtain ⟨i,j,e1,e2,e3⟩:=int2_some h; exact ⟨i,j,e1,e2,(Option.some.inj e3).symm⟩
 | eq =>
  intro pins s σ H ux uy v u Q I rx ry hq
  obtain ⟨O,x,y,w,r1,r2,e,q⟩:=hq
  exact op_eqR (by omega) pins s σ H ux uy v u Q I rx ry ⟨x,y,w,r1.whole,r2.whole,e,q⟩
 | ne =>
  intro pins s σ H ux uy v u Q I rx ry hq
  obtain ⟨O,x,y,w,r1,r2,e,q⟩:=hq
  simp only [cmpOp] at e
  split at e
  ·rename_i c
   simp only [Option.map_eq_some_iff] at e
   obtain ⟨b,e,rfl⟩:=e
   exact op_neR (by omega) pins s σ H ux uy v u Q I rx ry ⟨x,y,b,r1.whole,r2.whole,c,e,q⟩
  ·cases e
 | isN =>
  intro pins s σ H ux uy v u Q I rx ry hq
  obtain ⟨O,x,y,w,r1,r2,e,q⟩:=hq
  cases y <;> try (cases e; done)
  ·have e2:=r2.non
   subst e2
   refine op_isN pins s σ H ux _ v u Q I rx ry ⟨rfl,?_⟩
   have e:some (isNon x) = some w:=e
   rw [non_iff r1,Option.some.inj e]
   exact q
  ·cases x <;> try (cases e; done)
   have e1:=r1.bl
   have e2:=r2.bl
   subst e1 e2
   exact op_isB pins s σ H _ _ v u Q I rx ry ⟨_,_,rfl,rfl,by rw [Option.some.inj e]; exact q⟩
 | notN =>
  intro pins s σ H ux uy v u Q I rx ry hq
  obtain ⟨O,x,y,w,r1,r2,e,q⟩:=hq
  cases y <;> try (cases e; done)
  ·have e2:=r2.non
   subst e2
   refine op_notN pins s σ H ux _ v u Q I rx ry ⟨rfl,?_⟩
   have e:some (!isNon x) = some w:=e
   rw [non_iff r1,Option.some.inj e]
   exact q
  ·cases x <;> try (cases e; done)
   have e1:=r1.bl
   have e2:=r2.bl
   subst e1 e2
   cases e
   exact op_isnotB pins s σ H _ _ v u Q I rx ry ⟨_,_,rfl,rfl,q⟩
 | isIn =>
  intro pins s σ H ux uy v u Q I rx ry hq
  obtain ⟨O,x,y,w,r1,r2,e,q⟩:=hq
  simp only [cmpOp,Option.bind_eq_some_iff] at e
  obtain ⟨xs,e1,e2⟩:=e
  obtain ⟨a,us,rfl,s2,t2⟩:=r2.seq e1
  exact op_inR (by omega) pins s σ H ux _ v u Q I rx ry ⟨x,_,a,us,w,r1.whole,rfl,s2,Reps.mono (hide_le H O) _ t2,e2,q⟩
 | notIn =>
  intro pins s σ H ux uy v u Q I rx ry hq
  obtain ⟨O,x,y,w,r1,r2,e,q⟩:=hq
  simp only [cmpOp,Option.bind_eq_some_iff,Option.map_eq_some_iff] at e
  obtain ⟨b,⟨xs,e1,e2⟩,rfl⟩:=e
  obtain ⟨a,us,rfl,s2,t2⟩:=r2.seq e1
  exact op_notInR (by omega) pins s σ H ux _ v u Q I rx ry ⟨x,_,a,us,b,r1.whole,rfl,s2,Reps.mono (hide_le H O) _ t2,e2,q⟩
theorem place_eq (n:Nat) (i:Int):place n i = ixN n i:=rfl
theorem ix_val:IxR X (R2M X.K idxOp):=by
 intro value slice pins s σ H ux uy v u Q I rx ry hq hsub
 obtain ⟨O,x,y,w,hO,r1,r2,e,q⟩:=hq
 cases x <;> cases y <;> simp only [idxOp] at e <;> try (cases e; done)
 ·simp only [Option.bind_eq_some_iff] at e
  obtain ⟨j,e1,e2⟩:=e
  obtain ⟨a,us,rfl,s1,t1⟩:=r1.tup
  have e3:=r2.int
  subst e3
  obtain ⟨uw,e4,rw'⟩:=t1.get e2
  refine ix_seq value slice pins s σ H _ _ v u Q I rx ry (.inr (.inl ⟨a,us,_,uw,rfl,rfl,s1,?_,q uw H (Same.refl H) rw'⟩)) hsub
  unfold atI
  rw [<- t1.length,<- place_eq,e1]
  exact e4
 ·simp only [Option.bind_eq_some_iff] at e
  obtain ⟨j,e1,e2⟩:=e
  obtain ⟨a,us,rfl,s1,t1⟩:=r1.lst
  have e3:=r2.int
  subst e3
  obtain ⟨uw,e4,rw'⟩:=t1.get e2
  refine ix_seq value slice pins s σ H _ _ v u Q I rx ry (.inl ⟨a,us,_,uw,rfl,rfl,s1,?_,q uw H (Same.refl H) rw'⟩) hsub
  unfold atI
  rw [<- t1.length,<- place_eq,e1]
  exact e4
theorem plainIx_of {b:Expr} (h:notSlice b = true):PlainIx b:=by
 intro o i
 cases b <;> first | rfl | (simp [notSlice] at h)
theorem cut_reps {K:PySem.W.Frag} {F:Hp} {xs:List PV} {us:List V} (h:Reps K F xs us) (lo hi:Option Int):Reps K F (cut xs lo hi) (cutV us lo hi):=by
 have hl:=h.length
 have e:∀ (n d:Nat) (o:Option Int),cutAt n d o = HT.sIx n d o:=fun n d o => by cases o <;> rfl
 unfold cut cutV
 rw [e,e,hl]
 exact (h.drop _).take _
theorem sl_val:SlR X (fun x lo hi H Q => ∃ O v w,(∀ a ∈ O,H a ≠ none) /\ RepB X.K H O v x /\ sliceOp v lo hi = some w /\ ∀ u H',Same H H' -> Rep X.K (hide H' O) w u -> Q u H'):=by
 intro pins s σ H x v vl vu lo hi sl Q I rx hs pl pu hq
 obtain ⟨O,pv,w,hO,r1,e,q⟩:=hq
 cases pv <;> simp only [sliceOp] at e <;> try (cases e; done)
 ·rename_i xs
  cases e
  obtain ⟨a,us,rfl,s1,t1⟩:=r1.tup
  have e:∀ (n d:Nat) (o:Option Int),cutAt n d o = HT.sIx n d o:=fun n d o => by cases o <;> rfl
  by_cases hn:HT.sIx us.length 0 lo = 0 /\ HT.sIx us.length us.length hi = us.length
  ·refine sl_tupW pins s σ H _ v vl vu lo hi sl Q I rx hs pl pu ⟨a,us,rfl,s1,hn.1,hn.2,q _ _ (Same.refl H) ?_⟩
   have:cut xs lo hi = xs:=by
    unfold cut
    rw [e,e,t1.length,hn.1,hn.2,List.drop_zero,<- t1.length,Nat.sub_zero,List.take_length]
   rw [this]
   exact r1.tupR
  ·exact sl_tup pins s σ H _ v vl vu lo hi sl Q I rx hs pl pu ⟨a,us,rfl,s1,hn,fun p hp => q _ _ (same_new hp _) (rep_newT hO hp (cut_reps t1 lo hi))⟩
 ·cases e
  obtain ⟨a,us,rfl,s1,t1⟩:=r1.lst
  exact sl_list pins s σ H _ v vl vu lo hi sl Q I rx hs pl pu ⟨a,us,rfl,s1,fun p hp => q _ _ (same_new hp _) (rep_newL hO hp (cut_reps t1 lo hi))⟩
end
end MM
namespace MM
open PySem PySem.Spec PyProof.Rows L2
theorem insI_eq (x:Int):∀ l,insI x l = Srt.insO Srt.intOrd x l
 | [] => rfl
 | y :: r => by
  show (if y < x then y :: insI x r else x :: y :: r) = (if Srt.intOrd.blt y x = true then y :: Srt.insO Srt.intOrd x r else x :: y :: r)
  rw [insI_eq x r]
  by_cases h:y < x
  ·have e:Srt.intOrd.blt y x = true:=decide_eq_true h
   rw [if_pos h,if_pos e]
  ·have e:Srt.intOrd.blt y x = false:=decide_eq_false h
   rw [if_neg h,if_neg (by rw [e]; exact Bool.false_ne_true)]
theorem sortI_eq:∀ l,sortI l = Srt.sortI l
 | [] => rfl
 | x :: r => by
  show insI x (sortI r) = Srt.insO Srt.intOrd x (Srt.sortO Srt.intOrd r)
  rw [sortI_eq r,insI_eq]; rfl
theorem lexLt_eq:∀ a b,lexLt a b = HT.lexLt a b
 | [],[] => rfl
 | [],_ :: _ => rfl
 | _ :: _,[] => rfl
 | x :: xs,y :: ys => by
  rw [lexLt,HT.lexLt_cons,lexLt_eq xs ys]
theorem insT_eq (x:List Int):∀ l,insT x l = Srt.insO Srt.lexOrd x l
 | [] => rfl
 | y :: r => by
  show (if lexLt y x = true then y :: insT x r else x :: y :: r) = (if Srt.lexOrd.blt y x = true then y :: Srt.insO Srt.lexOrd x r else x :: y :: r)
  rw [insT_eq x r,lexLt_eq]
  rfl
theorem sortT_eq:∀ l,sortT l = Srt.sortT l
 | [] => rfl
 | x :: r => by
  show insT x (sortT r) = Srt.insO Srt.lexOrd x (Srt.sortO Srt.lexOrd r)
  rw [sortT_eq r,insT_eq]; rfl
section
variable {X:Cx} {T:Tab} {k:Nat} {cal:Cal}
noncomputable def RBM (K:PySem.W.Frag) (f:List PV -> Option PV):List V -> Hp -> VK -> Prop:=fun us H Q =>
 ∃ O vs v,(∀ a ∈ O,H a ≠ none) /\ Paired (RepB K H O) vs us /\ f vs = some v /\ ∀ u H',Same H H' -> Rep K (hide H' O) v u -> Q u H'
theorem p1 {K:PySem.W.Frag} {H:Hp} {O:List Addr} {x:PV} {us:List V} (h:Paired (RepB K H O) [x] us):∃ u,us = [u] /\ RepB K H O x u:=by
 cases h with
 | cons r t => cases t; exact ⟨_,rfl,r⟩
theorem p2 {K:PySem.W.Frag} {H:Hp} {O:List Addr} {x y:PV} {us:List V} (h:Paired (RepB K H O) [x,y] us):∃ u w,us = [u,w] /\ RepB K H O x u /\ RepB K H O y w:=by
 cases h with
 | cons r t => cases t with
  | cons r' t' => cases t'; exact ⟨_,_,rfl,r,r'⟩
theorem one_of {f:Blt} {vs:List PV} {v:PV} (h:bltOp f vs = some v) (hf:plainArgs f = some 1 \/ (instOf f).isSome = true \/ f = .sortedSet \/ f = .lenSet \/ f = .valuesOf):∃ x,vs = [x]:=by
 cases vs with
 | nil => cases f <;> simp [bltOp,one1,two1,isOf] at h
 | cons x r => cases r with
  | nil => exact ⟨x,rfl⟩
  | cons y r => cases f <;> simp [bltOp,one1,two1,isOf,plainArgs,instOf] at h hf
theorem c_len:CallR X (.builtin "len") (RBM X.K (bltOp .len)):=by
 intro pins s σ H xs us Q I r h
 obtain ⟨O,vs,v,hO,rs,e,q⟩:=h
 obtain ⟨x,rfl⟩:=one_of e (.inl rfl)
 obtain ⟨u,rfl,rx⟩:=p1 rs
 cases x <;> simp only [bltOp,one1,lenOf] at e <;> try (cases e; done)
 ·cases e
  obtain ⟨a,ws,rfl,s1,t1⟩:=rx.tup
  exact call_len_seq pins s σ H _ us Q I r ⟨a,ws,rfl,.inr s1,by rw [<- t1.length]; exact q _ H (Same.refl H) (rep_int _ _)⟩
 ·cases e
  obtain ⟨a,ws,rfl,s1,t1⟩:=rx.lst
  exact call_len_seq pins s σ H _ us Q I r ⟨a,ws,rfl,.inl s1,by rw [<- t1.length]; exact q _ H (Same.refl H) (rep_int _ _)⟩
 ·rename_i d
  cases d with
  | t kvs => cases e
  | p ns => cases e
  | k kvs =>
   cases e
   obtain ⟨a,rfl,ha⟩:=rx.dI
   obtain ⟨u,rfl,ru⟩:=vals1 r
   cases ru
   obtain ⟨hz,hs,ws,rel,dd⟩:=dk_rd I.hok (show Rd H a (.dK (encK kvs)) from ha.rd)
   have hlen:ws.length = kvs.length:=by rw [<- rel.length]; unfold encK; rw [List.length_map]
   have hz:kvs.length <= sizeLine:=by unfold encK at hz; rw [List.length_map] at hz; exact hz
   have hn:=line63
   exact call_len_dict hs dd (by rw [hlen]; omega) ⟨.int kvs.length,H,I.tok _,⟨s.toks + 1,by rw [hlen]⟩,q _ H (Same.refl H) (rep_int _ _)⟩
theorem c_tuple:CallR X (.type "tuple") (RBM X.K (bltOp .tupleOf)):=by
 intro pins s σ H xs us Q I r h
 obtain ⟨O,vs,v,hO,rs,e,q⟩:=h
 obtain ⟨x,rfl⟩:=one_of e (.inl rfl)
 obtain ⟨u,rfl,rx⟩:=p1 rs
 simp only [bltOp,one1,two1,lst?,isOf,Option.map_eq_some_iff] at e
 obtain ⟨ys,e,rfl⟩:=e
 cases x <;> simp [seq?] at e
 ·subst e
  obtain ⟨a,ws,rfl,s1,t1⟩:=rx.tup
  refine call_tuple_of pins s σ H _ us Q I r ⟨a,ws,rfl,.inr ⟨s1,q _ H (Same.refl H) ?_⟩⟩
  exact rx.tupR
 ·subst e
  obtain ⟨a,ws,rfl,s1,t1⟩:=rx.lst
  exact call_tuple_of pins s σ H _ us Q I r ⟨a,ws,rfl,.inl ⟨s1,fun l hl => q _ _ (same_new hl _) (rep_newT hO hl t1)⟩⟩
noncomputable def RBF (K:PySem.W.Frag) (f:List PV -> Option PV):List V -> Hp -> VK -> Prop:=fun us H Q =>
 ∃ O vs xs,(∀ a ∈ O,H a ≠ none) /\ Paired (RepB K H O) vs us /\ f vs = some (.lst xs) /\ ∀ l ws,H l = none -> Reps K (hide H O) xs ws -> Q (.ref l) (upd H l (.lst ws))
theorem c_list:CallR X (.type "list") (RBF X.K (bltOp .listOf)):=by
 intro pins s σ H xs us Q I r h
 obtain ⟨O,vs,v,hO,rs,e,q⟩:=h
 obtain ⟨x,rfl⟩:=one_of e (.inl rfl)
 obtain ⟨u,rfl,rx⟩:=p1 rs
 simp only [bltOp,one1,two1,lst?,isOf,Option.map_eq_some_iff,PV.lst.injEq,exists_eq_right] at e
 obtain ⟨a,ws,rfl,s1,t1⟩:=rx.seq e
 exact call_list_of pins s σ H _ us Q I r ⟨a,ws,rfl,s1,fun l hl => q l ws hl t1⟩
theorem reps_tups {K:PySem.W.Frag} {F:Hp}:∀ {tss:List (List Int)} {us:List V},Reps K F (tss.map fun t => .tup (t.map .int)) us -> Tups K F us tss
 | [],_,h => by rw [List.map_nil,Reps] at h; subst h; exact .nil
 | t :: tss,_,h => by
  rw [List.map_cons,Reps] at h
  obtain ⟨u,r,rfl,q,z⟩:=h
  rw [Rep] at q
  obtain ⟨a,vs,e,s1,r1⟩:=q
  rw [r1.ints] at s1
  exact .cons ⟨a,e,sqT_of s1⟩ (reps_tups z)
theorem tups_mono {K:PySem.W.Frag} {F F':Hp} (s:Same F F'):∀ {us:List V} {tss:List (List Int)},Tups K F us tss -> Tups K F' us tss
 | _,_,.nil => .nil
 | _,_,.cons ⟨a,e1,e2⟩ t => .cons ⟨a,e1,s.seqT e2⟩ (tups_mono s t)
theorem reps_pick {K:PySem.W.Frag} {F:Hp} {xs:List PV} {us:List V} (h:Reps K F xs us):∀ (l:List Nat),(∀ i ∈ l,i < us.length) -> Reps K F (l.map fun i => xs.getD i .non) (l.map fun i => us.getD i .non)
 | [],_ => .nil
 | i :: l,hl => by
  have hi:=hl i (.head _)
  have hx:i < xs.length:=by rw [h.length]; exact hi
  obtain ⟨u,e1,e2⟩:=h.get (i:=i) (x:=xs[i]) (List.getElem?_eq_getElem hx)
  refine .cons ?_ (reps_pick h l fun j hj => hl j (.tail _ hj))
  have q1:xs.getD i .non = xs[i]:=by simp [hx]
  have q2:us.getD i .non = u:=by rw [List.getD_eq_getElem?_getD,e1]; rfl
  show Rep K F (xs.getD i .non) (us.getD i .non)
  rw [q1,q2]; exact e2
theorem c_sorted (g:Gf X T k cal):CallR X (.builtin "sorted") (RBF X.K (bltOp .sorted)):=by
 intro pins s σ H xs us Q I r h
 obtain ⟨O,vs,v,hO,rs,e,q⟩:=h
 obtain ⟨x,rfl⟩:=one_of e (.inl rfl)
 obtain ⟨u,rfl,rx⟩:=p1 rs
 simp only [bltOp,one1,two1,lst?,isOf,Option.bind_eq_some_iff] at e
 obtain ⟨ys,e,e2⟩:=e
 obtain ⟨a,ws,rfl,s1,t1⟩:=rx.seq e
 unfold sortOp at e2
 split at e2
 ·rename_i h64
  split at e2
  ·rename_i ns hn
   cases e2
   have:=ints?_eq hn
   subst this
   have e3:=t1.ints
   subst e3
   rw [List.length_map] at h64
   refine call_sortedI g.calm pins s σ H _ us Q I r ⟨a,ns,rfl,s1.imp id .inl,h64,fun l hl => ?_⟩
   rw [<- sortI_eq]
   exact q l _ hl (.of_ints _)
  ·simp only [Option.map_eq_some_iff,PV.lst.injEq] at e2
   obtain ⟨ts,e3,rfl⟩:=e2
   have:=tups?_eq e3
   subst this
   rw [List.length_map] at h64
   refine call_sortedT (by have:=g.units; omega) pins s σ H _ us Q I r ⟨a,ws,ts,rfl,s1,tups_mono (hide_le H O) (reps_tups t1),h64,fun l pm hl hp e => q l _ hl ?_⟩
   have q2:=reps_pick t1 pm hp
   have e4:(pm.map fun i => (ts.map fun t => PV.tup (t.map .int)).getD i .non) = (sortT ts).map fun t => .tup (t.map .int):=by
    rw [sortT_eq,<- e,List.map_map]
    refine List.map_congr_left fun i hi => ?_
    have hi':i < ts.length:=by have:=hp i hi; rw [<- t1.length,List.length_map] at this; exact this
    simp [hi']
   rw [e4] at q2
   exact q2
 ·cases e2
theorem c_str:CallR X (.type "str") (RBM X.K (bltOp .strOf)):=by
 intro pins s σ H xs us Q I r h
 obtain ⟨O,vs,v,hO,rs,e,q⟩:=h
 obtain ⟨x,rfl⟩:=one_of e (.inl rfl)
 obtain ⟨u,rfl,rx⟩:=p1 rs
 cases x <;> simp only [bltOp,one1] at e <;> try (cases e; done)
 split at e
 ·rename_i i hi
  cases e
  have:=rx.int
  subst this
  exact c_strInt pins s σ H _ us Q I r ⟨_,rfl,hi,q _ H (Same.refl H) (by rw [Rep]; rfl)⟩
 ·cases e
theorem lst?_eq {x:PV} {ys:List PV} (h:lst? x = some ys):x = .lst ys:=by
 cases x <;> cases h
 rfl
end
end MM
namespace MM
open PySem PySem.Spec PyProof.Rows L2
section
variable {X:Cx} {T:Tab} {k:Nat} {cal:Cal}
theorem c_inst {b:Blt} {c:String} (hb:instOf b = some c):CallR X (.builtin "isinstance") (fun us H Q => ∃ O v u,us = [u,.ty c] /\ isD v = false /\ RepB X.K H O v u /\ Q (.bl (isT b v)) H):=by
 intro pins s σ H xs us Q I r h
 obtain ⟨O,v,x,rfl,nd,rx,q⟩:=h
 obtain ⟨u,t,rfl,r1,rc⟩:=vals2 r
 have rc':t = .type c:=rc
 subst rc'
 have fin:∀ (z:Bool) (tk:Nat),z = isT b v -> EP X pins σ Q (.bool z) { s with toks:=tk }:=fun z tk e => ⟨.bl z,H,I.tok tk,rfl,by rw [e]; exact q⟩
 cases v with
 | dI _ => cases nd
 | non =>
  have e:=rx.non
  subst e
  cases (show u = Value.none from r1)
  cases b <;> simp only [instOf,Option.some.injEq,reduceCtorEq] at hb <;> subst hb <;>
   exact PySem.W.kia_one PySem.W.kitx_none I.kIn True.intro (b:=false) (by first | rfl | kernel_rfl | decide) (fun z => nomatch z) fun tk => fin _ tk rfl
 | bl y =>
  have e:=rx.bl
  subst e
  cases (show u = Value.bool y from r1)
  cases b <;> simp only [instOf,Option.some.injEq,reduceCtorEq] at hb <;> subst hb <;> first
   | exact PySem.W.kia_one PySem.W.kitx_bool I.kIn True.intro (b:=true) (by first | rfl | kernel_rfl | decide) (fun z => nomatch z) fun tk => fin _ tk rfl
   | exact PySem.W.kia_one PySem.W.kitx_bool I.kIn True.intro (b:=false) (by first | rfl | kernel_rfl | decide) (fun z => nomatch z) fun tk => fin _ tk rfl
 | int y =>
  have e:=rx.int
  subst e
  obtain ⟨t,z⟩:=(show ∃ t,u = Value.int y t from r1)
  cases z
  cases b <;> simp only [instOf,Option.some.injEq,reduceCtorEq] at hb <;> subst hb <;> first
   | exact PySem.W.kia_one PySem.W.kitx_int I.kIn True.intro (b:=true) (by first | rfl | kernel_rfl | decide) (fun z => nomatch z) fun tk => fin _ tk rfl
   | exact PySem.W.kia_one PySem.W.kitx_int I.kIn True.intro (b:=false) (by first | rfl | kernel_rfl | decide) (fun z => nomatch z) fun tk => fin _ tk rfl
 | str y =>
  have e:=rx.str
  subst e
  obtain ⟨t,z⟩:=(show ∃ t,u = Value.str y t from r1)
  cases z
  cases b <;> simp only [instOf,Option.some.injEq,reduceCtorEq] at hb <;> subst hb <;> first
   | exact PySem.W.kia_one PySem.W.kitx_str I.kIn True.intro (b:=true) (by first | rfl | kernel_rfl | decide) (fun z => nomatch z) fun tk => fin _ tk rfl
   | exact PySem.W.kia_one PySem.W.kitx_str I.kIn True.intro (b:=false) (by first | rfl | kernel_rfl | decide) (fun z => nomatch z) fun tk => fin _ tk rfl
 | lst ys =>
  obtain ⟨a,us,rfl,s1,t1⟩:=rx.lst
  cases (show u = Value.ref a from r1)
  obtain ⟨its,_,p,_⟩:=I.list s1
  obtain ⟨o,h1,h2,_⟩:=p.isList
  cases b <;> simp only [instOf,Option.some.injEq,reduceCtorEq] at hb <;> subst hb <;> first
   | exact PySem.W.kia_one PySem.W.kitx_list I.kIn ⟨o,h1,h2⟩ (b:=true) (by first | rfl | kernel_rfl | decide) (fun z => nomatch z) fun tk => fin _ tk rfl
   | exact PySem.W.kia_one PySem.W.kitx_list I.kIn ⟨o,h1,h2⟩ (b:=false) (by first | rfl | kernel_rfl | decide) (fun z => nomatch z) fun tk => fin _ tk rfl
 | tup ys =>
  obtain ⟨a,us,rfl,s1,t1⟩:=rx.tup
  cases (show u = Value.ref a from r1)
  obtain ⟨its,_,p,_⟩:=I.tuple s1
  obtain ⟨o,h1,h2,_⟩:=p
  cases b <;> simp only [instOf,Option.some.injEq,reduceCtorEq] at hb <;> subst hb <;> first
   | exact PySem.W.kia_one PySem.W.kitx_tuple I.kIn ⟨o,h1,h2⟩ (b:=true) (by first | rfl | kernel_rfl | decide) (fun z => nomatch z) fun tk => fin _ tk rfl
   | exact PySem.W.kia_one PySem.W.kitx_tuple I.kIn ⟨o,h1,h2⟩ (b:=false) (by first | rfl | kernel_rfl | decide) (fun z => nomatch z) fun tk => fin _ tk rfl
theorem bools_vals {K:PySem.W.Frag} {F:Hp}:∀ {bs:List Bool} {us:List V} {its:List Value},Reps K F (bs.map .bl) us -> Vals us its -> its = bs.map Value.bool
 | [],_,_,h,w => by rw [List.map_nil,Reps] at h; subst h; cases w; rfl
 | b :: bs,_,_,h,w => by
  rw [List.map_cons,Reps] at h
  obtain ⟨u,r,rfl,q,t⟩:=h
  rw [Rep] at q
  subst q
  cases w with
  | cons r1 w1 =>
   cases r1
   rw [bools_vals t w1]; rfl
theorem range_all (bs:List Bool):(List.range bs.length).all (fun i => bs.getD i false) = bs.all id:=by
 conv => rhs; rw [<- Srt.map_range bs false]
 rw [List.all_map]
 rfl
theorem range_any (bs:List Bool):(List.range bs.length).any (fun i => bs.getD i false) = bs.any id:=by
 conv => rhs; rw [<- Srt.map_range bs false]
 rw [List.any_map]
 rfl
theorem truth_bools {P:Program} {w:World} {A:Around} (bs:List Bool):TruthOf P w A (fun i v => (bs.map Value.bool).toArray[i]? = some v) (fun i => bs.getD i false):=by
 intro i v s Q E h q
 simp only [List.getElem?_toArray,List.getElem?_map,Option.map_eq_some_iff] at h
 obtain ⟨b,e,rfl⟩:=h
 have:bs.getD i false = b:=by rw [List.getD_eq_getElem?_getD,e]; rfl
 have q':Q (bs.getD i false) s:=q
 rw [this] at q'
 exact wpAny_truthy_bool q'
theorem c_any (hc:X.calm = true):CallR X (.builtin "any") (RBM X.K (bltOp .any)):=by
 intro pins s σ H xs us Q I r h
 obtain ⟨O,vs,v,hO,rs,e,q⟩:=h
 obtain ⟨x,rfl⟩:=one_of e (.inl rfl)
 obtain ⟨u,rfl,rx⟩:=p1 rs
 simp only [bltOp,one1,Option.bind_eq_some_iff,Option.map_eq_some_iff] at e
 obtain ⟨ys,e0,bs,e,rfl⟩:=e
 obtain rfl:=lst?_eq e0
 have:=bools?_eq e
 subst this
 obtain ⟨a,ws,rfl,s1,t1⟩:=rx.lst
 obtain ⟨u,rfl,ru⟩:=vals1 r
 cases ru
 obtain ⟨its,r',pl,hz⟩:=I.list s1
 have:=bools_vals t1 r'
 subst this
 have hlt:a < s.heap.objs.size:=by obtain ⟨o,ho,_⟩:=pl.isList; exact Heap.lt_size ho
 refine call_any_walk (wpAny_pyIter_list pl.isList ?_)
 refine ⟨s.heap.objs.size,_,_,_,_,_,fun i => bs.getD i false,rfl,Walks.list (by first | exact I.ok.hd hc | simpa using I.ok.hd hc) s.heap.objs.size a (Nat.ne_of_lt hlt) (bs.map Value.bool).toArray,⟨⟨_,Heap.get?_push_size _ rfl,rfl,rfl⟩,pl.isList.push _⟩,truth_bools bs,fun h' tk hk => ?_⟩
 have e2:(List.range (bs.map Value.bool).toArray.size).any (fun i => bs.getD i false) = bs.any id:=by
  rw [List.size_toArray,List.length_map]; exact range_any bs
 rw [e2]
 refine ⟨.bl _,H,?_,rfl,q _ H (Same.refl H) (rep_bl _ _)⟩
 refine I.kept (t':=tk) fun b o e => hk b o ?_ (Heap.get?_push_of_some _ e)
 intro hm
 have hb:=Heap.lt_size e
 simp at hm
 exact absurd hm (Nat.ne_of_lt hb)
theorem c_all (hc:X.calm = true):CallR X (.builtin "all") (RBM X.K (bltOp .all)):=by
 intro pins s σ H xs us Q I r h
 obtain ⟨O,vs,v,hO,rs,e,q⟩:=h
 obtain ⟨x,rfl⟩:=one_of e (.inl rfl)
 obtain ⟨u,rfl,rx⟩:=p1 rs
 simp only [bltOp,one1,Option.bind_eq_some_iff,Option.map_eq_some_iff] at e
 obtain ⟨ys,e0,bs,e,rfl⟩:=e
 obtain rfl:=lst?_eq e0
 have:=bools?_eq e
 subst this
 obtain ⟨a,ws,rfl,s1,t1⟩:=rx.lst
 obtain ⟨u,rfl,ru⟩:=vals1 r
 cases ru
 obtain ⟨its,r',pl,hz⟩:=I.list s1
 have:=bools_vals t1 r'
 subst this
 have hlt:a < s.heap.objs.size:=by obtain ⟨o,ho,_⟩:=pl.isList; exact Heap.lt_size ho
 refine call_all_walk (wpAny_pyIter_list pl.isList ?_)
 refine ⟨s.heap.objs.size,_,_,_,_,_,fun i => bs.getD i false,rfl,Walks.list (by first | exact I.ok.hd hc | simpa using I.ok.hd hc) s.heap.objs.size a (Nat.ne_of_lt hlt) (bs.map Value.bool).toArray,⟨⟨_,Heap.get?_push_size _ rfl,rfl,rfl⟩,pl.isList.push _⟩,truth_bools bs,fun h' tk hk => ?_⟩
 have e2:(List.range (bs.map Value.bool).toArray.size).all (fun i => bs.getD i false) = bs.all id:=by
  rw [List.size_toArray,List.length_map]; exact range_all bs
 rw [e2]
 refine ⟨.bl _,H,?_,rfl,q _ H (Same.refl H) (rep_bl _ _)⟩
 refine I.kept (t':=tk) fun b o e => hk b o ?_ (Heap.get?_push_of_some _ e)
 intro hm
 have hb:=Heap.lt_size e
 simp at hm
 exact absurd hm (Nat.ne_of_lt hb)
end
end MM
namespace L2
open PySem PySem.Spec PyProof.Rows
end L2
namespace L2
open PySem PySem.Spec PyProof.Rows
end L2
namespace MM
open PySem PySem.Spec PyProof.Rows L2
structure ItOk (K:PySem.W.Frag) (J:It) (xs:List PV) (V G:Hp):Prop where
 stop:∀ H',Same G H' -> J.stop xs.length H'
 go:∀ (i:Nat) x H',Same G H' -> xs[i]? = some x -> J.go i H'
 yld:∀ (i:Nat) x H' u H2,Same G H' -> xs[i]? = some x -> J.yld i H' u H2 -> Same H' H2 /\ ∀ O',(∀ a ∈ O',H' a ≠ none) -> Same V (hide H2 O') -> Rep K (hide H2 O') x u
theorem ItOk.weak {K:PySem.W.Frag} {J:It} {xs:List PV} {V G G':Hp} (h:ItOk K J xs V G) (s:Same G G'):ItOk K J xs V G' :=
 ⟨fun H' s' => h.stop H' (s.trans s'),fun i x H' s' => h.go i x H' (s.trans s'),fun i x H' u H2 s' => h.yld i x H' u H2 (s.trans s')⟩
noncomputable def lentOf (ms:List ME) (ρ:Rho) (σ:St):List Addr:=match ms with
 | [.bor i] => (match (ρ[i]?).join,(σ[i]?).join with | some (.own _),some (.ref a) => [a] | _,_ => [])
 | _ => []
noncomputable def guard (B:Hp) (O:List Addr) (H:Hp) (L:List Addr):Hp:=fun b => if b ∈ O then (if b ∈ L then H b else B b) else H b
section
variable {K:PySem.W.Frag} {B H:Hp} {O L:List Addr}
theorem guard_le (s:Same B H):Same (guard B O H L) H:=fun b u e => by
 unfold guard at e
 split at e
 ·split at e
  ·exact e
  ·exact s b u e
 ·exact e
theorem le_guard (s:Same B H):Same B (guard B O H L):=fun b u e => by
 unfold guard
 split
 ·split
  ·exact s b u e
  ·exact e
 ·exact s b u e
theorem hide_guard:Same (hide H O) (guard B O H L):=fun b u e => by
 have hb:b ∉ O:=fun z => by rw [hide_in z] at e; cases e
 unfold guard
 rw [if_neg hb]
 rw [hide_out hb] at e
 exact e
end
theorem it_list {K:PySem.W.Frag} {V G:Hp} {a:Addr} {xs:List PV} {us:List L2.V} (h:SqL K G a us) (r:Reps K V xs us):ItOk K (Itl K a) xs V G where
 stop:=fun H' s => ⟨us,s.seq h,Nat.le_of_eq r.length.symm⟩
 go:=fun i x H' s e => by
  obtain ⟨u,e1,_⟩:=r.get e
  exact ⟨us,u,s.seq h,e1⟩
 yld:=fun i x H' u H2 s e y => by
  obtain ⟨rfl,y⟩:=y
  obtain ⟨w,e1,q⟩:=r.get e
  have e2:=y us (s.seq h)
  rw [e1] at e2
  cases e2
  exact ⟨Same.refl _,fun O' _ sv => Rep.mono sv _ q⟩
theorem it_tup {K:PySem.W.Frag} {V G:Hp} {a:Addr} {xs:List PV} {us:List L2.V} (h:SqT K G a us) (r:Reps K V xs us):ItOk K (Itt K a) xs V G where
 stop:=fun H' s => ⟨us,s.seqT h,Nat.le_of_eq r.length.symm⟩
 go:=fun i x H' s e => by
  obtain ⟨u,e1,_⟩:=r.get e
  exact ⟨us,u,s.seqT h,e1⟩
 yld:=fun i x H' u H2 s e y => by
  obtain ⟨rfl,y⟩:=y
  obtain ⟨w,e1,q⟩:=r.get e
  have e2:=y us (s.seqT h)
  rw [e1] at e2
  cases e2
  exact ⟨Same.refl _,fun O' _ sv => Rep.mono sv _ q⟩
theorem it_range {K:PySem.W.Frag} {V G:Hp} {lo:Int} {n:Nat}:ItOk K (Itr lo n) ((List.range n).map fun (k:Nat) => .int (lo + k)) V G where
 stop:=fun H' s => by simp [Itr]
 go:=fun i x H' s e => by
  have:=(List.getElem?_eq_some_iff.mp e).1
  simpa [Itr] using this
 yld:=fun i x H' u H2 s e y => by
  obtain ⟨rfl,rfl⟩:=y
  refine ⟨Same.refl _,fun O' _ sv => ?_⟩
  have hi:i < n:=by have:=(List.getElem?_eq_some_iff.mp e).1; simpa using this
  rw [List.getElem?_map,List.getElem?_range hi] at e
  cases e
  rw [Rep]
theorem rep_at {K:PySem.W.Frag} {H:Hp} {O:List Addr} {p:Addr} {xs:List PV} {us:List V} (hO:∀ a ∈ O,H a ≠ none) (hp:H p = none) (h:Reps K (hide (upd H p (.tup us)) O) xs us):Rep K (hide (upd H p (.tup us)) O) (.tup xs) (.ref p):=by
 rw [Rep]
 refine ⟨p,us,rfl,SqT.of ?_,h⟩
 rw [hide_out fun z => hO p z hp]
 exact upd_same ..
theorem zip_len:∀ {xs ys:List PV},xs.length = ys.length -> (zipP xs ys).length = xs.length
 | [],[],_ => rfl
 | _ :: _,_ :: _,h => by
  rw [zipP,List.length_cons,List.length_cons,zip_len (by simpa using h)]
theorem zip_at:∀ {xs ys:List PV} {i:Nat} {z:PV},(zipP xs ys)[i]? = some z -> ∃ a b,xs[i]? = some a /\ ys[i]? = some b /\ z = .tup [a,b]
 | [],_,i,z,h => by simp [zipP] at h
 | _ :: _,[],i,z,h => by simp [zipP] at h
 | x :: xs,y :: ys,0,z,h => by
  simp [zipP] at h
  exact ⟨x,y,rfl,rfl,h.symm⟩
 | x :: xs,y :: ys,i + 1,z,h => by
  rw [zipP,List.getElem?_cons_succ] at h
  obtain ⟨a,b,h1,h2,h3⟩:=zip_at h
  exact ⟨a,b,by simpa using h1,by simpa using h2,h3⟩
theorem it_zip {K:PySem.W.Frag} {V G:Hp} {a b:Addr} {xs ys:List PV} {us ws:List L2.V} (h1:∀ H',Same G H' -> SqT K H' a us) (h2:∀ H',Same G H' -> SqT K H' b ws) (r1:Reps K V xs us) (r2:Reps K V ys ws) (hl:xs.length = ys.length):ItOk K (Itz K a b) (zipP xs ys) V G where
 stop:=fun H' s => ⟨us,h1 H' s,by rw [zip_len hl]; exact r1.length⟩
 go:=fun i x H' s e => by
  refine ⟨us,ws,h1 H' s,h2 H' s,by rw [<- r1.length,<- r2.length]; exact hl,?_⟩
  have:=(List.getElem?_eq_some_iff.mp e).1
  rw [zip_len hl] at this
  rw [<- r1.length]
  exact this
 yld:=fun i x H' u H2 s e y => by
  obtain ⟨p,rfl,hp,v,w,rfl,y1,y2⟩:=y
  obtain ⟨z1,z2,e1,e2,rfl⟩:=zip_at e
  obtain ⟨w1,f1,q1⟩:=r1.get e1
  obtain ⟨w2,f2,q2⟩:=r2.get e2
  have g1:=y1 us (h1 H' s)
  have g2:=y2 ws (h2 H' s)
  rw [f1] at g1
  rw [f2] at g2
  cases g1
  cases g2
  exact ⟨same_new hp _,fun O' hO sv => rep_at hO hp (.cons (Rep.mono sv _ q1) (.cons (Rep.mono sv _ q2) .nil))⟩
noncomputable def tW (K:PySem.W.Frag) (cal:Cal) (k:Sk) (ms:List ME):TI:=fun σ H R =>
 ∃ B O₀ O ρ vs xs,StOk K B O₀ O H ρ σ /\ evs cal ms ρ = some vs /\ srcOf k vs = some xs /\ ∀ J H1,Same H H1 -> ItOk K J xs (hide H1 O) (guard B O H1 (lentOf ms ρ σ)) -> R J H1
section
variable {X:Cx} {cal:Cal} {tg:Expr}
theorem PI.or {e:Expr} {t u:TI} (h:PI X tg e t) (g:PI X tg e u):PI X tg e (fun σ H R => t σ H R \/ u σ H R):=fun pins s σ H R I q => q.elim (h pins s σ H R I) (g pins s σ H R I)
theorem evs_len:∀ {ms:List ME} {ρ:Rho} {vs:List PV},evs cal ms ρ = some vs -> vs.length = ms.length
 | [],_,_,h => by simp [evs] at h; subst h; rfl
 | m :: ms,_,_,h => by
  simp only [evs,Option.bind_eq_some_iff,Option.map_eq_some_iff] at h
  obtain ⟨v,_,w,e2,rfl⟩:=h
  simp [evs_len e2]
theorem evs1 {m:ME} {ρ:Rho} {vs:List PV} (h:evs cal [m] ρ = some vs):∃ v,vs = [v] /\ ev cal m ρ = some v:=by
 simp only [evs,Option.bind_eq_some_iff,Option.map_eq_some_iff] at h
 obtain ⟨v,e,w,e2,rfl⟩:=h
 cases e2
 exact ⟨v,rfl,e⟩
theorem rep_seq {K:PySem.W.Frag} {F:Hp} {v:PV} {u:L2.V} {xs:List PV} (h:Rep K F v u) (e:seq? v = some xs):∃ a us,u = .ref a /\ Reps K F xs us /\ ((v = .lst xs /\ SqL K F a us) \/ (v = .tup xs /\ SqT K F a us)):=by
 cases v with
 | lst ys => simp [seq?] at e; subst e; rw [Rep] at h; obtain ⟨a,us,e,q,r⟩:=h; exact ⟨a,us,e,r,.inl ⟨rfl,q⟩⟩
 | tup ys => simp [seq?] at e; subst e; rw [Rep] at h; obtain ⟨a,us,e,q,r⟩:=h; exact ⟨a,us,e,r,.inr ⟨rfl,sqT_of q⟩⟩
 | _ => simp [seq?] at e
theorem w_seq {m:ME} {e:Expr} (hb:isBor m = false) (h:PE X e (tE X.K cal m)):PI X tg e (tW X.K cal .seq [m]):=by
 refine (PI.or (pi_list h) (pi_tup h)).imp fun σ H R q => ?_
 obtain ⟨B,O₀,O,ρ,vs,xs,st,e1,e2,q⟩:=q
 obtain ⟨v,rfl,e3⟩:=evs1 e1
 have e4:seq? v = some xs:=e2
 have hl:lentOf [m] ρ σ = []:=by cases m <;> first | rfl | cases hb
 rw [hl] at q
 cases v with
 | lst ys =>
  simp [seq?] at e4; subst e4
  refine .inl ⟨B,O₀,O,ρ,_,st,e3,fun u H' s g => ?_⟩
  have r:=g.2 hb
  rw [Rep] at r
  obtain ⟨a,us,rfl,sq,rs⟩:=r
  exact ⟨a,rfl,⟨us,(hide_le H' O).seq sq⟩,q _ _ s (it_list (hide_guard.seq sq) rs)⟩
 | tup ys =>
  simp [seq?] at e4; subst e4
  refine .inr ⟨B,O₀,O,ρ,_,st,e3,fun u H' s g => ?_⟩
  have r:=g.2 hb
  rw [Rep] at r
  obtain ⟨a,us,rfl,sq,rs⟩:=r
  exact ⟨a,rfl,⟨us,(hide_le H' O).seqT (sqT_of sq)⟩,q _ _ s (it_tup (hide_guard.seqT (sqT_of sq)) rs)⟩
 | _ => simp [seq?] at e4
theorem w_bor {i:Nat} {x:Str} {pos:Pos} (h:nameAt X.N X.env.scope i x = true):PI X tg (.Name x pos) (tW X.K cal .seq [.bor i]):=by
 refine (PI.or (pi_list (name_at h)) (pi_tup (name_at h))).imp fun σ H R q => ?_
 obtain ⟨B,O₀,O,ρ,vs,xs,st,e1,e2,q⟩:=q
 obtain ⟨v,rfl,e3⟩:=evs1 e1
 have e4:seq? v = some xs:=e2
 rw [ev] at e3
 cases hj:(ρ[i]?).join with
 | none => rw [hj] at e3; cases e3
 | some m =>
  rw [hj] at e3
  obtain ⟨u,eu,so⟩:=slot_of st hj
  cases m with
  | val w =>
   simp only [borOf,Option.some.injEq] at e3
   subst e3
   have so':Rep X.K (hide H O) w u:=so
   obtain ⟨a,us,rfl,rs,z⟩:=rep_seq so' e4
   rcases z with ⟨rfl,sq⟩ | ⟨rfl,sq⟩
   ·exact .inl ⟨_,eu,a,rfl,⟨us,(hide_le H O).seq sq⟩,q _ _ (Same.refl H) (it_list (hide_guard.seq sq) rs)⟩
   ·exact .inr ⟨_,eu,a,rfl,⟨us,(hide_le H O).seqT sq⟩,q _ _ (Same.refl H) (it_tup (hide_guard.seqT sq) rs)⟩
  | own ys =>
   simp only [borOf,Option.some.injEq] at e3
   subst e3
   simp [seq?] at e4; subst e4
   obtain ⟨a,us,rfl,ha,rs,hO,_⟩:=so
   refine .inl ⟨_,eu,a,rfl,⟨us,SqL.of ha⟩,q _ _ (Same.refl H) (it_list (SqL.of ?_) rs)⟩
   have hl:lentOf [.bor i] ρ σ = [a]:=by simp [lentOf,hj,eu]
   unfold guard
   rw [hl,if_pos hO,if_pos (by simp)]
   exact ha
  | brw ys =>
   simp only [borOf,Option.some.injEq] at e3
   subst e3
   simp [seq?] at e4; subst e4
   obtain ⟨a,us,rfl,sq,rs⟩:=so
   exact .inl ⟨_,eu,a,rfl,⟨us,st.keep.seq sq⟩,q _ _ (Same.refl H) (it_list ((le_guard st.keep).seq sq) rs)⟩
  | ownD ys =>
   have e3:=bor_own e3
   subst e3
   simp [seq?] at e4
  | mutD ys =>
   have e3:=bor_mut e3
   subst e3
   simp [seq?] at e4
  | brwD ys =>
   have e3:=bor_brw e3
   subst e3
   simp [seq?] at e4
theorem w_zip {T:Tab} {k:Nat} {ms:List ME} {a b:Expr} {f:Str} {ts:List Expr} {j:Nat} {tp p pos:Pos} (g:Gf X T k cal) (hf:f = ("zip":Str)) (hg:glB X.env.scope f = true) (ha:PA X [a,b] (tEs X.K cal ms)) (hs1:notStar a = true) (hs2:notStar b = true) (hm:ms.length = 2) :
  PI X (.Tuple ts j tp) (.Call (.Name f p) [a,b] [] pos) (tW X.K cal .zip ms):=by
 subst hf
 have star:∀ e,notStar e = true -> ∀ es env,starEach (e :: es) env = (false,eval e env) :: starEach es env:=fun e he es env => by
  cases e <;> first | rfl | (simp [notStar] at he)
 refine (pi_zip (glOf hg) (g.blt "zip" (by decide)) ha (by rw [star a hs1,star b hs2]; rfl) (by rw [star b hs2]; rfl)).imp fun σ H R q => ?_
 obtain ⟨B,O₀,O,ρ,vs,xs,st,e1,e2,q⟩:=q
 refine ⟨B,O₀,O,ρ,vs,st,e1,fun us H' s gs => ?_⟩
 have hl:lentOf ms ρ σ = []:=by
  match ms,hm with
  | [m1,m2],_ => cases m1 <;> rfl
 rw [hl] at q
 match vs,e2,gs with
 | [.tup ys,.tup zs],e2,gs =>
  simp only [srcOf] at e2
  split at e2
  ·rename_i c
   cases e2
   obtain ⟨u,u',rfl,ru,ru'⟩:=p2 gs.1
   have r1:=ru.tupR
   have r2:=ru'.tupR
   rw [Rep] at r1 r2
   obtain ⟨a1,us1,rfl,s1,t1⟩:=r1
   obtain ⟨a2,us2,rfl,s2,t2⟩:=r2
   exact ⟨a1,a2,us1,us2,rfl,(hide_le H' O).seqT s1,(hide_le H' O).seqT s2,by rw [<- t1.length,<- t2.length]; exact c,q _ _ s (it_zip (fun H2 z => z.seqT (hide_guard.seqT s1)) (fun H2 z => z.seqT (hide_guard.seqT s2)) t1 t2 c)⟩
  ·cases e2
theorem w_range {T:Tab} {k:Nat} {ms:List ME} {args:List Expr} {f:Str} {p pos:Pos} (g:Gf X T k cal) (hf:f = ("range":Str)) (hg:glB X.env.scope f = true) (ha:PA X args (tEs X.K cal ms)) (hn:args.length = 1 \/ args.length = 2) (hs:args.all notStar = true) (hm:ms.length = args.length) :
  PI X tg (.Call (.Name f p) args [] pos) (tW X.K cal .rng ms):=by
 subst hf
 have star:∀ e,notStar e = true -> ∀ es env,starEach (e :: es) env = (false,eval e env) :: starEach es env:=fun e he es env => by
  cases e <;> first | rfl | (simp [notStar] at he)
 match args,hn with
 | [a],_ =>
  simp only [List.all_cons,List.all_nil,Bool.and_true] at hs
  refine (pi_range1 (glOf hg) (g.blt "range" (by decide)) ha (by rw [star a hs]; rfl)).imp fun σ H R q => ?_
  obtain ⟨B,O₀,O,ρ,vs,xs,st,e1,e2,q⟩:=q
  refine ⟨B,O₀,O,ρ,vs,st,e1,fun us H' s gs => ?_⟩
  match vs,e2,gs with
  | [.int j],e2,gs =>
   simp only [srcOf] at e2
   split at e2
   ·rename_i c
    cases e2
    obtain ⟨u,rfl,ru⟩:=p1 gs.1
    have e3:=ru.int
    subst e3
    exact ⟨j,rfl,c.1,c.2,q _ _ s it_range⟩
   ·cases e2
  | [.int j,.int j'],e2,gs =>
   have:=evs_len e1
   simp at this hm
   omega
 | [a,b],_ =>
  simp only [List.all_cons,List.all_nil,Bool.and_true,Bool.and_eq_true] at hs
  refine (pi_range2 (glOf hg) (g.blt "range" (by decide)) ha (by rw [star a hs.1,star b hs.2]; rfl) (by rw [star b hs.2]; rfl)).imp fun σ H R q => ?_
  obtain ⟨B,O₀,O,ρ,vs,xs,st,e1,e2,q⟩:=q
  refine ⟨B,O₀,O,ρ,vs,st,e1,fun us H' s gs => ?_⟩
  match vs,e2,gs with
  | [.int i,.int j],e2,gs =>
   simp only [srcOf] at e2
   split at e2
   ·rename_i c
    cases e2
    obtain ⟨u,u',rfl,ru,ru'⟩:=p2 gs.1
    have e3:=ru.int
    have e4:=ru'.int
    subst e3 e4
    exact ⟨i,j,rfl,c,q _ _ s it_range⟩
   ·cases e2
  | [.int j],e2,gs =>
   have:=evs_len e1
   simp at this hm
   omega
end
end MM
namespace MM
open PySem PySem.Spec PyProof.Rows L2
noncomputable def tF (K:PySem.W.Frag) (cal:Cal) (me:ME):TE:=fun σ H Q => ∃ B O₀ O ρ xs,StOk K B O₀ O H ρ σ /\ ev cal me ρ = some (.lst xs) /\
 ∀ p us H',Same H H' -> H p = none -> H' p = some (.lst us) -> Reps K (hide H' (p :: O)) xs us -> Q (.ref p) H'
theorem hide_cons_le {H:Hp} {O:List Addr} {p:Addr}:Same (hide H (p :: O)) (hide H O):=hide_mono (Same.refl H) fun b hb => .inl (List.mem_cons_of_mem _ hb)
theorem hide_upd {H:Hp} {O:List Addr} {p:Addr} {o:HO} (h:p ∈ O):hide (upd H p o) O = hide H O:=by
 funext b
 unfold hide
 split
 ·rfl
 ·rename_i hb
  exact upd_ne fun z => hb (by rw [z]; exact h)
theorem got_new {K:PySem.W.Frag} {H H':Hp} {O:List Addr} {me:ME} {xs:List PV} {p:Addr} {us:List V} (hO:∀ a ∈ O,H a ≠ none) (hp:H p = none) (e:H' p = some (.lst us)) (r:Reps K (hide H' (p :: O)) xs us):Got K H' O me (.lst xs) (.ref p):=by
 refine .of ?_
 rw [Rep]
 refine ⟨p,us,rfl,SqL.of ?_,Reps.mono hide_cons_le _ r⟩
 rw [hide_out fun z => hO p z hp]
 exact e
section
variable {X:Cx} {T:Tab} {k:Nat} {cal:Cal}
theorem fresh_val {e:Expr} {me:ME} (hf:∀ ρ v,ev cal me ρ = some v -> ∃ xs,v = .lst xs) (h:PE X e (tF X.K cal me)):PE X e (tE X.K cal me):=by
 refine h.imp fun σ H Q q => ?_
 obtain ⟨B,O₀,O,ρ,v,st,e1,q⟩:=q
 obtain ⟨xs,rfl⟩:=hf ρ v e1
 exact ⟨B,O₀,O,ρ,xs,st,e1,fun p us H' s hp he r => q _ _ s (got_new st.here hp he r)⟩
theorem Gf.blk (g:Gf X T k cal) (x:Str) (fvs:List Str) (scope:Scope) (s₁:Shared) (H₁:Hp) (C:Addr) (fp:List Addr):Gf (X.blk x fvs scope s₁ H₁ C fp) T k cal:={ g with }
theorem compSc_of {osc:Scope} {N:List Str} {scope:Scope} {x:Str} {fvs:List Str} {js:List Nat} (h:compScB osc N scope x fvs js = true):CompSc osc N scope x fvs js:=by
 unfold compScB at h
 simp only [Bool.and_eq_true,beq_iff_eq,decide_eq_true_eq] at h
 obtain ⟨⟨⟨⟨⟨⟨⟨⟨h1,h2⟩,h3⟩,h4⟩,h5⟩,h6⟩,h7⟩,h8⟩,h9⟩:=h
 exact ⟨h1,h2,h3,h4,h5,h6,h7,h8,h9⟩
theorem blk_st {K:PySem.W.Frag} {B H H1 H2:Hp} {O₀ O:List Addr} {ρ:Rho} {σ σ':St} {js:List Nat} {D:Addr} {x:PV} {ux:V} (st:StOk K B O₀ O H ρ σ) (s1:Same H H1) (s2:Same H1 H2) (hD:H1 D = none) (hD2:H2 D ≠ none)
  (hσ:∀ z,σ'.set 0 z = (blk0 js σ).set 0 z) (hl:0 < σ'.length) (hx:Rep K (hide H2 (D :: O)) x ux):StOk K H1 [] (D :: O) H2 (blkR js ρ x) (σ'.set 0 (some ux)):=by
 have hv:Same (hide H O) (hide H2 (D :: O)):=hide_mono (s1.trans s2) fun b hb => by
  rcases List.mem_cons.mp hb with rfl | hb
  ·exact .inr (s1.free hD)
  ·exact .inl hb
 rw [hσ]
 have noown:∀ (i:Nat) (m:MV),ownM m = true -> (blkR js ρ x)[i]? ≠ some (some m):=fun i m hm e => by
  unfold blkR at e
  cases i with
  | zero =>
   simp at e
   subst e
   cases hm
  | succ i =>
   simp only [List.getElem?_cons_succ,List.getElem?_map,Option.map_eq_some_iff] at e
   obtain ⟨j,_,e⟩:=e
   cases hj:(ρ[j]?).join with
   | none => rw [hj] at e; cases e
   | some mm =>
    rw [hj] at e
    cases mm <;> first | (simp [capOf] at e; done) | (simp only [capOf,Option.some.injEq] at e; subst e; cases hm)
 refine ⟨s2,fun a ha => ?_,fun a ha => by simp at ha,fun a ha => by simp at ha,?_,fun i m e => ?_,fun i j m m' a _ e _ hm => absurd e (noown i m hm)
  ⟩
 ·rcases List.mem_cons.mp ha with rfl | ha
  ·exact hD2
  ·exact fun e => st.here a ha ((s1.trans s2).free e)
 ·simp [blkR,blk0]
 ·cases i with
  | zero =>
   simp only [blkR,List.getElem?_cons_zero,Option.some.injEq] at e
   subst e
   exact ⟨ux,by simp [blk0],hx⟩
  | succ i =>
   simp only [blkR,List.getElem?_cons_succ,List.getElem?_map,Option.map_eq_some_iff] at e
   obtain ⟨j,ej,e⟩:=e
   cases hj:(ρ[j]?).join with
   | none => rw [hj] at e; cases e
   | some mm =>
    rw [hj] at e
    obtain ⟨u,eu,so⟩:=slot_of st hj
    have eσ:((blk0 js σ).set 0 (some ux))[i + 1]? = some (some u):=by
     simp [blk0,ej,eu]
    refine ⟨u,eσ,?_⟩
    cases mm with
    | val w =>
     simp only [capOf,Option.some.injEq] at e
     subst e
     exact Rep.mono hv _ so
    | own ys =>
     simp only [capOf,Option.some.injEq] at e
     subst e
     obtain ⟨a,us,rfl,ha,rs,hO,_⟩:=so
     exact ⟨a,us,rfl,SqL.of (s1 _ _ ha),Reps.mono hv _ rs⟩
    | brw ys =>
     simp only [capOf,Option.some.injEq] at e
     subst e
     obtain ⟨a,us,rfl,sq,rs⟩:=so
     exact ⟨a,us,rfl,(st.keep.trans s1).seq sq,Reps.mono hv _ rs⟩
    | ownD kvs =>
     simp only [capOf,Option.some.injEq] at e
     subst e
     obtain ⟨a,rfl,ha,_⟩:=so
     exact ⟨a,rfl,.inl (s1 _ _ ha)⟩
    | mutD kvs =>
     simp only [capOf,Option.some.injEq] at e
     subst e
     obtain ⟨a,rfl,ha,_⟩:=so
     exact ⟨a,rfl,.inl (s1 _ _ ha)⟩
    | brwD kvs =>
     simp only [capOf,Option.some.injEq] at e
     subst e
     obtain ⟨a,rfl,ha⟩:=so
     exact ⟨a,rfl,Same.rd (st.keep.trans s1) ha⟩
theorem compSc2_of {osc:Scope} {N:List Str} {scope:Scope} {x y:Str} {fvs:List Str} {js:List Nat} (h:compScB2 osc N scope x y fvs js = true):CompScG osc N scope x [y] fvs js /\ scope.names.lookup x = some .local /\ scope.names.lookup y = some .local:=by
 unfold compScB2 at h
 simp only [Bool.and_eq_true,beq_iff_eq,decide_eq_true_eq] at h
 obtain ⟨⟨⟨⟨⟨⟨⟨⟨⟨h1,h2⟩,h3⟩,h4⟩,h5⟩,h6⟩,h7⟩,h8⟩,h9⟩,h10⟩:=h
 refine ⟨⟨fun y hy e => ?_,.inl ⟨h2,h1⟩,h4,h5,h6,h7,h8,h9,h10⟩,h2,h3⟩
 have:y ∈ scope.names.filter fun y => y.2 == .cell:=List.mem_filter.mpr ⟨hy,by rw [e]; rfl⟩
 rw [h1] at this
 cases this
theorem StOk.fill {K:PySem.W.Frag} {B H:Hp} {O₀ O:List Addr} {ρ:Rho} {σ:St} (st:StOk K B O₀ O H ρ σ) {i:Nat} {v:PV} {u:V} (hi:i < σ.length) (r:Rep K (hide H O) v u):StOk K B O₀ O H (ρ.set i (some (.val v))) (σ.set i (some u)):=by
 have hi':i < ρ.length:=by rw [st.len]; exact hi
 have self:(ρ.set i (some (MV.val v)))[i]? = some (some (.val v)):=List.getElem?_set_self hi'
 refine ⟨st.keep,st.here,st.sub,st.old,by rw [List.length_set,List.length_set]; exact st.len,fun j m e => ?_,fun a b xs ys ad hab e1 e2 o1 o2 e3 e4 => ?_⟩
 ·by_cases hj:i = j
  ·subst hj
   rw [self] at e
   cases e
   exact ⟨u,List.getElem?_set_self hi,r⟩
  ·rw [List.getElem?_set_ne hj] at e
   obtain ⟨w,e1,q⟩:=st.slot j m e
   exact ⟨w,by rw [List.getElem?_set_ne hj]; exact e1,q⟩
 ·have h1:i ≠ a:=fun z => by subst z; rw [self] at e1; cases e1; cases o1
  have h2:i ≠ b:=fun z => by subst z; rw [self] at e2; cases e2; cases o2
  rw [List.getElem?_set_ne h1] at e1 e3
  rw [List.getElem?_set_ne h2] at e2 e4
  exact st.apart a b xs ys ad hab e1 e2 o1 o2 e3 e4
theorem src_pairs {vs xs:List PV} (h:srcOf sk2 vs = some xs):∀ x ∈ xs,∃ a b,x = .tup [a,b]:=by
 have h:srcOf .zip vs = some xs:=h
 match vs,h with
 | [.tup ys,.tup zs],h =>
  simp only [srcOf] at h
  split at h
  ·cases h
   intro x hx
   obtain ⟨i,hi⟩:=List.mem_iff_getElem?.mp hx
   obtain ⟨a,b,_,_,e⟩:=zip_at hi
   exact ⟨a,b,e⟩
  ·cases h
noncomputable def g2 (K:PySem.W.Frag):TG:=gTup K 2 (gCons (gName 0) (gCons (gName 1) gNil))
theorem s_comp2 {ms:List ME} {js:List Nat} {cond elt:ME} {e it tg:Expr} {x y:Str} {ifs:List Expr} {scope:Scope} {pos:Pos} (g:Gf X T k cal) (hsc:compScB2 X.env.scope X.N scope x y (fvsOf X.N js) js = true)
  (hg:∀ s₁ H₁ C fp,PG (X.blk x ([y] ++ fvsOf X.N js) scope s₁ H₁ C fp) tg (g2 X.K)) (hw:PI X tg it (tW X.K cal sk2 ms)) (hns:notSet it = true)
  (hc:∀ s₁ H₁ C fp,PF (X.blk x ([y] ++ fvsOf X.N js) scope s₁ H₁ C fp) ifs (tT X.K cal cond)) (he:∀ s₁ H₁ C fp,PE (X.blk x ([y] ++ fvsOf X.N js) scope s₁ H₁ C fp) e (tE X.K cal elt)) (hb:isBor elt = false) :
  PE X (.ListComp e [⟨tg,it,ifs,0⟩] scope pos) (tF X.K cal (.comp2 ms js cond elt)):=by
 refine (pe_compG (compSc2_of hsc).1 g.calm hg hw hc he (by intro v; cases it <;> first | rfl | (simp [notSet] at hns))).imp fun σ H Q q => ?_
 exact comp_go2 hb q
where
 comp_go2 {ms:List ME} {js:List Nat} {cond elt:ME} {K:PySem.W.Frag} {σ:St} {H:Hp} {Q:VK} (hb:isBor elt = false) (q:tF K cal (.comp2 ms js cond elt) σ H Q):tCompG (tW K cal sk2 ms) (g2 K) 1 js (tT K cal cond) (tE K cal elt) σ H Q:=by
  obtain ⟨B,O₀,O,ρ,ws,st,e1,q⟩:=q
  rw [ev] at e1
  simp only [Option.bind_eq_some_iff] at e1
  obtain ⟨vs,e1,xs,e2,e3⟩:=e1
  split at e3
  ·rename_i hlen
   simp only [Option.map_eq_some_iff,PV.lst.injEq,exists_eq_right] at e3
   refine ⟨B,O₀,O,ρ,vs,xs,st,e1,e2,fun J H1 s1 it D hD => ?_⟩
   have hDO:D ∉ O:=fun z => here_mono s1 st.here D z hD
   have it1:=it.weak (guard_le (st.keep.trans s1))
   refine ⟨fun i m σ' H' => m = xs.length - i /\ i <= xs.length /\ Same H1 H' /\ (∀ z z',(σ'.set 0 z).set 1 z' = z :: z' :: js.map fun j => (σ[j]?).join) /\ 1 < σ'.length /\ ∃ done rest ys,compGo (fun x => (ev cal cond (blk2 js ρ x)).bind boolOf?) (fun x => ev cal elt (blk2 js ρ x)) (xs.drop i) = some rest /\ ws = done ++ rest /\ done.length <= i /\ H' D = some (.lst ys) /\ Reps K (hide H' (D :: O)) done ys,⟨xs.length,by simp,Nat.zero_le _,same_new hD _,fun _ _ => rfl,by simp [blkG],[],ws,[],by simpa using e3,rfl,Nat.le_refl _,upd_same,.nil⟩,?_⟩
   rintro i m σ' H' ⟨rfl,hi,s2,hσ,hl,done,rest,ys,eg,ew,hdl,hDy,rs⟩
   by_cases hlt:i < xs.length
   ·right
    have ex:xs[i]? = some xs[i]:=List.getElem?_eq_getElem hlt
    refine ⟨it1.go i _ H' s2 ex,fun σ2 H2 => ∃ m',m' < xs.length - i /\ (m' = xs.length - (i + 1) /\ i + 1 <= xs.length /\ Same H1 H2 /\ (∀ z z',(σ2.set 0 z).set 1 z' = z :: z' :: js.map fun j => (σ[j]?).join) /\ 1 < σ2.length /\ ∃ done rest ys,compGo (fun x => (ev cal cond (blk2 js ρ x)).bind boolOf?) (fun x => ev cal elt (blk2 js ρ x)) (xs.drop (i + 1)) = some rest /\ ws = done ++ rest /\ done.length <= i + 1 /\ H2 D = some (.lst ys) /\ Reps K (hide H2 (D :: O)) done ys),fun σ2 H2 z => z,fun ux H2 y => ?_⟩
    obtain ⟨s3,hr⟩:=it1.yld i _ H' ux H2 s2 ex y
    have sv:Same (hide H1 O) (hide H2 (D :: O)):=hide_mono (s2.trans s3) fun b hb => by
     rcases List.mem_cons.mp hb with rfl | hb
     ·exact .inr hD
     ·exact .inl hb
    have hx:=hr (D :: O) (fun a ha => by
     rcases List.mem_cons.mp ha with rfl | ha
     ·rw [hDy]; simp
     ·exact fun z => here_mono s1 st.here a ha (s2.free z)) sv
    have hD2:H2 D = some (.lst ys):=s3 _ _ hDy
    obtain ⟨p,w,exi⟩:=src_pairs e2 _ (List.mem_of_getElem? ex)
    rw [exi,Rep] at hx
    obtain ⟨ta,tus,rfl,tt1,tt2⟩:=hx
    rw [Reps] at tt2
    obtain ⟨up,r1,rfl,rp,tt2⟩:=tt2
    rw [Reps] at tt2
    obtain ⟨uw,r2,rfl,rw2,tt2⟩:=tt2
    rw [Reps] at tt2
    subst tt2
    have hσ0:∀ z,(σ'.set 1 none).set 0 z = (blk0 (σ.length :: js) σ).set 0 z:=fun z => by
     rw [List.set_comm _ _ (by decide),hσ]
     show _ = z :: (σ[σ.length]?).join :: _
     rw [List.getElem?_eq_none (Nat.le_refl _)]
     rfl
    have stb0:=blk_st (js:=σ.length :: js) (ρ:=ρ) (σ':=σ'.set 1 none) st s1 (s2.trans s3) hD (by rw [hD2]; simp) hσ0 (by rw [List.length_set]; omega) rp
    have stb1:=stb0.fill (i:=1) (by rw [List.length_set,List.length_set]; exact hl) rw2
    rw [List.set_comm (i:=1) (j:=0) _ _ (by decide),List.set_set] at stb1
    have stb:StOk K H1 [] (D :: O) H2 (blk2 js ρ xs[i]) ((σ'.set 0 (some up)).set 1 (some uw)):=by rw [exi]; exact stb1
    refine ⟨ta,[up,uw],rfl,(hide_le _ _).seqT (sqT_of tt1),rfl,up,[uw],rfl,?_⟩
    show gCons (gName 1) gNil [uw] (σ'.set 0 (some up)) H2 _
    refine ⟨uw,[],rfl,?_⟩
    unfold gName gNil
    refine ⟨rfl,?_⟩
    rw [List.drop_eq_getElem_cons hlt,compGo] at eg
    simp only [Option.bind_eq_some_iff] at eg
    obtain ⟨b,eb,eg⟩:=eg
    refine ⟨H1,[],D :: O,_,b,stb,by simpa [evB,Option.bind_eq_some_iff] using eb,fun H3 s4 => ?_⟩
    have hσ2:∀ z z',(((σ'.set 0 (some up)).set 1 (some uw)).set 0 z).set 1 z' = z :: z' :: js.map fun j => (σ[j]?).join:=fun z z' => by
     rw [List.set_comm (i:=1) (j:=0) _ _ (by decide),List.set_set,List.set_set]
     exact hσ z z'
    have hl2:1 < ((σ'.set 0 (some up)).set 1 (some uw)).length:=by rw [List.length_set,List.length_set]; exact hl
    cases b with
    | false =>
     rw [if_neg (by simp)] at eg
     dsimp only
     rw [if_neg (by simp)]
     refine ⟨_,by omega,rfl,hlt,(s2.trans s3).trans s4,hσ2,hl2,done,rest,ys,eg,ew,by omega,s4 _ _ hD2,Reps.mono ?_ _ rs⟩
     exact (hide_same s3).trans (hide_same s4)
    | true =>
     rw [if_pos rfl] at eg
     dsimp only
     rw [if_pos rfl]
     simp only [Option.bind_eq_some_iff,Option.map_eq_some_iff] at eg
     obtain ⟨y',ey,rest',eg,rfl⟩:=eg
     refine ⟨H1,[],D :: O,_,y',stb.mono s4,ey,fun uy H4 s5 gy => ?_⟩
     have hD4:H4 D = some (.lst ys):=s5 _ _ (s4 _ _ hD2)
     have ry:=gy.2 hb
     have rs4:Reps K (hide H4 (D :: O)) done ys:=Reps.mono (((hide_same s3).trans (hide_same s4)).trans (hide_same s5)) _ rs
     have hyl:ys.length <= 10000:=by rw [<- rs.length]; omega
     refine ⟨ys,hD4,Nat.lt_of_le_of_lt hyl (by decide),_,by omega,rfl,hlt,?_,hσ2,hl2,done ++ [y'],rest',ys ++ [uy],eg,by simp [ew],by simp; omega,upd_same,?_⟩
     ·intro b u eb
      rw [upd_ne (ne_of_none eb hD)]
      exact s5 _ _ (s4 _ _ ((s2.trans s3) _ _ eb))
     ·rw [hide_upd (List.mem_cons_self)]
      exact rs4.snoc ry
   ·left
    have ei:i = xs.length:=by omega
    subst ei
    rw [List.drop_length,compGo] at eg
    cases eg
    rw [List.append_nil] at ew
    subst ew
    exact ⟨it1.stop H' s2,q D ys H' (s1.trans s2) (s1.free hD) hDy rs⟩
  ·cases e3
theorem s_comp {k':Sk} {ms:List ME} {js:List Nat} {cond elt:ME} {e it:Expr} {x:Str} {px:Pos} {ifs:List Expr} {scope:Scope} {pos:Pos} (g:Gf X T k cal) (hsc:compScB X.env.scope X.N scope x (fvsOf X.N js) js = true)
  (hw:PI X (.Name x px) it (tW X.K cal k' ms)) (hns:notSet it = true)
  (hc:∀ s₁ H₁ C fp,PF (X.blk x (fvsOf X.N js) scope s₁ H₁ C fp) ifs (tT X.K cal cond)) (he:∀ s₁ H₁ C fp,PE (X.blk x (fvsOf X.N js) scope s₁ H₁ C fp) e (tE X.K cal elt)) (hb:isBor elt = false) :
  PE X (.ListComp e [⟨.Name x px,it,ifs,0⟩] scope pos) (tF X.K cal (.comp k' ms js cond elt)):=by
 refine (pe_comp (compSc_of hsc) g.calm hw hc he (by intro v; cases it <;> first | rfl | (simp [notSet] at hns))).imp fun σ H Q q => ?_
 exact comp_go hb q
where
 comp_go {k':Sk} {ms:List ME} {js:List Nat} {cond elt:ME} {K:PySem.W.Frag} {σ:St} {H:Hp} {Q:VK} (hb:isBor elt = false) (q:tF K cal (.comp k' ms js cond elt) σ H Q):tComp (tW K cal k' ms) js (tT K cal cond) (tE K cal elt) σ H Q:=by
  obtain ⟨B,O₀,O,ρ,ws,st,e1,q⟩:=q
  rw [ev] at e1
  simp only [Option.bind_eq_some_iff] at e1
  obtain ⟨vs,e1,xs,e2,e3⟩:=e1
  split at e3
  ·rename_i hlen
   simp only [Option.map_eq_some_iff,PV.lst.injEq,exists_eq_right] at e3
   refine ⟨B,O₀,O,ρ,vs,xs,st,e1,e2,fun J H1 s1 it D hD => ?_⟩
   have hDO:D ∉ O:=fun z => here_mono s1 st.here D z hD
   have it1:=it.weak (guard_le (st.keep.trans s1))
   refine ⟨fun i m σ' H' => m = xs.length - i /\ i <= xs.length /\ Same H1 H' /\ (∀ z,σ'.set 0 z = (blk0 js σ).set 0 z) /\ 0 < σ'.length /\ ∃ done rest ys,compGo (fun x => (ev cal cond (blkR js ρ x)).bind boolOf?) (fun x => ev cal elt (blkR js ρ x)) (xs.drop i) = some rest /\ ws = done ++ rest /\ done.length <= i /\ H' D = some (.lst ys) /\ Reps K (hide H' (D :: O)) done ys,⟨xs.length,by simp,Nat.zero_le _,same_new hD _,fun _ => rfl,by simp [blk0],[],ws,[],by simpa using e3,rfl,Nat.le_refl _,upd_same,.nil⟩,?_⟩
   rintro i m σ' H' ⟨rfl,hi,s2,hσ,hl,done,rest,ys,eg,ew,hdl,hDy,rs⟩
   by_cases hlt:i < xs.length
   ·right
    have ex:xs[i]? = some xs[i]:=List.getElem?_eq_getElem hlt
    refine ⟨it1.go i _ H' s2 ex,fun σ2 H2 => ∃ m',m' < xs.length - i /\ (m' = xs.length - (i + 1) /\ i + 1 <= xs.length /\ Same H1 H2 /\ (∀ z,σ2.set 0 z = (blk0 js σ).set 0 z) /\ 0 < σ2.length /\ ∃ done rest ys,compGo (fun x => (ev cal cond (blkR js ρ x)).bind boolOf?) (fun x => ev cal elt (blkR js ρ x)) (xs.drop (i + 1)) = some rest /\ ws = done ++ rest /\ done.length <= i + 1 /\ H2 D = some (.lst ys) /\ Reps K (hide H2 (D :: O)) done ys),fun σ2 H2 z => z,fun ux H2 y => ?_⟩
    obtain ⟨s3,hr⟩:=it1.yld i _ H' ux H2 s2 ex y
    have sv:Same (hide H1 O) (hide H2 (D :: O)):=hide_mono (s2.trans s3) fun b hb => by
     rcases List.mem_cons.mp hb with rfl | hb
     ·exact .inr hD
     ·exact .inl hb
    have hx:=hr (D :: O) (fun a ha => by
     rcases List.mem_cons.mp ha with rfl | ha
     ·rw [hDy]; simp
     ·exact fun z => here_mono s1 st.here a ha (s2.free z)) sv
    have hD2:H2 D = some (.lst ys):=s3 _ _ hDy
    have stb:=blk_st (js:=js) (ρ:=ρ) st s1 (s2.trans s3) hD (by rw [hD2]; simp) hσ hl hx
    rw [List.drop_eq_getElem_cons hlt,compGo] at eg
    simp only [Option.bind_eq_some_iff] at eg
    obtain ⟨b,eb,eg⟩:=eg
    refine ⟨H1,[],D :: O,_,b,stb,by simpa [evB,Option.bind_eq_some_iff] using eb,fun H3 s4 => ?_⟩
    have hσ2:∀ z,(σ'.set 0 (some ux)).set 0 z = (blk0 js σ).set 0 z:=fun z => by rw [List.set_set]; exact hσ z
    have hl2:0 < (σ'.set 0 (some ux)).length:=by rw [List.length_set]; exact hl
    cases b with
    | false =>
     rw [if_neg (by simp)] at eg
     dsimp only
     rw [if_neg (by simp)]
     refine ⟨_,by omega,rfl,hlt,(s2.trans s3).trans s4,hσ2,hl2,done,rest,ys,eg,ew,by omega,s4 _ _ hD2,Reps.mono ?_ _ rs⟩
     exact (hide_same s3).trans (hide_same s4)
    | true =>
     rw [if_pos rfl] at eg
     dsimp only
     rw [if_pos rfl]
     simp only [Option.bind_eq_some_iff,Option.map_eq_some_iff] at eg
     obtain ⟨y',ey,rest',eg,rfl⟩:=eg
     refine ⟨H1,[],D :: O,_,y',stb.mono s4,ey,fun uy H4 s5 gy => ?_⟩
     have hD4:H4 D = some (.lst ys):=s5 _ _ (s4 _ _ hD2)
     have ry:=gy.2 hb
     have rs4:Reps K (hide H4 (D :: O)) done ys:=Reps.mono (((hide_same s3).trans (hide_same s4)).trans (hide_same s5)) _ rs
     have hyl:ys.length <= 10000:=by rw [<- rs.length]; omega
     refine ⟨ys,hD4,Nat.lt_of_le_of_lt hyl (by decide),_,by omega,rfl,hlt,?_,hσ2,hl2,done ++ [y'],rest',ys ++ [uy],eg,by simp [ew],by simp; omega,upd_same,?_⟩
     ·intro b u eb
      rw [upd_ne (ne_of_none eb hD)]
      exact s5 _ _ (s4 _ _ ((s2.trans s3) _ _ eb))
     ·rw [hide_upd (List.mem_cons_self)]
      exact rs4.snoc ry
   ·left
    have ei:i = xs.length:=by omega
    subst ei
    rw [List.drop_length,compGo] at eg
    cases eg
    rw [List.append_nil] at ew
    subst ew
    exact ⟨it1.stop H' s2,q D ys H' (s1.trans s2) (s1.free hD) hDy rs⟩
  ·cases e3
end
end MM
namespace MM
open PySem PySem.Spec PyProof.Rows L2
section
variable {X:Cx} {T:Tab} {k:Nat} {cal:Cal}
theorem star1 {e:Expr} (he:notStar e = true) (es:List Expr) (env:Env):starEach (e :: es) env = (false,eval e env) :: starEach es env:=by
 cases e <;> first | rfl | (simp [notStar] at he)
theorem backTo_any {pos:Pos} {env:Env}:∀ {es:List Expr},es.all notStar = true -> (backTo pos (starEach es env)).any (·.1) = false
 | [],_ => rfl
 | e :: es,h => by
  simp only [List.all_cons,Bool.and_eq_true] at h
  rw [star1 h.1]
  show (false || (backTo pos (starEach es env)).any (·.1)) = false
  rw [backTo_any h.2]; rfl
theorem chks_star:∀ {ms:List ME} {N:List Str} {sc:Scope} {es:List Expr},chks T ms N sc es = true -> es.all notStar = true /\ ms.length = es.length
 | [],_,_,[],_ => ⟨rfl,rfl⟩
 | [],_,_,_ :: _,h => by simp [chks] at h
 | _ :: _,_,_,[],h => by simp [chks] at h
 | m :: ms,N,sc,e :: es,h => by
  simp only [chks,Bool.and_eq_true] at h
  obtain ⟨h1,h2⟩:=chks_star h.2
  exact ⟨by simp [h.1.2,h1],by simp [h2]⟩
theorem test_val {e:Expr} {me:ME} (h:PE X e (tE X.K cal me)) (hp:plainTest e = true):PT X e (tT X.K cal me):=by
 refine (pt_val h (by intro w; cases e <;> first | rfl | (simp [plainTest] at hp; done) | (rename_i op _ _; cases op <;> first | rfl | (simp [plainTest] at hp)))).imp fun σ H Q q => ?_
 obtain ⟨B,O₀,O,ρ,b,st,e1,q⟩:=q
 simp only [evB,Option.bind_eq_some_iff] at e1
 obtain ⟨v,e1,e2⟩:=e1
 refine ⟨B,O₀,O,ρ,v,st,e1,fun u H' s g => ?_⟩
 cases v <;> simp [boolOf?] at e2
 subst e2
 exact ⟨_,g.1.bl,q H' s⟩
theorem arg_cons {m:ME} {ms:List ME} {e:Expr} {es:List Expr} (h:PE X e (tE X.K cal m)) (hs:PA X es (tEs X.K cal ms)) (hn:notStar e = true):PA X (e :: es) (tEs X.K cal (m :: ms)):=by
 refine (pa_cons h hs (star1 hn es _)).imp fun σ H Q q => ?_
 obtain ⟨B,O₀,O,ρ,vs,st,e1,q⟩:=q
 simp only [evs,Option.bind_eq_some_iff,Option.map_eq_some_iff] at e1
 obtain ⟨v,e1,ws,e2,rfl⟩:=e1
 refine ⟨B,O₀,O,ρ,v,st,e1,fun u H1 s1 g1 => ⟨B,O₀,O,ρ,ws,st.mono s1,e2,fun us H2 s2 g2 => q (u :: us) H2 (s1.trans s2) ⟨.cons (g1.1.mono s2) g2.1,fun hb => ?_⟩⟩⟩
 simp only [List.all_cons,Bool.and_eq_true,Bool.not_eq_true'] at hb
 exact .cons ((g1.mono s2).2 hb.1) (g2.2 hb.2)
theorem arg_nil:PA X [] (tEs X.K cal []):=by
 refine pa_nil.imp fun σ H Q q => ?_
 obtain ⟨B,O₀,O,ρ,vs,st,e1,q⟩:=q
 simp only [evs,Option.some.injEq] at e1
 subst e1
 exact q [] H (Same.refl H) ⟨.nil,fun _ => .nil⟩
theorem call_nil:PA X [] (tAs X.K cal []):=by
 refine pa_nil.imp fun σ H Q q => ?_
 obtain ⟨B,O₀,O,ρ,vs,st,e1,q⟩:=q
 simp only [evA,Option.some.injEq] at e1
 subst e1
 exact q [] H (Same.refl H) .nil
theorem arg_mono {K:PySem.W.Frag} {H H':Hp} {O:List Addr} (s:Same H H') {m:MV} {u:V} (h:ArgOk K O H m u):ArgOk K O H' m u:=by
 cases m with
 | val v => exact Rep.mono (hide_same s) _ h
 | own _ => exact h
 | brw xs => obtain ⟨a,us,e,q,r⟩:=h; exact ⟨a,us,e,s.seq q,Reps.mono (hide_same s) _ r⟩
 | ownD _ => exact h
 | mutD d => exact h
 | brwD kvs => obtain ⟨a,e,q⟩:=h; exact ⟨a,e,Same.rd s q⟩
theorem call_cons {m:ME} {ms:List ME} {e:Expr} {es:List Expr} (hb:isBor m = false) (h:PE X e (tE X.K cal m)) (hs:PA X es (tAs X.K cal ms)) (hn:notStar e = true):PA X (e :: es) (tAs X.K cal (m :: ms)):=by
 refine (pa_cons h hs (star1 hn es _)).imp fun σ H Q q => ?_
 obtain ⟨B,O₀,O,ρ,vs,st,e1,q⟩:=q
 have e1':(ev cal m ρ).bind (fun v => (evA cal ms ρ).map (MV.val v :: ·)) = some vs:=by
  rw [<- e1]
  cases m <;> first | (cases hb; done) | (simp only [evA]; done) | rfl
 simp only [Option.bind_eq_some_iff,Option.map_eq_some_iff] at e1'
 obtain ⟨v,e9,ws,e2,rfl⟩:=e1'
 exact ⟨B,O₀,O,ρ,v,st,e9,fun u H1 s1 g1 => ⟨B,O₀,O,ρ,ws,st.mono s1,e2,fun us H2 s2 g2 => q (u :: us) H2 (s1.trans s2) (.cons ((g1.mono s2).2 hb) g2)⟩⟩
theorem call_bor {i:Nat} {ms:List ME} {x:Str} {pos:Pos} {es:List Expr} (h:nameAt X.N X.env.scope i x = true) (hs:PA X es (tAs X.K cal ms)):PA X (.Name x pos :: es) (tAs X.K cal (.bor i :: ms)):=by
 refine (pa_cons (name_at h) hs rfl).imp fun σ H Q q => ?_
 obtain ⟨B,O₀,O,ρ,vs,st,e1,q⟩:=q
 rw [evA] at e1
 simp only [Option.bind_eq_some_iff,Option.map_eq_some_iff] at e1
 obtain ⟨m',e1,ws,e2,rfl⟩:=e1
 cases hj:(ρ[i]?).join with
 | none => rw [hj] at e1; cases e1
 | some m =>
  rw [hj] at e1
  obtain ⟨u,eu,so⟩:=slot_of st hj
  have ao:ArgOk X.K O H m' u:=by
   cases m with
   | val w => simp only [argOf,Option.some.injEq] at e1; subst e1; exact so
   | own ys => simp only [argOf,Option.some.injEq] at e1; subst e1; obtain ⟨a,us,rfl,ha,rs,_⟩:=so; exact ⟨a,us,rfl,SqL.of ha,rs⟩
   | brw ys => simp only [argOf,Option.some.injEq] at e1; subst e1; obtain ⟨a,us,rfl,sq,rs⟩:=so; exact ⟨a,us,rfl,st.keep.seq sq,rs⟩
   | ownD kvs => simp only [argOf,Option.some.injEq] at e1; subst e1; obtain ⟨a,rfl,ha,_⟩:=so; exact ⟨a,rfl,.inl ha⟩
   | mutD kvs => simp only [argOf,Option.some.injEq] at e1; subst e1; obtain ⟨a,rfl,ha,_⟩:=so; exact ⟨a,rfl,.inl ha⟩
   | brwD kvs => simp only [argOf,Option.some.injEq] at e1; subst e1; obtain ⟨a,rfl,ha⟩:=so; exact ⟨a,rfl,Same.rd st.keep ha⟩
  exact ⟨u,eu,⟨B,O₀,O,ρ,ws,st,e2,fun us H2 s2 g2 => q (u :: us) H2 s2 (.cons (arg_mono s2 ao) g2)⟩⟩
theorem s_bin {op:Op2} {a b:ME} {l r:Expr} {pos:Pos} (ha:PE X l (tE X.K cal a)) (hb:PE X r (tE X.K cal b)):PE X (.BinOp l (opOf op) r pos) (tE X.K cal (.bin op a b)):=by
 refine (pe_op (op_bin op) ha hb).imp fun σ H Q q => ?_
 obtain ⟨B,O₀,O,ρ,v,st,e1,q⟩:=q
 rw [ev] at e1
 simp only [Option.bind_eq_some_iff] at e1
 obtain ⟨x,e1,y,e2,e3⟩:=e1
 exact ⟨B,O₀,O,ρ,x,st,e1,fun ux H1 s1 g1 => ⟨B,O₀,O,ρ,y,st.mono s1,e2,fun uy H2 s2 g2 => ⟨O,x,y,v,here_mono (s1.trans s2) st.here,g1.1.mono s2,g2.1,e3,fun u H3 s3 r => q u H3 ((s1.trans s2).trans s3) (.of r)⟩⟩⟩
theorem s_cat {a b:ME} {l r:Expr} {pos:Pos} (ha:PE X l (tE X.K cal a)) (hb:PE X r (tE X.K cal b)):PE X (.BinOp l .Add r pos) (tF X.K cal (.bin .add a b)):=by
 refine (pe_op op_catS ha hb).imp fun σ H Q q => ?_
 obtain ⟨B,O₀,O,ρ,xs,st,e1,q⟩:=q
 rw [ev] at e1
 simp only [Option.bind_eq_some_iff] at e1
 obtain ⟨x,e1,y,e2,e3⟩:=e1
 have hl:∃ x' y',x = .lst x' /\ y = .lst y' /\ x'.length + y'.length <= 10000 /\ xs = x' ++ y':=by
  cases x <;> try (cases e3; done)
  all_goals (cases y <;> simp only [binOp,addOp] at e3 <;> try (cases e3; done))
  all_goals (split at e3 <;> try (cases e3; done))
  rename_i c
  cases e3
  exact ⟨_,_,rfl,rfl,c,rfl⟩
 obtain ⟨x',y',rfl,rfl,hc,rfl⟩:=hl
 refine ⟨B,O₀,O,ρ,_,st,e1,fun ux H1 s1 g1 => ⟨B,O₀,O,ρ,_,st.mono s1,e2,fun uy H2 s2 g2 => ?_⟩⟩
 obtain ⟨a',us,rfl,q1,t1⟩:=(g1.1.mono s2).lst
 obtain ⟨b',ws,rfl,q2,t2⟩:=g2.1.lst
 have l1:=t1.length
 have l2:=t2.length
 refine ⟨a',b',us,ws,rfl,rfl,q1,q2,size10000 (by omega),fun p hp => q p _ _ ((s1.trans s2).trans (same_new hp _)) ((s1.trans s2).free hp) upd_same ?_⟩
 rw [hide_upd (List.mem_cons_self)]
 refine Reps.mono (hide_mono (Same.refl H2) fun b hb => ?_) _ (t1.append t2)
 rcases List.mem_cons.mp hb with rfl | hb
 ·exact .inr hp
 ·exact .inl hb
theorem s_not {a:ME} {e:Expr} {pos:Pos} (ha:PE X e (tE X.K cal a)):PE X (.UnaryOp .Not e pos) (tE X.K cal (.not a)):=by
 refine (pe_not ha).imp fun σ H Q q => ?_
 obtain ⟨B,O₀,O,ρ,v,st,e1,q⟩:=q
 rw [ev] at e1
 simp only [Option.bind_eq_some_iff,Option.map_eq_some_iff] at e1
 obtain ⟨b,⟨x,e1,e2⟩,rfl⟩:=e1
 cases x <;> simp only [boolOf?,Option.some.injEq,reduceCtorEq] at e2
 subst e2
 exact ⟨B,O₀,O,ρ,_,st,e1,fun ux H1 s1 g1 => ⟨_,g1.1.bl,q _ H1 s1 (.of (rep_bl _ _))⟩⟩
theorem t_not {a:ME} {e:Expr} {pos:Pos} (ha:PT X e (tT X.K cal a)):PT X (.UnaryOp .Not e pos) (tT X.K cal (.not a)):=by
 refine (pt_not ha).imp fun σ H Q q => ?_
 obtain ⟨B,O₀,O,ρ,b,st,e1,q⟩:=q
 simp only [evB,ev,Option.bind_eq_some_iff,Option.map_eq_some_iff] at e1
 obtain ⟨v,⟨c,⟨x,e1,e2⟩,rfl⟩,e3⟩:=e1
 simp only [boolOf?,Option.some.injEq] at e3
 subst e3
 exact ⟨B,O₀,O,ρ,c,st,by simp [evB,e1,e2],fun H' s => q H' s⟩
theorem s_and {a b:ME} {x y:Expr} {r:List Expr} {pos:Pos} (ha:PE X x (tE X.K cal a)) (hb:PE X (.BoolOp .And (y :: r) pos) (tE X.K cal b)):PE X (.BoolOp .And (x :: y :: r) pos) (tE X.K cal (.and a b)):=by
 refine (pe_and ha hb).imp fun σ H Q q => ?_
 obtain ⟨B,O₀,O,ρ,v,st,e1,q⟩:=q
 rw [ev] at e1
 simp only [Option.bind_eq_some_iff] at e1
 obtain ⟨c,⟨z,e1,e2⟩,e3⟩:=e1
 cases z <;> simp only [boolOf?,Option.some.injEq,reduceCtorEq] at e2
 subst e2
 refine ⟨B,O₀,O,ρ,_,st,e1,fun ux H1 s1 g1 => ⟨_,g1.1.bl,?_⟩⟩
 split at e3
 ·rename_i h
  rw [if_pos h]
  simp only [Option.bind_eq_some_iff,Option.map_eq_some_iff] at e3
  obtain ⟨z',e3,c',e4,rfl⟩:=e3
  cases z' <;> simp only [boolOf?,Option.some.injEq,reduceCtorEq] at e4
  subst e4
  exact ⟨B,O₀,O,ρ,_,st.mono s1,e3,fun u H2 s2 g2 => q u H2 (s1.trans s2) (by rw [g2.1.bl]; exact .of (rep_bl _ _))⟩
 ·rename_i h
  rw [if_neg h]
  cases e3
  exact q _ H1 s1 (.of (rep_bl _ _))
theorem s_or {a b:ME} {x y:Expr} {r:List Expr} {pos:Pos} (ha:PE X x (tE X.K cal a)) (hb:PE X (.BoolOp .Or (y :: r) pos) (tE X.K cal b)):PE X (.BoolOp .Or (x :: y :: r) pos) (tE X.K cal (.or a b)):=by
 refine (pe_or ha hb).imp fun σ H Q q => ?_
 obtain ⟨B,O₀,O,ρ,v,st,e1,q⟩:=q
 rw [ev] at e1
 simp only [Option.bind_eq_some_iff] at e1
 obtain ⟨c,⟨z,e1,e2⟩,e3⟩:=e1
 cases z <;> simp only [boolOf?,Option.some.injEq,reduceCtorEq] at e2
 subst e2
 refine ⟨B,O₀,O,ρ,_,st,e1,fun ux H1 s1 g1 => ⟨_,g1.1.bl,?_⟩⟩
 split at e3
 ·rename_i h
  rw [if_pos h]
  cases e3
  exact q _ H1 s1 (.of (rep_bl _ _))
 ·rename_i h
  rw [if_neg h]
  simp only [Option.bind_eq_some_iff,Option.map_eq_some_iff] at e3
  obtain ⟨z',e3,c',e4,rfl⟩:=e3
  cases z' <;> simp only [boolOf?,Option.some.injEq,reduceCtorEq] at e4
  subst e4
  exact ⟨B,O₀,O,ρ,_,st.mono s1,e3,fun u H2 s2 g2 => q u H2 (s1.trans s2) (by rw [g2.1.bl]; exact .of (rep_bl _ _))⟩
theorem pw_of {op:BoolOp} {vs:List Expr} {pos:Pos} {t:TT} (h:PT X (.BoolOp op vs pos) t):PW X (.BoolOp op vs pos) t:=fun w pins s σ H Q I q => by
 have:=h pins s σ H Q I q
 rw [show PySem.isTrue (.BoolOp op vs pos) X.env w = PySem.isTrue (.BoolOp op vs pos) X.env (eval (.BoolOp op vs pos) X.env) from rfl]
 exact this
theorem t_and {a b:ME} {x y:Expr} {r:List Expr} {pos:Pos} (ha:PT X x (tT X.K cal a)) (hb:PW X (.BoolOp .And (y :: r) pos) (tT X.K cal b)):PT X (.BoolOp .And (x :: y :: r) pos) (tT X.K cal (.and a b)):=by
 refine (pw_and ha hb).pt.imp fun σ H Q q => ?_
 obtain ⟨B,O₀,O,ρ,v,st,e1,q⟩:=q
 simp only [evB,ev,Option.bind_eq_some_iff] at e1
 obtain ⟨w,⟨c,⟨z,e1,e2⟩,e3⟩,e4⟩:=e1
 refine ⟨B,O₀,O,ρ,c,st,by simp [evB,e1,e2],fun H1 s1 => ?_⟩
 split at e3
 ·rename_i h
  rw [if_pos h]
  simp only [Option.bind_eq_some_iff,Option.map_eq_some_iff] at e3
  obtain ⟨z',e3,c',e5,rfl⟩:=e3
  simp only [boolOf?,Option.some.injEq] at e4
  subst e4
  exact ⟨B,O₀,O,ρ,_,st.mono s1,by simp [evB,e3,e5],fun H2 s2 => q H2 (s1.trans s2)⟩
 ·rename_i h
  rw [if_neg h]
  cases e3
  cases e4
  exact q H1 s1
theorem t_or {a b:ME} {x y:Expr} {r:List Expr} {pos:Pos} (ha:PT X x (tT X.K cal a)) (hb:PW X (.BoolOp .Or (y :: r) pos) (tT X.K cal b)):PT X (.BoolOp .Or (x :: y :: r) pos) (tT X.K cal (.or a b)):=by
 refine (pw_or ha hb).pt.imp fun σ H Q q => ?_
 obtain ⟨B,O₀,O,ρ,v,st,e1,q⟩:=q
 simp only [evB,ev,Option.bind_eq_some_iff] at e1
 obtain ⟨w,⟨c,⟨z,e1,e2⟩,e3⟩,e4⟩:=e1
 refine ⟨B,O₀,O,ρ,c,st,by simp [evB,e1,e2],fun H1 s1 => ?_⟩
 split at e3
 ·rename_i h
  rw [if_pos h]
  cases e3
  cases e4
  exact q H1 s1
 ·rename_i h
  rw [if_neg h]
  simp only [Option.bind_eq_some_iff,Option.map_eq_some_iff] at e3
  obtain ⟨z',e3,c',e5,rfl⟩:=e3
  simp only [boolOf?,Option.some.injEq] at e4
  subst e4
  exact ⟨B,O₀,O,ρ,_,st.mono s1,by simp [evB,e3,e5],fun H2 s2 => q H2 (s1.trans s2)⟩
theorem s_ite {c a b:ME} {t x y:Expr} {pos:Pos} (hc:PT X t (tT X.K cal c)) (ha:PE X x (tE X.K cal a)) (hb:PE X y (tE X.K cal b)) (na:isBor a = false) (nb:isBor b = false):PE X (.IfExp t x y pos) (tE X.K cal (.ite c a b)):=by
 refine (pe_ifExp hc ha hb).imp fun σ H Q q => ?_
 obtain ⟨B,O₀,O,ρ,v,st,e1,q⟩:=q
 rw [ev] at e1
 simp only [Option.bind_eq_some_iff] at e1
 obtain ⟨k',e1,e3⟩:=e1
 refine ⟨B,O₀,O,ρ,k',st,by simpa [evB,Option.bind_eq_some_iff] using e1,fun H1 s1 => ?_⟩
 split at e3
 ·rename_i h
  rw [if_pos h]
  exact ⟨B,O₀,O,ρ,v,st.mono s1,e3,fun u H2 s2 g2 => q u H2 (s1.trans s2) (.of (g2.2 na))⟩
 ·rename_i h
  rw [if_neg h]
  exact ⟨B,O₀,O,ρ,v,st.mono s1,e3,fun u H2 s2 g2 => q u H2 (s1.trans s2) (.of (g2.2 nb))⟩
theorem t_ite {c a b:ME} {t x y:Expr} {pos:Pos} (hc:PT X t (tT X.K cal c)) (ha:PT X x (tT X.K cal a)) (hb:PT X y (tT X.K cal b)):PT X (.IfExp t x y pos) (tT X.K cal (.ite c a b)):=by
 intro pins s σ H Q I q
 obtain ⟨B,O₀,O,ρ,v,st,e1,q⟩:=q
 simp only [evB,ev,Option.bind_eq_some_iff] at e1
 obtain ⟨w,⟨k',e1,e3⟩,e4⟩:=e1
 refine isTrue_IfExp (thn (hc pins s σ H (fun b H1 => b = k' /\ Same H H1) I ⟨B,O₀,O,ρ,k',st,by simpa [evB,Option.bind_eq_some_iff] using e1,fun H1 s1 => ⟨rfl,s1⟩⟩) fun b s1 ⟨H1,I1,eb,hs⟩ => ?_)
 subst eb
 split at e3
 ·rename_i h
  subst h
  exact ha pins s1 σ H1 Q I1 ⟨B,O₀,O,ρ,v,st.mono hs,by simp [evB,e3,e4],fun H2 s2 => q H2 (hs.trans s2)⟩
 ·rename_i h
  have:b = false:=by cases b <;> simp at h ⊢
  subst this
  exact hb pins s1 σ H1 Q I1 ⟨B,O₀,O,ρ,v,st.mono hs,by simp [evB,e3,e4],fun H2 s2 => q H2 (hs.trans s2)⟩
theorem s_cmp {op:Cp} {a b:ME} {l r:Expr} {pos:Pos} (g:Gf X T k cal) (ha:PE X l (tE X.K cal a)) (hb:PE X r (tE X.K cal b)) (hm:behindInMarks (cpOf op) r = false):PE X (.Compare l [cpOf op] [r] pos) (tE X.K cal (.cmp op a b)) /\ PT X (.Compare l [cpOf op] [r] pos) (tT X.K cal (.cmp op a b)):=by
 refine ⟨(pe_cmpR (op_cmp g.units op) ha hb hm).imp fun σ H Q q => ?_,(pt_cmpR (op_cmp g.units op) ha hb hm).imp fun σ H Q q => ?_⟩
 ·obtain ⟨B,O₀,O,ρ,v,st,e1,q⟩:=q
  rw [ev] at e1
  simp only [Option.bind_eq_some_iff,Option.map_eq_some_iff] at e1
  obtain ⟨x,e1,y,e2,c,e3,rfl⟩:=e1
  exact ⟨B,O₀,O,ρ,x,st,e1,fun ux H1 s1 g1 => ⟨B,O₀,O,ρ,y,st.mono s1,e2,fun uy H2 s2 g2 => ⟨O,x,y,c,g1.1.mono s2,g2.1,e3,q _ H2 (s1.trans s2) (.of (rep_bl _ _))⟩⟩⟩
 ·obtain ⟨B,O₀,O,ρ,v,st,e1,q⟩:=q
  simp only [evB,ev,Option.bind_eq_some_iff,Option.map_eq_some_iff] at e1
  obtain ⟨w,⟨x,e1,y,e2,c,e3,rfl⟩,e4⟩:=e1
  simp only [boolOf?,Option.some.injEq] at e4
  subst e4
  exact ⟨B,O₀,O,ρ,x,st,e1,fun ux H1 s1 g1 => ⟨B,O₀,O,ρ,y,st.mono s1,e2,fun uy H2 s2 g2 => ⟨O,x,y,c,g1.1.mono s2,g2.1,e3,_,rfl,q H2 (s1.trans s2)⟩⟩⟩
theorem s_tup {ms:List ME} {es:List Expr} {j:Nat} {pos:Pos} (h:PA X es (tEs X.K cal ms)) (hb:(ms.all fun m => !isBor m) = true):PE X (.Tuple es j pos) (tE X.K cal (.tup ms)):=by
 refine (pe_tup h).imp fun σ H Q q => ?_
 obtain ⟨B,O₀,O,ρ,v,st,e1,q⟩:=q
 rw [ev] at e1
 simp only [Option.bind_eq_some_iff] at e1
 obtain ⟨vs,e1,e2⟩:=e1
 split at e2
 ·rename_i hl
  cases e2
  refine ⟨B,O₀,O,ρ,vs,st,e1,fun us H1 s1 g1 => ⟨?_,fun p hp => ?_⟩⟩
  ·rw [<- (g1.2 hb).length]; exact size10000 hl
  ·exact q _ _ (s1.trans (same_new hp _)) (.of (rep_newT (here_mono s1 st.here) hp (g1.2 hb)))
 ·cases e2
theorem s_lst {ms:List ME} {es:List Expr} {pos:Pos} (h:PA X es (tEs X.K cal ms)) (hb:(ms.all fun m => !isBor m) = true):PE X (.List es pos) (tF X.K cal (.lst ms)):=by
 refine (pe_lst h).imp fun σ H Q q => ?_
 obtain ⟨B,O₀,O,ρ,xs,st,e1,q⟩:=q
 rw [ev] at e1
 simp only [Option.bind_eq_some_iff] at e1
 obtain ⟨vs,e1,e2⟩:=e1
 split at e2
 ·rename_i hl
  cases e2
  refine ⟨B,O₀,O,ρ,xs,st,e1,fun us H1 s1 g1 => ⟨?_,fun p hp => ?_⟩⟩
  ·rw [<- (g1.2 hb).length]; exact size10000 hl
  ·refine q p us _ (s1.trans (same_new hp _)) (s1.free hp) upd_same ?_
   rw [hide_upd (List.mem_cons_self)]
   refine Reps.mono (hide_mono (Same.refl H1) fun b hb => ?_) _ (g1.2 hb)
   rcases List.mem_cons.mp hb with rfl | hb
   ·exact .inr hp
   ·exact .inl hb
 ·cases e2
theorem s_idx {a i:ME} {v s:Expr} {pos:Pos} (ha:PE X v (tE X.K cal a)) (hi:PE X s (tE X.K cal i)) (hs:notSlice s = true):PE X (.Subscript v s pos) (tE X.K cal (.idx a i)):=by
 refine (pe_ix ix_val ha hi (plainIx_of hs)).imp fun σ H Q q => ?_
 obtain ⟨B,O₀,O,ρ,v,st,e1,q⟩:=q
 rw [ev] at e1
 simp only [Option.bind_eq_some_iff] at e1
 obtain ⟨x,e1,y,e2,e3⟩:=e1
 exact ⟨B,O₀,O,ρ,x,st,e1,fun ux H1 s1 g1 => ⟨B,O₀,O,ρ,y,st.mono s1,e2,fun uy H2 s2 g2 => ⟨O,x,y,v,here_mono (s1.trans s2) st.here,g1.1.mono s2,g2.1,e3,fun u H3 s3 r => q u H3 ((s1.trans s2).trans s3) (.of r)⟩⟩⟩
noncomputable def tB1 (K:PySem.W.Frag) (cal:Cal) (me:ME):TO:=fun σ H Q => ∃ B O₀ O ρ o,StOk K B O₀ O H ρ σ /\ ((ev cal me ρ).bind fun v => bnd me v) = some o /\ ∀ H',Same H H' -> Q o H'
theorem b_none {m:ME} (h:isNonE m = true):PO X none (tB1 X.K cal m):=by
 have e:m = .cst .non:=by
  unfold isNonE at h
  split at h
  ·rfl
  ·cases h
 subst e
 intro pins s σ H Q I q
 obtain ⟨B,O₀,O,ρ,o,st,e1,q⟩:=q
 simp only [ev,Option.bind_some,bnd,Option.some.injEq] at e1
 subst e1
 exact po_none pins s σ H Q I (q H (Same.refl H))
theorem b_some {m:ME} {l:Expr} (h:PE X l (tE X.K cal m)) (hn:isNonE m = false):PO X (some l) (tB1 X.K cal m):=by
 intro pins s σ H Q I q
 obtain ⟨B,O₀,O,ρ,o,st,e1,q⟩:=q
 simp only [Option.bind_eq_some_iff] at e1
 obtain ⟨v,e1,e2⟩:=e1
 obtain ⟨i,rfl,rfl⟩:∃ i,v = .int i /\ o = some i:=by
  unfold bnd at e2
  split at e2
  ·simp [isNonE] at hn
  ·cases e2; exact ⟨_,rfl,rfl⟩
  ·cases e2
 exact po_some h pins s σ H Q I ⟨B,O₀,O,ρ,_,st,e1,fun u H' s' g => ⟨i,g.1.int,q H' s'⟩⟩
theorem s_slice {a lo hi:ME} {v:Expr} {l u:Option Expr} {p2 pos:Pos} (ha:PE X v (tE X.K cal a)) (hl:PO X l (tB1 X.K cal lo)) (hu:PO X u (tB1 X.K cal hi)):PE X (.Subscript v (.Slice l u none p2) pos) (tE X.K cal (.slice a lo hi)):=by
 refine (pe_slice sl_val ha hl hu).imp fun σ H Q q => ?_
 obtain ⟨B,O₀,O,ρ,w,st,e1,q⟩:=q
 rw [ev,Option.bind_eq_some_iff] at e1
 obtain ⟨x,e1,e2⟩:=e1
 rw [Option.bind_eq_some_iff] at e2
 obtain ⟨lo',e2,e3⟩:=e2
 rw [Option.bind_eq_some_iff] at e3
 obtain ⟨hi',e3,e4⟩:=e3
 exact ⟨B,O₀,O,ρ,x,st,e1,fun ux H1 s1 g1 => ⟨B,O₀,O,ρ,lo',st.mono s1,e2,fun H2 s2 => ⟨B,O₀,O,ρ,hi',(st.mono s1).mono s2,e3,fun H3 s3 =>
  ⟨O,x,w,here_mono ((s1.trans s2).trans s3) st.here,g1.1.mono (s2.trans s3),e4,fun u H4 s4 r => q u H4 (((s1.trans s2).trans s3).trans s4) (.of r)⟩⟩⟩⟩
theorem s_blt {f:Blt} {ms:List ME} {x:Str} {e:Expr} {es:List Expr} {p pos:Pos} {id:String} (hc:CallR X (.builtin id) (RBM X.K (bltOp f))) (hg:glB X.env.scope x = true) (hm:X.mg x = none) (hv:bootBuiltins x = some (.builtin id)) (hn:x ≠ "__name__") (hd:(x == ("__debug__":Str)) = false)
  (ha:PA X (e :: es) (tEs X.K cal ms)) (hs:(e :: es).all notStar = true):PE X (.Call (.Name x p) (e :: es) [] pos) (tE X.K cal (.blt f ms)):=by
 simp only [List.all_cons,Bool.and_eq_true] at hs
 refine (pe_callB hc (glOf hg) hm hv ha hn hd (star1 hs.1 es _) (backTo_any hs.2)).imp fun σ H Q q => ?_
 obtain ⟨B,O₀,O,ρ,v,st,e1,q⟩:=q
 rw [ev,Option.bind_eq_some_iff] at e1
 obtain ⟨vs,e1,e2⟩:=e1
 exact ⟨B,O₀,O,ρ,vs,st,e1,fun us H1 s1 g1 => ⟨O,vs,v,here_mono s1 st.here,g1.1,e2,fun u H2 s2 r => q u H2 (s1.trans s2) (.of r)⟩⟩
theorem s_bltT {f:Blt} {ms:List ME} {x:Str} {e:Expr} {es:List Expr} {p pos:Pos} {id:String} (hc:CallR X (.type id) (RBM X.K (bltOp f))) (hg:glB X.env.scope x = true) (hm:X.mg x = none) (hv:bootBuiltins x = some (.type id)) (hn:x ≠ "__name__") (hd:(x == ("__debug__":Str)) = false)
  (ha:PA X (e :: es) (tEs X.K cal ms)) (hs:(e :: es).all notStar = true):PE X (.Call (.Name x p) (e :: es) [] pos) (tE X.K cal (.blt f ms)):=by
 simp only [List.all_cons,Bool.and_eq_true] at hs
 refine (pe_callTy hc (glOf hg) hm hv ha hn hd (star1 hs.1 es _) (backTo_any hs.2)).imp fun σ H Q q => ?_
 obtain ⟨B,O₀,O,ρ,v,st,e1,q⟩:=q
 rw [ev,Option.bind_eq_some_iff] at e1
 obtain ⟨vs,e1,e2⟩:=e1
 exact ⟨B,O₀,O,ρ,vs,st,e1,fun us H1 s1 g1 => ⟨O,vs,v,here_mono s1 st.here,g1.1,e2,fun u H2 s2 r => q u H2 (s1.trans s2) (.of r)⟩⟩
theorem fresh_rbf {f:Blt} {ms:List ME} {σ:St} {H:Hp} {Q:VK} {K:PySem.W.Frag} (q:tF K cal (.blt f ms) σ H Q):tCB (RBF K (bltOp f)) (tEs K cal ms) σ H Q:=by
 obtain ⟨B,O₀,O,ρ,xs,st,e1,q⟩:=q
 rw [ev,Option.bind_eq_some_iff] at e1
 obtain ⟨vs,e1,e2⟩:=e1
 refine ⟨B,O₀,O,ρ,vs,st,e1,fun us H1 s1 g1 => ⟨O,vs,xs,here_mono s1 st.here,g1.1,e2,fun l ws hl r => q l ws _ (s1.trans (same_new hl _)) (s1.free hl) upd_same ?_⟩⟩
 rw [hide_upd (List.mem_cons_self)]
 refine Reps.mono (hide_mono (Same.refl H1) fun b hb => ?_) _ r
 rcases List.mem_cons.mp hb with rfl | hb
 ·exact .inr hl
 ·exact .inl hb
theorem s_bltF {f:Blt} {ms:List ME} {x:Str} {e:Expr} {es:List Expr} {p pos:Pos} {id:String} (hc:CallR X (.builtin id) (RBF X.K (bltOp f))) (hg:glB X.env.scope x = true) (hm:X.mg x = none) (hv:bootBuiltins x = some (.builtin id)) (hn:x ≠ "__name__") (hd:(x == ("__debug__":Str)) = false)
  (ha:PA X (e :: es) (tEs X.K cal ms)) (hs:(e :: es).all notStar = true):PE X (.Call (.Name x p) (e :: es) [] pos) (tF X.K cal (.blt f ms)):=by
 simp only [List.all_cons,Bool.and_eq_true] at hs
 exact (pe_callB hc (glOf hg) hm hv ha hn hd (star1 hs.1 es _) (backTo_any hs.2)).imp fun σ H Q q => fresh_rbf q
theorem s_bltTF {f:Blt} {ms:List ME} {x:Str} {e:Expr} {es:List Expr} {p pos:Pos} {id:String} (hc:CallR X (.type id) (RBF X.K (bltOp f))) (hg:glB X.env.scope x = true) (hm:X.mg x = none) (hv:bootBuiltins x = some (.type id)) (hn:x ≠ "__name__") (hd:(x == ("__debug__":Str)) = false)
  (ha:PA X (e :: es) (tEs X.K cal ms)) (hs:(e :: es).all notStar = true):PE X (.Call (.Name x p) (e :: es) [] pos) (tF X.K cal (.blt f ms)):=by
 simp only [List.all_cons,Bool.and_eq_true] at hs
 exact (pe_callTy hc (glOf hg) hm hv ha hn hd (star1 hs.1 es _) (backTo_any hs.2)).imp fun σ H Q q => fresh_rbf q
theorem s_call {f:Nat} {ms:List ME} {x:Str} {es:List Expr} {p pos:Pos} (g:Gf X T k cal) (hf:T.fs[f]? = some x) (hg:glB X.env.scope x = true) (hn:plainName x = true) (ha:PA X es (tAs X.K cal ms)) (hs:es.all notStar = true) (hl:ms.length = es.length):PE X (.Call (.Name x p) es [] pos) (tE X.K cal (.call f ms)):=by
 obtain ⟨fa,fd,ps,h1,h2,h3,F,_⟩:=g.fns f x hf
 have key:∀ σ H Q,tE X.K cal (.call f ms) σ H Q -> tCall (spM X.K cal f) [] E0 (tAs X.K cal ms) σ H Q:=fun σ H Q q => by
  obtain ⟨B,O₀,O,ρ,v,st,e1,q⟩:=q
  rw [ev,Option.bind_eq_some_iff] at e1
  obtain ⟨vs,e1,e2⟩:=e1
  refine ⟨B,O₀,O,ρ,vs,st,e1,fun us H1 s1 g1 => ⟨O,vs,v,here_mono s1 st.here,?_,e2,fun u H2 s2 r => q u H2 (s1.trans s2) (.of r)⟩⟩
  rw [List.append_nil]
  exact g1
 cases es with
 | nil =>
  refine (pe_call0 F g.room (glOf hg) h1 h2 h3 .nil pass0 (plainOf hn).1).imp fun σ H Q q => ?_
  obtain ⟨B,O₀,O,ρ,vs,st,e1,q⟩:=key σ H Q q
  cases ms with
  | nil =>
   simp only [evA,Option.some.injEq] at e1
   subst e1
   exact q [] H (Same.refl H) .nil
  | cons m ms => simp at hl
 | cons e es =>
  simp only [List.all_cons,Bool.and_eq_true] at hs
  exact (pe_call F g.room (glOf hg) h1 h2 h3 .nil pass0 ha (plainOf hn).1 (star1 hs.1 es _) (backTo_any hs.2)).imp key
end
end MM
namespace MM
open PySem PySem.Spec PyProof.Rows L2
section
variable {K:PySem.W.Frag} {H:Hp} {O:List Addr}
end
section
variable {X:Cx} {pins:List (Addr × Obj)} {σ:St} {H:Hp} {s:Shared}
end
section
variable {X:Cx} {T:Tab} {k:Nat} {cal:Cal}
end
end MM
namespace MM
open PySem PySem.Spec PyProof.Rows L2
theorem bt_len:bootBuiltins "len" = some (.builtin "len"):=by decide +kernel
theorem bt_tuple:bootBuiltins "tuple" = some (.type "tuple"):=by decide +kernel
theorem bt_list:bootBuiltins "list" = some (.type "list"):=by decide +kernel
theorem bt_sorted:bootBuiltins "sorted" = some (.builtin "sorted"):=by decide +kernel
theorem bt_any:bootBuiltins "any" = some (.builtin "any"):=by decide +kernel
theorem bt_all:bootBuiltins "all" = some (.builtin "all"):=by decide +kernel
theorem bt_int:bootBuiltins "int" = some (.type "int"):=by decide +kernel
theorem bt_bool:bootBuiltins "bool" = some (.type "bool"):=by decide +kernel
theorem bt_str:bootBuiltins "str" = some (.type "str"):=by decide +kernel
theorem bt_isinstance:bootBuiltins "isinstance" = some (.builtin "isinstance"):=by decide +kernel
section
variable {X:Cx} {T:Tab} {k:Nat} {cal:Cal}
theorem s_inst {f:Blt} {c:String} {m:ME} {e:Expr} {t:Str} {p p2 pos:Pos} (g:Gf X T k cal) (hf:instOf f = some c) (hg:glB X.env.scope "isinstance" = true) (ht:t = (c:Str)) (hgt:glB X.env.scope t = true)
  (hbt:bootBuiltins c = some (.type c)) (hmt:X.mg c = none) (hn:(c:Str) ≠ "__name__") (hd:((c:Str) == ("__debug__":Str)) = false) (h:PE X e (tE X.K cal m)) (hs:notStar e = true):PE X (.Call (.Name "isinstance" p) [e,.Name t p2] [] pos) (tE X.K cal (.blt f [m])):=by
 subst ht
 refine (pe_callB (c_inst hf) (glOf hg) (g.blt "isinstance" (by decide)) bt_isinstance (pa_cons h (pa_cons (pe_bltn (v:=.ty c) (glOf hgt) hmt hbt rfl hn hd) pa_nil rfl) (star1 hs _ _)) (by decide) (by decide) (star1 hs _ _) rfl).imp fun σ H Q q => ?_
 obtain ⟨B,O₀,O,ρ,v,st,e1,q⟩:=q
 rw [ev,Option.bind_eq_some_iff] at e1
 obtain ⟨vs,e1,e2⟩:=e1
 obtain ⟨w,rfl,e3⟩:=evs1 e1
 have e5:isD w = false /\ v = .bl (isT f w):=by
  cases hd:isD w with
  | true => cases f <;> simp only [instOf,reduceCtorEq] at hf <;> (simp only [bltOp,one1,two1,lst?,isOf,hd] at e2; cases e2)
  | false => cases f <;> simp only [instOf,reduceCtorEq] at hf <;> (simp only [bltOp,one1,two1,lst?,isOf,hd,Bool.false_eq_true,if_false,Option.some.injEq] at e2; exact ⟨rfl,e2.symm⟩)
 obtain ⟨e5,rfl⟩:=e5
 refine ⟨B,O₀,O,ρ,w,st,e3,fun u H1 s1 g1 => ⟨O,w,u,rfl,e5,g1.1,q _ H1 s1 (.of (rep_bl _ _))⟩⟩
theorem strs?_eq:∀ {xs:List PV} {ws:List Str},strs? xs = some ws -> xs = ws.map .str
 | [],_,h => by simp [strs?] at h; subst h; rfl
 | .str i :: r,ns,h => by
  simp only [strs?,Option.map_eq_some_iff] at h
  obtain ⟨ms,h1,rfl⟩:=h
  rw [strs?_eq h1]; rfl
 | .non :: _,_,h => by simp [strs?] at h
 | .bl _ :: _,_,h => by simp [strs?] at h
 | .int _ :: _,_,h => by simp [strs?] at h
 | .tup _ :: _,_,h => by simp [strs?] at h
 | .lst _ :: _,_,h => by simp [strs?] at h
 | .dI _ :: _,_,h => by simp [strs?] at h
theorem reps_strs {K:PySem.W.Frag} {F:Hp}:∀ {ws:List Str} {us:List V},Reps K F (ws.map .str) us -> us = ws.map V.str
 | [],_,h => by simpa [Reps] using h
 | n :: ns,_,h => by
  rw [List.map_cons,Reps] at h
  obtain ⟨u,r,rfl,q,t⟩:=h
  rw [Rep] at q
  rw [q,reps_strs t]; rfl
theorem s_join {x:Str} {m:ME} {e:Expr} {j:Nat} {p ap cp:Pos} (h:PE X e (tE X.K cal m)) (hs:notStar e = true) (hl:(ap.endLine == cp.line) = true):PE X (.Call (.Attribute (.Constant (.str x) j p) "join" ap) [e] [] cp) (tE X.K cal (.join x m)):=by
 refine (pe_bm PySem.F.plainAttrs_str PySem.F.slot_str_join PySem.F.type_str_join mt_join pe_str (pa_cons h pa_nil (star1 hs _ _)) rfl (by rw [star1 hs]; rfl) hl (star1 hs _ _) rfl).imp fun σ H Q q => ?_
 obtain ⟨B,O₀,O,ρ,v,st,e1,q⟩:=q
 rw [ev,Option.bind_eq_some_iff] at e1
 obtain ⟨w,e1,e2⟩:=e1
 cases w with
 | lst xs =>
  have e2:((strs? xs).bind fun ws => if (ws.map fun y => y.length + x.length).sum <= 1000000 then some (PV.str (Builtin.Str.glued x ws)) else none) = some v:=e2
  rw [Option.bind_eq_some_iff] at e2
  obtain ⟨ws,e3,e4⟩:=e2
  split at e4
  ·rename_i hz
   cases e4
   have e5:=strs?_eq e3
   subst e5
   refine ⟨rfl,B,O₀,O,ρ,_,st,e1,fun u H1 s1 g1 => ?_⟩
   obtain ⟨a,us,rfl,sq,rs⟩:=g1.1.lst
   have e6:=reps_strs rs
   subst e6
   exact ⟨x,a,ws,rfl,rfl,sq,hz,q _ H1 s1 (.of (by rw [Rep]))⟩
  ·cases e4
 | _ => cases e2
theorem pe_ct {x:Str} {d:Addr} {o:Obj} {es:Array DictEntry} {ep:Nat} {i:Expr} {ty:TE} {p pos:Pos} (hg:Gl X x) (hp:(x == ("__debug__":Str)) = false) (hm:X.mg x = some (.ref d)) (hk:List.lookup d X.K = some o) (hx:o.ExactDict) (hd:o.data = .dict es ep) (hh:∀ e ∈ es,∃ k,Value.isStrOf k e.key = true /\ e.hash = hashStr X.w k) (hi:PE X i ty) (hs:NoSl i) :
  PE X (.Subscript (.Name x p) i pos) (fun σ H Q => ty σ H fun y H1 => ∃ k val v,y = .str k /\ findBy Value.isStrOf es k = some val /\ RelV v val /\ Q v H1):=by
 intro pins s σ H Q I h
 refine subD_of PySem.F.slot_dict_getitem.lookup hs (ld_glob I hg hm (thn (hi pins s σ H _ I h) fun iv s2 ⟨y,H2,I2,ry,k,val,v,ey,ef,rv,q2⟩ => ?_) hp)
 subst ey
 obtain ⟨t,rfl⟩:=ry
 have ho:=I2.kIn d o hk
 refine ⟨⟨o,ho,hx.1⟩,wpAny_getItem_of (knd:=strKind X.prog X.w) (k:=k) (f:=findBy Value.isStrOf es) (by show Value.isStrOf k (.str k t) = true; simp [Value.isStrOf]) ⟨o,es,ep,ho,hx,hd,hh,fun _ => rfl⟩ ef ⟨v,H2,I2.tok _,rv,q2⟩⟩
theorem s_cdat {x:Str} {m:ME} {i:Expr} {p pos:Pos} (g:Gf X T k cal) (hg:glB X.env.scope x = true) (hn:plainName x = true) (hc:(cTab.any fun t => t.1 == x) = true) (h:PE X i (tE X.K cal m)) (hs:NoSl i):PE X (.Subscript (.Name x p) i pos) (tE X.K cal (.cdat x m)):=by
 have hx:∃ t ∈ cTab,t.1 = x:=by
  obtain ⟨t,h1,h2⟩:=List.any_eq_true.mp hc
  exact ⟨t,h1,eq_of_beq h2⟩
 ·obtain ⟨t,ht,rfl⟩:=hx
  obtain ⟨d,o,es,ep,h1,h2,h3,h4,h5,h6⟩:=g.ct t ht
  refine (pe_ct (glOf hg) (plainOf hn).1 h1 h2 h3 h4 h5 h hs).imp fun σ H Q q => ?_
  obtain ⟨B,O₀,O,ρ,v,st,e1,q⟩:=q
  rw [ev,Option.bind_eq_some_iff] at e1
  obtain ⟨w,e1,e2⟩:=e1
  cases w with
  | str k =>
   have e2:(((cTab.find? fun p => decide (p.1 = t.1)).bind fun t => t.2.find? fun p => decide (p.1 = k)).map (·.2)) = some v:=e2
   have et:cTab.find? (fun p => decide (p.1 = t.1)) = some t:=by
    unfold cTab at ht ⊢
    simp only [List.mem_cons,List.not_mem_nil,or_false] at ht
    subst ht
    simp
   rw [et,Option.bind_some,Option.map_eq_some_iff] at e2
   obtain ⟨pr,e3,rfl⟩:=e2
   have hm:=List.mem_of_find?_eq_some e3
   have hk:=List.find?_some e3
   have hk:pr.1 = k:=of_decide_eq_true hk
   obtain ⟨val,u,f1,f2,f3⟩:=h6 pr hm
   refine ⟨B,O₀,O,ρ,_,st,e1,fun uy H1 s1 g1 => ?_⟩
   have ey:=g1.1.str
   subst ey
   exact ⟨k,val,u,rfl,by rw [<- hk]; exact f1,f2,q _ H1 s1 (.of (f3 _))⟩
  | _ => cases e2
theorem s_lenP {i:Nat} {y:Str} {p yp pos:Pos} (g:Gf X T k cal) (hg:glB X.env.scope ("len":Str) = true) (hn:nameAt X.N X.env.scope i y = true):PE X (.Call (.Name ("len":Str) p) [.Name y yp] [] pos) (tE X.K cal (.lenP i)):=by
 refine (pe_callB call_len_seq (glOf hg) (g.blt "len" (by decide)) bt_len (pa_cons (name_at hn) pa_nil rfl) (by decide) (by decide) rfl rfl).imp fun σ H Q q => ?_
 obtain ⟨B,O₀,O,ρ,v,st,e1,q⟩:=q
 rw [ev] at e1
 have fin:∀ (ns:List Int) (a:Addr),H a = some (encD (.p ns)) -> v = .int ns.length -> σ[i]? = some (some (.ref a)) -> ∃ u,σ[i]? = some (some u) /\ ∃ a ws,[u] = [V.ref a] /\ (SqL X.K H a ws \/ SqT X.K H a ws) /\ Q (.int ws.length) H:=fun ns a ha hv eu => by
  refine ⟨_,eu,a,ns.map V.int,rfl,.inl (SqL.of ha),?_⟩
  rw [List.length_map]
  subst hv
  exact q _ H (Same.refl H) (.of (rep_int _ _))
 cases hj:(ρ[i]?).join with
 | none => rw [hj] at e1; cases e1
 | some m =>
  rw [hj] at e1
  obtain ⟨u,eu,so⟩:=slot_of st hj
  cases m with
  | ownD d =>
   cases d with
   | p ns =>
    cases e1
    obtain ⟨a,rfl,ha,_⟩:=so
    exact fin ns a ha rfl eu
   | _ => cases e1
  | mutD d =>
   cases d with
   | p ns =>
    cases e1
    obtain ⟨a,rfl,ha,_⟩:=so
    exact fin ns a ha rfl eu
   | _ => cases e1
  | _ => cases e1
end
section
variable {X:Cx} {T:Tab} {k:Nat} {cal:Cal}
theorem comp_lst {k':Sk} {src:List ME} {js:List Nat} {cond elt:ME}:∀ ρ v,ev cal (.comp k' src js cond elt) ρ = some v -> ∃ xs,v = .lst xs:=fun ρ v hv => by
 rw [ev,Option.bind_eq_some_iff] at hv
 obtain ⟨vs,_,hv⟩:=hv
 rw [Option.bind_eq_some_iff] at hv
 obtain ⟨xs,_,hv⟩:=hv
 split at hv
 ·simp only [Option.map_eq_some_iff] at hv
  obtain ⟨ys,_,rfl⟩:=hv
  exact ⟨_,rfl⟩
 ·cases hv
theorem blt_lst {f:Blt} (hf:f = .listOf \/ f = .sorted \/ f = .sortedSet \/ f = .sortedKeys \/ f = .valuesOf) {ms:List ME}:∀ ρ v,ev cal (.blt f ms) ρ = some v -> ∃ xs,v = .lst xs:=fun ρ v hv => by
 rw [ev,Option.bind_eq_some_iff] at hv
 obtain ⟨vs,_,hv⟩:=hv
 rcases hf with rfl | rfl | rfl | rfl | rfl
 ·obtain ⟨x,rfl⟩:=one_of hv (.inl rfl)
  simp only [bltOp,one1,two1,lst?,isOf,Option.map_eq_some_iff] at hv
  obtain ⟨ys,_,rfl⟩:=hv
  exact ⟨_,rfl⟩
 ·obtain ⟨x,rfl⟩:=one_of hv (.inl rfl)
  simp only [bltOp,one1,two1,lst?,isOf,Option.bind_eq_some_iff] at hv
  obtain ⟨ys,_,hv⟩:=hv
  unfold sortOp at hv
  split at hv
  ·split at hv
   ·cases hv; exact ⟨_,rfl⟩
   ·simp only [Option.map_eq_some_iff] at hv
    obtain ⟨ts,_,rfl⟩:=hv
    exact ⟨_,rfl⟩
  ·cases hv
 ·obtain ⟨x,rfl⟩:=one_of hv (.inr (.inr (.inl rfl)))
  simp only [bltOp,one1,two1,lst?,isOf,Option.bind_eq_some_iff] at hv
  obtain ⟨ys,_,ns,_,hv⟩:=hv
  split at hv
  ·cases hv; exact ⟨_,rfl⟩
  ·cases hv
 ·obtain ⟨x,rfl⟩:=one_of hv (.inl rfl)
  simp only [bltOp,one1] at hv
  split at hv
  ·split at hv
   ·cases hv; exact ⟨_,rfl⟩
   ·cases hv
  ·cases hv
 ·obtain ⟨x,rfl⟩:=one_of hv (.inr (.inr (.inr (.inr rfl))))
  simp only [bltOp,one1] at hv
  split at hv
  ·split at hv
   ·cases hv; exact ⟨_,rfl⟩
   ·cases hv
  ·cases hv
theorem s_cond {ifs:List Expr} {cond:ME} {f:Expr -> Bool} (h:condB f cond ifs = true) (hc:∀ c,f c = true -> PT X c (tT X.K cal cond)):PF X ifs (tT X.K cal cond):=by
 match ifs,h with
 | [],h =>
  have e:cond = .cst (.bl true):=by
   simp only [condB] at h
   split at h
   ·rfl
   ·cases h
  subst e
  intro pins s σ H Q I q
  obtain ⟨B,O₀,O,ρ,b,st,e1,q⟩:=q
  simp only [evB,ev,Option.bind_some,boolOf?,Option.some.injEq] at e1
  subst e1
  exact pf_nil pins s σ H Q I (q H (Same.refl H))
 | [c],h => exact pf_one (hc c h)
theorem comp2_lst {src:List ME} {js:List Nat} {cond elt:ME}:∀ ρ v,ev cal (.comp2 src js cond elt) ρ = some v -> ∃ xs,v = .lst xs:=fun ρ v hv => by
 rw [ev,Option.bind_eq_some_iff] at hv
 obtain ⟨vs,_,hv⟩:=hv
 rw [Option.bind_eq_some_iff] at hv
 obtain ⟨xs,_,hv⟩:=hv
 split at hv
 ·simp only [Option.map_eq_some_iff] at hv
  obtain ⟨ys,_,rfl⟩:=hv
  exact ⟨_,rfl⟩
 ·cases hv
theorem pg_two {js:List Nat} {x y:Str} {px py tp:Pos} {j:Nat} {scope:Scope} {s₁:Shared} {H₁:Hp} {C:Addr} {fp:List Addr} (g:Gf X T k cal) (h:compScB2 X.env.scope X.N scope x y (fvsOf X.N js) js = true):PG (X.blk x ([y] ++ fvsOf X.N js) scope s₁ H₁ C fp) (.Tuple [.Name x px,.Name y py] j tp) (g2 X.K):=by
 obtain ⟨c,l0,l1⟩:=compSc2_of h
 exact pg_tup g.calm (pgs_cons (pg_name (i:=0) c.nd rfl (.inl (lookup_relabel_local l0)) (.inr (lookup_relabel_local l0))) (pgs_cons (pg_name (i:=1) c.nd rfl (.inl (lookup_relabel_local l1)) (.inr (lookup_relabel_local l1))) pgs_nil)) rfl rfl
theorem s_walk {k':Sk} {src:List ME} {it tg:Expr} {tup:Bool} (htg:tup = true -> ∃ ts j tp,tg = .Tuple ts j tp) (g:Gf X T k cal) (h:chkW X.env.scope tup (fun xs => chks T src X.N X.env.scope xs) k' it = true) (hs:∀ xs,chks T src X.N X.env.scope xs = true -> PA X xs (tEs X.K cal src) /\ xs.all notStar = true /\ src.length = xs.length)
  (h1:∀ m x,src = [m] -> chks T src X.N X.env.scope [x] = true -> PE X x (tE X.K cal m)):PI X tg it (tW X.K cal k' src) /\ notSet it = true:=by
 cases k' with
 | seq =>
  simp only [chkW,Bool.and_eq_true] at h
  refine ⟨?_,h.1⟩
  obtain ⟨_,_,hl⟩:=hs _ h.2
  match src,hl,h1,h with
  | [m],_,h1,h =>
   cases hb:isBor m with
   | false => exact w_seq hb (h1 m it rfl h.2)
   | true =>
    cases m <;> simp [isBor] at hb
    have q:=h.2
    simp only [chks,Bool.and_eq_true] at q
    have q1:=q.1.1
    cases it <;> simp only [ck_var,ck_bor,ck_cst,ck_glob,ck_bin,ck_neg,ck_not,ck_and,ck_or,ck_ite,ck_cmp,ck_chain,ck_tup,ck_lst,ck_idx,ck_slice,ck_blt,ck_call,ck_comp,Bool.false_eq_true] at q1
    exact w_bor q1
 | rng =>
  cases it with
  | Call fn args kws pos =>
   cases fn with
   | Name x p =>
    cases kws with
    | nil =>
     simp only [chkW,Bool.and_eq_true,beq_iff_eq,Bool.or_eq_true] at h
     obtain ⟨⟨⟨hx,hg⟩,ha⟩,hn⟩:=h
     obtain ⟨q,hst,hl⟩:=hs _ ha
     exact ⟨w_range g hx hg q hn hst hl,rfl⟩
    | cons _ _ => simp [chkW] at h
   | _ => simp [chkW] at h
  | _ => simp [chkW] at h
 | enm => cases it <;> simp [chkW] at h
 | zip =>
  cases it with
  | Call fn args kws pos =>
   cases fn with
   | Name x p =>
    match args,kws,h with
    | [a,b],[],h =>
     simp only [chkW,Bool.and_eq_true,beq_iff_eq] at h
     obtain ⟨⟨⟨⟨⟨ht,hx⟩,hg⟩,ha⟩,hn⟩,hn2⟩:=h
     obtain ⟨ts,j,tp,rfl⟩:=htg ht
     obtain ⟨q,_,hl⟩:=hs _ ha
     exact ⟨w_zip g hx hg q hn hn2 hl,rfl⟩
    | [],_,h => simp [chkW] at h
    | [_],_,h => simp [chkW] at h
    | _ :: _ :: _ :: _,_,h => simp [chkW] at h
    | [_,_],_ :: _,h => simp [chkW] at h
   | _ => simp [chkW] at h
  | _ => simp [chkW] at h
 | rev => cases it <;> simp [chkW] at h
theorem base_of {o:Expr} {n:Str} (hb:baseB o = true):attributeBase o n X.env (eval o X.env) = eval o X.env:=by
 cases o <;> first | rfl | (simp [baseB] at hb; done) | skip
 rename_i fn args kws pos
 cases args with
 | nil => simp [baseB] at hb
 | cons _ _ => cases fn <;> rfl
theorem s_bltAll {b:Blt} {es:List ME} {x:Str} {args:List Expr} {p pos:Pos} (g:Gf X T k cal) (hx:x = (bltOf b:Str)) (hg:glB X.env.scope x = true) (ha:bltArgs X.env.scope (fun xs => chks T es X.N X.env.scope xs) es.length b args = true)
  (hs:∀ xs,chks T es X.N X.env.scope xs = true -> PA X xs (tEs X.K cal es) /\ xs.all notStar = true /\ es.length = xs.length)
  (h1:∀ m x,es = [m] -> chks T es X.N X.env.scope [x] = true -> PE X x (tE X.K cal m))
  (hh2:∀ m m' x x',es = [m,m'] -> chks T es X.N X.env.scope [x,x'] = true -> PE X x (tE X.K cal m) /\ PE X x' (tE X.K cal m')) :
  (freshB (.blt b es) = true -> PE X (.Call (.Name x p) args [] pos) (tF X.K cal (.blt b es))) /\ PE X (.Call (.Name x p) args [] pos) (tE X.K cal (.blt b es)):=by
 have inst:∀ c,instOf b = some c -> bltOf b = "isinstance" -> bootBuiltins c = some (.type c) -> X.mg c = none -> (c:Str) ≠ "__name__" -> ((c:Str) == ("__debug__":Str)) = false -> bltArgs X.env.scope (fun xs => chks T es X.N X.env.scope xs) es.length b args = instArgs X.env.scope (fun xs => chks T es X.N X.env.scope xs) es.length c args ->
   PE X (.Call (.Name x p) args [] pos) (tE X.K cal (.blt b es)):=fun c hc hb hbt hm hn hd e => by
  rw [e] at ha
  unfold instArgs at ha
  split at ha
  ·rename_i y t p2
   simp only [Bool.and_eq_true,beq_iff_eq] at ha
   obtain ⟨⟨⟨h2,h3⟩,h4⟩,h5⟩:=ha
   obtain ⟨_,hst,_⟩:=hs _ h4
   match es,h5,h1,h4 with
   | [m],_,h1,h4 =>
    rw [hx,hb] at hg ⊢
    exact s_inst g hc hg h2 h3 hbt hm hn hd (h1 m y rfl h4) (by simpa using hst)
  ·cases ha
 have plain:∀ n,instOf b = none -> plainArgs b = some n -> 0 < n -> bltArgs X.env.scope (fun xs => chks T es X.N X.env.scope xs) es.length b args = (plainArgs b == some es.length && chks T es X.N X.env.scope args) ->
   ∃ e r,args = e :: r /\ PA X (e :: r) (tEs X.K cal es) /\ (e :: r).all notStar = true:=fun n _ hn hpos eq => by
  rw [eq,hn] at ha
  simp only [Bool.and_eq_true,beq_iff_eq,Option.some.injEq] at ha
  obtain ⟨q1,q2,q3⟩:=hs _ ha.2
  cases args with
  | nil => rw [<- ha.1] at q3; simp at q3; omega
  | cons e r => exact ⟨e,r,rfl,q1,q2⟩
 cases b with
 | len =>
  obtain ⟨e,r,rfl,q1,q2⟩:=plain 1 rfl rfl (by decide) rfl
  subst hx
  exact ⟨fun z => (by simp [freshB] at z),s_blt c_len hg (g.blt "len" (by decide)) bt_len (by decide) (by decide) q1 q2⟩
 | tupleOf =>
  obtain ⟨e,r,rfl,q1,q2⟩:=plain 1 rfl rfl (by decide) rfl
  subst hx
  exact ⟨fun z => (by simp [freshB] at z),s_bltT c_tuple hg (g.blt "tuple" (by decide)) bt_tuple (by decide) (by decide) q1 q2⟩
 | listOf =>
  obtain ⟨e,r,rfl,q1,q2⟩:=plain 1 rfl rfl (by decide) rfl
  subst hx
  have q:=s_bltTF (p:=p) (pos:=pos) c_list hg (g.blt "list" (by decide)) bt_list (by decide) (by decide) q1 q2
  exact ⟨fun _ => q,fresh_val (blt_lst (.inl rfl)) q⟩
 | sorted =>
  obtain ⟨e,r,rfl,q1,q2⟩:=plain 1 rfl rfl (by decide) rfl
  subst hx
  have q:=s_bltF (p:=p) (pos:=pos) (c_sorted g) hg (g.blt "sorted" (by decide)) bt_sorted (by decide) (by decide) q1 q2
  exact ⟨fun _ => q,fresh_val (blt_lst (.inr (.inl rfl))) q⟩
 | any =>
  obtain ⟨e,r,rfl,q1,q2⟩:=plain 1 rfl rfl (by decide) rfl
  subst hx
  exact ⟨fun z => (by simp [freshB] at z),s_blt (c_any g.calm) hg (g.blt "any" (by decide)) bt_any (by decide) (by decide) q1 q2⟩
 | all =>
  obtain ⟨e,r,rfl,q1,q2⟩:=plain 1 rfl rfl (by decide) rfl
  subst hx
  exact ⟨fun z => (by simp [freshB] at z),s_blt (c_all g.calm) hg (g.blt "all" (by decide)) bt_all (by decide) (by decide) q1 q2⟩
 | strOf =>
  obtain ⟨e,r,rfl,q1,q2⟩:=plain 1 rfl rfl (by decide) rfl
  subst hx
  exact ⟨fun z => (by simp [freshB] at z),s_bltT c_str hg (g.blt "str" (by decide)) PyProof.Rows.boot_str (by decide) (by decide) q1 q2⟩
 | intOf => exact absurd ha Bool.false_ne_true
 | boolOf => exact absurd ha Bool.false_ne_true
 | max2 => exact absurd ha Bool.false_ne_true
 | min2 => exact absurd ha Bool.false_ne_true
 | isInt => exact ⟨fun z => (by simp [freshB] at z),inst "int" rfl rfl bt_int (g.blt "int" (by decide)) (by decide) (by decide) rfl⟩
 | isBool => exact ⟨fun z => (by simp [freshB] at z),inst "bool" rfl rfl bt_bool (g.blt "bool" (by decide)) (by decide) (by decide) rfl⟩
 | isStr => exact ⟨fun z => (by simp [freshB] at z),inst "str" rfl rfl bt_str (g.blt "str" (by decide)) (by decide) (by decide) rfl⟩
 | isList => exact absurd ha Bool.false_ne_true
 | isTuple => exact ⟨fun z => (by simp [freshB] at z),inst "tuple" rfl rfl bt_tuple (g.blt "tuple" (by decide)) (by decide) (by decide) rfl⟩
 | sortedSet => simp [bltArgs] at ha
 | sum => exact absurd ha Bool.false_ne_true
 | max1 => exact absurd ha Bool.false_ne_true
 | sortedKeys => exact absurd ha Bool.false_ne_true
 | valuesOf => exact absurd ha Bool.false_ne_true
 | min1 => simp [bltArgs,instOf,plainArgs] at ha
 | tupleRev => simp [bltArgs] at ha
 | lenSet => simp [bltArgs] at ha
 | lenSetSub => simp [bltArgs] at ha
end
section
variable {X:Cx} {T:Tab} {k:Nat} {cal:Cal}
end
mutual
theorem sound {T:Tab} {k:Nat} {cal:Cal}:∀ (me:ME) {X:Cx} {e:Expr},Gf X T k cal -> chk T me X.N X.env.scope e = true -> PE X e (tE X.K cal me) /\ PT X e (tT X.K cal me)
  | .var i,X,e,g,h => by
    cases e <;> simp only [ck_var,ck_bor,ck_cst,ck_glob,ck_bin,ck_neg,ck_not,ck_and,ck_or,ck_ite,ck_cmp,ck_chain,ck_tup,ck_lst,ck_idx,ck_slice,ck_blt,ck_call,ck_comp,Bool.false_eq_true] at h
    exact ⟨s_var h,test_val (s_var h) rfl⟩
  | .bor i,X,e,g,h => by
    cases e <;> simp only [ck_var,ck_bor,ck_cst,ck_glob,ck_bin,ck_neg,ck_not,ck_and,ck_or,ck_ite,ck_cmp,ck_chain,ck_tup,ck_lst,ck_idx,ck_slice,ck_blt,ck_call,ck_comp,Bool.false_eq_true] at h
    exact ⟨s_bor h,test_val (s_bor h) rfl⟩
  | .cst v,X,e,g,h => by
    cases e <;> simp only [ck_var,ck_bor,ck_cst,ck_glob,ck_bin,ck_neg,ck_not,ck_and,ck_or,ck_ite,ck_cmp,ck_chain,ck_tup,ck_lst,ck_idx,ck_slice,ck_blt,ck_call,ck_comp,Bool.false_eq_true] at h
    exact ⟨s_cst h,test_val (s_cst h) rfl⟩
  | .glob x v,X,e,g,h => by
    cases e <;> try (simp only [ck_var,ck_bor,ck_cst,ck_glob,ck_bin,ck_neg,ck_not,ck_and,ck_or,ck_ite,ck_cmp,ck_chain,ck_tup,ck_lst,ck_idx,ck_slice,ck_blt,ck_call,ck_comp,Bool.false_eq_true] at h; done)
    exact ⟨s_glob g h,test_val (s_glob g h) rfl⟩
  | .bin op a b,X,e,g,h => by
    cases e <;> simp only [ck_var,ck_bor,ck_cst,ck_glob,ck_bin,ck_neg,ck_not,ck_and,ck_or,ck_ite,ck_cmp,ck_chain,ck_tup,ck_lst,ck_idx,ck_slice,ck_blt,ck_call,ck_comp,Bool.false_eq_true,Bool.and_eq_true,beq_iff_eq] at h
    obtain ⟨⟨rfl,h1⟩,h2⟩:=h
    have p:=fun (pos:Pos) => s_bin (op:=op) (pos:=pos) (sound a g h1).1 (sound b g h2).1
    exact ⟨p _,test_val (p _) rfl⟩
  | .neg _,X,e,g,h => absurd (show false = true from h) Bool.false_ne_true
  | .not a,X,e,g,h => by
    cases e with
    | UnaryOp op x pos =>
      cases op <;> simp only [ck_var,ck_bor,ck_cst,ck_glob,ck_bin,ck_neg,ck_not,ck_and,ck_or,ck_ite,ck_cmp,ck_chain,ck_tup,ck_lst,ck_idx,ck_slice,ck_blt,ck_call,ck_comp,Bool.false_eq_true] at h
      exact ⟨s_not (sound a g h).1,t_not (sound a g h).2⟩
    | _ => cases (show false = true from h)
  | .and a b,X,e,g,h => by
    cases e with
    | BoolOp op vs pos =>
      cases op with
      | Or => cases (show false = true from h)
      | And =>
        match vs,h with
        | [],h => cases (show false = true from h)
        | [x],h => cases (show false = true from h)
        | [x,y],h =>
          have h:(chk T a X.N X.env.scope x && chk T b X.N X.env.scope y) = true:=h
          simp only [Bool.and_eq_true] at h
          exact ⟨s_and (sound a g h.1).1 (pe_one (sound b g h.2).1),t_and (sound a g h.1).2 (pw_and1 (sound b g h.2).2)⟩
        | x :: y :: z :: r,h =>
          have h:(chk T a X.N X.env.scope x && chk T b X.N X.env.scope (.BoolOp .And (y :: z :: r) pos)) = true:=h
          simp only [Bool.and_eq_true] at h
          exact ⟨s_and (sound a g h.1).1 (sound b g h.2).1,t_and (sound a g h.1).2 (pw_of (sound b g h.2).2)⟩
    | _ => cases (show false = true from h)
  | .or a b,X,e,g,h => by
    cases e with
    | BoolOp op vs pos =>
      cases op with
      | And => cases (show false = true from h)
      | Or =>
        match vs,h with
        | [],h => cases (show false = true from h)
        | [x],h => cases (show false = true from h)
        | [x,y],h =>
          have h:(chk T a X.N X.env.scope x && chk T b X.N X.env.scope y) = true:=h
          simp only [Bool.and_eq_true] at h
          exact ⟨s_or (sound a g h.1).1 (pe_one (sound b g h.2).1),t_or (sound a g h.1).2 (pw_or1 (sound b g h.2).2)⟩
        | x :: y :: z :: r,h =>
          have h:(chk T a X.N X.env.scope x && chk T b X.N X.env.scope (.BoolOp .Or (y :: z :: r) pos)) = true:=h
          simp only [Bool.and_eq_true] at h
          exact ⟨s_or (sound a g h.1).1 (sound b g h.2).1,t_or (sound a g h.1).2 (pw_of (sound b g h.2).2)⟩
    | _ => cases (show false = true from h)
  | .ite c a b,X,e,g,h => by
    cases e <;> simp only [ck_var,ck_bor,ck_cst,ck_glob,ck_bin,ck_neg,ck_not,ck_and,ck_or,ck_ite,ck_cmp,ck_chain,ck_tup,ck_lst,ck_idx,ck_slice,ck_blt,ck_call,ck_comp,Bool.false_eq_true,Bool.and_eq_true,Bool.not_eq_true'] at h
    obtain ⟨⟨⟨⟨h1,h2⟩,h3⟩,h4⟩,h5⟩:=h
    exact ⟨s_ite (sound c g h1).2 (sound a g h2).1 (sound b g h3).1 h4 h5,t_ite (sound c g h1).2 (sound a g h2).2 (sound b g h3).2⟩
  | .cmp op a b,X,e,g,h => by
    cases e with
    | Compare l ops rs pos =>
      match ops,rs,h with
      | [o],[r],h =>
        simp only [ck_var,ck_bor,ck_cst,ck_glob,ck_bin,ck_neg,ck_not,ck_and,ck_or,ck_ite,ck_cmp,ck_chain,ck_tup,ck_lst,ck_idx,ck_slice,ck_blt,ck_call,ck_comp,Bool.and_eq_true,beq_iff_eq,Bool.not_eq_true'] at h
        obtain ⟨⟨⟨rfl,h1⟩,h2⟩,h3⟩:=h
        exact s_cmp g (sound a g h1).1 (sound b g h2).1 h3
      | [],_,h => cases (show false = true from h)
      | [_],[],h => cases (show false = true from h)
      | [_],_ :: _ :: _,h => cases (show false = true from h)
      | _ :: _ :: _,_,h => cases (show false = true from h)
    | _ => cases (show false = true from h)
  | .chain _ _ _ _ _,X,e,g,h => absurd (show false = true from h) Bool.false_ne_true
  | .tup es,X,e,g,h => by
    cases e <;> simp only [ck_var,ck_bor,ck_cst,ck_glob,ck_bin,ck_neg,ck_not,ck_and,ck_or,ck_ite,ck_cmp,ck_chain,ck_tup,ck_lst,ck_idx,ck_slice,ck_blt,ck_call,ck_comp,Bool.false_eq_true,Bool.and_eq_true] at h
    have p:=fun (j:Nat) (pos:Pos) => s_tup (j:=j) (pos:=pos) (sounds es g h.1) h.2
    exact ⟨p _ _,test_val (p _ _) rfl⟩
  | .lst es,X,e,g,h => by
    cases e <;> simp only [ck_var,ck_bor,ck_cst,ck_glob,ck_bin,ck_neg,ck_not,ck_and,ck_or,ck_ite,ck_cmp,ck_chain,ck_tup,ck_lst,ck_idx,ck_slice,ck_blt,ck_call,ck_comp,Bool.false_eq_true,Bool.and_eq_true] at h
    have p:=fun (pos:Pos) => fresh_val (fun ρ v hv => by
      rw [ev,Option.bind_eq_some_iff] at hv
      obtain ⟨vs,_,hv⟩:=hv
      split at hv
      · cases hv; exact ⟨_,rfl⟩
      · cases hv) (s_lst (pos:=pos) (sounds es g h.1) h.2)
    exact ⟨p _,test_val (p _) rfl⟩
  | .idx a i,X,e,g,h => by
    cases e with
    | Subscript v s pos =>
      cases s <;> first
        | (simp only [ck_var,ck_bor,ck_cst,ck_glob,ck_bin,ck_neg,ck_not,ck_and,ck_or,ck_ite,ck_cmp,ck_chain,ck_tup,ck_lst,ck_idx,ck_slice,ck_blt,ck_call,ck_comp,Bool.and_eq_true,Bool.false_eq_true] at h
           obtain ⟨⟨h1,h2⟩,h3⟩:=h
           have p:=s_idx (pos:=pos) (sound a g h1).1 (sound i g h2).1 h3
           exact ⟨p,test_val p rfl⟩)
        | (simp [ck_var,ck_bor,ck_cst,ck_glob,ck_bin,ck_neg,ck_not,ck_and,ck_or,ck_ite,ck_cmp,ck_chain,ck_tup,ck_lst,ck_idx,ck_slice,ck_blt,ck_call,ck_comp,notSlice] at h)
    | _ => cases (show false = true from h)
  | .slice a lo hi,X,e,g,h => by
    cases e with
    | Subscript v s pos =>
      cases s with
      | Slice l u st p2 =>
        cases st with
        | none =>
          have h:(chk T a X.N X.env.scope v && boundB (fun e => chk T lo X.N X.env.scope e) (isNonE lo) l && boundB (fun e => chk T hi X.N X.env.scope e) (isNonE hi) u) = true:=h
          simp only [Bool.and_eq_true] at h
          obtain ⟨⟨h1,h2⟩,h3⟩:=h
          have q1:PO X l (tB1 X.K cal lo):=by
            cases l with
            | none => exact b_none h2
            | some l =>
              simp only [boundB,Bool.and_eq_true,Bool.not_eq_true'] at h2
              exact b_some (sound lo g h2.1).1 h2.2
          have q2:PO X u (tB1 X.K cal hi):=by
            cases u with
            | none => exact b_none h3
            | some u =>
              simp only [boundB,Bool.and_eq_true,Bool.not_eq_true'] at h3
              exact b_some (sound hi g h3.1).1 h3.2
          have p:=s_slice (p2:=p2) (pos:=pos) (sound a g h1).1 q1 q2
          exact ⟨p,test_val p rfl⟩
        | some _ => cases (show false = true from h)
      | _ => cases (show false = true from h)
    | _ => cases (show false = true from h)
  | .blt b es,X,e,g,h => by
    cases e with
    | Call fn args kws pos =>
      cases fn with
      | Name x p =>
        cases kws with
        | nil =>
          have h:(x == (bltOf b:Str) && glB X.env.scope x && bltArgs X.env.scope (fun xs => chks T es X.N X.env.scope xs) es.length b args) = true:=h
          simp only [Bool.and_eq_true,beq_iff_eq] at h
          obtain ⟨⟨hx,hg⟩,ha⟩:=h
          have q:=(s_bltAll (p:=p) (pos:=pos) g hx hg ha (fun xs hxs => ⟨sounds es g hxs,chks_star hxs⟩) (fun m x hm hx => match es,hm with | [m'],rfl => (sound m' g (by simp only [chks,Bool.and_eq_true] at hx; exact hx.1.1)).1) (fun a b x x' hm hx => match es,hm with | [m1,m2],rfl => ⟨(sound m1 g (by simp only [chks,Bool.and_eq_true] at hx; exact hx.1.1)).1,(sound m2 g (by simp only [chks,Bool.and_eq_true] at hx; exact hx.2.1.1)).1⟩)).2
          exact ⟨q,test_val q rfl⟩
        | cons _ _ => cases (show false = true from h)
      | _ => cases (show false = true from h)
    | _ => cases (show false = true from h)
  | .call f es,X,e,g,h => by
    cases e with
    | Call fn args kws pos =>
      cases fn with
      | Name x p =>
        cases kws with
        | nil =>
          have h:(T.fs[f]? == some x && glB X.env.scope x && plainName x && chks T es X.N X.env.scope args) = true:=h
          simp only [Bool.and_eq_true,beq_iff_eq] at h
          obtain ⟨⟨⟨h1,h2⟩,h3⟩,h4⟩:=h
          obtain ⟨hs,hl⟩:=chks_star h4
          have q:=s_call (p:=p) (pos:=pos) g h1 h2 h3 (soundA es g h4) hs hl
          exact ⟨q,test_val q rfl⟩
        | cons _ _ => cases (show false = true from h)
      | _ => cases (show false = true from h)
    | _ => cases (show false = true from h)
  | .callD _ _ _,X,e,g,h => absurd (show false = true from h) Bool.false_ne_true
  | .join x m,X,e,g,h => by
    obtain ⟨q,e1,h⟩:=onQ_of (show onQ (joinQ e) (fun q => q.1 == x && q.2.1 == ("join":Str) && chk T m X.N X.env.scope q.2.2.1 && notStar q.2.2.1 && q.2.2.2.1.endLine == q.2.2.2.2.line) = true from h)
    obtain ⟨y,md,a,ap,cp⟩:=q
    obtain ⟨j,p,rfl⟩:=joinQ_of e1
    obtain ⟨a1,h5⟩:=Bool.and_eq_true_iff.mp h
    obtain ⟨a2,h4⟩:=Bool.and_eq_true_iff.mp a1
    obtain ⟨a3,h3⟩:=Bool.and_eq_true_iff.mp a2
    obtain ⟨h1,h2⟩:=Bool.and_eq_true_iff.mp a3
    obtain rfl:y = x:=eq_of_beq h1
    obtain rfl:md = ("join":Str):=eq_of_beq h2
    have q:PE X (.Call (.Attribute (.Constant (.str y) j p) "join" ap) [a] [] cp) (tE X.K cal (.join y m)):=s_join (sound m g h3).1 h4 h5
    exact ⟨q,test_val q rfl⟩
  | .cdat x m,X,e,g,h => by
    obtain ⟨q,e1,h⟩:=onQ_of (show onQ (cdatQ e) (fun q => q.1 == x && glB X.env.scope q.1 && plainName q.1 && chk T m X.N X.env.scope q.2 && notSlice q.2 && cTab.any fun t => t.1 == x) = true from h)
    obtain ⟨y,a⟩:=q
    obtain ⟨p,pos,rfl⟩:=cdatQ_of e1
    obtain ⟨a0,h6⟩:=Bool.and_eq_true_iff.mp h
    obtain ⟨a1,h5⟩:=Bool.and_eq_true_iff.mp a0
    obtain ⟨a2,h4⟩:=Bool.and_eq_true_iff.mp a1
    obtain ⟨a3,h3⟩:=Bool.and_eq_true_iff.mp a2
    obtain ⟨h1,h2⟩:=Bool.and_eq_true_iff.mp a3
    obtain rfl:y = x:=eq_of_beq h1
    have q:PE X (.Subscript (.Name y p) a pos) (tE X.K cal (.cdat y m)):=s_cdat g h2 h3 h6 (sound m g h4).1 (by intro ov iv; cases a <;> first | rfl | (cases h5; done))
    exact ⟨q,test_val q rfl⟩
  | .comp2 src js cond elt,X,e,g,h => by
    obtain ⟨z,e1,h⟩:=onQ_of (show onQ (comp2X e) (fun q => compScB2 X.env.scope X.N q.2.2.2.1 q.2.2.2.2.1 q.2.2.2.2.2 (fvsOf X.N js) js && chkW X.env.scope true (fun xs => chks T src X.N X.env.scope xs) sk2 q.2.1 && condB (fun c => chk T cond (q.2.2.2.2.1 :: ([q.2.2.2.2.2] ++ fvsOf X.N js)) (relS q.2.2.2.1 X.env.scope) c) cond q.2.2.1 && chk T elt (q.2.2.2.2.1 :: ([q.2.2.2.2.2] ++ fvsOf X.N js)) (relS q.2.2.2.1 X.env.scope) q.1 && !isBor elt) = true from h)
    obtain ⟨px,py,j,tp,pos,rfl⟩:=comp2X_of e1
    obtain ⟨a1,h5⟩:=Bool.and_eq_true_iff.mp h
    obtain ⟨a2,h4⟩:=Bool.and_eq_true_iff.mp a1
    obtain ⟨a3,h3⟩:=Bool.and_eq_true_iff.mp a2
    obtain ⟨h1,h2⟩:=Bool.and_eq_true_iff.mp a3
    have h5:isBor elt = false:=by simpa using h5
    have hw:=s_walk (tg:=.Tuple [.Name z.2.2.2.2.1 px,.Name z.2.2.2.2.2 py] j tp) (fun _ => ⟨_,_,_,rfl⟩) g h2 (fun xs hxs => ⟨sounds src g hxs,chks_star hxs⟩) (fun m x hm hx => match src,hm with | [m'],rfl => (sound m' g (by simp only [chks,Bool.and_eq_true] at hx; exact hx.1.1)).1)
    have q:=fresh_val comp2_lst (s_comp2 (pos:=pos) g h1 (fun s₁ H₁ C fp => pg_two g h1) hw.1 hw.2 (fun s₁ H₁ C fp => s_cond h3 fun c hc => (sound cond (g.blk z.2.2.2.2.1 ([z.2.2.2.2.2] ++ fvsOf X.N js) z.2.2.2.1 s₁ H₁ C fp) hc).2) (fun s₁ H₁ C fp => (sound elt (g.blk z.2.2.2.2.1 ([z.2.2.2.2.2] ++ fvsOf X.N js) z.2.2.2.1 s₁ H₁ C fp) h4).1) h5)
    exact ⟨q,test_val q rfl⟩
  | .lenP i,X,e,g,h => by
    have h:(match lenP? e with | some (x,y) => x == ("len":Str) && glB X.env.scope x && nameAt X.N X.env.scope i y | none => false) = true:=h
    split at h
    · rename_i x y hl
      obtain ⟨p,yp,pos,rfl⟩:=lenP_of hl
      obtain ⟨h5,h3⟩:=(iff_of_eq (Bool.and_eq_true _ _)).mp h
      obtain ⟨h4,h2⟩:=(iff_of_eq (Bool.and_eq_true _ _)).mp h5
      have hx:x = ("len":Str):=eq_of_beq h4
      subst hx
      have q:PE X (.Call (.Name ("len":Str) p) [.Name y yp] [] pos) (tE X.K cal (.lenP i)):=s_lenP g h2 h3
      exact ⟨q,test_val q rfl⟩
    · cases h
  | .dIn _ _ _,X,e,g,h => absurd (show false = true from h) Bool.false_ne_true
  | .dat _ _,X,e,g,h => absurd (show false = true from h) Bool.false_ne_true
  | .dget _ _ _,X,e,g,h => absurd (show false = true from h) Bool.false_ne_true
  | .comp k' src js cond elt,X,e,g,h => by
    cases e with
    | ListComp e gens scope pos =>
      match gens,h with
      | [],h => cases (show false = true from h)
      | ⟨tg,it,ifs,as⟩ :: [],h =>
        cases tg with
        | Name x px =>
          by_cases has:as = 0
          · subst has
            have h:(compScB X.env.scope X.N scope x (fvsOf X.N js) js && chkW X.env.scope false (fun xs => chks T src X.N X.env.scope xs) k' it && condB (fun c => chk T cond (x :: fvsOf X.N js) (relS scope X.env.scope) c) cond ifs && chk T elt (x :: fvsOf X.N js) (relS scope X.env.scope) e && !isBor elt) = true:=h
            simp only [Bool.and_eq_true,Bool.not_eq_true'] at h
            obtain ⟨⟨⟨⟨h1,h2⟩,h3⟩,h4⟩,h5⟩:=h
            have hw:=s_walk (tg:=.Name x px) (fun z => by cases z) g h2 (fun xs hxs => ⟨sounds src g hxs,chks_star hxs⟩) (fun m x hm hx => match src,hm with | [m'],rfl => (sound m' g (by simp only [chks,Bool.and_eq_true] at hx; exact hx.1.1)).1)
            have q:=fresh_val comp_lst (s_comp (pos:=pos) g h1 hw.1 hw.2 (fun s₁ H₁ C fp => s_cond h3 fun c hc => (sound cond (g.blk x (fvsOf X.N js) scope s₁ H₁ C fp) hc).2) (fun s₁ H₁ C fp => (sound elt (g.blk x (fvsOf X.N js) scope s₁ H₁ C fp) h4).1) h5)
            exact ⟨q,test_val q rfl⟩
          · exact absurd h (by
              have:chk T (.comp k' src js cond elt) X.N X.env.scope (.ListComp e [⟨.Name x px,it,ifs,as⟩] scope pos) = false:=by
                rw [ck_comp]
                split <;> first | rfl | (rename_i z; simp_all)
              rw [this]; exact Bool.false_ne_true)
        | _ => cases (show false = true from h)
      | _ :: _ :: _,h => simp [ck_comp] at h
    | _ => cases (show false = true from h)
theorem sounds {T:Tab} {k:Nat} {cal:Cal}:∀ (ms:List ME) {X:Cx} {es:List Expr},Gf X T k cal -> chks T ms X.N X.env.scope es = true -> PA X es (tEs X.K cal ms)
 | [],X,es,g,h => by
  cases es with
  | nil => exact arg_nil
  | cons _ _ => simp [chks] at h
 | m :: ms,X,es,g,h => by
  cases es with
  | nil => simp [chks] at h
  | cons e es =>
   simp only [chks,Bool.and_eq_true] at h
   exact arg_cons (sound m g h.1.1).1 (sounds ms g h.2) h.1.2
theorem soundA {T:Tab} {k:Nat} {cal:Cal}:∀ (ms:List ME) {X:Cx} {es:List Expr},Gf X T k cal -> chks T ms X.N X.env.scope es = true -> PA X es (tAs X.K cal ms)
 | [],X,es,g,h => by
  cases es with
  | nil => exact call_nil
  | cons _ _ => simp [chks] at h
 | m :: ms,X,es,g,h => by
  cases es with
  | nil => simp [chks] at h
  | cons e es =>
   simp only [chks,Bool.and_eq_true] at h
   have hs:=soundA ms g h.2
   cases hb:isBor m with
   | false => exact call_cons hb (sound m g h.1.1).1 hs h.1.2
   | true =>
    cases m <;> simp [isBor] at hb
    have h1:=h.1.1
    cases e <;> simp only [ck_var,ck_bor,ck_cst,ck_glob,ck_bin,ck_neg,ck_not,ck_and,ck_or,ck_ite,ck_cmp,ck_chain,ck_tup,ck_lst,ck_idx,ck_slice,ck_blt,ck_call,ck_comp,Bool.false_eq_true] at h1
    exact call_bor h1 hs
end
theorem soundF {T:Tab} {k:Nat} {cal:Cal} {me:ME} {X:Cx} {e:Expr} (g:Gf X T k cal) (h:chk T me X.N X.env.scope e = true) (hf:freshB me = true):PE X e (tF X.K cal me):=by
 cases me with
 | lst es =>
  cases e <;> simp only [ck_var,ck_bor,ck_cst,ck_glob,ck_bin,ck_neg,ck_not,ck_and,ck_or,ck_ite,ck_cmp,ck_chain,ck_tup,ck_lst,ck_idx,ck_slice,ck_blt,ck_call,ck_comp,Bool.false_eq_true,Bool.and_eq_true] at h
  exact s_lst (sounds es g h.1) h.2
 | blt b es =>
  cases e with
  | Call fn args kws pos =>
   cases fn with
   | Name x p =>
    cases kws with
    | nil =>
     have h:(x == (bltOf b:Str) && glB X.env.scope x && bltArgs X.env.scope (fun xs => chks T es X.N X.env.scope xs) es.length b args) = true:=h
     simp only [Bool.and_eq_true,beq_iff_eq] at h
     obtain ⟨⟨hx,hg⟩,ha⟩:=h
     exact (s_bltAll (p:=p) (pos:=pos) g hx hg ha (fun xs hxs => ⟨sounds es g hxs,chks_star hxs⟩) (fun m x hm hx => match es,hm with | [m'],rfl => (sound m' g (by simp only [chks,Bool.and_eq_true] at hx; exact hx.1.1)).1) (fun a b x x' hm hx => match es,hm with | [m1,m2],rfl => ⟨(sound m1 g (by simp only [chks,Bool.and_eq_true] at hx; exact hx.1.1)).1,(sound m2 g (by simp only [chks,Bool.and_eq_true] at hx; exact hx.2.1.1)).1⟩)).1 hf
    | cons _ _ => cases (show false = true from h)
   | _ => cases (show false = true from h)
  | _ => cases (show false = true from h)
 | comp k' src js cond elt =>
  cases e with
  | ListComp e gens scope pos =>
   match gens,h with
   | [],h => cases (show false = true from h)
   | ⟨tg,it,ifs,as⟩ :: [],h =>
    cases tg with
    | Name x px =>
     by_cases has:as = 0
     ·subst has
      have h:(compScB X.env.scope X.N scope x (fvsOf X.N js) js && chkW X.env.scope false (fun xs => chks T src X.N X.env.scope xs) k' it && condB (fun c => chk T cond (x :: fvsOf X.N js) (relS scope X.env.scope) c) cond ifs && chk T elt (x :: fvsOf X.N js) (relS scope X.env.scope) e && !isBor elt) = true:=h
      simp only [Bool.and_eq_true,Bool.not_eq_true'] at h
      obtain ⟨⟨⟨⟨h1,h2⟩,h3⟩,h4⟩,h5⟩:=h
      have hw:=s_walk (tg:=.Name x px) (fun z => by cases z) g h2 (fun xs hxs => ⟨sounds src g hxs,chks_star hxs⟩) (fun m x hm hx => match src,hm with | [m'],rfl => (sound m' g (by simp only [chks,Bool.and_eq_true] at hx; exact hx.1.1)).1)
      exact s_comp (pos:=pos) g h1 hw.1 hw.2 (fun s₁ H₁ C fp => s_cond h3 fun c hc => (sound cond (g.blk x (fvsOf X.N js) scope s₁ H₁ C fp) hc).2) (fun s₁ H₁ C fp => (sound elt (g.blk x (fvsOf X.N js) scope s₁ H₁ C fp) h4).1) h5
     ·exact absurd h (by
       have:chk T (.comp k' src js cond elt) X.N X.env.scope (.ListComp e [⟨.Name x px,it,ifs,as⟩] scope pos) = false:=by
        rw [ck_comp]
        split <;> first | rfl | (rename_i z; simp_all)
       rw [this]; exact Bool.false_ne_true)
    | _ => cases (show false = true from h)
   | _ :: _ :: _,h => simp [ck_comp] at h
  | _ => cases (show false = true from h)
 | _ => simp [freshB] at hf
theorem soundC {T:Tab} {k:Nat} {cal:Cal} {me:ME} {X:Cx} {e:Expr} (g:Gf X T k cal) (h:chk T me X.N X.env.scope e = true) (hf:catB me = true):PE X e (tF X.K cal me):=by
 cases me with
 | bin op a b =>
  cases op with
  | add =>
   cases e <;> simp only [ck_bin,Bool.false_eq_true,Bool.and_eq_true,beq_iff_eq] at h
   obtain ⟨⟨h1,h2⟩,h3⟩:=h
   subst h1
   exact s_cat (sound a g h2).1 (sound b g h3).1
  | _ => cases hf
 | _ => cases hf
end MM
namespace MM
open PySem PySem.Spec PyProof.Rows L2
noncomputable def brwM:MV -> Bool
 | .brw _ => true
 | .brwD _ => true
 | _ => false
theorem own_brw {m:MV} (h1:ownM m = true) (h2:brwM m = true):False:=by cases m <;> first | (cases h2; done) | (cases h1; done)
structure Keeps (B:Hp) (O O':List Addr) (ρ ρ':Rho) (σ σ':St):Prop where
 stay:∀ a,B a ≠ none -> a ∈ O -> a ∈ O'
 new:∀ a ∈ O',a ∈ O \/ B a = none
 brw:∀ (i:Nat) (m:MV),brwM m = true -> ρ'[i]? = some (some m) -> ρ[i]? = some (some m) /\ σ'[i]? = σ[i]?
 len:ρ'.length = ρ.length
 mutK:∀ (i:Nat) (d':DD),ρ'[i]? = some (some (.mutD d')) -> (∃ d,ρ[i]? = some (some (.mutD d))) /\ σ'[i]? = σ[i]?
theorem Keeps.refl {B:Hp} {O:List Addr} {ρ:Rho} {σ:St}:Keeps B O O ρ ρ σ σ:=⟨fun _ _ h => h,fun _ h => .inl h,fun _ _ _ h => ⟨h,rfl⟩,rfl,fun _ d' h => ⟨⟨d',h⟩,rfl⟩⟩
theorem Keeps.trans {B:Hp} {O O1 O2:List Addr} {ρ ρ1 ρ2:Rho} {σ σ1 σ2:St} (a:Keeps B O O1 ρ ρ1 σ σ1) (b:Keeps B O1 O2 ρ1 ρ2 σ1 σ2):Keeps B O O2 ρ ρ2 σ σ2 where
 stay:=fun x h1 h2 => b.stay x h1 (a.stay x h1 h2)
 new:=fun x h => (b.new x h).elim (a.new x) .inr
 brw:=fun i xs hm h => by
  obtain ⟨h1,e1⟩:=b.brw i xs hm h
  obtain ⟨h2,e2⟩:=a.brw i xs hm h1
  exact ⟨h2,e1.trans e2⟩
 len:=b.len.trans a.len
 mutK:=fun i d' h => by
  obtain ⟨⟨d1,h1⟩,e1⟩:=b.mutK i d' h
  obtain ⟨h2,e2⟩:=a.mutK i d1 h1
  exact ⟨h2,e1.trans e2⟩
noncomputable def EndOk (K:PySem.W.Frag) (B:Hp) (O₀ O:List Addr) (ρ:Rho) (σ:St) (D:Ends):R -> Prop
 | .next ρ' => ∀ σ' H' O',StOk K B O₀ O' H' ρ' σ' -> Keeps B O O' ρ ρ' σ σ' -> D.nx σ' H'
 | .brk ρ' => ∀ σ' H' O',StOk K B O₀ O' H' ρ' σ' -> Keeps B O O' ρ ρ' σ σ' -> D.bk σ' H'
 | .cont ρ' => ∀ σ' H' O',StOk K B O₀ O' H' ρ' σ' -> Keeps B O O' ρ ρ' σ σ' -> D.ct σ' H'
 | .ret v => ∀ u H',Same B H' -> Rep K (hide H' O₀) v u -> D.rt u H'
 | .retM v ρ' => ∀ u σ' H' O',StOk K B O₀ O' H' ρ' σ' -> Keeps B O O' ρ ρ' σ σ' -> Rep K (hide H' O') v u -> D.rt u H'
 | .retF xs => ∀ p us H',Same B H' -> B p = none -> H' p = some (.lst us) -> Reps K (hide H' (p :: O₀)) xs us -> D.rt (.ref p) H'
 | .bad => False
theorem EndOk.trans {K:PySem.W.Frag} {B:Hp} {O₀ O O':List Addr} {ρ ρ':Rho} {σ σ':St} {D:Ends} {r:R} (h:EndOk K B O₀ O ρ σ D r) (k:Keeps B O O' ρ ρ' σ σ'):EndOk K B O₀ O' ρ' σ' D r:=by
 cases r with
 | next ρ2 => exact fun σ2 H2 O2 st k2 => h σ2 H2 O2 st (k.trans k2)
 | brk ρ2 => exact fun σ2 H2 O2 st k2 => h σ2 H2 O2 st (k.trans k2)
 | cont ρ2 => exact fun σ2 H2 O2 st k2 => h σ2 H2 O2 st (k.trans k2)
 | ret v => exact h
 | bad => exact h
 | retF xs => exact h
 | retM v ρ2 => exact fun u σ2 H2 O2 st k2 => h u σ2 H2 O2 st (k.trans k2)
noncomputable def tS (K:PySem.W.Frag) (cal:Cal) (m:MS):TS:=fun D σ H => ∃ B O₀ O ρ,StOk K B O₀ O H ρ σ /\ EndOk K B O₀ O ρ σ D (ex cal m ρ)
noncomputable def tSs (K:PySem.W.Frag) (cal:Cal) (ms:List MS):TS:=fun D σ H => ∃ B O₀ O ρ,StOk K B O₀ O H ρ σ /\ EndOk K B O₀ O ρ σ D (exs cal ms ρ)
section
variable {K:PySem.W.Frag} {B H H':Hp} {O₀ O:List Addr} {ρ:Rho} {σ:St}
theorem getElem?_put_self {i:Nat} {m:MV} (h:i < ρ.length):(put ρ i m)[i]? = some (some m):=by unfold put; exact List.getElem?_set_self h
theorem getElem?_put_ne {i j:Nat} {m:MV} (h:i ≠ j):(put ρ i m)[j]? = ρ[j]?:=by unfold put; exact List.getElem?_set_ne h
theorem put_len {i:Nat} {m:MV}:(put ρ i m).length = ρ.length:=by unfold put; exact List.length_set
theorem StOk.store (st:StOk K B O₀ O H ρ σ) {i:Nat} {v:PV} {u:V} (hi:i < σ.length) (r:Rep K (hide H O) v u):StOk K B O₀ O H (put ρ i (.val v)) (σ.set i (some u)) /\ Keeps B O O ρ (put ρ i (.val v)) σ (σ.set i (some u)):=by
 have hi':i < ρ.length:=by rw [st.len]; exact hi
 refine ⟨⟨st.keep,st.here,st.sub,st.old,by rw [put_len,List.length_set]; exact st.len,fun j m e => ?_,fun a b xs ys ad hab e1 e2 o1 o2 e3 e4 => ?_
  ⟩,⟨fun _ _ h => h,fun _ h => .inl h,fun j xs hbm e => ?_,put_len
  ,fun j d' e => ?_
  ⟩⟩
 ·by_cases hj:i = j
  ·subst hj
   rw [getElem?_put_self hi'] at e
   cases e
   exact ⟨u,List.getElem?_set_self hi,r⟩
  ·rw [getElem?_put_ne hj] at e
   obtain ⟨w,e1,q⟩:=st.slot j m e
   exact ⟨w,by rw [List.getElem?_set_ne hj]; exact e1,q⟩
 ·have h1:i ≠ a:=fun z => by subst z; rw [getElem?_put_self hi'] at e1; cases e1; cases o1
  have h2:i ≠ b:=fun z => by subst z; rw [getElem?_put_self hi'] at e2; cases e2; cases o2
  rw [getElem?_put_ne h1] at e1
  rw [getElem?_put_ne h2] at e2
  rw [List.getElem?_set_ne h1] at e3
  rw [List.getElem?_set_ne h2] at e4
  exact st.apart a b xs ys ad hab e1 e2 o1 o2 e3 e4
 ·have hj:i ≠ j:=fun z => by subst z; rw [getElem?_put_self hi'] at e; cases e; cases hbm
  rw [getElem?_put_ne hj] at e
  exact ⟨e,List.getElem?_set_ne hj⟩
 ·have hj:i ≠ j:=fun z => by subst z; rw [getElem?_put_self hi'] at e; cases e
  rw [getElem?_put_ne hj] at e
  exact ⟨⟨d',e⟩,List.getElem?_set_ne hj⟩
theorem StOk.storeM (st:StOk K B O₀ O H ρ σ) {i:Nat} {mm:MV} {p:Addr} (hi:i < σ.length) (s:Same H H') (hp:H p = none) (e:H' p ≠ none) (hm:ownM mm = true)
  (hmm:∀ d,mm ≠ .mutD d)
  (r:B p = none -> SlotOk K B (p :: O) H' mm (.ref p))
  :
  StOk K B O₀ (p :: O) H' (put ρ i mm) (σ.set i (some (.ref p))) /\ Keeps B O (p :: O) ρ (put ρ i mm) σ (σ.set i (some (.ref p))):=by
 have hi':i < ρ.length:=by rw [st.len]; exact hi
 have hBp:B p = none:=st.keep.free hp
 have vis:Same (hide H O) (hide H' (p :: O)):=hide_mono s fun b hb => by
  rcases List.mem_cons.mp hb with rfl | hb
  ·exact .inr hp
  ·exact .inl hb
 refine ⟨⟨st.keep.trans s,fun a ha => ?_,fun a ha => List.mem_cons_of_mem _ (st.sub a ha),st.old,by rw [put_len,List.length_set]; exact st.len,fun j m ej => ?_,fun a b xs ys ad hab e1 e2 o1 o2 e3 e4 => ?_
  ⟩,⟨fun _ _ h => List.mem_cons_of_mem _ h,fun a ha => ?_,fun j xs hbm ej => ?_,put_len
  ,fun j d' ej => ?_
  ⟩⟩
 ·rcases List.mem_cons.mp ha with rfl | ha
  ·exact e
  ·exact fun z => st.here a ha (s.free z)
 ·by_cases hj:i = j
  ·subst hj
   rw [getElem?_put_self hi'] at ej
   cases ej
   exact ⟨_,List.getElem?_set_self hi,r hBp⟩
  ·rw [getElem?_put_ne hj] at ej
   obtain ⟨w,e1,q⟩:=st.slot j m ej
   refine ⟨w,by rw [List.getElem?_set_ne hj]; exact e1,?_⟩
   cases m with
   | val v => exact Rep.mono vis _ q
   | own ys => obtain ⟨a,ws,e2,h1,h2,h3,h4⟩:=q; exact ⟨a,ws,e2,s _ _ h1,Reps.mono vis _ h2,List.mem_cons_of_mem _ h3,h4⟩
   | brw ys => obtain ⟨a,ws,e2,h1,h2⟩:=q; exact ⟨a,ws,e2,h1,Reps.mono vis _ h2⟩
   | ownD ys => obtain ⟨a,e2,h1,h3,h4⟩:=q; exact ⟨a,e2,s _ _ h1,List.mem_cons_of_mem _ h3,h4⟩
   | mutD ys => obtain ⟨a,e2,h1,h3,h4⟩:=q; exact ⟨a,e2,s _ _ h1,List.mem_cons_of_mem _ h3,h4⟩
   | brwD ys => exact q
 ·have other:∀ (j:Nat) (zs:MV) (ad:Addr),ρ[j]? = some (some zs) -> ownM zs = true -> σ[j]? = some (some (.ref ad)) -> ad ≠ p:=fun j zs ad h1 ho h2 z => by
   obtain ⟨w,e1,q⟩:=st.slot j _ h1
   rw [h2] at e1
   cases e1
   cases zs with
   | own zs =>
    obtain ⟨a,ws,e2,h1,_⟩:=q
    cases e2
    rw [z,hp] at h1; cases h1
   | ownD zs =>
    obtain ⟨a,e2,h1,_⟩:=q
    cases e2
    rw [z,hp] at h1; cases h1
   | mutD zs =>
    obtain ⟨a,e2,h1,_⟩:=q
    cases e2
    rw [z,hp] at h1; cases h1
   | val _ => cases ho
   | brw _ => cases ho
   | brwD _ => cases ho
  by_cases ha:i = a
  ·subst ha
   have hb:i ≠ b:=hab
   rw [List.getElem?_set_self hi] at e3
   rw [getElem?_put_ne hb] at e2
   rw [List.getElem?_set_ne hb] at e4
   cases e3
   exact other b ys _ e2 o2 e4 rfl
  ·by_cases hb:i = b
   ·subst hb
    rw [List.getElem?_set_self hi] at e4
    rw [getElem?_put_ne ha] at e1
    rw [List.getElem?_set_ne ha] at e3
    cases e4
    exact other a xs _ e1 o1 e3 rfl
   ·rw [getElem?_put_ne ha] at e1
    rw [getElem?_put_ne hb] at e2
    rw [List.getElem?_set_ne ha] at e3
    rw [List.getElem?_set_ne hb] at e4
    exact st.apart a b _ _ ad hab e1 e2 o1 o2 e3 e4
 ·rcases List.mem_cons.mp ha with rfl | ha
  ·exact .inr hBp
  ·exact .inl ha
 ·have hj:i ≠ j:=fun z => by subst z; rw [getElem?_put_self hi'] at ej; cases ej; exact own_brw hm hbm
  rw [getElem?_put_ne hj] at ej
  exact ⟨ej,List.getElem?_set_ne hj⟩
 ·have hj:i ≠ j:=fun z => by subst z; rw [getElem?_put_self hi'] at ej; cases ej; exact hmm d' rfl
  rw [getElem?_put_ne hj] at ej
  exact ⟨⟨d',ej⟩,List.getElem?_set_ne hj⟩
theorem StOk.storeOwn (st:StOk K B O₀ O H ρ σ) {i:Nat} {xs:List PV} {p:Addr} {us:List V} (hi:i < σ.length) (s:Same H H') (hp:H p = none) (e:H' p = some (.lst us)) (r:Reps K (hide H' (p :: O)) xs us) :
  StOk K B O₀ (p :: O) H' (put ρ i (.own xs)) (σ.set i (some (.ref p))) /\ Keeps B O (p :: O) ρ (put ρ i (.own xs)) σ (σ.set i (some (.ref p))) :=
 st.storeM hi s hp (by rw [e]; simp) rfl (fun _ z => by cases z) fun hB => ⟨p,us,rfl,e,r,List.mem_cons_self,hB⟩
theorem StOk.changeM (st:StOk K B O₀ O H ρ σ) {i:Nat} {m0 m1:MV} {a:Addr} {ob:HO} (e:ρ[i]? = some (some m0)) (o0:ownM m0 = true) (o1:ownM m1 = true)
  (om:∀ d',m1 = .mutD d' -> ∃ d,m0 = .mutD d)
  (es:σ[i]? = some (some (.ref a))) (h3:a ∈ O) (h4:B a = none) (r:hide (upd H a ob) O = hide H O -> SlotOk K B O (upd H a ob) m1 (.ref a))
  :
  StOk K B O₀ O (upd H a ob) (put ρ i m1) σ /\ Keeps B O O ρ (put ρ i m1) σ σ:=by
 have hi':i < ρ.length:=(List.getElem?_eq_some_iff.mp e).1
 have hid:hide (upd H a ob) O = hide H O:=hide_upd h3
 have other:∀ (j:Nat) (zs:MV) (ad:Addr),i ≠ j -> ρ[j]? = some (some zs) -> ownM zs = true -> σ[j]? = some (some (.ref ad)) -> ad ≠ a:=fun j zs ad hj q1 o2 q2 z => by
  subst z
  exact st.apart i j m0 zs ad hj e q1 o0 o2 es q2
 refine ⟨⟨fun b u eb => ?_,fun b hb => ?_,st.sub,st.old,by rw [put_len]; exact st.len,fun j m ej => ?_,fun c d ps qs ad hcd e1 e2 p1 p2 e3 e4 => ?_
  ⟩,⟨fun _ _ h => h,fun _ h => .inl h,fun j zs hbm ej => ?_,put_len
  ,fun j d' ej => ?_
  ⟩⟩
 ·rw [upd_ne (ne_of_none eb h4)]
  exact st.keep b u eb
 ·unfold upd
  split
  ·simp
  ·exact st.here b hb
 ·by_cases hj:i = j
  ·subst hj
   rw [getElem?_put_self hi'] at ej
   cases ej
   exact ⟨_,es,r hid⟩
  ·rw [getElem?_put_ne hj] at ej
   obtain ⟨w,ew,q⟩:=st.slot j m ej
   refine ⟨w,ew,?_⟩
   cases m with
   | val v => show Rep K (hide (upd H a ob) O) v w; rw [hid]; exact q
   | own zs =>
    obtain ⟨ad,ws,rfl,q1,q2,q3,q4⟩:=q
    refine ⟨ad,ws,rfl,?_,by rw [hid]; exact q2,q3,q4⟩
    rw [upd_ne (other j (.own zs) ad hj ej rfl ew)]
    exact q1
   | ownD zs =>
    obtain ⟨ad,rfl,q1,q3,q4⟩:=q
    refine ⟨ad,rfl,?_,q3,q4⟩
    rw [upd_ne (other j (.ownD zs) ad hj ej rfl ew)]
    exact q1
   | mutD zs =>
    obtain ⟨ad,rfl,q1,q3,q4⟩:=q
    refine ⟨ad,rfl,?_,q3,q4⟩
    rw [upd_ne (other j (.mutD zs) ad hj ej rfl ew)]
    exact q1
   | brwD zs => exact q
   | brw zs => obtain ⟨ad,ws,rfl,q1,q2⟩:=q; exact ⟨ad,ws,rfl,q1,by rw [hid]; exact q2⟩
 ·have h1:∀ (j:Nat) (zs:MV),(put ρ i m1)[j]? = some (some zs) -> ownM zs = true -> ∃ zs,ρ[j]? = some (some zs) /\ ownM zs = true:=fun j zs q oz => by
   by_cases hj:i = j
   ·subst hj; exact ⟨m0,e,o0⟩
   ·rw [getElem?_put_ne hj] at q; exact ⟨zs,q,oz⟩
  obtain ⟨q1,e1,p1⟩:=h1 c ps e1 p1
  obtain ⟨q2,e2,p2⟩:=h1 d qs e2 p2
  exact st.apart c d q1 q2 ad hcd e1 e2 p1 p2 e3 e4
 ·have hj:i ≠ j:=fun z => by subst z; rw [getElem?_put_self hi'] at ej; cases ej; exact own_brw o1 hbm
  rw [getElem?_put_ne hj] at ej
  exact ⟨ej,rfl⟩
 ·by_cases hj:i = j
  ·subst hj
   rw [getElem?_put_self hi'] at ej
   cases ej
   obtain ⟨d,rfl⟩:=om d' rfl
   exact ⟨⟨d,e⟩,rfl⟩
  ·rw [getElem?_put_ne hj] at ej
   exact ⟨⟨d',ej⟩,rfl⟩
theorem StOk.change (st:StOk K B O₀ O H ρ σ) {i:Nat} {xs ys:List PV} {a:Addr} {us:List V} (e:ρ[i]? = some (some (.own xs))) (es:σ[i]? = some (some (.ref a))) (r:Reps K (hide H O) ys us) :
  StOk K B O₀ O (upd H a (.lst us)) (put ρ i (.own ys)) σ /\ Keeps B O O ρ (put ρ i (.own ys)) σ σ:=by
 obtain ⟨w,e1,a',us',e2,h1,h2,h3,h4⟩:=st.slot i _ e
 rw [es] at e1
 cases e1
 cases e2
 exact st.changeM e rfl rfl (fun _ z => by cases z) es h3 h4 fun hid => ⟨a,us,rfl,upd_same,by rw [hid]; exact r,h3,h4⟩
theorem StOk.changeD (st:StOk K B O₀ O H ρ σ) {i:Nat} {xs ys:DD} {a:Addr} (e:ρ[i]? = some (some (.ownD xs))) (es:σ[i]? = some (some (.ref a))) :
  StOk K B O₀ O (upd H a (encD ys)) (put ρ i (.ownD ys)) σ /\ Keeps B O O ρ (put ρ i (.ownD ys)) σ σ:=by
 obtain ⟨w,e1,a',e2,h1,h3,h4⟩:=st.slot i _ e
 rw [es] at e1
 cases e1
 cases e2
 exact st.changeM e rfl rfl (fun _ z => by cases z) es h3 h4 fun _ => ⟨a,rfl,upd_same,h3,h4⟩
theorem StOk.changeU (st:StOk K B O₀ O H ρ σ) {i:Nat} {xs ys:DD} {a:Addr} (e:ρ[i]? = some (some (.mutD xs))) (es:σ[i]? = some (some (.ref a))) :
  StOk K B O₀ O (upd H a (encD ys)) (put ρ i (.mutD ys)) σ /\ Keeps B O O ρ (put ρ i (.mutD ys)) σ σ:=by
 obtain ⟨w,e1,a',e2,h1,h3,h4⟩:=st.slot i _ e
 rw [es] at e1
 cases e1
 cases e2
 exact st.changeM e rfl rfl (fun _ _ => ⟨_,rfl⟩) es h3 h4 fun _ => ⟨a,rfl,upd_same,h3,h4⟩
theorem StOk.freeze (st:StOk K B O₀ O H ρ σ) {i:Nat} {xs:List PV} (e:ρ[i]? = some (some (.own xs))):∃ O',StOk K B O₀ O' H (put ρ i (.val (.lst xs))) σ /\ Keeps B O O' ρ (put ρ i (.val (.lst xs))) σ σ:=by
 obtain ⟨w,es,a,us,rfl,h1,h2,h3,h4⟩:=st.slot i _ e
 have hi':i < ρ.length:=(List.getElem?_eq_some_iff.mp e).1
 have vis:Same (hide H O) (hide H (O.filter fun b => decide (b ≠ a))):=hide_mono (Same.refl H) fun b hb => .inl (List.mem_filter.mp hb).1
 have mem:∀ b,b ≠ a -> b ∈ O -> b ∈ O.filter fun b => decide (b ≠ a):=fun b hb ho => List.mem_filter.mpr ⟨ho,decide_eq_true hb⟩
 refine ⟨O.filter fun b => decide (b ≠ a),⟨st.keep,fun b hb => st.here b (List.mem_filter.mp hb).1,fun b hb => mem b (fun z => st.old b hb (z ▸ h4)) (st.sub b hb),st.old,by rw [put_len]; exact st.len,fun j m ej => ?_,fun c d ps qs ad hcd e1 e2 p1 p2 e3 e4 => ?_
  ⟩,⟨fun b hb ho => mem b (fun z => hb (z ▸ h4)) ho,fun b hb => .inl (List.mem_filter.mp hb).1,fun j zs hbm ej => ?_,put_len
  ,fun j d' ej => ?_
  ⟩⟩
 ·by_cases hj:i = j
  ·subst hj
   rw [getElem?_put_self hi'] at ej
   cases ej
   refine ⟨_,es,?_⟩
   show Rep K _ (.lst xs) (.ref a)
   rw [Rep]
   refine ⟨a,us,rfl,SqL.of ?_,Reps.mono vis _ h2⟩
   have hna:a ∉ O.filter fun b => decide (b ≠ a):=fun z => by simpa using (List.mem_filter.mp z).2
   rw [hide_out hna]
   exact h1
  ·rw [getElem?_put_ne hj] at ej
   obtain ⟨w,ew,q⟩:=st.slot j m ej
   refine ⟨w,ew,?_⟩
   cases m with
   | val v => exact Rep.mono vis _ q
   | own zs =>
    obtain ⟨ad,ws,rfl,q1,q2,q3,q4⟩:=q
    exact ⟨ad,ws,rfl,q1,Reps.mono vis _ q2,mem ad (fun z => st.apart i j (.own xs) (.own zs) a hj e ej rfl rfl es (by rw [ew,z])) q3,q4⟩
   | ownD zs =>
    obtain ⟨ad,rfl,q1,q3,q4⟩:=q
    exact ⟨ad,rfl,q1,mem ad (fun z => st.apart i j (.own xs) (.ownD zs) a hj e ej rfl rfl es (by rw [ew,z])) q3,q4⟩
   | mutD zs =>
    obtain ⟨ad,rfl,q1,q3,q4⟩:=q
    exact ⟨ad,rfl,q1,mem ad (fun z => st.apart i j (.own xs) (.mutD zs) a hj e ej rfl rfl es (by rw [ew,z])) q3,q4⟩
   | brwD zs => exact q
   | brw zs => obtain ⟨ad,ws,rfl,q1,q2⟩:=q; exact ⟨ad,ws,rfl,q1,Reps.mono vis _ q2⟩
 ·have h1:∀ (j:Nat) (zs:MV),ownM zs = true -> (put ρ i (.val (.lst xs)))[j]? = some (some zs) -> ρ[j]? = some (some zs):=fun j zs oz q => by
   by_cases hj:i = j
   ·subst hj; rw [getElem?_put_self hi'] at q; cases q; cases oz
   ·rw [getElem?_put_ne hj] at q; exact q
  exact st.apart c d ps qs ad hcd (h1 c ps p1 e1) (h1 d qs p2 e2) p1 p2 e3 e4
 ·have hj:i ≠ j:=fun z => by subst z; rw [getElem?_put_self hi'] at ej; cases ej; cases hbm
  rw [getElem?_put_ne hj] at ej
  exact ⟨ej,rfl⟩
 ·have hj:i ≠ j:=fun z => by subst z; rw [getElem?_put_self hi'] at ej; cases ej
  rw [getElem?_put_ne hj] at ej
  exact ⟨⟨d',ej⟩,rfl⟩
end
end MM
namespace MM
open PySem PySem.Spec PyProof.Rows L2
section
open AutoSeq1 (wpAny_loadPart')
open MeetsSeq MeetsSeq2 MeetsSeq3 SeqRoads2 AutoSeq1
theorem list_extendT (l:Addr) (items:Array Value) (n:Nat) (b:Addr) (items2:Array Value) (n2:Nat) (dd2:Option Addr) (sl2:Array (Option Value)) (hs0:¬(!items.isEmpty && Builtin.List.listTooLong (items.size + items2.size)) = true) (hs1:items.size <= sizeLine) (hs2:items.size + items2.size <= sizeLine + 1) :
  Meets (Builtin.«list.extend» ⟨[.ref l,.ref b],[]⟩) (fun _ R s => s.heap.get? l = some { cls:=.type "list",dict:=none,data:=.seq items n,slots:=#[] } /\ s.heap.get? b = some { cls:=.type "tuple",dict:=dd2,data:=.seq items2 n2,slots:=sl2 } /\ R (.ok (.ret Value.none)) { s with heap:=s.heap.update l (Obj.mapSeq fun x => x ++ items2),toks:=s.toks }) :=
 .of_wp fun prog w A R s h => by
  obtain ⟨hp,g,d,tk,os⟩:=s; obtain ⟨hl,hb,h⟩:=h; have f1:=AutoSeq1.idx_int; have f2:=AutoSeq1.sub_tuple_tuple; have f3:=AutoSeq1.sub_list_list; have f4:=AutoSeq1.sub_tuple_list; have f5:=AutoSeq1.sub_list_tuple;
  have hz':(items ++ items2).size <= sizeLine + 1:=by rw [Array.size_append]; exact hs2
  wp_walk using (wpAny_updateSeq hl rfl (hz:=hs1) (_hz':=hz')),wpAny_loadPart' hl,wpAny_loadPart' hb; exact ⟨_,rfl,h⟩
theorem list_extendL (l:Addr) (items:Array Value) (n:Nat) (b:Addr) (items2:Array Value) (n2:Nat) (dd2:Option Addr) (sl2:Array (Option Value)) (hs0:¬(!items.isEmpty && Builtin.List.listTooLong (items.size + items2.size)) = true) (hs1:items.size <= sizeLine) (hs2:items.size + items2.size <= sizeLine + 1) :
  Meets (Builtin.«list.extend» ⟨[.ref l,.ref b],[]⟩) (fun _ R s => s.heap.get? l = some { cls:=.type "list",dict:=none,data:=.seq items n,slots:=#[] } /\ s.heap.get? b = some { cls:=.type "list",dict:=dd2,data:=.seq items2 n2,slots:=sl2 } /\ R (.ok (.ret Value.none)) { s with heap:=s.heap.update l (Obj.mapSeq fun x => x ++ items2),toks:=s.toks }) :=
 .of_wp fun prog w A R s h => by
  obtain ⟨hp,g,d,tk,os⟩:=s; obtain ⟨hl,hb,h⟩:=h; have f1:=AutoSeq1.idx_int; have f2:=AutoSeq1.sub_tuple_tuple; have f3:=AutoSeq1.sub_list_list; have f4:=AutoSeq1.sub_tuple_list; have f5:=AutoSeq1.sub_list_tuple;
  have hz':(items ++ items2).size <= sizeLine + 1:=by rw [Array.size_append]; exact hs2
  wp_walk using (wpAny_updateSeq hl rfl (hz:=hs1) (_hz':=hz')),wpAny_loadPart' hl,wpAny_loadPart' hb; exact ⟨_,rfl,h⟩
end
section
variable {X:Cx} {T:Tab} {k:Nat} {cal:Cal}
theorem mt_extendS:MtM X "list.extend" (fun x vs H Q => ∃ l b xs zs,x = .ref l /\ vs = [.ref b] /\ H l = some (.lst xs) /\ (SqL X.K H b zs \/ SqT X.K H b zs) /\ xs.length + zs.length <= sizeLine /\ Q .non (upd H l (.lst (xs ++ zs)))):=by
 intro pins s σ H x vs v us Q I rx rv h
 obtain ⟨l,b,xs,zs,rfl,rfl,hH,hB,hz,q⟩:=h
 cases rx
 obtain ⟨u,rfl,ru⟩:=rv.one
 cases ru
 obtain ⟨z,its,n,r,hl,e⟩:=I.lstM hH
 have fin:∀ its2:List Value,Vals zs its2 -> EP X pins σ Q .none { s with heap:=s.heap.update l (Obj.mapSeq fun x => x ++ its2.toArray),toks:=s.toks }:=fun its2 r2 =>
  ⟨.non,_,I.lset (its':=its ++ its2) hH e (by simp) (r.append r2) (by rw [List.length_append]; omega),rfl,q⟩
 rcases hB with hB | hB
 ·obtain ⟨its2,r2,pl,z2⟩:=I.list hB
  have hl2:=r2.length
  have hsz:its.toArray.size + its2.toArray.size <= sizeLine:=by rw [List.size_toArray,List.size_toArray]; omega
  have hlong:¬ (!its.toArray.isEmpty && Builtin.List.listTooLong (its.toArray.size + its2.toArray.size)) = true:=by
   rw [notLongL hsz,Bool.and_false]
   exact Bool.false_ne_true
  obtain ⟨⟨cls,dd,data,sl⟩,ho,hc,n2,hd⟩:=pl.isList
  simp only at hc hd
  subst hc hd
  exact call_meets PySem.F.slot_list_extend ⟨_,e,rfl⟩ PySem.F.entry_list_extend (PySem.F.args_list_extend_2 _ _) (list_extendL l its.toArray n b its2.toArray n2 dd sl hlong (by rw [List.size_toArray]; omega) (by omega)) ⟨e,ho,fin its2 r2⟩
 ·obtain ⟨its2,r2,pl,z2⟩:=I.tuple hB
  have hl2:=r2.length
  have hsz:its.toArray.size + its2.toArray.size <= sizeLine:=by rw [List.size_toArray,List.size_toArray]; omega
  have hlong:¬ (!its.toArray.isEmpty && Builtin.List.listTooLong (its.toArray.size + its2.toArray.size)) = true:=by
   rw [notLongL hsz,Bool.and_false]
   exact Bool.false_ne_true
  obtain ⟨⟨cls,dd,data,sl⟩,ho,hc,n2,hd⟩:=pl
  simp only at hc hd
  subst hc hd
  exact call_meets PySem.F.slot_list_extend ⟨_,e,rfl⟩ PySem.F.entry_list_extend (PySem.F.args_list_extend_2 _ _) (list_extendT l its.toArray n b its2.toArray n2 dd sl hlong (by rw [List.size_toArray]; omega) (by omega)) ⟨e,ho,fin its2 r2⟩
structure Df (X:Cx):Prop where
 nd:X.N.Nodup
 fn:∀ x,X.fn x = true
 own:PassesOwn (model X.prog X.w) X.A X.env X.xe
 blk:(X.env.blockKind == .function) = true
theorem swap_false {v:Expr} (h:notComp v = true) (t:Option Expr) (n:Nat) (env:Env):swapsWith v t n env = pure false:=by
 cases v <;> first | rfl | (simp [notComp] at h)
theorem swap_true {v:Expr} {x:Str} {px:Pos} {n:Nat} (d:Df X) (h:swapB X.env.scope x px v = true):swapsWith v (some (.Name x px)) n X.env = pure true:=by
 cases v with
 | ListComp e gs s p =>
  show pure (X.env.blockKind == .function && X.env.kindOf x == some .local && px.line == p.line && !(s.names.any fun (n,k) => n == x && (k == .local || k == .cell))) = pure true
  have h':(X.env.scope.names.lookup x == some .local && px.line == p.line && !(s.names.any fun (n,k) => n == x && (k == .local || k == .cell))) = true:=h
  rw [d.blk,Bool.true_and]
  exact congrArg pure h'
 | _ => simp [swapB] at h
theorem PS.imp' {e:Stmt} {t t':TS} (h:PS X e t) (i:∀ D σ H,σ.length = X.N.length -> t' D σ H -> t D σ H):PS X e t':=fun pins s σ H D I q => h pins s σ H D I (i D σ H I.len q)
theorem ltN {N:List Str} {i:Nat} {x:Str} {σ:St} (h:N[i]? = some x) (hl:σ.length = N.length):i < σ.length:=by rw [hl]; exact (List.getElem?_eq_some_iff.mp h).1
theorem bindR_end {K:PySem.W.Frag} {B:Hp} {O₀ O:List Addr} {ρ:Rho} {σ:St} {D:Ends} {o:Option PV} {f:PV -> R} (h:EndOk K B O₀ O ρ σ D (bindR o f)):∃ v,o = some v /\ EndOk K B O₀ O ρ σ D (f v):=by
 cases o with
 | none => exact (show False from h).elim
 | some v => exact ⟨v,rfl,h⟩
theorem bindB_end {K:PySem.W.Frag} {B:Hp} {O₀ O:List Addr} {ρ:Rho} {σ:St} {D:Ends} {o:Option Bool} {f:Bool -> R} (h:EndOk K B O₀ O ρ σ D (bindB o f)):∃ v,o = some v /\ EndOk K B O₀ O ρ σ D (f v):=by
 cases o with
 | none => exact (show False from h).elim
 | some v => exact ⟨v,rfl,h⟩
theorem set_go {i:Nat} {me:ME} {σ:St} {H:Hp} {D:Ends} {K:PySem.W.Frag} (hi:i < σ.length) (hb:isBor me = false) (q:tS K cal (.set i me) D σ H):tAsg (tE K cal me) (gName i) D σ H:=by
 obtain ⟨B,O₀,O,ρ,st,q⟩:=q
 rw [ex] at q
 obtain ⟨w,e,q⟩:=bindR_end q
 refine ⟨B,O₀,O,ρ,w,st,e,fun u H' s g => ?_⟩
 obtain ⟨st',k'⟩:=(st.mono s).store hi (g.2 hb)
 exact q _ H' O st' k'
theorem z_set {i:Nat} {me:ME} {x:Str} {v:Expr} {px pos:Pos} (d:Df X) (hi:X.N[i]? = some x) (hx:Loc X.env.scope x) (h:PE X v (tE X.K cal me)) (hb:isBor me = false) (hc:notComp v = true):PS X (.Assign [.Name x px] v pos) (tS X.K cal (.set i me)) :=
 PS.imp' (ps_set d.nd hi hx h (swap_false hc _ _ _) (.inl (d.fn x))) fun D σ H hl q => set_go (ltN hi hl) hb q
theorem own_go {i:Nat} {me:ME} {σ:St} {H:Hp} {D:Ends} {K:PySem.W.Frag} (hi:i < σ.length) (q:tS K cal (.setOwn i me) D σ H):tAsg (tF K cal me) (gName i) D σ H:=by
 obtain ⟨B,O₀,O,ρ,st,q⟩:=q
 rw [ex] at q
 obtain ⟨w,e,q⟩:=bindR_end q
 cases w with
 | lst xs =>
  refine ⟨B,O₀,O,ρ,xs,st,e,fun p us H' s hp he r => ?_⟩
  obtain ⟨st',k'⟩:=st.storeOwn hi s hp he r
  exact q _ H' _ st' k'
 | _ => exact (show False from q).elim
theorem z_own {i:Nat} {me:ME} {x:Str} {v:Expr} {px pos:Pos} (d:Df X) (hi:X.N[i]? = some x) (hx:Loc X.env.scope x) (h:PE X v (tF X.K cal me)) (hc:notComp v = true):PS X (.Assign [.Name x px] v pos) (tS X.K cal (.setOwn i me)) :=
 PS.imp' (ps_set d.nd hi hx h (swap_false hc _ _ _) (.inl (d.fn x))) fun D σ H hl q => own_go (ltN hi hl) q
theorem z_append {i:Nat} {me:ME} {x:Str} {v:Expr} {p apos cpos pos:Pos} (h:PE X v (tE X.K cal me)) (hn:nameAt X.N X.env.scope i x = true) (hb:isBor me = false) (hs:notStar v = true) (hline:(apos.endLine == cpos.line) = true) :
  PS X (.Expr (.Call (.Attribute (.Name x p) "append" apos) [v] [] cpos) pos) (tS X.K cal (.append i me)):=by
 refine (ps_expr (pe_bm PySem.F.plainAttrs_list PySem.F.slot_list_append PySem.F.type_list_append mt_append (name_at hn) (pa_cons h pa_nil (star1 hs _ _)) rfl (by rw [star1 hs]; rfl) hline (star1 hs _ _) rfl) rfl).imp fun D σ H q => ?_
 obtain ⟨B,O₀,O,ρ,st,q⟩:=q
 rw [ex] at q
 obtain ⟨w,e,q⟩:=bindR_end q
 cases hj:(ρ[i]?).join with
 | none => rw [hj] at q; exact (show False from q).elim
 | some m =>
  rw [hj] at q
  cases m with
  | own xs =>
   dsimp only at q
   split at q
   ·rename_i hl
    obtain ⟨u,eu,a,us,rfl,ha,rs,hO,hB⟩:=slot_of st hj
    refine ⟨_,eu,.inl ⟨rfl,us,SqL.of ha⟩,B,O₀,O,ρ,w,st,e,fun u H1 s g => ⟨a,us,u,rfl,rfl,s _ _ ha,?_,?_⟩⟩
    ·rw [<- rs.length]; exact Nat.lt_of_lt_of_le hl (by decide)
    ·obtain ⟨st',k'⟩:=(st.mono s).change (us:=us ++ [u]) (ys:=xs ++ [w]) (join_some hj) eu ((Reps.mono (hide_same s) _ rs).snoc (g.2 hb))
     exact q _ _ _ st' k'
   ·exact (show False from q).elim
  | val _ => exact (show False from q).elim
  | brw _ => exact (show False from q).elim
  | ownD _ => exact (show False from q).elim
  | mutD _ => exact (show False from q).elim
  | brwD _ => exact (show False from q).elim
theorem z_extend {i:Nat} {me:ME} {x:Str} {v:Expr} {p apos cpos pos:Pos} (h:PE X v (tE X.K cal me)) (hn:nameAt X.N X.env.scope i x = true) (hs:notStar v = true) (hline:(apos.endLine == cpos.line) = true) :
  PS X (.Expr (.Call (.Attribute (.Name x p) "extend" apos) [v] [] cpos) pos) (tS X.K cal (.extend i me)):=by
 refine (ps_expr (pe_bm PySem.F.plainAttrs_list PySem.F.slot_list_extend PySem.F.type_list_extend mt_extendS (name_at hn) (pa_cons h pa_nil (star1 hs _ _)) rfl (by rw [star1 hs]; rfl) hline (star1 hs _ _) rfl) rfl).imp fun D σ H q => ?_
 obtain ⟨B,O₀,O,ρ,st,q⟩:=q
 rw [ex] at q
 obtain ⟨w,e,q⟩:=bindR_end q
 cases hj:(ρ[i]?).join with
 | none => rw [hj] at q; exact (show False from q).elim
 | some m =>
  rw [hj] at q
  cases m with
  | own xs =>
   cases hw:seq? w with
   | none => rw [hw] at q; exact (show False from q).elim
   | some ys =>
    rw [hw] at q
    dsimp only at q
    split at q
    ·rename_i hl
     obtain ⟨u,eu,a,us,rfl,ha,rs,hO,hB⟩:=slot_of st hj
     refine ⟨_,eu,.inl ⟨rfl,us,SqL.of ha⟩,B,O₀,O,ρ,w,st,e,fun u H1 s g => ?_⟩
     obtain ⟨b,ws,rfl,sq,rw'⟩:=g.1.seq hw
     refine ⟨a,b,us,ws,rfl,rfl,s _ _ ha,sq,?_,?_⟩
     ·rw [<- rs.length,<- rw'.length]; exact size10000 hl
     ·obtain ⟨st',k'⟩:=(st.mono s).change (us:=us ++ ws) (ys:=xs ++ ys) (join_some hj) eu ((Reps.mono (hide_same s) _ rs).append rw')
      exact q _ _ _ st' k'
    ·exact (show False from q).elim
  | val _ => exact (show False from q).elim
  | brw _ => exact (show False from q).elim
  | ownD _ => exact (show False from q).elim
  | mutD _ => exact (show False from q).elim
  | brwD _ => exact (show False from q).elim
theorem z_ret {me:ME} {v:Expr} {pos:Pos} (h:PE X v (tE X.K cal me)) (hb:isBor me = false):PS X (.Return (some v) pos) (tS X.K cal (.ret me)):=by
 refine (ps_ret h).imp fun D σ H q => ?_
 obtain ⟨B,O₀,O,ρ,st,q⟩:=q
 rw [ex] at q
 obtain ⟨w,e,q⟩:=bindR_end q
 exact ⟨B,O₀,O,ρ,w,st,e,fun u H' s g => q u H' (st.keep.trans s) (Rep.mono (hide_mono (Same.refl H') fun b hb => .inl (st.sub b hb)) _ (g.2 hb))⟩
theorem z_retM {me:ME} {v:Expr} {pos:Pos} (h:PE X v (tE X.K cal me)) (hb:isBor me = false):PS X (.Return (some v) pos) (tS X.K cal (.retM me)):=by
 refine (ps_ret h).imp fun D σ H q => ?_
 obtain ⟨B,O₀,O,ρ,st,q⟩:=q
 rw [ex] at q
 obtain ⟨w,e,q⟩:=bindR_end q
 exact ⟨B,O₀,O,ρ,w,st,e,fun u H' s g => q u σ H' O (st.mono s) .refl (g.2 hb)⟩
theorem z_retOwn {i:Nat} {x:Str} {p pos:Pos} (hn:nameAt X.N X.env.scope i x = true):PS X (.Return (some (.Name x p)) pos) (tS X.K cal (.retOwn i)):=by
 refine (ps_ret (name_at hn)).imp fun D σ H q => ?_
 obtain ⟨B,O₀,O,ρ,st,q⟩:=q
 rw [ex] at q
 have low:Same (hide H O) (hide H O₀):=hide_mono (Same.refl H) fun b hb => .inl (st.sub b hb)
 cases hj:(ρ[i]?).join with
 | none => rw [hj] at q; exact (show False from q).elim
 | some m =>
  rw [hj] at q
  cases m with
  | own xs =>
   obtain ⟨u,eu,a,us,rfl,ha,rs,hO,hB⟩:=slot_of st hj
   refine ⟨_,eu,q _ H st.keep ?_⟩
   rw [Rep]
   refine ⟨a,us,rfl,SqL.of ?_,Reps.mono low _ rs⟩
   rw [hide_out fun z => st.old a z hB]
   exact ha
  | val v =>
   obtain ⟨u,eu,so⟩:=slot_of st hj
   exact ⟨_,eu,q _ H st.keep (Rep.mono low _ so)⟩
  | brw _ => exact (show False from q).elim
  | mutD _ => exact (show False from q).elim
  | ownD kvs =>
   dsimp only at q
   split at q
   ·rename_i np
    obtain ⟨u,eu,a,rfl,ha,hO,hB⟩:=slot_of st hj
    refine ⟨_,eu,q _ H st.keep ?_⟩
    rw [Rep]
    refine ⟨a,rfl,.inl ?_,np⟩
    rw [hide_out fun z => st.old a z hB]
    exact ha
   ·exact (show False from q).elim
  | brwD _ => exact (show False from q).elim
theorem z_if {c:ME} {a b:List MS} {t:Expr} {x y:List Stmt} {pos:Pos} (hc:PT X t (tT X.K cal c)) (ha:PSs X x (tSs X.K cal a)) (hb:PSs X y (tSs X.K cal b)):PS X (.If t x y pos) (tS X.K cal (.ite c a b)):=by
 refine (ps_if hc ha hb).imp fun D σ H q => ?_
 obtain ⟨B,O₀,O,ρ,st,q⟩:=q
 rw [ex] at q
 obtain ⟨w,e,q⟩:=bindB_end q
 refine ⟨B,O₀,O,ρ,w,st,e,fun H' s => ?_⟩
 cases w with
 | true => rw [if_pos rfl] at q ⊢; exact ⟨B,O₀,O,ρ,st.mono s,q⟩
 | false => rw [if_neg (by simp)] at q ⊢; exact ⟨B,O₀,O,ρ,st.mono s,q⟩
theorem z_cons {m:MS} {ms:List MS} {st:Stmt} {ss:List Stmt} (h1:PS X st (tS X.K cal m)) (h2:PSs X ss (tSs X.K cal ms)):PSs X (st :: ss) (tSs X.K cal (m :: ms)):=by
 refine (pss_cons h1 h2).imp fun D σ H q => ?_
 obtain ⟨B,O₀,O,ρ,st,q⟩:=q
 refine ⟨B,O₀,O,ρ,st,?_⟩
 rw [exs] at q
 cases e:ex cal m ρ with
 | next ρ' => rw [e] at q; exact fun σ' H' O' st' k => ⟨B,O₀,O',ρ',st',EndOk.trans q k⟩
 | brk ρ' => rw [e] at q; exact q
 | cont ρ' => rw [e] at q; exact q
 | ret v => rw [e] at q; exact q
 | bad => rw [e] at q; exact q
 | retF xs => rw [e] at q; exact q
 | retM v ρ2 => rw [e] at q; exact q
theorem z_nil:PSs X [] (tSs X.K cal []):=by
 refine pss_nil.imp fun D σ H q => ?_
 obtain ⟨B,O₀,O,ρ,st,q⟩:=q
 rw [exs] at q
 exact q σ H O st .refl
end
end MM
namespace MM
open PySem PySem.Spec PyProof.Rows L2
inductive MArgs (σ:St) (ρ:Rho):List Bool -> List ME -> List MV -> List V -> List Addr -> List Nat -> Prop where
 | nil:MArgs σ ρ [] [] [] [] [] []
 | mutd {i:Nat} {d:DD} {a:Addr} {bs:List Bool} {es:List ME} {as:List MV} {vs:List V} {ms:List Addr} {is:List Nat} (hd:mutOf (ρ[i]?).join = some d) (hσ:σ[i]? = some (some (.ref a))) (hi:i ∉ is) (ha:a ∉ ms) (t:MArgs σ ρ bs es as vs ms is):MArgs σ ρ (true :: bs) (.bor i :: es) (.mutD d :: as) (.ref a :: vs) (a :: ms) (i :: is)
 | other {e:ME} {m:MV} {v:V} {bs:List Bool} {es:List ME} {as:List MV} {vs:List V} {ms:List Addr} {is:List Nat} (hm:∀ d,m ≠ .mutD d) (t:MArgs σ ρ bs es as vs ms is):MArgs σ ρ (false :: bs) (e :: es) (m :: as) (v :: vs) ms is
theorem mut_slot {o:Option MV} {d:DD} (h:mutOf o = some d):o = some (.ownD d) \/ o = some (.mutD d):=by
 match o,h with
 | some (.ownD _),rfl => exact .inl rfl
 | some (.mutD _),rfl => exact .inr rfl
section
variable {σ:St} {ρ:Rho} {bs:List Bool} {es:List ME} {as:List MV} {vs:List V} {ms:List Addr} {is:List Nat}
theorem MArgs.addr (h:MArgs σ ρ bs es as vs ms is):∀ a ∈ ms,∃ j ∈ is,σ[j]? = some (some (.ref a)) /\ ∃ d,mutOf (ρ[j]?).join = some d:=by
 induction h with
 | nil => intro a ha; cases ha
 | mutd hd hσ hi ha t ih =>
  intro b hb
  rcases List.mem_cons.mp hb with rfl | hb
  ·exact ⟨_,.head _,hσ,_,hd⟩
  ·obtain ⟨j,h1,h2⟩:=ih b hb
   exact ⟨j,.tail _ h1,h2⟩
 | other hm t ih => exact ih
theorem MArgs.put (h:MArgs σ ρ bs es as vs ms is) {i:Nat} {d:DD} (hi:i ∉ is):MArgs σ (putD ρ i d) bs es as vs ms is:=by
 induction h with
 | nil => exact .nil
 | mutd hd hσ hi2 ha t ih =>
  rename_i j _ _ _ _ _ _ _ is
  refine .mutd ?_ hσ hi2 ha (ih fun z => hi (.tail _ z))
  have hij:i ≠ j:=fun z => hi (z ▸ .head _)
  have:(putD ρ i d)[j]? = ρ[j]?:=by
   unfold putD
   split <;> exact List.getElem?_set_ne hij
  rw [this]
  exact hd
 | other hm t ih => exact .other hm (ih hi)
theorem MArgs.at {K:PySem.W.Frag} {B H:Hp} {O₀ O:List Addr} (st:StOk K B O₀ O H ρ σ) (h:MArgs σ ρ bs es as vs ms is):∃ ds,MutAt H as vs ds ms:=by
 induction h with
 | nil => exact ⟨[],.nil⟩
 | mutd hd hσ hi ha t ih =>
  obtain ⟨ds,q⟩:=ih
  rename_i i d a bs es as vs ms is
  refine ⟨.dI d :: ds,.mutd (d':=d) ?_ ha q⟩
  rcases mut_slot hd with e | e
  ·obtain ⟨u,eu,a',e2,h1,_⟩:=st.slot _ _ (join_some e)
   rw [hσ] at eu
   cases eu
   cases e2
   exact h1
  ·obtain ⟨u,eu,a',e2,h1,_⟩:=st.slot _ _ (join_some e)
   rw [hσ] at eu
   cases eu
   cases e2
   exact h1
 | other hm t ih =>
  obtain ⟨ds,q⟩:=ih
  exact ⟨ds,.other hm q⟩
theorem putM_ok {K:PySem.W.Frag} {B H':Hp} {O₀ O:List Addr}:∀ {bs:List Bool} {es:List ME} {as:List MV} {vs:List V} {ms:List Addr} {is:List Nat} {ρ ρ':Rho} {H:Hp} {ds:List PV},MArgs σ ρ bs es as vs ms is -> StOk K B O₀ O H ρ σ -> (∀ b o,b ∉ ms -> H b = some o -> H' b = some o) -> MutAt H' as vs ds ms -> putM bs es ds ρ = some ρ' -> StOk K B O₀ O H' ρ' σ /\ Keeps B O O ρ ρ' σ σ
 | _,_,_,_,_,_,ρ,ρ',H,ds,.nil,st,hk,hm,e => by
  cases hm
  rw [putM] at e
  cases e
  exact ⟨st.mono fun b o eb => hk b o (fun z => nomatch z) eb,.refl⟩
 | _,_,_,_,_,_,ρ,ρ',H,ds,.other hn t,st,hk,hm,e => by
  cases hm with
  | mutd => exact absurd rfl (hn _)
  | other _ hm =>
   rw [putM] at e
   exact putM_ok t st hk hm e
 | _,_,_,_,_,_,ρ,ρ',H,ds,.mutd (i:=i) (a:=a) hd hσ hi ha t,st,hk,hm,e => by
  cases hm with
  | other h0 => exact absurd rfl (h0 _)
  | mutd h1 h2 hm =>
   rename_i d' ds
   rw [putM] at e
   have key:StOk K B O₀ O (upd H a (encD d')) (putD ρ i d') σ /\ Keeps B O O ρ (putD ρ i d') σ σ:=by
    rcases mut_slot hd with q | q
    ·have e1:putD ρ i d' = put ρ i (.ownD d'):=by unfold putD; rw [q]; rfl
     rw [e1]
     exact st.changeD (join_some q) hσ
    ·have e1:putD ρ i d' = put ρ i (.mutD d'):=by unfold putD; rw [q]; rfl
     rw [e1]
     exact st.changeU (join_some q) hσ
   obtain ⟨st1,k1⟩:=key
   obtain ⟨st2,k2⟩:=putM_ok (t.put hi) st1 (fun b o hb eb => by
    by_cases z:b = a
    ·subst z
     rw [upd_same] at eb
     rw [h1]
     exact eb
    ·rw [upd_ne z] at eb
     exact hk b o (fun w => (List.mem_cons.mp w).elim z hb) eb) hm e
   exact ⟨st2,k1.trans k2⟩
end
noncomputable def tAM (K:PySem.W.Frag) (cal:Cal) (mask:List Bool) (ms:List ME):TA:=fun σ H Q => ∃ B O₀ O ρ vs,StOk K B O₀ O H ρ σ /\ evM cal mask ms ρ = some vs /\ ∀ us H' as,Same H H' -> Paired (ArgM K O H') vs us -> MArgs σ ρ mask ms vs us as (maskIs mask ms) -> Q us H'
section
variable {X:Cx} {T:Tab} {k:Nat} {cal:Cal}
theorem call_nilM:PA X [] (tAM X.K cal [] []):=by
 refine pa_nil.imp fun σ H Q q => ?_
 obtain ⟨B,O₀,O,ρ,vs,st,e1,q⟩:=q
 rw [evM] at e1
 cases e1
 exact q [] H [] (Same.refl H) .nil .nil
theorem call_mut {i:Nat} {bs:List Bool} {ms:List ME} {x:Str} {pos:Pos} {es:List Expr} (h:nameAt X.N X.env.scope i x = true) (hi:i ∉ maskIs bs ms) (hs:PA X es (tAM X.K cal bs ms)):PA X (.Name x pos :: es) (tAM X.K cal (true :: bs) (.bor i :: ms)):=by
 refine (pa_cons (name_at h) hs rfl).imp fun σ H Q q => ?_
 obtain ⟨B,O₀,O,ρ,vs,st,e1,q⟩:=q
 rw [evM] at e1
 simp only [Option.bind_eq_some_iff,Option.map_eq_some_iff] at e1
 obtain ⟨d,e1,ws,e2,rfl⟩:=e1
 obtain ⟨m,hj,om,so⟩:∃ m,(ρ[i]?).join = some m /\ ownM m = true /\ ∃ a,σ[i]? = some (some (.ref a)) /\ H a = some (encD d) /\ a ∈ O:=by
  rcases mut_slot e1 with e | e
  ·obtain ⟨u,eu,a,rfl,h1,h2,_⟩:=slot_of st e
   exact ⟨_,e,rfl,a,eu,h1,h2⟩
  ·obtain ⟨u,eu,a,rfl,h1,h2,_⟩:=slot_of st e
   exact ⟨_,e,rfl,a,eu,h1,h2⟩
 obtain ⟨a,eu,h1,h2⟩:=so
 refine ⟨_,eu,B,O₀,O,ρ,ws,st,e2,fun us H2 as s2 g2 ma => q (.ref a :: us) H2 (a :: as) s2 (.cons ⟨a,rfl,s2 _ _ h1,h2⟩ g2) (.mutd e1 eu hi (fun z => ?_) ma)⟩
 obtain ⟨j,hj2,ej,d2,hd2⟩:=ma.addr a z
 have hij:i ≠ j:=fun w => hi (w ▸ hj2)
 rcases mut_slot hd2 with e | e
 ·exact st.apart i j m _ a hij (join_some hj) (join_some e) om rfl eu ej
 ·exact st.apart i j m _ a hij (join_some hj) (join_some e) om rfl eu ej
theorem call_consM {m:ME} {bs:List Bool} {ms:List ME} {e:Expr} {es:List Expr} (hb:isBor m = false) (h:PE X e (tE X.K cal m)) (hs:PA X es (tAM X.K cal bs ms)) (hn:notStar e = true):PA X (e :: es) (tAM X.K cal (false :: bs) (m :: ms)):=by
 refine (pa_cons h hs (star1 hn es _)).imp fun σ H Q q => ?_
 obtain ⟨B,O₀,O,ρ,vs,st,e1,q⟩:=q
 rw [evM,Option.bind_eq_some_iff] at e1
 obtain ⟨a,e0,e1⟩:=e1
 have e0':(ev cal m ρ).bind (fun v => some [MV.val v]) = some a:=by
  rw [<- e0]
  cases m <;> first | (cases hb; done) | (simp only [evA]; rfl)
 rw [Option.bind_eq_some_iff] at e0'
 obtain ⟨v,e9,e8⟩:=e0'
 cases e8
 dsimp only at e1
 rw [Option.map_eq_some_iff] at e1
 obtain ⟨ws,e2,rfl⟩:=e1
 exact ⟨B,O₀,O,ρ,v,st,e9,fun u H1 s1 g1 => ⟨B,O₀,O,ρ,ws,st.mono s1,e2,fun us H2 as s2 g2 ma => q (u :: us) H2 as (s1.trans s2) (.cons (show Rep X.K (hide H2 O) v u from (g1.mono s2).2 hb) g2) (.other (fun _ z => by cases z) ma)⟩⟩
theorem call_borM {i:Nat} {bs:List Bool} {ms:List ME} {x:Str} {pos:Pos} {es:List Expr} (h:nameAt X.N X.env.scope i x = true) (hs:PA X es (tAM X.K cal bs ms)):PA X (.Name x pos :: es) (tAM X.K cal (false :: bs) (.bor i :: ms)):=by
 refine (pa_cons (name_at h) hs rfl).imp fun σ H Q q => ?_
 obtain ⟨B,O₀,O,ρ,vs,st,e1,q⟩:=q
 rw [evM,Option.bind_eq_some_iff] at e1
 obtain ⟨a,e0,e1⟩:=e1
 rw [evA,evA] at e0
 cases hj:(ρ[i]?).join with
 | none => rw [hj] at e0; cases e0
 | some m =>
  rw [hj] at e0
  obtain ⟨u,eu,so⟩:=slot_of st hj
  cases m with
  | val w =>
   cases e0
   dsimp only at e1
   rw [Option.map_eq_some_iff] at e1
   obtain ⟨ws,e2,rfl⟩:=e1
   exact ⟨u,eu,⟨B,O₀,O,ρ,ws,st,e2,fun us H2 as s2 g2 ma => q (u :: us) H2 as s2 (.cons (show Rep X.K (hide H2 O) w u from Rep.mono (hide_same s2) _ so) g2) (.other (fun _ z => by cases z) ma)⟩⟩
  | own ys => cases e0; cases e1
  | brw ys => cases e0; cases e1
  | ownD ys => cases e0; cases e1
  | mutD ys => cases e0; cases e1
  | brwD ys => cases e0; cases e1
theorem soundM (g:Gf X T k cal):∀ (bs:List Bool) (ms:List ME) (es:List Expr),chks T ms X.N X.env.scope es = true -> maskOk bs ms = true -> (maskIs bs ms).Nodup -> PA X es (tAM X.K cal bs ms)
 | [],[],es,h,_,_ => by
  cases es with
  | nil => exact call_nilM
  | cons _ _ => simp [chks] at h
 | [],_ :: _,_,_,h2,_ => by cases h2
 | true :: _,[],_,_,h2,_ => by cases h2
 | false :: _,[],_,_,h2,_ => by cases h2
 | b :: bs,m :: ms,es,h,h2,hn => by
  cases es with
  | nil => simp [chks] at h
  | cons e es =>
   simp only [chks,Bool.and_eq_true] at h
   cases b with
   | true =>
    have h2':(isBor m && maskOk bs ms) = true:=h2
    rw [Bool.and_eq_true] at h2'
    have hb:=h2'.1
    cases m <;> simp [isBor] at hb
    have h1:=h.1.1
    cases e <;> simp only [ck_bor,Bool.false_eq_true] at h1
    obtain ⟨n1,n2⟩:=List.nodup_cons.mp (show (_ :: maskIs bs ms).Nodup from hn)
    exact call_mut h1 n1 (soundM g bs ms es h.2 h2'.2 n2)
   | false =>
    have hs:=soundM g bs ms es h.2 (show maskOk bs ms = true from h2) (show (maskIs bs ms).Nodup from hn)
    cases hb:isBor m with
    | false => exact call_consM hb (sound m g h.1.1).1 hs h.1.2
    | true =>
     cases m <;> simp [isBor] at hb
     have h1:=h.1.1
     cases e <;> simp only [ck_bor,Bool.false_eq_true] at h1
     exact call_borM h1 hs
end
end MM
namespace MM
open PySem PySem.Spec PyProof.Rows L2
theorem valM_some {cal:Cal} {f:Nat} {mask:List Bool} {ms:List ME} {ρ ρ':Rho} {v:PV} (h:valM cal f mask ms ρ = some (v,ρ')):∃ ds,((evM cal mask ms ρ).bind fun vs => cal (f + 2000) vs) = some (.tup (v :: ds)) /\ putM mask ms ds ρ = some ρ':=by
 unfold valM at h
 split at h
 ·rename_i v ds e
  rw [Option.map_eq_some_iff] at h
  obtain ⟨ρ2,e2,e3⟩:=h
  cases e3
  exact ⟨ds,e,e2⟩
 ·cases h
section
variable {X:Cx} {T:Tab} {k:Nat} {cal:Cal}
noncomputable def tMr (K:PySem.W.Frag) (cal:Cal) (f:Nat) (mask:List Bool) (ms:List ME):TE:=fun σ H Q => ∃ B O₀ O ρ vs v ds,StOk K B O₀ O H ρ σ /\ evM cal mask ms ρ = some vs /\ cal (f + 2000) vs = some (.tup (v :: ds)) /\
 ∀ u us as H1 H',Same H H1 -> MArgs σ ρ mask ms vs us as (maskIs mask ms) -> (∀ b o,b ∉ as -> H1 b = some o -> H' b = some o) -> MutAt H' vs us ds as -> Rep K (hide H' O) v u -> Q u H'
theorem s_callR {f:Nat} {mask:List Bool} {ms:List ME} {x:Str} {e:Expr} {es:List Expr} {p pos:Pos} (g:Gf X T k cal) (hf:T.fs[f]? = some x) (hg:glB X.env.scope x = true) (hn:plainName x = true) (ha:PA X (e :: es) (tAM X.K cal mask ms)) (hs:(e :: es).all notStar = true):PE X (.Call (.Name x p) (e :: es) [] pos) (tMr X.K cal f mask ms):=by
 obtain ⟨fa,fd,ps,h1,h2,h3,F⟩:=g.fnsD f x hf
 simp only [List.all_cons,Bool.and_eq_true] at hs
 refine (pe_call F g.room (glOf hg) h1 h2 h3 .nil pass0 ha (plainOf hn).1 (star1 hs.1 es _) (backTo_any hs.2)).imp fun σ H Q q => ?_
 obtain ⟨B,O₀,O,ρ,vs,v,ds,st,e1,e3,q⟩:=q
 refine ⟨B,O₀,O,ρ,vs,st,e1,fun us H1 as s1 g1 ma => ?_⟩
 show spD X.K cal f (us ++ []) H1 Q E0
 rw [List.append_nil]
 obtain ⟨ds₀,hat⟩:=ma.at (st.mono s1)
 exact ⟨O,vs,v,ds,ds₀,as,here_mono s1 st.here,g1,hat,e3,fun u H' hk hm ru => q u us as H1 H' s1 ma hk hm ru⟩
end
end MM
namespace MM
open PySem PySem.Spec PyProof.Rows L2
theorem MutAt.mono {H H':Hp} {args:List MV} {vs:List V} {ds:List PV} {ms:List Addr} (h:MutAt H args vs ds ms) (s:∀ a ∈ ms,∀ o,H a = some o -> H' a = some o):MutAt H' args vs ds ms:=by
 induction h with
 | nil => exact .nil
 | mutd h hn t ih => exact .mutd (s _ (.head _) _ h) hn (ih fun a ha => s a (.tail _ ha))
 | other h t ih => exact .other h (ih s)
theorem MutAt.here {H:Hp} {args:List MV} {vs:List V} {ds:List PV} {ms:List Addr} (h:MutAt H args vs ds ms):∀ a ∈ ms,H a ≠ none:=by
 induction h with
 | nil => intro a ha; cases ha
 | mutd h hn t ih =>
  intro b hb
  rcases List.mem_cons.mp hb with rfl | hb
  ·rw [h]; simp
  ·exact ih b hb
 | other h t ih => exact ih
theorem MArgs.own {K:PySem.W.Frag} {B H:Hp} {O₀ O:List Addr} {σ:St} {ρ:Rho} {bs:List Bool} {es:List ME} {as:List MV} {vs:List V} {ms:List Addr} {is:List Nat} (st:StOk K B O₀ O H ρ σ) (h:MArgs σ ρ bs es as vs ms is):∀ a ∈ ms,a ∈ O /\ B a = none /\ ∃ d,H a = some (encD d):=fun a ha => by
 obtain ⟨j,_,e1,d,e2⟩:=h.addr a ha
 rcases mut_slot e2 with e | e
 ·obtain ⟨u,eu,a',rfl,h1,h2,h3⟩:=slot_of st e
  rw [e1] at eu
  cases eu
  exact ⟨h2,h3,d,h1⟩
 ·obtain ⟨u,eu,a',rfl,h1,h2,h3⟩:=slot_of st e
  rw [e1] at eu
  cases eu
  exact ⟨h2,h3,d,h1⟩
theorem view_call {H1 H':Hp} {O as:List Addr} (h:∀ a ∈ as,a ∈ O) (hk:∀ b o,b ∉ as -> H1 b = some o -> H' b = some o):Same (hide H1 O) (hide H' O):=fun b o e => by
 have hb:b ∉ O:=fun z => by rw [hide_in z] at e; cases e
 rw [hide_out hb] at e ⊢
 exact hk b o (fun z => hb (h b z)) e
section
variable {X:Cx} {T:Tab} {k:Nat} {cal:Cal}
end
end MM
namespace MM
open PySem PySem.Spec PyProof.Rows L2
section
variable {X:Cx} {T:Tab} {k:Nat} {cal:Cal}
noncomputable def tX (K:PySem.W.Frag) (cal:Cal) (x:XE):TE:=fun σ H Q => ∃ B O₀ O ρ v ρ',StOk K B O₀ O H ρ σ /\ evX cal x ρ = some (v,ρ') /\
 ∀ u H',Same (hide H O) (hide H' O) -> StOk K B O₀ O H' ρ' σ -> Keeps B O O ρ ρ' σ σ -> Rep K (hide H' O) v u -> Q u H'
noncomputable def tXs (K:PySem.W.Frag) (cal:Cal) (xs:List XE):TA:=fun σ H Q => ∃ B O₀ O ρ vs ρ',StOk K B O₀ O H ρ σ /\ evXs cal xs ρ = some (vs,ρ') /\
 ∀ us H',Same (hide H O) (hide H' O) -> StOk K B O₀ O H' ρ' σ -> Keeps B O O ρ ρ' σ σ -> Reps K (hide H' O) vs us -> Q us H'
theorem x_pure {m:ME} {e:Expr} (hb:isBor m = false) (h:PE X e (tE X.K cal m)):PE X e (tX X.K cal (.pure m)):=by
 refine h.imp fun σ H Q q => ?_
 obtain ⟨B,O₀,O,ρ,v,ρ',st,e1,q⟩:=q
 rw [evX,Option.map_eq_some_iff] at e1
 obtain ⟨w,e1,e2⟩:=e1
 cases e2
 exact ⟨B,O₀,O,ρ,v,st,e1,fun u H' s g => q u H' (hide_same s) (st.mono s) .refl (g.2 hb)⟩
theorem x_call {f:Nat} {mask:List Bool} {ms:List ME} {e:Expr} (h:PE X e (tMr X.K cal f mask ms)):PE X e (tX X.K cal (.call f mask ms)):=by
 refine h.imp fun σ H Q q => ?_
 obtain ⟨B,O₀,O,ρ,v,ρ',st,e0,q⟩:=q
 obtain ⟨ds,e1,e2⟩:=valM_some (show valM cal f mask ms ρ = some (v,ρ') from e0)
 rw [Option.bind_eq_some_iff] at e1
 obtain ⟨vs,e1,e3⟩:=e1
 refine ⟨B,O₀,O,ρ,vs,v,ds,st,e1,e3,fun u us as H1 H' s1 ma hk hm ru => ?_⟩
 obtain ⟨st',k'⟩:=putM_ok ma (st.mono s1) hk hm e2
 have own:=ma.own (st.mono s1)
 exact q u H' ((hide_same s1).trans (view_call (fun a h => (own a h).1) hk)) st' k' ru
theorem int_last:∀ {ns:List Int} {n:Int},ns.getLast? = some n -> (ns.map V.int).getLast? = some (V.int n):=by
 intro ns n h
 rw [List.getLast?_map,h]
 rfl
theorem x_pop {i:Nat} {x:Str} {p apos cpos:Pos} (hn:nameAt X.N X.env.scope i x = true) (hline:(apos.endLine == cpos.line) = true):PE X (.Call (.Attribute (.Name x p) "pop" apos) [] [] cpos) (tX X.K cal (.pop i)):=by
 refine (pe_bm0 PySem.F.plainAttrs_list PySem.F.slot_list_pop PySem.F.type_list_pop mt_pop (name_at hn) rfl hline).imp fun σ H Q q => ?_
 obtain ⟨B,O₀,O,ρ,v,ρ',st,e0,q⟩:=q
 have e0:popV i ρ = some (v,ρ'):=e0
 unfold popV at e0
 cases hd:mutOf (ρ[i]?).join with
 | none => rw [hd] at e0; cases e0
 | some d =>
  rw [hd] at e0
  cases d with
  | p ns =>
   rw [Option.map_eq_some_iff] at e0
   obtain ⟨n,el,e1⟩:=e0
   cases e1
   obtain ⟨a,eu,ha,hO,key⟩:∃ a,σ[i]? = some (some (.ref a)) /\ H a = some (encD (.p ns)) /\ a ∈ O /\ (StOk X.K B O₀ O (upd H a (encD (.p ns.dropLast))) (putD ρ i (.p ns.dropLast)) σ /\ Keeps B O O ρ (putD ρ i (.p ns.dropLast)) σ σ):=by
    rcases mut_slot hd with e | e
    ·obtain ⟨u,eu,a,rfl,h1,h2,h3⟩:=slot_of st e
     refine ⟨a,eu,h1,h2,?_⟩
     have e1:putD ρ i (.p ns.dropLast) = put ρ i (.ownD (.p ns.dropLast)):=by unfold putD; rw [e]; rfl
     rw [e1]
     exact st.changeD (join_some e) eu
    ·obtain ⟨u,eu,a,rfl,h1,h2,h3⟩:=slot_of st e
     refine ⟨a,eu,h1,h2,?_⟩
     have e1:putD ρ i (.p ns.dropLast) = put ρ i (.mutD (.p ns.dropLast)):=by unfold putD; rw [e]; rfl
     rw [e1]
     exact st.changeU (join_some e) eu
   have vis:Same (hide H O) (hide (upd H a (encD (.p ns.dropLast))) O):=fun b o e => by
    have hb:b ∉ O:=fun z => by rw [hide_in z] at e; cases e
    rw [hide_out hb] at e ⊢
    rw [upd_ne (show b ≠ a from fun z => hb (z ▸ hO))]
    exact e
   have fin:=q (.int n) _ vis key.1 key.2 (rep_int _ _)
   have el2:(ns.map V.int)[(ns.map V.int).length - 1]? = some (V.int n):=by
    rw [<- List.getLast?_eq_getElem?]
    exact int_last el
   refine ⟨_,eu,.inl ⟨rfl,ns.map V.int,SqL.of ha⟩,a,ns.map V.int,.int n,rfl,rfl,ha,el2,?_⟩
   have e9:(ns.map V.int).dropLast = ns.dropLast.map V.int:=List.map_dropLast.symm
   rw [e9]
   exact fin
  | _ => cases e0
theorem x_bin {op:Op2} {a:XE} {b:ME} {l r:Expr} {pos:Pos} (ha:PE X l (tX X.K cal a)) (hb:PE X r (tE X.K cal b)):PE X (.BinOp l (opOf op) r pos) (tX X.K cal (.bin op a b)):=by
 refine (pe_op (op_bin op) ha hb).imp fun σ H Q q => ?_
 obtain ⟨B,O₀,O,ρ,v,ρ',st,e1,q⟩:=q
 rw [evX] at e1
 simp only [Option.bind_eq_some_iff,Option.map_eq_some_iff] at e1
 obtain ⟨⟨x,ρ1⟩,e1,y,e2,r,e3,e4⟩:=e1
 cases e4
 exact ⟨B,O₀,O,ρ,x,ρ1,st,e1,fun ux H1 v1 st1 k1 rx => ⟨B,O₀,O,ρ1,y,st1,e2,fun uy H2 s2 g2 => ⟨O,x,y,v,here_mono s2 st1.here,.inl (Rep.mono (hide_same s2) _ rx),g2.1,e3,fun u H3 s3 ru => q u H3 (v1.trans (hide_same (s2.trans s3))) (st1.mono (s2.trans s3)) k1 ru⟩⟩⟩
theorem x_fn {f:Nat} {a:XE} {ms:List ME} {x:Str} {e:Expr} {es:List Expr} {p pos:Pos} (g:Gf X T k cal) (hf:T.fs[f]? = some x) (hg:glB X.env.scope x = true) (hn:plainName x = true) (ha:PE X e (tX X.K cal a)) (has:PA X es (tAs X.K cal ms)) (h1s:notStar e = true) (hs:es.all notStar = true):PE X (.Call (.Name x p) (e :: es) [] pos) (tX X.K cal (.fn f a ms)):=by
 obtain ⟨fa,fd,ps,h1,h2,h3,F,_⟩:=g.fns f x hf
 refine (pe_call F g.room (glOf hg) h1 h2 h3 .nil pass0 (pa_cons ha has (star1 h1s es _)) (plainOf hn).1 (star1 h1s es _) (backTo_any hs)).imp fun σ H Q q => ?_
 obtain ⟨B,O₀,O,ρ,v,ρ',st,e1,q⟩:=q
 rw [evX] at e1
 simp only [Option.bind_eq_some_iff,Option.map_eq_some_iff] at e1
 obtain ⟨⟨w,ρ1⟩,e1,vs,e2,r,e3,e4⟩:=e1
 cases e4
 refine ⟨B,O₀,O,ρ,w,ρ1,st,e1,fun ux H1 v1 st1 k1 rx => ⟨B,O₀,O,ρ1,vs,st1,e2,fun us H2 s2 g2 => ⟨O,.val w :: vs,v,here_mono s2 st1.here,?_,e3,fun u H3 s3 ru => q u H3 (v1.trans (hide_same (s2.trans s3))) (st1.mono (s2.trans s3)) k1 ru⟩⟩⟩
 rw [List.append_nil]
 exact .cons (show Rep X.K (hide H2 O) w ux from Rep.mono (hide_same s2) _ rx) g2
theorem x_nil:PA X [] (tXs X.K cal []):=by
 refine pa_nil.imp fun σ H Q q => ?_
 obtain ⟨B,O₀,O,ρ,vs,ρ',st,e1,q⟩:=q
 rw [evXs] at e1
 cases e1
 exact q [] H (Same.refl _) st .refl .nil
theorem x_cons {x:XE} {xs:List XE} {e:Expr} {es:List Expr} (h:PE X e (tX X.K cal x)) (hs:PA X es (tXs X.K cal xs)) (hn:notStar e = true):PA X (e :: es) (tXs X.K cal (x :: xs)):=by
 refine (pa_cons h hs (star1 hn es _)).imp fun σ H Q q => ?_
 obtain ⟨B,O₀,O,ρ,vs,ρ',st,e1,q⟩:=q
 rw [evXs] at e1
 simp only [Option.bind_eq_some_iff,Option.map_eq_some_iff] at e1
 obtain ⟨⟨v,ρ1⟩,e1,⟨ws,ρ2⟩,e2,e3⟩:=e1
 cases e3
 exact ⟨B,O₀,O,ρ,v,ρ1,st,e1,fun u H1 v1 st1 k1 ru => ⟨B,O₀,O,ρ1,ws,_,st1,e2,fun us H2 v2 st2 k2 rs => q (u :: us) H2 (v1.trans v2) st2 (k1.trans k2) (.cons (Rep.mono v2 _ ru) rs)⟩⟩
theorem x_tup {xs:List XE} {es:List Expr} {j:Nat} {pos:Pos} (h:PA X es (tXs X.K cal xs)):PE X (.Tuple es j pos) (tX X.K cal (.tup xs)):=by
 refine (pe_tup h).imp fun σ H Q q => ?_
 obtain ⟨B,O₀,O,ρ,v,ρ',st,e1,q⟩:=q
 rw [evX,Option.bind_eq_some_iff] at e1
 obtain ⟨⟨vs,ρ1⟩,e1,e2⟩:=e1
 dsimp only at e2
 split at e2
 ·rename_i hl
  cases e2
  refine ⟨B,O₀,O,ρ,vs,_,st,e1,fun us H1 v1 st1 k1 rs => ⟨?_,fun p hp => ?_⟩⟩
  ·rw [<- rs.length]; exact size10000 hl
  ·have s2:Same H1 (upd H1 p (.tup us)):=same_new hp _
   exact q _ _ (v1.trans (hide_same s2)) (st1.mono s2) k1 (rep_newT st1.here hp rs)
 ·cases e2
mutual
theorem soundXE (g:Gf X T k cal):∀ (x:XE) (e:Expr),chkXE T x X.N X.env.scope e = true -> PE X e (tX X.K cal x)
 | .pure m,e,h => by
  have h:(chk T m X.N X.env.scope e && !isBor m && notComp e) = true:=h
  simp only [Bool.and_eq_true,Bool.not_eq_true'] at h
  exact x_pure h.1.2 (sound m g h.1.1).1
 | .call f mask ms,e,h => by
  obtain ⟨y,p,args,cp,rfl,hq⟩:=callOkM_of (show callOkM T f mask ms X.N X.env.scope e = true from h)
  simp only [Bool.and_eq_true,beq_iff_eq,decide_eq_true_eq,Bool.not_eq_true'] at hq
  obtain ⟨⟨⟨⟨⟨⟨q1,q2⟩,q3⟩,q4⟩,q5⟩,q6⟩,q7⟩:=hq
  cases args with
  | nil => cases q7
  | cons a args => exact x_call (s_callR g q1 q2 q3 (soundM g mask ms (a :: args) q4 q5 q6) (chks_star q4).1)
 | .pop i,e,h => by
  obtain ⟨q,e1,h⟩:=onQ_of (show onQ (popQ e) (fun q => nameAt X.N X.env.scope i q.1 && q.2.1 == ("pop":Str) && q.2.2.1.endLine == q.2.2.2.line) = true from h)
  obtain ⟨y,m,ap,cp⟩:=q
  obtain ⟨p,rfl⟩:=popQ_of e1
  obtain ⟨a1,h3⟩:=Bool.and_eq_true_iff.mp h
  obtain ⟨h1,h2⟩:=Bool.and_eq_true_iff.mp a1
  obtain rfl:m = ("pop":Str):=eq_of_beq h2
  exact x_pop h1 h3
 | .bin op a b,e,h => by
  obtain ⟨q,e1,h⟩:=onQ_of (show onQ (binQ e) (fun q => q.2.1 == opOf op && chkXE T a X.N X.env.scope q.1 && chk T b X.N X.env.scope q.2.2) = true from h)
  obtain ⟨l,o,r⟩:=q
  obtain ⟨pos,rfl⟩:=binQ_of e1
  obtain ⟨a1,h3⟩:=Bool.and_eq_true_iff.mp h
  obtain ⟨h1,h2⟩:=Bool.and_eq_true_iff.mp a1
  obtain rfl:o = opOf op:=eq_of_beq h1
  exact x_bin (soundXE g a l h2) (sound b g h3).1
 | .fn f a ms,e,h => by
  obtain ⟨q,e1,h⟩:=onQ_of (show onQ (fnQ e) (fun q => T.fs[f]? == some q.1 && glB X.env.scope q.1 && plainName q.1 && chkXE T a X.N X.env.scope q.2.1 && notStar q.2.1 && chks T ms X.N X.env.scope q.2.2) = true from h)
  obtain ⟨y,l,r⟩:=q
  obtain ⟨p,pos,rfl⟩:=fnQ_of e1
  obtain ⟨a1,h6⟩:=Bool.and_eq_true_iff.mp h
  obtain ⟨a2,h5⟩:=Bool.and_eq_true_iff.mp a1
  obtain ⟨a3,h4⟩:=Bool.and_eq_true_iff.mp a2
  obtain ⟨a4,h3⟩:=Bool.and_eq_true_iff.mp a3
  obtain ⟨h1,h2⟩:=Bool.and_eq_true_iff.mp a4
  exact x_fn g (eq_of_beq h1) h2 h3 (soundXE g a l h4) (soundA ms g h6) h5 (chks_star h6).1
 | .tup xs,e,h => by
  obtain ⟨q,e1,h⟩:=onQ_of (show onQ (tupQ e) (fun q => chkXEs T xs X.N X.env.scope q) = true from h)
  obtain ⟨j,pos,rfl⟩:=tupQ_of e1
  exact x_tup (soundXEs g xs q h)
theorem soundXEs (g:Gf X T k cal):∀ (xs:List XE) (es:List Expr),chkXEs T xs X.N X.env.scope es = true -> PA X es (tXs X.K cal xs)
 | [],es,h => by
  cases es with
  | nil => exact x_nil
  | cons _ _ => cases h
 | x :: xs,es,h => by
  cases es with
  | nil => cases h
  | cons e es =>
   have h:(chkXE T x X.N X.env.scope e && notStar e && chkXEs T xs X.N X.env.scope es) = true:=h
   simp only [Bool.and_eq_true] at h
   exact x_cons (soundXE g x e h.1.1) (soundXEs g xs es h.2) h.1.2
end
theorem z_setX {i:Nat} {y:XE} {x:Str} {v:Expr} {px pos:Pos} (d:Df X) (hi:X.N[i]? = some x) (hx:Loc X.env.scope x) (h:PE X v (tX X.K cal y)) (hc:notComp v = true):PS X (.Assign [.Name x px] v pos) (tS X.K cal (.setX i y)) :=
 PS.imp' (ps_set d.nd hi hx h (swap_false hc _ _ _) (.inl (d.fn x))) fun D σ H hl q => by
  obtain ⟨B,O₀,O,ρ,st,q⟩:=q
  rw [ex] at q
  cases e:evX cal y ρ with
  | none => rw [e] at q; exact (show False from q).elim
  | some cr =>
   obtain ⟨s,ρ'⟩:=cr
   rw [e] at q
   refine ⟨B,O₀,O,ρ,s,ρ',st,e,fun u H' _ st' k' ru => ?_⟩
   obtain ⟨st2,k2⟩:=st'.store (ltN hi hl) ru
   exact q _ H' O st2 (k'.trans k2)
theorem z_retXE {y:XE} {v:Expr} {pos:Pos} (h:PE X v (tX X.K cal y)):PS X (.Return (some v) pos) (tS X.K cal (.retXE y)):=by
 refine (ps_ret h).imp fun D σ H q => ?_
 obtain ⟨B,O₀,O,ρ,st,q⟩:=q
 rw [ex] at q
 cases e:evX cal y ρ with
 | none => rw [e] at q; exact (show False from q).elim
 | some cr =>
  obtain ⟨s,ρ'⟩:=cr
  rw [e] at q
  exact ⟨B,O₀,O,ρ,s,ρ',st,e,fun u H' _ st' k' ru => q u σ H' O st' k' ru⟩
theorem z_appX {i:Nat} {y:XE} {x:Str} {v:Expr} {p apos cpos pos:Pos} (h:PE X v (tX X.K cal y)) (hn:nameAt X.N X.env.scope i x = true) (hs:notStar v = true) (hline:(apos.endLine == cpos.line) = true) :
  PS X (.Expr (.Call (.Attribute (.Name x p) "append" apos) [v] [] cpos) pos) (tS X.K cal (.appX i y)):=by
 refine (ps_expr (pe_bm PySem.F.plainAttrs_list PySem.F.slot_list_append PySem.F.type_list_append mt_append (name_at hn) (pa_cons h pa_nil (star1 hs _ _)) rfl (by rw [star1 hs]; rfl) hline (star1 hs _ _) rfl) rfl).imp fun D σ H q => ?_
 obtain ⟨B,O₀,O,ρ,st,q⟩:=q
 rw [ex] at q
 cases hj:(ρ[i]?).join with
 | none => rw [hj] at q; exact (show False from q).elim
 | some m =>
  rw [hj] at q
  cases m with
  | own xs₀ =>
   dsimp only at q
   obtain ⟨u₀,eu,a,us₀,rfl,ha,_,hO,_⟩:=slot_of st hj
   cases e:evX cal y ρ with
   | none => rw [e] at q; exact (show False from q).elim
   | some cr =>
    obtain ⟨w,ρ'⟩:=cr
    rw [e] at q
    dsimp only at q
    cases hj':(ρ'[i]?).join with
    | none => rw [hj'] at q; exact (show False from q).elim
    | some m' =>
     rw [hj'] at q
     cases m' with
     | own xs =>
      dsimp only at q
      split at q
      ·rename_i hl
       refine ⟨_,eu,.inl ⟨rfl,us₀,SqL.of ha⟩,B,O₀,O,ρ,w,ρ',st,e,fun u H1 v1 st1 k1 ru => ?_⟩
       obtain ⟨u1,eu1,a1,us,e5,ha1,rs,_,_⟩:=slot_of st1 hj'
       rw [eu] at eu1
       cases eu1
       cases e5
       refine ⟨a,us,u,rfl,rfl,ha1,?_,?_⟩
       ·rw [<- rs.length]; exact Nat.lt_of_lt_of_le hl (by decide)
       ·obtain ⟨st2,k2⟩:=st1.change (us:=us ++ [u]) (ys:=xs ++ [w]) (join_some hj') eu (rs.snoc ru)
        exact q _ _ _ st2 (k1.trans k2)
      ·exact (show False from q).elim
     | _ => exact (show False from q).elim
  | _ => exact (show False from q).elim
theorem StOk.storeP {K:PySem.W.Frag} {B H H':Hp} {O₀ O:List Addr} {ρ:Rho} {σ:St} {i:Nat} {p:Addr} {ns:List Int} {us:List V} (st:StOk K B O₀ O H ρ σ) (hi:i < σ.length) (s:Same H H') (hp:H p = none) (he:H' p = some (.lst us)) (r:Reps K (hide H' (p :: O)) (ns.map .int) us):StOk K B O₀ (p :: O) H' (put ρ i (.ownD (.p ns))) (σ.set i (some (.ref p))) /\ Keeps B O (p :: O) ρ (put ρ i (.ownD (.p ns))) σ (σ.set i (some (.ref p))):=by
 have hu:=r.ints
 subst hu
 exact st.storeM (mm:=.ownD (.p ns)) hi s hp (by rw [he]; simp) rfl (fun _ z => by cases z) fun hB => ⟨p,rfl,he,List.mem_cons_self,hB⟩
theorem z_setP {i:Nat} {me:ME} {x:Str} {e:Expr} {px p p2 pos2 cp pos:Pos} (g:Gf X T k cal) (d:Df X) (hi:X.N[i]? = some x) (hx:Loc X.env.scope x) (h1:glB X.env.scope ("list":Str) = true) (h2:glB X.env.scope ("reversed":Str) = true) (h:PE X e (tE X.K cal me)) (hs:notStar e = true):PS X (.Assign [.Name x px] (.Call (.Name ("list":Str) p) [.Call (.Name ("reversed":Str) p2) [e] [] pos2] [] cp) pos) (tS X.K cal (.setP i me)):=by
 refine PS.imp' (ps_set d.nd hi hx (pe_listRev g.calm (glOf h1) (g.blt "list" (by decide)) bt_list (glOf h2) (g.blt "reversed" (by decide)) h (star1 hs _ _)) (swap_false (v:=.Call _ _ _ _) rfl _ _ _) (.inl (d.fn x))) fun D σ H hl q => ?_
 obtain ⟨B,O₀,O,ρ,st,q⟩:=q
 rw [ex] at q
 cases e1:ev cal me ρ with
 | none => rw [e1] at q; exact (show False from q).elim
 | some w =>
  rw [e1] at q
  cases w with
  | lst xs =>
   dsimp only at q
   cases e2:ints? xs with
   | none => rw [e2] at q; exact (show False from q).elim
   | some ns =>
    rw [e2] at q
    have e3:=ints?_eq e2
    subst e3
    refine ⟨B,O₀,O,ρ,_,st,e1,fun u H1 s1 g1 => ?_⟩
    obtain ⟨a,us,rfl,sq,rs⟩:=g1.1.lst
    have e4:=rs.ints
    subst e4
    refine ⟨a,_,rfl,sq,fun l hl2 => ?_⟩
    rw [show (ns.map V.int).reverse = ns.reverse.map V.int from List.map_reverse.symm]
    obtain ⟨st',k'⟩:=st.storeP (ns:=ns.reverse) (ltN hi hl) (s1.trans (same_new hl2 (.lst (ns.reverse.map V.int)))) (s1.free hl2) upd_same (Reps.of_ints _)
    exact q _ _ _ st' k'
  | _ => exact (show False from q).elim
end
end MM
namespace MM
open PySem PySem.Spec PyProof.Rows L2
section
variable {K:PySem.W.Frag} {B H:Hp} {O₀ O:List Addr} {ρ:Rho} {σ:St}
theorem seen {H1 H':Hp} {O' L:List Addr} {ρ':Rho} {σ':St} (st':StOk K (guard B O H1 L) O₀ O' H' ρ' σ') (k:Keeps (guard B O H1 L) O O' ρ ρ' σ σ'):Same (hide H1 O) (hide H' O'):=fun b u e => by
 have hb:b ∉ O:=fun z => by rw [hide_in z] at e; cases e
 have hg:guard B O H1 L b = some u:=hide_guard b u e
 rw [hide_out]
 ·exact st'.keep b u hg
 ·intro z
  rcases k.new b z with q | q
  ·exact hb q
  ·rw [hg] at q; cases q
theorem lend_ok {ms:List ME} (st:StOk K B O₀ O H ρ σ):StOk K (guard B O H (lentOf ms ρ σ)) O₀ O H (lend ms ρ) σ /\ (lend ms ρ).length = ρ.length:=by
 have base:∀ L:List Addr,(∀ a ∈ L,∀ (j:Nat) (ys:MV),(lend ms ρ)[j]? = some (some ys) -> ownM ys = true -> σ[j]? ≠ some (some (.ref a))) -> (∀ (j:Nat) (m:MV),(lend ms ρ)[j]? = some (some m) -> (∃ ys,m = .brw ys /\ ρ[j]? = some (some (.own ys)) /\ ∃ a,σ[j]? = some (some (.ref a)) /\ a ∈ L) \/ ρ[j]? = some (some m)) -> (lend ms ρ).length = ρ.length ->
   StOk K (guard B O H L) O₀ O H (lend ms ρ) σ:=fun L h1 h2 h3 => by
  have gl:=guard_le (O:=O) (L:=L) st.keep
  have lg:=le_guard (O:=O) (L:=L) st.keep
  refine ⟨gl,st.here,st.sub,fun a ha z => st.old a ha (lg.free z),h3.trans st.len,fun j m e => ?_,fun c d ps qs ad hcd e1 e2 p1 p2 e3 e4 => ?_
   ⟩
  ·rcases h2 j m e with ⟨ys,rfl,e2,a,ea,haL⟩ | e2
   ·obtain ⟨u,eu,a',us,rfl,q1,q2,q3,q4⟩:=st.slot j _ e2
    rw [ea] at eu
    cases eu
    refine ⟨_,ea,a,us,rfl,SqL.of ?_,q2⟩
    unfold guard
    rw [if_pos q3,if_pos haL]
    exact q1
   ·obtain ⟨u,eu,q⟩:=st.slot j m e2
    refine ⟨u,eu,?_⟩
    cases m with
    | val v => exact q
    | own ys =>
     obtain ⟨a,us,rfl,q1,q2,q3,q4⟩:=q
     refine ⟨a,us,rfl,q1,q2,q3,?_⟩
     unfold guard
     rw [if_pos q3,if_neg fun haL => h1 a haL j (.own ys) e rfl eu]
     exact q4
    | ownD ys =>
     obtain ⟨a,rfl,q1,q3,q4⟩:=q
     refine ⟨a,rfl,q1,q3,?_⟩
     unfold guard
     rw [if_pos q3,if_neg fun haL => h1 a haL j (.ownD ys) e rfl eu]
     exact q4
    | mutD ys =>
     obtain ⟨a,rfl,q1,q3,q4⟩:=q
     refine ⟨a,rfl,q1,q3,?_⟩
     unfold guard
     rw [if_pos q3,if_neg fun haL => h1 a haL j (.mutD ys) e rfl eu]
     exact q4
    | brwD ys => obtain ⟨a,rfl,q1⟩:=q; exact ⟨a,rfl,Same.rd lg q1⟩
    | brw ys => obtain ⟨a,us,rfl,q1,q2⟩:=q; exact ⟨a,us,rfl,lg.seq q1,q2⟩
  ·rcases h2 c _ e1 with ⟨_,rfl,_⟩ | e1
   ·cases p1
   ·rcases h2 d _ e2 with ⟨_,rfl,_⟩ | e2
    ·cases p2
    ·exact st.apart c d ps qs ad hcd e1 e2 p1 p2 e3 e4
 have plain:lend ms ρ = ρ -> lentOf ms ρ σ = [] -> StOk K (guard B O H (lentOf ms ρ σ)) O₀ O H (lend ms ρ) σ /\ (lend ms ρ).length = ρ.length:=fun e1 e2 => by
  rw [e2]
  exact ⟨base [] (fun a ha => by simp at ha) (fun j m e => .inr (by rw [e1] at e; exact e)) (by rw [e1]),by rw [e1]⟩
 match ms with
 | [] => exact plain rfl rfl
 | [.bor i] =>
  cases hj:(ρ[i]?).join with
  | none => exact plain (by simp [lend,hj]) (by simp [lentOf,hj])
  | some m =>
   cases m with
   | val _ => exact plain (by simp [lend,hj]) (by simp [lentOf,hj])
   | brw _ => exact plain (by simp [lend,hj]) (by simp [lentOf,hj])
   | ownD _ => exact plain (by simp [lend,hj]) (by simp [lentOf,hj])
   | mutD _ => exact plain (by simp [lend,hj]) (by simp [lentOf,hj])
   | brwD _ => exact plain (by simp [lend,hj]) (by simp [lentOf,hj])
   | own xs =>
    have el:lend [.bor i] ρ = put ρ i (.brw xs):=by simp [lend,hj]
    have e0:=join_some hj
    obtain ⟨u,eu,a,us,rfl,q1,q2,q3,q4⟩:=st.slot i _ e0
    have eL:lentOf [.bor i] ρ σ = [a]:=by simp [lentOf,hj,eu]
    have hi':i < ρ.length:=(List.getElem?_eq_some_iff.mp e0).1
    rw [eL]
    refine ⟨base [a] (fun b hb j ys e oy z => ?_) (fun j m e => ?_) (by rw [el,put_len]),by rw [el,put_len]⟩
    ·have:b = a:=by simpa using hb
     subst this
     rw [el] at e
     have hj':i ≠ j:=fun z => by subst z; rw [getElem?_put_self hi'] at e; cases e; cases oy
     rw [getElem?_put_ne hj'] at e
     exact st.apart i j (.own xs) ys b hj' e0 e rfl oy eu z
    ·rw [el] at e
     by_cases hij:i = j
     ·subst hij
      rw [getElem?_put_self hi'] at e
      cases e
      exact .inl ⟨xs,rfl,e0,a,eu,by simp⟩
     ·rw [getElem?_put_ne hij] at e
      exact .inr e
 | .var _ :: _ => exact plain rfl rfl
 | .cst _ :: _ => exact plain rfl rfl
 | .glob _ _ :: _ => exact plain rfl rfl
 | .bin _ _ _ :: _ => exact plain rfl rfl
 | .neg _ :: _ => exact plain rfl rfl
 | .not _ :: _ => exact plain rfl rfl
 | .and _ _ :: _ => exact plain rfl rfl
 | .or _ _ :: _ => exact plain rfl rfl
 | .ite _ _ _ :: _ => exact plain rfl rfl
 | .cmp _ _ _ :: _ => exact plain rfl rfl
 | .chain _ _ _ _ _ :: _ => exact plain rfl rfl
 | .tup _ :: _ => exact plain rfl rfl
 | .lst _ :: _ => exact plain rfl rfl
 | .idx _ _ :: _ => exact plain rfl rfl
 | .slice _ _ _ :: _ => exact plain rfl rfl
 | .blt _ _ :: _ => exact plain rfl rfl
 | .call _ _ :: _ => exact plain rfl rfl
 | .callD _ _ _ :: _ => exact plain rfl rfl
 | .comp _ _ _ _ _ :: _ => exact plain rfl rfl
 | .dget _ _ _ :: _ => exact plain rfl rfl
 | .dat _ _ :: _ => exact plain rfl rfl
 | .dIn _ _ _ :: _ => exact plain rfl rfl
 | .lenP _ :: _ => exact plain rfl rfl
 | .join _ _ :: _ => exact plain rfl rfl
 | .cdat _ _ :: _ => exact plain rfl rfl
 | .comp2 _ _ _ _ :: _ => exact plain rfl rfl
 | .bor _ :: _ :: _ => exact plain rfl rfl
theorem lend_get {ms:List ME} {j:Nat} {ys:List PV} (h:(lend ms ρ)[j]? = some (some (.brw ys))):ρ[j]? = some (some (.brw ys)) \/ (ms = [.bor j] /\ ρ[j]? = some (some (.own ys))):=by
 unfold lend at h
 split at h
 ·rename_i i
  split at h
  ·rename_i xs hj
   have e0:=join_some hj
   have hi':i < ρ.length:=(List.getElem?_eq_some_iff.mp e0).1
   by_cases hij:i = j
   ·subst hij
    rw [getElem?_put_self hi'] at h
    cases h
    exact .inr ⟨rfl,e0⟩
   ·rw [getElem?_put_ne hij] at h
    exact .inl h
  ·exact .inl h
 ·exact .inl h
theorem lend_getD {ms:List ME} {j:Nat} {ys:DD} (h:(lend ms ρ)[j]? = some (some (.brwD ys))):ρ[j]? = some (some (.brwD ys)):=by
 unfold lend at h
 split at h
 ·rename_i i
  split at h
  ·rename_i xs hj
   have e0:=join_some hj
   have hi':i < ρ.length:=(List.getElem?_eq_some_iff.mp e0).1
   by_cases hij:i = j
   ·subst hij
    rw [getElem?_put_self hi'] at h
    cases h
   ·rw [getElem?_put_ne hij] at h
    exact h
  ·exact h
 ·exact h
theorem lend_getU {ms:List ME} {j:Nat} {ys:DD} (h:(lend ms ρ)[j]? = some (some (.mutD ys))):ρ[j]? = some (some (.mutD ys)):=by
 unfold lend at h
 split at h
 ·rename_i i
  split at h
  ·rename_i xs hj
   have e0:=join_some hj
   have hi':i < ρ.length:=(List.getElem?_eq_some_iff.mp e0).1
   by_cases hij:i = j
   ·subst hij
    rw [getElem?_put_self hi'] at h
    cases h
   ·rw [getElem?_put_ne hij] at h
    exact h
  ·exact h
 ·exact h
theorem lend_len {ms:List ME}:(lend ms ρ).length = ρ.length:=by
 unfold lend
 split
 ·split
  ·exact put_len
  ·rfl
 ·rfl
theorem back_ok {ms:List ME} {H1 H':Hp} {O':List Addr} {ρ':Rho} {σ':St} (st:StOk K B O₀ O H1 ρ σ) (st':StOk K (guard B O H1 (lentOf ms ρ σ)) O₀ O' H' ρ' σ') (k:Keeps (guard B O H1 (lentOf ms ρ σ)) O O' (lend ms ρ) ρ' σ σ') :
  StOk K B O₀ O' H' (giveBack ms ρ ρ') σ' /\ Keeps B O O' ρ (giveBack ms ρ ρ') σ σ':=by
 have lg:=le_guard (O:=O) (L:=lentOf ms ρ σ) st.keep
 have vis:=seen st' k
 have stay:∀ a,B a ≠ none -> a ∈ O -> a ∈ O':=fun a h1 h2 => k.stay a (fun z => h1 (lg.free z)) h2
 have new:∀ a ∈ O',a ∈ O \/ B a = none:=fun a h => (k.new a h).imp id lg.free
 have mutK:∀ (j:Nat) (d':DD),ρ'[j]? = some (some (.mutD d')) -> (∃ d,ρ[j]? = some (some (.mutD d))) /\ σ'[j]? = σ[j]?:=fun j d' e => by
  obtain ⟨⟨d,e1⟩,e2⟩:=k.mutK j d' e
  exact ⟨⟨d,lend_getU e1⟩,e2⟩
 have slot:∀ (j:Nat) (m:MV),ρ'[j]? = some (some m) -> (∀ ys,m = .brw ys -> ¬ (ms = [.bor j] /\ ρ[j]? = some (some (.own ys)))) -> ∃ u,σ'[j]? = some (some u) /\ SlotOk K B O' H' m u:=fun j m e hn => by
  obtain ⟨u,eu,q⟩:=st'.slot j m e
  refine ⟨u,eu,?_⟩
  cases m with
  | val v => exact q
  | own ys => obtain ⟨a,us,rfl,q1,q2,q3,q4⟩:=q; exact ⟨a,us,rfl,q1,q2,q3,lg.free q4⟩
  | brw ys =>
   obtain ⟨e1,e2⟩:=k.brw j (.brw ys) rfl e
   rcases lend_get e1 with e3 | e3
   ·obtain ⟨w,ew,a,us,rfl,q1,q2⟩:=st.slot j _ e3
    rw [eu,ew] at e2
    cases e2
    exact ⟨a,us,rfl,q1,Reps.mono vis _ q2⟩
   ·exact absurd e3 (hn ys rfl)
  | ownD ys => obtain ⟨a,rfl,q1,q3,q4⟩:=q; exact ⟨a,rfl,q1,q3,lg.free q4⟩
  | mutD ys => obtain ⟨a,rfl,q1,q3,q4⟩:=q; exact ⟨a,rfl,q1,q3,lg.free q4⟩
  | brwD ys =>
   obtain ⟨e1,e2⟩:=k.brw j (.brwD ys) rfl e
   obtain ⟨w,ew,a,rfl,q1⟩:=st.slot j _ (lend_getD e1)
   rw [eu,ew] at e2
   cases e2
   exact ⟨a,rfl,q1⟩
 by_cases hA:∃ i xs0 xs,ms = [.bor i] /\ (ρ[i]?).join = some (.own xs0) /\ (ρ'[i]?).join = some (.brw xs)
 ·obtain ⟨i,xs0,xs,rfl,h0,h1⟩:=hA
  have eb:giveBack [.bor i] ρ ρ' = put ρ' i (.own xs):=by simp [giveBack,h0,h1]
  rw [eb]
  have e0:=join_some h0
  have e1:=join_some h1
  have hi':i < ρ'.length:=(List.getElem?_eq_some_iff.mp e1).1
  obtain ⟨el,es⟩:=k.brw i (.brw xs) rfl e1
  have exs:xs = xs0:=by
   rcases lend_get el with e3 | ⟨_,e3⟩
   ·rw [e0] at e3; cases e3
   ·rw [e0] at e3; cases e3; rfl
  subst exs
  obtain ⟨w,ew,a,us,rfl,q1,q2,q3,q4⟩:=st.slot i _ e0
  have eL:lentOf [.bor i] ρ σ = [a]:=by simp [lentOf,h0,ew]
  have ga:guard B O H1 (lentOf [.bor i] ρ σ) a = some (.lst us):=by
   unfold guard
   rw [eL,if_pos q3,if_pos (by simp)]
   exact q1
  have other:∀ (j:Nat) (ys:MV) (ad:Addr),ρ'[j]? = some (some ys) -> ownM ys = true -> σ'[j]? = some (some (.ref ad)) -> ad ≠ a:=fun j ys ad h1 oy h2 z => by
   obtain ⟨u,eu,qq⟩:=st'.slot j _ h1
   rw [h2] at eu
   cases eu
   cases ys with
   | own ys =>
    obtain ⟨b,_,e2,_,_,_,q⟩:=qq
    cases e2
    rw [z,ga] at q
    cases q
   | ownD ys =>
    obtain ⟨b,e2,_,_,q⟩:=qq
    cases e2
    rw [z,ga] at q
    cases q
   | mutD ys =>
    obtain ⟨b,e2,_,_,q⟩:=qq
    cases e2
    rw [z,ga] at q
    cases q
   | val _ => cases oy
   | brw _ => cases oy
   | brwD _ => cases oy
  refine ⟨⟨lg.trans st'.keep,st'.here,st'.sub,st.old,by rw [put_len]; exact st'.len,fun j m e => ?_,fun c d ps qs ad hcd e1 e2 p1 p2 e3 e4 => ?_
   ⟩,⟨stay,new,fun j ys hbm e => ?_,by rw [put_len]; exact k.len.trans lend_len
   ,fun j d' e => ?_
   ⟩⟩
  ·by_cases hij:i = j
   ·subst hij
    rw [getElem?_put_self hi'] at e
    cases e
    refine ⟨_,by rw [es]; exact ew,a,us,rfl,st'.keep _ _ ga,Reps.mono vis _ q2,k.stay a (by rw [ga]; simp) q3,q4⟩
   ·rw [getElem?_put_ne hij] at e
    exact slot j m e fun ys _ ⟨z,_⟩ => hij (by cases z; rfl)
  ·by_cases hc:i = c
   ·subst hc
    rw [es,ew] at e3
    cases e3
    rw [getElem?_put_ne hcd] at e2
    exact other d qs _ e2 p2 e4 rfl
   ·rw [getElem?_put_ne hc] at e1
    by_cases hd:i = d
    ·subst hd
     rw [es,ew] at e4
     cases e4
     exact other c ps _ e1 p1 e3 rfl
    ·rw [getElem?_put_ne hd] at e2
     exact st'.apart c d ps qs ad hcd e1 e2 p1 p2 e3 e4
  ·by_cases hij:i = j
   ·subst hij
    rw [getElem?_put_self hi'] at e
    cases e
    cases hbm
   ·rw [getElem?_put_ne hij] at e
    obtain ⟨e1,e2⟩:=k.brw j ys hbm e
    cases ys with
    | brw ys =>
     rcases lend_get e1 with e3 | ⟨z,_⟩
     ·exact ⟨e3,e2⟩
     ·cases z; exact absurd rfl hij
    | brwD ys => exact ⟨lend_getD e1,e2⟩
    | val _ => cases hbm
    | own _ => cases hbm
    | ownD _ => cases hbm
    | mutD _ => cases hbm
  ·by_cases hij:i = j
   ·subst hij
    rw [getElem?_put_self hi'] at e
    cases e
   ·rw [getElem?_put_ne hij] at e
    exact mutK j d' e
 ·have eb:giveBack ms ρ ρ' = ρ':=by
   unfold giveBack
   split
   ·rename_i i
    split
    ·rename_i xs0 xs h0 h1
     exact absurd ⟨i,xs0,xs,rfl,h0,h1⟩ hA
    ·rfl
   ·rfl
  rw [eb]
  have no:∀ (j:Nat) (ys:List PV),ρ'[j]? = some (some (.brw ys)) -> ¬ (ms = [.bor j] /\ ρ[j]? = some (some (.own ys))):=fun j ys e ⟨h1,h2⟩ => hA ⟨j,ys,ys,h1,by rw [h2]; rfl,by rw [e]; rfl⟩
  refine ⟨⟨lg.trans st'.keep,st'.here,st'.sub,st.old,st'.len,fun j m e => slot j m e fun ys z => no j ys (by rw [e,z]),st'.apart
   ⟩,⟨stay,new,fun j ys hbm e => ?_,k.len.trans lend_len
   ,fun j d' e => mutK j d' e
   ⟩⟩
  obtain ⟨e1,e2⟩:=k.brw j ys hbm e
  cases ys with
  | brw ys =>
   rcases lend_get e1 with e3 | e3
   ·exact ⟨e3,e2⟩
   ·exact absurd e3 (no j ys e)
  | brwD ys => exact ⟨lend_getD e1,e2⟩
  | val _ => cases hbm
  | own _ => cases hbm
  | ownD _ => cases hbm
  | mutD _ => cases hbm
end
section
variable {X:Cx} {T:Tab} {k:Nat} {cal:Cal}
noncomputable def TgOk (K:PySem.W.Frag) (n:Nat) (g:TG) (tk:PV -> Rho -> Option Rho):Prop :=
 ∀ (B:Hp) (O₀ O:List Addr) (H:Hp) (ρ ρ':Rho) (σ:St) (x:PV) (u:V) (Q:St -> Hp -> Prop),σ.length = n -> StOk K B O₀ O H ρ σ -> Rep K (hide H O) x u -> tk x ρ = some ρ' ->
  (∀ σ',StOk K B O₀ O H ρ' σ' -> Keeps B O O ρ ρ' σ σ' -> Q σ' H) -> g u σ H Q
theorem for_core {K:PySem.W.Frag} {n:Nat} {ms:List ME} {g:TG} {tk:PV -> Rho -> Option Rho} {body:List MS} {D:Ends} {σ:St} {H1:Hp} {J:It} (hn:σ.length = n) (hg:TgOk K n g tk) {B:Hp} {O₀ O:List Addr} {ρ:Rho} {xs:List PV} (st1:StOk K B O₀ O H1 ρ σ) (it:ItOk K J xs (hide H1 O) (guard B O H1 (lentOf ms ρ σ)))
  (q:EndOk K B O₀ O ρ σ D ((forGo (fun x ρ' => bindO (tk x ρ') fun ρ'' => exs cal body ρ'') xs (lend ms ρ)).back ms ρ)):tFor (fun _ _ R => R J H1) g (tSs K cal body) D σ H1:=by
 obtain ⟨stL,_⟩:=lend_ok (ms:=ms) st1
 refine ⟨fun i m σ' H' => m = xs.length - i /\ i <= xs.length /\ ∃ ρ' O',StOk K (guard B O H1 (lentOf ms ρ σ)) O₀ O' H' ρ' σ' /\ Keeps (guard B O H1 (lentOf ms ρ σ)) O O' (lend ms ρ) ρ' σ σ' /\
  forGo (fun x ρ' => bindO (tk x ρ') fun ρ'' => exs cal body ρ'') (xs.drop i) ρ' = forGo (fun x ρ' => bindO (tk x ρ') fun ρ'' => exs cal body ρ'') xs (lend ms ρ),⟨xs.length,by simp,Nat.zero_le _,lend ms ρ,O,stL,.refl,by simp⟩,?_⟩
 rintro i m σ' H' ⟨rfl,hi,ρ',O',st',k',eq⟩
 by_cases hlt:i < xs.length
 ·right
  have ex:xs[i]? = some xs[i]:=List.getElem?_eq_getElem hlt
  refine ⟨it.go i _ H' st'.keep ex,fun σ2 H2 => ∃ m',m' < xs.length - i /\ (m' = xs.length - (i + 1) /\ i + 1 <= xs.length /\ ∃ ρ' O',StOk K (guard B O H1 (lentOf ms ρ σ)) O₀ O' H2 ρ' σ2 /\ Keeps (guard B O H1 (lentOf ms ρ σ)) O O' (lend ms ρ) ρ' σ σ2 /\
   forGo (fun x ρ' => bindO (tk x ρ') fun ρ'' => exs cal body ρ'') (xs.drop (i + 1)) ρ' = forGo (fun x ρ' => bindO (tk x ρ') fun ρ'' => exs cal body ρ'') xs (lend ms ρ)),fun σ2 H2 z => z,fun u H2 y => ?_⟩
  obtain ⟨s2,hr⟩:=it.yld i _ H' u H2 st'.keep ex y
  have vis:=seen st' k'
  have hx:Rep K (hide H2 O') xs[i] u:=hr O' st'.here (vis.trans (hide_same s2))
  rw [List.drop_eq_getElem_cons hlt,forGo] at eq
  cases et:tk xs[i] ρ' with
  | none =>
   rw [et] at eq
   rw [<- eq] at q
   exact (show False from q).elim
  | some ρ2 =>
   rw [et,show bindO (some ρ2) (fun ρ'' => exs cal body ρ'') = exs cal body ρ2 from rfl] at eq
   have hlen:σ'.length = n:=by rw [<- st'.len,k'.len,lend_len,st1.len]; exact hn
   refine hg _ O₀ O' H2 ρ' ρ2 σ' _ u _ hlen (st'.mono s2) hx et fun σ2 st2 k2 => ?_
   refine ⟨_,O₀,O',ρ2,st2,?_⟩
   have kk:=k'.trans k2
   cases er:exs cal body ρ2 with
   | next ρ3 =>
    rw [er] at eq
    exact fun σ3 H3 O3 st3 k3 => ⟨_,by omega,rfl,hlt,ρ3,O3,st3,kk.trans k3,eq⟩
   | cont ρ3 =>
    rw [er] at eq
    exact fun σ3 H3 O3 st3 k3 => ⟨_,by omega,rfl,hlt,ρ3,O3,st3,kk.trans k3,eq⟩
   | brk ρ3 =>
    rw [er] at eq
    rw [<- eq] at q
    exact fun σ3 H3 O3 st3 k3 => by
     obtain ⟨stb,kb⟩:=back_ok st1 st3 (kk.trans k3)
     exact q σ3 H3 O3 stb kb
   | ret v =>
    rw [er] at eq
    rw [<- eq] at q
    exact fun w H3 s3 r => q w H3 ((le_guard st1.keep).trans s3) r
   | retM v ρ3 =>
    rw [er] at eq
    rw [<- eq] at q
    exact fun u σ3 H3 O3 st3 k3 ru => by
     obtain ⟨stb,kb⟩:=back_ok st1 st3 (kk.trans k3)
     exact q u σ3 H3 O3 stb kb ru
   | retF ys =>
    rw [er] at eq
    rw [<- eq] at q
    exact fun p us H3 s3 hp he r => q p us H3 ((le_guard st1.keep).trans s3) ((le_guard st1.keep).free hp) he r
   | bad =>
    rw [er] at eq
    rw [<- eq] at q
    exact (show False from q).elim
 ·left
  have ei:i = xs.length:=by omega
  subst ei
  rw [List.drop_length,forGo] at eq
  rw [<- eq] at q
  obtain ⟨stb,kb⟩:=back_ok st1 st' k'
  exact ⟨it.stop H' st'.keep,q σ' H' O' stb kb⟩
theorem for_go {K:PySem.W.Frag} {n:Nat} {k':Sk} {ms:List ME} {g:TG} {tk:PV -> Rho -> Option Rho} {body:List MS} {D:Ends} {σ:St} {H:Hp} (hn:σ.length = n) (hg:TgOk K n g tk) {B:Hp} {O₀ O:List Addr} {ρ:Rho} {vs xs:List PV} (st:StOk K B O₀ O H ρ σ) (e1:evs cal ms ρ = some vs) (e2:srcOf k' vs = some xs)
  (q:EndOk K B O₀ O ρ σ D ((forGo (fun x ρ' => bindO (tk x ρ') fun ρ'' => exs cal body ρ'') xs (lend ms ρ)).back ms ρ)):tFor (tW K cal k' ms) g (tSs K cal body) D σ H:=by
 exact ⟨B,O₀,O,ρ,vs,xs,st,e1,e2,fun J H1 s1 it => for_core hn hg (st.mono s1) it q⟩
theorem tg_name {K:PySem.W.Frag} {n i:Nat} (hi:i < n):TgOk K n (gName i) (fun x ρ => some (put ρ i (.val x))):=by
 intro B O₀ O H ρ ρ' σ x u Q hn st r e q
 cases e
 obtain ⟨st',k'⟩:=st.store (i:=i) (by omega) r
 exact q _ st' k'
theorem z_for1 {i:Nat} {k':Sk} {src:List ME} {body:List MS} {x:Str} {px pos:Pos} {it:Expr} {b:List Stmt} (g:Gf X T k cal) (d:Df X) (hi:X.N[i]? = some x) (hx:Loc X.env.scope x) (hw:PI X (.Name x px) it (tW X.K cal k' src)) (hns:notSet it = true) (hb:PSs X b (tSs X.K cal body)) :
  PS X (.For (.Name x px) it b [] pos) (tS X.K cal (.for1 i k' src body)):=by
 refine PS.imp' (ps_for d.own g.calm hw (pg_name d.nd hi hx (.inl (d.fn x))) hb (by intro v; cases it <;> first | rfl | (simp [notSet] at hns))) fun D σ H hl q => ?_
 obtain ⟨B,O₀,O,ρ,st,q⟩:=q
 rw [ex] at q
 cases e:(evs cal src ρ).bind (srcOf k') with
 | none => rw [e] at q; exact (show False from q).elim
 | some xs =>
  rw [e] at q
  simp only [Option.bind_eq_some_iff] at e
  obtain ⟨vs,e1,e2⟩:=e
  exact for_go (tk:=fun x ρ => some (put ρ i (.val x))) rfl (tg_name (ltN hi hl)) st e1 e2 q
noncomputable def tWX (K:PySem.W.Frag) (cal:Cal) (y:XE):TI:=fun σ H R =>
 ∃ B O₀ O ρ v ρ' xs,StOk K B O₀ O H ρ σ /\ evX cal y ρ = some (v,ρ') /\ srcOf .rng [v] = some xs /\ ∀ J H1,StOk K B O₀ O H1 ρ' σ -> Keeps B O O ρ ρ' σ σ -> ItOk K J xs (hide H1 O) (guard B O H1 (lentOf [.cst v] ρ' σ)) -> R J H1
theorem w_rangeX {tg:Expr} {y:XE} {e:Expr} {p pos:Pos} (g:Gf X T k cal) (hg:glB X.env.scope ("range":Str) = true) (h:PE X e (tX X.K cal y)) (hs:notStar e = true):PI X tg (.Call (.Name ("range":Str) p) [e] [] pos) (tWX X.K cal y):=by
 refine (pi_range1 (glOf hg) (g.blt "range" (by decide)) (pa_cons h pa_nil (star1 hs _ _)) (star1 hs _ _)).imp fun σ H R q => ?_
 obtain ⟨B,O₀,O,ρ,v,ρ',xs,st,e1,e2,q⟩:=q
 refine ⟨B,O₀,O,ρ,v,ρ',st,e1,fun u H1 v1 st1 k1 ru => ?_⟩
 cases v with
 | int j =>
  simp only [srcOf] at e2
  split at e2
  ·rename_i c
   cases e2
   rw [Rep] at ru
   subst ru
   exact ⟨j,rfl,c.1,c.2,q _ _ st1 k1 it_range⟩
  ·cases e2
 | _ => simp [srcOf] at e2
theorem z_forX {i:Nat} {y:XE} {body:List MS} {x:Str} {px p rp pos:Pos} {e:Expr} {b:List Stmt} (g:Gf X T k cal) (d:Df X) (hi:X.N[i]? = some x) (hx:Loc X.env.scope x) (hg:glB X.env.scope ("range":Str) = true) (h:PE X e (tX X.K cal y)) (hs:notStar e = true) (hb:PSs X b (tSs X.K cal body)) :
  PS X (.For (.Name x px) (.Call (.Name ("range":Str) p) [e] [] rp) b [] pos) (tS X.K cal (.forX i y body)):=by
 refine PS.imp' (ps_for d.own g.calm (w_rangeX g hg h hs) (pg_name d.nd hi hx (.inl (d.fn x))) hb (by intro v; rfl)) fun D σ H hl q => ?_
 obtain ⟨B,O₀,O,ρ,st,q⟩:=q
 rw [ex] at q
 cases e1:evX cal y ρ with
 | none => rw [e1] at q; exact (show False from q).elim
 | some pr =>
  obtain ⟨v,ρ'⟩:=pr
  rw [e1] at q
  dsimp only at q
  cases e2:srcOf .rng [v] with
  | none => rw [e2] at q; exact (show False from q).elim
  | some xs =>
   rw [e2] at q
   refine ⟨B,O₀,O,ρ,v,ρ',xs,st,e1,e2,fun J H1 st1 k1 it => ?_⟩
   refine for_core (ms:=[.cst v]) (tk:=fun x ρ => some (put ρ i (.val x))) rfl (tg_name (ltN hi hl)) st1 it ?_
   have q2:=EndOk.trans q k1
   have back:∀ r:R,r.back [.cst v] ρ' = r:=fun r => by cases r <;> rfl
   rw [back]
   exact q2
end
end MM
namespace MM
open PySem PySem.Spec PyProof.Rows L2
section
variable {X:Cx} {T:Tab} {k:Nat} {cal:Cal}
theorem swapped {i:Nat} {me:ME} {x:Str} {v:Expr} {px pos:Pos} (g:Gf X T k cal) (d:Df X) (hi:X.N[i]? = some x) (hx:Loc X.env.scope x) (hc:chk T me X.N X.env.scope v = true) (hs:swapK X.env.scope x px v me = true):∃ t,PS X (.Assign [.Name x px] v pos) (tAsg t (gName i)) /\ (∀ σ H Q,tF X.K cal me σ H Q -> t σ H Q) /\ freshB me = true:=by
 unfold swapK at hs
 rw [Bool.and_eq_true] at hs
 obtain ⟨hs,hk⟩:=hs
 cases v with
 | ListComp e gens scope cpos =>
  cases me with
  | comp2 _ _ _ _ => cases hk
  | comp k' src js cond elt =>
   match gens,hc,hs with
   | [],hc,_ => cases (show false = true from hc)
   | ⟨tg,it,ifs,as⟩ :: [],h,hs =>
    cases tg with
    | Name y py =>
     by_cases has:as = 0
     ·subst has
      have h:(compScB X.env.scope X.N scope y (fvsOf X.N js) js && chkW X.env.scope false (fun xs => chks T src X.N X.env.scope xs) k' it && condB (fun c => chk T cond (y :: fvsOf X.N js) (relS scope X.env.scope) c) cond ifs && chk T elt (y :: fvsOf X.N js) (relS scope X.env.scope) e && !isBor elt) = true:=h
      simp only [Bool.and_eq_true,Bool.not_eq_true'] at h
      obtain ⟨⟨⟨⟨h1,h2⟩,h3⟩,h4⟩,h5⟩:=h
      have hw:=s_walk (tg:=.Name y py) (fun z => by cases z) g h2 (fun xs hxs => ⟨sounds src g hxs,chks_star hxs⟩) (fun m x hm hx => match src,hm with | [m'],rfl => (sound m' g (by simp only [chks,Bool.and_eq_true] at hx; exact hx.1.1)).1)
      exact ⟨_,ps_setComp d.nd hi hx (compSc_of h1) g.calm hw.1 (fun s₁ H₁ C fp => s_cond h3 fun c hc => (sound cond (g.blk y (fvsOf X.N js) scope s₁ H₁ C fp) hc).2) (fun s₁ H₁ C fp => (sound elt (g.blk y (fvsOf X.N js) scope s₁ H₁ C fp) h4).1) (swap_true d hs) (by have:=hw.2; intro v; cases it <;> first | rfl | (simp [notSet] at this)) (.inl (d.fn x)),
       fun σ H Q q => s_comp.comp_go h5 q,rfl⟩
     ·exact absurd h (by
       have:chk T (.comp k' src js cond elt) X.N X.env.scope (.ListComp e [⟨.Name y py,it,ifs,as⟩] scope cpos) = false:=by
        rw [ck_comp]
        split <;> first | rfl | (rename_i z; simp_all)
       rw [this]; exact Bool.false_ne_true)
    | _ => cases (show false = true from h)
   | _ :: _ :: _,h,_ => simp [ck_comp] at h
  | _ => cases (show false = true from hc)
 | _ => simp [swapB] at hs
theorem tF_of {me:ME} (hf:freshB me = true) {σ:St} {H:Hp} {Q:VK} {K:PySem.W.Frag} (q:tE K cal me σ H Q):tF K cal me σ H Q:=by
 obtain ⟨B,O₀,O,ρ,v,st,e1,q⟩:=q
 have hv:∃ xs,v = .lst xs:=by
  cases me with
  | lst es =>
   rw [ev,Option.bind_eq_some_iff] at e1
   obtain ⟨vs,_,hv⟩:=e1
   split at hv
   ·cases hv; exact ⟨_,rfl⟩
   ·cases hv
  | comp _ _ _ _ _ => exact comp_lst ρ v e1
  | blt b es => cases b <;> first | exact blt_lst (.inl rfl) ρ v e1 | exact blt_lst (.inr (.inl rfl)) ρ v e1 | exact blt_lst (.inr (.inr (.inl rfl))) ρ v e1 | exact blt_lst (.inr (.inr (.inr (.inl rfl)))) ρ v e1 | exact blt_lst (.inr (.inr (.inr (.inr rfl)))) ρ v e1 | (simp [freshB] at hf)
  | _ => simp [freshB] at hf
 obtain ⟨xs,rfl⟩:=hv
 exact ⟨B,O₀,O,ρ,xs,st,e1,fun p us H' s hp he r => q _ _ s (got_new st.here hp he r)⟩
end
section
variable {T:Tab} {N:List Str} {sc:Scope}
theorem chk_set {i:Nat} {e:ME} {s:Stmt} (h:chkS T N sc (.set i e) s = true):∃ x px v pos,s = .Assign [.Name x px] v pos /\ (N[i]? == some x && locB sc x && plainName x && chk T e N sc v && !isBor e && (notComp v || swapK sc x px v e)) = true:=by
 obtain ⟨q,e1,h1⟩:=onO_of h
 obtain ⟨pos,rfl⟩:=asgN_of e1
 exact ⟨_,_,_,_,rfl,h1⟩
theorem chk_own {i:Nat} {e:ME} {s:Stmt} (h:chkS T N sc (.setOwn i e) s = true):∃ x px v pos,s = .Assign [.Name x px] v pos /\ (N[i]? == some x && locB sc x && plainName x && chk T e N sc v && (freshB e || catB e) && (notComp v || swapK sc x px v e)) = true:=by
 obtain ⟨q,e1,h1⟩:=onO_of h
 obtain ⟨pos,rfl⟩:=asgN_of e1
 exact ⟨_,_,_,_,rfl,h1⟩
theorem chk_append {i:Nat} {e:ME} {s:Stmt} (h:chkS T N sc (.append i e) s = true):∃ x p m ap v cp pos,s = .Expr (.Call (.Attribute (.Name x p) m ap) [v] [] cp) pos /\ (nameAt N sc i x && m == ("append":Str) && chk T e N sc v && !isBor e && notStar v && ap.endLine == cp.line) = true:=by
 obtain ⟨q,e1,h1⟩:=onO_of h
 obtain ⟨v,e2,h2⟩:=onO_of h1
 obtain ⟨p,pos,rfl⟩:=metC_of e1
 rw [list1_of e2]
 exact ⟨_,_,_,_,_,_,_,rfl,h2⟩
theorem chk_extend {i:Nat} {e:ME} {s:Stmt} (h:chkS T N sc (.extend i e) s = true):∃ x p m ap v cp pos,s = .Expr (.Call (.Attribute (.Name x p) m ap) [v] [] cp) pos /\ (nameAt N sc i x && m == ("extend":Str) && chk T e N sc v && notStar v && ap.endLine == cp.line) = true:=by
 obtain ⟨q,e1,h1⟩:=onO_of h
 obtain ⟨v,e2,h2⟩:=onO_of h1
 obtain ⟨p,pos,rfl⟩:=metC_of e1
 rw [list1_of e2]
 exact ⟨_,_,_,_,_,_,_,rfl,h2⟩
theorem chk_ite {c:ME} {a b:List MS} {s:Stmt} (h:chkS T N sc (.ite c a b) s = true):∃ t x y pos,s = .If t x y pos /\ (chk T c N sc t && chkSs T N sc a x && chkSs T N sc b y) = true:=by
 cases s with
 | If t x y pos => exact ⟨t,x,y,pos,rfl,h⟩
 | _ => cases (show false = true from h)
theorem chk_forX {i:Nat} {y:XE} {body:List MS} {s:Stmt} (h:chkS T N sc (.forX i y body) s = true):∃ x px it b pos,s = .For (.Name x px) it b [] pos /\ (N[i]? == some x && locB sc x && plainName x && onQ (fnQ it) (fun q => q.1 == ("range":Str) && glB sc q.1 && q.2.2.isEmpty && chkXE T y N sc q.2.1 && notStar q.2.1) && chkSs T N sc body b) = true:=by
 rw [cs_forX] at h
 split at h
 ·exact ⟨_,_,_,_,_,rfl,h⟩
 ·cases h
theorem chk_for1 {i:Nat} {k:Sk} {src:List ME} {body:List MS} {s:Stmt} (h:chkS T N sc (.for1 i k src body) s = true):∃ x px it b pos,s = .For (.Name x px) it b [] pos /\ (N[i]? == some x && locB sc x && plainName x && chkW sc false (fun xs => chks T src N sc xs) k it && chkSs T N sc body b) = true:=by
 simp only [cs_for1] at h
 split at h <;> first | (cases h; done) | (rename_i heq; cases heq; exact ⟨_,_,_,_,_,rfl,h⟩) | (injections; done) | (injections; subst_vars; exact ⟨_,_,_,_,_,rfl,h⟩)
theorem chk_retM {e:ME} {s:Stmt} (h:chkS T N sc (.retM e) s = true):∃ v pos,s = .Return (some v) pos /\ (chk T e N sc v && !isBor e) = true:=by
 obtain ⟨v,e1,h1⟩:=onO_of h
 obtain ⟨pos,rfl⟩:=retV_of e1
 exact ⟨_,_,rfl,h1⟩
theorem chk_ret {e:ME} {s:Stmt} (h:chkS T N sc (.ret e) s = true):∃ v pos,s = .Return (some v) pos /\ (chk T e N sc v && !isBor e) = true:=by
 obtain ⟨v,e1,h1⟩:=onO_of h
 obtain ⟨pos,rfl⟩:=retV_of e1
 exact ⟨_,_,rfl,h1⟩
theorem chk_retOwn {i:Nat} {s:Stmt} (h:chkS T N sc (.retOwn i) s = true):∃ x p pos,s = .Return (some (.Name x p)) pos /\ (nameAt N sc i x) = true:=by
 obtain ⟨v,e1,h1⟩:=onO_of h
 obtain ⟨x,e2,h2⟩:=onO_of h1
 obtain ⟨pos,rfl⟩:=retV_of e1
 obtain ⟨p,rfl⟩:=nameX_of e2
 exact ⟨_,_,_,rfl,h2⟩
end
theorem sound_set {T:Tab} {k:Nat} {cal:Cal} {X:Cx} (g:Gf X T k cal) (d:Df X) {i:Nat} {e:ME} {s:Stmt} (h:chkS T X.N X.env.scope (.set i e) s = true):PS X s (tS X.K cal (.set i e)):=by
 obtain ⟨x,px,v,pos,rfl,hc⟩:=chk_set h
 simp only [Bool.and_eq_true,Bool.or_eq_true,beq_iff_eq,Bool.not_eq_true'] at hc
 obtain ⟨⟨⟨⟨⟨h1,h2⟩,h3⟩,h4⟩,h5⟩,h6⟩:=hc
 rcases h6 with h6 | h6
 ·exact z_set d h1 (locOf h2) (sound e g h4).1 h5 h6
 ·obtain ⟨t,p,hp,hf⟩:=swapped (pos:=pos) g d h1 (locOf h2) h4 h6
  exact PS.imp' p fun D σ H hl q => hp _ _ _ (tF_of hf (set_go (ltN h1 hl) h5 q))
noncomputable def isFr:MS -> Bool
 | .freeze _ => true
 | _ => false
mutual
theorem soundS {T:Tab} {k:Nat} {cal:Cal} {X:Cx} (g:Gf X T k cal) (d:Df X):∀ (m:MS) (s:Stmt),chkS T X.N X.env.scope m s = true -> PS X s (tS X.K cal m)
 | .set i e,s,h => sound_set g d h
 | .setOwn i e,s,h => by
  obtain ⟨x,px,v,pos,rfl,hc⟩:=chk_own h
  simp only [Bool.and_eq_true,Bool.or_eq_true,beq_iff_eq] at hc
  obtain ⟨⟨⟨⟨⟨h1,h2⟩,h3⟩,h4⟩,h5⟩,h6⟩:=hc
  rcases h6 with h6 | h6
  ·rcases h5 with h5 | h5
   ·exact z_own d h1 (locOf h2) (soundF g h4 h5) h6
   ·exact z_own d h1 (locOf h2) (soundC g h4 h5) h6
  ·obtain ⟨t,p,hp,hf⟩:=swapped (pos:=pos) g d h1 (locOf h2) h4 h6
   exact PS.imp' p fun D σ H hl q => hp _ _ _ (own_go (ltN h1 hl) q)
 | .append i e,s,h => by
  obtain ⟨x,p,m,ap,v,cp,pos,rfl,hc⟩:=chk_append h
  simp only [Bool.and_eq_true,beq_iff_eq,Bool.not_eq_true'] at hc
  obtain ⟨⟨⟨⟨⟨h1,rfl⟩,h3⟩,h4⟩,h5⟩,h6⟩:=hc
  exact z_append (sound e g h3).1 h1 h4 h5 (beq_iff_eq.mpr h6)
 | .extend i e,s,h => by
  obtain ⟨x,p,m,ap,v,cp,pos,rfl,hc⟩:=chk_extend h
  simp only [Bool.and_eq_true,beq_iff_eq] at hc
  obtain ⟨⟨⟨⟨h1,rfl⟩,h3⟩,h5⟩,h6⟩:=hc
  exact z_extend (sound e g h3).1 h1 h5 (beq_iff_eq.mpr h6)
 | .setIdx _ _ _,s,h => absurd (show false = true from h) Bool.false_ne_true
 | .unpack _ _,s,h => absurd (show false = true from h) Bool.false_ne_true
 | .expr _,s,h => absurd (show false = true from h) Bool.false_ne_true
 | .ite c a b,s,h => by
  obtain ⟨t,x,y,pos,rfl,hc⟩:=chk_ite h
  simp only [Bool.and_eq_true] at hc
  exact z_if (sound c g hc.1.1).2 (soundSs g d a x hc.1.2) (soundSs g d b y hc.2)
 | .for1 i k' src body,s,h => by
  obtain ⟨x,px,it,b,pos,rfl,hc⟩:=chk_for1 h
  simp only [Bool.and_eq_true,beq_iff_eq] at hc
  obtain ⟨⟨⟨⟨h1,h2⟩,h3⟩,h4⟩,h5⟩:=hc
  have hw:=s_walk (tg:=.Name x px) (fun z => by cases z) g h4 (fun xs hxs => ⟨sounds src g hxs,chks_star hxs⟩) (fun m x hm hx => match src,hm with | [m'],rfl => (sound m' g (by simp only [chks,Bool.and_eq_true] at hx; exact hx.1.1)).1)
  exact z_for1 g d h1 (locOf h2) hw.1 hw.2 (soundSs g d body b h5)
 | .forT _ _ _ _,s,h => absurd (show false = true from h) Bool.false_ne_true
 | .while _ _ _,s,h => absurd (show false = true from h) Bool.false_ne_true
 | .ret e,s,h => by
  obtain ⟨v,pos,rfl,hc⟩:=chk_ret h
  simp only [Bool.and_eq_true,Bool.not_eq_true'] at hc
  exact z_ret (sound e g hc.1).1 hc.2
 | .setP i e,s,h => by
  obtain ⟨q,e1,hc⟩:=onO_of (show onO (asgN s) (fun q => X.N[i]? == some q.1 && locB X.env.scope q.1 && plainName q.1 && onQ (revQ q.2.2) fun r => r.1 == ("list":Str) && r.2.1 == ("reversed":Str) && glB X.env.scope r.1 && glB X.env.scope r.2.1 && chk T e X.N X.env.scope r.2.2 && notStar r.2.2) = true from h)
  obtain ⟨x,px,v⟩:=q
  obtain ⟨pos,rfl⟩:=asgN_of e1
  obtain ⟨a1,h4⟩:=Bool.and_eq_true_iff.mp hc
  obtain ⟨a2,h3⟩:=Bool.and_eq_true_iff.mp a1
  obtain ⟨h1,h2⟩:=Bool.and_eq_true_iff.mp a2
  obtain ⟨r,e2,hr⟩:=onQ_of h4
  obtain ⟨f,f2,w⟩:=r
  obtain ⟨p,p2,pos2,cp,rfl⟩:=revQ_of e2
  obtain ⟨b1,c6⟩:=Bool.and_eq_true_iff.mp hr
  obtain ⟨b2,c5⟩:=Bool.and_eq_true_iff.mp b1
  obtain ⟨b3,c4⟩:=Bool.and_eq_true_iff.mp b2
  obtain ⟨b4,c3⟩:=Bool.and_eq_true_iff.mp b3
  obtain ⟨c1,c2⟩:=Bool.and_eq_true_iff.mp b4
  obtain rfl:f = ("list":Str):=eq_of_beq c1
  obtain rfl:f2 = ("reversed":Str):=eq_of_beq c2
  exact z_setP g d (eq_of_beq h1) (locOf h2) c3 c4 (sound e g c5).1 c6
 | .setX i y,s,h => by
  obtain ⟨q,e1,hc⟩:=onO_of (show onO (asgN s) (fun q => X.N[i]? == some q.1 && locB X.env.scope q.1 && plainName q.1 && chkXE T y X.N X.env.scope q.2.2 && notComp q.2.2) = true from h)
  obtain ⟨pos,rfl⟩:=asgN_of e1
  obtain ⟨a2,h5⟩:=Bool.and_eq_true_iff.mp hc
  obtain ⟨a3,h4⟩:=Bool.and_eq_true_iff.mp a2
  obtain ⟨a4,h3⟩:=Bool.and_eq_true_iff.mp a3
  obtain ⟨h1,h2⟩:=Bool.and_eq_true_iff.mp a4
  exact z_setX d (eq_of_beq h1) (locOf h2) (soundXE g y _ h4) h5
 | .appX i y,s,h => by
  obtain ⟨q,e1,hc⟩:=onO_of (show onO (metC s) (fun q => onO (list1 q.2.2.2.1) fun v => nameAt X.N X.env.scope i q.1 && q.2.1 == ("append":Str) && chkXE T y X.N X.env.scope v && notStar v && q.2.2.1.endLine == q.2.2.2.2.line) = true from h)
  obtain ⟨v,e2,hc⟩:=onO_of hc
  obtain ⟨x,m,ap,as,cp⟩:=q
  obtain ⟨p,pos,rfl⟩:=metC_of e1
  have e3:as = [v]:=list1_of e2
  subst e3
  obtain ⟨a2,h5⟩:=Bool.and_eq_true_iff.mp hc
  obtain ⟨a3,h4⟩:=Bool.and_eq_true_iff.mp a2
  obtain ⟨a4,h3⟩:=Bool.and_eq_true_iff.mp a3
  obtain ⟨h1,h2⟩:=Bool.and_eq_true_iff.mp a4
  obtain rfl:m = ("append":Str):=eq_of_beq h2
  exact z_appX (soundXE g y _ h3) h1 h4 h5
 | .retXE y,s,h => by
  obtain ⟨v,e1,hc⟩:=onO_of (show onO (retV s) (fun v => chkXE T y X.N X.env.scope v) = true from h)
  obtain ⟨pos,rfl⟩:=retV_of e1
  exact z_retXE (soundXE g y _ hc)
 | .forX i y body,s,h => by
  obtain ⟨x,px,it,b,pos,rfl,h⟩:=chk_forX h
  obtain ⟨a1,h5⟩:=Bool.and_eq_true_iff.mp h
  obtain ⟨a2,h4⟩:=Bool.and_eq_true_iff.mp a1
  obtain ⟨a3,h3⟩:=Bool.and_eq_true_iff.mp a2
  obtain ⟨h1,h2⟩:=Bool.and_eq_true_iff.mp a3
  obtain ⟨q,e1,hc⟩:=onQ_of h4
  obtain ⟨f,e,es⟩:=q
  obtain ⟨p,rp,rfl⟩:=fnQ_of e1
  obtain ⟨b1,c5⟩:=Bool.and_eq_true_iff.mp hc
  obtain ⟨b2,c4⟩:=Bool.and_eq_true_iff.mp b1
  obtain ⟨b3,c3⟩:=Bool.and_eq_true_iff.mp b2
  obtain ⟨c1,c2⟩:=Bool.and_eq_true_iff.mp b3
  obtain rfl:f = ("range":Str):=eq_of_beq c1
  have e3:es = []:=List.isEmpty_iff.mp c3
  subst e3
  exact z_forX g d (eq_of_beq h1) (locOf h2) c2 (soundXE g y _ c4) c5 (soundSs g d body b h5)
 | .retM e,s,h => by
  obtain ⟨v,pos,rfl,hc⟩:=chk_retM h
  simp only [Bool.and_eq_true,Bool.not_eq_true'] at hc
  exact z_retM (sound e g hc.1).1 hc.2
 | .retF _,s,h => absurd (show false = true from h) Bool.false_ne_true
 | .setCall _ _ _,s,h => absurd (show false = true from h) Bool.false_ne_true
 | .clear _,s,h => absurd (show false = true from h) Bool.false_ne_true
 | .retOwn i,s,h => by
  obtain ⟨x,p,pos,rfl,hc⟩:=chk_retOwn h
  exact z_retOwn hc
 | .retN,s,h => absurd (show false = true from h) Bool.false_ne_true
 | .brk,s,h => absurd (show false = true from h) Bool.false_ne_true
 | .cont,s,h => absurd (show false = true from h) Bool.false_ne_true
 | .pass,s,h => absurd (show false = true from h) Bool.false_ne_true
 | .never,s,h => by
  refine ps_never.imp fun D σ H q => ?_
  obtain ⟨B,O₀,O,ρ,st,q⟩:=q
  rw [ex] at q
  exact q
 | .newD _ _,s,h => absurd (show false = true from h) Bool.false_ne_true
 | .dput _ _ _,s,h => absurd (show false = true from h) Bool.false_ne_true
 | .freeze _,s,h => absurd (show false = true from h) Bool.false_ne_true
theorem soundSs {T:Tab} {k:Nat} {cal:Cal} {X:Cx} (g:Gf X T k cal) (d:Df X):∀ (ms:List MS) (ss:List Stmt),chkSs T X.N X.env.scope ms ss = true -> PSs X ss (tSs X.K cal ms)
 | [],ss,h => by
  cases ss with
  | nil => exact z_nil
  | cons _ _ => cases h
 | m :: ms,ss,h => by
  cases hm:isFr m with
  | true =>
   cases m <;> simp [isFr] at hm
   cases h
  | false =>
   cases ss with
   | nil => cases m <;> first | (cases h; done) | cases hm
   | cons s ss =>
    have h:(chkS T X.N X.env.scope m s && chkSs T X.N X.env.scope ms ss) = true:=by cases m <;> first | exact h | (simp [isFr] at hm)
    simp only [Bool.and_eq_true] at h
    exact z_cons (soundS g d m s h.1) (soundSs g d ms ss h.2)
end
end MM
namespace MM
open PySem PySem.Spec PyProof.Rows L2
structure FnD (K:PySem.W.Frag) (x y:Str) (st:Stmt) (fa:Addr) (fd:FuncData):Prop where
 it:∃ (c0 d0 k0 o0 m0:Value) (a0:Option Addr) (c1 t1:Value) (a1:Option Addr) (sl:Array (Option Value)),
  K.lookup fa = some ⟨c0,a1,.func fd,sl⟩ /\ PySem.W.codeIn K c1 y = true /\ fd = PySem.W.fnOf x y (defArgs st) (defBody st) (defScope st) d0 k0 o0 m0 a0 c1 t1
 kp:PySem.W.keepIn K (.ref fa) = true
theorem FnD.mk' {K:PySem.W.Frag} {x y:Str} {st:Stmt} {fa:Addr} {c0 d0 k0 o0 m0 c1 t1:Value} {a0 a1:Option Addr} {sl:Array (Option Value)}
  (l:K.lookup fa = some ⟨c0,a1,.func (PySem.W.fnOf x y (defArgs st) (defBody st) (defScope st) d0 k0 o0 m0 a0 c1 t1),sl⟩) (c:PySem.W.codeIn K c1 y = true) (k:PySem.W.keepIn K (.ref fa) = true) :
  FnD K x y st fa (PySem.W.fnOf x y (defArgs st) (defBody st) (defScope st) d0 k0 o0 m0 a0 c1 t1):=⟨⟨_,_,_,_,_,_,_,_,_,_,l,c,rfl⟩,k⟩
structure DefIs (T:Tab) (K:PySem.W.Frag) (mg:Str -> Option Value) (st:Stmt) (d:MD) (fa:Addr) (fd:FuncData):Prop where
 fn:FnD K d.name d.name st fa fd
 binds:Binds K fd d.params []
 named:mg d.name = some (.ref fa)
 scope:FnScope d.names d.params (defScope st)
 body:chkSs T d.names (defScope st) d.body (defBody st) = true
theorem bn1 {K:PySem.W.Frag} {fd:FuncData} {pa:Str} (h:∀ a,bindArgs fd ⟨[a],[]⟩ = pure [(pa,a)]):Binds K fd [pa] []:=.all fun us hl => match us,hl with | [a],_ => h a
theorem bn2 {K:PySem.W.Frag} {fd:FuncData} {pa pb:Str} (h:∀ a b,bindArgs fd ⟨[a,b],[]⟩ = pure [(pa,a),(pb,b)]):Binds K fd [pa,pb] []:=.all fun us hl => match us,hl with | [a,b],_ => h a b
theorem bn3 {K:PySem.W.Frag} {fd:FuncData} {pa pb pc:Str} (h:∀ a b c,bindArgs fd ⟨[a,b,c],[]⟩ = pure [(pa,a),(pb,b),(pc,c)]):Binds K fd [pa,pb,pc] []:=.all fun us hl => match us,hl with | [a,b,c],_ => h a b c
noncomputable def HD (K:PySem.W.Frag) (x:Str) (st:Stmt) (d:MD) (q:FuncData -> Prop:=fun _ => True):Prop:=d.name = x /\ ∃ fa fd,PySem.W.nsIn K mainGlobals x = some (some (.ref fa)) /\ FnD K x x st fa fd /\ Binds K fd d.params [] /\ q fd
noncomputable def okD (T:Tab) (st:Stmt) (d:MD):Bool :=
 decide ((defScope st).kind = .function /\ (defScope st).isCoroutine = false /\ (defScope st).isGenerator = false /\ d.names.Nodup /\ d.names.take d.params.length = d.params /\ (∀ x ∈ d.params,(defScope st).names.lookup x = some .local \/ (defScope st).names.lookup x = some .cell) /\ ∀ y ∈ (defScope st).names,y.2 ≠ .free)
  && chkSs T d.names (defScope st) d.body (defBody st)
theorem def_of {T:Tab} {K:PySem.W.Frag} {mg:Str -> Option Value} {h:Heap} {st:Stmt} {d:MD} (X:K.In h) (G:h.Ns mainGlobals mg) {q:FuncData -> Prop} {x:Str} (hd:HD K x st d q) (ck:okD T st d = true):∃ fa fd,DefIs T K mg st d fa fd /\ q fd:=by
 obtain ⟨e,_,_,n,f,b,z⟩:=hd
 obtain ⟨c1,c2⟩:=Bool.and_eq_true_iff.mp ck
 obtain ⟨s1,s2,s3,s4,s5,s6,s7⟩:=of_decide_eq_true c1
 subst e
 exact ⟨_,_,⟨f,b,PySem.W.mg_of X G n,⟨s1,s2,s3,s4,s5,s6,s7⟩,c2⟩,z⟩
noncomputable def AllD (T:Tab) (K:PySem.W.Frag) (mg:Str -> Option Value):List MD -> List (List Sc) -> Prop
 | [],[] => True
 | d :: ds,l :: ls => (∃ st fa fd,DefIs T K mg st d fa fd /\ ∃ vs,Binds K fd d.params vs /\ Vals (l.map Sc.v) vs) /\ AllD T K mg ds ls
 | _,_ => False
theorem AllD.get {T:Tab} {K:PySem.W.Frag} {mg:Str -> Option Value}:∀ {ds:List MD} {ls:List (List Sc)} {f:Nat} {d:MD},AllD T K mg ds ls -> ds[f]? = some d -> ∃ l st fa fd,ls[f]? = some l /\ DefIs T K mg st d fa fd /\ ∃ vs,Binds K fd d.params vs /\ Vals (l.map Sc.v) vs
 | [],_,f,d,_,e => by simp at e
 | _ :: _,[],f,d,h,e => h.elim
 | d0 :: ds,l :: ls,0,d,h,e => by
  cases e
  obtain ⟨⟨st,fa,fd,r⟩,_⟩:=h
  exact ⟨l,st,fa,fd,rfl,r⟩
 | d0 :: ds,l :: ls,f + 1,d,h,e => by
  obtain ⟨k,st,fa,fd,q,r⟩:=AllD.get h.2 (show ds[f]? = some d from by simpa using e)
  exact ⟨k,st,fa,fd,by simpa using q,r⟩
noncomputable def valB (K:PySem.W.Frag):Nat -> PV -> Value -> Bool
 | _,.str x,.str y _ => x == y
 | n + 1,.tup xs,.ref a => (match List.lookup a K with
  | some o => (match o.cls,o.data with
   | .type t,.seq its _ => t == "tuple" && decide (its.size <= 10000) && xs.length == its.size && (xs.zip its.toList).all fun p => valB K n p.1 p.2
   | _,_ => false)
  | none => false)
 | _,_,_ => false
theorem vals_ok {K:PySem.W.Frag} {n:Nat} (ih:∀ (v:PV) (val:Value),valB K n v val = true -> ∃ u,RelV u val /\ ∀ F,Rep K F v u):∀ (xs:List PV) (its:List Value),xs.length = its.length -> ((xs.zip its).all fun p => valB K n p.1 p.2) = true -> ∃ us,Vals us its /\ ∀ F,Reps K F xs us
 | [],[],_,_ => ⟨[],.nil,fun _ => .nil⟩
 | [],_ :: _,h,_ => by cases h
 | _ :: _,[],h,_ => by cases h
 | x :: xs,v :: vs,h,ha => by
  rw [List.zip_cons_cons,List.all_cons,Bool.and_eq_true] at ha
  obtain ⟨u,r,q⟩:=ih x v ha.1
  obtain ⟨us,rs,qs⟩:=vals_ok ih xs vs (by simpa using h) ha.2
  exact ⟨u :: us,.cons r rs,fun F => .cons (q F) (qs F)⟩
theorem valB_ok {K:PySem.W.Frag}:∀ (n:Nat) (v:PV) (val:Value),valB K n v val = true -> ∃ u,RelV u val /\ ∀ F,Rep K F v u
 | n,.str x,val,h => by
  cases val with
  | str y t =>
   have h:(x == y) = true:=by cases n <;> exact h
   obtain rfl:=eq_of_beq h
   exact ⟨.str x,⟨t,rfl⟩,fun F => by rw [Rep]⟩
  | _ => cases n <;> cases h
 | n + 1,.tup xs,val,h => by
  cases val with
  | ref a =>
   have h:(match List.lookup a K with | some o => (match o.cls,o.data with | .type t,.seq its _ => t == "tuple" && decide (its.size <= 10000) && xs.length == its.size && (xs.zip its.toList).all fun p => valB K n p.1 p.2 | _,_ => false) | none => false) = true:=h
   split at h
   ·rename_i o ho
    split at h
    ·rename_i t its m hc hd
     simp only [Bool.and_eq_true,beq_iff_eq,decide_eq_true_eq] at h
     obtain ⟨⟨⟨rfl,h1⟩,h2⟩,h3⟩:=h
     obtain ⟨us,rs,qs⟩:=vals_ok (valB_ok n) xs its.toList (by simpa using h2) h3
     refine ⟨.ref a,rfl,fun F => ?_⟩
     rw [Rep]
     exact ⟨a,us,rfl,.inr ⟨o,its,m,ho,hc,hd,by rw [sizeLine_eq]; omega,rs⟩,qs F⟩
    ·cases h
   ·cases h
  | _ => cases h
 | 0,.tup _,val,h => by cases val <;> cases h
 | n,.non,val,h => by cases n <;> cases val <;> cases h
 | n,.bl _,val,h => by cases n <;> cases val <;> cases h
 | n,.int _,val,h => by cases n <;> cases val <;> cases h
 | n,.lst _,val,h => by cases n <;> cases val <;> cases h
 | n,.dI _,val,h => by cases n <;> cases val <;> cases h
noncomputable def HashAll (w:World):List DictEntry -> Prop
 | [] => True
 | e :: r => (match e.key with | .str x _ => e.hash = hashStr w x | _ => False) /\ HashAll w r
theorem hash_of {w:World}:∀ {es:List DictEntry},HashAll w es -> ∀ e ∈ es,∃ k,Value.isStrOf k e.key = true /\ e.hash = hashStr w k
 | [],_,e,he => by cases he
 | d :: es,h,e,he => by
  rcases List.mem_cons.mp he with rfl | he
  ·have h1:(match e.key with | .str x _ => e.hash = hashStr w x | _ => False):=h.1
   split at h1
   ·rename_i x t hk
    exact ⟨x,by rw [hk]; simp [Value.isStrOf],h1⟩
   ·exact h1.elim
  ·exact hash_of h.2 e he
noncomputable def tblB (K:PySem.W.Frag) (es:Array DictEntry) (tbl:List (Str × PV)):Bool:=tbl.all fun p => match findBy Value.isStrOf es p.1 with | some val => valB K 4 p.2 val | none => false
theorem ct_mk {K:PySem.W.Frag} {mg:Str -> Option Value} {w:World} {d:Addr} {o:Obj} {es:Array DictEntry} {ep:Nat} (h1:mg ("MEMBERS":Str) = some (.ref d)) (h2:List.lookup d K = some o) (h3:o.ExactDict) (h4:o.data = .dict es ep) (h5:HashAll w es.toList) (h6:(cTab.all fun t => tblB K es t.2) = true):CtOk K mg w:=fun t ht => by
 have h7:=List.all_eq_true.mp h6 t ht
 refine ⟨d,o,es,ep,?_,h2,h3,h4,fun e he => hash_of h5 e (by simpa using he),fun p hp => ?_⟩
 ·unfold cTab at ht
  simp only [List.mem_cons,List.not_mem_nil,or_false] at ht
  subst ht
  exact h1
 ·have h8:=List.all_eq_true.mp h7 p hp
  split at h8
  ·rename_i val hv
   obtain ⟨u,r,q⟩:=valB_ok _ _ _ h8
   exact ⟨val,u,hv,r,q⟩
  ·cases h8
structure Prog (T:Tab) (K:PySem.W.Frag) (mg:Str -> Option Value) (ds:List MD)
  (w:World)
 :Prop where
 tab:T.fs = ds.map (·.name)
 defs:AllD T K mg ds T.ds
 blt:∀ x ∈ bltNames,mg (x:Str) = none
 gs:∀ p ∈ T.gs,∃ u,mg p.1 = some u /\ RelV (toV p.2) u
 ct:CtOk K mg w
theorem callN_some {ds:List MD} {n f:Nat} {d:MD} {args:List MV} {r:PV} (hd:ds[f]? = some d) (h:callN ds (n + 1) f args = some r):args.length = d.params.length /\
  ((∃ ρ,exs (callN ds n) d.body (args.map some ++ List.replicate (d.names.length - args.length) none) = .next ρ /\ r = .non) \/ exs (callN ds n) d.body (args.map some ++ List.replicate (d.names.length - args.length) none) = .ret r \/
   ∃ xs,exs (callN ds n) d.body (args.map some ++ List.replicate (d.names.length - args.length) none) = .retF xs /\ r = .lst xs):=by
 rw [callN,hd] at h
 dsimp only at h
 by_cases hl:args.length = d.params.length
 ·rw [if_pos hl] at h
  refine ⟨hl,?_⟩
  cases he:exs (callN ds n) d.body (args.map some ++ List.replicate (d.names.length - args.length) none) with
  | next ρ => rw [he] at h; cases h; exact .inl ⟨ρ,rfl,rfl⟩
  | ret v => rw [he] at h; cases h; exact .inr (.inl rfl)
  | retF xs => rw [he] at h; cases h; exact .inr (.inr ⟨xs,rfl,rfl⟩)
  | retM v ρ => rw [he] at h; cases h
  | brk ρ => rw [he] at h; cases h
  | cont ρ => rw [he] at h; cases h
  | bad => rw [he] at h; cases h
 ·rw [if_neg hl] at h
  cases h
theorem callN_fresh {ds:List MD} {n f:Nat} {d:MD} {args:List MV} {r:PV} (hf:f < 1000) (hn:ds[f + 1000]? = none) (hd:ds[f]? = some d) (h:callN ds (n + 1) (f + 1000) args = some r):args.length = d.params.length /\
  ∃ xs,exs (callN ds n) d.body (args.map some ++ List.replicate (d.names.length - args.length) none) = .retF xs /\ r = .lst xs:=by
 rw [callN,hn] at h
 dsimp only at h
 rw [if_neg (by omega),Nat.add_sub_cancel,hd] at h
 dsimp only at h
 by_cases hl:args.length = d.params.length
 ·rw [if_pos hl] at h
  refine ⟨hl,?_⟩
  cases he:exs (callN ds n) d.body (args.map some ++ List.replicate (d.names.length - args.length) none) with
  | retF xs => rw [he] at h; cases h; exact ⟨xs,rfl,rfl⟩
  | retM v ρ => rw [he] at h; cases h
  | next ρ => rw [he] at h; cases h
  | ret v => rw [he] at h; cases h
  | brk ρ => rw [he] at h; cases h
  | cont ρ => rw [he] at h; cases h
  | bad => rw [he] at h; cases h
 ·rw [if_neg hl] at h
  cases h
theorem callN_mut {ds:List MD} {n f:Nat} {d:MD} {args:List MV} {r:PV} (hf:f < 1000) (hn:ds[f + 2000]? = none) (hd:ds[f]? = some d) (h:callN ds (n + 1) (f + 2000) args = some r):args.length = d.params.length /\
  ∃ v ρ ms,exs (callN ds n) d.body (args.map some ++ List.replicate (d.names.length - args.length) none) = .retM v ρ /\ mutsOf args ρ = some ms /\ r = .tup (v :: ms):=by
 rw [callN,hn] at h
 dsimp only at h
 rw [if_pos (by omega)] at h
 rw [Nat.add_sub_cancel,hd] at h
 dsimp only at h
 by_cases hl:args.length = d.params.length
 ·rw [if_pos hl] at h
  refine ⟨hl,?_⟩
  cases he:exs (callN ds n) d.body (args.map some ++ List.replicate (d.names.length - args.length) none) with
  | retM v ρ =>
   rw [he] at h
   dsimp only at h
   rw [Option.map_eq_some_iff] at h
   obtain ⟨ms,e1,e2⟩:=h
   exact ⟨v,ρ,ms,rfl,e1,e2.symm⟩
  | next ρ => rw [he] at h; cases h
  | ret v => rw [he] at h; cases h
  | retF xs => rw [he] at h; cases h
  | brk ρ => rw [he] at h; cases h
  | cont ρ => rw [he] at h; cases h
  | bad => rw [he] at h; cases h
 ·rw [if_neg hl] at h
  cases h
theorem mutat_mem {H:Hp} {args:List MV} {vs:List V} {ds:List PV} {ms:List Addr} (h:MutAt H args vs ds ms):∀ (i:Nat) (d:DD) (a:Addr),args[i]? = some (.mutD d) -> vs[i]? = some (.ref a) -> a ∈ ms:=by
 induction h with
 | nil => intro i d a e; simp at e
 | mutd h hn t ih =>
  intro i d a e1 e2
  cases i with
  | zero => simp at e2; subst e2; exact .head _
  | succ i => exact .tail _ (ih i d a (by simpa using e1) (by simpa using e2))
 | other hm t ih =>
  intro i d a e1 e2
  cases i with
  | zero => simp at e1; exact absurd e1 (hm d)
  | succ i => exact ih i d a (by simpa using e1) (by simpa using e2)
theorem mutat_apart {H:Hp} {args:List MV} {vs:List V} {ds:List PV} {ms:List Addr} (h:MutAt H args vs ds ms):∀ (i j:Nat) (d d':DD) (a:Addr),i ≠ j -> args[i]? = some (.mutD d) -> args[j]? = some (.mutD d') -> vs[i]? = some (.ref a) -> vs[j]? ≠ some (.ref a):=by
 induction h with
 | nil => intro i j d d' a _ e; simp at e
 | mutd h hn t ih =>
  intro i j d d' a hij e1 e2 e3 e4
  cases i with
  | zero =>
   cases j with
   | zero => exact hij rfl
   | succ j =>
    simp at e3
    subst e3
    exact hn (mutat_mem t j d' _ (by simpa using e2) (by simpa using e4))
  | succ i =>
   cases j with
   | zero =>
    simp at e4
    subst e4
    exact hn (mutat_mem t i d _ (by simpa using e1) (by simpa using e3))
   | succ j => exact ih i j d d' a (by omega) (by simpa using e1) (by simpa using e2) (by simpa using e3) (by simpa using e4)
 | other hm t ih =>
  intro i j d d' a hij e1 e2 e3 e4
  cases i with
  | zero => simp at e1; exact hm d e1
  | succ i =>
   cases j with
   | zero => simp at e2; exact hm d' e2
   | succ j => exact ih i j d d' a (by omega) (by simpa using e1) (by simpa using e2) (by simpa using e3) (by simpa using e4)
theorem mutat_slot {H:Hp} {args:List MV} {vs:List V} {ds:List PV} {ms:List Addr} (h:MutAt H args vs ds ms):∀ {ρ:Rho} {ds':List PV},mutsOf args ρ = some ds' -> ∀ a ∈ ms,∃ (i:Nat) (d:DD),vs[i]? = some (.ref a) /\ ρ[i]? = some (some (.mutD d)):=by
 induction h with
 | nil => intro ρ ds' _ a ha; cases ha
 | mutd h hn t ih =>
  intro ρ ds' e b hb
  match ρ,e with
  | some (.mutD d') :: ρ,e =>
   rw [mutsOf,Option.map_eq_some_iff] at e
   obtain ⟨ds2,e0,rfl⟩:=e
   rcases List.mem_cons.mp hb with rfl | hb
   ·exact ⟨0,d',rfl,rfl⟩
   ·obtain ⟨i,d,h1,h2⟩:=ih e0 b hb
    exact ⟨i + 1,d,by simpa using h1,by simpa using h2⟩
 | other hm t ih =>
  intro ρ ds' e b hb
  rename_i m v as vs ds ms
  match m,ρ,e,hm with
  | .val _,r :: ρ,e,hm =>
   rw [mutsOf] at e
   obtain ⟨i,d,h1,h2⟩:=ih e b hb
   exact ⟨i + 1,d,by simpa using h1,by simpa using h2⟩
  | .mutD d,_,_,hm => exact absurd rfl (hm d)
theorem mutat_end {H H':Hp} {args:List MV} {vs:List V} {ds:List PV} {ms:List Addr} (h:MutAt H args vs ds ms):∀ {ρ:Rho} {ds':List PV},mutsOf args ρ = some ds' -> (∀ (i:Nat) (d d':DD) (a:Addr),args[i]? = some (.mutD d) -> ρ[i]? = some (some (.mutD d')) -> vs[i]? = some (.ref a) -> H' a = some (encD d')) -> MutAt H' args vs ds' ms:=by
 induction h with
 | nil => intro ρ ds' e _; rw [mutsOf] at e; cases e; exact .nil
 | mutd h hn t ih =>
  intro ρ ds' e hq
  match ρ,e with
  | some (.mutD d') :: ρ,e =>
   rw [mutsOf,Option.map_eq_some_iff] at e
   obtain ⟨ds2,e0,rfl⟩:=e
   exact .mutd (hq 0 _ d' _ rfl rfl rfl) hn (ih e0 fun i d d2 a e1 e2 e3 => hq (i + 1) d d2 a (by simpa using e1) (by simpa using e2) (by simpa using e3))
 | other hm t ih =>
  intro ρ ds' e hq
  rename_i m v as vs ds ms
  match m,ρ,e,hm with
  | .val _,r :: ρ,e,hm =>
   rw [mutsOf] at e
   exact .other hm (ih e fun i d d2 a e1 e2 e3 => hq (i + 1) d d2 a (by simpa using e1) (by simpa using e2) (by simpa using e3))
  | .mutD d,_,_,hm => exact absurd rfl (hm d)
theorem paired_get {α β:Type} {F:α -> β -> Prop}:∀ {xs:List α} {ys:List β} {i:Nat} {x:α},Paired F xs ys -> xs[i]? = some x -> ∃ y,ys[i]? = some y /\ F x y
 | _,_,_,_,.nil,e => by simp at e
 | _,_,0,_,.cons r _,e => by simp at e; subst e; exact ⟨_,rfl,r⟩
 | _,_,i + 1,x,.cons _ t,e => by
  obtain ⟨u,h1,h2⟩:=paired_get (i:=i) (x:=x) t (by simpa using e)
  exact ⟨u,by simpa using h1,h2⟩
theorem start_ok {K:PySem.W.Frag} {H:Hp} {O:List Addr} {args:List MV} {vs:List V} {N:List Str} (hO:∀ a ∈ O,H a ≠ none) (h:Paired (ArgOk K O H) args vs):StOk K H O O H (args.map some ++ List.replicate (N.length - args.length) none) (start N vs):=by
 have hl:args.length = vs.length:=Paired.length h
 have get:∀ (i:Nat) (m:MV),(args.map some ++ List.replicate (N.length - args.length) none)[i]? = some (some m) -> ∃ u,(start N vs)[i]? = some (some u) /\ ArgOk K O H m u:=fun i m e => by
  by_cases hi:i < args.length
  ·rw [List.getElem?_append_left (by simpa using hi),List.getElem?_map] at e
   cases ea:args[i]? with
   | none => rw [ea] at e; cases e
   | some m' =>
    rw [ea] at e
    cases e
    obtain ⟨u,eu,q⟩:=paired_get h ea
    refine ⟨u,?_,q⟩
    unfold L2.start
    rw [List.getElem?_append_left (by rw [List.length_map,<- hl]; exact hi),List.getElem?_map,eu]
    rfl
  ·rw [List.getElem?_append_right (by simpa using hi),List.getElem?_replicate] at e
   split at e <;> cases e
 refine ⟨Same.refl H,hO,fun a ha => ha,hO,by unfold L2.start; simp [hl],fun i m e => ?_,fun i j xs ys a _ e _ ox _ => ?_
  ⟩
 ·obtain ⟨u,eu,q⟩:=get i m e
  refine ⟨u,eu,?_⟩
  cases m with
  | val v => exact q
  | own _ => exact q.elim
  | brw ys => exact q
  | ownD _ => exact q.elim
  | mutD _ => exact q.elim
  | brwD _ => exact q
 ·obtain ⟨u,eu,q⟩:=get i _ e
  cases xs with
  | own _ => exact q.elim
  | ownD _ => exact q.elim
  | mutD _ => exact q.elim
  | val _ => cases ox
  | brw _ => cases ox
  | brwD _ => cases ox
theorem start_get {α:Type} {F:α -> V -> Prop} {args:List α} {vs:List V} {N:List Str} (h:Paired F args vs):∀ (i:Nat) (m:α),(args.map some ++ List.replicate (N.length - args.length) none)[i]? = some (some m) -> args[i]? = some m /\ ∃ u,vs[i]? = some u /\ (start N vs)[i]? = some (some u) /\ F m u:=fun i m e => by
 have hl:args.length = vs.length:=Paired.length h
 by_cases hi:i < args.length
 ·rw [List.getElem?_append_left (by simpa using hi),List.getElem?_map] at e
  cases ea:args[i]? with
  | none => rw [ea] at e; cases e
  | some m' =>
   rw [ea] at e
   cases e
   obtain ⟨u,eu,q⟩:=paired_get h ea
   refine ⟨rfl,u,eu,?_,q⟩
   unfold L2.start
   rw [List.getElem?_append_left (by rw [List.length_map,<- hl]; exact hi),List.getElem?_map,eu]
   rfl
 ·rw [List.getElem?_append_right (by simpa using hi),List.getElem?_replicate] at e
  split at e <;> cases e
theorem start_okM {K:PySem.W.Frag} {H:Hp} {O:List Addr} {args:List MV} {vs:List V} {N:List Str} {ds:List PV} {ms:List Addr} (hO:∀ a ∈ O,H a ≠ none) (h:Paired (ArgM K O H) args vs) (hm:MutAt H args vs ds ms):StOk K (dropH H ms) (O.filter fun b => decide (b ∉ ms)) O H (args.map some ++ List.replicate (N.length - args.length) none) (start N vs):=by
 have hl:args.length = vs.length:=Paired.length h
 have le:Same (dropH H ms) H:=fun b u e => by
  unfold dropH at e
  split at e
  ·cases e
  ·exact e
 refine ⟨le,hO,fun a ha => (List.mem_filter.mp ha).1,fun a ha => ?_,by unfold L2.start; simp [hl],fun i m e => ?_,fun i j x y a hij e1 e2 ox oy s1 s2 => ?_
  ⟩
 ·obtain ⟨h1,h2⟩:=List.mem_filter.mp ha
  unfold dropH
  rw [if_neg (of_decide_eq_true h2)]
  exact hO a h1
 ·obtain ⟨ea,u,ev',eu,q⟩:=start_get h i m e
  refine ⟨u,eu,?_⟩
  cases m with
  | val v => exact q
  | mutD d =>
   obtain ⟨a,rfl,h1,h2⟩:=q
   refine ⟨a,rfl,h1,h2,?_⟩
   unfold dropH
   rw [if_pos (mutat_mem hm i d a ea ev')]
  | own _ => exact q.elim
  | brw _ => exact q.elim
  | ownD _ => exact q.elim
  | brwD _ => exact q.elim
 ·obtain ⟨ea,u,ev1,eu,q⟩:=start_get h i x e1
  obtain ⟨eb,w,ev2,ew,q'⟩:=start_get h j y e2
  rw [eu] at s1
  cases s1
  rw [ew] at s2
  cases s2
  cases x with
  | mutD d =>
   cases y with
   | mutD d' => exact mutat_apart hm i j d d' a hij ea eb ev1 ev2
   | val _ => cases oy
   | own _ => exact q'.elim
   | brw _ => exact q'.elim
   | ownD _ => exact q'.elim
   | brwD _ => exact q'.elim
  | val _ => cases ox
  | own _ => exact q.elim
  | brw _ => exact q.elim
  | ownD _ => exact q.elim
  | brwD _ => exact q.elim
section
variable {T:Tab} {P:Program} {w:World} {K:PySem.W.Frag} {mg:Str -> Option Value} {base:Heap} {ds:List MD}
structure FnAll (T:Tab) (P:Program) (w:World) (K:PySem.W.Frag) (mg:Str -> Option Value) (base:Heap) (ds:List MD) (n g:Nat) (fa:Addr) (fd:FuncData) (ps:List Str):Prop where
 m:FnOk P w K mg base CX0 n fa fd ps (spM K (callN ds n) g)
 f:FnOk P w K mg base CX0 n fa fd ps (spF K (callN ds n) g)
 d:FnOk P w K mg base CX0 n fa fd ps (spD K (callN ds n) g)
theorem fn_both (hlen:ds.length <= 1000)
  (pr:Prog T K mg ds w)
 :∀ (n f:Nat) (d:MD),ds[f]? = some d -> ∀ st fa fd,DefIs T K mg st d fa fd -> FnAll T P w K mg base ds n f fa fd d.params
 | 0,f,d,hd,st,fa,fd,D => {
   m:=⟨fun vs H Q E h => (by obtain ⟨O,args,r,_,_,e,_⟩:=h; exact absurd e (by simp [callN])),fun A outer s H args us vs Q E _ _ _ _ h => (by obtain ⟨O,args,r,_,_,e,_⟩:=h; exact absurd e (by simp [callN]))⟩
   f:=⟨fun vs H Q E h => (by obtain ⟨O,args,r,_,_,e,_⟩:=h; exact absurd e (by simp [callN])),fun A outer s H args us vs Q E _ _ _ _ h => (by obtain ⟨O,args,r,_,_,e,_⟩:=h; exact absurd e (by simp [callN]))⟩
   d:=⟨fun vs H Q E h => (by obtain ⟨O,args,v,ds,ds₀,ms,_,_,_,e,_⟩:=h; exact absurd e (by simp [callN])),fun A outer s H args us vs Q E _ _ _ _ h => (by obtain ⟨O,args,v,ds,ds₀,ms,_,_,_,e,_⟩:=h; exact absurd e (by simp [callN]))⟩
   }
 | n + 1,f,d,hd,st,fa,fd,D => by
  obtain ⟨c0,d0,k0,o0,m0,a0,cdv,t1,a1,sl,lk,hc,rfl⟩:=D.fn.it
  have hf:f < 1000:=Nat.lt_of_lt_of_le (List.getElem?_eq_some_iff.mp hd).1 hlen
  have hn:ds[f + 1000]? = none:=List.getElem?_eq_none (by omega)
  have hn2:ds[f + 2000]? = none:=List.getElem?_eq_none (by omega)
  have gg:∀ {CX:CXT} {A:Around} {outer:_} {s:Shared} {H:Hp} {E:_},_ -> Gf (cxOf CX P w K mg base d.names d.name (defScope st) fa cdv A outer s H E).nox T n (callN ds n):=fun {CX A outer s H E} hr => {
   calm:=rfl
   room:=hr
   fns:=fun f' x hx => by
    rw [pr.tab,List.getElem?_map] at hx
    cases hd2:ds[f']? with
    | none => rw [hd2] at hx; cases hx
    | some d2 =>
     rw [hd2] at hx
     cases hx
     obtain ⟨l2,st2,fa2,fd2,el,D2,bd⟩:=pr.defs.get hd2
     exact ⟨fa2,fd2,d2.params,D2.named,D2.fn.kp,D2.binds,(fn_both hlen pr n f' d2 hd2 st2 fa2 fd2 D2).m,fun l hl => by rw [el] at hl; cases hl; exact bd⟩
   blt:=pr.blt
   gs:=pr.gs
   ct:=pr.ct
   fnsF:=fun f' x hx => by
    rw [pr.tab,List.getElem?_map] at hx
    cases hd2:ds[f']? with
    | none => rw [hd2] at hx; cases hx
    | some d2 =>
     rw [hd2] at hx
     cases hx
     obtain ⟨l2,st2,fa2,fd2,el,D2,bd⟩:=pr.defs.get hd2
     exact ⟨fa2,fd2,d2.params,D2.named,D2.fn.kp,D2.binds,(fn_both hlen pr n f' d2 hd2 st2 fa2 fd2 D2).f⟩
   fnsD:=fun f' x hx => by
    rw [pr.tab,List.getElem?_map] at hx
    cases hd2:ds[f']? with
    | none => rw [hd2] at hx; cases hx
    | some d2 =>
     rw [hd2] at hx
     cases hx
     obtain ⟨l2,st2,fa2,fd2,el,D2,bd⟩:=pr.defs.get hd2
     exact ⟨fa2,fd2,d2.params,D2.named,D2.fn.kp,D2.binds,(fn_both hlen pr n f' d2 hd2 st2 fa2 fd2 D2).d⟩
   }
  have df:∀ {CX:CXT} {A:Around} {outer:_} {s:Shared} {H:Hp} {E:_},Df (cxOf CX P w K mg base d.names d.name (defScope st) fa cdv A outer s H E).nox:=fun {CX A outer s H E} => ⟨D.scope.nd,fun _ => rfl,PassesOwn.never,by
    have hk:(cxOf CX P w K mg base d.names d.name (defScope st) fa cdv A outer s H E).nox.env.scope.kind = .function:=D.scope.kind
    unfold Env.blockKind
    rw [hk]
    rfl
    ⟩
  refine {
   m:=?_
   f:=?_
   d:=?_
   }
  ·refine fn_of lk hc D.scope (fun vs H Q E h => ?_) (fun A outer s H vs Q E hr h => ?_)
   ·obtain ⟨O,args,r,_,hp,e,_⟩:=h
    rw [<- (callN_some hd e).1]
    exact (Paired.length hp).symm
   ·obtain ⟨O,args,r,hO,hp,e,q⟩:=h
    obtain ⟨hl,hr'⟩:=callN_some hd e
    refine ⟨_,(soundSs (gg hr) df d.body (defBody st) D.body).nox,H,O,O,_,start_ok hO hp,?_⟩
    rcases hr' with ⟨ρ,he,rfl⟩ | he | ⟨xs,he,rfl⟩
    ·rw [he]
     exact fun σ' H' O' st' _ => q _ H' st'.keep (rep_non _)
    ·rw [he]
     exact fun u H' s' r' => q u H' s' r'
    ·rw [he]
     refine fun p us H' s' hp' he' r' => q _ H' s' ?_
     rw [Rep]
     refine ⟨p,us,rfl,SqL.of ?_,Reps.mono hide_cons_le _ r'⟩
     rw [hide_out fun z => hO p z hp']
     exact he'
  ·refine fn_of lk hc D.scope (fun vs H Q E h => ?_) (fun A outer s H vs Q E hr h => ?_)
   ·obtain ⟨O,args,r,_,hp,e,_⟩:=h
    rw [<- (callN_fresh hf hn hd e).1]
    exact (Paired.length hp).symm
   ·obtain ⟨O,args,xs,hO,hp,e,q⟩:=h
    obtain ⟨hl,ys,he,ey⟩:=callN_fresh hf hn hd e
    cases ey
    refine ⟨_,(soundSs (gg hr) df d.body (defBody st) D.body).nox,H,O,O,_,start_ok hO hp,?_⟩
    rw [he]
    exact fun p us H' s' hp' he' r' => q p us H' s' hp' he' r'
  ·refine fn_of lk hc D.scope (fun vs H Q E h => ?_) (fun A outer s H vs Q E hr h => ?_)
   ·obtain ⟨O,args,v,es,ds₀,ms,_,hp,_,e,_⟩:=h
    rw [<- (callN_mut hf hn2 hd e).1]
    exact (Paired.length hp).symm
   ·obtain ⟨O,args,v,es,ds₀,ms,hO,hp,hm,e,q⟩:=h
    obtain ⟨hl,v',ρ,es',he,hms,ey⟩:=callN_mut hf hn2 hd e
    cases ey
    refine ⟨_,(soundSs (gg hr) df d.body (defBody st) D.body).nox,dropH H ms,_,O,_,start_okM hO hp hm,?_⟩
    rw [he]
    have key:∀ {σ':St} {H':Hp} {O':List Addr},StOk K (dropH H ms) (O.filter fun b => decide (b ∉ ms)) O' H' ρ σ' -> Keeps (dropH H ms) O O' (args.map some ++ List.replicate (d.names.length - args.length) none) ρ (start d.names vs) σ' -> ∀ (i:Nat) (d':DD) (a:Addr),ρ[i]? = some (some (.mutD d')) -> vs[i]? = some (.ref a) -> H' a = some (encD d') /\ a ∈ O':=fun {σ' H' O'} st' k' i d' a e2 e3 => by
     obtain ⟨_,es2⟩:=k'.mutK i d' e2
     obtain ⟨u,eu,a',rfl,h1,h2,_⟩:=st'.slot i _ e2
     have ei:(start d.names vs)[i]? = some (some (.ref a)):=by
      have hi:i < vs.length:=(List.getElem?_eq_some_iff.mp e3).1
      unfold L2.start
      rw [List.getElem?_append_left (by simpa using hi),List.getElem?_map,e3]
      rfl
     rw [es2,ei] at eu
     cases eu
     exact ⟨h1,h2⟩
    refine fun u σ' H' O' st' k' ru => q u H' (fun b o hb eb => st'.keep b o ?_) (mutat_end hm hms fun i d1 d' a e1 e2 e3 => (key st' k' i d' a e2 e3).1) (Rep.mono (hide_mono (Same.refl H') fun b hb => .inl ?_) _ ru)
    ·unfold dropH
     rw [if_neg hb]
     exact eb
    ·by_cases z:b ∈ ms
     ·obtain ⟨i,d',h1,h2⟩:=mutat_slot hm hms b z
      exact (key st' k' i d' b h2 h1).2
     ·refine k'.stay b ?_ hb
      unfold dropH
      rw [if_neg z]
      exact hO b hb
theorem fn_ok (hlen:ds.length <= 1000)
  (pr:Prog T K mg ds w)
  (n f:Nat) (d:MD) (hd:ds[f]? = some d) (st:Stmt) (fa:Addr) (fd:FuncData) (D:DefIs T K mg st d fa fd):FnOk P w K mg base CX0 n fa fd d.params (spM K (callN ds n) f):=(fn_both hlen pr n f d hd st fa fd D).m
end
theorem law_sp {K:PySem.W.Frag} {ds:List MD} {n li:Nat} {H:Hp} {a:Addr} {ns:List Int} (h:callN ds n li [.brw (ns.map .int)] = some (.bl true)) (hS:SqL K H a (ns.map V.int)):spM K (callN ds n) li [.ref a] H (fun v _ => v = .bl true) fun _ _ _ => False :=
 ⟨[],[.brw (ns.map .int)],.bl true,fun _ z => by simp at z,.cons ⟨a,_,rfl,hS,.of_ints ns⟩ .nil,h,fun u H' _ r => by rw [Rep] at r; exact r⟩
end MM
namespace MM
open PySem
noncomputable abbrev ofS (ts:List Int):PV:=.tup (ts.map .int)
noncomputable abbrev ofR (R:List (List Int)):PV:=.tup (R.map ofS)
noncomputable abbrev ofL (ns:List Int):PV:=.lst (ns.map .int)
theorem ints?_map:∀ ns:List Int,ints? (ns.map .int) = some ns
 | [] => rfl
 | n :: ns => by simp [ints?,ints?_map ns]
theorem tups?_map:∀ R:List (List Int),tups? (R.map ofS) = some R
 | [] => rfl
 | t :: R => by simp [tups?,ints?_map,tups?_map R]
theorem sort_ints {ns:List Int} (h:ns.length < 64):sortOp (ns.map .int) = some (ofL (sortI ns)):=by
 unfold sortOp
 rw [if_pos (by simpa using h),ints?_map]
theorem sort_tups {R:List (List Int)} (h:R.length < 64):sortOp (R.map ofS) = some (.lst ((sortT R).map ofS)):=by
 unfold sortOp
 rw [if_pos (by simpa using h)]
 cases R with
 | nil => rfl
 | cons t R =>
  have:ints? ((t :: R).map ofS) = none:=rfl
  rw [this]
  simp only [tups?_map,Option.map_some]
theorem compGo_map {α:Type} {g:α -> PV} {c:PV -> Option Bool} {f:PV -> Option PV} {p:α -> Bool} {h:α -> PV}:∀ {xs:List α},(∀ x ∈ xs,c (g x) = some (p x)) -> (∀ x ∈ xs,p x = true -> f (g x) = some (h x)) -> compGo c f (xs.map g) = some ((xs.filter p).map h)
 | [],_,_ => rfl
 | x :: xs,hc,hf => by
  rw [List.map_cons,compGo,hc x (.head _),Option.bind_some]
  have ih:=compGo_map (xs:=xs) (fun y hy => hc y (.tail _ hy)) (fun y hy => hf y (.tail _ hy))
  cases hp:p x with
  | true => rw [if_pos rfl,hf x (.head _) hp,Option.bind_some,ih,List.filter_cons_of_pos hp]; rfl
  | false => rw [if_neg (by simp),ih,List.filter_cons_of_neg (by simp [hp])]
theorem compGo_all {α:Type} {g:α -> PV} {c:PV -> Option Bool} {f:PV -> Option PV} {h:α -> PV} {xs:List α} (hc:∀ x ∈ xs,c (g x) = some true) (hf:∀ x ∈ xs,f (g x) = some (h x)):compGo c f (xs.map g) = some (xs.map h):=by
 rw [compGo_map (p:=fun _ => true) hc (fun x hx _ => hf x hx),List.filter_eq_self.mpr fun _ _ => rfl]
theorem beq_or (a b:Int) (ts:List Int):((b == a) || decide (a ∈ ts)) = decide (a = b \/ a ∈ ts):=by
 by_cases e:a = b
 ·subst e; rw [beq_self_eq_true,Bool.true_or]; exact (decide_eq_true (.inl rfl)).symm
 ·rw [beq_eq_false_iff_ne.mpr (Ne.symm e),Bool.false_or]
  by_cases q:a ∈ ts
  ·rw [decide_eq_true q,decide_eq_true (.inr q)]
  ·rw [decide_eq_false q,decide_eq_false (fun z => z.elim e q)]
theorem isIn_ints (h:Int):∀ ts:List Int,isIn (.int h) (ts.map .int) = some (decide (h ∈ ts))
 | [] => rfl
 | t :: ts => by
  have ih:=isIn_ints h ts
  unfold isIn at ih ⊢
  rw [List.map_cons,inL,ih]
  simp only [eqF,Option.bind_some,Option.map_some,List.mem_cons,beq_or]
noncomputable def outOf:R -> Option PV
 | .next _ => some .non
 | .ret v => some v
 | .retF xs => some (.lst xs)
 | _ => none
theorem call_def {ds:List MD} {n f:Nat} {d:MD} {args:List MV} (hd:ds[f]? = some d) (hl:args.length = d.params.length):callN ds (n + 1) f args = outOf (exs (callN ds n) d.body (args.map some ++ List.replicate (d.names.length - args.length) none)):=by
 rw [callN,hd]
 simp only [hl,if_true]
 unfold outOf
 rfl
noncomputable def outM (args:List MV):R -> Option PV
 | .retM v ρ => (mutsOf args ρ).map fun ds => .tup (v :: ds)
 | _ => none
theorem call_defM {ds:List MD} {n f:Nat} {d:MD} {args:List MV} (hn:ds[f + 2000]? = none) (hd:ds[f]? = some d) (hl:args.length = d.params.length)
 :callN ds (n + 1) (f + 2000) args = outM args (exs (callN ds n) d.body (args.map some ++ List.replicate (d.names.length - args.length) none)):=by
 rw [callN,hn]
 dsimp only
 rw [if_pos (by omega)]
 rw [Nat.add_sub_cancel,hd]
 simp only [hl,if_true]
 unfold outM
 rfl
@[simp] theorem then_retM (v:PV) (ρ:Rho) (k:Rho -> R):(R.retM v ρ).andThen k = .retM v ρ:=rfl
@[simp] theorem argOf_mutD (v:DD):argOf (some (.mutD v)) = some (.brwD v):=rfl
@[simp] theorem capOf_mutD (v:DD):capOf (some (.mutD v)) = some (.brwD v):=rfl
@[simp] theorem then_retF (xs:List PV) (k:Rho -> R):(R.retF xs).andThen k = .retF xs:=rfl
@[simp] theorem borOf_val (v:PV):borOf (some (.val v)) = some v:=rfl
@[simp] theorem borOf_own (v:List PV):borOf (some (.own v)) = some (.lst v):=rfl
@[simp] theorem borOf_brw (v:List PV):borOf (some (.brw v)) = some (.lst v):=rfl
@[simp] theorem borOf_ownK (v:List (Int × Sc)):borOf (some (.ownD (.k v))) = some (.dI (.k v)):=rfl
@[simp] theorem borOf_ownT (v:List (List Int × Sc)):borOf (some (.ownD (.t v))) = some (.dI (.t v)):=rfl
@[simp] theorem borOf_brwK (v:List (Int × Sc)):borOf (some (.brwD (.k v))) = some (.dI (.k v)):=rfl
@[simp] theorem borOf_brwT (v:List (List Int × Sc)):borOf (some (.brwD (.t v))) = some (.dI (.t v)):=rfl
@[simp] theorem argOf_ownD (v:DD):argOf (some (.ownD v)) = some (.brwD v):=rfl
@[simp] theorem argOf_brwD (v:DD):argOf (some (.brwD v)) = some (.brwD v):=rfl
@[simp] theorem capOf_ownD (v:DD):capOf (some (.ownD v)) = some (.brwD v):=rfl
@[simp] theorem capOf_brwD (v:DD):capOf (some (.brwD v)) = some (.brwD v):=rfl
@[simp] theorem sc_int (i:Int):sc? (.int i) = some (.int i):=rfl
@[simp] theorem sc_bl (i:Bool):sc? (.bl i) = some (.bl i):=rfl
@[simp] theorem sc_non:sc? .non = some .non:=rfl
@[simp] theorem pv_int (i:Int):(Sc.int i).pv = .int i:=rfl
@[simp] theorem pv_bl (i:Bool):(Sc.bl i).pv = .bl i:=rfl
@[simp] theorem varOf_val (v:PV):varOf (some (.val v)) = some v:=rfl
@[simp] theorem argOf_val (v:PV):argOf (some (.val v)) = some (.val v):=rfl
@[simp] theorem argOf_own (v:List PV):argOf (some (.own v)) = some (.brw v):=rfl
@[simp] theorem argOf_brw (v:List PV):argOf (some (.brw v)) = some (.brw v):=rfl
@[simp] theorem capOf_val (v:PV):capOf (some (.val v)) = some (.val v):=rfl
@[simp] theorem capOf_own (v:List PV):capOf (some (.own v)) = some (.brw v):=rfl
@[simp] theorem capOf_brw (v:List PV):capOf (some (.brw v)) = some (.brw v):=rfl
@[simp] theorem boolOf_bl (b:Bool):boolOf? (.bl b) = some b:=rfl
@[simp] theorem bin_add (i j:Int):binOp .add (.int i) (.int j) = some (.int (i + j)):=rfl
@[simp] theorem bin_sub (i j:Int):binOp .sub (.int i) (.int j) = some (.int (i - j)):=rfl
@[simp] theorem bin_mul (i j:Int):binOp .mul (.int i) (.int j) = if (-(2 ^ 64) < i /\ i < 2 ^ 64) \/ (-(2 ^ 64) < j /\ j < 2 ^ 64) then some (.int (i * j)) else none:=rfl
@[simp] theorem bin_fdiv (i j:Int):binOp .fdiv (.int i) (.int j) = if 0 < j /\ j < 1073741824 then some (.int (i / j)) else none:=rfl
@[simp] theorem bin_mod (i j:Int):binOp .mod (.int i) (.int j) = if 0 < j then some (.int (i % j)) else none:=rfl
@[simp] theorem bin_cat (x y:List PV):binOp .add (.lst x) (.lst y) = if x.length + y.length <= 10000 then some (.lst (x ++ y)) else none:=rfl
@[simp] theorem cmp_lt (i j:Int):cmpOp .lt (.int i) (.int j) = some (decide (i < j)):=rfl
@[simp] theorem cmp_le (i j:Int):cmpOp .le (.int i) (.int j) = some (decide (i <= j)):=rfl
@[simp] theorem cmp_gt (i j:Int):cmpOp .gt (.int i) (.int j) = some (decide (j < i)):=rfl
@[simp] theorem cmp_ge (i j:Int):cmpOp .ge (.int i) (.int j) = some (decide (j <= i)):=rfl
@[simp] theorem cmp_eq (x y:PV):cmpOp .eq x y = eqF 100 x y:=rfl
@[simp] theorem cmp_ne (x y:PV):cmpOp .ne x y = if neOk x y = true then (eqF 100 x y).map (fun p => !p) else none:=rfl
@[simp] theorem cmp_isN (x:PV):cmpOp .isN x .non = some (isNon x):=rfl
@[simp] theorem cmp_notN (x:PV):cmpOp .notN x .non = some (!isNon x):=rfl
@[simp] theorem cmp_inT (x:PV) (xs:List PV):cmpOp .isIn x (.tup xs) = isIn x xs:=rfl
@[simp] theorem cmp_inL (x:PV) (xs:List PV):cmpOp .isIn x (.lst xs) = isIn x xs:=rfl
@[simp] theorem cmp_ninT (x:PV) (xs:List PV):cmpOp .notIn x (.tup xs) = (isIn x xs).map fun p => !p:=rfl
@[simp] theorem cmp_ninL (x:PV) (xs:List PV):cmpOp .notIn x (.lst xs) = (isIn x xs).map fun p => !p:=rfl
@[simp] theorem eqF_int (n:Nat) (i j:Int):eqF n (.int i) (.int j) = some (i == j):=by cases n <;> rfl
@[simp] theorem eqF_bl (n:Nat) (i j:Bool):eqF n (.bl i) (.bl j) = some (i == j):=by cases n <;> rfl
@[simp] theorem eqF_str (n:Nat) (i j:Str):eqF n (.str i) (.str j) = some (i == j):=by cases n <;> rfl
@[simp] theorem neOk_tt (x y:List PV):neOk (.tup x) (.tup y) = true:=rfl
@[simp] theorem neOk_ll (x y:List PV):neOk (.lst x) (.lst y) = true:=rfl
@[simp] theorem neOk_ii (x y:Int):neOk (.int x) (.int y) = true:=rfl
@[simp] theorem seq_tup (x:List PV):seq? (.tup x) = some x:=rfl
@[simp] theorem seq_lst (x:List PV):seq? (.lst x) = some x:=rfl
@[simp] theorem blt_lenT (x:List PV):bltOp .len [.tup x] = some (.int x.length):=rfl
@[simp] theorem blt_lenL (x:List PV):bltOp .len [.lst x] = some (.int x.length):=rfl
@[simp] theorem blt_lenD (x:List (Int × Sc)):bltOp .len [.dI (.k x)] = some (.int x.length):=rfl
@[simp] theorem blt_tup (x:PV):bltOp .tupleOf [x] = (seq? x).map .tup:=rfl
@[simp] theorem blt_list (x:PV):bltOp .listOf [x] = (seq? x).map .lst:=rfl
@[simp] theorem blt_sorted (x:PV):bltOp .sorted [x] = (seq? x).bind sortOp:=rfl
@[simp] theorem blt_any (x:List PV):bltOp .any [.lst x] = (bools? x).map fun bs => .bl (bs.any id):=rfl
@[simp] theorem blt_all (x:List PV):bltOp .all [.lst x] = (bools? x).map fun bs => .bl (bs.all id):=rfl
@[simp] theorem blt_intI (i:Int):bltOp .intOf [.int i] = some (.int i):=rfl
@[simp] theorem blt_intB (b:Bool):bltOp .intOf [.bl b] = some (.int (if b then 1 else 0)):=rfl
@[simp] theorem isD_int (i:Int):isD (.int i) = false:=rfl
@[simp] theorem isD_bl (i:Bool):isD (.bl i) = false:=rfl
@[simp] theorem isD_str (i:Str):isD (.str i) = false:=rfl
@[simp] theorem isD_tup (i:List PV):isD (.tup i) = false:=rfl
@[simp] theorem isD_lst (i:List PV):isD (.lst i) = false:=rfl
@[simp] theorem isD_non:isD .non = false:=rfl
@[simp] theorem blt_isInt (x:PV):bltOp .isInt [x] = if isD x = true then none else some (.bl (isT .isInt x)):=rfl
@[simp] theorem isT_isInt_int (i:Int):isT .isInt (.int i) = true:=rfl
@[simp] theorem isT_isInt_bl (i:Bool):isT .isInt (.bl i) = true:=rfl
@[simp] theorem isT_isInt_str (i:Str):isT .isInt (.str i) = false:=rfl
@[simp] theorem isT_isInt_lst (i:List PV):isT .isInt (.lst i) = false:=rfl
@[simp] theorem isT_isInt_tup (i:List PV):isT .isInt (.tup i) = false:=rfl
@[simp] theorem isT_isInt_non:isT .isInt .non = false:=rfl
@[simp] theorem blt_isBool (x:PV):bltOp .isBool [x] = if isD x = true then none else some (.bl (isT .isBool x)):=rfl
@[simp] theorem isT_isBool_int (i:Int):isT .isBool (.int i) = false:=rfl
@[simp] theorem isT_isBool_bl (i:Bool):isT .isBool (.bl i) = true:=rfl
@[simp] theorem isT_isBool_str (i:Str):isT .isBool (.str i) = false:=rfl
@[simp] theorem isT_isBool_lst (i:List PV):isT .isBool (.lst i) = false:=rfl
@[simp] theorem isT_isBool_tup (i:List PV):isT .isBool (.tup i) = false:=rfl
@[simp] theorem isT_isBool_non:isT .isBool .non = false:=rfl
@[simp] theorem blt_isStr (x:PV):bltOp .isStr [x] = if isD x = true then none else some (.bl (isT .isStr x)):=rfl
@[simp] theorem isT_isStr_int (i:Int):isT .isStr (.int i) = false:=rfl
@[simp] theorem isT_isStr_bl (i:Bool):isT .isStr (.bl i) = false:=rfl
@[simp] theorem isT_isStr_str (i:Str):isT .isStr (.str i) = true:=rfl
@[simp] theorem isT_isStr_lst (i:List PV):isT .isStr (.lst i) = false:=rfl
@[simp] theorem isT_isStr_tup (i:List PV):isT .isStr (.tup i) = false:=rfl
@[simp] theorem isT_isStr_non:isT .isStr .non = false:=rfl
@[simp] theorem blt_isList (x:PV):bltOp .isList [x] = if isD x = true then none else some (.bl (isT .isList x)):=rfl
@[simp] theorem isT_isList_int (i:Int):isT .isList (.int i) = false:=rfl
@[simp] theorem isT_isList_bl (i:Bool):isT .isList (.bl i) = false:=rfl
@[simp] theorem isT_isList_str (i:Str):isT .isList (.str i) = false:=rfl
@[simp] theorem isT_isList_lst (i:List PV):isT .isList (.lst i) = true:=rfl
@[simp] theorem isT_isList_tup (i:List PV):isT .isList (.tup i) = false:=rfl
@[simp] theorem isT_isList_non:isT .isList .non = false:=rfl
@[simp] theorem blt_isTuple (x:PV):bltOp .isTuple [x] = if isD x = true then none else some (.bl (isT .isTuple x)):=rfl
@[simp] theorem isT_isTuple_int (i:Int):isT .isTuple (.int i) = false:=rfl
@[simp] theorem isT_isTuple_bl (i:Bool):isT .isTuple (.bl i) = false:=rfl
@[simp] theorem isT_isTuple_str (i:Str):isT .isTuple (.str i) = false:=rfl
@[simp] theorem isT_isTuple_lst (i:List PV):isT .isTuple (.lst i) = false:=rfl
@[simp] theorem isT_isTuple_tup (i:List PV):isT .isTuple (.tup i) = true:=rfl
@[simp] theorem isT_isTuple_non:isT .isTuple .non = false:=rfl
@[simp] theorem blt_max1 (xs:List PV):bltOp .max1 [.lst xs] = (ints? xs).bind fun ns => (maxI ns).map .int:=rfl
@[simp] theorem blt_values (d:DD):bltOp .valuesOf [.dI d] = if (dVals d).length <= 10000 then some (.lst (dVals d)) else none:=rfl
@[simp] theorem blt_sortedKeys (kvs:List (Int × Sc)):bltOp .sortedKeys [.dI (.k kvs)] = if kvs.length < 64 then some (ofL (sortI (kvs.map (·.1)))) else none:=rfl
@[simp] theorem dGet_k (kvs:List (Int × Sc)) (i:Int):dGet (.dI (.k kvs)) (.int i) = some (dGetL kvs i):=rfl
@[simp] theorem dPut_k (kvs:List (Int × Sc)) (i:Int) (s:Sc):dPut (.k kvs) (.int i) s = if kvs.length < 10000 then some (.k (dPutL kvs i s)) else none:=rfl
@[simp] theorem cmp_isB (p q:Bool):cmpOp .isN (.bl p) (.bl q) = some (p == q):=rfl
@[simp] theorem cmp_notB (p q:Bool):cmpOp .notN (.bl p) (.bl q) = some (!(p == q)):=rfl
@[simp] theorem blt_tupleRev (xs:List PV):bltOp .tupleRev [.lst xs] = some (.tup xs.reverse):=rfl
@[simp] theorem blt_sortedSet (x:PV):bltOp .sortedSet [x] = (seq? x).bind fun xs => (ints? xs).bind fun ns => if ns.length <= 1000 /\ (dd ns).length < 64 then some (.lst ((sortI (dd ns)).map .int)) else none:=rfl
@[simp] theorem idx_L (x:List PV) (i:Int):idxOp (.lst x) (.int i) = (place x.length i).bind fun j => x[j]?:=rfl
@[simp] theorem idx_T (x:List PV) (i:Int):idxOp (.tup x) (.int i) = (place x.length i).bind fun j => x[j]?:=rfl
@[simp] theorem slice_L (x:List PV) (lo hi:Option Int):sliceOp (.lst x) lo hi = some (.lst (cut x lo hi)):=rfl
@[simp] theorem bnd_int (i j:Int):bnd (.cst (.int i)) (.int j) = some (some j):=rfl
@[simp] theorem src_seq (x:PV):srcOf .seq [x] = seq? x:=rfl
theorem src_rng (j:Int):srcOf .rng [.int j] = if -(2 ^ 62) <= j /\ j < 2 ^ 62 then some ((List.range j.toNat).map fun (k:Nat) => .int ((0:Int) + k)) else none:=rfl
@[simp] theorem then_next (ρ:Rho) (k:Rho -> R):(R.next ρ).andThen k = k ρ:=rfl
@[simp] theorem then_ret (v:PV) (k:Rho -> R):(R.ret v).andThen k = .ret v:=rfl
@[simp] theorem then_bad (k:Rho -> R):R.bad.andThen k = .bad:=rfl
@[simp] theorem then_brk (ρ:Rho) (k:Rho -> R):(R.brk ρ).andThen k = .brk ρ:=rfl
@[simp] theorem then_cont (ρ:Rho) (k:Rho -> R):(R.cont ρ).andThen k = .cont ρ:=rfl
@[simp] theorem bindR_some (v:PV) (k:PV -> R):bindR (some v) k = k v:=rfl
@[simp] theorem bindB_some (v:Bool) (k:Bool -> R):bindB (some v) k = k v:=rfl
@[simp] theorem bindO_some (v:Rho) (k:Rho -> R):bindO (some v) k = k v:=rfl
@[simp] theorem outOf_ret (v:PV):outOf (.ret v) = some v:=rfl
@[simp] theorem outOf_next (ρ:Rho):outOf (.next ρ) = some .non:=rfl
@[simp] theorem put_zero (a:Option MV) (l:Rho) (m:MV):put (a :: l) 0 m = some m :: l:=rfl
@[simp] theorem put_succ (a:Option MV) (l:Rho) (n:Nat) (m:MV):put (a :: l) (n + 1) m = a :: put l n m:=rfl
@[simp] theorem back_next (src:List ME) (ρ₀ ρ:Rho):(R.next ρ).back src ρ₀ = .next (giveBack src ρ₀ ρ):=rfl
@[simp] theorem back_ret (src:List ME) (ρ₀:Rho) (v:PV):(R.ret v).back src ρ₀ = .ret v:=rfl
@[simp] theorem forGo_nil (body:PV -> Rho -> R) (ρ:Rho):forGo body [] ρ = .next ρ:=rfl
theorem src_rng_ok {j:Int} (h0:0 <= j) (h1:j < 4611686018427387904):srcOf .rng [.int j] = some ((List.range j.toNat).map fun (k:Nat) => .int (k:Int)):=by
 rw [src_rng,if_pos ⟨by omega,by omega⟩]
 congr 1
 exact List.map_congr_left fun k _ => by rw [Int.zero_add]
theorem sortI_perm (l:List Int):(sortI l).Perm l:=by rw [sortI_eq]; exact L2.Srt.sortI_perm l
theorem sortT_perm (l:List (List Int)):(sortT l).Perm l:=by rw [sortT_eq]; exact L2.Srt.sortT_perm l
theorem sortI_len (l:List Int):(sortI l).length = l.length:=(sortI_perm l).length_eq
theorem sortT_len (l:List (List Int)):(sortT l).length = l.length:=(sortT_perm l).length_eq
theorem mem_sortI {l:List Int} {x:Int}:x ∈ sortI l ↔ x ∈ l:=(sortI_perm l).mem_iff
theorem mem_sortT {l:List (List Int)} {x:List Int}:x ∈ sortT l ↔ x ∈ l:=(sortT_perm l).mem_iff
noncomputable def cutI (ns:List Int) (lo hi:Option Int):List Int:=(ns.drop (cutAt ns.length 0 lo)).take (cutAt ns.length ns.length hi - cutAt ns.length 0 lo)
@[simp] theorem cut_ints (ns:List Int) (lo hi:Option Int):cut (ns.map .int) lo hi = (cutI ns lo hi).map .int:=by
 unfold cut cutI
 rw [List.length_map,List.map_take,List.map_drop]
end MM
namespace PySem.W.Fast
theorem tw4600664827314826038:True:=⟨⟩
theorem tw10893350469709585670:True:=⟨⟩
theorem tw5955507159676339051:True:=⟨⟩
theorem tw6943394627564974108:True:=⟨⟩
theorem tw16402251562962361057:True:=⟨⟩
theorem tw14140231841916518732:True:=⟨⟩
theorem tw16659294459428439510:True:=⟨⟩
theorem tw11945999432448932304:True:=⟨⟩
theorem tw13929013104753961331:True:=⟨⟩
theorem tw5262060877366590152:True:=⟨⟩
theorem tw12716156219013313787:True:=⟨⟩
theorem tw12325628555017215899:True:=⟨⟩
theorem tw13248061386211559612:True:=⟨⟩
theorem tw18237938460070074174:True:=⟨⟩
theorem tw17458064820178413024:True:=⟨⟩
theorem tw18028925496616909222:True:=⟨⟩
theorem tw16804356454648962057:True:=⟨⟩
theorem tw16074733059273188424:True:=⟨⟩
theorem tw1594404782659874699:True:=⟨⟩
theorem tw17942294743718718745:True:=⟨⟩
theorem tw11910267150588216:True:=⟨⟩
theorem tw7256619084592799804:True:=⟨⟩
theorem tw3026672368740889025:True:=⟨⟩
theorem tw6928282209399869184:True:=⟨⟩
theorem tw449315916606464874:True:=⟨⟩
theorem tw566762795522890917:True:=⟨⟩
theorem tw16688185617210635775:True:=⟨⟩
theorem tw5260074223329146514:True:=⟨⟩
theorem tw11907944755892464200:True:=⟨⟩
theorem tw679877129526905195:True:=⟨⟩
theorem tw8113339091318105984:True:=⟨⟩
theorem tw10130245683869931589:True:=⟨⟩
theorem tw394409346822697276:True:=⟨⟩
theorem tw15922297481014772144:True:=⟨⟩
theorem tw4526357300765358571:True:=⟨⟩
theorem tw302054060742021434:True:=⟨⟩
theorem tw13510008573427716685:True:=⟨⟩
theorem tw10343402759000676477:True:=⟨⟩
theorem tw831110343343232389:True:=⟨⟩
theorem tw7978783616405118466:True:=⟨⟩
theorem tw3916934789635520037:True:=⟨⟩
theorem tw2778521323822400591:True:=⟨⟩
theorem tw9920973397234747768:True:=⟨⟩
theorem tw3486683853016125818:True:=⟨⟩
theorem tw4929950083852328237:True:=⟨⟩
theorem tw15400390811418732927:True:=⟨⟩
theorem tw12619732734684400670:True:=⟨⟩
theorem tw8387222900953266340:True:=⟨⟩
theorem tw17774702860292145844:True:=⟨⟩
theorem tw2447956853846075697:True:=⟨⟩
theorem tw14719941741123122551:True:=⟨⟩
theorem tw5561612151154941600:True:=⟨⟩
theorem tw1773628270132674735:True:=⟨⟩
theorem tw9222889457347520030:True:=⟨⟩
theorem tw10561278425745234524:True:=⟨⟩
theorem tw17283790971157427453:True:=⟨⟩
theorem tw733407014232278673:True:=⟨⟩
theorem tw11753309624342487729:True:=⟨⟩
theorem tw9008337083680692842:True:=⟨⟩
theorem tw16431692085057889765:True:=⟨⟩
theorem tw16645569530271195572:True:=⟨⟩
theorem tw18357434639314966392:True:=⟨⟩
theorem tw15236245789466969423:True:=⟨⟩
theorem tw8661404024974276658:True:=⟨⟩
theorem tw3712460214147414820:True:=⟨⟩
theorem tw9242945779381667990:True:=⟨⟩
theorem tw8878059650205914193:True:=⟨⟩
theorem tw10587959061646494605:True:=⟨⟩
theorem tw15569036204222313156:True:=⟨⟩
theorem tw1604819707657429129:True:=⟨⟩
theorem tw4294915165100135147:True:=⟨⟩
theorem tw8385095041627493344:True:=⟨⟩
theorem tw9412532079396180912:True:=⟨⟩
theorem tw14356803971834900826:True:=⟨⟩
theorem tw9025098336119450595:True:=⟨⟩
theorem tw13962876347516247555:True:=⟨⟩
theorem tw14371165465620556317:True:=⟨⟩
theorem tw16278096639463218341:True:=⟨⟩
theorem tw3282816281106170811:True:=⟨⟩
theorem tw10433087300531870923:True:=⟨⟩
theorem tw9150217603629396224:True:=⟨⟩
theorem tw3605115290262346741:True:=⟨⟩
theorem tw7187902292274167684:True:=⟨⟩
theorem tw10032146053233928925:True:=⟨⟩
theorem tw18164865215631549333:True:=⟨⟩
theorem tw8549019740220013420:True:=⟨⟩
theorem tw6044584414610816174:True:=⟨⟩
theorem tw15078537054763100024:True:=⟨⟩
theorem tw13287243008032509080:True:=⟨⟩
theorem tw7140979137267694636:True:=⟨⟩
theorem tw7487198726908106191:True:=⟨⟩
theorem tw17914245472426783317:True:=⟨⟩
theorem tw15793238567835045775:True:=⟨⟩
theorem tw4796051859221268365:True:=⟨⟩
theorem tw6028089536596084094:True:=⟨⟩
theorem tw845374843410806589:True:=⟨⟩
theorem tw200323528715049947:True:=⟨⟩
theorem tw14581934342200877320:True:=⟨⟩
theorem tw7691477661708196742:True:=⟨⟩
theorem tw14738738535239176321:True:=⟨⟩
theorem tw10320055514413206415:True:=⟨⟩
theorem tw11076467868214810014:True:=⟨⟩
theorem tw9352960772680192611:True:=⟨⟩
theorem tw10767926483695365061:True:=⟨⟩
theorem tw17623542405130272822:True:=⟨⟩
theorem tw18036352281260818918:True:=⟨⟩
theorem tw2375738492504830048:True:=⟨⟩
theorem tw9982227991577077291:True:=⟨⟩
theorem tw14660220583677001707:True:=⟨⟩
theorem tw4441835587111619322:True:=⟨⟩
theorem tw17467113138903890798:True:=⟨⟩
theorem tw5820575147816586232:True:=⟨⟩
theorem tw6746621803638476075:True:=⟨⟩
theorem tw802356089721430890:True:=⟨⟩
theorem tw10501340729877308629:True:=⟨⟩
theorem tw15866210822523247321:True:=⟨⟩
theorem tw10460007529432102096:True:=⟨⟩
theorem tw4459044232760827951:True:=⟨⟩
theorem tw16895052596319082313:True:=⟨⟩
theorem tw4275550007285066741:True:=⟨⟩
theorem tw9110330763372408354:True:=⟨⟩
theorem tw2547574011518845109:True:=⟨⟩
theorem tw2697270809872150885:True:=⟨⟩
theorem tw17790302194706456579:True:=⟨⟩
theorem tw3022283256894955965:True:=⟨⟩
theorem tw10182824621894523848:True:=⟨⟩
theorem tw7328494937987725442:True:=⟨⟩
theorem tw4829959654100275069:True:=⟨⟩
theorem tw12950700628176300697:True:=⟨⟩
theorem tw353167553411282480:True:=⟨⟩
theorem tw6146276258351010570:True:=⟨⟩
end PySem.W.Fast
namespace My
open PySem L2 MM
noncomputable def b_members_of_1:List MS:=[.extend 1 (.bor 2)]
noncomputable def d_members_of:MD:=⟨"members_of",["rows"],["rows","members","row"],
  [.setOwn 1 (.lst []),
  .for1 2 .seq [(.bor 0)] b_members_of_1,
  .retOwn 1]⟩
noncomputable def d_counted:MD:=⟨"counted",["rows"],["rows"],
  [.ret (.bin .add (.lst [(.blt .strOf [(.blt .len [(.bor 0)])])]) (.call 0 [(.bor 0)]))]⟩
noncomputable def d_strip_words:MD:=⟨"strip_words",["strip"],["strip"],
  [.ret (.call 1 [(.comp .seq [(.bor 0)] [] (.cst (.bl true)) (.lst [(.blt .strOf [(.bor 0)])]))])]⟩
noncomputable def d_member_words:MD:=⟨"member_words",["member","kind"],["member","kind"],
  [.ite (.or (.cmp .eq (.bor 1) (.cst (.str "hole"))) (.cmp .eq (.bor 1) (.cst (.str "reply"))))
   [.ret (.lst [(.ite (.cmp .isN (.bor 0) (.cst .non)) (.cst (.str "-")) (.blt .strOf [(.bor 0)]))])]
   [],
  .ite (.cmp .eq (.bor 1) (.cst (.str "rest")))
   [.ret (.call 1 [(.comp .seq [(.bor 0)] [] (.cst (.bl true)) (.call 2 [(.bor 0)]))])]
   [],
  .ite (.cmp .eq (.bor 1) (.cst (.str "paper")))
   [.ret (.call 5 [(.bor 0)])]
   [],
  .ret (.call 1 [(.comp .seq [(.bor 0)] [1] (.cst (.bl true)) (.call 4 [(.bor 0),(.bor 1)]))])]⟩
noncomputable def d_members_words:MD:=⟨"members_words",["members","kinds"],["members","kinds"],
  [.ret (.call 0 [(.comp2 [(.bor 0),(.bor 1)] [] (.cst (.bl true)) (.call 3 [(.bor 0),(.bor 1)]))])]⟩
noncomputable def d_paper_words:MD:=⟨"paper_words",["paper"],["paper"],
  [.ret (.bin .add (.lst [(.idx (.bor 0) (.cst (.int 0)))]) (.call 4 [(.slice (.bor 0) (.cst (.int 1)) (.cst .non)),(.cdat "MEMBERS" (.idx (.bor 0) (.cst (.int 0))))]))]⟩
noncomputable def d_paper_written:MD:=⟨"paper_written",["paper"],["paper"],
  [.ret (.join " " (.call 5 [(.bor 0)]))]⟩
noncomputable def d_law_mixed:MD:=⟨"_law_mixed",["cell","by"],["cell","by"],
  [.ret (.bin .mod (.bin .mul (.bin .mod (.bor 0) (.cst (.int 2305843009213693951))) (.bor 1)) (.cst (.int 2305843009213693951)))]⟩
noncomputable def d_law_next:MD:=⟨"_law_next",["tape"],["tape"],
  [.ite (.cmp .gt (.lenP 0) (.cst (.int 0)))
   [.retXE (.fn 7 (.pop 0) [(.cst (.int 2049848353892358983))])]
   [],
  .retM (.cst (.int 0))]⟩
noncomputable def b_law_some_rest_1:List MS:=[.set 4 (.bin .fdiv (.bor 4) (.cst (.int 60))),
  .ite (.cmp .notIn (.bin .mod (.bor 4) (.cst (.int 60))) (.bor 5))
   [.append 5 (.bin .mod (.bor 4) (.cst (.int 60)))]
   []]
noncomputable def b_law_some_rest_2:List MS:=[.setX 4 (.call 8 [true] [(.bor 0)]),
  .setOwn 5 (.lst []),
  .for1 6 .rng [(.bin .mod (.bor 4) (.cst (.int 5)))] b_law_some_rest_1,
  .append 2 (.blt .tupleOf [(.blt .sorted [(.bor 5)])])]
noncomputable def d_law_some_rest:MD:=⟨"_law_some_rest",["tape","most"],["tape","most","strips","k","left","strip","j"],
  [.setOwn 2 (.lst []),
  .forX 3 (.bin .mod (.call 8 [true] [(.bor 0)]) (.bor 1)) b_law_some_rest_2,
  .retM (.blt .tupleOf [(.blt .sorted [(.bor 2)])])]⟩
noncomputable def d_law_some_reply:MD:=⟨"_law_some_reply",["pick"],["pick"],
  [.ite (.cmp .eq (.bin .mod (.bor 0) (.cst (.int 4))) (.cst (.int 0)))
   [.ret (.cst .non)]
   [],
  .ret (.bin .mod (.bin .fdiv (.bor 0) (.cst (.int 4))) (.cst (.int 60)))]⟩
noncomputable def b_law_some_rows_1:List MS:=[.ite (.cmp .eq (.bin .mod (.bor 1) (.cst (.int 2))) (.cst (.int 0)))
   [.setX 5 (.tup [(.bin .mod (.call 8 [true] [(.bor 0)]) (.cst (.int 60))),(.fn 10 (.call 8 [true] [(.bor 0)]) [])]),
   .appX 3 (.tup [(.pure (.idx (.bor 5) (.cst (.int 0)))),(.pure (.idx (.bor 5) (.cst (.int 1)))),(.call 12 [true,false] [(.bor 0),(.bor 2)])])]
   [.setX 6 (.call 9 [true,false] [(.bor 0),(.cst (.int 4))]),
   .appX 3 (.tup [(.pure (.var 6)),(.call 12 [true,false] [(.bor 0),(.bor 2)])])]]
noncomputable def d_law_some_rows:MD:=⟨"_law_some_rows",["tape","pick","deep"],["tape","pick","deep","rows","k","row","rest"],
  [.setOwn 3 (.lst []),
  .for1 4 .rng [(.bin .mod (.bin .fdiv (.bor 1) (.cst (.int 2))) (.cst (.int 4)))] b_law_some_rows_1,
  .retM (.tup [(.idx (.lst [(.cst (.str "cases")),(.cst (.str "parts"))]) (.bin .mod (.bor 1) (.cst (.int 2)))),(.blt .tupleOf [(.bor 3)])])]⟩
noncomputable def b_law_any_1:List MS:=[.appX 4 (.tup [(.bin .mod (.call 8 [true] [(.bor 0)]) (.cst (.int 60))),(.bin .mod (.call 8 [true] [(.bor 0)]) (.cst (.int 60)))])]
noncomputable def d_law_any:MD:=⟨"_law_any",["tape","deep"],["tape","deep","pick","kind","pairs","k","one","left","two"],
  [.setX 2 (.call 8 [true] [(.bor 0)]),
  .set 3 (.bin .mod (.bor 2) (.cst (.int 9))),
  .ite (.cmp .eq (.bor 1) (.cst (.int 0)))
   [.set 3 (.bin .mod (.bor 2) (.cst (.int 4)))]
   [],
  .ite (.cmp .lt (.bor 3) (.cst (.int 3)))
   [.retM (.idx (.lst [(.tup [(.cst (.str "bare"))]),(.tup [(.cst (.str "whole"))]),(.tup [(.cst (.str "weight"))])]) (.bor 3))]
   [],
  .ite (.cmp .eq (.bor 3) (.cst (.int 3)))
   [.setOwn 4 (.lst []),
   .for1 5 .rng [(.bin .mod (.bin .fdiv (.bor 2) (.cst (.int 9))) (.cst (.int 4)))] b_law_any_1,
   .retM (.tup [(.cst (.str "pairs")),(.blt .tupleOf [(.bor 4)])])]
   [],
  .ite (.or (.cmp .eq (.bor 3) (.cst (.int 4))) (.cmp .eq (.bor 3) (.cst (.int 5))))
   [.retXE (.tup [(.pure (.idx (.lst [(.cst (.str "bite")),(.cst (.str "knot"))]) (.bin .sub (.bor 3) (.cst (.int 4))))),(.pure (.call 10 [(.bin .fdiv (.bor 2) (.cst (.int 9)))])),(.call 12 [true,false] [(.bor 0),(.bin .sub (.bor 1) (.cst (.int 1)))])])]
   [],
  .ite (.cmp .eq (.bor 3) (.cst (.int 8)))
   [.retXE (.call 11 [true,false,false] [(.bor 0),(.bin .fdiv (.bor 2) (.cst (.int 9))),(.bin .sub (.bor 1) (.cst (.int 1)))])]
   [],
  .setX 6 (.call 9 [true,false] [(.bor 0),(.cst (.int 5))]),
  .setX 7 (.call 12 [true,false] [(.bor 0),(.bin .sub (.bor 1) (.cst (.int 1)))]),
  .ite (.cmp .eq (.bor 3) (.cst (.int 6)))
   [.retM (.tup [(.cst (.str "fewer")),(.var 6),(.var 7)])]
   [],
  .setX 8 (.call 9 [true,false] [(.bor 0),(.cst (.int 3))]),
  .retXE (.tup [(.pure (.cst (.str "either"))),(.pure (.var 6)),(.pure (.var 7)),(.pure (.var 8)),(.call 12 [true,false] [(.bor 0),(.bin .sub (.bor 1) (.cst (.int 1)))])])]⟩
noncomputable def b_law_rest_words_1:List MS:=[.set 1 (.bin .add (.bin .add (.bor 1) (.lst [(.blt .strOf [(.blt .len [(.bor 2)])])])) (.comp .seq [(.bor 2)] [] (.cst (.bl true)) (.blt .strOf [(.bor 0)])))]
noncomputable def d_law_rest_words:MD:=⟨"_law_rest_words",["rest"],["rest","words","strip"],
  [.set 1 (.lst [(.blt .strOf [(.blt .len [(.bor 0)])])]),
  .for1 2 .seq [(.bor 0)] b_law_rest_words_1,
  .ret (.var 1)]⟩
noncomputable def d_law_reply_word:MD:=⟨"_law_reply_word",["reply"],["reply"],
  [.ite (.cmp .isN (.bor 0) (.cst .non))
   [.ret (.cst (.str "-"))]
   [],
  .ret (.blt .strOf [(.bor 0)])]⟩
noncomputable def b_law_words_1:List MS:=[.ite (.cmp .eq (.bor 1) (.cst (.str "pairs")))
   [.setOwn 2 (.bin .add (.bor 2) (.lst [(.blt .strOf [(.idx (.bor 3) (.cst (.int 0)))]),(.blt .strOf [(.idx (.bor 3) (.cst (.int 1)))])]))]
   [.ite (.cmp .eq (.bor 1) (.cst (.str "cases")))
    [.setOwn 2 (.bin .add (.bin .add (.bor 2) (.lst [(.blt .strOf [(.idx (.bor 3) (.cst (.int 0)))]),(.call 14 [(.idx (.bor 3) (.cst (.int 1)))])])) (.call 15 [(.idx (.bor 3) (.cst (.int 2)))]))]
    [.setOwn 2 (.bin .add (.bin .add (.bor 2) (.call 13 [(.idx (.bor 3) (.cst (.int 0)))])) (.call 15 [(.idx (.bor 3) (.cst (.int 1)))]))]]]
noncomputable def d_law_words:MD:=⟨"_law_words",["paper"],["paper","word","words","row"],
  [.set 1 (.idx (.bor 0) (.cst (.int 0))),
  .setOwn 2 (.lst [(.var 1)]),
  .ite (.or (.cmp .eq (.bor 1) (.cst (.str "pairs"))) (.or (.cmp .eq (.bor 1) (.cst (.str "cases"))) (.cmp .eq (.bor 1) (.cst (.str "parts")))))
   [.append 2 (.blt .strOf [(.blt .len [(.idx (.bor 0) (.cst (.int 1)))])]),
   .for1 3 .seq [(.idx (.bor 0) (.cst (.int 1)))] b_law_words_1]
   [],
  .ite (.or (.cmp .eq (.bor 1) (.cst (.str "bite"))) (.cmp .eq (.bor 1) (.cst (.str "knot"))))
   [.setOwn 2 (.bin .add (.bin .add (.bor 2) (.lst [(.call 14 [(.idx (.bor 0) (.cst (.int 1)))])])) (.call 15 [(.idx (.bor 0) (.cst (.int 2)))]))]
   [],
  .ite (.or (.cmp .eq (.bor 1) (.cst (.str "fewer"))) (.cmp .eq (.bor 1) (.cst (.str "either"))))
   [.setOwn 2 (.bin .add (.bin .add (.bor 2) (.call 13 [(.idx (.bor 0) (.cst (.int 1)))])) (.call 15 [(.idx (.bor 0) (.cst (.int 2)))]))]
   [],
  .ite (.cmp .eq (.bor 1) (.cst (.str "either")))
   [.setOwn 2 (.bin .add (.bin .add (.bor 2) (.call 13 [(.idx (.bor 0) (.cst (.int 3)))])) (.call 15 [(.idx (.bor 0) (.cst (.int 4)))]))]
   [],
  .retOwn 2]⟩
noncomputable def b_law_1:List MS:=[.setX 3 (.call 12 [true,false] [(.bor 1),(.cst (.int 4))]),
  .set 4 (.call 6 [(.bor 3)]),
  .ite (.or (.not (.blt .isStr [(.bor 4)])) (.cmp .ne (.bor 4) (.join " " (.call 15 [(.bor 3)]))))
   [.ret (.cst (.bl false))]
   []]
noncomputable def d_law:MD:=⟨"law",["script"],["script","tape","k","paper","found"],
  [.setP 1 (.bor 0),
  .for1 2 .rng [(.cst (.int 4))] b_law_1,
  .ret (.cst (.bl true))]⟩
noncomputable def defs:List MD:=[d_members_of,d_counted,d_strip_words,d_member_words,d_members_words,d_paper_words,d_paper_written,d_law_mixed,d_law_next,d_law_some_rest,d_law_some_reply,d_law_some_rows,d_law_any,d_law_rest_words,d_law_reply_word,d_law_words,d_law]
noncomputable def tab:Tab:=⟨defs.map (·.name),[],[[],[],[],[],[],[],[],[],[],[],[],[],[],[],[],[],[]]⟩
noncomputable def mixed (c b:Int):Int:=c % 2305843009213693951 * b % 2305843009213693951
theorem mixed_nonneg (c b:Int):0 <= mixed c b:=Int.emod_nonneg _ (by decide)
theorem e_mixed (n:Nat) (c b:Int):callN defs (n + 1) 7 [.val (.int c),.val (.int b)] = some (.int (mixed c b)):=by
 rw [call_def (d:=d_law_mixed) rfl rfl]
 have h1:0 <= c % 2305843009213693951:=Int.emod_nonneg _ (by decide)
 have h2:c % 2305843009213693951 < 2305843009213693951:=Int.emod_lt_of_pos _ (by decide)
 have h3:(-18446744073709551616 < c % 2305843009213693951 /\ c % 2305843009213693951 < 18446744073709551616 \/ -18446744073709551616 < b /\ b < 18446744073709551616):=.inl ⟨by omega,by omega⟩
 simp [d_law_mixed,exs,ex,ev,evs,h3,mixed]
theorem ex_for1 {cal:Cal} {i:Nat} {k:Sk} {src:List ME} {body:List MS} {ρ:Rho} {xs:List PV} (h:(evs cal src ρ).bind (srcOf k) = some xs):ex cal (.for1 i k src body) ρ = (forGo (fun x ρ' => exs cal body (put ρ' i (.val x))) xs (lend src ρ)).back src ρ:=by
 rw [ex,h]
theorem exs_cons (cal:Cal) (m:MS) (ms:List MS) (ρ:Rho):exs cal (m :: ms) ρ = (ex cal m ρ).andThen fun ρ' => exs cal ms ρ':=by rw [exs]
theorem ev_blt1 {cal:Cal} {b:Blt} {e:ME} {ρ:Rho} {v:PV} (h:ev cal e ρ = some v):ev cal (.blt b [e]) ρ = bltOp b [v]:=by
 rw [ev,evs,h,Option.bind_some,evs,Option.map_some,Option.bind_some]
theorem ex_set {cal:Cal} {i:Nat} {e:ME} {ρ:Rho} {v:PV} (h:ev cal e ρ = some v):ex cal (.set i e) ρ = .next (put ρ i (.val v)):=by
 rw [ex,h]; rfl
theorem ex_ret {cal:Cal} {e:ME} {ρ:Rho} {v:PV} (h:ev cal e ρ = some v):ex cal (.ret e) ρ = .ret v:=by
 rw [ex,h]; rfl
theorem ev_call {cal:Cal} {f:Nat} {es:List ME} {ρ:Rho} {vs:List MV} {v:PV} (h:evA cal es ρ = some vs) (h':cal f vs = some v):ev cal (.call f es) ρ = some v:=by
 rw [ev,h,Option.bind_some,h']
theorem ex_setOwn {cal:Cal} {i:Nat} {e:ME} {ρ:Rho} {xs:List PV} (h:ev cal e ρ = some (.lst xs)):ex cal (.setOwn i e) ρ = .next (put ρ i (.own xs)):=by
 rw [ex,h]; rfl
theorem ev_comp {α:Type} {cal:Cal} {k:Sk} {src:List ME} {js:List Nat} {elt:ME} {ρ:Rho} {vs:List PV} {xs:List α} {g h:α -> PV} (h1:evs cal src ρ = some vs) (h2:srcOf k vs = some (xs.map g)) (hl:xs.length <= 10000)
  (h3:∀ x ∈ xs,ev cal elt (blkR js ρ (g x)) = some (h x)):ev cal (.comp k src js (.cst (.bl true)) elt) ρ = some (.lst (xs.map h)):=by
 rw [ev,h1,Option.bind_some,h2,Option.bind_some,if_pos (by simpa using hl),compGo_all (h:=h) (fun x _ => by simp [ev]) h3]
 rfl
theorem evB_of {cal:Cal} {a:ME} {ρ:Rho} {b:Bool} (h:ev cal a ρ = some (.bl b)):evB cal a ρ = some b:=by
 unfold evB
 rw [h]
 rfl
theorem evA_val {cal:Cal} {e:ME} {ρ:Rho} {v:PV} (hn:∀ i,e ≠ .bor i) (h:ev cal e ρ = some v):evA cal [e] ρ = some [.val v]:=by
 rw [evA,h,Option.bind_some,evA]
 ·rfl
 ·exact fun i z => hn i z
theorem ev_call1 {cal:Cal} {f:Nat} {e:ME} {ρ:Rho} {v r:PV} (hn:∀ i,e ≠ .bor i) (h:ev cal e ρ = some v) (h':cal f [.val v] = some r):ev cal (.call f [e]) ρ = some r:=ev_call (evA_val hn h) h'
theorem x_set {cal:Cal} {i:Nat} {e:ME} {ρ:Rho} {v:PV} {ms:List MS} {X:Option PV} (h:ev cal e ρ = some v) (k:outOf (exs cal ms (put ρ i (.val v))) = X):outOf (exs cal (.set i e :: ms) ρ) = X:=by
 rw [exs_cons,ex_set h,then_next,k]
theorem x_next {cal:Cal} {m:MS} {ρ ρ':Rho} {ms:List MS} {X:Option PV} (h:ex cal m ρ = .next ρ') (k:outOf (exs cal ms ρ') = X):outOf (exs cal (m :: ms) ρ) = X:=by
 rw [exs_cons,h,then_next,k]
theorem x_ret {cal:Cal} {e:ME} {ρ:Rho} {v:PV} {ms:List MS} (h:ev cal e ρ = some v):outOf (exs cal (.ret e :: ms) ρ) = some v:=by
 rw [exs_cons,ex_ret h]; rfl
theorem n_set {cal:Cal} {i:Nat} {e:ME} {ρ:Rho} {v:PV} {ms:List MS} {r:R} (h:ev cal e ρ = some v) (k:exs cal ms (put ρ i (.val v)) = r):exs cal (.set i e :: ms) ρ = r:=by
 rw [exs_cons,ex_set h,then_next,k]
theorem n_next {cal:Cal} {m:MS} {ρ ρ':Rho} {ms:List MS} {r:R} (h:ex cal m ρ = .next ρ') (k:exs cal ms ρ' = r):exs cal (m :: ms) ρ = r:=by
 rw [exs_cons,h,then_next,k]
theorem n_end {cal:Cal} {m:MS} {ρ ρ':Rho} (h:ex cal m ρ = .next ρ'):exs cal [m] ρ = .next ρ':=by
 rw [exs_cons,h,then_next,exs]
theorem ex_ite {cal:Cal} {c:ME} {a b:List MS} {ρ:Rho} {p:Bool} (h:ev cal c ρ = some (.bl p)):ex cal (.ite c a b) ρ = if p = true then exs cal a ρ else exs cal b ρ:=by
 rw [ex,evB_of h,bindB_some]
theorem str_beq (a b:String):((PySem.Str.ofString a) == (PySem.Str.ofString b)) = (a == b):=by
 rw [Bool.eq_iff_iff,beq_iff_eq,beq_iff_eq]
 refine ⟨fun h => ?_,fun h => by rw [h]⟩
 rw [PySem.Str.ofString_eq_byList] at h
 unfold PySem.Str.ofStringByList at h
 have h1:(a.toList.map Char.toNat).toArray = (b.toList.map Char.toNat).toArray:=by injection h
 have h2:a.toList.map Char.toNat = b.toList.map Char.toNat:=by simpa using h1
 have key:∀ xs ys:List Char,xs.map Char.toNat = ys.map Char.toNat -> xs = ys:=by
  intro xs
  induction xs with
  | nil => intro ys h; cases ys with | nil => rfl | cons => simp at h
  | cons x xs ih => intro ys h; cases ys with
   | nil => simp at h
   | cons y ys =>
    simp only [List.map_cons,List.cons.injEq] at h
    rw [ih ys h.2,Char.toNat_inj.mp h.1]
 exact String.toList_inj.mp (key _ _ h2)
noncomputable def lw (ws:List Str):PV:=.lst (ws.map .str)
noncomputable def wS (s:List Int):List Str:=strI s.length :: s.map strI
noncomputable def wR (R:List (List Int)):List Str:=strI R.length :: (R.map wS).flatten
noncomputable def wP:Option Int -> Str
 | none => "-"
 | some i => strI i
noncomputable def vP:Option Int -> PV
 | none => .non
 | some i => .int i
noncomputable def Sm (i:Int):Prop:=0 <= i /\ i < 60
theorem blt_str {i:Int} (h:i.natAbs < 2 ^ 64):bltOp .strOf [.int i] = some (.str (strI i)):=if_pos h
theorem str_len (n:Nat) (h:n <= 10000):bltOp .strOf [.int (n:Int)] = some (.str (strI n)):=blt_str (by omega)
theorem str_sm {i:Int} (h:Sm i):bltOp .strOf [.int i] = some (.str (strI i)):=blt_str (by unfold Sm at h; omega)
theorem mem_loop (cal:Cal) (a:MV):∀ (R:List (List Str)) (acc:List Str) (s:Option MV),acc.length + R.flatten.length <= 10000 ->
  ∃ s',forGo (fun x ρ' => exs cal b_members_of_1 (put ρ' 2 (.val x))) (R.map lw) [some a,some (.own (acc.map .str)),s] = .next [some a,some (.own ((acc ++ R.flatten).map .str)),s']
 | [],acc,s,_ => ⟨s,by simp⟩
 | t :: R,acc,s,h => by
  rw [List.map_cons,forGo]
  rw [List.flatten_cons,List.length_append] at h
  have h2:acc.length + t.length <= 10000:=by omega
  have e:exs cal b_members_of_1 (put [some a,some (.own (acc.map .str)),s] 2 (.val (lw t))) = .next [some a,some (.own ((acc ++ t).map .str)),some (.val (lw t))]:=by
   simp [b_members_of_1,exs,ex,ev,lw,h2]
  rw [e]
  obtain ⟨s',e2⟩:=mem_loop cal a R (acc ++ t) (some (.val (lw t))) (by rw [List.length_append]; omega)
  exact ⟨s',by rw [List.flatten_cons,<- List.append_assoc]; exact e2⟩
theorem e_mem (n:Nat) (R:List (List Str)) (hl:R.flatten.length <= 10000):callN defs (n + 1) 0 [.val (.lst (R.map lw))] = some (lw R.flatten):=by
 rw [call_def (d:=d_members_of) rfl rfl]
 obtain ⟨s',e⟩:=mem_loop (callN defs n) (.val (.lst (R.map lw))) R [] none (by simpa using hl)
 simp only [List.map_nil,List.nil_append] at e
 simp [d_members_of,exs,ex,ev,evs,lend,e,giveBack,lw,-List.map_flatten]
theorem e_counted (n:Nat) (R:List (List Str)) (hl:R.flatten.length < 10000) (hk:R.length <= 10000):callN defs (n + 2) 1 [.val (.lst (R.map lw))] = some (lw (strI R.length :: R.flatten)):=by
 rw [call_def (d:=d_counted) rfl rfl]
 have e1:=e_mem n R (Nat.le_of_lt hl)
 have e2:=str_len R.length hk
 have e3:1 + R.flatten.length <= 10000:=by omega
 have e4:ev (callN defs (n + 1)) (.call 0 [.bor 0]) [some (.val (.lst (R.map lw)))] = some (lw R.flatten):=ev_call (vs:=[.val (.lst (R.map lw))]) (by simp [evA]) e1
 have e5:ev (callN defs (n + 1)) (.blt .strOf [.blt .len [.bor 0]]) [some (.val (.lst (R.map lw)))] = some (.str (strI R.length)):=by
  rw [ev_blt1 (v:=.int R.length) (by rw [ev_blt1 (v:=.lst (R.map lw)) (by simp [ev])]; simp),e2]
 refine x_ret (ρ:=[some (.val (.lst (R.map lw)))]) ?_
 rw [ev,e4,ev,evs,e5]
 simp [evs,lw,e3,-List.map_flatten,-List.length_flatten]
theorem flat_one (s:List Int):(s.map fun i => [strI i]).flatten = s.map strI:=by
 induction s with
 | nil => rfl
 | cons x s ih => rw [List.map_cons,List.flatten_cons,ih]; rfl
theorem e_strip (n:Nat) (s:List Int) (hs:∀ i ∈ s,Sm i) (hl:s.length < 10000):callN defs (n + 3) 2 [.val (ofS s)] = some (lw (wS s)):=by
 rw [call_def (d:=d_strip_words) rfl rfl]
 have e1:ev (callN defs (n + 2)) (.comp .seq [(.bor 0)] [] (.cst (.bl true)) (.lst [(.blt .strOf [(.bor 0)])])) [some (.val (ofS s))] = some (.lst (s.map fun i => lw [strI i])):=by
  refine ev_comp (vs:=[ofS s]) (xs:=s) (g:=PV.int) (by simp [evs,ev]) (by simp [srcOf,ofS]) (by omega) fun i hi => ?_
  rw [ev,evs,ev_blt1 (v:=.int i) (by simp [ev,blkR]),str_sm (hs i hi)]
  simp [evs,lw]
 have e2:=e_counted n (s.map fun i => [strI i]) (by rw [flat_one,List.length_map]; exact hl) (by rw [List.length_map]; omega)
 rw [flat_one,List.length_map,List.map_map] at e2
 exact x_ret (ev_call1 (fun i z => by cases z) e1 e2)
structure ROk (R:List (List Int)):Prop where
 l:R.length <= 4
 s:∀ t ∈ R,t.length <= 4
 m:∀ t ∈ R,∀ i ∈ t,Sm i
theorem wR_len {R:List (List Int)} (h:ROk R):(wR R).length <= 21:=by
 have:∀ (R:List (List Int)),(∀ t ∈ R,t.length <= 4) -> (R.map wS).flatten.length <= 5 * R.length:=by
  intro R
  induction R with
  | nil => intro _; simp
  | cons t R ih =>
   intro h
   have h1:=h t (.head _)
   have h2:=ih fun u hu => h u (.tail _ hu)
   rw [List.map_cons,List.flatten_cons,List.length_append,List.length_cons]
   have:(wS t).length = t.length + 1:=by simp [wS]
   omega
 have h1:=this R h.s
 have h2:=h.l
 show (R.map wS).flatten.length + 1 <= 21
 omega
theorem e_mwhole (n:Nat) (r:Option Int) (hr:∀ i,r = some i -> Sm i) (k:Str) (hk:k = "hole" \/ k = "reply"):callN defs (n + 1) 3 [.val (vP r),.val (.str k)] = some (lw [wP r]):=by
 rw [call_def (d:=d_member_words) rfl rfl]
 cases r with
 | none =>
  rcases hk with rfl | rfl <;> simp [d_member_words,exs,ex,ev,evs,evB,str_beq,vP,wP,lw,isNon]
 | some i =>
  have e:=str_sm (hr i rfl)
  rcases hk with rfl | rfl <;> simp [d_member_words,exs,ex,ev,evs,evB,str_beq,vP,wP,lw,isNon,e]
theorem e_mwpaper (n:Nat) (v w:PV) (h:callN defs n 5 [.val v] = some w):callN defs (n + 1) 3 [.val v,.val (.str "paper")] = some w:=by
 rw [call_def (d:=d_member_words) rfl rfl]
 simp [d_member_words,exs,ex,ev,evs,evA,evB,str_beq,h]
theorem ite_no {cal:Cal} {c:ME} {a ms:List MS} {ρ:Rho} {X:Option PV} (h:ev cal c ρ = some (.bl false)) (k:outOf (exs cal ms ρ) = X):outOf (exs cal (.ite c a [] :: ms) ρ) = X:=by
 rw [exs_cons,ex_ite h,if_neg (by decide),exs,then_next,k]
theorem ite_yes {cal:Cal} {c e:ME} {b ms:List MS} {ρ:Rho} {v:PV} (h:ev cal c ρ = some (.bl true)) (k:ev cal e ρ = some v):outOf (exs cal (.ite c [.ret e] b :: ms) ρ) = some v:=by
 rw [exs_cons,ex_ite h,if_pos rfl,exs_cons,ex_ret k]
 rfl
theorem e_mwrest (n:Nat) (R:List (List Int)) (h:ROk R):callN defs (n + 4) 3 [.val (ofR R),.val (.str "rest")] = some (lw (wR R)):=by
 rw [call_def (d:=d_member_words) rfl rfl]
 have hl:=wR_len h
 have hl2:=h.l
 have e1:ev (callN defs (n + 3)) (.comp .seq [(.bor 0)] [] (.cst (.bl true)) (.call 2 [(.bor 0)])) [some (.val (ofR R)),some (.val (.str "rest"))] = some (.lst (R.map fun t => lw (wS t))):=by
  refine ev_comp (vs:=[ofR R]) (xs:=R) (g:=ofS) (by simp [evs,ev]) (by simp [srcOf,ofR]) (by omega) fun t ht => ?_
  exact ev_call (vs:=[.val (ofS t)]) (by simp [evA,blkR]) (e_strip n t (h.m t ht) (by have:=h.s t ht; omega))
 have e2:=e_counted (n + 1) (R.map wS) (by have:(wR R).length = (R.map wS).flatten.length + 1:=rfl; omega) (by rw [List.length_map]; omega)
 rw [List.length_map,List.map_map] at e2
 exact ite_no (ρ:=[some (.val (ofR R)),some (.val (.str "rest"))]) (by simp [ev,str_beq]) (ite_yes (by simp [ev,str_beq]) (ev_call1 (f:=1) (fun i z => by cases z) e1 e2))
theorem zip_rows {α:Type} (f g:α -> PV):∀ (rows:List α),zipP (rows.map f) (rows.map g) = rows.map fun r => .tup [f r,g r]
 | [] => rfl
 | r :: rows => by rw [List.map_cons,List.map_cons,zipP,zip_rows f g rows,List.map_cons]
theorem e_msw {α:Type} (n:Nat) (f g:α -> PV) (w:α -> List Str) (rows:List α) (hl:rows.length <= 10000) (hw:(rows.map w).flatten.length <= 10000) (h:∀ r ∈ rows,callN defs (n + 1) 3 [.val (f r),.val (g r)] = some (lw (w r))) :
  callN defs (n + 2) 4 [.val (.tup (rows.map f)),.val (.tup (rows.map g))] = some (lw (rows.map w).flatten):=by
 rw [call_def (d:=d_members_words) rfl rfl]
 have e1:ev (callN defs (n + 1)) (.comp2 [(.bor 0),(.bor 1)] [] (.cst (.bl true)) (.call 3 [(.bor 0),(.bor 1)])) [some (.val (.tup (rows.map f))),some (.val (.tup (rows.map g)))] = some (.lst (rows.map fun r => lw (w r))):=by
  have s1:srcOf sk2 [.tup (rows.map f),.tup (rows.map g)] = some (rows.map fun r => .tup [f r,g r]):=by
   show (if _ then _ else _) = _
   rw [if_pos (by rw [List.length_map,List.length_map]),zip_rows]
  rw [ev,show evs (callN defs (n + 1)) [(.bor 0),(.bor 1)] [some (.val (.tup (rows.map f))),some (.val (.tup (rows.map g)))] = some [.tup (rows.map f),.tup (rows.map g)] from by simp [evs,ev],Option.bind_some,s1,Option.bind_some,if_pos (by rw [List.length_map]; exact hl),
   compGo_all (h:=fun r => lw (w r)) (fun x _ => by simp [ev]) fun r hr => ev_call (vs:=[.val (f r),.val (g r)]) (by simp [evA,blk2]) (h r hr)]
  rfl
 have e2:=e_mem n (rows.map w) hw
 rw [List.map_map] at e2
 exact x_ret (ρ:=[some (.val (.tup (rows.map f))),some (.val (.tup (rows.map g)))]) (ev_call1 (fun i z => by cases z) e1 e2)
theorem e_mwrows {α:Type} (n:Nat) (f:α -> PV) (w:α -> List Str) (rows:List α) (ks:List PV) (hl:rows.length <= 10000) (hw:(rows.map w).flatten.length < 10000) (h:∀ r ∈ rows,callN defs (n + 2) 4 [.val (f r),.val (.tup ks)] = some (lw (w r))) :
  callN defs (n + 3) 3 [.val (.tup (rows.map f)),.val (.tup ks)] = some (lw (strI rows.length :: (rows.map w).flatten)):=by
 rw [call_def (d:=d_member_words) rfl rfl]
 have e1:ev (callN defs (n + 2)) (.comp .seq [(.bor 0)] [1] (.cst (.bl true)) (.call 4 [(.bor 0),(.bor 1)])) [some (.val (.tup (rows.map f))),some (.val (.tup ks))] = some (.lst (rows.map fun r => lw (w r))):=by
  refine ev_comp (vs:=[.tup (rows.map f)]) (xs:=rows) (g:=f) (by simp [evs,ev]) (by simp [srcOf]) hl fun r hr => ?_
  exact ev_call (vs:=[.val (f r),.val (.tup ks)]) (by simp [evA,blkR]) (h r hr)
 have e2:=e_counted n (rows.map w) hw (by rw [List.length_map]; exact hl)
 rw [List.length_map,List.map_map] at e2
 have no:∀ k:Str,ev (callN defs (n + 2)) (.cmp .eq (.bor 1) (.cst (.str k))) [some (.val (.tup (rows.map f))),some (.val (.tup ks))] = some (.bl false):=fun k => by
  simp [ev,eqF]
 refine ite_no (ρ:=[some (.val (.tup (rows.map f))),some (.val (.tup ks))]) (by rw [ev,no,no]; simp) (ite_no (no _) (ite_no (no _) (x_ret (ev_call1 (fun i z => by cases z) e1 e2))))
theorem e_pw (n:Nat) (k:Str) (vs ks:List PV) (ws:List Str) (hk:cGet "MEMBERS" (.str k) = some (.tup ks)) (hv:vs.length <= 9999) (hw:ws.length < 10000) (h:callN defs n 4 [.val (.tup vs),.val (.tup ks)] = some (lw ws)):callN defs (n + 1) 5 [.val (.tup (.str k :: vs))] = some (lw (k :: ws)):=by
 rw [call_def (d:=d_paper_words) rfl rfl]
 have e0:ev (callN defs n) (.idx (.bor 0) (.cst (.int 0))) [some (.val (.tup (.str k :: vs)))] = some (.str k):=by simp [ev,place]
 have e1:ev (callN defs n) (.slice (.bor 0) (.cst (.int 1)) (.cst .non)) [some (.val (.tup (.str k :: vs)))] = some (.tup vs):=by
  simp [ev,bnd,sliceOp,cut,cutAt]
 have e2:ev (callN defs n) (.cdat "MEMBERS" (.idx (.bor 0) (.cst (.int 0)))) [some (.val (.tup (.str k :: vs)))] = some (.tup ks):=by rw [ev,e0,Option.bind_some,hk]
 have e3:ev (callN defs n) (.call 4 [(.slice (.bor 0) (.cst (.int 1)) (.cst .non)),(.cdat "MEMBERS" (.idx (.bor 0) (.cst (.int 0))))]) [some (.val (.tup (.str k :: vs)))] = some (lw ws):=ev_call (vs:=[.val (.tup vs),.val (.tup ks)]) (by simp [evA,e1,e2]) h
 refine x_ret (ρ:=[some (.val (.tup (.str k :: vs)))]) ?_
 rw [ev,e3,ev,evs,e0]
 have:1 + ws.length <= 10000:=by omega
 simp [evs,lw,this]
inductive Pap:Nat -> PV -> List Str -> Prop where
 | leaf {d:Nat} (k:Str) (hk:k = "bare" \/ k = "whole" \/ k = "weight"):Pap d (.tup [.str k]) [k]
 | pairs {d:Nat} (ps:List (Int × Int)) (hl:ps.length <= 3) (h1:∀ p ∈ ps,Sm p.1) (h2:∀ p ∈ ps,Sm p.2):Pap d (.tup [.str "pairs",.tup (ps.map fun p => .tup [.int p.1,.int p.2])]) ("pairs" :: strI ps.length :: (ps.map fun p => [strI p.1,strI p.2]).flatten)
 | one {d:Nat} {v:PV} {ws:List Str} (k:Str) (hk:k = "bite" \/ k = "knot") (r:Option Int) (hr:∀ i,r = some i -> Sm i) (h:Pap d v ws):Pap (d + 1) (.tup [.str k,vP r,v]) (k :: wP r :: ws)
 | cases {d:Nat} (rows:List (Int × Option Int × PV × List Str)) (hl:rows.length <= 3) (h1:∀ r ∈ rows,Sm r.1) (h2:∀ r ∈ rows,∀ i,r.2.1 = some i -> Sm i) (h3:∀ r ∈ rows,Pap d r.2.2.1 r.2.2.2):Pap (d + 1) (.tup [.str "cases",.tup (rows.map fun r => .tup [.int r.1,vP r.2.1,r.2.2.1])]) ("cases" :: strI rows.length :: (rows.map fun r => strI r.1 :: wP r.2.1 :: r.2.2.2).flatten)
 | parts {d:Nat} (rows:List (List (List Int) × PV × List Str)) (hl:rows.length <= 3) (h1:∀ r ∈ rows,ROk r.1) (h3:∀ r ∈ rows,Pap d r.2.1 r.2.2):Pap (d + 1) (.tup [.str "parts",.tup (rows.map fun r => .tup [ofR r.1,r.2.1])]) ("parts" :: strI rows.length :: (rows.map fun r => wR r.1 ++ r.2.2).flatten)
 | fewer {d:Nat} {v:PV} {ws:List Str} (R:List (List Int)) (hR:ROk R) (h:Pap d v ws):Pap (d + 1) (.tup [.str "fewer",ofR R,v]) ("fewer" :: (wR R ++ ws))
 | either {d:Nat} {v v':PV} {ws ws':List Str} (R S:List (List Int)) (hR:ROk R) (hS:ROk S) (h:Pap d v ws) (h':Pap d v' ws'):Pap (d + 1) (.tup [.str "either",ofR R,v,ofR S,v']) ("either" :: (wR R ++ ws ++ (wR S ++ ws')))
noncomputable def Bd:Nat -> Nat
 | 0 => 60
 | d + 1 => 3 * Bd d + 80
theorem Bd_ge:∀ d,60 <= Bd d
 | 0 => Nat.le_refl _
 | d + 1 => by have:=Bd_ge d; show 60 <= 3 * Bd d + 80; omega
theorem Bd_mono:∀ {d e:Nat},d <= e -> Bd d <= Bd e:=by
 intro d e h
 induction h with
 | refl => exact Nat.le_refl _
 | step _ ih => show Bd d <= 3 * Bd _ + 80; omega
theorem flat_mul {α:Type} {w:α -> List Str} {m:Nat}:∀ {rows:List α},(∀ r ∈ rows,(w r).length <= m) -> (rows.map w).flatten.length <= rows.length * m
 | [],_ => by simp
 | r :: rows,h => by
  rw [List.map_cons,List.flatten_cons,List.length_append,List.length_cons,Nat.add_mul,Nat.one_mul]
  have h1:=h r (.head _)
  have h2:=flat_mul (rows:=rows) fun x hx => h x (.tail _ hx)
  omega
theorem flat3 {α:Type} {w:α -> List Str} {m:Nat} {rows:List α} (hl:rows.length <= 3) (h:∀ r ∈ rows,(w r).length <= m):(rows.map w).flatten.length <= 3 * m :=
 Nat.le_trans (flat_mul h) (Nat.mul_le_mul_right m hl)
theorem pap_len {d:Nat} {v:PV} {ws:List Str} (h:Pap d v ws):ws.length <= Bd d:=by
 induction h with
 | @leaf d k hk => have:=Bd_ge d; show 1 <= _; omega
 | @pairs d ps hl h1 h2 =>
  have:=Bd_ge d
  have:=flat3 (w:=fun p:Int × Int => [strI p.1,strI p.2]) (m:=2) hl fun r _ => by simp
  simp only [List.length_cons]
  omega
 | @one d v ws k hk r hr h ih => simp only [List.length_cons]; show _ <= 3 * Bd d + 80; omega
 | @cases d rows hl h1 h2 h3 ih =>
  have:=flat3 (w:=fun r:Int × Option Int × PV × List Str => strI r.1 :: wP r.2.1 :: r.2.2.2) (m:=Bd d + 2) hl fun r hr => by
   have:=ih r hr
   simp only [List.length_cons]; omega
  simp only [List.length_cons]
  show _ <= 3 * Bd d + 80
  omega
 | @parts d rows hl h1 h3 ih =>
  have:=flat3 (w:=fun r:List (List Int) × PV × List Str => wR r.1 ++ r.2.2) (m:=Bd d + 21) hl fun r hr => by
   have:=ih r hr
   have:=wR_len (h1 r hr)
   rw [List.length_append]; omega
  simp only [List.length_cons]
  show _ <= 3 * Bd d + 80
  omega
 | @fewer d v ws R hR h ih =>
  have:=wR_len hR
  rw [List.length_cons,List.length_append]
  show _ <= 3 * Bd d + 80
  omega
 | @either d v v' ws ws' R S hR hS h h' ih ih' =>
  have:=wR_len hR
  have:=wR_len hS
  rw [List.length_cons,List.length_append,List.length_append,List.length_append]
  show _ <= 3 * Bd d + 80
  omega
noncomputable abbrev Row:=PV × PV × List Str
theorem e_row (n:Nat) (rows:List Row) (hl:rows.length <= 10000) (hw:(rows.map fun r => r.2.2).flatten.length <= 10000) (h:∀ r ∈ rows,callN defs (n + 1) 3 [.val r.1,.val r.2.1] = some (lw r.2.2)) :
  callN defs (n + 2) 4 [.val (.tup (rows.map fun r => r.1)),.val (.tup (rows.map fun r => r.2.1))] = some (lw (rows.map fun r => r.2.2).flatten):=by
 have e:=e_msw (α:=Row) n (fun r => r.1) (fun r => r.2.1) (fun r => r.2.2) rows hl hw h
 exact e
theorem cg_bare:cGet "MEMBERS" (.str "bare") = some (.tup []):=by rfl
theorem cg_whole:cGet "MEMBERS" (.str "whole") = some (.tup []):=by rfl
theorem cg_weight:cGet "MEMBERS" (.str "weight") = some (.tup []):=by rfl
theorem cg_pairs:cGet "MEMBERS" (.str "pairs") = some (.tup [.tup [.str "hole",.str "hole"]]):=by rfl
theorem cg_bite:cGet "MEMBERS" (.str "bite") = some (.tup [.str "reply",.str "paper"]):=by rfl
theorem cg_knot:cGet "MEMBERS" (.str "knot") = some (.tup [.str "reply",.str "paper"]):=by rfl
theorem cg_cases:cGet "MEMBERS" (.str "cases") = some (.tup [.tup [.str "hole",.str "reply",.str "paper"]]):=by rfl
theorem cg_parts:cGet "MEMBERS" (.str "parts") = some (.tup [.tup [.str "rest",.str "paper"]]):=by rfl
theorem cg_fewer:cGet "MEMBERS" (.str "fewer") = some (.tup [.str "rest",.str "paper"]):=by rfl
theorem cg_either:cGet "MEMBERS" (.str "either") = some (.tup [.str "rest",.str "paper",.str "rest",.str "paper"]):=by rfl
theorem pap_written {d:Nat} {v:PV} {ws:List Str} (h:Pap d v ws):d <= 4 -> ∀ N,5 * d + 6 <= N -> callN defs N 5 [.val v] = some (lw ws):=by
 induction h with
 | @leaf d k hk =>
  intro _ N hN
  obtain ⟨n,rfl⟩:∃ n,N = n + 3:=⟨N - 3,by omega⟩
  have e:=e_row n [] (by simp) (by simp) (fun r hr => by cases hr)
  have hg:cGet "MEMBERS" (.str k) = some (.tup []):=by
   rcases hk with rfl | rfl | rfl
   ·exact cg_bare
   ·exact cg_whole
   ·exact cg_weight
  exact e_pw (n + 2) k [] [] [] hg (by simp) (by simp) e
 | @pairs d ps hl h1 h2 =>
  intro _ N hN
  obtain ⟨n,rfl⟩:∃ n,N = n + 6:=⟨N - 6,by omega⟩
  have hf:=flat3 (w:=fun p:Int × Int => [strI p.1,strI p.2]) (m:=2) hl fun r _ => by simp
  have e1:=e_mwrows (n + 1) (fun p:Int × Int => .tup [.int p.1,.int p.2]) (fun p => [strI p.1,strI p.2]) ps [.str "hole",.str "hole"] (by omega) (by omega) fun p hp => by
   have:=e_row (n + 1) [(.int p.1,.str "hole",[strI p.1]),(.int p.2,.str "hole",[strI p.2])] (by simp) (by simp) fun r hr => by
    simp only [List.mem_cons,List.not_mem_nil,or_false] at hr
    rcases hr with rfl | rfl
    ·exact e_mwhole (n + 1) (some p.1) (fun i e => by cases e; exact h1 p hp) "hole" (.inl rfl)
    ·exact e_mwhole (n + 1) (some p.2) (fun i e => by cases e; exact h2 p hp) "hole" (.inl rfl)
   simpa using this
  have e2:=e_row (n + 3) [(.tup (ps.map fun p => .tup [.int p.1,.int p.2]),.tup [.str "hole",.str "hole"],strI ps.length :: (ps.map fun p => [strI p.1,strI p.2]).flatten)] (by simp) (by simp only [List.map_cons,List.map_nil,List.flatten_cons,List.flatten_nil,List.append_nil,List.length_cons]; omega) fun r hr => by
   simp only [List.mem_cons,List.not_mem_nil,or_false] at hr
   subst hr
   exact e1
  simp only [List.map_cons,List.map_nil,List.flatten_cons,List.flatten_nil,List.append_nil] at e2
  exact e_pw (n + 5) "pairs" _ _ _ cg_pairs (by simp) (by simp only [List.length_cons]; omega) e2
 | @one d v ws k hk r hr h ih =>
  intro hd N hN
  obtain ⟨n,rfl⟩:∃ n,N = n + 3:=⟨N - 3,by omega⟩
  have hb:=Nat.le_trans (pap_len h) (Bd_mono (e:=3) (by omega))
  have hb:ws.length <= 2660:=hb
  have e1:=e_row n [(vP r,.str "reply",[wP r]),(v,.str "paper",ws)] (by simp) (by simp only [List.map_cons,List.map_nil,List.flatten_cons,List.flatten_nil,List.append_nil,List.length_append,List.length_cons,List.length_nil]; omega) fun q hq => by
   simp only [List.mem_cons,List.not_mem_nil,or_false] at hq
   rcases hq with rfl | rfl
   ·exact e_mwhole n r hr "reply" (.inr rfl)
   ·exact e_mwpaper n v _ (ih (by omega) n (by omega))
  simp only [List.map_cons,List.map_nil,List.flatten_cons,List.flatten_nil,List.append_nil,List.singleton_append] at e1
  have hg:cGet "MEMBERS" (.str k) = some (.tup [.str "reply",.str "paper"]):=by
   rcases hk with rfl | rfl
   ·exact cg_bite
   ·exact cg_knot
  exact e_pw (n + 2) k _ _ _ hg (by simp) (by simp only [List.length_cons]; omega) e1
 | @cases d rows hl h1 h2 h3 ih =>
  intro hd N hN
  obtain ⟨n,rfl⟩:∃ n,N = n + 6:=⟨N - 6,by omega⟩
  have hb:∀ r ∈ rows,r.2.2.2.length <= 2660:=fun r hr => Nat.le_trans (pap_len (h3 r hr)) (Bd_mono (e:=3) (by omega))
  have hf:=flat3 (w:=fun r:Int × Option Int × PV × List Str => strI r.1 :: wP r.2.1 :: r.2.2.2) (m:=2662) hl fun r hr => by
   have:=hb r hr
   simp only [List.length_cons]; omega
  have e1:=e_mwrows (n + 1) (fun r:Int × Option Int × PV × List Str => .tup [.int r.1,vP r.2.1,r.2.2.1]) (fun r => strI r.1 :: wP r.2.1 :: r.2.2.2) rows [.str "hole",.str "reply",.str "paper"] (by omega) (by omega) fun p hp => by
   have hbp:=hb p hp
   have:=e_row (n + 1) [(.int p.1,.str "hole",[strI p.1]),(vP p.2.1,.str "reply",[wP p.2.1]),(p.2.2.1,.str "paper",p.2.2.2)] (by simp) (by simp only [List.map_cons,List.map_nil,List.flatten_cons,List.flatten_nil,List.append_nil,List.length_append,List.length_cons,List.length_nil]; omega) fun r hr => by
    simp only [List.mem_cons,List.not_mem_nil,or_false] at hr
    rcases hr with rfl | rfl | rfl
    ·exact e_mwhole (n + 1) (some p.1) (fun i e => by cases e; exact h1 p hp) "hole" (.inl rfl)
    ·exact e_mwhole (n + 1) p.2.1 (h2 p hp) "reply" (.inr rfl)
    ·exact e_mwpaper (n + 1) _ _ (ih p hp (by omega) (n + 1) (by omega))
   simpa using this
  have e2:=e_row (n + 3) [(.tup (rows.map fun r => .tup [.int r.1,vP r.2.1,r.2.2.1]),.tup [.str "hole",.str "reply",.str "paper"],strI rows.length :: (rows.map fun r => strI r.1 :: wP r.2.1 :: r.2.2.2).flatten)] (by simp) (by simp only [List.map_cons,List.map_nil,List.flatten_cons,List.flatten_nil,List.append_nil,List.length_cons]; omega) fun r hr => by
   simp only [List.mem_cons,List.not_mem_nil,or_false] at hr
   subst hr
   exact e1
  simp only [List.map_cons,List.map_nil,List.flatten_cons,List.flatten_nil,List.append_nil] at e2
  exact e_pw (n + 5) "cases" _ _ _ cg_cases (by simp) (by simp only [List.length_cons]; omega) e2
 | @parts d rows hl h1 h3 ih =>
  intro hd N hN
  obtain ⟨n,rfl⟩:∃ n,N = n + 6:=⟨N - 6,by omega⟩
  have hb:∀ r ∈ rows,r.2.2.length <= 2660:=fun r hr => Nat.le_trans (pap_len (h3 r hr)) (Bd_mono (e:=3) (by omega))
  have hf:=flat3 (w:=fun r:List (List Int) × PV × List Str => wR r.1 ++ r.2.2) (m:=2690) hl fun r hr => by
   have:=hb r hr
   have:=wR_len (h1 r hr)
   rw [List.length_append]; omega
  have e1:=e_mwrows (n + 1) (fun r:List (List Int) × PV × List Str => .tup [ofR r.1,r.2.1]) (fun r => wR r.1 ++ r.2.2) rows [.str "rest",.str "paper"] (by omega) (by omega) fun p hp => by
   have hbp:=hb p hp
   have hbr:=wR_len (h1 p hp)
   have:=e_row (n + 1) [(ofR p.1,.str "rest",wR p.1),(p.2.1,.str "paper",p.2.2)] (by simp) (by simp only [List.map_cons,List.map_nil,List.flatten_cons,List.flatten_nil,List.append_nil,List.length_append]; omega) fun r hr => by
    simp only [List.mem_cons,List.not_mem_nil,or_false] at hr
    rcases hr with rfl | rfl
    ·obtain ⟨m,rfl⟩:∃ m,n = m + 2:=⟨n - 2,by omega⟩
     exact e_mwrest m p.1 (h1 p hp)
    ·exact e_mwpaper (n + 1) _ _ (ih p hp (by omega) (n + 1) (by omega))
   simpa using this
  have e2:=e_row (n + 3) [(.tup (rows.map fun r => .tup [ofR r.1,r.2.1]),.tup [.str "rest",.str "paper"],strI rows.length :: (rows.map fun r => wR r.1 ++ r.2.2).flatten)] (by simp) (by simp only [List.map_cons,List.map_nil,List.flatten_cons,List.flatten_nil,List.append_nil,List.length_cons]; omega) fun r hr => by
   simp only [List.mem_cons,List.not_mem_nil,or_false] at hr
   subst hr
   exact e1
  simp only [List.map_cons,List.map_nil,List.flatten_cons,List.flatten_nil,List.append_nil] at e2
  exact e_pw (n + 5) "parts" _ _ _ cg_parts (by simp) (by simp only [List.length_cons]; omega) e2
 | @fewer d v ws R hR h ih =>
  intro hd N hN
  obtain ⟨n,rfl⟩:∃ n,N = n + 6:=⟨N - 6,by omega⟩
  have hb:ws.length <= 2660:=Nat.le_trans (pap_len h) (Bd_mono (e:=3) (by omega))
  have hbr:=wR_len hR
  have e1:=e_row (n + 3) [(ofR R,.str "rest",wR R),(v,.str "paper",ws)] (by simp) (by simp only [List.map_cons,List.map_nil,List.flatten_cons,List.flatten_nil,List.append_nil,List.length_append]; omega) fun q hq => by
   simp only [List.mem_cons,List.not_mem_nil,or_false] at hq
   rcases hq with rfl | rfl
   ·exact e_mwrest n R hR
   ·exact e_mwpaper (n + 3) v _ (ih (by omega) (n + 3) (by omega))
  simp only [List.map_cons,List.map_nil,List.flatten_cons,List.flatten_nil,List.append_nil] at e1
  exact e_pw (n + 5) "fewer" _ _ _ cg_fewer (by simp) (by rw [List.length_append]; omega) e1
 | @either d v v' ws ws' R S hR hS h h' ih ih' =>
  intro hd N hN
  obtain ⟨n,rfl⟩:∃ n,N = n + 6:=⟨N - 6,by omega⟩
  have hb:ws.length <= 2660:=Nat.le_trans (pap_len h) (Bd_mono (e:=3) (by omega))
  have hb':ws'.length <= 2660:=Nat.le_trans (pap_len h') (Bd_mono (e:=3) (by omega))
  have hbr:=wR_len hR
  have hbs:=wR_len hS
  have e1:=e_row (n + 3) [(ofR R,.str "rest",wR R),(v,.str "paper",ws),(ofR S,.str "rest",wR S),(v',.str "paper",ws')] (by simp) (by simp only [List.map_cons,List.map_nil,List.flatten_cons,List.flatten_nil,List.append_nil,List.length_append]; omega) fun q hq => by
   simp only [List.mem_cons,List.not_mem_nil,or_false] at hq
   rcases hq with rfl | rfl | rfl | rfl
   ·exact e_mwrest n R hR
   ·exact e_mwpaper (n + 3) v _ (ih (by omega) (n + 3) (by omega))
   ·exact e_mwrest n S hS
   ·exact e_mwpaper (n + 3) v' _ (ih' (by omega) (n + 3) (by omega))
  simp only [List.map_cons,List.map_nil,List.flatten_cons,List.flatten_nil,List.append_nil] at e1
  rw [<- List.append_assoc] at e1
  exact e_pw (n + 5) "either" _ _ _ cg_either (by simp) (by simp only [List.length_append]; omega) e1
theorem lrest_loop (cal:Cal) (a:Option MV):∀ (R:List (List Int)) (acc:List Str) (s:Option MV),(∀ t ∈ R,∀ i ∈ t,Sm i) -> acc.length + (R.map wS).flatten.length <= 10000 ->
  ∃ s',forGo (fun x ρ' => exs cal b_law_rest_words_1 (put ρ' 2 (.val x))) (R.map ofS) [a,some (.val (lw acc)),s] = .next [a,some (.val (lw (acc ++ (R.map wS).flatten))),s']
 | [],acc,s,_,_ => ⟨s,by simp⟩
 | t :: R,acc,s,hs,h => by
  rw [List.map_cons,forGo]
  rw [List.map_cons,List.flatten_cons,List.length_append] at h
  have hw:(wS t).length = t.length + 1:=by simp [wS]
  have e1:ev cal (.comp .seq [(.bor 2)] [] (.cst (.bl true)) (.blt .strOf [(.bor 0)])) [a,some (.val (lw acc)),some (.val (ofS t))] = some (.lst (t.map fun i => .str (strI i))):=by
   refine ev_comp (vs:=[ofS t]) (xs:=t) (g:=PV.int) (by simp [evs,ev]) (by simp [srcOf,ofS]) (by omega) fun i hi => ?_
   rw [ev_blt1 (v:=.int i) (by simp [ev,blkR]),str_sm (hs t (.head _) i hi)]
  have e0:ev cal (.lst [(.blt .strOf [(.blt .len [(.bor 2)])])]) [a,some (.val (lw acc)),some (.val (ofS t))] = some (.lst [.str (strI t.length)]):=by
   rw [ev,evs,ev_blt1 (v:=.int t.length) (by rw [ev_blt1 (v:=ofS t) (by simp [ev])]; simp [ofS]),str_len _ (by omega)]
   simp [evs]
  have c1:acc.length + 1 <= 10000:=by omega
  have c2:acc.length + 1 + t.length <= 10000:=by omega
  have e2:ev cal (.bin .add (.bin .add (.bor 1) (.lst [(.blt .strOf [(.blt .len [(.bor 2)])])])) (.comp .seq [(.bor 2)] [] (.cst (.bl true)) (.blt .strOf [(.bor 0)]))) [a,some (.val (lw acc)),some (.val (ofS t))] = some (lw (acc ++ wS t)):=by
   rw [ev,e1,ev,e0]
   simp [ev,lw,c1,c2,wS]
  have e:exs cal b_law_rest_words_1 (put [a,some (.val (lw acc)),s] 2 (.val (ofS t))) = .next [a,some (.val (lw (acc ++ wS t))),some (.val (ofS t))]:=by
   simp only [put_succ,put_zero,b_law_rest_words_1]
   exact n_end (ex_set e2)
  rw [e]
  obtain ⟨s',e3⟩:=lrest_loop cal a R (acc ++ wS t) (some (.val (ofS t))) (fun u hu => hs u (.tail _ hu)) (by rw [List.length_append]; omega)
  exact ⟨s',by rw [List.map_cons,List.flatten_cons,<- List.append_assoc]; exact e3⟩
theorem e_lrest (n:Nat) (R:List (List Int)) (h:ROk R):callN defs (n + 1) 13 [.val (ofR R)] = some (lw (wR R)):=by
 rw [call_def (d:=d_law_rest_words) rfl rfl]
 have hl:=wR_len h
 have hl2:=h.l
 have hw:(wR R).length = (R.map wS).flatten.length + 1:=rfl
 obtain ⟨s',e⟩:=lrest_loop (callN defs n) (some (.val (ofR R))) R [strI R.length] none h.m (by simp only [List.length_singleton]; omega)
 have e0:ev (callN defs n) (.lst [(.blt .strOf [(.blt .len [(.bor 0)])])]) [some (.val (ofR R)),none,none] = some (lw [strI R.length]):=by
  rw [ev,evs,ev_blt1 (v:=.int R.length) (by rw [ev_blt1 (v:=ofR R) (by simp [ev])]; simp [ofR]),str_len _ (by omega)]
  simp [evs,lw]
 refine x_set (ρ:=[some (.val (ofR R)),none,none]) e0 (x_next (ρ':=[some (.val (ofR R)),some (.val (lw (wR R))),s']) ?_ (x_ret (by simp [ev])))
 simp only [put_zero,put_succ]
 rw [ex_for1 (xs:=R.map ofS) (by simp [evs,ev,srcOf,ofR])]
 rw [show lend [ME.bor 0] [some (.val (ofR R)),some (.val (lw [strI R.length])),none] = [some (.val (ofR R)),some (.val (lw [strI R.length])),none] from rfl,e]
 rfl
theorem e_lreply (n:Nat) (r:Option Int) (hr:∀ i,r = some i -> Sm i):callN defs (n + 1) 14 [.val (vP r)] = some (.str (wP r)):=by
 rw [call_def (d:=d_law_reply_word) rfl rfl]
 cases r with
 | none => simp [d_law_reply_word,exs,ex,ev,evs,evB,vP,wP,isNon]
 | some i =>
  have e:=str_sm (hr i rfl)
  simp [d_law_reply_word,exs,ex,ev,evs,evB,vP,wP,isNon,e]
theorem ite_go {cal:Cal} {c:ME} {a b ms:List MS} {ρ ρ':Rho} {X:Option PV} (h:ev cal c ρ = some (.bl true)) (g:exs cal a ρ = .next ρ') (k:outOf (exs cal ms ρ') = X):outOf (exs cal (.ite c a b :: ms) ρ) = X:=by
 rw [exs_cons,ex_ite h,if_pos rfl,g,then_next,k]
theorem ev_is (cal:Cal) (k k':String) (p:Option MV) (r:Rho):ev cal (.cmp .eq (.bor 1) (.cst (.str k'))) (p :: some (.val (.str k)) :: r) = some (.bl (k == k')):=by
 simp [ev,str_beq]
theorem ev_or2 {cal:Cal} {a b:ME} {ρ:Rho} {p q:Bool} (h:ev cal a ρ = some (.bl p)) (h':ev cal b ρ = some (.bl q)):ev cal (.or a b) ρ = some (.bl (p || q)):=by
 rw [ev,h,Option.bind_some,boolOf_bl,Option.bind_some,h']
 cases p <;> simp
theorem ex_cat {cal:Cal} {e e':ME} {ρ:Rho} {acc a b:List Str} (h0:(ρ[(2:Nat)]?).join = some (.own (acc.map .str))) (h1:ev cal e ρ = some (lw a)) (h2:ev cal e' ρ = some (lw b)) (hl:acc.length + a.length + b.length <= 10000):ex cal (.setOwn 2 (.bin .add (.bin .add (.bor 2) e) e')) ρ = .next (put ρ 2 (.own ((acc ++ a ++ b).map .str))):=by
 refine ex_setOwn ?_
 have c1:acc.length + a.length <= 10000:=by omega
 rw [ev,h2,ev,h1]
 simp [ev,h0,lw,c1,hl]
theorem ex_cat1 {cal:Cal} {e:ME} {ρ:Rho} {acc a:List Str} (h0:(ρ[(2:Nat)]?).join = some (.own (acc.map .str))) (h1:ev cal e ρ = some (lw a)) (hl:acc.length + a.length <= 10000):ex cal (.setOwn 2 (.bin .add (.bor 2) e)) ρ = .next (put ρ 2 (.own ((acc ++ a).map .str))):=by
 refine ex_setOwn ?_
 rw [ev,h1]
 simp [ev,h0,lw,hl]
theorem lw_begin (cal:Cal) (k:String) (vs:List PV) {X:Option PV} (h:outOf (exs cal (d_law_words.body.drop 2) [some (.val (.tup (.str k :: vs))),some (.val (.str k)),some (.own [.str k]),none]) = X):outOf (exs cal d_law_words.body [some (.val (.tup (.str k :: vs))),none,none,none]) = X:=by
 refine x_set (v:=.str k) (by simp [ev,place]) (x_next (ρ':=[some (.val (.tup (.str k :: vs))),some (.val (.str k)),some (.own [.str k]),none]) ?_ h)
 simp only [put_zero,put_succ]
 exact ex_setOwn (by simp [ev,evs])
theorem lw_no1 (cal:Cal) (k:String) (v:PV) (o s:Option MV) {X:Option PV} (hk:(k == "pairs" || (k == "cases" || k == "parts")) = false) (h:outOf (exs cal (d_law_words.body.drop 3) [some (.val v),some (.val (.str k)),o,s]) = X):outOf (exs cal (d_law_words.body.drop 2) [some (.val v),some (.val (.str k)),o,s]) = X :=
 ite_no ((ev_or2 (ev_is ..) (ev_or2 (ev_is ..) (ev_is ..))).trans (by rw [hk])) h
theorem lw_no2 (cal:Cal) (k:String) (v:PV) (o s:Option MV) {X:Option PV} (hk:(k == "bite" || k == "knot") = false) (h:outOf (exs cal (d_law_words.body.drop 4) [some (.val v),some (.val (.str k)),o,s]) = X):outOf (exs cal (d_law_words.body.drop 3) [some (.val v),some (.val (.str k)),o,s]) = X :=
 ite_no ((ev_or2 (ev_is ..) (ev_is ..)).trans (by rw [hk])) h
theorem lw_no3 (cal:Cal) (k:String) (v:PV) (o s:Option MV) {X:Option PV} (hk:(k == "fewer" || k == "either") = false) (h:outOf (exs cal (d_law_words.body.drop 5) [some (.val v),some (.val (.str k)),o,s]) = X):outOf (exs cal (d_law_words.body.drop 4) [some (.val v),some (.val (.str k)),o,s]) = X :=
 ite_no ((ev_or2 (ev_is ..) (ev_is ..)).trans (by rw [hk])) h
theorem lw_no4 (cal:Cal) (k:String) (v:PV) (acc:List Str) (s:Option MV) (hk:(k == "either") = false):outOf (exs cal (d_law_words.body.drop 5) [some (.val v),some (.val (.str k)),some (.own (acc.map .str)),s]) = some (lw acc):=by
 refine ite_no ((ev_is ..).trans (by rw [hk])) ?_
 simp [exs,ex,lw]
theorem lw_end (cal:Cal) (p q s:Option MV) (acc:List Str):outOf (exs cal (d_law_words.body.drop 6) [p,q,some (.own (acc.map .str)),s]) = some (lw acc):=by
 show outOf (exs cal [.retOwn 2] _) = _
 simp [exs,ex,lw]
theorem lw_rows {α:Type} (cal:Cal) (k:String) (f:α -> PV) (w:α -> List Str) (rows:List α) (hk:(k == "pairs" || (k == "cases" || k == "parts")) = true) (hl:rows.length <= 3) (hw:(rows.map w).flatten.length <= 9990)
  (h:∀ r ∈ rows,∀ (acc:List Str) (v:PV),acc.length + (w r).length <= 10000 -> exs cal b_law_words_1 [some (.val v),some (.val (.str k)),some (.own (acc.map .str)),some (.val (f r))] = .next [some (.val v),some (.val (.str k)),some (.own ((acc ++ w r).map .str)),some (.val (f r))])
  (h2:(k == "bite" || k == "knot") = false) (h3:(k == "fewer" || k == "either") = false) (h4:(k == "either") = false) (hw1:∀ r ∈ rows,(w r).length <= (rows.map w).flatten.length) :
  outOf (exs cal d_law_words.body [some (.val (.tup [.str k,.tup (rows.map f)])),none,none,none]) = some (lw (k :: strI rows.length :: (rows.map w).flatten)):=by
 have e0:∀ o s,ev cal (.blt .strOf [(.blt .len [(.idx (.bor 0) (.cst (.int 1)))])]) [some (.val (.tup [.str k,.tup (rows.map f)])),some (.val (.str k)),o,s] = some (.str (strI rows.length)):=fun o s => by
  rw [ev_blt1 (v:=.int rows.length) (by rw [ev_blt1 (v:=.tup (rows.map f)) (by simp [ev,place])]; simp),str_len _ (by omega)]
 have lp:∀ (rs:List α) (acc:List Str) (s:Option MV),(∀ r ∈ rs,r ∈ rows) -> acc.length + (rs.map w).flatten.length <= 9992 ->
   ∃ s',forGo (fun x ρ' => exs cal b_law_words_1 (put ρ' 3 (.val x))) (rs.map f) [some (.val (.tup [.str k,.tup (rows.map f)])),some (.val (.str k)),some (.own (acc.map .str)),s] = .next [some (.val (.tup [.str k,.tup (rows.map f)])),some (.val (.str k)),some (.own ((acc ++ (rs.map w).flatten).map .str)),s']:=by
  intro rs
  induction rs with
  | nil => intro acc s _ _; exact ⟨s,by simp⟩
  | cons r rs ih =>
   intro acc s hs hl
   rw [List.map_cons,List.flatten_cons,List.length_append] at hl
   rw [List.map_cons,forGo]
   have e:=h r (hs r (.head _)) acc (.tup [.str k,.tup (rows.map f)]) (by omega)
   rw [show put [some (MV.val (.tup [.str k,.tup (rows.map f)])),some (.val (.str k)),some (.own (acc.map .str)),s] 3 (.val (f r)) = [some (.val (.tup [.str k,.tup (rows.map f)])),some (.val (.str k)),some (.own (acc.map .str)),some (.val (f r))] from rfl,e]
   obtain ⟨s',e2⟩:=ih (acc ++ w r) (some (.val (f r))) (fun x hx => hs x (.tail _ hx)) (by rw [List.length_append]; omega)
   exact ⟨s',by rw [List.map_cons,List.flatten_cons,<- List.append_assoc]; exact e2⟩
 obtain ⟨s',e1⟩:=lp rows [Str.ofString k,strI rows.length] none (fun _ z => z) (by simp only [List.length_cons,List.length_nil]; omega)
 refine lw_begin cal k _ (ite_go ((ev_or2 (ev_is ..) (ev_or2 (ev_is ..) (ev_is ..))).trans (by rw [hk])) (ρ':=[some (.val (.tup [.str k,.tup (rows.map f)])),some (.val (.str k)),some (.own ((Str.ofString k :: strI rows.length :: (rows.map w).flatten).map .str)),s']) ?_ (lw_no2 cal k _ _ _ h2 (lw_no3 cal k _ _ _ h3 (lw_no4 cal k _ _ _ h4))))
 refine n_next (ρ':=[some (.val (.tup [.str k,.tup (rows.map f)])),some (.val (.str k)),some (.own ([Str.ofString k,strI rows.length].map .str)),none]) ?_ (n_end ?_)
 ·rw [ex,e0]
  simp
 ·rw [ex_for1 (xs:=rows.map f) (by rw [evs,show ev cal (.idx (.bor 0) (.cst (.int 1))) [some (.val (.tup [.str k,.tup (rows.map f)])),some (.val (.str k)),some (.own ([Str.ofString k,strI rows.length].map .str)),none] = some (.tup (rows.map f)) from by simp [ev,place]]; simp [evs,srcOf])]
  rw [show lend [ME.idx (.bor 0) (.cst (.int 1))] [some (MV.val (.tup [.str k,.tup (rows.map f)])),some (.val (.str k)),some (.own ([Str.ofString k,strI rows.length].map .str)),none] = [some (.val (.tup [.str k,.tup (rows.map f)])),some (.val (.str k)),some (.own ([Str.ofString k,strI rows.length].map .str)),none] from rfl,e1]
  rfl
theorem pap_law {d:Nat} {v:PV} {ws:List Str} (h:Pap d v ws):d <= 4 -> ∀ N,d + 3 <= N -> callN defs N 15 [.val v] = some (lw ws):=by
 induction h with
 | @leaf d k hk =>
  intro _ N hN
  obtain ⟨n,rfl⟩:∃ n,N = n + 1:=⟨N - 1,by omega⟩
  rw [call_def (d:=d_law_words) rfl rfl]
  have go:∀ k:String,(k == "pairs" || (k == "cases" || k == "parts")) = false -> (k == "bite" || k == "knot") = false -> (k == "fewer" || k == "either") = false -> (k == "either") = false -> outOf (exs (callN defs n) d_law_words.body [some (.val (.tup [.str k])),none,none,none]) = some (lw [Str.ofString k]):=fun k a b c e =>
   lw_begin _ k [] (lw_no1 _ k _ _ _ a (lw_no2 _ k _ _ _ b (lw_no3 _ k _ _ _ c (lw_no4 _ k _ [Str.ofString k] _ e))))
  rcases hk with rfl | rfl | rfl
  ·exact go "bare" (by decide) (by decide) (by decide) (by decide)
  ·exact go "whole" (by decide) (by decide) (by decide) (by decide)
  ·exact go "weight" (by decide) (by decide) (by decide) (by decide)
 | @pairs d ps hl h1 h2 =>
  intro _ N hN
  obtain ⟨n,rfl⟩:∃ n,N = n + 1:=⟨N - 1,by omega⟩
  rw [call_def (d:=d_law_words) rfl rfl]
  have hf:=flat3 (w:=fun p:Int × Int => [strI p.1,strI p.2]) (m:=2) hl fun r _ => by simp
  refine lw_rows (callN defs n) "pairs" (fun p:Int × Int => .tup [.int p.1,.int p.2]) (fun p => [strI p.1,strI p.2]) ps (by decide) hl (by omega) (fun p hp acc v ha => ?_) (by decide) (by decide) (by decide) (fun r hr => ?_)
  ·have a1:=str_sm (h1 p hp)
   have a2:=str_sm (h2 p hp)
   have e1:ev (callN defs n) (.lst [(.blt .strOf [(.idx (.bor 3) (.cst (.int 0)))]),(.blt .strOf [(.idx (.bor 3) (.cst (.int 1)))])]) [some (.val v),some (.val (.str "pairs")),some (.own (acc.map .str)),some (.val (.tup [.int p.1,.int p.2]))] = some (lw [strI p.1,strI p.2]):=by
    rw [ev,evs,ev_blt1 (v:=.int p.1) (by simp [ev,place]),a1,evs,ev_blt1 (v:=.int p.2) (by simp [ev,place]),a2]
    simp [evs,lw]
   show exs _ [.ite _ _ _] _ = _
   refine n_end ?_
   rw [ex_ite (p:=true) (by rw [ev_is]; rfl),if_pos rfl]
   exact n_end (ex_cat1 (acc:=acc) rfl e1 ha)
  ·have:0 < ps.length:=List.length_pos_of_mem hr
   have q:=List.sublist_flatten_of_mem (List.mem_map_of_mem (f:=fun p:Int × Int => [strI p.1,strI p.2]) hr)
   exact q.length_le
 | @one d v ws k hk r hr h ih =>
  intro hd N hN
  obtain ⟨n,rfl⟩:∃ n,N = n + 2:=⟨N - 2,by omega⟩
  rw [call_def (d:=d_law_words) rfl rfl]
  have hb:ws.length <= 2660:=Nat.le_trans (pap_len h) (Bd_mono (e:=3) (by omega))
  have go:∀ k:String,(k == "pairs" || (k == "cases" || k == "parts")) = false -> (k == "bite" || k == "knot") = true -> (k == "fewer" || k == "either") = false -> (k == "either") = false -> outOf (exs (callN defs (n + 1)) d_law_words.body [some (.val (.tup [.str k,vP r,v])),none,none,none]) = some (lw (Str.ofString k :: wP r :: ws)):=fun k a b c e => by
   refine lw_begin _ k _ (lw_no1 _ k _ _ _ a (ite_go ((ev_or2 (ev_is ..) (ev_is ..)).trans (by rw [b])) (ρ':=[some (.val (.tup [.str k,vP r,v])),some (.val (.str k)),some (.own ((Str.ofString k :: wP r :: ws).map .str)),none]) (n_end ?_) (lw_no3 _ k _ _ _ c (lw_no4 _ k _ _ _ e))))
   refine ex_cat (acc:=[Str.ofString k]) (a:=[wP r]) (b:=ws) rfl ?_ ?_ (by simp only [List.length_singleton]; omega)
   ·rw [ev,evs,ev_call1 (v:=vP r) (r:=.str (wP r)) (fun i z => by cases z) (by simp [ev,place]) (e_lreply n r hr)]
    simp [evs,lw]
   ·exact ev_call1 (v:=v) (fun i z => by cases z) (by simp [ev,place]) (ih (by omega) (n + 1) (by omega))
  rcases hk with rfl | rfl
  ·exact go "bite" (by decide) (by decide) (by decide) (by decide)
  ·exact go "knot" (by decide) (by decide) (by decide) (by decide)
 | @cases d rows hl h1 h2 h3 ih =>
  intro hd N hN
  obtain ⟨n,rfl⟩:∃ n,N = n + 2:=⟨N - 2,by omega⟩
  rw [call_def (d:=d_law_words) rfl rfl]
  have hb:∀ r ∈ rows,r.2.2.2.length <= 2660:=fun r hr => Nat.le_trans (pap_len (h3 r hr)) (Bd_mono (e:=3) (by omega))
  have hf:=flat3 (w:=fun r:Int × Option Int × PV × List Str => strI r.1 :: wP r.2.1 :: r.2.2.2) (m:=2662) hl fun r hr => by
   have:=hb r hr
   simp only [List.length_cons]; omega
  refine lw_rows (callN defs (n + 1)) "cases" (fun r:Int × Option Int × PV × List Str => .tup [.int r.1,vP r.2.1,r.2.2.1]) (fun r => strI r.1 :: wP r.2.1 :: r.2.2.2) rows (by decide) hl (by omega) (fun p hp acc v ha => ?_) (by decide) (by decide) (by decide) (fun r hr => (List.sublist_flatten_of_mem (List.mem_map_of_mem (f:=fun r:Int × Option Int × PV × List Str => strI r.1 :: wP r.2.1 :: r.2.2.2) hr)).length_le)
  have a1:=str_sm (h1 p hp)
  have e1:ev (callN defs (n + 1)) (.lst [(.blt .strOf [(.idx (.bor 3) (.cst (.int 0)))]),(.call 14 [(.idx (.bor 3) (.cst (.int 1)))])]) [some (.val v),some (.val (.str "cases")),some (.own (acc.map .str)),some (.val (.tup [.int p.1,vP p.2.1,p.2.2.1]))] = some (lw [strI p.1,wP p.2.1]):=by
   rw [ev,evs,ev_blt1 (v:=.int p.1) (by simp [ev,place]),a1,evs,ev_call1 (v:=vP p.2.1) (r:=.str (wP p.2.1)) (fun i z => by cases z) (by simp [ev,place]) (e_lreply n _ (h2 p hp))]
   simp [evs,lw]
  have e2:ev (callN defs (n + 1)) (.call 15 [(.idx (.bor 3) (.cst (.int 2)))]) [some (.val v),some (.val (.str "cases")),some (.own (acc.map .str)),some (.val (.tup [.int p.1,vP p.2.1,p.2.2.1]))] = some (lw p.2.2.2):=ev_call1 (v:=p.2.2.1) (fun i z => by cases z) (by simp [ev,place]) (ih p hp (by omega) (n + 1) (by omega))
  show exs _ [.ite _ _ _] _ = _
  refine n_end ?_
  rw [ex_ite (p:=false) (by rw [ev_is]; rfl),if_neg (by decide)]
  refine n_end ?_
  rw [ex_ite (p:=true) (by rw [ev_is]; rfl),if_pos rfl]
  refine n_end ?_
  simp only [List.length_cons] at ha
  have q:=ex_cat (acc:=acc) rfl e1 e2 (by simp only [List.length_cons,List.length_nil]; omega)
  rw [List.append_assoc] at q
  exact q
 | @parts d rows hl h1 h3 ih =>
  intro hd N hN
  obtain ⟨n,rfl⟩:∃ n,N = n + 2:=⟨N - 2,by omega⟩
  rw [call_def (d:=d_law_words) rfl rfl]
  have hb:∀ r ∈ rows,r.2.2.length <= 2660:=fun r hr => Nat.le_trans (pap_len (h3 r hr)) (Bd_mono (e:=3) (by omega))
  have hf:=flat3 (w:=fun r:List (List Int) × PV × List Str => wR r.1 ++ r.2.2) (m:=2690) hl fun r hr => by
   have:=hb r hr
   have:=wR_len (h1 r hr)
   rw [List.length_append]; omega
  refine lw_rows (callN defs (n + 1)) "parts" (fun r:List (List Int) × PV × List Str => .tup [ofR r.1,r.2.1]) (fun r => wR r.1 ++ r.2.2) rows (by decide) hl (by omega) (fun p hp acc v ha => ?_) (by decide) (by decide) (by decide) (fun r hr => (List.sublist_flatten_of_mem (List.mem_map_of_mem (f:=fun r:List (List Int) × PV × List Str => wR r.1 ++ r.2.2) hr)).length_le)
  have e1:ev (callN defs (n + 1)) (.call 13 [(.idx (.bor 3) (.cst (.int 0)))]) [some (.val v),some (.val (.str "parts")),some (.own (acc.map .str)),some (.val (.tup [ofR p.1,p.2.1]))] = some (lw (wR p.1)):=ev_call1 (v:=ofR p.1) (fun i z => by cases z) (by simp [ev,place]) (e_lrest n p.1 (h1 p hp))
  have e2:ev (callN defs (n + 1)) (.call 15 [(.idx (.bor 3) (.cst (.int 1)))]) [some (.val v),some (.val (.str "parts")),some (.own (acc.map .str)),some (.val (.tup [ofR p.1,p.2.1]))] = some (lw p.2.2):=ev_call1 (v:=p.2.1) (fun i z => by cases z) (by simp [ev,place]) (ih p hp (by omega) (n + 1) (by omega))
  show exs _ [.ite _ _ _] _ = _
  refine n_end ?_
  rw [ex_ite (p:=false) (by rw [ev_is]; rfl),if_neg (by decide)]
  refine n_end ?_
  rw [ex_ite (p:=false) (by rw [ev_is]; rfl),if_neg (by decide)]
  refine n_end ?_
  rw [List.length_append] at ha
  have q:=ex_cat (acc:=acc) rfl e1 e2 (by omega)
  rw [List.append_assoc] at q
  exact q
 | @fewer d v ws R hR h ih =>
  intro hd N hN
  obtain ⟨n,rfl⟩:∃ n,N = n + 2:=⟨N - 2,by omega⟩
  rw [call_def (d:=d_law_words) rfl rfl]
  have hb:ws.length <= 2660:=Nat.le_trans (pap_len h) (Bd_mono (e:=3) (by omega))
  have hbr:=wR_len hR
  refine lw_begin _ "fewer" _ (lw_no1 _ "fewer" _ _ _ (by decide) (lw_no2 _ "fewer" _ _ _ (by decide) (ite_go ((ev_or2 (ev_is ..) (ev_is ..)).trans rfl) (ρ':=[some (.val (.tup [.str "fewer",ofR R,v])),some (.val (.str "fewer")),some (.own ((Str.ofString "fewer" :: (wR R ++ ws)).map .str)),none]) (n_end ?_) (lw_no4 _ "fewer" _ _ _ (by decide)))))
  refine ex_cat (acc:=[Str.ofString "fewer"]) (a:=wR R) (b:=ws) rfl ?_ ?_ (by simp only [List.length_singleton]; omega)
  ·exact ev_call1 (v:=ofR R) (fun i z => by cases z) (by simp [ev,place]) (e_lrest n R hR)
  ·exact ev_call1 (v:=v) (fun i z => by cases z) (by simp [ev,place]) (ih (by omega) (n + 1) (by omega))
 | @either d v v' ws ws' R S hR hS h h' ih ih' =>
  intro hd N hN
  obtain ⟨n,rfl⟩:∃ n,N = n + 2:=⟨N - 2,by omega⟩
  rw [call_def (d:=d_law_words) rfl rfl]
  have hb:ws.length <= 2660:=Nat.le_trans (pap_len h) (Bd_mono (e:=3) (by omega))
  have hb':ws'.length <= 2660:=Nat.le_trans (pap_len h') (Bd_mono (e:=3) (by omega))
  have hbr:=wR_len hR
  have hbs:=wR_len hS
  refine lw_begin _ "either" _ (lw_no1 _ "either" _ _ _ (by decide) (lw_no2 _ "either" _ _ _ (by decide) (ite_go ((ev_or2 (ev_is ..) (ev_is ..)).trans rfl) (ρ':=[some (.val (.tup [.str "either",ofR R,v,ofR S,v'])),some (.val (.str "either")),some (.own ((Str.ofString "either" :: (wR R ++ ws)).map .str)),none]) (n_end ?_) (ite_go ((ev_is ..).trans rfl) (ρ':=[some (.val (.tup [.str "either",ofR R,v,ofR S,v'])),some (.val (.str "either")),some (.own ((Str.ofString "either" :: (wR R ++ ws ++ (wR S ++ ws'))).map .str)),none]) (n_end ?_) (lw_end _ _ _ _ _)))))
  ·refine ex_cat (acc:=[Str.ofString "either"]) (a:=wR R) (b:=ws) rfl ?_ ?_ (by simp only [List.length_singleton]; omega)
   ·exact ev_call1 (v:=ofR R) (fun i z => by cases z) (by simp [ev,place]) (e_lrest n R hR)
   ·exact ev_call1 (v:=v) (fun i z => by cases z) (by simp [ev,place]) (ih (by omega) (n + 1) (by omega))
  ·have q:=ex_cat (cal:=callN defs (n + 1)) (ρ:=[some (.val (.tup [.str "either",ofR R,v,ofR S,v'])),some (.val (.str "either")),some (.own ((Str.ofString "either" :: (wR R ++ ws)).map .str)),none]) (e:=.call 13 [(.idx (.bor 0) (.cst (.int 3)))]) (e':=.call 15 [(.idx (.bor 0) (.cst (.int 4)))]) (acc:=Str.ofString "either" :: (wR R ++ ws)) (a:=wR S) (b:=ws') rfl
    (ev_call1 (v:=ofR S) (fun i z => by cases z) (by simp [ev,place]) (e_lrest n S hS)) (ev_call1 (v:=v') (fun i z => by cases z) (by simp [ev,place]) (ih' (by omega) (n + 1) (by omega))) (by simp only [List.length_cons,List.length_append]; omega)
   rw [List.append_assoc] at q
   exact q
theorem xc1 {cal:Cal} {f:Nat} {ns ns':List Int} {v:PV} {r:Rho} (h:cal (f + 2000) [.mutD (.p ns)] = some (.tup [v,.dI (.p ns')])):evX cal (.call f [true] [.bor 0]) (some (.mutD (.p ns)) :: r) = some (v,some (.mutD (.p ns')) :: r):=by
 simp [evX,valM,evM,mutOf,h,putM,putD]
theorem xc2 {cal:Cal} {f:Nat} {ns ns':List Int} {v w:PV} {e:ME} {r:Rho} (he:evA cal [e] (some (.mutD (.p ns)) :: r) = some [.val w]) (h:cal (f + 2000) [.mutD (.p ns),.val w] = some (.tup [v,.dI (.p ns')])):evX cal (.call f [true,false] [.bor 0,e]) (some (.mutD (.p ns)) :: r) = some (v,some (.mutD (.p ns')) :: r):=by
 simp [evX,valM,evM,mutOf,he,h,putM,putD]
theorem xc3 {cal:Cal} {f:Nat} {ns ns':List Int} {v w w':PV} {e e':ME} {r:Rho} (he:evA cal [e] (some (.mutD (.p ns)) :: r) = some [.val w]) (he':evA cal [e'] (some (.mutD (.p ns)) :: r) = some [.val w']) (h:cal (f + 2000) [.mutD (.p ns),.val w,.val w'] = some (.tup [v,.dI (.p ns')])):evX cal (.call f [true,false,false] [.bor 0,e,e']) (some (.mutD (.p ns)) :: r) = some (v,some (.mutD (.p ns')) :: r):=by
 simp [evX,valM,evM,mutOf,he,he',h,putM,putD]
theorem r_retM {cal:Cal} {e:ME} {ρ:Rho} {v:PV} {ms:List MS} (h:ev cal e ρ = some v):exs cal (.retM e :: ms) ρ = .retM v ρ:=by
 rw [exs_cons,ex,h]; rfl
theorem r_retX {cal:Cal} {x:XE} {ρ ρ':Rho} {v:PV} {ms:List MS} (h:evX cal x ρ = some (v,ρ')):exs cal (.retXE x :: ms) ρ = .retM v ρ':=by
 rw [exs_cons,ex,h]; rfl
theorem n_no {cal:Cal} {c:ME} {a ms:List MS} {ρ:Rho} {r:R} (h:ev cal c ρ = some (.bl false)) (k:exs cal ms ρ = r):exs cal (.ite c a [] :: ms) ρ = r:=by
 rw [exs_cons,ex_ite h,if_neg (by decide),exs,then_next,k]
theorem n_yes {cal:Cal} {c:ME} {a b ms:List MS} {ρ ρ':Rho} {v:PV} (h:ev cal c ρ = some (.bl true)) (k:exs cal a ρ = .retM v ρ'):exs cal (.ite c a b :: ms) ρ = .retM v ρ':=by
 rw [exs_cons,ex_ite h,if_pos rfl,k]; rfl
theorem n_setX {cal:Cal} {i:Nat} {x:XE} {ρ ρ':Rho} {v:PV} {ms:List MS} {r:R} (h:evX cal x ρ = some (v,ρ')) (k:exs cal ms (put ρ' i (.val v)) = r):exs cal (.setX i x :: ms) ρ = r:=by
 rw [exs_cons,ex,h]; exact k
noncomputable def NextAt (cal:Cal):Prop:=∀ ns,∃ (x:Int) (ns':List Int),0 <= x /\ cal (8 + 2000) [.mutD (.p ns)] = some (.tup [.int x,.dI (.p ns')])
theorem e_next (n:Nat):NextAt (callN defs (n + 2)):=fun ns => by
 rw [call_defM (d:=d_law_next) (by decide) rfl rfl]
 by_cases hn:ns = []
 ·subst hn
  refine ⟨0,[],Int.le_refl _,?_⟩
  have e:exs (callN defs (n + 1)) d_law_next.body [some (.mutD (.p []))] = .retM (.int 0) [some (.mutD (.p []))]:=n_no (by simp [ev,lenPOf]) (r_retM (by simp [ev]))
  show outM _ (exs _ _ [some (.mutD (.p []))]) = _
  rw [e]
  simp [outM,mutsOf]
 ·obtain ⟨l,x,rfl⟩:∃ l x,ns = l ++ [x]:=⟨ns.dropLast,ns.getLast hn,(List.dropLast_concat_getLast hn).symm⟩
  refine ⟨mixed x 2049848353892358983,l,mixed_nonneg _ _,?_⟩
  have em:=e_mixed n x 2049848353892358983
  have e:exs (callN defs (n + 1)) d_law_next.body [some (.mutD (.p (l ++ [x])))] = .retM (.int (mixed x 2049848353892358983)) [some (.mutD (.p l))]:=n_yes (by simp [ev,lenPOf]) (r_retX (by simp [evX,popV,mutOf,putD,evA,ev,em]))
  show outM _ (exs _ _ [some (.mutD (.p (l ++ [x])))]) = _
  rw [e]
  simp [outM,mutsOf]
theorem strip1 (cal:Cal) (a0 a1 a2 a3:Option MV):∀ (xs:List PV) (left:Int) (acc:List Int) (j:Option MV),acc.length + xs.length <= 1000 -> (∀ i ∈ acc,Sm i) ->
  ∃ (left':Int) (acc':List Int) (j':Option MV),forGo (fun x ρ' => exs cal b_law_some_rest_1 (put ρ' 6 (.val x))) xs [a0,a1,a2,a3,some (.val (.int left)),some (.own (acc.map .int)),j] = .next [a0,a1,a2,a3,some (.val (.int left')),some (.own (acc'.map .int)),j'] /\ acc'.length <= acc.length + xs.length /\ ∀ i ∈ acc',Sm i
 | [],left,acc,j,_,hs => ⟨left,acc,j,rfl,Nat.le_refl _,hs⟩
 | x :: xs,left,acc,j,hl,hs => by
  simp only [List.length_cons] at hl
  rw [forGo]
  have sm:Sm (left / 60 % 60):=⟨Int.emod_nonneg _ (by decide),Int.emod_lt_of_pos _ (by decide)⟩
  have e:exs cal b_law_some_rest_1 (put [a0,a1,a2,a3,some (.val (.int left)),some (.own (acc.map .int)),j] 6 (.val x)) =
    .next [a0,a1,a2,a3,some (.val (.int (left / 60))),some (.own ((if left / 60 % 60 ∈ acc then acc else acc ++ [left / 60 % 60]).map .int)),some (.val x)]:=by
   by_cases q:left / 60 % 60 ∈ acc
   ·simp [b_law_some_rest_1,exs,ex,ev,evs,evB,isIn_ints,q]
   ·have hlt:acc.length < 10000:=by omega
    simp [b_law_some_rest_1,exs,ex,ev,evs,evB,isIn_ints,q,hlt]
  rw [e]
  obtain ⟨l',a',j',e2,h2,h3⟩:=strip1 cal a0 a1 a2 a3 xs (left / 60) (if left / 60 % 60 ∈ acc then acc else acc ++ [left / 60 % 60]) (some (.val x)) (by
   split
   ·omega
   ·rw [List.length_append,List.length_singleton]; omega) (by
   split
   ·exact hs
   ·intro i hi
    rcases List.mem_append.mp hi with hi | hi
    ·exact hs i hi
    ·rw [List.mem_singleton.mp hi]; exact sm)
  refine ⟨l',a',j',e2,?_,h3⟩
  rw [List.length_cons]
  split at h2
  ·omega
  ·rw [List.length_append,List.length_singleton] at h2; omega
theorem rng_len {j:Int} (h0:0 <= j) (h1:j < 1000):∃ xs:List PV,srcOf .rng [.int j] = some xs /\ xs.length = j.toNat:=by
 refine ⟨_,src_rng_ok (by omega) (by omega),?_⟩
 simp
theorem strips (cal:Cal) (hx:NextAt cal) (a1:Option MV):∀ (xs:List PV) (ns:List Int) (R:List (List Int)) (a3 a4 a5 a6:Option MV),R.length + xs.length <= 60 -> (∀ t ∈ R,t.length <= 4) -> (∀ t ∈ R,∀ i ∈ t,Sm i) ->
  ∃ (ns':List Int) (R':List (List Int)) (b3 b4 b5 b6:Option MV),forGo (fun x ρ' => exs cal b_law_some_rest_2 (put ρ' 3 (.val x))) xs [some (.mutD (.p ns)),a1,some (.own (R.map ofS)),a3,a4,a5,a6] = .next [some (.mutD (.p ns')),a1,some (.own (R'.map ofS)),b3,b4,b5,b6] /\ R'.length <= R.length + xs.length /\ (∀ t ∈ R',t.length <= 4) /\ ∀ t ∈ R',∀ i ∈ t,Sm i
 | [],ns,R,a3,a4,a5,a6,_,h1,h2 => ⟨ns,R,a3,a4,a5,a6,rfl,Nat.le_refl _,h1,h2⟩
 | x :: xs,ns,R,a3,a4,a5,a6,hl,h1,h2 => by
  simp only [List.length_cons] at hl
  rw [forGo]
  obtain ⟨y,ns1,hy,e1⟩:=hx ns
  obtain ⟨zs,e2,hz⟩:=rng_len (j:=y % 5) (Int.emod_nonneg _ (by decide)) (Int.lt_trans (Int.emod_lt_of_pos _ (by decide)) (by decide))
  have hz4:zs.length <= 4:=by have:=Int.emod_lt_of_pos y (show (0:Int) < 5 by decide); have:=Int.emod_nonneg y (show (5:Int) ≠ 0 by decide); omega
  obtain ⟨l',acc,j',e3,hl3,hs3⟩:=strip1 cal (some (.mutD (.p ns1))) a1 (some (.own (R.map ofS))) (some (.val x)) zs y [] a6 (by simp only [List.length_nil]; omega) (fun i hi => by cases hi)
  simp only [List.length_nil,Nat.zero_add] at hl3
  simp only [List.map_nil] at e3
  have hacc:acc.length < 64:=by omega
  have hR:R.length < 10000:=by omega
  have e:exs cal b_law_some_rest_2 (put [some (.mutD (.p ns)),a1,some (.own (R.map ofS)),a3,a4,a5,a6] 3 (.val x)) = .next [some (.mutD (.p ns1)),a1,some (.own ((R ++ [sortI acc]).map ofS)),some (.val x),some (.val (.int l')),some (.own (acc.map .int)),j']:=by
   simp only [put_zero,put_succ,b_law_some_rest_2]
   refine n_setX (xc1 e1) ?_
   simp only [put_zero,put_succ]
   refine n_next (ex_setOwn (xs:=[]) (by simp [ev,evs])) ?_
   simp only [put_zero,put_succ]
   refine n_next (ρ':=[some (.mutD (.p ns1)),a1,some (.own (R.map ofS)),some (.val x),some (.val (.int l')),some (.own (acc.map .int)),j']) ?_ (n_end ?_)
   ·rw [ex_for1 (xs:=zs) (by rw [evs,show ev cal (.bin .mod (.bor 4) (.cst (.int 5))) [some (.mutD (.p ns1)),a1,some (.own (R.map ofS)),some (.val x),some (.val (.int y)),some (.own []),a6] = some (.int (y % 5)) from by simp [ev]]; simp only [evs,Option.bind_some,Option.map_some]; exact e2)]
    rw [show ∀ ρ,lend [ME.bin .mod (.bor 4) (.cst (.int 5))] ρ = ρ from fun _ => rfl]
    rw [e3]
    rfl
   ·rw [ex,show ev cal (.blt .tupleOf [(.blt .sorted [(.bor 5)])]) [some (.mutD (.p ns1)),a1,some (.own (R.map ofS)),some (.val x),some (.val (.int l')),some (.own (acc.map .int)),j'] = some (ofS (sortI acc)) from by simp [ev,evs,sort_ints hacc,ofL,ofS]]
    simp [hR]
  rw [e]
  obtain ⟨ns',R',b3,b4,b5,b6,e4,h5,h6,h7⟩:=strips cal hx a1 xs ns1 (R ++ [sortI acc]) (some (.val x)) (some (.val (.int l'))) (some (.own (acc.map .int))) j' (by rw [List.length_append,List.length_singleton]; omega) (fun t ht => by
   rcases List.mem_append.mp ht with ht | ht
   ·exact h1 t ht
   ·rw [List.mem_singleton.mp ht,sortI_len]; omega) (fun t ht i hi => by
   rcases List.mem_append.mp ht with ht | ht
   ·exact h2 t ht i hi
   ·rw [List.mem_singleton.mp ht] at hi; exact hs3 i (mem_sortI.mp hi))
  refine ⟨ns',R',b3,b4,b5,b6,e4,?_,h6,h7⟩
  rw [List.length_append,List.length_singleton] at h5
  rw [List.length_cons]
  omega
noncomputable def RestAt (cal:Cal):Prop:=∀ (ns:List Int) (m:Int),0 < m -> m <= 5 -> ∃ R ns',cal (9 + 2000) [.mutD (.p ns),.val (.int m)] = some (.tup [ofR R,.dI (.p ns')]) /\ ROk R
theorem e_some_rest (n:Nat):RestAt (callN defs (n + 3)):=fun ns m hm hm5 => by
 rw [call_defM (d:=d_law_some_rest) (by decide) rfl rfl]
 obtain ⟨y,ns1,hy,e1⟩:=e_next n ns
 have y0:0 <= y % m:=Int.emod_nonneg _ (by omega)
 have y1:y % m < m:=Int.emod_lt_of_pos _ hm
 obtain ⟨zs,e2,hz⟩:=rng_len (j:=y % m) y0 (by omega)
 obtain ⟨ns',R,b3,b4,b5,b6,e3,h1,h2,h3⟩:=strips (callN defs (n + 2)) (e_next n) (some (.val (.int m))) zs ns1 [] none none none none (by simp only [List.length_nil]; omega) (fun t ht => by cases ht) (fun t ht => by cases ht)
 simp only [List.length_nil,Nat.zero_add] at h1
 have hR:R.length <= 4:=by omega
 have h64:R.length < 64:=by omega
 refine ⟨sortT R,ns',?_,⟨by rw [sortT_len]; exact hR,fun t ht => h2 t (mem_sortT.mp ht),fun t ht => h3 t (mem_sortT.mp ht)⟩⟩
 have e:exs (callN defs (n + 2)) d_law_some_rest.body [some (.mutD (.p ns)),some (.val (.int m)),none,none,none,none,none] = .retM (ofR (sortT R)) [some (.mutD (.p ns')),some (.val (.int m)),some (.own (R.map ofS)),b3,b4,b5,b6]:=by
  refine n_next (ex_setOwn (xs:=[]) (by simp [ev,evs])) ?_
  simp only [put_zero,put_succ]
  refine n_next (ρ':=[some (.mutD (.p ns')),some (.val (.int m)),some (.own (R.map ofS)),b3,b4,b5,b6]) ?_ (r_retM ?_)
  ·have ex1:evX (callN defs (n + 2)) (.bin .mod (.call 8 [true] [(.bor 0)]) (.bor 1)) [some (.mutD (.p ns)),some (.val (.int m)),some (.own []),none,none,none,none] = some (.int (y % m),[some (.mutD (.p ns1)),some (.val (.int m)),some (.own []),none,none,none,none]):=by
    rw [evX,xc1 e1]
    simp [ev,hm]
   rw [ex,ex1]
   dsimp only
   rw [e2]
   exact e3
  ·simp [ev,evs,sort_tups h64,ofR]
 show outM _ (exs _ _ [some (.mutD (.p ns)),some (.val (.int m)),none,none,none,none,none]) = _
 rw [e]
 simp [outM,mutsOf]
noncomputable def ReplyAt (cal:Cal):Prop:=∀ x:Int,∃ r,cal 10 [.val (.int x)] = some (vP r) /\ ∀ i,r = some i -> Sm i
theorem e_reply (n:Nat):ReplyAt (callN defs (n + 1)):=fun x => by
 rw [call_def (d:=d_law_some_reply) rfl rfl]
 by_cases h:x % 4 = 0
 ·exact ⟨none,by simp [d_law_some_reply,exs,ex,ev,evs,evB,h,vP],fun i e => by cases e⟩
 ·refine ⟨some (x / 4 % 60),by simp [d_law_some_reply,exs,ex,ev,evs,evB,h,vP],fun i e => ?_⟩
  cases e
  exact ⟨Int.emod_nonneg _ (by decide),Int.emod_lt_of_pos _ (by decide)⟩
noncomputable def GenAt (cal:Cal) (d:Nat):Prop:=∀ ns,∃ v ws ns',cal (12 + 2000) [.mutD (.p ns),.val (.int d)] = some (.tup [v,.dI (.p ns')]) /\ Pap d v ws
noncomputable def RowsAt (cal:Cal) (d:Nat):Prop:=∀ ns (pick:Int),∃ v ws ns',cal (11 + 2000) [.mutD (.p ns),.val (.int pick),.val (.int d)] = some (.tup [v,.dI (.p ns')]) /\ Pap (d + 1) v ws
theorem ev_fn {cal:Cal} {g:Nat} {x:XE} {ρ ρ':Rho} {v w:PV} (h:evX cal x ρ = some (v,ρ')) (h':cal g [.val v] = some w):evX cal (.fn g x []) ρ = some (w,ρ'):=by
 rw [evX,h,Option.bind_some]
 simp [evA,h']
theorem ev_xmod {cal:Cal} {x:XE} {ρ ρ':Rho} {y m:Int} (h:evX cal x ρ = some (.int y,ρ')) (hm:0 < m):evX cal (.bin .mod x (.cst (.int m))) ρ = some (.int (y % m),ρ'):=by
 rw [evX,h,Option.bind_some]
 simp [ev,hm]
theorem xs_pure {cal:Cal} {e:ME} {xs:List XE} {ρ ρ':Rho} {v:PV} {vs:List PV} (h:ev cal e ρ = some v) (k:evXs cal xs ρ = some (vs,ρ')):evXs cal (.pure e :: xs) ρ = some (v :: vs,ρ'):=by
 rw [evXs,evX,h,Option.map_some,Option.bind_some,k]; rfl
theorem xs_last {cal:Cal} {x:XE} {ρ ρ':Rho} {v:PV} (h:evX cal x ρ = some (v,ρ')):evXs cal [x] ρ = some ([v],ρ'):=by
 rw [evXs,h,Option.bind_some,evXs]; rfl
theorem x_tupl {cal:Cal} {xs:List XE} {ρ ρ':Rho} {vs:List PV} (h:evXs cal xs ρ = some (vs,ρ')) (hl:vs.length <= 10000:=by simp):evX cal (.tup xs) ρ = some (.tup vs,ρ'):=by
 rw [evX,h,Option.bind_some,if_pos hl]
theorem sm60 (x:Int):Sm (x % 60):=⟨Int.emod_nonneg _ (by decide),Int.emod_lt_of_pos _ (by decide)⟩
theorem rows_cases (cal:Cal) (hx:NextAt cal) (hy:ReplyAt cal) {d:Nat} (hg:GenAt cal d) (pick:Int) (hp:pick % 2 = 0):∀ (xs:List PV) (ns:List Int) (rows:List (Int × Option Int × PV × List Str)) (a4 a5 a6:Option MV),rows.length + xs.length <= 60 -> (∀ r ∈ rows,Sm r.1) -> (∀ r ∈ rows,∀ i,r.2.1 = some i -> Sm i) -> (∀ r ∈ rows,Pap d r.2.2.1 r.2.2.2) ->
  ∃ (ns':List Int) (rows':List (Int × Option Int × PV × List Str)) (b4 b5 b6:Option MV),forGo (fun x ρ' => exs cal b_law_some_rows_1 (put ρ' 4 (.val x))) xs [some (.mutD (.p ns)),some (.val (.int pick)),some (.val (.int d)),some (.own (rows.map fun r => .tup [.int r.1,vP r.2.1,r.2.2.1])),a4,a5,a6] = .next [some (.mutD (.p ns')),some (.val (.int pick)),some (.val (.int d)),some (.own (rows'.map fun r => .tup [.int r.1,vP r.2.1,r.2.2.1])),b4,b5,b6] /\ rows'.length <= rows.length + xs.length /\ (∀ r ∈ rows',Sm r.1) /\ (∀ r ∈ rows',∀ i,r.2.1 = some i -> Sm i) /\ ∀ r ∈ rows',Pap d r.2.2.1 r.2.2.2
 | [],ns,rows,a4,a5,a6,_,h1,h2,h3 => ⟨ns,rows,a4,a5,a6,rfl,Nat.le_refl _,h1,h2,h3⟩
 | x :: xs,ns,rows,a4,a5,a6,hl,h1,h2,h3 => by
  simp only [List.length_cons] at hl
  rw [forGo]
  obtain ⟨y1,n1,_,e1⟩:=hx ns
  obtain ⟨y2,n2,_,e2⟩:=hx n1
  obtain ⟨r,e3,hr⟩:=hy y2
  obtain ⟨v,ws,n3,e4,hv⟩:=hg n2
  have hlt:rows.length < 10000:=by omega
  have e:exs cal b_law_some_rows_1 (put [some (.mutD (.p ns)),some (.val (.int pick)),some (.val (.int d)),some (.own (rows.map fun r => .tup [.int r.1,vP r.2.1,r.2.2.1])),a4,a5,a6] 4 (.val x)) = .next [some (.mutD (.p n3)),some (.val (.int pick)),some (.val (.int d)),some (.own ((rows ++ [(y1 % 60,r,v,ws)]).map fun r => .tup [.int r.1,vP r.2.1,r.2.2.1])),some (.val x),some (.val (.tup [.int (y1 % 60),vP r])),a6]:=by
   simp only [put_zero,put_succ,b_law_some_rows_1]
   refine n_end ?_
   rw [ex_ite (p:=true) (by simp [ev,hp]),if_pos rfl]
   refine n_setX (v:=.tup [.int (y1 % 60),vP r]) (ρ':=[some (.mutD (.p n2)),some (.val (.int pick)),some (.val (.int d)),some (.own (rows.map fun r => .tup [.int r.1,vP r.2.1,r.2.2.1])),some (.val x),a5,a6]) ?_ ?_
   ·rw [evX,evXs,ev_xmod (xc1 e1) (by decide),Option.bind_some,evXs,ev_fn (xc1 e2) e3]
    simp [evXs]
   ·simp only [put_zero,put_succ]
    refine n_end ?_
    have q:evX cal (.tup [(.pure (.idx (.bor 5) (.cst (.int 0)))),(.pure (.idx (.bor 5) (.cst (.int 1)))),(.call 12 [true,false] [(.bor 0),(.bor 2)])]) [some (.mutD (.p n2)),some (.val (.int pick)),some (.val (.int d)),some (.own (rows.map fun r => .tup [.int r.1,vP r.2.1,r.2.2.1])),some (.val x),some (.val (.tup [.int (y1 % 60),vP r])),a6] = some (.tup [.int (y1 % 60),vP r,v],[some (.mutD (.p n3)),some (.val (.int pick)),some (.val (.int d)),some (.own (rows.map fun r => .tup [.int r.1,vP r.2.1,r.2.2.1])),some (.val x),some (.val (.tup [.int (y1 % 60),vP r])),a6]):=by
     exact x_tupl (xs_pure (by simp [ev,place]) (xs_pure (by simp [ev,place]) (xs_last (xc2 (w:=.int d) (by simp [evA]) e4))))
    rw [ex]
    simp only [List.getElem?_cons_zero,List.getElem?_cons_succ,Option.join]
    simp only [Option.bind,id,q]
    simp [hlt]
  rw [e]
  have mem:∀ (P:(Int × Option Int × PV × List Str) -> Prop),(∀ r ∈ rows,P r) -> P (y1 % 60,r,v,ws) -> ∀ q ∈ rows ++ [(y1 % 60,r,v,ws)],P q:=fun P hP h q hq => by
   rcases List.mem_append.mp hq with hq | hq
   ·exact hP q hq
   ·rw [List.mem_singleton.mp hq]; exact h
  obtain ⟨ns',rows',b4,b5,b6,f1,f2,f3⟩:=rows_cases cal hx hy hg pick hp xs n3 (rows ++ [(y1 % 60,r,v,ws)]) (some (.val x)) (some (.val (.tup [.int (y1 % 60),vP r]))) a6 (by rw [List.length_append,List.length_singleton]; omega) (mem _ h1 (sm60 _)) (mem _ h2 hr) (mem _ h3 hv)
  refine ⟨ns',rows',b4,b5,b6,f1,?_,f3⟩
  rw [List.length_append,List.length_singleton] at f2
  rw [List.length_cons]
  omega
theorem rows_parts (cal:Cal) (hx:RestAt cal) {d:Nat} (hg:GenAt cal d) (pick:Int) (hp:¬ pick % 2 = 0):∀ (xs:List PV) (ns:List Int) (rows:List (List (List Int) × PV × List Str)) (a4 a5 a6:Option MV),rows.length + xs.length <= 60 -> (∀ r ∈ rows,ROk r.1) -> (∀ r ∈ rows,Pap d r.2.1 r.2.2) ->
  ∃ (ns':List Int) (rows':List (List (List Int) × PV × List Str)) (b4 b5 b6:Option MV),forGo (fun x ρ' => exs cal b_law_some_rows_1 (put ρ' 4 (.val x))) xs [some (.mutD (.p ns)),some (.val (.int pick)),some (.val (.int d)),some (.own (rows.map fun r => .tup [ofR r.1,r.2.1])),a4,a5,a6] = .next [some (.mutD (.p ns')),some (.val (.int pick)),some (.val (.int d)),some (.own (rows'.map fun r => .tup [ofR r.1,r.2.1])),b4,b5,b6] /\ rows'.length <= rows.length + xs.length /\ (∀ r ∈ rows',ROk r.1) /\ ∀ r ∈ rows',Pap d r.2.1 r.2.2
 | [],ns,rows,a4,a5,a6,_,h1,h3 => ⟨ns,rows,a4,a5,a6,rfl,Nat.le_refl _,h1,h3⟩
 | x :: xs,ns,rows,a4,a5,a6,hl,h1,h3 => by
  simp only [List.length_cons] at hl
  rw [forGo]
  obtain ⟨R,n1,e1,hR⟩:=hx ns 4 (by decide) (by decide)
  obtain ⟨v,ws,n3,e4,hv⟩:=hg n1
  have hlt:rows.length < 10000:=by omega
  have e:exs cal b_law_some_rows_1 (put [some (.mutD (.p ns)),some (.val (.int pick)),some (.val (.int d)),some (.own (rows.map fun r => .tup [ofR r.1,r.2.1])),a4,a5,a6] 4 (.val x)) = .next [some (.mutD (.p n3)),some (.val (.int pick)),some (.val (.int d)),some (.own ((rows ++ [(R,v,ws)]).map fun r => .tup [ofR r.1,r.2.1])),some (.val x),a5,some (.val (ofR R))]:=by
   simp only [put_zero,put_succ,b_law_some_rows_1]
   refine n_end ?_
   rw [ex_ite (p:=false) (by simp [ev,hp]),if_neg (by decide)]
   refine n_setX (xc2 (w:=.int 4) (by simp [evA,ev]) e1) ?_
   simp only [put_zero,put_succ]
   refine n_end ?_
   have q:evX cal (.tup [(.pure (.var 6)),(.call 12 [true,false] [(.bor 0),(.bor 2)])]) [some (.mutD (.p n1)),some (.val (.int pick)),some (.val (.int d)),some (.own (rows.map fun r => .tup [ofR r.1,r.2.1])),some (.val x),a5,some (.val (ofR R))] = some (.tup [ofR R,v],[some (.mutD (.p n3)),some (.val (.int pick)),some (.val (.int d)),some (.own (rows.map fun r => .tup [ofR r.1,r.2.1])),some (.val x),a5,some (.val (ofR R))]):=by
    exact x_tupl (xs_pure (by simp [ev]) (xs_last (xc2 (w:=.int d) (by simp [evA]) e4)))
   rw [ex]
   simp only [List.getElem?_cons_zero,List.getElem?_cons_succ,Option.join]
   simp only [Option.bind,id,q]
   simp [hlt]
  rw [e]
  have mem:∀ (P:(List (List Int) × PV × List Str) -> Prop),(∀ r ∈ rows,P r) -> P (R,v,ws) -> ∀ q ∈ rows ++ [(R,v,ws)],P q:=fun P hP h q hq => by
   rcases List.mem_append.mp hq with hq | hq
   ·exact hP q hq
   ·rw [List.mem_singleton.mp hq]; exact h
  obtain ⟨ns',rows',b4,b5,b6,f1,f2,f3⟩:=rows_parts cal hx hg pick hp xs n3 (rows ++ [(R,v,ws)]) (some (.val x)) a5 (some (.val (ofR R))) (by rw [List.length_append,List.length_singleton]; omega) (mem _ h1 hR) (mem _ h3 hv)
  refine ⟨ns',rows',b4,b5,b6,f1,?_,f3⟩
  rw [List.length_append,List.length_singleton] at f2
  rw [List.length_cons]
  omega
theorem e_rows (n:Nat) {d:Nat} (hx:NextAt (callN defs n)) (hr:RestAt (callN defs n)) (hy:ReplyAt (callN defs n)) (hg:GenAt (callN defs n) d):RowsAt (callN defs (n + 1)) d:=fun ns pick => by
 rw [call_defM (d:=d_law_some_rows) (by decide) rfl rfl]
 have y0:0 <= pick / 2 % 4:=Int.emod_nonneg _ (by decide)
 have y1:pick / 2 % 4 < 4:=Int.emod_lt_of_pos _ (by decide)
 obtain ⟨zs,e2,hz⟩:=rng_len (j:=pick / 2 % 4) y0 (by omega)
 have hz3:zs.length <= 3:=by omega
 have lp:∀ (f:List PV) (ρ:Rho) (ns':List Int) (vs:List PV) (b4 b5 b6:Option MV),forGo (fun x ρ' => exs (callN defs n) b_law_some_rows_1 (put ρ' 4 (.val x))) zs [some (.mutD (.p ns)),some (.val (.int pick)),some (.val (.int d)),some (.own []),none,none,none] = .next [some (.mutD (.p ns')),some (.val (.int pick)),some (.val (.int d)),some (.own vs),b4,b5,b6] ->
   ex (callN defs n) (.for1 4 .rng [(.bin .mod (.bin .fdiv (.bor 1) (.cst (.int 2))) (.cst (.int 4)))] b_law_some_rows_1) [some (.mutD (.p ns)),some (.val (.int pick)),some (.val (.int d)),some (.own []),none,none,none] = .next [some (.mutD (.p ns')),some (.val (.int pick)),some (.val (.int d)),some (.own vs),b4,b5,b6]:=fun f ρ ns' vs b4 b5 b6 h => by
  rw [ex_for1 (xs:=zs) (by rw [evs,show ev (callN defs n) (.bin .mod (.bin .fdiv (.bor 1) (.cst (.int 2))) (.cst (.int 4))) [some (.mutD (.p ns)),some (.val (.int pick)),some (.val (.int d)),some (.own []),none,none,none] = some (.int (pick / 2 % 4)) from by simp [ev]]; simp only [evs,Option.bind_some,Option.map_some]; exact e2)]
  rw [show ∀ ρ,lend [ME.bin .mod (.bin .fdiv (.bor 1) (.cst (.int 2))) (.cst (.int 4))] ρ = ρ from fun _ => rfl,h]
  rfl
 have fin:∀ (k:String) (ns':List Int) (vs:List PV) (b4 b5 b6:Option MV),(["cases","parts"][(pick % 2).toNat]? = some k) -> forGo (fun x ρ' => exs (callN defs n) b_law_some_rows_1 (put ρ' 4 (.val x))) zs [some (.mutD (.p ns)),some (.val (.int pick)),some (.val (.int d)),some (.own []),none,none,none] = .next [some (.mutD (.p ns')),some (.val (.int pick)),some (.val (.int d)),some (.own vs),b4,b5,b6] ->
   outM [.mutD (.p ns),.val (.int pick),.val (.int d)] (exs (callN defs n) d_law_some_rows.body [some (.mutD (.p ns)),some (.val (.int pick)),some (.val (.int d)),none,none,none,none]) = some (.tup [.tup [.str k,.tup vs],.dI (.p ns')]):=fun k ns' vs b4 b5 b6 hk h => by
  have e:exs (callN defs n) d_law_some_rows.body [some (.mutD (.p ns)),some (.val (.int pick)),some (.val (.int d)),none,none,none,none] = .retM (.tup [.str k,.tup vs]) [some (.mutD (.p ns')),some (.val (.int pick)),some (.val (.int d)),some (.own vs),b4,b5,b6]:=by
   refine n_next (ex_setOwn (xs:=[]) (by simp [ev,evs])) ?_
   simp only [put_zero,put_succ]
   refine n_next (lp [] [] ns' vs b4 b5 b6 h) (r_retM ?_)
   have p0:0 <= pick % 2:=Int.emod_nonneg _ (by decide)
   have p1:pick % 2 < 2:=Int.emod_lt_of_pos _ (by decide)
   rcases (show pick % 2 = 0 \/ pick % 2 = 1 by omega) with q | q <;> rw [q] at hk <;> cases hk <;> simp [ev,evs,q,place]
  rw [e]
  simp [outM,mutsOf]
 by_cases hp:pick % 2 = 0
 ·obtain ⟨ns',rows,b4,b5,b6,f1,f2,f3,f4,f5⟩:=rows_cases (callN defs n) hx hy hg pick hp zs ns [] none none none (by simp only [List.length_nil]; omega) (fun r h => by cases h) (fun r h => by cases h) (fun r h => by cases h)
  refine ⟨_,_,ns',fin "cases" ns' _ b4 b5 b6 (by rw [hp]; rfl) f1,.cases rows (by simp only [List.length_nil] at f2; omega) f3 f4 f5⟩
 ·obtain ⟨ns',rows,b4,b5,b6,f1,f2,f3,f4⟩:=rows_parts (callN defs n) hr hg pick hp zs ns [] none none none (by simp only [List.length_nil]; omega) (fun r h => by cases h) (fun r h => by cases h)
  refine ⟨_,_,ns',fin "parts" ns' _ b4 b5 b6 (by rw [show pick % 2 = 1 by omega]; rfl) f1,.parts rows (by simp only [List.length_nil] at f2; omega) f3 f4⟩
theorem pairs_loop (cal:Cal) (hx:NextAt cal) (a1 a2 a3 a6 a7 a8:Option MV):∀ (xs:List PV) (ns:List Int) (ps:List (Int × Int)) (a5:Option MV),ps.length + xs.length <= 60 -> (∀ p ∈ ps,Sm p.1) -> (∀ p ∈ ps,Sm p.2) ->
  ∃ (ns':List Int) (ps':List (Int × Int)) (b5:Option MV),forGo (fun x ρ' => exs cal b_law_any_1 (put ρ' 5 (.val x))) xs [some (.mutD (.p ns)),a1,a2,a3,some (.own (ps.map fun p => .tup [.int p.1,.int p.2])),a5,a6,a7,a8] = .next [some (.mutD (.p ns')),a1,a2,a3,some (.own (ps'.map fun p => .tup [.int p.1,.int p.2])),b5,a6,a7,a8] /\ ps'.length <= ps.length + xs.length /\ (∀ p ∈ ps',Sm p.1) /\ ∀ p ∈ ps',Sm p.2
 | [],ns,ps,a5,_,h1,h2 => ⟨ns,ps,a5,rfl,Nat.le_refl _,h1,h2⟩
 | x :: xs,ns,ps,a5,hl,h1,h2 => by
  simp only [List.length_cons] at hl
  rw [forGo]
  obtain ⟨y1,n1,_,e1⟩:=hx ns
  obtain ⟨y2,n2,_,e2⟩:=hx n1
  have hlt:ps.length < 10000:=by omega
  have e:exs cal b_law_any_1 (put [some (.mutD (.p ns)),a1,a2,a3,some (.own (ps.map fun p => .tup [.int p.1,.int p.2])),a5,a6,a7,a8] 5 (.val x)) = .next [some (.mutD (.p n2)),a1,a2,a3,some (.own ((ps ++ [(y1 % 60,y2 % 60)]).map fun p => .tup [.int p.1,.int p.2])),some (.val x),a6,a7,a8]:=by
   simp only [put_zero,put_succ,b_law_any_1]
   refine n_end ?_
   have q:evX cal (.tup [(.bin .mod (.call 8 [true] [(.bor 0)]) (.cst (.int 60))),(.bin .mod (.call 8 [true] [(.bor 0)]) (.cst (.int 60)))]) [some (.mutD (.p ns)),a1,a2,a3,some (.own (ps.map fun p => .tup [.int p.1,.int p.2])),some (.val x),a6,a7,a8] = some (.tup [.int (y1 % 60),.int (y2 % 60)],[some (.mutD (.p n2)),a1,a2,a3,some (.own (ps.map fun p => .tup [.int p.1,.int p.2])),some (.val x),a6,a7,a8]):=by
    refine x_tupl ?_
    rw [evXs,ev_xmod (xc1 e1) (by decide),Option.bind_some,xs_last (ev_xmod (xc1 e2) (by decide))]
    rfl
   rw [ex]
   simp only [List.getElem?_cons_zero,List.getElem?_cons_succ,Option.join]
   simp only [Option.bind,id,q]
   simp [hlt]
  rw [e]
  have mem:∀ (P:(Int × Int) -> Prop),(∀ r ∈ ps,P r) -> P (y1 % 60,y2 % 60) -> ∀ q ∈ ps ++ [(y1 % 60,y2 % 60)],P q:=fun P hP h q hq => by
   rcases List.mem_append.mp hq with hq | hq
   ·exact hP q hq
   ·rw [List.mem_singleton.mp hq]; exact h
  obtain ⟨ns',ps',b5,f1,f2,f3⟩:=pairs_loop cal hx a1 a2 a3 a6 a7 a8 xs n2 (ps ++ [(y1 % 60,y2 % 60)]) (some (.val x)) (by rw [List.length_append,List.length_singleton]; omega) (mem _ h1 (sm60 _)) (mem _ h2 (sm60 _))
  refine ⟨ns',ps',b5,f1,?_,f3⟩
  rw [List.length_append,List.length_singleton] at f2
  rw [List.length_cons]
  omega
theorem e_any0 (n:Nat) (d:Nat) (hx:NextAt (callN defs n)) (hr:RestAt (callN defs n)) (hy:ReplyAt (callN defs n)) (hs:∀ e,d = e + 1 -> GenAt (callN defs n) e /\ RowsAt (callN defs n) e):GenAt (callN defs (n + 1)) d:=fun ns => by
 rw [call_defM (d:=d_law_any) (by decide) rfl rfl]
 obtain ⟨pick,n1,hp,e1⟩:=hx ns
 obtain ⟨kind,hk,hk9,hk4⟩:∃ kind:Int,kind = (if d = 0 then pick % 4 else pick % 9) /\ (0 <= kind /\ kind < 9) /\ (d = 0 -> kind < 4):=by
  refine ⟨_,rfl,?_,?_⟩
  ·split
   ·have:=Int.emod_lt_of_pos pick (show (0:Int) < 4 by decide); have:=Int.emod_nonneg pick (show (4:Int) ≠ 0 by decide); omega
   ·have:=Int.emod_lt_of_pos pick (show (0:Int) < 9 by decide); have:=Int.emod_nonneg pick (show (9:Int) ≠ 0 by decide); omega
  ·intro h
   rw [if_pos h]
   exact Int.emod_lt_of_pos pick (by decide)
 have beg:∀ {r:R},exs (callN defs n) (d_law_any.body.drop 3) [some (.mutD (.p n1)),some (.val (.int d)),some (.val (.int pick)),some (.val (.int kind)),none,none,none,none,none] = r -> exs (callN defs n) d_law_any.body [some (.mutD (.p ns)),some (.val (.int d)),none,none,none,none,none,none,none] = r:=fun {r} h => by
  refine n_setX (xc1 e1) ?_
  simp only [put_zero,put_succ]
  refine n_set (v:=.int (pick % 9)) (by simp [ev]) ?_
  simp only [put_zero,put_succ]
  refine n_next (ρ':=[some (.mutD (.p n1)),some (.val (.int d)),some (.val (.int pick)),some (.val (.int kind)),none,none,none,none,none]) ?_ h
  by_cases hd:d = 0
  ·subst hd
   rw [ex_ite (p:=true) (by simp [ev]),if_pos rfl]
   refine n_end ?_
   rw [ex_set (v:=.int (pick % 4)) (by simp [ev])]
   simp [hk]
  ·rw [ex_ite (p:=false) (by simp [ev]; omega),if_neg (by decide)]
   rw [hk,if_neg hd]
   rfl
 have fin:∀ (v:PV) (ws:List Str) (ns':List Int) (a1 a2 a3 a4 a5 a6 a7 a8:Option MV),exs (callN defs n) (d_law_any.body.drop 3) [some (.mutD (.p n1)),some (.val (.int d)),some (.val (.int pick)),some (.val (.int kind)),none,none,none,none,none] = .retM v [some (.mutD (.p ns')),a1,a2,a3,a4,a5,a6,a7,a8] -> Pap d v ws -> ∃ v ws ns',outM [.mutD (.p ns),.val (.int d)] (exs (callN defs n) d_law_any.body [some (.mutD (.p ns)),some (.val (.int d)),none,none,none,none,none,none,none]) = some (.tup [v,.dI (.p ns')]) /\ Pap d v ws:=fun v ws ns' a1 a2 a3 a4 a5 a6 a7 a8 h hv => by
  refine ⟨v,ws,ns',?_,hv⟩
  rw [beg h]
  simp [outM,mutsOf]
 show ∃ v ws ns',outM [.mutD (.p ns),.val (.int d)] (exs (callN defs n) d_law_any.body [some (.mutD (.p ns)),some (.val (.int d)),none,none,none,none,none,none,none]) = some (.tup [v,.dI (.p ns')]) /\ Pap d v ws
 by_cases h3:kind < 3
 ·rcases (show kind = 0 \/ kind = 1 \/ kind = 2 by omega) with q | q | q
  ·exact fin _ _ _ _ _ _ _ _ _ _ _ (n_yes (by simp [ev,q]) (r_retM (v:=.tup [.str "bare"]) (by simp [ev,evs,q,place]))) (.leaf _ (.inl rfl))
  ·exact fin _ _ _ _ _ _ _ _ _ _ _ (n_yes (by simp [ev,q]) (r_retM (v:=.tup [.str "whole"]) (by simp [ev,evs,q,place]))) (.leaf _ (.inr (.inl rfl)))
  ·exact fin _ _ _ _ _ _ _ _ _ _ _ (n_yes (by simp [ev,q]) (r_retM (v:=.tup [.str "weight"]) (by simp [ev,evs,q,place]))) (.leaf _ (.inr (.inr rfl)))
 by_cases q3:kind = 3
 ·have y0:0 <= pick / 9 % 4:=Int.emod_nonneg _ (by decide)
  have y1:pick / 9 % 4 < 4:=Int.emod_lt_of_pos _ (by decide)
  obtain ⟨zs,e2,hz⟩:=rng_len (j:=pick / 9 % 4) y0 (by omega)
  have hz3:zs.length <= 3:=by omega
  obtain ⟨ns',ps,b5,f1,f2,f3,f4⟩:=pairs_loop (callN defs n) hx (some (.val (.int d))) (some (.val (.int pick))) (some (.val (.int kind))) none none none zs n1 [] none (by simp only [List.length_nil]; omega) (fun r h => by cases h) (fun r h => by cases h)
  simp only [List.length_nil,Nat.zero_add,List.map_nil] at f1 f2
  refine fin _ _ ns' (some (.val (.int d))) (some (.val (.int pick))) (some (.val (.int kind))) (some (.own (ps.map fun p => .tup [.int p.1,.int p.2]))) b5 none none none (n_no (by simp [ev,q3]) (n_yes (by simp [ev,q3]) (n_next (ex_setOwn (xs:=[]) (by simp [ev,evs])) ?_))) (.pairs ps (by omega) f3 f4)
  simp only [put_zero,put_succ]
  refine n_next (ρ':=[some (.mutD (.p ns')),some (.val (.int d)),some (.val (.int pick)),some (.val (.int kind)),some (.own (ps.map fun p => .tup [.int p.1,.int p.2])),b5,none,none,none]) ?_ (r_retM (by simp [ev,evs,ofL]))
  rw [ex_for1 (xs:=zs) (by rw [evs,show ev (callN defs n) (.bin .mod (.bin .fdiv (.bor 2) (.cst (.int 9))) (.cst (.int 4))) [some (.mutD (.p n1)),some (.val (.int d)),some (.val (.int pick)),some (.val (.int kind)),some (.own []),none,none,none,none] = some (.int (pick / 9 % 4)) from by simp [ev]]; simp only [evs,Option.bind_some,Option.map_some]; exact e2)]
  rw [show ∀ ρ,lend [ME.bin .mod (.bin .fdiv (.bor 2) (.cst (.int 9))) (.cst (.int 4))] ρ = ρ from fun _ => rfl,f1]
  rfl
 obtain ⟨e,rfl⟩:∃ e,d = e + 1:=by
  refine ⟨d - 1,?_⟩
  have:d ≠ 0:=fun h => by have:=hk4 h; omega
  omega
 obtain ⟨hg,hw⟩:=hs e rfl
 have hd1:((e + 1:Nat):Int) - 1 = (e:Int):=by omega
 have nn:∀ {r:R},exs (callN defs n) (d_law_any.body.drop 5) [some (.mutD (.p n1)),some (.val (.int (e + 1:Nat))),some (.val (.int pick)),some (.val (.int kind)),none,none,none,none,none] = r -> exs (callN defs n) (d_law_any.body.drop 3) [some (.mutD (.p n1)),some (.val (.int (e + 1:Nat))),some (.val (.int pick)),some (.val (.int kind)),none,none,none,none,none] = r:=fun {r} h => n_no (by simp [ev]; omega) (n_no (by simp [ev]; omega) h)
 by_cases q4:kind = 4 \/ kind = 5
 ·obtain ⟨v,ws,n2,e4,hv⟩:=hg n1
  obtain ⟨r,e5,hr⟩:=hy (pick / 9)
  have go:∀ k:String,kind = 4 /\ k = "bite" \/ kind = 5 /\ k = "knot" -> ev (callN defs n) (.idx (.lst [(.cst (.str "bite")),(.cst (.str "knot"))]) (.bin .sub (.bor 3) (.cst (.int 4)))) [some (.mutD (.p n1)),some (.val (.int (e + 1:Nat))),some (.val (.int pick)),some (.val (.int kind)),none,none,none,none,none] = some (.str k):=fun k h => by
   rcases h with ⟨a,rfl⟩ | ⟨a,rfl⟩ <;> simp [ev,evs,a,place]
  have all:∀ k:String,kind = 4 /\ k = "bite" \/ kind = 5 /\ k = "knot" -> _:=fun k h =>
   fin _ _ n2 _ _ _ _ _ _ _ _ (nn (n_yes (by rcases q4 with q | q <;> simp [ev,q]) (r_retX (x_tupl (xs_pure (go k h) (xs_pure (v:=vP r) (by simp [ev,evA,e5]) (xs_last (xc2 (w:=.int e) (by simp [evA,ev,hd1]) e4)))))))) (.one (Str.ofString k) (by rcases h with ⟨_,rfl⟩ | ⟨_,rfl⟩; exact .inl rfl; exact .inr rfl) r hr hv)
  rcases q4 with q | q
  ·exact all "bite" (.inl ⟨q,rfl⟩)
  ·exact all "knot" (.inr ⟨q,rfl⟩)
 have nn2:∀ {r:R},exs (callN defs n) (d_law_any.body.drop 6) [some (.mutD (.p n1)),some (.val (.int (e + 1:Nat))),some (.val (.int pick)),some (.val (.int kind)),none,none,none,none,none] = r -> exs (callN defs n) (d_law_any.body.drop 3) [some (.mutD (.p n1)),some (.val (.int (e + 1:Nat))),some (.val (.int pick)),some (.val (.int kind)),none,none,none,none,none] = r:=fun {r} h => nn (n_no (by simp [ev,show kind ≠ 4 by omega,show kind ≠ 5 by omega]) h)
 by_cases q8:kind = 8
 ·obtain ⟨v,ws,n2,e4,hv⟩:=hw n1 (pick / 9)
  exact fin _ _ n2 _ _ _ _ _ _ _ _ (nn2 (n_yes (by simp [ev,q8]) (r_retX (xc3 (w:=.int (pick / 9)) (w':=.int e) (by simp [evA,ev]) (by simp [evA,ev,hd1]) e4)))) hv
 have nn3:∀ {r:R},exs (callN defs n) (d_law_any.body.drop 7) [some (.mutD (.p n1)),some (.val (.int (e + 1:Nat))),some (.val (.int pick)),some (.val (.int kind)),none,none,none,none,none] = r -> exs (callN defs n) (d_law_any.body.drop 3) [some (.mutD (.p n1)),some (.val (.int (e + 1:Nat))),some (.val (.int pick)),some (.val (.int kind)),none,none,none,none,none] = r:=fun {r} h => nn2 (n_no (by simp [ev]; omega) h)
 obtain ⟨Q,n2,e4,hR⟩:=hr n1 5 (by decide) (by decide)
 obtain ⟨v,ws,n3,e5,hv⟩:=hg n2
 have sx:∀ {r:R},exs (callN defs n) (d_law_any.body.drop 9) [some (.mutD (.p n3)),some (.val (.int (e + 1:Nat))),some (.val (.int pick)),some (.val (.int kind)),none,none,some (.val (ofR Q)),some (.val v),none] = r -> exs (callN defs n) (d_law_any.body.drop 3) [some (.mutD (.p n1)),some (.val (.int (e + 1:Nat))),some (.val (.int pick)),some (.val (.int kind)),none,none,none,none,none] = r:=fun {r} h => by
  refine nn3 (n_setX (xc2 (w:=.int 5) (by simp [evA,ev]) e4) ?_)
  simp only [put_zero,put_succ]
  refine n_setX (xc2 (w:=.int e) (by simp [evA,ev,hd1]) e5) ?_
  simp only [put_zero,put_succ]
  exact h
 by_cases q6:kind = 6
 ·exact fin _ _ n3 _ _ _ _ _ _ _ _ (sx (n_yes (by simp [ev,q6]) (r_retM (v:=.tup [.str "fewer",ofR Q,v]) (by simp [ev,evs])))) (.fewer Q hR hv)
 ·obtain ⟨S,n4,e6,hS⟩:=hr n3 3 (by decide) (by decide)
  obtain ⟨v',ws',n5,e7,hv'⟩:=hg n4
  refine fin _ _ n5 (some (.val (.int (e + 1:Nat)))) (some (.val (.int pick))) (some (.val (.int kind))) none none (some (.val (ofR Q))) (some (.val v)) (some (.val (ofR S))) (sx (n_no (by simp [ev,q6]) (n_setX (xc2 (w:=.int 3) (by simp [evA,ev]) e6) ?_))) (.either Q S hR hS hv hv')
  simp only [put_zero,put_succ]
  exact r_retX (x_tupl (xs_pure (by simp [ev]) (xs_pure (by simp [ev]) (xs_pure (by simp [ev]) (xs_pure (by simp [ev]) (xs_last (xc2 (w:=.int e) (by simp [evA,ev,hd1]) e7)))))))
theorem e_any (d:Nat):∀ m:Nat,GenAt (callN defs (m + 2 * d + 4)) d:=by
 induction d with
 | zero => exact fun m => e_any0 (m + 3) 0 (e_next (m + 1)) (e_some_rest m) (e_reply (m + 2)) fun e h => by cases h
 | succ d ih =>
  intro m
  have g:GenAt (callN defs (m + 2 * d + 5)) d:=by
   have:=ih (m + 1)
   rwa [show m + 1 + 2 * d + 4 = m + 2 * d + 5 by omega] at this
  have r:RowsAt (callN defs (m + 2 * d + 5)) d:=e_rows (m + 2 * d + 4) (e_next (m + 2 * d + 2)) (e_some_rest (m + 2 * d + 1)) (e_reply (m + 2 * d + 3)) (ih m)
  have:=e_any0 (m + 2 * d + 5) (d + 1) (e_next (m + 2 * d + 3)) (e_some_rest (m + 2 * d + 2)) (e_reply (m + 2 * d + 4)) fun e h => by
   cases h
   exact ⟨g,r⟩
  rwa [show m + 2 * (d + 1) + 4 = m + 2 * d + 5 + 1 by omega]
theorem w_sm {i:Int} (h:Sm i):(strI i).length <= 6:=by
 have h0:=h.1
 have h1:=h.2
 obtain ⟨n,rfl⟩:∃ n:Nat,i = n:=⟨i.toNat,by omega⟩
 have q:∀ n:Fin 60,(strI (n.val:Int)).length <= 6:=by decide
 exact q ⟨n,by omega⟩
theorem w_ct {n:Nat} (h:n <= 4):(strI (n:Int)).length <= 6:=w_sm ⟨by omega,by omega⟩
theorem w_P {r:Option Int} (h:∀ i,r = some i -> Sm i):(wP r).length <= 6:=by
 cases r with
 | none => decide
 | some i => exact w_sm (h i rfl)
theorem w_R {R:List (List Int)} (h:ROk R):∀ w ∈ wR R,w.length <= 6:=by
 intro w hw
 rcases List.mem_cons.mp hw with rfl | hw
 ·exact w_ct h.l
 ·obtain ⟨l,hl,hw⟩:=List.mem_flatten.mp hw
  obtain ⟨t,ht,rfl⟩:=List.mem_map.mp hl
  rcases List.mem_cons.mp hw with rfl | hw
  ·exact w_ct (h.s t ht)
  ·obtain ⟨i,hi,rfl⟩:=List.mem_map.mp hw
   exact w_sm (h.m t ht i hi)
theorem w_flat {α:Type} {f:α -> List Str} {rows:List α} (h:∀ r ∈ rows,∀ w ∈ f r,w.length <= 6):∀ w ∈ (rows.map f).flatten,w.length <= 6:=by
 intro w hw
 obtain ⟨l,hl,hw⟩:=List.mem_flatten.mp hw
 obtain ⟨r,hr,rfl⟩:=List.mem_map.mp hl
 exact h r hr w hw
theorem w_cons {x:Str} {ws:List Str} (h:x.length <= 6) (k:∀ w ∈ ws,w.length <= 6):∀ w ∈ x :: ws,w.length <= 6:=by
 intro w hw
 rcases List.mem_cons.mp hw with rfl | hw
 ·exact h
 ·exact k w hw
theorem w_app {a b:List Str} (h:∀ w ∈ a,w.length <= 6) (k:∀ w ∈ b,w.length <= 6):∀ w ∈ a ++ b,w.length <= 6:=fun w hw => (List.mem_append.mp hw).elim (h w) (k w)
theorem w_nil:∀ w ∈ ([]:List Str),w.length <= 6:=fun w hw => by cases hw
theorem pap_w {d:Nat} {v:PV} {ws:List Str} (h:Pap d v ws):∀ w ∈ ws,w.length <= 6:=by
 induction h with
 | leaf k hk => exact w_cons (by rcases hk with rfl | rfl | rfl <;> decide) w_nil
 | pairs ps hl h1 h2 => exact w_cons (by decide) (w_cons (w_ct (by omega)) (w_flat fun p hp => w_cons (w_sm (h1 p hp)) (w_cons (w_sm (h2 p hp)) w_nil)))
 | one k hk r hr h ih => exact w_cons (by rcases hk with rfl | rfl <;> decide) (w_cons (w_P hr) ih)
 | cases rows hl h1 h2 h3 ih => exact w_cons (by decide) (w_cons (w_ct (by omega)) (w_flat fun p hp => w_cons (w_sm (h1 p hp)) (w_cons (w_P (h2 p hp)) (ih p hp))))
 | parts rows hl h1 h3 ih => exact w_cons (by decide) (w_cons (w_ct (by omega)) (w_flat fun p hp => w_app (w_R (h1 p hp)) (ih p hp)))
 | fewer R hR h ih => exact w_cons (by decide) (w_app (w_R hR) ih)
 | either R S hR hS h h' ih ih' => exact w_cons (by decide) (w_app (w_app (w_R hR) ih) (w_app (w_R hS) ih'))
theorem strs_map:∀ ws:List Str,strs? (ws.map .str) = some ws
 | [] => rfl
 | w :: ws => by rw [List.map_cons,strs?,strs_map ws]; rfl
theorem sum7:∀ {ws:List Str},(∀ w ∈ ws,w.length <= 6) -> (ws.map fun y => y.length + 1).sum <= 7 * ws.length
 | [],_ => Nat.le_refl _
 | w :: ws,h => by
  have h1:=h w (.head _)
  have h2:=sum7 (ws:=ws) fun x hx => h x (.tail _ hx)
  rw [List.map_cons,List.sum_cons,List.length_cons]
  omega
theorem pap_join {v:PV} {ws:List Str} (h:Pap 4 v ws):joinV " " (lw ws) = some (.str (Builtin.Str.glued " " ws)):=by
 have h1:ws.length <= 8060:=pap_len h
 have h2:=sum7 (pap_w h)
 show (strs? (ws.map .str)).bind _ = _
 rw [strs_map,Option.bind_some]
 exact if_pos (Nat.le_trans h2 (by omega))
theorem xo {cal:Cal} {f:Nat} {ns ns':List Int} {v:PV} {a:Option MV} {r:Rho} (h:cal (f + 2000) [.mutD (.p ns),.val (.int 4)] = some (.tup [v,.dI (.p ns')])):evX cal (.call f [true,false] [.bor 1,.cst (.int 4)]) (a :: some (.ownD (.p ns)) :: r) = some (v,a :: some (.ownD (.p ns')) :: r):=by
 simp [evX,valM,evM,mutOf,evA,ev,h,putM,putD]
theorem law_loop (a:Option MV):∀ (xs:List PV) (ns:List Int) (a2 a3 a4:Option MV),∃ ns' b2 b3 b4,forGo (fun x ρ' => exs (callN defs 39) b_law_1 (put ρ' 2 (.val x))) xs [a,some (.ownD (.p ns)),a2,a3,a4] = .next [a,some (.ownD (.p ns')),b2,b3,b4]
 | [],ns,a2,a3,a4 => ⟨ns,a2,a3,a4,rfl⟩
 | x :: xs,ns,a2,a3,a4 => by
  rw [forGo]
  obtain ⟨v,ws,n1,e1,hv⟩:=e_any 4 27 ns
  have e2:callN defs 39 6 [.val v] = some (.str (Builtin.Str.glued " " ws)):=by
   rw [call_def (d:=d_paper_written) rfl rfl]
   refine x_ret (ρ:=[some (.val v)]) ?_
   rw [ev,ev_call (vs:=[.val v]) (by simp [evA]) (pap_written hv (Nat.le_refl _) 38 (by omega)),Option.bind_some]
   exact pap_join hv
  have e:exs (callN defs 39) b_law_1 (put [a,some (.ownD (.p ns)),a2,a3,a4] 2 (.val x)) = .next [a,some (.ownD (.p n1)),some (.val x),some (.val v),some (.val (.str (Builtin.Str.glued " " ws)))]:=by
   simp only [put_zero,put_succ,b_law_1]
   refine n_setX (xo e1) ?_
   simp only [put_zero,put_succ]
   refine n_set (ev_call (vs:=[.val v]) (by simp [evA]) e2) ?_
   simp only [put_zero,put_succ]
   have e3:ev (callN defs 39) (.join " " (.call 15 [(.bor 3)])) [a,some (.ownD (.p n1)),some (.val x),some (.val v),some (.val (.str (Builtin.Str.glued " " ws)))] = some (.str (Builtin.Str.glued " " ws)):=by
    rw [ev,ev_call (vs:=[.val v]) (by simp [evA]) (pap_law hv (Nat.le_refl _) 39 (by omega)),Option.bind_some]
    exact pap_join hv
   refine n_end ?_
   rw [ex_ite (p:=false) ?_,if_neg (by decide),exs]
   rw [ev,ev,ev_blt1 (v:=.str (Builtin.Str.glued " " ws)) (by simp [ev]),ev,e3]
   simp [ev,neOk]
  rw [e]
  exact law_loop a xs n1 _ _ _
theorem ints_m:∀ ns:List Int,ints? (ns.map .int) = some ns
 | [] => rfl
 | n :: ns => by rw [List.map_cons,ints?,ints_m ns]; rfl
theorem law_true (ns:List Int) (hl:ns.length <= 63):callN defs 40 16 [.brw (ns.map .int)] = some (.bl true):=by
 rw [call_def (d:=d_law) rfl rfl]
 obtain ⟨ns',b2,b3,b4,e⟩:=law_loop (some (.brw (ns.map .int))) [.int 0,.int 1,.int 2,.int 3] ns.reverse none none none
 refine x_next (ρ:=[some (.brw (ns.map .int)),none,none,none,none]) (ρ':=[some (.brw (ns.map .int)),some (.ownD (.p ns.reverse)),none,none,none]) ?_ (x_next (ρ':=[some (.brw (ns.map .int)),some (.ownD (.p ns')),b2,b3,b4]) ?_ (x_ret (by simp [ev])))
 ·simp [ex,ev,ints_m]
 ·rw [ex_for1 (xs:=[.int 0,.int 1,.int 2,.int 3]) (by rfl),show ∀ ρ,lend [ME.cst (.int 4)] ρ = ρ from fun _ => rfl,e]
  rfl
noncomputable def top (i:Nat):Stmt:=PySem.Challenge.pw_mothloom_k68_papers_written.main.body.getD i (.Pass ⟨0,0,0,0⟩)
theorem all_mk {l:PySem.W.OpenLaw} {w:World} {K:PySem.W.Frag} {h:Heap} {mg:Str -> Option Value} {fa:Addr} (X:K.In h) (G:h.Ns mainGlobals mg) (hfa:mg "law" = some (.ref fa))
  (h0:HD K "members_of" (top 1) d_members_of) (h1:HD K "counted" (top 4) d_counted) (h2:HD K "strip_words" (top 5) d_strip_words) (h3:HD K "member_words" (top 6) d_member_words) (h4:HD K "members_words" (top 7) d_members_words) (h5:HD K "paper_words" (top 8) d_paper_words) (h6:HD K "paper_written" (top 9) d_paper_written) (h7:HD K "_law_mixed" (top 12) d_law_mixed) (h8:HD K "_law_next" (top 13) d_law_next) (h9:HD K "_law_some_rest" (top 14) d_law_some_rest) (h10:HD K "_law_some_reply" (top 15) d_law_some_reply) (h11:HD K "_law_some_rows" (top 16) d_law_some_rows) (h12:HD K "_law_any" (top 17) d_law_any) (h13:HD K "_law_rest_words" (top 18) d_law_rest_words) (h14:HD K "_law_reply_word" (top 19) d_law_reply_word) (h15:HD K "_law_words" (top 20) d_law_words) (h16:HD K "law" (top 21) d_law fun fd => ∀ (s:Shared) (v:Value),BindsTo s fd ⟨[v],[]⟩ [("script",v)])
  (zs:∀ x ∈ bltNames,PySem.W.nsIn K mainGlobals x = some none)
  {cv:Value} {ca:Addr} {co:Obj} {ce:Array DictEntry} {cp:Nat} (c0:PySem.W.nsIn K mainGlobals "MEMBERS" = some (some cv)) (c1:cv = .ref ca) (c2:List.lookup ca K = some co) (c3:co.ExactDict) (c4:co.data = .dict ce cp) (c5:HashAll w ce.toList) (c6:(cTab.all fun t => tblB K ce t.2) = true)
 :∃ fd:FuncData,(∀ (s:Shared) (v:Value),BindsTo s fd ⟨[v],[]⟩ [("script",v)]) /\ ∀ base:Heap,K.In base -> base.Ns mainGlobals mg -> FnOk l.prog w K mg base CX0 40 fa fd ["script"] (spM K (callN defs 40) 16):=by
 obtain ⟨_,e0,D0,q0⟩:=def_of (T:=tab) X G h0 (by kernel_rfl)
 obtain ⟨_,e1,D1,q1⟩:=def_of (T:=tab) X G h1 (by kernel_rfl)
 obtain ⟨_,e2,D2,q2⟩:=def_of (T:=tab) X G h2 (by kernel_rfl)
 obtain ⟨_,e3,D3,q3⟩:=def_of (T:=tab) X G h3 (by kernel_rfl)
 obtain ⟨_,e4,D4,q4⟩:=def_of (T:=tab) X G h4 (by kernel_rfl)
 obtain ⟨_,e5,D5,q5⟩:=def_of (T:=tab) X G h5 (by kernel_rfl)
 obtain ⟨_,e6,D6,q6⟩:=def_of (T:=tab) X G h6 (by kernel_rfl)
 obtain ⟨_,e7,D7,q7⟩:=def_of (T:=tab) X G h7 (by kernel_rfl)
 obtain ⟨_,e8,D8,q8⟩:=def_of (T:=tab) X G h8 (by kernel_rfl)
 obtain ⟨_,e9,D9,q9⟩:=def_of (T:=tab) X G h9 (by kernel_rfl)
 obtain ⟨_,e10,D10,q10⟩:=def_of (T:=tab) X G h10 (by kernel_rfl)
 obtain ⟨_,e11,D11,q11⟩:=def_of (T:=tab) X G h11 (by kernel_rfl)
 obtain ⟨_,e12,D12,q12⟩:=def_of (T:=tab) X G h12 (by kernel_rfl)
 obtain ⟨_,e13,D13,q13⟩:=def_of (T:=tab) X G h13 (by kernel_rfl)
 obtain ⟨_,e14,D14,q14⟩:=def_of (T:=tab) X G h14 (by kernel_rfl)
 obtain ⟨_,e15,D15,q15⟩:=def_of (T:=tab) X G h15 (by kernel_rfl)
 obtain ⟨_,e16,D16,q16⟩:=def_of (T:=tab) X G h16 (by kernel_rfl)
 cases hfa.symm.trans D16.named
 have ct:CtOk K mg w:=ct_mk ((PySem.W.mg_of X G c0).trans (congrArg some c1)) c2 c3 c4 c5 c6
 have pr:Prog tab K mg defs w:=by
  refine ⟨rfl,⟨⟨_,_,_,D0,_,D0.binds,.nil⟩,⟨_,_,_,D1,_,D1.binds,.nil⟩,⟨_,_,_,D2,_,D2.binds,.nil⟩,⟨_,_,_,D3,_,D3.binds,.nil⟩,⟨_,_,_,D4,_,D4.binds,.nil⟩,⟨_,_,_,D5,_,D5.binds,.nil⟩,⟨_,_,_,D6,_,D6.binds,.nil⟩,⟨_,_,_,D7,_,D7.binds,.nil⟩,⟨_,_,_,D8,_,D8.binds,.nil⟩,⟨_,_,_,D9,_,D9.binds,.nil⟩,⟨_,_,_,D10,_,D10.binds,.nil⟩,⟨_,_,_,D11,_,D11.binds,.nil⟩,⟨_,_,_,D12,_,D12.binds,.nil⟩,⟨_,_,_,D13,_,D13.binds,.nil⟩,⟨_,_,_,D14,_,D14.binds,.nil⟩,⟨_,_,_,D15,_,D15.binds,.nil⟩,⟨_,_,_,D16,_,D16.binds,.nil⟩,trivial⟩,fun x hx => PySem.W.mg_none_of X G (zs x hx),fun p hp => ?_,ct⟩
  ·simp [tab] at hp
 exact ⟨e16,q16,fun base _ _ => fn_ok (by decide) pr 40 16 d_law rfl _ _ _ D16⟩
theorem walk {l:PySem.W.OpenLaw} {q:Program} {loose:List Str} {XP:(Str -> Option Value) -> Heap -> Prop} {YP:World -> Heap -> Prop} {d:DefRec} {K:Params -> PySem.W.Frag} (hn:l.most = some 63) (hdf:d.params.defaults = [])
  (hY:∀ (w:World) (h:Heap),YP w h -> (K w.params).In h)
  (F:∀ (w:World) (mg:Str -> Option Value) (fa:Addr) (h:Heap),(K w.params).In h -> h.Ns mainGlobals mg -> mg d.name = some (.ref fa) ->
   ∃ fd:FuncData,(∀ (s:Shared) (u:Value),BindsTo s fd ⟨[u],[]⟩ [("script",u)]) /\ ∀ base:Heap,(K w.params).In base -> base.Ns mainGlobals mg -> FnOk l.prog w (K w.params) mg base CX0 40 fa fd ["script"] (spM (K w.params) (callN defs 40) 16)) :
  PySem.W.WalkO q loose XP YP l.row.toRowW d [] (fun f vs => PySem.call f vs) :=
 L2.walk_of (n:=63) (k:=40) (x:="script") (CX:=fun _ => CX0) (sp:=fun w => spM (K w.params) (callN defs 40) 16) hn (by decide) hdf ⟨rfl,by decide,by decide⟩ hY F (fun _ _ a ns hl _ hS => law_sp (law_true ns hl) hS) fun _ _ _ _ _ z => z
end My
open PySem PySem.W PyProof.Rows
set_option maxRecDepth 100000 in
set_option maxHeartbeats 0 in
theorem PySem.Challenge.cw_mothloom_k68_papers_written_holds : PySem.Challenge.rw_mothloom_k68_papers_written.Holds := by
 w_on; o_law; k_head; (case hw => w_witness2)
 k_fill
 refine My.walk (l:=PySem.Challenge.rw_mothloom_k68_papers_written) rfl rfl (fun w h Y => PySem.W.kIn_of Y) ?F
 case F =>
  intro w mg fa h KX G hmg
  refine' My.all_mk KX G hmg ?h0 ?h1 ?h2 ?h3 ?h4 ?h5 ?h6 ?h7 ?h8 ?h9 ?h10 ?h11 ?h12 ?h13 ?h14 ?h15 ?h16 ?zs  ?c0 ?c1 ?c2 ?c3 ?c4 ?c5 ?c6
  (case h0 | h1 | h2 | h5 | h6 | h8 | h10 | h13 | h14 | h15 => refine' ⟨rfl,_,_,?ka,.mk' (d0:=.none) ?kl ?kc ?kk,MM.bn1 fun _ => rfl,trivial⟩; (case ka => k_is); (case kl => k_is); (case kc => k_is); (case kk => k_is))
  (case h3 | h4 | h7 | h9 | h12 => refine' ⟨rfl,_,_,?ka,.mk' (d0:=.none) ?kl ?kc ?kk,MM.bn2 fun _ _ => rfl,trivial⟩; (case ka => k_is); (case kl => k_is); (case kc => k_is); (case kk => k_is))
  (case h11 => refine' ⟨rfl,_,_,?ka,.mk' (d0:=.none) ?kl ?kc ?kk,MM.bn3 fun _ _ _ => rfl,trivial⟩; (case ka => k_is); (case kl => k_is); (case kc => k_is); (case kk => k_is))
  (case h16 => refine' ⟨rfl,_,_,?ka,.mk' (d0:=.none) ?kl ?kc ?kk,MM.bn1 fun _ => rfl,fun s v => .of_eq rfl⟩; (case ka => k_is); (case kl => k_is); (case kc => k_is); (case kk => k_is))
  (case zs => intro x hx; simp only [MM.bltNames,List.mem_cons,List.not_mem_nil,or_false] at hx; rcases hx with rfl | rfl | rfl | rfl | rfl | rfl | rfl | rfl | rfl | rfl | rfl | rfl | rfl | rfl | rfl | rfl | rfl | rfl <;> k_is)
  (case c0 => k_is); (case c1 => exact rfl); (case c2 => k_is); (case c3 => exact ⟨rfl,rfl,rfl⟩); (case c4 => exact rfl)
  (case c5 => exact ⟨rfl,rfl,rfl,rfl,rfl,rfl,rfl,rfl,rfl,rfl,trivial⟩); (case c6 => kernel_rfl)
