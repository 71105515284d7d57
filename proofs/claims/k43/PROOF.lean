import PyProof.Rows.All
import Wide.All
import OpenK.AllK
import Wide.FinOn
import Lean
import PyProof.EqAt
import PyProof.EqKinds
import PyProof.TupleCall
import PySem.Challenge.RW_mothloom_k43_deeds_at_a_table
set_option Elab.async false
set_option linter.all false
set_option maxRecDepth 100000
set_option genSizeOf false
set_option backward.eqns.nonrecursive false
set_option bootstrap.genMatcherCode false
namespace L2
open PySem PySem.Spec PyProof.Rows
noncomputable abbrev Key:=Sum Int Str
noncomputable def keyIs:Key -> Value -> Bool
 | .inl k,v => Value.isInt k v
 | .inr x,v => Value.isStrOf x v
noncomputable def keyH (w:World):Key -> Int
 | .inl k => hashInt k
 | .inr x => hashStr w x
theorem keyIs_shape:∀ {k:Key} {v:Value},keyIs k v = true -> (∃ i t,k = Sum.inl i /\ v = Value.int i t) \/ (∃ x t,k = Sum.inr x /\ v = Value.str x t)
 | .inl i,v,h => by
  obtain ⟨t,e⟩:=Value.isInt_shape (k:=i) (v:=v) h
  exact .inl ⟨i,t,rfl,e⟩
 | .inr x,v,h => by
  obtain ⟨t,e⟩:=Value.isStrOf_shape (x:=x) (v:=v) h
  exact .inr ⟨x,t,rfl,e⟩
theorem keyIs_int (i:Int) (t:Tok):keyIs (.inl i) (.int i t) = true:=by simp [keyIs,Value.isInt]
theorem keyIs_str (x:Str) (t:Tok):keyIs (.inr x) (.str x t) = true:=by simp [keyIs,Value.isStrOf]
theorem key_ll (a b:Int):decide ((Sum.inl a:Key) = Sum.inl b) = (a == b):=by
 by_cases e:a = b
 ·subst e; simp
 ·have h:¬ (Sum.inl a:Key) = Sum.inl b:=fun q => e (Sum.inl.inj q)
  rw [decide_eq_false h]
  exact (beq_eq_false_iff_ne.mpr e).symm
theorem key_rr (a b:Str):decide ((Sum.inr a:Key) = Sum.inr b) = decide (a = b):=by
 by_cases e:a = b
 ·subst e; simp
 ·have h:¬ (Sum.inr a:Key) = Sum.inr b:=fun q => e (Sum.inr.inj q)
  rw [decide_eq_false h,decide_eq_false e]
theorem key_lr (a:Int) (b:Str):decide ((Sum.inl a:Key) = Sum.inr b) = false:=decide_eq_false (fun q => nomatch q)
theorem key_rl (a:Str) (b:Int):decide ((Sum.inr a:Key) = Sum.inl b) = false:=decide_eq_false (fun q => nomatch q)
noncomputable def mixKind (prog:Program) (w:World):PySem.KeyKind prog w Key where
 is:=keyIs
 hash:=keyH w
 inj:=fun v a b ha hb => by
  rcases keyIs_shape ha with ⟨i,t,rfl,rfl⟩ | ⟨x,t,rfl,rfl⟩
  ·rcases keyIs_shape hb with ⟨j,u,rfl,e⟩ | ⟨y,u,rfl,e⟩
   ·injection e with e1 _; rw [e1]
   ·exact nomatch e
  ·rcases keyIs_shape hb with ⟨j,u,rfl,e⟩ | ⟨y,u,rfl,e⟩
   ·exact nomatch e
   ·injection e with e1 _; rw [e1]
 byValue:=fun k v h => by
  rcases keyIs_shape h with ⟨i,t,rfl,rfl⟩ | ⟨x,t,rfl,rfl⟩ <;> rfl
 pyHash:=fun hv h => by
  rcases keyIs_shape hv with ⟨i,t,rfl,rfl⟩ | ⟨x,t,rfl,rfl⟩
  ·exact wpAny_pyHash_int h
  ·exact wpAny_pyHash_str h
 eqBool:=fun hu hv h => by
  rcases keyIs_shape hu with ⟨i,t,rfl,rfl⟩ | ⟨x,t,rfl,rfl⟩
  ·rcases keyIs_shape hv with ⟨j,u,rfl,rfl⟩ | ⟨y,u,rfl,rfl⟩
   ·rw [key_ll] at h; exact wpAny_eqBool_int h
   ·rw [key_lr] at h; exact SeqAt.EqAt.int_str i t y u _ _ _ _ h
  ·rcases keyIs_shape hv with ⟨j,u,rfl,rfl⟩ | ⟨y,u,rfl,rfl⟩
   ·rw [key_rl] at h; exact SeqAt.EqAt.str_int x t j u _ _ _ _ h
   ·rw [key_rr] at h; exact wpAny_eqBool_str h
 «strs»:=fun k x t v h => by
  rcases keyIs_shape h with ⟨i,u,rfl,e⟩ | ⟨y,u,rfl,e⟩
  ·exact nomatch e
  ·injection e with e1 _
   subst e1
   cases v <;> rfl
theorem mixKind_int (prog:Program) (w:World) (i:Int) (t:Tok):(mixKind prog w).is (.inl i) (.int i t) = true:=keyIs_int i t
theorem mixKind_str (prog:Program) (w:World) (x:Str) (t:Tok):(mixKind prog w).is (.inr x) (.str x t) = true:=keyIs_str x t
end L2
namespace L2
open PySem PySem.Spec PyProof.Rows
inductive V where
 | non | bl (b:Bool) | int (i:Int) | str (x:Str) | byt (b:Array UInt8) | flt (b:UInt64) | ref (a:Addr) | ty (n:String)
 deriving DecidableEq
noncomputable def RelV:V -> Value -> Prop
 | .non,u => u = Value.none
 | .bl b,u => u = Value.bool b
 | .int i,u => ∃ t,u = Value.int i t
 | .str x,u => ∃ t,u = Value.str x t
 | .byt b,u => ∃ t,u = Value.bytes b t
 | .flt b,u => ∃ t,u = Value.float b t
 | .ref a,u => u = Value.ref a
 | .ty n,u => u = Value.type n
noncomputable abbrev Vals:List V -> List Value -> Prop:=Paired RelV
theorem Vals.length {xs:List V} {us:List Value} (r:Vals xs us):xs.length = us.length:=Paired.length r
theorem Vals.get:∀ {xs:List V} {us:List Value} {i:Nat} {x:V},Vals xs us -> xs[i]? = some x -> ∃ u,us[i]? = some u /\ RelV x u
 | _,_,_,_,.nil,e => by simp at e
 | _,_,0,_,.cons r _,e => by simp at e; subst e; exact ⟨_,rfl,r⟩
 | _,_,i + 1,x,.cons _ t,e => by
  obtain ⟨u,h1,h2⟩:=Vals.get (i:=i) (x:=x) t (by simpa using e)
  exact ⟨u,by simpa using h1,h2⟩
theorem Vals.set {x:V} {u:Value} (r:RelV x u):∀ {xs:List V} {us:List Value} (i:Nat),Vals xs us -> Vals (xs.set i x) (us.set i u)
 | _,_,_,.nil => .nil
 | _,_,0,.cons _ t => .cons r t
 | _,_,i + 1,.cons q t => .cons q (Vals.set r i t)
theorem Vals.append:∀ {xs ys:List V} {us ws:List Value},Vals xs us -> Vals ys ws -> Vals (xs ++ ys) (us ++ ws)
 | _,_,_,_,.nil,s => s
 | _,_,_,_,.cons r t,s => .cons r (Vals.append t s)
theorem Vals.take:∀ {xs:List V} {us:List Value} (n:Nat),Vals xs us -> Vals (xs.take n) (us.take n)
 | _,_,0,_ => .nil
 | _,_,_ + 1,.nil => .nil
 | _,_,n + 1,.cons r t => .cons r (Vals.take n t)
theorem Vals.drop:∀ {xs:List V} {us:List Value} (n:Nat),Vals xs us -> Vals (xs.drop n) (us.drop n)
 | _,_,0,r => r
 | _,_,_ + 1,.nil => .nil
 | _,_,n + 1,.cons _ t => Vals.drop n t
noncomputable def RelO:Option V -> Option Value -> Prop
 | some v,some u => RelV v u
 | none,none => True
 | _,_ => False
noncomputable def KV {κ:Type}:List (κ × V) -> List (κ × Value) -> Prop:=Paired fun (p:κ × V) (q:κ × Value) => p.1 = q.1 /\ RelV p.2 q.2
noncomputable def kV:Key -> V
 | .inl i => .int i
 | .inr x => .str x
inductive HO where
 | lst (xs:List V)
 | tup (xs:List V)
 | dK (kvs:List (Key × V)) | dT (kvs:List (List Key × V))
 | set (S:Int -> Bool) (n:Nat)
 | ins (C dx:Addr) (fs:List (Str × V))
 | own (x:Addr)
 | xd (fs:List (Str × V))
 | met (f x:Addr)
 | rng (lo hi:Int)
 | frz (o:Obj) (u:HO)
 | tbl (ps:Array Value)
 | ext (φ:Heap -> Prop)
noncomputable abbrev Hp:=Addr -> Option HO
noncomputable def upd (H:Hp) (a:Addr) (o:HO):Hp:=fun b => if b = a then some o else H b
theorem upd_same {H:Hp} {a:Addr} {o:HO}:upd H a o a = some o:=by unfold upd; rw [if_pos rfl]
theorem upd_ne {H:Hp} {a b:Addr} {o:HO} (h:b ≠ a):upd H a o b = H b:=by unfold upd; rw [if_neg h]
theorem ne_of {H:Hp} {a b:Addr} {o u:HO} (h:H a = some o) (h':H b = some u) (d:o ≠ u):a ≠ b:=by
 intro e; subst e; rw [h] at h'; exact d (Option.some.inj h')
theorem ne_of_none {H:Hp} {a b:Addr} {o:HO} (h:H a = some o) (h':H b = none):a ≠ b:=by
 intro e; subst e; rw [h] at h'; cases h'
section
variable (P:Program) (w:World)
noncomputable def ObjOk (H:Hp) (h:Heap) (a:Addr):HO -> Prop
 | .lst xs => xs.length <= sizeLine /\ ∃ (its:List Value) (n:Nat),Vals xs its /\ h.get? a = some { cls:=.type "list",data:=.seq its.toArray n }
 | .tup xs => xs.length <= sizeLine /\ ∃ its:List Value,Vals xs its /\ IsTup h a its.toArray
 | .dK kvs => kvs.length <= sizeLine /\ (a == sysModules) = false /\ ∃ vs,KV kvs vs /\ h.DictOf (mixKind P w) a vs
 | .dT kvs => kvs.length <= sizeLine /\ (a == sysModules) = false /\ ∃ xs:List (List Key × Addr × Value),
   Paired (fun (p:List Key × V) (q:List Key × Addr × Value) => p.1 = q.1 /\ H q.2.1 = some (.tup (p.1.map kV)) /\ RelV p.2 q.2.2) kvs xs /\
   ∃ o es ep,h.get? a = some o /\ o.ExactDict /\ o.data = .dict es ep /\ es.toList = xs.map (entryOfKey (tupleKind (mixKind P w))) /\ (xs.map (·.1)).Nodup
 | .set S n => h.SetOf (intKind P w) a S n
 | .ins C dx fs => H dx = some (.own a) /\ fs.length <= 1000 /\ dx ≠ a /\ h.get? a = some (PySem.W.instObj C dx) /\
   ∃ mA,h.Ns1 dx mA /\ (∀ f,RelO (fs.lookup f) (mA f)) /\ PySem.Within mA (fs.map (·.1))
 | .own _ => ∃ o,h.get? a = some o
 | .xd fs => ∃ mA,h.Ns1 a mA /\ ∀ f,RelO (fs.lookup f) (mA f)
 | .rng lo hi => ∃ t u v,h.get? a = some { cls:=.type "range",data:=.fields #[.int lo t,.int hi u,.int 1 v] }
 | .frz o u => h.get? a = some o /\ ObjOk H h a u
 | .tbl ps => h.get? a = some { cls:=.none,data:=.fields ps }
 | .met f x => h.get? a = some (PySem.W.methodObj (.ref f) (.ref x))
 | .ext φ => φ h /\ (∃ o,h.get? a = some o) /\ ∀ h1 h2:Heap,φ h1 -> (∀ o,h1.get? a = some o -> h2.get? a = some o) -> φ h2
noncomputable def HOk (H:Hp) (h:Heap):Prop:=∀ a o,H a = some o -> ObjOk P w H h a o
end
section
variable {P:Program} {w:World} {H H':Hp} {h h':Heap} {a:Addr} {o:HO}
theorem ObjOk.lt (x:ObjOk P w H h a o):a < h.objs.size:=by
 cases o with
 | lst xs => obtain ⟨_,_,_,_,e⟩:=x; exact Heap.lt_size e
 | tup xs => obtain ⟨_,_,_,p⟩:=x; exact p.lt
 | dK kvs => obtain ⟨_,_,_,_,o,_,_,e,_⟩:=x; exact Heap.lt_size e
 | dT kvs => obtain ⟨_,_,_,_,o,_,_,e,_⟩:=x; exact Heap.lt_size e
 | set S n => obtain ⟨o,_,_,_,e,_⟩:=x; exact Heap.lt_size e
 | ins C dx fs => obtain ⟨_,_,_,e,_⟩:=x; exact Heap.lt_size e
 | own y => obtain ⟨_,e⟩:=x; exact Heap.lt_size e
 | xd fs => obtain ⟨_,⟨_,_,_,e,_⟩,_⟩:=x; exact Heap.lt_size e
 | rng lo hi => obtain ⟨_,_,_,e⟩:=x; exact Heap.lt_size e
 | frz ob u => obtain ⟨e,_⟩:=x; exact Heap.lt_size e
 | tbl ps => exact Heap.lt_size (show h.get? a = some _ from x)
 | met f y => exact Heap.lt_size (show h.get? a = some _ from x)
 | ext φ => obtain ⟨_,⟨_,e⟩,_⟩:=x; exact Heap.lt_size e
theorem Paired.mapP {α β:Type} {F G:α -> β -> Prop}:∀ {l₁:List α} {l₂:List β},Paired F l₁ l₂ -> (∀ a b,F a b -> G a b) -> Paired G l₁ l₂
 | _,_,.nil,_ => .nil
 | _,_,.cons r t,f => .cons (f _ _ r) (Paired.mapP t f)
theorem ObjOk.stay (x:ObjOk P w H h a o) (k:∀ b u,(b = a \/ H b = some (.own a)) -> h.get? b = some u -> h'.get? b = some u)
  (ho:∀ b,H b = some (.own a) -> H' b = some (.own a)) (ht:∀ b xs,H b = some (.tup xs) -> H' b = some (.tup xs)):ObjOk P w H' h' a o:=by
 induction o with
 | lst xs => obtain ⟨z,its,n,r,e⟩:=x; exact ⟨z,its,n,r,k _ _ (.inl rfl) e⟩
 | tup xs => obtain ⟨z,its,r,ob,e,c⟩:=x; exact ⟨z,its,r,ob,k _ _ (.inl rfl) e,c⟩
 | dK kvs => obtain ⟨z,y,vs,r,ob,es,ep,e,c⟩:=x; exact ⟨z,y,vs,r,ob,es,ep,k _ _ (.inl rfl) e,c⟩
 | dT kvs =>
  obtain ⟨z,y,xs,r,ob,es,ep,e,c⟩:=x
  exact ⟨z,y,xs,Paired.mapP r fun p q z => ⟨z.1,ht _ _ z.2.1,z.2.2⟩,ob,es,ep,k _ _ (.inl rfl) e,c⟩
 | set S n => obtain ⟨ob,es,ep,t,e,c⟩:=x; exact ⟨ob,es,ep,t,k _ _ (.inl rfl) e,c⟩
 | ins C dx fs =>
  obtain ⟨d,z,ne,e,mA,⟨od,es,ep,e2,c⟩,r⟩:=x
  exact ⟨ho _ d,z,ne,k _ _ (.inl rfl) e,mA,⟨od,es,ep,k _ _ (.inr d) e2,c⟩,r⟩
 | own y => obtain ⟨ob,e⟩:=x; exact ⟨ob,k _ _ (.inl rfl) e⟩
 | xd fs => obtain ⟨mA,⟨od,es,ep,e,c⟩,r⟩:=x; exact ⟨mA,⟨od,es,ep,k _ _ (.inl rfl) e,c⟩,r⟩
 | rng lo hi => obtain ⟨t,u,v,e⟩:=x; exact ⟨t,u,v,k _ _ (.inl rfl) e⟩
 | frz ob u ih => obtain ⟨e,q⟩:=x; exact ⟨k _ _ (.inl rfl) e,ih q⟩
 | tbl ps =>
  have e:h.get? a = some { cls:=.none,data:=.fields ps }:=x
  show h'.get? a = some { cls:=.none,data:=.fields ps }
  exact k a _ (.inl rfl) e
 | met f y =>
  have e:h.get? a = some (PySem.W.methodObj (.ref f) (.ref y)):=x
  show h'.get? a = some (PySem.W.methodObj (.ref f) (.ref y))
  exact k a _ (.inl rfl) e
 | ext φ => obtain ⟨p,⟨o,e⟩,st⟩:=x; exact ⟨st _ _ p fun o q => k _ _ (.inl rfl) q,⟨o,k _ _ (.inl rfl) e⟩,st⟩
theorem HOk.lt (x:HOk P w H h) (e:H a = some o):a < h.objs.size:=(x a o e).lt
theorem HOk.fresh (x:HOk P w H h) (e:h.objs.size <= a):H a = none:=by
 cases q:H a with
 | none => rfl
 | some u => exact absurd (Nat.lt_of_lt_of_le (x.lt q) e) (Nat.lt_irrefl _)
theorem HOk.kept (x:HOk P w H h) (k:∀ b u,h.get? b = some u -> h'.get? b = some u):HOk P w H h':=fun a o e =>
 (x a o e).stay (fun b u _ q => k b u q) (fun _ q => q) fun _ _ q => q
theorem HOk.laid (x:HOk P w H h) (k:∀ b u,h.get? b = some u -> h'.get? b = some u) (hp:h.objs.size <= a) (new:ObjOk P w (upd H a o) h' a o):HOk P w (upd H a o) h':=fun b u e => by
 have hn:=x.fresh hp
 by_cases hb:b = a
 ·subst hb; rw [upd_same] at e; cases e; exact new
 ·rw [upd_ne hb] at e
  exact (x b u e).stay (fun c v _ q => k c v q) (fun c q => by rw [upd_ne (ne_of_none q hn)]; exact q) fun c xs q => by rw [upd_ne (ne_of_none q hn)]; exact q
end
noncomputable def Rd (H:Hp) (a:Addr) (u:HO):Prop:=H a = some u \/ ∃ o,H a = some (.frz o u)
theorem Rd.ok {P:Program} {w:World} {H:Hp} {h:Heap} {a:Addr} {u:HO} (r:Rd H a u) (x:HOk P w H h):ObjOk P w H h a u:=by
 rcases r with r | ⟨o,r⟩
 ·exact x a u r
 ·obtain ⟨_,q⟩:=x a _ r
  exact q
noncomputable def Mut:Option HO -> Prop
 | some (.lst _) => True
 | some (.dK _) => True
 | some (.dT _) => True
 | some (.set _ _) => True
 | some (.ins _ _ _) => True
 | some (.ext _) => True
 | _ => False
section
variable {P:Program} {w:World} {H:Hp} {h h':Heap} {x e:Addr} {o':HO}
theorem HOk.write (ok:HOk P w H h) (mu:Mut (H x)) (he:e = x \/ H e = some (.own x)) (k:∀ b u,b ≠ e -> h.get? b = some u -> h'.get? b = some u) (heo:∃ u,h'.get? e = some u)
  (new:ObjOk P w (upd H x o') h' x o'):HOk P w (upd H x o') h':=fun b u q => by
 have nown:∀ c y,H c = some (.own y) -> c ≠ x:=fun c y r z => by subst z; rw [r] at mu; exact mu
 have ntup:∀ c xs,H c = some (.tup xs) -> c ≠ x:=fun c xs r z => by subst z; rw [r] at mu; exact mu
 by_cases hb:b = x
 ·subst hb; rw [upd_same] at q; cases q; exact new
 ·rw [upd_ne hb] at q
  by_cases hbe:b = e
  ·have q':H b = some (.own x):=by
    rcases he with z | z
    ·exact absurd (hbe.trans z) hb
    ·rw [hbe]; exact z
   rw [q] at q'; cases q'
   obtain ⟨v,hv⟩:=heo
   exact ⟨v,by rw [hbe]; exact hv⟩
  ·refine (ok b u q).stay (fun c v hc r => k c v ?_ r) (fun c r => by rw [upd_ne (nown c b r)]; exact r) fun c xs r => by rw [upd_ne (ntup c xs r)]; exact r
   rcases hc with rfl | hc
   ·exact hbe
   ·rintro rfl
    rcases he with z | z
    ·exact nown c b hc z
    ·rw [hc] at z; cases z; exact hb rfl
end
structure Un (fs ex:List Addr) (H H':Hp) (h h':Heap):Prop where
 keep:∀ b o,h.get? b = some o -> H b = none -> b ∉ fs -> b ∉ ex -> h'.get? b = some o
 slot:∀ b o,h.get? b = some o -> H b = none -> b ∈ fs -> b ∉ ex -> ∃ sl,h'.get? b = some { o with slots:=sl }
 free:∀ b o,h.get? b = some o -> H b = none -> b ∉ ex -> H' b = none
 there:∀ b o,h.get? b = some o -> b ∉ ex -> ∃ o',h'.get? b = some o'
 tups:∀ b xs,H b = some (.tup xs) -> H' b = some (.tup xs)
 frzs:∀ b o u,H b = some (.frz o u) -> H' b = some (.frz o u)
 tbls:∀ b ps,H b = some (.tbl ps) -> ∃ more,H' b = some (.tbl (ps ++ more))
section
variable {fs fs' ex ex':List Addr} {H H1 H2:Hp} {h h1 h2 h':Heap} {a x e:Addr} {o:HO}
theorem Un.any (u:Un fs ex H H1 h h1) {b:Addr} {ob:Obj} (q:h.get? b = some ob) (n:H b = none) (hx:b ∉ ex):∃ sl,h1.get? b = some { ob with slots:=sl }:=by
 by_cases hb:b ∈ fs
 ·exact u.slot b ob q n hb hx
 ·exact ⟨ob.slots,u.keep b ob q n hb hx⟩
theorem Un.kept (k:∀ b u,h.get? b = some u -> h'.get? b = some u):Un fs ex H H h h' :=
 ⟨fun b ob q _ _ _ => k b ob q,fun b ob q _ _ _ => ⟨ob.slots,k b ob q⟩,fun _ _ _ n _ => n,fun b ob q _ => ⟨ob,k b ob q⟩,fun _ _ q => q,fun _ _ _ q => q,fun _ ps q => ⟨#[],by rw [q]; simp⟩⟩
theorem Un.refl:Un fs ex H H h h:=Un.kept fun _ _ q => q
theorem Un.laid (k:∀ b u,h.get? b = some u -> h'.get? b = some u) (hp:h.objs.size <= a) (hn:H a = none):Un fs ex H (upd H a o) h h' where
 keep:=fun b u q _ _ _ => k b u q
 slot:=fun b u q _ _ _ => ⟨u.slots,k b u q⟩
 free:=fun b u q n _ => by rw [upd_ne (Nat.ne_of_lt (Nat.lt_of_lt_of_le (Heap.lt_size q) hp))]; exact n
 there:=fun b u q _ => ⟨u,k b u q⟩
 tups:=fun b xs q => by rw [upd_ne (ne_of_none q hn)]; exact q
 frzs:=fun b u xs q => by rw [upd_ne (ne_of_none q hn)]; exact q
 tbls:=fun b ps q => ⟨#[],by rw [upd_ne (ne_of_none q hn),q]; simp⟩
theorem Un.write (mu:Mut (H x)) (he:e = x \/ H e = some (.own x)) (k:∀ b u,b ≠ e -> h.get? b = some u -> h'.get? b = some u) (heo:∃ u,h'.get? e = some u):Un fs ex H (upd H x o) h h':=by
 have hx:∀ b,H b = none -> b ≠ x:=fun b n z => by subst z; rw [n] at mu; exact mu
 have hb:∀ b,H b = none -> b ≠ e:=fun b n z => by
  subst z
  rcases he with r | r
  ·exact hx b n r
  ·rw [n] at r; cases r
 have hm:∀ b u,H b = some u -> ¬ Mut (some u) -> b ≠ x:=fun b u q nm z => by subst z; rw [q] at mu; exact nm mu
 refine ⟨fun b u q n _ _ => k b u (hb b n) q,fun b u q n _ _ => ⟨u.slots,k b u (hb b n) q⟩,fun b u q n _ => by rw [upd_ne (hx b n)]; exact n,fun b u q _ => ?_,
  fun b xs q => by rw [upd_ne (hm b _ q fun z => z)]; exact q,fun b u xs q => by rw [upd_ne (hm b _ q fun z => z)]; exact q,fun b ps q => ⟨#[],by rw [upd_ne (hm b _ q fun z => z),q]; simp⟩⟩
 by_cases hbe:b = e
 ·subst hbe; exact heo
 ·exact ⟨u,k b u hbe q⟩
end
noncomputable def trk (h:Heap) (H:Hp):List Addr:=(List.range h.objs.size).filter fun a => (H a).isSome
noncomputable def hidT (h:Heap) (H:Hp):Heap:=PySem.W.hideAll h (trk h H)
theorem hidT_size (h:Heap) (H:Hp):(hidT h H).objs.size = h.objs.size:=PySem.W.hideAll_size _ _
theorem hidT_get {h:Heap} {H:Hp} {b:Addr} {o:Obj} (e:h.get? b = some o) (n:H b = none):(hidT h H).get? b = some o :=
 PySem.W.hideAll_get _ e fun hm => by
  have q:(H b).isSome = true:=(List.mem_filter.mp hm).2
  rw [n] at q; simp at q
theorem of_hidT {h:Heap} {H:Hp} {b:Addr} {o:Obj} (e:(hidT h H).get? b = some o):h.get? b = some o /\ H b = none:=by
 have e':h.get? b = some o:=PySem.W.of_hideAll (trk h H) e
 refine ⟨e',?_⟩
 cases q:H b with
 | none => rfl
 | some x =>
  have hm:b ∈ trk h H:=List.mem_filter.mpr ⟨List.mem_range.mpr (Heap.lt_size e'),by simp [q]⟩
  have z:(hidT h H).get? b = none:=PySem.W.hideAll_none (trk h H) hm
  rw [z] at e; cases e
noncomputable def allNews (g h:Heap) (L:Addr):List (Addr × Obj):=(List.range h.objs.size).filterMap fun a => if a = L \/ (g.get? a).isSome = true then none else (h.get? a).map fun o => (a,o)
noncomputable def rest (g h:Heap) (L d:Addr):List (Addr × Obj):=(allNews g h L).filter fun p => decide (p.1 ≠ d)
end L2
namespace L2
open PySem PySem.Spec PyProof.Rows
structure Mod (K:PySem.W.Frag) (mg:Str -> Option Value) (base:Heap):Prop where
 kin:K.In base
 glob:base.Ns mainGlobals mg
 blt:∃ mb,base.Ns builtinsNs mb /\ ∀ x:Str,x ≠ "__name__" -> mb x = bootBuiltins x
 nolimit:base.NoLimit
structure Cx where
 prog:Program
 w:World
 K:PySem.W.Frag
 mg:Str -> Option Value
 base:Heap
 A:Around
 N:List Str
 s₀:Shared
 H₀:Hp
 env:Env
 outer:List Env
 stack:List Env
 ex:List Addr
 fn:Str -> Bool
 calm:Bool
 pn:List (Addr × Obj)
 xe:Value -> Shared -> Prop
noncomputable def frs (l:List Env):List Addr:=l.filterMap (·.frame)
noncomputable abbrev Cx.fs (X:Cx):List Addr:=frs X.outer
noncomputable def Vis (sc:Scope) (x:Str):Prop:=sc.names.lookup x = some .local \/ sc.names.lookup x = some .cell \/ sc.names.lookup x = some .free
noncomputable def Loc (sc:Scope) (x:Str):Prop:=sc.names.lookup x = some .local \/ sc.names.lookup x = some .cell
noncomputable def Look (env:Env) (h:Heap) (m:Str -> Option Value) (x:Str) (u:Value):Prop :=
 (env.kindOf x = some .local /\ m x = some u) \/ ((env.kindOf x = some .cell \/ env.kindOf x = some .free) /\ ∃ c,env.cells.lookup x = some c /\ h.IsCell c (some u))
structure Cx.Ok (X:Cx):Prop where
 mod:Mod X.K X.mg X.base
 kind:X.env.scope.kind = .function
 glob:X.env.globals = mainGlobals
 blt:X.env.builtins = builtinsNs
 above:X.s₀.heap.objs.size <= X.env.locals
 inj:∀ x y c,X.env.cells.lookup x = some c -> X.env.cells.lookup y = some c -> x = y
 has:∀ x,(X.env.kindOf x = some .cell \/ X.env.kindOf x = some .free) -> ∃ c,X.env.cells.lookup x = some c
 cab:∀ x c,X.fn x = true -> X.env.cells.lookup x = some c -> X.s₀.heap.objs.size <= c
 hd:X.calm = true -> X.A.handled = none
 frames:X.A.frames = some X.stack
 stk:X.stack = X.outer \/ (X.stack = X.env :: X.outer /\ X.env.frame = some X.env.locals)
 exf:∀ b ∈ X.ex,b ≠ X.env.locals /\ ∀ x c,X.env.cells.lookup x = some c -> c ≠ b
 bs:∀ b o,X.base.get? b = some o -> X.s₀.heap.get? b = some o /\ X.H₀ b = none
 bsz:X.base.objs.size <= X.s₀.heap.objs.size
 noex:∀ b o,X.base.get? b = some o -> b ∉ X.ex
 exfs:∀ b ∈ X.ex,b ∉ X.fs
 funs:X.s₀.heap.FunFrames X.base X.outer
 frf:∀ b ∈ X.fs,X.H₀ b = none
structure Inv (X:Cx) (pins:List (Addr × Obj)) (σ:List (Option V)) (H:Hp) (s:Shared):Prop where
 ok:X.Ok
 os:s.os = X.s₀.os
 bare:AllBare s.gens
 base:Un X.fs X.ex X.H₀ H X.s₀.heap s.heap
 loc:∃ m,s.heap.Ns X.env.locals m /\ ∀ (i:Nat) (x:Str) (v:V),X.N[i]? = some x -> σ[i]? = some (some v) -> Vis X.env.scope x -> ∃ u,RelV v u /\ Look X.env s.heap m x u
 cell:∀ x c,X.env.cells.lookup x = some c -> ∃ v,s.heap.IsCell c v
 free:H X.env.locals = none
 freeC:∀ x c,X.env.cells.lookup x = some c -> H c = none
 pin:∀ p ∈ X.pn ++ pins,s.heap.get? p.1 = some p.2 /\ H p.1 = none /\ p.1 ≠ X.env.locals /\ p.1 ∉ X.fs /\ ∀ v,p.2.data ≠ .cell v
 hok:HOk X.prog X.w H s.heap
 len:σ.length = X.N.length
section
variable {X:Cx} {pins:List (Addr × Obj)} {σ:List (Option V)} {H H':Hp} {s:Shared} {h':Heap}
theorem Cx.Ok.nofr (ok:X.Ok) {b:Addr} {o:Obj} (e:X.base.get? b = some o):b ∉ X.fs:=fun hb => by
 have:=(ok.funs.mem hb).1
 rw [e] at this; cases this
theorem Inv.bs (I:Inv X pins σ H s):∀ b o,X.base.get? b = some o -> s.heap.get? b = some o /\ H b = none:=fun b o e =>
 ⟨I.base.keep b o (I.ok.bs b o e).1 (I.ok.bs b o e).2 (I.ok.nofr e) (I.ok.noex b o e),I.base.free b o (I.ok.bs b o e).1 (I.ok.bs b o e).2 (I.ok.noex b o e)⟩
theorem Inv.bk (I:Inv X pins σ H s):∀ b o,X.base.get? b = some o -> s.heap.get? b = some o:=fun b o e => (I.bs b o e).1
theorem Inv.mod (I:Inv X pins σ H s):Mod X.K X.mg X.base:=I.ok.mod
theorem Inv.kIn (I:Inv X pins σ H s):X.K.In s.heap:=I.ok.mod.kin.keeps I.bk
theorem Inv.lt (I:Inv X pins σ H s):X.env.locals < s.heap.objs.size:=let ⟨_,hn,_⟩:=I.loc; hn.lt
theorem Inv.sz (I:Inv X pins σ H s):X.s₀.heap.objs.size <= s.heap.objs.size:=Nat.le_trans I.ok.above (Nat.le_of_lt I.lt)
theorem Inv.nofs (I:Inv X pins σ H s) {a:Addr} (h:s.heap.objs.size <= a):a ∉ X.fs:=fun hb => by
 obtain ⟨_,o,ho,_⟩:=I.ok.funs.mem hb
 exact absurd (Nat.lt_of_lt_of_le (Heap.lt_size ho) (Nat.le_trans I.sz h)) (Nat.lt_irrefl _)
theorem Inv.cne (I:Inv X pins σ H s):∀ x c,X.env.cells.lookup x = some c -> c ≠ X.env.locals:=fun x c e z => by
 obtain ⟨v,o,ho,hd⟩:=I.cell x c e
 obtain ⟨m,⟨o',es,ep,ho',hd',_⟩,_⟩:=I.loc
 rw [z,ho'] at ho; cases ho; rw [hd'] at hd; cases hd
theorem Inv.funs (I:Inv X pins σ H s):s.heap.FunFrames X.base X.outer:=by
 have all:∀ (l:List Env),(∀ b ∈ frs l,b ∈ X.fs) -> X.s₀.heap.FunFrames X.base l -> s.heap.FunFrames X.base l:=by
  intro l
  induction l with
  | nil => intro _ _; trivial
  | cons env r ih =>
   intro hs hl
   obtain ⟨hk,⟨L,o,hf,hn,ho,hd⟩,hr⟩:=hl
   have hL:L ∈ X.fs:=hs L (by unfold frs; rw [List.filterMap_cons,hf]; exact List.mem_cons_self)
   obtain ⟨sl,e⟩:=I.base.slot L o ho (I.ok.frf L hL) hL fun z => I.ok.exfs L z hL
   exact ⟨hk,⟨L,_,hf,hn,e,hd⟩,ih (fun b hb => hs b (by unfold frs; rw [List.filterMap_cons,hf]; exact List.mem_cons_of_mem _ hb)) hr⟩
 exact all X.outer (fun _ hb => hb) I.ok.funs
theorem Inv.stack (I:Inv X pins σ H s):s.heap.FunFrames X.base X.stack:=by
 rcases I.ok.stk with e | ⟨e,hf⟩
 ·rw [e]; exact I.funs
 ·rw [e]
  obtain ⟨m,hn,_⟩:=I.loc
  refine .cons (by rw [I.ok.kind]; decide) hf hn ?_ I.funs
  exact Heap.get?_none_of_le (Nat.le_trans I.ok.bsz I.ok.above)
theorem Inv.stkSub (I:Inv X pins σ H s):∀ b ∈ frs X.stack,b ∈ X.env.locals :: X.fs:=fun b hb => by
 rcases I.ok.stk with e | ⟨e,hf⟩
 ·rw [e] at hb; exact List.mem_cons_of_mem _ hb
 ·rw [e] at hb
  unfold frs at hb
  rw [List.filterMap_cons,hf] at hb
  exact hb
theorem Inv.stkFree (I:Inv X pins σ H s):∀ b ∈ frs X.stack,H b = none:=fun b hb => by
 rcases List.mem_cons.mp (I.stkSub b hb) with e | hb
 ·rw [e]; exact I.free
 ·obtain ⟨_,o,ho,_⟩:=I.ok.funs.mem hb
  exact I.base.free b o ho (I.ok.frf b hb) fun z => I.ok.exfs b z hb
theorem Inv.step {g':Array GenState} {t':Nat} {d':Drawn} {ch:List Addr} (I:Inv X pins σ H s)
  (hch:∀ b ∈ ch,(b ∈ X.ex \/ X.s₀.heap.objs.size <= b) /\ b ≠ X.env.locals /\ (∀ x c,X.env.cells.lookup x = some c -> c ≠ b) /\ ∀ p ∈ X.pn ++ pins,p.1 ≠ b)
  (keep:∀ b o,b ≠ X.env.locals -> b ∉ X.fs -> b ∉ ch -> s.heap.get? b = some o -> H b = none -> h'.get? b = some o)
  (slot:∀ b o,b ≠ X.env.locals -> b ∈ X.fs -> b ∉ ch -> s.heap.get? b = some o -> H b = none -> ∃ sl,h'.get? b = some { o with slots:=sl }) (free:∀ b o,b ∉ ch -> s.heap.get? b = some o -> H b = none -> H' b = none)
  (there:∀ b o,b ∉ ch -> s.heap.get? b = some o -> ∃ o',h'.get? b = some o')
  (tups:∀ b xs,H b = some (.tup xs) -> H' b = some (.tup xs)) (frzs:∀ b o u,H b = some (.frz o u) -> H' b = some (.frz o u)) (tbls:∀ b ps,H b = some (.tbl ps) -> ∃ more,H' b = some (.tbl (ps ++ more)))
  (ns:∀ m,s.heap.Ns X.env.locals m -> h'.Ns X.env.locals m) (hok:HOk X.prog X.w H' h') (hg:AllBare g') :
  Inv X pins σ H' { s with heap:=h',gens:=g',drawn:=d',toks:=t' }:=by
 have neL:∀ b o,X.s₀.heap.get? b = some o -> b ≠ X.env.locals:=fun b o e => Nat.ne_of_lt (Nat.lt_of_lt_of_le (Heap.lt_size e) I.ok.above)
 have neC:∀ b o,X.s₀.heap.get? b = some o -> b ∉ X.ex -> b ∉ ch:=fun b o e hx hb => by
  rcases (hch b hb).1 with z | z
  ·exact hx z
  ·exact absurd (Nat.lt_of_lt_of_le (Heap.lt_size e) z) (Nat.lt_irrefl _)
 have cellK:∀ x c,X.env.cells.lookup x = some c -> ∀ v,s.heap.IsCell c v -> h'.IsCell c v:=fun x c e v ⟨o,ho,hd⟩ => by
  have nch:c ∉ ch:=fun z => (hch c z).2.2.1 x c e rfl
  by_cases hc:c ∈ X.fs
  ·obtain ⟨sl,q⟩:=slot c o (I.cne x c e) hc nch ho (I.freeC x c e)
   exact ⟨_,q,hd⟩
  ·exact ⟨o,keep c o (I.cne x c e) hc nch ho (I.freeC x c e),hd⟩
 refine ⟨I.ok,I.os,hg,⟨fun b o e n hb hx => ?_,fun b o e n hb hx => ?_,fun b o e n hx => ?_,fun b o e hx => ?_,fun b xs e => tups b xs (I.base.tups b xs e),fun b o xs e => frzs b o xs (I.base.frzs b o xs e),fun b ps e => ?_⟩,?_,fun x c e => ?_,?_,fun x c e => ?_,fun p hp => ?_,hok,I.len⟩
 ·exact keep b o (neL b o e) hb (neC b o e hx) (I.base.keep b o e n hb hx) (I.base.free b o e n hx)
 ·obtain ⟨sl,e1⟩:=I.base.slot b o e n hb hx
  obtain ⟨sl',e2⟩:=slot b _ (neL b o e) hb (neC b o e hx) e1 (I.base.free b o e n hx)
  exact ⟨sl',e2⟩
 ·obtain ⟨o',e1⟩:=I.base.there b o e hx
  exact free b o' (neC b o e hx) e1 (I.base.free b o e n hx)
 ·obtain ⟨o',e1⟩:=I.base.there b o e hx
  exact there b o' (neC b o e hx) e1
 ·obtain ⟨m1,e1⟩:=I.base.tbls b ps e
  obtain ⟨m2,e2⟩:=tbls b _ e1
  exact ⟨m1 ++ m2,by rw [e2,Array.append_assoc]⟩
 ·obtain ⟨m,hn,hl⟩:=I.loc
  refine ⟨m,ns m hn,fun i x v e1 e2 e3 => ?_⟩
  obtain ⟨u,r,l⟩:=hl i x v e1 e2 e3
  refine ⟨u,r,?_⟩
  rcases l with l | ⟨k,c,e,z⟩
  ·exact .inl l
  ·exact .inr ⟨k,c,e,cellK x c e _ z⟩
 ·obtain ⟨v,z⟩:=I.cell x c e
  exact ⟨v,cellK x c e v z⟩
 ·obtain ⟨m,⟨o,_,_,ho,_⟩,_⟩:=I.loc
  exact free _ o (fun z => (hch _ z).2.1 rfl) ho I.free
 ·obtain ⟨v,o,ho,hd⟩:=I.cell x c e
  exact free c o (fun z => (hch c z).2.2.1 x c e rfl) ho (I.freeC x c e)
 ·obtain ⟨e,n,ne,nf,d⟩:=I.pin p hp
  have nch:p.1 ∉ ch:=fun z => (hch p.1 z).2.2.2 p hp rfl
  exact ⟨keep p.1 p.2 ne nf nch e n,free p.1 p.2 nch e n,ne,nf,d⟩
theorem Inv.un {t':Nat} (I:Inv X pins σ H s) (u:Un X.fs [] H H' s.heap h') (hok:HOk X.prog X.w H' h'):Inv X pins σ H' { s with heap:=h',toks:=t' }:=by
 obtain ⟨m,⟨o,es,ep,ho,r⟩,_⟩:=id I.loc
 obtain ⟨sl,hL⟩:=u.any ho I.free (by simp)
 exact I.step (g':=s.gens) (d':=s.drawn) (ch:=[]) (fun _ z => nomatch z) (fun b o _ hb _ e n => u.keep b o e n hb (by simp)) (fun b o _ hb _ e n => u.slot b o e n hb (by simp)) (fun b o _ e n => u.free b o e n (by simp)) (fun b o _ e => u.there b o e (by simp)) u.tups u.frzs u.tbls (fun m' hm => by
  obtain ⟨o',es',ep',ho',r'⟩:=hm
  rw [ho] at ho'; cases ho'
  exact ⟨_,es',ep',hL,r'⟩) hok I.bare
theorem Inv.call {g':Array GenState} {t':Nat} {d':Drawn} {ch:List Addr} (I:Inv X pins σ H s) (u:Un (frs X.stack) ch H H' s.heap h') (hok:HOk X.prog X.w H' h') (hg:AllBare g')
  (hch:∀ b ∈ ch,(b ∈ X.ex \/ X.s₀.heap.objs.size <= b) /\ b ≠ X.env.locals /\ (∀ x c,X.env.cells.lookup x = some c -> c ≠ b) /\ ∀ p ∈ X.pn ++ pins,p.1 ≠ b) :
  Inv X pins σ H' { s with heap:=h',gens:=g',drawn:=d',toks:=t' }:=by
 obtain ⟨m,⟨o,es,ep,ho,r⟩,_⟩:=id I.loc
 obtain ⟨sl,hL⟩:=u.any ho I.free fun z => (hch _ z).2.1 rfl
 exact I.step (ch:=ch) hch (fun b o hL hb hc e n => u.keep b o e n (fun z => (List.mem_cons.mp (I.stkSub b z)).elim hL hb) hc) (fun b o _ _ hc e n => u.any e n hc) (fun b o hc e n => u.free b o e n hc) (fun b o hc e => u.there b o e hc) u.tups u.frzs u.tbls (fun m' hm => by
  obtain ⟨o',es',ep',ho',r'⟩:=hm
  rw [ho] at ho'; cases ho'
  exact ⟨_,es',ep',hL,r'⟩) hok hg
theorem Inv.turned {t':Nat} {it:Addr} (I:Inv X pins σ H s) (k:∀ b o,b ≠ it -> s.heap.get? b = some o -> h'.get? b = some o) (hn:H it = none) (hL:it ≠ X.env.locals)
  (h1:it ∈ X.ex \/ X.s₀.heap.objs.size <= it) (h2:∀ x c,X.env.cells.lookup x = some c -> c ≠ it) (h3:∀ p ∈ X.pn ++ pins,p.1 ≠ it):Inv X pins σ H { s with heap:=h',toks:=t' }:=by
 have nit:∀ b u,H b = some u -> b ≠ it:=fun b u e z => by rw [z,hn] at e; cases e
 refine I.step (g':=s.gens) (d':=s.drawn) (ch:=[it]) (fun b hb => ?_) (fun b o _ _ hc e _ => k b o (fun z => hc (by simp [z])) e) (fun b o _ _ hc e _ => ⟨o.slots,k b o (fun z => hc (by simp [z])) e⟩) (fun _ _ _ _ n => n)
  (fun b o hc e => ⟨o,k b o (fun z => hc (by simp [z])) e⟩) (fun _ _ e => e) (fun _ _ _ e => e) (fun b ps e => ⟨#[],by rw [e]; simp⟩) (fun m hm => ?_) (fun b u e => ?_) I.bare
 ·have e:b = it:=by simpa using hb
  subst e
  exact ⟨h1,hL,h2,h3⟩
 ·obtain ⟨o,es,ep,ho,r⟩:=hm
  exact ⟨o,es,ep,k _ o (Ne.symm hL) ho,r⟩
 ·refine (I.hok b u e).stay (fun c v hc q => k c v ?_ q) (fun _ q => q) fun _ _ q => q
  rcases hc with z | z
  ·rw [z]; exact nit b u e
  ·exact nit c _ z
theorem Inv.tok (I:Inv X pins σ H s) (t:Nat):Inv X pins σ H { s with toks:=t }:=I.un (h':=s.heap) (t':=t) Un.refl I.hok
theorem Inv.kept {t':Nat} (I:Inv X pins σ H s) (k:∀ b u,s.heap.get? b = some u -> h'.get? b = some u):Inv X pins σ H { s with heap:=h',toks:=t' }:=I.un (Un.kept k) (I.hok.kept k)
theorem Inv.laid {a:Addr} {o:HO} {t':Nat} (I:Inv X pins σ H s) (k:∀ b u,s.heap.get? b = some u -> h'.get? b = some u) (hp:s.heap.objs.size <= a) (new:ObjOk X.prog X.w (upd H a o) h' a o) :
  Inv X pins σ (upd H a o) { s with heap:=h',toks:=t' }:=I.un (Un.laid k hp (I.hok.fresh hp)) (I.hok.laid k hp new)
theorem Inv.write {x e:Addr} {o:HO} {t':Nat} (I:Inv X pins σ H s) (mu:Mut (H x)) (he:e = x \/ H e = some (.own x)) (k:∀ b u,b ≠ e -> s.heap.get? b = some u -> h'.get? b = some u) (heo:∃ u,h'.get? e = some u)
  (new:ObjOk X.prog X.w (upd H x o) h' x o):Inv X pins σ (upd H x o) { s with heap:=h',toks:=t' }:=I.un (Un.write mu he k heo) (I.hok.write mu he k heo new)
theorem Inv.pins_of {pins':List (Addr × Obj)} (I:Inv X pins σ H s) (h:∀ p ∈ pins',s.heap.get? p.1 = some p.2 /\ H p.1 = none /\ p.1 ≠ X.env.locals /\ p.1 ∉ X.fs /\ ∀ v,p.2.data ≠ .cell v):Inv X pins' σ H s :=
 ⟨I.ok,I.os,I.bare,I.base,I.loc,I.cell,I.free,I.freeC,fun p hp => (List.mem_append.mp hp).elim (fun z => I.pin p (List.mem_append_left _ z)) (h p),I.hok,I.len⟩
theorem nodup_ix {N:List Str} (hN:N.Nodup) {i j:Nat} {x:Str} (a:N[i]? = some x) (b:N[j]? = some x):i = j:=by
 obtain ⟨h1,e1⟩:=List.getElem?_eq_some_iff.mp a
 obtain ⟨h2,e2⟩:=List.getElem?_eq_some_iff.mp b
 exact (List.getElem_inj hN).mp (e1.trans e2.symm)
theorem store_ok2 {M:Model} {A:Around} {E:Value -> Shared -> Prop} {i:Nat} {x:Str} {v:V} {u:Value} {Q:Unit -> Shared -> Prop} (I:Inv X pins σ H s) (hN:X.N.Nodup) (hi:X.N[i]? = some x) (hx:Loc X.env.scope x) (r:RelV v u)
  (h:∀ s',Inv X pins (σ.set i (some v)) H s' -> (∃ a,Heap.SameBut a s.heap s'.heap /\ (a = X.env.locals \/ X.env.cells.lookup x = some a)) -> Q () s') (hf:X.fn x = true \/ X.env.scope.names.lookup x = some .local:=by first | exact .inl rfl | exact .inr rfl | assumption):wpAny M A (storeName X.env x u) Q E s:=by
 obtain ⟨m,hn,hl⟩:=id I.loc
 have hcls:(X.env.scope.kind == .class || (X.env.scope.kind == .module && X.env.locals != X.env.globals)) = false:=by rw [I.ok.kind]; rfl
 have hiσ:i < σ.length:=by rw [I.len]; exact (List.getElem?_eq_some_iff.mp hi).1
 have cne:=I.cne
 have tracked:∀ {a:Addr} {h':Heap},(∃ o,s.heap.get? a = some o /\ H a = none) -> Heap.SameBut a s.heap h' -> HOk X.prog X.w H h':=fun {a h'} ha hs b ob e => by
  obtain ⟨_,_,hfree⟩:=ha
  refine (I.hok b ob e).stay (fun c w' hc q => (hs.2 c ?_).trans q) (fun _ q => q) fun _ _ q => q
  rintro rfl
  rcases hc with rfl | hc
  ·rw [hfree] at e; cases e
  ·rw [hfree] at hc; cases hc
 rcases hx with hk | hk
 ·refine wpAny_storeName_local hk hn (fun h' hn' hs => ?_) hcls
  obtain ⟨oL,_,_,hoL,_⟩:=id hn
  refine h _ ⟨I.ok,I.os,I.bare,⟨fun b o e n hb hx => ?_,fun b o e n hb hx => ?_,I.base.free,fun b o e hx => ?_,I.base.tups,I.base.frzs,I.base.tbls⟩,⟨_,hn',fun j y v' e1 e2 e3 => ?_⟩,fun y c e => ?_,I.free,I.freeC,fun p hp => ?_,tracked ⟨oL,hoL,I.free⟩ hs,by simpa using I.len⟩ ⟨_,hs,.inl rfl⟩
  ·exact (hs.2 b (Nat.ne_of_lt (Nat.lt_of_lt_of_le (Heap.lt_size e) I.ok.above))).trans (I.base.keep b o e n hb hx)
  ·obtain ⟨sl,e1⟩:=I.base.slot b o e n hb hx
   exact ⟨sl,(hs.2 b (Nat.ne_of_lt (Nat.lt_of_lt_of_le (Heap.lt_size e) I.ok.above))).trans e1⟩
  ·obtain ⟨o',e1⟩:=I.base.there b o e hx
   exact ⟨o',(hs.2 b (Nat.ne_of_lt (Nat.lt_of_lt_of_le (Heap.lt_size e) I.ok.above))).trans e1⟩
  ·by_cases hj:j = i
   ·subst hj
    rw [hi] at e1; cases e1
    rw [List.getElem?_set_self hiσ] at e2
    cases e2
    exact ⟨u,r,.inl ⟨hk,by simp⟩⟩
   ·rw [List.getElem?_set_ne (Ne.symm hj)] at e2
    obtain ⟨u',r',q⟩:=hl j y v' e1 e2 e3
    refine ⟨u',r',?_⟩
    rcases q with ⟨k,e⟩ | ⟨k,c,e,z⟩
    ·refine .inl ⟨k,?_⟩
     have:y ≠ x:=fun e => hj (nodup_ix hN e1 (e ▸ hi))
     simp [this,e]
    ·exact .inr ⟨k,c,e,z.sameBut hs (cne y c e)⟩
  ·obtain ⟨w',z⟩:=I.cell y c e
   exact ⟨w',z.sameBut hs (cne y c e)⟩
  ·obtain ⟨e,n,ne,nf,d⟩:=I.pin p hp
   exact ⟨(hs.2 p.1 ne).trans e,n,ne,nf,d⟩
 ·have hfn:X.fn x = true:=by
   rcases hf with z | z
   ·exact z
   ·rw [z] at hk; cases hk
  obtain ⟨c,hc⟩:=I.ok.has x (.inl hk)
  obtain ⟨w',z⟩:=I.cell x c hc
  refine wpAny_storeName_cell I.ok.kind hk hc z (fun h' hc' hs => ?_)
  obtain ⟨oc,hoc,hocd⟩:=id z
  refine h { s with heap:=h' } ⟨I.ok,I.os,I.bare,⟨fun b o e n hb hx => ?_,fun b o e n hb hx => ?_,I.base.free,fun b o e hx => ?_,I.base.tups,I.base.frzs,I.base.tbls⟩,⟨m,hn.sameBut hs (Ne.symm (cne x c hc)),fun j y v' e1 e2 e3 => ?_⟩,fun y c' e => ?_,I.free,I.freeC,fun p hp => ?_,tracked ⟨oc,hoc,I.freeC x c hc⟩ hs,by simpa using I.len⟩ ⟨c,hs,.inr hc⟩
  ·exact (hs.2 b (Nat.ne_of_lt (Nat.lt_of_lt_of_le (Heap.lt_size e) (I.ok.cab x c hfn hc)))).trans (I.base.keep b o e n hb hx)
  ·obtain ⟨sl,e1⟩:=I.base.slot b o e n hb hx
   exact ⟨sl,(hs.2 b (Nat.ne_of_lt (Nat.lt_of_lt_of_le (Heap.lt_size e) (I.ok.cab x c hfn hc)))).trans e1⟩
  ·obtain ⟨o',e1⟩:=I.base.there b o e hx
   exact ⟨o',(hs.2 b (Nat.ne_of_lt (Nat.lt_of_lt_of_le (Heap.lt_size e) (I.ok.cab x c hfn hc)))).trans e1⟩
  ·by_cases hj:j = i
   ·subst hj
    rw [hi] at e1; cases e1
    rw [List.getElem?_set_self hiσ] at e2
    cases e2
    exact ⟨u,r,.inr ⟨.inl hk,c,hc,hc'⟩⟩
   ·rw [List.getElem?_set_ne (Ne.symm hj)] at e2
    obtain ⟨u',r',q⟩:=hl j y v' e1 e2 e3
    refine ⟨u',r',?_⟩
    rcases q with q | ⟨k,c',e,z'⟩
    ·exact .inl q
    ·refine .inr ⟨k,c',e,z'.sameBut hs ?_⟩
     rintro rfl
     exact hj (nodup_ix hN e1 (I.ok.inj _ _ _ e hc ▸ hi))
  ·by_cases hcc:c' = c
   ·subst hcc; exact ⟨_,hc'⟩
   ·obtain ⟨w2,z2⟩:=I.cell y c' e
    exact ⟨w2,z2.sameBut hs hcc⟩
  ·obtain ⟨e,n,ne,nf,d⟩:=I.pin p hp
   refine ⟨(hs.2 p.1 ?_).trans e,n,ne,nf,d⟩
   intro q
   rw [q,hoc] at e
   have q':oc = p.2:=Option.some.inj e
   exact d w' (by rw [<- q']; exact hocd)
theorem store_ok {M:Model} {A:Around} {E:Value -> Shared -> Prop} {i:Nat} {x:Str} {v:V} {u:Value} {Q:Unit -> Shared -> Prop} (I:Inv X pins σ H s) (hN:X.N.Nodup) (hi:X.N[i]? = some x) (hx:Loc X.env.scope x) (r:RelV v u)
  (h:∀ s',Inv X pins (σ.set i (some v)) H s' -> Q () s') (hf:X.fn x = true \/ X.env.scope.names.lookup x = some .local:=by first | exact .inl rfl | exact .inr rfl | assumption):wpAny M A (storeName X.env x u) Q E s :=
 store_ok2 I hN hi hx r (fun s' I' _ => h s' I') hf
theorem Inv.call' {s':Shared} {ch:List Addr} (I:Inv X pins σ H s) (ho:s'.os = s.os) (u:Un (frs X.stack) ch H H' s.heap s'.heap) (hok:HOk X.prog X.w H' s'.heap) (hg:AllBare s'.gens)
  (hch:∀ b ∈ ch,(b ∈ X.ex \/ X.s₀.heap.objs.size <= b) /\ b ≠ X.env.locals /\ (∀ x c,X.env.cells.lookup x = some c -> c ≠ b) /\ ∀ p ∈ X.pn ++ pins,p.1 ≠ b):Inv X pins σ H' s':=by
 obtain ⟨h',g',d',t',o'⟩:=s'
 have e:o' = s.os:=ho
 subst e
 exact I.call (g':=g') (t':=t') (d':=d') u hok hg hch
end
noncomputable abbrev XK:=Value -> Option Addr -> Hp -> Prop
noncomputable abbrev St:=List (Option V)
noncomputable abbrev VK:=V -> Hp -> Prop
noncomputable abbrev TE:=St -> Hp -> VK -> Prop
noncomputable abbrev TT:=St -> Hp -> (Bool -> Hp -> Prop) -> Prop
noncomputable abbrev TA:=St -> Hp -> (List V -> Hp -> Prop) -> Prop
structure Ends where
 nx:St -> Hp -> Prop
 rt:VK
 bk:St -> Hp -> Prop:=fun _ _ => False
 ct:St -> Hp -> Prop:=fun _ _ => False
noncomputable abbrev TS:=Ends -> St -> Hp -> Prop
noncomputable def EP (X:Cx) (pins:List (Addr × Obj)) (σ:St) (Q:VK) (u:Value) (s':Shared):Prop:=∃ v H',Inv X pins σ H' s' /\ RelV v u /\ Q v H'
noncomputable def TP (X:Cx) (pins:List (Addr × Obj)) (σ:St) (Q:Bool -> Hp -> Prop) (b:Bool) (s':Shared):Prop:=∃ H',Inv X pins σ H' s' /\ Q b H'
noncomputable def AP (X:Cx) (pins:List (Addr × Obj)) (σ:St) (Q:List V -> Hp -> Prop) (us:List Value) (s':Shared):Prop:=∃ vs H',Inv X pins σ H' s' /\ Vals vs us /\ Q vs H'
noncomputable def SP (X:Cx) (pins:List (Addr × Obj)) (D:Ends) (f:Flow) (s':Shared):Prop :=
 match f with
 | .next => ∃ σ' H',Inv X pins σ' H' s' /\ D.nx σ' H'
 | .brk => ∃ σ' H',Inv X pins σ' H' s' /\ D.bk σ' H'
 | .cont => ∃ σ' H',Inv X pins σ' H' s' /\ D.ct σ' H'
 | .ret u => ∃ v σ' H',Inv X pins σ' H' s' /\ RelV v u /\ D.rt v H'
noncomputable def PE (X:Cx) (e:Expr) (t:TE):Prop :=
 ∀ (pins:List (Addr × Obj)) (s:Shared) (σ:St) (H:Hp) (Q:VK),Inv X pins σ H s -> t σ H Q -> wpAny (model X.prog X.w) X.A (eval e X.env) (EP X pins σ Q) X.xe s
noncomputable def PT (X:Cx) (e:Expr) (t:TT):Prop :=
 ∀ (pins:List (Addr × Obj)) (s:Shared) (σ:St) (H:Hp) (Q:Bool -> Hp -> Prop),Inv X pins σ H s -> t σ H Q -> wpAny (model X.prog X.w) X.A (isTrue e X.env (eval e X.env)) (TP X pins σ Q) X.xe s
noncomputable def PW (X:Cx) (e:Expr) (t:TT):Prop :=
 ∀ (whole:Sem Value) (pins:List (Addr × Obj)) (s:Shared) (σ:St) (H:Hp) (Q:Bool -> Hp -> Prop),Inv X pins σ H s -> t σ H Q -> wpAny (model X.prog X.w) X.A (isTrue e X.env whole) (TP X pins σ Q) X.xe s
theorem PW.pt {X:Cx} {e:Expr} {t:TT} (h:PW X e t):PT X e t:=h _
noncomputable def PA (X:Cx) (es:List Expr) (t:TA):Prop :=
 ∀ (pos:Pos) (pins:List (Addr × Obj)) (s:Shared) (σ:St) (H:Hp) (Q:List V -> Hp -> Prop),Inv X pins σ H s -> t σ H Q -> wpAny (model X.prog X.w) X.A (spliced (backTo pos (starEach es X.env))) (AP X pins σ Q) X.xe s
noncomputable def PS (X:Cx) (st:Stmt) (t:TS):Prop :=
 ∀ (pins:List (Addr × Obj)) (s:Shared) (σ:St) (H:Hp) (D:Ends),Inv X pins σ H s -> t D σ H -> wpAny (model X.prog X.w) X.A (exec st X.env) (SP X pins D) X.xe s
noncomputable def PSs (X:Cx) (st:List Stmt) (t:TS):Prop :=
 ∀ (pins:List (Addr × Obj)) (s:Shared) (σ:St) (H:Hp) (D:Ends),Inv X pins σ H s -> t D σ H -> wpAny (model X.prog X.w) X.A (execs st X.env) (SP X pins D) X.xe s
theorem thn {α:Type} {t:Sem α} {Q Q':α -> Shared -> Prop} {M:Model} {A:Around} {E:Value -> Shared -> Prop} {s:Shared} (h:wpAny M A t Q E s) (hQ:∀ a s,Q a s -> Q' a s):wpAny M A t Q' E s:=wpAny_mono h hQ fun _ _ x => x
end L2
namespace L2
open PySem PySem.Spec PyProof.Rows
section
variable {X:Cx}
theorem bin {a b:Expr} {ta tb:TE} (ha:PE X a ta) (hb:PE X b tb) {pins:List (Addr × Obj)} {s:Shared} {σ:St} {H:Hp} {R:V -> V -> Hp -> Prop} (I:Inv X pins σ H s) (h:ta σ H fun x H1 => tb σ H1 fun y H2 => R x y H2)
  {α:Type} {Q:α -> Shared -> Prop} {f:Value -> Value -> Sem α}
  (hf:∀ v u s2 x y H2,Inv X pins σ H2 s2 -> RelV x v -> RelV y u -> R x y H2 -> wpAny (model X.prog X.w) X.A (f v u) Q X.xe s2) :
  wpAny (model X.prog X.w) X.A (eval a X.env) (fun v s₁ => wpAny (model X.prog X.w) X.A (eval b X.env) (fun u s₂ => wpAny (model X.prog X.w) X.A (f v u) Q X.xe s₂) X.xe s₁) X.xe s:=by
 refine thn (ha pins s σ H _ I h) fun v s1 ⟨x,H1,I1,r1,q1⟩ => ?_
 refine thn (hb pins s1 σ H1 _ I1 q1) fun u s2 ⟨y,H2,I2,r2,q2⟩ => ?_
 exact hf v u s2 x y H2 I2 r1 r2 q2
noncomputable def tVar (i:Nat):TE:=fun σ H Q => ∃ v,σ[i]? = some (some v) /\ Q v H
noncomputable def tC (v:V):TE:=fun _ H Q => Q v H
theorem pe_var {i:Nat} {x:Str} {pos:Pos} (hN:X.N[i]? = some x) (hv:Vis X.env.scope x) (hd:(x == ("__debug__":Str)) = false:=by decide) (hcd:(x == ("__classdict__":Str)) = false:=by decide):PE X (.Name x pos) (tVar i):=by
 intro pins s σ H Q I h
 obtain ⟨v,e,h⟩:=h
 obtain ⟨m,hn,hl⟩:=I.loc
 obtain ⟨u,r,l⟩:=hl i x v hN e hv
 have fin:EP X pins σ Q u s:=⟨v,H,I,r,h⟩
 rcases l with ⟨hk,hm⟩ | ⟨hk,c,hc,hcell⟩
 ·exact wpAny_Name (wpAny_loadName_local I.ok.kind hk hn hm fin) hd
 ·rcases hk with hk | hk
  ·exact wpAny_Name (wpAny_loadName_cell I.ok.kind hk hc hcell fin) hd
  ·exact wpAny_Name (wpAny_loadName_free I.ok.kind hk hc hcell fin hcd) hd
theorem pe_int {i j pos}:PE X (.Constant (.int i) j pos) (tC (.int i)):=fun _ _ _ H _ I h => wpAny_Constant_int ⟨.int i,H,I.tok _,⟨_,rfl⟩,h⟩
theorem pe_bl {b j pos}:PE X (.Constant (.bool b) j pos) (tC (.bl b)):=fun _ _ _ H _ I h => Constant_bool ⟨.bl b,H,I,rfl,h⟩
theorem pe_non {j pos}:PE X (.Constant .none j pos) (tC .non):=fun _ _ _ H _ I h => Constant_none ⟨.non,H,I,rfl,h⟩
theorem pe_str {x j pos}:PE X (.Constant (.str x) j pos) (tC (.str x)):=fun _ _ _ H _ I h => Calls.Constant_str ⟨.str x,H,I.tok _,⟨_,rfl⟩,h⟩
noncomputable def Gl (X:Cx) (x:Str):Prop:=X.env.kindOf x = some .globalImplicit
theorem ld_glob {E:Value -> Shared -> Prop} {pins:List (Addr × Obj)} {s:Shared} {σ:St} {H:Hp} {x:Str} {u:Value} {pos:Pos} {Q:Value -> Shared -> Prop} (I:Inv X pins σ H s) (hg:Gl X x) (hm:X.mg x = some u) (h:Q u s)
  (hd:(x == ("__debug__":Str)) = false:=by decide):wpAny (model X.prog X.w) X.A (eval (.Name x pos) X.env) Q E s :=
 Calls.Name_function_global I.ok.kind hg (Calls.loadGlobal_global (by rw [I.ok.glob]; exact I.mod.glob.keeps I.bk) hm h) hd
theorem ld_blt {E:Value -> Shared -> Prop} {pins:List (Addr × Obj)} {s:Shared} {σ:St} {H:Hp} {x:Str} {u:Value} {pos:Pos} {Q:Value -> Shared -> Prop} (I:Inv X pins σ H s) (hg:Gl X x) (hm:X.mg x = none) (hv:bootBuiltins x = some u) (h:Q u s)
  (hn:x ≠ "__name__":=by decide) (hd:(x == ("__debug__":Str)) = false:=by decide):wpAny (model X.prog X.w) X.A (eval (.Name x pos) X.env) Q E s:=by
 obtain ⟨mb,h1,h2⟩:=I.mod.blt
 exact Calls.Name_function_global I.ok.kind hg (Calls.loadGlobal_builtin (by rw [I.ok.glob]; exact I.mod.glob.keeps I.bk) hm (by rw [I.ok.blt]; exact h1.keeps I.bk) ((h2 x hn).trans hv) h) hd
theorem pe_glob {x:Str} {v:V} {u:Value} {pos:Pos} (hg:Gl X x) (hm:X.mg x = some u) (r:RelV v u) (hd:(x == ("__debug__":Str)) = false:=by decide):PE X (.Name x pos) (tC v) :=
 fun _ _ _ H _ I h => ld_glob I hg hm ⟨v,H,I,r,h⟩ hd
theorem pe_bltn {x:Str} {v:V} {u:Value} {pos:Pos} (hg:Gl X x) (hm:X.mg x = none) (hv:bootBuiltins x = some u) (r:RelV v u) (hn:x ≠ "__name__":=by decide) (hd:(x == ("__debug__":Str)) = false:=by decide):PE X (.Name x pos) (tC v) :=
 fun _ _ _ H _ I h => ld_blt I hg hm hv ⟨v,H,I,r,h⟩ hn hd
variable {a b:Expr} {ta tb:TE} {pos:Pos}
noncomputable def PC (X:Cx) (op:CmpOp) (a b:Expr) (t:TE):Prop :=
 ∀ (pins:List (Addr × Obj)) (s:Shared) (σ:St) (H:Hp) (Q:VK),Inv X pins σ H s -> t σ H Q ->
  wpAny (model X.prog X.w) X.A (eval a X.env) (fun v s₁ => wpAny (model X.prog X.w) X.A (eval b X.env) (fun u s₂ => wpAny (model X.prog X.w) X.A (compareOp op v u) (EP X pins σ Q) X.xe s₂) X.xe s₁) X.xe s
noncomputable def tB (t:TE):TT:=fun σ H Q => t σ H fun x H1 => ∃ c,x = .bl c /\ Q c H1
theorem pe_cmp {op:CmpOp} {t:TE} (h:PC X op a b t) (h1:behindInMarks op b = false:=by first | exact nobehind _ (by decide) (by decide) | rfl):PE X (.Compare a [op] [b] pos) t:=fun pins s σ H Q I hw => wpAny_Compare1 (h pins s σ H Q I hw) h1
theorem pt_cmp {op:CmpOp} {t:TE} (h:PC X op a b t) (h1:behindInMarks op b = false:=by first | exact nobehind _ (by decide) (by decide) | rfl):PT X (.Compare a [op] [b] pos) (tB t):=by
 intro pins s σ H Q I hw
 refine wpAny_isTrue_Compare1 (thn (h pins s σ H _ I hw) fun v s1 h1 => thn h1 fun u s2 h2 => thn h2 fun c s3 ⟨x,H1,I1,r1,q1⟩ => ?_) h1
 obtain ⟨d,rfl,q⟩:=q1
 cases r1
 exact wpAny_truthy_bool ⟨H1,I1,q⟩
theorem pt_val {e:Expr} {t:TE} (h:PE X e t) (he:∀ whole,isTrue e X.env whole = (do let v <- whole; standAt e.pos; holding [v] (truthy v)):=by intro _; rfl):PT X e (tB t):=by
 intro pins s σ H Q I hw
 refine isTrue_plain (thn (h pins s σ H _ I hw) fun v s1 ⟨x,H1,I1,r1,q1⟩ => ?_) (he _)
 obtain ⟨d,rfl,q⟩:=q1
 cases r1
 exact wpAny_truthy_bool ⟨H1,I1,q⟩
variable {tA tB':TT} {rest:List Expr}
noncomputable def tAnd (t u:TT):TT:=fun σ H Q => t σ H fun c H1 => if c = true then u σ H1 Q else Q false H1
noncomputable def tOr (t u:TT):TT:=fun σ H Q => t σ H fun c H1 => if c = true then Q true H1 else u σ H1 Q
noncomputable def tNot (t:TT):TT:=fun σ H Q => t σ H fun c H1 => Q (!c) H1
theorem pw_and1 (ha:PT X a tA):PW X (.BoolOp .And [a] pos) tA:=by
 intro wh pins s σ H Q I h
 refine isTrue_and (thn (ha pins s σ H Q I h) fun c s1 e => ?_)
 cases c with
 | true => exact isTrue_and_nil e
 | false => exact e
theorem pw_or1 (ha:PT X a tA):PW X (.BoolOp .Or [a] pos) tA:=by
 intro wh pins s σ H Q I h
 refine isTrue_or (thn (ha pins s σ H Q I h) fun c s1 e => ?_)
 cases c with
 | false => exact isTrue_or_nil e
 | true => exact e
theorem pw_and (ha:PT X a tA) (hb:PW X (.BoolOp .And (b :: rest) pos) tB'):PW X (.BoolOp .And (a :: b :: rest) pos) (tAnd tA tB'):=by
 intro wh pins s σ H Q I h
 refine isTrue_and (thn (ha pins s σ H _ I h) fun c s1 ⟨H1,I1,q1⟩ => ?_)
 cases c with
 | true => exact hb wh pins s1 σ H1 Q I1 q1
 | false => exact ⟨H1,I1,q1⟩
theorem pw_or (ha:PT X a tA) (hb:PW X (.BoolOp .Or (b :: rest) pos) tB'):PW X (.BoolOp .Or (a :: b :: rest) pos) (tOr tA tB'):=by
 intro wh pins s σ H Q I h
 refine isTrue_or (thn (ha pins s σ H _ I h) fun c s1 ⟨H1,I1,q1⟩ => ?_)
 cases c with
 | true => exact ⟨H1,I1,q1⟩
 | false => exact hb wh pins s1 σ H1 Q I1 q1
theorem pt_not (ha:PT X a tA):PT X (.UnaryOp .Not a pos) (tNot tA):=by
 intro pins s σ H Q I h
 exact isTrue_not (ha pins s σ H (fun c H1 => Q (!c) H1) I h)
noncomputable def tAndV (ta tb:TE):TE:=fun σ H Q => ta σ H fun x H1 => ∃ c,x = .bl c /\ if c = true then tb σ H1 Q else Q (.bl false) H1
noncomputable def tOrV (ta tb:TE):TE:=fun σ H Q => ta σ H fun x H1 => ∃ c,x = .bl c /\ if c = true then Q (.bl true) H1 else tb σ H1 Q
noncomputable def tNotV (ta:TE):TE:=fun σ H Q => ta σ H fun x H1 => ∃ c,x = .bl c /\ Q (.bl (!c)) H1
theorem pe_one {op} {t:TE} (h:PE X a t):PE X (.BoolOp op [a] pos) t:=fun pins s σ H Q I hw => BoolOp_one (h pins s σ H Q I hw)
theorem pe_and (ha:PE X a ta) (hb:PE X (.BoolOp .And (b :: rest) pos) tb):PE X (.BoolOp .And (a :: b :: rest) pos) (tAndV ta tb):=by
 intro pins s σ H Q I h
 refine BoolOp_and (thn (ha pins s σ H _ I h) fun v s1 ⟨x,H1,I1,r1,q1⟩ => ?_)
 obtain ⟨c,rfl,q1⟩:=q1
 cases r1
 refine wpAny_truthy_bool ?_
 cases c with
 | true => exact hb pins s1 σ H1 Q I1 q1
 | false => exact ⟨.bl false,H1,I1,rfl,q1⟩
theorem pe_or (ha:PE X a ta) (hb:PE X (.BoolOp .Or (b :: rest) pos) tb):PE X (.BoolOp .Or (a :: b :: rest) pos) (tOrV ta tb):=by
 intro pins s σ H Q I h
 refine BoolOp_or (thn (ha pins s σ H _ I h) fun v s1 ⟨x,H1,I1,r1,q1⟩ => ?_)
 obtain ⟨c,rfl,q1⟩:=q1
 cases r1
 refine wpAny_truthy_bool ?_
 cases c with
 | false => exact hb pins s1 σ H1 Q I1 q1
 | true => exact ⟨.bl true,H1,I1,rfl,q1⟩
theorem pe_not (ha:PE X a ta):PE X (.UnaryOp .Not a pos) (tNotV ta):=by
 intro pins s σ H Q I h
 refine UnaryOp_ (thn (ha pins s σ H _ I h) fun v s1 ⟨x,H1,I1,r1,q1⟩ => ?_)
 obtain ⟨c,rfl,q1⟩:=q1
 cases r1
 exact not_of (wpAny_truthy_bool ⟨.bl (!c),H1,I1,rfl,q1⟩)
noncomputable def tIf (t:TT) (ta tb:TE):TE:=fun σ H Q => t σ H fun c H1 => if c = true then ta σ H1 Q else tb σ H1 Q
theorem pe_ifExp {c:Expr} (hc:PT X c tA) (ha:PE X a ta) (hb:PE X b tb):PE X (.IfExp c a b pos) (tIf tA ta tb):=by
 intro pins s σ H Q I h
 refine wpAny_IfExp (thn (hc pins s σ H _ I h) fun d s1 ⟨H1,I1,q1⟩ => ?_)
 cases d with
 | true => exact ha pins s1 σ H1 Q I1 q1
 | false => exact hb pins s1 σ H1 Q I1 q1
end
end L2
namespace L2
open PySem PySem.Spec PyProof.Rows
noncomputable def SqL (K:PySem.W.Frag) (H:Hp) (a:Addr) (xs:List V):Prop :=
 Rd H a (.lst xs) \/
  ∃ (o:Obj) (its:Array Value) (n:Nat),K.lookup a = some o /\ o.cls = .type "list" /\ o.dict = none /\ o.data = .seq its n /\ its.size <= sizeLine /\ Vals xs its.toList
noncomputable def SqT (K:PySem.W.Frag) (H:Hp) (a:Addr) (xs:List V):Prop :=
 Rd H a (.tup xs) \/
  ∃ (o:Obj) (its:Array Value) (n:Nat),K.lookup a = some o /\ o.cls = .type "tuple" /\ o.data = .seq its n /\ its.size <= sizeLine /\ Vals xs its.toList
noncomputable def absV:Value -> Option V
 | .none => some .non
 | .bool b => some (.bl b)
 | .int i _ => some (.int i)
 | .str x _ => some (.str x)
 | .bytes b _ => some (.byt b)
 | .float b _ => some (.flt b)
 | .ref a => some (.ref a)
 | .type n => some (.ty n)
 | _ => none
theorem RelV.abs {x:V} {u:Value} (r:RelV x u):absV u = some x:=by
 cases x with
 | non => cases r; rfl
 | bl _ => cases r; rfl
 | int _ => obtain ⟨t,rfl⟩:=r; rfl
 | str _ => obtain ⟨t,rfl⟩:=r; rfl
 | byt _ => obtain ⟨t,rfl⟩:=r; rfl
 | flt _ => obtain ⟨t,rfl⟩:=r; rfl
 | ref _ => cases r; rfl
 | ty _ => cases r; rfl
theorem RelV.inj {x y:V} {u:Value} (r:RelV x u) (q:RelV y u):x = y:=Option.some.inj (r.abs.symm.trans q.abs)
theorem Vals.inj:∀ {xs ys:List V} {us:List Value},Vals xs us -> Vals ys us -> xs = ys
 | _,_,_,.nil,.nil => rfl
 | _,_,_,.cons r t,.cons r' t' => by rw [r.inj r',Vals.inj t t']
section
variable {X:Cx} {pins:List (Addr × Obj)} {σ:St} {H:Hp} {s:Shared} {a:Addr} {xs ys:List V}
theorem SqL.of {K:PySem.W.Frag} (h:H a = some (.lst xs)):SqL K H a xs:=.inl (.inl h)
theorem SqT.of {K:PySem.W.Frag} (h:H a = some (.tup xs)):SqT K H a xs:=.inl (.inl h)
theorem Inv.list (I:Inv X pins σ H s) (h:SqL X.K H a xs):∃ its:List Value,Vals xs its /\ PlainL s.heap a its.toArray /\ xs.length <= sizeLine:=by
 rcases h with h | ⟨o,its,n,hk,hc,hd,hs,hz,r⟩
 ·obtain ⟨z,its,n,r,e⟩:=h.ok I.hok
  exact ⟨its,r,⟨_,n,e,rfl,rfl,rfl⟩,z⟩
 ·refine ⟨its.toList,r,⟨o,n,I.kIn a o hk,hc,hd,by simpa using hs⟩,?_⟩
  have e:=r.length
  simp only [Array.length_toList] at e
  omega
theorem Inv.tuple (I:Inv X pins σ H s) (h:SqT X.K H a xs):∃ its:List Value,Vals xs its /\ IsTup s.heap a its.toArray /\ xs.length <= sizeLine:=by
 rcases h with h | ⟨o,its,n,hk,hc,hs,hz,r⟩
 ·obtain ⟨z,its,r,p⟩:=h.ok I.hok
  exact ⟨its,r,p,z⟩
 ·refine ⟨its.toList,r,⟨o,I.kIn a o hk,hc,n,by simpa using hs⟩,?_⟩
  have e:=r.length
  simp only [Array.length_toList] at e
  omega
theorem Inv.list_inj (I:Inv X pins σ H s) (h:SqL X.K H a xs) (h':SqL X.K H a ys):xs = ys:=by
 obtain ⟨its,r,⟨o,n,e,_,_,d⟩,_⟩:=I.list h
 obtain ⟨its',r',⟨o',n',e',_,_,d'⟩,_⟩:=I.list h'
 rw [e] at e'; cases e'
 rw [d] at d'
 injection d' with d1 _
 have:its = its':=by simpa using congrArg Array.toList d1
 subst this
 exact r.inj r'
theorem Inv.tuple_inj (I:Inv X pins σ H s) (h:SqT X.K H a xs) (h':SqT X.K H a ys):xs = ys:=by
 obtain ⟨its,r,⟨o,e,_,n,d⟩,_⟩:=I.tuple h
 obtain ⟨its',r',⟨o',e',_,n',d'⟩,_⟩:=I.tuple h'
 rw [e] at e'; cases e'
 rw [d] at d'
 injection d' with d1 _
 have:its = its':=by simpa using congrArg Array.toList d1
 subst this
 exact r.inj r'
end
noncomputable abbrev Cx.wish (X:Cx) (E:Value -> Shared -> Prop):Cx:={ X with xe:=E }
noncomputable abbrev Cx.nox (X:Cx):Cx:=X.wish fun _ _ => False
theorem Cx.Ok.wish {X:Cx} (ok:X.Ok) (E:Value -> Shared -> Prop):(X.wish E).Ok :=
 ⟨ok.mod,ok.kind,ok.glob,ok.blt,ok.above,ok.inj,ok.has,ok.cab,ok.hd,ok.frames,ok.stk,ok.exf,ok.bs,ok.bsz,ok.noex,ok.exfs,ok.funs,ok.frf⟩
theorem Cx.Ok.unwish {X:Cx} {E:Value -> Shared -> Prop} (ok:(X.wish E).Ok):X.Ok :=
 ⟨ok.mod,ok.kind,ok.glob,ok.blt,ok.above,ok.inj,ok.has,ok.cab,ok.hd,ok.frames,ok.stk,ok.exf,ok.bs,ok.bsz,ok.noex,ok.exfs,ok.funs,ok.frf⟩
section
variable {X:Cx} {pins:List (Addr × Obj)} {σ:St} {H:Hp} {s:Shared} {E:Value -> Shared -> Prop}
theorem Inv.wish (I:Inv X pins σ H s) (E:Value -> Shared -> Prop):Inv (X.wish E) pins σ H s:=⟨I.ok.wish E,I.os,I.bare,I.base,I.loc,I.cell,I.free,I.freeC,I.pin,I.hok,I.len⟩
theorem Inv.unwish (I:Inv (X.wish E) pins σ H s):Inv X pins σ H s:=⟨I.ok.unwish,I.os,I.bare,I.base,I.loc,I.cell,I.free,I.freeC,I.pin,I.hok,I.len⟩
theorem SP.unwish {D:Ends} {f:Flow} {s':Shared} (h:SP (X.wish E) pins D f s'):SP X pins D f s':=by
 cases f with
 | next => obtain ⟨σ',H',I,q⟩:=h; exact ⟨σ',H',I.unwish,q⟩
 | brk => obtain ⟨σ',H',I,q⟩:=h; exact ⟨σ',H',I.unwish,q⟩
 | cont => obtain ⟨σ',H',I,q⟩:=h; exact ⟨σ',H',I.unwish,q⟩
 | ret u => obtain ⟨v,σ',H',I,r,q⟩:=h; exact ⟨v,σ',H',I.unwish,r,q⟩
theorem PSs.nox {st:List Stmt} {t:TS} (h:PSs X.nox st t):PSs X st t:=fun pins s σ H D I hw =>
 wpAny_mono (h pins s σ H D (I.wish _) hw) (fun _ _ q => q.unwish) fun _ _ z => False.elim z
end
section
variable {X:Cx} {st:Stmt} {rest:List Stmt} {t u:TS} {e:Expr} {te:TE} {pos:Pos}
noncomputable def tNext:TS:=fun D σ H => D.nx σ H
noncomputable def tSeq (t u:TS):TS:=fun D σ H => t { D with nx:=u D } σ H
theorem pss_nil:PSs X [] tNext:=fun _ _ σ H _ I h => wpAny_execs_nil ⟨σ,H,I,h⟩
theorem pss_cons (h1:PS X st t) (h2:PSs X rest u):PSs X (st :: rest) (tSeq t u):=by
 intro pins s σ H D I h
 refine wpAny_execs_cons (thn (h1 pins s σ H { D with nx:=u D } I h) fun f s1 q => ?_)
 cases f with
 | next =>
  obtain ⟨σ',H',I',q⟩:=q
  exact h2 pins s1 σ' H' D I' q
 | ret v => exact q
 | brk => exact q
 | cont => exact q
theorem pss_one (h1:PS X st t):PSs X [st] t:=by
 intro pins s σ H D I h
 refine wpAny_execs_cons (thn (h1 pins s σ H D I h) fun f s1 q => ?_)
 cases f with
 | next => exact wpAny_execs_nil q
 | ret v => exact q
 | brk => exact q
 | cont => exact q
theorem Inv.quiet {pins:List (Addr × Obj)} {σ:St} {H:Hp} {s:Shared} (I:Inv X pins σ H s):interactive X.env = false:=by simp [interactive,I.ok.kind]
noncomputable def tDrop (te:TE):TS:=fun D σ H => te σ H fun _ H1 => D.nx σ H1
theorem ps_expr (he:PE X e te) (hs:swapsWith e none pos.line X.env = pure false:=by rfl):PS X (.Expr e pos) (tDrop te):=by
 intro pins s σ H D I h
 exact wpAny_Expr_any (thn (he pins s σ H _ I h) fun v s1 ⟨x,H1,I1,r1,q1⟩ => ⟨σ,H1,I1,q1⟩) I.quiet hs
noncomputable def tRet (te:TE):TS:=fun D σ H => te σ H D.rt
theorem ps_ret (he:PE X e te):PS X (.Return (some e) pos) (tRet te):=by
 intro pins s σ H D I h
 exact wpAny_Return_some (thn (he pins s σ H _ I h) fun v s1 ⟨x,H1,I1,r1,q1⟩ => ⟨x,σ,H1,I1,r1,q1⟩)
noncomputable def tIfS (c:TT) (t u:TS):TS:=fun D σ H => c σ H fun b H1 => if b = true then t D σ H1 else u D σ H1
theorem ps_if {c:Expr} {a b:List Stmt} {tc:TT} (hc:PT X c tc) (ha:PSs X a t) (hb:PSs X b u):PS X (.If c a b pos) (tIfS tc t u):=by
 intro pins s σ H D I h
 refine wpAny_If (thn (hc pins s σ H _ I h) fun d s1 ⟨H1,I1,q1⟩ => ?_)
 cases d with
 | true => exact ha pins s1 σ H1 D I1 q1
 | false => exact hb pins s1 σ H1 D I1 q1
noncomputable def tNever:TS:=fun _ _ _ => False
theorem ps_never:PS X st tNever:=fun _ _ _ _ _ _ h => h.elim
end
noncomputable abbrev TG:=V -> St -> Hp -> (St -> Hp -> Prop) -> Prop
noncomputable abbrev TGs:=List V -> St -> Hp -> (St -> Hp -> Prop) -> Prop
noncomputable def PG (X:Cx) (target:Expr) (t:TG):Prop :=
 ∀ (pins:List (Addr × Obj)) (s:Shared) (σ:St) (H:Hp) (v:V) (u:Value) (Q:St -> Hp -> Prop),Inv X pins σ H s -> RelV v u -> t v σ H Q ->
  wpAny (model X.prog X.w) X.A (assign target X.env u) (fun _ s' => ∃ σ' H',Inv X pins σ' H' s' /\ Q σ' H') X.xe s
noncomputable def PGs (X:Cx) (ts:List Expr) (t:TGs):Prop :=
 ∀ (pins:List (Addr × Obj)) (s:Shared) (σ:St) (H:Hp) (vs:List V) (us:List Value) (Q:St -> Hp -> Prop),Inv X pins σ H s -> Vals vs us -> t vs σ H Q ->
  wpAny (model X.prog X.w) X.A (assignInOrder ((assignEach ts X.env).map (·.2)) us) (fun _ s' => ∃ σ' H',Inv X pins σ' H' s' /\ Q σ' H') X.xe s
section
variable {X:Cx} {pos:Pos}
noncomputable def gName (i:Nat):TG:=fun v σ H Q => Q (σ.set i (some v)) H
theorem pg_name {i:Nat} {x:Str} (hN:X.N.Nodup) (hi:X.N[i]? = some x) (hx:Loc X.env.scope x) (hf:X.fn x = true \/ X.env.scope.names.lookup x = some .local:=by first | exact .inl rfl | exact .inr rfl | assumption):PG X (.Name x pos) (gName i):=by
 intro pins s σ H v u Q I r h
 exact wpAny_assign_Name (store_ok I hN hi hx r (fun s' I' => ⟨_,H,I',h⟩) hf)
noncomputable def gNil:TGs:=fun vs σ H Q => vs = [] /\ Q σ H
noncomputable def gCons (t:TG) (u:TGs):TGs:=fun vs σ H Q => ∃ v r,vs = v :: r /\ t v σ H fun σ' H' => u r σ' H' Q
theorem pgs_nil:PGs X [] gNil:=by
 intro pins s σ H vs us Q I r h
 obtain ⟨e,h⟩:=h
 subst e
 cases r
 exact assignInOrder_nil ⟨σ,H,I,h⟩
theorem pgs_cons {e:Expr} {es:List Expr} {t:TG} {u:TGs} (h1:PG X e t) (h2:PGs X es u)
  (hs:(assignEach (e :: es) X.env).map (·.2) = assign e X.env :: (assignEach es X.env).map (·.2):=by rfl):PGs X (e :: es) (gCons t u):=by
 intro pins s σ H vs us Q I r h
 obtain ⟨v,vr,e1,h⟩:=h
 subst e1
 cases r with
 | cons r rr =>
  rw [hs]
  refine assignInOrder_cons (thn (h1 pins s σ H _ _ _ I r h) fun _ s1 ⟨σ1,H1,I1,q1⟩ => ?_)
  exact h2 pins s1 σ1 H1 _ _ Q I1 rr q1
noncomputable def gTup (K:PySem.W.Frag) (n:Nat) (t:TGs):TG:=fun v σ H Q => ∃ a xs,v = .ref a /\ SqT K H a xs /\ xs.length = n /\ t xs σ H Q
theorem pg_tup {es:List Expr} {k:Nat} {t:TGs} {n:Nat} (hc:X.calm = true) (h:PGs X es t)
  (hn:(assignEach es X.env).length = n:=by rfl) (hst:(assignEach es X.env).findIdx? (·.1) = none:=by rfl):PG X (.Tuple es k pos) (gTup X.K n t):=by
 intro pins s σ H v u Q I r hw
 obtain ⟨a,xs,e1,hq,hl,hw⟩:=hw
 subst e1
 cases r
 obtain ⟨its,rv,ht,hz⟩:=I.tuple hq
 refine assign_Tuple_tuple (I.ok.hd hc) ht (by simp [hn,<- hl,rv.length]) hst fun h' hx => ?_
 have I1:Inv X pins σ H { s with heap:=h' }:=I.kept (t':=s.toks) fun b o e => hx b o (Nat.ne_of_lt (Heap.lt_size e)) e
 exact h pins _ σ H xs _ Q I1 (by simpa using rv) hw
noncomputable def tAsg (te:TE) (g:TG):TS:=fun D σ H => te σ H fun x H1 => g x σ H1 D.nx
theorem ps_set {i:Nat} {x:Str} {e:Expr} {te:TE} {pos':Pos} (hN:X.N.Nodup) (hi:X.N[i]? = some x) (hx:Loc X.env.scope x) (he:PE X e te) (hs:swapsWith e (some (.Name x pos')) pos.line X.env = pure false:=by rfl) (hf:X.fn x = true \/ X.env.scope.names.lookup x = some .local:=by first | exact .inl rfl | exact .inr rfl | assumption) :
  PS X (.Assign [.Name x pos'] e pos) (tAsg te (gName i)):=by
 intro pins s σ H D I h
 refine wpAny_Assign_Name (thn (he pins s σ H _ I h) fun v s1 ⟨y,H1,I1,r1,q1⟩ => ?_) hs
 exact store_ok I1 hN hi hx r1 (fun s2 I2 => ⟨_,H1,I2,q1⟩) hf
end
section
variable {X:Cx} {pos:Pos}
end
structure It where
 go:Nat -> Hp -> Prop
 yld:Nat -> Hp -> V -> Hp -> Prop
 stop:Nat -> Hp -> Prop
noncomputable def FpOk (X:Cx) (pins:List (Addr × Obj)) (H:Hp) (b:Addr):Prop :=
 H b = none /\ b ≠ X.env.locals /\ b ∉ X.fs /\ (b ∈ X.ex \/ X.s₀.heap.objs.size <= b) /\ (∀ x c,X.env.cells.lookup x = some c -> c ≠ b) /\ ∀ p ∈ X.pn ++ pins,p.1 ≠ b
theorem Inv.fpOk {X:Cx} {pins:List (Addr × Obj)} {σ:St} {H H':Hp} {s:Shared} {b:Addr} (I:Inv X pins σ H s) (hb:s.heap.objs.size <= b) (hn:H' b = none):FpOk X pins H' b:=by
 refine ⟨hn,Nat.ne_of_gt (Nat.lt_of_lt_of_le I.lt hb),I.nofs hb,.inr (Nat.le_trans I.sz hb),fun x c e z => ?_,fun p hp z => ?_⟩
 ·obtain ⟨v,q⟩:=I.cell x c e
  exact absurd (Nat.lt_of_lt_of_le q.lt (by rw [z]; exact hb)) (Nat.lt_irrefl _)
 ·exact absurd (Nat.lt_of_lt_of_le (Heap.lt_size (I.pin p hp).1) (by rw [z]; exact hb)) (Nat.lt_irrefl _)
structure Turn (P:Program) (w:World) (K:PySem.W.Frag) (tg:Expr) (J:It) (fp:List Addr) (it:Addr) (tn:Nat -> Heap -> Prop):Prop where
 mem:it ∈ fp
 obj:∀ i h,tn i h -> ∀ b ∈ fp,∃ o,h.get? b = some o /\ ∀ v,o.data ≠ .cell v
 keep:∀ i h h',tn i h -> (∀ b ∈ fp,∀ o,h.get? b = some o -> h'.get? b = some o) -> tn i h'
 item:∀ (X:Cx),X.prog = P -> X.w = w -> X.K = K -> X.calm = true -> ∀ (i:Nat) (pins:List (Addr × Obj)) (s:Shared) (σ:St) (H:Hp) (E:Value -> Shared -> Prop),Inv X pins σ H s -> (∀ b ∈ fp,FpOk X pins H b) -> tn i s.heap -> J.go i H ->
  wpAny (model P w) X.A (pyNext (.ref it)) (fun r s1 => ∃ u,r = some u /\
   wpAny (model P w) X.A (letOwnedTupleGo tg (.ref it) u) (fun _ s2 => ∃ x H',Inv X pins σ H' s2 /\ RelV x u /\ J.yld i H x H' /\ tn (i + 1) s2.heap /\ ∀ b ∈ fp,H' b = none) E s1) E s
 done:∀ (X:Cx),X.prog = P -> X.w = w -> X.K = K -> X.calm = true -> ∀ (i:Nat) (pins:List (Addr × Obj)) (s:Shared) (σ:St) (H:Hp) (E:Value -> Shared -> Prop),Inv X pins σ H s -> (∀ b ∈ fp,FpOk X pins H b) -> tn i s.heap -> J.stop i H ->
  wpAny (model P w) X.A (pyNext (.ref it)) (fun r s1 => r = none /\ Inv X pins σ H s1) E s
 self:∀ (A:Around) (i:Nat) (s:Shared) (Q:Value -> Shared -> Prop) (E:Value -> Shared -> Prop),tn i s.heap -> Q (.ref it) s -> wpAny (model P w) A (pyIter (.ref it)) Q E s
noncomputable abbrev TI:=St -> Hp -> (It -> Hp -> Prop) -> Prop
noncomputable def PIE (X:Cx) (pins:List (Addr × Obj)) (σ:St) (tg:Expr) (R:It -> Hp -> Prop) (itv:Value) (s2:Shared):Prop :=
 ∃ (it:Addr) (fp:List Addr) (tn:Nat -> Heap -> Prop) (J:It) (H':Hp),itv = .ref it /\ Inv X pins σ H' s2 /\ Turn X.prog X.w X.K tg J fp it tn /\ tn 0 s2.heap /\ (∀ b ∈ fp,FpOk X pins H' b) /\ R J H'
noncomputable def PI (X:Cx) (tg iter:Expr) (wi:TI):Prop :=
 ∀ (pins:List (Addr × Obj)) (s:Shared) (σ:St) (H:Hp) (R:It -> Hp -> Prop),Inv X pins σ H s -> wi σ H R ->
  wpAny (model X.prog X.w) X.A (eval iter X.env) (fun v s1 => wpAny (model X.prog X.w) X.A (pyIter v) (PIE X pins σ tg R) X.xe s1) X.xe s
theorem go_of {M:Model} {A:Around} {E:Value -> Shared -> Prop} {s:Shared} {tg:Expr} {it:Addr} {u:Value} {o:Obj} {n:String} {vs:Array Value} {Q:Unit -> Shared -> Prop} (ho:s.heap.get? it = some o) (hc:o.cls = .type n) (hd:o.data = .fields vs)
    (hn:["enumerate","zip","dict_itemiterator","dict_reverseitemiterator","odict_iterator","itertools.zip_longest","itertools.pairwise"].contains n = false) (hQ:Q () s):wpAny M A (letOwnedTupleGo tg (.ref it) u) Q E s:=by
  unfold letOwnedTupleGo
  cases tg <;> first
    | exact wpAny_pure hQ
    | (cases u <;> first
        | exact wpAny_pure hQ
        | (refine wpAny_bind (wpAny_load ho ?_)
           rw [hc,hd]
           show wpAny M A (if (["enumerate","zip","dict_itemiterator","dict_reverseitemiterator","odict_iterator","itertools.zip_longest","itertools.pairwise"].contains n && vs[0]? == some (rawInt _)) = true then _ else _) Q E s
           rw [if_neg (by intro h; rw [hn,Bool.false_and] at h; cases h)]
           exact wpAny_pure hQ))
noncomputable def Itl (K:PySem.W.Frag) (a:Addr):It :=
 ⟨fun i H => ∃ xs x,SqL K H a xs /\ xs[i]? = some x,fun i H x H' => H' = H /\ ∀ xs,SqL K H a xs -> xs[i]? = some x,fun i H => ∃ xs,SqL K H a xs /\ xs.length <= i⟩
noncomputable def Itt (K:PySem.W.Frag) (a:Addr):It :=
 ⟨fun i H => ∃ xs x,SqT K H a xs /\ xs[i]? = some x,fun i H x H' => H' = H /\ ∀ xs,SqT K H a xs -> xs[i]? = some x,fun i H => ∃ xs,SqT K H a xs /\ xs.length <= i⟩
noncomputable def Itr (lo:Int) (n:Nat):It:=⟨fun i _ => i < n,fun i H x H' => H' = H /\ x = .int (lo + i),fun i _ => n <= i⟩
theorem turn_list {P:Program} {w:World} {K:PySem.W.Frag} {tg:Expr} (a it:Addr):Turn P w K tg (Itl K a) [it] it (fun i h => h.IsListIter it a i) where
 mem:=by simp
 obj:=fun i h st b hb => by
  have e:b = it:=by simpa using hb
  subst e
  obtain ⟨o,e,c,d⟩:=st
  exact ⟨o,e,fun v z => by rw [d] at z; cases z⟩
 keep:=fun i h h' st k => st.at fun o e => k it (by simp) o e
 item:=by
  intro X hP hw hK hc i pins s σ H E I hf st hg
  subst hP hw hK
  obtain ⟨xs,x,hq,hx⟩:=hg
  obtain ⟨its,rv,p,hz⟩:=I.list hq
  obtain ⟨u,hu,ru⟩:=rv.get hx
  obtain ⟨f0,f1,f2,f3,f4,f5⟩:=hf it (by simp)
  refine wpAny_pyNext_list_item st p.isList (x:=u) (by simpa using hu) fun h' st' sb => ?_
  have I1:Inv X pins σ H { s with heap:=h' }:=I.turned (t':=s.toks) (fun b o hb e => (sb.2 b hb).trans e) f0 f1 f3 f4 f5
  obtain ⟨o,e,c,d⟩:=id st'
  exact ⟨u,rfl,go_of (s:={ s with heap:=h' }) e c d (by decide) ⟨x,H,I1,ru,⟨rfl,fun ys hy => by rw [I.list_inj hy hq]; exact hx⟩,st',fun b hb => (hf b hb).1⟩⟩
 done:=by
  intro X hP hw hK hc i pins s σ H E I hf st hg
  subst hP hw hK
  obtain ⟨xs,hq,hx⟩:=hg
  obtain ⟨its,rv,p,hz⟩:=I.list hq
  obtain ⟨f0,f1,f2,f3,f4,f5⟩:=hf it (by simp)
  have hl:=rv.length
  exact wpAny_pyNext_list_end (I.ok.hd hc) st p.isList (by simp; omega) fun h' eb => ⟨rfl,I.turned (t':=s.toks) (fun b o hb e => eb b o hb e) f0 f1 f3 f4 f5⟩
 self:=fun _ _ _ _ _ st h => wpAny_pyIter_listiter st h
theorem turn_tuple {P:Program} {w:World} {K:PySem.W.Frag} {tg:Expr} (a it:Addr):Turn P w K tg (Itt K a) [it] it (fun i h => h.IsTupleIter it a i) where
 mem:=by simp
 obj:=fun i h st b hb => by
  have e:b = it:=by simpa using hb
  subst e
  obtain ⟨o,e,c,d⟩:=st
  exact ⟨o,e,fun v z => by rw [d] at z; cases z⟩
 keep:=fun i h h' st k => st.at fun o e => k it (by simp) o e
 item:=by
  intro X hP hw hK hc i pins s σ H E I hf st hg
  subst hP hw hK
  obtain ⟨xs,x,hq,hx⟩:=hg
  obtain ⟨its,rv,p,hz⟩:=I.tuple hq
  obtain ⟨u,hu,ru⟩:=rv.get hx
  obtain ⟨f0,f1,f2,f3,f4,f5⟩:=hf it (by simp)
  refine wpAny_pyNext_tuple_item st (show s.heap.IsTuple a its.toArray from p) (x:=u) (by simpa using hu) fun h' st' sb => ?_
  have I1:Inv X pins σ H { s with heap:=h' }:=I.turned (t':=s.toks) (fun b o hb e => (sb.2 b hb).trans e) f0 f1 f3 f4 f5
  obtain ⟨o,e,c,d⟩:=id st'
  exact ⟨u,rfl,go_of (s:={ s with heap:=h' }) e c d (by decide) ⟨x,H,I1,ru,⟨rfl,fun ys hy => by rw [I.tuple_inj hy hq]; exact hx⟩,st',fun b hb => (hf b hb).1⟩⟩
 done:=by
  intro X hP hw hK hc i pins s σ H E I hf st hg
  subst hP hw hK
  obtain ⟨xs,hq,hx⟩:=hg
  obtain ⟨its,rv,p,hz⟩:=I.tuple hq
  obtain ⟨f0,f1,f2,f3,f4,f5⟩:=hf it (by simp)
  have hl:=rv.length
  exact wpAny_pyNext_tuple_end (I.ok.hd hc) st (show s.heap.IsTuple a its.toArray from p) (by simp; omega) fun h' eb => ⟨rfl,I.turned (t':=s.toks) (fun b o hb e => eb b o hb e) f0 f1 f3 f4 f5⟩
 self:=fun _ _ _ _ _ st h => wpAny_pyIter_tupleiter st h
theorem turn_range {P:Program} {w:World} {K:PySem.W.Frag} {tg:Expr} (it:Addr) (lo:Int) (n:Nat):Turn P w K tg (Itr lo n) [it] it (fun i h => IsRangeIter h it (lo + (i:Nat) * 1) ((n:Int) - (i:Nat)) 1) where
 mem:=by simp
 obj:=fun i h st b hb => by
  have e:b = it:=by simpa using hb
  subst e
  exact ⟨_,st,fun v z => by
   have z':Data.fields _ = Data.cell v:=z
   cases z'⟩
 keep:=fun i h h' st k => k it (by simp) _ st
 item:=by
  intro X hP hw hK hc i pins s σ H E I hf st hg
  subst hP hw hK
  obtain ⟨f0,f1,f2,f3,f4,f5⟩:=hf it (by simp)
  have W:=Walks.range (prog:=X.prog) (w:=X.w) (I.ok.hd hc) it lo 1 n
  refine W.item i s _ _ hg st fun v h' tk hv st' kk => ?_
  obtain ⟨t,rfl⟩:=hv
  have I1:Inv X pins σ H { s with heap:=h',toks:=tk }:=I.turned (fun b o hb e => kk b o (by simpa using hb) e) f0 f1 f3 f4 f5
  refine ⟨_,rfl,go_of (s:={ s with heap:=h',toks:=tk }) (n:="range_iterator") st' rfl rfl (by decide) ⟨.int (lo + i),H,I1,⟨t,?_⟩,⟨rfl,rfl⟩,st',fun b hb => (hf b hb).1⟩⟩
  rw [Int.mul_one]
 done:=by
  intro X hP hw hK hc i pins s σ H E I hf st hg
  subst hP hw hK
  obtain ⟨f0,f1,f2,f3,f4,f5⟩:=hf it (by simp)
  exact wpAny_pyNext_range_end (I.ok.hd hc) st (by have:n <= i:=hg; omega) fun h' eb => ⟨rfl,I.turned (t':=s.toks) (fun b o hb e => eb b o hb e) f0 f1 f3 f4 f5⟩
 self:=fun _ _ _ _ _ st h => wpAny_pyIter_rangeiter st h
end L2
namespace L2
open PySem PySem.Spec PyProof.Rows
section
variable {X:Cx} {tg:Expr}
noncomputable def iList (K:PySem.W.Frag) (tl:TE):TI:=fun σ H R => tl σ H fun x H1 => ∃ a,x = .ref a /\ (∃ xs,SqL K H1 a xs) /\ R (Itl K a) H1
noncomputable def iTup (K:PySem.W.Frag) (tl:TE):TI:=fun σ H R => tl σ H fun x H1 => ∃ a,x = .ref a /\ (∃ xs,SqT K H1 a xs) /\ R (Itt K a) H1
theorem pi_list {l:Expr} {tl:TE} (hl:PE X l tl):PI X tg l (iList X.K tl):=by
 intro pins s σ H R I h
 refine thn (hl pins s σ H _ I h) fun v s1 ⟨x,H1,I1,r1,q1⟩ => ?_
 obtain ⟨a,e,⟨xs,hq⟩,q⟩:=q1
 subst e
 cases r1
 obtain ⟨its,rv,p,hz⟩:=I1.list hq
 refine wpAny_pyIter_list p.isList ?_
 refine ⟨s1.heap.objs.size,[s1.heap.objs.size],_,_,H1,rfl,I1.kept (t':=s1.toks) fun b o e => Heap.get?_push_of_some _ e,turn_list a _,⟨_,Heap.get?_push_size _ rfl,rfl,rfl⟩,fun b hb => ?_,q⟩
 have e:b = s1.heap.objs.size:=by simpa using hb
 subst e
 exact I1.fpOk (Nat.le_refl _) (I1.hok.fresh (Nat.le_refl _))
theorem pi_tup {l:Expr} {tl:TE} (hl:PE X l tl):PI X tg l (iTup X.K tl):=by
 intro pins s σ H R I h
 refine thn (hl pins s σ H _ I h) fun v s1 ⟨x,H1,I1,r1,q1⟩ => ?_
 obtain ⟨a,e,⟨xs,hq⟩,q⟩:=q1
 subst e
 cases r1
 obtain ⟨its,rv,p,hz⟩:=I1.tuple hq
 refine wpAny_pyIter_tuple (show s1.heap.IsTuple a its.toArray from p) ?_
 refine ⟨s1.heap.objs.size,[s1.heap.objs.size],_,_,H1,rfl,I1.kept (t':=s1.toks) fun b o e => Heap.get?_push_of_some _ e,turn_tuple a _,⟨_,Heap.get?_push_size _ rfl,rfl,rfl⟩,fun b hb => ?_,q⟩
 have e:b = s1.heap.objs.size:=by simpa using hb
 subst e
 exact I1.fpOk (Nat.le_refl _) (I1.hok.fresh (Nat.le_refl _))
theorem range_it {pins:List (Addr × Obj)} {σ:St} {H:Hp} {s:Shared} {R:It -> Hp -> Prop} {E:Value -> Shared -> Prop} {lo hi:Int} {t u v:Tok} {tk:Nat} (I:Inv X pins σ H s) (h1:-(2 ^ 62) <= lo) (h2:lo < 2 ^ 62) (h3:-(2 ^ 62) <= hi) (h4:hi < 2 ^ 62)
  (q:R (Itr lo (hi - lo).toNat) H):wpAny (model X.prog X.w) X.A (pyIter (.ref s.heap.objs.size)) (PIE X pins σ tg R) E { s with heap:=s.heap.push { cls:=.type "range",data:=.fields #[.int lo t,.int hi u,.int 1 v] },toks:=tk }:=by
 refine wpAny_pyIter_range (IsRange.new ..) (small_one h1 h2 h3 h4) ?_
 have I1:Inv X pins σ H { s with heap:=s.heap.push { cls:=.type "range",data:=.fields #[.int lo t,.int hi u,.int 1 v] },toks:=tk }:=I.kept fun b o e => Heap.get?_push_of_some _ e
 refine ⟨(s.heap.push { cls:=.type "range",data:=.fields #[.int lo t,.int hi u,.int 1 v] }).objs.size,[(s.heap.push { cls:=.type "range",data:=.fields #[.int lo t,.int hi u,.int 1 v] }).objs.size],_,_,H,rfl,
  I1.kept (t':=tk) fun b o e => Heap.get?_push_of_some _ e,turn_range _ lo (hi - lo).toNat,?_,fun b hb => ?_,q⟩
 ·have e1:lo + ((0:Nat):Int) * 1 = lo:=by simp
  have e2:(((hi - lo).toNat:Nat):Int) - ((0:Nat):Int) = Builtin.Range.rangeSize lo hi 1:=by rw [rangeSize_one]; split <;> omega
  show IsRangeIter _ _ (lo + ((0:Nat):Int) * 1) ((((hi - lo).toNat:Nat):Int) - ((0:Nat):Int)) 1
  rw [e1,e2]
  exact Heap.get?_push_size _ rfl
 ·have e:b = (s.heap.push { cls:=.type "range",data:=.fields #[.int lo t,.int hi u,.int 1 v] }).objs.size:=by simpa using hb
  subst e
  exact I1.fpOk (Nat.le_refl _) (I1.hok.fresh (Nat.le_refl _))
noncomputable def iRng1 (ta:TA):TI:=fun σ H R => ta σ H fun vs H1 => ∃ j:Int,vs = [.int j] /\ -(2 ^ 62) <= j /\ j < 2 ^ 62 /\ R (Itr 0 j.toNat) H1
noncomputable def iRng2 (ta:TA):TI:=fun σ H R => ta σ H fun vs H1 => ∃ i j:Int,vs = [.int i,.int j] /\ (-(2 ^ 62) <= i /\ i < 2 ^ 62 /\ -(2 ^ 62) <= j /\ j < 2 ^ 62) /\ R (Itr i (j - i).toNat) H1
theorem pi_range1 {a:Expr} {ta:TA} {p pos:Pos} (hg:Gl X "range") (hm:X.mg "range" = none) (ha:PA X [a] ta) (hs:starEach [a] X.env = [(false,eval a X.env)]:=by rfl):PI X tg (.Call (.Name "range" p) [a] [] pos) (iRng1 ta):=by
 intro pins s σ H R I h
 refine Call_ (ld_blt I hg hm boot_range (PyProof.Rows.callWith_type1 (thn (ha pos pins s σ H _ I h) fun us s1 ⟨vs,H1,I1,r1,q1⟩ => ?_) hs rfl))
 obtain ⟨j,e,q1,q2,q⟩:=q1
 subst e
 cases r1 with
 | cons r rr =>
  cases rr
  obtain ⟨t,rfl⟩:=r
  exact call_range_1 (range_it I1 (by omega) (by omega) q1 q2 (by simpa using q))
theorem pi_range2 {a b:Expr} {ta:TA} {p pos:Pos} (hg:Gl X "range") (hm:X.mg "range" = none) (ha:PA X [a,b] ta) (hs:starEach [a,b] X.env = [(false,eval a X.env),(false,eval b X.env)]:=by rfl) (hs2:starEach [b] X.env = [(false,eval b X.env)]:=by rfl) :
  PI X tg (.Call (.Name "range" p) [a,b] [] pos) (iRng2 ta):=by
 intro pins s σ H R I h
 refine Call_ (ld_blt I hg hm boot_range (PyProof.Rows.callWith_type1 (thn (ha pos pins s σ H _ I h) fun us s1 ⟨vs,H1,I1,r1,q1⟩ => ?_) (by rw [hs,hs2]) (by rw [hs2]; rfl)))
 obtain ⟨i,j,e,⟨q1,q2,q3,q4⟩,q⟩:=q1
 subst e
 cases r1 with
 | cons r rr =>
  cases rr with
  | cons r' rr =>
   cases rr
   obtain ⟨t,rfl⟩:=r
   obtain ⟨t',rfl⟩:=r'
   exact call_range_2 (range_it I1 q1 q2 q3 q4 q)
noncomputable def tFor (wi:TI) (g:TG) (tb:TS):TS:=fun D σ H => wi σ H fun J H1 => ∃ W:Nat -> Nat -> St -> Hp -> Prop,(∃ m,W 0 m σ H1) /\ ∀ i m σ H,W i m σ H ->
 (J.stop i H /\ D.nx σ H) \/ (J.go i H /\ ∃ N:St -> Hp -> Prop,(∀ σ' H',N σ' H' -> ∃ m',m' < m /\ W (i + 1) m' σ' H') /\ ∀ x H',J.yld i H x H' -> g x σ H' fun σ2 H2 => tb { D with nx:=N,ct:=N,bk:=D.nx } σ2 H2)
noncomputable def pinsAt (fp:List Addr) (h:Heap):List (Addr × Obj):=fp.filterMap fun b => (h.get? b).map fun o => (b,o)
theorem mem_pinsAt {fp:List Addr} {h:Heap} {b:Addr} {o:Obj} (hb:b ∈ fp) (e:h.get? b = some o):(b,o) ∈ pinsAt fp h:=List.mem_filterMap.mpr ⟨b,hb,by rw [e]; rfl⟩
theorem of_pinsAt {fp:List Addr} {h:Heap} {p:Addr × Obj} (hp:p ∈ pinsAt fp h):p.1 ∈ fp /\ h.get? p.1 = some p.2:=by
 obtain ⟨b,hb,e⟩:=List.mem_filterMap.mp hp
 cases q:h.get? b with
 | none => rw [q] at e; cases e
 | some o =>
  rw [q] at e
  have e':(b,o) = p:=Option.some.inj e
  subst e'
  exact ⟨hb,q⟩
theorem Inv.pinned {pins:List (Addr × Obj)} {σ:St} {H:Hp} {s:Shared} {fp:List Addr} (I:Inv X pins σ H s) (hf:∀ b ∈ fp,FpOk X pins H b) (ho:∀ b ∈ fp,∃ o,s.heap.get? b = some o /\ ∀ v,o.data ≠ .cell v):Inv X (pins ++ pinsAt fp s.heap) σ H s :=
 I.pins_of fun p hp => (List.mem_append.mp hp).elim (fun z => I.pin p (List.mem_append_right _ z)) fun z => by
  obtain ⟨hb,e⟩:=of_pinsAt z
  obtain ⟨f0,f1,f2,_⟩:=hf p.1 hb
  obtain ⟨o,e',d⟩:=ho p.1 hb
  rw [e] at e'; cases e'
  exact ⟨e,f0,f1,f2,d⟩
theorem Inv.unpinned {pins pl:List (Addr × Obj)} {σ:St} {H:Hp} {s:Shared} (I:Inv X (pins ++ pl) σ H s):Inv X pins σ H s:=I.pins_of fun p hp => I.pin p (List.mem_append_right _ (List.mem_append_left _ hp))
theorem ps_for {iter:Expr} {body:List Stmt} {wi:TI} {g:TG} {tb:TS} {pos:Pos} (hp:PassesOwn (model X.prog X.w) X.A X.env X.xe) (hc:X.calm = true) (hi:PI X tg iter wi) (hg:PG X tg g) (hb:PSs X body tb)
  (hs:∀ x,foldedSetIterable iter X.env x = pure x:=by intro _; rfl):PS X (.For tg iter body [] pos) (tFor wi g tb):=by
 intro pins s σ H D I h
 refine wpAny_For (thn (hi pins s σ H _ I h) fun v s1 h1 => thn h1 fun itv s2 h2 => ?_) hs
 obtain ⟨it,fp,tn,J,H2,e,I2,T,st2,f2,W,⟨m0,w0⟩,turn⟩:=h2
 subst e
 have stat:∀ {H':Hp},(∀ b ∈ fp,H' b = none) -> ∀ b ∈ fp,FpOk X pins H' b:=fun hn b hb => ⟨hn b hb,(f2 b hb).2⟩
 refine codeAny_forLoop_any (fun n s' => ∃ i σ' H',Inv X pins σ' H' s' /\ tn i s'.heap /\ (∀ b ∈ fp,H' b = none) /\ W i n σ' H') ?_ m0 ⟨0,σ,H2,I2,st2,fun b hb => (f2 b hb).1,w0⟩
 rintro n s3 ⟨i,σ3,H3,I3,st3,fr3,w3⟩
 rcases turn i n σ3 H3 w3 with ⟨stop,qn⟩ | ⟨go,N,hN,step⟩
 ·refine wpAny_passesOwn hp (thn (T.done X rfl rfl rfl hc i pins s3 σ3 H3 X.xe I3 (stat fr3) st3 stop) fun r s4 ⟨hr,I4⟩ => ?_)
  subst hr
  exact wpAny_execs_nil ⟨σ3,H3,I4,qn⟩
 ·refine wpAny_passesOwn hp (thn (T.item X rfl rfl rfl hc i pins s3 σ3 H3 X.xe I3 (stat fr3) st3 go) fun r s4 ⟨u,hr,h4⟩ => ?_)
  subst hr
  refine wpAny_passesOwn hp (thn h4 fun _ s5 ⟨x,H5,I5,r5,y5,st5,fr5⟩ => ?_)
  have I5':=I5.pinned (stat fr5) (T.obj _ _ st5)
  refine wpAny_passesOwn hp (thn (hg _ s5 σ3 H5 x u _ I5' r5 (step x H5 y5)) fun _ s6 ⟨σ6,H6,I6,q6⟩ => ?_)
  refine wpAny_passesOwn hp (thn (hb _ s6 σ6 H6 _ I6 q6) fun f s7 q7 => ?_)
  have again:∀ {σ7:St} {H7:Hp},Inv X (pins ++ pinsAt fp s5.heap) σ7 H7 s7 -> N σ7 H7 -> ∃ m,m < n /\ ∃ i σ' H',Inv X pins σ' H' s7 /\ tn i s7.heap /\ (∀ b ∈ fp,H' b = none) /\ W i m σ' H':=fun {σ7 H7} I7 n7 => by
   obtain ⟨m',hm,w7⟩:=hN σ7 H7 n7
   refine ⟨m',hm,i + 1,σ7,H7,I7.unpinned,T.keep _ _ _ st5 fun b hb o e => (I7.pin (b,o) (List.mem_append_right _ (List.mem_append_right _ (mem_pinsAt hb e)))).1,fun b hb => ?_,w7⟩
   obtain ⟨o,e,d⟩:=T.obj _ _ st5 b hb
   exact (I7.pin (b,o) (List.mem_append_right _ (List.mem_append_right _ (mem_pinsAt hb e)))).2.1
  cases f with
  | next => obtain ⟨σ7,H7,I7,n7⟩:=q7; exact again I7 n7
  | cont => obtain ⟨σ7,H7,I7,n7⟩:=q7; exact again I7 n7
  | brk => obtain ⟨σ7,H7,I7,q7⟩:=q7; exact ⟨σ7,H7,I7.unpinned,q7⟩
  | ret v => obtain ⟨x7,σ7,H7,I7,r7,q7⟩:=q7; exact ⟨x7,σ7,H7,I7.unpinned,r7,q7⟩
end
end L2
namespace L2
open PySem PySem.Spec PyProof.Rows
noncomputable abbrev R2:=V -> V -> Hp -> VK -> Prop
noncomputable def OpR (X:Cx) (f:Value -> Value -> Sem Value) (r:R2):Prop :=
 ∀ (pins:List (Addr × Obj)) (s:Shared) (σ:St) (H:Hp) (x y:V) (v u:Value) (Q:VK),Inv X pins σ H s -> RelV x v -> RelV y u -> r x y H Q ->
  wpAny (model X.prog X.w) X.A (f v u) (EP X pins σ Q) X.xe s
noncomputable def CallR (X:Cx) (f:Value) (r:List V -> Hp -> VK -> Prop):Prop :=
 ∀ (pins:List (Addr × Obj)) (s:Shared) (σ:St) (H:Hp) (xs:List V) (us:List Value) (Q:VK),Inv X pins σ H s -> Vals xs us -> r xs H Q ->
  wpAny (model X.prog X.w) X.A (call f us) (EP X pins σ Q) X.xe s
noncomputable def tOp (r:R2) (ta tb:TE):TE:=fun σ H Q => ta σ H fun x H1 => tb σ H1 fun y H2 => r x y H2 Q
noncomputable def rI (C:Int -> Int -> Prop) (g:Int -> Int -> V):R2:=fun x y H Q => ∃ i j,x = .int i /\ y = .int j /\ C i j /\ Q (g i j) H
noncomputable def rI0 (g:Int -> Int -> V):R2:=fun x y H Q => ∃ i j,x = .int i /\ y = .int j /\ Q (g i j) H
section
variable {X:Cx} {a b c:Expr} {ta tb tc:TE} {pos:Pos}
theorem binT (ha:PE X a ta) (hb:PE X b tb) {pins:List (Addr × Obj)} {s:Shared} {σ:St} {H:Hp} {R:V -> V -> Hp -> Prop} (I:Inv X pins σ H s)
  (h:ta σ H fun x H1 => tb σ H1 fun y H2 => R x y H2) {Q:Value -> Shared -> Prop} {f:Value -> Value -> Sem Value}
  (hf:∀ v u s2 x y H2,Inv X pins σ H2 s2 -> RelV x v -> RelV y u -> R x y H2 -> wpAny (model X.prog X.w) X.A (f v u) Q X.xe s2) :
  wpAny (model X.prog X.w) X.A (eval a X.env) (fun v s₁ => wpAny (model X.prog X.w) X.A (eval b X.env) (fun u s₂ => wpAny (model X.prog X.w) X.A (f v u) Q X.xe s₂) X.xe s₁) X.xe s:=by
 refine thn (ha pins s σ H _ I h) fun v s1 ⟨x,H1,I1,r1,q1⟩ => ?_
 refine thn (hb pins s1 σ H1 _ I1 q1) fun u s2 ⟨y,H2,I2,r2,q2⟩ => ?_
 exact hf v u s2 x y H2 I2 r1 r2 q2
theorem pe_op {op:Operator} {r:R2} (ho:OpR X (binaryOp op) r) (ha:PE X a ta) (hb:PE X b tb):PE X (.BinOp a op b pos) (tOp r ta tb):=by
 intro pins s σ H Q I h
 exact wpAny_BinOp (binT ha hb I h fun v u s2 x y H2 I2 rx ry q => ho pins s2 σ H2 x y v u Q I2 rx ry q)
theorem opI {f:Value -> Value -> Sem Value} {C:Int -> Int -> Prop} {g:Int -> Int -> Int}
  (rule:∀ (i j:Int) (t u:Tok) (s:Shared) (Q:Value -> Shared -> Prop) (E:Value -> Shared -> Prop),C i j -> Q (.int (g i j) s.toks) { s with toks:=s.toks + 1 } -> wpAny (model X.prog X.w) X.A (f (.int i t) (.int j u)) Q E s) :
  OpR X f (rI C fun i j => .int (g i j)):=by
 intro pins s σ H x y v u Q I rx ry h
 obtain ⟨i,j,rfl,rfl,hc,q⟩:=h
 obtain ⟨t,rfl⟩:=rx
 obtain ⟨t',rfl⟩:=ry
 exact rule i j t t' s _ _ hc ⟨.int (g i j),H,I.tok _,⟨_,rfl⟩,q⟩
theorem opI0 {f:Value -> Value -> Sem Value} {g:Int -> Int -> Int}
  (rule:∀ (i j:Int) (t u:Tok) (s:Shared) (Q:Value -> Shared -> Prop) (E:Value -> Shared -> Prop),Q (.int (g i j) s.toks) { s with toks:=s.toks + 1 } -> wpAny (model X.prog X.w) X.A (f (.int i t) (.int j u)) Q E s) :
  OpR X f (rI0 fun i j => .int (g i j)):=by
 intro pins s σ H x y v u Q I rx ry h
 obtain ⟨i,j,rfl,rfl,q⟩:=h
 obtain ⟨t,rfl⟩:=rx
 obtain ⟨t',rfl⟩:=ry
 exact rule i j t t' s _ _ ⟨.int (g i j),H,I.tok _,⟨_,rfl⟩,q⟩
theorem opB0 {f:Value -> Value -> Sem Value} {g:Int -> Int -> Bool}
  (rule:∀ (i j:Int) (t u:Tok) (s:Shared) (Q:Value -> Shared -> Prop) (E:Value -> Shared -> Prop),Q (.bool (g i j)) s -> wpAny (model X.prog X.w) X.A (f (.int i t) (.int j u)) Q E s) :
  OpR X f (rI0 fun i j => .bl (g i j)):=by
 intro pins s σ H x y v u Q I rx ry h
 obtain ⟨i,j,rfl,rfl,q⟩:=h
 obtain ⟨t,rfl⟩:=rx
 obtain ⟨t',rfl⟩:=ry
 exact rule i j t t' s _ _ ⟨.bl (g i j),H,I,rfl,q⟩
noncomputable def CDiv (i j:Int):Prop:=0 < j /\ j < 1073741824
noncomputable def CPow (i j:Int):Prop:=0 <= j /\ j <= 1000000 /\ i.natAbs < 2 ^ 64
noncomputable def CMul (i j:Int):Prop:=(-(2 ^ 64) < i /\ i < 2 ^ 64) \/ (-(2 ^ 64) < j /\ j < 2 ^ 64)
theorem CMul.ok {i j:Int} (h:CMul i j):IntMulOk i j:=by
 rcases h with ⟨h1,h2⟩ | ⟨h1,h2⟩
 ·exact .of_left (intBits_le_64 h1 h2)
 ·exact .of_right (intBits_le_64 h1 h2)
theorem two_pow_nn (k:Nat):(0:Int) <= 2 ^ k:=by
 rw [two_pow_cast]
 exact Int.natCast_nonneg _
theorem op_add:OpR X (binaryOp .Add) (rI0 fun i j => .int (i + j)):=opI0 fun _ _ _ _ _ _ _ q => add_int q
theorem op_sub:OpR X (binaryOp .Sub) (rI0 fun i j => .int (i - j)):=opI0 fun _ _ _ _ _ _ _ q => sub_int q
theorem op_mul:OpR X (binaryOp .Mult) (rI CMul fun i j => .int (i * j)):=opI fun _ _ _ _ _ _ _ hc q => mul_int q hc.ok
theorem op_fdiv:OpR X (binaryOp .FloorDiv) (rI CDiv fun i j => .int (i / j)):=opI fun i j _ _ _ _ _ hc q => by
 have h1:(0:Int) < j:=hc.1
 have h2:j < 1073741824:=hc.2
 exact floordiv_int (by omega) (by rw [Int.fdiv_eq_ediv_of_nonneg i (by omega)]; exact q) (.inl (PyProof.noPylong_small (by omega)))
theorem op_mod:OpR X (binaryOp .Mod) (rI (fun _ j => 0 < j) fun i j => .int (i % j)):=opI fun i j _ _ _ _ _ hc q => by
 have h1:(0:Int) < j:=hc
 exact mod_int' (by omega) (by rw [Int.fmod_eq_emod_of_nonneg i (by omega)]; exact q)
theorem op_pow:OpR X (binaryOp .Pow) (rI CPow fun i j => .int (i ^ j.toNat)):=opI fun _ _ _ _ _ _ _ hc q => pow_int_small hc.1 hc.2.1 hc.2.2 q
theorem op_shr:OpR X (binaryOp .RShift) (rI (fun _ j => 0 <= j) fun i j => .int (i / 2 ^ j.toNat)):=opI fun i j _ _ _ _ _ hc q =>
 rshift_int hc (by rw [Int.fdiv_eq_ediv_of_nonneg i (two_pow_nn _)]; exact q)
end
noncomputable def scal:V -> V -> Bool
 | .non,.non => true | .non,.int _ => true | .int _,.non => true | .non,.bl _ => true | .bl _,.non => true | .non,.str _ => true | .str _,.non => true
 | .int _,.int _ => true | .bl _,.bl _ => true | .str _,.str _ => true | .byt _,.byt _ => true
 | .int _,.str _ => true | .str _,.int _ => true | .bl _,.str _ => true | .str _,.bl _ => true
 | _,_ => false
noncomputable def rNe:R2:=fun x y H Q => scal x y = true /\ Q (.bl (!decide (x = y))) H
theorem dec_int {i j:Int}:decide (V.int i = V.int j) = (i == j):=by
 rw [Bool.eq_iff_iff]
 simp
theorem dec_bl {i j:Bool}:decide (V.bl i = V.bl j) = (i == j):=by
 rw [Bool.eq_iff_iff]
 simp
theorem dec_str {i j:Str}:decide (V.str i = V.str j) = (i == j):=by
 rw [Bool.eq_iff_iff]
 simp
theorem dec_byt {i j:Array UInt8}:decide (V.byt i = V.byt j) = (i.toList == j.toList):=by
 rw [Bool.eq_iff_iff]
 cases i
 cases j
 simp
section
variable {X:Cx} {a b c:Expr} {ta tb tc:TE} {pos:Pos}
theorem fin_bl {pins:List (Addr × Obj)} {σ:St} {H:Hp} {s:Shared} {Q:VK} {k k':Bool} (I:Inv X pins σ H s) (q:Q (.bl k) H) (e:k = k'):EP X pins σ Q (.bool k') s:=by
 subst e
 exact ⟨.bl k,H,I,rfl,q⟩
theorem op_ne:OpR X (compareOp .NotEq) rNe:=by
 intro pins s σ H x y v u Q I rx ry h
 obtain ⟨hs,q⟩:=h
 cases x with
 | non =>
  cases rx
  cases y with
  | non => cases ry; exact PySem.EqNone.ne_none_none (fin_bl I q (by simp))
  | bl j => cases ry; exact PySem.EqNone.ne_none_bool (fin_bl I q (by simp))
  | int j => obtain ⟨t',rfl⟩:=ry; exact PySem.EqNone.ne_none_int (fin_bl I q (by simp))
  | str j => obtain ⟨t',rfl⟩:=ry; exact PySem.EqNone.ne_none_str (fin_bl I q (by simp))
  | _ => exact absurd (show false = true from hs) Bool.false_ne_true
 | bl i =>
  cases rx
  cases y with
  | non => cases ry; exact PySem.EqNone.ne_bool_none (fin_bl I q (by simp))
  | bl j => cases ry; exact ne_bool (fin_bl I q (congrArg not dec_bl))
  | str j => obtain ⟨t',rfl⟩:=ry; exact PySem.EqMixed.ne_bool_str (fin_bl I q (by simp))
  | _ => exact absurd (show false = true from hs) Bool.false_ne_true
 | int i =>
  obtain ⟨t,rfl⟩:=rx
  cases y with
  | non => cases ry; exact PySem.EqNone.ne_int_none (fin_bl I q (by simp))
  | int j => obtain ⟨t',rfl⟩:=ry; exact ne_int (fin_bl I q (congrArg not dec_int))
  | str j => obtain ⟨t',rfl⟩:=ry; exact PySem.EqMixed.ne_int_str (fin_bl I q (by simp))
  | _ => exact absurd (show false = true from hs) Bool.false_ne_true
 | str i =>
  obtain ⟨t,rfl⟩:=rx
  cases y with
  | non => cases ry; exact PySem.EqNone.ne_str_none (fin_bl I q (by simp))
  | bl j => cases ry; exact PySem.EqMixed.ne_str_bool (fin_bl I q (by simp))
  | int j => obtain ⟨t',rfl⟩:=ry; exact PySem.EqMixed.ne_str_int (fin_bl I q (by simp))
  | str j => obtain ⟨t',rfl⟩:=ry; exact ne_str (fin_bl I q (congrArg not dec_str))
  | _ => exact absurd (show false = true from hs) Bool.false_ne_true
 | byt i =>
  obtain ⟨t,rfl⟩:=rx
  cases y with
  | byt j => obtain ⟨t',rfl⟩:=ry; exact PySem.W.ne_bytes (fin_bl I q (congrArg not dec_byt))
  | _ => exact absurd (show false = true from hs) Bool.false_ne_true
 | _ => cases y <;> exact absurd (show false = true from hs) Bool.false_ne_true
theorem op_lt:OpR X (compareOp .Lt) (rI0 fun i j => .bl (decide (i < j))):=opB0 fun _ _ _ _ _ _ _ q => lt_int q
theorem op_le:OpR X (compareOp .LtE) (rI0 fun i j => .bl (decide (i <= j))):=opB0 fun _ _ _ _ _ _ _ q => le_int q
theorem op_gt:OpR X (compareOp .Gt) (rI0 fun i j => .bl (decide (j < i))):=opB0 fun _ _ _ _ _ _ _ q => gt_int q
theorem op_ge:OpR X (compareOp .GtE) (rI0 fun i j => .bl (decide (j <= i))):=opB0 fun _ _ _ _ _ _ _ q => ge_int q
theorem op_isN:OpR X (compareOp .Is) (fun x y H Q => y = .non /\ Q (.bl (decide (x = .non))) H):=by
 intro pins s σ H x y v u Q I rx ry h
 obtain ⟨rfl,q⟩:=h
 cases ry
 refine is_none_gen (fin_bl I q ?_)
 cases x <;> first
  | (cases rx; rfl)
  | (obtain ⟨t,rfl⟩:=rx; rfl)
theorem op_notN:OpR X (compareOp .IsNot) (fun x y H Q => y = .non /\ Q (.bl (!decide (x = .non))) H):=by
 intro pins s σ H x y v u Q I rx ry h
 obtain ⟨rfl,q⟩:=h
 cases ry
 refine isnot_none_gen (fin_bl I q ?_)
 cases x <;> first
  | (cases rx; rfl)
  | (obtain ⟨t,rfl⟩:=rx; rfl)
theorem pe_cmpR {op:CmpOp} {r:R2} (ho:OpR X (compareOp op) r) (ha:PE X a ta) (hb:PE X b tb) (hm:behindInMarks op b = false):PE X (.Compare a [op] [b] pos) (tOp r ta tb):=by
 intro pins s σ H Q I h
 exact wpAny_Compare1 (binT ha hb I h fun v u s2 x y H2 I2 rx ry q => ho pins s2 σ H2 x y v u Q I2 rx ry q) hm
noncomputable def tTest (t:TE):TT:=fun σ H Q => t σ H fun x H' => ∃ k,x = .bl k /\ Q k H'
theorem pt_cmpR {op:CmpOp} {r:R2} (ho:OpR X (compareOp op) r) (ha:PE X a ta) (hb:PE X b tb) (hm:behindInMarks op b = false):PT X (.Compare a [op] [b] pos) (tTest (tOp r ta tb)):=by
 intro pins s σ H Q I h
 refine wpAny_isTrue_Compare1 (thn (ha pins s σ H _ I h) fun v s1 ⟨x,H1,I1,r1,q1⟩ => thn (hb pins s1 σ H1 _ I1 q1) fun u s2 ⟨y,H2,I2,r2,q2⟩ =>
  thn (ho pins s2 σ H2 x y v u _ I2 r1 r2 q2) fun c s3 ⟨z,H3,I3,r3,k,e,q3⟩ => ?_) hm
 subst e
 cases r3
 exact wpAny_truthy_bool ⟨H3,I3,q3⟩
noncomputable def tChain (r r':R2) (ta tb tc:TE):TE:=fun σ H Q => ta σ H fun x H1 => tb σ H1 fun y H2 => r x y H2 fun z H3 => ∃ k,z = .bl k /\
 (if k = true then tc σ H3 fun w' H4 => r' y w' H4 Q else Q (.bl false) H3)
theorem pe_chain {op op':CmpOp} {r r':R2} (ho:OpR X (compareOp op) r) (ho':OpR X (compareOp op') r') (ha:PE X a ta) (hb:PE X b tb) (hc:PE X c tc)
  (hm:lastMarks [op,op'] [b,c] = false:=by with_unfolding_all rfl):PE X (.Compare a [op,op'] [b,c] pos) (tChain r r' ta tb tc):=by
 intro pins s σ H Q I h
 refine Compare_chain (thn (ha pins s σ H _ I h) fun v s1 ⟨x,H1,I1,r1,q1⟩ => chain_link (thn (hb pins s1 σ H1 _ I1 q1) fun u s2 ⟨y,H2,I2,r2,q2⟩ =>
  thn (ho pins s2 σ H2 x y v u _ I2 r1 r2 q2) fun d s3 ⟨z,H3,I3,r3,k,e,q3⟩ => ?_)) hm
 subst e
 cases r3
 refine wpAny_truthy_bool ?_
 cases k with
 | false => exact ite_ff ⟨.bl false,H3,I3,rfl,q3⟩
 | true => exact ite_tt (chain_last (thn (hc pins s3 σ H3 _ I3 q3) fun w' s4 ⟨z',H4,I4,r4,q4⟩ => ho' pins s4 σ H4 y z' u w' Q I4 r2 r4 q4))
theorem pt_chain {op op':CmpOp} {r r':R2} (ho:OpR X (compareOp op) r) (ho':OpR X (compareOp op') r') (ha:PE X a ta) (hb:PE X b tb) (hc:PE X c tc)
  (hm:lastMarks [op,op'] [b,c] = false:=by with_unfolding_all rfl):PT X (.Compare a [op,op'] [b,c] pos) (tTest (tChain r r' ta tb tc)):=by
 intro pins s σ H Q I h
 refine isTrue_chain (thn (ha pins s σ H _ I h) fun v s1 ⟨x,H1,I1,r1,q1⟩ => test_link (thn (hb pins s1 σ H1 _ I1 q1) fun u s2 ⟨y,H2,I2,r2,q2⟩ =>
  thn (ho pins s2 σ H2 x y v u _ I2 r1 r2 q2) fun d s3 ⟨z,H3,I3,r3,k,e,q3⟩ => ?_)) hm
 subst e
 cases r3
 refine wpAny_truthy_bool ?_
 cases k with
 | false =>
  obtain ⟨k',e',q'⟩:=q3
  cases e'
  exact ite_ff ⟨H3,I3,q'⟩
 | true =>
  refine ite_tt (test_last (thn (hc pins s3 σ H3 _ I3 q3) fun w' s4 ⟨z',H4,I4,r4,q4⟩ => thn (ho' pins s4 σ H4 y z' u w' _ I4 r2 r4 q4) fun d' s5 ⟨z2,H5,I5,r5,k2,e2,q5⟩ => ?_))
  subst e2
  cases r5
  exact wpAny_truthy_bool ⟨H5,I5,q5⟩
theorem line63:(sizeLine:Nat) < 2 ^ 63:=by rw [sizeLine_eq]; decide
theorem op_add_str:OpR X (binaryOp .Add) (fun x y H Q => ∃ i j,x = .str i /\ y = .str j /\ i.length + j.length <= sizeLine /\ Q (.str (i ++ j)) H):=by
 intro pins s σ H x y v u Q I rx ry h
 obtain ⟨i,j,rfl,rfl,hz,q⟩:=h
 obtain ⟨t,rfl⟩:=rx
 obtain ⟨t',rfl⟩:=ry
 exact add_str (fun t' tk => ⟨.str (i ++ j),H,I.tok _,⟨_,rfl⟩,q⟩) hz
theorem vals1 {x:V} {us:List Value} (r:Vals [x] us):∃ u,us = [u] /\ RelV x u:=by
 cases r with
 | cons r1 r2 => cases r2; exact ⟨_,rfl,r1⟩
theorem vals2 {x y:V} {us:List Value} (r:Vals [x,y] us):∃ u w',us = [u,w'] /\ RelV x u /\ RelV y w':=by
 cases r with
 | cons r1 r2 =>
  cases r2 with
  | cons r3 r4 => cases r4; exact ⟨_,_,rfl,r1,r3⟩
theorem call_int1:CallR X (.type "int") (fun xs H Q => (∃ i,xs = [.int i] /\ Q (.int i) H) \/ ∃ k,xs = [.bl k] /\ Q (.int (if k then 1 else 0)) H):=by
 intro pins s σ H xs us Q I r h
 rcases h with ⟨i,rfl,q⟩ | ⟨k,rfl,q⟩
 ·obtain ⟨u,rfl,t,rfl⟩:=vals1 r
  exact call_int_int ⟨.int i,H,I,⟨_,rfl⟩,q⟩
 ·obtain ⟨u,rfl,r1⟩:=vals1 r
  cases r1
  exact call_int_bool ⟨.int (if k then 1 else 0),H,I.tok _,⟨_,rfl⟩,q⟩
end
end L2
namespace L2
open PySem PySem.Spec PyProof.Rows
structure ObjM (h:Heap) (x dx C:Addr) (mA:Str -> Option Value):Prop where
 obj:h.get? x = some (PySem.W.instObj C dx)
 ns:h.Ns1 dx mA
 ne:dx ≠ x
theorem lookIn_ns {h:Heap} {dx:Addr} {mA:Str -> Option Value} (n:h.Ns1 dx mA):∃ od,h.get? dx = some od /\ ∀ name,PySem.W.lookIn name od = some (mA name):=by
 obtain ⟨o,es,ep,ho,hd,hk,_,hm⟩:=n
 refine ⟨o,ho,fun name => ?_⟩
 have e:=hm name
 unfold nsFind findBy at e
 rw [<- Array.find?_toList] at e
 unfold PySem.W.lookIn
 rw [hd]
 dsimp only
 split
 ·rename_i y q
  rw [q] at e
  exact congrArg some e
 ·rename_i q
  rw [q] at e
  have a:es.toList.any (·.refKey) = false:=by
   rw [List.any_eq_false]
   intro y hy
   obtain ⟨z,t,hkey⟩:=hk y (Array.mem_toList_iff.mp hy)
   simp [DictEntry.refKey,hkey]
  have a':¬ es.toList.any (·.refKey) = true:=by rw [a]; exact Bool.false_ne_true
  rw [if_neg a']
  exact congrArg some e
theorem ObjM.look {h:Heap} {x dx C:Addr} {mA:Str -> Option Value} (I:ObjM h x dx C mA):∃ od,PySem.W.InstAt h x (PySem.W.instObj C dx) C (some od) /\ ∀ name,PySem.W.lookIn name od = some (mA name) :=
 let ⟨od,ho,hl⟩:=lookIn_ns I.ns
 ⟨od,⟨I.obj,rfl,rfl,ho⟩,hl⟩
section
variable {prog:Program} {w:World} {A:Around} {E:Value -> Shared -> Prop} {s:Shared} {K:PySem.W.Frag} {x dx C f:Addr} {mA:Str -> Option Value} {name:Str} {v:Value}
theorem get_map {expr:Bool} {Q:Value -> Shared -> Prop} (X:K.In s.heap) (I:ObjM s.heap x dx C mA) (hg:PySem.W.plainGet K C name = true) (hh:PySem.W.hasDictIn K C = true)
  (ha:PySem.W.findIn K (.ref C) name = some none) (hv:mA name = some v) (hv':PySem.W.handedIn v = true) (h:Q v { s with toks:=s.toks + 1 }) :
  wpAny (model prog w) A (getAttr (.ref x) name expr) Q E s:=by
 obtain ⟨od,J,hl⟩:=I.look
 exact PySem.W.get_value X J (PySem.W.plainGet_of hg).1 (PySem.W.findObj_own hh ha rfl (by rw [hl,hv])) hv' h
theorem get_meth {pl:Sem Bool} {Q:Value × List Value -> Shared -> Prop} (X:K.In s.heap) (I:ObjM s.heap x dx C mA) (hg:PySem.W.plainGet K C name = true)
  (hf:PySem.W.findIn K (.ref C) name = some (some (.ref f))) (ht:PySem.W.isFn K (.ref f) = true) (hv:mA name = none) (h:Q (.ref f,[.ref x]) s) :
  wpAny (model prog w) A (getMethod (.ref x) name pl) Q E s:=by
 obtain ⟨od,J,hl⟩:=I.look
 exact PySem.W.method_fn X J (PySem.W.plainGet_of hg).1 (PySem.W.plainGet_of hg).2 hf (beq_iff_eq.mp ht) (by show (PySem.W.lookIn name od).map (·.isSome) = some false; rw [hl,hv]; rfl) h
theorem set_map {ns:List Str} {Q:Unit -> Shared -> Prop} (X:K.In s.heap) (I:ObjM s.heap x dx C mA)
  (hs:PySem.W.findIn K (.ref C) "__setattr__" = some (some (.builtin "object.__setattr__"))) (hp:PySem.W.plainOver K C = true) (ht:PySem.W.takerIn K C name = some none) (hh:PySem.W.hasDictIn K C = true)
  (hw:PySem.Within mA ns) (hsz:ns.length <= sizeLine)
  (h:∀ h',ObjM h' x dx C (fun y => if y = name then some v else mA y) -> Heap.SameBut dx s.heap h' -> Q () { s with heap:=h',toks:=s.toks + 2 }) :
  wpAny (model prog w) A (setAttr (.ref x) name v) Q E s:=by
 obtain ⟨od,J,hl⟩:=I.look
 refine PySem.W.set_plain X J hs (PySem.W.osa_open (s:={ s with toks:=s.toks + 1 }) (r:=none) X J hp ht fun b => ?_)
 obtain ⟨cd,hc,hd'⟩:=PySem.W.any_some hh
 have hx:s.heap.get? x = some ⟨.ref C,some dx,.plain,#[]⟩:=I.obj
 refine wpAny_bind (wpAny_pure (wpAny_bind (wpAny_bind (wpAny_loadPart hx (wpAny_bind (PySem.W.Looks.here (s:={ s with toks:=s.toks + 1 }) (PySem.W.looks_clsIn X hc) ?_))))))
 rw [hd']
 refine wpAny_pure (a:=some dx) (wpAny_bind (wpAny_pure (wpAny_bind ?_)))
 refine wpAny_nsSet1 (s:={ s with toks:=s.toks + 1 }) I.ns fun h' hn2 hs2 => ?_
 obtain ⟨oD,esD,epD,hoD,hdD,hcD⟩:=hn2.count (PySem.Within.cons name v hw)
 refine wpAny_bind (wpAny_lookBehind hoD (by rw [hdD]; exact pastItsLine_dict (Nat.le_trans hcD (by rw [List.length_cons]; omega))) ?_)
 exact wpAny_pure (h _ ⟨(hs2.2 _ (Ne.symm I.ne)).trans I.obj,hn2,I.ne⟩ hs2)
theorem make_map {R:Result -> Shared -> Prop} {vs:List Value} {kw:List (Str × Value)} (X:K.In s.heap) (hm:PySem.W.makesIn K C = true)
  (hi:PySem.W.findIn K (.ref C) "__init__" = some (some (.ref f))) (hf:PySem.W.typeIn K (.ref f) = some (.type "function"))
  (h:codeAny (model prog w) (A.under (.builtin "type.__call__" ⟨.ref C :: vs,kw⟩)) (.call (.ref f) ⟨.ref (s.heap.objs.size + 1) :: vs,kw⟩) (PySem.W.InitBack (s.heap.objs.size + 1) R)
   { s with heap:=(s.heap.push PySem.W.emptyDict).push (PySem.W.instObj C s.heap.objs.size) }) :
  codeAny (model prog w) A (.call (.ref C) ⟨vs,kw⟩) R s:=by
 obtain ⟨hh,g,d,t,os⟩:=s
 exact PySem.W.make_core (PySem.W.makes_of X hm) (PySem.W.looks_findIn X hi) (fun self => PySem.W.bind_fn X self hf) (.inl rfl) h
end
noncomputable def putF (f:Str) (v:V):List (Str × V) -> List (Str × V)
 | [] => [(f,v)]
 | (g,x) :: r => if g = f then (g,v) :: r else (g,x) :: putF f v r
theorem lookup_putF (f g:Str) (v:V):∀ fs:List (Str × V),(putF f v fs).lookup g = if g = f then some v else fs.lookup g
 | [] => by
  show List.lookup g [(f,v)] = _
  by_cases h:g = f
  ·have hb:(g == f) = true:=beq_iff_eq.mpr h
   simp only [List.lookup,hb,if_pos h]
  ·have hb:(g == f) = false:=beq_eq_false_iff_ne.mpr h
   simp only [List.lookup,hb,if_neg h]
 | (k,x) :: r => by
  have ih:=lookup_putF f g v r
  rw [show putF f v ((k,x) :: r) = (if k = f then (k,v) :: r else (k,x) :: putF f v r) from rfl]
  by_cases hk:k = f
  ·rw [if_pos hk]
   by_cases h:g = k
   ·have hb:(g == k) = true:=beq_iff_eq.mpr h
    simp only [List.lookup,hb,if_pos (h.trans hk)]
   ·have hb:(g == k) = false:=beq_eq_false_iff_ne.mpr h
    simp only [List.lookup,hb,if_neg (fun e:g = f => h (e.trans hk.symm))]
  ·rw [if_neg hk]
   by_cases h:g = k
   ·have hb:(g == k) = true:=beq_iff_eq.mpr h
    simp only [List.lookup,hb,if_neg (fun e:g = f => hk (h.symm.trans e))]
   ·have hb:(g == k) = false:=beq_eq_false_iff_ne.mpr h
    simp only [List.lookup,hb]
    exact ih
theorem keys_putF (f:Str) (v:V):∀ fs:List (Str × V),f ∈ (putF f v fs).map (·.1) /\ ∀ g,g ∈ fs.map (·.1) -> g ∈ (putF f v fs).map (·.1)
 | [] => ⟨by simp [putF],fun g h => by simp at h⟩
 | (k,x) :: r => by
  obtain ⟨i1,i2⟩:=keys_putF f v r
  rw [show putF f v ((k,x) :: r) = (if k = f then (k,v) :: r else (k,x) :: putF f v r) from rfl]
  by_cases hk:k = f
  ·rw [if_pos hk]
   subst hk
   exact ⟨by simp,fun g h => by simpa using h⟩
  ·rw [if_neg hk]
   refine ⟨?_,fun g h => ?_⟩
   ·rw [List.map_cons]
    exact List.mem_cons_of_mem _ i1
   ·rw [List.map_cons] at h ⊢
    rcases List.mem_cons.mp h with e | e
    ·exact List.mem_cons.mpr (.inl e)
    ·exact List.mem_cons_of_mem _ (i2 g e)
theorem length_putF (f:Str) (v:V):∀ fs:List (Str × V),(putF f v fs).length <= fs.length + 1
 | [] => by simp [putF]
 | (k,x) :: r => by
  have ih:=length_putF f v r
  rw [show putF f v ((k,x) :: r) = (if k = f then (k,v) :: r else (k,x) :: putF f v r) from rfl]
  by_cases hk:k = f
  ·rw [if_pos hk,List.length_cons,List.length_cons]; omega
  ·rw [if_neg hk,List.length_cons,List.length_cons]; omega
theorem RelO.some_of {v:V} {o:Option Value} (r:RelO (some v) o):∃ u,o = some u /\ RelV v u:=by
 cases o with
 | none => exact (show False from r).elim
 | some u => exact ⟨u,rfl,r⟩
theorem RelO.none_of {o:Option Value} (r:RelO none o):o = none:=by
 cases o with
 | none => rfl
 | some u => exact (show False from r).elim
theorem handed_of {v:V} {u:Value} (r:RelV v u):PySem.W.handedIn u = true:=by
 cases v with
 | non => cases (show u = Value.none from r); rfl
 | bl b => cases (show u = Value.bool b from r); rfl
 | int i => obtain ⟨t,e⟩:=(show ∃ t,u = Value.int i t from r); cases e; rfl
 | str x => obtain ⟨t,e⟩:=(show ∃ t,u = Value.str x t from r); cases e; rfl
 | byt b => obtain ⟨t,e⟩:=(show ∃ t,u = Value.bytes b t from r); cases e; rfl
 | flt b => obtain ⟨t,e⟩:=(show ∃ t,u = Value.float b t from r); cases e; rfl
 | ref a => cases (show u = Value.ref a from r); rfl
 | ty n => cases (show u = Value.type n from r); rfl
section
variable {P:Program} {w:World} {H H':Hp} {h h':Heap} {a C dx:Addr} {fs fs':List (Str × V)}
theorem ins_get (hok:HOk P w H h) (e:H a = some (.ins C dx fs)):∃ mA,ObjM h a dx C mA /\ (∀ f,RelO (fs.lookup f) (mA f)) /\ PySem.Within mA (fs.map (·.1)) /\ fs.length <= 1000 /\ H dx = some (.own a):=by
 obtain ⟨d,z,ne,ob,mA,n,r,q⟩:=(show ObjOk P w H h a (.ins C dx fs) from hok a _ e)
 exact ⟨mA,⟨ob,n,ne⟩,r,q,z,d⟩
end
structure Cls (K:PySem.W.Frag) (C:Addr):Prop where
 pg:PySem.W.plainGet K C Str.empty = true
 hd:PySem.W.hasDictIn K C = true
 po:PySem.W.plainOver K C = true
 sa:PySem.W.findIn K (.ref C) "__setattr__" = some (some (.builtin "object.__setattr__"))
theorem Cls.get {K:PySem.W.Frag} {C:Addr} (c:Cls K C) (f:Str):PySem.W.plainGet K C f = true:=c.pg
noncomputable def NoAttr (K:PySem.W.Frag) (C:Addr) (f:Str):Prop:=PySem.W.findIn K (.ref C) f = some none
theorem NoAttr.taker {K:PySem.W.Frag} {C:Addr} {f:Str} (n:NoAttr K C f):PySem.W.takerIn K C f = some none:=by
 unfold PySem.W.takerIn
 rw [show PySem.W.findIn K (.ref C) f = some none from n]
 rfl
structure Meth (K:PySem.W.Frag) (C:Addr) (m:Str) (f:Addr):Prop where
 at_:PySem.W.findIn K (.ref C) m = some (some (.ref f))
 fn:PySem.W.isFn K (.ref f) = true
 kp:PySem.W.keepIn K (.ref f) = true
section
variable {X:Cx} {pins:List (Addr × Obj)} {σ:St} {H:Hp} {s:Shared} {a C dx:Addr} {fs:List (Str × V)} {f:Str} {v:V} {A:Around} {E:Value -> Shared -> Prop}
theorem getattr_ok {b:Bool} {Q:Value -> Shared -> Prop} (I:Inv X pins σ H s) (e:H a = some (.ins C dx fs)) (c:Cls X.K C) (n:NoAttr X.K C f) (l:fs.lookup f = some v)
  (h:∀ u s',Inv X pins σ H s' -> RelV v u -> Q u s'):wpAny (model X.prog X.w) A (getAttr (.ref a) f b) Q E s:=by
 obtain ⟨mA,O,r,_,_,_⟩:=ins_get I.hok e
 obtain ⟨u,hu,ru⟩:=RelO.some_of (v:=v) (o:=mA f) (by rw [<- l]; exact r f)
 exact get_map I.kIn O (c.get f) c.hd n hu (handed_of ru) (h u _ (I.tok _) ru)
theorem getmeth_ok {m:Str} {g:Addr} {pl:Sem Bool} {Q:Value × List Value -> Shared -> Prop} (I:Inv X pins σ H s) (e:H a = some (.ins C dx fs)) (c:Cls X.K C) (k:Meth X.K C m g) (l:fs.lookup m = none)
  (h:Q (.ref g,[.ref a]) s):wpAny (model X.prog X.w) A (getMethod (.ref a) m pl) Q E s:=by
 obtain ⟨mA,O,r,_,_,_⟩:=ins_get I.hok e
 have hn:mA m = none:=RelO.none_of (by rw [<- l]; exact r m)
 exact get_meth I.kIn O (c.get m) k.at_ k.fn hn h
theorem setattr_ok {y:V} {u:Value} {Q:Unit -> Shared -> Prop} (I:Inv X pins σ H s) (e:H a = some (.ins C dx fs)) (c:Cls X.K C) (n:NoAttr X.K C f) (hl:fs.length < 1000) (ry:RelV y u)
  (h:∀ s',Inv X pins σ (upd H a (.ins C dx (putF f y fs))) s' -> Q () s'):wpAny (model X.prog X.w) A (setAttr (.ref a) f u) Q E s:=by
 obtain ⟨mA,O,r,wi,_,ho⟩:=ins_get I.hok e
 have hz:(fs.map (·.1)).length <= sizeLine:=by rw [List.length_map,sizeLine_eq]; omega
 refine set_map I.kIn O c.sa c.po n.taker c.hd wi hz fun h' O' sb => h _ ?_
 have hd:∃ o,h'.get? dx = some o:=let ⟨o,_,_,e',_⟩:=O'.ns; ⟨o,e'⟩
 refine I.write (x:=a) (e:=dx) (by rw [e]; exact True.intro) (.inr ho) (fun b q hb z => (sb.2 b hb).trans z) hd ?_
 refine ⟨by rw [upd_ne O.ne]; exact ho,?_,O.ne,O'.obj,_,O'.ns,fun g => ?_,fun g hg => ?_⟩
 ·have:=length_putF f y fs; omega
 ·show RelO ((putF f y fs).lookup g) (if g = f then some u else mA g)
  rw [lookup_putF]
  by_cases q:g = f
  ·rw [if_pos q,if_pos q]; exact ry
  ·rw [if_neg q,if_neg q]; exact r g
 ·by_cases q:g = f
  ·rw [q]; exact (keys_putF f y fs).1
  ·refine (keys_putF f y fs).2 g (wi g fun z => hg ?_)
   show (if g = f then some u else mA g) = none
   rw [if_neg q]; exact z
theorem Inv.made (I:Inv X pins σ H s):Inv X pins σ (upd (upd H s.heap.objs.size (.own (s.heap.objs.size + 1))) (s.heap.objs.size + 1) (.ins C s.heap.objs.size []))
  { s with heap:=(s.heap.push PySem.W.emptyDict).push (PySem.W.instObj C s.heap.objs.size) }:=by
 have e1:(s.heap.push PySem.W.emptyDict).get? s.heap.objs.size = some PySem.W.emptyDict:=Heap.get?_push_size s.heap rfl
 have e2:((s.heap.push PySem.W.emptyDict).push (PySem.W.instObj C s.heap.objs.size)).get? (s.heap.objs.size + 1) = some (PySem.W.instObj C s.heap.objs.size):=by
  have:=Heap.get?_push_size (s.heap.push PySem.W.emptyDict) (o:=PySem.W.instObj C s.heap.objs.size) rfl
  rwa [Heap.size_push] at this
 have e3:(s.heap.push PySem.W.emptyDict).Ns s.heap.objs.size (fun _ => none):=⟨PySem.W.emptyDict,#[],_,e1,rfl,(fun e he => absurd he (by simp)),fun _ => rfl⟩
 have I1:=I.laid (a:=s.heap.objs.size) (o:=.own (s.heap.objs.size + 1)) (h':=s.heap.push PySem.W.emptyDict) (t':=s.toks) (fun b u q => Heap.get?_push_of_some _ q) (Nat.le_refl _) ⟨_,e1⟩
 refine I1.laid (a:=s.heap.objs.size + 1) (o:=.ins C s.heap.objs.size []) (t':=s.toks) (fun b u q => Heap.get?_push_of_some _ q) (Nat.le_of_eq (Heap.size_push _ _)) ?_
 have ne:s.heap.objs.size ≠ s.heap.objs.size + 1:=Nat.ne_of_lt (Nat.lt_succ_self _)
 refine ⟨by rw [upd_ne ne,upd_same],Nat.zero_le _,ne,e2,fun _ => none,(Heap.Ns1.of_empty e3).at fun o q => Heap.get?_push_of_some _ q,fun _ => True.intro,fun y hy => absurd rfl hy⟩
theorem attr_of {prog:Program} {w:World} {env:Env} {e:Expr} {f:Str} {pos:Pos} {s:Shared} {Q:Value -> Shared -> Prop} (hb:attributeBase e f env (eval e env) = eval e env)
  (h:wpAny (model prog w) A (eval e env) (fun o s₁ => wpAny (model prog w) A (getAttr o f true) Q E s₁) E s):wpAny (model prog w) A (eval (.Attribute e f pos) env) Q E s :=
 Attribute_any_ h (by rw [arm_eval_Attribute,hb])
end
noncomputable def tFld (K:PySem.W.Frag) (ta:TE) (f:Str):TE:=fun σ H Q => ta σ H fun x H1 => ∃ a C dx fs v,x = .ref a /\ H1 a = some (.ins C dx fs) /\ Cls K C /\ NoAttr K C f /\ fs.lookup f = some v /\ Q v H1
noncomputable def sFld (K:PySem.W.Frag) (ta tv:TE) (f:Str):TS:=fun D σ H => tv σ H fun y H1 => ta σ H1 fun x H2 => ∃ a C dx fs,x = .ref a /\ H2 a = some (.ins C dx fs) /\ Cls K C /\ NoAttr K C f /\ fs.length < 1000 /\
 D.nx σ (upd H2 a (.ins C dx (putF f y fs)))
section
variable {X:Cx} {o e value:Expr} {f:Str} {pos pos' tpos:Pos} {ta tv:TE}
theorem pe_fld (he:PE X e ta) (hb:attributeBase e f X.env (eval e X.env) = eval e X.env):PE X (.Attribute e f pos) (tFld X.K ta f):=by
 intro pins s σ H Q I h
 refine attr_of hb (thn (he pins s σ H _ I h) fun u s1 ⟨x,H1,I1,rx,a,C,dx,fs,v,ex,ea,c,n,l,q⟩ => ?_)
 subst ex
 obtain rfl:u = Value.ref a:=rx
 exact getattr_ok I1 ea c n l fun u' s2 I2 ru => ⟨v,H1,I2,ru,q⟩
theorem ps_fld (ha:PE X o ta) (hv:PE X value tv) (hs:swapsWith value (some (.Attribute o f pos')) pos.line X.env = pure false):PS X (.Assign [.Attribute o f pos'] value pos) (sFld X.K ta tv f):=by
 intro pins s σ H D I h
 refine plainObj_wpAny_Assign_Attribute (thn (hv pins s σ H _ I h) fun u s1 ⟨y,H1,I1,ry,q⟩ => thn (ha pins s1 σ H1 _ I1 q) fun ov s2 ⟨x,H2,I2,rx,a,C,dx,fs,ex,ea,c,n,l,q2⟩ => ?_) hs
 subst ex
 obtain rfl:ov = Value.ref a:=rx
 exact setattr_ok I2 ea c n l ry fun s3 I3 => ⟨σ,_,I3,q2⟩
end
section
variable {X:Cx} {pins:List (Addr × Obj)} {σ:St} {H:Hp} {s:Shared} {A:Around} {E:Value -> Shared -> Prop} {Q:Value -> Shared -> Prop} {c:Value} {b:Bool}
end
end L2
namespace L2
open PySem PySem.Spec PyProof.Rows
structure Room (k:Nat) (A:Around):Prop where
 hd:A.handled = none
 dp:A.depth + 3 * k + 5 < recursionLimit
 un:A.units + 16 * k + 200 < cLine
theorem Room.mono {j k:Nat} {A:Around} (r:Room k A) (h:j <= k):Room j A:=⟨r.hd,by have:=r.dp; omega,by have:=r.un; omega⟩
theorem Room.deeper {k:Nat} {A:Around} (r:Room (k + 1) A) (env:Env):Room k (A.deeper env) :=
 ⟨r.hd,by have:=r.dp; show A.depth + 1 + 3 * k + 5 < _; omega,by have:=r.un; show A.units + 3 + 16 * k + 200 < _; omega⟩
theorem make_depth {A:Around} {C:Addr} {us:List Value} {kw:List (Str × Value)}:(A.under (.builtin "type.__call__" ⟨.ref C :: us,kw⟩)).depth = A.depth + 1:=by
 first | rfl | simp [Around.under,Code.weight,Code.isCreation,Code.isGuard,Code.isCaller,Code.frames,Code.isFrame,guardIds]
theorem make_units {A:Around} {C:Addr} {us:List Value} {kw:List (Str × Value)}:(A.under (.builtin "type.__call__" ⟨.ref C :: us,kw⟩)).units = A.units + 1:=by
 first | rfl | simp [Around.under,Code.cUnits,Code.frames,Code.isFrame]
theorem Room.make {k:Nat} {A:Around} (r:Room (k + 1) A) (C:Addr) (us:List Value) (kw:List (Str × Value)):Room k (A.under (.builtin "type.__call__" ⟨.ref C :: us,kw⟩)) :=
 ⟨r.hd,by have:=r.dp; rw [make_depth]; omega,by have:=r.un; rw [make_units]; omega⟩
theorem Room.depth {k:Nat} {A:Around} (r:Room k A):A.depth < recursionLimit:=by have:=r.dp; omega
noncomputable def tNil:TA:=fun _ H Q => Q [] H
noncomputable def tCons (ta:TE) (tr:TA):TA:=fun σ H Q => ta σ H fun x H1 => tr σ H1 fun xs H2 => Q (x :: xs) H2
section
variable {X:Cx} {e:Expr} {es:List Expr} {te:TE} {t:TA} {pos:Pos}
theorem pa_nil:PA X [] tNil:=fun _ _ _ _ H Q I h => Calls.spliced_nil ⟨[],H,I,.nil,h⟩
theorem pa_cons (ha:PE X e te) (hr:PA X es t) (hs:starEach (e :: es) X.env = (false,eval e X.env) :: starEach es X.env:=by rfl):PA X (e :: es) (tCons te t):=by
 intro pos pins s σ H Q I h
 rw [hs]
 show wpAny _ _ (spliced ((false,eval e X.env) :: backTo pos (starEach es X.env))) _ _ s
 refine Calls.spliced_cons (thn (ha pins s σ H _ I h) fun u s1 ⟨x,H1,I1,r1,q1⟩ => ?_)
 exact thn (hr pos pins s1 σ H1 _ I1 q1) fun us s2 ⟨xs,H2,I2,r2,q2⟩ => ⟨x :: xs,H2,I2,.cons r1 r2,q2⟩
noncomputable def tTup (t:TA):TE:=fun σ H Q => t σ H fun xs H1 => xs.length <= sizeLine /\ ∀ p,H1 p = none -> Q (.ref p) (upd H1 p (.tup xs))
noncomputable def tLst (t:TA):TE:=fun σ H Q => t σ H fun xs H1 => xs.length <= sizeLine /\ ∀ p,H1 p = none -> Q (.ref p) (upd H1 p (.lst xs))
theorem pe_tup {x1} (h:PA X es t):PE X (.Tuple es x1 pos) (tTup t):=by
 intro pins s σ H Q I hq
 refine wpAny_Tuple_spliced (thn (h pos pins s σ H _ I hq) fun us s1 ⟨xs,H1,I1,r,z,q⟩ => ⟨by rw [<- r.length]; exact z,?_⟩)
 have hf:H1 s1.heap.objs.size = none:=I1.hok.fresh (Nat.le_refl _)
 refine ⟨.ref s1.heap.objs.size,upd H1 s1.heap.objs.size (.tup xs),I1.laid (t':=s1.toks) (fun b u e => Heap.get?_push_of_some _ e) (Nat.le_refl _) ?_,rfl,q _ hf⟩
 exact ⟨z,us,r,⟨_,Heap.get?_push_size _ rfl,rfl,_,rfl⟩⟩
theorem pe_lst (h:PA X es t):PE X (.List es pos) (tLst t):=by
 intro pins s σ H Q I hq
 refine wpAny_List_spliced (thn (h pos pins s σ H _ I hq) fun us s1 ⟨xs,H1,I1,r,z,q⟩ => ⟨by rw [<- r.length]; exact z,?_⟩)
 have hf:H1 s1.heap.objs.size = none:=I1.hok.fresh (Nat.le_refl _)
 refine ⟨.ref s1.heap.objs.size,upd H1 s1.heap.objs.size (.lst xs),I1.laid (t':=s1.toks) (fun b u e => Heap.get?_push_of_some _ e) (Nat.le_refl _) ?_,rfl,q _ hf⟩
 exact ⟨z,us,0,r,Heap.get?_push_size _ rfl⟩
end
noncomputable abbrev Sp:=List V -> Hp -> VK -> XK -> Prop
noncomputable abbrev CXT:=List Env -> Hp -> Shared -> XK -> Value -> Shared -> Prop
structure Env0 (P:Program) (w:World) (K:PySem.W.Frag) (mg:Str -> Option Value) (base:Heap) (A:Around) (outer:List Env) (s:Shared) (H:Hp):Prop where
 frames:A.frames = some outer
 mod:Mod K mg base
 bs:∀ b o,base.get? b = some o -> s.heap.get? b = some o /\ H b = none
 bsz:base.objs.size <= s.heap.objs.size
 funs:s.heap.FunFrames base outer
 frf:∀ b ∈ frs outer,H b = none
 hok:HOk P w H s.heap
 bare:AllBare s.gens
noncomputable def CE (outer:List Env) (P:Program) (w:World) (H:Hp) (s:Shared) (Q:VK) (u:Value) (s':Shared):Prop :=
 ∃ v H',s'.os = s.os /\ AllBare s'.gens /\ Un (frs outer) [] H H' s.heap s'.heap /\ HOk P w H' s'.heap /\ RelV v u /\ Q v H'
noncomputable def CR (CX:CXT) (outer:List Env) (P:Program) (w:World) (H:Hp) (s:Shared) (Q:VK) (E:XK) (r:Result) (s':Shared):Prop :=
 match r with
 | .ok (.ret u) => CE outer P w H s Q u s'
 | .ok _ => False
 | .error e => CX outer H s E e s'
structure FnOk (P:Program) (w:World) (K:PySem.W.Frag) (mg:Str -> Option Value) (base:Heap) (CX:CXT) (k:Nat) (f:Addr) (fd:FuncData) (ps:List Str) (sp:Sp):Prop where
 len:∀ vs H Q E,sp vs H Q E -> vs.length = ps.length
 run:∀ (A:Around) (outer:List Env) (s:Shared) (H:Hp) (args:Args) (us:List Value) (vs:List V) (Q:VK) (E:XK),Room k A -> Env0 P w K mg base A outer s H -> BindsTo s fd args (ps.zip us) -> Vals vs us -> sp vs H Q E ->
  codeAny (model P w) A (.call (.ref f) args) (CR CX outer P w H s Q E) s
theorem Env0.make {P:Program} {w:World} {K:PySem.W.Frag} {mg:Str -> Option Value} {base:Heap} {A:Around} {outer:List Env} {s:Shared} {H:Hp} (e:Env0 P w K mg base A outer s H) (C:Addr) (us:List Value) (kw:List (Str × Value)) :
  Env0 P w K mg base (A.under (.builtin "type.__call__" ⟨.ref C :: us,kw⟩)) outer s H:=⟨by first | exact e.frames | (simpa [Around.under,Code.envs,Code.isFrame,pushEnvs] using e.frames),e.mod,e.bs,e.bsz,e.funs,e.frf,e.hok,e.bare⟩
section
variable {X:Cx} {pins:List (Addr × Obj)} {σ:St} {H:Hp} {s s':Shared}
theorem Inv.env0 (I:Inv X pins σ H s):Env0 X.prog X.w X.K X.mg X.base X.A X.stack s H :=
 ⟨I.ok.frames,I.ok.mod,I.bs,Nat.le_trans I.ok.bsz I.sz,I.stack,I.stkFree,I.hok,I.bare⟩
theorem Inv.after {Q:VK} {u:Value} (I:Inv X pins σ H s) (h:CE X.stack X.prog X.w H s Q u s'):EP X pins σ Q u s':=by
 obtain ⟨v,H',os,bare,un,hok,r,q⟩:=h
 obtain ⟨hh,g,d,t,os'⟩:=s'
 obtain rfl:os' = s.os:=os
 exact ⟨v,H',I.call (h':=hh) (g':=g) (d':=d) (t':=t) (ch:=[]) un hok bare (fun b z => absurd z (by simp)),r,q⟩
end
noncomputable def tCall (sp:Sp) (dvs:List V) (E:XK) (t:TA):TE:=fun σ H Q => t σ H fun vs H1 => sp (vs ++ dvs) H1 Q E
noncomputable def tMeth (C:Addr) (m:Str) (sp:Sp) (dvs:List V) (E:XK) (ta:TE) (t:TA):TE:=fun σ H Q => ta σ H fun x H1 => ∃ a dx fs,x = .ref a /\ H1 a = some (.ins C dx fs) /\ fs.lookup m = none /\
 t σ H1 fun vs H2 => sp (x :: (vs ++ dvs)) H2 Q E
noncomputable def tMake (C:Addr) (sp:Sp) (dvs:List V) (E:XK) (t:TA):TE:=fun σ H Q => t σ H fun vs H1 => ∀ x dx,H1 x = none -> H1 dx = none -> dx ≠ x ->
 sp (.ref x :: (vs ++ dvs)) (upd (upd H1 dx (.own x)) x (.ins C dx [])) (fun v H2 => v = .non /\ Q (.ref x) H2) E
noncomputable def Binds (K:PySem.W.Frag) (fd:FuncData) (ps:List Str) (ds:List Value):Prop :=
 ∀ (s:Shared) (us:List Value),K.In s.heap -> (us ++ ds).length = ps.length -> BindsTo s fd ⟨us,[]⟩ (ps.zip (us ++ ds))
theorem Binds.all {K:PySem.W.Frag} {fd:FuncData} {ps:List Str} (h:∀ us:List Value,us.length = ps.length -> bindArgs fd ⟨us,[]⟩ = pure (ps.zip us)):Binds K fd ps []:=fun s us _ hl => by
 rw [List.append_nil] at hl ⊢
 exact .of_eq (h us hl)
noncomputable def Passes (CX:CXT) (X:Cx) (E:XK):Prop:=∀ (pins:List (Addr × Obj)) (σ:St) (H:Hp) (s:Shared) (e:Value) (s':Shared),Inv X pins σ H s -> CX X.stack H s E e s' -> X.xe e s'
section
variable {X:Cx} {CX:CXT} {k:Nat} {f C:Addr} {fd:FuncData} {ps:List Str} {sp:Sp} {dvs:List V} {ds:List Value} {E:XK} {x m:Str} {p pos apos:Pos} {e o:Expr} {es:List Expr} {ta:TE} {t:TA}
theorem run_fn {pins:List (Addr × Obj)} {σ:St} {H:Hp} {s:Shared} {Q:VK} {us:List Value} {vs:List V} (F:FnOk X.prog X.w X.K X.mg X.base CX k f fd ps sp) (hr:Room k X.A) (hb:Binds X.K fd ps ds) (hd:Vals dvs ds) (hx:Passes CX X E)
  (I:Inv X pins σ H s) (r:Vals vs us) (h:sp (vs ++ dvs) H Q E):wpAny (model X.prog X.w) X.A (call (.ref f) us) (EP X pins σ Q) X.xe s:=by
 have r2:Vals (vs ++ dvs) (us ++ ds):=r.append hd
 have hl:(us ++ ds).length = ps.length:=by rw [<- r2.length]; exact F.len _ _ _ _ h
 refine wpAny_call (codeAny_mono (F.run X.A X.stack s H ⟨us,[]⟩ (us ++ ds) (vs ++ dvs) Q E hr I.env0 (hb s us I.kIn hl) r2 h) fun r s' hq => ?_)
 cases r with
 | error e => exact hx pins σ H s e s' I hq
 | ok fl =>
  cases fl with
  | ret u => exact I.after hq
  | next => exact False.elim hq
  | brk => exact False.elim hq
  | cont => exact False.elim hq
theorem pe_call (F:FnOk X.prog X.w X.K X.mg X.base CX k f fd ps sp) (hr:Room k X.A) (hg:Gl X x) (hm:X.mg x = some (.ref f)) (hk:PySem.W.keepIn X.K (.ref f) = true) (hb:Binds X.K fd ps ds) (hd:Vals dvs ds) (hx:Passes CX X E)
  (ha:PA X (e :: es) t) (hdb:(x == ("__debug__":Str)) = false:=by decide) (he:starEach (e :: es) X.env = (false,eval e X.env) :: starEach es X.env:=by rfl) (hpl:(backTo pos (starEach es X.env)).any (·.1) = false:=by rfl) :
  PE X (.Call (.Name x p) (e :: es) [] pos) (tCall sp dvs E t):=by
 intro pins s σ H Q I h
 refine wpAny_Call_Name_kw (ld_glob I hg hm ?_ hdb)
 refine PySem.W.callWith_K (h₀:=X.base) I.ok.mod.kin hk (thn (ha pos pins s σ H _ I h) fun us s1 ⟨vs,H1,I1,r,q⟩ => ⟨I1.kIn,?_⟩) he hpl
 exact run_fn F hr hb hd hx I1 r q
theorem pe_call0 (F:FnOk X.prog X.w X.K X.mg X.base CX k f fd ps sp) (hr:Room k X.A) (hg:Gl X x) (hm:X.mg x = some (.ref f)) (hk:PySem.W.keepIn X.K (.ref f) = true) (hb:Binds X.K fd ps ds) (hd:Vals dvs ds) (hx:Passes CX X E)
  (hdb:(x == ("__debug__":Str)) = false:=by decide):PE X (.Call (.Name x p) [] [] pos) (tCall sp dvs E tNil):=by
 intro pins s σ H Q I h
 refine wpAny_Call_Name_kw (ld_glob I hg hm ?_ hdb)
 exact PySem.W.callWith_K0 I.kIn hk (run_fn (us:=[]) F hr hb hd hx I .nil h)
theorem pe_meth {pl:Sem Bool} (he:PE X o ta) (c:Cls X.K C) (hm:Meth X.K C m f) (F:FnOk X.prog X.w X.K X.mg X.base CX k f fd ps sp) (hr:Room k X.A) (hb:Binds X.K fd ps ds) (hd:Vals dvs ds) (hx:Passes CX X E) (ha:PA X (e :: es) t)
  (hst:starEach (e :: es) X.env = (false,eval e X.env) :: starEach es X.env:=by rfl) (hpl:(backTo pos (starEach es X.env)).any (·.1) = false:=by rfl)
  (ht:eval (.Call (.Attribute o m apos) (e :: es) [] pos) X.env = (do
   let ov <- eval o X.env
   standAt apos.atName
   let (f,first) <- holding [ov] (getMethod ov m pl)
   callWith pos f first (backTo pos (starEach (e :: es) X.env)) (backToKw pos (keywordEach [] X.env))):=by rfl) :
  PE X (.Call (.Attribute o m apos) (e :: es) [] pos) (tMeth C m sp dvs E ta t):=by
 intro pins s σ H Q I h
 refine PySem.W.methodCall_KW (pl:=pl) (thn (he pins s σ H _ I h) fun u s1 ⟨x,H1,I1,rx,a,dx,fs,ex,ea,l,q⟩ => ?_) ht
 subst ex
 obtain rfl:u = Value.ref a:=rx
 refine getmeth_ok I1 ea c hm l ?_
 refine PySem.W.callWith_K (first:=[.ref a]) (h₀:=X.base) I.ok.mod.kin hm.kp (thn (ha pos pins s1 σ H1 _ I1 q) fun us s2 ⟨vs,H2,I2,r,q2⟩ => ⟨I2.kIn,?_⟩) hst hpl
 exact run_fn (us:=.ref a :: us) (vs:=.ref a :: vs) F hr hb hd hx I2 (.cons rfl r) q2
theorem pe_meth0 {pl:Sem Bool} (he:PE X o ta) (c:Cls X.K C) (hm:Meth X.K C m f) (F:FnOk X.prog X.w X.K X.mg X.base CX k f fd ps sp) (hr:Room k X.A) (hb:Binds X.K fd ps ds) (hd:Vals dvs ds) (hx:Passes CX X E)
  (ht:eval (.Call (.Attribute o m apos) [] [] pos) X.env = (do
   let ov <- eval o X.env
   standAt apos.atName
   let (f,first) <- holding [ov] (getMethod ov m pl)
   callWith pos f first (backTo pos (starEach [] X.env)) (backToKw pos (keywordEach [] X.env))):=by rfl) :
  PE X (.Call (.Attribute o m apos) [] [] pos) (tMeth C m sp dvs E ta tNil):=by
 intro pins s σ H Q I h
 refine PySem.W.methodCall_KW (pl:=pl) (thn (he pins s σ H _ I h) fun u s1 ⟨x,H1,I1,rx,a,dx,fs,ex,ea,l,q⟩ => ?_) ht
 subst ex
 obtain rfl:u = Value.ref a:=rx
 refine getmeth_ok I1 ea c hm l ?_
 exact PySem.W.callWith_K0 (first:=[.ref a]) I1.kIn hm.kp (run_fn (us:=[.ref a]) (vs:=[.ref a]) F hr hb hd hx I1 (.cons rfl .nil) q)
structure Mk (K:PySem.W.Frag) (C f:Addr):Prop where
 makes:PySem.W.makesIn K C = true
 init:PySem.W.findIn K (.ref C) "__init__" = some (some (.ref f))
 fn:PySem.W.isFn K (.ref f) = true
 kp:PySem.W.keepIn K (.ref C) = true
theorem run_make {pins:List (Addr × Obj)} {σ:St} {H:Hp} {s:Shared} {Q:VK} {us:List Value} {vs:List V} (M:Mk X.K C f) (F:FnOk X.prog X.w X.K X.mg X.base CX k f fd ps sp) (hr:Room (k + 1) X.A) (hb:Binds X.K fd ps ds) (hd:Vals dvs ds)
  (hx:Passes CX X E) (I:Inv X pins σ H s) (r:Vals vs us)
  (h:∀ x dx,H x = none -> H dx = none -> dx ≠ x -> sp (.ref x :: (vs ++ dvs)) (upd (upd H dx (.own x)) x (.ins C dx [])) (fun v H2 => v = .non /\ Q (.ref x) H2) E) :
  wpAny (model X.prog X.w) X.A (call (.ref C) us) (EP X pins σ Q) X.xe s:=by
 have hq:=h (s.heap.objs.size + 1) s.heap.objs.size (I.hok.fresh (Nat.le_succ _)) (I.hok.fresh (Nat.le_refl _)) (Nat.ne_of_lt (Nat.lt_succ_self _))
 have I2:=Inv.made (C:=C) I
 have r2:Vals (V.ref (s.heap.objs.size + 1) :: (vs ++ dvs)) (Value.ref (s.heap.objs.size + 1) :: (us ++ ds)):=.cons rfl (r.append hd)
 have hl:(Value.ref (s.heap.objs.size + 1) :: us ++ ds).length = ps.length:=by
  have e:=r2.length
  rw [F.len _ _ _ _ hq] at e
  exact e.symm
 refine wpAny_call (make_map (f:=f) I.kIn M.makes M.init (beq_iff_eq.mp M.fn) (codeAny_mono (F.run _ X.stack _ _ ⟨Value.ref (s.heap.objs.size + 1) :: us,[]⟩ (Value.ref (s.heap.objs.size + 1) :: (us ++ ds)) _ _ E (hr.make C us [])
  (I2.env0.make C us []) (hb _ (Value.ref (s.heap.objs.size + 1) :: us) I2.kIn hl) r2 hq) fun r s' hq' => ?_))
 cases r with
 | error e => exact hx pins σ _ _ e s' I2 hq'
 | ok fl =>
  cases fl with
  | ret u =>
   obtain ⟨v,H',I3,rv,ev,q3⟩:=I2.after hq'
   subst ev
   exact ⟨rv,⟨V.ref (s.heap.objs.size + 1),H',I3,rfl,q3⟩⟩
  | next => exact False.elim hq'
  | brk => exact False.elim hq'
  | cont => exact False.elim hq'
theorem pe_make (M:Mk X.K C f) (F:FnOk X.prog X.w X.K X.mg X.base CX k f fd ps sp) (hr:Room (k + 1) X.A) (hg:Gl X x) (hm:X.mg x = some (.ref C)) (hb:Binds X.K fd ps ds) (hd:Vals dvs ds) (hx:Passes CX X E)
  (ha:PA X (e :: es) t) (hdb:(x == ("__debug__":Str)) = false:=by decide) (he:starEach (e :: es) X.env = (false,eval e X.env) :: starEach es X.env:=by rfl) (hpl:(backTo pos (starEach es X.env)).any (·.1) = false:=by rfl) :
  PE X (.Call (.Name x p) (e :: es) [] pos) (tMake C sp dvs E t):=by
 intro pins s σ H Q I h
 refine wpAny_Call_Name_kw (ld_glob I hg hm ?_ hdb)
 refine PySem.W.callWith_K (h₀:=X.base) I.ok.mod.kin M.kp (thn (ha pos pins s σ H _ I h) fun us s1 ⟨vs,H1,I1,r,q⟩ => ⟨I1.kIn,?_⟩) he hpl
 exact run_make M F hr hb hd hx I1 r q
end
section
variable {X:Cx} {CX:CXT} {k:Nat} {f C:Addr} {fd:FuncData} {ps ks:List Str} {sp:Sp} {E:XK} {x m:Str} {p pos apos kpos:Pos} {e o:Expr} {es:List Expr} {kws:List Keyword} {te ta:TE} {t tk:TA} {nm:Option Str}
variable {g:List Value -> List Value -> List Value} {gV:List V -> List V -> List V}
end
structure FnScope (N P:List Str) (sc:Scope):Prop where
 kind:sc.kind = .function
 co:sc.isCoroutine = false
 gen:sc.isGenerator = false
 nd:N.Nodup
 pre:N.take P.length = P
 par:∀ x ∈ P,sc.names.lookup x = some .local \/ sc.names.lookup x = some .cell
 nofree:∀ y ∈ sc.names,y.2 ≠ .free
theorem bindL_out {kindOf:Str -> Option NameKind} {x:Str}:∀ {binds:List (Str × Value)} {m:Str -> Option Value},(∀ v,(x,v) ∉ binds) -> bindL kindOf binds m x = m x
 | [],_,_ => rfl
 | (n,v) :: r,m,h => by
  unfold bindL
  rw [bindL_out fun w hw => h w (List.mem_cons_of_mem _ hw)]
  split
  ·have:x ≠ n:=by rintro rfl; exact h v List.mem_cons_self
   simp [this]
  ·rfl
theorem bindC_out {kindOf:Str -> Option NameKind} {x:Str}:∀ {binds:List (Str × Value)} {m:Str -> Option Value},(∀ v,(x,v) ∉ binds) -> bindC kindOf binds m x = m x
 | [],_,_ => rfl
 | (n,v) :: r,m,h => by
  unfold bindC
  rw [bindC_out fun w hw => h w (List.mem_cons_of_mem _ hw)]
  split
  ·rfl
  ·have:x ≠ n:=by rintro rfl; exact h v List.mem_cons_self
   simp [this]
theorem bindL_get {kindOf:Str -> Option NameKind} {x:Str} {v:Value}:∀ {P:List Str} {vs:List Value} {i:Nat} {m:Str -> Option Value},P.Nodup -> P[i]? = some x -> vs[i]? = some v -> kindOf x = some .local ->
  bindL kindOf (P.zip vs) m x = some v
 | [],_,_,_,_,h,_,_ => by simp at h
 | _ :: _,[],_,_,_,_,h,_ => by simp at h
 | p :: P,w :: vs,0,m,nd,h1,h2,hk => by
  simp at h1 h2; subst h1; subst h2
  show bindL kindOf ((p,w) :: P.zip vs) m p = _
  unfold bindL
  rw [bindL_out fun v hv => (List.nodup_cons.mp nd).1 (List.of_mem_zip hv).1,if_pos hk]
  simp
 | p :: P,w :: vs,i + 1,m,nd,h1,h2,hk => by
  show bindL kindOf ((p,w) :: P.zip vs) m x = _
  unfold bindL
  exact bindL_get (i:=i) (List.nodup_cons.mp nd).2 (by simpa using h1) (by simpa using h2) hk
theorem bindC_get {kindOf:Str -> Option NameKind} {x:Str} {v:Value}:∀ {P:List Str} {vs:List Value} {i:Nat} {m:Str -> Option Value},P.Nodup -> P[i]? = some x -> vs[i]? = some v -> kindOf x ≠ some .local ->
  bindC kindOf (P.zip vs) m x = some v
 | [],_,_,_,_,h,_,_ => by simp at h
 | _ :: _,[],_,_,_,_,h,_ => by simp at h
 | p :: P,w :: vs,0,m,nd,h1,h2,hk => by
  simp at h1 h2; subst h1; subst h2
  show bindC kindOf ((p,w) :: P.zip vs) m p = _
  unfold bindC
  rw [bindC_out fun v hv => (List.nodup_cons.mp nd).1 (List.of_mem_zip hv).1,if_neg hk]
  simp
 | p :: P,w :: vs,i + 1,m,nd,h1,h2,hk => by
  show bindC kindOf ((p,w) :: P.zip vs) m x = _
  unfold bindC
  exact bindC_get (i:=i) (List.nodup_cons.mp nd).2 (by simpa using h1) (by simpa using h2) hk
noncomputable def start (N:List Str) (vs:List V):St:=vs.map some ++ List.replicate (N.length - vs.length) none
noncomputable def cxOf (CX:CXT) (P:Program) (w:World) (K:PySem.W.Frag) (mg:Str -> Option Value) (base:Heap) (N:List Str) (qual:Str) (scope:Scope) (f:Addr) (cd:Value) (A:Around) (outer:List Env) (s:Shared) (H:Hp) (E:XK):Cx where
 prog:=P
 w:=w
 K:=K
 mg:=mg
 base:=base
 A:=A.deeper (envOfC qual scope s.heap.objs.size f cd)
 N:=N
 s₀:=s
 H₀:=H
 env:=envOfC qual scope s.heap.objs.size f cd
 outer:=outer
 stack:=envOfC qual scope s.heap.objs.size f cd :: outer
 ex:=[]
 calm:=true
 fn:=fun _ => true
 pn:=[]
 xe:=fun e s' => wpAny (model P w) (A.deeper (envOfC qual scope s.heap.objs.size f cd)) (leaving (envOfC qual scope s.heap.objs.size f cd) e) (fun _ s'' => CX outer H s E e s'') (fun e' s'' => CX outer H s E e' s'') s'
theorem cell_has {sc:Scope} {n:Nat} {x:Str} (h:sc.names.lookup x = some .cell):∃ c,(cellsFrom n sc.names []).lookup x = some c:=by
 have q:=PySem.W.cellsFrom_some sc.names n [] (.inl h)
 exact Option.isSome_iff_exists.mp q
theorem inv_start {CX:CXT} {P:Program} {w:World} {K:PySem.W.Frag} {mg:Str -> Option Value} {base:Heap} {N ps:List Str} {qual:Str} {scope:Scope} {f:Addr} {cd:Value} {A:Around} {outer:List Env} {s s1:Shared} {H:Hp} {E:XK} {us:List Value} {vs:List V}
  (S:FnScope N ps scope) (hd:A.handled = none) (e0:Env0 P w K mg base A outer s H) (hl:vs.length = ps.length) (r:Vals vs us)
  (x:InCallC s s.heap.objs.size (bindL (envOfC qual scope s.heap.objs.size f cd).kindOf (ps.zip us) fun _ => none) (cellsFrom (s.heap.objs.size + 1) scope.names []) (bindC (envOfC qual scope s.heap.objs.size f cd).kindOf (ps.zip us) fun _ => none) s1) :
  Inv (cxOf CX P w K mg base N qual scope f cd A outer s H E) [] (start N vs) H s1:=by
 have hpl:ps.length <= N.length:=by have:=congrArg List.length S.pre; rw [List.length_take] at this; omega
 obtain ⟨h1,tk,rfl,hk⟩:=x.done
 have noA:∀ b:Addr,b ∉ (cxOf CX P w K mg base N qual scope f cd A outer s H E).ex:=fun b z => absurd (show b ∈ ([]:List Addr) from z) (by simp)
 refine ⟨⟨e0.mod,S.kind,rfl,rfl,Nat.le_refl _,fun y z c h1 h2 => ?_,fun y hy => ?_,fun y c _ h => ?_,fun _ => hd,Around.frames_deeper e0.frames,.inr ⟨rfl,rfl⟩,fun b z => absurd z (noA b),e0.bs,e0.bsz,fun b _ _ => noA b,fun b z => absurd z (noA b),e0.funs,e0.frf⟩,
  rfl,e0.bare,Un.kept hk,⟨_,x.toInCall.ns,fun i y v h1 h2 h3 => ?_⟩,fun y c h => ⟨_,x.cell y c h⟩,e0.hok.fresh (Nat.le_refl _),fun y c h => ?_,fun p hp => absurd (show p ∈ ([]:List (Addr × Obj)) from hp) (by simp),e0.hok.kept hk,?_⟩
 ·exact name_of_addr x.apart (PySem.mem_of_lookup h1) (PySem.mem_of_lookup h2)
 ·have hy:scope.names.lookup y = some .cell \/ scope.names.lookup y = some .free:=hy
  rcases hy with hy | hy
  ·exact cell_has hy
  ·exact absurd rfl (S.nofree _ (PySem.mem_of_lookup hy))
 ·exact Nat.le_of_lt (x.above y c (PySem.mem_of_lookup h))
 ·have hi:i < vs.length:=by
   unfold start at h2
   by_cases hi:i < vs.length
   ·exact hi
   ·rw [List.getElem?_append_right (by simpa using hi)] at h2
    rw [List.getElem?_replicate] at h2
    split at h2 <;> cases h2
  have ha:vs[i]? = some v:=by
   unfold start at h2
   rw [List.getElem?_append_left (by simpa using hi),List.getElem?_map] at h2
   cases e:vs[i]? with
   | none => rw [e] at h2; cases h2
   | some a => rw [e] at h2; cases h2; rfl
  obtain ⟨u,hu,rv⟩:=r.get ha
  have hp:ps[i]? = some y:=by
   rw [<- S.pre,List.getElem?_take_of_lt (by omega)]; exact h1
  have ndP:ps.Nodup:=by rw [<- S.pre]; exact S.nd.sublist (List.take_sublist _ _)
  refine ⟨u,rv,?_⟩
  rcases S.par y (List.mem_of_getElem? hp) with k | k
  ·exact .inl ⟨k,bindL_get ndP hp hu k⟩
  ·obtain ⟨c,e⟩:=cell_has (n:=s.heap.objs.size + 1) k
   refine .inr ⟨.inl k,c,e,?_⟩
   have q:=x.cell y c e
   rw [bindC_get ndP hp hu (by show scope.names.lookup y ≠ _; rw [k]; decide)] at q
   exact q
 ·exact e0.hok.fresh (Nat.le_of_lt (x.above y c (PySem.mem_of_lookup h)))
 ·unfold start
  show _ = N.length
  rw [List.length_append,List.length_map,List.length_replicate]
  omega
theorem fn_of {CX:CXT} {P:Program} {w:World} {K:PySem.W.Frag} {mg:Str -> Option Value} {base:Heap} {k:Nat} {f:Addr} {name qual:Str} {params:Arguments} {body:List Stmt} {scope:Scope} {dV kV doc pm cdv ct oc:Value} {an od:Option Addr}
  {osl:Array (Option Value)} {N ps:List Str} {sp:Sp} (lk:K.lookup f = some ⟨oc,od,.func (PySem.W.fnOf name qual params body scope dV kV doc pm an cdv ct),osl⟩) (hcd:PySem.W.codeIn K cdv qual = true) (S:FnScope N ps scope)
  (len:∀ vs H Q E,sp vs H Q E -> vs.length = ps.length)
  (hbody:∀ (A:Around) (outer:List Env) (s:Shared) (H:Hp) (vs:List V) (Q:VK) (E:XK),Room k (A.deeper (envOfC qual scope s.heap.objs.size f cdv)) -> sp vs H Q E ->
   ∃ t,PSs (cxOf CX P w K mg base N qual scope f cdv A outer s H E) body t /\ t { nx:=fun _ H' => Q .non H',rt:=Q } (start N vs) H) :
  FnOk P w K mg base CX (k + 1) f (PySem.W.fnOf name qual params body scope dV kV doc pm an cdv ct) ps sp:=by
 refine ⟨len,fun A outer s H args us vs Q E hr e0 hb r hsp => ?_⟩
 have hl:=len _ _ _ _ hsp
 have KX:K.In s.heap:=e0.mod.kin.keeps fun b o e => (e0.bs b o e).1
 have lim:s.heap.NoLimit:=e0.mod.nolimit.keeps fun b o e => (e0.bs b o e).1
 have hkind:∀ y ∈ ps.zip us,scope.names.lookup y.1 = some .local \/ (scope.names.lookup y.1 = some .cell /\ ((cellsFrom (s.heap.objs.size + 1) scope.names []).lookup y.1).isSome = true):=fun ⟨n,v⟩ hy => by
  rcases S.par n (List.of_mem_zip hy).1 with q | q
  ·exact .inl q
  ·exact .inr ⟨q,PySem.W.cellsFrom_some _ _ _ (.inl q)⟩
 refine codeAny_call_function hr.depth (KX _ _ lk) rfl S.co S.gen rfl (PySem.W.codeRec_of KX hcd) (hb _ _ _ _ ?_)
 refine wpAny_newFunctionEnv_cells S.kind hkind fun env he s1 x => ?_
 subst he
 refine ⟨lim.keeps x.toInCall.keep,codeAny_func ?_⟩
 obtain ⟨t,ht,hq⟩:=hbody A outer s H vs Q E (hr.deeper _) hsp
 have I:Inv (cxOf CX P w K mg base N qual scope f cdv A outer s H E) [] (start N vs) H s1:=inv_start S hr.hd e0 hl r x
 refine wpAny_mono (ht [] s1 (start N vs) H _ I hq) (fun fl s' hs => ?_) fun e s' hs => hs
 have fin:∀ {σ':St} {H':Hp} {v:V} {u:Value},Inv (cxOf CX P w K mg base N qual scope f cdv A outer s H E) [] σ' H' s' -> RelV v u -> Q v H' -> CE outer P w H s Q u s' :=
  fun {σ' H' v u} J rv q => ⟨v,H',J.os,J.bare,J.base,J.hok,rv,q⟩
 cases fl with
 | ret u =>
  obtain ⟨v,σ',H',J,rv,q⟩:=hs
  exact fin J rv q
 | next =>
  obtain ⟨σ',H',J,q⟩:=hs
  exact fin (v:=V.non) (u:=Value.none) J rfl q
 | brk =>
  obtain ⟨_,_,_,q⟩:=hs
  exact False.elim q
 | cont =>
  obtain ⟨_,_,_,q⟩:=hs
  exact False.elim q
end L2
namespace L2
open PySem PySem.Spec PyProof.Rows
section
variable {X:Cx} {x:Str} {p pos:Pos} {e:Expr} {es:List Expr} {t:TA} {id T:String} {r:List V -> Hp -> VK -> Prop}
noncomputable def tCB (r:List V -> Hp -> VK -> Prop) (t:TA):TE:=fun σ H Q => t σ H fun vs H1 => r vs H1 Q
theorem pe_callB (hc:CallR X (.builtin id) r) (hg:Gl X x) (hm:X.mg x = none) (hv:bootBuiltins x = some (.builtin id)) (ha:PA X (e :: es) t) (hn:x ≠ "__name__":=by decide) (hdb:(x == ("__debug__":Str)) = false:=by decide)
  (he:starEach (e :: es) X.env = (false,eval e X.env) :: starEach es X.env:=by rfl) (hpl:(backTo pos (starEach es X.env)).any (·.1) = false:=by rfl):PE X (.Call (.Name x p) (e :: es) [] pos) (tCB r t):=by
 intro pins s σ H Q I h
 refine wpAny_Call_Name_kw (ld_blt I hg hm hv ?_ hn hdb)
 exact PyProof.Rows.callWith_builtin1 (thn (ha pos pins s σ H _ I h) fun us s1 ⟨vs,H1,I1,r1,q1⟩ => hc pins s1 σ H1 vs us Q I1 r1 q1) he hpl
theorem pe_callTy (hc:CallR X (.type T) r) (hg:Gl X x) (hm:X.mg x = none) (hv:bootBuiltins x = some (.type T)) (ha:PA X (e :: es) t) (hn:x ≠ "__name__":=by decide) (hdb:(x == ("__debug__":Str)) = false:=by decide)
  (he:starEach (e :: es) X.env = (false,eval e X.env) :: starEach es X.env:=by rfl) (hpl:(backTo pos (starEach es X.env)).any (·.1) = false:=by rfl):PE X (.Call (.Name x p) (e :: es) [] pos) (tCB r t):=by
 intro pins s σ H Q I h
 refine wpAny_Call_Name_kw (ld_blt I hg hm hv ?_ hn hdb)
 exact PyProof.Rows.callWith_type1 (thn (ha pos pins s σ H _ I h) fun us s1 ⟨vs,H1,I1,r1,q1⟩ => hc pins s1 σ H1 vs us Q I1 r1 q1) he hpl
end
end L2
namespace HT
open PySem PyProof.Rows
noncomputable def lexLt:List Int -> List Int -> Bool
 | [],[] => false
 | [],_ :: _ => true
 | _ :: _,[] => false
 | x :: xs,y :: ys => if x = y then lexLt xs ys else decide (x < y)
theorem lexLt_cons (x y:Int) (xs ys:List Int):lexLt (x :: xs) (y :: ys) = if x = y then lexLt xs ys else decide (x < y):=rfl
theorem lexLt_nil_nil:lexLt [] [] = false:=rfl
theorem lexLt_nil_cons (y:Int) (ys:List Int):lexLt [] (y :: ys) = true:=rfl
theorem lexLt_cons_nil (x:Int) (xs:List Int):lexLt (x :: xs) [] = false:=rfl
theorem eqAt_int (A:Around) (s:Shared) (a:Int) (t:Tok) (c:Int) (u:Tok):∃ e,SeqAt.EqAt A s (.int a t) (.int c u) e /\ (e = true ↔ a = c) :=
 ⟨(a == c),SeqAt.EqAt.int_int a t c u,by simp⟩
theorem rcLt_int (A:Around) (s:Shared) (a:Int) (t:Tok) (c:Int) (u:Tok) (prog:Program) (w:World) (E:Value -> Shared -> Prop) (Q:Value -> Shared -> Prop) (h:Q (.bool (decide (a < c))) s) :
  wpAny (model prog w) A (richCompare .Lt (.int a t) (.int c u)) Q E s :=
 (PyProof.Rows.lt_int h:wpAny (model prog w) A (compareOp .Lt (.int a t) (.int c u)) Q E s)
section
open PySem.SeqAt
open PySem.AutoSeq1 (wpAny_loadPart')
open PySem.MeetsSeq PySem.MeetsSeq2 PySem.MeetsSeq3
theorem tuple_lt_ints (l b:Addr) (items items2:Array Value) (n n2:Nat) (dd dd2:Option Addr) (sl sl2:Array (Option Value)) (ns ms:List Int) (hi:IntsAre items.toList ns) (hj:IntsAre items2.toList ms) :
  Meets (Builtin.«tuple.__lt__» ⟨[.ref l,.ref b],[]⟩)
   (fun _ R s => s.heap.get? l = some { cls:=.type "tuple",dict:=dd,data:=.seq items n,slots:=sl } /\ s.heap.get? b = some { cls:=.type "tuple",dict:=dd2,data:=.seq items2 n2,slots:=sl2 } /\
    R (.ok (.ret (.bool (lexLt ns ms)))) s) :=
 .of_wp fun prog w A R s h => by
  obtain ⟨hp,g,d,tk,os⟩:=s; obtain ⟨hl,hb,h⟩:=h
  have f2:=AutoSeq1.sub_tuple_tuple
  have z1:items.size = ns.length:=by rw [<- hi.length]; simp
  have z2:items2.size = ms.length:=by rw [<- hj.length]; simp
  wp_walk using wpAny_loadPart' hl,wpAny_loadPart' hb,wpAny_forIn_list _ (fun rest b s' => b.1 = none /\ s' = ⟨hp,g,d,tk,os⟩ /\ ∃ (vs ws:List Value) (ns' ms':List Int),rest = vs.zip ws /\
   IntsAre vs ns' /\ IntsAre ws ms' /\ ns'.length + items2.size = ms'.length + items.size /\ R (.ok (.ret (.bool (lexLt ns' ms')))) ⟨hp,g,d,tk,os⟩) _
  case turn =>
   rintro ⟨y,x⟩ rest b s' ⟨hb',rfl,vs,ws,ns',ms',hz,hvi,hwi,hlen,hR⟩
   cases hvi with
   | nil => rw [List.zip_nil_left] at hz; cases hz
   | cons a t hvi' =>
    cases hwi with
    | nil => rw [List.zip_nil_right] at hz; cases hz
    | cons c u hwi' =>
     rw [List.zip_cons_cons] at hz
     injection hz with hyx hrest
     injection hyx with hy hx
     subst hy hx
     rw [lexLt_cons] at hR
     simp only [List.length_cons] at hlen
     obtain ⟨e,he,hiff⟩:=eqAt_int A.in1 ⟨hp,g,d,tk,os⟩ a t c u
     refine wpAny_bind (he prog w _ _ ?_)
     cases e with
     | true =>
      rw [if_pos (hiff.mp rfl)] at hR
      wp_walk
      exact ⟨rfl,rfl,_,_,_,_,hrest,hvi',hwi',by omega,hR⟩
     | false =>
      rw [if_neg (fun q => absurd (hiff.mpr q) Bool.false_ne_true)] at hR
      have hri:=rcLt_int A.in1 ⟨hp,g,d,tk,os⟩ a t c u prog w
      wp_walk using hri
      exact ⟨_,rfl,by simpa using hR⟩
  case fin =>
   rintro ⟨b1,b2⟩ s' ⟨hb',rfl,vs,ws,ns',ms',hz,hvi,hwi,hlen,hR⟩
   simp only at hb'
   subst hb'
   have hv:lexLt ns' ms' = decide (items.size < items2.size):=by
    cases hvi with
    | nil =>
     cases hwi with
     | nil =>
      simp only [List.length_nil] at hlen
      rw [lexLt_nil_nil]
      exact (decide_eq_false (by omega)).symm
     | cons c u hw =>
      simp only [List.length_nil,List.length_cons] at hlen
      rw [lexLt_nil_cons]
      exact (decide_eq_true (by omega)).symm
    | cons a t hv =>
     cases hwi with
     | nil =>
      simp only [List.length_nil,List.length_cons] at hlen
      rw [lexLt_cons_nil]
      exact (decide_eq_false (by omega)).symm
     | cons c u hw =>
      rw [List.zip_cons_cons] at hz
      cases hz
   rw [hv] at hR
   wp_walk
   exact ⟨_,rfl,by simpa [Builtin.Tuple.tupleCompareSizes] using hR⟩
  case h =>
   exact ⟨rfl,rfl,items.toList,items2.toList,ns,ms,rfl,hi,hj,by omega,h⟩
end
section
variable {prog:Program} {w:World} {A:Around} {E:Value -> Shared -> Prop} {s:Shared}
theorem lt_tupInts {l b:Addr} {items items2:Array Value} {ns ms:List Int} {Q:Value -> Shared -> Prop} (hl:IsTup s.heap l items) (hb:IsTup s.heap b items2) (hi:IntsAre items.toList ns) (hj:IntsAre items2.toList ms)
  (hu:A.units < cLine) (h:Q (.bool (lexLt ns ms)) s):wpAny (model prog w) A (compareOp .Lt (.ref l) (.ref b)) Q E s:=by
 obtain ⟨⟨cls,dd,data,sl⟩,ho,hc,n,hd⟩:=id hl
 obtain ⟨⟨cls2,dd2,data2,sl2⟩,ho2,hc2,n2,hd2⟩:=id hb
 simp only at hc hd hc2 hd2
 subst hc hd hc2 hd2
 exact richCompare_meets_room (op:=.Lt) ⟨_,ho,rfl⟩ ⟨_,ho2,rfl⟩ PySem.F.slot_tuple_lt PySem.F.entry_tuple_lt (PySem.F.args_tuple_lt_2 _ _) (tuple_lt_ints l b items items2 n n2 dd dd2 sl sl2 ns ms hi hj)
  ⟨ho,ho2,show Value.bool (lexLt ns ms) ≠ Value.notImplemented /\ Q (.bool (lexLt ns ms)) s from ⟨(fun x => nomatch x),h⟩⟩ hu
theorem cat_tup {t b:Addr} {vs ws:List Value} {Q:Value -> Shared -> Prop} (ht:IsTup s.heap t vs.toArray) (hb:IsTup s.heap b ws.toArray) (hv:vs ≠ [])
  (h1:ws = [] -> Q (.ref t) s) (h2:ws ≠ [] -> Q (.ref s.heap.objs.size) { s with heap:=s.heap.push { cls:=.type "tuple",data:=.seq (vs ++ ws).toArray } })
  (hsz:vs.length + ws.length <= sizeLine):wpAny (model prog w) A (binaryOp .Add (.ref t) (.ref b)) Q E s:=by
 obtain ⟨⟨cls,dd,data,sl⟩,ho,hc,n,hd⟩:=id ht
 obtain ⟨⟨cls2,dd2,data2,sl2⟩,ho2,hc2,n2,hd2⟩:=id hb
 simp only at hc hd hc2 hd2
 subst hc hd hc2 hd2
 have e:vs.toArray ++ ws.toArray = (vs ++ ws).toArray:=by simp
 by_cases hw:ws = []
 ·exact concat_meets ⟨_,ho,rfl⟩ ⟨_,ho2,rfl⟩ noFill_tuple_add seq_tuple_add PySem.F.slot_tuple_add PySem.F.entry_tuple_add (PySem.F.args_tuple_add_2 _ _)
   (tuple_addW1 t b vs.toArray ws.toArray n n2 dd dd2 sl sl2 (by simpa using hv) (by simp [hw])) ⟨ho,ho2,h1 hw⟩
 ·refine concat_meets ⟨_,ho,rfl⟩ ⟨_,ho2,rfl⟩ noFill_tuple_add seq_tuple_add PySem.F.slot_tuple_add PySem.F.entry_tuple_add (PySem.F.args_tuple_add_2 _ _)
   (tuple_addW2 t b vs.toArray ws.toArray n n2 dd dd2 sl sl2 (by simpa using hv) (by simpa using hw) (by rw [List.size_toArray,List.size_toArray]; exact hsz)) ⟨ho,ho2,?_⟩
  rw [e]
  exact h2 hw
noncomputable def sIx (n d:Nat):Option Int -> Nat
 | none => d
 | some v => if v < 0 then (v + (n:Int)).toNat else min v.toNat n
theorem sIx_le (n d:Nat) (hd:d <= n) (o:Option Int):sIx n d o <= n:=by
 cases o with
 | none => exact hd
 | some v =>
  show (if v < 0 then (v + (n:Int)).toNat else min v.toNat n) <= n
  by_cases hv:v < 0
  ·rw [if_pos hv]; omega
  ·rw [if_neg hv]; exact Nat.min_le_right _ _
theorem clip_eq (v:Int) (n d:Nat):(if v < 0 then max (v + (n:Int)) 0 else min v (n:Int)) = ((sIx n d (some v):Nat):Int):=by
 show (if v < 0 then max (v + (n:Int)) 0 else min v (n:Int)) = (((if v < 0 then (v + (n:Int)).toNat else min v.toNat n):Nat):Int)
 by_cases hv:v < 0
 ·simp only [if_pos hv]; omega
 ·simp only [if_neg hv]; omega
theorem adjust_gen (lo hi:Option Int) (n:Nat):Builtin.Slice.sliceAdjust lo hi 1 (n:Int) = (((sIx n 0 lo:Nat):Int),((sIx n n hi:Nat):Int)):=by
 have h1:¬ ((1:Int) < 0):=by omega
 unfold Builtin.Slice.sliceAdjust
 simp only [h1,if_false]
 refine Prod.ext ?_ ?_
 ·cases lo with
  | none => rfl
  | some v => exact clip_eq v n 0
 ·cases hi with
  | none => rfl
  | some v => exact clip_eq v n n
theorem places_gen (i j:Nat):Builtin.Slice.slicePlaces (i:Int) (j:Int) 1 = j - i:=by
 unfold Builtin.Slice.slicePlaces
 have h1:(1:Int) > 0:=by omega
 simp only [h1,if_true,Int.ediv_one]
 split <;> omega
theorem slicePart_ {v:Value} {o:Option Int} {Q:Option Int -> Shared -> Prop} (p:IsPart v o) (h:Q o s):wpAny (model prog w) A (Builtin.Slice.slicePartIndex v) Q E s:=by
 cases p with
 | none => exact slicePart_none h
 | int i t => exact slicePart_int h
theorem sliceApplied_gen {sl:Addr} {vl vu:Value} {lo hi:Option Int} {n:Nat} {Q:Int × Int × Nat -> Shared -> Prop} (hs:s.heap.IsSliceOf sl vl vu .none) (pl:IsPart vl lo) (pu:IsPart vu hi)
  (h:Q (((sIx n 0 lo:Nat):Int),1,sIx n n hi - sIx n 0 lo) s):wpAny (model prog w) A (Builtin.Slice.sliceApplied (.ref sl) (pure (n:Int))) Q E s:=by
 obtain ⟨os,hos,hcs,hds⟩:=id hs
 unfold Builtin.Slice.sliceApplied Builtin.Slice.sliceFields
 refine wpAny_bind (wpAny_bind (wpAny_field hos hds (x:=vl) rfl (wpAny_bind (wpAny_field hos hds (x:=vu) rfl (wpAny_bind (wpAny_field hos hds (x:=.none) rfl (wpAny_pure ?_)))))))
 refine wpAny_bind (slicePart_none ?_)
 show wpAny _ _ (if ((1:Int) == 0) = true then _ else _) _ _ s
 rw [if_neg (by decide)]
 refine wpAny_bind (slicePart_ pl (wpAny_bind (slicePart_ pu (wpAny_bind (wpAny_pure ?_)))))
 show wpAny _ _ (match Builtin.Slice.sliceAdjust lo hi 1 (n:Int) with | (lo,hi) => pure (lo,(1:Int),Builtin.Slice.slicePlaces lo hi 1)) _ _ s
 rw [adjust_gen lo hi n]
 show wpAny _ _ (pure (((sIx n 0 lo:Nat):Int),(1:Int),Builtin.Slice.slicePlaces ((sIx n 0 lo:Nat):Int) ((sIx n n hi:Nat):Int) 1)) _ _ s
 rw [places_gen]
 exact wpAny_pure h
theorem pick_gen (xs:Array Value) (i k:Nat):((List.range k).filterMap fun (m:Nat) => xs[((i:Int) + (m:Int) * 1).toNat]?).toArray = ((xs.toList.drop i).take k).toArray:=by
 have e:(fun (m:Nat) => xs[((i:Int) + (m:Int) * 1).toNat]?) = fun m => xs[i + m]?:=by
  funext m
  have:((i:Int) + (m:Int) * 1).toNat = i + m:=by omega
  rw [this]
 rw [e]
 have:=pick_run xs i k
 rw [List.filterMap_map] at this
 have e2:((fun x => xs[x]?) ∘ fun x => i + x) = fun m => xs[i + m]?:=rfl
 rw [e2] at this
 rw [this]
theorem getItem_tuple_cut {t sl:Addr} {items:Array Value} {vl vu:Value} {lo hi:Option Int} {Q:Value -> Shared -> Prop} (ht:IsTup s.heap t items) (hs:s.heap.IsSliceOf sl vl vu .none) (pl:IsPart vl lo) (pu:IsPart vu hi)
  (hw:¬ (sIx items.size 0 lo = 0 /\ sIx items.size items.size hi = items.size))
  (h:Q (.ref s.heap.objs.size) { s with heap:=s.heap.push { cls:=.type "tuple",data:=.seq ((items.toList.drop (sIx items.size 0 lo)).take (sIx items.size items.size hi - sIx items.size 0 lo)).toArray } })
  (hsz:items.size <= sizeLine):wpAny (model prog w) A (getItem (.ref t) (.ref sl)) Q E s:=by
 have htake:sizeOk (.seq ((items.toList.drop (sIx items.size 0 lo)).take (sIx items.size items.size hi - sIx items.size 0 lo)).toArray):=by
  show ((items.toList.drop (sIx items.size 0 lo)).take (sIx items.size items.size hi - sIx items.size 0 lo)).toArray.size <= sizeLine
  rw [List.size_toArray,List.length_take,List.length_drop,Array.length_toList]
  omega
 have hj:sIx items.size items.size hi <= items.size:=sIx_le _ _ (Nat.le_refl _) hi
 obtain ⟨os,hos,hcs,hds⟩:=id hs
 have hTs:s.TypeIs (.ref sl) "slice":=⟨os,hos,hcs⟩
 unfold getItem
 try with_reducible refine wpAny_holding ?_
 first | refine wpAny_bind (wpAny_pure ?_) | skip
 refine wpAny_bind (wpAny_sequenceKey ht.typeIs (by decide) ?_)
 refine wpAny_bind (wpAny_callSpecial?_slot (name:=Str.ofString "__getitem__") ht.typeIs PyProof.Rows.slot_tuple_getitem
  (wpAny_call_entry PyProof.Rows.slot_tuple_getitem ht.typeIs entry_tuple_getitem ?_ (args_tuple_getitem _ _)))
 show wpAny _ _ (Builtin.Tuple.tupleItemsOf (.ref t) >>= _) _ _ s
 refine wpAny_bind (tupleItemsOf_ ht ?_)
 refine wpAny_bind (wpAny_typeOf hTs ?_)
 rw [if_pos (by decide)]
 refine wpAny_bind (sliceApplied_gen hs pl pu ?_)
 have hno:¬ ((((sIx items.size 0 lo:Nat):Int) == 0 && (1:Int) == 1 && (sIx items.size items.size hi - sIx items.size 0 lo) == items.size) = true):=by
  intro q
  rw [Bool.and_eq_true,Bool.and_eq_true] at q
  have q1:((sIx items.size 0 lo:Nat):Int) = 0:=eq_of_beq q.1.1
  have q2:sIx items.size items.size hi - sIx items.size 0 lo = items.size:=eq_of_beq q.2
  exact hw ⟨by omega,by omega⟩
 show wpAny _ _ (if (((sIx items.size 0 lo:Nat):Int) == 0 && (1:Int) == 1 && (sIx items.size items.size hi - sIx items.size 0 lo) == items.size) = true then _ else _) _ _ s
 rw [if_neg hno,pick_gen]
 first
  | exact wpAny_bind (m:=Builtin.Tuple.tupleExact _) (wpAny_newObj_type (wpAny_pure ⟨_,rfl,wpAny_pure h⟩) htake)
  | exact wpAny_bind (m:=Builtin.Tuple.tupleExact _) (wpAny_newObj_type (wpAny_bind (wpAny_pure (wpAny_pure ⟨_,rfl,wpAny_pure h⟩))) htake)
  | exact wpAny_bind (wpAny_bind (m:=Builtin.Tuple.tupleExact _) (wpAny_newObj_type (wpAny_pure (wpAny_pure ⟨_,rfl,wpAny_pure h⟩)) htake))
  | exact wpAny_bind (wpAny_bind (m:=Builtin.Tuple.tupleExact _) (wpAny_newObj_type (wpAny_pure ⟨_,rfl,wpAny_pure h⟩) htake))
end
end HT
namespace L2
open PySem PySem.Spec PyProof.Rows
noncomputable abbrev TO:=St -> Hp -> (Option Int -> Hp -> Prop) -> Prop
noncomputable def PO (X:Cx) (e:Option Expr) (t:TO):Prop :=
 ∀ (pins:List (Addr × Obj)) (s:Shared) (σ:St) (H:Hp) (Q:Option Int -> Hp -> Prop),Inv X pins σ H s -> t σ H Q ->
  wpAny (model X.prog X.w) X.A (evalPart e X.env) (fun u s' => ∃ o H',Inv X pins σ H' s' /\ IsPart u o /\ Q o H') X.xe s
noncomputable def tNoPart:TO:=fun _ H Q => Q none H
noncomputable def tPart (t:TE):TO:=fun σ H Q => t σ H fun x H1 => ∃ i,x = .int i /\ Q (some i) H1
theorem intsAre_of {ns:List Int}:∀ {us:List Value},Vals (ns.map V.int) us -> IntsAre us ns:=by
 induction ns with
 | nil => intro us r; rw [List.map_nil] at r; cases r; exact .nil
 | cons n ns ih =>
  intro us r
  rw [List.map_cons] at r
  cases r with
  | cons r1 r2 =>
   obtain ⟨t,e⟩:=r1
   subst e
   exact .cons n t (ih r2)
section
variable {X:Cx} {e:Expr} {te:TE} {lo hi:Option Expr} {tl th:TO} {pos p2:Pos}
theorem po_none:PO X none tNoPart:=by
 intro pins s σ H Q I h
 rw [evalPart_none]
 exact wpAny_pure ⟨none,H,I,.none,h⟩
theorem po_some (h:PE X e te):PO X (some e) (tPart te):=by
 intro pins s σ H Q I hw
 rw [evalPart_some]
 refine thn (h pins s σ H _ I hw) fun u s1 ⟨x,H1,I1,r1,q1⟩ => ?_
 obtain ⟨i,rfl,q⟩:=q1
 obtain ⟨t,rfl⟩:=r1
 exact ⟨some i,H1,I1,.int i t,q⟩
noncomputable def SlR (X:Cx) (r:V -> Option Int -> Option Int -> Hp -> VK -> Prop):Prop :=
 ∀ (pins:List (Addr × Obj)) (s:Shared) (σ:St) (H:Hp) (x:V) (v vl vu:Value) (lo hi:Option Int) (sl:Addr) (Q:VK),Inv X pins σ H s -> RelV x v -> s.heap.IsSliceOf sl vl vu .none -> IsPart vl lo -> IsPart vu hi -> r x lo hi H Q ->
  ∃ T id,typeLookup (.type T) "__getitem__" = pure (some (.builtin id)) /\ s.TypeIs v T /\ wpAny (model X.prog X.w) X.A (getItem v (.ref sl)) (EP X pins σ Q) X.xe s
noncomputable def tSl (r:V -> Option Int -> Option Int -> Hp -> VK -> Prop) (te:TE) (tl th:TO):TE:=fun σ H Q => te σ H fun x H1 => tl σ H1 fun l H2 => th σ H2 fun u H3 => r x l u H3 Q
theorem pe_slice {r:V -> Option Int -> Option Int -> Hp -> VK -> Prop} (hr:SlR X r) (he:PE X e te) (hl:PO X lo tl) (hu:PO X hi th):PE X (.Subscript e (.Slice lo hi none p2) pos) (tSl r te tl th):=by
 intro pins s σ H Q I h
 refine Subscript_ (thn (he pins s σ H _ I h) fun v s1 ⟨x,H1,I1,r1,q1⟩ => ?_)
 refine wpAny_Slice (thn (hl pins s1 σ H1 _ I1 q1) fun vl s2 ⟨l,H2,I2,pl,q2⟩ => thn (hu pins s2 σ H2 _ I2 q2) fun vu s3 ⟨u,H3,I3,pu,q3⟩ => ?_)
 rw [evalPart_none]
 refine wpAny_pure ?_
 have I4:Inv X pins σ H3 { s3 with heap:=s3.heap.push { cls:=.type "slice",data:=.fields #[vl,vu,.none] } }:=I3.kept (t':=s3.toks) fun b ob q => Heap.get?_push_of_some _ q
 obtain ⟨T,id,hT,ht,hg⟩:=hr pins { s3 with heap:=s3.heap.push { cls:=.type "slice",data:=.fields #[vl,vu,.none] } } σ H3 x v vl vu l u s3.heap.objs.size Q I4 r1 (Heap.IsSliceOf.new ..) pl pu q3
 show wpAny (model X.prog X.w) X.A (subscriptTail e (.Slice lo hi none p2) v (.ref s3.heap.objs.size)) (EP X pins σ Q) X.xe { s3 with heap:=s3.heap.push { cls:=.type "slice",data:=.fields #[vl,vu,.none] } }
 exact tail_any (ops:=[.ref s3.heap.objs.size,v]) ht hT hg (by with_unfolding_all rfl)
noncomputable def cutV (xs:List V) (lo hi:Option Int):List V:=(xs.drop (HT.sIx xs.length 0 lo)).take (HT.sIx xs.length xs.length hi - HT.sIx xs.length 0 lo)
theorem cutV_length (xs:List V) (lo hi:Option Int):(cutV xs lo hi).length <= xs.length:=by
 unfold cutV
 rw [List.length_take,List.length_drop]
 omega
noncomputable def rSlT (K:PySem.W.Frag):V -> Option Int -> Option Int -> Hp -> VK -> Prop:=fun x lo hi H Q => ∃ a xs,x = .ref a /\ SqT K H a xs /\
 ¬ (HT.sIx xs.length 0 lo = 0 /\ HT.sIx xs.length xs.length hi = xs.length) /\ ∀ p,H p = none -> Q (.ref p) (upd H p (.tup (cutV xs lo hi)))
theorem sl_tup:SlR X (rSlT X.K):=by
 intro pins s σ H x v vl vu lo hi sl Q I rx hs pl pu h
 obtain ⟨a,xs,rfl,hx,hw,q⟩:=h
 cases rx
 obtain ⟨its,r,ht,hz⟩:=I.tuple hx
 have hlen:its.toArray.size = xs.length:=by rw [List.size_toArray]; exact r.length.symm
 refine ⟨"tuple",_,PyProof.Rows.slot_tuple_getitem.lookup,ht.typeIs,?_⟩
 refine HT.getItem_tuple_cut ht hs pl pu (by rw [hlen]; exact hw) ?_ (by rw [hlen]; exact hz)
 rw [hlen]
 refine ⟨.ref s.heap.objs.size,_,I.laid (t':=s.toks) (o:=.tup (cutV xs lo hi)) (fun b ob q => Heap.get?_push_of_some _ q) (Nat.le_refl _) ?_,rfl,q _ (I.hok.fresh (Nat.le_refl _))⟩
 exact ⟨Nat.le_trans (cutV_length xs lo hi) hz,_,(r.drop (HT.sIx xs.length 0 lo)).take (HT.sIx xs.length xs.length hi - HT.sIx xs.length 0 lo),IsTup.new _ _⟩
noncomputable def rCatT (K:PySem.W.Frag):R2:=fun x y H Q => ∃ a b xs ys,x = .ref a /\ y = .ref b /\ SqT K H a xs /\ SqT K H b ys /\ xs ≠ [] /\ xs.length + ys.length <= sizeLine /\
 (ys = [] -> Q (.ref a) H) /\ (ys ≠ [] -> ∀ p,H p = none -> Q (.ref p) (upd H p (.tup (xs ++ ys))))
theorem Vals.nil_iff {xs:List V} {us:List Value} (r:Vals xs us):us = [] ↔ xs = []:=by
 cases r with
 | nil => simp
 | cons _ _ => simp
theorem op_catT:OpR X (binaryOp .Add) (rCatT X.K):=by
 intro pins s σ H x y v u Q I rx ry h
 obtain ⟨a,b,xs,ys,rfl,rfl,ha,hb,hx,hz,q1,q2⟩:=h
 cases rx
 cases ry
 obtain ⟨its,r1,p1,_⟩:=I.tuple ha
 obtain ⟨its2,r2,p2,_⟩:=I.tuple hb
 refine HT.cat_tup p1 p2 (fun z => hx (r1.nil_iff.mp z)) (fun z => ⟨.ref a,H,I,rfl,q1 (r2.nil_iff.mp z)⟩) (fun z => ?_) (by rw [<- r1.length,<- r2.length]; exact hz)
 refine ⟨.ref s.heap.objs.size,_,I.laid (t':=s.toks) (o:=.tup (xs ++ ys)) (fun b ob q => Heap.get?_push_of_some _ q) (Nat.le_refl _) ?_,rfl,q2 (fun w => z (r2.nil_iff.mpr w)) _ (I.hok.fresh (Nat.le_refl _))⟩
 exact ⟨by rw [List.length_append]; exact hz,_,r1.append r2,IsTup.new _ _⟩
end
end L2
namespace L2
open PySem PySem.Spec PyProof.Rows
noncomputable def ixN (n:Nat) (i:Int):Option Nat:=if 0 <= i then (if i < n then some i.toNat else none) else if -(n:Int) <= i then some (i + n).toNat else none
noncomputable def atI {α:Type} (xs:List α) (i:Int):Option α:=(ixN xs.length i).bind fun j => xs[j]?
theorem ixN_seq {n:Nat} {i:Int} {j:Nat} (h:ixN n i = some j):seqIndex? i n = some j /\ j < n /\ -(n:Int) <= i /\ i < n:=by
 unfold ixN at h
 by_cases h0:0 <= i
 ·rw [if_pos h0] at h
  by_cases h1:i < n
  ·rw [if_pos h1] at h
   have e:i.toNat = j:=Option.some.inj h
   exact ⟨by rw [seqIndex_of h0 h1,e],by omega,by omega,h1⟩
  ·rw [if_neg h1] at h; cases h
 ·rw [if_neg h0] at h
  by_cases h1:-(n:Int) <= i
  ·rw [if_pos h1] at h
   have e:(i + n).toNat = j:=Option.some.inj h
   exact ⟨by rw [seqIndex_neg (by omega) h1,e],by omega,h1,by omega⟩
  ·rw [if_neg h1] at h; cases h
theorem atI_get {α:Type} {xs:List α} {i:Int} {v:α} (h:atI xs i = some v):∃ j,seqIndex? i xs.length = some j /\ xs[j]? = some v /\ j < xs.length /\ -(xs.length:Int) <= i /\ i < xs.length:=by
 unfold atI at h
 cases e:ixN xs.length i with
 | none => rw [e] at h; cases h
 | some j =>
  rw [e] at h
  obtain ⟨h1,h2,h3,h4⟩:=ixN_seq e
  exact ⟨j,h1,h,h2,h3,h4⟩
noncomputable def PlainIx (b:Expr):Prop:=∀ o i,subscripted b false o i = operate [o,i] (getItem o i)
noncomputable def IxR (X:Cx) (r:R2):Prop :=
 ∀ (value slice:Expr) (pins:List (Addr × Obj)) (s:Shared) (σ:St) (H:Hp) (x y:V) (v u:Value) (Q:VK),Inv X pins σ H s -> RelV x v -> RelV y u -> r x y H Q ->
  subscripted slice false v u = operate [v,u] (getItem v u) -> wpAny (model X.prog X.w) X.A (subscriptTail value slice v u) (EP X pins σ Q) X.xe s
noncomputable def MtR (X:Cx) (id:String) (r:V -> List V -> Hp -> VK -> Prop):Prop :=
 ∀ (pins:List (Addr × Obj)) (s:Shared) (σ:St) (H:Hp) (x:V) (xs:List V) (v:Value) (us:List Value) (Q:VK),Inv X pins σ H s -> RelV x v -> Vals xs us -> r x xs H Q ->
  wpAny (model X.prog X.w) X.A (call (.builtin id) (v :: us)) (EP X pins σ Q) X.xe s
section
variable {X:Cx} {a b:Expr} {ta tb:TE} {pos:Pos}
theorem IxR.or {r r':R2} (h:IxR X r) (h':IxR X r'):IxR X (fun x y H Q => r x y H Q \/ r' x y H Q):=by
 intro value slice pins s σ H x y v u Q I rx ry q hs
 rcases q with q | q
 ·exact h value slice pins s σ H x y v u Q I rx ry q hs
 ·exact h' value slice pins s σ H x y v u Q I rx ry q hs
theorem pe_ix {r:R2} (hr:IxR X r) (ha:PE X a ta) (hb:PE X b tb) (hs:PlainIx b):PE X (.Subscript a b pos) (tOp r ta tb):=by
 intro pins s σ H Q I h
 exact Subscript_ (binT ha hb I h fun v u s2 x y H2 I2 rx ry q => hr a b pins s2 σ H2 x y v u Q I2 rx ry q (hs _ _))
noncomputable def rIxL (K:PySem.W.Frag):R2:=fun x y H Q => ∃ p xs i v,x = .ref p /\ y = .int i /\ SqL K H p xs /\ atI xs i = some v /\ Q v H
noncomputable def rIxT (K:PySem.W.Frag):R2:=fun x y H Q => ∃ p xs i v,x = .ref p /\ y = .int i /\ SqT K H p xs /\ atI xs i = some v /\ Q v H
noncomputable def rIxS:R2:=fun x y H Q => ∃ z i c,x = .str z /\ y = .int i /\ z.length <= sizeLine /\ atI z.cps.toList i = some c /\ Q (.str ⟨#[c]⟩) H
theorem ix_list:IxR X (rIxL X.K):=by
 intro value slice pins s σ H x y v u Q I rx ry h hs
 obtain ⟨p,xs,i,z,rfl,rfl,hq,he,q⟩:=h
 cases rx
 obtain ⟨t,rfl⟩:=ry
 obtain ⟨its,r,pl,hz⟩:=I.list hq
 obtain ⟨j,h1,h2,h3,h4,h5⟩:=atI_get he
 obtain ⟨w,ew,rw'⟩:=r.get h2
 have hl:=r.length
 have hn:=line63
 have fin:EP X pins σ Q w s:=⟨z,H,I,rw',q⟩
 by_cases h0:0 <= i
 ·have hj:i.toNat = j:=by
   rw [seqIndex_of h0 h5] at h1
   exact Option.some.inj h1
  exact item_listR pl.isList h0 (by omega) (by rw [hj]; simpa using ew) fin hs
 ·have hj:(i + (its.toArray.size:Int)).toNat = j:=by
   rw [seqIndex_neg (by omega) h4] at h1
   rw [List.size_toArray,<- hl]
   exact Option.some.inj h1
  exact subscriptTail_builtinR (x:=w) pl.isList.typeIs slot_list_getitem.lookup
   (wpAny_getItem_list_neg (Q:=fun r s' => r = w /\ EP X pins σ Q r s') pl.isList (by omega) (by rw [List.size_toArray] <;> omega) (by omega) (by rw [hj]; simpa using ew) ⟨rfl,fin⟩) hs
theorem ix_tup:IxR X (rIxT X.K):=by
 intro value slice pins s σ H x y v u Q I rx ry h hs
 obtain ⟨p,xs,i,z,rfl,rfl,hq,he,q⟩:=h
 cases rx
 obtain ⟨t,rfl⟩:=ry
 obtain ⟨its,r,pl,hz⟩:=I.tuple hq
 obtain ⟨j,h1,h2,h3,h4,h5⟩:=atI_get he
 obtain ⟨w,ew,rw'⟩:=r.get h2
 have hl:=r.length
 have hn:=line63
 have fin:EP X pins σ Q w s:=⟨z,H,I,rw',q⟩
 exact subscriptTail_builtinR (x:=w) pl.typeIs slot_tuple_getitem.lookup
  (getItem_tuple (j:=j) (Q:=fun r s' => r = w /\ EP X pins σ Q r s') pl (by omega) (by omega) (by rw [List.size_toArray,<- hl]; exact h1) (by simpa using ew) ⟨rfl,fin⟩) hs
theorem ix_str:IxR X rIxS:=by
 intro value slice pins s σ H x y v u Q I rx ry h hs
 obtain ⟨z,i,c,rfl,rfl,hz,he,q⟩:=h
 obtain ⟨t,rfl⟩:=rx
 obtain ⟨t',rfl⟩:=ry
 obtain ⟨j,h1,h2,h3,h4,h5⟩:=atI_get he
 have hl:z.cps.toList.length = z.length:=by simp [Str.length]
 rw [hl] at h1 h4 h5
 have hn:=line63
 exact tail_any (typeIs_str s z t) slot_str_getitem.lookup (getItem_str (c:=c) (by
  have e1:decide (i < -(2 ^ 63:Int)) = false:=decide_eq_false (by omega)
  have e2:decide (i >= 2 ^ 63) = false:=decide_eq_false (by omega)
  rw [e1,e2,Bool.or_false]) (by rw [h1]; simpa using h2) ⟨.str ⟨#[c]⟩,H,I.tok _,⟨_,rfl⟩,q⟩) hs
noncomputable def rIx (K:PySem.W.Frag):R2:=fun x y H Q => rIxL K x y H Q \/ rIxT K x y H Q \/ rIxS x y H Q
theorem ix_seq:IxR X (rIx X.K):=ix_list.or (ix_tup.or ix_str)
theorem Inv.lst {pins:List (Addr × Obj)} {σ:St} {H:Hp} {s:Shared} {p:Addr} {xs:List V} (I:Inv X pins σ H s) (h:H p = some (.lst xs)) :
  ∃ (its:List Value) (n:Nat),Vals xs its /\ s.heap.get? p = some { cls:=.type "list",data:=.seq its.toArray n } /\ xs.length <= sizeLine:=by
 obtain ⟨z,its,n,r,e⟩:=I.hok p _ h
 exact ⟨its,n,r,e,z⟩
theorem slice_bounds (lo hi:Option Int) (n:Nat):(sliceBounds lo hi none n).1 = ((HT.sIx n 0 lo:Nat):Int) /\ (sliceBounds lo hi none n).2.1 = ((HT.sIx n n hi:Nat):Int) /\ (sliceBounds lo hi none n).2.2 = 1:=by
 refine ⟨?_,?_,rfl⟩
 ·cases lo with
  | none => simp [sliceBounds,HT.sIx]
  | some i =>
   simp only [sliceBounds,HT.sIx,Option.getD_none,show (1:Int) > 0 by decide,if_true]
   by_cases h:i < 0
   ·simp only [h,if_true] <;> omega
   ·simp only [h,if_false] <;> omega
 ·cases hi with
  | none => simp [sliceBounds,HT.sIx]
  | some i =>
   simp only [sliceBounds,HT.sIx,Option.getD_none,show (1:Int) > 0 by decide,if_true]
   by_cases h:i < 0
   ·simp only [h,if_true] <;> omega
   ·simp only [h,if_false] <;> omega
theorem slicePick_cut (its:List Value) (lo hi:Option Int):slicePick its.toArray lo hi none = ((its.drop (HT.sIx its.length 0 lo)).take (HT.sIx its.length its.length hi - HT.sIx its.length 0 lo)).toArray:=by
 obtain ⟨h1,h2,h3⟩:=slice_bounds lo hi its.toArray.size
 unfold slicePick
 rw [h1,h2,h3]
 simp only [sliceRange_one,pick_run,List.size_toArray] <;> rfl
noncomputable def rSlL (K:PySem.W.Frag):V -> Option Int -> Option Int -> Hp -> VK -> Prop:=fun x lo hi H Q => ∃ a xs,x = .ref a /\ SqL K H a xs /\ ∀ p,H p = none -> Q (.ref p) (upd H p (.lst (cutV xs lo hi)))
theorem sl_list:SlR X (rSlL X.K):=by
 intro pins s σ H x v vl vu lo hi sl Q I rx hs pl pu h
 obtain ⟨a,xs,rfl,hx,q⟩:=h
 cases rx
 obtain ⟨its,r,ht,hz⟩:=I.list hx
 have hlen:=r.length
 refine ⟨"list",_,slot_list_getitem.lookup,ht.isList.typeIs,?_⟩
 refine wpAny_getItem_list_slice ht.isList hs pl pu .none (by simp) ?_ (by rw [List.size_toArray] <;> omega)
 rw [slicePick_cut,<- hlen]
 refine ⟨.ref s.heap.objs.size,_,I.laid (t':=s.toks) (o:=.lst (cutV xs lo hi)) (fun b ob q => Heap.get?_push_of_some _ q) (Nat.le_refl _) ?_,rfl,q _ (I.hok.fresh (Nat.le_refl _))⟩
 exact ⟨Nat.le_trans (cutV_length xs lo hi) hz,_,0,(r.drop (HT.sIx xs.length 0 lo)).take (HT.sIx xs.length xs.length hi - HT.sIx xs.length 0 lo),Heap.get?_push_size _ rfl⟩
noncomputable def flatV:V -> Bool
 | .non => true
 | .bl _ => true
 | .int _ => true
 | .str _ => true
 | _ => false
noncomputable def eqV:V -> V -> Bool
 | .non,.non => true
 | .bl a,.bl b => a == b
 | .bl a,.int b => (if a then 1 else 0) == b
 | .int a,.bl b => a == (if b then 1 else 0)
 | .int a,.int b => a == b
 | .str a,.str b => a == b
 | _,_ => false
theorem eqAt_V {A:Around} {s:Shared} {y x:V} {u v:Value} (ry:RelV y u) (rx:RelV x v) (fy:flatV y = true) (fx:flatV x = true):SeqAt.EqAt A s u v (eqV y x):=by
 cases y with
 | non =>
  cases ry
  cases x with
  | non => cases rx; exact SeqAt.EqAt.same _
  | bl b => cases rx; exact SeqAt.EqAt.none_bool b
  | int b => obtain ⟨t,rfl⟩:=rx; exact SeqAt.EqAt.none_int b t
  | str b => obtain ⟨t,rfl⟩:=rx; exact SeqAt.EqAt.none_str b t
  | _ => exact absurd (show false = true from fx) Bool.false_ne_true
 | bl a =>
  cases ry
  cases x with
  | non => cases rx; exact SeqAt.EqAt.bool_none a
  | bl b => cases rx; exact SeqAt.EqAt.bool_bool a b
  | int b => obtain ⟨t,rfl⟩:=rx; exact SeqAt.EqAt.bool_int a b t
  | str b => obtain ⟨t,rfl⟩:=rx; exact SeqAt.EqAt.bool_str a b t
  | _ => exact absurd (show false = true from fx) Bool.false_ne_true
 | int a =>
  obtain ⟨t',rfl⟩:=ry
  cases x with
  | non => cases rx; exact SeqAt.EqAt.int_none a t'
  | bl b => cases rx; exact SeqAt.EqAt.int_bool a t' b
  | int b => obtain ⟨t,rfl⟩:=rx; exact SeqAt.EqAt.int_int a t' b t
  | str b => obtain ⟨t,rfl⟩:=rx; exact SeqAt.EqAt.int_str a t' b t
  | _ => exact absurd (show false = true from fx) Bool.false_ne_true
 | str a =>
  obtain ⟨t',rfl⟩:=ry
  cases x with
  | non => cases rx; exact SeqAt.EqAt.str_none a t'
  | bl b => cases rx; exact SeqAt.EqAt.str_bool a t' b
  | int b => obtain ⟨t,rfl⟩:=rx; exact SeqAt.EqAt.str_int a t' b t
  | str b => obtain ⟨t,rfl⟩:=rx; exact SeqAt.EqAt.str_str a t' b t
  | _ => exact absurd (show false = true from fx) Bool.false_ne_true
 | _ => exact absurd (show false = true from fy) Bool.false_ne_true
theorem call_len_seq:CallR X (.builtin "len") (fun xs H Q => ∃ p ys,xs = [.ref p] /\ (SqL X.K H p ys \/ SqT X.K H p ys) /\ Q (.int ys.length) H):=by
 intro pins s σ H xs us Q I r h
 obtain ⟨p,ys,rfl,hq,q⟩:=h
 obtain ⟨u,rfl,rx⟩:=vals1 r
 cases rx
 have hn:=line63
 rcases hq with hq | hq
 ·obtain ⟨its,r',pl,hz⟩:=I.list hq
  have hlen:=r'.length
  exact Calls.call_len_list pl.isList (by simp only [List.size_toArray] <;> omega) ⟨.int ys.length,H,I.tok _,⟨s.toks + 1,by rw [List.size_toArray,hlen]⟩,q⟩
 ·obtain ⟨its,r',pl,hz⟩:=I.tuple hq
  have hlen:=r'.length
  exact len_tuple pl (by simp only [List.size_toArray] <;> omega) ⟨.int ys.length,H,I.tok _,⟨s.toks + 1,by rw [List.size_toArray,hlen]⟩,q⟩
theorem call_list_of:CallR X (.type "list") (fun xs H Q => ∃ p ys,xs = [.ref p] /\ (SqL X.K H p ys \/ SqT X.K H p ys) /\ ∀ l,H l = none -> Q (.ref l) (upd H l (.lst ys))):=by
 intro pins s σ H xs us Q I r h
 obtain ⟨p,ys,rfl,hq,q⟩:=h
 obtain ⟨u,rfl,rx⟩:=vals1 r
 cases rx
 have fin:∀ (its:List Value),Vals ys its -> ys.length <= sizeLine -> ∀ (h':Heap) (c':Nat),(∀ b o',s.heap.get? b = some o' -> h'.get? b = some o') ->
   h'.get? s.heap.objs.size = some { cls:=.type "list",dict:=none,data:=.seq its.toArray c',slots:=#[] } -> EP X pins σ Q (.ref s.heap.objs.size) { s with heap:=h' }:=fun its r' hz h' c' kp e =>
  ⟨.ref s.heap.objs.size,_,I.laid (t':=s.toks) kp (Nat.le_refl _) (show ObjOk X.prog X.w _ h' _ (.lst ys) from ⟨hz,its,c',r',e⟩),rfl,q _ (I.hok.fresh (Nat.le_refl _))⟩
 rcases hq with hq | hq
 ·obtain ⟨its,r',pl,hz⟩:=I.list hq
  have hlen:=r'.length
  obtain ⟨o,ho,hc,n,hd⟩:=pl.isList
  exact call_list_seq p (.inl rfl) ho hc hd (fun h' c' kp e => fin its r' hz h' c' kp e) (by simp only [List.size_toArray] <;> omega)
 ·obtain ⟨its,r',pl,hz⟩:=I.tuple hq
  have hlen:=r'.length
  obtain ⟨o,ho,hc,n,hd⟩:=pl
  exact call_list_seq p (.inr rfl) ho hc hd (fun h' c' kp e => fin its r' hz h' c' kp e) (by simp only [List.size_toArray] <;> omega)
theorem call_tuple_of:CallR X (.type "tuple") (fun xs H Q => ∃ p ys,xs = [.ref p] /\ ((SqL X.K H p ys /\ ∀ l,H l = none -> Q (.ref l) (upd H l (.tup ys))) \/ (SqT X.K H p ys /\ Q (.ref p) H))):=by
 intro pins s σ H xs us Q I r h
 obtain ⟨p,ys,rfl,h⟩:=h
 obtain ⟨u,rfl,rx⟩:=vals1 r
 cases rx
 rcases h with ⟨hq,q⟩ | ⟨hq,q⟩
 ·obtain ⟨its,r',pl,hz⟩:=I.list hq
  have hlen:=r'.length
  refine call_tuple_list pl.isList (fun h' kp => ?_) (by simp only [List.size_toArray] <;> omega)
  have I1:Inv X pins σ H { s with heap:=h' }:=I.kept (t':=s.toks) kp
  have I2:Inv X pins σ (upd H h'.objs.size (.tup ys)) { s with heap:=h'.push { cls:=.type "tuple",data:=.seq its.toArray } } :=
   I1.laid (t':=s.toks) (fun b o e => Heap.get?_push_of_some _ e) (Nat.le_refl _) (show ObjOk X.prog X.w _ _ _ (.tup ys) from ⟨hz,its,r',IsTup.new _ _⟩)
  exact ⟨.ref h'.objs.size,_,I2,rfl,q _ (I1.hok.fresh (Nat.le_refl _))⟩
 ·obtain ⟨its,r',pl,hz⟩:=I.tuple hq
  exact call_tuple_same pl ⟨.ref p,H,I,rfl,q⟩
noncomputable def tyV (K:PySem.W.Frag) (T:String) (x:V) (H:Hp):Prop:=match x with
 | .str _ => T = "str"
 | .int _ => T = "int"
 | .ref p => (T = "list" /\ ∃ xs,SqL K H p xs) \/ (T = "tuple" /\ ∃ o,K.lookup p = some o /\ o.cls = .type "tuple" /\ o.dict = none) \/
   (T = "dict" /\ ((∃ kvs,H p = some (.dK kvs)) \/ ∃ kvs,H p = some (.dT kvs))) \/ (T = "set" /\ ∃ S n,H p = some (.set S n))
 | _ => False
theorem tyV_is {pins:List (Addr × Obj)} {σ:St} {H:Hp} {s:Shared} {T:String} {x:V} {v:Value} (I:Inv X pins σ H s) (r:RelV x v) (ty:tyV X.K T x H) :
  s.TypeIs v T /\ ∀ a,v = .ref a -> ∃ ob,s.heap.get? a = some ob /\ ob.dict = none:=by
 cases x with
 | str z =>
  obtain ⟨t,rfl⟩:=r
  cases (show T = "str" from ty)
  exact ⟨typeIs_str s z t,fun _ e => nomatch e⟩
 | int i =>
  obtain ⟨t,rfl⟩:=r
  cases (show T = "int" from ty)
  exact ⟨typeIs_int s i t,fun _ e => nomatch e⟩
 | ref p =>
  cases r
  rcases ty with ⟨rfl,xs,hq⟩ | ⟨rfl,o,hk,hc,hd⟩ | ⟨rfl,hk⟩ | ⟨rfl,S,n,hk⟩
  ·obtain ⟨its,_,pl,_⟩:=I.list hq
   refine ⟨pl.isList.typeIs,fun a e => ?_⟩
   cases e
   obtain ⟨o,n,e,c,hd,_⟩:=pl
   exact ⟨o,e,hd⟩
  ·refine ⟨⟨o,I.kIn p o hk,hc⟩,fun a e => ?_⟩
   cases e
   exact ⟨o,I.kIn _ o hk,hd⟩
  ·have z:∃ o,s.heap.get? p = some o /\ o.ExactDict:=by
    rcases hk with ⟨kvs,hk⟩ | ⟨kvs,hk⟩
    ·obtain ⟨_,_,_,_,o,_,_,e,ex,_⟩:=I.hok p _ hk
     exact ⟨o,e,ex⟩
    ·obtain ⟨_,_,_,_,o,_,_,e,ex,_⟩:=I.hok p _ hk
     exact ⟨o,e,ex⟩
   obtain ⟨o,e,ex⟩:=z
   refine ⟨⟨o,e,ex.1⟩,fun a e2 => ?_⟩
   cases e2
   exact ⟨o,e,ex.2.1⟩
  ·obtain ⟨o,_,_,_,e,ex,_⟩:=I.hok p _ hk
   refine ⟨⟨o,e,ex.1⟩,fun a e2 => ?_⟩
   cases e2
   exact ⟨o,e,ex.2.1⟩
 | _ => exact False.elim ty
noncomputable def tBM (K:PySem.W.Frag) (T:String) (r:V -> List V -> Hp -> VK -> Prop) (to:TE) (t:TA):TE:=fun σ H Q => to σ H fun x H1 => tyV K T x H1 /\ t σ H1 fun xs H2 => r x xs H2 Q
variable {o e:Expr} {es:List Expr} {to:TE} {t:TA} {name:Str} {apos cpos:Pos} {T id:String} {r:V -> List V -> Hp -> VK -> Prop}
theorem pe_bm (pa:PlainAttrs T) (slot:Slot T name id) (hty:typeOf (.builtin id) = pure (.type "method_descriptor")) (hm:MtR X id r) (ho:PE X o to) (ha:PA X (e :: es) t)
  (hbase:attributeBase o name X.env (eval o X.env) = eval o X.env:=by rfl)
  (hfew:((backTo cpos (starEach (e :: es) X.env)).all (fun x => !x.1) && (backToKw cpos (keywordEach [] X.env)).all (fun x => x.1.isSome)
   && decide ((e :: es).length + ([]:List Keyword).length + (if ([]:List Keyword).isEmpty then 0 else 1) < 30)) = true:=by rfl)
  (hline:(apos.endLine == cpos.line) = true:=by rfl) (hs:starEach (e :: es) X.env = (false,eval e X.env) :: starEach es X.env:=by rfl) (hplain:(backTo cpos (starEach es X.env)).any (·.1) = false:=by rfl) :
  PE X (.Call (.Attribute o name apos) (e :: es) [] cpos) (tBM X.K T r to t):=by
 intro pins s σ H Q I h
 refine wpAny_Call_method_late hbase hfew hline rfl (thn (ho pins s σ H _ I h) fun v s1 ⟨x,H1,I1,r1,ty,q1⟩ => ?_)
 obtain ⟨h1,h2⟩:=tyV_is I1 r1 ty
 refine ⟨T,id,pa,slot,hty,h1,h2,?_⟩
 have hA:=ha cpos pins s1 σ H1 _ I1 q1
 rw [hs] at hA ⊢
 refine Calls.callWith_builtin (by show (false || (backTo cpos (starEach es X.env)).any (·.1)) = false; rw [hplain] <;> rfl) (Calls.evalArgs_plain ?_)
 exact thn hA fun us s2 ⟨vs,H2,I2,r2,q2⟩ => hm pins s2 σ H2 x vs v us Q I2 r1 r2 q2
end
end L2
namespace L2
open PySem PySem.Spec PyProof.Rows
noncomputable def MtM (X:Cx) (id:String) (r:V -> List V -> Hp -> VK -> Prop):Prop :=
 ∀ (pins:List (Addr × Obj)) (s:Shared) (σ:St) (H:Hp) (x:V) (xs:List V) (v:Value) (us:List Value) (Q:VK),Inv X pins σ H s -> RelV x v -> Vals xs us -> r x xs H Q ->
  wpAny (model X.prog X.w) X.A (call (.builtin id) (v :: us)) (EP X pins σ Q) X.xe s
theorem Vals.one:∀ {x:V} {us:List Value},Vals [x] us -> ∃ u,us = [u] /\ RelV x u
 | _,_,.cons r .nil => ⟨_,rfl,r⟩
theorem Vals.zero:∀ {us:List Value},Vals [] us -> us = []
 | _,.nil => rfl
theorem Vals.reverse {xs:List V} {us:List Value} (h:Vals xs us):Vals xs.reverse us.reverse:=by
 induction h with
 | nil => exact .nil
 | cons r t ih => rw [List.reverse_cons,List.reverse_cons]; exact Vals.append ih (.cons r .nil)
section
variable {X:Cx} {pins:List (Addr × Obj)} {σ:St} {H:Hp} {s:Shared} {l b:Addr} {xs ys zs:List V}
theorem Inv.lset {its its':List Value} {n:Nat} {f:Array Value -> Array Value} {t':Nat} (I:Inv X pins σ H s) (hH:H l = some (.lst xs))
  (e:s.heap.get? l = some { cls:=.type "list",data:=.seq its.toArray n }) (hf:f its.toArray = its'.toArray) (hv:Vals ys its') (hz:ys.length <= sizeLine) :
  Inv X pins σ (upd H l (.lst ys)) { s with heap:=s.heap.update l (Obj.mapSeq f),toks:=t' }:=by
 have q:=PySem.IsL.update e f
 rw [hf] at q
 refine I.write (x:=l) (e:=l) (by rw [hH]; exact trivial) (.inl rfl) (fun b' u hb hu => (Heap.get?_update_other s.heap (Obj.mapSeq f) (Ne.symm hb)).trans hu) ⟨_,q⟩ ?_
 exact ⟨hz,its',_,hv,q⟩
theorem Inv.lnew {its:List Value} {t':Nat} (I:Inv X pins σ H s) (hv:Vals ys its) (hz:ys.length <= sizeLine) :
  Inv X pins σ (upd H s.heap.objs.size (.lst ys)) { s with heap:=s.heap.push { cls:=.type "list",data:=.seq its.toArray },toks:=t' } :=
 I.laid (fun _ _ q => Heap.get?_push_of_some _ q) (Nat.le_refl _) ⟨hz,its,0,hv,Heap.get?_push_size _ rfl⟩
theorem Inv.fresh (I:Inv X pins σ H s):H s.heap.objs.size = none:=I.hok.fresh (Nat.le_refl _)
theorem Inv.lstM (I:Inv X pins σ H s) (hH:H l = some (.lst xs)):xs.length <= sizeLine /\ ∃ (its:List Value) (n:Nat),Vals xs its /\ xs.length = its.length /\ s.heap.get? l = some { cls:=.type "list",data:=.seq its.toArray n }:=by
 obtain ⟨z,its,n,r,e⟩:=I.hok l _ hH
 exact ⟨z,its,n,r,r.length,e⟩
theorem notLongL {n:Nat} (h:n <= sizeLine):Builtin.List.listTooLong n = false:=by
 unfold Builtin.List.listTooLong
 exact decide_eq_false (by omega)
end
section
variable {X:Cx}
noncomputable def rAppend:V -> List V -> Hp -> VK -> Prop:=fun x vs H Q => ∃ l xs y,x = .ref l /\ vs = [y] /\ H l = some (.lst xs) /\ xs.length < sizeLine /\ Q .non (upd H l (.lst (xs ++ [y])))
theorem mt_append:MtM X "list.append" rAppend:=by
 intro pins s σ H x vs v us Q I rx rv h
 obtain ⟨l,xs,y,rfl,rfl,hH,hz,q⟩:=h
 cases rx
 obtain ⟨u,rfl,ru⟩:=rv.one
 obtain ⟨z,its,n,r,hl,e⟩:=I.lstM hH
 refine call_meets F.slot_list_append ⟨_,e,rfl⟩ F.entry_list_append (F.args_list_append_2 _ _) (PySem.list_append l its.toArray n u (by rw [List.size_toArray]; omega)) ⟨e,?_⟩
 refine ⟨.non,_,I.lset (its':=its ++ [u]) hH e (by simp) (r.append (.cons ru .nil)) ?_,rfl,q⟩
 rw [List.length_append,List.length_singleton]
 omega
end
section
variable {prog:Program} {w:World} {A:Around} {E:Value -> Shared -> Prop} {s:Shared}
end
section
variable {X:Cx}
end
end L2
namespace Att
open PySem PySem.W PySem.Calls PyProof.Rows
theorem ints_of_wellAll {P:Params} {h:Heap}:∀ (ns:List Int) (vs:List Value),WellAll P h vs (ns.map WData.int) -> IntsAre vs ns:=by
 intro ns
 induction ns with
 | nil =>
  intro vs w
  rw [List.map_nil] at w
  cases w
  exact .nil
 | cons n ns ih =>
  intro vs w
  rw [List.map_cons] at w
  cases w with
  | cons a b =>
   cases a
   exact .cons _ _ (ih _ b)
theorem script_of {l:OpenLaw} {n:Nat} (hn:l.most = some n) {P:Params} {h:Heap} {args:List WData} {vals:List Value}
  (hpre:l.row.toRowW.claim.pre args = true) (hwl:WellAll P h vals args) :
  ∃ a vs ns,vals = [Value.ref a] /\ args = [WData.list (ns.map WData.int)] /\ h.get? a = some { cls:=.type "list",data:=.seq vs.toArray } /\ IntsAre vs ns /\ ns.length <= n:=by
 have hsh:WShape.hasAll [] args [.list .int] = true:=(pre_splitW hpre).1
 have hc:l.pre.holds [] { args:=args } = true:=(pre_splitW hpre).2
 obtain ⟨d,r,rfl,h1,h2⟩:=hasAllW_cons hsh
 obtain rfl:=hasAllW_nil h2
 obtain ⟨xs,rfl,h3⟩:=hasW_list h1
 obtain ⟨ns,rfl⟩:=items_int h3
 have hlen:ns.length <= n:=by
  unfold OpenLaw.pre at hc
  have h4:(WTm.not (.lt (.lit (.int (n:Int))) (.len (.arg 0)))).holds [] { args:=[.list (ns.map .int)] } = true:=by
   have h4:=(holds_andW hc).1
   rw [hn] at h4
   exact h4
  have h5:=condW_of h4 (w_not (w_lt w_lit (w_len_list (w_arg rfl))))
  rw [List.length_map] at h5
  refine Nat.le_of_not_lt fun q => ?_
  have q':(n:Int) < ((ns.length:Nat):Int):=by omega
  first
   | (rw [decide_eq_true q'] at h5; exact absurd h5 (by decide))
   | (simp at h5; omega)
 cases hwl with
 | cons w1 w2 =>
  cases w2
  cases w1 with
  | list ho hall => exact ⟨_,_,ns,rfl,rfl,ho,ints_of_wellAll ns _ hall,hlen⟩
theorem post_true (l:OpenLaw) (args:List WData):l.row.toRowW.claim.post args (.bool true) args = true :=
 postW_of (r:=l.row.toRowW) (X:=(true == true))
  (show WShape.has [] (.bool true) .bool = true by first | rfl | decide | simp [WShape.has,WShape.arms,WShape.armsAll])
  (show (WTm.eq .res (.lit (.bool true))).value [] { args:=args,res:=some (.bool true),after:=args } = some (.bool (true == true)) from w_eq_bool (w_res rfl) w_lit) rfl
theorem attach_call {l:OpenLaw} {n:Nat} {q:Program} {loose:List Str} {XP:(Str -> Option Value) -> Heap -> Prop} {YP:World -> Heap -> Prop} {d:DefRec}
  (hn:l.most = some n) (hdf:d.params.defaults = [])
  (call:∀ (w:World) (s₀ s₁:Shared) (mg mb:Str -> Option Value) (fa:Addr) (o:Obj) (pm cd doc:Value) (a:Addr) (vs:List Value) (ns:List Int),
   Ground q loose [] XP w s₀ mg mb s₁.heap -> YP w s₁.heap ->
   s₁.heap.get? fa = some o -> o.data = .func (docDef d.name d.params d.body d.scope pm cd doc) -> s₁.heap.CodeRec cd d.name -> mg d.name = some (.ref fa) ->
   s₁.heap.get? a = some { cls:=.type "list",data:=.seq vs.toArray } -> IntsAre vs ns -> ns.length <= n -> s₁.gens = #[] ->
   codeAny (model l.prog w) callerA (.call (.ref fa) ⟨[.ref a],[]⟩) (fun r s' => r = .ok (.ret (.bool true)) /\ OldK s₁.heap s'.heap /\ s'.os = s₁.os /\ AllBare s'.gens) s₁) :
  WalkO q loose XP YP l.row.toRowW d [] (fun f vs => PySem.call f vs):=by
 intro w s₀ s₁ mg mb G Y fa o pm cd doc dV kV ho hd hcd hD hmg hg args vals as hpre hlay hrd hwl hlo
 obtain rfl:dV = .none:=Dflts.none hD hdf
 obtain rfl:kV = .none:=Dflts.noKw hD
 obtain ⟨a,vs,ns,rfl,rfl,hobj,hints,hlen⟩:=script_of hn hpre hwl
 refine enter_call (codeAny_mono (call w s₀ s₁ mg mb fa o pm cd doc a vs ns G Y ho (fd_plain hd) hcd hmg hobj hints hlen hg) fun r s' hq => ?_)
 obtain ⟨rfl,h2,h3,h4⟩:=hq
 exact ⟨.inl ⟨.bool true,.bool true,[],rfl,fun _ => rfl,.bool true,post_true l _,fun _ => ⟨List.Pairwise.nil,fun _ hm => (nomatch hm)⟩⟩,h2,h3,h4⟩
section
variable {prog:Program} {w:World} {A:Around} {E:Value -> Shared -> Prop} {s:Shared} {K:Frag}
end
end Att
namespace L2
open PySem PySem.Spec PyProof.Rows
theorem vals_ints:∀ {vs:List Value} {ns:List Int},IntsAre vs ns -> Vals (ns.map V.int) vs
 | _,_,.nil => .nil
 | _,_,.cons n t h => .cons ⟨t,rfl⟩ (vals_ints h)
noncomputable def Only (H:Hp):Prop:=∀ b,H b = none \/ ∃ o xs,H b = some (.frz o (.lst xs))
theorem law_call {P:Program} {w:World} {K:PySem.W.Frag} {mg mb:Str -> Option Value} {CX:CXT} {k:Nat} {fa a:Addr} {fd:FuncData} {x:Str} {sp:Sp} {s₁:Shared} {vs:List Value} {ns:List Int}
  (KX:K.In s₁.heap) (hns:s₁.heap.Ns mainGlobals mg) (hb:s₁.heap.Ns builtinsNs mb) (hbb:∀ x:Str,x ≠ "__name__" -> mb x = bootBuiltins x) (hlim:s₁.heap.NoLimit) (hg:s₁.gens = #[])
  (ha:s₁.heap.get? a = some { cls:=.type "list",data:=.seq vs.toArray }) (hi:IntsAre vs ns) (hl:ns.length <= sizeLine) (hr:Room k callerA)
  (F:∀ base:Heap,K.In base -> base.Ns mainGlobals mg -> FnOk P w K mg base CX k fa fd [x] sp) (hbind:∀ (s:Shared) (u:Value),BindsTo s fd ⟨[u],[]⟩ [(x,u)])
  (hsp:∀ H:Hp,Only H -> SqL K H a (ns.map V.int) -> sp [.ref a] H (fun v _ => v = .bl true) fun _ _ _ => False)
  (hCX:∀ H e s',CX [] H s₁ (fun _ _ _ => False) e s' -> False) :
  codeAny (model P w) callerA (.call (.ref fa) ⟨[.ref a],[]⟩) (fun r s' => r = .ok (.ret (.bool true)) /\ OldK s₁.heap s'.heap /\ s'.os = s₁.os /\ AllBare s'.gens) s₁:=by
 have rv:=vals_ints hi
 have lenV:=hi.length
 have core:∀ H:Hp,Only H -> SqL K H a (ns.map V.int) -> HOk P w H s₁.heap -> (∀ b,H b ≠ none -> b = a) -> (H a ≠ none -> K.lookup a = none) ->
   codeAny (model P w) callerA (.call (.ref fa) ⟨[.ref a],[]⟩) (fun r s' => r = .ok (.ret (.bool true)) /\ OldK s₁.heap s'.heap /\ s'.os = s₁.os /\ AllBare s'.gens) s₁:=by
  intro H hO hS hok hA hK
  have base_of:∀ {b:Addr} {o:Obj},s₁.heap.get? b = some o -> H b = none -> (hidT s₁.heap H).get? b = some o:=fun e n => hidT_get e n
  have noA:∀ {b:Addr} {o:Obj} {es:Array DictEntry} {ep:Nat},s₁.heap.get? b = some o -> o.data = .dict es ep -> H b = none:=fun {b o es ep} e d => by
   cases q:H b with
   | none => rfl
   | some u =>
    have e':b = a:=hA b (by rw [q]; simp)
    subst e'
    rw [ha] at e; cases e
    have d':Data.seq vs.toArray _ = Data.dict es ep:=d
    cases d'
  have nsK:∀ {b:Addr} {m:Str -> Option Value},s₁.heap.Ns b m -> (hidT s₁.heap H).Ns b m:=fun {b m} ⟨o,es,ep,e,d,r⟩ => ⟨o,es,ep,base_of e (noA e d),d,r⟩
  have hKb:K.In (hidT s₁.heap H):=fun b o e => base_of (KX b o e) (by
   cases q:H b with
   | none => rfl
   | some u =>
    have e':b = a:=hA b (by rw [q]; simp)
    subst e'
    rw [hK (by rw [q]; simp)] at e; cases e)
  have hM:Mod K mg (hidT s₁.heap H):=⟨hKb,nsK hns,⟨mb,nsK hb,hbb⟩,let ⟨mc,h1,h2⟩:=hlim; ⟨mc,nsK h1,h2⟩⟩
  have e0:Env0 P w K mg (hidT s₁.heap H) callerA [] s₁ H:=⟨rfl,hM,fun b o e => of_hidT e,Nat.le_of_eq (hidT_size _ _),trivial,fun b hb => absurd (show b ∈ ([]:List Addr) from hb) (by simp),hok,.of_eq hg⟩
  refine codeAny_mono ((F _ hKb (nsK hns)).run callerA [] s₁ H ⟨[.ref a],[]⟩ [.ref a] [.ref a] _ _ hr e0 (hbind s₁ (.ref a)) (.cons rfl .nil) (hsp H hO hS)) fun r s' h => ?_
  cases r with
  | error e => exact (hCX H e s' h).elim
  | ok fl =>
   cases fl with
   | next => exact False.elim h
   | brk => exact False.elim h
   | cont => exact False.elim h
   | ret u =>
    obtain ⟨v,H',os,bare,un,hok',r',q⟩:=h
    have q':v = .bl true:=q
    subst q'
    obtain rfl:u = Value.bool true:=r'
    refine ⟨rfl,OldK.of_keep fun b o e => ?_,os,bare⟩
    cases q:H b with
    | none => exact un.keep b o e q (by intro z; exact absurd (show b ∈ ([]:List Addr) from z) (by simp)) (by simp)
    | some u =>
     rcases hO b with z | ⟨ob,xs,z⟩
     ·rw [q] at z; cases z
     ·have z2:=un.frzs b ob _ z
      obtain ⟨e1,_⟩:=hok b _ z
      obtain ⟨e2,_⟩:=hok' b _ z2
      rw [e] at e1; cases e1
      exact e2
 cases hk:K.lookup a with
 | some o =>
  have e:=KX a o hk
  rw [ha] at e
  cases e
  refine core (fun _ => none) (fun _ => .inl rfl) (.inr ⟨_,vs.toArray,_,hk,rfl,rfl,rfl,by rw [List.size_toArray,lenV]; exact hl,by simpa using rv⟩) (fun b u z => by have z':(none:Option HO) = some u:=z; cases z') (fun b z => absurd rfl z) fun z => absurd rfl z
 | none =>
  refine core (fun b => if b = a then some (.frz { cls:=.type "list",data:=.seq vs.toArray } (.lst (ns.map V.int))) else none) (fun b => ?_) (.inl (.inr ⟨{ cls:=.type "list",data:=.seq vs.toArray },if_pos rfl⟩)) (fun b u z => ?_) (fun b z => ?_) fun _ => hk
  ·by_cases hb:b = a
   ·exact .inr ⟨_,_,if_pos hb⟩
   ·exact .inl (if_neg hb)
  ·by_cases hb:b = a
   ·have z':=(if_pos hb).symm.trans z
    cases z'
    subst hb
    exact ⟨ha,by rw [List.length_map]; exact hl,vs,_,rv,ha⟩
   ·have z':=(if_neg hb).symm.trans z
    cases z'
  ·by_cases hb:b = a
   ·exact hb
   ·exact absurd (if_neg hb) z
end L2
namespace L2
open PySem PySem.Spec PyProof.Rows
theorem walk_of {l:PySem.W.OpenLaw} {n k:Nat} {q:Program} {loose:List Str} {XP:(Str -> Option Value) -> Heap -> Prop} {YP:World -> Heap -> Prop} {d:DefRec} {K:Params -> PySem.W.Frag} {CX:World -> CXT} {sp:World -> Sp} {x:Str}
  (hn:l.most = some n) (hn2:n <= sizeLine) (hdf:d.params.defaults = []) (hr:Room k callerA)
  (hY:∀ (w:World) (h:Heap),YP w h -> (K w.params).In h)
  (F:∀ (w:World) (mg:Str -> Option Value) (fa:Addr) (h:Heap),(K w.params).In h -> h.Ns mainGlobals mg -> mg d.name = some (.ref fa) ->
   ∃ fd:FuncData,(∀ (s:Shared) (u:Value),BindsTo s fd ⟨[u],[]⟩ [(x,u)]) /\
    ∀ base:Heap,(K w.params).In base -> base.Ns mainGlobals mg -> FnOk l.prog w (K w.params) mg base (CX w) k fa fd [x] (sp w))
  (hsp:∀ (w:World) (H:Hp) (a:Addr) (ns:List Int),ns.length <= n -> Only H -> SqL (K w.params) H a (ns.map V.int) -> sp w [.ref a] H (fun v _ => v = .bl true) fun _ _ _ => False)
  (hCX:∀ (w:World) (H:Hp) (s:Shared) (e:Value) (s':Shared),CX w [] H s (fun _ _ _ => False) e s' -> False) :
  PySem.W.WalkO q loose XP YP l.row.toRowW d [] (fun f vs => PySem.call f vs):=by
 refine Att.attach_call hn hdf fun w s₀ s₁ mg mb fa o pm cd doc a vs ns G Y ho hd hcd hmg hobj hints hlen hg => ?_
 have KX:=hY w _ Y
 obtain ⟨fd,hb,hF⟩:=F w mg fa _ KX G.T.g hmg
 exact law_call KX G.T.g G.T.b G.T.builtins G.T.nolimit hg hobj hints (Nat.le_trans hlen hn2) hr hF hb (fun H hO hS => hsp w H a ns hlen hO hS) fun H e s' => hCX w H s₁ e s'
end L2
namespace L2
open PySem PySem.Spec PyProof.Rows
noncomputable def inClass (s:Stmt) (j:Nat):Stmt:=match s with
 | .ClassDef _ _ _ body _ _ _ _ _ _ _ => body.getD j (.Pass ⟨0,0,0,0⟩)
 | _ => .Pass ⟨0,0,0,0⟩
noncomputable def defArgs (s:Stmt):Arguments:=match s with
 | .FunctionDef _ a _ _ _ _ _ _ _ _ => a
 | _ => { posonlyargs:=[],args:=[],vararg:=none,kwonlyargs:=[],kw_defaults:=[],kwarg:=none,defaults:=[] }
noncomputable def defBody (s:Stmt):List Stmt:=match s with
 | .FunctionDef _ _ b _ _ _ _ _ _ _ => b
 | _ => []
noncomputable def defScope (s:Stmt):Scope:=match s with
 | .FunctionDef _ _ _ _ _ _ sc _ _ _ => sc
 | _ => { kind:=.function,names:=[],isGenerator:=false,isCoroutine:=false }
noncomputable abbrev CX0:CXT:=fun _ _ _ _ _ _ => False
noncomputable abbrev E0:XK:=fun _ _ _ => False
theorem pass0 {X:Cx}:Passes CX0 X E0:=fun _ _ _ _ _ _ _ h => h.elim
section
variable {P:Program} {w:World} {K:PySem.W.Frag} {mg:Str -> Option Value} {base:Heap}
end
section
variable {X:Cx}
theorem pv (i:Nat) {x:Str} {pos:Pos} (hN:X.N[i]? = some x:=by rfl) (hv:Vis X.env.scope x:=by first | exact Or.inl rfl | exact Or.inr (Or.inl rfl) | exact Or.inr (Or.inr rfl)) (hd:(x == ("__debug__":Str)) = false:=by decide)
  (hcd:(x == ("__classdict__":Str)) = false:=by decide):PE X (.Name x pos) (tVar i):=pe_var hN hv hd hcd
end
noncomputable def Same (H H':Hp):Prop:=∀ b o,H b = some o -> H' b = some o
theorem Same.refl (H:Hp):Same H H:=fun _ _ h => h
theorem Same.trans {H H1 H2:Hp} (a:Same H H1) (b:Same H1 H2):Same H H2:=fun c o h => b c o (a c o h)
theorem Same.free {H H':Hp} (e:Same H H') {l:Addr} (h:H' l = Option.none):H l = Option.none:=by
 cases q:H l with
 | none => rfl
 | some o =>
  rw [e l o q] at h
  cases h
theorem Same.seq {K:PySem.W.Frag} {H H':Hp} {a:Addr} {xs:List V} (e:Same H H') (h:SqL K H a xs):SqL K H' a xs:=by
 rcases h with (h | ⟨o,h⟩) | h
 ·exact .inl (.inl (e _ _ h))
 ·exact .inl (.inr ⟨o,e _ _ h⟩)
 ·exact .inr h
end L2
namespace L2
open PySem PySem.Spec PyProof.Rows
section
variable {κ:Type} [DecidableEq κ]
noncomputable def valV (kvs:List (κ × V)) (k:κ):Option V:=(kvs.find? fun kv => decide (kv.1 = k)).map (·.2)
noncomputable def putK (kvs:List (κ × V)) (k:κ) (v:V):List (κ × V) :=
 if (kvs.any fun kv => decide (kv.1 = k)) = true then kvs.map (fun kv => if kv.1 = k then (kv.1,v) else kv) else kvs ++ [(k,v)]
noncomputable def dropK (kvs:List (κ × V)) (k:κ):List (κ × V):=kvs.filter fun kv => decide (kv.1 ≠ k)
theorem valV_pos {p:κ × V} {r:List (κ × V)} {k:κ} (e:p.1 = k):valV (p :: r) k = some p.2:=by simp [valV,List.find?_cons,e]
theorem valV_neg {p:κ × V} {r:List (κ × V)} {k:κ} (e:¬ p.1 = k):valV (p :: r) k = valV r k:=by simp [valV,List.find?_cons,e]
theorem valV_any (k:κ):∀ kvs:List (κ × V),(kvs.any fun kv => decide (kv.1 = k)) = (valV kvs k).isSome
 | [] => rfl
 | p :: r => by
  rw [List.any_cons]
  by_cases e:p.1 = k
  ·simp only [valV_pos e,decide_eq_true e,Bool.true_or,Option.isSome_some]
  ·rw [valV_neg e,decide_eq_false e,Bool.false_or]; exact valV_any k r
theorem length_putK (kvs:List (κ × V)) (k:κ) (v:V):(putK kvs k v).length <= kvs.length + 1:=by
 unfold putK
 split
 ·rw [List.length_map]; omega
 ·rw [List.length_append,List.length_cons,List.length_nil]; omega
theorem RelO.isSome_eq {o:Option V} {u:Option Value} (r:RelO o u):o.isSome = u.isSome:=by
 cases o with
 | none => cases u with
  | none => rfl
  | some _ => exact (show False from r).elim
 | some _ => cases u with
  | none => exact (show False from r).elim
  | some _ => rfl
theorem RelO.getD {o:Option V} {u:Option Value} {d:V} {d':Value} (r:RelO o u) (rd:RelV d d'):RelV (o.getD d) (u.getD d'):=by
 cases o with
 | none => cases u with
  | none => exact rd
  | some _ => exact (show False from r).elim
 | some _ => cases u with
  | none => exact (show False from r).elim
  | some _ => exact r
theorem KV.val {kvs:List (κ × V)} {vs:List (κ × Value)} (r:KV kvs vs) (k:κ):RelO (valV kvs k) (valueAt vs k):=by
 unfold KV at r
 induction r with
 | nil => exact True.intro
 | @cons p q ps qs h t ih =>
  obtain ⟨h1,h2⟩:=h
  by_cases e:p.1 = k
  ·have e':q.1 = k:=h1.symm.trans e
   have b:valueAt (q :: qs) k = some q.2:=by simp [valueAt,List.find?_cons,e']
   rw [valV_pos e,b]; exact h2
  ·have e':¬ q.1 = k:=fun z => e (h1.trans z)
   have b:valueAt (q :: qs) k = valueAt qs k:=by simp [valueAt,List.find?_cons,e']
   rw [valV_neg e,b]; exact ih
theorem KV.any {kvs:List (κ × V)} {vs:List (κ × Value)} (r:KV kvs vs) (k:κ):(kvs.any fun kv => decide (kv.1 = k)) = vs.any fun kv => decide (kv.1 = k):=by
 unfold KV at r
 induction r with
 | nil => rfl
 | cons h t ih => rw [List.any_cons,List.any_cons,ih,h.1]
theorem KV.repl {kvs:List (κ × V)} {vs:List (κ × Value)} (r:KV kvs vs) (k:κ) {y:V} {u:Value} (ry:RelV y u) :
  KV (kvs.map fun kv => if kv.1 = k then (kv.1,y) else kv) (vs.map fun kv => if kv.1 = k then (kv.1,u) else kv):=by
 unfold KV at r ⊢
 induction r with
 | nil => exact .nil
 | @cons p q ps qs h t ih =>
  rw [List.map_cons,List.map_cons]
  refine .cons ?_ ih
  obtain ⟨h1,h2⟩:=h
  by_cases e:p.1 = k
  ·rw [if_pos e,if_pos (h1.symm.trans e)]; exact ⟨h1,ry⟩
  ·rw [if_neg e,if_neg (fun z => e (h1.trans z))]; exact ⟨h1,h2⟩
theorem KV.put {kvs:List (κ × V)} {vs:List (κ × Value)} (r:KV kvs vs) (k:κ) {y:V} {u:Value} (ry:RelV y u):KV (putK kvs k y) (stored vs k u):=by
 unfold putK stored
 rw [r.any k]
 by_cases e:(vs.any fun kv => decide (kv.1 = k)) = true
 ·rw [if_pos e,if_pos e]; exact r.repl k ry
 ·rw [if_neg e,if_neg e]; exact Paired.snoc r ⟨rfl,ry⟩
theorem KV.length {kvs:List (κ × V)} {vs:List (κ × Value)} (r:KV kvs vs):kvs.length = vs.length:=Paired.length r
end
theorem kV_is {P:Program} {w:World} {k:Key} {u:Value} (r:RelV (kV k) u):(mixKind P w).is k u = true:=by
 cases k with
 | inl i => obtain ⟨t,e⟩:=(show ∃ t,u = Value.int i t from r); subst e; exact mixKind_int P w i t
 | inr x => obtain ⟨t,e⟩:=(show ∃ t,u = Value.str x t from r); subst e; exact mixKind_str P w x t
theorem items_are {P:Program} {w:World}:∀ {ks:List Key} {us:List Value},Vals (ks.map kV) us -> ItemsAre (mixKind P w) ks us
 | [],_,r => by rw [List.map_nil] at r; cases r; exact .nil
 | k :: ks,_,r => by
  rw [List.map_cons] at r
  cases r with
  | cons h t => exact .cons (kV_is h) (items_are t)
noncomputable abbrev KT (H:Hp):List (List Key × V) -> List (List Key × Addr × Value) -> Prop:=Paired fun p q => p.1 = q.1 /\ H q.2.1 = some (.tup (p.1.map kV)) /\ RelV p.2 q.2.2
theorem KT.val {H:Hp} {kvs:List (List Key × V)} {xs:List (List Key × Addr × Value)} (r:KT H kvs xs) (k:List Key):RelO (valV kvs k) ((atKey xs k).map (·.2)):=by
 induction r with
 | nil => exact True.intro
 | @cons p q ps qs h t ih =>
  obtain ⟨h1,_,h2⟩:=h
  by_cases e:p.1 = k
  ·have e':q.1 = k:=h1.symm.trans e
   have b:atKey (q :: qs) k = some q.2:=by simp [atKey,List.find?_cons,e']
   rw [valV_pos e,b]; exact h2
  ·have e':¬ q.1 = k:=fun z => e (h1.trans z)
   have b:atKey (q :: qs) k = atKey qs k:=by simp [atKey,List.find?_cons,e']
   rw [valV_neg e,b]; exact ih
theorem KT.repl {H:Hp} {kvs:List (List Key × V)} {xs:List (List Key × Addr × Value)} (r:KT H kvs xs) (k:List Key) {y:V} {u:Value} (ry:RelV y u) :
  KT H (kvs.map fun kv => if kv.1 = k then (kv.1,y) else kv) (xs.map (putAt k u)):=by
 induction r with
 | nil => exact .nil
 | @cons p q ps qs h t ih =>
  rw [List.map_cons,List.map_cons]
  refine .cons ?_ ih
  obtain ⟨h1,h2,h3⟩:=h
  unfold putAt
  by_cases e:p.1 = k
  ·rw [if_pos e,if_pos (h1.symm.trans e)]; exact ⟨h1,h2,ry⟩
  ·rw [if_neg e,if_neg (fun z => e (h1.trans z))]; exact ⟨h1,h2,h3⟩
theorem KT.put {H:Hp} {kvs:List (List Key × V)} {xs:List (List Key × Addr × Value)} (r:KT H kvs xs) (k:List Key) {b:Addr} {y:V} {u:Value} (hb:H b = some (.tup (k.map kV))) (ry:RelV y u) :
  KT H (putK kvs k y) (storedH xs k b u):=by
 have e:(kvs.any fun kv => decide (kv.1 = k)) = (atKey xs k).isSome:=by
  rw [valV_any,(r.val k).isSome_eq,Option.isSome_map]
 unfold putK storedH
 rw [e]
 by_cases q:(atKey xs k).isSome = true
 ·rw [if_pos q,if_pos q]; exact r.repl k ry
 ·rw [if_neg q,if_neg q]; exact Paired.snoc r ⟨rfl,hb,ry⟩
theorem KT.keeps {H H':Hp} {kvs:List (List Key × V)} {xs:List (List Key × Addr × Value)} (r:KT H kvs xs) (ht:∀ b ys,H b = some (.tup ys) -> H' b = some (.tup ys)):KT H' kvs xs :=
 Paired.mapP r fun _ _ z => ⟨z.1,ht _ _ z.2.1,z.2.2⟩
section
variable {P:Program} {w:World} {H:Hp} {h:Heap} {a:Addr}
theorem rd_of {u:HO} (ok:HOk P w H h) (e:Rd H a u):ObjOk P w H h a u:=e.ok ok
theorem dk_rd {kvs:List (Key × V)} (ok:HOk P w H h) (e:Rd H a (.dK kvs)):kvs.length <= sizeLine /\ (a == sysModules) = false /\ ∃ vs,KV kvs vs /\ h.DictOf (mixKind P w) a vs :=
 show ObjOk P w H h a (.dK kvs) from rd_of ok e
theorem dk_of {kvs:List (Key × V)} (ok:HOk P w H h) (e:H a = some (.dK kvs)):kvs.length <= sizeLine /\ (a == sysModules) = false /\ ∃ vs,KV kvs vs /\ h.DictOf (mixKind P w) a vs:=dk_rd ok (.inl e)
theorem key_of {ks:List Key} (ok:HOk P w H h) (e:H a = some (.tup (ks.map kV))):(tupleKind (mixKind P w)).is h ks a:=by
 obtain ⟨_,its,r,o,h1,h2,n,h3⟩:=(show ObjOk P w H h a (.tup (ks.map kV)) from ok a _ e)
 exact ⟨o,its.toArray,n,h1,h2,h3,by simpa using items_are r⟩
theorem dt_rd {kvs:List (List Key × V)} (ok:HOk P w H h) (e:Rd H a (.dT kvs)):kvs.length <= sizeLine /\ (a == sysModules) = false /\
  ∃ xs,KT H kvs xs /\ h.DictOfH (tupleKind (mixKind P w)) a xs:=by
 obtain ⟨z,y,xs,r,o,es,ep,h1,h2,h3,h4,h5⟩:=(show ObjOk P w H h a (.dT kvs) from rd_of ok e)
 refine ⟨z,y,xs,r,o,es,ep,h1,h2,h3,h4,fun x hx => ?_,h5⟩
 have all:∀ {l:List (List Key × V)} {m:List (List Key × Addr × Value)},KT H l m -> ∀ x ∈ m,(tupleKind (mixKind P w)).is h x.1 x.2.1:=by
  intro l m q
  induction q with
  | nil => intro x hx; exact nomatch hx
  | @cons p q ps qs hq t ih =>
   intro x hx
   rcases List.mem_cons.mp hx with e | hx
   ·subst e
    exact key_of ok (by rw [<- hq.1]; exact hq.2.1)
   ·exact ih x hx
 exact all r x hx
theorem dt_of {kvs:List (List Key × V)} (ok:HOk P w H h) (e:H a = some (.dT kvs)):kvs.length <= sizeLine /\ (a == sysModules) = false /\
  ∃ xs,KT H kvs xs /\ h.DictOfH (tupleKind (mixKind P w)) a xs:=dt_rd ok (.inl e)
end
noncomputable def DGet (H:Hp) (a:Addr) (y:V) (r:Option V):Prop :=
 (∃ kvs k,Rd H a (.dK kvs) /\ y = kV k /\ r = valV kvs k) \/ ∃ kvs k b,Rd H a (.dT kvs) /\ y = .ref b /\ H b = some (.tup (k.map kV)) /\ r = valV kvs k
noncomputable def DPut (H:Hp) (a:Addr) (y v:V) (H':Hp):Prop :=
 (∃ kvs k,H a = some (.dK kvs) /\ y = kV k /\ kvs.length < sizeLine /\ H' = upd H a (.dK (putK kvs k v))) \/
 ∃ kvs k b,H a = some (.dT kvs) /\ y = .ref b /\ H b = some (.tup (k.map kV)) /\ kvs.length < sizeLine /\ H' = upd H a (.dT (putK kvs k v))
theorem DPut.k {H:Hp} {a:Addr} {kvs:List (Key × V)} {k:Key} {v:V} (e:H a = some (.dK kvs)) (hl:kvs.length < sizeLine):DPut H a (kV k) v (upd H a (.dK (putK kvs k v))):=.inl ⟨kvs,k,e,rfl,hl,rfl⟩
theorem DPut.t {H:Hp} {a b:Addr} {kvs:List (List Key × V)} {k:List Key} {v:V} (e:H a = some (.dT kvs)) (eb:H b = some (.tup (k.map kV))) (hl:kvs.length < sizeLine) :
  DPut H a (.ref b) v (upd H a (.dT (putK kvs k v))):=.inr ⟨kvs,k,b,e,rfl,eb,hl,rfl⟩
section
variable {X:Cx} {pins:List (Addr × Obj)} {σ:St} {H:Hp} {s:Shared} {a:Addr} {y v:V} {u r:Value} {o:Option V} {A:Around} {E:Value -> Shared -> Prop}
theorem Inv.big (I:Inv X pins σ H s):sysModules < s.heap.objs.size:=by
 have h:mainGlobals < s.heap.objs.size:=(I.mod.glob.keeps I.bk).lt
 exact Nat.lt_trans (by decide) h
theorem d_getItem {Q:Value -> Shared -> Prop} (hu:A.units + 1 < cLine) (I:Inv X pins σ H s) (g:DGet H a y (some v)) (ry:RelV y u) (h:∀ w' s',Inv X pins σ H s' -> RelV v w' -> Q w' s') :
  wpAny (model X.prog X.w) A (getItem (.ref a) u) Q E s:=by
 rcases g with ⟨kvs,k,e,ey,l⟩ | ⟨kvs,k,b,e,ey,eb,l⟩
 ·subst ey
  obtain ⟨z,hd,vs,rel,dd⟩:=dk_rd I.hok e
  obtain ⟨w',hw,rw'⟩:=RelO.some_of (v:=v) (o:=valueAt vs k) (by rw [l]; exact rel.val k)
  exact wpAny_getItem_of (kV_is ry) dd.mapOf hw (h w' _ (I.tok _) rw')
 ·subst ey
  cases (show u = Value.ref b from ry)
  obtain ⟨z,hd,xs,rel,dd⟩:=dt_rd I.hok e
  obtain ⟨w',hw,rw'⟩:=RelO.some_of (v:=v) (o:=(atKey xs k).map (·.2)) (by rw [l]; exact rel.val k)
  obtain ⟨p,hp,hp2⟩:=Option.map_eq_some_iff.mp hw
  refine wpAny_getItem_heap (tupleKind_room_in1 hu) (key_of I.hok eb) dd hp ?_
  rw [hp2]
  exact h w' _ (I.tok _) rw'
theorem d_in {Q:Value -> Shared -> Prop} (hu:A.units + 1 < cLine) (I:Inv X pins σ H s) (g:DGet H a y o) (ry:RelV y u) (h:∀ s',Inv X pins σ H s' -> Q (.bool o.isSome) s') :
  wpAny (model X.prog X.w) A (compareOp .In u (.ref a)) Q E s:=by
 rcases g with ⟨kvs,k,e,ey,l⟩ | ⟨kvs,k,b,e,ey,eb,l⟩
 ·subst ey
  obtain ⟨z,hd,vs,rel,dd⟩:=dk_rd I.hok e
  refine wpAny_in_of (kV_is ry) hd dd.mapOf ?_
  rw [<- (rel.val k).isSome_eq,<- l]
  exact h _ (I.tok _)
 ·subst ey
  cases (show u = Value.ref b from ry)
  obtain ⟨z,hd,xs,rel,dd⟩:=dt_rd I.hok e
  refine wpAny_in_heap (tupleKind_room_in1 hu) (key_of I.hok eb) hd dd ?_
  have q:=(rel.val k).isSome_eq
  rw [Option.isSome_map] at q
  rw [<- q,<- l]
  exact h _ (I.tok _)
theorem d_notIn {Q:Value -> Shared -> Prop} (hu:A.units + 1 < cLine) (I:Inv X pins σ H s) (g:DGet H a y o) (ry:RelV y u) (h:∀ s',Inv X pins σ H s' -> Q (.bool (!o.isSome)) s') :
  wpAny (model X.prog X.w) A (compareOp .NotIn u (.ref a)) Q E s:=by
 rcases g with ⟨kvs,k,e,ey,l⟩ | ⟨kvs,k,b,e,ey,eb,l⟩
 ·subst ey
  obtain ⟨z,hd,vs,rel,dd⟩:=dk_rd I.hok e
  refine wpAny_notIn_of (kV_is ry) hd dd.mapOf ?_
  rw [<- (rel.val k).isSome_eq,<- l]
  exact h _ (I.tok _)
 ·subst ey
  cases (show u = Value.ref b from ry)
  obtain ⟨z,hd,xs,rel,dd⟩:=dt_rd I.hok e
  refine wpAny_notIn_heap (tupleKind_room_in1 hu) (key_of I.hok eb) hd dd ?_
  have q:=(rel.val k).isSome_eq
  rw [Option.isSome_map] at q
  rw [<- q,<- l]
  exact h _ (I.tok _)
theorem d_write {h':Heap} {t':Nat} {ob:HO} (I:Inv X pins σ H s) (mu:Mut (H a)) (hs:Heap.SameBut a s.heap h') (he:∃ q,h'.get? a = some q) (new:ObjOk X.prog X.w (upd H a ob) h' a ob) :
  Inv X pins σ (upd H a ob) { s with heap:=h',toks:=t' } :=
 I.write (x:=a) (e:=a) mu (.inl rfl) (fun b q hb z => (hs.2 b hb).trans z) he new
theorem dk_new {P:Program} {w:World} {H':Hp} {h':Heap} {kvs:List (Key × V)} {vs:List (Key × Value)} (z:kvs.length <= sizeLine) (hd:(a == sysModules) = false) (rel:KV kvs vs) (dd:h'.DictOf (mixKind P w) a vs) :
  ObjOk P w H' h' a (.dK kvs):=⟨z,hd,vs,rel,dd⟩
theorem d_setItem {H':Hp} {Q:Unit -> Shared -> Prop} (hu:A.units + 1 < cLine) (I:Inv X pins σ H s) (g:DPut H a y v H') (ry:RelV y u) (rv:RelV v r) (h:∀ s',Inv X pins σ H' s' -> Q () s') :
  wpAny (model X.prog X.w) A (setItem (.ref a) u r) Q E s:=by
 rcases g with ⟨kvs,k,e,ey,l,eH⟩ | ⟨kvs,k,b,e,ey,eb,l,eH⟩
 ·subst ey eH
  obtain ⟨z,hd,vs,rel,dd⟩:=dk_of I.hok e
  have hz:vs.length <= sizeLine:=by rw [<- rel.length]; exact z
  have hl:(putK kvs k v).length <= sizeLine:=by have:=length_putK kvs k v; omega
  refine wpAny_setItem_pairs (hsz:=hz) (kV_is ry) dd fun h' dd' hs => h _ ?_
  have he:∃ q,h'.get? a = some q:=let ⟨q,_,_,hq,_⟩:=dd'; ⟨q,hq⟩
  exact d_write I (by rw [e]; exact True.intro) hs he (dk_new hl hd (rel.put k rv) dd')
 ·subst ey eH
  cases (show u = Value.ref b from ry)
  obtain ⟨z,hd,xs,rel,dd⟩:=dt_of I.hok e
  have hz:xs.length <= sizeLine:=by rw [<- Paired.length rel]; exact z
  have hl:(putK kvs k v).length <= sizeLine:=by have:=length_putK kvs k v; omega
  refine wpAny_setItem_heap (hsz:=hz) (tupleKind_room_in1 hu) (key_of I.hok eb) dd fun h' dd' hs => h _ ?_
  obtain ⟨q,es,ep,hq,h2,h3,h4,_,h5⟩:=dd'
  refine d_write I (by rw [e]; exact True.intro) hs ⟨q,hq⟩ ⟨hl,hd,_,(rel.put k eb rv).keeps fun c ys ec => ?_,q,es,ep,hq,h2,h3,h4,h5⟩
  rw [upd_ne (ne_of ec e (fun z => nomatch z))]
  exact ec
end
section
variable {X:Cx} {pins:List (Addr × Obj)} {σ:St} {H:Hp} {s:Shared} {a:Addr} {kvs:List (Key × V)} {k:Key} {u:Value} {A:Around} {E:Value -> Shared -> Prop}
end
noncomputable def NoSl (i:Expr):Prop:=∀ ov iv,subscripted i false ov iv = operate [ov,iv] (getItem ov iv)
theorem subD_of {prog:Program} {w:World} {A:Around} {E:Value -> Shared -> Prop} {s:Shared} {env:Env} {value slice:Expr} {pos:Pos} {T id:String} {Q:Value -> Shared -> Prop}
  (hl:typeLookup (.type T) "__getitem__" = pure (some (.builtin id))) (hs:NoSl slice)
  (h:wpAny (model prog w) A (eval value env) (fun o s₁ => wpAny (model prog w) A (eval slice env) (fun i s₂ => s₂.TypeIs o T /\ wpAny (model prog w) A (getItem o i) Q E s₂) E s₁) E s) :
  wpAny (model prog w) A (eval (.Subscript value slice pos) env) Q E s:=by
 refine Subscript_ (wpAny_mono h (fun o s₁ h₁ => wpAny_mono h₁ (fun i s₂ h₂ => ?_) fun _ _ x => x) fun _ _ x => x)
 obtain ⟨hT,h₂⟩:=h₂
 unfold subscriptTail
 refine wpAny_bind ?_
 rw [getitemInPython_of_ne hT.not_modules]
 refine wpAny_bind (wpAny_specialOf hT hl ?_)
 have fin:wpAny (model prog w) A (subscripted slice false o i) (fun r s₃ => wpAny (model prog w) A (letTemporaryGo value o r >>= fun _ => pure r) Q E s₃) E s₂:=by
  rw [hs o i]
  exact wpAny_operating (wpAny_mono h₂ (fun r s₃ h₃ => wpAny_bind (wpAny_letTemporaryGo (wpAny_pure h₃))) fun _ _ x => x)
 first
  | exact wpAny_pure (wpAny_bind fin)
  | exact wpAny_bind (wpAny_pure (wpAny_bind fin))
  | exact wpAny_bind fin
theorem dict_typeIs {X:Cx} {pins:List (Addr × Obj)} {σ:St} {H:Hp} {s:Shared} {a:Addr} {y:V} {o:Option V} (I:Inv X pins σ H s) (g:DGet H a y o):s.TypeIs (.ref a) "dict":=by
 rcases g with ⟨kvs,k,e,_,_⟩ | ⟨kvs,k,b,e,_,_,_⟩
 ·obtain ⟨_,_,vs,_,dd⟩:=dk_rd I.hok e
  exact dd.typeIs
 ·obtain ⟨_,_,xs,_,dd⟩:=dt_rd I.hok e
  exact dd.typeIs
noncomputable def tDGet (td ty:TE):TE:=fun σ H Q => td σ H fun x H1 => ty σ H1 fun y H2 => ∃ a v,x = .ref a /\ DGet H2 a y (some v) /\ Q v H2
noncomputable def tDIn (ty td:TE):TE:=fun σ H Q => ty σ H fun y H1 => td σ H1 fun x H2 => ∃ a o,x = .ref a /\ DGet H2 a y o /\ Q (.bl o.isSome) H2
noncomputable def tDNotIn (ty td:TE):TE:=fun σ H Q => ty σ H fun y H1 => td σ H1 fun x H2 => ∃ a o,x = .ref a /\ DGet H2 a y o /\ Q (.bl (!o.isSome)) H2
noncomputable def sDPut (td ty tv:TE):TS:=fun D σ H => tv σ H fun v H1 => td σ H1 fun x H2 => ty σ H2 fun y H3 => ∃ a H4,x = .ref a /\ DPut H3 a y v H4 /\ D.nx σ H4
section
variable {X:Cx} {o i e value:Expr} {pos pos' tpos:Pos} {td ty tv:TE}
theorem pe_dget (hu:X.A.units + 1 < cLine) (ho:PE X o td) (hi:PE X i ty) (hs:NoSl i):PE X (.Subscript o i pos) (tDGet td ty):=by
 intro pins s σ H Q I h
 refine subD_of PySem.F.slot_dict_getitem.lookup hs (thn (ho pins s σ H _ I h) fun u s1 ⟨x,H1,I1,rx,q1⟩ => thn (hi pins s1 σ H1 _ I1 q1) fun iv s2 ⟨y,H2,I2,ry,a,v,ex,g,q2⟩ => ?_)
 subst ex
 obtain rfl:u = Value.ref a:=rx
 exact ⟨dict_typeIs I2 g,d_getItem hu I2 g ry fun w' s3 I3 rw' => ⟨v,H2,I3,rw',q2⟩⟩
theorem pc_din (hu:X.A.units + 1 < cLine) (hi:PE X i ty) (ho:PE X o td):PC X .In i o (tDIn ty td):=by
 intro pins s σ H Q I h
 refine thn (hi pins s σ H _ I h) fun iv s1 ⟨y,H1,I1,ry,q1⟩ => thn (ho pins s1 σ H1 _ I1 q1) fun u s2 ⟨x,H2,I2,rx,a,ov,ex,g,q2⟩ => ?_
 subst ex
 obtain rfl:u = Value.ref a:=rx
 exact d_in hu I2 g ry fun s3 I3 => ⟨.bl ov.isSome,H2,I3,rfl,q2⟩
theorem pc_dnotin (hu:X.A.units + 1 < cLine) (hi:PE X i ty) (ho:PE X o td):PC X .NotIn i o (tDNotIn ty td):=by
 intro pins s σ H Q I h
 refine thn (hi pins s σ H _ I h) fun iv s1 ⟨y,H1,I1,ry,q1⟩ => thn (ho pins s1 σ H1 _ I1 q1) fun u s2 ⟨x,H2,I2,rx,a,ov,ex,g,q2⟩ => ?_
 subst ex
 obtain rfl:u = Value.ref a:=rx
 exact d_notIn hu I2 g ry fun s3 I3 => ⟨.bl (!ov.isSome),H2,I3,rfl,q2⟩
theorem ps_dput (hu:X.A.units + 1 < cLine) (ho:PE X o td) (hi:PE X i ty) (hv:PE X value tv) (hs:swapsWith value (some (.Subscript o i pos')) pos.line X.env = pure false) :
  PS X (.Assign [.Subscript o i pos'] value pos) (sDPut td ty tv):=by
 intro pins s σ H D I h
 refine wpAny_Assign_Subscript (thn (hv pins s σ H _ I h) fun r s1 ⟨v,H1,I1,rv,q1⟩ => thn (ho pins s1 σ H1 _ I1 q1) fun u s2 ⟨x,H2,I2,rx,q2⟩ => thn (hi pins s2 σ H2 _ I2 q2) fun iv s3 ⟨y,H3,I3,ry,a,H4,ex,g,q3⟩ => ?_) hs
 subst ex
 obtain rfl:u = Value.ref a:=rx
 exact d_setItem hu I3 g ry rv fun s4 I4 => ⟨σ,H4,I4,q3⟩
end
theorem dk_empty {P:Program} {w:World} {H:Hp} (h:Heap) (hb:sysModules < h.objs.size):ObjOk P w H (h.push { cls:=.type "dict",data:=.dict #[] }) h.objs.size (.dK []) :=
 ⟨Nat.zero_le _,beq_eq_false_iff_ne.mpr (Ne.symm (Nat.ne_of_lt hb)),[],.nil,Heap.DictOf.new h⟩
theorem dt_empty {P:Program} {w:World} {H:Hp} (h:Heap) (hb:sysModules < h.objs.size):ObjOk P w H (h.push { cls:=.type "dict",data:=.dict #[] }) h.objs.size (.dT []) :=
 ⟨Nat.zero_le _,beq_eq_false_iff_ne.mpr (Ne.symm (Nat.ne_of_lt hb)),[],.nil,_,#[],0,Heap.get?_push_size _ rfl,⟨rfl,rfl,rfl⟩,rfl,rfl,List.nodup_nil⟩
noncomputable def tDNewK:TE:=fun _ H Q => ∀ p,H p = none -> Q (.ref p) (upd H p (.dK []))
noncomputable def tDNewT:TE:=fun _ H Q => ∀ p,H p = none -> Q (.ref p) (upd H p (.dT []))
section
variable {X:Cx} {pos:Pos}
theorem pe_dnewK:PE X (.Dict [] [] pos) tDNewK:=fun pins s σ H Q I h =>
 wpAny_Dict_empty ⟨.ref s.heap.objs.size,_,I.laid (a:=s.heap.objs.size) (o:=.dK []) (t':=s.toks) (fun _ _ q => Heap.get?_push_of_some _ q) (Nat.le_refl _) (dk_empty s.heap I.big),rfl,h _ (I.hok.fresh (Nat.le_refl _))⟩
theorem pe_dnewT:PE X (.Dict [] [] pos) tDNewT:=fun pins s σ H Q I h =>
 wpAny_Dict_empty ⟨.ref s.heap.objs.size,_,I.laid (a:=s.heap.objs.size) (o:=.dT []) (t':=s.toks) (fun _ _ q => Heap.get?_push_of_some _ q) (Nat.le_refl _) (dt_empty s.heap I.big),rfl,h _ (I.hok.fresh (Nat.le_refl _))⟩
end
structure M2 (X:Cx) (o:Expr) (m:Str) (apos:Pos) (e f:Expr) (cpos:Pos):Prop where
 base:attributeBase o m X.env (eval o X.env) = eval o X.env
 few:((backTo cpos (starEach [e,f] X.env)).all (fun x => !x.1) && (backToKw cpos (keywordEach [] X.env)).all (fun x => x.1.isSome)
  && decide (([e,f]:List Expr).length + ([]:List Keyword).length + (if ([]:List Keyword).isEmpty then 0 else 1) < 30)) = true
 line:(apos.endLine == cpos.line) = true
 trees:backTo cpos (starEach [e,f] X.env) = [(false,eval e X.env),(false,eval f X.env)]
noncomputable def IsD (H:Hp) (a:Addr):Prop:=(∃ kvs,Rd H a (.dK kvs)) \/ ∃ kvs,Rd H a (.dT kvs)
theorem isD_at {X:Cx} {pins:List (Addr × Obj)} {σ:St} {H:Hp} {s:Shared} {a:Addr} (I:Inv X pins σ H s) (d:IsD H a) :
  s.TypeIs (.ref a) "dict" /\ (∀ b,Value.ref a = .ref b -> ∃ ob,s.heap.get? b = some ob /\ ob.dict = none) /\ (a == sysModules) = false:=by
 rcases d with ⟨kvs,e⟩ | ⟨kvs,e⟩
 ·obtain ⟨_,hd,vs,_,dd⟩:=dk_rd I.hok e
  refine ⟨dd.typeIs,fun b q => ?_,hd⟩
  cases q
  obtain ⟨ob,_,_,h1,h2,_⟩:=dd
  exact ⟨ob,h1,h2.2.1⟩
 ·obtain ⟨_,hd,xs,_,dd⟩:=dt_rd I.hok e
  refine ⟨dd.typeIs,fun b q => ?_,hd⟩
  cases q
  obtain ⟨ob,_,_,h1,h2,_⟩:=dd
  exact ⟨ob,h1,h2.2.1⟩
section
variable {X:Cx} {pins:List (Addr × Obj)} {σ:St} {H:Hp} {s:Shared} {a:Addr} {y d:V} {u r:Value} {o:Option V} {A:Around} {E:Value -> Shared -> Prop}
theorem d_get2 {Q:Value -> Shared -> Prop} (hu:A.units + 1 < cLine) (I:Inv X pins σ H s) (g:DGet H a y o) (ry:RelV y u) (rd:RelV d r) (h:∀ w' s',Inv X pins σ H s' -> RelV (o.getD d) w' -> Q w' s') :
  wpAny (model X.prog X.w) A (call (.builtin "dict.get") [.ref a,u,r]) Q E s:=by
 rcases g with ⟨kvs,k,e,ey,l⟩ | ⟨kvs,k,b,e,ey,eb,l⟩
 ·subst ey
  obtain ⟨z,hd,vs,rel,dd⟩:=dk_rd I.hok e
  refine call_meetsIn PySem.F.slot_dict_get dd.typeIs PySem.F.entry_dict_get (PySem.F.args_dict_get_3 _ _ _) (meets_dict_get_default (mixKind X.prog X.w) a (kV_is ry) hd r) ⟨_,dd.mapOf,h _ _ (I.tok _) ?_⟩
  rw [l]
  exact (rel.val k).getD rd
 ·subst ey
  cases (show u = Value.ref b from ry)
  obtain ⟨z,hd,xs,rel,dd⟩:=dt_rd I.hok e
  refine call_meetsIn PySem.F.slot_dict_get dd.typeIs PySem.F.entry_dict_get (PySem.F.args_dict_get_3 _ _ _) (meetsH_dict_get_default (tupleKind (mixKind X.prog X.w)) a b hd r) ⟨tupleKind_room_in1 hu,k,xs,key_of I.hok eb,dd,h _ _ (I.tok _) ?_⟩
  rw [l]
  exact (rel.val k).getD rd
end
noncomputable def tDGet2 (td ty tx:TE):TE:=fun σ H Q => td σ H fun x H1 => ∃ a,x = .ref a /\ IsD H1 a /\ ty σ H1 fun y H2 => tx σ H2 fun z H3 => ∃ o,DGet H3 a y o /\ Q (o.getD z) H3
section
variable {X:Cx} {o e f:Expr} {apos cpos:Pos} {td ty tx:TE}
theorem pe_dget2 (hu:X.A.units + 1 < cLine) (ho:PE X o td) (he:PE X e ty) (hf:PE X f tx) (m:M2 X o "get" apos e f cpos):PE X (.Call (.Attribute o "get" apos) [e,f] [] cpos) (tDGet2 td ty tx):=by
 intro pins s σ H Q I h
 refine wpAny_Call_method m.base m.few m.line PySem.F.plainAttrs_dict PySem.F.slot_dict_get PySem.F.type_dict_get (thn (ho pins s σ H _ I h) fun u s1 ⟨x,H1,I1,rx,a,ex,d,q1⟩ => ?_)
 subst ex
 obtain rfl:u = Value.ref a:=rx
 obtain ⟨t1,t2,_⟩:=isD_at I1 d
 refine ⟨t1,t2,?_⟩
 rw [m.trees]
 refine Calls.callWith_builtin rfl (Calls.evalArgs_plain (Calls.spliced_cons (thn (he pins s1 σ H1 _ I1 q1) fun iv s2 ⟨y,H2,I2,ry,q2⟩ =>
  Calls.spliced_cons (thn (hf pins s2 σ H2 _ I2 q2) fun fv s3 ⟨z,H3,I3,rz,ov,g,q3⟩ => Calls.spliced_nil ?_))))
 exact d_get2 hu I3 g ry rz fun w' s4 I4 rw' => ⟨_,H3,I4,rw',q3⟩
end
section
variable {X:Cx} {pins:List (Addr × Obj)} {σ:St} {H:Hp} {s:Shared} {a:Addr} {kvs:List (Key × V)} {A:Around} {E:Value -> Shared -> Prop}
end
section
variable {X:Cx} {pins:List (Addr × Obj)} {σ:St} {H:Hp} {s:Shared} {a:Addr} {y:V} {u:Value} {A:Around} {E:Value -> Shared -> Prop}
end
end L2
namespace L2.Srt
open PySem PySem.W PyProof.Rows
section
variable {O:KeyOrd} {key:Nat -> O.α} {N:Nat} {cmp:Nat -> Nat -> (Bool -> Shared -> Prop) -> Shared -> Prop} {s:Shared}
noncomputable def kk (key:Nat -> O.α) (p:Array Nat) (i:Nat):O.α:=key (p.getD i 0)
noncomputable def Rises (key:Nat -> O.α) (p:Array Nat) (k:Nat):Prop:=∀ i j,i <= j -> j < k -> O.kle (kk key p i) (kk key p j)
noncomputable def Falls (key:Nat -> O.α) (p:Array Nat) (k:Nat):Prop:=∀ i j,i <= j -> j < k -> O.kle (kk key p j) (kk key p i)
noncomputable def PB (N:Nat) (p:Array Nat):Prop:=p.Perm (List.range N).toArray
theorem PB.size {p:Array Nat} (h:PB N p):p.size = N:=by have:=h.size_eq; simpa using this
theorem PB.lt {p:Array Nat} (h:PB N p) {i:Nat} (hi:i < N):p.getD i 0 < N:=by
 have hs:i < p.size:=by rw [h.size]; exact hi
 have hm:p[i] ∈ (List.range N):=by
  have e:=(Array.perm_iff_toList_perm.mp h).mem_iff (a:=p[i])
  simpa using e.mp (by simp)
 have e:p.getD i 0 = p[i]:=by simp [Array.getD,hs]
 rw [e]; exact List.mem_range.mp hm
theorem PB.rev {p:Array Nat} (h:PB N p) (i j:Nat):PB N (kas_rev p i j):=(mirror_perm _ _ _ _).trans h
theorem PB.bub {p:Array Nat} (h:PB N p) (i j:Nat):PB N (bubble p i j):=(bubble_perm _ _ _).trans h
theorem kk_congr {p q:Array Nat} {i j:Nat} (h:p[i]? = q[j]?):kk key p i = kk key q j:=by
 unfold kk; rw [Array.getD_eq_getD_getElem?,Array.getD_eq_getD_getElem?,h]
theorem kk_bubble {p:Array Nat} {src d:Nat} (hs:src < p.size) (hd:d <= src) (k:Nat) :
  kk key (bubble p src d) k = if k = src - d then kk key p src else if src - d < k /\ k <= src then kk key p (k - 1) else kk key p k:=by
 have e:=getElem?_bubble hs d hd k
 by_cases h1:k = src - d
 ·rw [if_pos h1] at e ⊢; exact kk_congr e
 ·rw [if_neg h1] at e ⊢
  by_cases h2:src - d < k /\ k <= src
  ·rw [if_pos h2] at e ⊢; exact kk_congr e
  ·rw [if_neg h2] at e ⊢; exact kk_congr e
theorem kk_rev {p:Array Nat} {i j:Nat} (hj:j <= p.size) (k:Nat) :
  kk key (kas_rev p i j) k = if i <= k /\ k < j then kk key p (i + j - 1 - k) else kk key p k:=by
 have e:=getElem?_mirror_all (i:=i) hj k
 unfold kas_rev
 by_cases h1:i <= k /\ k < j
 ·rw [if_pos h1] at e ⊢; exact kk_congr e
 ·rw [if_neg h1] at e ⊢; exact kk_congr e
theorem kk_rev_equal {p:Array Nat} {i j:Nat} (hj:j <= p.size) (heq:∀ k,i <= k -> k < j -> kk key p k = kk key p (j - 1)) (k:Nat) :
  kk key (kas_rev p i j) k = kk key p k:=by
 rw [kk_rev hj]
 split
 ·rw [heq _ (by omega) (by omega),heq k (by omega) (by omega)]
 ·rfl
variable (hc:∀ a b C,a < N -> b < N -> C (O.blt (key a) (key b)) s -> cmp a b C s)
include hc
theorem t_ask {α:Type} {p:Array Nat} {i j:Nat} {k:Bool -> KasT α} {Q:α -> Shared -> Prop} (hp:PB N p) (hi:i < N) (hj:j < N)
  (h:(k (O.blt (kk key p i) (kk key p j))).kasWp cmp Q s):(KasT.ask (p.getD i 0) (p.getD j 0) k).kasWp cmp Q s :=
 hc _ _ _ (hp.lt hi) (hp.lt hj) h
theorem t_asc {p:Array Nat} {nrem:Nat} {Q:Nat -> Shared -> Prop} (hp:PB N p) (hn:nrem <= N):∀ (f n:Nat),n + f = nrem -> 1 <= n -> Rises key p n ->
  (∀ m,n <= m -> m <= nrem -> Rises key p m -> (m = nrem \/ O.klt (kk key p m) (kk key p (m - 1))) -> Q m s) -> (kas_asc p f n).kasWp cmp Q s
 | 0,n,e,h1,hs,h => h n (Nat.le_refl _) (by omega) hs (.inl (by omega))
 | f + 1,n,e,h1,hs,h => by
  show (KasT.ask (p.getD n 0) (p.getD (n - 1) 0) fun c => if c = true then .ret n else kas_asc p f (n + 1)).kasWp cmp Q s
  refine t_ask hc hp (by omega) (by omega) ?_
  cases hless:O.blt (kk key p n) (kk key p (n - 1)) with
  | true =>
   rw [if_pos rfl]
   exact h n (Nat.le_refl _) (by omega) hs (.inr hless)
  | false =>
   rw [if_neg (by simp)]
   refine t_asc hp hn f (n + 1) (by omega) (by omega) (fun i j hij hj => ?_) fun m a b c d => h m (by omega) b c d
   by_cases hjx:j < n
   ·exact hs i j hij hjx
   ·have hj':j = n:=by omega
    subst hj'
    by_cases hi':i = j
    ·subst hi'; exact KeyOrd.kle_refl _
    ·exact KeyOrd.kle_trans (hs i (j - 1) (by omega) (by omega)) hless
theorem t_tail3 {p:Array Nat} {n nrem:Nat} {Q:Nat × Array Nat -> Shared -> Prop} (hp:PB N p) (hn:nrem <= N) (h1:1 <= n) (hnn:n <= nrem) (hs:Falls key p n)
  (h:∀ m p',PB N p' -> 1 <= m -> m <= nrem -> Rises key p' m -> Q (m,p') s):(kas_tail3 n nrem p).kasWp cmp Q s:=by
 unfold kas_tail3
 rw [KasT.kasWp_bind]
 have hz:n <= p.size:=by rw [hp.size]; omega
 refine t_asc hc (hp.rev 0 n) hn (nrem - n) n (by omega) h1 (fun i j hij hj => ?_) fun m a b c _ => h m _ (hp.rev 0 n) (by omega) b c
 rw [kk_rev hz,kk_rev hz,if_pos (by omega),if_pos (by omega)]
 exact hs _ _ (by omega) (by omega)
theorem t_desc {nrem:Nat} {Q:Array Nat × Nat × Nat -> Shared -> Prop} (hn:nrem <= N):∀ (f:Nat) (p:Array Nat) (n q:Nat),n + f = nrem -> PB N p -> Falls key p n -> q + 1 <= n ->
  (∀ i,n - (q + 1) <= i -> i < n -> kk key p i = kk key p (n - 1)) ->
  (∀ p' m q',n <= m -> m <= nrem -> PB N p' -> Falls key p' m -> q' + 1 <= m -> (∀ i,m - (q' + 1) <= i -> i < m -> kk key p' i = kk key p' (m - 1)) -> Q (p',m,q') s) ->
  (kas_desc f p n q).kasWp cmp Q s
 | 0,p,n,q,e,hp,hs,hq,he,h => h p n q (Nat.le_refl _) (by omega) hp hs hq he
 | f + 1,p,n,q,e,hp,hs,hq,he,h => by
  show (KasT.ask (p.getD n 0) (p.getD (n - 1) 0) fun c =>
   if c = true then (if q > 0 then kas_desc f (kas_rev p (n - (q + 1)) n) (n + 1) 0 else kas_desc f p (n + 1) 0)
   else .ask (p.getD (n - 1) 0) (p.getD n 0) fun d => if d = true then .ret (p,n,q) else kas_desc f p (n + 1) (q + 1)).kasWp cmp Q s
  have hz:n <= p.size:=by rw [hp.size]; omega
  refine t_ask hc hp (by omega) (by omega) ?_
  cases hless:O.blt (kk key p n) (kk key p (n - 1)) with
  | true =>
   rw [if_pos rfl]
   have step1:∀ p':Array Nat,(∀ k,kk key p' k = kk key p k) -> Falls key p' (n + 1):=by
    intro p' hk i j hij hj
    rw [hk,hk]
    by_cases hjx:j < n
    ·exact hs i j hij hjx
    ·have hj':j = n:=by omega
     subst hj'
     by_cases hi':i = j
     ·subst hi'; exact KeyOrd.kle_refl _
     ·exact KeyOrd.kle_trans (KeyOrd.kle_of_klt hless) (hs i (j - 1) (by omega) (by omega))
   by_cases hneq:q > 0
   ·rw [if_pos hneq]
    exact t_desc hn f _ (n + 1) 0 (by omega) (hp.rev _ _) (step1 _ (kk_rev_equal hz he)) (by omega) (fun i a b => by congr 1; omega)
     fun p' m q' a => h p' m q' (by omega)
   ·rw [if_neg hneq]
    exact t_desc hn f p (n + 1) 0 (by omega) hp (step1 _ fun _ => rfl) (by omega) (fun i a b => by congr 1; omega) fun p' m q' a => h p' m q' (by omega)
  | false =>
   rw [if_neg (by simp)]
   refine t_ask hc hp (by omega) (by omega) ?_
   cases hlarger:O.blt (kk key p (n - 1)) (kk key p n) with
   | true =>
    rw [if_pos rfl]
    exact h p n q (Nat.le_refl _) (by omega) hp hs hq he
   | false =>
    rw [if_neg (by simp)]
    have heqx:kk key p n = kk key p (n - 1):=KeyOrd.kle_antisymm hlarger hless
    refine t_desc hn f p (n + 1) (q + 1) (by omega) hp (fun i j hij hj => ?_) (by omega) (fun i a b => ?_) fun p' m q' a => h p' m q' (by omega)
    ·by_cases hjx:j < n
     ·exact hs i j hij hjx
     ·have hj':j = n:=by omega
      subst hj'
      by_cases hi':i = j
      ·subst hi'; exact KeyOrd.kle_refl _
      ·rw [heqx]; exact hs i (j - 1) (by omega) (by omega)
    ·rw [show n + 1 - 1 = n by omega]
     by_cases hix:i = n
     ·subst hix; rfl
     ·rw [heqx]; exact he i (by omega) (by omega)
theorem t_descPart {p:Array Nat} {n nrem:Nat} {Q:Nat × Array Nat -> Shared -> Prop} (hp:PB N p) (hn:nrem <= N) (hnn:n + 1 <= nrem) (hs:Falls key p (n + 1))
  (h:∀ m p',PB N p' -> 1 <= m -> m <= nrem -> Rises key p' m -> Q (m,p') s):(kas_descPart n nrem p).kasWp cmp Q s:=by
 unfold kas_descPart
 rw [KasT.kasWp_bind]
 refine t_desc hc hn (nrem - (n + 1)) p (n + 1) 0 (by omega) hp hs (by omega) (fun i a b => by congr 1; omega) fun p' m q' hm1 hm2 hp' hs' hq he => ?_
 dsimp only
 have hz:m <= p'.size:=by rw [hp'.size]; omega
 by_cases hneq:q' > 0
 ·rw [if_pos hneq]
  refine t_tail3 hc (hp'.rev _ _) hn (by omega) hm2 (fun i j hij hj => ?_) h
  rw [kk_rev_equal hz he,kk_rev_equal hz he]
  exact hs' i j hij hj
 ·rw [if_neg hneq]
  exact t_tail3 hc hp' hn (by omega) hm2 hs' h
theorem t_count {p:Array Nat} {nrem:Nat} {Q:Nat × Array Nat -> Shared -> Prop} (hp:PB N p) (hn:nrem <= N) (h1:1 <= nrem)
  (h:∀ m p',PB N p' -> 1 <= m -> m <= nrem -> Rises key p' m -> Q (m,p') s):(kas_count nrem p).kasWp cmp Q s:=by
 unfold kas_count
 rw [KasT.kasWp_bind]
 refine t_asc hc hp hn (nrem - 1) 1 (by omega) (Nat.le_refl _) (fun i j hij hj => by have:i = j:=(by omega); subst this; exact KeyOrd.kle_refl _) fun n hn1 hn2 hsn hor => ?_
 by_cases hnn:n = nrem
 ·rw [if_pos (by simpa using hnn)]
  exact h n p hp hn1 hn2 hsn
 ·rw [if_neg (by simpa using hnn)]
  have hlt:O.klt (kk key p n) (kk key p (n - 1)):=hor.resolve_left hnn
  by_cases hgt:n > 1
  ·rw [if_pos hgt]
   refine t_ask hc hp (by omega) (by omega) ?_
   cases hrose:O.blt (kk key p 0) (kk key p (n - 1)) with
   | true =>
    rw [if_pos rfl]
    exact h n p hp hn1 hn2 hsn
   | false =>
    rw [if_neg (by simp)]
    have hsz:n <= p.size:=by rw [hp.size]; omega
    have hall:∀ k,0 <= k -> k < n -> kk key p k = kk key p (n - 1):=by
     intro k _ hk
     have a1:=hsn 0 k (by omega) hk
     have a2:=hsn k (n - 1) (by omega) (by omega)
     exact KeyOrd.kle_antisymm a2 (KeyOrd.kle_trans hrose a1)
    refine t_descPart hc (hp.rev _ _) hn (by omega) (fun i j hij hj => ?_) h
    rw [kk_rev_equal hsz hall,kk_rev_equal hsz hall]
    by_cases hjn:j < n
    ·rw [hall i (by omega) (by omega),hall j (by omega) hjn]; exact KeyOrd.kle_refl _
    ·have hj':j = n:=by omega
     subst hj'
     by_cases hi':i = j
     ·subst hi'; exact KeyOrd.kle_refl _
     ·rw [hall i (by omega) (by omega)]; exact KeyOrd.kle_of_klt hlt
  ·rw [if_neg hgt]
   have hn1':n = 1:=by omega
   subst hn1'
   refine t_descPart hc hp hn (by omega) (fun i j hij hj => ?_) h
   by_cases hi':i = j
   ·subst hi'; exact KeyOrd.kle_refl _
   ·have hi0:i = 0:=by omega
    have hj1:j = 1:=by omega
    subst hi0; subst hj1
    exact KeyOrd.kle_of_klt hlt
theorem t_place {p:Array Nat} {k:Nat} {Q:Nat -> Shared -> Prop} (hp:PB N p) (hk:k < N) (hs:Rises key p k):∀ (f l r:Nat),r - l <= f -> l <= r -> r <= k ->
  (∀ i,i < l -> O.kle (kk key p i) (kk key p k)) -> (∀ i,r <= i -> i < k -> O.klt (kk key p k) (kk key p i)) ->
  (∀ l,l <= k -> (∀ i,i < l -> O.kle (kk key p i) (kk key p k)) -> (∀ i,l <= i -> i < k -> O.klt (kk key p k) (kk key p i)) -> Q l s) -> (kas_place p k f l r).kasWp cmp Q s
 | 0,l,r,hf,hlr,hrk,hlo,hhi,h => by
  have:l = r:=by omega
  subst this
  exact h l hrk hlo hhi
 | f + 1,l,r,hf,hlr,hrk,hlo,hhi,h => by
  show (if l >= r then KasT.ret l else .ask (p.getD k 0) (p.getD ((l + r) / 2) 0) fun c => if c = true then kas_place p k f l ((l + r) / 2) else kas_place p k f ((l + r) / 2 + 1) r).kasWp cmp Q s
  by_cases hge:l >= r
  ·rw [if_pos hge]
   have:l = r:=by omega
   subst this
   exact h l hrk hlo hhi
  ·rw [if_neg hge]
   refine t_ask hc hp hk (by omega) ?_
   cases hless:O.blt (kk key p k) (kk key p ((l + r) / 2)) with
   | true =>
    rw [if_pos rfl]
    exact t_place hp hk hs f l ((l + r) / 2) (by omega) (by omega) (by omega) hlo (fun i a b => KeyOrd.klt_of_klt_of_kle hless (hs _ _ a b)) h
   | false =>
    rw [if_neg (by simp)]
    exact t_place hp hk hs f ((l + r) / 2 + 1) r (by omega) (by omega) (by omega) (fun i a => KeyOrd.kle_trans (hs i ((l + r) / 2) (by omega) (by omega)) (show O.kle _ _ from hless)) hhi h
theorem t_bin {Q:Array Nat -> Shared -> Prop}:∀ (f:Nat) (p:Array Nat) (k:Nat),k + f = N -> PB N p -> Rises key p k -> (∀ p',PB N p' -> Rises key p' N -> Q p' s) -> (kas_bin f p k).kasWp cmp Q s
 | 0,p,k,e,hp,hs,h => by
  have:k = N:=by omega
  subst this
  exact h p hp hs
 | f + 1,p,k,e,hp,hs,h => by
  show ((kas_place p k k 0 k).bind fun l => kas_bin f (bubble p k (k - l)) (k + 1)).kasWp cmp Q s
  rw [KasT.kasWp_bind]
  refine t_place hc hp (by omega) hs k 0 k (by omega) (by omega) (by omega) (fun i a => by omega) (fun i a b => by omega) fun l hl hlo hhi => ?_
  refine t_bin f _ (k + 1) (by omega) (hp.bub _ _) (fun i j hij hj => ?_) h
  have hks:k < p.size:=by rw [hp.size]; omega
  rw [kk_bubble hks (by omega),kk_bubble hks (by omega),show k - (k - l) = l by omega]
  repeat' split
  all_goals first
   | (exfalso; omega)
   | exact KeyOrd.kle_refl _
   | exact hlo _ (by omega)
   | exact KeyOrd.kle_of_klt (hhi _ (by omega) (by omega))
   | exact hs _ _ (by omega) (by omega)
theorem t_sort {Q:Array Nat -> Shared -> Prop} (h1:1 <= N) (h:∀ p,PB N p -> Rises key p N -> Q p s):(kas_sort N).kasWp cmp Q s:=by
 unfold kas_sort
 rw [KasT.kasWp_bind]
 refine t_count hc (Array.Perm.refl _) (Nat.le_refl _) h1 fun m p' hp' hm1 hm2 hs' => ?_
 dsimp only
 by_cases hlt:m < N
 ·rw [if_pos hlt,show max m 1 = m by omega]
  exact t_bin hc _ _ _ (by omega) hp' hs' h
 ·rw [if_neg hlt]
  have:m = N:=by omega
  subst this
  exact h p' hp' hs'
end
end L2.Srt
namespace L2.Srt
open PySem PyProof.Rows
theorem lex_irrefl:∀ a:List Int,HT.lexLt a a = false
 | [] => rfl
 | x :: r => by rw [HT.lexLt_cons,if_pos rfl]; exact lex_irrefl r
theorem lex_trans:∀ a b c:List Int,HT.lexLt a b = true -> HT.lexLt b c = true -> HT.lexLt a c = true
 | [],[],_,h,_ => by cases h
 | [],_ :: _,[],_,h => by cases h
 | [],_ :: _,_ :: _,_,_ => rfl
 | _ :: _,[],_,h,_ => by cases h
 | _ :: _,_ :: _,[],_,h => by cases h
 | x :: a,y :: b,z :: c,h1,h2 => by
  rw [HT.lexLt_cons] at h1 h2 ⊢
  by_cases e1:x = y
  ·rw [if_pos e1] at h1
   by_cases e2:y = z
   ·rw [if_pos e2] at h2
    rw [if_pos (e1.trans e2)]
    exact lex_trans a b c h1 h2
   ·rw [if_neg e2] at h2
    rw [if_neg (fun q => e2 (e1.symm.trans q)),e1]
    exact h2
  ·rw [if_neg e1] at h1
   have q1:=of_decide_eq_true h1
   by_cases e2:y = z
   ·rw [if_neg (fun q => e1 (q.trans e2.symm)),<- e2]
    exact h1
   ·rw [if_neg e2] at h2
    have q2:=of_decide_eq_true h2
    rw [if_neg (by omega)]
    exact decide_eq_true (by omega)
theorem lex_total:∀ a b:List Int,HT.lexLt a b = false -> HT.lexLt b a = false -> a = b
 | [],[],_,_ => rfl
 | [],_ :: _,h,_ => by cases h
 | _ :: _,[],_,h => by cases h
 | x :: a,y :: b,h1,h2 => by
  rw [HT.lexLt_cons] at h1 h2
  by_cases e:x = y
  ·rw [if_pos e] at h1
   rw [if_pos e.symm] at h2
   rw [e,lex_total a b h1 h2]
  ·rw [if_neg e] at h1
   rw [if_neg (fun q => e q.symm)] at h2
   have q1:=of_decide_eq_false h1
   have q2:=of_decide_eq_false h2
   omega
theorem lex_neg (a b c:List Int) (h:HT.lexLt a c = true):HT.lexLt a b = true \/ HT.lexLt b c = true:=by
 cases h1:HT.lexLt a b with
 | true => exact .inl rfl
 | false =>
  cases h2:HT.lexLt b a with
  | true => exact .inr (lex_trans b a c h2 h)
  | false => rw [lex_total a b h1 h2] at h; exact .inr h
noncomputable def lexOrd:KeyOrd:=⟨List Int,HT.lexLt,lex_irrefl,lex_trans,lex_neg,lex_total⟩
noncomputable def intOrd:KeyOrd:=⟨Int,fun a b => decide (a < b),fun a => decide_eq_false (by omega),fun a b c h1 h2 => decide_eq_true (by have:=of_decide_eq_true h1; have:=of_decide_eq_true h2; omega),
 fun a b c h => by
  have:=of_decide_eq_true h
  by_cases q:a < b
  ·exact .inl (decide_eq_true q)
  ·exact .inr (decide_eq_true (by omega)),
 fun a b h1 h2 => by have:=of_decide_eq_false h1; have:=of_decide_eq_false h2; omega⟩
section
variable (O:KeyOrd)
noncomputable def insO (x:O.α):List O.α -> List O.α
 | [] => [x]
 | y :: r => if O.blt y x then y :: insO x r else x :: y :: r
noncomputable def sortO:List O.α -> List O.α
 | [] => []
 | x :: r => insO O x (sortO r)
theorem insO_perm (x:O.α):∀ l,(insO O x l).Perm (x :: l)
 | [] => .refl _
 | y :: r => by
  show (if O.blt y x then y :: insO O x r else x :: y :: r).Perm _
  split
  ·exact (List.Perm.cons y (insO_perm x r)).trans (.swap x y r)
  ·exact .refl _
theorem sortO_perm:∀ l,(sortO O l).Perm l
 | [] => .refl _
 | x :: r => (insO_perm O x _).trans (.cons x (sortO_perm r))
theorem insO_rises (x:O.α):∀ l:List O.α,l.Pairwise O.kle -> (insO O x l).Pairwise O.kle
 | [],_ => List.pairwise_singleton _ _
 | y :: r,h => by
  show (if O.blt y x then y :: insO O x r else x :: y :: r).Pairwise O.kle
  obtain ⟨h1,h2⟩:=List.pairwise_cons.mp h
  by_cases q:O.blt y x = true
  ·rw [if_pos q]
   refine List.pairwise_cons.mpr ⟨fun z hz => ?_,insO_rises x r h2⟩
   rcases List.mem_cons.mp ((insO_perm O x r).mem_iff.mp hz) with e | e
   ·rw [e]; exact KeyOrd.kle_of_klt q
   ·exact h1 z e
  ·rw [if_neg q]
   have q':O.kle x y:=Bool.eq_false_iff.mpr q
   refine List.pairwise_cons.mpr ⟨fun z hz => ?_,h⟩
   rcases List.mem_cons.mp hz with e | e
   ·rw [e]; exact q'
   ·exact KeyOrd.kle_trans q' (h1 z e)
theorem sortO_rises:∀ l,(sortO O l).Pairwise O.kle
 | [] => List.Pairwise.nil
 | x :: r => insO_rises O x _ (sortO_rises r)
theorem rises_unique:∀ {a b:List O.α},a.Perm b -> a.Pairwise O.kle -> b.Pairwise O.kle -> a = b
 | [],b,p,_,_ => p.nil_eq
 | x :: a,[],p,_,_ => by have:=p.length_eq; simp at this
 | x :: a,y :: b,p,ha,hb => by
  obtain ⟨a1,a2⟩:=List.pairwise_cons.mp ha
  obtain ⟨b1,b2⟩:=List.pairwise_cons.mp hb
  have e:x = y:=by
   have hx:x ∈ y :: b:=p.mem_iff.mp (.head _)
   have hy:y ∈ x :: a:=p.mem_iff.mpr (.head _)
   rcases List.mem_cons.mp hx with q | q
   ·exact q
   ·rcases List.mem_cons.mp hy with q' | q'
    ·exact q'.symm
    ·exact KeyOrd.kle_antisymm (a1 y q') (b1 x q)
  subst e
  rw [rises_unique (p.cons_inv) a2 b2]
theorem eq_sortO {a l:List O.α} (p:a.Perm l) (h:a.Pairwise O.kle):a = sortO O l:=rises_unique O (p.trans (sortO_perm O l).symm) h (sortO_rises O l)
theorem sortO_of_perm {a b:List O.α} (p:a.Perm b):sortO O a = sortO O b:=eq_sortO O ((sortO_perm O a).trans p) (sortO_rises O a)
theorem sortO_id {a:List O.α} (h:a.Pairwise O.kle):sortO O a = a:=(eq_sortO O (.refl a) h).symm
end
theorem map_range {α:Type} (xs:List α) (d:α):(List.range xs.length).map (fun i => xs.getD i d) = xs:=by
 apply List.ext_getElem?
 intro i
 rw [List.getElem?_map]
 by_cases q:i < xs.length
 ·simp [List.getElem?_range,q]
 ·simp [List.getElem?_range,q]
theorem out_eq {O:KeyOrd} {d:O.α} {xs:List O.α} {p:Array Nat} (hp:PB xs.length p) (hr:Rises (fun i => xs.getD i d) p xs.length):p.toList.map (fun i => xs.getD i d) = sortO O xs:=by
 refine eq_sortO O ?_ ?_
 ·have h:=(Array.perm_iff_toList_perm.mp hp).map fun i => xs.getD i d
  have e:(List.map (fun i => xs.getD i d) (List.range xs.length).toArray.toList) = xs:=map_range xs d
  rw [e] at h
  exact h
 ·rw [List.pairwise_iff_getElem]
  intro i j hi hj hij
  rw [List.length_map,Array.length_toList] at hi hj
  have hz:=hp.size
  have q:=hr i j (Nat.le_of_lt hij) (by omega)
  simp only [List.getElem_map,Array.getElem_toList]
  have ei:p.getD i 0 = p[i]:=by simp [Array.getD,hi]
  have ej:p.getD j 0 = p[j]:=by simp [Array.getD,hj]
  unfold kk at q
  rw [ei,ej] at q
  exact q
end L2.Srt
namespace L2.Srt
open PySem PySem.W PySem.Calls PyProof.Rows
section
variable {prog:Program} {w:World} {A:Around} {E:Value -> Shared -> Prop} {s:Shared}
noncomputable def KOk (κ:SortKind):Prop:=κ = tuples' true \/ κ = general' \/ κ = oneType'
theorem list_sort_by {KO:SortKind -> Prop} {O:KeyOrd} {key:Nat -> O.α} {a:Addr} {vs:List Value} {n:Nat} {R:PySem.Fin -> Shared -> Prop} (ho:s.heap.get? a = some (seqObj "list" vs.toArray n)) (h64:vs.length < 64)
  (hk:2 <= vs.length -> ∀ (s':Shared) (Q:SortKind -> Shared -> Prop),(∀ b o,b ≠ a -> s.heap.get? b = some o -> s'.heap.get? b = some o) -> (∀ κ,KO κ -> Q κ s') -> wpAny (model prog w) A (keyKind' vs.toArray) Q (fun _ _ => False) s')
  (hc:∀ κ,KO κ -> ∀ (s':Shared) (i j:Nat) (C:Bool -> Shared -> Prop),(∀ b o,b ≠ a -> s.heap.get? b = some o -> s'.heap.get? b = some o) -> i < vs.length -> j < vs.length -> C (O.blt (key i) (key j)) s' ->
   wpAny (model prog w) A (keyLt' κ (vs.getD i Value.none) (vs.getD j Value.none)) C (fun _ _ => False) s')
  (h:∀ p:Array Nat,PB vs.length p -> Rises key p vs.length -> R (.done (.ret .none)) { s with heap:=sortedHeap s.heap a vs (p.toList.map fun i => vs.getD i Value.none).toArray }) :
  wpAny (model prog w) A (Builtin.«list.sort» ⟨[.ref a],[]⟩) R E s:=by
 rw [list_sort_plain]
 have ha:a < s.heap.objs.size:=Heap.lt_size ho
 refine wpAny_bind (listItems_at ho rfl ?_)
 refine wpAny_bind (listUpdate_at ho rfl ?_ (by rw [List.size_toArray,sizeLine_eq]; omega) (Nat.zero_le _))
 obtain ⟨e1,ho1⟩:∃ e1,(s.heap.update a (Obj.mapSeq fun _ => (#[]:Array Value))).get? a = some (seqObj "list" #[] e1):=⟨_,get?_update_seq ho fun _ => #[]⟩
 refine wpAny_bind (seqEpoch_at ho1 rfl ?_)
 refine wpAny_bind (wpAny_newTuple ?_ (by show vs.length <= _; rw [sizeLine_eq]; omega))
 refine wpAny_bind (wpAny_newList ?_ (Nat.zero_le _))
 refine wpAny_holding ?_
 have ho6:(((s.heap.update a (Obj.mapSeq fun _ => (#[]:Array Value))).push (seqObj "tuple" vs.toArray 0)).push (seqObj "list" #[] 0)).get? a = some (seqObj "list" #[] e1):=Heap.get?_push_of_some _ (Heap.get?_push_of_some _ ho1)
 have kp:∀ b o,b ≠ a -> s.heap.get? b = some o -> (((s.heap.update a (Obj.mapSeq fun _ => (#[]:Array Value))).push (seqObj "tuple" vs.toArray 0)).push (seqObj "list" #[] 0)).get? b = some o:=fun b o hb e =>
  Heap.get?_push_of_some _ (Heap.get?_push_of_some _ ((Heap.get?_update_other _ _ (Ne.symm hb)).trans e))
 show wpAny (model prog w) A _ R E { s with heap:=((s.heap.update a (Obj.mapSeq fun _ => (#[]:Array Value))).push (seqObj "tuple" vs.toArray 0)).push (seqObj "list" #[] 0) }
 dsimp only
 have hsz:vs.toArray.size = vs.length:=by simp
 by_cases h2:vs.toArray.size < 2
 ·rw [if_pos h2,if_pos h2]
  refine wpAny_bind (wpAny_pure ?_)
  rw [StateT.run_pure]
  refine wpAny_bind (wpAny_pure ?_)
  dsimp only
  refine wpAny_bind (seqEpoch_at ho6 rfl ?_)
  refine wpAny_bind (listUpdate_at ho6 rfl ?_ (Nat.zero_le _) (by rw [Array.size_map]; show (pairsOf vs).size <= _; rw [pairsOf_size,sizeLine_eq]; omega))
  simp only [bne_self_eq_false,Bool.false_eq_true,if_false]
  have e:((arrOf (SortSt.mk' general' (vs.toArray.zip vs.toArray) #[] 7 none)).map (·.2)) = ((List.range vs.length).toArray.toList.map fun i => vs.getD i Value.none).toArray:=by
   have e2:(arrOf (SortSt.mk' general' (vs.toArray.zip vs.toArray) #[] 7 none)) = vs.toArray.zip vs.toArray:=rfl
   rw [e2]
   apply Array.toList_inj.mp
   rw [map_range]
   simp [List.map_snd_zip]
  refine wpAny_pure ?_
  have q:=h (List.range vs.length).toArray (Array.Perm.refl _) (fun i j hij hj => by
   have:i = j:=by omega
   subst this; exact KeyOrd.kle_refl _)
  rw [<- e] at q
  exact q
 ·rw [if_neg h2,if_neg h2]
  have h2':2 <= vs.length:=by omega
  refine wpAny_bind (wpAny_mono (hk h2' _ (fun κ s0 => KO κ /\ s0 = { s with heap:=((s.heap.update a (Obj.mapSeq fun _ => (#[]:Array Value))).push (seqObj "tuple" vs.toArray 0)).push (seqObj "list" #[] 0) }) kp fun κ hκ => ⟨hκ,rfl⟩) (fun κ s0 hκ => ?_) fun _ _ x => x.elim)
  obtain ⟨hκ,rfl⟩:=hκ
  refine wpAny_bind (wpAny_mono (kat_run (Q:=fun st' s' => ∃ p:Array Nat,p.size = vs.length /\ arrOf st' = p.map (kas_item (vs.toArray.zip vs.toArray)) /\ failedOf st' = none /\ PB vs.length p /\ Rises key p vs.length /\ s' = { s with heap:=((s.heap.update a (Obj.mapSeq fun _ => (#[]:Array Value))).push (seqObj "tuple" vs.toArray 0)).push (seqObj "list" #[] 0) })
   (G:=fun p s' => PB vs.length p /\ Rises key p vs.length /\ s' = { s with heap:=((s.heap.update a (Obj.mapSeq fun _ => (#[]:Array Value))).push (seqObj "tuple" vs.toArray 0)).push (seqObj "list" #[] 0) })
   rfl h2' h64 (fun p' st' s' a1 a2 a3 a4 => ⟨p',a1,a2,a3,a4⟩)
   (t_sort (key:=key) (fun i j C hi hj q => hc κ hκ _ i j C kp hi hj q) (by omega) fun p hp hr => ⟨hp,hr,rfl⟩)) ?_ fun _ _ e => e)
  rintro ⟨⟨⟩,st'⟩ s' ⟨p,hp,har,hf,hpb,hrs,rfl⟩
  dsimp only
  have hout:=kat_snds rfl har
  refine wpAny_bind (seqEpoch_at ho6 rfl ?_)
  refine wpAny_bind (listUpdate_at ho6 rfl ?_ (Nat.zero_le _) (by rw [hout]; refine Nat.le_trans (Nat.le_of_eq ?_) (show vs.length <= _ by rw [sizeLine_eq]; omega); simp [hp]))
  rw [hf,hout]
  simp only [bne_self_eq_false,Bool.false_eq_true,if_false]
  exact wpAny_pure (h p hpb hrs)
theorem katlex_ints {fin:Bool} {C:Bool -> Shared -> Prop}:∀ {vs ws:List Value} {ns ms:List Int} (i:Nat),IntsAre vs ns -> IntsAre ws ms -> fin = decide (ns.length < ms.length) -> C (HT.lexLt ns ms) s -> KatLex prog w A true fin C (vs.zip ws) i s
 | _,_,_,_,i,.nil,.nil,hf,h => by
  rw [List.zip_nil_left]
  refine kat_nil ?_
  rw [hf]
  exact h
 | _,_,_,_,i,.nil,.cons c u hw,hf,h => by
  rw [List.zip_nil_left]
  refine kat_nil ?_
  rw [hf,decide_eq_true (by simp)]
  exact h
 | _,_,_,_,i,.cons a t hv,.nil,hf,h => by
  rw [List.zip_nil_right]
  refine kat_nil ?_
  rw [hf,decide_eq_false (by simp)]
  exact h
 | _,_,_,_,i,.cons (ns:=ns) a t hv,.cons (ns:=ms) c u hw,hf,h => by
  rw [List.zip_cons_cons]
  rw [HT.lexLt_cons] at h
  refine kat_cons (wpAny_eqBool_int ?_)
  by_cases e:a = c
  ·rw [if_pos e] at h
   have q:(a == c) = true:=by rw [e]; exact beq_self_eq_true c
   rw [q]
   refine kat_yes (katlex_ints (i + 1) hv hw ?_ h)
   rw [hf]
   simp
  ·rw [if_neg e] at h
   have q:(a == c) = false:=beq_eq_false_iff_ne.mpr e
   rw [q]
   refine kat_no ?_
   cases i with
   | zero => exact oneLt_int h
   | succ i => exact kat_one _ _ (lt_int h)
theorem lt_tups {κ:SortKind} (hk:KOk κ) {a b:Addr} {its its2:Array Value} {ns ms:List Int} {C:Bool -> Shared -> Prop} (ha:IsTup s.heap a its) (hb:IsTup s.heap b its2) (hi:IntsAre its.toList ns) (hj:IntsAre its2.toList ms)
  (hu:A.units < cLine) (h:C (HT.lexLt ns ms) s):wpAny (model prog w) A (keyLt' κ (.ref a) (.ref b)) C E s:=by
 rcases hk with rfl | rfl | rfl
 ·obtain ⟨o,ho,_,n,hd⟩:=id ha
  obtain ⟨o2,ho2,_,n2,hd2⟩:=id hb
  refine kat_lt ho hd ho2 hd2 (katlex_ints 0 hi hj ?_ h)
  have z1:its.size = ns.length:=by rw [<- hi.length]; simp
  have z2:its2.size = ms.length:=by rw [<- hj.length]; simp
  rw [z1,z2]
 ·show wpAny _ _ (oneLt' false (.ref a) (.ref b)) _ _ _
  exact kat_one _ _ (HT.lt_tupInts ha hb hi hj hu h)
 ·rw [keyLt'_oneType,oneLt'_eq]
  simp only [if_true]
  refine wpAny_bind (wpAny_cRoomFor hu ?_)
  obtain ⟨⟨cls,dd,data,sl⟩,ho,hc,n,hd⟩:=id ha
  obtain ⟨⟨cls2,dd2,data2,sl2⟩,ho2,hc2,n2,hd2⟩:=id hb
  simp only at hc hd hc2 hd2
  subst hc hd hc2 hd2
  refine wpAny_bind (wpAny_callSpecialIfBound?_slot (T:="tuple") ⟨_,ho,rfl⟩ PySem.F.slot_tuple_lt (call_meets PySem.F.slot_tuple_lt (T:="tuple") ⟨_,ho,rfl⟩ PySem.F.entry_tuple_lt (PySem.F.args_tuple_lt_2 _ _) (HT.tuple_lt_ints a b its its2 n n2 dd dd2 sl sl2 ns ms hi hj) ⟨ho,ho2,?_⟩))
  exact wpAny_truthy_bool h
theorem firsts_tups:∀ (vs:List Value) {Q:List (Option Value) -> Shared -> Prop},(∀ v ∈ vs,∃ a its ns,v = .ref a /\ IsTup s.heap a its /\ IntsAre its.toList ns) ->
  (∀ fs:List (Option Value),fs.length = vs.length -> (∀ f ∈ fs,∀ v,f = some v -> ∃ n t,v = Value.int n t) -> Q fs s) -> wpAny (model prog w) A (vs.mapM firstOfTuple') Q E s
 | [],Q,_,h => by rw [List.mapM_nil]; exact wpAny_pure (h [] rfl (by simp))
 | v :: vs,Q,hv,h => by
  obtain ⟨a,its,ns,rfl,⟨o,ho,hc,n,hd⟩,hi⟩:=hv v (.head _)
  rw [List.mapM_cons]
  refine wpAny_bind ?_
  rw [kas_first_eq]
  refine wpAny_bind (Looks.here (show Looks (model prog w) s.heap (typeOf (.ref a)) o.cls from (Looks.ld ho).andThen .now) ?_)
  rw [hc,if_neg (by first | decide | simp)]
  refine wpAny_bind (listItems_at ho hd (wpAny_pure ?_))
  refine wpAny_bind (firsts_tups vs (Q:=fun bs s' => wpAny (model prog w) A (pure (its[0]? :: bs)) Q E s') (fun u hu => hv u (.tail _ hu)) fun fs hl hf => ?_)
  refine wpAny_pure (h _ (by simp [hl]) fun f hm u e => ?_)
  rcases List.mem_cons.mp hm with z | z
  ·rw [z] at e
   have hmem:u ∈ its.toList:=by
    rw [<- Array.getElem?_toList] at e
    exact List.mem_of_getElem? e
   exact hi.all u hmem
  ·exact hf f z u e
theorem kind_tups {vs:List Value} {Q:SortKind -> Shared -> Prop} (h2:2 <= vs.length) (hv:∀ v ∈ vs,∃ a its ns,v = .ref a /\ IsTup s.heap a its /\ IntsAre its.toList ns) (h:∀ κ,KOk κ -> Q κ s) :
  wpAny (model prog w) A (keyKind' vs.toArray) Q E s:=by
 rw [kat_kind_eq,List.mapM_toArray,map_eq_pure_bind]
 refine wpAny_bind (wpAny_bind (firsts_tups vs hv fun fs hl hf => wpAny_pure ?_))
 by_cases hall:(fs.toArray.all fun x => x.isSome) = true
 ·rw [if_pos hall]
  refine wpAny_bind (wpAny_rule ?_)
  have hfm:(fs.toArray.filterMap id) = (fs.filterMap id).toArray:=by simp
  rw [hfm,oneTypeOnly'_eq,List.mapM_toArray,map_eq_pure_bind]
  have hints:∀ v ∈ fs.filterMap id,∃ n t,v = Value.int n t:=fun v hm => by
   obtain ⟨f,hm',e⟩:=List.mem_filterMap.mp hm
   exact hf f hm' v e
  have hne:0 < (fs.filterMap id).length:=by
   match fs,hl,hall with
   | [],hl,_ => simp at hl; omega
   | f :: r,_,hall =>
    have:f.isSome = true:=by simp at hall; exact hall.1
    obtain ⟨u,rfl⟩:=Option.isSome_iff_exists.mp this
    simp
  refine wpAny_bind (wpAny_bind (wpAny_bind (kas_mapM (r:=Value.type "int") _ (fun v hm Q' hq => ?_) (wpAny_pure ?_))))
  ·obtain ⟨n,t,rfl⟩:=hints v hm
   exact wpAny_pure hq
  ·have h0:(List.map (fun _ => Value.type "int") (fs.filterMap id)).toArray[0]? = some (Value.type "int"):=by
    simp [hne]
   rw [h0]
   have hall2:((List.map (fun _ => Value.type "int") (fs.filterMap id)).toArray.all fun x => x == Value.type "int") = true:=by
    simp only [List.all_toArray,List.all_map,List.all_eq_true]
    intro _ _
    rfl
   simp only [hall2,if_true]
   exact wpAny_pure (wpAny_pure (h _ (.inl rfl)))
 ·rw [if_neg hall]
  by_cases hf0:((fs.toArray[0]?).bind id).isSome = true
  ·rw [if_pos hf0]
   exact wpAny_pure (h _ (.inr (.inl rfl)))
  ·rw [if_neg hf0]
   rw [oneTypeOnly'_eq,List.mapM_toArray,map_eq_pure_bind]
   refine wpAny_bind (wpAny_bind (wpAny_bind (kas_mapM (r:=Value.type "tuple") _ (fun v hm Q' hq => ?_) (wpAny_pure ?_))))
   ·obtain ⟨a,its,ns,rfl,⟨o,ho,hc,n,hd⟩,hi⟩:=hv v hm
    have q:Looks (model prog w) s.heap (typeOf (.ref a)) o.cls:=(Looks.ld ho).andThen .now
    rw [hc] at q
    exact q.here hq
   ·have h0:(List.map (fun _ => Value.type "tuple") vs).toArray[0]? = some (Value.type "tuple"):=by
     have:0 < vs.length:=by omega
     simp [this]
    rw [h0]
    have hall2:((List.map (fun _ => Value.type "tuple") vs).toArray.all fun x => x == Value.type "tuple") = true:=by
     simp only [List.all_toArray,List.all_map,List.all_eq_true]
     intro _ _
     rfl
    simp only [hall2,if_true]
    exact wpAny_pure (wpAny_pure (h _ (.inr (.inr rfl))))
end
end L2.Srt
namespace L2.St
open PySem PyProof.Rows
section
variable {P:Program} {w:World} {A:Around} {E:Value -> Shared -> Prop} {s:Shared}
theorem stop_here {v:Value} {vs:Array Value} {it:Addr} {Q:Option Value -> Shared -> Prop} (hh:A.handled = none) {R:Value -> Shared -> Prop}
  (hR:∀ e s',(∀ b o,s.heap.get? b = some o -> s'.heap.get? b = some o) -> (∃ h',s' = { s with heap:=h' }) -> s'.TypeIs e "StopIteration" -> R e s') {QQ:PySem.Fin -> Shared -> Prop} :
  wpAny (model P w) A (newExc (.type "StopIteration") [] >>= fun e => (raiseNew e:Sem PySem.Fin)) QQ R s:=by
 refine wpAny_bind ?_
 simp only [newExc,newTuple]
 refine wpAny_bind (wpAny_newObj_type ?_ (by size_fits))
 refine wpAny_bind (m:=firstArgMember _ _) (wpAny_of_eq (a:=Value.none) (by first | rfl | (simp only [firstArgMember]; rfl)) ?_)
 refine wpAny_newObj_type ?_ (by size_fits)
 simp only [raiseNew]
 refine wpAny_bind (wpAny_handled ?_)
 rw [hh]
 refine wpAny_bind (wpAny_pure (wpAny_throw ?_))
 exact hR _ _ (fun b o e => Heap.get?_push_of_some _ (Heap.get?_push_of_some _ e)) ⟨_,rfl⟩ ⟨_,Heap.get?_push_size _ rfl,rfl⟩
end
end L2.St
namespace L2
open PySem PySem.Spec PyProof.Rows
noncomputable def relS (scope osc:Scope):Scope :=
 { scope with names:=scope.names.map fun (n,k) => if (k == .free && osc.kind == .function && osc.names.lookup n == some .cell) then (n,.cell) else (n,k) }
noncomputable def relK (osc:Scope) (n:Str) (k:NameKind):NameKind:=if (k == .free && osc.kind == .function && osc.names.lookup n == some .cell) then .cell else k
theorem relS_names (scope osc:Scope):(relS scope osc).names = scope.names.map fun q => (q.1,relK osc q.1 q.2):=by
 show List.map _ scope.names = _
 refine List.map_congr_left fun q _ => ?_
 obtain ⟨n,k⟩:=q
 show (if (k == NameKind.free && osc.kind == .function && osc.names.lookup n == some .cell) = true then (n,NameKind.cell) else (n,k)) = (n,relK osc n k)
 unfold relK
 split <;> rfl
theorem lookup_mapG {α β:Type} (g:Str -> α -> β) (y:Str):∀ names:List (Str × α),(names.map fun q => (q.1,g q.1 q.2)).lookup y = (names.lookup y).map (g y)
 | [] => rfl
 | (n,k) :: r => by
  rw [List.map_cons]
  cases hx:y == n with
  | true =>
   simp only [List.lookup_cons,hx,Option.map_some]
   rw [eq_of_beq hx]
  | false =>
   simp only [List.lookup_cons,hx]
   exact lookup_mapG g y r
theorem relK_free (osc:Scope) (n:Str):relK osc n .free = .cell \/ relK osc n .free = .free:=by
 unfold relK
 split
 ·exact .inl rfl
 ·exact .inr rfl
theorem relK_back {osc:Scope} {n:Str} {k:NameKind} (hk:k ≠ .cell) (h:relK osc n k = .cell \/ relK osc n k = .free):k = .free:=by
 unfold relK at h
 by_cases hc:(k == NameKind.free && osc.kind == .function && osc.names.lookup n == some .cell) = true
 ·simp only [Bool.and_eq_true] at hc
  exact eq_of_beq hc.1.1
 ·rw [if_neg hc] at h
  rcases h with h | h
  ·exact absurd h hk
  ·exact h
theorem lookup_mem {α:Type} {y:Str} {k:α}:∀ {l:List (Str × α)},l.lookup y = some k -> (y,k) ∈ l
 | [],h => by simp at h
 | (n,k') :: r,h => by
  cases hx:y == n with
  | true =>
   simp only [List.lookup_cons,hx] at h
   rw [eq_of_beq hx,Option.some.inj h]; exact .head _
  | false =>
   simp only [List.lookup_cons,hx] at h
   exact .tail _ (lookup_mem h)
theorem relS_free {scope osc:Scope} {y:Str} (h:scope.names.lookup y = some .free):(relS scope osc).names.lookup y = some .cell \/ (relS scope osc).names.lookup y = some .free:=by
 rw [relS_names,lookup_mapG,h,Option.map_some]
 rcases relK_free osc y with e | e
 ·exact .inl (by rw [e])
 ·exact .inr (by rw [e])
theorem relS_back {scope osc:Scope} {x y:Str} (hn:∀ z ∈ scope.names,z.2 = .cell -> z.1 = x) (h:(relS scope osc).names.lookup y = some .cell \/ (relS scope osc).names.lookup y = some .free):(y,NameKind.free) ∈ scope.names \/ (y = x /\ scope.names.lookup x = some .cell):=by
 rw [relS_names,lookup_mapG] at h
 cases e:scope.names.lookup y with
 | none => rw [e] at h; rcases h with h | h <;> cases h
 | some k =>
  rw [e,Option.map_some] at h
  have hm:=lookup_mem e
  by_cases hc:k = .cell
  ·subst hc
   have q:y = x:=hn _ hm rfl
   exact .inr ⟨q,by rw [<- q]; exact e⟩
  ·have hk:k = .free:=relK_back hc (h.elim (fun z => .inl (Option.some.inj z)) fun z => .inr (Option.some.inj z))
   rw [hk] at hm
   exact .inl hm
theorem relS_cell {scope osc:Scope} {y:Str} (h:scope.names.lookup y = some .cell):(relS scope osc).names.lookup y = some .cell:=by
 rw [relS_names,lookup_mapG,h,Option.map_some]
 unfold relK
 split
 ·rfl
 ·rfl
noncomputable def clOf (env:Env):List (Str × NameKind) -> List (Str × Addr) -> List (Str × Addr)
 | [],acc => acc
 | (n,k) :: r,acc => if k == .free then clOf env r ((n,(env.cells.lookup n).getD 0) :: acc) else clOf env r acc
theorem clOf_pure {env:Env}:∀ (names:List (Str × NameKind)) (acc:List (Str × Addr)),(∀ y ∈ names,y.2 = .free -> ∃ c,env.cells.lookup y.1 = some c) ->
  (forIn names acc fun x r => (match x with | (name,kind) => if (kind == NameKind.free) = true then do let c <- cellOf env name; pure (ForInStep.yield ((name,c) :: r)) else pure (ForInStep.yield r)):Sem (List (Str × Addr))) = pure (clOf env names acc)
 | [],acc,_ => rfl
 | (n,k) :: r,acc,h => by
  rw [List.forIn_cons]
  have hr:∀ y ∈ r,y.2 = .free -> ∃ c,env.cells.lookup y.1 = some c:=fun y hy => h y (.tail _ hy)
  by_cases hk:(k == NameKind.free) = true
  ·obtain ⟨c,hc⟩:=h (n,k) (.head _) (eq_of_beq hk)
   dsimp only
   rw [if_pos hk]
   have e1:cellOf env n = pure c:=by unfold cellOf; rw [hc]
   rw [e1]
   simp only [pure_bind]
   rw [clOf_pure r _ hr]
   show _ = pure (if (k == NameKind.free) = true then _ else _)
   rw [if_pos hk,hc]
   all_goals rfl
  ·dsimp only
   rw [if_neg hk]
   simp only [pure_bind]
   rw [clOf_pure r _ hr]
   show _ = pure (if (k == NameKind.free) = true then _ else _)
   rw [if_neg hk]
theorem closure_is {scope:Scope} {env:Env} (h:∀ y ∈ scope.names,y.2 = .free -> ∃ c,env.cells.lookup y.1 = some c):closureFor scope env = pure (clOf env scope.names []):=by
 unfold closureFor
 have:=clOf_pure (env:=env) scope.names [] h
 first
  | exact this
  | (rw [bind_pure]; exact this)
  | simpa using this
theorem clOf_sub {env:Env} {y:Str} {c:Addr}:∀ (names:List (Str × NameKind)) (acc:List (Str × Addr)),(∀ z ∈ names,z.2 = .free -> ∃ c,env.cells.lookup z.1 = some c) -> (∀ c,acc.lookup y = some c -> env.cells.lookup y = some c) ->
  (clOf env names acc).lookup y = some c -> env.cells.lookup y = some c
 | [],acc,_,ha,e => ha c e
 | (n,k) :: r,acc,h,ha,e => by
  have hr:∀ y ∈ r,y.2 = .free -> ∃ c,env.cells.lookup y.1 = some c:=fun y hy => h y (.tail _ hy)
  have e':(if (k == NameKind.free) = true then clOf env r ((n,(env.cells.lookup n).getD 0) :: acc) else clOf env r acc).lookup y = some c:=e
  by_cases hk:(k == NameKind.free) = true
  ·rw [if_pos hk] at e'
   refine clOf_sub r _ hr (fun c' q => ?_) e'
   cases hx:y == n with
   | true =>
    simp only [List.lookup_cons,hx] at q
    obtain ⟨c0,hc0⟩:=h (n,k) (.head _) (eq_of_beq hk)
    have en:y = n:=eq_of_beq hx
    have hc1:env.cells.lookup n = some c0:=hc0
    rw [hc1] at q
    rw [en,hc1]
    exact q
   | false =>
    simp only [List.lookup_cons,hx] at q
    exact ha c' q
  ·rw [if_neg hk] at e'
   exact clOf_sub r _ hr ha e'
theorem clOf_has {env:Env} {y:Str}:∀ (names:List (Str × NameKind)) (acc:List (Str × Addr)),((y,NameKind.free) ∈ names \/ ∃ c,acc.lookup y = some c) -> ∃ c,(clOf env names acc).lookup y = some c
 | [],acc,h => by
  rcases h with h | h
  ·simp at h
  ·exact h
 | (n,k) :: r,acc,h => by
  show ∃ c,(if (k == NameKind.free) = true then clOf env r ((n,(env.cells.lookup n).getD 0) :: acc) else clOf env r acc).lookup y = some c
  by_cases hk:(k == NameKind.free) = true
  ·rw [if_pos hk]
   refine clOf_has r _ ?_
   cases hx:y == n with
   | true => exact .inr ⟨(env.cells.lookup n).getD 0,by simp only [List.lookup_cons,hx]⟩
   | false =>
    rcases h with h | ⟨c,h⟩
    ·rcases List.mem_cons.mp h with z | z
     ·have:y = n:=(Prod.mk.inj z).1
      rw [this] at hx
      simp at hx
     ·exact .inl z
    ·exact .inr ⟨c,by simp only [List.lookup_cons,hx]; exact h⟩
  ·rw [if_neg hk]
   refine clOf_has r _ ?_
   rcases h with h | h
   ·rcases List.mem_cons.mp h with z | z
    ·have:NameKind.free = k:=(Prod.mk.inj z).2
     rw [<- this] at hk
     simp at hk
    ·exact .inl z
   ·exact .inr h
structure CompSc (osc:Scope) (N:List Str) (scope:Scope) (x:Str) (fvs:List Str) (js:List Nat):Prop where
 cells:∀ y ∈ scope.names,y.2 = .cell -> y.1 = x
 once:scope.names.lookup x = some .local /\ (scope.names.filter fun y => y.2 == .cell) = [] \/ scope.names.lookup x = some .cell /\ (scope.names.filter fun y => y.2 == .cell) = [(x,.cell)]
 xf:∀ y ∈ scope.names,y.2 = .free -> y.1 ≠ x
 kind:scope.kind = .function
 names:∀ y ∈ scope.names,y.2 = .local -> scope.names.lookup y.1 = some .local
 nd:(x :: fvs).Nodup
 out:∀ y ∈ scope.names,y.2 = .free -> osc.names.lookup y.1 = some .cell \/ osc.names.lookup y.1 = some .free
 slots:(js.map fun j => N[j]?) = fvs.map some
 free:∀ y ∈ fvs,scope.names.lookup y = some .free
structure CompScG (osc:Scope) (N:List Str) (scope:Scope) (x:Str) (ys fvs:List Str) (js:List Nat):Prop where
 cells:∀ y ∈ scope.names,y.2 = .cell -> y.1 = x
 once:scope.names.lookup x = some .local /\ (scope.names.filter fun y => y.2 == .cell) = [] \/ scope.names.lookup x = some .cell /\ (scope.names.filter fun y => y.2 == .cell) = [(x,.cell)]
 xf:∀ y ∈ scope.names,y.2 = .free -> y.1 ≠ x
 kind:scope.kind = .function
 names:∀ y ∈ scope.names,y.2 = .local -> scope.names.lookup y.1 = some .local
 nd:(x :: (ys ++ fvs)).Nodup
 out:∀ y ∈ scope.names,y.2 = .free -> osc.names.lookup y.1 = some .cell \/ osc.names.lookup y.1 = some .free
 slots:(js.map fun j => N[j]?) = fvs.map some
 free:∀ y ∈ fvs,scope.names.lookup y = some .free
theorem CompSc.g {osc:Scope} {N:List Str} {scope:Scope} {x:Str} {fvs:List Str} {js:List Nat} (h:CompSc osc N scope x fvs js):CompScG osc N scope x [] fvs js:=⟨h.cells,h.once,h.xf,h.kind,h.names,h.nd,h.out,h.slots,h.free⟩
noncomputable def ownC (scope:Scope) (x:Str) (C:Addr):List (Str × Addr):=if scope.names.lookup x = some .cell then [(x,C + 1)] else []
noncomputable def Cx.blk (X:Cx) (x:Str) (fvs:List Str) (scope:Scope) (s₁:Shared) (H₁:Hp) (C:Addr) (fp:List Addr):Cx :=
 { X with N:=x :: fvs,s₀:=s₁,H₀:=H₁,env:=compEnvC scope (ownC scope x C ++ clOf X.env scope.names []) C X.env,outer:=X.stack,ex:=fp,fn:=fun y => decide (y = x /\ scope.names.lookup x = some .cell),pn:=[],xe:=fun _ _ => False }
theorem cells_none {M:Model} {A:Around} {E:Value -> Shared -> Prop}:∀ {names:List (Str × NameKind)} {acc:List (Str × Addr)} {s:Shared} {Q:List (Str × Addr) -> Shared -> Prop},(names.filter fun y => y.2 == .cell) = [] -> Q acc s ->
  wpAny M A (forIn names acc fun x r => (match x with | (name,kind) => if (kind == NameKind.cell) = true then do let c <- alloc { cls:=.type "cell",data:=.cell none }; pure (ForInStep.yield ((name,c) :: r)) else pure (ForInStep.yield r)):Sem (List (Str × Addr))) Q E s
 | [],_,_,_,_,h => wpAny_pure h
 | (n,k) :: r,acc,s,Q,hf,h => by
  rw [List.forIn_cons]
  have hk:(k == NameKind.cell) = false:=by
   cases q:(k == NameKind.cell) with
   | false => rfl
   | true => rw [List.filter_cons_of_pos (by exact q)] at hf; cases hf
  rw [List.filter_cons_of_neg (by rw [hk]; decide)] at hf
  dsimp only
  rw [if_neg (by rw [hk]; decide)]
  exact wpAny_bind (wpAny_pure (cells_none hf h))
theorem cells_one {M:Model} {A:Around} {E:Value -> Shared -> Prop} {x:Str}:∀ {names:List (Str × NameKind)} {acc:List (Str × Addr)} {s:Shared} {Q:List (Str × Addr) -> Shared -> Prop},(names.filter fun y => y.2 == .cell) = [(x,.cell)] ->
  Q ((x,s.heap.objs.size) :: acc) { s with heap:=s.heap.push { cls:=.type "cell",data:=.cell none } } ->
  wpAny M A (forIn names acc fun x r => (match x with | (name,kind) => if (kind == NameKind.cell) = true then do let c <- alloc { cls:=.type "cell",data:=.cell none }; pure (ForInStep.yield ((name,c) :: r)) else pure (ForInStep.yield r)):Sem (List (Str × Addr))) Q E s
 | [],_,_,_,hf,_ => by cases hf
 | (n,k) :: r,acc,s,Q,hf,h => by
  rw [List.forIn_cons]
  dsimp only
  cases hk:(k == NameKind.cell) with
  | false =>
   rw [List.filter_cons_of_neg (by rw [hk]; decide)] at hf
   rw [if_neg (by decide)]
   exact wpAny_bind (wpAny_pure (cells_one hf h))
  | true =>
   rw [List.filter_cons_of_pos (by exact hk)] at hf
   obtain ⟨e1,e2⟩:=List.cons.inj hf
   cases e1
   rw [if_pos rfl]
   exact wpAny_bind (wpAny_bind (wpAny_alloc (wpAny_pure (cells_none e2 h))))
theorem newEnv_blk {M:Model} {A:Around} {E:Value -> Shared -> Prop} {scope:Scope} {x:Str} {globals:Addr} {cl:List (Str × Addr)} {qual:Str} {env:Env} {s:Shared} {Q:Env -> Shared -> Prop} (hk:scope.kind = .function)
  (ho:scope.names.lookup x = some .local /\ (scope.names.filter fun y => y.2 == .cell) = [] \/ scope.names.lookup x = some .cell /\ (scope.names.filter fun y => y.2 == .cell) = [(x,.cell)])
  (h:∀ h' m,h'.Ns s.heap.objs.size m -> (∀ b u,s.heap.get? b = some u -> h'.get? b = some u) -> (scope.names.lookup x = some .cell -> h'.IsCell (s.heap.objs.size + 1) none) -> Q (newEnv scope s.heap.objs.size globals (ownC scope x s.heap.objs.size ++ cl) qual none .none (some env) builtinsNs) { s with heap:=h' }) :
  wpAny M A (newFunctionEnv scope globals cl [] qual none .none (some env)) Q E s:=by
 rcases ho with ⟨h1,h2⟩ | ⟨h1,h2⟩
 ·refine wpAny_newFunctionEnv (fun y hy z => ?_) (by intro y hy; simp at hy) (fun h' hns hsb => ?_) hk
  ·have:y ∈ scope.names.filter fun y => y.2 == .cell:=List.mem_filter.mpr ⟨hy,by rw [z]; rfl⟩
   rw [h2] at this
   cases this
  ·have q:=h h' _ hns (fun b u e => hsb.extBut b u (Nat.ne_of_lt (Heap.lt_size e)) (Heap.get?_push_of_some _ e)) fun z => by rw [h1] at z; cases z
   unfold ownC at q
   rw [if_neg (by rw [h1]; simp)] at q
   exact q
 ·unfold newFunctionEnv
  refine wpAny_bind (wpAny_alloc (wpAny_bind (cells_one h2 ?_)))
  have hn:=Heap.Ns.new s.heap (.type "dict")
  have hs:(s.heap.push { cls:=.type "dict",data:=.dict #[] }).objs.size = s.heap.objs.size + 1:=Heap.size_push _ _
  have q:=h ((s.heap.push { cls:=.type "dict",data:=.dict #[] }).push { cls:=.type "cell",data:=.cell none }) _ (hn.keeps fun b o e => Heap.get?_push_of_some _ e) (fun b u e => Heap.get?_push_of_some _ (Heap.get?_push_of_some _ e)) fun _ => ⟨_,by rw [<- hs]; exact Heap.get?_push_size _ rfl,rfl⟩
  unfold ownC at q
  rw [if_pos h1] at q
  rw [<- hs] at q
  exact wpAny_bind (wpAny_pure (wpAny_pure q))
noncomputable def blk0 (js:List Nat) (σ:St):St:=none :: js.map fun j => (σ[j]?).join
noncomputable def blkG (n:Nat) (js:List Nat) (σ:St):St:=none :: (List.replicate n none ++ js.map fun j => (σ[j]?).join)
noncomputable def PF (X:Cx) (ifs:List Expr) (t:TT):Prop :=
 ∀ (pins:List (Addr × Obj)) (s:Shared) (σ:St) (H:Hp) (Q:Bool -> Hp -> Prop),Inv X pins σ H s -> t σ H Q ->
  wpAny (model X.prog X.w) X.A (forIn ifs true fun c r => if r = true then do let ok <- isTrue c X.env (eval c X.env); pure (ForInStep.yield ok) else pure (ForInStep.yield r)) (TP X pins σ Q) X.xe s
noncomputable def tYes:TT:=fun _ H Q => Q true H
theorem pf_nil {X:Cx}:PF X [] tYes:=fun _ _ _ H _ I h => wpAny_tests_nil ⟨H,I,h⟩
theorem pf_one {X:Cx} {c:Expr} {t:TT} (h:PT X c t):PF X [c] t:=fun pins s σ H Q I q => wpAny_tests_one (h pins s σ H Q I q)
section
variable {prog:Program} {w:World} {A:Around} {R:Result -> Shared -> Prop} {s:Shared}
theorem comp_loop {elt target iter:Expr} {ifs:List Expr} {scope:Scope} {pos:Pos} {it acc:Value} {env:Env} (J:Nat -> Shared -> Prop)
  (turn:∀ n s,J n s -> wpAny (model prog w) A (pyNext it) (fun r s1 => match r with
   | none => R (.ok .next) s1
   | some v => wpAny (model prog w) A (letOwnedTupleGo target it v) (fun _ s2 => wpAny (model prog w) A (assign target env v) (fun _ s3 =>
     wpAny (model prog w) A (forIn ifs true fun c r => if r = true then do let ok <- isTrue c env (eval c env); pure (ForInStep.yield ok) else pure (ForInStep.yield r)) (fun ok s4 =>
      if ok = true then wpAny (model prog w) A (eval elt env) (fun x s5 =>
       wpAny (model prog w) A (call (.builtin "list.append") [acc,x]) (fun _ s6 => ∃ m,m < n /\ J m s6) (fun _ _ => False) s5) (fun _ _ => False) s4
      else ∃ m,m < n /\ J m s4) (fun _ _ => False) s3) (fun _ _ => False) s2) (fun _ _ => False) s1) (fun _ _ => False) s)
  (n:Nat) (h:J n s):codeAny (model prog w) A (.compLoop (.ListComp elt [⟨target,iter,ifs,0⟩] scope pos) 0 it acc env) R s:=by
 have up:∀ {α:Type} {t:Sem α} {Q:α -> Shared -> Prop} {E:Value -> Shared -> Prop} {s:Shared},wpAny (model prog w) A t Q (fun _ _ => False) s -> wpAny (model prog w) A t Q E s:=fun q => wpAny_mono q (fun _ _ z => z) fun _ _ z => z.elim
 refine codeAny_loop rfl J (fun n s hJ => ?_) n h
 show wpAny _ A ((compTurn (.ListComp elt [⟨target,iter,ifs,0⟩] scope pos) 0 it acc env).onRaise (fun x => do noteFrame x env; theTreesLotGoes x)) _ _ s
 refine wpAny_noted ?_
 rw [compTurn_list]
 refine wpAny_bind (wpAny_standAt (wpAny_bind (wpAny_mono (up (turn n s hJ)) (fun r s1 h1 => ?_) fun _ _ z => z)))
 cases r with
 | none => exact wpAny_pure h1
 | some v =>
  refine wpAny_bind (wpAny_mono (up h1) (fun _ s2 h2 => ?_) fun _ _ z => z)
  refine wpAny_bind (wpAny_mono (up h2) (fun _ s3 h3 => wpAny_bind (wpAny_mono (up h3) (fun ok s4 h4 => ?_) fun _ _ z => z)) fun _ _ z => z)
  cases ok with
  | false => exact wpAny_pure ⟨rfl,h4⟩
  | true => exact wpAny_bind (wpAny_bind (wpAny_mono (up h4) (fun x s5 h5 => wpAny_bind (wpAny_mono (up h5) (fun _ s6 h6 => wpAny_pure (wpAny_pure ⟨rfl,h6⟩)) fun _ _ z => z)) fun _ _ z => z))
end
noncomputable def CompW (J:It) (σ0:St) (H1:Hp) (tt:TT) (te:TE) (D:Addr) (Q:VK):Prop :=
 ∃ W:Nat -> Nat -> St -> Hp -> Prop,(∃ m,W 0 m σ0 (upd H1 D (.lst []))) /\ ∀ i m σ' H',W i m σ' H' ->
  (J.stop i H' /\ Q (.ref D) H') \/ (J.go i H' /\ ∃ N:St -> Hp -> Prop,(∀ σ2 H2,N σ2 H2 -> ∃ m',m' < m /\ W (i + 1) m' σ2 H2) /\ ∀ x H2,J.yld i H' x H2 ->
   tt (σ'.set 0 (some x)) H2 fun b H3 => if b = true then te (σ'.set 0 (some x)) H3 fun y H4 => ∃ ys,H4 D = some (.lst ys) /\ ys.length < sizeLine /\ N (σ'.set 0 (some x)) (upd H4 D (.lst (ys ++ [y]))) else N (σ'.set 0 (some x)) H3)
noncomputable def CompWG (J:It) (g:TG) (σ0:St) (H1:Hp) (tt:TT) (te:TE) (D:Addr) (Q:VK):Prop :=
 ∃ W:Nat -> Nat -> St -> Hp -> Prop,(∃ m,W 0 m σ0 (upd H1 D (.lst []))) /\ ∀ i m σ' H',W i m σ' H' ->
  (J.stop i H' /\ Q (.ref D) H') \/ (J.go i H' /\ ∃ N:St -> Hp -> Prop,(∀ σ2 H2,N σ2 H2 -> ∃ m',m' < m /\ W (i + 1) m' σ2 H2) /\ ∀ x H2,J.yld i H' x H2 ->
   g x σ' H2 fun σ3 H3 => tt σ3 H3 fun b H4 => if b = true then te σ3 H4 fun y H5 => ∃ ys,H5 D = some (.lst ys) /\ ys.length < sizeLine /\ N σ3 (upd H5 D (.lst (ys ++ [y]))) else N σ3 H4)
theorem CompW.g {J:It} {σ0:St} {H1:Hp} {tt:TT} {te:TE} {D:Addr} {Q:VK} (h:CompW J σ0 H1 tt te D Q):CompWG J (gName 0) σ0 H1 tt te D Q:=h
noncomputable def tComp (wi:TI) (js:List Nat) (tt:TT) (te:TE):TE:=fun σ H Q => wi σ H fun J H1 => ∀ D,H1 D = none -> CompW J (blk0 js σ) H1 tt te D Q
section
variable {X:Cx} {elt iter:Expr} {x:Str} {px:Pos} {ifs:List Expr} {scope:Scope} {pos:Pos} {fvs:List Str} {js:List Nat} {wi:TI} {tt:TT} {te:TE}
theorem comp_coreG {tg:Expr} {g:TG} {ys:List Str} (hsc:CompScG X.env.scope X.N scope x ys fvs js) (hc:X.calm = true) (hg:∀ s₁ H₁ C fp,PG (X.blk x (ys ++ fvs) scope s₁ H₁ C fp) tg g)
  (ht:∀ s₁ H₁ C fp,PF (X.blk x (ys ++ fvs) scope s₁ H₁ C fp) ifs tt) (he:∀ s₁ H₁ C fp,PE (X.blk x (ys ++ fvs) scope s₁ H₁ C fp) elt te)
  {pins:List (Addr × Obj)} {σ:St} {H2:Hp} {s2:Shared} {Q:VK} {it:Addr} {fp:List Addr} {tn:Nat -> Heap -> Prop} {J:It} {RR:Value -> Addr -> Result -> Shared -> Prop}
  (I2:Inv X pins σ H2 s2) (T:Turn X.prog X.w X.K tg J fp it tn) (st2:tn 0 s2.heap) (f2:∀ b ∈ fp,FpOk X pins H2 b)
  (hh:∀ D,H2 D = none -> CompWG J g (blkG ys.length js σ) H2 tt te D Q)
  (fin:∀ (D C:Addr) (H':Hp) (s':Shared),Inv X pins σ H' s' -> (∃ m,s'.heap.Ns C m) -> H' C = none -> C ≠ X.env.locals -> X.s₀.heap.objs.size <= C -> (∀ y c,X.env.cells.lookup y = some c -> c ≠ C) -> (∀ p ∈ X.pn ++ pins,p.1 ≠ C) -> Q (.ref D) H' ->
   RR (.ref D) C (.ok .next) s') {E:Value -> Shared -> Prop} :
  wpAny (model X.prog X.w) X.A (newList []) (fun acc s3 => wpAny (model X.prog X.w) X.A (newFunctionEnv scope X.env.globals (clOf X.env scope.names []) [] X.env.qual none .none (some X.env)) (fun cenv s4 =>
   codeAny (model X.prog X.w) X.A (.compStart (.ListComp elt [⟨tg,iter,ifs,0⟩] scope pos) 0 (.ref it) acc { cenv with scope:=relabel scope X.env }) (RR acc cenv.locals) s4) E s3) E s2:=by
 have fr:∀ y ∈ scope.names,y.2 = .free -> ∃ c,X.env.cells.lookup y.1 = some c:=fun y hy hk => I2.ok.has y.1 (hsc.out y hy hk)
 have sub:∀ y c,(clOf X.env scope.names []).lookup y = some c -> X.env.cells.lookup y = some c:=fun y c e => clOf_sub scope.names [] fr (fun _ q => by simp at q) e
 refine wpAny_newObj_type (newEnv_blk (x:=x) hsc.kind hsc.once fun h1 m1 hns1 hsb1 hcl1 => ?_)
 dsimp only at hns1 hsb1 hcl1 ⊢
 have I3:Inv X pins σ (upd H2 s2.heap.objs.size (.lst [])) { s2 with heap:=s2.heap.push { cls:=.type "list",data:=.seq ([]:List Value).toArray },toks:=s2.toks }:=I2.lnew (ys:=[]) (its:=[]) .nil (Nat.zero_le _)
 generalize hG:s2.heap.push { cls:=.type "list",dict:=none,data:=.seq ([]:List Value).toArray } = G at hns1 hsb1 hcl1 I3 ⊢
 have hC:G.objs.size = s2.heap.objs.size + 1:=by rw [<- hG,Heap.size_push]
 obtain ⟨W,⟨m0,w0⟩,turn⟩:=hh s2.heap.objs.size I2.fresh
 have up:∀ b u,G.get? b = some u -> h1.get? b = some u:=hsb1
 have look:∀ {y:Str} {c:Addr},(ownC scope x G.objs.size ++ clOf X.env scope.names []).lookup y = some c -> (y = x /\ scope.names.lookup x = some .cell /\ c = G.objs.size + 1) \/ (clOf X.env scope.names []).lookup y = some c:=fun {y c} e => by
  unfold ownC at e
  by_cases q:scope.names.lookup x = some .cell
  ·rw [if_pos q] at e
   by_cases z:(y == x) = true
   ·rw [List.cons_append,List.lookup_cons,z] at e
    exact .inl ⟨eq_of_beq z,q,(Option.some.inj e).symm⟩
   ·rw [List.cons_append,List.lookup_cons,(Bool.not_eq_true _).mp z] at e
    exact .inr e
  ·rw [if_neg q] at e
   exact .inr e
 have Cfr:∀ {H':Hp} {s':Shared},Inv X pins σ H' s' -> True:=fun _ => trivial
 have nC:(upd H2 s2.heap.objs.size (.lst [])) G.objs.size = none:=I3.hok.fresh (Nat.le_refl _)
 have cL:G.objs.size ≠ X.env.locals:=Nat.ne_of_gt I3.lt
 have cS:X.s₀.heap.objs.size <= G.objs.size:=I3.sz
 have cC:∀ y c,X.env.cells.lookup y = some c -> c ≠ G.objs.size:=fun y c e z => by
  obtain ⟨v,q⟩:=I3.cell y c e
  exact absurd (show c < G.objs.size from q.lt) (by rw [z]; exact Nat.lt_irrefl _)
 have cP:∀ p ∈ X.pn ++ pins,p.1 ≠ G.objs.size:=fun p hp z => absurd (show p.1 < G.objs.size from Heap.lt_size (I3.pin p hp).1) (by rw [z]; exact Nat.lt_irrefl _)
 have fpl:∀ b ∈ fp,b < s2.heap.objs.size:=fun b hb => by
  obtain ⟨o,e,_⟩:=T.obj 0 _ st2 b hb
  exact Heap.lt_size e
 have ok:(X.blk x (ys ++ fvs) scope { s2 with heap:=G,toks:=s2.toks } (upd H2 s2.heap.objs.size (.lst [])) G.objs.size fp).Ok:=by
  have hb:∀ b ∈ fp,b ∉ frs X.stack:=fun b hb z => (List.mem_cons.mp (I2.stkSub b z)).elim (f2 b hb).2.1 (f2 b hb).2.2.1
  exact {
   mod:=I3.ok.mod
   kind:=by show (relabel scope X.env).kind = _; exact hsc.kind
   glob:=I3.ok.glob
   blt:=I3.ok.blt
   above:=Nat.le_refl _
   inj:=fun y z c e1 e2 => by
    have lt:∀ {y:Str},(clOf X.env scope.names []).lookup y = some c -> c < G.objs.size:=fun {y} e => by
     obtain ⟨v,q⟩:=I3.cell y c (sub y c e)
     exact q.lt
    rcases look e1 with ⟨a1,_,a2⟩ | a1
    ·rcases look e2 with ⟨b1,_,_⟩ | b1
     ·rw [a1,b1]
     ·exact absurd (lt b1) (by rw [a2]; exact Nat.not_lt.mpr (Nat.le_succ _))
    ·rcases look e2 with ⟨_,_,b2⟩ | b1
     ·exact absurd (lt a1) (by rw [b2]; exact Nat.not_lt.mpr (Nat.le_succ _))
     ·exact I3.ok.inj y z c (sub y c a1) (sub z c b1)
   has:=fun y hy => by
    show ∃ c,(ownC scope x G.objs.size ++ clOf X.env scope.names []).lookup y = some c
    unfold ownC
    rcases relS_back hsc.cells hy with hm | ⟨e,q⟩
    ·obtain ⟨c,ec⟩:=clOf_has (env:=X.env) scope.names [] (.inl hm)
     by_cases q:scope.names.lookup x = some .cell
     ·have z:(y == x) = false:=beq_eq_false_iff_ne.mpr (hsc.xf _ hm rfl)
      exact ⟨c,by rw [if_pos q,List.cons_append,List.lookup_cons,z]; exact ec⟩
     ·exact ⟨c,by rw [if_neg q]; exact ec⟩
    ·subst e
     exact ⟨G.objs.size + 1,by rw [if_pos q,List.cons_append,List.lookup_cons,beq_self_eq_true]⟩
   cab:=fun y c h e => by
    obtain ⟨h1,h2⟩:=of_decide_eq_true h
    have e':(ownC scope x G.objs.size ++ clOf X.env scope.names []).lookup y = some c:=e
    unfold ownC at e'
    rw [if_pos h2,h1,List.cons_append,List.lookup_cons,beq_self_eq_true] at e'
    rw [<- Option.some.inj e']
    exact Nat.le_succ _
   hd:=I3.ok.hd
   frames:=I3.ok.frames
   stk:=.inl rfl
   exf:=fun b hb' => ⟨Nat.ne_of_lt (show b < G.objs.size from Nat.lt_of_lt_of_le (fpl b hb') (by rw [hC]; exact Nat.le_succ _)),fun y c e => by
    rcases look e with ⟨_,_,a⟩ | a
    ·rw [a,hC]; exact Nat.ne_of_gt (Nat.lt_of_lt_of_le (fpl b hb') (Nat.le_trans (Nat.le_succ _) (Nat.le_succ _)))
    ·exact (f2 b hb').2.2.2.2.1 y c (sub y c a)⟩
   bs:=I3.bs
   bsz:=Nat.le_trans I3.ok.bsz I3.sz
   noex:=fun b o e hb' => by
    have q:=(f2 b hb').2.2.2.1
    rcases q with q | q
    ·exact I3.ok.noex b o e q
    ·exact absurd (Nat.lt_of_lt_of_le (Heap.lt_size e) (Nat.le_trans I3.ok.bsz q)) (Nat.lt_irrefl _)
   exfs:=hb
   funs:=I3.stack
   frf:=I3.stkFree }
 have hlen:(blkG ys.length js σ).length = (x :: (ys ++ fvs)).length:=by
  have e:=congrArg List.length hsc.slots
  simp only [List.length_map] at e
  simp [blkG,e]
 have I4:Inv (X.blk x (ys ++ fvs) scope { s2 with heap:=G,toks:=s2.toks } (upd H2 s2.heap.objs.size (.lst [])) G.objs.size fp) [] (blkG ys.length js σ) (upd H2 s2.heap.objs.size (.lst [])) { s2 with heap:=h1,toks:=s2.toks }:=by
  refine ⟨ok,rfl,I3.bare,Un.kept up,⟨_,hns1,fun i y v e1 e2 e3 => ?_⟩,fun y c e => ?_,nC,fun y c e => (look e).elim (fun ⟨_,_,a⟩ => by rw [a]; exact I3.hok.fresh (Nat.le_succ _)) fun a => I3.freeC y c (sub y c a),fun p hp => by simp [Cx.blk] at hp,I3.hok.kept up,hlen⟩
  ·cases i with
   | zero => simp [blkG] at e2
   | succ i0 =>
    have e10:(ys ++ fvs)[i0]? = some y:=e1
    have e20:(List.replicate ys.length none ++ js.map fun j => (σ[j]?).join)[i0]? = some (some v):=by simpa [blkG] using e2
    by_cases hlt:i0 < ys.length
    ·rw [List.getElem?_append_left (by simpa using hlt),List.getElem?_replicate,if_pos hlt] at e20
     cases e20
    rw [List.getElem?_append_right (by simpa using Nat.le_of_not_lt hlt),List.length_replicate] at e20
    rw [List.getElem?_append_right (Nat.le_of_not_lt hlt)] at e10
    generalize i0 - ys.length = i at e10 e20
    have e1':fvs[i]? = some y:=e10
    have hm:y ∈ fvs:=List.mem_of_getElem? e1'
    have hfy:=hsc.free y hm
    have hmy:(y,NameKind.free) ∈ scope.names:=lookup_mem hfy
    have e2':(js.map fun j => (σ[j]?).join)[i]? = some (some v):=e20
    rw [List.getElem?_map] at e2'
    cases ej:js[i]? with
    | none => rw [ej] at e2'; cases e2'
    | some j =>
     rw [ej] at e2'
     have e3':(σ[j]?).join = some v:=Option.some.inj e2'
     have e4:σ[j]? = some (some v):=by
      cases q:σ[j]? with
      | none => rw [q] at e3'; cases e3'
      | some z => rw [q] at e3'; exact congrArg some e3'
     have e5:X.N[j]? = some y:=by
      have q:=congrArg (fun l => l[i]?) hsc.slots
      simp only [List.getElem?_map,ej,e1',Option.map_some] at q
      exact Option.some.inj q
     obtain ⟨m,hn,hl⟩:=I3.loc
     have hout:=hsc.out (y,.free) hmy rfl
     obtain ⟨u,ru,lk⟩:=hl j y v e5 e4 (.inr hout)
     refine ⟨u,ru,.inr ⟨?_,?_⟩⟩
     ·show (relabel scope X.env).names.lookup y = _ \/ (relabel scope X.env).names.lookup y = _
      exact relS_free (osc:=X.env.scope) hfy
     ·obtain ⟨c,ec⟩:=clOf_has (env:=X.env) scope.names [] (.inl hmy)
      have nx:(y == x) = false:=beq_eq_false_iff_ne.mpr (hsc.xf _ hmy rfl)
      refine ⟨c,?_,?_⟩
      ·show (ownC scope x G.objs.size ++ clOf X.env scope.names []).lookup y = some c
       unfold ownC
       split
       ·rw [List.cons_append,List.lookup_cons,nx]; exact ec
       ·exact ec
      rcases lk with ⟨z,_⟩ | ⟨_,c',ec',q⟩
      ·have z':X.env.scope.names.lookup y = some .local:=z
       rcases hout with w | w
       ·rw [show X.env.scope.names.lookup y = some .cell from w] at z'; cases z'
       ·rw [show X.env.scope.names.lookup y = some .free from w] at z'; cases z'
      ·have:=sub y c ec
       rw [ec'] at this
       cases this
       obtain ⟨o,ho,hd⟩:=q
       exact ⟨o,up _ _ ho,hd⟩
  ·rcases look e with ⟨_,q,a⟩ | a
   ·exact ⟨none,by rw [a]; exact hcl1 q⟩
   ·obtain ⟨v,o,ho,hd⟩:=I3.cell y c (sub y c a)
    exact ⟨v,o,up _ _ ho,hd⟩
 have st4:tn 0 h1:=T.keep 0 _ _ st2 fun b hb o e => up b o (by rw [<- hG]; exact Heap.get?_push_of_some _ e)
 have fr4:∀ b ∈ fp,(upd H2 s2.heap.objs.size (.lst [])) b = none:=fun b hb => by
  rw [upd_ne (Nat.ne_of_lt (fpl b hb))]; exact (f2 b hb).1
 have stat:∀ {H':Hp},(∀ b ∈ fp,H' b = none) -> ∀ b ∈ fp,FpOk (X.blk x (ys ++ fvs) scope { s2 with heap:=G,toks:=s2.toks } (upd H2 s2.heap.objs.size (.lst [])) G.objs.size fp) [] H' b:=fun hn b hb =>
  ⟨hn b hb,(ok.exf b hb).1,ok.exfs b hb,.inl hb,(ok.exf b hb).2,fun p hp => by simp [Cx.blk] at hp⟩
 have hch:∀ b ∈ fp,(b ∈ X.ex \/ X.s₀.heap.objs.size <= b) /\ b ≠ X.env.locals /\ (∀ x c,X.env.cells.lookup x = some c -> c ≠ b) /\ ∀ p ∈ X.pn ++ pins,p.1 ≠ b:=fun b hb =>
  let ⟨_,q1,_,q2,q3,q4⟩:=f2 b hb; ⟨q2,q1,q3,q4⟩
 have loop:∀ s5:Shared,s5 = { s2 with heap:=h1,toks:=s2.toks } ->
   codeAny (model X.prog X.w) X.A (.compLoop (.ListComp elt [⟨tg,iter,ifs,0⟩] scope pos) 0 (.ref it) (.ref s2.heap.objs.size) (compEnvC scope (ownC scope x G.objs.size ++ clOf X.env scope.names []) G.objs.size X.env)) (RR (.ref s2.heap.objs.size) G.objs.size) s5:=by
  rintro s5 rfl
  refine comp_loop (fun n s' => ∃ i σ' H',Inv (X.blk x (ys ++ fvs) scope { s2 with heap:=G,toks:=s2.toks } (upd H2 s2.heap.objs.size (.lst [])) G.objs.size fp) [] σ' H' s' /\ tn i s'.heap /\ (∀ b ∈ fp,H' b = none) /\ W i n σ' H') ?_ m0 ⟨0,_,_,I4,st4,fr4,w0⟩
  rintro n s6 ⟨i,σ6,H6,I6,st6,fr6,w6⟩
  rcases turn i n σ6 H6 w6 with ⟨stop,qn⟩ | ⟨go,N,hN,step⟩
  ·refine thn (T.done (X.blk x (ys ++ fvs) scope { s2 with heap:=G,toks:=s2.toks } (upd H2 s2.heap.objs.size (.lst [])) G.objs.size fp) rfl rfl rfl hc i [] s6 σ6 H6 _ I6 (stat fr6) st6 stop) fun r s7 ⟨hr,I7⟩ => ?_
   subst hr
   have I8:Inv X pins σ H6 s7:=I3.call' (ch:=fp) I7.os I7.base I7.hok I7.bare hch
   obtain ⟨m,hn,_⟩:=I7.loc
   exact fin _ _ H6 s7 I8 ⟨m,hn⟩ I7.free cL cS cC cP qn
  ·refine thn (T.item (X.blk x (ys ++ fvs) scope { s2 with heap:=G,toks:=s2.toks } (upd H2 s2.heap.objs.size (.lst [])) G.objs.size fp) rfl rfl rfl hc i [] s6 σ6 H6 _ I6 (stat fr6) st6 go) fun r s7 ⟨u,hr,h7⟩ => ?_
   subst hr
   refine thn h7 fun _ s8 ⟨x8,H8,I8,r8,y8,st8,fr8⟩ => ?_
   have I8':=I8.pinned (stat fr8) (T.obj _ _ st8)
   refine thn (hg _ _ _ _ _ s8 σ6 H8 x8 u _ I8' r8 (step x8 H8 y8)) fun _ s9 ⟨σ9,H9,I9,q9⟩ => ?_
   refine thn (ht _ _ _ _ _ s9 _ H9 _ I9 q9) fun ok' s10 ⟨H10,I10,q10⟩ => ?_
   have again:∀ {s11:Shared} {H11:Hp},Inv (X.blk x (ys ++ fvs) scope { s2 with heap:=G,toks:=s2.toks } (upd H2 s2.heap.objs.size (.lst [])) G.objs.size fp) ([] ++ pinsAt fp s8.heap) σ9 H11 s11 -> N σ9 H11 ->
     ∃ m,m < n /\ ∃ i σ' H',Inv (X.blk x (ys ++ fvs) scope { s2 with heap:=G,toks:=s2.toks } (upd H2 s2.heap.objs.size (.lst [])) G.objs.size fp) [] σ' H' s11 /\ tn i s11.heap /\ (∀ b ∈ fp,H' b = none) /\ W i m σ' H':=fun {s11 H11} I11 n11 => by
    obtain ⟨m',hm,w11⟩:=hN _ H11 n11
    refine ⟨m',hm,i + 1,_,H11,I11.unpinned,T.keep _ _ _ st8 fun b hb o e => (I11.pin (b,o) (List.mem_append_right _ (List.mem_append_right _ (mem_pinsAt hb e)))).1,fun b hb => ?_,w11⟩
    obtain ⟨o,e,d⟩:=T.obj _ _ st8 b hb
    exact (I11.pin (b,o) (List.mem_append_right _ (List.mem_append_right _ (mem_pinsAt hb e)))).2.1
   cases ok' with
   | false =>
    rw [if_neg (by simp)] at q10 ⊢
    exact again I10 q10
   | true =>
    rw [if_pos rfl] at q10 ⊢
    refine thn (he _ _ _ _ _ s10 _ H10 _ I10 q10) fun y s11 ⟨yv,H11,I11,ry,ys,hys,hl,n11⟩ => ?_
    refine thn (mt_append _ s11 _ H11 (.ref s2.heap.objs.size) [yv] (.ref s2.heap.objs.size) [y] (fun _ H12 => N σ9 H12) I11 rfl (.cons ry .nil) ⟨_,ys,yv,rfl,rfl,hys,hl,n11⟩) fun _ s12 ⟨_,H12,I12,_,n12⟩ => again I12 n12
 exact codeAny_compStart_list (loop _ rfl) (T.self _ 0 _ _ _ st4 (loop _ rfl))
theorem comp_core (hsc:CompSc X.env.scope X.N scope x fvs js) (hc:X.calm = true)
  (ht:∀ s₁ H₁ C fp,PF (X.blk x fvs scope s₁ H₁ C fp) ifs tt) (he:∀ s₁ H₁ C fp,PE (X.blk x fvs scope s₁ H₁ C fp) elt te)
  {pins:List (Addr × Obj)} {σ:St} {H2:Hp} {s2:Shared} {Q:VK} {it:Addr} {fp:List Addr} {tn:Nat -> Heap -> Prop} {J:It} {RR:Value -> Addr -> Result -> Shared -> Prop}
  (I2:Inv X pins σ H2 s2) (T:Turn X.prog X.w X.K (.Name x px) J fp it tn) (st2:tn 0 s2.heap) (f2:∀ b ∈ fp,FpOk X pins H2 b)
  (hh:∀ D,H2 D = none -> CompW J (blk0 js σ) H2 tt te D Q)
  (fin:∀ (D C:Addr) (H':Hp) (s':Shared),Inv X pins σ H' s' -> (∃ m,s'.heap.Ns C m) -> H' C = none -> C ≠ X.env.locals -> X.s₀.heap.objs.size <= C -> (∀ y c,X.env.cells.lookup y = some c -> c ≠ C) -> (∀ p ∈ X.pn ++ pins,p.1 ≠ C) -> Q (.ref D) H' ->
   RR (.ref D) C (.ok .next) s') {E:Value -> Shared -> Prop} :
  wpAny (model X.prog X.w) X.A (newList []) (fun acc s3 => wpAny (model X.prog X.w) X.A (newFunctionEnv scope X.env.globals (clOf X.env scope.names []) [] X.env.qual none .none (some X.env)) (fun cenv s4 =>
   codeAny (model X.prog X.w) X.A (.compStart (.ListComp elt [⟨.Name x px,iter,ifs,0⟩] scope pos) 0 (.ref it) acc { cenv with scope:=relabel scope X.env }) (RR acc cenv.locals) s4) E s3) E s2 :=
 comp_coreG (ys:=[]) hsc.g hc (fun s₁ H₁ C fp => pg_name (X:=X.blk x fvs scope s₁ H₁ C fp) (i:=0) (x:=x) (pos:=px) hsc.nd rfl (hsc.once.elim (fun q => .inl (lookup_relabel_local q.1)) fun q => .inr (relS_cell q.1)) (hsc.once.elim (fun q => .inr (lookup_relabel_local q.1)) fun q => .inl (decide_eq_true ⟨rfl,q.1⟩))) ht he I2 T st2 f2 (fun D hD => (hh D hD).g) fin
theorem pe_comp (hsc:CompSc X.env.scope X.N scope x fvs js) (hc:X.calm = true) (hi:PI X (.Name x px) iter wi)
  (ht:∀ s₁ H₁ C fp,PF (X.blk x fvs scope s₁ H₁ C fp) ifs tt) (he:∀ s₁ H₁ C fp,PE (X.blk x fvs scope s₁ H₁ C fp) elt te)
  (hs:∀ v,foldedSetIterable iter X.env v = pure v:=by intro _; rfl):PE X (.ListComp elt [⟨.Name x px,iter,ifs,0⟩] scope pos) (tComp wi js tt te):=by
 intro pins s σ H Q I h
 have fr:∀ y ∈ scope.names,y.2 = .free -> ∃ c,X.env.cells.lookup y.1 = some c:=fun y hy hk => I.ok.has y.1 (hsc.out y hy hk)
 rw [eval_ListComp]
 refine wpAny_comprehension_free (use:=none) rfl hs (closure_is fr) hsc.kind hsc.names (thn (hi pins s σ H _ I h) fun v s1 h1 => thn h1 fun itv s2 h2 => ?_)
 obtain ⟨it,fp,tn,J,H2,e,I2,T,st2,f2,hh⟩:=h2
 subst e
 refine comp_core (RR:=fun acc C => compPost (model X.prog X.w) X.A X.xe none (EP X pins σ Q) acc C) hsc hc ht he I2 T st2 f2 hh fun D C H' s' I' hn nC cL cS cC cP q => ?_
 obtain ⟨m,hn⟩:=hn
 refine ⟨m,hn,fun h' sb => ⟨.ref D,H',?_,rfl,q⟩⟩
 exact I'.turned (t':=s'.toks) (fun b o hb e => (sb.2 b hb).trans e) nC cL (.inr cS) cC cP
noncomputable def tCompG (wi:TI) (g:TG) (n:Nat) (js:List Nat) (tt:TT) (te:TE):TE:=fun σ H Q => wi σ H fun J H1 => ∀ D,H1 D = none -> CompWG J g (blkG n js σ) H1 tt te D Q
theorem pe_compG {tg:Expr} {g:TG} {ys:List Str} (hsc:CompScG X.env.scope X.N scope x ys fvs js) (hc:X.calm = true) (hg:∀ s₁ H₁ C fp,PG (X.blk x (ys ++ fvs) scope s₁ H₁ C fp) tg g) (hi:PI X tg iter wi)
  (ht:∀ s₁ H₁ C fp,PF (X.blk x (ys ++ fvs) scope s₁ H₁ C fp) ifs tt) (he:∀ s₁ H₁ C fp,PE (X.blk x (ys ++ fvs) scope s₁ H₁ C fp) elt te)
  (hs:∀ v,foldedSetIterable iter X.env v = pure v:=by intro _; rfl):PE X (.ListComp elt [⟨tg,iter,ifs,0⟩] scope pos) (tCompG wi g ys.length js tt te):=by
 intro pins s σ H Q I h
 have fr:∀ y ∈ scope.names,y.2 = .free -> ∃ c,X.env.cells.lookup y.1 = some c:=fun y hy hk => I.ok.has y.1 (hsc.out y hy hk)
 rw [eval_ListComp]
 refine wpAny_comprehension_free (use:=none) rfl hs (closure_is fr) hsc.kind hsc.names (thn (hi pins s σ H _ I h) fun v s1 h1 => thn h1 fun itv s2 h2 => ?_)
 obtain ⟨it,fp,tn,J,H2,e,I2,T,st2,f2,hh⟩:=h2
 subst e
 refine comp_coreG (RR:=fun acc C => compPost (model X.prog X.w) X.A X.xe none (EP X pins σ Q) acc C) hsc hc hg ht he I2 T st2 f2 hh fun D C H' s' I' hn nC cL cS cC cP q => ?_
 obtain ⟨m,hn⟩:=hn
 refine ⟨m,hn,fun h' sb => ⟨.ref D,H',?_,rfl,q⟩⟩
 exact I'.turned (t':=s'.toks) (fun b o hb e => (sb.2 b hb).trans e) nC cL (.inr cS) cC cP
theorem ps_setComp {i:Nat} {y:Str} {py spos:Pos} (hN:X.N.Nodup) (hi':X.N[i]? = some y) (hy:Loc X.env.scope y) (hsc:CompSc X.env.scope X.N scope x fvs js) (hc:X.calm = true) (hi:PI X (.Name x px) iter wi)
  (ht:∀ s₁ H₁ C fp,PF (X.blk x fvs scope s₁ H₁ C fp) ifs tt) (he:∀ s₁ H₁ C fp,PE (X.blk x fvs scope s₁ H₁ C fp) elt te)
  (hsw:swapsWith (.ListComp elt [⟨.Name x px,iter,ifs,0⟩] scope pos) (some (.Name y py)) spos.line X.env = pure true:=by rfl)
  (hs:∀ v,foldedSetIterable iter X.env v = pure v:=by intro _; rfl) (hf:X.fn y = true \/ X.env.scope.names.lookup y = some .local:=by first | exact .inl rfl | exact .inr rfl | assumption) :
  PS X (.Assign [.Name y py] (.ListComp elt [⟨.Name x px,iter,ifs,0⟩] scope pos) spos) (tAsg (tComp wi js tt te) (gName i)):=by
 intro pins s σ H D I h
 have fr:∀ y ∈ scope.names,y.2 = .free -> ∃ c,X.env.cells.lookup y.1 = some c:=fun y hy hk => I.ok.has y.1 (hsc.out y hy hk)
 rw [exec_Assign_Name_used _ _ _ _ hsw]
 refine wpAny_bind (wpAny_standAt (wpAny_bind ?_))
 show wpAny _ X.A (do let _ <- comprehension (.ListComp elt [⟨.Name x px,iter,ifs,0⟩] scope pos) scope X.env _ (newList []) false (eval iter X.env) (some (assign (.Name y py) X.env))) _ _ s
 refine wpAny_bind (thn (wpAny_comprehension_free (use:=some (assign (.Name y py) X.env)) (Q:=fun _ s' => SP X pins D .next s') rfl hs (closure_is fr) hsc.kind hsc.names (thn (hi pins s σ H _ I h) fun v s1 h1 => thn h1 fun itv s2 h2 => ?_)) fun _ s' q => ?_)
 ·obtain ⟨it,fp,tn,J,H2,e,I2,T,st2,f2,hh⟩:=h2
  subst e
  refine comp_core (RR:=fun acc C => compPost (model X.prog X.w) X.A X.xe (some (assign (.Name y py) X.env)) (fun _ s' => SP X pins D .next s') acc C) (Q:=fun v H' => gName i v σ H' D.nx) hsc hc ht he I2 T st2 f2 hh fun D' C H' s' I' hn nC cL cS cC cP q => ?_
  obtain ⟨m,hn⟩:=hn
  show wpAny _ _ (assign (.Name y py) X.env (.ref D')) _ _ s'
  refine wpAny_assign_Name (store_ok2 I' hN hi' hy (v:=.ref D') rfl (fun s'' I'' ⟨a,sb,ha⟩ => ?_) hf)
  have ne:C ≠ a:=by
   rcases ha with z | z
   ·rw [z]; exact cL
   ·exact fun w => cC y a z w.symm
  refine ⟨m,hn.sameBut sb ne,fun h' sb' => ?_⟩
  exact ⟨_,H',I''.turned (t':=s''.toks) (fun b o hb e => (sb'.2 b hb).trans e) nC cL (.inr cS) cC cP,q⟩
 ·exact wpAny_pure (wpAny_pure q)
end
end L2
namespace L2
open PySem PySem.Spec PyProof.Rows
noncomputable abbrev Tups (K:PySem.W.Frag) (H:Hp):List V -> List (List Int) -> Prop:=Paired fun x ts => ∃ a,x = V.ref a /\ SqT K H a (ts.map V.int)
theorem Tups.len {K:PySem.W.Frag} {H:Hp} {xs:List V} {tss:List (List Int)} (h:Tups K H xs tss):xs.length = tss.length:=Paired.length h
theorem same_new {H:Hp} {p:Addr} (h:H p = none) (o:HO):Same H (upd H p o):=fun b u q => by rw [upd_ne (ne_of_none q h)]; exact q
theorem Same.seqT {K:PySem.W.Frag} {H H':Hp} {a:Addr} {xs:List V} (e:Same H H') (h:SqT K H a xs):SqT K H' a xs:=by
 rcases h with (h | ⟨o,h⟩) | h
 ·exact .inl (.inl (e _ _ h))
 ·exact .inl (.inr ⟨o,e _ _ h⟩)
 ·exact .inr h
section
variable {X:Cx} {pins:List (Addr × Obj)} {σ:St} {H:Hp} {s:Shared}
theorem Inv.tupInts {a:Addr} {ns:List Int} (I:Inv X pins σ H s) (h:SqT X.K H a (ns.map V.int)):∃ its:List Value,IsTup s.heap a its.toArray /\ IntsAre its ns:=by
 obtain ⟨its,r,p,_⟩:=I.tuple h
 exact ⟨its,p,intsAre_of r⟩
theorem Inv.tupsAt (I:Inv X pins σ H s):∀ {xs:List V} {us:List Value} {tss:List (List Int)},Tups X.K H xs tss -> Vals xs us -> Paired (fun u ts => ∃ a its,u = Value.ref a /\ IsTup s.heap a its /\ IntsAre its.toList ts) us tss
 | _,_,_,.nil,.nil => .nil
 | _,_,_,.cons ⟨a,e1,e2⟩ t,.cons r q => by
  obtain ⟨its,p,hi⟩:=I.tupInts e2
  rw [e1] at r
  exact .cons ⟨a,its.toArray,r,p,by simpa using hi⟩ (I.tupsAt t q)
end
namespace Srt
noncomputable def sortI (l:List Int):List Int:=sortO intOrd l
noncomputable def sortT (l:List (List Int)):List (List Int):=sortO lexOrd l
noncomputable def leT (a b:List Int):Prop:=HT.lexLt b a = false
theorem sortI_perm (l:List Int):(sortI l).Perm l:=sortO_perm intOrd l
theorem sortT_perm (l:List (List Int)):(sortT l).Perm l:=sortO_perm lexOrd l
theorem sortI_len (l:List Int):(sortI l).length = l.length:=(sortI_perm l).length_eq
theorem sortT_len (l:List (List Int)):(sortT l).length = l.length:=(sortT_perm l).length_eq
theorem sortT_rises (l:List (List Int)):(sortT l).Pairwise leT:=sortO_rises lexOrd l
theorem sortT_id {l:List (List Int)} (h:l.Pairwise leT):sortT l = l:=sortO_id lexOrd h
theorem sortT_of_perm {a b:List (List Int)} (p:a.Perm b):sortT a = sortT b:=sortO_of_perm lexOrd p
theorem kle_int {a b:Int}:intOrd.kle a b ↔ a <= b:=by
 show decide (b < a) = false ↔ a <= b
 rw [decide_eq_false_iff_not]
 omega
theorem sortI_rises (l:List Int):(sortI l).Pairwise (· <= ·):=(sortO_rises intOrd l).imp fun h => kle_int.mp h
section
variable {P:Program} {w:World} {A:Around} {E:Value -> Shared -> Prop} {s:Shared}
theorem ints_sorted {ks ns:List Int} (hp:ns.Perm ks) (hs:ns.Pairwise (· <= ·)):ns = sortI ks:=by
 refine eq_sortO intOrd hp (hs.imp fun {a b} h => ?_)
 show decide (b < a) = false
 exact decide_eq_false (by omega)
theorem sorted_ints_of {x:Value} {ks:List Int} {Q:Value -> Shared -> Prop} (h64:ks.length < 64)
  (hcol:∀ (Q':List Value -> Shared -> Prop),(∀ (h':Heap) (tk:Nat) (d':Drawn) (acc:List Value) (order:List Int),(∀ b o,s.heap.get? b = some o -> h'.get? b = some o) -> order.Perm ks -> IntsAre acc order -> Q' acc { s with heap:=h',toks:=tk,drawn:=d' }) ->
   wpAny (model P w) A.in1 (collect x) Q' E s)
  (h:∀ (h1 h':Heap) (tk:Nat) (d':Drawn) (out:List Value) (c:Nat),(∀ b o,s.heap.get? b = some o -> h1.get? b = some o) -> (∀ b o,h1.get? b = some o -> h'.get? b = some o) -> h'.get? h1.objs.size = some { cls:=.type "list",data:=.seq out.toArray c } ->
   IntsAre out (sortI ks) -> Q (.ref h1.objs.size) { s with heap:=h',toks:=tk,drawn:=d' }) :
  wpAny (model P w) A (call (.builtin "sorted") [x]) Q E s:=by
 refine Calls.call_function_entry kind_sorted plain_sorted entry_sorted (args_sorted1 _) ?_
 unfold Builtin.«sorted»
 refine wpAny_bind (m:=checkCount "sorted" 1 1 _) (wpAny_pure ?_)
 refine wpAny_bind (hcol _ fun h1 tk d1 acc order kp hp hi => ?_)
 have hla:acc.length = order.length:=hi.length
 have hlo:order.length = ks.length:=hp.length_eq
 refine wpAny_bind (wpAny_newList ?_ (by rw [sizeLine_eq]; omega))
 have hoL:(h1.push (seqObj "list" acc.toArray 0)).get? h1.objs.size = some (seqObj "list" acc.toArray 0):=Heap.get?_push_size _ rfl
 refine wpAny_bind (wpAny_holding (wpAny_call_entry slot_list_sort ⟨_,hoL,rfl⟩ entry_list_sort (list_sort_tree hoL hi (by omega) fun out ns' hi' hp' hs' => ⟨_,rfl,?_⟩) (args_list_sort _)))
 obtain ⟨c,hc⟩:=sortedHeap_at (out:=out) (vs:=acc) hoL
 refine wpAny_pure ⟨_,rfl,h h1 _ tk d1 out.toList c kp (fun b o e => ?_) ?_ ?_⟩
 ·have hb:b < h1.objs.size:=Heap.lt_size e
  rw [sortedHeap_old (Nat.ne_of_lt hb) (by rw [Heap.size_push]; exact Nat.lt_succ_of_lt hb)]
  exact Heap.get?_push_of_some _ e
 ·rw [Array.toArray_toList]; exact hc
 ·rw [<- ints_sorted (hp'.trans hp) hs']; exact hi'
theorem sorted_tups_of {x:Value} {vs:List Value} {tss:List (List Int)} {Q:Value -> Shared -> Prop} (h64:vs.length < 64) (hu:A.units + 2 < cLine)
  (hv:Paired (fun u ts => ∃ a its,u = Value.ref a /\ IsTup s.heap a its /\ IntsAre its.toList ts) vs tss)
  (hcol:∀ (Q':List Value -> Shared -> Prop),(∀ (h':Heap),(∀ b o,s.heap.get? b = some o -> h'.get? b = some o) -> Q' vs { s with heap:=h' }) -> wpAny (model P w) A.in1 (collect x) Q' E s)
  (h:∀ (h1 h':Heap) (p:Array Nat) (c:Nat),(∀ b o,s.heap.get? b = some o -> h1.get? b = some o) -> (∀ b o,h1.get? b = some o -> h'.get? b = some o) -> h'.get? h1.objs.size = some { cls:=.type "list",data:=.seq (p.toList.map fun i => vs.getD i Value.none).toArray c } ->
   PB vs.length p -> p.toList.map (fun i => tss.getD i []) = sortT tss -> Q (.ref h1.objs.size) { s with heap:=h' }) :
  wpAny (model P w) A (call (.builtin "sorted") [x]) Q E s:=by
 have hlen:vs.length = tss.length:=Paired.length hv
 refine Calls.call_function_entry kind_sorted plain_sorted entry_sorted (args_sorted1 _) ?_
 unfold Builtin.«sorted»
 refine wpAny_bind (m:=checkCount "sorted" 1 1 _) (wpAny_pure ?_)
 refine wpAny_bind (hcol _ fun h1 kp => ?_)
 refine wpAny_bind (wpAny_newList ?_ (by rw [sizeLine_eq]; omega))
 have hoL:(h1.push (seqObj "list" vs.toArray 0)).get? h1.objs.size = some (seqObj "list" vs.toArray 0):=Heap.get?_push_size _ rfl
 have at_:∀ (s':Shared),(∀ b o,b ≠ h1.objs.size -> (h1.push (seqObj "list" vs.toArray 0)).get? b = some o -> s'.heap.get? b = some o) -> ∀ i,i < vs.length -> ∃ a its,vs.getD i Value.none = .ref a /\ IsTup s'.heap a its /\ IntsAre its.toList (tss.getD i []):=fun s' k i hi => by
  have gen:∀ {us:List Value} {uss:List (List Int)},Paired (fun u ts => ∃ a its,u = Value.ref a /\ IsTup s.heap a its /\ IntsAre its.toList ts) us uss -> ∀ i,i < us.length -> ∃ a its,us.getD i Value.none = .ref a /\ IsTup s.heap a its /\ IntsAre its.toList (uss.getD i []):=by
   intro us uss hp
   induction hp with
   | nil => intro i hi; simp at hi
   | cons q _ ih =>
    intro i hi
    cases i with
    | zero => obtain ⟨a,its,e,r⟩:=q; exact ⟨a,its,by simpa using e,by simpa using r⟩
    | succ i => obtain ⟨a,its,e,r⟩:=ih i (by simpa using hi); exact ⟨a,its,by simpa using e,by simpa using r⟩
  obtain ⟨a,its,e,⟨o,ho,r⟩,hin⟩:=gen hv i hi
  have ho1:=kp a o ho
  exact ⟨a,its,e,⟨o,k a o (Nat.ne_of_lt (Heap.lt_size ho1)) (Heap.get?_push_of_some _ ho1),r⟩,hin⟩
 refine wpAny_bind (wpAny_holding (wpAny_call_entry slot_list_sort ⟨_,hoL,rfl⟩ entry_list_sort (list_sort_by (O:=lexOrd) (key:=fun i => tss.getD i []) hoL h64 (fun h2 s' Q' k q => kind_tups h2 (fun v hm => ?_) q) (fun κ hκ s' i j C k hi hj q => ?_) fun p hp hr => ⟨_,rfl,?_⟩) (args_list_sort _)))
 ·obtain ⟨i,hi,e⟩:=List.getElem_of_mem hm
  obtain ⟨a,its,e',r1,r2⟩:=at_ s' k i hi
  exact ⟨a,its,_,by rw [<- e',<- e]; simp [hi],r1,r2⟩
 ·obtain ⟨a,its,e,r1,r2⟩:=at_ s' k i hi
  obtain ⟨a',its',e',r1',r2'⟩:=at_ s' k j hj
  rw [e,e']
  exact lt_tups hκ r1 r1' r2 r2' (show A.units + 1 + 1 < cLine from hu) q
 ·obtain ⟨c,hc⟩:=sortedHeap_at (out:=(p.toList.map fun i => vs.getD i Value.none).toArray) (vs:=vs) hoL
  have hp':PB tss.length p:=by rw [<- hlen]; exact hp
  have hr':Rises (O:=lexOrd) (fun i => tss.getD i []) p tss.length:=by rw [<- hlen]; exact hr
  refine wpAny_pure ⟨_,rfl,h h1 _ p c kp (fun b o e => ?_) hc hp (out_eq (O:=lexOrd) (d:=([]:List Int)) (xs:=tss) hp' hr')⟩
  have hb:b < h1.objs.size:=Heap.lt_size e
  rw [sortedHeap_old (Nat.ne_of_lt hb) (by rw [Heap.size_push]; exact Nat.lt_succ_of_lt hb)]
  exact Heap.get?_push_of_some _ e
end
end Srt
section
variable {X:Cx}
theorem Inv.keptD {pins:List (Addr × Obj)} {σ:St} {H:Hp} {s:Shared} {h':Heap} {t':Nat} {d':Drawn} (I:Inv X pins σ H s) (k:∀ b u,s.heap.get? b = some u -> h'.get? b = some u):Inv X pins σ H { s with heap:=h',toks:=t',drawn:=d' } :=
 I.call (g':=s.gens) (d':=d') (t':=t') (ch:=[]) (Un.kept k) (I.hok.kept k) I.bare fun _ z => nomatch z
theorem ints_vals:∀ {vs:List Value} {ns:List Int},IntsAre vs ns -> Vals (ns.map V.int) vs:=vals_ints
noncomputable def rSortI (X:Cx):List V -> Hp -> VK -> Prop:=fun xs H Q => ∃ (p:Addr) (ks:List Int),xs = [.ref p] /\ (SqL X.K H p (ks.map V.int) \/ SqT X.K H p (ks.map V.int) \/ False) /\ ks.length < 64 /\ ∀ l:Addr,H l = none -> Q (.ref l) (upd H l (.lst ((Srt.sortI ks).map V.int)))
theorem call_sortedI (hc:X.calm = true):CallR X (.builtin "sorted") (rSortI X):=by
 intro pins s σ H xs us Q I r h
 obtain ⟨p,ks,rfl,hq,h64,q⟩:=h
 obtain ⟨u,rfl,rx⟩:=vals1 r
 cases rx
 have hh:=I.ok.hd hc
 refine Srt.sorted_ints_of (ks:=ks) h64 (fun Q' hQ' => ?_) fun h1 h' tk d' out c k1 k2 e hi => ?_
 ·rcases hq with hq | hq | hq
  ·obtain ⟨its,r',pl,hz⟩:=I.list hq
   obtain ⟨o,ho,hcl,n,hd⟩:=pl.isList
   refine wpAny_collect_seq p (.inl rfl) ho hcl hd (fun h' kp => ?_) (by have:=r'.length; simp only [List.size_toArray] <;> omega)
   exact hQ' h' s.toks s.drawn _ ks kp (.refl _) (by simpa using intsAre_of r')
  ·obtain ⟨its,r',pl,hz⟩:=I.tuple hq
   obtain ⟨o,ho,hcl,n,hd⟩:=pl
   refine wpAny_collect_seq p (.inr rfl) ho hcl hd (fun h' kp => ?_) (by have:=r'.length; simp only [List.size_toArray] <;> omega)
   exact hQ' h' s.toks s.drawn _ ks kp (.refl _) (by simpa using intsAre_of r')
  ·exact hq.elim
 ·have I1:Inv X pins σ H { s with heap:=h1,toks:=tk,drawn:=d' }:=I.keptD k1
  have I2:Inv X pins σ (upd H h1.objs.size (.lst ((Srt.sortI ks).map V.int))) { s with heap:=h',toks:=tk,drawn:=d' } :=
   I1.laid (t':=tk) k2 (Nat.le_refl _) (show ObjOk X.prog X.w _ h' _ (.lst _) from ⟨by rw [List.length_map,Srt.sortI_len,sizeLine_eq]; omega,out,c,ints_vals hi,e⟩)
  exact ⟨.ref h1.objs.size,_,I2,rfl,q _ (I1.hok.fresh (Nat.le_refl _))⟩
noncomputable def rSortT (X:Cx):List V -> Hp -> VK -> Prop:=fun xs H Q => ∃ (p:Addr) (vs:List V) (tss:List (List Int)),xs = [.ref p] /\ (SqL X.K H p vs \/ SqT X.K H p vs) /\ Tups X.K H vs tss /\ tss.length < 64 /\
 ∀ (l:Addr) (pm:List Nat),H l = none -> (∀ i ∈ pm,i < vs.length) -> pm.map (fun i => tss.getD i []) = Srt.sortT tss -> Q (.ref l) (upd H l (.lst (pm.map fun i => vs.getD i .non)))
theorem vals_pick {vs:List V} {us:List Value} (h:Vals vs us):∀ (l:List Nat),(∀ i ∈ l,i < vs.length) -> Vals (l.map fun i => vs.getD i .non) (l.map fun i => us.getD i Value.none)
 | [],_ => .nil
 | i :: l,hl => by
  have hi:=hl i (.head _)
  obtain ⟨u,e1,e2⟩:=h.get (i:=i) (x:=vs[i]) (List.getElem?_eq_getElem hi)
  refine .cons ?_ (vals_pick h l fun j hj => hl j (.tail _ hj))
  have q1:vs.getD i .non = vs[i]:=by simp [hi]
  have q2:us.getD i Value.none = u:=by rw [List.getD_eq_getElem?_getD,e1]; rfl
  show RelV (vs.getD i V.non) (us.getD i Value.none)
  rw [q1,q2]; exact e2
theorem call_sortedT (hu:X.A.units + 64 < cLine):CallR X (.builtin "sorted") (rSortT X):=by
 intro pins s σ H xs us Q I r h
 obtain ⟨p,vs,tss,rfl,hq,ht,h64,q⟩:=h
 obtain ⟨u,rfl,rx⟩:=vals1 r
 cases rx
 have key:∀ (its:List Value),Vals vs its -> vs.length <= sizeLine -> (∀ (Q':List Value -> Shared -> Prop),(∀ (h':Heap),(∀ b o,s.heap.get? b = some o -> h'.get? b = some o) -> Q' its { s with heap:=h' }) -> wpAny (model X.prog X.w) X.A.in1 (collect (.ref p)) Q' X.xe s) ->
   wpAny (model X.prog X.w) X.A (call (.builtin "sorted") [.ref p]) (EP X pins σ Q) X.xe s:=fun its r' hz hcol => by
  have hl:=r'.length
  have hl2:=ht.len
  refine Srt.sorted_tups_of (vs:=its) (tss:=tss) (by omega) (by omega) (I.tupsAt ht r') hcol fun h1 h' pm c k1 k2 e hp ho => ?_
  have hpl:∀ i ∈ pm.toList,i < vs.length:=fun i hi => by
   have:=(Array.perm_iff_toList_perm.mp hp).mem_iff.mp hi
   have:=List.mem_range.mp (by simpa using this)
   omega
  have I1:Inv X pins σ H { s with heap:=h1 }:=I.kept (t':=s.toks) k1
  have I2:Inv X pins σ (upd H h1.objs.size (.lst (pm.toList.map fun i => vs.getD i .non))) { s with heap:=h' } :=
   I1.laid (t':=s.toks) k2 (Nat.le_refl _) (show ObjOk X.prog X.w _ h' _ (.lst _) from ⟨by have:=hp.size; rw [List.length_map,Array.length_toList,sizeLine_eq]; omega,_,c,vals_pick r' _ hpl,e⟩)
  exact ⟨.ref h1.objs.size,_,I2,rfl,q _ pm.toList (I1.hok.fresh (Nat.le_refl _)) hpl ho⟩
 rcases hq with hq | hq
 ·obtain ⟨its,r',pl,hz⟩:=I.list hq
  obtain ⟨o,ho,hcl,n,hd⟩:=pl.isList
  refine key its r' hz fun Q' hQ' => wpAny_collect_seq p (.inl rfl) ho hcl hd (fun h' kp => ?_) (by have:=r'.length; simp only [List.size_toArray] <;> omega)
  have:=hQ' h' kp
  simpa using this
 ·obtain ⟨its,r',pl,hz⟩:=I.tuple hq
  obtain ⟨o,ho,hcl,n,hd⟩:=pl
  refine key its r' hz fun Q' hQ' => wpAny_collect_seq p (.inr rfl) ho hcl hd (fun h' kp => ?_) (by have:=r'.length; simp only [List.size_toArray] <;> omega)
  have:=hQ' h' kp
  simpa using this
end
end L2
namespace L2.En
open PySem PyProof.Rows
open AutoSeq1 (wpAny_loadPart')
section
variable {P:Program} {w:World} {A:Around} {E:Value -> Shared -> Prop} {s:Shared}
theorem next_entry {it t:Addr} {i:Nat} {Q:Value -> Shared -> Prop} (hit:s.heap.IsTupleIter it t i)
  (h:wpAny (model P w) A.in1 (Builtin.«tuple_iterator.__next__» ⟨[.ref it],[]⟩) (fun fin s' => ∃ v,fin = .done (.ret v) /\ Q v s') E s):wpAny (model P w) A (Builtin.SmallTypes.nextOf (.ref it)) Q E s:=by
 unfold Builtin.SmallTypes.nextOf
 refine wpAny_bind (wpAny_callSpecial?_slot (name:=Str.ofString "__next__") hit.typeIs F.slot_tuple_iterator_next ?_)
 refine wpAny_call_entry F.slot_tuple_iterator_next hit.typeIs F.entry_tuple_iterator_next ?_ (F.args_tuple_iterator_next_1 _)
 refine wpAny_mono h (fun fin s' hv => ?_) fun _ _ z => z
 obtain ⟨v,rfl,q⟩:=hv
 exact ⟨v,rfl,wpAny_pure q⟩
theorem stop_ {α:Type} {Q:α -> Shared -> Prop} (hh:A.handled = none) (h:∀ h' e,(∀ b o,s.heap.get? b = some o -> h'.get? b = some o) -> (∃ o,h'.get? e = some o /\ o.cls = .type "StopIteration") -> E (.ref e) { s with heap:=h' }) :
  wpAny (model P w) A (Builtin.SmallTypes.stopIteration:Sem α) Q E s:=by
 unfold Builtin.SmallTypes.stopIteration newExc
 obtain ⟨hp,g,d,tk,os⟩:=s
 wp_walk
 exact wpAny_raiseNew_none hh (h _ _ (fun b o q => Heap.get?_push_of_some _ (Heap.get?_push_of_some _ q)) ⟨_,Heap.get?_push_size _ rfl,rfl⟩)
theorem next_item {it t:Addr} {i:Nat} {items:Array Value} {Q:Value -> Shared -> Prop} (hh:A.handled = none) (hit:s.heap.IsTupleIter it t i) (ht:s.heap.IsTuple t items)
  (hQ:∀ x h',items[i]? = some x -> h'.IsTupleIter it t (i + 1) -> Heap.SameBut it s.heap h' -> Q x { s with heap:=h' })
  (hE:∀ h' e,items[i]? = none -> Heap.ExtBut it s.heap h' -> (∃ o,h'.get? e = some o /\ o.cls = .type "StopIteration") -> E (.ref e) { s with heap:=h' }):wpAny (model P w) A (Builtin.SmallTypes.nextOf (.ref it)) Q E s:=by
 refine next_entry hit ?_
 obtain ⟨⟨c1,d1,t1,l1⟩,h1,e1,e2⟩:=hit
 obtain ⟨⟨c2,d2,t2,l2⟩,h2,e3,n2,e4⟩:=ht
 cases e1
 cases e2
 cases e3
 cases e4
 obtain ⟨hp,g,d,tk,os⟩:=s
 unfold Builtin.«tuple_iterator.__next__»
 wp_walk using wpAny_loadPart' h1,wpAny_loadPart' h2
 have self:∀ (k:Nat) (v:Value),(hp.update it (Obj.mapFields (·.setIfInBounds k v))).get? it = some { cls:=.type "tuple_iterator",dict:=d1,data:=.fields ((#[.ref t,.int (i:Int) 0]:Array Value).setIfInBounds k v),slots:=l1 }:=fun k v => Heap.get?_update_self _ h1 rfl
 rw [Int.toNat_natCast]
 cases hx:items[i]? with
 | some x =>
  refine wpAny_bind (wpAny_setField h1 rfl (by simp) (wpAny_pure ⟨x,rfl,hQ x _ hx ⟨_,self 1 _,rfl,?_⟩ (Heap.SameBut.update ..)⟩))
  simp [rawInt]
 | none =>
  refine wpAny_bind (wpAny_rule (wpAny_bind (wpAny_setField h1 rfl (by simp) (stop_ (by simpa using hh) fun h' e k st => ?_))))
  exact hE h' e hx (fun b o hb q => k b o ((Heap.SameBut.update hp it _).extBut b o hb q)) st
theorem draws (hh:A.handled = none) (it t:Addr) (hne:t ≠ it) (items:Array Value):Draws P w A it [it,t] items.size (fun i v => items[i]? = some v) (fun i h => h.IsTupleIter it t i /\ h.IsTuple t items) where
 live:=fun _ _ ⟨⟨o,ho,_⟩,_⟩ => ⟨o,ho⟩
 frame:=fun i h h' ⟨⟨o,ho,r⟩,⟨o2,ho2,r2⟩⟩ k => ⟨⟨o,k it (.head _) o ho,r⟩,⟨o2,k t (.tail _ (.head _)) o2 ho2,r2⟩⟩
 item:=fun i s Q E hi ⟨h1,h2⟩ hQ => next_item hh h1 h2 (fun x h' hx h3 sb => hQ x h' s.toks hx ⟨h3,h2.extBut sb.extBut hne⟩ sb) fun h' e hx _ _ => absurd hx (by simp; omega)
 done:=fun s Q E ⟨h1,h2⟩ hE => next_item hh h1 h2 (fun x h' hx _ _ => absurd hx (by simp)) fun h' e _ eb st => hE h' e eb st
theorem any_bool {b:Bool} {Q:Bool -> Shared -> Prop} (h:∀ c,Q c s):wpAny (model P w) A (pure b) Q E s:=wpAny_pure (h b)
theorem new_tup (l:Addr) (items:Array Value) (n:Nat) (dct:Option Addr) (sl:Array (Option Value)) :
  Meets (Builtin.«enumerate.__new__» ⟨[.type "enumerate",.ref l],[]⟩) (fun _ R s => s.heap.get? l = some { cls:=.type "tuple",dict:=dct,data:=.seq items n,slots:=sl } /\
   R (.ok (.ret (.ref (s.heap.push { cls:=.type "tuple_iterator",data:=.fields #[.ref l,.int 0 0] }).objs.size)))
    { s with heap:=(s.heap.push { cls:=.type "tuple_iterator",data:=.fields #[.ref l,.int 0 0] }).push { cls:=.type "enumerate",data:=.fields #[.none,.bool false,.ref s.heap.objs.size,rawInt 0,.none,.none] } }):=by
 refine .of_wp fun P w A R s h => ?_
 obtain ⟨hp,g,d,tk,os⟩:=s
 have tl:Heap.IsTuple (Shared.heap ⟨hp,g,d,tk,os⟩) l items:=⟨_,h.1,rfl,n,rfl⟩
 have en:=sub_enumerate
 wp_walk using wpAny_loadPart' h.1
 apply wpAny_stack_any
 intro st
 refine any_bool fun c => ?_
 cases c
 ·wp_walk using wpAny_pyIter_tuple tl
  exact ⟨_,rfl,h.2⟩
 ·wp_walk using wpAny_pyIter_tuple tl
  exact ⟨_,rfl,h.2⟩
theorem call_tup {l:Addr} {items:Array Value} {Q:Value -> Shared -> Prop} (ht:s.heap.IsTuple l items)
  (h:∀ h',IsEnum h' (s.heap.objs.size + 1) s.heap.objs.size 0 .none -> h'.IsTupleIter s.heap.objs.size l 0 -> h'.objs.size = s.heap.objs.size + 2 ->
   (∀ b o,s.heap.get? b = some o -> h'.get? b = some o) -> Q (.ref (s.heap.objs.size + 1)) { s with heap:=h' }):wpAny (model P w) A (call (.type "enumerate") [.ref l]) Q E s:=by
 obtain ⟨⟨c,dct,dt,sl⟩,hl,hc,n,hd⟩:=ht
 cases hc
 cases hd
 have made:=new_tup l items n dct sl
 refine callType_new F.called_enumerate (by decide) (F.typeCall_enumerate_1 _) (F.newCall_enumerate_1 _) (fun v => F.args_object_init_2 v _) F.entry_enumerate_new made ⟨hl,?_⟩
 generalize hi:({ cls:=.type "tuple_iterator",data:=.fields #[.ref l,.int 0 0] }:Obj) = io
 generalize ho:({ cls:=.type "enumerate",data:=.fields #[.none,.bool false,.ref s.heap.objs.size,rawInt 0,.none,.none] }:Obj) = eo
 have z:(s.heap.push io).objs.size = s.heap.objs.size + 1:=Heap.size_push ..
 have g1:((s.heap.push io).push eo).get? (s.heap.objs.size + 1) = some eo:=by
  rw [<- z]
  exact Heap.get?_push_size _ (by rw [<- ho]; rfl)
 have g2:((s.heap.push io).push eo).get? s.heap.objs.size = some io:=Heap.get?_push_of_some _ (Heap.get?_push_size _ (by rw [<- hi]; rfl))
 show Shared.TypeIs _ (.ref (s.heap.push io).objs.size) _ /\ Q (.ref (s.heap.push io).objs.size) _
 rw [z]
 refine ⟨⟨_,g1,by rw [<- ho]⟩,h _ (by rw [<- ho] at g1; rw [<- ho]; exact g1) ⟨_,g2,by rw [<- hi],by rw [<- hi]; rfl⟩ (by rw [Heap.size_push,z]) fun b o q => Heap.get?_push_of_some _ (Heap.get?_push_of_some _ q)⟩
end
end L2.En
namespace L2.Dv
open PySem PyProof.Rows
open AutoSeq1 (wpAny_loadPart')
section
variable {P:Program} {w:World} {A:Around} {E:Value -> Shared -> Prop} {s:Shared}
noncomputable def Ents (h:Heap) (d:Addr) (es:Array DictEntry) (ep:Nat):Prop:=∃ o,h.get? d = some o /\ o.ExactDict /\ o.data = .dict es ep
theorem Ents.at {h h':Heap} {d:Addr} {es:Array DictEntry} {ep:Nat} (x:Ents h d es ep) (k:∀ o,h.get? d = some o -> h'.get? d = some o):Ents h' d es ep:=by
 obtain ⟨o,ho,r⟩:=x
 exact ⟨o,k o ho,r⟩
theorem Ents.type {d:Addr} {es:Array DictEntry} {ep:Nat} (x:Ents s.heap d es ep):s.TypeIs (.ref d) "dict":=by
 obtain ⟨o,ho,r,_⟩:=x
 exact ⟨o,ho,r.1⟩
theorem iter_of {v d:Addr} {es:Array DictEntry} {ep:Nat} {Q:Value -> Shared -> Prop} (hv:s.heap.IsValuesView v d) (x:Ents s.heap d es ep)
  (h:Q (.ref s.heap.objs.size) { s with heap:=s.heap.push { cls:=.type "dict_valueiterator",data:=.fields #[.ref d,.int 0 0,.int es.size 0,.int ep 0] } }):wpAny (model P w) A (pyIter (.ref v)) Q E s:=by
 refine wpAny_pyIter_slot hv.typeIs F.slot_dict_values_iter (wpAny_call_entry F.slot_dict_values_iter hv.typeIs F.entry_dict_values_iter ?_ (F.args_dict_values_iter_1 _))
 obtain ⟨⟨c1,d1,t1,l1⟩,h1,hx,e2⟩:=x
 have e1:=hx.1
 cases e1
 cases e2
 obtain ⟨⟨c3,d3,t3,l3⟩,h3,e3,e4⟩:=hv
 cases e3
 cases e4
 obtain ⟨hp,g,dr,tk,os⟩:=s
 unfold Builtin.«dict_values.__iter__»
 wp_walk using wpAny_loadPart' h1,wpAny_loadPart' h3
 exact ⟨_,rfl,_,_,⟨_,Heap.get?_push_size _ rfl,rfl⟩,F.slot_dict_valueiterator_next.lookup,h⟩
theorem next_of {it d:Addr} {i:Nat} {es:Array DictEntry} {ep:Nat} {Q:Option Value -> Shared -> Prop} (hh:A.handled = none) (hv:s.heap.IsValIter it d i es.size ep) (x:Ents s.heap d es ep)
  (h1:∀ e h',es[i]? = some e -> h'.IsValIter it d (i + 1) es.size ep -> Heap.SameBut it s.heap h' -> Q (some e.val) { s with heap:=h' })
  (h2:∀ h',es[i]? = none -> Heap.ExtBut it s.heap h' -> Q none { s with heap:=h' }):wpAny (model P w) A (pyNext (.ref it)) Q E s:=by
 have ty:=hv.typeIs
 obtain ⟨⟨c1,d1,t1,l1⟩,g1,hx,e2⟩:=x
 have e1:=hx.1
 cases e1
 cases e2
 obtain ⟨⟨c3,d3,t3,l3⟩,g3,e3,e4⟩:=hv
 cases e3
 cases e4
 obtain ⟨hp,g,dr,tk,os⟩:=s
 unfold pyNext
 refine wpAny_bind (wpAny_attempt (wpAny_callSpecial?_slot (name:=Str.ofString "__next__") ty F.slot_dict_valueiterator_next (wpAny_call_entry F.slot_dict_valueiterator_next ty F.entry_dict_valueiterator_next ?_ (F.args_dict_valueiterator_next_1 _))))
 unfold Builtin.«dict_valueiterator.__next__»
 wp_walk using wpAny_loadPart' g1,wpAny_loadPart' g3
 rw [if_neg (by omega),Int.toNat_natCast]
 have self:∀ (k:Nat) (v:Value),(hp.update it (Obj.mapFields (·.setIfInBounds k v))).get? it = some { cls:=.type "dict_valueiterator",dict:=d3,data:=.fields ((#[.ref d,.int (i:Int) 0,.int (es.size:Int) 0,.int (ep:Int) 0]:Array Value).setIfInBounds k v),slots:=l3 }:=fun k v => Heap.get?_update_self _ g3 rfl
 cases hx:es[i]? with
 | some e =>
  have g4:=self 1 (rawInt ((i:Int) + 1))
  wp_walk using wpAny_loadPart' g3,wpAny_loadPart' g4
  exact ⟨_,rfl,wpAny_pure (h1 e _ hx ⟨_,g4,rfl,rfl⟩ (Heap.SameBut.update ..))⟩
 | none =>
  refine wpAny_bind (wpAny_mono (Q:=fun (n:Nat) (s':Shared) => n = 0 /\ s' = ⟨hp,g,dr,tk,os⟩) (E:=fun _ _ => False) ?_ (fun n s' q => ?_) fun _ _ z => z.elim)
  ·wp_walk using wpAny_loadPart' g3
   exact ⟨by decide +kernel,rfl⟩
  obtain ⟨rfl,rfl⟩:=q
  refine wpAny_bind (wpAny_setField g3 rfl (by simp) ?_)
  refine St.stop_here (v:=.none) (vs:=#[]) (it:=0) (Q:=fun _ _ => True) (by simpa using hh) fun e s' kp ⟨h',eq⟩ hT => ?_
  subst eq
  refine wpAny_bind (wpAny_isInstance (T:="StopIteration") (b:=true) hT isSubtype_stop ?_)
  exact wpAny_pure (h2 h' hx fun b o hb q => kp b o ((Heap.SameBut.update hp it _).extBut b o hb q))
theorem src {r d:Addr} {es:Array DictEntry} {ep:Nat}:PySem.W.KdlSrc P w "dict_values" r d es.size (fun i v => ∃ e,es[i]? = some e /\ v = e.val) (fun h => h.IsValuesView r d /\ Ents h d es ep) where
 type:=fun _ q => q.1.typeIs
 there:=fun _ ⟨⟨o,ho,_⟩,⟨o',ho',_⟩⟩ => ⟨Heap.lt_size ho,Heap.lt_size ho'⟩
 keep:=fun _ _ ⟨⟨o,ho,z⟩,x⟩ k => ⟨⟨o,k r (.inl rfl) o ho,z⟩,x.at fun o e => k d (.inr rfl) o e⟩
 notList:=by decide
 notTuple:=by decide
 hint:=fun _ _ _ _ q z => PySem.W.kdl_hint_values q.1.typeIs z
 iter:=fun A s hh ⟨q,x⟩ => by
  have lt:d < s.heap.objs.size:=by obtain ⟨o,ho,_⟩:=x; exact Heap.lt_size ho
  have ne:d ≠ s.heap.objs.size:=Nat.ne_of_lt lt
  refine ⟨{ cls:=.type "dict_valueiterator",data:=.fields #[.ref d,.int 0 0,.int es.size 0,.int ep 0] },fun i h => h.IsValIter s.heap.objs.size d i es.size ep /\ Ents h d es ep,fun E Q z => iter_of q x z,?_,⟨_,Heap.get?_push_size _ rfl,rfl,rfl⟩,x.at fun o e => Heap.get?_push_of_some _ e⟩
  refine ⟨fun b hb => by simp at hb; simp [hb],fun i h h' ⟨⟨o,ho,z⟩,y⟩ k => ⟨⟨o,k _ (by simp) o ho,z⟩,y.at fun o e => k d (by simp) o e⟩,fun i s' Q E hi ⟨y,z⟩ hQ => ?_,fun s' Q E ⟨y,z⟩ hQ => ?_,fun i s' Q E ⟨y,z⟩ hQ => ?_⟩
  ·refine next_of hh y z (fun e h' he y' sb => ?_) fun h' he _ => absurd he (by simp; omega)
   exact hQ _ h' s'.toks ⟨e,he,rfl⟩ ⟨y',z.at fun o q => sb.extBut d o ne q⟩ fun b o hb q => sb.extBut b o (fun w => hb (by simp [w])) q
  ·refine next_of hh y z (fun e h' he _ _ => absurd he (by simp)) fun h' _ eb => ?_
   exact hQ h' s'.toks fun b o hb q => eb b o (fun w => hb (by simp [w])) q
  ·exact wpAny_pyIter_valiter y hQ
end
end L2.Dv
namespace HT
open PySem PyProof.Rows
section
variable {prog:Program} {w:World} {A:Around} {E:Value -> Shared -> Prop} {s:Shared}
theorem getItem_tuple_whole {t sl:Addr} {items:Array Value} {vl vu:Value} {lo hi:Option Int} {Q:Value -> Shared -> Prop} (ht:IsTup s.heap t items) (hs:s.heap.IsSliceOf sl vl vu .none) (pl:IsPart vl lo) (pu:IsPart vu hi)
  (h0:sIx items.size 0 lo = 0) (h1:sIx items.size items.size hi = items.size) (h:Q (.ref t) s):wpAny (model prog w) A (getItem (.ref t) (.ref sl)) Q E s:=by
 have hTs:s.TypeIs (.ref sl) "slice":=by obtain ⟨os,hos,hcs,_⟩:=hs; exact ⟨os,hos,hcs⟩
 unfold getItem
 try with_reducible refine wpAny_holding ?_
 first | refine wpAny_bind (wpAny_pure ?_) | skip
 refine wpAny_bind (wpAny_sequenceKey ht.typeIs (by decide) ?_)
 refine wpAny_bind (wpAny_callSpecial?_slot (name:=Str.ofString "__getitem__") ht.typeIs PyProof.Rows.slot_tuple_getitem
  (wpAny_call_entry PyProof.Rows.slot_tuple_getitem ht.typeIs entry_tuple_getitem ?_ (args_tuple_getitem _ _)))
 show wpAny _ _ (Builtin.Tuple.tupleItemsOf (.ref t) >>= _) _ _ s
 refine wpAny_bind (tupleItemsOf_ ht ?_)
 refine wpAny_bind (wpAny_typeOf hTs ?_)
 rw [if_pos (by decide)]
 refine wpAny_bind (sliceApplied_gen hs pl pu ?_)
 show wpAny _ _ (if (((sIx items.size 0 lo:Nat):Int) == 0 && (1:Int) == 1 && (sIx items.size items.size hi - sIx items.size 0 lo) == items.size) = true then _ else _) _ _ s
 rw [h0,h1,if_pos (by simp)]
 unfold Builtin.Tuple.tupleIsExact
 refine wpAny_bind (wpAny_bind (wpAny_typeOf ht.typeIs (wpAny_pure ?_)))
 rw [if_pos (by decide)]
 refine wpAny_bind (wpAny_rule ?_)
 exact wpAny_pure ⟨_,rfl,wpAny_pure h⟩
end
end HT
namespace L2
open PySem PySem.Spec PyProof.Rows
section
variable {X:Cx}
theorem sl_tupW:SlR X (fun x lo hi H Q => ∃ a xs,x = .ref a /\ SqT X.K H a xs /\ HT.sIx xs.length 0 lo = 0 /\ HT.sIx xs.length xs.length hi = xs.length /\ Q (.ref a) H):=by
 intro pins s σ H x v vl vu lo hi sl Q I rx hs pl pu h
 obtain ⟨a,xs,rfl,hx,h0,h1,q⟩:=h
 cases rx
 obtain ⟨its,r,ht,hz⟩:=I.tuple hx
 have hlen:its.toArray.size = xs.length:=by rw [List.size_toArray]; exact r.length.symm
 refine ⟨"tuple",_,PyProof.Rows.slot_tuple_getitem.lookup,ht.typeIs,?_⟩
 exact HT.getItem_tuple_whole ht hs pl pu (by rw [hlen]; exact h0) (by rw [hlen]; exact h1) ⟨.ref a,H,I,rfl,q⟩
end
end L2
namespace L2.Rv
open PySem PyProof.Rows
section
variable {P:Program} {w:World} {A:Around} {E:Value -> Shared -> Prop} {s:Shared}
noncomputable def Drawn (items:Array Value) (i:Nat) (v:Value):Prop:=items[items.size - 1 - i]? = some v
end
end L2.Rv
namespace L2
open PySem PySem.Spec PyProof.Rows
section
variable {X:Cx}
end
end L2
namespace L2.Rg
open PySem PyProof.Rows
section
variable {P:Program} {w:World} {A:Around} {E:Value -> Shared -> Prop} {s:Shared}
end
end L2.Rg
namespace L2
open PySem PySem.Spec PyProof.Rows
section
variable {X:Cx}
end
end L2
namespace MM
open PySem
inductive Sc where
 | non | bl (b:Bool) | int (i:Int) | str (x:Str)
 deriving Inhabited,DecidableEq
inductive DD where
 | k (kvs:List (Int × Sc)) | t (kvs:List (List Int × Sc))
 deriving Inhabited
inductive PV where
 | non | bl (b:Bool) | int (i:Int) | str (x:Str) | tup (xs:List PV) | lst (xs:List PV) | dI (d:DD)
 deriving Inhabited
noncomputable def Sc.pv:Sc -> PV
 | .non => .non
 | .bl b => .bl b
 | .int i => .int i
 | .str x => .str x
noncomputable def sc?:PV -> Option Sc
 | .non => some .non
 | .bl b => some (.bl b)
 | .int i => some (.int i)
 | .str x => some (.str x)
 | _ => none
noncomputable def dGetL {α:Type} [DecidableEq α] (kvs:List (α × Sc)) (k:α):Option Sc:=(kvs.find? fun p => decide (p.1 = k)).map (·.2)
noncomputable def dPutL {α:Type} [DecidableEq α] (kvs:List (α × Sc)) (k:α) (v:Sc):List (α × Sc) :=
 if (kvs.any fun p => decide (p.1 = k)) = true then kvs.map (fun p => if p.1 = k then (p.1,v) else p) else kvs ++ [(k,v)]
noncomputable def eqL (f:PV -> PV -> Option Bool):List PV -> List PV -> Option Bool
 | [],[] => some true
 | x :: xs,y :: ys => (f x y).bind fun p => (eqL f xs ys).map fun q => p && q
 | _,_ => some false
noncomputable def eqF:Nat -> PV -> PV -> Option Bool
 | _,.non,.non => some true
 | _,.bl a,.bl b => some (a == b)
 | _,.bl a,.int b => some ((if a then 1 else 0) == b)
 | _,.int a,.bl b => some (a == (if b then 1 else 0))
 | _,.int a,.int b => some (a == b)
 | _,.str a,.str b => some (a == b)
 | 0,.tup _,.tup _ => none
 | 0,.lst _,.lst _ => none
 | _,.dI _,_ => none
 | _,_,.dI _ => none
 | n + 1,.tup a,.tup b => eqL (eqF n) a b
 | n + 1,.lst a,.lst b => if a.length = b.length then eqL (eqF n) a b else some false
 | _,_,_ => some false
noncomputable def neOk:PV -> PV -> Bool
 | .tup _,.tup _ => true
 | .lst _,.lst _ => true
 | .tup _,_ => false
 | _,.tup _ => false
 | .lst _,_ => false
 | _,.lst _ => false
 | .bl _,.int _ => false
 | .int _,.bl _ => false
 | .dI _,_ => false
 | _,.dI _ => false
 | _,_ => true
noncomputable def inL (f:PV -> Option Bool):List PV -> Option Bool
 | [] => some false
 | y :: ys => (f y).bind fun p => (inL f ys).map fun q => p || q
inductive MV where
 | val (v:PV) | own (xs:List PV) | brw (xs:List PV) | ownD (d:DD) | brwD (d:DD)
 | ownO (m:Bool) (fs xs:List PV) | brwO (fs xs:List PV)
 deriving Inhabited
noncomputable abbrev Rho:=List (Option MV)
inductive Op2 where
 | add | sub | mul | fdiv | mod | pow | shr
 deriving DecidableEq
inductive Cp where
 | eq | ne | lt | le | gt | ge | isN | notN | isIn | notIn
 deriving DecidableEq
inductive Blt where
 | len | tupleOf | listOf | sorted | any | all | sum | max1 | min1 | max2 | min2 | intOf | boolOf | isInt | isBool | isStr | isList | isTuple
 | sortedSet | lenSet | lenSetSub | sortedKeys | valuesOf | tupleRev
 deriving DecidableEq
inductive Sk where
 | seq | rng | enm | rev
 deriving DecidableEq
set_option genInjectivity false in
inductive ME where
 | var (i:Nat)
 | bor (i:Nat)
 | cst (v:PV)
 | glob (x:Str) (v:PV)
 | bin (op:Op2) (a b:ME)
 | neg (a:ME)
 | not (a:ME)
 | and (a b:ME)
 | or (a b:ME)
 | ite (c a b:ME)
 | cmp (op:Cp) (a b:ME)
 | chain (op op':Cp) (a b c:ME)
 | tup (es:List ME)
 | lst (es:List ME)
 | idx (a i:ME)
 | slice (a lo hi:ME)
 | blt (b:Blt) (es:List ME)
 | call (f:Nat) (es:List ME)
 | callD (f:Nat) (es:List ME) (d:List Sc)
 | comp (k:Sk) (src:List ME) (js:List Nat) (cond elt:ME)
 | dget (a k d:ME)
 | dat (a k:ME)
 | dIn (neg:Bool) (k a:ME)
 | fld (i n:Nat)
 | fldL (i:Nat)
 | inO (neg:Bool) (e:ME) (i:Nat)
 | callM (f i:Nat) (es:List ME)
 | comp2 (src:List ME) (js:List Nat) (cond elt:ME)
 | callV (f:Nat) (es:List ME)
 deriving Inhabited
noncomputable def ints?:List PV -> Option (List Int)
 | [] => some []
 | .int i :: r => (ints? r).map (i :: ·)
 | _ => none
noncomputable def tups?:List PV -> Option (List (List Int))
 | [] => some []
 | .tup xs :: r => (ints? xs).bind fun x => (tups? r).map (x :: ·)
 | _ => none
noncomputable def bools?:List PV -> Option (List Bool)
 | [] => some []
 | .bl i :: r => (bools? r).map (i :: ·)
 | _ => none
noncomputable def dGet:PV -> PV -> Option (Option Sc)
 | .dI (.k kvs),.int i => some (dGetL kvs i)
 | .dI (.t kvs),.tup xs => (ints? xs).map (dGetL kvs)
 | _,_ => none
noncomputable def dPut:DD -> PV -> Sc -> Option DD
 | .k kvs,.int i,s => if kvs.length < 10000 then some (.k (dPutL kvs i s)) else none
 | .t kvs,.tup xs,s => (ints? xs).bind fun k => if kvs.length < 10000 then some (.t (dPutL kvs k s)) else none
 | _,_,_ => none
noncomputable def dSc:DD -> List Sc
 | .k kvs => kvs.map (·.2)
 | .t kvs => kvs.map (·.2)
noncomputable def dVals (d:DD):List PV:=(dSc d).map Sc.pv
noncomputable def lexLt:List Int -> List Int -> Bool
 | [],[] => false
 | [],_ :: _ => true
 | _ :: _,[] => false
 | x :: xs,y :: ys => if x = y then lexLt xs ys else decide (x < y)
noncomputable def insI (x:Int):List Int -> List Int
 | [] => [x]
 | y :: r => if y < x then y :: insI x r else x :: y :: r
noncomputable def sortI:List Int -> List Int
 | [] => []
 | x :: r => insI x (sortI r)
noncomputable def insT (x:List Int):List (List Int) -> List (List Int)
 | [] => [x]
 | y :: r => if lexLt y x = true then y :: insT x r else x :: y :: r
noncomputable def sortT:List (List Int) -> List (List Int)
 | [] => []
 | x :: r => insT x (sortT r)
noncomputable def dd:List Int -> List Int
 | [] => []
 | x :: r => if x ∈ dd r then dd r else x :: dd r
noncomputable def int2 {α:Type} (f:Int -> Int -> Option α):PV -> PV -> Option α
 | .int i,.int j => f i j
 | _,_ => none
noncomputable def addOp:PV -> PV -> Option PV
 | .int i,.int j => some (.int (i + j))
 | .lst a,.lst b => if a.length + b.length <= 10000 then some (.lst (a ++ b)) else none
 | .tup a,.tup b => if a.length + b.length <= 10000 then some (.tup (a ++ b)) else none
 | .str a,.str b => if a.length + b.length <= 1000000 then some (.str (a ++ b)) else none
 | _,_ => none
noncomputable def binOp (op:Op2):PV -> PV -> Option PV:=match op with
 | .add => addOp
 | .sub => int2 fun i j => some (.int (i - j))
 | .mul => int2 fun i j => if (-(2 ^ 64) < i /\ i < 2 ^ 64) \/ (-(2 ^ 64) < j /\ j < 2 ^ 64) then some (.int (i * j)) else none
 | .fdiv => int2 fun i j => if 0 < j /\ j < 1073741824 then some (.int (i / j)) else none
 | .mod => int2 fun i j => if 0 < j then some (.int (i % j)) else none
 | .pow => int2 fun i j => if 0 <= j /\ j <= 1000000 /\ i.natAbs < 2 ^ 64 then some (.int (i ^ j.toNat)) else none
 | .shr => int2 fun i j => if 0 <= j then some (.int (i / 2 ^ j.toNat)) else none
noncomputable def isNon:PV -> Bool
 | .non => true
 | _ => false
noncomputable def isIn (x:PV) (xs:List PV):Option Bool:=inL (fun y => eqF 100 y x) xs
noncomputable def isOp (a b:PV):Option Bool:=match b with
 | .non => some (isNon a)
 | .bl q => (match a with | .bl p => some (p == q) | _ => none)
 | _ => none
noncomputable def seq?:PV -> Option (List PV)
 | .tup xs => some xs
 | .lst xs => some xs
 | _ => none
noncomputable def lst?:PV -> Option (List PV)
 | .lst xs => some xs
 | _ => none
noncomputable def cmpOp (op:Cp):PV -> PV -> Option Bool:=match op with
 | .eq => eqF 100
 | .ne => fun a b => if neOk a b = true then (eqF 100 a b).map fun p => !p else none
 | .lt => int2 fun i j => some (decide (i < j))
 | .le => int2 fun i j => some (decide (i <= j))
 | .gt => int2 fun i j => some (decide (j < i))
 | .ge => int2 fun i j => some (decide (j <= i))
 | .isN => isOp
 | .notN => fun a b => (isOp a b).map fun p => !p
 | .isIn => fun a b => (seq? b).bind (isIn a)
 | .notIn => fun a b => ((seq? b).bind (isIn a)).map fun p => !p
noncomputable def place (n:Nat) (i:Int):Option Nat :=
 if 0 <= i then (if i < n then some i.toNat else none) else if -(n:Int) <= i then some (i + n).toNat else none
noncomputable def idxOp:PV -> PV -> Option PV
 | .tup xs,.int i => (place xs.length i).bind fun j => xs[j]?
 | .lst xs,.int i => (place xs.length i).bind fun j => xs[j]?
 | _,_ => none
noncomputable def cutAt (n d:Nat):Option Int -> Nat
 | none => d
 | some i => if i < 0 then (i + n).toNat else min i.toNat n
noncomputable def cut (xs:List PV) (lo hi:Option Int):List PV:=(xs.drop (cutAt xs.length 0 lo)).take (cutAt xs.length xs.length hi - cutAt xs.length 0 lo)
noncomputable def sliceOp:PV -> Option Int -> Option Int -> Option PV
 | .lst xs,lo,hi => some (.lst (cut xs lo hi))
 | .tup xs,lo,hi => some (.tup (cut xs lo hi))
 | _,_,_ => none
noncomputable def bnd:ME -> PV -> Option (Option Int)
 | .cst .non,_ => some none
 | _,.int i => some (some i)
 | _,_ => none
noncomputable def maxI:List Int -> Option Int
 | [] => none
 | x :: r => some (r.foldl (fun a b => if a < b then b else a) x)
noncomputable def sortOp (xs:List PV):Option PV :=
 if xs.length < 64 then
  match ints? xs with
  | some ns => some (.lst ((sortI ns).map .int))
  | none => (tups? xs).map fun ts => .lst ((sortT ts).map fun t => .tup (t.map .int))
 else none
noncomputable def isT (b:Blt):PV -> Bool
 | .int _ => b == .isInt
 | .bl _ => b == .isInt || b == .isBool
 | .str _ => b == .isStr
 | .lst _ => b == .isList
 | .tup _ => b == .isTuple
 | .non => false
 | .dI _ => false
noncomputable def isD:PV -> Bool
 | .dI _ => true
 | _ => false
noncomputable def one1 (vs:List PV) (f:PV -> Option PV):Option PV:=match vs with
 | [a] => f a
 | _ => none
noncomputable def two1 (vs:List PV) (f:PV -> PV -> Option PV):Option PV:=match vs with
 | [a,b] => f a b
 | _ => none
noncomputable def isOf (b:Blt) (vs:List PV):Option PV:=one1 vs fun a => if isD a = true then none else some (.bl (isT b a))
noncomputable def lenOf:PV -> Option PV
 | .tup xs => some (.int xs.length)
 | .lst xs => some (.int xs.length)
 | .dI (.k kvs) => some (.int kvs.length)
 | _ => none
noncomputable def bltOp (b:Blt) (vs:List PV):Option PV:=match b with
 | .len => one1 vs lenOf
 | .tupleOf => one1 vs fun a => (seq? a).map .tup
 | .listOf => one1 vs fun a => (seq? a).map .lst
 | .sorted => one1 vs fun a => (seq? a).bind sortOp
 | .any => one1 vs fun a => (lst? a).bind fun xs => (bools? xs).map fun bs => .bl (bs.any id)
 | .all => one1 vs fun a => (lst? a).bind fun xs => (bools? xs).map fun bs => .bl (bs.all id)
 | .sum => one1 vs fun a => (lst? a).bind fun xs => (ints? xs).map fun ns => .int ns.sum
 | .max1 => one1 vs fun a => (lst? a).bind fun xs => (ints? xs).bind fun ns => (maxI ns).map .int
 | .min1 => none
 | .max2 => two1 vs (int2 fun i j => some (.int (if j > i then j else i)))
 | .min2 => two1 vs (int2 fun i j => some (.int (if j < i then j else i)))
 | .intOf => one1 vs fun a => match a with | .int i => some (.int i) | .bl b => some (.int (if b then 1 else 0)) | _ => none
 | .boolOf => one1 vs fun a => match a with | .bl b => some (.bl b) | _ => none
 | .isInt => isOf .isInt vs
 | .isBool => isOf .isBool vs
 | .isStr => isOf .isStr vs
 | .isList => isOf .isList vs
 | .isTuple => isOf .isTuple vs
 | .sortedSet => one1 vs fun a => (seq? a).bind fun xs => (ints? xs).bind fun ns => if ns.length <= 1000 /\ (dd ns).length < 64 then some (.lst ((sortI (dd ns)).map .int)) else none
 | .lenSet => one1 vs fun a => (seq? a).bind fun xs => (ints? xs).bind fun ns => if ns.length <= 1000 then some (.int (dd ns).length) else none
 | .lenSetSub => two1 vs fun a b => (seq? a).bind fun xs => (ints? xs).bind fun ns => (seq? b).bind fun ys => (ints? ys).bind fun ms =>
   if ns.length <= 1000 /\ ms.length <= 1000 /\ (dd ns).length <= 60 then some (.int ((dd ns).filter fun n => !decide (n ∈ ms)).length) else none
 | .sortedKeys => one1 vs fun a => match a with | .dI (.k kvs) => if kvs.length < 64 then some (.lst ((sortI (kvs.map (·.1))).map .int)) else none | _ => none
 | .tupleRev => one1 vs fun a => (lst? a).map fun xs => .tup xs.reverse
 | .valuesOf => one1 vs fun a => match a with | .dI d => if (dVals d).length <= 10000 then some (.lst (dVals d)) else none | _ => none
noncomputable def enumFrom (n:Nat):List PV -> List PV
 | [] => []
 | x :: r => .tup [.int (n:Nat),x] :: enumFrom (n + 1) r
noncomputable def srcOf:Sk -> List PV -> Option (List PV)
 | .seq,[a] => seq? a
 | .rng,[.int j] => if -(2 ^ 62) <= j /\ j < 2 ^ 62 then some ((List.range j.toNat).map fun (k:Nat) => .int ((0:Int) + k)) else none
 | .rng,[.int i,.int j] => if -(2 ^ 62) <= i /\ i < 2 ^ 62 /\ -(2 ^ 62) <= j /\ j < 2 ^ 62 then some ((List.range (j - i).toNat).map fun (k:Nat) => .int (i + k)) else none
 | .enm,[a] => (seq? a).map (enumFrom 0)
 | .rev,[.lst xs] => some xs.reverse
 | _,_ => none
noncomputable def compGo (c:PV -> Option Bool) (f:PV -> Option PV):List PV -> Option (List PV)
 | [] => some []
 | x :: r => (c x).bind fun b => if b = true then (f x).bind fun y => (compGo c f r).map (y :: ·) else compGo c f r
noncomputable def boolOf?:PV -> Option Bool
 | .bl b => some b
 | _ => none
noncomputable abbrev Cal:=Nat -> List MV -> Option PV
noncomputable def varOf:Option MV -> Option PV
 | some (.val v) => some v
 | _ => none
noncomputable def borOf:Option MV -> Option PV
 | some (.val v) => some v
 | some (.own xs) => some (.lst xs)
 | some (.brw xs) => some (.lst xs)
 | some (.ownD kvs) => some (.dI kvs)
 | some (.brwD kvs) => some (.dI kvs)
 | some (.ownO _ _ _) => none
 | some (.brwO _ _) => none
 | none => none
noncomputable def argOf:Option MV -> Option MV
 | some (.val v) => some (.val v)
 | some (.own xs) => some (.brw xs)
 | some (.brw xs) => some (.brw xs)
 | some (.ownD xs) => some (.brwD xs)
 | some (.brwD xs) => some (.brwD xs)
 | some (.ownO _ fs xs) => some (.brwO fs xs)
 | some (.brwO fs xs) => some (.brwO fs xs)
 | none => none
noncomputable def capOf:Option MV -> Option MV
 | some (.own xs) => some (.brw xs)
 | some (.ownD xs) => some (.brwD xs)
 | some (.ownO _ fs xs) => some (.brwO fs xs)
 | o => o
noncomputable def blkR (js:List Nat) (ρ:Rho) (x:PV):Rho:=some (.val x) :: js.map fun j => capOf (ρ[j]?).join
noncomputable def obOf:Option MV -> Option (List PV × List PV)
 | some (.ownO _ fs xs) => some (fs,xs)
 | some (.brwO fs xs) => some (fs,xs)
 | _ => none
noncomputable def lentL:Option MV -> Option PV
 | some (.brwO _ xs) => some (.lst xs)
 | _ => none
noncomputable def unB:MV -> MV
 | .brw xs => .val (.lst xs)
 | m => m
noncomputable def blk2 (js:List Nat) (ρ:Rho):PV -> Rho
 | .tup [a,b] => some (.val a) :: some (.val b) :: js.map fun j => capOf (ρ[j]?).join
 | _ => []
noncomputable def ownLs:Option MV -> Option PV
 | some (.ownO _ _ xs) => some (.lst xs)
 | _ => none
mutual
noncomputable def ev (cal:Cal):ME -> Rho -> Option PV
 | .var i,ρ => varOf (ρ[i]?).join
 | .bor i,ρ => borOf (ρ[i]?).join
 | .cst v,_ => some v
 | .glob _ v,_ => some v
 | .bin op a b,ρ => (ev cal a ρ).bind fun x => (ev cal b ρ).bind fun y => binOp op x y
 | .neg a,ρ => (ev cal a ρ).bind fun x => match x with | .int i => some (.int (-i)) | _ => none
 | .not a,ρ => ((ev cal a ρ).bind boolOf?).map fun b => .bl (!b)
 | .and a b,ρ => ((ev cal a ρ).bind boolOf?).bind fun c => if c = true then (ev cal b ρ).bind fun y => (boolOf? y).map .bl else some (.bl false)
 | .or a b,ρ => ((ev cal a ρ).bind boolOf?).bind fun c => if c = true then some (.bl true) else (ev cal b ρ).bind fun y => (boolOf? y).map .bl
 | .ite c a b,ρ => ((ev cal c ρ).bind boolOf?).bind fun k => if k = true then ev cal a ρ else ev cal b ρ
 | .cmp op a b,ρ => (ev cal a ρ).bind fun x => (ev cal b ρ).bind fun y => (cmpOp op x y).map .bl
 | .chain op op' a b c,ρ => (ev cal a ρ).bind fun x => (ev cal b ρ).bind fun y => (cmpOp op x y).bind fun k => if k = true then (ev cal c ρ).bind fun z => (cmpOp op' y z).map .bl else some (.bl false)
 | .tup es,ρ => (evs cal es ρ).bind fun vs => if vs.length <= 10000 then some (.tup vs) else none
 | .lst es,ρ => (evs cal es ρ).bind fun vs => if vs.length <= 10000 then some (.lst vs) else none
 | .idx a i,ρ => (ev cal a ρ).bind fun x => (ev cal i ρ).bind fun y => idxOp x y
 | .slice a lo hi,ρ => (ev cal a ρ).bind fun x => ((ev cal lo ρ).bind fun l => bnd lo l).bind fun l => ((ev cal hi ρ).bind fun h => bnd hi h).bind fun h => sliceOp x l h
 | .blt b es,ρ => (evs cal es ρ).bind fun vs => bltOp b vs
 | .call f es,ρ => (evA cal es ρ).bind fun vs => cal f vs
 | .callD f es d,ρ => (evA cal es ρ).bind fun vs => cal f (vs ++ d.map fun x => .val x.pv)
 | .comp k src js cond elt,ρ => (evs cal src ρ).bind fun vs => (srcOf k vs).bind fun xs =>
   if xs.length <= 10000 then (compGo (fun x => (ev cal cond (blkR js ρ x)).bind boolOf?) (fun x => ev cal elt (blkR js ρ x)) xs).map .lst else none
 | .dget a k d,ρ => (ev cal a ρ).bind fun x => (ev cal k ρ).bind fun y => (ev cal d ρ).bind fun z => (dGet x y).bind fun o => (sc? z).map fun s => (o.getD s).pv
 | .dat a k,ρ => (ev cal a ρ).bind fun x => (ev cal k ρ).bind fun y => (dGet x y).bind fun o => o.map Sc.pv
 | .dIn neg k a,ρ => (ev cal k ρ).bind fun y => (ev cal a ρ).bind fun x => (dGet x y).map fun o => .bl (if neg = true then !o.isSome else o.isSome)
 | .fld i n,ρ => (obOf (ρ[i]?).join).bind fun o => o.1[n]?
 | .fldL i,ρ => lentL (ρ[i]?).join
 | .inO neg e i,ρ => (ev cal e ρ).bind fun y => (ownLs (ρ[i]?).join).bind fun x => (cmpOp (if neg = true then .notIn else .isIn) y x).map .bl
 | .callM f i es,ρ => (obOf (ρ[i]?).join).bind fun o => (evA cal es ρ).bind fun vs => cal f (.brwO o.1 o.2 :: vs)
 | .callV f es,ρ => (evA cal es ρ).bind fun vs => (cal f (vs.map unB)).bind fun r => (sc? r).map fun _ => r
 | .comp2 src js cond elt,ρ => (evs cal src ρ).bind fun vs => (srcOf .enm vs).bind fun xs =>
   if xs.length <= 10000 then (compGo (fun x => (ev cal cond (blk2 js ρ x)).bind boolOf?) (fun x => ev cal elt (blk2 js ρ x)) xs).map .lst else none
noncomputable def evs (cal:Cal):List ME -> Rho -> Option (List PV)
 | [],_ => some []
 | e :: es,ρ => (ev cal e ρ).bind fun v => (evs cal es ρ).map (v :: ·)
noncomputable def evA (cal:Cal):List ME -> Rho -> Option (List MV)
 | [],_ => some []
 | .bor i :: es,ρ => (argOf (ρ[i]?).join).bind fun v => (evA cal es ρ).map (v :: ·)
 | .fldL _ :: _,_ => none
 | e :: es,ρ => (ev cal e ρ).bind fun v => (evA cal es ρ).map (MV.val v :: ·)
end
noncomputable def evB (cal:Cal) (e:ME) (ρ:Rho):Option Bool:=(ev cal e ρ).bind boolOf?
set_option genInjectivity false in
inductive MS where
 | set (i:Nat) (e:ME)
 | setOwn (i:Nat) (e:ME)
 | freeze (i:Nat)
 | append (i:Nat) (e:ME)
 | extend (i:Nat) (e:ME)
 | mkO (i:Nat) (es:List ME)
 | appO (i:Nat) (e:ME)
 | retT (e:ME)
 | takeO (j:Option Nat) (i f:Nat) (es:List ME)
 | setIdx (i:Nat) (k v:ME)
 | unpack (is:List Nat) (e:ME)
 | expr (e:ME)
 | ite (c:ME) (a b:List MS)
 | for1 (i:Nat) (k:Sk) (src:List ME) (body:List MS)
 | forT (is:List Nat) (k:Sk) (src:List ME) (body:List MS)
 | while (n:Nat) (c:ME) (body:List MS)
 | ret (e:ME)
 | retOwn (i:Nat)
 | retN
 | brk
 | cont
 | pass
 | never
 | newD (m:Bool) (i:Nat)
 | retF (e:ME)
 | setCall (i f:Nat) (es:List ME)
 | clear (i:Nat)
 | dput (i:Nat) (k v:ME)
 deriving Inhabited
inductive R where
 | next (ρ:Rho) | brk (ρ:Rho) | cont (ρ:Rho) | ret (v:PV) | bad
 | retF (xs:List PV)
 | retT (v:Sc) (ρ:Rho)
 deriving Inhabited
noncomputable def R.andThen:R -> (Rho -> R) -> R
 | .next ρ,k => k ρ
 | r,_ => r
noncomputable def put (ρ:Rho) (i:Nat) (v:MV):Rho:=ρ.set i (some v)
noncomputable def bindR (o:Option PV) (k:PV -> R):R:=match o with
 | some v => k v
 | none => .bad
noncomputable def bindB (o:Option Bool) (k:Bool -> R):R:=match o with
 | some v => k v
 | none => .bad
noncomputable def puts:List Nat -> List PV -> Rho -> Option Rho
 | [],[],ρ => some ρ
 | i :: is,v :: vs,ρ => puts is vs (put ρ i (.val v))
 | _,_,_ => none
noncomputable def unTup (is:List Nat):PV -> Rho -> Option Rho
 | .tup vs,ρ => puts is vs ρ
 | _,_ => none
noncomputable def bindO (o:Option Rho) (f:Rho -> R):R:=match o with
 | some ρ => f ρ
 | none => .bad
noncomputable def forGo (body:PV -> Rho -> R):List PV -> Rho -> R
 | [],ρ => .next ρ
 | x :: r,ρ => match body x ρ with
  | .next ρ' => forGo body r ρ'
  | .cont ρ' => forGo body r ρ'
  | .brk ρ' => .next ρ'
  | .ret v => .ret v
  | .bad => .bad
  | .retF xs => .retF xs
  | .retT v ρ' => .retT v ρ'
noncomputable def whileGo (c:Rho -> Option Bool) (body:Rho -> R):Nat -> Rho -> R
 | 0,_ => .bad
 | n + 1,ρ => match c ρ with
  | none => .bad
  | some false => .next ρ
  | some true => match body ρ with
   | .next ρ' => whileGo c body n ρ'
   | .cont ρ' => whileGo c body n ρ'
   | .brk ρ' => .next ρ'
   | .ret v => .ret v
   | .bad => .bad
   | .retF xs => .retF xs
   | .retT v ρ' => .retT v ρ'
noncomputable def lend (src:List ME) (ρ:Rho):Rho:=match src with
 | [.bor i] => (match (ρ[i]?).join with | some (.own xs) => put ρ i (.brw xs) | _ => ρ)
 | _ => ρ
noncomputable def giveBack (src:List ME) (ρ₀ ρ:Rho):Rho:=match src with
 | [.bor i] => (match (ρ₀[i]?).join,(ρ[i]?).join with | some (.own _),some (.brw xs) => put ρ i (.own xs) | _,_ => ρ)
 | _ => ρ
noncomputable def R.back (src:List ME) (ρ₀:Rho):R -> R
 | .next ρ => .next (giveBack src ρ₀ ρ)
 | .brk ρ => .brk (giveBack src ρ₀ ρ)
 | .cont ρ => .cont (giveBack src ρ₀ ρ)
 | .retT v ρ => .retT v (giveBack src ρ₀ ρ)
 | r => r
noncomputable def isL:MV -> Bool
 | .ownO _ _ _ => true
 | _ => false
noncomputable def noLx (ρ:Rho) (i:Nat):Bool:=(ρ.set i none).all fun o => match o with | some m => !isL m | none => true
noncomputable def mkFs:List PV -> Option (List PV)
 | [.tup [c,r],o] => some [c,r,o]
 | [.tup [c,r]] => some [c,r,.str "weaver"]
 | _ => none
mutual
noncomputable def ex (cal:Cal):MS -> Rho -> R
 | .set i e,ρ => bindR (ev cal e ρ) fun v => .next (put ρ i (.val v))
 | .setOwn i e,ρ => bindR (ev cal e ρ) fun v => match v with | .lst xs => .next (put ρ i (.own xs)) | _ => .bad
 | .freeze i,ρ => match (ρ[i]?).join with | some (.own xs) => .next (put ρ i (.val (.lst xs))) | some _ => .next ρ | none => .bad
 | .append i e,ρ => bindR (ev cal e ρ) fun v => match (ρ[i]?).join with
  | some (.own xs) => if xs.length < 10000 then .next (put ρ i (.own (xs ++ [v]))) else .bad
  | _ => .bad
 | .extend i e,ρ => bindR (ev cal e ρ) fun v => match (ρ[i]?).join,seq? v with
  | some (.own xs),some ys => if xs.length + ys.length <= 10000 then .next (put ρ i (.own (xs ++ ys))) else .bad
  | _,_ => .bad
 | .mkO i es,ρ => match (evs cal es ρ).bind mkFs with
  | some fs => if noLx ρ i = true /\ cal 4000 [] ≠ none then .next (put ρ i (.ownO false fs [])) else .bad
  | none => .bad
 | .appO i e,ρ => bindR (ev cal e ρ) fun v => match (ρ[i]?).join with
  | some (.ownO m fs xs) => if xs.length < 10000 then .next (put ρ i (.ownO m fs (xs ++ [v]))) else .bad
  | _ => .bad
 | .retT e,ρ => bindR (ev cal e ρ) fun v => match sc? v with
  | some s => .retT s ρ
  | none => .bad
 | .takeO j i f es,ρ => match (ρ[i]?).join with
  | some (.ownO m fs xs) => (match (evs cal es ρ).bind fun vs => cal (f + 3000) (.ownO true fs xs :: vs.map .val) with
   | some (.tup [v,.lst ys]) => (match sc? v with
    | some _ => (match j with
     | some j => if i = j then .bad else .next (put (put ρ i (.ownO m fs ys)) j (.val v))
     | none => .next (put ρ i (.ownO m fs ys)))
    | none => .bad)
   | _ => .bad)
  | _ => .bad
 | .setIdx i k v,ρ => bindR (ev cal v ρ) fun v => bindR (ev cal k ρ) fun k => match (ρ[i]?).join,k with
  | some (.own xs),.int k => (match place xs.length k with | some j => .next (put ρ i (.own (xs.set j v))) | none => .bad)
  | _,_ => .bad
 | .unpack is e,ρ => bindR (ev cal e ρ) fun v => bindO (unTup is v ρ) .next
 | .expr e,ρ => bindR (ev cal e ρ) fun _ => .next ρ
 | .ite c a b,ρ => bindB (evB cal c ρ) fun k => if k = true then exs cal a ρ else exs cal b ρ
 | .for1 i k src body,ρ => match (evs cal src ρ).bind (srcOf k) with
  | some xs => (forGo (fun x ρ' => exs cal body (put ρ' i (.val x))) xs (lend src ρ)).back src ρ
  | none => .bad
 | .forT is k src body,ρ => match (evs cal src ρ).bind (srcOf k) with
  | some xs => (forGo (fun x ρ' => bindO (unTup is x ρ') fun ρ'' => exs cal body ρ'') xs (lend src ρ)).back src ρ
  | none => .bad
 | .while n c body,ρ => whileGo (evB cal c) (fun ρ' => exs cal body ρ') n ρ
 | .ret e,ρ => bindR (ev cal e ρ) .ret
 | .retOwn i,ρ => match (ρ[i]?).join with | some (.own xs) => .ret (.lst xs) | some (.ownD kvs) => .ret (.dI kvs) | some (.val v) => .ret v | _ => .bad
 | .newD m i,ρ => .next (put ρ i (.ownD (if m = true then .t [] else .k [])))
 | .dput i k v,ρ => bindR (ev cal v ρ) fun v => bindR (ev cal k ρ) fun k => match (ρ[i]?).join,sc? v with
  | some (.ownD d),some s => match dPut d k s with | some d' => .next (put ρ i (.ownD d')) | none => .bad
  | _,_ => .bad
 | .retF e,ρ => bindR (ev cal e ρ) fun v => match v with | .lst xs => .retF xs | _ => .bad
 | .setCall i f es,ρ => bindR ((evA cal es ρ).bind fun vs => cal (f + 1000) vs) fun v => match v with | .lst xs => .next (put ρ i (.own xs)) | _ => .bad
 | .clear i,ρ => match (ρ[i]?).join with | some (.own _) => .next (put ρ i (.own [])) | _ => .bad
 | .retN,_ => .ret .non
 | .brk,ρ => .brk ρ
 | .cont,ρ => .cont ρ
 | .pass,ρ => .next ρ
 | .never,_ => .bad
noncomputable def exs (cal:Cal):List MS -> Rho -> R
 | [],ρ => .next ρ
 | s :: ss,ρ => (ex cal s ρ).andThen fun ρ' => exs cal ss ρ'
end
structure MD where
 name:Str
 params:List Str
 names:List Str
 body:List MS
 meth:Option Str:=none
 deriving Inhabited
noncomputable def endO:Sc -> Rho -> Option PV
 | v,some (.ownO true _ xs) :: _ => some (.tup [v.pv,.lst xs])
 | _,_ => none
noncomputable def callN (ds:List MD):Nat -> Cal
 | 0,_,_ => none
 | n + 1,f,args => match ds[f]? with
  | none => if f = 4000 then (if 1 <= n then some (.bl true) else none) else if 2000 <= f then (match ds[f - 3000]? with
   | none => none
   | some d => if args.length = d.params.length then
     (match exs (callN ds n) d.body (args.map some ++ List.replicate (d.names.length - args.length) none) with
     | .retT v ρ => endO v ρ
     | _ => none) else none) else
   (match ds[f - 1000]? with
   | none => none
   | some d => if args.length = d.params.length then
     (match exs (callN ds n) d.body (args.map some ++ List.replicate (d.names.length - args.length) none) with
     | .retF xs => some (.lst xs)
     | _ => none) else none)
  | some d => if args.length = d.params.length then
    (match exs (callN ds n) d.body (args.map some ++ List.replicate (d.names.length - args.length) none) with
    | .next _ => some .non
    | .ret v => some v
    | .retF xs => some (.lst xs)
    | _ => none) else none
end MM
namespace MM
open PySem PySem.Spec PyProof.Rows L2
noncomputable abbrev St:=L2.St
noncomputable def hide (H:Hp) (O:List Addr):Hp:=fun b => if b ∈ O then none else H b
theorem hide_in {H:Hp} {O:List Addr} {b:Addr} (h:b ∈ O):hide H O b = none:=if_pos h
theorem hide_out {H:Hp} {O:List Addr} {b:Addr} (h:b ∉ O):hide H O b = H b:=if_neg h
theorem Same.rd {H H':Hp} (s:Same H H') {a:Addr} {u:HO} (h:Rd H a u):Rd H' a u:=h.elim (fun e => .inl (s a _ e)) fun ⟨o,e⟩ => .inr ⟨o,s a _ e⟩
theorem hide_le (H:Hp) (O:List Addr):Same (hide H O) H:=fun b u e => by
 unfold hide at e
 split at e
 ·cases e
 ·exact e
theorem hide_mono {H H':Hp} {O O':List Addr} (s:Same H H') (h:∀ b ∈ O',b ∈ O \/ H b = none):Same (hide H O) (hide H' O'):=fun b u e => by
 have hb:b ∉ O:=fun z => by rw [hide_in z] at e; cases e
 rw [hide_out hb] at e
 rw [hide_out]
 ·exact s b u e
 ·intro z
  rcases h b z with q | q
  ·exact hb q
  ·rw [q] at e; cases e
theorem hide_same {H H':Hp} {O:List Addr} (s:Same H H'):Same (hide H O) (hide H' O):=hide_mono s fun _ h => .inl h
noncomputable def Sc.v:Sc -> V
 | .non => .non
 | .bl b => .bl b
 | .int i => .int i
 | .str x => .str x
noncomputable def encK (kvs:List (Int × Sc)):List (Key × V):=kvs.map fun p => (Sum.inl p.1,p.2.v)
noncomputable def encT (kvs:List (List Int × Sc)):List (List Key × V):=kvs.map fun p => (p.1.map Sum.inl,p.2.v)
noncomputable def encD:DD -> HO
 | .k kvs => .dK (encK kvs)
 | .t kvs => .dT (encT kvs)
mutual
noncomputable def Rep (K:PySem.W.Frag) (F:Hp):PV -> V -> Prop
 | .non,u => u = .non
 | .bl b,u => u = .bl b
 | .int i,u => u = .int i
 | .str x,u => u = .str x
 | .tup xs,u => ∃ a us,u = .ref a /\ F a = some (.tup us) /\ Reps K F xs us
 | .lst xs,u => ∃ a us,u = .ref a /\ SqL K F a us /\ Reps K F xs us
 | .dI kvs,u => ∃ a,u = .ref a /\ Rd F a (encD kvs)
noncomputable def Reps (K:PySem.W.Frag) (F:Hp):List PV -> List V -> Prop
 | [],us => us = []
 | x :: xs,us => ∃ u r,us = u :: r /\ Rep K F x u /\ Reps K F xs r
end
section
variable {K:PySem.W.Frag} {F F':Hp}
mutual
theorem Rep.mono (s:Same F F'):∀ (x:PV) {u:V},Rep K F x u -> Rep K F' x u
 | .non,_,h => by simpa only [Rep] using h
 | .bl _,_,h => by simpa only [Rep] using h
 | .int _,_,h => by simpa only [Rep] using h
 | .str _,_,h => by simpa only [Rep] using h
 | .tup xs,_,h => by
  rw [Rep] at h ⊢
  obtain ⟨a,us,e,q,r⟩:=h
  exact ⟨a,us,e,s a _ q,Reps.mono s xs r⟩
 | .lst xs,_,h => by
  rw [Rep] at h ⊢
  obtain ⟨a,us,e,q,r⟩:=h
  exact ⟨a,us,e,s.seq q,Reps.mono s xs r⟩
 | .dI kvs,_,h => by
  rw [Rep] at h ⊢
  obtain ⟨a,e,q⟩:=h
  exact ⟨a,e,Same.rd s q⟩
theorem Reps.mono (s:Same F F'):∀ (xs:List PV) {us:List V},Reps K F xs us -> Reps K F' xs us
 | [],_,h => by simpa only [Reps] using h
 | x :: xs,_,h => by
  rw [Reps] at h ⊢
  obtain ⟨u,r,e,q,t⟩:=h
  exact ⟨u,r,e,Rep.mono s x q,Reps.mono s xs t⟩
end
theorem Reps.nil:Reps K F [] []:=by rw [Reps]
theorem Reps.cons {x:PV} {xs:List PV} {u:V} {us:List V} (h:Rep K F x u) (t:Reps K F xs us):Reps K F (x :: xs) (u :: us):=by
 rw [Reps]; exact ⟨u,us,rfl,h,t⟩
theorem Reps.length:∀ {xs:List PV} {us:List V},Reps K F xs us -> xs.length = us.length
 | [],_,h => by rw [Reps] at h; subst h; rfl
 | x :: xs,_,h => by
  rw [Reps] at h
  obtain ⟨u,r,e,_,t⟩:=h
  subst e
  simp [Reps.length t]
theorem Reps.get:∀ {xs:List PV} {us:List V} {i:Nat} {x:PV},Reps K F xs us -> xs[i]? = some x -> ∃ u,us[i]? = some u /\ Rep K F x u
 | [],_,_,_,_,e => by simp at e
 | x :: xs,_,i,y,h,e => by
  rw [Reps] at h
  obtain ⟨u,r,rfl,q,t⟩:=h
  cases i with
  | zero => simp at e; subst e; exact ⟨u,by simp,q⟩
  | succ i => obtain ⟨w,h1,h2⟩:=Reps.get (i:=i) t (by simpa using e); exact ⟨w,by simpa using h1,h2⟩
theorem Reps.get':∀ {xs:List PV} {us:List V} {i:Nat} {u:V},Reps K F xs us -> us[i]? = some u -> ∃ x,xs[i]? = some x /\ Rep K F x u
 | [],_,i,_,h,e => by rw [Reps] at h; subst h; simp at e
 | x :: xs,_,i,y,h,e => by
  rw [Reps] at h
  obtain ⟨u,r,rfl,q,t⟩:=h
  cases i with
  | zero => simp at e; subst e; exact ⟨x,by simp,q⟩
  | succ i => obtain ⟨w,h1,h2⟩:=Reps.get' (i:=i) t (by simpa using e); exact ⟨w,by simpa using h1,h2⟩
theorem Reps.append:∀ {xs ys:List PV} {us ws:List V},Reps K F xs us -> Reps K F ys ws -> Reps K F (xs ++ ys) (us ++ ws)
 | [],_,_,_,h,g => by rw [Reps] at h; subst h; exact g
 | x :: xs,_,_,_,h,g => by
  rw [Reps] at h
  obtain ⟨u,r,rfl,q,t⟩:=h
  exact .cons q (Reps.append t g)
theorem Reps.snoc {xs:List PV} {us:List V} {x:PV} {u:V} (h:Reps K F xs us) (g:Rep K F x u):Reps K F (xs ++ [x]) (us ++ [u]):=h.append (.cons g .nil)
theorem Reps.take:∀ {xs:List PV} {us:List V} (n:Nat),Reps K F xs us -> Reps K F (xs.take n) (us.take n)
 | _,_,0,_ => by simpa using Reps.nil
 | [],_,n + 1,h => by rw [Reps] at h; subst h; simpa using Reps.nil
 | x :: xs,_,n + 1,h => by
  rw [Reps] at h
  obtain ⟨u,r,rfl,q,t⟩:=h
  exact .cons q (Reps.take n t)
theorem Reps.drop:∀ {xs:List PV} {us:List V} (n:Nat),Reps K F xs us -> Reps K F (xs.drop n) (us.drop n)
 | _,_,0,h => h
 | [],_,n + 1,h => by rw [Reps] at h; subst h; simpa using Reps.nil
 | x :: xs,_,n + 1,h => by
  rw [Reps] at h
  obtain ⟨u,r,rfl,q,t⟩:=h
  exact Reps.drop n t
theorem Reps.set:∀ {xs:List PV} {us:List V} {x:PV} {u:V} (n:Nat),Reps K F xs us -> Rep K F x u -> Reps K F (xs.set n x) (us.set n u)
 | [],_,_,_,n,h,_ => by rw [Reps] at h; subst h; simpa using Reps.nil
 | x :: xs,_,_,_,0,h,g => by
  rw [Reps] at h
  obtain ⟨u,r,rfl,q,t⟩:=h
  exact .cons g t
 | x :: xs,_,_,_,n + 1,h,g => by
  rw [Reps] at h
  obtain ⟨u,r,rfl,q,t⟩:=h
  exact .cons q (Reps.set n t g)
theorem Reps.ints:∀ {ns:List Int} {us:List V},Reps K F (ns.map .int) us -> us = ns.map V.int
 | [],_,h => by simpa [Reps] using h
 | n :: ns,_,h => by
  rw [List.map_cons,Reps] at h
  obtain ⟨u,r,rfl,q,t⟩:=h
  rw [Rep] at q
  rw [q,Reps.ints t]; rfl
theorem Reps.of_ints:∀ (ns:List Int),Reps K F (ns.map .int) (ns.map V.int)
 | [] => .nil
 | n :: ns => .cons (by rw [Rep]) (Reps.of_ints ns)
theorem ints?_eq:∀ {xs:List PV} {ns:List Int},ints? xs = some ns -> xs = ns.map .int
 | [],_,h => by simp [ints?] at h; subst h; rfl
 | .int i :: r,ns,h => by
  simp only [ints?,Option.map_eq_some_iff] at h
  obtain ⟨ms,h1,rfl⟩:=h
  rw [ints?_eq h1]; rfl
 | .non :: _,_,h => by simp [ints?] at h
 | .bl _ :: _,_,h => by simp [ints?] at h
 | .str _ :: _,_,h => by simp [ints?] at h
 | .tup _ :: _,_,h => by simp [ints?] at h
 | .lst _ :: _,_,h => by simp [ints?] at h
 | .dI _ :: _,_,h => by simp [ints?] at h
theorem tups?_eq:∀ {xs:List PV} {ns:List (List Int)},tups? xs = some ns -> xs = ns.map fun t => .tup (t.map .int)
 | [],_,h => by simp [tups?] at h; subst h; rfl
 | .tup i :: r,ns,h => by
  simp only [tups?,Option.bind_eq_some_iff,Option.map_eq_some_iff] at h
  obtain ⟨t,h0,ms,h1,rfl⟩:=h
  rw [tups?_eq h1,ints?_eq h0]; rfl
 | .non :: _,_,h => by simp [tups?] at h
 | .bl _ :: _,_,h => by simp [tups?] at h
 | .str _ :: _,_,h => by simp [tups?] at h
 | .int _ :: _,_,h => by simp [tups?] at h
 | .lst _ :: _,_,h => by simp [tups?] at h
 | .dI _ :: _,_,h => by simp [tups?] at h
theorem bools?_eq:∀ {xs:List PV} {ns:List Bool},bools? xs = some ns -> xs = ns.map .bl
 | [],_,h => by simp [bools?] at h; subst h; rfl
 | .bl i :: r,ns,h => by
  simp only [bools?,Option.map_eq_some_iff] at h
  obtain ⟨ms,h1,rfl⟩:=h
  rw [bools?_eq h1]; rfl
 | .non :: _,_,h => by simp [bools?] at h
 | .int _ :: _,_,h => by simp [bools?] at h
 | .str _ :: _,_,h => by simp [bools?] at h
 | .tup _ :: _,_,h => by simp [bools?] at h
 | .lst _ :: _,_,h => by simp [bools?] at h
 | .dI _ :: _,_,h => by simp [bools?] at h
end
noncomputable def RepB (K:PySem.W.Frag) (H:Hp) (O:List Addr) (v:PV) (u:V):Prop :=
 Rep K (hide H O) v u \/ (∃ xs a us,v = .lst xs /\ u = .ref a /\ SqL K H a us /\ Reps K (hide H O) xs us) \/ ∃ kvs a,v = .dI kvs /\ u = .ref a /\ Rd H a (encD kvs)
section
variable {K:PySem.W.Frag} {H H':Hp} {O:List Addr}
theorem RepB.of {v:PV} {u:V} (h:Rep K (hide H O) v u):RepB K H O v u:=.inl h
theorem RepB.mono (s:Same H H') {v:PV} {u:V} (h:RepB K H O v u):RepB K H' O v u:=by
 rcases h with h | ⟨xs,a,us,e1,e2,q,r⟩ | ⟨kvs,a,e1,e2,q⟩
 ·exact .inl (Rep.mono (hide_same s) _ h)
 ·exact .inr (.inl ⟨xs,a,us,e1,e2,s.seq q,Reps.mono (hide_same s) _ r⟩)
 ·exact .inr (.inr ⟨kvs,a,e1,e2,Same.rd s q⟩)
theorem RepB.lst {xs:List PV} {u:V} (h:RepB K H O (.lst xs) u):∃ a us,u = .ref a /\ SqL K H a us /\ Reps K (hide H O) xs us:=by
 rcases h with h | ⟨ys,a,us,e1,e2,q,r⟩ | ⟨kvs,a,e1,e2,q⟩
 ·rw [Rep] at h
  obtain ⟨a,us,e,q,r⟩:=h
  exact ⟨a,us,e,(hide_le H O).seq q,r⟩
 ·cases e1
  exact ⟨a,us,e2,q,r⟩
 ·cases e1
theorem RepB.tupH {xs:List PV} {u:V} (h:RepB K H O (.tup xs) u):∃ a us,u = .ref a /\ H a = some (.tup us) /\ Reps K (hide H O) xs us:=by
 rcases h with h | ⟨ys,a,us,e1,e2,q,r⟩ | ⟨kvs,a,e1,e2,q⟩
 ·rw [Rep] at h
  obtain ⟨a,us,e,q,r⟩:=h
  exact ⟨a,us,e,hide_le H O a _ q,r⟩
 ·cases e1
 ·cases e1
theorem RepB.tup {xs:List PV} {u:V} (h:RepB K H O (.tup xs) u):∃ a us,u = .ref a /\ SqT K H a us /\ Reps K (hide H O) xs us:=by
 obtain ⟨a,us,e,q,r⟩:=h.tupH
 exact ⟨a,us,e,SqT.of q,r⟩
theorem RepB.tupR {xs:List PV} {u:V} (h:RepB K H O (.tup xs) u):Rep K (hide H O) (.tup xs) u:=by
 rcases h with h | ⟨ys,a,us,e1,e2,q,r⟩ | ⟨kvs,a,e1,e2,q⟩
 ·exact h
 ·cases e1
 ·cases e1
theorem RepB.dI {kvs:DD} {u:V} (h:RepB K H O (.dI kvs) u):∃ a,u = .ref a /\ Rd H a (encD kvs):=by
 rcases h with h | ⟨ys,a,us,e1,e2,q,r⟩ | ⟨kvs,a,e1,e2,q⟩
 ·rw [Rep] at h
  obtain ⟨a,e,q⟩:=h
  exact ⟨a,e,Same.rd (hide_le H O) q⟩
 ·cases e1
 ·cases e1
  exact ⟨a,e2,q⟩
theorem RepB.int {i:Int} {u:V} (h:RepB K H O (.int i) u):u = .int i:=by
 rcases h with h | ⟨ys,a,us,e1,e2,q,r⟩ | ⟨kvs,a,e1,e2,q⟩
 ·rw [Rep] at h; exact h
 ·cases e1
 ·cases e1
theorem RepB.bl {i:Bool} {u:V} (h:RepB K H O (.bl i) u):u = .bl i:=by
 rcases h with h | ⟨ys,a,us,e1,e2,q,r⟩ | ⟨kvs,a,e1,e2,q⟩
 ·rw [Rep] at h; exact h
 ·cases e1
 ·cases e1
theorem RepB.str {i:Str} {u:V} (h:RepB K H O (.str i) u):u = .str i:=by
 rcases h with h | ⟨ys,a,us,e1,e2,q,r⟩ | ⟨kvs,a,e1,e2,q⟩
 ·rw [Rep] at h; exact h
 ·cases e1
 ·cases e1
theorem RepB.non {u:V} (h:RepB K H O .non u):u = .non:=by
 rcases h with h | ⟨ys,a,us,e1,e2,q,r⟩ | ⟨kvs,a,e1,e2,q⟩
 ·rw [Rep] at h; exact h
 ·cases e1
 ·cases e1
theorem RepB.seq {v:PV} {xs:List PV} {u:V} (h:RepB K H O v u) (e:seq? v = some xs):∃ a us,u = .ref a /\ (SqL K H a us \/ SqT K H a us) /\ Reps K (hide H O) xs us:=by
 cases v with
 | lst ys => simp [seq?] at e; subst e; obtain ⟨a,us,e,q,r⟩:=h.lst; exact ⟨a,us,e,.inl q,r⟩
 | tup ys => simp [seq?] at e; subst e; obtain ⟨a,us,e,q,r⟩:=h.tup; exact ⟨a,us,e,.inr q,r⟩
 | _ => simp [seq?] at e
theorem RepB.whole {v:PV} {u:V} (h:RepB K H O v u):Rep K H v u:=by
 rcases h with h | ⟨xs,a,us,rfl,e2,q,r⟩ | ⟨kvs,a,rfl,e2,q⟩
 ·exact Rep.mono (hide_le H O) _ h
 ·rw [Rep]; exact ⟨a,us,e2,q,Reps.mono (hide_le H O) _ r⟩
 ·rw [Rep]; exact ⟨a,e2,q⟩
end
noncomputable def IsC (K:PySem.W.Frag) (C:Addr):Prop:=PySem.W.nsIn K mainGlobals "Table" = some (some (.ref C))
noncomputable def fldN:List Str:=["hole_count","ribbons","opener"]
noncomputable def methN:List Str:=["hand_at","holes_taken_by","turn","deeds","knots","bites","free","rest","winner","take","back"]
structure ObF (K:PySem.W.Frag) (C:Addr) (F:Hp) (fs:List PV) (l:Addr) (gs:List (Str × V)):Prop where
 cls:IsC K C
 fld:∀ (n:Nat) (x:Str) (v:PV),fldN[n]? = some x -> fs[n]? = some v -> ∃ u,gs.lookup x = some u /\ Rep K F v u
 lst:gs.lookup ("taken":Str) = some (.ref l)
 no:∀ m ∈ methN,gs.lookup m = none
theorem ObF.mono {K:PySem.W.Frag} {C:Addr} {F F':Hp} {fs:List PV} {l:Addr} {gs:List (Str × V)} (s:Same F F') (h:ObF K C F fs l gs):ObF K C F' fs l gs :=
 ⟨h.cls,fun n x v e1 e2 => let ⟨u,q1,q2⟩:=h.fld n x v e1 e2; ⟨u,q1,Rep.mono s _ q2⟩,h.lst,h.no⟩
structure OwnAt (K:PySem.W.Frag) (B:Hp) (O:List Addr) (H:Hp) (fs xs:List PV) (a l:Addr):Prop where
 ob:∃ C dx gs,H a = some (.ins C dx gs) /\ ObF K C (hide H O) fs l gs
 li:∃ us,H l = some (.lst us) /\ Reps K (hide H O) xs us
 aO:a ∈ O
 lO:l ∈ O
 aB:B a = none
 lB:B l = none
 ne:a ≠ l
theorem OwnAt.move {K:PySem.W.Frag} {B B' H H':Hp} {O O':List Addr} {fs xs:List PV} {a l:Addr} (h:OwnAt K B O H fs xs a l) (v:Same (hide H O) (hide H' O')) (ha:∀ o,H a = some o -> H' a = some o) (hl:∀ o,H l = some o -> H' l = some o) (aO:a ∈ O') (lO:l ∈ O') (aB:B' a = none) (lB:B' l = none):OwnAt K B' O' H' fs xs a l:=by
 obtain ⟨C,dx,gs,e1,q1⟩:=h.ob
 obtain ⟨us,e2,q2⟩:=h.li
 exact ⟨⟨C,dx,gs,ha _ e1,q1.mono v⟩,⟨us,hl _ e2,Reps.mono v _ q2⟩,aO,lO,aB,lB,h.ne⟩
noncomputable def LentAt (K:PySem.W.Frag) (B F:Hp) (fs xs:List PV) (a:Addr):Prop:=∃ C dx gs l us,B a = some (.ins C dx gs) /\ ObF K C F fs l gs /\ SqL K B l us /\ Reps K F xs us
theorem LentAt.move {K:PySem.W.Frag} {B B' F F':Hp} {fs xs:List PV} {a:Addr} (h:LentAt K B F fs xs a) (b:Same B B') (v:Same F F'):LentAt K B' F' fs xs a:=by
 obtain ⟨C,dx,gs,l,us,e1,q1,e2,q2⟩:=h
 exact ⟨C,dx,gs,l,us,b _ _ e1,q1.mono v,b.seq e2,Reps.mono v _ q2⟩
theorem OwnAt.lent {K:PySem.W.Frag} {B H:Hp} {O:List Addr} {fs xs:List PV} {a l:Addr} (h:OwnAt K B O H fs xs a l):LentAt K H (hide H O) fs xs a:=by
 obtain ⟨C,dx,gs,e1,q1⟩:=h.ob
 obtain ⟨us,e2,q2⟩:=h.li
 exact ⟨C,dx,gs,l,us,e1,q1,SqL.of e2,q2⟩
noncomputable def lOf:Option HO -> Option Addr
 | some (.ins _ _ gs) => (match gs.lookup ("taken":Str) with | some (.ref l) => some l | _ => none)
 | _ => none
theorem OwnAt.l {K:PySem.W.Frag} {B H:Hp} {O:List Addr} {fs xs:List PV} {a l:Addr} (h:OwnAt K B O H fs xs a l):lOf (H a) = some l:=by
 obtain ⟨C,dx,gs,e1,q1⟩:=h.ob
 rw [e1]
 show (match gs.lookup ("taken":Str) with | some (.ref l) => some l | _ => none) = some l
 rw [q1.lst]
noncomputable def SlotOk (K:PySem.W.Frag) (B:Hp) (O:List Addr) (H:Hp):MV -> V -> Prop
 | .val v,u => Rep K (hide H O) v u
 | .own xs,u => ∃ a us,u = .ref a /\ H a = some (.lst us) /\ Reps K (hide H O) xs us /\ a ∈ O /\ B a = none
 | .brw xs,u => ∃ a us,u = .ref a /\ SqL K B a us /\ Reps K (hide H O) xs us
 | .ownD kvs,u => ∃ a,u = .ref a /\ H a = some (encD kvs) /\ a ∈ O /\ B a = none
 | .ownO _ fs xs,u => ∃ a l,u = .ref a /\ OwnAt K B O H fs xs a l
 | .brwO fs xs,u => ∃ a,u = .ref a /\ LentAt K B (hide H O) fs xs a
 | .brwD kvs,u => ∃ a,u = .ref a /\ Rd B a (encD kvs)
noncomputable def ownM:MV -> Bool
 | .own _ => true
 | .ownD _ => true
 | .ownO _ _ _ => true
 | _ => false
noncomputable def InnP (H:Hp) (ρ:Rho) (σ:St):Prop:=∀ (i:Nat) (m0:MV) (a l:Addr),ρ[i]? = some (some m0) -> isL m0 = true -> σ[i]? = some (some (.ref a)) -> lOf (H a) = some l -> ∀ (j:Nat) (m:MV),j ≠ i -> ρ[j]? = some (some m) -> isL m = false /\ ∀ c,ownM m = true -> σ[j]? = some (some (.ref c)) -> c ≠ l
theorem inn_none {H:Hp} {ρ:Rho} {σ:St} (h:∀ (i:Nat) (m:MV),ρ[i]? = some (some m) -> isL m = false):InnP H ρ σ:=fun i m _ _ e l => by rw [h i m e] at l; cases l
theorem inn_keep {H H':Hp} {ρ ρ':Rho} {σ σ':St} (h:InnP H ρ σ) (hL:∀ (i:Nat) (m0:MV),ρ'[i]? = some (some m0) -> isL m0 = true -> (∃ m1,ρ[i]? = some (some m1) /\ isL m1 = true) /\ σ'[i]? = σ[i]? /\ ∀ a l,σ[i]? = some (some (.ref a)) -> lOf (H' a) = some l -> lOf (H a) = some l)
  (hj:∀ (j:Nat) (m:MV) (c:Addr),ρ'[j]? = some (some m) -> isL m = false -> ownM m = true -> σ'[j]? = some (some (.ref c)) -> (∃ m0,ρ[j]? = some (some m0) /\ ownM m0 = true /\ σ[j]? = some (some (.ref c))) \/ ∀ (i:Nat) (m1:MV) (a l:Addr),ρ[i]? = some (some m1) -> isL m1 = true -> σ[i]? = some (some (.ref a)) -> lOf (H a) = some l -> c ≠ l):InnP H' ρ' σ':=fun i m0 a l e1 l0 e2 e3 j m hji e4 => by
 obtain ⟨⟨m1,f1,l1⟩,f2,f3⟩:=hL i m0 e1 l0
 rw [f2] at e2
 have f4:=f3 a l e2 e3
 have hl:isL m = false:=by
  cases q:isL m with
  | false => rfl
  | true =>
   obtain ⟨⟨m2,g1,g2⟩,_⟩:=hL j m e4 q
   rw [(h i m1 a l f1 l1 e2 f4 j m2 hji g1).1] at g2
   cases g2
 refine ⟨hl,fun c o e5 => ?_⟩
 rcases hj j m c e4 hl o e5 with ⟨m0,g1,g2,g3⟩ | g
 ·exact (h i m1 a l f1 l1 e2 f4 j m0 hji g1).2 c g2 g3
 ·exact g i m1 a l f1 l1 e2 f4
structure StOk (K:PySem.W.Frag) (B:Hp) (O₀ O:List Addr) (H:Hp) (ρ:Rho) (σ:St):Prop where
 keep:Same B H
 here:∀ a ∈ O,H a ≠ none
 sub:∀ a ∈ O₀,a ∈ O
 old:∀ a ∈ O₀,B a ≠ none
 len:ρ.length = σ.length
 slot:∀ (i:Nat) (m:MV),ρ[i]? = some (some m) -> ∃ u,σ[i]? = some (some u) /\ SlotOk K B O H m u
 apart:∀ (i j:Nat) (m m':MV) (a:Addr),i ≠ j -> ρ[i]? = some (some m) -> ρ[j]? = some (some m') -> ownM m = true -> ownM m' = true -> σ[i]? = some (some (.ref a)) -> σ[j]? ≠ some (some (.ref a))
 inn:InnP H ρ σ
section
variable {K:PySem.W.Frag} {B H H':Hp} {O₀ O:List Addr} {ρ:Rho} {σ:St}
theorem SlotOk.mono (s:Same H H') {m:MV} {u:V} (h:SlotOk K B O H m u):SlotOk K B O H' m u:=by
 cases m with
 | val v => exact Rep.mono (hide_same s) _ h
 | own xs => obtain ⟨a,us,e,q,r,h1,h2⟩:=h; exact ⟨a,us,e,s _ _ q,Reps.mono (hide_same s) _ r,h1,h2⟩
 | brw xs => obtain ⟨a,us,e,q,r⟩:=h; exact ⟨a,us,e,q,Reps.mono (hide_same s) _ r⟩
 | ownD kvs => obtain ⟨a,e,q,h1,h2⟩:=h; exact ⟨a,e,s _ _ q,h1,h2⟩
 | ownO _ fs xs => obtain ⟨a,l,e,q⟩:=h; exact ⟨a,l,e,q.move (hide_same s) (fun _ => s _ _) (fun _ => s _ _) q.aO q.lO q.aB q.lB⟩
 | brwO fs xs => obtain ⟨a,e,q⟩:=h; exact ⟨a,e,q.move (Same.refl B) (hide_same s)⟩
 | brwD kvs => exact h
theorem StOk.mono (s:Same H H') (h:StOk K B O₀ O H ρ σ):StOk K B O₀ O H' ρ σ where
 keep:=h.keep.trans s
 here:=fun a ha e => h.here a ha (s.free e)
 sub:=h.sub
 old:=h.old
 len:=h.len
 slot:=fun i m e => let ⟨u,e1,q⟩:=h.slot i m e; ⟨u,e1,q.mono s⟩
 apart:=h.apart
 inn:=inn_keep h.inn (fun i m0 e l0 => ⟨⟨m0,e,l0⟩,rfl,fun a l e1 e2 => by
  obtain ⟨u,e3,q⟩:=h.slot i _ e
  rw [e1] at e3
  cases e3
  cases m0 <;> try (cases l0; done)
  obtain ⟨a',l',e4,q⟩:=q
  cases e4
  obtain ⟨C,dx,gs,e5,_⟩:=q.ob
  rw [s _ _ e5] at e2
  rw [e5]
  exact e2⟩) fun j m c e _ o e1 => .inl ⟨m,e,o,e1⟩
theorem SlotOk.bor {m:MV} {u:V} {v:PV} (hB:Same B H) (h:SlotOk K B O H m u) (e:borOf (some m) = some v):RepB K H O v u:=by
 cases m with
 | val w => simp [borOf] at e; subst e; exact .inl h
 | own xs => simp [borOf] at e; subst e; obtain ⟨a,us,e,q,r,_⟩:=h; exact .inr (.inl ⟨xs,a,us,rfl,e,SqL.of q,r⟩)
 | brw xs => simp [borOf] at e; subst e; obtain ⟨a,us,e,q,r⟩:=h; exact .inr (.inl ⟨xs,a,us,rfl,e,hB.seq q,r⟩)
 | ownD kvs => simp [borOf] at e; subst e; obtain ⟨a,e,q,_⟩:=h; exact .inr (.inr ⟨kvs,a,rfl,e,.inl q⟩)
 | ownO _ _ _ => simp [borOf] at e
 | brwO _ _ => simp [borOf] at e
 | brwD kvs => simp [borOf] at e; subst e; obtain ⟨a,e,q⟩:=h; exact .inr (.inr ⟨kvs,a,rfl,e,Same.rd hB q⟩)
end
theorem join_some {α:Type} {o:Option (Option α)} {x:α} (h:o.join = some x):o = some (some x):=by
 cases o with
 | none => simp at h
 | some y => cases y with
  | none => simp at h
  | some z => simp at h; rw [h]
end MM
namespace MM
open PySem PySem.Spec PyProof.Rows L2
structure Tab where
 fs:List Str
 gs:List (Str × PV)
 ds:List (List Sc)
 ms:List (Option Str)
noncomputable def visB (sc:Scope) (x:Str):Bool:=sc.names.lookup x == some .local || sc.names.lookup x == some .cell || sc.names.lookup x == some .free
noncomputable def locB (sc:Scope) (x:Str):Bool:=sc.names.lookup x == some .local || sc.names.lookup x == some .cell
noncomputable def glB (sc:Scope) (x:Str):Bool:=sc.names.lookup x == some .globalImplicit
noncomputable def plainName (x:Str):Bool:=!(x == ("__debug__":Str)) && !(x == ("__classdict__":Str)) && !(x == ("__name__":Str))
noncomputable def nameAt (N:List Str) (sc:Scope) (i:Nat) (x:Str):Bool:=N[i]? == some x && visB sc x && plainName x
noncomputable def isBor:ME -> Bool
 | .bor _ => true
 | .fldL _ => true
 | _ => false
theorem bor_or {m:ME} (h:isBor m = true):(∃ i,m = .bor i) \/ ∃ i,m = .fldL i:=by
 cases m <;> first | (cases h; done) | exact .inl ⟨_,rfl⟩ | exact .inr ⟨_,rfl⟩
noncomputable def fldX:Expr -> Option (Str × Str)
 | .Attribute (.Name y _) m _ => some (y,m)
 | _ => none
theorem fldX_of {e:Expr} {q:Str × Str} (h:fldX e = some q):∃ p ap,e = .Attribute (.Name q.1 p) q.2 ap:=by
 unfold fldX at h
 split at h
 ·cases h; exact ⟨_,_,rfl⟩
 ·cases h
noncomputable def metX:Expr -> Option (Str × Str × List Expr × Pos × Pos)
 | .Call (.Attribute (.Name y _) m ap) args [] cp => some (y,m,args,ap,cp)
 | _ => none
theorem metX_of {e:Expr} {q:Str × Str × List Expr × Pos × Pos} (h:metX e = some q):∃ p,e = .Call (.Attribute (.Name q.1 p) q.2.1 q.2.2.2.1) q.2.2.1 [] q.2.2.2.2:=by
 unfold metX at h
 split at h
 ·cases h; exact ⟨_,rfl⟩
 ·cases h
noncomputable def calX0:Expr -> Option (Str × List Expr)
 | .Call (.Name y _) args [] _ => some (y,args)
 | _ => none
theorem calX0_of {e:Expr} {q:Str × List Expr} (h:calX0 e = some q):∃ p cp,e = .Call (.Name q.1 p) q.2 [] cp:=by
 unfold calX0 at h
 split at h
 ·cases h; exact ⟨_,_,rfl⟩
 ·cases h
noncomputable def metB (N:List Str) (sc:Scope) (ms:List (Option Str)) (f i:Nat) (ck:List Expr -> Bool) (q:Str × Str × List Expr × Pos × Pos):Bool:=ms[f]? == some (some q.2.1) && methN.contains q.2.1 && nameAt N sc i q.1 && ck q.2.2.1 && q.2.2.2.1.endLine == q.2.2.2.2.line && decide (q.2.2.1.length < 30)
noncomputable def cmpX:Expr -> Option (Expr × CmpOp × Expr)
 | .Compare l [o] [r] _ => some (l,o,r)
 | _ => none
theorem cmpX_of {e:Expr} {q:Expr × CmpOp × Expr} (h:cmpX e = some q):∃ pos,e = .Compare q.1 [q.2.1] [q.2.2] pos:=by
 unfold cmpX at h
 split at h
 ·cases h; exact ⟨_,rfl⟩
 ·cases h
noncomputable def onO {α:Type} (o:Option α) (f:α -> Bool):Bool:=match o with
 | some a => f a
 | none => false
theorem onO_of {α:Type} {o:Option α} {f:α -> Bool} (h:onO o f = true):∃ a,o = some a /\ f a = true:=by
 cases o with
 | none => cases h
 | some a => exact ⟨a,rfl,h⟩
noncomputable def opOf:Op2 -> Operator
 | .add => .Add | .sub => .Sub | .mul => .Mult | .fdiv => .FloorDiv | .mod => .Mod | .pow => .Pow | .shr => .RShift
noncomputable def cpOf:Cp -> CmpOp
 | .eq => .Eq | .ne => .NotEq | .lt => .Lt | .le => .LtE | .gt => .Gt | .ge => .GtE | .isN => .Is | .notN => .IsNot | .isIn => .In | .notIn => .NotIn
noncomputable def constB:PV -> Const -> Bool
 | .non,.none => true
 | .bl a,.bool b => a == b
 | .int a,.int b => a == b
 | .str a,.str b => a == b
 | _,_ => false
noncomputable def scalB:PV -> PV -> Bool
 | .non,.non => true
 | .bl a,.bl b => a == b
 | .int a,.int b => a == b
 | .str a,.str b => a == b
 | _,_ => false
noncomputable def gsHas (gs:List (Str × PV)) (x:Str) (v:PV):Bool:=gs.any fun p => p.1 == x && scalB p.2 v
noncomputable def notStar:Expr -> Bool
 | .Starred .. => false
 | _ => true
noncomputable def notSet:Expr -> Bool
 | .Set .. => false
 | _ => true
noncomputable def notSlice:Expr -> Bool
 | .Slice .. => false
 | _ => true
noncomputable def notComp:Expr -> Bool
 | .ListComp .. => false
 | .SetComp .. => false
 | .DictComp .. => false
 | _ => true
noncomputable def plainTest:Expr -> Bool
 | .UnaryOp .Not _ _ => false
 | .BoolOp .. => false
 | .IfExp .. => false
 | .Compare .. => false
 | _ => true
noncomputable def bltOf:Blt -> String
 | .len => "len" | .tupleOf => "tuple" | .listOf => "list" | .sorted => "sorted" | .any => "any" | .all => "all" | .sum => "sum" | .max1 => "max" | .min1 => "min" | .max2 => "max" | .min2 => "min"
 | .intOf => "int" | .boolOf => "bool" | .isInt => "isinstance" | .isBool => "isinstance" | .isStr => "isinstance" | .isList => "isinstance" | .isTuple => "isinstance" | .sortedKeys => "sorted" | .valuesOf => "list" | .sortedSet => "sorted" | .lenSet => "len" | .lenSetSub => "len" | .tupleRev => "tuple"
noncomputable def instOf:Blt -> Option String
 | .isInt => some "int" | .isBool => some "bool" | .isStr => some "str" | .isList => some "list" | .isTuple => some "tuple"
 | _ => none
noncomputable def plainArgs:Blt -> Option Nat
 | .len | .tupleOf | .listOf | .sorted | .any | .all | .sum | .intOf | .boolOf | .max1 | .sortedKeys => some 1
 | .max2 | .min2 => some 2
 | _ => none
noncomputable def compScB (osc:Scope) (N:List Str) (scope:Scope) (x:Str) (fvs:List Str) (js:List Nat):Bool :=
 decide (∀ y ∈ scope.names,y.2 = .cell -> y.1 = x) && decide (scope.names.lookup x = some .local /\ (scope.names.filter fun y => y.2 == .cell) = [] \/ scope.names.lookup x = some .cell /\ (scope.names.filter fun y => y.2 == .cell) = [(x,.cell)])
  && decide (∀ y ∈ scope.names,y.2 = .free -> y.1 ≠ x) && scope.kind == .function && decide (∀ y ∈ scope.names,y.2 = .local -> scope.names.lookup y.1 = some .local)
  && decide ((x :: fvs).Nodup) && decide (∀ y ∈ scope.names,y.2 = .free -> osc.names.lookup y.1 = some .cell \/ osc.names.lookup y.1 = some .free) && decide ((js.map fun j => N[j]?) = fvs.map some)
  && decide (∀ y ∈ fvs,scope.names.lookup y = some .free)
noncomputable def fvsOf (N:List Str) (js:List Nat):List Str:=js.map fun j => (N[j]?).getD Str.empty
noncomputable def compScB2 (osc:Scope) (N:List Str) (scope:Scope) (x y:Str) (fvs:List Str) (js:List Nat):Bool :=
 decide ((scope.names.filter fun y => y.2 == .cell) = []) && decide (scope.names.lookup x = some .local) && decide (scope.names.lookup y = some .local)
  && decide (∀ y ∈ scope.names,y.2 = .free -> y.1 ≠ x) && scope.kind == .function && decide (∀ y ∈ scope.names,y.2 = .local -> scope.names.lookup y.1 = some .local)
  && decide ((x :: ([y] ++ fvs)).Nodup) && decide (∀ y ∈ scope.names,y.2 = .free -> osc.names.lookup y.1 = some .cell \/ osc.names.lookup y.1 = some .free) && decide ((js.map fun j => N[j]?) = fvs.map some)
  && decide (∀ y ∈ fvs,scope.names.lookup y = some .free)
noncomputable def comp2X:Expr -> Option (Expr × Expr × List Expr × Scope × Str × Str)
 | .ListComp e [⟨.Tuple [.Name x _,.Name y _] _ _,it,ifs,0⟩] scope _ => some (e,it,ifs,scope,x,y)
 | _ => none
theorem comp2X_of {e:Expr} {q:Expr × Expr × List Expr × Scope × Str × Str} (h:comp2X e = some q):∃ px py j tp pos,e = .ListComp q.1 [⟨.Tuple [.Name q.2.2.2.2.1 px,.Name q.2.2.2.2.2 py] j tp,q.2.1,q.2.2.1,0⟩] q.2.2.2.1 pos:=by
 unfold comp2X at h
 split at h
 ·cases h; exact ⟨_,_,_,_,_,rfl⟩
 ·cases h
noncomputable def chkW (sc:Scope) (tup:Bool) (f:List Expr -> Bool):Sk -> Expr -> Bool
 | .seq,it => notSet it && f [it]
 | .rng,.Call (.Name x _) args [] _ => x == ("range":Str) && glB sc x && f args && (args.length == 1 || args.length == 2)
 | .rev,_ => false
 | .enm,.Call (.Name x _) [a] [] _ => tup && x == ("enumerate":Str) && glB sc x && f [a] && notStar a
 | _,_ => false
noncomputable def instArgs (sc:Scope) (f:List Expr -> Bool) (n:Nat) (c:String):List Expr -> Bool
 | [x,.Name t _] => t == (c:Str) && glB sc t && f [x] && n == 1
 | _ => false
noncomputable def baseB:Expr -> Bool
 | .Name _ _ => true
 | .Call _ (_ :: _) _ _ => true
 | _ => false
noncomputable def bltArgs (sc:Scope) (f:List Expr -> Bool) (n:Nat) (b:Blt) (args:List Expr):Bool:=match b with
 | .sortedSet => false
 | .lenSet => false
 | .lenSetSub => false
 | .tupleRev => false
 | .valuesOf => false
 | .sortedKeys => false
 | .max1 => false
 | .sum => false
 | .max2 => false
 | .min2 => false
 | .boolOf => false
 | b => match instOf b with
  | some c => instArgs sc f n c args
  | none => plainArgs b == some n && f args
noncomputable def isNonE:ME -> Bool
 | .cst .non => true
 | _ => false
noncomputable def boundB (f:Expr -> Bool) (non:Bool):Option Expr -> Bool
 | none => non
 | some l => f l && !non
noncomputable def condB (f:Expr -> Bool) (m:ME):List Expr -> Bool
 | [] => (match m with | .cst (.bl true) => true | _ => false)
 | [c] => f c
 | _ => false
noncomputable def tailB (f:Expr -> Bool) (op:BoolOp) (pos:Pos) (y:Expr):List Expr -> Bool
 | [] => f y
 | z :: r => f (.BoolOp op (y :: z :: r) pos)
mutual
noncomputable def chk (T:Tab):ME -> List Str -> Scope -> Expr -> Bool
 | .var i,N,sc,e0 => (match e0 with | .Name x _ => nameAt N sc i x | _ => false)
 | .bor i,N,sc,e0 => (match e0 with | .Name x _ => nameAt N sc i x | _ => false)
 | .cst v,_,_,e0 => (match e0 with | .Constant c _ _ => constB v c | _ => false)
 | .glob x v,_,sc,e0 => (match e0 with | .Name y _ => x == y && glB sc x && gsHas T.gs x v && plainName x | _ => false)
 | .bin op a b,N,sc,e0 => (match e0 with | .BinOp l o r _ => o == opOf op && chk T a N sc l && chk T b N sc r | _ => false)
 | .neg _,_,_,_ => false
 | .not a,N,sc,e0 => (match e0 with | .UnaryOp .Not e _ => chk T a N sc e | _ => false)
 | .and a b,N,sc,e0 => (match e0 with | .BoolOp .And (x :: y :: r) pos => chk T a N sc x && tailB (fun e => chk T b N sc e) .And pos y r | _ => false)
 | .or a b,N,sc,e0 => (match e0 with | .BoolOp .Or (x :: y :: r) pos => chk T a N sc x && tailB (fun e => chk T b N sc e) .Or pos y r | _ => false)
 | .ite c a b,N,sc,e0 => (match e0 with | .IfExp t x y _ => chk T c N sc t && chk T a N sc x && chk T b N sc y && !isBor a && !isBor b | _ => false)
 | .cmp op a b,N,sc,e0 => (match e0 with | .Compare l [o] [r] _ => o == cpOf op && chk T a N sc l && chk T b N sc r && !behindInMarks o r | _ => false)
 | .chain op op' a b c,N,sc,e0 => (match e0 with | .Compare l [o,o'] [m,r] _ => o == cpOf op && o' == cpOf op' && chk T a N sc l && chk T b N sc m && chk T c N sc r && !lastMarks [o,o'] [m,r] | _ => false)
 | .tup es,N,sc,e0 => (match e0 with | .Tuple xs _ _ => chks T es N sc xs && es.all (fun e => !isBor e) | _ => false)
 | .lst es,N,sc,e0 => (match e0 with | .List xs _ => chks T es N sc xs && es.all (fun e => !isBor e) | _ => false)
 | .idx a i,N,sc,e0 => (match e0 with | .Subscript v s _ => chk T a N sc v && chk T i N sc s && notSlice s | _ => false)
 | .slice a lo hi,N,sc,e0 => (match e0 with | .Subscript v (.Slice l u none _) _ => chk T a N sc v && boundB (fun e => chk T lo N sc e) (isNonE lo) l && boundB (fun e => chk T hi N sc e) (isNonE hi) u | _ => false)
 | .blt b es,N,sc,e0 => (match e0 with | .Call (.Name f _) args [] _ => f == (bltOf b:Str) && glB sc f && bltArgs sc (fun xs => chks T es N sc xs) es.length b args | _ => false)
 | .call f es,N,sc,e0 => (match e0 with | .Call (.Name x _) args [] _ => T.fs[f]? == some x && glB sc x && plainName x && chks T es N sc args | _ => false)
 | .callD _ _ _,_,_,_ => false
 | .comp k src js cond elt,N,sc,e0 => (match e0 with | .ListComp e [⟨.Name x _,it,ifs,0⟩] scope _ => compScB sc N scope x (fvsOf N js) js && chkW sc false (fun xs => chks T src N sc xs) k it && condB (fun c => chk T cond (x :: fvsOf N js) (relS scope sc) c) cond ifs && chk T elt (x :: fvsOf N js) (relS scope sc) e && !isBor elt | _ => false)
 | .dget a k d,N,sc,e0 => (match e0 with | .Call (.Attribute o m ap) [x,y] [] cp => m == ("get":Str) && baseB o && ap.endLine == cp.line && chk T a N sc o && chk T k N sc x && chk T d N sc y && notStar x && notStar y | _ => false)
 | .dat a k,N,sc,e0 => (match e0 with | .Subscript v s _ => chk T a N sc v && chk T k N sc s && notSlice s | _ => false)
 | .dIn neg k a,N,sc,e0 => (match e0 with | .Compare l [o] [r] _ => o == (if neg = true then CmpOp.NotIn else CmpOp.In) && chk T k N sc l && chk T a N sc r && !behindInMarks o r | _ => false)
 | .fld i n,N,sc,e0 => onO (fldX e0) fun q => fldN[n]? == some q.2 && nameAt N sc i q.1
 | .fldL i,N,sc,e0 => onO (fldX e0) fun q => q.2 == ("taken":Str) && nameAt N sc i q.1
 | .inO neg e i,N,sc,e0 => onO (cmpX e0) fun z => onO (fldX z.2.2) fun q => z.2.1 == (if neg = true then CmpOp.NotIn else CmpOp.In) && chk T e N sc z.1 && q.2 == ("taken":Str) && nameAt N sc i q.1
 | .callV f es,N,sc,e0 => onO (calX0 e0) fun q => T.fs[f]? == some q.1 && glB sc q.1 && plainName q.1 && chks T es N sc q.2
 | .comp2 src js cond elt,N,sc,e0 => onO (comp2X e0) fun q => compScB2 sc N q.2.2.2.1 q.2.2.2.2.1 q.2.2.2.2.2 (fvsOf N js) js && chkW sc true (fun xs => chks T src N sc xs) .enm q.2.1 && condB (fun c => chk T cond (q.2.2.2.2.1 :: ([q.2.2.2.2.2] ++ fvsOf N js)) (relS q.2.2.2.1 sc) c) cond q.2.2.1 && chk T elt (q.2.2.2.2.1 :: ([q.2.2.2.2.2] ++ fvsOf N js)) (relS q.2.2.2.1 sc) q.1 && !isBor elt
 | .callM f i es,N,sc,e0 => onO (metX e0) fun q => metB N sc T.ms f i (fun xs => chks T es N sc xs) q
noncomputable def chks (T:Tab):List ME -> List Str -> Scope -> List Expr -> Bool
 | [],_,_,[] => true
 | m :: ms,N,sc,e :: es => chk T m N sc e && notStar e && chks T ms N sc es
 | _,_,_,_ => false
end
theorem ck_var (T:Tab) (i:Nat) (N:List Str) (sc:Scope) (e0:Expr):chk T (.var i) N sc e0 = (match e0 with | .Name x _ => nameAt N sc i x | _ => false):=rfl
theorem ck_bor (T:Tab) (i:Nat) (N:List Str) (sc:Scope) (e0:Expr):chk T (.bor i) N sc e0 = (match e0 with | .Name x _ => nameAt N sc i x | _ => false):=rfl
theorem ck_cst (T:Tab) (v:PV) (N:List Str) (sc:Scope) (e0:Expr):chk T (.cst v) N sc e0 = (match e0 with | .Constant c _ _ => constB v c | _ => false):=rfl
theorem ck_glob (T:Tab) (x:Str) (v:PV) (N:List Str) (sc:Scope) (e0:Expr):chk T (.glob x v) N sc e0 = (match e0 with | .Name y _ => x == y && glB sc x && gsHas T.gs x v && plainName x | _ => false):=rfl
theorem ck_bin (T:Tab) (op:Op2) (a b:ME) (N:List Str) (sc:Scope) (e0:Expr):chk T (.bin op a b) N sc e0 = (match e0 with | .BinOp l o r _ => o == opOf op && chk T a N sc l && chk T b N sc r | _ => false):=rfl
theorem ck_neg (T:Tab) (a:ME) (N:List Str) (sc:Scope) (e0:Expr):chk T (.neg a) N sc e0 = false:=rfl
theorem ck_not (T:Tab) (a:ME) (N:List Str) (sc:Scope) (e0:Expr):chk T (.not a) N sc e0 = (match e0 with | .UnaryOp .Not e _ => chk T a N sc e | _ => false):=rfl
theorem ck_and (T:Tab) (a b:ME) (N:List Str) (sc:Scope) (e0:Expr):chk T (.and a b) N sc e0 = (match e0 with | .BoolOp .And (x :: y :: r) pos => chk T a N sc x && tailB (fun e => chk T b N sc e) .And pos y r | _ => false):=rfl
theorem ck_or (T:Tab) (a b:ME) (N:List Str) (sc:Scope) (e0:Expr):chk T (.or a b) N sc e0 = (match e0 with | .BoolOp .Or (x :: y :: r) pos => chk T a N sc x && tailB (fun e => chk T b N sc e) .Or pos y r | _ => false):=rfl
theorem ck_ite (T:Tab) (c a b:ME) (N:List Str) (sc:Scope) (e0:Expr):chk T (.ite c a b) N sc e0 = (match e0 with | .IfExp t x y _ => chk T c N sc t && chk T a N sc x && chk T b N sc y && !isBor a && !isBor b | _ => false):=rfl
theorem ck_cmp (T:Tab) (op:Cp) (a b:ME) (N:List Str) (sc:Scope) (e0:Expr):chk T (.cmp op a b) N sc e0 = (match e0 with | .Compare l [o] [r] _ => o == cpOf op && chk T a N sc l && chk T b N sc r && !behindInMarks o r | _ => false):=rfl
theorem ck_chain (T:Tab) (op op':Cp) (a b c:ME) (N:List Str) (sc:Scope) (e0:Expr):chk T (.chain op op' a b c) N sc e0 = (match e0 with | .Compare l [o,o'] [m,r] _ => o == cpOf op && o' == cpOf op' && chk T a N sc l && chk T b N sc m && chk T c N sc r && !lastMarks [o,o'] [m,r] | _ => false):=rfl
theorem ck_tup (T:Tab) (es:List ME) (N:List Str) (sc:Scope) (e0:Expr):chk T (.tup es) N sc e0 = (match e0 with | .Tuple xs _ _ => chks T es N sc xs && es.all (fun e => !isBor e) | _ => false):=rfl
theorem ck_lst (T:Tab) (es:List ME) (N:List Str) (sc:Scope) (e0:Expr):chk T (.lst es) N sc e0 = (match e0 with | .List xs _ => chks T es N sc xs && es.all (fun e => !isBor e) | _ => false):=rfl
theorem ck_idx (T:Tab) (a i:ME) (N:List Str) (sc:Scope) (e0:Expr):chk T (.idx a i) N sc e0 = (match e0 with | .Subscript v s _ => chk T a N sc v && chk T i N sc s && notSlice s | _ => false):=rfl
theorem ck_slice (T:Tab) (a lo hi:ME) (N:List Str) (sc:Scope) (e0:Expr):chk T (.slice a lo hi) N sc e0 = (match e0 with | .Subscript v (.Slice l u none _) _ => chk T a N sc v && boundB (fun e => chk T lo N sc e) (isNonE lo) l && boundB (fun e => chk T hi N sc e) (isNonE hi) u | _ => false):=rfl
theorem ck_blt (T:Tab) (b:Blt) (es:List ME) (N:List Str) (sc:Scope) (e0:Expr):chk T (.blt b es) N sc e0 = (match e0 with | .Call (.Name f _) args [] _ => f == (bltOf b:Str) && glB sc f && bltArgs sc (fun xs => chks T es N sc xs) es.length b args | _ => false):=rfl
theorem ck_call (T:Tab) (f:Nat) (es:List ME) (N:List Str) (sc:Scope) (e0:Expr):chk T (.call f es) N sc e0 = (match e0 with | .Call (.Name x _) args [] _ => T.fs[f]? == some x && glB sc x && plainName x && chks T es N sc args | _ => false):=rfl
theorem ck_comp (T:Tab) (k:Sk) (src:List ME) (js:List Nat) (cond elt:ME) (N:List Str) (sc:Scope) (e0:Expr):chk T (.comp k src js cond elt) N sc e0 = (match e0 with | .ListComp e [⟨.Name x _,it,ifs,0⟩] scope _ => compScB sc N scope x (fvsOf N js) js && chkW sc false (fun xs => chks T src N sc xs) k it && condB (fun c => chk T cond (x :: fvsOf N js) (relS scope sc) c) cond ifs && chk T elt (x :: fvsOf N js) (relS scope sc) e && !isBor elt | _ => false):=rfl
theorem ck_dget (T:Tab) (a k d:ME) (N:List Str) (sc:Scope) (e0:Expr):chk T (.dget a k d) N sc e0 = (match e0 with | .Call (.Attribute o m ap) [x,y] [] cp => m == ("get":Str) && baseB o && ap.endLine == cp.line && chk T a N sc o && chk T k N sc x && chk T d N sc y && notStar x && notStar y | _ => false):=rfl
theorem ck_dat (T:Tab) (a k:ME) (N:List Str) (sc:Scope) (e0:Expr):chk T (.dat a k) N sc e0 = (match e0 with | .Subscript v s _ => chk T a N sc v && chk T k N sc s && notSlice s | _ => false):=rfl
theorem ck_dIn (T:Tab) (neg:Bool) (k a:ME) (N:List Str) (sc:Scope) (e0:Expr):chk T (.dIn neg k a) N sc e0 = (match e0 with | .Compare l [o] [r] _ => o == (if neg = true then CmpOp.NotIn else CmpOp.In) && chk T k N sc l && chk T a N sc r && !behindInMarks o r | _ => false):=rfl
noncomputable def freshB:ME -> Bool
 | .lst _ => true
 | .comp .. => true
 | .blt .listOf _ => true
 | .blt .sorted _ => true
 | .blt .sortedSet _ => true
 | .blt .sortedKeys _ => true
 | .blt .valuesOf _ => true
 | _ => false
noncomputable def swapB (sc:Scope) (t:Str) (tpos:Pos):Expr -> Bool
 | .ListComp _ _ s p => sc.names.lookup t == some .local && tpos.line == p.line && !(s.names.any fun (n,k) => n == t && (k == .local || k == .cell))
 | _ => false
noncomputable def isC2:ME -> Bool
 | .comp2 .. => true
 | _ => false
noncomputable def swapK (sc:Scope) (t:Str) (tpos:Pos) (v:Expr) (e:ME):Bool:=swapB sc t tpos v && !isC2 e
noncomputable def namesAt (N:List Str) (sc:Scope):List Nat -> List Expr -> Bool
 | [],[] => true
 | i :: is,.Name x _ :: es => N[i]? == some x && locB sc x && plainName x && namesAt N sc is es
 | _,_ => false
theorem na_name (N:List Str) (sc:Scope) (i:Nat) (is:List Nat) (x:Str) (p:Pos) (es:List Expr):namesAt N sc (i :: is) (.Name x p :: es) = (N[i]? == some x && locB sc x && plainName x && namesAt N sc is es):=rfl
noncomputable def asgN:Stmt -> Option (Str × Pos × Expr)
 | .Assign [.Name x px] v _ => some (x,px,v)
 | _ => none
theorem asgN_of {s:Stmt} {q:Str × Pos × Expr} (h:asgN s = some q):∃ pos,s = .Assign [.Name q.1 q.2.1] q.2.2 pos:=by
 unfold asgN at h
 split at h
 ·cases h; exact ⟨_,rfl⟩
 ·cases h
noncomputable def metC:Stmt -> Option (Str × Str × Pos × List Expr × Pos)
 | .Expr (.Call (.Attribute (.Name x _) m ap) args [] cp) _ => some (x,m,ap,args,cp)
 | _ => none
theorem metC_of {s:Stmt} {q:Str × Str × Pos × List Expr × Pos} (h:metC s = some q):∃ p pos,s = .Expr (.Call (.Attribute (.Name q.1 p) q.2.1 q.2.2.1) q.2.2.2.1 [] q.2.2.2.2) pos:=by
 unfold metC at h
 split at h
 ·cases h; exact ⟨_,_,rfl⟩
 ·cases h
noncomputable def asgS:Stmt -> Option (Str × Expr × Expr)
 | .Assign [.Subscript (.Name x _) s _] v _ => some (x,s,v)
 | _ => none
theorem asgS_of {s:Stmt} {q:Str × Expr × Expr} (h:asgS s = some q):∃ p sp pos,s = .Assign [.Subscript (.Name q.1 p) q.2.1 sp] q.2.2 pos:=by
 unfold asgS at h
 split at h
 ·cases h; exact ⟨_,_,_,rfl⟩
 ·cases h
noncomputable def retV:Stmt -> Option Expr
 | .Return (some v) _ => some v
 | _ => none
theorem retV_of {s:Stmt} {v:Expr} (h:retV s = some v):∃ pos,s = .Return (some v) pos:=by
 unfold retV at h
 split at h
 ·cases h; exact ⟨_,rfl⟩
 ·cases h
noncomputable def nameX:Expr -> Option Str
 | .Name x _ => some x
 | _ => none
theorem nameX_of {e:Expr} {x:Str} (h:nameX e = some x):∃ p,e = .Name x p:=by
 unfold nameX at h
 split at h
 ·cases h; exact ⟨_,rfl⟩
 ·cases h
noncomputable def calX:Expr -> Option (Str × List Expr)
 | .Call (.Name y _) args [] _ => some (y,args)
 | _ => none
theorem calX_of {e:Expr} {q:Str × List Expr} (h:calX e = some q):∃ p cp,e = .Call (.Name q.1 p) q.2 [] cp:=by
 unfold calX at h
 split at h
 ·cases h; exact ⟨_,_,rfl⟩
 ·cases h
noncomputable def list1:List Expr -> Option Expr
 | [a] => some a
 | _ => none
theorem list1_of {l:List Expr} {a:Expr} (h:list1 l = some a):l = [a]:=by
 match l,h with
 | [_],h => cases h; rfl
noncomputable def isDct:Expr -> Bool
 | .Dict [] [] _ => true
 | _ => false
theorem isDct_of {e:Expr} (h:isDct e = true):∃ p,e = .Dict [] [] p:=by
 unfold isDct at h
 split at h
 ·exact ⟨_,rfl⟩
 ·cases h
noncomputable def metF:Stmt -> Option (Str × Str × Str × Pos × List Expr × Pos)
 | .Expr (.Call (.Attribute (.Attribute (.Name x _) f _) m ap) args [] cp) _ => some (x,f,m,ap,args,cp)
 | _ => none
theorem metF_of {s:Stmt} {q:Str × Str × Str × Pos × List Expr × Pos} (h:metF s = some q):∃ p fp pos,s = .Expr (.Call (.Attribute (.Attribute (.Name q.1 p) q.2.1 fp) q.2.2.1 q.2.2.2.1) q.2.2.2.2.1 [] q.2.2.2.2.2) pos:=by
 unfold metF at h
 split at h
 ·cases h; exact ⟨_,_,_,rfl⟩
 ·cases h
noncomputable def exprX:Stmt -> Option Expr
 | .Expr e _ => some e
 | _ => none
theorem exprX_of {s:Stmt} {e:Expr} (h:exprX s = some e):∃ pos,s = .Expr e pos:=by
 unfold exprX at h
 split at h
 ·cases h; exact ⟨_,rfl⟩
 ·cases h
mutual
noncomputable def chkS (T:Tab) (N:List Str) (sc:Scope):MS -> Stmt -> Bool
 | .set i e,s0 => onO (asgN s0) fun q => N[i]? == some q.1 && locB sc q.1 && plainName q.1 && chk T e N sc q.2.2 && !isBor e && (notComp q.2.2 || swapK sc q.1 q.2.1 q.2.2 e)
 | .setOwn i e,s0 => onO (asgN s0) fun q => N[i]? == some q.1 && locB sc q.1 && plainName q.1 && chk T e N sc q.2.2 && freshB e && (notComp q.2.2 || swapK sc q.1 q.2.1 q.2.2 e)
 | .append i e,s0 => onO (metC s0) fun q => onO (list1 q.2.2.2.1) fun v => nameAt N sc i q.1 && q.2.1 == ("append":Str) && chk T e N sc v && !isBor e && notStar v && q.2.2.1.endLine == q.2.2.2.2.line
 | .extend i e,s0 => onO (metC s0) fun q => onO (list1 q.2.2.2.1) fun v => nameAt N sc i q.1 && q.2.1 == ("extend":Str) && chk T e N sc v && notStar v && q.2.2.1.endLine == q.2.2.2.2.line
 | .mkO i es,s0 => onO (asgN s0) fun q => onO (calX q.2.2) fun c => N[i]? == some q.1 && locB sc q.1 && plainName q.1 && c.1 == ("Table":Str) && glB sc c.1 && chks T es N sc c.2 && (es.all fun m => !isBor m) && !c.2.isEmpty
 | .appO i e,s0 => onO (metF s0) fun q => onO (list1 q.2.2.2.2.1) fun v => nameAt N sc i q.1 && q.2.1 == ("taken":Str) && q.2.2.1 == ("append":Str) && chk T e N sc v && !isBor e && notStar v && q.2.2.2.1.endLine == q.2.2.2.2.2.line
 | .retT e,s0 => onO (retV s0) fun v => chk T e N sc v && !isBor e
 | .takeO (some j) i f es,s0 => onO (asgN s0) fun q => onO (metX q.2.2) fun c => N[j]? == some q.1 && locB sc q.1 && plainName q.1 && (metB N sc T.ms f i (fun xs => chks T es N sc xs) c && (es.all fun m => !isBor m))
 | .takeO none i f es,s0 => onO (exprX s0) fun v => onO (metX v) fun c => metB N sc T.ms f i (fun xs => chks T es N sc xs) c && (es.all fun m => !isBor m)
 | .setIdx _ _ _,_ => false
 | .unpack _ _,_ => false
 | .ite c a b,s0 => (match s0 with | .If t x y _ => chk T c N sc t && chkSs T N sc a x && chkSs T N sc b y | _ => false)
 | .for1 i k src body,s0 => (match s0 with | .For (.Name x _) it b [] _ => N[i]? == some x && locB sc x && plainName x && chkW sc false (fun xs => chks T src N sc xs) k it && chkSs T N sc body b | _ => false)
 | .forT is k src body,s0 => (match s0 with | .For (.Tuple ts _ _) it b [] _ => namesAt N sc is ts && chkW sc true (fun xs => chks T src N sc xs) k it && chkSs T N sc body b | _ => false)
 | .ret e,s0 => onO (retV s0) fun v => chk T e N sc v && !isBor e
 | .retOwn i,s0 => onO (retV s0) fun v => onO (nameX v) fun x => nameAt N sc i x
 | .never,_ => true
 | .newD _ i,s0 => onO (asgN s0) fun q => isDct q.2.2 && (N[i]? == some q.1 && locB sc q.1 && plainName q.1)
 | .dput i k e,s0 => onO (asgS s0) fun q => nameAt N sc i q.1 && chk T k N sc q.2.1 && notSlice q.2.1 && chk T e N sc q.2.2 && !isBor e && notComp q.2.2
 | _,_ => false
noncomputable def chkSs (T:Tab) (N:List Str) (sc:Scope):List MS -> List Stmt -> Bool
 | [],[] => true
 | .freeze _ :: _,_ => false
 | m :: ms,s :: ss => chkS T N sc m s && chkSs T N sc ms ss
 | _,_ => false
end
theorem cs_for1 (T:Tab) (N:List Str) (sc:Scope) (i:Nat) (k:Sk) (src:List ME) (body:List MS) (s0:Stmt):chkS T N sc (.for1 i k src body) s0 = (match s0 with | .For (.Name x _) it b [] _ => N[i]? == some x && locB sc x && plainName x && chkW sc false (fun xs => chks T src N sc xs) k it && chkSs T N sc body b | _ => false):=rfl
theorem cs_forT (T:Tab) (N:List Str) (sc:Scope) (is:List Nat) (k:Sk) (src:List ME) (body:List MS) (s0:Stmt):chkS T N sc (.forT is k src body) s0 = (match s0 with | .For (.Tuple ts _ _) it b [] _ => namesAt N sc is ts && chkW sc true (fun xs => chks T src N sc xs) k it && chkSs T N sc body b | _ => false):=rfl
end MM
namespace MM
open PySem PySem.Spec PyProof.Rows L2
theorem eqL_refl {f:PV -> PV -> Option Bool} (hf:∀ x b,f x x = some b -> b = true):∀ (xs:List PV) {b:Bool},eqL f xs xs = some b -> b = true
 | [],b,h => by simp [eqL] at h; exact h
 | x :: xs,b,h => by
  simp only [eqL,Option.bind_eq_some_iff,Option.map_eq_some_iff] at h
  obtain ⟨p,h1,q,h2,rfl⟩:=h
  rw [hf x p h1,eqL_refl hf xs h2]; rfl
theorem eqF_refl:∀ (n:Nat) (x:PV) {b:Bool},eqF n x x = some b -> b = true
 | n,.non,b,h => by simp [eqF] at h; exact h
 | n,.bl _,b,h => by simp [eqF] at h; exact h
 | n,.int _,b,h => by simp [eqF] at h; exact h
 | n,.str _,b,h => by simp [eqF] at h; exact h
 | 0,.tup _,b,h => by simp [eqF] at h
 | 0,.lst _,b,h => by simp [eqF] at h
 | n + 1,.tup xs,b,h => by rw [eqF] at h; exact eqL_refl (fun x b => eqF_refl n x) xs h
 | n + 1,.lst xs,b,h => by rw [eqF,if_pos rfl] at h; exact eqL_refl (fun x b => eqF_refl n x) xs h
 | n,.dI _,b,h => by cases n <;> simp [eqF] at h
theorem eqF_nd {n:Nat} {x y:PV} {b:Bool} (h:eqF n x y = some b):isD x = false /\ isD y = false:=by
 cases x <;> cases y <;> first | exact ⟨rfl,rfl⟩ | (cases n <;> simp [eqF] at h)
theorem eqL_all {f:PV -> PV -> Option Bool}:∀ (xs ys:List PV) {b:Bool},eqL f xs ys = some b ->
  (∀ (j:Nat) x y,xs[j]? = some x -> ys[j]? = some y -> ∃ c,f x y = some c) /\
   b = ((List.range (min xs.length ys.length)).all (fun j => (f (xs.getD j .non) (ys.getD j .non)).getD false) && xs.length == ys.length)
 | [],[],b,h => by simp [eqL] at h; subst h; simp
 | [],y :: ys,b,h => by simp [eqL] at h; subst h; simp
 | x :: xs,[],b,h => by simp [eqL] at h; subst h; simp
 | x :: xs,y :: ys,b,h => by
  simp only [eqL,Option.bind_eq_some_iff,Option.map_eq_some_iff] at h
  obtain ⟨p,h1,q,h2,rfl⟩:=h
  obtain ⟨ih1,ih2⟩:=eqL_all xs ys h2
  refine ⟨fun j x' y' e1 e2 => ?_,?_⟩
  ·cases j with
   | zero => simp at e1 e2; subst e1 e2; exact ⟨p,h1⟩
   | succ j => exact ih1 j x' y' (by simpa using e1) (by simpa using e2)
  ·rw [ih2]
   have hm:min (x :: xs).length (y :: ys).length = min xs.length ys.length + 1:=by simp only [List.length_cons]; omega
   rw [hm,List.range_succ_eq_map,List.all_cons,List.all_map]
   have hl:((x :: xs).length == (y :: ys).length) = (xs.length == ys.length):=by
    rw [Bool.eq_iff_iff]; simp
   rw [hl,Bool.and_assoc]
   simp only [List.getD_cons_zero,h1,Option.getD_some,Function.comp_def,List.getD_cons_succ]
theorem inL_any {f:PV -> Option Bool}:∀ (xs:List PV) {b:Bool},inL f xs = some b -> (∀ x ∈ xs,∃ c,f x = some c) /\ b = xs.any fun x => (f x).getD false
 | [],b,h => by simp [inL] at h; subst h; simp
 | x :: xs,b,h => by
  simp only [inL,Option.bind_eq_some_iff,Option.map_eq_some_iff] at h
  obtain ⟨p,h1,q,h2,rfl⟩:=h
  obtain ⟨ih1,ih2⟩:=inL_any xs h2
  refine ⟨fun y hy => ?_,?_⟩
  ·rcases List.mem_cons.mp hy with rfl | hy
   ·exact ⟨p,h1⟩
   ·exact ih1 y hy
  ·rw [List.any_cons,h1,ih2]; rfl
section
variable {X:Cx} {pins:List (Addr × Obj)} {σ:St} {H:Hp} {s:Shared}
theorem not_both (I:Inv X pins σ H s) {a:Addr} {xs ys:List V} (h1:SqL X.K H a xs) (h2:SqT X.K H a ys):False:=by
 obtain ⟨its,_,p,_⟩:=I.list h1
 obtain ⟨its2,_,q,_⟩:=I.tuple h2
 exact SeqAt.ne_of_list_tuple p.isList (show s.heap.IsTuple a its2.toArray from q) rfl
theorem isD_enc {H:Hp} {a:Addr} {d:DD} (h:Rd H a (encD d)):IsD H a:=by
 cases d with
 | k kvs => exact .inl ⟨_,h⟩
 | t kvs => exact .inr ⟨_,h⟩
theorem no_dict (I:Inv X pins σ H s) {a:Addr} {xs:List V} {d:DD} (h1:SqL X.K H a xs \/ SqT X.K H a xs) (h2:Rd H a (encD d)):False:=by
 obtain ⟨o,ho,hc⟩:=(isD_at I (isD_enc h2)).1
 rcases h1 with h1 | h1
 ·obtain ⟨its,_,p,_⟩:=I.list h1
  obtain ⟨o',ho',hc',_⟩:=p.isList
  rw [ho] at ho'
  cases ho'
  rw [hc] at hc'
  exact absurd hc' (by decide)
 ·obtain ⟨its,_,⟨o',ho',hc',_⟩,_⟩:=I.tuple h1
  rw [ho] at ho'
  cases ho'
  rw [hc] at hc'
  exact absurd hc' (by decide)
theorem Sc.v_inj:∀ {a b:Sc},a.v = b.v -> a = b:=by
 intro a b h
 cases a <;> cases b <;> simp [Sc.v] at h ⊢ <;> exact h
theorem encK_inj:∀ {a b:List (Int × Sc)},encK a = encK b -> a = b
 | [],[],_ => rfl
 | [],_ :: _,h => by cases h
 | _ :: _,[],h => by cases h
 | (k,v) :: a,(k',v') :: b,h => by
  simp only [encK,List.map_cons,List.cons.injEq,Prod.mk.injEq,Sum.inl.injEq] at h
  obtain ⟨⟨h1,h2⟩,h3⟩:=h
  rw [h1,Sc.v_inj h2,encK_inj h3]
theorem inl_inj:∀ {a b:List Int},(a.map Sum.inl:List Key) = b.map Sum.inl -> a = b
 | [],[],_ => rfl
 | [],_ :: _,h => by cases h
 | _ :: _,[],h => by cases h
 | x :: a,y :: b,h => by
  simp only [List.map_cons,List.cons.injEq,Sum.inl.injEq] at h
  rw [h.1,inl_inj h.2]
theorem encT_inj:∀ {a b:List (List Int × Sc)},encT a = encT b -> a = b
 | [],[],_ => rfl
 | [],_ :: _,h => by cases h
 | _ :: _,[],h => by cases h
 | (k,v) :: a,(k',v') :: b,h => by
  simp only [encT,List.map_cons,List.cons.injEq,Prod.mk.injEq] at h
  obtain ⟨⟨h1,h2⟩,h3⟩:=h
  rw [inl_inj h1,Sc.v_inj h2,encT_inj h3]
theorem encD_inj {a b:DD} (h:encD a = encD b):a = b:=by
 cases a <;> cases b
 ·rw [encK_inj (HO.dK.inj h)]
 ·cases h
 ·cases h
 ·rw [encT_inj (HO.dT.inj h)]
theorem rd_inj {H:Hp} {a:Addr} {x y:DD} (h:Rd H a (encD x)) (g:Rd H a (encD y)):x = y:=by
 have ne:∀ (x:DD) (o:Obj) (u:HO),encD x ≠ .frz o u:=fun x o u e => by cases x <;> cases e
 rcases h with h | ⟨o,h⟩ <;> rcases g with g | ⟨o',g⟩
 ·rw [h] at g; exact encD_inj (Option.some.inj g)
 ·rw [h] at g; exact absurd (Option.some.inj g) (ne x _ _)
 ·rw [g] at h; exact absurd (Option.some.inj h) (ne y _ _)
 ·rw [h] at g; exact encD_inj (HO.frz.inj (Option.some.inj g)).2
mutual
theorem rep_inj (I:Inv X pins σ H s):∀ (x y:PV) {u:V},Rep X.K H x u -> Rep X.K H y u -> x = y
 | .non,y,u,h,g => by rw [Rep] at h; subst h; cases y <;> simp [Rep] at g ⊢
 | .bl b,y,u,h,g => by rw [Rep] at h; subst h; cases y <;> simp [Rep] at g ⊢; exact g
 | .int b,y,u,h,g => by rw [Rep] at h; subst h; cases y <;> simp [Rep] at g ⊢; exact g
 | .str b,y,u,h,g => by rw [Rep] at h; subst h; cases y <;> simp [Rep] at g ⊢; exact g
 | .tup xs,y,u,h,g => by
  rw [Rep] at h
  obtain ⟨a,us,rfl,q,r⟩:=h
  cases y with
  | tup ys =>
   rw [Rep] at g
   obtain ⟨b,vs,e,q',r'⟩:=g
   cases e
   have:=I.tuple_inj (SqT.of q) (SqT.of q')
   subst this
   rw [reps_inj I xs ys r r']
  | lst ys =>
   rw [Rep] at g
   obtain ⟨b,vs,e,q',r'⟩:=g
   cases e
   exact (not_both I q' (SqT.of q)).elim
  | dI kvs =>
   rw [Rep] at g
   obtain ⟨b,e,q'⟩:=g
   cases e
   exact (no_dict I (.inr (SqT.of q)) q').elim
  | _ => simp [Rep] at g
 | .lst xs,y,u,h,g => by
  rw [Rep] at h
  obtain ⟨a,us,rfl,q,r⟩:=h
  cases y with
  | lst ys =>
   rw [Rep] at g
   obtain ⟨b,vs,e,q',r'⟩:=g
   cases e
   have:=I.list_inj q q'
   subst this
   rw [reps_inj I xs ys r r']
  | tup ys =>
   rw [Rep] at g
   obtain ⟨b,vs,e,q',r'⟩:=g
   cases e
   exact (not_both I q (SqT.of q')).elim
  | dI kvs =>
   rw [Rep] at g
   obtain ⟨b,e,q'⟩:=g
   cases e
   exact (no_dict I (.inl q) q').elim
  | _ => simp [Rep] at g
 | .dI kvs,y,u,h,g => by
  rw [Rep] at h
  obtain ⟨a,rfl,q⟩:=h
  cases y with
  | dI ks =>
   rw [Rep] at g
   obtain ⟨b,e,q'⟩:=g
   cases e
   rw [rd_inj q q']
  | tup ys =>
   rw [Rep] at g
   obtain ⟨b,vs,e,q',r'⟩:=g
   cases e
   exact (no_dict I (.inr (SqT.of q')) q).elim
  | lst ys =>
   rw [Rep] at g
   obtain ⟨b,vs,e,q',r'⟩:=g
   cases e
   exact (no_dict I (.inl q') q).elim
  | _ => simp [Rep] at g
theorem reps_inj (I:Inv X pins σ H s):∀ (xs ys:List PV) {us:List V},Reps X.K H xs us -> Reps X.K H ys us -> xs = ys
 | [],ys,us,h,g => by
  rw [Reps] at h; subst h
  cases ys with
  | nil => rfl
  | cons y ys => rw [Reps] at g; obtain ⟨_,_,e,_⟩:=g; cases e
 | x :: xs,ys,us,h,g => by
  rw [Reps] at h
  obtain ⟨u,r,rfl,q,t⟩:=h
  cases ys with
  | nil => rw [Reps] at g; cases g
  | cons y ys =>
   rw [Reps] at g
   obtain ⟨u',r',e,q',t'⟩:=g
   cases e
   rw [rep_inj I x y q q',reps_inj I xs ys t t']
end
theorem Rep.tupAt (I:Inv X pins σ H s) {xs:List PV} {u:V} {v:Value} (h:Rep X.K H (.tup xs) u) (r:RelV u v) :
  ∃ (a:Addr) (us:List V) (its:List Value),u = .ref a /\ v = .ref a /\ Reps X.K H xs us /\ Vals us its /\ s.heap.IsTuple a its.toArray /\ xs.length = its.length:=by
 rw [Rep] at h
 obtain ⟨a,us,rfl,q,t⟩:=h
 obtain ⟨its,rv,p,_⟩:=I.tuple (SqT.of q)
 exact ⟨a,us,its,rfl,r,t,rv,p,t.length.trans rv.length⟩
theorem Rep.lstAt (I:Inv X pins σ H s) {xs:List PV} {u:V} {v:Value} (h:Rep X.K H (.lst xs) u) (r:RelV u v) :
  ∃ (a:Addr) (us:List V) (its:List Value),u = .ref a /\ v = .ref a /\ Reps X.K H xs us /\ Vals us its /\ s.heap.IsList a its.toArray /\ xs.length = its.length:=by
 rw [Rep] at h
 obtain ⟨a,us,rfl,q,t⟩:=h
 obtain ⟨its,rv,p,_⟩:=I.list q
 exact ⟨a,us,its,rfl,r,t,rv,p.isList,t.length.trans rv.length⟩
theorem items_eq {A:Around} {n:Nat} (ih:∀ (x y:PV) {ux uy:V} {vx vy:Value} {b:Bool} {A:Around},A.units + n < cLine -> eqF n x y = some b -> Rep X.K H x ux -> Rep X.K H y uy -> RelV ux vx -> RelV uy vy -> SeqAt.EqAt A s vx vy b)
  {xs ys:List PV} {us ws:List V} {its its2:List Value} (hu:A.units + (n + 1) < cLine) (rx:Reps X.K H xs us) (ry:Reps X.K H ys ws) (vx:Vals us its) (vy:Vals ws its2)
  (hs:∀ (j:Nat) x y,xs[j]? = some x -> ys[j]? = some y -> ∃ c,eqF n x y = some c) :
  ∀ j (h1:j < its.toArray.size) (h2:j < its2.toArray.size),SeqAt.EqAt A.in1 s its.toArray[j] its2.toArray[j] ((eqF n (xs.getD j .non) (ys.getD j .non)).getD false):=fun j h1 h2 => by
 have l1:=rx.length.trans vx.length
 have l2:=ry.length.trans vy.length
 simp only [List.size_toArray] at h1 h2
 have e1:xs[j]? = some xs[j]:=List.getElem?_eq_getElem (by omega)
 have e2:ys[j]? = some ys[j]:=List.getElem?_eq_getElem (by omega)
 obtain ⟨ux,q1,p1⟩:=rx.get e1
 obtain ⟨uy,q2,p2⟩:=ry.get e2
 obtain ⟨wx,q3,p3⟩:=vx.get q1
 obtain ⟨wy,q4,p4⟩:=vy.get q2
 obtain ⟨c,hc⟩:=hs j _ _ e1 e2
 have d1:xs.getD j .non = xs[j]:=by simp [List.getD,e1]
 have d2:ys.getD j .non = ys[j]:=by simp [List.getD,e2]
 have g1:its.toArray[j] = wx:=by
  have:its[j]? = some its[j]:=List.getElem?_eq_getElem h1
  rw [this] at q3; simpa using q3
 have g2:its2.toArray[j] = wy:=by
  have:its2[j]? = some its2[j]:=List.getElem?_eq_getElem h2
  rw [this] at q4; simpa using q4
 rw [d1,d2,hc,g1,g2]
 exact ih _ _ (show A.units + 1 + n < cLine by omega) hc p1 p2 p3 p4
theorem rc_refs {A:Around} {n:Nat} (I:Inv X pins σ H s) (ih:∀ (x y:PV) {ux uy:V} {vx vy:Value} {b:Bool} {A:Around},A.units + n < cLine -> eqF n x y = some b -> Rep X.K H x ux -> Rep X.K H y uy -> RelV ux vx -> RelV uy vy -> SeqAt.EqAt A s vx vy b)
  (hu:A.units + (n + 1) < cLine):(∀ {xs ys:List PV} {ux uy:V} {vx vy:Value} {b:Bool},eqF (n + 1) (.tup xs) (.tup ys) = some b -> Rep X.K H (.tup xs) ux -> Rep X.K H (.tup ys) uy -> RelV ux vx -> RelV uy vy -> SeqAt.RcAt A s vx vy b) /\
   (∀ {xs ys:List PV} {ux uy:V} {vx vy:Value} {b:Bool},eqF (n + 1) (.lst xs) (.lst ys) = some b -> Rep X.K H (.lst xs) ux -> Rep X.K H (.lst ys) uy -> RelV ux vx -> RelV uy vy -> SeqAt.RcAt A s vx vy b):=by
 refine ⟨fun {xs ys ux uy vx vy b} h rx ry r1 r2 => ?_,fun {xs ys ux uy vx vy b} h rx ry r1 r2 => ?_⟩
 ·obtain ⟨a,us,its,rfl,rfl,t1,w1,p1,l1⟩:=rx.tupAt I r1
  obtain ⟨c,ws,its2,rfl,rfl,t2,w2,p2,l2⟩:=ry.tupAt I r2
  rw [eqF] at h
  obtain ⟨hs,hb⟩:=eqL_all xs ys h
  have q:=SeqAt.RcAt.tuples (A:=A) p1 p2 (by omega) (items_eq ih hu t1 t2 w1 w2 hs)
  rw [hb]
  simpa [l1,l2] using q
 ·obtain ⟨a,us,its,rfl,rfl,t1,w1,p1,l1⟩:=rx.lstAt I r1
  obtain ⟨c,ws,its2,rfl,rfl,t2,w2,p2,l2⟩:=ry.lstAt I r2
  rw [eqF] at h
  by_cases hl:xs.length = ys.length
  ·rw [if_pos hl] at h
   obtain ⟨hs,hb⟩:=eqL_all xs ys h
   have q:=SeqAt.RcAt.lists (A:=A) p1 p2 (by simp only [List.size_toArray]; omega) (by omega) (items_eq ih hu t1 t2 w1 w2 hs)
   rw [hb,hl,Nat.min_self]
   simpa [<- l1,hl] using q
  ·rw [if_neg hl] at h
   cases h
   exact SeqAt.RcAt.lists_lengths (A:=A) p1 p2 (by simp only [List.size_toArray,bne_iff_ne]; omega) (by omega)
theorem rep_flat {x:PV} {u:V} (hd:isD x = false) (h:Rep X.K H x u):(∃ xs,x = .tup xs) \/ (∃ xs,x = .lst xs) \/ flatV u = true:=by
 cases x with
 | tup xs => exact .inl ⟨xs,rfl⟩
 | lst xs => exact .inr (.inl ⟨xs,rfl⟩)
 | non => rw [Rep] at h; subst h; exact .inr (.inr rfl)
 | bl b => rw [Rep] at h; subst h; exact .inr (.inr rfl)
 | int b => rw [Rep] at h; subst h; exact .inr (.inr rfl)
 | str b => rw [Rep] at h; subst h; exact .inr (.inr rfl)
 | dI _ => cases hd
theorem flat_tuple {A:Around} (hu:A.units < cLine) {u:V} {v:Value} (f:flatV u = true) (r:RelV u v) {a:Addr} {its:Array Value} (p:s.heap.IsTuple a its) :
  SeqAt.EqAt A s v (.ref a) false /\ SeqAt.EqAt A s (.ref a) v false /\ SeqAt.RcAt A s v (.ref a) false /\ SeqAt.RcAt A s (.ref a) v false:=by
 cases u with
 | non => cases r; exact ⟨.none_tuple p hu,.tuple_none p hu,.none_tuple p hu,.tuple_none p hu⟩
 | bl b => cases r; exact ⟨.bool_tuple b p hu,.tuple_bool b p hu,.bool_tuple b p hu,.tuple_bool b p hu⟩
 | int b => obtain ⟨t,rfl⟩:=r; exact ⟨.int_tuple b t p hu,.tuple_int b t p hu,.int_tuple b t p hu,.tuple_int b t p hu⟩
 | str b => obtain ⟨t,rfl⟩:=r; exact ⟨.str_tuple b t p hu,.tuple_str b t p hu,.str_tuple b t p hu,.tuple_str b t p hu⟩
 | _ => exact absurd (show false = true from f) Bool.false_ne_true
theorem flat_list {A:Around} (hu:A.units < cLine) {u:V} {v:Value} (f:flatV u = true) (r:RelV u v) {a:Addr} {its:Array Value} (p:s.heap.IsList a its) :
  SeqAt.EqAt A s v (.ref a) false /\ SeqAt.EqAt A s (.ref a) v false /\ SeqAt.RcAt A s v (.ref a) false /\ SeqAt.RcAt A s (.ref a) v false:=by
 cases u with
 | non => cases r; exact ⟨.none_list p hu,.list_none p hu,.none_list p hu,.list_none p hu⟩
 | bl b => cases r; exact ⟨.bool_list b p hu,.list_bool b p hu,.bool_list b p hu,.list_bool b p hu⟩
 | int b => obtain ⟨t,rfl⟩:=r; exact ⟨.int_list b t p hu,.list_int b t p hu,.int_list b t p hu,.list_int b t p hu⟩
 | str b => obtain ⟨t,rfl⟩:=r; exact ⟨.str_list b t p hu,.list_str b t p hu,.str_list b t p hu,.list_str b t p hu⟩
 | _ => exact absurd (show false = true from f) Bool.false_ne_true
theorem rcAt_V {A:Around} {y x:V} {u v:Value} (ry:RelV y u) (rx:RelV x v) (fy:flatV y = true) (fx:flatV x = true):SeqAt.RcAt A s u v (eqV y x):=by
 cases y with
 | non =>
  cases ry
  cases x with
  | non => cases rx; exact SeqAt.RcAt.none_none
  | bl b => cases rx; exact SeqAt.RcAt.none_bool b
  | int b => obtain ⟨t,rfl⟩:=rx; exact SeqAt.RcAt.none_int b t
  | str b => obtain ⟨t,rfl⟩:=rx; exact SeqAt.RcAt.none_str b t
  | _ => exact absurd (show false = true from fx) Bool.false_ne_true
 | bl a =>
  cases ry
  cases x with
  | non => cases rx; exact SeqAt.RcAt.bool_none a
  | bl b => cases rx; exact SeqAt.RcAt.bool_bool a b
  | int b => obtain ⟨t,rfl⟩:=rx; exact SeqAt.RcAt.bool_int a b t
  | str b => obtain ⟨t,rfl⟩:=rx; exact SeqAt.RcAt.bool_str a b t
  | _ => exact absurd (show false = true from fx) Bool.false_ne_true
 | int a =>
  obtain ⟨t',rfl⟩:=ry
  cases x with
  | non => cases rx; exact SeqAt.RcAt.int_none a t'
  | bl b => cases rx; exact SeqAt.RcAt.int_bool a t' b
  | int b => obtain ⟨t,rfl⟩:=rx; exact SeqAt.RcAt.int_int a t' b t
  | str b => obtain ⟨t,rfl⟩:=rx; exact SeqAt.RcAt.int_str a t' b t
  | _ => exact absurd (show false = true from fx) Bool.false_ne_true
 | str a =>
  obtain ⟨t',rfl⟩:=ry
  cases x with
  | non => cases rx; exact SeqAt.RcAt.str_none a t'
  | bl b => cases rx; exact SeqAt.RcAt.str_bool a t' b
  | int b => obtain ⟨t,rfl⟩:=rx; exact SeqAt.RcAt.str_int a t' b t
  | str b => obtain ⟨t,rfl⟩:=rx; exact SeqAt.RcAt.str_str a t' b t
  | _ => exact absurd (show false = true from fx) Bool.false_ne_true
 | _ => exact absurd (show false = true from fy) Bool.false_ne_true
theorem eqF_flat {n:Nat} {x y:PV} {u v:V} {b:Bool} (rx:Rep X.K H x u) (ry:Rep X.K H y v) (fx:flatV u = true) (fy:flatV v = true) (h:eqF n x y = some b):b = eqV u v:=by
 cases x <;> cases y <;> simp only [Rep] at rx ry
 all_goals first
  | (obtain ⟨_,_,rfl,_⟩:=rx; exact absurd (show false = true from fx) Bool.false_ne_true)
  | (obtain ⟨_,_,rfl,_⟩:=ry; exact absurd (show false = true from fy) Bool.false_ne_true)
  | (obtain ⟨_,rfl,_⟩:=rx; exact absurd (show false = true from fx) Bool.false_ne_true)
  | (obtain ⟨_,rfl,_⟩:=ry; exact absurd (show false = true from fy) Bool.false_ne_true)
  | (subst rx ry; simp only [eqF,Option.some.injEq] at h; subst h; rfl)
theorem eq_rep (I:Inv X pins σ H s):∀ (n:Nat) (x y:PV) {ux uy:V} {vx vy:Value} {b:Bool} {A:Around},A.units + n < cLine -> eqF n x y = some b -> Rep X.K H x ux -> Rep X.K H y uy -> RelV ux vx -> RelV uy vy ->
  SeqAt.EqAt A s vx vy b /\ SeqAt.RcAt A s vx vy b:=by
 intro n
 induction n with
 | zero =>
  intro x y ux uy vx vy b A hu h rx ry r1 r2
  have hu0:A.units < cLine:=by omega
  rcases rep_flat (eqF_nd h).1 rx with ⟨xs,rfl⟩ | ⟨xs,rfl⟩ | fx
  ·obtain ⟨a,us,its,rfl,rfl,t1,w1,p1,l1⟩:=rx.tupAt I r1
   rcases rep_flat (eqF_nd h).2 ry with ⟨ys,rfl⟩ | ⟨ys,rfl⟩ | fy
   ·simp [eqF] at h
   ·obtain ⟨c,ws,its2,rfl,rfl,t2,w2,p2,l2⟩:=ry.lstAt I r2
    simp [eqF] at h; subst h
    exact ⟨.tuple_list p1 p2 hu0,.tuple_list p1 p2 hu0⟩
   ·obtain ⟨z1,z2,z3,z4⟩:=flat_tuple hu0 fy r2 p1
    have:b = false:=by cases y <;> simp [eqF,Rep] at h ry <;> first | exact h.symm | exact h | (obtain ⟨_,rfl,_⟩:=ry; exact absurd (show false = true from fy) Bool.false_ne_true)
    subst this
    exact ⟨z2,z4⟩
  ·obtain ⟨a,us,its,rfl,rfl,t1,w1,p1,l1⟩:=rx.lstAt I r1
   rcases rep_flat (eqF_nd h).2 ry with ⟨ys,rfl⟩ | ⟨ys,rfl⟩ | fy
   ·obtain ⟨c,ws,its2,rfl,rfl,t2,w2,p2,l2⟩:=ry.tupAt I r2
    simp [eqF] at h; subst h
    exact ⟨.list_tuple p1 p2 hu0,.list_tuple p1 p2 hu0⟩
   ·simp [eqF] at h
   ·obtain ⟨z1,z2,z3,z4⟩:=flat_list hu0 fy r2 p1
    have:b = false:=by cases y <;> simp [eqF,Rep] at h ry <;> first | exact h.symm | exact h | (obtain ⟨_,rfl,_⟩:=ry; exact absurd (show false = true from fy) Bool.false_ne_true)
    subst this
    exact ⟨z2,z4⟩
  ·rcases rep_flat (eqF_nd h).2 ry with ⟨ys,rfl⟩ | ⟨ys,rfl⟩ | fy
   ·obtain ⟨c,ws,its2,rfl,rfl,t2,w2,p2,l2⟩:=ry.tupAt I r2
    obtain ⟨z1,z2,z3,z4⟩:=flat_tuple hu0 fx r1 p2
    have:b = false:=by cases x <;> simp [eqF,Rep] at h rx <;> first | exact h.symm | exact h | (obtain ⟨_,rfl,_⟩:=rx; exact absurd (show false = true from fx) Bool.false_ne_true)
    subst this
    exact ⟨z1,z3⟩
   ·obtain ⟨c,ws,its2,rfl,rfl,t2,w2,p2,l2⟩:=ry.lstAt I r2
    obtain ⟨z1,z2,z3,z4⟩:=flat_list hu0 fx r1 p2
    have:b = false:=by cases x <;> simp [eqF,Rep] at h rx <;> first | exact h.symm | exact h | (obtain ⟨_,rfl,_⟩:=rx; exact absurd (show false = true from fx) Bool.false_ne_true)
    subst this
    exact ⟨z1,z3⟩
   ·rw [eqF_flat rx ry fx fy h]
    exact ⟨eqAt_V r1 r2 fx fy,rcAt_V r1 r2 fx fy⟩
 | succ n ih =>
  intro x y ux uy vx vy b A hu h rx ry r1 r2
  have hu0:A.units < cLine:=by omega
  obtain ⟨kt,kl⟩:=rc_refs I (fun x y {_ _ _ _ _ _} a1 a2 a3 a4 a5 a6 => (ih x y a1 a2 a3 a4 a5 a6).1) hu
  rcases rep_flat (eqF_nd h).1 rx with ⟨xs,rfl⟩ | ⟨xs,rfl⟩ | fx
  ·obtain ⟨a,us,its,e1,e1',t1,w1,p1,l1⟩:=rx.tupAt I r1
   rcases rep_flat (eqF_nd h).2 ry with ⟨ys,rfl⟩ | ⟨ys,rfl⟩ | fy
   ·have q:=kt h rx ry r1 r2
    obtain ⟨c,ws,its2,e2,e2',t2,w2,p2,l2⟩:=ry.tupAt I r2
    subst e1 e1' e2 e2'
    refine ⟨?_,q⟩
    by_cases hac:a = c
    ·subst hac
     have e:=rep_inj I _ _ rx ry
     rw [e] at h
     rw [eqF_refl _ _ h]
     exact .same _
    ·exact .of_refs hac q
   ·obtain ⟨c,ws,its2,e2,e2',t2,w2,p2,l2⟩:=ry.lstAt I r2
    subst e1 e1' e2 e2'
    simp [eqF] at h; subst h
    exact ⟨.tuple_list p1 p2 hu0,.tuple_list p1 p2 hu0⟩
   ·subst e1 e1'
    obtain ⟨z1,z2,z3,z4⟩:=flat_tuple hu0 fy r2 p1
    have:b = false:=by cases y <;> simp [eqF,Rep] at h ry <;> first | exact h.symm | exact h | (obtain ⟨_,rfl,_⟩:=ry; exact absurd (show false = true from fy) Bool.false_ne_true)
    subst this
    exact ⟨z2,z4⟩
  ·obtain ⟨a,us,its,e1,e1',t1,w1,p1,l1⟩:=rx.lstAt I r1
   rcases rep_flat (eqF_nd h).2 ry with ⟨ys,rfl⟩ | ⟨ys,rfl⟩ | fy
   ·obtain ⟨c,ws,its2,e2,e2',t2,w2,p2,l2⟩:=ry.tupAt I r2
    subst e1 e1' e2 e2'
    simp [eqF] at h; subst h
    exact ⟨.list_tuple p1 p2 hu0,.list_tuple p1 p2 hu0⟩
   ·have q:=kl h rx ry r1 r2
    obtain ⟨c,ws,its2,e2,e2',t2,w2,p2,l2⟩:=ry.lstAt I r2
    subst e1 e1' e2 e2'
    refine ⟨?_,q⟩
    by_cases hac:a = c
    ·subst hac
     have e:=rep_inj I _ _ rx ry
     rw [e] at h
     rw [eqF_refl _ _ h]
     exact .same _
    ·exact .of_refs hac q
   ·subst e1 e1'
    obtain ⟨z1,z2,z3,z4⟩:=flat_list hu0 fy r2 p1
    have:b = false:=by cases y <;> simp [eqF,Rep] at h ry <;> first | exact h.symm | exact h | (obtain ⟨_,rfl,_⟩:=ry; exact absurd (show false = true from fy) Bool.false_ne_true)
    subst this
    exact ⟨z2,z4⟩
  ·rcases rep_flat (eqF_nd h).2 ry with ⟨ys,rfl⟩ | ⟨ys,rfl⟩ | fy
   ·obtain ⟨c,ws,its2,rfl,rfl,t2,w2,p2,l2⟩:=ry.tupAt I r2
    obtain ⟨z1,z2,z3,z4⟩:=flat_tuple hu0 fx r1 p2
    have:b = false:=by cases x <;> simp [eqF,Rep] at h rx <;> first | exact h.symm | exact h | (obtain ⟨_,rfl,_⟩:=rx; exact absurd (show false = true from fx) Bool.false_ne_true)
    subst this
    exact ⟨z1,z3⟩
   ·obtain ⟨c,ws,its2,rfl,rfl,t2,w2,p2,l2⟩:=ry.lstAt I r2
    obtain ⟨z1,z2,z3,z4⟩:=flat_list hu0 fx r1 p2
    have:b = false:=by cases x <;> simp [eqF,Rep] at h rx <;> first | exact h.symm | exact h | (obtain ⟨_,rfl,_⟩:=rx; exact absurd (show false = true from fx) Bool.false_ne_true)
    subst this
    exact ⟨z1,z3⟩
   ·rw [eqF_flat rx ry fx fy h]
    exact ⟨eqAt_V r1 r2 fx fy,rcAt_V r1 r2 fx fy⟩
end
section
variable {X:Cx}
theorem op_eqR (hu:X.A.units + 101 < cLine):OpR X (compareOp .Eq) (fun ux uy H Q => ∃ x y b,Rep X.K H x ux /\ Rep X.K H y uy /\ eqF 100 x y = some b /\ Q (.bl b) H):=by
 intro pins s σ H ux uy v u Q I rx ry h
 obtain ⟨x,y,b,r1,r2,e,q⟩:=h
 exact (eq_rep I 100 x y (by omega) e r1 r2 rx ry).2 _ _ _ _ ⟨.bl b,H,I,rfl,q⟩
theorem op_neR (hu:X.A.units + 101 < cLine):OpR X (compareOp .NotEq) (fun ux uy H Q => ∃ x y b,Rep X.K H x ux /\ Rep X.K H y uy /\ neOk x y = true /\ eqF 100 x y = some b /\ Q (.bl (!b)) H):=by
 intro pins s σ H ux uy v u Q I rx ry h
 obtain ⟨x,y,b,r1,r2,ok,e,q⟩:=h
 rcases rep_flat (eqF_nd e).1 r1 with ⟨xs,rfl⟩ | ⟨xs,rfl⟩ | fx
 ·cases y with
  | tup ys =>
   obtain ⟨a,us,its,rfl,rfl,t1,w1,p1,l1⟩:=r1.tupAt I rx
   obtain ⟨c,ws,its2,rfl,rfl,t2,w2,p2,l2⟩:=r2.tupAt I ry
   rw [eqF] at e
   obtain ⟨hs,hb⟩:=eqL_all xs ys e
   obtain ⟨⟨cls,dd,data,sl⟩,ho,hc,n,hd⟩:=id p1
   obtain ⟨⟨cls2,dd2,data2,sl2⟩,ho2,hc2,n2,hd2⟩:=id p2
   simp only at hc hd hc2 hd2
   subst hc hd hc2 hd2
   refine richCompare_meets_room (op:=.NotEq) ⟨_,ho,rfl⟩ ⟨_,ho2,rfl⟩ PySem.F.slot_tuple_ne PySem.F.entry_tuple_ne (PySem.F.args_tuple_ne_2 _ _) (SeqAt.tuple_neAt a c its.toArray its2.toArray n n2 dd dd2 sl sl2 _)
    ⟨ho,ho2,items_eq (n:=99) (fun x y {_ _ _ _ _ _} a1 a2 a3 a4 a5 a6 => (eq_rep I 99 x y a1 a2 a3 a4 a5 a6).1) (by omega) t1 t2 w1 w2 hs,?_⟩ (by omega)
   refine ⟨(fun x => nomatch x),⟨.bl (!b),H,I,?_,q⟩⟩
   rw [hb]
   simp [l1,l2,L2.RelV]
  | _ => cases ok
 ·cases y with
  | lst ys =>
   obtain ⟨a,us,its,rfl,rfl,t1,w1,p1,l1⟩:=r1.lstAt I rx
   obtain ⟨c,ws,its2,rfl,rfl,t2,w2,p2,l2⟩:=r2.lstAt I ry
   rw [eqF] at e
   obtain ⟨⟨cls,dd,data,sl⟩,ho,hc,n,hd⟩:=id p1
   obtain ⟨⟨cls2,dd2,data2,sl2⟩,ho2,hc2,n2,hd2⟩:=id p2
   simp only at hc hd hc2 hd2
   subst hc hd hc2 hd2
   by_cases hl:xs.length = ys.length
   ·rw [if_pos hl] at e
    obtain ⟨hs,hb⟩:=eqL_all xs ys e
    refine richCompare_meets_room (op:=.NotEq) ⟨_,ho,rfl⟩ ⟨_,ho2,rfl⟩ PySem.F.slot_list_ne PySem.F.entry_list_ne (PySem.F.args_list_ne_2 _ _) (SeqAt.list_neAt a c its.toArray its2.toArray n n2 dd dd2 sl sl2 (by simp only [List.size_toArray]; omega) _)
     ⟨ho,ho2,items_eq (n:=99) (fun x y {_ _ _ _ _ _} a1 a2 a3 a4 a5 a6 => (eq_rep I 99 x y a1 a2 a3 a4 a5 a6).1) (by omega) t1 t2 w1 w2 hs,?_⟩ (by omega)
    refine ⟨(fun x => nomatch x),⟨.bl (!b),H,I,?_,q⟩⟩
    rw [hb,hl,Nat.min_self]
    simp [<- l1,hl,L2.RelV]
   ·rw [if_neg hl] at e
    cases e
    refine richCompare_meets_room (op:=.NotEq) ⟨_,ho,rfl⟩ ⟨_,ho2,rfl⟩ PySem.F.slot_list_ne PySem.F.entry_list_ne (PySem.F.args_list_ne_2 _ _) (SeqAt.list_ne_lengthsAt a c its.toArray its2.toArray n n2 dd dd2 sl sl2 (by simp only [List.size_toArray,bne_iff_ne]; omega)) ⟨ho,ho2,?_⟩ (by omega)
    exact ⟨(fun x => nomatch x),⟨.bl true,H,I,rfl,q⟩⟩
  | _ => cases ok
 ·have fy:flatV uy = true:=by
   rcases rep_flat (eqF_nd e).2 r2 with ⟨ys,rfl⟩ | ⟨ys,rfl⟩ | fy
   ·cases x <;> cases ok
    obtain ⟨_,_,rfl,_⟩:∃ a us,ux = V.ref a /\ _:=by rw [Rep] at r1; exact r1
    exact absurd (show false = true from fx) Bool.false_ne_true
   ·cases x <;> cases ok
    obtain ⟨_,_,rfl,_⟩:∃ a us,ux = V.ref a /\ _:=by rw [Rep] at r1; exact r1
    exact absurd (show false = true from fx) Bool.false_ne_true
   ·exact fy
  have hb:=eqF_flat r1 r2 fx fy e
  subst hb
  refine op_ne pins s σ H ux uy v u Q I rx ry ?_
  have key:scal ux uy = true /\ decide (ux = uy) = eqV ux uy:=by
   cases x <;> cases y <;> simp only [Rep] at r1 r2 <;> first
    | (obtain ⟨_,_,rfl,_⟩:=r1; exact absurd (show false = true from fx) Bool.false_ne_true)
    | (obtain ⟨_,_,rfl,_⟩:=r2; exact absurd (show false = true from fy) Bool.false_ne_true)
    | (obtain ⟨_,rfl,_⟩:=r1; exact absurd (show false = true from fx) Bool.false_ne_true)
    | (obtain ⟨_,rfl,_⟩:=r2; exact absurd (show false = true from fy) Bool.false_ne_true)
    | (subst r1 r2; first | (cases ok; done) | exact ⟨rfl,by first | exact dec_int | exact dec_bl | exact dec_str | exact decide_eq_true rfl | exact decide_eq_false (fun z => by cases z)⟩)
  exact ⟨key.1,by rw [key.2]; exact q⟩
theorem in_items {pins:List (Addr × Obj)} {σ:St} {H:Hp} {s:Shared} (I:Inv X pins σ H s) (hu:X.A.units + 101 < cLine) {x:PV} {ux:V} {vx:Value} (rx:Rep X.K H x ux) (r1:RelV ux vx) {xs:List PV} {us:List V} {its:List Value} (t:Reps X.K H xs us) (w:Vals us its) {b:Bool} (h:isIn x xs = some b) :
  ∃ e:Value -> Bool,(∀ y,y ∈ its.toArray -> SeqAt.EqAt X.A.in1 s y vx (e y)) /\ its.toArray.any e = b:=by
 obtain ⟨h1,h2⟩:=inL_any xs h
 classical
 have uniq:∀ (z:PV) (u:V) (y:Value),RelV u y -> Rep X.K H z u -> ∀ p:(∃ z u,RelV u y /\ Rep X.K H z u),p.choose = z:=fun z u y r q p => by
  obtain ⟨u',r',q'⟩:=p.choose_spec
  have e:=r.inj r'
  subst e
  exact rep_inj I _ _ q' q
 refine ⟨fun y => if p:∃ z u,RelV u y /\ Rep X.K H z u then (eqF 100 p.choose x).getD false else false,?_,?_⟩
 ·intro y hy
  obtain ⟨j,hj,e⟩:=List.getElem_of_mem (by simpa using hy:y ∈ its)
  have ej:its[j]? = some y:=by rw [List.getElem?_eq_getElem hj,e]
  have l1:=w.length
  obtain ⟨uy,e1⟩:∃ uy,us[j]? = some uy:=⟨_,List.getElem?_eq_getElem (by omega)⟩
  obtain ⟨wy,e2,ry⟩:=w.get e1
  rw [ej] at e2
  cases e2
  obtain ⟨z,e3,rz⟩:=t.get' e1
  obtain ⟨c,hc⟩:=h1 z (List.mem_of_getElem? e3)
  have q:=(eq_rep I 100 z x (A:=X.A.in1) (show X.A.units + 1 + 100 < cLine by omega) hc rz rx ry r1).1
  have p:∃ z u,RelV u y /\ Rep X.K H z u:=⟨z,uy,ry,rz⟩
  have e4:=uniq z uy y ry rz p
  simp only [p,dite_true,e4,hc,Option.getD_some]
  exact q
 ·rw [h2]
  simp only [List.any_toArray]
  clear h h1 h2
  induction xs generalizing us its with
  | nil =>
   rw [Reps] at t
   subst t
   cases w
   rfl
  | cons z zs ih =>
   rw [Reps] at t
   obtain ⟨u,r,rfl,q,t⟩:=t
   cases w with
   | cons rv w =>
    rename_i y ys
    have p:∃ z u,RelV u y /\ Rep X.K H z u:=⟨z,u,rv,q⟩
    have e4:=uniq z u y rv q p
    rw [List.any_cons,List.any_cons,ih t w]
    simp only [p,dite_true,e4]
theorem op_inR (hu:X.A.units + 101 < cLine):OpR X (compareOp .In) (fun ux uy H Q => ∃ x xs a us b,Rep X.K H x ux /\ uy = .ref a /\ (SqL X.K H a us \/ SqT X.K H a us) /\ Reps X.K H xs us /\ isIn x xs = some b /\ Q (.bl b) H):=by
 intro pins s σ H ux uy v u Q I rx ry h
 obtain ⟨x,xs,a,us,b,r1,rfl,hq,r2,e,q⟩:=h
 cases ry
 rcases hq with hq | hq
 ·obtain ⟨its,r,pl,hz⟩:=I.list hq
  obtain ⟨f,h1,h2⟩:=in_items I hu r1 rx r2 r e
  refine SeqAt.in_listAt f pl.isList h1 ?_
  rw [h2]
  exact ⟨.bl b,H,I,rfl,q⟩
 ·obtain ⟨its,r,pl,hz⟩:=I.tuple hq
  obtain ⟨f,h1,h2⟩:=in_items I hu r1 rx r2 r e
  refine SeqAt.in_tupleAt f pl h1 ?_
  rw [h2]
  exact ⟨.bl b,H,I,rfl,q⟩
theorem op_notInR (hu:X.A.units + 101 < cLine):OpR X (compareOp .NotIn) (fun ux uy H Q => ∃ x xs a us b,Rep X.K H x ux /\ uy = .ref a /\ (SqL X.K H a us \/ SqT X.K H a us) /\ Reps X.K H xs us /\ isIn x xs = some b /\ Q (.bl (!b)) H):=by
 intro pins s σ H ux uy v u Q I rx ry h
 obtain ⟨x,xs,a,us,b,r1,rfl,hq,r2,e,q⟩:=h
 cases ry
 rcases hq with hq | hq
 ·obtain ⟨its,r,pl,hz⟩:=I.list hq
  obtain ⟨f,h1,h2⟩:=in_items I hu r1 rx r2 r e
  refine SeqAt.notIn_listAt f pl.isList h1 ?_
  rw [h2]
  exact ⟨.bl (!b),H,I,rfl,q⟩
 ·obtain ⟨its,r,pl,hz⟩:=I.tuple hq
  obtain ⟨f,h1,h2⟩:=in_items I hu r1 rx r2 r e
  refine SeqAt.notIn_tupleAt f pl h1 ?_
  rw [h2]
  exact ⟨.bl (!b),H,I,rfl,q⟩
end
end MM
namespace L2
open PySem PySem.Spec PyProof.Rows
theorem PE.imp {X:Cx} {e:Expr} {t t':TE} (h:PE X e t) (i:∀ σ H Q,t' σ H Q -> t σ H Q):PE X e t':=fun pins s σ H Q I q => h pins s σ H Q I (i σ H Q q)
theorem PT.imp {X:Cx} {e:Expr} {t t':TT} (h:PT X e t) (i:∀ σ H Q,t' σ H Q -> t σ H Q):PT X e t':=fun pins s σ H Q I q => h pins s σ H Q I (i σ H Q q)
theorem PA.imp {X:Cx} {e:List Expr} {t t':TA} (h:PA X e t) (i:∀ σ H Q,t' σ H Q -> t σ H Q):PA X e t':=fun pos pins s σ H Q I q => h pos pins s σ H Q I (i σ H Q q)
theorem PS.imp {X:Cx} {e:Stmt} {t t':TS} (h:PS X e t) (i:∀ D σ H,t' D σ H -> t D σ H):PS X e t':=fun pins s σ H D I q => h pins s σ H D I (i D σ H q)
theorem PSs.imp {X:Cx} {e:List Stmt} {t t':TS} (h:PSs X e t) (i:∀ D σ H,t' D σ H -> t D σ H):PSs X e t':=fun pins s σ H D I q => h pins s σ H D I (i D σ H q)
theorem PI.imp {X:Cx} {tg e:Expr} {t t':TI} (h:PI X tg e t) (i:∀ σ H R,t' σ H R -> t σ H R):PI X tg e t':=fun pins s σ H R I q => h pins s σ H R I (i σ H R q)
end L2
namespace MM
open PySem PySem.Spec PyProof.Rows L2
noncomputable def ArgOk (K:PySem.W.Frag) (O:List Addr) (H:Hp):MV -> V -> Prop
 | .val v,u => Rep K (hide H O) v u
 | .brw xs,u => ∃ a us,u = .ref a /\ SqL K H a us /\ Reps K (hide H O) xs us
 | .own _,_ => False
 | .ownD _,_ => False
 | .ownO _ _ _,_ => False
 | .brwO fs xs,u => ∃ a,u = .ref a /\ LentAt K H (hide H O) fs xs a
 | .brwD kvs,u => ∃ a,u = .ref a /\ Rd H a (encD kvs)
noncomputable def spM (K:PySem.W.Frag) (cal:Cal) (f:Nat):Sp:=fun vs H Q _ =>
 ∃ (O:List Addr) (args:List MV) (r:PV),(∀ a ∈ O,H a ≠ none) /\ Paired (ArgOk K O H) args vs /\ cal f args = some r /\ ∀ u H',Same H H' -> Rep K (hide H' O) r u -> Q u H'
noncomputable def spF (K:PySem.W.Frag) (cal:Cal) (f:Nat):Sp:=fun vs H Q _ =>
 ∃ (O:List Addr) (args:List MV) (xs:List PV),(∀ a ∈ O,H a ≠ none) /\ Paired (ArgOk K O H) args vs /\ cal (f + 1000) args = some (.lst xs) /\ ∀ p us H',Same H H' -> H p = none -> H' p = some (.lst us) -> Reps K (hide H' (p :: O)) xs us -> Q (.ref p) H'
noncomputable def spT (K:PySem.W.Frag) (cal:Cal) (f:Nat):Sp:=fun vs H Q _ =>
 ∃ (O:List Addr) (a l:Addr) (fs xs as:List PV) (ws:List V) (v:Sc) (ys:List PV),vs = .ref a :: ws /\ (∀ b ∈ O,H b ≠ none) /\ OwnAt K (fun _ => none) O H fs xs a l /\ Reps K (hide H O) as ws /\ cal (f + 3000) (.ownO true fs xs :: as.map .val) = some (.tup [v.pv,.lst ys]) /\
  ∀ l' H',(∀ b o,b ≠ a -> b ≠ l -> H b = some o -> H' b = some o) -> (l' = l \/ H l' = none) -> OwnAt K (fun _ => none) (l' :: O.filter fun b => decide (b ≠ l)) H' fs ys a l' -> Q v.v H'
noncomputable def mkGs (c r o:V) (l:Addr):List (Str × V):=putF "taken" (.ref l) (putF "opener" o (putF "ribbons" r (putF "hole_count" c [])))
noncomputable def spI (K:PySem.W.Frag) (C:Addr):Sp:=fun vs H Q _ =>
 ∃ (x dx la:Addr) (c r o:V),vs = [.ref x,.ref la,o] /\ H x = some (.ins C dx []) /\ SqT K H la [c,r] /\
  ∀ (l:Addr) (H':Hp),H l = none -> H' x = some (.ins C dx (mkGs c r o l)) -> H' l = some (.lst []) -> (∀ b u,b ≠ x -> H b = some u -> H' b = some u) -> Q .non H'
noncomputable def bltNames:List String:=["len","tuple","list","sorted","any","all","sum","max","min","int","bool","str","isinstance","set","range","enumerate","reversed"]
noncomputable def toV:PV -> V
 | .non => .non
 | .bl b => .bl b
 | .int i => .int i
 | .str x => .str x
 | _ => .non
structure Gf (X:Cx) (T:Tab) (k:Nat) (cal:Cal):Prop where
 calm:X.calm = true
 room:Room k X.A
 fns:∀ (f:Nat) (x:Str),T.fs[f]? = some x -> plainName x = true -> ∃ (fa:Addr) (fd:FuncData) (ps:List Str),X.mg x = some (.ref fa) /\ PySem.W.keepIn X.K (.ref fa) = true /\ Binds X.K fd ps [] /\ FnOk X.prog X.w X.K X.mg X.base CX0 k fa fd ps (spM X.K cal f) /\ ∀ l,T.ds[f]? = some l -> ∃ vs,Binds X.K fd ps vs /\ Vals (l.map Sc.v) vs
 blt:∀ x ∈ bltNames,X.mg (x:Str) = none
 gs:∀ p ∈ T.gs,∃ u,X.mg p.1 = some u /\ RelV (toV p.2) u
 cls:∀ C,IsC X.K C -> Cls X.K C /\ (∀ x ∈ fldN,NoAttr X.K C x) /\ NoAttr X.K C "taken"
 meths:∀ (f:Nat) (m:Str),T.ms[f]? = some (some m) -> ∀ C,IsC X.K C -> ∃ (fa:Addr) (fd:FuncData) (ps:List Str),Meth X.K C m fa /\ Binds X.K fd ps [] /\ FnOk X.prog X.w X.K X.mg X.base CX0 k fa fd ps (spM X.K cal f)
 methsT:∀ (f:Nat) (m:Str),T.ms[f]? = some (some m) -> ∀ C,IsC X.K C -> ∃ (fa:Addr) (fd:FuncData) (ps:List Str),Meth X.K C m fa /\ Binds X.K fd ps [] /\ FnOk X.prog X.w X.K X.mg X.base CX0 k fa fd ps (spT X.K cal f)
 lvl:cal 4000 [] ≠ none -> Room 2 X.A
 ini:cal 4000 [] ≠ none -> ∃ C,IsC X.K C /\ X.mg ("Table":Str) = some (.ref C) /\ ∃ (fa:Addr) (fd:FuncData) (ps:List Str),Mk X.K C fa /\ Binds X.K fd ps [] /\ FnOk X.prog X.w X.K X.mg X.base CX0 1 fa fd ps (spI X.K C) /\ ∃ vs,Binds X.K fd ps vs /\ Vals [V.str "weaver"] vs
 fnsF:∀ (f:Nat) (x:Str),T.fs[f]? = some x -> plainName x = true -> ∃ (fa:Addr) (fd:FuncData) (ps:List Str),X.mg x = some (.ref fa) /\ PySem.W.keepIn X.K (.ref fa) = true /\ Binds X.K fd ps [] /\ FnOk X.prog X.w X.K X.mg X.base CX0 k fa fd ps (spF X.K cal f)
theorem Gf.units {X:Cx} {T:Tab} {k:Nat} {cal:Cal} (g:Gf X T k cal):X.A.units + 200 < cLine:=by have:=g.room.un; omega
noncomputable def Got (K:PySem.W.Frag) (H:Hp) (O:List Addr) (me:ME) (v:PV) (u:V):Prop:=RepB K H O v u /\ (isBor me = false -> Rep K (hide H O) v u)
noncomputable def tE (K:PySem.W.Frag) (cal:Cal) (me:ME):TE:=fun σ H Q => ∃ B O₀ O ρ v,StOk K B O₀ O H ρ σ /\ ev cal me ρ = some v /\ ∀ u H',Same H H' -> Got K H' O me v u -> Q u H'
noncomputable def tT (K:PySem.W.Frag) (cal:Cal) (me:ME):TT:=fun σ H Q => ∃ B O₀ O ρ b,StOk K B O₀ O H ρ σ /\ evB cal me ρ = some b /\ ∀ H',Same H H' -> Q b H'
noncomputable def GotS (K:PySem.W.Frag) (H:Hp) (O:List Addr) (ms:List ME) (vs:List PV) (us:List V):Prop:=Paired (RepB K H O) vs us /\ ((ms.all fun m => !isBor m) = true -> Reps K (hide H O) vs us)
noncomputable def tEs (K:PySem.W.Frag) (cal:Cal) (ms:List ME):TA:=fun σ H Q => ∃ B O₀ O ρ vs,StOk K B O₀ O H ρ σ /\ evs cal ms ρ = some vs /\ ∀ us H',Same H H' -> GotS K H' O ms vs us -> Q us H'
noncomputable def tAs (K:PySem.W.Frag) (cal:Cal) (ms:List ME):TA:=fun σ H Q => ∃ B O₀ O ρ vs,StOk K B O₀ O H ρ σ /\ evA cal ms ρ = some vs /\ ∀ us H',Same H H' -> Paired (ArgOk K O H') vs us -> Q us H'
section
variable {K:PySem.W.Frag} {H H':Hp} {O:List Addr}
theorem Got.of {me:ME} {v:PV} {u:V} (h:Rep K (hide H O) v u):Got K H O me v u:=⟨.inl h,fun _ => h⟩
theorem Got.scal {me:ME} {v:PV} {u:V} (h:∀ F,Rep K F v u):Got K H O me v u:=.of (h _)
theorem Got.mono {me:ME} {v:PV} {u:V} (s:Same H H') (h:Got K H O me v u):Got K H' O me v u:=⟨h.1.mono s,fun e => Rep.mono (hide_same s) _ (h.2 e)⟩
theorem rep_bl (F:Hp) (b:Bool):Rep K F (.bl b) (.bl b):=by rw [Rep]
theorem rep_int (F:Hp) (b:Int):Rep K F (.int b) (.int b):=by rw [Rep]
theorem rep_str (F:Hp) (b:Str):Rep K F (.str b) (.str b):=by rw [Rep]
theorem rep_non (F:Hp):Rep K F .non .non:=by rw [Rep]
theorem rep_newT {H1:Hp} {p:Addr} {xs:List PV} {us:List V} (hO:∀ a ∈ O,H1 a ≠ none) (hp:H1 p = none) (h:Reps K (hide H1 O) xs us):Rep K (hide (upd H1 p (.tup us)) O) (.tup xs) (.ref p):=by
 rw [Rep]
 refine ⟨p,us,rfl,?_,Reps.mono (hide_same (same_new hp _)) _ h⟩
 rw [hide_out (fun z => hO p z hp)]
 exact upd_same
theorem rep_newL {H1:Hp} {p:Addr} {xs:List PV} {us:List V} (hO:∀ a ∈ O,H1 a ≠ none) (hp:H1 p = none) (h:Reps K (hide H1 O) xs us):Rep K (hide (upd H1 p (.lst us)) O) (.lst xs) (.ref p):=by
 rw [Rep]
 refine ⟨p,us,rfl,SqL.of ?_,Reps.mono (hide_same (same_new hp _)) _ h⟩
 rw [hide_out (fun z => hO p z hp)]
 exact upd_same
theorem here_mono (s:Same H H') (h:∀ a ∈ O,H a ≠ none):∀ a ∈ O,H' a ≠ none:=fun a ha e => h a ha (s.free e)
theorem size10000 {n:Nat} (h:n <= 10000):n <= sizeLine:=Nat.le_trans h (by decide)
end
section
variable {X:Cx} {T:Tab} {k:Nat} {cal:Cal}
theorem visOf {sc:Scope} {x:Str} (h:visB sc x = true):Vis sc x:=by
 unfold visB at h
 simp only [Bool.or_eq_true,beq_iff_eq] at h
 rcases h with (h | h) | h
 ·exact .inl h
 ·exact .inr (.inl h)
 ·exact .inr (.inr h)
theorem locOf {sc:Scope} {x:Str} (h:locB sc x = true):Loc sc x:=by
 unfold locB at h
 simp only [Bool.or_eq_true,beq_iff_eq] at h
 exact h
theorem plainOf {x:Str} (h:plainName x = true):(x == ("__debug__":Str)) = false /\ (x == ("__classdict__":Str)) = false /\ x ≠ "__name__":=by
 unfold plainName at h
 simp only [Bool.and_eq_true,Bool.not_eq_true'] at h
 obtain ⟨⟨h1,h2⟩,h3⟩:=h
 exact ⟨h1,h2,fun e => by rw [e] at h3; simp at h3⟩
theorem glOf {x:Str} (h:glB X.env.scope x = true):Gl X x:=by
 unfold glB at h
 simp only [beq_iff_eq] at h
 exact h
theorem name_at {i:Nat} {x:Str} {pos:Pos} (h:nameAt X.N X.env.scope i x = true):PE X (.Name x pos) (tVar i):=by
 unfold nameAt at h
 simp only [Bool.and_eq_true,beq_iff_eq] at h
 obtain ⟨⟨h1,h2⟩,h3⟩:=h
 obtain ⟨p1,p2,_⟩:=plainOf h3
 exact pe_var h1 (visOf h2) p1 p2
theorem slot_of {K:PySem.W.Frag} {B H:Hp} {O₀ O:List Addr} {ρ:Rho} {σ:St} (st:StOk K B O₀ O H ρ σ) {i:Nat} {m:MV} (e:(ρ[i]?).join = some m):∃ u,σ[i]? = some (some u) /\ SlotOk K B O H m u:=st.slot i m (join_some e)
theorem s_var {i:Nat} {x:Str} {pos:Pos} (h:nameAt X.N X.env.scope i x = true):PE X (.Name x pos) (tE X.K cal (.var i)):=by
 refine (name_at h).imp fun σ H Q hq => ?_
 obtain ⟨B,O₀,O,ρ,v,st,he,q⟩:=hq
 rw [ev] at he
 cases hj:(ρ[i]?).join with
 | none => rw [hj] at he; cases he
 | some m =>
  rw [hj] at he
  cases m with
  | val w =>
   simp only [varOf,Option.some.injEq] at he
   subst he
   obtain ⟨u,e1,r⟩:=slot_of st hj
   exact ⟨u,e1,q u H (Same.refl H) (.of r)⟩
  | own _ => cases he
  | brw _ => cases he
  | ownD _ => cases he
  | ownO _ _ _ => cases he
  | brwO _ _ => cases he
  | brwD _ => cases he
theorem s_bor {i:Nat} {x:Str} {pos:Pos} (h:nameAt X.N X.env.scope i x = true):PE X (.Name x pos) (tE X.K cal (.bor i)):=by
 refine (name_at h).imp fun σ H Q hq => ?_
 obtain ⟨B,O₀,O,ρ,v,st,he,q⟩:=hq
 rw [ev] at he
 cases hj:(ρ[i]?).join with
 | none => rw [hj] at he; cases he
 | some m =>
  rw [hj] at he
  obtain ⟨u,e1,r⟩:=slot_of st hj
  exact ⟨u,e1,q u H (Same.refl H) ⟨r.bor st.keep he,fun z => by cases z⟩⟩
theorem s_cst {v:PV} {c:Const} {j:Nat} {pos:Pos} (h:constB v c = true):PE X (.Constant c j pos) (tE X.K cal (.cst v)):=by
 have key:∀ (u:V),(∀ F,Rep X.K F v u) -> PE X (.Constant c j pos) (tC u) -> PE X (.Constant c j pos) (tE X.K cal (.cst v)):=fun u r p => p.imp fun σ H Q hq => by
  obtain ⟨B,O₀,O,ρ,w,st,he,q⟩:=hq
  rw [ev] at he
  cases he
  exact q u H (Same.refl H) (.scal r)
 cases v <;> cases c <;> simp only [constB,Bool.false_eq_true,beq_iff_eq] at h
 ·exact key .non (fun F => rep_non F) pe_non
 ·subst h; exact key _ (fun F => rep_bl F _) pe_bl
 ·subst h; exact key _ (fun F => rep_int F _) pe_int
 ·subst h; exact key _ (fun F => rep_str F _) pe_str
theorem s_glob {x y:Str} {v:PV} {pos:Pos} (g:Gf X T k cal) (h:chk T (.glob x v) X.N X.env.scope (.Name y pos) = true):PE X (.Name y pos) (tE X.K cal (.glob x v)):=by
 simp only [ck_var,ck_bor,ck_cst,ck_glob,ck_bin,ck_neg,ck_not,ck_and,ck_or,ck_ite,ck_cmp,ck_chain,ck_tup,ck_lst,ck_idx,ck_slice,ck_blt,ck_call,ck_comp,Bool.and_eq_true,beq_iff_eq] at h
 obtain ⟨⟨⟨rfl,hg⟩,hs⟩,hp⟩:=h
 unfold gsHas at hs
 obtain ⟨p,hp1,hp2⟩:=List.any_eq_true.mp hs
 simp only [Bool.and_eq_true,beq_iff_eq] at hp2
 obtain ⟨rfl,hv⟩:=hp2
 obtain ⟨u,e1,r⟩:=g.gs p hp1
 have e:p.2 = v /\ ∀ F,Rep X.K F v (toV v):=by
  revert hv
  generalize p.2 = z
  intro hv
  cases z <;> cases v <;> simp only [scalB,Bool.false_eq_true,beq_iff_eq] at hv
  ·exact ⟨rfl,fun F => rep_non F⟩
  ·subst hv; exact ⟨rfl,fun F => rep_bl F _⟩
  ·subst hv; exact ⟨rfl,fun F => rep_int F _⟩
  ·subst hv; exact ⟨rfl,fun F => rep_str F _⟩
 rw [e.1] at r
 refine (pe_glob (glOf hg) e1 r (plainOf hp).1).imp fun σ H Q hq => ?_
 obtain ⟨B,O₀,O,ρ,w,st,he,q⟩:=hq
 rw [ev] at he
 cases he
 exact q _ H (Same.refl H) (.scal e.2)
end
section
variable {X:Cx}
noncomputable def R2M (K:PySem.W.Frag) (f:PV -> PV -> Option PV):R2:=fun ux uy H Q =>
 ∃ O x y v,(∀ a ∈ O,H a ≠ none) /\ RepB K H O x ux /\ RepB K H O y uy /\ f x y = some v /\ ∀ u H',Same H H' -> Rep K (hide H' O) v u -> Q u H'
theorem int_op {op:Operator} {C:Int -> Int -> Prop} {g:Int -> Int -> Int} {f:PV -> PV -> Option PV} (h:OpR X (binaryOp op) (rI C fun i j => .int (g i j)))
  (hf:∀ x y v,f x y = some v -> ∃ i j,x = .int i /\ y = .int j /\ C i j /\ v = .int (g i j)):OpR X (binaryOp op) (R2M X.K f):=by
 intro pins s σ H ux uy v u Q I rx ry hq
 obtain ⟨O,x,y,w,hO,r1,r2,e,q⟩:=hq
 obtain ⟨i,j,rfl,rfl,c,rfl⟩:=hf x y w e
 have e1:=r1.int
 have e2:=r2.int
 subst e1 e2
 exact h pins s σ H _ _ v u Q I rx ry ⟨i,j,rfl,rfl,c,q _ H (Same.refl H) (rep_int _ _)⟩
theorem op_catS:OpR X (binaryOp .Add) (fun x y H Q => ∃ l b xs zs,x = .ref l /\ y = .ref b /\ SqL X.K H l xs /\ SqL X.K H b zs /\ xs.length + zs.length <= sizeLine /\ ∀ p,H p = none -> Q (.ref p) (upd H p (.lst (xs ++ zs)))):=by
 intro pins s σ H x y v u Q I rx ry h
 obtain ⟨l,b,xs,zs,rfl,rfl,hH,hB,hz,q⟩:=h
 cases rx
 cases ry
 obtain ⟨its,r,pl,_⟩:=I.list hH
 obtain ⟨its2,r2,pl2,_⟩:=I.list hB
 have l1:=r.length
 have l2:=r2.length
 obtain ⟨⟨cls,dd,data,sl⟩,ho,hc,n,hd⟩:=pl.isList
 obtain ⟨⟨cls2,dd2,data2,sl2⟩,ho2,hc2,n2,hd2⟩:=pl2.isList
 simp only at hc hd hc2 hd2
 subst hc hd hc2 hd2
 have e:its.toArray ++ its2.toArray = (its ++ its2).toArray:=by simp
 refine concat_meets ⟨_,ho,rfl⟩ ⟨_,ho2,rfl⟩ noFill_list_add seq_list_add PySem.F.slot_list_add PySem.F.entry_list_add (PySem.F.args_list_add_2 _ _) (list_addW l b its.toArray its2.toArray n n2 dd dd2 sl sl2 (by rw [List.size_toArray,List.size_toArray]; omega)) ⟨ho,ho2,?_⟩
 rw [e]
 exact ⟨.ref _,_,I.lnew (t':=s.toks) (r.append r2) (by rw [List.length_append]; omega),rfl,q _ I.fresh⟩
theorem op_catE:OpR X (binaryOp .Add) (fun x y H Q => ∃ a b ys,x = .ref a /\ y = .ref b /\ SqT X.K H a [] /\ SqT X.K H b ys /\ Q (.ref b) H):=by
 intro pins s σ H x y v u Q I rx ry h
 obtain ⟨a,b,ys,rfl,rfl,ha,hb,q⟩:=h
 cases rx
 cases ry
 obtain ⟨its,r1,⟨⟨c1,d1,t1,l1⟩,ho,hc,n,hd⟩,_⟩:=I.tuple ha
 obtain ⟨its2,r2,⟨⟨c2,d2,t2,l2⟩,ho2,hc2,n2,hd2⟩,_⟩:=I.tuple hb
 cases hc
 cases hd
 cases hc2
 cases hd2
 have none0:its = []:=r1.nil_iff.mpr rfl
 have meets:=tuple_addW0 a b its.toArray its2.toArray n n2 d1 d2 l1 l2 (by simp [none0])
 exact concat_meets ⟨_,ho,rfl⟩ ⟨_,ho2,rfl⟩ noFill_tuple_add seq_tuple_add PySem.F.slot_tuple_add PySem.F.entry_tuple_add (PySem.F.args_tuple_add_2 _ _) meets ⟨ho,ho2,.ref b,H,I,rfl,q⟩
theorem int2_some {α:Type} {f:Int -> Int -> Option α} {x y:PV} {v:α} (h:int2 f x y = some v):∃ i j,x = .int i /\ y = .int j /\ f i j = some v:=by
 cases x <;> try (cases h; done)
 cases y <;> try (cases h; done)
 exact ⟨_,_,rfl,rfl,h⟩
theorem int2_if {C:Int -> Int -> Prop} [∀ i j,Decidable (C i j)] {g:Int -> Int -> Int} {x y v:PV} (h:int2 (fun i j => if C i j then some (.int (g i j)) else none) x y = some v):∃ i j,x = .int i /\ y = .int j /\ C i j /\ v = .int (g i j):=by
 obtain ⟨i,j,e1,e2,e3⟩:=int2_some h
 by_cases c:C i j
 ·rw [if_pos c] at e3
  exact ⟨i,j,e1,e2,c,(Option.some.inj e3).symm⟩
 ·rw [if_neg c] at e3
  cases e3
theorem op_bin (op:Op2):OpR X (binaryOp (opOf op)) (R2M X.K (binOp op)):=by
 cases op with
 | sub => exact int_op (C:=fun _ _ => True) (g:=fun i j => i - j) (fun pins s σ H x y v u Q I rx ry h => op_sub pins s σ H x y v u Q I rx ry (by obtain ⟨i,j,e1,e2,_,q⟩:=h; exact ⟨i,j,e1,e2,q⟩)) (fun x y v h => by
   obtain ⟨i,j,e1,e2,e3⟩:=int2_some h
   exact ⟨i,j,e1,e2,trivial,(Option.some.inj e3).symm⟩)
 | mul => exact int_op op_mul fun x y v h => by have q:=int2_if h; exact q
 | fdiv => exact int_op op_fdiv fun x y v h => by have q:=int2_if h; exact q
 | mod => exact int_op op_mod fun x y v h => by have q:=int2_if h; exact q
 | pow => exact int_op op_pow fun x y v h => by have q:=int2_if h; exact q
 | shr => exact int_op op_shr fun x y v h => by have q:=int2_if h; exact q
 | add =>
  intro pins s σ H ux uy v u Q I rx ry hq
  obtain ⟨O,x,y,w,hO,r1,r2,e,q⟩:=hq
  cases x <;> try (cases e; done)
  all_goals (cases y <;> simp only [binOp,addOp] at e <;> try (cases e; done))
  ·cases e
   have e1:=r1.int
   have e2:=r2.int
   subst e1 e2
   exact op_add pins s σ H _ _ v u Q I rx ry ⟨_,_,rfl,rfl,q _ H (Same.refl H) (rep_int _ _)⟩
  ·split at e
   ·rename_i c
    cases e
    have e1:=r1.str
    have e2:=r2.str
    subst e1 e2
    exact op_add_str pins s σ H _ _ v u Q I rx ry ⟨_,_,rfl,rfl,Nat.le_trans c (by decide),q _ H (Same.refl H) (rep_str _ _)⟩
   ·cases e
  ·split at e
   ·rename_i c
    cases e
    obtain ⟨a,us,rfl,s1,t1⟩:=r1.tup
    obtain ⟨b,ws,rfl,s2,t2⟩:=r2.tup
    have l1:=t1.length
    have l2:=t2.length
    have w1:=r1.tupR
    have w2:=r2.tupR
    by_cases z0:us = []
    ·subst z0
     have z1:=List.eq_nil_of_length_eq_zero l1
     subst z1
     exact op_catE pins s σ H _ _ v u Q I rx ry ⟨a,b,ws,rfl,rfl,s1,s2,q _ H (Same.refl H) w2⟩
    refine op_catT pins s σ H _ _ v u Q I rx ry ⟨a,b,us,ws,rfl,rfl,s1,s2,z0,size10000 (by omega),fun z => ?_,fun z p hp => ?_⟩
    ·rw [z,List.length_nil] at l2
     have z1:=List.eq_nil_of_length_eq_zero l2
     subst z1
     rw [List.append_nil] at q
     exact q _ H (Same.refl H) w1
    ·exact q _ _ (same_new hp _) (rep_newT hO hp (t1.append t2))
   ·cases e
  ·split at e
   ·rename_i c
    cases e
    obtain ⟨a,us,rfl,s1,t1⟩:=r1.lst
    obtain ⟨b,ws,rfl,s2,t2⟩:=r2.lst
    have l1:=t1.length
    have l2:=t2.length
    exact op_catS pins s σ H _ _ v u Q I rx ry ⟨a,b,us,ws,rfl,rfl,s1,s2,size10000 (by omega),fun p hp => q _ _ (same_new hp _) (rep_newL hO hp (t1.append t2))⟩
   ·cases e
noncomputable def R2C (K:PySem.W.Frag) (f:PV -> PV -> Option Bool):R2:=fun ux uy H Q =>
 ∃ O x y b,RepB K H O x ux /\ RepB K H O y uy /\ f x y = some b /\ Q (.bl b) H
theorem int_cmp {op:CmpOp} {g:Int -> Int -> Bool} {f:PV -> PV -> Option Bool} (h:OpR X (compareOp op) (rI0 fun i j => .bl (g i j)))
  (hf:∀ x y v,f x y = some v -> ∃ i j,x = .int i /\ y = .int j /\ v = g i j):OpR X (compareOp op) (R2C X.K f):=by
 intro pins s σ H ux uy v u Q I rx ry hq
 obtain ⟨O,x,y,w,r1,r2,e,q⟩:=hq
 obtain ⟨i,j,rfl,rfl,rfl⟩:=hf x y w e
 have e1:=r1.int
 have e2:=r2.int
 subst e1 e2
 exact h pins s σ H _ _ v u Q I rx ry ⟨i,j,rfl,rfl,q⟩
theorem op_isB:OpR X (compareOp .Is) (fun x y H Q => ∃ p q,x = .bl p /\ y = .bl q /\ Q (.bl (p == q)) H):=by
 rintro pins s σ H x y v u Q I rx ry ⟨p,q,rfl,rfl,hq⟩
 cases rx
 cases ry
 exact wpAny_pure (fin_bl I hq (by cases p <;> cases q <;> rfl))
theorem op_isnotB:OpR X (compareOp .IsNot) (fun x y H Q => ∃ p q,x = .bl p /\ y = .bl q /\ Q (.bl (!(p == q))) H):=by
 rintro pins s σ H x y v u Q I rx ry ⟨p,q,rfl,rfl,hq⟩
 cases rx
 cases ry
 exact wpAny_pure (fin_bl I hq (by cases p <;> cases q <;> rfl))
theorem non_iff {K:PySem.W.Frag} {H:Hp} {O:List Addr} {x:PV} {u:V} (r:RepB K H O x u):decide (u = .non) = isNon x:=by
 cases x with
 | non => rw [r.non]; rfl
 | bl b => rw [r.bl]; rfl
 | int b => rw [r.int]; rfl
 | str b => rw [r.str]; rfl
 | tup xs => obtain ⟨a,us,rfl,_⟩:=r.tup; rfl
 | lst xs => obtain ⟨a,us,rfl,_⟩:=r.lst; rfl
 | dI kvs => obtain ⟨a,rfl,_⟩:=r.dI; rfl
theorem op_cmp (hu:X.A.units + 200 < cLine) (op:Cp):OpR X (compareOp (cpOf op)) (R2C X.K (cmpOp op)):=by
 cases op with
 | lt => exact int_cmp op_lt fun x y v h => by obtain ⟨i,j,e1,e2,e3⟩:=int2_some h; exact ⟨i,j,e1,e2,(Option.some.inj e3).symm⟩
 | le => exact int_cmp op_le fun x y v h => by obtain ⟨i,j,e1,e2,e3⟩:=int2_some h; exact ⟨i,j,e1,e2,(Option.some.inj e3).symm⟩
 | gt => exact int_cmp op_gt fun x y v h => by obtain ⟨i,j,e1,e2,e3⟩:=int2_some h; exact ⟨i,j,e1,e2,(Option.some.inj e3).symm⟩
 | ge => exact int_cmp op_ge fun x y v h => by obtain ⟨i,j,e1,e2,e3⟩:=int2_some h; exact ⟨i,j,e1,e2,(Option.some.inj e3).symm⟩
 | eq =>
  intro pins s σ H ux uy v u Q I rx ry hq
  obtain ⟨O,x,y,w,r1,r2,e,q⟩:=hq
  exact op_eqR (by omega) pins s σ H ux uy v u Q I rx ry ⟨x,y,w,r1.whole,r2.whole,e,q⟩
 | ne =>
  intro pins s σ H ux uy v u Q I rx ry hq
  obtain ⟨O,x,y,w,r1,r2,e,q⟩:=hq
  simp only [cmpOp] at e
  split at e
  ·rename_i c
   simp only [Option.map_eq_some_iff] at e
   obtain ⟨b,e,rfl⟩:=e
   exact op_neR (by omega) pins s σ H ux uy v u Q I rx ry ⟨x,y,b,r1.whole,r2.whole,c,e,q⟩
  ·cases e
 | isN =>
  intro pins s σ H ux uy v u Q I rx ry hq
  obtain ⟨O,x,y,w,r1,r2,e,q⟩:=hq
  cases y <;> try (cases e; done)
  ·have e2:=r2.non
   subst e2
   refine op_isN pins s σ H ux _ v u Q I rx ry ⟨rfl,?_⟩
   have e:some (isNon x) = some w:=e
   rw [non_iff r1,Option.some.inj e]
   exact q
  ·cases x <;> try (cases e; done)
   have e1:=r1.bl
   have e2:=r2.bl
   subst e1 e2
   exact op_isB pins s σ H _ _ v u Q I rx ry ⟨_,_,rfl,rfl,by rw [Option.some.inj e]; exact q⟩
 | notN =>
  intro pins s σ H ux uy v u Q I rx ry hq
  obtain ⟨O,x,y,w,r1,r2,e,q⟩:=hq
  cases y <;> try (cases e; done)
  ·have e2:=r2.non
   subst e2
   refine op_notN pins s σ H ux _ v u Q I rx ry ⟨rfl,?_⟩
   have e:some (!isNon x) = some w:=e
   rw [non_iff r1,Option.some.inj e]
   exact q
  ·cases x <;> try (cases e; done)
   have e1:=r1.bl
   have e2:=r2.bl
   subst e1 e2
   cases e
   exact op_isnotB pins s σ H _ _ v u Q I rx ry ⟨_,_,rfl,rfl,q⟩
 | isIn =>
  intro pins s σ H ux uy v u Q I rx ry hq
  obtain ⟨O,x,y,w,r1,r2,e,q⟩:=hq
  simp only [cmpOp,Option.bind_eq_some_iff] at e
  obtain ⟨xs,e1,e2⟩:=e
  obtain ⟨a,us,rfl,s2,t2⟩:=r2.seq e1
  exact op_inR (by omega) pins s σ H ux _ v u Q I rx ry ⟨x,_,a,us,w,r1.whole,rfl,s2,Reps.mono (hide_le H O) _ t2,e2,q⟩
 | notIn =>
  intro pins s σ H ux uy v u Q I rx ry hq
  obtain ⟨O,x,y,w,r1,r2,e,q⟩:=hq
  simp only [cmpOp,Option.bind_eq_some_iff,Option.map_eq_some_iff] at e
  obtain ⟨b,⟨xs,e1,e2⟩,rfl⟩:=e
  obtain ⟨a,us,rfl,s2,t2⟩:=r2.seq e1
  exact op_notInR (by omega) pins s σ H ux _ v u Q I rx ry ⟨x,_,a,us,b,r1.whole,rfl,s2,Reps.mono (hide_le H O) _ t2,e2,q⟩
theorem place_eq (n:Nat) (i:Int):place n i = ixN n i:=rfl
theorem ix_val:IxR X (R2M X.K idxOp):=by
 intro value slice pins s σ H ux uy v u Q I rx ry hq hsub
 obtain ⟨O,x,y,w,hO,r1,r2,e,q⟩:=hq
 cases x <;> cases y <;> simp only [idxOp] at e <;> try (cases e; done)
 ·simp only [Option.bind_eq_some_iff] at e
  obtain ⟨j,e1,e2⟩:=e
  obtain ⟨a,us,rfl,s1,t1⟩:=r1.tup
  have e3:=r2.int
  subst e3
  obtain ⟨uw,e4,rw'⟩:=t1.get e2
  refine ix_seq value slice pins s σ H _ _ v u Q I rx ry (.inr (.inl ⟨a,us,_,uw,rfl,rfl,s1,?_,q uw H (Same.refl H) rw'⟩)) hsub
  unfold atI
  rw [<- t1.length,<- place_eq,e1]
  exact e4
 ·simp only [Option.bind_eq_some_iff] at e
  obtain ⟨j,e1,e2⟩:=e
  obtain ⟨a,us,rfl,s1,t1⟩:=r1.lst
  have e3:=r2.int
  subst e3
  obtain ⟨uw,e4,rw'⟩:=t1.get e2
  refine ix_seq value slice pins s σ H _ _ v u Q I rx ry (.inl ⟨a,us,_,uw,rfl,rfl,s1,?_,q uw H (Same.refl H) rw'⟩) hsub
  unfold atI
  rw [<- t1.length,<- place_eq,e1]
  exact e4
theorem plainIx_of {b:Expr} (h:notSlice b = true):PlainIx b:=by
 intro o i
 cases b <;> first | rfl | (simp [notSlice] at h)
theorem cut_reps {K:PySem.W.Frag} {F:Hp} {xs:List PV} {us:List V} (h:Reps K F xs us) (lo hi:Option Int):Reps K F (cut xs lo hi) (cutV us lo hi):=by
 have hl:=h.length
 have e:∀ (n d:Nat) (o:Option Int),cutAt n d o = HT.sIx n d o:=fun n d o => by cases o <;> rfl
 unfold cut cutV
 rw [e,e,hl]
 exact (h.drop _).take _
theorem sl_val:SlR X (fun x lo hi H Q => ∃ O v w,(∀ a ∈ O,H a ≠ none) /\ RepB X.K H O v x /\ sliceOp v lo hi = some w /\ ∀ u H',Same H H' -> Rep X.K (hide H' O) w u -> Q u H'):=by
 intro pins s σ H x v vl vu lo hi sl Q I rx hs pl pu hq
 obtain ⟨O,pv,w,hO,r1,e,q⟩:=hq
 cases pv <;> simp only [sliceOp] at e <;> try (cases e; done)
 ·rename_i xs
  cases e
  obtain ⟨a,us,rfl,s1,t1⟩:=r1.tup
  have e:∀ (n d:Nat) (o:Option Int),cutAt n d o = HT.sIx n d o:=fun n d o => by cases o <;> rfl
  by_cases hn:HT.sIx us.length 0 lo = 0 /\ HT.sIx us.length us.length hi = us.length
  ·refine sl_tupW pins s σ H _ v vl vu lo hi sl Q I rx hs pl pu ⟨a,us,rfl,s1,hn.1,hn.2,q _ _ (Same.refl H) ?_⟩
   have:cut xs lo hi = xs:=by
    unfold cut
    rw [e,e,t1.length,hn.1,hn.2,List.drop_zero,<- t1.length,Nat.sub_zero,List.take_length]
   rw [this]
   exact r1.tupR
  ·exact sl_tup pins s σ H _ v vl vu lo hi sl Q I rx hs pl pu ⟨a,us,rfl,s1,hn,fun p hp => q _ _ (same_new hp _) (rep_newT hO hp (cut_reps t1 lo hi))⟩
 ·cases e
  obtain ⟨a,us,rfl,s1,t1⟩:=r1.lst
  exact sl_list pins s σ H _ v vl vu lo hi sl Q I rx hs pl pu ⟨a,us,rfl,s1,fun p hp => q _ _ (same_new hp _) (rep_newL hO hp (cut_reps t1 lo hi))⟩
end
end MM
namespace MM
open PySem PySem.Spec PyProof.Rows L2
theorem insI_eq (x:Int):∀ l,insI x l = Srt.insO Srt.intOrd x l
 | [] => rfl
 | y :: r => by
  show (if y < x then y :: insI x r else x :: y :: r) = (if Srt.intOrd.blt y x = true then y :: Srt.insO Srt.intOrd x r else x :: y :: r)
  rw [insI_eq x r]
  by_cases h:y < x
  ·have e:Srt.intOrd.blt y x = true:=decide_eq_true h
   rw [if_pos h,if_pos e]
  ·have e:Srt.intOrd.blt y x = false:=decide_eq_false h
   rw [if_neg h,if_neg (by rw [e]; exact Bool.false_ne_true)]
theorem sortI_eq:∀ l,sortI l = Srt.sortI l
 | [] => rfl
 | x :: r => by
  show insI x (sortI r) = Srt.insO Srt.intOrd x (Srt.sortO Srt.intOrd r)
  rw [sortI_eq r,insI_eq]; rfl
theorem lexLt_eq:∀ a b,lexLt a b = HT.lexLt a b
 | [],[] => rfl
 | [],_ :: _ => rfl
 | _ :: _,[] => rfl
 | x :: xs,y :: ys => by
  rw [lexLt,HT.lexLt_cons,lexLt_eq xs ys]
theorem insT_eq (x:List Int):∀ l,insT x l = Srt.insO Srt.lexOrd x l
 | [] => rfl
 | y :: r => by
  show (if lexLt y x = true then y :: insT x r else x :: y :: r) = (if Srt.lexOrd.blt y x = true then y :: Srt.insO Srt.lexOrd x r else x :: y :: r)
  rw [insT_eq x r,lexLt_eq]
  rfl
theorem sortT_eq:∀ l,sortT l = Srt.sortT l
 | [] => rfl
 | x :: r => by
  show insT x (sortT r) = Srt.insO Srt.lexOrd x (Srt.sortO Srt.lexOrd r)
  rw [sortT_eq r,insT_eq]; rfl
section
variable {X:Cx} {T:Tab} {k:Nat} {cal:Cal}
noncomputable def RBM (K:PySem.W.Frag) (f:List PV -> Option PV):List V -> Hp -> VK -> Prop:=fun us H Q =>
 ∃ O vs v,(∀ a ∈ O,H a ≠ none) /\ Paired (RepB K H O) vs us /\ f vs = some v /\ ∀ u H',Same H H' -> Rep K (hide H' O) v u -> Q u H'
theorem p1 {K:PySem.W.Frag} {H:Hp} {O:List Addr} {x:PV} {us:List V} (h:Paired (RepB K H O) [x] us):∃ u,us = [u] /\ RepB K H O x u:=by
 cases h with
 | cons r t => cases t; exact ⟨_,rfl,r⟩
theorem p2 {K:PySem.W.Frag} {H:Hp} {O:List Addr} {x y:PV} {us:List V} (h:Paired (RepB K H O) [x,y] us):∃ u w,us = [u,w] /\ RepB K H O x u /\ RepB K H O y w:=by
 cases h with
 | cons r t => cases t with
  | cons r' t' => cases t'; exact ⟨_,_,rfl,r,r'⟩
theorem one_of {f:Blt} {vs:List PV} {v:PV} (h:bltOp f vs = some v) (hf:plainArgs f = some 1 \/ (instOf f).isSome = true \/ f = .sortedSet \/ f = .lenSet \/ f = .valuesOf):∃ x,vs = [x]:=by
 cases vs with
 | nil => cases f <;> simp [bltOp,one1,two1,isOf] at h
 | cons x r => cases r with
  | nil => exact ⟨x,rfl⟩
  | cons y r => cases f <;> simp [bltOp,one1,two1,isOf,plainArgs,instOf] at h hf
theorem c_len:CallR X (.builtin "len") (RBM X.K (bltOp .len)):=by
 intro pins s σ H xs us Q I r h
 obtain ⟨O,vs,v,hO,rs,e,q⟩:=h
 obtain ⟨x,rfl⟩:=one_of e (.inl rfl)
 obtain ⟨u,rfl,rx⟩:=p1 rs
 cases x <;> simp only [bltOp,one1,lenOf] at e <;> try (cases e; done)
 ·cases e
  obtain ⟨a,ws,rfl,s1,t1⟩:=rx.tup
  exact call_len_seq pins s σ H _ us Q I r ⟨a,ws,rfl,.inr s1,by rw [<- t1.length]; exact q _ H (Same.refl H) (rep_int _ _)⟩
 ·cases e
  obtain ⟨a,ws,rfl,s1,t1⟩:=rx.lst
  exact call_len_seq pins s σ H _ us Q I r ⟨a,ws,rfl,.inl s1,by rw [<- t1.length]; exact q _ H (Same.refl H) (rep_int _ _)⟩
 ·rename_i d
  cases d with
  | t kvs => cases e
  | k kvs =>
   cases e
   obtain ⟨a,rfl,ha⟩:=rx.dI
   obtain ⟨u,rfl,ru⟩:=vals1 r
   cases ru
   obtain ⟨hz,hs,ws,rel,dd⟩:=dk_rd I.hok (show Rd H a (.dK (encK kvs)) from ha)
   have hlen:ws.length = kvs.length:=by rw [<- rel.length]; unfold encK; rw [List.length_map]
   have hz:kvs.length <= sizeLine:=by unfold encK at hz; rw [List.length_map] at hz; exact hz
   have hn:=line63
   exact call_len_dict hs dd (by rw [hlen]; omega) ⟨.int kvs.length,H,I.tok _,⟨s.toks + 1,by rw [hlen]⟩,q _ H (Same.refl H) (rep_int _ _)⟩
theorem c_tuple:CallR X (.type "tuple") (RBM X.K (bltOp .tupleOf)):=by
 intro pins s σ H xs us Q I r h
 obtain ⟨O,vs,v,hO,rs,e,q⟩:=h
 obtain ⟨x,rfl⟩:=one_of e (.inl rfl)
 obtain ⟨u,rfl,rx⟩:=p1 rs
 simp only [bltOp,one1,two1,lst?,isOf,Option.map_eq_some_iff] at e
 obtain ⟨ys,e,rfl⟩:=e
 cases x <;> simp [seq?] at e
 ·subst e
  obtain ⟨a,ws,rfl,s1,t1⟩:=rx.tup
  refine call_tuple_of pins s σ H _ us Q I r ⟨a,ws,rfl,.inr ⟨s1,q _ H (Same.refl H) ?_⟩⟩
  exact rx.tupR
 ·subst e
  obtain ⟨a,ws,rfl,s1,t1⟩:=rx.lst
  exact call_tuple_of pins s σ H _ us Q I r ⟨a,ws,rfl,.inl ⟨s1,fun l hl => q _ _ (same_new hl _) (rep_newT hO hl t1)⟩⟩
noncomputable def RBF (K:PySem.W.Frag) (f:List PV -> Option PV):List V -> Hp -> VK -> Prop:=fun us H Q =>
 ∃ O vs xs,(∀ a ∈ O,H a ≠ none) /\ Paired (RepB K H O) vs us /\ f vs = some (.lst xs) /\ ∀ l ws,H l = none -> Reps K (hide H O) xs ws -> Q (.ref l) (upd H l (.lst ws))
theorem c_list:CallR X (.type "list") (RBF X.K (bltOp .listOf)):=by
 intro pins s σ H xs us Q I r h
 obtain ⟨O,vs,v,hO,rs,e,q⟩:=h
 obtain ⟨x,rfl⟩:=one_of e (.inl rfl)
 obtain ⟨u,rfl,rx⟩:=p1 rs
 simp only [bltOp,one1,two1,lst?,isOf,Option.map_eq_some_iff,PV.lst.injEq,exists_eq_right] at e
 obtain ⟨a,ws,rfl,s1,t1⟩:=rx.seq e
 exact call_list_of pins s σ H _ us Q I r ⟨a,ws,rfl,s1,fun l hl => q l ws hl t1⟩
theorem reps_tups {K:PySem.W.Frag} {F:Hp}:∀ {tss:List (List Int)} {us:List V},Reps K F (tss.map fun t => .tup (t.map .int)) us -> Tups K F us tss
 | [],_,h => by rw [List.map_nil,Reps] at h; subst h; exact .nil
 | t :: tss,_,h => by
  rw [List.map_cons,Reps] at h
  obtain ⟨u,r,rfl,q,z⟩:=h
  rw [Rep] at q
  obtain ⟨a,vs,e,s1,r1⟩:=q
  rw [r1.ints] at s1
  exact .cons ⟨a,e,SqT.of s1⟩ (reps_tups z)
theorem tups_mono {K:PySem.W.Frag} {F F':Hp} (s:Same F F'):∀ {us:List V} {tss:List (List Int)},Tups K F us tss -> Tups K F' us tss
 | _,_,.nil => .nil
 | _,_,.cons ⟨a,e1,e2⟩ t => .cons ⟨a,e1,s.seqT e2⟩ (tups_mono s t)
theorem reps_pick {K:PySem.W.Frag} {F:Hp} {xs:List PV} {us:List V} (h:Reps K F xs us):∀ (l:List Nat),(∀ i ∈ l,i < us.length) -> Reps K F (l.map fun i => xs.getD i .non) (l.map fun i => us.getD i .non)
 | [],_ => .nil
 | i :: l,hl => by
  have hi:=hl i (.head _)
  have hx:i < xs.length:=by rw [h.length]; exact hi
  obtain ⟨u,e1,e2⟩:=h.get (i:=i) (x:=xs[i]) (List.getElem?_eq_getElem hx)
  refine .cons ?_ (reps_pick h l fun j hj => hl j (.tail _ hj))
  have q1:xs.getD i .non = xs[i]:=by simp [hx]
  have q2:us.getD i .non = u:=by rw [List.getD_eq_getElem?_getD,e1]; rfl
  show Rep K F (xs.getD i .non) (us.getD i .non)
  rw [q1,q2]; exact e2
theorem c_sorted (g:Gf X T k cal):CallR X (.builtin "sorted") (RBF X.K (bltOp .sorted)):=by
 intro pins s σ H xs us Q I r h
 obtain ⟨O,vs,v,hO,rs,e,q⟩:=h
 obtain ⟨x,rfl⟩:=one_of e (.inl rfl)
 obtain ⟨u,rfl,rx⟩:=p1 rs
 simp only [bltOp,one1,two1,lst?,isOf,Option.bind_eq_some_iff] at e
 obtain ⟨ys,e,e2⟩:=e
 obtain ⟨a,ws,rfl,s1,t1⟩:=rx.seq e
 unfold sortOp at e2
 split at e2
 ·rename_i h64
  split at e2
  ·rename_i ns hn
   cases e2
   have:=ints?_eq hn
   subst this
   have e3:=t1.ints
   subst e3
   rw [List.length_map] at h64
   refine call_sortedI g.calm pins s σ H _ us Q I r ⟨a,ns,rfl,s1.imp id .inl,h64,fun l hl => ?_⟩
   rw [<- sortI_eq]
   exact q l _ hl (.of_ints _)
  ·simp only [Option.map_eq_some_iff,PV.lst.injEq] at e2
   obtain ⟨ts,e3,rfl⟩:=e2
   have:=tups?_eq e3
   subst this
   rw [List.length_map] at h64
   refine call_sortedT (by have:=g.units; omega) pins s σ H _ us Q I r ⟨a,ws,ts,rfl,s1,tups_mono (hide_le H O) (reps_tups t1),h64,fun l pm hl hp e => q l _ hl ?_⟩
   have q2:=reps_pick t1 pm hp
   have e4:(pm.map fun i => (ts.map fun t => PV.tup (t.map .int)).getD i .non) = (sortT ts).map fun t => .tup (t.map .int):=by
    rw [sortT_eq,<- e,List.map_map]
    refine List.map_congr_left fun i hi => ?_
    have hi':i < ts.length:=by have:=hp i hi; rw [<- t1.length,List.length_map] at this; exact this
    simp [hi']
   rw [e4] at q2
   exact q2
 ·cases e2
theorem c_int:CallR X (.type "int") (RBM X.K (bltOp .intOf)):=by
 intro pins s σ H xs us Q I r h
 obtain ⟨O,vs,v,hO,rs,e,q⟩:=h
 obtain ⟨x,rfl⟩:=one_of e (.inl rfl)
 obtain ⟨u,rfl,rx⟩:=p1 rs
 cases x <;> simp only [bltOp,one1,two1,lst?,isOf] at e <;> try (cases e; done)
 ·cases e
  have:=rx.bl
  subst this
  exact call_int1 pins s σ H _ us Q I r (.inr ⟨_,rfl,q _ H (Same.refl H) (rep_int _ _)⟩)
 ·cases e
  have:=rx.int
  subst this
  exact call_int1 pins s σ H _ us Q I r (.inl ⟨_,rfl,q _ H (Same.refl H) (rep_int _ _)⟩)
theorem lst?_eq {x:PV} {ys:List PV} (h:lst? x = some ys):x = .lst ys:=by
 cases x <;> cases h
 rfl
end
end MM
namespace MM
open PySem PySem.Spec PyProof.Rows L2
section
variable {X:Cx} {T:Tab} {k:Nat} {cal:Cal}
theorem c_inst {b:Blt} {c:String} (hb:instOf b = some c):CallR X (.builtin "isinstance") (fun us H Q => ∃ O v u,us = [u,.ty c] /\ isD v = false /\ RepB X.K H O v u /\ Q (.bl (isT b v)) H):=by
 intro pins s σ H xs us Q I r h
 obtain ⟨O,v,x,rfl,nd,rx,q⟩:=h
 obtain ⟨u,t,rfl,r1,rc⟩:=vals2 r
 have rc':t = .type c:=rc
 subst rc'
 have fin:∀ (z:Bool) (tk:Nat),z = isT b v -> EP X pins σ Q (.bool z) { s with toks:=tk }:=fun z tk e => ⟨.bl z,H,I.tok tk,rfl,by rw [e]; exact q⟩
 cases v with
 | dI _ => cases nd
 | non =>
  have e:=rx.non
  subst e
  cases (show u = Value.none from r1)
  cases b <;> simp only [instOf,Option.some.injEq,reduceCtorEq] at hb <;> subst hb <;>
   exact PySem.W.kia_one PySem.W.kitx_none I.kIn True.intro (b:=false) (by first | rfl | kernel_rfl | decide) (fun z => nomatch z) fun tk => fin _ tk rfl
 | bl y =>
  have e:=rx.bl
  subst e
  cases (show u = Value.bool y from r1)
  cases b <;> simp only [instOf,Option.some.injEq,reduceCtorEq] at hb <;> subst hb <;> first
   | exact PySem.W.kia_one PySem.W.kitx_bool I.kIn True.intro (b:=true) (by first | rfl | kernel_rfl | decide) (fun z => nomatch z) fun tk => fin _ tk rfl
   | exact PySem.W.kia_one PySem.W.kitx_bool I.kIn True.intro (b:=false) (by first | rfl | kernel_rfl | decide) (fun z => nomatch z) fun tk => fin _ tk rfl
 | int y =>
  have e:=rx.int
  subst e
  obtain ⟨t,z⟩:=(show ∃ t,u = Value.int y t from r1)
  cases z
  cases b <;> simp only [instOf,Option.some.injEq,reduceCtorEq] at hb <;> subst hb <;> first
   | exact PySem.W.kia_one PySem.W.kitx_int I.kIn True.intro (b:=true) (by first | rfl | kernel_rfl | decide) (fun z => nomatch z) fun tk => fin _ tk rfl
   | exact PySem.W.kia_one PySem.W.kitx_int I.kIn True.intro (b:=false) (by first | rfl | kernel_rfl | decide) (fun z => nomatch z) fun tk => fin _ tk rfl
 | str y =>
  have e:=rx.str
  subst e
  obtain ⟨t,z⟩:=(show ∃ t,u = Value.str y t from r1)
  cases z
  cases b <;> simp only [instOf,Option.some.injEq,reduceCtorEq] at hb <;> subst hb <;> first
   | exact PySem.W.kia_one PySem.W.kitx_str I.kIn True.intro (b:=true) (by first | rfl | kernel_rfl | decide) (fun z => nomatch z) fun tk => fin _ tk rfl
   | exact PySem.W.kia_one PySem.W.kitx_str I.kIn True.intro (b:=false) (by first | rfl | kernel_rfl | decide) (fun z => nomatch z) fun tk => fin _ tk rfl
 | lst ys =>
  obtain ⟨a,us,rfl,s1,t1⟩:=rx.lst
  cases (show u = Value.ref a from r1)
  obtain ⟨its,_,p,_⟩:=I.list s1
  obtain ⟨o,h1,h2,_⟩:=p.isList
  cases b <;> simp only [instOf,Option.some.injEq,reduceCtorEq] at hb <;> subst hb <;> first
   | exact PySem.W.kia_one PySem.W.kitx_list I.kIn ⟨o,h1,h2⟩ (b:=true) (by first | rfl | kernel_rfl | decide) (fun z => nomatch z) fun tk => fin _ tk rfl
   | exact PySem.W.kia_one PySem.W.kitx_list I.kIn ⟨o,h1,h2⟩ (b:=false) (by first | rfl | kernel_rfl | decide) (fun z => nomatch z) fun tk => fin _ tk rfl
 | tup ys =>
  obtain ⟨a,us,rfl,s1,t1⟩:=rx.tup
  cases (show u = Value.ref a from r1)
  obtain ⟨its,_,p,_⟩:=I.tuple s1
  obtain ⟨o,h1,h2,_⟩:=p
  cases b <;> simp only [instOf,Option.some.injEq,reduceCtorEq] at hb <;> subst hb <;> first
   | exact PySem.W.kia_one PySem.W.kitx_tuple I.kIn ⟨o,h1,h2⟩ (b:=true) (by first | rfl | kernel_rfl | decide) (fun z => nomatch z) fun tk => fin _ tk rfl
   | exact PySem.W.kia_one PySem.W.kitx_tuple I.kIn ⟨o,h1,h2⟩ (b:=false) (by first | rfl | kernel_rfl | decide) (fun z => nomatch z) fun tk => fin _ tk rfl
theorem bools_vals {K:PySem.W.Frag} {F:Hp}:∀ {bs:List Bool} {us:List V} {its:List Value},Reps K F (bs.map .bl) us -> Vals us its -> its = bs.map Value.bool
 | [],_,_,h,w => by rw [List.map_nil,Reps] at h; subst h; cases w; rfl
 | b :: bs,_,_,h,w => by
  rw [List.map_cons,Reps] at h
  obtain ⟨u,r,rfl,q,t⟩:=h
  rw [Rep] at q
  subst q
  cases w with
  | cons r1 w1 =>
   cases r1
   rw [bools_vals t w1]; rfl
theorem range_all (bs:List Bool):(List.range bs.length).all (fun i => bs.getD i false) = bs.all id:=by
 conv => rhs; rw [<- Srt.map_range bs false]
 rw [List.all_map]
 rfl
theorem range_any (bs:List Bool):(List.range bs.length).any (fun i => bs.getD i false) = bs.any id:=by
 conv => rhs; rw [<- Srt.map_range bs false]
 rw [List.any_map]
 rfl
theorem truth_bools {P:Program} {w:World} {A:Around} (bs:List Bool):TruthOf P w A (fun i v => (bs.map Value.bool).toArray[i]? = some v) (fun i => bs.getD i false):=by
 intro i v s Q E h q
 simp only [List.getElem?_toArray,List.getElem?_map,Option.map_eq_some_iff] at h
 obtain ⟨b,e,rfl⟩:=h
 have:bs.getD i false = b:=by rw [List.getD_eq_getElem?_getD,e]; rfl
 have q':Q (bs.getD i false) s:=q
 rw [this] at q'
 exact wpAny_truthy_bool q'
theorem c_any (hc:X.calm = true):CallR X (.builtin "any") (RBM X.K (bltOp .any)):=by
 intro pins s σ H xs us Q I r h
 obtain ⟨O,vs,v,hO,rs,e,q⟩:=h
 obtain ⟨x,rfl⟩:=one_of e (.inl rfl)
 obtain ⟨u,rfl,rx⟩:=p1 rs
 simp only [bltOp,one1,Option.bind_eq_some_iff,Option.map_eq_some_iff] at e
 obtain ⟨ys,e0,bs,e,rfl⟩:=e
 obtain rfl:=lst?_eq e0
 have:=bools?_eq e
 subst this
 obtain ⟨a,ws,rfl,s1,t1⟩:=rx.lst
 obtain ⟨u,rfl,ru⟩:=vals1 r
 cases ru
 obtain ⟨its,r',pl,hz⟩:=I.list s1
 have:=bools_vals t1 r'
 subst this
 have hlt:a < s.heap.objs.size:=by obtain ⟨o,ho,_⟩:=pl.isList; exact Heap.lt_size ho
 refine call_any_walk (wpAny_pyIter_list pl.isList ?_)
 refine ⟨s.heap.objs.size,_,_,_,_,_,fun i => bs.getD i false,rfl,Walks.list (by first | exact I.ok.hd hc | simpa using I.ok.hd hc) s.heap.objs.size a (Nat.ne_of_lt hlt) (bs.map Value.bool).toArray,⟨⟨_,Heap.get?_push_size _ rfl,rfl,rfl⟩,pl.isList.push _⟩,truth_bools bs,fun h' tk hk => ?_⟩
 have e2:(List.range (bs.map Value.bool).toArray.size).any (fun i => bs.getD i false) = bs.any id:=by
  rw [List.size_toArray,List.length_map]; exact range_any bs
 rw [e2]
 refine ⟨.bl _,H,?_,rfl,q _ H (Same.refl H) (rep_bl _ _)⟩
 refine I.kept (t':=tk) fun b o e => hk b o ?_ (Heap.get?_push_of_some _ e)
 intro hm
 have hb:=Heap.lt_size e
 simp at hm
 exact absurd hm (Nat.ne_of_lt hb)
theorem c_all (hc:X.calm = true):CallR X (.builtin "all") (RBM X.K (bltOp .all)):=by
 intro pins s σ H xs us Q I r h
 obtain ⟨O,vs,v,hO,rs,e,q⟩:=h
 obtain ⟨x,rfl⟩:=one_of e (.inl rfl)
 obtain ⟨u,rfl,rx⟩:=p1 rs
 simp only [bltOp,one1,Option.bind_eq_some_iff,Option.map_eq_some_iff] at e
 obtain ⟨ys,e0,bs,e,rfl⟩:=e
 obtain rfl:=lst?_eq e0
 have:=bools?_eq e
 subst this
 obtain ⟨a,ws,rfl,s1,t1⟩:=rx.lst
 obtain ⟨u,rfl,ru⟩:=vals1 r
 cases ru
 obtain ⟨its,r',pl,hz⟩:=I.list s1
 have:=bools_vals t1 r'
 subst this
 have hlt:a < s.heap.objs.size:=by obtain ⟨o,ho,_⟩:=pl.isList; exact Heap.lt_size ho
 refine call_all_walk (wpAny_pyIter_list pl.isList ?_)
 refine ⟨s.heap.objs.size,_,_,_,_,_,fun i => bs.getD i false,rfl,Walks.list (by first | exact I.ok.hd hc | simpa using I.ok.hd hc) s.heap.objs.size a (Nat.ne_of_lt hlt) (bs.map Value.bool).toArray,⟨⟨_,Heap.get?_push_size _ rfl,rfl,rfl⟩,pl.isList.push _⟩,truth_bools bs,fun h' tk hk => ?_⟩
 have e2:(List.range (bs.map Value.bool).toArray.size).all (fun i => bs.getD i false) = bs.all id:=by
  rw [List.size_toArray,List.length_map]; exact range_all bs
 rw [e2]
 refine ⟨.bl _,H,?_,rfl,q _ H (Same.refl H) (rep_bl _ _)⟩
 refine I.kept (t':=tk) fun b o e => hk b o ?_ (Heap.get?_push_of_some _ e)
 intro hm
 have hb:=Heap.lt_size e
 simp at hm
 exact absurd hm (Nat.ne_of_lt hb)
end
end MM
namespace L2
open PySem PySem.Spec PyProof.Rows
end L2
namespace L2
open PySem PySem.Spec PyProof.Rows
theorem Inv.turned2 {X:Cx} {pins:List (Addr × Obj)} {σ:St} {H:Hp} {s:Shared} {h':Heap} {t':Nat} {e it:Addr} {oe:Obj} (I:Inv X pins σ H s) (he:s.heap.get? e = some oe) (hf:oe.isFreed = false) (he':∃ o,h'.get? e = some o)
  (k:∀ b o,b ≠ e -> b ≠ it -> s.heap.get? b = some o -> h'.get? b = some o) (fe:FpOk X pins H e) (fi:FpOk X pins H it):Inv X pins σ H { s with heap:=h',toks:=t' }:=by
 obtain ⟨o',ho'⟩:=he'
 obtain ⟨a0,a1,a2,a3,a4,a5⟩:=fe
 obtain ⟨b0,b1,b2,b3,b4,b5⟩:=fi
 have at1:(h'.update e fun _ => oe).get? e = some oe:=Heap.get?_update_self _ ho' hf
 have oth:∀ b,b ≠ e -> (h'.update e fun _ => oe).get? b = h'.get? b:=fun b hb => (Heap.SameBut.update h' e _).2 b hb
 have I1:Inv X pins σ H { s with heap:=h'.update e fun _ => oe,toks:=t' }:=I.turned (it:=it) (fun b o hb q => by
  by_cases z:b = e
  ·subst z
   rw [at1,<- he]
   exact q
  ·rw [oth b z]
   exact k b o z hb q) b0 b1 b3 b4 b5
 exact Inv.turned (s:={ s with heap:=h'.update e fun _ => oe,toks:=t' }) (it:=e) I1 (fun b o hb q => by
  have q:(h'.update e fun _ => oe).get? b = some o:=q
  rw [oth b hb] at q
  exact q) a0 a1 a3 a4 a5
noncomputable def Ite (q:Hp -> List V -> Prop):It :=
 ⟨fun i H => ∃ xs,q H xs /\ i < xs.length,fun i H x H' => ∃ p,x = .ref p /\ H p = none /\ ∃ u,H' = upd H p (.tup [.int i,u]) /\ ∀ xs,q H xs -> xs[i]? = some u,fun i H => ∃ xs,q H xs /\ i = xs.length⟩
structure Src (P:Program) (w:World) (K:PySem.W.Frag) (a it:Addr) (q:Hp -> List V -> Prop) (r:Nat -> Heap -> Prop):Prop where
 ne:a ≠ it
 keep:∀ i h h',r i h -> (∀ o,h.get? it = some o -> h'.get? it = some o) -> r i h'
 live:∀ i h,r i h -> ∃ o,h.get? it = some o /\ ∀ v,o.data ≠ .cell v
 one:∀ (X:Cx),X.K = K -> ∀ (pins:List (Addr × Obj)) (s:Shared) (σ:St) (H:Hp) (xs ys:List V),Inv X pins σ H s -> q H xs -> q H ys -> xs = ys
 row:∀ (X:Cx),X.prog = P -> X.w = w -> X.K = K -> ∀ (pins:List (Addr × Obj)) (s:Shared) (σ:St) (H:Hp) (xs:List V),Inv X pins σ H s -> q H xs -> ∃ (its:List Value),Vals xs its /\ ∀ (A:Around),A.handled = none ->
  ∃ St:Nat -> Heap -> Prop,Draws P w A it [it,a] its.length (fun i v => its[i]? = some v) St /\ (∀ i,r i s.heap -> St i s.heap) /\ ∀ i h,St i h -> r i h
theorem turn_enm {P:Program} {w:World} {K:PySem.W.Frag} {ts:List Expr} {j:Nat} {tp:Pos} {a it e:Addr} {q:Hp -> List V -> Prop} {r:Nat -> Heap -> Prop} (S:Src P w K a it q r) (hei:e ≠ it) (hea:e ≠ a) :
  Turn P w K (.Tuple ts j tp) (Ite q) [e,it] e (fun i h => (∃ old,IsEnum h e it (i:Nat) old) /\ r i h) where
 mem:=.head _
 obj:=fun i h st b hb => by
  obtain ⟨⟨old,he⟩,hr⟩:=st
  rcases List.mem_cons.mp hb with rfl | hb
  ·exact ⟨_,he,fun v z => by cases z⟩
  ·have z:b = it:=by simpa using hb
   subst z
   exact S.live i h hr
 keep:=fun i h h' ⟨⟨old,he⟩,hr⟩ k => ⟨⟨old,k e (.head _) _ he⟩,S.keep i h h' hr (k it (.tail _ (.head _)))⟩
 item:=by
  intro X hP hw hK hc i pins s σ H E I hf st hg
  obtain ⟨⟨old,he⟩,hr⟩:=st
  obtain ⟨xs,hq,hi⟩:=hg
  obtain ⟨its,rv,dr⟩:=S.row X hP hw hK pins s σ H xs I hq
  have hh:X.A.handled = none:=I.ok.hd hc
  obtain ⟨St,D,hst,hts⟩:=dr X.A.in1 (by simpa using hh)
  have hl:=rv.length
  have fe:=hf e (.head _)
  have fi:=hf it (.tail _ (.head _))
  refine wpAny_pyNext_enum_itemD D he (hst i hr) (by omega) hei (by simp only [List.mem_cons,List.not_mem_nil,or_false,not_or]; exact ⟨hei,hea⟩) fun x h' tk px eo st' tup sz kp => ?_
  refine ⟨_,rfl,wpAny_letOwnedTupleGo_enum eo fun h2 en2 sb2 => ?_⟩
  have hx:i < xs.length:=hi
  obtain ⟨u,hu,ru⟩:=rv.get (List.getElem?_eq_getElem hx)
  have ex:x = u:=by
   have:=px.symm.trans hu
   simpa using this
  subst ex
  have fresh:H s.heap.objs.size = none:=I.hok.fresh (Nat.le_refl _)
  have ne:∀ b o,s.heap.get? b = some o -> b ≠ s.heap.objs.size:=fun b o q z => Nat.lt_irrefl _ (by have:=Heap.lt_size q; rw [z] at this; exact this)
  have en:e ≠ s.heap.objs.size:=ne _ _ he
  obtain ⟨oi,hoi,_⟩:=S.live i _ hr
  have inn:it ≠ s.heap.objs.size:=ne _ _ hoi
  have I1:Inv X pins σ (upd H s.heap.objs.size (.tup [.int i,xs[i]])) { s with heap:=s.heap.push { cls:=.type "tuple",data:=.seq #[.int i tk,x] } } :=
   I.laid (t':=s.toks) (fun b o q => Heap.get?_push_of_some _ q) (Nat.le_refl _) ⟨by show 2 <= sizeLine; decide,_,.cons ⟨_,rfl⟩ (.cons ru .nil),IsTup.new _ _⟩
  have up:∀ b,b ≠ s.heap.objs.size -> FpOk X pins H b -> FpOk X pins (upd H s.heap.objs.size (.tup [.int i,xs[i]])) b:=fun b hb ⟨z,r⟩ => ⟨by rw [upd_ne hb]; exact z,r⟩
  have I2:=I1.turned2 (h':=h2) (t':=tk + 1) (e:=e) (it:=it) (Heap.get?_push_of_some _ he) rfl ⟨_,en2⟩ (fun b o hbe hbi q => ?_) (up e en fe) (up it inn fi)
  ·refine ⟨.ref s.heap.objs.size,_,I2,rfl,⟨_,rfl,fresh,_,rfl,fun ys hy => ?_⟩,⟨⟨_,by simpa using en2⟩,?_⟩,fun b hb => ?_⟩
   ·rw [S.one X hK pins s σ H ys xs I hy hq]
    exact List.getElem?_eq_getElem hx
   ·refine hts _ _ (D.frame _ _ _ st' fun b hb o q => ?_)
    rw [sb2.2 b fun z => ?_]
    ·exact q
    ·subst z
     simp only [List.mem_cons,List.not_mem_nil,or_false] at hb
     exact hb.elim hei hea
   ·rcases List.mem_cons.mp hb with rfl | hb
    ·exact (up b en fe).1
    ·have z:b = it:=by simpa using hb
     subst z
     exact (up b inn fi).1
  ·rw [sb2.2 b hbe]
   rcases Heap.get?_push_cases q with ⟨rfl,rfl⟩ | q
   ·exact tup
   ·exact kp b o hbe hbi q
 done:=by
  intro X hP hw hK hc i pins s σ H E I hf st hg
  obtain ⟨⟨old,he⟩,hr⟩:=st
  obtain ⟨xs,hq,hi⟩:=hg
  obtain ⟨its,rv,dr⟩:=S.row X hP hw hK pins s σ H xs I hq
  have hh:X.A.handled = none:=I.ok.hd hc
  obtain ⟨St,D,hst,hts⟩:=dr X.A.in1 (by simpa using hh)
  have hl:=rv.length
  obtain ⟨f0,f1,f2,f3,f4,f5⟩:=hf it (.tail _ (.head _))
  have e:i = its.length:=by omega
  subst e
  exact wpAny_pyNext_enum_endD D he (hst _ hr) fun h' eb => ⟨rfl,I.turned (t':=s.toks) (fun b o hb q => eb b o hb q) f0 f1 f3 f4 f5⟩
 self:=fun _ i s Q E ⟨⟨old,he⟩,_⟩ h => wpAny_pyIter_enum he h
theorem src_list {P:Program} {w:World} {K:PySem.W.Frag} {a it:Addr} (ne:a ≠ it):Src P w K a it (fun H xs => SqL K H a xs) (fun i h => h.IsListIter it a i) where
 ne:=ne
 keep:=fun i h h' ⟨o,ho,r⟩ k => ⟨o,k o ho,r⟩
 live:=fun i h ⟨o,ho,_,hd⟩ => ⟨o,ho,fun v z => by rw [hd] at z; cases z⟩
 one:=fun X hK pins s σ H xs ys I h h' => by subst hK; exact I.list_inj h h'
 row:=fun X hP hw hK pins s σ H xs I h => by
  subst hP hw hK
  obtain ⟨its,rv,p,_⟩:=I.list h
  refine ⟨its,rv,fun A hA => ⟨fun i h => h.IsListIter it a i /\ h.IsList a its.toArray,?_,fun i st => ⟨st,p.isList⟩,fun i h' st => st.1⟩⟩
  simpa using Draws.list (prog:=X.prog) (w:=X.w) hA it a ne its.toArray
theorem src_tup {P:Program} {w:World} {K:PySem.W.Frag} {a it:Addr} (ne:a ≠ it):Src P w K a it (fun H xs => SqT K H a xs) (fun i h => h.IsTupleIter it a i) where
 ne:=ne
 keep:=fun i h h' ⟨o,ho,r⟩ k => ⟨o,k o ho,r⟩
 live:=fun i h ⟨o,ho,_,hd⟩ => ⟨o,ho,fun v z => by rw [hd] at z; cases z⟩
 one:=fun X hK pins s σ H xs ys I h h' => by subst hK; exact I.tuple_inj h h'
 row:=fun X hP hw hK pins s σ H xs I h => by
  subst hP hw hK
  obtain ⟨its,rv,p,_⟩:=I.tuple h
  refine ⟨its,rv,fun A hA => ⟨fun i h => h.IsTupleIter it a i /\ h.IsTuple a its.toArray,?_,fun i st => ⟨st,(show s.heap.IsTuple a its.toArray from p)⟩,fun i h' st => st.1⟩⟩
  simpa using En.draws (P:=X.prog) (w:=X.w) hA it a ne its.toArray
noncomputable def iEnm (K:PySem.W.Frag) (tl:TE):TI:=fun σ H R => tl σ H fun x H1 => ∃ a,x = .ref a /\ (((∃ xs,SqL K H1 a xs) /\ R (Ite fun H xs => SqL K H a xs) H1) \/ ((∃ xs,SqT K H1 a xs) /\ R (Ite fun H xs => SqT K H a xs) H1))
theorem enm_made {X:Cx} {pins:List (Addr × Obj)} {σ:St} {H:Hp} {s:Shared} {E:Value -> Shared -> Prop} {h':Heap} {ts:List Expr} {j:Nat} {tp:Pos} {a:Addr} {q:Hp -> List V -> Prop} {r:Nat -> Heap -> Prop} {R:It -> Hp -> Prop} (I:Inv X pins σ H s) (la:a < s.heap.objs.size)
  (S:Src X.prog X.w X.K a s.heap.objs.size q r) (en:IsEnum h' (s.heap.objs.size + 1) s.heap.objs.size 0 .none) (hr:r 0 h') (k:∀ b o,s.heap.get? b = some o -> h'.get? b = some o) (hR:R (Ite q) H) :
  wpAny (model X.prog X.w) X.A (pyIter (.ref (s.heap.objs.size + 1))) (PIE X pins σ (.Tuple ts j tp) R) E { s with heap:=h' }:=by
 have I1:Inv X pins σ H { s with heap:=h' }:=I.kept (t':=s.toks) k
 refine wpAny_pyIter_enum (s:={ s with heap:=h' }) en ⟨s.heap.objs.size + 1,[s.heap.objs.size + 1,s.heap.objs.size],_,_,H,rfl,I1,turn_enm S (Nat.succ_ne_self _) (Nat.ne_of_gt (Nat.lt_succ_of_lt la)),⟨⟨_,en⟩,hr⟩,fun b hb => ?_,hR⟩
 have hb:s.heap.objs.size <= b:=by
  simp only [List.mem_cons,List.not_mem_nil,or_false] at hb
  rcases hb with rfl | rfl
  ·exact Nat.le_succ _
  ·exact Nat.le_refl _
 exact I.fpOk hb (I.hok.fresh hb)
theorem pi_enm {X:Cx} {ts:List Expr} {j:Nat} {tp:Pos} {l:Expr} {tl:TE} {p pos:Pos} (hg:Gl X "enumerate") (hm:X.mg "enumerate" = none) (hl:PE X l tl) (hs:starEach [l] X.env = [(false,eval l X.env)]:=by rfl) :
  PI X (.Tuple ts j tp) (.Call (.Name "enumerate" p) [l] [] pos) (iEnm X.K tl):=by
 intro pins s σ H R I h
 refine Call_ (ld_blt I hg hm PyProof.Rows.boot_enumerate (PyProof.Rows.callWith_type1 (thn (pa_cons hl pa_nil hs pos pins s σ H (fun vs H1 => match vs with
  | [x] => ∃ a,x = .ref a /\ (((∃ xs,SqL X.K H1 a xs) /\ R (Ite fun H xs => SqL X.K H a xs) H1) \/ ((∃ xs,SqT X.K H1 a xs) /\ R (Ite fun H xs => SqT X.K H a xs) H1))
  | _ => False) I h) fun us s1 ⟨vs,H1,I1,r1,q1⟩ => ?_) hs rfl))
 cases r1 with
 | nil => exact q1.elim
 | cons r rr =>
  cases rr with
  | cons _ _ => exact q1.elim
  | nil =>
   obtain ⟨a,e,q⟩:=q1
   subst e
   cases r
   rcases q with ⟨⟨xs,hq⟩,q⟩ | ⟨⟨xs,hq⟩,q⟩
   ·obtain ⟨its,_,pl,_⟩:=I1.list hq
    have la:a < s1.heap.objs.size:=let ⟨o,ho,_⟩:=pl.isList; Heap.lt_size ho
    exact call_enumerate_list pl.isList fun h' en it _ k => enm_made I1 la (src_list (Nat.ne_of_lt la)) en it k q
   ·obtain ⟨its,_,pt,_⟩:=I1.tuple hq
    have pt:s1.heap.IsTuple a its.toArray:=pt
    have la:a < s1.heap.objs.size:=let ⟨o,ho,_⟩:=pt; Heap.lt_size ho
    exact En.call_tup pt fun h' en it _ k => enm_made I1 la (src_tup (Nat.ne_of_lt la)) en it k q
end L2
namespace MM
open PySem PySem.Spec PyProof.Rows L2
structure ItOk (K:PySem.W.Frag) (J:It) (xs:List PV) (V G:Hp):Prop where
 stop:∀ H',Same G H' -> J.stop xs.length H'
 go:∀ (i:Nat) x H',Same G H' -> xs[i]? = some x -> J.go i H'
 yld:∀ (i:Nat) x H' u H2,Same G H' -> xs[i]? = some x -> J.yld i H' u H2 -> Same H' H2 /\ ∀ O',(∀ a ∈ O',H' a ≠ none) -> Same V (hide H2 O') -> Rep K (hide H2 O') x u
theorem ItOk.weak {K:PySem.W.Frag} {J:It} {xs:List PV} {V G G':Hp} (h:ItOk K J xs V G) (s:Same G G'):ItOk K J xs V G' :=
 ⟨fun H' s' => h.stop H' (s.trans s'),fun i x H' s' => h.go i x H' (s.trans s'),fun i x H' u H2 s' => h.yld i x H' u H2 (s.trans s')⟩
noncomputable def lentOf (ms:List ME) (ρ:Rho) (σ:St):List Addr:=match ms with
 | [.bor i] => (match (ρ[i]?).join,(σ[i]?).join with | some (.own _),some (.ref a) => [a] | _,_ => [])
 | _ => []
noncomputable def guard (B:Hp) (O:List Addr) (H:Hp) (L:List Addr):Hp:=fun b => if b ∈ O then (if b ∈ L then H b else B b) else H b
section
variable {K:PySem.W.Frag} {B H:Hp} {O L:List Addr}
theorem guard_le (s:Same B H):Same (guard B O H L) H:=fun b u e => by
 unfold guard at e
 split at e
 ·split at e
  ·exact e
  ·exact s b u e
 ·exact e
theorem le_guard (s:Same B H):Same B (guard B O H L):=fun b u e => by
 unfold guard
 split
 ·split
  ·exact s b u e
  ·exact e
 ·exact s b u e
theorem hide_guard:Same (hide H O) (guard B O H L):=fun b u e => by
 have hb:b ∉ O:=fun z => by rw [hide_in z] at e; cases e
 unfold guard
 rw [if_neg hb]
 rw [hide_out hb] at e
 exact e
end
theorem it_list {K:PySem.W.Frag} {V G:Hp} {a:Addr} {xs:List PV} {us:List L2.V} (h:SqL K G a us) (r:Reps K V xs us):ItOk K (Itl K a) xs V G where
 stop:=fun H' s => ⟨us,s.seq h,Nat.le_of_eq r.length.symm⟩
 go:=fun i x H' s e => by
  obtain ⟨u,e1,_⟩:=r.get e
  exact ⟨us,u,s.seq h,e1⟩
 yld:=fun i x H' u H2 s e y => by
  obtain ⟨rfl,y⟩:=y
  obtain ⟨w,e1,q⟩:=r.get e
  have e2:=y us (s.seq h)
  rw [e1] at e2
  cases e2
  exact ⟨Same.refl _,fun O' _ sv => Rep.mono sv _ q⟩
theorem it_tup {K:PySem.W.Frag} {V G:Hp} {a:Addr} {xs:List PV} {us:List L2.V} (h:SqT K G a us) (r:Reps K V xs us):ItOk K (Itt K a) xs V G where
 stop:=fun H' s => ⟨us,s.seqT h,Nat.le_of_eq r.length.symm⟩
 go:=fun i x H' s e => by
  obtain ⟨u,e1,_⟩:=r.get e
  exact ⟨us,u,s.seqT h,e1⟩
 yld:=fun i x H' u H2 s e y => by
  obtain ⟨rfl,y⟩:=y
  obtain ⟨w,e1,q⟩:=r.get e
  have e2:=y us (s.seqT h)
  rw [e1] at e2
  cases e2
  exact ⟨Same.refl _,fun O' _ sv => Rep.mono sv _ q⟩
theorem it_range {K:PySem.W.Frag} {V G:Hp} {lo:Int} {n:Nat}:ItOk K (Itr lo n) ((List.range n).map fun (k:Nat) => .int (lo + k)) V G where
 stop:=fun H' s => by simp [Itr]
 go:=fun i x H' s e => by
  have:=(List.getElem?_eq_some_iff.mp e).1
  simpa [Itr] using this
 yld:=fun i x H' u H2 s e y => by
  obtain ⟨rfl,rfl⟩:=y
  refine ⟨Same.refl _,fun O' _ sv => ?_⟩
  have hi:i < n:=by have:=(List.getElem?_eq_some_iff.mp e).1; simpa using this
  rw [List.getElem?_map,List.getElem?_range hi] at e
  cases e
  rw [Rep]
theorem rep_at {K:PySem.W.Frag} {H:Hp} {O:List Addr} {p:Addr} {xs:List PV} {us:List V} (hO:∀ a ∈ O,H a ≠ none) (hp:H p = none) (h:Reps K (hide (upd H p (.tup us)) O) xs us):Rep K (hide (upd H p (.tup us)) O) (.tup xs) (.ref p):=by
 rw [Rep]
 refine ⟨p,us,rfl,?_,h⟩
 rw [hide_out fun z => hO p z hp]
 exact upd_same ..
theorem enum_at:∀ (xs:List PV) (k i:Nat),(enumFrom k xs)[i]? = (xs[i]?).map fun x => .tup [.int ((k + i:Nat):Int),x]
 | [],k,i => by simp [enumFrom]
 | x :: xs,k,0 => by simp [enumFrom]
 | x :: xs,k,i + 1 => by
  rw [enumFrom,List.getElem?_cons_succ,List.getElem?_cons_succ,enum_at xs (k + 1) i,show k + 1 + i = k + (i + 1) by omega]
theorem enum_len:∀ (xs:List PV) (k:Nat),(enumFrom k xs).length = xs.length
 | [],_ => rfl
 | x :: xs,k => by rw [enumFrom,List.length_cons,List.length_cons,enum_len xs]
theorem it_enm {K:PySem.W.Frag} {V G:Hp} {q:Hp -> List L2.V -> Prop} {xs:List PV} {us:List L2.V} (h:∀ H',Same G H' -> q H' us) (r:Reps K V xs us):ItOk K (Ite q) (enumFrom 0 xs) V G where
 stop:=fun H' s => ⟨us,h H' s,by rw [enum_len]; exact r.length⟩
 go:=fun i x H' s e => by
  refine ⟨us,h H' s,?_⟩
  have:=(List.getElem?_eq_some_iff.mp e).1
  rw [enum_len] at this
  rw [<- r.length]
  exact this
 yld:=fun i x H' u H2 s e y => by
  obtain ⟨p,rfl,hp,v,rfl,y⟩:=y
  rw [enum_at] at e
  obtain ⟨z,e1,rfl⟩:=Option.map_eq_some_iff.mp e
  obtain ⟨w,e2,rz⟩:=r.get e1
  have e3:=y us (h H' s)
  rw [e2] at e3
  cases e3
  refine ⟨same_new hp _,fun O' hO sv => ?_⟩
  rw [Nat.zero_add]
  refine rep_at hO hp (.cons (rep_int _ _) (.cons (Rep.mono sv _ rz) .nil))
noncomputable def tW (K:PySem.W.Frag) (cal:Cal) (k:Sk) (ms:List ME):TI:=fun σ H R =>
 ∃ B O₀ O ρ vs xs,StOk K B O₀ O H ρ σ /\ evs cal ms ρ = some vs /\ srcOf k vs = some xs /\ ∀ J H1,Same H H1 -> ItOk K J xs (hide H1 O) (guard B O H1 (lentOf ms ρ σ)) -> R J H1
section
variable {X:Cx} {cal:Cal} {tg:Expr}
theorem PI.or {e:Expr} {t u:TI} (h:PI X tg e t) (g:PI X tg e u):PI X tg e (fun σ H R => t σ H R \/ u σ H R):=fun pins s σ H R I q => q.elim (h pins s σ H R I) (g pins s σ H R I)
theorem evs_len:∀ {ms:List ME} {ρ:Rho} {vs:List PV},evs cal ms ρ = some vs -> vs.length = ms.length
 | [],_,_,h => by simp [evs] at h; subst h; rfl
 | m :: ms,_,_,h => by
  simp only [evs,Option.bind_eq_some_iff,Option.map_eq_some_iff] at h
  obtain ⟨v,_,w,e2,rfl⟩:=h
  simp [evs_len e2]
theorem evs1 {m:ME} {ρ:Rho} {vs:List PV} (h:evs cal [m] ρ = some vs):∃ v,vs = [v] /\ ev cal m ρ = some v:=by
 simp only [evs,Option.bind_eq_some_iff,Option.map_eq_some_iff] at h
 obtain ⟨v,e,w,e2,rfl⟩:=h
 cases e2
 exact ⟨v,rfl,e⟩
theorem rep_seq {K:PySem.W.Frag} {F:Hp} {v:PV} {u:L2.V} {xs:List PV} (h:Rep K F v u) (e:seq? v = some xs):∃ a us,u = .ref a /\ Reps K F xs us /\ ((v = .lst xs /\ SqL K F a us) \/ (v = .tup xs /\ SqT K F a us)):=by
 cases v with
 | lst ys => simp [seq?] at e; subst e; rw [Rep] at h; obtain ⟨a,us,e,q,r⟩:=h; exact ⟨a,us,e,r,.inl ⟨rfl,q⟩⟩
 | tup ys => simp [seq?] at e; subst e; rw [Rep] at h; obtain ⟨a,us,e,q,r⟩:=h; exact ⟨a,us,e,r,.inr ⟨rfl,SqT.of q⟩⟩
 | _ => simp [seq?] at e
theorem w_seq {m:ME} {e:Expr} (hb:isBor m = false) (h:PE X e (tE X.K cal m)):PI X tg e (tW X.K cal .seq [m]):=by
 refine (PI.or (pi_list h) (pi_tup h)).imp fun σ H R q => ?_
 obtain ⟨B,O₀,O,ρ,vs,xs,st,e1,e2,q⟩:=q
 obtain ⟨v,rfl,e3⟩:=evs1 e1
 have e4:seq? v = some xs:=e2
 have hl:lentOf [m] ρ σ = []:=by cases m <;> first | rfl | cases hb
 rw [hl] at q
 cases v with
 | lst ys =>
  simp [seq?] at e4; subst e4
  refine .inl ⟨B,O₀,O,ρ,_,st,e3,fun u H' s g => ?_⟩
  have r:=g.2 hb
  rw [Rep] at r
  obtain ⟨a,us,rfl,sq,rs⟩:=r
  exact ⟨a,rfl,⟨us,(hide_le H' O).seq sq⟩,q _ _ s (it_list (hide_guard.seq sq) rs)⟩
 | tup ys =>
  simp [seq?] at e4; subst e4
  refine .inr ⟨B,O₀,O,ρ,_,st,e3,fun u H' s g => ?_⟩
  have r:=g.2 hb
  rw [Rep] at r
  obtain ⟨a,us,rfl,sq,rs⟩:=r
  exact ⟨a,rfl,⟨us,(hide_le H' O).seqT (SqT.of sq)⟩,q _ _ s (it_tup (hide_guard.seqT (SqT.of sq)) rs)⟩
 | _ => simp [seq?] at e4
theorem w_bor {i:Nat} {x:Str} {pos:Pos} (h:nameAt X.N X.env.scope i x = true):PI X tg (.Name x pos) (tW X.K cal .seq [.bor i]):=by
 refine (PI.or (pi_list (name_at h)) (pi_tup (name_at h))).imp fun σ H R q => ?_
 obtain ⟨B,O₀,O,ρ,vs,xs,st,e1,e2,q⟩:=q
 obtain ⟨v,rfl,e3⟩:=evs1 e1
 have e4:seq? v = some xs:=e2
 rw [ev] at e3
 cases hj:(ρ[i]?).join with
 | none => rw [hj] at e3; cases e3
 | some m =>
  rw [hj] at e3
  obtain ⟨u,eu,so⟩:=slot_of st hj
  cases m with
  | val w =>
   simp only [borOf,Option.some.injEq] at e3
   subst e3
   have so':Rep X.K (hide H O) w u:=so
   obtain ⟨a,us,rfl,rs,z⟩:=rep_seq so' e4
   rcases z with ⟨rfl,sq⟩ | ⟨rfl,sq⟩
   ·exact .inl ⟨_,eu,a,rfl,⟨us,(hide_le H O).seq sq⟩,q _ _ (Same.refl H) (it_list (hide_guard.seq sq) rs)⟩
   ·exact .inr ⟨_,eu,a,rfl,⟨us,(hide_le H O).seqT sq⟩,q _ _ (Same.refl H) (it_tup (hide_guard.seqT sq) rs)⟩
  | own ys =>
   simp only [borOf,Option.some.injEq] at e3
   subst e3
   simp [seq?] at e4; subst e4
   obtain ⟨a,us,rfl,ha,rs,hO,_⟩:=so
   refine .inl ⟨_,eu,a,rfl,⟨us,SqL.of ha⟩,q _ _ (Same.refl H) (it_list (SqL.of ?_) rs)⟩
   have hl:lentOf [.bor i] ρ σ = [a]:=by simp [lentOf,hj,eu]
   unfold guard
   rw [hl,if_pos hO,if_pos (by simp)]
   exact ha
  | brw ys =>
   simp only [borOf,Option.some.injEq] at e3
   subst e3
   simp [seq?] at e4; subst e4
   obtain ⟨a,us,rfl,sq,rs⟩:=so
   exact .inl ⟨_,eu,a,rfl,⟨us,st.keep.seq sq⟩,q _ _ (Same.refl H) (it_list ((le_guard st.keep).seq sq) rs)⟩
  | ownD ys =>
   simp only [borOf,Option.some.injEq] at e3
   subst e3
   simp [seq?] at e4
  | ownO _ _ _ => simp [borOf] at e3
  | brwO _ _ => simp [borOf] at e3
  | brwD ys =>
   simp only [borOf,Option.some.injEq] at e3
   subst e3
   simp [seq?] at e4
theorem w_enm {m:ME} {e:Expr} {f:Str} {ts:List Expr} {j:Nat} {tp p pos:Pos} {T:Tab} {k:Nat} (g:Gf X T k cal) (hf:f = ("enumerate":Str)) (hg:glB X.env.scope f = true) (hs:notStar e = true) (hb:isBor m = false) (h:PE X e (tE X.K cal m)):PI X (.Tuple ts j tp) (.Call (.Name f p) [e] [] pos) (tW X.K cal .enm [m]):=by
 subst hf
 have star:starEach [e] X.env = [(false,eval e X.env)]:=by cases e <;> first | rfl | (simp [notStar] at hs)
 refine (pi_enm (glOf hg) (g.blt "enumerate" (by decide)) h star).imp fun σ H R q => ?_
 obtain ⟨B,O₀,O,ρ,vs,xs,st,e1,e2,q⟩:=q
 obtain ⟨v,rfl,e3⟩:=evs1 e1
 have hl:lentOf [m] ρ σ = []:=by cases m <;> first | rfl | cases hb
 rw [hl] at q
 simp only [srcOf,Option.map_eq_some_iff] at e2
 obtain ⟨ys,e4,rfl⟩:=e2
 refine ⟨B,O₀,O,ρ,_,st,e3,fun u H' s g => ?_⟩
 obtain ⟨a,us,rfl,rs,z⟩:=rep_seq (g.2 hb) e4
 rcases z with ⟨_,sq⟩ | ⟨_,sq⟩
 ·exact ⟨a,rfl,.inl ⟨⟨us,(hide_le H' O).seq sq⟩,q _ _ s (it_enm (fun H2 s2 => s2.seq (hide_guard.seq sq)) rs)⟩⟩
 ·exact ⟨a,rfl,.inr ⟨⟨us,(hide_le H' O).seqT sq⟩,q _ _ s (it_enm (fun H2 s2 => s2.seqT (hide_guard.seqT sq)) rs)⟩⟩
theorem w_enmB {i:Nat} {x:Str} {px:Pos} {f:Str} {ts:List Expr} {j:Nat} {tp p pos:Pos} {T:Tab} {k:Nat} (g:Gf X T k cal) (hf:f = ("enumerate":Str)) (hg:glB X.env.scope f = true) (h:nameAt X.N X.env.scope i x = true):PI X (.Tuple ts j tp) (.Call (.Name f p) [.Name x px] [] pos) (tW X.K cal .enm [.bor i]):=by
 subst hf
 refine (pi_enm (glOf hg) (g.blt "enumerate" (by decide)) (name_at h) rfl).imp fun σ H R q => ?_
 obtain ⟨B,O₀,O,ρ,vs,xs,st,e1,e2,q⟩:=q
 obtain ⟨v,rfl,e3⟩:=evs1 e1
 simp only [srcOf,Option.map_eq_some_iff] at e2
 obtain ⟨zs,e4,rfl⟩:=e2
 rw [ev] at e3
 cases hj:(ρ[i]?).join with
 | none => rw [hj] at e3; cases e3
 | some m =>
  rw [hj] at e3
  obtain ⟨u,eu,so⟩:=slot_of st hj
  cases m with
  | val w =>
   simp only [borOf,Option.some.injEq] at e3
   subst e3
   have so':Rep X.K (hide H O) w u:=so
   obtain ⟨a,us,rfl,rs,z⟩:=rep_seq so' e4
   rcases z with ⟨rfl,sq⟩ | ⟨rfl,sq⟩
   ·exact ⟨_,eu,a,rfl,.inl ⟨⟨us,(hide_le H O).seq sq⟩,q _ _ (Same.refl H) (it_enm (fun H2 s2 => s2.seq (hide_guard.seq sq)) rs)⟩⟩
   ·exact ⟨_,eu,a,rfl,.inr ⟨⟨us,(hide_le H O).seqT sq⟩,q _ _ (Same.refl H) (it_enm (fun H2 s2 => s2.seqT (hide_guard.seqT sq)) rs)⟩⟩
  | own ys =>
   simp only [borOf,Option.some.injEq] at e3
   subst e3
   simp [seq?] at e4; subst e4
   obtain ⟨a,us,rfl,ha,rs,hO,_⟩:=so
   have hl:lentOf [.bor i] ρ σ = [a]:=by simp [lentOf,hj,eu]
   have hG:guard B O H (lentOf [.bor i] ρ σ) a = some (.lst us):=by
    unfold guard
    rw [hl,if_pos hO,if_pos (by simp)]
    exact ha
   exact ⟨_,eu,a,rfl,.inl ⟨⟨us,SqL.of ha⟩,q _ _ (Same.refl H) (it_enm (fun H2 s2 => s2.seq (SqL.of hG)) rs)⟩⟩
  | brw ys =>
   simp only [borOf,Option.some.injEq] at e3
   subst e3
   simp [seq?] at e4; subst e4
   obtain ⟨a,us,rfl,sq,rs⟩:=so
   exact ⟨_,eu,a,rfl,.inl ⟨⟨us,st.keep.seq sq⟩,q _ _ (Same.refl H) (it_enm (fun H2 s2 => s2.seq ((le_guard st.keep).seq sq)) rs)⟩⟩
  | ownD ys =>
   simp only [borOf,Option.some.injEq] at e3
   subst e3
   simp [seq?] at e4
  | ownO _ _ _ => simp [borOf] at e3
  | brwO _ _ => simp [borOf] at e3
  | brwD ys =>
   simp only [borOf,Option.some.injEq] at e3
   subst e3
   simp [seq?] at e4
theorem w_range {T:Tab} {k:Nat} {ms:List ME} {args:List Expr} {f:Str} {p pos:Pos} (g:Gf X T k cal) (hf:f = ("range":Str)) (hg:glB X.env.scope f = true) (ha:PA X args (tEs X.K cal ms)) (hn:args.length = 1 \/ args.length = 2) (hs:args.all notStar = true) (hm:ms.length = args.length) :
  PI X tg (.Call (.Name f p) args [] pos) (tW X.K cal .rng ms):=by
 subst hf
 have star:∀ e,notStar e = true -> ∀ es env,starEach (e :: es) env = (false,eval e env) :: starEach es env:=fun e he es env => by
  cases e <;> first | rfl | (simp [notStar] at he)
 match args,hn with
 | [a],_ =>
  simp only [List.all_cons,List.all_nil,Bool.and_true] at hs
  refine (pi_range1 (glOf hg) (g.blt "range" (by decide)) ha (by rw [star a hs]; rfl)).imp fun σ H R q => ?_
  obtain ⟨B,O₀,O,ρ,vs,xs,st,e1,e2,q⟩:=q
  refine ⟨B,O₀,O,ρ,vs,st,e1,fun us H' s gs => ?_⟩
  match vs,e2,gs with
  | [.int j],e2,gs =>
   simp only [srcOf] at e2
   split at e2
   ·rename_i c
    cases e2
    obtain ⟨u,rfl,ru⟩:=p1 gs.1
    have e3:=ru.int
    subst e3
    exact ⟨j,rfl,c.1,c.2,q _ _ s it_range⟩
   ·cases e2
  | [.int j,.int j'],e2,gs =>
   have:=evs_len e1
   simp at this hm
   omega
 | [a,b],_ =>
  simp only [List.all_cons,List.all_nil,Bool.and_true,Bool.and_eq_true] at hs
  refine (pi_range2 (glOf hg) (g.blt "range" (by decide)) ha (by rw [star a hs.1,star b hs.2]; rfl) (by rw [star b hs.2]; rfl)).imp fun σ H R q => ?_
  obtain ⟨B,O₀,O,ρ,vs,xs,st,e1,e2,q⟩:=q
  refine ⟨B,O₀,O,ρ,vs,st,e1,fun us H' s gs => ?_⟩
  match vs,e2,gs with
  | [.int i,.int j],e2,gs =>
   simp only [srcOf] at e2
   split at e2
   ·rename_i c
    cases e2
    obtain ⟨u,u',rfl,ru,ru'⟩:=p2 gs.1
    have e3:=ru.int
    have e4:=ru'.int
    subst e3 e4
    exact ⟨i,j,rfl,c,q _ _ s it_range⟩
   ·cases e2
  | [.int j],e2,gs =>
   have:=evs_len e1
   simp at this hm
   omega
end
end MM
namespace MM
open PySem PySem.Spec PyProof.Rows L2
noncomputable def tF (K:PySem.W.Frag) (cal:Cal) (me:ME):TE:=fun σ H Q => ∃ B O₀ O ρ xs,StOk K B O₀ O H ρ σ /\ ev cal me ρ = some (.lst xs) /\
 ∀ p us H',Same H H' -> H p = none -> H' p = some (.lst us) -> Reps K (hide H' (p :: O)) xs us -> Q (.ref p) H'
theorem hide_cons_le {H:Hp} {O:List Addr} {p:Addr}:Same (hide H (p :: O)) (hide H O):=hide_mono (Same.refl H) fun b hb => .inl (List.mem_cons_of_mem _ hb)
theorem hide_upd {H:Hp} {O:List Addr} {p:Addr} {o:HO} (h:p ∈ O):hide (upd H p o) O = hide H O:=by
 funext b
 unfold hide
 split
 ·rfl
 ·rename_i hb
  exact upd_ne fun z => hb (by rw [z]; exact h)
theorem got_new {K:PySem.W.Frag} {H H':Hp} {O:List Addr} {me:ME} {xs:List PV} {p:Addr} {us:List V} (hO:∀ a ∈ O,H a ≠ none) (hp:H p = none) (e:H' p = some (.lst us)) (r:Reps K (hide H' (p :: O)) xs us):Got K H' O me (.lst xs) (.ref p):=by
 refine .of ?_
 rw [Rep]
 refine ⟨p,us,rfl,SqL.of ?_,Reps.mono hide_cons_le _ r⟩
 rw [hide_out fun z => hO p z hp]
 exact e
section
variable {X:Cx} {T:Tab} {k:Nat} {cal:Cal}
theorem fresh_val {e:Expr} {me:ME} (hf:∀ ρ v,ev cal me ρ = some v -> ∃ xs,v = .lst xs) (h:PE X e (tF X.K cal me)):PE X e (tE X.K cal me):=by
 refine h.imp fun σ H Q q => ?_
 obtain ⟨B,O₀,O,ρ,v,st,e1,q⟩:=q
 obtain ⟨xs,rfl⟩:=hf ρ v e1
 exact ⟨B,O₀,O,ρ,xs,st,e1,fun p us H' s hp he r => q _ _ s (got_new st.here hp he r)⟩
theorem Gf.blk (g:Gf X T k cal) (x:Str) (fvs:List Str) (scope:Scope) (s₁:Shared) (H₁:Hp) (C:Addr) (fp:List Addr):Gf (X.blk x fvs scope s₁ H₁ C fp) T k cal:={ g with }
theorem compSc_of {osc:Scope} {N:List Str} {scope:Scope} {x:Str} {fvs:List Str} {js:List Nat} (h:compScB osc N scope x fvs js = true):CompSc osc N scope x fvs js:=by
 unfold compScB at h
 simp only [Bool.and_eq_true,beq_iff_eq,decide_eq_true_eq] at h
 obtain ⟨⟨⟨⟨⟨⟨⟨⟨h1,h2⟩,h3⟩,h4⟩,h5⟩,h6⟩,h7⟩,h8⟩,h9⟩:=h
 exact ⟨h1,h2,h3,h4,h5,h6,h7,h8,h9⟩
theorem blk_st {K:PySem.W.Frag} {B H H1 H2:Hp} {O₀ O:List Addr} {ρ:Rho} {σ σ':St} {js:List Nat} {D:Addr} {x:PV} {ux:V} (st:StOk K B O₀ O H ρ σ) (s1:Same H H1) (s2:Same H1 H2) (hD:H1 D = none) (hD2:H2 D ≠ none)
  (hσ:∀ z,σ'.set 0 z = (blk0 js σ).set 0 z) (hl:0 < σ'.length) (hx:Rep K (hide H2 (D :: O)) x ux):StOk K H1 [] (D :: O) H2 (blkR js ρ x) (σ'.set 0 (some ux)):=by
 have hv:Same (hide H O) (hide H2 (D :: O)):=hide_mono (s1.trans s2) fun b hb => by
  rcases List.mem_cons.mp hb with rfl | hb
  ·exact .inr (s1.free hD)
  ·exact .inl hb
 rw [hσ]
 have noown:∀ (i:Nat) (m:MV),ownM m = true -> (blkR js ρ x)[i]? ≠ some (some m):=fun i m hm e => by
  unfold blkR at e
  cases i with
  | zero =>
   simp at e
   subst e
   cases hm
  | succ i =>
   simp only [List.getElem?_cons_succ,List.getElem?_map,Option.map_eq_some_iff] at e
   obtain ⟨j,_,e⟩:=e
   cases hj:(ρ[j]?).join with
   | none => rw [hj] at e; cases e
   | some mm =>
    rw [hj] at e
    cases mm <;> first | (simp [capOf] at e; done) | (simp only [capOf,Option.some.injEq] at e; subst e; cases hm)
 refine ⟨s2,fun a ha => ?_,fun a ha => by simp at ha,fun a ha => by simp at ha,?_,fun i m e => ?_,fun i j m m' a _ e _ hm => absurd e (noown i m hm)
  ,inn_none fun i m e => by
   cases q:isL m with
   | false => rfl
   | true => exact absurd e (noown i m (by cases m <;> first | (cases q; done) | rfl))
  ⟩
 ·rcases List.mem_cons.mp ha with rfl | ha
  ·exact hD2
  ·exact fun e => st.here a ha ((s1.trans s2).free e)
 ·simp [blkR,blk0]
 ·cases i with
  | zero =>
   simp only [blkR,List.getElem?_cons_zero,Option.some.injEq] at e
   subst e
   exact ⟨ux,by simp [blk0],hx⟩
  | succ i =>
   simp only [blkR,List.getElem?_cons_succ,List.getElem?_map,Option.map_eq_some_iff] at e
   obtain ⟨j,ej,e⟩:=e
   cases hj:(ρ[j]?).join with
   | none => rw [hj] at e; cases e
   | some mm =>
    rw [hj] at e
    obtain ⟨u,eu,so⟩:=slot_of st hj
    have eσ:((blk0 js σ).set 0 (some ux))[i + 1]? = some (some u):=by
     simp [blk0,ej,eu]
    refine ⟨u,eσ,?_⟩
    cases mm with
    | val w =>
     simp only [capOf,Option.some.injEq] at e
     subst e
     exact Rep.mono hv _ so
    | own ys =>
     simp only [capOf,Option.some.injEq] at e
     subst e
     obtain ⟨a,us,rfl,ha,rs,hO,_⟩:=so
     exact ⟨a,us,rfl,SqL.of (s1 _ _ ha),Reps.mono hv _ rs⟩
    | brw ys =>
     simp only [capOf,Option.some.injEq] at e
     subst e
     obtain ⟨a,us,rfl,sq,rs⟩:=so
     exact ⟨a,us,rfl,(st.keep.trans s1).seq sq,Reps.mono hv _ rs⟩
    | ownD kvs =>
     simp only [capOf,Option.some.injEq] at e
     subst e
     obtain ⟨a,rfl,ha,_⟩:=so
     exact ⟨a,rfl,.inl (s1 _ _ ha)⟩
    | ownO _ fs ys =>
     simp only [capOf,Option.some.injEq] at e
     subst e
     obtain ⟨a,l,rfl,q⟩:=so
     exact ⟨a,rfl,q.lent.move s1 hv⟩
    | brwO fs ys =>
     simp only [capOf,Option.some.injEq] at e
     subst e
     obtain ⟨a,rfl,q⟩:=so
     exact ⟨a,rfl,q.move (st.keep.trans s1) hv⟩
    | brwD kvs =>
     simp only [capOf,Option.some.injEq] at e
     subst e
     obtain ⟨a,rfl,ha⟩:=so
     exact ⟨a,rfl,Same.rd (st.keep.trans s1) ha⟩
theorem compSc2_of {osc:Scope} {N:List Str} {scope:Scope} {x y:Str} {fvs:List Str} {js:List Nat} (h:compScB2 osc N scope x y fvs js = true):CompScG osc N scope x [y] fvs js /\ scope.names.lookup x = some .local /\ scope.names.lookup y = some .local:=by
 unfold compScB2 at h
 simp only [Bool.and_eq_true,beq_iff_eq,decide_eq_true_eq] at h
 obtain ⟨⟨⟨⟨⟨⟨⟨⟨⟨h1,h2⟩,h3⟩,h4⟩,h5⟩,h6⟩,h7⟩,h8⟩,h9⟩,h10⟩:=h
 refine ⟨⟨fun y hy e => ?_,.inl ⟨h2,h1⟩,h4,h5,h6,h7,h8,h9,h10⟩,h2,h3⟩
 have:y ∈ scope.names.filter fun y => y.2 == .cell:=List.mem_filter.mpr ⟨hy,by rw [e]; rfl⟩
 rw [h1] at this
 cases this
theorem StOk.fill {K:PySem.W.Frag} {B H:Hp} {O₀ O:List Addr} {ρ:Rho} {σ:St} (st:StOk K B O₀ O H ρ σ) {i:Nat} {v:PV} {u:V} (hi:i < σ.length) (r:Rep K (hide H O) v u):StOk K B O₀ O H (ρ.set i (some (.val v))) (σ.set i (some u)):=by
 have hi':i < ρ.length:=by rw [st.len]; exact hi
 have self:(ρ.set i (some (MV.val v)))[i]? = some (some (.val v)):=List.getElem?_set_self hi'
 refine ⟨st.keep,st.here,st.sub,st.old,by rw [List.length_set,List.length_set]; exact st.len,fun j m e => ?_,fun a b xs ys ad hab e1 e2 o1 o2 e3 e4 => ?_,inn_keep st.inn (fun j m0 e l0 => ?_) fun j m c e _ o es => .inl ?_⟩
 ·by_cases hj:i = j
  ·subst hj
   rw [self] at e
   cases e
   exact ⟨u,List.getElem?_set_self hi,r⟩
  ·rw [List.getElem?_set_ne hj] at e
   obtain ⟨w,e1,q⟩:=st.slot j m e
   exact ⟨w,by rw [List.getElem?_set_ne hj]; exact e1,q⟩
 ·have h1:i ≠ a:=fun z => by subst z; rw [self] at e1; cases e1; cases o1
  have h2:i ≠ b:=fun z => by subst z; rw [self] at e2; cases e2; cases o2
  rw [List.getElem?_set_ne h1] at e1 e3
  rw [List.getElem?_set_ne h2] at e2 e4
  exact st.apart a b xs ys ad hab e1 e2 o1 o2 e3 e4
 ·have hj:i ≠ j:=fun z => by subst z; rw [self] at e; cases e; cases l0
  rw [List.getElem?_set_ne hj] at e
  exact ⟨⟨m0,e,l0⟩,List.getElem?_set_ne hj,fun _ _ _ h => h⟩
 ·have hj:i ≠ j:=fun z => by subst z; rw [self] at e; cases e; cases o
  rw [List.getElem?_set_ne hj] at e es
  exact ⟨m,e,o,es⟩
theorem enm_pairs:∀ (ys:List PV) (n:Nat),∀ x ∈ enumFrom n ys,∃ a b,x = .tup [a,b]
 | [],_,x,h => by cases h
 | y :: ys,n,x,h => by
  rw [enumFrom] at h
  rcases List.mem_cons.mp h with rfl | h
  ·exact ⟨_,_,rfl⟩
  ·exact enm_pairs ys (n + 1) x h
theorem src_pairs {vs xs:List PV} (h:srcOf .enm vs = some xs):∀ x ∈ xs,∃ a b,x = .tup [a,b]:=by
 match vs,h with
 | [a],h =>
  simp only [srcOf,Option.map_eq_some_iff] at h
  obtain ⟨ys,_,rfl⟩:=h
  exact enm_pairs ys 0
noncomputable def g2 (K:PySem.W.Frag):TG:=gTup K 2 (gCons (gName 0) (gCons (gName 1) gNil))
theorem s_comp2 {ms:List ME} {js:List Nat} {cond elt:ME} {e it tg:Expr} {x y:Str} {ifs:List Expr} {scope:Scope} {pos:Pos} (g:Gf X T k cal) (hsc:compScB2 X.env.scope X.N scope x y (fvsOf X.N js) js = true)
  (hg:∀ s₁ H₁ C fp,PG (X.blk x ([y] ++ fvsOf X.N js) scope s₁ H₁ C fp) tg (g2 X.K)) (hw:PI X tg it (tW X.K cal .enm ms)) (hns:notSet it = true)
  (hc:∀ s₁ H₁ C fp,PF (X.blk x ([y] ++ fvsOf X.N js) scope s₁ H₁ C fp) ifs (tT X.K cal cond)) (he:∀ s₁ H₁ C fp,PE (X.blk x ([y] ++ fvsOf X.N js) scope s₁ H₁ C fp) e (tE X.K cal elt)) (hb:isBor elt = false) :
  PE X (.ListComp e [⟨tg,it,ifs,0⟩] scope pos) (tF X.K cal (.comp2 ms js cond elt)):=by
 refine (pe_compG (compSc2_of hsc).1 g.calm hg hw hc he (by intro v; cases it <;> first | rfl | (simp [notSet] at hns))).imp fun σ H Q q => ?_
 exact comp_go2 hb q
where
 comp_go2 {ms:List ME} {js:List Nat} {cond elt:ME} {K:PySem.W.Frag} {σ:St} {H:Hp} {Q:VK} (hb:isBor elt = false) (q:tF K cal (.comp2 ms js cond elt) σ H Q):tCompG (tW K cal .enm ms) (g2 K) 1 js (tT K cal cond) (tE K cal elt) σ H Q:=by
  obtain ⟨B,O₀,O,ρ,ws,st,e1,q⟩:=q
  rw [ev] at e1
  simp only [Option.bind_eq_some_iff] at e1
  obtain ⟨vs,e1,xs,e2,e3⟩:=e1
  split at e3
  ·rename_i hlen
   simp only [Option.map_eq_some_iff,PV.lst.injEq,exists_eq_right] at e3
   refine ⟨B,O₀,O,ρ,vs,xs,st,e1,e2,fun J H1 s1 it D hD => ?_⟩
   have hDO:D ∉ O:=fun z => here_mono s1 st.here D z hD
   have it1:=it.weak (guard_le (st.keep.trans s1))
   refine ⟨fun i m σ' H' => m = xs.length - i /\ i <= xs.length /\ Same H1 H' /\ (∀ z z',(σ'.set 0 z).set 1 z' = z :: z' :: js.map fun j => (σ[j]?).join) /\ 1 < σ'.length /\ ∃ done rest ys,compGo (fun x => (ev cal cond (blk2 js ρ x)).bind boolOf?) (fun x => ev cal elt (blk2 js ρ x)) (xs.drop i) = some rest /\ ws = done ++ rest /\ done.length <= i /\ H' D = some (.lst ys) /\ Reps K (hide H' (D :: O)) done ys,⟨xs.length,by simp,Nat.zero_le _,same_new hD _,fun _ _ => rfl,by simp [blkG],[],ws,[],by simpa using e3,rfl,Nat.le_refl _,upd_same,.nil⟩,?_⟩
   rintro i m σ' H' ⟨rfl,hi,s2,hσ,hl,done,rest,ys,eg,ew,hdl,hDy,rs⟩
   by_cases hlt:i < xs.length
   ·right
    have ex:xs[i]? = some xs[i]:=List.getElem?_eq_getElem hlt
    refine ⟨it1.go i _ H' s2 ex,fun σ2 H2 => ∃ m',m' < xs.length - i /\ (m' = xs.length - (i + 1) /\ i + 1 <= xs.length /\ Same H1 H2 /\ (∀ z z',(σ2.set 0 z).set 1 z' = z :: z' :: js.map fun j => (σ[j]?).join) /\ 1 < σ2.length /\ ∃ done rest ys,compGo (fun x => (ev cal cond (blk2 js ρ x)).bind boolOf?) (fun x => ev cal elt (blk2 js ρ x)) (xs.drop (i + 1)) = some rest /\ ws = done ++ rest /\ done.length <= i + 1 /\ H2 D = some (.lst ys) /\ Reps K (hide H2 (D :: O)) done ys),fun σ2 H2 z => z,fun ux H2 y => ?_⟩
    obtain ⟨s3,hr⟩:=it1.yld i _ H' ux H2 s2 ex y
    have sv:Same (hide H1 O) (hide H2 (D :: O)):=hide_mono (s2.trans s3) fun b hb => by
     rcases List.mem_cons.mp hb with rfl | hb
     ·exact .inr hD
     ·exact .inl hb
    have hx:=hr (D :: O) (fun a ha => by
     rcases List.mem_cons.mp ha with rfl | ha
     ·rw [hDy]; simp
     ·exact fun z => here_mono s1 st.here a ha (s2.free z)) sv
    have hD2:H2 D = some (.lst ys):=s3 _ _ hDy
    obtain ⟨p,w,exi⟩:=src_pairs e2 _ (List.mem_of_getElem? ex)
    rw [exi,Rep] at hx
    obtain ⟨ta,tus,rfl,tt1,tt2⟩:=hx
    rw [Reps] at tt2
    obtain ⟨up,r1,rfl,rp,tt2⟩:=tt2
    rw [Reps] at tt2
    obtain ⟨uw,r2,rfl,rw2,tt2⟩:=tt2
    rw [Reps] at tt2
    subst tt2
    have hσ0:∀ z,(σ'.set 1 none).set 0 z = (blk0 (σ.length :: js) σ).set 0 z:=fun z => by
     rw [List.set_comm _ _ (by decide),hσ]
     show _ = z :: (σ[σ.length]?).join :: _
     rw [List.getElem?_eq_none (Nat.le_refl _)]
     rfl
    have stb0:=blk_st (js:=σ.length :: js) (ρ:=ρ) (σ':=σ'.set 1 none) st s1 (s2.trans s3) hD (by rw [hD2]; simp) hσ0 (by rw [List.length_set]; omega) rp
    have stb1:=stb0.fill (i:=1) (by rw [List.length_set,List.length_set]; exact hl) rw2
    rw [List.set_comm (i:=1) (j:=0) _ _ (by decide),List.set_set] at stb1
    have stb:StOk K H1 [] (D :: O) H2 (blk2 js ρ xs[i]) ((σ'.set 0 (some up)).set 1 (some uw)):=by rw [exi]; exact stb1
    refine ⟨ta,[up,uw],rfl,(hide_le _ _).seqT (SqT.of tt1),rfl,up,[uw],rfl,?_⟩
    show gCons (gName 1) gNil [uw] (σ'.set 0 (some up)) H2 _
    refine ⟨uw,[],rfl,?_⟩
    unfold gName gNil
    refine ⟨rfl,?_⟩
    rw [List.drop_eq_getElem_cons hlt,compGo] at eg
    simp only [Option.bind_eq_some_iff] at eg
    obtain ⟨b,eb,eg⟩:=eg
    refine ⟨H1,[],D :: O,_,b,stb,by simpa [evB,Option.bind_eq_some_iff] using eb,fun H3 s4 => ?_⟩
    have hσ2:∀ z z',(((σ'.set 0 (some up)).set 1 (some uw)).set 0 z).set 1 z' = z :: z' :: js.map fun j => (σ[j]?).join:=fun z z' => by
     rw [List.set_comm (i:=1) (j:=0) _ _ (by decide),List.set_set,List.set_set]
     exact hσ z z'
    have hl2:1 < ((σ'.set 0 (some up)).set 1 (some uw)).length:=by rw [List.length_set,List.length_set]; exact hl
    cases b with
    | false =>
     rw [if_neg (by simp)] at eg
     dsimp only
     rw [if_neg (by simp)]
     refine ⟨_,by omega,rfl,hlt,(s2.trans s3).trans s4,hσ2,hl2,done,rest,ys,eg,ew,by omega,s4 _ _ hD2,Reps.mono ?_ _ rs⟩
     exact (hide_same s3).trans (hide_same s4)
    | true =>
     rw [if_pos rfl] at eg
     dsimp only
     rw [if_pos rfl]
     simp only [Option.bind_eq_some_iff,Option.map_eq_some_iff] at eg
     obtain ⟨y',ey,rest',eg,rfl⟩:=eg
     refine ⟨H1,[],D :: O,_,y',stb.mono s4,ey,fun uy H4 s5 gy => ?_⟩
     have hD4:H4 D = some (.lst ys):=s5 _ _ (s4 _ _ hD2)
     have ry:=gy.2 hb
     have rs4:Reps K (hide H4 (D :: O)) done ys:=Reps.mono (((hide_same s3).trans (hide_same s4)).trans (hide_same s5)) _ rs
     have hyl:ys.length <= 10000:=by rw [<- rs.length]; omega
     refine ⟨ys,hD4,Nat.lt_of_le_of_lt hyl (by decide),_,by omega,rfl,hlt,?_,hσ2,hl2,done ++ [y'],rest',ys ++ [uy],eg,by simp [ew],by simp; omega,upd_same,?_⟩
     ·intro b u eb
      rw [upd_ne (ne_of_none eb hD)]
      exact s5 _ _ (s4 _ _ ((s2.trans s3) _ _ eb))
     ·rw [hide_upd (List.mem_cons_self)]
      exact rs4.snoc ry
   ·left
    have ei:i = xs.length:=by omega
    subst ei
    rw [List.drop_length,compGo] at eg
    cases eg
    rw [List.append_nil] at ew
    subst ew
    exact ⟨it1.stop H' s2,q D ys H' (s1.trans s2) (s1.free hD) hDy rs⟩
  ·cases e3
theorem s_comp {k':Sk} {ms:List ME} {js:List Nat} {cond elt:ME} {e it:Expr} {x:Str} {px:Pos} {ifs:List Expr} {scope:Scope} {pos:Pos} (g:Gf X T k cal) (hsc:compScB X.env.scope X.N scope x (fvsOf X.N js) js = true)
  (hw:PI X (.Name x px) it (tW X.K cal k' ms)) (hns:notSet it = true)
  (hc:∀ s₁ H₁ C fp,PF (X.blk x (fvsOf X.N js) scope s₁ H₁ C fp) ifs (tT X.K cal cond)) (he:∀ s₁ H₁ C fp,PE (X.blk x (fvsOf X.N js) scope s₁ H₁ C fp) e (tE X.K cal elt)) (hb:isBor elt = false) :
  PE X (.ListComp e [⟨.Name x px,it,ifs,0⟩] scope pos) (tF X.K cal (.comp k' ms js cond elt)):=by
 refine (pe_comp (compSc_of hsc) g.calm hw hc he (by intro v; cases it <;> first | rfl | (simp [notSet] at hns))).imp fun σ H Q q => ?_
 exact comp_go hb q
where
 comp_go {k':Sk} {ms:List ME} {js:List Nat} {cond elt:ME} {K:PySem.W.Frag} {σ:St} {H:Hp} {Q:VK} (hb:isBor elt = false) (q:tF K cal (.comp k' ms js cond elt) σ H Q):tComp (tW K cal k' ms) js (tT K cal cond) (tE K cal elt) σ H Q:=by
  obtain ⟨B,O₀,O,ρ,ws,st,e1,q⟩:=q
  rw [ev] at e1
  simp only [Option.bind_eq_some_iff] at e1
  obtain ⟨vs,e1,xs,e2,e3⟩:=e1
  split at e3
  ·rename_i hlen
   simp only [Option.map_eq_some_iff,PV.lst.injEq,exists_eq_right] at e3
   refine ⟨B,O₀,O,ρ,vs,xs,st,e1,e2,fun J H1 s1 it D hD => ?_⟩
   have hDO:D ∉ O:=fun z => here_mono s1 st.here D z hD
   have it1:=it.weak (guard_le (st.keep.trans s1))
   refine ⟨fun i m σ' H' => m = xs.length - i /\ i <= xs.length /\ Same H1 H' /\ (∀ z,σ'.set 0 z = (blk0 js σ).set 0 z) /\ 0 < σ'.length /\ ∃ done rest ys,compGo (fun x => (ev cal cond (blkR js ρ x)).bind boolOf?) (fun x => ev cal elt (blkR js ρ x)) (xs.drop i) = some rest /\ ws = done ++ rest /\ done.length <= i /\ H' D = some (.lst ys) /\ Reps K (hide H' (D :: O)) done ys,⟨xs.length,by simp,Nat.zero_le _,same_new hD _,fun _ => rfl,by simp [blk0],[],ws,[],by simpa using e3,rfl,Nat.le_refl _,upd_same,.nil⟩,?_⟩
   rintro i m σ' H' ⟨rfl,hi,s2,hσ,hl,done,rest,ys,eg,ew,hdl,hDy,rs⟩
   by_cases hlt:i < xs.length
   ·right
    have ex:xs[i]? = some xs[i]:=List.getElem?_eq_getElem hlt
    refine ⟨it1.go i _ H' s2 ex,fun σ2 H2 => ∃ m',m' < xs.length - i /\ (m' = xs.length - (i + 1) /\ i + 1 <= xs.length /\ Same H1 H2 /\ (∀ z,σ2.set 0 z = (blk0 js σ).set 0 z) /\ 0 < σ2.length /\ ∃ done rest ys,compGo (fun x => (ev cal cond (blkR js ρ x)).bind boolOf?) (fun x => ev cal elt (blkR js ρ x)) (xs.drop (i + 1)) = some rest /\ ws = done ++ rest /\ done.length <= i + 1 /\ H2 D = some (.lst ys) /\ Reps K (hide H2 (D :: O)) done ys),fun σ2 H2 z => z,fun ux H2 y => ?_⟩
    obtain ⟨s3,hr⟩:=it1.yld i _ H' ux H2 s2 ex y
    have sv:Same (hide H1 O) (hide H2 (D :: O)):=hide_mono (s2.trans s3) fun b hb => by
     rcases List.mem_cons.mp hb with rfl | hb
     ·exact .inr hD
     ·exact .inl hb
    have hx:=hr (D :: O) (fun a ha => by
     rcases List.mem_cons.mp ha with rfl | ha
     ·rw [hDy]; simp
     ·exact fun z => here_mono s1 st.here a ha (s2.free z)) sv
    have hD2:H2 D = some (.lst ys):=s3 _ _ hDy
    have stb:=blk_st (js:=js) (ρ:=ρ) st s1 (s2.trans s3) hD (by rw [hD2]; simp) hσ hl hx
    rw [List.drop_eq_getElem_cons hlt,compGo] at eg
    simp only [Option.bind_eq_some_iff] at eg
    obtain ⟨b,eb,eg⟩:=eg
    refine ⟨H1,[],D :: O,_,b,stb,by simpa [evB,Option.bind_eq_some_iff] using eb,fun H3 s4 => ?_⟩
    have hσ2:∀ z,(σ'.set 0 (some ux)).set 0 z = (blk0 js σ).set 0 z:=fun z => by rw [List.set_set]; exact hσ z
    have hl2:0 < (σ'.set 0 (some ux)).length:=by rw [List.length_set]; exact hl
    cases b with
    | false =>
     rw [if_neg (by simp)] at eg
     dsimp only
     rw [if_neg (by simp)]
     refine ⟨_,by omega,rfl,hlt,(s2.trans s3).trans s4,hσ2,hl2,done,rest,ys,eg,ew,by omega,s4 _ _ hD2,Reps.mono ?_ _ rs⟩
     exact (hide_same s3).trans (hide_same s4)
    | true =>
     rw [if_pos rfl] at eg
     dsimp only
     rw [if_pos rfl]
     simp only [Option.bind_eq_some_iff,Option.map_eq_some_iff] at eg
     obtain ⟨y',ey,rest',eg,rfl⟩:=eg
     refine ⟨H1,[],D :: O,_,y',stb.mono s4,ey,fun uy H4 s5 gy => ?_⟩
     have hD4:H4 D = some (.lst ys):=s5 _ _ (s4 _ _ hD2)
     have ry:=gy.2 hb
     have rs4:Reps K (hide H4 (D :: O)) done ys:=Reps.mono (((hide_same s3).trans (hide_same s4)).trans (hide_same s5)) _ rs
     have hyl:ys.length <= 10000:=by rw [<- rs.length]; omega
     refine ⟨ys,hD4,Nat.lt_of_le_of_lt hyl (by decide),_,by omega,rfl,hlt,?_,hσ2,hl2,done ++ [y'],rest',ys ++ [uy],eg,by simp [ew],by simp; omega,upd_same,?_⟩
     ·intro b u eb
      rw [upd_ne (ne_of_none eb hD)]
      exact s5 _ _ (s4 _ _ ((s2.trans s3) _ _ eb))
     ·rw [hide_upd (List.mem_cons_self)]
      exact rs4.snoc ry
   ·left
    have ei:i = xs.length:=by omega
    subst ei
    rw [List.drop_length,compGo] at eg
    cases eg
    rw [List.append_nil] at ew
    subst ew
    exact ⟨it1.stop H' s2,q D ys H' (s1.trans s2) (s1.free hD) hDy rs⟩
  ·cases e3
end
end MM
namespace MM
open PySem PySem.Spec PyProof.Rows L2
section
variable {X:Cx} {T:Tab} {k:Nat} {cal:Cal}
theorem star1 {e:Expr} (he:notStar e = true) (es:List Expr) (env:Env):starEach (e :: es) env = (false,eval e env) :: starEach es env:=by
 cases e <;> first | rfl | (simp [notStar] at he)
theorem backTo_any {pos:Pos} {env:Env}:∀ {es:List Expr},es.all notStar = true -> (backTo pos (starEach es env)).any (·.1) = false
 | [],_ => rfl
 | e :: es,h => by
  simp only [List.all_cons,Bool.and_eq_true] at h
  rw [star1 h.1]
  show (false || (backTo pos (starEach es env)).any (·.1)) = false
  rw [backTo_any h.2]; rfl
theorem chks_star:∀ {ms:List ME} {N:List Str} {sc:Scope} {es:List Expr},chks T ms N sc es = true -> es.all notStar = true /\ ms.length = es.length
 | [],_,_,[],_ => ⟨rfl,rfl⟩
 | [],_,_,_ :: _,h => by simp [chks] at h
 | _ :: _,_,_,[],h => by simp [chks] at h
 | m :: ms,N,sc,e :: es,h => by
  simp only [chks,Bool.and_eq_true] at h
  obtain ⟨h1,h2⟩:=chks_star h.2
  exact ⟨by simp [h.1.2,h1],by simp [h2]⟩
theorem test_val {e:Expr} {me:ME} (h:PE X e (tE X.K cal me)) (hp:plainTest e = true):PT X e (tT X.K cal me):=by
 refine (pt_val h (by intro w; cases e <;> first | rfl | (simp [plainTest] at hp; done) | (rename_i op _ _; cases op <;> first | rfl | (simp [plainTest] at hp)))).imp fun σ H Q q => ?_
 obtain ⟨B,O₀,O,ρ,b,st,e1,q⟩:=q
 simp only [evB,Option.bind_eq_some_iff] at e1
 obtain ⟨v,e1,e2⟩:=e1
 refine ⟨B,O₀,O,ρ,v,st,e1,fun u H' s g => ?_⟩
 cases v <;> simp [boolOf?] at e2
 subst e2
 exact ⟨_,g.1.bl,q H' s⟩
theorem arg_cons {m:ME} {ms:List ME} {e:Expr} {es:List Expr} (h:PE X e (tE X.K cal m)) (hs:PA X es (tEs X.K cal ms)) (hn:notStar e = true):PA X (e :: es) (tEs X.K cal (m :: ms)):=by
 refine (pa_cons h hs (star1 hn es _)).imp fun σ H Q q => ?_
 obtain ⟨B,O₀,O,ρ,vs,st,e1,q⟩:=q
 simp only [evs,Option.bind_eq_some_iff,Option.map_eq_some_iff] at e1
 obtain ⟨v,e1,ws,e2,rfl⟩:=e1
 refine ⟨B,O₀,O,ρ,v,st,e1,fun u H1 s1 g1 => ⟨B,O₀,O,ρ,ws,st.mono s1,e2,fun us H2 s2 g2 => q (u :: us) H2 (s1.trans s2) ⟨.cons (g1.1.mono s2) g2.1,fun hb => ?_⟩⟩⟩
 simp only [List.all_cons,Bool.and_eq_true,Bool.not_eq_true'] at hb
 exact .cons ((g1.mono s2).2 hb.1) (g2.2 hb.2)
theorem arg_nil:PA X [] (tEs X.K cal []):=by
 refine pa_nil.imp fun σ H Q q => ?_
 obtain ⟨B,O₀,O,ρ,vs,st,e1,q⟩:=q
 simp only [evs,Option.some.injEq] at e1
 subst e1
 exact q [] H (Same.refl H) ⟨.nil,fun _ => .nil⟩
theorem call_nil:PA X [] (tAs X.K cal []):=by
 refine pa_nil.imp fun σ H Q q => ?_
 obtain ⟨B,O₀,O,ρ,vs,st,e1,q⟩:=q
 simp only [evA,Option.some.injEq] at e1
 subst e1
 exact q [] H (Same.refl H) .nil
theorem arg_mono {K:PySem.W.Frag} {H H':Hp} {O:List Addr} (s:Same H H') {m:MV} {u:V} (h:ArgOk K O H m u):ArgOk K O H' m u:=by
 cases m with
 | val v => exact Rep.mono (hide_same s) _ h
 | own _ => exact h
 | brw xs => obtain ⟨a,us,e,q,r⟩:=h; exact ⟨a,us,e,s.seq q,Reps.mono (hide_same s) _ r⟩
 | ownD _ => exact h
 | ownO _ _ _ => exact h
 | brwO fs xs => obtain ⟨a,e,q⟩:=h; exact ⟨a,e,q.move s (hide_same s)⟩
 | brwD kvs => obtain ⟨a,e,q⟩:=h; exact ⟨a,e,Same.rd s q⟩
theorem call_cons {m:ME} {ms:List ME} {e:Expr} {es:List Expr} (hb:isBor m = false) (h:PE X e (tE X.K cal m)) (hs:PA X es (tAs X.K cal ms)) (hn:notStar e = true):PA X (e :: es) (tAs X.K cal (m :: ms)):=by
 refine (pa_cons h hs (star1 hn es _)).imp fun σ H Q q => ?_
 obtain ⟨B,O₀,O,ρ,vs,st,e1,q⟩:=q
 have e1':(ev cal m ρ).bind (fun v => (evA cal ms ρ).map (MV.val v :: ·)) = some vs:=by
  rw [<- e1]
  cases m <;> first | (cases hb; done) | (simp only [evA]; done) | rfl
 simp only [Option.bind_eq_some_iff,Option.map_eq_some_iff] at e1'
 obtain ⟨v,e9,ws,e2,rfl⟩:=e1'
 exact ⟨B,O₀,O,ρ,v,st,e9,fun u H1 s1 g1 => ⟨B,O₀,O,ρ,ws,st.mono s1,e2,fun us H2 s2 g2 => q (u :: us) H2 (s1.trans s2) (.cons ((g1.mono s2).2 hb) g2)⟩⟩
theorem call_bor {i:Nat} {ms:List ME} {x:Str} {pos:Pos} {es:List Expr} (h:nameAt X.N X.env.scope i x = true) (hs:PA X es (tAs X.K cal ms)):PA X (.Name x pos :: es) (tAs X.K cal (.bor i :: ms)):=by
 refine (pa_cons (name_at h) hs rfl).imp fun σ H Q q => ?_
 obtain ⟨B,O₀,O,ρ,vs,st,e1,q⟩:=q
 rw [evA] at e1
 simp only [Option.bind_eq_some_iff,Option.map_eq_some_iff] at e1
 obtain ⟨m',e1,ws,e2,rfl⟩:=e1
 cases hj:(ρ[i]?).join with
 | none => rw [hj] at e1; cases e1
 | some m =>
  rw [hj] at e1
  obtain ⟨u,eu,so⟩:=slot_of st hj
  have ao:ArgOk X.K O H m' u:=by
   cases m with
   | val w => simp only [argOf,Option.some.injEq] at e1; subst e1; exact so
   | own ys => simp only [argOf,Option.some.injEq] at e1; subst e1; obtain ⟨a,us,rfl,ha,rs,_⟩:=so; exact ⟨a,us,rfl,SqL.of ha,rs⟩
   | brw ys => simp only [argOf,Option.some.injEq] at e1; subst e1; obtain ⟨a,us,rfl,sq,rs⟩:=so; exact ⟨a,us,rfl,st.keep.seq sq,rs⟩
   | ownD kvs => simp only [argOf,Option.some.injEq] at e1; subst e1; obtain ⟨a,rfl,ha,_⟩:=so; exact ⟨a,rfl,.inl ha⟩
   | ownO _ fs ys => simp only [argOf,Option.some.injEq] at e1; subst e1; obtain ⟨a,l,rfl,q⟩:=so; exact ⟨a,rfl,q.lent⟩
   | brwO fs ys => simp only [argOf,Option.some.injEq] at e1; subst e1; obtain ⟨a,rfl,q⟩:=so; exact ⟨a,rfl,q.move st.keep (Same.refl _)⟩
   | brwD kvs => simp only [argOf,Option.some.injEq] at e1; subst e1; obtain ⟨a,rfl,ha⟩:=so; exact ⟨a,rfl,Same.rd st.keep ha⟩
  exact ⟨u,eu,⟨B,O₀,O,ρ,ws,st,e2,fun us H2 s2 g2 => q (u :: us) H2 s2 (.cons (arg_mono s2 ao) g2)⟩⟩
theorem s_bin {op:Op2} {a b:ME} {l r:Expr} {pos:Pos} (ha:PE X l (tE X.K cal a)) (hb:PE X r (tE X.K cal b)):PE X (.BinOp l (opOf op) r pos) (tE X.K cal (.bin op a b)):=by
 refine (pe_op (op_bin op) ha hb).imp fun σ H Q q => ?_
 obtain ⟨B,O₀,O,ρ,v,st,e1,q⟩:=q
 rw [ev] at e1
 simp only [Option.bind_eq_some_iff] at e1
 obtain ⟨x,e1,y,e2,e3⟩:=e1
 exact ⟨B,O₀,O,ρ,x,st,e1,fun ux H1 s1 g1 => ⟨B,O₀,O,ρ,y,st.mono s1,e2,fun uy H2 s2 g2 => ⟨O,x,y,v,here_mono (s1.trans s2) st.here,g1.1.mono s2,g2.1,e3,fun u H3 s3 r => q u H3 ((s1.trans s2).trans s3) (.of r)⟩⟩⟩
theorem s_not {a:ME} {e:Expr} {pos:Pos} (ha:PE X e (tE X.K cal a)):PE X (.UnaryOp .Not e pos) (tE X.K cal (.not a)):=by
 refine (pe_not ha).imp fun σ H Q q => ?_
 obtain ⟨B,O₀,O,ρ,v,st,e1,q⟩:=q
 rw [ev] at e1
 simp only [Option.bind_eq_some_iff,Option.map_eq_some_iff] at e1
 obtain ⟨b,⟨x,e1,e2⟩,rfl⟩:=e1
 cases x <;> simp only [boolOf?,Option.some.injEq,reduceCtorEq] at e2
 subst e2
 exact ⟨B,O₀,O,ρ,_,st,e1,fun ux H1 s1 g1 => ⟨_,g1.1.bl,q _ H1 s1 (.of (rep_bl _ _))⟩⟩
theorem t_not {a:ME} {e:Expr} {pos:Pos} (ha:PT X e (tT X.K cal a)):PT X (.UnaryOp .Not e pos) (tT X.K cal (.not a)):=by
 refine (pt_not ha).imp fun σ H Q q => ?_
 obtain ⟨B,O₀,O,ρ,b,st,e1,q⟩:=q
 simp only [evB,ev,Option.bind_eq_some_iff,Option.map_eq_some_iff] at e1
 obtain ⟨v,⟨c,⟨x,e1,e2⟩,rfl⟩,e3⟩:=e1
 simp only [boolOf?,Option.some.injEq] at e3
 subst e3
 exact ⟨B,O₀,O,ρ,c,st,by simp [evB,e1,e2],fun H' s => q H' s⟩
theorem s_and {a b:ME} {x y:Expr} {r:List Expr} {pos:Pos} (ha:PE X x (tE X.K cal a)) (hb:PE X (.BoolOp .And (y :: r) pos) (tE X.K cal b)):PE X (.BoolOp .And (x :: y :: r) pos) (tE X.K cal (.and a b)):=by
 refine (pe_and ha hb).imp fun σ H Q q => ?_
 obtain ⟨B,O₀,O,ρ,v,st,e1,q⟩:=q
 rw [ev] at e1
 simp only [Option.bind_eq_some_iff] at e1
 obtain ⟨c,⟨z,e1,e2⟩,e3⟩:=e1
 cases z <;> simp only [boolOf?,Option.some.injEq,reduceCtorEq] at e2
 subst e2
 refine ⟨B,O₀,O,ρ,_,st,e1,fun ux H1 s1 g1 => ⟨_,g1.1.bl,?_⟩⟩
 split at e3
 ·rename_i h
  rw [if_pos h]
  simp only [Option.bind_eq_some_iff,Option.map_eq_some_iff] at e3
  obtain ⟨z',e3,c',e4,rfl⟩:=e3
  cases z' <;> simp only [boolOf?,Option.some.injEq,reduceCtorEq] at e4
  subst e4
  exact ⟨B,O₀,O,ρ,_,st.mono s1,e3,fun u H2 s2 g2 => q u H2 (s1.trans s2) (by rw [g2.1.bl]; exact .of (rep_bl _ _))⟩
 ·rename_i h
  rw [if_neg h]
  cases e3
  exact q _ H1 s1 (.of (rep_bl _ _))
theorem s_or {a b:ME} {x y:Expr} {r:List Expr} {pos:Pos} (ha:PE X x (tE X.K cal a)) (hb:PE X (.BoolOp .Or (y :: r) pos) (tE X.K cal b)):PE X (.BoolOp .Or (x :: y :: r) pos) (tE X.K cal (.or a b)):=by
 refine (pe_or ha hb).imp fun σ H Q q => ?_
 obtain ⟨B,O₀,O,ρ,v,st,e1,q⟩:=q
 rw [ev] at e1
 simp only [Option.bind_eq_some_iff] at e1
 obtain ⟨c,⟨z,e1,e2⟩,e3⟩:=e1
 cases z <;> simp only [boolOf?,Option.some.injEq,reduceCtorEq] at e2
 subst e2
 refine ⟨B,O₀,O,ρ,_,st,e1,fun ux H1 s1 g1 => ⟨_,g1.1.bl,?_⟩⟩
 split at e3
 ·rename_i h
  rw [if_pos h]
  cases e3
  exact q _ H1 s1 (.of (rep_bl _ _))
 ·rename_i h
  rw [if_neg h]
  simp only [Option.bind_eq_some_iff,Option.map_eq_some_iff] at e3
  obtain ⟨z',e3,c',e4,rfl⟩:=e3
  cases z' <;> simp only [boolOf?,Option.some.injEq,reduceCtorEq] at e4
  subst e4
  exact ⟨B,O₀,O,ρ,_,st.mono s1,e3,fun u H2 s2 g2 => q u H2 (s1.trans s2) (by rw [g2.1.bl]; exact .of (rep_bl _ _))⟩
theorem pw_of {op:BoolOp} {vs:List Expr} {pos:Pos} {t:TT} (h:PT X (.BoolOp op vs pos) t):PW X (.BoolOp op vs pos) t:=fun w pins s σ H Q I q => by
 have:=h pins s σ H Q I q
 rw [show PySem.isTrue (.BoolOp op vs pos) X.env w = PySem.isTrue (.BoolOp op vs pos) X.env (eval (.BoolOp op vs pos) X.env) from rfl]
 exact this
theorem t_and {a b:ME} {x y:Expr} {r:List Expr} {pos:Pos} (ha:PT X x (tT X.K cal a)) (hb:PW X (.BoolOp .And (y :: r) pos) (tT X.K cal b)):PT X (.BoolOp .And (x :: y :: r) pos) (tT X.K cal (.and a b)):=by
 refine (pw_and ha hb).pt.imp fun σ H Q q => ?_
 obtain ⟨B,O₀,O,ρ,v,st,e1,q⟩:=q
 simp only [evB,ev,Option.bind_eq_some_iff] at e1
 obtain ⟨w,⟨c,⟨z,e1,e2⟩,e3⟩,e4⟩:=e1
 refine ⟨B,O₀,O,ρ,c,st,by simp [evB,e1,e2],fun H1 s1 => ?_⟩
 split at e3
 ·rename_i h
  rw [if_pos h]
  simp only [Option.bind_eq_some_iff,Option.map_eq_some_iff] at e3
  obtain ⟨z',e3,c',e5,rfl⟩:=e3
  simp only [boolOf?,Option.some.injEq] at e4
  subst e4
  exact ⟨B,O₀,O,ρ,_,st.mono s1,by simp [evB,e3,e5],fun H2 s2 => q H2 (s1.trans s2)⟩
 ·rename_i h
  rw [if_neg h]
  cases e3
  cases e4
  exact q H1 s1
theorem t_or {a b:ME} {x y:Expr} {r:List Expr} {pos:Pos} (ha:PT X x (tT X.K cal a)) (hb:PW X (.BoolOp .Or (y :: r) pos) (tT X.K cal b)):PT X (.BoolOp .Or (x :: y :: r) pos) (tT X.K cal (.or a b)):=by
 refine (pw_or ha hb).pt.imp fun σ H Q q => ?_
 obtain ⟨B,O₀,O,ρ,v,st,e1,q⟩:=q
 simp only [evB,ev,Option.bind_eq_some_iff] at e1
 obtain ⟨w,⟨c,⟨z,e1,e2⟩,e3⟩,e4⟩:=e1
 refine ⟨B,O₀,O,ρ,c,st,by simp [evB,e1,e2],fun H1 s1 => ?_⟩
 split at e3
 ·rename_i h
  rw [if_pos h]
  cases e3
  cases e4
  exact q H1 s1
 ·rename_i h
  rw [if_neg h]
  simp only [Option.bind_eq_some_iff,Option.map_eq_some_iff] at e3
  obtain ⟨z',e3,c',e5,rfl⟩:=e3
  simp only [boolOf?,Option.some.injEq] at e4
  subst e4
  exact ⟨B,O₀,O,ρ,_,st.mono s1,by simp [evB,e3,e5],fun H2 s2 => q H2 (s1.trans s2)⟩
theorem s_ite {c a b:ME} {t x y:Expr} {pos:Pos} (hc:PT X t (tT X.K cal c)) (ha:PE X x (tE X.K cal a)) (hb:PE X y (tE X.K cal b)) (na:isBor a = false) (nb:isBor b = false):PE X (.IfExp t x y pos) (tE X.K cal (.ite c a b)):=by
 refine (pe_ifExp hc ha hb).imp fun σ H Q q => ?_
 obtain ⟨B,O₀,O,ρ,v,st,e1,q⟩:=q
 rw [ev] at e1
 simp only [Option.bind_eq_some_iff] at e1
 obtain ⟨k',e1,e3⟩:=e1
 refine ⟨B,O₀,O,ρ,k',st,by simpa [evB,Option.bind_eq_some_iff] using e1,fun H1 s1 => ?_⟩
 split at e3
 ·rename_i h
  rw [if_pos h]
  exact ⟨B,O₀,O,ρ,v,st.mono s1,e3,fun u H2 s2 g2 => q u H2 (s1.trans s2) (.of (g2.2 na))⟩
 ·rename_i h
  rw [if_neg h]
  exact ⟨B,O₀,O,ρ,v,st.mono s1,e3,fun u H2 s2 g2 => q u H2 (s1.trans s2) (.of (g2.2 nb))⟩
theorem t_ite {c a b:ME} {t x y:Expr} {pos:Pos} (hc:PT X t (tT X.K cal c)) (ha:PT X x (tT X.K cal a)) (hb:PT X y (tT X.K cal b)):PT X (.IfExp t x y pos) (tT X.K cal (.ite c a b)):=by
 intro pins s σ H Q I q
 obtain ⟨B,O₀,O,ρ,v,st,e1,q⟩:=q
 simp only [evB,ev,Option.bind_eq_some_iff] at e1
 obtain ⟨w,⟨k',e1,e3⟩,e4⟩:=e1
 refine isTrue_IfExp (thn (hc pins s σ H (fun b H1 => b = k' /\ Same H H1) I ⟨B,O₀,O,ρ,k',st,by simpa [evB,Option.bind_eq_some_iff] using e1,fun H1 s1 => ⟨rfl,s1⟩⟩) fun b s1 ⟨H1,I1,eb,hs⟩ => ?_)
 subst eb
 split at e3
 ·rename_i h
  subst h
  exact ha pins s1 σ H1 Q I1 ⟨B,O₀,O,ρ,v,st.mono hs,by simp [evB,e3,e4],fun H2 s2 => q H2 (hs.trans s2)⟩
 ·rename_i h
  have:b = false:=by cases b <;> simp at h ⊢
  subst this
  exact hb pins s1 σ H1 Q I1 ⟨B,O₀,O,ρ,v,st.mono hs,by simp [evB,e3,e4],fun H2 s2 => q H2 (hs.trans s2)⟩
theorem s_cmp {op:Cp} {a b:ME} {l r:Expr} {pos:Pos} (g:Gf X T k cal) (ha:PE X l (tE X.K cal a)) (hb:PE X r (tE X.K cal b)) (hm:behindInMarks (cpOf op) r = false):PE X (.Compare l [cpOf op] [r] pos) (tE X.K cal (.cmp op a b)) /\ PT X (.Compare l [cpOf op] [r] pos) (tT X.K cal (.cmp op a b)):=by
 refine ⟨(pe_cmpR (op_cmp g.units op) ha hb hm).imp fun σ H Q q => ?_,(pt_cmpR (op_cmp g.units op) ha hb hm).imp fun σ H Q q => ?_⟩
 ·obtain ⟨B,O₀,O,ρ,v,st,e1,q⟩:=q
  rw [ev] at e1
  simp only [Option.bind_eq_some_iff,Option.map_eq_some_iff] at e1
  obtain ⟨x,e1,y,e2,c,e3,rfl⟩:=e1
  exact ⟨B,O₀,O,ρ,x,st,e1,fun ux H1 s1 g1 => ⟨B,O₀,O,ρ,y,st.mono s1,e2,fun uy H2 s2 g2 => ⟨O,x,y,c,g1.1.mono s2,g2.1,e3,q _ H2 (s1.trans s2) (.of (rep_bl _ _))⟩⟩⟩
 ·obtain ⟨B,O₀,O,ρ,v,st,e1,q⟩:=q
  simp only [evB,ev,Option.bind_eq_some_iff,Option.map_eq_some_iff] at e1
  obtain ⟨w,⟨x,e1,y,e2,c,e3,rfl⟩,e4⟩:=e1
  simp only [boolOf?,Option.some.injEq] at e4
  subst e4
  exact ⟨B,O₀,O,ρ,x,st,e1,fun ux H1 s1 g1 => ⟨B,O₀,O,ρ,y,st.mono s1,e2,fun uy H2 s2 g2 => ⟨O,x,y,c,g1.1.mono s2,g2.1,e3,_,rfl,q H2 (s1.trans s2)⟩⟩⟩
theorem s_chain {op op':Cp} {a b c:ME} {l m r:Expr} {pos:Pos} (g:Gf X T k cal) (ha:PE X l (tE X.K cal a)) (hb:PE X m (tE X.K cal b)) (hc:PE X r (tE X.K cal c)) (hm:lastMarks [cpOf op,cpOf op'] [m,r] = false) :
  PE X (.Compare l [cpOf op,cpOf op'] [m,r] pos) (tE X.K cal (.chain op op' a b c)) /\ PT X (.Compare l [cpOf op,cpOf op'] [m,r] pos) (tT X.K cal (.chain op op' a b c)):=by
 refine ⟨(pe_chain (op_cmp g.units op) (op_cmp g.units op') ha hb hc hm).imp fun σ H Q q => ?_,(pt_chain (op_cmp g.units op) (op_cmp g.units op') ha hb hc hm).imp fun σ H Q q => ?_⟩
 ·obtain ⟨B,O₀,O,ρ,v,st,e1,q⟩:=q
  rw [ev] at e1
  simp only [Option.bind_eq_some_iff] at e1
  obtain ⟨x,e1,y,e2,c',e3,e4⟩:=e1
  refine ⟨B,O₀,O,ρ,x,st,e1,fun ux H1 s1 g1 => ⟨B,O₀,O,ρ,y,st.mono s1,e2,fun uy H2 s2 g2 => ⟨O,x,y,c',g1.1.mono s2,g2.1,e3,_,rfl,?_⟩⟩⟩
  split at e4
  ·rename_i h
   rw [if_pos h]
   simp only [Option.bind_eq_some_iff,Option.map_eq_some_iff] at e4
   obtain ⟨z,e4,d,e5,rfl⟩:=e4
   exact ⟨B,O₀,O,ρ,z,(st.mono s1).mono s2,e4,fun uz H3 s3 g3 => ⟨O,y,z,d,g2.1.mono s3,g3.1,e5,q _ H3 ((s1.trans s2).trans s3) (.of (rep_bl _ _))⟩⟩
  ·rename_i h
   rw [if_neg h]
   cases e4
   exact q _ H2 (s1.trans s2) (.of (rep_bl _ _))
 ·obtain ⟨B,O₀,O,ρ,v,st,e1,q⟩:=q
  simp only [evB,ev,Option.bind_eq_some_iff] at e1
  obtain ⟨w,⟨x,e1,y,e2,c',e3,e4⟩,e6⟩:=e1
  refine ⟨B,O₀,O,ρ,x,st,e1,fun ux H1 s1 g1 => ⟨B,O₀,O,ρ,y,st.mono s1,e2,fun uy H2 s2 g2 => ⟨O,x,y,c',g1.1.mono s2,g2.1,e3,_,rfl,?_⟩⟩⟩
  split at e4
  ·rename_i h
   rw [if_pos h]
   simp only [Option.bind_eq_some_iff,Option.map_eq_some_iff] at e4
   obtain ⟨z,e4,d,e5,rfl⟩:=e4
   simp only [boolOf?,Option.some.injEq] at e6
   subst e6
   exact ⟨B,O₀,O,ρ,z,(st.mono s1).mono s2,e4,fun uz H3 s3 g3 => ⟨O,y,z,d,g2.1.mono s3,g3.1,e5,_,rfl,q H3 ((s1.trans s2).trans s3)⟩⟩
  ·rename_i h
   rw [if_neg h]
   cases e4
   cases e6
   exact ⟨_,rfl,q H2 (s1.trans s2)⟩
theorem s_tup {ms:List ME} {es:List Expr} {j:Nat} {pos:Pos} (h:PA X es (tEs X.K cal ms)) (hb:(ms.all fun m => !isBor m) = true):PE X (.Tuple es j pos) (tE X.K cal (.tup ms)):=by
 refine (pe_tup h).imp fun σ H Q q => ?_
 obtain ⟨B,O₀,O,ρ,v,st,e1,q⟩:=q
 rw [ev] at e1
 simp only [Option.bind_eq_some_iff] at e1
 obtain ⟨vs,e1,e2⟩:=e1
 split at e2
 ·rename_i hl
  cases e2
  refine ⟨B,O₀,O,ρ,vs,st,e1,fun us H1 s1 g1 => ⟨?_,fun p hp => ?_⟩⟩
  ·rw [<- (g1.2 hb).length]; exact size10000 hl
  ·exact q _ _ (s1.trans (same_new hp _)) (.of (rep_newT (here_mono s1 st.here) hp (g1.2 hb)))
 ·cases e2
theorem s_lst {ms:List ME} {es:List Expr} {pos:Pos} (h:PA X es (tEs X.K cal ms)) (hb:(ms.all fun m => !isBor m) = true):PE X (.List es pos) (tF X.K cal (.lst ms)):=by
 refine (pe_lst h).imp fun σ H Q q => ?_
 obtain ⟨B,O₀,O,ρ,xs,st,e1,q⟩:=q
 rw [ev] at e1
 simp only [Option.bind_eq_some_iff] at e1
 obtain ⟨vs,e1,e2⟩:=e1
 split at e2
 ·rename_i hl
  cases e2
  refine ⟨B,O₀,O,ρ,xs,st,e1,fun us H1 s1 g1 => ⟨?_,fun p hp => ?_⟩⟩
  ·rw [<- (g1.2 hb).length]; exact size10000 hl
  ·refine q p us _ (s1.trans (same_new hp _)) (s1.free hp) upd_same ?_
   rw [hide_upd (List.mem_cons_self)]
   refine Reps.mono (hide_mono (Same.refl H1) fun b hb => ?_) _ (g1.2 hb)
   rcases List.mem_cons.mp hb with rfl | hb
   ·exact .inr hp
   ·exact .inl hb
 ·cases e2
theorem s_idx {a i:ME} {v s:Expr} {pos:Pos} (ha:PE X v (tE X.K cal a)) (hi:PE X s (tE X.K cal i)) (hs:notSlice s = true):PE X (.Subscript v s pos) (tE X.K cal (.idx a i)):=by
 refine (pe_ix ix_val ha hi (plainIx_of hs)).imp fun σ H Q q => ?_
 obtain ⟨B,O₀,O,ρ,v,st,e1,q⟩:=q
 rw [ev] at e1
 simp only [Option.bind_eq_some_iff] at e1
 obtain ⟨x,e1,y,e2,e3⟩:=e1
 exact ⟨B,O₀,O,ρ,x,st,e1,fun ux H1 s1 g1 => ⟨B,O₀,O,ρ,y,st.mono s1,e2,fun uy H2 s2 g2 => ⟨O,x,y,v,here_mono (s1.trans s2) st.here,g1.1.mono s2,g2.1,e3,fun u H3 s3 r => q u H3 ((s1.trans s2).trans s3) (.of r)⟩⟩⟩
noncomputable def tB1 (K:PySem.W.Frag) (cal:Cal) (me:ME):TO:=fun σ H Q => ∃ B O₀ O ρ o,StOk K B O₀ O H ρ σ /\ ((ev cal me ρ).bind fun v => bnd me v) = some o /\ ∀ H',Same H H' -> Q o H'
theorem b_none {m:ME} (h:isNonE m = true):PO X none (tB1 X.K cal m):=by
 have e:m = .cst .non:=by
  unfold isNonE at h
  split at h
  ·rfl
  ·cases h
 subst e
 intro pins s σ H Q I q
 obtain ⟨B,O₀,O,ρ,o,st,e1,q⟩:=q
 simp only [ev,Option.bind_some,bnd,Option.some.injEq] at e1
 subst e1
 exact po_none pins s σ H Q I (q H (Same.refl H))
theorem b_some {m:ME} {l:Expr} (h:PE X l (tE X.K cal m)) (hn:isNonE m = false):PO X (some l) (tB1 X.K cal m):=by
 intro pins s σ H Q I q
 obtain ⟨B,O₀,O,ρ,o,st,e1,q⟩:=q
 simp only [Option.bind_eq_some_iff] at e1
 obtain ⟨v,e1,e2⟩:=e1
 obtain ⟨i,rfl,rfl⟩:∃ i,v = .int i /\ o = some i:=by
  unfold bnd at e2
  split at e2
  ·simp [isNonE] at hn
  ·cases e2; exact ⟨_,rfl,rfl⟩
  ·cases e2
 exact po_some h pins s σ H Q I ⟨B,O₀,O,ρ,_,st,e1,fun u H' s' g => ⟨i,g.1.int,q H' s'⟩⟩
theorem s_slice {a lo hi:ME} {v:Expr} {l u:Option Expr} {p2 pos:Pos} (ha:PE X v (tE X.K cal a)) (hl:PO X l (tB1 X.K cal lo)) (hu:PO X u (tB1 X.K cal hi)):PE X (.Subscript v (.Slice l u none p2) pos) (tE X.K cal (.slice a lo hi)):=by
 refine (pe_slice sl_val ha hl hu).imp fun σ H Q q => ?_
 obtain ⟨B,O₀,O,ρ,w,st,e1,q⟩:=q
 rw [ev,Option.bind_eq_some_iff] at e1
 obtain ⟨x,e1,e2⟩:=e1
 rw [Option.bind_eq_some_iff] at e2
 obtain ⟨lo',e2,e3⟩:=e2
 rw [Option.bind_eq_some_iff] at e3
 obtain ⟨hi',e3,e4⟩:=e3
 exact ⟨B,O₀,O,ρ,x,st,e1,fun ux H1 s1 g1 => ⟨B,O₀,O,ρ,lo',st.mono s1,e2,fun H2 s2 => ⟨B,O₀,O,ρ,hi',(st.mono s1).mono s2,e3,fun H3 s3 =>
  ⟨O,x,w,here_mono ((s1.trans s2).trans s3) st.here,g1.1.mono (s2.trans s3),e4,fun u H4 s4 r => q u H4 (((s1.trans s2).trans s3).trans s4) (.of r)⟩⟩⟩⟩
theorem s_blt {f:Blt} {ms:List ME} {x:Str} {e:Expr} {es:List Expr} {p pos:Pos} {id:String} (hc:CallR X (.builtin id) (RBM X.K (bltOp f))) (hg:glB X.env.scope x = true) (hm:X.mg x = none) (hv:bootBuiltins x = some (.builtin id)) (hn:x ≠ "__name__") (hd:(x == ("__debug__":Str)) = false)
  (ha:PA X (e :: es) (tEs X.K cal ms)) (hs:(e :: es).all notStar = true):PE X (.Call (.Name x p) (e :: es) [] pos) (tE X.K cal (.blt f ms)):=by
 simp only [List.all_cons,Bool.and_eq_true] at hs
 refine (pe_callB hc (glOf hg) hm hv ha hn hd (star1 hs.1 es _) (backTo_any hs.2)).imp fun σ H Q q => ?_
 obtain ⟨B,O₀,O,ρ,v,st,e1,q⟩:=q
 rw [ev,Option.bind_eq_some_iff] at e1
 obtain ⟨vs,e1,e2⟩:=e1
 exact ⟨B,O₀,O,ρ,vs,st,e1,fun us H1 s1 g1 => ⟨O,vs,v,here_mono s1 st.here,g1.1,e2,fun u H2 s2 r => q u H2 (s1.trans s2) (.of r)⟩⟩
theorem s_bltT {f:Blt} {ms:List ME} {x:Str} {e:Expr} {es:List Expr} {p pos:Pos} {id:String} (hc:CallR X (.type id) (RBM X.K (bltOp f))) (hg:glB X.env.scope x = true) (hm:X.mg x = none) (hv:bootBuiltins x = some (.type id)) (hn:x ≠ "__name__") (hd:(x == ("__debug__":Str)) = false)
  (ha:PA X (e :: es) (tEs X.K cal ms)) (hs:(e :: es).all notStar = true):PE X (.Call (.Name x p) (e :: es) [] pos) (tE X.K cal (.blt f ms)):=by
 simp only [List.all_cons,Bool.and_eq_true] at hs
 refine (pe_callTy hc (glOf hg) hm hv ha hn hd (star1 hs.1 es _) (backTo_any hs.2)).imp fun σ H Q q => ?_
 obtain ⟨B,O₀,O,ρ,v,st,e1,q⟩:=q
 rw [ev,Option.bind_eq_some_iff] at e1
 obtain ⟨vs,e1,e2⟩:=e1
 exact ⟨B,O₀,O,ρ,vs,st,e1,fun us H1 s1 g1 => ⟨O,vs,v,here_mono s1 st.here,g1.1,e2,fun u H2 s2 r => q u H2 (s1.trans s2) (.of r)⟩⟩
theorem fresh_rbf {f:Blt} {ms:List ME} {σ:St} {H:Hp} {Q:VK} {K:PySem.W.Frag} (q:tF K cal (.blt f ms) σ H Q):tCB (RBF K (bltOp f)) (tEs K cal ms) σ H Q:=by
 obtain ⟨B,O₀,O,ρ,xs,st,e1,q⟩:=q
 rw [ev,Option.bind_eq_some_iff] at e1
 obtain ⟨vs,e1,e2⟩:=e1
 refine ⟨B,O₀,O,ρ,vs,st,e1,fun us H1 s1 g1 => ⟨O,vs,xs,here_mono s1 st.here,g1.1,e2,fun l ws hl r => q l ws _ (s1.trans (same_new hl _)) (s1.free hl) upd_same ?_⟩⟩
 rw [hide_upd (List.mem_cons_self)]
 refine Reps.mono (hide_mono (Same.refl H1) fun b hb => ?_) _ r
 rcases List.mem_cons.mp hb with rfl | hb
 ·exact .inr hl
 ·exact .inl hb
theorem s_bltF {f:Blt} {ms:List ME} {x:Str} {e:Expr} {es:List Expr} {p pos:Pos} {id:String} (hc:CallR X (.builtin id) (RBF X.K (bltOp f))) (hg:glB X.env.scope x = true) (hm:X.mg x = none) (hv:bootBuiltins x = some (.builtin id)) (hn:x ≠ "__name__") (hd:(x == ("__debug__":Str)) = false)
  (ha:PA X (e :: es) (tEs X.K cal ms)) (hs:(e :: es).all notStar = true):PE X (.Call (.Name x p) (e :: es) [] pos) (tF X.K cal (.blt f ms)):=by
 simp only [List.all_cons,Bool.and_eq_true] at hs
 exact (pe_callB hc (glOf hg) hm hv ha hn hd (star1 hs.1 es _) (backTo_any hs.2)).imp fun σ H Q q => fresh_rbf q
theorem s_bltTF {f:Blt} {ms:List ME} {x:Str} {e:Expr} {es:List Expr} {p pos:Pos} {id:String} (hc:CallR X (.type id) (RBF X.K (bltOp f))) (hg:glB X.env.scope x = true) (hm:X.mg x = none) (hv:bootBuiltins x = some (.type id)) (hn:x ≠ "__name__") (hd:(x == ("__debug__":Str)) = false)
  (ha:PA X (e :: es) (tEs X.K cal ms)) (hs:(e :: es).all notStar = true):PE X (.Call (.Name x p) (e :: es) [] pos) (tF X.K cal (.blt f ms)):=by
 simp only [List.all_cons,Bool.and_eq_true] at hs
 exact (pe_callTy hc (glOf hg) hm hv ha hn hd (star1 hs.1 es _) (backTo_any hs.2)).imp fun σ H Q q => fresh_rbf q
theorem s_call {f:Nat} {ms:List ME} {x:Str} {es:List Expr} {p pos:Pos} (g:Gf X T k cal) (hf:T.fs[f]? = some x) (hg:glB X.env.scope x = true) (hn:plainName x = true) (ha:PA X es (tAs X.K cal ms)) (hs:es.all notStar = true) (hl:ms.length = es.length):PE X (.Call (.Name x p) es [] pos) (tE X.K cal (.call f ms)):=by
 obtain ⟨fa,fd,ps,h1,h2,h3,F,_⟩:=g.fns f x hf hn
 have key:∀ σ H Q,tE X.K cal (.call f ms) σ H Q -> tCall (spM X.K cal f) [] E0 (tAs X.K cal ms) σ H Q:=fun σ H Q q => by
  obtain ⟨B,O₀,O,ρ,v,st,e1,q⟩:=q
  rw [ev,Option.bind_eq_some_iff] at e1
  obtain ⟨vs,e1,e2⟩:=e1
  refine ⟨B,O₀,O,ρ,vs,st,e1,fun us H1 s1 g1 => ⟨O,vs,v,here_mono s1 st.here,?_,e2,fun u H2 s2 r => q u H2 (s1.trans s2) (.of r)⟩⟩
  rw [List.append_nil]
  exact g1
 cases es with
 | nil =>
  refine (pe_call0 F g.room (glOf hg) h1 h2 h3 .nil pass0 (plainOf hn).1).imp fun σ H Q q => ?_
  obtain ⟨B,O₀,O,ρ,vs,st,e1,q⟩:=key σ H Q q
  cases ms with
  | nil =>
   simp only [evA,Option.some.injEq] at e1
   subst e1
   exact q [] H (Same.refl H) .nil
  | cons m ms => simp at hl
 | cons e es =>
  simp only [List.all_cons,Bool.and_eq_true] at hs
  exact (pe_call F g.room (glOf hg) h1 h2 h3 .nil pass0 ha (plainOf hn).1 (star1 hs.1 es _) (backTo_any hs.2)).imp key
theorem args_vis {K:PySem.W.Frag} {H:Hp} {O O':List Addr} (hO:∀ b ∈ O',b ∈ O):∀ {vs:List MV} {us:List V},Paired (ArgOk K O H) vs us -> (∀ a,V.ref a ∈ us -> a ∉ O') -> Paired (ArgOk K O' H) (vs.map unB) us
 | _,_,.nil,_ => .nil
 | _,_,.cons (a:=m) (b:=u) h t,hn => by
  have vis:Same (hide H O) (hide H O'):=hide_mono (Same.refl H) fun b hb => .inl (hO b hb)
  refine .cons ?_ (args_vis hO t fun a ha => hn a (.tail _ ha))
  cases m with
  | val v => exact Rep.mono vis _ h
  | brw xs =>
   obtain ⟨a,us,rfl,q,r⟩:=h
   show Rep K (hide H O') (.lst xs) (.ref a)
   rw [Rep]
   refine ⟨a,us,rfl,?_,Reps.mono vis _ r⟩
   have e:=hide_out (H:=H) (hn a (.head _))
   rcases q with (q | ⟨o,q⟩) | q
   ·exact .inl (.inl (by rw [e]; exact q))
   ·exact .inl (.inr ⟨o,by rw [e]; exact q⟩)
   ·exact .inr q
  | brwD kvs => exact h
  | brwO fs xs => obtain ⟨a,e,q⟩:=h; exact ⟨a,e,q.move (Same.refl H) vis⟩
  | own _ => exact h
  | ownD _ => exact h
  | ownO _ _ _ => exact h
theorem sc_any {K:PySem.W.Frag} {F F':Hp} {v:PV} {s:Sc} {u:V} (h:sc? v = some s) (r:Rep K F v u):Rep K F' v u:=by
 cases v <;> first | (cases h; done) | (rw [Rep] at r ⊢; exact r)
theorem s_callV {f:Nat} {ms:List ME} {x:Str} {es:List Expr} {p pos:Pos} (g:Gf X T k cal) (hf:T.fs[f]? = some x) (hg:glB X.env.scope x = true) (hn:plainName x = true) (ha:PA X es (tAs X.K cal ms)) (hs:es.all notStar = true) (hl:ms.length = es.length):PE X (.Call (.Name x p) es [] pos) (tE X.K cal (.callV f ms)):=by
 obtain ⟨fa,fd,ps,h1,h2,h3,F,_⟩:=g.fns f x hf hn
 have key:∀ σ H Q,tE X.K cal (.callV f ms) σ H Q -> tCall (spM X.K cal f) [] E0 (tAs X.K cal ms) σ H Q:=fun σ H Q q => by
  obtain ⟨B,O₀,O,ρ,v,st,e1,q⟩:=q
  rw [ev,Option.bind_eq_some_iff] at e1
  obtain ⟨vs,e1,e2⟩:=e1
  rw [Option.bind_eq_some_iff] at e2
  obtain ⟨r,e2,e3⟩:=e2
  rw [Option.map_eq_some_iff] at e3
  obtain ⟨sv,e3,rfl⟩:=e3
  refine ⟨B,O₀,O,ρ,vs,st,e1,fun us H1 s1 g1 => ⟨O.filter fun b => decide (V.ref b ∉ us),vs.map unB,r,fun a ha => here_mono s1 st.here a (List.mem_filter.mp ha).1,?_,e2,fun u H2 s2 rr => q u H2 (s1.trans s2) (.of (sc_any e3 rr))⟩⟩
  rw [List.append_nil]
  exact args_vis (fun b hb => (List.mem_filter.mp hb).1) g1 fun a ha hb => of_decide_eq_true (List.mem_filter.mp hb).2 ha
 cases es with
 | nil =>
  refine (pe_call0 F g.room (glOf hg) h1 h2 h3 .nil pass0 (plainOf hn).1).imp fun σ H Q q => ?_
  obtain ⟨B,O₀,O,ρ,vs,st,e1,q⟩:=key σ H Q q
  cases ms with
  | nil =>
   simp only [evA,Option.some.injEq] at e1
   subst e1
   exact q [] H (Same.refl H) .nil
  | cons _ _ => cases hl
 | cons e es =>
  simp only [List.all_cons,Bool.and_eq_true] at hs
  exact (pe_call F g.room (glOf hg) h1 h2 h3 .nil pass0 ha (plainOf hn).1 (star1 hs.1 es _) (backTo_any hs.2)).imp key
end
end MM
namespace MM
open PySem PySem.Spec PyProof.Rows L2
section
variable {K:PySem.W.Frag} {H:Hp} {O:List Addr}
theorem val_encK (kvs:List (Int × Sc)) (i:Int):valV (encK kvs) (Sum.inl i:Key) = (dGetL kvs i).map Sc.v:=by
 unfold valV encK dGetL
 rw [List.find?_map,Option.map_map,Option.map_map]
 have e:((fun kv:Key × V => decide (kv.1 = (Sum.inl i:Key))) ∘ fun p:Int × Sc => ((Sum.inl p.1:Key),p.2.v)) = fun p:Int × Sc => decide (p.1 = i):=by
  funext p
  simp
 rw [e]
 rfl
theorem val_encT (kvs:List (List Int × Sc)) (k:List Int):valV (encT kvs) (k.map Sum.inl) = (dGetL kvs k).map Sc.v:=by
 unfold valV encT dGetL
 rw [List.find?_map,Option.map_map,Option.map_map]
 have e:((fun kv:List Key × V => decide (kv.1 = k.map Sum.inl)) ∘ fun p:List Int × Sc => ((p.1.map Sum.inl:List Key),p.2.v)) = fun p:List Int × Sc => decide (p.1 = k):=by
  funext p
  exact decide_eq_decide.mpr ⟨inl_inj,fun e => congrArg (List.map Sum.inl) e⟩
 rw [e]
 rfl
theorem kV_ints (ns:List Int):(ns.map Sum.inl:List Key).map kV = ns.map V.int:=by
 rw [List.map_map]
 rfl
theorem key_rep {xs:List PV} {ns:List Int} {u:V} (e:ints? xs = some ns) (r:RepB K H O (.tup xs) u):∃ b,u = .ref b /\ H b = some (.tup ((ns.map Sum.inl:List Key).map kV)):=by
 have e1:=ints?_eq e
 subst e1
 obtain ⟨b,us,rfl,h,t⟩:=r.tupH
 have e2:=t.ints
 subst e2
 exact ⟨b,rfl,by rw [kV_ints]; exact h⟩
theorem dget_ok {d:DD} {y:PV} {o:Option Sc} {a:Addr} {u:V} (e:dGet (.dI d) y = some o) (ha:Rd H a (encD d)) (r:RepB K H O y u):DGet H a u (o.map Sc.v):=by
 cases d with
 | k kvs =>
  cases y <;> try (cases e; done)
  rename_i i
  have e1:=r.int
  subst e1
  have e2:dGetL kvs i = o:=Option.some.inj e
  rw [<- e2,<- val_encK]
  exact .inl ⟨_,Sum.inl i,ha,rfl,rfl⟩
 | t kvs =>
  cases y <;> try (cases e; done)
  rename_i xs
  have e:(ints? xs).map (dGetL kvs) = some o:=e
  rw [Option.map_eq_some_iff] at e
  obtain ⟨ns,e1,e2⟩:=e
  obtain ⟨b,rfl,hb⟩:=key_rep e1 r
  rw [<- e2,<- val_encT]
  exact .inr ⟨_,_,b,ha,rfl,hb,rfl⟩
theorem put_encK (kvs:List (Int × Sc)) (k:Int) (s:Sc):putK (encK kvs) (Sum.inl k:Key) s.v = encK (dPutL kvs k s):=by
 have e1:((encK kvs).any fun kv => decide (kv.1 = (Sum.inl k:Key))) = kvs.any fun p => decide (p.1 = k):=by
  unfold encK
  rw [List.any_map]
  congr 1
  funext p
  simp
 unfold putK dPutL
 rw [e1]
 split
 ·unfold encK
  rw [List.map_map,List.map_map]
  refine List.map_congr_left fun p _ => ?_
  by_cases h:p.1 = k <;> simp [h]
 ·unfold encK
  rw [List.map_append]
  rfl
theorem put_encT (kvs:List (List Int × Sc)) (k:List Int) (s:Sc):putK (encT kvs) (k.map Sum.inl:List Key) s.v = encT (dPutL kvs k s):=by
 have ee:∀ q:List Int,((q.map Sum.inl:List Key) = k.map Sum.inl) ↔ q = k:=fun q => ⟨inl_inj,fun e => by rw [e]⟩
 have e1:((encT kvs).any fun kv => decide (kv.1 = (k.map Sum.inl:List Key))) = kvs.any fun p => decide (p.1 = k):=by
  unfold encT
  rw [List.any_map]
  congr 1
  funext p
  exact decide_eq_decide.mpr (ee p.1)
 unfold putK dPutL
 rw [e1]
 split
 ·unfold encT
  rw [List.map_map,List.map_map]
  refine List.map_congr_left fun p _ => ?_
  by_cases h:p.1 = k
  ·have h2:=(ee p.1).mpr h
   simp [h]
  ·have h2:¬ (p.1.map Sum.inl:List Key) = k.map Sum.inl:=fun z => h ((ee p.1).mp z)
   simp [h,h2]
 ·unfold encT
  rw [List.map_append]
  rfl
theorem dput_ok {d d':DD} {y:PV} {s:Sc} {a:Addr} {u:V} (e:dPut d y s = some d') (ha:H a = some (encD d)) (r:RepB K H O y u):DPut H a u s.v (upd H a (encD d')):=by
 cases d with
 | k kvs =>
  cases y <;> try (cases e; done)
  rename_i i
  have e1:=r.int
  subst e1
  have e2:(if kvs.length < 10000 then some (DD.k (dPutL kvs i s)) else none) = some d':=e
  split at e2
  ·rename_i hl
   cases e2
   show DPut H a (.int i) s.v (upd H a (.dK (encK (dPutL kvs i s))))
   rw [<- put_encK]
   exact DPut.k (k:=Sum.inl i) ha (by unfold encK; rw [List.length_map,sizeLine_eq]; omega)
  ·cases e2
 | t kvs =>
  cases y <;> try (cases e; done)
  rename_i xs
  have e:((ints? xs).bind fun k => if kvs.length < 10000 then some (DD.t (dPutL kvs k s)) else none) = some d':=e
  rw [Option.bind_eq_some_iff] at e
  obtain ⟨ns,e1,e2⟩:=e
  obtain ⟨b,rfl,hb⟩:=key_rep e1 r
  split at e2
  ·rename_i hl
   cases e2
   show DPut H a (.ref b) s.v (upd H a (.dT (encT (dPutL kvs ns s))))
   rw [<- put_encT]
   exact DPut.t ha hb (by unfold encT; rw [List.length_map,sizeLine_eq]; omega)
  ·cases e2
end
section
variable {X:Cx} {pins:List (Addr × Obj)} {σ:St} {H:Hp} {s:Shared}
end
section
variable {X:Cx} {T:Tab} {k:Nat} {cal:Cal}
end
end MM
namespace MM
open PySem PySem.Spec PyProof.Rows L2
theorem bt_len:bootBuiltins "len" = some (.builtin "len"):=by decide +kernel
theorem bt_tuple:bootBuiltins "tuple" = some (.type "tuple"):=by decide +kernel
theorem bt_list:bootBuiltins "list" = some (.type "list"):=by decide +kernel
theorem bt_sorted:bootBuiltins "sorted" = some (.builtin "sorted"):=by decide +kernel
theorem bt_any:bootBuiltins "any" = some (.builtin "any"):=by decide +kernel
theorem bt_all:bootBuiltins "all" = some (.builtin "all"):=by decide +kernel
theorem bt_int:bootBuiltins "int" = some (.type "int"):=by decide +kernel
theorem bt_bool:bootBuiltins "bool" = some (.type "bool"):=by decide +kernel
theorem bt_str:bootBuiltins "str" = some (.type "str"):=by decide +kernel
theorem bt_isinstance:bootBuiltins "isinstance" = some (.builtin "isinstance"):=by decide +kernel
section
variable {X:Cx} {T:Tab} {k:Nat} {cal:Cal}
theorem s_inst {f:Blt} {c:String} {m:ME} {e:Expr} {t:Str} {p p2 pos:Pos} (g:Gf X T k cal) (hf:instOf f = some c) (hg:glB X.env.scope "isinstance" = true) (ht:t = (c:Str)) (hgt:glB X.env.scope t = true)
  (hbt:bootBuiltins c = some (.type c)) (hmt:X.mg c = none) (hn:(c:Str) ≠ "__name__") (hd:((c:Str) == ("__debug__":Str)) = false) (h:PE X e (tE X.K cal m)) (hs:notStar e = true):PE X (.Call (.Name "isinstance" p) [e,.Name t p2] [] pos) (tE X.K cal (.blt f [m])):=by
 subst ht
 refine (pe_callB (c_inst hf) (glOf hg) (g.blt "isinstance" (by decide)) bt_isinstance (pa_cons h (pa_cons (pe_bltn (v:=.ty c) (glOf hgt) hmt hbt rfl hn hd) pa_nil rfl) (star1 hs _ _)) (by decide) (by decide) (star1 hs _ _) rfl).imp fun σ H Q q => ?_
 obtain ⟨B,O₀,O,ρ,v,st,e1,q⟩:=q
 rw [ev,Option.bind_eq_some_iff] at e1
 obtain ⟨vs,e1,e2⟩:=e1
 obtain ⟨w,rfl,e3⟩:=evs1 e1
 have e5:isD w = false /\ v = .bl (isT f w):=by
  cases hd:isD w with
  | true => cases f <;> simp only [instOf,reduceCtorEq] at hf <;> (simp only [bltOp,one1,two1,lst?,isOf,hd] at e2; cases e2)
  | false => cases f <;> simp only [instOf,reduceCtorEq] at hf <;> (simp only [bltOp,one1,two1,lst?,isOf,hd,Bool.false_eq_true,if_false,Option.some.injEq] at e2; exact ⟨rfl,e2.symm⟩)
 obtain ⟨e5,rfl⟩:=e5
 refine ⟨B,O₀,O,ρ,w,st,e3,fun u H1 s1 g1 => ⟨O,w,u,rfl,e5,g1.1,q _ H1 s1 (.of (rep_bl _ _))⟩⟩
end
section
variable {X:Cx} {T:Tab} {k:Nat} {cal:Cal}
theorem comp_lst {k':Sk} {src:List ME} {js:List Nat} {cond elt:ME}:∀ ρ v,ev cal (.comp k' src js cond elt) ρ = some v -> ∃ xs,v = .lst xs:=fun ρ v hv => by
 rw [ev,Option.bind_eq_some_iff] at hv
 obtain ⟨vs,_,hv⟩:=hv
 rw [Option.bind_eq_some_iff] at hv
 obtain ⟨xs,_,hv⟩:=hv
 split at hv
 ·simp only [Option.map_eq_some_iff] at hv
  obtain ⟨ys,_,rfl⟩:=hv
  exact ⟨_,rfl⟩
 ·cases hv
theorem blt_lst {f:Blt} (hf:f = .listOf \/ f = .sorted \/ f = .sortedSet \/ f = .sortedKeys \/ f = .valuesOf) {ms:List ME}:∀ ρ v,ev cal (.blt f ms) ρ = some v -> ∃ xs,v = .lst xs:=fun ρ v hv => by
 rw [ev,Option.bind_eq_some_iff] at hv
 obtain ⟨vs,_,hv⟩:=hv
 rcases hf with rfl | rfl | rfl | rfl | rfl
 ·obtain ⟨x,rfl⟩:=one_of hv (.inl rfl)
  simp only [bltOp,one1,two1,lst?,isOf,Option.map_eq_some_iff] at hv
  obtain ⟨ys,_,rfl⟩:=hv
  exact ⟨_,rfl⟩
 ·obtain ⟨x,rfl⟩:=one_of hv (.inl rfl)
  simp only [bltOp,one1,two1,lst?,isOf,Option.bind_eq_some_iff] at hv
  obtain ⟨ys,_,hv⟩:=hv
  unfold sortOp at hv
  split at hv
  ·split at hv
   ·cases hv; exact ⟨_,rfl⟩
   ·simp only [Option.map_eq_some_iff] at hv
    obtain ⟨ts,_,rfl⟩:=hv
    exact ⟨_,rfl⟩
  ·cases hv
 ·obtain ⟨x,rfl⟩:=one_of hv (.inr (.inr (.inl rfl)))
  simp only [bltOp,one1,two1,lst?,isOf,Option.bind_eq_some_iff] at hv
  obtain ⟨ys,_,ns,_,hv⟩:=hv
  split at hv
  ·cases hv; exact ⟨_,rfl⟩
  ·cases hv
 ·obtain ⟨x,rfl⟩:=one_of hv (.inl rfl)
  simp only [bltOp,one1] at hv
  split at hv
  ·split at hv
   ·cases hv; exact ⟨_,rfl⟩
   ·cases hv
  ·cases hv
 ·obtain ⟨x,rfl⟩:=one_of hv (.inr (.inr (.inr (.inr rfl))))
  simp only [bltOp,one1] at hv
  split at hv
  ·split at hv
   ·cases hv; exact ⟨_,rfl⟩
   ·cases hv
  ·cases hv
theorem s_cond {ifs:List Expr} {cond:ME} {f:Expr -> Bool} (h:condB f cond ifs = true) (hc:∀ c,f c = true -> PT X c (tT X.K cal cond)):PF X ifs (tT X.K cal cond):=by
 match ifs,h with
 | [],h =>
  have e:cond = .cst (.bl true):=by
   simp only [condB] at h
   split at h
   ·rfl
   ·cases h
  subst e
  intro pins s σ H Q I q
  obtain ⟨B,O₀,O,ρ,b,st,e1,q⟩:=q
  simp only [evB,ev,Option.bind_some,boolOf?,Option.some.injEq] at e1
  subst e1
  exact pf_nil pins s σ H Q I (q H (Same.refl H))
 | [c],h => exact pf_one (hc c h)
theorem metB_of {N:List Str} {sc:Scope} {ms:List (Option Str)} {f i:Nat} {ck:List Expr -> Bool} {q:Str × Str × List Expr × Pos × Pos} (h:metB N sc ms f i ck q = true):ms[f]? = some (some q.2.1) /\ q.2.1 ∈ methN /\ nameAt N sc i q.1 = true /\ ck q.2.2.1 = true /\ (q.2.2.2.1.endLine == q.2.2.2.2.line) = true /\ decide (q.2.2.1.length < 30) = true:=by
 unfold metB at h
 obtain ⟨a1,h6⟩:=Bool.and_eq_true_iff.mp h
 obtain ⟨a2,h5⟩:=Bool.and_eq_true_iff.mp a1
 obtain ⟨a3,h4⟩:=Bool.and_eq_true_iff.mp a2
 obtain ⟨a4,h3⟩:=Bool.and_eq_true_iff.mp a3
 obtain ⟨a5,h2⟩:=Bool.and_eq_true_iff.mp a4
 exact ⟨eq_of_beq a5,List.contains_iff_mem.mp h2,h3,h4,h5,h6⟩
theorem comp2_lst {src:List ME} {js:List Nat} {cond elt:ME}:∀ ρ v,ev cal (.comp2 src js cond elt) ρ = some v -> ∃ xs,v = .lst xs:=fun ρ v hv => by
 rw [ev,Option.bind_eq_some_iff] at hv
 obtain ⟨vs,_,hv⟩:=hv
 rw [Option.bind_eq_some_iff] at hv
 obtain ⟨xs,_,hv⟩:=hv
 split at hv
 ·simp only [Option.map_eq_some_iff] at hv
  obtain ⟨ys,_,rfl⟩:=hv
  exact ⟨_,rfl⟩
 ·cases hv
theorem pg_two {js:List Nat} {x y:Str} {px py tp:Pos} {j:Nat} {scope:Scope} {s₁:Shared} {H₁:Hp} {C:Addr} {fp:List Addr} (g:Gf X T k cal) (h:compScB2 X.env.scope X.N scope x y (fvsOf X.N js) js = true):PG (X.blk x ([y] ++ fvsOf X.N js) scope s₁ H₁ C fp) (.Tuple [.Name x px,.Name y py] j tp) (g2 X.K):=by
 obtain ⟨c,l0,l1⟩:=compSc2_of h
 exact pg_tup g.calm (pgs_cons (pg_name (i:=0) c.nd rfl (.inl (lookup_relabel_local l0)) (.inr (lookup_relabel_local l0))) (pgs_cons (pg_name (i:=1) c.nd rfl (.inl (lookup_relabel_local l1)) (.inr (lookup_relabel_local l1))) pgs_nil)) rfl rfl
theorem f_at {i:Nat} {x m:Str} {p ap:Pos} (hn:nameAt X.N X.env.scope i x = true):PE X (.Attribute (.Name x p) m ap) (tFld X.K (tVar i) m):=pe_fld (name_at hn) rfl
theorem ob_lent {K:PySem.W.Frag} {B H:Hp} {O₀ O:List Addr} {ρ:Rho} {σ:St} {i:Nat} {o:List PV × List PV} (st:StOk K B O₀ O H ρ σ) (e:obOf (ρ[i]?).join = some o):∃ a,σ[i]? = some (some (.ref a)) /\ LentAt K H (hide H O) o.1 o.2 a:=by
 cases hj:(ρ[i]?).join with
 | none => rw [hj] at e; cases e
 | some m =>
  rw [hj] at e
  cases m with
  | ownO _ fs xs =>
   cases e
   obtain ⟨u,eu,a,l,rfl,q⟩:=slot_of st hj
   exact ⟨a,eu,q.lent⟩
  | brwO fs xs =>
   cases e
   obtain ⟨u,eu,a,rfl,q⟩:=slot_of st hj
   exact ⟨a,eu,q.move st.keep (Same.refl _)⟩
  | _ => cases e
theorem ob_brw {K:PySem.W.Frag} {B H:Hp} {O₀ O:List Addr} {ρ:Rho} {σ:St} {i:Nat} {v:PV} (st:StOk K B O₀ O H ρ σ) (e:lentL (ρ[i]?).join = some v):∃ a fs xs,v = .lst xs /\ σ[i]? = some (some (.ref a)) /\ LentAt K B (hide H O) fs xs a:=by
 cases hj:(ρ[i]?).join with
 | none => rw [hj] at e; cases e
 | some m =>
  rw [hj] at e
  cases m with
  | brwO fs xs =>
   cases e
   obtain ⟨u,eu,a,rfl,q⟩:=slot_of st hj
   exact ⟨a,fs,xs,rfl,eu,q⟩
  | _ => cases e
theorem s_fld {i n:Nat} {x m:Str} {p ap:Pos} (g:Gf X T k cal) (hm:fldN[n]? = some m) (hn:nameAt X.N X.env.scope i x = true):PE X (.Attribute (.Name x p) m ap) (tE X.K cal (.fld i n)):=by
 refine (f_at hn).imp fun σ H Q q => ?_
 obtain ⟨B,O₀,O,ρ,v,st,e1,q⟩:=q
 rw [ev,Option.bind_eq_some_iff] at e1
 obtain ⟨o,e1,e2⟩:=e1
 obtain ⟨a,ea,C,dx,gs,l,us,h1,h2,_⟩:=ob_lent st e1
 obtain ⟨c1,c2,_⟩:=g.cls C h2.cls
 obtain ⟨u,f1,f2⟩:=h2.fld n m v hm e2
 exact ⟨_,ea,a,C,dx,gs,u,rfl,h1,c1,c2 m (List.mem_of_getElem? hm),f1,q u H (Same.refl H) (.of f2)⟩
theorem s_fldL {i:Nat} {x:Str} {p ap:Pos} (g:Gf X T k cal) (hn:nameAt X.N X.env.scope i x = true):PE X (.Attribute (.Name x p) ("taken":Str) ap) (tE X.K cal (.fldL i)):=by
 refine (f_at hn).imp fun σ H Q q => ?_
 obtain ⟨B,O₀,O,ρ,v,st,e1,q⟩:=q
 rw [ev] at e1
 obtain ⟨a,fs,xs,rfl,ea,C,dx,gs,l,us,h1,h2,h3,h4⟩:=ob_brw st e1
 obtain ⟨c1,_,c2⟩:=g.cls C h2.cls
 exact ⟨_,ea,a,C,dx,gs,.ref l,rfl,st.keep _ _ h1,c1,c2,h2.lst,q _ H (Same.refl H) ⟨.inr (.inl ⟨xs,l,us,rfl,rfl,st.keep.seq h3,h4⟩),fun z => by cases z⟩⟩
theorem w_fldL {tg:Expr} {i:Nat} {x:Str} {p ap:Pos} (g:Gf X T k cal) (hn:nameAt X.N X.env.scope i x = true):PI X tg (.Attribute (.Name x p) ("taken":Str) ap) (tW X.K cal .seq [.fldL i]):=by
 refine (pi_list (f_at hn)).imp fun σ H R q => ?_
 obtain ⟨B,O₀,O,ρ,vs,zs,st,e1,e2,q⟩:=q
 obtain ⟨v,rfl,e3⟩:=evs1 e1
 have e4:seq? v = some zs:=e2
 rw [ev] at e3
 obtain ⟨a,fs,xs,rfl,ea,C,dx,gs,l,us,h1,h2,h3,h4⟩:=ob_brw st e3
 cases e4
 obtain ⟨c1,_,c2⟩:=g.cls C h2.cls
 exact ⟨_,ea,a,C,dx,gs,.ref l,rfl,st.keep _ _ h1,c1,c2,h2.lst,l,rfl,⟨us,st.keep.seq h3⟩,q _ _ (Same.refl H) (it_list ((le_guard st.keep).seq h3) h4)⟩
theorem w_enmL {i:Nat} {x:Str} {px ap:Pos} {f:Str} {ts:List Expr} {j:Nat} {tp p pos:Pos} (g:Gf X T k cal) (hf:f = ("enumerate":Str)) (hg:glB X.env.scope f = true) (hn:nameAt X.N X.env.scope i x = true):PI X (.Tuple ts j tp) (.Call (.Name f p) [.Attribute (.Name x px) ("taken":Str) ap] [] pos) (tW X.K cal .enm [.fldL i]):=by
 subst hf
 refine (pi_enm (glOf hg) (g.blt "enumerate" (by decide)) (f_at hn) rfl).imp fun σ H R q => ?_
 obtain ⟨B,O₀,O,ρ,vs,zs,st,e1,e2,q⟩:=q
 obtain ⟨v,rfl,e3⟩:=evs1 e1
 simp only [srcOf,Option.map_eq_some_iff] at e2
 obtain ⟨ys,e4,rfl⟩:=e2
 rw [ev] at e3
 obtain ⟨a,fs,xs,rfl,ea,C,dx,gs,l,us,h1,h2,h3,h4⟩:=ob_brw st e3
 cases e4
 obtain ⟨c1,_,c2⟩:=g.cls C h2.cls
 exact ⟨_,ea,a,C,dx,gs,.ref l,rfl,st.keep _ _ h1,c1,c2,h2.lst,l,rfl,.inl ⟨⟨us,st.keep.seq h3⟩,q _ _ (Same.refl H) (it_enm (fun H2 s2 => s2.seq ((le_guard st.keep).seq h3)) h4)⟩⟩
theorem s_inO {neg:Bool} {me:ME} {i:Nat} {l:Expr} {x:Str} {p ap pos:Pos} (g:Gf X T k cal) (ha:PE X l (tE X.K cal me)) (hn:nameAt X.N X.env.scope i x = true):PE X (.Compare l [cpOf (if neg = true then .notIn else .isIn)] [.Attribute (.Name x p) ("taken":Str) ap] pos) (tE X.K cal (.inO neg me i)):=by
 refine (pe_cmpR (op_cmp g.units _) ha (f_at hn) (by cases neg <;> rfl)).imp fun σ H Q q => ?_
 obtain ⟨B,O₀,O,ρ,v,st,e1,q⟩:=q
 rw [ev] at e1
 simp only [Option.bind_eq_some_iff,Option.map_eq_some_iff] at e1
 obtain ⟨y,e1,w,e2,c,e3,rfl⟩:=e1
 refine ⟨B,O₀,O,ρ,y,st,e1,fun ux H1 s1 g1 => ?_⟩
 cases hj:(ρ[i]?).join with
 | none => rw [hj] at e2; cases e2
 | some m =>
  rw [hj] at e2
  cases m with
  | ownO b fs xs =>
   cases e2
   obtain ⟨u,eu,a,ll,rfl,qq⟩:=slot_of (st.mono s1) hj
   obtain ⟨C,dx,gs,h1,h2⟩:=qq.ob
   obtain ⟨us,h3,h4⟩:=qq.li
   obtain ⟨c1,_,c2⟩:=g.cls C h2.cls
   exact ⟨_,eu,a,C,dx,gs,.ref ll,rfl,h1,c1,c2,h2.lst,O,y,_,c,g1.1,.inr (.inl ⟨xs,ll,us,rfl,rfl,SqL.of h3,h4⟩),e3,q _ H1 s1 (.of (rep_bl _ _))⟩
  | _ => cases e2
theorem s_inOT {neg:Bool} {me:ME} {i:Nat} {l:Expr} {x:Str} {p ap pos:Pos} (g:Gf X T k cal) (ha:PE X l (tE X.K cal me)) (hn:nameAt X.N X.env.scope i x = true):PT X (.Compare l [cpOf (if neg = true then .notIn else .isIn)] [.Attribute (.Name x p) ("taken":Str) ap] pos) (tT X.K cal (.inO neg me i)):=by
 refine (pt_cmpR (op_cmp g.units _) ha (f_at hn) (by cases neg <;> rfl)).imp fun σ H Q q => ?_
 obtain ⟨B,O₀,O,ρ,v,st,e1,q⟩:=q
 rw [evB,ev] at e1
 simp only [Option.bind_eq_some_iff,Option.map_eq_some_iff] at e1
 obtain ⟨b,⟨y,e1,w,e2,c,e3,rfl⟩,e4⟩:=e1
 simp only [boolOf?,Option.some.injEq] at e4
 subst e4
 refine ⟨B,O₀,O,ρ,y,st,e1,fun ux H1 s1 g1 => ?_⟩
 cases hj:(ρ[i]?).join with
 | none => rw [hj] at e2; cases e2
 | some m =>
  rw [hj] at e2
  cases m with
  | ownO b fs xs =>
   cases e2
   obtain ⟨u,eu,a,ll,rfl,qq⟩:=slot_of (st.mono s1) hj
   obtain ⟨C,dx,gs,h1,h2⟩:=qq.ob
   obtain ⟨us,h3,h4⟩:=qq.li
   obtain ⟨c1,_,c2⟩:=g.cls C h2.cls
   exact ⟨_,eu,a,C,dx,gs,.ref ll,rfl,h1,c1,c2,h2.lst,O,y,_,c,g1.1,.inr (.inl ⟨xs,ll,us,rfl,rfl,SqL.of h3,h4⟩),e3,_,rfl,q H1 s1⟩
  | _ => cases e2
theorem inO_of {neg:Bool} {i:Nat} {N:List Str} {sc:Scope} {ck:Expr -> Bool} {e:Expr} {z:Expr × CmpOp × Expr} (e1:cmpX e = some z) (h:(onO (fldX z.2.2) fun q => z.2.1 == (if neg = true then CmpOp.NotIn else CmpOp.In) && ck z.1 && q.2 == ("taken":Str) && nameAt N sc i q.1) = true):ck z.1 = true /\ ∃ (x:Str) (p ap pos:Pos),nameAt N sc i x = true /\ e = .Compare z.1 [cpOf (if neg = true then .notIn else .isIn)] [.Attribute (.Name x p) ("taken":Str) ap] pos:=by
 obtain ⟨q,e2,h⟩:=onO_of h
 obtain ⟨pos,rfl⟩:=cmpX_of e1
 obtain ⟨p,ap,e3⟩:=fldX_of e2
 obtain ⟨a1,h4⟩:=Bool.and_eq_true_iff.mp h
 obtain ⟨a2,h3⟩:=Bool.and_eq_true_iff.mp a1
 obtain ⟨h1,h2⟩:=Bool.and_eq_true_iff.mp a2
 refine ⟨h2,q.1,p,ap,pos,h4,?_⟩
 rw [e3,eq_of_beq h1,eq_of_beq h3]
 cases neg <;> rfl
theorem s_inO2 {neg:Bool} {me:ME} {i:Nat} {e l:Expr} {c:Prop} (g:Gf X T k cal) (h:c /\ ∃ (x:Str) (p ap pos:Pos),nameAt X.N X.env.scope i x = true /\ e = .Compare l [cpOf (if neg = true then .notIn else .isIn)] [.Attribute (.Name x p) ("taken":Str) ap] pos) (ha:PE X l (tE X.K cal me)):PE X e (tE X.K cal (.inO neg me i)) /\ PT X e (tT X.K cal (.inO neg me i)):=by
 obtain ⟨_,x,p,ap,pos,h1,rfl⟩:=h
 exact ⟨s_inO g ha h1,s_inOT g ha h1⟩
theorem meth_eq {x m:Str} {es:List Expr} {p ap pos:Pos} {env:Env} (hs:es.all notStar = true) (hl:decide (es.length < 30) = true) (hline:(ap.endLine == pos.line) = true):eval (.Call (.Attribute (.Name x p) m ap) es [] pos) env = (do
   let ov <- eval (.Name x p) env
   standAt ap.atName
   let (f,first) <- holding [ov] (getMethod ov m (do return (<- importBound (.Name x p) env).getD true))
   callWith pos f first (backTo pos (starEach es env)) (backToKw pos (keywordEach [] env))):=by
 have hf:methodCallForm (es.length + ([]:List Keyword).length) (backTo pos (starEach es env)) (backToKw pos (keywordEach [] env)) = true:=by
  unfold methodCallForm
  have h1:((backTo pos (starEach es env)).all fun x => !x.1) = true:=by
   have:=backTo_any (pos:=pos) (env:=env) hs
   rw [List.any_eq_false] at this
   rw [List.all_eq_true]
   intro x hx
   have:=this x hx
   simpa using this
  rw [h1]
  exact hl
 rw [arm_eval_Call]
 unfold methodCall calleeOf methodCallPos
 rw [hf,hline]
 rfl
theorem s_callM {f i:Nat} {ms:List ME} {x m:Str} {es:List Expr} {p ap pos:Pos} (g:Gf X T k cal) (hf:T.ms[f]? = some (some m)) (hM:m ∈ methN) (hn:nameAt X.N X.env.scope i x = true) (ha:PA X es (tAs X.K cal ms)) (hs:es.all notStar = true) (hl:ms.length = es.length) (hline:(ap.endLine == pos.line) = true) (h30:decide (es.length < 30) = true):PE X (.Call (.Attribute (.Name x p) m ap) es [] pos) (tE X.K cal (.callM f i ms)):=by
 by_cases hC:∃ C,IsC X.K C
 ·obtain ⟨C,hC⟩:=hC
  have one:∀ C',IsC X.K C' -> C' = C:=fun C' h => by
   have:=h.symm.trans hC
   cases this
   rfl
  obtain ⟨fa,fd,ps,h1,h3,F⟩:=g.meths f m hf C hC
  have key:∀ σ H Q,tE X.K cal (.callM f i ms) σ H Q -> tMeth C m (spM X.K cal f) [] E0 (tVar i) (tAs X.K cal ms) σ H Q:=fun σ H Q q => by
   obtain ⟨B,O₀,O,ρ,v,st,e1,q⟩:=q
   rw [ev,Option.bind_eq_some_iff] at e1
   obtain ⟨o,e0,e1⟩:=e1
   rw [Option.bind_eq_some_iff] at e1
   obtain ⟨vs,e1,e2⟩:=e1
   obtain ⟨a,ea,C',dx,gs,l,us,f1,f2,f3⟩:=ob_lent st e0
   have hCC:=one C' f2.cls
   subst hCC
   refine ⟨_,ea,a,dx,gs,rfl,f1,f2.no m hM,B,O₀,O,ρ,vs,st,e1,fun us' H1 s1 g1 => ⟨O,_,v,here_mono s1 st.here,?_,e2,fun u H2 s2 r => q u H2 (s1.trans s2) (.of r)⟩⟩
   rw [List.append_nil]
   exact .cons ⟨a,rfl,LentAt.move ⟨C',dx,gs,l,us,f1,f2,f3⟩ s1 (hide_same s1)⟩ g1
  cases es with
  | nil =>
   refine (pe_meth0 (name_at hn) (g.cls C hC).1 h1 F g.room h3 .nil pass0 (meth_eq hs h30 hline)).imp fun σ H Q q => ?_
   obtain ⟨u,eu,a,dx,gs,e,f1,f2,B,O₀,O,ρ,vs,st,e1,q⟩:=key σ H Q q
   cases ms with
   | nil =>
    simp only [evA,Option.some.injEq] at e1
    subst e1
    exact ⟨u,eu,a,dx,gs,e,f1,f2,q [] H (Same.refl H) .nil⟩
   | cons _ _ => cases hl
  | cons e es =>
   simp only [List.all_cons,Bool.and_eq_true] at hs
   exact (pe_meth (name_at hn) (g.cls C hC).1 h1 F g.room h3 .nil pass0 ha (star1 hs.1 _ _) (backTo_any hs.2) (meth_eq (by simp [hs]) h30 hline)).imp key
 ·exact fun pins s σ H Q I q => by
   obtain ⟨B,O₀,O,ρ,v,st,e1,q⟩:=q
   rw [ev,Option.bind_eq_some_iff] at e1
   obtain ⟨o,e0,_⟩:=e1
   obtain ⟨a,ea,C',dx,gs,l,us,f1,f2,f3⟩:=ob_lent st e0
   exact absurd ⟨C',f2.cls⟩ hC
theorem s_walk {k':Sk} {src:List ME} {it tg:Expr} {tup:Bool} (htg:tup = true -> ∃ ts j tp,tg = .Tuple ts j tp) (g:Gf X T k cal) (h:chkW X.env.scope tup (fun xs => chks T src X.N X.env.scope xs) k' it = true) (hs:∀ xs,chks T src X.N X.env.scope xs = true -> PA X xs (tEs X.K cal src) /\ xs.all notStar = true /\ src.length = xs.length)
  (h1:∀ m x,src = [m] -> chks T src X.N X.env.scope [x] = true -> PE X x (tE X.K cal m)):PI X tg it (tW X.K cal k' src) /\ notSet it = true:=by
 cases k' with
 | seq =>
  simp only [chkW,Bool.and_eq_true] at h
  refine ⟨?_,h.1⟩
  obtain ⟨_,_,hl⟩:=hs _ h.2
  match src,hl,h1,h with
  | [m],_,h1,h =>
   cases hb:isBor m with
   | false => exact w_seq hb (h1 m it rfl h.2)
   | true =>
    have q:=h.2
    simp only [chks,Bool.and_eq_true] at q
    have q1:=q.1.1
    rcases bor_or hb with ⟨i,rfl⟩ | ⟨i,rfl⟩
    rotate_left
    ·obtain ⟨z,e,h2⟩:=onO_of (show onO (fldX it) (fun q => q.2 == ("taken":Str) && nameAt X.N X.env.scope i q.1) = true from q1)
     obtain ⟨p,ap,rfl⟩:=fldX_of e
     obtain ⟨h3,h4⟩:=Bool.and_eq_true_iff.mp h2
     rw [eq_of_beq h3]
     exact w_fldL g h4
    cases it <;> simp only [ck_var,ck_bor,ck_cst,ck_glob,ck_bin,ck_neg,ck_not,ck_and,ck_or,ck_ite,ck_cmp,ck_chain,ck_tup,ck_lst,ck_idx,ck_slice,ck_blt,ck_call,ck_comp,Bool.false_eq_true] at q1
    exact w_bor q1
 | rng =>
  cases it with
  | Call fn args kws pos =>
   cases fn with
   | Name x p =>
    cases kws with
    | nil =>
     simp only [chkW,Bool.and_eq_true,beq_iff_eq,Bool.or_eq_true] at h
     obtain ⟨⟨⟨hx,hg⟩,ha⟩,hn⟩:=h
     obtain ⟨q,hst,hl⟩:=hs _ ha
     exact ⟨w_range g hx hg q hn hst hl,rfl⟩
    | cons _ _ => simp [chkW] at h
   | _ => simp [chkW] at h
  | _ => simp [chkW] at h
 | enm =>
  cases it with
  | Call fn args kws pos =>
   cases fn with
   | Name x p =>
    match args,kws,h with
    | [a],[],h =>
     simp only [chkW,Bool.and_eq_true,beq_iff_eq] at h
     obtain ⟨⟨⟨⟨ht,hx⟩,hg⟩,ha⟩,hn⟩:=h
     obtain ⟨ts,j,tp,rfl⟩:=htg ht
     obtain ⟨_,_,hl⟩:=hs _ ha
     refine ⟨?_,rfl⟩
     match src,hl,h1,ha with
     | [m],_,h1,ha =>
      cases hb:isBor m with
      | false => exact w_enm g hx hg hn hb (h1 m a rfl ha)
      | true =>
       have q:=ha
       simp only [chks,Bool.and_eq_true] at q
       have q1:=q.1.1
       rcases bor_or hb with ⟨i,rfl⟩ | ⟨i,rfl⟩
       rotate_left
       ·obtain ⟨z,e,h2⟩:=onO_of (show onO (fldX a) (fun q => q.2 == ("taken":Str) && nameAt X.N X.env.scope i q.1) = true from q1)
        obtain ⟨p,ap,rfl⟩:=fldX_of e
        obtain ⟨h3,h4⟩:=Bool.and_eq_true_iff.mp h2
        rw [eq_of_beq h3]
        exact w_enmL g hx hg h4
       cases a <;> simp only [ck_var,ck_bor,ck_cst,ck_glob,ck_bin,ck_neg,ck_not,ck_and,ck_or,ck_ite,ck_cmp,ck_chain,ck_tup,ck_lst,ck_idx,ck_slice,ck_blt,ck_call,ck_comp,Bool.false_eq_true] at q1
       exact w_enmB g hx hg q1
    | [],_,h => simp [chkW] at h
    | _ :: _ :: _,_,h => simp [chkW] at h
    | [_],_ :: _,h => simp [chkW] at h
   | _ => simp [chkW] at h
  | _ => simp [chkW] at h
 | rev => cases it <;> simp [chkW] at h
theorem rep_sc (K:PySem.W.Frag) (F:Hp) (s:Sc):Rep K F s.pv s.v:=by cases s <;> simp only [Sc.pv,Sc.v,Rep]
theorem sc_rep {K:PySem.W.Frag} {H:Hp} {O:List Addr} {x:PV} {s:Sc} {u:V} (e:sc? x = some s) (r:RepB K H O x u):u = s.v:=by
 cases x <;> simp only [sc?,Option.some.injEq,reduceCtorEq] at e <;> subst e
 ·exact r.non
 ·exact r.bl
 ·exact r.int
 ·exact r.str
theorem base_of {o:Expr} {n:Str} (hb:baseB o = true):attributeBase o n X.env (eval o X.env) = eval o X.env:=by
 cases o <;> first | rfl | (simp [baseB] at hb; done) | skip
 rename_i fn args kws pos
 cases args with
 | nil => simp [baseB] at hb
 | cons _ _ => cases fn <;> rfl
theorem s_bltAll {b:Blt} {es:List ME} {x:Str} {args:List Expr} {p pos:Pos} (g:Gf X T k cal) (hx:x = (bltOf b:Str)) (hg:glB X.env.scope x = true) (ha:bltArgs X.env.scope (fun xs => chks T es X.N X.env.scope xs) es.length b args = true)
  (hs:∀ xs,chks T es X.N X.env.scope xs = true -> PA X xs (tEs X.K cal es) /\ xs.all notStar = true /\ es.length = xs.length)
  (h1:∀ m x,es = [m] -> chks T es X.N X.env.scope [x] = true -> PE X x (tE X.K cal m))
  (hh2:∀ m m' x x',es = [m,m'] -> chks T es X.N X.env.scope [x,x'] = true -> PE X x (tE X.K cal m) /\ PE X x' (tE X.K cal m')) :
  (freshB (.blt b es) = true -> PE X (.Call (.Name x p) args [] pos) (tF X.K cal (.blt b es))) /\ PE X (.Call (.Name x p) args [] pos) (tE X.K cal (.blt b es)):=by
 have inst:∀ c,instOf b = some c -> bltOf b = "isinstance" -> bootBuiltins c = some (.type c) -> X.mg c = none -> (c:Str) ≠ "__name__" -> ((c:Str) == ("__debug__":Str)) = false -> bltArgs X.env.scope (fun xs => chks T es X.N X.env.scope xs) es.length b args = instArgs X.env.scope (fun xs => chks T es X.N X.env.scope xs) es.length c args ->
   PE X (.Call (.Name x p) args [] pos) (tE X.K cal (.blt b es)):=fun c hc hb hbt hm hn hd e => by
  rw [e] at ha
  unfold instArgs at ha
  split at ha
  ·rename_i y t p2
   simp only [Bool.and_eq_true,beq_iff_eq] at ha
   obtain ⟨⟨⟨h2,h3⟩,h4⟩,h5⟩:=ha
   obtain ⟨_,hst,_⟩:=hs _ h4
   match es,h5,h1,h4 with
   | [m],_,h1,h4 =>
    rw [hx,hb] at hg ⊢
    exact s_inst g hc hg h2 h3 hbt hm hn hd (h1 m y rfl h4) (by simpa using hst)
  ·cases ha
 have plain:∀ n,instOf b = none -> plainArgs b = some n -> 0 < n -> bltArgs X.env.scope (fun xs => chks T es X.N X.env.scope xs) es.length b args = (plainArgs b == some es.length && chks T es X.N X.env.scope args) ->
   ∃ e r,args = e :: r /\ PA X (e :: r) (tEs X.K cal es) /\ (e :: r).all notStar = true:=fun n _ hn hpos eq => by
  rw [eq,hn] at ha
  simp only [Bool.and_eq_true,beq_iff_eq,Option.some.injEq] at ha
  obtain ⟨q1,q2,q3⟩:=hs _ ha.2
  cases args with
  | nil => rw [<- ha.1] at q3; simp at q3; omega
  | cons e r => exact ⟨e,r,rfl,q1,q2⟩
 cases b with
 | len =>
  obtain ⟨e,r,rfl,q1,q2⟩:=plain 1 rfl rfl (by decide) rfl
  subst hx
  exact ⟨fun z => (by simp [freshB] at z),s_blt c_len hg (g.blt "len" (by decide)) bt_len (by decide) (by decide) q1 q2⟩
 | tupleOf =>
  obtain ⟨e,r,rfl,q1,q2⟩:=plain 1 rfl rfl (by decide) rfl
  subst hx
  exact ⟨fun z => (by simp [freshB] at z),s_bltT c_tuple hg (g.blt "tuple" (by decide)) bt_tuple (by decide) (by decide) q1 q2⟩
 | listOf =>
  obtain ⟨e,r,rfl,q1,q2⟩:=plain 1 rfl rfl (by decide) rfl
  subst hx
  have q:=s_bltTF (p:=p) (pos:=pos) c_list hg (g.blt "list" (by decide)) bt_list (by decide) (by decide) q1 q2
  exact ⟨fun _ => q,fresh_val (blt_lst (.inl rfl)) q⟩
 | sorted =>
  obtain ⟨e,r,rfl,q1,q2⟩:=plain 1 rfl rfl (by decide) rfl
  subst hx
  have q:=s_bltF (p:=p) (pos:=pos) (c_sorted g) hg (g.blt "sorted" (by decide)) bt_sorted (by decide) (by decide) q1 q2
  exact ⟨fun _ => q,fresh_val (blt_lst (.inr (.inl rfl))) q⟩
 | any =>
  obtain ⟨e,r,rfl,q1,q2⟩:=plain 1 rfl rfl (by decide) rfl
  subst hx
  exact ⟨fun z => (by simp [freshB] at z),s_blt (c_any g.calm) hg (g.blt "any" (by decide)) bt_any (by decide) (by decide) q1 q2⟩
 | all =>
  obtain ⟨e,r,rfl,q1,q2⟩:=plain 1 rfl rfl (by decide) rfl
  subst hx
  exact ⟨fun z => (by simp [freshB] at z),s_blt (c_all g.calm) hg (g.blt "all" (by decide)) bt_all (by decide) (by decide) q1 q2⟩
 | intOf =>
  obtain ⟨e,r,rfl,q1,q2⟩:=plain 1 rfl rfl (by decide) rfl
  subst hx
  exact ⟨fun z => (by simp [freshB] at z),s_bltT c_int hg (g.blt "int" (by decide)) bt_int (by decide) (by decide) q1 q2⟩
 | boolOf => exact absurd ha Bool.false_ne_true
 | max2 => exact absurd ha Bool.false_ne_true
 | min2 => exact absurd ha Bool.false_ne_true
 | isInt => exact ⟨fun z => (by simp [freshB] at z),inst "int" rfl rfl bt_int (g.blt "int" (by decide)) (by decide) (by decide) rfl⟩
 | isBool => exact ⟨fun z => (by simp [freshB] at z),inst "bool" rfl rfl bt_bool (g.blt "bool" (by decide)) (by decide) (by decide) rfl⟩
 | isStr => exact ⟨fun z => (by simp [freshB] at z),inst "str" rfl rfl bt_str (g.blt "str" (by decide)) (by decide) (by decide) rfl⟩
 | isList => exact ⟨fun z => (by simp [freshB] at z),inst "list" rfl rfl bt_list (g.blt "list" (by decide)) (by decide) (by decide) rfl⟩
 | isTuple => exact ⟨fun z => (by simp [freshB] at z),inst "tuple" rfl rfl bt_tuple (g.blt "tuple" (by decide)) (by decide) (by decide) rfl⟩
 | sortedSet => simp [bltArgs] at ha
 | sum => exact absurd ha Bool.false_ne_true
 | max1 => exact absurd ha Bool.false_ne_true
 | sortedKeys => exact absurd ha Bool.false_ne_true
 | valuesOf => exact absurd ha Bool.false_ne_true
 | min1 => simp [bltArgs,instOf,plainArgs] at ha
 | tupleRev => simp [bltArgs] at ha
 | lenSet => simp [bltArgs] at ha
 | lenSetSub => simp [bltArgs] at ha
end
section
variable {X:Cx} {T:Tab} {k:Nat} {cal:Cal}
theorem s_dIn {neg:Bool} {mk ma:ME} {l r:Expr} {pos:Pos} (g:Gf X T k cal) (hk:PE X l (tE X.K cal mk)) (ha:PE X r (tE X.K cal ma)) (hm:behindInMarks (if neg = true then CmpOp.NotIn else CmpOp.In) r = false) :
  PE X (.Compare l [if neg = true then CmpOp.NotIn else CmpOp.In] [r] pos) (tE X.K cal (.dIn neg mk ma)) /\ PT X (.Compare l [if neg = true then CmpOp.NotIn else CmpOp.In] [r] pos) (tT X.K cal (.dIn neg mk ma)):=by
 have hu:X.A.units + 1 < cLine:=by have:=g.units; omega
 have go:∀ {σ:St} {H:Hp} {Q:Bool -> Hp -> Prop},(∃ B O₀ O ρ b,StOk X.K B O₀ O H ρ σ /\ ev cal (.dIn neg mk ma) ρ = some (.bl b) /\ ∀ H',Same H H' -> Q b H') ->
   tE X.K cal mk σ H fun y H1 => tE X.K cal ma σ H1 fun x H2 => ∃ a o,x = .ref a /\ DGet H2 a y o /\ Q (if neg = true then !o.isSome else o.isSome) H2:=fun {σ H Q} q => by
  obtain ⟨B,O₀,O,ρ,b,st,e1,q⟩:=q
  rw [ev] at e1
  simp only [Option.bind_eq_some_iff] at e1
  obtain ⟨y,e1,x,e2,e3⟩:=e1
  refine ⟨B,O₀,O,ρ,y,st,e1,fun uy H1 s1 g1 => ⟨B,O₀,O,ρ,x,st.mono s1,e2,fun ux H2 s2 g2 => ?_⟩⟩
  rw [Option.map_eq_some_iff] at e3
  obtain ⟨o,e3,e4⟩:=e3
  cases x <;> try (cases e3; done)
  obtain ⟨a,rfl,ha⟩:=g2.1.dI
  refine ⟨a,_,rfl,dget_ok e3 ha (g1.1.mono s2),?_⟩
  rw [Option.isSome_map,PV.bl.inj e4]
  exact q H2 (s1.trans s2)
 have unE:∀ {σ:St} {H:Hp} {Q:VK},tE X.K cal (.dIn neg mk ma) σ H Q -> ∃ B O₀ O ρ b,StOk X.K B O₀ O H ρ σ /\ ev cal (.dIn neg mk ma) ρ = some (.bl b) /\ ∀ H',Same H H' -> Q (.bl b) H':=fun {σ H Q} q => by
  obtain ⟨B,O₀,O,ρ,v,st,e1,q⟩:=q
  have hb:∃ b,v = .bl b:=by
   rw [ev] at e1
   simp only [Option.bind_eq_some_iff] at e1
   obtain ⟨y,_,x,_,e3⟩:=e1
   rw [Option.map_eq_some_iff] at e3
   obtain ⟨o,_,e4⟩:=e3
   exact ⟨_,e4.symm⟩
  obtain ⟨b,rfl⟩:=hb
  exact ⟨B,O₀,O,ρ,b,st,e1,fun H' s => q _ H' s (.of (rep_bl _ _))⟩
 have unT:∀ {σ:St} {H:Hp} {Q:Bool -> Hp -> Prop},tT X.K cal (.dIn neg mk ma) σ H Q -> ∃ B O₀ O ρ b,StOk X.K B O₀ O H ρ σ /\ ev cal (.dIn neg mk ma) ρ = some (.bl b) /\ ∀ H',Same H H' -> Q b H':=fun {σ H Q} q => by
  obtain ⟨B,O₀,O,ρ,b,st,e1,q⟩:=q
  unfold evB at e1
  simp only [Option.bind_eq_some_iff] at e1
  obtain ⟨v,e1,e2⟩:=e1
  cases v <;> simp only [boolOf?,reduceCtorEq,Option.some.injEq] at e2
  subst e2
  exact ⟨B,O₀,O,ρ,_,st,e1,q⟩
 cases neg with
 | false =>
  refine ⟨(pe_cmp (pc_din hu hk ha) hm).imp fun σ H Q q => ?_,(pt_cmp (pc_din hu hk ha) hm).imp fun σ H Q q => ?_⟩
  ·exact go (Q:=fun b H' => Q (.bl b) H') (unE q)
  ·exact go (Q:=fun b H' => ∃ c,V.bl b = .bl c /\ Q c H') (by
    obtain ⟨B,O₀,O,ρ,b,st,e1,q⟩:=unT q
    exact ⟨B,O₀,O,ρ,b,st,e1,fun H' s => ⟨b,rfl,q H' s⟩⟩)
 | true =>
  refine ⟨(pe_cmp (pc_dnotin hu hk ha) hm).imp fun σ H Q q => ?_,(pt_cmp (pc_dnotin hu hk ha) hm).imp fun σ H Q q => ?_⟩
  ·exact go (Q:=fun b H' => Q (.bl b) H') (unE q)
  ·exact go (Q:=fun b H' => ∃ c,V.bl b = .bl c /\ Q c H') (by
    obtain ⟨B,O₀,O,ρ,b,st,e1,q⟩:=unT q
    exact ⟨B,O₀,O,ρ,b,st,e1,fun H' s => ⟨b,rfl,q H' s⟩⟩)
theorem s_dget {ma mk md:ME} {o e f:Expr} {ap cp:Pos} (g:Gf X T k cal) (ha:PE X o (tE X.K cal ma)) (hk:PE X e (tE X.K cal mk)) (hd:PE X f (tE X.K cal md)) (hb:baseB o = true) (hl:(ap.endLine == cp.line) = true) (h1:notStar e = true) (h2:notStar f = true) :
  PE X (.Call (.Attribute o "get" ap) [e,f] [] cp) (tE X.K cal (.dget ma mk md)):=by
 have hu:X.A.units + 1 < cLine:=by have:=g.units; omega
 have st2:starEach [e,f] X.env = [(false,eval e X.env),(false,eval f X.env)]:=by rw [star1 h1,star1 h2]; rfl
 have m:M2 X o "get" ap e f cp:=by
  refine ⟨base_of hb,?_,hl,?_⟩
  ·rw [st2]; rfl
  ·rw [st2]; rfl
 refine (pe_dget2 hu ha hk hd m).imp fun σ H Q q => ?_
 obtain ⟨B,O₀,O,ρ,v,st,e1,q⟩:=q
 rw [ev] at e1
 simp only [Option.bind_eq_some_iff,Option.map_eq_some_iff] at e1
 obtain ⟨x,e1,y,e2,z,e3,oo,e4,sz,e5,e6⟩:=e1
 cases x <;> try (cases e4; done)
 refine ⟨B,O₀,O,ρ,_,st,e1,fun ux H1 s1 g1 => ?_⟩
 obtain ⟨a,rfl,hH⟩:=g1.1.dI
 refine ⟨a,rfl,isD_enc hH,B,O₀,O,ρ,_,st.mono s1,e2,fun uy H2 s2 g2 => ⟨B,O₀,O,ρ,z,st.mono (s1.trans s2),e3,fun uz H3 s3 g3 => ?_⟩⟩
 refine ⟨_,dget_ok e4 (Same.rd s3 (Same.rd s2 hH)) (g2.1.mono s3),?_⟩
 rw [sc_rep e5 g3.1]
 have e7:(oo.map Sc.v).getD sz.v = (oo.getD sz).v:=by cases oo <;> rfl
 rw [e7]
 refine q _ H3 (s1.trans (s2.trans s3)) ?_
 rw [<- e6]
 exact .of (rep_sc _ _ _)
theorem s_dat {ma mk:ME} {o i:Expr} {pos:Pos} (g:Gf X T k cal) (ha:PE X o (tE X.K cal ma)) (hk:PE X i (tE X.K cal mk)) (hs:notSlice i = true):PE X (.Subscript o i pos) (tE X.K cal (.dat ma mk)):=by
 have hu:X.A.units + 1 < cLine:=by have:=g.units; omega
 refine (pe_dget hu ha hk (by cases i <;> first | (intro _ _; rfl) | (simp [notSlice] at hs))).imp fun σ H Q q => ?_
 obtain ⟨B,O₀,O,ρ,v,st,e1,q⟩:=q
 rw [ev] at e1
 simp only [Option.bind_eq_some_iff,Option.map_eq_some_iff] at e1
 obtain ⟨x,e1,y,e2,oo,e4,sz,rfl,e6⟩:=e1
 cases x <;> try (cases e4; done)
 refine ⟨B,O₀,O,ρ,_,st,e1,fun ux H1 s1 g1 => ?_⟩
 obtain ⟨a,rfl,hH⟩:=g1.1.dI
 refine ⟨B,O₀,O,ρ,_,st.mono s1,e2,fun uy H2 s2 g2 => ?_⟩
 refine ⟨a,_,rfl,dget_ok e4 (Same.rd s2 hH) g2.1,q _ H2 (s1.trans s2) ?_⟩
 rw [<- e6]
 exact .of (rep_sc _ _ _)
end
set_option maxHeartbeats 0 in
mutual
theorem sound {T:Tab} {k:Nat} {cal:Cal}:∀ (me:ME) {X:Cx} {e:Expr},Gf X T k cal -> chk T me X.N X.env.scope e = true -> PE X e (tE X.K cal me) /\ PT X e (tT X.K cal me)
  | .var i,X,e,g,h => by
    cases e <;> simp only [ck_var,ck_bor,ck_cst,ck_glob,ck_bin,ck_neg,ck_not,ck_and,ck_or,ck_ite,ck_cmp,ck_chain,ck_tup,ck_lst,ck_idx,ck_slice,ck_blt,ck_call,ck_comp,Bool.false_eq_true] at h
    exact ⟨s_var h,test_val (s_var h) rfl⟩
  | .bor i,X,e,g,h => by
    cases e <;> simp only [ck_var,ck_bor,ck_cst,ck_glob,ck_bin,ck_neg,ck_not,ck_and,ck_or,ck_ite,ck_cmp,ck_chain,ck_tup,ck_lst,ck_idx,ck_slice,ck_blt,ck_call,ck_comp,Bool.false_eq_true] at h
    exact ⟨s_bor h,test_val (s_bor h) rfl⟩
  | .cst v,X,e,g,h => by
    cases e <;> simp only [ck_var,ck_bor,ck_cst,ck_glob,ck_bin,ck_neg,ck_not,ck_and,ck_or,ck_ite,ck_cmp,ck_chain,ck_tup,ck_lst,ck_idx,ck_slice,ck_blt,ck_call,ck_comp,Bool.false_eq_true] at h
    exact ⟨s_cst h,test_val (s_cst h) rfl⟩
  | .glob x v,X,e,g,h => by
    cases e <;> try (simp only [ck_var,ck_bor,ck_cst,ck_glob,ck_bin,ck_neg,ck_not,ck_and,ck_or,ck_ite,ck_cmp,ck_chain,ck_tup,ck_lst,ck_idx,ck_slice,ck_blt,ck_call,ck_comp,Bool.false_eq_true] at h; done)
    exact ⟨s_glob g h,test_val (s_glob g h) rfl⟩
  | .bin op a b,X,e,g,h => by
    cases e <;> simp only [ck_var,ck_bor,ck_cst,ck_glob,ck_bin,ck_neg,ck_not,ck_and,ck_or,ck_ite,ck_cmp,ck_chain,ck_tup,ck_lst,ck_idx,ck_slice,ck_blt,ck_call,ck_comp,Bool.false_eq_true,Bool.and_eq_true,beq_iff_eq] at h
    obtain ⟨⟨rfl,h1⟩,h2⟩:=h
    have p:=fun (pos:Pos) => s_bin (op:=op) (pos:=pos) (sound a g h1).1 (sound b g h2).1
    exact ⟨p _,test_val (p _) rfl⟩
  | .neg _,X,e,g,h => absurd (show false = true from h) Bool.false_ne_true
  | .not a,X,e,g,h => by
    cases e with
    | UnaryOp op x pos =>
      cases op <;> simp only [ck_var,ck_bor,ck_cst,ck_glob,ck_bin,ck_neg,ck_not,ck_and,ck_or,ck_ite,ck_cmp,ck_chain,ck_tup,ck_lst,ck_idx,ck_slice,ck_blt,ck_call,ck_comp,Bool.false_eq_true] at h
      exact ⟨s_not (sound a g h).1,t_not (sound a g h).2⟩
    | _ => cases (show false = true from h)
  | .and a b,X,e,g,h => by
    cases e with
    | BoolOp op vs pos =>
      cases op with
      | Or => cases (show false = true from h)
      | And =>
        match vs,h with
        | [],h => cases (show false = true from h)
        | [x],h => cases (show false = true from h)
        | [x,y],h =>
          have h:(chk T a X.N X.env.scope x && chk T b X.N X.env.scope y) = true:=h
          simp only [Bool.and_eq_true] at h
          exact ⟨s_and (sound a g h.1).1 (pe_one (sound b g h.2).1),t_and (sound a g h.1).2 (pw_and1 (sound b g h.2).2)⟩
        | x :: y :: z :: r,h =>
          have h:(chk T a X.N X.env.scope x && chk T b X.N X.env.scope (.BoolOp .And (y :: z :: r) pos)) = true:=h
          simp only [Bool.and_eq_true] at h
          exact ⟨s_and (sound a g h.1).1 (sound b g h.2).1,t_and (sound a g h.1).2 (pw_of (sound b g h.2).2)⟩
    | _ => cases (show false = true from h)
  | .or a b,X,e,g,h => by
    cases e with
    | BoolOp op vs pos =>
      cases op with
      | And => cases (show false = true from h)
      | Or =>
        match vs,h with
        | [],h => cases (show false = true from h)
        | [x],h => cases (show false = true from h)
        | [x,y],h =>
          have h:(chk T a X.N X.env.scope x && chk T b X.N X.env.scope y) = true:=h
          simp only [Bool.and_eq_true] at h
          exact ⟨s_or (sound a g h.1).1 (pe_one (sound b g h.2).1),t_or (sound a g h.1).2 (pw_or1 (sound b g h.2).2)⟩
        | x :: y :: z :: r,h =>
          have h:(chk T a X.N X.env.scope x && chk T b X.N X.env.scope (.BoolOp .Or (y :: z :: r) pos)) = true:=h
          simp only [Bool.and_eq_true] at h
          exact ⟨s_or (sound a g h.1).1 (sound b g h.2).1,t_or (sound a g h.1).2 (pw_of (sound b g h.2).2)⟩
    | _ => cases (show false = true from h)
  | .ite c a b,X,e,g,h => by
    cases e <;> simp only [ck_var,ck_bor,ck_cst,ck_glob,ck_bin,ck_neg,ck_not,ck_and,ck_or,ck_ite,ck_cmp,ck_chain,ck_tup,ck_lst,ck_idx,ck_slice,ck_blt,ck_call,ck_comp,Bool.false_eq_true,Bool.and_eq_true,Bool.not_eq_true'] at h
    obtain ⟨⟨⟨⟨h1,h2⟩,h3⟩,h4⟩,h5⟩:=h
    exact ⟨s_ite (sound c g h1).2 (sound a g h2).1 (sound b g h3).1 h4 h5,t_ite (sound c g h1).2 (sound a g h2).2 (sound b g h3).2⟩
  | .cmp op a b,X,e,g,h => by
    cases e with
    | Compare l ops rs pos =>
      match ops,rs,h with
      | [o],[r],h =>
        simp only [ck_var,ck_bor,ck_cst,ck_glob,ck_bin,ck_neg,ck_not,ck_and,ck_or,ck_ite,ck_cmp,ck_chain,ck_tup,ck_lst,ck_idx,ck_slice,ck_blt,ck_call,ck_comp,Bool.and_eq_true,beq_iff_eq,Bool.not_eq_true'] at h
        obtain ⟨⟨⟨rfl,h1⟩,h2⟩,h3⟩:=h
        exact s_cmp g (sound a g h1).1 (sound b g h2).1 h3
      | [],_,h => cases (show false = true from h)
      | [_],[],h => cases (show false = true from h)
      | [_],_ :: _ :: _,h => cases (show false = true from h)
      | _ :: _ :: _,_,h => cases (show false = true from h)
    | _ => cases (show false = true from h)
  | .chain op op' a b c,X,e,g,h => by
    cases e with
    | Compare l ops rs pos =>
      match ops,rs,h with
      | [o,o'],[m,r],h =>
        simp only [ck_var,ck_bor,ck_cst,ck_glob,ck_bin,ck_neg,ck_not,ck_and,ck_or,ck_ite,ck_cmp,ck_chain,ck_tup,ck_lst,ck_idx,ck_slice,ck_blt,ck_call,ck_comp,Bool.and_eq_true,beq_iff_eq,Bool.not_eq_true'] at h
        obtain ⟨⟨⟨⟨⟨rfl,rfl⟩,h1⟩,h2⟩,h3⟩,h4⟩:=h
        exact s_chain g (sound a g h1).1 (sound b g h2).1 (sound c g h3).1 h4
      | [],_,h => cases (show false = true from h)
      | [_],_,h => cases (show false = true from h)
      | [_,_],[],h => cases (show false = true from h)
      | [_,_],[_],h => cases (show false = true from h)
      | [_,_],_ :: _ :: _ :: _,h => cases (show false = true from h)
      | _ :: _ :: _ :: _,_,h => cases (show false = true from h)
    | _ => cases (show false = true from h)
  | .tup es,X,e,g,h => by
    cases e <;> simp only [ck_var,ck_bor,ck_cst,ck_glob,ck_bin,ck_neg,ck_not,ck_and,ck_or,ck_ite,ck_cmp,ck_chain,ck_tup,ck_lst,ck_idx,ck_slice,ck_blt,ck_call,ck_comp,Bool.false_eq_true,Bool.and_eq_true] at h
    have p:=fun (j:Nat) (pos:Pos) => s_tup (j:=j) (pos:=pos) (sounds es g h.1) h.2
    exact ⟨p _ _,test_val (p _ _) rfl⟩
  | .lst es,X,e,g,h => by
    cases e <;> simp only [ck_var,ck_bor,ck_cst,ck_glob,ck_bin,ck_neg,ck_not,ck_and,ck_or,ck_ite,ck_cmp,ck_chain,ck_tup,ck_lst,ck_idx,ck_slice,ck_blt,ck_call,ck_comp,Bool.false_eq_true,Bool.and_eq_true] at h
    have p:=fun (pos:Pos) => fresh_val (fun ρ v hv => by
      rw [ev,Option.bind_eq_some_iff] at hv
      obtain ⟨vs,_,hv⟩:=hv
      split at hv
      · cases hv; exact ⟨_,rfl⟩
      · cases hv) (s_lst (pos:=pos) (sounds es g h.1) h.2)
    exact ⟨p _,test_val (p _) rfl⟩
  | .idx a i,X,e,g,h => by
    cases e with
    | Subscript v s pos =>
      cases s <;> first
        | (simp only [ck_var,ck_bor,ck_cst,ck_glob,ck_bin,ck_neg,ck_not,ck_and,ck_or,ck_ite,ck_cmp,ck_chain,ck_tup,ck_lst,ck_idx,ck_slice,ck_blt,ck_call,ck_comp,Bool.and_eq_true,Bool.false_eq_true] at h
           obtain ⟨⟨h1,h2⟩,h3⟩:=h
           have p:=s_idx (pos:=pos) (sound a g h1).1 (sound i g h2).1 h3
           exact ⟨p,test_val p rfl⟩)
        | (simp [ck_var,ck_bor,ck_cst,ck_glob,ck_bin,ck_neg,ck_not,ck_and,ck_or,ck_ite,ck_cmp,ck_chain,ck_tup,ck_lst,ck_idx,ck_slice,ck_blt,ck_call,ck_comp,notSlice] at h)
    | _ => cases (show false = true from h)
  | .slice a lo hi,X,e,g,h => by
    cases e with
    | Subscript v s pos =>
      cases s with
      | Slice l u st p2 =>
        cases st with
        | none =>
          have h:(chk T a X.N X.env.scope v && boundB (fun e => chk T lo X.N X.env.scope e) (isNonE lo) l && boundB (fun e => chk T hi X.N X.env.scope e) (isNonE hi) u) = true:=h
          simp only [Bool.and_eq_true] at h
          obtain ⟨⟨h1,h2⟩,h3⟩:=h
          have q1:PO X l (tB1 X.K cal lo):=by
            cases l with
            | none => exact b_none h2
            | some l =>
              simp only [boundB,Bool.and_eq_true,Bool.not_eq_true'] at h2
              exact b_some (sound lo g h2.1).1 h2.2
          have q2:PO X u (tB1 X.K cal hi):=by
            cases u with
            | none => exact b_none h3
            | some u =>
              simp only [boundB,Bool.and_eq_true,Bool.not_eq_true'] at h3
              exact b_some (sound hi g h3.1).1 h3.2
          have p:=s_slice (p2:=p2) (pos:=pos) (sound a g h1).1 q1 q2
          exact ⟨p,test_val p rfl⟩
        | some _ => cases (show false = true from h)
      | _ => cases (show false = true from h)
    | _ => cases (show false = true from h)
  | .blt b es,X,e,g,h => by
    cases e with
    | Call fn args kws pos =>
      cases fn with
      | Name x p =>
        cases kws with
        | nil =>
          have h:(x == (bltOf b:Str) && glB X.env.scope x && bltArgs X.env.scope (fun xs => chks T es X.N X.env.scope xs) es.length b args) = true:=h
          simp only [Bool.and_eq_true,beq_iff_eq] at h
          obtain ⟨⟨hx,hg⟩,ha⟩:=h
          have q:=(s_bltAll (p:=p) (pos:=pos) g hx hg ha (fun xs hxs => ⟨sounds es g hxs,chks_star hxs⟩) (fun m x hm hx => match es,hm with | [m'],rfl => (sound m' g (by simp only [chks,Bool.and_eq_true] at hx; exact hx.1.1)).1) (fun a b x x' hm hx => match es,hm with | [m1,m2],rfl => ⟨(sound m1 g (by simp only [chks,Bool.and_eq_true] at hx; exact hx.1.1)).1,(sound m2 g (by simp only [chks,Bool.and_eq_true] at hx; exact hx.2.1.1)).1⟩)).2
          exact ⟨q,test_val q rfl⟩
        | cons _ _ => cases (show false = true from h)
      | _ => cases (show false = true from h)
    | _ => cases (show false = true from h)
  | .call f es,X,e,g,h => by
    cases e with
    | Call fn args kws pos =>
      cases fn with
      | Name x p =>
        cases kws with
        | nil =>
          have h:(T.fs[f]? == some x && glB X.env.scope x && plainName x && chks T es X.N X.env.scope args) = true:=h
          simp only [Bool.and_eq_true,beq_iff_eq] at h
          obtain ⟨⟨⟨h1,h2⟩,h3⟩,h4⟩:=h
          obtain ⟨hs,hl⟩:=chks_star h4
          have q:=s_call (p:=p) (pos:=pos) g h1 h2 h3 (soundA es g h4) hs hl
          exact ⟨q,test_val q rfl⟩
        | cons _ _ => cases (show false = true from h)
      | _ => cases (show false = true from h)
    | _ => cases (show false = true from h)
  | .callD _ _ _,X,e,g,h => absurd (show false = true from h) Bool.false_ne_true
  | .fld i n,X,e,g,h => by
    obtain ⟨z,e1,h2⟩:=onO_of (show onO (fldX e) (fun q => fldN[n]? == some q.2 && nameAt X.N X.env.scope i q.1) = true from h)
    obtain ⟨p,ap,rfl⟩:=fldX_of e1
    obtain ⟨h3,h4⟩:=Bool.and_eq_true_iff.mp h2
    have q:=s_fld (p:=p) (ap:=ap) g (eq_of_beq h3) h4
    exact ⟨q,test_val q rfl⟩
  | .fldL i,X,e,g,h => by
    obtain ⟨z,e1,h2⟩:=onO_of (show onO (fldX e) (fun q => q.2 == ("taken":Str) && nameAt X.N X.env.scope i q.1) = true from h)
    obtain ⟨p,ap,rfl⟩:=fldX_of e1
    obtain ⟨h3,h4⟩:=Bool.and_eq_true_iff.mp h2
    rw [eq_of_beq h3]
    have q:=s_fldL (p:=p) (ap:=ap) g h4
    exact ⟨q,test_val q rfl⟩
  | .inO neg me i,X,e,g,h => by
    obtain ⟨z,e1,h⟩:=onO_of (show onO (cmpX e) (fun z => onO (fldX z.2.2) fun q => z.2.1 == (if neg = true then CmpOp.NotIn else CmpOp.In) && chk T me X.N X.env.scope z.1 && q.2 == ("taken":Str) && nameAt X.N X.env.scope i q.1) = true from h)
    have hz:=inO_of e1 h
    exact s_inO2 g hz (sound me g hz.1).1
  | .callV f es,X,e,g,h => by
    obtain ⟨z,e1,h⟩:=onO_of (show onO (calX0 e) (fun q => T.fs[f]? == some q.1 && glB X.env.scope q.1 && plainName q.1 && chks T es X.N X.env.scope q.2) = true from h)
    obtain ⟨p,cp,rfl⟩:=calX0_of e1
    obtain ⟨a1,h4⟩:=Bool.and_eq_true_iff.mp h
    obtain ⟨a2,h3⟩:=Bool.and_eq_true_iff.mp a1
    obtain ⟨h1,h2⟩:=Bool.and_eq_true_iff.mp a2
    obtain ⟨hs,hl⟩:=chks_star h4
    have q:=s_callV (p:=p) (pos:=cp) g (eq_of_beq h1) h2 h3 (soundA es g h4) hs hl
    exact ⟨q,test_val q rfl⟩
  | .comp2 src js cond elt,X,e,g,h => by
    obtain ⟨z,e1,h⟩:=onO_of (show onO (comp2X e) (fun q => compScB2 X.env.scope X.N q.2.2.2.1 q.2.2.2.2.1 q.2.2.2.2.2 (fvsOf X.N js) js && chkW X.env.scope true (fun xs => chks T src X.N X.env.scope xs) .enm q.2.1 && condB (fun c => chk T cond (q.2.2.2.2.1 :: ([q.2.2.2.2.2] ++ fvsOf X.N js)) (relS q.2.2.2.1 X.env.scope) c) cond q.2.2.1 && chk T elt (q.2.2.2.2.1 :: ([q.2.2.2.2.2] ++ fvsOf X.N js)) (relS q.2.2.2.1 X.env.scope) q.1 && !isBor elt) = true from h)
    obtain ⟨px,py,j,tp,pos,rfl⟩:=comp2X_of e1
    obtain ⟨a1,h5⟩:=Bool.and_eq_true_iff.mp h
    obtain ⟨a2,h4⟩:=Bool.and_eq_true_iff.mp a1
    obtain ⟨a3,h3⟩:=Bool.and_eq_true_iff.mp a2
    obtain ⟨h1,h2⟩:=Bool.and_eq_true_iff.mp a3
    have h5:isBor elt = false:=by simpa using h5
    have hw:=s_walk (tg:=.Tuple [.Name z.2.2.2.2.1 px,.Name z.2.2.2.2.2 py] j tp) (fun _ => ⟨_,_,_,rfl⟩) g h2 (fun xs hxs => ⟨sounds src g hxs,chks_star hxs⟩) (fun m x hm hx => match src,hm with | [m'],rfl => (sound m' g (by simp only [chks,Bool.and_eq_true] at hx; exact hx.1.1)).1)
    have q:=fresh_val comp2_lst (s_comp2 (pos:=pos) g h1 (fun s₁ H₁ C fp => pg_two g h1) hw.1 hw.2 (fun s₁ H₁ C fp => s_cond h3 fun c hc => (sound cond (g.blk z.2.2.2.2.1 ([z.2.2.2.2.2] ++ fvsOf X.N js) z.2.2.2.1 s₁ H₁ C fp) hc).2) (fun s₁ H₁ C fp => (sound elt (g.blk z.2.2.2.2.1 ([z.2.2.2.2.2] ++ fvsOf X.N js) z.2.2.2.1 s₁ H₁ C fp) h4).1) h5)
    exact ⟨q,test_val q rfl⟩
  | .callM f i es,X,e,g,h => by
    obtain ⟨z,e1,h⟩:=onO_of (show onO (metX e) (fun q => metB X.N X.env.scope T.ms f i (fun xs => chks T es X.N X.env.scope xs) q) = true from h)
    obtain ⟨p,rfl⟩:=metX_of e1
    obtain ⟨h1,h2,h3,h4,h5,h6⟩:=metB_of h
    obtain ⟨hs,hl⟩:=chks_star h4
    have q:=s_callM (p:=p) g h1 h2 h3 (soundA es g h4) hs hl h5 h6
    exact ⟨q,test_val q rfl⟩
  | .dIn neg mk ma,X,e,g,h => by
    cases e with
    | Compare l ops rs pos =>
      match ops,rs,h with
      | [o],[r],h =>
        simp only [ck_dIn,Bool.and_eq_true,beq_iff_eq,Bool.not_eq_true'] at h
        obtain ⟨⟨⟨rfl,h1⟩,h2⟩,h3⟩:=h
        exact s_dIn g (sound mk g h1).1 (sound ma g h2).1 h3
      | [],_,h => cases (show false = true from h)
      | [_],[],h => cases (show false = true from h)
      | [_],_ :: _ :: _,h => cases (show false = true from h)
      | _ :: _ :: _,_,h => cases (show false = true from h)
    | _ => cases (show false = true from h)
  | .dat ma mk,X,e,g,h => by
    cases e with
    | Subscript v s pos =>
      simp only [ck_dat,Bool.and_eq_true] at h
      have p:=s_dat (pos:=pos) g (sound ma g h.1.1).1 (sound mk g h.1.2).1 h.2
      exact ⟨p,test_val p rfl⟩
    | _ => simp only [ck_dat,Bool.false_eq_true] at h
  | .dget ma mk md,X,e,g,h => by
    cases e with
    | Call fn args kws pos =>
      cases fn with
      | Attribute o m ap =>
        match args,kws,h with
        | [x,y],[],h =>
          simp only [ck_dget,Bool.and_eq_true,beq_iff_eq] at h
          obtain ⟨⟨⟨⟨⟨⟨⟨rfl,h1⟩,h2⟩,h3⟩,h4⟩,h5⟩,h6⟩,h7⟩:=h
          have p:=s_dget (ap:=ap) (cp:=pos) g (sound ma g h3).1 (sound mk g h4).1 (sound md g h5).1 h1 (by rw [h2]; simp) h6 h7
          exact ⟨p,test_val p rfl⟩
        | [],_,h => cases (show false = true from h)
        | [_],_,h => cases (show false = true from h)
        | _ :: _ :: _ :: _,_,h => cases (show false = true from h)
        | [_,_],_ :: _,h => cases (show false = true from h)
      | _ => cases (show false = true from h)
    | _ => cases (show false = true from h)
  | .comp k' src js cond elt,X,e,g,h => by
    cases e with
    | ListComp e gens scope pos =>
      match gens,h with
      | [],h => cases (show false = true from h)
      | ⟨tg,it,ifs,as⟩ :: [],h =>
        cases tg with
        | Name x px =>
          by_cases has:as = 0
          · subst has
            have h:(compScB X.env.scope X.N scope x (fvsOf X.N js) js && chkW X.env.scope false (fun xs => chks T src X.N X.env.scope xs) k' it && condB (fun c => chk T cond (x :: fvsOf X.N js) (relS scope X.env.scope) c) cond ifs && chk T elt (x :: fvsOf X.N js) (relS scope X.env.scope) e && !isBor elt) = true:=h
            simp only [Bool.and_eq_true,Bool.not_eq_true'] at h
            obtain ⟨⟨⟨⟨h1,h2⟩,h3⟩,h4⟩,h5⟩:=h
            have hw:=s_walk (tg:=.Name x px) (fun z => by cases z) g h2 (fun xs hxs => ⟨sounds src g hxs,chks_star hxs⟩) (fun m x hm hx => match src,hm with | [m'],rfl => (sound m' g (by simp only [chks,Bool.and_eq_true] at hx; exact hx.1.1)).1)
            have q:=fresh_val comp_lst (s_comp (pos:=pos) g h1 hw.1 hw.2 (fun s₁ H₁ C fp => s_cond h3 fun c hc => (sound cond (g.blk x (fvsOf X.N js) scope s₁ H₁ C fp) hc).2) (fun s₁ H₁ C fp => (sound elt (g.blk x (fvsOf X.N js) scope s₁ H₁ C fp) h4).1) h5)
            exact ⟨q,test_val q rfl⟩
          · exact absurd h (by
              have:chk T (.comp k' src js cond elt) X.N X.env.scope (.ListComp e [⟨.Name x px,it,ifs,as⟩] scope pos) = false:=by
                rw [ck_comp]
                split <;> first | rfl | (rename_i z; simp_all)
              rw [this]; exact Bool.false_ne_true)
        | _ => cases (show false = true from h)
      | _ :: _ :: _,h => simp [ck_comp] at h
    | _ => cases (show false = true from h)
theorem sounds {T:Tab} {k:Nat} {cal:Cal}:∀ (ms:List ME) {X:Cx} {es:List Expr},Gf X T k cal -> chks T ms X.N X.env.scope es = true -> PA X es (tEs X.K cal ms)
 | [],X,es,g,h => by
  cases es with
  | nil => exact arg_nil
  | cons _ _ => simp [chks] at h
 | m :: ms,X,es,g,h => by
  cases es with
  | nil => simp [chks] at h
  | cons e es =>
   simp only [chks,Bool.and_eq_true] at h
   exact arg_cons (sound m g h.1.1).1 (sounds ms g h.2) h.1.2
theorem soundA {T:Tab} {k:Nat} {cal:Cal}:∀ (ms:List ME) {X:Cx} {es:List Expr},Gf X T k cal -> chks T ms X.N X.env.scope es = true -> PA X es (tAs X.K cal ms)
 | [],X,es,g,h => by
  cases es with
  | nil => exact call_nil
  | cons _ _ => simp [chks] at h
 | m :: ms,X,es,g,h => by
  cases es with
  | nil => simp [chks] at h
  | cons e es =>
   simp only [chks,Bool.and_eq_true] at h
   have hs:=soundA ms g h.2
   cases hb:isBor m with
   | false => exact call_cons hb (sound m g h.1.1).1 hs h.1.2
   | true =>
    have hp:=(sound m g h.1.1).1
    rcases bor_or hb with ⟨i,rfl⟩ | ⟨i,rfl⟩
    rotate_left
    ·exact (pa_cons hp hs (star1 h.1.2 es _)).imp fun σ H Q q => by
      obtain ⟨B,O₀,O,ρ,vs,st,e1,q⟩:=q
      cases (show none = some vs from e1)
    have h1:=h.1.1
    cases e <;> simp only [ck_var,ck_bor,ck_cst,ck_glob,ck_bin,ck_neg,ck_not,ck_and,ck_or,ck_ite,ck_cmp,ck_chain,ck_tup,ck_lst,ck_idx,ck_slice,ck_blt,ck_call,ck_comp,Bool.false_eq_true] at h1
    exact call_bor h1 hs
end
theorem soundF {T:Tab} {k:Nat} {cal:Cal} {me:ME} {X:Cx} {e:Expr} (g:Gf X T k cal) (h:chk T me X.N X.env.scope e = true) (hf:freshB me = true):PE X e (tF X.K cal me):=by
 cases me with
 | lst es =>
  cases e <;> simp only [ck_var,ck_bor,ck_cst,ck_glob,ck_bin,ck_neg,ck_not,ck_and,ck_or,ck_ite,ck_cmp,ck_chain,ck_tup,ck_lst,ck_idx,ck_slice,ck_blt,ck_call,ck_comp,Bool.false_eq_true,Bool.and_eq_true] at h
  exact s_lst (sounds es g h.1) h.2
 | blt b es =>
  cases e with
  | Call fn args kws pos =>
   cases fn with
   | Name x p =>
    cases kws with
    | nil =>
     have h:(x == (bltOf b:Str) && glB X.env.scope x && bltArgs X.env.scope (fun xs => chks T es X.N X.env.scope xs) es.length b args) = true:=h
     simp only [Bool.and_eq_true,beq_iff_eq] at h
     obtain ⟨⟨hx,hg⟩,ha⟩:=h
     exact (s_bltAll (p:=p) (pos:=pos) g hx hg ha (fun xs hxs => ⟨sounds es g hxs,chks_star hxs⟩) (fun m x hm hx => match es,hm with | [m'],rfl => (sound m' g (by simp only [chks,Bool.and_eq_true] at hx; exact hx.1.1)).1) (fun a b x x' hm hx => match es,hm with | [m1,m2],rfl => ⟨(sound m1 g (by simp only [chks,Bool.and_eq_true] at hx; exact hx.1.1)).1,(sound m2 g (by simp only [chks,Bool.and_eq_true] at hx; exact hx.2.1.1)).1⟩)).1 hf
    | cons _ _ => cases (show false = true from h)
   | _ => cases (show false = true from h)
  | _ => cases (show false = true from h)
 | comp k' src js cond elt =>
  cases e with
  | ListComp e gens scope pos =>
   match gens,h with
   | [],h => cases (show false = true from h)
   | ⟨tg,it,ifs,as⟩ :: [],h =>
    cases tg with
    | Name x px =>
     by_cases has:as = 0
     ·subst has
      have h:(compScB X.env.scope X.N scope x (fvsOf X.N js) js && chkW X.env.scope false (fun xs => chks T src X.N X.env.scope xs) k' it && condB (fun c => chk T cond (x :: fvsOf X.N js) (relS scope X.env.scope) c) cond ifs && chk T elt (x :: fvsOf X.N js) (relS scope X.env.scope) e && !isBor elt) = true:=h
      simp only [Bool.and_eq_true,Bool.not_eq_true'] at h
      obtain ⟨⟨⟨⟨h1,h2⟩,h3⟩,h4⟩,h5⟩:=h
      have hw:=s_walk (tg:=.Name x px) (fun z => by cases z) g h2 (fun xs hxs => ⟨sounds src g hxs,chks_star hxs⟩) (fun m x hm hx => match src,hm with | [m'],rfl => (sound m' g (by simp only [chks,Bool.and_eq_true] at hx; exact hx.1.1)).1)
      exact s_comp (pos:=pos) g h1 hw.1 hw.2 (fun s₁ H₁ C fp => s_cond h3 fun c hc => (sound cond (g.blk x (fvsOf X.N js) scope s₁ H₁ C fp) hc).2) (fun s₁ H₁ C fp => (sound elt (g.blk x (fvsOf X.N js) scope s₁ H₁ C fp) h4).1) h5
     ·exact absurd h (by
       have:chk T (.comp k' src js cond elt) X.N X.env.scope (.ListComp e [⟨.Name x px,it,ifs,as⟩] scope pos) = false:=by
        rw [ck_comp]
        split <;> first | rfl | (rename_i z; simp_all)
       rw [this]; exact Bool.false_ne_true)
    | _ => cases (show false = true from h)
   | _ :: _ :: _,h => simp [ck_comp] at h
  | _ => cases (show false = true from h)
 | _ => simp [freshB] at hf
end MM
namespace MM
open PySem PySem.Spec PyProof.Rows L2
noncomputable def brwM:MV -> Bool
 | .brw _ => true
 | .brwD _ => true
 | .brwO _ _ => true
 | _ => false
theorem own_brw {m:MV} (h1:ownM m = true) (h2:brwM m = true):False:=by cases m <;> first | (cases h2; done) | (cases h1; done)
structure Keeps (B:Hp) (O O':List Addr) (ρ ρ':Rho) (σ σ':St):Prop where
 stay:∀ a,B a ≠ none -> a ∈ O -> a ∈ O'
 new:∀ a ∈ O',a ∈ O \/ B a = none
 brw:∀ (i:Nat) (m:MV),brwM m = true -> ρ'[i]? = some (some m) -> ρ[i]? = some (some m) /\ σ'[i]? = σ[i]?
 len:ρ'.length = ρ.length
 mutO:∀ (i:Nat) (fs xs:List PV),ρ'[i]? = some (some (.ownO true fs xs)) -> (∃ ys,ρ[i]? = some (some (.ownO true fs ys))) /\ σ'[i]? = σ[i]?
theorem Keeps.refl {B:Hp} {O:List Addr} {ρ:Rho} {σ:St}:Keeps B O O ρ ρ σ σ:=⟨fun _ _ h => h,fun _ h => .inl h,fun _ _ _ h => ⟨h,rfl⟩,rfl,fun _ _ xs h => ⟨⟨xs,h⟩,rfl⟩⟩
theorem Keeps.trans {B:Hp} {O O1 O2:List Addr} {ρ ρ1 ρ2:Rho} {σ σ1 σ2:St} (a:Keeps B O O1 ρ ρ1 σ σ1) (b:Keeps B O1 O2 ρ1 ρ2 σ1 σ2):Keeps B O O2 ρ ρ2 σ σ2 where
 stay:=fun x h1 h2 => b.stay x h1 (a.stay x h1 h2)
 new:=fun x h => (b.new x h).elim (a.new x) .inr
 brw:=fun i xs hm h => by
  obtain ⟨h1,e1⟩:=b.brw i xs hm h
  obtain ⟨h2,e2⟩:=a.brw i xs hm h1
  exact ⟨h2,e1.trans e2⟩
 len:=b.len.trans a.len
 mutO:=fun i fs xs h => by
  obtain ⟨⟨d1,h1⟩,e1⟩:=b.mutO i fs xs h
  obtain ⟨h2,e2⟩:=a.mutO i fs d1 h1
  exact ⟨h2,e1.trans e2⟩
noncomputable def EndOk (K:PySem.W.Frag) (B:Hp) (O₀ O:List Addr) (ρ:Rho) (σ:St) (D:Ends):R -> Prop
 | .next ρ' => ∀ σ' H' O',StOk K B O₀ O' H' ρ' σ' -> Keeps B O O' ρ ρ' σ σ' -> D.nx σ' H'
 | .brk ρ' => ∀ σ' H' O',StOk K B O₀ O' H' ρ' σ' -> Keeps B O O' ρ ρ' σ σ' -> D.bk σ' H'
 | .cont ρ' => ∀ σ' H' O',StOk K B O₀ O' H' ρ' σ' -> Keeps B O O' ρ ρ' σ σ' -> D.ct σ' H'
 | .ret v => ∀ u H',Same B H' -> Rep K (hide H' O₀) v u -> D.rt u H'
 | .retF xs => ∀ p us H',Same B H' -> B p = none -> H' p = some (.lst us) -> Reps K (hide H' (p :: O₀)) xs us -> D.rt (.ref p) H'
 | .retT v ρ' => ∀ σ' H' O',StOk K B O₀ O' H' ρ' σ' -> Keeps B O O' ρ ρ' σ σ' -> D.rt v.v H'
 | .bad => False
theorem EndOk.trans {K:PySem.W.Frag} {B:Hp} {O₀ O O':List Addr} {ρ ρ':Rho} {σ σ':St} {D:Ends} {r:R} (h:EndOk K B O₀ O ρ σ D r) (k:Keeps B O O' ρ ρ' σ σ'):EndOk K B O₀ O' ρ' σ' D r:=by
 cases r with
 | next ρ2 => exact fun σ2 H2 O2 st k2 => h σ2 H2 O2 st (k.trans k2)
 | brk ρ2 => exact fun σ2 H2 O2 st k2 => h σ2 H2 O2 st (k.trans k2)
 | cont ρ2 => exact fun σ2 H2 O2 st k2 => h σ2 H2 O2 st (k.trans k2)
 | ret v => exact h
 | bad => exact h
 | retF xs => exact h
 | retT v ρ2 => exact fun σ2 H2 O2 st k2 => h σ2 H2 O2 st (k.trans k2)
noncomputable def tS (K:PySem.W.Frag) (cal:Cal) (m:MS):TS:=fun D σ H => ∃ B O₀ O ρ,StOk K B O₀ O H ρ σ /\ EndOk K B O₀ O ρ σ D (ex cal m ρ)
noncomputable def tSs (K:PySem.W.Frag) (cal:Cal) (ms:List MS):TS:=fun D σ H => ∃ B O₀ O ρ,StOk K B O₀ O H ρ σ /\ EndOk K B O₀ O ρ σ D (exs cal ms ρ)
section
variable {K:PySem.W.Frag} {B H H':Hp} {O₀ O:List Addr} {ρ:Rho} {σ:St}
theorem getElem?_put_self {i:Nat} {m:MV} (h:i < ρ.length):(put ρ i m)[i]? = some (some m):=by unfold put; exact List.getElem?_set_self h
theorem getElem?_put_ne {i j:Nat} {m:MV} (h:i ≠ j):(put ρ i m)[j]? = ρ[j]?:=by unfold put; exact List.getElem?_set_ne h
theorem put_len {i:Nat} {m:MV}:(put ρ i m).length = ρ.length:=by unfold put; exact List.length_set
theorem StOk.store (st:StOk K B O₀ O H ρ σ) {i:Nat} {v:PV} {u:V} (hi:i < σ.length) (r:Rep K (hide H O) v u):StOk K B O₀ O H (put ρ i (.val v)) (σ.set i (some u)) /\ Keeps B O O ρ (put ρ i (.val v)) σ (σ.set i (some u)):=by
 have hi':i < ρ.length:=by rw [st.len]; exact hi
 refine ⟨⟨st.keep,st.here,st.sub,st.old,by rw [put_len,List.length_set]; exact st.len,fun j m e => ?_,fun a b xs ys ad hab e1 e2 o1 o2 e3 e4 => ?_
  ,inn_keep st.inn (fun j m0 e l0 => by
   have hj:i ≠ j:=fun z => by subst z; rw [getElem?_put_self hi'] at e; cases e; cases l0
   rw [getElem?_put_ne hj] at e
   exact ⟨⟨m0,e,l0⟩,List.getElem?_set_ne hj,fun _ _ _ h => h⟩) fun j m c e _ o es => .inl (by
   have hj:i ≠ j:=fun z => by subst z; rw [getElem?_put_self hi'] at e; cases e; cases o
   rw [getElem?_put_ne hj] at e
   rw [List.getElem?_set_ne hj] at es
   exact ⟨m,e,o,es⟩)
  ⟩,⟨fun _ _ h => h,fun _ h => .inl h,fun j xs hbm e => ?_,put_len
  ,fun j fs xs e => by
   have hj:i ≠ j:=fun z => by subst z; rw [getElem?_put_self hi'] at e; cases e
   rw [getElem?_put_ne hj] at e
   exact ⟨⟨xs,e⟩,List.getElem?_set_ne hj⟩
  ⟩⟩
 ·by_cases hj:i = j
  ·subst hj
   rw [getElem?_put_self hi'] at e
   cases e
   exact ⟨u,List.getElem?_set_self hi,r⟩
  ·rw [getElem?_put_ne hj] at e
   obtain ⟨w,e1,q⟩:=st.slot j m e
   exact ⟨w,by rw [List.getElem?_set_ne hj]; exact e1,q⟩
 ·have h1:i ≠ a:=fun z => by subst z; rw [getElem?_put_self hi'] at e1; cases e1; cases o1
  have h2:i ≠ b:=fun z => by subst z; rw [getElem?_put_self hi'] at e2; cases e2; cases o2
  rw [getElem?_put_ne h1] at e1
  rw [getElem?_put_ne h2] at e2
  rw [List.getElem?_set_ne h1] at e3
  rw [List.getElem?_set_ne h2] at e4
  exact st.apart a b xs ys ad hab e1 e2 o1 o2 e3 e4
 ·have hj:i ≠ j:=fun z => by subst z; rw [getElem?_put_self hi'] at e; cases e; cases hbm
  rw [getElem?_put_ne hj] at e
  exact ⟨e,List.getElem?_set_ne hj⟩
theorem StOk.storeM (st:StOk K B O₀ O H ρ σ) {i:Nat} {mm:MV} {p:Addr} (hi:i < σ.length) (s:Same H H') (hp:H p = none) (e:H' p ≠ none) (hm:ownM mm = true)
  (r:B p = none -> SlotOk K B (p :: O) H' mm (.ref p))
  (hLL:isL mm = false:=by rfl)
  :
  StOk K B O₀ (p :: O) H' (put ρ i mm) (σ.set i (some (.ref p))) /\ Keeps B O (p :: O) ρ (put ρ i mm) σ (σ.set i (some (.ref p))):=by
 have hi':i < ρ.length:=by rw [st.len]; exact hi
 have hBp:B p = none:=st.keep.free hp
 have vis:Same (hide H O) (hide H' (p :: O)):=hide_mono s fun b hb => by
  rcases List.mem_cons.mp hb with rfl | hb
  ·exact .inr hp
  ·exact .inl hb
 refine ⟨⟨st.keep.trans s,fun a ha => ?_,fun a ha => List.mem_cons_of_mem _ (st.sub a ha),st.old,by rw [put_len,List.length_set]; exact st.len,fun j m ej => ?_,fun a b xs ys ad hab e1 e2 o1 o2 e3 e4 => ?_
  ,inn_keep (st.mono s).inn (fun j m0 e l0 => by
   have hj:i ≠ j:=fun z => by subst z; rw [getElem?_put_self hi'] at e; cases e; rw [hLL] at l0; cases l0
   rw [getElem?_put_ne hj] at e
   exact ⟨⟨m0,e,l0⟩,List.getElem?_set_ne hj,fun _ _ _ h => h⟩) fun j m c e _ o es => by
   by_cases hj:i = j
   ·subst hj
    rw [List.getElem?_set_self hi] at es
    cases es
    refine .inr fun k m1 a l f1 f0 f2 f3 z => ?_
    subst z
    obtain ⟨u,e3,q⟩:=st.slot k _ f1
    rw [f2] at e3
    cases e3
    cases m1 <;> try (cases f0; done)
    obtain ⟨a',l',e4,q⟩:=q
    cases e4
    obtain ⟨C,dx,gs,e5,_⟩:=q.ob
    have e6:=q.l
    rw [s _ _ e5] at f3
    rw [e5] at e6
    rw [e6] at f3
    cases f3
    obtain ⟨us,e7,_⟩:=q.li
    rw [hp] at e7
    cases e7
   ·rw [getElem?_put_ne hj] at e
    rw [List.getElem?_set_ne hj] at es
    exact .inl ⟨m,e,o,es⟩
  ⟩,⟨fun _ _ h => List.mem_cons_of_mem _ h,fun a ha => ?_,fun j xs hbm ej => ?_,put_len
  ,fun j fs xs ej => by
   have hj:i ≠ j:=fun z => by subst z; rw [getElem?_put_self hi'] at ej; cases ej; cases hLL
   rw [getElem?_put_ne hj] at ej
   exact ⟨⟨xs,ej⟩,List.getElem?_set_ne hj⟩
  ⟩⟩
 ·rcases List.mem_cons.mp ha with rfl | ha
  ·exact e
  ·exact fun z => st.here a ha (s.free z)
 ·by_cases hj:i = j
  ·subst hj
   rw [getElem?_put_self hi'] at ej
   cases ej
   exact ⟨_,List.getElem?_set_self hi,r hBp⟩
  ·rw [getElem?_put_ne hj] at ej
   obtain ⟨w,e1,q⟩:=st.slot j m ej
   refine ⟨w,by rw [List.getElem?_set_ne hj]; exact e1,?_⟩
   cases m with
   | val v => exact Rep.mono vis _ q
   | own ys => obtain ⟨a,ws,e2,h1,h2,h3,h4⟩:=q; exact ⟨a,ws,e2,s _ _ h1,Reps.mono vis _ h2,List.mem_cons_of_mem _ h3,h4⟩
   | brw ys => obtain ⟨a,ws,e2,h1,h2⟩:=q; exact ⟨a,ws,e2,h1,Reps.mono vis _ h2⟩
   | ownD ys => obtain ⟨a,e2,h1,h3,h4⟩:=q; exact ⟨a,e2,s _ _ h1,List.mem_cons_of_mem _ h3,h4⟩
   | ownO _ fs ys => obtain ⟨a,l,e2,q⟩:=q; exact ⟨a,l,e2,q.move vis (fun _ => s _ _) (fun _ => s _ _) (List.mem_cons_of_mem _ q.aO) (List.mem_cons_of_mem _ q.lO) q.aB q.lB⟩
   | brwO fs ys => obtain ⟨a,e2,q⟩:=q; exact ⟨a,e2,q.move (Same.refl B) vis⟩
   | brwD ys => exact q
 ·have other:∀ (j:Nat) (zs:MV) (ad:Addr),ρ[j]? = some (some zs) -> ownM zs = true -> σ[j]? = some (some (.ref ad)) -> ad ≠ p:=fun j zs ad h1 ho h2 z => by
   obtain ⟨w,e1,q⟩:=st.slot j _ h1
   rw [h2] at e1
   cases e1
   cases zs with
   | own zs =>
    obtain ⟨a,ws,e2,h1,_⟩:=q
    cases e2
    rw [z,hp] at h1; cases h1
   | ownD zs =>
    obtain ⟨a,e2,h1,_⟩:=q
    cases e2
    rw [z,hp] at h1; cases h1
   | ownO _ fs zs =>
    obtain ⟨a,l,e2,q⟩:=q
    cases e2
    obtain ⟨C,dx,gs,h1,_⟩:=q.ob
    rw [z,hp] at h1; cases h1
   | brwO _ _ => cases ho
   | val _ => cases ho
   | brw _ => cases ho
   | brwD _ => cases ho
  by_cases ha:i = a
  ·subst ha
   have hb:i ≠ b:=hab
   rw [List.getElem?_set_self hi] at e3
   rw [getElem?_put_ne hb] at e2
   rw [List.getElem?_set_ne hb] at e4
   cases e3
   exact other b ys _ e2 o2 e4 rfl
  ·by_cases hb:i = b
   ·subst hb
    rw [List.getElem?_set_self hi] at e4
    rw [getElem?_put_ne ha] at e1
    rw [List.getElem?_set_ne ha] at e3
    cases e4
    exact other a xs _ e1 o1 e3 rfl
   ·rw [getElem?_put_ne ha] at e1
    rw [getElem?_put_ne hb] at e2
    rw [List.getElem?_set_ne ha] at e3
    rw [List.getElem?_set_ne hb] at e4
    exact st.apart a b _ _ ad hab e1 e2 o1 o2 e3 e4
 ·rcases List.mem_cons.mp ha with rfl | ha
  ·exact .inr hBp
  ·exact .inl ha
 ·have hj:i ≠ j:=fun z => by subst z; rw [getElem?_put_self hi'] at ej; cases ej; exact own_brw hm hbm
  rw [getElem?_put_ne hj] at ej
  exact ⟨ej,List.getElem?_set_ne hj⟩
theorem StOk.storeOwn (st:StOk K B O₀ O H ρ σ) {i:Nat} {xs:List PV} {p:Addr} {us:List V} (hi:i < σ.length) (s:Same H H') (hp:H p = none) (e:H' p = some (.lst us)) (r:Reps K (hide H' (p :: O)) xs us) :
  StOk K B O₀ (p :: O) H' (put ρ i (.own xs)) (σ.set i (some (.ref p))) /\ Keeps B O (p :: O) ρ (put ρ i (.own xs)) σ (σ.set i (some (.ref p))) :=
 st.storeM hi s hp (by rw [e]; simp) rfl fun hB => ⟨p,us,rfl,e,r,List.mem_cons_self,hB⟩
theorem StOk.changeM (st:StOk K B O₀ O H ρ σ) {i:Nat} {m0 m1:MV} {a:Addr} {ob:HO} (e:ρ[i]? = some (some m0)) (o0:ownM m0 = true) (o1:ownM m1 = true)
  (es:σ[i]? = some (some (.ref a))) (h3:a ∈ O) (h4:B a = none) (r:hide (upd H a ob) O = hide H O -> SlotOk K B O (upd H a ob) m1 (.ref a))
  (hLL:isL m1 = false:=by rfl) (hL0:isL m0 = false:=by rfl)
  :
  StOk K B O₀ O (upd H a ob) (put ρ i m1) σ /\ Keeps B O O ρ (put ρ i m1) σ σ:=by
 have hi':i < ρ.length:=(List.getElem?_eq_some_iff.mp e).1
 have hid:hide (upd H a ob) O = hide H O:=hide_upd h3
 have other:∀ (j:Nat) (zs:MV) (ad:Addr),i ≠ j -> ρ[j]? = some (some zs) -> ownM zs = true -> σ[j]? = some (some (.ref ad)) -> ad ≠ a:=fun j zs ad hj q1 o2 q2 z => by
  subst z
  exact st.apart i j m0 zs ad hj e q1 o0 o2 es q2
 refine ⟨⟨fun b u eb => ?_,fun b hb => ?_,st.sub,st.old,by rw [put_len]; exact st.len,fun j m ej => ?_,fun c d ps qs ad hcd e1 e2 p1 p2 e3 e4 => ?_
  ,inn_keep st.inn (fun j mo ej l0 => by
   have hj:i ≠ j:=fun z => by subst z; rw [getElem?_put_self hi'] at ej; cases ej; rw [hLL] at l0; cases l0
   rw [getElem?_put_ne hj] at ej
   refine ⟨⟨mo,ej,l0⟩,rfl,fun b l e1 e2 => ?_⟩
   rw [upd_ne (other j _ b hj ej (by cases mo <;> first | (cases l0; done) | rfl) e1)] at e2
   exact e2) fun j m c ej _ o ec => .inl (by
   by_cases hj:i = j
   ·subst hj
    exact ⟨m0,e,o0,ec⟩
   ·rw [getElem?_put_ne hj] at ej
    exact ⟨m,ej,o,ec⟩)
  ⟩,⟨fun _ _ h => h,fun _ h => .inl h,fun j zs hbm ej => ?_,put_len
  ,fun j fs xs ej => by
   have hj:i ≠ j:=fun z => by subst z; rw [getElem?_put_self hi'] at ej; cases ej; cases hLL
   rw [getElem?_put_ne hj] at ej
   exact ⟨⟨xs,ej⟩,rfl⟩
  ⟩⟩
 ·rw [upd_ne (ne_of_none eb h4)]
  exact st.keep b u eb
 ·unfold upd
  split
  ·simp
  ·exact st.here b hb
 ·by_cases hj:i = j
  ·subst hj
   rw [getElem?_put_self hi'] at ej
   cases ej
   exact ⟨_,es,r hid⟩
  ·rw [getElem?_put_ne hj] at ej
   obtain ⟨w,ew,q⟩:=st.slot j m ej
   refine ⟨w,ew,?_⟩
   cases m with
   | val v => show Rep K (hide (upd H a ob) O) v w; rw [hid]; exact q
   | own zs =>
    obtain ⟨ad,ws,rfl,q1,q2,q3,q4⟩:=q
    refine ⟨ad,ws,rfl,?_,by rw [hid]; exact q2,q3,q4⟩
    rw [upd_ne (other j (.own zs) ad hj ej rfl ew)]
    exact q1
   | ownD zs =>
    obtain ⟨ad,rfl,q1,q3,q4⟩:=q
    refine ⟨ad,rfl,?_,q3,q4⟩
    rw [upd_ne (other j (.ownD zs) ad hj ej rfl ew)]
    exact q1
   | ownO b fs zs =>
    obtain ⟨ad,l,rfl,q⟩:=q
    have n1:=other j (.ownO b fs zs) ad hj ej rfl ew
    have n2:=(st.inn j _ ad l ej rfl ew q.l i m0 (fun z => hj z) e).2 a o0 es
    exact ⟨ad,l,rfl,q.move (by rw [hid]; exact Same.refl _) (fun o h => by rw [upd_ne n1]; exact h) (fun o h => by rw [upd_ne (Ne.symm n2)]; exact h) q.aO q.lO q.aB q.lB⟩
   | brwO fs zs => obtain ⟨ad,rfl,q⟩:=q; exact ⟨ad,rfl,q.move (Same.refl B) (by rw [hid]; exact Same.refl _)⟩
   | brwD zs => exact q
   | brw zs => obtain ⟨ad,ws,rfl,q1,q2⟩:=q; exact ⟨ad,ws,rfl,q1,by rw [hid]; exact q2⟩
 ·have h1:∀ (j:Nat) (zs:MV),(put ρ i m1)[j]? = some (some zs) -> ownM zs = true -> ∃ zs,ρ[j]? = some (some zs) /\ ownM zs = true:=fun j zs q oz => by
   by_cases hj:i = j
   ·subst hj; exact ⟨m0,e,o0⟩
   ·rw [getElem?_put_ne hj] at q; exact ⟨zs,q,oz⟩
  obtain ⟨q1,e1,p1⟩:=h1 c ps e1 p1
  obtain ⟨q2,e2,p2⟩:=h1 d qs e2 p2
  exact st.apart c d q1 q2 ad hcd e1 e2 p1 p2 e3 e4
 ·have hj:i ≠ j:=fun z => by subst z; rw [getElem?_put_self hi'] at ej; cases ej; exact own_brw o1 hbm
  rw [getElem?_put_ne hj] at ej
  exact ⟨ej,rfl⟩
theorem StOk.change (st:StOk K B O₀ O H ρ σ) {i:Nat} {xs ys:List PV} {a:Addr} {us:List V} (e:ρ[i]? = some (some (.own xs))) (es:σ[i]? = some (some (.ref a))) (r:Reps K (hide H O) ys us) :
  StOk K B O₀ O (upd H a (.lst us)) (put ρ i (.own ys)) σ /\ Keeps B O O ρ (put ρ i (.own ys)) σ σ:=by
 obtain ⟨w,e1,a',us',e2,h1,h2,h3,h4⟩:=st.slot i _ e
 rw [es] at e1
 cases e1
 cases e2
 exact st.changeM e rfl rfl es h3 h4 fun hid => ⟨a,us,rfl,upd_same,by rw [hid]; exact r,h3,h4⟩
theorem StOk.changeD (st:StOk K B O₀ O H ρ σ) {i:Nat} {xs ys:DD} {a:Addr} (e:ρ[i]? = some (some (.ownD xs))) (es:σ[i]? = some (some (.ref a))) :
  StOk K B O₀ O (upd H a (encD ys)) (put ρ i (.ownD ys)) σ /\ Keeps B O O ρ (put ρ i (.ownD ys)) σ σ:=by
 obtain ⟨w,e1,a',e2,h1,h3,h4⟩:=st.slot i _ e
 rw [es] at e1
 cases e1
 cases e2
 exact st.changeM e rfl rfl es h3 h4 fun _ => ⟨a,rfl,upd_same,h3,h4⟩
theorem StOk.freeze (st:StOk K B O₀ O H ρ σ) {i:Nat} {xs:List PV} (e:ρ[i]? = some (some (.own xs))):∃ O',StOk K B O₀ O' H (put ρ i (.val (.lst xs))) σ /\ Keeps B O O' ρ (put ρ i (.val (.lst xs))) σ σ:=by
 obtain ⟨w,es,a,us,rfl,h1,h2,h3,h4⟩:=st.slot i _ e
 have hi':i < ρ.length:=(List.getElem?_eq_some_iff.mp e).1
 have vis:Same (hide H O) (hide H (O.filter fun b => decide (b ≠ a))):=hide_mono (Same.refl H) fun b hb => .inl (List.mem_filter.mp hb).1
 have mem:∀ b,b ≠ a -> b ∈ O -> b ∈ O.filter fun b => decide (b ≠ a):=fun b hb ho => List.mem_filter.mpr ⟨ho,decide_eq_true hb⟩
 refine ⟨O.filter fun b => decide (b ≠ a),⟨st.keep,fun b hb => st.here b (List.mem_filter.mp hb).1,fun b hb => mem b (fun z => st.old b hb (z ▸ h4)) (st.sub b hb),st.old,by rw [put_len]; exact st.len,fun j m ej => ?_,fun c d ps qs ad hcd e1 e2 p1 p2 e3 e4 => ?_
  ,inn_keep st.inn (fun j mo ej l0 => by
   have hj:i ≠ j:=fun z => by subst z; rw [getElem?_put_self hi'] at ej; cases ej; cases l0
   rw [getElem?_put_ne hj] at ej
   exact ⟨⟨mo,ej,l0⟩,rfl,fun _ _ _ h => h⟩) fun j m c ej _ o ec => .inl (by
   have hj:i ≠ j:=fun z => by subst z; rw [getElem?_put_self hi'] at ej; cases ej; cases o
   rw [getElem?_put_ne hj] at ej
   exact ⟨m,ej,o,ec⟩)
  ⟩,⟨fun b hb ho => mem b (fun z => hb (z ▸ h4)) ho,fun b hb => .inl (List.mem_filter.mp hb).1,fun j zs hbm ej => ?_,put_len
  ,fun j fs xs ej => by
   have hj:i ≠ j:=fun z => by subst z; rw [getElem?_put_self hi'] at ej; cases ej
   rw [getElem?_put_ne hj] at ej
   exact ⟨⟨xs,ej⟩,rfl⟩
  ⟩⟩
 ·by_cases hj:i = j
  ·subst hj
   rw [getElem?_put_self hi'] at ej
   cases ej
   refine ⟨_,es,?_⟩
   show Rep K _ (.lst xs) (.ref a)
   rw [Rep]
   refine ⟨a,us,rfl,SqL.of ?_,Reps.mono vis _ h2⟩
   have hna:a ∉ O.filter fun b => decide (b ≠ a):=fun z => by simpa using (List.mem_filter.mp z).2
   rw [hide_out hna]
   exact h1
  ·rw [getElem?_put_ne hj] at ej
   obtain ⟨w,ew,q⟩:=st.slot j m ej
   refine ⟨w,ew,?_⟩
   cases m with
   | val v => exact Rep.mono vis _ q
   | own zs =>
    obtain ⟨ad,ws,rfl,q1,q2,q3,q4⟩:=q
    exact ⟨ad,ws,rfl,q1,Reps.mono vis _ q2,mem ad (fun z => st.apart i j (.own xs) (.own zs) a hj e ej rfl rfl es (by rw [ew,z])) q3,q4⟩
   | ownD zs =>
    obtain ⟨ad,rfl,q1,q3,q4⟩:=q
    exact ⟨ad,rfl,q1,mem ad (fun z => st.apart i j (.own xs) (.ownD zs) a hj e ej rfl rfl es (by rw [ew,z])) q3,q4⟩
   | ownO b fs zs =>
    obtain ⟨ad,l,rfl,q⟩:=q
    have n2:=(st.inn j _ ad l ej rfl ew q.l i (.own xs) (fun z => hj z) e).2 a rfl es
    exact ⟨ad,l,rfl,q.move vis (fun _ h => h) (fun _ h => h) (mem ad (fun z => st.apart i j (.own xs) (.ownO b fs zs) a hj e ej rfl rfl es (by rw [ew,z])) q.aO) (mem l (Ne.symm n2) q.lO) q.aB q.lB⟩
   | brwO fs zs => obtain ⟨ad,rfl,q⟩:=q; exact ⟨ad,rfl,q.move (Same.refl B) vis⟩
   | brwD zs => exact q
   | brw zs => obtain ⟨ad,ws,rfl,q1,q2⟩:=q; exact ⟨ad,ws,rfl,q1,Reps.mono vis _ q2⟩
 ·have h1:∀ (j:Nat) (zs:MV),ownM zs = true -> (put ρ i (.val (.lst xs)))[j]? = some (some zs) -> ρ[j]? = some (some zs):=fun j zs oz q => by
   by_cases hj:i = j
   ·subst hj; rw [getElem?_put_self hi'] at q; cases q; cases oz
   ·rw [getElem?_put_ne hj] at q; exact q
  exact st.apart c d ps qs ad hcd (h1 c ps p1 e1) (h1 d qs p2 e2) p1 p2 e3 e4
 ·have hj:i ≠ j:=fun z => by subst z; rw [getElem?_put_self hi'] at ej; cases ej; cases hbm
  rw [getElem?_put_ne hj] at ej
  exact ⟨ej,rfl⟩
end
end MM
namespace MM
open PySem PySem.Spec PyProof.Rows L2
section
open AutoSeq1 (wpAny_loadPart')
open MeetsSeq MeetsSeq2 MeetsSeq3 SeqRoads2 AutoSeq1
theorem list_extendT (l:Addr) (items:Array Value) (n:Nat) (b:Addr) (items2:Array Value) (n2:Nat) (dd2:Option Addr) (sl2:Array (Option Value)) (hs0:¬(!items.isEmpty && Builtin.List.listTooLong (items.size + items2.size)) = true) (hs1:items.size <= sizeLine) (hs2:items.size + items2.size <= sizeLine + 1) :
  Meets (Builtin.«list.extend» ⟨[.ref l,.ref b],[]⟩) (fun _ R s => s.heap.get? l = some { cls:=.type "list",dict:=none,data:=.seq items n,slots:=#[] } /\ s.heap.get? b = some { cls:=.type "tuple",dict:=dd2,data:=.seq items2 n2,slots:=sl2 } /\ R (.ok (.ret Value.none)) { s with heap:=s.heap.update l (Obj.mapSeq fun x => x ++ items2),toks:=s.toks }) :=
 .of_wp fun prog w A R s h => by
  obtain ⟨hp,g,d,tk,os⟩:=s; obtain ⟨hl,hb,h⟩:=h; have f1:=AutoSeq1.idx_int; have f2:=AutoSeq1.sub_tuple_tuple; have f3:=AutoSeq1.sub_list_list; have f4:=AutoSeq1.sub_tuple_list; have f5:=AutoSeq1.sub_list_tuple;
  have hz':(items ++ items2).size <= sizeLine + 1:=by rw [Array.size_append]; exact hs2
  wp_walk using (wpAny_updateSeq hl rfl (hz:=hs1) (_hz':=hz')),wpAny_loadPart' hl,wpAny_loadPart' hb; exact ⟨_,rfl,h⟩
theorem list_extendL (l:Addr) (items:Array Value) (n:Nat) (b:Addr) (items2:Array Value) (n2:Nat) (dd2:Option Addr) (sl2:Array (Option Value)) (hs0:¬(!items.isEmpty && Builtin.List.listTooLong (items.size + items2.size)) = true) (hs1:items.size <= sizeLine) (hs2:items.size + items2.size <= sizeLine + 1) :
  Meets (Builtin.«list.extend» ⟨[.ref l,.ref b],[]⟩) (fun _ R s => s.heap.get? l = some { cls:=.type "list",dict:=none,data:=.seq items n,slots:=#[] } /\ s.heap.get? b = some { cls:=.type "list",dict:=dd2,data:=.seq items2 n2,slots:=sl2 } /\ R (.ok (.ret Value.none)) { s with heap:=s.heap.update l (Obj.mapSeq fun x => x ++ items2),toks:=s.toks }) :=
 .of_wp fun prog w A R s h => by
  obtain ⟨hp,g,d,tk,os⟩:=s; obtain ⟨hl,hb,h⟩:=h; have f1:=AutoSeq1.idx_int; have f2:=AutoSeq1.sub_tuple_tuple; have f3:=AutoSeq1.sub_list_list; have f4:=AutoSeq1.sub_tuple_list; have f5:=AutoSeq1.sub_list_tuple;
  have hz':(items ++ items2).size <= sizeLine + 1:=by rw [Array.size_append]; exact hs2
  wp_walk using (wpAny_updateSeq hl rfl (hz:=hs1) (_hz':=hz')),wpAny_loadPart' hl,wpAny_loadPart' hb; exact ⟨_,rfl,h⟩
end
section
variable {X:Cx} {T:Tab} {k:Nat} {cal:Cal}
theorem mt_extendS:MtM X "list.extend" (fun x vs H Q => ∃ l b xs zs,x = .ref l /\ vs = [.ref b] /\ H l = some (.lst xs) /\ (SqL X.K H b zs \/ SqT X.K H b zs) /\ xs.length + zs.length <= sizeLine /\ Q .non (upd H l (.lst (xs ++ zs)))):=by
 intro pins s σ H x vs v us Q I rx rv h
 obtain ⟨l,b,xs,zs,rfl,rfl,hH,hB,hz,q⟩:=h
 cases rx
 obtain ⟨u,rfl,ru⟩:=rv.one
 cases ru
 obtain ⟨z,its,n,r,hl,e⟩:=I.lstM hH
 have fin:∀ its2:List Value,Vals zs its2 -> EP X pins σ Q .none { s with heap:=s.heap.update l (Obj.mapSeq fun x => x ++ its2.toArray),toks:=s.toks }:=fun its2 r2 =>
  ⟨.non,_,I.lset (its':=its ++ its2) hH e (by simp) (r.append r2) (by rw [List.length_append]; omega),rfl,q⟩
 rcases hB with hB | hB
 ·obtain ⟨its2,r2,pl,z2⟩:=I.list hB
  have hl2:=r2.length
  have hsz:its.toArray.size + its2.toArray.size <= sizeLine:=by rw [List.size_toArray,List.size_toArray]; omega
  have hlong:¬ (!its.toArray.isEmpty && Builtin.List.listTooLong (its.toArray.size + its2.toArray.size)) = true:=by
   rw [notLongL hsz,Bool.and_false]
   exact Bool.false_ne_true
  obtain ⟨⟨cls,dd,data,sl⟩,ho,hc,n2,hd⟩:=pl.isList
  simp only at hc hd
  subst hc hd
  exact call_meets PySem.F.slot_list_extend ⟨_,e,rfl⟩ PySem.F.entry_list_extend (PySem.F.args_list_extend_2 _ _) (list_extendL l its.toArray n b its2.toArray n2 dd sl hlong (by rw [List.size_toArray]; omega) (by omega)) ⟨e,ho,fin its2 r2⟩
 ·obtain ⟨its2,r2,pl,z2⟩:=I.tuple hB
  have hl2:=r2.length
  have hsz:its.toArray.size + its2.toArray.size <= sizeLine:=by rw [List.size_toArray,List.size_toArray]; omega
  have hlong:¬ (!its.toArray.isEmpty && Builtin.List.listTooLong (its.toArray.size + its2.toArray.size)) = true:=by
   rw [notLongL hsz,Bool.and_false]
   exact Bool.false_ne_true
  obtain ⟨⟨cls,dd,data,sl⟩,ho,hc,n2,hd⟩:=pl
  simp only at hc hd
  subst hc hd
  exact call_meets PySem.F.slot_list_extend ⟨_,e,rfl⟩ PySem.F.entry_list_extend (PySem.F.args_list_extend_2 _ _) (list_extendT l its.toArray n b its2.toArray n2 dd sl hlong (by rw [List.size_toArray]; omega) (by omega)) ⟨e,ho,fin its2 r2⟩
structure Df (X:Cx):Prop where
 nd:X.N.Nodup
 fn:∀ x,X.fn x = true
 own:PassesOwn (model X.prog X.w) X.A X.env X.xe
 blk:(X.env.blockKind == .function) = true
theorem swap_false {v:Expr} (h:notComp v = true) (t:Option Expr) (n:Nat) (env:Env):swapsWith v t n env = pure false:=by
 cases v <;> first | rfl | (simp [notComp] at h)
theorem swap_true {v:Expr} {x:Str} {px:Pos} {n:Nat} (d:Df X) (h:swapB X.env.scope x px v = true):swapsWith v (some (.Name x px)) n X.env = pure true:=by
 cases v with
 | ListComp e gs s p =>
  show pure (X.env.blockKind == .function && X.env.kindOf x == some .local && px.line == p.line && !(s.names.any fun (n,k) => n == x && (k == .local || k == .cell))) = pure true
  have h':(X.env.scope.names.lookup x == some .local && px.line == p.line && !(s.names.any fun (n,k) => n == x && (k == .local || k == .cell))) = true:=h
  rw [d.blk,Bool.true_and]
  exact congrArg pure h'
 | _ => simp [swapB] at h
theorem PS.imp' {e:Stmt} {t t':TS} (h:PS X e t) (i:∀ D σ H,σ.length = X.N.length -> t' D σ H -> t D σ H):PS X e t':=fun pins s σ H D I q => h pins s σ H D I (i D σ H I.len q)
theorem ltN {N:List Str} {i:Nat} {x:Str} {σ:St} (h:N[i]? = some x) (hl:σ.length = N.length):i < σ.length:=by rw [hl]; exact (List.getElem?_eq_some_iff.mp h).1
theorem bindR_end {K:PySem.W.Frag} {B:Hp} {O₀ O:List Addr} {ρ:Rho} {σ:St} {D:Ends} {o:Option PV} {f:PV -> R} (h:EndOk K B O₀ O ρ σ D (bindR o f)):∃ v,o = some v /\ EndOk K B O₀ O ρ σ D (f v):=by
 cases o with
 | none => exact (show False from h).elim
 | some v => exact ⟨v,rfl,h⟩
theorem bindB_end {K:PySem.W.Frag} {B:Hp} {O₀ O:List Addr} {ρ:Rho} {σ:St} {D:Ends} {o:Option Bool} {f:Bool -> R} (h:EndOk K B O₀ O ρ σ D (bindB o f)):∃ v,o = some v /\ EndOk K B O₀ O ρ σ D (f v):=by
 cases o with
 | none => exact (show False from h).elim
 | some v => exact ⟨v,rfl,h⟩
theorem set_go {i:Nat} {me:ME} {σ:St} {H:Hp} {D:Ends} {K:PySem.W.Frag} (hi:i < σ.length) (hb:isBor me = false) (q:tS K cal (.set i me) D σ H):tAsg (tE K cal me) (gName i) D σ H:=by
 obtain ⟨B,O₀,O,ρ,st,q⟩:=q
 rw [ex] at q
 obtain ⟨w,e,q⟩:=bindR_end q
 refine ⟨B,O₀,O,ρ,w,st,e,fun u H' s g => ?_⟩
 obtain ⟨st',k'⟩:=(st.mono s).store hi (g.2 hb)
 exact q _ H' O st' k'
theorem z_set {i:Nat} {me:ME} {x:Str} {v:Expr} {px pos:Pos} (d:Df X) (hi:X.N[i]? = some x) (hx:Loc X.env.scope x) (h:PE X v (tE X.K cal me)) (hb:isBor me = false) (hc:notComp v = true):PS X (.Assign [.Name x px] v pos) (tS X.K cal (.set i me)) :=
 PS.imp' (ps_set d.nd hi hx h (swap_false hc _ _ _) (.inl (d.fn x))) fun D σ H hl q => set_go (ltN hi hl) hb q
theorem own_go {i:Nat} {me:ME} {σ:St} {H:Hp} {D:Ends} {K:PySem.W.Frag} (hi:i < σ.length) (q:tS K cal (.setOwn i me) D σ H):tAsg (tF K cal me) (gName i) D σ H:=by
 obtain ⟨B,O₀,O,ρ,st,q⟩:=q
 rw [ex] at q
 obtain ⟨w,e,q⟩:=bindR_end q
 cases w with
 | lst xs =>
  refine ⟨B,O₀,O,ρ,xs,st,e,fun p us H' s hp he r => ?_⟩
  obtain ⟨st',k'⟩:=st.storeOwn hi s hp he r
  exact q _ H' _ st' k'
 | _ => exact (show False from q).elim
theorem z_own {i:Nat} {me:ME} {x:Str} {v:Expr} {px pos:Pos} (d:Df X) (hi:X.N[i]? = some x) (hx:Loc X.env.scope x) (h:PE X v (tF X.K cal me)) (hc:notComp v = true):PS X (.Assign [.Name x px] v pos) (tS X.K cal (.setOwn i me)) :=
 PS.imp' (ps_set d.nd hi hx h (swap_false hc _ _ _) (.inl (d.fn x))) fun D σ H hl q => own_go (ltN hi hl) q
theorem z_append {i:Nat} {me:ME} {x:Str} {v:Expr} {p apos cpos pos:Pos} (h:PE X v (tE X.K cal me)) (hn:nameAt X.N X.env.scope i x = true) (hb:isBor me = false) (hs:notStar v = true) (hline:(apos.endLine == cpos.line) = true) :
  PS X (.Expr (.Call (.Attribute (.Name x p) "append" apos) [v] [] cpos) pos) (tS X.K cal (.append i me)):=by
 refine (ps_expr (pe_bm PySem.F.plainAttrs_list PySem.F.slot_list_append PySem.F.type_list_append mt_append (name_at hn) (pa_cons h pa_nil (star1 hs _ _)) rfl (by rw [star1 hs]; rfl) hline (star1 hs _ _) rfl) rfl).imp fun D σ H q => ?_
 obtain ⟨B,O₀,O,ρ,st,q⟩:=q
 rw [ex] at q
 obtain ⟨w,e,q⟩:=bindR_end q
 cases hj:(ρ[i]?).join with
 | none => rw [hj] at q; exact (show False from q).elim
 | some m =>
  rw [hj] at q
  cases m with
  | own xs =>
   dsimp only at q
   split at q
   ·rename_i hl
    obtain ⟨u,eu,a,us,rfl,ha,rs,hO,hB⟩:=slot_of st hj
    refine ⟨_,eu,.inl ⟨rfl,us,SqL.of ha⟩,B,O₀,O,ρ,w,st,e,fun u H1 s g => ⟨a,us,u,rfl,rfl,s _ _ ha,?_,?_⟩⟩
    ·rw [<- rs.length]; exact Nat.lt_of_lt_of_le hl (by decide)
    ·obtain ⟨st',k'⟩:=(st.mono s).change (us:=us ++ [u]) (ys:=xs ++ [w]) (join_some hj) eu ((Reps.mono (hide_same s) _ rs).snoc (g.2 hb))
     exact q _ _ _ st' k'
   ·exact (show False from q).elim
  | val _ => exact (show False from q).elim
  | brw _ => exact (show False from q).elim
  | ownD _ => exact (show False from q).elim
  | ownO _ _ _ => exact (show False from q).elim
  | brwO _ _ => exact (show False from q).elim
  | brwD _ => exact (show False from q).elim
theorem z_extend {i:Nat} {me:ME} {x:Str} {v:Expr} {p apos cpos pos:Pos} (h:PE X v (tE X.K cal me)) (hn:nameAt X.N X.env.scope i x = true) (hs:notStar v = true) (hline:(apos.endLine == cpos.line) = true) :
  PS X (.Expr (.Call (.Attribute (.Name x p) "extend" apos) [v] [] cpos) pos) (tS X.K cal (.extend i me)):=by
 refine (ps_expr (pe_bm PySem.F.plainAttrs_list PySem.F.slot_list_extend PySem.F.type_list_extend mt_extendS (name_at hn) (pa_cons h pa_nil (star1 hs _ _)) rfl (by rw [star1 hs]; rfl) hline (star1 hs _ _) rfl) rfl).imp fun D σ H q => ?_
 obtain ⟨B,O₀,O,ρ,st,q⟩:=q
 rw [ex] at q
 obtain ⟨w,e,q⟩:=bindR_end q
 cases hj:(ρ[i]?).join with
 | none => rw [hj] at q; exact (show False from q).elim
 | some m =>
  rw [hj] at q
  cases m with
  | own xs =>
   cases hw:seq? w with
   | none => rw [hw] at q; exact (show False from q).elim
   | some ys =>
    rw [hw] at q
    dsimp only at q
    split at q
    ·rename_i hl
     obtain ⟨u,eu,a,us,rfl,ha,rs,hO,hB⟩:=slot_of st hj
     refine ⟨_,eu,.inl ⟨rfl,us,SqL.of ha⟩,B,O₀,O,ρ,w,st,e,fun u H1 s g => ?_⟩
     obtain ⟨b,ws,rfl,sq,rw'⟩:=g.1.seq hw
     refine ⟨a,b,us,ws,rfl,rfl,s _ _ ha,sq,?_,?_⟩
     ·rw [<- rs.length,<- rw'.length]; exact size10000 hl
     ·obtain ⟨st',k'⟩:=(st.mono s).change (us:=us ++ ws) (ys:=xs ++ ys) (join_some hj) eu ((Reps.mono (hide_same s) _ rs).append rw')
      exact q _ _ _ st' k'
    ·exact (show False from q).elim
  | val _ => exact (show False from q).elim
  | brw _ => exact (show False from q).elim
  | ownD _ => exact (show False from q).elim
  | ownO _ _ _ => exact (show False from q).elim
  | brwO _ _ => exact (show False from q).elim
  | brwD _ => exact (show False from q).elim
theorem z_newD {m:Bool} {i:Nat} {x:Str} {px dp pos:Pos} (d:Df X) (hi:X.N[i]? = some x) (hx:Loc X.env.scope x):PS X (.Assign [.Name x px] (.Dict [] [] dp) pos) (tS X.K cal (.newD m i)):=by
 cases m with
 | false =>
  refine PS.imp' (ps_set d.nd hi hx pe_dnewK (swap_false (v:=.Dict [] [] dp) rfl _ _ _) (.inl (d.fn x))) fun D σ H hl q => ?_
  obtain ⟨B,O₀,O,ρ,st,q⟩:=q
  rw [ex] at q
  intro p hp
  obtain ⟨st',k'⟩:=st.storeM (mm:=.ownD (.k [])) (ltN hi hl) (same_new hp (.dK [])) hp (by rw [upd_same]; simp) rfl fun hB => ⟨p,rfl,upd_same,List.mem_cons_self,hB⟩
  exact q _ _ _ st' k'
 | true =>
  refine PS.imp' (ps_set d.nd hi hx pe_dnewT (swap_false (v:=.Dict [] [] dp) rfl _ _ _) (.inl (d.fn x))) fun D σ H hl q => ?_
  obtain ⟨B,O₀,O,ρ,st,q⟩:=q
  rw [ex] at q
  intro p hp
  obtain ⟨st',k'⟩:=st.storeM (mm:=.ownD (.t [])) (ltN hi hl) (same_new hp (.dT [])) hp (by rw [upd_same]; simp) rfl fun hB => ⟨p,rfl,upd_same,List.mem_cons_self,hB⟩
  exact q _ _ _ st' k'
theorem z_dput {i:Nat} {mk me:ME} {x:Str} {v s:Expr} {p spos pos:Pos} (g0:Gf X T k cal) (hk:PE X s (tE X.K cal mk)) (h:PE X v (tE X.K cal me)) (hn:nameAt X.N X.env.scope i x = true) (hc:notComp v = true) :
  PS X (.Assign [.Subscript (.Name x p) s spos] v pos) (tS X.K cal (.dput i mk me)):=by
 have hu:X.A.units + 1 < cLine:=by have:=g0.units; omega
 refine (ps_dput hu (name_at hn) hk h (by cases v <;> first | rfl | (simp [notComp] at hc))).imp fun D σ H q => ?_
 obtain ⟨B,O₀,O,ρ,st,q⟩:=q
 rw [ex] at q
 obtain ⟨w,e,q⟩:=bindR_end q
 obtain ⟨kv,ek,q⟩:=bindR_end q
 cases hj:(ρ[i]?).join with
 | none => rw [hj] at q; exact (show False from q).elim
 | some m =>
  rw [hj] at q
  cases m with
  | ownD d =>
   cases hz:sc? w with
   | none => rw [hz] at q; exact (show False from q).elim
   | some sz =>
    rw [hz] at q
    dsimp only at q
    cases hd:dPut d kv sz with
    | none => rw [hd] at q; exact (show False from q).elim
    | some d' =>
     rw [hd] at q
     obtain ⟨u,eu,a,rfl,ha,hO,hB⟩:=slot_of st hj
     refine ⟨B,O₀,O,ρ,w,st,e,fun u H1 s1 g1 => ⟨_,eu,B,O₀,O,ρ,_,st.mono s1,ek,fun uk H2 s2 g2 => ?_⟩⟩
     refine ⟨a,_,rfl,by rw [sc_rep hz g1.1]; exact dput_ok hd (s2 _ _ (s1 _ _ ha)) g2.1,?_⟩
     obtain ⟨st',k'⟩:=((st.mono s1).mono s2).changeD (ys:=d') (join_some hj) eu
     exact q _ _ _ st' k'
  | val _ => exact (show False from q).elim
  | brw _ => exact (show False from q).elim
  | own _ => exact (show False from q).elim
  | ownO _ _ _ => exact (show False from q).elim
  | brwO _ _ => exact (show False from q).elim
  | brwD _ => exact (show False from q).elim
theorem z_ret {me:ME} {v:Expr} {pos:Pos} (h:PE X v (tE X.K cal me)) (hb:isBor me = false):PS X (.Return (some v) pos) (tS X.K cal (.ret me)):=by
 refine (ps_ret h).imp fun D σ H q => ?_
 obtain ⟨B,O₀,O,ρ,st,q⟩:=q
 rw [ex] at q
 obtain ⟨w,e,q⟩:=bindR_end q
 exact ⟨B,O₀,O,ρ,w,st,e,fun u H' s g => q u H' (st.keep.trans s) (Rep.mono (hide_mono (Same.refl H') fun b hb => .inl (st.sub b hb)) _ (g.2 hb))⟩
theorem z_retOwn {i:Nat} {x:Str} {p pos:Pos} (hn:nameAt X.N X.env.scope i x = true):PS X (.Return (some (.Name x p)) pos) (tS X.K cal (.retOwn i)):=by
 refine (ps_ret (name_at hn)).imp fun D σ H q => ?_
 obtain ⟨B,O₀,O,ρ,st,q⟩:=q
 rw [ex] at q
 have low:Same (hide H O) (hide H O₀):=hide_mono (Same.refl H) fun b hb => .inl (st.sub b hb)
 cases hj:(ρ[i]?).join with
 | none => rw [hj] at q; exact (show False from q).elim
 | some m =>
  rw [hj] at q
  cases m with
  | own xs =>
   obtain ⟨u,eu,a,us,rfl,ha,rs,hO,hB⟩:=slot_of st hj
   refine ⟨_,eu,q _ H st.keep ?_⟩
   rw [Rep]
   refine ⟨a,us,rfl,SqL.of ?_,Reps.mono low _ rs⟩
   rw [hide_out fun z => st.old a z hB]
   exact ha
  | val v =>
   obtain ⟨u,eu,so⟩:=slot_of st hj
   exact ⟨_,eu,q _ H st.keep (Rep.mono low _ so)⟩
  | brw _ => exact (show False from q).elim
  | ownD kvs =>
   obtain ⟨u,eu,a,rfl,ha,hO,hB⟩:=slot_of st hj
   refine ⟨_,eu,q _ H st.keep ?_⟩
   rw [Rep]
   refine ⟨a,rfl,.inl ?_⟩
   rw [hide_out fun z => st.old a z hB]
   exact ha
  | ownO _ _ _ => exact (show False from q).elim
  | brwO _ _ => exact (show False from q).elim
  | brwD _ => exact (show False from q).elim
theorem z_if {c:ME} {a b:List MS} {t:Expr} {x y:List Stmt} {pos:Pos} (hc:PT X t (tT X.K cal c)) (ha:PSs X x (tSs X.K cal a)) (hb:PSs X y (tSs X.K cal b)):PS X (.If t x y pos) (tS X.K cal (.ite c a b)):=by
 refine (ps_if hc ha hb).imp fun D σ H q => ?_
 obtain ⟨B,O₀,O,ρ,st,q⟩:=q
 rw [ex] at q
 obtain ⟨w,e,q⟩:=bindB_end q
 refine ⟨B,O₀,O,ρ,w,st,e,fun H' s => ?_⟩
 cases w with
 | true => rw [if_pos rfl] at q ⊢; exact ⟨B,O₀,O,ρ,st.mono s,q⟩
 | false => rw [if_neg (by simp)] at q ⊢; exact ⟨B,O₀,O,ρ,st.mono s,q⟩
theorem z_cons {m:MS} {ms:List MS} {st:Stmt} {ss:List Stmt} (h1:PS X st (tS X.K cal m)) (h2:PSs X ss (tSs X.K cal ms)):PSs X (st :: ss) (tSs X.K cal (m :: ms)):=by
 refine (pss_cons h1 h2).imp fun D σ H q => ?_
 obtain ⟨B,O₀,O,ρ,st,q⟩:=q
 refine ⟨B,O₀,O,ρ,st,?_⟩
 rw [exs] at q
 cases e:ex cal m ρ with
 | next ρ' => rw [e] at q; exact fun σ' H' O' st' k => ⟨B,O₀,O',ρ',st',EndOk.trans q k⟩
 | brk ρ' => rw [e] at q; exact q
 | cont ρ' => rw [e] at q; exact q
 | ret v => rw [e] at q; exact q
 | bad => rw [e] at q; exact q
 | retF xs => rw [e] at q; exact q
 | retT v ρ2 => rw [e] at q; exact q
theorem z_nil:PSs X [] (tSs X.K cal []):=by
 refine pss_nil.imp fun D σ H q => ?_
 obtain ⟨B,O₀,O,ρ,st,q⟩:=q
 rw [exs] at q
 exact q σ H O st .refl
end
end MM
namespace MM
open PySem PySem.Spec PyProof.Rows L2
section
variable {K:PySem.W.Frag} {B H H':Hp} {O₀ O:List Addr} {ρ:Rho} {σ:St}
theorem no_Lx {i j:Nat} {m:MV} (h:noLx ρ i = true) (hj:i ≠ j) (e:ρ[j]? = some (some m)):isL m = false:=by
 have:=List.all_eq_true.mp h (some m) (List.mem_of_getElem? (show (ρ.set i none)[j]? = some (some m) by rw [List.getElem?_set_ne hj]; exact e))
 simpa using this
theorem own_here (st:StOk K B O₀ O H ρ σ) {j:Nat} {m:MV} {c:Addr} (e:ρ[j]? = some (some m)) (o:ownM m = true) (es:σ[j]? = some (some (.ref c))):H c ≠ none:=by
 obtain ⟨w,e1,q⟩:=st.slot j _ e
 rw [es] at e1
 cases e1
 cases m with
 | own zs => obtain ⟨a,ws,e2,h1,_⟩:=q; cases e2; rw [h1]; simp
 | ownD zs => obtain ⟨a,e2,h1,_⟩:=q; cases e2; rw [h1]; simp
 | ownO _ _ _ => obtain ⟨a,l,e2,q⟩:=q; cases e2; obtain ⟨C,dx,gs,h1,_⟩:=q.ob; rw [h1]; simp
 | val _ => cases o
 | brw _ => cases o
 | brwD _ => cases o
 | brwO _ _ => cases o
theorem StOk.changeO (st:StOk K B O₀ O H ρ σ) {i:Nat} {b:Bool} {fs xs ys:List PV} {a l l':Addr} (e:ρ[i]? = some (some (.ownO b fs xs))) (es:σ[i]? = some (some (.ref a))) (q:OwnAt K B O H fs xs a l) (kp:∀ c o,c ≠ a -> c ≠ l -> H c = some o -> H' c = some o) (hl:l' = l \/ H l' = none)
  (q':OwnAt K (fun _ => none) (l' :: O.filter fun b => decide (b ≠ l)) H' fs ys a l'):StOk K B O₀ (l' :: O.filter fun b => decide (b ≠ l)) H' (put ρ i (.ownO b fs ys)) σ /\ Keeps B O (l' :: O.filter fun b => decide (b ≠ l)) ρ (put ρ i (.ownO b fs ys)) σ σ:=by
 have hi':i < ρ.length:=(List.getElem?_eq_some_iff.mp e).1
 have lB:B l' = none:=hl.elim (fun z => by rw [z]; exact q.lB) st.keep.free
 have mem:∀ c,c ≠ l -> c ∈ O -> c ∈ l' :: O.filter fun b => decide (b ≠ l):=fun c hc ho => List.mem_cons_of_mem _ (List.mem_filter.mpr ⟨ho,decide_eq_true hc⟩)
 have keep:Same B H':=fun c u ec => kp c u (fun z => by rw [z,q.aB] at ec; cases ec) (fun z => by rw [z,q.lB] at ec; cases ec) (st.keep c u ec)
 have vis:Same (hide H O) (hide H' (l' :: O.filter fun b => decide (b ≠ l))):=fun c u ec => by
  have hc:c ∉ O:=fun z => by rw [hide_in z] at ec; cases ec
  rw [hide_out hc] at ec
  rw [hide_out]
  ·exact kp c u (fun z => hc (z ▸ q.aO)) (fun z => hc (z ▸ q.lO)) ec
  ·intro z
   rcases List.mem_cons.mp z with z | z
   ·rcases hl with w | w
    ·exact hc (by rw [z,w]; exact q.lO)
    ·rw [z,w] at ec; cases ec
   ·exact hc (List.mem_filter.mp z).1
 have oth:∀ (j:Nat) (m:MV) (c:Addr),i ≠ j -> ρ[j]? = some (some m) -> ownM m = true -> σ[j]? = some (some (.ref c)) -> c ≠ a /\ c ≠ l:=fun j m c hj ej o ec => ⟨fun z => st.apart i j _ m a hj e ej rfl o es (by rw [ec,z]),(st.inn i _ a l e rfl es q.l j m (Ne.symm hj) ej).2 c o ec⟩
 refine ⟨⟨keep,fun c hc => ?_,fun c hc => mem c (fun z => st.old c hc (z ▸ q.lB)) (st.sub c hc),st.old,by rw [put_len]; exact st.len,fun j m ej => ?_,fun c d ps qs ad hcd e1 e2 p1 p2 e3 e4 => ?_,fun k m0 a2 l2 e1 l0 e2 e3 j m hjk ej => ?_⟩,⟨fun c hc ho => mem c (fun z => hc (z ▸ q.lB)) ho,fun c hc => ?_,fun j zs hbm ej => ?_,put_len,fun j gs zs ej => ?_⟩⟩
 ·rcases List.mem_cons.mp hc with rfl | hc
  ·obtain ⟨us,h1,_⟩:=q'.li
   rw [h1]
   simp
  ·obtain ⟨h1,h2⟩:=List.mem_filter.mp hc
   by_cases z:c = a
   ·subst z
    obtain ⟨C,dx,gs,h1,_⟩:=q'.ob
    rw [h1]
    simp
   ·cases eo:H c with
    | none => exact absurd eo (st.here c h1)
    | some o => rw [kp c o z (of_decide_eq_true h2) eo]; simp
 ·by_cases hj:i = j
  ·subst hj
   rw [getElem?_put_self hi'] at ej
   cases ej
   exact ⟨_,es,a,l',rfl,q'.move (Same.refl _) (fun _ h => h) (fun _ h => h) q'.aO q'.lO q.aB lB⟩
  ·rw [getElem?_put_ne hj] at ej
   obtain ⟨w,ew,qq⟩:=st.slot j m ej
   refine ⟨w,ew,?_⟩
   cases m with
   | val v => exact Rep.mono vis _ qq
   | own zs =>
    obtain ⟨ad,ws,rfl,q1,q2,q3,q4⟩:=qq
    obtain ⟨n1,n2⟩:=oth j _ ad hj ej rfl ew
    exact ⟨ad,ws,rfl,kp _ _ n1 n2 q1,Reps.mono vis _ q2,mem _ n2 q3,q4⟩
   | ownD zs =>
    obtain ⟨ad,rfl,q1,q3,q4⟩:=qq
    obtain ⟨n1,n2⟩:=oth j _ ad hj ej rfl ew
    exact ⟨ad,rfl,kp _ _ n1 n2 q1,mem _ n2 q3,q4⟩
   | ownO _ _ _ => cases (st.inn i _ a l e rfl es q.l j _ (Ne.symm hj) ej).1
   | brw zs => obtain ⟨ad,ws,rfl,q1,q2⟩:=qq; exact ⟨ad,ws,rfl,q1,Reps.mono vis _ q2⟩
   | brwD zs => exact qq
   | brwO gs zs => obtain ⟨ad,rfl,q1⟩:=qq; exact ⟨ad,rfl,q1.move (Same.refl B) vis⟩
 ·have h1:∀ (j:Nat) (zs:MV),(put ρ i (.ownO b fs ys))[j]? = some (some zs) -> ownM zs = true -> ∃ zs,ρ[j]? = some (some zs) /\ ownM zs = true:=fun j zs q oz => by
   by_cases hj:i = j
   ·subst hj; exact ⟨_,e,rfl⟩
   ·rw [getElem?_put_ne hj] at q; exact ⟨zs,q,oz⟩
  obtain ⟨q1,e1,p1⟩:=h1 c ps e1 p1
  obtain ⟨q2,e2,p2⟩:=h1 d qs e2 p2
  exact st.apart c d q1 q2 ad hcd e1 e2 p1 p2 e3 e4
 ·have hk:i = k:=by
   cases Nat.decEq i k with
   | isTrue z => exact z
   | isFalse z =>
    rw [getElem?_put_ne z] at e1
    rw [(st.inn i _ a l e rfl es q.l k _ (Ne.symm z) e1).1] at l0
    cases l0
  subst hk
  rw [es] at e2
  cases e2
  rw [q'.l] at e3
  cases e3
  rw [getElem?_put_ne (Ne.symm hjk)] at ej
  refine ⟨(st.inn i _ a l e rfl es q.l j m hjk ej).1,fun c o ec z => ?_⟩
  rcases hl with w | w
  ·exact (st.inn i _ a l e rfl es q.l j m hjk ej).2 c o ec (by rw [z,w])
  ·exact own_here st ej o ec (by rw [z,w])
 ·rcases List.mem_cons.mp hc with rfl | hc
  ·exact .inr lB
  ·exact .inl (List.mem_filter.mp hc).1
 ·have hj:i ≠ j:=fun z => by subst z; rw [getElem?_put_self hi'] at ej; cases ej; cases hbm
  rw [getElem?_put_ne hj] at ej
  exact ⟨ej,rfl⟩
 ·by_cases hj:i = j
  ·subst hj
   rw [getElem?_put_self hi'] at ej
   cases ej
   exact ⟨⟨xs,e⟩,rfl⟩
  ·rw [getElem?_put_ne hj] at ej
   exact ⟨⟨zs,ej⟩,rfl⟩
theorem StOk.storeO (st:StOk K B O₀ O H ρ σ) {i:Nat} {fs:List PV} {a l:Addr} (hi:i < σ.length) (hn:noLx ρ i = true) (s:Same H H') (ha:H a = none) (hl:H l = none) (q:OwnAt K (fun _ => none) (a :: l :: O) H' fs [] a l) :
  StOk K B O₀ (a :: l :: O) H' (put ρ i (.ownO false fs [])) (σ.set i (some (.ref a))) /\ Keeps B O (a :: l :: O) ρ (put ρ i (.ownO false fs [])) σ (σ.set i (some (.ref a))):=by
 have hi':i < ρ.length:=by rw [st.len]; exact hi
 have inO:∀ b ∈ O,b ∈ a :: l :: O:=fun b h => .tail _ (.tail _ h)
 have free:∀ b ∈ a :: l :: O,b ∈ O \/ H b = none:=fun b h => by
  rcases List.mem_cons.mp h with rfl | h
  ·exact .inr ha
  ·rcases List.mem_cons.mp h with rfl | h
   ·exact .inr hl
   ·exact .inl h
 have vis:Same (hide H O) (hide H' (a :: l :: O)):=hide_mono s free
 refine ⟨⟨st.keep.trans s,fun b h => ?_,fun b h => inO b (st.sub b h),st.old,by rw [put_len,List.length_set]; exact st.len,fun j m ej => ?_,fun c d xs ys ad hcd e1 e2 o1 o2 e3 e4 => ?_,fun k m0 a2 l2 e1 l0 e2 e3 j m hjk ej => ?_⟩,⟨fun _ _ h => inO _ h,fun b h => (free b h).imp id st.keep.free,fun j xs hbm ej => ?_,put_len,fun j gs zs ej => ?_⟩⟩
 ·rcases List.mem_cons.mp h with rfl | h
  ·obtain ⟨C,dx,gs,h1,_⟩:=q.ob
   rw [h1]
   simp
  ·rcases List.mem_cons.mp h with rfl | h
   ·obtain ⟨us,h1,_⟩:=q.li
    rw [h1]
    simp
   ·exact fun z => st.here b h (s.free z)
 ·by_cases hj:i = j
  ·subst hj
   rw [getElem?_put_self hi'] at ej
   cases ej
   exact ⟨_,List.getElem?_set_self hi,a,l,rfl,q.move (Same.refl _) (fun _ h => h) (fun _ h => h) q.aO q.lO (st.keep.free ha) (st.keep.free hl)⟩
  ·rw [getElem?_put_ne hj] at ej
   obtain ⟨w,e1,qq⟩:=st.slot j m ej
   refine ⟨w,by rw [List.getElem?_set_ne hj]; exact e1,?_⟩
   cases m with
   | val v => exact Rep.mono vis _ qq
   | own ys => obtain ⟨a,ws,e2,h1,h2,h3,h4⟩:=qq; exact ⟨a,ws,e2,s _ _ h1,Reps.mono vis _ h2,inO _ h3,h4⟩
   | brw ys => obtain ⟨a,ws,e2,h1,h2⟩:=qq; exact ⟨a,ws,e2,h1,Reps.mono vis _ h2⟩
   | ownD ys => obtain ⟨a,e2,h1,h3,h4⟩:=qq; exact ⟨a,e2,s _ _ h1,inO _ h3,h4⟩
   | ownO _ _ _ => cases no_Lx hn hj ej
   | brwD ys => exact qq
   | brwO gs zs => obtain ⟨ad,e2,q1⟩:=qq; exact ⟨ad,e2,q1.move (Same.refl B) vis⟩
 ·by_cases hc:i = c
  ·subst hc
   rw [List.getElem?_set_self hi] at e3
   cases e3
   rw [getElem?_put_ne hcd] at e2
   rw [List.getElem?_set_ne hcd] at e4
   exact own_here st e2 o2 e4 ha
  ·by_cases hd:i = d
   ·subst hd
    rw [List.getElem?_set_self hi] at e4
    cases e4
    rw [getElem?_put_ne hc] at e1
    rw [List.getElem?_set_ne hc] at e3
    exact own_here st e1 o1 e3 ha
   ·rw [getElem?_put_ne hc] at e1
    rw [getElem?_put_ne hd] at e2
    rw [List.getElem?_set_ne hc] at e3
    rw [List.getElem?_set_ne hd] at e4
    exact st.apart c d _ _ ad hcd e1 e2 o1 o2 e3 e4
 ·have hk:i = k:=by
   cases Nat.decEq i k with
   | isTrue z => exact z
   | isFalse z =>
    rw [getElem?_put_ne z] at e1
    rw [no_Lx hn z e1] at l0
    cases l0
  subst hk
  rw [List.getElem?_set_self hi] at e2
  cases e2
  rw [q.l] at e3
  cases e3
  rw [getElem?_put_ne (Ne.symm hjk)] at ej
  refine ⟨no_Lx hn (Ne.symm hjk) ej,fun c o ec z => ?_⟩
  rw [List.getElem?_set_ne (Ne.symm hjk)] at ec
  exact own_here st ej o ec (by rw [z,hl])
 ·have hj:i ≠ j:=fun z => by subst z; rw [getElem?_put_self hi'] at ej; cases ej; cases hbm
  rw [getElem?_put_ne hj] at ej
  exact ⟨ej,List.getElem?_set_ne hj⟩
 ·have hj:i ≠ j:=fun z => by subst z; rw [getElem?_put_self hi'] at ej; cases ej
  rw [getElem?_put_ne hj] at ej
  exact ⟨⟨zs,ej⟩,List.getElem?_set_ne hj⟩
theorem sc_repO {F:Hp} {v:PV} {s:Sc} {u:V} (h:sc? v = some s) (r:Rep K F v u):u = s.v:=by
 cases v <;> first | (cases h; done) | (cases h; rw [Rep] at r; exact r)
theorem sc_pv {v:PV} {s:Sc} (h:sc? v = some s):v = s.pv:=by
 cases v <;> first | (cases h; done) | (cases h; rfl)
theorem rep_scO (F:Hp) (s:Sc):Rep K F s.pv s.v:=by
 cases s <;> (show Rep K F _ _; unfold Sc.pv; rw [Rep]; rfl)
end
section
variable {X:Cx} {T:Tab} {k:Nat} {cal:Cal}
theorem z_retT {me:ME} {v:Expr} {pos:Pos} (h:PE X v (tE X.K cal me)) (hb:isBor me = false):PS X (.Return (some v) pos) (tS X.K cal (.retT me)):=by
 refine (ps_ret h).imp fun D σ H q => ?_
 obtain ⟨B,O₀,O,ρ,st,q⟩:=q
 rw [ex] at q
 obtain ⟨w,e,q⟩:=bindR_end q
 refine ⟨B,O₀,O,ρ,w,st,e,fun u H' s g => ?_⟩
 cases es:sc? w with
 | none => rw [es] at q; exact (show False from q).elim
 | some sv =>
  rw [es] at q
  rw [sc_repO es (g.2 hb)]
  exact q σ H' O (st.mono s) .refl
theorem z_appO {i:Nat} {me:ME} {x:Str} {v:Expr} {p fp apos cpos pos:Pos} (g:Gf X T k cal) (h:PE X v (tE X.K cal me)) (hn:nameAt X.N X.env.scope i x = true) (hb:isBor me = false) (hs:notStar v = true) (hline:(apos.endLine == cpos.line) = true) :
  PS X (.Expr (.Call (.Attribute (.Attribute (.Name x p) "taken" fp) "append" apos) [v] [] cpos) pos) (tS X.K cal (.appO i me)):=by
 refine (ps_expr (pe_bm PySem.F.plainAttrs_list PySem.F.slot_list_append PySem.F.type_list_append mt_append (f_at hn) (pa_cons h pa_nil (star1 hs _ _)) rfl (by rw [star1 hs]; rfl) hline (star1 hs _ _) rfl) rfl).imp fun D σ H q => ?_
 obtain ⟨B,O₀,O,ρ,st,q⟩:=q
 rw [ex] at q
 obtain ⟨w,e,q⟩:=bindR_end q
 cases hj:(ρ[i]?).join with
 | none => rw [hj] at q; exact (show False from q).elim
 | some m =>
  rw [hj] at q
  cases m with
  | ownO b fs xs =>
   dsimp only at q
   split at q
   ·rename_i hl
    obtain ⟨u,eu,a,l,rfl,qq⟩:=slot_of st hj
    obtain ⟨C,dx,gs,h1,h2⟩:=qq.ob
    obtain ⟨us,h3,h4⟩:=qq.li
    obtain ⟨c1,_,c2⟩:=g.cls C h2.cls
    refine ⟨_,eu,a,C,dx,gs,.ref l,rfl,h1,c1,c2,h2.lst,.inl ⟨rfl,us,SqL.of h3⟩,B,O₀,O,ρ,w,st,e,fun u H1 s g1 => ⟨l,us,u,rfl,rfl,s _ _ h3,?_,?_⟩⟩
    ·rw [<- h4.length]; exact Nat.lt_of_lt_of_le hl (by decide)
    ·have st1:=st.mono s
     have q1:=qq.move (hide_same s) (fun _ => s _ _) (fun _ => s _ _) qq.aO qq.lO qq.aB qq.lB
     have vis:Same (hide H1 O) (hide (upd H1 l (.lst (us ++ [u]))) (l :: O.filter fun b => decide (b ≠ l))):=fun c o ec => by
      have hc:c ∉ O:=fun z => by rw [hide_in z] at ec; cases ec
      rw [hide_out hc] at ec
      have hn:c ∉ l :: O.filter fun b => decide (b ≠ l):=fun z => by
       rcases List.mem_cons.mp z with z | z
       ·exact hc (z ▸ qq.lO)
       ·exact hc (List.mem_filter.mp z).1
      have hcl:c ≠ l:=fun z => hc (z ▸ qq.lO)
      rw [hide_out hn,upd_ne hcl]
      exact ec
     obtain ⟨st',k'⟩:=st1.changeO (ys:=xs ++ [w]) (l':=l) (H':=upd H1 l (.lst (us ++ [u]))) (join_some hj) eu q1 (fun c o _ n2 ec => by rw [upd_ne n2]; exact ec) (.inl rfl)
      ⟨⟨C,dx,gs,by rw [upd_ne qq.ne]; exact s _ _ h1,(h2.mono (hide_same s)).mono vis⟩,⟨_,upd_same,Reps.mono vis _ ((Reps.mono (hide_same s) _ h4).snoc (g1.2 hb))⟩,List.mem_cons_of_mem _ (List.mem_filter.mpr ⟨qq.aO,decide_eq_true qq.ne⟩),List.mem_cons_self,rfl,rfl,qq.ne⟩
     exact q _ _ _ st' k'
   ·exact (show False from q).elim
  | _ => exact (show False from q).elim
noncomputable def tTk (K:PySem.W.Frag) (cal:Cal) (f i:Nat) (ms:List ME):TE:=fun σ H Q => ∃ B O₀ O ρ b fs xs vs v ys,StOk K B O₀ O H ρ σ /\ (ρ[i]?).join = some (.ownO b fs xs) /\ evs cal ms ρ = some vs /\ cal (f + 3000) (.ownO true fs xs :: vs.map .val) = some (.tup [Sc.pv v,.lst ys]) /\
 ∀ H' O',StOk K B O₀ O' H' (put ρ i (.ownO b fs ys)) σ -> Keeps B O O' ρ (put ρ i (.ownO b fs ys)) σ σ -> Q v.v H'
theorem s_takeO {f i:Nat} {ms:List ME} {x m:Str} {es:List Expr} {p ap pos:Pos} (g:Gf X T k cal) (hf:T.ms[f]? = some (some m)) (hM:m ∈ methN) (hn:nameAt X.N X.env.scope i x = true) (ha:PA X es (tEs X.K cal ms)) (hb:(ms.all fun m => !isBor m) = true) (hs:es.all notStar = true) (hl:ms.length = es.length) (hline:(ap.endLine == pos.line) = true) (h30:decide (es.length < 30) = true):PE X (.Call (.Attribute (.Name x p) m ap) es [] pos) (tTk X.K cal f i ms):=by
 by_cases hC:∃ C,IsC X.K C
 ·obtain ⟨C,hC⟩:=hC
  have one:∀ C',IsC X.K C' -> C' = C:=fun C' h => by
   have:=h.symm.trans hC
   cases this
   rfl
  obtain ⟨fa,fd,ps,h1,h3,F⟩:=g.methsT f m hf C hC
  have key:∀ σ H Q,tTk X.K cal f i ms σ H Q -> tMeth C m (spT X.K cal f) [] E0 (tVar i) (tEs X.K cal ms) σ H Q:=fun σ H Q q => by
   obtain ⟨B,O₀,O,ρ,b,fs,xs,vs,v,ys,st,hj,e1,e2,q⟩:=q
   obtain ⟨u,eu,a,l,rfl,qq⟩:=slot_of st hj
   obtain ⟨C',dx,gs,f1,f2⟩:=id qq.ob
   have hCC:=one C' f2.cls
   subst hCC
   refine ⟨_,eu,a,dx,gs,rfl,f1,f2.no m hM,B,O₀,O,ρ,vs,st,e1,fun us' H1 s1 g1 => ?_⟩
   show spT X.K cal f (V.ref a :: (us' ++ [])) H1 Q E0
   rw [List.append_nil]
   have q1:OwnAt X.K B O H1 fs xs a l:=qq.move (hide_same s1) (fun _ => s1 _ _) (fun _ => s1 _ _) qq.aO qq.lO qq.aB qq.lB
   refine ⟨O,a,l,fs,xs,vs,us',v,ys,rfl,here_mono s1 st.here,q1.move (Same.refl _) (fun _ h => h) (fun _ h => h) qq.aO qq.lO rfl rfl,g1.2 hb,e2,fun l' H' kp hl' q2 => ?_⟩
   obtain ⟨st',k'⟩:=(st.mono s1).changeO (join_some hj) eu q1 kp hl' q2
   exact q _ _ st' k'
  cases es with
  | nil =>
   refine (pe_meth0 (name_at hn) (g.cls C hC).1 h1 F g.room h3 .nil pass0 (meth_eq hs h30 hline)).imp fun σ H Q q => ?_
   obtain ⟨u,eu,a,dx,gs,e,f1,f2,B,O₀,O,ρ,vs,st,e1,q⟩:=key σ H Q q
   cases ms with
   | nil =>
    simp only [evs,Option.some.injEq] at e1
    subst e1
    exact ⟨u,eu,a,dx,gs,e,f1,f2,q [] H (Same.refl H) ⟨.nil,fun _ => .nil⟩⟩
   | cons _ _ => cases hl
  | cons e es =>
   simp only [List.all_cons,Bool.and_eq_true] at hs
   exact (pe_meth (name_at hn) (g.cls C hC).1 h1 F g.room h3 .nil pass0 ha (star1 hs.1 _ _) (backTo_any hs.2) (meth_eq (by simp [hs]) h30 hline)).imp key
 ·exact fun pins s σ H Q I q => by
   obtain ⟨B,O₀,O,ρ,b,fs,xs,vs,v,ys,st,hj,_⟩:=q
   obtain ⟨u,eu,a,l,rfl,qq⟩:=slot_of st hj
   obtain ⟨C',dx,gs,f1,f2⟩:=id qq.ob
   exact absurd ⟨C',f2.cls⟩ hC
noncomputable def takeR (ρ:Rho) (i:Nat) (m:MV) (v:PV):Option Nat -> R
 | some j => if i = j then .bad else .next (put (put ρ i m) j (.val v))
 | none => .next (put ρ i m)
theorem takeO_end {B:Hp} {O₀ O:List Addr} {ρ:Rho} {σ:St} {D:Ends} {j:Option Nat} {i f:Nat} {ms:List ME} (q:EndOk X.K B O₀ O ρ σ D (ex cal (.takeO j i f ms) ρ)):∃ b fs xs vs v ys,(ρ[i]?).join = some (.ownO b fs xs) /\ evs cal ms ρ = some vs /\ cal (f + 3000) (.ownO true fs xs :: vs.map .val) = some (.tup [Sc.pv v,.lst ys]) /\
  EndOk X.K B O₀ O ρ σ D (takeR ρ i (.ownO b fs ys) v.pv j):=by
 rw [ex] at q
 cases hj:(ρ[i]?).join with
 | none => rw [hj] at q; exact (show False from q).elim
 | some m =>
  rw [hj] at q
  cases m with
  | ownO b fs xs =>
   dsimp only at q
   split at q
   ·rename_i v ys e
    rw [Option.bind_eq_some_iff] at e
    obtain ⟨vs,e1,e2⟩:=e
    cases es:sc? v with
    | none => rw [es] at q; exact (show False from q).elim
    | some sv =>
     rw [es] at q
     have hv:=sc_pv es
     subst hv
     cases j <;> exact ⟨b,fs,xs,vs,sv,ys,rfl,e1,e2,q⟩
   ·exact (show False from q).elim
  | _ => exact (show False from q).elim
theorem z_takeO {i j f:Nat} {ms:List ME} {x:Str} {v:Expr} {px pos:Pos} (d:Df X) (hi:X.N[j]? = some x) (hx:Loc X.env.scope x) (h:PE X v (tTk X.K cal f i ms)) (hc:notComp v = true):PS X (.Assign [.Name x px] v pos) (tS X.K cal (.takeO (some j) i f ms)) :=
 PS.imp' (ps_set d.nd hi hx h (swap_false hc _ _ _) (.inl (d.fn x))) fun D σ H hl q => by
  obtain ⟨B,O₀,O,ρ,st,q⟩:=q
  obtain ⟨b,fs,xs,vs,w,ys,e1,e2,e3,q⟩:=takeO_end q
  refine ⟨B,O₀,O,ρ,b,fs,xs,vs,w,ys,st,e1,e2,e3,fun H' O' st' k' => ?_⟩
  simp only [takeR] at q
  split at q
  ·exact (show False from q).elim
  ·obtain ⟨st2,k2⟩:=st'.store (ltN hi hl) (rep_scO (K:=X.K) _ w)
   exact q _ _ _ st2 (k'.trans k2)
theorem z_takeE {i f:Nat} {ms:List ME} {v:Expr} {pos:Pos} (h:PE X v (tTk X.K cal f i ms)) (hs:notComp v = true):PS X (.Expr v pos) (tS X.K cal (.takeO none i f ms)):=by
 refine (ps_expr h (by cases v <;> first | rfl | (cases hs; done))).imp fun D σ H q => ?_
 obtain ⟨B,O₀,O,ρ,st,q⟩:=q
 obtain ⟨b,fs,xs,vs,w,ys,e1,e2,e3,q⟩:=takeO_end q
 exact ⟨B,O₀,O,ρ,b,fs,xs,vs,w,ys,st,e1,e2,e3,fun H' O' st' k' => q _ _ _ st' k'⟩
theorem mkGs_fld {c r o:V} {l:Addr}:(mkGs c r o l).lookup ("hole_count":Str) = some c /\ (mkGs c r o l).lookup ("ribbons":Str) = some r /\ (mkGs c r o l).lookup ("opener":Str) = some o /\ (mkGs c r o l).lookup ("taken":Str) = some (.ref l) /\ ∀ m ∈ methN,(mkGs c r o l).lookup m = none:=by
 unfold mkGs
 refine ⟨?_,?_,?_,?_,fun m hm => ?_⟩
 ·rw [lookup_putF,if_neg (by decide +kernel),lookup_putF,if_neg (by decide +kernel),lookup_putF,if_neg (by decide +kernel),lookup_putF,if_pos rfl]
 ·rw [lookup_putF,if_neg (by decide +kernel),lookup_putF,if_neg (by decide +kernel),lookup_putF,if_pos rfl]
 ·rw [lookup_putF,if_neg (by decide +kernel),lookup_putF,if_pos rfl]
 ·rw [lookup_putF,if_pos rfl]
 ·have ne:∀ x ∈ (["taken","opener","ribbons","hole_count"]:List Str),m ≠ x:=fun x hx z => by
   subst z
   exact absurd hx (by revert m; decide +kernel)
  rw [lookup_putF,if_neg (ne _ (by simp)),lookup_putF,if_neg (ne _ (by simp)),lookup_putF,if_neg (ne _ (by simp)),lookup_putF,if_neg (ne _ (by simp))]
  rfl
theorem mkFs_of {vs fs:List PV} (h:mkFs vs = some fs):∃ c r o,(vs = [.tup [c,r],o] \/ vs = [.tup [c,r]] /\ o = .str "weaver") /\ fs = [c,r,o]:=by
 unfold mkFs at h
 split at h
 ·cases h; exact ⟨_,_,_,.inl rfl,rfl⟩
 ·cases h; exact ⟨_,_,_,.inr ⟨rfl,rfl⟩,rfl⟩
 ·cases h
theorem mk_end {K:PySem.W.Frag} {B H H1:Hp} {O₀ O:List Addr} {ρ:Rho} {σ:St} {D:Ends} {i:Nat} {c r o:PV} {C a dx la:Addr} {ts:List V} {uo:V} (hi:i < σ.length) (hC:IsC K C) (hn:noLx ρ i = true) (st:StOk K B O₀ O H ρ σ) (s1:Same H H1) (q:EndOk K B O₀ O ρ σ D (.next (put ρ i (.ownO false [c,r,o] []))))
  (ht:hide H1 O la = some (.tup ts)) (rt:Reps K (hide H1 O) [c,r] ts) (ro:Rep K (hide H1 O) o uo) (na:H1 a = none) (nd:H1 dx = none):spI K C [.ref a,.ref la,uo] (upd (upd H1 dx (.own a)) a (.ins C dx [])) (fun v H2 => v = .non /\ D.nx (σ.set i (some (.ref a))) H2) E0:=by
 rw [Reps] at rt
 obtain ⟨uc,r3,rfl,rc,rt⟩:=rt
 rw [Reps] at rt
 obtain ⟨ur,r4,rfl,rr,rt⟩:=rt
 rw [Reps] at rt
 subst rt
 have s2:Same H1 (upd (upd H1 dx (.own a)) a (.ins C dx [])):=fun b u eb => by rw [upd_ne (ne_of_none eb na),upd_ne (ne_of_none eb nd)]; exact eb
 refine ⟨a,dx,la,uc,ur,uo,rfl,upd_same,s2.seqT (SqT.of (hide_le H1 O _ _ ht)),fun l H' nl ea el kp => ⟨rfl,?_⟩⟩
 have hla:a ≠ l:=fun z => by rw [<- z,upd_same] at nl; cases nl
 have nl1:H1 l = none:=s2.free nl
 have s3:Same H1 H':=fun b u eb => kp b u (ne_of_none eb na) (s2 b u eb)
 have vis:Same (hide H1 O) (hide H' (a :: l :: O)):=hide_mono s3 fun b h => by
  rcases List.mem_cons.mp h with rfl | h
  ·exact .inr na
  ·rcases List.mem_cons.mp h with rfl | h
   ·exact .inr nl1
   ·exact .inl h
 obtain ⟨f1,f2,f3,f4,f5⟩:=mkGs_fld (c:=uc) (r:=ur) (o:=uo) (l:=l)
 have hf:∀ (n:Nat) (x:Str) (v:PV),fldN[n]? = some x -> ([c,r,o]:List PV)[n]? = some v -> ∃ u,(mkGs uc ur uo l).lookup x = some u /\ Rep K (hide H' (a :: l :: O)) v u:=fun n x v en evv => by
  match n,en,evv with
  | 0,en,evv => cases en; cases evv; exact ⟨uc,f1,Rep.mono vis _ rc⟩
  | 1,en,evv => cases en; cases evv; exact ⟨ur,f2,Rep.mono vis _ rr⟩
  | 2,en,evv => cases en; cases evv; exact ⟨uo,f3,Rep.mono vis _ ro⟩
 obtain ⟨st',k'⟩:=st.storeO (fs:=[c,r,o]) hi hn (s1.trans s3) (s1.free na) (s1.free nl1) ⟨⟨C,dx,_,ea,hC,hf,f4,f5⟩,⟨[],el,.nil⟩,List.mem_cons_self,List.mem_cons_of_mem _ List.mem_cons_self,rfl,rfl,hla⟩
 exact q _ _ _ st' k'
theorem z_mkO {i:Nat} {ms:List ME} {e:Expr} {es:List Expr} {x:Str} {px p cp pos:Pos} (g:Gf X T k cal) (d:Df X) (hi:X.N[i]? = some x) (hx:Loc X.env.scope x) (hg:glB X.env.scope ("Table":Str) = true) (ha:PA X (e :: es) (tEs X.K cal ms)) (hb:(ms.all fun m => !isBor m) = true) (hs:(e :: es).all notStar = true) (hln:ms.length = (e :: es).length) :
  PS X (.Assign [.Name x px] (.Call (.Name ("Table":Str) p) (e :: es) [] cp) pos) (tS X.K cal (.mkO i ms)):=by
 by_cases hL:cal 4000 [] ≠ none
 ·obtain ⟨C,hC,hm,fa,fd,ps,M,hbd,F,dv,hbl,hdv⟩:=g.ini hL
  simp only [List.all_cons,Bool.and_eq_true] at hs
  cases es with
  | nil =>
   refine PS.imp' (ps_set d.nd hi hx (pe_make M F (g.lvl hL) (glOf hg) hm hbl hdv pass0 ha (by decide) (star1 hs.1 _ _) (backTo_any hs.2)) (swap_false (v:=.Call (.Name ("Table":Str) p) [e] [] cp) rfl _ _ _) (.inl (d.fn x))) fun D σ H hl q => ?_
   obtain ⟨B,O₀,O,ρ,st,q⟩:=q
   rw [ex] at q
   cases ev1:(evs cal ms ρ).bind mkFs with
   | none => rw [ev1] at q; exact (show False from q).elim
   | some fs =>
    rw [ev1] at q
    dsimp only at q
    split at q
    ·rename_i c0
     rw [Option.bind_eq_some_iff] at ev1
     obtain ⟨vs,e1,e2⟩:=ev1
     obtain ⟨c,r,o,hv,rfl⟩:=mkFs_of e2
     have hvl:=evs_len e1
     rcases hv with rfl | ⟨rfl,rfl⟩
     ·rw [hln] at hvl
      simp at hvl
     ·refine ⟨B,O₀,O,ρ,_,st,e1,fun us H1 s1 g1 a dx na nd ne => ?_⟩
      have rs:=g1.2 hb
      rw [Reps] at rs
      obtain ⟨ut,r1,rfl,rt,rs⟩:=rs
      rw [Reps] at rs
      subst rs
      rw [Rep] at rt
      obtain ⟨la,ts,rfl,ht,rt⟩:=rt
      exact mk_end (ltN hi hl) hC c0.1 st s1 q ht rt (by rw [Rep]) na nd
    ·exact (show False from q).elim
  | cons e' es =>
   refine PS.imp' (ps_set d.nd hi hx (pe_make M F (g.lvl hL) (glOf hg) hm hbd .nil pass0 ha (by decide) (star1 hs.1 _ _) (backTo_any (by simpa using hs.2))) (swap_false (v:=.Call (.Name ("Table":Str) p) (e :: e' :: es) [] cp) rfl _ _ _) (.inl (d.fn x))) fun D σ H hl q => ?_
   obtain ⟨B,O₀,O,ρ,st,q⟩:=q
   rw [ex] at q
   cases ev1:(evs cal ms ρ).bind mkFs with
   | none => rw [ev1] at q; exact (show False from q).elim
   | some fs =>
    rw [ev1] at q
    dsimp only at q
    split at q
    ·rename_i c0
     rw [Option.bind_eq_some_iff] at ev1
     obtain ⟨vs,e1,e2⟩:=ev1
     obtain ⟨c,r,o,hv,rfl⟩:=mkFs_of e2
     have hvl:=evs_len e1
     rcases hv with rfl | ⟨rfl,rfl⟩
     ·refine ⟨B,O₀,O,ρ,_,st,e1,fun us H1 s1 g1 a dx na nd ne => ?_⟩
      have rs:=g1.2 hb
      rw [Reps] at rs
      obtain ⟨ut,r1,rfl,rt,rs⟩:=rs
      rw [Reps] at rs
      obtain ⟨uo,r2,rfl,ro,rs⟩:=rs
      rw [Reps] at rs
      subst rs
      rw [Rep] at rt
      obtain ⟨la,ts,rfl,ht,rt⟩:=rt
      exact mk_end (ltN hi hl) hC c0.1 st s1 q ht rt ro na nd
     ·rw [hln] at hvl
      simp at hvl
    ·exact (show False from q).elim
 ·exact fun pins s σ H D I q => by
   obtain ⟨B,O₀,O,ρ,st,q⟩:=q
   rw [ex] at q
   cases ev1:(evs cal ms ρ).bind mkFs with
   | none => rw [ev1] at q; exact (show False from q).elim
   | some fs =>
    rw [ev1] at q
    dsimp only at q
    rw [if_neg fun z => hL z.2] at q
    exact (show False from q).elim
end
end MM
namespace MM
open PySem PySem.Spec PyProof.Rows L2
section
variable {K:PySem.W.Frag} {B H:Hp} {O₀ O:List Addr} {ρ:Rho} {σ:St}
theorem seen {H1 H':Hp} {O' L:List Addr} {ρ':Rho} {σ':St} (st':StOk K (guard B O H1 L) O₀ O' H' ρ' σ') (k:Keeps (guard B O H1 L) O O' ρ ρ' σ σ'):Same (hide H1 O) (hide H' O'):=fun b u e => by
 have hb:b ∉ O:=fun z => by rw [hide_in z] at e; cases e
 have hg:guard B O H1 L b = some u:=hide_guard b u e
 rw [hide_out]
 ·exact st'.keep b u hg
 ·intro z
  rcases k.new b z with q | q
  ·exact hb q
  ·rw [hg] at q; cases q
theorem lend_ok {ms:List ME} (st:StOk K B O₀ O H ρ σ):StOk K (guard B O H (lentOf ms ρ σ)) O₀ O H (lend ms ρ) σ /\ (lend ms ρ).length = ρ.length:=by
 have base:∀ L:List Addr,(∀ a ∈ L,∀ (j:Nat) (ys:MV),(lend ms ρ)[j]? = some (some ys) -> ownM ys = true -> σ[j]? ≠ some (some (.ref a))) -> (∀ (j:Nat) (m:MV),(lend ms ρ)[j]? = some (some m) -> (∃ ys,m = .brw ys /\ ρ[j]? = some (some (.own ys)) /\ ∃ a,σ[j]? = some (some (.ref a)) /\ a ∈ L) \/ ρ[j]? = some (some m)) -> (lend ms ρ).length = ρ.length ->
   (∀ a ∈ L,∀ (j:Nat) (m1:MV) (c l:Addr),ρ[j]? = some (some m1) -> isL m1 = true -> σ[j]? = some (some (.ref c)) -> lOf (H c) = some l -> a ≠ l) ->
   StOk K (guard B O H L) O₀ O H (lend ms ρ) σ:=fun L h1 h2 h3 h4 => by
  have gl:=guard_le (O:=O) (L:=L) st.keep
  have lg:=le_guard (O:=O) (L:=L) st.keep
  refine ⟨gl,st.here,st.sub,fun a ha z => st.old a ha (lg.free z),h3.trans st.len,fun j m e => ?_,fun c d ps qs ad hcd e1 e2 p1 p2 e3 e4 => ?_
   ,inn_keep st.inn (fun j mo e l0 => by
    rcases h2 j _ e with ⟨_,z,_⟩ | e2
    ·rw [z] at l0; cases l0
    ·exact ⟨⟨mo,e2,l0⟩,rfl,fun _ _ _ h => h⟩) fun j m c e _ o ec => .inl (by
    rcases h2 j _ e with ⟨_,z,_⟩ | e2
    ·rw [z] at o; cases o
    ·exact ⟨m,e2,o,ec⟩)
   ⟩
  ·rcases h2 j m e with ⟨ys,rfl,e2,a,ea,haL⟩ | e2
   ·obtain ⟨u,eu,a',us,rfl,q1,q2,q3,q4⟩:=st.slot j _ e2
    rw [ea] at eu
    cases eu
    refine ⟨_,ea,a,us,rfl,SqL.of ?_,q2⟩
    unfold guard
    rw [if_pos q3,if_pos haL]
    exact q1
   ·obtain ⟨u,eu,q⟩:=st.slot j m e2
    refine ⟨u,eu,?_⟩
    cases m with
    | val v => exact q
    | own ys =>
     obtain ⟨a,us,rfl,q1,q2,q3,q4⟩:=q
     refine ⟨a,us,rfl,q1,q2,q3,?_⟩
     unfold guard
     rw [if_pos q3,if_neg fun haL => h1 a haL j (.own ys) e rfl eu]
     exact q4
    | ownD ys =>
     obtain ⟨a,rfl,q1,q3,q4⟩:=q
     refine ⟨a,rfl,q1,q3,?_⟩
     unfold guard
     rw [if_pos q3,if_neg fun haL => h1 a haL j (.ownD ys) e rfl eu]
     exact q4
    | ownO b fs ys =>
     obtain ⟨a,l,rfl,q⟩:=q
     refine ⟨a,l,rfl,q.move (Same.refl _) (fun _ h => h) (fun _ h => h) q.aO q.lO ?_ ?_⟩
     ·unfold guard
      rw [if_pos q.aO,if_neg fun haL => h1 a haL j (.ownO b fs ys) e rfl eu]
      exact q.aB
     ·unfold guard
      rw [if_pos q.lO,if_neg fun hbL => h4 l hbL j _ a l e2 rfl eu q.l rfl]
      exact q.lB
    | brwO fs ys => obtain ⟨a,rfl,q⟩:=q; exact ⟨a,rfl,q.move lg (Same.refl _)⟩
    | brwD ys => obtain ⟨a,rfl,q1⟩:=q; exact ⟨a,rfl,Same.rd lg q1⟩
    | brw ys => obtain ⟨a,us,rfl,q1,q2⟩:=q; exact ⟨a,us,rfl,lg.seq q1,q2⟩
  ·rcases h2 c _ e1 with ⟨_,rfl,_⟩ | e1
   ·cases p1
   ·rcases h2 d _ e2 with ⟨_,rfl,_⟩ | e2
    ·cases p2
    ·exact st.apart c d ps qs ad hcd e1 e2 p1 p2 e3 e4
 have plain:lend ms ρ = ρ -> lentOf ms ρ σ = [] -> StOk K (guard B O H (lentOf ms ρ σ)) O₀ O H (lend ms ρ) σ /\ (lend ms ρ).length = ρ.length:=fun e1 e2 => by
  rw [e2]
  exact ⟨base [] (fun a ha => by simp at ha) (fun j m e => .inr (by rw [e1] at e; exact e)) (by rw [e1]) (fun a ha => by simp at ha),by rw [e1]⟩
 match ms with
 | [] => exact plain rfl rfl
 | [.bor i] =>
  cases hj:(ρ[i]?).join with
  | none => exact plain (by simp [lend,hj]) (by simp [lentOf,hj])
  | some m =>
   cases m with
   | val _ => exact plain (by simp [lend,hj]) (by simp [lentOf,hj])
   | brw _ => exact plain (by simp [lend,hj]) (by simp [lentOf,hj])
   | ownD _ => exact plain (by simp [lend,hj]) (by simp [lentOf,hj])
   | ownO _ _ _ => exact plain (by simp [lend,hj]) (by simp [lentOf,hj])
   | brwO _ _ => exact plain (by simp [lend,hj]) (by simp [lentOf,hj])
   | brwD _ => exact plain (by simp [lend,hj]) (by simp [lentOf,hj])
   | own xs =>
    have el:lend [.bor i] ρ = put ρ i (.brw xs):=by simp [lend,hj]
    have e0:=join_some hj
    obtain ⟨u,eu,a,us,rfl,q1,q2,q3,q4⟩:=st.slot i _ e0
    have eL:lentOf [.bor i] ρ σ = [a]:=by simp [lentOf,hj,eu]
    have hi':i < ρ.length:=(List.getElem?_eq_some_iff.mp e0).1
    rw [eL]
    refine ⟨base [a] (fun b hb j ys e oy z => ?_) (fun j m e => ?_) (by rw [el,put_len]) (fun b hb j m1 c l f1 f0 f2 f3 => by
     rw [List.mem_singleton.mp hb]
     exact (st.inn j m1 c l f1 f0 f2 f3 i (.own xs) (fun z => by subst z; rw [e0] at f1; cases f1; cases f0) e0).2 a rfl eu),by rw [el,put_len]⟩
    ·have:b = a:=by simpa using hb
     subst this
     rw [el] at e
     have hj':i ≠ j:=fun z => by subst z; rw [getElem?_put_self hi'] at e; cases e; cases oy
     rw [getElem?_put_ne hj'] at e
     exact st.apart i j (.own xs) ys b hj' e0 e rfl oy eu z
    ·rw [el] at e
     by_cases hij:i = j
     ·subst hij
      rw [getElem?_put_self hi'] at e
      cases e
      exact .inl ⟨xs,rfl,e0,a,eu,by simp⟩
     ·rw [getElem?_put_ne hij] at e
      exact .inr e
 | .var _ :: _ => exact plain rfl rfl
 | .cst _ :: _ => exact plain rfl rfl
 | .glob _ _ :: _ => exact plain rfl rfl
 | .bin _ _ _ :: _ => exact plain rfl rfl
 | .neg _ :: _ => exact plain rfl rfl
 | .not _ :: _ => exact plain rfl rfl
 | .and _ _ :: _ => exact plain rfl rfl
 | .or _ _ :: _ => exact plain rfl rfl
 | .ite _ _ _ :: _ => exact plain rfl rfl
 | .cmp _ _ _ :: _ => exact plain rfl rfl
 | .chain _ _ _ _ _ :: _ => exact plain rfl rfl
 | .tup _ :: _ => exact plain rfl rfl
 | .lst _ :: _ => exact plain rfl rfl
 | .idx _ _ :: _ => exact plain rfl rfl
 | .slice _ _ _ :: _ => exact plain rfl rfl
 | .blt _ _ :: _ => exact plain rfl rfl
 | .call _ _ :: _ => exact plain rfl rfl
 | .callD _ _ _ :: _ => exact plain rfl rfl
 | .comp _ _ _ _ _ :: _ => exact plain rfl rfl
 | .dget _ _ _ :: _ => exact plain rfl rfl
 | .dat _ _ :: _ => exact plain rfl rfl
 | .dIn _ _ _ :: _ => exact plain rfl rfl
 | .fld _ _ :: _ => exact plain rfl rfl
 | .fldL _ :: _ => exact plain rfl rfl
 | .inO _ _ _ :: _ => exact plain rfl rfl
 | .callM _ _ _ :: _ => exact plain rfl rfl
 | .comp2 _ _ _ _ :: _ => exact plain rfl rfl
 | .callV _ _ :: _ => exact plain rfl rfl
 | .bor _ :: _ :: _ => exact plain rfl rfl
theorem lend_get {ms:List ME} {j:Nat} {ys:List PV} (h:(lend ms ρ)[j]? = some (some (.brw ys))):ρ[j]? = some (some (.brw ys)) \/ (ms = [.bor j] /\ ρ[j]? = some (some (.own ys))):=by
 unfold lend at h
 split at h
 ·rename_i i
  split at h
  ·rename_i xs hj
   have e0:=join_some hj
   have hi':i < ρ.length:=(List.getElem?_eq_some_iff.mp e0).1
   by_cases hij:i = j
   ·subst hij
    rw [getElem?_put_self hi'] at h
    cases h
    exact .inr ⟨rfl,e0⟩
   ·rw [getElem?_put_ne hij] at h
    exact .inl h
  ·exact .inl h
 ·exact .inl h
theorem lend_getD {ms:List ME} {j:Nat} {ys:DD} (h:(lend ms ρ)[j]? = some (some (.brwD ys))):ρ[j]? = some (some (.brwD ys)):=by
 unfold lend at h
 split at h
 ·rename_i i
  split at h
  ·rename_i xs hj
   have e0:=join_some hj
   have hi':i < ρ.length:=(List.getElem?_eq_some_iff.mp e0).1
   by_cases hij:i = j
   ·subst hij
    rw [getElem?_put_self hi'] at h
    cases h
   ·rw [getElem?_put_ne hij] at h
    exact h
  ·exact h
 ·exact h
theorem lend_getO {ms:List ME} {j:Nat} {m:MV} (hb:∀ xs,m ≠ .brw xs) (h:(lend ms ρ)[j]? = some (some m)):ρ[j]? = some (some m):=by
 unfold lend at h
 split at h
 ·rename_i i
  split at h
  ·rename_i xs hj
   have e0:=join_some hj
   have hi':i < ρ.length:=(List.getElem?_eq_some_iff.mp e0).1
   by_cases hij:i = j
   ·subst hij
    rw [getElem?_put_self hi'] at h
    cases h
    exact absurd rfl (hb xs)
   ·rw [getElem?_put_ne hij] at h
    exact h
  ·exact h
 ·exact h
theorem lend_len {ms:List ME}:(lend ms ρ).length = ρ.length:=by
 unfold lend
 split
 ·split
  ·exact put_len
  ·rfl
 ·rfl
theorem back_ok {ms:List ME} {H1 H':Hp} {O':List Addr} {ρ':Rho} {σ':St} (st:StOk K B O₀ O H1 ρ σ) (st':StOk K (guard B O H1 (lentOf ms ρ σ)) O₀ O' H' ρ' σ') (k:Keeps (guard B O H1 (lentOf ms ρ σ)) O O' (lend ms ρ) ρ' σ σ') :
  StOk K B O₀ O' H' (giveBack ms ρ ρ') σ' /\ Keeps B O O' ρ (giveBack ms ρ ρ') σ σ':=by
 have lg:=le_guard (O:=O) (L:=lentOf ms ρ σ) st.keep
 have vis:=seen st' k
 have stay:∀ a,B a ≠ none -> a ∈ O -> a ∈ O':=fun a h1 h2 => k.stay a (fun z => h1 (lg.free z)) h2
 have new:∀ a ∈ O',a ∈ O \/ B a = none:=fun a h => (k.new a h).imp id lg.free
 have mutO:∀ (j:Nat) (fs xs:List PV),ρ'[j]? = some (some (.ownO true fs xs)) -> (∃ ys,ρ[j]? = some (some (.ownO true fs ys))) /\ σ'[j]? = σ[j]?:=fun j fs xs e => by
  obtain ⟨⟨d,e1⟩,e2⟩:=k.mutO j fs xs e
  exact ⟨⟨d,lend_getO (fun _ z => by cases z) e1⟩,e2⟩
 have slot:∀ (j:Nat) (m:MV),ρ'[j]? = some (some m) -> (∀ ys,m = .brw ys -> ¬ (ms = [.bor j] /\ ρ[j]? = some (some (.own ys)))) -> ∃ u,σ'[j]? = some (some u) /\ SlotOk K B O' H' m u:=fun j m e hn => by
  obtain ⟨u,eu,q⟩:=st'.slot j m e
  refine ⟨u,eu,?_⟩
  cases m with
  | val v => exact q
  | own ys => obtain ⟨a,us,rfl,q1,q2,q3,q4⟩:=q; exact ⟨a,us,rfl,q1,q2,q3,lg.free q4⟩
  | brw ys =>
   obtain ⟨e1,e2⟩:=k.brw j (.brw ys) rfl e
   rcases lend_get e1 with e3 | e3
   ·obtain ⟨w,ew,a,us,rfl,q1,q2⟩:=st.slot j _ e3
    rw [eu,ew] at e2
    cases e2
    exact ⟨a,us,rfl,q1,Reps.mono vis _ q2⟩
   ·exact absurd e3 (hn ys rfl)
  | ownD ys => obtain ⟨a,rfl,q1,q3,q4⟩:=q; exact ⟨a,rfl,q1,q3,lg.free q4⟩
  | ownO b fs ys => obtain ⟨a,l,rfl,q⟩:=q; exact ⟨a,l,rfl,q.move (Same.refl _) (fun _ h => h) (fun _ h => h) q.aO q.lO (lg.free q.aB) (lg.free q.lB)⟩
  | brwO fs ys =>
   obtain ⟨e1,e2⟩:=k.brw j (.brwO fs ys) rfl e
   obtain ⟨w,ew,a,rfl,q1⟩:=st.slot j _ (lend_getO (fun _ z => by cases z) e1)
   rw [eu,ew] at e2
   cases e2
   exact ⟨a,rfl,q1.move (Same.refl B) vis⟩
  | brwD ys =>
   obtain ⟨e1,e2⟩:=k.brw j (.brwD ys) rfl e
   obtain ⟨w,ew,a,rfl,q1⟩:=st.slot j _ (lend_getD e1)
   rw [eu,ew] at e2
   cases e2
   exact ⟨a,rfl,q1⟩
 by_cases hA:∃ i xs0 xs,ms = [.bor i] /\ (ρ[i]?).join = some (.own xs0) /\ (ρ'[i]?).join = some (.brw xs)
 ·obtain ⟨i,xs0,xs,rfl,h0,h1⟩:=hA
  have eb:giveBack [.bor i] ρ ρ' = put ρ' i (.own xs):=by simp [giveBack,h0,h1]
  rw [eb]
  have e0:=join_some h0
  have e1:=join_some h1
  have hi':i < ρ'.length:=(List.getElem?_eq_some_iff.mp e1).1
  obtain ⟨el,es⟩:=k.brw i (.brw xs) rfl e1
  have exs:xs = xs0:=by
   rcases lend_get el with e3 | ⟨_,e3⟩
   ·rw [e0] at e3; cases e3
   ·rw [e0] at e3; cases e3; rfl
  subst exs
  obtain ⟨w,ew,a,us,rfl,q1,q2,q3,q4⟩:=st.slot i _ e0
  have eL:lentOf [.bor i] ρ σ = [a]:=by simp [lentOf,h0,ew]
  have ga:guard B O H1 (lentOf [.bor i] ρ σ) a = some (.lst us):=by
   unfold guard
   rw [eL,if_pos q3,if_pos (by simp)]
   exact q1
  have other:∀ (j:Nat) (ys:MV) (ad:Addr),ρ'[j]? = some (some ys) -> ownM ys = true -> σ'[j]? = some (some (.ref ad)) -> ad ≠ a:=fun j ys ad h1 oy h2 z => by
   obtain ⟨u,eu,qq⟩:=st'.slot j _ h1
   rw [h2] at eu
   cases eu
   cases ys with
   | own ys =>
    obtain ⟨b,_,e2,_,_,_,q⟩:=qq
    cases e2
    rw [z,ga] at q
    cases q
   | ownD ys =>
    obtain ⟨b,e2,_,_,q⟩:=qq
    cases e2
    rw [z,ga] at q
    cases q
   | ownO _ _ _ =>
    obtain ⟨b,l,e2,q⟩:=qq
    cases e2
    have q:=q.aB
    rw [z,ga] at q
    cases q
   | brwO _ _ => cases oy
   | val _ => cases oy
   | brw _ => cases oy
   | brwD _ => cases oy
  refine ⟨⟨lg.trans st'.keep,st'.here,st'.sub,st.old,by rw [put_len]; exact st'.len,fun j m e => ?_,fun c d ps qs ad hcd e1 e2 p1 p2 e3 e4 => ?_
   ,inn_keep st'.inn (fun j mo e l0 => by
    have hj:i ≠ j:=fun z => by subst z; rw [getElem?_put_self hi'] at e; cases e; cases l0
    rw [getElem?_put_ne hj] at e
    exact ⟨⟨mo,e,l0⟩,rfl,fun _ _ _ h => h⟩) fun j m c e _ o ec => by
    by_cases hj:i = j
    ·subst hj
     rw [es,ew] at ec
     cases ec
     refine .inr fun k' m1 a' l' f1 f0 f2 f3 z => ?_
     obtain ⟨u,e3,q⟩:=st'.slot k' _ f1
     rw [f2] at e3
     cases e3
     cases m1 <;> try (cases f0; done)
     obtain ⟨a2,l2,e4,q⟩:=q
     cases e4
     have e6:=q.l
     rw [e6] at f3
     cases f3
     have:=q.lB
     rw [<- z,ga] at this
     cases this
    ·rw [getElem?_put_ne hj] at e
     exact .inl ⟨m,e,o,ec⟩
   ⟩,⟨stay,new,fun j ys hbm e => ?_,by rw [put_len]; exact k.len.trans lend_len
   ,fun j fs xs e => by
    have hj:i ≠ j:=fun z => by subst z; rw [getElem?_put_self hi'] at e; cases e
    rw [getElem?_put_ne hj] at e
    exact mutO j fs xs e
   ⟩⟩
  ·by_cases hij:i = j
   ·subst hij
    rw [getElem?_put_self hi'] at e
    cases e
    refine ⟨_,by rw [es]; exact ew,a,us,rfl,st'.keep _ _ ga,Reps.mono vis _ q2,k.stay a (by rw [ga]; simp) q3,q4⟩
   ·rw [getElem?_put_ne hij] at e
    exact slot j m e fun ys _ ⟨z,_⟩ => hij (by cases z; rfl)
  ·by_cases hc:i = c
   ·subst hc
    rw [es,ew] at e3
    cases e3
    rw [getElem?_put_ne hcd] at e2
    exact other d qs _ e2 p2 e4 rfl
   ·rw [getElem?_put_ne hc] at e1
    by_cases hd:i = d
    ·subst hd
     rw [es,ew] at e4
     cases e4
     exact other c ps _ e1 p1 e3 rfl
    ·rw [getElem?_put_ne hd] at e2
     exact st'.apart c d ps qs ad hcd e1 e2 p1 p2 e3 e4
  ·by_cases hij:i = j
   ·subst hij
    rw [getElem?_put_self hi'] at e
    cases e
    cases hbm
   ·rw [getElem?_put_ne hij] at e
    obtain ⟨e1,e2⟩:=k.brw j ys hbm e
    cases ys with
    | brw ys =>
     rcases lend_get e1 with e3 | ⟨z,_⟩
     ·exact ⟨e3,e2⟩
     ·cases z; exact absurd rfl hij
    | brwD ys => exact ⟨lend_getD e1,e2⟩
    | val _ => cases hbm
    | own _ => cases hbm
    | ownD _ => cases hbm
    | ownO _ _ _ => cases hbm
    | brwO fs ys => exact ⟨lend_getO (fun _ z => by cases z) e1,e2⟩
 ·have eb:giveBack ms ρ ρ' = ρ':=by
   unfold giveBack
   split
   ·rename_i i
    split
    ·rename_i xs0 xs h0 h1
     exact absurd ⟨i,xs0,xs,rfl,h0,h1⟩ hA
    ·rfl
   ·rfl
  rw [eb]
  have no:∀ (j:Nat) (ys:List PV),ρ'[j]? = some (some (.brw ys)) -> ¬ (ms = [.bor j] /\ ρ[j]? = some (some (.own ys))):=fun j ys e ⟨h1,h2⟩ => hA ⟨j,ys,ys,h1,by rw [h2]; rfl,by rw [e]; rfl⟩
  refine ⟨⟨lg.trans st'.keep,st'.here,st'.sub,st.old,st'.len,fun j m e => slot j m e fun ys z => no j ys (by rw [e,z]),st'.apart
   ,st'.inn
   ⟩,⟨stay,new,fun j ys hbm e => ?_,k.len.trans lend_len
   ,mutO
   ⟩⟩
  obtain ⟨e1,e2⟩:=k.brw j ys hbm e
  cases ys with
  | brw ys =>
   rcases lend_get e1 with e3 | e3
   ·exact ⟨e3,e2⟩
   ·exact absurd e3 (no j ys e)
  | brwD ys => exact ⟨lend_getD e1,e2⟩
  | val _ => cases hbm
  | own _ => cases hbm
  | ownD _ => cases hbm
  | ownO _ _ _ => cases hbm
  | brwO fs ys => exact ⟨lend_getO (fun _ z => by cases z) e1,e2⟩
end
section
variable {X:Cx} {T:Tab} {k:Nat} {cal:Cal}
noncomputable def TgOk (K:PySem.W.Frag) (n:Nat) (g:TG) (tk:PV -> Rho -> Option Rho):Prop :=
 ∀ (B:Hp) (O₀ O:List Addr) (H:Hp) (ρ ρ':Rho) (σ:St) (x:PV) (u:V) (Q:St -> Hp -> Prop),σ.length = n -> StOk K B O₀ O H ρ σ -> Rep K (hide H O) x u -> tk x ρ = some ρ' ->
  (∀ σ',StOk K B O₀ O H ρ' σ' -> Keeps B O O ρ ρ' σ σ' -> Q σ' H) -> g u σ H Q
theorem for_go {K:PySem.W.Frag} {n:Nat} {k':Sk} {ms:List ME} {g:TG} {tk:PV -> Rho -> Option Rho} {body:List MS} {D:Ends} {σ:St} {H:Hp} (hn:σ.length = n) (hg:TgOk K n g tk) {B:Hp} {O₀ O:List Addr} {ρ:Rho} {vs xs:List PV} (st:StOk K B O₀ O H ρ σ) (e1:evs cal ms ρ = some vs) (e2:srcOf k' vs = some xs)
  (q:EndOk K B O₀ O ρ σ D ((forGo (fun x ρ' => bindO (tk x ρ') fun ρ'' => exs cal body ρ'') xs (lend ms ρ)).back ms ρ)):tFor (tW K cal k' ms) g (tSs K cal body) D σ H:=by
 refine ⟨B,O₀,O,ρ,vs,xs,st,e1,e2,fun J H1 s1 it => ?_⟩
 have st1:=st.mono s1
 obtain ⟨stL,_⟩:=lend_ok (ms:=ms) st1
 refine ⟨fun i m σ' H' => m = xs.length - i /\ i <= xs.length /\ ∃ ρ' O',StOk K (guard B O H1 (lentOf ms ρ σ)) O₀ O' H' ρ' σ' /\ Keeps (guard B O H1 (lentOf ms ρ σ)) O O' (lend ms ρ) ρ' σ σ' /\
  forGo (fun x ρ' => bindO (tk x ρ') fun ρ'' => exs cal body ρ'') (xs.drop i) ρ' = forGo (fun x ρ' => bindO (tk x ρ') fun ρ'' => exs cal body ρ'') xs (lend ms ρ),⟨xs.length,by simp,Nat.zero_le _,lend ms ρ,O,stL,.refl,by simp⟩,?_⟩
 rintro i m σ' H' ⟨rfl,hi,ρ',O',st',k',eq⟩
 by_cases hlt:i < xs.length
 ·right
  have ex:xs[i]? = some xs[i]:=List.getElem?_eq_getElem hlt
  refine ⟨it.go i _ H' st'.keep ex,fun σ2 H2 => ∃ m',m' < xs.length - i /\ (m' = xs.length - (i + 1) /\ i + 1 <= xs.length /\ ∃ ρ' O',StOk K (guard B O H1 (lentOf ms ρ σ)) O₀ O' H2 ρ' σ2 /\ Keeps (guard B O H1 (lentOf ms ρ σ)) O O' (lend ms ρ) ρ' σ σ2 /\
   forGo (fun x ρ' => bindO (tk x ρ') fun ρ'' => exs cal body ρ'') (xs.drop (i + 1)) ρ' = forGo (fun x ρ' => bindO (tk x ρ') fun ρ'' => exs cal body ρ'') xs (lend ms ρ)),fun σ2 H2 z => z,fun u H2 y => ?_⟩
  obtain ⟨s2,hr⟩:=it.yld i _ H' u H2 st'.keep ex y
  have vis:=seen st' k'
  have hx:Rep K (hide H2 O') xs[i] u:=hr O' st'.here (vis.trans (hide_same s2))
  rw [List.drop_eq_getElem_cons hlt,forGo] at eq
  cases et:tk xs[i] ρ' with
  | none =>
   rw [et] at eq
   rw [<- eq] at q
   exact (show False from q).elim
  | some ρ2 =>
   rw [et,show bindO (some ρ2) (fun ρ'' => exs cal body ρ'') = exs cal body ρ2 from rfl] at eq
   have hlen:σ'.length = n:=by rw [<- st'.len,k'.len,lend_len,st.len]; exact hn
   refine hg _ O₀ O' H2 ρ' ρ2 σ' _ u _ hlen (st'.mono s2) hx et fun σ2 st2 k2 => ?_
   refine ⟨_,O₀,O',ρ2,st2,?_⟩
   have kk:=k'.trans k2
   cases er:exs cal body ρ2 with
   | next ρ3 =>
    rw [er] at eq
    exact fun σ3 H3 O3 st3 k3 => ⟨_,by omega,rfl,hlt,ρ3,O3,st3,kk.trans k3,eq⟩
   | cont ρ3 =>
    rw [er] at eq
    exact fun σ3 H3 O3 st3 k3 => ⟨_,by omega,rfl,hlt,ρ3,O3,st3,kk.trans k3,eq⟩
   | brk ρ3 =>
    rw [er] at eq
    rw [<- eq] at q
    exact fun σ3 H3 O3 st3 k3 => by
     obtain ⟨stb,kb⟩:=back_ok st1 st3 (kk.trans k3)
     exact q σ3 H3 O3 stb kb
   | ret v =>
    rw [er] at eq
    rw [<- eq] at q
    exact fun w H3 s3 r => q w H3 ((le_guard st1.keep).trans s3) r
   | retT v ρ3 =>
    rw [er] at eq
    rw [<- eq] at q
    exact fun σ3 H3 O3 st3 k3 => by
     obtain ⟨stb,kb⟩:=back_ok st1 st3 (kk.trans k3)
     exact q σ3 H3 O3 stb kb
   | retF ys =>
    rw [er] at eq
    rw [<- eq] at q
    exact fun p us H3 s3 hp he r => q p us H3 ((le_guard st1.keep).trans s3) ((le_guard st1.keep).free hp) he r
   | bad =>
    rw [er] at eq
    rw [<- eq] at q
    exact (show False from q).elim
 ·left
  have ei:i = xs.length:=by omega
  subst ei
  rw [List.drop_length,forGo] at eq
  rw [<- eq] at q
  obtain ⟨stb,kb⟩:=back_ok st1 st' k'
  exact ⟨it.stop H' st'.keep,q σ' H' O' stb kb⟩
theorem tg_name {K:PySem.W.Frag} {n i:Nat} (hi:i < n):TgOk K n (gName i) (fun x ρ => some (put ρ i (.val x))):=by
 intro B O₀ O H ρ ρ' σ x u Q hn st r e q
 cases e
 obtain ⟨st',k'⟩:=st.store (i:=i) (by omega) r
 exact q _ st' k'
theorem z_for1 {i:Nat} {k':Sk} {src:List ME} {body:List MS} {x:Str} {px pos:Pos} {it:Expr} {b:List Stmt} (g:Gf X T k cal) (d:Df X) (hi:X.N[i]? = some x) (hx:Loc X.env.scope x) (hw:PI X (.Name x px) it (tW X.K cal k' src)) (hns:notSet it = true) (hb:PSs X b (tSs X.K cal body)) :
  PS X (.For (.Name x px) it b [] pos) (tS X.K cal (.for1 i k' src body)):=by
 refine PS.imp' (ps_for d.own g.calm hw (pg_name d.nd hi hx (.inl (d.fn x))) hb (by intro v; cases it <;> first | rfl | (simp [notSet] at hns))) fun D σ H hl q => ?_
 obtain ⟨B,O₀,O,ρ,st,q⟩:=q
 rw [ex] at q
 cases e:(evs cal src ρ).bind (srcOf k') with
 | none => rw [e] at q; exact (show False from q).elim
 | some xs =>
  rw [e] at q
  simp only [Option.bind_eq_some_iff] at e
  obtain ⟨vs,e1,e2⟩:=e
  exact for_go (tk:=fun x ρ => some (put ρ i (.val x))) rfl (tg_name (ltN hi hl)) st e1 e2 q
end
end MM
namespace MM
open PySem PySem.Spec PyProof.Rows L2
noncomputable def gNames:List Nat -> TGs
 | [] => gNil
 | i :: is => gCons (gName i) (gNames is)
section
variable {X:Cx} {T:Tab} {k:Nat} {cal:Cal}
theorem names_each:∀ {is:List Nat} {ts:List Expr},namesAt X.N X.env.scope is ts = true -> (assignEach ts X.env).length = is.length /\ (assignEach ts X.env).findIdx? (·.1) = none
 | [],[],_ => ⟨rfl,rfl⟩
 | [],_ :: _,h => by cases h
 | _ :: _,[],h => by cases h
 | i :: is,e :: ts,h => by
  cases e <;> first | (cases h; done) | skip
  simp only [na_name,Bool.and_eq_true] at h
  rename_i x p
  obtain ⟨h1,h2⟩:=names_each h.2
  refine ⟨?_,?_⟩
  ·show ((false,assign (.Name x p) X.env) :: assignEach ts X.env).length = _
   simp [h1]
  ·show ((false,assign (.Name x p) X.env) :: assignEach ts X.env).findIdx? (·.1) = none
   rw [List.findIdx?_cons]
   simp [h2]
theorem names_pgs (d:Df X):∀ {is:List Nat} {ts:List Expr},namesAt X.N X.env.scope is ts = true -> PGs X ts (gNames is)
 | [],[],_ => pgs_nil
 | [],_ :: _,h => by cases h
 | _ :: _,[],h => by cases h
 | i :: is,e :: ts,h => by
  cases e <;> first | (cases h; done) | skip
  simp only [na_name,Bool.and_eq_true,beq_iff_eq] at h
  rename_i x p
  exact pgs_cons (pg_name d.nd h.1.1.1 (locOf h.1.1.2) (.inl (d.fn x))) (names_pgs d h.2) rfl
theorem names_lt:∀ {is:List Nat} {ts:List Expr},namesAt X.N X.env.scope is ts = true -> ∀ i ∈ is,i < X.N.length
 | [],[],_ => fun i hi => by simp at hi
 | [],_ :: _,h => by cases h
 | _ :: _,[],h => by cases h
 | i :: is,e :: ts,h => fun j hj => by
  cases e <;> first | (cases h; done) | skip
  simp only [na_name,Bool.and_eq_true,beq_iff_eq] at h
  rcases List.mem_cons.mp hj with rfl | hj
  ·exact (List.getElem?_eq_some_iff.mp h.1.1.1).1
  ·exact names_lt h.2 j hj
theorem puts_go {K:PySem.W.Frag}:∀ {is:List Nat} {vs:List PV} {us:List V} {B:Hp} {O₀ O:List Addr} {H:Hp} {ρ ρ':Rho} {σ:St} {Q:St -> Hp -> Prop},(∀ i ∈ is,i < σ.length) -> StOk K B O₀ O H ρ σ -> Reps K (hide H O) vs us -> puts is vs ρ = some ρ' ->
  (∀ σ',StOk K B O₀ O H ρ' σ' -> Keeps B O O ρ ρ' σ σ' -> Q σ' H) -> gNames is us σ H Q
 | [],[],us,_,_,_,_,_,_,_,_,_,st,r,e,q => by
  rw [Reps] at r
  subst r
  cases e
  exact ⟨rfl,q _ st .refl⟩
 | [],_ :: _,_,_,_,_,_,_,_,_,_,_,_,_,e,_ => by simp [puts] at e
 | _ :: _,[],_,_,_,_,_,_,_,_,_,_,_,_,e,_ => by simp [puts] at e
 | i :: is,v :: vs,us,B,O₀,O,H,ρ,ρ',σ,Q,hi,st,r,e,q => by
  rw [Reps] at r
  obtain ⟨u,r',rfl,r1,r2⟩:=r
  rw [puts] at e
  obtain ⟨st1,k1⟩:=st.store (i:=i) (hi i (.head _)) r1
  refine ⟨u,r',rfl,?_⟩
  show gNames is r' (σ.set i (some u)) H Q
  exact puts_go (fun j hj => by rw [List.length_set]; exact hi j (.tail _ hj)) st1 r2 e fun σ' st' k' => q σ' st' (k1.trans k')
theorem tg_tup {K:PySem.W.Frag} {n:Nat} {is:List Nat} (hi:∀ i ∈ is,i < n):TgOk K n (gTup K is.length (gNames is)) (unTup is):=by
 intro B O₀ O H ρ ρ' σ x u Q hn st r e q
 cases x with
 | tup vs =>
  rw [Rep] at r
  obtain ⟨a,us,rfl,sq,rs⟩:=r
  have hl:∀ {is:List Nat} {vs:List PV} {ρ ρ':Rho},puts is vs ρ = some ρ' -> vs.length = is.length:=by
   intro is
   induction is with
   | nil => intro vs ρ ρ' h; cases vs <;> simp [puts] at h ⊢
   | cons i is ih => intro vs ρ ρ' h; cases vs <;> simp [puts] at h ⊢; exact ih h
  exact ⟨a,us,rfl,(hide_le H O).seqT (SqT.of sq),by rw [<- rs.length]; exact hl e,puts_go (fun i h => by rw [hn]; exact hi i h) st rs e q⟩
 | _ => cases e
theorem z_forT {is:List Nat} {k':Sk} {src:List ME} {body:List MS} {ts:List Expr} {j:Nat} {tp pos:Pos} {it:Expr} {b:List Stmt} (g:Gf X T k cal) (d:Df X) (hi:namesAt X.N X.env.scope is ts = true) (hw:PI X (.Tuple ts j tp) it (tW X.K cal k' src)) (hns:notSet it = true) (hb:PSs X b (tSs X.K cal body)) :
  PS X (.For (.Tuple ts j tp) it b [] pos) (tS X.K cal (.forT is k' src body)):=by
 obtain ⟨h1,h2⟩:=names_each hi
 refine PS.imp' (ps_for d.own g.calm hw (pg_tup g.calm (names_pgs d hi) h1 h2) hb (by intro v; cases it <;> first | rfl | (simp [notSet] at hns))) fun D σ H hl q => ?_
 obtain ⟨B,O₀,O,ρ,st,q⟩:=q
 rw [ex] at q
 cases e:(evs cal src ρ).bind (srcOf k') with
 | none => rw [e] at q; exact (show False from q).elim
 | some xs =>
  rw [e] at q
  simp only [Option.bind_eq_some_iff] at e
  obtain ⟨vs,e1,e2⟩:=e
  exact for_go (tk:=unTup is) hl (tg_tup (names_lt hi)) st e1 e2 q
theorem swapped {i:Nat} {me:ME} {x:Str} {v:Expr} {px pos:Pos} (g:Gf X T k cal) (d:Df X) (hi:X.N[i]? = some x) (hx:Loc X.env.scope x) (hc:chk T me X.N X.env.scope v = true) (hs:swapK X.env.scope x px v me = true):∃ t,PS X (.Assign [.Name x px] v pos) (tAsg t (gName i)) /\ (∀ σ H Q,tF X.K cal me σ H Q -> t σ H Q) /\ freshB me = true:=by
 unfold swapK at hs
 rw [Bool.and_eq_true] at hs
 obtain ⟨hs,hk⟩:=hs
 cases v with
 | ListComp e gens scope cpos =>
  cases me with
  | comp2 _ _ _ _ => cases hk
  | comp k' src js cond elt =>
   match gens,hc,hs with
   | [],hc,_ => cases (show false = true from hc)
   | ⟨tg,it,ifs,as⟩ :: [],h,hs =>
    cases tg with
    | Name y py =>
     by_cases has:as = 0
     ·subst has
      have h:(compScB X.env.scope X.N scope y (fvsOf X.N js) js && chkW X.env.scope false (fun xs => chks T src X.N X.env.scope xs) k' it && condB (fun c => chk T cond (y :: fvsOf X.N js) (relS scope X.env.scope) c) cond ifs && chk T elt (y :: fvsOf X.N js) (relS scope X.env.scope) e && !isBor elt) = true:=h
      simp only [Bool.and_eq_true,Bool.not_eq_true'] at h
      obtain ⟨⟨⟨⟨h1,h2⟩,h3⟩,h4⟩,h5⟩:=h
      have hw:=s_walk (tg:=.Name y py) (fun z => by cases z) g h2 (fun xs hxs => ⟨sounds src g hxs,chks_star hxs⟩) (fun m x hm hx => match src,hm with | [m'],rfl => (sound m' g (by simp only [chks,Bool.and_eq_true] at hx; exact hx.1.1)).1)
      exact ⟨_,ps_setComp d.nd hi hx (compSc_of h1) g.calm hw.1 (fun s₁ H₁ C fp => s_cond h3 fun c hc => (sound cond (g.blk y (fvsOf X.N js) scope s₁ H₁ C fp) hc).2) (fun s₁ H₁ C fp => (sound elt (g.blk y (fvsOf X.N js) scope s₁ H₁ C fp) h4).1) (swap_true d hs) (by have:=hw.2; intro v; cases it <;> first | rfl | (simp [notSet] at this)) (.inl (d.fn x)),
       fun σ H Q q => s_comp.comp_go h5 q,rfl⟩
     ·exact absurd h (by
       have:chk T (.comp k' src js cond elt) X.N X.env.scope (.ListComp e [⟨.Name y py,it,ifs,as⟩] scope cpos) = false:=by
        rw [ck_comp]
        split <;> first | rfl | (rename_i z; simp_all)
       rw [this]; exact Bool.false_ne_true)
    | _ => cases (show false = true from h)
   | _ :: _ :: _,h,_ => simp [ck_comp] at h
  | _ => cases (show false = true from hc)
 | _ => simp [swapB] at hs
theorem tF_of {me:ME} (hf:freshB me = true) {σ:St} {H:Hp} {Q:VK} {K:PySem.W.Frag} (q:tE K cal me σ H Q):tF K cal me σ H Q:=by
 obtain ⟨B,O₀,O,ρ,v,st,e1,q⟩:=q
 have hv:∃ xs,v = .lst xs:=by
  cases me with
  | lst es =>
   rw [ev,Option.bind_eq_some_iff] at e1
   obtain ⟨vs,_,hv⟩:=e1
   split at hv
   ·cases hv; exact ⟨_,rfl⟩
   ·cases hv
  | comp _ _ _ _ _ => exact comp_lst ρ v e1
  | blt b es => cases b <;> first | exact blt_lst (.inl rfl) ρ v e1 | exact blt_lst (.inr (.inl rfl)) ρ v e1 | exact blt_lst (.inr (.inr (.inl rfl))) ρ v e1 | exact blt_lst (.inr (.inr (.inr (.inl rfl)))) ρ v e1 | exact blt_lst (.inr (.inr (.inr (.inr rfl)))) ρ v e1 | (simp [freshB] at hf)
  | _ => simp [freshB] at hf
 obtain ⟨xs,rfl⟩:=hv
 exact ⟨B,O₀,O,ρ,xs,st,e1,fun p us H' s hp he r => q _ _ s (got_new st.here hp he r)⟩
end
section
variable {T:Tab} {N:List Str} {sc:Scope}
theorem chk_set {i:Nat} {e:ME} {s:Stmt} (h:chkS T N sc (.set i e) s = true):∃ x px v pos,s = .Assign [.Name x px] v pos /\ (N[i]? == some x && locB sc x && plainName x && chk T e N sc v && !isBor e && (notComp v || swapK sc x px v e)) = true:=by
 obtain ⟨q,e1,h1⟩:=onO_of h
 obtain ⟨pos,rfl⟩:=asgN_of e1
 exact ⟨_,_,_,_,rfl,h1⟩
theorem chk_own {i:Nat} {e:ME} {s:Stmt} (h:chkS T N sc (.setOwn i e) s = true):∃ x px v pos,s = .Assign [.Name x px] v pos /\ (N[i]? == some x && locB sc x && plainName x && chk T e N sc v && freshB e && (notComp v || swapK sc x px v e)) = true:=by
 obtain ⟨q,e1,h1⟩:=onO_of h
 obtain ⟨pos,rfl⟩:=asgN_of e1
 exact ⟨_,_,_,_,rfl,h1⟩
theorem chk_append {i:Nat} {e:ME} {s:Stmt} (h:chkS T N sc (.append i e) s = true):∃ x p m ap v cp pos,s = .Expr (.Call (.Attribute (.Name x p) m ap) [v] [] cp) pos /\ (nameAt N sc i x && m == ("append":Str) && chk T e N sc v && !isBor e && notStar v && ap.endLine == cp.line) = true:=by
 obtain ⟨q,e1,h1⟩:=onO_of h
 obtain ⟨v,e2,h2⟩:=onO_of h1
 obtain ⟨p,pos,rfl⟩:=metC_of e1
 rw [list1_of e2]
 exact ⟨_,_,_,_,_,_,_,rfl,h2⟩
theorem chk_mkO {i:Nat} {es:List ME} {s:Stmt} (h:chkS T N sc (.mkO i es) s = true):∃ x px y py args cp pos,s = .Assign [.Name x px] (.Call (.Name y py) args [] cp) pos /\ (N[i]? == some x && locB sc x && plainName x && y == ("Table":Str) && glB sc y && chks T es N sc args && (es.all fun m => !isBor m) && !args.isEmpty) = true:=by
 obtain ⟨q,e1,h1⟩:=onO_of h
 obtain ⟨c,e2,h2⟩:=onO_of h1
 obtain ⟨pos,rfl⟩:=asgN_of e1
 obtain ⟨p,cp,e3⟩:=calX_of e2
 rw [e3]
 exact ⟨_,_,_,_,_,_,_,rfl,h2⟩
theorem chk_appO {i:Nat} {e:ME} {s:Stmt} (h:chkS T N sc (.appO i e) s = true):∃ x p f fp m ap v cp pos,s = .Expr (.Call (.Attribute (.Attribute (.Name x p) f fp) m ap) [v] [] cp) pos /\ (nameAt N sc i x && f == ("taken":Str) && m == ("append":Str) && chk T e N sc v && !isBor e && notStar v && ap.endLine == cp.line) = true:=by
 obtain ⟨q,e1,h1⟩:=onO_of h
 obtain ⟨v,e2,h2⟩:=onO_of h1
 obtain ⟨p,fp,pos,rfl⟩:=metF_of e1
 rw [list1_of e2]
 exact ⟨_,_,_,_,_,_,_,_,_,rfl,h2⟩
theorem chk_retT {e:ME} {s:Stmt} (h:chkS T N sc (.retT e) s = true):∃ v pos,s = .Return (some v) pos /\ (chk T e N sc v && !isBor e) = true:=by
 obtain ⟨v,e1,h1⟩:=onO_of h
 obtain ⟨pos,rfl⟩:=retV_of e1
 exact ⟨v,pos,rfl,h1⟩
theorem chk_takeO {i j f:Nat} {es:List ME} {s:Stmt} (h:chkS T N sc (.takeO (some j) i f es) s = true):∃ x px c p pos,s = .Assign [.Name x px] (.Call (.Attribute (.Name c.1 p) c.2.1 c.2.2.2.1) c.2.2.1 [] c.2.2.2.2) pos /\ (N[j]? == some x && locB sc x && plainName x && (metB N sc T.ms f i (fun xs => chks T es N sc xs) c && (es.all fun m => !isBor m))) = true:=by
 obtain ⟨q,e1,h1⟩:=onO_of h
 obtain ⟨c,e2,h2⟩:=onO_of h1
 obtain ⟨pos,rfl⟩:=asgN_of e1
 obtain ⟨p,e3⟩:=metX_of e2
 rw [e3]
 exact ⟨_,_,c,_,_,rfl,h2⟩
theorem chk_takeE {i f:Nat} {es:List ME} {s:Stmt} (h:chkS T N sc (.takeO none i f es) s = true):∃ c p pos,s = .Expr (.Call (.Attribute (.Name c.1 p) c.2.1 c.2.2.2.1) c.2.2.1 [] c.2.2.2.2) pos /\ (metB N sc T.ms f i (fun xs => chks T es N sc xs) c && (es.all fun m => !isBor m)) = true:=by
 obtain ⟨q,e1,h1⟩:=onO_of h
 obtain ⟨c,e2,h2⟩:=onO_of h1
 obtain ⟨pos,rfl⟩:=exprX_of e1
 obtain ⟨p,e3⟩:=metX_of e2
 rw [e3]
 exact ⟨c,_,_,rfl,h2⟩
theorem chk_extend {i:Nat} {e:ME} {s:Stmt} (h:chkS T N sc (.extend i e) s = true):∃ x p m ap v cp pos,s = .Expr (.Call (.Attribute (.Name x p) m ap) [v] [] cp) pos /\ (nameAt N sc i x && m == ("extend":Str) && chk T e N sc v && notStar v && ap.endLine == cp.line) = true:=by
 obtain ⟨q,e1,h1⟩:=onO_of h
 obtain ⟨v,e2,h2⟩:=onO_of h1
 obtain ⟨p,pos,rfl⟩:=metC_of e1
 rw [list1_of e2]
 exact ⟨_,_,_,_,_,_,_,rfl,h2⟩
theorem chk_dput {i:Nat} {k e:ME} {s:Stmt} (h:chkS T N sc (.dput i k e) s = true):∃ x p s' sp v pos,s = .Assign [.Subscript (.Name x p) s' sp] v pos /\ (nameAt N sc i x && chk T k N sc s' && notSlice s' && chk T e N sc v && !isBor e && notComp v) = true:=by
 obtain ⟨q,e1,h1⟩:=onO_of h
 obtain ⟨p,sp,pos,rfl⟩:=asgS_of e1
 exact ⟨_,_,_,_,_,_,rfl,h1⟩
theorem chk_newD {m:Bool} {i:Nat} {s:Stmt} (h:chkS T N sc (.newD m i) s = true):∃ x p dp pos,s = .Assign [.Name x p] (.Dict [] [] dp) pos /\ (N[i]? == some x && locB sc x && plainName x) = true:=by
 obtain ⟨q,e1,h1⟩:=onO_of h
 rw [Bool.and_eq_true] at h1
 obtain ⟨pos,rfl⟩:=asgN_of e1
 obtain ⟨p,e2⟩:=isDct_of h1.1
 rw [e2]
 exact ⟨_,_,_,_,rfl,h1.2⟩
theorem chk_ite {c:ME} {a b:List MS} {s:Stmt} (h:chkS T N sc (.ite c a b) s = true):∃ t x y pos,s = .If t x y pos /\ (chk T c N sc t && chkSs T N sc a x && chkSs T N sc b y) = true:=by
 cases s with
 | If t x y pos => exact ⟨t,x,y,pos,rfl,h⟩
 | _ => cases (show false = true from h)
theorem chk_for1 {i:Nat} {k:Sk} {src:List ME} {body:List MS} {s:Stmt} (h:chkS T N sc (.for1 i k src body) s = true):∃ x px it b pos,s = .For (.Name x px) it b [] pos /\ (N[i]? == some x && locB sc x && plainName x && chkW sc false (fun xs => chks T src N sc xs) k it && chkSs T N sc body b) = true:=by
 simp only [cs_for1] at h
 split at h <;> first | (cases h; done) | (rename_i heq; cases heq; exact ⟨_,_,_,_,_,rfl,h⟩) | (injections; done) | (injections; subst_vars; exact ⟨_,_,_,_,_,rfl,h⟩)
theorem chk_forT {is:List Nat} {k:Sk} {src:List ME} {body:List MS} {s:Stmt} (h:chkS T N sc (.forT is k src body) s = true):∃ ts j tp it b pos,s = .For (.Tuple ts j tp) it b [] pos /\ (namesAt N sc is ts && chkW sc true (fun xs => chks T src N sc xs) k it && chkSs T N sc body b) = true:=by
 simp only [cs_forT] at h
 split at h <;> first | (cases h; done) | (rename_i heq; cases heq; exact ⟨_,_,_,_,_,_,rfl,h⟩) | (injections; done) | (injections; subst_vars; exact ⟨_,_,_,_,_,_,rfl,h⟩)
theorem chk_ret {e:ME} {s:Stmt} (h:chkS T N sc (.ret e) s = true):∃ v pos,s = .Return (some v) pos /\ (chk T e N sc v && !isBor e) = true:=by
 obtain ⟨v,e1,h1⟩:=onO_of h
 obtain ⟨pos,rfl⟩:=retV_of e1
 exact ⟨_,_,rfl,h1⟩
theorem chk_retOwn {i:Nat} {s:Stmt} (h:chkS T N sc (.retOwn i) s = true):∃ x p pos,s = .Return (some (.Name x p)) pos /\ (nameAt N sc i x) = true:=by
 obtain ⟨v,e1,h1⟩:=onO_of h
 obtain ⟨x,e2,h2⟩:=onO_of h1
 obtain ⟨pos,rfl⟩:=retV_of e1
 obtain ⟨p,rfl⟩:=nameX_of e2
 exact ⟨_,_,_,rfl,h2⟩
end
noncomputable def isFr:MS -> Bool
 | .freeze _ => true
 | _ => false
mutual
theorem soundS {T:Tab} {k:Nat} {cal:Cal} {X:Cx} (g:Gf X T k cal) (d:Df X):∀ (m:MS) (s:Stmt),chkS T X.N X.env.scope m s = true -> PS X s (tS X.K cal m)
 | .set i e,s,h => by
  obtain ⟨x,px,v,pos,rfl,hc⟩:=chk_set h
  simp only [Bool.and_eq_true,Bool.or_eq_true,beq_iff_eq,Bool.not_eq_true'] at hc
  obtain ⟨⟨⟨⟨⟨h1,h2⟩,h3⟩,h4⟩,h5⟩,h6⟩:=hc
  rcases h6 with h6 | h6
  ·exact z_set d h1 (locOf h2) (sound e g h4).1 h5 h6
  ·obtain ⟨t,p,hp,hf⟩:=swapped (pos:=pos) g d h1 (locOf h2) h4 h6
   exact PS.imp' p fun D σ H hl q => hp _ _ _ (tF_of hf (set_go (ltN h1 hl) h5 q))
 | .setOwn i e,s,h => by
  obtain ⟨x,px,v,pos,rfl,hc⟩:=chk_own h
  simp only [Bool.and_eq_true,Bool.or_eq_true,beq_iff_eq] at hc
  obtain ⟨⟨⟨⟨⟨h1,h2⟩,h3⟩,h4⟩,h5⟩,h6⟩:=hc
  rcases h6 with h6 | h6
  ·exact z_own d h1 (locOf h2) (soundF g h4 h5) h6
  ·obtain ⟨t,p,hp,hf⟩:=swapped (pos:=pos) g d h1 (locOf h2) h4 h6
   exact PS.imp' p fun D σ H hl q => hp _ _ _ (own_go (ltN h1 hl) q)
 | .append i e,s,h => by
  obtain ⟨x,p,m,ap,v,cp,pos,rfl,hc⟩:=chk_append h
  simp only [Bool.and_eq_true,beq_iff_eq,Bool.not_eq_true'] at hc
  obtain ⟨⟨⟨⟨⟨h1,rfl⟩,h3⟩,h4⟩,h5⟩,h6⟩:=hc
  exact z_append (sound e g h3).1 h1 h4 h5 (beq_iff_eq.mpr h6)
 | .extend i e,s,h => by
  obtain ⟨x,p,m,ap,v,cp,pos,rfl,hc⟩:=chk_extend h
  simp only [Bool.and_eq_true,beq_iff_eq] at hc
  obtain ⟨⟨⟨⟨h1,rfl⟩,h3⟩,h5⟩,h6⟩:=hc
  exact z_extend (sound e g h3).1 h1 h5 (beq_iff_eq.mpr h6)
 | .setIdx _ _ _,s,h => absurd (show false = true from h) Bool.false_ne_true
 | .unpack _ _,s,h => absurd (show false = true from h) Bool.false_ne_true
 | .expr _,s,h => absurd (show false = true from h) Bool.false_ne_true
 | .ite c a b,s,h => by
  obtain ⟨t,x,y,pos,rfl,hc⟩:=chk_ite h
  simp only [Bool.and_eq_true] at hc
  exact z_if (sound c g hc.1.1).2 (soundSs g d a x hc.1.2) (soundSs g d b y hc.2)
 | .for1 i k' src body,s,h => by
  obtain ⟨x,px,it,b,pos,rfl,hc⟩:=chk_for1 h
  simp only [Bool.and_eq_true,beq_iff_eq] at hc
  obtain ⟨⟨⟨⟨h1,h2⟩,h3⟩,h4⟩,h5⟩:=hc
  have hw:=s_walk (tg:=.Name x px) (fun z => by cases z) g h4 (fun xs hxs => ⟨sounds src g hxs,chks_star hxs⟩) (fun m x hm hx => match src,hm with | [m'],rfl => (sound m' g (by simp only [chks,Bool.and_eq_true] at hx; exact hx.1.1)).1)
  exact z_for1 g d h1 (locOf h2) hw.1 hw.2 (soundSs g d body b h5)
 | .forT is k' src body,s,h => by
  obtain ⟨ts,j,tp,it,b,pos,rfl,hc⟩:=chk_forT h
  simp only [Bool.and_eq_true] at hc
  obtain ⟨⟨h1,h4⟩,h5⟩:=hc
  have hw:=s_walk (tg:=.Tuple ts j tp) (fun _ => ⟨_,_,_,rfl⟩) g h4 (fun xs hxs => ⟨sounds src g hxs,chks_star hxs⟩) (fun m x hm hx => match src,hm with | [m'],rfl => (sound m' g (by simp only [chks,Bool.and_eq_true] at hx; exact hx.1.1)).1)
  exact z_forT g d h1 hw.1 hw.2 (soundSs g d body b h5)
 | .while _ _ _,s,h => absurd (show false = true from h) Bool.false_ne_true
 | .ret e,s,h => by
  obtain ⟨v,pos,rfl,hc⟩:=chk_ret h
  simp only [Bool.and_eq_true,Bool.not_eq_true'] at hc
  exact z_ret (sound e g hc.1).1 hc.2
 | .mkO i es,s,h => by
  obtain ⟨x,px,y,py,args,cp,pos,rfl,hc⟩:=chk_mkO h
  simp only [Bool.and_eq_true,beq_iff_eq] at hc
  obtain ⟨⟨⟨⟨⟨⟨⟨h1,h2⟩,h3⟩,h4⟩,h5⟩,h6⟩,h7⟩,h8⟩:=hc
  subst h4
  cases args with
  | nil => cases h8
  | cons e args => exact z_mkO g d h1 (locOf h2) h5 (sounds es g h6) h7 (chks_star h6).1 (chks_star h6).2
 | .appO i e,s,h => by
  obtain ⟨x,p,f,fp,m,ap,v,cp,pos,rfl,hc⟩:=chk_appO h
  simp only [Bool.and_eq_true,Bool.not_eq_true'] at hc
  obtain ⟨⟨⟨⟨⟨⟨h1,h2⟩,h3⟩,h4⟩,h5⟩,h6⟩,h7⟩:=hc
  rw [eq_of_beq h2,eq_of_beq h3]
  exact z_appO g (sound e g h4).1 h1 h5 h6 h7
 | .retT e,s,h => by
  obtain ⟨v,pos,rfl,hc⟩:=chk_retT h
  simp only [Bool.and_eq_true,Bool.not_eq_true'] at hc
  exact z_retT (sound e g hc.1).1 hc.2
 | .takeO (some j) i f es,s,h => by
  obtain ⟨x,px,c,p,pos,rfl,hc⟩:=chk_takeO h
  obtain ⟨a1,a2⟩:=Bool.and_eq_true_iff.mp hc
  obtain ⟨h4,h5⟩:=Bool.and_eq_true_iff.mp a2
  simp only [Bool.and_eq_true,beq_iff_eq] at a1
  obtain ⟨⟨h1,h2⟩,h3⟩:=a1
  obtain ⟨q1,q2,q3,q4,q5,q6⟩:=metB_of h4
  exact z_takeO d h1 (locOf h2) (s_takeO g q1 q2 q3 (sounds es g q4) h5 (chks_star q4).1 (chks_star q4).2 q5 q6) rfl
 | .takeO none i f es,s,h => by
  obtain ⟨c,p,pos,rfl,hc⟩:=chk_takeE h
  obtain ⟨h4,h5⟩:=Bool.and_eq_true_iff.mp hc
  obtain ⟨q1,q2,q3,q4,q5,q6⟩:=metB_of h4
  exact z_takeE (s_takeO g q1 q2 q3 (sounds es g q4) h5 (chks_star q4).1 (chks_star q4).2 q5 q6) rfl
 | .retF _,s,h => absurd (show false = true from h) Bool.false_ne_true
 | .setCall _ _ _,s,h => absurd (show false = true from h) Bool.false_ne_true
 | .clear _,s,h => absurd (show false = true from h) Bool.false_ne_true
 | .retOwn i,s,h => by
  obtain ⟨x,p,pos,rfl,hc⟩:=chk_retOwn h
  exact z_retOwn hc
 | .retN,s,h => absurd (show false = true from h) Bool.false_ne_true
 | .brk,s,h => absurd (show false = true from h) Bool.false_ne_true
 | .cont,s,h => absurd (show false = true from h) Bool.false_ne_true
 | .pass,s,h => absurd (show false = true from h) Bool.false_ne_true
 | .never,s,h => by
  refine ps_never.imp fun D σ H q => ?_
  obtain ⟨B,O₀,O,ρ,st,q⟩:=q
  rw [ex] at q
  exact q
 | .newD m i,s,h => by
  obtain ⟨x,p,dp,pos,rfl,hc⟩:=chk_newD h
  simp only [Bool.and_eq_true,beq_iff_eq] at hc
  exact z_newD d hc.1.1 (locOf hc.1.2)
 | .dput i mk me,s,h => by
  obtain ⟨x,p,s',sp,v,pos,rfl,hc⟩:=chk_dput h
  simp only [Bool.and_eq_true] at hc
  exact z_dput g (sound mk g hc.1.1.1.1.2).1 (sound me g hc.1.1.2).1 hc.1.1.1.1.1 hc.2
 | .freeze _,s,h => absurd (show false = true from h) Bool.false_ne_true
theorem soundSs {T:Tab} {k:Nat} {cal:Cal} {X:Cx} (g:Gf X T k cal) (d:Df X):∀ (ms:List MS) (ss:List Stmt),chkSs T X.N X.env.scope ms ss = true -> PSs X ss (tSs X.K cal ms)
 | [],ss,h => by
  cases ss with
  | nil => exact z_nil
  | cons _ _ => cases h
 | m :: ms,ss,h => by
  cases hm:isFr m with
  | true =>
   cases m <;> simp [isFr] at hm
   cases h
  | false =>
   cases ss with
   | nil => cases m <;> first | (cases h; done) | cases hm
   | cons s ss =>
    have h:(chkS T X.N X.env.scope m s && chkSs T X.N X.env.scope ms ss) = true:=by cases m <;> first | exact h | (simp [isFr] at hm)
    simp only [Bool.and_eq_true] at h
    exact z_cons (soundS g d m s h.1) (soundSs g d ms ss h.2)
end
end MM
namespace MM
open PySem PySem.Spec PyProof.Rows L2
structure FnD (K:PySem.W.Frag) (x y:Str) (st:Stmt) (fa:Addr) (fd:FuncData):Prop where
 it:∃ (c0 d0 k0 o0 m0:Value) (a0:Option Addr) (c1 t1:Value) (a1:Option Addr) (sl:Array (Option Value)),
  K.lookup fa = some ⟨c0,a1,.func fd,sl⟩ /\ PySem.W.codeIn K c1 y = true /\ fd = PySem.W.fnOf x y (defArgs st) (defBody st) (defScope st) d0 k0 o0 m0 a0 c1 t1
 kp:PySem.W.keepIn K (.ref fa) = true
theorem FnD.mk' {K:PySem.W.Frag} {x y:Str} {st:Stmt} {fa:Addr} {c0 d0 k0 o0 m0 c1 t1:Value} {a0 a1:Option Addr} {sl:Array (Option Value)}
  (l:K.lookup fa = some ⟨c0,a1,.func (PySem.W.fnOf x y (defArgs st) (defBody st) (defScope st) d0 k0 o0 m0 a0 c1 t1),sl⟩) (c:PySem.W.codeIn K c1 y = true) (k:PySem.W.keepIn K (.ref fa) = true) :
  FnD K x y st fa (PySem.W.fnOf x y (defArgs st) (defBody st) (defScope st) d0 k0 o0 m0 a0 c1 t1):=⟨⟨_,_,_,_,_,_,_,_,_,_,l,c,rfl⟩,k⟩
theorem FnD.mkd {K:PySem.W.Frag} {x y:Str} {st:Stmt} {fa T:Addr} {c0 k0 o0 m0 c1 t1:Value} {a0 a1:Option Addr} {sl:Array (Option Value)}
  (l:K.lookup fa = some ⟨c0,a1,.func (PySem.W.fnOf x y (defArgs st) (defBody st) (defScope st) (.ref T) k0 o0 m0 a0 c1 t1),sl⟩) (c:PySem.W.codeIn K c1 y = true) (k:PySem.W.keepIn K (.ref fa) = true) :
  FnD K x y st fa (PySem.W.fnOf x y (defArgs st) (defBody st) (defScope st) (.ref T) k0 o0 m0 a0 c1 t1):=.mk' l c k
structure DefIs (T:Tab) (K:PySem.W.Frag) (mg:Str -> Option Value) (st:Stmt) (d:MD) (fa:Addr) (fd:FuncData):Prop where
 fn:FnD K (d.meth.getD d.name) d.name st fa fd
 binds:Binds K fd d.params []
 named:(d.meth = none /\ mg d.name = some (.ref fa)) \/ ∃ m,d.meth = some m /\ ∀ C,IsC K C -> Meth K C m fa
 scope:FnScope d.names d.params (defScope st)
 body:chkSs T d.names (defScope st) d.body (defBody st) = true
theorem bn1 {K:PySem.W.Frag} {fd:FuncData} {pa:Str} (h:∀ a,bindArgs fd ⟨[a],[]⟩ = pure [(pa,a)]):Binds K fd [pa] []:=.all fun us hl => match us,hl with | [a],_ => h a
theorem bn2 {K:PySem.W.Frag} {fd:FuncData} {pa pb:Str} (h:∀ a b,bindArgs fd ⟨[a,b],[]⟩ = pure [(pa,a),(pb,b)]):Binds K fd [pa,pb] []:=.all fun us hl => match us,hl with | [a,b],_ => h a b
theorem bn3 {K:PySem.W.Frag} {fd:FuncData} {pa pb pc:Str} (h:∀ a b c,bindArgs fd ⟨[a,b,c],[]⟩ = pure [(pa,a),(pb,b),(pc,c)]):Binds K fd [pa,pb,pc] []:=.all fun us hl => match us,hl with | [a,b,c],_ => h a b c
theorem bn5 {K:PySem.W.Frag} {fd:FuncData} {pa pb pc pd pe:Str} (h:∀ a b c d e,bindArgs fd ⟨[a,b,c,d,e],[]⟩ = pure [(pa,a),(pb,b),(pc,c),(pd,d),(pe,e)]):Binds K fd [pa,pb,pc,pd,pe] []:=.all fun us hl => match us,hl with | [a,b,c,d,e],_ => h a b c d e
theorem binds_dflt {K:PySem.W.Frag} {fd:FuncData} {ps:List Str} {T:Addr} {c:Value} {o:Option Addr} {vs:Array Value} {n:Nat} {sl:Array (Option Value)} (hd:fd.defaults = .ref T) (l:K.lookup T = some ⟨c,o,.seq vs n,sl⟩)
  (h:∀ us:List Value,us.length = ps.length -> ∃ k,bindArgs fd ⟨us,[]⟩ = seqItems? fd.defaults >>= k /\ k (some vs) = pure (ps.zip us)):Binds K fd ps []:=fun s us X hl => by
 rw [List.append_nil] at hl ⊢
 obtain ⟨k,h1,h2⟩:=h us hl
 exact .of_defaults hd (X _ _ l) rfl h1 h2
theorem binds_left {K:PySem.W.Frag} {fd:FuncData} {ps:List Str} {T:Addr} {c v:Value} {o:Option Addr} {n:Nat} {sl:Array (Option Value)} (hd:fd.defaults = .ref T) (l:K.lookup T = some ⟨c,o,.seq #[v] n,sl⟩)
  (h:∀ us:List Value,us.length + 1 = ps.length -> ∃ k,bindArgs fd ⟨us,[]⟩ = seqItems? fd.defaults >>= k /\ k (some #[v]) = pure (ps.zip (us ++ [v]))):Binds K fd ps [v]:=fun s us X hl => by
 obtain ⟨k,h1,h2⟩:=h us (by simpa using hl)
 exact .of_defaults hd (X _ _ l) rfl h1 h2
theorem left_mk {K:PySem.W.Frag} {fd:FuncData} {ps:List Str} {T:Addr} {c:Value} {x:Str} {k:Tok} {o:Option Addr} {n:Nat} {sl:Array (Option Value)} (hd:fd.defaults = .ref T) (l:K.lookup T = some ⟨c,o,.seq #[.str x k] n,sl⟩)
  (h:∀ us:List Value,us.length + 1 = ps.length -> ∃ j,bindArgs fd ⟨us,[]⟩ = seqItems? fd.defaults >>= j /\ j (some #[.str x k]) = pure (ps.zip (us ++ [.str x k]))):∃ vs,Binds K fd ps vs /\ Vals ([Sc.str x].map Sc.v) vs:=⟨_,binds_left hd l h,.cons ⟨k,rfl⟩ .nil⟩
noncomputable def HD (K:PySem.W.Frag) (x:Str) (st:Stmt) (d:MD) (q:FuncData -> Prop:=fun _ => True):Prop:=d.name = x /\ ∃ fa fd,PySem.W.nsIn K mainGlobals x = some (some (.ref fa)) /\ FnD K x x st fa fd /\ Binds K fd d.params [] /\ q fd
noncomputable def HM (K:PySem.W.Frag) (C:Addr) (x y:Str) (st:Stmt) (d:MD):Prop:=d.meth = some x /\ d.name = y /\ ∃ fa fd,Meth K C x fa /\ FnD K x y st fa fd /\ Binds K fd d.params []
structure ClsOk (K:PySem.W.Frag) (C:Addr):Prop where
 cls:Cls K C
 nf:∀ x ∈ fldN,NoAttr K C x
 nt:NoAttr K C "taken"
noncomputable def okD (T:Tab) (st:Stmt) (d:MD):Bool :=
 decide ((defScope st).kind = .function /\ (defScope st).isCoroutine = false /\ (defScope st).isGenerator = false /\ d.names.Nodup /\ d.names.take d.params.length = d.params /\ (∀ x ∈ d.params,(defScope st).names.lookup x = some .local \/ (defScope st).names.lookup x = some .cell) /\ ∀ y ∈ (defScope st).names,y.2 ≠ .free)
  && d.meth.isNone
  && chkSs T d.names (defScope st) d.body (defBody st)
theorem def_of {T:Tab} {K:PySem.W.Frag} {mg:Str -> Option Value} {h:Heap} {st:Stmt} {d:MD} (X:K.In h) (G:h.Ns mainGlobals mg) {q:FuncData -> Prop} {x:Str} (hd:HD K x st d q) (ck:okD T st d = true):∃ fa fd,DefIs T K mg st d fa fd /\ q fd:=by
 obtain ⟨e,_,_,n,f,b,z⟩:=hd
 obtain ⟨c1,c2⟩:=Bool.and_eq_true_iff.mp ck
 obtain ⟨c1,c3⟩:=Bool.and_eq_true_iff.mp c1
 obtain ⟨s1,s2,s3,s4,s5,s6,s7⟩:=of_decide_eq_true c1
 subst e
 have hm:d.meth = none:=Option.isNone_iff_eq_none.mp c3
 exact ⟨_,_,⟨by rw [hm]; exact f,b,.inl ⟨hm,PySem.W.mg_of X G n⟩,⟨s1,s2,s3,s4,s5,s6,s7⟩,c2⟩,z⟩
noncomputable def okM (T:Tab) (st:Stmt) (d:MD):Bool :=
 decide ((defScope st).kind = .function /\ (defScope st).isCoroutine = false /\ (defScope st).isGenerator = false /\ d.names.Nodup /\ d.names.take d.params.length = d.params /\ (∀ x ∈ d.params,(defScope st).names.lookup x = some .local \/ (defScope st).names.lookup x = some .cell) /\ ∀ y ∈ (defScope st).names,y.2 ≠ .free) && chkSs T d.names (defScope st) d.body (defBody st)
theorem meth_of {T:Tab} {K:PySem.W.Frag} {mg:Str -> Option Value} {C:Addr} {st:Stmt} {d:MD} {x y:Str} (hC:IsC K C) (hd:HM K C x y st d) (ck:okM T st d = true):∃ fa fd,DefIs T K mg st d fa fd:=by
 obtain ⟨e,en,_,_,n,f,b⟩:=hd
 obtain ⟨c1,c2⟩:=Bool.and_eq_true_iff.mp ck
 obtain ⟨s1,s2,s3,s4,s5,s6,s7⟩:=of_decide_eq_true c1
 subst en
 exact ⟨_,_,⟨by rw [e]; exact f,b,.inr ⟨x,e,fun C' h => by
  have:=h.symm.trans hC
  cases this
  exact n⟩,⟨s1,s2,s3,s4,s5,s6,s7⟩,c2⟩⟩
noncomputable def AllD (T:Tab) (K:PySem.W.Frag) (mg:Str -> Option Value):List MD -> List (List Sc) -> Prop
 | [],[] => True
 | d :: ds,l :: ls => (∃ st fa fd,DefIs T K mg st d fa fd /\ ∃ vs,Binds K fd d.params vs /\ Vals (l.map Sc.v) vs) /\ AllD T K mg ds ls
 | _,_ => False
theorem AllD.get {T:Tab} {K:PySem.W.Frag} {mg:Str -> Option Value}:∀ {ds:List MD} {ls:List (List Sc)} {f:Nat} {d:MD},AllD T K mg ds ls -> ds[f]? = some d -> ∃ l st fa fd,ls[f]? = some l /\ DefIs T K mg st d fa fd /\ ∃ vs,Binds K fd d.params vs /\ Vals (l.map Sc.v) vs
 | [],_,f,d,_,e => by simp at e
 | _ :: _,[],f,d,h,e => h.elim
 | d0 :: ds,l :: ls,0,d,h,e => by
  cases e
  obtain ⟨⟨st,fa,fd,r⟩,_⟩:=h
  exact ⟨l,st,fa,fd,rfl,r⟩
 | d0 :: ds,l :: ls,f + 1,d,h,e => by
  obtain ⟨k,st,fa,fd,q,r⟩:=AllD.get h.2 (show ds[f]? = some d from by simpa using e)
  exact ⟨k,st,fa,fd,by simpa using q,r⟩
noncomputable def tabN (d:MD):Str:=match d.meth with
 | none => d.name
 | some _ => "__debug__"
theorem tabN_of {d:MD} (h:plainName (tabN d) = true):d.meth = none /\ tabN d = d.name:=by
 unfold tabN at h ⊢
 cases e:d.meth with
 | none => exact ⟨rfl,rfl⟩
 | some m =>
  rw [e] at h
  exact absurd (show plainName ("__debug__":Str) = true from h) (by decide +kernel)
structure Prog (T:Tab) (K:PySem.W.Frag) (mg:Str -> Option Value) (ds:List MD):Prop where
 tab:T.fs = ds.map tabN
 tabM:T.ms = ds.map (·.meth)
 cls:∀ C,IsC K C -> ClsOk K C
 ini:∃ C,IsC K C /\ mg ("Table":Str) = some (.ref C) /\ ∃ fa fd ps,Mk K C fa /\ Binds K fd ps [] /\ (∀ P w base,FnOk P w K mg base CX0 1 fa fd ps (spI K C)) /\ ∃ vs,Binds K fd ps vs /\ Vals [V.str "weaver"] vs
 defs:AllD T K mg ds T.ds
 blt:∀ x ∈ bltNames,mg (x:Str) = none
 gs:∀ p ∈ T.gs,∃ u,mg p.1 = some u /\ RelV (toV p.2) u
theorem callN_some {ds:List MD} {n f:Nat} {d:MD} {args:List MV} {r:PV} (hd:ds[f]? = some d) (h:callN ds (n + 1) f args = some r):args.length = d.params.length /\
  ((∃ ρ,exs (callN ds n) d.body (args.map some ++ List.replicate (d.names.length - args.length) none) = .next ρ /\ r = .non) \/ exs (callN ds n) d.body (args.map some ++ List.replicate (d.names.length - args.length) none) = .ret r \/
   ∃ xs,exs (callN ds n) d.body (args.map some ++ List.replicate (d.names.length - args.length) none) = .retF xs /\ r = .lst xs):=by
 rw [callN,hd] at h
 dsimp only at h
 by_cases hl:args.length = d.params.length
 ·rw [if_pos hl] at h
  refine ⟨hl,?_⟩
  cases he:exs (callN ds n) d.body (args.map some ++ List.replicate (d.names.length - args.length) none) with
  | next ρ => rw [he] at h; cases h; exact .inl ⟨ρ,rfl,rfl⟩
  | ret v => rw [he] at h; cases h; exact .inr (.inl rfl)
  | retF xs => rw [he] at h; cases h; exact .inr (.inr ⟨xs,rfl,rfl⟩)
  | retT v ρ => rw [he] at h; cases h
  | brk ρ => rw [he] at h; cases h
  | cont ρ => rw [he] at h; cases h
  | bad => rw [he] at h; cases h
 ·rw [if_neg hl] at h
  cases h
theorem callN_fresh {ds:List MD} {n f:Nat} {d:MD} {args:List MV} {r:PV} (hf:f < 1000) (hn:ds[f + 1000]? = none) (hd:ds[f]? = some d) (h:callN ds (n + 1) (f + 1000) args = some r):args.length = d.params.length /\
  ∃ xs,exs (callN ds n) d.body (args.map some ++ List.replicate (d.names.length - args.length) none) = .retF xs /\ r = .lst xs:=by
 rw [callN,hn] at h
 dsimp only at h
 rw [if_neg (by omega),if_neg (by omega),Nat.add_sub_cancel,hd] at h
 dsimp only at h
 by_cases hl:args.length = d.params.length
 ·rw [if_pos hl] at h
  refine ⟨hl,?_⟩
  cases he:exs (callN ds n) d.body (args.map some ++ List.replicate (d.names.length - args.length) none) with
  | retF xs => rw [he] at h; cases h; exact ⟨xs,rfl,rfl⟩
  | retT v ρ => rw [he] at h; cases h
  | next ρ => rw [he] at h; cases h
  | ret v => rw [he] at h; cases h
  | brk ρ => rw [he] at h; cases h
  | cont ρ => rw [he] at h; cases h
  | bad => rw [he] at h; cases h
 ·rw [if_neg hl] at h
  cases h
theorem callN_take {ds:List MD} {n f:Nat} {d:MD} {args:List MV} {r:PV} (hf:f < 1000) (hn:ds[f + 3000]? = none) (hd:ds[f]? = some d) (h:callN ds (n + 1) (f + 3000) args = some r):args.length = d.params.length /\
  ∃ v ρ,exs (callN ds n) d.body (args.map some ++ List.replicate (d.names.length - args.length) none) = .retT v ρ /\ endO v ρ = some r:=by
 rw [callN,hn] at h
 dsimp only at h
 rw [if_neg (by omega),if_pos (by omega),Nat.add_sub_cancel,hd] at h
 dsimp only at h
 by_cases hl:args.length = d.params.length
 ·rw [if_pos hl] at h
  refine ⟨hl,?_⟩
  cases he:exs (callN ds n) d.body (args.map some ++ List.replicate (d.names.length - args.length) none) with
  | retT v ρ => rw [he] at h; exact ⟨v,ρ,rfl,h⟩
  | next ρ => rw [he] at h; cases h
  | ret v => rw [he] at h; cases h
  | retF xs => rw [he] at h; cases h
  | brk ρ => rw [he] at h; cases h
  | cont ρ => rw [he] at h; cases h
  | bad => rw [he] at h; cases h
 ·rw [if_neg hl] at h
  cases h
theorem lvl_of {ds:List MD} {n:Nat} (hlen:ds.length <= 1000) (h:callN ds n 4000 [] ≠ none):2 <= n:=by
 match n,h with
 | 0,h => exact absurd rfl h
 | 1,h =>
  refine absurd ?_ h
  rw [callN,List.getElem?_eq_none (by omega)]
  rfl
 | n + 2,h => omega
theorem endO_of {v w:Sc} {ρ:Rho} {ys:List PV} (h:endO v ρ = some (.tup [w.pv,.lst ys])):v = w /\ ∃ fs,ρ[0]? = some (some (.ownO true fs ys)):=by
 unfold endO at h
 split at h
 ·cases v <;> cases w <;> cases h <;> exact ⟨rfl,_,rfl⟩
 ·cases h
noncomputable def dropH (H:Hp) (ms:List Addr):Hp:=fun b => if b ∈ ms then none else H b
theorem paired_get {α β:Type} {F:α -> β -> Prop}:∀ {xs:List α} {ys:List β} {i:Nat} {x:α},Paired F xs ys -> xs[i]? = some x -> ∃ y,ys[i]? = some y /\ F x y
 | _,_,_,_,.nil,e => by simp at e
 | _,_,0,_,.cons r _,e => by simp at e; subst e; exact ⟨_,rfl,r⟩
 | _,_,i + 1,x,.cons _ t,e => by
  obtain ⟨u,h1,h2⟩:=paired_get (i:=i) (x:=x) t (by simpa using e)
  exact ⟨u,by simpa using h1,h2⟩
theorem start_ok {K:PySem.W.Frag} {H:Hp} {O:List Addr} {args:List MV} {vs:List V} {N:List Str} (hO:∀ a ∈ O,H a ≠ none) (h:Paired (ArgOk K O H) args vs):StOk K H O O H (args.map some ++ List.replicate (N.length - args.length) none) (start N vs):=by
 have hl:args.length = vs.length:=Paired.length h
 have get:∀ (i:Nat) (m:MV),(args.map some ++ List.replicate (N.length - args.length) none)[i]? = some (some m) -> ∃ u,(start N vs)[i]? = some (some u) /\ ArgOk K O H m u:=fun i m e => by
  by_cases hi:i < args.length
  ·rw [List.getElem?_append_left (by simpa using hi),List.getElem?_map] at e
   cases ea:args[i]? with
   | none => rw [ea] at e; cases e
   | some m' =>
    rw [ea] at e
    cases e
    obtain ⟨u,eu,q⟩:=paired_get h ea
    refine ⟨u,?_,q⟩
    unfold L2.start
    rw [List.getElem?_append_left (by rw [List.length_map,<- hl]; exact hi),List.getElem?_map,eu]
    rfl
  ·rw [List.getElem?_append_right (by simpa using hi),List.getElem?_replicate] at e
   split at e <;> cases e
 refine ⟨Same.refl H,hO,fun a ha => ha,hO,by unfold L2.start; simp [hl],fun i m e => ?_,fun i j xs ys a _ e _ ox _ => ?_
  ,inn_none fun i m e => by
   obtain ⟨u,eu,q⟩:=get i _ e
   cases m <;> first | rfl | exact q.elim
  ⟩
 ·obtain ⟨u,eu,q⟩:=get i m e
  refine ⟨u,eu,?_⟩
  cases m with
  | val v => exact q
  | own _ => exact q.elim
  | ownO _ _ _ => exact q.elim
  | brwO _ _ => exact q
  | brw ys => exact q
  | ownD _ => exact q.elim
  | brwD _ => exact q
 ·obtain ⟨u,eu,q⟩:=get i _ e
  cases xs with
  | own _ => exact q.elim
  | ownD _ => exact q.elim
  | ownO _ _ _ => exact q.elim
  | brwO _ _ => cases ox
  | val _ => cases ox
  | brw _ => cases ox
  | brwD _ => cases ox
theorem start_get {α:Type} {F:α -> V -> Prop} {args:List α} {vs:List V} {N:List Str} (h:Paired F args vs):∀ (i:Nat) (m:α),(args.map some ++ List.replicate (N.length - args.length) none)[i]? = some (some m) -> args[i]? = some m /\ ∃ u,vs[i]? = some u /\ (start N vs)[i]? = some (some u) /\ F m u:=fun i m e => by
 have hl:args.length = vs.length:=Paired.length h
 by_cases hi:i < args.length
 ·rw [List.getElem?_append_left (by simpa using hi),List.getElem?_map] at e
  cases ea:args[i]? with
  | none => rw [ea] at e; cases e
  | some m' =>
   rw [ea] at e
   cases e
   obtain ⟨u,eu,q⟩:=paired_get h ea
   refine ⟨rfl,u,eu,?_,q⟩
   unfold L2.start
   rw [List.getElem?_append_left (by rw [List.length_map,<- hl]; exact hi),List.getElem?_map,eu]
   rfl
 ·rw [List.getElem?_append_right (by simpa using hi),List.getElem?_replicate] at e
  split at e <;> cases e
section
variable {T:Tab} {P:Program} {w:World} {K:PySem.W.Frag} {mg:Str -> Option Value} {base:Heap} {ds:List MD}
theorem start_okT {K:PySem.W.Frag} {H:Hp} {O:List Addr} {a l:Addr} {ws:List V} {fs xs as:List PV} {N:List Str} (hO:∀ b ∈ O,H b ≠ none) (q:OwnAt K (fun _ => none) O H fs xs a l) (r:Reps K (hide H O) as ws) :
  StOk K (dropH H [a,l]) (O.filter fun b => decide (b ∉ [a,l])) O H ((.ownO true fs xs :: as.map .val).map some ++ List.replicate (N.length - (MV.ownO true fs xs :: as.map .val).length) none) (start N (.ref a :: ws)):=by
 have hp:Paired (fun (m:MV) (u:V) => (m = .ownO true fs xs /\ u = .ref a) \/ ∃ v,m = .val v /\ Rep K (hide H O) v u) (.ownO true fs xs :: as.map .val) (.ref a :: ws):=by
  refine .cons (.inl ⟨rfl,rfl⟩) ?_
  clear q hO
  induction as generalizing ws with
  | nil =>
   have e:ws = []:=by simpa only [Reps] using r
   subst e
   exact .nil
  | cons v as ih =>
   rw [Reps] at r
   obtain ⟨u,t,rfl,h1,h2⟩:=r
   exact .cons (.inr ⟨v,rfl,h1⟩) (ih h2)
 have hl:=Paired.length hp
 have key:∀ (i:Nat) (m:MV),((.ownO true fs xs :: as.map .val).map some ++ List.replicate (N.length - (MV.ownO true fs xs :: as.map .val).length) none)[i]? = some (some m) -> ownM m = true -> i = 0:=fun i m e o => by
  obtain ⟨ea,u,ev',eu,q⟩:=start_get hp i m e
  cases i with
  | zero => rfl
  | succ i =>
   rw [List.getElem?_cons_succ,List.getElem?_map,Option.map_eq_some_iff] at ea
   obtain ⟨v,_,rfl⟩:=ea
   cases o
 refine ⟨fun b u e => ?_,hO,fun b hb => (List.mem_filter.mp hb).1,fun b hb => ?_,by unfold L2.start; simp at hl ⊢; omega,fun i m e => ?_,fun i j m m' c hij e1 e2 o1 o2 s1 s2 => hij ((key i m e1 o1).trans (key j m' e2 o2).symm),fun i m0 a2 l2 e1 l0 e2 e3 j m hji ej => ?_⟩
 ·unfold dropH at e
  split at e
  ·cases e
  ·exact e
 ·obtain ⟨h1,h2⟩:=List.mem_filter.mp hb
  unfold dropH
  rw [if_neg (of_decide_eq_true h2)]
  exact hO b h1
 ·obtain ⟨ea,u,ev',eu,qq⟩:=start_get hp i m e
  refine ⟨u,eu,?_⟩
  rcases qq with ⟨rfl,rfl⟩ | ⟨v,rfl,qq⟩
  ·refine ⟨a,l,rfl,q.move (Same.refl _) (fun _ h => h) (fun _ h => h) q.aO q.lO ?_ ?_⟩
   ·unfold dropH
    rw [if_pos (by simp)]
   ·unfold dropH
    rw [if_pos (by simp)]
  ·exact qq
 ·have o0:ownM m0 = true:=by cases m0 <;> first | (cases l0; done) | rfl
  have hi:=key i m0 e1 o0
  obtain ⟨ea,u,ev',eu,qq⟩:=start_get hp j m ej
  rcases qq with ⟨rfl,rfl⟩ | ⟨v,rfl,qq⟩
  ·exact absurd ((key j _ ej rfl).trans hi.symm) hji
  ·exact ⟨rfl,fun c o => by cases o⟩
structure FnAll (P:Program) (w:World) (K:PySem.W.Frag) (mg:Str -> Option Value) (base:Heap) (ds:List MD) (n g:Nat) (fa:Addr) (fd:FuncData) (ps:List Str):Prop where
 m:FnOk P w K mg base CX0 n fa fd ps (spM K (callN ds n) g)
 f:FnOk P w K mg base CX0 n fa fd ps (spF K (callN ds n) g)
 t:FnOk P w K mg base CX0 n fa fd ps (spT K (callN ds n) g)
theorem fn_both (hlen:ds.length <= 1000) (pr:Prog T K mg ds):∀ (n f:Nat) (d:MD),ds[f]? = some d -> ∀ st fa fd,DefIs T K mg st d fa fd -> FnAll P w K mg base ds n f fa fd d.params
 | 0,f,d,hd,st,fa,fd,D => {
   m:=⟨fun vs H Q E h => (by obtain ⟨O,args,r,_,_,e,_⟩:=h; exact absurd e (by simp [callN])),fun A outer s H args us vs Q E _ _ _ _ h => (by obtain ⟨O,args,r,_,_,e,_⟩:=h; exact absurd e (by simp [callN]))⟩
   f:=⟨fun vs H Q E h => (by obtain ⟨O,args,r,_,_,e,_⟩:=h; exact absurd e (by simp [callN])),fun A outer s H args us vs Q E _ _ _ _ h => (by obtain ⟨O,args,r,_,_,e,_⟩:=h; exact absurd e (by simp [callN]))⟩
   t:=⟨fun vs H Q E h => (by obtain ⟨O,a,l,fs,xs,as,ws,v,ys,_,_,_,_,e,_⟩:=h; exact absurd e (by simp [callN])),fun A outer s H args us vs Q E _ _ _ _ h => (by obtain ⟨O,a,l,fs,xs,as,ws,v,ys,_,_,_,_,e,_⟩:=h; exact absurd e (by simp [callN]))⟩
   }
 | n + 1,f,d,hd,st,fa,fd,D => by
  obtain ⟨c0,d0,k0,o0,m0,a0,cdv,t1,a1,sl,lk,hc,rfl⟩:=D.fn.it
  have hf:f < 1000:=Nat.lt_of_lt_of_le (List.getElem?_eq_some_iff.mp hd).1 hlen
  have hn:ds[f + 1000]? = none:=List.getElem?_eq_none (by omega)
  have hn3:ds[f + 3000]? = none:=List.getElem?_eq_none (by omega)
  have gg:∀ {A:Around} {outer:_} {s:Shared} {H:Hp} {E:_},_ -> Gf (cxOf CX0 P w K mg base d.names d.name (defScope st) fa cdv A outer s H E).nox T n (callN ds n):=fun {A outer s H E} hr => {
   calm:=rfl
   room:=hr
   fns:=fun f' x hx hp => by
    rw [pr.tab,List.getElem?_map] at hx
    cases hd2:ds[f']? with
    | none => rw [hd2] at hx; cases hx
    | some d2 =>
     rw [hd2] at hx
     cases hx
     obtain ⟨hm,hnm⟩:=tabN_of hp
     obtain ⟨l2,st2,fa2,fd2,el,D2,bd⟩:=pr.defs.get hd2
     rcases D2.named with ⟨_,nd⟩ | ⟨m,em,_⟩
     ·exact ⟨fa2,fd2,d2.params,by rw [hnm]; exact nd,D2.fn.kp,D2.binds,(fn_both hlen pr n f' d2 hd2 st2 fa2 fd2 D2).m,fun l hl => by rw [el] at hl; cases hl; exact bd⟩
     ·rw [hm] at em; cases em
   cls:=fun C h => ⟨(pr.cls C h).cls,(pr.cls C h).nf,(pr.cls C h).nt⟩
   meths:=fun f' m hx C hC => by
    rw [pr.tabM,List.getElem?_map] at hx
    cases hd2:ds[f']? with
    | none => rw [hd2] at hx; cases hx
    | some d2 =>
     rw [hd2] at hx
     have hx:d2.meth = some m:=Option.some.inj hx
     obtain ⟨l2,st2,fa2,fd2,el,D2,bd⟩:=pr.defs.get hd2
     rcases D2.named with ⟨em,_⟩ | ⟨m',em,nd⟩
     ·rw [hx] at em; cases em
     ·rw [hx] at em
      cases em
      exact ⟨fa2,fd2,d2.params,nd C hC,D2.binds,(fn_both hlen pr n f' d2 hd2 st2 fa2 fd2 D2).m⟩
   methsT:=fun f' m hx C hC => by
    rw [pr.tabM,List.getElem?_map] at hx
    cases hd2:ds[f']? with
    | none => rw [hd2] at hx; cases hx
    | some d2 =>
     rw [hd2] at hx
     have hx:d2.meth = some m:=Option.some.inj hx
     obtain ⟨l2,st2,fa2,fd2,el,D2,bd⟩:=pr.defs.get hd2
     rcases D2.named with ⟨em,_⟩ | ⟨m',em,nd⟩
     ·rw [hx] at em; cases em
     ·rw [hx] at em
      cases em
      exact ⟨fa2,fd2,d2.params,nd C hC,D2.binds,(fn_both hlen pr n f' d2 hd2 st2 fa2 fd2 D2).t⟩
   lvl:=fun h => Room.mono hr (lvl_of hlen h)
   ini:=fun _ => by
    obtain ⟨C,h1,h2,fa,fd,ps,h3,h4,h5,h6⟩:=pr.ini
    exact ⟨C,h1,h2,fa,fd,ps,h3,h4,h5 _ _ _,h6⟩
   blt:=pr.blt
   gs:=pr.gs
   fnsF:=fun f' x hx hp => by
    rw [pr.tab,List.getElem?_map] at hx
    cases hd2:ds[f']? with
    | none => rw [hd2] at hx; cases hx
    | some d2 =>
     rw [hd2] at hx
     cases hx
     obtain ⟨hm,hnm⟩:=tabN_of hp
     obtain ⟨l2,st2,fa2,fd2,el,D2,bd⟩:=pr.defs.get hd2
     rcases D2.named with ⟨_,nd⟩ | ⟨m,em,_⟩
     ·exact ⟨fa2,fd2,d2.params,by rw [hnm]; exact nd,D2.fn.kp,D2.binds,(fn_both hlen pr n f' d2 hd2 st2 fa2 fd2 D2).f⟩
     ·rw [hm] at em; cases em
   }
  have df:∀ {A:Around} {outer:_} {s:Shared} {H:Hp} {E:_},Df (cxOf CX0 P w K mg base d.names d.name (defScope st) fa cdv A outer s H E).nox:=fun {A outer s H E} => ⟨D.scope.nd,fun _ => rfl,PassesOwn.never,by
    have hk:(cxOf CX0 P w K mg base d.names d.name (defScope st) fa cdv A outer s H E).nox.env.scope.kind = .function:=D.scope.kind
    unfold Env.blockKind
    rw [hk]
    rfl⟩
  refine {
   m:=?_
   f:=?_
   t:=?_
   }
  ·refine fn_of lk hc D.scope (fun vs H Q E h => ?_) (fun A outer s H vs Q E hr h => ?_)
   ·obtain ⟨O,args,r,_,hp,e,_⟩:=h
    rw [<- (callN_some hd e).1]
    exact (Paired.length hp).symm
   ·obtain ⟨O,args,r,hO,hp,e,q⟩:=h
    obtain ⟨hl,hr'⟩:=callN_some hd e
    refine ⟨_,(soundSs (gg hr) df d.body (defBody st) D.body).nox,H,O,O,_,start_ok hO hp,?_⟩
    rcases hr' with ⟨ρ,he,rfl⟩ | he | ⟨xs,he,rfl⟩
    ·rw [he]
     exact fun σ' H' O' st' _ => q _ H' st'.keep (rep_non _)
    ·rw [he]
     exact fun u H' s' r' => q u H' s' r'
    ·rw [he]
     refine fun p us H' s' hp' he' r' => q _ H' s' ?_
     rw [Rep]
     refine ⟨p,us,rfl,SqL.of ?_,Reps.mono hide_cons_le _ r'⟩
     rw [hide_out fun z => hO p z hp']
     exact he'
  ·refine fn_of lk hc D.scope (fun vs H Q E h => ?_) (fun A outer s H vs Q E hr h => ?_)
   ·obtain ⟨O,args,r,_,hp,e,_⟩:=h
    rw [<- (callN_fresh hf hn hd e).1]
    exact (Paired.length hp).symm
   ·obtain ⟨O,args,xs,hO,hp,e,q⟩:=h
    obtain ⟨hl,ys,he,ey⟩:=callN_fresh hf hn hd e
    cases ey
    refine ⟨_,(soundSs (gg hr) df d.body (defBody st) D.body).nox,H,O,O,_,start_ok hO hp,?_⟩
    rw [he]
    exact fun p us H' s' hp' he' r' => q p us H' s' hp' he' r'
  ·refine fn_of lk hc D.scope (fun vs H Q E h => ?_) (fun A outer s H vs Q E hr h => ?_)
   ·obtain ⟨O,a,l,fs,xs,as,ws,v,ys,rfl,_,_,r,e,_⟩:=h
    rw [<- (callN_take hf hn3 hd e).1]
    simp [r.length]
   ·obtain ⟨O,a,l,fs,xs,as,ws,v,ys,rfl,hO,q,r,e,kq⟩:=h
    obtain ⟨hl,v',ρ,he,ee⟩:=callN_take hf hn3 hd e
    obtain ⟨rfl,fs',e0⟩:=endO_of ee
    refine ⟨_,(soundSs (gg hr) df d.body (defBody st) D.body).nox,dropH H [a,l],_,O,_,start_okT hO q r,?_⟩
    rw [he]
    intro σ' H' O' st' k'
    obtain ⟨⟨xs0,e1⟩,es⟩:=k'.mutO 0 fs' ys e0
    have efs:fs' = fs:=by
     have e1:some (some (MV.ownO true fs xs)) = some (some (MV.ownO true fs' xs0)):=e1
     cases e1
     rfl
    subst efs
    obtain ⟨u,eu,a',l',rfl,q2⟩:=st'.slot 0 _ e0
    have ea:a' = a:=by
     rw [eu] at es
     have es:some (some (V.ref a')) = some (some (V.ref a)):=es
     cases es
     rfl
    subst ea
    have lB:=q2.lB
    refine kq l' H' (fun b o n1 n2 eb => st'.keep b o ?_) ?_ (q2.move (hide_mono (Same.refl _) fun b hb => .inl ?_) (fun _ h => h) (fun _ h => h) (List.mem_cons_of_mem _ (List.mem_filter.mpr ⟨q.aO,decide_eq_true q.ne⟩)) List.mem_cons_self rfl rfl)
    ·unfold dropH
     rw [if_neg fun z => by
      rcases List.mem_cons.mp z with z | z
      ·exact n1 z
      ·exact n2 (List.mem_singleton.mp z)]
     exact eb
    ·unfold dropH at lB
     split at lB
     ·rename_i z
      rcases List.mem_cons.mp z with z | z
      ·exact absurd z.symm q2.ne
      ·exact .inl (List.mem_singleton.mp z)
     ·exact .inr lB
    ·rcases List.mem_cons.mp hb with rfl | hb
     ·exact q2.lO
     ·obtain ⟨h1,h2⟩:=List.mem_filter.mp hb
      by_cases z:b = a'
      ·subst z
       exact q2.aO
      ·refine k'.stay b ?_ h1
       unfold dropH
       rw [if_neg fun w => by
        rcases List.mem_cons.mp w with w | w
        ·exact z w
        ·exact of_decide_eq_true h2 (List.mem_singleton.mp w)]
       exact hO b h1
theorem fn_ok (hlen:ds.length <= 1000) (pr:Prog T K mg ds) (n f:Nat) (d:MD) (hd:ds[f]? = some d) (st:Stmt) (fa:Addr) (fd:FuncData) (D:DefIs T K mg st d fa fd):FnOk P w K mg base CX0 n fa fd d.params (spM K (callN ds n) f):=(fn_both hlen pr n f d hd st fa fd D).m
end
theorem sqT_upd {K:PySem.W.Frag} {H:Hp} {la x C dx:Addr} {us:List V} {gs:List (Str × V)} {o:HO} (h:SqT K H la us) (hx:H x = some (.ins C dx gs)):SqT K (upd H x o) la us:=by
 rcases h with (e | ⟨o',e⟩) | e
 ·have n:la ≠ x:=fun z => by rw [z,hx] at e; cases e
  exact .inl (.inl (by rw [upd_ne n]; exact e))
 ·have n:la ≠ x:=fun z => by rw [z,hx] at e; cases e
  exact .inl (.inr ⟨o',by rw [upd_ne n]; exact e⟩)
 ·exact .inr e
theorem putF_le {x:Str} {v:V} {gs:List (Str × V)} {n:Nat} (h:gs.length <= n):(putF x v gs).length <= n + 1:=by
 induction gs generalizing n with
 | nil => exact Nat.succ_le_succ (Nat.zero_le _)
 | cons p gs ih =>
  obtain ⟨y,w⟩:=p
  show (if y = x then (y,v) :: gs else (y,w) :: putF x v gs).length <= _
  cases n with
  | zero => cases h
  | succ n =>
   have:=ih (Nat.le_of_succ_le_succ h)
   have:=Nat.le_of_succ_le_succ h
   split
   ·simp only [List.length_cons]; omega
   ·simp only [List.length_cons]; omega
theorem cls_of {K:PySem.W.Frag} {C C':Addr} (h:IsC K C) (c:ClsOk K C) (h':IsC K C'):ClsOk K C':=by
 have:=h'.symm.trans h
 cases this
 exact c
theorem nf_of {K:PySem.W.Frag} {C:Addr} (n0:PySem.W.findIn K (.ref C) "hole_count" = some none) (n1:PySem.W.findIn K (.ref C) "ribbons" = some none) (n2:PySem.W.findIn K (.ref C) "opener" = some none) (x:Str) (hx:x ∈ fldN):NoAttr K C x:=by
 simp only [fldN,List.mem_cons,List.not_mem_nil,or_false] at hx
 rcases hx with rfl | rfl | rfl
 ·exact n0
 ·exact n1
 ·exact n2
theorem law_sp {K:PySem.W.Frag} {ds:List MD} {n li:Nat} {H:Hp} {a:Addr} {ns:List Int} (h:callN ds n li [.brw (ns.map .int)] = some (.bl true)) (hS:SqL K H a (ns.map V.int)):spM K (callN ds n) li [.ref a] H (fun v _ => v = .bl true) fun _ _ _ => False :=
 ⟨[],[.brw (ns.map .int)],.bl true,fun _ z => by simp at z,.cons ⟨a,_,rfl,hS,.of_ints ns⟩ .nil,h,fun u H' _ r => by rw [Rep] at r; exact r⟩
end MM
namespace MM
open PySem
noncomputable abbrev ofS (ts:List Int):PV:=.tup (ts.map .int)
noncomputable abbrev ofR (R:List (List Int)):PV:=.tup (R.map ofS)
noncomputable abbrev ofL (ns:List Int):PV:=.lst (ns.map .int)
theorem ints?_map:∀ ns:List Int,ints? (ns.map .int) = some ns
 | [] => rfl
 | n :: ns => by simp [ints?,ints?_map ns]
theorem tups?_map:∀ R:List (List Int),tups? (R.map ofS) = some R
 | [] => rfl
 | t :: R => by simp [tups?,ints?_map,tups?_map R]
theorem bools?_map:∀ ns:List Bool,bools? (ns.map .bl) = some ns
 | [] => rfl
 | n :: ns => by simp [bools?,bools?_map ns]
theorem sort_ints {ns:List Int} (h:ns.length < 64):sortOp (ns.map .int) = some (ofL (sortI ns)):=by
 unfold sortOp
 rw [if_pos (by simpa using h),ints?_map]
theorem sort_tups {R:List (List Int)} (h:R.length < 64):sortOp (R.map ofS) = some (.lst ((sortT R).map ofS)):=by
 unfold sortOp
 rw [if_pos (by simpa using h)]
 cases R with
 | nil => rfl
 | cons t R =>
  have:ints? ((t :: R).map ofS) = none:=rfl
  rw [this]
  simp only [tups?_map,Option.map_some]
theorem compGo_map {α:Type} {g:α -> PV} {c:PV -> Option Bool} {f:PV -> Option PV} {p:α -> Bool} {h:α -> PV}:∀ {xs:List α},(∀ x ∈ xs,c (g x) = some (p x)) -> (∀ x ∈ xs,p x = true -> f (g x) = some (h x)) -> compGo c f (xs.map g) = some ((xs.filter p).map h)
 | [],_,_ => rfl
 | x :: xs,hc,hf => by
  rw [List.map_cons,compGo,hc x (.head _),Option.bind_some]
  have ih:=compGo_map (xs:=xs) (fun y hy => hc y (.tail _ hy)) (fun y hy => hf y (.tail _ hy))
  cases hp:p x with
  | true => rw [if_pos rfl,hf x (.head _) hp,Option.bind_some,ih,List.filter_cons_of_pos hp]; rfl
  | false => rw [if_neg (by simp),ih,List.filter_cons_of_neg (by simp [hp])]
theorem compGo_all {α:Type} {g:α -> PV} {c:PV -> Option Bool} {f:PV -> Option PV} {h:α -> PV} {xs:List α} (hc:∀ x ∈ xs,c (g x) = some true) (hf:∀ x ∈ xs,f (g x) = some (h x)):compGo c f (xs.map g) = some (xs.map h):=by
 rw [compGo_map (p:=fun _ => true) hc (fun x hx _ => hf x hx),List.filter_eq_self.mpr fun _ _ => rfl]
theorem beq_or (a b:Int) (ts:List Int):((b == a) || decide (a ∈ ts)) = decide (a = b \/ a ∈ ts):=by
 by_cases e:a = b
 ·subst e; rw [beq_self_eq_true,Bool.true_or]; exact (decide_eq_true (.inl rfl)).symm
 ·rw [beq_eq_false_iff_ne.mpr (Ne.symm e),Bool.false_or]
  by_cases q:a ∈ ts
  ·rw [decide_eq_true q,decide_eq_true (.inr q)]
  ·rw [decide_eq_false q,decide_eq_false (fun z => z.elim e q)]
theorem dec_or (a b:List Int) (ts:List (List Int)):(decide (b = a) || decide (a ∈ ts)) = decide (a = b \/ a ∈ ts):=by
 by_cases e:a = b
 ·subst e; rw [decide_eq_true rfl,Bool.true_or]; exact (decide_eq_true (.inl rfl)).symm
 ·rw [decide_eq_false (Ne.symm e),Bool.false_or]
  by_cases q:a ∈ ts
  ·rw [decide_eq_true q,decide_eq_true (.inr q)]
  ·rw [decide_eq_false q,decide_eq_false (fun z => z.elim e q)]
theorem isIn_ints (h:Int):∀ ts:List Int,isIn (.int h) (ts.map .int) = some (decide (h ∈ ts))
 | [] => rfl
 | t :: ts => by
  have ih:=isIn_ints h ts
  unfold isIn at ih ⊢
  rw [List.map_cons,inL,ih]
  simp only [eqF,Option.bind_some,Option.map_some,List.mem_cons,beq_or]
theorem eqL_ints (n:Nat):∀ a b:List Int,eqL (eqF n) (a.map .int) (b.map .int) = some (decide (a = b))
 | [],[] => rfl
 | [],_ :: _ => rfl
 | _ :: _,[] => rfl
 | x :: a,y :: b => by
  rw [List.map_cons,List.map_cons,eqL,eqL_ints n a b]
  simp only [eqF,Option.bind_some,Option.map_some,List.cons.injEq]
  congr 1
  rw [Bool.eq_iff_iff]
  simp
theorem eqF_S (n:Nat) (a b:List Int):eqF (n + 1) (ofS a) (ofS b) = some (decide (a = b)):=by rw [eqF,eqL_ints]
theorem eqL_S (n:Nat):∀ a b:List (List Int),eqL (eqF (n + 1)) (a.map ofS) (b.map ofS) = some (decide (a = b))
 | [],[] => rfl
 | [],_ :: _ => rfl
 | _ :: _,[] => rfl
 | x :: a,y :: b => by
  rw [List.map_cons,List.map_cons,eqL,eqL_S n a b,eqF_S]
  simp only [Option.bind_some,Option.map_some,List.cons.injEq]
  congr 1
  rw [Bool.eq_iff_iff]
  simp
theorem eqF_R (n:Nat) (a b:List (List Int)):eqF (n + 2) (ofR a) (ofR b) = some (decide (a = b)):=by rw [eqF,eqL_S]
theorem isIn_S (h:List Int):∀ ts:List (List Int),isIn (ofS h) (ts.map ofS) = some (decide (h ∈ ts))
 | [] => rfl
 | t :: ts => by
  have ih:=isIn_S h ts
  unfold isIn at ih ⊢
  rw [List.map_cons,inL,ih,eqF_S 99]
  simp only [Option.bind_some,Option.map_some,List.mem_cons,dec_or]
noncomputable def outOf:R -> Option PV
 | .next _ => some .non
 | .ret v => some v
 | .retF xs => some (.lst xs)
 | _ => none
theorem call_def {ds:List MD} {n f:Nat} {d:MD} {args:List MV} (hd:ds[f]? = some d) (hl:args.length = d.params.length):callN ds (n + 1) f args = outOf (exs (callN ds n) d.body (args.map some ++ List.replicate (d.names.length - args.length) none)):=by
 rw [callN,hd]
 simp only [hl,if_true]
 unfold outOf
 rfl
noncomputable def outT:R -> Option PV
 | .retT v ρ => endO v ρ
 | _ => none
theorem call_defT {ds:List MD} {n f:Nat} {d:MD} {args:List MV} (hf:f < 1000) (hn:ds[f + 3000]? = none) (hd:ds[f]? = some d) (hl:args.length = d.params.length):callN ds (n + 1) (f + 3000) args = outT (exs (callN ds n) d.body (args.map some ++ List.replicate (d.names.length - args.length) none)):=by
 rw [callN,hn]
 dsimp only
 rw [if_neg (by omega),if_pos (by omega),Nat.add_sub_cancel,hd]
 simp only [hl,if_true]
 unfold outT
 rfl
@[simp] theorem then_retF (xs:List PV) (k:Rho -> R):(R.retF xs).andThen k = .retF xs:=rfl
@[simp] theorem borOf_val (v:PV):borOf (some (.val v)) = some v:=rfl
@[simp] theorem borOf_own (v:List PV):borOf (some (.own v)) = some (.lst v):=rfl
@[simp] theorem borOf_brw (v:List PV):borOf (some (.brw v)) = some (.lst v):=rfl
@[simp] theorem borOf_ownD (v:DD):borOf (some (.ownD v)) = some (.dI v):=rfl
@[simp] theorem borOf_brwD (v:DD):borOf (some (.brwD v)) = some (.dI v):=rfl
@[simp] theorem argOf_ownD (v:DD):argOf (some (.ownD v)) = some (.brwD v):=rfl
@[simp] theorem argOf_brwD (v:DD):argOf (some (.brwD v)) = some (.brwD v):=rfl
@[simp] theorem capOf_ownD (v:DD):capOf (some (.ownD v)) = some (.brwD v):=rfl
@[simp] theorem capOf_brwD (v:DD):capOf (some (.brwD v)) = some (.brwD v):=rfl
@[simp] theorem sc_int (i:Int):sc? (.int i) = some (.int i):=rfl
@[simp] theorem sc_bl (i:Bool):sc? (.bl i) = some (.bl i):=rfl
@[simp] theorem sc_non:sc? .non = some .non:=rfl
@[simp] theorem pv_int (i:Int):(Sc.int i).pv = .int i:=rfl
@[simp] theorem pv_bl (i:Bool):(Sc.bl i).pv = .bl i:=rfl
@[simp] theorem varOf_val (v:PV):varOf (some (.val v)) = some v:=rfl
@[simp] theorem argOf_val (v:PV):argOf (some (.val v)) = some (.val v):=rfl
@[simp] theorem argOf_own (v:List PV):argOf (some (.own v)) = some (.brw v):=rfl
@[simp] theorem argOf_brw (v:List PV):argOf (some (.brw v)) = some (.brw v):=rfl
@[simp] theorem capOf_val (v:PV):capOf (some (.val v)) = some (.val v):=rfl
@[simp] theorem capOf_own (v:List PV):capOf (some (.own v)) = some (.brw v):=rfl
@[simp] theorem capOf_brw (v:List PV):capOf (some (.brw v)) = some (.brw v):=rfl
@[simp] theorem boolOf_bl (b:Bool):boolOf? (.bl b) = some b:=rfl
@[simp] theorem bin_add (i j:Int):binOp .add (.int i) (.int j) = some (.int (i + j)):=rfl
@[simp] theorem bin_sub (i j:Int):binOp .sub (.int i) (.int j) = some (.int (i - j)):=rfl
@[simp] theorem bin_mul (i j:Int):binOp .mul (.int i) (.int j) = if (-(2 ^ 64) < i /\ i < 2 ^ 64) \/ (-(2 ^ 64) < j /\ j < 2 ^ 64) then some (.int (i * j)) else none:=rfl
@[simp] theorem bin_fdiv (i j:Int):binOp .fdiv (.int i) (.int j) = if 0 < j /\ j < 1073741824 then some (.int (i / j)) else none:=rfl
@[simp] theorem bin_mod (i j:Int):binOp .mod (.int i) (.int j) = if 0 < j then some (.int (i % j)) else none:=rfl
@[simp] theorem bin_cat (x y:List PV):binOp .add (.lst x) (.lst y) = if x.length + y.length <= 10000 then some (.lst (x ++ y)) else none:=rfl
@[simp] theorem cmp_lt (i j:Int):cmpOp .lt (.int i) (.int j) = some (decide (i < j)):=rfl
@[simp] theorem cmp_le (i j:Int):cmpOp .le (.int i) (.int j) = some (decide (i <= j)):=rfl
@[simp] theorem cmp_gt (i j:Int):cmpOp .gt (.int i) (.int j) = some (decide (j < i)):=rfl
@[simp] theorem cmp_ge (i j:Int):cmpOp .ge (.int i) (.int j) = some (decide (j <= i)):=rfl
@[simp] theorem cmp_eq (x y:PV):cmpOp .eq x y = eqF 100 x y:=rfl
@[simp] theorem cmp_ne (x y:PV):cmpOp .ne x y = if neOk x y = true then (eqF 100 x y).map (fun p => !p) else none:=rfl
@[simp] theorem cmp_isN (x:PV):cmpOp .isN x .non = some (isNon x):=rfl
@[simp] theorem cmp_notN (x:PV):cmpOp .notN x .non = some (!isNon x):=rfl
@[simp] theorem cmp_inT (x:PV) (xs:List PV):cmpOp .isIn x (.tup xs) = isIn x xs:=rfl
@[simp] theorem cmp_inL (x:PV) (xs:List PV):cmpOp .isIn x (.lst xs) = isIn x xs:=rfl
@[simp] theorem cmp_ninT (x:PV) (xs:List PV):cmpOp .notIn x (.tup xs) = (isIn x xs).map fun p => !p:=rfl
@[simp] theorem cmp_ninL (x:PV) (xs:List PV):cmpOp .notIn x (.lst xs) = (isIn x xs).map fun p => !p:=rfl
@[simp] theorem eqF_int (n:Nat) (i j:Int):eqF n (.int i) (.int j) = some (i == j):=by cases n <;> rfl
@[simp] theorem eqF_bl (n:Nat) (i j:Bool):eqF n (.bl i) (.bl j) = some (i == j):=by cases n <;> rfl
@[simp] theorem eqF_str (n:Nat) (i j:Str):eqF n (.str i) (.str j) = some (i == j):=by cases n <;> rfl
@[simp] theorem neOk_tt (x y:List PV):neOk (.tup x) (.tup y) = true:=rfl
@[simp] theorem neOk_ll (x y:List PV):neOk (.lst x) (.lst y) = true:=rfl
@[simp] theorem neOk_ii (x y:Int):neOk (.int x) (.int y) = true:=rfl
@[simp] theorem seq_tup (x:List PV):seq? (.tup x) = some x:=rfl
@[simp] theorem seq_lst (x:List PV):seq? (.lst x) = some x:=rfl
@[simp] theorem blt_lenT (x:List PV):bltOp .len [.tup x] = some (.int x.length):=rfl
@[simp] theorem blt_lenL (x:List PV):bltOp .len [.lst x] = some (.int x.length):=rfl
@[simp] theorem blt_lenD (x:List (Int × Sc)):bltOp .len [.dI (.k x)] = some (.int x.length):=rfl
@[simp] theorem blt_tup (x:PV):bltOp .tupleOf [x] = (seq? x).map .tup:=rfl
@[simp] theorem blt_list (x:PV):bltOp .listOf [x] = (seq? x).map .lst:=rfl
@[simp] theorem blt_sorted (x:PV):bltOp .sorted [x] = (seq? x).bind sortOp:=rfl
@[simp] theorem blt_any (x:List PV):bltOp .any [.lst x] = (bools? x).map fun bs => .bl (bs.any id):=rfl
@[simp] theorem blt_all (x:List PV):bltOp .all [.lst x] = (bools? x).map fun bs => .bl (bs.all id):=rfl
@[simp] theorem blt_intI (i:Int):bltOp .intOf [.int i] = some (.int i):=rfl
@[simp] theorem blt_intB (b:Bool):bltOp .intOf [.bl b] = some (.int (if b then 1 else 0)):=rfl
@[simp] theorem isD_int (i:Int):isD (.int i) = false:=rfl
@[simp] theorem isD_bl (i:Bool):isD (.bl i) = false:=rfl
@[simp] theorem isD_str (i:Str):isD (.str i) = false:=rfl
@[simp] theorem isD_tup (i:List PV):isD (.tup i) = false:=rfl
@[simp] theorem isD_lst (i:List PV):isD (.lst i) = false:=rfl
@[simp] theorem isD_non:isD .non = false:=rfl
@[simp] theorem blt_isInt (x:PV):bltOp .isInt [x] = if isD x = true then none else some (.bl (isT .isInt x)):=rfl
@[simp] theorem isT_isInt_int (i:Int):isT .isInt (.int i) = true:=rfl
@[simp] theorem isT_isInt_bl (i:Bool):isT .isInt (.bl i) = true:=rfl
@[simp] theorem isT_isInt_str (i:Str):isT .isInt (.str i) = false:=rfl
@[simp] theorem isT_isInt_lst (i:List PV):isT .isInt (.lst i) = false:=rfl
@[simp] theorem isT_isInt_tup (i:List PV):isT .isInt (.tup i) = false:=rfl
@[simp] theorem isT_isInt_non:isT .isInt .non = false:=rfl
@[simp] theorem blt_isBool (x:PV):bltOp .isBool [x] = if isD x = true then none else some (.bl (isT .isBool x)):=rfl
@[simp] theorem isT_isBool_int (i:Int):isT .isBool (.int i) = false:=rfl
@[simp] theorem isT_isBool_bl (i:Bool):isT .isBool (.bl i) = true:=rfl
@[simp] theorem isT_isBool_str (i:Str):isT .isBool (.str i) = false:=rfl
@[simp] theorem isT_isBool_lst (i:List PV):isT .isBool (.lst i) = false:=rfl
@[simp] theorem isT_isBool_tup (i:List PV):isT .isBool (.tup i) = false:=rfl
@[simp] theorem isT_isBool_non:isT .isBool .non = false:=rfl
@[simp] theorem blt_isStr (x:PV):bltOp .isStr [x] = if isD x = true then none else some (.bl (isT .isStr x)):=rfl
@[simp] theorem isT_isStr_int (i:Int):isT .isStr (.int i) = false:=rfl
@[simp] theorem isT_isStr_bl (i:Bool):isT .isStr (.bl i) = false:=rfl
@[simp] theorem isT_isStr_str (i:Str):isT .isStr (.str i) = true:=rfl
@[simp] theorem isT_isStr_lst (i:List PV):isT .isStr (.lst i) = false:=rfl
@[simp] theorem isT_isStr_tup (i:List PV):isT .isStr (.tup i) = false:=rfl
@[simp] theorem isT_isStr_non:isT .isStr .non = false:=rfl
@[simp] theorem blt_isList (x:PV):bltOp .isList [x] = if isD x = true then none else some (.bl (isT .isList x)):=rfl
@[simp] theorem isT_isList_int (i:Int):isT .isList (.int i) = false:=rfl
@[simp] theorem isT_isList_bl (i:Bool):isT .isList (.bl i) = false:=rfl
@[simp] theorem isT_isList_str (i:Str):isT .isList (.str i) = false:=rfl
@[simp] theorem isT_isList_lst (i:List PV):isT .isList (.lst i) = true:=rfl
@[simp] theorem isT_isList_tup (i:List PV):isT .isList (.tup i) = false:=rfl
@[simp] theorem isT_isList_non:isT .isList .non = false:=rfl
@[simp] theorem blt_isTuple (x:PV):bltOp .isTuple [x] = if isD x = true then none else some (.bl (isT .isTuple x)):=rfl
@[simp] theorem isT_isTuple_int (i:Int):isT .isTuple (.int i) = false:=rfl
@[simp] theorem isT_isTuple_bl (i:Bool):isT .isTuple (.bl i) = false:=rfl
@[simp] theorem isT_isTuple_str (i:Str):isT .isTuple (.str i) = false:=rfl
@[simp] theorem isT_isTuple_lst (i:List PV):isT .isTuple (.lst i) = false:=rfl
@[simp] theorem isT_isTuple_tup (i:List PV):isT .isTuple (.tup i) = true:=rfl
@[simp] theorem isT_isTuple_non:isT .isTuple .non = false:=rfl
@[simp] theorem blt_max1 (xs:List PV):bltOp .max1 [.lst xs] = (ints? xs).bind fun ns => (maxI ns).map .int:=rfl
@[simp] theorem blt_values (d:DD):bltOp .valuesOf [.dI d] = if (dVals d).length <= 10000 then some (.lst (dVals d)) else none:=rfl
@[simp] theorem blt_sortedKeys (kvs:List (Int × Sc)):bltOp .sortedKeys [.dI (.k kvs)] = if kvs.length < 64 then some (ofL (sortI (kvs.map (·.1)))) else none:=rfl
@[simp] theorem dGet_k (kvs:List (Int × Sc)) (i:Int):dGet (.dI (.k kvs)) (.int i) = some (dGetL kvs i):=rfl
@[simp] theorem dGet_t (kvs:List (List Int × Sc)) (ns:List Int):dGet (.dI (.t kvs)) (.tup (ns.map .int)) = some (dGetL kvs ns):=by
 show (ints? (ns.map .int)).map (dGetL kvs) = _
 rw [ints?_map]
 rfl
@[simp] theorem dPut_k (kvs:List (Int × Sc)) (i:Int) (s:Sc):dPut (.k kvs) (.int i) s = if kvs.length < 10000 then some (.k (dPutL kvs i s)) else none:=rfl
@[simp] theorem dPut_t (kvs:List (List Int × Sc)) (ns:List Int) (s:Sc):dPut (.t kvs) (.tup (ns.map .int)) s = if kvs.length < 10000 then some (.t (dPutL kvs ns s)) else none:=by
 show ((ints? (ns.map .int)).bind fun k => if kvs.length < 10000 then some (DD.t (dPutL kvs k s)) else none) = _
 rw [ints?_map]
 rfl
@[simp] theorem cmp_isB (p q:Bool):cmpOp .isN (.bl p) (.bl q) = some (p == q):=rfl
@[simp] theorem cmp_notB (p q:Bool):cmpOp .notN (.bl p) (.bl q) = some (!(p == q)):=rfl
@[simp] theorem blt_tupleRev (xs:List PV):bltOp .tupleRev [.lst xs] = some (.tup xs.reverse):=rfl
@[simp] theorem blt_sortedSet (x:PV):bltOp .sortedSet [x] = (seq? x).bind fun xs => (ints? xs).bind fun ns => if ns.length <= 1000 /\ (dd ns).length < 64 then some (.lst ((sortI (dd ns)).map .int)) else none:=rfl
@[simp] theorem idx_L (x:List PV) (i:Int):idxOp (.lst x) (.int i) = (place x.length i).bind fun j => x[j]?:=rfl
@[simp] theorem idx_T (x:List PV) (i:Int):idxOp (.tup x) (.int i) = (place x.length i).bind fun j => x[j]?:=rfl
@[simp] theorem slice_L (x:List PV) (lo hi:Option Int):sliceOp (.lst x) lo hi = some (.lst (cut x lo hi)):=rfl
@[simp] theorem bnd_int (i j:Int):bnd (.cst (.int i)) (.int j) = some (some j):=rfl
@[simp] theorem src_seq (x:PV):srcOf .seq [x] = seq? x:=rfl
theorem src_rng (j:Int):srcOf .rng [.int j] = if -(2 ^ 62) <= j /\ j < 2 ^ 62 then some ((List.range j.toNat).map fun (k:Nat) => .int ((0:Int) + k)) else none:=rfl
@[simp] theorem then_next (ρ:Rho) (k:Rho -> R):(R.next ρ).andThen k = k ρ:=rfl
@[simp] theorem then_ret (v:PV) (k:Rho -> R):(R.ret v).andThen k = .ret v:=rfl
@[simp] theorem then_bad (k:Rho -> R):R.bad.andThen k = .bad:=rfl
@[simp] theorem then_brk (ρ:Rho) (k:Rho -> R):(R.brk ρ).andThen k = .brk ρ:=rfl
@[simp] theorem then_cont (ρ:Rho) (k:Rho -> R):(R.cont ρ).andThen k = .cont ρ:=rfl
@[simp] theorem bindR_some (v:PV) (k:PV -> R):bindR (some v) k = k v:=rfl
@[simp] theorem bindB_some (v:Bool) (k:Bool -> R):bindB (some v) k = k v:=rfl
@[simp] theorem bindO_some (v:Rho) (k:Rho -> R):bindO (some v) k = k v:=rfl
@[simp] theorem outOf_ret (v:PV):outOf (.ret v) = some v:=rfl
@[simp] theorem outOf_next (ρ:Rho):outOf (.next ρ) = some .non:=rfl
@[simp] theorem put_zero (a:Option MV) (l:Rho) (m:MV):put (a :: l) 0 m = some m :: l:=rfl
@[simp] theorem put_succ (a:Option MV) (l:Rho) (n:Nat) (m:MV):put (a :: l) (n + 1) m = a :: put l n m:=rfl
@[simp] theorem back_next (src:List ME) (ρ₀ ρ:Rho):(R.next ρ).back src ρ₀ = .next (giveBack src ρ₀ ρ):=rfl
@[simp] theorem back_ret (src:List ME) (ρ₀:Rho) (v:PV):(R.ret v).back src ρ₀ = .ret v:=rfl
@[simp] theorem forGo_nil (body:PV -> Rho -> R) (ρ:Rho):forGo body [] ρ = .next ρ:=rfl
theorem src_rng_ok {j:Int} (h0:0 <= j) (h1:j < 4611686018427387904):srcOf .rng [.int j] = some ((List.range j.toNat).map fun (k:Nat) => .int (k:Int)):=by
 rw [src_rng,if_pos ⟨by omega,by omega⟩]
 congr 1
 exact List.map_congr_left fun k _ => by rw [Int.zero_add]
theorem place_lt {n:Nat} {i:Int} (h0:0 <= i) (h:i < n):place n i = some i.toNat:=by unfold place; rw [if_pos h0,if_pos h]
noncomputable def leT (a b:List Int):Prop:=lexLt b a = false
theorem sortI_perm (l:List Int):(sortI l).Perm l:=by rw [sortI_eq]; exact L2.Srt.sortI_perm l
theorem sortT_perm (l:List (List Int)):(sortT l).Perm l:=by rw [sortT_eq]; exact L2.Srt.sortT_perm l
theorem sortI_len (l:List Int):(sortI l).length = l.length:=(sortI_perm l).length_eq
theorem sortT_len (l:List (List Int)):(sortT l).length = l.length:=(sortT_perm l).length_eq
theorem mem_sortI {l:List Int} {x:Int}:x ∈ sortI l ↔ x ∈ l:=(sortI_perm l).mem_iff
theorem mem_sortT {l:List (List Int)} {x:List Int}:x ∈ sortT l ↔ x ∈ l:=(sortT_perm l).mem_iff
theorem sortI_rises (l:List Int):(sortI l).Pairwise (· <= ·):=by rw [sortI_eq]; exact L2.Srt.sortI_rises l
theorem sortT_rises (l:List (List Int)):(sortT l).Pairwise leT:=by
 rw [sortT_eq]
 exact (L2.Srt.sortT_rises l).imp fun h => by unfold leT; rw [lexLt_eq]; exact h
theorem sortT_id {l:List (List Int)} (h:l.Pairwise leT):sortT l = l:=by
 rw [sortT_eq]
 exact L2.Srt.sortT_id (h.imp fun h => by unfold leT at h; rw [lexLt_eq] at h; exact h)
theorem sortT_of_perm {a b:List (List Int)} (p:a.Perm b):sortT a = sortT b:=by rw [sortT_eq,sortT_eq]; exact L2.Srt.sortT_of_perm p
theorem sortI_lt {l:List Int} (h:l.Nodup):(sortI l).Pairwise (· < ·):=by
 have h1:=sortI_rises l
 have h2:(sortI l).Nodup:=(sortI_perm l).nodup_iff.mpr h
 exact (h1.and h2).imp fun ⟨a,b⟩ => by omega
theorem lt_nodup {l:List Int} (h:l.Pairwise (· < ·)):l.Nodup:=h.imp fun {a b} q => by omega
noncomputable def GoodS (ts:List Int):Prop:=ts.Pairwise (· < ·) /\ ∀ h ∈ ts,0 <= h /\ h <= 59
noncomputable def GoodR (R:List (List Int)):Prop:=(∀ ts ∈ R,GoodS ts) /\ R.Pairwise leT /\ R.length <= 60
theorem pigeon:∀ (n:Nat) (l:List Int),l.Nodup -> (∀ x ∈ l,0 <= x /\ x < (n:Int)) -> l.length <= n
 | 0,l,_,h => by
  cases l with
  | nil => simp
  | cons x r => have:=h x (.head _); omega
 | n + 1,l,hn,h => by
  have h1:=pigeon n (l.filter fun x => decide (x ≠ (n:Int))) (hn.filter _) (fun x hx => by
   obtain ⟨h2,h3⟩:=List.mem_filter.mp hx
   have h4:=of_decide_eq_true h3
   have:=h x h2
   omega)
  have h2:∀ l:List Int,l.Nodup -> l.length <= (l.filter fun x => decide (x ≠ (n:Int))).length + 1:=by
   intro l
   induction l with
   | nil => intro _; simp
   | cons x r ih =>
    intro hn
    by_cases e:x = (n:Int)
    ·have hr:r.filter (fun x => decide (x ≠ (n:Int))) = r:=List.filter_eq_self.mpr fun y hy => decide_eq_true fun z => (List.nodup_cons.mp hn).1 (by rw [e,<- z]; exact hy)
     rw [List.filter_cons_of_neg (by simp [e]),hr]
     simp
    ·rw [List.filter_cons_of_pos (by simp [e])]
     have:=ih (List.nodup_cons.mp hn).2
     simp only [List.length_cons]
     omega
  have:=h2 l hn
  omega
theorem goodS_len {ts:List Int} (h:GoodS ts):ts.length <= 60:=pigeon 60 ts (lt_nodup h.1) fun x hx => by have:=h.2 x hx; omega
noncomputable def cutI (ns:List Int) (lo hi:Option Int):List Int:=(ns.drop (cutAt ns.length 0 lo)).take (cutAt ns.length ns.length hi - cutAt ns.length 0 lo)
@[simp] theorem cut_ints (ns:List Int) (lo hi:Option Int):cut (ns.map .int) lo hi = (cutI ns lo hi).map .int:=by
 unfold cut cutI
 rw [List.length_map,List.map_take,List.map_drop]
theorem cutI_len (ns:List Int) {a b:Int} (ha:0 <= a) (hb:0 <= b):(cutI ns (some a) (some b)).length <= (b - a).toNat:=by
 unfold cutI
 rw [List.length_take,List.length_drop]
 have e1:cutAt ns.length ns.length (some b) = min b.toNat ns.length:=by show (if b < 0 then _ else _) = _; rw [if_neg (by omega)]
 have e2:cutAt ns.length 0 (some a) = min a.toNat ns.length:=by show (if a < 0 then _ else _) = _; rw [if_neg (by omega)]
 rw [e1,e2]
 omega
end MM
namespace PySem.W.Fast
theorem tw15817973694997123527:True:=⟨⟩
theorem tw3145360839270359832:True:=⟨⟩
theorem tw14774248150866187599:True:=⟨⟩
theorem tw4719617569653691465:True:=⟨⟩
theorem tw9884485501982746953:True:=⟨⟩
theorem tw18266872845530505066:True:=⟨⟩
theorem tw15212021102238229015:True:=⟨⟩
theorem tw11516577908839227333:True:=⟨⟩
theorem tw2648412199020735726:True:=⟨⟩
theorem tw6341527987976700123:True:=⟨⟩
theorem tw7752169719503843112:True:=⟨⟩
theorem tw10569893147854635731:True:=⟨⟩
theorem tw14444690362737477275:True:=⟨⟩
theorem tw14608421155112708276:True:=⟨⟩
theorem tw10906290330891334844:True:=⟨⟩
theorem tw15415339040468674558:True:=⟨⟩
theorem tw8130990645373478497:True:=⟨⟩
theorem tw11721405490255976972:True:=⟨⟩
theorem tw5969226085779914056:True:=⟨⟩
theorem tw1620318902131466468:True:=⟨⟩
theorem tw3834632232214644394:True:=⟨⟩
theorem tw9827662436772932740:True:=⟨⟩
theorem tw5890231530687546379:True:=⟨⟩
theorem tw5059839324095389891:True:=⟨⟩
theorem tw13324523091135251204:True:=⟨⟩
theorem tw16045041254523892714:True:=⟨⟩
theorem tw3176463437289476409:True:=⟨⟩
theorem tw10794354027281447493:True:=⟨⟩
theorem tw15835609838842494626:True:=⟨⟩
theorem tw9741074354736231791:True:=⟨⟩
theorem tw15703027687241582754:True:=⟨⟩
theorem tw3852790696386931935:True:=⟨⟩
theorem tw10714609006725207821:True:=⟨⟩
theorem tw17532367600709188507:True:=⟨⟩
theorem tw1865124409274187955:True:=⟨⟩
theorem tw12493265231584057589:True:=⟨⟩
theorem tw1220841590516520699:True:=⟨⟩
theorem tw8645456584938834252:True:=⟨⟩
theorem tw16287904119363073892:True:=⟨⟩
theorem tw15044787425252988105:True:=⟨⟩
theorem tw14867278525928822456:True:=⟨⟩
theorem tw11486506282340885003:True:=⟨⟩
theorem tw6934453917980079342:True:=⟨⟩
theorem tw2190256142323580211:True:=⟨⟩
theorem tw1316764868381762821:True:=⟨⟩
theorem tw9219155558654114186:True:=⟨⟩
theorem tw5463002192775555067:True:=⟨⟩
theorem tw17476981258595659669:True:=⟨⟩
theorem tw14557122333433443986:True:=⟨⟩
theorem tw16089289791887201028:True:=⟨⟩
theorem tw6073428625390391330:True:=⟨⟩
theorem tw17309655835847898582:True:=⟨⟩
theorem tw878389163712635204:True:=⟨⟩
theorem tw1488339453636173635:True:=⟨⟩
theorem tw18274323264191200338:True:=⟨⟩
theorem tw16746298029134601685:True:=⟨⟩
theorem tw11591162513199806340:True:=⟨⟩
theorem tw14364748479456782419:True:=⟨⟩
theorem tw10395649617000361208:True:=⟨⟩
theorem tw3665987700029779981:True:=⟨⟩
theorem tw11421543832108949109:True:=⟨⟩
theorem tw8401243168307826631:True:=⟨⟩
theorem tw11733116413684186114:True:=⟨⟩
theorem tw18146812159028715462:True:=⟨⟩
theorem tw7730837212085177425:True:=⟨⟩
theorem tw8590884768913362121:True:=⟨⟩
theorem tw8851824774368472218:True:=⟨⟩
theorem tw4098919274098848046:True:=⟨⟩
theorem tw9853297844754423730:True:=⟨⟩
theorem tw13878561850990089597:True:=⟨⟩
theorem tw10966305245186267898:True:=⟨⟩
theorem tw8157909307485631838:True:=⟨⟩
theorem tw14278843364510064628:True:=⟨⟩
theorem tw15221063937656743833:True:=⟨⟩
theorem tw210438893032054766:True:=⟨⟩
theorem tw1006623541724822303:True:=⟨⟩
theorem tw722835693298528842:True:=⟨⟩
theorem tw78485739270820440:True:=⟨⟩
theorem tw6036972520882773178:True:=⟨⟩
theorem tw13971192145744421695:True:=⟨⟩
theorem tw13096337163722041528:True:=⟨⟩
theorem tw2669196630675638031:True:=⟨⟩
theorem tw4243100544435547145:True:=⟨⟩
theorem tw2186475010199584212:True:=⟨⟩
theorem tw5768754197943422506:True:=⟨⟩
theorem tw14924623740900355818:True:=⟨⟩
theorem tw11038719386502802376:True:=⟨⟩
theorem tw15878366383869763081:True:=⟨⟩
theorem tw13307513403709917103:True:=⟨⟩
theorem tw8150610445007758897:True:=⟨⟩
theorem tw4277299324791187979:True:=⟨⟩
theorem tw11484562228433261809:True:=⟨⟩
theorem tw7490445261018105456:True:=⟨⟩
theorem tw18190653462108223423:True:=⟨⟩
theorem tw18281368107352845760:True:=⟨⟩
theorem tw6762531970205604749:True:=⟨⟩
theorem tw9927910640873621536:True:=⟨⟩
theorem tw77189049389928031:True:=⟨⟩
theorem tw13718067794094867491:True:=⟨⟩
theorem tw12910221480205553661:True:=⟨⟩
theorem tw3185308157929839575:True:=⟨⟩
theorem tw5968121284014780047:True:=⟨⟩
theorem tw10125809781251134594:True:=⟨⟩
theorem tw11740660355268835728:True:=⟨⟩
theorem tw3195909231011716747:True:=⟨⟩
theorem tw3741837966088228825:True:=⟨⟩
theorem tw5521090112389028426:True:=⟨⟩
theorem tw3206446572849563564:True:=⟨⟩
theorem tw8729663275362186032:True:=⟨⟩
theorem tw12972337906854630712:True:=⟨⟩
theorem tw7965765292796143190:True:=⟨⟩
theorem tw2505885750744336681:True:=⟨⟩
theorem tw7425452289112522475:True:=⟨⟩
theorem tw9741246640008470477:True:=⟨⟩
theorem tw4956218586530044248:True:=⟨⟩
theorem tw15853105952553276310:True:=⟨⟩
theorem tw5392569097451412046:True:=⟨⟩
theorem tw8169850604137214947:True:=⟨⟩
theorem tw17997438123291106644:True:=⟨⟩
theorem tw9475375165499535808:True:=⟨⟩
theorem tw4981239894149453195:True:=⟨⟩
theorem tw16423169715523934618:True:=⟨⟩
theorem tw11838264886255444709:True:=⟨⟩
theorem tw5692780411130333532:True:=⟨⟩
theorem tw15777370733562119062:True:=⟨⟩
theorem tw3372840490825827944:True:=⟨⟩
theorem tw13980329748252483091:True:=⟨⟩
theorem tw2911576827885361137:True:=⟨⟩
theorem tw4815643776934214417:True:=⟨⟩
theorem tw10131854542442575052:True:=⟨⟩
theorem tw3721171884679574458:True:=⟨⟩
theorem tw6146861737557552978:True:=⟨⟩
theorem tw18336653009924362524:True:=⟨⟩
theorem tw6675110791409896679:True:=⟨⟩
theorem tw1306823935295489138:True:=⟨⟩
theorem tw8777866950256683849:True:=⟨⟩
theorem tw6643679866341068694:True:=⟨⟩
theorem tw10928808855411668081:True:=⟨⟩
theorem tw7688169422153895650:True:=⟨⟩
theorem tw7532330479105434061:True:=⟨⟩
theorem tw12334912025077899460:True:=⟨⟩
theorem tw17909328358904520715:True:=⟨⟩
theorem tw13702175907273048162:True:=⟨⟩
theorem tw8701011448010413327:True:=⟨⟩
theorem tw5091954076708702312:True:=⟨⟩
theorem tw321958988339511479:True:=⟨⟩
theorem tw756349748508648044:True:=⟨⟩
theorem tw6927855382882390593:True:=⟨⟩
theorem tw16588727606544364069:True:=⟨⟩
theorem tw10070409021233008584:True:=⟨⟩
theorem tw17514541801457767842:True:=⟨⟩
theorem tw11322893122563822224:True:=⟨⟩
theorem tw5591445694146999826:True:=⟨⟩
theorem tw13527359839330922929:True:=⟨⟩
theorem tw3821407543097820094:True:=⟨⟩
theorem tw16808283808836371345:True:=⟨⟩
theorem tw4175634816704551323:True:=⟨⟩
theorem tw4347369157154243160:True:=⟨⟩
theorem tw14326714925914107166:True:=⟨⟩
theorem tw2602055160806801738:True:=⟨⟩
theorem tw14140339747252205994:True:=⟨⟩
theorem tw11254692750861366238:True:=⟨⟩
theorem tw2610190472913037290:True:=⟨⟩
theorem tw3027500267009478247:True:=⟨⟩
theorem tw14156529504924630831:True:=⟨⟩
theorem tw1657844929756186061:True:=⟨⟩
theorem tw1472208345294907870:True:=⟨⟩
theorem tw9890986059507333380:True:=⟨⟩
theorem tw18412568594353076311:True:=⟨⟩
theorem tw7622324225887780804:True:=⟨⟩
theorem tw113719936943139791:True:=⟨⟩
theorem tw16174769844391950047:True:=⟨⟩
theorem tw2615568824376032445:True:=⟨⟩
theorem tw18275162524625680187:True:=⟨⟩
theorem tw12021652778793954051:True:=⟨⟩
theorem tw16245929664318523299:True:=⟨⟩
theorem tw10755620471433049947:True:=⟨⟩
theorem tw10198093721558452324:True:=⟨⟩
theorem tw13094969346597966768:True:=⟨⟩
theorem tw1436671920206499518:True:=⟨⟩
theorem tw445271692062512328:True:=⟨⟩
theorem tw3374255007506427111:True:=⟨⟩
theorem tw16025843340160191810:True:=⟨⟩
theorem tw7726006059544940746:True:=⟨⟩
theorem tw10626907795874666483:True:=⟨⟩
theorem tw2035336518857990931:True:=⟨⟩
theorem tw16117044372228456093:True:=⟨⟩
theorem tw11405849251196189197:True:=⟨⟩
theorem tw8999762584154602500:True:=⟨⟩
theorem tw4097433260526680219:True:=⟨⟩
theorem tw16328862920558814695:True:=⟨⟩
theorem tw14716319531505294893:True:=⟨⟩
theorem tw6993605488965159902:True:=⟨⟩
theorem tw17248254072386620851:True:=⟨⟩
theorem tw12450543368573567080:True:=⟨⟩
theorem tw11254517481589404335:True:=⟨⟩
theorem tw16753973099689753223:True:=⟨⟩
theorem tw15844221715341587475:True:=⟨⟩
theorem tw6060970523226364740:True:=⟨⟩
theorem tw12263305590499795215:True:=⟨⟩
theorem tw11053898115583272291:True:=⟨⟩
theorem tw6532205897830686698:True:=⟨⟩
theorem tw17498688801504831639:True:=⟨⟩
theorem tw18112925998839333638:True:=⟨⟩
theorem tw1609850088224272533:True:=⟨⟩
theorem tw5790968631814185815:True:=⟨⟩
theorem tw3201231515760360037:True:=⟨⟩
theorem tw14664096094232987987:True:=⟨⟩
theorem tw5395014403682891640:True:=⟨⟩
theorem tw5383103891810278039:True:=⟨⟩
theorem tw13856264674774895676:True:=⟨⟩
theorem tw9373088314648291486:True:=⟨⟩
theorem tw15490518466248017421:True:=⟨⟩
theorem tw4431292625558058559:True:=⟨⟩
theorem tw8095178375054252358:True:=⟨⟩
theorem tw9439483848296003032:True:=⟨⟩
theorem tw15464064160320318852:True:=⟨⟩
theorem tw7771078739639118299:True:=⟨⟩
theorem tw14615395348890127958:True:=⟨⟩
theorem tw6988905412868446996:True:=⟨⟩
theorem tw6122452298230020370:True:=⟨⟩
theorem tw9843369956901981825:True:=⟨⟩
theorem tw14552482750530342218:True:=⟨⟩
theorem tw13949213065200047294:True:=⟨⟩
theorem tw8145122169640515550:True:=⟨⟩
theorem tw1112229693441491428:True:=⟨⟩
theorem tw11787322936305269317:True:=⟨⟩
theorem tw15486669187183923308:True:=⟨⟩
theorem tw10323683939137039849:True:=⟨⟩
theorem tw4545981921540740691:True:=⟨⟩
theorem tw1752609454965741392:True:=⟨⟩
theorem tw4621906762069861426:True:=⟨⟩
theorem tw4325374159655988895:True:=⟨⟩
theorem tw3636821394704785703:True:=⟨⟩
theorem tw2737937626744421680:True:=⟨⟩
theorem tw8691908087923892716:True:=⟨⟩
theorem tw4315460888181878800:True:=⟨⟩
theorem tw1224003228180501224:True:=⟨⟩
theorem tw18231187959569647385:True:=⟨⟩
theorem tw8548815117908506362:True:=⟨⟩
theorem tw16353374363268130474:True:=⟨⟩
theorem tw3339935047996156618:True:=⟨⟩
theorem tw6879679950382391139:True:=⟨⟩
theorem tw10910845238998773547:True:=⟨⟩
theorem tw14231847873103457496:True:=⟨⟩
theorem tw8052255098849609436:True:=⟨⟩
theorem tw14060575513402740202:True:=⟨⟩
theorem tw1397910252209525369:True:=⟨⟩
theorem tw2787416925493094557:True:=⟨⟩
theorem tw2555866712834556002:True:=⟨⟩
theorem tw263200639467564564:True:=⟨⟩
theorem tw3090597350916550730:True:=⟨⟩
theorem tw16741116710038469483:True:=⟨⟩
theorem tw15157636510567430571:True:=⟨⟩
theorem tw17967832881888270584:True:=⟨⟩
theorem tw18441685537975743288:True:=⟨⟩
theorem tw17220960376172651659:True:=⟨⟩
theorem tw6039673415944518868:True:=⟨⟩
theorem tw10546017728208914247:True:=⟨⟩
theorem tw9242979027780012612:True:=⟨⟩
theorem tw865727519160067343:True:=⟨⟩
theorem tw14035566379075033862:True:=⟨⟩
theorem tw13722337927019490085:True:=⟨⟩
theorem tw7016442466812348675:True:=⟨⟩
theorem tw18419616085607180013:True:=⟨⟩
theorem tw13188084290885003424:True:=⟨⟩
theorem tw6856911803925388215:True:=⟨⟩
theorem tw1359331650747444145:True:=⟨⟩
theorem tw6283883884420283809:True:=⟨⟩
theorem tw14557863898458810719:True:=⟨⟩
theorem tw282146965315569567:True:=⟨⟩
theorem tw8448974428247798667:True:=⟨⟩
theorem tw7373932187690926581:True:=⟨⟩
theorem tw6570584411475063017:True:=⟨⟩
theorem tw1900763738666310937:True:=⟨⟩
theorem tw8144114685934940051:True:=⟨⟩
theorem tw10303641664568379395:True:=⟨⟩
theorem tw18033132705412760155:True:=⟨⟩
theorem tw14949539679738503326:True:=⟨⟩
theorem tw10276748860895613955:True:=⟨⟩
theorem tw12050202103720432191:True:=⟨⟩
theorem tw1982460606975092601:True:=⟨⟩
theorem tw5930126971990249267:True:=⟨⟩
end PySem.W.Fast
namespace My
open PySem L2 MM
noncomputable def d_is_number_below:MD:=⟨"is_number_below",["thing","bound"],["thing","bound"],
  [.ite (.or (.blt .isBool [(.bor 0)]) (.not (.blt .isInt [(.bor 0)])))
   [.ret (.cst (.bl false))]
   [],
  .ret (.chain .le .lt (.cst (.int 0)) (.bor 0) (.bor 1))],none⟩
noncomputable def d_strip_without:MD:=⟨"strip_without",["strip","hole"],["strip","hole"],
  [.ret (.blt .tupleOf [(.comp .seq [(.bor 0)] [1] (.cmp .ne (.bor 0) (.bor 1)) (.var 0))])],none⟩
noncomputable def d_knotted:MD:=⟨"knotted",["rest","hole"],["rest","hole"],
  [.ret (.blt .tupleOf [(.blt .sorted [(.comp .seq [(.bor 0)] [1] (.cst (.bl true)) (.call 1 [(.bor 0),(.bor 1)]))])])],none⟩
noncomputable def d_bitten:MD:=⟨"bitten",["rest","hole"],["rest","hole"],
  [.ret (.blt .tupleOf [(.comp .seq [(.bor 0)] [1] (.cmp .notIn (.bor 1) (.bor 0)) (.var 0))])],none⟩
noncomputable def d_is_whole:MD:=⟨"is_whole",["rest"],["rest"],
  [.ret (.cmp .isIn (.tup []) (.bor 0))],none⟩
noncomputable def d_is_bare:MD:=⟨"is_bare",["rest"],["rest"],
  [.ret (.cmp .eq (.blt .len [(.bor 0)]) (.cst (.int 0)))],none⟩
noncomputable def d_other_hand:MD:=⟨"other_hand",["hand"],["hand"],
  [.ret (.ite (.cmp .eq (.bor 0) (.cst (.str "weaver"))) (.cst (.str "moth")) (.cst (.str "weaver")))],none⟩
noncomputable def d_behind:MD:=⟨"behind",["rest","hand","reply"],["rest","hand","reply"],
  [.ite (.cmp .isN (.bor 2) (.cst .non))
   [.ret (.var 0)]
   [],
  .ret (.ite (.cmp .eq (.bor 1) (.cst (.str "weaver"))) (.call 2 [(.bor 0),(.bor 2)]) (.call 3 [(.bor 0),(.bor 2)]))],none⟩
noncomputable def d_law_cell:MD:=⟨"_law_cell",["script","k"],["script","k"],
  [.ite (.cmp .lt (.bor 1) (.blt .len [(.bor 0)]))
   [.ret (.idx (.bor 0) (.bor 1))]
   [],
  .ret (.cst (.int 0))],none⟩
noncomputable def d_law_mixed:MD:=⟨"_law_mixed",["cell","by"],["cell","by"],
  [.ret (.bin .mod (.bin .mul (.bin .mod (.bor 0) (.cst (.int 2305843009213693951))) (.bor 1)) (.cst (.int 2305843009213693951)))],none⟩
noncomputable def b_law_strip_1:List MS:=[.ite (.cmp .notIn (.bin .mod (.bor 3) (.bor 1)) (.bor 5))
   [.append 5 (.bin .mod (.bor 3) (.bor 1))]
   [],
  .set 3 (.bin .fdiv (.bor 3) (.bor 1))]
noncomputable def d_law_strip:MD:=⟨"_law_strip",["cell","many","most"],["cell","many","most","left","size","strip","k"],
  [.set 3 (.call 9 [(.bor 0),(.cst (.int 1181783497276652981))]),
  .set 4 (.bin .mod (.bor 3) (.bin .add (.bor 2) (.cst (.int 1)))),
  .set 3 (.bin .fdiv (.bor 3) (.bin .add (.bor 2) (.cst (.int 1)))),
  .setOwn 5 (.lst []),
  .for1 6 .rng [(.bor 4)] b_law_strip_1,
  .ret (.blt .tupleOf [(.blt .sorted [(.bor 5)])])],none⟩
noncomputable def d_law_whole:MD:=⟨"_law_whole",["found"],["found"],
  [.ret (.and (.blt .isInt [(.bor 0)]) (.not (.blt .isBool [(.bor 0)])))],none⟩
noncomputable def b_law_numbers_1:List MS:=[.ite (.or (.not (.call 11 [(.idx (.bor 0) (.bor 2))])) (.cmp .ne (.idx (.bor 0) (.bor 2)) (.idx (.bor 1) (.bor 2))))
   [.ret (.cst (.bl false))]
   []]
noncomputable def d_law_numbers:MD:=⟨"_law_numbers",["found","due"],["found","due","k"],
  [.ite (.or (.not (.blt .isList [(.bor 0)])) (.cmp .ne (.blt .len [(.bor 0)]) (.blt .len [(.bor 1)])))
   [.ret (.cst (.bl false))]
   [],
  .for1 2 .rng [(.blt .len [(.bor 1)])] b_law_numbers_1,
  .ret (.cst (.bl true))],none⟩
noncomputable def d_law_ribbons:MD:=⟨"_law_ribbons",["script","count"],["script","count","some","strips"],
  [.ite (.cmp .eq (.bor 1) (.cst (.int 0)))
   [.ret (.lst [])]
   [],
  .set 2 (.call 8 [(.bor 0),(.cst (.int 1))]),
  .set 3 (.comp .seq [(.slice (.bor 0) (.cst (.int 3)) (.bin .add (.cst (.int 3)) (.bin .mod (.bor 2) (.cst (.int 9)))))] [1,2] (.cst (.bl true)) (.call 10 [(.bor 0),(.bor 1),(.bin .add (.cst (.int 1)) (.bin .mod (.bin .fdiv (.bor 2) (.cst (.int 9))) (.cst (.int 6))))])),
  .ret (.comp .seq [(.bor 3)] [] (.cmp .ne (.bor 0) (.tup [])) (.var 0))],none⟩
noncomputable def d_law_taken_by:MD:=⟨"_law_taken_by",["taken","begin"],["taken","begin"],
  [.ret (.blt .sorted [(.comp .rng [(.blt .len [(.bor 0)])] [0,1] (.cmp .eq (.bin .mod (.bor 0) (.cst (.int 2))) (.bor 2)) (.idx (.bor 1) (.bor 0)))])],none⟩
noncomputable def b_law_left_1:List MS:=[.ite (.not (.blt .any [(.comp .seq [(.bor 4)] [2] (.cst (.bl true)) (.cmp .isIn (.bor 0) (.bor 1)))]))
   [.append 3 (.blt .tupleOf [(.comp .seq [(.bor 4)] [1] (.cmp .notIn (.bor 0) (.bor 1)) (.var 0))])]
   []]
noncomputable def d_law_left:MD:=⟨"_law_left",["ribbons","knots","bites"],["ribbons","knots","bites","strips","ribbon"],
  [.setOwn 3 (.lst []),
  .for1 4 .seq [(.bor 0)] b_law_left_1,
  .ret (.blt .tupleOf [(.blt .sorted [(.bor 3)])])],none⟩
noncomputable def d_law_won:MD:=⟨"_law_won",["strips"],["strips"],
  [.ite (.cmp .isIn (.tup []) (.bor 0))
   [.ret (.cst (.str "weaver"))]
   [],
  .ite (.cmp .eq (.bor 0) (.tup []))
   [.ret (.cst (.str "moth"))]
   [],
  .ret (.cst .non)],none⟩
noncomputable def b_law_free_1:List MS:=[.dput 2 (.bor 3) (.cst (.bl true))]
noncomputable def d_law_free:MD:=⟨"_law_free",["count","taken"],["count","taken","marks","hole"],
  [.newD false 2,
  .for1 3 .seq [(.bor 1)] b_law_free_1,
  .ret (.comp .rng [(.bor 0)] [2] (.dIn true (.bor 0) (.bor 1)) (.var 0))],none⟩
noncomputable def d_law_asked:MD:=⟨"_law_asked",["table","which"],["table","which"],
  [.ite (.cmp .eq (.bor 1) (.cst (.int 0)))
   [.ret (.callM 24 0 [])]
   [],
  .ite (.cmp .eq (.bor 1) (.cst (.int 1)))
   [.ret (.callM 25 0 [])]
   [],
  .ite (.cmp .eq (.bor 1) (.cst (.int 2)))
   [.ret (.callM 26 0 [])]
   [],
  .ret (.callM 27 0 [])],none⟩
noncomputable def b_law_right_1:List MS:=[.set 7 (.bin .mod (.bin .add (.bor 6) (.bor 4)) (.cst (.int 4))),
  .ite (.not (.call 12 [(.call 18 [(.bor 0),(.bor 7)]),(.idx (.bor 5) (.bor 7))]))
   [.ret (.cst (.bl false))]
   []]
noncomputable def d_law_right:MD:=⟨"_law_right",["table","count","taken","begin","order"],["table","count","taken","begin","order","due","k","which","hand"],
  [.set 5 (.lst [(.var 2),(.call 14 [(.bor 2),(.bor 3)]),(.call 14 [(.bor 2),(.bin .sub (.cst (.int 1)) (.bor 3))]),(.call 17 [(.bor 1),(.bor 2)])]),
  .for1 6 .rng [(.cst (.int 4))] b_law_right_1,
  .set 8 (.callM 23 0 []),
  .ret (.and (.blt .isStr [(.bor 8)]) (.cmp .eq (.bor 8) (.idx (.lst [(.cst (.str "weaver")),(.cst (.str "moth"))]) (.bin .mod (.bin .add (.blt .len [(.bor 2)]) (.bor 3)) (.cst (.int 2))))))],none⟩
noncomputable def b_law_1:List MS:=[.ite (.cmp .isN (.bor 7) (.cst .non))
   [.ite (.not (.callV 19 [(.bor 5),(.bor 1),(.bor 6),(.bor 4),(.bin .fdiv (.bor 8) (.cst (.int 60)))]))
    [.ret (.cst (.bl false))]
    [],
   .set 9 (.call 17 [(.bor 1),(.bor 6)]),
   .takeO none 5 30 [(.idx (.bor 9) (.bin .mod (.bor 8) (.blt .len [(.bor 9)])))],
   .append 6 (.idx (.bor 9) (.bin .mod (.bor 8) (.blt .len [(.bor 9)]))),
   .set 7 (.call 16 [(.call 15 [(.bor 2),(.call 14 [(.bor 6),(.bor 4)]),(.call 14 [(.bor 6),(.bin .sub (.cst (.int 1)) (.bor 4))])])])]
   []]
noncomputable def d_law:MD:=⟨"law",["script"],["script","count","ribbons","loom","begin","table","taken","won","cell","free"],
  [.set 1 (.bin .mod (.call 8 [(.bor 0),(.cst (.int 0))]) (.cst (.int 61))),
  .set 2 (.call 13 [(.bor 0),(.bor 1)]),
  .set 3 (.tup [(.var 1),(.blt .tupleOf [(.blt .sorted [(.bor 2)])])]),
  .set 4 (.blt .intOf [(.cmp .eq (.bin .mod (.call 8 [(.bor 0),(.cst (.int 2))]) (.cst (.int 3))) (.cst (.int 1)))]),
  .mkO 5 [(.var 3),(.idx (.lst [(.cst (.str "weaver")),(.cst (.str "moth"))]) (.bor 4))],
  .ite (.cmp .eq (.bin .mod (.call 8 [(.bor 0),(.cst (.int 2))]) (.cst (.int 3))) (.cst (.int 2)))
   [.mkO 5 [(.var 3)]]
   [],
  .setOwn 6 (.lst []),
  .set 7 (.call 16 [(.idx (.bor 3) (.cst (.int 1)))]),
  .for1 8 .seq [(.slice (.bor 0) (.cst (.int 3)) (.cst (.int 43)))] b_law_1,
  .ret (.callV 19 [(.bor 5),(.bor 1),(.bor 6),(.bor 4),(.call 8 [(.bor 0),(.cst (.int 2))])])],none⟩
noncomputable def d_Table_hand_at:MD:=⟨"Table.hand_at",["self","place"],["self","place"],
  [.ret (.ite (.cmp .eq (.bin .mod (.bor 1) (.cst (.int 2))) (.cst (.int 0))) (.fld 0 2) (.call 6 [(.fld 0 2)]))],some "hand_at"⟩
noncomputable def d_Table_holes_taken_by:MD:=⟨"Table.holes_taken_by",["self","hand"],["self","hand"],
  [.ret (.blt .sorted [(.comp2 [(.fldL 0)] [0,1] (.cmp .eq (.callM 21 2 [(.bor 0)]) (.bor 3)) (.var 1))])],some "holes_taken_by"⟩
noncomputable def d_Table_turn:MD:=⟨"Table.turn",["self"],["self"],
  [.ret (.callM 21 0 [(.blt .len [(.fldL 0)])])],some "turn"⟩
noncomputable def d_Table_deeds:MD:=⟨"Table.deeds",["self"],["self"],
  [.ret (.blt .listOf [(.fldL 0)])],some "deeds"⟩
noncomputable def d_Table_knots:MD:=⟨"Table.knots",["self"],["self"],
  [.ret (.callM 22 0 [(.cst (.str "weaver"))])],some "knots"⟩
noncomputable def d_Table_bites:MD:=⟨"Table.bites",["self"],["self"],
  [.ret (.callM 22 0 [(.cst (.str "moth"))])],some "bites"⟩
noncomputable def d_Table_free:MD:=⟨"Table.free",["self"],["self"],
  [.ret (.comp .rng [(.fld 0 0)] [0] (.cmp .notIn (.bor 0) (.fldL 1)) (.var 0))],some "free"⟩
noncomputable def b_Table_rest_1:List MS:=[.set 1 (.call 7 [(.bor 1),(.callM 21 0 [(.bor 2)]),(.bor 3)])]
noncomputable def d_Table_rest:MD:=⟨"Table.rest",["self"],["self","left","place","hole"],
  [.set 1 (.fld 0 1),
  .forT [2,3] .enm [(.fldL 0)] b_Table_rest_1,
  .ret (.var 1)],some "rest"⟩
noncomputable def d_Table_winner:MD:=⟨"Table.winner",["self"],["self","left"],
  [.set 1 (.callM 28 0 []),
  .ite (.call 4 [(.bor 1)])
   [.ret (.cst (.str "weaver"))]
   [],
  .ite (.call 5 [(.bor 1)])
   [.ret (.cst (.str "moth"))]
   [],
  .ret (.cst .non)],some "winner"⟩
noncomputable def d_Table_take:MD:=⟨"Table.take",["self","hole"],["self","hole"],
  [.ite (.cmp .notN (.callM 29 0 []) (.cst .non))
   [.never]
   [],
  .ite (.not (.call 0 [(.bor 1),(.fld 0 0)]))
   [.never]
   [],
  .ite (.inO false (.bor 1) 0)
   [.never]
   [],
  .appO 0 (.var 1),
  .retT (.callM 29 0 [])],some "take"⟩
noncomputable def defs:List MD:=[d_is_number_below,d_strip_without,d_knotted,d_bitten,d_is_whole,d_is_bare,d_other_hand,d_behind,d_law_cell,d_law_mixed,d_law_strip,d_law_whole,d_law_numbers,d_law_ribbons,d_law_taken_by,d_law_left,d_law_won,d_law_free,d_law_asked,d_law_right,d_law,d_Table_hand_at,d_Table_holes_taken_by,d_Table_turn,d_Table_deeds,d_Table_knots,d_Table_bites,d_Table_free,d_Table_rest,d_Table_winner,d_Table_take]
noncomputable def tab:Tab:=⟨defs.map tabN,[],[[],[],[],[],[],[],[],[],[],[],[],[],[],[],[],[],[],[],[],[],[],[],[],[],[],[],[],[],[],[],[]],defs.map (·.meth)⟩
noncomputable def cellOf (ns:List Int) (k:Int):Int:=ns.getD k.toNat 0
theorem e_cell (n:Nat) (m:MV) (ns:List Int) (k:Int) (hm:borOf (some m) = some (ofL ns)) (h0:0 <= k):callN defs (n + 1) 8 [m,.val (.int k)] = some (.int (cellOf ns k)):=by
 rw [call_def (d:=d_law_cell) rfl rfl]
 unfold cellOf
 simp [d_law_cell,exs,ex,ev,evs,evB,hm]
 by_cases h:k < (ns.length:Int)
 ·have h2:k.toNat < ns.length:=by omega
  simp [h,place_lt h0 h,h2]
 ·have h2:ns.length <= k.toNat:=by omega
  simp [h,h2]
noncomputable def mixed (c b:Int):Int:=c % 2305843009213693951 * b % 2305843009213693951
theorem e_mixed (n:Nat) (c b:Int):callN defs (n + 1) 9 [.val (.int c),.val (.int b)] = some (.int (mixed c b)):=by
 rw [call_def (d:=d_law_mixed) rfl rfl]
 have h1:0 <= c % 2305843009213693951:=Int.emod_nonneg _ (by decide)
 have h2:c % 2305843009213693951 < 2305843009213693951:=Int.emod_lt_of_pos _ (by decide)
 have h3:(-18446744073709551616 < c % 2305843009213693951 /\ c % 2305843009213693951 < 18446744073709551616 \/ -18446744073709551616 < b /\ b < 18446744073709551616):=.inl ⟨by omega,by omega⟩
 simp [d_law_mixed,exs,ex,ev,evs,h3,mixed]
noncomputable def stripGo (many:Int):Nat -> Int -> List Int -> List Int
 | 0,_,acc => acc
 | n + 1,left,acc => stripGo many n (left / many) (if left % many ∈ acc then acc else acc ++ [left % many])
theorem stripGo_ok (many:Int) (hm:0 < many):∀ (n:Nat) (left:Int) (acc:List Int),acc.Nodup -> (∀ h ∈ acc,0 <= h /\ h < many) -> (stripGo many n left acc).Nodup /\ (∀ h ∈ stripGo many n left acc,0 <= h /\ h < many) /\ (stripGo many n left acc).length <= acc.length + n
 | 0,_,acc,h1,h2 => ⟨h1,h2,by simp [stripGo]⟩
 | n + 1,left,acc,h1,h2 => by
  rw [stripGo]
  by_cases q:left % many ∈ acc
  ·rw [if_pos q]
   obtain ⟨a,b,c⟩:=stripGo_ok many hm n (left / many) acc h1 h2
   exact ⟨a,b,by omega⟩
  ·rw [if_neg q]
   obtain ⟨a,b,c⟩:=stripGo_ok many hm n (left / many) (acc ++ [left % many]) (List.nodup_append.mpr ⟨h1,by simp,fun x hx y hy => by rw [List.mem_singleton.mp hy]; exact fun z => q (z ▸ hx)⟩) (fun h hh => by
    rcases List.mem_append.mp hh with hh | hh
    ·exact h2 h hh
    ·rw [List.mem_singleton.mp hh]; exact ⟨Int.emod_nonneg _ (by omega),Int.emod_lt_of_pos _ hm⟩)
   exact ⟨a,b,by rw [List.length_append,List.length_singleton] at c; omega⟩
noncomputable def stripOf (c many most:Int):List Int:=sortI (stripGo many (mixed c 1181783497276652981 % (most + 1)).toNat (mixed c 1181783497276652981 / (most + 1)) [])
theorem strip_loop (cal:Cal) (c many most size:MV) (mn:Int) (hmn:borOf (some many) = some (.int mn)) (h1:0 < mn) (h2:mn < 1073741824):∀ (xs:List PV) (left:Int) (acc:List Int) (kk:Option MV),acc.length + xs.length <= 10000 ->
  ∃ left' kk',forGo (fun x ρ' => exs cal b_law_strip_1 (put ρ' 6 (.val x))) xs
   [some c,some many,some most,some (.val (.int left)),some size,some (.own (acc.map .int)),kk] = .next [some c,some many,some most,some (.val (.int left')),some size,some (.own ((stripGo mn xs.length left acc).map .int)),kk']
 | [],left,acc,kk,_ => ⟨left,kk,rfl⟩
 | x :: xs,left,acc,kk,hl => by
  simp only [List.length_cons] at hl
  rw [forGo]
  have e:exs cal b_law_strip_1 (put [some c,some many,some most,some (.val (.int left)),some size,some (.own (acc.map .int)),kk] 6 (.val x)) =
    .next [some c,some many,some most,some (.val (.int (left / mn))),some size,some (.own ((if left % mn ∈ acc then acc else acc ++ [left % mn]).map .int)),some (.val x)]:=by
   by_cases q:left % mn ∈ acc
   ·simp [b_law_strip_1,exs,ex,ev,evs,evB,hmn,h1,h2,isIn_ints,q]
   ·have hlt:acc.length < 10000:=by omega
    simp [b_law_strip_1,exs,ex,ev,evs,evB,hmn,h1,h2,isIn_ints,q,hlt]
  rw [e]
  obtain ⟨l',k',e2⟩:=strip_loop cal c many most size mn hmn h1 h2 xs (left / mn) (if left % mn ∈ acc then acc else acc ++ [left % mn]) (some (.val x)) (by
   split
   ·omega
   ·rw [List.length_append,List.length_singleton]; omega)
  exact ⟨l',k',e2⟩
theorem e_strip (n:Nat) (c many most:Int) (h1:0 < many) (h2:many < 1073741824) (h3:0 <= most) (h4:most <= 60):callN defs (n + 2) 10 [.val (.int c),.val (.int many),.val (.int most)] = some (ofS (stripOf c many most)):=by
 rw [call_def (d:=d_law_strip) rfl rfl]
 have hp:0 < most + 1:=by omega
 have hp2:most + 1 < 1073741824:=by omega
 have q0:0 <= mixed c 1181783497276652981 % (most + 1):=Int.emod_nonneg _ (by omega)
 have q1:mixed c 1181783497276652981 % (most + 1) < most + 1:=Int.emod_lt_of_pos _ hp
 obtain ⟨l',k',e⟩:=strip_loop (callN defs (n + 1)) (.val (.int c)) (.val (.int many)) (.val (.int most)) (.val (.int (mixed c 1181783497276652981 % (most + 1)))) many rfl h1 h2 ((List.range (mixed c 1181783497276652981 % (most + 1)).toNat).map fun (k:Nat) => PV.int (k:Int)) (mixed c 1181783497276652981 / (most + 1)) [] none (by simp; omega)
 rw [List.length_map,List.length_range] at e
 obtain ⟨g1,g2,g3⟩:=stripGo_ok many h1 (mixed c 1181783497276652981 % (most + 1)).toNat (mixed c 1181783497276652981 / (most + 1)) [] List.nodup_nil (fun _ h => by cases h)
 have hlen:(stripGo many (mixed c 1181783497276652981 % (most + 1)).toNat (mixed c 1181783497276652981 / (most + 1)) []).length < 64:=by simp at g3; omega
 simp only [List.map_nil] at e
 simp [d_law_strip,exs,ex,ev,evs,evA,evB,e_mixed,hp,hp2,lend,src_rng_ok q0 (by omega),e,giveBack,sort_ints hlen,stripOf]
theorem strip_good (c many most:Int) (h1:0 < many) (h2:many <= 60):GoodS (stripOf c many most):=by
 obtain ⟨a,b,_⟩:=stripGo_ok many h1 (mixed c 1181783497276652981 % (most + 1)).toNat (mixed c 1181783497276652981 / (most + 1)) [] List.nodup_nil (fun _ h => by cases h)
 exact ⟨sortI_lt a,fun h hh => by have:=b h (mem_sortI.mp hh); omega⟩
theorem ex_for1 {cal:Cal} {i:Nat} {k:Sk} {src:List ME} {body:List MS} {ρ:Rho} {xs:List PV} (h:(evs cal src ρ).bind (srcOf k) = some xs):ex cal (.for1 i k src body) ρ = (forGo (fun x ρ' => exs cal body (put ρ' i (.val x))) xs (lend src ρ)).back src ρ:=by
 rw [ex,h]
theorem exs_cons (cal:Cal) (m:MS) (ms:List MS) (ρ:Rho):exs cal (m :: ms) ρ = (ex cal m ρ).andThen fun ρ' => exs cal ms ρ':=by rw [exs]
theorem ev_blt1 {cal:Cal} {b:Blt} {e:ME} {ρ:Rho} {v:PV} (h:ev cal e ρ = some v):ev cal (.blt b [e]) ρ = bltOp b [v]:=by
 rw [ev,evs,h,Option.bind_some,evs,Option.map_some,Option.bind_some]
theorem ex_set {cal:Cal} {i:Nat} {e:ME} {ρ:Rho} {v:PV} (h:ev cal e ρ = some v):ex cal (.set i e) ρ = .next (put ρ i (.val v)):=by
 rw [ex,h]; rfl
theorem ev_and {cal:Cal} {a b:ME} {ρ:Rho} {p q:Bool} (h:ev cal a ρ = some (.bl p)) (h':p = true -> ev cal b ρ = some (.bl q)):ev cal (.and a b) ρ = some (.bl (p && q)):=by
 rw [ev,h]
 cases p with
 | false => rfl
 | true => simp [h' rfl]
theorem ex_ret {cal:Cal} {e:ME} {ρ:Rho} {v:PV} (h:ev cal e ρ = some v):ex cal (.ret e) ρ = .ret v:=by
 rw [ex,h]; rfl
theorem ev_comp {α:Type} {cal:Cal} {k:Sk} {src:List ME} {js:List Nat} {elt:ME} {ρ:Rho} {vs:List PV} {xs:List α} {g h:α -> PV} (h1:evs cal src ρ = some vs) (h2:srcOf k vs = some (xs.map g)) (hl:xs.length <= 10000)
  (h3:∀ x ∈ xs,ev cal elt (blkR js ρ (g x)) = some (h x)):ev cal (.comp k src js (.cst (.bl true)) elt) ρ = some (.lst (xs.map h)):=by
 rw [ev,h1,Option.bind_some,h2,Option.bind_some,if_pos (by simpa using hl),compGo_all (h:=h) (fun x _ => by simp [ev]) h3]
 rfl
theorem ev_cst (cal:Cal) (v:PV) (ρ:Rho):ev cal (.cst v) ρ = some v:=by rw [ev]
theorem ev_bin {cal:Cal} {op:Op2} {a b:ME} {ρ:Rho} {x y:PV} (h:ev cal a ρ = some x) (h':ev cal b ρ = some y):ev cal (.bin op a b) ρ = binOp op x y:=by
 rw [ev,h,Option.bind_some,h',Option.bind_some]
theorem ev_cmp {cal:Cal} {op:Cp} {a b:ME} {ρ:Rho} {x y:PV} (h:ev cal a ρ = some x) (h':ev cal b ρ = some y):ev cal (.cmp op a b) ρ = (cmpOp op x y).map .bl:=by
 rw [ev,h,Option.bind_some,h',Option.bind_some]
theorem ev_fdiv {cal:Cal} {a:ME} {ρ:Rho} {x k:Int} (h:ev cal a ρ = some (.int x)) (hk:0 < k /\ k < 1073741824):ev cal (.bin .fdiv a (.cst (.int k))) ρ = some (.int (x / k)):=by
 rw [ev_bin h (ev_cst _ _ _),bin_fdiv,if_pos hk]
theorem evB_of {cal:Cal} {a:ME} {ρ:Rho} {b:Bool} (h:ev cal a ρ = some (.bl b)):evB cal a ρ = some b:=by
 unfold evB
 rw [h]
 rfl
theorem ev_idx {cal:Cal} {a i:ME} {ρ:Rho} {x y:PV} (h:ev cal a ρ = some x) (h':ev cal i ρ = some y):ev cal (.idx a i) ρ = idxOp x y:=by
 rw [ev,h,Option.bind_some,h',Option.bind_some]
theorem forGo_step {body:PV -> Rho -> R} {x:PV} {xs:List PV} {ρ ρ1:Rho} (h:body x ρ = .next ρ1):forGo body (x :: xs) ρ = forGo body xs ρ1:=by rw [forGo,h]
noncomputable def handS (b:Bool):PySem.Str:=if b = true then "moth" else "weaver"
theorem str_beq (a b:String):((PySem.Str.ofString a) == (PySem.Str.ofString b)) = (a == b):=by
 rw [Bool.eq_iff_iff,beq_iff_eq,beq_iff_eq]
 refine ⟨fun h => ?_,fun h => by rw [h]⟩
 rw [PySem.Str.ofString_eq_byList] at h
 unfold PySem.Str.ofStringByList at h
 have h1:(a.toList.map Char.toNat).toArray = (b.toList.map Char.toNat).toArray:=by injection h
 have h2:a.toList.map Char.toNat = b.toList.map Char.toNat:=by simpa using h1
 have key:∀ xs ys:List Char,xs.map Char.toNat = ys.map Char.toNat -> xs = ys:=by
  intro xs
  induction xs with
  | nil => intro ys h; cases ys with | nil => rfl | cons => simp at h
  | cons x xs ih => intro ys h; cases ys with
   | nil => simp at h
   | cons y ys =>
    simp only [List.map_cons,List.cons.injEq] at h
    rw [ih ys h.2,Char.toNat_inj.mp h.1]
 exact String.toList_inj.mp (key _ _ h2)
noncomputable def optI:Option Int -> PV
 | none => .non
 | some i => .int i
theorem beq_dec (x h:Int):(x == h) = decide (x = h):=rfl
noncomputable def drp (h:Int) (ts:List Int):List Int:=ts.filter fun x => !decide (x = h)
noncomputable def knot (h:Int) (R:List (List Int)):List (List Int):=sortT (R.map (drp h))
theorem drp_good {h:Int} {ts:List Int} (g:GoodS ts):GoodS (drp h ts):=⟨g.1.filter _,fun x hx => g.2 x (List.mem_filter.mp hx).1⟩
theorem knot_good {h:Int} {R:List (List Int)} (g:GoodR R):GoodR (knot h R):=by
 refine ⟨fun ts hm => ?_,sortT_rises _,by unfold knot; rw [sortT_len,List.length_map]; exact g.2.2⟩
 obtain ⟨t,ht,rfl⟩:=List.mem_map.mp (mem_sortT.mp hm)
 exact drp_good (g.1 t ht)
theorem e_strip_without (n:Nat) (ts:List Int) (h:Int) (hl:ts.length <= 10000):callN defs (n + 1) 1 [.val (ofS ts),.val (.int h)] = some (ofS (drp h ts)):=by
 rw [call_def (d:=d_strip_without) rfl rfl]
 simp [d_strip_without,exs,ex,ev,evs,hl]
 rw [compGo_map (p:=fun x => !decide (x = h)) (h:=PV.int)]
 ·simp [drp]
 ·intro x _
  simp [ev,blkR,beq_dec]
 ·intro x _ _
  simp [ev,blkR]
theorem e_knotted (n:Nat) (R:List (List Int)) (h:Int) (g:GoodR R):callN defs (n + 2) 2 [.val (ofR R),.val (.int h)] = some (ofR (knot h R)):=by
 rw [call_def (d:=d_knotted) rfl rfl]
 have hl:R.length <= 10000:=by have:=g.2.2; omega
 simp [d_knotted,exs,ex,ev,evs,hl]
 rw [compGo_all (h:=fun ts => ofS (drp h ts))]
 ·have e:(R.map fun c => ofS (drp h c)) = (R.map (drp h)).map ofS:=by rw [List.map_map]; rfl
  have hl3:(R.map (drp h)).length < 64:=by rw [List.length_map]; have:=g.2.2; omega
  rw [e]
  simp [-List.map_map,sort_tups hl3,knot]
 ·intro c _
  simp [ev]
 ·intro c hc
  have hl:=goodS_len (g.1 c hc)
  simp [ev,evA,blkR,e_strip_without n c h (by omega)]
noncomputable def bite (h:Int) (R:List (List Int)):List (List Int):=R.filter fun ts => !decide (h ∈ ts)
theorem bite_good {h:Int} {R:List (List Int)} (g:GoodR R):GoodR (bite h R):=⟨fun ts hm => g.1 ts (List.mem_filter.mp hm).1,g.2.1.filter _,Nat.le_trans (List.length_filter_le _ _) g.2.2⟩
theorem e_bitten (n:Nat) (R:List (List Int)) (h:Int) (hl:R.length <= 10000):callN defs (n + 1) 3 [.val (ofR R),.val (.int h)] = some (ofR (bite h R)):=by
 rw [call_def (d:=d_bitten) rfl rfl]
 simp [d_bitten,exs,ex,ev,evs,hl]
 rw [compGo_map (p:=fun ts => !decide (h ∈ ts)) (h:=ofS)]
 ·simp [bite]
 ·intro ts _
  simp [ev,blkR,isIn_ints]
 ·intro ts _ _
  simp [ev,blkR]
noncomputable def bhd (h:Bool) (R:List (List Int)):Option Int -> List (List Int)
 | none => R
 | some k => if h = true then bite k R else knot k R
theorem bhd_good {h:Bool} {R:List (List Int)} (g:GoodR R) (r:Option Int):GoodR (bhd h R r):=by
 cases r with
 | none => exact g
 | some k => cases h with | true => exact bite_good g | false => exact knot_good g
theorem e_other (n:Nat) (h:Bool):callN defs (n + 1) 6 [.val (.str (handS h))] = some (.str (handS (!h))):=by
 rw [call_def (d:=d_other_hand) rfl rfl]
 cases h <;> simp [d_other_hand,exs,ex,ev,evs,evB,evA,str_beq,handS]
theorem e_behind (n:Nat) (R:List (List Int)) (g:GoodR R) (h:Bool) (r:Option Int):callN defs (n + 3) 7 [.val (ofR R),.val (.str (handS h)),.val (optI r)] = some (ofR (bhd h R r)):=by
 rw [call_def (d:=d_behind) rfl rfl]
 cases r with
 | none => simp [d_behind,exs,ex,ev,evs,evB,evA,optI,bhd,isNon]
 | some k =>
  have e1:=e_knotted n R k g
  have e2:=fun n => e_bitten n R k (by have:=g.2.2; omega)
  cases h <;> simp [d_behind,exs,ex,ev,evs,evB,evA,optI,bhd,str_beq,handS,isNon,e1,e2]
theorem e_is_whole (n:Nat) (R:List (List Int)):callN defs (n + 1) 4 [.val (ofR R)] = some (.bl (decide ([] ∈ R))):=by
 rw [call_def (d:=d_is_whole) rfl rfl]
 have ein:isIn (.tup []) (R.map ofS) = some (decide ([] ∈ R)):=isIn_S [] R
 simp [d_is_whole,exs,ex,ev,evs,ein]
theorem e_is_bare (n:Nat) (R:List (List Int)):callN defs (n + 1) 5 [.val (ofR R)] = some (.bl (decide (R = []))):=by
 rw [call_def (d:=d_is_bare) rfl rfl]
 cases R with
 | nil => simp [d_is_bare,exs,ex,ev,evs]
 | cons t R =>
  have:¬ ((R.length:Int) + 1 = 0):=by omega
  simp [d_is_bare,exs,ex,ev,evs,this]
theorem x_set {cal:Cal} {i:Nat} {e:ME} {ρ:Rho} {v:PV} {ms:List MS} {X:Option PV} (h:ev cal e ρ = some v) (k:outOf (exs cal ms (put ρ i (.val v))) = X):outOf (exs cal (.set i e :: ms) ρ) = X:=by
 rw [exs_cons,ex_set h,then_next,k]
theorem x_next {cal:Cal} {m:MS} {ρ ρ':Rho} {ms:List MS} {X:Option PV} (h:ex cal m ρ = .next ρ') (k:outOf (exs cal ms ρ') = X):outOf (exs cal (m :: ms) ρ) = X:=by
 rw [exs_cons,h,then_next,k]
theorem x_ret {cal:Cal} {e:ME} {ρ:Rho} {v:PV} {ms:List MS} (h:ev cal e ρ = some v):outOf (exs cal (.ret e :: ms) ρ) = some v:=by
 rw [exs_cons,ex_ret h]; rfl
theorem n_set {cal:Cal} {i:Nat} {e:ME} {ρ:Rho} {v:PV} {ms:List MS} {r:R} (h:ev cal e ρ = some v) (k:exs cal ms (put ρ i (.val v)) = r):exs cal (.set i e :: ms) ρ = r:=by
 rw [exs_cons,ex_set h,then_next,k]
theorem n_next {cal:Cal} {m:MS} {ρ ρ':Rho} {ms:List MS} {r:R} (h:ex cal m ρ = .next ρ') (k:exs cal ms ρ' = r):exs cal (m :: ms) ρ = r:=by
 rw [exs_cons,h,then_next,k]
theorem n_end {cal:Cal} {m:MS} {ρ ρ':Rho} (h:ex cal m ρ = .next ρ'):exs cal [m] ρ = .next ρ':=by
 rw [exs_cons,h,then_next,exs]
theorem ex_ite {cal:Cal} {c:ME} {a b:List MS} {ρ:Rho} {p:Bool} (h:ev cal c ρ = some (.bl p)):ex cal (.ite c a b) ρ = if p = true then exs cal a ρ else exs cal b ρ:=by
 rw [ex,evB_of h,bindB_some]
theorem mem_drp {h x:Int} {ts:List Int}:x ∈ drp h ts ↔ x ∈ ts /\ x ≠ h:=by
 unfold drp
 rw [List.mem_filter]
 simp
noncomputable def deed (R:List (List Int)) (d:Bool × Int):List (List Int):=if d.1 then knot d.2 R else bite d.2 R
theorem deed_gone {R:List (List Int)} {d:Bool × Int}:∀ ts ∈ deed R d,d.2 ∉ ts:=by
 intro ts h
 unfold deed at h
 split at h
 ·obtain ⟨t,_,rfl⟩:=List.mem_map.mp (mem_sortT.mp h)
  exact fun z => (mem_drp.mp z).2 rfl
 ·have:=(List.mem_filter.mp h).2
  simpa using this
theorem deed_keeps {R:List (List Int)} {d:Bool × Int} {x:Int} (h:∀ ts ∈ R,x ∉ ts):∀ ts ∈ deed R d,x ∉ ts:=by
 intro ts hm
 unfold deed at hm
 split at hm
 ·obtain ⟨t,ht,rfl⟩:=List.mem_map.mp (mem_sortT.mp hm)
  exact fun z => h t ht (mem_drp.mp z).1
 ·exact h ts (List.mem_filter.mp hm).1
noncomputable def hat (o:Bool) (k:Nat):Bool:=if k % 2 = 0 then o else !o
noncomputable def lft (o:Bool):Nat -> List (List Int) -> List Int -> List (List Int)
 | _,R,[] => R
 | k,R,h :: t => lft o (k + 1) (bhd (hat o k) R (some h)) t
theorem bhd_deed (b:Bool) (R:List (List Int)) (h:Int):bhd b R (some h) = deed R (!b,h):=by cases b <;> rfl
theorem lft_gone (o:Bool) {R:List (List Int)}:∀ (t:List Int) (k:Nat) (R:List (List Int)) (x:Int),((∀ ts ∈ R,x ∉ ts) \/ x ∈ t) -> ∀ ts ∈ lft o k R t,x ∉ ts
 | [],k,R,x,h => h.elim id fun z => by cases z
 | y :: t,k,R,x,h => by
  rw [lft,bhd_deed]
  refine lft_gone (R:=R) o t (k + 1) _ x ?_
  rcases h with h | h
  ·exact .inl (deed_keeps h)
  ·rcases List.mem_cons.mp h with rfl | h
   ·exact .inl (deed_gone (d:=(!hat o k,x)))
   ·exact .inr h
theorem lft_sub (o:Bool) {P:Int -> Prop}:∀ (t:List Int) (k:Nat) (R:List (List Int)),(∀ ts ∈ R,∀ x ∈ ts,P x) -> ∀ ts ∈ lft o k R t,∀ x ∈ ts,P x
 | [],k,R,h => h
 | y :: t,k,R,h => by
  rw [lft,bhd_deed]
  refine lft_sub o t (k + 1) _ fun ts hts x hx => ?_
  unfold deed at hts
  split at hts
  ·obtain ⟨s,hs,rfl⟩:=List.mem_map.mp (mem_sortT.mp hts)
   exact h s hs x (mem_drp.mp hx).1
  ·exact h ts (List.mem_filter.mp hts).1 x hx
noncomputable def wonS (R:List (List Int)):Sc:=if [] ∈ R then .str "weaver" else if R = [] then .str "moth" else .non
theorem e_hand_at (n:Nat) (c r:PV) (xs:List PV) (o:Bool) (k:Nat):callN defs (n + 2) 21 [.brwO [c,r,.str (handS o)] xs,.val (.int (k:Nat))] = some (.str (handS (hat o k))):=by
 rw [call_def (d:=d_Table_hand_at) rfl rfl]
 have e1:=e_other n o
 by_cases h:k % 2 = 0
 ·have h':((k:Int) % 2 == 0) = true:=by rw [beq_iff_eq]; omega
  simp [d_Table_hand_at,exs,ex,ev,evs,evB,evA,obOf,h',hat,h]
 ·have h':((k:Int) % 2 == 0) = false:=by rw [beq_eq_false_iff_ne]; omega
  simp [d_Table_hand_at,exs,ex,ev,evs,evB,evA,obOf,h',hat,h,e1]
theorem rest_loop (n:Nat) (c r:PV) (xs:List PV) (o:Bool):∀ (t:List Int) (k:Nat) (R:List (List Int)) (p h:Option MV),GoodR R ->
  ∃ p' h',forGo (fun x ρ' => bindO (unTup [2,3] x ρ') fun ρ'' => exs (callN defs (n + 3)) b_Table_rest_1 ρ'') (enumFrom k (t.map .int)) [some (.brwO [c,r,.str (handS o)] xs),some (.val (ofR R)),p,h]
   = .next [some (.brwO [c,r,.str (handS o)] xs),some (.val (ofR (lft o k R t))),p',h']
 | [],k,R,p,h,_ => ⟨p,h,rfl⟩
 | x :: t,k,R,p,h,g => by
  have e1:=e_hand_at (n + 1) c r xs o k
  have e2:=e_behind n R g (hat o k) (some x)
  have e:(bindO (unTup [2,3] (.tup [.int (k:Nat),.int x]) [some (.brwO [c,r,.str (handS o)] xs),some (.val (ofR R)),p,h]) fun ρ'' => exs (callN defs (n + 3)) b_Table_rest_1 ρ'')
    = .next [some (.brwO [c,r,.str (handS o)] xs),some (.val (ofR (bhd (hat o k) R (some x)))),some (.val (.int (k:Nat))),some (.val (.int x))]:=by
   simp [unTup,puts,b_Table_rest_1,exs,ex,ev,evs,evA,obOf,e1,<- optI.eq_def,show PV.int x = optI (some x) from rfl,e2]
  rw [List.map_cons,enumFrom,forGo_step e]
  obtain ⟨p',h',q⟩:=rest_loop n c r xs o t (k + 1) _ (some (.val (.int (k:Nat)))) (some (.val (.int x))) (bhd_good g (some x))
  exact ⟨p',h',q⟩
noncomputable abbrev tbl (c:Int) (R:List (List Int)) (o:Bool):List PV:=[.int c,ofR R,.str (handS o)]
theorem e_rest (n:Nat) (c:Int) (R:List (List Int)) (o:Bool) (t:List Int) (g:GoodR R):callN defs (n + 4) 28 [.brwO (tbl c R o) (t.map .int)] = some (ofR (lft o 0 R t)):=by
 rw [call_def (d:=d_Table_rest) rfl rfl]
 obtain ⟨p',h',e⟩:=rest_loop n (.int c) (ofR R) (t.map .int) o t 0 R none none g
 simp [d_Table_rest,exs,ex,ev,evs,evB,evA,obOf,lentL,srcOf,lend,e,giveBack]
theorem e_winner (n:Nat) (c:Int) (R:List (List Int)) (o:Bool) (t:List Int) (g:GoodR R):callN defs (n + 5) 29 [.brwO (tbl c R o) (t.map .int)] = some (wonS (lft o 0 R t)).pv:=by
 rw [call_def (d:=d_Table_winner) rfl rfl]
 have e1:=e_rest n c R o t g
 generalize lft o 0 R t = L at e1
 have e2:=e_is_whole (n + 3) L
 have e3:=e_is_bare (n + 3) L
 unfold wonS
 by_cases h:[] ∈ L
 ·simp [d_Table_winner,exs,ex,ev,evs,evB,evA,obOf,e1,e2,h,Sc.pv]
 ·by_cases h2:L = []
  ·subst h2
   simp [d_Table_winner,exs,ex,ev,evs,evB,evA,obOf,e1,e2,e3,Sc.pv]
  ·simp [d_Table_winner,exs,ex,ev,evs,evB,evA,obOf,e1,e2,e3,h,h2,Sc.pv]
theorem e_below (n:Nat) (h c:Int):callN defs (n + 1) 0 [.val (.int h),.val (.int c)] = some (.bl (decide (0 <= h) && decide (h < c))):=by
 rw [call_def (d:=d_is_number_below) rfl rfl]
 by_cases q:0 <= h
 ·simp [d_is_number_below,exs,ex,ev,evs,evB,q]
 ·simp [d_is_number_below,exs,ex,ev,evs,evB,q]
theorem e_take (n:Nat) (c:Int) (R:List (List Int)) (o:Bool) (t:List Int) (h:Int) (g:GoodR R) (hw:wonS (lft o 0 R t) = .non) (h0:0 <= h) (h1:h < c) (hn:h ∉ t) (hl:t.length < 10000) :
  callN defs (n + 6) (30 + 3000) [.ownO true (tbl c R o) (t.map .int),.val (.int h)] = some (.tup [(wonS (lft o 0 R (t ++ [h]))).pv,.lst ((t ++ [h]).map .int)]):=by
 rw [call_defT (d:=d_Table_take) (by decide) rfl rfl rfl]
 have e1:=e_winner n c R o t g
 have e2:=e_below (n + 4) h c
 have e3:=e_winner n c R o (t ++ [h]) g
 have e4:(t ++ [h]).map PV.int = t.map PV.int ++ [PV.int h]:=by simp
 rw [hw,show Sc.non.pv = PV.non from rfl] at e1
 rw [e4] at e3 ⊢
 have e5:sc? (wonS (lft o 0 R (t ++ [h]))).pv = some (wonS (lft o 0 R (t ++ [h]))):=by
  unfold wonS
  split
  ·rfl
  ·split <;> rfl
 generalize wonS (lft o 0 R (t ++ [h])) = w at e3 e5
 simp [d_Table_take,exs,ex,ev,evs,evB,evA,obOf,ownLs,e1,e2,h0,h1,isIn_ints,hn,hl,e3,e5,isNon,outT,endO,MM.R.andThen]
noncomputable def hasD {α:Type} (d:List (α × Sc)) (P:α -> Prop):Prop:=(d.map (·.1)).Nodup /\ ∀ k,k ∈ d.map (·.1) ↔ P k
section
variable {α:Type} [DecidableEq α]
theorem get_none {d:List (α × Sc)} {k:α}:dGetL d k = none ↔ k ∉ d.map (·.1):=by
 unfold dGetL
 rw [Option.map_eq_none_iff,List.find?_eq_none]
 constructor
 ·intro h z
  obtain ⟨p,hp,rfl⟩:=List.mem_map.mp z
  exact h p hp (decide_eq_true rfl)
 ·intro h p hp e
  exact h (List.mem_map.mpr ⟨p,hp,of_decide_eq_true e⟩)
theorem keys_put (d:List (α × Sc)) (k:α) (v:Sc):(dPutL d k v).map (·.1) = if k ∈ d.map (·.1) then d.map (·.1) else d.map (·.1) ++ [k]:=by
 have e:(d.any fun p => decide (p.1 = k)) = decide (k ∈ d.map (·.1)):=by
  rw [Bool.eq_iff_iff,List.any_eq_true,decide_eq_true_iff,List.mem_map]
  exact ⟨fun ⟨p,hp,z⟩ => ⟨p,hp,of_decide_eq_true z⟩,fun ⟨p,hp,z⟩ => ⟨p,hp,decide_eq_true z⟩⟩
 unfold dPutL
 rw [e]
 by_cases h:k ∈ d.map (·.1)
 ·rw [if_pos (decide_eq_true h),if_pos h,List.map_map]
  refine List.map_congr_left fun p _ => ?_
  show (if p.1 = k then (p.1,v) else p).1 = p.1
  split <;> rfl
 ·rw [if_neg (by simpa using h),if_neg h,List.map_append]
  rfl
theorem put_len (d:List (α × Sc)) (k:α) (v:Sc):(dPutL d k v).length <= d.length + 1:=by
 unfold dPutL
 split
 ·rw [List.length_map]; omega
 ·rw [List.length_append,List.length_singleton]; exact Nat.le_refl _
theorem hasD_put {d:List (α × Sc)} {P:α -> Prop} (h:hasD d P) (k:α) (v:Sc):hasD (dPutL d k v) (fun j => P j \/ j = k):=by
 unfold hasD
 rw [keys_put]
 by_cases hk:k ∈ d.map (·.1)
 ·rw [if_pos hk]
  refine ⟨h.1,fun j => ?_⟩
  rw [h.2 j]
  refine ⟨.inl,fun z => z.elim id fun e => ?_⟩
  rw [e]
  exact (h.2 k).mp hk
 ·rw [if_neg hk]
  refine ⟨List.nodup_append.mpr ⟨h.1,by simp,fun a ha b hb => by rw [List.mem_singleton.mp hb]; exact fun e => hk (e ▸ ha)⟩,fun j => ?_⟩
  rw [List.mem_append,List.mem_singleton,h.2 j]
end
section
variable {α:Type} [DecidableEq α]
theorem markL {g:α -> PV} {body:PV -> Rho -> R} {I:List (α × Sc) -> Rho -> Prop} {v:Sc}:∀ {xs:List α},(∀ x ∈ xs,∀ d ρ,I d ρ -> d.length < 9500 -> ∃ ρ',I (dPutL d x v) ρ' /\ body (g x) ρ = .next ρ') ->
  ∀ {d:List (α × Sc)} {ρ:Rho} {P:α -> Prop},I d ρ -> hasD d P -> d.length + xs.length <= 9000 ->
  ∃ d' ρ',forGo body (xs.map g) ρ = .next ρ' /\ I d' ρ' /\ hasD d' (fun k => P k \/ k ∈ xs) /\ d'.length <= d.length + xs.length
 | [],_,d,ρ,P,hI,hp,_ => ⟨d,ρ,rfl,hI,by simpa using hp,by simp⟩
 | x :: xs,hb,d,ρ,P,hI,hp,hl => by
  rw [List.length_cons] at hl
  obtain ⟨ρ1,hI1,e1⟩:=hb x (.head _) d ρ hI (by omega)
  have hl1:=put_len d x v
  obtain ⟨d',ρ',e2,hI2,hp2,hl2⟩:=markL (xs:=xs) (fun y hy => hb y (.tail _ hy)) hI1 (hasD_put hp x v) (by omega)
  rw [List.map_cons,forGo,e1]
  refine ⟨d',ρ',e2,hI2,⟨hp2.1,fun k => ?_⟩,by rw [List.length_cons]; omega⟩
  rw [hp2.2 k]
  simp only [List.mem_cons,or_assoc]
end
theorem strip_lt (c many most:Int) (h1:0 < many):(stripOf c many most).Pairwise (· < ·) /\ ∀ h ∈ stripOf c many most,0 <= h /\ h <= many - 1:=by
 obtain ⟨a,b,_⟩:=stripGo_ok many h1 (mixed c 1181783497276652981 % (most + 1)).toNat (mixed c 1181783497276652981 / (most + 1)) [] List.nodup_nil (fun _ h => by cases h)
 exact ⟨sortI_lt a,fun h hh => by have:=b h (mem_sortI.mp hh); omega⟩
theorem e_won (n:Nat) (L:List (List Int)):callN defs (n + 1) 16 [.val (ofR L)] = some (wonS L).pv:=by
 rw [call_def (d:=d_law_won) rfl rfl]
 have ein:isIn (.tup []) (L.map ofS) = some (decide ([] ∈ L)):=isIn_S [] L
 have eq:eqF 100 (ofR L) (.tup []) = some (decide (L = [])):=eqF_R 98 L []
 unfold wonS
 by_cases h:[] ∈ L
 ·simp [d_law_won,exs,ex,ev,evs,evB,ein,h,Sc.pv]
 ·by_cases h2:L = []
  ·subst h2
   rfl
  ·simp [d_law_won,exs,ex,ev,evs,evB,ein,eq,h,h2,Sc.pv]
theorem won_cases (L:List (List Int)):wonS L = .str "weaver" \/ wonS L = .str "moth" \/ wonS L = .non:=by
 unfold wonS
 split
 ·exact .inl rfl
 ·split
  ·exact .inr (.inl rfl)
  ·exact .inr (.inr rfl)
noncomputable def Ff (kn bt:Int -> Bool) (Rb:List (List Int)):List (List Int):=(Rb.filter fun s => !s.any bt).map fun s => s.filter fun x => !kn x
noncomputable def tkB (w:Bool) (o:Bool):Nat -> List Int -> Int -> Bool
 | _,[],_ => false
 | k,h :: t,x => (decide (x = h) && (hat o k == w)) || tkB w o (k + 1) t x
theorem tkB_not {w o:Bool}:∀ {t:List Int} {k:Nat} {x:Int},x ∉ t -> tkB w o k t x = false
 | [],_,_,_ => rfl
 | h :: t,k,x,hx => by
  rw [List.mem_cons] at hx
  rw [tkB,tkB_not fun z => hx (.inr z),decide_eq_false fun z => hx (.inl z)]
  rfl
theorem Ff_knot {kn bt:Int -> Bool} {h:Int} (hb:bt h = false) (Rb:List (List Int)):Ff kn bt (Rb.map (drp h)) = Ff (fun x => decide (x = h) || kn x) bt Rb:=by
 unfold Ff
 rw [List.filter_map,List.map_map]
 have e1:((fun s:List Int => !s.any bt) ∘ drp h) = fun s => !s.any bt:=by
  funext s
  show (!(drp h s).any bt) = !s.any bt
  congr 1
  rw [Bool.eq_iff_iff,List.any_eq_true,List.any_eq_true]
  refine ⟨fun ⟨x,hx,q⟩ => ⟨x,(mem_drp.mp hx).1,q⟩,fun ⟨x,hx,q⟩ => ⟨x,mem_drp.mpr ⟨hx,fun z => ?_⟩,q⟩⟩
  rw [z,hb] at q
  cases q
 rw [e1]
 refine List.map_congr_left fun s _ => ?_
 show (drp h s).filter _ = _
 unfold drp
 rw [List.filter_filter]
 congr 1
 funext x
 show ((!kn x) && !decide (x = h)) = !(decide (x = h) || kn x)
 cases decide (x = h) <;> cases kn x <;> rfl
theorem Ff_bite {kn bt:Int -> Bool} {h:Int} (Rb:List (List Int)):Ff kn bt (Rb.filter fun ts => !decide (h ∈ ts)) = Ff kn (fun x => decide (x = h) || bt x) Rb:=by
 unfold Ff
 rw [List.filter_filter]
 congr 1
 congr 1
 funext s
 have:(s.any fun x => decide (x = h) || bt x) = (decide (h ∈ s) || s.any bt):=by
  rw [Bool.eq_iff_iff,List.any_eq_true,Bool.or_eq_true,List.any_eq_true,decide_eq_true_iff]
  constructor
  ·rintro ⟨x,hx,q⟩
   rcases Bool.or_eq_true_iff.mp q with q | q
   ·exact .inl (of_decide_eq_true q ▸ hx)
   ·exact .inr ⟨x,hx,q⟩
  ·rintro (q | ⟨x,hx,q⟩)
   ·exact ⟨h,q,by simp⟩
   ·exact ⟨x,hx,by simp [q]⟩
 rw [this]
 cases decide (h ∈ s) <;> cases s.any bt <;> rfl
theorem lft_eq (o:Bool):∀ (t:List Int) (k:Nat) (Rb:List (List Int)),t.Nodup -> lft o k (sortT Rb) t = sortT (Ff (tkB false o k t) (tkB true o k t) Rb)
 | [],k,Rb,_ => by
  unfold lft Ff
  have e:(Rb.filter fun s => !s.any (tkB true o k [])) = Rb:=List.filter_eq_self.mpr fun s _ => by
   have:s.any (tkB true o k []) = false:=by rw [List.any_eq_false]; intro x _ z; cases z
   rw [this]
   rfl
  rw [e]
  have e2:(Rb.map fun s => s.filter fun x => !tkB false o k [] x) = Rb.map id:=List.map_congr_left fun s _ => List.filter_eq_self.mpr fun x _ => rfl
  rw [e2,List.map_id]
 | h :: t,k,Rb,nd => by
  obtain ⟨n1,n2⟩:=List.nodup_cons.mp nd
  rw [lft]
  cases e:hat o k with
  | false =>
   have e1:bhd false (sortT Rb) (some h) = sortT (Rb.map (drp h)):=sortT_of_perm ((sortT_perm Rb).map _)
   rw [e1,lft_eq o t (k + 1) _ n2,Ff_knot (tkB_not n1)]
   congr 2
   ·funext x
    rw [tkB,e]
    simp
   ·funext x
    rw [tkB,e]
    simp
  | true =>
   have e1:bhd true (sortT Rb) (some h) = sortT (Rb.filter fun ts => !decide (h ∈ ts)):=by
    show (sortT Rb).filter _ = _
    rw [<- sortT_id ((sortT_rises Rb).filter fun ts => !decide (h ∈ ts))]
    exact sortT_of_perm ((sortT_perm Rb).filter _)
   rw [e1,lft_eq o t (k + 1) _ n2,Ff_bite]
   congr 2
   ·funext x
    rw [tkB,e]
    simp
   ·funext x
    rw [tkB,e]
    simp
noncomputable def tb (t:List Int) (b:Int):List Int:=((List.range t.length).filter fun (k:Nat) => decide ((k:Int) % 2 = b)).map fun k => t.getD k 0
theorem tb_len (t:List Int) (b:Int):(tb t b).length <= t.length:=by
 unfold tb
 rw [List.length_map]
 exact Nat.le_trans (List.length_filter_le _ _) (by rw [List.length_range]; exact Nat.le_refl _)
theorem tkB_iff (w o:Bool):∀ (t:List Int) (k:Nat) (x:Int),tkB w o k t x = true ↔ ∃ i,t[i]? = some x /\ hat o (k + i) = w
 | [],k,x => ⟨fun z => (by cases z),fun ⟨i,h,_⟩ => (by simp at h)⟩
 | h :: t,k,x => by
  rw [tkB,Bool.or_eq_true,Bool.and_eq_true,decide_eq_true_iff,beq_iff_eq,tkB_iff w o t (k + 1) x]
  constructor
  ·rintro (⟨rfl,e⟩ | ⟨i,e1,e2⟩)
   ·exact ⟨0,rfl,e⟩
   ·exact ⟨i + 1,by simpa using e1,by rw [<- e2]; congr 1; omega⟩
  ·rintro ⟨i,e1,e2⟩
   cases i with
   | zero => simp at e1; exact .inl ⟨e1.symm,e2⟩
   | succ i => exact .inr ⟨i,by simpa using e1,by rw [<- e2]; congr 1; omega⟩
theorem tb_mem {t:List Int} {b x:Int}:x ∈ tb t b ↔ ∃ i:Nat,t[i]? = some x /\ (i:Int) % 2 = b:=by
 unfold tb
 rw [List.mem_map]
 constructor
 ·rintro ⟨k,hk,rfl⟩
  obtain ⟨h1,h2⟩:=List.mem_filter.mp hk
  have h1:k < t.length:=by simpa using h1
  exact ⟨k,by simp [List.getD,h1],of_decide_eq_true h2⟩
 ·rintro ⟨i,e1,e2⟩
  have h1:i < t.length:=(List.getElem?_eq_some_iff.mp e1).1
  refine ⟨i,List.mem_filter.mpr ⟨by simpa using h1,decide_eq_true e2⟩,?_⟩
  simp [List.getD,e1]
theorem tkB_tb {o:Bool} {b:Int} (hb:b = if o = true then 1 else 0) (t:List Int):(tkB false o 0 t = fun x => decide (x ∈ sortI (tb t b))) /\ tkB true o 0 t = fun x => decide (x ∈ sortI (tb t (1 - b))):=by
 constructor
 ·funext x
  rw [Bool.eq_iff_iff,tkB_iff,decide_eq_true_iff,mem_sortI,tb_mem]
  refine ⟨fun ⟨i,e1,e2⟩ => ⟨i,e1,?_⟩,fun ⟨i,e1,e2⟩ => ⟨i,e1,?_⟩⟩
  ·rw [Nat.zero_add] at e2
   unfold hat at e2
   subst hb
   cases o <;> simp at e2 ⊢ <;> omega
  ·rw [Nat.zero_add]
   unfold hat
   subst hb
   cases o <;> simp at e2 ⊢ <;> omega
 ·funext x
  rw [Bool.eq_iff_iff,tkB_iff,decide_eq_true_iff,mem_sortI,tb_mem]
  refine ⟨fun ⟨i,e1,e2⟩ => ⟨i,e1,?_⟩,fun ⟨i,e1,e2⟩ => ⟨i,e1,?_⟩⟩
  ·rw [Nat.zero_add] at e2
   unfold hat at e2
   subst hb
   cases o <;> simp at e2 ⊢ <;> omega
  ·rw [Nat.zero_add]
   unfold hat
   subst hb
   cases o <;> simp at e2 ⊢ <;> omega
theorem e_taken_byG (n:Nat) (t:List Int) (b:Int) (hl:t.length < 64) (m:MV) (hm:m = .brw (t.map .int) \/ m = .val (ofL t)):callN defs (n + 1) 14 [m,.val (.int b)] = some (ofL (sortI (tb t b))):=by
 rw [call_def (d:=d_law_taken_by) rfl rfl]
 have hl2:(tb t b).length < 64:=Nat.lt_of_le_of_lt (tb_len t b) hl
 have e:ev (callN defs n) (.comp .rng [(.blt .len [(.bor 0)])] [0,1] (.cmp .eq (.bin .mod (.bor 0) (.cst (.int 2))) (.bor 2)) (.idx (.bor 1) (.bor 0))) [some m,some (.val (.int b))] = some (.lst ((tb t b).map .int)):=by
  rw [ev,show evs (callN defs n) [(.blt .len [(.bor 0)])] [some m,some (.val (.int b))] = some [.int t.length] from by rcases hm with rfl | rfl <;> simp [evs,ev],Option.bind_some,src_rng_ok (by omega) (by omega),Option.bind_some,if_pos (by simp; omega),compGo_map (p:=fun (k:Nat) => decide ((k:Int) % 2 = b)) (h:=fun (k:Nat) => .int (t.getD k 0))]
  ·unfold tb
   rw [List.map_map]
   simp only [Int.toNat_natCast]
   rfl
  ·intro k _
   rcases hm with rfl | rfl <;> simp [ev,blkR,beq_dec]
  ·intro k hk _
   have hk:k < t.length:=by simpa using hk
   rcases hm with rfl | rfl <;> simp [ev,blkR,place_lt (show (0:Int) <= (k:Nat) by omega) (show ((k:Nat):Int) < t.length by omega),hk]
 show outOf (exs _ [.ret _] [some _,some _]) = _
 rw [x_ret (v:=ofL (sortI (tb t b)))]
 rw [ev_blt1 e,blt_sorted,seq_lst,Option.bind_some,sort_ints hl2]
theorem e_taken_by (n:Nat) (t:List Int) (b:Int) (hl:t.length < 64):callN defs (n + 1) 14 [.brw (t.map .int),.val (.int b)] = some (ofL (sortI (tb t b))):=e_taken_byG n t b hl _ (.inl rfl)
theorem left_loop (cal:Cal) (K B:List Int) (a:MV):∀ (Rb acc:List (List Int)) (rb:Option MV),(∀ s ∈ Rb,s.length <= 10000) -> acc.length + Rb.length < 10000 ->
  ∃ rb',forGo (fun x ρ' => exs cal b_law_left_1 (put ρ' 4 (.val x))) (Rb.map ofS) [some a,some (.val (ofL K)),some (.val (ofL B)),some (.own (acc.map ofS)),rb]
   = .next [some a,some (.val (ofL K)),some (.val (ofL B)),some (.own ((acc ++ Ff (fun x => decide (x ∈ K)) (fun x => decide (x ∈ B)) Rb).map ofS)),rb']
 | [],acc,rb,_,_ => ⟨rb,by simp [Ff]⟩
 | s :: Rb,acc,rb,hs,hl => by
  rw [List.length_cons] at hl
  have h1:=hs s (.head _)
  have e1:∀ ρ:Rho,(ρ[4]?).join = some (.val (ofS s)) -> (ρ[2]?).join = some (.val (ofL B)) -> ev cal (.blt .any [(.comp .seq [(.bor 4)] [2] (.cst (.bl true)) (.cmp .isIn (.bor 0) (.bor 1)))]) ρ = some (.bl (s.any fun x => decide (x ∈ B))):=fun ρ q1 q2 => by
   rw [ev_blt1 (ev_comp (vs:=[ofS s]) (xs:=s) (g:=PV.int) (h:=fun x => .bl (decide (x ∈ B))) (by rw [evs,ev,q1]; rfl) rfl h1 fun x _ => by simp [ev,blkR,q2,isIn_ints]),blt_any]
   have:(s.map fun x => PV.bl (decide (x ∈ B))) = (s.map fun x => decide (x ∈ B)).map PV.bl:=by rw [List.map_map]; rfl
   rw [this,bools?_map,Option.map_some,List.any_map]
   rfl
  have e2:∀ ρ:Rho,(ρ[4]?).join = some (.val (ofS s)) -> (ρ[1]?).join = some (.val (ofL K)) -> ev cal (.blt .tupleOf [(.comp .seq [(.bor 4)] [1] (.cmp .notIn (.bor 0) (.bor 1)) (.var 0))]) ρ = some (ofS (s.filter fun x => !decide (x ∈ K))):=fun ρ q1 q2 => by
   have:ev cal (.comp .seq [(.bor 4)] [1] (.cmp .notIn (.bor 0) (.bor 1)) (.var 0)) ρ = some (.lst ((s.filter fun x => !decide (x ∈ K)).map .int)):=by
    rw [ev,show evs cal [(.bor 4)] ρ = some [ofS s] from by rw [evs,ev,q1]; rfl,Option.bind_some,src_seq,seq_tup,Option.bind_some,if_pos (by simpa using h1),compGo_map (p:=fun x => !decide (x ∈ K)) (h:=PV.int)]
    ·rfl
    ·intro x _
     simp [ev,blkR,q2,isIn_ints]
    ·intro x _ _
     simp [ev,blkR]
   rw [ev_blt1 this]
   rfl
  have e:exs cal b_law_left_1 (put [some a,some (.val (ofL K)),some (.val (ofL B)),some (.own (acc.map ofS)),rb] 4 (.val (ofS s)))
    = .next [some a,some (.val (ofL K)),some (.val (ofL B)),some (.own ((acc ++ Ff (fun x => decide (x ∈ K)) (fun x => decide (x ∈ B)) [s]).map ofS)),some (.val (ofS s))]:=by
   have hlt:acc.length < 10000:=by omega
   simp only [put_succ,put_zero]
   have q1:=e1 [some a,some (.val (ofL K)),some (.val (ofL B)),some (.own (acc.map ofS)),some (.val (ofS s))] rfl rfl
   have q2:=e2 [some a,some (.val (ofL K)),some (.val (ofL B)),some (.own (acc.map ofS)),some (.val (ofS s))] rfl rfl
   cases hb:s.any fun x => decide (x ∈ B) with
   | true =>
    rw [hb] at q1
    have q3:evB cal (.not (.blt .any [(.comp .seq [(.bor 4)] [2] (.cst (.bl true)) (.cmp .isIn (.bor 0) (.bor 1)))])) [some a,some (.val (ofL K)),some (.val (ofL B)),some (.own (acc.map ofS)),some (.val (ofS s))] = some false:=by
     unfold evB
     rw [ev,q1]
     rfl
    rw [b_law_left_1,exs_cons,ex,q3,bindB_some,if_neg (by decide),exs,then_next,exs]
    simp [Ff,hb]
   | false =>
    rw [hb] at q1
    have q3:evB cal (.not (.blt .any [(.comp .seq [(.bor 4)] [2] (.cst (.bl true)) (.cmp .isIn (.bor 0) (.bor 1)))])) [some a,some (.val (ofL K)),some (.val (ofL B)),some (.own (acc.map ofS)),some (.val (ofS s))] = some true:=by
     unfold evB
     rw [ev,q1]
     rfl
    rw [b_law_left_1,exs_cons,ex,q3,bindB_some,if_pos rfl,exs_cons,ex,q2]
    simp [Ff,hb,hlt,exs]
  rw [List.map_cons,forGo_step e]
  obtain ⟨rb',q⟩:=left_loop cal K B a Rb (acc ++ Ff (fun x => decide (x ∈ K)) (fun x => decide (x ∈ B)) [s]) (some (.val (ofS s))) (fun s hs' => hs s (.tail _ hs')) (by
   have:(Ff (fun x => decide (x ∈ K)) (fun x => decide (x ∈ B)) [s]).length <= 1:=by unfold Ff; rw [List.length_map]; exact List.length_filter_le _ _
   rw [List.length_append]
   omega)
  refine ⟨rb',?_⟩
  rw [q,List.append_assoc]
  have:Ff (fun x => decide (x ∈ K)) (fun x => decide (x ∈ B)) [s] ++ Ff (fun x => decide (x ∈ K)) (fun x => decide (x ∈ B)) Rb = Ff (fun x => decide (x ∈ K)) (fun x => decide (x ∈ B)) (s :: Rb):=by
   unfold Ff
   rw [<- List.map_append,<- List.filter_append]
   rfl
  rw [this]
theorem e_left (n:Nat) (Rb:List (List Int)) (K B:List Int) (hs:∀ s ∈ Rb,s.length <= 10000) (hl:Rb.length < 64):callN defs (n + 1) 15 [.val (.lst (Rb.map ofS)),.val (ofL K),.val (ofL B)] = some (ofR (sortT (Ff (fun x => decide (x ∈ K)) (fun x => decide (x ∈ B)) Rb))):=by
 rw [call_def (d:=d_law_left) rfl rfl]
 obtain ⟨rb',e⟩:=left_loop (callN defs n) K B (.val (.lst (Rb.map ofS))) Rb [] none hs (by simp; omega)
 rw [List.nil_append,List.map_nil] at e
 have hl2:(Ff (fun x => decide (x ∈ K)) (fun x => decide (x ∈ B)) Rb).length < 64:=by
  unfold Ff
  rw [List.length_map]
  exact Nat.lt_of_le_of_lt (List.length_filter_le _ _) hl
 simp [d_law_left,exs,ex,ev,evs,evB,lend,e,giveBack,sort_tups hl2]
noncomputable def frl (c:Int) (t:List Int):List Int:=((List.range c.toNat).filter fun (k:Nat) => !decide ((k:Int) ∈ t)).map fun (k:Nat) => (k:Int)
theorem frl_mem {c x:Int} {t:List Int}:x ∈ frl c t ↔ (0 <= x /\ x < c) /\ x ∉ t:=by
 unfold frl
 rw [List.mem_map]
 constructor
 ·rintro ⟨k,hk,rfl⟩
  obtain ⟨h1,h2⟩:=List.mem_filter.mp hk
  have h1:k < c.toNat:=by simpa using h1
  exact ⟨by omega,by simpa using h2⟩
 ·rintro ⟨h1,h2⟩
  have e:((x.toNat:Nat):Int) = x:=by omega
  refine ⟨x.toNat,List.mem_filter.mpr ⟨by simp; omega,?_⟩,e⟩
  rw [e]
  simpa using h2
theorem frl_len {c:Int} {t:List Int}:(frl c t).length <= c.toNat:=by
 unfold frl
 rw [List.length_map]
 exact Nat.le_trans (List.length_filter_le _ _) (by rw [List.length_range]; exact Nat.le_refl _)
theorem e_lfreeG (n:Nat) (c:Int) (t:List Int) (h0:0 <= c) (h1:c <= 60) (hl:t.length <= 60) (m:MV) (hm:m = .brw (t.map .int) \/ m = .val (ofL t)):callN defs (n + 1) 17 [.val (.int c),m] = some (ofL (frl c t)):=by
 rw [call_def (d:=d_law_free) rfl rfl]
 obtain ⟨d,ρ',e,hI,hp,_⟩:=markL (g:=PV.int) (v:=.bl true) (body:=fun x ρ' => exs (callN defs n) b_law_free_1 (put ρ' 3 (.val x))) (I:=fun d ρ => ∃ hh,ρ = [some (.val (.int c)),some m,some (.ownD (.k d)),hh]) (xs:=t)
  (fun x _ d ρ ⟨hh,hI⟩ hd => by
   subst hI
   have hd:d.length < 10000:=by omega
   refine ⟨_,⟨some (.val (.int x)),rfl⟩,?_⟩
   simp [b_law_free_1,exs,ex,ev,hd,sc?])
  (d:=[]) (ρ:=[some (.val (.int c)),some m,some (.ownD (.k [])),none]) (P:=fun _ => False) ⟨none,rfl⟩ ⟨by simp,fun k => by simp⟩ (by simp; omega)
 obtain ⟨hh,rfl⟩:=hI
 have hk:∀ x,(dGetL d x).isSome = decide (x ∈ t):=fun x => by
  cases q:dGetL d x with
  | none =>
   have:=get_none.mp q
   rw [hp.2 x] at this
   rw [decide_eq_false (fun z => this (.inr z))]
   rfl
  | some s =>
   have:x ∈ d.map (·.1):=by
    by_cases z:x ∈ d.map (·.1)
    ·exact z
    ·rw [get_none.mpr z] at q; cases q
   rw [hp.2 x] at this
   rw [decide_eq_true (this.elim False.elim id)]
   rfl
 have hl3:c.toNat <= 10000:=by omega
 have e2:ev (callN defs n) (.comp .rng [(.bor 0)] [2] (.dIn true (.bor 0) (.bor 1)) (.var 0)) [some (.val (.int c)),some m,some (.ownD (.k d)),hh] = some (ofL (frl c t)):=by
  rw [ev,show evs (callN defs n) [(.bor 0)] [some (.val (.int c)),some m,some (.ownD (.k d)),hh] = some [.int c] from by simp [evs,ev],Option.bind_some,src_rng_ok h0 (by omega),Option.bind_some,if_pos (by simpa using hl3),compGo_map (p:=fun (k:Nat) => !decide ((k:Int) ∈ t)) (h:=fun (k:Nat) => .int (k:Int))]
  ·unfold frl
   rw [Option.map_some]
   show some (PV.lst _) = some (PV.lst ((List.map _ _).map PV.int))
   rw [List.map_map]
   rfl
  ·intro k _
   simp [ev,blkR,capOf]
   rw [<- hk]
   cases dGetL d (k:Int) <;> rfl
  ·intro k _ _
   simp [ev,blkR]
 show outOf (exs _ [_,_,.ret _] (some _ :: some _ :: _)) = _
 refine x_next (ρ':=[some (.val (.int c)),some m,some (.ownD (.k [])),none]) rfl ?_
 refine x_next (ρ':=[some (.val (.int c)),some m,some (.ownD (.k d)),hh]) ?_ ?_
 ·rw [ex_for1 (xs:=t.map .int) (by rcases hm with rfl | rfl <;> simp [evs,ev]),show lend [(.bor 1)] [some (.val (.int c)),some m,some (.ownD (.k [])),none] = [some (.val (.int c)),some m,some (.ownD (.k [])),none] from by rcases hm with rfl | rfl <;> rfl,e,back_next]
  rcases hm with rfl | rfl <;> rfl
 ·exact x_ret e2
theorem e_lfree (n:Nat) (c:Int) (t:List Int) (h0:0 <= c) (h1:c <= 60) (hl:t.length <= 60):callN defs (n + 1) 17 [.val (.int c),.brw (t.map .int)] = some (ofL (frl c t)):=e_lfreeG n c t h0 h1 hl _ (.inl rfl)
theorem e_ribbons (n:Nat) (ns:List Int) (c:Int) (h0:0 <= c) (h1:c <= 60):∃ Rb:List (List Int),callN defs (n + 3) 13 [.brw (ns.map .int),.val (.int c)] = some (.lst (Rb.map ofS)) /\ (∀ s ∈ Rb,GoodS s /\ ∀ x ∈ s,0 <= x /\ x < c) /\ Rb.length <= 8:=by
 rw [call_def (d:=d_law_ribbons) rfl rfl]
 by_cases hc:c = 0
 ·subst hc
  exact ⟨[],rfl,fun s hs => (by cases hs),by simp⟩
 ·have hp:0 < c:=by omega
  have ec:=e_cell (n + 1) (.brw (ns.map .int)) ns 1 rfl (by decide)
  generalize cellOf ns 1 = sm at ec
  have q0:0 <= sm % 9:=Int.emod_nonneg _ (by decide)
  have q1:sm % 9 < 9:=Int.emod_lt_of_pos _ (by decide)
  have r0:0 <= sm / 9 % 6:=Int.emod_nonneg _ (by decide)
  have r1:sm / 9 % 6 < 6:=Int.emod_lt_of_pos _ (by decide)
  have hcut:(cutI ns (some 3) (some (3 + sm % 9))).length <= 8:=by have:=cutI_len ns (a:=3) (b:=3 + sm % 9) (by decide) (by omega); omega
  have es:∀ x,callN defs (n + 2) 10 [.val (.int x),.val (.int c),.val (.int (1 + sm / 9 % 6))] = some (ofS (stripOf x c (1 + sm / 9 % 6))):=fun x => e_strip n x c (1 + sm / 9 % 6) hp (by omega) (by omega) (by omega)
  have hne:decide (c = 0) = false:=decide_eq_false hc
  refine ⟨((cutI ns (some 3) (some (3 + sm % 9))).map fun x => stripOf x c (1 + sm / 9 % 6)).filter fun s => !decide (s = []),?_,fun s hs => ?_,?_⟩
  ·have hc2:(c == 0) = false:=by rw [beq_eq_false_iff_ne]; exact hc
   have e1:ev (callN defs (n + 2)) (.comp .seq [(.slice (.bor 0) (.cst (.int 3)) (.bin .add (.cst (.int 3)) (.bin .mod (.bor 2) (.cst (.int 9)))))] [1,2] (.cst (.bl true)) (.call 10 [(.bor 0),(.bor 1),(.bin .add (.cst (.int 1)) (.bin .mod (.bin .fdiv (.bor 2) (.cst (.int 9))) (.cst (.int 6))))])) [some (.brw (ns.map .int)),some (.val (.int c)),some (.val (.int sm)),none] = some (.lst (((cutI ns (some 3) (some (3 + sm % 9))).map fun x => stripOf x c (1 + sm / 9 % 6)).map ofS)):=by
    rw [ev_comp (vs:=[ofL (cutI ns (some 3) (some (3 + sm % 9)))]) (xs:=cutI ns (some 3) (some (3 + sm % 9))) (g:=PV.int) (h:=fun x => ofS (stripOf x c (1 + sm / 9 % 6))) (by simp [evs,ev,bnd]) rfl (by omega) fun x _ => by simp [ev,evA,blkR,es],List.map_map]
    rfl
   have hS:((cutI ns (some 3) (some (3 + sm % 9))).map fun x => stripOf x c (1 + sm / 9 % 6)).length <= 10000:=by rw [List.length_map]; omega
   generalize (cutI ns (some 3) (some (3 + sm % 9))).map (fun x => stripOf x c (1 + sm / 9 % 6)) = S at e1 hS
   have e2:ev (callN defs (n + 2)) (.comp .seq [(.bor 3)] [] (.cmp .ne (.bor 0) (.tup [])) (.var 0)) [some (.brw (ns.map .int)),some (.val (.int c)),some (.val (.int sm)),some (.val (.lst (S.map ofS)))] = some (.lst ((S.filter fun s => !decide (s = [])).map ofS)):=by
    rw [ev,show evs (callN defs (n + 2)) [(.bor 3)] [some (.brw (ns.map .int)),some (.val (.int c)),some (.val (.int sm)),some (.val (.lst (S.map ofS)))] = some [.lst (S.map ofS)] from by simp [evs,ev],Option.bind_some,src_seq,seq_lst,Option.bind_some,if_pos (by simpa using hS),compGo_map (p:=fun s => !decide (s = [])) (h:=ofS)]
    ·rfl
    ·intro s _
     have:eqF 100 (ofS s) (.tup []) = some (decide (s = [])):=eqF_S 99 s []
     simp [ev,evs,blkR,this]
    ·intro s _ _
     simp [ev,blkR]
   show outOf (exs _ [.ite _ _ _,.set 2 _,.set 3 _,.ret _] (some _ :: some _ :: [none,none])) = _
   refine x_next (by rw [ex_ite (p:=false) (by simp [ev,hc2]),if_neg (by decide),exs]) ?_
   refine x_set (v:=.int sm) (by simp [ev,evA,ec]) ?_
   simp only [put_succ,put_zero]
   refine x_set e1 ?_
   simp only [put_succ,put_zero]
   exact x_ret e2
  ·obtain ⟨x,_,rfl⟩:=List.mem_map.mp (List.mem_filter.mp hs).1
   exact ⟨strip_good x c _ hp h1,fun y hy => by have:=(strip_lt x c (1 + sm / 9 % 6) hp).2 y hy; omega⟩
  ·exact Nat.le_trans (List.length_filter_le _ _) (by rw [List.length_map]; exact hcut)
theorem won_none {L:List (List Int)} (h:wonS L = .non):[] ∉ L /\ L ≠ []:=by
 unfold wonS at h
 split at h
 ·cases h
 ·rename_i h1
  split at h
  ·cases h
  ·rename_i h2
   exact ⟨h1,h2⟩
noncomputable def byH (o w:Bool):Nat -> List Int -> List Int
 | _,[] => []
 | k,h :: t => if (hat o k == w) = true then h :: byH o w (k + 1) t else byH o w (k + 1) t
theorem byH_eq (o w:Bool):∀ (t:List Int) (k:Nat),byH o w k t = ((List.range t.length).filter fun (i:Nat) => hat o (k + i) == w).map fun i => t.getD i 0
 | [],k => rfl
 | x :: t,k => by
  rw [byH,List.length_cons,List.range_succ_eq_map,List.filter_cons,List.filter_map]
  have ih:=byH_eq o w t (k + 1)
  have e:(fun (i:Nat) => hat o (k + i) == w) ∘ Nat.succ = fun (i:Nat) => hat o (k + 1 + i) == w:=by
   funext i
   show (hat o (k + (i + 1)) == w) = _
   rw [Nat.add_assoc k 1 i,Nat.add_comm 1 i]
  rw [e,show (hat o (k + 0) == w) = (hat o k == w) from rfl]
  by_cases h:(hat o k == w) = true
  ·rw [if_pos h,if_pos h,List.map_cons,ih,List.map_map]
   rfl
  ·rw [if_neg h,if_neg h,ih,List.map_map]
   rfl
theorem byH_len (o w:Bool):∀ (t:List Int) (k:Nat),(byH o w k t).length <= t.length
 | [],_ => Nat.le_refl _
 | x :: t,k => by
  rw [byH]
  have:=byH_len o w t (k + 1)
  split <;> simp only [List.length_cons] <;> omega
theorem byH_tb {o:Bool} {b:Int} (hb:b = if o = true then 1 else 0) (t:List Int):byH o false 0 t = tb t b /\ byH o true 0 t = tb t (1 - b):=by
 constructor
 ·rw [byH_eq]
  unfold tb
  congr 2
  funext i
  rw [Nat.zero_add,Bool.eq_iff_iff,beq_iff_eq,decide_eq_true_iff]
  unfold hat
  subst hb
  cases o <;> simp <;> omega
 ·rw [byH_eq]
  unfold tb
  congr 2
  funext i
  rw [Nat.zero_add,Bool.eq_iff_iff,beq_iff_eq,decide_eq_true_iff]
  unfold hat
  subst hb
  cases o <;> simp <;> omega
theorem enum_len:∀ (ys:List PV) (k:Nat),(enumFrom k ys).length = ys.length
 | [],_ => rfl
 | y :: ys,k => by rw [enumFrom,List.length_cons,List.length_cons,enum_len ys (k + 1)]
theorem by_go (o w:Bool) (c:PV -> Option Bool) (f:PV -> Option PV) (hc:∀ (k:Nat) (x:Int),c (.tup [.int (k:Nat),.int x]) = some (hat o k == w)) (hf:∀ (k:Nat) (x:Int),f (.tup [.int (k:Nat),.int x]) = some (.int x)):∀ (t:List Int) (k:Nat),compGo c f (enumFrom k (t.map .int)) = some ((byH o w k t).map .int)
 | [],_ => rfl
 | x :: t,k => by
  rw [List.map_cons,enumFrom,compGo,hc,Option.bind_some,byH,by_go o w c f hc hf t (k + 1)]
  split
  ·rw [hf,Option.bind_some]; rfl
  ·rfl
theorem handS_beq (a b:Bool):(handS a == handS b) = (a == b):=by cases a <;> cases b <;> simp [handS,str_beq]
theorem e_holes_by (n:Nat) (c:Int) (R:List (List Int)) (o w:Bool) (t:List Int) (hl:t.length < 64):callN defs (n + 3) 22 [.brwO (tbl c R o) (t.map .int),.val (.str (handS w))] = some (ofL (sortI (byH o w 0 t))):=by
 rw [call_def (d:=d_Table_holes_taken_by) rfl rfl]
 have e0:=fun k => e_hand_at n (.int c) (ofR R) (t.map .int) o k
 have e:ev (callN defs (n + 2)) (.comp2 [(.fldL 0)] [0,1] (.cmp .eq (.callM 21 2 [(.bor 0)]) (.bor 3)) (.var 1)) [some (.brwO (tbl c R o) (t.map .int)),some (.val (.str (handS w)))] = some (.lst ((byH o w 0 t).map .int)):=by
  rw [ev,show evs (callN defs (n + 2)) [(.fldL 0)] [some (.brwO (tbl c R o) (t.map .int)),some (.val (.str (handS w)))] = some [.lst (t.map .int)] from by simp [evs,ev,lentL],Option.bind_some,show srcOf .enm [.lst (t.map PV.int)] = some (enumFrom 0 (t.map .int)) from rfl,Option.bind_some,if_pos (by rw [enum_len,List.length_map]; omega),by_go o w]
  ·rfl
  ·intro k x
   simp [ev,evA,blk2,capOf,obOf,e0,handS_beq]
  ·intro k x
   simp [ev,blk2]
 have hl2:(byH o w 0 t).length < 64:=Nat.lt_of_le_of_lt (byH_len o w t 0) hl
 show outOf (exs _ [.ret _] [some _,some _]) = _
 rw [x_ret (v:=ofL (sortI (byH o w 0 t)))]
 rw [ev_blt1 e,blt_sorted,seq_lst,Option.bind_some,sort_ints hl2]
theorem e_deeds (n:Nat) (fs:List PV) (t:List Int):callN defs (n + 1) 24 [.brwO fs (t.map .int)] = some (ofL t):=by
 rw [call_def (d:=d_Table_deeds) rfl rfl]
 simp [d_Table_deeds,exs,ex,ev,evs,lentL]
theorem e_turn (n:Nat) (c:Int) (R:List (List Int)) (o:Bool) (t:List Int):callN defs (n + 3) 23 [.brwO (tbl c R o) (t.map .int)] = some (.str (handS (hat o t.length))):=by
 rw [call_def (d:=d_Table_turn) rfl rfl]
 have e:=e_hand_at n (.int c) (ofR R) (t.map .int) o t.length
 simp [d_Table_turn,exs,ex,ev,evs,evA,lentL,obOf,e]
theorem e_whole (n:Nat) (i:Int):callN defs (n + 1) 11 [.val (.int i)] = some (.bl true):=by
 rw [call_def (d:=d_law_whole) rfl rfl]
 simp [d_law_whole,exs,ex,ev,evs]
theorem numbers_loop (n:Nat) (a:List Int):∀ (ks:List Nat) (kk:Option MV),(∀ k ∈ ks,k < a.length) ->
  ∃ kk',forGo (fun x ρ' => exs (callN defs (n + 1)) b_law_numbers_1 (put ρ' 2 (.val x))) (ks.map fun (k:Nat) => .int (k:Int)) [some (.val (ofL a)),some (.val (ofL a)),kk] = .next [some (.val (ofL a)),some (.val (ofL a)),kk']
 | [],kk,_ => ⟨kk,rfl⟩
 | k :: ks,kk,h => by
  have hk:=h k (.head _)
  have e1:place (a.map PV.int).length ((k:Nat):Int) = some k:=by rw [place_lt (by omega) (by rw [List.length_map]; omega)]; simp
  have e2:=e_whole n a[k]
  have e:exs (callN defs (n + 1)) b_law_numbers_1 (put [some (.val (ofL a)),some (.val (ofL a)),kk] 2 (.val (.int (k:Nat)))) = .next [some (.val (ofL a)),some (.val (ofL a)),some (.val (.int (k:Nat)))]:=by
   rw [List.length_map] at e1
   simp [b_law_numbers_1,exs,ex,ev,evs,evB,evA,e1,hk,e2]
  rw [List.map_cons,forGo_step e]
  exact numbers_loop n a ks _ fun j hj => h j (.tail _ hj)
theorem e_numbers (n:Nat) (a:List Int) (hl:a.length <= 60):callN defs (n + 2) 12 [.val (ofL a),.val (ofL a)] = some (.bl true):=by
 rw [call_def (d:=d_law_numbers) rfl rfl]
 obtain ⟨kk',e⟩:=numbers_loop n a (List.range a.length) none fun k hk => by simpa using hk
 have e2:srcOf .rng [.int (a.length:Nat)] = some ((List.range a.length).map fun (k:Nat) => .int (k:Int)):=by rw [src_rng_ok (by omega) (by omega),Int.toNat_natCast]
 show outOf (exs _ [.ite _ _ _,.for1 _ _ _ _,.ret _] (some _ :: some _ :: [none])) = _
 refine x_next (by rw [ex_ite (p:=false) (by simp [ev,evs]),if_neg (by decide),exs]) ?_
 refine x_next (ρ':=[some (.val (ofL a)),some (.val (ofL a)),kk']) ?_ (x_ret (by rw [ev]))
 rw [ex_for1 (xs:=(List.range a.length).map fun (k:Nat) => .int (k:Int)) (by rw [show evs (callN defs (n + 1)) [(.blt .len [(.bor 1)])] [some (.val (ofL a)),some (.val (ofL a)),none] = some [.int (a.length:Nat)] from by simp [evs,ev],Option.bind_some,e2]),show lend [(.blt .len [(.bor 1)])] [some (.val (ofL a)),some (.val (ofL a)),none] = [some (.val (ofL a)),some (.val (ofL a)),none] from rfl,e,back_next]
 rfl
theorem e_freeL (n:Nat) (c:Int) (R:List (List Int)) (o:Bool) (t:List Int) (h0:0 <= c) (h1:c <= 60):callN defs (n + 1) 27 [.brwO (tbl c R o) (t.map .int)] = some (ofL (frl c t)):=by
 rw [call_def (d:=d_Table_free) rfl rfl]
 have hl:c.toNat <= 10000:=by omega
 have e:ev (callN defs n) (.comp .rng [(.fld 0 0)] [0] (.cmp .notIn (.bor 0) (.fldL 1)) (.var 0)) [some (.brwO (tbl c R o) (t.map .int))] = some (ofL (frl c t)):=by
  rw [ev,show evs (callN defs n) [(.fld 0 0)] [some (.brwO (tbl c R o) (t.map .int))] = some [.int c] from by simp [evs,ev,obOf],Option.bind_some,src_rng_ok h0 (by omega),Option.bind_some,if_pos (by simpa using hl),compGo_map (p:=fun (k:Nat) => !decide ((k:Int) ∈ t)) (h:=fun (k:Nat) => .int (k:Int))]
  ·unfold frl
   rw [Option.map_some]
   show some (PV.lst _) = some (PV.lst ((List.map _ _).map PV.int))
   rw [List.map_map]
   rfl
  ·intro k _
   simp [ev,blkR,capOf,lentL,isIn_ints]
  ·intro k _ _
   simp [ev,blkR]
 show outOf (exs _ [.ret _] [some _]) = _
 rw [x_ret e]
theorem e_knots (n:Nat) (c:Int) (R:List (List Int)) (o:Bool) (t:List Int) (hl:t.length < 64):callN defs (n + 4) 25 [.brwO (tbl c R o) (t.map .int)] = some (ofL (sortI (byH o false 0 t))):=by
 rw [call_def (d:=d_Table_knots) rfl rfl]
 have e:=e_holes_by n c R o false t hl
 rw [show handS false = ("weaver":PySem.Str) from rfl] at e
 simp [d_Table_knots,exs,ex,ev,evs,evA,obOf,e]
theorem e_bites (n:Nat) (c:Int) (R:List (List Int)) (o:Bool) (t:List Int) (hl:t.length < 64):callN defs (n + 4) 26 [.brwO (tbl c R o) (t.map .int)] = some (ofL (sortI (byH o true 0 t))):=by
 rw [call_def (d:=d_Table_bites) rfl rfl]
 have e:=e_holes_by n c R o true t hl
 rw [show handS true = ("moth":PySem.Str) from rfl] at e
 simp [d_Table_bites,exs,ex,ev,evs,evA,obOf,e]
noncomputable def askd (c:Int) (o:Bool) (t:List Int) (w:Int):List Int:=if w = 0 then t else if w = 1 then sortI (byH o false 0 t) else if w = 2 then sortI (byH o true 0 t) else frl c t
theorem e_asked (n:Nat) (c:Int) (R:List (List Int)) (o:Bool) (t:List Int) (h0:0 <= c) (h1:c <= 60) (hl:t.length < 64) (w:Int) (hw:w = 0 \/ w = 1 \/ w = 2 \/ w = 3) :
  callN defs (n + 5) 18 [.brwO (tbl c R o) (t.map .int),.val (.int w)] = some (ofL (askd c o t w)):=by
 rw [call_def (d:=d_law_asked) rfl rfl]
 have e1:=e_deeds (n + 3) (tbl c R o) t
 have e2:=e_knots n c R o t hl
 have e3:=e_bites n c R o t hl
 have e4:=e_freeL (n + 3) c R o t h0 h1
 rcases hw with rfl | rfl | rfl | rfl
 ·simp [d_law_asked,exs,ex,ev,evs,evB,evA,obOf,e1,askd]
 ·simp [d_law_asked,exs,ex,ev,evs,evB,evA,obOf,e2,askd]
 ·simp [d_law_asked,exs,ex,ev,evs,evB,evA,obOf,e3,askd]
 ·simp [d_law_asked,exs,ex,ev,evs,evB,evA,obOf,e4,askd]
theorem right_turn (cal:Cal) (fs xs:List PV) (tk cn bg:MV) (ord:Int) (A:Int -> List Int) (hd:Option MV) (x:Int) (wh:Option MV) (kk:Option MV)
  (ea:∀ w,(w = 0 \/ w = 1 \/ w = 2 \/ w = 3) -> cal 18 [.brwO fs xs,.val (.int w)] = some (ofL (A w))) (en:∀ w,(w = 0 \/ w = 1 \/ w = 2 \/ w = 3) -> cal 12 [.val (ofL (A w)),.val (ofL (A w))] = some (.bl true)) :
  exs cal b_law_right_1 [some (.brwO fs xs),some cn,some tk,some bg,some (.val (.int ord)),some (.val (.lst [ofL (A 0),ofL (A 1),ofL (A 2),ofL (A 3)])),some (.val (.int x)),wh,hd]
   = .next [some (.brwO fs xs),some cn,some tk,some bg,some (.val (.int ord)),some (.val (.lst [ofL (A 0),ofL (A 1),ofL (A 2),ofL (A 3)])),some (.val (.int x)),some (.val (.int ((x + ord) % 4))),hd]:=by
 have h0:0 <= (x + ord) % 4:=Int.emod_nonneg _ (by decide)
 have h1:(x + ord) % 4 < 4:=Int.emod_lt_of_pos _ (by decide)
 refine n_set (v:=.int ((x + ord) % 4)) (by simp [ev]) ?_
 simp only [put_succ,put_zero]
 generalize (x + ord) % 4 = w at h0 h1
 have hw:w = 0 \/ w = 1 \/ w = 2 \/ w = 3:=by omega
 have e1:=ea w hw
 have e2:=en w hw
 refine n_end ?_
 rw [ex_ite (p:=false),if_neg (by decide),exs]
 rcases hw with rfl | rfl | rfl | rfl <;> simp [ev,evA,argOf,place,e1,e2]
theorem right4 (cal:Cal) (fs xs:List PV) (tk cn bg:MV) (ord:Int) (A:Int -> List Int)
  (ea:∀ w,(w = 0 \/ w = 1 \/ w = 2 \/ w = 3) -> cal 18 [.brwO fs xs,.val (.int w)] = some (ofL (A w))) (en:∀ w,(w = 0 \/ w = 1 \/ w = 2 \/ w = 3) -> cal 12 [.val (ofL (A w)),.val (ofL (A w))] = some (.bl true)) :
  forGo (fun x ρ' => exs cal b_law_right_1 (put ρ' 6 (.val x))) [.int 0,.int 1,.int 2,.int 3] [some (.brwO fs xs),some cn,some tk,some bg,some (.val (.int ord)),some (.val (.lst [ofL (A 0),ofL (A 1),ofL (A 2),ofL (A 3)])),none,none,none]
   = .next [some (.brwO fs xs),some cn,some tk,some bg,some (.val (.int ord)),some (.val (.lst [ofL (A 0),ofL (A 1),ofL (A 2),ofL (A 3)])),some (.val (.int 3)),some (.val (.int ((3 + ord) % 4))),none]:=by
 refine (forGo_step (right_turn cal fs xs tk cn bg ord A none 0 none none ea en)).trans ?_
 refine (forGo_step (right_turn cal fs xs tk cn bg ord A none 1 _ none ea en)).trans ?_
 refine (forGo_step (right_turn cal fs xs tk cn bg ord A none 2 _ none ea en)).trans ?_
 exact (forGo_step (right_turn cal fs xs tk cn bg ord A none 3 _ none ea en)).trans rfl
theorem right_run (cal:Cal) (fs:List PV) (t:List Int) (c b ord:Int) (w:Bool) (a0 a1 a2 a3:List Int) (ρ4:MV) (e1:cal 14 [.val (ofL t),.val (.int b)] = some (ofL a1)) (e2:cal 14 [.val (ofL t),.val (.int (1 - b))] = some (ofL a2)) (e3:cal 17 [.val (.int c),.val (ofL t)] = some (ofL a3)) (h0:a0 = t)
  (e4:cal 23 [.brwO fs (t.map .int)] = some (.str (handS w))) (hi:((t.length:Int) + b) % 2 = if w = true then 1 else 0)
  (er:forGo (fun x ρ' => exs cal b_law_right_1 (put ρ' 6 (.val x))) [.int 0,.int 1,.int 2,.int 3] [some (.brwO fs (t.map .int)),some (.val (.int c)),some (.val (ofL t)),some (.val (.int b)),some (.val (.int ord)),some (.val (.lst [ofL a0,ofL a1,ofL a2,ofL a3])),none,none,none]
   = .next [some (.brwO fs (t.map .int)),some (.val (.int c)),some (.val (ofL t)),some (.val (.int b)),some (.val (.int ord)),some (.val (.lst [ofL a0,ofL a1,ofL a2,ofL a3])),some (.val (.int 3)),some ρ4,none]) :
  outOf (exs cal d_law_right.body [some (.brwO fs (t.map .int)),some (.val (.int c)),some (.val (ofL t)),some (.val (.int b)),some (.val (.int ord)),none,none,none,none]) = some (.bl true):=by
 show outOf (exs _ [.set 5 _,.for1 6 .rng _ _,.set 8 _,.ret _] _) = _
 refine x_set (v:=.lst [ofL a0,ofL a1,ofL a2,ofL a3]) ?_ ?_
 ·rw [h0]
  simp [ev,evs,evA,e1,e2,e3]
 simp only [put_succ,put_zero]
 refine x_next (ρ':=[some (.brwO fs (t.map .int)),some (.val (.int c)),some (.val (ofL t)),some (.val (.int b)),some (.val (.int ord)),some (.val (.lst [ofL a0,ofL a1,ofL a2,ofL a3])),some (.val (.int 3)),some ρ4,none]) ?_ ?_
 ·rw [ex_for1 (xs:=[.int 0,.int 1,.int 2,.int 3]) (by rw [evs,ev_cst,Option.bind_some,evs,Option.map_some,Option.bind_some,src_rng_ok (by omega) (by omega)]; rfl)]
  rw [show ∀ ρ:Rho,lend [(.cst (.int 4))] ρ = ρ from fun _ => rfl,er,back_next]
  rfl
 refine x_set (v:=.str (handS w)) (by simp [ev,evA,obOf,e4]) ?_
 simp only [put_succ,put_zero]
 refine x_ret ?_
 rw [ev_and (p:=true) (q:=true) (by simp [ev,evs]) fun _ => ?_]
 ·rfl
 rw [ev_cmp (x:=.str (handS w)) (y:=.str (handS w)) (by rw [ev]; rfl)]
 ·simp
 rw [ev_idx (x:=.lst [.str "weaver",.str "moth"]) (y:=.int (((t.length:Int) + b) % 2)) (by simp [ev,evs]) (by simp [ev,evs]),hi,idx_L]
 cases w <;> rfl
theorem e_right (n:Nat) (c:Int) (R:List (List Int)) (o:Bool) (t:List Int) (b ord:Int) (hb:b = if o = true then 1 else 0) (h0:0 <= c) (h1:c <= 60) (hl:t.length <= 60) :
  callN defs (n + 6) 19 [.brwO (tbl c R o) (t.map .int),.val (.int c),.val (ofL t),.val (.int b),.val (.int ord)] = some (.bl true):=by
 rw [call_def (d:=d_law_right) rfl rfl]
 have e1:=e_taken_byG (n + 4) t b (by omega) _ (.inr rfl)
 have e2:=e_taken_byG (n + 4) t (1 - b) (by omega) _ (.inr rfl)
 have e3:=e_lfreeG (n + 4) c t h0 h1 hl _ (.inr rfl)
 rw [<- (byH_tb hb t).1] at e1
 rw [<- (byH_tb hb t).2] at e2
 have e4:=e_turn (n + 2) c R o t
 have hA:∀ w,(askd c o t w).length <= 60:=fun w => by
  unfold askd
  have q1:=byH_len o false t 0
  have q2:=byH_len o true t 0
  have q3:=frl_len (c:=c) (t:=t)
  split
  ·exact hl
  ·split
   ·rw [sortI_len]; omega
   ·split
    ·rw [sortI_len]; omega
    ·omega
 have er:=right4 (callN defs (n + 5)) (tbl c R o) (t.map .int) (.val (ofL t)) (.val (.int c)) (.val (.int b)) ord (askd c o t) (fun w hw => e_asked n c R o t h0 h1 (by omega) w hw) (fun w _ => e_numbers (n + 3) (askd c o t w) (hA w))
 have hi:((t.length:Int) + b) % 2 = if hat o t.length = true then 1 else 0:=by
  subst hb
  unfold hat
  cases o <;> simp <;> split <;> simp_all <;> omega
 have d0:askd c o t 0 = t:=by unfold askd; rw [if_pos rfl]
 have d1:askd c o t 1 = sortI (byH o false 0 t):=by unfold askd; rw [if_neg (by decide),if_pos rfl]
 have d2:askd c o t 2 = sortI (byH o true 0 t):=by unfold askd; rw [if_neg (by decide),if_neg (by decide),if_pos rfl]
 have d3:askd c o t 3 = frl c t:=by unfold askd; rw [if_neg (by decide),if_neg (by decide),if_neg (by decide)]
 rw [<- d1] at e1
 rw [<- d2] at e2
 rw [<- d3] at e3
 exact right_run (callN defs (n + 5)) (tbl c R o) t c b ord (hat o t.length) _ _ _ _ _ e1 e2 e3 d0 e4 hi er
theorem pick_of (cal:Cal) (fr:List Int) (cell:Int) (hne:fr ≠ []):∃ h,h ∈ fr /\ ∀ ρ:Rho,(ρ[8]?).join = some (.val (.int cell)) -> (ρ[9]?).join = some (.val (ofL fr)) -> ev cal (.idx (.bor 9) (.bin .mod (.bor 8) (.blt .len [(.bor 9)]))) ρ = some (.int h):=by
 have hp:0 < (fr.length:Int):=by
  have:=List.length_pos_iff.mpr hne
  omega
 have q0:0 <= cell % (fr.length:Int):=Int.emod_nonneg _ (by omega)
 have q1:cell % (fr.length:Int) < fr.length:=Int.emod_lt_of_pos _ hp
 have q2:(cell % (fr.length:Int)).toNat < fr.length:=by omega
 refine ⟨fr[(cell % (fr.length:Int)).toNat],List.getElem_mem q2,fun ρ r1 r2 => ?_⟩
 have e1:ev cal (.bin .mod (.bor 8) (.blt .len [(.bor 9)])) ρ = some (.int (cell % (fr.length:Int))):=by
  simp [ev,evs,r1,r2,hp,hne]
 rw [ev_idx (x:=ofL fr) (by rw [ev,r2]; rfl) e1]
 show (place (fr.map PV.int).length _).bind (fun j => (fr.map PV.int)[j]?) = _
 rw [place_lt q0 (by rw [List.length_map]; exact q1),Option.bind_some,List.getElem?_map,List.getElem?_eq_getElem q2]
 rfl
theorem law_turn (cal:Cal) (sc lm:MV) (c b x hh:Int) (Rb L2:List (List Int)) (fs:List PV) (t fr:List Int) (f:Option MV) (w sv:Sc) (K1 K2:PV) (er:cal 19 [.brwO fs (t.map .int),.val (.int c),.val (ofL t),.val (.int b),.val (.int (x / 60))] = some (.bl true))
  (ef:cal 17 [.val (.int c),.brw (t.map .int)] = some (ofL fr)) (ep:∀ ρ:Rho,(ρ[8]?).join = some (.val (.int x)) -> (ρ[9]?).join = some (.val (ofL fr)) -> ev cal (.idx (.bor 9) (.bin .mod (.bor 8) (.blt .len [(.bor 9)]))) ρ = some (.int hh))
  (et:cal (30 + 3000) [.ownO true fs (t.map .int),.val (.int hh)] = some (.tup [w.pv,.lst ((t ++ [hh]).map .int)])) (hsc:sc? w.pv = some sv) (ek1:cal 14 [.brw ((t ++ [hh]).map .int),.val (.int b)] = some K1) (ek2:cal 14 [.brw ((t ++ [hh]).map .int),.val (.int (1 - b))] = some K2)
  (el:cal 15 [.val (.lst (Rb.map ofS)),.val K1,.val K2] = some (ofR L2)) (ew:cal 16 [.val (ofR L2)] = some w.pv) (hlt:t.length < 10000) :
  exs cal b_law_1 [some sc,some (.val (.int c)),some (.val (.lst (Rb.map ofS))),some lm,some (.val (.int b)),some (.ownO false fs (t.map .int)),some (.own (t.map .int)),some (.val .non),some (.val (.int x)),f]
   = .next [some sc,some (.val (.int c)),some (.val (.lst (Rb.map ofS))),some lm,some (.val (.int b)),some (.ownO false fs ((t ++ [hh]).map .int)),some (.own ((t ++ [hh]).map .int)),some (.val w.pv),some (.val (.int x)),some (.val (ofL fr))]:=by
 refine n_end ?_
 rw [ex_ite (p:=true) (by simp [ev,isNon]),if_pos rfl]
 have ed:∀ ρ:Rho,(ρ[8]?).join = some (.val (.int x)) -> ev cal (.bin .fdiv (.bor 8) (.cst (.int 60))) ρ = some (.int (x / 60)):=fun ρ q => ev_fdiv (by rw [ev,q]; rfl) (by decide)
 refine n_next (by rw [ex_ite (p:=false) (by simp [ev,evA,argOf,unB,er,sc?]),if_neg (by decide),exs]) ?_
 refine n_set (v:=ofL fr) (by simp [ev,evA,argOf,ef]) ?_
 simp only [put_succ,put_zero]
 refine n_next (ρ':=[some sc,some (.val (.int c)),some (.val (.lst (Rb.map ofS))),some lm,some (.val (.int b)),some (.ownO false fs ((t ++ [hh]).map .int)),some (.own (t.map .int)),some (.val .non),some (.val (.int x)),some (.val (ofL fr))]) ?_ ?_
 ·have p1:=ep [some sc,some (.val (.int c)),some (.val (.lst (Rb.map ofS))),some lm,some (.val (.int b)),some (.ownO false fs (t.map .int)),some (.own (t.map .int)),some (.val .non),some (.val (.int x)),some (.val (ofL fr))] rfl rfl
  rw [ex]
  simp only [evs,p1,List.getElem?_cons_succ,List.getElem?_cons_zero,Option.join_some,Option.bind_some,Option.map_some,List.map_cons,List.map_nil,et,hsc]
  rfl
 refine n_next (ρ':=[some sc,some (.val (.int c)),some (.val (.lst (Rb.map ofS))),some lm,some (.val (.int b)),some (.ownO false fs ((t ++ [hh]).map .int)),some (.own ((t ++ [hh]).map .int)),some (.val .non),some (.val (.int x)),some (.val (ofL fr))]) ?_ ?_
 ·rw [ex,ep _ rfl rfl]
  simp [hlt]
 refine n_end ?_
 rw [ex_set (v:=w.pv) (by simp [-List.map_append,ev,evA,argOf,ek1,ek2,el,ew])]
 simp only [put_succ,put_zero]
theorem law_skip (cal:Cal) (v:PV) (ρ:Rho) (h7:(ρ[7]?).join = some (.val v)) (hv:isNon v = false):exs cal b_law_1 ρ = .next ρ:=by
 refine n_end ?_
 rw [ex_ite (p:=false),if_neg (by decide),exs]
 rw [ev_cmp (x:=v) (by rw [ev,h7]; rfl) (ev_cst _ _ _),cmp_isN,hv]
 rfl
theorem law_loop (n:Nat) (sc lm:MV) (c:Int) (Rb:List (List Int)) (o:Bool) (b:Int) (hb:b = if o = true then 1 else 0) (h0:0 <= c) (h1:c <= 60) (hR:∀ s ∈ Rb,GoodS s /\ ∀ x ∈ s,0 <= x /\ x < c) (hl:Rb.length <= 8) (g:GoodR (sortT Rb)) :
  ∀ (cs:List Int) (t:List Int) (k f:Option MV),t.Nodup -> t.length + cs.length <= 60 ->
  ∃ (t':List Int) (w' k' f':Option MV),t'.length <= 60 /\ forGo (fun x ρ' => exs (callN defs (n + 7)) b_law_1 (put ρ' 8 (.val x))) (cs.map .int) [some sc,some (.val (.int c)),some (.val (.lst (Rb.map ofS))),some lm,some (.val (.int b)),some (.ownO false (tbl c (sortT Rb) o) (t.map .int)),some (.own (t.map .int)),some (.val (wonS (lft o 0 (sortT Rb) t)).pv),k,f]
   = .next [some sc,some (.val (.int c)),some (.val (.lst (Rb.map ofS))),some lm,some (.val (.int b)),some (.ownO false (tbl c (sortT Rb) o) (t'.map .int)),some (.own (t'.map .int)),w',k',f']
 | [],t,k,f,_,hlen => ⟨t,_,k,f,by simpa using hlen,rfl⟩
 | x :: cs,t,k,f,nd,hlen => by
  rw [List.length_cons] at hlen
  rw [List.map_cons]
  by_cases hw:wonS (lft o 0 (sortT Rb) t) = .non
  ·
   obtain ⟨w1,w2⟩:=won_none hw
   have hne:frl c t ≠ []:=by
    cases e:lft o 0 (sortT Rb) t with
    | nil => exact absurd e w2
    | cons s L =>
     cases s with
     | nil => rw [e] at w1; exact absurd (List.mem_cons_self) w1
     | cons y s =>
      have ms:(y :: s) ∈ lft o 0 (sortT Rb) t:=by rw [e]; exact .head _
      refine List.ne_nil_of_mem (a:=y) (frl_mem.mpr ⟨lft_sub o (P:=fun y => 0 <= y /\ y < c) t 0 _ (fun ts hts z hz => (hR ts (mem_sortT.mp hts)).2 z hz) _ ms y (.head _),fun hy => ?_⟩)
      exact lft_gone (R:=[]) o t 0 _ y (.inr hy) _ ms (.head _)
   obtain ⟨hh,mh,ep⟩:=pick_of (callN defs (n + 7)) (frl c t) x hne
   obtain ⟨⟨m0,m1⟩,m2⟩:=frl_mem.mp mh
   have er:=e_right (n + 1) c (sortT Rb) o t b (x / 60) hb h0 h1 (by omega)
   have ef:=e_lfree (n + 6) c t h0 h1 (by omega)
   have et:=e_take (n + 1) c (sortT Rb) o t hh g hw m0 m1 m2 (by omega)
   have nd':(t ++ [hh]).Nodup:=by
    rw [List.nodup_append]
    exact ⟨nd,by simp,fun a ha y hy z => m2 (by rw [List.mem_singleton.mp hy] at z; exact z ▸ ha)⟩
   have hlt:(t ++ [hh]).length < 64:=by rw [List.length_append,List.length_singleton]; omega
   have ek1:=e_taken_by (n + 6) (t ++ [hh]) b hlt
   have ek2:=e_taken_by (n + 6) (t ++ [hh]) (1 - b) hlt
   have el:=e_left (n + 6) Rb (sortI (tb (t ++ [hh]) b)) (sortI (tb (t ++ [hh]) (1 - b))) (fun s hs => by have:=goodS_len (hR s hs).1; omega) (by omega)
   have eq:=lft_eq o (t ++ [hh]) 0 Rb nd'
   rw [(tkB_tb hb (t ++ [hh])).1,(tkB_tb hb (t ++ [hh])).2] at eq
   rw [<- eq] at el
   have ew2:=e_won (n + 6) (lft o 0 (sortT Rb) (t ++ [hh]))
   have hsc:∃ s,sc? (wonS (lft o 0 (sortT Rb) (t ++ [hh]))).pv = some s:=by
    rcases won_cases (lft o 0 (sortT Rb) (t ++ [hh])) with z | z | z <;> rw [z] <;> exact ⟨_,rfl⟩
   obtain ⟨sv,hsc⟩:=hsc
   obtain ⟨t',w',k',f',l',q⟩:=law_loop n sc lm c Rb o b hb h0 h1 hR hl g cs (t ++ [hh]) (some (.val (.int x))) (some (.val (ofL (frl c t)))) nd' (by rw [List.length_append,List.length_singleton]; omega)
   refine ⟨t',w',k',f',l',?_⟩
   rw [forGo_step (ρ1:=[some sc,some (.val (.int c)),some (.val (.lst (Rb.map ofS))),some lm,some (.val (.int b)),some (.ownO false (tbl c (sortT Rb) o) ((t ++ [hh]).map .int)),some (.own ((t ++ [hh]).map .int)),some (.val (wonS (lft o 0 (sortT Rb) (t ++ [hh]))).pv),some (.val (.int x)),some (.val (ofL (frl c t)))])]
   ·exact q
   ·simp only [put_succ,put_zero]
    rw [hw]
    exact law_turn (callN defs (n + 7)) sc lm c b x hh Rb (lft o 0 (sortT Rb) (t ++ [hh])) (tbl c (sortT Rb) o) t (frl c t) f (wonS (lft o 0 (sortT Rb) (t ++ [hh]))) sv _ _ er ef ep et hsc ek1 ek2 el ew2 (by omega)
  ·obtain ⟨t',w',k',f',l',q⟩:=law_loop n sc lm c Rb o b hb h0 h1 hR hl g cs t (some (.val (.int x))) f nd (by omega)
   refine ⟨t',w',k',f',l',?_⟩
   rw [forGo_step (ρ1:=[some sc,some (.val (.int c)),some (.val (.lst (Rb.map ofS))),some lm,some (.val (.int b)),some (.ownO false (tbl c (sortT Rb) o) (t.map .int)),some (.own (t.map .int)),some (.val (wonS (lft o 0 (sortT Rb) t)).pv),some (.val (.int x)),f])]
   ·exact q
   ·simp only [put_succ,put_zero]
    refine law_skip (callN defs (n + 7)) _ _ rfl ?_
    rcases won_cases (lft o 0 (sortT Rb) t) with z | z | z
    ·rw [z]; rfl
    ·rw [z]; rfl
    ·exact absurd z hw
theorem mk_two (cal:Cal) (a:List PV) (c r b:PV) (C:Int) (L:List (List Int)) (h4:cal 4000 [] ≠ none) (o:Bool) (hi:∀ ρ:Rho,(ρ[4]?).join = some (.val b) -> ev cal (.idx (.lst [(.cst (.str "weaver")),(.cst (.str "moth"))]) (.bor 4)) ρ = some (.str (handS o))) :
  ex cal (.mkO 5 [(.var 3),(.idx (.lst [(.cst (.str "weaver")),(.cst (.str "moth"))]) (.bor 4))]) [some (.brw a),some (.val c),some (.val r),some (.val (.tup [.int C,ofR L])),some (.val b),none,none,none,none,none]
   = .next [some (.brw a),some (.val c),some (.val r),some (.val (.tup [.int C,ofR L])),some (.val b),some (.ownO false (tbl C L o) []),none,none,none,none]:=by
 rw [ex,evs,evs,hi _ rfl,show ev cal (.var 3) [some (.brw a),some (.val c),some (.val r),some (.val (.tup [.int C,ofR L])),some (.val b),none,none,none,none,none] = some (.tup [.int C,ofR L]) from by rw [ev]; rfl]
 show (if noLx _ 5 = true /\ _ then _ else _) = _
 rw [if_pos ⟨rfl,h4⟩]
 rfl
theorem mk_one (cal:Cal) (a:List PV) (c r b:PV) (C:Int) (L:List (List Int)) (h4:cal 4000 [] ≠ none) (o:Bool) :
  ex cal (.mkO 5 [(.var 3)]) [some (.brw a),some (.val c),some (.val r),some (.val (.tup [.int C,ofR L])),some (.val b),some (.ownO false (tbl C L o) []),none,none,none,none]
   = .next [some (.brw a),some (.val c),some (.val r),some (.val (.tup [.int C,ofR L])),some (.val b),some (.ownO false (tbl C L false) []),none,none,none,none]:=by
 rw [ex,evs,evs,show ev cal (.var 3) [some (.brw a),some (.val c),some (.val r),some (.val (.tup [.int C,ofR L])),some (.val b),some (.ownO false (tbl C L o) []),none,none,none,none] = some (.tup [.int C,ofR L]) from by rw [ev]; rfl]
 show (if noLx _ 5 = true /\ _ then _ else _) = _
 rw [if_pos ⟨rfl,h4⟩]
 rfl
theorem law_end (cal:Cal) (a:List PV) (c b ct:Int) (r l:MV) (fs:List PV) (t:List Int) (w k f:Option MV) (e1:cal 8 [.brw a,.val (.int 2)] = some (.int ct)) (e2:cal 19 [.brwO fs (t.map .int),.val (.int c),.val (ofL t),.val (.int b),.val (.int ct)] = some (.bl true)) :
  outOf (exs cal [.ret (.callV 19 [(.bor 5),(.bor 1),(.bor 6),(.bor 4),(.call 8 [(.bor 0),(.cst (.int 2))])])] [some (.brw a),some (.val (.int c)),some r,some l,some (.val (.int b)),some (.ownO false fs (t.map .int)),some (.own (t.map .int)),w,k,f]) = some (.bl true):=by
 refine x_ret ?_
 simp [ev,evA,argOf,unB,e1,e2,sc?]
theorem law_true (ns:List Int) (hl:ns.length <= 63):callN defs 40 20 [.brw (ns.map .int)] = some (.bl true):=by
 rw [call_def (d:=d_law) rfl rfl]
 have ec0:=e_cell 38 (.brw (ns.map .int)) ns 0 rfl (by decide)
 have ec2:=e_cell 38 (.brw (ns.map .int)) ns 2 rfl (by decide)
 have q0:0 <= cellOf ns 0 % 61:=Int.emod_nonneg _ (by decide)
 have q1:cellOf ns 0 % 61 < 61:=Int.emod_lt_of_pos _ (by decide)
 generalize cellOf ns 0 = c0 at ec0 q0 q1
 generalize cellOf ns 2 = c2 at ec2
 obtain ⟨Rb,er,hR,hRl⟩:=e_ribbons 36 ns (c0 % 61) q0 (by omega)
 have g:GoodR (sortT Rb):=⟨fun ts hts => (hR ts (mem_sortT.mp hts)).1,sortT_rises _,by rw [sortT_len]; omega⟩
 obtain ⟨o,b,ho,hb,hho,h2⟩:∃ (o:Bool) (b:Int),(c2 % 3 == 1) = o /\ (b = if o = true then 1 else 0) /\ (place 2 b).bind (fun j => ([PV.str "weaver",PV.str "moth"]:List PV)[j]?) = some (.str (handS o)) /\ ((c2 % 3 == 2) = true -> o = false):=by
  cases e:(c2 % 3 == 1)
  ·exact ⟨false,0,rfl,rfl,rfl,fun _ => rfl⟩
  ·refine ⟨true,1,rfl,rfl,rfl,fun z => ?_⟩
   rw [beq_iff_eq] at e z
   omega
 have hcut:(cutI ns (some 3) (some 43)).length <= 40:=by have:=cutI_len ns (a:=3) (b:=43) (by decide) (by decide); omega
 obtain ⟨t',w',k',f',l',el⟩:=law_loop 32 (.brw (ns.map .int)) (.val (.tup [.int (c0 % 61),ofR (sortT Rb)])) (c0 % 61) Rb o b hb q0 (by omega) hR hRl g (cutI ns (some 3) (some 43)) [] none none .nil (by simp; omega)
 have eR:=e_right 33 (c0 % 61) (sortT Rb) o t' b c2 hb q0 (by omega) l'
 have hst:sortOp (Rb.map ofS) = some (.lst ((sortT Rb).map ofS)):=sort_tups (by omega)
 have ew:=e_won 38 (sortT Rb)
 generalize hL:sortT Rb = L0 at el eR hst ew
 have hlf:lft o 0 L0 [] = L0:=rfl
 rw [hlf] at el
 have hidx:∀ ρ:Rho,(ρ[4]?).join = some (.val (.int b)) -> ev (callN defs 39) (.idx (.lst [(.cst (.str "weaver")),(.cst (.str "moth"))]) (.bor 4)) ρ = some (.str (handS o)):=fun ρ q => by
  rw [ev_idx (x:=.lst [.str "weaver",.str "moth"]) (y:=.int b) (by simp [ev,evs]) (by rw [ev,q]; rfl),idx_L]
  exact hho
 have h4:callN defs 39 4000 [] ≠ none:=by
  rw [callN]
  decide
 show outOf (exs _ [.set 1 _,.set 2 _,.set 3 _,.set 4 _,.mkO 5 _,.ite _ _ _,.setOwn 6 _,.set 7 _,.for1 _ _ _ _,.ret _] (some _ :: [none,none,none,none,none,none,none,none,none])) = _
 refine x_set (v:=.int (c0 % 61)) (by simp [ev,evA,ec0]) ?_
 simp only [put_succ,put_zero]
 refine x_set (v:=.lst (Rb.map ofS)) (by simp [ev,evA,er]) ?_
 simp only [put_succ,put_zero]
 refine x_set (v:=.tup [.int (c0 % 61),ofR L0]) (by simp [ev,evs,hst]) ?_
 simp only [put_succ,put_zero]
 refine x_set (v:=.int b) (by simp [ev,evs,evA,ec2,ho,hb]) ?_
 simp only [put_succ,put_zero]
 refine x_next (mk_two _ _ _ _ _ _ _ h4 o hidx) ?_
 refine x_next (ρ':=[some (.brw (ns.map .int)),some (.val (.int (c0 % 61))),some (.val (.lst (Rb.map ofS))),some (.val (.tup [.int (c0 % 61),ofR L0])),some (.val (.int b)),some (.ownO false (tbl (c0 % 61) L0 o) []),none,none,none,none]) ?_ ?_
 ·rw [ex_ite (p:=c2 % 3 == 2) (by simp [ev,evA,ec2])]
  split
  ·rename_i z
   rw [n_end (mk_one _ _ _ _ _ _ _ h4 o),h2 z]
  ·rw [exs]
 refine x_next (ρ':=[some (.brw (ns.map .int)),some (.val (.int (c0 % 61))),some (.val (.lst (Rb.map ofS))),some (.val (.tup [.int (c0 % 61),ofR L0])),some (.val (.int b)),some (.ownO false (tbl (c0 % 61) L0 o) []),some (.own []),none,none,none]) (by simp [ex,ev,evs]) ?_
 refine x_set (v:=(wonS L0).pv) (by simp [ev,evA,place,ew]) ?_
 simp only [put_succ,put_zero]
 rw [List.map_nil] at el
 refine x_next (ρ':=[some (.brw (ns.map .int)),some (.val (.int (c0 % 61))),some (.val (.lst (Rb.map ofS))),some (.val (.tup [.int (c0 % 61),ofR L0])),some (.val (.int b)),some (.ownO false (tbl (c0 % 61) L0 o) (t'.map .int)),some (.own (t'.map .int)),w',k',f']) ?_ ?_
 ·rw [ex_for1 (xs:=(cutI ns (some 3) (some 43)).map .int) (by simp [evs,ev,bnd])]
  show (forGo _ _ (lend [(.slice _ _ _)] _)).back _ _ = _
  rw [show ∀ (x y z:ME) (ρ:Rho),lend [(.slice x y z)] ρ = ρ from fun _ _ _ _ => rfl,el]
  rfl
 exact law_end _ _ _ _ _ _ _ _ _ _ _ _ ec2 eR
noncomputable def top (i:Nat):Stmt:=PySem.Challenge.pw_mothloom_k43_deeds_at_a_table.main.body.getD i (.Pass ⟨0,0,0,0⟩)
noncomputable def sInit:Stmt:=inClass (top 17) 0
theorem scI:FnScope ["self","loom","first"] ["self","loom","first"] (defScope sInit):=⟨rfl,rfl,rfl,by decide +kernel,rfl,by decide +kernel,by decide +kernel⟩
theorem ok_init {P:Program} {w:World} {K:PySem.W.Frag} {mg:Str -> Option Value} {base:Heap} {f C:Addr} {fd:FuncData} (D:FnD K "__init__" "Table.__init__" sInit f fd) (c:ClsOk K C):FnOk P w K mg base CX0 1 f fd ["self","loom","first"] (spI K C):=by
 obtain ⟨c0,d0,k0,o0,m0,a0,cdv,t1,a1,sl,lk,hc,rfl⟩:=D.it
 have n0:=c.nf _ (show ("hole_count":Str) ∈ fldN by simp [fldN])
 have n1:=c.nf _ (show ("ribbons":Str) ∈ fldN by simp [fldN])
 have n2:=c.nf _ (show ("opener":Str) ∈ fldN by simp [fldN])
 refine fn_of lk hc scI (fun vs H Q E h => ?_) (fun A outer s H vs Q E hr h => ?_)
 ·obtain ⟨x,dx,la,u,r,o,rfl,_⟩:=h
  rfl
 ·obtain ⟨x,dx,la,u,r,o,rfl,hx,ht,k⟩:=h
  refine ⟨_,pss_cons (ps_fld (pv 0) (pe_ix ix_tup (pv 1) pe_int (fun _ _ => rfl)) rfl) (pss_cons (ps_fld (pv 0) (pe_ix ix_tup (pv 1) pe_int (fun _ _ => rfl)) rfl) (pss_cons (ps_fld (pv 0) (pv 2) rfl) (pss_one (ps_fld (pv 0) (pe_lst pa_nil) rfl)))),?_⟩
  have s1:SqT K (upd H x (.ins C dx (putF "hole_count" u []))) la [u,r]:=sqT_upd ht hx
  refine ⟨_,rfl,la,_,0,u,rfl,rfl,ht,rfl,_,rfl,x,C,dx,[],rfl,hx,c.cls,n0,(by show 0 < 1000; decide),?_⟩
  refine ⟨_,rfl,la,_,1,r,rfl,rfl,s1,rfl,_,rfl,x,C,dx,_,rfl,upd_same,c.cls,n1,(by show 1 < 1000; decide),?_⟩
  refine ⟨_,rfl,_,rfl,x,C,dx,_,rfl,upd_same,c.cls,n2,Nat.lt_of_le_of_lt (putF_le (putF_le (Nat.le_refl 0))) (by decide),?_⟩
  refine ⟨Nat.zero_le _,fun l hl => ?_⟩
  have nx:l ≠ x:=fun z => by rw [z,upd_same] at hl; cases hl
  have nl:H l = none:=by rw [upd_ne nx,upd_ne nx,upd_ne nx] at hl; exact hl
  refine ⟨_,rfl,x,C,dx,_,rfl,(by rw [upd_ne (Ne.symm nx)]; exact upd_same),c.cls,c.nt,Nat.lt_of_le_of_lt (putF_le (putF_le (putF_le (Nat.le_refl 0)))) (by decide),?_⟩
  refine k l _ nl upd_same (by rw [upd_ne nx,upd_same]) fun b o nb eb => ?_
  rw [upd_ne nb,upd_ne (ne_of_none eb nl),upd_ne nb,upd_ne nb,upd_ne nb]
  exact eb
theorem all_mk {l:PySem.W.OpenLaw} {w:World} {K:PySem.W.Frag} {h:Heap} {mg:Str -> Option Value} {fa:Addr} (X:K.In h) (G:h.Ns mainGlobals mg) (hfa:mg "law" = some (.ref fa))
  {C fI:Addr} {fdI:FuncData} (aC:PySem.W.nsIn K mainGlobals "Table" = some (some (.ref C))) (pg:PySem.W.plainGet K C Str.empty = true) (hd:PySem.W.hasDictIn K C = true) (po:PySem.W.plainOver K C = true) (sa:PySem.W.findIn K (.ref C) "__setattr__" = some (some (.builtin "object.__setattr__"))) (mk:PySem.W.makesIn K C = true) (kc:PySem.W.keepIn K (.ref C) = true)
  (n0:PySem.W.findIn K (.ref C) "hole_count" = some none) (n1:PySem.W.findIn K (.ref C) "ribbons" = some none) (n2:PySem.W.findIn K (.ref C) "opener" = some none) (n3:PySem.W.findIn K (.ref C) "taken" = some none)
  (ai:PySem.W.findIn K (.ref C) "__init__" = some (some (.ref fI))) (ii:PySem.W.isFn K (.ref fI) = true) (DI:FnD K "__init__" "Table.__init__" sInit fI fdI) (bI:Binds K fdI ["self","loom","first"] []) (bL:∃ vs,Binds K fdI ["self","loom","first"] vs /\ Vals ([Sc.str "weaver"].map Sc.v) vs)
  (h0:HD K "is_number_below" (top 7) d_is_number_below) (h1:HD K "strip_without" (top 8) d_strip_without) (h2:HD K "knotted" (top 9) d_knotted) (h3:HD K "bitten" (top 10) d_bitten) (h4:HD K "is_whole" (top 11) d_is_whole) (h5:HD K "is_bare" (top 12) d_is_bare) (h6:HD K "other_hand" (top 14) d_other_hand) (h7:HD K "behind" (top 15) d_behind) (h8:HD K "_law_cell" (top 19) d_law_cell) (h9:HD K "_law_mixed" (top 20) d_law_mixed) (h10:HD K "_law_strip" (top 21) d_law_strip) (h11:HD K "_law_whole" (top 22) d_law_whole) (h12:HD K "_law_numbers" (top 23) d_law_numbers) (h13:HD K "_law_ribbons" (top 24) d_law_ribbons) (h14:HD K "_law_taken_by" (top 25) d_law_taken_by) (h15:HD K "_law_left" (top 26) d_law_left) (h16:HD K "_law_won" (top 27) d_law_won) (h17:HD K "_law_free" (top 28) d_law_free) (h18:HD K "_law_asked" (top 29) d_law_asked) (h19:HD K "_law_right" (top 30) d_law_right) (h20:HD K "law" (top 31) d_law fun fd => ∀ (s:Shared) (v:Value),BindsTo s fd ⟨[v],[]⟩ [("script",v)]) (h21:HM K C "hand_at" "Table.hand_at" (inClass (top 17) 1) d_Table_hand_at) (h22:HM K C "holes_taken_by" "Table.holes_taken_by" (inClass (top 17) 2) d_Table_holes_taken_by) (h23:HM K C "turn" "Table.turn" (inClass (top 17) 3) d_Table_turn) (h24:HM K C "deeds" "Table.deeds" (inClass (top 17) 4) d_Table_deeds) (h25:HM K C "knots" "Table.knots" (inClass (top 17) 5) d_Table_knots) (h26:HM K C "bites" "Table.bites" (inClass (top 17) 6) d_Table_bites) (h27:HM K C "free" "Table.free" (inClass (top 17) 7) d_Table_free) (h28:HM K C "rest" "Table.rest" (inClass (top 17) 8) d_Table_rest) (h29:HM K C "winner" "Table.winner" (inClass (top 17) 9) d_Table_winner) (h30:HM K C "take" "Table.take" (inClass (top 17) 10) d_Table_take)
  (zs:∀ x ∈ bltNames,PySem.W.nsIn K mainGlobals x = some none)
 :∃ fd:FuncData,(∀ (s:Shared) (v:Value),BindsTo s fd ⟨[v],[]⟩ [("script",v)]) /\ ∀ base:Heap,K.In base -> base.Ns mainGlobals mg -> FnOk l.prog w K mg base CX0 40 fa fd ["script"] (spM K (callN defs 40) 20):=by
 obtain ⟨_,e0,D0,q0⟩:=def_of (T:=tab) X G h0 (by kernel_rfl)
 obtain ⟨_,e1,D1,q1⟩:=def_of (T:=tab) X G h1 (by kernel_rfl)
 obtain ⟨_,e2,D2,q2⟩:=def_of (T:=tab) X G h2 (by kernel_rfl)
 obtain ⟨_,e3,D3,q3⟩:=def_of (T:=tab) X G h3 (by kernel_rfl)
 obtain ⟨_,e4,D4,q4⟩:=def_of (T:=tab) X G h4 (by kernel_rfl)
 obtain ⟨_,e5,D5,q5⟩:=def_of (T:=tab) X G h5 (by kernel_rfl)
 obtain ⟨_,e6,D6,q6⟩:=def_of (T:=tab) X G h6 (by kernel_rfl)
 obtain ⟨_,e7,D7,q7⟩:=def_of (T:=tab) X G h7 (by kernel_rfl)
 obtain ⟨_,e8,D8,q8⟩:=def_of (T:=tab) X G h8 (by kernel_rfl)
 obtain ⟨_,e9,D9,q9⟩:=def_of (T:=tab) X G h9 (by kernel_rfl)
 obtain ⟨_,e10,D10,q10⟩:=def_of (T:=tab) X G h10 (by kernel_rfl)
 obtain ⟨_,e11,D11,q11⟩:=def_of (T:=tab) X G h11 (by kernel_rfl)
 obtain ⟨_,e12,D12,q12⟩:=def_of (T:=tab) X G h12 (by kernel_rfl)
 obtain ⟨_,e13,D13,q13⟩:=def_of (T:=tab) X G h13 (by kernel_rfl)
 obtain ⟨_,e14,D14,q14⟩:=def_of (T:=tab) X G h14 (by kernel_rfl)
 obtain ⟨_,e15,D15,q15⟩:=def_of (T:=tab) X G h15 (by kernel_rfl)
 obtain ⟨_,e16,D16,q16⟩:=def_of (T:=tab) X G h16 (by kernel_rfl)
 obtain ⟨_,e17,D17,q17⟩:=def_of (T:=tab) X G h17 (by kernel_rfl)
 obtain ⟨_,e18,D18,q18⟩:=def_of (T:=tab) X G h18 (by kernel_rfl)
 obtain ⟨_,e19,D19,q19⟩:=def_of (T:=tab) X G h19 (by kernel_rfl)
 obtain ⟨_,e20,D20,q20⟩:=def_of (T:=tab) X G h20 (by kernel_rfl)
 obtain ⟨_,e21,D21⟩:=meth_of (T:=tab) (mg:=mg) aC h21 (by kernel_rfl)
 obtain ⟨_,e22,D22⟩:=meth_of (T:=tab) (mg:=mg) aC h22 (by kernel_rfl)
 obtain ⟨_,e23,D23⟩:=meth_of (T:=tab) (mg:=mg) aC h23 (by kernel_rfl)
 obtain ⟨_,e24,D24⟩:=meth_of (T:=tab) (mg:=mg) aC h24 (by kernel_rfl)
 obtain ⟨_,e25,D25⟩:=meth_of (T:=tab) (mg:=mg) aC h25 (by kernel_rfl)
 obtain ⟨_,e26,D26⟩:=meth_of (T:=tab) (mg:=mg) aC h26 (by kernel_rfl)
 obtain ⟨_,e27,D27⟩:=meth_of (T:=tab) (mg:=mg) aC h27 (by kernel_rfl)
 obtain ⟨_,e28,D28⟩:=meth_of (T:=tab) (mg:=mg) aC h28 (by kernel_rfl)
 obtain ⟨_,e29,D29⟩:=meth_of (T:=tab) (mg:=mg) aC h29 (by kernel_rfl)
 obtain ⟨_,e30,D30⟩:=meth_of (T:=tab) (mg:=mg) aC h30 (by kernel_rfl)
 have nm:=(D20.named.resolve_right fun ⟨_,z,_⟩ => by cases z).2
 cases hfa.symm.trans nm
 have pr:Prog tab K mg defs:=by
  refine ⟨rfl,rfl,fun C' h' => cls_of aC ⟨⟨pg,hd,po,sa⟩,fun x hx => nf_of n0 n1 n2 x hx,n3⟩ h',⟨C,aC,PySem.W.mg_of X G aC,fI,fdI,_,⟨mk,ai,ii,kc⟩,bI,fun P w base => ok_init DI ⟨⟨pg,hd,po,sa⟩,fun x hx => nf_of n0 n1 n2 x hx,n3⟩,bL⟩,⟨⟨_,_,_,D0,_,D0.binds,.nil⟩,⟨_,_,_,D1,_,D1.binds,.nil⟩,⟨_,_,_,D2,_,D2.binds,.nil⟩,⟨_,_,_,D3,_,D3.binds,.nil⟩,⟨_,_,_,D4,_,D4.binds,.nil⟩,⟨_,_,_,D5,_,D5.binds,.nil⟩,⟨_,_,_,D6,_,D6.binds,.nil⟩,⟨_,_,_,D7,_,D7.binds,.nil⟩,⟨_,_,_,D8,_,D8.binds,.nil⟩,⟨_,_,_,D9,_,D9.binds,.nil⟩,⟨_,_,_,D10,_,D10.binds,.nil⟩,⟨_,_,_,D11,_,D11.binds,.nil⟩,⟨_,_,_,D12,_,D12.binds,.nil⟩,⟨_,_,_,D13,_,D13.binds,.nil⟩,⟨_,_,_,D14,_,D14.binds,.nil⟩,⟨_,_,_,D15,_,D15.binds,.nil⟩,⟨_,_,_,D16,_,D16.binds,.nil⟩,⟨_,_,_,D17,_,D17.binds,.nil⟩,⟨_,_,_,D18,_,D18.binds,.nil⟩,⟨_,_,_,D19,_,D19.binds,.nil⟩,⟨_,_,_,D20,_,D20.binds,.nil⟩,⟨_,_,_,D21,_,D21.binds,.nil⟩,⟨_,_,_,D22,_,D22.binds,.nil⟩,⟨_,_,_,D23,_,D23.binds,.nil⟩,⟨_,_,_,D24,_,D24.binds,.nil⟩,⟨_,_,_,D25,_,D25.binds,.nil⟩,⟨_,_,_,D26,_,D26.binds,.nil⟩,⟨_,_,_,D27,_,D27.binds,.nil⟩,⟨_,_,_,D28,_,D28.binds,.nil⟩,⟨_,_,_,D29,_,D29.binds,.nil⟩,⟨_,_,_,D30,_,D30.binds,.nil⟩,trivial⟩,fun x hx => PySem.W.mg_none_of X G (zs x hx),fun p hp => ?_⟩
  ·simp [tab] at hp
 exact ⟨e20,q20,fun base _ _ => fn_ok (by decide) pr 40 20 d_law rfl _ _ _ D20⟩
theorem walk {l:PySem.W.OpenLaw} {q:Program} {loose:List Str} {XP:(Str -> Option Value) -> Heap -> Prop} {YP:World -> Heap -> Prop} {d:DefRec} {K:Params -> PySem.W.Frag} (hn:l.most = some 63) (hdf:d.params.defaults = [])
  (hY:∀ (w:World) (h:Heap),YP w h -> (K w.params).In h)
  (F:∀ (w:World) (mg:Str -> Option Value) (fa:Addr) (h:Heap),(K w.params).In h -> h.Ns mainGlobals mg -> mg d.name = some (.ref fa) ->
   ∃ fd:FuncData,(∀ (s:Shared) (u:Value),BindsTo s fd ⟨[u],[]⟩ [("script",u)]) /\ ∀ base:Heap,(K w.params).In base -> base.Ns mainGlobals mg -> FnOk l.prog w (K w.params) mg base CX0 40 fa fd ["script"] (spM (K w.params) (callN defs 40) 20)) :
  PySem.W.WalkO q loose XP YP l.row.toRowW d [] (fun f vs => PySem.call f vs) :=
 L2.walk_of (n:=63) (k:=40) (x:="script") (CX:=fun _ => CX0) (sp:=fun w => spM (K w.params) (callN defs 40) 20) hn (by decide) hdf ⟨rfl,by decide,by decide⟩ hY F (fun _ _ a ns hl _ hS => law_sp (law_true ns hl) hS) fun _ _ _ _ _ z => z
end My
open PySem PySem.W PyProof.Rows
set_option maxRecDepth 100000 in
set_option maxHeartbeats 0 in
theorem PySem.Challenge.cw_mothloom_k43_deeds_at_a_table_holds : PySem.Challenge.rw_mothloom_k43_deeds_at_a_table.Holds := by
 w_on; o_law; k_head; (case hw => w_witness2)
 k_fill
 refine My.walk (l:=PySem.Challenge.rw_mothloom_k43_deeds_at_a_table) rfl rfl (fun w h Y => PySem.W.kIn_of Y) ?F
 case F =>
  intro w mg fa h KX G hmg
  refine' My.all_mk KX G hmg ?aC ?pg ?hd ?po ?sa ?mk ?kc ?n0 ?n1 ?n2 ?n3 ?ai ?ii ?DI ?bI ?bL ?h0 ?h1 ?h2 ?h3 ?h4 ?h5 ?h6 ?h7 ?h8 ?h9 ?h10 ?h11 ?h12 ?h13 ?h14 ?h15 ?h16 ?h17 ?h18 ?h19 ?h20 ?h21 ?h22 ?h23 ?h24 ?h25 ?h26 ?h27 ?h28 ?h29 ?h30 ?zs
  (case aC => k_is)
  (case pg => k_is)
  (case hd => k_is)
  (case po => k_is)
  (case sa => k_is)
  (case mk => k_is)
  (case kc => k_is)
  (case n0 => k_is)
  (case n1 => k_is)
  (case n2 => k_is)
  (case n3 => k_is)
  (case ai => k_is)
  (case ii => k_is)
  (case DI => refine' .mkd ?kl ?kc ?kk; (case kl => k_is); (case kc => k_is); (case kk => k_is))
  (case bI => refine' MM.binds_dflt rfl ?kx ?ky; (case kx => k_is); (case ky => exact fun us hl => match us,hl with | [_,_,_],_ => ⟨_,rfl,rfl⟩))
  (case bL => refine' MM.left_mk rfl ?ku ?kw; (case ku => k_is); (case kw => exact fun us hl => match us,hl with | [_,_],_ => ⟨_,rfl,rfl⟩))
  (case h0 | h1 | h2 | h3 | h8 | h9 | h12 | h13 | h14 | h17 | h18 => refine' ⟨rfl,_,_,?ka,.mk' (d0:=.none) ?kl ?kc ?kk,MM.bn2 fun _ _ => rfl,trivial⟩; (case ka => k_is); (case kl => k_is); (case kc => k_is); (case kk => k_is))
  (case h4 | h5 | h6 | h11 | h16 => refine' ⟨rfl,_,_,?ka,.mk' (d0:=.none) ?kl ?kc ?kk,MM.bn1 fun _ => rfl,trivial⟩; (case ka => k_is); (case kl => k_is); (case kc => k_is); (case kk => k_is))
  (case h7 | h10 | h15 => refine' ⟨rfl,_,_,?ka,.mk' (d0:=.none) ?kl ?kc ?kk,MM.bn3 fun _ _ _ => rfl,trivial⟩; (case ka => k_is); (case kl => k_is); (case kc => k_is); (case kk => k_is))
  (case h19 => refine' ⟨rfl,_,_,?ka,.mk' (d0:=.none) ?kl ?kc ?kk,MM.bn5 fun _ _ _ _ _ => rfl,trivial⟩; (case ka => k_is); (case kl => k_is); (case kc => k_is); (case kk => k_is))
  (case h20 => refine' ⟨rfl,_,_,?ka,.mk' (d0:=.none) ?kl ?kc ?kk,MM.bn1 fun _ => rfl,fun s v => .of_eq rfl⟩; (case ka => k_is); (case kl => k_is); (case kc => k_is); (case kk => k_is))
  (case h21 => refine' ⟨rfl,rfl,_,_,⟨?ka,?ki,?ku⟩,.mk' (d0:=.none) ?kl ?kc ?kk,MM.bn2 fun _ _ => rfl⟩; (case ka => k_is); (case ki => k_is); (case ku => k_is); (case kl => k_is); (case kc => k_is); (case kk => k_is))
  (case h22 => refine' ⟨rfl,rfl,_,_,⟨?ka,?ki,?ku⟩,.mk' (d0:=.none) ?kl ?kc ?kk,MM.bn2 fun _ _ => rfl⟩; (case ka => k_is); (case ki => k_is); (case ku => k_is); (case kl => k_is); (case kc => k_is); (case kk => k_is))
  (case h23 => refine' ⟨rfl,rfl,_,_,⟨?ka,?ki,?ku⟩,.mk' (d0:=.none) ?kl ?kc ?kk,MM.bn1 fun _ => rfl⟩; (case ka => k_is); (case ki => k_is); (case ku => k_is); (case kl => k_is); (case kc => k_is); (case kk => k_is))
  (case h24 => refine' ⟨rfl,rfl,_,_,⟨?ka,?ki,?ku⟩,.mk' (d0:=.none) ?kl ?kc ?kk,MM.bn1 fun _ => rfl⟩; (case ka => k_is); (case ki => k_is); (case ku => k_is); (case kl => k_is); (case kc => k_is); (case kk => k_is))
  (case h25 => refine' ⟨rfl,rfl,_,_,⟨?ka,?ki,?ku⟩,.mk' (d0:=.none) ?kl ?kc ?kk,MM.bn1 fun _ => rfl⟩; (case ka => k_is); (case ki => k_is); (case ku => k_is); (case kl => k_is); (case kc => k_is); (case kk => k_is))
  (case h26 => refine' ⟨rfl,rfl,_,_,⟨?ka,?ki,?ku⟩,.mk' (d0:=.none) ?kl ?kc ?kk,MM.bn1 fun _ => rfl⟩; (case ka => k_is); (case ki => k_is); (case ku => k_is); (case kl => k_is); (case kc => k_is); (case kk => k_is))
  (case h27 => refine' ⟨rfl,rfl,_,_,⟨?ka,?ki,?ku⟩,.mk' (d0:=.none) ?kl ?kc ?kk,MM.bn1 fun _ => rfl⟩; (case ka => k_is); (case ki => k_is); (case ku => k_is); (case kl => k_is); (case kc => k_is); (case kk => k_is))
  (case h28 => refine' ⟨rfl,rfl,_,_,⟨?ka,?ki,?ku⟩,.mk' (d0:=.none) ?kl ?kc ?kk,MM.bn1 fun _ => rfl⟩; (case ka => k_is); (case ki => k_is); (case ku => k_is); (case kl => k_is); (case kc => k_is); (case kk => k_is))
  (case h29 => refine' ⟨rfl,rfl,_,_,⟨?ka,?ki,?ku⟩,.mk' (d0:=.none) ?kl ?kc ?kk,MM.bn1 fun _ => rfl⟩; (case ka => k_is); (case ki => k_is); (case ku => k_is); (case kl => k_is); (case kc => k_is); (case kk => k_is))
  (case h30 => refine' ⟨rfl,rfl,_,_,⟨?ka,?ki,?ku⟩,.mk' (d0:=.none) ?kl ?kc ?kk,MM.bn2 fun _ _ => rfl⟩; (case ka => k_is); (case ki => k_is); (case ku => k_is); (case kl => k_is); (case kc => k_is); (case kk => k_is))
  (case zs => intro x hx; simp only [MM.bltNames,List.mem_cons,List.not_mem_nil,or_false] at hx; rcases hx with rfl | rfl | rfl | rfl | rfl | rfl | rfl | rfl | rfl | rfl | rfl | rfl | rfl | rfl | rfl | rfl | rfl <;> k_is)
