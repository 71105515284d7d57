import PyProof.Rows.All
import Wide.All
import OpenK.AllK
import Wide.FinOn
import Lean
import PyProof.EqAt
import PyProof.EqKinds
import PyProof.TupleCall
import PySem.Challenge.RW_mothloom_k52_more_never_harms
set_option Elab.async false
set_option linter.all false
set_option maxRecDepth 100000
set_option genSizeOf false
set_option backward.eqns.nonrecursive false
set_option bootstrap.genMatcherCode false
namespace L2.Nk
open PySem PyProof.Rows
section
variable {P:Program}{w:World}
noncomputable def ii (P:Program) (w:World) (h:Heap) (need:Nat) (v:Value) (hv:Int) (d:Nat):Prop :=
 ∀ {A:Around}{E:Value->Shared->Prop}{s:Shared}{Q:Int->Shared->Prop},s.heap=h->A.units + need < cLine->Q hv { s with toks:=s.toks + d }->wpAny (model P w) A (pyHash v) Q E s
noncomputable def kr (P:Program) (w:World) (h:Heap) (need:Nat) (u v:Value) (b:Bool):Prop :=
 ∀ {A:Around}{E:Value->Shared->Prop}{s:Shared}{Q:Bool->Shared->Prop},s.heap=h->A.units + need < cLine->Q b s->wpAny (model P w) A (eqBool u v) Q E s
noncomputable def eM (P:Program) (w:World) (h:Heap) (n:Nat) (v:Value):Prop :=
 ∀ {A:Around}{E:Value->Shared->Prop}{s:Shared}{Q:Bool->Shared->Prop},s.heap=h->Q true s->wpAny (model P w) A (eqIsQuiet n v) Q E s
inductive ij (P:Program) (w:World) (h:Heap) (need:Nat):List Value->List Int->Nat->Prop
 | nil:ij P w h need [] [] 0
 | cons {v:Value}{hv:Int}{d:Nat}{vs:List Value}{hs:List Int}{n:Nat}:ii P w h need v hv d->ij P w h need vs hs n->ij P w h need (v::vs) (hv::hs) (d + n)
variable {A:Around}{E:Value->Shared->Prop}{s:Shared}
theorem jm {a:Addr}{o:Obj}{items:Array Value}{n need d:Nat}{hs:List Int}{Q:Int->Shared->Prop} (ho:s.heap.get? a=some o) (hc:o.cls=.type "tuple") (hd:o.data=.seq items n) (hh:ij P w s.heap need items.toList hs d) (hu:A.units + (need + 1) < cLine)
  (h:Q (reduceHash (Builtin.Tuple.tupleHashOf hs)) { s with toks:=s.toks + (d + 1) }):wpAny (model P w) A (pyHash (.ref a)) Q E s:=by
 have hT:s.TypeIs (.ref a) "tuple":=⟨o,ho,hc⟩
 unfold pyHash pyHashByItsType
 refine wpAny_bind (wpAny_cRoomFor_or (.inr (by omega)) ?_)
 refine wpAny_bind (wpAny_specialOf hT F.slot_tuple_hash.lookup ?_)
 refine wpAny_ite_split (λz=>absurd z (by decide)) (λ_=>?_)
 refine wpAny_bind (wpAny_specialOf hT F.slot_tuple_hash.lookup ?_)
 refine wpAny_ite_split (λz=>absurd z (by decide)) (λ_=>?_)
 refine wpAny_bind (wpAny_callSpecialIfBoundUnlessNone?_slot hT F.slot_tuple_hash (wpAny_call_entry F.slot_tuple_hash hT F.entry_tuple_hash ?_ (F.args_tuple_hash_1 _)))
 unfold Builtin.«tuple.__hash__»
 refine wpAny_bind (m:=slotArgs "__hash__" 0 _) (wpAny_pure ?_)
 dsimp only
 refine wpAny_bind (wpAny_tupleItemsOf ho hd ?_)
 refine wpAny_bind ?_
 rw [<- Array.forIn_toList]
 refine wpAny_forIn_list _ (λrest (b:Array Int) s'=>∃ done left m k,hs=done ++ left/\b.toList=done/\ij P w s.heap need rest left m/\m + k=d/\s'={ s with toks:=s.toks + k }) _ ?_ ?_ _ _ ⟨[],hs,d,0,rfl,rfl,hh,rfl,rfl⟩
 ·rintro x rest b s' ⟨done,left,m,k,e,hb,hl,hk,rfl⟩
  cases hl with
  | @cons _ hv d1 _ hs1 n1 h1 hr =>
   refine wpAny_bind (h1 rfl (by rw [Around.in1_units];omega) ?_)
   refine wpAny_pure ⟨done ++ [hv],hs1,n1,k + d1,?_,?_,hr,?_,?_⟩
   ·rw [e,List.append_assoc];rfl
   ·rw [Array.toList_push,hb]
   ·omega
   ·simp [Nat.add_assoc]
 ·rintro b s' ⟨done,left,m,k,e,hb,hl,hk,rfl⟩
  cases hl
  rw [List.append_nil] at e
  subst e
  have hk:k=d:=by omega
  subst hk
  show wpAny _ _ (retInt (Builtin.Tuple.tupleHashOf b.toList)) _ _ _
  rw [hb]
  refine wpAny_ret_mkInt ?_
  dsimp only
  unfold pyHashByItsType.reduced
  unfold reduceHash at h
  split
  ·rename_i c
   rw [if_pos c] at h
   exact wpAny_pure (by simpa [Nat.add_assoc] using h)
  ·rename_i c
   rw [if_neg c] at h
   exact wpAny_bind (wpAny_rule (wpAny_pure (by simpa [Nat.add_assoc] using h)))
inductive Eqs (P:Program) (w:World) (h:Heap) (need:Nat):List Value->List Value->Bool->Prop
 | nil:Eqs P w h need [] [] true
 | left {v:Value}{vs:List Value}:Eqs P w h need (v::vs) [] false
 | right {v:Value}{vs:List Value}:Eqs P w h need [] (v::vs) false
 | ne {u v:Value}{us vs:List Value}:kr P w h need u v false->Eqs P w h need (u::us) (v::vs) false
 | cons {u v:Value}{us vs:List Value}{b:Bool}:kr P w h need u v true->Eqs P w h need us vs b->Eqs P w h need (u::us) (v::vs) b
theorem mG {a a':Addr}{o o':Obj}{xs ys:Array Value}{n n' need:Nat}{b:Bool}{Q:Bool->Shared->Prop} (ho:s.heap.get? a=some o) (hc:o.cls=.type "tuple") (hd:o.data=.seq xs n) (ho':s.heap.get? a'=some o') (hc':o'.cls=.type "tuple") (hd':o'.data=.seq ys n')
  (he:Eqs P w s.heap need xs.toList ys.toList b) (hab:a=a'->b=true) (hu:A.units + (need + 1) < cLine) (h:Q b s):wpAny (model P w) A (eqBool (.ref a) (.ref a')) Q E s:=by
 have hT:s.TypeIs (.ref a) "tuple":=⟨o,ho,hc⟩
 have hT':s.TypeIs (.ref a') "tuple":=⟨o',ho',hc'⟩
 unfold eqBool
 refine wpAny_holding ?_
 refine wpAny_ite_split (λz=>?_) (λ_=>?_)
 ·have e:a=a':=by have:=eq_of_beq z;injection this
  rw [hab e] at h
  exact wpAny_bind (wpAny_rule (wpAny_pure h))
 ·refine wpAny_bind (wpAny_richCompare_same_room (op:=.Eq) hT hT' F.slot_tuple_eq (wpAny_call_entry F.slot_tuple_eq hT F.entry_tuple_eq ?_ (F.args_tuple_eq_2 _ _)) (by omega))
  show wpAny _ _ (isInstance (.ref a') (.type "tuple") >>= _) _ _ s
  refine wpAny_bind (wpAny_isInstance hT' isSubtype_tuple_tuple ?_)
  refine wpAny_ite_split (λz=>absurd z (by decide)) (λ_=>?_)
  refine wpAny_bind (wpAny_tupleItemsOf ho hd ?_)
  refine wpAny_bind (wpAny_tupleItemsOf ho' hd' ?_)
  refine wpAny_bind ?_
  refine wpAny_forIn_list _ (λrest r s'=>r.1=none/\s'=s/\∃ us vs,rest=us.zip vs/\Eqs P w s.heap need us vs b/\(us.length == vs.length)=(xs.size == ys.size)) _ ?_ ?_ _ _ ⟨rfl,rfl,xs.toList,ys.toList,rfl,he,by simp⟩
  ·rintro ⟨u,v⟩ rest r s' ⟨hr,rfl,us,vs,hz,hq,hl⟩
   cases hq with
   | nil=>cases hz
   | left=>cases hz
   | right=>cases hz
   | ne h1 =>
    cases hz
    refine wpAny_bind (h1 rfl (by rw [Around.in1_units];omega) ?_)
    refine wpAny_ite_split (λ_=>?_) (λz=>absurd (by decide) z)
    refine wpAny_bind (wpAny_pure (wpAny_pure (wpAny_pure ⟨_,rfl,(λz=>nomatch z),?_⟩)))
    exact wpAny_truthy_bool h
   | cons h1 h2 =>
    cases hz
    refine wpAny_bind (h1 rfl (by rw [Around.in1_units];omega) ?_)
    refine wpAny_ite_split (λz=>absurd z (by decide)) (λ_=>?_)
    exact wpAny_pure ⟨rfl,rfl,_,_,rfl,h2,by simpa using hl⟩
  ·rintro ⟨r1,r2⟩ s' ⟨hr,rfl,us,vs,hz,hq,hl⟩
   simp only at hr
   subst hr
   have hb:(xs.size == ys.size)=b:=by
    rw [<- hl]
    cases hq with
    | nil=>rfl
    | left=>rfl
    | right=>rfl
    | ne=>cases hz
    | cons=>cases hz
   refine wpAny_pure ⟨_,rfl,(λz=>nomatch z),?_⟩
   show wpAny _ _ (truthOfDropped (.bool (xs.size == ys.size))) _ _ _
   rw [hb]
   exact wpAny_truthy_bool h
theorem fk {a:Addr}{o:Obj}{items:Array Value}{n k:Nat} (ho:s.heap.get? a=some o) (hc:o.cls=.type "tuple") (hd:o.data=.seq items n) (hq:∀ v ∈ items.toList,eM P w s.heap k v) {Q:Bool->Shared->Prop} (h:Q true s):wpAny (model P w) A (eqIsQuiet (k + 1) (.ref a)) Q E s:=by
 have hT:s.TypeIs (.ref a) "tuple":=⟨o,ho,hc⟩
 unfold eqIsQuiet
 refine wpAny_bind (wpAny_specialOf hT F.slot_tuple_eq.lookup ?_)
 show wpAny _ _ (isInstance (.ref a) (.type "tuple") >>= _) _ _ s
 refine wpAny_bind (wpAny_isInstance hT isSubtype_tuple_tuple ?_)
 refine wpAny_ite_split (λz=>absurd z (by decide)) (λ_=>?_)
 refine wpAny_bind (wpAny_seqItems ho hd ?_)
 refine wpAny_bind ?_
 show wpAny _ _ (forIn items _ _) _ _ s
 rw [<- Array.forIn_toList]
 refine wpAny_forIn_list _ (λrest r s'=>r.1=none/\s'=s/\∀ v ∈ rest,eM P w s.heap k v) _ ?_ ?_ _ _ ⟨rfl,rfl,hq⟩
 ·rintro v rest r s' ⟨hr,rfl,hall⟩
  refine wpAny_bind (hall v (.head _) rfl ?_)
  refine wpAny_ite_split (λz=>absurd z (by decide)) (λ_=>?_)
  exact wpAny_pure ⟨rfl,rfl,λu hu'=>hall u (.tail _ hu')⟩
 ·rintro ⟨r1,r2⟩ s' ⟨hr,rfl,_⟩
  simp only at hr
  subst hr
  exact wpAny_pure h
end
end L2.Nk
namespace L2.Nk
open PySem PyProof.Rows
noncomputable abbrev NK:=List (List Int) × Str
noncomputable abbrev zP (P:Program) (w:World) (h:Heap) (k:List Int) (b:Addr):Prop:=IsTupleKey (intKind P w) h k b
noncomputable abbrev hT (P:Program) (w:World) (k:List Int):Int:=tupleKeyHash (intKind P w) k
section
variable {P:Program}{w:World}
inductive Strips (P:Program) (w:World) (h:Heap):List (List Int)->List Addr->Prop
 | nil:Strips P w h [] []
 | cons {k:List Int}{b:Addr}{R:List (List Int)}{bs:List Addr}:zP P w h k b->Strips P w h R bs->Strips P w h (k::R) (b::bs)
noncomputable def dz (P:Program) (w:World) (h:Heap) (R:List (List Int)) (a:Addr):Prop:=∃ o items n bs,h.get? a=some o/\o.cls=.type "tuple"/\o.data=.seq items n/\items.toList=bs.map Value.ref/\Strips P w h R bs
noncomputable def NKey (P:Program) (w:World) (h:Heap) (q:NK) (a:Addr):Prop:=∃ o items n r t,h.get? a=some o/\o.cls=.type "tuple"/\o.data=.seq items n/\items.toList=[.ref r,.str q.2 t]/\dz P w h q.1 r
theorem Strips.inj {h:Heap}{R R':List (List Int)}{bs:List Addr} (x:Strips P w h R bs) (y:Strips P w h R' bs):R=R':=by
 induction x generalizing R' with
 | nil=>cases y;rfl
 | cons h1 _ ih =>
  cases y with
  | cons h2 t=>rw [h1.inj h2,ih t]
theorem mH:∀ {xs ys:List Addr},xs.map Value.ref=ys.map Value.ref->xs=ys
 | [],[],_=>rfl
 | x::xs,y::ys,e=>by
  obtain ⟨e1,e2⟩:=List.cons.inj e
  rw [Value.ref.inj e1,mH e2]
theorem dz.inj {h:Heap}{R R':List (List Int)}{a:Addr} (x:dz P w h R a) (y:dz P w h R' a):R=R':=by
 obtain ⟨o,its,n,bs,h1,_,h3,h4,h5⟩:=x
 obtain ⟨o',its',n',bs',g1,_,g3,g4,g5⟩:=y
 rw [h1] at g1
 cases g1
 rw [h3] at g3
 cases g3
 rw [h4] at g4
 have:=mH g4
 subst this
 exact h5.inj g5
theorem NKey.inj {h:Heap}{q q':NK}{a:Addr} (x:NKey P w h q a) (y:NKey P w h q' a):q=q':=by
 obtain ⟨o,its,n,r,t,h1,_,h3,h4,h5⟩:=x
 obtain ⟨o',its',n',r',t',g1,_,g3,g4,g5⟩:=y
 rw [h1] at g1
 cases g1
 rw [h3] at g3
 cases g3
 rw [h4] at g4
 have e:=List.cons.inj g4
 have e1:=Value.ref.inj e.1
 have e2:=(Value.str.inj (List.cons.inj e.2).1).1
 subst e1
 exact Prod.ext (h5.inj g5) e2
noncomputable def bG (R:List (List Int)):Nat:=(R.map λk=>k.length + 1).sum
noncomputable def jn (P:Program) (w:World) (R:List (List Int)):Int:=reduceHash (Builtin.Tuple.tupleHashOf (R.map (hT P w)))
noncomputable def rq (P:Program) (w:World) (q:NK):Int:=reduceHash (Builtin.Tuple.tupleHashOf [jn P w q.1,(strKind P w).hash q.2])
theorem ii.more {h:Heap}{n m:Nat}{v:Value}{hv:Int}{d:Nat} (x:ii P w h n v hv d) (hnm:n <= m):ii P w h m v hv d:=λe hu q=>x e (by omega) q
theorem mI {h:Heap}{R:List (List Int)}{bs:List Addr} (x:Strips P w h R bs):ij P w h 0 (bs.map Value.ref) (R.map (hT P w)) (bG R):=by
 induction x with
 | nil=>exact .nil
 | @cons k b R bs h1 _ ih =>
  have e:bG (k::R)=(k.length + 1) + bG R:=rfl
  rw [e]
  refine .cons (λ{A E s Q} e hu q=>?_) ih
  subst e
  exact wpAny_pyHash_tuple (knd:=intKind P w) (by omega) h1 q
theorem p6 {h:Heap}{R:List (List Int)}{a:Addr} (x:dz P w h R a):ii P w h 1 (.ref a) (jn P w R) (bG R + 1):=λ{A E s Q} e hu q=>by
 subst e
 obtain ⟨o,its,n,bs,h1,h2,h3,h4,h5⟩:=x
 exact jm h1 h2 h3 (by rw [h4];exact mI h5) hu q
theorem nV (x:Str) (t:Tok):(strKind P w).is x (.str x t)=true:=strKind_is _ _ _ _
theorem vd {h:Heap}{q:NK}{a:Addr} (x:NKey P w h q a):ii P w h 2 (.ref a) (rq P w q) (bG q.1 + 3):=λ{A E s Q} e hu hq=>by
 subst e
 obtain ⟨o,its,n,r,t,h1,h2,h3,h4,h5⟩:=x
 refine jm (hs:=[jn P w q.1,(strKind P w).hash q.2]) (d:=bG q.1 + 1 + (1 + 0)) h1 h2 h3 ?_ hu ?_
 ·rw [h4]
  refine .cons (p6 h5) (.cons (λ{A E s Q} e hu z=>?_) .nil)
  exact (strKind P w).pyHash (nV q.2 t) z
 ·have e:bG q.1 + 1 + (1 + 0) + 1=bG q.1 + 3:=by omega
  rw [e]
  exact hq
theorem kr.more {h:Heap}{n m:Nat}{u v:Value}{b:Bool} (x:kr P w h n u v b) (hnm:n <= m):kr P w h m u v b:=λe hu q=>x e (by omega) q
theorem kL {h:Heap}:∀ {R R':List (List Int)}{bs bs':List Addr},Strips P w h R bs->Strips P w h R' bs'->Eqs P w h 0 (bs.map Value.ref) (bs'.map Value.ref) (decide (R=R'))
 | _,_,_,_,.nil,.nil=>.nil
 | _,_,_,_,.nil,.cons _ _=>.right
 | _,_,_,_,.cons _ _,.nil=>.left
 | k::R,k'::R',_,_,.cons h1 t1,.cons h2 t2=>by
  have eq:kr P w h 0 (.ref _) (.ref _) (decide (k=k')):=λ{A E s Q} e hu q=>by
   subst e
   exact wpAny_eqBool_tuple (knd:=intKind P w) (by omega) h1 h2 q
  by_cases hk:k=k'
  ·subst hk
   rw [decide_eq_true rfl] at eq
   have e:decide (k::R=k::R')=decide (R=R'):=by simp
   rw [e]
   exact .cons eq (kL t1 t2)
  ·rw [decide_eq_false hk] at eq
   have e:decide (k::R=k'::R')=false:=decide_eq_false λz=>hk (List.cons.inj z).1
   rw [e]
   exact .ne eq
theorem ve {h:Heap}{R R':List (List Int)}{a a':Addr} (x:dz P w h R a) (y:dz P w h R' a'):kr P w h 1 (.ref a) (.ref a') (decide (R=R')):=λ{A E s Q} e hu q=>by
 subst e
 have inj:a=a'->decide (R=R')=true:=λz=>by subst z;exact decide_eq_true (x.inj y)
 obtain ⟨o,its,n,bs,h1,h2,h3,h4,h5⟩:=x
 obtain ⟨o',its',n',bs',g1,g2,g3,g4,g5⟩:=y
 exact mG h1 h2 h3 g1 g2 g3 (by rw [h4,g4];exact kL h5 g5) inj hu q
theorem zQ {h:Heap}{q q':NK}{a a':Addr} (x:NKey P w h q a) (y:NKey P w h q' a'):kr P w h 2 (.ref a) (.ref a') (decide (q=q')):=λ{A E s Q} e hu z=>by
 subst e
 have inj:a=a'->decide (q=q')=true:=λz=>by subst z;exact decide_eq_true (x.inj y)
 obtain ⟨o,its,n,r,t,h1,h2,h3,h4,h5⟩:=x
 obtain ⟨o',its',n',r',t',g1,g2,g3,g4,g5⟩:=y
 refine mG h1 h2 h3 g1 g2 g3 ?_ inj hu z
 rw [h4,g4]
 have er:kr P w s.heap 1 (.ref r) (.ref r') (decide (q.1=q'.1)):=ve h5 g5
 have es:kr P w s.heap 1 (.str q.2 t) (.str q'.2 t') (decide (q.2=q'.2)):=λ{A E s Q} e hu z=>(strKind P w).eqBool (nV q.2 t) (nV q'.2 t') z
 by_cases hr:q.1=q'.1
 ·rw [decide_eq_true hr] at er
  by_cases hx:q.2=q'.2
  ·rw [decide_eq_true hx] at es
   rw [decide_eq_true (Prod.ext hr hx)]
   exact .cons er (.cons es .nil)
  ·rw [decide_eq_false hx] at es
   rw [decide_eq_false λz=>hx (by rw [z])]
   exact .cons er (.ne es)
 ·rw [decide_eq_false hr] at er
  rw [decide_eq_false λz=>hr (by rw [z])]
  exact .ne er
theorem kM {h:Heap}{v:Value} (n:Nat) (hv:carriedByValue v=true):eM P w h n v:=λ{A E s Q} e q=>by
 rw [eqIsQuiet_byValue n hv]
 exact wpAny_pure q
theorem mJ {h:Heap}{k:List Int}{b:Addr} (n:Nat) (x:zP P w h k b):eM P w h (n + 1) (.ref b):=λ{A E s Q} e q=>by
 subst e
 obtain ⟨o,its,m,h1,h2,h3,h4⟩:=x
 exact fk h1 h2 h3 (λv hv=>kM n (h4.byValue v hv)) q
theorem lG {h:Heap}{R:List (List Int)}{bs:List Addr} (n:Nat) (x:Strips P w h R bs):∀ v ∈ bs.map Value.ref,eM P w h (n + 1) v:=by
 induction x with
 | nil=>intro v hv;cases hv
 | cons h1 _ ih =>
  intro v hv
  rcases List.mem_cons.mp hv with rfl|hv
  ·exact mJ n h1
  ·exact ih v hv
theorem nW {h:Heap}{R:List (List Int)}{a:Addr} (n:Nat) (x:dz P w h R a):eM P w h (n + 2) (.ref a):=λ{A E s Q} e q=>by
 subst e
 obtain ⟨o,its,m,bs,h1,h2,h3,h4,h5⟩:=x
 exact fk h1 h2 h3 (by rw [h4];exact lG n h5) q
theorem rA {h:Heap}{q:NK}{a:Addr} (n:Nat) (x:NKey P w h q a):eM P w h (n + 3) (.ref a):=λ{A E s Q} e z=>by
 subst e
 obtain ⟨o,its,m,r,t,h1,h2,h3,h4,h5⟩:=x
 refine fk h1 h2 h3 (λv hv=>?_) z
 rw [h4] at hv
 rcases List.mem_cons.mp hv with rfl|hv
 ·exact nW n h5
 ·rw [List.mem_singleton.mp hv]
  exact kM _ rfl
theorem Strips.at {h h':Heap}{R:List (List Int)}{bs:List Addr} (x:Strips P w h R bs) (e:∀ b o its n,o.data=.seq its n->h.get? b=some o->h'.get? b=some o):Strips P w h' R bs:=by
 induction x with
 | nil=>exact .nil
 | cons h1 _ ih =>
  obtain ⟨o,its,n,h1,h2,h3,h4⟩:=h1
  exact .cons ⟨o,its,n,e _ _ _ _ h3 h1,h2,h3,h4⟩ ih
theorem NKey.at {h h':Heap}{q:NK}{a:Addr} (x:NKey P w h q a) (e:∀ b o its n,o.data=.seq its n->h.get? b=some o->h'.get? b=some o):NKey P w h' q a:=by
 obtain ⟨o,its,n,r,t,h1,h2,h3,h4,o',its',n',bs,g1,g2,g3,g4,g5⟩:=x
 exact ⟨o,its,n,r,t,e _ _ _ _ h3 h1,h2,h3,h4,o',its',n',bs,e _ _ _ _ g3 g1,g2,g3,g4,g5.at e⟩
theorem NKey.keeps {h h':Heap}{q:NK}{a d:Addr}{o:Obj}{es:Array DictEntry}{ep:Nat} (x:NKey P w h q a) (ho:h.get? d=some o) (hx:o.data=.dict es ep) (hs:Heap.SameBut d h h'):NKey P w h' q a:=x.at λb o' its n hd e=>by
 have:b ≠ d:=by
  rintro rfl
  rw [ho] at e
  cases e
  rw [hx] at hd
  cases hd
 rw [hs.2 b this]
 exact e
end
noncomputable def nkKind (P:Program) (w:World):HeapKind P w NK where
 is:=NKey P w
 hash:=rq P w
 draws:=λq=>bG q.1 + 3
 room:=λA=>A.units + 2 < cLine
 inj:=λx y=>x.inj y
 keeps:=λx ho hd hs=>x.keeps ho hd hs
 pyHash:=λhu x h=>vd x rfl hu h
 eqBool:=λhu x y h=>zQ x y rfl hu h
 quiet:=λx h=>rA 5 x rfl h
end L2.Nk
namespace L2
open PySem PySem.Spec PyProof.Rows
noncomputable abbrev Key:=Sum Int Str
noncomputable def kN:Key->Value->Bool
 | .inl k,v=>Value.isInt k v
 | .inr x,v=>Value.isStrOf x v
noncomputable def BE (w:World):Key->Int
 | .inl k=>hashInt k
 | .inr x=>hashStr w x
theorem a9:∀ {k:Key}{v:Value},kN k v=true->(∃ i t,k=Sum.inl i/\v=Value.int i t) \/ (∃ x t,k=Sum.inr x/\v=Value.str x t)
 | .inl i,v,h=>by
  obtain ⟨t,e⟩:=Value.isInt_shape (k:=i) (v:=v) h
  exact .inl ⟨i,t,rfl,e⟩
 | .inr x,v,h=>by
  obtain ⟨t,e⟩:=Value.isStrOf_shape (x:=x) (v:=v) h
  exact .inr ⟨x,t,rfl,e⟩
theorem p7 (i:Int) (t:Tok):kN (.inl i) (.int i t)=true:=by simp [kN,Value.isInt]
theorem p8 (x:Str) (t:Tok):kN (.inr x) (.str x t)=true:=by simp [kN,Value.isStrOf]
theorem xp (a b:Int):decide ((Sum.inl a:Key)=Sum.inl b)=(a == b):=by
 by_cases e:a=b
 ·subst e;simp
 ·have h:¬ (Sum.inl a:Key)=Sum.inl b:=λq=>e (Sum.inl.inj q)
  rw [decide_eq_false h]
  exact (beq_eq_false_iff_ne.mpr e).symm
theorem xq (a b:Str):decide ((Sum.inr a:Key)=Sum.inr b)=decide (a=b):=by
 by_cases e:a=b
 ·subst e;simp
 ·have h:¬ (Sum.inr a:Key)=Sum.inr b:=λq=>e (Sum.inr.inj q)
  rw [decide_eq_false h,decide_eq_false e]
theorem xr (a:Int) (b:Str):decide ((Sum.inl a:Key)=Sum.inr b)=false:=decide_eq_false (λq=>nomatch q)
theorem xt (a:Str) (b:Int):decide ((Sum.inr a:Key)=Sum.inl b)=false:=decide_eq_false (λq=>nomatch q)
noncomputable def bq (prog:Program) (w:World):PySem.KeyKind prog w Key where
 is:=kN
 hash:=BE w
 inj:=λv a b ha hb=>by
  rcases a9 ha with ⟨i,t,rfl,rfl⟩|⟨x,t,rfl,rfl⟩
  ·rcases a9 hb with ⟨j,u,rfl,e⟩|⟨y,u,rfl,e⟩
   ·injection e with e1 _;rw [e1]
   ·exact nomatch e
  ·rcases a9 hb with ⟨j,u,rfl,e⟩|⟨y,u,rfl,e⟩
   ·exact nomatch e
   ·injection e with e1 _;rw [e1]
 byValue:=λk v h=>by
  rcases a9 h with ⟨i,t,rfl,rfl⟩|⟨x,t,rfl,rfl⟩ <;> rfl
 pyHash:=λhv h=>by
  rcases a9 hv with ⟨i,t,rfl,rfl⟩|⟨x,t,rfl,rfl⟩
  ·exact wpAny_pyHash_int h
  ·exact wpAny_pyHash_str h
 eqBool:=λhu hv h=>by
  rcases a9 hu with ⟨i,t,rfl,rfl⟩|⟨x,t,rfl,rfl⟩
  ·rcases a9 hv with ⟨j,u,rfl,rfl⟩|⟨y,u,rfl,rfl⟩
   ·rw [xp] at h;exact wpAny_eqBool_int h
   ·rw [xr] at h;exact SeqAt.EqAt.int_str i t y u _ _ _ _ h
  ·rcases a9 hv with ⟨j,u,rfl,rfl⟩|⟨y,u,rfl,rfl⟩
   ·rw [xt] at h;exact SeqAt.EqAt.str_int x t j u _ _ _ _ h
   ·rw [xq] at h;exact wpAny_eqBool_str h
 «strs»:=λk x t v h=>by
  rcases a9 h with ⟨i,u,rfl,e⟩|⟨y,u,rfl,e⟩
  ·exact nomatch e
  ·injection e with e1 _
   subst e1
   cases v <;> rfl
theorem mK (prog:Program) (w:World) (i:Int) (t:Tok):(bq prog w).is (.inl i) (.int i t)=true:=p7 i t
theorem mL (prog:Program) (w:World) (x:Str) (t:Tok):(bq prog w).is (.inr x) (.str x t)=true:=p8 x t
end L2
namespace L2
open PySem PySem.Spec PyProof.Rows
inductive V where
 | non|bl (b:Bool)|int (i:Int)|str (x:Str)|byt (b:Array UInt8)|flt (b:UInt64)|ref (a:Addr)|ty (n:String)
 deriving DecidableEq
noncomputable def ak:V->Value->Prop
 | .non,u=>u=Value.none
 | .bl b,u=>u=Value.bool b
 | .int i,u=>∃ t,u=Value.int i t
 | .str x,u=>∃ t,u=Value.str x t
 | .byt b,u=>∃ t,u=Value.bytes b t
 | .flt b,u=>∃ t,u=Value.float b t
 | .ref a,u=>u=Value.ref a
 | .ty n,u=>u=Value.type n
noncomputable abbrev al:List V->List Value->Prop:=Paired ak
theorem al.length {xs:List V}{us:List Value} (r:al xs us):xs.length=us.length:=Paired.length r
theorem al.get:∀ {xs:List V}{us:List Value}{i:Nat}{x:V},al xs us->xs[i]?=some x->∃ u,us[i]?=some u/\ak x u
 | _,_,_,_,.nil,e=>by simp at e
 | _,_,0,_,.cons r _,e=>by simp at e;subst e;exact ⟨_,rfl,r⟩
 | _,_,i + 1,x,.cons _ t,e=>by
  obtain ⟨u,h1,h2⟩:=al.get (i:=i) (x:=x) t (by simpa using e)
  exact ⟨u,by simpa using h1,h2⟩
theorem al.set {x:V}{u:Value} (r:ak x u):∀ {xs:List V}{us:List Value} (i:Nat),al xs us->al (xs.set i x) (us.set i u)
 | _,_,_,.nil=>.nil
 | _,_,0,.cons _ t=>.cons r t
 | _,_,i + 1,.cons q t=>.cons q (al.set r i t)
theorem al.append:∀ {xs ys:List V}{us ws:List Value},al xs us->al ys ws->al (xs ++ ys) (us ++ ws)
 | _,_,_,_,.nil,s=>s
 | _,_,_,_,.cons r t,s=>.cons r (al.append t s)
theorem al.take:∀ {xs:List V}{us:List Value} (n:Nat),al xs us->al (xs.take n) (us.take n)
 | _,_,0,_=>.nil
 | _,_,_ + 1,.nil=>.nil
 | _,_,n + 1,.cons r t=>.cons r (al.take n t)
theorem al.drop:∀ {xs:List V}{us:List Value} (n:Nat),al xs us->al (xs.drop n) (us.drop n)
 | _,_,0,r=>r
 | _,_,_ + 1,.nil=>.nil
 | _,_,n + 1,.cons _ t=>al.drop n t
noncomputable def gD:Option V->Option Value->Prop
 | some v,some u=>ak v u
 | none,none=>True
 | _,_=>False
noncomputable def KV {κ:Type}:List (κ × V)->List (κ × Value)->Prop:=Paired λ(p:κ × V) (q:κ × Value)=>p.1=q.1/\ak p.2 q.2
noncomputable def kV:Key->V
 | .inl i=>.int i
 | .inr x=>.str x
inductive HO where
 | lst (xs:List V)
 | tup (xs:List V)
 | dK (kvs:List (Key × V))|dT (kvs:List (List Key × V))
 | dN (kvs:List (Nk.NK × V))
 | set (S:Int->Bool) (n:Nat)
 | ins (C dx:Addr) (fs:List (Str × V))
 | own (x:Addr)
 | xd (fs:List (Str × V))
 | met (f x:Addr)
 | rng (lo hi:Int)
 | frz (o:Obj) (u:HO)
 | tbl (ps:Array Value)
 | ext (φ:Heap->Prop)
noncomputable abbrev Hp:=Addr->Option HO
noncomputable def upd (H:Hp) (a:Addr) (o:HO):Hp:=λb=>if b=a then some o else H b
theorem ar {H:Hp}{a:Addr}{o:HO}:upd H a o a=some o:=by unfold upd;rw [if_pos rfl]
theorem aH {H:Hp}{a b:Addr}{o:HO} (h:b ≠ a):upd H a o b=H b:=by unfold upd;rw [if_neg h]
theorem wS {H:Hp}{a b:Addr}{o u:HO} (h:H a=some o) (h':H b=some u) (d:o ≠ u):a ≠ b:=by
 intro e;subst e;rw [h] at h';exact d (Option.some.inj h')
theorem bC {H:Hp}{a b:Addr}{o:HO} (h:H a=some o) (h':H b=none):a ≠ b:=by
 intro e;subst e;rw [h] at h';cases h'
inductive lH (H:Hp):List (List Int)->List Addr->Prop
 | nil:lH H [] []
 | cons {k:List Int}{b:Addr}{R:List (List Int)}{bs:List Addr}:H b=some (.tup (k.map V.int))->lH H R bs->lH H (k::R) (b::bs)
noncomputable def NAt (H:Hp) (q:Nk.NK) (a:Addr):Prop:=∃ r bs,H a=some (.tup [.ref r,.str q.2])/\H r=some (.tup (bs.map V.ref))/\lH H q.1 bs
theorem lH.mono {H H':Hp}{R:List (List Int)}{bs:List Addr} (x:lH H R bs) (s:∀ b xs,H b=some (.tup xs)->H' b=some (.tup xs)):lH H' R bs:=by
 induction x with
 | nil=>exact .nil
 | cons h1 _ ih=>exact .cons (s _ _ h1) ih
theorem NAt.mono {H H':Hp}{q:Nk.NK}{a:Addr} (x:NAt H q a) (s:∀ b xs,H b=some (.tup xs)->H' b=some (.tup xs)):NAt H' q a:=by
 obtain ⟨r,bs,h1,h2,h3⟩:=x
 exact ⟨r,bs,s _ _ h1,s _ _ h2,h3.mono s⟩
section
variable (P:Program) (w:World)
noncomputable def aM (H:Hp) (h:Heap) (a:Addr):HO->Prop
 | .lst xs=>xs.length <= sizeLine/\∃ (its:List Value) (n:Nat),al xs its/\h.get? a=some { cls:=.type "list",data:=.seq its.toArray n }
 | .tup xs=>xs.length <= sizeLine/\∃ its:List Value,al xs its/\IsTup h a its.toArray
 | .dK kvs=>kvs.length <= sizeLine/\(a == sysModules)=false/\∃ vs,KV kvs vs/\h.DictOf (bq P w) a vs
 | .dT kvs=>kvs.length <= sizeLine/\(a == sysModules)=false/\∃ xs:List (List Key × Addr × Value),
   Paired (λ(p:List Key × V) (q:List Key × Addr × Value)=>p.1=q.1/\H q.2.1=some (.tup (p.1.map kV))/\ak p.2 q.2.2) kvs xs /\
   ∃ o es ep,h.get? a=some o/\o.ExactDict/\o.data=.dict es ep/\es.toList=xs.map (entryOfKey (tupleKind (bq P w)))/\(xs.map (·.1)).Nodup
 | .dN kvs=>kvs.length <= sizeLine/\(a == sysModules)=false/\∃ xs:List (Nk.NK × Addr × Value),Paired (λ(p:Nk.NK × V) (q:Nk.NK × Addr × Value)=>p.1=q.1/\NAt H p.1 q.2.1/\ak p.2 q.2.2) kvs xs /\
   ∃ o es ep,h.get? a=some o/\o.ExactDict/\o.data=.dict es ep/\es.toList=xs.map (entryOfKey (Nk.nkKind P w))/\(xs.map (·.1)).Nodup
 | .set S n=>h.SetOf (intKind P w) a S n
 | .ins C dx fs=>H dx=some (.own a)/\fs.length <= 1000/\dx ≠ a/\h.get? a=some (PySem.W.instObj C dx) /\
   ∃ mA,h.Ns1 dx mA/\(∀ f,gD (fs.lookup f) (mA f))/\PySem.Within mA (fs.map (·.1))
 | .own _=>∃ o,h.get? a=some o
 | .xd fs=>∃ mA,h.Ns1 a mA/\∀ f,gD (fs.lookup f) (mA f)
 | .rng lo hi=>∃ t u v,h.get? a=some { cls:=.type "range",data:=.fields #[.int lo t,.int hi u,.int 1 v] }
 | .frz o u=>h.get? a=some o/\aM H h a u
 | .tbl ps=>h.get? a=some { cls:=.none,data:=.fields ps }
 | .met f x=>h.get? a=some (PySem.W.methodObj (.ref f) (.ref x))
 | .ext φ=>φ h/\(∃ o,h.get? a=some o)/\∀ h1 h2:Heap,φ h1->(∀ o,h1.get? a=some o->h2.get? a=some o)->φ h2
noncomputable def HOk (H:Hp) (h:Heap):Prop:=∀ a o,H a=some o->aM P w H h a o
end
section
variable {P:Program}{w:World}{H H':Hp}{h h':Heap}{a:Addr}{o:HO}
theorem aM.lt (x:aM P w H h a o):a < h.objs.size:=by
 cases o with
 | lst xs=>obtain ⟨_,_,_,_,e⟩:=x;exact Heap.lt_size e
 | tup xs=>obtain ⟨_,_,_,p⟩:=x;exact p.lt
 | dK kvs=>obtain ⟨_,_,_,_,o,_,_,e,_⟩:=x;exact Heap.lt_size e
 | dT kvs=>obtain ⟨_,_,_,_,o,_,_,e,_⟩:=x;exact Heap.lt_size e
 | dN kvs=>obtain ⟨_,_,_,_,o,_,_,e,_⟩:=x;exact Heap.lt_size e
 | set S n=>obtain ⟨o,_,_,_,e,_⟩:=x;exact Heap.lt_size e
 | ins C dx fs=>obtain ⟨_,_,_,e,_⟩:=x;exact Heap.lt_size e
 | own y=>obtain ⟨_,e⟩:=x;exact Heap.lt_size e
 | xd fs=>obtain ⟨_,⟨_,_,_,e,_⟩,_⟩:=x;exact Heap.lt_size e
 | rng lo hi=>obtain ⟨_,_,_,e⟩:=x;exact Heap.lt_size e
 | frz ob u=>obtain ⟨e,_⟩:=x;exact Heap.lt_size e
 | tbl ps=>exact Heap.lt_size (show h.get? a=some _ from x)
 | met f y=>exact Heap.lt_size (show h.get? a=some _ from x)
 | ext φ=>obtain ⟨_,⟨_,e⟩,_⟩:=x;exact Heap.lt_size e
theorem Paired.mapP {α β:Type}{F G:α->β->Prop}:∀ {l₁:List α}{l₂:List β},Paired F l₁ l₂->(∀ a b,F a b->G a b)->Paired G l₁ l₂
 | _,_,.nil,_=>.nil
 | _,_,.cons r t,f=>.cons (f _ _ r) (Paired.mapP t f)
theorem Paired.imp' {α β:Type}{F G:α->β->Prop} (f:∀ a b,F a b->G a b) {l₁:List α}{l₂:List β} (r:Paired F l₁ l₂):Paired G l₁ l₂:=Paired.mapP r f
theorem aM.stay (x:aM P w H h a o) (k:∀ b u,(b=a \/ H b=some (.own a))->h.get? b=some u->h'.get? b=some u)
  (ho:∀ b,H b=some (.own a)->H' b=some (.own a)) (ht:∀ b xs,H b=some (.tup xs)->H' b=some (.tup xs)):aM P w H' h' a o:=by
 induction o with
 | lst xs=>obtain ⟨z,its,n,r,e⟩:=x;exact ⟨z,its,n,r,k _ _ (.inl rfl) e⟩
 | tup xs=>obtain ⟨z,its,r,ob,e,c⟩:=x;exact ⟨z,its,r,ob,k _ _ (.inl rfl) e,c⟩
 | dK kvs=>obtain ⟨z,y,vs,r,ob,es,ep,e,c⟩:=x;exact ⟨z,y,vs,r,ob,es,ep,k _ _ (.inl rfl) e,c⟩
 | dT kvs =>
  obtain ⟨z,y,xs,r,ob,es,ep,e,c⟩:=x
  exact ⟨z,y,xs,Paired.mapP r λp q z=>⟨z.1,ht _ _ z.2.1,z.2.2⟩,ob,es,ep,k _ _ (.inl rfl) e,c⟩
 | dN kvs =>
  obtain ⟨z,y,xs,r,ob,es,ep,e,c⟩:=x
  exact ⟨z,y,xs,Paired.mapP r λp q z=>⟨z.1,z.2.1.mono ht,z.2.2⟩,ob,es,ep,k _ _ (.inl rfl) e,c⟩
 | set S n=>obtain ⟨ob,es,ep,t,e,c⟩:=x;exact ⟨ob,es,ep,t,k _ _ (.inl rfl) e,c⟩
 | ins C dx fs =>
  obtain ⟨d,z,ne,e,mA,⟨od,es,ep,e2,c⟩,r⟩:=x
  exact ⟨ho _ d,z,ne,k _ _ (.inl rfl) e,mA,⟨od,es,ep,k _ _ (.inr d) e2,c⟩,r⟩
 | own y=>obtain ⟨ob,e⟩:=x;exact ⟨ob,k _ _ (.inl rfl) e⟩
 | xd fs=>obtain ⟨mA,⟨od,es,ep,e,c⟩,r⟩:=x;exact ⟨mA,⟨od,es,ep,k _ _ (.inl rfl) e,c⟩,r⟩
 | rng lo hi=>obtain ⟨t,u,v,e⟩:=x;exact ⟨t,u,v,k _ _ (.inl rfl) e⟩
 | frz ob u ih=>obtain ⟨e,q⟩:=x;exact ⟨k _ _ (.inl rfl) e,ih q⟩
 | tbl ps =>
  have e:h.get? a=some { cls:=.none,data:=.fields ps }:=x
  show h'.get? a=some { cls:=.none,data:=.fields ps }
  exact k a _ (.inl rfl) e
 | met f y =>
  have e:h.get? a=some (PySem.W.methodObj (.ref f) (.ref y)):=x
  show h'.get? a=some (PySem.W.methodObj (.ref f) (.ref y))
  exact k a _ (.inl rfl) e
 | ext φ=>obtain ⟨p,⟨o,e⟩,st⟩:=x;exact ⟨st _ _ p λo q=>k _ _ (.inl rfl) q,⟨o,k _ _ (.inl rfl) e⟩,st⟩
theorem HOk.lt (x:HOk P w H h) (e:H a=some o):a < h.objs.size:=(x a o e).lt
theorem HOk.fresh (x:HOk P w H h) (e:h.objs.size <= a):H a=none:=by
 cases q:H a with
 | none=>rfl
 | some u=>exact absurd (Nat.lt_of_lt_of_le (x.lt q) e) (Nat.lt_irrefl _)
theorem HOk.kept (x:HOk P w H h) (k:∀ b u,h.get? b=some u->h'.get? b=some u):HOk P w H h':=λa o e =>
 (x a o e).stay (λb u _ q=>k b u q) (λ_ q=>q) λ_ _ q=>q
theorem HOk.laid (x:HOk P w H h) (k:∀ b u,h.get? b=some u->h'.get? b=some u) (hp:h.objs.size <= a) (new:aM P w (upd H a o) h' a o):HOk P w (upd H a o) h':=λb u e=>by
 have hn:=x.fresh hp
 by_cases hb:b=a
 ·subst hb;rw [ar] at e;cases e;exact new
 ·rw [aH hb] at e
  exact (x b u e).stay (λc v _ q=>k c v q) (λc q=>by rw [aH (bC q hn)];exact q) λc xs q=>by rw [aH (bC q hn)];exact q
end
noncomputable def Rd (H:Hp) (a:Addr) (u:HO):Prop:=H a=some u \/ ∃ o,H a=some (.frz o u)
theorem Rd.of {H:Hp}{a:Addr}{u:HO} (h:H a=some u):Rd H a u:=.inl h
theorem Rd.ok {P:Program}{w:World}{H:Hp}{h:Heap}{a:Addr}{u:HO} (r:Rd H a u) (x:HOk P w H h):aM P w H h a u:=by
 rcases r with r|⟨o,r⟩
 ·exact x a u r
 ·obtain ⟨_,q⟩:=x a _ r
  exact q
noncomputable def Mut:Option HO->Prop
 | some (.lst _)=>True
 | some (.dK _)=>True
 | some (.dT _)=>True
 | some (.dN _)=>True
 | some (.set _ _)=>True
 | some (.ins _ _ _)=>True
 | some (.ext _)=>True
 | _=>False
section
variable {P:Program}{w:World}{H:Hp}{h h':Heap}{x e:Addr}{o':HO}
theorem HOk.write (ok:HOk P w H h) (mu:Mut (H x)) (he:e=x \/ H e=some (.own x)) (k:∀ b u,b ≠ e->h.get? b=some u->h'.get? b=some u) (heo:∃ u,h'.get? e=some u)
  (new:aM P w (upd H x o') h' x o'):HOk P w (upd H x o') h':=λb u q=>by
 have nown:∀ c y,H c=some (.own y)->c ≠ x:=λc y r z=>by subst z;rw [r] at mu;exact mu
 have ntup:∀ c xs,H c=some (.tup xs)->c ≠ x:=λc xs r z=>by subst z;rw [r] at mu;exact mu
 by_cases hb:b=x
 ·subst hb;rw [ar] at q;cases q;exact new
 ·rw [aH hb] at q
  by_cases hbe:b=e
  ·have q':H b=some (.own x):=by
    rcases he with z|z
    ·exact absurd (hbe.trans z) hb
    ·rw [hbe];exact z
   rw [q] at q';cases q'
   obtain ⟨v,hv⟩:=heo
   exact ⟨v,by rw [hbe];exact hv⟩
  ·refine (ok b u q).stay (λc v hc r=>k c v ?_ r) (λc r=>by rw [aH (nown c b r)];exact r) λc xs r=>by rw [aH (ntup c xs r)];exact r
   rcases hc with rfl|hc
   ·exact hbe
   ·rintro rfl
    rcases he with z|z
    ·exact nown c b hc z
    ·rw [hc] at z;cases z;exact hb rfl
end
structure Un (fs ex:List Addr) (H H':Hp) (h h':Heap):Prop where
 keep:∀ b o,h.get? b=some o->H b=none->b ∉ fs->b ∉ ex->h'.get? b=some o
 slot:∀ b o,h.get? b=some o->H b=none->b ∈ fs->b ∉ ex->∃ sl,h'.get? b=some { o with slots:=sl }
 free:∀ b o,h.get? b=some o->H b=none->b ∉ ex->H' b=none
 there:∀ b o,h.get? b=some o->b ∉ ex->∃ o',h'.get? b=some o'
 tups:∀ b xs,H b=some (.tup xs)->H' b=some (.tup xs)
 frzs:∀ b o u,H b=some (.frz o u)->H' b=some (.frz o u)
 tbls:∀ b ps,H b=some (.tbl ps)->∃ more,H' b=some (.tbl (ps ++ more))
section
variable {fs fs' ex ex':List Addr}{H H1 H2:Hp}{h h1 h2 h':Heap}{a x e:Addr}{o:HO}
theorem Un.any (u:Un fs ex H H1 h h1) {b:Addr}{ob:Obj} (q:h.get? b=some ob) (n:H b=none) (hx:b ∉ ex):∃ sl,h1.get? b=some { ob with slots:=sl }:=by
 by_cases hb:b ∈ fs
 ·exact u.slot b ob q n hb hx
 ·exact ⟨ob.slots,u.keep b ob q n hb hx⟩
theorem Un.trans (a:Un fs ex H H1 h h1) (b:Un fs ex H1 H2 h1 h2):Un fs ex H H2 h h2 where
 keep:=λc ob q n hc hx=>b.keep c ob (a.keep c ob q n hc hx) (a.free c ob q n hx) hc hx
 slot:=λc ob q n hc hx=>by
  obtain ⟨sl,e1⟩:=a.slot c ob q n hc hx
  obtain ⟨sl',e2⟩:=b.slot c _ e1 (a.free c ob q n hx) hc hx
  exact ⟨sl',e2⟩
 free:=λc ob q n hx=>by
  obtain ⟨o',e1⟩:=a.there c ob q hx
  exact b.free c o' e1 (a.free c ob q n hx) hx
 there:=λc ob q hx=>by
  obtain ⟨o',e1⟩:=a.there c ob q hx
  exact b.there c o' e1 hx
 tups:=λc xs q=>b.tups c xs (a.tups c xs q)
 frzs:=λc ob xs q=>b.frzs c ob xs (a.frzs c ob xs q)
 tbls:=λc ps q=>by
  obtain ⟨m1,e1⟩:=a.tbls c ps q
  obtain ⟨m2,e2⟩:=b.tbls c _ e1
  exact ⟨m1 ++ m2,by rw [e2,Array.append_assoc]⟩
theorem Un.kept (k:∀ b u,h.get? b=some u->h'.get? b=some u):Un fs ex H H h h' :=
 ⟨λb ob q _ _ _=>k b ob q,λb ob q _ _ _=>⟨ob.slots,k b ob q⟩,λ_ _ _ n _=>n,λb ob q _=>⟨ob,k b ob q⟩,λ_ _ q=>q,λ_ _ _ q=>q,λ_ ps q=>⟨#[],by rw [q];simp⟩⟩
theorem Un.refl:Un fs ex H H h h:=Un.kept λ_ _ q=>q
theorem Un.laid (k:∀ b u,h.get? b=some u->h'.get? b=some u) (hp:h.objs.size <= a) (hn:H a=none):Un fs ex H (upd H a o) h h' where
 keep:=λb u q _ _ _=>k b u q
 slot:=λb u q _ _ _=>⟨u.slots,k b u q⟩
 free:=λb u q n _=>by rw [aH (Nat.ne_of_lt (Nat.lt_of_lt_of_le (Heap.lt_size q) hp))];exact n
 there:=λb u q _=>⟨u,k b u q⟩
 tups:=λb xs q=>by rw [aH (bC q hn)];exact q
 frzs:=λb u xs q=>by rw [aH (bC q hn)];exact q
 tbls:=λb ps q=>⟨#[],by rw [aH (bC q hn),q];simp⟩
theorem Un.write (mu:Mut (H x)) (he:e=x \/ H e=some (.own x)) (k:∀ b u,b ≠ e->h.get? b=some u->h'.get? b=some u) (heo:∃ u,h'.get? e=some u):Un fs ex H (upd H x o) h h':=by
 have hx:∀ b,H b=none->b ≠ x:=λb n z=>by subst z;rw [n] at mu;exact mu
 have hb:∀ b,H b=none->b ≠ e:=λb n z=>by
  subst z
  rcases he with r|r
  ·exact hx b n r
  ·rw [n] at r;cases r
 have hm:∀ b u,H b=some u->¬ Mut (some u)->b ≠ x:=λb u q nm z=>by subst z;rw [q] at mu;exact nm mu
 refine ⟨λb u q n _ _=>k b u (hb b n) q,λb u q n _ _=>⟨u.slots,k b u (hb b n) q⟩,λb u q n _=>by rw [aH (hx b n)];exact n,λb u q _=>?_,
  λb xs q=>by rw [aH (hm b _ q λz=>z)];exact q,λb u xs q=>by rw [aH (hm b _ q λz=>z)];exact q,λb ps q=>⟨#[],by rw [aH (hm b _ q λz=>z),q];simp⟩⟩
 by_cases hbe:b=e
 ·subst hbe;exact heo
 ·exact ⟨u,k b u hbe q⟩
theorem Un.mono (u:Un fs ex H H1 h h1) (hs:∀ b ∈ fs,b ∈ fs') (hx:∀ b ∈ ex,b ∈ ex'):Un fs' ex' H H1 h h1 :=
 ⟨λb ob q n hb he=>u.keep b ob q n (λz=>hb (hs b z)) λz=>he (hx b z),λ_ _ q n _ he=>u.any q n λz=>he (hx _ z),λb ob q n he=>u.free b ob q n λz=>he (hx b z),λb ob q he=>u.there b ob q λz=>he (hx b z),u.tups,u.frzs,u.tbls⟩
end
noncomputable def trk (h:Heap) (H:Hp):List Addr:=(List.range h.objs.size).filter λa=>(H a).isSome
noncomputable def lI (h:Heap) (H:Hp):Heap:=PySem.W.hideAll h (trk h H)
theorem p9 (h:Heap) (H:Hp):(lI h H).objs.size=h.objs.size:=PySem.W.hideAll_size _ _
theorem rB {h:Heap}{H:Hp}{b:Addr}{o:Obj} (e:h.get? b=some o) (n:H b=none):(lI h H).get? b=some o :=
 PySem.W.hideAll_get _ e λhm=>by
  have q:(H b).isSome=true:=(List.mem_filter.mp hm).2
  rw [n] at q;simp at q
theorem vf {h:Heap}{H:Hp}{b:Addr}{o:Obj} (e:(lI h H).get? b=some o):h.get? b=some o/\H b=none:=by
 have e':h.get? b=some o:=PySem.W.of_hideAll (trk h H) e
 refine ⟨e',?_⟩
 cases q:H b with
 | none=>rfl
 | some x =>
  have hm:b ∈ trk h H:=List.mem_filter.mpr ⟨List.mem_range.mpr (Heap.lt_size e'),by simp [q]⟩
  have z:(lI h H).get? b=none:=PySem.W.hideAll_none (trk h H) hm
  rw [z] at e;cases e
noncomputable def vg (g h:Heap) (L:Addr):List (Addr × Obj):=(List.range h.objs.size).filterMap λa=>if a=L \/ (g.get? a).isSome=true then none else (h.get? a).map λo=>(a,o)
noncomputable def rest (g h:Heap) (L d:Addr):List (Addr × Obj):=(vg g h L).filter λp=>decide (p.1 ≠ d)
end L2
namespace L2
open PySem PySem.Spec PyProof.Rows
structure Mod (K:PySem.W.Frag) (mg:Str->Option Value) (base:Heap):Prop where
 kin:K.In base
 glob:base.Ns mainGlobals mg
 blt:∃ mb,base.Ns builtinsNs mb/\∀ x:Str,x ≠ "__name__"->mb x=bootBuiltins x
 nolimit:base.NoLimit
structure Cx where
 prog:Program
 w:World
 K:PySem.W.Frag
 mg:Str->Option Value
 base:Heap
 A:Around
 N:List Str
 s₀:Shared
 H₀:Hp
 env:Env
 outer:List Env
 stack:List Env
 ex:List Addr
 fn:Str->Bool
 calm:Bool
 pn:List (Addr × Obj)
 xe:Value->Shared->Prop
noncomputable def frs (l:List Env):List Addr:=l.filterMap (·.frame)
noncomputable abbrev Cx.fs (X:Cx):List Addr:=frs X.outer
noncomputable def Vis (sc:Scope) (x:Str):Prop:=sc.names.lookup x=some .local \/ sc.names.lookup x=some .cell \/ sc.names.lookup x=some .free
noncomputable def Loc (sc:Scope) (x:Str):Prop:=sc.names.lookup x=some .local \/ sc.names.lookup x=some .cell
noncomputable def BF (env:Env) (h:Heap) (m:Str->Option Value) (x:Str) (u:Value):Prop :=
 (env.kindOf x=some .local/\m x=some u) \/ ((env.kindOf x=some .cell \/ env.kindOf x=some .free)/\∃ c,env.cells.lookup x=some c/\h.IsCell c (some u))
structure Cx.Ok (X:Cx):Prop where
 mod:Mod X.K X.mg X.base
 kind:X.env.scope.kind=.function
 glob:X.env.globals=mainGlobals
 blt:X.env.builtins=builtinsNs
 above:X.s₀.heap.objs.size <= X.env.locals
 inj:∀ x y c,X.env.cells.lookup x=some c->X.env.cells.lookup y=some c->x=y
 has:∀ x,(X.env.kindOf x=some .cell \/ X.env.kindOf x=some .free)->∃ c,X.env.cells.lookup x=some c
 cab:∀ x c,X.fn x=true->X.env.cells.lookup x=some c->X.s₀.heap.objs.size <= c
 hd:X.calm=true->X.A.handled=none
 frames:X.A.frames=some X.stack
 stk:X.stack=X.outer \/ (X.stack=X.env::X.outer/\X.env.frame=some X.env.locals)
 exf:∀ b ∈ X.ex,b ≠ X.env.locals/\∀ x c,X.env.cells.lookup x=some c->c ≠ b
 bs:∀ b o,X.base.get? b=some o->X.s₀.heap.get? b=some o/\X.H₀ b=none
 bsz:X.base.objs.size <= X.s₀.heap.objs.size
 noex:∀ b o,X.base.get? b=some o->b ∉ X.ex
 exfs:∀ b ∈ X.ex,b ∉ X.fs
 funs:X.s₀.heap.FunFrames X.base X.outer
 frf:∀ b ∈ X.fs,X.H₀ b=none
structure Inv (X:Cx) (pins:List (Addr × Obj)) (σ:List (Option V)) (H:Hp) (s:Shared):Prop where
 ok:X.Ok
 os:s.os=X.s₀.os
 bare:AllBare s.gens
 base:Un X.fs X.ex X.H₀ H X.s₀.heap s.heap
 loc:∃ m,s.heap.Ns X.env.locals m/\∀ (i:Nat) (x:Str) (v:V),X.N[i]?=some x->σ[i]?=some (some v)->Vis X.env.scope x->∃ u,ak v u/\BF X.env s.heap m x u
 cell:∀ x c,X.env.cells.lookup x=some c->∃ v,s.heap.IsCell c v
 free:H X.env.locals=none
 freeC:∀ x c,X.env.cells.lookup x=some c->H c=none
 pin:∀ p ∈ X.pn ++ pins,s.heap.get? p.1=some p.2/\H p.1=none/\p.1 ≠ X.env.locals/\p.1 ∉ X.fs/\∀ v,p.2.data ≠ .cell v
 hok:HOk X.prog X.w H s.heap
 len:σ.length=X.N.length
section
variable {X:Cx}{pins:List (Addr × Obj)}{σ:List (Option V)}{H H':Hp}{s:Shared}{h':Heap}
theorem Cx.Ok.nofr (ok:X.Ok) {b:Addr}{o:Obj} (e:X.base.get? b=some o):b ∉ X.fs:=λhb=>by
 have:=(ok.funs.mem hb).1
 rw [e] at this;cases this
theorem Inv.bs (I:Inv X pins σ H s):∀ b o,X.base.get? b=some o->s.heap.get? b=some o/\H b=none:=λb o e =>
 ⟨I.base.keep b o (I.ok.bs b o e).1 (I.ok.bs b o e).2 (I.ok.nofr e) (I.ok.noex b o e),I.base.free b o (I.ok.bs b o e).1 (I.ok.bs b o e).2 (I.ok.noex b o e)⟩
theorem Inv.bk (I:Inv X pins σ H s):∀ b o,X.base.get? b=some o->s.heap.get? b=some o:=λb o e=>(I.bs b o e).1
theorem Inv.mod (I:Inv X pins σ H s):Mod X.K X.mg X.base:=I.ok.mod
theorem Inv.kIn (I:Inv X pins σ H s):X.K.In s.heap:=I.ok.mod.kin.keeps I.bk
theorem Inv.nolimit (I:Inv X pins σ H s):s.heap.NoLimit:=I.ok.mod.nolimit.keeps I.bk
theorem Inv.fr (I:Inv X pins σ H s):∃ m,Fr X.base X.env.locals s.heap m :=
 let ⟨m,hn,_⟩:=I.loc
 ⟨m,hn,I.bk,Nat.le_trans I.ok.bsz I.ok.above⟩
theorem Inv.lt (I:Inv X pins σ H s):X.env.locals < s.heap.objs.size:=let ⟨_,hn,_⟩:=I.loc;hn.lt
theorem Inv.sz (I:Inv X pins σ H s):X.s₀.heap.objs.size <= s.heap.objs.size:=Nat.le_trans I.ok.above (Nat.le_of_lt I.lt)
theorem Inv.nofs (I:Inv X pins σ H s) {a:Addr} (h:s.heap.objs.size <= a):a ∉ X.fs:=λhb=>by
 obtain ⟨_,o,ho,_⟩:=I.ok.funs.mem hb
 exact absurd (Nat.lt_of_lt_of_le (Heap.lt_size ho) (Nat.le_trans I.sz h)) (Nat.lt_irrefl _)
theorem Inv.cne (I:Inv X pins σ H s):∀ x c,X.env.cells.lookup x=some c->c ≠ X.env.locals:=λx c e z=>by
 obtain ⟨v,o,ho,hd⟩:=I.cell x c e
 obtain ⟨m,⟨o',es,ep,ho',hd',_⟩,_⟩:=I.loc
 rw [z,ho'] at ho;cases ho;rw [hd'] at hd;cases hd
theorem Inv.funs (I:Inv X pins σ H s):s.heap.FunFrames X.base X.outer:=by
 have all:∀ (l:List Env),(∀ b ∈ frs l,b ∈ X.fs)->X.s₀.heap.FunFrames X.base l->s.heap.FunFrames X.base l:=by
  intro l
  induction l with
  | nil=>intro _ _;trivial
  | cons env r ih =>
   intro hs hl
   obtain ⟨hk,⟨L,o,hf,hn,ho,hd⟩,hr⟩:=hl
   have hL:L ∈ X.fs:=hs L (by unfold frs;rw [List.filterMap_cons,hf];exact List.mem_cons_self)
   obtain ⟨sl,e⟩:=I.base.slot L o ho (I.ok.frf L hL) hL λz=>I.ok.exfs L z hL
   exact ⟨hk,⟨L,_,hf,hn,e,hd⟩,ih (λb hb=>hs b (by unfold frs;rw [List.filterMap_cons,hf];exact List.mem_cons_of_mem _ hb)) hr⟩
 exact all X.outer (λ_ hb=>hb) I.ok.funs
theorem Inv.stack (I:Inv X pins σ H s):s.heap.FunFrames X.base X.stack:=by
 rcases I.ok.stk with e|⟨e,hf⟩
 ·rw [e];exact I.funs
 ·rw [e]
  obtain ⟨m,hn,_⟩:=I.loc
  refine .cons (by rw [I.ok.kind];decide) hf hn ?_ I.funs
  exact Heap.get?_none_of_le (Nat.le_trans I.ok.bsz I.ok.above)
theorem Inv.stkSub (I:Inv X pins σ H s):∀ b ∈ frs X.stack,b ∈ X.env.locals::X.fs:=λb hb=>by
 rcases I.ok.stk with e|⟨e,hf⟩
 ·rw [e] at hb;exact List.mem_cons_of_mem _ hb
 ·rw [e] at hb
  unfold frs at hb
  rw [List.filterMap_cons,hf] at hb
  exact hb
theorem Inv.stkFree (I:Inv X pins σ H s):∀ b ∈ frs X.stack,H b=none:=λb hb=>by
 rcases List.mem_cons.mp (I.stkSub b hb) with e|hb
 ·rw [e];exact I.free
 ·obtain ⟨_,o,ho,_⟩:=I.ok.funs.mem hb
  exact I.base.free b o ho (I.ok.frf b hb) λz=>I.ok.exfs b z hb
theorem Inv.step {g':Array GenState}{t':Nat}{d':Drawn}{ch:List Addr} (I:Inv X pins σ H s)
  (hch:∀ b ∈ ch,(b ∈ X.ex \/ X.s₀.heap.objs.size <= b)/\b ≠ X.env.locals/\(∀ x c,X.env.cells.lookup x=some c->c ≠ b)/\∀ p ∈ X.pn ++ pins,p.1 ≠ b)
  (keep:∀ b o,b ≠ X.env.locals->b ∉ X.fs->b ∉ ch->s.heap.get? b=some o->H b=none->h'.get? b=some o)
  (slot:∀ b o,b ≠ X.env.locals->b ∈ X.fs->b ∉ ch->s.heap.get? b=some o->H b=none->∃ sl,h'.get? b=some { o with slots:=sl }) (free:∀ b o,b ∉ ch->s.heap.get? b=some o->H b=none->H' b=none)
  (there:∀ b o,b ∉ ch->s.heap.get? b=some o->∃ o',h'.get? b=some o')
  (tups:∀ b xs,H b=some (.tup xs)->H' b=some (.tup xs)) (frzs:∀ b o u,H b=some (.frz o u)->H' b=some (.frz o u)) (tbls:∀ b ps,H b=some (.tbl ps)->∃ more,H' b=some (.tbl (ps ++ more)))
  (ns:∀ m,s.heap.Ns X.env.locals m->h'.Ns X.env.locals m) (hok:HOk X.prog X.w H' h') (hg:AllBare g') :
  Inv X pins σ H' { s with heap:=h',gens:=g',drawn:=d',toks:=t' }:=by
 have neL:∀ b o,X.s₀.heap.get? b=some o->b ≠ X.env.locals:=λb o e=>Nat.ne_of_lt (Nat.lt_of_lt_of_le (Heap.lt_size e) I.ok.above)
 have neC:∀ b o,X.s₀.heap.get? b=some o->b ∉ X.ex->b ∉ ch:=λb o e hx hb=>by
  rcases (hch b hb).1 with z|z
  ·exact hx z
  ·exact absurd (Nat.lt_of_lt_of_le (Heap.lt_size e) z) (Nat.lt_irrefl _)
 have cellK:∀ x c,X.env.cells.lookup x=some c->∀ v,s.heap.IsCell c v->h'.IsCell c v:=λx c e v ⟨o,ho,hd⟩=>by
  have nch:c ∉ ch:=λz=>(hch c z).2.2.1 x c e rfl
  by_cases hc:c ∈ X.fs
  ·obtain ⟨sl,q⟩:=slot c o (I.cne x c e) hc nch ho (I.freeC x c e)
   exact ⟨_,q,hd⟩
  ·exact ⟨o,keep c o (I.cne x c e) hc nch ho (I.freeC x c e),hd⟩
 refine ⟨I.ok,I.os,hg,⟨λb o e n hb hx=>?_,λb o e n hb hx=>?_,λb o e n hx=>?_,λb o e hx=>?_,λb xs e=>tups b xs (I.base.tups b xs e),λb o xs e=>frzs b o xs (I.base.frzs b o xs e),λb ps e=>?_⟩,?_,λx c e=>?_,?_,λx c e=>?_,λp hp=>?_,hok,I.len⟩
 ·exact keep b o (neL b o e) hb (neC b o e hx) (I.base.keep b o e n hb hx) (I.base.free b o e n hx)
 ·obtain ⟨sl,e1⟩:=I.base.slot b o e n hb hx
  obtain ⟨sl',e2⟩:=slot b _ (neL b o e) hb (neC b o e hx) e1 (I.base.free b o e n hx)
  exact ⟨sl',e2⟩
 ·obtain ⟨o',e1⟩:=I.base.there b o e hx
  exact free b o' (neC b o e hx) e1 (I.base.free b o e n hx)
 ·obtain ⟨o',e1⟩:=I.base.there b o e hx
  exact there b o' (neC b o e hx) e1
 ·obtain ⟨m1,e1⟩:=I.base.tbls b ps e
  obtain ⟨m2,e2⟩:=tbls b _ e1
  exact ⟨m1 ++ m2,by rw [e2,Array.append_assoc]⟩
 ·obtain ⟨m,hn,hl⟩:=I.loc
  refine ⟨m,ns m hn,λi x v e1 e2 e3=>?_⟩
  obtain ⟨u,r,l⟩:=hl i x v e1 e2 e3
  refine ⟨u,r,?_⟩
  rcases l with l|⟨k,c,e,z⟩
  ·exact .inl l
  ·exact .inr ⟨k,c,e,cellK x c e _ z⟩
 ·obtain ⟨v,z⟩:=I.cell x c e
  exact ⟨v,cellK x c e v z⟩
 ·obtain ⟨m,⟨o,_,_,ho,_⟩,_⟩:=I.loc
  exact free _ o (λz=>(hch _ z).2.1 rfl) ho I.free
 ·obtain ⟨v,o,ho,hd⟩:=I.cell x c e
  exact free c o (λz=>(hch c z).2.2.1 x c e rfl) ho (I.freeC x c e)
 ·obtain ⟨e,n,ne,nf,d⟩:=I.pin p hp
  have nch:p.1 ∉ ch:=λz=>(hch p.1 z).2.2.2 p hp rfl
  exact ⟨keep p.1 p.2 ne nf nch e n,free p.1 p.2 nch e n,ne,nf,d⟩
theorem Inv.un {t':Nat} (I:Inv X pins σ H s) (u:Un X.fs [] H H' s.heap h') (hok:HOk X.prog X.w H' h'):Inv X pins σ H' { s with heap:=h',toks:=t' }:=by
 obtain ⟨m,⟨o,es,ep,ho,r⟩,_⟩:=id I.loc
 obtain ⟨sl,hL⟩:=u.any ho I.free (by simp)
 exact I.step (g':=s.gens) (d':=s.drawn) (ch:=[]) (λ_ z=>nomatch z) (λb o _ hb _ e n=>u.keep b o e n hb (by simp)) (λb o _ hb _ e n=>u.slot b o e n hb (by simp)) (λb o _ e n=>u.free b o e n (by simp)) (λb o _ e=>u.there b o e (by simp)) u.tups u.frzs u.tbls (λm' hm=>by
  obtain ⟨o',es',ep',ho',r'⟩:=hm
  rw [ho] at ho';cases ho'
  exact ⟨_,es',ep',hL,r'⟩) hok I.bare
theorem Inv.call {g':Array GenState}{t':Nat}{d':Drawn}{ch:List Addr} (I:Inv X pins σ H s) (u:Un (frs X.stack) ch H H' s.heap h') (hok:HOk X.prog X.w H' h') (hg:AllBare g')
  (hch:∀ b ∈ ch,(b ∈ X.ex \/ X.s₀.heap.objs.size <= b)/\b ≠ X.env.locals/\(∀ x c,X.env.cells.lookup x=some c->c ≠ b)/\∀ p ∈ X.pn ++ pins,p.1 ≠ b) :
  Inv X pins σ H' { s with heap:=h',gens:=g',drawn:=d',toks:=t' }:=by
 obtain ⟨m,⟨o,es,ep,ho,r⟩,_⟩:=id I.loc
 obtain ⟨sl,hL⟩:=u.any ho I.free λz=>(hch _ z).2.1 rfl
 exact I.step (ch:=ch) hch (λb o hL hb hc e n=>u.keep b o e n (λz=>(List.mem_cons.mp (I.stkSub b z)).elim hL hb) hc) (λb o _ _ hc e n=>u.any e n hc) (λb o hc e n=>u.free b o e n hc) (λb o hc e=>u.there b o e hc) u.tups u.frzs u.tbls (λm' hm=>by
  obtain ⟨o',es',ep',ho',r'⟩:=hm
  rw [ho] at ho';cases ho'
  exact ⟨_,es',ep',hL,r'⟩) hok hg
theorem Inv.turned {t':Nat}{it:Addr} (I:Inv X pins σ H s) (k:∀ b o,b ≠ it->s.heap.get? b=some o->h'.get? b=some o) (hn:H it=none) (hL:it ≠ X.env.locals)
  (h1:it ∈ X.ex \/ X.s₀.heap.objs.size <= it) (h2:∀ x c,X.env.cells.lookup x=some c->c ≠ it) (h3:∀ p ∈ X.pn ++ pins,p.1 ≠ it):Inv X pins σ H { s with heap:=h',toks:=t' }:=by
 have nit:∀ b u,H b=some u->b ≠ it:=λb u e z=>by rw [z,hn] at e;cases e
 refine I.step (g':=s.gens) (d':=s.drawn) (ch:=[it]) (λb hb=>?_) (λb o _ _ hc e _=>k b o (λz=>hc (by simp [z])) e) (λb o _ _ hc e _=>⟨o.slots,k b o (λz=>hc (by simp [z])) e⟩) (λ_ _ _ _ n=>n)
  (λb o hc e=>⟨o,k b o (λz=>hc (by simp [z])) e⟩) (λ_ _ e=>e) (λ_ _ _ e=>e) (λb ps e=>⟨#[],by rw [e];simp⟩) (λm hm=>?_) (λb u e=>?_) I.bare
 ·have e:b=it:=by simpa using hb
  subst e
  exact ⟨h1,hL,h2,h3⟩
 ·obtain ⟨o,es,ep,ho,r⟩:=hm
  exact ⟨o,es,ep,k _ o (Ne.symm hL) ho,r⟩
 ·refine (I.hok b u e).stay (λc v hc q=>k c v ?_ q) (λ_ q=>q) λ_ _ q=>q
  rcases hc with z|z
  ·rw [z];exact nit b u e
  ·exact nit c _ z
theorem Inv.tok (I:Inv X pins σ H s) (t:Nat):Inv X pins σ H { s with toks:=t }:=I.un (h':=s.heap) (t':=t) Un.refl I.hok
theorem Inv.kept {t':Nat} (I:Inv X pins σ H s) (k:∀ b u,s.heap.get? b=some u->h'.get? b=some u):Inv X pins σ H { s with heap:=h',toks:=t' }:=I.un (Un.kept k) (I.hok.kept k)
theorem Inv.laid {a:Addr}{o:HO}{t':Nat} (I:Inv X pins σ H s) (k:∀ b u,s.heap.get? b=some u->h'.get? b=some u) (hp:s.heap.objs.size <= a) (new:aM X.prog X.w (upd H a o) h' a o) :
  Inv X pins σ (upd H a o) { s with heap:=h',toks:=t' }:=I.un (Un.laid k hp (I.hok.fresh hp)) (I.hok.laid k hp new)
theorem Inv.write {x e:Addr}{o:HO}{t':Nat} (I:Inv X pins σ H s) (mu:Mut (H x)) (he:e=x \/ H e=some (.own x)) (k:∀ b u,b ≠ e->s.heap.get? b=some u->h'.get? b=some u) (heo:∃ u,h'.get? e=some u)
  (new:aM X.prog X.w (upd H x o) h' x o):Inv X pins σ (upd H x o) { s with heap:=h',toks:=t' }:=I.un (Un.write mu he k heo) (I.hok.write mu he k heo new)
theorem Inv.weak {σ':List (Option V)} (I:Inv X pins σ H s) (hl:σ'.length=σ.length) (w:∀ (i:Nat) v,σ'[i]?=some (some v)->σ[i]?=some (some v)):Inv X pins σ' H s :=
 ⟨I.ok,I.os,I.bare,I.base,let ⟨m,hn,hl'⟩:=I.loc;⟨m,hn,λi x v e1 e2 e3=>hl' i x v e1 (w i v e2) e3⟩,I.cell,I.free,I.freeC,I.pin,I.hok,hl.trans I.len⟩
theorem Inv.pins_of {pins':List (Addr × Obj)} (I:Inv X pins σ H s) (h:∀ p ∈ pins',s.heap.get? p.1=some p.2/\H p.1=none/\p.1 ≠ X.env.locals/\p.1 ∉ X.fs/\∀ v,p.2.data ≠ .cell v):Inv X pins' σ H s :=
 ⟨I.ok,I.os,I.bare,I.base,I.loc,I.cell,I.free,I.freeC,λp hp=>(List.mem_append.mp hp).elim (λz=>I.pin p (List.mem_append_left _ z)) (h p),I.hok,I.len⟩
theorem mM {N:List Str} (hN:N.Nodup) {i j:Nat}{x:Str} (a:N[i]?=some x) (b:N[j]?=some x):i=j:=by
 obtain ⟨h1,e1⟩:=List.getElem?_eq_some_iff.mp a
 obtain ⟨h2,e2⟩:=List.getElem?_eq_some_iff.mp b
 exact (List.getElem_inj hN).mp (e1.trans e2.symm)
theorem kO {M:Model}{A:Around}{E:Value->Shared->Prop}{i:Nat}{x:Str}{v:V}{u:Value}{Q:Unit->Shared->Prop} (I:Inv X pins σ H s) (hN:X.N.Nodup) (hi:X.N[i]?=some x) (hx:Loc X.env.scope x) (r:ak v u)
  (h:∀ s',Inv X pins (σ.set i (some v)) H s'->(∃ a,Heap.SameBut a s.heap s'.heap/\(a=X.env.locals \/ X.env.cells.lookup x=some a))->Q () s') (hf:X.fn x=true \/ X.env.scope.names.lookup x=some .local:=by first|exact .inl rfl|exact .inr rfl|assumption):wpAny M A (storeName X.env x u) Q E s:=by
 obtain ⟨m,hn,hl⟩:=id I.loc
 have hcls:(X.env.scope.kind == .class || (X.env.scope.kind == .module&&X.env.locals != X.env.globals))=false:=by rw [I.ok.kind];rfl
 have hiσ:i < σ.length:=by rw [I.len];exact (List.getElem?_eq_some_iff.mp hi).1
 have cne:=I.cne
 have tracked:∀ {a:Addr}{h':Heap},(∃ o,s.heap.get? a=some o/\H a=none)->Heap.SameBut a s.heap h'->HOk X.prog X.w H h':=λ{a h'} ha hs b ob e=>by
  obtain ⟨_,_,hfree⟩:=ha
  refine (I.hok b ob e).stay (λc w' hc q=>(hs.2 c ?_).trans q) (λ_ q=>q) λ_ _ q=>q
  rintro rfl
  rcases hc with rfl|hc
  ·rw [hfree] at e;cases e
  ·rw [hfree] at hc;cases hc
 rcases hx with hk|hk
 ·refine wpAny_storeName_local hk hn (λh' hn' hs=>?_) hcls
  obtain ⟨oL,_,_,hoL,_⟩:=id hn
  refine h _ ⟨I.ok,I.os,I.bare,⟨λb o e n hb hx=>?_,λb o e n hb hx=>?_,I.base.free,λb o e hx=>?_,I.base.tups,I.base.frzs,I.base.tbls⟩,⟨_,hn',λj y v' e1 e2 e3=>?_⟩,λy c e=>?_,I.free,I.freeC,λp hp=>?_,tracked ⟨oL,hoL,I.free⟩ hs,by simpa using I.len⟩ ⟨_,hs,.inl rfl⟩
  ·exact (hs.2 b (Nat.ne_of_lt (Nat.lt_of_lt_of_le (Heap.lt_size e) I.ok.above))).trans (I.base.keep b o e n hb hx)
  ·obtain ⟨sl,e1⟩:=I.base.slot b o e n hb hx
   exact ⟨sl,(hs.2 b (Nat.ne_of_lt (Nat.lt_of_lt_of_le (Heap.lt_size e) I.ok.above))).trans e1⟩
  ·obtain ⟨o',e1⟩:=I.base.there b o e hx
   exact ⟨o',(hs.2 b (Nat.ne_of_lt (Nat.lt_of_lt_of_le (Heap.lt_size e) I.ok.above))).trans e1⟩
  ·by_cases hj:j=i
   ·subst hj
    rw [hi] at e1;cases e1
    rw [List.getElem?_set_self hiσ] at e2
    cases e2
    exact ⟨u,r,.inl ⟨hk,by simp⟩⟩
   ·rw [List.getElem?_set_ne (Ne.symm hj)] at e2
    obtain ⟨u',r',q⟩:=hl j y v' e1 e2 e3
    refine ⟨u',r',?_⟩
    rcases q with ⟨k,e⟩|⟨k,c,e,z⟩
    ·refine .inl ⟨k,?_⟩
     have:y ≠ x:=λe=>hj (mM hN e1 (e ▸ hi))
     simp [this,e]
    ·exact .inr ⟨k,c,e,z.sameBut hs (cne y c e)⟩
  ·obtain ⟨w',z⟩:=I.cell y c e
   exact ⟨w',z.sameBut hs (cne y c e)⟩
  ·obtain ⟨e,n,ne,nf,d⟩:=I.pin p hp
   exact ⟨(hs.2 p.1 ne).trans e,n,ne,nf,d⟩
 ·have hfn:X.fn x=true:=by
   rcases hf with z|z
   ·exact z
   ·rw [z] at hk;cases hk
  obtain ⟨c,hc⟩:=I.ok.has x (.inl hk)
  obtain ⟨w',z⟩:=I.cell x c hc
  refine wpAny_storeName_cell I.ok.kind hk hc z (λh' hc' hs=>?_)
  obtain ⟨oc,hoc,hocd⟩:=id z
  refine h { s with heap:=h' } ⟨I.ok,I.os,I.bare,⟨λb o e n hb hx=>?_,λb o e n hb hx=>?_,I.base.free,λb o e hx=>?_,I.base.tups,I.base.frzs,I.base.tbls⟩,⟨m,hn.sameBut hs (Ne.symm (cne x c hc)),λj y v' e1 e2 e3=>?_⟩,λy c' e=>?_,I.free,I.freeC,λp hp=>?_,tracked ⟨oc,hoc,I.freeC x c hc⟩ hs,by simpa using I.len⟩ ⟨c,hs,.inr hc⟩
  ·exact (hs.2 b (Nat.ne_of_lt (Nat.lt_of_lt_of_le (Heap.lt_size e) (I.ok.cab x c hfn hc)))).trans (I.base.keep b o e n hb hx)
  ·obtain ⟨sl,e1⟩:=I.base.slot b o e n hb hx
   exact ⟨sl,(hs.2 b (Nat.ne_of_lt (Nat.lt_of_lt_of_le (Heap.lt_size e) (I.ok.cab x c hfn hc)))).trans e1⟩
  ·obtain ⟨o',e1⟩:=I.base.there b o e hx
   exact ⟨o',(hs.2 b (Nat.ne_of_lt (Nat.lt_of_lt_of_le (Heap.lt_size e) (I.ok.cab x c hfn hc)))).trans e1⟩
  ·by_cases hj:j=i
   ·subst hj
    rw [hi] at e1;cases e1
    rw [List.getElem?_set_self hiσ] at e2
    cases e2
    exact ⟨u,r,.inr ⟨.inl hk,c,hc,hc'⟩⟩
   ·rw [List.getElem?_set_ne (Ne.symm hj)] at e2
    obtain ⟨u',r',q⟩:=hl j y v' e1 e2 e3
    refine ⟨u',r',?_⟩
    rcases q with q|⟨k,c',e,z'⟩
    ·exact .inl q
    ·refine .inr ⟨k,c',e,z'.sameBut hs ?_⟩
     rintro rfl
     exact hj (mM hN e1 (I.ok.inj _ _ _ e hc ▸ hi))
  ·by_cases hcc:c'=c
   ·subst hcc;exact ⟨_,hc'⟩
   ·obtain ⟨w2,z2⟩:=I.cell y c' e
    exact ⟨w2,z2.sameBut hs hcc⟩
  ·obtain ⟨e,n,ne,nf,d⟩:=I.pin p hp
   refine ⟨(hs.2 p.1 ?_).trans e,n,ne,nf,d⟩
   intro q
   rw [q,hoc] at e
   have q':oc=p.2:=Option.some.inj e
   exact d w' (by rw [<- q'];exact hocd)
theorem mN {M:Model}{A:Around}{E:Value->Shared->Prop}{i:Nat}{x:Str}{v:V}{u:Value}{Q:Unit->Shared->Prop} (I:Inv X pins σ H s) (hN:X.N.Nodup) (hi:X.N[i]?=some x) (hx:Loc X.env.scope x) (r:ak v u)
  (h:∀ s',Inv X pins (σ.set i (some v)) H s'->Q () s') (hf:X.fn x=true \/ X.env.scope.names.lookup x=some .local:=by first|exact .inl rfl|exact .inr rfl|assumption):wpAny M A (storeName X.env x u) Q E s :=
 kO I hN hi hx r (λs' I' _=>h s' I') hf
theorem Inv.call' {s':Shared}{ch:List Addr} (I:Inv X pins σ H s) (ho:s'.os=s.os) (u:Un (frs X.stack) ch H H' s.heap s'.heap) (hok:HOk X.prog X.w H' s'.heap) (hg:AllBare s'.gens)
  (hch:∀ b ∈ ch,(b ∈ X.ex \/ X.s₀.heap.objs.size <= b)/\b ≠ X.env.locals/\(∀ x c,X.env.cells.lookup x=some c->c ≠ b)/\∀ p ∈ X.pn ++ pins,p.1 ≠ b):Inv X pins σ H' s':=by
 obtain ⟨h',g',d',t',o'⟩:=s'
 have e:o'=s.os:=ho
 subst e
 exact I.call (g':=g') (t':=t') (d':=d') u hok hg hch
end
noncomputable abbrev XK:=Value->Option Addr->Hp->Prop
noncomputable abbrev St:=List (Option V)
noncomputable abbrev VK:=V->Hp->Prop
noncomputable abbrev TE:=St->Hp->VK->Prop
noncomputable abbrev TT:=St->Hp->(Bool->Hp->Prop)->Prop
noncomputable abbrev TA:=St->Hp->(List V->Hp->Prop)->Prop
structure i0 where
 nx:St->Hp->Prop
 rt:VK
 bk:St->Hp->Prop:=λ_ _=>False
 ct:St->Hp->Prop:=λ_ _=>False
noncomputable abbrev TS:=i0->St->Hp->Prop
noncomputable def EP (X:Cx) (pins:List (Addr × Obj)) (σ:St) (Q:VK) (u:Value) (s':Shared):Prop:=∃ v H',Inv X pins σ H' s'/\ak v u/\Q v H'
noncomputable def TP (X:Cx) (pins:List (Addr × Obj)) (σ:St) (Q:Bool->Hp->Prop) (b:Bool) (s':Shared):Prop:=∃ H',Inv X pins σ H' s'/\Q b H'
noncomputable def AP (X:Cx) (pins:List (Addr × Obj)) (σ:St) (Q:List V->Hp->Prop) (us:List Value) (s':Shared):Prop:=∃ vs H',Inv X pins σ H' s'/\al vs us/\Q vs H'
noncomputable def SP (X:Cx) (pins:List (Addr × Obj)) (D:i0) (f:Flow) (s':Shared):Prop :=
 match f with
 | .next=>∃ σ' H',Inv X pins σ' H' s'/\D.nx σ' H'
 | .brk=>∃ σ' H',Inv X pins σ' H' s'/\D.bk σ' H'
 | .cont=>∃ σ' H',Inv X pins σ' H' s'/\D.ct σ' H'
 | .ret u=>∃ v σ' H',Inv X pins σ' H' s'/\ak v u/\D.rt v H'
noncomputable def PE (X:Cx) (e:Expr) (t:TE):Prop :=
 ∀ (pins:List (Addr × Obj)) (s:Shared) (σ:St) (H:Hp) (Q:VK),Inv X pins σ H s->t σ H Q->wpAny (model X.prog X.w) X.A (eval e X.env) (EP X pins σ Q) X.xe s
noncomputable def PT (X:Cx) (e:Expr) (t:TT):Prop :=
 ∀ (pins:List (Addr × Obj)) (s:Shared) (σ:St) (H:Hp) (Q:Bool->Hp->Prop),Inv X pins σ H s->t σ H Q->wpAny (model X.prog X.w) X.A (isTrue e X.env (eval e X.env)) (TP X pins σ Q) X.xe s
noncomputable def PW (X:Cx) (e:Expr) (t:TT):Prop :=
 ∀ (whole:Sem Value) (pins:List (Addr × Obj)) (s:Shared) (σ:St) (H:Hp) (Q:Bool->Hp->Prop),Inv X pins σ H s->t σ H Q->wpAny (model X.prog X.w) X.A (isTrue e X.env whole) (TP X pins σ Q) X.xe s
theorem PW.pt {X:Cx}{e:Expr}{t:TT} (h:PW X e t):PT X e t:=h _
noncomputable def PA (X:Cx) (es:List Expr) (t:TA):Prop :=
 ∀ (pos:Pos) (pins:List (Addr × Obj)) (s:Shared) (σ:St) (H:Hp) (Q:List V->Hp->Prop),Inv X pins σ H s->t σ H Q->wpAny (model X.prog X.w) X.A (spliced (backTo pos (starEach es X.env))) (AP X pins σ Q) X.xe s
noncomputable def PS (X:Cx) (st:Stmt) (t:TS):Prop :=
 ∀ (pins:List (Addr × Obj)) (s:Shared) (σ:St) (H:Hp) (D:i0),Inv X pins σ H s->t D σ H->wpAny (model X.prog X.w) X.A (exec st X.env) (SP X pins D) X.xe s
noncomputable def PSs (X:Cx) (st:List Stmt) (t:TS):Prop :=
 ∀ (pins:List (Addr × Obj)) (s:Shared) (σ:St) (H:Hp) (D:i0),Inv X pins σ H s->t D σ H->wpAny (model X.prog X.w) X.A (execs st X.env) (SP X pins D) X.xe s
theorem thn {α:Type}{t:Sem α}{Q Q':α->Shared->Prop}{M:Model}{A:Around}{E:Value->Shared->Prop}{s:Shared} (h:wpAny M A t Q E s) (hQ:∀ a s,Q a s->Q' a s):wpAny M A t Q' E s:=wpAny_mono h hQ λ_ _ x=>x
end L2
namespace L2
open PySem PySem.Spec PyProof.Rows
section
variable {X:Cx}
theorem bin {a b:Expr}{ta tb:TE} (ha:PE X a ta) (hb:PE X b tb) {pins:List (Addr × Obj)}{s:Shared}{σ:St}{H:Hp}{R:V->V->Hp->Prop} (I:Inv X pins σ H s) (h:ta σ H λx H1=>tb σ H1 λy H2=>R x y H2)
  {α:Type}{Q:α->Shared->Prop}{f:Value->Value->Sem α}
  (hf:∀ v u s2 x y H2,Inv X pins σ H2 s2->ak x v->ak y u->R x y H2->wpAny (model X.prog X.w) X.A (f v u) Q X.xe s2) :
  wpAny (model X.prog X.w) X.A (eval a X.env) (λv s₁=>wpAny (model X.prog X.w) X.A (eval b X.env) (λu s₂=>wpAny (model X.prog X.w) X.A (f v u) Q X.xe s₂) X.xe s₁) X.xe s:=by
 refine thn (ha pins s σ H _ I h) λv s1 ⟨x,H1,I1,r1,q1⟩=>?_
 refine thn (hb pins s1 σ H1 _ I1 q1) λu s2 ⟨y,H2,I2,r2,q2⟩=>?_
 exact hf v u s2 x y H2 I2 r1 r2 q2
noncomputable def xu (i:Nat):TE:=λσ H Q=>∃ v,σ[i]?=some (some v)/\Q v H
noncomputable def tC (v:V):TE:=λ_ H Q=>Q v H
theorem rC {i:Nat}{x:Str}{pos:Pos} (hN:X.N[i]?=some x) (hv:Vis X.env.scope x) (hd:(x == ("__debug__":Str))=false:=by decide) (hcd:(x == ("__classdict__":Str))=false:=by decide):PE X (.Name x pos) (xu i):=by
 intro pins s σ H Q I h
 obtain ⟨v,e,h⟩:=h
 obtain ⟨m,hn,hl⟩:=I.loc
 obtain ⟨u,r,l⟩:=hl i x v hN e hv
 have fin:EP X pins σ Q u s:=⟨v,H,I,r,h⟩
 rcases l with ⟨hk,hm⟩|⟨hk,c,hc,hcell⟩
 ·exact wpAny_Name (wpAny_loadName_local I.ok.kind hk hn hm fin) hd
 ·rcases hk with hk|hk
  ·exact wpAny_Name (wpAny_loadName_cell I.ok.kind hk hc hcell fin) hd
  ·exact wpAny_Name (wpAny_loadName_free I.ok.kind hk hc hcell fin hcd) hd
theorem xv {i j pos}:PE X (.Constant (.int i) j pos) (tC (.int i)):=λ_ _ _ H _ I h=>wpAny_Constant_int ⟨.int i,H,I.tok _,⟨_,rfl⟩,h⟩
theorem zR {b j pos}:PE X (.Constant (.bool b) j pos) (tC (.bl b)):=λ_ _ _ H _ I h=>Constant_bool ⟨.bl b,H,I,rfl,h⟩
theorem xw {j pos}:PE X (.Constant .none j pos) (tC .non):=λ_ _ _ H _ I h=>Constant_none ⟨.non,H,I,rfl,h⟩
theorem xx {x j pos}:PE X (.Constant (.str x) j pos) (tC (.str x)):=λ_ _ _ H _ I h=>Calls.Constant_str ⟨.str x,H,I.tok _,⟨_,rfl⟩,h⟩
noncomputable def Gl (X:Cx) (x:Str):Prop:=X.env.kindOf x=some .globalImplicit
theorem lJ {E:Value->Shared->Prop}{pins:List (Addr × Obj)}{s:Shared}{σ:St}{H:Hp}{x:Str}{u:Value}{pos:Pos}{Q:Value->Shared->Prop} (I:Inv X pins σ H s) (hg:Gl X x) (hm:X.mg x=some u) (h:Q u s)
  (hd:(x == ("__debug__":Str))=false:=by decide):wpAny (model X.prog X.w) X.A (eval (.Name x pos) X.env) Q E s :=
 Calls.Name_function_global I.ok.kind hg (Calls.loadGlobal_global (by rw [I.ok.glob];exact I.mod.glob.keeps I.bk) hm h) hd
theorem jo {E:Value->Shared->Prop}{pins:List (Addr × Obj)}{s:Shared}{σ:St}{H:Hp}{x:Str}{u:Value}{pos:Pos}{Q:Value->Shared->Prop} (I:Inv X pins σ H s) (hg:Gl X x) (hm:X.mg x=none) (hv:bootBuiltins x=some u) (h:Q u s)
  (hn:x ≠ "__name__":=by decide) (hd:(x == ("__debug__":Str))=false:=by decide):wpAny (model X.prog X.w) X.A (eval (.Name x pos) X.env) Q E s:=by
 obtain ⟨mb,h1,h2⟩:=I.mod.blt
 exact Calls.Name_function_global I.ok.kind hg (Calls.loadGlobal_builtin (by rw [I.ok.glob];exact I.mod.glob.keeps I.bk) hm (by rw [I.ok.blt];exact h1.keeps I.bk) ((h2 x hn).trans hv) h) hd
theorem vh {x:Str}{v:V}{u:Value}{pos:Pos} (hg:Gl X x) (hm:X.mg x=some u) (r:ak v u) (hd:(x == ("__debug__":Str))=false:=by decide):PE X (.Name x pos) (tC v) :=
 λ_ _ _ H _ I h=>lJ I hg hm ⟨v,H,I,r,h⟩ hd
theorem vi {x:Str}{v:V}{u:Value}{pos:Pos} (hg:Gl X x) (hm:X.mg x=none) (hv:bootBuiltins x=some u) (r:ak v u) (hn:x ≠ "__name__":=by decide) (hd:(x == ("__debug__":Str))=false:=by decide):PE X (.Name x pos) (tC v) :=
 λ_ _ _ H _ I h=>jo I hg hm hv ⟨v,H,I,r,h⟩ hn hd
variable {a b:Expr}{ta tb:TE}{pos:Pos}
noncomputable def PC (X:Cx) (op:CmpOp) (a b:Expr) (t:TE):Prop :=
 ∀ (pins:List (Addr × Obj)) (s:Shared) (σ:St) (H:Hp) (Q:VK),Inv X pins σ H s->t σ H Q ->
  wpAny (model X.prog X.w) X.A (eval a X.env) (λv s₁=>wpAny (model X.prog X.w) X.A (eval b X.env) (λu s₂=>wpAny (model X.prog X.w) X.A (compareOp op v u) (EP X pins σ Q) X.xe s₂) X.xe s₁) X.xe s
theorem mO (b:Expr) {op:CmpOp} (h:op ≠ .In) (h2:op ≠ .NotIn):behindInMarks op b=false:=by
 have e1:(op == CmpOp.In)=false:=by cases op <;> first|rfl|exact absurd rfl h
 have e2:(op == CmpOp.NotIn)=false:=by cases op <;> first|rfl|exact absurd rfl h2
 cases b <;> simp [behindInMarks,e1,e2]
noncomputable def tB (t:TE):TT:=λσ H Q=>t σ H λx H1=>∃ c,x=.bl c/\Q c H1
theorem rD {op:CmpOp}{t:TE} (h:PC X op a b t) (h1:behindInMarks op b=false:=by first|exact mO _ (by decide) (by decide)|rfl):PE X (.Compare a [op] [b] pos) t:=λpins s σ H Q I hw=>wpAny_Compare1 (h pins s σ H Q I hw) h1
theorem rE {op:CmpOp}{t:TE} (h:PC X op a b t) (h1:behindInMarks op b=false:=by first|exact mO _ (by decide) (by decide)|rfl):PT X (.Compare a [op] [b] pos) (tB t):=by
 intro pins s σ H Q I hw
 refine wpAny_isTrue_Compare1 (thn (h pins s σ H _ I hw) λv s1 h1=>thn h1 λu s2 h2=>thn h2 λc s3 ⟨x,H1,I1,r1,q1⟩=>?_) h1
 obtain ⟨d,rfl,q⟩:=q1
 cases r1
 exact wpAny_truthy_bool ⟨H1,I1,q⟩
theorem rF {e:Expr}{t:TE} (h:PE X e t) (he:∀ whole,isTrue e X.env whole=(do let v <- whole;standAt e.pos;holding [v] (truthy v)):=by intro _;rfl):PT X e (tB t):=by
 intro pins s σ H Q I hw
 refine isTrue_plain (thn (h pins s σ H _ I hw) λv s1 ⟨x,H1,I1,r1,q1⟩=>?_) (he _)
 obtain ⟨d,rfl,q⟩:=q1
 cases r1
 exact wpAny_truthy_bool ⟨H1,I1,q⟩
variable {tA tB':TT}{rest:List Expr}
noncomputable def BG (t u:TT):TT:=λσ H Q=>t σ H λc H1=>if c=true then u σ H1 Q else Q false H1
noncomputable def tOr (t u:TT):TT:=λσ H Q=>t σ H λc H1=>if c=true then Q true H1 else u σ H1 Q
noncomputable def zS (t:TT):TT:=λσ H Q=>t σ H λc H1=>Q (!c) H1
theorem vj (ha:PT X a tA):PW X (.BoolOp .And [a] pos) tA:=by
 intro wh pins s σ H Q I h
 refine isTrue_and (thn (ha pins s σ H Q I h) λc s1 e=>?_)
 cases c with
 | true=>exact isTrue_and_nil e
 | false=>exact e
theorem rG (ha:PT X a tA):PW X (.BoolOp .Or [a] pos) tA:=by
 intro wh pins s σ H Q I h
 refine isTrue_or (thn (ha pins s σ H Q I h) λc s1 e=>?_)
 cases c with
 | false=>exact isTrue_or_nil e
 | true=>exact e
theorem xy (ha:PT X a tA) (hb:PW X (.BoolOp .And (b::rest) pos) tB'):PW X (.BoolOp .And (a::b::rest) pos) (BG tA tB'):=by
 intro wh pins s σ H Q I h
 refine isTrue_and (thn (ha pins s σ H _ I h) λc s1 ⟨H1,I1,q1⟩=>?_)
 cases c with
 | true=>exact hb wh pins s1 σ H1 Q I1 q1
 | false=>exact ⟨H1,I1,q1⟩
theorem wT (ha:PT X a tA) (hb:PW X (.BoolOp .Or (b::rest) pos) tB'):PW X (.BoolOp .Or (a::b::rest) pos) (tOr tA tB'):=by
 intro wh pins s σ H Q I h
 refine isTrue_or (thn (ha pins s σ H _ I h) λc s1 ⟨H1,I1,q1⟩=>?_)
 cases c with
 | true=>exact ⟨H1,I1,q1⟩
 | false=>exact hb wh pins s1 σ H1 Q I1 q1
theorem rH (ha:PT X a tA):PT X (.UnaryOp .Not a pos) (zS tA):=by
 intro pins s σ H Q I h
 exact isTrue_not (ha pins s σ H (λc H1=>Q (!c) H1) I h)
noncomputable def zT (ta tb:TE):TE:=λσ H Q=>ta σ H λx H1=>∃ c,x=.bl c/\if c=true then tb σ H1 Q else Q (.bl false) H1
noncomputable def BH (ta tb:TE):TE:=λσ H Q=>ta σ H λx H1=>∃ c,x=.bl c/\if c=true then Q (.bl true) H1 else tb σ H1 Q
noncomputable def zU (ta:TE):TE:=λσ H Q=>ta σ H λx H1=>∃ c,x=.bl c/\Q (.bl (!c)) H1
theorem rJ {op}{t:TE} (h:PE X a t):PE X (.BoolOp op [a] pos) t:=λpins s σ H Q I hw=>BoolOp_one (h pins s σ H Q I hw)
theorem xz (ha:PE X a ta) (hb:PE X (.BoolOp .And (b::rest) pos) tb):PE X (.BoolOp .And (a::b::rest) pos) (zT ta tb):=by
 intro pins s σ H Q I h
 refine BoolOp_and (thn (ha pins s σ H _ I h) λv s1 ⟨x,H1,I1,r1,q1⟩=>?_)
 obtain ⟨c,rfl,q1⟩:=q1
 cases r1
 refine wpAny_truthy_bool ?_
 cases c with
 | true=>exact hb pins s1 σ H1 Q I1 q1
 | false=>exact ⟨.bl false,H1,I1,rfl,q1⟩
theorem zV (ha:PE X a ta) (hb:PE X (.BoolOp .Or (b::rest) pos) tb):PE X (.BoolOp .Or (a::b::rest) pos) (BH ta tb):=by
 intro pins s σ H Q I h
 refine BoolOp_or (thn (ha pins s σ H _ I h) λv s1 ⟨x,H1,I1,r1,q1⟩=>?_)
 obtain ⟨c,rfl,q1⟩:=q1
 cases r1
 refine wpAny_truthy_bool ?_
 cases c with
 | false=>exact hb pins s1 σ H1 Q I1 q1
 | true=>exact ⟨.bl true,H1,I1,rfl,q1⟩
theorem xA (ha:PE X a ta):PE X (.UnaryOp .Not a pos) (zU ta):=by
 intro pins s σ H Q I h
 refine UnaryOp_ (thn (ha pins s σ H _ I h) λv s1 ⟨x,H1,I1,r1,q1⟩=>?_)
 obtain ⟨c,rfl,q1⟩:=q1
 cases r1
 exact not_of (wpAny_truthy_bool ⟨.bl (!c),H1,I1,rfl,q1⟩)
noncomputable def tIf (t:TT) (ta tb:TE):TE:=λσ H Q=>t σ H λc H1=>if c=true then ta σ H1 Q else tb σ H1 Q
theorem rK {c:Expr} (hc:PT X c tA) (ha:PE X a ta) (hb:PE X b tb):PE X (.IfExp c a b pos) (tIf tA ta tb):=by
 intro pins s σ H Q I h
 refine wpAny_IfExp (thn (hc pins s σ H _ I h) λd s1 ⟨H1,I1,q1⟩=>?_)
 cases d with
 | true=>exact ha pins s1 σ H1 Q I1 q1
 | false=>exact hb pins s1 σ H1 Q I1 q1
end
end L2
namespace L2
open PySem PySem.Spec PyProof.Rows
noncomputable def SqL (K:PySem.W.Frag) (H:Hp) (a:Addr) (xs:List V):Prop :=
 Rd H a (.lst xs) \/
  ∃ (o:Obj) (its:Array Value) (n:Nat),K.lookup a=some o/\o.cls=.type "list"/\o.dict=none/\o.data=.seq its n/\its.size <= sizeLine/\al xs its.toList
noncomputable def SqT (K:PySem.W.Frag) (H:Hp) (a:Addr) (xs:List V):Prop :=
 Rd H a (.tup xs) \/
  ∃ (o:Obj) (its:Array Value) (n:Nat),K.lookup a=some o/\o.cls=.type "tuple"/\o.data=.seq its n/\its.size <= sizeLine/\al xs its.toList
noncomputable def BI:Value->Option V
 | .none=>some .non
 | .bool b=>some (.bl b)
 | .int i _=>some (.int i)
 | .str x _=>some (.str x)
 | .bytes b _=>some (.byt b)
 | .float b _=>some (.flt b)
 | .ref a=>some (.ref a)
 | .type n=>some (.ty n)
 | _=>none
theorem ak.abs {x:V}{u:Value} (r:ak x u):BI u=some x:=by
 cases x with
 | non=>cases r;rfl
 | bl _=>cases r;rfl
 | int _=>obtain ⟨t,rfl⟩:=r;rfl
 | str _=>obtain ⟨t,rfl⟩:=r;rfl
 | byt _=>obtain ⟨t,rfl⟩:=r;rfl
 | flt _=>obtain ⟨t,rfl⟩:=r;rfl
 | ref _=>cases r;rfl
 | ty _=>cases r;rfl
theorem ak.inj {x y:V}{u:Value} (r:ak x u) (q:ak y u):x=y:=Option.some.inj (r.abs.symm.trans q.abs)
theorem al.inj:∀ {xs ys:List V}{us:List Value},al xs us->al ys us->xs=ys
 | _,_,_,.nil,.nil=>rfl
 | _,_,_,.cons r t,.cons r' t'=>by rw [r.inj r',al.inj t t']
section
variable {X:Cx}{pins:List (Addr × Obj)}{σ:St}{H:Hp}{s:Shared}{a:Addr}{xs ys:List V}
theorem SqL.of {K:PySem.W.Frag} (h:H a=some (.lst xs)):SqL K H a xs:=.inl (.inl h)
theorem SqT.of {K:PySem.W.Frag} (h:H a=some (.tup xs)):SqT K H a xs:=.inl (.inl h)
theorem Inv.list (I:Inv X pins σ H s) (h:SqL X.K H a xs):∃ its:List Value,al xs its/\PlainL s.heap a its.toArray/\xs.length <= sizeLine:=by
 rcases h with h|⟨o,its,n,hk,hc,hd,hs,hz,r⟩
 ·obtain ⟨z,its,n,r,e⟩:=h.ok I.hok
  exact ⟨its,r,⟨_,n,e,rfl,rfl,rfl⟩,z⟩
 ·refine ⟨its.toList,r,⟨o,n,I.kIn a o hk,hc,hd,by simpa using hs⟩,?_⟩
  have e:=r.length
  simp only [Array.length_toList] at e
  omega
theorem Inv.tuple (I:Inv X pins σ H s) (h:SqT X.K H a xs):∃ its:List Value,al xs its/\IsTup s.heap a its.toArray/\xs.length <= sizeLine:=by
 rcases h with h|⟨o,its,n,hk,hc,hs,hz,r⟩
 ·obtain ⟨z,its,r,p⟩:=h.ok I.hok
  exact ⟨its,r,p,z⟩
 ·refine ⟨its.toList,r,⟨o,I.kIn a o hk,hc,n,by simpa using hs⟩,?_⟩
  have e:=r.length
  simp only [Array.length_toList] at e
  omega
theorem Inv.list_inj (I:Inv X pins σ H s) (h:SqL X.K H a xs) (h':SqL X.K H a ys):xs=ys:=by
 obtain ⟨its,r,⟨o,n,e,_,_,d⟩,_⟩:=I.list h
 obtain ⟨its',r',⟨o',n',e',_,_,d'⟩,_⟩:=I.list h'
 rw [e] at e';cases e'
 rw [d] at d'
 injection d' with d1 _
 have:its=its':=by simpa using congrArg Array.toList d1
 subst this
 exact r.inj r'
theorem Inv.tuple_inj (I:Inv X pins σ H s) (h:SqT X.K H a xs) (h':SqT X.K H a ys):xs=ys:=by
 obtain ⟨its,r,⟨o,e,_,n,d⟩,_⟩:=I.tuple h
 obtain ⟨its',r',⟨o',e',_,n',d'⟩,_⟩:=I.tuple h'
 rw [e] at e';cases e'
 rw [d] at d'
 injection d' with d1 _
 have:its=its':=by simpa using congrArg Array.toList d1
 subst this
 exact r.inj r'
end
noncomputable abbrev Cx.wish (X:Cx) (E:Value->Shared->Prop):Cx:={ X with xe:=E }
noncomputable abbrev Cx.nox (X:Cx):Cx:=X.wish λ_ _=>False
theorem Cx.Ok.wish {X:Cx} (ok:X.Ok) (E:Value->Shared->Prop):(X.wish E).Ok :=
 ⟨ok.mod,ok.kind,ok.glob,ok.blt,ok.above,ok.inj,ok.has,ok.cab,ok.hd,ok.frames,ok.stk,ok.exf,ok.bs,ok.bsz,ok.noex,ok.exfs,ok.funs,ok.frf⟩
theorem Cx.Ok.unwish {X:Cx}{E:Value->Shared->Prop} (ok:(X.wish E).Ok):X.Ok :=
 ⟨ok.mod,ok.kind,ok.glob,ok.blt,ok.above,ok.inj,ok.has,ok.cab,ok.hd,ok.frames,ok.stk,ok.exf,ok.bs,ok.bsz,ok.noex,ok.exfs,ok.funs,ok.frf⟩
section
variable {X:Cx}{pins:List (Addr × Obj)}{σ:St}{H:Hp}{s:Shared}{E:Value->Shared->Prop}
theorem Inv.wish (I:Inv X pins σ H s) (E:Value->Shared->Prop):Inv (X.wish E) pins σ H s:=⟨I.ok.wish E,I.os,I.bare,I.base,I.loc,I.cell,I.free,I.freeC,I.pin,I.hok,I.len⟩
theorem Inv.unwish (I:Inv (X.wish E) pins σ H s):Inv X pins σ H s:=⟨I.ok.unwish,I.os,I.bare,I.base,I.loc,I.cell,I.free,I.freeC,I.pin,I.hok,I.len⟩
theorem SP.unwish {D:i0}{f:Flow}{s':Shared} (h:SP (X.wish E) pins D f s'):SP X pins D f s':=by
 cases f with
 | next=>obtain ⟨σ',H',I,q⟩:=h;exact ⟨σ',H',I.unwish,q⟩
 | brk=>obtain ⟨σ',H',I,q⟩:=h;exact ⟨σ',H',I.unwish,q⟩
 | cont=>obtain ⟨σ',H',I,q⟩:=h;exact ⟨σ',H',I.unwish,q⟩
 | ret u=>obtain ⟨v,σ',H',I,r,q⟩:=h;exact ⟨v,σ',H',I.unwish,r,q⟩
theorem PE.nox {e:Expr}{t:TE} (h:PE X.nox e t):PE X e t:=λpins s σ H Q I hw =>
 wpAny_mono (h pins s σ H Q (I.wish _) hw) (λ_ _ ⟨v,H',I',r,q⟩=>⟨v,H',I'.unwish,r,q⟩) λ_ _ z=>False.elim z
theorem PT.nox {e:Expr}{t:TT} (h:PT X.nox e t):PT X e t:=λpins s σ H Q I hw =>
 wpAny_mono (h pins s σ H Q (I.wish _) hw) (λ_ _ ⟨H',I',q⟩=>⟨H',I'.unwish,q⟩) λ_ _ z=>False.elim z
theorem PSs.nox {st:List Stmt}{t:TS} (h:PSs X.nox st t):PSs X st t:=λpins s σ H D I hw =>
 wpAny_mono (h pins s σ H D (I.wish _) hw) (λ_ _ q=>q.unwish) λ_ _ z=>False.elim z
end
section
variable {X:Cx}{st:Stmt}{rest:List Stmt}{t u:TS}{e:Expr}{te:TE}{pos:Pos}
noncomputable def zW:TS:=λD σ H=>D.nx σ H
noncomputable def BJ (t u:TS):TS:=λD σ H=>t { D with nx:=u D } σ H
theorem vk:PSs X [] zW:=λ_ _ σ H _ I h=>wpAny_execs_nil ⟨σ,H,I,h⟩
theorem rL (h1:PS X st t) (h2:PSs X rest u):PSs X (st::rest) (BJ t u):=by
 intro pins s σ H D I h
 refine wpAny_execs_cons (thn (h1 pins s σ H { D with nx:=u D } I h) λf s1 q=>?_)
 cases f with
 | next =>
  obtain ⟨σ',H',I',q⟩:=q
  exact h2 pins s1 σ' H' D I' q
 | ret v=>exact q
 | brk=>exact q
 | cont=>exact q
theorem Inv.quiet {pins:List (Addr × Obj)}{σ:St}{H:Hp}{s:Shared} (I:Inv X pins σ H s):interactive X.env=false:=by simp [interactive,I.ok.kind]
noncomputable def zX (te:TE):TS:=λD σ H=>te σ H λ_ H1=>D.nx σ H1
theorem lK (he:PE X e te) (hs:swapsWith e none pos.line X.env=pure false:=by rfl):PS X (.Expr e pos) (zX te):=by
 intro pins s σ H D I h
 exact wpAny_Expr_any (thn (he pins s σ H _ I h) λv s1 ⟨x,H1,I1,r1,q1⟩=>⟨σ,H1,I1,q1⟩) I.quiet hs
noncomputable def BK (te:TE):TS:=λD σ H=>te σ H D.rt
theorem lL (he:PE X e te):PS X (.Return (some e) pos) (BK te):=by
 intro pins s σ H D I h
 exact wpAny_Return_some (thn (he pins s σ H _ I h) λv s1 ⟨x,H1,I1,r1,q1⟩=>⟨x,σ,H1,I1,r1,q1⟩)
noncomputable def BL (c:TT) (t u:TS):TS:=λD σ H=>c σ H λb H1=>if b=true then t D σ H1 else u D σ H1
theorem rM {c:Expr}{a b:List Stmt}{tc:TT} (hc:PT X c tc) (ha:PSs X a t) (hb:PSs X b u):PS X (.If c a b pos) (BL tc t u):=by
 intro pins s σ H D I h
 refine wpAny_If (thn (hc pins s σ H _ I h) λd s1 ⟨H1,I1,q1⟩=>?_)
 cases d with
 | true=>exact ha pins s1 σ H1 D I1 q1
 | false=>exact hb pins s1 σ H1 D I1 q1
noncomputable def xB:TS:=λ_ _ _=>False
theorem rN:PS X st xB:=λ_ _ _ _ _ _ h=>h.elim
end
noncomputable abbrev TG:=V->St->Hp->(St->Hp->Prop)->Prop
noncomputable def PG (X:Cx) (target:Expr) (t:TG):Prop :=
 ∀ (pins:List (Addr × Obj)) (s:Shared) (σ:St) (H:Hp) (v:V) (u:Value) (Q:St->Hp->Prop),Inv X pins σ H s->ak v u->t v σ H Q ->
  wpAny (model X.prog X.w) X.A (assign target X.env u) (λ_ s'=>∃ σ' H',Inv X pins σ' H' s'/\Q σ' H') X.xe s
noncomputable abbrev BM:=V->V->V->Hp->(Hp->Prop)->Prop
noncomputable def BN (X:Cx) (t:BM):Prop :=
 ∀ (pins:List (Addr × Obj)) (s:Shared) (σ:St) (H:Hp) (o i v:V) (ov iv u:Value) (Q:Hp->Prop),Inv X pins σ H s->ak o ov->ak i iv->ak v u->t o i v H Q ->
  wpAny (model X.prog X.w) X.A (setItem ov iv u) (λ_ s'=>∃ H',Inv X pins σ H' s'/\Q H') X.xe s
section
variable {X:Cx}{pos:Pos}
noncomputable def iS (i:Nat):TG:=λv σ H Q=>Q (σ.set i (some v)) H
theorem oT {i:Nat}{x:Str} (hN:X.N.Nodup) (hi:X.N[i]?=some x) (hx:Loc X.env.scope x) (hf:X.fn x=true \/ X.env.scope.names.lookup x=some .local:=by first|exact .inl rfl|exact .inr rfl|assumption):PG X (.Name x pos) (iS i):=by
 intro pins s σ H v u Q I r h
 exact wpAny_assign_Name (mN I hN hi hx r (λs' I'=>⟨_,H,I',h⟩) hf)
noncomputable def rO (te:TE) (g:TG):TS:=λD σ H=>te σ H λx H1=>g x σ H1 D.nx
theorem gc {i:Nat}{x:Str}{e:Expr}{te:TE}{pos':Pos} (hN:X.N.Nodup) (hi:X.N[i]?=some x) (hx:Loc X.env.scope x) (he:PE X e te) (hs:swapsWith e (some (.Name x pos')) pos.line X.env=pure false:=by rfl) (hf:X.fn x=true \/ X.env.scope.names.lookup x=some .local:=by first|exact .inl rfl|exact .inr rfl|assumption) :
  PS X (.Assign [.Name x pos'] e pos) (rO te (iS i)):=by
 intro pins s σ H D I h
 refine wpAny_Assign_Name (thn (he pins s σ H _ I h) λv s1 ⟨y,H1,I1,r1,q1⟩=>?_) hs
 exact mN I1 hN hi hx r1 (λs2 I2=>⟨_,H1,I2,q1⟩) hf
end
section
variable {X:Cx}{pos:Pos}
end
structure It where
 go:Nat->Hp->Prop
 yld:Nat->Hp->V->Hp->Prop
 stop:Nat->Hp->Prop
noncomputable def mP (X:Cx) (pins:List (Addr × Obj)) (H:Hp) (b:Addr):Prop :=
 H b=none/\b ≠ X.env.locals/\b ∉ X.fs/\(b ∈ X.ex \/ X.s₀.heap.objs.size <= b)/\(∀ x c,X.env.cells.lookup x=some c->c ≠ b)/\∀ p ∈ X.pn ++ pins,p.1 ≠ b
theorem Inv.fpOk {X:Cx}{pins:List (Addr × Obj)}{σ:St}{H H':Hp}{s:Shared}{b:Addr} (I:Inv X pins σ H s) (hb:s.heap.objs.size <= b) (hn:H' b=none):mP X pins H' b:=by
 refine ⟨hn,Nat.ne_of_gt (Nat.lt_of_lt_of_le I.lt hb),I.nofs hb,.inr (Nat.le_trans I.sz hb),λx c e z=>?_,λp hp z=>?_⟩
 ·obtain ⟨v,q⟩:=I.cell x c e
  exact absurd (Nat.lt_of_lt_of_le q.lt (by rw [z];exact hb)) (Nat.lt_irrefl _)
 ·exact absurd (Nat.lt_of_lt_of_le (Heap.lt_size (I.pin p hp).1) (by rw [z];exact hb)) (Nat.lt_irrefl _)
structure rP (P:Program) (w:World) (K:PySem.W.Frag) (tg:Expr) (J:It) (fp:List Addr) (it:Addr) (tn:Nat->Heap->Prop):Prop where
 mem:it ∈ fp
 obj:∀ i h,tn i h->∀ b ∈ fp,∃ o,h.get? b=some o/\∀ v,o.data ≠ .cell v
 keep:∀ i h h',tn i h->(∀ b ∈ fp,∀ o,h.get? b=some o->h'.get? b=some o)->tn i h'
 item:∀ (X:Cx),X.prog=P->X.w=w->X.K=K->X.calm=true->∀ (i:Nat) (pins:List (Addr × Obj)) (s:Shared) (σ:St) (H:Hp) (E:Value->Shared->Prop),Inv X pins σ H s->(∀ b ∈ fp,mP X pins H b)->tn i s.heap->J.go i H ->
  wpAny (model P w) X.A (pyNext (.ref it)) (λr s1=>∃ u,r=some u /\
   wpAny (model P w) X.A (letOwnedTupleGo tg (.ref it) u) (λ_ s2=>∃ x H',Inv X pins σ H' s2/\ak x u/\J.yld i H x H'/\tn (i + 1) s2.heap/\∀ b ∈ fp,H' b=none) E s1) E s
 done:∀ (X:Cx),X.prog=P->X.w=w->X.K=K->X.calm=true->∀ (i:Nat) (pins:List (Addr × Obj)) (s:Shared) (σ:St) (H:Hp) (E:Value->Shared->Prop),Inv X pins σ H s->(∀ b ∈ fp,mP X pins H b)->tn i s.heap->J.stop i H ->
  wpAny (model P w) X.A (pyNext (.ref it)) (λr s1=>r=none/\Inv X pins σ H s1) E s
 self:∀ (A:Around) (i:Nat) (s:Shared) (Q:Value->Shared->Prop) (E:Value->Shared->Prop),tn i s.heap->Q (.ref it) s->wpAny (model P w) A (pyIter (.ref it)) Q E s
noncomputable abbrev TI:=St->Hp->(It->Hp->Prop)->Prop
noncomputable def PIE (X:Cx) (pins:List (Addr × Obj)) (σ:St) (tg:Expr) (R:It->Hp->Prop) (itv:Value) (s2:Shared):Prop :=
 ∃ (it:Addr) (fp:List Addr) (tn:Nat->Heap->Prop) (J:It) (H':Hp),itv=.ref it/\Inv X pins σ H' s2/\rP X.prog X.w X.K tg J fp it tn/\tn 0 s2.heap/\(∀ b ∈ fp,mP X pins H' b)/\R J H'
noncomputable def PI (X:Cx) (tg iter:Expr) (wi:TI):Prop :=
 ∀ (pins:List (Addr × Obj)) (s:Shared) (σ:St) (H:Hp) (R:It->Hp->Prop),Inv X pins σ H s->wi σ H R ->
  wpAny (model X.prog X.w) X.A (eval iter X.env) (λv s1=>wpAny (model X.prog X.w) X.A (pyIter v) (PIE X pins σ tg R) X.xe s1) X.xe s
theorem rQ {M:Model}{A:Around}{E:Value->Shared->Prop}{s:Shared}{tg:Expr}{it:Addr}{u:Value}{o:Obj}{n:String}{vs:Array Value}{Q:Unit->Shared->Prop} (ho:s.heap.get? it=some o) (hc:o.cls=.type n) (hd:o.data=.fields vs)
    (hn:["enumerate","zip","dict_itemiterator","dict_reverseitemiterator","odict_iterator","itertools.zip_longest","itertools.pairwise"].contains n=false) (hQ:Q () s):wpAny M A (letOwnedTupleGo tg (.ref it) u) Q E s:=by
  unfold letOwnedTupleGo
  cases tg <;> first
    | exact wpAny_pure hQ
    | (cases u <;> first
        | exact wpAny_pure hQ
        | (refine wpAny_bind (wpAny_load ho ?_)
           rw [hc,hd]
           show wpAny M A (if (["enumerate","zip","dict_itemiterator","dict_reverseitemiterator","odict_iterator","itertools.zip_longest","itertools.pairwise"].contains n&&vs[0]? == some (rawInt _))=true then _ else _) Q E s
           rw [if_neg (by intro h;rw [hn,Bool.false_and] at h;cases h)]
           exact wpAny_pure hQ))
noncomputable def Itl (K:PySem.W.Frag) (a:Addr):It :=
 ⟨λi H=>∃ xs x,SqL K H a xs/\xs[i]?=some x,λi H x H'=>H'=H/\∀ xs,SqL K H a xs->xs[i]?=some x,λi H=>∃ xs,SqL K H a xs/\xs.length <= i⟩
noncomputable def Itt (K:PySem.W.Frag) (a:Addr):It :=
 ⟨λi H=>∃ xs x,SqT K H a xs/\xs[i]?=some x,λi H x H'=>H'=H/\∀ xs,SqT K H a xs->xs[i]?=some x,λi H=>∃ xs,SqT K H a xs/\xs.length <= i⟩
noncomputable def Itr (lo:Int) (n:Nat):It:=⟨λi _=>i < n,λi H x H'=>H'=H/\x=.int (lo + i),λi _=>n <= i⟩
theorem p_ {P:Program}{w:World}{K:PySem.W.Frag}{tg:Expr} (a it:Addr):rP P w K tg (Itl K a) [it] it (λi h=>h.IsListIter it a i) where
 mem:=by simp
 obj:=λi h st b hb=>by
  have e:b=it:=by simpa using hb
  subst e
  obtain ⟨o,e,c,d⟩:=st
  exact ⟨o,e,λv z=>by rw [d] at z;cases z⟩
 keep:=λi h h' st k=>st.at λo e=>k it (by simp) o e
 item:=by
  intro X hP hw hK hc i pins s σ H E I hf st hg
  subst hP hw hK
  obtain ⟨xs,x,hq,hx⟩:=hg
  obtain ⟨its,rv,p,hz⟩:=I.list hq
  obtain ⟨u,hu,ru⟩:=rv.get hx
  obtain ⟨f0,f1,f2,f3,f4,f5⟩:=hf it (by simp)
  refine wpAny_pyNext_list_item st p.isList (x:=u) (by simpa using hu) λh' st' sb=>?_
  have I1:Inv X pins σ H { s with heap:=h' }:=I.turned (t':=s.toks) (λb o hb e=>(sb.2 b hb).trans e) f0 f1 f3 f4 f5
  obtain ⟨o,e,c,d⟩:=id st'
  exact ⟨u,rfl,rQ (s:={ s with heap:=h' }) e c d (by decide) ⟨x,H,I1,ru,⟨rfl,λys hy=>by rw [I.list_inj hy hq];exact hx⟩,st',λb hb=>(hf b hb).1⟩⟩
 done:=by
  intro X hP hw hK hc i pins s σ H E I hf st hg
  subst hP hw hK
  obtain ⟨xs,hq,hx⟩:=hg
  obtain ⟨its,rv,p,hz⟩:=I.list hq
  obtain ⟨f0,f1,f2,f3,f4,f5⟩:=hf it (by simp)
  have hl:=rv.length
  exact wpAny_pyNext_list_end (I.ok.hd hc) st p.isList (by simp;omega) λh' eb=>⟨rfl,I.turned (t':=s.toks) (λb o hb e=>eb b o hb e) f0 f1 f3 f4 f5⟩
 self:=λ_ _ _ _ _ st h=>wpAny_pyIter_listiter st h
theorem nX {P:Program}{w:World}{K:PySem.W.Frag}{tg:Expr} (a it:Addr):rP P w K tg (Itt K a) [it] it (λi h=>h.IsTupleIter it a i) where
 mem:=by simp
 obj:=λi h st b hb=>by
  have e:b=it:=by simpa using hb
  subst e
  obtain ⟨o,e,c,d⟩:=st
  exact ⟨o,e,λv z=>by rw [d] at z;cases z⟩
 keep:=λi h h' st k=>st.at λo e=>k it (by simp) o e
 item:=by
  intro X hP hw hK hc i pins s σ H E I hf st hg
  subst hP hw hK
  obtain ⟨xs,x,hq,hx⟩:=hg
  obtain ⟨its,rv,p,hz⟩:=I.tuple hq
  obtain ⟨u,hu,ru⟩:=rv.get hx
  obtain ⟨f0,f1,f2,f3,f4,f5⟩:=hf it (by simp)
  refine wpAny_pyNext_tuple_item st (show s.heap.IsTuple a its.toArray from p) (x:=u) (by simpa using hu) λh' st' sb=>?_
  have I1:Inv X pins σ H { s with heap:=h' }:=I.turned (t':=s.toks) (λb o hb e=>(sb.2 b hb).trans e) f0 f1 f3 f4 f5
  obtain ⟨o,e,c,d⟩:=id st'
  exact ⟨u,rfl,rQ (s:={ s with heap:=h' }) e c d (by decide) ⟨x,H,I1,ru,⟨rfl,λys hy=>by rw [I.tuple_inj hy hq];exact hx⟩,st',λb hb=>(hf b hb).1⟩⟩
 done:=by
  intro X hP hw hK hc i pins s σ H E I hf st hg
  subst hP hw hK
  obtain ⟨xs,hq,hx⟩:=hg
  obtain ⟨its,rv,p,hz⟩:=I.tuple hq
  obtain ⟨f0,f1,f2,f3,f4,f5⟩:=hf it (by simp)
  have hl:=rv.length
  exact wpAny_pyNext_tuple_end (I.ok.hd hc) st (show s.heap.IsTuple a its.toArray from p) (by simp;omega) λh' eb=>⟨rfl,I.turned (t':=s.toks) (λb o hb e=>eb b o hb e) f0 f1 f3 f4 f5⟩
 self:=λ_ _ _ _ _ st h=>wpAny_pyIter_tupleiter st h
theorem nY {P:Program}{w:World}{K:PySem.W.Frag}{tg:Expr} (it:Addr) (lo:Int) (n:Nat):rP P w K tg (Itr lo n) [it] it (λi h=>IsRangeIter h it (lo + (i:Nat) * 1) ((n:Int) - (i:Nat)) 1) where
 mem:=by simp
 obj:=λi h st b hb=>by
  have e:b=it:=by simpa using hb
  subst e
  exact ⟨_,st,λv z=>by
   have z':Data.fields _=Data.cell v:=z
   cases z'⟩
 keep:=λi h h' st k=>k it (by simp) _ st
 item:=by
  intro X hP hw hK hc i pins s σ H E I hf st hg
  subst hP hw hK
  obtain ⟨f0,f1,f2,f3,f4,f5⟩:=hf it (by simp)
  have W:=Walks.range (prog:=X.prog) (w:=X.w) (I.ok.hd hc) it lo 1 n
  refine W.item i s _ _ hg st λv h' tk hv st' kk=>?_
  obtain ⟨t,rfl⟩:=hv
  have I1:Inv X pins σ H { s with heap:=h',toks:=tk }:=I.turned (λb o hb e=>kk b o (by simpa using hb) e) f0 f1 f3 f4 f5
  refine ⟨_,rfl,rQ (s:={ s with heap:=h',toks:=tk }) (n:="range_iterator") st' rfl rfl (by decide) ⟨.int (lo + i),H,I1,⟨t,?_⟩,⟨rfl,rfl⟩,st',λb hb=>(hf b hb).1⟩⟩
  rw [Int.mul_one]
 done:=by
  intro X hP hw hK hc i pins s σ H E I hf st hg
  subst hP hw hK
  obtain ⟨f0,f1,f2,f3,f4,f5⟩:=hf it (by simp)
  exact wpAny_pyNext_range_end (I.ok.hd hc) st (by have:n <= i:=hg;omega) λh' eb=>⟨rfl,I.turned (t':=s.toks) (λb o hb e=>eb b o hb e) f0 f1 f3 f4 f5⟩
 self:=λ_ _ _ _ _ st h=>wpAny_pyIter_rangeiter st h
end L2
namespace L2
open PySem PySem.Spec PyProof.Rows
section
variable {X:Cx}{tg:Expr}
noncomputable def zY (K:PySem.W.Frag) (tl:TE):TI:=λσ H R=>tl σ H λx H1=>∃ a,x=.ref a/\(∃ xs,SqL K H1 a xs)/\R (Itl K a) H1
noncomputable def BO (K:PySem.W.Frag) (tl:TE):TI:=λσ H R=>tl σ H λx H1=>∃ a,x=.ref a/\(∃ xs,SqT K H1 a xs)/\R (Itt K a) H1
theorem oU {l:Expr}{tl:TE} (hl:PE X l tl):PI X tg l (zY X.K tl):=by
 intro pins s σ H R I h
 refine thn (hl pins s σ H _ I h) λv s1 ⟨x,H1,I1,r1,q1⟩=>?_
 obtain ⟨a,e,⟨xs,hq⟩,q⟩:=q1
 subst e
 cases r1
 obtain ⟨its,rv,p,hz⟩:=I1.list hq
 refine wpAny_pyIter_list p.isList ?_
 refine ⟨s1.heap.objs.size,[s1.heap.objs.size],_,_,H1,rfl,I1.kept (t':=s1.toks) λb o e=>Heap.get?_push_of_some _ e,p_ a _,⟨_,Heap.get?_push_size _ rfl,rfl,rfl⟩,λb hb=>?_,q⟩
 have e:b=s1.heap.objs.size:=by simpa using hb
 subst e
 exact I1.fpOk (Nat.le_refl _) (I1.hok.fresh (Nat.le_refl _))
theorem rR {l:Expr}{tl:TE} (hl:PE X l tl):PI X tg l (BO X.K tl):=by
 intro pins s σ H R I h
 refine thn (hl pins s σ H _ I h) λv s1 ⟨x,H1,I1,r1,q1⟩=>?_
 obtain ⟨a,e,⟨xs,hq⟩,q⟩:=q1
 subst e
 cases r1
 obtain ⟨its,rv,p,hz⟩:=I1.tuple hq
 refine wpAny_pyIter_tuple (show s1.heap.IsTuple a its.toArray from p) ?_
 refine ⟨s1.heap.objs.size,[s1.heap.objs.size],_,_,H1,rfl,I1.kept (t':=s1.toks) λb o e=>Heap.get?_push_of_some _ e,nX a _,⟨_,Heap.get?_push_size _ rfl,rfl,rfl⟩,λb hb=>?_,q⟩
 have e:b=s1.heap.objs.size:=by simpa using hb
 subst e
 exact I1.fpOk (Nat.le_refl _) (I1.hok.fresh (Nat.le_refl _))
theorem mQ {pins:List (Addr × Obj)}{σ:St}{H:Hp}{s:Shared}{R:It->Hp->Prop}{E:Value->Shared->Prop}{lo hi:Int}{t u v:Tok}{tk:Nat} (I:Inv X pins σ H s) (h1:-(2 ^ 62) <= lo) (h2:lo < 2 ^ 62) (h3:-(2 ^ 62) <= hi) (h4:hi < 2 ^ 62)
  (q:R (Itr lo (hi - lo).toNat) H):wpAny (model X.prog X.w) X.A (pyIter (.ref s.heap.objs.size)) (PIE X pins σ tg R) E { s with heap:=s.heap.push { cls:=.type "range",data:=.fields #[.int lo t,.int hi u,.int 1 v] },toks:=tk }:=by
 refine wpAny_pyIter_range (IsRange.new ..) (small_one h1 h2 h3 h4) ?_
 have I1:Inv X pins σ H { s with heap:=s.heap.push { cls:=.type "range",data:=.fields #[.int lo t,.int hi u,.int 1 v] },toks:=tk }:=I.kept λb o e=>Heap.get?_push_of_some _ e
 refine ⟨(s.heap.push { cls:=.type "range",data:=.fields #[.int lo t,.int hi u,.int 1 v] }).objs.size,[(s.heap.push { cls:=.type "range",data:=.fields #[.int lo t,.int hi u,.int 1 v] }).objs.size],_,_,H,rfl,
  I1.kept (t':=tk) λb o e=>Heap.get?_push_of_some _ e,nY _ lo (hi - lo).toNat,?_,λb hb=>?_,q⟩
 ·have e1:lo + ((0:Nat):Int) * 1=lo:=by simp
  have e2:(((hi - lo).toNat:Nat):Int) - ((0:Nat):Int)=Builtin.Range.rangeSize lo hi 1:=by rw [rangeSize_one];split <;> omega
  show IsRangeIter _ _ (lo + ((0:Nat):Int) * 1) ((((hi - lo).toNat:Nat):Int) - ((0:Nat):Int)) 1
  rw [e1,e2]
  exact Heap.get?_push_size _ rfl
 ·have e:b=(s.heap.push { cls:=.type "range",data:=.fields #[.int lo t,.int hi u,.int 1 v] }).objs.size:=by simpa using hb
  subst e
  exact I1.fpOk (Nat.le_refl _) (I1.hok.fresh (Nat.le_refl _))
noncomputable def zZ (ta:TA):TI:=λσ H R=>ta σ H λvs H1=>∃ j:Int,vs=[.int j]/\-(2 ^ 62) <= j/\j < 2 ^ 62/\R (Itr 0 j.toNat) H1
noncomputable def z5 (ta:TA):TI:=λσ H R=>ta σ H λvs H1=>∃ i j:Int,vs=[.int i,.int j]/\(-(2 ^ 62) <= i/\i < 2 ^ 62/\-(2 ^ 62) <= j/\j < 2 ^ 62)/\R (Itr i (j - i).toNat) H1
theorem qa {a:Expr}{ta:TA}{p pos:Pos} (hg:Gl X "range") (hm:X.mg "range"=none) (ha:PA X [a] ta) (hs:starEach [a] X.env=[(false,eval a X.env)]:=by rfl):PI X tg (.Call (.Name "range" p) [a] [] pos) (zZ ta):=by
 intro pins s σ H R I h
 refine Call_ (jo I hg hm boot_range (PyProof.Rows.callWith_type1 (thn (ha pos pins s σ H _ I h) λus s1 ⟨vs,H1,I1,r1,q1⟩=>?_) hs rfl))
 obtain ⟨j,e,q1,q2,q⟩:=q1
 subst e
 cases r1 with
 | cons r rr =>
  cases rr
  obtain ⟨t,rfl⟩:=r
  exact call_range_1 (mQ I1 (by omega) (by omega) q1 q2 (by simpa using q))
theorem qb {a b:Expr}{ta:TA}{p pos:Pos} (hg:Gl X "range") (hm:X.mg "range"=none) (ha:PA X [a,b] ta) (hs:starEach [a,b] X.env=[(false,eval a X.env),(false,eval b X.env)]:=by rfl) (hs2:starEach [b] X.env=[(false,eval b X.env)]:=by rfl) :
  PI X tg (.Call (.Name "range" p) [a,b] [] pos) (z5 ta):=by
 intro pins s σ H R I h
 refine Call_ (jo I hg hm boot_range (PyProof.Rows.callWith_type1 (thn (ha pos pins s σ H _ I h) λus s1 ⟨vs,H1,I1,r1,q1⟩=>?_) (by rw [hs,hs2]) (by rw [hs2];rfl)))
 obtain ⟨i,j,e,⟨q1,q2,q3,q4⟩,q⟩:=q1
 subst e
 cases r1 with
 | cons r rr =>
  cases rr with
  | cons r' rr =>
   cases rr
   obtain ⟨t,rfl⟩:=r
   obtain ⟨t',rfl⟩:=r'
   exact call_range_2 (mQ I1 q1 q2 q3 q4 q)
noncomputable def z6 (wi:TI) (g:TG) (tb:TS):TS:=λD σ H=>wi σ H λJ H1=>∃ W:Nat->Nat->St->Hp->Prop,(∃ m,W 0 m σ H1)/\∀ i m σ H,W i m σ H ->
 (J.stop i H/\D.nx σ H) \/ (J.go i H/\∃ N:St->Hp->Prop,(∀ σ' H',N σ' H'->∃ m',m' < m/\W (i + 1) m' σ' H')/\∀ x H',J.yld i H x H'->g x σ H' λσ2 H2=>tb { D with nx:=N,ct:=N,bk:=D.nx } σ2 H2)
noncomputable def jp (fp:List Addr) (h:Heap):List (Addr × Obj):=fp.filterMap λb=>(h.get? b).map λo=>(b,o)
theorem eN {fp:List Addr}{h:Heap}{b:Addr}{o:Obj} (hb:b ∈ fp) (e:h.get? b=some o):(b,o) ∈ jp fp h:=List.mem_filterMap.mpr ⟨b,hb,by rw [e];rfl⟩
theorem qc {fp:List Addr}{h:Heap}{p:Addr × Obj} (hp:p ∈ jp fp h):p.1 ∈ fp/\h.get? p.1=some p.2:=by
 obtain ⟨b,hb,e⟩:=List.mem_filterMap.mp hp
 cases q:h.get? b with
 | none=>rw [q] at e;cases e
 | some o =>
  rw [q] at e
  have e':(b,o)=p:=Option.some.inj e
  subst e'
  exact ⟨hb,q⟩
theorem Inv.pinned {pins:List (Addr × Obj)}{σ:St}{H:Hp}{s:Shared}{fp:List Addr} (I:Inv X pins σ H s) (hf:∀ b ∈ fp,mP X pins H b) (ho:∀ b ∈ fp,∃ o,s.heap.get? b=some o/\∀ v,o.data ≠ .cell v):Inv X (pins ++ jp fp s.heap) σ H s :=
 I.pins_of λp hp=>(List.mem_append.mp hp).elim (λz=>I.pin p (List.mem_append_right _ z)) λz=>by
  obtain ⟨hb,e⟩:=qc z
  obtain ⟨f0,f1,f2,_⟩:=hf p.1 hb
  obtain ⟨o,e',d⟩:=ho p.1 hb
  rw [e] at e';cases e'
  exact ⟨e,f0,f1,f2,d⟩
theorem Inv.unpinned {pins pl:List (Addr × Obj)}{σ:St}{H:Hp}{s:Shared} (I:Inv X (pins ++ pl) σ H s):Inv X pins σ H s:=I.pins_of λp hp=>I.pin p (List.mem_append_right _ (List.mem_append_left _ hp))
theorem xC {iter:Expr}{body:List Stmt}{wi:TI}{g:TG}{tb:TS}{pos:Pos} (hp:PassesOwn (model X.prog X.w) X.A X.env X.xe) (hc:X.calm=true) (hi:PI X tg iter wi) (hg:PG X tg g) (hb:PSs X body tb)
  (hs:∀ x,foldedSetIterable iter X.env x=pure x:=by intro _;rfl):PS X (.For tg iter body [] pos) (z6 wi g tb):=by
 intro pins s σ H D I h
 refine wpAny_For (thn (hi pins s σ H _ I h) λv s1 h1=>thn h1 λitv s2 h2=>?_) hs
 obtain ⟨it,fp,tn,J,H2,e,I2,T,st2,f2,W,⟨m0,w0⟩,turn⟩:=h2
 subst e
 have stat:∀ {H':Hp},(∀ b ∈ fp,H' b=none)->∀ b ∈ fp,mP X pins H' b:=λhn b hb=>⟨hn b hb,(f2 b hb).2⟩
 refine codeAny_forLoop_any (λn s'=>∃ i σ' H',Inv X pins σ' H' s'/\tn i s'.heap/\(∀ b ∈ fp,H' b=none)/\W i n σ' H') ?_ m0 ⟨0,σ,H2,I2,st2,λb hb=>(f2 b hb).1,w0⟩
 rintro n s3 ⟨i,σ3,H3,I3,st3,fr3,w3⟩
 rcases turn i n σ3 H3 w3 with ⟨stop,qn⟩|⟨go,N,hN,step⟩
 ·refine wpAny_passesOwn hp (thn (T.done X rfl rfl rfl hc i pins s3 σ3 H3 X.xe I3 (stat fr3) st3 stop) λr s4 ⟨hr,I4⟩=>?_)
  subst hr
  exact wpAny_execs_nil ⟨σ3,H3,I4,qn⟩
 ·refine wpAny_passesOwn hp (thn (T.item X rfl rfl rfl hc i pins s3 σ3 H3 X.xe I3 (stat fr3) st3 go) λr s4 ⟨u,hr,h4⟩=>?_)
  subst hr
  refine wpAny_passesOwn hp (thn h4 λ_ s5 ⟨x,H5,I5,r5,y5,st5,fr5⟩=>?_)
  have I5':=I5.pinned (stat fr5) (T.obj _ _ st5)
  refine wpAny_passesOwn hp (thn (hg _ s5 σ3 H5 x u _ I5' r5 (step x H5 y5)) λ_ s6 ⟨σ6,H6,I6,q6⟩=>?_)
  refine wpAny_passesOwn hp (thn (hb _ s6 σ6 H6 _ I6 q6) λf s7 q7=>?_)
  have again:∀ {σ7:St}{H7:Hp},Inv X (pins ++ jp fp s5.heap) σ7 H7 s7->N σ7 H7->∃ m,m < n/\∃ i σ' H',Inv X pins σ' H' s7/\tn i s7.heap/\(∀ b ∈ fp,H' b=none)/\W i m σ' H':=λ{σ7 H7} I7 n7=>by
   obtain ⟨m',hm,w7⟩:=hN σ7 H7 n7
   refine ⟨m',hm,i + 1,σ7,H7,I7.unpinned,T.keep _ _ _ st5 λb hb o e=>(I7.pin (b,o) (List.mem_append_right _ (List.mem_append_right _ (eN hb e)))).1,λb hb=>?_,w7⟩
   obtain ⟨o,e,d⟩:=T.obj _ _ st5 b hb
   exact (I7.pin (b,o) (List.mem_append_right _ (List.mem_append_right _ (eN hb e)))).2.1
  cases f with
  | next=>obtain ⟨σ7,H7,I7,n7⟩:=q7;exact again I7 n7
  | cont=>obtain ⟨σ7,H7,I7,n7⟩:=q7;exact again I7 n7
  | brk=>obtain ⟨σ7,H7,I7,q7⟩:=q7;exact ⟨σ7,H7,I7.unpinned,q7⟩
  | ret v=>obtain ⟨x7,σ7,H7,I7,r7,q7⟩:=q7;exact ⟨x7,σ7,H7,I7.unpinned,r7,q7⟩
end
end L2
namespace L2
open PySem PySem.Spec PyProof.Rows
noncomputable abbrev R2:=V->V->Hp->VK->Prop
noncomputable def OpR (X:Cx) (f:Value->Value->Sem Value) (r:R2):Prop :=
 ∀ (pins:List (Addr × Obj)) (s:Shared) (σ:St) (H:Hp) (x y:V) (v u:Value) (Q:VK),Inv X pins σ H s->ak x v->ak y u->r x y H Q ->
  wpAny (model X.prog X.w) X.A (f v u) (EP X pins σ Q) X.xe s
noncomputable def bn (X:Cx) (f:Value) (r:List V->Hp->VK->Prop):Prop :=
 ∀ (pins:List (Addr × Obj)) (s:Shared) (σ:St) (H:Hp) (xs:List V) (us:List Value) (Q:VK),Inv X pins σ H s->al xs us->r xs H Q ->
  wpAny (model X.prog X.w) X.A (call f us) (EP X pins σ Q) X.xe s
noncomputable def tOp (r:R2) (ta tb:TE):TE:=λσ H Q=>ta σ H λx H1=>tb σ H1 λy H2=>r x y H2 Q
noncomputable def rI (C:Int->Int->Prop) (g:Int->Int->V):R2:=λx y H Q=>∃ i j,x=.int i/\y=.int j/\C i j/\Q (g i j) H
noncomputable def rI0 (g:Int->Int->V):R2:=λx y H Q=>∃ i j,x=.int i/\y=.int j/\Q (g i j) H
section
variable {X:Cx}{a b c:Expr}{ta tb tc:TE}{pos:Pos}
theorem xD (ha:PE X a ta) (hb:PE X b tb) {pins:List (Addr × Obj)}{s:Shared}{σ:St}{H:Hp}{R:V->V->Hp->Prop} (I:Inv X pins σ H s)
  (h:ta σ H λx H1=>tb σ H1 λy H2=>R x y H2) {Q:Value->Shared->Prop}{f:Value->Value->Sem Value}
  (hf:∀ v u s2 x y H2,Inv X pins σ H2 s2->ak x v->ak y u->R x y H2->wpAny (model X.prog X.w) X.A (f v u) Q X.xe s2) :
  wpAny (model X.prog X.w) X.A (eval a X.env) (λv s₁=>wpAny (model X.prog X.w) X.A (eval b X.env) (λu s₂=>wpAny (model X.prog X.w) X.A (f v u) Q X.xe s₂) X.xe s₁) X.xe s:=by
 refine thn (ha pins s σ H _ I h) λv s1 ⟨x,H1,I1,r1,q1⟩=>?_
 refine thn (hb pins s1 σ H1 _ I1 q1) λu s2 ⟨y,H2,I2,r2,q2⟩=>?_
 exact hf v u s2 x y H2 I2 r1 r2 q2
theorem wU {op:Operator}{r:R2} (ho:OpR X (binaryOp op) r) (ha:PE X a ta) (hb:PE X b tb):PE X (.BinOp a op b pos) (tOp r ta tb):=by
 intro pins s σ H Q I h
 exact wpAny_BinOp (xD ha hb I h λv u s2 x y H2 I2 rx ry q=>ho pins s2 σ H2 x y v u Q I2 rx ry q)
theorem opI {f:Value->Value->Sem Value}{C:Int->Int->Prop}{g:Int->Int->Int}
  (rule:∀ (i j:Int) (t u:Tok) (s:Shared) (Q:Value->Shared->Prop) (E:Value->Shared->Prop),C i j->Q (.int (g i j) s.toks) { s with toks:=s.toks + 1 }->wpAny (model X.prog X.w) X.A (f (.int i t) (.int j u)) Q E s) :
  OpR X f (rI C λi j=>.int (g i j)):=by
 intro pins s σ H x y v u Q I rx ry h
 obtain ⟨i,j,rfl,rfl,hc,q⟩:=h
 obtain ⟨t,rfl⟩:=rx
 obtain ⟨t',rfl⟩:=ry
 exact rule i j t t' s _ _ hc ⟨.int (g i j),H,I.tok _,⟨_,rfl⟩,q⟩
theorem z7 {f:Value->Value->Sem Value}{g:Int->Int->Int}
  (rule:∀ (i j:Int) (t u:Tok) (s:Shared) (Q:Value->Shared->Prop) (E:Value->Shared->Prop),Q (.int (g i j) s.toks) { s with toks:=s.toks + 1 }->wpAny (model X.prog X.w) X.A (f (.int i t) (.int j u)) Q E s) :
  OpR X f (rI0 λi j=>.int (g i j)):=by
 intro pins s σ H x y v u Q I rx ry h
 obtain ⟨i,j,rfl,rfl,q⟩:=h
 obtain ⟨t,rfl⟩:=rx
 obtain ⟨t',rfl⟩:=ry
 exact rule i j t t' s _ _ ⟨.int (g i j),H,I.tok _,⟨_,rfl⟩,q⟩
theorem vm {f:Value->Value->Sem Value}{g:Int->Int->Bool}
  (rule:∀ (i j:Int) (t u:Tok) (s:Shared) (Q:Value->Shared->Prop) (E:Value->Shared->Prop),Q (.bool (g i j)) s->wpAny (model X.prog X.w) X.A (f (.int i t) (.int j u)) Q E s) :
  OpR X f (rI0 λi j=>.bl (g i j)):=by
 intro pins s σ H x y v u Q I rx ry h
 obtain ⟨i,j,rfl,rfl,q⟩:=h
 obtain ⟨t,rfl⟩:=rx
 obtain ⟨t',rfl⟩:=ry
 exact rule i j t t' s _ _ ⟨.bl (g i j),H,I,rfl,q⟩
noncomputable def BP (i j:Int):Prop:=0 < j/\j < 1073741824
noncomputable def BQ (i j:Int):Prop:=0 <= j/\j <= 1000000/\i.natAbs < 2 ^ 64
noncomputable def xE (i j:Int):Prop:=(-(2 ^ 64) < i/\i < 2 ^ 64) \/ (-(2 ^ 64) < j/\j < 2 ^ 64)
theorem xE.ok {i j:Int} (h:xE i j):IntMulOk i j:=by
 rcases h with ⟨h1,h2⟩|⟨h1,h2⟩
 ·exact .of_left (intBits_le_64 h1 h2)
 ·exact .of_right (intBits_le_64 h1 h2)
theorem nZ (k:Nat):(0:Int) <= 2 ^ k:=by
 rw [two_pow_cast]
 exact Int.natCast_nonneg _
theorem xF:OpR X (binaryOp .Add) (rI0 λi j=>.int (i + j)):=z7 λ_ _ _ _ _ _ _ q=>add_int q
theorem xG:OpR X (binaryOp .Sub) (rI0 λi j=>.int (i - j)):=z7 λ_ _ _ _ _ _ _ q=>sub_int q
theorem xH:OpR X (binaryOp .Mult) (rI xE λi j=>.int (i * j)):=opI λ_ _ _ _ _ _ _ hc q=>mul_int q hc.ok
theorem vn:OpR X (binaryOp .FloorDiv) (rI BP λi j=>.int (i / j)):=opI λi j _ _ _ _ _ hc q=>by
 have h1:(0:Int) < j:=hc.1
 have h2:j < 1073741824:=hc.2
 exact floordiv_int (by omega) (by rw [Int.fdiv_eq_ediv_of_nonneg i (by omega)];exact q) (.inl (PyProof.noPylong_small (by omega)))
theorem xI:OpR X (binaryOp .Mod) (rI (λ_ j=>0 < j) λi j=>.int (i % j)):=opI λi j _ _ _ _ _ hc q=>by
 have h1:(0:Int) < j:=hc
 exact mod_int' (by omega) (by rw [Int.fmod_eq_emod_of_nonneg i (by omega)];exact q)
theorem xJ:OpR X (binaryOp .Pow) (rI BQ λi j=>.int (i ^ j.toNat)):=opI λ_ _ _ _ _ _ _ hc q=>pow_int_small hc.1 hc.2.1 hc.2.2 q
theorem xK:OpR X (binaryOp .RShift) (rI (λ_ j=>0 <= j) λi j=>.int (i / 2 ^ j.toNat)):=opI λi j _ _ _ _ _ hc q =>
 rshift_int hc (by rw [Int.fdiv_eq_ediv_of_nonneg i (nZ _)];exact q)
end
noncomputable def scal:V->V->Bool
 | .non,.non=>true|.non,.int _=>true|.int _,.non=>true|.non,.bl _=>true|.bl _,.non=>true|.non,.str _=>true|.str _,.non=>true
 | .int _,.int _=>true|.bl _,.bl _=>true|.str _,.str _=>true|.byt _,.byt _=>true
 | .int _,.str _=>true|.str _,.int _=>true|.bl _,.str _=>true|.str _,.bl _=>true
 | _,_=>false
noncomputable def rNe:R2:=λx y H Q=>scal x y=true/\Q (.bl (!decide (x=y))) H
theorem oV {i j:Int}:decide (V.int i=V.int j)=(i == j):=by
 rw [Bool.eq_iff_iff]
 simp
theorem rS {i j:Bool}:decide (V.bl i=V.bl j)=(i == j):=by
 rw [Bool.eq_iff_iff]
 simp
theorem oW {i j:Str}:decide (V.str i=V.str j)=(i == j):=by
 rw [Bool.eq_iff_iff]
 simp
theorem vo {i j:Array UInt8}:decide (V.byt i=V.byt j)=(i.toList == j.toList):=by
 rw [Bool.eq_iff_iff]
 cases i
 cases j
 simp
section
variable {X:Cx}{a b c:Expr}{ta tb tc:TE}{pos:Pos}
theorem br {pins:List (Addr × Obj)}{σ:St}{H:Hp}{s:Shared}{Q:VK}{k k':Bool} (I:Inv X pins σ H s) (q:Q (.bl k) H) (e:k=k'):EP X pins σ Q (.bool k') s:=by
 subst e
 exact ⟨.bl k,H,I,rfl,q⟩
theorem z8:OpR X (compareOp .NotEq) rNe:=by
 intro pins s σ H x y v u Q I rx ry h
 obtain ⟨hs,q⟩:=h
 cases x with
 | non =>
  cases rx
  cases y with
  | non=>cases ry;exact PySem.EqNone.ne_none_none (br I q (by simp))
  | bl j=>cases ry;exact PySem.EqNone.ne_none_bool (br I q (by simp))
  | int j=>obtain ⟨t',rfl⟩:=ry;exact PySem.EqNone.ne_none_int (br I q (by simp))
  | str j=>obtain ⟨t',rfl⟩:=ry;exact PySem.EqNone.ne_none_str (br I q (by simp))
  | _=>exact absurd (show false=true from hs) Bool.false_ne_true
 | bl i =>
  cases rx
  cases y with
  | non=>cases ry;exact PySem.EqNone.ne_bool_none (br I q (by simp))
  | bl j=>cases ry;exact ne_bool (br I q (congrArg not rS))
  | str j=>obtain ⟨t',rfl⟩:=ry;exact PySem.EqMixed.ne_bool_str (br I q (by simp))
  | _=>exact absurd (show false=true from hs) Bool.false_ne_true
 | int i =>
  obtain ⟨t,rfl⟩:=rx
  cases y with
  | non=>cases ry;exact PySem.EqNone.ne_int_none (br I q (by simp))
  | int j=>obtain ⟨t',rfl⟩:=ry;exact ne_int (br I q (congrArg not oV))
  | str j=>obtain ⟨t',rfl⟩:=ry;exact PySem.EqMixed.ne_int_str (br I q (by simp))
  | _=>exact absurd (show false=true from hs) Bool.false_ne_true
 | str i =>
  obtain ⟨t,rfl⟩:=rx
  cases y with
  | non=>cases ry;exact PySem.EqNone.ne_str_none (br I q (by simp))
  | bl j=>cases ry;exact PySem.EqMixed.ne_str_bool (br I q (by simp))
  | int j=>obtain ⟨t',rfl⟩:=ry;exact PySem.EqMixed.ne_str_int (br I q (by simp))
  | str j=>obtain ⟨t',rfl⟩:=ry;exact ne_str (br I q (congrArg not oW))
  | _=>exact absurd (show false=true from hs) Bool.false_ne_true
 | byt i =>
  obtain ⟨t,rfl⟩:=rx
  cases y with
  | byt j=>obtain ⟨t',rfl⟩:=ry;exact PySem.W.ne_bytes (br I q (congrArg not vo))
  | _=>exact absurd (show false=true from hs) Bool.false_ne_true
 | _=>cases y <;> exact absurd (show false=true from hs) Bool.false_ne_true
theorem z9:OpR X (compareOp .Lt) (rI0 λi j=>.bl (decide (i < j))):=vm λ_ _ _ _ _ _ _ q=>lt_int q
theorem z_:OpR X (compareOp .LtE) (rI0 λi j=>.bl (decide (i <= j))):=vm λ_ _ _ _ _ _ _ q=>le_int q
theorem Aa:OpR X (compareOp .Gt) (rI0 λi j=>.bl (decide (j < i))):=vm λ_ _ _ _ _ _ _ q=>gt_int q
theorem Ab:OpR X (compareOp .GtE) (rI0 λi j=>.bl (decide (j <= i))):=vm λ_ _ _ _ _ _ _ q=>ge_int q
theorem xL:OpR X (compareOp .Is) (λx y H Q=>y=.non/\Q (.bl (decide (x=.non))) H):=by
 intro pins s σ H x y v u Q I rx ry h
 obtain ⟨rfl,q⟩:=h
 cases ry
 refine is_none_gen (br I q ?_)
 cases x <;> first
  | (cases rx;rfl)
  | (obtain ⟨t,rfl⟩:=rx;rfl)
theorem vp:OpR X (compareOp .IsNot) (λx y H Q=>y=.non/\Q (.bl (!decide (x=.non))) H):=by
 intro pins s σ H x y v u Q I rx ry h
 obtain ⟨rfl,q⟩:=h
 cases ry
 refine isnot_none_gen (br I q ?_)
 cases x <;> first
  | (cases rx;rfl)
  | (obtain ⟨t,rfl⟩:=rx;rfl)
theorem OpR.or {f:Value->Value->Sem Value}{r r':R2} (h:OpR X f r) (h':OpR X f r'):OpR X f (λx y H Q=>r x y H Q \/ r' x y H Q):=by
 intro pins s σ H x y v u Q I rx ry q
 rcases q with q|q
 ·exact h pins s σ H x y v u Q I rx ry q
 ·exact h' pins s σ H x y v u Q I rx ry q
theorem vq {op:CmpOp}{r:R2} (ho:OpR X (compareOp op) r) (ha:PE X a ta) (hb:PE X b tb) (hm:behindInMarks op b=false):PE X (.Compare a [op] [b] pos) (tOp r ta tb):=by
 intro pins s σ H Q I h
 exact wpAny_Compare1 (xD ha hb I h λv u s2 x y H2 I2 rx ry q=>ho pins s2 σ H2 x y v u Q I2 rx ry q) hm
noncomputable def Ac (t:TE):TT:=λσ H Q=>t σ H λx H'=>∃ k,x=.bl k/\Q k H'
theorem oX {op:CmpOp}{r:R2} (ho:OpR X (compareOp op) r) (ha:PE X a ta) (hb:PE X b tb) (hm:behindInMarks op b=false):PT X (.Compare a [op] [b] pos) (Ac (tOp r ta tb)):=by
 intro pins s σ H Q I h
 refine wpAny_isTrue_Compare1 (thn (ha pins s σ H _ I h) λv s1 ⟨x,H1,I1,r1,q1⟩=>thn (hb pins s1 σ H1 _ I1 q1) λu s2 ⟨y,H2,I2,r2,q2⟩ =>
  thn (ho pins s2 σ H2 x y v u _ I2 r1 r2 q2) λc s3 ⟨z,H3,I3,r3,k,e,q3⟩=>?_) hm
 subst e
 cases r3
 exact wpAny_truthy_bool ⟨H3,I3,q3⟩
theorem ik:(sizeLine:Nat) < 2 ^ 63:=by rw [sizeLine_eq];decide
theorem n0:OpR X (binaryOp .Add) (λx y H Q=>∃ i j,x=.str i/\y=.str j/\i.length + j.length <= sizeLine/\Q (.str (i ++ j)) H):=by
 intro pins s σ H x y v u Q I rx ry h
 obtain ⟨i,j,rfl,rfl,hz,q⟩:=h
 obtain ⟨t,rfl⟩:=rx
 obtain ⟨t',rfl⟩:=ry
 exact add_str (λt' tk=>⟨.str (i ++ j),H,I.tok _,⟨_,rfl⟩,q⟩) hz
theorem fU {x:V}{us:List Value} (r:al [x] us):∃ u,us=[u]/\ak x u:=by
 cases r with
 | cons r1 r2=>cases r2;exact ⟨_,rfl,r1⟩
theorem Ad {x y:V}{us:List Value} (r:al [x,y] us):∃ u w',us=[u,w']/\ak x u/\ak y w':=by
 cases r with
 | cons r1 r2 =>
  cases r2 with
  | cons r3 r4=>cases r4;exact ⟨_,_,rfl,r1,r3⟩
end
end L2
namespace L2
open PySem PySem.Spec PyProof.Rows
section
variable {prog:Program}{w:World}{A:Around}{E:Value->Shared->Prop}{s:Shared}{K:PySem.W.Frag}{x dx C f:Addr}{mA:Str->Option Value}{name:Str}{v:Value}
end
theorem gD.some_of {v:V}{o:Option Value} (r:gD (some v) o):∃ u,o=some u/\ak v u:=by
 cases o with
 | none=>exact (show False from r).elim
 | some u=>exact ⟨u,rfl,r⟩
section
variable {P:Program}{w:World}{H H':Hp}{h h':Heap}{a C dx:Addr}{fs fs':List (Str × V)}
end
section
variable {X:Cx}{pins:List (Addr × Obj)}{σ:St}{H:Hp}{s:Shared}{a C dx:Addr}{fs:List (Str × V)}{f:Str}{v:V}{A:Around}{E:Value->Shared->Prop}
theorem Inv.made (I:Inv X pins σ H s):Inv X pins σ (upd (upd H s.heap.objs.size (.own (s.heap.objs.size + 1))) (s.heap.objs.size + 1) (.ins C s.heap.objs.size []))
  { s with heap:=(s.heap.push PySem.W.emptyDict).push (PySem.W.instObj C s.heap.objs.size) }:=by
 have e1:(s.heap.push PySem.W.emptyDict).get? s.heap.objs.size=some PySem.W.emptyDict:=Heap.get?_push_size s.heap rfl
 have e2:((s.heap.push PySem.W.emptyDict).push (PySem.W.instObj C s.heap.objs.size)).get? (s.heap.objs.size + 1)=some (PySem.W.instObj C s.heap.objs.size):=by
  have:=Heap.get?_push_size (s.heap.push PySem.W.emptyDict) (o:=PySem.W.instObj C s.heap.objs.size) rfl
  rwa [Heap.size_push] at this
 have e3:(s.heap.push PySem.W.emptyDict).Ns s.heap.objs.size (λ_=>none):=⟨PySem.W.emptyDict,#[],_,e1,rfl,(λe he=>absurd he (by simp)),λ_=>rfl⟩
 have I1:=I.laid (a:=s.heap.objs.size) (o:=.own (s.heap.objs.size + 1)) (h':=s.heap.push PySem.W.emptyDict) (t':=s.toks) (λb u q=>Heap.get?_push_of_some _ q) (Nat.le_refl _) ⟨_,e1⟩
 refine I1.laid (a:=s.heap.objs.size + 1) (o:=.ins C s.heap.objs.size []) (t':=s.toks) (λb u q=>Heap.get?_push_of_some _ q) (Nat.le_of_eq (Heap.size_push _ _)) ?_
 have ne:s.heap.objs.size ≠ s.heap.objs.size + 1:=Nat.ne_of_lt (Nat.lt_succ_self _)
 refine ⟨by rw [aH ne,ar],Nat.zero_le _,ne,e2,λ_=>none,(Heap.Ns1.of_empty e3).at λo q=>Heap.get?_push_of_some _ q,λ_=>True.intro,λy hy=>absurd rfl hy⟩
end
section
variable {X:Cx}{o e value:Expr}{f:Str}{pos pos' tpos:Pos}{ta tv:TE}
end
section
variable {X:Cx}{pins:List (Addr × Obj)}{σ:St}{H:Hp}{s:Shared}{A:Around}{E:Value->Shared->Prop}{Q:Value->Shared->Prop}{c:Value}{b:Bool}
end
end L2
namespace L2
open PySem PySem.Spec PyProof.Rows
structure dP (k:Nat) (A:Around):Prop where
 hd:A.handled=none
 dp:A.depth + 3 * k + 5 < recursionLimit
 un:A.units + 16 * k + 200 < cLine
theorem dP.mono {j k:Nat}{A:Around} (r:dP k A) (h:j <= k):dP j A:=⟨r.hd,by have:=r.dp;omega,by have:=r.un;omega⟩
theorem dP.deeper {k:Nat}{A:Around} (r:dP (k + 1) A) (env:Env):dP k (A.deeper env) :=
 ⟨r.hd,by have:=r.dp;show A.depth + 1 + 3 * k + 5 < _;omega,by have:=r.un;show A.units + 3 + 16 * k + 200 < _;omega⟩
theorem dP.in1 {k:Nat}{A:Around} (r:dP (k + 1) A):dP k A.in1 :=
 ⟨r.hd,by have:=r.dp;show A.depth + 3 * k + 5 < _;omega,by have:=r.un;show A.units + 1 + 16 * k + 200 < _;omega⟩
theorem dP.depth {k:Nat}{A:Around} (r:dP k A):A.depth < recursionLimit:=by have:=r.dp;omega
theorem dP.units {k:Nat}{A:Around} (r:dP k A):A.units + 64 < cLine:=by have:=r.un;omega
noncomputable def Ae:TA:=λ_ H Q=>Q [] H
noncomputable def Af (ta:TE) (tr:TA):TA:=λσ H Q=>ta σ H λx H1=>tr σ H1 λxs H2=>Q (x::xs) H2
section
variable {X:Cx}{e:Expr}{es:List Expr}{te:TE}{t:TA}{pos:Pos}
theorem cG:PA X [] Ae:=λ_ _ _ _ H Q I h=>Calls.spliced_nil ⟨[],H,I,.nil,h⟩
theorem a_ (ha:PE X e te) (hr:PA X es t) (hs:starEach (e::es) X.env=(false,eval e X.env)::starEach es X.env:=by rfl):PA X (e::es) (Af te t):=by
 intro pos pins s σ H Q I h
 rw [hs]
 show wpAny _ _ (spliced ((false,eval e X.env)::backTo pos (starEach es X.env))) _ _ s
 refine Calls.spliced_cons (thn (ha pins s σ H _ I h) λu s1 ⟨x,H1,I1,r1,q1⟩=>?_)
 exact thn (hr pos pins s1 σ H1 _ I1 q1) λus s2 ⟨xs,H2,I2,r2,q2⟩=>⟨x::xs,H2,I2,.cons r1 r2,q2⟩
noncomputable def BR (t:TA):TE:=λσ H Q=>t σ H λxs H1=>xs.length <= sizeLine/\∀ p,H1 p=none->Q (.ref p) (upd H1 p (.tup xs))
noncomputable def BS (t:TA):TE:=λσ H Q=>t σ H λxs H1=>xs.length <= sizeLine/\∀ p,H1 p=none->Q (.ref p) (upd H1 p (.lst xs))
theorem xM {x1} (h:PA X es t):PE X (.Tuple es x1 pos) (BR t):=by
 intro pins s σ H Q I hq
 refine wpAny_Tuple_spliced (thn (h pos pins s σ H _ I hq) λus s1 ⟨xs,H1,I1,r,z,q⟩=>⟨by rw [<- r.length];exact z,?_⟩)
 have hf:H1 s1.heap.objs.size=none:=I1.hok.fresh (Nat.le_refl _)
 refine ⟨.ref s1.heap.objs.size,upd H1 s1.heap.objs.size (.tup xs),I1.laid (t':=s1.toks) (λb u e=>Heap.get?_push_of_some _ e) (Nat.le_refl _) ?_,rfl,q _ hf⟩
 exact ⟨z,us,r,⟨_,Heap.get?_push_size _ rfl,rfl,_,rfl⟩⟩
theorem xN (h:PA X es t):PE X (.List es pos) (BS t):=by
 intro pins s σ H Q I hq
 refine wpAny_List_spliced (thn (h pos pins s σ H _ I hq) λus s1 ⟨xs,H1,I1,r,z,q⟩=>⟨by rw [<- r.length];exact z,?_⟩)
 have hf:H1 s1.heap.objs.size=none:=I1.hok.fresh (Nat.le_refl _)
 refine ⟨.ref s1.heap.objs.size,upd H1 s1.heap.objs.size (.lst xs),I1.laid (t':=s1.toks) (λb u e=>Heap.get?_push_of_some _ e) (Nat.le_refl _) ?_,rfl,q _ hf⟩
 exact ⟨z,us,0,r,Heap.get?_push_size _ rfl⟩
end
noncomputable abbrev Sp:=List V->Hp->VK->XK->Prop
noncomputable abbrev CXT:=List Env->Hp->Shared->XK->Value->Shared->Prop
structure n4 (P:Program) (w:World) (K:PySem.W.Frag) (mg:Str->Option Value) (base:Heap) (A:Around) (outer:List Env) (s:Shared) (H:Hp):Prop where
 frames:A.frames=some outer
 mod:Mod K mg base
 bs:∀ b o,base.get? b=some o->s.heap.get? b=some o/\H b=none
 bsz:base.objs.size <= s.heap.objs.size
 funs:s.heap.FunFrames base outer
 frf:∀ b ∈ frs outer,H b=none
 hok:HOk P w H s.heap
 bare:AllBare s.gens
noncomputable def CE (outer:List Env) (P:Program) (w:World) (H:Hp) (s:Shared) (Q:VK) (u:Value) (s':Shared):Prop :=
 ∃ v H',s'.os=s.os/\AllBare s'.gens/\Un (frs outer) [] H H' s.heap s'.heap/\HOk P w H' s'.heap/\ak v u/\Q v H'
noncomputable def CR (CX:CXT) (outer:List Env) (P:Program) (w:World) (H:Hp) (s:Shared) (Q:VK) (E:XK) (r:Result) (s':Shared):Prop :=
 match r with
 | .ok (.ret u)=>CE outer P w H s Q u s'
 | .ok _=>False
 | .error e=>CX outer H s E e s'
structure dQ (P:Program) (w:World) (K:PySem.W.Frag) (mg:Str->Option Value) (base:Heap) (CX:CXT) (k:Nat) (f:Addr) (fd:FuncData) (ps:List Str) (sp:Sp):Prop where
 len:∀ vs H Q E,sp vs H Q E->vs.length=ps.length
 run:∀ (A:Around) (outer:List Env) (s:Shared) (H:Hp) (args:Args) (us:List Value) (vs:List V) (Q:VK) (E:XK),dP k A->n4 P w K mg base A outer s H->BindsTo s fd args (ps.zip us)->al vs us->sp vs H Q E ->
  codeAny (model P w) A (.call (.ref f) args) (CR CX outer P w H s Q E) s
theorem dQ.mono {P:Program}{w:World}{K:PySem.W.Frag}{mg:Str->Option Value}{base:Heap}{CX:CXT}{j k:Nat}{f:Addr}{fd:FuncData}{ps:List Str}{sp:Sp} (F:dQ P w K mg base CX j f fd ps sp) (h:j <= k) :
  dQ P w K mg base CX k f fd ps sp:=⟨F.len,λA outer s H args us vs Q E hr=>F.run A outer s H args us vs Q E (hr.mono h)⟩
theorem dQ.imp {P:Program}{w:World}{K:PySem.W.Frag}{mg:Str->Option Value}{base:Heap}{CX:CXT}{k:Nat}{f:Addr}{fd:FuncData}{ps:List Str}{sp sp':Sp} (F:dQ P w K mg base CX k f fd ps sp)
  (h:∀ vs H Q E,sp' vs H Q E->sp vs H Q E):dQ P w K mg base CX k f fd ps sp' :=
 ⟨λvs H Q E q=>F.len vs H Q E (h _ _ _ _ q),λA outer s H args us vs Q E hr he hb hv hs=>F.run A outer s H args us vs Q E hr he hb hv (h _ _ _ _ hs)⟩
theorem n4.in1 {P:Program}{w:World}{K:PySem.W.Frag}{mg:Str->Option Value}{base:Heap}{A:Around}{outer:List Env}{s:Shared}{H:Hp} (e:n4 P w K mg base A outer s H) :
  n4 P w K mg base A.in1 outer s H:=⟨e.frames,e.mod,e.bs,e.bsz,e.funs,e.frf,e.hok,e.bare⟩
section
variable {X:Cx}{pins:List (Addr × Obj)}{σ:St}{H:Hp}{s s':Shared}
theorem Inv.env0 (I:Inv X pins σ H s):n4 X.prog X.w X.K X.mg X.base X.A X.stack s H :=
 ⟨I.ok.frames,I.ok.mod,I.bs,Nat.le_trans I.ok.bsz I.sz,I.stack,I.stkFree,I.hok,I.bare⟩
theorem Inv.after {Q:VK}{u:Value} (I:Inv X pins σ H s) (h:CE X.stack X.prog X.w H s Q u s'):EP X pins σ Q u s':=by
 obtain ⟨v,H',os,bare,un,hok,r,q⟩:=h
 obtain ⟨hh,g,d,t,os'⟩:=s'
 obtain rfl:os'=s.os:=os
 exact ⟨v,H',I.call (h':=hh) (g':=g) (d':=d) (t':=t) (ch:=[]) un hok bare (λb z=>absurd z (by simp)),r,q⟩
end
noncomputable def rT (sp:Sp) (dvs:List V) (E:XK) (t:TA):TE:=λσ H Q=>t σ H λvs H1=>sp (vs ++ dvs) H1 Q E
noncomputable def cJ (K:PySem.W.Frag) (fd:FuncData) (ps:List Str) (ds:List Value):Prop :=
 ∀ (s:Shared) (us:List Value),K.In s.heap->(us ++ ds).length=ps.length->BindsTo s fd ⟨us,[]⟩ (ps.zip (us ++ ds))
theorem cJ.all {K:PySem.W.Frag}{fd:FuncData}{ps:List Str} (h:∀ us:List Value,us.length=ps.length->bindArgs fd ⟨us,[]⟩=pure (ps.zip us)):cJ K fd ps []:=λs us _ hl=>by
 rw [List.append_nil] at hl ⊢
 exact .of_eq (h us hl)
noncomputable def lM (CX:CXT) (X:Cx) (E:XK):Prop:=∀ (pins:List (Addr × Obj)) (σ:St) (H:Hp) (s:Shared) (e:Value) (s':Shared),Inv X pins σ H s->CX X.stack H s E e s'->X.xe e s'
section
variable {X:Cx}{CX:CXT}{k:Nat}{f C:Addr}{fd:FuncData}{ps:List Str}{sp:Sp}{dvs:List V}{ds:List Value}{E:XK}{x m:Str}{p pos apos:Pos}{e o:Expr}{es:List Expr}{ta:TE}{t:TA}
theorem rU {pins:List (Addr × Obj)}{σ:St}{H:Hp}{s:Shared}{Q:VK}{us:List Value}{vs:List V} (F:dQ X.prog X.w X.K X.mg X.base CX k f fd ps sp) (hr:dP k X.A) (hb:cJ X.K fd ps ds) (hd:al dvs ds) (hx:lM CX X E)
  (I:Inv X pins σ H s) (r:al vs us) (h:sp (vs ++ dvs) H Q E):wpAny (model X.prog X.w) X.A (call (.ref f) us) (EP X pins σ Q) X.xe s:=by
 have r2:al (vs ++ dvs) (us ++ ds):=r.append hd
 have hl:(us ++ ds).length=ps.length:=by rw [<- r2.length];exact F.len _ _ _ _ h
 refine wpAny_call (codeAny_mono (F.run X.A X.stack s H ⟨us,[]⟩ (us ++ ds) (vs ++ dvs) Q E hr I.env0 (hb s us I.kIn hl) r2 h) λr s' hq=>?_)
 cases r with
 | error e=>exact hx pins σ H s e s' I hq
 | ok fl =>
  cases fl with
  | ret u=>exact I.after hq
  | next=>exact False.elim hq
  | brk=>exact False.elim hq
  | cont=>exact False.elim hq
theorem i9 (F:dQ X.prog X.w X.K X.mg X.base CX k f fd ps sp) (hr:dP k X.A) (hg:Gl X x) (hm:X.mg x=some (.ref f)) (hk:PySem.W.keepIn X.K (.ref f)=true) (hb:cJ X.K fd ps ds) (hd:al dvs ds) (hx:lM CX X E)
  (ha:PA X (e::es) t) (hdb:(x == ("__debug__":Str))=false:=by decide) (he:starEach (e::es) X.env=(false,eval e X.env)::starEach es X.env:=by rfl) (hpl:(backTo pos (starEach es X.env)).any (·.1)=false:=by rfl) :
  PE X (.Call (.Name x p) (e::es) [] pos) (rT sp dvs E t):=by
 intro pins s σ H Q I h
 refine wpAny_Call_Name_kw (lJ I hg hm ?_ hdb)
 refine PySem.W.callWith_K (h₀:=X.base) I.ok.mod.kin hk (thn (ha pos pins s σ H _ I h) λus s1 ⟨vs,H1,I1,r,q⟩=>⟨I1.kIn,?_⟩) he hpl
 exact rU F hr hb hd hx I1 r q
theorem rV (F:dQ X.prog X.w X.K X.mg X.base CX k f fd ps sp) (hr:dP k X.A) (hg:Gl X x) (hm:X.mg x=some (.ref f)) (hk:PySem.W.keepIn X.K (.ref f)=true) (hb:cJ X.K fd ps ds) (hd:al dvs ds) (hx:lM CX X E)
  (hdb:(x == ("__debug__":Str))=false:=by decide):PE X (.Call (.Name x p) [] [] pos) (rT sp dvs E Ae):=by
 intro pins s σ H Q I h
 refine wpAny_Call_Name_kw (lJ I hg hm ?_ hdb)
 exact PySem.W.callWith_K0 I.kIn hk (rU (us:=[]) F hr hb hd hx I .nil h)
end
section
variable {X:Cx}{CX:CXT}{k:Nat}{f C:Addr}{fd:FuncData}{ps ks:List Str}{sp:Sp}{E:XK}{x m:Str}{p pos apos kpos:Pos}{e o:Expr}{es:List Expr}{kws:List Keyword}{te ta:TE}{t tk:TA}{nm:Option Str}
variable {g:List Value->List Value->List Value}{gV:List V->List V->List V}
end
structure lN (N P:List Str) (sc:Scope):Prop where
 kind:sc.kind=.function
 co:sc.isCoroutine=false
 gen:sc.isGenerator=false
 nd:N.Nodup
 pre:N.take P.length=P
 par:∀ x ∈ P,sc.names.lookup x=some .local \/ sc.names.lookup x=some .cell
 nofree:∀ y ∈ sc.names,y.2 ≠ .free
theorem kP {kindOf:Str->Option NameKind}{x:Str}:∀ {binds:List (Str × Value)}{m:Str->Option Value},(∀ v,(x,v) ∉ binds)->bindL kindOf binds m x=m x
 | [],_,_=>rfl
 | (n,v)::r,m,h=>by
  unfold bindL
  rw [kP λw hw=>h w (List.mem_cons_of_mem _ hw)]
  split
  ·have:x ≠ n:=by rintro rfl;exact h v List.mem_cons_self
   simp [this]
  ·rfl
theorem kQ {kindOf:Str->Option NameKind}{x:Str}:∀ {binds:List (Str × Value)}{m:Str->Option Value},(∀ v,(x,v) ∉ binds)->bindC kindOf binds m x=m x
 | [],_,_=>rfl
 | (n,v)::r,m,h=>by
  unfold bindC
  rw [kQ λw hw=>h w (List.mem_cons_of_mem _ hw)]
  split
  ·rfl
  ·have:x ≠ n:=by rintro rfl;exact h v List.mem_cons_self
   simp [this]
theorem kR {kindOf:Str->Option NameKind}{x:Str}{v:Value}:∀ {P:List Str}{vs:List Value}{i:Nat}{m:Str->Option Value},P.Nodup->P[i]?=some x->vs[i]?=some v->kindOf x=some .local ->
  bindL kindOf (P.zip vs) m x=some v
 | [],_,_,_,_,h,_,_=>by simp at h
 | _::_,[],_,_,_,_,h,_=>by simp at h
 | p::P,w::vs,0,m,nd,h1,h2,hk=>by
  simp at h1 h2;subst h1;subst h2
  show bindL kindOf ((p,w)::P.zip vs) m p=_
  unfold bindL
  rw [kP λv hv=>(List.nodup_cons.mp nd).1 (List.of_mem_zip hv).1,if_pos hk]
  simp
 | p::P,w::vs,i + 1,m,nd,h1,h2,hk=>by
  show bindL kindOf ((p,w)::P.zip vs) m x=_
  unfold bindL
  exact kR (i:=i) (List.nodup_cons.mp nd).2 (by simpa using h1) (by simpa using h2) hk
theorem kS {kindOf:Str->Option NameKind}{x:Str}{v:Value}:∀ {P:List Str}{vs:List Value}{i:Nat}{m:Str->Option Value},P.Nodup->P[i]?=some x->vs[i]?=some v->kindOf x ≠ some .local ->
  bindC kindOf (P.zip vs) m x=some v
 | [],_,_,_,_,h,_,_=>by simp at h
 | _::_,[],_,_,_,_,h,_=>by simp at h
 | p::P,w::vs,0,m,nd,h1,h2,hk=>by
  simp at h1 h2;subst h1;subst h2
  show bindC kindOf ((p,w)::P.zip vs) m p=_
  unfold bindC
  rw [kQ λv hv=>(List.nodup_cons.mp nd).1 (List.of_mem_zip hv).1,if_neg hk]
  simp
 | p::P,w::vs,i + 1,m,nd,h1,h2,hk=>by
  show bindC kindOf ((p,w)::P.zip vs) m x=_
  unfold bindC
  exact kS (i:=i) (List.nodup_cons.mp nd).2 (by simpa using h1) (by simpa using h2) hk
noncomputable def cB (N:List Str) (vs:List V):St:=vs.map some ++ List.replicate (N.length - vs.length) none
noncomputable def mR (CX:CXT) (P:Program) (w:World) (K:PySem.W.Frag) (mg:Str->Option Value) (base:Heap) (N:List Str) (qual:Str) (scope:Scope) (f:Addr) (cd:Value) (A:Around) (outer:List Env) (s:Shared) (H:Hp) (E:XK):Cx where
 prog:=P
 w:=w
 K:=K
 mg:=mg
 base:=base
 A:=A.deeper (envOfC qual scope s.heap.objs.size f cd)
 N:=N
 s₀:=s
 H₀:=H
 env:=envOfC qual scope s.heap.objs.size f cd
 outer:=outer
 stack:=envOfC qual scope s.heap.objs.size f cd::outer
 ex:=[]
 calm:=true
 fn:=λ_=>true
 pn:=[]
 xe:=λe s'=>wpAny (model P w) (A.deeper (envOfC qual scope s.heap.objs.size f cd)) (leaving (envOfC qual scope s.heap.objs.size f cd) e) (λ_ s''=>CX outer H s E e s'') (λe' s''=>CX outer H s E e' s'') s'
theorem mS {sc:Scope}{n:Nat}{x:Str} (h:sc.names.lookup x=some .cell):∃ c,(cellsFrom n sc.names []).lookup x=some c:=by
 have q:=PySem.W.cellsFrom_some sc.names n [] (.inl h)
 exact Option.isSome_iff_exists.mp q
theorem qd {CX:CXT}{P:Program}{w:World}{K:PySem.W.Frag}{mg:Str->Option Value}{base:Heap}{N ps:List Str}{qual:Str}{scope:Scope}{f:Addr}{cd:Value}{A:Around}{outer:List Env}{s s1:Shared}{H:Hp}{E:XK}{us:List Value}{vs:List V}
  (S:lN N ps scope) (hd:A.handled=none) (e0:n4 P w K mg base A outer s H) (hl:vs.length=ps.length) (r:al vs us)
  (x:InCallC s s.heap.objs.size (bindL (envOfC qual scope s.heap.objs.size f cd).kindOf (ps.zip us) λ_=>none) (cellsFrom (s.heap.objs.size + 1) scope.names []) (bindC (envOfC qual scope s.heap.objs.size f cd).kindOf (ps.zip us) λ_=>none) s1) :
  Inv (mR CX P w K mg base N qual scope f cd A outer s H E) [] (cB N vs) H s1:=by
 have hpl:ps.length <= N.length:=by have:=congrArg List.length S.pre;rw [List.length_take] at this;omega
 obtain ⟨h1,tk,rfl,hk⟩:=x.done
 have noA:∀ b:Addr,b ∉ (mR CX P w K mg base N qual scope f cd A outer s H E).ex:=λb z=>absurd (show b ∈ ([]:List Addr) from z) (by simp)
 refine ⟨⟨e0.mod,S.kind,rfl,rfl,Nat.le_refl _,λy z c h1 h2=>?_,λy hy=>?_,λy c _ h=>?_,λ_=>hd,Around.frames_deeper e0.frames,.inr ⟨rfl,rfl⟩,λb z=>absurd z (noA b),e0.bs,e0.bsz,λb _ _=>noA b,λb z=>absurd z (noA b),e0.funs,e0.frf⟩,
  rfl,e0.bare,Un.kept hk,⟨_,x.toInCall.ns,λi y v h1 h2 h3=>?_⟩,λy c h=>⟨_,x.cell y c h⟩,e0.hok.fresh (Nat.le_refl _),λy c h=>?_,λp hp=>absurd (show p ∈ ([]:List (Addr × Obj)) from hp) (by simp),e0.hok.kept hk,?_⟩
 ·exact name_of_addr x.apart (PySem.mem_of_lookup h1) (PySem.mem_of_lookup h2)
 ·have hy:scope.names.lookup y=some .cell \/ scope.names.lookup y=some .free:=hy
  rcases hy with hy|hy
  ·exact mS hy
  ·exact absurd rfl (S.nofree _ (PySem.mem_of_lookup hy))
 ·exact Nat.le_of_lt (x.above y c (PySem.mem_of_lookup h))
 ·have hi:i < vs.length:=by
   unfold cB at h2
   by_cases hi:i < vs.length
   ·exact hi
   ·rw [List.getElem?_append_right (by simpa using hi)] at h2
    rw [List.getElem?_replicate] at h2
    split at h2 <;> cases h2
  have ha:vs[i]?=some v:=by
   unfold cB at h2
   rw [List.getElem?_append_left (by simpa using hi),List.getElem?_map] at h2
   cases e:vs[i]? with
   | none=>rw [e] at h2;cases h2
   | some a=>rw [e] at h2;cases h2;rfl
  obtain ⟨u,hu,rv⟩:=r.get ha
  have hp:ps[i]?=some y:=by
   rw [<- S.pre,List.getElem?_take_of_lt (by omega)];exact h1
  have ndP:ps.Nodup:=by rw [<- S.pre];exact S.nd.sublist (List.take_sublist _ _)
  refine ⟨u,rv,?_⟩
  rcases S.par y (List.mem_of_getElem? hp) with k|k
  ·exact .inl ⟨k,kR ndP hp hu k⟩
  ·obtain ⟨c,e⟩:=mS (n:=s.heap.objs.size + 1) k
   refine .inr ⟨.inl k,c,e,?_⟩
   have q:=x.cell y c e
   rw [kS ndP hp hu (by show scope.names.lookup y ≠ _;rw [k];decide)] at q
   exact q
 ·exact e0.hok.fresh (Nat.le_of_lt (x.above y c (PySem.mem_of_lookup h)))
 ·unfold cB
  show _=N.length
  rw [List.length_append,List.length_map,List.length_replicate]
  omega
theorem rW {CX:CXT}{P:Program}{w:World}{K:PySem.W.Frag}{mg:Str->Option Value}{base:Heap}{k:Nat}{f:Addr}{name qual:Str}{params:Arguments}{body:List Stmt}{scope:Scope}{dV kV doc pm cdv ct oc:Value}{an od:Option Addr}
  {osl:Array (Option Value)}{N ps:List Str}{sp:Sp} (lk:K.lookup f=some ⟨oc,od,.func (PySem.W.fnOf name qual params body scope dV kV doc pm an cdv ct),osl⟩) (hcd:PySem.W.codeIn K cdv qual=true) (S:lN N ps scope)
  (len:∀ vs H Q E,sp vs H Q E->vs.length=ps.length)
  (hbody:∀ (A:Around) (outer:List Env) (s:Shared) (H:Hp) (vs:List V) (Q:VK) (E:XK),dP k (A.deeper (envOfC qual scope s.heap.objs.size f cdv))->sp vs H Q E ->
   ∃ t,PSs (mR CX P w K mg base N qual scope f cdv A outer s H E) body t/\t { nx:=λ_ H'=>Q .non H',rt:=Q } (cB N vs) H) :
  dQ P w K mg base CX (k + 1) f (PySem.W.fnOf name qual params body scope dV kV doc pm an cdv ct) ps sp:=by
 refine ⟨len,λA outer s H args us vs Q E hr e0 hb r hsp=>?_⟩
 have hl:=len _ _ _ _ hsp
 have KX:K.In s.heap:=e0.mod.kin.keeps λb o e=>(e0.bs b o e).1
 have lim:s.heap.NoLimit:=e0.mod.nolimit.keeps λb o e=>(e0.bs b o e).1
 have hkind:∀ y ∈ ps.zip us,scope.names.lookup y.1=some .local \/ (scope.names.lookup y.1=some .cell/\((cellsFrom (s.heap.objs.size + 1) scope.names []).lookup y.1).isSome=true):=λ⟨n,v⟩ hy=>by
  rcases S.par n (List.of_mem_zip hy).1 with q|q
  ·exact .inl q
  ·exact .inr ⟨q,PySem.W.cellsFrom_some _ _ _ (.inl q)⟩
 refine codeAny_call_function hr.depth (KX _ _ lk) rfl S.co S.gen rfl (PySem.W.codeRec_of KX hcd) (hb _ _ _ _ ?_)
 refine wpAny_newFunctionEnv_cells S.kind hkind λenv he s1 x=>?_
 subst he
 refine ⟨lim.keeps x.toInCall.keep,codeAny_func ?_⟩
 obtain ⟨t,ht,hq⟩:=hbody A outer s H vs Q E (hr.deeper _) hsp
 have I:Inv (mR CX P w K mg base N qual scope f cdv A outer s H E) [] (cB N vs) H s1:=qd S hr.hd e0 hl r x
 refine wpAny_mono (ht [] s1 (cB N vs) H _ I hq) (λfl s' hs=>?_) λe s' hs=>hs
 have fin:∀ {σ':St}{H':Hp}{v:V}{u:Value},Inv (mR CX P w K mg base N qual scope f cdv A outer s H E) [] σ' H' s'->ak v u->Q v H'->CE outer P w H s Q u s' :=
  λ{σ' H' v u} J rv q=>⟨v,H',J.os,J.bare,J.base,J.hok,rv,q⟩
 cases fl with
 | ret u =>
  obtain ⟨v,σ',H',J,rv,q⟩:=hs
  exact fin J rv q
 | next =>
  obtain ⟨σ',H',J,q⟩:=hs
  exact fin (v:=V.non) (u:=Value.none) J rfl q
 | brk =>
  obtain ⟨_,_,_,q⟩:=hs
  exact False.elim q
 | cont =>
  obtain ⟨_,_,_,q⟩:=hs
  exact False.elim q
end L2
namespace L2
open PySem PySem.Spec PyProof.Rows
section
variable {X:Cx}{x:Str}{p pos:Pos}{e:Expr}{es:List Expr}{t:TA}{id T:String}{r:List V->Hp->VK->Prop}
noncomputable def tCB (r:List V->Hp->VK->Prop) (t:TA):TE:=λσ H Q=>t σ H λvs H1=>r vs H1 Q
theorem fm (hc:bn X (.builtin id) r) (hg:Gl X x) (hm:X.mg x=none) (hv:bootBuiltins x=some (.builtin id)) (ha:PA X (e::es) t) (hn:x ≠ "__name__":=by decide) (hdb:(x == ("__debug__":Str))=false:=by decide)
  (he:starEach (e::es) X.env=(false,eval e X.env)::starEach es X.env:=by rfl) (hpl:(backTo pos (starEach es X.env)).any (·.1)=false:=by rfl):PE X (.Call (.Name x p) (e::es) [] pos) (tCB r t):=by
 intro pins s σ H Q I h
 refine wpAny_Call_Name_kw (jo I hg hm hv ?_ hn hdb)
 exact PyProof.Rows.callWith_builtin1 (thn (ha pos pins s σ H _ I h) λus s1 ⟨vs,H1,I1,r1,q1⟩=>hc pins s1 σ H1 vs us Q I1 r1 q1) he hpl
theorem d5 (hc:bn X (.type T) r) (hg:Gl X x) (hm:X.mg x=none) (hv:bootBuiltins x=some (.type T)) (ha:PA X (e::es) t) (hn:x ≠ "__name__":=by decide) (hdb:(x == ("__debug__":Str))=false:=by decide)
  (he:starEach (e::es) X.env=(false,eval e X.env)::starEach es X.env:=by rfl) (hpl:(backTo pos (starEach es X.env)).any (·.1)=false:=by rfl):PE X (.Call (.Name x p) (e::es) [] pos) (tCB r t):=by
 intro pins s σ H Q I h
 refine wpAny_Call_Name_kw (jo I hg hm hv ?_ hn hdb)
 exact PyProof.Rows.callWith_type1 (thn (ha pos pins s σ H _ I h) λus s1 ⟨vs,H1,I1,r1,q1⟩=>hc pins s1 σ H1 vs us Q I1 r1 q1) he hpl
end
end L2
namespace HT
open PySem PyProof.Rows
noncomputable def lexLt:List Int->List Int->Bool
 | [],[]=>false
 | [],_::_=>true
 | _::_,[]=>false
 | x::xs,y::ys=>if x=y then lexLt xs ys else decide (x < y)
theorem lexLt_cons (x y:Int) (xs ys:List Int):lexLt (x::xs) (y::ys)=if x=y then lexLt xs ys else decide (x < y):=rfl
theorem ku:lexLt [] []=false:=rfl
theorem jq (y:Int) (ys:List Int):lexLt [] (y::ys)=true:=rfl
theorem jr (x:Int) (xs:List Int):lexLt (x::xs) []=false:=rfl
theorem rX (A:Around) (s:Shared) (a:Int) (t:Tok) (c:Int) (u:Tok):∃ e,SeqAt.EqAt A s (.int a t) (.int c u) e/\(e=true ↔ a=c) :=
 ⟨(a == c),SeqAt.EqAt.int_int a t c u,by simp⟩
theorem rY (A:Around) (s:Shared) (a:Int) (t:Tok) (c:Int) (u:Tok) (prog:Program) (w:World) (E:Value->Shared->Prop) (Q:Value->Shared->Prop) (h:Q (.bool (decide (a < c))) s) :
  wpAny (model prog w) A (richCompare .Lt (.int a t) (.int c u)) Q E s :=
 (PyProof.Rows.lt_int h:wpAny (model prog w) A (compareOp .Lt (.int a t) (.int c u)) Q E s)
section
open PySem.SeqAt
open PySem.AutoSeq1 (wpAny_loadPart')
open PySem.MeetsSeq PySem.MeetsSeq2 PySem.MeetsSeq3
theorem tuple_lt_ints (l b:Addr) (items items2:Array Value) (n n2:Nat) (dd dd2:Option Addr) (sl sl2:Array (Option Value)) (ns ms:List Int) (hi:IntsAre items.toList ns) (hj:IntsAre items2.toList ms) :
  Meets (Builtin.«tuple.__lt__» ⟨[.ref l,.ref b],[]⟩)
   (λ_ R s=>s.heap.get? l=some { cls:=.type "tuple",dict:=dd,data:=.seq items n,slots:=sl }/\s.heap.get? b=some { cls:=.type "tuple",dict:=dd2,data:=.seq items2 n2,slots:=sl2 } /\
    R (.ok (.ret (.bool (lexLt ns ms)))) s) :=
 .of_wp λprog w A R s h=>by
  obtain ⟨hp,g,d,tk,os⟩:=s;obtain ⟨hl,hb,h⟩:=h
  have f2:=AutoSeq1.sub_tuple_tuple
  have z1:items.size=ns.length:=by rw [<- hi.length];simp
  have z2:items2.size=ms.length:=by rw [<- hj.length];simp
  wp_walk using wpAny_loadPart' hl,wpAny_loadPart' hb,wpAny_forIn_list _ (λrest b s'=>b.1=none/\s'=⟨hp,g,d,tk,os⟩/\∃ (vs ws:List Value) (ns' ms':List Int),rest=vs.zip ws /\
   IntsAre vs ns'/\IntsAre ws ms'/\ns'.length + items2.size=ms'.length + items.size/\R (.ok (.ret (.bool (lexLt ns' ms')))) ⟨hp,g,d,tk,os⟩) _
  case turn =>
   rintro ⟨y,x⟩ rest b s' ⟨hb',rfl,vs,ws,ns',ms',hz,hvi,hwi,hlen,hR⟩
   cases hvi with
   | nil=>rw [List.zip_nil_left] at hz;cases hz
   | cons a t hvi' =>
    cases hwi with
    | nil=>rw [List.zip_nil_right] at hz;cases hz
    | cons c u hwi' =>
     rw [List.zip_cons_cons] at hz
     injection hz with hyx hrest
     injection hyx with hy hx
     subst hy hx
     rw [lexLt_cons] at hR
     simp only [List.length_cons] at hlen
     obtain ⟨e,he,hiff⟩:=rX A.in1 ⟨hp,g,d,tk,os⟩ a t c u
     refine wpAny_bind (he prog w _ _ ?_)
     cases e with
     | true =>
      rw [if_pos (hiff.mp rfl)] at hR
      wp_walk
      exact ⟨rfl,rfl,_,_,_,_,hrest,hvi',hwi',by omega,hR⟩
     | false =>
      rw [if_neg (λq=>absurd (hiff.mpr q) Bool.false_ne_true)] at hR
      have hri:=rY A.in1 ⟨hp,g,d,tk,os⟩ a t c u prog w
      wp_walk using hri
      exact ⟨_,rfl,by simpa using hR⟩
  case fin =>
   rintro ⟨b1,b2⟩ s' ⟨hb',rfl,vs,ws,ns',ms',hz,hvi,hwi,hlen,hR⟩
   simp only at hb'
   subst hb'
   have hv:lexLt ns' ms'=decide (items.size < items2.size):=by
    cases hvi with
    | nil =>
     cases hwi with
     | nil =>
      simp only [List.length_nil] at hlen
      rw [ku]
      exact (decide_eq_false (by omega)).symm
     | cons c u hw =>
      simp only [List.length_nil,List.length_cons] at hlen
      rw [jq]
      exact (decide_eq_true (by omega)).symm
    | cons a t hv =>
     cases hwi with
     | nil =>
      simp only [List.length_nil,List.length_cons] at hlen
      rw [jr]
      exact (decide_eq_false (by omega)).symm
     | cons c u hw =>
      rw [List.zip_cons_cons] at hz
      cases hz
   rw [hv] at hR
   wp_walk
   exact ⟨_,rfl,by simpa [Builtin.Tuple.tupleCompareSizes] using hR⟩
  case h =>
   exact ⟨rfl,rfl,items.toList,items2.toList,ns,ms,rfl,hi,hj,by omega,h⟩
end
section
variable {prog:Program}{w:World}{A:Around}{E:Value->Shared->Prop}{s:Shared}
theorem lt_tupInts {l b:Addr}{items items2:Array Value}{ns ms:List Int}{Q:Value->Shared->Prop} (hl:IsTup s.heap l items) (hb:IsTup s.heap b items2) (hi:IntsAre items.toList ns) (hj:IntsAre items2.toList ms)
  (hu:A.units < cLine) (h:Q (.bool (lexLt ns ms)) s):wpAny (model prog w) A (compareOp .Lt (.ref l) (.ref b)) Q E s:=by
 obtain ⟨⟨cls,dd,data,sl⟩,ho,hc,n,hd⟩:=id hl
 obtain ⟨⟨cls2,dd2,data2,sl2⟩,ho2,hc2,n2,hd2⟩:=id hb
 simp only at hc hd hc2 hd2
 subst hc hd hc2 hd2
 exact richCompare_meets_room (op:=.Lt) ⟨_,ho,rfl⟩ ⟨_,ho2,rfl⟩ PySem.F.slot_tuple_lt PySem.F.entry_tuple_lt (PySem.F.args_tuple_lt_2 _ _) (tuple_lt_ints l b items items2 n n2 dd dd2 sl sl2 ns ms hi hj)
  ⟨ho,ho2,show Value.bool (lexLt ns ms) ≠ Value.notImplemented/\Q (.bool (lexLt ns ms)) s from ⟨(λx=>nomatch x),h⟩⟩ hu
theorem cat_tup {t b:Addr}{vs ws:List Value}{Q:Value->Shared->Prop} (ht:IsTup s.heap t vs.toArray) (hb:IsTup s.heap b ws.toArray) (hv:vs ≠ [])
  (h1:ws=[]->Q (.ref t) s) (h2:ws ≠ []->Q (.ref s.heap.objs.size) { s with heap:=s.heap.push { cls:=.type "tuple",data:=.seq (vs ++ ws).toArray } })
  (hsz:vs.length + ws.length <= sizeLine):wpAny (model prog w) A (binaryOp .Add (.ref t) (.ref b)) Q E s:=by
 obtain ⟨⟨cls,dd,data,sl⟩,ho,hc,n,hd⟩:=id ht
 obtain ⟨⟨cls2,dd2,data2,sl2⟩,ho2,hc2,n2,hd2⟩:=id hb
 simp only at hc hd hc2 hd2
 subst hc hd hc2 hd2
 have e:vs.toArray ++ ws.toArray=(vs ++ ws).toArray:=by simp
 by_cases hw:ws=[]
 ·exact concat_meets ⟨_,ho,rfl⟩ ⟨_,ho2,rfl⟩ noFill_tuple_add seq_tuple_add PySem.F.slot_tuple_add PySem.F.entry_tuple_add (PySem.F.args_tuple_add_2 _ _)
   (tuple_addW1 t b vs.toArray ws.toArray n n2 dd dd2 sl sl2 (by simpa using hv) (by simp [hw])) ⟨ho,ho2,h1 hw⟩
 ·refine concat_meets ⟨_,ho,rfl⟩ ⟨_,ho2,rfl⟩ noFill_tuple_add seq_tuple_add PySem.F.slot_tuple_add PySem.F.entry_tuple_add (PySem.F.args_tuple_add_2 _ _)
   (tuple_addW2 t b vs.toArray ws.toArray n n2 dd dd2 sl sl2 (by simpa using hv) (by simpa using hw) (by rw [List.size_toArray,List.size_toArray];exact hsz)) ⟨ho,ho2,?_⟩
  rw [e]
  exact h2 hw
noncomputable def sIx (n d:Nat):Option Int->Nat
 | none=>d
 | some v=>if v < 0 then (v + (n:Int)).toNat else min v.toNat n
theorem xO (n d:Nat) (hd:d <= n) (o:Option Int):sIx n d o <= n:=by
 cases o with
 | none=>exact hd
 | some v =>
  show (if v < 0 then (v + (n:Int)).toNat else min v.toNat n) <= n
  by_cases hv:v < 0
  ·rw [if_pos hv];omega
  ·rw [if_neg hv];exact Nat.min_le_right _ _
theorem oY (v:Int) (n d:Nat):(if v < 0 then max (v + (n:Int)) 0 else min v (n:Int))=((sIx n d (some v):Nat):Int):=by
 show (if v < 0 then max (v + (n:Int)) 0 else min v (n:Int))=(((if v < 0 then (v + (n:Int)).toNat else min v.toNat n):Nat):Int)
 by_cases hv:v < 0
 ·simp only [if_pos hv];omega
 ·simp only [if_neg hv];omega
theorem n5 (lo hi:Option Int) (n:Nat):Builtin.Slice.sliceAdjust lo hi 1 (n:Int)=(((sIx n 0 lo:Nat):Int),((sIx n n hi:Nat):Int)):=by
 have h1:¬ ((1:Int) < 0):=by omega
 unfold Builtin.Slice.sliceAdjust
 simp only [h1,if_false]
 refine Prod.ext ?_ ?_
 ·cases lo with
  | none=>rfl
  | some v=>exact oY v n 0
 ·cases hi with
  | none=>rfl
  | some v=>exact oY v n n
theorem n6 (i j:Nat):Builtin.Slice.slicePlaces (i:Int) (j:Int) 1=j - i:=by
 unfold Builtin.Slice.slicePlaces
 have h1:(1:Int) > 0:=by omega
 simp only [h1,if_true,Int.ediv_one]
 split <;> omega
theorem jt {v:Value}{o:Option Int}{Q:Option Int->Shared->Prop} (p:IsPart v o) (h:Q o s):wpAny (model prog w) A (Builtin.Slice.slicePartIndex v) Q E s:=by
 cases p with
 | none=>exact slicePart_none h
 | int i t=>exact slicePart_int h
theorem d6 {sl:Addr}{vl vu:Value}{lo hi:Option Int}{n:Nat}{Q:Int × Int × Nat->Shared->Prop} (hs:s.heap.IsSliceOf sl vl vu .none) (pl:IsPart vl lo) (pu:IsPart vu hi)
  (h:Q (((sIx n 0 lo:Nat):Int),1,sIx n n hi - sIx n 0 lo) s):wpAny (model prog w) A (Builtin.Slice.sliceApplied (.ref sl) (pure (n:Int))) Q E s:=by
 obtain ⟨os,hos,hcs,hds⟩:=id hs
 unfold Builtin.Slice.sliceApplied Builtin.Slice.sliceFields
 refine wpAny_bind (wpAny_bind (wpAny_field hos hds (x:=vl) rfl (wpAny_bind (wpAny_field hos hds (x:=vu) rfl (wpAny_bind (wpAny_field hos hds (x:=.none) rfl (wpAny_pure ?_)))))))
 refine wpAny_bind (slicePart_none ?_)
 show wpAny _ _ (if ((1:Int) == 0)=true then _ else _) _ _ s
 rw [if_neg (by decide)]
 refine wpAny_bind (jt pl (wpAny_bind (jt pu (wpAny_bind (wpAny_pure ?_)))))
 show wpAny _ _ (match Builtin.Slice.sliceAdjust lo hi 1 (n:Int) with|(lo,hi)=>pure (lo,(1:Int),Builtin.Slice.slicePlaces lo hi 1)) _ _ s
 rw [n5 lo hi n]
 show wpAny _ _ (pure (((sIx n 0 lo:Nat):Int),(1:Int),Builtin.Slice.slicePlaces ((sIx n 0 lo:Nat):Int) ((sIx n n hi:Nat):Int) 1)) _ _ s
 rw [n6]
 exact wpAny_pure h
theorem rZ (xs:Array Value) (i k:Nat):((List.range k).filterMap λ(m:Nat)=>xs[((i:Int) + (m:Int) * 1).toNat]?).toArray=((xs.toList.drop i).take k).toArray:=by
 have e:(λ(m:Nat)=>xs[((i:Int) + (m:Int) * 1).toNat]?)=λm=>xs[i + m]?:=by
  funext m
  have:((i:Int) + (m:Int) * 1).toNat=i + m:=by omega
  rw [this]
 rw [e]
 have:=pick_run xs i k
 rw [List.filterMap_map] at this
 have e2:((λx=>xs[x]?) ∘ λx=>i + x)=λm=>xs[i + m]?:=rfl
 rw [e2] at this
 rw [this]
theorem getItem_tuple_cut {t sl:Addr}{items:Array Value}{vl vu:Value}{lo hi:Option Int}{Q:Value->Shared->Prop} (ht:IsTup s.heap t items) (hs:s.heap.IsSliceOf sl vl vu .none) (pl:IsPart vl lo) (pu:IsPart vu hi)
  (hw:¬ (sIx items.size 0 lo=0/\sIx items.size items.size hi=items.size))
  (h:Q (.ref s.heap.objs.size) { s with heap:=s.heap.push { cls:=.type "tuple",data:=.seq ((items.toList.drop (sIx items.size 0 lo)).take (sIx items.size items.size hi - sIx items.size 0 lo)).toArray } })
  (hsz:items.size <= sizeLine):wpAny (model prog w) A (getItem (.ref t) (.ref sl)) Q E s:=by
 have htake:sizeOk (.seq ((items.toList.drop (sIx items.size 0 lo)).take (sIx items.size items.size hi - sIx items.size 0 lo)).toArray):=by
  show ((items.toList.drop (sIx items.size 0 lo)).take (sIx items.size items.size hi - sIx items.size 0 lo)).toArray.size <= sizeLine
  rw [List.size_toArray,List.length_take,List.length_drop,Array.length_toList]
  omega
 have hj:sIx items.size items.size hi <= items.size:=xO _ _ (Nat.le_refl _) hi
 obtain ⟨os,hos,hcs,hds⟩:=id hs
 have hTs:s.TypeIs (.ref sl) "slice":=⟨os,hos,hcs⟩
 unfold getItem
 try with_reducible refine wpAny_holding ?_
 first|refine wpAny_bind (wpAny_pure ?_)|skip
 refine wpAny_bind (wpAny_sequenceKey ht.typeIs (by decide) ?_)
 refine wpAny_bind (wpAny_callSpecial?_slot (name:=Str.ofString "__getitem__") ht.typeIs PyProof.Rows.slot_tuple_getitem
  (wpAny_call_entry PyProof.Rows.slot_tuple_getitem ht.typeIs entry_tuple_getitem ?_ (args_tuple_getitem _ _)))
 show wpAny _ _ (Builtin.Tuple.tupleItemsOf (.ref t) >>= _) _ _ s
 refine wpAny_bind (tupleItemsOf_ ht ?_)
 refine wpAny_bind (wpAny_typeOf hTs ?_)
 rw [if_pos (by decide)]
 refine wpAny_bind (d6 hs pl pu ?_)
 have hno:¬ ((((sIx items.size 0 lo:Nat):Int) == 0&&(1:Int) == 1&&(sIx items.size items.size hi - sIx items.size 0 lo) == items.size)=true):=by
  intro q
  rw [Bool.and_eq_true,Bool.and_eq_true] at q
  have q1:((sIx items.size 0 lo:Nat):Int)=0:=eq_of_beq q.1.1
  have q2:sIx items.size items.size hi - sIx items.size 0 lo=items.size:=eq_of_beq q.2
  exact hw ⟨by omega,by omega⟩
 show wpAny _ _ (if (((sIx items.size 0 lo:Nat):Int) == 0&&(1:Int) == 1&&(sIx items.size items.size hi - sIx items.size 0 lo) == items.size)=true then _ else _) _ _ s
 rw [if_neg hno,rZ]
 first
  | exact wpAny_bind (m:=Builtin.Tuple.tupleExact _) (wpAny_newObj_type (wpAny_pure ⟨_,rfl,wpAny_pure h⟩) htake)
  | exact wpAny_bind (m:=Builtin.Tuple.tupleExact _) (wpAny_newObj_type (wpAny_bind (wpAny_pure (wpAny_pure ⟨_,rfl,wpAny_pure h⟩))) htake)
  | exact wpAny_bind (wpAny_bind (m:=Builtin.Tuple.tupleExact _) (wpAny_newObj_type (wpAny_pure (wpAny_pure ⟨_,rfl,wpAny_pure h⟩)) htake))
  | exact wpAny_bind (wpAny_bind (m:=Builtin.Tuple.tupleExact _) (wpAny_newObj_type (wpAny_pure ⟨_,rfl,wpAny_pure h⟩) htake))
end
end HT
namespace L2
open PySem PySem.Spec PyProof.Rows
noncomputable abbrev TO:=St->Hp->(Option Int->Hp->Prop)->Prop
noncomputable def PO (X:Cx) (e:Option Expr) (t:TO):Prop :=
 ∀ (pins:List (Addr × Obj)) (s:Shared) (σ:St) (H:Hp) (Q:Option Int->Hp->Prop),Inv X pins σ H s->t σ H Q ->
  wpAny (model X.prog X.w) X.A (evalPart e X.env) (λu s'=>∃ o H',Inv X pins σ H' s'/\IsPart u o/\Q o H') X.xe s
noncomputable def vr:TO:=λ_ H Q=>Q none H
noncomputable def Ag (t:TE):TO:=λσ H Q=>t σ H λx H1=>∃ i,x=.int i/\Q (some i) H1
theorem da {ns:List Int}:∀ {us:List Value},al (ns.map V.int) us->IntsAre us ns:=by
 induction ns with
 | nil=>intro us r;rw [List.map_nil] at r;cases r;exact .nil
 | cons n ns ih =>
  intro us r
  rw [List.map_cons] at r
  cases r with
  | cons r1 r2 =>
   obtain ⟨t,e⟩:=r1
   subst e
   exact .cons n t (ih r2)
section
variable {X:Cx}{e:Expr}{te:TE}{lo hi:Option Expr}{tl th:TO}{pos p2:Pos}
theorem vt:PO X none vr:=by
 intro pins s σ H Q I h
 rw [evalPart_none]
 exact wpAny_pure ⟨none,H,I,.none,h⟩
theorem vv (h:PE X e te):PO X (some e) (Ag te):=by
 intro pins s σ H Q I hw
 rw [evalPart_some]
 refine thn (h pins s σ H _ I hw) λu s1 ⟨x,H1,I1,r1,q1⟩=>?_
 obtain ⟨i,rfl,q⟩:=q1
 obtain ⟨t,rfl⟩:=r1
 exact ⟨some i,H1,I1,.int i t,q⟩
noncomputable def SlR (X:Cx) (r:V->Option Int->Option Int->Hp->VK->Prop):Prop :=
 ∀ (pins:List (Addr × Obj)) (s:Shared) (σ:St) (H:Hp) (x:V) (v vl vu:Value) (lo hi:Option Int) (sl:Addr) (Q:VK),Inv X pins σ H s->ak x v->s.heap.IsSliceOf sl vl vu .none->IsPart vl lo->IsPart vu hi->r x lo hi H Q ->
  ∃ T id,typeLookup (.type T) "__getitem__"=pure (some (.builtin id))/\s.TypeIs v T/\wpAny (model X.prog X.w) X.A (getItem v (.ref sl)) (EP X pins σ Q) X.xe s
theorem SlR.or {r r':V->Option Int->Option Int->Hp->VK->Prop} (h:SlR X r) (h':SlR X r'):SlR X (λx lo hi H Q=>r x lo hi H Q \/ r' x lo hi H Q):=by
 intro pins s σ H x v vl vu lo hi sl Q I rx hs pl pu q
 rcases q with q|q
 ·exact h pins s σ H x v vl vu lo hi sl Q I rx hs pl pu q
 ·exact h' pins s σ H x v vl vu lo hi sl Q I rx hs pl pu q
noncomputable def tSl (r:V->Option Int->Option Int->Hp->VK->Prop) (te:TE) (tl th:TO):TE:=λσ H Q=>te σ H λx H1=>tl σ H1 λl H2=>th σ H2 λu H3=>r x l u H3 Q
theorem r6 {r:V->Option Int->Option Int->Hp->VK->Prop} (hr:SlR X r) (he:PE X e te) (hl:PO X lo tl) (hu:PO X hi th):PE X (.Subscript e (.Slice lo hi none p2) pos) (tSl r te tl th):=by
 intro pins s σ H Q I h
 refine Subscript_ (thn (he pins s σ H _ I h) λv s1 ⟨x,H1,I1,r1,q1⟩=>?_)
 refine wpAny_Slice (thn (hl pins s1 σ H1 _ I1 q1) λvl s2 ⟨l,H2,I2,pl,q2⟩=>thn (hu pins s2 σ H2 _ I2 q2) λvu s3 ⟨u,H3,I3,pu,q3⟩=>?_)
 rw [evalPart_none]
 refine wpAny_pure ?_
 have I4:Inv X pins σ H3 { s3 with heap:=s3.heap.push { cls:=.type "slice",data:=.fields #[vl,vu,.none] } }:=I3.kept (t':=s3.toks) λb ob q=>Heap.get?_push_of_some _ q
 obtain ⟨T,id,hT,ht,hg⟩:=hr pins { s3 with heap:=s3.heap.push { cls:=.type "slice",data:=.fields #[vl,vu,.none] } } σ H3 x v vl vu l u s3.heap.objs.size Q I4 r1 (Heap.IsSliceOf.new ..) pl pu q3
 show wpAny (model X.prog X.w) X.A (subscriptTail e (.Slice lo hi none p2) v (.ref s3.heap.objs.size)) (EP X pins σ Q) X.xe { s3 with heap:=s3.heap.push { cls:=.type "slice",data:=.fields #[vl,vu,.none] } }
 exact tail_any (ops:=[.ref s3.heap.objs.size,v]) ht hT hg (by with_unfolding_all rfl)
noncomputable def mT (xs:List V) (lo hi:Option Int):List V:=(xs.drop (HT.sIx xs.length 0 lo)).take (HT.sIx xs.length xs.length hi - HT.sIx xs.length 0 lo)
theorem iT (xs:List V) (lo hi:Option Int):(mT xs lo hi).length <= xs.length:=by
 unfold mT
 rw [List.length_take,List.length_drop]
 omega
noncomputable def BT (K:PySem.W.Frag):V->Option Int->Option Int->Hp->VK->Prop:=λx lo hi H Q=>∃ a xs,x=.ref a/\SqT K H a xs /\
 ¬ (HT.sIx xs.length 0 lo=0/\HT.sIx xs.length xs.length hi=xs.length)/\∀ p,H p=none->Q (.ref p) (upd H p (.tup (mT xs lo hi)))
theorem xP:SlR X (BT X.K):=by
 intro pins s σ H x v vl vu lo hi sl Q I rx hs pl pu h
 obtain ⟨a,xs,rfl,hx,hw,q⟩:=h
 cases rx
 obtain ⟨its,r,ht,hz⟩:=I.tuple hx
 have hlen:its.toArray.size=xs.length:=by rw [List.size_toArray];exact r.length.symm
 refine ⟨"tuple",_,PyProof.Rows.slot_tuple_getitem.lookup,ht.typeIs,?_⟩
 refine HT.getItem_tuple_cut ht hs pl pu (by rw [hlen];exact hw) ?_ (by rw [hlen];exact hz)
 rw [hlen]
 refine ⟨.ref s.heap.objs.size,_,I.laid (t':=s.toks) (o:=.tup (mT xs lo hi)) (λb ob q=>Heap.get?_push_of_some _ q) (Nat.le_refl _) ?_,rfl,q _ (I.hok.fresh (Nat.le_refl _))⟩
 exact ⟨Nat.le_trans (iT xs lo hi) hz,_,(r.drop (HT.sIx xs.length 0 lo)).take (HT.sIx xs.length xs.length hi - HT.sIx xs.length 0 lo),IsTup.new _ _⟩
noncomputable def Ah (K:PySem.W.Frag):R2:=λx y H Q=>∃ a b xs ys,x=.ref a/\y=.ref b/\SqT K H a xs/\SqT K H b ys/\xs ≠ []/\xs.length + ys.length <= sizeLine /\
 (ys=[]->Q (.ref a) H)/\(ys ≠ []->∀ p,H p=none->Q (.ref p) (upd H p (.tup (xs ++ ys))))
theorem al.nil_iff {xs:List V}{us:List Value} (r:al xs us):us=[] ↔ xs=[]:=by
 cases r with
 | nil=>simp
 | cons _ _=>simp
theorem vw:OpR X (binaryOp .Add) (Ah X.K):=by
 intro pins s σ H x y v u Q I rx ry h
 obtain ⟨a,b,xs,ys,rfl,rfl,ha,hb,hx,hz,q1,q2⟩:=h
 cases rx
 cases ry
 obtain ⟨its,r1,p1,_⟩:=I.tuple ha
 obtain ⟨its2,r2,p2,_⟩:=I.tuple hb
 refine HT.cat_tup p1 p2 (λz=>hx (r1.nil_iff.mp z)) (λz=>⟨.ref a,H,I,rfl,q1 (r2.nil_iff.mp z)⟩) (λz=>?_) (by rw [<- r1.length,<- r2.length];exact hz)
 refine ⟨.ref s.heap.objs.size,_,I.laid (t':=s.toks) (o:=.tup (xs ++ ys)) (λb ob q=>Heap.get?_push_of_some _ q) (Nat.le_refl _) ?_,rfl,q2 (λw=>z (r2.nil_iff.mpr w)) _ (I.hok.fresh (Nat.le_refl _))⟩
 exact ⟨by rw [List.length_append];exact hz,_,r1.append r2,IsTup.new _ _⟩
end
end L2
namespace L2
open PySem PySem.Spec PyProof.Rows
noncomputable def ixN (n:Nat) (i:Int):Option Nat:=if 0 <= i then (if i < n then some i.toNat else none) else if -(n:Int) <= i then some (i + n).toNat else none
noncomputable def atI {α:Type} (xs:List α) (i:Int):Option α:=(ixN xs.length i).bind λj=>xs[j]?
theorem oZ {n:Nat}{i:Int}{j:Nat} (h:ixN n i=some j):seqIndex? i n=some j/\j < n/\-(n:Int) <= i/\i < n:=by
 unfold ixN at h
 by_cases h0:0 <= i
 ·rw [if_pos h0] at h
  by_cases h1:i < n
  ·rw [if_pos h1] at h
   have e:i.toNat=j:=Option.some.inj h
   exact ⟨by rw [seqIndex_of h0 h1,e],by omega,by omega,h1⟩
  ·rw [if_neg h1] at h;cases h
 ·rw [if_neg h0] at h
  by_cases h1:-(n:Int) <= i
  ·rw [if_pos h1] at h
   have e:(i + n).toNat=j:=Option.some.inj h
   exact ⟨by rw [seqIndex_neg (by omega) h1,e],by omega,h1,by omega⟩
  ·rw [if_neg h1] at h;cases h
theorem lO {α:Type}{xs:List α}{i:Int}{v:α} (h:atI xs i=some v):∃ j,seqIndex? i xs.length=some j/\xs[j]?=some v/\j < xs.length/\-(xs.length:Int) <= i/\i < xs.length:=by
 unfold atI at h
 cases e:ixN xs.length i with
 | none=>rw [e] at h;cases h
 | some j =>
  rw [e] at h
  obtain ⟨h1,h2,h3,h4⟩:=oZ e
  exact ⟨j,h1,h,h2,h3,h4⟩
noncomputable def o3 (b:Expr):Prop:=∀ o i,subscripted b false o i=operate [o,i] (getItem o i)
noncomputable def IxR (X:Cx) (r:R2):Prop :=
 ∀ (value slice:Expr) (pins:List (Addr × Obj)) (s:Shared) (σ:St) (H:Hp) (x y:V) (v u:Value) (Q:VK),Inv X pins σ H s->ak x v->ak y u->r x y H Q ->
  subscripted slice false v u=operate [v,u] (getItem v u)->wpAny (model X.prog X.w) X.A (subscriptTail value slice v u) (EP X pins σ Q) X.xe s
noncomputable def MtR (X:Cx) (id:String) (r:V->List V->Hp->VK->Prop):Prop :=
 ∀ (pins:List (Addr × Obj)) (s:Shared) (σ:St) (H:Hp) (x:V) (xs:List V) (v:Value) (us:List Value) (Q:VK),Inv X pins σ H s->ak x v->al xs us->r x xs H Q ->
  wpAny (model X.prog X.w) X.A (call (.builtin id) (v::us)) (EP X pins σ Q) X.xe s
section
variable {X:Cx}{a b:Expr}{ta tb:TE}{pos:Pos}
theorem IxR.or {r r':R2} (h:IxR X r) (h':IxR X r'):IxR X (λx y H Q=>r x y H Q \/ r' x y H Q):=by
 intro value slice pins s σ H x y v u Q I rx ry q hs
 rcases q with q|q
 ·exact h value slice pins s σ H x y v u Q I rx ry q hs
 ·exact h' value slice pins s σ H x y v u Q I rx ry q hs
theorem MtR.or {id:String}{r r':V->List V->Hp->VK->Prop} (h:MtR X id r) (h':MtR X id r'):MtR X id (λx xs H Q=>r x xs H Q \/ r' x xs H Q):=by
 intro pins s σ H x xs v us Q I rx rs q
 rcases q with q|q
 ·exact h pins s σ H x xs v us Q I rx rs q
 ·exact h' pins s σ H x xs v us Q I rx rs q
theorem Ai {r:R2} (hr:IxR X r) (ha:PE X a ta) (hb:PE X b tb) (hs:o3 b):PE X (.Subscript a b pos) (tOp r ta tb):=by
 intro pins s σ H Q I h
 exact Subscript_ (xD ha hb I h λv u s2 x y H2 I2 rx ry q=>hr a b pins s2 σ H2 x y v u Q I2 rx ry q (hs _ _))
noncomputable def Aj (K:PySem.W.Frag):R2:=λx y H Q=>∃ p xs i v,x=.ref p/\y=.int i/\SqL K H p xs/\atI xs i=some v/\Q v H
noncomputable def Ak (K:PySem.W.Frag):R2:=λx y H Q=>∃ p xs i v,x=.ref p/\y=.int i/\SqT K H p xs/\atI xs i=some v/\Q v H
noncomputable def Al:R2:=λx y H Q=>∃ z i c,x=.str z/\y=.int i/\z.length <= sizeLine/\atI z.cps.toList i=some c/\Q (.str ⟨#[c]⟩) H
theorem vz:IxR X (Aj X.K):=by
 intro value slice pins s σ H x y v u Q I rx ry h hs
 obtain ⟨p,xs,i,z,rfl,rfl,hq,he,q⟩:=h
 cases rx
 obtain ⟨t,rfl⟩:=ry
 obtain ⟨its,r,pl,hz⟩:=I.list hq
 obtain ⟨j,h1,h2,h3,h4,h5⟩:=lO he
 obtain ⟨w,ew,rw'⟩:=r.get h2
 have hl:=r.length
 have hn:=ik
 have fin:EP X pins σ Q w s:=⟨z,H,I,rw',q⟩
 by_cases h0:0 <= i
 ·have hj:i.toNat=j:=by
   rw [seqIndex_of h0 h5] at h1
   exact Option.some.inj h1
  exact item_listR pl.isList h0 (by omega) (by rw [hj];simpa using ew) fin hs
 ·have hj:(i + (its.toArray.size:Int)).toNat=j:=by
   rw [seqIndex_neg (by omega) h4] at h1
   rw [List.size_toArray,<- hl]
   exact Option.some.inj h1
  exact subscriptTail_builtinR (x:=w) pl.isList.typeIs slot_list_getitem.lookup
   (wpAny_getItem_list_neg (Q:=λr s'=>r=w/\EP X pins σ Q r s') pl.isList (by omega) (by rw [List.size_toArray] <;> omega) (by omega) (by rw [hj];simpa using ew) ⟨rfl,fin⟩) hs
theorem xQ:IxR X (Ak X.K):=by
 intro value slice pins s σ H x y v u Q I rx ry h hs
 obtain ⟨p,xs,i,z,rfl,rfl,hq,he,q⟩:=h
 cases rx
 obtain ⟨t,rfl⟩:=ry
 obtain ⟨its,r,pl,hz⟩:=I.tuple hq
 obtain ⟨j,h1,h2,h3,h4,h5⟩:=lO he
 obtain ⟨w,ew,rw'⟩:=r.get h2
 have hl:=r.length
 have hn:=ik
 have fin:EP X pins σ Q w s:=⟨z,H,I,rw',q⟩
 exact subscriptTail_builtinR (x:=w) pl.typeIs slot_tuple_getitem.lookup
  (getItem_tuple (j:=j) (Q:=λr s'=>r=w/\EP X pins σ Q r s') pl (by omega) (by omega) (by rw [List.size_toArray,<- hl];exact h1) (by simpa using ew) ⟨rfl,fin⟩) hs
theorem xR:IxR X Al:=by
 intro value slice pins s σ H x y v u Q I rx ry h hs
 obtain ⟨z,i,c,rfl,rfl,hz,he,q⟩:=h
 obtain ⟨t,rfl⟩:=rx
 obtain ⟨t',rfl⟩:=ry
 obtain ⟨j,h1,h2,h3,h4,h5⟩:=lO he
 have hl:z.cps.toList.length=z.length:=by simp [Str.length]
 rw [hl] at h1 h4 h5
 have hn:=ik
 exact tail_any (typeIs_str s z t) slot_str_getitem.lookup (getItem_str (c:=c) (by
  have e1:decide (i < -(2 ^ 63:Int))=false:=decide_eq_false (by omega)
  have e2:decide (i >= 2 ^ 63)=false:=decide_eq_false (by omega)
  rw [e1,e2,Bool.or_false]) (by rw [h1];simpa using h2) ⟨.str ⟨#[c]⟩,H,I.tok _,⟨_,rfl⟩,q⟩) hs
noncomputable def rIx (K:PySem.W.Frag):R2:=λx y H Q=>Aj K x y H Q \/ Ak K x y H Q \/ Al x y H Q
theorem r9:IxR X (rIx X.K):=vz.or (xQ.or xR)
theorem n8 (its:List Value) (n j:Nat) (u:Value):Obj.mapSeq (·.setIfInBounds j u) { cls:=.type "list",data:=.seq its.toArray n }={ cls:=.type "list",data:=.seq (its.set j u).toArray n }:=by
 simp [Obj.mapSeq]
theorem Inv.lst {pins:List (Addr × Obj)}{σ:St}{H:Hp}{s:Shared}{p:Addr}{xs:List V} (I:Inv X pins σ H s) (h:H p=some (.lst xs)) :
  ∃ (its:List Value) (n:Nat),al xs its/\s.heap.get? p=some { cls:=.type "list",data:=.seq its.toArray n }/\xs.length <= sizeLine:=by
 obtain ⟨z,its,n,r,e⟩:=I.hok p _ h
 exact ⟨its,n,r,e,z⟩
theorem Inv.lstUpd {pins:List (Addr × Obj)}{σ:St}{H:Hp}{s:Shared}{p:Addr}{xs ys:List V}{its its':List Value}{n n':Nat}{f:Obj->Obj} (I:Inv X pins σ H s) (h:H p=some (.lst xs))
  (ho:s.heap.get? p=some { cls:=.type "list",data:=.seq its.toArray n }) (hf:f { cls:=.type "list",data:=.seq its.toArray n }={ cls:=.type "list",data:=.seq its'.toArray n' }) (r:al ys its') (hz:ys.length <= sizeLine) (t:Nat) :
  Inv X pins σ (upd H p (.lst ys)) { s with heap:=s.heap.update p f,toks:=t }:=by
 have e:(s.heap.update p f).get? p=some { cls:=.type "list",data:=.seq its'.toArray n' }:=by
  rw [Heap.get?_update_self f ho (by rw [hf] <;> rfl),hf]
 refine I.write (x:=p) (e:=p) (by rw [h];trivial) (.inl rfl) (λb u hb q=>(Heap.get?_update_other _ _ (Ne.symm hb)).trans q) ⟨_,e⟩ ?_
 exact ⟨hz,its',n',r,e⟩
noncomputable def Am:V->V->V->Hp->(Hp->Prop)->Prop:=λo i v H Q=>∃ p xs k j,o=.ref p/\i=.int k/\H p=some (.lst xs)/\ixN xs.length k=some j/\Q (upd H p (.lst (xs.set j v)))
theorem set_list:BN X Am:=by
 intro pins s σ H o i v ov iv u Q I ro ri rv h
 obtain ⟨p,xs,k,j,rfl,rfl,hp,hj,q⟩:=h
 cases ro
 obtain ⟨t,rfl⟩:=ri
 obtain ⟨its,n,r,ho,hz⟩:=I.lst hp
 obtain ⟨h1,h2,h3,h4⟩:=oZ hj
 have hl:=r.length
 have hn:=ik
 have I':Inv X pins σ (upd H p (.lst (xs.set j v))) { s with heap:=s.heap.update p (Obj.mapSeq (·.setIfInBounds j u)) } :=
  I.lstUpd hp ho (n8 its n j u) (r.set rv j) (by rw [List.length_set];exact hz) s.toks
 by_cases h0:0 <= k
 ·have hk:k.toNat=j:=by
   rw [seqIndex_of h0 h4] at h1
   exact Option.some.inj h1
  exact PySem.W.ki_setAt ho h0 (by omega) (by rw [List.size_toArray,<- hl];exact h4) (by rw [hk];exact ⟨_,I',q⟩)
 ·have hk:(k + (its.toArray.size:Int)).toNat=j:=by
   rw [seqIndex_neg (by omega) h3] at h1
   rw [List.size_toArray,<- hl]
   exact Option.some.inj h1
  exact PySem.W.ki_setBack ho (by omega) (by rw [List.size_toArray,<- hl];exact h3) (by omega) (by rw [hk];exact ⟨_,I',q⟩)
theorem lP (lo hi:Option Int) (n:Nat):(sliceBounds lo hi none n).1=((HT.sIx n 0 lo:Nat):Int)/\(sliceBounds lo hi none n).2.1=((HT.sIx n n hi:Nat):Int)/\(sliceBounds lo hi none n).2.2=1:=by
 refine ⟨?_,?_,rfl⟩
 ·cases lo with
  | none=>simp [sliceBounds,HT.sIx]
  | some i =>
   simp only [sliceBounds,HT.sIx,Option.getD_none,show (1:Int) > 0 by decide,if_true]
   by_cases h:i < 0
   ·simp only [h,if_true] <;> omega
   ·simp only [h,if_false] <;> omega
 ·cases hi with
  | none=>simp [sliceBounds,HT.sIx]
  | some i =>
   simp only [sliceBounds,HT.sIx,Option.getD_none,show (1:Int) > 0 by decide,if_true]
   by_cases h:i < 0
   ·simp only [h,if_true] <;> omega
   ·simp only [h,if_false] <;> omega
theorem kw (its:List Value) (lo hi:Option Int):slicePick its.toArray lo hi none=((its.drop (HT.sIx its.length 0 lo)).take (HT.sIx its.length its.length hi - HT.sIx its.length 0 lo)).toArray:=by
 obtain ⟨h1,h2,h3⟩:=lP lo hi its.toArray.size
 unfold slicePick
 rw [h1,h2,h3]
 simp only [sliceRange_one,pick_run,List.size_toArray] <;> rfl
noncomputable def BU (K:PySem.W.Frag):V->Option Int->Option Int->Hp->VK->Prop:=λx lo hi H Q=>∃ a xs,x=.ref a/\SqL K H a xs/\∀ p,H p=none->Q (.ref p) (upd H p (.lst (mT xs lo hi)))
theorem vA:SlR X (BU X.K):=by
 intro pins s σ H x v vl vu lo hi sl Q I rx hs pl pu h
 obtain ⟨a,xs,rfl,hx,q⟩:=h
 cases rx
 obtain ⟨its,r,ht,hz⟩:=I.list hx
 have hlen:=r.length
 refine ⟨"list",_,slot_list_getitem.lookup,ht.isList.typeIs,?_⟩
 refine wpAny_getItem_list_slice ht.isList hs pl pu .none (by simp) ?_ (by rw [List.size_toArray] <;> omega)
 rw [kw,<- hlen]
 refine ⟨.ref s.heap.objs.size,_,I.laid (t':=s.toks) (o:=.lst (mT xs lo hi)) (λb ob q=>Heap.get?_push_of_some _ q) (Nat.le_refl _) ?_,rfl,q _ (I.hok.fresh (Nat.le_refl _))⟩
 exact ⟨Nat.le_trans (iT xs lo hi) hz,_,0,(r.drop (HT.sIx xs.length 0 lo)).take (HT.sIx xs.length xs.length hi - HT.sIx xs.length 0 lo),Heap.get?_push_size _ rfl⟩
noncomputable def fV:V->Bool
 | .non=>true
 | .bl _=>true
 | .int _=>true
 | .str _=>true
 | _=>false
noncomputable def eqV:V->V->Bool
 | .non,.non=>true
 | .bl a,.bl b=>a == b
 | .bl a,.int b=>(if a then 1 else 0) == b
 | .int a,.bl b=>a == (if b then 1 else 0)
 | .int a,.int b=>a == b
 | .str a,.str b=>a == b
 | _,_=>false
theorem r_ {A:Around}{s:Shared}{y x:V}{u v:Value} (ry:ak y u) (rx:ak x v) (fy:fV y=true) (fx:fV x=true):SeqAt.EqAt A s u v (eqV y x):=by
 cases y with
 | non =>
  cases ry
  cases x with
  | non=>cases rx;exact SeqAt.EqAt.same _
  | bl b=>cases rx;exact SeqAt.EqAt.none_bool b
  | int b=>obtain ⟨t,rfl⟩:=rx;exact SeqAt.EqAt.none_int b t
  | str b=>obtain ⟨t,rfl⟩:=rx;exact SeqAt.EqAt.none_str b t
  | _=>exact absurd (show false=true from fx) Bool.false_ne_true
 | bl a =>
  cases ry
  cases x with
  | non=>cases rx;exact SeqAt.EqAt.bool_none a
  | bl b=>cases rx;exact SeqAt.EqAt.bool_bool a b
  | int b=>obtain ⟨t,rfl⟩:=rx;exact SeqAt.EqAt.bool_int a b t
  | str b=>obtain ⟨t,rfl⟩:=rx;exact SeqAt.EqAt.bool_str a b t
  | _=>exact absurd (show false=true from fx) Bool.false_ne_true
 | int a =>
  obtain ⟨t',rfl⟩:=ry
  cases x with
  | non=>cases rx;exact SeqAt.EqAt.int_none a t'
  | bl b=>cases rx;exact SeqAt.EqAt.int_bool a t' b
  | int b=>obtain ⟨t,rfl⟩:=rx;exact SeqAt.EqAt.int_int a t' b t
  | str b=>obtain ⟨t,rfl⟩:=rx;exact SeqAt.EqAt.int_str a t' b t
  | _=>exact absurd (show false=true from fx) Bool.false_ne_true
 | str a =>
  obtain ⟨t',rfl⟩:=ry
  cases x with
  | non=>cases rx;exact SeqAt.EqAt.str_none a t'
  | bl b=>cases rx;exact SeqAt.EqAt.str_bool a t' b
  | int b=>obtain ⟨t,rfl⟩:=rx;exact SeqAt.EqAt.str_int a t' b t
  | str b=>obtain ⟨t,rfl⟩:=rx;exact SeqAt.EqAt.str_str a t' b t
  | _=>exact absurd (show false=true from fx) Bool.false_ne_true
 | _=>exact absurd (show false=true from fy) Bool.false_ne_true
theorem gE:bn X (.builtin "len") (λxs H Q=>∃ p ys,xs=[.ref p]/\(SqL X.K H p ys \/ SqT X.K H p ys)/\Q (.int ys.length) H):=by
 intro pins s σ H xs us Q I r h
 obtain ⟨p,ys,rfl,hq,q⟩:=h
 obtain ⟨u,rfl,rx⟩:=fU r
 cases rx
 have hn:=ik
 rcases hq with hq|hq
 ·obtain ⟨its,r',pl,hz⟩:=I.list hq
  have hlen:=r'.length
  exact Calls.call_len_list pl.isList (by simp only [List.size_toArray] <;> omega) ⟨.int ys.length,H,I.tok _,⟨s.toks + 1,by rw [List.size_toArray,hlen]⟩,q⟩
 ·obtain ⟨its,r',pl,hz⟩:=I.tuple hq
  have hlen:=r'.length
  exact len_tuple pl (by simp only [List.size_toArray] <;> omega) ⟨.int ys.length,H,I.tok _,⟨s.toks + 1,by rw [List.size_toArray,hlen]⟩,q⟩
theorem bn.or {f:Value}{r r':List V->Hp->VK->Prop} (h:bn X f r) (h':bn X f r'):bn X f (λxs H Q=>r xs H Q \/ r' xs H Q):=by
 intro pins s σ H xs us Q I rs q
 rcases q with q|q
 ·exact h pins s σ H xs us Q I rs q
 ·exact h' pins s σ H xs us Q I rs q
theorem lQ:bn X (.type "list") (λxs H Q=>∃ p ys,xs=[.ref p]/\(SqL X.K H p ys \/ SqT X.K H p ys)/\∀ l,H l=none->Q (.ref l) (upd H l (.lst ys))):=by
 intro pins s σ H xs us Q I r h
 obtain ⟨p,ys,rfl,hq,q⟩:=h
 obtain ⟨u,rfl,rx⟩:=fU r
 cases rx
 have fin:∀ (its:List Value),al ys its->ys.length <= sizeLine->∀ (h':Heap) (c':Nat),(∀ b o',s.heap.get? b=some o'->h'.get? b=some o') ->
   h'.get? s.heap.objs.size=some { cls:=.type "list",dict:=none,data:=.seq its.toArray c',slots:=#[] }->EP X pins σ Q (.ref s.heap.objs.size) { s with heap:=h' }:=λits r' hz h' c' kp e =>
  ⟨.ref s.heap.objs.size,_,I.laid (t':=s.toks) kp (Nat.le_refl _) (show aM X.prog X.w _ h' _ (.lst ys) from ⟨hz,its,c',r',e⟩),rfl,q _ (I.hok.fresh (Nat.le_refl _))⟩
 rcases hq with hq|hq
 ·obtain ⟨its,r',pl,hz⟩:=I.list hq
  have hlen:=r'.length
  obtain ⟨o,ho,hc,n,hd⟩:=pl.isList
  exact call_list_seq p (.inl rfl) ho hc hd (λh' c' kp e=>fin its r' hz h' c' kp e) (by simp only [List.size_toArray] <;> omega)
 ·obtain ⟨its,r',pl,hz⟩:=I.tuple hq
  have hlen:=r'.length
  obtain ⟨o,ho,hc,n,hd⟩:=pl
  exact call_list_seq p (.inr rfl) ho hc hd (λh' c' kp e=>fin its r' hz h' c' kp e) (by simp only [List.size_toArray] <;> omega)
theorem fW:bn X (.type "tuple") (λxs H Q=>∃ p ys,xs=[.ref p]/\((SqL X.K H p ys/\∀ l,H l=none->Q (.ref l) (upd H l (.tup ys))) \/ (SqT X.K H p ys/\Q (.ref p) H))):=by
 intro pins s σ H xs us Q I r h
 obtain ⟨p,ys,rfl,h⟩:=h
 obtain ⟨u,rfl,rx⟩:=fU r
 cases rx
 rcases h with ⟨hq,q⟩|⟨hq,q⟩
 ·obtain ⟨its,r',pl,hz⟩:=I.list hq
  have hlen:=r'.length
  refine call_tuple_list pl.isList (λh' kp=>?_) (by simp only [List.size_toArray] <;> omega)
  have I1:Inv X pins σ H { s with heap:=h' }:=I.kept (t':=s.toks) kp
  have I2:Inv X pins σ (upd H h'.objs.size (.tup ys)) { s with heap:=h'.push { cls:=.type "tuple",data:=.seq its.toArray } } :=
   I1.laid (t':=s.toks) (λb o e=>Heap.get?_push_of_some _ e) (Nat.le_refl _) (show aM X.prog X.w _ _ _ (.tup ys) from ⟨hz,its,r',IsTup.new _ _⟩)
  exact ⟨.ref h'.objs.size,_,I2,rfl,q _ (I1.hok.fresh (Nat.le_refl _))⟩
 ·obtain ⟨its,r',pl,hz⟩:=I.tuple hq
  exact call_tuple_same pl ⟨.ref p,H,I,rfl,q⟩
noncomputable def tyV (K:PySem.W.Frag) (T:String) (x:V) (H:Hp):Prop:=match x with
 | .str _=>T="str"
 | .int _=>T="int"
 | .ref p=>(T="list"/\∃ xs,SqL K H p xs) \/ (T="tuple"/\∃ o,K.lookup p=some o/\o.cls=.type "tuple"/\o.dict=none) \/
   (T="dict"/\((∃ kvs,H p=some (.dK kvs)) \/ ∃ kvs,H p=some (.dT kvs))) \/ (T="set"/\∃ S n,H p=some (.set S n))
 | _=>False
theorem xS {pins:List (Addr × Obj)}{σ:St}{H:Hp}{s:Shared}{T:String}{x:V}{v:Value} (I:Inv X pins σ H s) (r:ak x v) (ty:tyV X.K T x H) :
  s.TypeIs v T/\∀ a,v=.ref a->∃ ob,s.heap.get? a=some ob/\ob.dict=none:=by
 cases x with
 | str z =>
  obtain ⟨t,rfl⟩:=r
  cases (show T="str" from ty)
  exact ⟨typeIs_str s z t,λ_ e=>nomatch e⟩
 | int i =>
  obtain ⟨t,rfl⟩:=r
  cases (show T="int" from ty)
  exact ⟨typeIs_int s i t,λ_ e=>nomatch e⟩
 | ref p =>
  cases r
  rcases ty with ⟨rfl,xs,hq⟩|⟨rfl,o,hk,hc,hd⟩|⟨rfl,hk⟩|⟨rfl,S,n,hk⟩
  ·obtain ⟨its,_,pl,_⟩:=I.list hq
   refine ⟨pl.isList.typeIs,λa e=>?_⟩
   cases e
   obtain ⟨o,n,e,c,hd,_⟩:=pl
   exact ⟨o,e,hd⟩
  ·refine ⟨⟨o,I.kIn p o hk,hc⟩,λa e=>?_⟩
   cases e
   exact ⟨o,I.kIn _ o hk,hd⟩
  ·have z:∃ o,s.heap.get? p=some o/\o.ExactDict:=by
    rcases hk with ⟨kvs,hk⟩|⟨kvs,hk⟩
    ·obtain ⟨_,_,_,_,o,_,_,e,ex,_⟩:=I.hok p _ hk
     exact ⟨o,e,ex⟩
    ·obtain ⟨_,_,_,_,o,_,_,e,ex,_⟩:=I.hok p _ hk
     exact ⟨o,e,ex⟩
   obtain ⟨o,e,ex⟩:=z
   refine ⟨⟨o,e,ex.1⟩,λa e2=>?_⟩
   cases e2
   exact ⟨o,e,ex.2.1⟩
  ·obtain ⟨o,_,_,_,e,ex,_⟩:=I.hok p _ hk
   refine ⟨⟨o,e,ex.1⟩,λa e2=>?_⟩
   cases e2
   exact ⟨o,e,ex.2.1⟩
 | _=>exact False.elim ty
noncomputable def tBM (K:PySem.W.Frag) (T:String) (r:V->List V->Hp->VK->Prop) (to:TE) (t:TA):TE:=λσ H Q=>to σ H λx H1=>tyV K T x H1/\t σ H1 λxs H2=>r x xs H2 Q
variable {o e:Expr}{es:List Expr}{to:TE}{t:TA}{name:Str}{apos cpos:Pos}{T id:String}{r:V->List V->Hp->VK->Prop}
theorem wV (pa:PlainAttrs T) (slot:Slot T name id) (hty:typeOf (.builtin id)=pure (.type "method_descriptor")) (hm:MtR X id r) (ho:PE X o to) (ha:PA X (e::es) t)
  (hbase:attributeBase o name X.env (eval o X.env)=eval o X.env:=by rfl)
  (hfew:((backTo cpos (starEach (e::es) X.env)).all (λx=>!x.1)&&(backToKw cpos (keywordEach [] X.env)).all (λx=>x.1.isSome)
  &&decide ((e::es).length + ([]:List Keyword).length + (if ([]:List Keyword).isEmpty then 0 else 1) < 30))=true:=by rfl)
  (hline:(apos.endLine == cpos.line)=true:=by rfl) (hs:starEach (e::es) X.env=(false,eval e X.env)::starEach es X.env:=by rfl) (hplain:(backTo cpos (starEach es X.env)).any (·.1)=false:=by rfl) :
  PE X (.Call (.Attribute o name apos) (e::es) [] cpos) (tBM X.K T r to t):=by
 intro pins s σ H Q I h
 refine wpAny_Call_method_late hbase hfew hline rfl (thn (ho pins s σ H _ I h) λv s1 ⟨x,H1,I1,r1,ty,q1⟩=>?_)
 obtain ⟨h1,h2⟩:=xS I1 r1 ty
 refine ⟨T,id,pa,slot,hty,h1,h2,?_⟩
 have hA:=ha cpos pins s1 σ H1 _ I1 q1
 rw [hs] at hA ⊢
 refine Calls.callWith_builtin (by show (false || (backTo cpos (starEach es X.env)).any (·.1))=false;rw [hplain] <;> rfl) (Calls.evalArgs_plain ?_)
 exact thn hA λus s2 ⟨vs,H2,I2,r2,q2⟩=>hm pins s2 σ H2 x vs v us Q I2 r1 r2 q2
end
end L2
namespace L2
open PySem PySem.Spec PyProof.Rows
noncomputable def MtM (X:Cx) (id:String) (r:V->List V->Hp->VK->Prop):Prop :=
 ∀ (pins:List (Addr × Obj)) (s:Shared) (σ:St) (H:Hp) (x:V) (xs:List V) (v:Value) (us:List Value) (Q:VK),Inv X pins σ H s->ak x v->al xs us->r x xs H Q ->
  wpAny (model X.prog X.w) X.A (call (.builtin id) (v::us)) (EP X pins σ Q) X.xe s
theorem al.one:∀ {x:V}{us:List Value},al [x] us->∃ u,us=[u]/\ak x u
 | _,_,.cons r .nil=>⟨_,rfl,r⟩
theorem al.two:∀ {x y:V}{us:List Value},al [x,y] us->∃ u v,us=[u,v]/\ak x u/\ak y v
 | _,_,_,.cons r (.cons q .nil)=>⟨_,_,rfl,r,q⟩
theorem al.zero:∀ {us:List Value},al [] us->us=[]
 | _,.nil=>rfl
theorem al.dropLast {xs:List V}{us:List Value} (h:al xs us):al xs.dropLast us.dropLast:=by
 induction h with
 | nil=>exact .nil
 | cons r t ih =>
  cases t with
  | nil=>exact .nil
  | cons q t'=>exact .cons r ih
theorem al.eraseIdx:∀ {xs:List V}{us:List Value} (i:Nat),al xs us->al (xs.eraseIdx i) (us.eraseIdx i)
 | _,_,_,.nil=>.nil
 | _,_,0,.cons _ t=>t
 | _,_,i + 1,.cons r t=>.cons r (al.eraseIdx i t)
theorem al.reverse {xs:List V}{us:List Value} (h:al xs us):al xs.reverse us.reverse:=by
 induction h with
 | nil=>exact .nil
 | cons r t ih=>rw [List.reverse_cons,List.reverse_cons];exact al.append ih (.cons r .nil)
section
variable {X:Cx}{pins:List (Addr × Obj)}{σ:St}{H:Hp}{s:Shared}{l b:Addr}{xs ys zs:List V}
theorem Inv.lset {its its':List Value}{n:Nat}{f:Array Value->Array Value}{t':Nat} (I:Inv X pins σ H s) (hH:H l=some (.lst xs))
  (e:s.heap.get? l=some { cls:=.type "list",data:=.seq its.toArray n }) (hf:f its.toArray=its'.toArray) (hv:al ys its') (hz:ys.length <= sizeLine) :
  Inv X pins σ (upd H l (.lst ys)) { s with heap:=s.heap.update l (Obj.mapSeq f),toks:=t' }:=by
 have q:=PySem.IsL.update e f
 rw [hf] at q
 refine I.write (x:=l) (e:=l) (by rw [hH];exact trivial) (.inl rfl) (λb' u hb hu=>(Heap.get?_update_other s.heap (Obj.mapSeq f) (Ne.symm hb)).trans hu) ⟨_,q⟩ ?_
 exact ⟨hz,its',_,hv,q⟩
theorem Inv.lnew {its:List Value}{t':Nat} (I:Inv X pins σ H s) (hv:al ys its) (hz:ys.length <= sizeLine) :
  Inv X pins σ (upd H s.heap.objs.size (.lst ys)) { s with heap:=s.heap.push { cls:=.type "list",data:=.seq its.toArray },toks:=t' } :=
 I.laid (λ_ _ q=>Heap.get?_push_of_some _ q) (Nat.le_refl _) ⟨hz,its,0,hv,Heap.get?_push_size _ rfl⟩
theorem Inv.fresh (I:Inv X pins σ H s):H s.heap.objs.size=none:=I.hok.fresh (Nat.le_refl _)
theorem Inv.lstM (I:Inv X pins σ H s) (hH:H l=some (.lst xs)):xs.length <= sizeLine/\∃ (its:List Value) (n:Nat),al xs its/\xs.length=its.length/\s.heap.get? l=some { cls:=.type "list",data:=.seq its.toArray n }:=by
 obtain ⟨z,its,n,r,e⟩:=I.hok l _ hH
 exact ⟨z,its,n,r,r.length,e⟩
theorem mU {n:Nat} (h:n <= sizeLine):Builtin.List.listTooLong n=false:=by
 unfold Builtin.List.listTooLong
 exact decide_eq_false (by omega)
end
section
variable {X:Cx}
noncomputable def vB:V->List V->Hp->VK->Prop:=λx vs H Q=>∃ l xs y,x=.ref l/\vs=[y]/\H l=some (.lst xs)/\xs.length < sizeLine/\Q .non (upd H l (.lst (xs ++ [y])))
theorem kT:MtM X "list.append" vB:=by
 intro pins s σ H x vs v us Q I rx rv h
 obtain ⟨l,xs,y,rfl,rfl,hH,hz,q⟩:=h
 cases rx
 obtain ⟨u,rfl,ru⟩:=rv.one
 obtain ⟨z,its,n,r,hl,e⟩:=I.lstM hH
 refine call_meets F.slot_list_append ⟨_,e,rfl⟩ F.entry_list_append (F.args_list_append_2 _ _) (PySem.list_append l its.toArray n u (by rw [List.size_toArray];omega)) ⟨e,?_⟩
 refine ⟨.non,_,I.lset (its':=its ++ [u]) hH e (by simp) (r.append (.cons ru .nil)) ?_,rfl,q⟩
 rw [List.length_append,List.length_singleton]
 omega
end
section
variable {prog:Program}{w:World}{A:Around}{E:Value->Shared->Prop}{s:Shared}
end
section
variable {X:Cx}
end
end L2
namespace Att
open PySem PySem.W PySem.Calls PyProof.Rows
theorem i3 {P:Params}{h:Heap}:∀ (ns:List Int) (vs:List Value),WellAll P h vs (ns.map WData.int)->IntsAre vs ns:=by
 intro ns
 induction ns with
 | nil =>
  intro vs w
  rw [List.map_nil] at w
  cases w
  exact .nil
 | cons n ns ih =>
  intro vs w
  rw [List.map_cons] at w
  cases w with
  | cons a b =>
   cases a
   exact .cons _ _ (ih _ b)
theorem qe {l:OpenLaw}{n:Nat} (hn:l.most=some n) {P:Params}{h:Heap}{args:List WData}{vals:List Value}
  (hpre:l.row.toRowW.claim.pre args=true) (hwl:WellAll P h vals args) :
  ∃ a vs ns,vals=[Value.ref a]/\args=[WData.list (ns.map WData.int)]/\h.get? a=some { cls:=.type "list",data:=.seq vs.toArray }/\IntsAre vs ns/\ns.length <= n:=by
 have hsh:WShape.hasAll [] args [.list .int]=true:=(pre_splitW hpre).1
 have hc:l.pre.holds [] { args:=args }=true:=(pre_splitW hpre).2
 obtain ⟨d,r,rfl,h1,h2⟩:=hasAllW_cons hsh
 obtain rfl:=hasAllW_nil h2
 obtain ⟨xs,rfl,h3⟩:=hasW_list h1
 obtain ⟨ns,rfl⟩:=items_int h3
 have hlen:ns.length <= n:=by
  unfold OpenLaw.pre at hc
  have h4:(WTm.not (.lt (.lit (.int (n:Int))) (.len (.arg 0)))).holds [] { args:=[.list (ns.map .int)] }=true:=by
   have h4:=(holds_andW hc).1
   rw [hn] at h4
   exact h4
  have h5:=condW_of h4 (w_not (w_lt w_lit (w_len_list (w_arg rfl))))
  rw [List.length_map] at h5
  refine Nat.le_of_not_lt λq=>?_
  have q':(n:Int) < ((ns.length:Nat):Int):=by omega
  first
   | (rw [decide_eq_true q'] at h5;exact absurd h5 (by decide))
   | (simp at h5;omega)
 cases hwl with
 | cons w1 w2 =>
  cases w2
  cases w1 with
  | list ho hall=>exact ⟨_,_,ns,rfl,rfl,ho,i3 ns _ hall,hlen⟩
theorem qf (l:OpenLaw) (args:List WData):l.row.toRowW.claim.post args (.bool true) args=true :=
 postW_of (r:=l.row.toRowW) (X:=(true == true))
  (show WShape.has [] (.bool true) .bool=true by first|rfl|decide|simp [WShape.has,WShape.arms,WShape.armsAll])
  (show (WTm.eq .res (.lit (.bool true))).value [] { args:=args,res:=some (.bool true),after:=args }=some (.bool (true == true)) from w_eq_bool (w_res rfl) w_lit) rfl
theorem attach_call {l:OpenLaw}{n:Nat}{q:Program}{loose:List Str}{XP:(Str->Option Value)->Heap->Prop}{YP:World->Heap->Prop}{d:DefRec}
  (hn:l.most=some n) (hdf:d.params.defaults=[])
  (call:∀ (w:World) (s₀ s₁:Shared) (mg mb:Str->Option Value) (fa:Addr) (o:Obj) (pm cd doc:Value) (a:Addr) (vs:List Value) (ns:List Int),
   Ground q loose [] XP w s₀ mg mb s₁.heap->YP w s₁.heap ->
   s₁.heap.get? fa=some o->o.data=.func (docDef d.name d.params d.body d.scope pm cd doc)->s₁.heap.CodeRec cd d.name->mg d.name=some (.ref fa) ->
   s₁.heap.get? a=some { cls:=.type "list",data:=.seq vs.toArray }->IntsAre vs ns->ns.length <= n->s₁.gens=#[] ->
   codeAny (model l.prog w) callerA (.call (.ref fa) ⟨[.ref a],[]⟩) (λr s'=>r=.ok (.ret (.bool true))/\OldK s₁.heap s'.heap/\s'.os=s₁.os/\AllBare s'.gens) s₁) :
  WalkO q loose XP YP l.row.toRowW d [] (λf vs=>PySem.call f vs):=by
 intro w s₀ s₁ mg mb G Y fa o pm cd doc dV kV ho hd hcd hD hmg hg args vals as hpre hlay hrd hwl hlo
 obtain rfl:dV=.none:=Dflts.none hD hdf
 obtain rfl:kV=.none:=Dflts.noKw hD
 obtain ⟨a,vs,ns,rfl,rfl,hobj,hints,hlen⟩:=qe hn hpre hwl
 refine enter_call (codeAny_mono (call w s₀ s₁ mg mb fa o pm cd doc a vs ns G Y ho (fd_plain hd) hcd hmg hobj hints hlen hg) λr s' hq=>?_)
 obtain ⟨rfl,h2,h3,h4⟩:=hq
 exact ⟨.inl ⟨.bool true,.bool true,[],rfl,λ_=>rfl,.bool true,qf l _,λ_=>⟨List.Pairwise.nil,λ_ hm=>(nomatch hm)⟩⟩,h2,h3,h4⟩
section
variable {prog:Program}{w:World}{A:Around}{E:Value->Shared->Prop}{s:Shared}{K:Frag}
end
end Att
namespace L2
open PySem PySem.Spec PyProof.Rows
theorem il:∀ {vs:List Value}{ns:List Int},IntsAre vs ns->al (ns.map V.int) vs
 | _,_,.nil=>.nil
 | _,_,.cons n t h=>.cons ⟨t,rfl⟩ (il h)
noncomputable def xT (H:Hp):Prop:=∀ b,H b=none \/ ∃ o xs,H b=some (.frz o (.lst xs))
theorem sa {P:Program}{w:World}{K:PySem.W.Frag}{mg mb:Str->Option Value}{CX:CXT}{k:Nat}{fa a:Addr}{fd:FuncData}{x:Str}{sp:Sp}{s₁:Shared}{vs:List Value}{ns:List Int}
  (KX:K.In s₁.heap) (hns:s₁.heap.Ns mainGlobals mg) (hb:s₁.heap.Ns builtinsNs mb) (hbb:∀ x:Str,x ≠ "__name__"->mb x=bootBuiltins x) (hlim:s₁.heap.NoLimit) (hg:s₁.gens=#[])
  (ha:s₁.heap.get? a=some { cls:=.type "list",data:=.seq vs.toArray }) (hi:IntsAre vs ns) (hl:ns.length <= sizeLine) (hr:dP k callerA)
  (F:∀ base:Heap,K.In base->base.Ns mainGlobals mg->dQ P w K mg base CX k fa fd [x] sp) (hbind:∀ (s:Shared) (u:Value),BindsTo s fd ⟨[u],[]⟩ [(x,u)])
  (hsp:∀ H:Hp,xT H->SqL K H a (ns.map V.int)->sp [.ref a] H (λv _=>v=.bl true) λ_ _ _=>False)
  (hCX:∀ H e s',CX [] H s₁ (λ_ _ _=>False) e s'->False) :
  codeAny (model P w) callerA (.call (.ref fa) ⟨[.ref a],[]⟩) (λr s'=>r=.ok (.ret (.bool true))/\OldK s₁.heap s'.heap/\s'.os=s₁.os/\AllBare s'.gens) s₁:=by
 have rv:=il hi
 have lenV:=hi.length
 have core:∀ H:Hp,xT H->SqL K H a (ns.map V.int)->HOk P w H s₁.heap->(∀ b,H b ≠ none->b=a)->(H a ≠ none->K.lookup a=none) ->
   codeAny (model P w) callerA (.call (.ref fa) ⟨[.ref a],[]⟩) (λr s'=>r=.ok (.ret (.bool true))/\OldK s₁.heap s'.heap/\s'.os=s₁.os/\AllBare s'.gens) s₁:=by
  intro H hO hS hok hA hK
  have base_of:∀ {b:Addr}{o:Obj},s₁.heap.get? b=some o->H b=none->(lI s₁.heap H).get? b=some o:=λe n=>rB e n
  have noA:∀ {b:Addr}{o:Obj}{es:Array DictEntry}{ep:Nat},s₁.heap.get? b=some o->o.data=.dict es ep->H b=none:=λ{b o es ep} e d=>by
   cases q:H b with
   | none=>rfl
   | some u =>
    have e':b=a:=hA b (by rw [q];simp)
    subst e'
    rw [ha] at e;cases e
    have d':Data.seq vs.toArray _=Data.dict es ep:=d
    cases d'
  have nsK:∀ {b:Addr}{m:Str->Option Value},s₁.heap.Ns b m->(lI s₁.heap H).Ns b m:=λ{b m} ⟨o,es,ep,e,d,r⟩=>⟨o,es,ep,base_of e (noA e d),d,r⟩
  have hKb:K.In (lI s₁.heap H):=λb o e=>base_of (KX b o e) (by
   cases q:H b with
   | none=>rfl
   | some u =>
    have e':b=a:=hA b (by rw [q];simp)
    subst e'
    rw [hK (by rw [q];simp)] at e;cases e)
  have hM:Mod K mg (lI s₁.heap H):=⟨hKb,nsK hns,⟨mb,nsK hb,hbb⟩,let ⟨mc,h1,h2⟩:=hlim;⟨mc,nsK h1,h2⟩⟩
  have e0:n4 P w K mg (lI s₁.heap H) callerA [] s₁ H:=⟨rfl,hM,λb o e=>vf e,Nat.le_of_eq (p9 _ _),trivial,λb hb=>absurd (show b ∈ ([]:List Addr) from hb) (by simp),hok,.of_eq hg⟩
  refine codeAny_mono ((F _ hKb (nsK hns)).run callerA [] s₁ H ⟨[.ref a],[]⟩ [.ref a] [.ref a] _ _ hr e0 (hbind s₁ (.ref a)) (.cons rfl .nil) (hsp H hO hS)) λr s' h=>?_
  cases r with
  | error e=>exact (hCX H e s' h).elim
  | ok fl =>
   cases fl with
   | next=>exact False.elim h
   | brk=>exact False.elim h
   | cont=>exact False.elim h
   | ret u =>
    obtain ⟨v,H',os,bare,un,hok',r',q⟩:=h
    have q':v=.bl true:=q
    subst q'
    obtain rfl:u=Value.bool true:=r'
    refine ⟨rfl,OldK.of_keep λb o e=>?_,os,bare⟩
    cases q:H b with
    | none=>exact un.keep b o e q (by intro z;exact absurd (show b ∈ ([]:List Addr) from z) (by simp)) (by simp)
    | some u =>
     rcases hO b with z|⟨ob,xs,z⟩
     ·rw [q] at z;cases z
     ·have z2:=un.frzs b ob _ z
      obtain ⟨e1,_⟩:=hok b _ z
      obtain ⟨e2,_⟩:=hok' b _ z2
      rw [e] at e1;cases e1
      exact e2
 cases hk:K.lookup a with
 | some o =>
  have e:=KX a o hk
  rw [ha] at e
  cases e
  refine core (λ_=>none) (λ_=>.inl rfl) (.inr ⟨_,vs.toArray,_,hk,rfl,rfl,rfl,by rw [List.size_toArray,lenV];exact hl,by simpa using rv⟩) (λb u z=>by have z':(none:Option HO)=some u:=z;cases z') (λb z=>absurd rfl z) λz=>absurd rfl z
 | none =>
  refine core (λb=>if b=a then some (.frz { cls:=.type "list",data:=.seq vs.toArray } (.lst (ns.map V.int))) else none) (λb=>?_) (.inl (.inr ⟨{ cls:=.type "list",data:=.seq vs.toArray },if_pos rfl⟩)) (λb u z=>?_) (λb z=>?_) λ_=>hk
  ·by_cases hb:b=a
   ·exact .inr ⟨_,_,if_pos hb⟩
   ·exact .inl (if_neg hb)
  ·by_cases hb:b=a
   ·have z':=(if_pos hb).symm.trans z
    cases z'
    subst hb
    exact ⟨ha,by rw [List.length_map];exact hl,vs,_,rv,ha⟩
   ·have z':=(if_neg hb).symm.trans z
    cases z'
  ·by_cases hb:b=a
   ·exact hb
   ·exact absurd (if_neg hb) z
end L2
namespace L2
open PySem PySem.Spec PyProof.Rows
theorem vC {l:PySem.W.OpenLaw}{n k:Nat}{q:Program}{loose:List Str}{XP:(Str->Option Value)->Heap->Prop}{YP:World->Heap->Prop}{d:DefRec}{K:Params->PySem.W.Frag}{CX:World->CXT}{sp:World->Sp}{x:Str}
  (hn:l.most=some n) (hn2:n <= sizeLine) (hdf:d.params.defaults=[]) (hr:dP k callerA)
  (hY:∀ (w:World) (h:Heap),YP w h->(K w.params).In h)
  (F:∀ (w:World) (mg:Str->Option Value) (fa:Addr) (h:Heap),(K w.params).In h->h.Ns mainGlobals mg->mg d.name=some (.ref fa) ->
   ∃ fd:FuncData,(∀ (s:Shared) (u:Value),BindsTo s fd ⟨[u],[]⟩ [(x,u)]) /\
    ∀ base:Heap,(K w.params).In base->base.Ns mainGlobals mg->dQ l.prog w (K w.params) mg base (CX w) k fa fd [x] (sp w))
  (hsp:∀ (w:World) (H:Hp) (a:Addr) (ns:List Int),ns.length <= n->xT H->SqL (K w.params) H a (ns.map V.int)->sp w [.ref a] H (λv _=>v=.bl true) λ_ _ _=>False)
  (hCX:∀ (w:World) (H:Hp) (s:Shared) (e:Value) (s':Shared),CX w [] H s (λ_ _ _=>False) e s'->False) :
  PySem.W.WalkO q loose XP YP l.row.toRowW d [] (λf vs=>PySem.call f vs):=by
 refine Att.attach_call hn hdf λw s₀ s₁ mg mb fa o pm cd doc a vs ns G Y ho hd hcd hmg hobj hints hlen hg=>?_
 have KX:=hY w _ Y
 obtain ⟨fd,hb,hF⟩:=F w mg fa _ KX G.T.g hmg
 exact sa KX G.T.g G.T.b G.T.builtins G.T.nolimit hg hobj hints (Nat.le_trans hlen hn2) hr hF hb (λH hO hS=>hsp w H a ns hlen hO hS) λH e s'=>hCX w H s₁ e s'
end L2
namespace L2
open PySem PySem.Spec PyProof.Rows
noncomputable def lR (s:Stmt):Arguments:=match s with
 | .FunctionDef _ a _ _ _ _ _ _ _ _=>a
 | _=>{ posonlyargs:=[],args:=[],vararg:=none,kwonlyargs:=[],kw_defaults:=[],kwarg:=none,defaults:=[] }
noncomputable def dB (s:Stmt):List Stmt:=match s with
 | .FunctionDef _ _ b _ _ _ _ _ _ _=>b
 | _=>[]
noncomputable def aX (s:Stmt):Scope:=match s with
 | .FunctionDef _ _ _ _ _ _ sc _ _ _=>sc
 | _=>{ kind:=.function,names:=[],isGenerator:=false,isCoroutine:=false }
noncomputable abbrev CX0:CXT:=λ_ _ _ _ _ _=>False
noncomputable abbrev E0:XK:=λ_ _ _=>False
theorem mV {X:Cx}:lM CX0 X E0:=λ_ _ _ _ _ _ _ h=>h.elim
section
variable {P:Program}{w:World}{K:PySem.W.Frag}{mg:Str->Option Value}{base:Heap}
end
section
variable {X:Cx}
theorem pv (i:Nat) {x:Str}{pos:Pos} (hN:X.N[i]?=some x:=by rfl) (hv:Vis X.env.scope x:=by first|exact Or.inl rfl|exact Or.inr (Or.inl rfl)|exact Or.inr (Or.inr rfl)) (hd:(x == ("__debug__":Str))=false:=by decide)
  (hcd:(x == ("__classdict__":Str))=false:=by decide):PE X (.Name x pos) (xu i):=rC hN hv hd hcd
end
noncomputable def ag (H H':Hp):Prop:=∀ b o,H b=some o->H' b=some o
theorem ag.refl (H:Hp):ag H H:=λ_ _ h=>h
theorem ag.trans {H H1 H2:Hp} (a:ag H H1) (b:ag H1 H2):ag H H2:=λc o h=>b c o (a c o h)
theorem ag.free {H H':Hp} (e:ag H H') {l:Addr} (h:H' l=Option.none):H l=Option.none:=by
 cases q:H l with
 | none=>rfl
 | some o =>
  rw [e l o q] at h
  cases h
theorem ag.seq {K:PySem.W.Frag}{H H':Hp}{a:Addr}{xs:List V} (e:ag H H') (h:SqL K H a xs):SqL K H' a xs:=by
 rcases h with (h|⟨o,h⟩)|h
 ·exact .inl (.inl (e _ _ h))
 ·exact .inl (.inr ⟨o,e _ _ h⟩)
 ·exact .inr h
end L2
namespace L2
open PySem PySem.Spec PyProof.Rows
section
variable {κ:Type} [DecidableEq κ]
noncomputable def d7 (kvs:List (κ × V)) (k:κ):Option V:=(kvs.find? λkv=>decide (kv.1=k)).map (·.2)
noncomputable def dw (kvs:List (κ × V)) (k:κ) (v:V):List (κ × V) :=
 if (kvs.any λkv=>decide (kv.1=k))=true then kvs.map (λkv=>if kv.1=k then (kv.1,v) else kv) else kvs ++ [(k,v)]
noncomputable def wW (kvs:List (κ × V)) (k:κ):List (κ × V):=kvs.filter λkv=>decide (kv.1 ≠ k)
theorem gF {p:κ × V}{r:List (κ × V)}{k:κ} (e:p.1=k):d7 (p::r) k=some p.2:=by simp [d7,List.find?_cons,e]
theorem gG {p:κ × V}{r:List (κ × V)}{k:κ} (e:¬ p.1=k):d7 (p::r) k=d7 r k:=by simp [d7,List.find?_cons,e]
theorem ju (k:κ):∀ kvs:List (κ × V),(kvs.any λkv=>decide (kv.1=k))=(d7 kvs k).isSome
 | []=>rfl
 | p::r=>by
  rw [List.any_cons]
  by_cases e:p.1=k
  ·simp only [gF e,decide_eq_true e,Bool.true_or,Option.isSome_some]
  ·rw [gG e,decide_eq_false e,Bool.false_or];exact ju k r
theorem fo (kvs:List (κ × V)) (k:κ) (v:V):(dw kvs k v).length <= kvs.length + 1:=by
 unfold dw
 split
 ·rw [List.length_map];omega
 ·rw [List.length_append,List.length_cons,List.length_nil];omega
theorem gD.isSome_eq {o:Option V}{u:Option Value} (r:gD o u):o.isSome=u.isSome:=by
 cases o with
 | none=>cases u with
  | none=>rfl
  | some _=>exact (show False from r).elim
 | some _=>cases u with
  | none=>exact (show False from r).elim
  | some _=>rfl
theorem gD.getD {o:Option V}{u:Option Value}{d:V}{d':Value} (r:gD o u) (rd:ak d d'):ak (o.getD d) (u.getD d'):=by
 cases o with
 | none=>cases u with
  | none=>exact rd
  | some _=>exact (show False from r).elim
 | some _=>cases u with
  | none=>exact (show False from r).elim
  | some _=>exact r
theorem KV.val {kvs:List (κ × V)}{vs:List (κ × Value)} (r:KV kvs vs) (k:κ):gD (d7 kvs k) (valueAt vs k):=by
 unfold KV at r
 induction r with
 | nil=>exact True.intro
 | @cons p q ps qs h t ih =>
  obtain ⟨h1,h2⟩:=h
  by_cases e:p.1=k
  ·have e':q.1=k:=h1.symm.trans e
   have b:valueAt (q::qs) k=some q.2:=by simp [valueAt,List.find?_cons,e']
   rw [gF e,b];exact h2
  ·have e':¬ q.1=k:=λz=>e (h1.trans z)
   have b:valueAt (q::qs) k=valueAt qs k:=by simp [valueAt,List.find?_cons,e']
   rw [gG e,b];exact ih
theorem KV.any {kvs:List (κ × V)}{vs:List (κ × Value)} (r:KV kvs vs) (k:κ):(kvs.any λkv=>decide (kv.1=k))=vs.any λkv=>decide (kv.1=k):=by
 unfold KV at r
 induction r with
 | nil=>rfl
 | cons h t ih=>rw [List.any_cons,List.any_cons,ih,h.1]
theorem KV.repl {kvs:List (κ × V)}{vs:List (κ × Value)} (r:KV kvs vs) (k:κ) {y:V}{u:Value} (ry:ak y u) :
  KV (kvs.map λkv=>if kv.1=k then (kv.1,y) else kv) (vs.map λkv=>if kv.1=k then (kv.1,u) else kv):=by
 unfold KV at r ⊢
 induction r with
 | nil=>exact .nil
 | @cons p q ps qs h t ih =>
  rw [List.map_cons,List.map_cons]
  refine .cons ?_ ih
  obtain ⟨h1,h2⟩:=h
  by_cases e:p.1=k
  ·rw [if_pos e,if_pos (h1.symm.trans e)];exact ⟨h1,ry⟩
  ·rw [if_neg e,if_neg (λz=>e (h1.trans z))];exact ⟨h1,h2⟩
theorem KV.put {kvs:List (κ × V)}{vs:List (κ × Value)} (r:KV kvs vs) (k:κ) {y:V}{u:Value} (ry:ak y u):KV (dw kvs k y) (stored vs k u):=by
 unfold dw stored
 rw [r.any k]
 by_cases e:(vs.any λkv=>decide (kv.1=k))=true
 ·rw [if_pos e,if_pos e];exact r.repl k ry
 ·rw [if_neg e,if_neg e];exact Paired.snoc r ⟨rfl,ry⟩
theorem KV.drop {kvs:List (κ × V)}{vs:List (κ × Value)} (r:KV kvs vs) (k:κ):KV (wW kvs k) (without vs k):=by
 unfold KV at r ⊢
 unfold wW without
 induction r with
 | nil=>exact .nil
 | @cons p q ps qs h t ih =>
  obtain ⟨h1,h2⟩:=h
  rw [List.filter_cons,List.filter_cons]
  by_cases e:p.1=k
  ·have a:¬ decide (p.1 ≠ k)=true:=by simp [e]
   have b:¬ decide (q.1 ≠ k)=true:=by simp [h1.symm.trans e]
   rw [if_neg a,if_neg b];exact ih
  ·have e':¬ q.1=k:=λz=>e (h1.trans z)
   have a:decide (p.1 ≠ k)=true:=by simp [e]
   have b:decide (q.1 ≠ k)=true:=by simp [e']
   rw [if_pos a,if_pos b];exact .cons ⟨h1,h2⟩ ih
theorem KV.length {kvs:List (κ × V)}{vs:List (κ × Value)} (r:KV kvs vs):kvs.length=vs.length:=Paired.length r
end
theorem kU {P:Program}{w:World}{k:Key}{u:Value} (r:ak (kV k) u):(bq P w).is k u=true:=by
 cases k with
 | inl i=>obtain ⟨t,e⟩:=(show ∃ t,u=Value.int i t from r);subst e;exact mK P w i t
 | inr x=>obtain ⟨t,e⟩:=(show ∃ t,u=Value.str x t from r);subst e;exact mL P w x t
theorem kW {P:Program}{w:World}:∀ {ks:List Key}{us:List Value},al (ks.map kV) us->ItemsAre (bq P w) ks us
 | [],_,r=>by rw [List.map_nil] at r;cases r;exact .nil
 | k::ks,_,r=>by
  rw [List.map_cons] at r
  cases r with
  | cons h t=>exact .cons (kU h) (kW t)
noncomputable abbrev KT (H:Hp):List (List Key × V)->List (List Key × Addr × Value)->Prop:=Paired λp q=>p.1=q.1/\H q.2.1=some (.tup (p.1.map kV))/\ak p.2 q.2.2
theorem KT.val {H:Hp}{kvs:List (List Key × V)}{xs:List (List Key × Addr × Value)} (r:KT H kvs xs) (k:List Key):gD (d7 kvs k) ((atKey xs k).map (·.2)):=by
 induction r with
 | nil=>exact True.intro
 | @cons p q ps qs h t ih =>
  obtain ⟨h1,_,h2⟩:=h
  by_cases e:p.1=k
  ·have e':q.1=k:=h1.symm.trans e
   have b:atKey (q::qs) k=some q.2:=by simp [atKey,List.find?_cons,e']
   rw [gF e,b];exact h2
  ·have e':¬ q.1=k:=λz=>e (h1.trans z)
   have b:atKey (q::qs) k=atKey qs k:=by simp [atKey,List.find?_cons,e']
   rw [gG e,b];exact ih
theorem KT.repl {H:Hp}{kvs:List (List Key × V)}{xs:List (List Key × Addr × Value)} (r:KT H kvs xs) (k:List Key) {y:V}{u:Value} (ry:ak y u) :
  KT H (kvs.map λkv=>if kv.1=k then (kv.1,y) else kv) (xs.map (putAt k u)):=by
 induction r with
 | nil=>exact .nil
 | @cons p q ps qs h t ih =>
  rw [List.map_cons,List.map_cons]
  refine .cons ?_ ih
  obtain ⟨h1,h2,h3⟩:=h
  unfold putAt
  by_cases e:p.1=k
  ·rw [if_pos e,if_pos (h1.symm.trans e)];exact ⟨h1,h2,ry⟩
  ·rw [if_neg e,if_neg (λz=>e (h1.trans z))];exact ⟨h1,h2,h3⟩
theorem KT.put {H:Hp}{kvs:List (List Key × V)}{xs:List (List Key × Addr × Value)} (r:KT H kvs xs) (k:List Key) {b:Addr}{y:V}{u:Value} (hb:H b=some (.tup (k.map kV))) (ry:ak y u) :
  KT H (dw kvs k y) (storedH xs k b u):=by
 have e:(kvs.any λkv=>decide (kv.1=k))=(atKey xs k).isSome:=by
  rw [ju,(r.val k).isSome_eq,Option.isSome_map]
 unfold dw storedH
 rw [e]
 by_cases q:(atKey xs k).isSome=true
 ·rw [if_pos q,if_pos q];exact r.repl k ry
 ·rw [if_neg q,if_neg q];exact Paired.snoc r ⟨rfl,hb,ry⟩
theorem KT.keeps {H H':Hp}{kvs:List (List Key × V)}{xs:List (List Key × Addr × Value)} (r:KT H kvs xs) (ht:∀ b ys,H b=some (.tup ys)->H' b=some (.tup ys)):KT H' kvs xs :=
 Paired.mapP r λ_ _ z=>⟨z.1,ht _ _ z.2.1,z.2.2⟩
section
variable {P:Program}{w:World}{H:Hp}{h:Heap}{a:Addr}
theorem sd {u:HO} (ok:HOk P w H h) (e:Rd H a u):aM P w H h a u:=e.ok ok
theorem jv {kvs:List (Key × V)} (ok:HOk P w H h) (e:Rd H a (.dK kvs)):kvs.length <= sizeLine/\(a == sysModules)=false/\∃ vs,KV kvs vs/\h.DictOf (bq P w) a vs :=
 show aM P w H h a (.dK kvs) from sd ok e
theorem An {kvs:List (Key × V)} (ok:HOk P w H h) (e:H a=some (.dK kvs)):kvs.length <= sizeLine/\(a == sysModules)=false/\∃ vs,KV kvs vs/\h.DictOf (bq P w) a vs:=jv ok (.inl e)
theorem im {ks:List Key} (ok:HOk P w H h) (e:H a=some (.tup (ks.map kV))):(tupleKind (bq P w)).is h ks a:=by
 obtain ⟨_,its,r,o,h1,h2,n,h3⟩:=(show aM P w H h a (.tup (ks.map kV)) from ok a _ e)
 exact ⟨o,its.toArray,n,h1,h2,h3,by simpa using kW r⟩
theorem kX {kvs:List (List Key × V)} (ok:HOk P w H h) (e:Rd H a (.dT kvs)):kvs.length <= sizeLine/\(a == sysModules)=false /\
  ∃ xs,KT H kvs xs/\h.DictOfH (tupleKind (bq P w)) a xs:=by
 obtain ⟨z,y,xs,r,o,es,ep,h1,h2,h3,h4,h5⟩:=(show aM P w H h a (.dT kvs) from sd ok e)
 refine ⟨z,y,xs,r,o,es,ep,h1,h2,h3,h4,λx hx=>?_,h5⟩
 have all:∀ {l:List (List Key × V)}{m:List (List Key × Addr × Value)},KT H l m->∀ x ∈ m,(tupleKind (bq P w)).is h x.1 x.2.1:=by
  intro l m q
  induction q with
  | nil=>intro x hx;exact nomatch hx
  | @cons p q ps qs hq t ih =>
   intro x hx
   rcases List.mem_cons.mp hx with e|hx
   ·subst e
    exact im ok (by rw [<- hq.1];exact hq.2.1)
   ·exact ih x hx
 exact all r x hx
theorem Ao {kvs:List (List Key × V)} (ok:HOk P w H h) (e:H a=some (.dT kvs)):kvs.length <= sizeLine/\(a == sysModules)=false /\
  ∃ xs,KT H kvs xs/\h.DictOfH (tupleKind (bq P w)) a xs:=kX ok (.inl e)
end
noncomputable def lS (H:Hp) (a:Addr) (y:V) (r:Option V):Prop :=
 (∃ kvs k,Rd H a (.dK kvs)/\y=kV k/\r=d7 kvs k) \/ ∃ kvs k b,Rd H a (.dT kvs)/\y=.ref b/\H b=some (.tup (k.map kV))/\r=d7 kvs k
noncomputable def kx (H:Hp) (a:Addr) (y v:V) (H':Hp):Prop :=
 (∃ kvs k,H a=some (.dK kvs)/\y=kV k/\kvs.length < sizeLine/\H'=upd H a (.dK (dw kvs k v))) \/
 ∃ kvs k b,H a=some (.dT kvs)/\y=.ref b/\H b=some (.tup (k.map kV))/\kvs.length < sizeLine/\H'=upd H a (.dT (dw kvs k v))
theorem lS.k {H:Hp}{a:Addr}{kvs:List (Key × V)}{k:Key} (e:H a=some (.dK kvs)):lS H a (kV k) (d7 kvs k):=.inl ⟨kvs,k,.inl e,rfl,rfl⟩
theorem lS.t {H:Hp}{a b:Addr}{kvs:List (List Key × V)}{k:List Key} (e:H a=some (.dT kvs)) (eb:H b=some (.tup (k.map kV))):lS H a (.ref b) (d7 kvs k):=.inr ⟨kvs,k,b,.inl e,rfl,eb,rfl⟩
theorem kx.k {H:Hp}{a:Addr}{kvs:List (Key × V)}{k:Key}{v:V} (e:H a=some (.dK kvs)) (hl:kvs.length < sizeLine):kx H a (kV k) v (upd H a (.dK (dw kvs k v))):=.inl ⟨kvs,k,e,rfl,hl,rfl⟩
theorem kx.t {H:Hp}{a b:Addr}{kvs:List (List Key × V)}{k:List Key}{v:V} (e:H a=some (.dT kvs)) (eb:H b=some (.tup (k.map kV))) (hl:kvs.length < sizeLine) :
  kx H a (.ref b) v (upd H a (.dT (dw kvs k v))):=.inr ⟨kvs,k,b,e,rfl,eb,hl,rfl⟩
section
variable {X:Cx}{pins:List (Addr × Obj)}{σ:St}{H:Hp}{s:Shared}{a:Addr}{y v:V}{u r:Value}{o:Option V}{A:Around}{E:Value->Shared->Prop}
theorem Inv.big (I:Inv X pins σ H s):sysModules < s.heap.objs.size:=by
 have h:mainGlobals < s.heap.objs.size:=(I.mod.glob.keeps I.bk).lt
 exact Nat.lt_trans (by decide) h
theorem qg {Q:Value->Shared->Prop} (hu:A.units + 1 < cLine) (I:Inv X pins σ H s) (g:lS H a y (some v)) (ry:ak y u) (h:∀ w' s',Inv X pins σ H s'->ak v w'->Q w' s') :
  wpAny (model X.prog X.w) A (getItem (.ref a) u) Q E s:=by
 rcases g with ⟨kvs,k,e,ey,l⟩|⟨kvs,k,b,e,ey,eb,l⟩
 ·subst ey
  obtain ⟨z,hd,vs,rel,dd⟩:=jv I.hok e
  obtain ⟨w',hw,rw'⟩:=gD.some_of (v:=v) (o:=valueAt vs k) (by rw [l];exact rel.val k)
  exact wpAny_getItem_of (kU ry) dd.mapOf hw (h w' _ (I.tok _) rw')
 ·subst ey
  cases (show u=Value.ref b from ry)
  obtain ⟨z,hd,xs,rel,dd⟩:=kX I.hok e
  obtain ⟨w',hw,rw'⟩:=gD.some_of (v:=v) (o:=(atKey xs k).map (·.2)) (by rw [l];exact rel.val k)
  obtain ⟨p,hp,hp2⟩:=Option.map_eq_some_iff.mp hw
  refine wpAny_getItem_heap (tupleKind_room_in1 hu) (im I.hok eb) dd hp ?_
  rw [hp2]
  exact h w' _ (I.tok _) rw'
theorem BV {Q:Value->Shared->Prop} (hu:A.units + 1 < cLine) (I:Inv X pins σ H s) (g:lS H a y o) (ry:ak y u) (h:∀ s',Inv X pins σ H s'->Q (.bool o.isSome) s') :
  wpAny (model X.prog X.w) A (compareOp .In u (.ref a)) Q E s:=by
 rcases g with ⟨kvs,k,e,ey,l⟩|⟨kvs,k,b,e,ey,eb,l⟩
 ·subst ey
  obtain ⟨z,hd,vs,rel,dd⟩:=jv I.hok e
  refine wpAny_in_of (kU ry) hd dd.mapOf ?_
  rw [<- (rel.val k).isSome_eq,<- l]
  exact h _ (I.tok _)
 ·subst ey
  cases (show u=Value.ref b from ry)
  obtain ⟨z,hd,xs,rel,dd⟩:=kX I.hok e
  refine wpAny_in_heap (tupleKind_room_in1 hu) (im I.hok eb) hd dd ?_
  have q:=(rel.val k).isSome_eq
  rw [Option.isSome_map] at q
  rw [<- q,<- l]
  exact h _ (I.tok _)
theorem vD {Q:Value->Shared->Prop} (hu:A.units + 1 < cLine) (I:Inv X pins σ H s) (g:lS H a y o) (ry:ak y u) (h:∀ s',Inv X pins σ H s'->Q (.bool (!o.isSome)) s') :
  wpAny (model X.prog X.w) A (compareOp .NotIn u (.ref a)) Q E s:=by
 rcases g with ⟨kvs,k,e,ey,l⟩|⟨kvs,k,b,e,ey,eb,l⟩
 ·subst ey
  obtain ⟨z,hd,vs,rel,dd⟩:=jv I.hok e
  refine wpAny_notIn_of (kU ry) hd dd.mapOf ?_
  rw [<- (rel.val k).isSome_eq,<- l]
  exact h _ (I.tok _)
 ·subst ey
  cases (show u=Value.ref b from ry)
  obtain ⟨z,hd,xs,rel,dd⟩:=kX I.hok e
  refine wpAny_notIn_heap (tupleKind_room_in1 hu) (im I.hok eb) hd dd ?_
  have q:=(rel.val k).isSome_eq
  rw [Option.isSome_map] at q
  rw [<- q,<- l]
  exact h _ (I.tok _)
theorem lT {h':Heap}{t':Nat}{ob:HO} (I:Inv X pins σ H s) (mu:Mut (H a)) (hs:Heap.SameBut a s.heap h') (he:∃ q,h'.get? a=some q) (new:aM X.prog X.w (upd H a ob) h' a ob) :
  Inv X pins σ (upd H a ob) { s with heap:=h',toks:=t' } :=
 I.write (x:=a) (e:=a) mu (.inl rfl) (λb q hb z=>(hs.2 b hb).trans z) he new
theorem xU {P:Program}{w:World}{H':Hp}{h':Heap}{kvs:List (Key × V)}{vs:List (Key × Value)} (z:kvs.length <= sizeLine) (hd:(a == sysModules)=false) (rel:KV kvs vs) (dd:h'.DictOf (bq P w) a vs) :
  aM P w H' h' a (.dK kvs):=⟨z,hd,vs,rel,dd⟩
theorem qh {H':Hp}{Q:Unit->Shared->Prop} (hu:A.units + 1 < cLine) (I:Inv X pins σ H s) (g:kx H a y v H') (ry:ak y u) (rv:ak v r) (h:∀ s',Inv X pins σ H' s'->Q () s') :
  wpAny (model X.prog X.w) A (setItem (.ref a) u r) Q E s:=by
 rcases g with ⟨kvs,k,e,ey,l,eH⟩|⟨kvs,k,b,e,ey,eb,l,eH⟩
 ·subst ey eH
  obtain ⟨z,hd,vs,rel,dd⟩:=An I.hok e
  have hz:vs.length <= sizeLine:=by rw [<- rel.length];exact z
  have hl:(dw kvs k v).length <= sizeLine:=by have:=fo kvs k v;omega
  refine wpAny_setItem_pairs (hsz:=hz) (kU ry) dd λh' dd' hs=>h _ ?_
  have he:∃ q,h'.get? a=some q:=let ⟨q,_,_,hq,_⟩:=dd';⟨q,hq⟩
  exact lT I (by rw [e];exact True.intro) hs he (xU hl hd (rel.put k rv) dd')
 ·subst ey eH
  cases (show u=Value.ref b from ry)
  obtain ⟨z,hd,xs,rel,dd⟩:=Ao I.hok e
  have hz:xs.length <= sizeLine:=by rw [<- Paired.length rel];exact z
  have hl:(dw kvs k v).length <= sizeLine:=by have:=fo kvs k v;omega
  refine wpAny_setItem_heap (hsz:=hz) (tupleKind_room_in1 hu) (im I.hok eb) dd λh' dd' hs=>h _ ?_
  obtain ⟨q,es,ep,hq,h2,h3,h4,_,h5⟩:=dd'
  refine lT I (by rw [e];exact True.intro) hs ⟨q,hq⟩ ⟨hl,hd,_,(rel.put k eb rv).keeps λc ys ec=>?_,q,es,ep,hq,h2,h3,h4,h5⟩
  rw [aH (wS ec e (λz=>nomatch z))]
  exact ec
end
section
variable {X:Cx}{pins:List (Addr × Obj)}{σ:St}{H:Hp}{s:Shared}{a:Addr}{kvs:List (Key × V)}{k:Key}{u:Value}{A:Around}{E:Value->Shared->Prop}
end
noncomputable def Ap (i:Expr):Prop:=∀ ov iv,subscripted i false ov iv=operate [ov,iv] (getItem ov iv)
theorem vE {prog:Program}{w:World}{A:Around}{E:Value->Shared->Prop}{s:Shared}{env:Env}{value slice:Expr}{pos:Pos}{T id:String}{Q:Value->Shared->Prop}
  (hl:typeLookup (.type T) "__getitem__"=pure (some (.builtin id))) (hs:Ap slice)
  (h:wpAny (model prog w) A (eval value env) (λo s₁=>wpAny (model prog w) A (eval slice env) (λi s₂=>s₂.TypeIs o T/\wpAny (model prog w) A (getItem o i) Q E s₂) E s₁) E s) :
  wpAny (model prog w) A (eval (.Subscript value slice pos) env) Q E s:=by
 refine Subscript_ (wpAny_mono h (λo s₁ h₁=>wpAny_mono h₁ (λi s₂ h₂=>?_) λ_ _ x=>x) λ_ _ x=>x)
 obtain ⟨hT,h₂⟩:=h₂
 unfold subscriptTail
 refine wpAny_bind ?_
 rw [getitemInPython_of_ne hT.not_modules]
 refine wpAny_bind (wpAny_specialOf hT hl ?_)
 have fin:wpAny (model prog w) A (subscripted slice false o i) (λr s₃=>wpAny (model prog w) A (letTemporaryGo value o r >>= λ_=>pure r) Q E s₃) E s₂:=by
  rw [hs o i]
  exact wpAny_operating (wpAny_mono h₂ (λr s₃ h₃=>wpAny_bind (wpAny_letTemporaryGo (wpAny_pure h₃))) λ_ _ x=>x)
 first
  | exact wpAny_pure (wpAny_bind fin)
  | exact wpAny_bind (wpAny_pure (wpAny_bind fin))
  | exact wpAny_bind fin
section
variable {X:Cx}{o i e value:Expr}{pos pos' tpos:Pos}{td ty tv:TE}
end
theorem se {P:Program}{w:World}{H:Hp} (h:Heap) (hb:sysModules < h.objs.size):aM P w H (h.push { cls:=.type "dict",data:=.dict #[] }) h.objs.size (.dK []) :=
 ⟨Nat.zero_le _,beq_eq_false_iff_ne.mpr (Ne.symm (Nat.ne_of_lt hb)),[],.nil,Heap.DictOf.new h⟩
theorem sf {P:Program}{w:World}{H:Hp} (h:Heap) (hb:sysModules < h.objs.size):aM P w H (h.push { cls:=.type "dict",data:=.dict #[] }) h.objs.size (.dT []) :=
 ⟨Nat.zero_le _,beq_eq_false_iff_ne.mpr (Ne.symm (Nat.ne_of_lt hb)),[],.nil,_,#[],0,Heap.get?_push_size _ rfl,⟨rfl,rfl,rfl⟩,rfl,rfl,List.nodup_nil⟩
noncomputable def xV:TE:=λ_ H Q=>∀ p,H p=none->Q (.ref p) (upd H p (.dK []))
noncomputable def xW:TE:=λ_ H Q=>∀ p,H p=none->Q (.ref p) (upd H p (.dT []))
section
variable {X:Cx}{pos:Pos}
theorem sg:PE X (.Dict [] [] pos) xV:=λpins s σ H Q I h =>
 wpAny_Dict_empty ⟨.ref s.heap.objs.size,_,I.laid (a:=s.heap.objs.size) (o:=.dK []) (t':=s.toks) (λ_ _ q=>Heap.get?_push_of_some _ q) (Nat.le_refl _) (se s.heap I.big),rfl,h _ (I.hok.fresh (Nat.le_refl _))⟩
theorem si:PE X (.Dict [] [] pos) xW:=λpins s σ H Q I h =>
 wpAny_Dict_empty ⟨.ref s.heap.objs.size,_,I.laid (a:=s.heap.objs.size) (o:=.dT []) (t':=s.toks) (λ_ _ q=>Heap.get?_push_of_some _ q) (Nat.le_refl _) (sf s.heap I.big),rfl,h _ (I.hok.fresh (Nat.le_refl _))⟩
end
structure M2 (X:Cx) (o:Expr) (m:Str) (apos:Pos) (e f:Expr) (cpos:Pos):Prop where
 base:attributeBase o m X.env (eval o X.env)=eval o X.env
 few:((backTo cpos (starEach [e,f] X.env)).all (λx=>!x.1)&&(backToKw cpos (keywordEach [] X.env)).all (λx=>x.1.isSome)
 &&decide (([e,f]:List Expr).length + ([]:List Keyword).length + (if ([]:List Keyword).isEmpty then 0 else 1) < 30))=true
 line:(apos.endLine == cpos.line)=true
 trees:backTo cpos (starEach [e,f] X.env)=[(false,eval e X.env),(false,eval f X.env)]
noncomputable def IsD (H:Hp) (a:Addr):Prop:=(∃ kvs,Rd H a (.dK kvs)) \/ ∃ kvs,Rd H a (.dT kvs)
theorem xX {X:Cx}{pins:List (Addr × Obj)}{σ:St}{H:Hp}{s:Shared}{a:Addr} (I:Inv X pins σ H s) (d:IsD H a) :
  s.TypeIs (.ref a) "dict"/\(∀ b,Value.ref a=.ref b->∃ ob,s.heap.get? b=some ob/\ob.dict=none)/\(a == sysModules)=false:=by
 rcases d with ⟨kvs,e⟩|⟨kvs,e⟩
 ·obtain ⟨_,hd,vs,_,dd⟩:=jv I.hok e
  refine ⟨dd.typeIs,λb q=>?_,hd⟩
  cases q
  obtain ⟨ob,_,_,h1,h2,_⟩:=dd
  exact ⟨ob,h1,h2.2.1⟩
 ·obtain ⟨_,hd,xs,_,dd⟩:=kX I.hok e
  refine ⟨dd.typeIs,λb q=>?_,hd⟩
  cases q
  obtain ⟨ob,_,_,h1,h2,_⟩:=dd
  exact ⟨ob,h1,h2.2.1⟩
section
variable {X:Cx}{pins:List (Addr × Obj)}{σ:St}{H:Hp}{s:Shared}{a:Addr}{y d:V}{u r:Value}{o:Option V}{A:Around}{E:Value->Shared->Prop}
theorem xY {Q:Value->Shared->Prop} (hu:A.units + 1 < cLine) (I:Inv X pins σ H s) (g:lS H a y o) (ry:ak y u) (rd:ak d r) (h:∀ w' s',Inv X pins σ H s'->ak (o.getD d) w'->Q w' s') :
  wpAny (model X.prog X.w) A (call (.builtin "dict.get") [.ref a,u,r]) Q E s:=by
 rcases g with ⟨kvs,k,e,ey,l⟩|⟨kvs,k,b,e,ey,eb,l⟩
 ·subst ey
  obtain ⟨z,hd,vs,rel,dd⟩:=jv I.hok e
  refine call_meetsIn PySem.F.slot_dict_get dd.typeIs PySem.F.entry_dict_get (PySem.F.args_dict_get_3 _ _ _) (meets_dict_get_default (bq X.prog X.w) a (kU ry) hd r) ⟨_,dd.mapOf,h _ _ (I.tok _) ?_⟩
  rw [l]
  exact (rel.val k).getD rd
 ·subst ey
  cases (show u=Value.ref b from ry)
  obtain ⟨z,hd,xs,rel,dd⟩:=kX I.hok e
  refine call_meetsIn PySem.F.slot_dict_get dd.typeIs PySem.F.entry_dict_get (PySem.F.args_dict_get_3 _ _ _) (meetsH_dict_get_default (tupleKind (bq X.prog X.w)) a b hd r) ⟨tupleKind_room_in1 hu,k,xs,im I.hok eb,dd,h _ _ (I.tok _) ?_⟩
  rw [l]
  exact (rel.val k).getD rd
end
section
variable {X:Cx}{o e f:Expr}{apos cpos:Pos}{td ty tx:TE}
end
section
variable {X:Cx}{pins:List (Addr × Obj)}{σ:St}{H:Hp}{s:Shared}{a:Addr}{kvs:List (Key × V)}{A:Around}{E:Value->Shared->Prop}
end
section
variable {X:Cx}{pins:List (Addr × Obj)}{σ:St}{H:Hp}{s:Shared}{a:Addr}{y:V}{u:Value}{A:Around}{E:Value->Shared->Prop}
end
end L2
namespace L2
open PySem PySem.Spec PyProof.Rows
section
variable {P:Program}{w:World}{H:Hp}{h:Heap}
theorem vF (ok:HOk P w H h) {R:List (List Int)}{bs:List Addr} (x:lH H R bs):Nk.Strips P w h R bs:=by
 induction x with
 | nil=>exact .nil
 | @cons k b R bs h1 _ ih =>
  refine .cons ?_ ih
  obtain ⟨_,its,r,o,ho,hc,n,hd⟩:=(show aM P w H h b (.tup (k.map V.int)) from ok b _ h1)
  refine ⟨o,its.toArray,n,ho,hc,hd,?_⟩
  have gen:∀ {k:List Int}{vs:List Value},al (k.map V.int) vs->ItemsAre (intKind P w) k vs:=by
   intro k
   induction k with
   | nil=>intro vs r;cases r;exact .nil
   | cons i k ih =>
    intro vs r
    cases r with
    | cons r1 r2 =>
     obtain ⟨t,rfl⟩:=r1
     exact .cons (intKind_is _ _ _ _) (ih r2)
  simpa using gen r
theorem o4:∀ {bs:List Addr}{vs:List Value},al (bs.map V.ref) vs->vs=bs.map Value.ref
 | [],_,r=>by cases r;rfl
 | b::bs,_,r=>by
  cases r with
  | cons r1 r2 =>
   rw [o4 r2,List.map_cons]
   congr 1
theorem ip (ok:HOk P w H h) {q:Nk.NK}{a:Addr} (x:NAt H q a):Nk.NKey P w h q a:=by
 obtain ⟨r,bs,h1,h2,h3⟩:=x
 obtain ⟨_,its,rv,o,ho,hc,n,hd⟩:=(show aM P w H h a (.tup [.ref r,.str q.2]) from ok a _ h1)
 obtain ⟨_,its',rv',o',ho',hc',n',hd'⟩:=(show aM P w H h r (.tup (bs.map V.ref)) from ok r _ h2)
 cases rv with
 | cons r1 r2 =>
  cases r2 with
  | cons r2 r3 =>
   cases r3
   obtain ⟨t,rfl⟩:=r2
   have e1:_=Value.ref r:=r1
   subst e1
   exact ⟨o,_,n,r,t,ho,hc,hd,rfl,o',its'.toArray,n',bs,ho',hc',hd',by rw [o4 rv'],vF ok h3⟩
end
end L2
namespace L2
open PySem PySem.Spec PyProof.Rows
noncomputable abbrev KN (H:Hp):List (Nk.NK × V)->List (Nk.NK × Addr × Value)->Prop:=Paired λp q=>p.1=q.1/\NAt H p.1 q.2.1/\ak p.2 q.2.2
theorem KN.val {H:Hp}{kvs:List (Nk.NK × V)}{xs:List (Nk.NK × Addr × Value)} (r:KN H kvs xs) (k:Nk.NK):gD (d7 kvs k) ((atKey xs k).map (·.2)):=by
 induction r with
 | nil=>exact True.intro
 | @cons p q ps qs h _ ih =>
  by_cases e:p.1=k
  ·rw [gF e,show atKey (q::qs) k=some q.2 from by simp [atKey,List.find?_cons,h.1.symm.trans e]]
   exact h.2.2
  ·have n:¬ q.1=k:=λz=>e (h.1.trans z)
   rw [gG e,show atKey (q::qs) k=atKey qs k from by simp [atKey,List.find?_cons,n]]
   exact ih
theorem KN.put {H:Hp}{kvs:List (Nk.NK × V)}{xs:List (Nk.NK × Addr × Value)} (r:KN H kvs xs) (k:Nk.NK) {b:Addr}{y:V}{u:Value} (hb:NAt H k b) (ry:ak y u):KN H (dw kvs k y) (storedH xs k b u):=by
 have e:(kvs.any λkv=>decide (kv.1=k))=(atKey xs k).isSome:=by rw [ju,(r.val k).isSome_eq,Option.isSome_map]
 unfold dw storedH
 rw [e]
 by_cases q:(atKey xs k).isSome=true
 ·rw [if_pos q,if_pos q]
  clear e q
  induction r with
  | nil=>exact .nil
  | @cons p q ps qs h _ ih =>
   refine .cons ?_ ih
   have n:(p.1=k)=(q.1=k):=by rw [h.1]
   by_cases e:p.1=k
   ·have e2:q.1=k:=n ▸ e
    simp only [putAt,if_pos e,if_pos e2]
    exact ⟨h.1,h.2.1,ry⟩
   ·have e2:¬ q.1=k:=n ▸ e
    simp only [putAt,e,e2,if_false]
    exact h
 ·rw [if_neg q,if_neg q];exact Paired.snoc r ⟨rfl,hb,ry⟩
section
variable {P:Program}{w:World}{H:Hp}{h:Heap}{a:Addr}
theorem kY {kvs:List (Nk.NK × V)} (ok:HOk P w H h) (e:Rd H a (.dN kvs)):kvs.length <= sizeLine/\(a == sysModules)=false/\∃ xs,KN H kvs xs/\h.DictOfH (Nk.nkKind P w) a xs:=by
 obtain ⟨z,y,xs,r,o,es,ep,ho,hx,hd,he,hn⟩:=(show aM P w H h a (.dN kvs) from sd ok e)
 refine ⟨z,y,xs,r,o,es,ep,ho,hx,hd,he,λx hx=>?_,hn⟩
 clear he hn z e
 induction r with
 | nil=>cases hx
 | cons h1 _ ih =>
  rcases List.mem_cons.mp hx with rfl|hx
  ·rw [<- h1.1];exact ip ok h1.2.1
  ·exact ih hx
end
noncomputable def sj (H:Hp) (a:Addr) (y:V) (r:Option V):Prop:=∃ kvs q b,Rd H a (.dN kvs)/\y=.ref b/\NAt H q b/\r=d7 kvs q
noncomputable def Aq (H:Hp) (a:Addr) (y v:V) (H':Hp):Prop:=∃ kvs q b,H a=some (.dN kvs)/\y=.ref b/\NAt H q b/\kvs.length < sizeLine/\H'=upd H a (.dN (dw kvs q v))
section
variable {X:Cx}{pins:List (Addr × Obj)}{σ:St}{H:Hp}{s:Shared}{a:Addr}{y v:V}{u r:Value}{o:Option V}{A:Around}{E:Value->Shared->Prop}
theorem qi {Q:Value->Shared->Prop} (hu:A.units + 3 < cLine) (I:Inv X pins σ H s) (g:sj H a y (some v)) (ry:ak y u) (h:∀ w' s',Inv X pins σ H s'->ak v w'->Q w' s'):wpAny (model X.prog X.w) A (getItem (.ref a) u) Q E s:=by
 obtain ⟨kvs,q,b,e,rfl,eb,l⟩:=g
 cases (show u=Value.ref b from ry)
 obtain ⟨z,hd,xs,rel,dd⟩:=kY I.hok e
 obtain ⟨w',hw,rw'⟩:=gD.some_of (v:=v) (o:=(atKey xs q).map (·.2)) (by rw [l];exact rel.val q)
 obtain ⟨p,hp,hp2⟩:=Option.map_eq_some_iff.mp hw
 refine wpAny_getItem_heap (knd:=Nk.nkKind X.prog X.w) (show A.in1.units + 2 < cLine from hu) (ip I.hok eb) dd hp ?_
 rw [hp2]
 exact h w' _ (I.tok _) rw'
theorem vG {Q:Value->Shared->Prop} (hu:A.units + 3 < cLine) (I:Inv X pins σ H s) (g:sj H a y o) (ry:ak y u) (h:∀ s',Inv X pins σ H s'->Q (.bool (!o.isSome)) s'):wpAny (model X.prog X.w) A (compareOp .NotIn u (.ref a)) Q E s:=by
 obtain ⟨kvs,q,b,e,rfl,eb,l⟩:=g
 cases (show u=Value.ref b from ry)
 obtain ⟨z,hd,xs,rel,dd⟩:=kY I.hok e
 refine wpAny_notIn_heap (knd:=Nk.nkKind X.prog X.w) (show A.in1.units + 2 < cLine from hu) (ip I.hok eb) hd dd ?_
 have q:=(rel.val q).isSome_eq
 rw [Option.isSome_map] at q
 rw [<- q,<- l]
 exact h _ (I.tok _)
theorem qj {H':Hp}{Q:Unit->Shared->Prop} (hu:A.units + 3 < cLine) (I:Inv X pins σ H s) (g:Aq H a y v H') (ry:ak y u) (rv:ak v r) (h:∀ s',Inv X pins σ H' s'->Q () s'):wpAny (model X.prog X.w) A (setItem (.ref a) u r) Q E s:=by
 obtain ⟨kvs,q,b,e,rfl,eb,l,rfl⟩:=g
 cases (show u=Value.ref b from ry)
 obtain ⟨z,hd,xs,rel,dd⟩:=kY I.hok (.inl e)
 have hz:xs.length <= sizeLine:=by rw [<- Paired.length rel];exact z
 have hl:(dw kvs q v).length <= sizeLine:=by have:=fo kvs q v;omega
 refine wpAny_setItem_heap (knd:=Nk.nkKind X.prog X.w) (hsz:=hz) (show A.in1.units + 2 < cLine from hu) (ip I.hok eb) dd λh' dd' hs=>h _ ?_
 obtain ⟨c,es,ep,hq,h2,h3,h4,_,h5⟩:=dd'
 refine lT I (by rw [e];exact True.intro) hs ⟨c,hq⟩ ⟨hl,hd,_,Paired.mapP (rel.put q eb rv) λ_ _ z=>⟨z.1,z.2.1.mono λb xs eb=>?_,z.2.2⟩,c,es,ep,hq,h2,h3,h4,h5⟩
 rw [aH (wS eb e (λz=>nomatch z))]
 exact eb
end
noncomputable def xZ:TE:=λ_ H Q=>∀ p,H p=none->Q (.ref p) (upd H p (.dN []))
section
variable {X:Cx}{pos:Pos}
theorem mW:PE X (.Dict [] [] pos) xZ:=λpins s σ H Q I h =>
 wpAny_Dict_empty ⟨.ref s.heap.objs.size,_,I.laid (a:=s.heap.objs.size) (o:=.dN []) (t':=s.toks) (λ_ _ q=>Heap.get?_push_of_some _ q) (Nat.le_refl _)
  ⟨Nat.zero_le _,beq_eq_false_iff_ne.mpr (Ne.symm (Nat.ne_of_lt I.big)),[],.nil,_,#[],0,Heap.get?_push_size _ rfl,⟨rfl,rfl,rfl⟩,rfl,rfl,List.nodup_nil⟩,rfl,h _ (I.hok.fresh (Nat.le_refl _))⟩
end
end L2
namespace L2
open PySem PySem.Spec PyProof.Rows
noncomputable def n9 (H:Hp) (a:Addr) (y:V) (r:Option V):Prop:=lS H a y r \/ sj H a y r
noncomputable def x0 (H:Hp) (a:Addr) (y v:V) (H':Hp):Prop:=kx H a y v H' \/ Aq H a y v H'
noncomputable def IsX (H:Hp) (a:Addr):Prop:=IsD H a \/ ∃ kvs,Rd H a (.dN kvs)
section
variable {X:Cx}{pins:List (Addr × Obj)}{σ:St}{H:Hp}{s:Shared}{a:Addr}{y v d:V}{u r:Value}{o:Option V}{A:Around}{E:Value->Shared->Prop}
theorem n_ (I:Inv X pins σ H s) (d:IsX H a):s.TypeIs (.ref a) "dict"/\(∀ b,Value.ref a=.ref b->∃ ob,s.heap.get? b=some ob/\ob.dict=none)/\(a == sysModules)=false:=by
 rcases d with d|⟨kvs,e⟩
 ·exact xX I d
 ·obtain ⟨_,hd,xs,_,dd⟩:=kY I.hok e
  refine ⟨dd.typeIs,λb q=>?_,hd⟩
  cases q
  obtain ⟨ob,_,_,h1,h2,_⟩:=dd
  exact ⟨ob,h1,h2.2.1⟩
theorem vH (g:n9 H a y o):IsX H a:=by
 rcases g with (⟨kvs,k,e,_⟩|⟨kvs,k,b,e,_⟩)|⟨kvs,q,b,e,_⟩
 ·exact .inl (.inl ⟨_,e⟩)
 ·exact .inl (.inr ⟨_,e⟩)
 ·exact .inr ⟨_,e⟩
theorem BW {Q:Value->Shared->Prop} (hu:A.units + 3 < cLine) (I:Inv X pins σ H s) (g:sj H a y o) (ry:ak y u) (h:∀ s',Inv X pins σ H s'->Q (.bool o.isSome) s'):wpAny (model X.prog X.w) A (compareOp .In u (.ref a)) Q E s:=by
 obtain ⟨kvs,q,b,e,rfl,eb,l⟩:=g
 cases (show u=Value.ref b from ry)
 obtain ⟨z,hd,xs,rel,dd⟩:=kY I.hok e
 refine wpAny_in_heap (knd:=Nk.nkKind X.prog X.w) (show A.in1.units + 2 < cLine from hu) (ip I.hok eb) hd dd ?_
 have q:=(rel.val q).isSome_eq
 rw [Option.isSome_map] at q
 rw [<- q,<- l]
 exact h _ (I.tok _)
theorem x2 {Q:Value->Shared->Prop} (hu:A.units + 3 < cLine) (I:Inv X pins σ H s) (g:sj H a y o) (ry:ak y u) (rd:ak d r) (h:∀ w' s',Inv X pins σ H s'->ak (o.getD d) w'->Q w' s') :
  wpAny (model X.prog X.w) A (call (.builtin "dict.get") [.ref a,u,r]) Q E s:=by
 obtain ⟨kvs,q,b,e,rfl,eb,l⟩:=g
 cases (show u=Value.ref b from ry)
 obtain ⟨z,hd,xs,rel,dd⟩:=kY I.hok e
 refine call_meetsIn PySem.F.slot_dict_get dd.typeIs PySem.F.entry_dict_get (PySem.F.args_dict_get_3 _ _ _) (meetsH_dict_get_default (Nk.nkKind X.prog X.w) a b hd r) ⟨show A.in1.units + 2 < cLine from hu,q,xs,ip I.hok eb,dd,h _ _ (I.tok _) ?_⟩
 rw [l]
 exact (rel.val q).getD rd
end
noncomputable def Ar (td ty:TE):TE:=λσ H Q=>td σ H λx H1=>ty σ H1 λy H2=>∃ a v,x=.ref a/\n9 H2 a y (some v)/\Q v H2
noncomputable def BX (ty td:TE):TE:=λσ H Q=>ty σ H λy H1=>td σ H1 λx H2=>∃ a o,x=.ref a/\n9 H2 a y o/\Q (.bl o.isSome) H2
noncomputable def vI (ty td:TE):TE:=λσ H Q=>ty σ H λy H1=>td σ H1 λx H2=>∃ a o,x=.ref a/\n9 H2 a y o/\Q (.bl (!o.isSome)) H2
noncomputable def As (td ty tv:TE):TS:=λD σ H=>tv σ H λv H1=>td σ H1 λx H2=>ty σ H2 λy H3=>∃ a H4,x=.ref a/\x0 H3 a y v H4/\D.nx σ H4
noncomputable def x3 (td ty tx:TE):TE:=λσ H Q=>td σ H λx H1=>∃ a,x=.ref a/\IsX H1 a/\ty σ H1 λy H2=>tx σ H2 λz H3=>∃ o,n9 H3 a y o/\Q (o.getD z) H3
section
variable {X:Cx}{o i e f value:Expr}{pos pos' apos cpos:Pos}{td ty tv tx:TE}
theorem vJ (hu:X.A.units + 3 < cLine) (ho:PE X o td) (hi:PE X i ty) (hs:Ap i):PE X (.Subscript o i pos) (Ar td ty):=by
 intro pins s σ H Q I h
 refine vE PySem.F.slot_dict_getitem.lookup hs (thn (ho pins s σ H _ I h) λu s1 ⟨x,H1,I1,rx,q1⟩=>thn (hi pins s1 σ H1 _ I1 q1) λiv s2 ⟨y,H2,I2,ry,a,v,ex,g,q2⟩=>?_)
 subst ex
 obtain rfl:u=Value.ref a:=rx
 refine ⟨(n_ I2 (vH g)).1,?_⟩
 rcases g with g|g
 ·exact qg (by omega) I2 g ry λw' s3 I3 rw'=>⟨v,H2,I3,rw',q2⟩
 ·exact qi hu I2 g ry λw' s3 I3 rw'=>⟨v,H2,I3,rw',q2⟩
theorem sk (hu:X.A.units + 3 < cLine) (hi:PE X i ty) (ho:PE X o td):PC X .In i o (BX ty td):=by
 intro pins s σ H Q I h
 refine thn (hi pins s σ H _ I h) λiv s1 ⟨y,H1,I1,ry,q1⟩=>thn (ho pins s1 σ H1 _ I1 q1) λu s2 ⟨x,H2,I2,rx,a,ov,ex,g,q2⟩=>?_
 subst ex
 obtain rfl:u=Value.ref a:=rx
 rcases g with g|g
 ·exact BV (by omega) I2 g ry λs3 I3=>⟨.bl ov.isSome,H2,I3,rfl,q2⟩
 ·exact BW hu I2 g ry λs3 I3=>⟨.bl ov.isSome,H2,I3,rfl,q2⟩
theorem kZ (hu:X.A.units + 3 < cLine) (hi:PE X i ty) (ho:PE X o td):PC X .NotIn i o (vI ty td):=by
 intro pins s σ H Q I h
 refine thn (hi pins s σ H _ I h) λiv s1 ⟨y,H1,I1,ry,q1⟩=>thn (ho pins s1 σ H1 _ I1 q1) λu s2 ⟨x,H2,I2,rx,a,ov,ex,g,q2⟩=>?_
 subst ex
 obtain rfl:u=Value.ref a:=rx
 rcases g with g|g
 ·exact vD (by omega) I2 g ry λs3 I3=>⟨.bl (!ov.isSome),H2,I3,rfl,q2⟩
 ·exact vG hu I2 g ry λs3 I3=>⟨.bl (!ov.isSome),H2,I3,rfl,q2⟩
theorem vK (hu:X.A.units + 3 < cLine) (ho:PE X o td) (hi:PE X i ty) (hv:PE X value tv) (hs:swapsWith value (some (.Subscript o i pos')) pos.line X.env=pure false):PS X (.Assign [.Subscript o i pos'] value pos) (As td ty tv):=by
 intro pins s σ H D I h
 refine wpAny_Assign_Subscript (thn (hv pins s σ H _ I h) λr s1 ⟨v,H1,I1,rv,q1⟩=>thn (ho pins s1 σ H1 _ I1 q1) λu s2 ⟨x,H2,I2,rx,q2⟩=>thn (hi pins s2 σ H2 _ I2 q2) λiv s3 ⟨y,H3,I3,ry,a,H4,ex,g,q3⟩=>?_) hs
 subst ex
 obtain rfl:u=Value.ref a:=rx
 rcases g with g|g
 ·exact qh (by omega) I3 g ry rv λs4 I4=>⟨σ,H4,I4,q3⟩
 ·exact qj hu I3 g ry rv λs4 I4=>⟨σ,H4,I4,q3⟩
theorem sm (hu:X.A.units + 3 < cLine) (ho:PE X o td) (he:PE X e ty) (hf:PE X f tx) (m:M2 X o "get" apos e f cpos):PE X (.Call (.Attribute o "get" apos) [e,f] [] cpos) (x3 td ty tx):=by
 intro pins s σ H Q I h
 refine wpAny_Call_method m.base m.few m.line PySem.F.plainAttrs_dict PySem.F.slot_dict_get PySem.F.type_dict_get (thn (ho pins s σ H _ I h) λu s1 ⟨x,H1,I1,rx,a,ex,d,q1⟩=>?_)
 subst ex
 obtain rfl:u=Value.ref a:=rx
 obtain ⟨t1,t2,_⟩:=n_ I1 d
 refine ⟨t1,t2,?_⟩
 rw [m.trees]
 refine Calls.callWith_builtin rfl (Calls.evalArgs_plain (Calls.spliced_cons (thn (he pins s1 σ H1 _ I1 q1) λiv s2 ⟨y,H2,I2,ry,q2⟩ =>
  Calls.spliced_cons (thn (hf pins s2 σ H2 _ I2 q2) λfv s3 ⟨z,H3,I3,rz,ov,g,q3⟩=>Calls.spliced_nil ?_))))
 rcases g with g|g
 ·exact xY (by omega) I3 g ry rz λw' s4 I4 rw'=>⟨_,H3,I4,rw',q3⟩
 ·exact x2 hu I3 g ry rz λw' s4 I4 rw'=>⟨_,H3,I4,rw',q3⟩
end
end L2
namespace L2.Srt
open PySem PySem.W PyProof.Rows
section
variable {O:KeyOrd}{key:Nat->O.α}{N:Nat}{cmp:Nat->Nat->(Bool->Shared->Prop)->Shared->Prop}{s:Shared}
noncomputable def kk (key:Nat->O.α) (p:Array Nat) (i:Nat):O.α:=key (p.getD i 0)
noncomputable def dC (key:Nat->O.α) (p:Array Nat) (k:Nat):Prop:=∀ i j,i <= j->j < k->O.kle (kk key p i) (kk key p j)
noncomputable def mX (key:Nat->O.α) (p:Array Nat) (k:Nat):Prop:=∀ i j,i <= j->j < k->O.kle (kk key p j) (kk key p i)
noncomputable def PB (N:Nat) (p:Array Nat):Prop:=p.Perm (List.range N).toArray
theorem PB.size {p:Array Nat} (h:PB N p):p.size=N:=by have:=h.size_eq;simpa using this
theorem PB.lt {p:Array Nat} (h:PB N p) {i:Nat} (hi:i < N):p.getD i 0 < N:=by
 have hs:i < p.size:=by rw [h.size];exact hi
 have hm:p[i] ∈ (List.range N):=by
  have e:=(Array.perm_iff_toList_perm.mp h).mem_iff (a:=p[i])
  simpa using e.mp (by simp)
 have e:p.getD i 0=p[i]:=by simp [Array.getD,hs]
 rw [e];exact List.mem_range.mp hm
theorem PB.rev {p:Array Nat} (h:PB N p) (i j:Nat):PB N (kas_rev p i j):=(mirror_perm _ _ _ _).trans h
theorem PB.bub {p:Array Nat} (h:PB N p) (i j:Nat):PB N (bubble p i j):=(bubble_perm _ _ _).trans h
theorem fq {p q:Array Nat}{i j:Nat} (h:p[i]?=q[j]?):kk key p i=kk key q j:=by
 unfold kk;rw [Array.getD_eq_getD_getElem?,Array.getD_eq_getD_getElem?,h]
theorem k4 {p:Array Nat}{src d:Nat} (hs:src < p.size) (hd:d <= src) (k:Nat) :
  kk key (bubble p src d) k=if k=src - d then kk key p src else if src - d < k/\k <= src then kk key p (k - 1) else kk key p k:=by
 have e:=getElem?_bubble hs d hd k
 by_cases h1:k=src - d
 ·rw [if_pos h1] at e ⊢;exact fq e
 ·rw [if_neg h1] at e ⊢
  by_cases h2:src - d < k/\k <= src
  ·rw [if_pos h2] at e ⊢;exact fq e
  ·rw [if_neg h2] at e ⊢;exact fq e
theorem oe {p:Array Nat}{i j:Nat} (hj:j <= p.size) (k:Nat) :
  kk key (kas_rev p i j) k=if i <= k/\k < j then kk key p (i + j - 1 - k) else kk key p k:=by
 have e:=getElem?_mirror_all (i:=i) hj k
 unfold kas_rev
 by_cases h1:i <= k/\k < j
 ·rw [if_pos h1] at e ⊢;exact fq e
 ·rw [if_neg h1] at e ⊢;exact fq e
theorem cf {p:Array Nat}{i j:Nat} (hj:j <= p.size) (heq:∀ k,i <= k->k < j->kk key p k=kk key p (j - 1)) (k:Nat) :
  kk key (kas_rev p i j) k=kk key p k:=by
 rw [oe hj]
 split
 ·rw [heq _ (by omega) (by omega),heq k (by omega) (by omega)]
 ·rfl
variable (hc:∀ a b C,a < N->b < N->C (O.blt (key a) (key b)) s->cmp a b C s)
include hc
theorem mY {α:Type}{p:Array Nat}{i j:Nat}{k:Bool->KasT α}{Q:α->Shared->Prop} (hp:PB N p) (hi:i < N) (hj:j < N)
  (h:(k (O.blt (kk key p i) (kk key p j))).kasWp cmp Q s):(KasT.ask (p.getD i 0) (p.getD j 0) k).kasWp cmp Q s :=
 hc _ _ _ (hp.lt hi) (hp.lt hj) h
theorem sn {p:Array Nat}{nrem:Nat}{Q:Nat->Shared->Prop} (hp:PB N p) (hn:nrem <= N):∀ (f n:Nat),n + f=nrem->1 <= n->dC key p n ->
  (∀ m,n <= m->m <= nrem->dC key p m->(m=nrem \/ O.klt (kk key p m) (kk key p (m - 1)))->Q m s)->(kas_asc p f n).kasWp cmp Q s
 | 0,n,e,h1,hs,h=>h n (Nat.le_refl _) (by omega) hs (.inl (by omega))
 | f + 1,n,e,h1,hs,h=>by
  show (KasT.ask (p.getD n 0) (p.getD (n - 1) 0) λc=>if c=true then .ret n else kas_asc p f (n + 1)).kasWp cmp Q s
  refine mY hc hp (by omega) (by omega) ?_
  cases hless:O.blt (kk key p n) (kk key p (n - 1)) with
  | true =>
   rw [if_pos rfl]
   exact h n (Nat.le_refl _) (by omega) hs (.inr hless)
  | false =>
   rw [if_neg (by simp)]
   refine sn hp hn f (n + 1) (by omega) (by omega) (λi j hij hj=>?_) λm a b c d=>h m (by omega) b c d
   by_cases hjx:j < n
   ·exact hs i j hij hjx
   ·have hj':j=n:=by omega
    subst hj'
    by_cases hi':i=j
    ·subst hi';exact KeyOrd.kle_refl _
    ·exact KeyOrd.kle_trans (hs i (j - 1) (by omega) (by omega)) hless
theorem o5 {p:Array Nat}{n nrem:Nat}{Q:Nat × Array Nat->Shared->Prop} (hp:PB N p) (hn:nrem <= N) (h1:1 <= n) (hnn:n <= nrem) (hs:mX key p n)
  (h:∀ m p',PB N p'->1 <= m->m <= nrem->dC key p' m->Q (m,p') s):(kas_tail3 n nrem p).kasWp cmp Q s:=by
 unfold kas_tail3
 rw [KasT.kasWp_bind]
 have hz:n <= p.size:=by rw [hp.size];omega
 refine sn hc (hp.rev 0 n) hn (nrem - n) n (by omega) h1 (λi j hij hj=>?_) λm a b c _=>h m _ (hp.rev 0 n) (by omega) b c
 rw [oe hz,oe hz,if_pos (by omega),if_pos (by omega)]
 exact hs _ _ (by omega) (by omega)
theorem lU {nrem:Nat}{Q:Array Nat × Nat × Nat->Shared->Prop} (hn:nrem <= N):∀ (f:Nat) (p:Array Nat) (n q:Nat),n + f=nrem->PB N p->mX key p n->q + 1 <= n ->
  (∀ i,n - (q + 1) <= i->i < n->kk key p i=kk key p (n - 1)) ->
  (∀ p' m q',n <= m->m <= nrem->PB N p'->mX key p' m->q' + 1 <= m->(∀ i,m - (q' + 1) <= i->i < m->kk key p' i=kk key p' (m - 1))->Q (p',m,q') s) ->
  (kas_desc f p n q).kasWp cmp Q s
 | 0,p,n,q,e,hp,hs,hq,he,h=>h p n q (Nat.le_refl _) (by omega) hp hs hq he
 | f + 1,p,n,q,e,hp,hs,hq,he,h=>by
  show (KasT.ask (p.getD n 0) (p.getD (n - 1) 0) λc =>
   if c=true then (if q > 0 then kas_desc f (kas_rev p (n - (q + 1)) n) (n + 1) 0 else kas_desc f p (n + 1) 0)
   else .ask (p.getD (n - 1) 0) (p.getD n 0) λd=>if d=true then .ret (p,n,q) else kas_desc f p (n + 1) (q + 1)).kasWp cmp Q s
  have hz:n <= p.size:=by rw [hp.size];omega
  refine mY hc hp (by omega) (by omega) ?_
  cases hless:O.blt (kk key p n) (kk key p (n - 1)) with
  | true =>
   rw [if_pos rfl]
   have step1:∀ p':Array Nat,(∀ k,kk key p' k=kk key p k)->mX key p' (n + 1):=by
    intro p' hk i j hij hj
    rw [hk,hk]
    by_cases hjx:j < n
    ·exact hs i j hij hjx
    ·have hj':j=n:=by omega
     subst hj'
     by_cases hi':i=j
     ·subst hi';exact KeyOrd.kle_refl _
     ·exact KeyOrd.kle_trans (KeyOrd.kle_of_klt hless) (hs i (j - 1) (by omega) (by omega))
   by_cases hneq:q > 0
   ·rw [if_pos hneq]
    exact lU hn f _ (n + 1) 0 (by omega) (hp.rev _ _) (step1 _ (cf hz he)) (by omega) (λi a b=>by congr 1;omega)
     λp' m q' a=>h p' m q' (by omega)
   ·rw [if_neg hneq]
    exact lU hn f p (n + 1) 0 (by omega) hp (step1 _ λ_=>rfl) (by omega) (λi a b=>by congr 1;omega) λp' m q' a=>h p' m q' (by omega)
  | false =>
   rw [if_neg (by simp)]
   refine mY hc hp (by omega) (by omega) ?_
   cases hlarger:O.blt (kk key p (n - 1)) (kk key p n) with
   | true =>
    rw [if_pos rfl]
    exact h p n q (Nat.le_refl _) (by omega) hp hs hq he
   | false =>
    rw [if_neg (by simp)]
    have heqx:kk key p n=kk key p (n - 1):=KeyOrd.kle_antisymm hlarger hless
    refine lU hn f p (n + 1) (q + 1) (by omega) hp (λi j hij hj=>?_) (by omega) (λi a b=>?_) λp' m q' a=>h p' m q' (by omega)
    ·by_cases hjx:j < n
     ·exact hs i j hij hjx
     ·have hj':j=n:=by omega
      subst hj'
      by_cases hi':i=j
      ·subst hi';exact KeyOrd.kle_refl _
      ·rw [heqx];exact hs i (j - 1) (by omega) (by omega)
    ·rw [show n + 1 - 1=n by omega]
     by_cases hix:i=n
     ·subst hix;rfl
     ·rw [heqx];exact he i (by omega) (by omega)
theorem jw {p:Array Nat}{n nrem:Nat}{Q:Nat × Array Nat->Shared->Prop} (hp:PB N p) (hn:nrem <= N) (hnn:n + 1 <= nrem) (hs:mX key p (n + 1))
  (h:∀ m p',PB N p'->1 <= m->m <= nrem->dC key p' m->Q (m,p') s):(kas_descPart n nrem p).kasWp cmp Q s:=by
 unfold kas_descPart
 rw [KasT.kasWp_bind]
 refine lU hc hn (nrem - (n + 1)) p (n + 1) 0 (by omega) hp hs (by omega) (λi a b=>by congr 1;omega) λp' m q' hm1 hm2 hp' hs' hq he=>?_
 dsimp only
 have hz:m <= p'.size:=by rw [hp'.size];omega
 by_cases hneq:q' > 0
 ·rw [if_pos hneq]
  refine o5 hc (hp'.rev _ _) hn (by omega) hm2 (λi j hij hj=>?_) h
  rw [cf hz he,cf hz he]
  exact hs' i j hij hj
 ·rw [if_neg hneq]
  exact o5 hc hp' hn (by omega) hm2 hs' h
theorem vL {p:Array Nat}{nrem:Nat}{Q:Nat × Array Nat->Shared->Prop} (hp:PB N p) (hn:nrem <= N) (h1:1 <= nrem)
  (h:∀ m p',PB N p'->1 <= m->m <= nrem->dC key p' m->Q (m,p') s):(kas_count nrem p).kasWp cmp Q s:=by
 unfold kas_count
 rw [KasT.kasWp_bind]
 refine sn hc hp hn (nrem - 1) 1 (by omega) (Nat.le_refl _) (λi j hij hj=>by have:i=j:=(by omega);subst this;exact KeyOrd.kle_refl _) λn hn1 hn2 hsn hor=>?_
 by_cases hnn:n=nrem
 ·rw [if_pos (by simpa using hnn)]
  exact h n p hp hn1 hn2 hsn
 ·rw [if_neg (by simpa using hnn)]
  have hlt:O.klt (kk key p n) (kk key p (n - 1)):=hor.resolve_left hnn
  by_cases hgt:n > 1
  ·rw [if_pos hgt]
   refine mY hc hp (by omega) (by omega) ?_
   cases hrose:O.blt (kk key p 0) (kk key p (n - 1)) with
   | true =>
    rw [if_pos rfl]
    exact h n p hp hn1 hn2 hsn
   | false =>
    rw [if_neg (by simp)]
    have hsz:n <= p.size:=by rw [hp.size];omega
    have hall:∀ k,0 <= k->k < n->kk key p k=kk key p (n - 1):=by
     intro k _ hk
     have a1:=hsn 0 k (by omega) hk
     have a2:=hsn k (n - 1) (by omega) (by omega)
     exact KeyOrd.kle_antisymm a2 (KeyOrd.kle_trans hrose a1)
    refine jw hc (hp.rev _ _) hn (by omega) (λi j hij hj=>?_) h
    rw [cf hsz hall,cf hsz hall]
    by_cases hjn:j < n
    ·rw [hall i (by omega) (by omega),hall j (by omega) hjn];exact KeyOrd.kle_refl _
    ·have hj':j=n:=by omega
     subst hj'
     by_cases hi':i=j
     ·subst hi';exact KeyOrd.kle_refl _
     ·rw [hall i (by omega) (by omega)];exact KeyOrd.kle_of_klt hlt
  ·rw [if_neg hgt]
   have hn1':n=1:=by omega
   subst hn1'
   refine jw hc hp hn (by omega) (λi j hij hj=>?_) h
   by_cases hi':i=j
   ·subst hi';exact KeyOrd.kle_refl _
   ·have hi0:i=0:=by omega
    have hj1:j=1:=by omega
    subst hi0;subst hj1
    exact KeyOrd.kle_of_klt hlt
theorem lV {p:Array Nat}{k:Nat}{Q:Nat->Shared->Prop} (hp:PB N p) (hk:k < N) (hs:dC key p k):∀ (f l r:Nat),r - l <= f->l <= r->r <= k ->
  (∀ i,i < l->O.kle (kk key p i) (kk key p k))->(∀ i,r <= i->i < k->O.klt (kk key p k) (kk key p i)) ->
  (∀ l,l <= k->(∀ i,i < l->O.kle (kk key p i) (kk key p k))->(∀ i,l <= i->i < k->O.klt (kk key p k) (kk key p i))->Q l s)->(kas_place p k f l r).kasWp cmp Q s
 | 0,l,r,hf,hlr,hrk,hlo,hhi,h=>by
  have:l=r:=by omega
  subst this
  exact h l hrk hlo hhi
 | f + 1,l,r,hf,hlr,hrk,hlo,hhi,h=>by
  show (if l >= r then KasT.ret l else .ask (p.getD k 0) (p.getD ((l + r) / 2) 0) λc=>if c=true then kas_place p k f l ((l + r) / 2) else kas_place p k f ((l + r) / 2 + 1) r).kasWp cmp Q s
  by_cases hge:l >= r
  ·rw [if_pos hge]
   have:l=r:=by omega
   subst this
   exact h l hrk hlo hhi
  ·rw [if_neg hge]
   refine mY hc hp hk (by omega) ?_
   cases hless:O.blt (kk key p k) (kk key p ((l + r) / 2)) with
   | true =>
    rw [if_pos rfl]
    exact lV hp hk hs f l ((l + r) / 2) (by omega) (by omega) (by omega) hlo (λi a b=>KeyOrd.klt_of_klt_of_kle hless (hs _ _ a b)) h
   | false =>
    rw [if_neg (by simp)]
    exact lV hp hk hs f ((l + r) / 2 + 1) r (by omega) (by omega) (by omega) (λi a=>KeyOrd.kle_trans (hs i ((l + r) / 2) (by omega) (by omega)) (show O.kle _ _ from hless)) hhi h
theorem wX {Q:Array Nat->Shared->Prop}:∀ (f:Nat) (p:Array Nat) (k:Nat),k + f=N->PB N p->dC key p k->(∀ p',PB N p'->dC key p' N->Q p' s)->(kas_bin f p k).kasWp cmp Q s
 | 0,p,k,e,hp,hs,h=>by
  have:k=N:=by omega
  subst this
  exact h p hp hs
 | f + 1,p,k,e,hp,hs,h=>by
  show ((kas_place p k k 0 k).bind λl=>kas_bin f (bubble p k (k - l)) (k + 1)).kasWp cmp Q s
  rw [KasT.kasWp_bind]
  refine lV hc hp (by omega) hs k 0 k (by omega) (by omega) (by omega) (λi a=>by omega) (λi a b=>by omega) λl hl hlo hhi=>?_
  refine wX f _ (k + 1) (by omega) (hp.bub _ _) (λi j hij hj=>?_) h
  have hks:k < p.size:=by rw [hp.size];omega
  rw [k4 hks (by omega),k4 hks (by omega),show k - (k - l)=l by omega]
  repeat' split
  all_goals first
   | (exfalso;omega)
   | exact KeyOrd.kle_refl _
   | exact hlo _ (by omega)
   | exact KeyOrd.kle_of_klt (hhi _ (by omega) (by omega))
   | exact hs _ _ (by omega) (by omega)
theorem x4 {Q:Array Nat->Shared->Prop} (h1:1 <= N) (h:∀ p,PB N p->dC key p N->Q p s):(kas_sort N).kasWp cmp Q s:=by
 unfold kas_sort
 rw [KasT.kasWp_bind]
 refine vL hc (Array.Perm.refl _) (Nat.le_refl _) h1 λm p' hp' hm1 hm2 hs'=>?_
 dsimp only
 by_cases hlt:m < N
 ·rw [if_pos hlt,show max m 1=m by omega]
  exact wX hc _ _ _ (by omega) hp' hs' h
 ·rw [if_neg hlt]
  have:m=N:=by omega
  subst this
  exact h p' hp' hs'
end
end L2.Srt
namespace L2.Srt
open PySem PyProof.Rows
theorem jx:∀ a:List Int,HT.lexLt a a=false
 | []=>rfl
 | x::r=>by rw [HT.lexLt_cons,if_pos rfl];exact jx r
theorem iq:∀ a b c:List Int,HT.lexLt a b=true->HT.lexLt b c=true->HT.lexLt a c=true
 | [],[],_,h,_=>by cases h
 | [],_::_,[],_,h=>by cases h
 | [],_::_,_::_,_,_=>rfl
 | _::_,[],_,h,_=>by cases h
 | _::_,_::_,[],_,h=>by cases h
 | x::a,y::b,z::c,h1,h2=>by
  rw [HT.lexLt_cons] at h1 h2 ⊢
  by_cases e1:x=y
  ·rw [if_pos e1] at h1
   by_cases e2:y=z
   ·rw [if_pos e2] at h2
    rw [if_pos (e1.trans e2)]
    exact iq a b c h1 h2
   ·rw [if_neg e2] at h2
    rw [if_neg (λq=>e2 (e1.symm.trans q)),e1]
    exact h2
  ·rw [if_neg e1] at h1
   have q1:=of_decide_eq_true h1
   by_cases e2:y=z
   ·rw [if_neg (λq=>e1 (q.trans e2.symm)),<- e2]
    exact h1
   ·rw [if_neg e2] at h2
    have q2:=of_decide_eq_true h2
    rw [if_neg (by omega)]
    exact decide_eq_true (by omega)
theorem ir:∀ a b:List Int,HT.lexLt a b=false->HT.lexLt b a=false->a=b
 | [],[],_,_=>rfl
 | [],_::_,h,_=>by cases h
 | _::_,[],_,h=>by cases h
 | x::a,y::b,h1,h2=>by
  rw [HT.lexLt_cons] at h1 h2
  by_cases e:x=y
  ·rw [if_pos e] at h1
   rw [if_pos e.symm] at h2
   rw [e,ir a b h1 h2]
  ·rw [if_neg e] at h1
   rw [if_neg (λq=>e q.symm)] at h2
   have q1:=of_decide_eq_false h1
   have q2:=of_decide_eq_false h2
   omega
theorem vM (a b c:List Int) (h:HT.lexLt a c=true):HT.lexLt a b=true \/ HT.lexLt b c=true:=by
 cases h1:HT.lexLt a b with
 | true=>exact .inl rfl
 | false =>
  cases h2:HT.lexLt b a with
  | true=>exact .inr (iq b a c h2 h)
  | false=>rw [ir a b h1 h2] at h;exact .inr h
noncomputable def db:KeyOrd:=⟨List Int,HT.lexLt,jx,iq,vM,ir⟩
noncomputable def cq:KeyOrd:=⟨Int,λa b=>decide (a < b),λa=>decide_eq_false (by omega),λa b c h1 h2=>decide_eq_true (by have:=of_decide_eq_true h1;have:=of_decide_eq_true h2;omega),
 λa b c h=>by
  have:=of_decide_eq_true h
  by_cases q:a < b
  ·exact .inl (decide_eq_true q)
  ·exact .inr (decide_eq_true (by omega)),
 λa b h1 h2=>by have:=of_decide_eq_false h1;have:=of_decide_eq_false h2;omega⟩
section
variable (O:KeyOrd)
noncomputable def i4 (x:O.α):List O.α->List O.α
 | []=>[x]
 | y::r=>if O.blt y x then y::i4 x r else x::y::r
noncomputable def fu:List O.α->List O.α
 | []=>[]
 | x::r=>i4 O x (fu r)
theorem iu (x:O.α):∀ l,(i4 O x l).Perm (x::l)
 | []=>.refl _
 | y::r=>by
  show (if O.blt y x then y::i4 O x r else x::y::r).Perm _
  split
  ·exact (List.Perm.cons y (iu x r)).trans (.swap x y r)
  ·exact .refl _
theorem dc:∀ l,(fu O l).Perm l
 | []=>.refl _
 | x::r=>(iu O x _).trans (.cons x (dc r))
theorem jy (x:O.α):∀ l:List O.α,l.Pairwise O.kle->(i4 O x l).Pairwise O.kle
 | [],_=>List.pairwise_singleton _ _
 | y::r,h=>by
  show (if O.blt y x then y::i4 O x r else x::y::r).Pairwise O.kle
  obtain ⟨h1,h2⟩:=List.pairwise_cons.mp h
  by_cases q:O.blt y x=true
  ·rw [if_pos q]
   refine List.pairwise_cons.mpr ⟨λz hz=>?_,jy x r h2⟩
   rcases List.mem_cons.mp ((iu O x r).mem_iff.mp hz) with e|e
   ·rw [e];exact KeyOrd.kle_of_klt q
   ·exact h1 z e
  ·rw [if_neg q]
   have q':O.kle x y:=Bool.eq_false_iff.mpr q
   refine List.pairwise_cons.mpr ⟨λz hz=>?_,h⟩
   rcases List.mem_cons.mp hz with e|e
   ·rw [e];exact q'
   ·exact KeyOrd.kle_trans q' (h1 z e)
theorem cD:∀ l,(fu O l).Pairwise O.kle
 | []=>List.Pairwise.nil
 | x::r=>jy O x _ (cD r)
theorem gH:∀ {a b:List O.α},a.Perm b->a.Pairwise O.kle->b.Pairwise O.kle->a=b
 | [],b,p,_,_=>p.nil_eq
 | x::a,[],p,_,_=>by have:=p.length_eq;simp at this
 | x::a,y::b,p,ha,hb=>by
  obtain ⟨a1,a2⟩:=List.pairwise_cons.mp ha
  obtain ⟨b1,b2⟩:=List.pairwise_cons.mp hb
  have e:x=y:=by
   have hx:x ∈ y::b:=p.mem_iff.mp (.head _)
   have hy:y ∈ x::a:=p.mem_iff.mpr (.head _)
   rcases List.mem_cons.mp hx with q|q
   ·exact q
   ·rcases List.mem_cons.mp hy with q'|q'
    ·exact q'.symm
    ·exact KeyOrd.kle_antisymm (a1 y q') (b1 x q)
  subst e
  rw [gH (p.cons_inv) a2 b2]
theorem jz {a l:List O.α} (p:a.Perm l) (h:a.Pairwise O.kle):a=fu O l:=gH O (p.trans (dc O l).symm) h (cD O l)
theorem ky {a b:List O.α} (p:a.Perm b):fu O a=fu O b:=jz O ((dc O a).trans p) (cD O a)
end
theorem fK {α:Type} (xs:List α) (d:α):(List.range xs.length).map (λi=>xs.getD i d)=xs:=by
 apply List.ext_getElem?
 intro i
 rw [List.getElem?_map]
 by_cases q:i < xs.length
 ·simp [List.getElem?_range,q]
 ·simp [List.getElem?_range,q]
theorem x5 {O:KeyOrd}{d:O.α}{xs:List O.α}{p:Array Nat} (hp:PB xs.length p) (hr:dC (λi=>xs.getD i d) p xs.length):p.toList.map (λi=>xs.getD i d)=fu O xs:=by
 refine jz O ?_ ?_
 ·have h:=(Array.perm_iff_toList_perm.mp hp).map λi=>xs.getD i d
  have e:(List.map (λi=>xs.getD i d) (List.range xs.length).toArray.toList)=xs:=fK xs d
  rw [e] at h
  exact h
 ·rw [List.pairwise_iff_getElem]
  intro i j hi hj hij
  rw [List.length_map,Array.length_toList] at hi hj
  have hz:=hp.size
  have q:=hr i j (Nat.le_of_lt hij) (by omega)
  simp only [List.getElem_map,Array.getElem_toList]
  have ei:p.getD i 0=p[i]:=by simp [Array.getD,hi]
  have ej:p.getD j 0=p[j]:=by simp [Array.getD,hj]
  unfold kk at q
  rw [ei,ej] at q
  exact q
end L2.Srt
namespace L2.Srt
open PySem PySem.W PySem.Calls PyProof.Rows
section
variable {prog:Program}{w:World}{A:Around}{E:Value->Shared->Prop}{s:Shared}
noncomputable def KOk (κ:SortKind):Prop:=κ=tuples' true \/ κ=general' \/ κ=oneType'
theorem lW {KO:SortKind->Prop}{O:KeyOrd}{key:Nat->O.α}{a:Addr}{vs:List Value}{n:Nat}{R:PySem.Fin->Shared->Prop} (ho:s.heap.get? a=some (seqObj "list" vs.toArray n)) (h64:vs.length < 64)
  (hk:2 <= vs.length->∀ (s':Shared) (Q:SortKind->Shared->Prop),(∀ b o,b ≠ a->s.heap.get? b=some o->s'.heap.get? b=some o)->(∀ κ,KO κ->Q κ s')->wpAny (model prog w) A (keyKind' vs.toArray) Q (λ_ _=>False) s')
  (hc:∀ κ,KO κ->∀ (s':Shared) (i j:Nat) (C:Bool->Shared->Prop),(∀ b o,b ≠ a->s.heap.get? b=some o->s'.heap.get? b=some o)->i < vs.length->j < vs.length->C (O.blt (key i) (key j)) s' ->
   wpAny (model prog w) A (keyLt' κ (vs.getD i Value.none) (vs.getD j Value.none)) C (λ_ _=>False) s')
  (h:∀ p:Array Nat,PB vs.length p->dC key p vs.length->R (.done (.ret .none)) { s with heap:=sortedHeap s.heap a vs (p.toList.map λi=>vs.getD i Value.none).toArray }) :
  wpAny (model prog w) A (Builtin.«list.sort» ⟨[.ref a],[]⟩) R E s:=by
 rw [list_sort_plain]
 have ha:a < s.heap.objs.size:=Heap.lt_size ho
 refine wpAny_bind (listItems_at ho rfl ?_)
 refine wpAny_bind (listUpdate_at ho rfl ?_ (by rw [List.size_toArray,sizeLine_eq];omega) (Nat.zero_le _))
 obtain ⟨e1,ho1⟩:∃ e1,(s.heap.update a (Obj.mapSeq λ_=>(#[]:Array Value))).get? a=some (seqObj "list" #[] e1):=⟨_,get?_update_seq ho λ_=>#[]⟩
 refine wpAny_bind (seqEpoch_at ho1 rfl ?_)
 refine wpAny_bind (wpAny_newTuple ?_ (by show vs.length <= _;rw [sizeLine_eq];omega))
 refine wpAny_bind (wpAny_newList ?_ (Nat.zero_le _))
 refine wpAny_holding ?_
 have ho6:(((s.heap.update a (Obj.mapSeq λ_=>(#[]:Array Value))).push (seqObj "tuple" vs.toArray 0)).push (seqObj "list" #[] 0)).get? a=some (seqObj "list" #[] e1):=Heap.get?_push_of_some _ (Heap.get?_push_of_some _ ho1)
 have kp:∀ b o,b ≠ a->s.heap.get? b=some o->(((s.heap.update a (Obj.mapSeq λ_=>(#[]:Array Value))).push (seqObj "tuple" vs.toArray 0)).push (seqObj "list" #[] 0)).get? b=some o:=λb o hb e =>
  Heap.get?_push_of_some _ (Heap.get?_push_of_some _ ((Heap.get?_update_other _ _ (Ne.symm hb)).trans e))
 show wpAny (model prog w) A _ R E { s with heap:=((s.heap.update a (Obj.mapSeq λ_=>(#[]:Array Value))).push (seqObj "tuple" vs.toArray 0)).push (seqObj "list" #[] 0) }
 dsimp only
 have hsz:vs.toArray.size=vs.length:=by simp
 by_cases h2:vs.toArray.size < 2
 ·rw [if_pos h2,if_pos h2]
  refine wpAny_bind (wpAny_pure ?_)
  rw [StateT.run_pure]
  refine wpAny_bind (wpAny_pure ?_)
  dsimp only
  refine wpAny_bind (seqEpoch_at ho6 rfl ?_)
  refine wpAny_bind (listUpdate_at ho6 rfl ?_ (Nat.zero_le _) (by rw [Array.size_map];show (pairsOf vs).size <= _;rw [pairsOf_size,sizeLine_eq];omega))
  simp only [bne_self_eq_false,Bool.false_eq_true,if_false]
  have e:((arrOf (SortSt.mk' general' (vs.toArray.zip vs.toArray) #[] 7 none)).map (·.2))=((List.range vs.length).toArray.toList.map λi=>vs.getD i Value.none).toArray:=by
   have e2:(arrOf (SortSt.mk' general' (vs.toArray.zip vs.toArray) #[] 7 none))=vs.toArray.zip vs.toArray:=rfl
   rw [e2]
   apply Array.toList_inj.mp
   rw [fK]
   simp [List.map_snd_zip]
  refine wpAny_pure ?_
  have q:=h (List.range vs.length).toArray (Array.Perm.refl _) (λi j hij hj=>by
   have:i=j:=by omega
   subst this;exact KeyOrd.kle_refl _)
  rw [<- e] at q
  exact q
 ·rw [if_neg h2,if_neg h2]
  have h2':2 <= vs.length:=by omega
  refine wpAny_bind (wpAny_mono (hk h2' _ (λκ s0=>KO κ/\s0={ s with heap:=((s.heap.update a (Obj.mapSeq λ_=>(#[]:Array Value))).push (seqObj "tuple" vs.toArray 0)).push (seqObj "list" #[] 0) }) kp λκ hκ=>⟨hκ,rfl⟩) (λκ s0 hκ=>?_) λ_ _ x=>x.elim)
  obtain ⟨hκ,rfl⟩:=hκ
  refine wpAny_bind (wpAny_mono (kat_run (Q:=λst' s'=>∃ p:Array Nat,p.size=vs.length/\arrOf st'=p.map (kas_item (vs.toArray.zip vs.toArray))/\failedOf st'=none/\PB vs.length p/\dC key p vs.length/\s'={ s with heap:=((s.heap.update a (Obj.mapSeq λ_=>(#[]:Array Value))).push (seqObj "tuple" vs.toArray 0)).push (seqObj "list" #[] 0) })
   (G:=λp s'=>PB vs.length p/\dC key p vs.length/\s'={ s with heap:=((s.heap.update a (Obj.mapSeq λ_=>(#[]:Array Value))).push (seqObj "tuple" vs.toArray 0)).push (seqObj "list" #[] 0) })
   rfl h2' h64 (λp' st' s' a1 a2 a3 a4=>⟨p',a1,a2,a3,a4⟩)
   (x4 (key:=key) (λi j C hi hj q=>hc κ hκ _ i j C kp hi hj q) (by omega) λp hp hr=>⟨hp,hr,rfl⟩)) ?_ λ_ _ e=>e)
  rintro ⟨⟨⟩,st'⟩ s' ⟨p,hp,har,hf,hpb,hrs,rfl⟩
  dsimp only
  have hout:=kat_snds rfl har
  refine wpAny_bind (seqEpoch_at ho6 rfl ?_)
  refine wpAny_bind (listUpdate_at ho6 rfl ?_ (Nat.zero_le _) (by rw [hout];refine Nat.le_trans (Nat.le_of_eq ?_) (show vs.length <= _ by rw [sizeLine_eq];omega);simp [hp]))
  rw [hf,hout]
  simp only [bne_self_eq_false,Bool.false_eq_true,if_false]
  exact wpAny_pure (h p hpb hrs)
theorem iU {fin:Bool}{C:Bool->Shared->Prop}:∀ {vs ws:List Value}{ns ms:List Int} (i:Nat),IntsAre vs ns->IntsAre ws ms->fin=decide (ns.length < ms.length)->C (HT.lexLt ns ms) s->KatLex prog w A true fin C (vs.zip ws) i s
 | _,_,_,_,i,.nil,.nil,hf,h=>by
  rw [List.zip_nil_left]
  refine kat_nil ?_
  rw [hf]
  exact h
 | _,_,_,_,i,.nil,.cons c u hw,hf,h=>by
  rw [List.zip_nil_left]
  refine kat_nil ?_
  rw [hf,decide_eq_true (by simp)]
  exact h
 | _,_,_,_,i,.cons a t hv,.nil,hf,h=>by
  rw [List.zip_nil_right]
  refine kat_nil ?_
  rw [hf,decide_eq_false (by simp)]
  exact h
 | _,_,_,_,i,.cons (ns:=ns) a t hv,.cons (ns:=ms) c u hw,hf,h=>by
  rw [List.zip_cons_cons]
  rw [HT.lexLt_cons] at h
  refine kat_cons (wpAny_eqBool_int ?_)
  by_cases e:a=c
  ·rw [if_pos e] at h
   have q:(a == c)=true:=by rw [e];exact beq_self_eq_true c
   rw [q]
   refine kat_yes (iU (i + 1) hv hw ?_ h)
   rw [hf]
   simp
  ·rw [if_neg e] at h
   have q:(a == c)=false:=beq_eq_false_iff_ne.mpr e
   rw [q]
   refine kat_no ?_
   cases i with
   | zero=>exact oneLt_int h
   | succ i=>exact kat_one _ _ (lt_int h)
theorem vN {κ:SortKind} (hk:KOk κ) {a b:Addr}{its its2:Array Value}{ns ms:List Int}{C:Bool->Shared->Prop} (ha:IsTup s.heap a its) (hb:IsTup s.heap b its2) (hi:IntsAre its.toList ns) (hj:IntsAre its2.toList ms)
  (hu:A.units < cLine) (h:C (HT.lexLt ns ms) s):wpAny (model prog w) A (keyLt' κ (.ref a) (.ref b)) C E s:=by
 rcases hk with rfl|rfl|rfl
 ·obtain ⟨o,ho,_,n,hd⟩:=id ha
  obtain ⟨o2,ho2,_,n2,hd2⟩:=id hb
  refine kat_lt ho hd ho2 hd2 (iU 0 hi hj ?_ h)
  have z1:its.size=ns.length:=by rw [<- hi.length];simp
  have z2:its2.size=ms.length:=by rw [<- hj.length];simp
  rw [z1,z2]
 ·show wpAny _ _ (oneLt' false (.ref a) (.ref b)) _ _ _
  exact kat_one _ _ (HT.lt_tupInts ha hb hi hj hu h)
 ·rw [keyLt'_oneType,oneLt'_eq]
  simp only [if_true]
  refine wpAny_bind (wpAny_cRoomFor hu ?_)
  obtain ⟨⟨cls,dd,data,sl⟩,ho,hc,n,hd⟩:=id ha
  obtain ⟨⟨cls2,dd2,data2,sl2⟩,ho2,hc2,n2,hd2⟩:=id hb
  simp only at hc hd hc2 hd2
  subst hc hd hc2 hd2
  refine wpAny_bind (wpAny_callSpecialIfBound?_slot (T:="tuple") ⟨_,ho,rfl⟩ PySem.F.slot_tuple_lt (call_meets PySem.F.slot_tuple_lt (T:="tuple") ⟨_,ho,rfl⟩ PySem.F.entry_tuple_lt (PySem.F.args_tuple_lt_2 _ _) (HT.tuple_lt_ints a b its its2 n n2 dd dd2 sl sl2 ns ms hi hj) ⟨ho,ho2,?_⟩))
  exact wpAny_truthy_bool h
theorem iV:∀ (vs:List Value) {Q:List (Option Value)->Shared->Prop},(∀ v ∈ vs,∃ a its ns,v=.ref a/\IsTup s.heap a its/\IntsAre its.toList ns) ->
  (∀ fs:List (Option Value),fs.length=vs.length->(∀ f ∈ fs,∀ v,f=some v->∃ n t,v=Value.int n t)->Q fs s)->wpAny (model prog w) A (vs.mapM firstOfTuple') Q E s
 | [],Q,_,h=>by rw [List.mapM_nil];exact wpAny_pure (h [] rfl (by simp))
 | v::vs,Q,hv,h=>by
  obtain ⟨a,its,ns,rfl,⟨o,ho,hc,n,hd⟩,hi⟩:=hv v (.head _)
  rw [List.mapM_cons]
  refine wpAny_bind ?_
  rw [kas_first_eq]
  refine wpAny_bind (Looks.here (show Looks (model prog w) s.heap (typeOf (.ref a)) o.cls from (Looks.ld ho).andThen .now) ?_)
  rw [hc,if_neg (by first|decide|simp)]
  refine wpAny_bind (listItems_at ho hd (wpAny_pure ?_))
  refine wpAny_bind (iV vs (Q:=λbs s'=>wpAny (model prog w) A (pure (its[0]?::bs)) Q E s') (λu hu=>hv u (.tail _ hu)) λfs hl hf=>?_)
  refine wpAny_pure (h _ (by simp [hl]) λf hm u e=>?_)
  rcases List.mem_cons.mp hm with z|z
  ·rw [z] at e
   have hmem:u ∈ its.toList:=by
    rw [<- Array.getElem?_toList] at e
    exact List.mem_of_getElem? e
   exact hi.all u hmem
  ·exact hf f z u e
theorem qk {vs:List Value}{Q:SortKind->Shared->Prop} (h2:2 <= vs.length) (hv:∀ v ∈ vs,∃ a its ns,v=.ref a/\IsTup s.heap a its/\IntsAre its.toList ns) (h:∀ κ,KOk κ->Q κ s) :
  wpAny (model prog w) A (keyKind' vs.toArray) Q E s:=by
 rw [kat_kind_eq,List.mapM_toArray,map_eq_pure_bind]
 refine wpAny_bind (wpAny_bind (iV vs hv λfs hl hf=>wpAny_pure ?_))
 by_cases hall:(fs.toArray.all λx=>x.isSome)=true
 ·rw [if_pos hall]
  refine wpAny_bind (wpAny_rule ?_)
  have hfm:(fs.toArray.filterMap id)=(fs.filterMap id).toArray:=by simp
  rw [hfm,oneTypeOnly'_eq,List.mapM_toArray,map_eq_pure_bind]
  have hints:∀ v ∈ fs.filterMap id,∃ n t,v=Value.int n t:=λv hm=>by
   obtain ⟨f,hm',e⟩:=List.mem_filterMap.mp hm
   exact hf f hm' v e
  have hne:0 < (fs.filterMap id).length:=by
   match fs,hl,hall with
   | [],hl,_=>simp at hl;omega
   | f::r,_,hall =>
    have:f.isSome=true:=by simp at hall;exact hall.1
    obtain ⟨u,rfl⟩:=Option.isSome_iff_exists.mp this
    simp
  refine wpAny_bind (wpAny_bind (wpAny_bind (kas_mapM (r:=Value.type "int") _ (λv hm Q' hq=>?_) (wpAny_pure ?_))))
  ·obtain ⟨n,t,rfl⟩:=hints v hm
   exact wpAny_pure hq
  ·have h0:(List.map (λ_=>Value.type "int") (fs.filterMap id)).toArray[0]?=some (Value.type "int"):=by
    simp [hne]
   rw [h0]
   have hall2:((List.map (λ_=>Value.type "int") (fs.filterMap id)).toArray.all λx=>x == Value.type "int")=true:=by
    simp only [List.all_toArray,List.all_map,List.all_eq_true]
    intro _ _
    rfl
   simp only [hall2,if_true]
   exact wpAny_pure (wpAny_pure (h _ (.inl rfl)))
 ·rw [if_neg hall]
  by_cases hf0:((fs.toArray[0]?).bind id).isSome=true
  ·rw [if_pos hf0]
   exact wpAny_pure (h _ (.inr (.inl rfl)))
  ·rw [if_neg hf0]
   rw [oneTypeOnly'_eq,List.mapM_toArray,map_eq_pure_bind]
   refine wpAny_bind (wpAny_bind (wpAny_bind (kas_mapM (r:=Value.type "tuple") _ (λv hm Q' hq=>?_) (wpAny_pure ?_))))
   ·obtain ⟨a,its,ns,rfl,⟨o,ho,hc,n,hd⟩,hi⟩:=hv v hm
    have q:Looks (model prog w) s.heap (typeOf (.ref a)) o.cls:=(Looks.ld ho).andThen .now
    rw [hc] at q
    exact q.here hq
   ·have h0:(List.map (λ_=>Value.type "tuple") vs).toArray[0]?=some (Value.type "tuple"):=by
     have:0 < vs.length:=by omega
     simp [this]
    rw [h0]
    have hall2:((List.map (λ_=>Value.type "tuple") vs).toArray.all λx=>x == Value.type "tuple")=true:=by
     simp only [List.all_toArray,List.all_map,List.all_eq_true]
     intro _ _
     rfl
    simp only [hall2,if_true]
    exact wpAny_pure (wpAny_pure (h _ (.inr (.inr rfl))))
end
end L2.Srt
namespace L2.St
open PySem PyProof.Rows
section
variable {P:Program}{w:World}{A:Around}{E:Value->Shared->Prop}{s:Shared}
theorem o6 {items:Array Value}{ns:List Int} (hi:IntsAre items.toList ns):∀ (i:Nat) (v:Value),items[i]?=some v->∃ t,v=.int (ns.getD i 0) t :=
 λi v e=>IntsAre.int_at hi i v (by rw [Array.getElem?_toList];exact e)
theorem iw {v:Value}{vs:Array Value}{it:Addr}{Q:Option Value->Shared->Prop} (hh:A.handled=none) {R:Value->Shared->Prop}
  (hR:∀ e s',(∀ b o,s.heap.get? b=some o->s'.heap.get? b=some o)->(∃ h',s'={ s with heap:=h' })->s'.TypeIs e "StopIteration"->R e s') {QQ:PySem.Fin->Shared->Prop} :
  wpAny (model P w) A (newExc (.type "StopIteration") [] >>= λe=>(raiseNew e:Sem PySem.Fin)) QQ R s:=by
 refine wpAny_bind ?_
 simp only [newExc,newTuple]
 refine wpAny_bind (wpAny_newObj_type ?_ (by size_fits))
 refine wpAny_bind (m:=firstArgMember _ _) (wpAny_of_eq (a:=Value.none) (by first|rfl|(simp only [firstArgMember];rfl)) ?_)
 refine wpAny_newObj_type ?_ (by size_fits)
 simp only [raiseNew]
 refine wpAny_bind (wpAny_handled ?_)
 rw [hh]
 refine wpAny_bind (wpAny_pure (wpAny_throw ?_))
 exact hR _ _ (λb o e=>Heap.get?_push_of_some _ (Heap.get?_push_of_some _ e)) ⟨_,rfl⟩ ⟨_,Heap.get?_push_size _ rfl,rfl⟩
theorem kz {order:List Int}{acc:Array Value} (h:ItemsOf (λi v=>∃ t,v=Value.int (order.getD i 0) t) acc order.length):IntsAre acc.toList order:=by
 obtain ⟨hz,hv⟩:=h
 have hl:acc.toList.length=order.length:=by simpa using hz
 have hv':∀ j v,acc.toList[j]?=some v->∃ t,v=Value.int (order.getD j 0) t:=λj v e=>hv j v (by rw [<- Array.getElem?_toList];exact e)
 clear hv hz
 generalize acc.toList=vs at hl hv'
 induction vs generalizing order with
 | nil =>
  have:order=[]:=List.length_eq_zero_iff.mp hl.symm
  rw [this];exact .nil
 | cons v r ih =>
  match order,hl,hv' with
  | [],hl,_=>simp at hl
  | k::ks,hl,hv' =>
   obtain ⟨t,e⟩:=hv' 0 v rfl
   have e':v=Value.int k t:=e
   rw [e']
   exact .cons k t (ih (by simpa using hl) λj u q=>hv' (j + 1) u (by simpa using q))
end
end L2.St
namespace L2.St
open PySem
noncomputable def kA (xs:Array Nat):Prop:=∀ i j:Nat,i < j->j < xs.size->xs.getD i 0 < xs.getD j 0
theorem sr {xs:Array Nat}{i:Nat} (h:i < xs.size) (d e:Nat):xs.getD i d=xs.getD i e:=by simp [Array.getD,h]
theorem jA {xs:Array Nat}{j:Nat} (hr:kA xs):∀ (fuel lo hi:Nat),hi - lo <= fuel->lo <= hi->hi <= xs.size->(∀ i,i < lo->xs.getD i 0 < j)->(∀ i,hi <= i->i < xs.size->j <= xs.getD i 0) ->
  (SetTable.below.go xs j fuel lo hi <= xs.size/\(∀ i,i < SetTable.below.go xs j fuel lo hi->xs.getD i 0 < j)/\∀ i,SetTable.below.go xs j fuel lo hi <= i->i < xs.size->j <= xs.getD i 0)
 | 0,lo,hi,hf,h1,h2,a,b=>by
  have e:SetTable.below.go xs j 0 lo hi=lo:=rfl
  rw [e]
  have:lo=hi:=by omega
  subst this
  exact ⟨h2,a,b⟩
 | fuel + 1,lo,hi,hf,h1,h2,a,b=>by
  have e:SetTable.below.go xs j (fuel + 1) lo hi=if lo < hi then (if xs.getD ((lo + hi) / 2) j < j then SetTable.below.go xs j fuel ((lo + hi) / 2 + 1) hi else SetTable.below.go xs j fuel lo ((lo + hi) / 2)) else lo:=rfl
  rw [e]
  by_cases hl:lo < hi
  ·rw [if_pos hl]
   have hm:(lo + hi) / 2 < xs.size:=by omega
   rw [sr hm j 0]
   by_cases hq:xs.getD ((lo + hi) / 2) 0 < j
   ·rw [if_pos hq]
    refine jA hr fuel _ hi (by omega) (by omega) h2 (λi hi'=>?_) b
    by_cases z:i=(lo + hi) / 2
    ·rw [z];exact hq
    ·exact Nat.lt_trans (hr i ((lo + hi) / 2) (by omega) hm) hq
   ·rw [if_neg hq]
    refine jA hr fuel lo _ (by omega) (by omega) (by omega) a λi hi' hz=>?_
    by_cases z:i=(lo + hi) / 2
    ·rw [z];omega
    ·have:=hr ((lo + hi) / 2) i (by omega) hz;omega
  ·rw [if_neg hl]
   have:lo=hi:=by omega
   subst this
   exact ⟨h2,a,b⟩
theorem gh {xs:Array Nat} (hr:kA xs) (j:Nat):SetTable.below xs j <= xs.size/\(∀ i,i < SetTable.below xs j->xs.getD i 0 < j)/\∀ i,SetTable.below xs j <= i->i < xs.size->j <= xs.getD i 0 :=
 jA hr xs.size 0 xs.size (by omega) (by omega) (Nat.le_refl _) (λi h=>by omega) λi h1 h2=>by omega
theorem kB {α:Type} (xs:Array α) (p:Nat) (x:α) (hp:p <= xs.size):(SetTable.insertAt xs p x).size=xs.size + 1:=by
 unfold SetTable.insertAt;simp;omega
theorem gI {α:Type} (xs:Array α) (p:Nat) (x:α) (hp:p <= xs.size) (i:Nat):(SetTable.insertAt xs p x)[i]?=if i < p then xs[i]? else if i=p then some x else xs[i - 1]?:=by
 unfold SetTable.insertAt
 have hz:((xs.extract 0 p).push x).size=p + 1:=by simp;omega
 by_cases h1:i < p
 ·rw [if_pos h1,Array.getElem?_append_left (by omega)]
  rw [Array.getElem?_push,if_neg (by simp;omega),Array.getElem?_extract,if_pos (by omega),Nat.zero_add]
 ·rw [if_neg h1]
  by_cases h2:i=p
  ·subst h2
   rw [if_pos rfl,Array.getElem?_append_left (by omega)]
   rw [Array.getElem?_push,if_pos (by simp;omega)]
  ·rw [if_neg h2,Array.getElem?_append_right (by omega),hz]
   simp only [Array.getElem?_extract]
   by_cases h3:i - (p + 1) < xs.size - p
   ·rw [if_pos (by simpa using h3)];congr 1;omega
   ·rw [if_neg (by simpa using h3)];exact (Array.getElem?_eq_none (by omega)).symm
theorem cx {xs:Array Nat}{i:Nat}:xs.getD i 0=(xs[i]?).getD 0:=Array.getD_eq_getD_getElem?
theorem mZ {xs:Array Nat} (hr:kA xs) {j:Nat} (hn:xs[SetTable.below xs j]? ≠ some j):kA (SetTable.insertAt xs (SetTable.below xs j) j):=by
 obtain ⟨hp,ha,hb⟩:=gh hr j
 have hb':∀ i,SetTable.below xs j <= i->i < xs.size->j < xs.getD i 0:=λi h1 h2=>by
  have q:=hb i h1 h2
  by_cases z:i=SetTable.below xs j
  ·subst z
   have e:xs[SetTable.below xs j]?=some (xs.getD (SetTable.below xs j) 0):=by rw [Array.getElem?_eq_getElem h2];simp [Array.getD,h2]
   have:xs.getD (SetTable.below xs j) 0 ≠ j:=λz=>hn (by rw [e,z])
   omega
  ·have q':=hb _ (Nat.le_refl _) (by omega:SetTable.below xs j < xs.size)
   have:=hr _ i (by omega:SetTable.below xs j < i) h2
   omega
 intro i k hik hk
 rw [kB _ _ _ hp] at hk
 rw [cx,cx,gI _ _ _ hp,gI _ _ _ hp]
 by_cases h1:k < SetTable.below xs j
 ·rw [if_pos h1,if_pos (by omega),<- cx,<- cx]
  exact hr i k hik (by omega)
 ·rw [if_neg h1]
  by_cases h2:k=SetTable.below xs j
  ·rw [if_pos h2,if_pos (by omega),<- cx]
   exact ha i (by omega)
  ·rw [if_neg h2]
   by_cases h3:i < SetTable.below xs j
   ·rw [if_pos h3,<- cx,<- cx]
    exact hr i (k - 1) (by omega) (by omega)
   ·rw [if_neg h3]
    by_cases h4:i=SetTable.below xs j
    ·rw [if_pos h4,<- cx]
     exact hb' (k - 1) (by omega) (by omega)
    ·rw [if_neg h4,<- cx,<- cx]
     exact hr (i - 1) (k - 1) (by omega) (by omega)
theorem og (n:Nat):kA (Array.range n):=λi j h1 h2=>by
 rw [Array.size_range] at h2
 simp [Array.getD,h2,Nat.lt_trans h1 h2];exact h1
theorem su:kA #[]:=λi j _ h=>by simp at h
structure Gd (L:Bool) (t:SetTable):Prop where
 led:t.led=L
 dum:t.dummies=#[]
 rise:kA t.place
theorem Gd.fresh (L:Bool):Gd L (.fresh 0 0 L):=⟨rfl,rfl,su⟩
theorem Gd.standIn {L:Bool}{t:SetTable} (h:Gd L t) (n:Nat):Gd L (t.standIn n):=⟨h.led,rfl,og n⟩
theorem Gd.orStandIn {L:Bool}{t:SetTable} (h:Gd L t) (n:Nat):Gd L (t.orStandIn n):=by
 unfold SetTable.orStandIn;split
 ·exact h
 ·exact h.standIn n
theorem Gd.unplain {L:Bool}{t:SetTable} (h:Gd L t):Gd L { t with plain:=false }:=⟨h.led,h.dum,h.rise⟩
theorem lX {t:SetTable} (hd:t.dummies=#[]) (j:Nat):t.slot j ≠ .dummy:=by
 unfold SetTable.slot SetTable.has
 rw [hd]
 dsimp only
 split
 ·simp
 ·simp
theorem oh {t:SetTable}{j:Nat} (h:t.slot j=.empty):t.place[SetTable.below t.place j]? ≠ some j:=by
 intro e
 unfold SetTable.slot at h
 dsimp only at h
 rw [if_pos (by rw [e];simp)] at h
 cases h
theorem m3 {t:SetTable} (hd:t.dummies=#[]) {ha:Nat->Int}{h:Int}:∀ (fuel:Nat) (p:SetTable.Probe),p.dummy=none->∀ j d,SetTable.probe.go t ha h fuel p=some (.empty j d)->d=none/\t.slot j=.empty
 | 0,p,hp,j,d,e=>by
  have:SetTable.probe.go t ha h 0 p=none:=rfl
  rw [this] at e;cases e
 | fuel + 1,p,hp,j,d,e=>by
  have step:SetTable.probe.go t ha h (fuel + 1) p=(match t.slot p.j with
   | .empty=>some (.empty p.j p.dummy)
   | .dummy=>SetTable.probe.go t ha h fuel (t.advance { p with dummy:=some p.j })
   | .live i=>if ha i == h then some (.candidate p.j i (t.advance p)) else SetTable.probe.go t ha h fuel (t.advance p)):=rfl
  rw [step] at e
  have adv:(t.advance p).dummy=none:=by unfold SetTable.advance;split <;> simp [hp]
  cases hs:t.slot p.j with
  | empty =>
   rw [hs] at e
   dsimp only at e
   cases e
   exact ⟨hp,hs⟩
  | dummy=>exact absurd hs (lX hd _)
  | live i =>
   rw [hs] at e
   dsimp only at e
   split at e
   ·cases e
   ·exact m3 hd fuel _ adv j d e
theorem ql {t:SetTable} (hd:t.dummies=#[]) {h:Int}{j:Nat}{b:Bool} (e:t.freeSlot h=some (j,b)):t.slot j=.empty:=by
 unfold SetTable.freeSlot at e
 split at e
 ·rename_i j' d he
  obtain ⟨rfl,hs⟩:=m3 hd _ _ rfl j' d he
  have:j'=j:=by
   have:=Option.some.inj e
   exact (Prod.mk.inj this).1
  exact this ▸ hs
 ·cases e
theorem Gd.put {L:Bool}{t:SetTable} (h:Gd L t) {j:Nat} (hs:t.slot j=.empty):Gd L (t.put j).1:=by
 refine ⟨h.led,?_,mZ h.rise (oh hs)⟩
 show (if SetTable.has t.dummies j then _ else t.dummies)=#[]
 rw [if_neg (by unfold SetTable.has;rw [h.dum];simp)]
 exact h.dum
theorem Gd.layNew {L:Bool}{t:SetTable} (g:Gd L t) (es:Array (Int × Value)) (h:Int) (x:Value):Gd L (layNew t es h x).2.1:=by
 unfold PySem.layNew
 cases e:t.freeSlot h with
 | none=>exact g.standIn _
 | some q =>
  obtain ⟨j,b⟩:=q
  exact (g.put (ql g.dum e)).orStandIn _
theorem sw (f:Nat->Option Nat) (n:Nat):kA ((((List.range n).filterMap λj=>(f j).map λi=>(j,i)).map λq:Nat × Nat=>q.1).toArray):=by
 have e:((List.range n).filterMap λj=>(f j).map λi=>(j,i)).map (λq:Nat × Nat=>q.1)=(List.range n).filter λj=>(f j).isSome:=by
  generalize List.range n=l
  induction l with
  | nil=>rfl
  | cons a l ih =>
   cases h:f a <;> simp [List.filterMap_cons,List.filter_cons,h,ih]
 rw [e]
 have hp:((List.range n).filter λj=>(f j).isSome).Pairwise (· < ·):=List.Pairwise.filter _ List.pairwise_lt_range
 intro i j hij hj
 have hj':j < ((List.range n).filter λj=>(f j).isSome).length:=by simpa using hj
 have hi':i < ((List.range n).filter λj=>(f j).isSome).length:=Nat.lt_trans hij hj'
 have:=List.pairwise_iff_getElem.mp hp i j hi' hj' hij
 simpa [Array.getD,hj',hi'] using this
theorem Gd.relaid {L:Bool}{t t':SetTable} (g:Gd L t) {hs:Array Int}{n:Nat}{o:Array Nat} (e:t.relaid hs n=some (t',o)):Gd L t':=by
 unfold SetTable.relaid SetTable.laid at e
 cases h:SetTable.layClean (SetTable.sizeAbove n - 1) hs with
 | none=>rw [h] at e;cases e
 | some ow =>
  rw [h] at e
  cases e
  exact ⟨g.led,rfl,sw (λj=>ow.getD j none) _⟩
theorem Gd.relayAll {L:Bool}{t:SetTable} (g:Gd L t) (es:Array (Int × Value)) (n:Nat):Gd L (relayAll t es n).2.1:=by
 unfold PySem.relayAll
 cases e:t.relaid (es.map (·.1)) n with
 | none=>exact g.standIn _
 | some q =>
  obtain ⟨t',o⟩:=q
  dsimp only
  split
  ·exact g.relaid e
  ·exact g.standIn _
end L2.St
namespace L2.St
open PySem PyProof.Rows
noncomputable def byT (w:World):Bool:=w.params.followText "set-order"
structure Arr (P:Program) (w:World) (ks:List Int) (es:Array (Int × Value)) (t:SetTable):Prop where
 el:ElemsOf (intKind P w) es.toList
 pm:(es.toList.map λe=>numOf e.2).Perm ks
 nd:ks.Nodup
 bd:es.size < scanBound
 fi:t.fits es.size=true
 gd:Gd (!byT w) t
noncomputable def a7 (P:Program) (w:World) (h:Heap) (a:Addr) (ks:List Int):Prop :=
 ∃ o es ep t,h.get? a=some o/\o.ExactSet/\o.data=.set es ep t/\ElemsOf (intKind P w) es.toList/\(es.toList.map λe=>numOf e.2).Perm ks/\ks.Nodup/\es.size < scanBound/\t.fits es.size=true/\Gd (!byT w) t
section
variable {P:Program}{w:World}{h h':Heap}{a:Addr}{ks ks':List Int}{o:Obj}{es:Array (Int × Value)}{ep:Nat}{t:SetTable}
theorem a7.arr (g:a7 P w h a ks):∃ o es ep t,(h.get? a=some o/\o.ExactSet/\o.data=.set es ep t)/\Arr P w ks es t:=by
 obtain ⟨o,es,ep,t,ho,hex,hd,c1,c2,c3,c4,c5,c6⟩:=g
 exact ⟨o,es,ep,t,⟨ho,hex,hd⟩,⟨c1,c2,c3,c4,c5,c6⟩⟩
theorem Arr.set (r:Arr P w ks es t) (ho:h.get? a=some o) (hex:o.ExactSet) (hd:o.data=.set es ep t):a7 P w h a ks :=
 ⟨o,es,ep,t,ho,hex,hd,r.el,r.pm,r.nd,r.bd,r.fi,r.gd⟩
theorem Arr.len (r:Arr P w ks es t):es.size=ks.length:=by simpa using r.pm.length_eq
theorem Arr.perm (r:Arr P w ks es t) (p:ks.Perm ks'):Arr P w ks' es t:=⟨r.el,r.pm.trans p,p.nodup r.nd,r.bd,r.fi,r.gd⟩
theorem Arr.bare (r:Arr P w ks es t) (b:Bool):Arr P w ks es (if b=true then t else { t with plain:=false }):=by
 cases b
 ·exact ⟨r.el,r.pm,r.nd,r.bd,SetTable.fits_plain_off r.fi,r.gd.unplain⟩
 ·exact r
theorem Arr.lay (r:Arr P w ks es t) {k:Int} (tk:Tok) (hk:k ∉ ks) (hb:ks.length + 1 < scanBound):Arr P w (k::ks) (layNew t es (hashInt k) (.int k tk)).1 (layNew t es (hashInt k) (.int k tk)).2.1:=by
 have p:(layNew t es (hashInt k) (.int k tk)).1.toList.Perm (es.toList ++ [(hashInt k,.int k tk)]):=by simpa using layNew_perm t es (hashInt k) (.int k tk)
 have z:=p.length_eq
 have l:=r.len
 constructor
 ·exact ElemsOf.perm (r.el.push (k:=k) (x:=.int k tk) (intKind_is _ _ _ _) rfl) p
 ·have q:((es.toList ++ [(hashInt k,Value.int k tk)]).map λe=>numOf e.2).Perm (k::ks):=by
   rw [List.map_append]
   exact List.perm_append_comm.trans (r.pm.cons k)
  exact (p.map _).trans q
 ·exact List.nodup_cons.mpr ⟨hk,r.nd⟩
 ·simp at z;omega
 ·exact layNew_fits _ _ _ _
 ·exact r.gd.layNew _ _ _
theorem Arr.relay (r:Arr P w ks es t) (n:Nat):Arr P w ks (relayAll t es n).1 (relayAll t es n).2.1:=by
 have p:=relayAll_perm t es n
 have z:=p.length_eq
 have b:=r.bd
 exact ⟨r.el.perm p,(p.map _).trans r.pm,r.nd,by simp at z;omega,relayAll_fits t es n,r.gd.relayAll es n⟩
theorem a7.perm (g:a7 P w h a ks) (p:ks.Perm ks'):a7 P w h a ks':=by
 obtain ⟨o,es,ep,t,⟨ho,hex,hd⟩,r⟩:=g.arr
 exact (r.perm p).set ho hex hd
theorem a7.len (g:a7 P w h a ks):∃ o es ep t,h.get? a=some o/\o.ExactSet/\o.data=.set es ep t/\es.size=ks.length:=by
 obtain ⟨o,es,ep,t,⟨ho,hex,hd⟩,r⟩:=g.arr
 exact ⟨o,es,ep,t,ho,hex,hd,r.len⟩
theorem a7.at (g:a7 P w h a ks) (k:∀ o,h.get? a=some o->h'.get? a=some o):a7 P w h' a ks:=by
 obtain ⟨o,es,ep,t,⟨ho,hex,hd⟩,r⟩:=g.arr
 exact r.set (k o ho) hex hd
end
theorem cY {P:Program}{w:World}{es:List (Int × Value)} (h:ElemsOf (intKind P w) es):∀ e ∈ es,∃ t,e.2=.int (numOf e.2) t:=λe he=>by
 obtain ⟨⟨k,hk,_⟩,_⟩:=h e he
 obtain ⟨t,q⟩:=Value.isInt_shape (show Value.isInt k e.2=true from hk)
 exact ⟨t,by rw [q];rfl⟩
theorem gi {P:Program}{w:World}{es:List (Int × Value)} (h:ElemsOf (intKind P w) es) {e:Int × Value} (he:e ∈ es) (k:Int):(intKind P w).is k e.2=true ↔ numOf e.2=k:=by
 obtain ⟨t,q⟩:=cY h e he
 constructor
 ·intro z
  obtain ⟨t',q'⟩:=Value.isInt_shape (show Value.isInt k e.2=true from z)
  rw [q'];rfl
 ·intro z
  rw [q,z]
  exact intKind_is _ _ _ _
section
variable {P:Program}{w:World}{A:Around}{E:Value->Shared->Prop}{s:Shared}
noncomputable def Now (P:Program) (w:World) (a:Addr) (s:Shared) (ks:List Int) (s':Shared):Prop :=
 ∃ h',s'={ s with heap:=h' }/\Heap.SameBut a s.heap h'/\a7 P w h' a ks
theorem Now.stay {a:Addr}{ks:List Int} (g:a7 P w s.heap a ks):Now P w a s ks s:=⟨s.heap,rfl,Heap.SameBut.refl a s.heap,g⟩
theorem o7 {h:Heap}{a:Addr}{o:Obj}{es:Array (Int × Value)}{ep:Nat}{t:SetTable} (ho:h.get? a=some o) (hex:o.ExactSet) (hd:o.data=.set es ep t)
  {es':Array (Int × Value)}{t':SetTable}{ks:List Int} (r:Arr P w ks es' t'):a7 P w (h.update a (Obj.putSet es' t')) a ks:=by
 refine r.set (o:={ o with data:=.set es' (ep + 1) t' }) (ep:=ep + 1) ?_ hex rfl
 have e:Obj.putSet es' t' o={ o with data:=.set es' (ep + 1) t' }:=putSet_of es' t' hd
 rw [<- e]
 exact Heap.get?_update_self _ ho (by rw [e];rfl)
theorem Now.put {a:Addr}{ks ks':List Int}{s':Shared} (n:Now P w a s ks s') {es:Array (Int × Value)}{t:SetTable} (r:Arr P w ks' es t) {Q:Unit->Shared->Prop} (h:∀ s'',Now P w a s ks' s''->Q () s'') :
  wpAny (model P w) A (storeSet a es t) Q E s':=by
 obtain ⟨h',rfl,sb,g⟩:=n
 obtain ⟨o,_,_,_,⟨ho,hex,hd⟩,_⟩:=g.arr
 exact wpAny_storeSet_of ho hd (h _ ⟨_,rfl,sb.trans (Heap.SameBut.update h' a _),o7 ho hex hd r⟩) (fits_of_scanBound r.bd)
theorem At {m:Sem Unit}{s':Shared}{Q:Unit->Shared->Prop} (hm:m=pure () \/ ∃ n,m=rule n) (h:Q () s'):wpAny (model P w) A m Q E s':=by
 rcases hm with rfl|⟨n,rfl⟩
 ·exact wpAny_pure h
 ·exact wpAny_rule h
theorem Au (k:Int) (tk:Tok) (c:Bool) {s':Shared}{f:Bool->Sem (Option Bool)}{Q:Option Bool->Shared->Prop} (h:∀ b,wpAny (model P w) A (f b) Q E s') :
  wpAny (model P w) A (if c=true then hashByValue 8 (.int k tk) >>= f else (pure true:Sem Bool) >>= f) Q E s':=by
 cases c
 ·exact wpAny_bind (wpAny_pure (h true))
 ·rw [if_pos rfl,hashByValue_scannable 8 (show (Value.int k tk).scannable=true from rfl)]
  exact wpAny_bind (wpAny_pure (h _))
theorem k5 {a:Addr}{ks:List Int}{k:Int}{tk:Tok}{Q:Bool->Shared->Prop} (hS:a7 P w s.heap a ks) (hroom:ks.length + 1 < scanBound)
  (h:∀ h' b,Heap.SameBut a s.heap h'->a7 P w h' a (if k ∈ ks then ks else k::ks)->Q b { s with heap:=h' }) :
  wpAny (model P w) A (setAddHashed a (.int k tk) (hashInt k)) Q E s:=by
 have fin:∀ b s',Now P w a s (if k ∈ ks then ks else k::ks) s'->Q b s':=by
  rintro b _ ⟨h',rfl,sb,g⟩
  exact h h' b sb g
 have now:=Now.stay hS
 obtain ⟨o,es,ep,t,⟨ho,hex,hd⟩,r⟩:=hS.arr
 have here:k ∈ ks ↔ ((es.toList.findIdx? λe=>(intKind P w).is k e.2).isSome=true):=by
  rw [List.findIdx?_isSome,List.any_eq_true,<- r.pm.mem_iff,List.mem_map]
  exact ⟨λ⟨e,he,q⟩=>⟨e,he,(gi r.el he k).mpr q⟩,λ⟨e,he,q⟩=>⟨e,he,(gi r.el he k).mp q⟩⟩
 unfold setAddHashed setAddHashedIn
 refine wpAny_holding (wpAny_bind (wpAny_setState_of ho hd r.fi ?_))
 dsimp only
 rw [byScan_of (x:=.int k tk) rfl r.bd r.el,if_pos rfl]
 refine wpAny_bind ?_
 unfold setAddByScan
 refine wpAny_bind (wpAny_rule (wpAny_bind (wpAny_setScan_of (knd:=intKind P w) (intKind_is _ _ _ _) ho hd r.fi r.el ?_)))
 rcases hf:es.toList.findIdx? λe=>(intKind P w).is k e.2 with _|j
 ·rw [hf]
  have hk:k ∉ ks:=λz=>by rw [here,hf] at z;exact Bool.noConfusion z
  rw [if_neg hk] at fin
  have r1:=r.lay tk hk hroom
  rcases hl:layNew t es (hashInt k) (.int k tk) with ⟨es1,t1,dm,gv⟩
  rw [hl] at r1
  dsimp only at r1 ⊢
  refine wpAny_bind (At ?_ ?_)
  ·cases gv
   ·exact .inl rfl
   ·exact .inr ⟨_,rfl⟩
  refine Au k tk _ λb=>?_
  have r2:=r1.bare b
  generalize (if b=true then t1 else _)=t2 at r2 ⊢
  refine wpAny_bind (now.put r2 λs2 n2=>?_)
  refine wpAny_ite_split (λ_=>?_) (λ_=>wpAny_pure (wpAny_pure (fin _ _ n2)))
  have r3:=r2.relay (SetTable.grown es1.size)
  rcases hm:relayAll t2 es1 (SetTable.grown es1.size) with ⟨es3,t3,gv3⟩
  rw [hm] at r3
  dsimp only at r3 ⊢
  refine wpAny_bind (At ?_ ?_)
  ·cases gv3
   ·exact .inl rfl
   ·exact .inr ⟨_,rfl⟩
  exact wpAny_bind (n2.put r3 λs3 n3=>wpAny_pure (wpAny_pure (fin _ _ n3)))
 ·rw [hf]
  have hk:k ∈ ks:=here.mpr (by rw [hf];rfl)
  rw [if_pos hk] at fin
  exact wpAny_pure (wpAny_pure (fin _ _ now))
end
noncomputable def dd:List Int->List Int
 | []=>[]
 | k::r=>if k ∈ dd r then dd r else k::dd r
theorem dR {k:Int}:∀ {l:List Int},k ∈ dd l ↔ k ∈ l
 | []=>Iff.rfl
 | x::r=>by
  show k ∈ (if x ∈ dd r then dd r else x::dd r) ↔ _
  have ih:=@dR k r
  by_cases h:x ∈ dd r
  ·rw [if_pos h,ih,List.mem_cons]
   exact ⟨.inr,λz=>z.elim (λe=>by rw [e];exact dR.mp h) id⟩
  ·rw [if_neg h,List.mem_cons,List.mem_cons,ih]
theorem dd_nodup:∀ l:List Int,(dd l).Nodup
 | []=>List.nodup_nil
 | x::r=>by
  show (if x ∈ dd r then dd r else x::dd r).Nodup
  by_cases h:x ∈ dd r
  ·rw [if_pos h];exact dd_nodup r
  ·rw [if_neg h];exact List.nodup_cons.mpr ⟨h,dd_nodup r⟩
theorem sx:∀ l:List Int,(dd l).length <= l.length
 | []=>Nat.le_refl _
 | x::r=>by
  show (if x ∈ dd r then dd r else x::dd r).length <= _
  have:=sx r
  by_cases h:x ∈ dd r
  ·rw [if_pos h,List.length_cons];omega
  ·rw [if_neg h,List.length_cons,List.length_cons];omega
theorem vO (xs:List Int):(List.range xs.length).map (λi=>xs.getD i 0)=xs:=by
 apply List.ext_getElem?
 intro i
 rw [List.getElem?_map]
 by_cases q:i < xs.length
 ·simp [List.getElem?_range,q]
 ·simp [List.getElem?_range,q]
noncomputable def But (ws:List Addr) (s s':Shared):Prop :=
 ∃ h' tk,s'={ s with heap:=h',toks:=tk }/\∀ b o,b ∉ ws->s.heap.get? b=some o->h'.get? b=some o
theorem But.on {ws vs:List Addr}{s s' s'':Shared} (x:But ws s s') (y:But vs s' s'') (hs:∀ b ∈ ws,b ∈ vs):But vs s s'':=by
 obtain ⟨h1,t1,rfl,k1⟩:=x
 obtain ⟨h2,t2,rfl,k2⟩:=y
 exact ⟨h2,t2,rfl,λb o hb e=>k2 b o hb (k1 b o (λz=>hb (hs b z)) e)⟩
section
variable {P:Program}{w:World}{A:Around}{R:Result->Shared->Prop}{I S:Addr}{fp wr:List Addr}{n:Nat}{Pv:Nat->Value->Prop}{St:Nat->Heap->Prop}
noncomputable abbrev upd (S I:Addr):Code:=.builtin "set.update.loop" ⟨[.ref S,.ref I],[]⟩
theorem m4 {s:Shared} (h:wpAny (model P w) A.in1 (pyNext (.ref I)) (λv s'=>match v with
   | none=>R (.ok (.ret .none)) s'
   | some x=>wpAny (model P w) A.in1 (setAdd S x) (λ_ s''=>codeAny (model P w) A (upd S I) R s'') (λe s''=>R (.error e) s'') s') (λe s'=>R (.error e) s') s) :
  codeAny (model P w) A (upd S I) R s:=by
 have pl:=PyProof.Rows.F.plain_set_update_loop
 apply codeAny_builtin PyProof.Rows.F.entry_set_update_loop
 rw [Around.under_plainId pl]
 apply wpAny_bind (m:=pyNext (.ref I))
 refine wpAny_mono h (λv s' hv=>?_) λ_ _ x=>x
 cases v with
 | none=>exact wpAny_pure hv
 | some x =>
  refine wpAny_bind (wpAny_holding (wpAny_mono hv (λ_ s'' hc=>?_) λ_ _ x=>x))
  exact wpAny_pure ⟨plainId_quiet pl _,hc⟩
theorem add_int {s:Shared}{E:Value->Shared->Prop}{B:Around}{ks:List Int}{k:Int}{t:Tok} (g:a7 P w s.heap S ks) (room:ks.length + 1 < scanBound) {Q:Bool->Shared->Prop}
  (h:∀ b s',But [S] s s'->a7 P w s'.heap S (if k ∈ ks then ks else k::ks)->(∀ b,b ≠ S->s'.heap.get? b=s.heap.get? b)->Q b s'):wpAny (model P w) B (setAdd S (.int k t)) Q E s:=by
 unfold setAdd
 refine wpAny_holding (wpAny_bind ((intKind P w).pyHash (k:=k) (intKind_is _ _ _ _) ?_))
 refine k5 (s:={ s with toks:=s.toks + 1 }) g room λh' b sb g'=>h b _ ⟨h',_,rfl,λc o hc e=>?_⟩ g' λc hc=>?_
 ·rw [sb.2 c (by simpa using hc)];exact e
 ·exact sb.2 c hc
theorem o8 (W:Walks P w A.in1 I fp wr n Pv St) (hS:S ∉ fp) (xs:List Int) (hn:xs.length=n) (hv:∀ i v,Pv i v->∃ t,v=.int (xs.getD i 0) t) (hb:n + 1 < scanBound) :
  ∀ (m i:Nat) (s:Shared),i + m=n->St i s.heap->a7 P w s.heap S (dd (xs.take i).reverse)->(∀ s',But (S::wr) s s'->a7 P w s'.heap S (dd xs.reverse)->R (.ok (.ret .none)) s') ->
   codeAny (model P w) A (upd S I) R s
 | 0,i,s,e,st,g,h=>by
  have hi:i=n:=e
  subst hi
  refine m4 (W.done s _ _ st λh' tk kp=>h _ ⟨h',tk,rfl,λb o hb'=>kp b o λz=>hb' (.tail _ z)⟩ ?_)
  rw [List.take_of_length_le (by omega)] at g
  exact g.at λo=>kp S o λz=>hS (W.sub S z)
 | m + 1,i,s,e,st,g,h=>by
  have hi:i < n:=by omega
  refine m4 (W.item i s _ _ hi st λv h1 tk1 pv st1 kp=>?_)
  obtain ⟨t,rfl⟩:=hv i v pv
  have b1:But wr s { s with heap:=h1,toks:=tk1 }:=⟨h1,tk1,rfl,kp⟩
  have l:(dd (xs.take i).reverse).length + 1 < scanBound:=by
   have:=sx (xs.take i).reverse
   simp at this;omega
  refine add_int (g.at λo=>kp S o λz=>hS (W.sub S z)) l λ_ s2 b2 g2 st2=>?_
  refine o8 W hS xs hn hv hb m (i + 1) s2 (by omega) (W.frame _ h1 _ st1 λb hb' o e'=>?_) ?_ λs3 b3 g3=>h s3 ?_ g3
  ·rw [st2 b λz=>hS (z ▸ hb')];exact e'
  ·have:xs.take (i + 1)=xs.take i ++ [xs.getD i 0]:=by
    rw [List.take_succ,List.getD_eq_getElem?_getD,List.getElem?_eq_getElem (by omega)];rfl
   rw [this,List.reverse_append]
   exact g2
  ·exact (b1.on (b2.on b3 (by simp)) λb z=>.tail _ z)
end
end L2.St
namespace L2.St
open PySem PyProof.Rows
section
variable {P:Program}{w:World}{A:Around}{E:Value->Shared->Prop}{s:Shared}
theorem ca {Q:Bool->Shared->Prop} (h:Q (byT w) s):wpAny (model P w) A setsByText Q E s:=by
 unfold setsByText
 exact wpAny_bind (wpAny_askSetting (wpAny_pure h))
noncomputable abbrev aJ (w:World):Obj:={ cls:=.type "set",dict:=none,data:=.set #[] 0 (.fresh 0 0 (!byT w)) }
noncomputable abbrev aF (w:World) (s:Shared):Shared:={ s with heap:=s.heap.push (aJ w) }
theorem lY {Q:Value->Shared->Prop} (h:Q (.ref s.heap.objs.size) (aF w s)):wpAny (model P w) A (newSet (.type "set")) Q E s:=by
 unfold newSet
 refine wpAny_bind (ca ?_)
 dsimp only
 simp only [newObj]
 exact wpAny_bind (wpAny_alloc (wpAny_pure h))
theorem m5 (h:Heap):a7 P w (h.push (aJ w)) h.objs.size [] :=
 Arr.set (es:=#[]) (ep:=0) ⟨λe he=>by simp at he,by simp,List.nodup_nil,by decide,rfl,Gd.fresh _⟩ (Heap.get?_push_size _ rfl) ⟨rfl,rfl,rfl⟩ rfl
theorem vP (x:Value) {Q:Value->Shared->Prop} (h:Q (.ref s.heap.objs.size) (aF w s)):codeAny (model P w) A (.call (.builtin "set.__new__") ⟨[.type "set",x],[]⟩) (wants Q E) s:=by
 refine codeAny_call_builtin PySem.F.plain_set_new PySem.F.entry_set_new (wpAny_of_eq (PySem.F.newCall_set_1 x) ?_)
 have cls:∀ {R:Value × List Value->Shared->Prop}{F:Value->Shared->Prop},R (.type "set",[x]) s->wpAny (model P w) A.in1 (Builtin.Frozenset.newClass "set" ⟨[.type "set",x],[]⟩) R F s:=by
  intro R F hr
  have hsub:=sub_set_self
  unfold Builtin.Frozenset.newClass
  obtain ⟨hp,g,d,tk,os⟩:=s
  wp_walk
  exact hr
 unfold Builtin.«set.__new__»
 exact wpAny_bind (cls (wpAny_bind (lY (wpAny_pure h))))
theorem sy (x:Value) {Q:Value->Shared->Prop}
  (hU:∀ B:Around,B.handled=A.handled->wpAny (model P w) B (Builtin.Frozenset.updateFrom "set.__init__" s.heap.objs.size x) (λ_ s'=>Q (.ref s.heap.objs.size) s') E (aF w s)) :
  wpAny (model P w) A (call (.type "set") [x]) Q E s:=by
 have at0:(aF w s).heap.get? s.heap.objs.size=some (aJ w):=Heap.get?_push_size _ rfl
 have init:codeAny (model P w) A.in1 (.call (.builtin "set.__init__") ⟨[.ref s.heap.objs.size,x],[]⟩) (wants (λr s'=>r=.none/\Q (.ref s.heap.objs.size) s') E) (aF w s):=by
  refine codeAny_call_builtin PySem.F.called_set.init.plain PySem.F.entry_set_init (check_set_init_1 ⟨_,at0,rfl⟩ ?_)
  have hu:=hU A.in1.in1 (by simp)
  generalize hw:aF w s=s1 at at0 hu ⊢
  generalize s.heap.objs.size=S at at0 hu ⊢
  obtain ⟨hp,g,d,tk,os⟩:=s1
  unfold Builtin.«set.__init__» noKeywords
  generalize Builtin.Frozenset.updateFrom=U at hu ⊢
  wp_walk
  exact wpAny_mono hu (λ_ s' hq=>wpAny_pure ⟨rfl,hq⟩) λ_ _ z=>z
 have ft:=PySem.F.called_set
 refine wpAny_call (codeAny_of_tree (wpAny_pure ⟨Code.quiet_builtin _ (by decide +kernel),codeAny_builtin PySem.F.entry_type_call ?_⟩))
 rw [Around.under_plain (weight_type_call_type "set" [x] []) rfl]
 have f1:=ft.notType;have f2:=ft.canCreate;have f3:=ft.made;have f4:=ft.sub
 have f5:=PySem.F.typeCall_set_1 x
 obtain ⟨c,tl,f6⟩:=ft.mro
 repeat (any_goals (first|assumption|wp_step))
 refine codeAny_mono (vP x (E:=E) (Q:=λv s'=>v=.ref s.heap.objs.size/\s'=aF w s) ⟨rfl,rfl⟩) λr s1 hr=>?_
 match r,hr with
 | .error e,hr=>exact hr
 | .ok (.ret v),hr =>
  obtain ⟨rfl,rfl⟩:=hr
  have f7:Shared.TypeIs (aF w s) (.ref s.heap.objs.size) "set":=⟨_,at0,rfl⟩
  have f8:=ft.init.lookup;have f9:=ft.init.bind (.ref s.heap.objs.size)
  repeat (any_goals (first|assumption|wp_step))
  refine codeAny_mono init λr s2 hr=>?_
  match r,hr with
  | .error e,hr=>exact hr
  | .ok (.ret v),hr =>
   obtain ⟨rfl,hq⟩:=hr
   show wpAny _ A.in1 (pure (some Value.none)) _ _ _
   exact wpAny_pure (wpAny_pure hq)
theorem jB {l:Addr}{tn:String}{o:Obj} (x:s.heap.get? l=some o) (hc:o.cls=.type tn) (hd:(Value.type tn == .type "dict")=false)
  (ns1:isSubtype (.type tn) (.type "set")=pure false) (ns2:isSubtype (.type tn) (.type "frozenset")=pure false)
  {ns:List Int}{Pv:Nat->Value->Prop}{St:Nat->Heap->Prop} (hv:∀ i v,Pv i v->∃ t,v=.int (ns.getD i 0) t) (hb:ns.length + 1 < scanBound) {io:Obj}
  (W:∀ B:Around,B.handled=A.handled->Walks P w B ((aF w s).heap.objs.size) [(aF w s).heap.objs.size,l] [(aF w s).heap.objs.size] ns.length Pv St)
  (it:∀ (B:Around) (E':Value->Shared->Prop) (R:Value->Shared->Prop),R (.ref (aF w s).heap.objs.size) { s with heap:=(aF w s).heap.push io }->wpAny (model P w) B (pyIter (.ref l)) R E' (aF w s))
  (st:St 0 ((aF w s).heap.push io)) {Q:Value->Shared->Prop}
  (h:∀ (h':Heap) (tk:Nat),a7 P w h' s.heap.objs.size (dd ns.reverse)->(∀ b o,s.heap.get? b=some o->h'.get? b=some o)->Q (.ref s.heap.objs.size) { s with heap:=h',toks:=tk }) :
  wpAny (model P w) A (call (.type "set") [.ref l]) Q E s:=by
 have z1:(aF w s).heap.objs.size=s.heap.objs.size + 1:=Heap.size_push ..
 have far:∀ b,b < s.heap.objs.size->b ∉ [s.heap.objs.size,(aF w s).heap.objs.size]:=λb hb=>by
  rw [z1]
  simp only [List.mem_cons,List.not_mem_nil,or_false,not_or]
  exact ⟨Nat.ne_of_lt hb,Nat.ne_of_lt (Nat.lt_succ_of_lt hb)⟩
 have kept:∀ b o,s.heap.get? b=some o->((aF w s).heap.push io).get? b=some o:=λb o e=>Heap.get?_push_of_some _ (Heap.get?_push_of_some _ e)
 refine sy _ λB hB=>?_
 have hT:(aF w s).TypeIs (.ref l) tn:=⟨o,Heap.get?_push_of_some _ x,hc⟩
 unfold Builtin.Frozenset.updateFrom Builtin.Frozenset.isAnySet
 refine wpAny_bind (wpAny_bind (wpAny_isInstance hT ns1 ?_))
 show wpAny _ _ (isInstance (.ref l) (.type "frozenset")) _ _ _
 refine wpAny_isInstance hT ns2 ?_
 rw [if_neg Bool.false_ne_true]
 refine wpAny_bind (wpAny_typeOf hT ?_)
 rw [hd,if_neg Bool.false_ne_true]
 refine wpAny_bind (it _ _ _ (wpAny_bind (wpAny_runValue ?_)))
 have hS:s.heap.objs.size ∉ [(aF w s).heap.objs.size,l]:=by
  have:=Heap.lt_size x
  rw [z1]
  simp only [List.mem_cons,List.not_mem_nil,or_false,not_or]
  exact ⟨Nat.ne_of_lt (Nat.lt_succ_self _),Nat.ne_of_gt this⟩
 refine o8 (W _ (by simpa using hB)) hS ns rfl hv hb ns.length 0 _ (by omega) st ((m5 s.heap).at λo e=>Heap.get?_push_of_some _ e) ?_
 rintro s' ⟨h',tk,rfl,kp⟩ g
 exact wpAny_pure (h h' tk g λb o e=>kp b o (far b (Heap.lt_size e)) (kept b o e))
theorem set_list {l:Addr}{items:Array Value}{ns:List Int}{Q:Value->Shared->Prop}
  (hh:A.handled=none) (hl:s.heap.IsList l items) (hi:IntsAre items.toList ns) (hb:items.size + 1 < scanBound)
  (h:∀ (h':Heap) (tk:Nat),a7 P w h' s.heap.objs.size (dd ns.reverse)->(∀ b o,s.heap.get? b=some o->h'.get? b=some o)->Q (.ref s.heap.objs.size) { s with heap:=h',toks:=tk }) :
  wpAny (model P w) A (call (.type "set") [.ref l]) Q E s:=by
 have z:items.size=ns.length:=by simpa using IntsAre.length hi
 obtain ⟨o,ho,hc,hr⟩:=hl
 have l1:(aF w s).heap.IsList l items:=⟨o,Heap.get?_push_of_some _ ho,hc,hr⟩
 refine jB (io:={ cls:=.type "list_iterator",data:=.fields #[.ref l,Value.int 0 0] }) ho hc (by decide) PySem.F.sub_list_set PySem.F.sub_list_frozenset (o6 hi) (z ▸ hb) (λB hB=>z ▸ Walks.list (hB.trans hh) _ l ?_ items)
  (λB E' R=>wpAny_pyIter_list l1) ⟨⟨_,Heap.get?_push_size _ rfl,rfl,rfl⟩,l1.push _⟩ h
 exact Nat.ne_of_lt (Nat.lt_of_lt_of_eq (Nat.lt_succ_of_lt (Heap.lt_size ho)) (Heap.size_push ..).symm)
theorem qm {l:Addr}{items:Array Value}{ns:List Int}{Q:Value->Shared->Prop}
  (hh:A.handled=none) (hl:s.heap.IsTuple l items) (hi:IntsAre items.toList ns) (hb:items.size + 1 < scanBound)
  (h:∀ (h':Heap) (tk:Nat),a7 P w h' s.heap.objs.size (dd ns.reverse)->(∀ b o,s.heap.get? b=some o->h'.get? b=some o)->Q (.ref s.heap.objs.size) { s with heap:=h',toks:=tk }) :
  wpAny (model P w) A (call (.type "set") [.ref l]) Q E s:=by
 have z:items.size=ns.length:=by simpa using IntsAre.length hi
 obtain ⟨o,ho,hc,hr⟩:=hl
 have l1:(aF w s).heap.IsTuple l items:=⟨o,Heap.get?_push_of_some _ ho,hc,hr⟩
 refine jB (io:={ cls:=.type "tuple_iterator",data:=.fields #[.ref l,Value.int 0 0] }) ho hc (by decide) PySem.F.sub_tuple_set PySem.F.sub_tuple_frozenset (o6 hi) (z ▸ hb) (λB hB=>z ▸ Walks.tuple (hB.trans hh) _ l ?_ items)
  (λB E' R=>wpAny_pyIter_tuple l1) ⟨⟨_,Heap.get?_push_size _ rfl,rfl,rfl⟩,l1.push _⟩ h
 exact Nat.ne_of_lt (Nat.lt_of_lt_of_eq (Nat.lt_succ_of_lt (Heap.lt_size ho)) (Heap.size_push ..).symm)
end
end L2.St
namespace L2.St
open PySem PyProof.Rows
set_option maxRecDepth 100000 in
theorem jC:entryFor table "set.__iter__"=some Builtin.«frozenset.__iter__» :=
 entryFor_alias (id':="frozenset.__iter__") (by kernel_rfl) rfl (by decide +kernel) (by kernel_rfl)
set_option maxRecDepth 100000 in
theorem k6:Manifest.owners.lookup (String.ofList ['r','o','t','a','r','e','t','i','_','t','e','s'].reverse)=some Manifest.sig_set_iterator:=by kernel_rfl
set_option maxRecDepth 100000 in
theorem az:Slot "set_iterator" "__next__" "set_iterator.__next__" :=
 .of (owner:="set_iterator") (n:="__next__") (by rw [typeLookup_type,builtinLookup_eq_fast];kernel_rfl) (by decide +kernel) (by decide +kernel) (by decide +kernel)
  (by first|exact .inl (by decide +kernel)|exact .inr (by decide +kernel)) (by rw [isSubtype_type];kernel_rfl)
set_option maxRecDepth 100000 in
theorem cg:entryFor table "set_iterator.__next__"=some Builtin.«set_iterator.__next__»:=entryFor_of_tree (by kernel_rfl)
set_option maxRecDepth 100000 in
theorem cy (a:Value):argsOk "set_iterator.__next__" ⟨[a],[]⟩:=by
 unfold argsOk;rw [signature?_of (id:="set_iterator.__next__") (n:=['_','_','t','x','e','n','_','_']) (o:=['r','o','t','a','r','e','t','i','_','t','e','s']) (by kernel_rfl) k6];kernel_rfl
set_option maxRecDepth 100000 in
theorem fX:Slot "set_iterator" "__iter__" "set_iterator.__iter__" :=
 .of (owner:="set_iterator") (n:="__iter__") (by rw [typeLookup_type,builtinLookup_eq_fast];kernel_rfl) (by decide +kernel) (by decide +kernel) (by decide +kernel)
  (by first|exact .inl (by decide +kernel)|exact .inr (by decide +kernel)) (by rw [isSubtype_type];kernel_rfl)
set_option maxRecDepth 100000 in
theorem jD:entryFor table "set_iterator.__iter__"=some Builtin.«dict_keyiterator.__iter__» :=
 entryFor_alias (id':="dict_keyiterator.__iter__") (by kernel_rfl) rfl (by decide +kernel) (by kernel_rfl)
set_option maxRecDepth 100000 in
theorem kC (a:Value):argsOk "set_iterator.__iter__" ⟨[a],[]⟩:=by
 unfold argsOk;rw [signature?_of (id:="set_iterator.__iter__") (n:=['_','_','r','e','t','i','_','_']) (o:=['r','o','t','a','r','e','t','i','_','t','e','s']) (by kernel_rfl) k6];kernel_rfl
theorem sB {P:Program}{w:World}{A:Around}{E:Value->Shared->Prop}{s:Shared}{I:Addr}{Q:Value->Shared->Prop} (hT:s.TypeIs (.ref I) "set_iterator") (h:Q (.ref I) s):wpAny (model P w) A (pyIter (.ref I)) Q E s:=by
 refine wpAny_pyIter_slot hT fX (wpAny_call_entry fX hT jD ?_ (kC _))
 show wpAny _ _ (ret (.ref I)) _ _ s
 exact wpAny_pure ⟨_,rfl,"set_iterator",_,hT,az.lookup,h⟩
theorem eO {α:Type}:∀ {l:List α}{i:Nat}{x:α},l[i]?=some x->(x::l.eraseIdx i).Perm l
 | [],i,x,h=>by simp at h
 | a::l,0,x,h=>by
  have e:a=x:=by simpa using h
  subst e
  exact .refl _
 | a::l,i + 1,x,h=>by
  have h':l[i]?=some x:=by simpa using h
  exact (List.Perm.swap a x _).trans (.cons a (eO h'))
theorem o9 {α:Type} (next:Nat->Nat):∀ (fuel k:Nat) (left:List α) (out:Array α),fuel=left.length->(pickOrder.go next fuel k left out).toList.Perm (out.toList ++ left)
 | 0,k,left,out,h=>by
  have:left=[]:=List.length_eq_zero_iff.mp h.symm
  subst this
  rw [List.append_nil]
  exact .refl _
 | fuel + 1,k,left,out,h=>by
  have hl:next k % left.length < left.length:=Nat.mod_lt _ (by omega)
  obtain ⟨x,hx⟩:∃ x,left[next k % left.length]?=some x:=⟨_,List.getElem?_eq_getElem hl⟩
  have e:pickOrder.go next (fuel + 1) k left out=pickOrder.go next fuel (k + 1) (left.eraseIdx (next k % left.length)) (out.push x):=by
   show (match left[next k % left.length]? with
    | some x=>pickOrder.go next fuel (k + 1) (left.eraseIdx (next k % left.length)) (out.push x)
    | none=>out)=_
   rw [hx]
  rw [e]
  refine (o9 next fuel (k + 1) _ _ (by rw [List.length_eraseIdx_of_lt hl];omega)).trans ?_
  rw [Array.toList_push,List.append_assoc]
  exact List.Perm.append_left _ (eO hx)
theorem k7 {α:Type} (next:Nat->Nat) (xs:Array α):(pickOrder next xs).toList.Perm xs.toList:=by
 have:=o9 next xs.size 0 xs.toList #[] (by simp)
 simpa [pickOrder] using this
section
variable {M:Model}{A:Around}{E:Value->Shared->Prop}{s:Shared}
theorem oi {src:Source}{n:Nat}{Q:Nat->Shared->Prop} (hn:n ≠ 0) (h:∀ i d',i < n->Q i { s with drawn:=d' }):wpAny M A (choose src n) Q E s:=λ_ _ _ =>
 ⟨hn,h _ _ (Nat.mod_lt _ (Nat.pos_of_ne_zero hn))⟩
theorem gj {α:Type}:∀ (n:Nat) (xs:List α) (s:Shared) {Q:List α->Shared->Prop},n=xs.length->(∀ ys d',ys.Perm xs->Q ys { s with drawn:=d' })->wpAny M A (drawOrder n xs) Q E s
 | 0,xs,s,Q,h,q=>by
  have:xs=[]:=List.length_eq_zero_iff.mp h.symm
  subst this
  show wpAny M A (pure []) Q E s
  exact wpAny_pure (q [] s.drawn (.refl _))
 | n + 1,[],s,Q,h,q=>by simp at h
 | n + 1,x::r,s,Q,h,q=>by
  show wpAny M A (choose .order (x::r).length >>= _) Q E s
  refine wpAny_bind (oi (by simp) λi d' hi=>?_)
  obtain ⟨y,hy⟩:∃ y,(x::r)[i]?=some y:=⟨_,List.getElem?_eq_getElem hi⟩
  rw [hy]
  dsimp only
  refine wpAny_bind (gj n _ _ (by rw [List.length_eraseIdx_of_lt hi];simp at h ⊢;omega) λys d'' hp=>wpAny_pure ?_)
  exact q (y::ys) d'' ((List.Perm.cons y hp).trans (eO hy))
end
noncomputable def SIt (h:Heap) (I S:Addr) (o:Obj) (f:Value) (i n ep:Nat):Prop :=
 h.get? I=some { cls:=.type "set_iterator",dict:=none,data:=.fields #[f,.int i 0,.ref S,.int n 0,.int ep 0],slots:=#[] }/\h.get? S=some o
theorem SIt.type {s:Shared}{I S:Addr}{o:Obj}{f:Value}{i n ep:Nat} (h:SIt s.heap I S o f i n ep):s.TypeIs (.ref I) "set_iterator":=⟨_,h.1,rfl⟩
section
variable {P:Program}{w:World}{A:Around}{E:Value->Shared->Prop}{s:Shared}
theorem de {S:Addr}{o:Obj}{es:Array (Int × Value)}{ep:Nat}{t:SetTable}{Q:Array (Int × Value)->Shared->Prop} (ho:s.heap.get? S=some o) (hd:o.data=.set es ep t) (hf:t.fits es.size=true) (h:Q es s) :
  wpAny (model P w) A (setEntries S) Q E s:=wpAny_setEntries_of ho hd hf h
theorem k8 {S:Addr}{o:Obj}{es:Array (Int × Value)}{ep slot i:Nat}{t:SetTable}{Q:Option (Value × Nat)->Shared->Prop} (ho:s.heap.get? S=some o) (hd:o.data=.set es ep t) (hf:t.fits es.size=true) (hb:byT w=true)
  (h:Q (((pickOrder (w.params.setOrder S ep) es)[i]?).map λe=>(e.2,slot)) s):wpAny (model P w) A (setNext S slot i ep) Q E s:=by
 unfold setNext
 refine wpAny_bind (wpAny_setState_of ho hd hf ?_)
 dsimp only
 refine wpAny_bind (ca ?_)
 rw [if_pos hb]
 simp only [bne_self_eq_false,Bool.false_eq_true,if_false]
 refine wpAny_bind ?_
 unfold setWalk
 refine wpAny_bind (wpAny_setState_of ho hd hf ?_)
 dsimp only
 refine wpAny_bind (ca ?_)
 rw [if_pos hb]
 refine wpAny_bind (wpAny_askSetting (wpAny_pure ?_))
 exact wpAny_pure h
theorem jE {S:Addr}{o:Obj}{es:Array (Int × Value)}{ep slot i:Nat}{t:SetTable}{Q:Option (Value × Nat)->Shared->Prop} (ho:s.heap.get? S=some o) (hd:o.data=.set es ep t) (hf:t.fits es.size=true) (hb:byT w=false)
  (hdr:(!t.plain&&decide (es.size > 1))=false) (hled:t.led=true)
  (h:Q (match es[SetTable.below t.place slot]?,t.place[SetTable.below t.place slot]? with|some (_,x),some j=>some (x,j + 1)|_,_=>none) s):wpAny (model P w) A (setNext S slot i ep) Q E s:=by
 unfold setNext
 refine wpAny_bind (wpAny_setState_of ho hd hf ?_)
 dsimp only
 refine wpAny_bind (ca ?_)
 rw [if_neg (by rw [hb];simp)]
 refine wpAny_ite_split (λhab=>absurd (show (!t.plain&&decide (es.size > 1))=true from hab) (by rw [hdr];simp)) (λ_=>?_)
 refine wpAny_bind ?_
 show wpAny _ _ (if (!t.led&&!es.isEmpty)=true then _ else _) _ _ s
 rw [if_neg (by rw [hled];simp)]
 exact wpAny_pure (wpAny_pure h)
theorem sC {xs:Array Nat} (hr:kA xs) {i:Nat} (hi:i < xs.size):SetTable.below xs (xs.getD i 0 + 1)=i + 1:=by
 obtain ⟨h1,h2,h3⟩:=gh hr (xs.getD i 0 + 1)
 have a:i < SetTable.below xs (xs.getD i 0 + 1):=by
  by_cases q:SetTable.below xs (xs.getD i 0 + 1) <= i
  ·have:=h3 i q hi;omega
  ·omega
 have b:SetTable.below xs (xs.getD i 0 + 1) <= i + 1:=by
  by_cases q:i + 1 < SetTable.below xs (xs.getD i 0 + 1)
  ·have:=h2 (i + 1) q
   have:=hr i (i + 1) (by omega) (by omega)
   omega
  ·omega
 omega
theorem oj (xs:Array Nat) (hr:kA xs):SetTable.below xs 0=0:=by
 obtain ⟨h1,h2,h3⟩:=gh hr 0
 by_cases q:0 < SetTable.below xs 0
 ·have:=h2 0 q;omega
 ·omega
end
end L2.St
namespace L2.St
open PySem PyProof.Rows
section
variable {P:Program}{w:World}{A:Around}{E:Value->Shared->Prop}{s:Shared}{I S:Addr}{o:Obj}{es:Array (Int × Value)}{t:SetTable}{i n ep:Nat}
theorem kD {slot nx:Nat}{x:Value}{Q:Option Value->Shared->Prop} (hit:SIt s.heap I S o (.int slot 0) i n ep) (hd:o.data=.set es ep t) (hf:t.fits es.size=true) (hn:es.size=n) (hSI:S ≠ I)
  (hnx:∀ (A':Around) (s':Shared) (Q':Option (Value × Nat)->Shared->Prop) (E':Value->Shared->Prop),s'.heap.get? S=some o->Q' (some (x,nx)) s'->wpAny (model P w) A' (setNext S slot i ep) Q' E' s')
  (hQ:∀ h',SIt h' I S o (.int nx 0) (i + 1) n ep->Heap.SameBut I s.heap h'->Q (some x) { s with heap:=h' }):wpAny (model P w) A (pyNext (.ref I)) Q E s:=by
 unfold pyNext
 refine wpAny_bind (wpAny_attempt (wpAny_callSpecial?_slot (name:=Str.ofString "__next__") hit.type az (wpAny_call_entry az hit.type cg ?_ (cy _))))
 unfold Builtin.«set_iterator.__next__»
 refine wpAny_bind (m:=slotArgs "__next__" 0 _) (wpAny_pure ?_)
 refine wpAny_bind (wpAny_fieldsOf hit.1 rfl ?_)
 dsimp only
 refine wpAny_bind (de hit.2 hd hf ?_)
 rw [if_neg (by simp [hn])]
 try dsimp only
 simp only [Int.toNat_natCast]
 refine wpAny_bind (hnx _ _ _ _ hit.2 ?_)
 dsimp only
 refine wpAny_bind (wpAny_setField_rec hit.1 (by simp) λh1 e1 sb1=>?_)
 refine wpAny_bind (wpAny_setField_rec e1 (by simp) λh2 e2 sb2=>?_)
 refine wpAny_pure ⟨x,rfl,wpAny_pure (hQ h2 ⟨?_,?_⟩ (sb1.trans sb2))⟩
 ·simpa [rawInt] using e2
 ·exact ((sb1.trans sb2).2 S hSI).trans hit.2
theorem kE {slot:Nat}{Q:Option Value->Shared->Prop} (hh:A.handled=none) (hit:SIt s.heap I S o (.int slot 0) i n ep) (hd:o.data=.set es ep t) (hf:t.fits es.size=true) (hn:es.size=n)
  (hnx:∀ (A':Around) (s':Shared) (Q':Option (Value × Nat)->Shared->Prop) (E':Value->Shared->Prop),s'.heap.get? S=some o->Q' none s'->wpAny (model P w) A' (setNext S slot i ep) Q' E' s')
  (hQ:∀ h',(∀ b o,b ≠ I->s.heap.get? b=some o->h'.get? b=some o)->Q none { s with heap:=h' }):wpAny (model P w) A (pyNext (.ref I)) Q E s:=by
 unfold pyNext
 refine wpAny_bind (wpAny_attempt (wpAny_callSpecial?_slot (name:=Str.ofString "__next__") hit.type az (wpAny_call_entry az hit.type cg ?_ (cy _))))
 unfold Builtin.«set_iterator.__next__»
 refine wpAny_bind (m:=slotArgs "__next__" 0 _) (wpAny_pure ?_)
 refine wpAny_bind (wpAny_fieldsOf hit.1 rfl ?_)
 dsimp only
 refine wpAny_bind (de hit.2 hd hf ?_)
 rw [if_neg (by simp [hn])]
 try dsimp only
 simp only [Int.toNat_natCast]
 refine wpAny_bind (hnx _ _ _ _ hit.2 ?_)
 dsimp only
 refine wpAny_bind (wpAny_setField_rec hit.1 (by simp) λh1 e1 sb1=>?_)
 refine iw (v:=.none) (vs:=#[]) (it:=0) (Q:=λ_ _=>True) (by first|exact hh|simpa using hh) λe s' kp ⟨h',eq⟩ hT=>?_
 subst eq
 refine wpAny_bind (wpAny_isInstance (T:="StopIteration") (b:=true) hT isSubtype_stop ?_)
 exact wpAny_pure (hQ h' λb o hb q=>kp b o ((sb1.2 b hb).trans q))
theorem jF {Tp:Addr}{ot:Obj}{ps:Array Value}{pn place:Nat}{pt:Tok}{hx:Int}{x:Value}{Q:Option Value->Shared->Prop} (hit:SIt s.heap I S o (.ref Tp) i n ep) (hd:o.data=.set es ep t) (hf:t.fits es.size=true) (hn:es.size=n) (hSI:S ≠ I)
  (hTp:s.heap.get? Tp=some ot) (hTd:ot.data=.seq ps pn) (hp:ps[i]?=some (.int place pt)) (hx':es[place]?=some (hx,x))
  (hQ:∀ h',SIt h' I S o (.ref Tp) (i + 1) n ep->Heap.SameBut I s.heap h'->Q (some x) { s with heap:=h' }):wpAny (model P w) A (pyNext (.ref I)) Q E s:=by
 unfold pyNext
 refine wpAny_bind (wpAny_attempt (wpAny_callSpecial?_slot (name:=Str.ofString "__next__") hit.type az (wpAny_call_entry az hit.type cg ?_ (cy _))))
 unfold Builtin.«set_iterator.__next__»
 refine wpAny_bind (m:=slotArgs "__next__" 0 _) (wpAny_pure ?_)
 refine wpAny_bind (wpAny_fieldsOf hit.1 rfl ?_)
 dsimp only
 refine wpAny_bind (de hit.2 hd hf ?_)
 rw [if_neg (by simp [hn])]
 try dsimp only
 refine wpAny_bind (wpAny_seqItems hTp hTd ?_)
 dsimp only
 simp only [Int.toNat_natCast,hp]
 refine wpAny_bind ?_
 unfold setNextDrawn
 refine wpAny_bind (wpAny_setState_of hit.2 hd hf ?_)
 dsimp only
 simp only [bne_self_eq_false,Bool.false_eq_true,if_false,Int.toNat_natCast,hx']
 refine wpAny_pure ?_
 refine wpAny_bind (wpAny_setField_rec hit.1 (by simp) λh1 e1 sb1=>?_)
 refine wpAny_pure ⟨x,rfl,wpAny_pure (hQ h1 ⟨?_,?_⟩ sb1)⟩
 ·simpa [rawInt] using e1
 ·exact (sb1.2 S hSI).trans hit.2
theorem jG {Tp:Addr}{ot:Obj}{ps:Array Value}{pn:Nat}{Q:Option Value->Shared->Prop} (hh:A.handled=none) (hit:SIt s.heap I S o (.ref Tp) i n ep) (hd:o.data=.set es ep t) (hf:t.fits es.size=true) (hn:es.size=n)
  (hTp:s.heap.get? Tp=some ot) (hTd:ot.data=.seq ps pn) (hp:ps[i]?=none)
  (hQ:∀ h',(∀ b o,b ≠ I->s.heap.get? b=some o->h'.get? b=some o)->Q none { s with heap:=h' }):wpAny (model P w) A (pyNext (.ref I)) Q E s:=by
 unfold pyNext
 refine wpAny_bind (wpAny_attempt (wpAny_callSpecial?_slot (name:=Str.ofString "__next__") hit.type az (wpAny_call_entry az hit.type cg ?_ (cy _))))
 unfold Builtin.«set_iterator.__next__»
 refine wpAny_bind (m:=slotArgs "__next__" 0 _) (wpAny_pure ?_)
 refine wpAny_bind (wpAny_fieldsOf hit.1 rfl ?_)
 dsimp only
 refine wpAny_bind (de hit.2 hd hf ?_)
 rw [if_neg (by simp [hn])]
 try dsimp only
 refine wpAny_bind (wpAny_seqItems hTp hTd ?_)
 dsimp only
 simp only [Int.toNat_natCast,hp]
 refine wpAny_bind (wpAny_setField_rec hit.1 (by simp) λh1 e1 sb1=>?_)
 refine wpAny_bind (wpAny_setField_rec e1 (by simp) λh2 e2 sb2=>?_)
 refine iw (v:=.none) (vs:=#[]) (it:=0) (Q:=λ_ _=>True) (by first|exact hh|simpa using hh) λe s' kp ⟨h',eq⟩ hT=>?_
 subst eq
 refine wpAny_bind (wpAny_isInstance (T:="StopIteration") (b:=true) hT isSubtype_stop ?_)
 exact wpAny_pure (hQ h' λb o hb q=>kp b o (((sb1.trans sb2).2 b hb).trans q))
end
structure lZ (P:Program) (w:World) (I:Addr) (fp:List Addr) (order:List Int) (St:Nat->Heap->Prop):Prop where
 mem:I ∈ fp
 ty:∀ i h,St i h->∃ o,h.get? I=some o/\o.cls=.type "set_iterator"
 frame:∀ i h h',St i h->(∀ b ∈ fp,∀ o,h.get? b=some o->h'.get? b=some o)->St i h'
 item:∀ (A:Around) i (s:Shared) (Q:Option Value->Shared->Prop) (E:Value->Shared->Prop),i < order.length->St i s.heap ->
  (∀ t h',St (i + 1) h'->(∀ b o,b ≠ I->s.heap.get? b=some o->h'.get? b=some o)->Q (some (.int (order.getD i 0) t)) { s with heap:=h' })->wpAny (model P w) A (pyNext (.ref I)) Q E s
 done:∀ (A:Around) (s:Shared) (Q:Option Value->Shared->Prop) (E:Value->Shared->Prop),A.handled=none->St order.length s.heap ->
  (∀ h',(∀ b o,b ≠ I->s.heap.get? b=some o->h'.get? b=some o)->Q none { s with heap:=h' })->wpAny (model P w) A (pyNext (.ref I)) Q E s
theorem lZ.walks {P:Program}{w:World}{I:Addr}{fp:List Addr}{order:List Int}{St:Nat->Heap->Prop} (W:lZ P w I fp order St) {A:Around} (hh:A.handled=none) :
  Walks P w A I fp [I] order.length (λi v=>∃ t,v=.int (order.getD i 0) t) St where
 sub:=λb hb=>by rw [List.mem_singleton.mp hb];exact W.mem
 frame:=W.frame
 item:=λi s Q E hi st hQ=>W.item A i s Q E hi st λt h' st' kp=>hQ _ h' s.toks ⟨t,rfl⟩ st' λb o hb e=>kp b o (λz=>hb (by rw [z];exact List.mem_singleton.mpr rfl)) e
 done:=λs Q E st hQ=>W.done A s Q E hh st λh' kp=>hQ h' s.toks λb o hb e=>kp b o (λz=>hb (by rw [z];exact List.mem_singleton.mpr rfl)) e
 self:=λi s Q E st h=>by
  obtain ⟨o,e,c⟩:=W.ty i _ st
  exact sB ⟨o,e,c⟩ h
section
variable {P:Program}{w:World}{A:Around}{E:Value->Shared->Prop}{s:Shared}
theorem gJ {l:List (Int × Value)}{i:Nat}{e:Int × Value} (h:l[i]?=some e):(l.map λe=>numOf e.2).getD i 0=numOf e.2:=by
 rw [List.getD_eq_getElem?_getD,List.getElem?_map,h];rfl
set_option maxRecDepth 100000 in
theorem sD {S:Addr}{ks:List Int}{Q:Value->Shared->Prop} (g:a7 P w s.heap S ks)
  (hQ:∀ (I:Addr) (h':Heap) (d':Drawn) (fp:List Addr) (order:List Int) (St:Nat->Heap->Prop),order.Perm ks->(∀ b o,s.heap.get? b=some o->h'.get? b=some o)->s.heap.objs.size <= I->(∀ b ∈ fp,b=S \/ s.heap.objs.size <= b)->(∀ b ∈ fp,b < h'.objs.size) ->
   lZ P w I fp order St->St 0 h'->Q (.ref I) { s with heap:=h',drawn:=d' }):wpAny (model P w) A (pyIter (.ref S)) Q E s:=by
 obtain ⟨o,es,ep,t,ho,hex,hd,hel,hpm,hnd,hb,hf,hgd⟩:=g
 have hT:s.TypeIs (.ref S) "set":=⟨o,ho,hex.1⟩
 have hSlt:S < s.heap.objs.size:=Heap.lt_size ho
 have hps:t.place.size=es.size:=by simp [SetTable.fits] at hf;exact hf.1
 have hlen:es.size=ks.length:=by have:=hpm.length_eq;simpa using this
 refine wpAny_pyIter_slot hT PySem.F.slot_set_iter (wpAny_call_entry PySem.F.slot_set_iter hT jC ?_ (PySem.F.args_set_iter_1 _))
 unfold Builtin.«frozenset.__iter__»
 refine wpAny_bind (m:=Builtin.Frozenset.slot0 "__iter__" _) (wpAny_pure ?_)
 refine wpAny_bind (m:=Builtin.Frozenset.sizeOf S) (wpAny_bind (de ho hd hf (wpAny_pure ?_)))
 refine wpAny_bind (m:=setDrawn S) ?_
 unfold setDrawn
 refine wpAny_bind (wpAny_setState_of ho hd hf ?_)
 dsimp only
 refine wpAny_bind (ca (wpAny_pure ?_))
 have slotted:∀ (order:List (Int × Value)) (fs:Nat->Nat),order.Perm es.toList->fs 0=0 ->
   (∀ (A':Around) i (s':Shared) (Q':Option (Value × Nat)->Shared->Prop) (E':Value->Shared->Prop) e,order[i]?=some e->s'.heap.get? S=some o->Q' (some (e.2,fs (i + 1))) s'->wpAny (model P w) A' (setNext S (fs i) i ep) Q' E' s') ->
   (∀ (A':Around) (s':Shared) (Q':Option (Value × Nat)->Shared->Prop) (E':Value->Shared->Prop),s'.heap.get? S=some o->Q' none s'->wpAny (model P w) A' (setNext S (fs order.length) order.length ep) Q' E' s') ->
   Q (.ref s.heap.objs.size) { s with heap:=s.heap.push { cls:=.type "set_iterator",data:=.fields #[.int 0 0,.int 0 0,.ref S,.int (es.size:Nat) 0,.int (ep:Nat) 0] } }:=by
  intro order fs hp h0 hstep hend
  have hol:order.length=es.size:=by have:=hp.length_eq;simpa using this
  refine hQ s.heap.objs.size _ s.drawn [s.heap.objs.size,S] (order.map λe=>numOf e.2) (λi h=>SIt h s.heap.objs.size S o (.int (fs i) 0) i es.size ep) ((hp.map _).trans hpm) (λb o e=>Heap.get?_push_of_some _ e) (Nat.le_refl _) (λb hb=>?_) (λb hb=>?_) ?_ ?_
  ·rcases List.mem_cons.mp hb with e|e
   ·exact .inr (Nat.le_of_eq e.symm)
   ·exact .inl (List.mem_singleton.mp e)
  ·rw [Heap.size_push]
   rcases List.mem_cons.mp hb with e|e
   ·rw [e];exact Nat.lt_succ_self _
   ·rw [List.mem_singleton.mp e];exact Nat.lt_succ_of_lt hSlt
  ·refine ⟨.head _,λi h st=>⟨_,st.1,rfl⟩,λi h h' st k=>⟨k _ (.head _) _ st.1,k _ (.tail _ (.head _)) _ st.2⟩,λA' i s' Q' E' hi st hq=>?_,λA' s' Q' E' hh st hq=>?_⟩
   ·rw [List.length_map] at hi
    obtain ⟨e,he⟩:∃ e,order[i]?=some e:=⟨_,List.getElem?_eq_getElem hi⟩
    have hm:e ∈ es.toList:=hp.mem_iff.mp (List.mem_of_getElem? he)
    obtain ⟨tk,hv⟩:=cY hel e hm
    rw [gJ he] at hq
    refine kD (slot:=fs i) (nx:=fs (i + 1)) (x:=e.2) st hd hf rfl (Nat.ne_of_lt hSlt) (λA'' s'' Q'' E'' hs'' q=>hstep A'' i s'' Q'' E'' e he hs'' q) λh' st' sb=>?_
    rw [hv]
    exact hq tk h' st' λb o hb q=>(sb.2 b hb).trans q
   ·rw [List.length_map] at st
    exact kE (slot:=fs order.length) hh st hd hf rfl (λA'' s'' Q'' E'' hs'' q=>hend A'' s'' Q'' E'' hs'' q) hq
  ·refine ⟨?_,Heap.get?_push_of_some _ ho⟩
   rw [h0]
   exact Heap.get?_push_size _ rfl
 cases hbt:byT w with
 | true =>
  simp only [Bool.not_true,Bool.false_and,Bool.false_eq_true,if_false]
  refine wpAny_bind (wpAny_pure ?_)
  refine wpAny_bind (wpAny_setEpoch_of ho hd hf ?_)
  refine wpAny_bind (wpAny_newObj_type (wpAny_pure ⟨_,rfl,"set_iterator",_,⟨_,Heap.get?_push_size _ rfl,rfl⟩,az.lookup,?_⟩))
  have q:=slotted (pickOrder (w.params.setOrder S ep) es).toList (λ_=>0) (k7 _ _) rfl
   (λA' i s' Q' E' e he hs' q=>k8 hs' hd hf hbt (by rw [<- Array.getElem?_toList,he];exact q))
   (λA' s' Q' E' hs' q=>k8 hs' hd hf hbt (by rw [Array.getElem?_eq_none (by simp)];exact q))
  simpa [rawInt] using q
 | false =>
  cases hdr:(!t.plain&&decide (es.size > 1)) with
  | false =>
   refine wpAny_ite_split (λhab=>absurd (show (!false&&(!t.plain&&decide (es.size > 1)))=true from hab) (by rw [hdr];simp)) (λ_=>?_)
   refine wpAny_bind (wpAny_pure ?_)
   refine wpAny_bind (wpAny_setEpoch_of ho hd hf ?_)
   refine wpAny_bind (wpAny_newObj_type (wpAny_pure ⟨_,rfl,"set_iterator",_,⟨_,Heap.get?_push_size _ rfl,rfl⟩,az.lookup,?_⟩))
   have hled:t.led=true:=by rw [hgd.led,hbt];rfl
   have hfs:∀ i,i <= t.place.size->SetTable.below t.place (match i with|0=>0|j + 1=>t.place.getD j 0 + 1)=i:=λi hi=>by
    cases i with
    | zero=>exact oj _ hgd.rise
    | succ j=>exact sC hgd.rise (by omega)
   have q:=slotted es.toList (λi=>match i with|0=>0|j + 1=>t.place.getD j 0 + 1) (.refl _) rfl
    (λA' i s' Q' E' e he hs' q=>jE hs' hd hf hbt hdr hled (by
     have hi:i < es.size:=by have:=(List.getElem?_eq_some_iff.mp he).1;simpa using this
     rw [hfs i (by omega)]
     rw [<- Array.getElem?_toList,he,Array.getElem?_eq_getElem (by omega:i < t.place.size)]
     have e2:t.place.getD i 0=t.place[i]:=by simp [Array.getD,(by omega:i < t.place.size)]
     dsimp only at q ⊢
     rw [e2] at q
     exact q))
    (λA' s' Q' E' hs' q=>jE hs' hd hf hbt hdr hled (by
     rw [hfs _ (by simp [hps]),Array.getElem?_eq_none (by simp)]
     exact q))
   simpa [rawInt] using q
  | true =>
   refine wpAny_ite_split (λ_=>?_) (λhab=>absurd (show (!false&&(!t.plain&&decide (es.size > 1)))=true by rw [hdr];rfl) hab)
   refine wpAny_bind (gj _ _ _ (by simp) λplaces d' hperm=>?_)
   refine wpAny_bind (wpAny_newTuple ?_ (by simp;have:=hperm.length_eq;simp at this;rw [this,sizeLine_eq];unfold scanBound at hb;omega))
   refine wpAny_bind (wpAny_setEpoch_of (Heap.get?_push_of_some _ ho) hd hf ?_)
   refine wpAny_bind (wpAny_newObj_type (wpAny_pure ⟨_,rfl,"set_iterator",_,⟨_,Heap.get?_push_size _ rfl,rfl⟩,az.lookup,?_⟩))
   have hpl:places.length=es.size:=by have:=hperm.length_eq;simpa using this
   have hat:∀ p ∈ places,p < es.size:=λp hp=>by have:=hperm.mem_iff.mp hp;simpa using this
   have hT0:((s.heap.push { cls:=.type "tuple",data:=.seq (List.map (λ(i:Nat)=>rawInt i) places).toArray }).push { cls:=.type "set_iterator",data:=.fields #[.ref s.heap.objs.size,.int 0 0,.ref S,.int (es.size:Nat) 0,.int (ep:Nat) 0] }).get? s.heap.objs.size=some { cls:=.type "tuple",data:=.seq (List.map (λ(i:Nat)=>rawInt i) places).toArray } :=
    Heap.get?_push_of_some _ (Heap.get?_push_size _ rfl)
   have q:=hQ (s.heap.push { cls:=.type "tuple",data:=.seq (List.map (λ(i:Nat)=>rawInt i) places).toArray }).objs.size
    ((s.heap.push { cls:=.type "tuple",data:=.seq (List.map (λ(i:Nat)=>rawInt i) places).toArray }).push { cls:=.type "set_iterator",data:=.fields #[.ref s.heap.objs.size,.int 0 0,.ref S,.int (es.size:Nat) 0,.int (ep:Nat) 0] }) d'
    [(s.heap.push { cls:=.type "tuple",data:=.seq (List.map (λ(i:Nat)=>rawInt i) places).toArray }).objs.size,S,s.heap.objs.size]
    (places.map λp=>(es.toList.map λe=>numOf e.2).getD p 0)
    (λi h=>SIt h (s.heap.push { cls:=.type "tuple",data:=.seq (List.map (λ(i:Nat)=>rawInt i) places).toArray }).objs.size S o (.ref s.heap.objs.size) i es.size ep/\h.get? s.heap.objs.size=some { cls:=.type "tuple",data:=.seq (List.map (λ(i:Nat)=>rawInt i) places).toArray })
    ?p1 (λb o e=>Heap.get?_push_of_some _ (Heap.get?_push_of_some _ e)) (by rw [Heap.size_push];exact Nat.le_succ _) ?p2 ?p3 ?p4 ⟨⟨Heap.get?_push_size _ rfl,Heap.get?_push_of_some _ (Heap.get?_push_of_some _ ho)⟩,hT0⟩
   ·simpa [rawInt] using q
   case p1 =>
    have e1:(es.toList.map λe=>numOf e.2).length=es.size:=by simp
    have h1:=hperm.map λp=>(es.toList.map λe=>numOf e.2).getD p 0
    rw [<- e1,vO] at h1
    exact h1.trans hpm
   case p2 =>
    intro b hb
    simp only [List.mem_cons,List.not_mem_nil,or_false] at hb
    rcases hb with e|e|e
    ·exact .inr (by rw [e,Heap.size_push];exact Nat.le_succ _)
    ·exact .inl e
    ·exact .inr (Nat.le_of_eq e.symm)
   case p3 =>
    intro b hb
    rw [Heap.size_push]
    simp only [List.mem_cons,List.not_mem_nil,or_false] at hb
    rcases hb with e|e|e
    ·rw [e];exact Nat.lt_succ_self _
    ·rw [e,Heap.size_push];exact Nat.lt_succ_of_lt (Nat.lt_succ_of_lt hSlt)
    ·rw [e,Heap.size_push];exact Nat.lt_succ_of_lt (Nat.lt_succ_self _)
   case p4 =>
    refine ⟨.head _,λi h st=>⟨_,st.1.1,rfl⟩,λi h h' st k=>⟨⟨k _ (.head _) _ st.1.1,k _ (.tail _ (.head _)) _ st.1.2⟩,k _ (.tail _ (.tail _ (.head _))) _ st.2⟩,λA' i s' Q' E' hi st hq=>?_,λA' s' Q' E' hh st hq=>?_⟩
    ·rw [List.length_map] at hi
     obtain ⟨p,hp⟩:∃ p,places[i]?=some p:=⟨_,List.getElem?_eq_getElem hi⟩
     have hpz:p < es.size:=hat p (List.mem_of_getElem? hp)
     obtain ⟨e,he⟩:∃ e,es.toList[p]?=some e:=⟨_,List.getElem?_eq_getElem (by simpa using hpz)⟩
     obtain ⟨tk,hv⟩:=cY hel e (List.mem_of_getElem? he)
     have e3:(places.map λp=>(es.toList.map λe=>numOf e.2).getD p 0).getD i 0=numOf e.2:=by
      rw [List.getD_eq_getElem?_getD,List.getElem?_map,hp]
      exact gJ he
     rw [e3] at hq
     refine jF (place:=p) (pt:=0) (hx:=e.1) (x:=e.2) st.1 hd hf rfl (by rw [Heap.size_push];exact Nat.ne_of_lt (Nat.lt_succ_of_lt hSlt)) st.2 rfl (by simp [hp,rawInt]) (by rw [<- Array.getElem?_toList,he]) λh' st' sb=>?_
     rw [hv]
     exact hq tk h' ⟨st',(sb.2 _ (by rw [Heap.size_push];exact Nat.ne_of_lt (Nat.lt_succ_self _))).trans st.2⟩ λb o hb q=>(sb.2 b hb).trans q
    ·rw [List.length_map] at st
     exact jG hh st.1 hd hf rfl st.2 rfl (by simp) hq
end
end L2.St
namespace L2.St
open PySem PyProof.Rows
section
variable {P:Program}{w:World}{A:Around}{E:Value->Shared->Prop}{s:Shared}
theorem sE {r:Addr}{Q:Bool->Shared->Prop} (hT:s.TypeIs (.ref r) "set") (h:Q false s):wpAny (model P w) A (Builtin.List.listLengthHint (.ref r)) Q E s:=by
 unfold Builtin.List.listLengthHint
 refine wpAny_bind (wpAny_specialOf hT PySem.F.slot_set_len.lookup ?_)
 generalize hid:("set.__len__":String)=id0
 wp_delta
 rw [show splitId id0=some ("set","__len__") from by subst hid;decide +kernel]
 subst hid
 refine wpAny_bind (wpAny_isInstance (T:="set") (b:=true) hT (by rw [isSubtype_type];kernel_rfl) ?_)
 refine wpAny_ite_split (λhab=>absurd hab (by decide)) (λ_=>?_)
 refine wpAny_ite_split (λ_=>?_) (λhab=>absurd (by decide +kernel) hab)
 refine wpAny_bind (wpAny_typeOf hT ?_)
 exact wpAny_pure h
set_option maxRecDepth 100000 in
theorem m6 {S:Addr}{ks:List Int}{R:List Value->Shared->Prop} (hh:A.handled=none) (g:a7 P w s.heap S ks)
  (h:∀ (h':Heap) (tk:Nat) (d':Drawn) (acc:List Value) (order:List Int),(∀ b o,s.heap.get? b=some o->h'.get? b=some o)->order.Perm ks->IntsAre acc order->R acc { s with heap:=h',toks:=tk,drawn:=d' }) :
  wpAny (model P w) A (collect (.ref S)) R E s:=by
 have hks:ks.length < scanBound:=by
  obtain ⟨o,es,ep,t,ho,hex,hd,hel,hp,hn,hb,_⟩:=g
  have:=hp.length_eq
  have e:es.size=ks.length:=by simpa using this
  omega
 have hSlt:S < s.heap.objs.size:=by
  obtain ⟨o,es,ep,t,ho,_⟩:=g
  exact Heap.lt_size ho
 unfold collect
 refine wpAny_bind (wpAny_runValue (codeAny_builtin entry_proto_collect' ?_))
 rw [Around.under_plainId PySem.F.plain_proto_collect _]
 show wpAny _ A.in1 (newList [] >>= λl=>again (.builtin "list.__iadd__" ⟨[l,.ref S],[]⟩)) _ _ s
 refine wpAny_bind (wpAny_newObj_type ?_)
 refine wpAny_pure ⟨plainId_quiet PySem.F.plain_list_iadd _,codeAny_builtin entry_list_iadd' ?_⟩
 rw [Around.under_plainId PySem.F.plain_list_iadd _]
 have hS0:(s.heap.push { cls:=.type "list",data:=.seq ([]:List Value).toArray }).get? s.heap.objs.size=some { cls:=.type "list",data:=.seq #[] }:=Heap.get?_push_size _ rfl
 show wpAny _ A.in1 (Builtin.List.listExtendWith (.ref s.heap.objs.size) (.ref S) (.ref s.heap.objs.size)) _ _ _
 have g1:a7 P w (s.heap.push { cls:=.type "list",data:=.seq ([]:List Value).toArray }) S ks:=g.at λo e=>Heap.get?_push_of_some _ e
 have hT:Shared.TypeIs { s with heap:=s.heap.push { cls:=.type "list",data:=.seq ([]:List Value).toArray } } (.ref S) "set":=by
  obtain ⟨o,es,ep,t,ho,hex,_⟩:=g1
  exact ⟨o,ho,hex.1⟩
 unfold Builtin.List.listExtendWith
 refine wpAny_bind (wpAny_typeOf (T:="set") hT ?_)
 have q1:Builtin.List.listSameRef (.ref s.heap.objs.size) (.ref S)=false:=by simp [Builtin.List.listSameRef,Nat.ne_of_gt hSlt]
 have q2:(Value.type "set" == Value.type "list")=false:=by decide
 have q3:(Value.type "set" == Value.type "tuple")=false:=by decide
 simp only [q1,q2,q3,Bool.or_false,Bool.false_eq_true,if_false]
 refine wpAny_bind (sD g1 λI h1 d1 fp order St hperm kp hI hfp hlt W st=>?_)
 have hz0:(s.heap.push { cls:=.type "list",data:=.seq ([]:List Value).toArray }).objs.size=s.heap.objs.size + 1:=Heap.size_push ..
 have hLf:s.heap.objs.size ∉ fp:=λhm=>by
  rcases hfp _ hm with e|e
  ·exact Nat.lt_irrefl _ (by rw [<- e] at hSlt;exact hSlt)
  ·dsimp only at e
   rw [hz0] at e
   exact Nat.not_succ_le_self _ e
 have hol:order.length <= sizeLine:=by
  have:=hperm.length_eq
  rw [this]
  exact fits_of_scanBound hks
 have hT1:Shared.TypeIs { s with heap:=h1,drawn:=d1 } (.ref S) "set":=by
  obtain ⟨o,e,c⟩:=hT
  exact ⟨o,kp S o e,c⟩
 refine wpAny_bind (wpAny_holding (sE hT1 ?_))
 have WS:=(W.walks (A:=A.in1) (by first|exact hh|simpa using hh)).toS
 have fin:∀ (h2:Heap) (c1:Nat),St 0 h2->(∀ b o,b ≠ s.heap.objs.size->h1.get? b=some o->h2.get? b=some o)->h2.get? s.heap.objs.size=some { cls:=.type "list",dict:=none,data:=.seq #[] c1,slots:=#[] } ->
   codeAny (model P w) A (.builtin "list.extend.loop" ⟨[.ref s.heap.objs.size,.ref I,.ref s.heap.objs.size],[]⟩)
    (λr s'=>∃ (h':Heap) (tk:Nat) (acc':Array Value) (c':Nat),r=.ok (.ret (.ref s.heap.objs.size))/\s'={ s with heap:=h',toks:=tk,drawn:=d1 }/\(∀ b o,s.heap.get? b=some o->h'.get? b=some o) /\
     h'.get? s.heap.objs.size=some { cls:=.type "list",dict:=none,data:=.seq acc' c',slots:=#[] }/\IntsAre acc'.toList order) { s with heap:=h2,drawn:=d1 }:=by
  intro h2 c1 st2 k2 hS2
  refine codeAny_extend_loopS WS hol s.heap.objs.size hLf _ order.length 0 _ #[] c1 rfl (Nat.zero_le _) st2 hS2 (ItemsOf.nil _) λs' acc' c' hm hS' hacc=>?_
  refine ⟨s'.heap,s'.toks,acc',c',rfl,(by
   obtain ⟨h',g',dr',tk',os'⟩:=s'
   have eg:g'=s.gens:=hm.gens
   have ed:dr'=d1:=hm.drawn
   have eo:os'=s.os:=hm.os
   subst eg;subst ed;subst eo;rfl),λb o e=>?_,hS',kz hacc⟩
  have hbl:b ≠ s.heap.objs.size:=Nat.ne_of_lt (Heap.lt_size e)
  refine hm.heap b o (λhmem=>?_) (k2 b o hbl (kp b o (Heap.get?_push_of_some _ e)))
  rcases List.mem_cons.mp hmem with z|z
  ·exact hbl z
  ·have hbI:b=I:=List.mem_singleton.mp z
   rw [hbI] at e
   have hI':(s.heap.push { cls:=.type "list",data:=.seq ([]:List Value).toArray }).objs.size <= I:=hI
   rw [hz0] at hI'
   exact absurd (Nat.lt_of_lt_of_le (Heap.lt_size e) (Nat.le_of_succ_le hI')) (Nat.lt_irrefl _)
 have done:∀ (r:Result) (s':Shared),(∃ (h':Heap) (tk:Nat) (acc':Array Value) (c':Nat),r=.ok (.ret (.ref s.heap.objs.size))/\s'={ s with heap:=h',toks:=tk,drawn:=d1 }/\(∀ b o,s.heap.get? b=some o->h'.get? b=some o) /\
     h'.get? s.heap.objs.size=some { cls:=.type "list",dict:=none,data:=.seq acc' c',slots:=#[] }/\IntsAre acc'.toList order) ->
   wants (λv s'=>wpAny (model P w) A (match v with
    | Value.ref a=>do
     match (<- load a).data with
      | Data.seq xs _=>pure xs.toList
      | _=>unsupported "internal:collect"
    | _=>unsupported "internal:collect") R E s') E r s':=by
  rintro r s' ⟨h',tk,acc',c',rfl,rfl,k',hS',hi⟩
  show wpAny _ A (load s.heap.objs.size >>= _) _ _ _
  refine wpAny_bind (wpAny_load hS' ?_)
  exact wpAny_pure (h h' tk d1 acc'.toList order k' hperm hi)
 have h1L:h1.get? s.heap.objs.size=some { cls:=.type "list",dict:=none,data:=.seq #[] 0,slots:=#[] }:=kp _ _ hS0
 refine wpAny_ite_split (λ_=>?_) (λ_=>wpAny_pure ⟨plainId_quiet PySem.F.plain_extend_loop _,codeAny_mono (fin h1 0 st (λ_ _ _ e=>e) h1L) done⟩)
 refine wpAny_bind (wpAny_rule ?_)
 refine wpAny_bind ?_
 show wpAny _ _ (updateSeq s.heap.objs.size (·.push .none) >>= λ_=>updateSeq s.heap.objs.size (·.pop)) _ _ _
 refine wpAny_bind (wpAny_updateSeq h1L rfl ?_)
 have hS2:=Heap.get?_update_self (Obj.mapSeq (·.push Value.none)) h1L rfl
 refine wpAny_updateSeq (hz:=by seq_fits) hS2 rfl ?_
 have hS3:=Heap.get?_update_self (Obj.mapSeq (·.pop)) hS2 rfl
 refine wpAny_pure ⟨plainId_quiet PySem.F.plain_extend_loop _,codeAny_mono (fin _ _ ?_ (λb o hb e=>?_) hS3) done⟩
 ·refine W.frame 0 _ _ st λb hb o e=>?_
  have hbS:b ≠ s.heap.objs.size:=λz=>hLf (z ▸ hb)
  exact (Heap.get?_update_other _ _ (Ne.symm hbS)).trans ((Heap.get?_update_other _ _ (Ne.symm hbS)).trans e)
 ·exact (Heap.get?_update_other _ _ (Ne.symm hb)).trans ((Heap.get?_update_other _ _ (Ne.symm hb)).trans e)
end
end L2.St
namespace L2
open PySem PySem.Spec PyProof.Rows
noncomputable def fQ (scope osc:Scope):Scope :=
 { scope with names:=scope.names.map λ(n,k)=>if (k == .free&&osc.kind == .function&&osc.names.lookup n == some .cell) then (n,.cell) else (n,k) }
noncomputable def kF (osc:Scope) (n:Str) (k:NameKind):NameKind:=if (k == .free&&osc.kind == .function&&osc.names.lookup n == some .cell) then .cell else k
theorem gk (scope osc:Scope):(fQ scope osc).names=scope.names.map λq=>(q.1,kF osc q.1 q.2):=by
 show List.map _ scope.names=_
 refine List.map_congr_left λq _=>?_
 obtain ⟨n,k⟩:=q
 show (if (k == NameKind.free&&osc.kind == .function&&osc.names.lookup n == some .cell)=true then (n,NameKind.cell) else (n,k))=(n,kF osc n k)
 unfold kF
 split <;> rfl
theorem dD {α β:Type} (g:Str->α->β) (y:Str):∀ names:List (Str × α),(names.map λq=>(q.1,g q.1 q.2)).lookup y=(names.lookup y).map (g y)
 | []=>rfl
 | (n,k)::r=>by
  rw [List.map_cons]
  cases hx:y == n with
  | true =>
   simp only [List.lookup_cons,hx,Option.map_some]
   rw [eq_of_beq hx]
  | false =>
   simp only [List.lookup_cons,hx]
   exact dD g y r
theorem qo (osc:Scope) (n:Str):kF osc n .free=.cell \/ kF osc n .free=.free:=by
 unfold kF
 split
 ·exact .inl rfl
 ·exact .inr rfl
theorem qp {osc:Scope}{n:Str}{k:NameKind} (hk:k ≠ .cell) (h:kF osc n k=.cell \/ kF osc n k=.free):k=.free:=by
 unfold kF at h
 by_cases hc:(k == NameKind.free&&osc.kind == .function&&osc.names.lookup n == some .cell)=true
 ·simp only [Bool.and_eq_true] at hc
  exact eq_of_beq hc.1.1
 ·rw [if_neg hc] at h
  rcases h with h|h
  ·exact absurd h hk
  ·exact h
theorem gm {α:Type}{y:Str}{k:α}:∀ {l:List (Str × α)},l.lookup y=some k->(y,k) ∈ l
 | [],h=>by simp at h
 | (n,k')::r,h=>by
  cases hx:y == n with
  | true =>
   simp only [List.lookup_cons,hx] at h
   rw [eq_of_beq hx,Option.some.inj h];exact .head _
  | false =>
   simp only [List.lookup_cons,hx] at h
   exact .tail _ (gm h)
theorem qr {scope osc:Scope}{y:Str} (h:scope.names.lookup y=some .free):(fQ scope osc).names.lookup y=some .cell \/ (fQ scope osc).names.lookup y=some .free:=by
 rw [gk,dD,h,Option.map_some]
 rcases qo osc y with e|e
 ·exact .inl (by rw [e])
 ·exact .inr (by rw [e])
theorem qt {scope osc:Scope}{x y:Str} (hn:∀ z ∈ scope.names,z.2=.cell->z.1=x) (h:(fQ scope osc).names.lookup y=some .cell \/ (fQ scope osc).names.lookup y=some .free):(y,NameKind.free) ∈ scope.names \/ (y=x/\scope.names.lookup x=some .cell):=by
 rw [gk,dD] at h
 cases e:scope.names.lookup y with
 | none=>rw [e] at h;rcases h with h|h <;> cases h
 | some k =>
  rw [e,Option.map_some] at h
  have hm:=gm e
  by_cases hc:k=.cell
  ·subst hc
   have q:y=x:=hn _ hm rfl
   exact .inr ⟨q,by rw [<- q];exact e⟩
  ·have hk:k=.free:=qp hc (h.elim (λz=>.inl (Option.some.inj z)) λz=>.inr (Option.some.inj z))
   rw [hk] at hm
   exact .inl hm
theorem qu {scope osc:Scope}{y:Str} (h:scope.names.lookup y=some .cell):(fQ scope osc).names.lookup y=some .cell:=by
 rw [gk,dD,h,Option.map_some]
 unfold kF
 split
 ·rfl
 ·rfl
noncomputable def d8 (env:Env):List (Str × NameKind)->List (Str × Addr)->List (Str × Addr)
 | [],acc=>acc
 | (n,k)::r,acc=>if k == .free then d8 env r ((n,(env.cells.lookup n).getD 0)::acc) else d8 env r acc
theorem ix {env:Env}:∀ (names:List (Str × NameKind)) (acc:List (Str × Addr)),(∀ y ∈ names,y.2=.free->∃ c,env.cells.lookup y.1=some c) ->
  (forIn names acc λx r=>(match x with|(name,kind)=>if (kind == NameKind.free)=true then do let c <- cellOf env name;pure (ForInStep.yield ((name,c)::r)) else pure (ForInStep.yield r)):Sem (List (Str × Addr)))=pure (d8 env names acc)
 | [],acc,_=>rfl
 | (n,k)::r,acc,h=>by
  rw [List.forIn_cons]
  have hr:∀ y ∈ r,y.2=.free->∃ c,env.cells.lookup y.1=some c:=λy hy=>h y (.tail _ hy)
  by_cases hk:(k == NameKind.free)=true
  ·obtain ⟨c,hc⟩:=h (n,k) (.head _) (eq_of_beq hk)
   dsimp only
   rw [if_pos hk]
   have e1:cellOf env n=pure c:=by unfold cellOf;rw [hc]
   rw [e1]
   simp only [pure_bind]
   rw [ix r _ hr]
   show _=pure (if (k == NameKind.free)=true then _ else _)
   rw [if_pos hk,hc]
   all_goals rfl
  ·dsimp only
   rw [if_neg hk]
   simp only [pure_bind]
   rw [ix r _ hr]
   show _=pure (if (k == NameKind.free)=true then _ else _)
   rw [if_neg hk]
theorem jH {scope:Scope}{env:Env} (h:∀ y ∈ scope.names,y.2=.free->∃ c,env.cells.lookup y.1=some c):closureFor scope env=pure (d8 env scope.names []):=by
 unfold closureFor
 have:=ix (env:=env) scope.names [] h
 first
  | exact this
  | (rw [bind_pure];exact this)
  | simpa using this
theorem jI {env:Env}{y:Str}{c:Addr}:∀ (names:List (Str × NameKind)) (acc:List (Str × Addr)),(∀ z ∈ names,z.2=.free->∃ c,env.cells.lookup z.1=some c)->(∀ c,acc.lookup y=some c->env.cells.lookup y=some c) ->
  (d8 env names acc).lookup y=some c->env.cells.lookup y=some c
 | [],acc,_,ha,e=>ha c e
 | (n,k)::r,acc,h,ha,e=>by
  have hr:∀ y ∈ r,y.2=.free->∃ c,env.cells.lookup y.1=some c:=λy hy=>h y (.tail _ hy)
  have e':(if (k == NameKind.free)=true then d8 env r ((n,(env.cells.lookup n).getD 0)::acc) else d8 env r acc).lookup y=some c:=e
  by_cases hk:(k == NameKind.free)=true
  ·rw [if_pos hk] at e'
   refine jI r _ hr (λc' q=>?_) e'
   cases hx:y == n with
   | true =>
    simp only [List.lookup_cons,hx] at q
    obtain ⟨c0,hc0⟩:=h (n,k) (.head _) (eq_of_beq hk)
    have en:y=n:=eq_of_beq hx
    have hc1:env.cells.lookup n=some c0:=hc0
    rw [hc1] at q
    rw [en,hc1]
    exact q
   | false =>
    simp only [List.lookup_cons,hx] at q
    exact ha c' q
  ·rw [if_neg hk] at e'
   exact jI r _ hr ha e'
theorem gK {env:Env}{y:Str}:∀ (names:List (Str × NameKind)) (acc:List (Str × Addr)),((y,NameKind.free) ∈ names \/ ∃ c,acc.lookup y=some c)->∃ c,(d8 env names acc).lookup y=some c
 | [],acc,h=>by
  rcases h with h|h
  ·simp at h
  ·exact h
 | (n,k)::r,acc,h=>by
  show ∃ c,(if (k == NameKind.free)=true then d8 env r ((n,(env.cells.lookup n).getD 0)::acc) else d8 env r acc).lookup y=some c
  by_cases hk:(k == NameKind.free)=true
  ·rw [if_pos hk]
   refine gK r _ ?_
   cases hx:y == n with
   | true=>exact .inr ⟨(env.cells.lookup n).getD 0,by simp only [List.lookup_cons,hx]⟩
   | false =>
    rcases h with h|⟨c,h⟩
    ·rcases List.mem_cons.mp h with z|z
     ·have:y=n:=(Prod.mk.inj z).1
      rw [this] at hx
      simp at hx
     ·exact .inl z
    ·exact .inr ⟨c,by simp only [List.lookup_cons,hx];exact h⟩
  ·rw [if_neg hk]
   refine gK r _ ?_
   rcases h with h|h
   ·rcases List.mem_cons.mp h with z|z
    ·have:NameKind.free=k:=(Prod.mk.inj z).2
     rw [<- this] at hk
     simp at hk
    ·exact .inl z
   ·exact .inr h
structure l0 (osc:Scope) (N:List Str) (scope:Scope) (x:Str) (fvs:List Str) (js:List Nat):Prop where
 cells:∀ y ∈ scope.names,y.2=.cell->y.1=x
 once:scope.names.lookup x=some .local/\(scope.names.filter λy=>y.2 == .cell)=[] \/ scope.names.lookup x=some .cell/\(scope.names.filter λy=>y.2 == .cell)=[(x,.cell)]
 xf:∀ y ∈ scope.names,y.2=.free->y.1 ≠ x
 kind:scope.kind=.function
 names:∀ y ∈ scope.names,y.2=.local->scope.names.lookup y.1=some .local
 nd:(x::fvs).Nodup
 out:∀ y ∈ scope.names,y.2=.free->osc.names.lookup y.1=some .cell \/ osc.names.lookup y.1=some .free
 slots:(js.map λj=>N[j]?)=fvs.map some
 free:∀ y ∈ fvs,scope.names.lookup y=some .free
noncomputable def iy (scope:Scope) (x:Str) (C:Addr):List (Str × Addr):=if scope.names.lookup x=some .cell then [(x,C + 1)] else []
noncomputable def Cx.blk (X:Cx) (x:Str) (fvs:List Str) (scope:Scope) (s₁:Shared) (H₁:Hp) (C:Addr) (fp:List Addr):Cx :=
 { X with N:=x::fvs,s₀:=s₁,H₀:=H₁,env:=compEnvC scope (iy scope x C ++ d8 X.env scope.names []) C X.env,outer:=X.stack,ex:=fp,fn:=λy=>decide (y=x/\scope.names.lookup x=some .cell),pn:=[],xe:=λ_ _=>False }
theorem jJ {M:Model}{A:Around}{E:Value->Shared->Prop}:∀ {names:List (Str × NameKind)}{acc:List (Str × Addr)}{s:Shared}{Q:List (Str × Addr)->Shared->Prop},(names.filter λy=>y.2 == .cell)=[]->Q acc s ->
  wpAny M A (forIn names acc λx r=>(match x with|(name,kind)=>if (kind == NameKind.cell)=true then do let c <- alloc { cls:=.type "cell",data:=.cell none };pure (ForInStep.yield ((name,c)::r)) else pure (ForInStep.yield r)):Sem (List (Str × Addr))) Q E s
 | [],_,_,_,_,h=>wpAny_pure h
 | (n,k)::r,acc,s,Q,hf,h=>by
  rw [List.forIn_cons]
  have hk:(k == NameKind.cell)=false:=by
   cases q:(k == NameKind.cell) with
   | false=>rfl
   | true=>rw [List.filter_cons_of_pos (by exact q)] at hf;cases hf
  rw [List.filter_cons_of_neg (by rw [hk];decide)] at hf
  dsimp only
  rw [if_neg (by rw [hk];decide)]
  exact wpAny_bind (wpAny_pure (jJ hf h))
theorem k9 {M:Model}{A:Around}{E:Value->Shared->Prop}{x:Str}:∀ {names:List (Str × NameKind)}{acc:List (Str × Addr)}{s:Shared}{Q:List (Str × Addr)->Shared->Prop},(names.filter λy=>y.2 == .cell)=[(x,.cell)] ->
  Q ((x,s.heap.objs.size)::acc) { s with heap:=s.heap.push { cls:=.type "cell",data:=.cell none } } ->
  wpAny M A (forIn names acc λx r=>(match x with|(name,kind)=>if (kind == NameKind.cell)=true then do let c <- alloc { cls:=.type "cell",data:=.cell none };pure (ForInStep.yield ((name,c)::r)) else pure (ForInStep.yield r)):Sem (List (Str × Addr))) Q E s
 | [],_,_,_,hf,_=>by cases hf
 | (n,k)::r,acc,s,Q,hf,h=>by
  rw [List.forIn_cons]
  dsimp only
  cases hk:(k == NameKind.cell) with
  | false =>
   rw [List.filter_cons_of_neg (by rw [hk];decide)] at hf
   rw [if_neg (by decide)]
   exact wpAny_bind (wpAny_pure (k9 hf h))
  | true =>
   rw [List.filter_cons_of_pos (by exact hk)] at hf
   obtain ⟨e1,e2⟩:=List.cons.inj hf
   cases e1
   rw [if_pos rfl]
   exact wpAny_bind (wpAny_bind (wpAny_alloc (wpAny_pure (jJ e2 h))))
theorem ol {M:Model}{A:Around}{E:Value->Shared->Prop}{scope:Scope}{x:Str}{globals:Addr}{cl:List (Str × Addr)}{qual:Str}{env:Env}{s:Shared}{Q:Env->Shared->Prop} (hk:scope.kind=.function)
  (ho:scope.names.lookup x=some .local/\(scope.names.filter λy=>y.2 == .cell)=[] \/ scope.names.lookup x=some .cell/\(scope.names.filter λy=>y.2 == .cell)=[(x,.cell)])
  (h:∀ h' m,h'.Ns s.heap.objs.size m->(∀ b u,s.heap.get? b=some u->h'.get? b=some u)->(scope.names.lookup x=some .cell->h'.IsCell (s.heap.objs.size + 1) none)->Q (newEnv scope s.heap.objs.size globals (iy scope x s.heap.objs.size ++ cl) qual none .none (some env) builtinsNs) { s with heap:=h' }) :
  wpAny M A (newFunctionEnv scope globals cl [] qual none .none (some env)) Q E s:=by
 rcases ho with ⟨h1,h2⟩|⟨h1,h2⟩
 ·refine wpAny_newFunctionEnv (λy hy z=>?_) (by intro y hy;simp at hy) (λh' hns hsb=>?_) hk
  ·have:y ∈ scope.names.filter λy=>y.2 == .cell:=List.mem_filter.mpr ⟨hy,by rw [z];rfl⟩
   rw [h2] at this
   cases this
  ·have q:=h h' _ hns (λb u e=>hsb.extBut b u (Nat.ne_of_lt (Heap.lt_size e)) (Heap.get?_push_of_some _ e)) λz=>by rw [h1] at z;cases z
   unfold iy at q
   rw [if_neg (by rw [h1];simp)] at q
   exact q
 ·unfold newFunctionEnv
  refine wpAny_bind (wpAny_alloc (wpAny_bind (k9 h2 ?_)))
  have hn:=Heap.Ns.new s.heap (.type "dict")
  have hs:(s.heap.push { cls:=.type "dict",data:=.dict #[] }).objs.size=s.heap.objs.size + 1:=Heap.size_push _ _
  have q:=h ((s.heap.push { cls:=.type "dict",data:=.dict #[] }).push { cls:=.type "cell",data:=.cell none }) _ (hn.keeps λb o e=>Heap.get?_push_of_some _ e) (λb u e=>Heap.get?_push_of_some _ (Heap.get?_push_of_some _ e)) λ_=>⟨_,by rw [<- hs];exact Heap.get?_push_size _ rfl,rfl⟩
  unfold iy at q
  rw [if_pos h1] at q
  rw [<- hs] at q
  exact wpAny_bind (wpAny_pure (wpAny_pure q))
noncomputable def fR (js:List Nat) (σ:St):St:=none::js.map λj=>(σ[j]?).join
noncomputable def PF (X:Cx) (ifs:List Expr) (t:TT):Prop :=
 ∀ (pins:List (Addr × Obj)) (s:Shared) (σ:St) (H:Hp) (Q:Bool->Hp->Prop),Inv X pins σ H s->t σ H Q ->
  wpAny (model X.prog X.w) X.A (forIn ifs true λc r=>if r=true then do let ok <- isTrue c X.env (eval c X.env);pure (ForInStep.yield ok) else pure (ForInStep.yield r)) (TP X pins σ Q) X.xe s
noncomputable def BY:TT:=λ_ H Q=>Q true H
theorem x6 {X:Cx}:PF X [] BY:=λ_ _ _ H _ I h=>wpAny_tests_nil ⟨H,I,h⟩
theorem x9 {X:Cx}{c:Expr}{t:TT} (h:PT X c t):PF X [c] t:=λpins s σ H Q I q=>wpAny_tests_one (h pins s σ H Q I q)
section
variable {prog:Program}{w:World}{A:Around}{R:Result->Shared->Prop}{s:Shared}
theorem qv {elt target iter:Expr}{ifs:List Expr}{scope:Scope}{pos:Pos}{it acc:Value}{env:Env} (J:Nat->Shared->Prop)
  (turn:∀ n s,J n s->wpAny (model prog w) A (pyNext it) (λr s1=>match r with
   | none=>R (.ok .next) s1
   | some v=>wpAny (model prog w) A (letOwnedTupleGo target it v) (λ_ s2=>wpAny (model prog w) A (assign target env v) (λ_ s3 =>
     wpAny (model prog w) A (forIn ifs true λc r=>if r=true then do let ok <- isTrue c env (eval c env);pure (ForInStep.yield ok) else pure (ForInStep.yield r)) (λok s4 =>
      if ok=true then wpAny (model prog w) A (eval elt env) (λx s5 =>
       wpAny (model prog w) A (call (.builtin "list.append") [acc,x]) (λ_ s6=>∃ m,m < n/\J m s6) (λ_ _=>False) s5) (λ_ _=>False) s4
      else ∃ m,m < n/\J m s4) (λ_ _=>False) s3) (λ_ _=>False) s2) (λ_ _=>False) s1) (λ_ _=>False) s)
  (n:Nat) (h:J n s):codeAny (model prog w) A (.compLoop (.ListComp elt [⟨target,iter,ifs,0⟩] scope pos) 0 it acc env) R s:=by
 have up:∀ {α:Type}{t:Sem α}{Q:α->Shared->Prop}{E:Value->Shared->Prop}{s:Shared},wpAny (model prog w) A t Q (λ_ _=>False) s->wpAny (model prog w) A t Q E s:=λq=>wpAny_mono q (λ_ _ z=>z) λ_ _ z=>z.elim
 refine codeAny_loop rfl J (λn s hJ=>?_) n h
 show wpAny _ A ((compTurn (.ListComp elt [⟨target,iter,ifs,0⟩] scope pos) 0 it acc env).onRaise (λx=>do noteFrame x env;theTreesLotGoes x)) _ _ s
 refine wpAny_noted ?_
 rw [compTurn_list]
 refine wpAny_bind (wpAny_standAt (wpAny_bind (wpAny_mono (up (turn n s hJ)) (λr s1 h1=>?_) λ_ _ z=>z)))
 cases r with
 | none=>exact wpAny_pure h1
 | some v =>
  refine wpAny_bind (wpAny_mono (up h1) (λ_ s2 h2=>?_) λ_ _ z=>z)
  refine wpAny_bind (wpAny_mono (up h2) (λ_ s3 h3=>wpAny_bind (wpAny_mono (up h3) (λok s4 h4=>?_) λ_ _ z=>z)) λ_ _ z=>z)
  cases ok with
  | false=>exact wpAny_pure ⟨rfl,h4⟩
  | true=>exact wpAny_bind (wpAny_bind (wpAny_mono (up h4) (λx s5 h5=>wpAny_bind (wpAny_mono (up h5) (λ_ s6 h6=>wpAny_pure (wpAny_pure ⟨rfl,h6⟩)) λ_ _ z=>z)) λ_ _ z=>z))
end
noncomputable def wY (J:It) (σ0:St) (H1:Hp) (tt:TT) (te:TE) (D:Addr) (Q:VK):Prop :=
 ∃ W:Nat->Nat->St->Hp->Prop,(∃ m,W 0 m σ0 (upd H1 D (.lst [])))/\∀ i m σ' H',W i m σ' H' ->
  (J.stop i H'/\Q (.ref D) H') \/ (J.go i H'/\∃ N:St->Hp->Prop,(∀ σ2 H2,N σ2 H2->∃ m',m' < m/\W (i + 1) m' σ2 H2)/\∀ x H2,J.yld i H' x H2 ->
   tt (σ'.set 0 (some x)) H2 λb H3=>if b=true then te (σ'.set 0 (some x)) H3 λy H4=>∃ ys,H4 D=some (.lst ys)/\ys.length < sizeLine/\N (σ'.set 0 (some x)) (upd H4 D (.lst (ys ++ [y]))) else N (σ'.set 0 (some x)) H3)
noncomputable def sF (wi:TI) (js:List Nat) (tt:TT) (te:TE):TE:=λσ H Q=>wi σ H λJ H1=>∀ D,H1 D=none->wY J (fR js σ) H1 tt te D Q
section
variable {X:Cx}{elt iter:Expr}{x:Str}{px:Pos}{ifs:List Expr}{scope:Scope}{pos:Pos}{fvs:List Str}{js:List Nat}{wi:TI}{tt:TT}{te:TE}
theorem k_ (hsc:l0 X.env.scope X.N scope x fvs js) (hc:X.calm=true)
  (ht:∀ s₁ H₁ C fp,PF (X.blk x fvs scope s₁ H₁ C fp) ifs tt) (he:∀ s₁ H₁ C fp,PE (X.blk x fvs scope s₁ H₁ C fp) elt te)
  {pins:List (Addr × Obj)}{σ:St}{H2:Hp}{s2:Shared}{Q:VK}{it:Addr}{fp:List Addr}{tn:Nat->Heap->Prop}{J:It}{RR:Value->Addr->Result->Shared->Prop}
  (I2:Inv X pins σ H2 s2) (T:rP X.prog X.w X.K (.Name x px) J fp it tn) (st2:tn 0 s2.heap) (f2:∀ b ∈ fp,mP X pins H2 b)
  (hh:∀ D,H2 D=none->wY J (fR js σ) H2 tt te D Q)
  (fin:∀ (D C:Addr) (H':Hp) (s':Shared),Inv X pins σ H' s'->(∃ m,s'.heap.Ns C m)->H' C=none->C ≠ X.env.locals->X.s₀.heap.objs.size <= C->(∀ y c,X.env.cells.lookup y=some c->c ≠ C)->(∀ p ∈ X.pn ++ pins,p.1 ≠ C)->Q (.ref D) H' ->
   RR (.ref D) C (.ok .next) s') {E:Value->Shared->Prop} :
  wpAny (model X.prog X.w) X.A (newList []) (λacc s3=>wpAny (model X.prog X.w) X.A (newFunctionEnv scope X.env.globals (d8 X.env scope.names []) [] X.env.qual none .none (some X.env)) (λcenv s4 =>
   codeAny (model X.prog X.w) X.A (.compStart (.ListComp elt [⟨.Name x px,iter,ifs,0⟩] scope pos) 0 (.ref it) acc { cenv with scope:=relabel scope X.env }) (RR acc cenv.locals) s4) E s3) E s2:=by
 have fr:∀ y ∈ scope.names,y.2=.free->∃ c,X.env.cells.lookup y.1=some c:=λy hy hk=>I2.ok.has y.1 (hsc.out y hy hk)
 have sub:∀ y c,(d8 X.env scope.names []).lookup y=some c->X.env.cells.lookup y=some c:=λy c e=>jI scope.names [] fr (λ_ q=>by simp at q) e
 refine wpAny_newObj_type (ol (x:=x) hsc.kind hsc.once λh1 m1 hns1 hsb1 hcl1=>?_)
 dsimp only at hns1 hsb1 hcl1 ⊢
 have I3:Inv X pins σ (upd H2 s2.heap.objs.size (.lst [])) { s2 with heap:=s2.heap.push { cls:=.type "list",data:=.seq ([]:List Value).toArray },toks:=s2.toks }:=I2.lnew (ys:=[]) (its:=[]) .nil (Nat.zero_le _)
 generalize hG:s2.heap.push { cls:=.type "list",dict:=none,data:=.seq ([]:List Value).toArray }=G at hns1 hsb1 hcl1 I3 ⊢
 have hC:G.objs.size=s2.heap.objs.size + 1:=by rw [<- hG,Heap.size_push]
 obtain ⟨W,⟨m0,w0⟩,turn⟩:=hh s2.heap.objs.size I2.fresh
 have up:∀ b u,G.get? b=some u->h1.get? b=some u:=hsb1
 have look:∀ {y:Str}{c:Addr},(iy scope x G.objs.size ++ d8 X.env scope.names []).lookup y=some c->(y=x/\scope.names.lookup x=some .cell/\c=G.objs.size + 1) \/ (d8 X.env scope.names []).lookup y=some c:=λ{y c} e=>by
  unfold iy at e
  by_cases q:scope.names.lookup x=some .cell
  ·rw [if_pos q] at e
   by_cases z:(y == x)=true
   ·rw [List.cons_append,List.lookup_cons,z] at e
    exact .inl ⟨eq_of_beq z,q,(Option.some.inj e).symm⟩
   ·rw [List.cons_append,List.lookup_cons,(Bool.not_eq_true _).mp z] at e
    exact .inr e
  ·rw [if_neg q] at e
   exact .inr e
 have Cfr:∀ {H':Hp}{s':Shared},Inv X pins σ H' s'->True:=λ_=>trivial
 have nC:(upd H2 s2.heap.objs.size (.lst [])) G.objs.size=none:=I3.hok.fresh (Nat.le_refl _)
 have cL:G.objs.size ≠ X.env.locals:=Nat.ne_of_gt I3.lt
 have cS:X.s₀.heap.objs.size <= G.objs.size:=I3.sz
 have cC:∀ y c,X.env.cells.lookup y=some c->c ≠ G.objs.size:=λy c e z=>by
  obtain ⟨v,q⟩:=I3.cell y c e
  exact absurd (show c < G.objs.size from q.lt) (by rw [z];exact Nat.lt_irrefl _)
 have cP:∀ p ∈ X.pn ++ pins,p.1 ≠ G.objs.size:=λp hp z=>absurd (show p.1 < G.objs.size from Heap.lt_size (I3.pin p hp).1) (by rw [z];exact Nat.lt_irrefl _)
 have fpl:∀ b ∈ fp,b < s2.heap.objs.size:=λb hb=>by
  obtain ⟨o,e,_⟩:=T.obj 0 _ st2 b hb
  exact Heap.lt_size e
 have ok:(X.blk x fvs scope { s2 with heap:=G,toks:=s2.toks } (upd H2 s2.heap.objs.size (.lst [])) G.objs.size fp).Ok:=by
  have hb:∀ b ∈ fp,b ∉ frs X.stack:=λb hb z=>(List.mem_cons.mp (I2.stkSub b z)).elim (f2 b hb).2.1 (f2 b hb).2.2.1
  exact {
   mod:=I3.ok.mod
   kind:=by show (relabel scope X.env).kind=_;exact hsc.kind
   glob:=I3.ok.glob
   blt:=I3.ok.blt
   above:=Nat.le_refl _
   inj:=λy z c e1 e2=>by
    have lt:∀ {y:Str},(d8 X.env scope.names []).lookup y=some c->c < G.objs.size:=λ{y} e=>by
     obtain ⟨v,q⟩:=I3.cell y c (sub y c e)
     exact q.lt
    rcases look e1 with ⟨a1,_,a2⟩|a1
    ·rcases look e2 with ⟨b1,_,_⟩|b1
     ·rw [a1,b1]
     ·exact absurd (lt b1) (by rw [a2];exact Nat.not_lt.mpr (Nat.le_succ _))
    ·rcases look e2 with ⟨_,_,b2⟩|b1
     ·exact absurd (lt a1) (by rw [b2];exact Nat.not_lt.mpr (Nat.le_succ _))
     ·exact I3.ok.inj y z c (sub y c a1) (sub z c b1)
   has:=λy hy=>by
    show ∃ c,(iy scope x G.objs.size ++ d8 X.env scope.names []).lookup y=some c
    unfold iy
    rcases qt hsc.cells hy with hm|⟨e,q⟩
    ·obtain ⟨c,ec⟩:=gK (env:=X.env) scope.names [] (.inl hm)
     by_cases q:scope.names.lookup x=some .cell
     ·have z:(y == x)=false:=beq_eq_false_iff_ne.mpr (hsc.xf _ hm rfl)
      exact ⟨c,by rw [if_pos q,List.cons_append,List.lookup_cons,z];exact ec⟩
     ·exact ⟨c,by rw [if_neg q];exact ec⟩
    ·subst e
     exact ⟨G.objs.size + 1,by rw [if_pos q,List.cons_append,List.lookup_cons,beq_self_eq_true]⟩
   cab:=λy c h e=>by
    obtain ⟨h1,h2⟩:=of_decide_eq_true h
    have e':(iy scope x G.objs.size ++ d8 X.env scope.names []).lookup y=some c:=e
    unfold iy at e'
    rw [if_pos h2,h1,List.cons_append,List.lookup_cons,beq_self_eq_true] at e'
    rw [<- Option.some.inj e']
    exact Nat.le_succ _
   hd:=I3.ok.hd
   frames:=I3.ok.frames
   stk:=.inl rfl
   exf:=λb hb'=>⟨Nat.ne_of_lt (show b < G.objs.size from Nat.lt_of_lt_of_le (fpl b hb') (by rw [hC];exact Nat.le_succ _)),λy c e=>by
    rcases look e with ⟨_,_,a⟩|a
    ·rw [a,hC];exact Nat.ne_of_gt (Nat.lt_of_lt_of_le (fpl b hb') (Nat.le_trans (Nat.le_succ _) (Nat.le_succ _)))
    ·exact (f2 b hb').2.2.2.2.1 y c (sub y c a)⟩
   bs:=I3.bs
   bsz:=Nat.le_trans I3.ok.bsz I3.sz
   noex:=λb o e hb'=>by
    have q:=(f2 b hb').2.2.2.1
    rcases q with q|q
    ·exact I3.ok.noex b o e q
    ·exact absurd (Nat.lt_of_lt_of_le (Heap.lt_size e) (Nat.le_trans I3.ok.bsz q)) (Nat.lt_irrefl _)
   exfs:=hb
   funs:=I3.stack
   frf:=I3.stkFree }
 have hlen:(fR js σ).length=(x::fvs).length:=by
  have e:=congrArg List.length hsc.slots
  simp only [List.length_map] at e
  simp [fR,e]
 have I4:Inv (X.blk x fvs scope { s2 with heap:=G,toks:=s2.toks } (upd H2 s2.heap.objs.size (.lst [])) G.objs.size fp) [] (fR js σ) (upd H2 s2.heap.objs.size (.lst [])) { s2 with heap:=h1,toks:=s2.toks }:=by
  refine ⟨ok,rfl,I3.bare,Un.kept up,⟨_,hns1,λi y v e1 e2 e3=>?_⟩,λy c e=>?_,nC,λy c e=>(look e).elim (λ⟨_,_,a⟩=>by rw [a];exact I3.hok.fresh (Nat.le_succ _)) λa=>I3.freeC y c (sub y c a),λp hp=>by simp [Cx.blk] at hp,I3.hok.kept up,hlen⟩
  ·cases i with
   | zero=>simp [fR] at e2
   | succ i =>
    have e1':fvs[i]?=some y:=e1
    have hm:y ∈ fvs:=List.mem_of_getElem? e1'
    have hfy:=hsc.free y hm
    have hmy:(y,NameKind.free) ∈ scope.names:=gm hfy
    have e2':(js.map λj=>(σ[j]?).join)[i]?=some (some v):=by simpa [fR] using e2
    rw [List.getElem?_map] at e2'
    cases ej:js[i]? with
    | none=>rw [ej] at e2';cases e2'
    | some j =>
     rw [ej] at e2'
     have e3':(σ[j]?).join=some v:=Option.some.inj e2'
     have e4:σ[j]?=some (some v):=by
      cases q:σ[j]? with
      | none=>rw [q] at e3';cases e3'
      | some z=>rw [q] at e3';exact congrArg some e3'
     have e5:X.N[j]?=some y:=by
      have q:=congrArg (λl=>l[i]?) hsc.slots
      simp only [List.getElem?_map,ej,e1',Option.map_some] at q
      exact Option.some.inj q
     obtain ⟨m,hn,hl⟩:=I3.loc
     have hout:=hsc.out (y,.free) hmy rfl
     obtain ⟨u,ru,lk⟩:=hl j y v e5 e4 (.inr hout)
     refine ⟨u,ru,.inr ⟨?_,?_⟩⟩
     ·show (relabel scope X.env).names.lookup y=_ \/ (relabel scope X.env).names.lookup y=_
      exact qr (osc:=X.env.scope) hfy
     ·obtain ⟨c,ec⟩:=gK (env:=X.env) scope.names [] (.inl hmy)
      have nx:(y == x)=false:=beq_eq_false_iff_ne.mpr (hsc.xf _ hmy rfl)
      refine ⟨c,?_,?_⟩
      ·show (iy scope x G.objs.size ++ d8 X.env scope.names []).lookup y=some c
       unfold iy
       split
       ·rw [List.cons_append,List.lookup_cons,nx];exact ec
       ·exact ec
      rcases lk with ⟨z,_⟩|⟨_,c',ec',q⟩
      ·have z':X.env.scope.names.lookup y=some .local:=z
       rcases hout with w|w
       ·rw [show X.env.scope.names.lookup y=some .cell from w] at z';cases z'
       ·rw [show X.env.scope.names.lookup y=some .free from w] at z';cases z'
      ·have:=sub y c ec
       rw [ec'] at this
       cases this
       obtain ⟨o,ho,hd⟩:=q
       exact ⟨o,up _ _ ho,hd⟩
  ·rcases look e with ⟨_,q,a⟩|a
   ·exact ⟨none,by rw [a];exact hcl1 q⟩
   ·obtain ⟨v,o,ho,hd⟩:=I3.cell y c (sub y c a)
    exact ⟨v,o,up _ _ ho,hd⟩
 have st4:tn 0 h1:=T.keep 0 _ _ st2 λb hb o e=>up b o (by rw [<- hG];exact Heap.get?_push_of_some _ e)
 have fr4:∀ b ∈ fp,(upd H2 s2.heap.objs.size (.lst [])) b=none:=λb hb=>by
  rw [aH (Nat.ne_of_lt (fpl b hb))];exact (f2 b hb).1
 have stat:∀ {H':Hp},(∀ b ∈ fp,H' b=none)->∀ b ∈ fp,mP (X.blk x fvs scope { s2 with heap:=G,toks:=s2.toks } (upd H2 s2.heap.objs.size (.lst [])) G.objs.size fp) [] H' b:=λhn b hb =>
  ⟨hn b hb,(ok.exf b hb).1,ok.exfs b hb,.inl hb,(ok.exf b hb).2,λp hp=>by simp [Cx.blk] at hp⟩
 have hch:∀ b ∈ fp,(b ∈ X.ex \/ X.s₀.heap.objs.size <= b)/\b ≠ X.env.locals/\(∀ x c,X.env.cells.lookup x=some c->c ≠ b)/\∀ p ∈ X.pn ++ pins,p.1 ≠ b:=λb hb =>
  let ⟨_,q1,_,q2,q3,q4⟩:=f2 b hb;⟨q2,q1,q3,q4⟩
 have loop:∀ s5:Shared,s5={ s2 with heap:=h1,toks:=s2.toks } ->
   codeAny (model X.prog X.w) X.A (.compLoop (.ListComp elt [⟨.Name x px,iter,ifs,0⟩] scope pos) 0 (.ref it) (.ref s2.heap.objs.size) (compEnvC scope (iy scope x G.objs.size ++ d8 X.env scope.names []) G.objs.size X.env)) (RR (.ref s2.heap.objs.size) G.objs.size) s5:=by
  rintro s5 rfl
  refine qv (λn s'=>∃ i σ' H',Inv (X.blk x fvs scope { s2 with heap:=G,toks:=s2.toks } (upd H2 s2.heap.objs.size (.lst [])) G.objs.size fp) [] σ' H' s'/\tn i s'.heap/\(∀ b ∈ fp,H' b=none)/\W i n σ' H') ?_ m0 ⟨0,_,_,I4,st4,fr4,w0⟩
  rintro n s6 ⟨i,σ6,H6,I6,st6,fr6,w6⟩
  rcases turn i n σ6 H6 w6 with ⟨stop,qn⟩|⟨go,N,hN,step⟩
  ·refine thn (T.done (X.blk x fvs scope { s2 with heap:=G,toks:=s2.toks } (upd H2 s2.heap.objs.size (.lst [])) G.objs.size fp) rfl rfl rfl hc i [] s6 σ6 H6 _ I6 (stat fr6) st6 stop) λr s7 ⟨hr,I7⟩=>?_
   subst hr
   have I8:Inv X pins σ H6 s7:=I3.call' (ch:=fp) I7.os I7.base I7.hok I7.bare hch
   obtain ⟨m,hn,_⟩:=I7.loc
   exact fin _ _ H6 s7 I8 ⟨m,hn⟩ I7.free cL cS cC cP qn
  ·refine thn (T.item (X.blk x fvs scope { s2 with heap:=G,toks:=s2.toks } (upd H2 s2.heap.objs.size (.lst [])) G.objs.size fp) rfl rfl rfl hc i [] s6 σ6 H6 _ I6 (stat fr6) st6 go) λr s7 ⟨u,hr,h7⟩=>?_
   subst hr
   refine thn h7 λ_ s8 ⟨x8,H8,I8,r8,y8,st8,fr8⟩=>?_
   have I8':=I8.pinned (stat fr8) (T.obj _ _ st8)
   have pg:=oT (X:=X.blk x fvs scope { s2 with heap:=G,toks:=s2.toks } (upd H2 s2.heap.objs.size (.lst [])) G.objs.size fp) (i:=0) (x:=x) (pos:=px) hsc.nd rfl (hsc.once.elim (λq=>.inl (lookup_relabel_local q.1)) λq=>.inr (qu q.1)) (hsc.once.elim (λq=>.inr (lookup_relabel_local q.1)) λq=>.inl (decide_eq_true ⟨rfl,q.1⟩))
   refine thn (pg _ s8 σ6 H8 x8 u (λσ9 H9=>σ9=σ6.set 0 (some x8)/\H9=H8) I8' r8 ⟨rfl,rfl⟩) λ_ s9 ⟨σ9,H9,I9,e9,e9'⟩=>?_
   subst e9 e9'
   refine thn (ht _ _ _ _ _ s9 _ H9 _ I9 (step x8 H9 y8)) λok' s10 ⟨H10,I10,q10⟩=>?_
   have again:∀ {s11:Shared}{H11:Hp},Inv (X.blk x fvs scope { s2 with heap:=G,toks:=s2.toks } (upd H2 s2.heap.objs.size (.lst [])) G.objs.size fp) ([] ++ jp fp s8.heap) (σ6.set 0 (some x8)) H11 s11->N (σ6.set 0 (some x8)) H11 ->
     ∃ m,m < n/\∃ i σ' H',Inv (X.blk x fvs scope { s2 with heap:=G,toks:=s2.toks } (upd H2 s2.heap.objs.size (.lst [])) G.objs.size fp) [] σ' H' s11/\tn i s11.heap/\(∀ b ∈ fp,H' b=none)/\W i m σ' H':=λ{s11 H11} I11 n11=>by
    obtain ⟨m',hm,w11⟩:=hN _ H11 n11
    refine ⟨m',hm,i + 1,_,H11,I11.unpinned,T.keep _ _ _ st8 λb hb o e=>(I11.pin (b,o) (List.mem_append_right _ (List.mem_append_right _ (eN hb e)))).1,λb hb=>?_,w11⟩
    obtain ⟨o,e,d⟩:=T.obj _ _ st8 b hb
    exact (I11.pin (b,o) (List.mem_append_right _ (List.mem_append_right _ (eN hb e)))).2.1
   cases ok' with
   | false =>
    rw [if_neg (by simp)] at q10 ⊢
    exact again I10 q10
   | true =>
    rw [if_pos rfl] at q10 ⊢
    refine thn (he _ _ _ _ _ s10 _ H10 _ I10 q10) λy s11 ⟨yv,H11,I11,ry,ys,hys,hl,n11⟩=>?_
    refine thn (kT _ s11 _ H11 (.ref s2.heap.objs.size) [yv] (.ref s2.heap.objs.size) [y] (λ_ H12=>N (σ6.set 0 (some x8)) H12) I11 rfl (.cons ry .nil) ⟨_,ys,yv,rfl,rfl,hys,hl,n11⟩) λ_ s12 ⟨_,H12,I12,_,n12⟩=>again I12 n12
 exact codeAny_compStart_list (loop _ rfl) (T.self _ 0 _ _ _ st4 (loop _ rfl))
theorem vQ (hsc:l0 X.env.scope X.N scope x fvs js) (hc:X.calm=true) (hi:PI X (.Name x px) iter wi)
  (ht:∀ s₁ H₁ C fp,PF (X.blk x fvs scope s₁ H₁ C fp) ifs tt) (he:∀ s₁ H₁ C fp,PE (X.blk x fvs scope s₁ H₁ C fp) elt te)
  (hs:∀ v,foldedSetIterable iter X.env v=pure v:=by intro _;rfl):PE X (.ListComp elt [⟨.Name x px,iter,ifs,0⟩] scope pos) (sF wi js tt te):=by
 intro pins s σ H Q I h
 have fr:∀ y ∈ scope.names,y.2=.free->∃ c,X.env.cells.lookup y.1=some c:=λy hy hk=>I.ok.has y.1 (hsc.out y hy hk)
 rw [eval_ListComp]
 refine wpAny_comprehension_free (use:=none) rfl hs (jH fr) hsc.kind hsc.names (thn (hi pins s σ H _ I h) λv s1 h1=>thn h1 λitv s2 h2=>?_)
 obtain ⟨it,fp,tn,J,H2,e,I2,T,st2,f2,hh⟩:=h2
 subst e
 refine k_ (RR:=λacc C=>compPost (model X.prog X.w) X.A X.xe none (EP X pins σ Q) acc C) hsc hc ht he I2 T st2 f2 hh λD C H' s' I' hn nC cL cS cC cP q=>?_
 obtain ⟨m,hn⟩:=hn
 refine ⟨m,hn,λh' sb=>⟨.ref D,H',?_,rfl,q⟩⟩
 exact I'.turned (t':=s'.toks) (λb o hb e=>(sb.2 b hb).trans e) nC cL (.inr cS) cC cP
theorem oq {i:Nat}{y:Str}{py spos:Pos} (hN:X.N.Nodup) (hi':X.N[i]?=some y) (hy:Loc X.env.scope y) (hsc:l0 X.env.scope X.N scope x fvs js) (hc:X.calm=true) (hi:PI X (.Name x px) iter wi)
  (ht:∀ s₁ H₁ C fp,PF (X.blk x fvs scope s₁ H₁ C fp) ifs tt) (he:∀ s₁ H₁ C fp,PE (X.blk x fvs scope s₁ H₁ C fp) elt te)
  (hsw:swapsWith (.ListComp elt [⟨.Name x px,iter,ifs,0⟩] scope pos) (some (.Name y py)) spos.line X.env=pure true:=by rfl)
  (hs:∀ v,foldedSetIterable iter X.env v=pure v:=by intro _;rfl) (hf:X.fn y=true \/ X.env.scope.names.lookup y=some .local:=by first|exact .inl rfl|exact .inr rfl|assumption) :
  PS X (.Assign [.Name y py] (.ListComp elt [⟨.Name x px,iter,ifs,0⟩] scope pos) spos) (rO (sF wi js tt te) (iS i)):=by
 intro pins s σ H D I h
 have fr:∀ y ∈ scope.names,y.2=.free->∃ c,X.env.cells.lookup y.1=some c:=λy hy hk=>I.ok.has y.1 (hsc.out y hy hk)
 rw [exec_Assign_Name_used _ _ _ _ hsw]
 refine wpAny_bind (wpAny_standAt (wpAny_bind ?_))
 show wpAny _ X.A (do let _ <- comprehension (.ListComp elt [⟨.Name x px,iter,ifs,0⟩] scope pos) scope X.env _ (newList []) false (eval iter X.env) (some (assign (.Name y py) X.env))) _ _ s
 refine wpAny_bind (thn (wpAny_comprehension_free (use:=some (assign (.Name y py) X.env)) (Q:=λ_ s'=>SP X pins D .next s') rfl hs (jH fr) hsc.kind hsc.names (thn (hi pins s σ H _ I h) λv s1 h1=>thn h1 λitv s2 h2=>?_)) λ_ s' q=>?_)
 ·obtain ⟨it,fp,tn,J,H2,e,I2,T,st2,f2,hh⟩:=h2
  subst e
  refine k_ (RR:=λacc C=>compPost (model X.prog X.w) X.A X.xe (some (assign (.Name y py) X.env)) (λ_ s'=>SP X pins D .next s') acc C) (Q:=λv H'=>iS i v σ H' D.nx) hsc hc ht he I2 T st2 f2 hh λD' C H' s' I' hn nC cL cS cC cP q=>?_
  obtain ⟨m,hn⟩:=hn
  show wpAny _ _ (assign (.Name y py) X.env (.ref D')) _ _ s'
  refine wpAny_assign_Name (kO I' hN hi' hy (v:=.ref D') rfl (λs'' I'' ⟨a,sb,ha⟩=>?_) hf)
  have ne:C ≠ a:=by
   rcases ha with z|z
   ·rw [z];exact cL
   ·exact λw=>cC y a z w.symm
  refine ⟨m,hn.sameBut sb ne,λh' sb'=>?_⟩
  exact ⟨_,H',I''.turned (t':=s''.toks) (λb o hb e=>(sb'.2 b hb).trans e) nC cL (.inr cS) cC cP,q⟩
 ·exact wpAny_pure (wpAny_pure q)
end
end L2
namespace L2
open PySem PySem.Spec PyProof.Rows
noncomputable abbrev ou (K:PySem.W.Frag) (H:Hp):List V->List (List Int)->Prop:=Paired λx ts=>∃ a,x=V.ref a/\SqT K H a (ts.map V.int)
theorem ou.len {K:PySem.W.Frag}{H:Hp}{xs:List V}{tss:List (List Int)} (h:ou K H xs tss):xs.length=tss.length:=Paired.length h
theorem ax {H:Hp}{p:Addr} (h:H p=none) (o:HO):ag H (upd H p o):=λb u q=>by rw [aH (bC q h)];exact q
theorem ag.seqT {K:PySem.W.Frag}{H H':Hp}{a:Addr}{xs:List V} (e:ag H H') (h:SqT K H a xs):SqT K H' a xs:=by
 rcases h with (h|⟨o,h⟩)|h
 ·exact .inl (.inl (e _ _ h))
 ·exact .inl (.inr ⟨o,e _ _ h⟩)
 ·exact .inr h
section
variable {X:Cx}{pins:List (Addr × Obj)}{σ:St}{H:Hp}{s:Shared}
theorem Inv.laidD {h':Heap}{a:Addr}{o:HO}{t':Nat}{d':Drawn} (I:Inv X pins σ H s) (k:∀ b u,s.heap.get? b=some u->h'.get? b=some u) (hp:s.heap.objs.size <= a) (new:aM X.prog X.w (upd H a o) h' a o) :
  Inv X pins σ (upd H a o) { s with heap:=h',toks:=t',drawn:=d' } :=
 I.call (g':=s.gens) (d':=d') (t':=t') (ch:=[]) (Un.laid k hp (I.hok.fresh hp)) (I.hok.laid k hp new) I.bare λ_ z=>nomatch z
theorem Inv.tupInts {a:Addr}{ns:List Int} (I:Inv X pins σ H s) (h:SqT X.K H a (ns.map V.int)):∃ its:List Value,IsTup s.heap a its.toArray/\IntsAre its ns:=by
 obtain ⟨its,r,p,_⟩:=I.tuple h
 exact ⟨its,p,da r⟩
theorem Inv.tupsAt (I:Inv X pins σ H s):∀ {xs:List V}{us:List Value}{tss:List (List Int)},ou X.K H xs tss->al xs us->Paired (λu ts=>∃ a its,u=Value.ref a/\IsTup s.heap a its/\IntsAre its.toList ts) us tss
 | _,_,_,.nil,.nil=>.nil
 | _,_,_,.cons ⟨a,e1,e2⟩ t,.cons r q=>by
  obtain ⟨its,p,hi⟩:=I.tupInts e2
  rw [e1] at r
  exact .cons ⟨a,its.toArray,r,p,by simpa using hi⟩ (I.tupsAt t q)
end
noncomputable def gL (P:Program) (w:World) (a:Addr) (ks:List Int):HO:=.ext λh=>St.a7 P w h a ks
theorem m7 {P:Program}{w:World}{H:Hp}{h:Heap}{a:Addr}{ks:List Int} (g:St.a7 P w h a ks):aM P w H h a (gL P w a ks):=by
 obtain ⟨o,es,ep,t,ho,r⟩:=id g
 exact ⟨g,⟨o,ho⟩,λh1 h2 g1 k=>g1.at k⟩
theorem Inv.set {X:Cx}{pins:List (Addr × Obj)}{σ:St}{H:Hp}{s:Shared}{a:Addr}{ks:List Int} (I:Inv X pins σ H s) (h:H a=some (gL X.prog X.w a ks)):St.a7 X.prog X.w s.heap a ks :=
 (show aM X.prog X.w H s.heap a (gL X.prog X.w a ks) from I.hok a _ h).1
section
variable {X:Cx}
theorem sG (hc:X.calm=true):bn X (.type "set") (λxs H Q=>∃ (p:Addr) (ns:List Int),xs=[.ref p]/\(SqL X.K H p (ns.map V.int) \/ SqT X.K H p (ns.map V.int))/\ns.length <= 1000/\∀ l:Addr,H l=none->Q (.ref l) (upd H l (gL X.prog X.w l (St.dd ns.reverse)))):=by
 intro pins s σ H xs us Q I r h
 obtain ⟨p,ns,rfl,hq,hz,q⟩:=h
 obtain ⟨u,rfl,rx⟩:=fU r
 cases rx
 have hh:=I.ok.hd hc
 rcases hq with hq|hq
 ·obtain ⟨its,r',pl,_⟩:=I.list hq
  have hi:=da r'
  have hl:=hi.length
  refine St.set_list hh pl.isList (ns:=ns) (by simpa using hi) (by simp;unfold scanBound;omega) λh' tk g kp=>?_
  exact ⟨.ref s.heap.objs.size,_,I.laidD (d':=s.drawn) kp (Nat.le_refl _) (m7 g),rfl,q _ (I.hok.fresh (Nat.le_refl _))⟩
 ·obtain ⟨its,r',pl,_⟩:=I.tuple hq
  have hi:=da r'
  have hl:=hi.length
  refine St.qm hh (show s.heap.IsTuple p its.toArray from pl) (ns:=ns) (by simpa using hi) (by simp;unfold scanBound;omega) λh' tk g kp=>?_
  exact ⟨.ref s.heap.objs.size,_,I.laidD (d':=s.drawn) kp (Nat.le_refl _) (m7 g),rfl,q _ (I.hok.fresh (Nat.le_refl _))⟩
end
namespace Srt
noncomputable def sortI (l:List Int):List Int:=fu cq l
noncomputable def sortT (l:List (List Int)):List (List Int):=fu db l
noncomputable def leT (a b:List Int):Prop:=HT.lexLt b a=false
theorem sortI_perm (l:List Int):(sortI l).Perm l:=dc cq l
theorem sortT_perm (l:List (List Int)):(sortT l).Perm l:=dc db l
theorem sortI_len (l:List Int):(sortI l).length=l.length:=(sortI_perm l).length_eq
theorem sortT_len (l:List (List Int)):(sortT l).length=l.length:=(sortT_perm l).length_eq
theorem sortT_rises (l:List (List Int)):(sortT l).Pairwise leT:=cD db l
theorem sortI_of_perm {a b:List Int} (p:a.Perm b):sortI a=sortI b:=ky cq p
theorem vR {a b:Int}:cq.kle a b ↔ a <= b:=by
 show decide (b < a)=false ↔ a <= b
 rw [decide_eq_false_iff_not]
 omega
theorem sortI_rises (l:List Int):(sortI l).Pairwise (· <= ·):=(cD cq l).imp λh=>vR.mp h
section
variable {P:Program}{w:World}{A:Around}{E:Value->Shared->Prop}{s:Shared}
theorem m8 {ks ns:List Int} (hp:ns.Perm ks) (hs:ns.Pairwise (· <= ·)):ns=sortI ks:=by
 refine jz cq hp (hs.imp λ{a b} h=>?_)
 show decide (b < a)=false
 exact decide_eq_false (by omega)
theorem jK {x:Value}{ks:List Int}{Q:Value->Shared->Prop} (h64:ks.length < 64)
  (hcol:∀ (Q':List Value->Shared->Prop),(∀ (h':Heap) (tk:Nat) (d':Drawn) (acc:List Value) (order:List Int),(∀ b o,s.heap.get? b=some o->h'.get? b=some o)->order.Perm ks->IntsAre acc order->Q' acc { s with heap:=h',toks:=tk,drawn:=d' }) ->
   wpAny (model P w) A.in1 (collect x) Q' E s)
  (h:∀ (h1 h':Heap) (tk:Nat) (d':Drawn) (out:List Value) (c:Nat),(∀ b o,s.heap.get? b=some o->h1.get? b=some o)->(∀ b o,h1.get? b=some o->h'.get? b=some o)->h'.get? h1.objs.size=some { cls:=.type "list",data:=.seq out.toArray c } ->
   IntsAre out (sortI ks)->Q (.ref h1.objs.size) { s with heap:=h',toks:=tk,drawn:=d' }) :
  wpAny (model P w) A (call (.builtin "sorted") [x]) Q E s:=by
 refine Calls.call_function_entry kind_sorted plain_sorted entry_sorted (args_sorted1 _) ?_
 unfold Builtin.«sorted»
 refine wpAny_bind (m:=checkCount "sorted" 1 1 _) (wpAny_pure ?_)
 refine wpAny_bind (hcol _ λh1 tk d1 acc order kp hp hi=>?_)
 have hla:acc.length=order.length:=hi.length
 have hlo:order.length=ks.length:=hp.length_eq
 refine wpAny_bind (wpAny_newList ?_ (by rw [sizeLine_eq];omega))
 have hoL:(h1.push (seqObj "list" acc.toArray 0)).get? h1.objs.size=some (seqObj "list" acc.toArray 0):=Heap.get?_push_size _ rfl
 refine wpAny_bind (wpAny_holding (wpAny_call_entry slot_list_sort ⟨_,hoL,rfl⟩ entry_list_sort (list_sort_tree hoL hi (by omega) λout ns' hi' hp' hs'=>⟨_,rfl,?_⟩) (args_list_sort _)))
 obtain ⟨c,hc⟩:=sortedHeap_at (out:=out) (vs:=acc) hoL
 refine wpAny_pure ⟨_,rfl,h h1 _ tk d1 out.toList c kp (λb o e=>?_) ?_ ?_⟩
 ·have hb:b < h1.objs.size:=Heap.lt_size e
  rw [sortedHeap_old (Nat.ne_of_lt hb) (by rw [Heap.size_push];exact Nat.lt_succ_of_lt hb)]
  exact Heap.get?_push_of_some _ e
 ·rw [Array.toArray_toList];exact hc
 ·rw [<- m8 (hp'.trans hp) hs'];exact hi'
theorem jL {x:Value}{vs:List Value}{tss:List (List Int)}{Q:Value->Shared->Prop} (h64:vs.length < 64) (hu:A.units + 2 < cLine)
  (hv:Paired (λu ts=>∃ a its,u=Value.ref a/\IsTup s.heap a its/\IntsAre its.toList ts) vs tss)
  (hcol:∀ (Q':List Value->Shared->Prop),(∀ (h':Heap),(∀ b o,s.heap.get? b=some o->h'.get? b=some o)->Q' vs { s with heap:=h' })->wpAny (model P w) A.in1 (collect x) Q' E s)
  (h:∀ (h1 h':Heap) (p:Array Nat) (c:Nat),(∀ b o,s.heap.get? b=some o->h1.get? b=some o)->(∀ b o,h1.get? b=some o->h'.get? b=some o)->h'.get? h1.objs.size=some { cls:=.type "list",data:=.seq (p.toList.map λi=>vs.getD i Value.none).toArray c } ->
   PB vs.length p->p.toList.map (λi=>tss.getD i [])=sortT tss->Q (.ref h1.objs.size) { s with heap:=h' }) :
  wpAny (model P w) A (call (.builtin "sorted") [x]) Q E s:=by
 have hlen:vs.length=tss.length:=Paired.length hv
 refine Calls.call_function_entry kind_sorted plain_sorted entry_sorted (args_sorted1 _) ?_
 unfold Builtin.«sorted»
 refine wpAny_bind (m:=checkCount "sorted" 1 1 _) (wpAny_pure ?_)
 refine wpAny_bind (hcol _ λh1 kp=>?_)
 refine wpAny_bind (wpAny_newList ?_ (by rw [sizeLine_eq];omega))
 have hoL:(h1.push (seqObj "list" vs.toArray 0)).get? h1.objs.size=some (seqObj "list" vs.toArray 0):=Heap.get?_push_size _ rfl
 have at_:∀ (s':Shared),(∀ b o,b ≠ h1.objs.size->(h1.push (seqObj "list" vs.toArray 0)).get? b=some o->s'.heap.get? b=some o)->∀ i,i < vs.length->∃ a its,vs.getD i Value.none=.ref a/\IsTup s'.heap a its/\IntsAre its.toList (tss.getD i []):=λs' k i hi=>by
  have gen:∀ {us:List Value}{uss:List (List Int)},Paired (λu ts=>∃ a its,u=Value.ref a/\IsTup s.heap a its/\IntsAre its.toList ts) us uss->∀ i,i < us.length->∃ a its,us.getD i Value.none=.ref a/\IsTup s.heap a its/\IntsAre its.toList (uss.getD i []):=by
   intro us uss hp
   induction hp with
   | nil=>intro i hi;simp at hi
   | cons q _ ih =>
    intro i hi
    cases i with
    | zero=>obtain ⟨a,its,e,r⟩:=q;exact ⟨a,its,by simpa using e,by simpa using r⟩
    | succ i=>obtain ⟨a,its,e,r⟩:=ih i (by simpa using hi);exact ⟨a,its,by simpa using e,by simpa using r⟩
  obtain ⟨a,its,e,⟨o,ho,r⟩,hin⟩:=gen hv i hi
  have ho1:=kp a o ho
  exact ⟨a,its,e,⟨o,k a o (Nat.ne_of_lt (Heap.lt_size ho1)) (Heap.get?_push_of_some _ ho1),r⟩,hin⟩
 refine wpAny_bind (wpAny_holding (wpAny_call_entry slot_list_sort ⟨_,hoL,rfl⟩ entry_list_sort (lW (O:=db) (key:=λi=>tss.getD i []) hoL h64 (λh2 s' Q' k q=>qk h2 (λv hm=>?_) q) (λκ hκ s' i j C k hi hj q=>?_) λp hp hr=>⟨_,rfl,?_⟩) (args_list_sort _)))
 ·obtain ⟨i,hi,e⟩:=List.getElem_of_mem hm
  obtain ⟨a,its,e',r1,r2⟩:=at_ s' k i hi
  exact ⟨a,its,_,by rw [<- e',<- e];simp [hi],r1,r2⟩
 ·obtain ⟨a,its,e,r1,r2⟩:=at_ s' k i hi
  obtain ⟨a',its',e',r1',r2'⟩:=at_ s' k j hj
  rw [e,e']
  exact vN hκ r1 r1' r2 r2' (show A.units + 1 + 1 < cLine from hu) q
 ·obtain ⟨c,hc⟩:=sortedHeap_at (out:=(p.toList.map λi=>vs.getD i Value.none).toArray) (vs:=vs) hoL
  have hp':PB tss.length p:=by rw [<- hlen];exact hp
  have hr':dC (O:=db) (λi=>tss.getD i []) p tss.length:=by rw [<- hlen];exact hr
  refine wpAny_pure ⟨_,rfl,h h1 _ p c kp (λb o e=>?_) hc hp (x5 (O:=db) (d:=([]:List Int)) (xs:=tss) hp' hr')⟩
  have hb:b < h1.objs.size:=Heap.lt_size e
  rw [sortedHeap_old (Nat.ne_of_lt hb) (by rw [Heap.size_push];exact Nat.lt_succ_of_lt hb)]
  exact Heap.get?_push_of_some _ e
end
end Srt
section
variable {X:Cx}
theorem Inv.keptD {pins:List (Addr × Obj)}{σ:St}{H:Hp}{s:Shared}{h':Heap}{t':Nat}{d':Drawn} (I:Inv X pins σ H s) (k:∀ b u,s.heap.get? b=some u->h'.get? b=some u):Inv X pins σ H { s with heap:=h',toks:=t',drawn:=d' } :=
 I.call (g':=s.gens) (d':=d') (t':=t') (ch:=[]) (Un.kept k) (I.hok.kept k) I.bare λ_ z=>nomatch z
theorem qw:∀ {vs:List Value}{ns:List Int},IntsAre vs ns->al (ns.map V.int) vs:=il
noncomputable def x_ (X:Cx):List V->Hp->VK->Prop:=λxs H Q=>∃ (p:Addr) (ks:List Int),xs=[.ref p]/\(SqL X.K H p (ks.map V.int) \/ SqT X.K H p (ks.map V.int) \/ H p=some (gL X.prog X.w p ks))/\ks.length < 64/\∀ l:Addr,H l=none->Q (.ref l) (upd H l (.lst ((Srt.sortI ks).map V.int)))
theorem gM (hc:X.calm=true):bn X (.builtin "sorted") (x_ X):=by
 intro pins s σ H xs us Q I r h
 obtain ⟨p,ks,rfl,hq,h64,q⟩:=h
 obtain ⟨u,rfl,rx⟩:=fU r
 cases rx
 have hh:=I.ok.hd hc
 refine Srt.jK (ks:=ks) h64 (λQ' hQ'=>?_) λh1 h' tk d' out c k1 k2 e hi=>?_
 ·rcases hq with hq|hq|hq
  ·obtain ⟨its,r',pl,hz⟩:=I.list hq
   obtain ⟨o,ho,hcl,n,hd⟩:=pl.isList
   refine wpAny_collect_seq p (.inl rfl) ho hcl hd (λh' kp=>?_) (by have:=r'.length;simp only [List.size_toArray] <;> omega)
   exact hQ' h' s.toks s.drawn _ ks kp (.refl _) (by simpa using da r')
  ·obtain ⟨its,r',pl,hz⟩:=I.tuple hq
   obtain ⟨o,ho,hcl,n,hd⟩:=pl
   refine wpAny_collect_seq p (.inr rfl) ho hcl hd (λh' kp=>?_) (by have:=r'.length;simp only [List.size_toArray] <;> omega)
   exact hQ' h' s.toks s.drawn _ ks kp (.refl _) (by simpa using da r')
  ·exact St.m6 (by first|exact hh|simpa using hh) (I.set hq) λh' tk d' acc order kp hp hi=>hQ' h' tk d' acc order kp hp hi
 ·have I1:Inv X pins σ H { s with heap:=h1,toks:=tk,drawn:=d' }:=I.keptD k1
  have I2:Inv X pins σ (upd H h1.objs.size (.lst ((Srt.sortI ks).map V.int))) { s with heap:=h',toks:=tk,drawn:=d' } :=
   I1.laid (t':=tk) k2 (Nat.le_refl _) (show aM X.prog X.w _ h' _ (.lst _) from ⟨by rw [List.length_map,Srt.sortI_len,sizeLine_eq];omega,out,c,qw hi,e⟩)
  exact ⟨.ref h1.objs.size,_,I2,rfl,q _ (I1.hok.fresh (Nat.le_refl _))⟩
noncomputable def ya (X:Cx):List V->Hp->VK->Prop:=λxs H Q=>∃ (p:Addr) (vs:List V) (tss:List (List Int)),xs=[.ref p]/\(SqL X.K H p vs \/ SqT X.K H p vs)/\ou X.K H vs tss/\tss.length < 64 /\
 ∀ (l:Addr) (pm:List Nat),H l=none->(∀ i ∈ pm,i < vs.length)->pm.map (λi=>tss.getD i [])=Srt.sortT tss->Q (.ref l) (upd H l (.lst (pm.map λi=>vs.getD i .non)))
theorem la {vs:List V}{us:List Value} (h:al vs us):∀ (l:List Nat),(∀ i ∈ l,i < vs.length)->al (l.map λi=>vs.getD i .non) (l.map λi=>us.getD i Value.none)
 | [],_=>.nil
 | i::l,hl=>by
  have hi:=hl i (.head _)
  obtain ⟨u,e1,e2⟩:=h.get (i:=i) (x:=vs[i]) (List.getElem?_eq_getElem hi)
  refine .cons ?_ (la h l λj hj=>hl j (.tail _ hj))
  have q1:vs.getD i .non=vs[i]:=by simp [hi]
  have q2:us.getD i Value.none=u:=by rw [List.getD_eq_getElem?_getD,e1];rfl
  show ak (vs.getD i V.non) (us.getD i Value.none)
  rw [q1,q2];exact e2
theorem l4 (hu:X.A.units + 64 < cLine):bn X (.builtin "sorted") (ya X):=by
 intro pins s σ H xs us Q I r h
 obtain ⟨p,vs,tss,rfl,hq,ht,h64,q⟩:=h
 obtain ⟨u,rfl,rx⟩:=fU r
 cases rx
 have key:∀ (its:List Value),al vs its->vs.length <= sizeLine->(∀ (Q':List Value->Shared->Prop),(∀ (h':Heap),(∀ b o,s.heap.get? b=some o->h'.get? b=some o)->Q' its { s with heap:=h' })->wpAny (model X.prog X.w) X.A.in1 (collect (.ref p)) Q' X.xe s) ->
   wpAny (model X.prog X.w) X.A (call (.builtin "sorted") [.ref p]) (EP X pins σ Q) X.xe s:=λits r' hz hcol=>by
  have hl:=r'.length
  have hl2:=ht.len
  refine Srt.jL (vs:=its) (tss:=tss) (by omega) (by omega) (I.tupsAt ht r') hcol λh1 h' pm c k1 k2 e hp ho=>?_
  have hpl:∀ i ∈ pm.toList,i < vs.length:=λi hi=>by
   have:=(Array.perm_iff_toList_perm.mp hp).mem_iff.mp hi
   have:=List.mem_range.mp (by simpa using this)
   omega
  have I1:Inv X pins σ H { s with heap:=h1 }:=I.kept (t':=s.toks) k1
  have I2:Inv X pins σ (upd H h1.objs.size (.lst (pm.toList.map λi=>vs.getD i .non))) { s with heap:=h' } :=
   I1.laid (t':=s.toks) k2 (Nat.le_refl _) (show aM X.prog X.w _ h' _ (.lst _) from ⟨by have:=hp.size;rw [List.length_map,Array.length_toList,sizeLine_eq];omega,_,c,la r' _ hpl,e⟩)
  exact ⟨.ref h1.objs.size,_,I2,rfl,q _ pm.toList (I1.hok.fresh (Nat.le_refl _)) hpl ho⟩
 rcases hq with hq|hq
 ·obtain ⟨its,r',pl,hz⟩:=I.list hq
  obtain ⟨o,ho,hcl,n,hd⟩:=pl.isList
  refine key its r' hz λQ' hQ'=>wpAny_collect_seq p (.inl rfl) ho hcl hd (λh' kp=>?_) (by have:=r'.length;simp only [List.size_toArray] <;> omega)
  have:=hQ' h' kp
  simpa using this
 ·obtain ⟨its,r',pl,hz⟩:=I.tuple hq
  obtain ⟨o,ho,hcl,n,hd⟩:=pl
  refine key its r' hz λQ' hQ'=>wpAny_collect_seq p (.inr rfl) ho hcl hd (λh' kp=>?_) (by have:=r'.length;simp only [List.size_toArray] <;> omega)
  have:=hQ' h' kp
  simpa using this
end
end L2
namespace L2.St
open PySem PyProof.Rows
structure a8 (P:Program) (w:World) (h:Heap) (a:Addr) (ks:List Int) (o:Obj) (es:Array (Int × Value)) (ep:Nat) (t:SetTable):Prop where
 ho:h.get? a=some o
 ex:o.ExactSet
 hd:o.data=.set es ep t
 el:ElemsOf (intKind P w) es.toList
 pm:(es.toList.map λe=>numOf e.2).Perm ks
 nd:ks.Nodup
 bd:es.size < scanBound
 fi:t.fits es.size=true
theorem a7.w {P:Program}{w:World}{h:Heap}{a:Addr}{ks:List Int} (g:a7 P w h a ks):∃ o es ep t,a8 P w h a ks o es ep t/\Gd (!byT w) t:=by
 obtain ⟨o,es,ep,t,ho,hex,hd,hel,hp,hn,hb,hf,hg⟩:=g
 exact ⟨o,es,ep,t,⟨ho,hex,hd,hel,hp,hn,hb,hf⟩,hg⟩
theorem a8.len {P:Program}{w:World}{h:Heap}{a:Addr}{ks:List Int}{o:Obj}{es:Array (Int × Value)}{ep:Nat}{t:SetTable} (g:a8 P w h a ks o es ep t):es.size=ks.length:=by
 have:=g.pm.length_eq;simpa using this
theorem a8.at {P:Program}{w:World}{h h':Heap}{a:Addr}{ks:List Int}{o:Obj}{es:Array (Int × Value)}{ep:Nat}{t:SetTable} (g:a8 P w h a ks o es ep t) (k:∀ o,h.get? a=some o->h'.get? a=some o):a8 P w h' a ks o es ep t :=
 ⟨k o g.ho,g.ex,g.hd,g.el,g.pm,g.nd,g.bd,g.fi⟩
section
variable {P:Program}{w:World}{A:Around}{E:Value->Shared->Prop}{s:Shared}
variable {a:Addr}{ks:List Int}{o:Obj}{es:Array (Int × Value)}{ep:Nat}{t:SetTable}
theorem sH (g:a8 P w s.heap a ks o es ep t) (hl:t.led=!byT w) {Q:Array (Int × Value)->Shared->Prop} (h:∀ es' d',es'.toList.Perm es.toList->Q es' { s with drawn:=d' }):wpAny (model P w) A (setWalk a) Q E s:=by
 unfold setWalk
 refine wpAny_bind (wpAny_setState_of g.ho g.hd g.fi ?_)
 dsimp only
 refine wpAny_bind (ca ?_)
 cases hb:byT w with
 | true =>
  rw [if_pos rfl]
  refine wpAny_bind (wpAny_askSetting (wpAny_pure ?_))
  exact h _ s.drawn (k7 _ _)
 | false =>
  rw [if_neg (by simp)]
  refine wpAny_ite_split (λ_=>?_) (λ_=>?_)
  ·refine wpAny_bind (gj es.size es.toList s (by simp) λys d' hp=>?_)
   exact wpAny_pure (h _ d' (by simpa using hp))
  ·refine wpAny_bind ?_
   rw [hb] at hl
   show wpAny _ _ (if (!t.led&&decide (es.size > 1))=true then _ else _) _ _ s
   rw [if_neg (by rw [hl];simp)]
   exact wpAny_pure (wpAny_pure (h es s.drawn (.refl _)))
theorem o_:∀ (sets:List Addr),(∀ b ∈ sets,∃ ks o es ep t,a8 P w s.heap b ks o es ep t)->∀ {Q:Bool->Shared->Prop},Q true s->wpAny (model P w) A (setsQuiet sets) Q E s:=by
 intro sets hs Q hq
 unfold setsQuiet
 refine wpAny_bind (wpAny_forIn_list _ (λrest b s'=>(∀ c ∈ rest,c ∈ sets)/\b.1=none/\s'=s) _ ?_ ?_ sets _ ⟨λc hc=>hc,rfl,rfl⟩)
 ·rintro c rest b s' ⟨hc,hb,rfl⟩
  obtain ⟨ks,o,es,ep,t,g⟩:=hs c (hc c (.head _))
  refine wpAny_bind (wpAny_setEntries_of g.ho g.hd g.fi ?_)
  refine wpAny_bind (wpAny_forIn_array' _ (λrest b s''=>(∀ e ∈ rest,e ∈ es.toList)/\b.1=none/\s''=s') _ ?_ ?_ es _ ⟨λe he=>he,rfl,rfl⟩)
  ·rintro e rest' b' s'' ⟨he,hb',rfl⟩
   obtain ⟨t',q⟩:=cY g.el e (he e (.head _))
   obtain ⟨hx,x⟩:=e
   dsimp only at q ⊢
   rw [q]
   exact wpAny_pure ⟨λe' he'=>he e' (.tail _ he'),rfl,rfl⟩
  ·rintro b' s'' ⟨_,hb',rfl⟩
   dsimp only
   rw [hb']
   exact wpAny_pure ⟨λc' hc'=>hc c' (.tail _ hc'),rfl,rfl⟩
 ·rintro b s' ⟨_,hb,rfl⟩
  dsimp only
  rw [hb]
  exact wpAny_pure hq
theorem sI (g:a8 P w s.heap a ks o es ep t) (hl:t.led=!byT w) {others:List Addr} (hs:∀ b ∈ others,∃ ks o es ep t,a8 P w s.heap b ks o es ep t) {Q:Array (Int × Value)->Shared->Prop}
  (h:∀ es' d',es'.toList.Perm es.toList->Q es' { s with drawn:=d' }):wpAny (model P w) A (setWalkUnseen a others none) Q E s:=by
 unfold setWalkUnseen
 refine wpAny_bind (wpAny_setState_of g.ho g.hd g.fi ?_)
 dsimp only
 refine wpAny_bind (ca ?_)
 refine wpAny_ite_split (λ_=>?_) (λ_=>?_)
 ·exact sH g hl h
 ·refine wpAny_bind (o_ (a::others) (λb hb=>?_) ?_)
  ·rcases List.mem_cons.mp hb with rfl|hb
   ·exact ⟨_,_,_,_,_,g⟩
   ·exact hs b hb
  ·simp only [Bool.not_true,Bool.false_eq_true,if_false]
   refine wpAny_bind (wpAny_rule ?_)
   exact wpAny_pure (h es s.drawn (.refl _))
theorem sJ (g:a8 P w s.heap a ks o es ep t) (hl:t.led=!byT w) {others:List Addr} (hs:∀ b ∈ others,∃ ks o es ep t,a8 P w s.heap b ks o es ep t) {f:Addr} (hf:a7 P w s.heap f []) {Q:Array (Int × Value)->Shared->Prop}
  (h:∀ es' d' h',es'.toList.Perm es.toList->Heap.SameBut f s.heap h'->a7 P w h' f []->Q es' { s with drawn:=d',heap:=h' }):wpAny (model P w) A (setWalkUnseen a others (some f)) Q E s:=by
 unfold setWalkUnseen
 refine wpAny_bind (wpAny_setState_of g.ho g.hd g.fi ?_)
 dsimp only
 refine wpAny_bind (ca ?_)
 refine wpAny_ite_split (λ_=>?_) (λ_=>?_)
 ·exact sH g hl λes' d' hp=>h es' d' s.heap hp (Heap.SameBut.refl f s.heap) hf
 ·refine wpAny_bind (o_ (a::others) (λb hb=>?_) ?_)
  ·rcases List.mem_cons.mp hb with rfl|hb
   ·exact ⟨_,_,_,_,_,g⟩
   ·exact hs b hb
  ·simp only [Bool.not_true,Bool.false_eq_true,if_false]
   refine wpAny_bind (wpAny_rule ?_)
   obtain ⟨of,ef,epf,tf,gf,gd⟩:=hf.w
   refine wpAny_bind (wpAny_setState_of gf.ho gf.hd gf.fi ?_)
   dsimp only
   refine wpAny_ite_split (λ_=>?_) (λ_=>?_)
   ·have hfi:({ tf with led:=tf.led&&t.led,plain:=tf.plain&&t.plain }:SetTable).fits ef.size=true:=gf.fi
    have hgd:Gd (!byT w) ({ tf with led:=tf.led&&t.led,plain:=tf.plain&&t.plain }:SetTable):=⟨by show (tf.led&&t.led)=_;rw [gd.led,hl];simp,gd.dum,gd.rise⟩
    refine wpAny_bind (wpAny_storeSet_of gf.ho gf.hd ?_ (fits_of_scanBound gf.bd))
    have g2:=o7 (P:=P) (w:=w) gf.ho gf.ex gf.hd ⟨gf.el,gf.pm,gf.nd,gf.bd,hfi,hgd⟩
    exact wpAny_pure (h es s.drawn _ (.refl _) (Heap.SameBut.update _ f _) g2)
   ·exact wpAny_pure (h es s.drawn s.heap (.refl _) (Heap.SameBut.refl f s.heap) hf)
theorem sK (g:a8 P w s.heap a ks o es ep t) {k:Int}{tk:Tok}{Q:Option Nat->Shared->Prop} (h:Q (es.toList.findIdx? λe=>(intKind P w).is k e.2) s):wpAny (model P w) A (setFind a (.int k tk) (hashInt k)) Q E s:=by
 have hkey:(intKind P w).is k (.int k tk)=true:=intKind_is _ _ _ _
 have hsc:(Value.int k tk).scannable=true:=rfl
 unfold setFind setFindIn
 refine wpAny_bind (wpAny_setState_of g.ho g.hd g.fi ?_)
 dsimp only
 rw [byScan_of hsc g.bd g.el]
 simp only [↓reduceIte]
 refine wpAny_bind (wpAny_rule ?_)
 refine wpAny_bind (wpAny_setScan_of (knd:=intKind P w) hkey g.ho g.hd g.fi g.el ?_)
 cases hr:List.findIdx? (λe=>(intKind P w).is k e.2) es.toList with
 | some j =>
  rw [hr] at h
  dsimp only
  rw [Nat.zero_add]
  exact wpAny_pure h
 | none =>
  rw [hr] at h
  exact wpAny_pure h
theorem a8.mem (g:a8 P w s.heap a ks o es ep t) {k:Int}:k ∈ ks ↔ ∃ e ∈ es.toList,(intKind P w).is k e.2=true:=by
 rw [<- g.pm.mem_iff,List.mem_map]
 constructor
 ·rintro ⟨e,he,q⟩;exact ⟨e,he,(gi g.el he k).mpr q⟩
 ·rintro ⟨e,he,q⟩;exact ⟨e,he,(gi g.el he k).mp q⟩
theorem m9 (g:a8 P w s.heap a ks o es ep t) (k:Int):(es.toList.findIdx? λe=>(intKind P w).is k e.2).isSome=decide (k ∈ ks):=by
 rw [Bool.eq_iff_iff,decide_eq_true_iff,g.mem,List.findIdx?_isSome,List.any_eq_true]
end
end L2.St
namespace L2.St
open PySem PyProof.Rows
section
variable {P:Program}{w:World}{A:Around}{E:Value->Shared->Prop}{s:Shared}
theorem a8.type {a:Addr}{ks:List Int}{o:Obj}{es:Array (Int × Value)}{ep:Nat}{t:SetTable} (g:a8 P w s.heap a ks o es ep t):s.TypeIs (.ref a) "set":=⟨o,g.ho,g.ex.1⟩
theorem gN {a:Addr} (hT:s.TypeIs (.ref a) "set") {Q:Bool->Shared->Prop} (h:Q true s):wpAny (model P w) A (Builtin.Frozenset.isAnySet (.ref a)) Q E s:=by
 unfold Builtin.Frozenset.isAnySet
 refine wpAny_bind (wpAny_isInstance (T:="set") (b:=true) hT F.sub_set_set ?_)
 exact wpAny_pure h
theorem m_ {a:Addr} (hT:s.TypeIs (.ref a) "set") {Q:Value->Shared->Prop} (h:Q (.type "set") s):wpAny (model P w) A (Builtin.Frozenset.baseOf a) Q E s:=by
 unfold Builtin.Frozenset.baseOf
 refine wpAny_bind (wpAny_isInstance (T:="set") (b:=true) hT F.sub_set_set ?_)
 exact wpAny_pure h
theorem d9 {a:Addr}{ks:List Int}{o:Obj}{es:Array (Int × Value)}{ep:Nat}{t:SetTable} (g:a8 P w s.heap a ks o es ep t) {Q:Nat->Shared->Prop} (h:Q ks.length s):wpAny (model P w) A (Builtin.Frozenset.sizeOf a) Q E s:=by
 unfold Builtin.Frozenset.sizeOf
 refine wpAny_bind (wpAny_setEntries_of g.ho g.hd g.fi ?_)
 rw [<- g.len] at h
 exact wpAny_pure h
theorem yb {id:String}{a:Addr}{ks:List Int}{o:Obj}{es:Array (Int × Value)}{ep:Nat}{t:SetTable} (g:a8 P w s.heap a ks o es ep t) {α:Type}{x:α}{R:α->Shared->Prop} (h:R x s):wpAny (model P w) A (Builtin.Frozenset.unchanged id a ep >>= λ_=>pure x) R E s:=by
 unfold Builtin.Frozenset.unchanged
 refine wpAny_bind (wpAny_bind (wpAny_setEpoch_of g.ho g.hd g.fi ?_))
 simp only [bne_self_eq_false,Bool.false_eq_true,if_false]
 exact wpAny_pure (wpAny_pure h)
theorem yc {id:String}{a b:Addr}{ks js:List Int}{Q:Value->Shared->Prop} (ga:a7 P w s.heap a ks) (gb:a7 P w s.heap b js) (hsz:¬ ks.length / 4 > js.length)
  (h:∀ h' d' ls,(∀ c o,s.heap.get? c=some o->h'.get? c=some o)->ls.Perm (ks.filter λk=>!decide (k ∈ js))->a7 P w h' s.heap.objs.size ls->Q (.ref s.heap.objs.size) { s with heap:=h',drawn:=d' }) :
  wpAny (model P w) A (Builtin.Frozenset.difference id a (.ref b)) Q E s:=by
 obtain ⟨oa,ea,epa,ta,wa,gda⟩:=ga.w
 obtain ⟨ob,eb,epb,tb,wb,gdb⟩:=gb.w
 unfold Builtin.Frozenset.difference
 refine wpAny_bind (gN wb.type ?_)
 simp only [Bool.not_true,Bool.false_eq_true,if_false,Bool.false_and,if_true,Builtin.Frozenset.addrOf,pure_bind]
 refine wpAny_bind (d9 wb ?_)
 refine wpAny_bind (d9 wa ?_)
 rw [if_neg hsz]
 refine wpAny_bind (m_ wa.type ?_)
 refine wpAny_bind (lY ?_)
 have keep:∀ c o,s.heap.get? c=some o->(s.heap.push (aJ w)).get? c=some o:=λc o e=>Heap.get?_push_of_some _ e
 have wa1:=wa.at (keep a)
 have wb1:=wb.at (keep b)
 have gn:a7 P w (s.heap.push (aJ w)) s.heap.objs.size []:=m5 _
 have ha:a ≠ s.heap.objs.size:=Nat.ne_of_lt (Heap.lt_size wa.ho)
 have hb:b ≠ s.heap.objs.size:=Nat.ne_of_lt (Heap.lt_size wb.ho)
 refine wpAny_bind (wpAny_pure ?_)
 refine wpAny_bind (wpAny_setEpoch_of (s:={ s with heap:=s.heap.push (aJ w) }) wa1.ho wa1.hd wa1.fi ?_)
 refine wpAny_bind (wpAny_holding ?_)
 refine wpAny_bind (sJ (s:={ s with heap:=s.heap.push (aJ w) }) wa1 gda.led (others:=[b,s.heap.objs.size]) (λc hc=>?_) gn λes' d0 h0 hp sb0 g0=>?_)
 ·rcases List.mem_cons.mp hc with rfl|hc
  ·exact ⟨_,_,_,_,_,wb1⟩
  ·rw [List.mem_singleton.mp hc]
   obtain ⟨_,_,_,_,q,_⟩:=gn.w
   exact ⟨_,_,_,_,_,q⟩
 have hel:ElemsOf (intKind P w) es'.toList:=wa.el.perm hp
 have hK:(es'.toList.map λe=>numOf e.2).Perm ks:=(hp.map _).trans wa.pm
 have hKn:(es'.toList.map λe=>numOf e.2).Nodup:=hK.nodup_iff.mpr wa.nd
 refine wpAny_bind (wpAny_forIn_array' _ (λrest _ s'=>∃ dn h' d' ls,dn ++ rest=es'.toList/\s'={ s with heap:=h',drawn:=d' }/\Heap.SameBut s.heap.objs.size (s.heap.push (aJ w)) h'/\a7 P w h' s.heap.objs.size ls/\ls.Perm ((dn.map λe:Int × Value=>numOf e.2).filter λk=>!decide (k ∈ js))) _ ?_ ?_ es' _ ⟨[],h0,d0,[],rfl,rfl,sb0,g0,by simp⟩)
 ·rintro ⟨hx,x⟩ rest u s' ⟨dn,h',d',ls,e1,rfl,sb,gl,pl⟩
  have hmem:(hx,x) ∈ es'.toList:=by rw [<- e1];simp
  obtain ⟨t',q⟩:=cY hel _ hmem
  obtain ⟨⟨k0,hk0,hh0⟩,_⟩:=hel _ hmem
  have hk1:=(gi hel hmem k0).mp hk0
  dsimp only at q hk1 hh0
  generalize numOf x=k at q hk1
  subst q hk1
  have hh0:hx=hashInt k:=hh0
  subst hh0
  have keep':∀ c o,c ≠ s.heap.objs.size->s.heap.get? c=some o->h'.get? c=some o:=λc o hc e=>(sb.2 c hc).trans (keep c o e)
  have wa2:a8 P w h' a ks oa ea epa ta:=wa.at λo e=>keep' a o ha e
  have wb2:a8 P w h' b js ob eb epb tb:=wb.at λo e=>keep' b o hb e
  dsimp only
  have hks:numOf (Value.int k t')=k:=rfl
  have hnk:k ∉ ls:=λz=>by
   have:=pl.mem_iff.mp z
   have:=(List.mem_filter.mp this).1
   rw [<- e1,List.map_append,List.map_cons] at hKn
   exact (List.nodup_append.mp hKn).2.2 k this k (by rw [hks];exact .head _) rfl
  refine wpAny_bind (wpAny_holding ?_)
  refine wpAny_bind (sK (s:={ s with heap:=h',drawn:=d' }) wb2 ?_)
  rw [m9 (s:={ s with heap:=h',drawn:=d' }) wb2 k]
  by_cases hj:k ∈ js
  ·simp only [hj,decide_true,Bool.not_true,Bool.false_eq_true,if_false]
   refine wpAny_pure (yb (s:={ s with heap:=h',drawn:=d' }) wa2 ⟨dn ++ [(hashInt k,Value.int k t')],h',d',ls,by rw [List.append_assoc];exact e1,rfl,sb,gl,?_⟩)
   rw [List.map_append,List.filter_append]
   simpa [hks,hj] using pl
  ·simp only [hj,decide_false,Bool.not_false,if_true]
   have hroom:ls.length + 1 < scanBound:=by
    have h1:=pl.length_eq
    have h2:=List.length_filter_le (λk=>!decide (k ∈ js)) (dn.map λe:Int × Value=>numOf e.2)
    rw [List.length_map] at h2
    have h3:es'.toList.length < scanBound:=by rw [hp.length_eq,Array.length_toList];exact wa.bd
    rw [<- e1,List.length_append,List.length_cons] at h3
    omega
   refine wpAny_bind (k5 (s:={ s with heap:=h',drawn:=d' }) gl hroom λh'' b' sb2 g2=>?_)
   rw [if_neg hnk] at g2
   have wa3:a8 P w h'' a ks oa ea epa ta:=wa2.at λo e=>(sb2.2 a ha).trans e
   refine wpAny_pure (yb (s:={ s with heap:=h'',drawn:=d' }) wa3 ⟨dn ++ [(hashInt k,Value.int k t')],h'',d',k::ls,by rw [List.append_assoc];exact e1,rfl,sb.trans sb2,g2,?_⟩)
   rw [List.map_append,List.filter_append]
   have:List.filter (λk=>!decide (k ∈ js)) (List.map (λe:Int × Value=>numOf e.2) [(hashInt k,Value.int k t')])=[k]:=by simp [hks,hj]
   rw [this]
   exact (List.Perm.cons k pl).trans (List.perm_append_comm (l₁:=[k]))
 ·rintro u s' ⟨dn,h',d',ls,e1,rfl,sb,gl,pl⟩
  rw [List.append_nil] at e1
  subst e1
  refine wpAny_pure (wpAny_pure (h h' d' ls (λc o e=>?_) (pl.trans (hK.filter _)) gl))
  exact (sb.2 c (Nat.ne_of_lt (Heap.lt_size e))).trans (keep c o e)
end
end L2.St
namespace L2.St
open PySem PyProof.Rows
noncomputable def itL (m:Nat):Nat->Nat->Nat
 | 0,i=>i
 | t + 1,i=>itL m t ((i * 5 + 1) % (m + 1))
theorem l5 (m:Nat):∀ (a b i:Nat),itL m (a + b) i=itL m b (itL m a i)
 | 0,b,i=>by rw [Nat.zero_add];rfl
 | a + 1,b,i=>by rw [Nat.add_right_comm];exact l5 m a b _
noncomputable def d_ (m:Nat):Bool:=itL m (m + 1) 0 == 0&&(List.range (m + 1)).all λj=>(List.range (m + 1)).any λt=>itL m t 0 == j
theorem pd {m:Nat} (h:itL m (m + 1) 0=0):∀ (q r:Nat),itL m (q * (m + 1) + r) 0=itL m r 0
 | 0,r=>by simp
 | q + 1,r=>by
  have e:(q + 1) * (m + 1) + r=(m + 1) + (q * (m + 1) + r):=by rw [Nat.succ_mul];omega
  rw [e,l5,h,pd h q r]
theorem cov {m:Nat} (h:d_ m=true) {i j:Nat} (hi:i <= m) (hj:j <= m):∃ t,t <= m/\itL m t i=j:=by
 unfold d_ at h
 rw [Bool.and_eq_true,beq_iff_eq,List.all_eq_true] at h
 obtain ⟨h0,h1⟩:=h
 have at_:∀ x,x <= m->∃ t,t <= m/\itL m t 0=x:=λx hx=>by
  have:=h1 x (List.mem_range.mpr (by omega))
  rw [List.any_eq_true] at this
  obtain ⟨t,ht,e⟩:=this
  exact ⟨t,by have:=List.mem_range.mp ht;omega,by simpa using e⟩
 obtain ⟨a,ha,ea⟩:=at_ i hi
 obtain ⟨b,hb,eb⟩:=at_ j hj
 refine ⟨(b + (m + 1) - a) % (m + 1),by have:=Nat.mod_lt (b + (m + 1) - a) (show 0 < m + 1 by omega);omega,?_⟩
 have e2:itL m ((b + (m + 1) - a) % (m + 1)) i=itL m (a + (b + (m + 1) - a) % (m + 1)) 0:=by rw [l5,ea]
 rw [e2,<- eb]
 by_cases c:a <= b
 ·have:(b + (m + 1) - a) % (m + 1)=b - a:=by
   have:b + (m + 1) - a=(b - a) + (m + 1):=by omega
   rw [this,Nat.add_mod_right,Nat.mod_eq_of_lt (by omega)]
  rw [this]
  congr 1;omega
 ·have:(b + (m + 1) - a) % (m + 1)=b + (m + 1) - a:=Nat.mod_eq_of_lt (by omega)
  rw [this]
  have e3:a + (b + (m + 1) - a)=1 * (m + 1) + b:=by omega
  rw [e3,pd h0]
theorem wZ:d_ 7=true:=by decide +kernel
theorem yd:d_ 15=true:=by decide +kernel
theorem ye:d_ 31=true:=by decide +kernel
theorem yf:d_ 63=true:=by decide +kernel
theorem vS:d_ 127=true:=by decide +kernel
theorem vT:d_ 255=true:=by decide +kernel
noncomputable def lp (m:Nat):Nat->Nat × Nat->Nat × Nat
 | 0,p=>p
 | t + 1,p=>lp m t (SetTable.leap m p.1 p.2)
theorem sL (m:Nat):∀ (a b:Nat) (p:Nat × Nat),lp m (a + b) p=lp m b (lp m a p)
 | 0,b,p=>by rw [Nat.zero_add];rfl
 | a + 1,b,p=>by rw [Nat.add_right_comm];exact sL m a b _
theorem pe (m:Nat):∀ (t i:Nat),lp m t (i,0)=(itL m t i,0)
 | 0,_=>rfl
 | t + 1,i=>by
  show lp m t (SetTable.leap m i 0)=_
  have:SetTable.leap m i 0=((i * 5 + 1) % (m + 1),0):=by simp [SetTable.leap]
  rw [this,pe m t]
  rfl
theorem w4 (m:Nat):∀ (t:Nat) (p:Nat × Nat),p.1 <= m->(lp m t p).1 <= m
 | 0,_,h=>h
 | t + 1,p,_=>w4 m t _ (by
  show (p.1 * 5 + 1 + p.2 / 32) % (m + 1) <= m
  have:=Nat.mod_lt (p.1 * 5 + 1 + p.2 / 32) (show 0 < m + 1 by omega);omega)
theorem pf (m:Nat):∀ (t:Nat) (p:Nat × Nat),(lp m t p).2=p.2 / 32 ^ t
 | 0,p=>by simp [lp]
 | t + 1,p=>by
  show (lp m t (SetTable.leap m p.1 p.2)).2=_
  rw [pf m t]
  show p.2 / 32 / 32 ^ t=_
  rw [Nat.div_div_eq_div_mul,Nat.pow_succ,Nat.mul_comm]
theorem lb {m:Nat}{ow:Array (Option Nat)}:∀ (fuel i p:Nat),SetTable.layClean.free m ow fuel i p=none->∀ t,t < fuel->(ow.getD (lp m t (i,p)).1 (some 0)).isNone=false
 | 0,_,_,_,t,h=>absurd h (by omega)
 | fuel + 1,i,p,e,t,h=>by
  rw [SetTable.layClean.free] at e
  split at e
  ·cases e
  ·rename_i q
   cases t with
   | zero =>
    have:=List.find?_eq_none.mp q 0 (List.mem_range.mpr (by unfold SetTable.runEnd;split <;> omega))
    exact (Bool.not_eq_true _).mp this
   | succ t=>exact lb fuel _ _ e t (by omega)
theorem lc {m:Nat}{ow:Array (Option Nat)}:∀ (fuel i p k:Nat),SetTable.layClean.free m ow fuel i p=some k->(ow.getD k (some 0)).isNone=true
 | 0,_,_,_,e=>by cases e
 | fuel + 1,i,p,k,e=>by
  rw [SetTable.layClean.free] at e
  split at e
  ·rename_i q
   cases e
   exact List.find?_some (p:=λk=>(ow.getD (i + k) (some 0)).isNone) q
  ·exact lc fuel _ _ k e
theorem vU {m:Nat} (hg:d_ m=true) {ow:Array (Option Nat)}{j i p:Nat} (hj:j <= m) (hn:(ow.getD j (some 0)).isNone=true) (hi:i <= m) (hp:p < 2 ^ 64):∃ k,SetTable.layClean.free m ow (SetTable.turns m) i p=some k/\(ow.getD k (some 0)).isNone=true:=by
 cases e:SetTable.layClean.free m ow (SetTable.turns m) i p with
 | some k=>exact ⟨k,rfl,lc _ _ _ _ e⟩
 | none =>
  exfalso
  have q:=lb _ _ _ e
  obtain ⟨t,ht,et⟩:=cov hg (w4 m 13 (i,p) hi) hj
  have z:(lp m 13 (i,p)).2=0:=by
   rw [pf]
   exact Nat.div_eq_of_lt (Nat.lt_of_lt_of_le hp (by decide))
  have e13:lp m 13 (i,p)=((lp m 13 (i,p)).1,0):=by rw [<- z]
  have:=q (13 + t) (by unfold SetTable.turns;omega)
  rw [sL,e13,pe,et] at this
  rw [hn] at this
  cases this
noncomputable def vals (m:Nat) (ow:Array (Option Nat)):List Nat:=(List.range (m + 1)).filterMap λj=>ow.getD j none
theorem sM {g g':Nat->Option Nat}{j k:Nat} (h1:g j=none) (h2:g' j=some k) (h3:∀ x,x ≠ j->g' x=g x):∀ l:List Nat,l.Nodup->j ∈ l->(l.filterMap g').Perm (k::l.filterMap g)
 | [],_,h=>by cases h
 | x::l,hn,h=>by
  obtain ⟨n1,n2⟩:=List.nodup_cons.mp hn
  by_cases e:x=j
  ·subst e
   rw [List.filterMap_cons_none h1,List.filterMap_cons_some h2]
   have:∀ l':List Nat,x ∉ l'->l'.filterMap g'=l'.filterMap g:=by
    intro l'
    induction l' with
    | nil=>intro _;rfl
    | cons y l' ih =>
     intro hx
     have hy:y ≠ x:=λz=>hx (z ▸ .head _)
     rw [List.filterMap_cons,List.filterMap_cons,h3 y hy,ih λz=>hx (.tail _ z)]
   rw [this l n1]
  ·have hm:j ∈ l:=(List.mem_cons.mp h).resolve_left λz=>e z.symm
   have ih:=sM h1 h2 h3 l n2 hm
   cases q:g x with
   | none =>
    rw [List.filterMap_cons_none q,List.filterMap_cons_none ((h3 x e).trans q)]
    exact ih
   | some v =>
    rw [List.filterMap_cons_some q,List.filterMap_cons_some ((h3 x e).trans q)]
    exact (List.Perm.cons v ih).trans (List.Perm.swap k v _)
theorem sN {g:Nat->Option Nat}:∀ l:List Nat,(∀ x ∈ l,g x ≠ none)->(l.filterMap g).length=l.length
 | [],_=>rfl
 | x::l,h=>by
  cases q:g x with
  | none=>exact absurd q (h x (.head _))
  | some v =>
   rw [List.filterMap_cons_some q,List.length_cons,List.length_cons,sN l λy hy=>h y (.tail _ hy)]
theorem sO {m:Nat}{ow:Array (Option Nat)} (hs:ow.size=m + 1) (h:(vals m ow).length <= m):∃ j,j <= m/\(ow.getD j (some 0)).isNone=true:=by
 cases Classical.em (∃ j,j <= m/\ow.getD j none=none) with
 | inl q =>
  obtain ⟨j,hj,e⟩:=q
  refine ⟨j,hj,?_⟩
  have hj':j < ow.size:=by omega
  simp [Array.getD,hj'] at e ⊢
  exact e
 | inr q =>
  have:=sN (g:=λj=>ow.getD j none) (List.range (m + 1)) λx hx z=>q ⟨x,by have:=List.mem_range.mp hx;omega,z⟩
  unfold vals at h
  rw [this,List.length_range] at h
  omega
noncomputable abbrev yg (m:Nat):Option (Array (Option Nat) × Nat)->Int->Option (Array (Option Nat) × Nat):=λacc h=>do
  let (owner,k) <- acc
  let j <- SetTable.layClean.free m owner (SetTable.turns m) (SetTable.bits h % (m + 1)) (SetTable.bits h)
  pure (owner.setIfInBounds j (some k),k + 1)
theorem vV (h:Int):SetTable.bits h < 2 ^ 64:=by
 unfold SetTable.bits
 have h1:0 <= h % (2 ^ 64:Int):=Int.emod_nonneg _ (by decide)
 have h2:h % (2 ^ 64:Int) < 2 ^ 64:=Int.emod_lt_of_pos _ (by decide)
 omega
theorem sP {m:Nat} (hg:d_ m=true):∀ (hs:List Int) (ow:Array (Option Nat)) (k:Nat),ow.size=m + 1->(vals m ow).Perm (List.range k)->k + hs.length <= m ->
  ∃ ow',hs.foldl (yg m) (some (ow,k))=some (ow',k + hs.length)/\ow'.size=m + 1/\(vals m ow').Perm (List.range (k + hs.length))
 | [],ow,k,h1,h2,_=>⟨ow,rfl,h1,h2⟩
 | h::hs,ow,k,h1,h2,h3=>by
  rw [List.length_cons] at h3
  have hl:=h2.length_eq
  rw [List.length_range] at hl
  obtain ⟨j0,hj0,hn0⟩:=sO h1 (by omega)
  obtain ⟨j,ej,hj⟩:=vU hg (ow:=ow) (i:=SetTable.bits h % (m + 1)) (p:=SetTable.bits h) hj0 hn0 (by have:=Nat.mod_lt (SetTable.bits h) (show 0 < m + 1 by omega);omega) (vV h)
  have hjs:j < ow.size:=by
   refine Decidable.byContradiction λz=>?_
   simp [Array.getD,z] at hj
  have e1:yg m (some (ow,k)) h=some (ow.setIfInBounds j (some k),k + 1):=by
   show (Option.bind (SetTable.layClean.free m ow (SetTable.turns m) (SetTable.bits h % (m + 1)) (SetTable.bits h)) _)=_
   rw [ej]
   rfl
  have hv:(vals m (ow.setIfInBounds j (some k))).Perm (List.range (k + 1)):=by
   refine (sM (g:=λj=>ow.getD j none) (j:=j) (k:=k) ?_ ?_ ?_ (List.range (m + 1)) List.nodup_range (List.mem_range.mpr (by omega))).trans ?_
   ·simp [Array.getD,hjs] at hj ⊢
    exact hj
   ·simp [Array.getD,hjs]
   ·intro x hx
    simp only [Array.getD_eq_getD_getElem?,Array.getElem?_setIfInBounds]
    rw [if_neg λz=>hx z.symm]
   ·rw [List.range_succ (n:=k)]
    exact (List.Perm.cons k h2).trans (List.perm_append_comm (l₁:=[k]))
  obtain ⟨ow',q1,q2,q3⟩:=sP hg hs (ow.setIfInBounds j (some k)) (k + 1) (by rw [Array.size_setIfInBounds];exact h1) hv (by omega)
  refine ⟨ow',?_,q2,?_⟩
  ·rw [List.foldl_cons,e1,q1,List.length_cons]
   congr 2;omega
  ·rw [List.length_cons]
   have:k + (hs.length + 1)=k + 1 + hs.length:=by omega
   rw [this]
   exact q3
theorem ph {m:Nat} (hg:d_ m=true) {f mv:Nat}{led plain:Bool}{hs:Array Int} (h:hs.size <= m):∃ t order,SetTable.laid m f mv led plain hs=some (t,order)/\order.toList.Perm (List.range hs.size)/\t.place.size=hs.size/\t.mask=m/\t.dummies=#[]:=by
 have e0:(vals m (Array.replicate (m + 1) none)).Perm (List.range 0):=by
  have:vals m (Array.replicate (m + 1) none)=[]:=by
   unfold vals
   rw [List.filterMap_eq_nil_iff]
   intro x _
   simp [Array.getD]
  rw [this]
  simp
 obtain ⟨ow,e1,e2,e3⟩:=sP hg hs.toList (Array.replicate (m + 1) none) 0 (by simp) e0 (by simpa using h)
 rw [Nat.zero_add,Array.length_toList] at e1 e3
 have ec:SetTable.layClean m hs=some ow:=by
  unfold SetTable.layClean
  rw [<- Array.foldl_toList]
  show Option.map _ (hs.toList.foldl (yg m) _)=_
  rw [e1]
  rfl
 have el:((List.range (m + 1)).filterMap λj=>(ow.getD j none).map (j,·)).map (·.2)=vals m ow:=by
  unfold vals
  rw [List.map_filterMap]
  congr 1
  funext j
  cases ow.getD j none <;> rfl
 refine ⟨_,_,by unfold SetTable.laid;rw [ec];rfl,?_,?_,rfl,rfl⟩
 ·show (List.map _ _).Perm _
  rw [el]
  exact e3
 ·show (List.map _ _).toArray.size=_
  rw [List.size_toArray,List.length_map]
  have:=congrArg List.length el
  rw [List.length_map] at this
  rw [this,e3.length_eq,List.length_range]
end L2.St
namespace L2.St
open PySem PyProof.Rows
theorem Av:∀ n,n < 241->(SetTable.sizeAbove n=8 \/ SetTable.sizeAbove n=16 \/ SetTable.sizeAbove n=32 \/ SetTable.sizeAbove n=64 \/ SetTable.sizeAbove n=128 \/ SetTable.sizeAbove n=256)/\n < SetTable.sizeAbove n:=by decide +kernel
theorem pi {n:Nat} (h:n < 241):d_ (SetTable.sizeAbove n - 1)=true/\n <= SetTable.sizeAbove n - 1/\SetTable.sizeAbove n <= 256:=by
 obtain ⟨h1,h2⟩:=Av n h
 refine ⟨?_,by omega,by omega⟩
 rcases h1 with e|e|e|e|e|e <;> rw [e]
 ·exact wZ
 ·exact yd
 ·exact ye
 ·exact yf
 ·exact vS
 ·exact vT
theorem jM {es:Array (Int × Value)}{order:Array Nat} (h:order.toList.Perm (List.range es.size)):(order.filterMap (es[·]?)).toList.Perm es.toList:=by
 rw [Array.toList_filterMap]
 refine (h.filterMap _).trans ?_
 have:=PySem.List.filterMap_getElem?_range_length es.toList
 rw [Array.length_toList] at this
 have e:(λi:Nat=>es[i]?)=λi:Nat=>es.toList[i]?:=by funext i;simp
 rw [e,this]
section
variable {P:Program}{w:World}{A:Around}{E:Value->Shared->Prop}{s:Shared}
variable {a:Addr}{ks:List Int}{o:Obj}{es:Array (Int × Value)}{ep:Nat}{t:SetTable}
theorem i_ {h:Heap} (g:a8 P w h a ks o es ep t) {es':Array (Int × Value)}{t':SetTable}{ks':List Int} (hel:ElemsOf (intKind P w) es'.toList) (hp:(es'.toList.map λe=>numOf e.2).Perm ks') (hn:ks'.Nodup) (hb:es'.size < scanBound) (hf:t'.fits es'.size=true) :
  a8 P w (h.update a (Obj.putSet es' t')) a ks' { o with data:=.set es' (ep + 1) t' } es' (ep + 1) t':=by
 have hq:(h.update a (Obj.putSet es' t')).get? a=some { o with data:=.set es' (ep + 1) t' }:=by
  have:=Heap.get?_update_self (Obj.putSet es' t') g.ho (by rw [putSet_of es' t' g.hd];rfl)
  rw [putSet_of es' t' g.hd] at this;exact this
 exact ⟨hq,g.ex,rfl,hel,hp,hn,hb,hf⟩
theorem vW:(256:Nat) <= sizeLine:=by rw [sizeLine_eq];omega
theorem pj (g:a8 P w s.heap a ks o es ep t) {wanted:Nat} (hw:wanted < 241) (hn:es.size <= wanted) {Q:Unit->Shared->Prop}
  (h:∀ h' o' es' ep' t',Heap.SameBut a s.heap h'->a8 P w h' a ks o' es' ep' t'->t'.dummies=#[]->t'.mask=SetTable.sizeAbove wanted - 1->Q () { s with heap:=h' }):wpAny (model P w) A (setRelay a wanted) Q E s:=by
 obtain ⟨hg,hle,hz⟩:=pi hw
 unfold setRelay
 refine wpAny_bind (wpAny_setState_of g.ho g.hd g.fi ?_)
 dsimp only
 rw [if_neg (by have:=vW;omega)]
 obtain ⟨t',order,e1,e2,e3,e4,e5⟩:=ph hg (f:=t.finger) (mv:=t.movedTo (SetTable.sizeAbove wanted - 1)) (led:=t.led) (plain:=t.plain) (hs:=es.map (·.1)) (by rw [Array.size_map];omega)
 have e1':t.relaid (es.map (·.1)) wanted=some (t',order):=e1
 rw [Array.size_map] at e2 e3
 have hp:=jM e2
 have hsz:(order.filterMap (es[·]?)).size=es.size:=by rw [<- Array.length_toList,hp.length_eq,Array.length_toList]
 rw [e1']
 refine wpAny_bind (wpAny_of_eq (a:=(order.filterMap (es[·]?),t')) ?_ ?_)
 ·show (if ((order.filterMap (es[·]?)).size != es.size)=true then _ else _)=_
  rw [if_neg (by rw [hsz];simp)]
 ·dsimp only
  have hb':(order.filterMap (es[·]?)).size < scanBound:=by rw [hsz];exact g.bd
  have hf':t'.fits (order.filterMap (es[·]?)).size=true:=by
   have hfill:t'.fill=es.size:=by unfold SetTable.fill;rw [e5,e3];simp
   simp only [SetTable.fits,hfill,Bool.and_eq_true,beq_iff_eq,decide_eq_true_eq]
   exact ⟨by rw [e3,hsz],by omega⟩
  refine wpAny_storeSet_of g.ho g.hd ?_ (fits_of_scanBound hb')
  exact h _ _ _ _ _ (Heap.SameBut.update _ a _) (i_ g (g.el.perm hp) ((hp.map _).trans g.pm) g.nd hb' hf') e5 e4
theorem yh (g:a8 P w s.heap a [] o es ep t) (hd:t.dummies=#[]) (h7:t.mask=7) {n:Nat} (hn:n <= 60) {Q:Unit->Shared->Prop}
  (h:∀ h' o' es' ep' t',Heap.SameBut a s.heap h'->a8 P w h' a [] o' es' ep' t'->t'.dummies=#[]->d_ t'.mask=true->n <= t'.mask->Q () { s with heap:=h' }):wpAny (model P w) A (setRoomFor a n) Q E s:=by
 have hz:es.size=0:=g.len
 have hpl:t.place.size=0:=by
  have:=g.fi
  simp only [SetTable.fits,Bool.and_eq_true,beq_iff_eq] at this
  omega
 have hfill:t.fill=0:=by unfold SetTable.fill;rw [hd,hpl];rfl
 unfold setRoomFor
 refine wpAny_bind (wpAny_setState_of g.ho g.hd g.fi ?_)
 have er:t.roomFor n=if (0 + n) * 5 >= 7 * 3 then some ((0 + n) * 2) else none:=by
  unfold SetTable.roomFor
  rw [hfill,hpl,h7]
 dsimp only
 rw [er]
 by_cases c:(0 + n) * 5 >= 7 * 3
 ·rw [if_pos c]
  dsimp only
  have hw:(0 + n) * 2 < 241:=by omega
  refine pj g hw (by omega) λh' o' es' ep' t' sb g' h1 h2=>?_
  obtain ⟨q1,q2,_⟩:=pi hw
  exact h h' o' es' ep' t' sb g' h1 (by rw [h2];exact q1) (by rw [h2];omega)
 ·rw [if_neg c]
  exact wpAny_pure (h s.heap o es ep t (Heap.SameBut.refl a s.heap) g hd (by rw [h7];exact wZ) (by omega))
theorem yi (g:a8 P w s.heap a ks o es ep t) (h0:0 < ks.length) (hn:ks.length <= 60) {Q:Value->Shared->Prop}
  (h:∀ h' o' es' ep' t',(∀ c o,s.heap.get? c=some o->h'.get? c=some o)->a8 P w h' s.heap.objs.size ks o' es' ep' t'->Q (.ref s.heap.objs.size) { s with heap:=h' }):wpAny (model P w) A (Builtin.Frozenset.copyOf a) Q E s:=by
 have keep:∀ c o,s.heap.get? c=some o->(s.heap.push (aJ w)).get? c=some o:=λc o e=>Heap.get?_push_of_some _ e
 have ha:a ≠ s.heap.objs.size:=Nat.ne_of_lt (Heap.lt_size g.ho)
 unfold Builtin.Frozenset.copyOf
 refine wpAny_bind (m_ g.type ?_)
 refine wpAny_bind (lY ?_)
 simp only [Builtin.Frozenset.addrOf,pure_bind]
 have g1:a8 P w (s.heap.push (aJ w)) s.heap.objs.size [] (aJ w) #[] 0 (.fresh 0 0 (!byT w)):=⟨Heap.get?_push_size _ rfl,⟨rfl,rfl,rfl⟩,rfl,λe he=>by simp at he,by simp,List.nodup_nil,by decide,by rfl⟩
 have hne:(s.heap.objs.size == a)=false:=by simpa using λz=>ha z.symm
 have ga:=g.at (keep a)
 have hes:es.isEmpty=false:=by
  have:=g.len
  rw [Array.isEmpty_eq_false_iff]
  intro z
  rw [z] at this
  simp at this
  omega
 unfold setMerge
 rw [hne]
 simp only [Bool.false_eq_true,if_false,bind_assoc]
 refine wpAny_bind (wpAny_setState_of (s:={ s with heap:=s.heap.push (aJ w) }) ga.ho ga.hd ga.fi ?_)
 simp only [hes,Bool.false_eq_true,if_false,bind_assoc]
 refine wpAny_bind (yh (s:={ s with heap:=s.heap.push (aJ w) }) g1 rfl rfl (n:=es.size) (by have:=g.len;omega) λh' o' es' ep' t' sb g' hd hm hle=>?_)
 have fin:∀ h' o' es' ep' t',Heap.SameBut s.heap.objs.size (s.heap.push (aJ w)) h'->a8 P w h' s.heap.objs.size ks o' es' ep' t'->Q (.ref s.heap.objs.size) { s with heap:=h' }:=λh' o' es' ep' t' sb g' =>
  h h' o' es' ep' t' (λc o e=>(sb.2 c (Nat.ne_of_lt (Heap.lt_size e))).trans (keep c o e)) g'
 refine wpAny_bind (wpAny_setState_of (s:={ s with heap:=h' }) g'.ho g'.hd g'.fi ?_)
 have hz:es'.size=0:=g'.len
 have hpl:t'.place.size=0:=by
  have:=g'.fi
  simp only [SetTable.fits,Bool.and_eq_true,beq_iff_eq] at this
  omega
 have hfill:t'.fill=0:=by unfold SetTable.fill;rw [hd,hpl];rfl
 have hroad:t'.road t=if (t'.mask == t.mask&&t.dummies.isEmpty)=true then .slotForSlot else .clean:=by
  unfold SetTable.road
  rw [hfill]
  rfl
 dsimp only
 rw [hroad]
 by_cases c:(t'.mask == t.mask&&t.dummies.isEmpty)=true
 ·rw [if_pos c]
  dsimp only
  refine wpAny_bind (wpAny_storeSet_of (s:={ s with heap:=h' }) g'.ho g'.hd ?_ (fits_of_scanBound g.bd))
  refine wpAny_pure (fin _ _ _ _ _ (sb.trans (Heap.SameBut.update _ _ _)) (i_ g' g.el g.pm g.nd g.bd ?_))
  exact g.fi
 ·rw [if_neg c]
  dsimp only
  obtain ⟨t2,order,e1,e2,e3,e4,e5⟩:=ph hm (f:=t'.finger) (mv:=t'.moves) (led:=t'.led&&t.led) (plain:=t'.plain&&t.plain) (hs:=es.map (·.1)) (by rw [Array.size_map];have:=g.len;omega)
  rw [Array.size_map] at e2 e3
  have hp:=jM e2
  have hsz:(order.filterMap (es[·]?)).size=es.size:=by rw [<- Array.length_toList,hp.length_eq,Array.length_toList]
  have hb':(order.filterMap (es[·]?)).size < scanBound:=by rw [hsz];exact g.bd
  rw [e1]
  simp only [bind_assoc]
  refine wpAny_bind (wpAny_of_eq (a:=(order.filterMap (es[·]?),t2)) ?_ ?_)
  ·show (if ((order.filterMap (es[·]?)).size != es.size)=true then _ else _)=_
   rw [if_neg (by rw [hsz];simp)]
  ·dsimp only
   have hf':t2.fits (order.filterMap (es[·]?)).size=true:=by
    have hfill:t2.fill=es.size:=by unfold SetTable.fill;rw [e5,e3];simp
    simp only [SetTable.fits,hfill,Bool.and_eq_true,beq_iff_eq,decide_eq_true_eq]
    have:=g.len
    exact ⟨by rw [e3,hsz],by omega⟩
   refine wpAny_bind (wpAny_storeSet_of (s:={ s with heap:=h' }) g'.ho g'.hd ?_ (fits_of_scanBound hb'))
   exact wpAny_pure (fin _ _ _ _ _ (sb.trans (Heap.SameBut.update _ _ _)) (i_ g' (g.el.perm hp) ((hp.map _).trans g.pm) g.nd hb' hf'))
end
end L2.St
namespace L2.St
open PySem PyProof.Rows
section
variable {P:Program}{w:World}{A:Around}{E:Value->Shared->Prop}{s:Shared}
variable {a:Addr}{ks:List Int}{o:Obj}{es:Array (Int × Value)}{ep:Nat}{t:SetTable}
theorem cO {α:Type} (xs:Array α) (i:Nat):(SetTable.eraseAt xs i).toList=xs.toList.eraseIdx i:=by
 unfold SetTable.eraseAt
 rw [Array.toList_append,Array.toList_extract,Array.toList_extract,List.eraseIdx_eq_take_drop_succ,List.extract_eq_take_drop,List.extract_eq_take_drop]
 simp
 exact List.take_of_length_le (by simp)
theorem qx (g:a8 P w s.heap a ks o es ep t) {k:Int}{tk:Tok}{Q:Bool->Shared->Prop}
  (h:∀ b h' o' es' ep' t',Heap.SameBut a s.heap h'->a8 P w h' a (ks.filter λx=>!decide (x=k)) o' es' ep' t'->Q b { s with heap:=h' }):wpAny (model P w) A (setDiscardHashed a (.int k tk) (hashInt k)) Q E s:=by
 unfold setDiscardHashed
 refine wpAny_bind (sK g ?_)
 cases hr:List.findIdx? (λe=>(intKind P w).is k e.2) es.toList with
 | none =>
  have hk:k ∉ ks:=λz=>by
   have:=m9 (s:=s) g k
   rw [hr] at this
   simp [z] at this
  have e:ks.filter (λx=>!decide (x=k))=ks:=List.filter_eq_self.mpr λx hx=>by
   have:x ≠ k:=λz=>hk (z ▸ hx)
   simpa using this
  have e2:s={ s with heap:=s.heap }:=by cases s;rfl
  rw [e] at h
  have:=h false s.heap o es ep t (Heap.SameBut.refl a s.heap) g
  exact wpAny_pure this
 | some i =>
  obtain ⟨hi,hpi,_⟩:=List.findIdx?_eq_some_iff_getElem.mp hr
  dsimp only
  refine wpAny_bind (wpAny_setState_of g.ho g.hd g.fi ?_)
  dsimp only
  have hnum:numOf (es.toList[i]).2=k:=(gi g.el (List.getElem_mem hi) k).mp hpi
  have hpe:=eO (List.getElem?_eq_getElem hi)
  have hsz:(SetTable.eraseAt es i).size=es.size - 1:=by
   rw [<- Array.length_toList,cO,List.length_eraseIdx_of_lt hi,Array.length_toList]
  have hi2:i < es.size:=by simpa using hi
  have hb':(SetTable.eraseAt es i).size < scanBound:=by rw [hsz];have:=g.bd;omega
  have hfi:=g.fi
  simp only [SetTable.fits,Bool.and_eq_true,beq_iff_eq,decide_eq_true_eq] at hfi
  have hip:i < t.place.size:=by omega
  have hf':(t.drop i).fits (SetTable.eraseAt es i).size=true:=by
   have ed:t.drop i={ t with place:=SetTable.eraseAt t.place i,dummies:=SetTable.insertAt t.dummies (SetTable.below t.dummies (t.place[i])) (t.place[i]) }:=by
    unfold SetTable.drop
    rw [Array.getElem?_eq_getElem hip]
   rw [ed]
   have h1:(SetTable.eraseAt t.place i).size=t.place.size - 1:=by
    rw [<- Array.length_toList,cO,List.length_eraseIdx_of_lt (by simpa using hip),Array.length_toList]
   have h2:(SetTable.insertAt t.dummies (SetTable.below t.dummies (t.place[i])) (t.place[i])).size <= t.dummies.size + 1:=by
    unfold SetTable.insertAt
    rw [Array.size_append,Array.size_push,Array.size_extract,Array.size_extract]
    omega
   have h3:(⟨t.mask,SetTable.eraseAt t.place i,SetTable.insertAt t.dummies (SetTable.below t.dummies (t.place[i])) (t.place[i]),t.finger,t.led,t.moves,t.plain⟩:SetTable).fill <= t.mask:=by
    show (SetTable.eraseAt t.place i).size + (SetTable.insertAt t.dummies (SetTable.below t.dummies (t.place[i])) (t.place[i])).size <= t.mask
    have:t.place.size + t.dummies.size <= t.mask:=hfi.2
    omega
   simp only [SetTable.fits,Bool.and_eq_true,beq_iff_eq,decide_eq_true_eq]
   exact ⟨by rw [h1,hsz,hfi.1],h3⟩
  have hel':ElemsOf (intKind P w) (SetTable.eraseAt es i).toList:=λe he=>g.el e (by rw [cO] at he;exact List.mem_of_mem_eraseIdx he)
  have hpm':((SetTable.eraseAt es i).toList.map λe=>numOf e.2).Perm (ks.filter λx=>!decide (x=k)):=by
   rw [cO]
   have h1:(k::(es.toList.eraseIdx i).map λe=>numOf e.2).Perm ks:=by
    have:=(hpe.map λe=>numOf e.2).trans g.pm
    rwa [List.map_cons,hnum] at this
   have h2:=h1.nodup_iff.mpr g.nd
   obtain ⟨n1,_⟩:=List.nodup_cons.mp h2
   have h3:=h1.filter λx=>!decide (x=k)
   rw [List.filter_cons_of_neg (by simp)] at h3
   refine List.Perm.trans (List.Perm.of_eq ?_) h3
   refine (List.filter_eq_self.mpr λx hx=>?_).symm
   have:x ≠ k:=λz=>n1 (z ▸ hx)
   simpa using this
  refine wpAny_bind (wpAny_storeSet_of g.ho g.hd ?_ (fits_of_scanBound hb'))
  refine wpAny_bind (wpAny_point ?_)
  exact wpAny_pure (h true _ _ _ _ _ (Heap.SameBut.update _ _ _) (i_ g hel' hpm' (g.nd.filter _) hb' hf'))
theorem Aw {id:String}{r b:Addr}{js:List Int}{ob:Obj}{eb:Array (Int × Value)}{epb:Nat}{tb:SetTable} (g:a8 P w s.heap r ks o es ep t) (gb:a8 P w s.heap b js ob eb epb tb) (hl:tb.led=!byT w) (hrb:b ≠ r) (hsz:¬ js.length / 8 > ks.length) (hn:ks.length <= 60) {Q:Unit->Shared->Prop}
  (h:∀ h' d' o' es' ep' t' ls,Heap.SameBut r s.heap h'->a8 P w h' r ls o' es' ep' t'->ls=(ks.filter λk=>!decide (k ∈ js))->Q () { s with heap:=h',drawn:=d' }):wpAny (model P w) A (Builtin.Frozenset.differenceUpdate id r (.ref b)) Q E s:=by
 unfold Builtin.Frozenset.differenceUpdate
 have hne:(Value.ref b == Value.ref r)=false:=by
  simpa using hrb
 rw [hne]
 simp only [Bool.false_eq_true,if_false]
 refine wpAny_bind (gN gb.type ?_)
 simp only [if_true,Builtin.Frozenset.addrOf,pure_bind]
 refine wpAny_bind (d9 gb ?_)
 refine wpAny_bind (d9 g ?_)
 rw [if_neg hsz]
 refine wpAny_bind (wpAny_setEpoch_of gb.ho gb.hd gb.fi ?_)
 refine wpAny_bind (wpAny_holding ?_)
 refine wpAny_bind (sI gb hl (others:=[r]) (λc hc=>?_) λes1 d0 hp=>?_)
 ·rw [List.mem_singleton.mp hc]
  exact ⟨_,_,_,_,_,g⟩
 have hel:ElemsOf (intKind P w) es1.toList:=gb.el.perm hp
 have hK:(es1.toList.map λe=>numOf e.2).Perm js:=(hp.map _).trans gb.pm
 refine wpAny_bind (wpAny_forIn_array' _ (λrest _ s'=>∃ dn h' d' o' es' ep' t',dn ++ rest=es1.toList/\s'={ s with heap:=h',drawn:=d' }/\Heap.SameBut r s.heap h'/\a8 P w h' r (ks.filter λk=>!decide (k ∈ dn.map λe:Int × Value=>numOf e.2)) o' es' ep' t') _ ?_ ?_ es1 _ ⟨[],s.heap,d0,o,es,ep,t,rfl,rfl,Heap.SameBut.refl r s.heap,by
  have:ks.filter (λk=>!decide (k ∈ ([]:List (Int × Value)).map λe=>numOf e.2))=ks:=List.filter_eq_self.mpr λx _=>by simp
  rw [this];exact g⟩)
 ·rintro ⟨hx,x⟩ rest u s' ⟨dn,h',d',o',es',ep',t',e1,rfl,sb,gl⟩
  have hmem:(hx,x) ∈ es1.toList:=by rw [<- e1];simp
  obtain ⟨t'',q⟩:=cY hel _ hmem
  obtain ⟨⟨k0,hk0,hh0⟩,_⟩:=hel _ hmem
  have hk1:=(gi hel hmem k0).mp hk0
  dsimp only at q hk1 hh0
  generalize numOf x=k at q hk1
  subst q hk1
  have hh0:hx=hashInt k:=hh0
  subst hh0
  dsimp only
  refine wpAny_bind (wpAny_holding (qx (s:={ s with heap:=h',drawn:=d' }) gl λb' h2 o2 es2 ep2 t2 sb2 g2=>?_))
  have gb2:a8 P w h2 b js ob eb epb tb:=gb.at λo e=>(sb2.2 b hrb).trans ((sb.2 b hrb).trans e)
  refine yb (s:={ s with heap:=h2,drawn:=d' }) gb2 ⟨dn ++ [(hashInt k,Value.int k t'')],h2,d',o2,es2,ep2,t2,by rw [List.append_assoc];exact e1,rfl,sb.trans sb2,?_⟩
  have:(ks.filter λx=>!decide (x ∈ (dn ++ [(hashInt k,Value.int k t'')]).map λe:Int × Value=>numOf e.2))=(ks.filter λk=>!decide (k ∈ dn.map λe:Int × Value=>numOf e.2)).filter λx=>!decide (x=k):=by
   rw [List.filter_filter]
   congr 1
   funext x
   have hks:numOf (Value.int k t'')=k:=rfl
   rw [List.map_append,List.map_cons,List.map_nil,hks]
   by_cases h1:x=k <;> by_cases h2:x ∈ dn.map (λe:Int × Value=>numOf e.2) <;> simp [h1,h2]
  rw [this]
  exact g2
 ·rintro u s' ⟨dn,h',d',o',es',ep',t',e1,rfl,sb,gl⟩
  rw [List.append_nil] at e1
  subst e1
  have e3:(ks.filter λk=>!decide (k ∈ es1.toList.map λe:Int × Value=>numOf e.2))=ks.filter λk=>!decide (k ∈ js):=by
   congr 1
   funext k
   congr 1
   rw [decide_eq_decide]
   exact hK.mem_iff
  rw [e3] at gl
  refine wpAny_pure ?_
  unfold setTidy
  refine wpAny_bind (wpAny_setState_of (s:={ s with heap:=h',drawn:=d' }) gl.ho gl.hd gl.fi ?_)
  dsimp only
  refine wpAny_ite_split (λ_=>?_) (λ_=>?_)
  ·have hle:es'.size <= 60:=by
    rw [gl.len]
    exact Nat.le_trans (List.length_filter_le _ _) hn
   have hgr:SetTable.grown es'.size=es'.size * 4:=by unfold SetTable.grown;rw [if_neg (by omega)]
   rw [hgr]
   exact pj (s:={ s with heap:=h',drawn:=d' }) gl (by omega) (by omega) λh2 o2 es2 ep2 t2 sb2 g2 _ _=>h h2 d' o2 es2 ep2 t2 _ (sb.trans sb2) g2 rfl
  ·exact wpAny_pure (h h' d' o' es' ep' t' _ sb gl rfl)
theorem yj {id:String}{b:Addr}{js:List Int}{Q:Value->Shared->Prop} (ga:a7 P w s.heap a ks) (gb:a7 P w s.heap b js) (hsz:ks.length / 4 > js.length) (hn:ks.length <= 60)
  (h:∀ h' d' ls o' es' ep' t',(∀ c o,s.heap.get? c=some o->h'.get? c=some o)->ls.length=(ks.filter λk=>!decide (k ∈ js)).length->a8 P w h' s.heap.objs.size ls o' es' ep' t'->Q (.ref s.heap.objs.size) { s with heap:=h',drawn:=d' }) :
  wpAny (model P w) A (Builtin.Frozenset.difference id a (.ref b)) Q E s:=by
 obtain ⟨oa,ea,epa,ta,wa,gda⟩:=ga.w
 obtain ⟨ob,eb,epb,tb,wb,gdb⟩:=gb.w
 have hb:b ≠ s.heap.objs.size:=Nat.ne_of_lt (Heap.lt_size wb.ho)
 unfold Builtin.Frozenset.difference
 refine wpAny_bind (gN wb.type ?_)
 simp only [Bool.not_true,Bool.false_eq_true,if_false,Bool.false_and,if_true,Builtin.Frozenset.addrOf,pure_bind]
 refine wpAny_bind (d9 wb ?_)
 refine wpAny_bind (d9 wa ?_)
 rw [if_pos hsz]
 refine wpAny_bind (wpAny_rule ?_)
 refine wpAny_bind (yi wa (by omega) hn λh1 o1 es1 ep1 t1 k1 g1=>?_)
 refine wpAny_bind (wpAny_pure ?_)
 have wb1:=wb.at (k1 b)
 refine wpAny_bind (wpAny_holding (Aw (s:={ s with heap:=h1 }) g1 wb1 gdb.led hb (by omega) hn λh2 d2 o2 es2 ep2 t2 ls sb2 g2 e2=>?_))
 exact wpAny_pure (h h2 d2 ls o2 es2 ep2 t2 (λc o e=>(sb2.2 c (Nat.ne_of_lt (Heap.lt_size e))).trans (k1 c o e)) (by rw [e2]) g2)
theorem sQ {id:String}{b:Addr}{js:List Int}{Q:Value->Shared->Prop} (ga:a7 P w s.heap a ks) (gb:a7 P w s.heap b js) (hn:ks.length <= 60)
  (h:∀ h' d' ls o' es' ep' t',(∀ c o,s.heap.get? c=some o->h'.get? c=some o)->ls.length=(ks.filter λk=>!decide (k ∈ js)).length->a8 P w h' s.heap.objs.size ls o' es' ep' t'->Q (.ref s.heap.objs.size) { s with heap:=h',drawn:=d' }) :
  wpAny (model P w) A (Builtin.Frozenset.difference id a (.ref b)) Q E s:=by
 by_cases c:ks.length / 4 > js.length
 ·exact yj ga gb c hn h
 ·refine yc ga gb c λh' d' ls k p g=>?_
  obtain ⟨o',es',ep',t',g',_⟩:=g.w
  exact h h' d' ls o' es' ep' t' k p.length_eq g'
end
end L2.St
namespace L2.St
open PySem PyProof.Rows
theorem kG:entryFor table "set.__sub__"=some Builtin.«frozenset.__sub__» :=
 entryFor_alias (id':="frozenset.__sub__") (by kernel_rfl) (by first|rfl|decide +kernel|(unfold String.splitOn;simp +decide [String.splitOnAux])) (by decide +kernel) (by kernel_rfl)
section
variable {P:Program}{w:World}{A:Around}{E:Value->Shared->Prop}{s:Shared}
theorem sS {a b:Addr}{ks js:List Int}{Q:Value->Shared->Prop} (ga:a7 P w s.heap a ks) (gb:a7 P w s.heap b js) (hn:ks.length <= 60)
  (h:∀ h' d' ls o' es' ep' t',(∀ c o,s.heap.get? c=some o->h'.get? c=some o)->ls.length=(ks.filter λk=>!decide (k ∈ js)).length->a8 P w h' s.heap.objs.size ls o' es' ep' t'->Q (.ref s.heap.objs.size) { s with heap:=h',drawn:=d' }) :
  wpAny (model P w) A (binaryOp .Sub (.ref a) (.ref b)) Q E s:=by
 obtain ⟨oa,ea,epa,ta,wa,gda⟩:=ga.w
 obtain ⟨ob,eb,epb,tb,wb,gdb⟩:=gb.w
 refine wpAny_binaryOp_same (op:=.Sub) wa.type wb.type F.fills_set_sub F.slot_set_sub ?_
 refine wpAny_call_entry F.slot_set_sub wa.type kG ?_ (F.args_set_sub_2 _ _)
 unfold Builtin.«frozenset.__sub__»
 show wpAny _ _ (do
  let (self,other) <- Builtin.Frozenset.slot1 "__sub__" ⟨[.ref a,.ref b],[]⟩
  let (l,r):=if false then (other,self) else (self,other)
  if !(<- Builtin.Frozenset.isAnySet l <&&> Builtin.Frozenset.isAnySet r) then rule s!"frozenset.{"__sub__"}.declined";return <- ret .notImplemented
  ret (<- Builtin.Frozenset.difference s!"frozenset.{"__sub__"}" (<- Builtin.Frozenset.addrOf l) r)) _ _ s
 refine wpAny_bind (wpAny_of_eq (a:=(Value.ref a,Value.ref b)) rfl ?_)
 dsimp only
 simp only [Bool.false_eq_true,if_false]
 refine wpAny_bind (wpAny_bind (gN wa.type ?_))
 refine gN wb.type ?_
 simp only [Bool.not_true,Bool.false_eq_true,if_false,Builtin.Frozenset.addrOf,pure_bind]
 refine wpAny_bind (sQ ga gb hn λh' d' ls o' es' ep' t' k hl g=>?_)
 exact wpAny_pure ⟨_,rfl,by simp,h h' d' ls o' es' ep' t' k hl g⟩
end
end L2.St
namespace L2
open PySem PySem.Spec PyProof.Rows
noncomputable def l6 (P:Program) (w:World) (a:Addr) (n:Nat):HO:=.ext λh=>∃ ks o es ep t,St.a8 P w h a ks o es ep t/\ks.length=n
theorem qy {P:Program}{w:World}{H:Hp}{h:Heap}{a:Addr}{n:Nat}{ks:List Int}{o:Obj}{es:Array (Int × Value)}{ep:Nat}{t:SetTable} (g:St.a8 P w h a ks o es ep t) (e:ks.length=n):aM P w H h a (l6 P w a n) :=
 ⟨⟨ks,o,es,ep,t,g,e⟩,⟨o,g.ho⟩,λh1 h2 ⟨ks,o,es,ep,t,g,e⟩ k=>⟨ks,o,es,ep,t,g.at k,e⟩⟩
section
variable {X:Cx}
theorem qz:OpR X (binaryOp .Sub) (λx y H Q=>∃ a b ks js,x=.ref a/\y=.ref b/\H a=some (gL X.prog X.w a ks)/\H b=some (gL X.prog X.w b js)/\ks.length <= 60/\∀ p,H p=none->Q (.ref p) (upd H p (l6 X.prog X.w p (ks.filter λk=>!decide (k ∈ js)).length))):=by
 intro pins s σ H x y v u Q I rx ry h
 obtain ⟨a,b,ks,js,rfl,rfl,ha,hb,hn,q⟩:=h
 cases rx
 cases ry
 refine St.sS (I.set ha) (I.set hb) hn λh' d' ls o' es' ep' t' kp hl g=>?_
 exact ⟨.ref s.heap.objs.size,_,I.laidD (t':=s.toks) (d':=d') kp (Nat.le_refl _) (qy g hl),rfl,q _ (I.hok.fresh (Nat.le_refl _))⟩
theorem nc:bn X (.builtin "len") (λxs H Q=>∃ a n,xs=[.ref a]/\H a=some (l6 X.prog X.w a n)/\Q (.int n) H):=by
 intro pins s σ H xs us Q I r h
 obtain ⟨a,n,rfl,e,q⟩:=h
 obtain ⟨u,rfl,ru⟩:=fU r
 cases ru
 obtain ⟨ks,o,es,ep,t,g,hk⟩:=(show aM X.prog X.w H s.heap a (l6 X.prog X.w a n) from I.hok a _ e).1
 have hl:=g.len
 have hb:=g.bd
 have hsb:scanBound=4096:=rfl
 refine call_len_set g.ho g.ex g.hd g.fi (by omega) ⟨.int n,H,I.tok _,⟨s.toks + 1,?_⟩,q⟩
 rw [hl,hk]
end
end L2
namespace L2.Dv
open PySem PyProof.Rows
open AutoSeq1 (wpAny_loadPart')
section
variable {P:Program}{w:World}{A:Around}{E:Value->Shared->Prop}{s:Shared}
noncomputable def l7 (h:Heap) (d:Addr) (es:Array DictEntry) (ep:Nat):Prop:=∃ o,h.get? d=some o/\o.ExactDict/\o.data=.dict es ep
theorem l7.at {h h':Heap}{d:Addr}{es:Array DictEntry}{ep:Nat} (x:l7 h d es ep) (k:∀ o,h.get? d=some o->h'.get? d=some o):l7 h' d es ep:=by
 obtain ⟨o,ho,r⟩:=x
 exact ⟨o,k o ho,r⟩
theorem l7.type {d:Addr}{es:Array DictEntry}{ep:Nat} (x:l7 s.heap d es ep):s.TypeIs (.ref d) "dict":=by
 obtain ⟨o,ho,r,_⟩:=x
 exact ⟨o,ho,r.1⟩
theorem vX {v d:Addr}{es:Array DictEntry}{ep:Nat}{Q:Value->Shared->Prop} (hv:s.heap.IsValuesView v d) (x:l7 s.heap d es ep)
  (h:Q (.ref s.heap.objs.size) { s with heap:=s.heap.push { cls:=.type "dict_valueiterator",data:=.fields #[.ref d,.int 0 0,.int es.size 0,.int ep 0] } }):wpAny (model P w) A (pyIter (.ref v)) Q E s:=by
 refine wpAny_pyIter_slot hv.typeIs F.slot_dict_values_iter (wpAny_call_entry F.slot_dict_values_iter hv.typeIs F.entry_dict_values_iter ?_ (F.args_dict_values_iter_1 _))
 obtain ⟨⟨c1,d1,t1,l1⟩,h1,hx,e2⟩:=x
 have e1:=hx.1
 cases e1
 cases e2
 obtain ⟨⟨c3,d3,t3,l3⟩,h3,e3,e4⟩:=hv
 cases e3
 cases e4
 obtain ⟨hp,g,dr,tk,os⟩:=s
 unfold Builtin.«dict_values.__iter__»
 wp_walk using wpAny_loadPart' h1,wpAny_loadPart' h3
 exact ⟨_,rfl,_,_,⟨_,Heap.get?_push_size _ rfl,rfl⟩,F.slot_dict_valueiterator_next.lookup,h⟩
theorem pk {it d:Addr}{i:Nat}{es:Array DictEntry}{ep:Nat}{Q:Option Value->Shared->Prop} (hh:A.handled=none) (hv:s.heap.IsValIter it d i es.size ep) (x:l7 s.heap d es ep)
  (h1:∀ e h',es[i]?=some e->h'.IsValIter it d (i + 1) es.size ep->Heap.SameBut it s.heap h'->Q (some e.val) { s with heap:=h' })
  (h2:∀ h',es[i]?=none->Heap.ExtBut it s.heap h'->Q none { s with heap:=h' }):wpAny (model P w) A (pyNext (.ref it)) Q E s:=by
 have ty:=hv.typeIs
 obtain ⟨⟨c1,d1,t1,l1⟩,g1,hx,e2⟩:=x
 have e1:=hx.1
 cases e1
 cases e2
 obtain ⟨⟨c3,d3,t3,l3⟩,g3,e3,e4⟩:=hv
 cases e3
 cases e4
 obtain ⟨hp,g,dr,tk,os⟩:=s
 unfold pyNext
 refine wpAny_bind (wpAny_attempt (wpAny_callSpecial?_slot (name:=Str.ofString "__next__") ty F.slot_dict_valueiterator_next (wpAny_call_entry F.slot_dict_valueiterator_next ty F.entry_dict_valueiterator_next ?_ (F.args_dict_valueiterator_next_1 _))))
 unfold Builtin.«dict_valueiterator.__next__»
 wp_walk using wpAny_loadPart' g1,wpAny_loadPart' g3
 rw [if_neg (by omega),Int.toNat_natCast]
 have self:∀ (k:Nat) (v:Value),(hp.update it (Obj.mapFields (·.setIfInBounds k v))).get? it=some { cls:=.type "dict_valueiterator",dict:=d3,data:=.fields ((#[.ref d,.int (i:Int) 0,.int (es.size:Int) 0,.int (ep:Int) 0]:Array Value).setIfInBounds k v),slots:=l3 }:=λk v=>Heap.get?_update_self _ g3 rfl
 cases hx:es[i]? with
 | some e =>
  have g4:=self 1 (rawInt ((i:Int) + 1))
  wp_walk using wpAny_loadPart' g3,wpAny_loadPart' g4
  exact ⟨_,rfl,wpAny_pure (h1 e _ hx ⟨_,g4,rfl,rfl⟩ (Heap.SameBut.update ..))⟩
 | none =>
  refine wpAny_bind (wpAny_mono (Q:=λ(n:Nat) (s':Shared)=>n=0/\s'=⟨hp,g,dr,tk,os⟩) (E:=λ_ _=>False) ?_ (λn s' q=>?_) λ_ _ z=>z.elim)
  ·wp_walk using wpAny_loadPart' g3
   exact ⟨by decide +kernel,rfl⟩
  obtain ⟨rfl,rfl⟩:=q
  refine wpAny_bind (wpAny_setField g3 rfl (by simp) ?_)
  refine St.iw (v:=.none) (vs:=#[]) (it:=0) (Q:=λ_ _=>True) (by simpa using hh) λe s' kp ⟨h',eq⟩ hT=>?_
  subst eq
  refine wpAny_bind (wpAny_isInstance (T:="StopIteration") (b:=true) hT isSubtype_stop ?_)
  exact wpAny_pure (h2 h' hx λb o hb q=>kp b o ((Heap.SameBut.update hp it _).extBut b o hb q))
theorem src {r d:Addr}{es:Array DictEntry}{ep:Nat}:PySem.W.KdlSrc P w "dict_values" r d es.size (λi v=>∃ e,es[i]?=some e/\v=e.val) (λh=>h.IsValuesView r d/\l7 h d es ep) where
 type:=λ_ q=>q.1.typeIs
 there:=λ_ ⟨⟨o,ho,_⟩,⟨o',ho',_⟩⟩=>⟨Heap.lt_size ho,Heap.lt_size ho'⟩
 keep:=λ_ _ ⟨⟨o,ho,z⟩,x⟩ k=>⟨⟨o,k r (.inl rfl) o ho,z⟩,x.at λo e=>k d (.inr rfl) o e⟩
 notList:=by decide
 notTuple:=by decide
 hint:=λ_ _ _ _ q z=>PySem.W.kdl_hint_values q.1.typeIs z
 iter:=λA s hh ⟨q,x⟩=>by
  have lt:d < s.heap.objs.size:=by obtain ⟨o,ho,_⟩:=x;exact Heap.lt_size ho
  have ne:d ≠ s.heap.objs.size:=Nat.ne_of_lt lt
  refine ⟨{ cls:=.type "dict_valueiterator",data:=.fields #[.ref d,.int 0 0,.int es.size 0,.int ep 0] },λi h=>h.IsValIter s.heap.objs.size d i es.size ep/\l7 h d es ep,λE Q z=>vX q x z,?_,⟨_,Heap.get?_push_size _ rfl,rfl,rfl⟩,x.at λo e=>Heap.get?_push_of_some _ e⟩
  refine ⟨λb hb=>by simp at hb;simp [hb],λi h h' ⟨⟨o,ho,z⟩,y⟩ k=>⟨⟨o,k _ (by simp) o ho,z⟩,y.at λo e=>k d (by simp) o e⟩,λi s' Q E hi ⟨y,z⟩ hQ=>?_,λs' Q E ⟨y,z⟩ hQ=>?_,λi s' Q E ⟨y,z⟩ hQ=>?_⟩
  ·refine pk hh y z (λe h' he y' sb=>?_) λh' he _=>absurd he (by simp;omega)
   exact hQ _ h' s'.toks ⟨e,he,rfl⟩ ⟨y',z.at λo q=>sb.extBut d o ne q⟩ λb o hb q=>sb.extBut b o (λw=>hb (by simp [w])) q
  ·refine pk hh y z (λe h' he _ _=>absurd he (by simp)) λh' _ eb=>?_
   exact hQ h' s'.toks λb o hb q=>eb b o (λw=>hb (by simp [w])) q
  ·exact wpAny_pyIter_valiter y hQ
end
end L2.Dv
namespace HT
open PySem PyProof.Rows
section
variable {prog:Program}{w:World}{A:Around}{E:Value->Shared->Prop}{s:Shared}
theorem getItem_tuple_whole {t sl:Addr}{items:Array Value}{vl vu:Value}{lo hi:Option Int}{Q:Value->Shared->Prop} (ht:IsTup s.heap t items) (hs:s.heap.IsSliceOf sl vl vu .none) (pl:IsPart vl lo) (pu:IsPart vu hi)
  (h0:sIx items.size 0 lo=0) (h1:sIx items.size items.size hi=items.size) (h:Q (.ref t) s):wpAny (model prog w) A (getItem (.ref t) (.ref sl)) Q E s:=by
 have hTs:s.TypeIs (.ref sl) "slice":=by obtain ⟨os,hos,hcs,_⟩:=hs;exact ⟨os,hos,hcs⟩
 unfold getItem
 try with_reducible refine wpAny_holding ?_
 first|refine wpAny_bind (wpAny_pure ?_)|skip
 refine wpAny_bind (wpAny_sequenceKey ht.typeIs (by decide) ?_)
 refine wpAny_bind (wpAny_callSpecial?_slot (name:=Str.ofString "__getitem__") ht.typeIs PyProof.Rows.slot_tuple_getitem
  (wpAny_call_entry PyProof.Rows.slot_tuple_getitem ht.typeIs entry_tuple_getitem ?_ (args_tuple_getitem _ _)))
 show wpAny _ _ (Builtin.Tuple.tupleItemsOf (.ref t) >>= _) _ _ s
 refine wpAny_bind (tupleItemsOf_ ht ?_)
 refine wpAny_bind (wpAny_typeOf hTs ?_)
 rw [if_pos (by decide)]
 refine wpAny_bind (d6 hs pl pu ?_)
 show wpAny _ _ (if (((sIx items.size 0 lo:Nat):Int) == 0&&(1:Int) == 1&&(sIx items.size items.size hi - sIx items.size 0 lo) == items.size)=true then _ else _) _ _ s
 rw [h0,h1,if_pos (by simp)]
 unfold Builtin.Tuple.tupleIsExact
 refine wpAny_bind (wpAny_bind (wpAny_typeOf ht.typeIs (wpAny_pure ?_)))
 rw [if_pos (by decide)]
 refine wpAny_bind (wpAny_rule ?_)
 exact wpAny_pure ⟨_,rfl,wpAny_pure h⟩
end
end HT
namespace L2
open PySem PySem.Spec PyProof.Rows
section
variable {X:Cx}
theorem vY:SlR X (λx lo hi H Q=>∃ a xs,x=.ref a/\SqT X.K H a xs/\HT.sIx xs.length 0 lo=0/\HT.sIx xs.length xs.length hi=xs.length/\Q (.ref a) H):=by
 intro pins s σ H x v vl vu lo hi sl Q I rx hs pl pu h
 obtain ⟨a,xs,rfl,hx,h0,h1,q⟩:=h
 cases rx
 obtain ⟨its,r,ht,hz⟩:=I.tuple hx
 have hlen:its.toArray.size=xs.length:=by rw [List.size_toArray];exact r.length.symm
 refine ⟨"tuple",_,PyProof.Rows.slot_tuple_getitem.lookup,ht.typeIs,?_⟩
 exact HT.getItem_tuple_whole ht hs pl pu (by rw [hlen];exact h0) (by rw [hlen];exact h1) ⟨.ref a,H,I,rfl,q⟩
end
end L2
namespace L2.Rv
open PySem PyProof.Rows
section
variable {P:Program}{w:World}{A:Around}{E:Value->Shared->Prop}{s:Shared}
noncomputable def Drawn (items:Array Value) (i:Nat) (v:Value):Prop:=items[items.size - 1 - i]?=some v
end
end L2.Rv
namespace L2
open PySem PySem.Spec PyProof.Rows
section
variable {X:Cx}
end
end L2
namespace MM
open PySem
inductive Sc where
 | non|bl (b:Bool)|int (i:Int)|str (x:Str)
 deriving Inhabited,DecidableEq
inductive DD where
 | k (kvs:List (Int × Sc))|t (kvs:List (List Int × Sc))
 | n (kvs:List ((List (List Int) × Str) × Sc))
 deriving Inhabited
inductive PV where
 | non|bl (b:Bool)|int (i:Int)|str (x:Str)|tup (xs:List PV)|lst (xs:List PV)|dI (d:DD)
 deriving Inhabited
noncomputable def Sc.pv:Sc->PV
 | .non=>.non
 | .bl b=>.bl b
 | .int i=>.int i
 | .str x=>.str x
noncomputable def sc?:PV->Option Sc
 | .non=>some .non
 | .bl b=>some (.bl b)
 | .int i=>some (.int i)
 | .str x=>some (.str x)
 | _=>none
noncomputable def aZ {α:Type} [DecidableEq α] (kvs:List (α × Sc)) (k:α):Option Sc:=(kvs.find? λp=>decide (p.1=k)).map (·.2)
noncomputable def bo {α:Type} [DecidableEq α] (kvs:List (α × Sc)) (k:α) (v:Sc):List (α × Sc) :=
 if (kvs.any λp=>decide (p.1=k))=true then kvs.map (λp=>if p.1=k then (p.1,v) else p) else kvs ++ [(k,v)]
noncomputable def eqL (f:PV->PV->Option Bool):List PV->List PV->Option Bool
 | [],[]=>some true
 | x::xs,y::ys=>(f x y).bind λp=>(eqL f xs ys).map λq=>p&&q
 | _,_=>some false
noncomputable def eqF:Nat->PV->PV->Option Bool
 | _,.non,.non=>some true
 | _,.bl a,.bl b=>some (a == b)
 | _,.bl a,.int b=>some ((if a then 1 else 0) == b)
 | _,.int a,.bl b=>some (a == (if b then 1 else 0))
 | _,.int a,.int b=>some (a == b)
 | _,.str a,.str b=>some (a == b)
 | 0,.tup _,.tup _=>none
 | 0,.lst _,.lst _=>none
 | _,.dI _,_=>none
 | _,_,.dI _=>none
 | n + 1,.tup a,.tup b=>eqL (eqF n) a b
 | n + 1,.lst a,.lst b=>if a.length=b.length then eqL (eqF n) a b else some false
 | _,_,_=>some false
noncomputable def i5:PV->PV->Bool
 | .tup _,.tup _=>true
 | .lst _,.lst _=>true
 | .tup _,_=>false
 | _,.tup _=>false
 | .lst _,_=>false
 | _,.lst _=>false
 | .bl _,.int _=>false
 | .int _,.bl _=>false
 | .dI _,_=>false
 | _,.dI _=>false
 | _,_=>true
noncomputable def inL (f:PV->Option Bool):List PV->Option Bool
 | []=>some false
 | y::ys=>(f y).bind λp=>(inL f ys).map λq=>p || q
inductive MV where
 | val (v:PV)|own (xs:List PV)|brw (xs:List PV)|ownD (d:DD)|brwD (d:DD)
 | mutD (d:DD)
 deriving Inhabited
noncomputable abbrev Rho:=List (Option MV)
inductive Op2 where
 | add|sub|mul|fdiv|mod|pow|shr
 deriving DecidableEq
inductive Cp where
 | eq|ne|lt|le|gt|ge|isN|notN|isIn|notIn
 deriving DecidableEq
inductive Blt where
 | len|tupleOf|listOf|sorted|any|all|sum|max1|min1|max2|min2|intOf|boolOf|isInt|isBool|isStr|isList|isTuple
 | sortedSet|lenSet|lenSetSub|sortedKeys|valuesOf|tupleRev
 deriving DecidableEq
inductive Sk where
 | seq|rng|enm|rev
 deriving DecidableEq
set_option genInjectivity false in
inductive ME where
 | var (i:Nat)
 | bor (i:Nat)
 | cst (v:PV)
 | glob (x:Str) (v:PV)
 | bin (op:Op2) (a b:ME)
 | neg (a:ME)
 | not (a:ME)
 | and (a b:ME)
 | or (a b:ME)
 | ite (c a b:ME)
 | cmp (op:Cp) (a b:ME)
 | chain (op op':Cp) (a b c:ME)
 | tup (es:List ME)
 | lst (es:List ME)
 | idx (a i:ME)
 | slice (a lo hi:ME)
 | blt (b:Blt) (es:List ME)
 | call (f:Nat) (es:List ME)
 | callD (f:Nat) (es:List ME) (d:List Sc)
 | comp (k:Sk) (src:List ME) (js:List Nat) (cond elt:ME)
 | dget (a k d:ME)
 | dat (a k:ME)
 | dIn (neg:Bool) (k a:ME)
 deriving Inhabited
noncomputable def aN:List PV->Option (List Int)
 | []=>some []
 | .int i::r=>(aN r).map (i::·)
 | _=>none
noncomputable def cE:List PV->Option (List (List Int))
 | []=>some []
 | .tup xs::r=>(aN xs).bind λx=>(cE r).map (x::·)
 | _=>none
noncomputable def bK:List PV->Option (List Bool)
 | []=>some []
 | .bl i::r=>(bK r).map (i::·)
 | _=>none
noncomputable def fY:PV->Option (List (List Int) × Str)
 | .tup [.tup xs,.str t]=>(cE xs).map λR=>(R,t)
 | _=>none
noncomputable def qA:PV->PV->Option (Option Sc)
 | .dI (.k kvs),.int i=>some (aZ kvs i)
 | .dI (.t kvs),.tup xs=>(aN xs).map (aZ kvs)
 | .dI (.n kvs),y=>(fY y).map (aZ kvs)
 | _,_=>none
noncomputable def l8:DD->PV->Sc->Option DD
 | .k kvs,.int i,s=>if kvs.length < 10000 then some (.k (bo kvs i s)) else none
 | .t kvs,.tup xs,s=>(aN xs).bind λk=>if kvs.length < 10000 then some (.t (bo kvs k s)) else none
 | .n kvs,y,s=>(fY y).bind λk=>if kvs.length < 10000 then some (.n (bo kvs k s)) else none
 | _,_,_=>none
noncomputable def dSc:DD->List Sc
 | .k kvs=>kvs.map (·.2)
 | .t kvs=>kvs.map (·.2)
 | .n kvs=>kvs.map (·.2)
noncomputable def po (d:DD):List PV:=(dSc d).map Sc.pv
noncomputable def lexLt:List Int->List Int->Bool
 | [],[]=>false
 | [],_::_=>true
 | _::_,[]=>false
 | x::xs,y::ys=>if x=y then lexLt xs ys else decide (x < y)
noncomputable def sT (x:Int):List Int->List Int
 | []=>[x]
 | y::r=>if y < x then y::sT x r else x::y::r
noncomputable def sortI:List Int->List Int
 | []=>[]
 | x::r=>sT x (sortI r)
noncomputable def sU (x:List Int):List (List Int)->List (List Int)
 | []=>[x]
 | y::r=>if lexLt y x=true then y::sU x r else x::y::r
noncomputable def sortT:List (List Int)->List (List Int)
 | []=>[]
 | x::r=>sU x (sortT r)
noncomputable def dd:List Int->List Int
 | []=>[]
 | x::r=>if x ∈ dd r then dd r else x::dd r
noncomputable def gO {α:Type} (f:Int->Int->Option α):PV->PV->Option α
 | .int i,.int j=>f i j
 | _,_=>none
noncomputable def w5:PV->PV->Option PV
 | .int i,.int j=>some (.int (i + j))
 | .lst a,.lst b=>if a.length + b.length <= 10000 then some (.lst (a ++ b)) else none
 | .tup a,.tup b=>if a.length + b.length <= 10000 then some (.tup (a ++ b)) else none
 | .str a,.str b=>if a.length + b.length <= 1000000 then some (.str (a ++ b)) else none
 | _,_=>none
noncomputable def fZ (op:Op2):PV->PV->Option PV:=match op with
 | .add=>w5
 | .sub=>gO λi j=>some (.int (i - j))
 | .mul=>gO λi j=>if (-(2 ^ 64) < i/\i < 2 ^ 64) \/ (-(2 ^ 64) < j/\j < 2 ^ 64) then some (.int (i * j)) else none
 | .fdiv=>gO λi j=>if 0 < j/\j < 1073741824 then some (.int (i / j)) else none
 | .mod=>gO λi j=>if 0 < j then some (.int (i % j)) else none
 | .pow=>gO λi j=>if 0 <= j/\j <= 1000000/\i.natAbs < 2 ^ 64 then some (.int (i ^ j.toNat)) else none
 | .shr=>gO λi j=>if 0 <= j then some (.int (i / 2 ^ j.toNat)) else none
noncomputable def f_:PV->Bool
 | .non=>true
 | _=>false
noncomputable def isIn (x:PV) (xs:List PV):Option Bool:=inL (λy=>eqF 100 y x) xs
noncomputable def Ax (a b:PV):Option Bool:=match b with
 | .non=>some (f_ a)
 | .bl q=>(match a with|.bl p=>some (p == q)|_=>none)
 | _=>none
noncomputable def aO:PV->Option (List PV)
 | .tup xs=>some xs
 | .lst xs=>some xs
 | _=>none
noncomputable def fS:PV->Option (List PV)
 | .lst xs=>some xs
 | _=>none
noncomputable def bv (op:Cp):PV->PV->Option Bool:=match op with
 | .eq=>eqF 100
 | .ne=>λa b=>if i5 a b=true then (eqF 100 a b).map λp=>!p else none
 | .lt=>gO λi j=>some (decide (i < j))
 | .le=>gO λi j=>some (decide (i <= j))
 | .gt=>gO λi j=>some (decide (j < i))
 | .ge=>gO λi j=>some (decide (j <= i))
 | .isN=>Ax
 | .notN=>λa b=>(Ax a b).map λp=>!p
 | .isIn=>λa b=>(aO b).bind (isIn a)
 | .notIn=>λa b=>((aO b).bind (isIn a)).map λp=>!p
noncomputable def place (n:Nat) (i:Int):Option Nat :=
 if 0 <= i then (if i < n then some i.toNat else none) else if -(n:Int) <= i then some (i + n).toNat else none
noncomputable def jN:PV->PV->Option PV
 | .tup xs,.int i=>(place xs.length i).bind λj=>xs[j]?
 | .lst xs,.int i=>(place xs.length i).bind λj=>xs[j]?
 | _,_=>none
noncomputable def fe (n d:Nat):Option Int->Nat
 | none=>d
 | some i=>if i < 0 then (i + n).toNat else min i.toNat n
noncomputable def cut (xs:List PV) (lo hi:Option Int):List PV:=(xs.drop (fe xs.length 0 lo)).take (fe xs.length xs.length hi - fe xs.length 0 lo)
noncomputable def gP:PV->Option Int->Option Int->Option PV
 | .lst xs,lo,hi=>some (.lst (cut xs lo hi))
 | .tup xs,lo,hi=>some (.tup (cut xs lo hi))
 | _,_,_=>none
noncomputable def bnd:ME->PV->Option (Option Int)
 | .cst .non,_=>some none
 | _,.int i=>some (some i)
 | _,_=>none
noncomputable def Ay:List Int->Option Int
 | []=>none
 | x::r=>some (r.foldl (λa b=>if a < b then b else a) x)
noncomputable def fw (xs:List PV):Option PV :=
 if xs.length < 64 then
  match aN xs with
  | some ns=>some (.lst ((sortI ns).map .int))
  | none=>(cE xs).map λts=>.lst ((sortT ts).map λt=>.tup (t.map .int))
 else none
noncomputable def isT (b:Blt):PV->Bool
 | .int _=>b == .isInt
 | .bl _=>b == .isInt || b == .isBool
 | .str _=>b == .isStr
 | .lst _=>b == .isList
 | .tup _=>b == .isTuple
 | .non=>false
 | .dI _=>false
noncomputable def isD:PV->Bool
 | .dI _=>true
 | _=>false
noncomputable def bL (vs:List PV) (f:PV->Option PV):Option PV:=match vs with
 | [a]=>f a
 | _=>none
noncomputable def gq (vs:List PV) (f:PV->PV->Option PV):Option PV:=match vs with
 | [a,b]=>f a b
 | _=>none
noncomputable def fz (b:Blt) (vs:List PV):Option PV:=bL vs λa=>if isD a=true then none else some (.bl (isT b a))
noncomputable def w8:PV->Option PV
 | .tup xs=>some (.int xs.length)
 | .lst xs=>some (.int xs.length)
 | .dI (.k kvs)=>some (.int kvs.length)
 | _=>none
noncomputable def aq (b:Blt) (vs:List PV):Option PV:=match b with
 | .len=>bL vs w8
 | .tupleOf=>bL vs λa=>(aO a).map .tup
 | .listOf=>bL vs λa=>(aO a).map .lst
 | .sorted=>bL vs λa=>(aO a).bind fw
 | .any=>bL vs λa=>(fS a).bind λxs=>(bK xs).map λbs=>.bl (bs.any id)
 | .all=>bL vs λa=>(fS a).bind λxs=>(bK xs).map λbs=>.bl (bs.all id)
 | .sum=>bL vs λa=>(fS a).bind λxs=>(aN xs).map λns=>.int ns.sum
 | .max1=>bL vs λa=>(fS a).bind λxs=>(aN xs).bind λns=>(Ay ns).map .int
 | .min1=>none
 | .max2=>gq vs (gO λi j=>some (.int (if j > i then j else i)))
 | .min2=>gq vs (gO λi j=>some (.int (if j < i then j else i)))
 | .intOf=>bL vs λa=>match a with|.int i=>some (.int i)|.bl b=>some (.int (if b then 1 else 0))|_=>none
 | .boolOf=>bL vs λa=>match a with|.bl b=>some (.bl b)|_=>none
 | .isInt=>fz .isInt vs
 | .isBool=>fz .isBool vs
 | .isStr=>fz .isStr vs
 | .isList=>fz .isList vs
 | .isTuple=>fz .isTuple vs
 | .sortedSet=>bL vs λa=>(aO a).bind λxs=>(aN xs).bind λns=>if ns.length <= 1000/\(dd ns).length < 64 then some (.lst ((sortI (dd ns)).map .int)) else none
 | .lenSet=>bL vs λa=>(aO a).bind λxs=>(aN xs).bind λns=>if ns.length <= 1000 then some (.int (dd ns).length) else none
 | .lenSetSub=>gq vs λa b=>(aO a).bind λxs=>(aN xs).bind λns=>(aO b).bind λys=>(aN ys).bind λms =>
   if ns.length <= 1000/\ms.length <= 1000/\(dd ns).length <= 60 then some (.int ((dd ns).filter λn=>!decide (n ∈ ms)).length) else none
 | .sortedKeys=>bL vs λa=>match a with|.dI (.k kvs)=>if kvs.length < 64 then some (.lst ((sortI (kvs.map (·.1))).map .int)) else none|_=>none
 | .tupleRev=>bL vs λa=>(fS a).map λxs=>.tup xs.reverse
 | .valuesOf=>bL vs λa=>match a with|.dI d=>if (po d).length <= 10000 then some (.lst (po d)) else none|_=>none
noncomputable def ng (n:Nat):List PV->List PV
 | []=>[]
 | x::r=>.tup [.int (n:Nat),x]::ng (n + 1) r
noncomputable def dg:Sk->List PV->Option (List PV)
 | .seq,[a]=>aO a
 | .rng,[.int j]=>if -(2 ^ 62) <= j/\j < 2 ^ 62 then some ((List.range j.toNat).map λ(k:Nat)=>.int ((0:Int) + k)) else none
 | .rng,[.int i,.int j]=>if -(2 ^ 62) <= i/\i < 2 ^ 62/\-(2 ^ 62) <= j/\j < 2 ^ 62 then some ((List.range (j - i).toNat).map λ(k:Nat)=>.int (i + k)) else none
 | .enm,[a]=>(aO a).map (ng 0)
 | .rev,[.lst xs]=>some xs.reverse
 | _,_=>none
noncomputable def dh (c:PV->Option Bool) (f:PV->Option PV):List PV->Option (List PV)
 | []=>some []
 | x::r=>(c x).bind λb=>if b=true then (f x).bind λy=>(dh c f r).map (y::·) else dh c f r
noncomputable def aC:PV->Option Bool
 | .bl b=>some b
 | _=>none
noncomputable abbrev Cal:=Nat->List MV->Option PV
noncomputable def sV:Option MV->Option PV
 | some (.val v)=>some v
 | _=>none
noncomputable def be:Option MV->Option PV
 | some (.val v)=>some v
 | some (.own xs)=>some (.lst xs)
 | some (.brw xs)=>some (.lst xs)
 | some (.ownD kvs)=>some (.dI kvs)
 | some (.brwD kvs)=>some (.dI kvs)
 | some (.mutD kvs)=>some (.dI kvs)
 | none=>none
noncomputable def ez:Option MV->Option MV
 | some (.val v)=>some (.val v)
 | some (.own xs)=>some (.brw xs)
 | some (.brw xs)=>some (.brw xs)
 | some (.ownD xs)=>some (.brwD xs)
 | some (.brwD xs)=>some (.brwD xs)
 | some (.mutD xs)=>some (.brwD xs)
 | none=>none
noncomputable def dE:Option MV->Option MV
 | some (.own xs)=>some (.brw xs)
 | some (.ownD xs)=>some (.brwD xs)
 | some (.mutD xs)=>some (.brwD xs)
 | o=>o
noncomputable def ce (js:List Nat) (ρ:Rho) (x:PV):Rho:=some (.val x)::js.map λj=>dE (ρ[j]?).join
mutual
noncomputable def ev (cal:Cal):ME->Rho->Option PV
 | .var i,ρ=>sV (ρ[i]?).join
 | .bor i,ρ=>be (ρ[i]?).join
 | .cst v,_=>some v
 | .glob _ v,_=>some v
 | .bin op a b,ρ=>(ev cal a ρ).bind λx=>(ev cal b ρ).bind λy=>fZ op x y
 | .neg a,ρ=>(ev cal a ρ).bind λx=>match x with|.int i=>some (.int (-i))|_=>none
 | .not a,ρ=>((ev cal a ρ).bind aC).map λb=>.bl (!b)
 | .and a b,ρ=>((ev cal a ρ).bind aC).bind λc=>if c=true then (ev cal b ρ).bind λy=>(aC y).map .bl else some (.bl false)
 | .or a b,ρ=>((ev cal a ρ).bind aC).bind λc=>if c=true then some (.bl true) else (ev cal b ρ).bind λy=>(aC y).map .bl
 | .ite c a b,ρ=>((ev cal c ρ).bind aC).bind λk=>if k=true then ev cal a ρ else ev cal b ρ
 | .cmp op a b,ρ=>(ev cal a ρ).bind λx=>(ev cal b ρ).bind λy=>(bv op x y).map .bl
 | .chain op op' a b c,ρ=>(ev cal a ρ).bind λx=>(ev cal b ρ).bind λy=>(bv op x y).bind λk=>if k=true then (ev cal c ρ).bind λz=>(bv op' y z).map .bl else some (.bl false)
 | .tup es,ρ=>(evs cal es ρ).bind λvs=>if vs.length <= 10000 then some (.tup vs) else none
 | .lst es,ρ=>(evs cal es ρ).bind λvs=>if vs.length <= 10000 then some (.lst vs) else none
 | .idx a i,ρ=>(ev cal a ρ).bind λx=>(ev cal i ρ).bind λy=>jN x y
 | .slice a lo hi,ρ=>(ev cal a ρ).bind λx=>((ev cal lo ρ).bind λl=>bnd lo l).bind λl=>((ev cal hi ρ).bind λh=>bnd hi h).bind λh=>gP x l h
 | .blt b es,ρ=>(evs cal es ρ).bind λvs=>aq b vs
 | .call f es,ρ=>(evA cal es ρ).bind λvs=>cal f vs
 | .callD f es d,ρ=>(evA cal es ρ).bind λvs=>cal f (vs ++ d.map λx=>.val x.pv)
 | .comp k src js cond elt,ρ=>(evs cal src ρ).bind λvs=>(dg k vs).bind λxs =>
   if xs.length <= 10000 then (dh (λx=>(ev cal cond (ce js ρ x)).bind aC) (λx=>ev cal elt (ce js ρ x)) xs).map .lst else none
 | .dget a k d,ρ=>(ev cal a ρ).bind λx=>(ev cal k ρ).bind λy=>(ev cal d ρ).bind λz=>(qA x y).bind λo=>(sc? z).map λs=>(o.getD s).pv
 | .dat a k,ρ=>(ev cal a ρ).bind λx=>(ev cal k ρ).bind λy=>(qA x y).bind λo=>o.map Sc.pv
 | .dIn neg k a,ρ=>(ev cal k ρ).bind λy=>(ev cal a ρ).bind λx=>(qA x y).map λo=>.bl (if neg=true then !o.isSome else o.isSome)
noncomputable def evs (cal:Cal):List ME->Rho->Option (List PV)
 | [],_=>some []
 | e::es,ρ=>(ev cal e ρ).bind λv=>(evs cal es ρ).map (v::·)
noncomputable def evA (cal:Cal):List ME->Rho->Option (List MV)
 | [],_=>some []
 | .bor i::es,ρ=>(ez (ρ[i]?).join).bind λv=>(evA cal es ρ).map (v::·)
 | e::es,ρ=>(ev cal e ρ).bind λv=>(evA cal es ρ).map (MV.val v::·)
end
noncomputable def evB (cal:Cal) (e:ME) (ρ:Rho):Option Bool:=(ev cal e ρ).bind aC
noncomputable def pp:Option MV->Option DD
 | some (.ownD d)=>some d
 | some (.mutD d)=>some d
 | _=>none
noncomputable def evM (cal:Cal):List Bool->List ME->Rho->Option (List MV)
 | [],[],_=>some []
 | true::bs,.bor i::es,ρ=>(pp (ρ[i]?).join).bind λd=>(evM cal bs es ρ).map (MV.mutD d::·)
 | false::bs,e::es,ρ=>(evA cal [e] ρ).bind λa=>match a with|[.val v]=>(evM cal bs es ρ).map (MV.val v::·)|_=>none
 | _,_,_=>none
noncomputable def kH (ρ:Rho) (i:Nat) (d:DD):Rho:=match (ρ[i]?).join with
 | some (.ownD _)=>ρ.set i (some (.ownD d))
 | _=>ρ.set i (some (.mutD d))
noncomputable def i6:List Bool->List ME->List PV->Rho->Option Rho
 | [],[],[],ρ=>some ρ
 | true::bs,.bor i::es,.dI d::ds,ρ=>i6 bs es ds (kH ρ i d)
 | false::bs,_::es,ds,ρ=>i6 bs es ds ρ
 | _,_,_,_=>none
noncomputable def pq (cal:Cal) (pre:Option ME) (f:Nat) (mask:List Bool) (es:List ME) (ρ:Rho):Option (Bool × Rho) :=
 match (match pre with|none=>some false|some e=>evB cal e ρ) with
 | none=>none
 | some true=>some (true,ρ)
 | some false=>match (evM cal mask es ρ).bind λvs=>cal (f + 2000) vs with
  | some (.tup (.bl r::ds))=>(i6 mask es ds ρ).map λρ'=>(r,ρ')
  | _=>none
noncomputable def iz (cal:Cal) (f:Nat) (mask:List Bool) (es:List ME) (ρ:Rho):Option (Sc × Rho) :=
 match (evM cal mask es ρ).bind λvs=>cal (f + 2000) vs with
 | some (.tup (v::ds))=>(sc? v).bind λs=>(i6 mask es ds ρ).map λρ'=>(s,ρ')
 | _=>none
set_option genInjectivity false in
inductive MS where
 | set (i:Nat) (e:ME)
 | setOwn (i:Nat) (e:ME)
 | freeze (i:Nat)
 | append (i:Nat) (e:ME)
 | extend (i:Nat) (e:ME)
 | popTo (j i:Nat)
 | setIdx (i:Nat) (k v:ME)
 | unpack (is:List Nat) (e:ME)
 | expr (e:ME)
 | ite (c:ME) (a b:List MS)
 | for1 (i:Nat) (k:Sk) (src:List ME) (body:List MS)
 | forT (is:List Nat) (k:Sk) (src:List ME) (body:List MS)
 | while (n:Nat) (c:ME) (body:List MS)
 | ret (e:ME)
 | retOwn (i:Nat)
 | retN
 | brk
 | cont
 | pass
 | never
 | newD (m:Bool) (i:Nat)
 | retM (e:ME)
 | iteM (neg:Bool) (pre:Option ME) (f:Nat) (mask:List Bool) (es:List ME) (a b:List MS)
 | setM (i f:Nat) (mask:List Bool) (es:List ME)
 | iteC (f:Nat) (mask:List Bool) (es:List ME) (m:ME) (a b:List MS)
 | retNew (f:Nat) (es:List ME)
 | newN (i:Nat)
 | retF (e:ME)
 | setCall (i f:Nat) (es:List ME)
 | clear (i:Nat)
 | dput (i:Nat) (k v:ME)
 deriving Inhabited
inductive R where
 | next (ρ:Rho)|brk (ρ:Rho)|cont (ρ:Rho)|ret (v:PV)|bad
 | retF (xs:List PV)
 | retM (v:Sc) (ρ:Rho)
 deriving Inhabited
noncomputable def R.andThen:R->(Rho->R)->R
 | .next ρ,k=>k ρ
 | r,_=>r
noncomputable def put (ρ:Rho) (i:Nat) (v:MV):Rho:=ρ.set i (some v)
noncomputable def cK (o:Option PV) (k:PV->R):R:=match o with
 | some v=>k v
 | none=>.bad
noncomputable def nh (o:Option Bool) (k:Bool->R):R:=match o with
 | some v=>k v
 | none=>.bad
noncomputable def Az:List Nat->List PV->Rho->Option Rho
 | [],[],ρ=>some ρ
 | i::is,v::vs,ρ=>Az is vs (put ρ i (.val v))
 | _,_,_=>none
noncomputable def w9 (is:List Nat):PV->Rho->Option Rho
 | .tup vs,ρ=>Az is vs ρ
 | _,_=>none
noncomputable def gQ (o:Option Rho) (f:Rho->R):R:=match o with
 | some ρ=>f ρ
 | none=>.bad
noncomputable def aY (body:PV->Rho->R):List PV->Rho->R
 | [],ρ=>.next ρ
 | x::r,ρ=>match body x ρ with
  | .next ρ'=>aY body r ρ'
  | .cont ρ'=>aY body r ρ'
  | .brk ρ'=>.next ρ'
  | .ret v=>.ret v
  | .bad=>.bad
  | .retF xs=>.retF xs
  | .retM v ρ'=>.retM v ρ'
noncomputable def l9 (c:Rho->Option Bool) (body:Rho->R):Nat->Rho->R
 | 0,_=>.bad
 | n + 1,ρ=>match c ρ with
  | none=>.bad
  | some false=>.next ρ
  | some true=>match body ρ with
   | .next ρ'=>l9 c body n ρ'
   | .cont ρ'=>l9 c body n ρ'
   | .brk ρ'=>.next ρ'
   | .ret v=>.ret v
   | .bad=>.bad
   | .retF xs=>.retF xs
   | .retM v ρ'=>.retM v ρ'
noncomputable def bc (src:List ME) (ρ:Rho):Rho:=match src with
 | [.bor i]=>(match (ρ[i]?).join with|some (.own xs)=>put ρ i (.brw xs)|_=>ρ)
 | _=>ρ
noncomputable def aP (src:List ME) (ρ₀ ρ:Rho):Rho:=match src with
 | [.bor i]=>(match (ρ₀[i]?).join,(ρ[i]?).join with|some (.own _),some (.brw xs)=>put ρ i (.own xs)|_,_=>ρ)
 | _=>ρ
noncomputable def R.back (src:List ME) (ρ₀:Rho):R->R
 | .next ρ=>.next (aP src ρ₀ ρ)
 | .brk ρ=>.brk (aP src ρ₀ ρ)
 | .cont ρ=>.cont (aP src ρ₀ ρ)
 | .retM v ρ=>.retM v (aP src ρ₀ ρ)
 | r=>r
mutual
noncomputable def ex (cal:Cal):MS->Rho->R
 | .set i e,ρ=>cK (ev cal e ρ) λv=>.next (put ρ i (.val v))
 | .setOwn i e,ρ=>cK (ev cal e ρ) λv=>match v with|.lst xs=>.next (put ρ i (.own xs))|_=>.bad
 | .freeze i,ρ=>match (ρ[i]?).join with|some (.own xs)=>.next (put ρ i (.val (.lst xs)))|some _=>.next ρ|none=>.bad
 | .append i e,ρ=>cK (ev cal e ρ) λv=>match (ρ[i]?).join with
  | some (.own xs)=>if xs.length < 10000 then .next (put ρ i (.own (xs ++ [v]))) else .bad
  | _=>.bad
 | .extend i e,ρ=>cK (ev cal e ρ) λv=>match (ρ[i]?).join,aO v with
  | some (.own xs),some ys=>if xs.length + ys.length <= 10000 then .next (put ρ i (.own (xs ++ ys))) else .bad
  | _,_=>.bad
 | .popTo j i,ρ=>match (ρ[i]?).join with
  | some (.own xs)=>(match xs.getLast? with|some v=>.next (put (put ρ i (.own xs.dropLast)) j (.val v))|none=>.bad)
  | _=>.bad
 | .setIdx i k v,ρ=>cK (ev cal v ρ) λv=>cK (ev cal k ρ) λk=>match (ρ[i]?).join,k with
  | some (.own xs),.int k=>(match place xs.length k with|some j=>.next (put ρ i (.own (xs.set j v)))|none=>.bad)
  | _,_=>.bad
 | .unpack is e,ρ=>cK (ev cal e ρ) λv=>gQ (w9 is v ρ) .next
 | .expr e,ρ=>cK (ev cal e ρ) λ_=>.next ρ
 | .ite c a b,ρ=>nh (evB cal c ρ) λk=>if k=true then exs cal a ρ else exs cal b ρ
 | .for1 i k src body,ρ=>match (evs cal src ρ).bind (dg k) with
  | some xs=>(aY (λx ρ'=>exs cal body (put ρ' i (.val x))) xs (bc src ρ)).back src ρ
  | none=>.bad
 | .forT is k src body,ρ=>match (evs cal src ρ).bind (dg k) with
  | some xs=>(aY (λx ρ'=>gQ (w9 is x ρ') λρ''=>exs cal body ρ'') xs (bc src ρ)).back src ρ
  | none=>.bad
 | .while n c body,ρ=>l9 (evB cal c) (λρ'=>exs cal body ρ') n ρ
 | .ret e,ρ=>cK (ev cal e ρ) .ret
 | .retOwn i,ρ=>match (ρ[i]?).join with|some (.own xs)=>.ret (.lst xs)|some (.ownD kvs)=>.ret (.dI kvs)|some (.val v)=>.ret v|_=>.bad
 | .newD m i,ρ=>.next (put ρ i (.ownD (if m=true then .t [] else .k [])))
 | .dput i k v,ρ=>cK (ev cal v ρ) λv=>cK (ev cal k ρ) λk=>match (ρ[i]?).join,sc? v with
  | some (.ownD d),some s=>match l8 d k s with|some d'=>.next (put ρ i (.ownD d'))|none=>.bad
  | some (.mutD d),some s=>match l8 d k s with|some d'=>.next (put ρ i (.mutD d'))|none=>.bad
  | _,_=>.bad
 | .retM e,ρ=>cK (ev cal e ρ) λv=>match sc? v with|some s=>.retM s ρ|none=>.bad
 | .iteM neg pre f mask es a b,ρ=>match pq cal pre f mask es ρ with
  | some (c,ρ')=>if (c != neg)=true then exs cal a ρ' else exs cal b ρ'
  | none=>.bad
 | .setM i f mask es,ρ=>match iz cal f mask es ρ with
  | some (s,ρ')=>.next (put ρ' i (.val s.pv))
  | none=>.bad
 | .iteC f mask es m a b,ρ=>match iz cal f mask es ρ with
  | some (s,ρ')=>nh ((ev cal m ρ').bind λy=>bv .eq s.pv y) λc=>if c=true then exs cal a ρ' else exs cal b ρ'
  | none=>.bad
 | .retNew f es,ρ=>match evs cal es ρ with
  | some vs=>(match cal (f + 2000) (vs.map MV.val ++ [.mutD (.n [])]) with
   | some (.tup (v::_))=>(match sc? v with|some s=>.ret s.pv|none=>.bad)
   | _=>.bad)
  | none=>.bad
 | .newN i,ρ=>.next (put ρ i (.ownD (.n [])))
 | .retF e,ρ=>cK (ev cal e ρ) λv=>match v with|.lst xs=>.retF xs|_=>.bad
 | .setCall i f es,ρ=>cK ((evA cal es ρ).bind λvs=>cal (f + 1000) vs) λv=>match v with|.lst xs=>.next (put ρ i (.own xs))|_=>.bad
 | .clear i,ρ=>match (ρ[i]?).join with|some (.own _)=>.next (put ρ i (.own []))|_=>.bad
 | .retN,_=>.ret .non
 | .brk,ρ=>.brk ρ
 | .cont,ρ=>.cont ρ
 | .pass,ρ=>.next ρ
 | .never,_=>.bad
noncomputable def exs (cal:Cal):List MS->Rho->R
 | [],ρ=>.next ρ
 | s::ss,ρ=>(ex cal s ρ).andThen λρ'=>exs cal ss ρ'
end
structure MD where
 name:Str
 params:List Str
 names:List Str
 body:List MS
 deriving Inhabited
noncomputable def cs:List MV->Rho->Option (List PV)
 | [],_=>some []
 | .mutD _::as,some (.mutD d)::ρ=>(cs as ρ).map (.dI d::·)
 | .val _::as,_::ρ=>cs as ρ
 | _,_=>none
noncomputable def aa (ds:List MD):Nat->Cal
 | 0,_,_=>none
 | n + 1,f,args=>match ds[f]? with
  | none=>if 2000 <= f then (match ds[f - 2000]? with
   | none=>none
   | some d=>if args.length=d.params.length then
     (match exs (aa ds n) d.body (args.map some ++ List.replicate (d.names.length - args.length) none) with
     | .retM v ρ=>(cs args ρ).map λds=>.tup (v.pv::ds)
     | _=>none) else none) else
   (match ds[f - 1000]? with
   | none=>none
   | some d=>if args.length=d.params.length then
     (match exs (aa ds n) d.body (args.map some ++ List.replicate (d.names.length - args.length) none) with
     | .retF xs=>some (.lst xs)
     | _=>none) else none)
  | some d=>if args.length=d.params.length then
    (match exs (aa ds n) d.body (args.map some ++ List.replicate (d.names.length - args.length) none) with
    | .next _=>some .non
    | .ret v=>some v
    | .retF xs=>some (.lst xs)
    | _=>none) else none
end MM
namespace MM
open PySem PySem.Spec PyProof.Rows L2
noncomputable abbrev St:=L2.St
noncomputable def am (H:Hp) (O:List Addr):Hp:=λb=>if b ∈ O then none else H b
theorem l_ {H:Hp}{O:List Addr}{b:Addr} (h:b ∈ O):am H O b=none:=if_pos h
theorem bD {H:Hp}{O:List Addr}{b:Addr} (h:b ∉ O):am H O b=H b:=if_neg h
theorem ag.rd {H H':Hp} (s:ag H H') {a:Addr}{u:HO} (h:Rd H a u):Rd H' a u:=h.elim (λe=>.inl (s a _ e)) λ⟨o,e⟩=>.inr ⟨o,s a _ e⟩
theorem bA (H:Hp) (O:List Addr):ag (am H O) H:=λb u e=>by
 unfold am at e
 split at e
 ·cases e
 ·exact e
theorem bi {H H':Hp}{O O':List Addr} (s:ag H H') (h:∀ b ∈ O',b ∈ O \/ H b=none):ag (am H O) (am H' O'):=λb u e=>by
 have hb:b ∉ O:=λz=>by rw [l_ z] at e;cases e
 rw [bD hb] at e
 rw [bD]
 ·exact s b u e
 ·intro z
  rcases h b z with q|q
  ·exact hb q
  ·rw [q] at e;cases e
theorem aA {H H':Hp}{O:List Addr} (s:ag H H'):ag (am H O) (am H' O):=bi s λ_ h=>.inl h
noncomputable def Sc.v:Sc->V
 | .non=>.non
 | .bl b=>.bl b
 | .int i=>.int i
 | .str x=>.str x
noncomputable def fA (kvs:List (Int × Sc)):List (Key × V):=kvs.map λp=>(Sum.inl p.1,p.2.v)
noncomputable def gR (kvs:List (List Int × Sc)):List (List Key × V):=kvs.map λp=>(p.1.map Sum.inl,p.2.v)
noncomputable def gS (kvs:List ((List (List Int) × Str) × Sc)):List (Nk.NK × V):=kvs.map λp=>(p.1,p.2.v)
noncomputable def cQ:DD->HO
 | .k kvs=>.dK (fA kvs)
 | .t kvs=>.dT (gR kvs)
 | .n kvs=>.dN (gS kvs)
mutual
noncomputable def Rep (K:PySem.W.Frag) (F:Hp):PV->V->Prop
 | .non,u=>u=.non
 | .bl b,u=>u=.bl b
 | .int i,u=>u=.int i
 | .str x,u=>u=.str x
 | .tup xs,u=>∃ a us,u=.ref a/\F a=some (.tup us)/\Reps K F xs us
 | .lst xs,u=>∃ a us,u=.ref a/\SqL K F a us/\Reps K F xs us
 | .dI kvs,u=>∃ a,u=.ref a/\Rd F a (cQ kvs)
noncomputable def Reps (K:PySem.W.Frag) (F:Hp):List PV->List V->Prop
 | [],us=>us=[]
 | x::xs,us=>∃ u r,us=u::r/\Rep K F x u/\Reps K F xs r
end
section
variable {K:PySem.W.Frag}{F F':Hp}
mutual
theorem Rep.mono (s:ag F F'):∀ (x:PV) {u:V},Rep K F x u->Rep K F' x u
 | .non,_,h=>by simpa only [Rep] using h
 | .bl _,_,h=>by simpa only [Rep] using h
 | .int _,_,h=>by simpa only [Rep] using h
 | .str _,_,h=>by simpa only [Rep] using h
 | .tup xs,_,h=>by
  rw [Rep] at h ⊢
  obtain ⟨a,us,e,q,r⟩:=h
  exact ⟨a,us,e,s a _ q,Reps.mono s xs r⟩
 | .lst xs,_,h=>by
  rw [Rep] at h ⊢
  obtain ⟨a,us,e,q,r⟩:=h
  exact ⟨a,us,e,s.seq q,Reps.mono s xs r⟩
 | .dI kvs,_,h=>by
  rw [Rep] at h ⊢
  obtain ⟨a,e,q⟩:=h
  exact ⟨a,e,ag.rd s q⟩
theorem Reps.mono (s:ag F F'):∀ (xs:List PV) {us:List V},Reps K F xs us->Reps K F' xs us
 | [],_,h=>by simpa only [Reps] using h
 | x::xs,_,h=>by
  rw [Reps] at h ⊢
  obtain ⟨u,r,e,q,t⟩:=h
  exact ⟨u,r,e,Rep.mono s x q,Reps.mono s xs t⟩
end
theorem Reps.nil:Reps K F [] []:=by rw [Reps]
theorem Reps.cons {x:PV}{xs:List PV}{u:V}{us:List V} (h:Rep K F x u) (t:Reps K F xs us):Reps K F (x::xs) (u::us):=by
 rw [Reps];exact ⟨u,us,rfl,h,t⟩
theorem Reps.length:∀ {xs:List PV}{us:List V},Reps K F xs us->xs.length=us.length
 | [],_,h=>by rw [Reps] at h;subst h;rfl
 | x::xs,_,h=>by
  rw [Reps] at h
  obtain ⟨u,r,e,_,t⟩:=h
  subst e
  simp [Reps.length t]
theorem Reps.get:∀ {xs:List PV}{us:List V}{i:Nat}{x:PV},Reps K F xs us->xs[i]?=some x->∃ u,us[i]?=some u/\Rep K F x u
 | [],_,_,_,_,e=>by simp at e
 | x::xs,_,i,y,h,e=>by
  rw [Reps] at h
  obtain ⟨u,r,rfl,q,t⟩:=h
  cases i with
  | zero=>simp at e;subst e;exact ⟨u,by simp,q⟩
  | succ i=>obtain ⟨w,h1,h2⟩:=Reps.get (i:=i) t (by simpa using e);exact ⟨w,by simpa using h1,h2⟩
theorem Reps.get':∀ {xs:List PV}{us:List V}{i:Nat}{u:V},Reps K F xs us->us[i]?=some u->∃ x,xs[i]?=some x/\Rep K F x u
 | [],_,i,_,h,e=>by rw [Reps] at h;subst h;simp at e
 | x::xs,_,i,y,h,e=>by
  rw [Reps] at h
  obtain ⟨u,r,rfl,q,t⟩:=h
  cases i with
  | zero=>simp at e;subst e;exact ⟨x,by simp,q⟩
  | succ i=>obtain ⟨w,h1,h2⟩:=Reps.get' (i:=i) t (by simpa using e);exact ⟨w,by simpa using h1,h2⟩
theorem Reps.append:∀ {xs ys:List PV}{us ws:List V},Reps K F xs us->Reps K F ys ws->Reps K F (xs ++ ys) (us ++ ws)
 | [],_,_,_,h,g=>by rw [Reps] at h;subst h;exact g
 | x::xs,_,_,_,h,g=>by
  rw [Reps] at h
  obtain ⟨u,r,rfl,q,t⟩:=h
  exact .cons q (Reps.append t g)
theorem Reps.snoc {xs:List PV}{us:List V}{x:PV}{u:V} (h:Reps K F xs us) (g:Rep K F x u):Reps K F (xs ++ [x]) (us ++ [u]):=h.append (.cons g .nil)
theorem Reps.take:∀ {xs:List PV}{us:List V} (n:Nat),Reps K F xs us->Reps K F (xs.take n) (us.take n)
 | _,_,0,_=>by simpa using Reps.nil
 | [],_,n + 1,h=>by rw [Reps] at h;subst h;simpa using Reps.nil
 | x::xs,_,n + 1,h=>by
  rw [Reps] at h
  obtain ⟨u,r,rfl,q,t⟩:=h
  exact .cons q (Reps.take n t)
theorem Reps.drop:∀ {xs:List PV}{us:List V} (n:Nat),Reps K F xs us->Reps K F (xs.drop n) (us.drop n)
 | _,_,0,h=>h
 | [],_,n + 1,h=>by rw [Reps] at h;subst h;simpa using Reps.nil
 | x::xs,_,n + 1,h=>by
  rw [Reps] at h
  obtain ⟨u,r,rfl,q,t⟩:=h
  exact Reps.drop n t
theorem Reps.set:∀ {xs:List PV}{us:List V}{x:PV}{u:V} (n:Nat),Reps K F xs us->Rep K F x u->Reps K F (xs.set n x) (us.set n u)
 | [],_,_,_,n,h,_=>by rw [Reps] at h;subst h;simpa using Reps.nil
 | x::xs,_,_,_,0,h,g=>by
  rw [Reps] at h
  obtain ⟨u,r,rfl,q,t⟩:=h
  exact .cons g t
 | x::xs,_,_,_,n + 1,h,g=>by
  rw [Reps] at h
  obtain ⟨u,r,rfl,q,t⟩:=h
  exact .cons q (Reps.set n t g)
theorem Reps.dropLast {xs:List PV}{us:List V} (h:Reps K F xs us):Reps K F xs.dropLast us.dropLast:=by
 rw [List.dropLast_eq_take,List.dropLast_eq_take,<- h.length];exact h.take _
theorem Reps.ints:∀ {ns:List Int}{us:List V},Reps K F (ns.map .int) us->us=ns.map V.int
 | [],_,h=>by simpa [Reps] using h
 | n::ns,_,h=>by
  rw [List.map_cons,Reps] at h
  obtain ⟨u,r,rfl,q,t⟩:=h
  rw [Rep] at q
  rw [q,Reps.ints t];rfl
theorem Reps.of_ints:∀ (ns:List Int),Reps K F (ns.map .int) (ns.map V.int)
 | []=>.nil
 | n::ns=>.cons (by rw [Rep]) (Reps.of_ints ns)
theorem fB:∀ {xs:List PV}{ns:List Int},aN xs=some ns->xs=ns.map .int
 | [],_,h=>by simp [aN] at h;subst h;rfl
 | .int i::r,ns,h=>by
  simp only [aN,Option.map_eq_some_iff] at h
  obtain ⟨ms,h1,rfl⟩:=h
  rw [fB h1];rfl
 | .non::_,_,h=>by simp [aN] at h
 | .bl _::_,_,h=>by simp [aN] at h
 | .str _::_,_,h=>by simp [aN] at h
 | .tup _::_,_,h=>by simp [aN] at h
 | .lst _::_,_,h=>by simp [aN] at h
 | .dI _::_,_,h=>by simp [aN] at h
theorem jO:∀ {xs:List PV}{ns:List (List Int)},cE xs=some ns->xs=ns.map λt=>.tup (t.map .int)
 | [],_,h=>by simp [cE] at h;subst h;rfl
 | .tup i::r,ns,h=>by
  simp only [cE,Option.bind_eq_some_iff,Option.map_eq_some_iff] at h
  obtain ⟨t,h0,ms,h1,rfl⟩:=h
  rw [jO h1,fB h0];rfl
 | .non::_,_,h=>by simp [cE] at h
 | .bl _::_,_,h=>by simp [cE] at h
 | .str _::_,_,h=>by simp [cE] at h
 | .int _::_,_,h=>by simp [cE] at h
 | .lst _::_,_,h=>by simp [cE] at h
 | .dI _::_,_,h=>by simp [cE] at h
theorem iC:∀ {xs:List PV}{ns:List Bool},bK xs=some ns->xs=ns.map .bl
 | [],_,h=>by simp [bK] at h;subst h;rfl
 | .bl i::r,ns,h=>by
  simp only [bK,Option.map_eq_some_iff] at h
  obtain ⟨ms,h1,rfl⟩:=h
  rw [iC h1];rfl
 | .non::_,_,h=>by simp [bK] at h
 | .int _::_,_,h=>by simp [bK] at h
 | .str _::_,_,h=>by simp [bK] at h
 | .tup _::_,_,h=>by simp [bK] at h
 | .lst _::_,_,h=>by simp [bK] at h
 | .dI _::_,_,h=>by simp [bK] at h
end
noncomputable def aQ (K:PySem.W.Frag) (H:Hp) (O:List Addr) (v:PV) (u:V):Prop :=
 Rep K (am H O) v u \/ (∃ xs a us,v=.lst xs/\u=.ref a/\SqL K H a us/\Reps K (am H O) xs us) \/ ∃ kvs a,v=.dI kvs/\u=.ref a/\Rd H a (cQ kvs)
section
variable {K:PySem.W.Frag}{H H':Hp}{O:List Addr}
theorem aQ.of {v:PV}{u:V} (h:Rep K (am H O) v u):aQ K H O v u:=.inl h
theorem aQ.mono (s:ag H H') {v:PV}{u:V} (h:aQ K H O v u):aQ K H' O v u:=by
 rcases h with h|⟨xs,a,us,e1,e2,q,r⟩|⟨kvs,a,e1,e2,q⟩
 ·exact .inl (Rep.mono (aA s) _ h)
 ·exact .inr (.inl ⟨xs,a,us,e1,e2,s.seq q,Reps.mono (aA s) _ r⟩)
 ·exact .inr (.inr ⟨kvs,a,e1,e2,ag.rd s q⟩)
theorem aQ.lst {xs:List PV}{u:V} (h:aQ K H O (.lst xs) u):∃ a us,u=.ref a/\SqL K H a us/\Reps K (am H O) xs us:=by
 rcases h with h|⟨ys,a,us,e1,e2,q,r⟩|⟨kvs,a,e1,e2,q⟩
 ·rw [Rep] at h
  obtain ⟨a,us,e,q,r⟩:=h
  exact ⟨a,us,e,(bA H O).seq q,r⟩
 ·cases e1
  exact ⟨a,us,e2,q,r⟩
 ·cases e1
theorem aQ.tupH {xs:List PV}{u:V} (h:aQ K H O (.tup xs) u):∃ a us,u=.ref a/\H a=some (.tup us)/\Reps K (am H O) xs us:=by
 rcases h with h|⟨ys,a,us,e1,e2,q,r⟩|⟨kvs,a,e1,e2,q⟩
 ·rw [Rep] at h
  obtain ⟨a,us,e,q,r⟩:=h
  exact ⟨a,us,e,bA H O a _ q,r⟩
 ·cases e1
 ·cases e1
theorem aQ.tup {xs:List PV}{u:V} (h:aQ K H O (.tup xs) u):∃ a us,u=.ref a/\SqT K H a us/\Reps K (am H O) xs us:=by
 obtain ⟨a,us,e,q,r⟩:=h.tupH
 exact ⟨a,us,e,SqT.of q,r⟩
theorem aQ.tupR {xs:List PV}{u:V} (h:aQ K H O (.tup xs) u):Rep K (am H O) (.tup xs) u:=by
 rcases h with h|⟨ys,a,us,e1,e2,q,r⟩|⟨kvs,a,e1,e2,q⟩
 ·exact h
 ·cases e1
 ·cases e1
theorem aQ.dI {kvs:DD}{u:V} (h:aQ K H O (.dI kvs) u):∃ a,u=.ref a/\Rd H a (cQ kvs):=by
 rcases h with h|⟨ys,a,us,e1,e2,q,r⟩|⟨kvs,a,e1,e2,q⟩
 ·rw [Rep] at h
  obtain ⟨a,e,q⟩:=h
  exact ⟨a,e,ag.rd (bA H O) q⟩
 ·cases e1
 ·cases e1
  exact ⟨a,e2,q⟩
theorem aQ.int {i:Int}{u:V} (h:aQ K H O (.int i) u):u=.int i:=by
 rcases h with h|⟨ys,a,us,e1,e2,q,r⟩|⟨kvs,a,e1,e2,q⟩
 ·rw [Rep] at h;exact h
 ·cases e1
 ·cases e1
theorem aQ.bl {i:Bool}{u:V} (h:aQ K H O (.bl i) u):u=.bl i:=by
 rcases h with h|⟨ys,a,us,e1,e2,q,r⟩|⟨kvs,a,e1,e2,q⟩
 ·rw [Rep] at h;exact h
 ·cases e1
 ·cases e1
theorem aQ.str {i:Str}{u:V} (h:aQ K H O (.str i) u):u=.str i:=by
 rcases h with h|⟨ys,a,us,e1,e2,q,r⟩|⟨kvs,a,e1,e2,q⟩
 ·rw [Rep] at h;exact h
 ·cases e1
 ·cases e1
theorem aQ.non {u:V} (h:aQ K H O .non u):u=.non:=by
 rcases h with h|⟨ys,a,us,e1,e2,q,r⟩|⟨kvs,a,e1,e2,q⟩
 ·rw [Rep] at h;exact h
 ·cases e1
 ·cases e1
theorem aQ.seq {v:PV}{xs:List PV}{u:V} (h:aQ K H O v u) (e:aO v=some xs):∃ a us,u=.ref a/\(SqL K H a us \/ SqT K H a us)/\Reps K (am H O) xs us:=by
 cases v with
 | lst ys=>simp [aO] at e;subst e;obtain ⟨a,us,e,q,r⟩:=h.lst;exact ⟨a,us,e,.inl q,r⟩
 | tup ys=>simp [aO] at e;subst e;obtain ⟨a,us,e,q,r⟩:=h.tup;exact ⟨a,us,e,.inr q,r⟩
 | _=>simp [aO] at e
theorem aQ.whole {v:PV}{u:V} (h:aQ K H O v u):Rep K H v u:=by
 rcases h with h|⟨xs,a,us,rfl,e2,q,r⟩|⟨kvs,a,rfl,e2,q⟩
 ·exact Rep.mono (bA H O) _ h
 ·rw [Rep];exact ⟨a,us,e2,q,Reps.mono (bA H O) _ r⟩
 ·rw [Rep];exact ⟨a,e2,q⟩
end
noncomputable def dS (K:PySem.W.Frag) (B:Hp) (O:List Addr) (H:Hp):MV->V->Prop
 | .val v,u=>Rep K (am H O) v u
 | .own xs,u=>∃ a us,u=.ref a/\H a=some (.lst us)/\Reps K (am H O) xs us/\a ∈ O/\B a=none
 | .brw xs,u=>∃ a us,u=.ref a/\SqL K B a us/\Reps K (am H O) xs us
 | .ownD kvs,u=>∃ a,u=.ref a/\H a=some (cQ kvs)/\a ∈ O/\B a=none
 | .mutD kvs,u=>∃ a,u=.ref a/\H a=some (cQ kvs)/\a ∈ O/\B a=none
 | .brwD kvs,u=>∃ a,u=.ref a/\Rd B a (cQ kvs)
noncomputable def gr:MV->Bool
 | .own _=>true
 | .ownD _=>true
 | .mutD _=>true
 | _=>false
structure au (K:PySem.W.Frag) (B:Hp) (O₀ O:List Addr) (H:Hp) (ρ:Rho) (σ:St):Prop where
 keep:ag B H
 here:∀ a ∈ O,H a ≠ none
 sub:∀ a ∈ O₀,a ∈ O
 old:∀ a ∈ O₀,B a ≠ none
 len:ρ.length=σ.length
 slot:∀ (i:Nat) (m:MV),ρ[i]?=some (some m)->∃ u,σ[i]?=some (some u)/\dS K B O H m u
 apart:∀ (i j:Nat) (m m':MV) (a:Addr),i ≠ j->ρ[i]?=some (some m)->ρ[j]?=some (some m')->gr m=true->gr m'=true->σ[i]?=some (some (.ref a))->σ[j]? ≠ some (some (.ref a))
section
variable {K:PySem.W.Frag}{B H H':Hp}{O₀ O:List Addr}{ρ:Rho}{σ:St}
theorem dS.mono (s:ag H H') {m:MV}{u:V} (h:dS K B O H m u):dS K B O H' m u:=by
 cases m with
 | val v=>exact Rep.mono (aA s) _ h
 | own xs=>obtain ⟨a,us,e,q,r,h1,h2⟩:=h;exact ⟨a,us,e,s _ _ q,Reps.mono (aA s) _ r,h1,h2⟩
 | brw xs=>obtain ⟨a,us,e,q,r⟩:=h;exact ⟨a,us,e,q,Reps.mono (aA s) _ r⟩
 | ownD kvs=>obtain ⟨a,e,q,h1,h2⟩:=h;exact ⟨a,e,s _ _ q,h1,h2⟩
 | mutD kvs=>obtain ⟨a,e,q,h1,h2⟩:=h;exact ⟨a,e,s _ _ q,h1,h2⟩
 | brwD kvs=>exact h
theorem au.mono (s:ag H H') (h:au K B O₀ O H ρ σ):au K B O₀ O H' ρ σ where
 keep:=h.keep.trans s
 here:=λa ha e=>h.here a ha (s.free e)
 sub:=h.sub
 old:=h.old
 len:=h.len
 slot:=λi m e=>let ⟨u,e1,q⟩:=h.slot i m e;⟨u,e1,q.mono s⟩
 apart:=h.apart
theorem dS.bor {m:MV}{u:V}{v:PV} (hB:ag B H) (h:dS K B O H m u) (e:be (some m)=some v):aQ K H O v u:=by
 cases m with
 | val w=>simp [be] at e;subst e;exact .inl h
 | own xs=>simp [be] at e;subst e;obtain ⟨a,us,e,q,r,_⟩:=h;exact .inr (.inl ⟨xs,a,us,rfl,e,SqL.of q,r⟩)
 | brw xs=>simp [be] at e;subst e;obtain ⟨a,us,e,q,r⟩:=h;exact .inr (.inl ⟨xs,a,us,rfl,e,hB.seq q,r⟩)
 | ownD kvs=>simp [be] at e;subst e;obtain ⟨a,e,q,_⟩:=h;exact .inr (.inr ⟨kvs,a,rfl,e,.inl q⟩)
 | mutD kvs=>simp [be] at e;subst e;obtain ⟨a,e,q,_⟩:=h;exact .inr (.inr ⟨kvs,a,rfl,e,.inl q⟩)
 | brwD kvs=>simp [be] at e;subst e;obtain ⟨a,e,q⟩:=h;exact .inr (.inr ⟨kvs,a,rfl,e,ag.rd hB q⟩)
end
theorem aB {α:Type}{o:Option (Option α)}{x:α} (h:o.join=some x):o=some (some x):=by
 cases o with
 | none=>simp at h
 | some y=>cases y with
  | none=>simp at h
  | some z=>simp at h;rw [h]
end MM
namespace MM
open PySem PySem.Spec PyProof.Rows L2
structure Tab where
 fs:List Str
 gs:List (Str × PV)
 ds:List (List Sc)
noncomputable def yk (sc:Scope) (x:Str):Bool:=sc.names.lookup x == some .local || sc.names.lookup x == some .cell || sc.names.lookup x == some .free
noncomputable def gT (sc:Scope) (x:Str):Bool:=sc.names.lookup x == some .local || sc.names.lookup x == some .cell
noncomputable def glB (sc:Scope) (x:Str):Bool:=sc.names.lookup x == some .globalImplicit
noncomputable def ah (x:Str):Bool:=!(x == ("__debug__":Str))&&!(x == ("__classdict__":Str))&&!(x == ("__name__":Str))
noncomputable def aT (N:List Str) (sc:Scope) (i:Nat) (x:Str):Bool:=N[i]? == some x&&yk sc x&&ah x
noncomputable def av:ME->Bool
 | .bor _=>true
 | _=>false
noncomputable def vZ:Op2->Operator
 | .add=>.Add|.sub=>.Sub|.mul=>.Mult|.fdiv=>.FloorDiv|.mod=>.Mod|.pow=>.Pow|.shr=>.RShift
noncomputable def i7:Cp->CmpOp
 | .eq=>.Eq|.ne=>.NotEq|.lt=>.Lt|.le=>.LtE|.gt=>.Gt|.ge=>.GtE|.isN=>.Is|.notN=>.IsNot|.isIn=>.In|.notIn=>.NotIn
noncomputable def mf:PV->Const->Bool
 | .non,.none=>true
 | .bl a,.bool b=>a == b
 | .int a,.int b=>a == b
 | .str a,.str b=>a == b
 | _,_=>false
noncomputable def w_:PV->PV->Bool
 | .non,.non=>true
 | .bl a,.bl b=>a == b
 | .int a,.int b=>a == b
 | .str a,.str b=>a == b
 | _,_=>false
noncomputable def sW (gs:List (Str × PV)) (x:Str) (v:PV):Bool:=gs.any λp=>p.1 == x&&w_ p.2 v
noncomputable def aj:Expr->Bool
 | .Starred ..=>false
 | _=>true
noncomputable def gu:Expr->Bool
 | .Set ..=>false
 | _=>true
noncomputable def bw:Expr->Bool
 | .Slice ..=>false
 | _=>true
noncomputable def bf:Expr->Bool
 | .ListComp ..=>false
 | .SetComp ..=>false
 | .DictComp ..=>false
 | _=>true
noncomputable def iD:Expr->Bool
 | .UnaryOp .Not _ _=>false
 | .BoolOp ..=>false
 | .IfExp ..=>false
 | .Compare ..=>false
 | _=>true
noncomputable def lf:Blt->String
 | .len=>"len" | .tupleOf=>"tuple" | .listOf=>"list" | .sorted=>"sorted" | .any=>"any" | .all=>"all" | .sum=>"sum" | .max1=>"max" | .min1=>"min" | .max2=>"max" | .min2=>"min"
 | .intOf=>"int" | .boolOf=>"bool" | .isInt=>"isinstance" | .isBool=>"isinstance" | .isStr=>"isinstance" | .isList=>"isinstance" | .isTuple=>"isinstance" | .sortedKeys=>"sorted" | .valuesOf=>"list" | .sortedSet=>"sorted" | .lenSet=>"len" | .lenSetSub=>"len" | .tupleRev=>"tuple"
noncomputable def bM:Blt->Option String
 | .isInt=>some "int" | .isBool=>some "bool" | .isStr=>some "str" | .isList=>some "list" | .isTuple=>some "tuple"
 | _=>none
noncomputable def cZ:Blt->Option Nat
 | .len|.tupleOf|.listOf|.sorted|.any|.all|.sum|.intOf|.boolOf|.max1|.sortedKeys=>some 1
 | .max2|.min2=>some 2
 | _=>none
noncomputable def dF (osc:Scope) (N:List Str) (scope:Scope) (x:Str) (fvs:List Str) (js:List Nat):Bool :=
 decide (∀ y ∈ scope.names,y.2=.cell->y.1=x)&&decide (scope.names.lookup x=some .local/\(scope.names.filter λy=>y.2 == .cell)=[] \/ scope.names.lookup x=some .cell/\(scope.names.filter λy=>y.2 == .cell)=[(x,.cell)])
 &&decide (∀ y ∈ scope.names,y.2=.free->y.1 ≠ x)&&scope.kind == .function&&decide (∀ y ∈ scope.names,y.2=.local->scope.names.lookup y.1=some .local)
 &&decide ((x::fvs).Nodup)&&decide (∀ y ∈ scope.names,y.2=.free->osc.names.lookup y.1=some .cell \/ osc.names.lookup y.1=some .free)&&decide ((js.map λj=>N[j]?)=fvs.map some)
 &&decide (∀ y ∈ fvs,scope.names.lookup y=some .free)
noncomputable def bB (N:List Str) (js:List Nat):List Str:=js.map λj=>(N[j]?).getD Str.empty
noncomputable def fT (sc:Scope) (tup:Bool) (f:List Expr->Bool):Sk->Expr->Bool
 | .seq,it=>gu it&&f [it]
 | .rng,.Call (.Name x _) args [] _=>x == ("range":Str)&&glB sc x&&f args&&(args.length == 1 || args.length == 2)
 | .rev,_=>false
 | .enm,_=>false
 | _,_=>false
noncomputable def jP (sc:Scope) (f:List Expr->Bool) (n:Nat) (c:String):List Expr->Bool
 | [x,.Name t _]=>t == (c:Str)&&glB sc t&&f [x]&&n == 1
 | _=>false
noncomputable def lh:Expr->Bool
 | .Name _ _=>true
 | .Call _ (_::_) _ _=>true
 | _=>false
noncomputable def b5 (sc:Scope) (f:List Expr->Bool) (n:Nat) (b:Blt) (args:List Expr):Bool:=match b with
 | .sortedSet=>(match args with|[.Call (.Name g _) [x] [] _]=>g == ("set":Str)&&glB sc g&&f [x]&&n == 1|_=>false)
 | .lenSet=>false
 | .lenSetSub=>(match args with|[.BinOp (.Call (.Name g _) [x] [] _) .Sub (.Call (.Name g2 _) [y] [] _) _]=>g == ("set":Str)&&glB sc g&&g2 == ("set":Str)&&glB sc g2&&f [x,y]&&n == 2|_=>false)
 | .tupleRev=>false
 | .valuesOf=>false
 | .sortedKeys=>false
 | .max1=>false
 | .sum=>false
 | .max2=>false
 | .min2=>false
 | .intOf=>false
 | .boolOf=>false
 | .isStr=>false
 | .isList=>false
 | b=>match bM b with
  | some c=>jP sc f n c args
  | none=>cZ b == some n&&f args
noncomputable def dW:ME->Bool
 | .cst .non=>true
 | _=>false
noncomputable def fC (f:Expr->Bool) (non:Bool):Option Expr->Bool
 | none=>non
 | some l=>f l&&!non
noncomputable def jQ (f:Expr->Bool) (m:ME):List Expr->Bool
 | []=>(match m with|.cst (.bl true)=>true|_=>false)
 | [c]=>f c
 | _=>false
noncomputable def pw (f:Expr->Bool) (op:BoolOp) (pos:Pos) (y:Expr):List Expr->Bool
 | []=>f y
 | z::r=>f (.BoolOp op (y::z::r) pos)
mutual
noncomputable def chk (T:Tab):ME->List Str->Scope->Expr->Bool
 | .var i,N,sc,e0=>(match e0 with|.Name x _=>aT N sc i x|_=>false)
 | .bor i,N,sc,e0=>(match e0 with|.Name x _=>aT N sc i x|_=>false)
 | .cst v,_,_,e0=>(match e0 with|.Constant c _ _=>mf v c|_=>false)
 | .glob x v,_,sc,e0=>(match e0 with|.Name y _=>x == y&&glB sc x&&sW T.gs x v&&ah x|_=>false)
 | .bin op a b,N,sc,e0=>(match e0 with|.BinOp l o r _=>o == vZ op&&chk T a N sc l&&chk T b N sc r|_=>false)
 | .neg _,_,_,_=>false
 | .not a,N,sc,e0=>(match e0 with|.UnaryOp .Not e _=>chk T a N sc e|_=>false)
 | .and a b,N,sc,e0=>(match e0 with|.BoolOp .And (x::y::r) pos=>chk T a N sc x&&pw (λe=>chk T b N sc e) .And pos y r|_=>false)
 | .or a b,N,sc,e0=>(match e0 with|.BoolOp .Or (x::y::r) pos=>chk T a N sc x&&pw (λe=>chk T b N sc e) .Or pos y r|_=>false)
 | .ite c a b,N,sc,e0=>(match e0 with|.IfExp t x y _=>chk T c N sc t&&chk T a N sc x&&chk T b N sc y&&!av a&&!av b|_=>false)
 | .cmp op a b,N,sc,e0=>(match e0 with|.Compare l [o] [r] _=>o == i7 op&&chk T a N sc l&&chk T b N sc r&&!behindInMarks o r|_=>false)
 | .chain _ _ _ _ _,_,_,_=>false
 | .tup es,N,sc,e0=>(match e0 with|.Tuple xs _ _=>chks T es N sc xs&&es.all (λe=>!av e)|_=>false)
 | .lst es,N,sc,e0=>(match e0 with|.List xs _=>chks T es N sc xs&&es.all (λe=>!av e)|_=>false)
 | .idx a i,N,sc,e0=>(match e0 with|.Subscript v s _=>chk T a N sc v&&chk T i N sc s&&bw s|_=>false)
 | .slice a lo hi,N,sc,e0=>(match e0 with|.Subscript v (.Slice l u none _) _=>chk T a N sc v&&fC (λe=>chk T lo N sc e) (dW lo) l&&fC (λe=>chk T hi N sc e) (dW hi) u|_=>false)
 | .blt b es,N,sc,e0=>(match e0 with|.Call (.Name f _) args [] _=>f == (lf b:Str)&&glB sc f&&b5 sc (λxs=>chks T es N sc xs) es.length b args|_=>false)
 | .call f es,N,sc,e0=>(match e0 with|.Call (.Name x _) args [] _=>T.fs[f]? == some x&&glB sc x&&ah x&&chks T es N sc args|_=>false)
 | .callD _ _ _,_,_,_=>false
 | .comp k src js cond elt,N,sc,e0=>(match e0 with|.ListComp e [⟨.Name x _,it,ifs,0⟩] scope _=>dF sc N scope x (bB N js) js&&fT sc false (λxs=>chks T src N sc xs) k it&&jQ (λc=>chk T cond (x::bB N js) (fQ scope sc) c) cond ifs&&chk T elt (x::bB N js) (fQ scope sc) e&&!av elt|_=>false)
 | .dget a k d,N,sc,e0=>(match e0 with|.Call (.Attribute o m ap) [x,y] [] cp=>m == ("get":Str)&&lh o&&ap.endLine == cp.line&&chk T a N sc o&&chk T k N sc x&&chk T d N sc y&&aj x&&aj y|_=>false)
 | .dat a k,N,sc,e0=>(match e0 with|.Subscript v s _=>chk T a N sc v&&chk T k N sc s&&bw s|_=>false)
 | .dIn neg k a,N,sc,e0=>(match e0 with|.Compare l [o] [r] _=>o == (if neg=true then CmpOp.NotIn else CmpOp.In)&&chk T k N sc l&&chk T a N sc r&&!behindInMarks o r|_=>false)
noncomputable def chks (T:Tab):List ME->List Str->Scope->List Expr->Bool
 | [],_,_,[]=>true
 | m::ms,N,sc,e::es=>chk T m N sc e&&aj e&&chks T ms N sc es
 | _,_,_,_=>false
end
theorem bN (T:Tab) (i:Nat) (N:List Str) (sc:Scope) (e0:Expr):chk T (.var i) N sc e0=(match e0 with|.Name x _=>aT N sc i x|_=>false):=rfl
theorem bx (T:Tab) (i:Nat) (N:List Str) (sc:Scope) (e0:Expr):chk T (.bor i) N sc e0=(match e0 with|.Name x _=>aT N sc i x|_=>false):=rfl
theorem bO (T:Tab) (v:PV) (N:List Str) (sc:Scope) (e0:Expr):chk T (.cst v) N sc e0=(match e0 with|.Constant c _ _=>mf v c|_=>false):=rfl
theorem bg (T:Tab) (x:Str) (v:PV) (N:List Str) (sc:Scope) (e0:Expr):chk T (.glob x v) N sc e0=(match e0 with|.Name y _=>x == y&&glB sc x&&sW T.gs x v&&ah x|_=>false):=rfl
theorem bP (T:Tab) (op:Op2) (a b:ME) (N:List Str) (sc:Scope) (e0:Expr):chk T (.bin op a b) N sc e0=(match e0 with|.BinOp l o r _=>o == vZ op&&chk T a N sc l&&chk T b N sc r|_=>false):=rfl
theorem bQ (T:Tab) (a:ME) (N:List Str) (sc:Scope) (e0:Expr):chk T (.neg a) N sc e0=false:=rfl
theorem bR (T:Tab) (a:ME) (N:List Str) (sc:Scope) (e0:Expr):chk T (.not a) N sc e0=(match e0 with|.UnaryOp .Not e _=>chk T a N sc e|_=>false):=rfl
theorem bS (T:Tab) (a b:ME) (N:List Str) (sc:Scope) (e0:Expr):chk T (.and a b) N sc e0=(match e0 with|.BoolOp .And (x::y::r) pos=>chk T a N sc x&&pw (λe=>chk T b N sc e) .And pos y r|_=>false):=rfl
theorem cM (T:Tab) (a b:ME) (N:List Str) (sc:Scope) (e0:Expr):chk T (.or a b) N sc e0=(match e0 with|.BoolOp .Or (x::y::r) pos=>chk T a N sc x&&pw (λe=>chk T b N sc e) .Or pos y r|_=>false):=rfl
theorem bT (T:Tab) (c a b:ME) (N:List Str) (sc:Scope) (e0:Expr):chk T (.ite c a b) N sc e0=(match e0 with|.IfExp t x y _=>chk T c N sc t&&chk T a N sc x&&chk T b N sc y&&!av a&&!av b|_=>false):=rfl
theorem bU (T:Tab) (op:Cp) (a b:ME) (N:List Str) (sc:Scope) (e0:Expr):chk T (.cmp op a b) N sc e0=(match e0 with|.Compare l [o] [r] _=>o == i7 op&&chk T a N sc l&&chk T b N sc r&&!behindInMarks o r|_=>false):=rfl
theorem aR (T:Tab) (op op':Cp) (a b c:ME) (N:List Str) (sc:Scope) (e0:Expr):chk T (.chain op op' a b c) N sc e0=false:=rfl
theorem bV (T:Tab) (es:List ME) (N:List Str) (sc:Scope) (e0:Expr):chk T (.tup es) N sc e0=(match e0 with|.Tuple xs _ _=>chks T es N sc xs&&es.all (λe=>!av e)|_=>false):=rfl
theorem bW (T:Tab) (es:List ME) (N:List Str) (sc:Scope) (e0:Expr):chk T (.lst es) N sc e0=(match e0 with|.List xs _=>chks T es N sc xs&&es.all (λe=>!av e)|_=>false):=rfl
theorem bX (T:Tab) (a i:ME) (N:List Str) (sc:Scope) (e0:Expr):chk T (.idx a i) N sc e0=(match e0 with|.Subscript v s _=>chk T a N sc v&&chk T i N sc s&&bw s|_=>false):=rfl
theorem aS (T:Tab) (a lo hi:ME) (N:List Str) (sc:Scope) (e0:Expr):chk T (.slice a lo hi) N sc e0=(match e0 with|.Subscript v (.Slice l u none _) _=>chk T a N sc v&&fC (λe=>chk T lo N sc e) (dW lo) l&&fC (λe=>chk T hi N sc e) (dW hi) u|_=>false):=rfl
theorem bY (T:Tab) (b:Blt) (es:List ME) (N:List Str) (sc:Scope) (e0:Expr):chk T (.blt b es) N sc e0=(match e0 with|.Call (.Name f _) args [] _=>f == (lf b:Str)&&glB sc f&&b5 sc (λxs=>chks T es N sc xs) es.length b args|_=>false):=rfl
theorem bh (T:Tab) (f:Nat) (es:List ME) (N:List Str) (sc:Scope) (e0:Expr):chk T (.call f es) N sc e0=(match e0 with|.Call (.Name x _) args [] _=>T.fs[f]? == some x&&glB sc x&&ah x&&chks T es N sc args|_=>false):=rfl
theorem aG (T:Tab) (k:Sk) (src:List ME) (js:List Nat) (cond elt:ME) (N:List Str) (sc:Scope) (e0:Expr):chk T (.comp k src js cond elt) N sc e0=(match e0 with|.ListComp e [⟨.Name x _,it,ifs,0⟩] scope _=>dF sc N scope x (bB N js) js&&fT sc false (λxs=>chks T src N sc xs) k it&&jQ (λc=>chk T cond (x::bB N js) (fQ scope sc) c) cond ifs&&chk T elt (x::bB N js) (fQ scope sc) e&&!av elt|_=>false):=rfl
theorem v0 (T:Tab) (a k d:ME) (N:List Str) (sc:Scope) (e0:Expr):chk T (.dget a k d) N sc e0=(match e0 with|.Call (.Attribute o m ap) [x,y] [] cp=>m == ("get":Str)&&lh o&&ap.endLine == cp.line&&chk T a N sc o&&chk T k N sc x&&chk T d N sc y&&aj x&&aj y|_=>false):=rfl
theorem sX (T:Tab) (a k:ME) (N:List Str) (sc:Scope) (e0:Expr):chk T (.dat a k) N sc e0=(match e0 with|.Subscript v s _=>chk T a N sc v&&chk T k N sc s&&bw s|_=>false):=rfl
theorem yl (T:Tab) (neg:Bool) (k a:ME) (N:List Str) (sc:Scope) (e0:Expr):chk T (.dIn neg k a) N sc e0=(match e0 with|.Compare l [o] [r] _=>o == (if neg=true then CmpOp.NotIn else CmpOp.In)&&chk T k N sc l&&chk T a N sc r&&!behindInMarks o r|_=>false):=rfl
noncomputable def bE:ME->Bool
 | .lst _=>true
 | .comp ..=>true
 | .blt .listOf _=>true
 | .blt .sorted _=>true
 | .blt .sortedSet _=>true
 | .blt .sortedKeys _=>true
 | .blt .valuesOf _=>true
 | _=>false
noncomputable def pz (sc:Scope) (t:Str) (tpos:Pos):Expr->Bool
 | .ListComp _ _ s p=>sc.names.lookup t == some .local&&tpos.line == p.line&&!(s.names.any λ(n,k)=>n == t&&(k == .local || k == .cell))
 | _=>false
noncomputable def pA (sc:Scope) (t:Str):Expr->Bool
 | .ListComp _ _ _ _=>!(sc.names.lookup t == some .local)
 | _=>false
noncomputable def lj (sc:Scope) (t:Str) (tpos:Pos) (v:Expr) (e:ME):Bool:=pz sc t tpos v
noncomputable def cu:List Bool->List ME->Bool
 | [],[]=>true
 | true::bs,e::es=>av e&&cu bs es
 | false::bs,_::es=>cu bs es
 | _,_=>false
noncomputable def ym (ck:ME->Expr->Bool):Option ME->Expr->Bool
 | some p,e=>ck p e
 | none,_=>false
noncomputable def b7:List Bool->List ME->List Nat
 | true::bs,.bor i::es=>i::b7 bs es
 | _::bs,_::es=>b7 bs es
 | _,_=>[]
noncomputable def jR (pre:Expr->Bool) (has:Bool) (call:Str->List Expr->Bool):Expr->Bool
 | .BoolOp .Or [a,.Call (.Name g _) args [] _] _=>has&&pre a&&call g args
 | .Call (.Name g _) args [] _=>!has&&call g args
 | _=>false
noncomputable def v3 (_:Scope) (pre:Expr->Bool) (has:Bool) (call:Str->List Expr->Bool) (neg:Bool):Expr->Bool
 | .UnaryOp .Not e _=>neg&&jR pre has call e
 | e=>!neg&&jR pre has call e
noncomputable def pB:List Expr->Bool
 | [.Dict [] [] _]=>true
 | _=>false
theorem sY {es:List Expr} (h:pB es=true):∃ p,es=[.Dict [] [] p]:=by
 unfold pB at h
 split at h
 ·exact ⟨_,rfl⟩
 ·cases h
noncomputable def qB (T:Tab):List ME->List Str->Scope->List Expr->Bool
 | [],_,_,es=>pB es
 | m::ms,N,sc,e::es=>chk T m N sc e&&aj e&&!av m&&qB T ms N sc es
 | _::_,_,_,[]=>false
noncomputable def eqX:Expr->Option (Expr × Expr)
 | .Compare l [.Eq] [r] _=>some (l,r)
 | _=>none
theorem yn {e:Expr}{q:Expr × Expr} (h:eqX e=some q):∃ pos,e=.Compare q.1 [i7 .eq] [q.2] pos:=by
 unfold eqX at h
 split at h
 ·cases h;exact ⟨_,rfl⟩
 ·cases h
noncomputable def oA:Stmt->Option (Str × Pos × Expr)
 | .Assign [.Name x px] v _=>some (x,px,v)
 | _=>none
theorem ja {s:Stmt}{q:Str × Pos × Expr} (h:oA s=some q):∃ pos,s=.Assign [.Name q.1 q.2.1] q.2.2 pos:=by
 unfold oA at h
 split at h
 ·cases h;exact ⟨_,rfl⟩
 ·cases h
noncomputable def v4:Stmt->Option (Str × Str × Pos × List Expr × Pos)
 | .Expr (.Call (.Attribute (.Name x _) m ap) args [] cp) _=>some (x,m,ap,args,cp)
 | _=>none
theorem pC {s:Stmt}{q:Str × Str × Pos × List Expr × Pos} (h:v4 s=some q):∃ p pos,s=.Expr (.Call (.Attribute (.Name q.1 p) q.2.1 q.2.2.1) q.2.2.2.1 [] q.2.2.2.2) pos:=by
 unfold v4 at h
 split at h
 ·cases h;exact ⟨_,_,rfl⟩
 ·cases h
noncomputable def yo:Stmt->Option (Str × Expr × Expr)
 | .Assign [.Subscript (.Name x _) s _] v _=>some (x,s,v)
 | _=>none
theorem v5 {s:Stmt}{q:Str × Expr × Expr} (h:yo s=some q):∃ p sp pos,s=.Assign [.Subscript (.Name q.1 p) q.2.1 sp] q.2.2 pos:=by
 unfold yo at h
 split at h
 ·cases h;exact ⟨_,_,_,rfl⟩
 ·cases h
noncomputable def qC:Stmt->Option Expr
 | .Return (some v) _=>some v
 | _=>none
theorem jb {s:Stmt}{v:Expr} (h:qC s=some v):∃ pos,s=.Return (some v) pos:=by
 unfold qC at h
 split at h
 ·cases h;exact ⟨_,rfl⟩
 ·cases h
noncomputable def sZ:Expr->Option Str
 | .Name x _=>some x
 | _=>none
theorem s_ {e:Expr}{x:Str} (h:sZ e=some x):∃ p,e=.Name x p:=by
 unfold sZ at h
 split at h
 ·cases h;exact ⟨_,rfl⟩
 ·cases h
noncomputable def ti:Expr->Option (Str × List Expr)
 | .Call (.Name y _) args [] _=>some (y,args)
 | _=>none
theorem mh {e:Expr}{q:Str × List Expr} (h:ti e=some q):∃ p cp,e=.Call (.Name q.1 p) q.2 [] cp:=by
 unfold ti at h
 split at h
 ·cases h;exact ⟨_,_,rfl⟩
 ·cases h
noncomputable def tj:List Expr->Option Expr
 | [a]=>some a
 | _=>none
theorem ni {l:List Expr}{a:Expr} (h:tj l=some a):l=[a]:=by
 match l,h with
 | [_],h=>cases h;rfl
noncomputable def pD:Expr->Bool
 | .Dict [] [] _=>true
 | _=>false
theorem tm {e:Expr} (h:pD e=true):∃ p,e=.Dict [] [] p:=by
 unfold pD at h
 split at h
 ·exact ⟨_,rfl⟩
 ·cases h
noncomputable def onO {α:Type} (o:Option α) (f:α->Bool):Bool:=match o with
 | some a=>f a
 | none=>false
theorem bz {α:Type}{o:Option α}{f:α->Bool} (h:onO o f=true):∃ a,o=some a/\f a=true:=by
 cases o with
 | none=>cases h
 | some a=>exact ⟨a,rfl,h⟩
mutual
noncomputable def dX (T:Tab) (N:List Str) (sc:Scope):MS->Stmt->Bool
 | .set i e,s0=>onO (oA s0) λq=>N[i]? == some q.1&&gT sc q.1&&ah q.1&&chk T e N sc q.2.2&&!av e&&(bf q.2.2 || lj sc q.1 q.2.1 q.2.2 e || pA sc q.1 q.2.2)
 | .setOwn i e,s0=>onO (oA s0) λq=>N[i]? == some q.1&&gT sc q.1&&ah q.1&&chk T e N sc q.2.2&&bE e&&(bf q.2.2 || lj sc q.1 q.2.1 q.2.2 e)
 | .append i e,s0=>onO (v4 s0) λq=>onO (tj q.2.2.2.1) λv=>aT N sc i q.1&&q.2.1 == ("append":Str)&&chk T e N sc v&&!av e&&aj v&&q.2.2.1.endLine == q.2.2.2.2.line
 | .extend i e,s0=>onO (v4 s0) λq=>onO (tj q.2.2.2.1) λv=>aT N sc i q.1&&q.2.1 == ("extend":Str)&&chk T e N sc v&&aj v&&q.2.2.1.endLine == q.2.2.2.2.line
 | .setIdx _ _ _,_=>false
 | .unpack _ _,_=>false
 | .expr e,s0=>(match s0 with|.Expr v _=>chk T e N sc v&&bf v|_=>false)
 | .ite c a b,s0=>(match s0 with|.If t x y _=>chk T c N sc t&&chkSs T N sc a x&&chkSs T N sc b y|_=>false)
 | .for1 i k src body,s0=>(match s0 with|.For (.Name x _) it b [] _=>N[i]? == some x&&gT sc x&&ah x&&fT sc false (λxs=>chks T src N sc xs) k it&&chkSs T N sc body b|_=>false)
 | .ret e,s0=>onO (qC s0) λv=>chk T e N sc v&&!av e
 | .retOwn i,s0=>onO (qC s0) λv=>onO (sZ v) λx=>aT N sc i x
 | .retM e,s0=>onO (qC s0) λv=>chk T e N sc v
 | .iteM neg pre f mask es a b,s0=>(match s0 with|.If t x y _=>v3 sc (ym (λp e=>chk T p N sc e) pre) pre.isSome (λg args=>T.fs[f]? == some g&&glB sc g&&ah g&&chks T es N sc args&&cu mask es&&decide (b7 mask es).Nodup&&!args.isEmpty) neg t&&chkSs T N sc a x&&chkSs T N sc b y|_=>false)
 | .setM i f mask es,s0=>onO (oA s0) λq=>onO (ti q.2.2) λc=>N[i]? == some q.1&&gT sc q.1&&ah q.1&&(T.fs[f]? == some c.1&&glB sc c.1&&ah c.1&&chks T es N sc c.2&&cu mask es&&decide (b7 mask es).Nodup&&!c.2.isEmpty)
 | .iteC f mask es m a b,s0=>(match s0 with|.If t x y _=>onO (eqX t) λq=>onO (ti q.1) λc=>(T.fs[f]? == some c.1&&glB sc c.1&&ah c.1&&chks T es N sc c.2&&cu mask es&&decide (b7 mask es).Nodup&&!c.2.isEmpty)&&chk T m N sc q.2&&!behindInMarks (i7 .eq) q.2&&chkSs T N sc a x&&chkSs T N sc b y|_=>false)
 | .retNew f es,s0=>onO (qC s0) λv=>onO (ti v) λc=>T.fs[f]? == some c.1&&glB sc c.1&&ah c.1&&qB T es N sc c.2
 | .newN i,s0=>onO (oA s0) λq=>pD q.2.2&&(N[i]? == some q.1&&gT sc q.1&&ah q.1)
 | .never,_=>true
 | .newD _ i,s0=>onO (oA s0) λq=>pD q.2.2&&(N[i]? == some q.1&&gT sc q.1&&ah q.1)
 | .dput i k e,s0=>onO (yo s0) λq=>aT N sc i q.1&&chk T k N sc q.2.1&&bw q.2.1&&chk T e N sc q.2.2&&!av e&&bf q.2.2
 | _,_=>false
noncomputable def chkSs (T:Tab) (N:List Str) (sc:Scope):List MS->List Stmt->Bool
 | [],[]=>true
 | .freeze _::_,_=>false
 | m::ms,s::ss=>dX T N sc m s&&chkSs T N sc ms ss
 | _,_=>false
end
theorem v6 (T:Tab) (N:List Str) (sc:Scope) (i:Nat) (k:Sk) (src:List ME) (body:List MS) (s0:Stmt):dX T N sc (.for1 i k src body) s0=(match s0 with|.For (.Name x _) it b [] _=>N[i]? == some x&&gT sc x&&ah x&&fT sc false (λxs=>chks T src N sc xs) k it&&chkSs T N sc body b|_=>false):=rfl
end MM
namespace MM
open PySem PySem.Spec PyProof.Rows L2
theorem jS {f:PV->PV->Option Bool} (hf:∀ x b,f x x=some b->b=true):∀ (xs:List PV) {b:Bool},eqL f xs xs=some b->b=true
 | [],b,h=>by simp [eqL] at h;exact h
 | x::xs,b,h=>by
  simp only [eqL,Option.bind_eq_some_iff,Option.map_eq_some_iff] at h
  obtain ⟨p,h1,q,h2,rfl⟩:=h
  rw [hf x p h1,jS hf xs h2];rfl
theorem gU:∀ (n:Nat) (x:PV) {b:Bool},eqF n x x=some b->b=true
 | n,.non,b,h=>by simp [eqF] at h;exact h
 | n,.bl _,b,h=>by simp [eqF] at h;exact h
 | n,.int _,b,h=>by simp [eqF] at h;exact h
 | n,.str _,b,h=>by simp [eqF] at h;exact h
 | 0,.tup _,b,h=>by simp [eqF] at h
 | 0,.lst _,b,h=>by simp [eqF] at h
 | n + 1,.tup xs,b,h=>by rw [eqF] at h;exact jS (λx b=>gU n x) xs h
 | n + 1,.lst xs,b,h=>by rw [eqF,if_pos rfl] at h;exact jS (λx b=>gU n x) xs h
 | n,.dI _,b,h=>by cases n <;> simp [eqF] at h
theorem dY {n:Nat}{x y:PV}{b:Bool} (h:eqF n x y=some b):isD x=false/\isD y=false:=by
 cases x <;> cases y <;> first|exact ⟨rfl,rfl⟩|(cases n <;> simp [eqF] at h)
theorem gW {f:PV->PV->Option Bool}:∀ (xs ys:List PV) {b:Bool},eqL f xs ys=some b ->
  (∀ (j:Nat) x y,xs[j]?=some x->ys[j]?=some y->∃ c,f x y=some c) /\
   b=((List.range (min xs.length ys.length)).all (λj=>(f (xs.getD j .non) (ys.getD j .non)).getD false)&&xs.length == ys.length)
 | [],[],b,h=>by simp [eqL] at h;subst h;simp
 | [],y::ys,b,h=>by simp [eqL] at h;subst h;simp
 | x::xs,[],b,h=>by simp [eqL] at h;subst h;simp
 | x::xs,y::ys,b,h=>by
  simp only [eqL,Option.bind_eq_some_iff,Option.map_eq_some_iff] at h
  obtain ⟨p,h1,q,h2,rfl⟩:=h
  obtain ⟨ih1,ih2⟩:=gW xs ys h2
  refine ⟨λj x' y' e1 e2=>?_,?_⟩
  ·cases j with
   | zero=>simp at e1 e2;subst e1 e2;exact ⟨p,h1⟩
   | succ j=>exact ih1 j x' y' (by simpa using e1) (by simpa using e2)
  ·rw [ih2]
   have hm:min (x::xs).length (y::ys).length=min xs.length ys.length + 1:=by simp only [List.length_cons];omega
   rw [hm,List.range_succ_eq_map,List.all_cons,List.all_map]
   have hl:((x::xs).length == (y::ys).length)=(xs.length == ys.length):=by
    rw [Bool.eq_iff_iff];simp
   rw [hl,Bool.and_assoc]
   simp only [List.getD_cons_zero,h1,Option.getD_some,Function.comp_def,List.getD_cons_succ]
theorem pE {f:PV->Option Bool}:∀ (xs:List PV) {b:Bool},inL f xs=some b->(∀ x ∈ xs,∃ c,f x=some c)/\b=xs.any λx=>(f x).getD false
 | [],b,h=>by simp [inL] at h;subst h;simp
 | x::xs,b,h=>by
  simp only [inL,Option.bind_eq_some_iff,Option.map_eq_some_iff] at h
  obtain ⟨p,h1,q,h2,rfl⟩:=h
  obtain ⟨ih1,ih2⟩:=pE xs h2
  refine ⟨λy hy=>?_,?_⟩
  ·rcases List.mem_cons.mp hy with rfl|hy
   ·exact ⟨p,h1⟩
   ·exact ih1 y hy
  ·rw [List.any_cons,h1,ih2];rfl
section
variable {X:Cx}{pins:List (Addr × Obj)}{σ:St}{H:Hp}{s:Shared}
theorem nj (I:Inv X pins σ H s) {a:Addr}{xs ys:List V} (h1:SqL X.K H a xs) (h2:SqT X.K H a ys):False:=by
 obtain ⟨its,_,p,_⟩:=I.list h1
 obtain ⟨its2,_,q,_⟩:=I.tuple h2
 exact SeqAt.ne_of_list_tuple p.isList (show s.heap.IsTuple a its2.toArray from q) rfl
theorem pF {H:Hp}{a:Addr}{d:DD} (h:Rd H a (cQ d)):IsX H a:=by
 cases d with
 | k kvs=>exact .inl (.inl ⟨_,h⟩)
 | t kvs=>exact .inl (.inr ⟨_,h⟩)
 | n kvs=>exact .inr ⟨_,h⟩
theorem jc (I:Inv X pins σ H s) {a:Addr}{xs:List V}{d:DD} (h1:SqL X.K H a xs \/ SqT X.K H a xs) (h2:Rd H a (cQ d)):False:=by
 obtain ⟨o,ho,hc⟩:=(n_ I (pF h2)).1
 rcases h1 with h1|h1
 ·obtain ⟨its,_,p,_⟩:=I.list h1
  obtain ⟨o',ho',hc',_⟩:=p.isList
  rw [ho] at ho'
  cases ho'
  rw [hc] at hc'
  exact absurd hc' (by decide)
 ·obtain ⟨its,_,⟨o',ho',hc',_⟩,_⟩:=I.tuple h1
  rw [ho] at ho'
  cases ho'
  rw [hc] at hc'
  exact absurd hc' (by decide)
theorem Sc.v_inj:∀ {a b:Sc},a.v=b.v->a=b:=by
 intro a b h
 cases a <;> cases b <;> simp [Sc.v] at h ⊢ <;> exact h
theorem nl:∀ {a b:List (Int × Sc)},fA a=fA b->a=b
 | [],[],_=>rfl
 | [],_::_,h=>by cases h
 | _::_,[],h=>by cases h
 | (k,v)::a,(k',v')::b,h=>by
  simp only [fA,List.map_cons,List.cons.injEq,Prod.mk.injEq,Sum.inl.injEq] at h
  obtain ⟨⟨h1,h2⟩,h3⟩:=h
  rw [h1,Sc.v_inj h2,nl h3]
theorem jd:∀ {a b:List Int},(a.map Sum.inl:List Key)=b.map Sum.inl->a=b
 | [],[],_=>rfl
 | [],_::_,h=>by cases h
 | _::_,[],h=>by cases h
 | x::a,y::b,h=>by
  simp only [List.map_cons,List.cons.injEq,Sum.inl.injEq] at h
  rw [h.1,jd h.2]
theorem nn:∀ {a b:List (List Int × Sc)},gR a=gR b->a=b
 | [],[],_=>rfl
 | [],_::_,h=>by cases h
 | _::_,[],h=>by cases h
 | (k,v)::a,(k',v')::b,h=>by
  simp only [gR,List.map_cons,List.cons.injEq,Prod.mk.injEq] at h
  obtain ⟨⟨h1,h2⟩,h3⟩:=h
  rw [jd h1,Sc.v_inj h2,nn h3]
theorem np:∀ {a b:List ((List (List Int) × Str) × Sc)},gS a=gS b->a=b
 | [],[],_=>rfl
 | [],_::_,h=>by cases h
 | _::_,[],h=>by cases h
 | (k,v)::a,(k',v')::b,h=>by
  unfold gS at h
  rw [List.map_cons,List.map_cons] at h
  obtain ⟨h1,h3⟩:=List.cons.inj h
  have h2:=Prod.mk.inj h1
  rw [show k=k' from h2.1,show v=v' from Sc.v_inj h2.2,show a=b from np h3]
theorem nq {a b:DD} (h:cQ a=cQ b):a=b:=by
 cases a <;> cases b <;> first
  | (cases h;done)
  | (rw [nl (HO.dK.inj h)];done)
  | (rw [nn (HO.dT.inj h)];done)
  | rw [np (HO.dN.inj h)]
theorem yq {H:Hp}{a:Addr}{x y:DD} (h:Rd H a (cQ x)) (g:Rd H a (cQ y)):x=y:=by
 have ne:∀ (x:DD) (o:Obj) (u:HO),cQ x ≠ .frz o u:=λx o u e=>by cases x <;> cases e
 rcases h with h|⟨o,h⟩ <;> rcases g with g|⟨o',g⟩
 ·rw [h] at g;exact nq (Option.some.inj g)
 ·rw [h] at g;exact absurd (Option.some.inj g) (ne x _ _)
 ·rw [g] at h;exact absurd (Option.some.inj h) (ne y _ _)
 ·rw [h] at g;exact nq (HO.frz.inj (Option.some.inj g)).2
mutual
theorem je (I:Inv X pins σ H s):∀ (x y:PV) {u:V},Rep X.K H x u->Rep X.K H y u->x=y
 | .non,y,u,h,g=>by rw [Rep] at h;subst h;cases y <;> simp [Rep] at g ⊢
 | .bl b,y,u,h,g=>by rw [Rep] at h;subst h;cases y <;> simp [Rep] at g ⊢;exact g
 | .int b,y,u,h,g=>by rw [Rep] at h;subst h;cases y <;> simp [Rep] at g ⊢;exact g
 | .str b,y,u,h,g=>by rw [Rep] at h;subst h;cases y <;> simp [Rep] at g ⊢;exact g
 | .tup xs,y,u,h,g=>by
  rw [Rep] at h
  obtain ⟨a,us,rfl,q,r⟩:=h
  cases y with
  | tup ys =>
   rw [Rep] at g
   obtain ⟨b,vs,e,q',r'⟩:=g
   cases e
   have:=I.tuple_inj (SqT.of q) (SqT.of q')
   subst this
   rw [reps_inj I xs ys r r']
  | lst ys =>
   rw [Rep] at g
   obtain ⟨b,vs,e,q',r'⟩:=g
   cases e
   exact (nj I q' (SqT.of q)).elim
  | dI kvs =>
   rw [Rep] at g
   obtain ⟨b,e,q'⟩:=g
   cases e
   exact (jc I (.inr (SqT.of q)) q').elim
  | _=>simp [Rep] at g
 | .lst xs,y,u,h,g=>by
  rw [Rep] at h
  obtain ⟨a,us,rfl,q,r⟩:=h
  cases y with
  | lst ys =>
   rw [Rep] at g
   obtain ⟨b,vs,e,q',r'⟩:=g
   cases e
   have:=I.list_inj q q'
   subst this
   rw [reps_inj I xs ys r r']
  | tup ys =>
   rw [Rep] at g
   obtain ⟨b,vs,e,q',r'⟩:=g
   cases e
   exact (nj I q (SqT.of q')).elim
  | dI kvs =>
   rw [Rep] at g
   obtain ⟨b,e,q'⟩:=g
   cases e
   exact (jc I (.inl q) q').elim
  | _=>simp [Rep] at g
 | .dI kvs,y,u,h,g=>by
  rw [Rep] at h
  obtain ⟨a,rfl,q⟩:=h
  cases y with
  | dI ks =>
   rw [Rep] at g
   obtain ⟨b,e,q'⟩:=g
   cases e
   rw [yq q q']
  | tup ys =>
   rw [Rep] at g
   obtain ⟨b,vs,e,q',r'⟩:=g
   cases e
   exact (jc I (.inr (SqT.of q')) q).elim
  | lst ys =>
   rw [Rep] at g
   obtain ⟨b,vs,e,q',r'⟩:=g
   cases e
   exact (jc I (.inl q') q).elim
  | _=>simp [Rep] at g
theorem reps_inj (I:Inv X pins σ H s):∀ (xs ys:List PV) {us:List V},Reps X.K H xs us->Reps X.K H ys us->xs=ys
 | [],ys,us,h,g=>by
  rw [Reps] at h;subst h
  cases ys with
  | nil=>rfl
  | cons y ys=>rw [Reps] at g;obtain ⟨_,_,e,_⟩:=g;cases e
 | x::xs,ys,us,h,g=>by
  rw [Reps] at h
  obtain ⟨u,r,rfl,q,t⟩:=h
  cases ys with
  | nil=>rw [Reps] at g;cases g
  | cons y ys =>
   rw [Reps] at g
   obtain ⟨u',r',e,q',t'⟩:=g
   cases e
   rw [je I x y q q',reps_inj I xs ys t t']
end
theorem Rep.tupAt (I:Inv X pins σ H s) {xs:List PV}{u:V}{v:Value} (h:Rep X.K H (.tup xs) u) (r:ak u v) :
  ∃ (a:Addr) (us:List V) (its:List Value),u=.ref a/\v=.ref a/\Reps X.K H xs us/\al us its/\s.heap.IsTuple a its.toArray/\xs.length=its.length:=by
 rw [Rep] at h
 obtain ⟨a,us,rfl,q,t⟩:=h
 obtain ⟨its,rv,p,_⟩:=I.tuple (SqT.of q)
 exact ⟨a,us,its,rfl,r,t,rv,p,t.length.trans rv.length⟩
theorem Rep.lstAt (I:Inv X pins σ H s) {xs:List PV}{u:V}{v:Value} (h:Rep X.K H (.lst xs) u) (r:ak u v) :
  ∃ (a:Addr) (us:List V) (its:List Value),u=.ref a/\v=.ref a/\Reps X.K H xs us/\al us its/\s.heap.IsList a its.toArray/\xs.length=its.length:=by
 rw [Rep] at h
 obtain ⟨a,us,rfl,q,t⟩:=h
 obtain ⟨its,rv,p,_⟩:=I.list q
 exact ⟨a,us,its,rfl,r,t,rv,p.isList,t.length.trans rv.length⟩
theorem gX {A:Around}{n:Nat} (ih:∀ (x y:PV) {ux uy:V}{vx vy:Value}{b:Bool}{A:Around},A.units + n < cLine->eqF n x y=some b->Rep X.K H x ux->Rep X.K H y uy->ak ux vx->ak uy vy->SeqAt.EqAt A s vx vy b)
  {xs ys:List PV}{us ws:List V}{its its2:List Value} (hu:A.units + (n + 1) < cLine) (rx:Reps X.K H xs us) (ry:Reps X.K H ys ws) (vx:al us its) (vy:al ws its2)
  (hs:∀ (j:Nat) x y,xs[j]?=some x->ys[j]?=some y->∃ c,eqF n x y=some c) :
  ∀ j (h1:j < its.toArray.size) (h2:j < its2.toArray.size),SeqAt.EqAt A.in1 s its.toArray[j] its2.toArray[j] ((eqF n (xs.getD j .non) (ys.getD j .non)).getD false):=λj h1 h2=>by
 have l1:=rx.length.trans vx.length
 have l2:=ry.length.trans vy.length
 simp only [List.size_toArray] at h1 h2
 have e1:xs[j]?=some xs[j]:=List.getElem?_eq_getElem (by omega)
 have e2:ys[j]?=some ys[j]:=List.getElem?_eq_getElem (by omega)
 obtain ⟨ux,q1,p1⟩:=rx.get e1
 obtain ⟨uy,q2,p2⟩:=ry.get e2
 obtain ⟨wx,q3,p3⟩:=vx.get q1
 obtain ⟨wy,q4,p4⟩:=vy.get q2
 obtain ⟨c,hc⟩:=hs j _ _ e1 e2
 have d1:xs.getD j .non=xs[j]:=by simp [List.getD,e1]
 have d2:ys.getD j .non=ys[j]:=by simp [List.getD,e2]
 have g1:its.toArray[j]=wx:=by
  have:its[j]?=some its[j]:=List.getElem?_eq_getElem h1
  rw [this] at q3;simpa using q3
 have g2:its2.toArray[j]=wy:=by
  have:its2[j]?=some its2[j]:=List.getElem?_eq_getElem h2
  rw [this] at q4;simpa using q4
 rw [d1,d2,hc,g1,g2]
 exact ih _ _ (show A.units + 1 + n < cLine by omega) hc p1 p2 p3 p4
theorem v7 {A:Around}{n:Nat} (I:Inv X pins σ H s) (ih:∀ (x y:PV) {ux uy:V}{vx vy:Value}{b:Bool}{A:Around},A.units + n < cLine->eqF n x y=some b->Rep X.K H x ux->Rep X.K H y uy->ak ux vx->ak uy vy->SeqAt.EqAt A s vx vy b)
  (hu:A.units + (n + 1) < cLine):(∀ {xs ys:List PV}{ux uy:V}{vx vy:Value}{b:Bool},eqF (n + 1) (.tup xs) (.tup ys)=some b->Rep X.K H (.tup xs) ux->Rep X.K H (.tup ys) uy->ak ux vx->ak uy vy->SeqAt.RcAt A s vx vy b) /\
   (∀ {xs ys:List PV}{ux uy:V}{vx vy:Value}{b:Bool},eqF (n + 1) (.lst xs) (.lst ys)=some b->Rep X.K H (.lst xs) ux->Rep X.K H (.lst ys) uy->ak ux vx->ak uy vy->SeqAt.RcAt A s vx vy b):=by
 refine ⟨λ{xs ys ux uy vx vy b} h rx ry r1 r2=>?_,λ{xs ys ux uy vx vy b} h rx ry r1 r2=>?_⟩
 ·obtain ⟨a,us,its,rfl,rfl,t1,w1,p1,l1⟩:=rx.tupAt I r1
  obtain ⟨c,ws,its2,rfl,rfl,t2,w2,p2,l2⟩:=ry.tupAt I r2
  rw [eqF] at h
  obtain ⟨hs,hb⟩:=gW xs ys h
  have q:=SeqAt.RcAt.tuples (A:=A) p1 p2 (by omega) (gX ih hu t1 t2 w1 w2 hs)
  rw [hb]
  simpa [l1,l2] using q
 ·obtain ⟨a,us,its,rfl,rfl,t1,w1,p1,l1⟩:=rx.lstAt I r1
  obtain ⟨c,ws,its2,rfl,rfl,t2,w2,p2,l2⟩:=ry.lstAt I r2
  rw [eqF] at h
  by_cases hl:xs.length=ys.length
  ·rw [if_pos hl] at h
   obtain ⟨hs,hb⟩:=gW xs ys h
   have q:=SeqAt.RcAt.lists (A:=A) p1 p2 (by simp only [List.size_toArray];omega) (by omega) (gX ih hu t1 t2 w1 w2 hs)
   rw [hb,hl,Nat.min_self]
   simpa [<- l1,hl] using q
  ·rw [if_neg hl] at h
   cases h
   exact SeqAt.RcAt.lists_lengths (A:=A) p1 p2 (by simp only [List.size_toArray,bne_iff_ne];omega) (by omega)
theorem bZ {x:PV}{u:V} (hd:isD x=false) (h:Rep X.K H x u):(∃ xs,x=.tup xs) \/ (∃ xs,x=.lst xs) \/ fV u=true:=by
 cases x with
 | tup xs=>exact .inl ⟨xs,rfl⟩
 | lst xs=>exact .inr (.inl ⟨xs,rfl⟩)
 | non=>rw [Rep] at h;subst h;exact .inr (.inr rfl)
 | bl b=>rw [Rep] at h;subst h;exact .inr (.inr rfl)
 | int b=>rw [Rep] at h;subst h;exact .inr (.inr rfl)
 | str b=>rw [Rep] at h;subst h;exact .inr (.inr rfl)
 | dI _=>cases hd
theorem eP {A:Around} (hu:A.units < cLine) {u:V}{v:Value} (f:fV u=true) (r:ak u v) {a:Addr}{its:Array Value} (p:s.heap.IsTuple a its) :
  SeqAt.EqAt A s v (.ref a) false/\SeqAt.EqAt A s (.ref a) v false/\SeqAt.RcAt A s v (.ref a) false/\SeqAt.RcAt A s (.ref a) v false:=by
 cases u with
 | non=>cases r;exact ⟨.none_tuple p hu,.tuple_none p hu,.none_tuple p hu,.tuple_none p hu⟩
 | bl b=>cases r;exact ⟨.bool_tuple b p hu,.tuple_bool b p hu,.bool_tuple b p hu,.tuple_bool b p hu⟩
 | int b=>obtain ⟨t,rfl⟩:=r;exact ⟨.int_tuple b t p hu,.tuple_int b t p hu,.int_tuple b t p hu,.tuple_int b t p hu⟩
 | str b=>obtain ⟨t,rfl⟩:=r;exact ⟨.str_tuple b t p hu,.tuple_str b t p hu,.str_tuple b t p hu,.tuple_str b t p hu⟩
 | _=>exact absurd (show false=true from f) Bool.false_ne_true
theorem fL {A:Around} (hu:A.units < cLine) {u:V}{v:Value} (f:fV u=true) (r:ak u v) {a:Addr}{its:Array Value} (p:s.heap.IsList a its) :
  SeqAt.EqAt A s v (.ref a) false/\SeqAt.EqAt A s (.ref a) v false/\SeqAt.RcAt A s v (.ref a) false/\SeqAt.RcAt A s (.ref a) v false:=by
 cases u with
 | non=>cases r;exact ⟨.none_list p hu,.list_none p hu,.none_list p hu,.list_none p hu⟩
 | bl b=>cases r;exact ⟨.bool_list b p hu,.list_bool b p hu,.bool_list b p hu,.list_bool b p hu⟩
 | int b=>obtain ⟨t,rfl⟩:=r;exact ⟨.int_list b t p hu,.list_int b t p hu,.int_list b t p hu,.list_int b t p hu⟩
 | str b=>obtain ⟨t,rfl⟩:=r;exact ⟨.str_list b t p hu,.list_str b t p hu,.str_list b t p hu,.list_str b t p hu⟩
 | _=>exact absurd (show false=true from f) Bool.false_ne_true
theorem tq {A:Around}{y x:V}{u v:Value} (ry:ak y u) (rx:ak x v) (fy:fV y=true) (fx:fV x=true):SeqAt.RcAt A s u v (eqV y x):=by
 cases y with
 | non =>
  cases ry
  cases x with
  | non=>cases rx;exact SeqAt.RcAt.none_none
  | bl b=>cases rx;exact SeqAt.RcAt.none_bool b
  | int b=>obtain ⟨t,rfl⟩:=rx;exact SeqAt.RcAt.none_int b t
  | str b=>obtain ⟨t,rfl⟩:=rx;exact SeqAt.RcAt.none_str b t
  | _=>exact absurd (show false=true from fx) Bool.false_ne_true
 | bl a =>
  cases ry
  cases x with
  | non=>cases rx;exact SeqAt.RcAt.bool_none a
  | bl b=>cases rx;exact SeqAt.RcAt.bool_bool a b
  | int b=>obtain ⟨t,rfl⟩:=rx;exact SeqAt.RcAt.bool_int a b t
  | str b=>obtain ⟨t,rfl⟩:=rx;exact SeqAt.RcAt.bool_str a b t
  | _=>exact absurd (show false=true from fx) Bool.false_ne_true
 | int a =>
  obtain ⟨t',rfl⟩:=ry
  cases x with
  | non=>cases rx;exact SeqAt.RcAt.int_none a t'
  | bl b=>cases rx;exact SeqAt.RcAt.int_bool a t' b
  | int b=>obtain ⟨t,rfl⟩:=rx;exact SeqAt.RcAt.int_int a t' b t
  | str b=>obtain ⟨t,rfl⟩:=rx;exact SeqAt.RcAt.int_str a t' b t
  | _=>exact absurd (show false=true from fx) Bool.false_ne_true
 | str a =>
  obtain ⟨t',rfl⟩:=ry
  cases x with
  | non=>cases rx;exact SeqAt.RcAt.str_none a t'
  | bl b=>cases rx;exact SeqAt.RcAt.str_bool a t' b
  | int b=>obtain ⟨t,rfl⟩:=rx;exact SeqAt.RcAt.str_int a t' b t
  | str b=>obtain ⟨t,rfl⟩:=rx;exact SeqAt.RcAt.str_str a t' b t
  | _=>exact absurd (show false=true from fx) Bool.false_ne_true
 | _=>exact absurd (show false=true from fy) Bool.false_ne_true
theorem jT {n:Nat}{x y:PV}{u v:V}{b:Bool} (rx:Rep X.K H x u) (ry:Rep X.K H y v) (fx:fV u=true) (fy:fV v=true) (h:eqF n x y=some b):b=eqV u v:=by
 cases x <;> cases y <;> simp only [Rep] at rx ry
 all_goals first
  | (obtain ⟨_,_,rfl,_⟩:=rx;exact absurd (show false=true from fx) Bool.false_ne_true)
  | (obtain ⟨_,_,rfl,_⟩:=ry;exact absurd (show false=true from fy) Bool.false_ne_true)
  | (obtain ⟨_,rfl,_⟩:=rx;exact absurd (show false=true from fx) Bool.false_ne_true)
  | (obtain ⟨_,rfl,_⟩:=ry;exact absurd (show false=true from fy) Bool.false_ne_true)
  | (subst rx ry;simp only [eqF,Option.some.injEq] at h;subst h;rfl)
theorem mi (I:Inv X pins σ H s):∀ (n:Nat) (x y:PV) {ux uy:V}{vx vy:Value}{b:Bool}{A:Around},A.units + n < cLine->eqF n x y=some b->Rep X.K H x ux->Rep X.K H y uy->ak ux vx->ak uy vy ->
  SeqAt.EqAt A s vx vy b/\SeqAt.RcAt A s vx vy b:=by
 intro n
 induction n with
 | zero =>
  intro x y ux uy vx vy b A hu h rx ry r1 r2
  have hu0:A.units < cLine:=by omega
  rcases bZ (dY h).1 rx with ⟨xs,rfl⟩|⟨xs,rfl⟩|fx
  ·obtain ⟨a,us,its,rfl,rfl,t1,w1,p1,l1⟩:=rx.tupAt I r1
   rcases bZ (dY h).2 ry with ⟨ys,rfl⟩|⟨ys,rfl⟩|fy
   ·simp [eqF] at h
   ·obtain ⟨c,ws,its2,rfl,rfl,t2,w2,p2,l2⟩:=ry.lstAt I r2
    simp [eqF] at h;subst h
    exact ⟨.tuple_list p1 p2 hu0,.tuple_list p1 p2 hu0⟩
   ·obtain ⟨z1,z2,z3,z4⟩:=eP hu0 fy r2 p1
    have:b=false:=by cases y <;> simp [eqF,Rep] at h ry <;> first|exact h.symm|exact h|(obtain ⟨_,rfl,_⟩:=ry;exact absurd (show false=true from fy) Bool.false_ne_true)
    subst this
    exact ⟨z2,z4⟩
  ·obtain ⟨a,us,its,rfl,rfl,t1,w1,p1,l1⟩:=rx.lstAt I r1
   rcases bZ (dY h).2 ry with ⟨ys,rfl⟩|⟨ys,rfl⟩|fy
   ·obtain ⟨c,ws,its2,rfl,rfl,t2,w2,p2,l2⟩:=ry.tupAt I r2
    simp [eqF] at h;subst h
    exact ⟨.list_tuple p1 p2 hu0,.list_tuple p1 p2 hu0⟩
   ·simp [eqF] at h
   ·obtain ⟨z1,z2,z3,z4⟩:=fL hu0 fy r2 p1
    have:b=false:=by cases y <;> simp [eqF,Rep] at h ry <;> first|exact h.symm|exact h|(obtain ⟨_,rfl,_⟩:=ry;exact absurd (show false=true from fy) Bool.false_ne_true)
    subst this
    exact ⟨z2,z4⟩
  ·rcases bZ (dY h).2 ry with ⟨ys,rfl⟩|⟨ys,rfl⟩|fy
   ·obtain ⟨c,ws,its2,rfl,rfl,t2,w2,p2,l2⟩:=ry.tupAt I r2
    obtain ⟨z1,z2,z3,z4⟩:=eP hu0 fx r1 p2
    have:b=false:=by cases x <;> simp [eqF,Rep] at h rx <;> first|exact h.symm|exact h|(obtain ⟨_,rfl,_⟩:=rx;exact absurd (show false=true from fx) Bool.false_ne_true)
    subst this
    exact ⟨z1,z3⟩
   ·obtain ⟨c,ws,its2,rfl,rfl,t2,w2,p2,l2⟩:=ry.lstAt I r2
    obtain ⟨z1,z2,z3,z4⟩:=fL hu0 fx r1 p2
    have:b=false:=by cases x <;> simp [eqF,Rep] at h rx <;> first|exact h.symm|exact h|(obtain ⟨_,rfl,_⟩:=rx;exact absurd (show false=true from fx) Bool.false_ne_true)
    subst this
    exact ⟨z1,z3⟩
   ·rw [jT rx ry fx fy h]
    exact ⟨r_ r1 r2 fx fy,tq r1 r2 fx fy⟩
 | succ n ih =>
  intro x y ux uy vx vy b A hu h rx ry r1 r2
  have hu0:A.units < cLine:=by omega
  obtain ⟨kt,kl⟩:=v7 I (λx y {_ _ _ _ _ _} a1 a2 a3 a4 a5 a6=>(ih x y a1 a2 a3 a4 a5 a6).1) hu
  rcases bZ (dY h).1 rx with ⟨xs,rfl⟩|⟨xs,rfl⟩|fx
  ·obtain ⟨a,us,its,e1,e1',t1,w1,p1,l1⟩:=rx.tupAt I r1
   rcases bZ (dY h).2 ry with ⟨ys,rfl⟩|⟨ys,rfl⟩|fy
   ·have q:=kt h rx ry r1 r2
    obtain ⟨c,ws,its2,e2,e2',t2,w2,p2,l2⟩:=ry.tupAt I r2
    subst e1 e1' e2 e2'
    refine ⟨?_,q⟩
    by_cases hac:a=c
    ·subst hac
     have e:=je I _ _ rx ry
     rw [e] at h
     rw [gU _ _ h]
     exact .same _
    ·exact .of_refs hac q
   ·obtain ⟨c,ws,its2,e2,e2',t2,w2,p2,l2⟩:=ry.lstAt I r2
    subst e1 e1' e2 e2'
    simp [eqF] at h;subst h
    exact ⟨.tuple_list p1 p2 hu0,.tuple_list p1 p2 hu0⟩
   ·subst e1 e1'
    obtain ⟨z1,z2,z3,z4⟩:=eP hu0 fy r2 p1
    have:b=false:=by cases y <;> simp [eqF,Rep] at h ry <;> first|exact h.symm|exact h|(obtain ⟨_,rfl,_⟩:=ry;exact absurd (show false=true from fy) Bool.false_ne_true)
    subst this
    exact ⟨z2,z4⟩
  ·obtain ⟨a,us,its,e1,e1',t1,w1,p1,l1⟩:=rx.lstAt I r1
   rcases bZ (dY h).2 ry with ⟨ys,rfl⟩|⟨ys,rfl⟩|fy
   ·obtain ⟨c,ws,its2,e2,e2',t2,w2,p2,l2⟩:=ry.tupAt I r2
    subst e1 e1' e2 e2'
    simp [eqF] at h;subst h
    exact ⟨.list_tuple p1 p2 hu0,.list_tuple p1 p2 hu0⟩
   ·have q:=kl h rx ry r1 r2
    obtain ⟨c,ws,its2,e2,e2',t2,w2,p2,l2⟩:=ry.lstAt I r2
    subst e1 e1' e2 e2'
    refine ⟨?_,q⟩
    by_cases hac:a=c
    ·subst hac
     have e:=je I _ _ rx ry
     rw [e] at h
     rw [gU _ _ h]
     exact .same _
    ·exact .of_refs hac q
   ·subst e1 e1'
    obtain ⟨z1,z2,z3,z4⟩:=fL hu0 fy r2 p1
    have:b=false:=by cases y <;> simp [eqF,Rep] at h ry <;> first|exact h.symm|exact h|(obtain ⟨_,rfl,_⟩:=ry;exact absurd (show false=true from fy) Bool.false_ne_true)
    subst this
    exact ⟨z2,z4⟩
  ·rcases bZ (dY h).2 ry with ⟨ys,rfl⟩|⟨ys,rfl⟩|fy
   ·obtain ⟨c,ws,its2,rfl,rfl,t2,w2,p2,l2⟩:=ry.tupAt I r2
    obtain ⟨z1,z2,z3,z4⟩:=eP hu0 fx r1 p2
    have:b=false:=by cases x <;> simp [eqF,Rep] at h rx <;> first|exact h.symm|exact h|(obtain ⟨_,rfl,_⟩:=rx;exact absurd (show false=true from fx) Bool.false_ne_true)
    subst this
    exact ⟨z1,z3⟩
   ·obtain ⟨c,ws,its2,rfl,rfl,t2,w2,p2,l2⟩:=ry.lstAt I r2
    obtain ⟨z1,z2,z3,z4⟩:=fL hu0 fx r1 p2
    have:b=false:=by cases x <;> simp [eqF,Rep] at h rx <;> first|exact h.symm|exact h|(obtain ⟨_,rfl,_⟩:=rx;exact absurd (show false=true from fx) Bool.false_ne_true)
    subst this
    exact ⟨z1,z3⟩
   ·rw [jT rx ry fx fy h]
    exact ⟨r_ r1 r2 fx fy,tq r1 r2 fx fy⟩
end
section
variable {X:Cx}
theorem yr (hu:X.A.units + 101 < cLine):OpR X (compareOp .Eq) (λux uy H Q=>∃ x y b,Rep X.K H x ux/\Rep X.K H y uy/\eqF 100 x y=some b/\Q (.bl b) H):=by
 intro pins s σ H ux uy v u Q I rx ry h
 obtain ⟨x,y,b,r1,r2,e,q⟩:=h
 exact (mi I 100 x y (by omega) e r1 r2 rx ry).2 _ _ _ _ ⟨.bl b,H,I,rfl,q⟩
theorem yt (hu:X.A.units + 101 < cLine):OpR X (compareOp .NotEq) (λux uy H Q=>∃ x y b,Rep X.K H x ux/\Rep X.K H y uy/\i5 x y=true/\eqF 100 x y=some b/\Q (.bl (!b)) H):=by
 intro pins s σ H ux uy v u Q I rx ry h
 obtain ⟨x,y,b,r1,r2,ok,e,q⟩:=h
 rcases bZ (dY e).1 r1 with ⟨xs,rfl⟩|⟨xs,rfl⟩|fx
 ·cases y with
  | tup ys =>
   obtain ⟨a,us,its,rfl,rfl,t1,w1,p1,l1⟩:=r1.tupAt I rx
   obtain ⟨c,ws,its2,rfl,rfl,t2,w2,p2,l2⟩:=r2.tupAt I ry
   rw [eqF] at e
   obtain ⟨hs,hb⟩:=gW xs ys e
   obtain ⟨⟨cls,dd,data,sl⟩,ho,hc,n,hd⟩:=id p1
   obtain ⟨⟨cls2,dd2,data2,sl2⟩,ho2,hc2,n2,hd2⟩:=id p2
   simp only at hc hd hc2 hd2
   subst hc hd hc2 hd2
   refine richCompare_meets_room (op:=.NotEq) ⟨_,ho,rfl⟩ ⟨_,ho2,rfl⟩ PySem.F.slot_tuple_ne PySem.F.entry_tuple_ne (PySem.F.args_tuple_ne_2 _ _) (SeqAt.tuple_neAt a c its.toArray its2.toArray n n2 dd dd2 sl sl2 _)
    ⟨ho,ho2,gX (n:=99) (λx y {_ _ _ _ _ _} a1 a2 a3 a4 a5 a6=>(mi I 99 x y a1 a2 a3 a4 a5 a6).1) (by omega) t1 t2 w1 w2 hs,?_⟩ (by omega)
   refine ⟨(λx=>nomatch x),⟨.bl (!b),H,I,?_,q⟩⟩
   rw [hb]
   simp [l1,l2,L2.ak]
  | _=>cases ok
 ·cases y with
  | lst ys =>
   obtain ⟨a,us,its,rfl,rfl,t1,w1,p1,l1⟩:=r1.lstAt I rx
   obtain ⟨c,ws,its2,rfl,rfl,t2,w2,p2,l2⟩:=r2.lstAt I ry
   rw [eqF] at e
   obtain ⟨⟨cls,dd,data,sl⟩,ho,hc,n,hd⟩:=id p1
   obtain ⟨⟨cls2,dd2,data2,sl2⟩,ho2,hc2,n2,hd2⟩:=id p2
   simp only at hc hd hc2 hd2
   subst hc hd hc2 hd2
   by_cases hl:xs.length=ys.length
   ·rw [if_pos hl] at e
    obtain ⟨hs,hb⟩:=gW xs ys e
    refine richCompare_meets_room (op:=.NotEq) ⟨_,ho,rfl⟩ ⟨_,ho2,rfl⟩ PySem.F.slot_list_ne PySem.F.entry_list_ne (PySem.F.args_list_ne_2 _ _) (SeqAt.list_neAt a c its.toArray its2.toArray n n2 dd dd2 sl sl2 (by simp only [List.size_toArray];omega) _)
     ⟨ho,ho2,gX (n:=99) (λx y {_ _ _ _ _ _} a1 a2 a3 a4 a5 a6=>(mi I 99 x y a1 a2 a3 a4 a5 a6).1) (by omega) t1 t2 w1 w2 hs,?_⟩ (by omega)
    refine ⟨(λx=>nomatch x),⟨.bl (!b),H,I,?_,q⟩⟩
    rw [hb,hl,Nat.min_self]
    simp [<- l1,hl,L2.ak]
   ·rw [if_neg hl] at e
    cases e
    refine richCompare_meets_room (op:=.NotEq) ⟨_,ho,rfl⟩ ⟨_,ho2,rfl⟩ PySem.F.slot_list_ne PySem.F.entry_list_ne (PySem.F.args_list_ne_2 _ _) (SeqAt.list_ne_lengthsAt a c its.toArray its2.toArray n n2 dd dd2 sl sl2 (by simp only [List.size_toArray,bne_iff_ne];omega)) ⟨ho,ho2,?_⟩ (by omega)
    exact ⟨(λx=>nomatch x),⟨.bl true,H,I,rfl,q⟩⟩
  | _=>cases ok
 ·have fy:fV uy=true:=by
   rcases bZ (dY e).2 r2 with ⟨ys,rfl⟩|⟨ys,rfl⟩|fy
   ·cases x <;> cases ok
    obtain ⟨_,_,rfl,_⟩:∃ a us,ux=V.ref a/\_:=by rw [Rep] at r1;exact r1
    exact absurd (show false=true from fx) Bool.false_ne_true
   ·cases x <;> cases ok
    obtain ⟨_,_,rfl,_⟩:∃ a us,ux=V.ref a/\_:=by rw [Rep] at r1;exact r1
    exact absurd (show false=true from fx) Bool.false_ne_true
   ·exact fy
  have hb:=jT r1 r2 fx fy e
  subst hb
  refine z8 pins s σ H ux uy v u Q I rx ry ?_
  have key:scal ux uy=true/\decide (ux=uy)=eqV ux uy:=by
   cases x <;> cases y <;> simp only [Rep] at r1 r2 <;> first
    | (obtain ⟨_,_,rfl,_⟩:=r1;exact absurd (show false=true from fx) Bool.false_ne_true)
    | (obtain ⟨_,_,rfl,_⟩:=r2;exact absurd (show false=true from fy) Bool.false_ne_true)
    | (obtain ⟨_,rfl,_⟩:=r1;exact absurd (show false=true from fx) Bool.false_ne_true)
    | (obtain ⟨_,rfl,_⟩:=r2;exact absurd (show false=true from fy) Bool.false_ne_true)
    | (subst r1 r2;first|(cases ok;done)|exact ⟨rfl,by first|exact oV|exact rS|exact oW|exact decide_eq_true rfl|exact decide_eq_false (λz=>by cases z)⟩)
  exact ⟨key.1,by rw [key.2];exact q⟩
theorem gY {pins:List (Addr × Obj)}{σ:St}{H:Hp}{s:Shared} (I:Inv X pins σ H s) (hu:X.A.units + 101 < cLine) {x:PV}{ux:V}{vx:Value} (rx:Rep X.K H x ux) (r1:ak ux vx) {xs:List PV}{us:List V}{its:List Value} (t:Reps X.K H xs us) (w:al us its) {b:Bool} (h:isIn x xs=some b) :
  ∃ e:Value->Bool,(∀ y,y ∈ its.toArray->SeqAt.EqAt X.A.in1 s y vx (e y))/\its.toArray.any e=b:=by
 obtain ⟨h1,h2⟩:=pE xs h
 classical
 have uniq:∀ (z:PV) (u:V) (y:Value),ak u y->Rep X.K H z u->∀ p:(∃ z u,ak u y/\Rep X.K H z u),p.choose=z:=λz u y r q p=>by
  obtain ⟨u',r',q'⟩:=p.choose_spec
  have e:=r.inj r'
  subst e
  exact je I _ _ q' q
 refine ⟨λy=>if p:∃ z u,ak u y/\Rep X.K H z u then (eqF 100 p.choose x).getD false else false,?_,?_⟩
 ·intro y hy
  obtain ⟨j,hj,e⟩:=List.getElem_of_mem (by simpa using hy:y ∈ its)
  have ej:its[j]?=some y:=by rw [List.getElem?_eq_getElem hj,e]
  have l1:=w.length
  obtain ⟨uy,e1⟩:∃ uy,us[j]?=some uy:=⟨_,List.getElem?_eq_getElem (by omega)⟩
  obtain ⟨wy,e2,ry⟩:=w.get e1
  rw [ej] at e2
  cases e2
  obtain ⟨z,e3,rz⟩:=t.get' e1
  obtain ⟨c,hc⟩:=h1 z (List.mem_of_getElem? e3)
  have q:=(mi I 100 z x (A:=X.A.in1) (show X.A.units + 1 + 100 < cLine by omega) hc rz rx ry r1).1
  have p:∃ z u,ak u y/\Rep X.K H z u:=⟨z,uy,ry,rz⟩
  have e4:=uniq z uy y ry rz p
  simp only [p,dite_true,e4,hc,Option.getD_some]
  exact q
 ·rw [h2]
  simp only [List.any_toArray]
  clear h h1 h2
  induction xs generalizing us its with
  | nil =>
   rw [Reps] at t
   subst t
   cases w
   rfl
  | cons z zs ih =>
   rw [Reps] at t
   obtain ⟨u,r,rfl,q,t⟩:=t
   cases w with
   | cons rv w =>
    rename_i y ys
    have p:∃ z u,ak u y/\Rep X.K H z u:=⟨z,u,rv,q⟩
    have e4:=uniq z u y rv q p
    rw [List.any_cons,List.any_cons,ih t w]
    simp only [p,dite_true,e4]
theorem yu (hu:X.A.units + 101 < cLine):OpR X (compareOp .In) (λux uy H Q=>∃ x xs a us b,Rep X.K H x ux/\uy=.ref a/\(SqL X.K H a us \/ SqT X.K H a us)/\Reps X.K H xs us/\isIn x xs=some b/\Q (.bl b) H):=by
 intro pins s σ H ux uy v u Q I rx ry h
 obtain ⟨x,xs,a,us,b,r1,rfl,hq,r2,e,q⟩:=h
 cases ry
 rcases hq with hq|hq
 ·obtain ⟨its,r,pl,hz⟩:=I.list hq
  obtain ⟨f,h1,h2⟩:=gY I hu r1 rx r2 r e
  refine SeqAt.in_listAt f pl.isList h1 ?_
  rw [h2]
  exact ⟨.bl b,H,I,rfl,q⟩
 ·obtain ⟨its,r,pl,hz⟩:=I.tuple hq
  obtain ⟨f,h1,h2⟩:=gY I hu r1 rx r2 r e
  refine SeqAt.in_tupleAt f pl h1 ?_
  rw [h2]
  exact ⟨.bl b,H,I,rfl,q⟩
theorem qD (hu:X.A.units + 101 < cLine):OpR X (compareOp .NotIn) (λux uy H Q=>∃ x xs a us b,Rep X.K H x ux/\uy=.ref a/\(SqL X.K H a us \/ SqT X.K H a us)/\Reps X.K H xs us/\isIn x xs=some b/\Q (.bl (!b)) H):=by
 intro pins s σ H ux uy v u Q I rx ry h
 obtain ⟨x,xs,a,us,b,r1,rfl,hq,r2,e,q⟩:=h
 cases ry
 rcases hq with hq|hq
 ·obtain ⟨its,r,pl,hz⟩:=I.list hq
  obtain ⟨f,h1,h2⟩:=gY I hu r1 rx r2 r e
  refine SeqAt.notIn_listAt f pl.isList h1 ?_
  rw [h2]
  exact ⟨.bl (!b),H,I,rfl,q⟩
 ·obtain ⟨its,r,pl,hz⟩:=I.tuple hq
  obtain ⟨f,h1,h2⟩:=gY I hu r1 rx r2 r e
  refine SeqAt.notIn_tupleAt f pl h1 ?_
  rw [h2]
  exact ⟨.bl (!b),H,I,rfl,q⟩
end
end MM
namespace L2
open PySem PySem.Spec PyProof.Rows
theorem PE.imp {X:Cx}{e:Expr}{t t':TE} (h:PE X e t) (i:∀ σ H Q,t' σ H Q->t σ H Q):PE X e t':=λpins s σ H Q I q=>h pins s σ H Q I (i σ H Q q)
theorem PT.imp {X:Cx}{e:Expr}{t t':TT} (h:PT X e t) (i:∀ σ H Q,t' σ H Q->t σ H Q):PT X e t':=λpins s σ H Q I q=>h pins s σ H Q I (i σ H Q q)
theorem PA.imp {X:Cx}{e:List Expr}{t t':TA} (h:PA X e t) (i:∀ σ H Q,t' σ H Q->t σ H Q):PA X e t':=λpos pins s σ H Q I q=>h pos pins s σ H Q I (i σ H Q q)
theorem PS.imp {X:Cx}{e:Stmt}{t t':TS} (h:PS X e t) (i:∀ D σ H,t' D σ H->t D σ H):PS X e t':=λpins s σ H D I q=>h pins s σ H D I (i D σ H q)
theorem PSs.imp {X:Cx}{e:List Stmt}{t t':TS} (h:PSs X e t) (i:∀ D σ H,t' D σ H->t D σ H):PSs X e t':=λpins s σ H D I q=>h pins s σ H D I (i D σ H q)
theorem PI.imp {X:Cx}{tg e:Expr}{t t':TI} (h:PI X tg e t) (i:∀ σ H R,t' σ H R->t σ H R):PI X tg e t':=λpins s σ H R I q=>h pins s σ H R I (i σ H R q)
end L2
namespace MM
open PySem PySem.Spec PyProof.Rows L2
noncomputable def iW (K:PySem.W.Frag) (O:List Addr) (H:Hp):MV->V->Prop
 | .val v,u=>Rep K (am H O) v u
 | .brw xs,u=>∃ a us,u=.ref a/\SqL K H a us/\Reps K (am H O) xs us
 | .own _,_=>False
 | .ownD _,_=>False
 | .mutD _,_=>False
 | .brwD kvs,u=>∃ a,u=.ref a/\Rd H a (cQ kvs)
noncomputable def spM (K:PySem.W.Frag) (cal:Cal) (f:Nat):Sp:=λvs H Q _ =>
 ∃ (O:List Addr) (args:List MV) (r:PV),(∀ a ∈ O,H a ≠ none)/\Paired (iW K O H) args vs/\cal f args=some r/\∀ u H',ag H H'->Rep K (am H' O) r u->Q u H'
noncomputable def spF (K:PySem.W.Frag) (cal:Cal) (f:Nat):Sp:=λvs H Q _ =>
 ∃ (O:List Addr) (args:List MV) (xs:List PV),(∀ a ∈ O,H a ≠ none)/\Paired (iW K O H) args vs/\cal (f + 1000) args=some (.lst xs)/\∀ p us H',ag H H'->H p=none->H' p=some (.lst us)->Reps K (am H' (p::O)) xs us->Q (.ref p) H'
noncomputable def v8 (K:PySem.W.Frag) (O:List Addr) (H:Hp):MV->V->Prop
 | .val v,u=>Rep K (am H O) v u
 | .mutD d,u=>∃ a,u=.ref a/\H a=some (cQ d)/\a ∈ O
 | _,_=>False
inductive di (H':Hp):List MV->List V->List PV->List Addr->Prop where
 | nil:di H' [] [] [] []
 | mutd {d d':DD}{a:Addr}{as:List MV}{vs:List V}{ds:List PV}{ms:List Addr} (h:H' a=some (cQ d')) (hn:a ∉ ms) (t:di H' as vs ds ms):di H' (.mutD d::as) (.ref a::vs) (.dI d'::ds) (a::ms)
 | other {m:MV}{v:V}{as:List MV}{vs:List V}{ds:List PV}{ms:List Addr} (h:∀ d,m ≠ .mutD d) (t:di H' as vs ds ms):di H' (m::as) (v::vs) ds ms
noncomputable def spD (K:PySem.W.Frag) (cal:Cal) (f:Nat):Sp:=λvs H Q _ =>
 ∃ (O:List Addr) (args:List MV) (v:Sc) (ds ds₀:List PV) (ms:List Addr),(∀ a ∈ O,H a ≠ none)/\Paired (v8 K O H) args vs/\di H args vs ds₀ ms/\cal (f + 2000) args=some (.tup (v.pv::ds)) /\
  ∀ H',(∀ b o,b ∉ ms->H b=some o->H' b=some o)->di H' args vs ds ms->Q v.v H'
noncomputable def gZ:List String:=["len","tuple","list","sorted","any","all","sum","max","min","int","bool","str","isinstance","set","range","enumerate","reversed"]
noncomputable def toV:PV->V
 | .non=>.non
 | .bl b=>.bl b
 | .int i=>.int i
 | .str x=>.str x
 | _=>.non
structure Gf (X:Cx) (T:Tab) (k:Nat) (cal:Cal):Prop where
 calm:X.calm=true
 room:dP k X.A
 fns:∀ (f:Nat) (x:Str),T.fs[f]?=some x->∃ (fa:Addr) (fd:FuncData) (ps:List Str),X.mg x=some (.ref fa)/\PySem.W.keepIn X.K (.ref fa)=true/\cJ X.K fd ps []/\dQ X.prog X.w X.K X.mg X.base CX0 k fa fd ps (spM X.K cal f)/\∀ l,T.ds[f]?=some l->∃ vs,cJ X.K fd ps vs/\al (l.map Sc.v) vs
 blt:∀ x ∈ gZ,X.mg (x:Str)=none
 gs:∀ p ∈ T.gs,∃ u,X.mg p.1=some u/\ak (toV p.2) u
 fnsF:∀ (f:Nat) (x:Str),T.fs[f]?=some x->∃ (fa:Addr) (fd:FuncData) (ps:List Str),X.mg x=some (.ref fa)/\PySem.W.keepIn X.K (.ref fa)=true/\cJ X.K fd ps []/\dQ X.prog X.w X.K X.mg X.base CX0 k fa fd ps (spF X.K cal f)
 fnsD:∀ (f:Nat) (x:Str),T.fs[f]?=some x->∃ (fa:Addr) (fd:FuncData) (ps:List Str),X.mg x=some (.ref fa)/\PySem.W.keepIn X.K (.ref fa)=true/\cJ X.K fd ps []/\dQ X.prog X.w X.K X.mg X.base CX0 k fa fd ps (spD X.K cal f)
theorem Gf.units {X:Cx}{T:Tab}{k:Nat}{cal:Cal} (g:Gf X T k cal):X.A.units + 200 < cLine:=by have:=g.room.un;omega
noncomputable def Got (K:PySem.W.Frag) (H:Hp) (O:List Addr) (me:ME) (v:PV) (u:V):Prop:=aQ K H O v u/\(av me=false->Rep K (am H O) v u)
noncomputable def tE (K:PySem.W.Frag) (cal:Cal) (me:ME):TE:=λσ H Q=>∃ B O₀ O ρ v,au K B O₀ O H ρ σ/\ev cal me ρ=some v/\∀ u H',ag H H'->Got K H' O me v u->Q u H'
noncomputable def tT (K:PySem.W.Frag) (cal:Cal) (me:ME):TT:=λσ H Q=>∃ B O₀ O ρ b,au K B O₀ O H ρ σ/\evB cal me ρ=some b/\∀ H',ag H H'->Q b H'
noncomputable def BZ (K:PySem.W.Frag) (H:Hp) (O:List Addr) (ms:List ME) (vs:List PV) (us:List V):Prop:=Paired (aQ K H O) vs us/\((ms.all λm=>!av m)=true->Reps K (am H O) vs us)
noncomputable def tEs (K:PySem.W.Frag) (cal:Cal) (ms:List ME):TA:=λσ H Q=>∃ B O₀ O ρ vs,au K B O₀ O H ρ σ/\evs cal ms ρ=some vs/\∀ us H',ag H H'->BZ K H' O ms vs us->Q us H'
noncomputable def tAs (K:PySem.W.Frag) (cal:Cal) (ms:List ME):TA:=λσ H Q=>∃ B O₀ O ρ vs,au K B O₀ O H ρ σ/\evA cal ms ρ=some vs/\∀ us H',ag H H'->Paired (iW K O H') vs us->Q us H'
section
variable {K:PySem.W.Frag}{H H':Hp}{O:List Addr}
theorem Got.of {me:ME}{v:PV}{u:V} (h:Rep K (am H O) v u):Got K H O me v u:=⟨.inl h,λ_=>h⟩
theorem Got.scal {me:ME}{v:PV}{u:V} (h:∀ F,Rep K F v u):Got K H O me v u:=.of (h _)
theorem Got.mono {me:ME}{v:PV}{u:V} (s:ag H H') (h:Got K H O me v u):Got K H' O me v u:=⟨h.1.mono s,λe=>Rep.mono (aA s) _ (h.2 e)⟩
theorem cH (F:Hp) (b:Bool):Rep K F (.bl b) (.bl b):=by rw [Rep]
theorem dG (F:Hp) (b:Int):Rep K F (.int b) (.int b):=by rw [Rep]
theorem mj (F:Hp) (b:Str):Rep K F (.str b) (.str b):=by rw [Rep]
theorem ml (F:Hp):Rep K F .non .non:=by rw [Rep]
theorem g6 {H1:Hp}{p:Addr}{xs:List PV}{us:List V} (hO:∀ a ∈ O,H1 a ≠ none) (hp:H1 p=none) (h:Reps K (am H1 O) xs us):Rep K (am (upd H1 p (.tup us)) O) (.tup xs) (.ref p):=by
 rw [Rep]
 refine ⟨p,us,rfl,?_,Reps.mono (aA (ax hp _)) _ h⟩
 rw [bD (λz=>hO p z hp)]
 exact ar
theorem nr {H1:Hp}{p:Addr}{xs:List PV}{us:List V} (hO:∀ a ∈ O,H1 a ≠ none) (hp:H1 p=none) (h:Reps K (am H1 O) xs us):Rep K (am (upd H1 p (.lst us)) O) (.lst xs) (.ref p):=by
 rw [Rep]
 refine ⟨p,us,rfl,SqL.of ?_,Reps.mono (aA (ax hp _)) _ h⟩
 rw [bD (λz=>hO p z hp)]
 exact ar
theorem aW (s:ag H H') (h:∀ a ∈ O,H a ≠ none):∀ a ∈ O,H' a ≠ none:=λa ha e=>h a ha (s.free e)
theorem eB {n:Nat} (h:n <= 10000):n <= sizeLine:=Nat.le_trans h (by decide)
end
section
variable {X:Cx}{T:Tab}{k:Nat}{cal:Cal}
theorem AA {sc:Scope}{x:Str} (h:yk sc x=true):Vis sc x:=by
 unfold yk at h
 simp only [Bool.or_eq_true,beq_iff_eq] at h
 rcases h with (h|h)|h
 ·exact .inl h
 ·exact .inr (.inl h)
 ·exact .inr (.inr h)
theorem g7 {sc:Scope}{x:Str} (h:gT sc x=true):Loc sc x:=by
 unfold gT at h
 simp only [Bool.or_eq_true,beq_iff_eq] at h
 exact h
theorem eQ {x:Str} (h:ah x=true):(x == ("__debug__":Str))=false/\(x == ("__classdict__":Str))=false/\x ≠ "__name__":=by
 unfold ah at h
 simp only [Bool.and_eq_true,Bool.not_eq_true'] at h
 obtain ⟨⟨h1,h2⟩,h3⟩:=h
 exact ⟨h1,h2,λe=>by rw [e] at h3;simp at h3⟩
theorem eS {x:Str} (h:glB X.env.scope x=true):Gl X x:=by
 unfold glB at h
 simp only [beq_iff_eq] at h
 exact h
theorem ci {i:Nat}{x:Str}{pos:Pos} (h:aT X.N X.env.scope i x=true):PE X (.Name x pos) (xu i):=by
 unfold aT at h
 simp only [Bool.and_eq_true,beq_iff_eq] at h
 obtain ⟨⟨h1,h2⟩,h3⟩:=h
 obtain ⟨p1,p2,_⟩:=eQ h3
 exact rC h1 (AA h2) p1 p2
theorem bt {K:PySem.W.Frag}{B H:Hp}{O₀ O:List Addr}{ρ:Rho}{σ:St} (st:au K B O₀ O H ρ σ) {i:Nat}{m:MV} (e:(ρ[i]?).join=some m):∃ u,σ[i]?=some (some u)/\dS K B O H m u:=st.slot i m (aB e)
theorem xa {i:Nat}{x:Str}{pos:Pos} (h:aT X.N X.env.scope i x=true):PE X (.Name x pos) (tE X.K cal (.var i)):=by
 refine (ci h).imp λσ H Q hq=>?_
 obtain ⟨B,O₀,O,ρ,v,st,he,q⟩:=hq
 rw [ev] at he
 cases hj:(ρ[i]?).join with
 | none=>rw [hj] at he;cases he
 | some m =>
  rw [hj] at he
  cases m with
  | val w =>
   simp only [sV,Option.some.injEq] at he
   subst he
   obtain ⟨u,e1,r⟩:=bt st hj
   exact ⟨u,e1,q u H (ag.refl H) (.of r)⟩
  | own _=>cases he
  | brw _=>cases he
  | ownD _=>cases he
  | mutD _=>cases he
  | brwD _=>cases he
theorem xb {i:Nat}{x:Str}{pos:Pos} (h:aT X.N X.env.scope i x=true):PE X (.Name x pos) (tE X.K cal (.bor i)):=by
 refine (ci h).imp λσ H Q hq=>?_
 obtain ⟨B,O₀,O,ρ,v,st,he,q⟩:=hq
 rw [ev] at he
 cases hj:(ρ[i]?).join with
 | none=>rw [hj] at he;cases he
 | some m =>
  rw [hj] at he
  obtain ⟨u,e1,r⟩:=bt st hj
  exact ⟨u,e1,q u H (ag.refl H) ⟨r.bor st.keep he,λz=>by cases z⟩⟩
theorem xc {v:PV}{c:Const}{j:Nat}{pos:Pos} (h:mf v c=true):PE X (.Constant c j pos) (tE X.K cal (.cst v)):=by
 have key:∀ (u:V),(∀ F,Rep X.K F v u)->PE X (.Constant c j pos) (tC u)->PE X (.Constant c j pos) (tE X.K cal (.cst v)):=λu r p=>p.imp λσ H Q hq=>by
  obtain ⟨B,O₀,O,ρ,w,st,he,q⟩:=hq
  rw [ev] at he
  cases he
  exact q u H (ag.refl H) (.scal r)
 cases v <;> cases c <;> simp only [mf,Bool.false_eq_true,beq_iff_eq] at h
 ·exact key .non (λF=>ml F) xw
 ·subst h;exact key _ (λF=>cH F _) zR
 ·subst h;exact key _ (λF=>dG F _) xv
 ·subst h;exact key _ (λF=>mj F _) xx
theorem tu {x y:Str}{v:PV}{pos:Pos} (g:Gf X T k cal) (h:chk T (.glob x v) X.N X.env.scope (.Name y pos)=true):PE X (.Name y pos) (tE X.K cal (.glob x v)):=by
 simp only [bN,bx,bO,bg,bP,bQ,bR,bS,cM,bT,bU,aR,bV,bW,bX,aS,bY,bh,aG,Bool.and_eq_true,beq_iff_eq] at h
 obtain ⟨⟨⟨rfl,hg⟩,hs⟩,hp⟩:=h
 unfold sW at hs
 obtain ⟨p,hp1,hp2⟩:=List.any_eq_true.mp hs
 simp only [Bool.and_eq_true,beq_iff_eq] at hp2
 obtain ⟨rfl,hv⟩:=hp2
 obtain ⟨u,e1,r⟩:=g.gs p hp1
 have e:p.2=v/\∀ F,Rep X.K F v (toV v):=by
  revert hv
  generalize p.2=z
  intro hv
  cases z <;> cases v <;> simp only [w_,Bool.false_eq_true,beq_iff_eq] at hv
  ·exact ⟨rfl,λF=>ml F⟩
  ·subst hv;exact ⟨rfl,λF=>cH F _⟩
  ·subst hv;exact ⟨rfl,λF=>dG F _⟩
  ·subst hv;exact ⟨rfl,λF=>mj F _⟩
 rw [e.1] at r
 refine (vh (eS hg) e1 r (eQ hp).1).imp λσ H Q hq=>?_
 obtain ⟨B,O₀,O,ρ,w,st,he,q⟩:=hq
 rw [ev] at he
 cases he
 exact q _ H (ag.refl H) (.scal e.2)
end
section
variable {X:Cx}
noncomputable def R2M (K:PySem.W.Frag) (f:PV->PV->Option PV):R2:=λux uy H Q =>
 ∃ O x y v,(∀ a ∈ O,H a ≠ none)/\aQ K H O x ux/\aQ K H O y uy/\f x y=some v/\∀ u H',ag H H'->Rep K (am H' O) v u->Q u H'
theorem iE {op:Operator}{C:Int->Int->Prop}{g:Int->Int->Int}{f:PV->PV->Option PV} (h:OpR X (binaryOp op) (rI C λi j=>.int (g i j)))
  (hf:∀ x y v,f x y=some v->∃ i j,x=.int i/\y=.int j/\C i j/\v=.int (g i j)):OpR X (binaryOp op) (R2M X.K f):=by
 intro pins s σ H ux uy v u Q I rx ry hq
 obtain ⟨O,x,y,w,hO,r1,r2,e,q⟩:=hq
 obtain ⟨i,j,rfl,rfl,c,rfl⟩:=hf x y w e
 have e1:=r1.int
 have e2:=r2.int
 subst e1 e2
 exact h pins s σ H _ _ v u Q I rx ry ⟨i,j,rfl,rfl,c,q _ H (ag.refl H) (dG _ _)⟩
theorem v9:OpR X (binaryOp .Add) (λx y H Q=>∃ l b xs zs,x=.ref l/\y=.ref b/\SqL X.K H l xs/\SqL X.K H b zs/\xs.length + zs.length <= sizeLine/\∀ p,H p=none->Q (.ref p) (upd H p (.lst (xs ++ zs)))):=by
 intro pins s σ H x y v u Q I rx ry h
 obtain ⟨l,b,xs,zs,rfl,rfl,hH,hB,hz,q⟩:=h
 cases rx
 cases ry
 obtain ⟨its,r,pl,_⟩:=I.list hH
 obtain ⟨its2,r2,pl2,_⟩:=I.list hB
 have l1:=r.length
 have l2:=r2.length
 obtain ⟨⟨cls,dd,data,sl⟩,ho,hc,n,hd⟩:=pl.isList
 obtain ⟨⟨cls2,dd2,data2,sl2⟩,ho2,hc2,n2,hd2⟩:=pl2.isList
 simp only at hc hd hc2 hd2
 subst hc hd hc2 hd2
 have e:its.toArray ++ its2.toArray=(its ++ its2).toArray:=by simp
 refine concat_meets ⟨_,ho,rfl⟩ ⟨_,ho2,rfl⟩ noFill_list_add seq_list_add PySem.F.slot_list_add PySem.F.entry_list_add (PySem.F.args_list_add_2 _ _) (list_addW l b its.toArray its2.toArray n n2 dd dd2 sl sl2 (by rw [List.size_toArray,List.size_toArray];omega)) ⟨ho,ho2,?_⟩
 rw [e]
 exact ⟨.ref _,_,I.lnew (t':=s.toks) (r.append r2) (by rw [List.length_append];omega),rfl,q _ I.fresh⟩
theorem v_:OpR X (binaryOp .Add) (λx y H Q=>∃ a b ys,x=.ref a/\y=.ref b/\SqT X.K H a []/\SqT X.K H b ys/\Q (.ref b) H):=by
 intro pins s σ H x y v u Q I rx ry h
 obtain ⟨a,b,ys,rfl,rfl,ha,hb,q⟩:=h
 cases rx
 cases ry
 obtain ⟨its,r1,⟨⟨c1,d1,t1,l1⟩,ho,hc,n,hd⟩,_⟩:=I.tuple ha
 obtain ⟨its2,r2,⟨⟨c2,d2,t2,l2⟩,ho2,hc2,n2,hd2⟩,_⟩:=I.tuple hb
 cases hc
 cases hd
 cases hc2
 cases hd2
 have none0:its=[]:=r1.nil_iff.mpr rfl
 have meets:=tuple_addW0 a b its.toArray its2.toArray n n2 d1 d2 l1 l2 (by simp [none0])
 exact concat_meets ⟨_,ho,rfl⟩ ⟨_,ho2,rfl⟩ noFill_tuple_add seq_tuple_add PySem.F.slot_tuple_add PySem.F.entry_tuple_add (PySem.F.args_tuple_add_2 _ _) meets ⟨ho,ho2,.ref b,H,I,rfl,q⟩
theorem c7 {α:Type}{f:Int->Int->Option α}{x y:PV}{v:α} (h:gO f x y=some v):∃ i j,x=.int i/\y=.int j/\f i j=some v:=by
 cases x <;> try (cases h;done)
 cases y <;> try (cases h;done)
 exact ⟨_,_,rfl,rfl,h⟩
theorem g8 {C:Int->Int->Prop} [∀ i j,Decidable (C i j)] {g:Int->Int->Int}{x y v:PV} (h:gO (λi j=>if C i j then some (.int (g i j)) else none) x y=some v):∃ i j,x=.int i/\y=.int j/\C i j/\v=.int (g i j):=by
 obtain ⟨i,j,e1,e2,e3⟩:=c7 h
 by_cases c:C i j
 ·rw [if_pos c] at e3
  exact ⟨i,j,e1,e2,c,(Option.some.inj e3).symm⟩
 ·rw [if_neg c] at e3
  cases e3
theorem yw (op:Op2):OpR X (binaryOp (vZ op)) (R2M X.K (fZ op)):=by
 cases op with
 | sub=>exact iE (C:=λ_ _=>True) (g:=λi j=>i - j) (λpins s σ H x y v u Q I rx ry h=>xG pins s σ H x y v u Q I rx ry (by obtain ⟨i,j,e1,e2,_,q⟩:=h;exact ⟨i,j,e1,e2,q⟩)) (λx y v h=>by
   obtain ⟨i,j,e1,e2,e3⟩:=c7 h
   exact ⟨i,j,e1,e2,trivial,(Option.some.inj e3).symm⟩)
 | mul=>exact iE xH λx y v h=>by have q:=g8 h;exact q
 | fdiv=>exact iE vn λx y v h=>by have q:=g8 h;exact q
 | mod=>exact iE xI λx y v h=>by have q:=g8 h;exact q
 | pow=>exact iE xJ λx y v h=>by have q:=g8 h;exact q
 | shr=>exact iE xK λx y v h=>by have q:=g8 h;exact q
 | add =>
  intro pins s σ H ux uy v u Q I rx ry hq
  obtain ⟨O,x,y,w,hO,r1,r2,e,q⟩:=hq
  cases x <;> try (cases e;done)
  all_goals (cases y <;> simp only [fZ,w5] at e <;> try (cases e;done))
  ·cases e
   have e1:=r1.int
   have e2:=r2.int
   subst e1 e2
   exact xF pins s σ H _ _ v u Q I rx ry ⟨_,_,rfl,rfl,q _ H (ag.refl H) (dG _ _)⟩
  ·split at e
   ·rename_i c
    cases e
    have e1:=r1.str
    have e2:=r2.str
    subst e1 e2
    exact n0 pins s σ H _ _ v u Q I rx ry ⟨_,_,rfl,rfl,Nat.le_trans c (by decide),q _ H (ag.refl H) (mj _ _)⟩
   ·cases e
  ·split at e
   ·rename_i c
    cases e
    obtain ⟨a,us,rfl,s1,t1⟩:=r1.tup
    obtain ⟨b,ws,rfl,s2,t2⟩:=r2.tup
    have l1:=t1.length
    have l2:=t2.length
    have w1:=r1.tupR
    have w2:=r2.tupR
    by_cases z0:us=[]
    ·subst z0
     have z1:=List.eq_nil_of_length_eq_zero l1
     subst z1
     exact v_ pins s σ H _ _ v u Q I rx ry ⟨a,b,ws,rfl,rfl,s1,s2,q _ H (ag.refl H) w2⟩
    refine vw pins s σ H _ _ v u Q I rx ry ⟨a,b,us,ws,rfl,rfl,s1,s2,z0,eB (by omega),λz=>?_,λz p hp=>?_⟩
    ·rw [z,List.length_nil] at l2
     have z1:=List.eq_nil_of_length_eq_zero l2
     subst z1
     rw [List.append_nil] at q
     exact q _ H (ag.refl H) w1
    ·exact q _ _ (ax hp _) (g6 hO hp (t1.append t2))
   ·cases e
  ·split at e
   ·rename_i c
    cases e
    obtain ⟨a,us,rfl,s1,t1⟩:=r1.lst
    obtain ⟨b,ws,rfl,s2,t2⟩:=r2.lst
    have l1:=t1.length
    have l2:=t2.length
    exact v9 pins s σ H _ _ v u Q I rx ry ⟨a,b,us,ws,rfl,rfl,s1,s2,eB (by omega),λp hp=>q _ _ (ax hp _) (nr hO hp (t1.append t2))⟩
   ·cases e
noncomputable def R2C (K:PySem.W.Frag) (f:PV->PV->Option Bool):R2:=λux uy H Q =>
 ∃ O x y b,aQ K H O x ux/\aQ K H O y uy/\f x y=some b/\Q (.bl b) H
theorem jf {op:CmpOp}{g:Int->Int->Bool}{f:PV->PV->Option Bool} (h:OpR X (compareOp op) (rI0 λi j=>.bl (g i j)))
  (hf:∀ x y v,f x y=some v->∃ i j,x=.int i/\y=.int j/\v=g i j):OpR X (compareOp op) (R2C X.K f):=by
 intro pins s σ H ux uy v u Q I rx ry hq
 obtain ⟨O,x,y,w,r1,r2,e,q⟩:=hq
 obtain ⟨i,j,rfl,rfl,rfl⟩:=hf x y w e
 have e1:=r1.int
 have e2:=r2.int
 subst e1 e2
 exact h pins s σ H _ _ v u Q I rx ry ⟨i,j,rfl,rfl,q⟩
theorem yx:OpR X (compareOp .Is) (λx y H Q=>∃ p q,x=.bl p/\y=.bl q/\Q (.bl (p == q)) H):=by
 rintro pins s σ H x y v u Q I rx ry ⟨p,q,rfl,rfl,hq⟩
 cases rx
 cases ry
 exact wpAny_pure (br I hq (by cases p <;> cases q <;> rfl))
theorem qE:OpR X (compareOp .IsNot) (λx y H Q=>∃ p q,x=.bl p/\y=.bl q/\Q (.bl (!(p == q))) H):=by
 rintro pins s σ H x y v u Q I rx ry ⟨p,q,rfl,rfl,hq⟩
 cases rx
 cases ry
 exact wpAny_pure (br I hq (by cases p <;> cases q <;> rfl))
theorem pG {K:PySem.W.Frag}{H:Hp}{O:List Addr}{x:PV}{u:V} (r:aQ K H O x u):decide (u=.non)=f_ x:=by
 cases x with
 | non=>rw [r.non];rfl
 | bl b=>rw [r.bl];rfl
 | int b=>rw [r.int];rfl
 | str b=>rw [r.str];rfl
 | tup xs=>obtain ⟨a,us,rfl,_⟩:=r.tup;rfl
 | lst xs=>obtain ⟨a,us,rfl,_⟩:=r.lst;rfl
 | dI kvs=>obtain ⟨a,rfl,_⟩:=r.dI;rfl
theorem oB (hu:X.A.units + 200 < cLine) (op:Cp):OpR X (compareOp (i7 op)) (R2C X.K (bv op)):=by
 cases op with
 | lt=>exact jf z9 λx y v h=>by obtain ⟨i,j,e1,e2,e3⟩:=c7 h;exact ⟨i,j,e1,e2,(Option.some.inj e3).symm⟩
 | le=>exact jf z_ λx y v h=>by obtain ⟨i,j,e1,e2,e3⟩:=c7 h;exact ⟨i,j,e1,e2,(Option.some.inj e3).symm⟩
 | gt=>exact jf Aa λx y v h=>by obtain ⟨i,j,e1,e2,e3⟩:=c7 h;exact ⟨i,j,e1,e2,(Option.some.inj e3).symm⟩
 | ge=>exact jf Ab λx y v h=>by obtain ⟨i,j,e1,e2,e3⟩:=c7 h;exact ⟨i,j,e1,e2,(Option.some.inj e3).symm⟩
 | eq =>
  intro pins s σ H ux uy v u Q I rx ry hq
  obtain ⟨O,x,y,w,r1,r2,e,q⟩:=hq
  exact yr (by omega) pins s σ H ux uy v u Q I rx ry ⟨x,y,w,r1.whole,r2.whole,e,q⟩
 | ne =>
  intro pins s σ H ux uy v u Q I rx ry hq
  obtain ⟨O,x,y,w,r1,r2,e,q⟩:=hq
  simp only [bv] at e
  split at e
  ·rename_i c
   simp only [Option.map_eq_some_iff] at e
   obtain ⟨b,e,rfl⟩:=e
   exact yt (by omega) pins s σ H ux uy v u Q I rx ry ⟨x,y,b,r1.whole,r2.whole,c,e,q⟩
  ·cases e
 | isN =>
  intro pins s σ H ux uy v u Q I rx ry hq
  obtain ⟨O,x,y,w,r1,r2,e,q⟩:=hq
  cases y <;> try (cases e;done)
  ·have e2:=r2.non
   subst e2
   refine xL pins s σ H ux _ v u Q I rx ry ⟨rfl,?_⟩
   have e:some (f_ x)=some w:=e
   rw [pG r1,Option.some.inj e]
   exact q
  ·cases x <;> try (cases e;done)
   have e1:=r1.bl
   have e2:=r2.bl
   subst e1 e2
   exact yx pins s σ H _ _ v u Q I rx ry ⟨_,_,rfl,rfl,by rw [Option.some.inj e];exact q⟩
 | notN =>
  intro pins s σ H ux uy v u Q I rx ry hq
  obtain ⟨O,x,y,w,r1,r2,e,q⟩:=hq
  cases y <;> try (cases e;done)
  ·have e2:=r2.non
   subst e2
   refine vp pins s σ H ux _ v u Q I rx ry ⟨rfl,?_⟩
   have e:some (!f_ x)=some w:=e
   rw [pG r1,Option.some.inj e]
   exact q
  ·cases x <;> try (cases e;done)
   have e1:=r1.bl
   have e2:=r2.bl
   subst e1 e2
   cases e
   exact qE pins s σ H _ _ v u Q I rx ry ⟨_,_,rfl,rfl,q⟩
 | isIn =>
  intro pins s σ H ux uy v u Q I rx ry hq
  obtain ⟨O,x,y,w,r1,r2,e,q⟩:=hq
  simp only [bv,Option.bind_eq_some_iff] at e
  obtain ⟨xs,e1,e2⟩:=e
  obtain ⟨a,us,rfl,s2,t2⟩:=r2.seq e1
  exact yu (by omega) pins s σ H ux _ v u Q I rx ry ⟨x,_,a,us,w,r1.whole,rfl,s2,Reps.mono (bA H O) _ t2,e2,q⟩
 | notIn =>
  intro pins s σ H ux uy v u Q I rx ry hq
  obtain ⟨O,x,y,w,r1,r2,e,q⟩:=hq
  simp only [bv,Option.bind_eq_some_iff,Option.map_eq_some_iff] at e
  obtain ⟨b,⟨xs,e1,e2⟩,rfl⟩:=e
  obtain ⟨a,us,rfl,s2,t2⟩:=r2.seq e1
  exact qD (by omega) pins s σ H ux _ v u Q I rx ry ⟨x,_,a,us,b,r1.whole,rfl,s2,Reps.mono (bA H O) _ t2,e2,q⟩
theorem nt (n:Nat) (i:Int):place n i=ixN n i:=rfl
theorem yy:IxR X (R2M X.K jN):=by
 intro value slice pins s σ H ux uy v u Q I rx ry hq hsub
 obtain ⟨O,x,y,w,hO,r1,r2,e,q⟩:=hq
 cases x <;> cases y <;> simp only [jN] at e <;> try (cases e;done)
 ·simp only [Option.bind_eq_some_iff] at e
  obtain ⟨j,e1,e2⟩:=e
  obtain ⟨a,us,rfl,s1,t1⟩:=r1.tup
  have e3:=r2.int
  subst e3
  obtain ⟨uw,e4,rw'⟩:=t1.get e2
  refine r9 value slice pins s σ H _ _ v u Q I rx ry (.inr (.inl ⟨a,us,_,uw,rfl,rfl,s1,?_,q uw H (ag.refl H) rw'⟩)) hsub
  unfold atI
  rw [<- t1.length,<- nt,e1]
  exact e4
 ·simp only [Option.bind_eq_some_iff] at e
  obtain ⟨j,e1,e2⟩:=e
  obtain ⟨a,us,rfl,s1,t1⟩:=r1.lst
  have e3:=r2.int
  subst e3
  obtain ⟨uw,e4,rw'⟩:=t1.get e2
  refine r9 value slice pins s σ H _ _ v u Q I rx ry (.inl ⟨a,us,_,uw,rfl,rfl,s1,?_,q uw H (ag.refl H) rw'⟩) hsub
  unfold atI
  rw [<- t1.length,<- nt,e1]
  exact e4
theorem oC {b:Expr} (h:bw b=true):o3 b:=by
 intro o i
 cases b <;> first|rfl|(simp [bw] at h)
theorem nu {K:PySem.W.Frag}{F:Hp}{xs:List PV}{us:List V} (h:Reps K F xs us) (lo hi:Option Int):Reps K F (cut xs lo hi) (mT us lo hi):=by
 have hl:=h.length
 have e:∀ (n d:Nat) (o:Option Int),fe n d o=HT.sIx n d o:=λn d o=>by cases o <;> rfl
 unfold cut mT
 rw [e,e,hl]
 exact (h.drop _).take _
theorem yz:SlR X (λx lo hi H Q=>∃ O v w,(∀ a ∈ O,H a ≠ none)/\aQ X.K H O v x/\gP v lo hi=some w/\∀ u H',ag H H'->Rep X.K (am H' O) w u->Q u H'):=by
 intro pins s σ H x v vl vu lo hi sl Q I rx hs pl pu hq
 obtain ⟨O,pv,w,hO,r1,e,q⟩:=hq
 cases pv <;> simp only [gP] at e <;> try (cases e;done)
 ·rename_i xs
  cases e
  obtain ⟨a,us,rfl,s1,t1⟩:=r1.tup
  have e:∀ (n d:Nat) (o:Option Int),fe n d o=HT.sIx n d o:=λn d o=>by cases o <;> rfl
  by_cases hn:HT.sIx us.length 0 lo=0/\HT.sIx us.length us.length hi=us.length
  ·refine vY pins s σ H _ v vl vu lo hi sl Q I rx hs pl pu ⟨a,us,rfl,s1,hn.1,hn.2,q _ _ (ag.refl H) ?_⟩
   have:cut xs lo hi=xs:=by
    unfold cut
    rw [e,e,t1.length,hn.1,hn.2,List.drop_zero,<- t1.length,Nat.sub_zero,List.take_length]
   rw [this]
   exact r1.tupR
  ·exact xP pins s σ H _ v vl vu lo hi sl Q I rx hs pl pu ⟨a,us,rfl,s1,hn,λp hp=>q _ _ (ax hp _) (g6 hO hp (nu t1 lo hi))⟩
 ·cases e
  obtain ⟨a,us,rfl,s1,t1⟩:=r1.lst
  exact vA pins s σ H _ v vl vu lo hi sl Q I rx hs pl pu ⟨a,us,rfl,s1,λp hp=>q _ _ (ax hp _) (nr hO hp (nu t1 lo hi))⟩
end
end MM
namespace MM
open PySem PySem.Spec PyProof.Rows L2
theorem pH (x:Int):∀ l,sT x l=Srt.i4 Srt.cq x l
 | []=>rfl
 | y::r=>by
  show (if y < x then y::sT x r else x::y::r)=(if Srt.cq.blt y x=true then y::Srt.i4 Srt.cq x r else x::y::r)
  rw [pH x r]
  by_cases h:y < x
  ·have e:Srt.cq.blt y x=true:=decide_eq_true h
   rw [if_pos h,if_pos e]
  ·have e:Srt.cq.blt y x=false:=decide_eq_false h
   rw [if_neg h,if_neg (by rw [e];exact Bool.false_ne_true)]
theorem dj:∀ l,sortI l=Srt.sortI l
 | []=>rfl
 | x::r=>by
  show sT x (sortI r)=Srt.i4 Srt.cq x (Srt.fu Srt.cq r)
  rw [dj r,pH];rfl
theorem jU:∀ a b,lexLt a b=HT.lexLt a b
 | [],[]=>rfl
 | [],_::_=>rfl
 | _::_,[]=>rfl
 | x::xs,y::ys=>by
  rw [lexLt,HT.lexLt_cons,jU xs ys]
theorem pI (x:List Int):∀ l,sU x l=Srt.i4 Srt.db x l
 | []=>rfl
 | y::r=>by
  show (if lexLt y x=true then y::sU x r else x::y::r)=(if Srt.db.blt y x=true then y::Srt.i4 Srt.db x r else x::y::r)
  rw [pI x r,jU]
  rfl
theorem g9:∀ l,sortT l=Srt.sortT l
 | []=>rfl
 | x::r=>by
  show sU x (sortT r)=Srt.i4 Srt.db x (Srt.fu Srt.db r)
  rw [g9 r,pI];rfl
theorem ll:∀ l,dd l=St.dd l
 | []=>rfl
 | x::r=>by
  unfold dd St.dd
  rw [ll r]
theorem wc (ns:List Int):Srt.sortI (St.dd ns.reverse)=sortI (dd ns):=by
 rw [dj,ll]
 refine Srt.sortI_of_perm ?_
 refine (List.perm_ext_iff_of_nodup (St.dd_nodup _) (St.dd_nodup _)).mpr λa=>?_
 rw [St.dR,St.dR,List.mem_reverse]
theorem tw (ns:List Int):(St.dd ns.reverse).length=(dd ns).length:=by
 rw [ll]
 refine List.Perm.length_eq ((List.perm_ext_iff_of_nodup (St.dd_nodup _) (St.dd_nodup _)).mpr λa=>?_)
 rw [St.dR,St.dR,List.mem_reverse]
section
variable {X:Cx}{T:Tab}{k:Nat}{cal:Cal}
noncomputable def RBM (K:PySem.W.Frag) (f:List PV->Option PV):List V->Hp->VK->Prop:=λus H Q =>
 ∃ O vs v,(∀ a ∈ O,H a ≠ none)/\Paired (aQ K H O) vs us/\f vs=some v/\∀ u H',ag H H'->Rep K (am H' O) v u->Q u H'
theorem p1 {K:PySem.W.Frag}{H:Hp}{O:List Addr}{x:PV}{us:List V} (h:Paired (aQ K H O) [x] us):∃ u,us=[u]/\aQ K H O x u:=by
 cases h with
 | cons r t=>cases t;exact ⟨_,rfl,r⟩
theorem p2 {K:PySem.W.Frag}{H:Hp}{O:List Addr}{x y:PV}{us:List V} (h:Paired (aQ K H O) [x,y] us):∃ u w,us=[u,w]/\aQ K H O x u/\aQ K H O y w:=by
 cases h with
 | cons r t=>cases t with
  | cons r' t'=>cases t';exact ⟨_,_,rfl,r,r'⟩
theorem dk {f:Blt}{vs:List PV}{v:PV} (h:aq f vs=some v) (hf:cZ f=some 1 \/ (bM f).isSome=true \/ f=.sortedSet \/ f=.lenSet \/ f=.valuesOf):∃ x,vs=[x]:=by
 cases vs with
 | nil=>cases f <;> simp [aq,bL,gq,fz] at h
 | cons x r=>cases r with
  | nil=>exact ⟨x,rfl⟩
  | cons y r=>cases f <;> simp [aq,bL,gq,fz,cZ,bM] at h hf
theorem AB:bn X (.builtin "len") (RBM X.K (aq .len)):=by
 intro pins s σ H xs us Q I r h
 obtain ⟨O,vs,v,hO,rs,e,q⟩:=h
 obtain ⟨x,rfl⟩:=dk e (.inl rfl)
 obtain ⟨u,rfl,rx⟩:=p1 rs
 cases x <;> simp only [aq,bL,w8] at e <;> try (cases e;done)
 ·cases e
  obtain ⟨a,ws,rfl,s1,t1⟩:=rx.tup
  exact gE pins s σ H _ us Q I r ⟨a,ws,rfl,.inr s1,by rw [<- t1.length];exact q _ H (ag.refl H) (dG _ _)⟩
 ·cases e
  obtain ⟨a,ws,rfl,s1,t1⟩:=rx.lst
  exact gE pins s σ H _ us Q I r ⟨a,ws,rfl,.inl s1,by rw [<- t1.length];exact q _ H (ag.refl H) (dG _ _)⟩
 ·rename_i d
  cases d with
  | t kvs=>cases e
  | n kvs=>cases e
  | k kvs =>
   cases e
   obtain ⟨a,rfl,ha⟩:=rx.dI
   obtain ⟨u,rfl,ru⟩:=fU r
   cases ru
   obtain ⟨hz,hs,ws,rel,dd⟩:=jv I.hok (show Rd H a (.dK (fA kvs)) from ha)
   have hlen:ws.length=kvs.length:=by rw [<- rel.length];unfold fA;rw [List.length_map]
   have hz:kvs.length <= sizeLine:=by unfold fA at hz;rw [List.length_map] at hz;exact hz
   have hn:=ik
   exact call_len_dict hs dd (by rw [hlen];omega) ⟨.int kvs.length,H,I.tok _,⟨s.toks + 1,by rw [hlen]⟩,q _ H (ag.refl H) (dG _ _)⟩
theorem wd:bn X (.type "tuple") (RBM X.K (aq .tupleOf)):=by
 intro pins s σ H xs us Q I r h
 obtain ⟨O,vs,v,hO,rs,e,q⟩:=h
 obtain ⟨x,rfl⟩:=dk e (.inl rfl)
 obtain ⟨u,rfl,rx⟩:=p1 rs
 simp only [aq,bL,gq,fS,fz,Option.map_eq_some_iff] at e
 obtain ⟨ys,e,rfl⟩:=e
 cases x <;> simp [aO] at e
 ·subst e
  obtain ⟨a,ws,rfl,s1,t1⟩:=rx.tup
  refine fW pins s σ H _ us Q I r ⟨a,ws,rfl,.inr ⟨s1,q _ H (ag.refl H) ?_⟩⟩
  exact rx.tupR
 ·subst e
  obtain ⟨a,ws,rfl,s1,t1⟩:=rx.lst
  exact fW pins s σ H _ us Q I r ⟨a,ws,rfl,.inl ⟨s1,λl hl=>q _ _ (ax hl _) (g6 hO hl t1)⟩⟩
noncomputable def RBF (K:PySem.W.Frag) (f:List PV->Option PV):List V->Hp->VK->Prop:=λus H Q =>
 ∃ O vs xs,(∀ a ∈ O,H a ≠ none)/\Paired (aQ K H O) vs us/\f vs=some (.lst xs)/\∀ l ws,H l=none->Reps K (am H O) xs ws->Q (.ref l) (upd H l (.lst ws))
theorem yA:bn X (.type "list") (RBF X.K (aq .listOf)):=by
 intro pins s σ H xs us Q I r h
 obtain ⟨O,vs,v,hO,rs,e,q⟩:=h
 obtain ⟨x,rfl⟩:=dk e (.inl rfl)
 obtain ⟨u,rfl,rx⟩:=p1 rs
 simp only [aq,bL,gq,fS,fz,Option.map_eq_some_iff,PV.lst.injEq,exists_eq_right] at e
 obtain ⟨a,ws,rfl,s1,t1⟩:=rx.seq e
 exact lQ pins s σ H _ us Q I r ⟨a,ws,rfl,s1,λl hl=>q l ws hl t1⟩
theorem lm {K:PySem.W.Frag}{F:Hp}:∀ {tss:List (List Int)}{us:List V},Reps K F (tss.map λt=>.tup (t.map .int)) us->ou K F us tss
 | [],_,h=>by rw [List.map_nil,Reps] at h;subst h;exact .nil
 | t::tss,_,h=>by
  rw [List.map_cons,Reps] at h
  obtain ⟨u,r,rfl,q,z⟩:=h
  rw [Rep] at q
  obtain ⟨a,vs,e,s1,r1⟩:=q
  rw [r1.ints] at s1
  exact .cons ⟨a,e,SqT.of s1⟩ (lm z)
theorem ln {K:PySem.W.Frag}{F F':Hp} (s:ag F F'):∀ {us:List V}{tss:List (List Int)},ou K F us tss->ou K F' us tss
 | _,_,.nil=>.nil
 | _,_,.cons ⟨a,e1,e2⟩ t=>.cons ⟨a,e1,s.seqT e2⟩ (ln s t)
theorem lq {K:PySem.W.Frag}{F:Hp}{xs:List PV}{us:List V} (h:Reps K F xs us):∀ (l:List Nat),(∀ i ∈ l,i < us.length)->Reps K F (l.map λi=>xs.getD i .non) (l.map λi=>us.getD i .non)
 | [],_=>.nil
 | i::l,hl=>by
  have hi:=hl i (.head _)
  have hx:i < xs.length:=by rw [h.length];exact hi
  obtain ⟨u,e1,e2⟩:=h.get (i:=i) (x:=xs[i]) (List.getElem?_eq_getElem hx)
  refine .cons ?_ (lq h l λj hj=>hl j (.tail _ hj))
  have q1:xs.getD i .non=xs[i]:=by simp [hx]
  have q2:us.getD i .non=u:=by rw [List.getD_eq_getElem?_getD,e1];rfl
  show Rep K F (xs.getD i .non) (us.getD i .non)
  rw [q1,q2];exact e2
theorem tz (g:Gf X T k cal):bn X (.builtin "sorted") (RBF X.K (aq .sorted)):=by
 intro pins s σ H xs us Q I r h
 obtain ⟨O,vs,v,hO,rs,e,q⟩:=h
 obtain ⟨x,rfl⟩:=dk e (.inl rfl)
 obtain ⟨u,rfl,rx⟩:=p1 rs
 simp only [aq,bL,gq,fS,fz,Option.bind_eq_some_iff] at e
 obtain ⟨ys,e,e2⟩:=e
 obtain ⟨a,ws,rfl,s1,t1⟩:=rx.seq e
 unfold fw at e2
 split at e2
 ·rename_i h64
  split at e2
  ·rename_i ns hn
   cases e2
   have:=fB hn
   subst this
   have e3:=t1.ints
   subst e3
   rw [List.length_map] at h64
   refine gM g.calm pins s σ H _ us Q I r ⟨a,ns,rfl,s1.imp id .inl,h64,λl hl=>?_⟩
   rw [<- dj]
   exact q l _ hl (.of_ints _)
  ·simp only [Option.map_eq_some_iff,PV.lst.injEq] at e2
   obtain ⟨ts,e3,rfl⟩:=e2
   have:=jO e3
   subst this
   rw [List.length_map] at h64
   refine l4 (by have:=g.units;omega) pins s σ H _ us Q I r ⟨a,ws,ts,rfl,s1,ln (bA H O) (lm t1),h64,λl pm hl hp e=>q l _ hl ?_⟩
   have q2:=lq t1 pm hp
   have e4:(pm.map λi=>(ts.map λt=>PV.tup (t.map .int)).getD i .non)=(sortT ts).map λt=>.tup (t.map .int):=by
    rw [g9,<- e,List.map_map]
    refine List.map_congr_left λi hi=>?_
    have hi':i < ts.length:=by have:=hp i hi;rw [<- t1.length,List.length_map] at this;exact this
    simp [hi']
   rw [e4] at q2
   exact q2
 ·cases e2
theorem pJ {x:PV}{ys:List PV} (h:fS x=some ys):x=.lst ys:=by
 cases x <;> cases h
 rfl
end
end MM
namespace MM
open PySem PySem.Spec PyProof.Rows L2
section
variable {X:Cx}{T:Tab}{k:Nat}{cal:Cal}
theorem yB {b:Blt}{c:String} (hb:bM b=some c):bn X (.builtin "isinstance") (λus H Q=>∃ O v u,us=[u,.ty c]/\isD v=false/\aQ X.K H O v u/\Q (.bl (isT b v)) H):=by
 intro pins s σ H xs us Q I r h
 obtain ⟨O,v,x,rfl,nd,rx,q⟩:=h
 obtain ⟨u,t,rfl,r1,rc⟩:=Ad r
 have rc':t=.type c:=rc
 subst rc'
 have fin:∀ (z:Bool) (tk:Nat),z=isT b v->EP X pins σ Q (.bool z) { s with toks:=tk }:=λz tk e=>⟨.bl z,H,I.tok tk,rfl,by rw [e];exact q⟩
 cases v with
 | dI _=>cases nd
 | non =>
  have e:=rx.non
  subst e
  cases (show u=Value.none from r1)
  cases b <;> simp only [bM,Option.some.injEq,reduceCtorEq] at hb <;> subst hb <;>
   exact PySem.W.kia_one PySem.W.kitx_none I.kIn True.intro (b:=false) (by first|rfl|kernel_rfl|decide) (λz=>nomatch z) λtk=>fin _ tk rfl
 | bl y =>
  have e:=rx.bl
  subst e
  cases (show u=Value.bool y from r1)
  cases b <;> simp only [bM,Option.some.injEq,reduceCtorEq] at hb <;> subst hb <;> first
   | exact PySem.W.kia_one PySem.W.kitx_bool I.kIn True.intro (b:=true) (by first|rfl|kernel_rfl|decide) (λz=>nomatch z) λtk=>fin _ tk rfl
   | exact PySem.W.kia_one PySem.W.kitx_bool I.kIn True.intro (b:=false) (by first|rfl|kernel_rfl|decide) (λz=>nomatch z) λtk=>fin _ tk rfl
 | int y =>
  have e:=rx.int
  subst e
  obtain ⟨t,z⟩:=(show ∃ t,u=Value.int y t from r1)
  cases z
  cases b <;> simp only [bM,Option.some.injEq,reduceCtorEq] at hb <;> subst hb <;> first
   | exact PySem.W.kia_one PySem.W.kitx_int I.kIn True.intro (b:=true) (by first|rfl|kernel_rfl|decide) (λz=>nomatch z) λtk=>fin _ tk rfl
   | exact PySem.W.kia_one PySem.W.kitx_int I.kIn True.intro (b:=false) (by first|rfl|kernel_rfl|decide) (λz=>nomatch z) λtk=>fin _ tk rfl
 | str y =>
  have e:=rx.str
  subst e
  obtain ⟨t,z⟩:=(show ∃ t,u=Value.str y t from r1)
  cases z
  cases b <;> simp only [bM,Option.some.injEq,reduceCtorEq] at hb <;> subst hb <;> first
   | exact PySem.W.kia_one PySem.W.kitx_str I.kIn True.intro (b:=true) (by first|rfl|kernel_rfl|decide) (λz=>nomatch z) λtk=>fin _ tk rfl
   | exact PySem.W.kia_one PySem.W.kitx_str I.kIn True.intro (b:=false) (by first|rfl|kernel_rfl|decide) (λz=>nomatch z) λtk=>fin _ tk rfl
 | lst ys =>
  obtain ⟨a,us,rfl,s1,t1⟩:=rx.lst
  cases (show u=Value.ref a from r1)
  obtain ⟨its,_,p,_⟩:=I.list s1
  obtain ⟨o,h1,h2,_⟩:=p.isList
  cases b <;> simp only [bM,Option.some.injEq,reduceCtorEq] at hb <;> subst hb <;> first
   | exact PySem.W.kia_one PySem.W.kitx_list I.kIn ⟨o,h1,h2⟩ (b:=true) (by first|rfl|kernel_rfl|decide) (λz=>nomatch z) λtk=>fin _ tk rfl
   | exact PySem.W.kia_one PySem.W.kitx_list I.kIn ⟨o,h1,h2⟩ (b:=false) (by first|rfl|kernel_rfl|decide) (λz=>nomatch z) λtk=>fin _ tk rfl
 | tup ys =>
  obtain ⟨a,us,rfl,s1,t1⟩:=rx.tup
  cases (show u=Value.ref a from r1)
  obtain ⟨its,_,p,_⟩:=I.tuple s1
  obtain ⟨o,h1,h2,_⟩:=p
  cases b <;> simp only [bM,Option.some.injEq,reduceCtorEq] at hb <;> subst hb <;> first
   | exact PySem.W.kia_one PySem.W.kitx_tuple I.kIn ⟨o,h1,h2⟩ (b:=true) (by first|rfl|kernel_rfl|decide) (λz=>nomatch z) λtk=>fin _ tk rfl
   | exact PySem.W.kia_one PySem.W.kitx_tuple I.kIn ⟨o,h1,h2⟩ (b:=false) (by first|rfl|kernel_rfl|decide) (λz=>nomatch z) λtk=>fin _ tk rfl
theorem gw {K:PySem.W.Frag}{F:Hp}:∀ {bs:List Bool}{us:List V}{its:List Value},Reps K F (bs.map .bl) us->al us its->its=bs.map Value.bool
 | [],_,_,h,w=>by rw [List.map_nil,Reps] at h;subst h;cases w;rfl
 | b::bs,_,_,h,w=>by
  rw [List.map_cons,Reps] at h
  obtain ⟨u,r,rfl,q,t⟩:=h
  rw [Rep] at q
  subst q
  cases w with
  | cons r1 w1 =>
   cases r1
   rw [gw t w1];rfl
theorem qF (bs:List Bool):(List.range bs.length).all (λi=>bs.getD i false)=bs.all id:=by
 conv=>rhs;rw [<- Srt.fK bs false]
 rw [List.all_map]
 rfl
theorem qG (bs:List Bool):(List.range bs.length).any (λi=>bs.getD i false)=bs.any id:=by
 conv=>rhs;rw [<- Srt.fK bs false]
 rw [List.any_map]
 rfl
theorem iX {P:Program}{w:World}{A:Around} (bs:List Bool):TruthOf P w A (λi v=>(bs.map Value.bool).toArray[i]?=some v) (λi=>bs.getD i false):=by
 intro i v s Q E h q
 simp only [List.getElem?_toArray,List.getElem?_map,Option.map_eq_some_iff] at h
 obtain ⟨b,e,rfl⟩:=h
 have:bs.getD i false=b:=by rw [List.getD_eq_getElem?_getD,e];rfl
 have q':Q (bs.getD i false) s:=q
 rw [this] at q'
 exact wpAny_truthy_bool q'
theorem AC (hc:X.calm=true):bn X (.builtin "any") (RBM X.K (aq .any)):=by
 intro pins s σ H xs us Q I r h
 obtain ⟨O,vs,v,hO,rs,e,q⟩:=h
 obtain ⟨x,rfl⟩:=dk e (.inl rfl)
 obtain ⟨u,rfl,rx⟩:=p1 rs
 simp only [aq,bL,Option.bind_eq_some_iff,Option.map_eq_some_iff] at e
 obtain ⟨ys,e0,bs,e,rfl⟩:=e
 obtain rfl:=pJ e0
 have:=iC e
 subst this
 obtain ⟨a,ws,rfl,s1,t1⟩:=rx.lst
 obtain ⟨u,rfl,ru⟩:=fU r
 cases ru
 obtain ⟨its,r',pl,hz⟩:=I.list s1
 have:=gw t1 r'
 subst this
 have hlt:a < s.heap.objs.size:=by obtain ⟨o,ho,_⟩:=pl.isList;exact Heap.lt_size ho
 refine call_any_walk (wpAny_pyIter_list pl.isList ?_)
 refine ⟨s.heap.objs.size,_,_,_,_,_,λi=>bs.getD i false,rfl,Walks.list (by first|exact I.ok.hd hc|simpa using I.ok.hd hc) s.heap.objs.size a (Nat.ne_of_lt hlt) (bs.map Value.bool).toArray,⟨⟨_,Heap.get?_push_size _ rfl,rfl,rfl⟩,pl.isList.push _⟩,iX bs,λh' tk hk=>?_⟩
 have e2:(List.range (bs.map Value.bool).toArray.size).any (λi=>bs.getD i false)=bs.any id:=by
  rw [List.size_toArray,List.length_map];exact qG bs
 rw [e2]
 refine ⟨.bl _,H,?_,rfl,q _ H (ag.refl H) (cH _ _)⟩
 refine I.kept (t':=tk) λb o e=>hk b o ?_ (Heap.get?_push_of_some _ e)
 intro hm
 have hb:=Heap.lt_size e
 simp at hm
 exact absurd hm (Nat.ne_of_lt hb)
theorem AD (hc:X.calm=true):bn X (.builtin "all") (RBM X.K (aq .all)):=by
 intro pins s σ H xs us Q I r h
 obtain ⟨O,vs,v,hO,rs,e,q⟩:=h
 obtain ⟨x,rfl⟩:=dk e (.inl rfl)
 obtain ⟨u,rfl,rx⟩:=p1 rs
 simp only [aq,bL,Option.bind_eq_some_iff,Option.map_eq_some_iff] at e
 obtain ⟨ys,e0,bs,e,rfl⟩:=e
 obtain rfl:=pJ e0
 have:=iC e
 subst this
 obtain ⟨a,ws,rfl,s1,t1⟩:=rx.lst
 obtain ⟨u,rfl,ru⟩:=fU r
 cases ru
 obtain ⟨its,r',pl,hz⟩:=I.list s1
 have:=gw t1 r'
 subst this
 have hlt:a < s.heap.objs.size:=by obtain ⟨o,ho,_⟩:=pl.isList;exact Heap.lt_size ho
 refine call_all_walk (wpAny_pyIter_list pl.isList ?_)
 refine ⟨s.heap.objs.size,_,_,_,_,_,λi=>bs.getD i false,rfl,Walks.list (by first|exact I.ok.hd hc|simpa using I.ok.hd hc) s.heap.objs.size a (Nat.ne_of_lt hlt) (bs.map Value.bool).toArray,⟨⟨_,Heap.get?_push_size _ rfl,rfl,rfl⟩,pl.isList.push _⟩,iX bs,λh' tk hk=>?_⟩
 have e2:(List.range (bs.map Value.bool).toArray.size).all (λi=>bs.getD i false)=bs.all id:=by
  rw [List.size_toArray,List.length_map];exact qF bs
 rw [e2]
 refine ⟨.bl _,H,?_,rfl,q _ H (ag.refl H) (cH _ _)⟩
 refine I.kept (t':=tk) λb o e=>hk b o ?_ (Heap.get?_push_of_some _ e)
 intro hm
 have hb:=Heap.lt_size e
 simp at hm
 exact absurd hm (Nat.ne_of_lt hb)
theorem tD (hc:X.calm=true):bn X (.type "set") (λus H Q=>∃ O v u ns,us=[u]/\aQ X.K H O v u/\((aO v).bind aN)=some ns/\ns.length <= 1000/\∀ l,H l=none->Q (.ref l) (upd H l (gL X.prog X.w l (St.dd ns.reverse)))):=by
 intro pins s σ H xs us Q I r h
 obtain ⟨O,v,u,ns,rfl,rx,e,h1000,q⟩:=h
 simp only [Option.bind_eq_some_iff] at e
 obtain ⟨ys,e1,e2⟩:=e
 obtain ⟨a,ws,rfl,s1,t1⟩:=rx.seq e1
 have:=fB e2
 subst this
 have e3:=t1.ints
 subst e3
 exact sG hc pins s σ H _ us Q I r ⟨a,ns,rfl,s1,h1000,λl hl=>q l hl⟩
theorem nv (hc:X.calm=true):bn X (.builtin "sorted") (λus H Q=>∃ (l:Addr) (ks:List Int),us=[.ref l]/\H l=some (gL X.prog X.w l ks)/\ks.length < 64/\∀ p,H p=none->Q (.ref p) (upd H p (.lst ((Srt.sortI ks).map V.int)))):=by
 intro pins s σ H xs us Q I r h
 obtain ⟨l,ks,rfl,e,h64,q⟩:=h
 exact gM hc pins s σ H _ us Q I r ⟨l,ks,rfl,.inr (.inr e),h64,q⟩
end
end MM
namespace L2
open PySem PySem.Spec PyProof.Rows
end L2
namespace L2
open PySem PySem.Spec PyProof.Rows
end L2
namespace MM
open PySem PySem.Spec PyProof.Rows L2
structure oD (K:PySem.W.Frag) (J:It) (xs:List PV) (V G:Hp):Prop where
 stop:∀ H',ag G H'->J.stop xs.length H'
 go:∀ (i:Nat) x H',ag G H'->xs[i]?=some x->J.go i H'
 yld:∀ (i:Nat) x H' u H2,ag G H'->xs[i]?=some x->J.yld i H' u H2->ag H' H2/\∀ O',(∀ a ∈ O',H' a ≠ none)->ag V (am H2 O')->Rep K (am H2 O') x u
theorem oD.weak {K:PySem.W.Frag}{J:It}{xs:List PV}{V G G':Hp} (h:oD K J xs V G) (s:ag G G'):oD K J xs V G' :=
 ⟨λH' s'=>h.stop H' (s.trans s'),λi x H' s'=>h.go i x H' (s.trans s'),λi x H' u H2 s'=>h.yld i x H' u H2 (s.trans s')⟩
noncomputable def aK (ms:List ME) (ρ:Rho) (σ:St):List Addr:=match ms with
 | [.bor i]=>(match (ρ[i]?).join,(σ[i]?).join with|some (.own _),some (.ref a)=>[a]|_,_=>[])
 | _=>[]
noncomputable def bp (B:Hp) (O:List Addr) (H:Hp) (L:List Addr):Hp:=λb=>if b ∈ O then (if b ∈ L then H b else B b) else H b
section
variable {K:PySem.W.Frag}{B H:Hp}{O L:List Addr}
theorem nw (s:ag B H):ag (bp B O H L) H:=λb u e=>by
 unfold bp at e
 split at e
 ·split at e
  ·exact e
  ·exact s b u e
 ·exact e
theorem eF (s:ag B H):ag B (bp B O H L):=λb u e=>by
 unfold bp
 split
 ·split
  ·exact s b u e
  ·exact e
 ·exact s b u e
theorem dl:ag (am H O) (bp B O H L):=λb u e=>by
 have hb:b ∉ O:=λz=>by rw [l_ z] at e;cases e
 unfold bp
 rw [if_neg hb]
 rw [bD hb] at e
 exact e
end
theorem jg {K:PySem.W.Frag}{V G:Hp}{a:Addr}{xs:List PV}{us:List L2.V} (h:SqL K G a us) (r:Reps K V xs us):oD K (Itl K a) xs V G where
 stop:=λH' s=>⟨us,s.seq h,Nat.le_of_eq r.length.symm⟩
 go:=λi x H' s e=>by
  obtain ⟨u,e1,_⟩:=r.get e
  exact ⟨us,u,s.seq h,e1⟩
 yld:=λi x H' u H2 s e y=>by
  obtain ⟨rfl,y⟩:=y
  obtain ⟨w,e1,q⟩:=r.get e
  have e2:=y us (s.seq h)
  rw [e1] at e2
  cases e2
  exact ⟨ag.refl _,λO' _ sv=>Rep.mono sv _ q⟩
theorem tG {K:PySem.W.Frag}{V G:Hp}{a:Addr}{xs:List PV}{us:List L2.V} (h:SqT K G a us) (r:Reps K V xs us):oD K (Itt K a) xs V G where
 stop:=λH' s=>⟨us,s.seqT h,Nat.le_of_eq r.length.symm⟩
 go:=λi x H' s e=>by
  obtain ⟨u,e1,_⟩:=r.get e
  exact ⟨us,u,s.seqT h,e1⟩
 yld:=λi x H' u H2 s e y=>by
  obtain ⟨rfl,y⟩:=y
  obtain ⟨w,e1,q⟩:=r.get e
  have e2:=y us (s.seqT h)
  rw [e1] at e2
  cases e2
  exact ⟨ag.refl _,λO' _ sv=>Rep.mono sv _ q⟩
theorem ny {K:PySem.W.Frag}{V G:Hp}{lo:Int}{n:Nat}:oD K (Itr lo n) ((List.range n).map λ(k:Nat)=>.int (lo + k)) V G where
 stop:=λH' s=>by simp [Itr]
 go:=λi x H' s e=>by
  have:=(List.getElem?_eq_some_iff.mp e).1
  simpa [Itr] using this
 yld:=λi x H' u H2 s e y=>by
  obtain ⟨rfl,rfl⟩:=y
  refine ⟨ag.refl _,λO' _ sv=>?_⟩
  have hi:i < n:=by have:=(List.getElem?_eq_some_iff.mp e).1;simpa using this
  rw [List.getElem?_map,List.getElem?_range hi] at e
  cases e
  rw [Rep]
noncomputable def tW (K:PySem.W.Frag) (cal:Cal) (k:Sk) (ms:List ME):TI:=λσ H R =>
 ∃ B O₀ O ρ vs xs,au K B O₀ O H ρ σ/\evs cal ms ρ=some vs/\dg k vs=some xs/\∀ J H1,ag H H1->oD K J xs (am H1 O) (bp B O H1 (aK ms ρ σ))->R J H1
section
variable {X:Cx}{cal:Cal}{tg:Expr}
theorem PI.or {e:Expr}{t u:TI} (h:PI X tg e t) (g:PI X tg e u):PI X tg e (λσ H R=>t σ H R \/ u σ H R):=λpins s σ H R I q=>q.elim (h pins s σ H R I) (g pins s σ H R I)
theorem mo:∀ {ms:List ME}{ρ:Rho}{vs:List PV},evs cal ms ρ=some vs->vs.length=ms.length
 | [],_,_,h=>by simp [evs] at h;subst h;rfl
 | m::ms,_,_,h=>by
  simp only [evs,Option.bind_eq_some_iff,Option.map_eq_some_iff] at h
  obtain ⟨v,_,w,e2,rfl⟩:=h
  simp [mo e2]
theorem we {m:ME}{ρ:Rho}{vs:List PV} (h:evs cal [m] ρ=some vs):∃ v,vs=[v]/\ev cal m ρ=some v:=by
 simp only [evs,Option.bind_eq_some_iff,Option.map_eq_some_iff] at h
 obtain ⟨v,e,w,e2,rfl⟩:=h
 cases e2
 exact ⟨v,rfl,e⟩
theorem wf {K:PySem.W.Frag}{F:Hp}{v:PV}{u:L2.V}{xs:List PV} (h:Rep K F v u) (e:aO v=some xs):∃ a us,u=.ref a/\Reps K F xs us/\((v=.lst xs/\SqL K F a us) \/ (v=.tup xs/\SqT K F a us)):=by
 cases v with
 | lst ys=>simp [aO] at e;subst e;rw [Rep] at h;obtain ⟨a,us,e,q,r⟩:=h;exact ⟨a,us,e,r,.inl ⟨rfl,q⟩⟩
 | tup ys=>simp [aO] at e;subst e;rw [Rep] at h;obtain ⟨a,us,e,q,r⟩:=h;exact ⟨a,us,e,r,.inr ⟨rfl,SqT.of q⟩⟩
 | _=>simp [aO] at e
theorem AE {m:ME}{e:Expr} (hb:av m=false) (h:PE X e (tE X.K cal m)):PI X tg e (tW X.K cal .seq [m]):=by
 refine (PI.or (oU h) (rR h)).imp λσ H R q=>?_
 obtain ⟨B,O₀,O,ρ,vs,xs,st,e1,e2,q⟩:=q
 obtain ⟨v,rfl,e3⟩:=we e1
 have e4:aO v=some xs:=e2
 have hl:aK [m] ρ σ=[]:=by cases m <;> first|rfl|cases hb
 rw [hl] at q
 cases v with
 | lst ys =>
  simp [aO] at e4;subst e4
  refine .inl ⟨B,O₀,O,ρ,_,st,e3,λu H' s g=>?_⟩
  have r:=g.2 hb
  rw [Rep] at r
  obtain ⟨a,us,rfl,sq,rs⟩:=r
  exact ⟨a,rfl,⟨us,(bA H' O).seq sq⟩,q _ _ s (jg (dl.seq sq) rs)⟩
 | tup ys =>
  simp [aO] at e4;subst e4
  refine .inr ⟨B,O₀,O,ρ,_,st,e3,λu H' s g=>?_⟩
  have r:=g.2 hb
  rw [Rep] at r
  obtain ⟨a,us,rfl,sq,rs⟩:=r
  exact ⟨a,rfl,⟨us,(bA H' O).seqT (SqT.of sq)⟩,q _ _ s (tG (dl.seqT (SqT.of sq)) rs)⟩
 | _=>simp [aO] at e4
theorem AF {i:Nat}{x:Str}{pos:Pos} (h:aT X.N X.env.scope i x=true):PI X tg (.Name x pos) (tW X.K cal .seq [.bor i]):=by
 refine (PI.or (oU (ci h)) (rR (ci h))).imp λσ H R q=>?_
 obtain ⟨B,O₀,O,ρ,vs,xs,st,e1,e2,q⟩:=q
 obtain ⟨v,rfl,e3⟩:=we e1
 have e4:aO v=some xs:=e2
 rw [ev] at e3
 cases hj:(ρ[i]?).join with
 | none=>rw [hj] at e3;cases e3
 | some m =>
  rw [hj] at e3
  obtain ⟨u,eu,so⟩:=bt st hj
  cases m with
  | val w =>
   simp only [be,Option.some.injEq] at e3
   subst e3
   have so':Rep X.K (am H O) w u:=so
   obtain ⟨a,us,rfl,rs,z⟩:=wf so' e4
   rcases z with ⟨rfl,sq⟩|⟨rfl,sq⟩
   ·exact .inl ⟨_,eu,a,rfl,⟨us,(bA H O).seq sq⟩,q _ _ (ag.refl H) (jg (dl.seq sq) rs)⟩
   ·exact .inr ⟨_,eu,a,rfl,⟨us,(bA H O).seqT sq⟩,q _ _ (ag.refl H) (tG (dl.seqT sq) rs)⟩
  | own ys =>
   simp only [be,Option.some.injEq] at e3
   subst e3
   simp [aO] at e4;subst e4
   obtain ⟨a,us,rfl,ha,rs,hO,_⟩:=so
   refine .inl ⟨_,eu,a,rfl,⟨us,SqL.of ha⟩,q _ _ (ag.refl H) (jg (SqL.of ?_) rs)⟩
   have hl:aK [.bor i] ρ σ=[a]:=by simp [aK,hj,eu]
   unfold bp
   rw [hl,if_pos hO,if_pos (by simp)]
   exact ha
  | brw ys =>
   simp only [be,Option.some.injEq] at e3
   subst e3
   simp [aO] at e4;subst e4
   obtain ⟨a,us,rfl,sq,rs⟩:=so
   exact .inl ⟨_,eu,a,rfl,⟨us,st.keep.seq sq⟩,q _ _ (ag.refl H) (jg ((eF st.keep).seq sq) rs)⟩
  | ownD ys =>
   simp only [be,Option.some.injEq] at e3
   subst e3
   simp [aO] at e4
  | mutD ys =>
   simp only [be,Option.some.injEq] at e3
   subst e3
   simp [aO] at e4
  | brwD ys =>
   simp only [be,Option.some.injEq] at e3
   subst e3
   simp [aO] at e4
theorem wg {T:Tab}{k:Nat}{ms:List ME}{args:List Expr}{f:Str}{p pos:Pos} (g:Gf X T k cal) (hf:f=("range":Str)) (hg:glB X.env.scope f=true) (ha:PA X args (tEs X.K cal ms)) (hn:args.length=1 \/ args.length=2) (hs:args.all aj=true) (hm:ms.length=args.length) :
  PI X tg (.Call (.Name f p) args [] pos) (tW X.K cal .rng ms):=by
 subst hf
 have star:∀ e,aj e=true->∀ es env,starEach (e::es) env=(false,eval e env)::starEach es env:=λe he es env=>by
  cases e <;> first|rfl|(simp [aj] at he)
 match args,hn with
 | [a],_ =>
  simp only [List.all_cons,List.all_nil,Bool.and_true] at hs
  refine (qa (eS hg) (g.blt "range" (by decide)) ha (by rw [star a hs];rfl)).imp λσ H R q=>?_
  obtain ⟨B,O₀,O,ρ,vs,xs,st,e1,e2,q⟩:=q
  refine ⟨B,O₀,O,ρ,vs,st,e1,λus H' s gs=>?_⟩
  match vs,e2,gs with
  | [.int j],e2,gs =>
   simp only [dg] at e2
   split at e2
   ·rename_i c
    cases e2
    obtain ⟨u,rfl,ru⟩:=p1 gs.1
    have e3:=ru.int
    subst e3
    exact ⟨j,rfl,c.1,c.2,q _ _ s ny⟩
   ·cases e2
  | [.int j,.int j'],e2,gs =>
   have:=mo e1
   simp at this hm
   omega
 | [a,b],_ =>
  simp only [List.all_cons,List.all_nil,Bool.and_true,Bool.and_eq_true] at hs
  refine (qb (eS hg) (g.blt "range" (by decide)) ha (by rw [star a hs.1,star b hs.2];rfl) (by rw [star b hs.2];rfl)).imp λσ H R q=>?_
  obtain ⟨B,O₀,O,ρ,vs,xs,st,e1,e2,q⟩:=q
  refine ⟨B,O₀,O,ρ,vs,st,e1,λus H' s gs=>?_⟩
  match vs,e2,gs with
  | [.int i,.int j],e2,gs =>
   simp only [dg] at e2
   split at e2
   ·rename_i c
    cases e2
    obtain ⟨u,u',rfl,ru,ru'⟩:=p2 gs.1
    have e3:=ru.int
    have e4:=ru'.int
    subst e3 e4
    exact ⟨i,j,rfl,c,q _ _ s ny⟩
   ·cases e2
  | [.int j],e2,gs =>
   have:=mo e1
   simp at this hm
   omega
end
end MM
namespace MM
open PySem PySem.Spec PyProof.Rows L2
noncomputable def tF (K:PySem.W.Frag) (cal:Cal) (me:ME):TE:=λσ H Q=>∃ B O₀ O ρ xs,au K B O₀ O H ρ σ/\ev cal me ρ=some (.lst xs) /\
 ∀ p us H',ag H H'->H p=none->H' p=some (.lst us)->Reps K (am H' (p::O)) xs us->Q (.ref p) H'
theorem g_ {H:Hp}{O:List Addr}{p:Addr}:ag (am H (p::O)) (am H O):=bi (ag.refl H) λb hb=>.inl (List.mem_cons_of_mem _ hb)
theorem hE {H:Hp}{O:List Addr}{p:Addr}{o:HO} (h:p ∈ O):am (upd H p o) O=am H O:=by
 funext b
 unfold am
 split
 ·rfl
 ·rename_i hb
  exact aH λz=>hb (by rw [z];exact h)
theorem pK {K:PySem.W.Frag}{H H':Hp}{O:List Addr}{me:ME}{xs:List PV}{p:Addr}{us:List V} (hO:∀ a ∈ O,H a ≠ none) (hp:H p=none) (e:H' p=some (.lst us)) (r:Reps K (am H' (p::O)) xs us):Got K H' O me (.lst xs) (.ref p):=by
 refine .of ?_
 rw [Rep]
 refine ⟨p,us,rfl,SqL.of ?_,Reps.mono g_ _ r⟩
 rw [bD λz=>hO p z hp]
 exact e
section
variable {X:Cx}{T:Tab}{k:Nat}{cal:Cal}
theorem eG {e:Expr}{me:ME} (hf:∀ ρ v,ev cal me ρ=some v->∃ xs,v=.lst xs) (h:PE X e (tF X.K cal me)):PE X e (tE X.K cal me):=by
 refine h.imp λσ H Q q=>?_
 obtain ⟨B,O₀,O,ρ,v,st,e1,q⟩:=q
 obtain ⟨xs,rfl⟩:=hf ρ v e1
 exact ⟨B,O₀,O,ρ,xs,st,e1,λp us H' s hp he r=>q _ _ s (pK st.here hp he r)⟩
theorem Gf.blk (g:Gf X T k cal) (x:Str) (fvs:List Str) (scope:Scope) (s₁:Shared) (H₁:Hp) (C:Addr) (fp:List Addr):Gf (X.blk x fvs scope s₁ H₁ C fp) T k cal:={ g with }
theorem lr {osc:Scope}{N:List Str}{scope:Scope}{x:Str}{fvs:List Str}{js:List Nat} (h:dF osc N scope x fvs js=true):l0 osc N scope x fvs js:=by
 unfold dF at h
 simp only [Bool.and_eq_true,beq_iff_eq,decide_eq_true_eq] at h
 obtain ⟨⟨⟨⟨⟨⟨⟨⟨h1,h2⟩,h3⟩,h4⟩,h5⟩,h6⟩,h7⟩,h8⟩,h9⟩:=h
 exact ⟨h1,h2,h3,h4,h5,h6,h7,h8,h9⟩
theorem yC {K:PySem.W.Frag}{B H H1 H2:Hp}{O₀ O:List Addr}{ρ:Rho}{σ σ':St}{js:List Nat}{D:Addr}{x:PV}{ux:V} (st:au K B O₀ O H ρ σ) (s1:ag H H1) (s2:ag H1 H2) (hD:H1 D=none) (hD2:H2 D ≠ none)
  (hσ:∀ z,σ'.set 0 z=(fR js σ).set 0 z) (hl:0 < σ'.length) (hx:Rep K (am H2 (D::O)) x ux):au K H1 [] (D::O) H2 (ce js ρ x) (σ'.set 0 (some ux)):=by
 have hv:ag (am H O) (am H2 (D::O)):=bi (s1.trans s2) λb hb=>by
  rcases List.mem_cons.mp hb with rfl|hb
  ·exact .inr (s1.free hD)
  ·exact .inl hb
 rw [hσ]
 have noown:∀ (i:Nat) (m:MV),gr m=true->(ce js ρ x)[i]? ≠ some (some m):=λi m hm e=>by
  unfold ce at e
  cases i with
  | zero =>
   simp at e
   subst e
   cases hm
  | succ i =>
   simp only [List.getElem?_cons_succ,List.getElem?_map,Option.map_eq_some_iff] at e
   obtain ⟨j,_,e⟩:=e
   cases hj:(ρ[j]?).join with
   | none=>rw [hj] at e;cases e
   | some mm =>
    rw [hj] at e
    cases mm <;> (simp only [dE,Option.some.injEq] at e;subst e;cases hm)
 refine ⟨s2,λa ha=>?_,λa ha=>by simp at ha,λa ha=>by simp at ha,?_,λi m e=>?_,λi j m m' a _ e _ hm=>absurd e (noown i m hm)⟩
 ·rcases List.mem_cons.mp ha with rfl|ha
  ·exact hD2
  ·exact λe=>st.here a ha ((s1.trans s2).free e)
 ·simp [ce,fR]
 ·cases i with
  | zero =>
   simp only [ce,List.getElem?_cons_zero,Option.some.injEq] at e
   subst e
   exact ⟨ux,by simp [fR],hx⟩
  | succ i =>
   simp only [ce,List.getElem?_cons_succ,List.getElem?_map,Option.map_eq_some_iff] at e
   obtain ⟨j,ej,e⟩:=e
   cases hj:(ρ[j]?).join with
   | none=>rw [hj] at e;cases e
   | some mm =>
    rw [hj] at e
    obtain ⟨u,eu,so⟩:=bt st hj
    have eσ:((fR js σ).set 0 (some ux))[i + 1]?=some (some u):=by
     simp [fR,ej,eu]
    refine ⟨u,eσ,?_⟩
    cases mm with
    | val w =>
     simp only [dE,Option.some.injEq] at e
     subst e
     exact Rep.mono hv _ so
    | own ys =>
     simp only [dE,Option.some.injEq] at e
     subst e
     obtain ⟨a,us,rfl,ha,rs,hO,_⟩:=so
     exact ⟨a,us,rfl,SqL.of (s1 _ _ ha),Reps.mono hv _ rs⟩
    | brw ys =>
     simp only [dE,Option.some.injEq] at e
     subst e
     obtain ⟨a,us,rfl,sq,rs⟩:=so
     exact ⟨a,us,rfl,(st.keep.trans s1).seq sq,Reps.mono hv _ rs⟩
    | ownD kvs =>
     simp only [dE,Option.some.injEq] at e
     subst e
     obtain ⟨a,rfl,ha,_⟩:=so
     exact ⟨a,rfl,.inl (s1 _ _ ha)⟩
    | mutD kvs =>
     simp only [dE,Option.some.injEq] at e
     subst e
     obtain ⟨a,rfl,ha,_⟩:=so
     exact ⟨a,rfl,.inl (s1 _ _ ha)⟩
    | brwD kvs =>
     simp only [dE,Option.some.injEq] at e
     subst e
     obtain ⟨a,rfl,ha⟩:=so
     exact ⟨a,rfl,ag.rd (st.keep.trans s1) ha⟩
theorem oE {k':Sk}{ms:List ME}{js:List Nat}{cond elt:ME}{e it:Expr}{x:Str}{px:Pos}{ifs:List Expr}{scope:Scope}{pos:Pos} (g:Gf X T k cal) (hsc:dF X.env.scope X.N scope x (bB X.N js) js=true)
  (hw:PI X (.Name x px) it (tW X.K cal k' ms)) (hns:gu it=true)
  (hc:∀ s₁ H₁ C fp,PF (X.blk x (bB X.N js) scope s₁ H₁ C fp) ifs (tT X.K cal cond)) (he:∀ s₁ H₁ C fp,PE (X.blk x (bB X.N js) scope s₁ H₁ C fp) e (tE X.K cal elt)) (hb:av elt=false) :
  PE X (.ListComp e [⟨.Name x px,it,ifs,0⟩] scope pos) (tF X.K cal (.comp k' ms js cond elt)):=by
 refine (vQ (lr hsc) g.calm hw hc he (by intro v;cases it <;> first|rfl|(simp [gu] at hns))).imp λσ H Q q=>?_
 exact comp_go hb q
where
 comp_go {k':Sk}{ms:List ME}{js:List Nat}{cond elt:ME}{K:PySem.W.Frag}{σ:St}{H:Hp}{Q:VK} (hb:av elt=false) (q:tF K cal (.comp k' ms js cond elt) σ H Q):sF (tW K cal k' ms) js (tT K cal cond) (tE K cal elt) σ H Q:=by
  obtain ⟨B,O₀,O,ρ,ws,st,e1,q⟩:=q
  rw [ev] at e1
  simp only [Option.bind_eq_some_iff] at e1
  obtain ⟨vs,e1,xs,e2,e3⟩:=e1
  split at e3
  ·rename_i hlen
   simp only [Option.map_eq_some_iff,PV.lst.injEq,exists_eq_right] at e3
   refine ⟨B,O₀,O,ρ,vs,xs,st,e1,e2,λJ H1 s1 it D hD=>?_⟩
   have hDO:D ∉ O:=λz=>aW s1 st.here D z hD
   have it1:=it.weak (nw (st.keep.trans s1))
   refine ⟨λi m σ' H'=>m=xs.length - i/\i <= xs.length/\ag H1 H'/\(∀ z,σ'.set 0 z=(fR js σ).set 0 z)/\0 < σ'.length/\∃ done rest ys,dh (λx=>(ev cal cond (ce js ρ x)).bind aC) (λx=>ev cal elt (ce js ρ x)) (xs.drop i)=some rest/\ws=done ++ rest/\done.length <= i/\H' D=some (.lst ys)/\Reps K (am H' (D::O)) done ys,⟨xs.length,by simp,Nat.zero_le _,ax hD _,λ_=>rfl,by simp [fR],[],ws,[],by simpa using e3,rfl,Nat.le_refl _,ar,.nil⟩,?_⟩
   rintro i m σ' H' ⟨rfl,hi,s2,hσ,hl,done,rest,ys,eg,ew,hdl,hDy,rs⟩
   by_cases hlt:i < xs.length
   ·right
    have ex:xs[i]?=some xs[i]:=List.getElem?_eq_getElem hlt
    refine ⟨it1.go i _ H' s2 ex,λσ2 H2=>∃ m',m' < xs.length - i/\(m'=xs.length - (i + 1)/\i + 1 <= xs.length/\ag H1 H2/\(∀ z,σ2.set 0 z=(fR js σ).set 0 z)/\0 < σ2.length/\∃ done rest ys,dh (λx=>(ev cal cond (ce js ρ x)).bind aC) (λx=>ev cal elt (ce js ρ x)) (xs.drop (i + 1))=some rest/\ws=done ++ rest/\done.length <= i + 1/\H2 D=some (.lst ys)/\Reps K (am H2 (D::O)) done ys),λσ2 H2 z=>z,λux H2 y=>?_⟩
    obtain ⟨s3,hr⟩:=it1.yld i _ H' ux H2 s2 ex y
    have sv:ag (am H1 O) (am H2 (D::O)):=bi (s2.trans s3) λb hb=>by
     rcases List.mem_cons.mp hb with rfl|hb
     ·exact .inr hD
     ·exact .inl hb
    have hx:=hr (D::O) (λa ha=>by
     rcases List.mem_cons.mp ha with rfl|ha
     ·rw [hDy];simp
     ·exact λz=>aW s1 st.here a ha (s2.free z)) sv
    have hD2:H2 D=some (.lst ys):=s3 _ _ hDy
    have stb:=yC (js:=js) (ρ:=ρ) st s1 (s2.trans s3) hD (by rw [hD2];simp) hσ hl hx
    rw [List.drop_eq_getElem_cons hlt,dh] at eg
    simp only [Option.bind_eq_some_iff] at eg
    obtain ⟨b,eb,eg⟩:=eg
    refine ⟨H1,[],D::O,_,b,stb,by simpa [evB,Option.bind_eq_some_iff] using eb,λH3 s4=>?_⟩
    have hσ2:∀ z,(σ'.set 0 (some ux)).set 0 z=(fR js σ).set 0 z:=λz=>by rw [List.set_set];exact hσ z
    have hl2:0 < (σ'.set 0 (some ux)).length:=by rw [List.length_set];exact hl
    cases b with
    | false =>
     rw [if_neg (by simp)] at eg
     dsimp only
     rw [if_neg (by simp)]
     refine ⟨_,by omega,rfl,hlt,(s2.trans s3).trans s4,hσ2,hl2,done,rest,ys,eg,ew,by omega,s4 _ _ hD2,Reps.mono ?_ _ rs⟩
     exact (aA s3).trans (aA s4)
    | true =>
     rw [if_pos rfl] at eg
     dsimp only
     rw [if_pos rfl]
     simp only [Option.bind_eq_some_iff,Option.map_eq_some_iff] at eg
     obtain ⟨y',ey,rest',eg,rfl⟩:=eg
     refine ⟨H1,[],D::O,_,y',stb.mono s4,ey,λuy H4 s5 gy=>?_⟩
     have hD4:H4 D=some (.lst ys):=s5 _ _ (s4 _ _ hD2)
     have ry:=gy.2 hb
     have rs4:Reps K (am H4 (D::O)) done ys:=Reps.mono (((aA s3).trans (aA s4)).trans (aA s5)) _ rs
     have hyl:ys.length <= 10000:=by rw [<- rs.length];omega
     refine ⟨ys,hD4,Nat.lt_of_le_of_lt hyl (by decide),_,by omega,rfl,hlt,?_,hσ2,hl2,done ++ [y'],rest',ys ++ [uy],eg,by simp [ew],by simp;omega,ar,?_⟩
     ·intro b u eb
      rw [aH (bC eb hD)]
      exact s5 _ _ (s4 _ _ ((s2.trans s3) _ _ eb))
     ·rw [hE (List.mem_cons_self)]
      exact rs4.snoc ry
   ·left
    have ei:i=xs.length:=by omega
    subst ei
    rw [List.drop_length,dh] at eg
    cases eg
    rw [List.append_nil] at ew
    subst ew
    exact ⟨it1.stop H' s2,q D ys H' (s1.trans s2) (s1.free hD) hDy rs⟩
  ·cases e3
end
end MM
namespace MM
open PySem PySem.Spec PyProof.Rows L2
section
variable {X:Cx}{T:Tab}{k:Nat}{cal:Cal}
theorem ba {e:Expr} (he:aj e=true) (es:List Expr) (env:Env):starEach (e::es) env=(false,eval e env)::starEach es env:=by
 cases e <;> first|rfl|(simp [aj] at he)
theorem bu {pos:Pos}{env:Env}:∀ {es:List Expr},es.all aj=true->(backTo pos (starEach es env)).any (·.1)=false
 | [],_=>rfl
 | e::es,h=>by
  simp only [List.all_cons,Bool.and_eq_true] at h
  rw [ba h.1]
  show (false || (backTo pos (starEach es env)).any (·.1))=false
  rw [bu h.2];rfl
theorem bj:∀ {ms:List ME}{N:List Str}{sc:Scope}{es:List Expr},chks T ms N sc es=true->es.all aj=true/\ms.length=es.length
 | [],_,_,[],_=>⟨rfl,rfl⟩
 | [],_,_,_::_,h=>by simp [chks] at h
 | _::_,_,_,[],h=>by simp [chks] at h
 | m::ms,N,sc,e::es,h=>by
  simp only [chks,Bool.and_eq_true] at h
  obtain ⟨h1,h2⟩:=bj h.2
  exact ⟨by simp [h.1.2,h1],by simp [h2]⟩
theorem bb {e:Expr}{me:ME} (h:PE X e (tE X.K cal me)) (hp:iD e=true):PT X e (tT X.K cal me):=by
 refine (rF h (by intro w;cases e <;> first|rfl|(simp [iD] at hp;done)|(rename_i op _ _;cases op <;> first|rfl|(simp [iD] at hp)))).imp λσ H Q q=>?_
 obtain ⟨B,O₀,O,ρ,b,st,e1,q⟩:=q
 simp only [evB,Option.bind_eq_some_iff] at e1
 obtain ⟨v,e1,e2⟩:=e1
 refine ⟨B,O₀,O,ρ,v,st,e1,λu H' s g=>?_⟩
 cases v <;> simp [aC] at e2
 subst e2
 exact ⟨_,g.1.bl,q H' s⟩
theorem tH {m:ME}{ms:List ME}{e:Expr}{es:List Expr} (h:PE X e (tE X.K cal m)) (hs:PA X es (tEs X.K cal ms)) (hn:aj e=true):PA X (e::es) (tEs X.K cal (m::ms)):=by
 refine (a_ h hs (ba hn es _)).imp λσ H Q q=>?_
 obtain ⟨B,O₀,O,ρ,vs,st,e1,q⟩:=q
 simp only [evs,Option.bind_eq_some_iff,Option.map_eq_some_iff] at e1
 obtain ⟨v,e1,ws,e2,rfl⟩:=e1
 refine ⟨B,O₀,O,ρ,v,st,e1,λu H1 s1 g1=>⟨B,O₀,O,ρ,ws,st.mono s1,e2,λus H2 s2 g2=>q (u::us) H2 (s1.trans s2) ⟨.cons (g1.1.mono s2) g2.1,λhb=>?_⟩⟩⟩
 simp only [List.all_cons,Bool.and_eq_true,Bool.not_eq_true'] at hb
 exact .cons ((g1.mono s2).2 hb.1) (g2.2 hb.2)
theorem wj:PA X [] (tEs X.K cal []):=by
 refine cG.imp λσ H Q q=>?_
 obtain ⟨B,O₀,O,ρ,vs,st,e1,q⟩:=q
 simp only [evs,Option.some.injEq] at e1
 subst e1
 exact q [] H (ag.refl H) ⟨.nil,λ_=>.nil⟩
theorem tI:PA X [] (tAs X.K cal []):=by
 refine cG.imp λσ H Q q=>?_
 obtain ⟨B,O₀,O,ρ,vs,st,e1,q⟩:=q
 simp only [evA,Option.some.injEq] at e1
 subst e1
 exact q [] H (ag.refl H) .nil
theorem tJ {K:PySem.W.Frag}{H H':Hp}{O:List Addr} (s:ag H H') {m:MV}{u:V} (h:iW K O H m u):iW K O H' m u:=by
 cases m with
 | val v=>exact Rep.mono (aA s) _ h
 | own _=>exact h
 | brw xs=>obtain ⟨a,us,e,q,r⟩:=h;exact ⟨a,us,e,s.seq q,Reps.mono (aA s) _ r⟩
 | ownD _=>exact h
 | mutD d=>exact h
 | brwD kvs=>obtain ⟨a,e,q⟩:=h;exact ⟨a,e,ag.rd s q⟩
theorem qH {m:ME}{ms:List ME}{e:Expr}{es:List Expr} (hb:av m=false) (h:PE X e (tE X.K cal m)) (hs:PA X es (tAs X.K cal ms)) (hn:aj e=true):PA X (e::es) (tAs X.K cal (m::ms)):=by
 refine (a_ h hs (ba hn es _)).imp λσ H Q q=>?_
 obtain ⟨B,O₀,O,ρ,vs,st,e1,q⟩:=q
 have e1':(ev cal m ρ).bind (λv=>(evA cal ms ρ).map (MV.val v::·))=some vs:=by
  rw [<- e1]
  cases m <;> first|(cases hb;done)|(simp only [evA];done)|rfl
 simp only [Option.bind_eq_some_iff,Option.map_eq_some_iff] at e1'
 obtain ⟨v,e9,ws,e2,rfl⟩:=e1'
 exact ⟨B,O₀,O,ρ,v,st,e9,λu H1 s1 g1=>⟨B,O₀,O,ρ,ws,st.mono s1,e2,λus H2 s2 g2=>q (u::us) H2 (s1.trans s2) (.cons ((g1.mono s2).2 hb) g2)⟩⟩
theorem tK {i:Nat}{ms:List ME}{x:Str}{pos:Pos}{es:List Expr} (h:aT X.N X.env.scope i x=true) (hs:PA X es (tAs X.K cal ms)):PA X (.Name x pos::es) (tAs X.K cal (.bor i::ms)):=by
 refine (a_ (ci h) hs rfl).imp λσ H Q q=>?_
 obtain ⟨B,O₀,O,ρ,vs,st,e1,q⟩:=q
 rw [evA] at e1
 simp only [Option.bind_eq_some_iff,Option.map_eq_some_iff] at e1
 obtain ⟨m',e1,ws,e2,rfl⟩:=e1
 cases hj:(ρ[i]?).join with
 | none=>rw [hj] at e1;cases e1
 | some m =>
  rw [hj] at e1
  obtain ⟨u,eu,so⟩:=bt st hj
  have ao:iW X.K O H m' u:=by
   cases m with
   | val w=>simp only [ez,Option.some.injEq] at e1;subst e1;exact so
   | own ys=>simp only [ez,Option.some.injEq] at e1;subst e1;obtain ⟨a,us,rfl,ha,rs,_⟩:=so;exact ⟨a,us,rfl,SqL.of ha,rs⟩
   | brw ys=>simp only [ez,Option.some.injEq] at e1;subst e1;obtain ⟨a,us,rfl,sq,rs⟩:=so;exact ⟨a,us,rfl,st.keep.seq sq,rs⟩
   | ownD kvs=>simp only [ez,Option.some.injEq] at e1;subst e1;obtain ⟨a,rfl,ha,_⟩:=so;exact ⟨a,rfl,.inl ha⟩
   | mutD kvs=>simp only [ez,Option.some.injEq] at e1;subst e1;obtain ⟨a,rfl,ha,_⟩:=so;exact ⟨a,rfl,.inl ha⟩
   | brwD kvs=>simp only [ez,Option.some.injEq] at e1;subst e1;obtain ⟨a,rfl,ha⟩:=so;exact ⟨a,rfl,ag.rd st.keep ha⟩
  exact ⟨u,eu,⟨B,O₀,O,ρ,ws,st,e2,λus H2 s2 g2=>q (u::us) H2 s2 (.cons (tJ s2 ao) g2)⟩⟩
theorem AG {op:Op2}{a b:ME}{l r:Expr}{pos:Pos} (ha:PE X l (tE X.K cal a)) (hb:PE X r (tE X.K cal b)):PE X (.BinOp l (vZ op) r pos) (tE X.K cal (.bin op a b)):=by
 refine (wU (yw op) ha hb).imp λσ H Q q=>?_
 obtain ⟨B,O₀,O,ρ,v,st,e1,q⟩:=q
 rw [ev] at e1
 simp only [Option.bind_eq_some_iff] at e1
 obtain ⟨x,e1,y,e2,e3⟩:=e1
 exact ⟨B,O₀,O,ρ,x,st,e1,λux H1 s1 g1=>⟨B,O₀,O,ρ,y,st.mono s1,e2,λuy H2 s2 g2=>⟨O,x,y,v,aW (s1.trans s2) st.here,g1.1.mono s2,g2.1,e3,λu H3 s3 r=>q u H3 ((s1.trans s2).trans s3) (.of r)⟩⟩⟩
theorem AH {a:ME}{e:Expr}{pos:Pos} (ha:PE X e (tE X.K cal a)):PE X (.UnaryOp .Not e pos) (tE X.K cal (.not a)):=by
 refine (xA ha).imp λσ H Q q=>?_
 obtain ⟨B,O₀,O,ρ,v,st,e1,q⟩:=q
 rw [ev] at e1
 simp only [Option.bind_eq_some_iff,Option.map_eq_some_iff] at e1
 obtain ⟨b,⟨x,e1,e2⟩,rfl⟩:=e1
 cases x <;> simp only [aC,Option.some.injEq,reduceCtorEq] at e2
 subst e2
 exact ⟨B,O₀,O,ρ,_,st,e1,λux H1 s1 g1=>⟨_,g1.1.bl,q _ H1 s1 (.of (cH _ _))⟩⟩
theorem AI {a:ME}{e:Expr}{pos:Pos} (ha:PT X e (tT X.K cal a)):PT X (.UnaryOp .Not e pos) (tT X.K cal (.not a)):=by
 refine (rH ha).imp λσ H Q q=>?_
 obtain ⟨B,O₀,O,ρ,b,st,e1,q⟩:=q
 simp only [evB,ev,Option.bind_eq_some_iff,Option.map_eq_some_iff] at e1
 obtain ⟨v,⟨c,⟨x,e1,e2⟩,rfl⟩,e3⟩:=e1
 simp only [aC,Option.some.injEq] at e3
 subst e3
 exact ⟨B,O₀,O,ρ,c,st,by simp [evB,e1,e2],λH' s=>q H' s⟩
theorem xg {a b:ME}{x y:Expr}{r:List Expr}{pos:Pos} (ha:PE X x (tE X.K cal a)) (hb:PE X (.BoolOp .And (y::r) pos) (tE X.K cal b)):PE X (.BoolOp .And (x::y::r) pos) (tE X.K cal (.and a b)):=by
 refine (xz ha hb).imp λσ H Q q=>?_
 obtain ⟨B,O₀,O,ρ,v,st,e1,q⟩:=q
 rw [ev] at e1
 simp only [Option.bind_eq_some_iff] at e1
 obtain ⟨c,⟨z,e1,e2⟩,e3⟩:=e1
 cases z <;> simp only [aC,Option.some.injEq,reduceCtorEq] at e2
 subst e2
 refine ⟨B,O₀,O,ρ,_,st,e1,λux H1 s1 g1=>⟨_,g1.1.bl,?_⟩⟩
 split at e3
 ·rename_i h
  rw [if_pos h]
  simp only [Option.bind_eq_some_iff,Option.map_eq_some_iff] at e3
  obtain ⟨z',e3,c',e4,rfl⟩:=e3
  cases z' <;> simp only [aC,Option.some.injEq,reduceCtorEq] at e4
  subst e4
  exact ⟨B,O₀,O,ρ,_,st.mono s1,e3,λu H2 s2 g2=>q u H2 (s1.trans s2) (by rw [g2.1.bl];exact .of (cH _ _))⟩
 ·rename_i h
  rw [if_neg h]
  cases e3
  exact q _ H1 s1 (.of (cH _ _))
theorem AJ {a b:ME}{x y:Expr}{r:List Expr}{pos:Pos} (ha:PE X x (tE X.K cal a)) (hb:PE X (.BoolOp .Or (y::r) pos) (tE X.K cal b)):PE X (.BoolOp .Or (x::y::r) pos) (tE X.K cal (.or a b)):=by
 refine (zV ha hb).imp λσ H Q q=>?_
 obtain ⟨B,O₀,O,ρ,v,st,e1,q⟩:=q
 rw [ev] at e1
 simp only [Option.bind_eq_some_iff] at e1
 obtain ⟨c,⟨z,e1,e2⟩,e3⟩:=e1
 cases z <;> simp only [aC,Option.some.injEq,reduceCtorEq] at e2
 subst e2
 refine ⟨B,O₀,O,ρ,_,st,e1,λux H1 s1 g1=>⟨_,g1.1.bl,?_⟩⟩
 split at e3
 ·rename_i h
  rw [if_pos h]
  cases e3
  exact q _ H1 s1 (.of (cH _ _))
 ·rename_i h
  rw [if_neg h]
  simp only [Option.bind_eq_some_iff,Option.map_eq_some_iff] at e3
  obtain ⟨z',e3,c',e4,rfl⟩:=e3
  cases z' <;> simp only [aC,Option.some.injEq,reduceCtorEq] at e4
  subst e4
  exact ⟨B,O₀,O,ρ,_,st.mono s1,e3,λu H2 s2 g2=>q u H2 (s1.trans s2) (by rw [g2.1.bl];exact .of (cH _ _))⟩
theorem xh {op:BoolOp}{vs:List Expr}{pos:Pos}{t:TT} (h:PT X (.BoolOp op vs pos) t):PW X (.BoolOp op vs pos) t:=λw pins s σ H Q I q=>by
 have:=h pins s σ H Q I q
 rw [show PySem.isTrue (.BoolOp op vs pos) X.env w=PySem.isTrue (.BoolOp op vs pos) X.env (eval (.BoolOp op vs pos) X.env) from rfl]
 exact this
theorem xi {a b:ME}{x y:Expr}{r:List Expr}{pos:Pos} (ha:PT X x (tT X.K cal a)) (hb:PW X (.BoolOp .And (y::r) pos) (tT X.K cal b)):PT X (.BoolOp .And (x::y::r) pos) (tT X.K cal (.and a b)):=by
 refine (xy ha hb).pt.imp λσ H Q q=>?_
 obtain ⟨B,O₀,O,ρ,v,st,e1,q⟩:=q
 simp only [evB,ev,Option.bind_eq_some_iff] at e1
 obtain ⟨w,⟨c,⟨z,e1,e2⟩,e3⟩,e4⟩:=e1
 refine ⟨B,O₀,O,ρ,c,st,by simp [evB,e1,e2],λH1 s1=>?_⟩
 split at e3
 ·rename_i h
  rw [if_pos h]
  simp only [Option.bind_eq_some_iff,Option.map_eq_some_iff] at e3
  obtain ⟨z',e3,c',e5,rfl⟩:=e3
  simp only [aC,Option.some.injEq] at e4
  subst e4
  exact ⟨B,O₀,O,ρ,_,st.mono s1,by simp [evB,e3,e5],λH2 s2=>q H2 (s1.trans s2)⟩
 ·rename_i h
  rw [if_neg h]
  cases e3
  cases e4
  exact q H1 s1
theorem AK {a b:ME}{x y:Expr}{r:List Expr}{pos:Pos} (ha:PT X x (tT X.K cal a)) (hb:PW X (.BoolOp .Or (y::r) pos) (tT X.K cal b)):PT X (.BoolOp .Or (x::y::r) pos) (tT X.K cal (.or a b)):=by
 refine (wT ha hb).pt.imp λσ H Q q=>?_
 obtain ⟨B,O₀,O,ρ,v,st,e1,q⟩:=q
 simp only [evB,ev,Option.bind_eq_some_iff] at e1
 obtain ⟨w,⟨c,⟨z,e1,e2⟩,e3⟩,e4⟩:=e1
 refine ⟨B,O₀,O,ρ,c,st,by simp [evB,e1,e2],λH1 s1=>?_⟩
 split at e3
 ·rename_i h
  rw [if_pos h]
  cases e3
  cases e4
  exact q H1 s1
 ·rename_i h
  rw [if_neg h]
  simp only [Option.bind_eq_some_iff,Option.map_eq_some_iff] at e3
  obtain ⟨z',e3,c',e5,rfl⟩:=e3
  simp only [aC,Option.some.injEq] at e4
  subst e4
  exact ⟨B,O₀,O,ρ,_,st.mono s1,by simp [evB,e3,e5],λH2 s2=>q H2 (s1.trans s2)⟩
theorem AL {c a b:ME}{t x y:Expr}{pos:Pos} (hc:PT X t (tT X.K cal c)) (ha:PE X x (tE X.K cal a)) (hb:PE X y (tE X.K cal b)) (na:av a=false) (nb:av b=false):PE X (.IfExp t x y pos) (tE X.K cal (.ite c a b)):=by
 refine (rK hc ha hb).imp λσ H Q q=>?_
 obtain ⟨B,O₀,O,ρ,v,st,e1,q⟩:=q
 rw [ev] at e1
 simp only [Option.bind_eq_some_iff] at e1
 obtain ⟨k',e1,e3⟩:=e1
 refine ⟨B,O₀,O,ρ,k',st,by simpa [evB,Option.bind_eq_some_iff] using e1,λH1 s1=>?_⟩
 split at e3
 ·rename_i h
  rw [if_pos h]
  exact ⟨B,O₀,O,ρ,v,st.mono s1,e3,λu H2 s2 g2=>q u H2 (s1.trans s2) (.of (g2.2 na))⟩
 ·rename_i h
  rw [if_neg h]
  exact ⟨B,O₀,O,ρ,v,st.mono s1,e3,λu H2 s2 g2=>q u H2 (s1.trans s2) (.of (g2.2 nb))⟩
theorem AM {c a b:ME}{t x y:Expr}{pos:Pos} (hc:PT X t (tT X.K cal c)) (ha:PT X x (tT X.K cal a)) (hb:PT X y (tT X.K cal b)):PT X (.IfExp t x y pos) (tT X.K cal (.ite c a b)):=by
 intro pins s σ H Q I q
 obtain ⟨B,O₀,O,ρ,v,st,e1,q⟩:=q
 simp only [evB,ev,Option.bind_eq_some_iff] at e1
 obtain ⟨w,⟨k',e1,e3⟩,e4⟩:=e1
 refine isTrue_IfExp (thn (hc pins s σ H (λb H1=>b=k'/\ag H H1) I ⟨B,O₀,O,ρ,k',st,by simpa [evB,Option.bind_eq_some_iff] using e1,λH1 s1=>⟨rfl,s1⟩⟩) λb s1 ⟨H1,I1,eb,hs⟩=>?_)
 subst eb
 split at e3
 ·rename_i h
  subst h
  exact ha pins s1 σ H1 Q I1 ⟨B,O₀,O,ρ,v,st.mono hs,by simp [evB,e3,e4],λH2 s2=>q H2 (hs.trans s2)⟩
 ·rename_i h
  have:b=false:=by cases b <;> simp at h ⊢
  subst this
  exact hb pins s1 σ H1 Q I1 ⟨B,O₀,O,ρ,v,st.mono hs,by simp [evB,e3,e4],λH2 s2=>q H2 (hs.trans s2)⟩
theorem AN {op:Cp}{a b:ME}{l r:Expr}{pos:Pos} (g:Gf X T k cal) (ha:PE X l (tE X.K cal a)) (hb:PE X r (tE X.K cal b)) (hm:behindInMarks (i7 op) r=false):PE X (.Compare l [i7 op] [r] pos) (tE X.K cal (.cmp op a b))/\PT X (.Compare l [i7 op] [r] pos) (tT X.K cal (.cmp op a b)):=by
 refine ⟨(vq (oB g.units op) ha hb hm).imp λσ H Q q=>?_,(oX (oB g.units op) ha hb hm).imp λσ H Q q=>?_⟩
 ·obtain ⟨B,O₀,O,ρ,v,st,e1,q⟩:=q
  rw [ev] at e1
  simp only [Option.bind_eq_some_iff,Option.map_eq_some_iff] at e1
  obtain ⟨x,e1,y,e2,c,e3,rfl⟩:=e1
  exact ⟨B,O₀,O,ρ,x,st,e1,λux H1 s1 g1=>⟨B,O₀,O,ρ,y,st.mono s1,e2,λuy H2 s2 g2=>⟨O,x,y,c,g1.1.mono s2,g2.1,e3,q _ H2 (s1.trans s2) (.of (cH _ _))⟩⟩⟩
 ·obtain ⟨B,O₀,O,ρ,v,st,e1,q⟩:=q
  simp only [evB,ev,Option.bind_eq_some_iff,Option.map_eq_some_iff] at e1
  obtain ⟨w,⟨x,e1,y,e2,c,e3,rfl⟩,e4⟩:=e1
  simp only [aC,Option.some.injEq] at e4
  subst e4
  exact ⟨B,O₀,O,ρ,x,st,e1,λux H1 s1 g1=>⟨B,O₀,O,ρ,y,st.mono s1,e2,λuy H2 s2 g2=>⟨O,x,y,c,g1.1.mono s2,g2.1,e3,_,rfl,q H2 (s1.trans s2)⟩⟩⟩
theorem AO {ms:List ME}{es:List Expr}{j:Nat}{pos:Pos} (h:PA X es (tEs X.K cal ms)) (hb:(ms.all λm=>!av m)=true):PE X (.Tuple es j pos) (tE X.K cal (.tup ms)):=by
 refine (xM h).imp λσ H Q q=>?_
 obtain ⟨B,O₀,O,ρ,v,st,e1,q⟩:=q
 rw [ev] at e1
 simp only [Option.bind_eq_some_iff] at e1
 obtain ⟨vs,e1,e2⟩:=e1
 split at e2
 ·rename_i hl
  cases e2
  refine ⟨B,O₀,O,ρ,vs,st,e1,λus H1 s1 g1=>⟨?_,λp hp=>?_⟩⟩
  ·rw [<- (g1.2 hb).length];exact eB hl
  ·exact q _ _ (s1.trans (ax hp _)) (.of (g6 (aW s1 st.here) hp (g1.2 hb)))
 ·cases e2
theorem xj {ms:List ME}{es:List Expr}{pos:Pos} (h:PA X es (tEs X.K cal ms)) (hb:(ms.all λm=>!av m)=true):PE X (.List es pos) (tF X.K cal (.lst ms)):=by
 refine (xN h).imp λσ H Q q=>?_
 obtain ⟨B,O₀,O,ρ,xs,st,e1,q⟩:=q
 rw [ev] at e1
 simp only [Option.bind_eq_some_iff] at e1
 obtain ⟨vs,e1,e2⟩:=e1
 split at e2
 ·rename_i hl
  cases e2
  refine ⟨B,O₀,O,ρ,xs,st,e1,λus H1 s1 g1=>⟨?_,λp hp=>?_⟩⟩
  ·rw [<- (g1.2 hb).length];exact eB hl
  ·refine q p us _ (s1.trans (ax hp _)) (s1.free hp) ar ?_
   rw [hE (List.mem_cons_self)]
   refine Reps.mono (bi (ag.refl H1) λb hb=>?_) _ (g1.2 hb)
   rcases List.mem_cons.mp hb with rfl|hb
   ·exact .inr hp
   ·exact .inl hb
 ·cases e2
theorem AQ {a i:ME}{v s:Expr}{pos:Pos} (ha:PE X v (tE X.K cal a)) (hi:PE X s (tE X.K cal i)) (hs:bw s=true):PE X (.Subscript v s pos) (tE X.K cal (.idx a i)):=by
 refine (Ai yy ha hi (oC hs)).imp λσ H Q q=>?_
 obtain ⟨B,O₀,O,ρ,v,st,e1,q⟩:=q
 rw [ev] at e1
 simp only [Option.bind_eq_some_iff] at e1
 obtain ⟨x,e1,y,e2,e3⟩:=e1
 exact ⟨B,O₀,O,ρ,x,st,e1,λux H1 s1 g1=>⟨B,O₀,O,ρ,y,st.mono s1,e2,λuy H2 s2 g2=>⟨O,x,y,v,aW (s1.trans s2) st.here,g1.1.mono s2,g2.1,e3,λu H3 s3 r=>q u H3 ((s1.trans s2).trans s3) (.of r)⟩⟩⟩
noncomputable def tB1 (K:PySem.W.Frag) (cal:Cal) (me:ME):TO:=λσ H Q=>∃ B O₀ O ρ o,au K B O₀ O H ρ σ/\((ev cal me ρ).bind λv=>bnd me v)=some o/\∀ H',ag H H'->Q o H'
theorem tL {m:ME} (h:dW m=true):PO X none (tB1 X.K cal m):=by
 have e:m=.cst .non:=by
  unfold dW at h
  split at h
  ·rfl
  ·cases h
 subst e
 intro pins s σ H Q I q
 obtain ⟨B,O₀,O,ρ,o,st,e1,q⟩:=q
 simp only [ev,Option.bind_some,bnd,Option.some.injEq] at e1
 subst e1
 exact vt pins s σ H Q I (q H (ag.refl H))
theorem tM {m:ME}{l:Expr} (h:PE X l (tE X.K cal m)) (hn:dW m=false):PO X (some l) (tB1 X.K cal m):=by
 intro pins s σ H Q I q
 obtain ⟨B,O₀,O,ρ,o,st,e1,q⟩:=q
 simp only [Option.bind_eq_some_iff] at e1
 obtain ⟨v,e1,e2⟩:=e1
 obtain ⟨i,rfl,rfl⟩:∃ i,v=.int i/\o=some i:=by
  unfold bnd at e2
  split at e2
  ·simp [dW] at hn
  ·cases e2;exact ⟨_,rfl,rfl⟩
  ·cases e2
 exact vv h pins s σ H Q I ⟨B,O₀,O,ρ,_,st,e1,λu H' s' g=>⟨i,g.1.int,q H' s'⟩⟩
theorem wk {a lo hi:ME}{v:Expr}{l u:Option Expr}{p2 pos:Pos} (ha:PE X v (tE X.K cal a)) (hl:PO X l (tB1 X.K cal lo)) (hu:PO X u (tB1 X.K cal hi)):PE X (.Subscript v (.Slice l u none p2) pos) (tE X.K cal (.slice a lo hi)):=by
 refine (r6 yz ha hl hu).imp λσ H Q q=>?_
 obtain ⟨B,O₀,O,ρ,w,st,e1,q⟩:=q
 rw [ev,Option.bind_eq_some_iff] at e1
 obtain ⟨x,e1,e2⟩:=e1
 rw [Option.bind_eq_some_iff] at e2
 obtain ⟨lo',e2,e3⟩:=e2
 rw [Option.bind_eq_some_iff] at e3
 obtain ⟨hi',e3,e4⟩:=e3
 exact ⟨B,O₀,O,ρ,x,st,e1,λux H1 s1 g1=>⟨B,O₀,O,ρ,lo',st.mono s1,e2,λH2 s2=>⟨B,O₀,O,ρ,hi',(st.mono s1).mono s2,e3,λH3 s3 =>
  ⟨O,x,w,aW ((s1.trans s2).trans s3) st.here,g1.1.mono (s2.trans s3),e4,λu H4 s4 r=>q u H4 (((s1.trans s2).trans s3).trans s4) (.of r)⟩⟩⟩⟩
theorem tN {f:Blt}{ms:List ME}{x:Str}{e:Expr}{es:List Expr}{p pos:Pos}{id:String} (hc:bn X (.builtin id) (RBM X.K (aq f))) (hg:glB X.env.scope x=true) (hm:X.mg x=none) (hv:bootBuiltins x=some (.builtin id)) (hn:x ≠ "__name__") (hd:(x == ("__debug__":Str))=false)
  (ha:PA X (e::es) (tEs X.K cal ms)) (hs:(e::es).all aj=true):PE X (.Call (.Name x p) (e::es) [] pos) (tE X.K cal (.blt f ms)):=by
 simp only [List.all_cons,Bool.and_eq_true] at hs
 refine (fm hc (eS hg) hm hv ha hn hd (ba hs.1 es _) (bu hs.2)).imp λσ H Q q=>?_
 obtain ⟨B,O₀,O,ρ,v,st,e1,q⟩:=q
 rw [ev,Option.bind_eq_some_iff] at e1
 obtain ⟨vs,e1,e2⟩:=e1
 exact ⟨B,O₀,O,ρ,vs,st,e1,λus H1 s1 g1=>⟨O,vs,v,aW s1 st.here,g1.1,e2,λu H2 s2 r=>q u H2 (s1.trans s2) (.of r)⟩⟩
theorem yD {f:Blt}{ms:List ME}{x:Str}{e:Expr}{es:List Expr}{p pos:Pos}{id:String} (hc:bn X (.type id) (RBM X.K (aq f))) (hg:glB X.env.scope x=true) (hm:X.mg x=none) (hv:bootBuiltins x=some (.type id)) (hn:x ≠ "__name__") (hd:(x == ("__debug__":Str))=false)
  (ha:PA X (e::es) (tEs X.K cal ms)) (hs:(e::es).all aj=true):PE X (.Call (.Name x p) (e::es) [] pos) (tE X.K cal (.blt f ms)):=by
 simp only [List.all_cons,Bool.and_eq_true] at hs
 refine (d5 hc (eS hg) hm hv ha hn hd (ba hs.1 es _) (bu hs.2)).imp λσ H Q q=>?_
 obtain ⟨B,O₀,O,ρ,v,st,e1,q⟩:=q
 rw [ev,Option.bind_eq_some_iff] at e1
 obtain ⟨vs,e1,e2⟩:=e1
 exact ⟨B,O₀,O,ρ,vs,st,e1,λus H1 s1 g1=>⟨O,vs,v,aW s1 st.here,g1.1,e2,λu H2 s2 r=>q u H2 (s1.trans s2) (.of r)⟩⟩
theorem lu {f:Blt}{ms:List ME}{σ:St}{H:Hp}{Q:VK}{K:PySem.W.Frag} (q:tF K cal (.blt f ms) σ H Q):tCB (RBF K (aq f)) (tEs K cal ms) σ H Q:=by
 obtain ⟨B,O₀,O,ρ,xs,st,e1,q⟩:=q
 rw [ev,Option.bind_eq_some_iff] at e1
 obtain ⟨vs,e1,e2⟩:=e1
 refine ⟨B,O₀,O,ρ,vs,st,e1,λus H1 s1 g1=>⟨O,vs,xs,aW s1 st.here,g1.1,e2,λl ws hl r=>q l ws _ (s1.trans (ax hl _)) (s1.free hl) ar ?_⟩⟩
 rw [hE (List.mem_cons_self)]
 refine Reps.mono (bi (ag.refl H1) λb hb=>?_) _ r
 rcases List.mem_cons.mp hb with rfl|hb
 ·exact .inr hl
 ·exact .inl hb
theorem yE {f:Blt}{ms:List ME}{x:Str}{e:Expr}{es:List Expr}{p pos:Pos}{id:String} (hc:bn X (.builtin id) (RBF X.K (aq f))) (hg:glB X.env.scope x=true) (hm:X.mg x=none) (hv:bootBuiltins x=some (.builtin id)) (hn:x ≠ "__name__") (hd:(x == ("__debug__":Str))=false)
  (ha:PA X (e::es) (tEs X.K cal ms)) (hs:(e::es).all aj=true):PE X (.Call (.Name x p) (e::es) [] pos) (tF X.K cal (.blt f ms)):=by
 simp only [List.all_cons,Bool.and_eq_true] at hs
 exact (fm hc (eS hg) hm hv ha hn hd (ba hs.1 es _) (bu hs.2)).imp λσ H Q q=>lu q
theorem wl {f:Blt}{ms:List ME}{x:Str}{e:Expr}{es:List Expr}{p pos:Pos}{id:String} (hc:bn X (.type id) (RBF X.K (aq f))) (hg:glB X.env.scope x=true) (hm:X.mg x=none) (hv:bootBuiltins x=some (.type id)) (hn:x ≠ "__name__") (hd:(x == ("__debug__":Str))=false)
  (ha:PA X (e::es) (tEs X.K cal ms)) (hs:(e::es).all aj=true):PE X (.Call (.Name x p) (e::es) [] pos) (tF X.K cal (.blt f ms)):=by
 simp only [List.all_cons,Bool.and_eq_true] at hs
 exact (d5 hc (eS hg) hm hv ha hn hd (ba hs.1 es _) (bu hs.2)).imp λσ H Q q=>lu q
theorem yF {f:Nat}{ms:List ME}{x:Str}{es:List Expr}{p pos:Pos} (g:Gf X T k cal) (hf:T.fs[f]?=some x) (hg:glB X.env.scope x=true) (hn:ah x=true) (ha:PA X es (tAs X.K cal ms)) (hs:es.all aj=true) (hl:ms.length=es.length):PE X (.Call (.Name x p) es [] pos) (tE X.K cal (.call f ms)):=by
 obtain ⟨fa,fd,ps,h1,h2,h3,F,_⟩:=g.fns f x hf
 have key:∀ σ H Q,tE X.K cal (.call f ms) σ H Q->rT (spM X.K cal f) [] E0 (tAs X.K cal ms) σ H Q:=λσ H Q q=>by
  obtain ⟨B,O₀,O,ρ,v,st,e1,q⟩:=q
  rw [ev,Option.bind_eq_some_iff] at e1
  obtain ⟨vs,e1,e2⟩:=e1
  refine ⟨B,O₀,O,ρ,vs,st,e1,λus H1 s1 g1=>⟨O,vs,v,aW s1 st.here,?_,e2,λu H2 s2 r=>q u H2 (s1.trans s2) (.of r)⟩⟩
  rw [List.append_nil]
  exact g1
 cases es with
 | nil =>
  refine (rV F g.room (eS hg) h1 h2 h3 .nil mV (eQ hn).1).imp λσ H Q q=>?_
  obtain ⟨B,O₀,O,ρ,vs,st,e1,q⟩:=key σ H Q q
  cases ms with
  | nil =>
   simp only [evA,Option.some.injEq] at e1
   subst e1
   exact q [] H (ag.refl H) .nil
  | cons m ms=>simp at hl
 | cons e es =>
  simp only [List.all_cons,Bool.and_eq_true] at hs
  exact (i9 F g.room (eS hg) h1 h2 h3 .nil mV ha (eQ hn).1 (ba hs.1 es _) (bu hs.2)).imp key
end
end MM
namespace MM
open PySem PySem.Spec PyProof.Rows L2
section
variable {K:PySem.W.Frag}{H:Hp}{O:List Addr}
theorem tO (kvs:List (Int × Sc)) (i:Int):d7 (fA kvs) (Sum.inl i:Key)=(aZ kvs i).map Sc.v:=by
 unfold d7 fA aZ
 rw [List.find?_map,Option.map_map,Option.map_map]
 have e:((λkv:Key × V=>decide (kv.1=(Sum.inl i:Key))) ∘ λp:Int × Sc=>((Sum.inl p.1:Key),p.2.v))=λp:Int × Sc=>decide (p.1=i):=by
  funext p
  simp
 rw [e]
 rfl
theorem tP (kvs:List (List Int × Sc)) (k:List Int):d7 (gR kvs) (k.map Sum.inl)=(aZ kvs k).map Sc.v:=by
 unfold d7 gR aZ
 rw [List.find?_map,Option.map_map,Option.map_map]
 have e:((λkv:List Key × V=>decide (kv.1=k.map Sum.inl)) ∘ λp:List Int × Sc=>((p.1.map Sum.inl:List Key),p.2.v))=λp:List Int × Sc=>decide (p.1=k):=by
  funext p
  exact decide_eq_decide.mpr ⟨jd,λe=>congrArg (List.map Sum.inl) e⟩
 rw [e]
 rfl
theorem wm (ns:List Int):(ns.map Sum.inl:List Key).map kV=ns.map V.int:=by
 rw [List.map_map]
 rfl
theorem pL {xs:List PV}{ns:List Int}{u:V} (e:aN xs=some ns) (r:aQ K H O (.tup xs) u):∃ b,u=.ref b/\H b=some (.tup ((ns.map Sum.inl:List Key).map kV)):=by
 have e1:=fB e
 subst e1
 obtain ⟨b,us,rfl,h,t⟩:=r.tupH
 have e2:=t.ints
 subst e2
 exact ⟨b,rfl,by rw [wm];exact h⟩
theorem tQ (kvs:List ((List (List Int) × Str) × Sc)) (k:List (List Int) × Str):d7 (gS kvs) k=(aZ kvs k).map Sc.v:=by
 unfold d7 gS aZ
 rw [List.find?_map,Option.map_map,Option.map_map]
 rfl
theorem nz:∀ {R:List (List Int)}{us:List V},Reps K (am H O) (R.map λt=>.tup (t.map .int)) us->∃ bs,us=bs.map V.ref/\lH H R bs
 | [],us,r=>by
  rw [List.map_nil,Reps] at r
  exact ⟨[],r,.nil⟩
 | k::R,us,r=>by
  rw [List.map_cons,Reps] at r
  obtain ⟨u,us',rfl,r1,r2⟩:=r
  rw [Rep] at r1
  obtain ⟨b,ws,rfl,h,t⟩:=r1
  have e2:=t.ints
  subst e2
  obtain ⟨bs,rfl,n⟩:=nz r2
  exact ⟨b::bs,rfl,.cons (bA H O b _ h) n⟩
theorem nA {xs:List PV}{R:List (List Int)}{t:Str}{u:V} (e:cE xs=some R) (r:aQ K H O (.tup [.tup xs,.str t]) u):∃ b,u=.ref b/\NAt H (R,t) b:=by
 have e1:=jO e
 subst e1
 obtain ⟨b,us,rfl,h,q⟩:=r.tupH
 rw [Reps] at q
 obtain ⟨u1,r1,rfl,q1,q2⟩:=q
 rw [Reps] at q2
 obtain ⟨u2,r2,rfl,q3,q4⟩:=q2
 rw [Reps] at q4
 subst q4
 have q3':u2=V.str t:=by simpa only [Rep] using q3
 subst q3'
 rw [Rep] at q1
 obtain ⟨c,ws,rfl,g,q5⟩:=q1
 obtain ⟨bs,rfl,n⟩:=nz q5
 exact ⟨b,rfl,c,bs,h,bA H O c _ g,n⟩
theorem tR (kvs:List ((List (List Int) × Str) × Sc)) (k:List (List Int) × Str) (s:Sc):dw (gS kvs) k s.v=gS (bo kvs k s):=by
 have e1:((gS kvs).any λkv=>decide (kv.1=k))=kvs.any λp=>decide (p.1=k):=by
  unfold gS
  rw [List.any_map]
  rfl
 unfold dw bo
 rw [e1]
 split
 ·unfold gS
  rw [List.map_map,List.map_map]
  refine List.map_congr_left λp _=>?_
  by_cases h:p.1=k <;> simp [h]
 ·unfold gS
  rw [List.map_append]
  rfl
theorem pM {y:PV}{k:List (List Int) × Str} (e:fY y=some k):∃ xs,y=.tup [.tup xs,.str k.2]/\cE xs=some k.1:=by
 unfold fY at e
 split at e
 ·obtain ⟨R,e1,e2⟩:=Option.map_eq_some_iff.mp e
  subst e2
  exact ⟨_,rfl,e1⟩
 ·cases e
theorem mq {d:DD}{y:PV}{o:Option Sc}{a:Addr}{u:V} (e:qA (.dI d) y=some o) (ha:Rd H a (cQ d)) (r:aQ K H O y u):n9 H a u (o.map Sc.v):=by
 cases d with
 | n kvs =>
  obtain ⟨k,e0,e2⟩:=Option.map_eq_some_iff.mp (show (fY y).map (aZ kvs)=some o from e)
  obtain ⟨xs,rfl,e1⟩:=pM e0
  obtain ⟨b,rfl,hb⟩:=nA e1 r
  rw [<- e2,<- tQ]
  exact .inr ⟨_,_,b,ha,rfl,hb,rfl⟩
 | k kvs =>
  cases y <;> try (cases e;done)
  rename_i i
  have e1:=r.int
  subst e1
  have e2:aZ kvs i=o:=Option.some.inj e
  rw [<- e2,<- tO]
  left
  exact .inl ⟨_,Sum.inl i,ha,rfl,rfl⟩
 | t kvs =>
  cases y <;> try (cases e;done)
  rename_i xs
  have e:(aN xs).map (aZ kvs)=some o:=e
  rw [Option.map_eq_some_iff] at e
  obtain ⟨ns,e1,e2⟩:=e
  obtain ⟨b,rfl,hb⟩:=pL e1 r
  rw [<- e2,<- tP]
  left
  exact .inr ⟨_,_,b,ha,rfl,hb,rfl⟩
theorem tU (kvs:List (Int × Sc)) (k:Int) (s:Sc):dw (fA kvs) (Sum.inl k:Key) s.v=fA (bo kvs k s):=by
 have e1:((fA kvs).any λkv=>decide (kv.1=(Sum.inl k:Key)))=kvs.any λp=>decide (p.1=k):=by
  unfold fA
  rw [List.any_map]
  congr 1
  funext p
  simp
 unfold dw bo
 rw [e1]
 split
 ·unfold fA
  rw [List.map_map,List.map_map]
  refine List.map_congr_left λp _=>?_
  by_cases h:p.1=k <;> simp [h]
 ·unfold fA
  rw [List.map_append]
  rfl
theorem tV (kvs:List (List Int × Sc)) (k:List Int) (s:Sc):dw (gR kvs) (k.map Sum.inl:List Key) s.v=gR (bo kvs k s):=by
 have ee:∀ q:List Int,((q.map Sum.inl:List Key)=k.map Sum.inl) ↔ q=k:=λq=>⟨jd,λe=>by rw [e]⟩
 have e1:((gR kvs).any λkv=>decide (kv.1=(k.map Sum.inl:List Key)))=kvs.any λp=>decide (p.1=k):=by
  unfold gR
  rw [List.any_map]
  congr 1
  funext p
  exact decide_eq_decide.mpr (ee p.1)
 unfold dw bo
 rw [e1]
 split
 ·unfold gR
  rw [List.map_map,List.map_map]
  refine List.map_congr_left λp _=>?_
  by_cases h:p.1=k
  ·have h2:=(ee p.1).mpr h
   simp [h]
  ·have h2:¬ (p.1.map Sum.inl:List Key)=k.map Sum.inl:=λz=>h ((ee p.1).mp z)
   simp [h,h2]
 ·unfold gR
  rw [List.map_append]
  rfl
theorem pN {d d':DD}{y:PV}{s:Sc}{a:Addr}{u:V} (e:l8 d y s=some d') (ha:H a=some (cQ d)) (r:aQ K H O y u):x0 H a u s.v (upd H a (cQ d')):=by
 cases d with
 | n kvs =>
  obtain ⟨k,e0,e2⟩:=Option.bind_eq_some_iff.mp (show ((fY y).bind λk=>if kvs.length < 10000 then some (DD.n (bo kvs k s)) else none)=some d' from e)
  obtain ⟨xs,rfl,e1⟩:=pM e0
  obtain ⟨b,rfl,hb⟩:=nA e1 r
  split at e2
  ·rename_i hl
   cases e2
   show x0 H a (.ref b) s.v (upd H a (.dN (gS (bo kvs k s))))
   rw [<- tR]
   exact .inr ⟨_,_,b,ha,rfl,hb,by unfold gS;rw [List.length_map,sizeLine_eq];omega,rfl⟩
  ·cases e2
 | k kvs =>
  cases y <;> try (cases e;done)
  rename_i i
  have e1:=r.int
  subst e1
  have e2:(if kvs.length < 10000 then some (DD.k (bo kvs i s)) else none)=some d':=e
  split at e2
  ·rename_i hl
   cases e2
   left
   show kx H a (.int i) s.v (upd H a (.dK (fA (bo kvs i s))))
   rw [<- tU]
   exact kx.k (k:=Sum.inl i) ha (by unfold fA;rw [List.length_map,sizeLine_eq];omega)
  ·cases e2
 | t kvs =>
  cases y <;> try (cases e;done)
  rename_i xs
  have e:((aN xs).bind λk=>if kvs.length < 10000 then some (DD.t (bo kvs k s)) else none)=some d':=e
  rw [Option.bind_eq_some_iff] at e
  obtain ⟨ns,e1,e2⟩:=e
  obtain ⟨b,rfl,hb⟩:=pL e1 r
  split at e2
  ·rename_i hl
   cases e2
   left
   show kx H a (.ref b) s.v (upd H a (.dT (gR (bo kvs ns s))))
   rw [<- tV]
   exact kx.t ha hb (by unfold gR;rw [List.length_map,sizeLine_eq];omega)
  ·cases e2
end
section
variable {X:Cx}{pins:List (Addr × Obj)}{σ:St}{H:Hp}{s:Shared}
end
section
variable {X:Cx}{T:Tab}{k:Nat}{cal:Cal}
end
end MM
namespace MM
open PySem PySem.Spec PyProof.Rows L2
theorem tX:bootBuiltins "len"=some (.builtin "len"):=by decide +kernel
theorem nB:bootBuiltins "tuple"=some (.type "tuple"):=by decide +kernel
theorem wn:bootBuiltins "list"=some (.type "list"):=by decide +kernel
theorem lv:bootBuiltins "sorted"=some (.builtin "sorted"):=by decide +kernel
theorem yG:bootBuiltins "any"=some (.builtin "any"):=by decide +kernel
theorem yH:bootBuiltins "all"=some (.builtin "all"):=by decide +kernel
theorem yI:bootBuiltins "int"=some (.type "int"):=by decide +kernel
theorem wo:bootBuiltins "bool"=some (.type "bool"):=by decide +kernel
theorem oF:bootBuiltins "set"=some (.type "set"):=by decide +kernel
theorem kI:bootBuiltins "isinstance"=some (.builtin "isinstance"):=by decide +kernel
section
variable {X:Cx}{T:Tab}{k:Nat}{cal:Cal}
theorem yJ {f:Blt}{c:String}{m:ME}{e:Expr}{t:Str}{p p2 pos:Pos} (g:Gf X T k cal) (hf:bM f=some c) (hg:glB X.env.scope "isinstance"=true) (ht:t=(c:Str)) (hgt:glB X.env.scope t=true)
  (hbt:bootBuiltins c=some (.type c)) (hmt:X.mg c=none) (hn:(c:Str) ≠ "__name__") (hd:((c:Str) == ("__debug__":Str))=false) (h:PE X e (tE X.K cal m)) (hs:aj e=true):PE X (.Call (.Name "isinstance" p) [e,.Name t p2] [] pos) (tE X.K cal (.blt f [m])):=by
 subst ht
 refine (fm (yB hf) (eS hg) (g.blt "isinstance" (by decide)) kI (a_ h (a_ (vi (v:=.ty c) (eS hgt) hmt hbt rfl hn hd) cG rfl) (ba hs _ _)) (by decide) (by decide) (ba hs _ _) rfl).imp λσ H Q q=>?_
 obtain ⟨B,O₀,O,ρ,v,st,e1,q⟩:=q
 rw [ev,Option.bind_eq_some_iff] at e1
 obtain ⟨vs,e1,e2⟩:=e1
 obtain ⟨w,rfl,e3⟩:=we e1
 have e5:isD w=false/\v=.bl (isT f w):=by
  cases hd:isD w with
  | true=>cases f <;> simp only [bM,reduceCtorEq] at hf <;> (simp only [aq,bL,gq,fS,fz,hd] at e2;cases e2)
  | false=>cases f <;> simp only [bM,reduceCtorEq] at hf <;> (simp only [aq,bL,gq,fS,fz,hd,Bool.false_eq_true,if_false,Option.some.injEq] at e2;exact ⟨rfl,e2.symm⟩)
 obtain ⟨e5,rfl⟩:=e5
 refine ⟨B,O₀,O,ρ,w,st,e3,λu H1 s1 g1=>⟨O,w,u,rfl,e5,g1.1,q _ H1 s1 (.of (cH _ _))⟩⟩
theorem nD {m:ME}{e:Expr}{x y:Str}{p p2 pos pos2:Pos} (g:Gf X T k cal) (hx:x=("sorted":Str)) (hy:y=("set":Str)) (hg:glB X.env.scope x=true) (hg2:glB X.env.scope y=true) (h:PE X e (tE X.K cal m)) (hs:aj e=true):PE X (.Call (.Name x p) [.Call (.Name y p2) [e] [] pos2] [] pos) (tF X.K cal (.blt .sortedSet [m])):=by
 subst hx hy
 refine (fm (nv g.calm) (eS hg) (g.blt "sorted" (by decide)) lv (a_ (d5 (tD g.calm) (eS hg2) (g.blt "set" (by decide)) oF (a_ h cG (ba hs _ _)) (by decide) (by decide) (ba hs _ _) rfl) cG rfl) (by decide) (by decide) rfl rfl).imp λσ H Q q=>?_
 obtain ⟨B,O₀,O,ρ,xs,st,e1,q⟩:=q
 rw [ev,Option.bind_eq_some_iff] at e1
 obtain ⟨vs,e1,e2⟩:=e1
 obtain ⟨w,rfl,e3⟩:=we e1
 simp only [aq,bL,gq,fS,fz,Option.bind_eq_some_iff] at e2
 obtain ⟨ys,e4,ns,e5,e6⟩:=e2
 split at e6
 ·rename_i hc
  cases e6
  refine ⟨B,O₀,O,ρ,w,st,e3,λu H1 s1 g1=>⟨O,w,u,ns,rfl,g1.1,by simp [e4,e5],hc.1,λl hl=>⟨l,_,rfl,ar,?_,λp' hp'=>?_⟩⟩⟩
  ·rw [tw];exact hc.2
  ·rw [wc]
   refine q p' _ _ ((s1.trans (ax hl _)).trans (ax hp' _)) (s1.free ((ax hl _).free hp')) ar (.of_ints _)
 ·cases e6
theorem nE {m1 m2:ME}{a b:Expr}{x y z:Str}{p p2 p3 q2 q3 q4 pos:Pos} (g:Gf X T k cal) (hx:x=("len":Str)) (hy:y=("set":Str)) (hz:z=("set":Str)) (hg:glB X.env.scope x=true) (hg2:glB X.env.scope y=true) (hg3:glB X.env.scope z=true) (ha:PE X a (tE X.K cal m1)) (hb:PE X b (tE X.K cal m2)) (hsa:aj a=true) (hsb:aj b=true) :
  PE X (.Call (.Name x p) [.BinOp (.Call (.Name y p2) [a] [] q2) .Sub (.Call (.Name z p3) [b] [] q3) q4] [] pos) (tE X.K cal (.blt .lenSetSub [m1,m2])):=by
 subst hx hy hz
 refine (fm nc (eS hg) (g.blt "len" (by decide)) tX (a_ (wU qz (d5 (tD g.calm) (eS hg2) (g.blt "set" (by decide)) oF (a_ ha cG (ba hsa _ _)) (by decide) (by decide) (ba hsa _ _) rfl) (d5 (tD g.calm) (eS hg3) (g.blt "set" (by decide)) oF (a_ hb cG (ba hsb _ _)) (by decide) (by decide) (ba hsb _ _) rfl)) cG rfl) (by decide) (by decide) rfl rfl).imp λσ H Q q=>?_
 obtain ⟨B,O₀,O,ρ,v,st,e1,q⟩:=q
 rw [ev,Option.bind_eq_some_iff] at e1
 obtain ⟨vs,e1,e2⟩:=e1
 simp only [evs,Option.bind_eq_some_iff,Option.map_eq_some_iff] at e1
 obtain ⟨v1,e3,w1,⟨v2,e4,w2,e5,rfl⟩,rfl⟩:=e1
 cases e5
 simp only [aq,bL,gq,fS,fz,Option.bind_eq_some_iff] at e2
 obtain ⟨xs,f1,ns,f2,ys,f3,ms,f4,f5⟩:=e2
 split at f5
 ·rename_i hc
  cases f5
  refine ⟨B,O₀,O,ρ,v1,st,e3,λu H1 s1 g1=>⟨O,v1,u,ns,rfl,g1.1,by simp [f1,f2],hc.1,λl hl=>?_⟩⟩
  refine ⟨B,O₀,O,ρ,v2,st.mono (s1.trans (ax hl _)),e4,λu2 H2 s2 g2=>⟨O,v2,u2,ms,rfl,g2.1,by simp [f3,f4],hc.2.1,λl2 hl2=>?_⟩⟩
  refine ⟨l,l2,_,_,rfl,rfl,(ax hl2 _) l _ (s2 l _ ar),ar,by rw [tw];exact hc.2.2,λp' hp'=>⟨p',_,rfl,ar,?_⟩⟩
  have e6:((St.dd ns.reverse).filter λk=>!decide (k ∈ St.dd ms.reverse)).length=((dd ns).filter λn=>!decide (n ∈ ms)).length:=by
   rw [ll]
   have e7:(λk=>!decide (k ∈ St.dd ms.reverse))=λn=>!decide (n ∈ ms):=by
    funext k
    congr 1
    rw [decide_eq_decide,St.dR,List.mem_reverse]
   rw [e7]
   refine List.Perm.length_eq (List.Perm.filter _ ((List.perm_ext_iff_of_nodup (St.dd_nodup _) (St.dd_nodup _)).mpr λa=>?_))
   rw [St.dR,St.dR,List.mem_reverse]
  rw [e6]
  exact q _ _ ((s1.trans (ax hl _)).trans (s2.trans ((ax hl2 _).trans (ax hp' _)))) (.of (dG _ _))
 ·cases f5
end
section
variable {X:Cx}{T:Tab}{k:Nat}{cal:Cal}
theorem nF {k':Sk}{src:List ME}{js:List Nat}{cond elt:ME}:∀ ρ v,ev cal (.comp k' src js cond elt) ρ=some v->∃ xs,v=.lst xs:=λρ v hv=>by
 rw [ev,Option.bind_eq_some_iff] at hv
 obtain ⟨vs,_,hv⟩:=hv
 rw [Option.bind_eq_some_iff] at hv
 obtain ⟨xs,_,hv⟩:=hv
 split at hv
 ·simp only [Option.map_eq_some_iff] at hv
  obtain ⟨ys,_,rfl⟩:=hv
  exact ⟨_,rfl⟩
 ·cases hv
theorem dH {f:Blt} (hf:f=.listOf \/ f=.sorted \/ f=.sortedSet \/ f=.sortedKeys \/ f=.valuesOf) {ms:List ME}:∀ ρ v,ev cal (.blt f ms) ρ=some v->∃ xs,v=.lst xs:=λρ v hv=>by
 rw [ev,Option.bind_eq_some_iff] at hv
 obtain ⟨vs,_,hv⟩:=hv
 rcases hf with rfl|rfl|rfl|rfl|rfl
 ·obtain ⟨x,rfl⟩:=dk hv (.inl rfl)
  simp only [aq,bL,gq,fS,fz,Option.map_eq_some_iff] at hv
  obtain ⟨ys,_,rfl⟩:=hv
  exact ⟨_,rfl⟩
 ·obtain ⟨x,rfl⟩:=dk hv (.inl rfl)
  simp only [aq,bL,gq,fS,fz,Option.bind_eq_some_iff] at hv
  obtain ⟨ys,_,hv⟩:=hv
  unfold fw at hv
  split at hv
  ·split at hv
   ·cases hv;exact ⟨_,rfl⟩
   ·simp only [Option.map_eq_some_iff] at hv
    obtain ⟨ts,_,rfl⟩:=hv
    exact ⟨_,rfl⟩
  ·cases hv
 ·obtain ⟨x,rfl⟩:=dk hv (.inr (.inr (.inl rfl)))
  simp only [aq,bL,gq,fS,fz,Option.bind_eq_some_iff] at hv
  obtain ⟨ys,_,ns,_,hv⟩:=hv
  split at hv
  ·cases hv;exact ⟨_,rfl⟩
  ·cases hv
 ·obtain ⟨x,rfl⟩:=dk hv (.inl rfl)
  simp only [aq,bL] at hv
  split at hv
  ·split at hv
   ·cases hv;exact ⟨_,rfl⟩
   ·cases hv
  ·cases hv
 ·obtain ⟨x,rfl⟩:=dk hv (.inr (.inr (.inr (.inr rfl))))
  simp only [aq,bL] at hv
  split at hv
  ·split at hv
   ·cases hv;exact ⟨_,rfl⟩
   ·cases hv
  ·cases hv
theorem oG {ifs:List Expr}{cond:ME}{f:Expr->Bool} (h:jQ f cond ifs=true) (hc:∀ c,f c=true->PT X c (tT X.K cal cond)):PF X ifs (tT X.K cal cond):=by
 match ifs,h with
 | [],h =>
  have e:cond=.cst (.bl true):=by
   simp only [jQ] at h
   split at h
   ·rfl
   ·cases h
  subst e
  intro pins s σ H Q I q
  obtain ⟨B,O₀,O,ρ,b,st,e1,q⟩:=q
  simp only [evB,ev,Option.bind_some,aC,Option.some.injEq] at e1
  subst e1
  exact x6 pins s σ H Q I (q H (ag.refl H))
 | [c],h=>exact x9 (hc c h)
theorem mr {k':Sk}{src:List ME}{it tg:Expr}{tup:Bool} (htg:tup=true->∃ ts j tp,tg=.Tuple ts j tp) (g:Gf X T k cal) (h:fT X.env.scope tup (λxs=>chks T src X.N X.env.scope xs) k' it=true) (hs:∀ xs,chks T src X.N X.env.scope xs=true->PA X xs (tEs X.K cal src)/\xs.all aj=true/\src.length=xs.length)
  (h1:∀ m x,src=[m]->chks T src X.N X.env.scope [x]=true->PE X x (tE X.K cal m)):PI X tg it (tW X.K cal k' src)/\gu it=true:=by
 cases k' with
 | seq =>
  simp only [fT,Bool.and_eq_true] at h
  refine ⟨?_,h.1⟩
  obtain ⟨_,_,hl⟩:=hs _ h.2
  match src,hl,h1,h with
  | [m],_,h1,h =>
   cases hb:av m with
   | false=>exact AE hb (h1 m it rfl h.2)
   | true =>
    cases m <;> simp [av] at hb
    have q:=h.2
    simp only [chks,Bool.and_eq_true] at q
    have q1:=q.1.1
    cases it <;> simp only [bN,bx,bO,bg,bP,bQ,bR,bS,cM,bT,bU,aR,bV,bW,bX,aS,bY,bh,aG,Bool.false_eq_true] at q1
    exact AF q1
 | rng =>
  cases it with
  | Call fn args kws pos =>
   cases fn with
   | Name x p =>
    cases kws with
    | nil =>
     simp only [fT,Bool.and_eq_true,beq_iff_eq,Bool.or_eq_true] at h
     obtain ⟨⟨⟨hx,hg⟩,ha⟩,hn⟩:=h
     obtain ⟨q,hst,hl⟩:=hs _ ha
     exact ⟨wg g hx hg q hn hst hl,rfl⟩
    | cons _ _=>simp [fT] at h
   | _=>simp [fT] at h
  | _=>simp [fT] at h
 | enm=>cases it <;> simp [fT] at h
 | rev=>cases it <;> simp [fT] at h
theorem jV (K:PySem.W.Frag) (F:Hp) (s:Sc):Rep K F s.pv s.v:=by cases s <;> simp only [Sc.pv,Sc.v,Rep]
theorem mt {K:PySem.W.Frag}{H:Hp}{O:List Addr}{x:PV}{s:Sc}{u:V} (e:sc? x=some s) (r:aQ K H O x u):u=s.v:=by
 cases x <;> simp only [sc?,Option.some.injEq,reduceCtorEq] at e <;> subst e
 ·exact r.non
 ·exact r.bl
 ·exact r.int
 ·exact r.str
theorem base_of {o:Expr}{n:Str} (hb:lh o=true):attributeBase o n X.env (eval o X.env)=eval o X.env:=by
 cases o <;> first|rfl|(simp [lh] at hb;done)|skip
 rename_i fn args kws pos
 cases args with
 | nil=>simp [lh] at hb
 | cons _ _=>cases fn <;> rfl
theorem nG {b:Blt}{es:List ME}{x:Str}{args:List Expr}{p pos:Pos} (g:Gf X T k cal) (hx:x=(lf b:Str)) (hg:glB X.env.scope x=true) (ha:b5 X.env.scope (λxs=>chks T es X.N X.env.scope xs) es.length b args=true)
  (hs:∀ xs,chks T es X.N X.env.scope xs=true->PA X xs (tEs X.K cal es)/\xs.all aj=true/\es.length=xs.length)
  (h1:∀ m x,es=[m]->chks T es X.N X.env.scope [x]=true->PE X x (tE X.K cal m))
  (hh2:∀ m m' x x',es=[m,m']->chks T es X.N X.env.scope [x,x']=true->PE X x (tE X.K cal m)/\PE X x' (tE X.K cal m')) :
  (bE (.blt b es)=true->PE X (.Call (.Name x p) args [] pos) (tF X.K cal (.blt b es)))/\PE X (.Call (.Name x p) args [] pos) (tE X.K cal (.blt b es)):=by
 have inst:∀ c,bM b=some c->lf b="isinstance"->bootBuiltins c=some (.type c)->X.mg c=none->(c:Str) ≠ "__name__"->((c:Str) == ("__debug__":Str))=false->b5 X.env.scope (λxs=>chks T es X.N X.env.scope xs) es.length b args=jP X.env.scope (λxs=>chks T es X.N X.env.scope xs) es.length c args ->
   PE X (.Call (.Name x p) args [] pos) (tE X.K cal (.blt b es)):=λc hc hb hbt hm hn hd e=>by
  rw [e] at ha
  unfold jP at ha
  split at ha
  ·rename_i y t p2
   simp only [Bool.and_eq_true,beq_iff_eq] at ha
   obtain ⟨⟨⟨h2,h3⟩,h4⟩,h5⟩:=ha
   obtain ⟨_,hst,_⟩:=hs _ h4
   match es,h5,h1,h4 with
   | [m],_,h1,h4 =>
    rw [hx,hb] at hg ⊢
    exact yJ g hc hg h2 h3 hbt hm hn hd (h1 m y rfl h4) (by simpa using hst)
  ·cases ha
 have plain:∀ n,bM b=none->cZ b=some n->0 < n->b5 X.env.scope (λxs=>chks T es X.N X.env.scope xs) es.length b args=(cZ b == some es.length&&chks T es X.N X.env.scope args) ->
   ∃ e r,args=e::r/\PA X (e::r) (tEs X.K cal es)/\(e::r).all aj=true:=λn _ hn hpos eq=>by
  rw [eq,hn] at ha
  simp only [Bool.and_eq_true,beq_iff_eq,Option.some.injEq] at ha
  obtain ⟨q1,q2,q3⟩:=hs _ ha.2
  cases args with
  | nil=>rw [<- ha.1] at q3;simp at q3;omega
  | cons e r=>exact ⟨e,r,rfl,q1,q2⟩
 cases b with
 | len =>
  obtain ⟨e,r,rfl,q1,q2⟩:=plain 1 rfl rfl (by decide) rfl
  subst hx
  exact ⟨λz=>(by simp [bE] at z),tN AB hg (g.blt "len" (by decide)) tX (by decide) (by decide) q1 q2⟩
 | tupleOf =>
  obtain ⟨e,r,rfl,q1,q2⟩:=plain 1 rfl rfl (by decide) rfl
  subst hx
  exact ⟨λz=>(by simp [bE] at z),yD wd hg (g.blt "tuple" (by decide)) nB (by decide) (by decide) q1 q2⟩
 | listOf =>
  obtain ⟨e,r,rfl,q1,q2⟩:=plain 1 rfl rfl (by decide) rfl
  subst hx
  have q:=wl (p:=p) (pos:=pos) yA hg (g.blt "list" (by decide)) wn (by decide) (by decide) q1 q2
  exact ⟨λ_=>q,eG (dH (.inl rfl)) q⟩
 | sorted =>
  obtain ⟨e,r,rfl,q1,q2⟩:=plain 1 rfl rfl (by decide) rfl
  subst hx
  have q:=yE (p:=p) (pos:=pos) (tz g) hg (g.blt "sorted" (by decide)) lv (by decide) (by decide) q1 q2
  exact ⟨λ_=>q,eG (dH (.inr (.inl rfl))) q⟩
 | any =>
  obtain ⟨e,r,rfl,q1,q2⟩:=plain 1 rfl rfl (by decide) rfl
  subst hx
  exact ⟨λz=>(by simp [bE] at z),tN (AC g.calm) hg (g.blt "any" (by decide)) yG (by decide) (by decide) q1 q2⟩
 | all =>
  obtain ⟨e,r,rfl,q1,q2⟩:=plain 1 rfl rfl (by decide) rfl
  subst hx
  exact ⟨λz=>(by simp [bE] at z),tN (AD g.calm) hg (g.blt "all" (by decide)) yH (by decide) (by decide) q1 q2⟩
 | intOf=>exact absurd ha Bool.false_ne_true
 | boolOf=>exact absurd ha Bool.false_ne_true
 | max2=>exact absurd ha Bool.false_ne_true
 | min2=>exact absurd ha Bool.false_ne_true
 | isInt=>exact ⟨λz=>(by simp [bE] at z),inst "int" rfl rfl yI (g.blt "int" (by decide)) (by decide) (by decide) rfl⟩
 | isBool=>exact ⟨λz=>(by simp [bE] at z),inst "bool" rfl rfl wo (g.blt "bool" (by decide)) (by decide) (by decide) rfl⟩
 | isStr=>exact absurd ha Bool.false_ne_true
 | isList=>exact absurd ha Bool.false_ne_true
 | isTuple=>exact ⟨λz=>(by simp [bE] at z),inst "tuple" rfl rfl nB (g.blt "tuple" (by decide)) (by decide) (by decide) rfl⟩
 | sortedSet =>
  simp only [b5] at ha
  split at ha
  ·rename_i gg p2 y pos2
   simp only [Bool.and_eq_true,beq_iff_eq] at ha
   obtain ⟨⟨⟨h2,h3⟩,h4⟩,h5⟩:=ha
   obtain ⟨_,hst,_⟩:=hs _ h4
   match es,h5,h1,h4 with
   | [m],_,h1,h4 =>
    have q:=nD (p:=p) (p2:=p2) (pos:=pos) (pos2:=pos2) g hx h2 hg h3 (h1 m y rfl h4) (by simpa using hst)
    exact ⟨λ_=>q,eG (dH (.inr (.inr (.inl rfl)))) q⟩
  ·cases ha
 | sum=>exact absurd ha Bool.false_ne_true
 | max1=>exact absurd ha Bool.false_ne_true
 | sortedKeys=>exact absurd ha Bool.false_ne_true
 | valuesOf=>exact absurd ha Bool.false_ne_true
 | min1=>simp [b5,bM,cZ] at ha
 | tupleRev=>simp [b5] at ha
 | lenSet=>simp [b5] at ha
 | lenSetSub =>
  simp only [b5] at ha
  split at ha
  ·rename_i gg p2 y q2 gg2 p3 y' q3 q4
   simp only [Bool.and_eq_true,beq_iff_eq] at ha
   obtain ⟨⟨⟨⟨⟨a1,a2⟩,a3⟩,a4⟩,a5⟩,a6⟩:=ha
   obtain ⟨_,hst,_⟩:=hs _ a5
   match es,a6,hh2,a5 with
   | [m,m'],_,hh2,a5 =>
    simp only [List.all_cons,List.all_nil,Bool.and_true,Bool.and_eq_true] at hst
    obtain ⟨b1,b2⟩:=hh2 m m' y y' rfl a5
    exact ⟨λz=>(by simp [bE] at z),nE g hx a1 a3 hg a2 a4 b1 b2 hst.1 hst.2⟩
  ·cases ha
end
section
variable {X:Cx}{T:Tab}{k:Nat}{cal:Cal}
theorem AR {neg:Bool}{mk ma:ME}{l r:Expr}{pos:Pos} (g:Gf X T k cal) (hk:PE X l (tE X.K cal mk)) (ha:PE X r (tE X.K cal ma)) (hm:behindInMarks (if neg=true then CmpOp.NotIn else CmpOp.In) r=false) :
  PE X (.Compare l [if neg=true then CmpOp.NotIn else CmpOp.In] [r] pos) (tE X.K cal (.dIn neg mk ma))/\PT X (.Compare l [if neg=true then CmpOp.NotIn else CmpOp.In] [r] pos) (tT X.K cal (.dIn neg mk ma)):=by
 have hu:X.A.units + 3 < cLine:=by have:=g.units;omega
 have go:∀ {σ:St}{H:Hp}{Q:Bool->Hp->Prop},(∃ B O₀ O ρ b,au X.K B O₀ O H ρ σ/\ev cal (.dIn neg mk ma) ρ=some (.bl b)/\∀ H',ag H H'->Q b H') ->
   tE X.K cal mk σ H λy H1=>tE X.K cal ma σ H1 λx H2=>∃ a o,x=.ref a/\n9 H2 a y o/\Q (if neg=true then !o.isSome else o.isSome) H2:=λ{σ H Q} q=>by
  obtain ⟨B,O₀,O,ρ,b,st,e1,q⟩:=q
  rw [ev] at e1
  simp only [Option.bind_eq_some_iff] at e1
  obtain ⟨y,e1,x,e2,e3⟩:=e1
  refine ⟨B,O₀,O,ρ,y,st,e1,λuy H1 s1 g1=>⟨B,O₀,O,ρ,x,st.mono s1,e2,λux H2 s2 g2=>?_⟩⟩
  rw [Option.map_eq_some_iff] at e3
  obtain ⟨o,e3,e4⟩:=e3
  cases x <;> try (cases e3;done)
  obtain ⟨a,rfl,ha⟩:=g2.1.dI
  refine ⟨a,_,rfl,mq e3 ha (g1.1.mono s2),?_⟩
  rw [Option.isSome_map,PV.bl.inj e4]
  exact q H2 (s1.trans s2)
 have unE:∀ {σ:St}{H:Hp}{Q:VK},tE X.K cal (.dIn neg mk ma) σ H Q->∃ B O₀ O ρ b,au X.K B O₀ O H ρ σ/\ev cal (.dIn neg mk ma) ρ=some (.bl b)/\∀ H',ag H H'->Q (.bl b) H':=λ{σ H Q} q=>by
  obtain ⟨B,O₀,O,ρ,v,st,e1,q⟩:=q
  have hb:∃ b,v=.bl b:=by
   rw [ev] at e1
   simp only [Option.bind_eq_some_iff] at e1
   obtain ⟨y,_,x,_,e3⟩:=e1
   rw [Option.map_eq_some_iff] at e3
   obtain ⟨o,_,e4⟩:=e3
   exact ⟨_,e4.symm⟩
  obtain ⟨b,rfl⟩:=hb
  exact ⟨B,O₀,O,ρ,b,st,e1,λH' s=>q _ H' s (.of (cH _ _))⟩
 have unT:∀ {σ:St}{H:Hp}{Q:Bool->Hp->Prop},tT X.K cal (.dIn neg mk ma) σ H Q->∃ B O₀ O ρ b,au X.K B O₀ O H ρ σ/\ev cal (.dIn neg mk ma) ρ=some (.bl b)/\∀ H',ag H H'->Q b H':=λ{σ H Q} q=>by
  obtain ⟨B,O₀,O,ρ,b,st,e1,q⟩:=q
  unfold evB at e1
  simp only [Option.bind_eq_some_iff] at e1
  obtain ⟨v,e1,e2⟩:=e1
  cases v <;> simp only [aC,reduceCtorEq,Option.some.injEq] at e2
  subst e2
  exact ⟨B,O₀,O,ρ,_,st,e1,q⟩
 cases neg with
 | false =>
  refine ⟨(rD (sk hu hk ha) hm).imp λσ H Q q=>?_,(rE (sk hu hk ha) hm).imp λσ H Q q=>?_⟩
  ·exact go (Q:=λb H'=>Q (.bl b) H') (unE q)
  ·exact go (Q:=λb H'=>∃ c,V.bl b=.bl c/\Q c H') (by
    obtain ⟨B,O₀,O,ρ,b,st,e1,q⟩:=unT q
    exact ⟨B,O₀,O,ρ,b,st,e1,λH' s=>⟨b,rfl,q H' s⟩⟩)
 | true =>
  refine ⟨(rD (kZ hu hk ha) hm).imp λσ H Q q=>?_,(rE (kZ hu hk ha) hm).imp λσ H Q q=>?_⟩
  ·exact go (Q:=λb H'=>Q (.bl b) H') (unE q)
  ·exact go (Q:=λb H'=>∃ c,V.bl b=.bl c/\Q c H') (by
    obtain ⟨B,O₀,O,ρ,b,st,e1,q⟩:=unT q
    exact ⟨B,O₀,O,ρ,b,st,e1,λH' s=>⟨b,rfl,q H' s⟩⟩)
theorem yK {ma mk md:ME}{o e f:Expr}{ap cp:Pos} (g:Gf X T k cal) (ha:PE X o (tE X.K cal ma)) (hk:PE X e (tE X.K cal mk)) (hd:PE X f (tE X.K cal md)) (hb:lh o=true) (hl:(ap.endLine == cp.line)=true) (h1:aj e=true) (h2:aj f=true) :
  PE X (.Call (.Attribute o "get" ap) [e,f] [] cp) (tE X.K cal (.dget ma mk md)):=by
 have hu:X.A.units + 3 < cLine:=by have:=g.units;omega
 have st2:starEach [e,f] X.env=[(false,eval e X.env),(false,eval f X.env)]:=by rw [ba h1,ba h2];rfl
 have m:M2 X o "get" ap e f cp:=by
  refine ⟨base_of hb,?_,hl,?_⟩
  ·rw [st2];rfl
  ·rw [st2];rfl
 refine (sm hu ha hk hd m).imp λσ H Q q=>?_
 obtain ⟨B,O₀,O,ρ,v,st,e1,q⟩:=q
 rw [ev] at e1
 simp only [Option.bind_eq_some_iff,Option.map_eq_some_iff] at e1
 obtain ⟨x,e1,y,e2,z,e3,oo,e4,sz,e5,e6⟩:=e1
 cases x <;> try (cases e4;done)
 refine ⟨B,O₀,O,ρ,_,st,e1,λux H1 s1 g1=>?_⟩
 obtain ⟨a,rfl,hH⟩:=g1.1.dI
 refine ⟨a,rfl,pF hH,B,O₀,O,ρ,_,st.mono s1,e2,λuy H2 s2 g2=>⟨B,O₀,O,ρ,z,st.mono (s1.trans s2),e3,λuz H3 s3 g3=>?_⟩⟩
 refine ⟨_,mq e4 (ag.rd s3 (ag.rd s2 hH)) (g2.1.mono s3),?_⟩
 rw [mt e5 g3.1]
 have e7:(oo.map Sc.v).getD sz.v=(oo.getD sz).v:=by cases oo <;> rfl
 rw [e7]
 refine q _ H3 (s1.trans (s2.trans s3)) ?_
 rw [<- e6]
 exact .of (jV _ _ _)
theorem AS {ma mk:ME}{o i:Expr}{pos:Pos} (g:Gf X T k cal) (ha:PE X o (tE X.K cal ma)) (hk:PE X i (tE X.K cal mk)) (hs:bw i=true):PE X (.Subscript o i pos) (tE X.K cal (.dat ma mk)):=by
 have hu:X.A.units + 3 < cLine:=by have:=g.units;omega
 refine (vJ hu ha hk (by cases i <;> first|(intro _ _;rfl)|(simp [bw] at hs))).imp λσ H Q q=>?_
 obtain ⟨B,O₀,O,ρ,v,st,e1,q⟩:=q
 rw [ev] at e1
 simp only [Option.bind_eq_some_iff,Option.map_eq_some_iff] at e1
 obtain ⟨x,e1,y,e2,oo,e4,sz,rfl,e6⟩:=e1
 cases x <;> try (cases e4;done)
 refine ⟨B,O₀,O,ρ,_,st,e1,λux H1 s1 g1=>?_⟩
 obtain ⟨a,rfl,hH⟩:=g1.1.dI
 refine ⟨B,O₀,O,ρ,_,st.mono s1,e2,λuy H2 s2 g2=>?_⟩
 refine ⟨a,_,rfl,mq e4 (ag.rd s2 hH) g2.1,q _ H2 (s1.trans s2) ?_⟩
 rw [<- e6]
 exact .of (jV _ _ _)
end
mutual
theorem ai {T:Tab}{k:Nat}{cal:Cal}:∀ (me:ME) {X:Cx}{e:Expr},Gf X T k cal->chk T me X.N X.env.scope e=true->PE X e (tE X.K cal me)/\PT X e (tT X.K cal me)
  | .var i,X,e,g,h=>by
    cases e <;> simp only [bN,bx,bO,bg,bP,bQ,bR,bS,cM,bT,bU,aR,bV,bW,bX,aS,bY,bh,aG,Bool.false_eq_true] at h
    exact ⟨xa h,bb (xa h) rfl⟩
  | .bor i,X,e,g,h=>by
    cases e <;> simp only [bN,bx,bO,bg,bP,bQ,bR,bS,cM,bT,bU,aR,bV,bW,bX,aS,bY,bh,aG,Bool.false_eq_true] at h
    exact ⟨xb h,bb (xb h) rfl⟩
  | .cst v,X,e,g,h=>by
    cases e <;> simp only [bN,bx,bO,bg,bP,bQ,bR,bS,cM,bT,bU,aR,bV,bW,bX,aS,bY,bh,aG,Bool.false_eq_true] at h
    exact ⟨xc h,bb (xc h) rfl⟩
  | .glob x v,X,e,g,h=>by
    cases e <;> try (simp only [bN,bx,bO,bg,bP,bQ,bR,bS,cM,bT,bU,aR,bV,bW,bX,aS,bY,bh,aG,Bool.false_eq_true] at h;done)
    exact ⟨tu g h,bb (tu g h) rfl⟩
  | .bin op a b,X,e,g,h=>by
    cases e <;> simp only [bN,bx,bO,bg,bP,bQ,bR,bS,cM,bT,bU,aR,bV,bW,bX,aS,bY,bh,aG,Bool.false_eq_true,Bool.and_eq_true,beq_iff_eq] at h
    obtain ⟨⟨rfl,h1⟩,h2⟩:=h
    have p:=λ(pos:Pos)=>AG (op:=op) (pos:=pos) (ai a g h1).1 (ai b g h2).1
    exact ⟨p _,bb (p _) rfl⟩
  | .neg _,X,e,g,h=>absurd (show false=true from h) Bool.false_ne_true
  | .not a,X,e,g,h=>by
    cases e with
    | UnaryOp op x pos =>
      cases op <;> simp only [bN,bx,bO,bg,bP,bQ,bR,bS,cM,bT,bU,aR,bV,bW,bX,aS,bY,bh,aG,Bool.false_eq_true] at h
      exact ⟨AH (ai a g h).1,AI (ai a g h).2⟩
    | _=>cases (show false=true from h)
  | .and a b,X,e,g,h=>by
    cases e with
    | BoolOp op vs pos =>
      cases op with
      | Or=>cases (show false=true from h)
      | And =>
        match vs,h with
        | [],h=>cases (show false=true from h)
        | [x],h=>cases (show false=true from h)
        | [x,y],h =>
          have h:(chk T a X.N X.env.scope x&&chk T b X.N X.env.scope y)=true:=h
          simp only [Bool.and_eq_true] at h
          exact ⟨xg (ai a g h.1).1 (rJ (ai b g h.2).1),xi (ai a g h.1).2 (vj (ai b g h.2).2)⟩
        | x::y::z::r,h =>
          have h:(chk T a X.N X.env.scope x&&chk T b X.N X.env.scope (.BoolOp .And (y::z::r) pos))=true:=h
          simp only [Bool.and_eq_true] at h
          exact ⟨xg (ai a g h.1).1 (ai b g h.2).1,xi (ai a g h.1).2 (xh (ai b g h.2).2)⟩
    | _=>cases (show false=true from h)
  | .or a b,X,e,g,h=>by
    cases e with
    | BoolOp op vs pos =>
      cases op with
      | And=>cases (show false=true from h)
      | Or =>
        match vs,h with
        | [],h=>cases (show false=true from h)
        | [x],h=>cases (show false=true from h)
        | [x,y],h =>
          have h:(chk T a X.N X.env.scope x&&chk T b X.N X.env.scope y)=true:=h
          simp only [Bool.and_eq_true] at h
          exact ⟨AJ (ai a g h.1).1 (rJ (ai b g h.2).1),AK (ai a g h.1).2 (rG (ai b g h.2).2)⟩
        | x::y::z::r,h =>
          have h:(chk T a X.N X.env.scope x&&chk T b X.N X.env.scope (.BoolOp .Or (y::z::r) pos))=true:=h
          simp only [Bool.and_eq_true] at h
          exact ⟨AJ (ai a g h.1).1 (ai b g h.2).1,AK (ai a g h.1).2 (xh (ai b g h.2).2)⟩
    | _=>cases (show false=true from h)
  | .ite c a b,X,e,g,h=>by
    cases e <;> simp only [bN,bx,bO,bg,bP,bQ,bR,bS,cM,bT,bU,aR,bV,bW,bX,aS,bY,bh,aG,Bool.false_eq_true,Bool.and_eq_true,Bool.not_eq_true'] at h
    obtain ⟨⟨⟨⟨h1,h2⟩,h3⟩,h4⟩,h5⟩:=h
    exact ⟨AL (ai c g h1).2 (ai a g h2).1 (ai b g h3).1 h4 h5,AM (ai c g h1).2 (ai a g h2).2 (ai b g h3).2⟩
  | .cmp op a b,X,e,g,h=>by
    cases e with
    | Compare l ops rs pos =>
      match ops,rs,h with
      | [o],[r],h =>
        simp only [bN,bx,bO,bg,bP,bQ,bR,bS,cM,bT,bU,aR,bV,bW,bX,aS,bY,bh,aG,Bool.and_eq_true,beq_iff_eq,Bool.not_eq_true'] at h
        obtain ⟨⟨⟨rfl,h1⟩,h2⟩,h3⟩:=h
        exact AN g (ai a g h1).1 (ai b g h2).1 h3
      | [],_,h=>cases (show false=true from h)
      | [_],[],h=>cases (show false=true from h)
      | [_],_::_::_,h=>cases (show false=true from h)
      | _::_::_,_,h=>cases (show false=true from h)
    | _=>cases (show false=true from h)
  | .chain _ _ _ _ _,X,e,g,h=>absurd (show false=true from h) Bool.false_ne_true
  | .tup es,X,e,g,h=>by
    cases e <;> simp only [bN,bx,bO,bg,bP,bQ,bR,bS,cM,bT,bU,aR,bV,bW,bX,aS,bY,bh,aG,Bool.false_eq_true,Bool.and_eq_true] at h
    have p:=λ(j:Nat) (pos:Pos)=>AO (j:=j) (pos:=pos) (sounds es g h.1) h.2
    exact ⟨p _ _,bb (p _ _) rfl⟩
  | .lst es,X,e,g,h=>by
    cases e <;> simp only [bN,bx,bO,bg,bP,bQ,bR,bS,cM,bT,bU,aR,bV,bW,bX,aS,bY,bh,aG,Bool.false_eq_true,Bool.and_eq_true] at h
    have p:=λ(pos:Pos)=>eG (λρ v hv=>by
      rw [ev,Option.bind_eq_some_iff] at hv
      obtain ⟨vs,_,hv⟩:=hv
      split at hv
      · cases hv;exact ⟨_,rfl⟩
      · cases hv) (xj (pos:=pos) (sounds es g h.1) h.2)
    exact ⟨p _,bb (p _) rfl⟩
  | .idx a i,X,e,g,h=>by
    cases e with
    | Subscript v s pos =>
      cases s <;> first
        | (simp only [bN,bx,bO,bg,bP,bQ,bR,bS,cM,bT,bU,aR,bV,bW,bX,aS,bY,bh,aG,Bool.and_eq_true,Bool.false_eq_true] at h
           obtain ⟨⟨h1,h2⟩,h3⟩:=h
           have p:=AQ (pos:=pos) (ai a g h1).1 (ai i g h2).1 h3
           exact ⟨p,bb p rfl⟩)
        | (simp [bN,bx,bO,bg,bP,bQ,bR,bS,cM,bT,bU,aR,bV,bW,bX,aS,bY,bh,aG,bw] at h)
    | _=>cases (show false=true from h)
  | .slice a lo hi,X,e,g,h=>by
    cases e with
    | Subscript v s pos =>
      cases s with
      | Slice l u st p2 =>
        cases st with
        | none =>
          have h:(chk T a X.N X.env.scope v&&fC (λe=>chk T lo X.N X.env.scope e) (dW lo) l&&fC (λe=>chk T hi X.N X.env.scope e) (dW hi) u)=true:=h
          simp only [Bool.and_eq_true] at h
          obtain ⟨⟨h1,h2⟩,h3⟩:=h
          have q1:PO X l (tB1 X.K cal lo):=by
            cases l with
            | none=>exact tL h2
            | some l =>
              simp only [fC,Bool.and_eq_true,Bool.not_eq_true'] at h2
              exact tM (ai lo g h2.1).1 h2.2
          have q2:PO X u (tB1 X.K cal hi):=by
            cases u with
            | none=>exact tL h3
            | some u =>
              simp only [fC,Bool.and_eq_true,Bool.not_eq_true'] at h3
              exact tM (ai hi g h3.1).1 h3.2
          have p:=wk (p2:=p2) (pos:=pos) (ai a g h1).1 q1 q2
          exact ⟨p,bb p rfl⟩
        | some _=>cases (show false=true from h)
      | _=>cases (show false=true from h)
    | _=>cases (show false=true from h)
  | .blt b es,X,e,g,h=>by
    cases e with
    | Call fn args kws pos =>
      cases fn with
      | Name x p =>
        cases kws with
        | nil =>
          have h:(x == (lf b:Str)&&glB X.env.scope x&&b5 X.env.scope (λxs=>chks T es X.N X.env.scope xs) es.length b args)=true:=h
          simp only [Bool.and_eq_true,beq_iff_eq] at h
          obtain ⟨⟨hx,hg⟩,ha⟩:=h
          have q:=(nG (p:=p) (pos:=pos) g hx hg ha (λxs hxs=>⟨sounds es g hxs,bj hxs⟩) (λm x hm hx=>match es,hm with|[m'],rfl=>(ai m' g (by simp only [chks,Bool.and_eq_true] at hx;exact hx.1.1)).1) (λa b x x' hm hx=>match es,hm with|[m1,m2],rfl=>⟨(ai m1 g (by simp only [chks,Bool.and_eq_true] at hx;exact hx.1.1)).1,(ai m2 g (by simp only [chks,Bool.and_eq_true] at hx;exact hx.2.1.1)).1⟩)).2
          exact ⟨q,bb q rfl⟩
        | cons _ _=>cases (show false=true from h)
      | _=>cases (show false=true from h)
    | _=>cases (show false=true from h)
  | .call f es,X,e,g,h=>by
    cases e with
    | Call fn args kws pos =>
      cases fn with
      | Name x p =>
        cases kws with
        | nil =>
          have h:(T.fs[f]? == some x&&glB X.env.scope x&&ah x&&chks T es X.N X.env.scope args)=true:=h
          simp only [Bool.and_eq_true,beq_iff_eq] at h
          obtain ⟨⟨⟨h1,h2⟩,h3⟩,h4⟩:=h
          obtain ⟨hs,hl⟩:=bj h4
          have q:=yF (p:=p) (pos:=pos) g h1 h2 h3 (soundA es g h4) hs hl
          exact ⟨q,bb q rfl⟩
        | cons _ _=>cases (show false=true from h)
      | _=>cases (show false=true from h)
    | _=>cases (show false=true from h)
  | .callD _ _ _,X,e,g,h=>absurd (show false=true from h) Bool.false_ne_true
  | .dIn neg mk ma,X,e,g,h=>by
    cases e with
    | Compare l ops rs pos =>
      match ops,rs,h with
      | [o],[r],h =>
        simp only [yl,Bool.and_eq_true,beq_iff_eq,Bool.not_eq_true'] at h
        obtain ⟨⟨⟨rfl,h1⟩,h2⟩,h3⟩:=h
        exact AR g (ai mk g h1).1 (ai ma g h2).1 h3
      | [],_,h=>cases (show false=true from h)
      | [_],[],h=>cases (show false=true from h)
      | [_],_::_::_,h=>cases (show false=true from h)
      | _::_::_,_,h=>cases (show false=true from h)
    | _=>cases (show false=true from h)
  | .dat ma mk,X,e,g,h=>by
    cases e with
    | Subscript v s pos =>
      simp only [sX,Bool.and_eq_true] at h
      have p:=AS (pos:=pos) g (ai ma g h.1.1).1 (ai mk g h.1.2).1 h.2
      exact ⟨p,bb p rfl⟩
    | _=>simp only [sX,Bool.false_eq_true] at h
  | .dget ma mk md,X,e,g,h=>by
    cases e with
    | Call fn args kws pos =>
      cases fn with
      | Attribute o m ap =>
        match args,kws,h with
        | [x,y],[],h =>
          simp only [v0,Bool.and_eq_true,beq_iff_eq] at h
          obtain ⟨⟨⟨⟨⟨⟨⟨rfl,h1⟩,h2⟩,h3⟩,h4⟩,h5⟩,h6⟩,h7⟩:=h
          have p:=yK (ap:=ap) (cp:=pos) g (ai ma g h3).1 (ai mk g h4).1 (ai md g h5).1 h1 (by rw [h2];simp) h6 h7
          exact ⟨p,bb p rfl⟩
        | [],_,h=>cases (show false=true from h)
        | [_],_,h=>cases (show false=true from h)
        | _::_::_::_,_,h=>cases (show false=true from h)
        | [_,_],_::_,h=>cases (show false=true from h)
      | _=>cases (show false=true from h)
    | _=>cases (show false=true from h)
  | .comp k' src js cond elt,X,e,g,h=>by
    cases e with
    | ListComp e gens scope pos =>
      match gens,h with
      | [],h=>cases (show false=true from h)
      | ⟨tg,it,ifs,as⟩::[],h =>
        cases tg with
        | Name x px =>
          by_cases has:as=0
          · subst has
            have h:(dF X.env.scope X.N scope x (bB X.N js) js&&fT X.env.scope false (λxs=>chks T src X.N X.env.scope xs) k' it&&jQ (λc=>chk T cond (x::bB X.N js) (fQ scope X.env.scope) c) cond ifs&&chk T elt (x::bB X.N js) (fQ scope X.env.scope) e&&!av elt)=true:=h
            simp only [Bool.and_eq_true,Bool.not_eq_true'] at h
            obtain ⟨⟨⟨⟨h1,h2⟩,h3⟩,h4⟩,h5⟩:=h
            have hw:=mr (tg:=.Name x px) (λz=>by cases z) g h2 (λxs hxs=>⟨sounds src g hxs,bj hxs⟩) (λm x hm hx=>match src,hm with|[m'],rfl=>(ai m' g (by simp only [chks,Bool.and_eq_true] at hx;exact hx.1.1)).1)
            have q:=eG nF (oE (pos:=pos) g h1 hw.1 hw.2 (λs₁ H₁ C fp=>oG h3 λc hc=>(ai cond (g.blk x (bB X.N js) scope s₁ H₁ C fp) hc).2) (λs₁ H₁ C fp=>(ai elt (g.blk x (bB X.N js) scope s₁ H₁ C fp) h4).1) h5)
            exact ⟨q,bb q rfl⟩
          · exact absurd h (by
              have:chk T (.comp k' src js cond elt) X.N X.env.scope (.ListComp e [⟨.Name x px,it,ifs,as⟩] scope pos)=false:=by
                rw [aG]
                split <;> first|rfl|(rename_i z;simp_all)
              rw [this];exact Bool.false_ne_true)
        | _=>cases (show false=true from h)
      | _::_::_,h=>simp [aG] at h
    | _=>cases (show false=true from h)
theorem sounds {T:Tab}{k:Nat}{cal:Cal}:∀ (ms:List ME) {X:Cx}{es:List Expr},Gf X T k cal->chks T ms X.N X.env.scope es=true->PA X es (tEs X.K cal ms)
 | [],X,es,g,h=>by
  cases es with
  | nil=>exact wj
  | cons _ _=>simp [chks] at h
 | m::ms,X,es,g,h=>by
  cases es with
  | nil=>simp [chks] at h
  | cons e es =>
   simp only [chks,Bool.and_eq_true] at h
   exact tH (ai m g h.1.1).1 (sounds ms g h.2) h.1.2
theorem soundA {T:Tab}{k:Nat}{cal:Cal}:∀ (ms:List ME) {X:Cx}{es:List Expr},Gf X T k cal->chks T ms X.N X.env.scope es=true->PA X es (tAs X.K cal ms)
 | [],X,es,g,h=>by
  cases es with
  | nil=>exact tI
  | cons _ _=>simp [chks] at h
 | m::ms,X,es,g,h=>by
  cases es with
  | nil=>simp [chks] at h
  | cons e es =>
   simp only [chks,Bool.and_eq_true] at h
   have hs:=soundA ms g h.2
   cases hb:av m with
   | false=>exact qH hb (ai m g h.1.1).1 hs h.1.2
   | true =>
    cases m <;> simp [av] at hb
    have h1:=h.1.1
    cases e <;> simp only [bN,bx,bO,bg,bP,bQ,bR,bS,cM,bT,bU,aR,bV,bW,bX,aS,bY,bh,aG,Bool.false_eq_true] at h1
    exact tK h1 hs
end
theorem yL {T:Tab}{k:Nat}{cal:Cal}{me:ME}{X:Cx}{e:Expr} (g:Gf X T k cal) (h:chk T me X.N X.env.scope e=true) (hf:bE me=true):PE X e (tF X.K cal me):=by
 cases me with
 | lst es =>
  cases e <;> simp only [bN,bx,bO,bg,bP,bQ,bR,bS,cM,bT,bU,aR,bV,bW,bX,aS,bY,bh,aG,Bool.false_eq_true,Bool.and_eq_true] at h
  exact xj (sounds es g h.1) h.2
 | blt b es =>
  cases e with
  | Call fn args kws pos =>
   cases fn with
   | Name x p =>
    cases kws with
    | nil =>
     have h:(x == (lf b:Str)&&glB X.env.scope x&&b5 X.env.scope (λxs=>chks T es X.N X.env.scope xs) es.length b args)=true:=h
     simp only [Bool.and_eq_true,beq_iff_eq] at h
     obtain ⟨⟨hx,hg⟩,ha⟩:=h
     exact (nG (p:=p) (pos:=pos) g hx hg ha (λxs hxs=>⟨sounds es g hxs,bj hxs⟩) (λm x hm hx=>match es,hm with|[m'],rfl=>(ai m' g (by simp only [chks,Bool.and_eq_true] at hx;exact hx.1.1)).1) (λa b x x' hm hx=>match es,hm with|[m1,m2],rfl=>⟨(ai m1 g (by simp only [chks,Bool.and_eq_true] at hx;exact hx.1.1)).1,(ai m2 g (by simp only [chks,Bool.and_eq_true] at hx;exact hx.2.1.1)).1⟩)).1 hf
    | cons _ _=>cases (show false=true from h)
   | _=>cases (show false=true from h)
  | _=>cases (show false=true from h)
 | comp k' src js cond elt =>
  cases e with
  | ListComp e gens scope pos =>
   match gens,h with
   | [],h=>cases (show false=true from h)
   | ⟨tg,it,ifs,as⟩::[],h =>
    cases tg with
    | Name x px =>
     by_cases has:as=0
     ·subst has
      have h:(dF X.env.scope X.N scope x (bB X.N js) js&&fT X.env.scope false (λxs=>chks T src X.N X.env.scope xs) k' it&&jQ (λc=>chk T cond (x::bB X.N js) (fQ scope X.env.scope) c) cond ifs&&chk T elt (x::bB X.N js) (fQ scope X.env.scope) e&&!av elt)=true:=h
      simp only [Bool.and_eq_true,Bool.not_eq_true'] at h
      obtain ⟨⟨⟨⟨h1,h2⟩,h3⟩,h4⟩,h5⟩:=h
      have hw:=mr (tg:=.Name x px) (λz=>by cases z) g h2 (λxs hxs=>⟨sounds src g hxs,bj hxs⟩) (λm x hm hx=>match src,hm with|[m'],rfl=>(ai m' g (by simp only [chks,Bool.and_eq_true] at hx;exact hx.1.1)).1)
      exact oE (pos:=pos) g h1 hw.1 hw.2 (λs₁ H₁ C fp=>oG h3 λc hc=>(ai cond (g.blk x (bB X.N js) scope s₁ H₁ C fp) hc).2) (λs₁ H₁ C fp=>(ai elt (g.blk x (bB X.N js) scope s₁ H₁ C fp) h4).1) h5
     ·exact absurd h (by
       have:chk T (.comp k' src js cond elt) X.N X.env.scope (.ListComp e [⟨.Name x px,it,ifs,as⟩] scope pos)=false:=by
        rw [aG]
        split <;> first|rfl|(rename_i z;simp_all)
       rw [this];exact Bool.false_ne_true)
    | _=>cases (show false=true from h)
   | _::_::_,h=>simp [aG] at h
  | _=>cases (show false=true from h)
 | _=>simp [bE] at hf
end MM
namespace MM
open PySem PySem.Spec PyProof.Rows L2
noncomputable def AT:MV->Bool
 | .brw _=>true
 | .brwD _=>true
 | _=>false
theorem pO {m:MV} (h1:gr m=true) (h2:AT m=true):False:=by cases m <;> first|(cases h2;done)|(cases h1;done)
structure aU (B:Hp) (O O':List Addr) (ρ ρ':Rho) (σ σ':St):Prop where
 stay:∀ a,B a ≠ none->a ∈ O->a ∈ O'
 new:∀ a ∈ O',a ∈ O \/ B a=none
 brw:∀ (i:Nat) (m:MV),AT m=true->ρ'[i]?=some (some m)->ρ[i]?=some (some m)/\σ'[i]?=σ[i]?
 len:ρ'.length=ρ.length
 mutK:∀ (i:Nat) (d':DD),ρ'[i]?=some (some (.mutD d'))->(∃ d,ρ[i]?=some (some (.mutD d)))/\σ'[i]?=σ[i]?
theorem aU.refl {B:Hp}{O:List Addr}{ρ:Rho}{σ:St}:aU B O O ρ ρ σ σ:=⟨λ_ _ h=>h,λ_ h=>.inl h,λ_ _ _ h=>⟨h,rfl⟩,rfl,λ_ d' h=>⟨⟨d',h⟩,rfl⟩⟩
theorem aU.trans {B:Hp}{O O1 O2:List Addr}{ρ ρ1 ρ2:Rho}{σ σ1 σ2:St} (a:aU B O O1 ρ ρ1 σ σ1) (b:aU B O1 O2 ρ1 ρ2 σ1 σ2):aU B O O2 ρ ρ2 σ σ2 where
 stay:=λx h1 h2=>b.stay x h1 (a.stay x h1 h2)
 new:=λx h=>(b.new x h).elim (a.new x) .inr
 brw:=λi xs hm h=>by
  obtain ⟨h1,e1⟩:=b.brw i xs hm h
  obtain ⟨h2,e2⟩:=a.brw i xs hm h1
  exact ⟨h2,e1.trans e2⟩
 len:=b.len.trans a.len
 mutK:=λi d' h=>by
  obtain ⟨⟨d1,h1⟩,e1⟩:=b.mutK i d' h
  obtain ⟨h2,e2⟩:=a.mutK i d1 h1
  exact ⟨h2,e1.trans e2⟩
noncomputable def cN (K:PySem.W.Frag) (B:Hp) (O₀ O:List Addr) (ρ:Rho) (σ:St) (D:i0):R->Prop
 | .next ρ'=>∀ σ' H' O',au K B O₀ O' H' ρ' σ'->aU B O O' ρ ρ' σ σ'->D.nx σ' H'
 | .brk ρ'=>∀ σ' H' O',au K B O₀ O' H' ρ' σ'->aU B O O' ρ ρ' σ σ'->D.bk σ' H'
 | .cont ρ'=>∀ σ' H' O',au K B O₀ O' H' ρ' σ'->aU B O O' ρ ρ' σ σ'->D.ct σ' H'
 | .ret v=>∀ u H',ag B H'->Rep K (am H' O₀) v u->D.rt u H'
 | .retM v ρ'=>∀ σ' H' O',au K B O₀ O' H' ρ' σ'->aU B O O' ρ ρ' σ σ'->D.rt v.v H'
 | .retF xs=>∀ p us H',ag B H'->B p=none->H' p=some (.lst us)->Reps K (am H' (p::O₀)) xs us->D.rt (.ref p) H'
 | .bad=>False
theorem cN.trans {K:PySem.W.Frag}{B:Hp}{O₀ O O':List Addr}{ρ ρ':Rho}{σ σ':St}{D:i0}{r:R} (h:cN K B O₀ O ρ σ D r) (k:aU B O O' ρ ρ' σ σ'):cN K B O₀ O' ρ' σ' D r:=by
 cases r with
 | next ρ2=>exact λσ2 H2 O2 st k2=>h σ2 H2 O2 st (k.trans k2)
 | brk ρ2=>exact λσ2 H2 O2 st k2=>h σ2 H2 O2 st (k.trans k2)
 | cont ρ2=>exact λσ2 H2 O2 st k2=>h σ2 H2 O2 st (k.trans k2)
 | ret v=>exact h
 | bad=>exact h
 | retF xs=>exact h
 | retM v ρ2=>exact λσ2 H2 O2 st k2=>h σ2 H2 O2 st (k.trans k2)
noncomputable def tS (K:PySem.W.Frag) (cal:Cal) (m:MS):TS:=λD σ H=>∃ B O₀ O ρ,au K B O₀ O H ρ σ/\cN K B O₀ O ρ σ D (ex cal m ρ)
noncomputable def tSs (K:PySem.W.Frag) (cal:Cal) (ms:List MS):TS:=λD σ H=>∃ B O₀ O ρ,au K B O₀ O H ρ σ/\cN K B O₀ O ρ σ D (exs cal ms ρ)
section
variable {K:PySem.W.Frag}{B H H':Hp}{O₀ O:List Addr}{ρ:Rho}{σ:St}
theorem ac {i:Nat}{m:MV} (h:i < ρ.length):(put ρ i m)[i]?=some (some m):=by unfold put;exact List.getElem?_set_self h
theorem ab {i j:Nat}{m:MV} (h:i ≠ j):(put ρ i m)[j]?=ρ[j]?:=by unfold put;exact List.getElem?_set_ne h
theorem bH {i:Nat}{m:MV}:(put ρ i m).length=ρ.length:=by unfold put;exact List.length_set
theorem au.store (st:au K B O₀ O H ρ σ) {i:Nat}{v:PV}{u:V} (hi:i < σ.length) (r:Rep K (am H O) v u):au K B O₀ O H (put ρ i (.val v)) (σ.set i (some u))/\aU B O O ρ (put ρ i (.val v)) σ (σ.set i (some u)):=by
 have hi':i < ρ.length:=by rw [st.len];exact hi
 refine ⟨⟨st.keep,st.here,st.sub,st.old,by rw [bH,List.length_set];exact st.len,λj m e=>?_,λa b xs ys ad hab e1 e2 o1 o2 e3 e4=>?_⟩,⟨λ_ _ h=>h,λ_ h=>.inl h,λj xs hbm e=>?_,bH
  ,λj d' e=>?_
  ⟩⟩
 ·by_cases hj:i=j
  ·subst hj
   rw [ac hi'] at e
   cases e
   exact ⟨u,List.getElem?_set_self hi,r⟩
  ·rw [ab hj] at e
   obtain ⟨w,e1,q⟩:=st.slot j m e
   exact ⟨w,by rw [List.getElem?_set_ne hj];exact e1,q⟩
 ·have h1:i ≠ a:=λz=>by subst z;rw [ac hi'] at e1;cases e1;cases o1
  have h2:i ≠ b:=λz=>by subst z;rw [ac hi'] at e2;cases e2;cases o2
  rw [ab h1] at e1
  rw [ab h2] at e2
  rw [List.getElem?_set_ne h1] at e3
  rw [List.getElem?_set_ne h2] at e4
  exact st.apart a b xs ys ad hab e1 e2 o1 o2 e3 e4
 ·have hj:i ≠ j:=λz=>by subst z;rw [ac hi'] at e;cases e;cases hbm
  rw [ab hj] at e
  exact ⟨e,List.getElem?_set_ne hj⟩
 ·have hj:i ≠ j:=λz=>by subst z;rw [ac hi'] at e;cases e
  rw [ab hj] at e
  exact ⟨⟨d',e⟩,List.getElem?_set_ne hj⟩
theorem au.storeM (st:au K B O₀ O H ρ σ) {i:Nat}{mm:MV}{p:Addr} (hi:i < σ.length) (s:ag H H') (hp:H p=none) (e:H' p ≠ none) (hm:gr mm=true)
  (hmm:∀ d,mm ≠ .mutD d)
  (r:B p=none->dS K B (p::O) H' mm (.ref p)) :
  au K B O₀ (p::O) H' (put ρ i mm) (σ.set i (some (.ref p)))/\aU B O (p::O) ρ (put ρ i mm) σ (σ.set i (some (.ref p))):=by
 have hi':i < ρ.length:=by rw [st.len];exact hi
 have hBp:B p=none:=st.keep.free hp
 have vis:ag (am H O) (am H' (p::O)):=bi s λb hb=>by
  rcases List.mem_cons.mp hb with rfl|hb
  ·exact .inr hp
  ·exact .inl hb
 refine ⟨⟨st.keep.trans s,λa ha=>?_,λa ha=>List.mem_cons_of_mem _ (st.sub a ha),st.old,by rw [bH,List.length_set];exact st.len,λj m ej=>?_,λa b xs ys ad hab e1 e2 o1 o2 e3 e4=>?_⟩,⟨λ_ _ h=>List.mem_cons_of_mem _ h,λa ha=>?_,λj xs hbm ej=>?_,bH
  ,λj d' ej=>?_
  ⟩⟩
 ·rcases List.mem_cons.mp ha with rfl|ha
  ·exact e
  ·exact λz=>st.here a ha (s.free z)
 ·by_cases hj:i=j
  ·subst hj
   rw [ac hi'] at ej
   cases ej
   exact ⟨_,List.getElem?_set_self hi,r hBp⟩
  ·rw [ab hj] at ej
   obtain ⟨w,e1,q⟩:=st.slot j m ej
   refine ⟨w,by rw [List.getElem?_set_ne hj];exact e1,?_⟩
   cases m with
   | val v=>exact Rep.mono vis _ q
   | own ys=>obtain ⟨a,ws,e2,h1,h2,h3,h4⟩:=q;exact ⟨a,ws,e2,s _ _ h1,Reps.mono vis _ h2,List.mem_cons_of_mem _ h3,h4⟩
   | brw ys=>obtain ⟨a,ws,e2,h1,h2⟩:=q;exact ⟨a,ws,e2,h1,Reps.mono vis _ h2⟩
   | ownD ys=>obtain ⟨a,e2,h1,h3,h4⟩:=q;exact ⟨a,e2,s _ _ h1,List.mem_cons_of_mem _ h3,h4⟩
   | mutD ys=>obtain ⟨a,e2,h1,h3,h4⟩:=q;exact ⟨a,e2,s _ _ h1,List.mem_cons_of_mem _ h3,h4⟩
   | brwD ys=>exact q
 ·have other:∀ (j:Nat) (zs:MV) (ad:Addr),ρ[j]?=some (some zs)->gr zs=true->σ[j]?=some (some (.ref ad))->ad ≠ p:=λj zs ad h1 ho h2 z=>by
   obtain ⟨w,e1,q⟩:=st.slot j _ h1
   rw [h2] at e1
   cases e1
   cases zs with
   | own zs =>
    obtain ⟨a,ws,e2,h1,_⟩:=q
    cases e2
    rw [z,hp] at h1;cases h1
   | ownD zs =>
    obtain ⟨a,e2,h1,_⟩:=q
    cases e2
    rw [z,hp] at h1;cases h1
   | mutD zs =>
    obtain ⟨a,e2,h1,_⟩:=q
    cases e2
    rw [z,hp] at h1;cases h1
   | val _=>cases ho
   | brw _=>cases ho
   | brwD _=>cases ho
  by_cases ha:i=a
  ·subst ha
   have hb:i ≠ b:=hab
   rw [List.getElem?_set_self hi] at e3
   rw [ab hb] at e2
   rw [List.getElem?_set_ne hb] at e4
   cases e3
   exact other b ys _ e2 o2 e4 rfl
  ·by_cases hb:i=b
   ·subst hb
    rw [List.getElem?_set_self hi] at e4
    rw [ab ha] at e1
    rw [List.getElem?_set_ne ha] at e3
    cases e4
    exact other a xs _ e1 o1 e3 rfl
   ·rw [ab ha] at e1
    rw [ab hb] at e2
    rw [List.getElem?_set_ne ha] at e3
    rw [List.getElem?_set_ne hb] at e4
    exact st.apart a b _ _ ad hab e1 e2 o1 o2 e3 e4
 ·rcases List.mem_cons.mp ha with rfl|ha
  ·exact .inr hBp
  ·exact .inl ha
 ·have hj:i ≠ j:=λz=>by subst z;rw [ac hi'] at ej;cases ej;exact pO hm hbm
  rw [ab hj] at ej
  exact ⟨ej,List.getElem?_set_ne hj⟩
 ·have hj:i ≠ j:=λz=>by subst z;rw [ac hi'] at ej;cases ej;exact hmm d' rfl
  rw [ab hj] at ej
  exact ⟨⟨d',ej⟩,List.getElem?_set_ne hj⟩
theorem au.storeOwn (st:au K B O₀ O H ρ σ) {i:Nat}{xs:List PV}{p:Addr}{us:List V} (hi:i < σ.length) (s:ag H H') (hp:H p=none) (e:H' p=some (.lst us)) (r:Reps K (am H' (p::O)) xs us) :
  au K B O₀ (p::O) H' (put ρ i (.own xs)) (σ.set i (some (.ref p)))/\aU B O (p::O) ρ (put ρ i (.own xs)) σ (σ.set i (some (.ref p))) :=
 st.storeM hi s hp (by rw [e];simp) rfl (λ_ z=>by cases z) λhB=>⟨p,us,rfl,e,r,List.mem_cons_self,hB⟩
theorem au.changeM (st:au K B O₀ O H ρ σ) {i:Nat}{m0 m1:MV}{a:Addr}{ob:HO} (e:ρ[i]?=some (some m0)) (o0:gr m0=true) (o1:gr m1=true)
  (om:∀ d',m1=.mutD d'->∃ d,m0=.mutD d)
  (es:σ[i]?=some (some (.ref a))) (h3:a ∈ O) (h4:B a=none) (r:am (upd H a ob) O=am H O->dS K B O (upd H a ob) m1 (.ref a)) :
  au K B O₀ O (upd H a ob) (put ρ i m1) σ/\aU B O O ρ (put ρ i m1) σ σ:=by
 have hi':i < ρ.length:=(List.getElem?_eq_some_iff.mp e).1
 have hid:am (upd H a ob) O=am H O:=hE h3
 have other:∀ (j:Nat) (zs:MV) (ad:Addr),i ≠ j->ρ[j]?=some (some zs)->gr zs=true->σ[j]?=some (some (.ref ad))->ad ≠ a:=λj zs ad hj q1 o2 q2 z=>by
  subst z
  exact st.apart i j m0 zs ad hj e q1 o0 o2 es q2
 refine ⟨⟨λb u eb=>?_,λb hb=>?_,st.sub,st.old,by rw [bH];exact st.len,λj m ej=>?_,λc d ps qs ad hcd e1 e2 p1 p2 e3 e4=>?_⟩,⟨λ_ _ h=>h,λ_ h=>.inl h,λj zs hbm ej=>?_,bH
  ,λj d' ej=>?_
  ⟩⟩
 ·rw [aH (bC eb h4)]
  exact st.keep b u eb
 ·unfold upd
  split
  ·simp
  ·exact st.here b hb
 ·by_cases hj:i=j
  ·subst hj
   rw [ac hi'] at ej
   cases ej
   exact ⟨_,es,r hid⟩
  ·rw [ab hj] at ej
   obtain ⟨w,ew,q⟩:=st.slot j m ej
   refine ⟨w,ew,?_⟩
   cases m with
   | val v=>show Rep K (am (upd H a ob) O) v w;rw [hid];exact q
   | own zs =>
    obtain ⟨ad,ws,rfl,q1,q2,q3,q4⟩:=q
    refine ⟨ad,ws,rfl,?_,by rw [hid];exact q2,q3,q4⟩
    rw [aH (other j (.own zs) ad hj ej rfl ew)]
    exact q1
   | ownD zs =>
    obtain ⟨ad,rfl,q1,q3,q4⟩:=q
    refine ⟨ad,rfl,?_,q3,q4⟩
    rw [aH (other j (.ownD zs) ad hj ej rfl ew)]
    exact q1
   | mutD zs =>
    obtain ⟨ad,rfl,q1,q3,q4⟩:=q
    refine ⟨ad,rfl,?_,q3,q4⟩
    rw [aH (other j (.mutD zs) ad hj ej rfl ew)]
    exact q1
   | brwD zs=>exact q
   | brw zs=>obtain ⟨ad,ws,rfl,q1,q2⟩:=q;exact ⟨ad,ws,rfl,q1,by rw [hid];exact q2⟩
 ·have h1:∀ (j:Nat) (zs:MV),(put ρ i m1)[j]?=some (some zs)->gr zs=true->∃ zs,ρ[j]?=some (some zs)/\gr zs=true:=λj zs q oz=>by
   by_cases hj:i=j
   ·subst hj;exact ⟨m0,e,o0⟩
   ·rw [ab hj] at q;exact ⟨zs,q,oz⟩
  obtain ⟨q1,e1,p1⟩:=h1 c ps e1 p1
  obtain ⟨q2,e2,p2⟩:=h1 d qs e2 p2
  exact st.apart c d q1 q2 ad hcd e1 e2 p1 p2 e3 e4
 ·have hj:i ≠ j:=λz=>by subst z;rw [ac hi'] at ej;cases ej;exact pO o1 hbm
  rw [ab hj] at ej
  exact ⟨ej,rfl⟩
 ·by_cases hj:i=j
  ·subst hj
   rw [ac hi'] at ej
   cases ej
   obtain ⟨d,rfl⟩:=om d' rfl
   exact ⟨⟨d,e⟩,rfl⟩
  ·rw [ab hj] at ej
   exact ⟨⟨d',ej⟩,rfl⟩
theorem au.change (st:au K B O₀ O H ρ σ) {i:Nat}{xs ys:List PV}{a:Addr}{us:List V} (e:ρ[i]?=some (some (.own xs))) (es:σ[i]?=some (some (.ref a))) (r:Reps K (am H O) ys us) :
  au K B O₀ O (upd H a (.lst us)) (put ρ i (.own ys)) σ/\aU B O O ρ (put ρ i (.own ys)) σ σ:=by
 obtain ⟨w,e1,a',us',e2,h1,h2,h3,h4⟩:=st.slot i _ e
 rw [es] at e1
 cases e1
 cases e2
 exact st.changeM e rfl rfl (λ_ z=>by cases z) es h3 h4 λhid=>⟨a,us,rfl,ar,by rw [hid];exact r,h3,h4⟩
theorem au.changeD (st:au K B O₀ O H ρ σ) {i:Nat}{xs ys:DD}{a:Addr} (e:ρ[i]?=some (some (.ownD xs))) (es:σ[i]?=some (some (.ref a))) :
  au K B O₀ O (upd H a (cQ ys)) (put ρ i (.ownD ys)) σ/\aU B O O ρ (put ρ i (.ownD ys)) σ σ:=by
 obtain ⟨w,e1,a',e2,h1,h3,h4⟩:=st.slot i _ e
 rw [es] at e1
 cases e1
 cases e2
 exact st.changeM e rfl rfl (λ_ z=>by cases z) es h3 h4 λ_=>⟨a,rfl,ar,h3,h4⟩
theorem au.changeU (st:au K B O₀ O H ρ σ) {i:Nat}{xs ys:DD}{a:Addr} (e:ρ[i]?=some (some (.mutD xs))) (es:σ[i]?=some (some (.ref a))) :
  au K B O₀ O (upd H a (cQ ys)) (put ρ i (.mutD ys)) σ/\aU B O O ρ (put ρ i (.mutD ys)) σ σ:=by
 obtain ⟨w,e1,a',e2,h1,h3,h4⟩:=st.slot i _ e
 rw [es] at e1
 cases e1
 cases e2
 exact st.changeM e rfl rfl (λ_ _=>⟨_,rfl⟩) es h3 h4 λ_=>⟨a,rfl,ar,h3,h4⟩
theorem au.freeze (st:au K B O₀ O H ρ σ) {i:Nat}{xs:List PV} (e:ρ[i]?=some (some (.own xs))):∃ O',au K B O₀ O' H (put ρ i (.val (.lst xs))) σ/\aU B O O' ρ (put ρ i (.val (.lst xs))) σ σ:=by
 obtain ⟨w,es,a,us,rfl,h1,h2,h3,h4⟩:=st.slot i _ e
 have hi':i < ρ.length:=(List.getElem?_eq_some_iff.mp e).1
 have vis:ag (am H O) (am H (O.filter λb=>decide (b ≠ a))):=bi (ag.refl H) λb hb=>.inl (List.mem_filter.mp hb).1
 have mem:∀ b,b ≠ a->b ∈ O->b ∈ O.filter λb=>decide (b ≠ a):=λb hb ho=>List.mem_filter.mpr ⟨ho,decide_eq_true hb⟩
 refine ⟨O.filter λb=>decide (b ≠ a),⟨st.keep,λb hb=>st.here b (List.mem_filter.mp hb).1,λb hb=>mem b (λz=>st.old b hb (z ▸ h4)) (st.sub b hb),st.old,by rw [bH];exact st.len,λj m ej=>?_,λc d ps qs ad hcd e1 e2 p1 p2 e3 e4=>?_⟩,⟨λb hb ho=>mem b (λz=>hb (z ▸ h4)) ho,λb hb=>.inl (List.mem_filter.mp hb).1,λj zs hbm ej=>?_,bH
  ,λj d' ej=>?_
  ⟩⟩
 ·by_cases hj:i=j
  ·subst hj
   rw [ac hi'] at ej
   cases ej
   refine ⟨_,es,?_⟩
   show Rep K _ (.lst xs) (.ref a)
   rw [Rep]
   refine ⟨a,us,rfl,SqL.of ?_,Reps.mono vis _ h2⟩
   have hna:a ∉ O.filter λb=>decide (b ≠ a):=λz=>by simpa using (List.mem_filter.mp z).2
   rw [bD hna]
   exact h1
  ·rw [ab hj] at ej
   obtain ⟨w,ew,q⟩:=st.slot j m ej
   refine ⟨w,ew,?_⟩
   cases m with
   | val v=>exact Rep.mono vis _ q
   | own zs =>
    obtain ⟨ad,ws,rfl,q1,q2,q3,q4⟩:=q
    exact ⟨ad,ws,rfl,q1,Reps.mono vis _ q2,mem ad (λz=>st.apart i j (.own xs) (.own zs) a hj e ej rfl rfl es (by rw [ew,z])) q3,q4⟩
   | ownD zs =>
    obtain ⟨ad,rfl,q1,q3,q4⟩:=q
    exact ⟨ad,rfl,q1,mem ad (λz=>st.apart i j (.own xs) (.ownD zs) a hj e ej rfl rfl es (by rw [ew,z])) q3,q4⟩
   | mutD zs =>
    obtain ⟨ad,rfl,q1,q3,q4⟩:=q
    exact ⟨ad,rfl,q1,mem ad (λz=>st.apart i j (.own xs) (.mutD zs) a hj e ej rfl rfl es (by rw [ew,z])) q3,q4⟩
   | brwD zs=>exact q
   | brw zs=>obtain ⟨ad,ws,rfl,q1,q2⟩:=q;exact ⟨ad,ws,rfl,q1,Reps.mono vis _ q2⟩
 ·have h1:∀ (j:Nat) (zs:MV),gr zs=true->(put ρ i (.val (.lst xs)))[j]?=some (some zs)->ρ[j]?=some (some zs):=λj zs oz q=>by
   by_cases hj:i=j
   ·subst hj;rw [ac hi'] at q;cases q;cases oz
   ·rw [ab hj] at q;exact q
  exact st.apart c d ps qs ad hcd (h1 c ps p1 e1) (h1 d qs p2 e2) p1 p2 e3 e4
 ·have hj:i ≠ j:=λz=>by subst z;rw [ac hi'] at ej;cases ej;cases hbm
  rw [ab hj] at ej
  exact ⟨ej,rfl⟩
 ·have hj:i ≠ j:=λz=>by subst z;rw [ac hi'] at ej;cases ej
  rw [ab hj] at ej
  exact ⟨⟨d',ej⟩,rfl⟩
end
end MM
namespace MM
open PySem PySem.Spec PyProof.Rows L2
section
open AutoSeq1 (wpAny_loadPart')
open MeetsSeq MeetsSeq2 MeetsSeq3 SeqRoads2 AutoSeq1
theorem mw (l:Addr) (items:Array Value) (n:Nat) (b:Addr) (items2:Array Value) (n2:Nat) (dd2:Option Addr) (sl2:Array (Option Value)) (hs0:¬(!items.isEmpty&&Builtin.List.listTooLong (items.size + items2.size))=true) (hs1:items.size <= sizeLine) (hs2:items.size + items2.size <= sizeLine + 1) :
  Meets (Builtin.«list.extend» ⟨[.ref l,.ref b],[]⟩) (λ_ R s=>s.heap.get? l=some { cls:=.type "list",dict:=none,data:=.seq items n,slots:=#[] }/\s.heap.get? b=some { cls:=.type "tuple",dict:=dd2,data:=.seq items2 n2,slots:=sl2 }/\R (.ok (.ret Value.none)) { s with heap:=s.heap.update l (Obj.mapSeq λx=>x ++ items2),toks:=s.toks }) :=
 .of_wp λprog w A R s h=>by
  obtain ⟨hp,g,d,tk,os⟩:=s;obtain ⟨hl,hb,h⟩:=h;have f1:=AutoSeq1.idx_int;have f2:=AutoSeq1.sub_tuple_tuple;have f3:=AutoSeq1.sub_list_list;have f4:=AutoSeq1.sub_tuple_list;have f5:=AutoSeq1.sub_list_tuple;
  have hz':(items ++ items2).size <= sizeLine + 1:=by rw [Array.size_append];exact hs2
  wp_walk using (wpAny_updateSeq hl rfl (hz:=hs1) (_hz':=hz')),wpAny_loadPart' hl,wpAny_loadPart' hb;exact ⟨_,rfl,h⟩
theorem mx (l:Addr) (items:Array Value) (n:Nat) (b:Addr) (items2:Array Value) (n2:Nat) (dd2:Option Addr) (sl2:Array (Option Value)) (hs0:¬(!items.isEmpty&&Builtin.List.listTooLong (items.size + items2.size))=true) (hs1:items.size <= sizeLine) (hs2:items.size + items2.size <= sizeLine + 1) :
  Meets (Builtin.«list.extend» ⟨[.ref l,.ref b],[]⟩) (λ_ R s=>s.heap.get? l=some { cls:=.type "list",dict:=none,data:=.seq items n,slots:=#[] }/\s.heap.get? b=some { cls:=.type "list",dict:=dd2,data:=.seq items2 n2,slots:=sl2 }/\R (.ok (.ret Value.none)) { s with heap:=s.heap.update l (Obj.mapSeq λx=>x ++ items2),toks:=s.toks }) :=
 .of_wp λprog w A R s h=>by
  obtain ⟨hp,g,d,tk,os⟩:=s;obtain ⟨hl,hb,h⟩:=h;have f1:=AutoSeq1.idx_int;have f2:=AutoSeq1.sub_tuple_tuple;have f3:=AutoSeq1.sub_list_list;have f4:=AutoSeq1.sub_tuple_list;have f5:=AutoSeq1.sub_list_tuple;
  have hz':(items ++ items2).size <= sizeLine + 1:=by rw [Array.size_append];exact hs2
  wp_walk using (wpAny_updateSeq hl rfl (hz:=hs1) (_hz':=hz')),wpAny_loadPart' hl,wpAny_loadPart' hb;exact ⟨_,rfl,h⟩
end
section
variable {X:Cx}{T:Tab}{k:Nat}{cal:Cal}
theorem oH:MtM X "list.extend" (λx vs H Q=>∃ l b xs zs,x=.ref l/\vs=[.ref b]/\H l=some (.lst xs)/\(SqL X.K H b zs \/ SqT X.K H b zs)/\xs.length + zs.length <= sizeLine/\Q .non (upd H l (.lst (xs ++ zs)))):=by
 intro pins s σ H x vs v us Q I rx rv h
 obtain ⟨l,b,xs,zs,rfl,rfl,hH,hB,hz,q⟩:=h
 cases rx
 obtain ⟨u,rfl,ru⟩:=rv.one
 cases ru
 obtain ⟨z,its,n,r,hl,e⟩:=I.lstM hH
 have fin:∀ its2:List Value,al zs its2->EP X pins σ Q .none { s with heap:=s.heap.update l (Obj.mapSeq λx=>x ++ its2.toArray),toks:=s.toks }:=λits2 r2 =>
  ⟨.non,_,I.lset (its':=its ++ its2) hH e (by simp) (r.append r2) (by rw [List.length_append];omega),rfl,q⟩
 rcases hB with hB|hB
 ·obtain ⟨its2,r2,pl,z2⟩:=I.list hB
  have hl2:=r2.length
  have hsz:its.toArray.size + its2.toArray.size <= sizeLine:=by rw [List.size_toArray,List.size_toArray];omega
  have hlong:¬ (!its.toArray.isEmpty&&Builtin.List.listTooLong (its.toArray.size + its2.toArray.size))=true:=by
   rw [mU hsz,Bool.and_false]
   exact Bool.false_ne_true
  obtain ⟨⟨cls,dd,data,sl⟩,ho,hc,n2,hd⟩:=pl.isList
  simp only at hc hd
  subst hc hd
  exact call_meets PySem.F.slot_list_extend ⟨_,e,rfl⟩ PySem.F.entry_list_extend (PySem.F.args_list_extend_2 _ _) (mx l its.toArray n b its2.toArray n2 dd sl hlong (by rw [List.size_toArray];omega) (by omega)) ⟨e,ho,fin its2 r2⟩
 ·obtain ⟨its2,r2,pl,z2⟩:=I.tuple hB
  have hl2:=r2.length
  have hsz:its.toArray.size + its2.toArray.size <= sizeLine:=by rw [List.size_toArray,List.size_toArray];omega
  have hlong:¬ (!its.toArray.isEmpty&&Builtin.List.listTooLong (its.toArray.size + its2.toArray.size))=true:=by
   rw [mU hsz,Bool.and_false]
   exact Bool.false_ne_true
  obtain ⟨⟨cls,dd,data,sl⟩,ho,hc,n2,hd⟩:=pl
  simp only at hc hd
  subst hc hd
  exact call_meets PySem.F.slot_list_extend ⟨_,e,rfl⟩ PySem.F.entry_list_extend (PySem.F.args_list_extend_2 _ _) (mw l its.toArray n b its2.toArray n2 dd sl hlong (by rw [List.size_toArray];omega) (by omega)) ⟨e,ho,fin its2 r2⟩
structure Df (X:Cx):Prop where
 nd:X.N.Nodup
 fn:∀ x,X.fn x=true
 own:PassesOwn (model X.prog X.w) X.A X.env X.xe
 blk:(X.env.blockKind == .function)=true
theorem b8 {v:Expr} (h:bf v=true) (t:Option Expr) (n:Nat) (env:Env):swapsWith v t n env=pure false:=by
 cases v <;> first|rfl|(simp [bf] at h)
theorem qI {v:Expr}{x:Str}{px:Pos}{n:Nat} (d:Df X) (h:pz X.env.scope x px v=true):swapsWith v (some (.Name x px)) n X.env=pure true:=by
 cases v with
 | ListComp e gs s p =>
  show pure (X.env.blockKind == .function&&X.env.kindOf x == some .local&&px.line == p.line&&!(s.names.any λ(n,k)=>n == x&&(k == .local || k == .cell)))=pure true
  have h':(X.env.scope.names.lookup x == some .local&&px.line == p.line&&!(s.names.any λ(n,k)=>n == x&&(k == .local || k == .cell)))=true:=h
  rw [d.blk,Bool.true_and]
  exact congrArg pure h'
 | _=>simp [pz] at h
theorem qJ {v:Expr}{x:Str}{px:Pos}{n:Nat} (h:pA X.env.scope x v=true):swapsWith v (some (.Name x px)) n X.env=pure false:=by
 cases v with
 | ListComp e gs s p =>
  show pure (X.env.blockKind == .function&&X.env.kindOf x == some .local&&px.line == p.line&&!(s.names.any λ(n,k)=>n == x&&(k == .local || k == .cell)))=pure false
  have h':(!(X.env.scope.names.lookup x == some .local))=true:=h
  rw [Bool.not_eq_true'] at h'
  have h2:(X.env.kindOf x == some .local)=false:=h'
  rw [h2,Bool.and_false,Bool.false_and,Bool.false_and]
 | _=>simp [pA] at h
theorem PS.imp' {e:Stmt}{t t':TS} (h:PS X e t) (i:∀ D σ H,σ.length=X.N.length->t' D σ H->t D σ H):PS X e t':=λpins s σ H D I q=>h pins s σ H D I (i D σ H I.len q)
theorem ltN {N:List Str}{i:Nat}{x:Str}{σ:St} (h:N[i]?=some x) (hl:σ.length=N.length):i < σ.length:=by rw [hl];exact (List.getElem?_eq_some_iff.mp h).1
theorem bI {K:PySem.W.Frag}{B:Hp}{O₀ O:List Addr}{ρ:Rho}{σ:St}{D:i0}{o:Option PV}{f:PV->R} (h:cN K B O₀ O ρ σ D (cK o f)):∃ v,o=some v/\cN K B O₀ O ρ σ D (f v):=by
 cases o with
 | none=>exact (show False from h).elim
 | some v=>exact ⟨v,rfl,h⟩
theorem lw {K:PySem.W.Frag}{B:Hp}{O₀ O:List Addr}{ρ:Rho}{σ:St}{D:i0}{o:Option Bool}{f:Bool->R} (h:cN K B O₀ O ρ σ D (nh o f)):∃ v,o=some v/\cN K B O₀ O ρ σ D (f v):=by
 cases o with
 | none=>exact (show False from h).elim
 | some v=>exact ⟨v,rfl,h⟩
theorem oI {i:Nat}{me:ME}{σ:St}{H:Hp}{D:i0}{K:PySem.W.Frag} (hi:i < σ.length) (hb:av me=false) (q:tS K cal (.set i me) D σ H):rO (tE K cal me) (iS i) D σ H:=by
 obtain ⟨B,O₀,O,ρ,st,q⟩:=q
 rw [ex] at q
 obtain ⟨w,e,q⟩:=bI q
 refine ⟨B,O₀,O,ρ,w,st,e,λu H' s g=>?_⟩
 obtain ⟨st',k'⟩:=(st.mono s).store hi (g.2 hb)
 exact q _ H' O st' k'
theorem AU {i:Nat}{me:ME}{x:Str}{v:Expr}{px pos:Pos} (d:Df X) (hi:X.N[i]?=some x) (hx:Loc X.env.scope x) (h:PE X v (tE X.K cal me)) (hb:av me=false) (hc:bf v=true):PS X (.Assign [.Name x px] v pos) (tS X.K cal (.set i me)) :=
 PS.imp' (gc d.nd hi hx h (b8 hc _ _ _) (.inl (d.fn x))) λD σ H hl q=>oI (ltN hi hl) hb q
theorem tY {i:Nat}{me:ME}{σ:St}{H:Hp}{D:i0}{K:PySem.W.Frag} (hi:i < σ.length) (q:tS K cal (.setOwn i me) D σ H):rO (tF K cal me) (iS i) D σ H:=by
 obtain ⟨B,O₀,O,ρ,st,q⟩:=q
 rw [ex] at q
 obtain ⟨w,e,q⟩:=bI q
 cases w with
 | lst xs =>
  refine ⟨B,O₀,O,ρ,xs,st,e,λp us H' s hp he r=>?_⟩
  obtain ⟨st',k'⟩:=st.storeOwn hi s hp he r
  exact q _ H' _ st' k'
 | _=>exact (show False from q).elim
theorem AV {i:Nat}{me:ME}{x:Str}{v:Expr}{px pos:Pos} (d:Df X) (hi:X.N[i]?=some x) (hx:Loc X.env.scope x) (h:PE X v (tF X.K cal me)) (hc:bf v=true):PS X (.Assign [.Name x px] v pos) (tS X.K cal (.setOwn i me)) :=
 PS.imp' (gc d.nd hi hx h (b8 hc _ _ _) (.inl (d.fn x))) λD σ H hl q=>tY (ltN hi hl) q
theorem tZ {i:Nat}{me:ME}{x:Str}{v:Expr}{p apos cpos pos:Pos} (h:PE X v (tE X.K cal me)) (hn:aT X.N X.env.scope i x=true) (hb:av me=false) (hs:aj v=true) (hline:(apos.endLine == cpos.line)=true) :
  PS X (.Expr (.Call (.Attribute (.Name x p) "append" apos) [v] [] cpos) pos) (tS X.K cal (.append i me)):=by
 refine (lK (wV PySem.F.plainAttrs_list PySem.F.slot_list_append PySem.F.type_list_append kT (ci hn) (a_ h cG (ba hs _ _)) rfl (by rw [ba hs];rfl) hline (ba hs _ _) rfl) rfl).imp λD σ H q=>?_
 obtain ⟨B,O₀,O,ρ,st,q⟩:=q
 rw [ex] at q
 obtain ⟨w,e,q⟩:=bI q
 cases hj:(ρ[i]?).join with
 | none=>rw [hj] at q;exact (show False from q).elim
 | some m =>
  rw [hj] at q
  cases m with
  | own xs =>
   dsimp only at q
   split at q
   ·rename_i hl
    obtain ⟨u,eu,a,us,rfl,ha,rs,hO,hB⟩:=bt st hj
    refine ⟨_,eu,.inl ⟨rfl,us,SqL.of ha⟩,B,O₀,O,ρ,w,st,e,λu H1 s g=>⟨a,us,u,rfl,rfl,s _ _ ha,?_,?_⟩⟩
    ·rw [<- rs.length];exact Nat.lt_of_lt_of_le hl (by decide)
    ·obtain ⟨st',k'⟩:=(st.mono s).change (us:=us ++ [u]) (ys:=xs ++ [w]) (aB hj) eu ((Reps.mono (aA s) _ rs).snoc (g.2 hb))
     exact q _ _ _ st' k'
   ·exact (show False from q).elim
  | val _=>exact (show False from q).elim
  | brw _=>exact (show False from q).elim
  | ownD _=>exact (show False from q).elim
  | mutD _=>exact (show False from q).elim
  | brwD _=>exact (show False from q).elim
theorem t0 {i:Nat}{me:ME}{x:Str}{v:Expr}{p apos cpos pos:Pos} (h:PE X v (tE X.K cal me)) (hn:aT X.N X.env.scope i x=true) (hs:aj v=true) (hline:(apos.endLine == cpos.line)=true) :
  PS X (.Expr (.Call (.Attribute (.Name x p) "extend" apos) [v] [] cpos) pos) (tS X.K cal (.extend i me)):=by
 refine (lK (wV PySem.F.plainAttrs_list PySem.F.slot_list_extend PySem.F.type_list_extend oH (ci hn) (a_ h cG (ba hs _ _)) rfl (by rw [ba hs];rfl) hline (ba hs _ _) rfl) rfl).imp λD σ H q=>?_
 obtain ⟨B,O₀,O,ρ,st,q⟩:=q
 rw [ex] at q
 obtain ⟨w,e,q⟩:=bI q
 cases hj:(ρ[i]?).join with
 | none=>rw [hj] at q;exact (show False from q).elim
 | some m =>
  rw [hj] at q
  cases m with
  | own xs =>
   cases hw:aO w with
   | none=>rw [hw] at q;exact (show False from q).elim
   | some ys =>
    rw [hw] at q
    dsimp only at q
    split at q
    ·rename_i hl
     obtain ⟨u,eu,a,us,rfl,ha,rs,hO,hB⟩:=bt st hj
     refine ⟨_,eu,.inl ⟨rfl,us,SqL.of ha⟩,B,O₀,O,ρ,w,st,e,λu H1 s g=>?_⟩
     obtain ⟨b,ws,rfl,sq,rw'⟩:=g.1.seq hw
     refine ⟨a,b,us,ws,rfl,rfl,s _ _ ha,sq,?_,?_⟩
     ·rw [<- rs.length,<- rw'.length];exact eB hl
     ·obtain ⟨st',k'⟩:=(st.mono s).change (us:=us ++ ws) (ys:=xs ++ ys) (aB hj) eu ((Reps.mono (aA s) _ rs).append rw')
      exact q _ _ _ st' k'
    ·exact (show False from q).elim
  | val _=>exact (show False from q).elim
  | brw _=>exact (show False from q).elim
  | ownD _=>exact (show False from q).elim
  | mutD _=>exact (show False from q).elim
  | brwD _=>exact (show False from q).elim
theorem yM {m:Bool}{i:Nat}{x:Str}{px dp pos:Pos} (d:Df X) (hi:X.N[i]?=some x) (hx:Loc X.env.scope x):PS X (.Assign [.Name x px] (.Dict [] [] dp) pos) (tS X.K cal (.newD m i)):=by
 cases m with
 | false =>
  refine PS.imp' (gc d.nd hi hx sg (b8 (v:=.Dict [] [] dp) rfl _ _ _) (.inl (d.fn x))) λD σ H hl q=>?_
  obtain ⟨B,O₀,O,ρ,st,q⟩:=q
  rw [ex] at q
  intro p hp
  obtain ⟨st',k'⟩:=st.storeM (mm:=.ownD (.k [])) (ltN hi hl) (ax hp (.dK [])) hp (by rw [ar];simp) rfl (λ_ z=>by cases z) λhB=>⟨p,rfl,ar,List.mem_cons_self,hB⟩
  exact q _ _ _ st' k'
 | true =>
  refine PS.imp' (gc d.nd hi hx si (b8 (v:=.Dict [] [] dp) rfl _ _ _) (.inl (d.fn x))) λD σ H hl q=>?_
  obtain ⟨B,O₀,O,ρ,st,q⟩:=q
  rw [ex] at q
  intro p hp
  obtain ⟨st',k'⟩:=st.storeM (mm:=.ownD (.t [])) (ltN hi hl) (ax hp (.dT [])) hp (by rw [ar];simp) rfl (λ_ z=>by cases z) λhB=>⟨p,rfl,ar,List.mem_cons_self,hB⟩
  exact q _ _ _ st' k'
theorem yN {i:Nat}{mk me:ME}{x:Str}{v s:Expr}{p spos pos:Pos} (g0:Gf X T k cal) (hk:PE X s (tE X.K cal mk)) (h:PE X v (tE X.K cal me)) (hn:aT X.N X.env.scope i x=true) (hc:bf v=true) :
  PS X (.Assign [.Subscript (.Name x p) s spos] v pos) (tS X.K cal (.dput i mk me)):=by
 have hu:X.A.units + 3 < cLine:=by have:=g0.units;omega
 refine (vK hu (ci hn) hk h (by cases v <;> first|rfl|(simp [bf] at hc))).imp λD σ H q=>?_
 obtain ⟨B,O₀,O,ρ,st,q⟩:=q
 rw [ex] at q
 obtain ⟨w,e,q⟩:=bI q
 obtain ⟨kv,ek,q⟩:=bI q
 cases hj:(ρ[i]?).join with
 | none=>rw [hj] at q;exact (show False from q).elim
 | some m =>
  rw [hj] at q
  cases m with
  | ownD d =>
   cases hz:sc? w with
   | none=>rw [hz] at q;exact (show False from q).elim
   | some sz =>
    rw [hz] at q
    dsimp only at q
    cases hd:l8 d kv sz with
    | none=>rw [hd] at q;exact (show False from q).elim
    | some d' =>
     rw [hd] at q
     obtain ⟨u,eu,a,rfl,ha,hO,hB⟩:=bt st hj
     refine ⟨B,O₀,O,ρ,w,st,e,λu H1 s1 g1=>⟨_,eu,B,O₀,O,ρ,_,st.mono s1,ek,λuk H2 s2 g2=>?_⟩⟩
     refine ⟨a,_,rfl,by rw [mt hz g1.1];exact pN hd (s2 _ _ (s1 _ _ ha)) g2.1,?_⟩
     obtain ⟨st',k'⟩:=((st.mono s1).mono s2).changeD (ys:=d') (aB hj) eu
     exact q _ _ _ st' k'
  | mutD d =>
   cases hz:sc? w with
   | none=>rw [hz] at q;exact (show False from q).elim
   | some sz =>
    rw [hz] at q
    dsimp only at q
    cases hd:l8 d kv sz with
    | none=>rw [hd] at q;exact (show False from q).elim
    | some d' =>
     rw [hd] at q
     obtain ⟨u,eu,a,rfl,ha,hO,hB⟩:=bt st hj
     refine ⟨B,O₀,O,ρ,w,st,e,λu H1 s1 g1=>⟨_,eu,B,O₀,O,ρ,_,st.mono s1,ek,λuk H2 s2 g2=>?_⟩⟩
     refine ⟨a,_,rfl,by rw [mt hz g1.1];exact pN hd (s2 _ _ (s1 _ _ ha)) g2.1,?_⟩
     obtain ⟨st',k'⟩:=((st.mono s1).mono s2).changeU (ys:=d') (aB hj) eu
     exact q _ _ _ st' k'
  | val _=>exact (show False from q).elim
  | brw _=>exact (show False from q).elim
  | own _=>exact (show False from q).elim
  | brwD _=>exact (show False from q).elim
theorem yO {me:ME}{v:Expr}{pos:Pos} (h:PE X v (tE X.K cal me)) (hc:bf v=true):PS X (.Expr v pos) (tS X.K cal (.expr me)):=by
 refine (lK h (b8 hc _ _ _)).imp λD σ H q=>?_
 obtain ⟨B,O₀,O,ρ,st,q⟩:=q
 rw [ex] at q
 obtain ⟨w,e,q⟩:=bI q
 exact ⟨B,O₀,O,ρ,w,st,e,λu H' s g=>q _ H' O (st.mono s) .refl⟩
theorem AW {me:ME}{v:Expr}{pos:Pos} (h:PE X v (tE X.K cal me)) (hb:av me=false):PS X (.Return (some v) pos) (tS X.K cal (.ret me)):=by
 refine (lL h).imp λD σ H q=>?_
 obtain ⟨B,O₀,O,ρ,st,q⟩:=q
 rw [ex] at q
 obtain ⟨w,e,q⟩:=bI q
 exact ⟨B,O₀,O,ρ,w,st,e,λu H' s g=>q u H' (st.keep.trans s) (Rep.mono (bi (ag.refl H') λb hb=>.inl (st.sub b hb)) _ (g.2 hb))⟩
theorem yP {me:ME}{v:Expr}{pos:Pos} (h:PE X v (tE X.K cal me)):PS X (.Return (some v) pos) (tS X.K cal (.retM me)):=by
 refine (lL h).imp λD σ H q=>?_
 obtain ⟨B,O₀,O,ρ,st,q⟩:=q
 rw [ex] at q
 obtain ⟨w,e,q⟩:=bI q
 cases hz:sc? w with
 | none=>rw [hz] at q;exact (show False from q).elim
 | some sz =>
  rw [hz] at q
  refine ⟨B,O₀,O,ρ,w,st,e,λu H' s g=>?_⟩
  rw [mt hz g.1]
  exact q σ H' O (st.mono s) .refl
theorem t4 {i:Nat}{x:Str}{p pos:Pos} (hn:aT X.N X.env.scope i x=true):PS X (.Return (some (.Name x p)) pos) (tS X.K cal (.retOwn i)):=by
 refine (lL (ci hn)).imp λD σ H q=>?_
 obtain ⟨B,O₀,O,ρ,st,q⟩:=q
 rw [ex] at q
 have low:ag (am H O) (am H O₀):=bi (ag.refl H) λb hb=>.inl (st.sub b hb)
 cases hj:(ρ[i]?).join with
 | none=>rw [hj] at q;exact (show False from q).elim
 | some m =>
  rw [hj] at q
  cases m with
  | own xs =>
   obtain ⟨u,eu,a,us,rfl,ha,rs,hO,hB⟩:=bt st hj
   refine ⟨_,eu,q _ H st.keep ?_⟩
   rw [Rep]
   refine ⟨a,us,rfl,SqL.of ?_,Reps.mono low _ rs⟩
   rw [bD λz=>st.old a z hB]
   exact ha
  | val v =>
   obtain ⟨u,eu,so⟩:=bt st hj
   exact ⟨_,eu,q _ H st.keep (Rep.mono low _ so)⟩
  | brw _=>exact (show False from q).elim
  | mutD _=>exact (show False from q).elim
  | ownD kvs =>
   obtain ⟨u,eu,a,rfl,ha,hO,hB⟩:=bt st hj
   refine ⟨_,eu,q _ H st.keep ?_⟩
   rw [Rep]
   refine ⟨a,rfl,.inl ?_⟩
   rw [bD λz=>st.old a z hB]
   exact ha
  | brwD _=>exact (show False from q).elim
theorem B0 {c:ME}{a b:List MS}{t:Expr}{x y:List Stmt}{pos:Pos} (hc:PT X t (tT X.K cal c)) (ha:PSs X x (tSs X.K cal a)) (hb:PSs X y (tSs X.K cal b)):PS X (.If t x y pos) (tS X.K cal (.ite c a b)):=by
 refine (rM hc ha hb).imp λD σ H q=>?_
 obtain ⟨B,O₀,O,ρ,st,q⟩:=q
 rw [ex] at q
 obtain ⟨w,e,q⟩:=lw q
 refine ⟨B,O₀,O,ρ,w,st,e,λH' s=>?_⟩
 cases w with
 | true=>rw [if_pos rfl] at q ⊢;exact ⟨B,O₀,O,ρ,st.mono s,q⟩
 | false=>rw [if_neg (by simp)] at q ⊢;exact ⟨B,O₀,O,ρ,st.mono s,q⟩
theorem yQ {m:MS}{ms:List MS}{st:Stmt}{ss:List Stmt} (h1:PS X st (tS X.K cal m)) (h2:PSs X ss (tSs X.K cal ms)):PSs X (st::ss) (tSs X.K cal (m::ms)):=by
 refine (rL h1 h2).imp λD σ H q=>?_
 obtain ⟨B,O₀,O,ρ,st,q⟩:=q
 refine ⟨B,O₀,O,ρ,st,?_⟩
 rw [exs] at q
 cases e:ex cal m ρ with
 | next ρ'=>rw [e] at q;exact λσ' H' O' st' k=>⟨B,O₀,O',ρ',st',cN.trans q k⟩
 | brk ρ'=>rw [e] at q;exact q
 | cont ρ'=>rw [e] at q;exact q
 | ret v=>rw [e] at q;exact q
 | bad=>rw [e] at q;exact q
 | retF xs=>rw [e] at q;exact q
 | retM v ρ2=>rw [e] at q;exact q
theorem AX:PSs X [] (tSs X.K cal []):=by
 refine vk.imp λD σ H q=>?_
 obtain ⟨B,O₀,O,ρ,st,q⟩:=q
 rw [exs] at q
 exact q σ H O st .refl
end
end MM
namespace MM
open PySem PySem.Spec PyProof.Rows L2
inductive dJ (σ:St) (ρ:Rho):List Bool->List ME->List MV->List V->List Addr->List Nat->Prop where
 | nil:dJ σ ρ [] [] [] [] [] []
 | mutd {i:Nat}{d:DD}{a:Addr}{bs:List Bool}{es:List ME}{as:List MV}{vs:List V}{ms:List Addr}{is:List Nat} (hd:pp (ρ[i]?).join=some d) (hσ:σ[i]?=some (some (.ref a))) (hi:i ∉ is) (ha:a ∉ ms) (t:dJ σ ρ bs es as vs ms is):dJ σ ρ (true::bs) (.bor i::es) (.mutD d::as) (.ref a::vs) (a::ms) (i::is)
 | other {e:ME}{m:MV}{v:V}{bs:List Bool}{es:List ME}{as:List MV}{vs:List V}{ms:List Addr}{is:List Nat} (hm:∀ d,m ≠ .mutD d) (t:dJ σ ρ bs es as vs ms is):dJ σ ρ (false::bs) (e::es) (m::as) (v::vs) ms is
theorem hW {o:Option MV}{d:DD} (h:pp o=some d):o=some (.ownD d) \/ o=some (.mutD d):=by
 match o,h with
 | some (.ownD _),rfl=>exact .inl rfl
 | some (.mutD _),rfl=>exact .inr rfl
section
variable {σ:St}{ρ:Rho}{bs:List Bool}{es:List ME}{as:List MV}{vs:List V}{ms:List Addr}{is:List Nat}
theorem dJ.addr (h:dJ σ ρ bs es as vs ms is):∀ a ∈ ms,∃ j ∈ is,σ[j]?=some (some (.ref a))/\∃ d,pp (ρ[j]?).join=some d:=by
 induction h with
 | nil=>intro a ha;cases ha
 | mutd hd hσ hi ha t ih =>
  intro b hb
  rcases List.mem_cons.mp hb with rfl|hb
  ·exact ⟨_,.head _,hσ,_,hd⟩
  ·obtain ⟨j,h1,h2⟩:=ih b hb
   exact ⟨j,.tail _ h1,h2⟩
 | other hm t ih=>exact ih
theorem dJ.put (h:dJ σ ρ bs es as vs ms is) {i:Nat}{d:DD} (hi:i ∉ is):dJ σ (kH ρ i d) bs es as vs ms is:=by
 induction h with
 | nil=>exact .nil
 | mutd hd hσ hi2 ha t ih =>
  rename_i j _ _ _ _ _ _ _ is
  refine .mutd ?_ hσ hi2 ha (ih λz=>hi (.tail _ z))
  have hij:i ≠ j:=λz=>hi (z ▸ .head _)
  have:(kH ρ i d)[j]?=ρ[j]?:=by
   unfold kH
   split <;> exact List.getElem?_set_ne hij
  rw [this]
  exact hd
 | other hm t ih=>exact .other hm (ih hi)
theorem dJ.at {K:PySem.W.Frag}{B H:Hp}{O₀ O:List Addr} (st:au K B O₀ O H ρ σ) (h:dJ σ ρ bs es as vs ms is):∃ ds,di H as vs ds ms:=by
 induction h with
 | nil=>exact ⟨[],.nil⟩
 | mutd hd hσ hi ha t ih =>
  obtain ⟨ds,q⟩:=ih
  rename_i i d a bs es as vs ms is
  refine ⟨.dI d::ds,.mutd (d':=d) ?_ ha q⟩
  rcases hW hd with e|e
  ·obtain ⟨u,eu,a',e2,h1,_⟩:=st.slot _ _ (aB e)
   rw [hσ] at eu
   cases eu
   cases e2
   exact h1
  ·obtain ⟨u,eu,a',e2,h1,_⟩:=st.slot _ _ (aB e)
   rw [hσ] at eu
   cases eu
   cases e2
   exact h1
 | other hm t ih =>
  obtain ⟨ds,q⟩:=ih
  exact ⟨ds,.other hm q⟩
theorem jh {K:PySem.W.Frag}{B H':Hp}{O₀ O:List Addr}:∀ {bs:List Bool}{es:List ME}{as:List MV}{vs:List V}{ms:List Addr}{is:List Nat}{ρ ρ':Rho}{H:Hp}{ds:List PV},dJ σ ρ bs es as vs ms is->au K B O₀ O H ρ σ->(∀ b o,b ∉ ms->H b=some o->H' b=some o)->di H' as vs ds ms->i6 bs es ds ρ=some ρ'->au K B O₀ O H' ρ' σ/\aU B O O ρ ρ' σ σ
 | _,_,_,_,_,_,ρ,ρ',H,ds,.nil,st,hk,hm,e=>by
  cases hm
  rw [i6] at e
  cases e
  exact ⟨st.mono λb o eb=>hk b o (λz=>nomatch z) eb,.refl⟩
 | _,_,_,_,_,_,ρ,ρ',H,ds,.other hn t,st,hk,hm,e=>by
  cases hm with
  | mutd=>exact absurd rfl (hn _)
  | other _ hm =>
   rw [i6] at e
   exact jh t st hk hm e
 | _,_,_,_,_,_,ρ,ρ',H,ds,.mutd (i:=i) (a:=a) hd hσ hi ha t,st,hk,hm,e=>by
  cases hm with
  | other h0=>exact absurd rfl (h0 _)
  | mutd h1 h2 hm =>
   rename_i d' ds
   rw [i6] at e
   have key:au K B O₀ O (upd H a (cQ d')) (kH ρ i d') σ/\aU B O O ρ (kH ρ i d') σ σ:=by
    rcases hW hd with q|q
    ·have e1:kH ρ i d'=put ρ i (.ownD d'):=by unfold kH;rw [q];rfl
     rw [e1]
     exact st.changeD (aB q) hσ
    ·have e1:kH ρ i d'=put ρ i (.mutD d'):=by unfold kH;rw [q];rfl
     rw [e1]
     exact st.changeU (aB q) hσ
   obtain ⟨st1,k1⟩:=key
   obtain ⟨st2,k2⟩:=jh (t.put hi) st1 (λb o hb eb=>by
    by_cases z:b=a
    ·subst z
     rw [ar] at eb
     rw [h1]
     exact eb
    ·rw [aH z] at eb
     exact hk b o (λw=>(List.mem_cons.mp w).elim z hb) eb) hm e
   exact ⟨st2,k1.trans k2⟩
end
noncomputable def tAM (K:PySem.W.Frag) (cal:Cal) (mask:List Bool) (ms:List ME):TA:=λσ H Q=>∃ B O₀ O ρ vs,au K B O₀ O H ρ σ/\evM cal mask ms ρ=some vs/\∀ us H' as,ag H H'->Paired (v8 K O H') vs us->dJ σ ρ mask ms vs us as (b7 mask ms)->Q us H'
section
variable {X:Cx}{T:Tab}{k:Nat}{cal:Cal}
theorem qK:PA X [] (tAM X.K cal [] []):=by
 refine cG.imp λσ H Q q=>?_
 obtain ⟨B,O₀,O,ρ,vs,st,e1,q⟩:=q
 rw [evM] at e1
 cases e1
 exact q [] H [] (ag.refl H) .nil .nil
theorem t5 {i:Nat}{bs:List Bool}{ms:List ME}{x:Str}{pos:Pos}{es:List Expr} (h:aT X.N X.env.scope i x=true) (hi:i ∉ b7 bs ms) (hs:PA X es (tAM X.K cal bs ms)):PA X (.Name x pos::es) (tAM X.K cal (true::bs) (.bor i::ms)):=by
 refine (a_ (ci h) hs rfl).imp λσ H Q q=>?_
 obtain ⟨B,O₀,O,ρ,vs,st,e1,q⟩:=q
 rw [evM] at e1
 simp only [Option.bind_eq_some_iff,Option.map_eq_some_iff] at e1
 obtain ⟨d,e1,ws,e2,rfl⟩:=e1
 obtain ⟨m,hj,om,so⟩:∃ m,(ρ[i]?).join=some m/\gr m=true/\∃ a,σ[i]?=some (some (.ref a))/\H a=some (cQ d)/\a ∈ O:=by
  rcases hW e1 with e|e
  ·obtain ⟨u,eu,a,rfl,h1,h2,_⟩:=bt st e
   exact ⟨_,e,rfl,a,eu,h1,h2⟩
  ·obtain ⟨u,eu,a,rfl,h1,h2,_⟩:=bt st e
   exact ⟨_,e,rfl,a,eu,h1,h2⟩
 obtain ⟨a,eu,h1,h2⟩:=so
 refine ⟨_,eu,B,O₀,O,ρ,ws,st,e2,λus H2 as s2 g2 ma=>q (.ref a::us) H2 (a::as) s2 (.cons ⟨a,rfl,s2 _ _ h1,h2⟩ g2) (.mutd e1 eu hi (λz=>?_) ma)⟩
 obtain ⟨j,hj2,ej,d2,hd2⟩:=ma.addr a z
 have hij:i ≠ j:=λw=>hi (w ▸ hj2)
 rcases hW hd2 with e|e
 ·exact st.apart i j m _ a hij (aB hj) (aB e) om rfl eu ej
 ·exact st.apart i j m _ a hij (aB hj) (aB e) om rfl eu ej
theorem oJ {m:ME}{bs:List Bool}{ms:List ME}{e:Expr}{es:List Expr} (hb:av m=false) (h:PE X e (tE X.K cal m)) (hs:PA X es (tAM X.K cal bs ms)) (hn:aj e=true):PA X (e::es) (tAM X.K cal (false::bs) (m::ms)):=by
 refine (a_ h hs (ba hn es _)).imp λσ H Q q=>?_
 obtain ⟨B,O₀,O,ρ,vs,st,e1,q⟩:=q
 rw [evM,Option.bind_eq_some_iff] at e1
 obtain ⟨a,e0,e1⟩:=e1
 have e0':(ev cal m ρ).bind (λv=>some [MV.val v])=some a:=by
  rw [<- e0]
  cases m <;> first|(cases hb;done)|(simp only [evA];rfl)
 rw [Option.bind_eq_some_iff] at e0'
 obtain ⟨v,e9,e8⟩:=e0'
 cases e8
 dsimp only at e1
 rw [Option.map_eq_some_iff] at e1
 obtain ⟨ws,e2,rfl⟩:=e1
 exact ⟨B,O₀,O,ρ,v,st,e9,λu H1 s1 g1=>⟨B,O₀,O,ρ,ws,st.mono s1,e2,λus H2 as s2 g2 ma=>q (u::us) H2 as (s1.trans s2) (.cons (show Rep X.K (am H2 O) v u from (g1.mono s2).2 hb) g2) (.other (λ_ z=>by cases z) ma)⟩⟩
theorem qL {i:Nat}{bs:List Bool}{ms:List ME}{x:Str}{pos:Pos}{es:List Expr} (h:aT X.N X.env.scope i x=true) (hs:PA X es (tAM X.K cal bs ms)):PA X (.Name x pos::es) (tAM X.K cal (false::bs) (.bor i::ms)):=by
 refine (a_ (ci h) hs rfl).imp λσ H Q q=>?_
 obtain ⟨B,O₀,O,ρ,vs,st,e1,q⟩:=q
 rw [evM,Option.bind_eq_some_iff] at e1
 obtain ⟨a,e0,e1⟩:=e1
 rw [evA,evA] at e0
 cases hj:(ρ[i]?).join with
 | none=>rw [hj] at e0;cases e0
 | some m =>
  rw [hj] at e0
  obtain ⟨u,eu,so⟩:=bt st hj
  cases m with
  | val w =>
   cases e0
   dsimp only at e1
   rw [Option.map_eq_some_iff] at e1
   obtain ⟨ws,e2,rfl⟩:=e1
   exact ⟨u,eu,⟨B,O₀,O,ρ,ws,st,e2,λus H2 as s2 g2 ma=>q (u::us) H2 as s2 (.cons (show Rep X.K (am H2 O) w u from Rep.mono (aA s2) _ so) g2) (.other (λ_ z=>by cases z) ma)⟩⟩
  | own ys=>cases e0;cases e1
  | brw ys=>cases e0;cases e1
  | ownD ys=>cases e0;cases e1
  | mutD ys=>cases e0;cases e1
  | brwD ys=>cases e0;cases e1
theorem jW (g:Gf X T k cal):∀ (bs:List Bool) (ms:List ME) (es:List Expr),chks T ms X.N X.env.scope es=true->cu bs ms=true->(b7 bs ms).Nodup->PA X es (tAM X.K cal bs ms)
 | [],[],es,h,_,_=>by
  cases es with
  | nil=>exact qK
  | cons _ _=>simp [chks] at h
 | [],_::_,_,_,h2,_=>by cases h2
 | true::_,[],_,_,h2,_=>by cases h2
 | false::_,[],_,_,h2,_=>by cases h2
 | b::bs,m::ms,es,h,h2,hn=>by
  cases es with
  | nil=>simp [chks] at h
  | cons e es =>
   simp only [chks,Bool.and_eq_true] at h
   cases b with
   | true =>
    have h2':(av m&&cu bs ms)=true:=h2
    rw [Bool.and_eq_true] at h2'
    have hb:=h2'.1
    cases m <;> simp [av] at hb
    have h1:=h.1.1
    cases e <;> simp only [bx,Bool.false_eq_true] at h1
    obtain ⟨n1,n2⟩:=List.nodup_cons.mp (show (_::b7 bs ms).Nodup from hn)
    exact t5 h1 n1 (jW g bs ms es h.2 h2'.2 n2)
   | false =>
    have hs:=jW g bs ms es h.2 (show cu bs ms=true from h2) (show (b7 bs ms).Nodup from hn)
    cases hb:av m with
    | false=>exact oJ hb (ai m g h.1.1).1 hs h.1.2
    | true =>
     cases m <;> simp [av] at hb
     have h1:=h.1.1
     cases e <;> simp only [bx,Bool.false_eq_true] at h1
     exact qL h1 hs
noncomputable def tMc (K:PySem.W.Frag) (cal:Cal) (f:Nat) (mask:List Bool) (ms:List ME):TE:=λσ H Q=>∃ B O₀ O ρ r ds ρ',au K B O₀ O H ρ σ/\((evM cal mask ms ρ).bind λvs=>cal (f + 2000) vs)=some (.tup (.bl r::ds))/\i6 mask ms ds ρ=some ρ'/\∀ H' O',au K B O₀ O' H' ρ' σ->aU B O O' ρ ρ' σ σ->Q (.bl r) H'
theorem wp {f:Nat}{mask:List Bool}{ms:List ME}{x:Str}{e:Expr}{es:List Expr}{p pos:Pos} (g:Gf X T k cal) (hf:T.fs[f]?=some x) (hg:glB X.env.scope x=true) (hn:ah x=true) (ha:PA X (e::es) (tAM X.K cal mask ms)) (hs:(e::es).all aj=true):PE X (.Call (.Name x p) (e::es) [] pos) (tMc X.K cal f mask ms):=by
 obtain ⟨fa,fd,ps,h1,h2,h3,F⟩:=g.fnsD f x hf
 simp only [List.all_cons,Bool.and_eq_true] at hs
 refine (i9 F g.room (eS hg) h1 h2 h3 .nil mV ha (eQ hn).1 (ba hs.1 es _) (bu hs.2)).imp λσ H Q q=>?_
 obtain ⟨B,O₀,O,ρ,r,ds,ρ',st,e1,e2,q⟩:=q
 rw [Option.bind_eq_some_iff] at e1
 obtain ⟨vs,e1,e3⟩:=e1
 refine ⟨B,O₀,O,ρ,vs,st,e1,λus H1 as s1 g1 ma=>?_⟩
 show spD X.K cal f (us ++ []) H1 Q E0
 rw [List.append_nil]
 obtain ⟨ds₀,hat⟩:=ma.at (st.mono s1)
 refine ⟨O,vs,.bl r,ds,ds₀,as,aW s1 st.here,g1,hat,e3,λH' hk hm=>?_⟩
 obtain ⟨st',k'⟩:=jh ma (st.mono s1) hk hm e2
 exact q H' O st' k'
noncomputable def tCm (K:PySem.W.Frag) (cal:Cal) (pre:Option ME) (f:Nat) (mask:List Bool) (ms:List ME):TT:=λσ H Q=>∃ B O₀ O ρ c ρ',au K B O₀ O H ρ σ/\pq cal pre f mask ms ρ=some (c,ρ')/\∀ H' O',au K B O₀ O' H' ρ' σ->aU B O O' ρ ρ' σ σ->Q c H'
theorem qM {cal:Cal}{f:Nat}{mask:List Bool}{ms:List ME}{ρ ρ':Rho}{c:Bool} (h:(match (evM cal mask ms ρ).bind λvs=>cal (f + 2000) vs with|some (.tup (.bl r::ds))=>(i6 mask ms ds ρ).map λρ'=>(r,ρ')|_=>none)=some (c,ρ')):∃ ds,((evM cal mask ms ρ).bind λvs=>cal (f + 2000) vs)=some (.tup (.bl c::ds))/\i6 mask ms ds ρ=some ρ':=by
 split at h
 ·rename_i r ds e
  rw [Option.map_eq_some_iff] at h
  obtain ⟨ρ2,e2,e3⟩:=h
  cases e3
  exact ⟨ds,e,e2⟩
 ·cases h
theorem t6 {f:Nat}{mask:List Bool}{ms:List ME}{x:Str}{args:List Expr}{p pos:Pos} (h:PE X (.Call (.Name x p) args [] pos) (tMc X.K cal f mask ms)):PT X (.Call (.Name x p) args [] pos) (tCm X.K cal none f mask ms):=by
 refine (rF h (by intro w;rfl)).imp λσ H Q q=>?_
 obtain ⟨B,O₀,O,ρ,c,ρ',st,e1,q⟩:=q
 obtain ⟨ds,e2,e3⟩:=qM (show _=some (c,ρ') from e1)
 exact ⟨B,O₀,O,ρ,c,ds,ρ',st,e2,e3,λH' O' st' k'=>⟨c,rfl,q H' O' st' k'⟩⟩
theorem t7 {pre:ME}{f:Nat}{mask:List Bool}{ms:List ME}{a:Expr}{x:Str}{args:List Expr}{p pos pos2:Pos} (ha:PT X a (tT X.K cal pre)) (h:PE X (.Call (.Name x p) args [] pos) (tMc X.K cal f mask ms)):PT X (.BoolOp .Or [a,.Call (.Name x p) args [] pos] pos2) (tCm X.K cal (some pre) f mask ms):=by
 refine (wT ha (rG (t6 h))).pt.imp λσ H Q q=>?_
 obtain ⟨B,O₀,O,ρ,c,ρ',st,e1,q⟩:=q
 unfold pq at e1
 dsimp only at e1
 cases eb:evB cal pre ρ with
 | none=>rw [eb] at e1;cases e1
 | some b =>
  rw [eb] at e1
  refine ⟨B,O₀,O,ρ,b,st,eb,λH1 s1=>?_⟩
  cases b with
  | true =>
   rw [if_pos rfl]
   cases e1
   exact q H1 O (st.mono s1) .refl
  | false =>
   rw [if_neg (by decide)]
   exact ⟨B,O₀,O,ρ,c,ρ',st.mono s1,e1,q⟩
theorem yR {neg:Bool}{pre:Option ME}{f:Nat}{mask:List Bool}{ms:List ME}{a b:List MS}{t:Expr}{x y:List Stmt}{pos:Pos} (hc:PT X t (if neg=true then zS (tCm X.K cal pre f mask ms) else tCm X.K cal pre f mask ms)) (ha:PSs X x (tSs X.K cal a)) (hb:PSs X y (tSs X.K cal b)):PS X (.If t x y pos) (tS X.K cal (.iteM neg pre f mask ms a b)):=by
 refine (rM hc ha hb).imp λD σ H q=>?_
 obtain ⟨B,O₀,O,ρ,st,q⟩:=q
 rw [ex] at q
 cases e:pq cal pre f mask ms ρ with
 | none=>rw [e] at q;exact (show False from q).elim
 | some cr =>
  obtain ⟨c,ρ'⟩:=cr
  rw [e] at q
  dsimp only at q
  have fin:∀ H' O',au X.K B O₀ O' H' ρ' σ->aU B O O' ρ ρ' σ σ->if (c != neg)=true then tSs X.K cal a D σ H' else tSs X.K cal b D σ H':=λH' O' st' k'=>by
   by_cases z:(c != neg)=true
   ·rw [if_pos z] at q ⊢
    exact ⟨B,O₀,O',ρ',st',cN.trans q k'⟩
   ·rw [if_neg z] at q ⊢
    exact ⟨B,O₀,O',ρ',st',cN.trans q k'⟩
  cases neg with
  | true =>
   refine ⟨B,O₀,O,ρ,c,ρ',st,e,λH' O' st' k'=>?_⟩
   have:=fin H' O' st' k'
   cases c <;> exact this
  | false =>
   refine ⟨B,O₀,O,ρ,c,ρ',st,e,λH' O' st' k'=>?_⟩
   have:=fin H' O' st' k'
   cases c <;> exact this
end
end MM
namespace MM
open PySem PySem.Spec PyProof.Rows L2
theorem xk {v:PV}{s:Sc} (e:sc? v=some s):v=s.pv:=by
 cases v <;> simp only [sc?,Option.some.injEq,reduceCtorEq] at e <;> subst e <;> rfl
theorem qN {cal:Cal}{f:Nat}{mask:List Bool}{ms:List ME}{ρ ρ':Rho}{s:Sc} (h:iz cal f mask ms ρ=some (s,ρ')):∃ ds,((evM cal mask ms ρ).bind λvs=>cal (f + 2000) vs)=some (.tup (s.pv::ds))/\i6 mask ms ds ρ=some ρ':=by
 unfold iz at h
 split at h
 ·rename_i v ds e
  rw [Option.bind_eq_some_iff] at h
  obtain ⟨s',e1,h⟩:=h
  rw [Option.map_eq_some_iff] at h
  obtain ⟨ρ2,e2,e3⟩:=h
  cases e3
  exact ⟨ds,by rw [e,xk e1],e2⟩
 ·cases h
section
variable {X:Cx}{T:Tab}{k:Nat}{cal:Cal}
noncomputable def tMv (K:PySem.W.Frag) (cal:Cal) (f:Nat) (mask:List Bool) (ms:List ME):TE:=λσ H Q=>∃ B O₀ O ρ s ρ',au K B O₀ O H ρ σ/\iz cal f mask ms ρ=some (s,ρ')/\∀ H' O',au K B O₀ O' H' ρ' σ->aU B O O' ρ ρ' σ σ->Q s.v H'
theorem pP {f:Nat}{mask:List Bool}{ms:List ME}{x:Str}{e:Expr}{es:List Expr}{p pos:Pos} (g:Gf X T k cal) (hf:T.fs[f]?=some x) (hg:glB X.env.scope x=true) (hn:ah x=true) (ha:PA X (e::es) (tAM X.K cal mask ms)) (hs:(e::es).all aj=true):PE X (.Call (.Name x p) (e::es) [] pos) (tMv X.K cal f mask ms):=by
 obtain ⟨fa,fd,ps,h1,h2,h3,F⟩:=g.fnsD f x hf
 simp only [List.all_cons,Bool.and_eq_true] at hs
 refine (i9 F g.room (eS hg) h1 h2 h3 .nil mV ha (eQ hn).1 (ba hs.1 es _) (bu hs.2)).imp λσ H Q q=>?_
 obtain ⟨B,O₀,O,ρ,r,ρ',st,e0,q⟩:=q
 obtain ⟨ds,e1,e2⟩:=qN e0
 rw [Option.bind_eq_some_iff] at e1
 obtain ⟨vs,e1,e3⟩:=e1
 refine ⟨B,O₀,O,ρ,vs,st,e1,λus H1 as s1 g1 ma=>?_⟩
 show spD X.K cal f (us ++ []) H1 Q E0
 rw [List.append_nil]
 obtain ⟨ds₀,hat⟩:=ma.at (st.mono s1)
 refine ⟨O,vs,r,ds,ds₀,as,aW s1 st.here,g1,hat,e3,λH' hk hm=>?_⟩
 obtain ⟨st',k'⟩:=jh ma (st.mono s1) hk hm e2
 exact q H' O st' k'
theorem yS {i f:Nat}{mask:List Bool}{ms:List ME}{x:Str}{v:Expr}{px pos:Pos} (d:Df X) (hi:X.N[i]?=some x) (hx:Loc X.env.scope x) (h:PE X v (tMv X.K cal f mask ms)) (hc:bf v=true):PS X (.Assign [.Name x px] v pos) (tS X.K cal (.setM i f mask ms)) :=
 PS.imp' (gc d.nd hi hx h (b8 hc _ _ _) (.inl (d.fn x))) λD σ H hl q=>by
  obtain ⟨B,O₀,O,ρ,st,q⟩:=q
  rw [ex] at q
  cases e:iz cal f mask ms ρ with
  | none=>rw [e] at q;exact (show False from q).elim
  | some cr =>
   obtain ⟨s,ρ'⟩:=cr
   rw [e] at q
   refine ⟨B,O₀,O,ρ,s,ρ',st,e,λH' O' st' k'=>?_⟩
   obtain ⟨st2,k2⟩:=st'.store (ltN hi hl) (jV X.K (am H' O') s)
   exact q _ H' O' st2 (k'.trans k2)
noncomputable def tCv (K:PySem.W.Frag) (cal:Cal) (f:Nat) (mask:List Bool) (ms:List ME) (m:ME):TT:=λσ H Q=>∃ B O₀ O ρ s ρ' y c,au K B O₀ O H ρ σ/\iz cal f mask ms ρ=some (s,ρ')/\ev cal m ρ'=some y/\bv .eq s.pv y=some c/\∀ H' O',au K B O₀ O' H' ρ' σ->aU B O O' ρ ρ' σ σ->Q c H'
theorem yT {f:Nat}{mask:List Bool}{ms:List ME}{m:ME}{l r:Expr}{pos:Pos} (g:Gf X T k cal) (ha:PE X l (tMv X.K cal f mask ms)) (hb:PE X r (tE X.K cal m)) (hm:behindInMarks (i7 .eq) r=false):PT X (.Compare l [i7 .eq] [r] pos) (tCv X.K cal f mask ms m):=by
 refine (oX (oB g.units .eq) ha hb hm).imp λσ H Q q=>?_
 obtain ⟨B,O₀,O,ρ,s,ρ',y,c,st,e1,e2,e3,q⟩:=q
 exact ⟨B,O₀,O,ρ,s,ρ',st,e1,λH1 O1 st1 k1=>⟨B,O₀,O1,ρ',y,st1,e2,λuy H2 s2 g2=>⟨O1,s.pv,y,c,.inl (jV _ _ _),g2.1,e3,_,rfl,q H2 O1 (st1.mono s2) k1⟩⟩⟩
theorem yU {f:Nat}{mask:List Bool}{ms:List ME}{m:ME}{a b:List MS}{t:Expr}{x y:List Stmt}{pos:Pos} (hc:PT X t (tCv X.K cal f mask ms m)) (ha:PSs X x (tSs X.K cal a)) (hb:PSs X y (tSs X.K cal b)):PS X (.If t x y pos) (tS X.K cal (.iteC f mask ms m a b)):=by
 refine (rM hc ha hb).imp λD σ H q=>?_
 obtain ⟨B,O₀,O,ρ,st,q⟩:=q
 rw [ex] at q
 cases e:iz cal f mask ms ρ with
 | none=>rw [e] at q;exact (show False from q).elim
 | some cr =>
  obtain ⟨s,ρ'⟩:=cr
  rw [e] at q
  obtain ⟨c,e2,q⟩:=lw q
  rw [Option.bind_eq_some_iff] at e2
  obtain ⟨w,e2,e3⟩:=e2
  refine ⟨B,O₀,O,ρ,s,ρ',w,c,st,e,e2,e3,λH' O' st' k'=>?_⟩
  by_cases z:c=true
  ·rw [if_pos z] at q ⊢
   exact ⟨B,O₀,O',ρ',st',cN.trans q k'⟩
  ·rw [if_neg z] at q ⊢
   exact ⟨B,O₀,O',ρ',st',cN.trans q k'⟩
noncomputable def tAN (K:PySem.W.Frag) (cal:Cal) (ms:List ME):TA:=λσ H Q=>∃ B O₀ O ρ vs,au K B O₀ O H ρ σ/\evs cal ms ρ=some vs/\∀ us H' p,ag H H'->H p=none->H' p=some (.dN [])->Paired (Rep K (am H' (p::O))) vs us->Q (us ++ [.ref p]) H'
theorem wq {dp:Pos}:PA X [.Dict [] [] dp] (tAN X.K cal []):=by
 refine (a_ mW cG rfl).imp λσ H Q q=>?_
 obtain ⟨B,O₀,O,ρ,vs,st,e1,q⟩:=q
 rw [evs] at e1
 cases e1
 exact λp hp=>q [] _ p (ax hp (.dN [])) hp ar .nil
theorem t8 {m:ME}{ms:List ME}{e:Expr}{es:List Expr} (hb:av m=false) (h:PE X e (tE X.K cal m)) (hs:PA X es (tAN X.K cal ms)) (hn:aj e=true):PA X (e::es) (tAN X.K cal (m::ms)):=by
 refine (a_ h hs (ba hn es _)).imp λσ H Q q=>?_
 obtain ⟨B,O₀,O,ρ,vs,st,e1,q⟩:=q
 rw [evs] at e1
 simp only [Option.bind_eq_some_iff,Option.map_eq_some_iff] at e1
 obtain ⟨v,e1,ws,e2,rfl⟩:=e1
 refine ⟨B,O₀,O,ρ,v,st,e1,λu H1 s1 g1=>⟨B,O₀,O,ρ,ws,st.mono s1,e2,λus H2 p s2 hp he pr=>q (u::us) H2 p (s1.trans s2) (ag.free s1 hp) he (.cons ?_ pr)⟩⟩
 exact Rep.mono (bi s2 λb hb=>(List.mem_cons.mp hb).elim (λz=>.inr (z ▸ hp)) .inl) _ (g1.2 hb)
theorem t9 (g:Gf X T k cal):∀ (ms:List ME) (es:List Expr),qB T ms X.N X.env.scope es=true->PA X es (tAN X.K cal ms)/\es.all aj=true/\es ≠ []
 | [],es,h=>by
  obtain ⟨dp,rfl⟩:=sY (show pB es=true from h)
  exact ⟨wq,rfl,λz=>by cases z⟩
 | m::ms,es,h=>by
  cases es with
  | nil=>cases h
  | cons e es =>
   have h:(chk T m X.N X.env.scope e&&aj e&&!av m&&qB T ms X.N X.env.scope es)=true:=h
   simp only [Bool.and_eq_true,Bool.not_eq_true'] at h
   obtain ⟨⟨⟨h1,h2⟩,h3⟩,h4⟩:=h
   obtain ⟨i1,i2,_⟩:=t9 g ms es h4
   exact ⟨t8 h3 (ai m g h1).1 i1 h2,by rw [List.all_cons,h2,i2];rfl,λz=>by cases z⟩
theorem gx {K:PySem.W.Frag}{O:List Addr}{H:Hp}{p:Addr} (he:H p=some (.dN [])):∀ {vs:List PV}{us:List V},Paired (Rep K (am H (p::O))) vs us ->
  Paired (v8 K (p::O) H) (vs.map MV.val ++ [.mutD (.n [])]) (us ++ [.ref p])/\di H (vs.map MV.val ++ [.mutD (.n [])]) (us ++ [.ref p]) [.dI (.n [])] [p]
 | _,_,.nil=>⟨.cons ⟨p,rfl,he,.head _⟩ .nil,.mutd (d':=.n []) he (by simp) .nil⟩
 | _,_,.cons h t=>⟨.cons h (gx he t).1,.other (λ_ z=>by cases z) (gx he t).2⟩
theorem t_ {f:Nat}{ms:List ME}{x:Str}{args:List Expr}{p cp pos:Pos} (g:Gf X T k cal) (hf:T.fs[f]?=some x) (hg:glB X.env.scope x=true) (hn:ah x=true) (hc:qB T ms X.N X.env.scope args=true):PS X (.Return (some (.Call (.Name x p) args [] cp)) pos) (tS X.K cal (.retNew f ms)):=by
 obtain ⟨ha,hs,h0⟩:=t9 g ms args hc
 obtain ⟨fa,fd,ps,h1,h2,h3,F⟩:=g.fnsD f x hf
 cases args with
 | nil=>exact absurd rfl h0
 | cons e es =>
  simp only [List.all_cons,Bool.and_eq_true] at hs
  refine (lL (i9 F g.room (eS hg) h1 h2 h3 .nil mV ha (eQ hn).1 (ba hs.1 es _) (bu hs.2))).imp λD σ H q=>?_
  obtain ⟨B,O₀,O,ρ,st,q⟩:=q
  rw [ex] at q
  cases ev1:evs cal ms ρ with
  | none=>rw [ev1] at q;exact (show False from q).elim
  | some vs =>
   rw [ev1] at q
   dsimp only at q
   cases ec:cal (f + 2000) (vs.map MV.val ++ [.mutD (.n [])]) with
   | none=>rw [ec] at q;exact (show False from q).elim
   | some r =>
    rw [ec] at q
    obtain ⟨s,ds,rfl,q'⟩:∃ (s:Sc) (ds:List PV),r=.tup (s.pv::ds)/\cN X.K B O₀ O ρ σ D (.ret s.pv):=by
     cases r <;> try (exact (show False from q).elim)
     rename_i l
     cases l with
     | nil=>exact (show False from q).elim
     | cons v ds =>
      dsimp only at q
      cases e9:sc? v with
      | none=>rw [e9] at q;exact (show False from q).elim
      | some s=>rw [e9] at q;exact ⟨s,ds,by rw [xk e9],q⟩
    refine ⟨B,O₀,O,ρ,vs,st,ev1,λus H1 a s1 hp he pr=>?_⟩
    show spD X.K cal f ((us ++ [.ref a]) ++ []) H1 _ E0
    rw [List.append_nil]
    obtain ⟨m1,m2⟩:=gx he pr
    refine ⟨a::O,_,s,ds,_,_,λb hb=>?_,m1,m2,ec,λH' hk _=>?_⟩
    ·rcases List.mem_cons.mp hb with rfl|hb
     ·rw [he];simp
     ·exact aW s1 st.here b hb
    ·refine q' s.v H' (λb o eb=>hk b o (λz=>?_) (s1 b o (st.keep b o eb))) (jV _ _ _)
     have eb2:=st.keep b o eb
     rw [List.mem_singleton.mp z,hp] at eb2
     cases eb2
theorem yV {i:Nat}{x:Str}{px dp pos:Pos} (d:Df X) (hi:X.N[i]?=some x) (hx:Loc X.env.scope x):PS X (.Assign [.Name x px] (.Dict [] [] dp) pos) (tS X.K cal (.newN i)):=by
 refine PS.imp' (gc d.nd hi hx mW (b8 (v:=.Dict [] [] dp) rfl _ _ _) (.inl (d.fn x))) λD σ H hl q=>?_
 obtain ⟨B,O₀,O,ρ,st,q⟩:=q
 rw [ex] at q
 intro p hp
 obtain ⟨st',k'⟩:=st.storeM (mm:=.ownD (.n [])) (ltN hi hl) (ax hp (.dN [])) hp (by rw [ar];simp) rfl (λ_ z=>by cases z) λhB=>⟨p,rfl,ar,List.mem_cons_self,hB⟩
 exact q _ _ _ st' k'
end
end MM
namespace MM
open PySem PySem.Spec PyProof.Rows L2
section
variable {K:PySem.W.Frag}{B H:Hp}{O₀ O:List Addr}{ρ:Rho}{σ:St}
theorem AY {H1 H':Hp}{O' L:List Addr}{ρ':Rho}{σ':St} (st':au K (bp B O H1 L) O₀ O' H' ρ' σ') (k:aU (bp B O H1 L) O O' ρ ρ' σ σ'):ag (am H1 O) (am H' O'):=λb u e=>by
 have hb:b ∉ O:=λz=>by rw [l_ z] at e;cases e
 have hg:bp B O H1 L b=some u:=dl b u e
 rw [bD]
 ·exact st'.keep b u hg
 ·intro z
  rcases k.new b z with q|q
  ·exact hb q
  ·rw [hg] at q;cases q
theorem wt {ms:List ME} (st:au K B O₀ O H ρ σ):au K (bp B O H (aK ms ρ σ)) O₀ O H (bc ms ρ) σ/\(bc ms ρ).length=ρ.length:=by
 have base:∀ L:List Addr,(∀ a ∈ L,∀ (j:Nat) (ys:MV),(bc ms ρ)[j]?=some (some ys)->gr ys=true->σ[j]? ≠ some (some (.ref a)))->(∀ (j:Nat) (m:MV),(bc ms ρ)[j]?=some (some m)->(∃ ys,m=.brw ys/\ρ[j]?=some (some (.own ys))/\∃ a,σ[j]?=some (some (.ref a))/\a ∈ L) \/ ρ[j]?=some (some m))->(bc ms ρ).length=ρ.length ->
   au K (bp B O H L) O₀ O H (bc ms ρ) σ:=λL h1 h2 h3=>by
  have gl:=nw (O:=O) (L:=L) st.keep
  have lg:=eF (O:=O) (L:=L) st.keep
  refine ⟨gl,st.here,st.sub,λa ha z=>st.old a ha (lg.free z),h3.trans st.len,λj m e=>?_,λc d ps qs ad hcd e1 e2 p1 p2 e3 e4=>?_⟩
  ·rcases h2 j m e with ⟨ys,rfl,e2,a,ea,haL⟩|e2
   ·obtain ⟨u,eu,a',us,rfl,q1,q2,q3,q4⟩:=st.slot j _ e2
    rw [ea] at eu
    cases eu
    refine ⟨_,ea,a,us,rfl,SqL.of ?_,q2⟩
    unfold bp
    rw [if_pos q3,if_pos haL]
    exact q1
   ·obtain ⟨u,eu,q⟩:=st.slot j m e2
    refine ⟨u,eu,?_⟩
    cases m with
    | val v=>exact q
    | own ys =>
     obtain ⟨a,us,rfl,q1,q2,q3,q4⟩:=q
     refine ⟨a,us,rfl,q1,q2,q3,?_⟩
     unfold bp
     rw [if_pos q3,if_neg λhaL=>h1 a haL j (.own ys) e rfl eu]
     exact q4
    | ownD ys =>
     obtain ⟨a,rfl,q1,q3,q4⟩:=q
     refine ⟨a,rfl,q1,q3,?_⟩
     unfold bp
     rw [if_pos q3,if_neg λhaL=>h1 a haL j (.ownD ys) e rfl eu]
     exact q4
    | mutD ys =>
     obtain ⟨a,rfl,q1,q3,q4⟩:=q
     refine ⟨a,rfl,q1,q3,?_⟩
     unfold bp
     rw [if_pos q3,if_neg λhaL=>h1 a haL j (.mutD ys) e rfl eu]
     exact q4
    | brwD ys=>obtain ⟨a,rfl,q1⟩:=q;exact ⟨a,rfl,ag.rd lg q1⟩
    | brw ys=>obtain ⟨a,us,rfl,q1,q2⟩:=q;exact ⟨a,us,rfl,lg.seq q1,q2⟩
  ·rcases h2 c _ e1 with ⟨_,rfl,_⟩|e1
   ·cases p1
   ·rcases h2 d _ e2 with ⟨_,rfl,_⟩|e2
    ·cases p2
    ·exact st.apart c d ps qs ad hcd e1 e2 p1 p2 e3 e4
 have plain:bc ms ρ=ρ->aK ms ρ σ=[]->au K (bp B O H (aK ms ρ σ)) O₀ O H (bc ms ρ) σ/\(bc ms ρ).length=ρ.length:=λe1 e2=>by
  rw [e2]
  exact ⟨base [] (λa ha=>by simp at ha) (λj m e=>.inr (by rw [e1] at e;exact e)) (by rw [e1]),by rw [e1]⟩
 match ms with
 | []=>exact plain rfl rfl
 | [.bor i] =>
  cases hj:(ρ[i]?).join with
  | none=>exact plain (by simp [bc,hj]) (by simp [aK,hj])
  | some m =>
   cases m with
   | val _=>exact plain (by simp [bc,hj]) (by simp [aK,hj])
   | brw _=>exact plain (by simp [bc,hj]) (by simp [aK,hj])
   | ownD _=>exact plain (by simp [bc,hj]) (by simp [aK,hj])
   | mutD _=>exact plain (by simp [bc,hj]) (by simp [aK,hj])
   | brwD _=>exact plain (by simp [bc,hj]) (by simp [aK,hj])
   | own xs =>
    have el:bc [.bor i] ρ=put ρ i (.brw xs):=by simp [bc,hj]
    have e0:=aB hj
    obtain ⟨u,eu,a,us,rfl,q1,q2,q3,q4⟩:=st.slot i _ e0
    have eL:aK [.bor i] ρ σ=[a]:=by simp [aK,hj,eu]
    have hi':i < ρ.length:=(List.getElem?_eq_some_iff.mp e0).1
    rw [eL]
    refine ⟨base [a] (λb hb j ys e oy z=>?_) (λj m e=>?_) (by rw [el,bH]),by rw [el,bH]⟩
    ·have:b=a:=by simpa using hb
     subst this
     rw [el] at e
     have hj':i ≠ j:=λz=>by subst z;rw [ac hi'] at e;cases e;cases oy
     rw [ab hj'] at e
     exact st.apart i j (.own xs) ys b hj' e0 e rfl oy eu z
    ·rw [el] at e
     by_cases hij:i=j
     ·subst hij
      rw [ac hi'] at e
      cases e
      exact .inl ⟨xs,rfl,e0,a,eu,by simp⟩
     ·rw [ab hij] at e
      exact .inr e
 | .var _::_=>exact plain rfl rfl
 | .cst _::_=>exact plain rfl rfl
 | .glob _ _::_=>exact plain rfl rfl
 | .bin _ _ _::_=>exact plain rfl rfl
 | .neg _::_=>exact plain rfl rfl
 | .not _::_=>exact plain rfl rfl
 | .and _ _::_=>exact plain rfl rfl
 | .or _ _::_=>exact plain rfl rfl
 | .ite _ _ _::_=>exact plain rfl rfl
 | .cmp _ _ _::_=>exact plain rfl rfl
 | .chain _ _ _ _ _::_=>exact plain rfl rfl
 | .tup _::_=>exact plain rfl rfl
 | .lst _::_=>exact plain rfl rfl
 | .idx _ _::_=>exact plain rfl rfl
 | .slice _ _ _::_=>exact plain rfl rfl
 | .blt _ _::_=>exact plain rfl rfl
 | .call _ _::_=>exact plain rfl rfl
 | .callD _ _ _::_=>exact plain rfl rfl
 | .comp _ _ _ _ _::_=>exact plain rfl rfl
 | .dget _ _ _::_=>exact plain rfl rfl
 | .dat _ _::_=>exact plain rfl rfl
 | .dIn _ _ _::_=>exact plain rfl rfl
 | .bor _::_::_=>exact plain rfl rfl
theorem hX {ms:List ME}{j:Nat}{ys:List PV} (h:(bc ms ρ)[j]?=some (some (.brw ys))):ρ[j]?=some (some (.brw ys)) \/ (ms=[.bor j]/\ρ[j]?=some (some (.own ys))):=by
 unfold bc at h
 split at h
 ·rename_i i
  split at h
  ·rename_i xs hj
   have e0:=aB hj
   have hi':i < ρ.length:=(List.getElem?_eq_some_iff.mp e0).1
   by_cases hij:i=j
   ·subst hij
    rw [ac hi'] at h
    cases h
    exact .inr ⟨rfl,e0⟩
   ·rw [ab hij] at h
    exact .inl h
  ·exact .inl h
 ·exact .inl h
theorem iF {ms:List ME}{j:Nat}{ys:DD} (h:(bc ms ρ)[j]?=some (some (.brwD ys))):ρ[j]?=some (some (.brwD ys)):=by
 unfold bc at h
 split at h
 ·rename_i i
  split at h
  ·rename_i xs hj
   have e0:=aB hj
   have hi':i < ρ.length:=(List.getElem?_eq_some_iff.mp e0).1
   by_cases hij:i=j
   ·subst hij
    rw [ac hi'] at h
    cases h
   ·rw [ab hij] at h
    exact h
  ·exact h
 ·exact h
theorem qO {ms:List ME}{j:Nat}{ys:DD} (h:(bc ms ρ)[j]?=some (some (.mutD ys))):ρ[j]?=some (some (.mutD ys)):=by
 unfold bc at h
 split at h
 ·rename_i i
  split at h
  ·rename_i xs hj
   have e0:=aB hj
   have hi':i < ρ.length:=(List.getElem?_eq_some_iff.mp e0).1
   by_cases hij:i=j
   ·subst hij
    rw [ac hi'] at h
    cases h
   ·rw [ab hij] at h
    exact h
  ·exact h
 ·exact h
theorem jX {ms:List ME}:(bc ms ρ).length=ρ.length:=by
 unfold bc
 split
 ·split
  ·exact bH
  ·rfl
 ·rfl
theorem my {ms:List ME}{H1 H':Hp}{O':List Addr}{ρ':Rho}{σ':St} (st:au K B O₀ O H1 ρ σ) (st':au K (bp B O H1 (aK ms ρ σ)) O₀ O' H' ρ' σ') (k:aU (bp B O H1 (aK ms ρ σ)) O O' (bc ms ρ) ρ' σ σ') :
  au K B O₀ O' H' (aP ms ρ ρ') σ'/\aU B O O' ρ (aP ms ρ ρ') σ σ':=by
 have lg:=eF (O:=O) (L:=aK ms ρ σ) st.keep
 have vis:=AY st' k
 have stay:∀ a,B a ≠ none->a ∈ O->a ∈ O':=λa h1 h2=>k.stay a (λz=>h1 (lg.free z)) h2
 have new:∀ a ∈ O',a ∈ O \/ B a=none:=λa h=>(k.new a h).imp id lg.free
 have mutK:∀ (j:Nat) (d':DD),ρ'[j]?=some (some (.mutD d'))->(∃ d,ρ[j]?=some (some (.mutD d)))/\σ'[j]?=σ[j]?:=λj d' e=>by
  obtain ⟨⟨d,e1⟩,e2⟩:=k.mutK j d' e
  exact ⟨⟨d,qO e1⟩,e2⟩
 have slot:∀ (j:Nat) (m:MV),ρ'[j]?=some (some m)->(∀ ys,m=.brw ys->¬ (ms=[.bor j]/\ρ[j]?=some (some (.own ys))))->∃ u,σ'[j]?=some (some u)/\dS K B O' H' m u:=λj m e hn=>by
  obtain ⟨u,eu,q⟩:=st'.slot j m e
  refine ⟨u,eu,?_⟩
  cases m with
  | val v=>exact q
  | own ys=>obtain ⟨a,us,rfl,q1,q2,q3,q4⟩:=q;exact ⟨a,us,rfl,q1,q2,q3,lg.free q4⟩
  | brw ys =>
   obtain ⟨e1,e2⟩:=k.brw j (.brw ys) rfl e
   rcases hX e1 with e3|e3
   ·obtain ⟨w,ew,a,us,rfl,q1,q2⟩:=st.slot j _ e3
    rw [eu,ew] at e2
    cases e2
    exact ⟨a,us,rfl,q1,Reps.mono vis _ q2⟩
   ·exact absurd e3 (hn ys rfl)
  | ownD ys=>obtain ⟨a,rfl,q1,q3,q4⟩:=q;exact ⟨a,rfl,q1,q3,lg.free q4⟩
  | mutD ys=>obtain ⟨a,rfl,q1,q3,q4⟩:=q;exact ⟨a,rfl,q1,q3,lg.free q4⟩
  | brwD ys =>
   obtain ⟨e1,e2⟩:=k.brw j (.brwD ys) rfl e
   obtain ⟨w,ew,a,rfl,q1⟩:=st.slot j _ (iF e1)
   rw [eu,ew] at e2
   cases e2
   exact ⟨a,rfl,q1⟩
 by_cases hA:∃ i xs0 xs,ms=[.bor i]/\(ρ[i]?).join=some (.own xs0)/\(ρ'[i]?).join=some (.brw xs)
 ·obtain ⟨i,xs0,xs,rfl,h0,h1⟩:=hA
  have eb:aP [.bor i] ρ ρ'=put ρ' i (.own xs):=by simp [aP,h0,h1]
  rw [eb]
  have e0:=aB h0
  have e1:=aB h1
  have hi':i < ρ'.length:=(List.getElem?_eq_some_iff.mp e1).1
  obtain ⟨el,es⟩:=k.brw i (.brw xs) rfl e1
  have exs:xs=xs0:=by
   rcases hX el with e3|⟨_,e3⟩
   ·rw [e0] at e3;cases e3
   ·rw [e0] at e3;cases e3;rfl
  subst exs
  obtain ⟨w,ew,a,us,rfl,q1,q2,q3,q4⟩:=st.slot i _ e0
  have eL:aK [.bor i] ρ σ=[a]:=by simp [aK,h0,ew]
  have ga:bp B O H1 (aK [.bor i] ρ σ) a=some (.lst us):=by
   unfold bp
   rw [eL,if_pos q3,if_pos (by simp)]
   exact q1
  have other:∀ (j:Nat) (ys:MV) (ad:Addr),ρ'[j]?=some (some ys)->gr ys=true->σ'[j]?=some (some (.ref ad))->ad ≠ a:=λj ys ad h1 oy h2 z=>by
   obtain ⟨u,eu,qq⟩:=st'.slot j _ h1
   rw [h2] at eu
   cases eu
   cases ys with
   | own ys =>
    obtain ⟨b,_,e2,_,_,_,q⟩:=qq
    cases e2
    rw [z,ga] at q
    cases q
   | ownD ys =>
    obtain ⟨b,e2,_,_,q⟩:=qq
    cases e2
    rw [z,ga] at q
    cases q
   | mutD ys =>
    obtain ⟨b,e2,_,_,q⟩:=qq
    cases e2
    rw [z,ga] at q
    cases q
   | val _=>cases oy
   | brw _=>cases oy
   | brwD _=>cases oy
  refine ⟨⟨lg.trans st'.keep,st'.here,st'.sub,st.old,by rw [bH];exact st'.len,λj m e=>?_,λc d ps qs ad hcd e1 e2 p1 p2 e3 e4=>?_⟩,⟨stay,new,λj ys hbm e=>?_,by rw [bH];exact k.len.trans jX
   ,λj d' e=>?_
   ⟩⟩
  ·by_cases hij:i=j
   ·subst hij
    rw [ac hi'] at e
    cases e
    refine ⟨_,by rw [es];exact ew,a,us,rfl,st'.keep _ _ ga,Reps.mono vis _ q2,k.stay a (by rw [ga];simp) q3,q4⟩
   ·rw [ab hij] at e
    exact slot j m e λys _ ⟨z,_⟩=>hij (by cases z;rfl)
  ·by_cases hc:i=c
   ·subst hc
    rw [es,ew] at e3
    cases e3
    rw [ab hcd] at e2
    exact other d qs _ e2 p2 e4 rfl
   ·rw [ab hc] at e1
    by_cases hd:i=d
    ·subst hd
     rw [es,ew] at e4
     cases e4
     exact other c ps _ e1 p1 e3 rfl
    ·rw [ab hd] at e2
     exact st'.apart c d ps qs ad hcd e1 e2 p1 p2 e3 e4
  ·by_cases hij:i=j
   ·subst hij
    rw [ac hi'] at e
    cases e
    cases hbm
   ·rw [ab hij] at e
    obtain ⟨e1,e2⟩:=k.brw j ys hbm e
    cases ys with
    | brw ys =>
     rcases hX e1 with e3|⟨z,_⟩
     ·exact ⟨e3,e2⟩
     ·cases z;exact absurd rfl hij
    | brwD ys=>exact ⟨iF e1,e2⟩
    | val _=>cases hbm
    | own _=>cases hbm
    | ownD _=>cases hbm
    | mutD _=>cases hbm
  ·by_cases hij:i=j
   ·subst hij
    rw [ac hi'] at e
    cases e
   ·rw [ab hij] at e
    exact mutK j d' e
 ·have eb:aP ms ρ ρ'=ρ':=by
   unfold aP
   split
   ·rename_i i
    split
    ·rename_i xs0 xs h0 h1
     exact absurd ⟨i,xs0,xs,rfl,h0,h1⟩ hA
    ·rfl
   ·rfl
  rw [eb]
  have no:∀ (j:Nat) (ys:List PV),ρ'[j]?=some (some (.brw ys))->¬ (ms=[.bor j]/\ρ[j]?=some (some (.own ys))):=λj ys e ⟨h1,h2⟩=>hA ⟨j,ys,ys,h1,by rw [h2];rfl,by rw [e];rfl⟩
  refine ⟨⟨lg.trans st'.keep,st'.here,st'.sub,st.old,st'.len,λj m e=>slot j m e λys z=>no j ys (by rw [e,z]),st'.apart⟩,⟨stay,new,λj ys hbm e=>?_,k.len.trans jX
   ,λj d' e=>mutK j d' e
   ⟩⟩
  obtain ⟨e1,e2⟩:=k.brw j ys hbm e
  cases ys with
  | brw ys =>
   rcases hX e1 with e3|e3
   ·exact ⟨e3,e2⟩
   ·exact absurd e3 (no j ys e)
  | brwD ys=>exact ⟨iF e1,e2⟩
  | val _=>cases hbm
  | own _=>cases hbm
  | ownD _=>cases hbm
  | mutD _=>cases hbm
end
section
variable {X:Cx}{T:Tab}{k:Nat}{cal:Cal}
noncomputable def AZ (K:PySem.W.Frag) (n:Nat) (g:TG) (tk:PV->Rho->Option Rho):Prop :=
 ∀ (B:Hp) (O₀ O:List Addr) (H:Hp) (ρ ρ':Rho) (σ:St) (x:PV) (u:V) (Q:St->Hp->Prop),σ.length=n->au K B O₀ O H ρ σ->Rep K (am H O) x u->tk x ρ=some ρ' ->
  (∀ σ',au K B O₀ O H ρ' σ'->aU B O O ρ ρ' σ σ'->Q σ' H)->g u σ H Q
theorem yW {K:PySem.W.Frag}{n:Nat}{k':Sk}{ms:List ME}{g:TG}{tk:PV->Rho->Option Rho}{body:List MS}{D:i0}{σ:St}{H:Hp} (hn:σ.length=n) (hg:AZ K n g tk) {B:Hp}{O₀ O:List Addr}{ρ:Rho}{vs xs:List PV} (st:au K B O₀ O H ρ σ) (e1:evs cal ms ρ=some vs) (e2:dg k' vs=some xs)
  (q:cN K B O₀ O ρ σ D ((aY (λx ρ'=>gQ (tk x ρ') λρ''=>exs cal body ρ'') xs (bc ms ρ)).back ms ρ)):z6 (tW K cal k' ms) g (tSs K cal body) D σ H:=by
 refine ⟨B,O₀,O,ρ,vs,xs,st,e1,e2,λJ H1 s1 it=>?_⟩
 have st1:=st.mono s1
 obtain ⟨stL,_⟩:=wt (ms:=ms) st1
 refine ⟨λi m σ' H'=>m=xs.length - i/\i <= xs.length/\∃ ρ' O',au K (bp B O H1 (aK ms ρ σ)) O₀ O' H' ρ' σ'/\aU (bp B O H1 (aK ms ρ σ)) O O' (bc ms ρ) ρ' σ σ' /\
  aY (λx ρ'=>gQ (tk x ρ') λρ''=>exs cal body ρ'') (xs.drop i) ρ'=aY (λx ρ'=>gQ (tk x ρ') λρ''=>exs cal body ρ'') xs (bc ms ρ),⟨xs.length,by simp,Nat.zero_le _,bc ms ρ,O,stL,.refl,by simp⟩,?_⟩
 rintro i m σ' H' ⟨rfl,hi,ρ',O',st',k',eq⟩
 by_cases hlt:i < xs.length
 ·right
  have ex:xs[i]?=some xs[i]:=List.getElem?_eq_getElem hlt
  refine ⟨it.go i _ H' st'.keep ex,λσ2 H2=>∃ m',m' < xs.length - i/\(m'=xs.length - (i + 1)/\i + 1 <= xs.length/\∃ ρ' O',au K (bp B O H1 (aK ms ρ σ)) O₀ O' H2 ρ' σ2/\aU (bp B O H1 (aK ms ρ σ)) O O' (bc ms ρ) ρ' σ σ2 /\
   aY (λx ρ'=>gQ (tk x ρ') λρ''=>exs cal body ρ'') (xs.drop (i + 1)) ρ'=aY (λx ρ'=>gQ (tk x ρ') λρ''=>exs cal body ρ'') xs (bc ms ρ)),λσ2 H2 z=>z,λu H2 y=>?_⟩
  obtain ⟨s2,hr⟩:=it.yld i _ H' u H2 st'.keep ex y
  have vis:=AY st' k'
  have hx:Rep K (am H2 O') xs[i] u:=hr O' st'.here (vis.trans (aA s2))
  rw [List.drop_eq_getElem_cons hlt,aY] at eq
  cases et:tk xs[i] ρ' with
  | none =>
   rw [et] at eq
   rw [<- eq] at q
   exact (show False from q).elim
  | some ρ2 =>
   rw [et,show gQ (some ρ2) (λρ''=>exs cal body ρ'')=exs cal body ρ2 from rfl] at eq
   have hlen:σ'.length=n:=by rw [<- st'.len,k'.len,jX,st.len];exact hn
   refine hg _ O₀ O' H2 ρ' ρ2 σ' _ u _ hlen (st'.mono s2) hx et λσ2 st2 k2=>?_
   refine ⟨_,O₀,O',ρ2,st2,?_⟩
   have kk:=k'.trans k2
   cases er:exs cal body ρ2 with
   | next ρ3 =>
    rw [er] at eq
    exact λσ3 H3 O3 st3 k3=>⟨_,by omega,rfl,hlt,ρ3,O3,st3,kk.trans k3,eq⟩
   | cont ρ3 =>
    rw [er] at eq
    exact λσ3 H3 O3 st3 k3=>⟨_,by omega,rfl,hlt,ρ3,O3,st3,kk.trans k3,eq⟩
   | brk ρ3 =>
    rw [er] at eq
    rw [<- eq] at q
    exact λσ3 H3 O3 st3 k3=>by
     obtain ⟨stb,kb⟩:=my st1 st3 (kk.trans k3)
     exact q σ3 H3 O3 stb kb
   | ret v =>
    rw [er] at eq
    rw [<- eq] at q
    exact λw H3 s3 r=>q w H3 ((eF st1.keep).trans s3) r
   | retM v ρ3 =>
    rw [er] at eq
    rw [<- eq] at q
    exact λσ3 H3 O3 st3 k3=>by
     obtain ⟨stb,kb⟩:=my st1 st3 (kk.trans k3)
     exact q σ3 H3 O3 stb kb
   | retF ys =>
    rw [er] at eq
    rw [<- eq] at q
    exact λp us H3 s3 hp he r=>q p us H3 ((eF st1.keep).trans s3) ((eF st1.keep).free hp) he r
   | bad =>
    rw [er] at eq
    rw [<- eq] at q
    exact (show False from q).elim
 ·left
  have ei:i=xs.length:=by omega
  subst ei
  rw [List.drop_length,aY] at eq
  rw [<- eq] at q
  obtain ⟨stb,kb⟩:=my st1 st' k'
  exact ⟨it.stop H' st'.keep,q σ' H' O' stb kb⟩
theorem wu {K:PySem.W.Frag}{n i:Nat} (hi:i < n):AZ K n (iS i) (λx ρ=>some (put ρ i (.val x))):=by
 intro B O₀ O H ρ ρ' σ x u Q hn st r e q
 cases e
 obtain ⟨st',k'⟩:=st.store (i:=i) (by omega) r
 exact q _ st' k'
theorem yX {i:Nat}{k':Sk}{src:List ME}{body:List MS}{x:Str}{px pos:Pos}{it:Expr}{b:List Stmt} (g:Gf X T k cal) (d:Df X) (hi:X.N[i]?=some x) (hx:Loc X.env.scope x) (hw:PI X (.Name x px) it (tW X.K cal k' src)) (hns:gu it=true) (hb:PSs X b (tSs X.K cal body)) :
  PS X (.For (.Name x px) it b [] pos) (tS X.K cal (.for1 i k' src body)):=by
 refine PS.imp' (xC d.own g.calm hw (oT d.nd hi hx (.inl (d.fn x))) hb (by intro v;cases it <;> first|rfl|(simp [gu] at hns))) λD σ H hl q=>?_
 obtain ⟨B,O₀,O,ρ,st,q⟩:=q
 rw [ex] at q
 cases e:(evs cal src ρ).bind (dg k') with
 | none=>rw [e] at q;exact (show False from q).elim
 | some xs =>
  rw [e] at q
  simp only [Option.bind_eq_some_iff] at e
  obtain ⟨vs,e1,e2⟩:=e
  exact yW (tk:=λx ρ=>some (put ρ i (.val x))) rfl (wu (ltN hi hl)) st e1 e2 q
end
end MM
namespace MM
open PySem PySem.Spec PyProof.Rows L2
section
variable {X:Cx}{T:Tab}{k:Nat}{cal:Cal}
theorem pQ {i:Nat}{me:ME}{x:Str}{v:Expr}{px pos:Pos} (g:Gf X T k cal) (d:Df X) (hi:X.N[i]?=some x) (hx:Loc X.env.scope x) (hc:chk T me X.N X.env.scope v=true) (hs:lj X.env.scope x px v me=true):∃ t,PS X (.Assign [.Name x px] v pos) (rO t (iS i))/\(∀ σ H Q,tF X.K cal me σ H Q->t σ H Q)/\bE me=true:=by
 unfold lj at hs
 cases v with
 | ListComp e gens scope cpos =>
  cases me with
  | comp k' src js cond elt =>
   match gens,hc,hs with
   | [],hc,_=>cases (show false=true from hc)
   | ⟨tg,it,ifs,as⟩::[],h,hs =>
    cases tg with
    | Name y py =>
     by_cases has:as=0
     ·subst has
      have h:(dF X.env.scope X.N scope y (bB X.N js) js&&fT X.env.scope false (λxs=>chks T src X.N X.env.scope xs) k' it&&jQ (λc=>chk T cond (y::bB X.N js) (fQ scope X.env.scope) c) cond ifs&&chk T elt (y::bB X.N js) (fQ scope X.env.scope) e&&!av elt)=true:=h
      simp only [Bool.and_eq_true,Bool.not_eq_true'] at h
      obtain ⟨⟨⟨⟨h1,h2⟩,h3⟩,h4⟩,h5⟩:=h
      have hw:=mr (tg:=.Name y py) (λz=>by cases z) g h2 (λxs hxs=>⟨sounds src g hxs,bj hxs⟩) (λm x hm hx=>match src,hm with|[m'],rfl=>(ai m' g (by simp only [chks,Bool.and_eq_true] at hx;exact hx.1.1)).1)
      exact ⟨_,oq d.nd hi hx (lr h1) g.calm hw.1 (λs₁ H₁ C fp=>oG h3 λc hc=>(ai cond (g.blk y (bB X.N js) scope s₁ H₁ C fp) hc).2) (λs₁ H₁ C fp=>(ai elt (g.blk y (bB X.N js) scope s₁ H₁ C fp) h4).1) (qI d hs) (by have:=hw.2;intro v;cases it <;> first|rfl|(simp [gu] at this)) (.inl (d.fn x)),
       λσ H Q q=>oE.comp_go h5 q,rfl⟩
     ·exact absurd h (by
       have:chk T (.comp k' src js cond elt) X.N X.env.scope (.ListComp e [⟨.Name y py,it,ifs,as⟩] scope cpos)=false:=by
        rw [aG]
        split <;> first|rfl|(rename_i z;simp_all)
       rw [this];exact Bool.false_ne_true)
    | _=>cases (show false=true from h)
   | _::_::_,h,_=>simp [aG] at h
  | _=>cases (show false=true from hc)
 | _=>simp [pz] at hs
theorem A0 {me:ME} (hf:bE me=true) {σ:St}{H:Hp}{Q:VK}{K:PySem.W.Frag} (q:tE K cal me σ H Q):tF K cal me σ H Q:=by
 obtain ⟨B,O₀,O,ρ,v,st,e1,q⟩:=q
 have hv:∃ xs,v=.lst xs:=by
  cases me with
  | lst es =>
   rw [ev,Option.bind_eq_some_iff] at e1
   obtain ⟨vs,_,hv⟩:=e1
   split at hv
   ·cases hv;exact ⟨_,rfl⟩
   ·cases hv
  | comp _ _ _ _ _=>exact nF ρ v e1
  | blt b es=>cases b <;> first|exact dH (.inl rfl) ρ v e1|exact dH (.inr (.inl rfl)) ρ v e1|exact dH (.inr (.inr (.inl rfl))) ρ v e1|exact dH (.inr (.inr (.inr (.inl rfl)))) ρ v e1|exact dH (.inr (.inr (.inr (.inr rfl)))) ρ v e1|(simp [bE] at hf)
  | _=>simp [bE] at hf
 obtain ⟨xs,rfl⟩:=hv
 exact ⟨B,O₀,O,ρ,xs,st,e1,λp us H' s hp he r=>q _ _ s (pK st.here hp he r)⟩
end
section
variable {T:Tab}{N:List Str}{sc:Scope}
theorem wv {i:Nat}{e:ME}{s:Stmt} (h:dX T N sc (.set i e) s=true):∃ x px v pos,s=.Assign [.Name x px] v pos/\(N[i]? == some x&&gT sc x&&ah x&&chk T e N sc v&&!av e&&(bf v || lj sc x px v e || pA sc x v))=true:=by
 obtain ⟨q,e1,h1⟩:=bz h
 obtain ⟨pos,rfl⟩:=ja e1
 exact ⟨_,_,_,_,rfl,h1⟩
theorem ww {i:Nat}{e:ME}{s:Stmt} (h:dX T N sc (.setOwn i e) s=true):∃ x px v pos,s=.Assign [.Name x px] v pos/\(N[i]? == some x&&gT sc x&&ah x&&chk T e N sc v&&bE e&&(bf v || lj sc x px v e))=true:=by
 obtain ⟨q,e1,h1⟩:=bz h
 obtain ⟨pos,rfl⟩:=ja e1
 exact ⟨_,_,_,_,rfl,h1⟩
theorem oK {i:Nat}{e:ME}{s:Stmt} (h:dX T N sc (.append i e) s=true):∃ x p m ap v cp pos,s=.Expr (.Call (.Attribute (.Name x p) m ap) [v] [] cp) pos/\(aT N sc i x&&m == ("append":Str)&&chk T e N sc v&&!av e&&aj v&&ap.endLine == cp.line)=true:=by
 obtain ⟨q,e1,h1⟩:=bz h
 obtain ⟨v,e2,h2⟩:=bz h1
 obtain ⟨p,pos,rfl⟩:=pC e1
 rw [ni e2]
 exact ⟨_,_,_,_,_,_,_,rfl,h2⟩
theorem oM {i:Nat}{e:ME}{s:Stmt} (h:dX T N sc (.extend i e) s=true):∃ x p m ap v cp pos,s=.Expr (.Call (.Attribute (.Name x p) m ap) [v] [] cp) pos/\(aT N sc i x&&m == ("extend":Str)&&chk T e N sc v&&aj v&&ap.endLine == cp.line)=true:=by
 obtain ⟨q,e1,h1⟩:=bz h
 obtain ⟨v,e2,h2⟩:=bz h1
 obtain ⟨p,pos,rfl⟩:=pC e1
 rw [ni e2]
 exact ⟨_,_,_,_,_,_,_,rfl,h2⟩
theorem ua {i:Nat}{k e:ME}{s:Stmt} (h:dX T N sc (.dput i k e) s=true):∃ x p s' sp v pos,s=.Assign [.Subscript (.Name x p) s' sp] v pos/\(aT N sc i x&&chk T k N sc s'&&bw s'&&chk T e N sc v&&!av e&&bf v)=true:=by
 obtain ⟨q,e1,h1⟩:=bz h
 obtain ⟨p,sp,pos,rfl⟩:=v5 e1
 exact ⟨_,_,_,_,_,_,rfl,h1⟩
theorem nH {m:Bool}{i:Nat}{s:Stmt} (h:dX T N sc (.newD m i) s=true):∃ x p dp pos,s=.Assign [.Name x p] (.Dict [] [] dp) pos/\(N[i]? == some x&&gT sc x&&ah x)=true:=by
 obtain ⟨q,e1,h1⟩:=bz h
 rw [Bool.and_eq_true] at h1
 obtain ⟨pos,rfl⟩:=ja e1
 obtain ⟨p,e2⟩:=tm h1.1
 rw [e2]
 exact ⟨_,_,_,_,rfl,h1.2⟩
theorem ub {e:ME}{s:Stmt} (h:dX T N sc (.expr e) s=true):∃ v pos,s=.Expr v pos/\(chk T e N sc v&&bf v)=true:=by
 cases s with
 | Expr v pos=>exact ⟨v,pos,rfl,h⟩
 | _=>cases (show false=true from h)
theorem wz {c:ME}{a b:List MS}{s:Stmt} (h:dX T N sc (.ite c a b) s=true):∃ t x y pos,s=.If t x y pos/\(chk T c N sc t&&chkSs T N sc a x&&chkSs T N sc b y)=true:=by
 cases s with
 | If t x y pos=>exact ⟨t,x,y,pos,rfl,h⟩
 | _=>cases (show false=true from h)
theorem uc {i:Nat}{k:Sk}{src:List ME}{body:List MS}{s:Stmt} (h:dX T N sc (.for1 i k src body) s=true):∃ x px it b pos,s=.For (.Name x px) it b [] pos/\(N[i]? == some x&&gT sc x&&ah x&&fT sc false (λxs=>chks T src N sc xs) k it&&chkSs T N sc body b)=true:=by
 simp only [v6] at h
 split at h <;> first|(cases h;done)|(rename_i heq;cases heq;exact ⟨_,_,_,_,_,rfl,h⟩)|(injections;done)|(injections;subst_vars;exact ⟨_,_,_,_,_,rfl,h⟩)
theorem ud {e:ME}{s:Stmt} (h:dX T N sc (.retM e) s=true):∃ v pos,s=.Return (some v) pos/\chk T e N sc v=true:=by
 obtain ⟨v,e1,h1⟩:=bz h
 obtain ⟨pos,rfl⟩:=jb e1
 exact ⟨_,_,rfl,h1⟩
theorem ue {neg:Bool}{pre:Option ME}{f:Nat}{mask:List Bool}{es:List ME}{a b:List MS}{s:Stmt} (h:dX T N sc (.iteM neg pre f mask es a b) s=true):∃ t x y pos,s=.If t x y pos/\(v3 sc (ym (λp e=>chk T p N sc e) pre) pre.isSome (λg args=>T.fs[f]? == some g&&glB sc g&&ah g&&chks T es N sc args&&cu mask es&&decide (b7 mask es).Nodup&&!args.isEmpty) neg t&&chkSs T N sc a x&&chkSs T N sc b y)=true:=by
 cases s with
 | If t x y pos=>exact ⟨t,x,y,pos,rfl,h⟩
 | _=>cases (show false=true from h)
theorem uf {i f:Nat}{mask:List Bool}{es:List ME}{s:Stmt} (h:dX T N sc (.setM i f mask es) s=true):∃ x px y py args cp pos,s=.Assign [.Name x px] (.Call (.Name y py) args [] cp) pos/\(N[i]? == some x&&gT sc x&&ah x&&(T.fs[f]? == some y&&glB sc y&&ah y&&chks T es N sc args&&cu mask es&&decide (b7 mask es).Nodup&&!args.isEmpty))=true:=by
 obtain ⟨q,e1,h1⟩:=bz h
 obtain ⟨c,e2,h2⟩:=bz h1
 obtain ⟨pos,rfl⟩:=ja e1
 obtain ⟨p,cp,e3⟩:=mh e2
 rw [e3]
 exact ⟨_,_,_,_,_,_,_,rfl,h2⟩
theorem ug {f:Nat}{mask:List Bool}{es:List ME}{m:ME}{a b:List MS}{s:Stmt} (h:dX T N sc (.iteC f mask es m a b) s=true):∃ y py args cp r cpos x z pos,s=.If (.Compare (.Call (.Name y py) args [] cp) [i7 .eq] [r] cpos) x z pos/\((T.fs[f]? == some y&&glB sc y&&ah y&&chks T es N sc args&&cu mask es&&decide (b7 mask es).Nodup&&!args.isEmpty)&&chk T m N sc r&&!behindInMarks (i7 .eq) r&&chkSs T N sc a x&&chkSs T N sc b z)=true:=by
 cases s with
 | If t x y pos =>
  obtain ⟨q,e1,h1⟩:=bz (show onO (eqX t) _=true from h)
  obtain ⟨c,e2,h2⟩:=bz h1
  obtain ⟨cpos,rfl⟩:=yn e1
  obtain ⟨p,cp,e3⟩:=mh e2
  rw [e3]
  exact ⟨_,_,_,_,_,_,_,_,_,rfl,h2⟩
 | _=>cases (show false=true from h)
theorem oN {f:Nat}{es:List ME}{s:Stmt} (h:dX T N sc (.retNew f es) s=true):∃ y py args cp pos,s=.Return (some (.Call (.Name y py) args [] cp)) pos/\(T.fs[f]? == some y&&glB sc y&&ah y&&qB T es N sc args)=true:=by
 obtain ⟨v,e1,h1⟩:=bz h
 obtain ⟨c,e2,h2⟩:=bz h1
 obtain ⟨pos,rfl⟩:=jb e1
 obtain ⟨p,cp,rfl⟩:=mh e2
 exact ⟨_,_,_,_,_,rfl,h2⟩
theorem uh {sc:Scope}{pre:Expr->Bool}{has:Bool}{call:Str->List Expr->Bool}{neg:Bool}{t:Expr} (h:v3 sc pre has call neg t=true):(∃ e p,neg=true/\t=.UnaryOp .Not e p/\jR pre has call e=true) \/ (neg=false/\jR pre has call t=true):=by
 unfold v3 at h
 split at h
 ·rw [Bool.and_eq_true] at h
  exact .inl ⟨_,_,h.1,rfl,h.2⟩
 ·rw [Bool.and_eq_true,Bool.not_eq_true'] at h
  exact .inr h
theorem ui {pre:Expr->Bool}{has:Bool}{call:Str->List Expr->Bool}{e:Expr} (h:jR pre has call e=true):(∃ a g gp args cp p,has=true/\e=.BoolOp .Or [a,.Call (.Name g gp) args [] cp] p/\pre a=true/\call g args=true) \/ (∃ g gp args cp,has=false/\e=.Call (.Name g gp) args [] cp/\call g args=true):=by
 unfold jR at h
 split at h
 ·rw [Bool.and_eq_true,Bool.and_eq_true] at h
  exact .inl ⟨_,_,_,_,_,_,h.1.1,rfl,h.1.2,h.2⟩
 ·rw [Bool.and_eq_true,Bool.not_eq_true'] at h
  exact .inr ⟨_,_,_,_,h.1,rfl,h.2⟩
 ·cases h
theorem wA {e:ME}{s:Stmt} (h:dX T N sc (.ret e) s=true):∃ v pos,s=.Return (some v) pos/\(chk T e N sc v&&!av e)=true:=by
 obtain ⟨v,e1,h1⟩:=bz h
 obtain ⟨pos,rfl⟩:=jb e1
 exact ⟨_,_,rfl,h1⟩
theorem oO {i:Nat}{s:Stmt} (h:dX T N sc (.retOwn i) s=true):∃ x p pos,s=.Return (some (.Name x p)) pos/\(aT N sc i x)=true:=by
 obtain ⟨v,e1,h1⟩:=bz h
 obtain ⟨x,e2,h2⟩:=bz h1
 obtain ⟨pos,rfl⟩:=jb e1
 obtain ⟨p,rfl⟩:=s_ e2
 exact ⟨_,_,_,rfl,h2⟩
end
noncomputable def yY:MS->Bool
 | .freeze _=>true
 | _=>false
mutual
theorem yZ {T:Tab}{k:Nat}{cal:Cal}{X:Cx} (g:Gf X T k cal) (d:Df X):∀ (m:MS) (s:Stmt),dX T X.N X.env.scope m s=true->PS X s (tS X.K cal m)
 | .set i e,s,h=>by
  obtain ⟨x,px,v,pos,rfl,hc⟩:=wv h
  simp only [Bool.and_eq_true,Bool.or_eq_true,beq_iff_eq,Bool.not_eq_true'] at hc
  obtain ⟨⟨⟨⟨⟨h1,h2⟩,h3⟩,h4⟩,h5⟩,h6⟩:=hc
  rcases h6 with (h6|h6)|h6
  rotate_right
  ·exact PS.imp' (gc d.nd h1 (g7 h2) (ai e g h4).1 (qJ h6) (.inl (d.fn x))) λD σ H hl q=>oI (ltN h1 hl) h5 q
  ·exact AU d h1 (g7 h2) (ai e g h4).1 h5 h6
  ·obtain ⟨t,p,hp,hf⟩:=pQ (pos:=pos) g d h1 (g7 h2) h4 h6
   exact PS.imp' p λD σ H hl q=>hp _ _ _ (A0 hf (oI (ltN h1 hl) h5 q))
 | .setOwn i e,s,h=>by
  obtain ⟨x,px,v,pos,rfl,hc⟩:=ww h
  simp only [Bool.and_eq_true,Bool.or_eq_true,beq_iff_eq] at hc
  obtain ⟨⟨⟨⟨⟨h1,h2⟩,h3⟩,h4⟩,h5⟩,h6⟩:=hc
  rcases h6 with h6|h6
  ·exact AV d h1 (g7 h2) (yL g h4 h5) h6
  ·obtain ⟨t,p,hp,hf⟩:=pQ (pos:=pos) g d h1 (g7 h2) h4 h6
   exact PS.imp' p λD σ H hl q=>hp _ _ _ (tY (ltN h1 hl) q)
 | .append i e,s,h=>by
  obtain ⟨x,p,m,ap,v,cp,pos,rfl,hc⟩:=oK h
  simp only [Bool.and_eq_true,beq_iff_eq,Bool.not_eq_true'] at hc
  obtain ⟨⟨⟨⟨⟨h1,rfl⟩,h3⟩,h4⟩,h5⟩,h6⟩:=hc
  exact tZ (ai e g h3).1 h1 h4 h5 (beq_iff_eq.mpr h6)
 | .extend i e,s,h=>by
  obtain ⟨x,p,m,ap,v,cp,pos,rfl,hc⟩:=oM h
  simp only [Bool.and_eq_true,beq_iff_eq] at hc
  obtain ⟨⟨⟨⟨h1,rfl⟩,h3⟩,h5⟩,h6⟩:=hc
  exact t0 (ai e g h3).1 h1 h5 (beq_iff_eq.mpr h6)
 | .setIdx _ _ _,s,h=>absurd (show false=true from h) Bool.false_ne_true
 | .unpack _ _,s,h=>absurd (show false=true from h) Bool.false_ne_true
 | .expr e,s,h=>by
  obtain ⟨v,pos,rfl,hc⟩:=ub h
  simp only [Bool.and_eq_true] at hc
  exact yO (ai e g hc.1).1 hc.2
 | .ite c a b,s,h=>by
  obtain ⟨t,x,y,pos,rfl,hc⟩:=wz h
  simp only [Bool.and_eq_true] at hc
  exact B0 (ai c g hc.1.1).2 (soundSs g d a x hc.1.2) (soundSs g d b y hc.2)
 | .for1 i k' src body,s,h=>by
  obtain ⟨x,px,it,b,pos,rfl,hc⟩:=uc h
  simp only [Bool.and_eq_true,beq_iff_eq] at hc
  obtain ⟨⟨⟨⟨h1,h2⟩,h3⟩,h4⟩,h5⟩:=hc
  have hw:=mr (tg:=.Name x px) (λz=>by cases z) g h4 (λxs hxs=>⟨sounds src g hxs,bj hxs⟩) (λm x hm hx=>match src,hm with|[m'],rfl=>(ai m' g (by simp only [chks,Bool.and_eq_true] at hx;exact hx.1.1)).1)
  exact yX g d h1 (g7 h2) hw.1 hw.2 (soundSs g d body b h5)
 | .forT _ _ _ _,s,h=>absurd (show false=true from h) Bool.false_ne_true
 | .while _ _ _,s,h=>absurd (show false=true from h) Bool.false_ne_true
 | .ret e,s,h=>by
  obtain ⟨v,pos,rfl,hc⟩:=wA h
  simp only [Bool.and_eq_true,Bool.not_eq_true'] at hc
  exact AW (ai e g hc.1).1 hc.2
 | .retM e,s,h=>by
  obtain ⟨v,pos,rfl,hc⟩:=ud h
  exact yP (ai e g hc).1
 | .iteM neg pre f mask es a b,s,h=>by
  obtain ⟨t,x,y,pos,rfl,hc⟩:=ue h
  rw [Bool.and_eq_true,Bool.and_eq_true] at hc
  obtain ⟨⟨h1,h2⟩,h3⟩:=hc
  have call:∀ (y:Str) (yp:Pos) (args:List Expr) (cp:Pos),(T.fs[f]? == some y&&glB X.env.scope y&&ah y&&chks T es X.N X.env.scope args&&cu mask es&&decide (b7 mask es).Nodup&&!args.isEmpty)=true->PE X (.Call (.Name y yp) args [] cp) (tMc X.K cal f mask es):=λy yp args cp hq=>by
   simp only [Bool.and_eq_true,beq_iff_eq,decide_eq_true_eq,Bool.not_eq_true'] at hq
   obtain ⟨⟨⟨⟨⟨⟨q1,q2⟩,q3⟩,q4⟩,q5⟩,q6⟩,q7⟩:=hq
   cases args with
   | nil=>cases q7
   | cons e args=>exact wp g q1 q2 q3 (jW g mask es (e::args) q4 q5 q6) (bj q4).1
  have core:∀ e,jR (ym (λp e=>chk T p X.N X.env.scope e) pre) pre.isSome (λg args=>T.fs[f]? == some g&&glB X.env.scope g&&ah g&&chks T es X.N X.env.scope args&&cu mask es&&decide (b7 mask es).Nodup&&!args.isEmpty) e=true->PT X e (tCm X.K cal pre f mask es):=λe he=>by
   rcases ui he with ⟨a',y,yp,args,cp,p,hh,rfl,hp,hq⟩|⟨y,yp,args,cp,hh,rfl,hq⟩
   ·cases pre with
    | none=>cases hh
    | some m=>exact t7 (ai m g hp).2 (call y yp args cp hq)
   ·cases pre with
    | none=>exact t6 (call y yp args cp hq)
    | some m=>cases hh
  refine yR ?_ (soundSs g d a x h2) (soundSs g d b y h3)
  rcases uh h1 with ⟨e,p,hn,rfl,he⟩|⟨hn,he⟩
  ·rw [if_pos hn]
   exact rH (core e he)
  ·rw [if_neg (by rw [hn];decide)]
   exact core t he
 | .setM i f mask es,s,h=>by
  obtain ⟨x,px,y,py,args,cp,pos,rfl,hc⟩:=uf h
  simp only [Bool.and_eq_true,beq_iff_eq,decide_eq_true_eq,Bool.not_eq_true'] at hc
  obtain ⟨⟨⟨h1,h2⟩,h3⟩,⟨⟨⟨⟨⟨q1,q2⟩,q3⟩,q4⟩,q5⟩,q6⟩,q7⟩:=hc
  cases args with
  | nil=>cases q7
  | cons e args=>exact yS d h1 (g7 h2) (pP g q1 q2 q3 (jW g mask es (e::args) q4 q5 q6) (bj q4).1) rfl
 | .iteC f mask es m a b,s,h=>by
  obtain ⟨y,py,args,cp,r,cpos,x,z,pos,rfl,hc⟩:=ug h
  simp only [Bool.and_eq_true,beq_iff_eq,decide_eq_true_eq,Bool.not_eq_true'] at hc
  obtain ⟨⟨⟨⟨⟨⟨⟨⟨⟨⟨q1,q2⟩,q3⟩,q4⟩,q5⟩,q6⟩,q7⟩,h1⟩,h2⟩,h3⟩,h4⟩:=hc
  cases args with
  | nil=>cases q7
  | cons e args=>exact yU (yT g (pP g q1 q2 q3 (jW g mask es (e::args) q4 q5 q6) (bj q4).1) (ai m g h1).1 h2) (soundSs g d a x h3) (soundSs g d b z h4)
 | .retNew f es,s,h=>by
  obtain ⟨y,py,args,cp,pos,rfl,hc⟩:=oN h
  simp only [Bool.and_eq_true,beq_iff_eq] at hc
  obtain ⟨⟨⟨h1,h2⟩,h3⟩,h4⟩:=hc
  exact t_ g h1 h2 h3 h4
 | .newN i,s,h=>by
  obtain ⟨x,p,dp,pos,rfl,hc⟩:=nH (m:=true) (show dX T X.N X.env.scope (.newD true i) s=true from h)
  simp only [Bool.and_eq_true,beq_iff_eq] at hc
  exact yV d hc.1.1 (g7 hc.1.2)
 | .retF _,s,h=>absurd (show false=true from h) Bool.false_ne_true
 | .setCall _ _ _,s,h=>absurd (show false=true from h) Bool.false_ne_true
 | .clear _,s,h=>absurd (show false=true from h) Bool.false_ne_true
 | .retOwn i,s,h=>by
  obtain ⟨x,p,pos,rfl,hc⟩:=oO h
  exact t4 hc
 | .retN,s,h=>absurd (show false=true from h) Bool.false_ne_true
 | .brk,s,h=>absurd (show false=true from h) Bool.false_ne_true
 | .cont,s,h=>absurd (show false=true from h) Bool.false_ne_true
 | .pass,s,h=>absurd (show false=true from h) Bool.false_ne_true
 | .never,s,h=>by
  refine rN.imp λD σ H q=>?_
  obtain ⟨B,O₀,O,ρ,st,q⟩:=q
  rw [ex] at q
  exact q
 | .newD m i,s,h=>by
  obtain ⟨x,p,dp,pos,rfl,hc⟩:=nH h
  simp only [Bool.and_eq_true,beq_iff_eq] at hc
  exact yM d hc.1.1 (g7 hc.1.2)
 | .dput i mk me,s,h=>by
  obtain ⟨x,p,s',sp,v,pos,rfl,hc⟩:=ua h
  simp only [Bool.and_eq_true] at hc
  exact yN g (ai mk g hc.1.1.1.1.2).1 (ai me g hc.1.1.2).1 hc.1.1.1.1.1 hc.2
 | .freeze _,s,h=>absurd (show false=true from h) Bool.false_ne_true
 | .popTo _ _,s,h=>absurd (show false=true from h) Bool.false_ne_true
theorem soundSs {T:Tab}{k:Nat}{cal:Cal}{X:Cx} (g:Gf X T k cal) (d:Df X):∀ (ms:List MS) (ss:List Stmt),chkSs T X.N X.env.scope ms ss=true->PSs X ss (tSs X.K cal ms)
 | [],ss,h=>by
  cases ss with
  | nil=>exact AX
  | cons _ _=>cases h
 | m::ms,ss,h=>by
  cases hm:yY m with
  | true =>
   cases m <;> simp [yY] at hm
   cases h
  | false =>
   cases ss with
   | nil=>cases m <;> first|(cases h;done)|cases hm
   | cons s ss =>
    have h:(dX T X.N X.env.scope m s&&chkSs T X.N X.env.scope ms ss)=true:=by cases m <;> first|exact h|(simp [yY] at hm)
    simp only [Bool.and_eq_true] at h
    exact yQ (yZ g d m s h.1) (soundSs g d ms ss h.2)
end
end MM
namespace MM
open PySem PySem.Spec PyProof.Rows L2
structure FnD (K:PySem.W.Frag) (x:Str) (st:Stmt) (fa:Addr) (fd:FuncData):Prop where
 it:∃ (c0 d0 k0 o0 m0:Value) (a0:Option Addr) (c1 t1:Value) (a1:Option Addr) (sl:Array (Option Value)),
  K.lookup fa=some ⟨c0,a1,.func fd,sl⟩/\PySem.W.codeIn K c1 x=true/\fd=PySem.W.fnOf x x (lR st) (dB st) (aX st) d0 k0 o0 m0 a0 c1 t1
 kp:PySem.W.keepIn K (.ref fa)=true
theorem FnD.mk' {K:PySem.W.Frag}{x:Str}{st:Stmt}{fa:Addr}{c0 d0 k0 o0 m0 c1 t1:Value}{a0 a1:Option Addr}{sl:Array (Option Value)}
  (l:K.lookup fa=some ⟨c0,a1,.func (PySem.W.fnOf x x (lR st) (dB st) (aX st) d0 k0 o0 m0 a0 c1 t1),sl⟩) (c:PySem.W.codeIn K c1 x=true) (k:PySem.W.keepIn K (.ref fa)=true) :
  FnD K x st fa (PySem.W.fnOf x x (lR st) (dB st) (aX st) d0 k0 o0 m0 a0 c1 t1):=⟨⟨_,_,_,_,_,_,_,_,_,_,l,c,rfl⟩,k⟩
structure nI (T:Tab) (K:PySem.W.Frag) (mg:Str->Option Value) (st:Stmt) (d:MD) (fa:Addr) (fd:FuncData):Prop where
 fn:FnD K d.name st fa fd
 binds:cJ K fd d.params []
 named:mg d.name=some (.ref fa)
 scope:lN d.names d.params (aX st)
 body:chkSs T d.names (aX st) d.body (dB st)=true
theorem bn1 {K:PySem.W.Frag}{fd:FuncData}{pa:Str} (h:∀ a,bindArgs fd ⟨[a],[]⟩=pure [(pa,a)]):cJ K fd [pa] []:=.all λus hl=>match us,hl with|[a],_=>h a
theorem bn2 {K:PySem.W.Frag}{fd:FuncData}{pa pb:Str} (h:∀ a b,bindArgs fd ⟨[a,b],[]⟩=pure [(pa,a),(pb,b)]):cJ K fd [pa,pb] []:=.all λus hl=>match us,hl with|[a,b],_=>h a b
theorem bn3 {K:PySem.W.Frag}{fd:FuncData}{pa pb pc:Str} (h:∀ a b c,bindArgs fd ⟨[a,b,c],[]⟩=pure [(pa,a),(pb,b),(pc,c)]):cJ K fd [pa,pb,pc] []:=.all λus hl=>match us,hl with|[a,b,c],_=>h a b c
noncomputable def HD (K:PySem.W.Frag) (x:Str) (st:Stmt) (d:MD) (q:FuncData->Prop:=λ_=>True):Prop:=d.name=x/\∃ fa fd,PySem.W.nsIn K mainGlobals x=some (some (.ref fa))/\FnD K x st fa fd/\cJ K fd d.params []/\q fd
noncomputable def okD (T:Tab) (st:Stmt) (d:MD):Bool :=
 decide ((aX st).kind=.function/\(aX st).isCoroutine=false/\(aX st).isGenerator=false/\d.names.Nodup/\d.names.take d.params.length=d.params/\(∀ x ∈ d.params,(aX st).names.lookup x=some .local \/ (aX st).names.lookup x=some .cell)/\∀ y ∈ (aX st).names,y.2 ≠ .free)&&chkSs T d.names (aX st) d.body (dB st)
theorem aL {T:Tab}{K:PySem.W.Frag}{mg:Str->Option Value}{h:Heap}{st:Stmt}{d:MD} (X:K.In h) (G:h.Ns mainGlobals mg) {q:FuncData->Prop}{x:Str} (hd:HD K x st d q) (ck:okD T st d=true):∃ fa fd,nI T K mg st d fa fd/\q fd:=by
 obtain ⟨e,_,_,n,f,b,z⟩:=hd
 obtain ⟨c1,c2⟩:=Bool.and_eq_true_iff.mp ck
 obtain ⟨s1,s2,s3,s4,s5,s6,s7⟩:=of_decide_eq_true c1
 subst e
 exact ⟨_,_,⟨f,b,PySem.W.mg_of X G n,⟨s1,s2,s3,s4,s5,s6,s7⟩,c2⟩,z⟩
noncomputable def uj (T:Tab) (K:PySem.W.Frag) (mg:Str->Option Value):List MD->List (List Sc)->Prop
 | [],[]=>True
 | d::ds,l::ls=>(∃ st fa fd,nI T K mg st d fa fd/\∃ vs,cJ K fd d.params vs/\al (l.map Sc.v) vs)/\uj T K mg ds ls
 | _,_=>False
theorem uj.get {T:Tab}{K:PySem.W.Frag}{mg:Str->Option Value}:∀ {ds:List MD}{ls:List (List Sc)}{f:Nat}{d:MD},uj T K mg ds ls->ds[f]?=some d->∃ l st fa fd,ls[f]?=some l/\nI T K mg st d fa fd/\∃ vs,cJ K fd d.params vs/\al (l.map Sc.v) vs
 | [],_,f,d,_,e=>by simp at e
 | _::_,[],f,d,h,e=>h.elim
 | d0::ds,l::ls,0,d,h,e=>by
  cases e
  obtain ⟨⟨st,fa,fd,r⟩,_⟩:=h
  exact ⟨l,st,fa,fd,rfl,r⟩
 | d0::ds,l::ls,f + 1,d,h,e=>by
  obtain ⟨k,st,fa,fd,q,r⟩:=uj.get h.2 (show ds[f]?=some d from by simpa using e)
  exact ⟨k,st,fa,fd,by simpa using q,r⟩
structure y0 (T:Tab) (K:PySem.W.Frag) (mg:Str->Option Value) (ds:List MD):Prop where
 tab:T.fs=ds.map (·.name)
 defs:uj T K mg ds T.ds
 blt:∀ x ∈ gZ,mg (x:Str)=none
 gs:∀ p ∈ T.gs,∃ u,mg p.1=some u/\ak (toV p.2) u
theorem jY {ds:List MD}{n f:Nat}{d:MD}{args:List MV}{r:PV} (hd:ds[f]?=some d) (h:aa ds (n + 1) f args=some r):args.length=d.params.length /\
  ((∃ ρ,exs (aa ds n) d.body (args.map some ++ List.replicate (d.names.length - args.length) none)=.next ρ/\r=.non) \/ exs (aa ds n) d.body (args.map some ++ List.replicate (d.names.length - args.length) none)=.ret r \/
   ∃ xs,exs (aa ds n) d.body (args.map some ++ List.replicate (d.names.length - args.length) none)=.retF xs/\r=.lst xs):=by
 rw [aa,hd] at h
 dsimp only at h
 by_cases hl:args.length=d.params.length
 ·rw [if_pos hl] at h
  refine ⟨hl,?_⟩
  cases he:exs (aa ds n) d.body (args.map some ++ List.replicate (d.names.length - args.length) none) with
  | next ρ=>rw [he] at h;cases h;exact .inl ⟨ρ,rfl,rfl⟩
  | ret v=>rw [he] at h;cases h;exact .inr (.inl rfl)
  | retF xs=>rw [he] at h;cases h;exact .inr (.inr ⟨xs,rfl,rfl⟩)
  | retM v ρ=>rw [he] at h;cases h
  | brk ρ=>rw [he] at h;cases h
  | cont ρ=>rw [he] at h;cases h
  | bad=>rw [he] at h;cases h
 ·rw [if_neg hl] at h
  cases h
theorem iY {ds:List MD}{n f:Nat}{d:MD}{args:List MV}{r:PV} (hf:f < 1000) (hn:ds[f + 1000]?=none) (hd:ds[f]?=some d) (h:aa ds (n + 1) (f + 1000) args=some r):args.length=d.params.length /\
  ∃ xs,exs (aa ds n) d.body (args.map some ++ List.replicate (d.names.length - args.length) none)=.retF xs/\r=.lst xs:=by
 rw [aa,hn] at h
 dsimp only at h
 rw [if_neg (by omega),Nat.add_sub_cancel,hd] at h
 dsimp only at h
 by_cases hl:args.length=d.params.length
 ·rw [if_pos hl] at h
  refine ⟨hl,?_⟩
  cases he:exs (aa ds n) d.body (args.map some ++ List.replicate (d.names.length - args.length) none) with
  | retF xs=>rw [he] at h;cases h;exact ⟨xs,rfl,rfl⟩
  | retM v ρ=>rw [he] at h;cases h
  | next ρ=>rw [he] at h;cases h
  | ret v=>rw [he] at h;cases h
  | brk ρ=>rw [he] at h;cases h
  | cont ρ=>rw [he] at h;cases h
  | bad=>rw [he] at h;cases h
 ·rw [if_neg hl] at h
  cases h
theorem lx {ds:List MD}{n f:Nat}{d:MD}{args:List MV}{r:PV} (hn:ds[f + 2000]?=none) (hd:ds[f]?=some d) (h:aa ds (n + 1) (f + 2000) args=some r):args.length=d.params.length /\
  ∃ v ρ ms,exs (aa ds n) d.body (args.map some ++ List.replicate (d.names.length - args.length) none)=.retM v ρ/\cs args ρ=some ms/\r=.tup (v.pv::ms):=by
 rw [aa,hn] at h
 dsimp only at h
 rw [if_pos (by omega),Nat.add_sub_cancel,hd] at h
 dsimp only at h
 by_cases hl:args.length=d.params.length
 ·rw [if_pos hl] at h
  refine ⟨hl,?_⟩
  cases he:exs (aa ds n) d.body (args.map some ++ List.replicate (d.names.length - args.length) none) with
  | retM v ρ =>
   rw [he] at h
   dsimp only at h
   rw [Option.map_eq_some_iff] at h
   obtain ⟨ms,e1,e2⟩:=h
   exact ⟨v,ρ,ms,rfl,e1,e2.symm⟩
  | next ρ=>rw [he] at h;cases h
  | ret v=>rw [he] at h;cases h
  | retF xs=>rw [he] at h;cases h
  | brk ρ=>rw [he] at h;cases h
  | cont ρ=>rw [he] at h;cases h
  | bad=>rw [he] at h;cases h
 ·rw [if_neg hl] at h
  cases h
theorem y1 {v w:Sc} (h:v.pv=w.pv):v=w:=by
 cases v <;> cases w <;> first|(cases h;rfl)|cases h
noncomputable def jZ (H:Hp) (ms:List Addr):Hp:=λb=>if b ∈ ms then none else H b
theorem iG {H:Hp}{args:List MV}{vs:List V}{ds:List PV}{ms:List Addr} (h:di H args vs ds ms):∀ (i:Nat) (d:DD) (a:Addr),args[i]?=some (.mutD d)->vs[i]?=some (.ref a)->a ∈ ms:=by
 induction h with
 | nil=>intro i d a e;simp at e
 | mutd h hn t ih =>
  intro i d a e1 e2
  cases i with
  | zero=>simp at e2;subst e2;exact .head _
  | succ i=>exact .tail _ (ih i d a (by simpa using e1) (by simpa using e2))
 | other hm t ih =>
  intro i d a e1 e2
  cases i with
  | zero=>simp at e1;exact absurd e1 (hm d)
  | succ i=>exact ih i d a (by simpa using e1) (by simpa using e2)
theorem nJ {H:Hp}{args:List MV}{vs:List V}{ds:List PV}{ms:List Addr} (h:di H args vs ds ms):∀ (i j:Nat) (d d':DD) (a:Addr),i ≠ j->args[i]?=some (.mutD d)->args[j]?=some (.mutD d')->vs[i]?=some (.ref a)->vs[j]? ≠ some (.ref a):=by
 induction h with
 | nil=>intro i j d d' a _ e;simp at e
 | mutd h hn t ih =>
  intro i j d d' a hij e1 e2 e3 e4
  cases i with
  | zero =>
   cases j with
   | zero=>exact hij rfl
   | succ j =>
    simp at e3
    subst e3
    exact hn (iG t j d' _ (by simpa using e2) (by simpa using e4))
  | succ i =>
   cases j with
   | zero =>
    simp at e4
    subst e4
    exact hn (iG t i d _ (by simpa using e1) (by simpa using e3))
   | succ j=>exact ih i j d d' a (by omega) (by simpa using e1) (by simpa using e2) (by simpa using e3) (by simpa using e4)
 | other hm t ih =>
  intro i j d d' a hij e1 e2 e3 e4
  cases i with
  | zero=>simp at e1;exact hm d e1
  | succ i =>
   cases j with
   | zero=>simp at e2;exact hm d' e2
   | succ j=>exact ih i j d d' a (by omega) (by simpa using e1) (by simpa using e2) (by simpa using e3) (by simpa using e4)
theorem qP {H H':Hp}{args:List MV}{vs:List V}{ds:List PV}{ms:List Addr} (h:di H args vs ds ms):∀ {ρ:Rho}{ds':List PV},cs args ρ=some ds'->(∀ (i:Nat) (d d':DD) (a:Addr),args[i]?=some (.mutD d)->ρ[i]?=some (some (.mutD d'))->vs[i]?=some (.ref a)->H' a=some (cQ d'))->di H' args vs ds' ms:=by
 induction h with
 | nil=>intro ρ ds' e _;rw [cs] at e;cases e;exact .nil
 | mutd h hn t ih =>
  intro ρ ds' e hq
  match ρ,e with
  | some (.mutD d')::ρ,e =>
   rw [cs,Option.map_eq_some_iff] at e
   obtain ⟨ds2,e0,rfl⟩:=e
   exact .mutd (hq 0 _ d' _ rfl rfl rfl) hn (ih e0 λi d d2 a e1 e2 e3=>hq (i + 1) d d2 a (by simpa using e1) (by simpa using e2) (by simpa using e3))
 | other hm t ih =>
  intro ρ ds' e hq
  rename_i m v as vs ds ms
  match m,ρ,e,hm with
  | .val _,r::ρ,e,hm =>
   rw [cs] at e
   exact .other hm (ih e λi d d2 a e1 e2 e3=>hq (i + 1) d d2 a (by simpa using e1) (by simpa using e2) (by simpa using e3))
  | .mutD d,_,_,hm=>exact absurd rfl (hm d)
theorem gz {α β:Type}{F:α->β->Prop}:∀ {xs:List α}{ys:List β}{i:Nat}{x:α},Paired F xs ys->xs[i]?=some x->∃ y,ys[i]?=some y/\F x y
 | _,_,_,_,.nil,e=>by simp at e
 | _,_,0,_,.cons r _,e=>by simp at e;subst e;exact ⟨_,rfl,r⟩
 | _,_,i + 1,x,.cons _ t,e=>by
  obtain ⟨u,h1,h2⟩:=gz (i:=i) (x:=x) t (by simpa using e)
  exact ⟨u,by simpa using h1,h2⟩
theorem nK {K:PySem.W.Frag}{H:Hp}{O:List Addr}{args:List MV}{vs:List V}{N:List Str} (hO:∀ a ∈ O,H a ≠ none) (h:Paired (iW K O H) args vs):au K H O O H (args.map some ++ List.replicate (N.length - args.length) none) (cB N vs):=by
 have hl:args.length=vs.length:=Paired.length h
 have get:∀ (i:Nat) (m:MV),(args.map some ++ List.replicate (N.length - args.length) none)[i]?=some (some m)->∃ u,(cB N vs)[i]?=some (some u)/\iW K O H m u:=λi m e=>by
  by_cases hi:i < args.length
  ·rw [List.getElem?_append_left (by simpa using hi),List.getElem?_map] at e
   cases ea:args[i]? with
   | none=>rw [ea] at e;cases e
   | some m' =>
    rw [ea] at e
    cases e
    obtain ⟨u,eu,q⟩:=gz h ea
    refine ⟨u,?_,q⟩
    unfold L2.cB
    rw [List.getElem?_append_left (by rw [List.length_map,<- hl];exact hi),List.getElem?_map,eu]
    rfl
  ·rw [List.getElem?_append_right (by simpa using hi),List.getElem?_replicate] at e
   split at e <;> cases e
 refine ⟨ag.refl H,hO,λa ha=>ha,hO,by unfold L2.cB;simp [hl],λi m e=>?_,λi j xs ys a _ e _ ox _=>?_⟩
 ·obtain ⟨u,eu,q⟩:=get i m e
  refine ⟨u,eu,?_⟩
  cases m with
  | val v=>exact q
  | own _=>exact q.elim
  | brw ys=>exact q
  | ownD _=>exact q.elim
  | mutD _=>exact q.elim
  | brwD _=>exact q
 ·obtain ⟨u,eu,q⟩:=get i _ e
  cases xs with
  | own _=>exact q.elim
  | ownD _=>exact q.elim
  | mutD _=>exact q.elim
  | val _=>cases ox
  | brw _=>cases ox
  | brwD _=>cases ox
theorem iH {α:Type}{F:α->V->Prop}{args:List α}{vs:List V}{N:List Str} (h:Paired F args vs):∀ (i:Nat) (m:α),(args.map some ++ List.replicate (N.length - args.length) none)[i]?=some (some m)->args[i]?=some m/\∃ u,vs[i]?=some u/\(cB N vs)[i]?=some (some u)/\F m u:=λi m e=>by
 have hl:args.length=vs.length:=Paired.length h
 by_cases hi:i < args.length
 ·rw [List.getElem?_append_left (by simpa using hi),List.getElem?_map] at e
  cases ea:args[i]? with
  | none=>rw [ea] at e;cases e
  | some m' =>
   rw [ea] at e
   cases e
   obtain ⟨u,eu,q⟩:=gz h ea
   refine ⟨rfl,u,eu,?_,q⟩
   unfold L2.cB
   rw [List.getElem?_append_left (by rw [List.length_map,<- hl];exact hi),List.getElem?_map,eu]
   rfl
 ·rw [List.getElem?_append_right (by simpa using hi),List.getElem?_replicate] at e
  split at e <;> cases e
theorem qQ {K:PySem.W.Frag}{H:Hp}{O:List Addr}{args:List MV}{vs:List V}{N:List Str}{ds:List PV}{ms:List Addr} (hO:∀ a ∈ O,H a ≠ none) (h:Paired (v8 K O H) args vs) (hm:di H args vs ds ms):au K (jZ H ms) (O.filter λb=>decide (b ∉ ms)) O H (args.map some ++ List.replicate (N.length - args.length) none) (cB N vs):=by
 have hl:args.length=vs.length:=Paired.length h
 have le:ag (jZ H ms) H:=λb u e=>by
  unfold jZ at e
  split at e
  ·cases e
  ·exact e
 refine ⟨le,hO,λa ha=>(List.mem_filter.mp ha).1,λa ha=>?_,by unfold L2.cB;simp [hl],λi m e=>?_,λi j x y a hij e1 e2 ox oy s1 s2=>?_⟩
 ·obtain ⟨h1,h2⟩:=List.mem_filter.mp ha
  unfold jZ
  rw [if_neg (of_decide_eq_true h2)]
  exact hO a h1
 ·obtain ⟨ea,u,ev',eu,q⟩:=iH h i m e
  refine ⟨u,eu,?_⟩
  cases m with
  | val v=>exact q
  | mutD d =>
   obtain ⟨a,rfl,h1,h2⟩:=q
   refine ⟨a,rfl,h1,h2,?_⟩
   unfold jZ
   rw [if_pos (iG hm i d a ea ev')]
  | own _=>exact q.elim
  | brw _=>exact q.elim
  | ownD _=>exact q.elim
  | brwD _=>exact q.elim
 ·obtain ⟨ea,u,ev1,eu,q⟩:=iH h i x e1
  obtain ⟨eb,w,ev2,ew,q'⟩:=iH h j y e2
  rw [eu] at s1
  cases s1
  rw [ew] at s2
  cases s2
  cases x with
  | mutD d =>
   cases y with
   | mutD d'=>exact nJ hm i j d d' a hij ea eb ev1 ev2
   | val _=>cases oy
   | own _=>exact q'.elim
   | brw _=>exact q'.elim
   | ownD _=>exact q'.elim
   | brwD _=>exact q'.elim
  | val _=>cases ox
  | own _=>exact q.elim
  | brw _=>exact q.elim
  | ownD _=>exact q.elim
  | brwD _=>exact q.elim
section
variable {T:Tab}{P:Program}{w:World}{K:PySem.W.Frag}{mg:Str->Option Value}{base:Heap}{ds:List MD}
structure A1 (P:Program) (w:World) (K:PySem.W.Frag) (mg:Str->Option Value) (base:Heap) (ds:List MD) (n g:Nat) (fa:Addr) (fd:FuncData) (ps:List Str):Prop where
 m:dQ P w K mg base CX0 n fa fd ps (spM K (aa ds n) g)
 f:dQ P w K mg base CX0 n fa fd ps (spF K (aa ds n) g)
 d:dQ P w K mg base CX0 n fa fd ps (spD K (aa ds n) g)
theorem ji (hlen:ds.length <= 1000) (pr:y0 T K mg ds):∀ (n f:Nat) (d:MD),ds[f]?=some d->∀ st fa fd,nI T K mg st d fa fd->A1 P w K mg base ds n f fa fd d.params
 | 0,f,d,hd,st,fa,fd,D=>{
   m:=⟨λvs H Q E h=>(by obtain ⟨O,args,r,_,_,e,_⟩:=h;exact absurd e (by simp [aa])),λA outer s H args us vs Q E _ _ _ _ h=>(by obtain ⟨O,args,r,_,_,e,_⟩:=h;exact absurd e (by simp [aa]))⟩
   f:=⟨λvs H Q E h=>(by obtain ⟨O,args,r,_,_,e,_⟩:=h;exact absurd e (by simp [aa])),λA outer s H args us vs Q E _ _ _ _ h=>(by obtain ⟨O,args,r,_,_,e,_⟩:=h;exact absurd e (by simp [aa]))⟩
   d:=⟨λvs H Q E h=>(by obtain ⟨O,args,v,ds,ds₀,ms,_,_,_,e,_⟩:=h;exact absurd e (by simp [aa])),λA outer s H args us vs Q E _ _ _ _ h=>(by obtain ⟨O,args,v,ds,ds₀,ms,_,_,_,e,_⟩:=h;exact absurd e (by simp [aa]))⟩
   }
 | n + 1,f,d,hd,st,fa,fd,D=>by
  obtain ⟨c0,d0,k0,o0,m0,a0,cdv,t1,a1,sl,lk,hc,rfl⟩:=D.fn.it
  have hf:f < 1000:=Nat.lt_of_lt_of_le (List.getElem?_eq_some_iff.mp hd).1 hlen
  have hn:ds[f + 1000]?=none:=List.getElem?_eq_none (by omega)
  have hn2:ds[f + 2000]?=none:=List.getElem?_eq_none (by omega)
  have gg:∀ {A:Around}{outer:_}{s:Shared}{H:Hp}{E:_},_->Gf (mR CX0 P w K mg base d.names d.name (aX st) fa cdv A outer s H E).nox T n (aa ds n):=λ{A outer s H E} hr=>{
   calm:=rfl
   room:=hr
   fns:=λf' x hx=>by
    rw [pr.tab,List.getElem?_map] at hx
    cases hd2:ds[f']? with
    | none=>rw [hd2] at hx;cases hx
    | some d2 =>
     rw [hd2] at hx
     cases hx
     obtain ⟨l2,st2,fa2,fd2,el,D2,bd⟩:=pr.defs.get hd2
     exact ⟨fa2,fd2,d2.params,D2.named,D2.fn.kp,D2.binds,(ji hlen pr n f' d2 hd2 st2 fa2 fd2 D2).m,λl hl=>by rw [el] at hl;cases hl;exact bd⟩
   blt:=pr.blt
   gs:=pr.gs
   fnsF:=λf' x hx=>by
    rw [pr.tab,List.getElem?_map] at hx
    cases hd2:ds[f']? with
    | none=>rw [hd2] at hx;cases hx
    | some d2 =>
     rw [hd2] at hx
     cases hx
     obtain ⟨l2,st2,fa2,fd2,el,D2,bd⟩:=pr.defs.get hd2
     exact ⟨fa2,fd2,d2.params,D2.named,D2.fn.kp,D2.binds,(ji hlen pr n f' d2 hd2 st2 fa2 fd2 D2).f⟩
   fnsD:=λf' x hx=>by
    rw [pr.tab,List.getElem?_map] at hx
    cases hd2:ds[f']? with
    | none=>rw [hd2] at hx;cases hx
    | some d2 =>
     rw [hd2] at hx
     cases hx
     obtain ⟨l2,st2,fa2,fd2,el,D2,bd⟩:=pr.defs.get hd2
     exact ⟨fa2,fd2,d2.params,D2.named,D2.fn.kp,D2.binds,(ji hlen pr n f' d2 hd2 st2 fa2 fd2 D2).d⟩
   }
  have df:∀ {A:Around}{outer:_}{s:Shared}{H:Hp}{E:_},Df (mR CX0 P w K mg base d.names d.name (aX st) fa cdv A outer s H E).nox:=λ{A outer s H E}=>⟨D.scope.nd,λ_=>rfl,PassesOwn.never,by
    have hk:(mR CX0 P w K mg base d.names d.name (aX st) fa cdv A outer s H E).nox.env.scope.kind=.function:=D.scope.kind
    unfold Env.blockKind
    rw [hk]
    rfl⟩
  refine {
   m:=?_
   f:=?_
   d:=?_
   }
  ·refine rW lk hc D.scope (λvs H Q E h=>?_) (λA outer s H vs Q E hr h=>?_)
   ·obtain ⟨O,args,r,_,hp,e,_⟩:=h
    rw [<- (jY hd e).1]
    exact (Paired.length hp).symm
   ·obtain ⟨O,args,r,hO,hp,e,q⟩:=h
    obtain ⟨hl,hr'⟩:=jY hd e
    refine ⟨_,(soundSs (gg hr) df d.body (dB st) D.body).nox,H,O,O,_,nK hO hp,?_⟩
    rcases hr' with ⟨ρ,he,rfl⟩|he|⟨xs,he,rfl⟩
    ·rw [he]
     exact λσ' H' O' st' _=>q _ H' st'.keep (ml _)
    ·rw [he]
     exact λu H' s' r'=>q u H' s' r'
    ·rw [he]
     refine λp us H' s' hp' he' r'=>q _ H' s' ?_
     rw [Rep]
     refine ⟨p,us,rfl,SqL.of ?_,Reps.mono g_ _ r'⟩
     rw [bD λz=>hO p z hp']
     exact he'
  ·refine rW lk hc D.scope (λvs H Q E h=>?_) (λA outer s H vs Q E hr h=>?_)
   ·obtain ⟨O,args,r,_,hp,e,_⟩:=h
    rw [<- (iY hf hn hd e).1]
    exact (Paired.length hp).symm
   ·obtain ⟨O,args,xs,hO,hp,e,q⟩:=h
    obtain ⟨hl,ys,he,ey⟩:=iY hf hn hd e
    cases ey
    refine ⟨_,(soundSs (gg hr) df d.body (dB st) D.body).nox,H,O,O,_,nK hO hp,?_⟩
    rw [he]
    exact λp us H' s' hp' he' r'=>q p us H' s' hp' he' r'
  ·refine rW lk hc D.scope (λvs H Q E h=>?_) (λA outer s H vs Q E hr h=>?_)
   ·obtain ⟨O,args,v,es,ds₀,ms,_,hp,_,e,_⟩:=h
    rw [<- (lx hn2 hd e).1]
    exact (Paired.length hp).symm
   ·obtain ⟨O,args,v,es,ds₀,ms,hO,hp,hm,e,q⟩:=h
    obtain ⟨hl,v',ρ,es',he,hms,ey⟩:=lx hn2 hd e
    injection ey with ey
    injection ey with ey1 ey2
    cases y1 ey1
    subst ey2
    refine ⟨_,(soundSs (gg hr) df d.body (dB st) D.body).nox,jZ H ms,_,O,_,qQ hO hp hm,?_⟩
    rw [he]
    refine λσ' H' O' st' k'=>q H' (λb o hb eb=>st'.keep b o ?_) (qP hm hms λi d1 d' a e1 e2 e3=>?_)
    ·unfold jZ
     rw [if_neg hb]
     exact eb
    ·obtain ⟨_,es2⟩:=k'.mutK i d' e2
     obtain ⟨u,eu,a',rfl,h1,_⟩:=st'.slot i _ e2
     have ei:(cB d.names vs)[i]?=some (some (.ref a)):=by
      have hi:i < vs.length:=(List.getElem?_eq_some_iff.mp e3).1
      unfold L2.cB
      rw [List.getElem?_append_left (by simpa using hi),List.getElem?_map,e3]
      rfl
     rw [es2,ei] at eu
     cases eu
     exact h1
theorem A2 (hlen:ds.length <= 1000) (pr:y0 T K mg ds) (n f:Nat) (d:MD) (hd:ds[f]?=some d) (st:Stmt) (fa:Addr) (fd:FuncData) (D:nI T K mg st d fa fd):dQ P w K mg base CX0 n fa fd d.params (spM K (aa ds n) f):=(ji hlen pr n f d hd st fa fd D).m
end
theorem y2 {K:PySem.W.Frag}{ds:List MD}{n li:Nat}{H:Hp}{a:Addr}{ns:List Int} (h:aa ds n li [.brw (ns.map .int)]=some (.bl true)) (hS:SqL K H a (ns.map V.int)):spM K (aa ds n) li [.ref a] H (λv _=>v=.bl true) λ_ _ _=>False :=
 ⟨[],[.brw (ns.map .int)],.bl true,λ_ z=>by simp at z,.cons ⟨a,_,rfl,hS,.of_ints ns⟩ .nil,h,λu H' _ r=>by rw [Rep] at r;exact r⟩
end MM
namespace MM
open PySem
noncomputable abbrev ofS (ts:List Int):PV:=.tup (ts.map .int)
noncomputable abbrev ofR (R:List (List Int)):PV:=.tup (R.map ofS)
noncomputable abbrev ofL (ns:List Int):PV:=.lst (ns.map .int)
theorem cb:∀ ns:List Int,aN (ns.map .int)=some ns
 | []=>rfl
 | n::ns=>by simp [aN,cb ns]
theorem iI:∀ R:List (List Int),cE (R.map ofS)=some R
 | []=>rfl
 | t::R=>by simp [cE,cb,iI R]
theorem j1:∀ ns:List Bool,bK (ns.map .bl)=some ns
 | []=>rfl
 | n::ns=>by simp [bK,j1 ns]
theorem ly {ns:List Int} (h:ns.length < 64):fw (ns.map .int)=some (ofL (sortI ns)):=by
 unfold fw
 rw [if_pos (by simpa using h),cb]
theorem lz {R:List (List Int)} (h:R.length < 64):fw (R.map ofS)=some (.lst ((sortT R).map ofS)):=by
 unfold fw
 rw [if_pos (by simpa using h)]
 cases R with
 | nil=>rfl
 | cons t R =>
  have:aN ((t::R).map ofS)=none:=rfl
  rw [this]
  simp only [iI,Option.map_some]
theorem eT {α:Type}{g:α->PV}{c:PV->Option Bool}{f:PV->Option PV}{p:α->Bool}{h:α->PV}:∀ {xs:List α},(∀ x ∈ xs,c (g x)=some (p x))->(∀ x ∈ xs,p x=true->f (g x)=some (h x))->dh c f (xs.map g)=some ((xs.filter p).map h)
 | [],_,_=>rfl
 | x::xs,hc,hf=>by
  rw [List.map_cons,dh,hc x (.head _),Option.bind_some]
  have ih:=eT (xs:=xs) (λy hy=>hc y (.tail _ hy)) (λy hy=>hf y (.tail _ hy))
  cases hp:p x with
  | true=>rw [if_pos rfl,hf x (.head _) hp,Option.bind_some,ih,List.filter_cons_of_pos hp];rfl
  | false=>rw [if_neg (by simp),ih,List.filter_cons_of_neg (by simp [hp])]
theorem gA {α:Type}{g:α->PV}{c:PV->Option Bool}{f:PV->Option PV}{h:α->PV}{xs:List α} (hc:∀ x ∈ xs,c (g x)=some true) (hf:∀ x ∈ xs,f (g x)=some (h x)):dh c f (xs.map g)=some (xs.map h):=by
 rw [eT (p:=λ_=>true) hc (λx hx _=>hf x hx),List.filter_eq_self.mpr λ_ _=>rfl]
theorem y3 (a b:Int) (ts:List Int):((b == a) || decide (a ∈ ts))=decide (a=b \/ a ∈ ts):=by
 by_cases e:a=b
 ·subst e;rw [beq_self_eq_true,Bool.true_or];exact (decide_eq_true (.inl rfl)).symm
 ·rw [beq_eq_false_iff_ne.mpr (Ne.symm e),Bool.false_or]
  by_cases q:a ∈ ts
  ·rw [decide_eq_true q,decide_eq_true (.inr q)]
  ·rw [decide_eq_false q,decide_eq_false (λz=>z.elim e q)]
theorem y4 (a b:List Int) (ts:List (List Int)):(decide (b=a) || decide (a ∈ ts))=decide (a=b \/ a ∈ ts):=by
 by_cases e:a=b
 ·subst e;rw [decide_eq_true rfl,Bool.true_or];exact (decide_eq_true (.inl rfl)).symm
 ·rw [decide_eq_false (Ne.symm e),Bool.false_or]
  by_cases q:a ∈ ts
  ·rw [decide_eq_true q,decide_eq_true (.inr q)]
  ·rw [decide_eq_false q,decide_eq_false (λz=>z.elim e q)]
theorem c8 (h:Int):∀ ts:List Int,isIn (.int h) (ts.map .int)=some (decide (h ∈ ts))
 | []=>rfl
 | t::ts=>by
  have ih:=c8 h ts
  unfold isIn at ih ⊢
  rw [List.map_cons,inL,ih]
  simp only [eqF,Option.bind_some,Option.map_some,List.mem_cons,y3]
theorem nL (n:Nat):∀ a b:List Int,eqL (eqF n) (a.map .int) (b.map .int)=some (decide (a=b))
 | [],[]=>rfl
 | [],_::_=>rfl
 | _::_,[]=>rfl
 | x::a,y::b=>by
  rw [List.map_cons,List.map_cons,eqL,nL n a b]
  simp only [eqF,Option.bind_some,Option.map_some,List.cons.injEq]
  congr 1
  rw [Bool.eq_iff_iff]
  simp
theorem xl (n:Nat) (a b:List Int):eqF (n + 1) (ofS a) (ofS b)=some (decide (a=b)):=by rw [eqF,nL]
theorem j2 (h:List Int):∀ ts:List (List Int),isIn (ofS h) (ts.map ofS)=some (decide (h ∈ ts))
 | []=>rfl
 | t::ts=>by
  have ih:=j2 h ts
  unfold isIn at ih ⊢
  rw [List.map_cons,inL,ih,xl 99]
  simp only [Option.bind_some,Option.map_some,List.mem_cons,y4]
noncomputable def cj:R->Option PV
 | .next _=>some .non
 | .ret v=>some v
 | .retF xs=>some (.lst xs)
 | _=>none
theorem ay {ds:List MD}{n f:Nat}{d:MD}{args:List MV} (hd:ds[f]?=some d) (hl:args.length=d.params.length):aa ds (n + 1) f args=cj (exs (aa ds n) d.body (args.map some ++ List.replicate (d.names.length - args.length) none)):=by
 rw [aa,hd]
 simp only [hl,if_true]
 unfold cj
 rfl
noncomputable def kJ (args:List MV):R->Option PV
 | .retM v ρ=>(cs args ρ).map λds=>.tup (v.pv::ds)
 | _=>none
theorem iJ {ds:List MD}{n f:Nat}{d:MD}{args:List MV} (hn:ds[f + 2000]?=none) (hd:ds[f]?=some d) (hl:args.length=d.params.length):aa ds (n + 1) (f + 2000) args=kJ args (exs (aa ds n) d.body (args.map some ++ List.replicate (d.names.length - args.length) none)):=by
 rw [aa,hn]
 dsimp only
 rw [if_pos (by omega),Nat.add_sub_cancel,hd]
 simp only [hl,if_true]
 unfold kJ
 rfl
@[simp] theorem zw (v:Sc) (ρ:Rho) (k:Rho->R):(R.retM v ρ).andThen k=.retM v ρ:=rfl
@[simp] theorem y6 (v:DD):be (some (.mutD v))=some (.dI v):=rfl
@[simp] theorem y7 (v:DD):ez (some (.mutD v))=some (.brwD v):=rfl
@[simp] theorem y9 (v:DD):dE (some (.mutD v))=some (.brwD v):=rfl
@[simp] theorem zx (xs:List PV) (k:Rho->R):(R.retF xs).andThen k=.retF xs:=rfl
@[simp] theorem zy (v:PV):be (some (.val v))=some v:=rfl
@[simp] theorem zz (v:List PV):be (some (.own v))=some (.lst v):=rfl
@[simp] theorem zA (v:List PV):be (some (.brw v))=some (.lst v):=rfl
@[simp] theorem y_ (v:DD):be (some (.ownD v))=some (.dI v):=rfl
@[simp] theorem za (v:DD):be (some (.brwD v))=some (.dI v):=rfl
@[simp] theorem zb (v:DD):ez (some (.ownD v))=some (.brwD v):=rfl
@[simp] theorem zc (v:DD):ez (some (.brwD v))=some (.brwD v):=rfl
@[simp] theorem zd (v:DD):dE (some (.ownD v))=some (.brwD v):=rfl
@[simp] theorem ze (v:DD):dE (some (.brwD v))=some (.brwD v):=rfl
@[simp] theorem B1 (i:Int):sc? (.int i)=some (.int i):=rfl
@[simp] theorem Ce (i:Bool):sc? (.bl i)=some (.bl i):=rfl
@[simp] theorem B2:sc? .non=some .non:=rfl
@[simp] theorem B3 (i:Int):(Sc.int i).pv=.int i:=rfl
@[simp] theorem Cf (i:Bool):(Sc.bl i).pv=.bl i:=rfl
@[simp] theorem zB (v:PV):sV (some (.val v))=some v:=rfl
@[simp] theorem zC (v:PV):ez (some (.val v))=some (.val v):=rfl
@[simp] theorem zD (v:List PV):ez (some (.own v))=some (.brw v):=rfl
@[simp] theorem zE (v:List PV):ez (some (.brw v))=some (.brw v):=rfl
@[simp] theorem zF (v:PV):dE (some (.val v))=some (.val v):=rfl
@[simp] theorem zG (v:List PV):dE (some (.own v))=some (.brw v):=rfl
@[simp] theorem zH (v:List PV):dE (some (.brw v))=some (.brw v):=rfl
@[simp] theorem zI (b:Bool):aC (.bl b)=some b:=rfl
@[simp] theorem Bl (i j:Int):fZ .add (.int i) (.int j)=some (.int (i + j)):=rfl
@[simp] theorem Bm (i j:Int):fZ .sub (.int i) (.int j)=some (.int (i - j)):=rfl
@[simp] theorem Bn (i j:Int):fZ .mul (.int i) (.int j)=if (-(2 ^ 64) < i/\i < 2 ^ 64) \/ (-(2 ^ 64) < j/\j < 2 ^ 64) then some (.int (i * j)) else none:=rfl
@[simp] theorem ul (i j:Int):fZ .fdiv (.int i) (.int j)=if 0 < j/\j < 1073741824 then some (.int (i / j)) else none:=rfl
@[simp] theorem hZ (i j:Int):fZ .mod (.int i) (.int j)=if 0 < j then some (.int (i % j)) else none:=rfl
@[simp] theorem pR (x y:List PV):fZ .add (.lst x) (.lst y)=if x.length + y.length <= 10000 then some (.lst (x ++ y)) else none:=rfl
@[simp] theorem B4 (i j:Int):bv .lt (.int i) (.int j)=some (decide (i < j)):=rfl
@[simp] theorem zf (i j:Int):bv .le (.int i) (.int j)=some (decide (i <= j)):=rfl
@[simp] theorem B5 (i j:Int):bv .gt (.int i) (.int j)=some (decide (j < i)):=rfl
@[simp] theorem B6 (i j:Int):bv .ge (.int i) (.int j)=some (decide (j <= i)):=rfl
@[simp] theorem mz (x y:PV):bv .eq x y=eqF 100 x y:=rfl
@[simp] theorem B7 (x y:PV):bv .ne x y=if i5 x y=true then (eqF 100 x y).map (λp=>!p) else none:=rfl
@[simp] theorem Bo (x:PV):bv .isN x .non=some (f_ x):=rfl
@[simp] theorem A3 (x:PV):bv .notN x .non=some (!f_ x):=rfl
@[simp] theorem Bp (x:PV) (xs:List PV):bv .isIn x (.tup xs)=isIn x xs:=rfl
@[simp] theorem Bq (x:PV) (xs:List PV):bv .isIn x (.lst xs)=isIn x xs:=rfl
@[simp] theorem A4 (x:PV) (xs:List PV):bv .notIn x (.tup xs)=(isIn x xs).map λp=>!p:=rfl
@[simp] theorem A5 (x:PV) (xs:List PV):bv .notIn x (.lst xs)=(isIn x xs).map λp=>!p:=rfl
@[simp] theorem wB (n:Nat) (i j:Int):eqF n (.int i) (.int j)=some (i == j):=by cases n <;> rfl
@[simp] theorem B8 (n:Nat) (i j:Bool):eqF n (.bl i) (.bl j)=some (i == j):=by cases n <;> rfl
@[simp] theorem mB (n:Nat) (i j:Str):eqF n (.str i) (.str j)=some (i == j):=by cases n <;> rfl
@[simp] theorem Br (x y:List PV):i5 (.tup x) (.tup y)=true:=rfl
@[simp] theorem Bs (x y:List PV):i5 (.lst x) (.lst y)=true:=rfl
@[simp] theorem Bt (x y:Int):i5 (.int x) (.int y)=true:=rfl
@[simp] theorem wC (x:List PV):aO (.tup x)=some x:=rfl
@[simp] theorem pS (x:List PV):aO (.lst x)=some x:=rfl
@[simp] theorem A6 (x:List PV):aq .len [.tup x]=some (.int x.length):=rfl
@[simp] theorem A7 (x:List PV):aq .len [.lst x]=some (.int x.length):=rfl
@[simp] theorem A8 (x:List (Int × Sc)):aq .len [.dI (.k x)]=some (.int x.length):=rfl
@[simp] theorem Bu (x:PV):aq .tupleOf [x]=(aO x).map .tup:=rfl
@[simp] theorem A9 (x:PV):aq .listOf [x]=(aO x).map .lst:=rfl
@[simp] theorem oP (x:PV):aq .sorted [x]=(aO x).bind fw:=rfl
@[simp] theorem wD (x:List PV):aq .any [.lst x]=(bK x).map λbs=>.bl (bs.any id):=rfl
@[simp] theorem Bv (x:List PV):aq .all [.lst x]=(bK x).map λbs=>.bl (bs.all id):=rfl
@[simp] theorem A_ (i:Int):aq .intOf [.int i]=some (.int i):=rfl
@[simp] theorem Ba (b:Bool):aq .intOf [.bl b]=some (.int (if b then 1 else 0)):=rfl
@[simp] theorem Bw (i:Int):isD (.int i)=false:=rfl
@[simp] theorem B9 (i:Bool):isD (.bl i)=false:=rfl
@[simp] theorem Bx (i:Str):isD (.str i)=false:=rfl
@[simp] theorem By (i:List PV):isD (.tup i)=false:=rfl
@[simp] theorem Bz (i:List PV):isD (.lst i)=false:=rfl
@[simp] theorem BA:isD .non=false:=rfl
@[simp] theorem zJ (x:PV):aq .isInt [x]=if isD x=true then none else some (.bl (isT .isInt x)):=rfl
@[simp] theorem u0 (i:Int):isT .isInt (.int i)=true:=rfl
@[simp] theorem wE (i:Bool):isT .isInt (.bl i)=true:=rfl
@[simp] theorem u3 (i:Str):isT .isInt (.str i)=false:=rfl
@[simp] theorem u4 (i:List PV):isT .isInt (.lst i)=false:=rfl
@[simp] theorem u5 (i:List PV):isT .isInt (.tup i)=false:=rfl
@[simp] theorem u6:isT .isInt .non=false:=rfl
@[simp] theorem zg (x:PV):aq .isBool [x]=if isD x=true then none else some (.bl (isT .isBool x)):=rfl
@[simp] theorem um (i:Int):isT .isBool (.int i)=false:=rfl
@[simp] theorem u7 (i:Bool):isT .isBool (.bl i)=true:=rfl
@[simp] theorem uo (i:Str):isT .isBool (.str i)=false:=rfl
@[simp] theorem uq (i:List PV):isT .isBool (.lst i)=false:=rfl
@[simp] theorem ur (i:List PV):isT .isBool (.tup i)=false:=rfl
@[simp] theorem ut:isT .isBool .non=false:=rfl
@[simp] theorem zK (x:PV):aq .isStr [x]=if isD x=true then none else some (.bl (isT .isStr x)):=rfl
@[simp] theorem u8 (i:Int):isT .isStr (.int i)=false:=rfl
@[simp] theorem wF (i:Bool):isT .isStr (.bl i)=false:=rfl
@[simp] theorem u9 (i:Str):isT .isStr (.str i)=true:=rfl
@[simp] theorem u_ (i:List PV):isT .isStr (.lst i)=false:=rfl
@[simp] theorem va (i:List PV):isT .isStr (.tup i)=false:=rfl
@[simp] theorem vb:isT .isStr .non=false:=rfl
@[simp] theorem zh (x:PV):aq .isList [x]=if isD x=true then none else some (.bl (isT .isList x)):=rfl
@[simp] theorem uu (i:Int):isT .isList (.int i)=false:=rfl
@[simp] theorem vc (i:Bool):isT .isList (.bl i)=false:=rfl
@[simp] theorem uv (i:Str):isT .isList (.str i)=false:=rfl
@[simp] theorem uA (i:List PV):isT .isList (.lst i)=true:=rfl
@[simp] theorem uB (i:List PV):isT .isList (.tup i)=false:=rfl
@[simp] theorem uC:isT .isList .non=false:=rfl
@[simp] theorem xm (x:PV):aq .isTuple [x]=if isD x=true then none else some (.bl (isT .isTuple x)):=rfl
@[simp] theorem rk (i:Int):isT .isTuple (.int i)=false:=rfl
@[simp] theorem uD (i:Bool):isT .isTuple (.bl i)=false:=rfl
@[simp] theorem rl (i:Str):isT .isTuple (.str i)=false:=rfl
@[simp] theorem rm (i:List PV):isT .isTuple (.lst i)=false:=rfl
@[simp] theorem rn (i:List PV):isT .isTuple (.tup i)=true:=rfl
@[simp] theorem rp:isT .isTuple .non=false:=rfl
@[simp] theorem Bb (xs:List PV):aq .max1 [.lst xs]=(aN xs).bind λns=>(Ay ns).map .int:=rfl
@[simp] theorem zi (d:DD):aq .valuesOf [.dI d]=if (po d).length <= 10000 then some (.lst (po d)) else none:=rfl
@[simp] theorem uE (kvs:List (Int × Sc)):aq .sortedKeys [.dI (.k kvs)]=if kvs.length < 64 then some (ofL (sortI (kvs.map (·.1)))) else none:=rfl
@[simp] theorem B_ (kvs:List (Int × Sc)) (i:Int):qA (.dI (.k kvs)) (.int i)=some (aZ kvs i):=rfl
@[simp] theorem Ca (kvs:List (List Int × Sc)) (ns:List Int):qA (.dI (.t kvs)) (.tup (ns.map .int))=some (aZ kvs ns):=by
 show (aN (ns.map .int)).map (aZ kvs)=_
 rw [cb]
 rfl
@[simp] theorem Cb (kvs:List (Int × Sc)) (i:Int) (s:Sc):l8 (.k kvs) (.int i) s=if kvs.length < 10000 then some (.k (bo kvs i s)) else none:=rfl
@[simp] theorem Cc (kvs:List (List Int × Sc)) (ns:List Int) (s:Sc):l8 (.t kvs) (.tup (ns.map .int)) s=if kvs.length < 10000 then some (.t (bo kvs ns s)) else none:=by
 show ((aN (ns.map .int)).bind λk=>if kvs.length < 10000 then some (DD.t (bo kvs k s)) else none)=_
 rw [cb]
 rfl
@[simp] theorem BB (p q:Bool):bv .isN (.bl p) (.bl q)=some (p == q):=rfl
@[simp] theorem Bc (p q:Bool):bv .notN (.bl p) (.bl q)=some (!(p == q)):=rfl
@[simp] theorem wG (xs:List PV):aq .tupleRev [.lst xs]=some (.tup xs.reverse):=rfl
@[simp] theorem kK (x:PV):aq .sortedSet [x]=(aO x).bind λxs=>(aN xs).bind λns=>if ns.length <= 1000/\(dd ns).length < 64 then some (.lst ((sortI (dd ns)).map .int)) else none:=rfl
@[simp] theorem Cg (x:List PV) (i:Int):jN (.lst x) (.int i)=(place x.length i).bind λj=>x[j]?:=rfl
@[simp] theorem Ch (x:List PV) (i:Int):jN (.tup x) (.int i)=(place x.length i).bind λj=>x[j]?:=rfl
@[simp] theorem BC (x:List PV) (lo hi:Option Int):gP (.lst x) lo hi=some (.lst (cut x lo hi)):=rfl
@[simp] theorem BD (i j:Int):bnd (.cst (.int i)) (.int j)=some (some j):=rfl
@[simp] theorem wH (x:PV):dg .seq [x]=aO x:=rfl
theorem wI (j:Int):dg .rng [.int j]=if -(2 ^ 62) <= j/\j < 2 ^ 62 then some ((List.range j.toNat).map λ(k:Nat)=>.int ((0:Int) + k)) else none:=rfl
@[simp] theorem aE (ρ:Rho) (k:Rho->R):(R.next ρ).andThen k=k ρ:=rfl
@[simp] theorem Bd (v:PV) (k:Rho->R):(R.ret v).andThen k=.ret v:=rfl
@[simp] theorem Be (k:Rho->R):R.bad.andThen k=.bad:=rfl
@[simp] theorem Bf (ρ:Rho) (k:Rho->R):(R.brk ρ).andThen k=.brk ρ:=rfl
@[simp] theorem zL (ρ:Rho) (k:Rho->R):(R.cont ρ).andThen k=.cont ρ:=rfl
@[simp] theorem zj (v:PV) (k:PV->R):cK (some v) k=k v:=rfl
@[simp] theorem cv (v:Bool) (k:Bool->R):nh (some v) k=k v:=rfl
@[simp] theorem zk (v:Rho) (k:Rho->R):gQ (some v) k=k v:=rfl
@[simp] theorem zM (v:PV):cj (.ret v)=some v:=rfl
@[simp] theorem zl (ρ:Rho):cj (.next ρ)=some .non:=rfl
@[simp] theorem fD (a:Option MV) (l:Rho) (m:MV):put (a::l) 0 m=some m::l:=rfl
@[simp] theorem fE (a:Option MV) (l:Rho) (n:Nat) (m:MV):put (a::l) (n + 1) m=a::put l n m:=rfl
@[simp] theorem zN (src:List ME) (ρ₀ ρ:Rho):(R.next ρ).back src ρ₀=.next (aP src ρ₀ ρ):=rfl
@[simp] theorem Bg (src:List ME) (ρ₀:Rho) (v:PV):(R.ret v).back src ρ₀=.ret v:=rfl
@[simp] theorem zO (body:PV->Rho->R) (ρ:Rho):aY body [] ρ=.next ρ:=rfl
theorem j3 {j:Int} (h0:0 <= j) (h1:j < 4611686018427387904):dg .rng [.int j]=some ((List.range j.toNat).map λ(k:Nat)=>.int (k:Int)):=by
 rw [wI,if_pos ⟨by omega,by omega⟩]
 congr 1
 exact List.map_congr_left λk _=>by rw [Int.zero_add]
theorem uF {n:Nat}{i:Int} (h0:0 <= i) (h:i < n):place n i=some i.toNat:=by unfold place;rw [if_pos h0,if_pos h]
noncomputable def leT (a b:List Int):Prop:=lexLt b a=false
theorem sortI_perm (l:List Int):(sortI l).Perm l:=by rw [dj];exact L2.Srt.sortI_perm l
theorem sortT_perm (l:List (List Int)):(sortT l).Perm l:=by rw [g9];exact L2.Srt.sortT_perm l
theorem sortI_len (l:List Int):(sortI l).length=l.length:=(sortI_perm l).length_eq
theorem sortT_len (l:List (List Int)):(sortT l).length=l.length:=(sortT_perm l).length_eq
theorem iK {l:List Int}{x:Int}:x ∈ sortI l ↔ x ∈ l:=(sortI_perm l).mem_iff
theorem c9 {l:List (List Int)}{x:List Int}:x ∈ sortT l ↔ x ∈ l:=(sortT_perm l).mem_iff
theorem sortI_rises (l:List Int):(sortI l).Pairwise (· <= ·):=by rw [dj];exact L2.Srt.sortI_rises l
theorem sortT_rises (l:List (List Int)):(sortT l).Pairwise leT:=by
 rw [g9]
 exact (L2.Srt.sortT_rises l).imp λh=>by unfold leT;rw [jU];exact h
theorem sortI_of_perm {a b:List Int} (p:a.Perm b):sortI a=sortI b:=by rw [dj,dj];exact L2.Srt.sortI_of_perm p
theorem j4 {l:List Int} (h:l.Nodup):(sortI l).Pairwise (· < ·):=by
 have h1:=sortI_rises l
 have h2:(sortI l).Nodup:=(sortI_perm l).nodup_iff.mpr h
 exact (h1.and h2).imp λ⟨a,b⟩=>by omega
theorem mC {k:Int}{l:List Int}:k ∈ dd l ↔ k ∈ l:=by rw [ll];exact L2.St.dR
theorem dd_nodup (l:List Int):(dd l).Nodup:=by rw [ll];exact L2.St.dd_nodup l
theorem xn:∀ {l:List Int},l.Nodup->dd l=l
 | [],_=>rfl
 | x::r,h=>by
  rw [dd,xn (List.nodup_cons.mp h).2,if_neg (List.nodup_cons.mp h).1]
theorem nM {l:List Int} (h:l.Pairwise (· < ·)):l.Nodup:=h.imp λ{a b} q=>by omega
noncomputable def cm (ts:List Int):Prop:=ts.Pairwise (· < ·)/\∀ h ∈ ts,0 <= h/\h <= 59
noncomputable def cF (R:List (List Int)):Prop:=(∀ ts ∈ R,cm ts)/\R.Pairwise leT/\R.length <= 60
theorem oQ:∀ (n:Nat) (l:List Int),l.Nodup->(∀ x ∈ l,0 <= x/\x < (n:Int))->l.length <= n
 | 0,l,_,h=>by
  cases l with
  | nil=>simp
  | cons x r=>have:=h x (.head _);omega
 | n + 1,l,hn,h=>by
  have h1:=oQ n (l.filter λx=>decide (x ≠ (n:Int))) (hn.filter _) (λx hx=>by
   obtain ⟨h2,h3⟩:=List.mem_filter.mp hx
   have h4:=of_decide_eq_true h3
   have:=h x h2
   omega)
  have h2:∀ l:List Int,l.Nodup->l.length <= (l.filter λx=>decide (x ≠ (n:Int))).length + 1:=by
   intro l
   induction l with
   | nil=>intro _;simp
   | cons x r ih =>
    intro hn
    by_cases e:x=(n:Int)
    ·have hr:r.filter (λx=>decide (x ≠ (n:Int)))=r:=List.filter_eq_self.mpr λy hy=>decide_eq_true λz=>(List.nodup_cons.mp hn).1 (by rw [e,<- z];exact hy)
     rw [List.filter_cons_of_neg (by simp [e]),hr]
     simp
    ·rw [List.filter_cons_of_pos (by simp [e])]
     have:=ih (List.nodup_cons.mp hn).2
     simp only [List.length_cons]
     omega
  have:=h2 l hn
  omega
theorem c_ {ts:List Int} (h:cm ts):ts.length <= 60:=oQ 60 ts (nM h.1) λx hx=>by have:=h.2 x hx;omega
noncomputable def fh (ns:List Int) (lo hi:Option Int):List Int:=(ns.drop (fe ns.length 0 lo)).take (fe ns.length ns.length hi - fe ns.length 0 lo)
@[simp] theorem Bh (ns:List Int) (lo hi:Option Int):cut (ns.map .int) lo hi=(fh ns lo hi).map .int:=by
 unfold cut fh
 rw [List.length_map,List.map_take,List.map_drop]
theorem j5 (ns:List Int) {a b:Int} (ha:0 <= a) (hb:0 <= b):(fh ns (some a) (some b)).length <= (b - a).toNat:=by
 unfold fh
 rw [List.length_take,List.length_drop]
 have e1:fe ns.length ns.length (some b)=min b.toNat ns.length:=by show (if b < 0 then _ else _)=_;rw [if_neg (by omega)]
 have e2:fe ns.length 0 (some a)=min a.toNat ns.length:=by show (if a < 0 then _ else _)=_;rw [if_neg (by omega)]
 rw [e1,e2]
 omega
end MM
namespace PySem.W.Fast
theorem tw1347014927947822514:True:=⟨⟩
theorem tw11991368474534171218:True:=⟨⟩
theorem tw12271797327967857298:True:=⟨⟩
theorem tw3496636130037473265:True:=⟨⟩
theorem tw10174768260282878929:True:=⟨⟩
theorem tw17530067126539020043:True:=⟨⟩
theorem tw17912119679975494012:True:=⟨⟩
theorem tw11643569161164585924:True:=⟨⟩
theorem tw8684215867080415111:True:=⟨⟩
theorem tw12655239700694357223:True:=⟨⟩
theorem tw5316683108380729079:True:=⟨⟩
theorem tw18221195549311106188:True:=⟨⟩
theorem tw11173657632517633960:True:=⟨⟩
theorem tw4603477255509691924:True:=⟨⟩
theorem tw13582187859491947144:True:=⟨⟩
theorem tw10721840650609032835:True:=⟨⟩
theorem tw12624255850403534354:True:=⟨⟩
theorem tw997898044176657122:True:=⟨⟩
theorem tw9003177592387701398:True:=⟨⟩
theorem tw3053617882342423696:True:=⟨⟩
theorem tw15686035784809821534:True:=⟨⟩
theorem tw3293116949668607028:True:=⟨⟩
theorem tw13134513336222301792:True:=⟨⟩
theorem tw9923713644365181548:True:=⟨⟩
theorem tw14088136321798712507:True:=⟨⟩
theorem tw10069707445484682176:True:=⟨⟩
theorem tw1299693834207761381:True:=⟨⟩
theorem tw12296423969553330999:True:=⟨⟩
theorem tw4207348460767233905:True:=⟨⟩
theorem tw12820093714093566689:True:=⟨⟩
theorem tw6535301494662689688:True:=⟨⟩
theorem tw16280706809383826999:True:=⟨⟩
theorem tw9256825407646726410:True:=⟨⟩
theorem tw15315075939723104228:True:=⟨⟩
theorem tw16330661809103438909:True:=⟨⟩
theorem tw345905897955591785:True:=⟨⟩
theorem tw8403593468806030722:True:=⟨⟩
theorem tw5621284717512610173:True:=⟨⟩
theorem tw9588181851798541377:True:=⟨⟩
theorem tw6979696506159841846:True:=⟨⟩
theorem tw17784034375797739754:True:=⟨⟩
theorem tw15884267713627914514:True:=⟨⟩
theorem tw10319487466277185295:True:=⟨⟩
theorem tw8659055757175456496:True:=⟨⟩
theorem tw7625461580217306761:True:=⟨⟩
theorem tw7736125253510242090:True:=⟨⟩
theorem tw17123590025269538960:True:=⟨⟩
theorem tw5190652654527522631:True:=⟨⟩
theorem tw17416686835520523337:True:=⟨⟩
theorem tw6672494038343279701:True:=⟨⟩
theorem tw3983392641081016869:True:=⟨⟩
theorem tw13663111218221443289:True:=⟨⟩
theorem tw8927385299739872869:True:=⟨⟩
theorem tw18369403143188085379:True:=⟨⟩
theorem tw5738434387942761914:True:=⟨⟩
theorem tw16153379497586251474:True:=⟨⟩
theorem tw11992153508135786174:True:=⟨⟩
theorem tw6979633769628543056:True:=⟨⟩
theorem tw12967944007162969649:True:=⟨⟩
theorem tw9944676578604087284:True:=⟨⟩
theorem tw5879425412023868797:True:=⟨⟩
theorem tw2963223483369656164:True:=⟨⟩
theorem tw2918922716657734977:True:=⟨⟩
theorem tw11111503026385737655:True:=⟨⟩
theorem tw16700091045739991559:True:=⟨⟩
theorem tw9908523369587255433:True:=⟨⟩
theorem tw2685532597944597196:True:=⟨⟩
theorem tw12088368917942466311:True:=⟨⟩
theorem tw16428863440205481881:True:=⟨⟩
theorem tw8019486326837613771:True:=⟨⟩
theorem tw16345213597678806136:True:=⟨⟩
theorem tw5070969770533008655:True:=⟨⟩
theorem tw2542317427780601778:True:=⟨⟩
theorem tw10623634887587602926:True:=⟨⟩
theorem tw5129791390894535632:True:=⟨⟩
theorem tw6395116065597115786:True:=⟨⟩
theorem tw4736077349210076801:True:=⟨⟩
theorem tw17444753054377312202:True:=⟨⟩
theorem tw13060864166266316129:True:=⟨⟩
theorem tw8437556729200779372:True:=⟨⟩
theorem tw5263591418478509047:True:=⟨⟩
theorem tw16931203636824509682:True:=⟨⟩
theorem tw7859872599497870579:True:=⟨⟩
theorem tw2988420021696346754:True:=⟨⟩
theorem tw10229263707877274915:True:=⟨⟩
theorem tw6675976304489408360:True:=⟨⟩
theorem tw14444513196585270780:True:=⟨⟩
theorem tw9122560297030005141:True:=⟨⟩
theorem tw5778000925825723670:True:=⟨⟩
theorem tw14380956648533274268:True:=⟨⟩
theorem tw13055618843649580076:True:=⟨⟩
theorem tw17894064862206197484:True:=⟨⟩
theorem tw11411217972279023198:True:=⟨⟩
theorem tw15242487517428193395:True:=⟨⟩
theorem tw11141931410820308386:True:=⟨⟩
theorem tw5180226016415683655:True:=⟨⟩
theorem tw1055245739074189593:True:=⟨⟩
theorem tw7832242717451572941:True:=⟨⟩
theorem tw14225038012716194361:True:=⟨⟩
theorem tw16387020345091225001:True:=⟨⟩
theorem tw5754341451933366447:True:=⟨⟩
theorem tw1195103874272271527:True:=⟨⟩
theorem tw6027256149054095444:True:=⟨⟩
theorem tw4692403950738084398:True:=⟨⟩
theorem tw17228630969627450291:True:=⟨⟩
theorem tw15479157458283591024:True:=⟨⟩
theorem tw3704161273627520146:True:=⟨⟩
theorem tw13245840627789723665:True:=⟨⟩
theorem tw6988788043846706397:True:=⟨⟩
theorem tw4813205852023241608:True:=⟨⟩
theorem tw4262859217327859479:True:=⟨⟩
theorem tw16085538504494688739:True:=⟨⟩
theorem tw4840735201638027896:True:=⟨⟩
theorem tw5866118933201239336:True:=⟨⟩
theorem tw13268410121938900842:True:=⟨⟩
theorem tw9899223647774715656:True:=⟨⟩
theorem tw17253256785096095389:True:=⟨⟩
theorem tw8303561614780252780:True:=⟨⟩
theorem tw6997571853048582254:True:=⟨⟩
theorem tw15276804045909679663:True:=⟨⟩
theorem tw11590569513619175420:True:=⟨⟩
theorem tw16574269724908988316:True:=⟨⟩
theorem tw3358919702027658175:True:=⟨⟩
theorem tw16126709329134194061:True:=⟨⟩
theorem tw12985459942876262769:True:=⟨⟩
theorem tw13344380009937042025:True:=⟨⟩
theorem tw1681953554700999287:True:=⟨⟩
theorem tw18335104062666553631:True:=⟨⟩
theorem tw11801953160800573693:True:=⟨⟩
theorem tw16176462701670435145:True:=⟨⟩
theorem tw8879697818489843072:True:=⟨⟩
theorem tw15680394966345872871:True:=⟨⟩
theorem tw9646582572075462953:True:=⟨⟩
theorem tw1277317107268597241:True:=⟨⟩
theorem tw1178725465152480379:True:=⟨⟩
theorem tw4589183010303735203:True:=⟨⟩
theorem tw14320133581612397422:True:=⟨⟩
theorem tw2309938949593652035:True:=⟨⟩
theorem tw3982158194009329279:True:=⟨⟩
theorem tw12962612652712627882:True:=⟨⟩
theorem tw10407652505791633706:True:=⟨⟩
theorem tw10358901803921214765:True:=⟨⟩
theorem tw5844830926977917808:True:=⟨⟩
theorem tw8152595415244917284:True:=⟨⟩
theorem tw6478838174775297728:True:=⟨⟩
theorem tw9820638869248847673:True:=⟨⟩
theorem tw7844217694878529643:True:=⟨⟩
theorem tw2655808521342855360:True:=⟨⟩
theorem tw7776198643786842269:True:=⟨⟩
theorem tw8787800043570766397:True:=⟨⟩
theorem tw4606591589933984283:True:=⟨⟩
theorem tw10781128791889754359:True:=⟨⟩
theorem tw6154188720668237156:True:=⟨⟩
theorem tw8332481379476248252:True:=⟨⟩
theorem tw13169485083925478060:True:=⟨⟩
theorem tw13981768593666656153:True:=⟨⟩
theorem tw13759563912402582944:True:=⟨⟩
theorem tw16436589923098852110:True:=⟨⟩
theorem tw16125876343961312656:True:=⟨⟩
theorem tw8786286851022946423:True:=⟨⟩
theorem tw10071102363997806414:True:=⟨⟩
theorem tw15956847090213774235:True:=⟨⟩
theorem tw17866824448340527037:True:=⟨⟩
theorem tw4669286935218087331:True:=⟨⟩
theorem tw15003554169585637135:True:=⟨⟩
theorem tw4545150410961604654:True:=⟨⟩
theorem tw16967543642558127294:True:=⟨⟩
theorem tw12714832146831680875:True:=⟨⟩
theorem tw17457104868244917767:True:=⟨⟩
theorem tw13954535944393739630:True:=⟨⟩
theorem tw9663949081114987211:True:=⟨⟩
theorem tw3195118238315942278:True:=⟨⟩
theorem tw16780008773814880457:True:=⟨⟩
theorem tw3323571440522509715:True:=⟨⟩
theorem tw8154967852165367394:True:=⟨⟩
theorem tw15207033328353812499:True:=⟨⟩
theorem tw17162113618365187142:True:=⟨⟩
theorem tw396213136863806450:True:=⟨⟩
theorem tw11559800901363111189:True:=⟨⟩
theorem tw6946048700513325697:True:=⟨⟩
theorem tw14050833007410079921:True:=⟨⟩
theorem tw2508504520711789692:True:=⟨⟩
theorem tw9686606959730701832:True:=⟨⟩
theorem tw11885258138659825265:True:=⟨⟩
theorem tw16614646354470170844:True:=⟨⟩
theorem tw13473567256975584065:True:=⟨⟩
theorem tw6258901879414078093:True:=⟨⟩
end PySem.W.Fast
namespace My
open PySem L2 MM
noncomputable def cn:List MS:=[.extend 1 (.bor 2)]
noncomputable def cR:MD:=⟨"members_of",["rows"],["rows","members","row"],
  [.setOwn 1 (.lst []),
  .for1 2 .seq [(.bor 0)] cn,
  .retOwn 1]⟩
noncomputable def b6:MD:=⟨"strip_without",["strip","hole"],["strip","hole"],
  [.ret (.blt .tupleOf [(.comp .seq [(.bor 0)] [1] (.cmp .ne (.bor 0) (.bor 1)) (.var 0))])]⟩
noncomputable def fM:MD:=⟨"knotted",["rest","hole"],["rest","hole"],
  [.ret (.blt .tupleOf [(.blt .sorted [(.comp .seq [(.bor 0)] [1] (.cst (.bl true)) (.call 1 [(.bor 0),(.bor 1)]))])])]⟩
noncomputable def h_:MD:=⟨"bitten",["rest","hole"],["rest","hole"],
  [.ret (.blt .tupleOf [(.comp .seq [(.bor 0)] [1] (.cmp .notIn (.bor 1) (.bor 0)) (.var 0))])]⟩
noncomputable def eW:MD:=⟨"holes_of",["rest"],["rest"],
  [.ret (.blt .sortedSet [(.call 0 [(.bor 0)])])]⟩
noncomputable def eX:MD:=⟨"is_whole",["rest"],["rest"],
  [.ret (.cmp .isIn (.tup []) (.bor 0))]⟩
noncomputable def eI:MD:=⟨"is_bare",["rest"],["rest"],
  [.ret (.cmp .eq (.blt .len [(.bor 0)]) (.cst (.int 0)))]⟩
noncomputable def cT:MD:=⟨"other_hand",["hand"],["hand"],
  [.ret (.ite (.cmp .eq (.bor 0) (.cst (.str "weaver"))) (.cst (.str "moth")) (.cst (.str "weaver")))]⟩
noncomputable def fF:MD:=⟨"behind",["rest","hand","reply"],["rest","hand","reply"],
  [.ite (.cmp .isN (.bor 2) (.cst .non))
   [.ret (.var 0)]
   [],
  .ret (.ite (.cmp .eq (.bor 1) (.cst (.str "weaver"))) (.call 2 [(.bor 0),(.bor 2)]) (.call 3 [(.bor 0),(.bor 2)]))]⟩
noncomputable def dq:MD:=⟨"can_be_tried",["rest"],["rest"],
  [.ret (.cmp .le (.blt .len [(.call 4 [(.bor 0)])]) (.glob "MOST_TRIED" (.int 6)))]⟩
noncomputable def cU:MD:=⟨"check_size",["rest"],["rest"],
  [.ite (.not (.call 9 [(.bor 0)]))
   [.never]
   []]⟩
noncomputable def bm:List MS:=[.iteC 12 [false,false,true] [(.call 8 [(.bor 0),(.bor 1),(.bor 3)]),(.call 7 [(.bor 1)]),(.bor 2)] (.bor 1)
   [.retM (.var 3)]
   []]
noncomputable def dt:MD:=⟨"winning_hole",["rest","turn","known"],["rest","turn","known","hole"],
  [.for1 3 .seq [(.call 4 [(.bor 0)])] bm,
  .retM (.cst .non)]⟩
noncomputable def aI:MD:=⟨"winner_known",["rest","turn","known"],["rest","turn","known","hole"],
  [.ite (.call 5 [(.bor 0)])
   [.retM (.cst (.str "weaver"))]
   [],
  .ite (.call 6 [(.bor 0)])
   [.retM (.cst (.str "moth"))]
   [],
  .ite (.dIn true (.tup [(.var 0),(.var 1)]) (.bor 2))
   [.setM 3 11 [false,false,true] [(.bor 0),(.bor 1),(.bor 2)],
   .dput 2 (.tup [(.var 0),(.var 1)]) (.ite (.cmp .isN (.bor 3) (.cst .non)) (.call 7 [(.bor 1)]) (.var 1))]
   [],
  .retM (.dat (.bor 2) (.tup [(.var 0),(.var 1)]))]⟩
noncomputable def b9:MD:=⟨"winner_by_trying",["rest","turn"],["rest","turn"],
  [.expr (.call 10 [(.bor 0)]),
  .retNew 12 [(.var 0),(.var 1)]]⟩
noncomputable def fN:MD:=⟨"has_all",["strip","other"],["strip","other"],
  [.ret (.cmp .eq (.blt .lenSetSub [(.bor 1),(.bor 0)]) (.cst (.int 0)))]⟩
noncomputable def dZ:MD:=⟨"is_needless",["strip","rest"],["strip","rest"],
  [.ret (.blt .any [(.comp .seq [(.bor 1)] [0] (.cst (.bl true)) (.and (.cmp .ne (.bor 0) (.bor 1)) (.call 14 [(.bor 1),(.bor 0)])))])]⟩
noncomputable def cc:List MS:=[.ite (.and (.cmp .notIn (.bor 2) (.bor 1)) (.not (.call 15 [(.bor 2),(.bor 0)])))
   [.append 1 (.var 2)]
   []]
noncomputable def iL:MD:=⟨"thinned",["rest"],["rest","kept","strip"],
  [.setOwn 1 (.lst []),
  .for1 2 .seq [(.bor 0)] cc,
  .ret (.blt .tupleOf [(.bor 1)])]⟩
noncomputable def eY:MD:=⟨"_law_cell",["script","k"],["script","k"],
  [.ite (.cmp .lt (.bor 1) (.blt .len [(.bor 0)]))
   [.ret (.idx (.bor 0) (.bor 1))]
   [],
  .ret (.cst (.int 0))]⟩
noncomputable def dL:MD:=⟨"_law_mixed",["cell","by"],["cell","by"],
  [.ret (.bin .mod (.bin .mul (.bin .mod (.bor 0) (.cst (.int 2305843009213693951))) (.bor 1)) (.cst (.int 2305843009213693951)))]⟩
noncomputable def b0:List MS:=[.ite (.cmp .notIn (.bin .mod (.bor 3) (.bor 1)) (.bor 5))
   [.append 5 (.bin .mod (.bor 3) (.bor 1))]
   [],
  .set 3 (.bin .fdiv (.bor 3) (.bor 1))]
noncomputable def dM:MD:=⟨"_law_strip",["cell","many","most"],["cell","many","most","left","size","strip","k"],
  [.set 3 (.call 18 [(.bor 0),(.cst (.int 1181783497276652981))]),
  .set 4 (.bin .mod (.bor 3) (.bin .add (.bor 2) (.cst (.int 1)))),
  .set 3 (.bin .fdiv (.bor 3) (.bin .add (.bor 2) (.cst (.int 1)))),
  .setOwn 5 (.lst []),
  .for1 6 .rng [(.bor 4)] b0,
  .ret (.blt .tupleOf [(.blt .sorted [(.bor 5)])])]⟩
noncomputable def cw:MD:=⟨"_law_some_strip",["cell","many"],["cell","many","strip","left","one","other"],
  [.set 2 (.call 19 [(.bor 0),(.bor 1),(.cst (.int 3))]),
  .ite (.cmp .eq (.bin .mod (.bor 0) (.cst (.int 8))) (.cst (.int 5)))
   [.ret (.var 2)]
   [],
  .set 3 (.call 18 [(.bor 0),(.cst (.int 1865811235122147685))]),
  .set 4 (.bin .mod (.bor 3) (.bor 1)),
  .set 5 (.bin .mod (.bin .add (.bin .add (.bor 4) (.cst (.int 1))) (.bin .mod (.bin .fdiv (.bor 3) (.bor 1)) (.bin .sub (.bor 1) (.cst (.int 1))))) (.bor 1)),
  .ret (.blt .tupleOf [(.blt .sortedSet [(.bin .add (.lst [(.var 4),(.var 5)]) (.blt .listOf [(.slice (.bor 2) (.cst .non) (.cst (.int 2)))]))])])]⟩
noncomputable def cV:List MS:=[.ite (.cmp .ne (.bin .mod (.bor 2) (.cst (.int 3))) (.cst (.int 1)))
   [.append 3 (.var 4)]
   [],
  .set 2 (.bin .fdiv (.bor 2) (.cst (.int 3)))]
noncomputable def gB:MD:=⟨"_law_less",["strip","cell"],["strip","cell","left","kept","hole"],
  [.set 2 (.call 18 [(.bor 1),(.cst (.int 912559489304765219))]),
  .setOwn 3 (.lst []),
  .for1 4 .seq [(.bor 0)] cV,
  .ret (.blt .tupleOf [(.bor 3)])]⟩
noncomputable def b4:List MS:=[.ite (.cmp .notIn (.bor 3) (.bor 1))
   [.append 1 (.var 3)]
   []]
noncomputable def cz:List MS:=[.for1 3 .seq [(.bor 2)] b4]
noncomputable def dO:MD:=⟨"_law_holes",["rest"],["rest","found","strip","hole"],
  [.setOwn 1 (.lst []),
  .for1 2 .seq [(.bor 0)] cz,
  .ret (.blt .sorted [(.bor 1)])]⟩
noncomputable def eZ:List MS:=[.ite (.and (.cmp .eq (.bor 3) (.cst (.str "weaver"))) (.cmp .ne (.call 13 [(.call 2 [(.bor 0),(.bor 4)]),(.bor 2)]) (.cst (.str "weaver"))))
   [.ret (.cst (.bl false))]
   [],
  .ite (.and (.cmp .eq (.bor 3) (.cst (.str "moth"))) (.cmp .ne (.call 13 [(.call 3 [(.bor 0),(.bor 4)]),(.bor 2)]) (.cst (.str "moth"))))
   [.ret (.cst (.bl false))]
   []]
noncomputable def gC:MD:=⟨"_law_kept",["rest","above","turn"],["rest","above","turn","hand","hole"],
  [.set 3 (.call 13 [(.bor 0),(.bor 2)]),
  .ite (.and (.cmp .ne (.bor 3) (.cst (.str "weaver"))) (.cmp .ne (.bor 3) (.cst (.str "moth"))))
   [.ret (.cst (.bl false))]
   [],
  .ite (.and (.cmp .eq (.bor 3) (.cst (.str "weaver"))) (.cmp .ne (.call 13 [(.bor 1),(.bor 2)]) (.cst (.str "weaver"))))
   [.ret (.cst (.bl false))]
   [],
  .for1 4 .seq [(.call 22 [(.bor 0)])] eZ,
  .ret (.cmp .eq (.call 13 [(.call 16 [(.bor 0)]),(.bor 2)]) (.bor 3))]⟩
noncomputable def pT:MD:=⟨"law",["script"],["script","strips","many","shift","drawn","behind_these","above","rest"],
  [.set 1 (.bin .mod (.call 17 [(.bor 0),(.cst (.int 0))]) (.cst (.int 9))),
  .set 2 (.idx (.lst [(.cst (.int 4)),(.cst (.int 5)),(.cst (.int 3)),(.cst (.int 5))]) (.bin .mod (.bin .fdiv (.call 17 [(.bor 0),(.cst (.int 0))]) (.cst (.int 9))) (.cst (.int 4)))),
  .set 3 (.bin .mod (.bin .fdiv (.call 17 [(.bor 0),(.cst (.int 0))]) (.cst (.int 36))) (.cst (.int 55))),
  .set 4 (.comp .seq [(.slice (.bor 0) (.cst (.int 1)) (.bin .add (.cst (.int 1)) (.bor 1)))] [2] (.cst (.bl true)) (.call 20 [(.bor 0),(.bor 1)])),
  .set 5 (.slice (.bor 0) (.bin .add (.cst (.int 1)) (.bor 1)) (.cst .non)),
  .set 6 (.comp .rng [(.blt .len [(.bor 4)])] [4,5] (.cst (.bl true)) (.call 21 [(.idx (.bor 1) (.bor 0)),(.call 17 [(.bor 2),(.bor 0)])])),
  .set 6 (.bin .add (.bor 6) (.comp .seq [(.slice (.bor 5) (.blt .len [(.bor 4)]) (.bin .add (.blt .len [(.bor 4)]) (.cst (.int 12))))] [2] (.cst (.bl true)) (.call 20 [(.bor 0),(.bor 1)]))),
  .set 7 (.blt .tupleOf [(.blt .sorted [(.comp .seq [(.bor 4)] [3] (.cst (.bl true)) (.blt .tupleOf [(.comp .seq [(.bor 0)] [1] (.cst (.bl true)) (.bin .add (.bor 0) (.bor 1)))]))])]),
  .set 6 (.blt .tupleOf [(.blt .sorted [(.comp .seq [(.bor 6)] [3] (.cst (.bl true)) (.blt .tupleOf [(.comp .seq [(.bor 0)] [1] (.cst (.bl true)) (.bin .add (.bor 0) (.bor 1)))]))])]),
  .ite (.or (.not (.call 23 [(.bor 7),(.bor 6),(.cst (.str "weaver"))])) (.not (.call 23 [(.bor 7),(.bor 6),(.cst (.str "moth"))])))
   [.ret (.cst (.bl false))]
   [],
  .ret (.or (.cmp .eq (.call 13 [(.bor 7),(.cst (.str "moth"))]) (.cst (.str "moth"))) (.cmp .eq (.call 13 [(.bor 7),(.cst (.str "weaver"))]) (.cst (.str "weaver"))))]⟩
noncomputable def defs:List MD:=[cR,b6,fM,h_,eW,eX,eI,cT,fF,dq,cU,dt,aI,b9,fN,dZ,iL,eY,dL,dM,cw,gB,dO,gC,pT]
noncomputable def tab:Tab:=⟨defs.map (·.name),[("MOST_TRIED",(.int 6))],[[],[],[],[],[],[],[],[],[],[],[],[],[],[],[],[],[],[],[],[],[],[],[],[],[]]⟩
noncomputable def fj (acc:List Int) (h:Int):List Int:=if h ∈ acc then acc else acc ++ [h]
noncomputable def ia (R:List (List Int)):List Int:=R.foldl (λacc ts=>ts.foldl fj acc) []
noncomputable def ae (R:List (List Int)):List Int:=sortI (ia R)
theorem pU {acc:List Int}{h:Int} (hn:acc.Nodup):(fj acc h).Nodup/\∀ x,x ∈ fj acc h ↔ x ∈ acc \/ x=h:=by
 unfold fj
 by_cases q:h ∈ acc
 ·rw [if_pos q]
  exact ⟨hn,λx=>⟨.inl,λz=>z.elim id λe=>e ▸ q⟩⟩
 ·rw [if_neg q]
  refine ⟨List.nodup_append.mpr ⟨hn,by simp,λx hx y hy=>by rw [List.mem_singleton.mp hy];exact λz=>q (z ▸ hx)⟩,λx=>?_⟩
  rw [List.mem_append,List.mem_singleton]
theorem j6:∀ (ts acc:List Int),acc.Nodup->(ts.foldl fj acc).Nodup/\∀ x,x ∈ ts.foldl fj acc ↔ x ∈ acc \/ x ∈ ts
 | [],acc,hn=>⟨hn,λx=>by simp⟩
 | t::ts,acc,hn=>by
  obtain ⟨h1,h2⟩:=pU (h:=t) hn
  obtain ⟨h3,h4⟩:=j6 ts (fj acc t) h1
  refine ⟨h3,λx=>?_⟩
  rw [List.foldl_cons,h4,h2,List.mem_cons,or_assoc]
theorem eJ:∀ (R:List (List Int)) (acc:List Int),acc.Nodup->(R.foldl (λacc ts=>ts.foldl fj acc) acc).Nodup/\∀ x,x ∈ R.foldl (λacc ts=>ts.foldl fj acc) acc ↔ x ∈ acc \/ ∃ ts ∈ R,x ∈ ts
 | [],acc,hn=>⟨hn,λx=>by simp⟩
 | t::ts,acc,hn=>by
  obtain ⟨h1,h2⟩:=j6 t acc hn
  obtain ⟨h3,h4⟩:=eJ ts (t.foldl fj acc) h1
  refine ⟨h3,λx=>?_⟩
  rw [List.foldl_cons,h4,h2]
  simp [or_assoc]
theorem aV {R:List (List Int)}{x:Int}:x ∈ ae R ↔ ∃ ts ∈ R,x ∈ ts:=by
 unfold ae
 rw [iK]
 have:=(eJ R [] List.nodup_nil).2 x
 unfold ia
 rw [this]
 simp
theorem e_ (R:List (List Int)):(ae R).Pairwise (· < ·):=j4 (eJ R [] List.nodup_nil).1
theorem ib {R:List (List Int)} (g:∀ ts ∈ R,cm ts):cm (ae R):=⟨e_ R,λh hh=>by
 obtain ⟨ts,h1,h2⟩:=aV.mp hh
 exact (g ts h1).2 h h2⟩
theorem qR {R:List (List Int)} (g:∀ ts ∈ R,cm ts):(ia R).length <= 60:=by
 have:=c_ (ib g)
 unfold ae at this
 rw [sortI_len] at this
 exact this
theorem wJ {R:List (List Int)}{acc:List Int} (hn:acc.Nodup) (h:∀ x ∈ acc,0 <= x/\x <= 59):acc.length <= 60:=oQ 60 acc hn λx hx=>by have:=h x hx;omega
theorem jj {cal:Cal}{i:Nat}{k:Sk}{src:List ME}{body:List MS}{ρ:Rho}{xs:List PV} (h:(evs cal src ρ).bind (dg k)=some xs):ex cal (.for1 i k src body) ρ=(aY (λx ρ'=>exs cal body (put ρ' i (.val x))) xs (bc src ρ)).back src ρ:=by
 rw [ex,h]
theorem aD (cal:Cal) (m:MS) (ms:List MS) (ρ:Rho):exs cal (m::ms) ρ=(ex cal m ρ).andThen λρ'=>exs cal ms ρ':=by rw [exs]
theorem cW {cal:Cal}{b:Blt}{e:ME}{ρ:Rho}{v:PV} (h:ev cal e ρ=some v):ev cal (.blt b [e]) ρ=aq b [v]:=by
 rw [ev,evs,h,Option.bind_some,evs,Option.map_some,Option.bind_some]
theorem iM {cal:Cal}{i:Nat}{e:ME}{ρ:Rho}{v:PV} (h:ev cal e ρ=some v):ex cal (.set i e) ρ=.next (put ρ i (.val v)):=by
 rw [ex,h];rfl
theorem zm {cal:Cal}{a b:ME}{ρ:Rho}{p q:Bool} (h:ev cal a ρ=some (.bl p)) (h':p=true->ev cal b ρ=some (.bl q)):ev cal (.and a b) ρ=some (.bl (p&&q)):=by
 rw [ev,h]
 cases p with
 | false=>rfl
 | true=>simp [h' rfl]
theorem mD {cal:Cal}{e:ME}{ρ:Rho}{v:PV} (h:ev cal e ρ=some v):ex cal (.ret e) ρ=.ret v:=by
 rw [ex,h];rfl
theorem aw {cal:Cal}{f:Nat}{es:List ME}{ρ:Rho}{vs:List MV}{v:PV} (h:evA cal es ρ=some vs) (h':cal f vs=some v):ev cal (.call f es) ρ=some v:=by
 rw [ev,h,Option.bind_some,h']
theorem ic {α:Type}{cal:Cal}{k:Sk}{src:List ME}{js:List Nat}{elt:ME}{ρ:Rho}{vs:List PV}{xs:List α}{g h:α->PV} (h1:evs cal src ρ=some vs) (h2:dg k vs=some (xs.map g)) (hl:xs.length <= 10000)
  (h3:∀ x ∈ xs,ev cal elt (ce js ρ (g x))=some (h x)):ev cal (.comp k src js (.cst (.bl true)) elt) ρ=some (.lst (xs.map h)):=by
 rw [ev,h1,Option.bind_some,h2,Option.bind_some,if_pos (by simpa using hl),gA (h:=h) (λx _=>by simp [ev]) h3]
 rfl
theorem b_ (cal:Cal) (v:PV) (ρ:Rho):ev cal (.cst v) ρ=some v:=by rw [ev]
theorem fG {cal:Cal}{op:Op2}{a b:ME}{ρ:Rho}{x y:PV} (h:ev cal a ρ=some x) (h':ev cal b ρ=some y):ev cal (.bin op a b) ρ=fZ op x y:=by
 rw [ev,h,Option.bind_some,h',Option.bind_some]
theorem cI {cal:Cal}{op:Cp}{a b:ME}{ρ:Rho}{x y:PV} (h:ev cal a ρ=some x) (h':ev cal b ρ=some y):ev cal (.cmp op a b) ρ=(bv op x y).map .bl:=by
 rw [ev,h,Option.bind_some,h',Option.bind_some]
theorem uG {cal:Cal}{a:ME}{ρ:Rho}{x k j:Int} (h:ev cal a ρ=some (.int x)) (hk:0 < k):ev cal (.cmp .eq (.bin .mod a (.cst (.int k))) (.cst (.int j))) ρ=some (.bl (x % k == j)):=by
 rw [cI (fG h (b_ _ _ _) |>.trans (by rw [hZ,if_pos hk])) (b_ _ _ _),mz,wB]
 rfl
theorem pV {cal:Cal}{a:ME}{ρ:Rho}{x k:Int} (h:ev cal a ρ=some (.int x)) (hk:0 < k/\k < 1073741824):ev cal (.bin .fdiv a (.cst (.int k))) ρ=some (.int (x / k)):=by
 rw [fG h (b_ _ _ _),ul,if_pos hk]
theorem j7 {cal:Cal}{a:ME}{ρ:Rho}{b:Bool} (h:ev cal a ρ=some (.bl b)):evB cal a ρ=some b:=by
 unfold evB
 rw [h]
 rfl
theorem pW {cal:Cal}{e:ME}{ρ:Rho}{v:PV} (hn:∀ i,e ≠ .bor i) (h:ev cal e ρ=some v):evA cal [e] ρ=some [.val v]:=by
 rw [evA,h,Option.bind_some,evA]
 ·rfl
 ·exact λi z=>hn i z
theorem uH {cal:Cal}{a i:ME}{ρ:Rho}{x y:PV} (h:ev cal a ρ=some x) (h':ev cal i ρ=some y):ev cal (.idx a i) ρ=jN x y:=by
 rw [ev,h,Option.bind_some,h',Option.bind_some]
theorem du {body:PV->Rho->R}{x:PV}{xs:List PV}{ρ ρ1:Rho} (h:body x ρ=.next ρ1):aY body (x::xs) ρ=aY body xs ρ1:=by rw [aY,h]
noncomputable def af (b:Bool):PySem.Str:=if b=true then "moth" else "weaver"
theorem cA (a b:String):((PySem.Str.ofString a) == (PySem.Str.ofString b))=(a == b):=by
 rw [Bool.eq_iff_iff,beq_iff_eq,beq_iff_eq]
 refine ⟨λh=>?_,λh=>by rw [h]⟩
 rw [PySem.Str.ofString_eq_byList] at h
 unfold PySem.Str.ofStringByList at h
 have h1:(a.toList.map Char.toNat).toArray=(b.toList.map Char.toNat).toArray:=by injection h
 have h2:a.toList.map Char.toNat=b.toList.map Char.toNat:=by simpa using h1
 have key:∀ xs ys:List Char,xs.map Char.toNat=ys.map Char.toNat->xs=ys:=by
  intro xs
  induction xs with
  | nil=>intro ys h;cases ys with|nil=>rfl|cons=>simp at h
  | cons x xs ih=>intro ys h;cases ys with
   | nil=>simp at h
   | cons y ys =>
    simp only [List.map_cons,List.cons.injEq] at h
    rw [ih ys h.2,Char.toNat_inj.mp h.1]
 exact String.toList_inj.mp (key _ _ h2)
noncomputable def zn:Option Int->PV
 | none=>.non
 | some i=>.int i
theorem wK (x h:Int):(x == h)=decide (x=h):=rfl
noncomputable def drp (h:Int) (ts:List Int):List Int:=ts.filter λx=>!decide (x=h)
noncomputable def fb (h:Int) (R:List (List Int)):List (List Int):=sortT (R.map (drp h))
theorem uI {h:Int}{ts:List Int} (g:cm ts):cm (drp h ts):=⟨g.1.filter _,λx hx=>g.2 x (List.mem_filter.mp hx).1⟩
theorem qS {h:Int}{R:List (List Int)} (g:cF R):cF (fb h R):=by
 refine ⟨λts hm=>?_,sortT_rises _,by unfold fb;rw [sortT_len,List.length_map];exact g.2.2⟩
 obtain ⟨t,ht,rfl⟩:=List.mem_map.mp (c9.mp hm)
 exact uI (g.1 t ht)
theorem i8 (n:Nat) (ts:List Int) (h:Int) (hl:ts.length <= 10000):aa defs (n + 1) 1 [.val (ofS ts),.val (.int h)]=some (ofS (drp h ts)):=by
 rw [ay (d:=b6) rfl rfl]
 simp [b6,exs,ex,ev,evs,hl]
 rw [eT (p:=λx=>!decide (x=h)) (h:=PV.int)]
 ·simp [drp]
 ·intro x _
  simp [ev,ce,wK]
 ·intro x _ _
  simp [ev,ce]
theorem lA (n:Nat) (R:List (List Int)) (h:Int) (g:cF R):aa defs (n + 2) 2 [.val (ofR R),.val (.int h)]=some (ofR (fb h R)):=by
 rw [ay (d:=fM) rfl rfl]
 have hl:R.length <= 10000:=by have:=g.2.2;omega
 simp [fM,exs,ex,ev,evs,hl]
 rw [gA (h:=λts=>ofS (drp h ts))]
 ·have e:(R.map λc=>ofS (drp h c))=(R.map (drp h)).map ofS:=by rw [List.map_map];rfl
  have hl3:(R.map (drp h)).length < 64:=by rw [List.length_map];have:=g.2.2;omega
  rw [e]
  simp [-List.map_map,lz hl3,fb]
 ·intro c _
  simp [ev]
 ·intro c hc
  have hl:=c_ (g.1 c hc)
  simp [ev,evA,ce,i8 n c h (by omega)]
noncomputable def dy (h:Int) (R:List (List Int)):List (List Int):=R.filter λts=>!decide (h ∈ ts)
theorem qT {h:Int}{R:List (List Int)} (g:cF R):cF (dy h R):=⟨λts hm=>g.1 ts (List.mem_filter.mp hm).1,g.2.1.filter _,Nat.le_trans (List.length_filter_le _ _) g.2.2⟩
theorem nN (n:Nat) (R:List (List Int)) (h:Int) (hl:R.length <= 10000):aa defs (n + 1) 3 [.val (ofR R),.val (.int h)]=some (ofR (dy h R)):=by
 rw [ay (d:=h_) rfl rfl]
 simp [h_,exs,ex,ev,evs,hl]
 rw [eT (p:=λts=>!decide (h ∈ ts)) (h:=ofS)]
 ·simp [dy]
 ·intro ts _
  simp [ev,ce,c8]
 ·intro ts _ _
  simp [ev,ce]
theorem qU (h:Int) (R:List (List Int)):(fb h R).flatten.length <= R.flatten.length:=by
 have p:(fb h R).flatten.length=(R.map (drp h)).flatten.length:=((sortT_perm (R.map (drp h))).flatten).length_eq
 rw [p]
 induction R with
 | nil=>exact Nat.le_refl _
 | cons s R ih =>
  rw [List.map_cons,List.flatten_cons,List.flatten_cons,List.length_append,List.length_append]
  have:(drp h s).length <= s.length:=List.length_filter_le _ _
  have:=ih (by exact ((sortT_perm (R.map (drp h))).flatten).length_eq)
  omega
noncomputable def bhd (h:Bool) (R:List (List Int)):Option Int->List (List Int)
 | none=>R
 | some k=>if h=true then dy k R else fb k R
theorem nO {h:Bool}{R:List (List Int)} (g:cF R) (r:Option Int):cF (bhd h R r):=by
 cases r with
 | none=>exact g
 | some k=>cases h with|true=>exact qT g|false=>exact qS g
theorem pX (n:Nat) (h:Bool):aa defs (n + 1) 7 [.val (.str (af h))]=some (.str (af (!h))):=by
 rw [ay (d:=cT) rfl rfl]
 cases h <;> simp [cT,exs,ex,ev,evs,evB,evA,cA,af]
theorem uJ (n:Nat) (R:List (List Int)) (g:cF R) (h:Bool) (r:Option Int):aa defs (n + 3) 8 [.val (ofR R),.val (.str (af h)),.val (zn r)]=some (ofR (bhd h R r)):=by
 rw [ay (d:=fF) rfl rfl]
 cases r with
 | none=>simp [fF,exs,ex,ev,evs,evB,evA,zn,bhd,f_]
 | some k =>
  have e1:=lA n R k g
  have e2:=λn=>nN n R k (by have:=g.2.2;omega)
  cases h <;> simp [fF,exs,ex,ev,evs,evB,evA,zn,bhd,cA,af,f_,e1,e2]
theorem qV (h:Int) (R:List (List Int)):(dy h R).flatten.length <= R.flatten.length:=by
 unfold dy
 induction R with
 | nil=>exact Nat.le_refl _
 | cons s R ih =>
  rw [List.filter_cons]
  split
  ·simp only [List.flatten_cons,List.length_append];omega
  ·simp only [List.flatten_cons,List.length_append];omega
theorem nP (h:Bool) (R:List (List Int)) (r:Option Int):(bhd h R r).flatten.length <= R.flatten.length:=by
 cases r with
 | none=>exact Nat.le_refl _
 | some k=>cases h with|true=>exact qV k R|false=>exact qU k R
theorem uK:∀ (a b:List Int),a.Nodup->a ⊆ b->a.length <= b.length:=λa=>by
 induction a with
 | nil=>intro b _ _;exact Nat.zero_le _
 | cons x a ih =>
  intro b hn hs
  obtain ⟨n1,n2⟩:=List.nodup_cons.mp hn
  have hxb:x ∈ b:=hs (.head _)
  have:=ih (b.erase x) n2 λy hy=>by
   have hne:y ≠ x:=λe=>n1 (e ▸ hy)
   exact (List.mem_erase_of_ne hne).mpr (hs (.tail _ hy))
  rw [List.length_erase_of_mem hxb] at this
  have:0 < b.length:=List.length_pos_of_mem hxb
  rw [List.length_cons]
  omega
theorem iN {l:List Int} (h:l.Pairwise (· < ·)):l.Nodup:=h.imp λh e=>by omega
theorem pY {t:Bool}{R:List (List Int)}{h k:Int}:(∃ s ∈ bhd t R (some h),k ∈ s)->(∃ s ∈ R,k ∈ s)/\k ≠ h:=by
 rintro ⟨s,hs,hk⟩
 cases t with
 | true =>
  obtain ⟨h1,h2⟩:=List.mem_filter.mp (show s ∈ R.filter _ from hs)
  exact ⟨⟨s,h1,hk⟩,λe=>by subst e;simp [hk] at h2⟩
 | false =>
  obtain ⟨t,ht,rfl⟩:=List.mem_map.mp (c9.mp (show s ∈ sortT _ from hs))
  obtain ⟨h1,h2⟩:=List.mem_filter.mp hk
  exact ⟨⟨t,ht,h1⟩,by simpa using h2⟩
theorem bF {t:Bool}{R:List (List Int)}{h:Int} (hh:h ∈ ae R):(ae (bhd t R (some h))).length + 1 <= (ae R).length:=by
 have:=uK (h::ae (bhd t R (some h))) (ae R) (List.nodup_cons.mpr ⟨λz=>(pY (aV.mp z)).2 rfl,iN (e_ _)⟩) λy hy=>by
  rcases List.mem_cons.mp hy with rfl|hy
  ·exact hh
  ·exact aV.mpr (pY (aV.mp hy)).1
 simpa using this
noncomputable def win:Nat->List (List Int)->Bool->Bool
 | 0,R,t=>if [] ∈ R then false else if R=[] then true else !t
 | n + 1,R,t=>if [] ∈ R then false else if R=[] then true else if (ae R).any (λh=>win n (bhd t R (some h)) (!t) == t) then t else !t
theorem j8:∀ (n m:Nat) (R:List (List Int)) (t:Bool),(ae R).length <= n->n <= m->win n R t=win m R t
 | 0,0,_,_,_,_=>rfl
 | 0,m + 1,R,t,h,_=>by
  rw [win,win,List.length_eq_zero_iff.mp (Nat.le_zero.mp h)]
  rfl
 | n + 1,0,_,_,_,h=>by omega
 | n + 1,m + 1,R,t,h,hm=>by
  rw [win,win]
  have:∀ h ∈ ae R,(win n (bhd t R (some h)) (!t) == t)=(win m (bhd t R (some h)) (!t) == t):=λx hx=>by
   rw [j8 n m _ _ (by have:=bF (t:=t) hx;omega) (by omega)]
  have e:((ae R).any λh=>win n (bhd t R (some h)) (!t) == t)=(ae R).any λh=>win m (bhd t R (some h)) (!t) == t:=by
   rw [Bool.eq_iff_iff,List.any_eq_true,List.any_eq_true]
   exact ⟨λ⟨x,h1,h2⟩=>⟨x,h1,by rw [<- this x h1];exact h2⟩,λ⟨x,h1,h2⟩=>⟨x,h1,by rw [this x h1];exact h2⟩⟩
  rw [e]
noncomputable def won (R:List (List Int)) (t:Bool):Bool:=win (ae R).length R t
theorem dv (R:List (List Int)) (t:Bool):won R t=if [] ∈ R then false else if R=[] then true else if (ae R).any (λh=>won (bhd t R (some h)) (!t) == t) then t else !t:=by
 rw [won,j8 _ ((ae R).length + 1) R t (Nat.le_refl _) (by omega),win]
 have e:((ae R).any λh=>win (ae R).length (bhd t R (some h)) (!t) == t)=(ae R).any λh=>won (bhd t R (some h)) (!t) == t:=by
  have:∀ h ∈ ae R,(win (ae R).length (bhd t R (some h)) (!t) == t)=(won (bhd t R (some h)) (!t) == t):=λx hx=>by
   rw [won,j8 _ (ae R).length _ _ (Nat.le_refl _) (by have:=bF (t:=t) hx;omega)]
  rw [Bool.eq_iff_iff,List.any_eq_true,List.any_eq_true]
  exact ⟨λ⟨x,h1,h2⟩=>⟨x,h1,by rw [<- this x h1];exact h2⟩,λ⟨x,h1,h2⟩=>⟨x,h1,by rw [this x h1];exact h2⟩⟩
 rw [e]
theorem iO {R:List (List Int)}{t:Bool} (h1:[] ∉ R) (h2:R ≠ []):won R t=if (ae R).any (λh=>won (bhd t R (some h)) (!t) == t) then t else !t:=by
 rw [dv,if_neg h1,if_neg h2]
theorem j9 {R:List (List Int)} (h:ae R=[]) (h1:[] ∉ R):R=[]:=by
 cases R with
 | nil=>rfl
 | cons s R =>
  cases s with
  | nil=>exact absurd (.head _) h1
  | cons x s =>
   have:x ∈ ae ((x::s)::R):=aV.mpr ⟨_,.head _,.head _⟩
   rw [h] at this
   cases this
section
variable {α:Type} [DecidableEq α]
theorem pZ (d:List (α × Sc)) (k j:α) (v:Sc):aZ (bo d k v) j=if j=k then some v else aZ d j:=by
 have gen:∀ (d:List (α × Sc)),(d.any λp=>decide (p.1=k))=true->aZ (d.map λp=>if p.1=k then (p.1,v) else p) j=if j=k then some v else aZ d j:=by
  intro d
  induction d with
  | nil=>intro h;cases h
  | cons p d ih =>
   intro h
   by_cases hp:p.1=k
   ·by_cases hj:j=k
    ·subst hj
     simp [aZ,hp]
    ·rw [if_neg hj]
     have:¬ p.1=j:=λz=>hj (by rw [<- z,hp])
     unfold aZ
     rw [List.map_cons,if_pos hp,List.find?_cons_of_neg (by simpa using this),List.find?_cons_of_neg (by simpa using this)]
     by_cases ha:(d.any λp=>decide (p.1=k))=true
     ·have:=ih ha
      rw [if_neg hj] at this
      exact this
     ·have e:(d.map λp=>if p.1=k then (p.1,v) else p)=d:=by
       conv=>rhs;rw [<- List.map_id d]
       refine List.map_congr_left λq hq=>?_
       rw [if_neg λz=>ha (List.any_eq_true.mpr ⟨q,hq,decide_eq_true z⟩)]
       rfl
      rw [e]
   ·have ha:(d.any λp=>decide (p.1=k))=true:=by simpa [hp] using h
    have ih:=ih ha
    unfold aZ at ih ⊢
    rw [List.map_cons,if_neg hp]
    by_cases hj:p.1=j
    ·have:¬ j=k:=λz=>hp (hj.trans z)
     rw [List.find?_cons_of_pos (by simpa using hj),List.find?_cons_of_pos (by simpa using hj),if_neg this]
    ·rw [List.find?_cons_of_neg (by simpa using hj),List.find?_cons_of_neg (by simpa using hj)]
     exact ih
 unfold bo
 by_cases h:(d.any λp=>decide (p.1=k))=true
 ·rw [if_pos h]
  exact gen d h
 ·rw [if_neg h]
  have no:∀ p ∈ d,¬ p.1=k:=λp hp z=>h (List.any_eq_true.mpr ⟨p,hp,decide_eq_true z⟩)
  unfold aZ
  rw [List.find?_append]
  by_cases hj:j=k
  ·subst hj
   have:d.find? (λp=>decide (p.1=j))=none:=List.find?_eq_none.mpr λp hp=>by simpa using no p hp
   rw [this,if_pos rfl]
   simp
  ·rw [if_neg hj]
   have:¬ k=j:=λz=>hj z.symm
   cases d.find? (λp=>decide (p.1=j)) with
   | some p=>rfl
   | none=>simp [this]
end
theorem j_ (n:Nat) (R:List (List Int)):aa defs (n + 1) 5 [.val (ofR R)]=some (.bl (decide ([] ∈ R))):=by
 rw [ay (d:=eX) rfl rfl]
 have ein:isIn (.tup []) (R.map ofS)=some (decide ([] ∈ R)):=j2 [] R
 simp [eX,exs,ex,ev,evs,ein]
theorem lB (n:Nat) (R:List (List Int)):aa defs (n + 1) 6 [.val (ofR R)]=some (.bl (decide (R=[]))):=by
 rw [ay (d:=eI) rfl rfl]
 cases R with
 | nil=>simp [eI,exs,ex,ev,evs]
 | cons t R =>
  have:¬ ((R.length:Int) + 1=0):=by omega
  simp [eI,exs,ex,ev,evs,this]
theorem ie (cal:Cal) (a:MV):∀ (R:List (List Int)) (g:List Int->PV) (hg:∀ t,aO (g t)=some (t.map .int)) (acc:List Int) (s:Option MV),acc.length + R.flatten.length <= 10000 ->
  ∃ s',aY (λx ρ'=>exs cal cn (put ρ' 2 (.val x))) (R.map g) [some a,some (.own (acc.map .int)),s]=.next [some a,some (.own ((acc ++ R.flatten).map .int)),s']
 | [],g,hg,acc,s,_=>⟨s,by simp⟩
 | t::R,g,hg,acc,s,h=>by
  rw [List.map_cons,aY]
  rw [List.flatten_cons,List.length_append] at h
  have h2:acc.length + t.length <= 10000:=by omega
  have e:exs cal cn (put [some a,some (.own (acc.map .int)),s] 2 (.val (g t)))=.next [some a,some (.own ((acc ++ t).map .int)),some (.val (g t))]:=by
   simp [cn,exs,ex,ev,hg,h2]
  rw [e]
  obtain ⟨s',e2⟩:=ie cal a R g hg (acc ++ t) (some (.val (g t))) (by rw [List.length_append];omega)
  exact ⟨s',by rw [List.flatten_cons,<- List.append_assoc];exact e2⟩
theorem qW (n:Nat) (m:MV) (ho:∀ xs,m ≠ .own xs) (R:List (List Int)) (g:List Int->PV) (hg:∀ t,aO (g t)=some (t.map .int)) (hp:(be (some m)).bind aO=some (R.map g)) (hl:R.flatten.length <= 10000):aa defs (n + 1) 0 [m]=some (ofL R.flatten):=by
 rw [ay (d:=cR) rfl rfl]
 obtain ⟨s',e⟩:=ie (aa defs n) m R g hg [] none (by simpa using hl)
 simp only [List.map_nil,List.nil_append] at e
 cases hb:be (some m) with
 | none=>rw [hb] at hp;cases hp
 | some v =>
  rw [hb] at hp
  have hp:aO v=some (R.map g):=hp
  cases m <;> first|exact absurd rfl (ho _)|simp [cR,exs,ex,ev,evs,bc,hb,hp,e,aP,-List.map_flatten]
theorem nQ (R:List (List Int)):sortI (dd R.flatten)=ae R:=by
 refine sortI_of_perm ((List.perm_ext_iff_of_nodup (dd_nodup _) (eJ R [] List.nodup_nil).1).mpr λx=>?_)
 rw [mC,(eJ R [] List.nodup_nil).2 x,List.mem_flatten]
 simp
theorem kd (n:Nat) (R:List (List Int)) (g:∀ ts ∈ R,cm ts) (hl:R.flatten.length <= 1000):aa defs (n + 2) 4 [.val (ofR R)]=some (ofL (ae R)):=by
 rw [ay (d:=eW) rfl rfl]
 have e:=qW n (.val (ofR R)) (λ_ z=>by cases z) R ofS (λ_=>rfl) rfl (by omega)
 have hd:(dd R.flatten).length < 64:=by
  have:=c_ (ib g)
  rw [<- nQ,sortI_len] at this
  omega
 simp [eW,exs,ex,ev,evs,evA,e,-List.map_flatten,cb,-List.length_flatten,hl,hd,nQ]
noncomputable abbrev Dn:=List ((List (List Int) × PySem.Str) × Sc)
noncomputable def Kn (kvs:Dn):Prop:=∀ R t s,aZ kvs (R,af t)=some s->s=.str (af (won R t))
noncomputable def iP:Nat->Nat
 | 0=>0
 | n + 1=>1 + (n + 1) * iP n
noncomputable def fr (R:List (List Int)) (t:Bool) (kvs:Dn) (h:Option MV):Rho:=[some (.val (ofR R)),some (.val (.str (af t))),some (.mutD (.n kvs)),h]
theorem nk (R:List (List Int)) (t:PySem.Str):fY (.tup [ofR R,.str t])=some (R,t):=by
 show (cE (R.map ofS)).map _=_
 rw [iI]
 rfl
theorem mE (a b:Bool):((af a) == (af b))=(a == b):=by
 cases a <;> cases b <;> simp [af,cA]
theorem uL {a b:Bool} (h:af a=af b):a=b:=by
 have:=mE a b
 rw [h,beq_self_eq_true] at this
 exact eq_of_beq this.symm
noncomputable def uM (cal:Cal) (n:Nat):Prop:=∀ (R:List (List Int)) (t:Bool) (kvs:Dn),cF R->R.flatten.length <= 1000->(ae R).length <= n->Kn kvs->kvs.length + iP n <= 10000 ->
 ∃ kvs',cal (12 + 2000) [.val (ofR R),.val (.str (af t)),.mutD (.n kvs)]=some (.tup [.str (af (won R t)),.dI (.n kvs')])/\Kn kvs'/\kvs'.length <= kvs.length + iP n
theorem oR {cal:Cal}{R:List (List Int)}{t w:Bool}{kvs kvs':Dn}{x:Int} (eb:cal 8 [.val (ofR R),.val (.str (af t)),.val (.int x)]=some (ofR (bhd t R (some x)))) (eo:cal 7 [.val (.str (af t))]=some (.str (af (!t))))
  (ec:cal (12 + 2000) [.val (ofR (bhd t R (some x))),.val (.str (af (!t))),.mutD (.n kvs)]=some (.tup [.str (af w),.dI (.n kvs')])) :
  iz cal 12 [false,false,true] [(.call 8 [(.bor 0),(.bor 1),(.bor 3)]),(.call 7 [(.bor 1)]),(.bor 2)] (fr R t kvs (some (.val (.int x))))=some (.str (af w),fr R t kvs' (some (.val (.int x)))):=by
 have e1:ev cal (.call 8 [(.bor 0),(.bor 1),(.bor 3)]) (fr R t kvs (some (.val (.int x))))=some (ofR (bhd t R (some x))):=aw (vs:=[.val (ofR R),.val (.str (af t)),.val (.int x)]) (by simp [evA,fr]) eb
 have e2:ev cal (.call 7 [(.bor 1)]) (fr R t kvs (some (.val (.int x))))=some (.str (af (!t))):=aw (vs:=[.val (.str (af t))]) (by simp [evA,fr]) eo
 have e3:evM cal [false,false,true] [(.call 8 [(.bor 0),(.bor 1),(.bor 3)]),(.call 7 [(.bor 1)]),(.bor 2)] (fr R t kvs (some (.val (.int x))))=some [.val (ofR (bhd t R (some x))),.val (.str (af (!t))),.mutD (.n kvs)]:=by
  rw [evM,pW (λi z=>by cases z) e1,evM,pW (λi z=>by cases z) e2]
  rfl
 unfold iz
 rw [e3,Option.bind_some,ec]
 rfl
theorem qX {cal:Cal}{R:List (List Int)}{t w:Bool}{kvs kvs':Dn}{x:Int} (ev1:iz cal 12 [false,false,true] [(.call 8 [(.bor 0),(.bor 1),(.bor 3)]),(.call 7 [(.bor 1)]),(.bor 2)] (fr R t kvs (some (.val (.int x))))=some (.str (af w),fr R t kvs' (some (.val (.int x))))) :
  exs cal bm (fr R t kvs (some (.val (.int x))))=if (w == t)=true then .retM (.int x) (fr R t kvs' (some (.val (.int x)))) else .next (fr R t kvs' (some (.val (.int x)))):=by
 show exs cal [.iteC _ _ _ _ _ _] _=_
 rw [aD,ex,ev1]
 have e4:ev cal (.bor 1) (fr R t kvs' (some (.val (.int x))))=some (.str (af t)):=by rw [ev];rfl
 show MM.R.andThen (nh ((ev cal (.bor 1) (fr R t kvs' (some (.val (.int x))))).bind λy=>bv .eq (.str (af w)) y) _) _=_
 rw [e4,Option.bind_some,mz,mB,mE,cv]
 by_cases hw:(w == t)=true
 ·rw [if_pos hw,if_pos hw]
  rfl
 ·rw [if_neg hw,if_neg hw]
  rfl
theorem lC {cal:Cal}{n:Nat} (hT:uM cal n) {R:List (List Int)}{t:Bool} (g:cF R) (hf:R.flatten.length <= 1000) (hh:(ae R).length <= n + 1)
  (eb:∀ x,cal 8 [.val (ofR R),.val (.str (af t)),.val (.int x)]=some (ofR (bhd t R (some x)))) (eo:cal 7 [.val (.str (af t))]=some (.str (af (!t)))) :
  ∀ (xs:List Int) (kvs:Dn) (h0:Option MV),(∀ x ∈ xs,x ∈ ae R)->Kn kvs->kvs.length + xs.length * iP n <= 10000 ->
  ∃ kvs',Kn kvs'/\kvs'.length <= kvs.length + xs.length * iP n/\(∀ x,xs.find? (λx=>won (bhd t R (some x)) (!t) == t)=some x->aY (λx ρ'=>exs cal bm (put ρ' 3 (.val x))) (xs.map .int) (fr R t kvs h0)=.retM (.int x) (fr R t kvs' (some (.val (.int x))))) /\
   (xs.find? (λx=>won (bhd t R (some x)) (!t) == t)=none->∃ h1,aY (λx ρ'=>exs cal bm (put ρ' 3 (.val x))) (xs.map .int) (fr R t kvs h0)=.next (fr R t kvs' h1))
 | [],kvs,h0,_,k,_=>⟨kvs,k,by simp,λx e=>(by cases e),λ_=>⟨h0,rfl⟩⟩
 | x::xs,kvs,h0,hx,k,hl=>by
  have hl':kvs.length + (iP n + xs.length * iP n) <= 10000:=by rw [List.length_cons,Nat.succ_mul] at hl;omega
  obtain ⟨kv1,c1,k1,l1⟩:=hT (bhd t R (some x)) (!t) kvs (nO g _) (Nat.le_trans (nP _ _ _) hf) (by have:=bF (t:=t) (hx x (.head _));omega) k (by omega)
  have s1:=qX (oR (eb x) eo c1)
  have s2:put (fr R t kvs h0) 3 (.val (.int x))=fr R t kvs (some (.val (.int x))):=rfl
  by_cases hw:(won (bhd t R (some x)) (!t) == t)=true
  ·rw [if_pos hw] at s1
   refine ⟨kv1,k1,by rw [List.length_cons,Nat.succ_mul];omega,λy e=>?_,λe=>?_⟩
   ·rw [List.find?_cons_of_pos (by exact hw)] at e
    cases e
    rw [List.map_cons,aY,s2,s1]
   ·rw [List.find?_cons_of_pos (by exact hw)] at e
    cases e
  ·rw [if_neg hw] at s1
   obtain ⟨kv2,k2,l2,i1,i2⟩:=lC hT g hf hh eb eo xs kv1 (some (.val (.int x))) (λy hy=>hx y (.tail _ hy)) k1 (by omega)
   refine ⟨kv2,k2,by rw [List.length_cons,Nat.succ_mul];omega,λy e=>?_,λe=>?_⟩
   ·rw [List.find?_cons_of_neg (by exact hw)] at e
    rw [List.map_cons,du (by rw [s2];exact s1)]
    exact i1 y e
   ·rw [List.find?_cons_of_neg (by exact hw)] at e
    rw [List.map_cons,du (by rw [s2];exact s1)]
    exact i2 e
noncomputable def ff (R:List (List Int)) (t:Bool):Sc:=match (ae R).find? (λx=>won (bhd t R (some x)) (!t) == t) with
 | some x=>.int x
 | none=>.non
theorem zo {n m:Nat} (hT:uM (aa defs (m + 3)) n) {R:List (List Int)}{t:Bool}{kvs:Dn} (g:cF R) (hf:R.flatten.length <= 1000) (hh:(ae R).length <= n + 1) (k:Kn kvs) (hl:kvs.length + (n + 1) * iP n <= 10000) :
  ∃ kvs',Kn kvs'/\kvs'.length <= kvs.length + (n + 1) * iP n/\aa defs (m + 4) (11 + 2000) [.val (ofR R),.val (.str (af t)),.mutD (.n kvs)]=some (.tup [(ff R t).pv,.dI (.n kvs')]):=by
 have le:(ae R).length * iP n <= (n + 1) * iP n:=Nat.mul_le_mul_right _ hh
 obtain ⟨kvs',k',l',i1,i2⟩:=lC hT g hf hh (λx=>uJ m R g t (some x)) (pX (m + 2) t) (ae R) kvs none (λ_ h=>h) k (by omega)
 refine ⟨kvs',k',by omega,?_⟩
 rw [iJ (d:=dt) rfl rfl rfl]
 have es:(evs (aa defs (m + 3)) [(.call 4 [(.bor 0)])] (fr R t kvs none)).bind (dg .seq)=some ((ae R).map .int):=by
  rw [evs,aw (vs:=[.val (ofR R)]) (by simp [evA,fr]) (kd (m + 1) R g.1 hf)]
  simp [evs]
 show kJ _ (exs (aa defs (m + 3)) (.for1 3 .seq [(.call 4 [(.bor 0)])] bm::[.retM (.cst .non)]) (fr R t kvs none))=_
 rw [aD,jj es,show bc [(.call 4 [(.bor 0)])] (fr R t kvs none)=fr R t kvs none from rfl]
 unfold ff
 cases e:(ae R).find? (λx=>won (bhd t R (some x)) (!t) == t) with
 | some x =>
  rw [i1 x e]
  rfl
 | none =>
  obtain ⟨h1,e1⟩:=i2 e
  rw [e1]
  rfl
theorem wL {α:Type} [DecidableEq α] (d:List (α × Sc)) (k:α) (v:Sc):(bo d k v).length <= d.length + 1:=by
 unfold bo
 split
 ·rw [List.length_map];omega
 ·rw [List.length_append];exact Nat.le_refl _
theorem nR {α:Type}{p:α->Bool}:∀ {l:List α},l.any p=(l.find? p).isSome
 | []=>rfl
 | x::l=>by
  rw [List.any_cons,List.find?_cons]
  cases p x with
  | true=>rfl
  | false=>rw [Bool.false_or];exact nR
theorem Bi:∀ (n m:Nat),uM (aa defs (2 * n + m + 5)) n:=λn=>by
 induction n with
 | zero =>
  intro m R t kvs g hf hh k hl
  have hz:ae R=[]:=List.length_eq_zero_iff.mp (Nat.le_zero.mp hh)
  refine ⟨kvs,?_,k,by omega⟩
  rw [show 2 * 0 + m + 5=(m + 4) + 1 from by omega,iJ (d:=aI) rfl rfl rfl]
  have ew:=j_ (m + 3) R
  have eb:=lB (m + 3) R
  by_cases h1:[] ∈ R
  ·rw [dv,if_pos h1]
   rw [decide_eq_true h1] at ew
   simp [aI,exs,ex,ev,evB,evA,ew,af,kJ,cs,Sc.pv,sc?]
  ·have h2:=j9 hz h1
   rw [dv,if_neg h1,if_pos h2]
   rw [decide_eq_false h1] at ew
   rw [decide_eq_true h2] at eb
   simp [aI,exs,ex,ev,evB,evA,ew,eb,af,kJ,cs,Sc.pv,sc?]
 | succ n ih =>
  intro m R t kvs g hf hh k hl
  rw [show 2 * (n + 1) + m + 5=(2 * n + m + 6) + 1 from by omega,iJ (d:=aI) rfl rfl rfl]
  have ew:=j_ (2 * n + m + 5) R
  have eb:=lB (2 * n + m + 5) R
  have hc:iP (n + 1)=1 + (n + 1) * iP n:=rfl
  by_cases h1:[] ∈ R
  ·refine ⟨kvs,?_,k,by omega⟩
   rw [dv,if_pos h1]
   rw [decide_eq_true h1] at ew
   simp [aI,exs,ex,ev,evB,evA,ew,af,kJ,cs,Sc.pv,sc?]
  ·by_cases h2:R=[]
   ·refine ⟨kvs,?_,k,by omega⟩
    rw [dv,if_neg h1,if_pos h2]
    rw [decide_eq_false h1] at ew
    rw [decide_eq_true h2] at eb
    simp [aI,exs,ex,ev,evB,evA,ew,eb,af,kJ,cs,Sc.pv,sc?]
   ·rw [decide_eq_false h1] at ew
    rw [decide_eq_false h2] at eb
    have ekey:∀ (kv:Dn) (h:Option MV),ev (aa defs (2 * n + m + 6)) (.tup [(.var 0),(.var 1)]) (fr R t kv h)=some (.tup [ofR R,.str (af t)]):=λkv h=>by simp [ev,evs,fr]
    have eat:∀ (kv:Dn) (h:Option MV) (s:Sc),aZ kv (R,af t)=some s->ev (aa defs (2 * n + m + 6)) (.dat (.bor 2) (.tup [(.var 0),(.var 1)])) (fr R t kv h)=some s.pv:=λkv h s e=>by
     rw [ev,ekey,show ev (aa defs (2 * n + m + 6)) (.bor 2) (fr R t kv h)=some (.dI (.n kv)) from by rw [ev];rfl]
     show (((fY (.tup [ofR R,.str (af t)])).map (aZ kv)).bind λo=>o.map Sc.pv)=_
     rw [nk,Option.map_some,e]
     rfl
    have ein:∀ (h:Option MV),ev (aa defs (2 * n + m + 6)) (.dIn true (.tup [(.var 0),(.var 1)]) (.bor 2)) (fr R t kvs h)=some (.bl (!(aZ kvs (R,af t)).isSome)):=λh=>by
     rw [ev,ekey,show ev (aa defs (2 * n + m + 6)) (.bor 2) (fr R t kvs h)=some (.dI (.n kvs)) from by rw [ev];rfl]
     show (((fY (.tup [ofR R,.str (af t)])).map (aZ kvs)).map λo=>PV.bl _)=_
     rw [nk]
     rfl
    have c1:ex (aa defs (2 * n + m + 6)) (.ite (.call 5 [(.bor 0)]) [.retM (.cst (.str "weaver"))] []) (fr R t kvs none)=.next (fr R t kvs none):=by
     rw [ex,j7 (b:=false) (aw (vs:=[.val (ofR R)]) (by simp [evA,fr]) ew),cv,if_neg (by decide),exs]
    have c2:ex (aa defs (2 * n + m + 6)) (.ite (.call 6 [(.bor 0)]) [.retM (.cst (.str "moth"))] []) (fr R t kvs none)=.next (fr R t kvs none):=by
     rw [ex,j7 (b:=false) (aw (vs:=[.val (ofR R)]) (by simp [evA,fr]) eb),cv,if_neg (by decide),exs]
    have fin:∀ (kv:Dn) (h:Option MV),aZ kv (R,af t)=some (.str (af (won R t)))->kJ [.val (ofR R),.val (.str (af t)),.mutD (.n kvs)] (exs (aa defs (2 * n + m + 6)) [.retM (.dat (.bor 2) (.tup [(.var 0),(.var 1)]))] (fr R t kv h))=some (.tup [.str (af (won R t)),.dI (.n kv)]):=λkv h e=>by
     rw [aD,ex,eat kv h _ e]
     rfl
    show ∃ kvs',kJ _ (exs (aa defs (2 * n + m + 6)) (_::_::_::[_]) (fr R t kvs none))=_/\_
    rw [aD,c1,aE,aD,c2,aE,aD,ex,j7 (ein none),cv]
    cases e0:aZ kvs (R,af t) with
    | some s =>
     have hs:=k R t s e0
     subst hs
     refine ⟨kvs,?_,k,by omega⟩
     rw [show (!(some (Sc.str (af (won R t)))).isSome)=false from rfl,if_neg (by decide),exs,aE]
     exact fin kvs none e0
    | none =>
     rw [show (!(none:Option Sc).isSome)=true from rfl,if_pos rfl]
     obtain ⟨kv1,k1,l1,h1'⟩:=zo (m:=2 * n + m + 2) (n:=n) (ih m) g hf hh k (t:=t) (by omega)
     have hv:iz (aa defs (2 * n + m + 6)) 11 [false,false,true] [(.bor 0),(.bor 1),(.bor 2)] (fr R t kvs none)=some (ff R t,fr R t kv1 none):=by
      unfold iz
      rw [show evM (aa defs (2 * n + m + 6)) [false,false,true] [(.bor 0),(.bor 1),(.bor 2)] (fr R t kvs none)=some [.val (ofR R),.val (.str (af t)),.mutD (.n kvs)] from rfl,Option.bind_some,h1']
      show (sc? (ff R t).pv).bind _=_
      rw [show sc? (ff R t).pv=some (ff R t) from by cases ff R t <;> rfl]
      rfl
     have ew2:ev (aa defs (2 * n + m + 6)) (.ite (.cmp .isN (.bor 3) (.cst .non)) (.call 7 [(.bor 1)]) (.var 1)) (fr R t kv1 (some (.val (ff R t).pv)))=some (.str (af (won R t))):=by
      have eo:=pX (2 * n + m + 5) t
      rw [iO h1 h2,nR]
      unfold ff
      cases (ae R).find? (λx=>won (bhd t R (some x)) (!t) == t) with
      | none=>simp [ev,evA,fr,f_,eo,Sc.pv]
      | some x=>simp [ev,evA,fr,f_,Sc.pv]
     refine ⟨bo kv1 (R,af t) (.str (af (won R t))),?_,?_,?_⟩
     ·have ed:ex (aa defs (2 * n + m + 6)) (.dput 2 (.tup [(.var 0),(.var 1)]) (.ite (.cmp .isN (.bor 3) (.cst .non)) (.call 7 [(.bor 1)]) (.var 1))) (fr R t kv1 (some (.val (ff R t).pv)))=.next (fr R t (bo kv1 (R,af t) (.str (af (won R t)))) (some (.val (ff R t).pv))):=by
       have e9:l8 (.n kv1) (.tup [ofR R,.str (af t)]) (.str (af (won R t)))=some (.n (bo kv1 (R,af t) (.str (af (won R t))))):=by
        show ((fY (.tup [ofR R,.str (af t)])).bind λk=>if kv1.length < 10000 then some (DD.n (bo kv1 k _)) else none)=_
        rw [nk,Option.bind_some,if_pos (by omega)]
       rw [ex,ew2,ekey]
       show (match l8 (.n kv1) (.tup [ofR R,.str (af t)]) (.str (af (won R t))) with|some d'=>_|none=>_)=_
       rw [e9]
       rfl
      rw [aD,ex,hv]
      show kJ _ (MM.R.andThen (exs (aa defs (2 * n + m + 6)) [.dput 2 (.tup [(.var 0),(.var 1)]) (.ite (.cmp .isN (.bor 3) (.cst .non)) (.call 7 [(.bor 1)]) (.var 1))] (fr R t kv1 (some (.val (ff R t).pv)))) _)=_
      rw [aD,ed,aE,exs,aE]
      exact fin _ _ (by rw [pZ,if_pos rfl])
     ·intro R' t' s e
      rw [pZ] at e
      split at e
      ·rename_i z
       obtain ⟨z1,z2⟩:=Prod.mk.inj z
       subst z1
       rw [uL z2]
       exact (Option.some.inj e).symm
      ·exact k1 R' t' s e
     ·have:=wL kv1 (R,af t) (.str (af (won R t)))
      omega
theorem Bj (n:Nat) (G:List (List Int)) (g:∀ t ∈ G,cm t) (hf:G.flatten.length <= 1000):aa defs (n + 3) 9 [.val (ofR G)]=some (.bl (decide ((ae G).length <= 6))):=by
 rw [ay (d:=dq) rfl rfl]
 have eh:=kd n G g hf
 have e1:ev (aa defs (n + 2)) (.blt .len [(.call 4 [(.bor 0)])]) [some (.val (ofR G))]=some (.int ((ae G).length:Int)):=by
  rw [cW (aw (vs:=[.val (ofR G)]) (by simp [evA]) eh)]
  simp
 show cj (exs (aa defs (n + 2)) [.ret _] [some (.val (ofR G))])=_
 rw [aD,mD (v:=.bl (decide ((ae G).length <= 6)))]
 ·rfl
 ·rw [cI e1 (y:=.int 6) (by simp [ev]),zf]
  simp
  omega
theorem wM (n:Nat) (R:List (List Int)) (g:cF R) (hf:R.flatten.length <= 1000) (hh:(ae R).length <= 6):aa defs (n + 4) 10 [.val (ofR R)]=some .non:=by
 rw [ay (d:=cU) rfl rfl]
 have e:=Bj n R g.1 hf
 rw [decide_eq_true hh] at e
 simp [cU,exs,ex,ev,evB,evA,e]
theorem eK (n:Nat) (R:List (List Int)) (t:Bool) (g:cF R) (hf:R.flatten.length <= 1000) (hh:(ae R).length <= 6):aa defs (n + 18) 13 [.val (ofR R),.val (.str (af t))]=some (.str (af (won R t))):=by
 rw [ay (d:=b9) rfl rfl]
 obtain ⟨kv,e,_⟩:=Bi 6 n R t [] g hf hh (λR t s e=>by cases e) (by decide)
 rw [show 2 * 6 + n + 5=n + 17 from by omega] at e
 have ec:=wM (n + 13) R g hf hh
 show cj (exs (aa defs (n + 17)) (.expr _::[.retNew _ _]) [some (.val (ofR R)),some (.val (.str (af t)))])=_
 rw [aD,ex,aw (vs:=[.val (ofR R)]) (by simp [evA]) ec]
 show cj (MM.R.andThen (ex (aa defs (n + 17)) (.retNew 12 [(.var 0),(.var 1)]) [some (.val (ofR R)),some (.val (.str (af t)))]) _)=_
 rw [ex,show evs (aa defs (n + 17)) [(.var 0),(.var 1)] [some (.val (ofR R)),some (.val (.str (af t)))]=some [ofR R,.str (af t)] from by simp [evs,ev]]
 dsimp only
 rw [show ([ofR R,PV.str (af t)].map MV.val ++ [MV.mutD (.n [])])=[.val (ofR R),.val (.str (af t)),.mutD (.n [])] from rfl,e]
 rfl
noncomputable def Dom (R R':List (List Int)):Prop:=∀ s ∈ R,∃ s' ∈ R',∀ x ∈ s',x ∈ s
theorem Dom.trans {A B C:List (List Int)} (a:Dom A B) (b:Dom B C):Dom A C:=λs hs=>by
 obtain ⟨u,hu,h1⟩:=a s hs
 obtain ⟨v,hv,h2⟩:=b u hu
 exact ⟨v,hv,λx hx=>h1 x (h2 x hx)⟩
theorem jk {h:Int}{R:List (List Int)}{u:List Int}:u ∈ fb h R ↔ ∃ s ∈ R,drp h s=u:=by
 unfold fb
 rw [c9,List.mem_map]
theorem ke {h x:Int}{s:List Int}:x ∈ drp h s ↔ x ∈ s/\x ≠ h:=by
 unfold drp
 rw [List.mem_filter]
 simp
theorem jl {h:Int}{R:List (List Int)}{u:List Int}:u ∈ dy h R ↔ u ∈ R/\h ∉ u:=by
 unfold dy
 rw [List.mem_filter]
 simp
theorem uN {h:Int}{R R':List (List Int)} (d:Dom R R'):Dom (fb h R) (fb h R'):=λs hs=>by
 obtain ⟨u,hu,rfl⟩:=jk.mp hs
 obtain ⟨v,hv,h1⟩:=d u hu
 exact ⟨drp h v,jk.mpr ⟨v,hv,rfl⟩,λx hx=>ke.mpr ⟨h1 x (ke.mp hx).1,(ke.mp hx).2⟩⟩
theorem qY {h:Int}{R R':List (List Int)} (d:Dom R R') (hh:h ∉ ae R'):Dom (fb h R) R':=λs hs=>by
 obtain ⟨u,hu,rfl⟩:=jk.mp hs
 obtain ⟨v,hv,h1⟩:=d u hu
 exact ⟨v,hv,λx hx=>ke.mpr ⟨h1 x hx,λe=>hh (aV.mpr ⟨v,hv,e ▸ hx⟩)⟩⟩
theorem kf (h:Int) (R:List (List Int)):Dom R (fb h R):=λs hs=>⟨drp h s,jk.mpr ⟨s,hs,rfl⟩,λ_ hx=>(ke.mp hx).1⟩
theorem uO {h:Int}{R R':List (List Int)} (d:Dom R R'):Dom (dy h R) (dy h R'):=λs hs=>by
 obtain ⟨h1,h2⟩:=jl.mp hs
 obtain ⟨v,hv,h3⟩:=d s h1
 exact ⟨v,jl.mpr ⟨hv,λz=>h2 (h3 _ z)⟩,h3⟩
theorem qZ {h:Int}{R R':List (List Int)} (d:Dom R R') (hh:h ∉ ae R):Dom R (dy h R'):=λs hs=>by
 obtain ⟨v,hv,h3⟩:=d s hs
 exact ⟨v,jl.mpr ⟨hv,λz=>hh (aV.mpr ⟨s,hs,h3 _ z⟩)⟩,h3⟩
theorem uP (h:Int) (R:List (List Int)):Dom (dy h R) R:=λs hs=>⟨s,(jl.mp hs).1,λ_ hx=>hx⟩
theorem fH (t:Bool):won [] t=true:=by
 rw [dv,if_neg (by simp),if_pos rfl]
theorem fO {R:List (List Int)} (h:[] ∈ R) (t:Bool):won R t=false:=by rw [dv,if_pos h]
theorem uQ {R:List (List Int)} (h1:[] ∉ R) (h2:R ≠ []):won R false=false ↔ ∃ h ∈ ae R,won (fb h R) true=false:=by
 rw [iO h1 h2]
 constructor
 ·intro e
  split at e
  ·rename_i z
   obtain ⟨h,hh,q⟩:=List.any_eq_true.mp z
   exact ⟨h,hh,eq_of_beq q⟩
  ·cases e
 ·rintro ⟨h,hh,e⟩
  have q:(won (bhd false R (some h)) (!false) == false)=true:=beq_iff_eq.mpr e
  rw [if_pos (List.any_eq_true.mpr ⟨h,hh,q⟩)]
theorem xo {R:List (List Int)} (h1:[] ∉ R) (h2:R ≠ []):won R true=false ↔ ∀ h ∈ ae R,won (dy h R) false=false:=by
 rw [iO h1 h2]
 constructor
 ·intro e h hh
  split at e
  ·cases e
  ·rename_i z
   cases q:won (dy h R) false with
   | false=>rfl
   | true =>
    have q2:(won (bhd true R (some h)) (!true) == true)=true:=beq_iff_eq.mpr q
    exact absurd (List.any_eq_true.mpr ⟨h,hh,q2⟩) z
 ·intro e
  rw [if_neg λz=>?_]
  ·rfl
  ·obtain ⟨h,hh,q⟩:=List.any_eq_true.mp z
   have q2:won (dy h R) false=true:=eq_of_beq q
   rw [e h hh] at q2
   cases q2
theorem nS {R:List (List Int)} (d:Dom R []):R=[]:=by
 cases R with
 | nil=>rfl
 | cons s R =>
  obtain ⟨_,h,_⟩:=d s (.head _)
  cases h
theorem q_ {R R':List (List Int)} (d:Dom R R') (h:[] ∈ R):[] ∈ R':=by
 obtain ⟨v,hv,h1⟩:=d [] h
 cases v with
 | nil=>exact hv
 | cons x v=>cases h1 x (.head _)
theorem nT {R:List (List Int)} (h1:[] ∉ R) (h2:R ≠ []):∃ h,h ∈ ae R:=by
 cases e:ae R with
 | nil=>exact absurd (j9 e h1) h2
 | cons h l=>exact ⟨h,.head _⟩
theorem mono:∀ n:Nat,(∀ R R' t,(ae R').length <= n->Dom R R'->won R t=false->won R' t=false)/\∀ R,(ae R).length <= n->won R true=false->won R false=false:=λn=>by
 induction n with
 | zero =>
  have fin:∀ R',(ae R').length <= 0->[] ∉ R'->R'=[]:=λR' h h1=>j9 (List.length_eq_zero_iff.mp (Nat.le_zero.mp h)) h1
  refine ⟨λR R' t h d w=>?_,λR h w=>?_⟩
  ·by_cases h1:[] ∈ R'
   ·exact fO h1 t
   ·have:=fin R' h h1
    subst this
    rw [nS d,fH] at w
    cases w
  ·by_cases h1:[] ∈ R
   ·exact fO h1 _
   ·rw [fin R h h1,fH] at w
    cases w
 | succ n ih =>
  obtain ⟨iA,iB⟩:=ih
  refine ⟨λR R' t h d w=>?_,λR h w=>?_⟩
  ·by_cases h1:[] ∈ R'
   ·exact fO h1 t
   ·by_cases h2:R'=[]
    ·subst h2
     rw [nS d,fH] at w
     cases w
    ·have r1:[] ∉ R:=λz=>h1 (q_ d z)
     have r2:R ≠ []:=λz=>by rw [z,fH] at w;cases w
     cases t with
     | false =>
      obtain ⟨x,hx,w1⟩:=(uQ r1 r2).mp w
      refine (uQ h1 h2).mpr ?_
      by_cases hx':x ∈ ae R'
      ·exact ⟨x,hx',iA _ _ _ (by have:=bF (t:=false) hx';exact Nat.le_of_succ_le_succ (Nat.le_trans this h)) (uN d) w1⟩
      ·obtain ⟨y,hy⟩:=nT h1 h2
       exact ⟨y,hy,iA _ _ _ (by have:=bF (t:=false) hy;exact Nat.le_of_succ_le_succ (Nat.le_trans this h)) ((qY d hx').trans (kf y R')) w1⟩
     | true =>
      have w1:=(xo r1 r2).mp w
      refine (xo h1 h2).mpr λx hx=>?_
      have hl:(ae (dy x R')).length <= n:=by have:=bF (t:=true) hx;exact Nat.le_of_succ_le_succ (Nat.le_trans this h)
      by_cases hx':x ∈ ae R
      ·exact iA _ _ _ hl (uO d) (w1 x hx')
      ·exact iB _ hl (iA _ _ _ hl (qZ d hx') w)
  ·by_cases h1:[] ∈ R
   ·exact fO h1 _
   ·by_cases h2:R=[]
    ·rw [h2,fH] at w
     cases w
    ·obtain ⟨y,hy⟩:=nT h1 h2
     exact (uQ h1 h2).mpr ⟨y,hy,iA _ _ _ (by have:=bF (t:=false) hy;exact Nat.le_of_succ_le_succ (Nat.le_trans this h)) (kf y R) w⟩
theorem fI {R R':List (List Int)} (d:Dom R R') {t:Bool} (w:won R t=false):won R' t=false:=(mono _).1 R R' t (Nat.le_refl _) d w
theorem uR {R:List (List Int)} (w:won R true=false):won R false=false:=(mono _).2 R (Nat.le_refl _) w
noncomputable def cellOf (ns:List Int) (k:Int):Int:=ns.getD k.toNat 0
theorem uS (n:Nat) (m:MV) (ns:List Int) (k:Int) (hm:be (some m)=some (ofL ns)) (h0:0 <= k):aa defs (n + 1) 17 [m,.val (.int k)]=some (.int (cellOf ns k)):=by
 rw [ay (d:=eY) rfl rfl]
 unfold cellOf
 simp [eY,exs,ex,ev,evs,evB,hm]
 by_cases h:k < (ns.length:Int)
 ·have h2:k.toNat < ns.length:=by omega
  simp [h,uF h0 h,h2]
 ·have h2:ns.length <= k.toNat:=by omega
  simp [h,h2]
noncomputable def bJ (c b:Int):Int:=c % 2305843009213693951 * b % 2305843009213693951
theorem mF (n:Nat) (c b:Int):aa defs (n + 1) 18 [.val (.int c),.val (.int b)]=some (.int (bJ c b)):=by
 rw [ay (d:=dL) rfl rfl]
 have h1:0 <= c % 2305843009213693951:=Int.emod_nonneg _ (by decide)
 have h2:c % 2305843009213693951 < 2305843009213693951:=Int.emod_lt_of_pos _ (by decide)
 have h3:(-18446744073709551616 < c % 2305843009213693951/\c % 2305843009213693951 < 18446744073709551616 \/ -18446744073709551616 < b/\b < 18446744073709551616):=.inl ⟨by omega,by omega⟩
 simp [dL,exs,ex,ev,evs,h3,bJ]
noncomputable def cX (many:Int):Nat->Int->List Int->List Int
 | 0,_,acc=>acc
 | n + 1,left,acc=>cX many n (left / many) (if left % many ∈ acc then acc else acc ++ [left % many])
theorem fc (many:Int) (hm:0 < many):∀ (n:Nat) (left:Int) (acc:List Int),acc.Nodup->(∀ h ∈ acc,0 <= h/\h < many)->(cX many n left acc).Nodup/\(∀ h ∈ cX many n left acc,0 <= h/\h < many)/\(cX many n left acc).length <= acc.length + n
 | 0,_,acc,h1,h2=>⟨h1,h2,by simp [cX]⟩
 | n + 1,left,acc,h1,h2=>by
  rw [cX]
  by_cases q:left % many ∈ acc
  ·rw [if_pos q]
   obtain ⟨a,b,c⟩:=fc many hm n (left / many) acc h1 h2
   exact ⟨a,b,by omega⟩
  ·rw [if_neg q]
   obtain ⟨a,b,c⟩:=fc many hm n (left / many) (acc ++ [left % many]) (List.nodup_append.mpr ⟨h1,by simp,λx hx y hy=>by rw [List.mem_singleton.mp hy];exact λz=>q (z ▸ hx)⟩) (λh hh=>by
    rcases List.mem_append.mp hh with hh|hh
    ·exact h2 h hh
    ·rw [List.mem_singleton.mp hh];exact ⟨Int.emod_nonneg _ (by omega),Int.emod_lt_of_pos _ hm⟩)
   exact ⟨a,b,by rw [List.length_append,List.length_singleton] at c;omega⟩
noncomputable def ig (c many most:Int):List Int:=sortI (cX many (bJ c 1181783497276652981 % (most + 1)).toNat (bJ c 1181783497276652981 / (most + 1)) [])
theorem kg (cal:Cal) (c many most size:MV) (mn:Int) (hmn:be (some many)=some (.int mn)) (h1:0 < mn) (h2:mn < 1073741824):∀ (xs:List PV) (left:Int) (acc:List Int) (kk:Option MV),acc.length + xs.length <= 10000 ->
  ∃ left' kk',aY (λx ρ'=>exs cal b0 (put ρ' 6 (.val x))) xs
   [some c,some many,some most,some (.val (.int left)),some size,some (.own (acc.map .int)),kk]=.next [some c,some many,some most,some (.val (.int left')),some size,some (.own ((cX mn xs.length left acc).map .int)),kk']
 | [],left,acc,kk,_=>⟨left,kk,rfl⟩
 | x::xs,left,acc,kk,hl=>by
  simp only [List.length_cons] at hl
  rw [aY]
  have e:exs cal b0 (put [some c,some many,some most,some (.val (.int left)),some size,some (.own (acc.map .int)),kk] 6 (.val x)) =
    .next [some c,some many,some most,some (.val (.int (left / mn))),some size,some (.own ((if left % mn ∈ acc then acc else acc ++ [left % mn]).map .int)),some (.val x)]:=by
   by_cases q:left % mn ∈ acc
   ·simp [b0,exs,ex,ev,evs,evB,hmn,h1,h2,c8,q]
   ·have hlt:acc.length < 10000:=by omega
    simp [b0,exs,ex,ev,evs,evB,hmn,h1,h2,c8,q,hlt]
  rw [e]
  obtain ⟨l',k',e2⟩:=kg cal c many most size mn hmn h1 h2 xs (left / mn) (if left % mn ∈ acc then acc else acc ++ [left % mn]) (some (.val x)) (by
   split
   ·omega
   ·rw [List.length_append,List.length_singleton];omega)
  exact ⟨l',k',e2⟩
theorem wN (n:Nat) (c many most:Int) (h1:0 < many) (h2:many < 1073741824) (h3:0 <= most) (h4:most <= 60):aa defs (n + 2) 19 [.val (.int c),.val (.int many),.val (.int most)]=some (ofS (ig c many most)):=by
 rw [ay (d:=dM) rfl rfl]
 have hp:0 < most + 1:=by omega
 have hp2:most + 1 < 1073741824:=by omega
 have q0:0 <= bJ c 1181783497276652981 % (most + 1):=Int.emod_nonneg _ (by omega)
 have q1:bJ c 1181783497276652981 % (most + 1) < most + 1:=Int.emod_lt_of_pos _ hp
 obtain ⟨l',k',e⟩:=kg (aa defs (n + 1)) (.val (.int c)) (.val (.int many)) (.val (.int most)) (.val (.int (bJ c 1181783497276652981 % (most + 1)))) many rfl h1 h2 ((List.range (bJ c 1181783497276652981 % (most + 1)).toNat).map λ(k:Nat)=>PV.int (k:Int)) (bJ c 1181783497276652981 / (most + 1)) [] none (by simp;omega)
 rw [List.length_map,List.length_range] at e
 obtain ⟨g1,g2,g3⟩:=fc many h1 (bJ c 1181783497276652981 % (most + 1)).toNat (bJ c 1181783497276652981 / (most + 1)) [] List.nodup_nil (λ_ h=>by cases h)
 have hlen:(cX many (bJ c 1181783497276652981 % (most + 1)).toNat (bJ c 1181783497276652981 / (most + 1)) []).length < 64:=by simp at g3;omega
 simp only [List.map_nil] at e
 simp [dM,exs,ex,ev,evs,evA,evB,mF,hp,hp2,bc,j3 q0 (by omega),e,aP,ly hlen,ig]
theorem lD:∀ l:List Int,(dd l).length <= l.length
 | []=>Nat.le_refl _
 | x::r=>by
  have:=lD r
  rw [dd]
  split
  ·rw [List.length_cons];omega
  ·rw [List.length_cons,List.length_cons];omega
noncomputable def InS (m:Int) (t:List Int):Prop:=t.Pairwise (· < ·)/\(∀ x ∈ t,0 <= x/\x < m)/\t.length <= 4
theorem ra (s:List Int):gP (ofS s) none (some 2)=some (ofS (s.take 2)):=by
 show some (PV.tup (cut (s.map .int) none (some 2)))=some (PV.tup _)
 unfold cut
 rw [List.length_map,show fe s.length 0 none=0 from rfl,List.drop_zero,Nat.sub_zero,show fe s.length s.length (some 2)=min 2 s.length from rfl,<- List.map_take]
 congr 2
 rw [Nat.min_def]
 split
 ·rfl
 ·rw [List.take_of_length_le (Nat.le_refl _),List.take_of_length_le (by omega)]
theorem uT (c many most:Int) (h1:0 < many) (h3:0 <= most) (h4:most <= 4):InS many (ig c many most):=by
 obtain ⟨g1,g2,g3⟩:=fc many h1 (bJ c 1181783497276652981 % (most + 1)).toNat (bJ c 1181783497276652981 / (most + 1)) [] List.nodup_nil (λ_ h=>by cases h)
 refine ⟨j4 g1,λx hx=>g2 x (iK.mp hx),?_⟩
 unfold ig
 rw [sortI_len]
 have q0:0 <= bJ c 1181783497276652981 % (most + 1):=Int.emod_nonneg _ (by omega)
 have q1:bJ c 1181783497276652981 % (most + 1) < most + 1:=Int.emod_lt_of_pos _ (by omega)
 simp only [List.length_nil] at g3
 omega
theorem zp (n:Nat) (c many:Int) (h1:2 <= many) (h2:many <= 60):∃ t,InS many t/\aa defs (n + 3) 20 [.val (.int c),.val (.int many)]=some (ofS t):=by
 rw [ay (d:=cw) rfl rfl]
 have es:=wN n c many 3 (by omega) (by omega) (by decide) (by decide)
 have is:=uT c many 3 (by omega) (by decide) (by decide)
 generalize ig c many 3=s at es is
 have em:=mF (n + 1) c 1865811235122147685
 generalize bJ c 1865811235122147685=l at em
 have c1:0 < many:=by omega
 have c2:many < 1073741824:=by omega
 have c3:0 < many - 1:=by omega
 have c4:1 < many:=by omega
 by_cases q:c % 8=5
 ·refine ⟨s,is,?_⟩
  show cj (exs (aa defs (n + 2)) (_::.ite _ _ _::_) [some (.val (.int c)),some (.val (.int many)),none,none,none,none])=_
  simp only [aD]
  rw [iM (aw (vs:=[.val (.int c),.val (.int many),.val (.int 3)]) (by simp [evA,ev]) es),aE]
  simp only [fD,fE]
  simp [ex,exs,ev,evB,q]
 ·obtain ⟨one,h1'⟩:∃ x,x=l % many:=⟨_,rfl⟩
  obtain ⟨two,h2'⟩:∃ x,x=(one + 1 + l / many % (many - 1)) % many:=⟨_,rfl⟩
  have b1:0 <= one/\one < many:=by rw [h1'];exact ⟨Int.emod_nonneg _ (by omega),Int.emod_lt_of_pos _ c1⟩
  have b2:0 <= two/\two < many:=by rw [h2'];exact ⟨Int.emod_nonneg _ (by omega),Int.emod_lt_of_pos _ c1⟩
  have hin:∀ x ∈ [one,two] ++ s.take 2,0 <= x/\x < many:=λx hx=>by
   rcases List.mem_append.mp hx with hx|hx
   ·rcases List.mem_cons.mp hx with e|hx
    ·rw [e];exact b1
    ·rw [List.mem_singleton.mp hx];exact b2
   ·exact is.2.1 x (List.mem_of_mem_take hx)
  have hlen:([one,two] ++ s.take 2).length <= 4:=by
   rw [List.length_append,List.length_take]
   show 2 + _ <= 4
   omega
  have hdl:=lD ([one,two] ++ s.take 2)
  refine ⟨sortI (dd ([one,two] ++ s.take 2)),⟨j4 (dd_nodup _),λx hx=>hin x (mC.mp (iK.mp hx)),by rw [sortI_len];omega⟩,?_⟩
  show cj (exs (aa defs (n + 2)) (_::_::_::_::_::[_]) [some (.val (.int c)),some (.val (.int many)),none,none,none,none])=_
  simp only [aD]
  rw [iM (aw (vs:=[.val (.int c),.val (.int many),.val (.int 3)]) (by simp [evA,ev]) es),aE]
  simp only [fD,fE]
  rw [ex,j7 (uG (x:=c) (by simp [ev]) (by decide)),cv,if_neg (by simpa using q),exs,aE]
  rw [iM (aw (vs:=[.val (.int c),.val (.int 1865811235122147685)]) (by simp [evA,ev]) em),aE]
  simp only [fD,fE]
  rw [iM (v:=.int one) (by rw [fG (x:=.int l) (y:=.int many) (by simp [ev]) (by simp [ev]),hZ,if_pos c1,h1']),aE]
  simp only [fD,fE]
  rw [iM (v:=.int two) (by simp [ev,c1,c2,c3,c4,h2']),aE]
  simp only [fD,fE]
  have e1:ev (aa defs (n + 2)) (.bin .add (.lst [(.var 4),(.var 5)]) (.blt .listOf [(.slice (.bor 2) (.cst .non) (.cst (.int 2)))])) [some (.val (.int c)),some (.val (.int many)),some (.val (ofS s)),some (.val (.int l)),some (.val (.int one)),some (.val (.int two))]=some (ofL ([one,two] ++ s.take 2)):=by
   have e0:ev (aa defs (n + 2)) (.slice (.bor 2) (.cst .non) (.cst (.int 2))) [some (.val (.int c)),some (.val (.int many)),some (.val (ofS s)),some (.val (.int l)),some (.val (.int one)),some (.val (.int two))]=some (ofS (s.take 2)):=by
    rw [<- ra]
    simp [ev,bnd]
   rw [fG (x:=.lst [.int one,.int two]) (y:=.lst ((s.take 2).map .int)) (by simp [ev,evs]) (by rw [cW e0];rfl),pR,if_pos (by simp;omega)]
   rfl
  rw [mD (v:=ofS (sortI (dd ([one,two] ++ s.take 2))))]
  ·rfl
  ·refine (cW (v:=ofL (sortI (dd ([one,two] ++ s.take 2)))) ?_).trans rfl
   rw [cW e1,kK,pS,Option.bind_some,cb,Option.bind_some,if_pos ⟨by omega,by omega⟩]
theorem iZ (cal:Cal) (a s:MV):∀ (ts acc:List Int) (kk:Option MV),acc.Nodup->(∀ x ∈ acc,0 <= x/\x <= 59)->(∀ x ∈ ts,0 <= x/\x <= 59) ->
  ∃ kk',aY (λx ρ'=>exs cal b4 (put ρ' 3 (.val x))) (ts.map .int) [some a,some (.own (acc.map .int)),some s,kk]=.next [some a,some (.own ((ts.foldl fj acc).map .int)),some s,kk']
 | [],acc,kk,_,_,_=>⟨kk,rfl⟩
 | t::ts,acc,kk,h1,h2,h3=>by
  rw [List.map_cons,aY]
  have hl:acc.length < 10000:=by have:=wJ (R:=[]) h1 h2;omega
  have e:exs cal b4 (put [some a,some (.own (acc.map .int)),some s,kk] 3 (.val (.int t)))=.next [some a,some (.own ((fj acc t).map .int)),some s,some (.val (.int t))]:=by
   by_cases q:t ∈ acc
   ·simp [b4,exs,ex,ev,evB,c8,fj,q]
   ·simp [b4,exs,ex,ev,evB,c8,fj,q,hl]
  rw [e]
  obtain ⟨q1,q2⟩:=pU (h:=t) h1
  exact iZ cal a s ts (fj acc t) _ q1 (λx hx=>((q2 x).mp hx).elim (h2 x) λz=>z ▸ h3 t (.head _)) λx hx=>h3 x (.tail _ hx)
theorem kh (cal:Cal) (a:MV):∀ (R:List (List Int)) (acc:List Int) (s kk:Option MV),acc.Nodup->(∀ x ∈ acc,0 <= x/\x <= 59)->(∀ ts ∈ R,∀ x ∈ ts,0 <= x/\x <= 59) ->
  ∃ s' kk',aY (λx ρ'=>exs cal cz (put ρ' 2 (.val x))) (R.map ofS) [some a,some (.own (acc.map .int)),s,kk]=.next [some a,some (.own ((R.foldl (λacc ts=>ts.foldl fj acc) acc).map .int)),s',kk']
 | [],acc,s,kk,_,_,_=>⟨s,kk,rfl⟩
 | t::R,acc,s,kk,h1,h2,h3=>by
  rw [List.map_cons,aY]
  obtain ⟨k',e2⟩:=iZ cal a (.val (ofS t)) t acc kk h1 h2 (h3 t (.head _))
  have e:exs cal cz (put [some a,some (.own (acc.map .int)),s,kk] 2 (.val (ofS t)))=.next [some a,some (.own ((t.foldl fj acc).map .int)),some (.val (ofS t)),k']:=by
   simp [cz,exs,ex,ev,evs,bc,e2,aP]
  rw [e]
  obtain ⟨q1,q2⟩:=j6 t acc h1
  exact kh cal a R _ _ _ q1 (λx hx=>((q2 x).mp hx).elim (h2 x) λz=>h3 t (.head _) x z) λts hts=>h3 ts (.tail _ hts)
theorem wO (n:Nat) (R:List (List Int)) (g:∀ ts ∈ R,cm ts):aa defs (n + 1) 22 [.val (ofR R)]=some (ofL (ae R)):=by
 rw [ay (d:=dO) rfl rfl]
 obtain ⟨s',k',e⟩:=kh (aa defs n) (.val (ofR R)) R [] none none List.nodup_nil (λx h=>by cases h) λts hts=>(g ts hts).2
 have hl:(ia R).length < 64:=by have:=qR g;omega
 simp only [List.map_nil] at e
 have e':R.foldl (λacc ts=>ts.foldl fj acc) []=ia R:=rfl
 rw [e'] at e
 simp [dO,exs,ex,ev,evs,bc,e,aP,ly hl,ae]
theorem fJ {cal:Cal}{i:Nat}{e:ME}{ρ:Rho}{v:PV}{ms:List MS}{X:Option PV} (h:ev cal e ρ=some v) (k:cj (exs cal ms (put ρ i (.val v)))=X):cj (exs cal (.set i e::ms) ρ)=X:=by
 rw [aD,iM h,aE,k]
theorem iQ {cal:Cal}{m:MS}{ρ ρ':Rho}{ms:List MS}{X:Option PV} (h:ex cal m ρ=.next ρ') (k:cj (exs cal ms ρ')=X):cj (exs cal (m::ms) ρ)=X:=by
 rw [aD,h,aE,k]
theorem uU {cal:Cal}{e:ME}{ρ:Rho}{v:PV}{ms:List MS} (h:ev cal e ρ=some v):cj (exs cal (.ret e::ms) ρ)=some v:=by
 rw [aD,mD h];rfl
theorem zq {cal:Cal}{m:MS}{ρ ρ':Rho}{ms:List MS}{r:R} (h:ex cal m ρ=.next ρ') (k:exs cal ms ρ'=r):exs cal (m::ms) ρ=r:=by
 rw [aD,h,aE,k]
theorem Bk {cal:Cal}{m:MS}{ρ ρ':Rho} (h:ex cal m ρ=.next ρ'):exs cal [m] ρ=.next ρ':=by
 rw [aD,h,aE,exs]
theorem ki {cal:Cal}{c:ME}{a b:List MS}{ρ:Rho}{p:Bool} (h:ev cal c ρ=some (.bl p)):ex cal (.ite c a b) ρ=if p=true then exs cal a ρ else exs cal b ρ:=by
 rw [ex,j7 h,cv]
theorem p0 {m:Nat}:∀ {R:List (List Int)},(∀ t ∈ R,t.length <= m)->R.flatten.length <= R.length * m
 | [],_=>by simp
 | t::R,h=>by
  have h1:=h t (.head _)
  have h2:=p0 (R:=R) λt ht=>h t (.tail _ ht)
  rw [List.flatten_cons,List.length_append,List.length_cons,Nat.succ_mul]
  omega
structure fg (R:List (List Int)):Prop where
 g:cF R
 f:R.flatten.length <= 1000
 h:(ae R).length <= 6
theorem fg.move {R:List (List Int)} (s:fg R) {t:Bool}{h:Int} (hh:h ∈ ae R):fg (bhd t R (some h)):=⟨nO s.g _,Nat.le_trans (nP _ _ _) s.f,by have:=bF (t:=t) hh;have:=s.h;omega⟩
theorem lE {α:Type}{g:α->PV}{body:PV->Rho->MM.R}{I:Rho->Prop}:∀ {xs:List α}{ρ:Rho},I ρ->(∀ x ∈ xs,∀ ρ,I ρ->∃ ρ',I ρ'/\body (g x) ρ=.next ρ')->∃ ρ',I ρ'/\aY body (xs.map g) ρ=.next ρ'
 | [],ρ,hI,_=>⟨ρ,hI,rfl⟩
 | x::xs,ρ,hI,h=>by
  obtain ⟨ρ1,h1,e1⟩:=h x (.head _) ρ hI
  obtain ⟨ρ2,h2,e2⟩:=lE h1 λy hy=>h y (.tail _ hy)
  exact ⟨ρ2,h2,by rw [List.map_cons,du e1,e2]⟩
theorem kj {D:List (List Int)}{many sh:Int} (hD:∀ t ∈ D,InS many t) (hl:D.length <= 20) (hm:many <= 5) (h0:0 <= sh) (h1:sh <= 54):fg (sortT (D.map λt=>t.map λx=>x + sh)):=by
 have hin:∀ u ∈ sortT (D.map λt=>t.map λx=>x + sh),∃ t ∈ D,u=t.map λx=>x + sh:=λu hu=>by
  obtain ⟨t,ht,rfl⟩:=List.mem_map.mp (c9.mp hu)
  exact ⟨t,ht,rfl⟩
 have hlen:(sortT (D.map λt=>t.map λx=>x + sh)).length=D.length:=by rw [sortT_len,List.length_map]
 refine ⟨⟨λu hu=>?_,sortT_rises _,by rw [hlen];omega⟩,?_,?_⟩
 ·obtain ⟨t,ht,rfl⟩:=hin u hu
  refine ⟨List.pairwise_map.mpr ((hD t ht).1.imp λh=>by omega),λx hx=>?_⟩
  obtain ⟨y,hy,rfl⟩:=List.mem_map.mp hx
  have:=(hD t ht).2.1 y hy
  omega
 ·have:=p0 (m:=4) (R:=sortT (D.map λt=>t.map λx=>x + sh)) λu hu=>by
   obtain ⟨t,ht,rfl⟩:=hin u hu
   rw [List.length_map]
   exact (hD t ht).2.2
  omega
 ·have:=uK (ae (sortT (D.map λt=>t.map λx=>x + sh))) [sh,sh + 1,sh + 2,sh + 3,sh + 4] (iN (e_ _)) λy hy=>by
   obtain ⟨u,hu,hyu⟩:=aV.mp hy
   obtain ⟨t,ht,rfl⟩:=hin u hu
   obtain ⟨z,hz,rfl⟩:=List.mem_map.mp hyu
   have:=(hD t ht).2.1 z hz
   simp only [List.mem_cons,List.not_mem_nil,or_false]
   omega
  simp only [List.length_cons,List.length_nil] at this
  omega
noncomputable def sub (a b:List Int):Bool:=a.all λx=>decide (x ∈ b)
theorem fP {a b:List Int}:sub a b=true ↔ ∀ x ∈ a,x ∈ b:=by simp [sub]
theorem rb (n:Nat) (m m':MV) (a b:List Int) (hm:(be (some m)).bind aO=some (a.map .int)) (hm':(be (some m')).bind aO=some (b.map .int)) (ha:a.length <= 1000) (hb:b.length <= 1000) (hd:(dd b).length <= 60):aa defs (n + 1) 14 [m,m']=some (.bl (sub b a)):=by
 rw [ay (d:=fN) rfl rfl]
 have h:((((dd b).filter λx=>!decide (x ∈ a)).length:Int) == 0)=sub b a:=by
  rw [Bool.eq_iff_iff,beq_iff_eq,fP]
  constructor
  ·intro h x hx
   have h2:(dd b).filter (λx=>!decide (x ∈ a))=[]:=List.eq_nil_of_length_eq_zero (by omega)
   have:=List.filter_eq_nil_iff.mp h2 x (mC.mpr hx)
   simpa using this
  ·intro h
   have h2:(dd b).filter (λx=>!decide (x ∈ a))=[]:=List.filter_eq_nil_iff.mpr λx hx=>by simpa using h x (mC.mp hx)
   rw [h2];rfl
 cases h1:be (some m) with
 | none=>rw [h1] at hm;cases hm
 | some v =>
  cases h2:be (some m') with
  | none=>rw [h2] at hm';cases hm'
  | some v' =>
   rw [h1] at hm
   rw [h2] at hm'
   have hm:aO v=some (a.map .int):=hm
   have hm':aO v'=some (b.map .int):=hm'
   have e:aq .lenSetSub [v',v]=some (.int ((dd b).filter λx=>!decide (x ∈ a)).length):=by
    show ((aO v').bind λxs=>(aN xs).bind λns=>(aO v).bind λys=>(aN ys).bind λms=>if ns.length <= 1000/\ms.length <= 1000/\(dd ns).length <= 60 then some (PV.int ((dd ns).filter λn=>!decide (n ∈ ms)).length) else none)=_
    rw [hm',hm]
    simp [cb,ha,hb,hd]
   simp [fN,exs,ex,ev,evs,h1,h2,e,h]
theorem wP {t:List Int} (h:cm t):(dd t).length <= 60:=by rw [xn (nM h.1)];exact c_ h
theorem km:∀ (s o:List Int),o.Pairwise (· < ·)->s.Pairwise (· < ·)->(∀ x ∈ o,x ∈ s)->o.Sublist s
 | [],o,_,_,h=>by
  cases o with
  | nil=>exact List.Sublist.slnil
  | cons x r=>cases h x (.head _)
 | y::s,[],_,_,_=>List.nil_sublist _
 | y::s,x::o,ho,hs,h=>by
  obtain ⟨o1,o2⟩:=List.pairwise_cons.mp ho
  obtain ⟨s1,s2⟩:=List.pairwise_cons.mp hs
  by_cases e:x=y
  ·subst e
   refine List.Sublist.cons_cons x (km s o o2 s2 λz hz=>?_)
   rcases List.mem_cons.mp (h z (.tail _ hz)) with rfl|q
   ·exact absurd (o1 z hz) (by omega)
   ·exact q
  ·have hx:x ∈ s:=(List.mem_cons.mp (h x (.head _))).elim (λz=>absurd z e) id
   have hy:=s1 x hx
   refine List.Sublist.cons y (km s (x::o) ho s2 λz hz=>?_)
   rcases List.mem_cons.mp (h z hz) with rfl|q
   ·rcases List.mem_cons.mp hz with rfl|hz
    ·exact absurd rfl e
    ·exact absurd (o1 z hz) (by omega)
   ·exact q
theorem zr {o s:List Int} (ho:cm o) (hs:cm s) (h:sub o s=true) (ne:o ≠ s):o.length < s.length:=by
 have q:=km s o ho.1 hs.1 (fP.mp h)
 rcases Nat.lt_or_ge o.length s.length with z|z
 ·exact z
 ·exact absurd (q.eq_of_length_le z) ne
theorem uV (s:List Int):sub s s=true:=fP.mpr λ_ h=>h
theorem re {a b c:List Int} (h:sub a b=true) (h':sub b c=true):sub a c=true:=fP.mpr λx hx=>fP.mp h' x (fP.mp h x hx)
noncomputable def ndl (s:List Int) (R:List (List Int)):Bool:=R.any λo=>!decide (o=s)&&sub o s
noncomputable def d4 (R kept:List (List Int)) (s:List Int):List (List Int):=if s ∉ kept/\ndl s R=false then kept ++ [s] else kept
noncomputable def thin (R:List (List Int)):List (List Int):=R.foldl (d4 R) []
theorem wQ {s:List Int}{R:List (List Int)}:ndl s R=true ↔ ∃ o ∈ R,o ≠ s/\sub o s=true:=by simp [ndl]
theorem kn (R:List (List Int)):∀ (xs kept:List (List Int)),(xs.foldl (d4 R) kept).Sublist (kept ++ xs)
 | [],kept=>by simp
 | s::xs,kept=>by
  rw [List.foldl_cons]
  refine (kn R xs _).trans ?_
  unfold d4
  split
  ·rw [List.append_assoc];exact List.Sublist.refl _
  ·exact List.Sublist.append_left (List.sublist_cons_self s xs) kept
theorem nU (R:List (List Int)) (x:List Int):∀ (xs kept:List (List Int)),x ∈ xs.foldl (d4 R) kept ↔ x ∈ kept \/ (x ∈ xs/\ndl x R=false)
 | [],kept=>by simp
 | s::xs,kept=>by
  rw [List.foldl_cons,nU R x xs]
  unfold d4
  by_cases h:s ∉ kept/\ndl s R=false
  ·rw [if_pos h,List.mem_append,List.mem_singleton,List.mem_cons]
   constructor
   ·rintro ((h1|rfl)|h1)
    ·exact .inl h1
    ·exact .inr ⟨.inl rfl,h.2⟩
    ·exact .inr ⟨.inr h1.1,h1.2⟩
   ·rintro (h1|⟨rfl|h1,h2⟩)
    ·exact .inl (.inl h1)
    ·exact .inl (.inr rfl)
    ·exact .inr ⟨h1,h2⟩
  ·rw [if_neg h,List.mem_cons]
   constructor
   ·rintro (h1|h1)
    ·exact .inl h1
    ·exact .inr ⟨.inr h1.1,h1.2⟩
   ·rintro (h1|⟨rfl|h1,h2⟩)
    ·exact .inl h1
    ·by_cases q:x ∈ kept
     ·exact .inl q
     ·exact absurd ⟨q,h2⟩ h
    ·exact .inr ⟨h1,h2⟩
theorem ko {R:List (List Int)}{x:List Int}:x ∈ thin R ↔ x ∈ R/\ndl x R=false:=by unfold thin;rw [nU];simp
theorem rf {R:List (List Int)} (g:cF R):cF (thin R):=by
 have s:=kn R R []
 rw [List.nil_append] at s
 exact ⟨λt ht=>g.1 t (s.subset ht),g.2.1.sublist s,Nat.le_trans s.length_le g.2.2⟩
theorem kq {R:List (List Int)} (g:∀ t ∈ R,cm t):∀ (n:Nat) (s:List Int),s.length <= n->s ∈ R->∃ t ∈ thin R,sub t s=true
 | n,s,hn,hs=>by
  cases hd:ndl s R with
  | false=>exact ⟨s,ko.mpr ⟨hs,hd⟩,uV s⟩
  | true =>
   obtain ⟨o,ho,ne,h⟩:=wQ.mp hd
   have lt:=zr (g o ho) (g s hs) h ne
   match n with
   | 0=>omega
   | n + 1 =>
    obtain ⟨t,ht,h2⟩:=kq g n o (by omega) ho
    exact ⟨t,ht,re h2 h⟩
theorem oS (n:Nat) (s:List Int) (R:List (List Int)) (hs:s.length <= 1000) (g:∀ t ∈ R,cm t) (hl:R.length <= 10000):aa defs (n + 2) 15 [.val (ofS s),.val (ofR R)]=some (.bl (ndl s R)):=by
 rw [ay (d:=dZ) rfl rfl]
 have ec:ev (aa defs (n + 1)) (.comp .seq [(.bor 1)] [0] (.cst (.bl true)) (.and (.cmp .ne (.bor 0) (.bor 1)) (.call 14 [(.bor 1),(.bor 0)]))) [some (.val (ofS s)),some (.val (ofR R))]=some (.lst ((R.map λo=>!decide (o=s)&&sub o s).map .bl)):=by
  rw [ev,show evs (aa defs (n + 1)) [(.bor 1)] [some (.val (ofS s)),some (.val (ofR R))]=some [ofR R] from by simp [evs,ev],Option.bind_some,wH,wC,Option.bind_some,if_pos (by simpa using hl)]
  have e:dh (λx=>(ev (aa defs (n + 1)) (.cst (.bl true)) (ce [0] [some (.val (ofS s)),some (.val (ofR R))] x)).bind aC)
    (λx=>ev (aa defs (n + 1)) (.and (.cmp .ne (.bor 0) (.bor 1)) (.call 14 [(.bor 1),(.bor 0)])) (ce [0] [some (.val (ofS s)),some (.val (ofR R))] x)) (R.map ofS)=some ((R.map λo=>!decide (o=s)&&sub o s).map .bl):=by
   refine (gA (h:=λo=>.bl (!decide (o=s)&&sub o s)) (λo _=>?_) (λo ho=>?_)).trans ?_
   ·simp [ev]
   ·rw [show ce [0] [some (.val (ofS s)),some (.val (ofR R))] (ofS o)=[some (.val (ofS o)),some (.val (ofS s))] from rfl]
    refine zm ?_ λ_=>aw (vs:=[.val (ofS s),.val (ofS o)]) (by simp [evA]) (rb n _ _ s o rfl rfl hs (by have:=c_ (g o ho);omega) (wP (g o ho)))
    simp [ev,xl 99]
   ·rw [List.map_map];rfl
  rw [e];rfl
 show cj (exs _ [.ret _] _)=_
 rw [aD,mD (v:=.bl (ndl s R))]
 ·rfl
 ·show ev (aa defs (n + 1)) (.blt .any [_]) [some (.val (ofS s)),some (.val (ofR R))]=_
  rw [cW ec,wD,j1]
  simp [ndl]
theorem lF (n:Nat) (R:List (List Int)) (g:∀ t ∈ R,cm t) (hl:R.length <= 60):∀ (xs kept:List (List Int)) (kk:Option MV),(∀ t ∈ xs,cm t)->kept.length + xs.length <= 60 ->
  ∃ kk',aY (λx ρ'=>exs (aa defs (n + 2)) cc (put ρ' 2 (.val x))) (xs.map ofS) [some (.val (ofR R)),some (.own (kept.map ofS)),kk]=.next [some (.val (ofR R)),some (.own ((xs.foldl (d4 R) kept).map ofS)),kk']
 | [],kept,kk,_,_=>⟨kk,rfl⟩
 | s::xs,kept,kk,h,hk=>by
  rw [List.map_cons,aY]
  rw [List.length_cons] at hk
  have en:=oS n s R (by have:=c_ (h s (.head _));omega) g (by omega)
  have e:exs (aa defs (n + 2)) cc (put [some (.val (ofR R)),some (.own (kept.map ofS)),kk] 2 (.val (ofS s)))=.next [some (.val (ofR R)),some (.own ((d4 R kept s).map ofS)),some (.val (ofS s))]:=by
   have hlt:kept.length < 10000:=by omega
   unfold d4
   by_cases q:s ∈ kept
   ·rw [if_neg (λz=>z.1 q)]
    simp [cc,exs,ex,ev,evs,evB,j2,q]
   ·cases hn:ndl s R with
    | true =>
     rw [hn] at en
     rw [if_neg (λz=>by cases z.2)]
     simp [cc,exs,ex,ev,evs,evA,evB,j2,q,en]
    | false =>
     rw [hn] at en
     rw [if_pos ⟨q,rfl⟩]
     simp [cc,exs,ex,ev,evs,evA,evB,j2,q,en,hlt]
  rw [e]
  have hlen:(d4 R kept s).length <= kept.length + 1:=by
   unfold d4
   split
   ·rw [List.length_append,List.length_singleton];omega
   ·omega
  exact lF n R g hl xs _ _ (λt ht=>h t (.tail _ ht)) (by omega)
theorem rg (n:Nat) (R:List (List Int)) (g:cF R):aa defs (n + 3) 16 [.val (ofR R)]=some (ofR (thin R)):=by
 rw [ay (d:=iL) rfl rfl]
 obtain ⟨kk',e⟩:=lF n R g.1 g.2.2 R [] none g.1 (by simpa using g.2.2)
 have hs:(evs (aa defs (n + 2)) [.bor 0] [some (.val (ofR R)),some (.own []),none]).bind (dg .seq)=some (R.map ofS):=by simp [evs,ev]
 show cj (exs (aa defs (n + 2)) (_::_::[_]) [some (.val (ofR R)),none,none])=_
 simp only [aD]
 rw [show ex (aa defs (n + 2)) (.setOwn 1 (.lst [])) [some (.val (ofR R)),none,none]=.next [some (.val (ofR R)),some (.own []),none] from by simp [ex,ev,evs],aE,jj hs]
 rw [List.map_nil] at e
 have e2:bc [.bor 0] [some (.val (ofR R)),some (.own []),none]=[some (.val (ofR R)),some (.own []),none]:=rfl
 rw [e2,e]
 simp [aP,exs,ex,ev,evs,thin]
theorem rh {A B:List (List Int)} (h:A.Sublist B):A.flatten.length <= B.flatten.length:=by
 induction h with
 | slnil=>exact Nat.le_refl _
 | cons a _ ih=>simp only [List.flatten_cons,List.length_append];omega
 | cons_cons a _ ih=>simp only [List.flatten_cons,List.length_append];omega
theorem wR {o s:List Int} (h:sub o s=true):∀ x ∈ o,x ∈ s:=by
 intro x hx
 unfold sub at h
 simpa using List.all_eq_true.mp h x hx
theorem uW {R:List (List Int)} (g:∀ t ∈ R,cm t):Dom R (thin R):=λs hs=>by
 obtain ⟨t,ht,h⟩:=kq g s.length s (Nat.le_refl _) hs
 exact ⟨t,ht,wR h⟩
theorem uX (R:List (List Int)):Dom (thin R) R:=λs hs=>⟨s,(ko.mp hs).1,λ_ h=>h⟩
theorem uY {R:List (List Int)} (g:∀ t ∈ R,cm t) (t:Bool):won (thin R) t=won R t:=by
 cases e:won R t with
 | false=>exact fI (uW g) e
 | true =>
  cases e2:won (thin R) t with
  | true=>rfl
  | false=>rw [fI (uX R) e2] at e;cases e
theorem fg.thin {R:List (List Int)} (s:fg R):fg (thin R):=⟨rf s.g,Nat.le_trans (rh (by have:=kn R R [];rwa [List.nil_append] at this)) s.f,Nat.le_trans (uK _ _ (iN (e_ _)) λx hx=>by
 obtain ⟨u,hu,hx⟩:=aV.mp hx
 exact aV.mpr ⟨u,(ko.mp hu).1,hx⟩) s.h⟩
theorem iR (n:Nat) (s:List Int) (c:Int):∀ (xs kept:List Int) (l:Int) (y:Option MV),kept.length + xs.length <= 100 ->
  ∃ u l' y',u.Sublist xs/\aY (λx ρ'=>exs (aa defs n) cV (put ρ' 4 (.val x))) (xs.map .int) [some (.val (ofS s)),some (.val (.int c)),some (.val (.int l)),some (.own (kept.map .int)),y]=.next [some (.val (ofS s)),some (.val (.int c)),some (.val (.int l')),some (.own ((kept ++ u).map .int)),y']
 | [],kept,l,y,_=>⟨[],l,y,.slnil,by rw [List.append_nil];rfl⟩
 | x::xs,kept,l,y,hl=>by
  rw [List.length_cons] at hl
  by_cases q:l % 3=1
  ·obtain ⟨u,l',y',h1,h2⟩:=iR n s c xs kept (l / 3) (some (.val (.int x))) (by omega)
   refine ⟨u,l',y',h1.cons x,?_⟩
   rw [List.map_cons,du,h2]
   simp [cV,exs,ex,ev,evB,put,q,i5]
  ·obtain ⟨u,l',y',h1,h2⟩:=iR n s c xs (kept ++ [x]) (l / 3) (some (.val (.int x))) (by rw [List.length_append,List.length_singleton];omega)
   refine ⟨x::u,l',y',h1.cons_cons x,?_⟩
   rw [List.map_cons,du,h2]
   ·rw [List.append_assoc];rfl
   ·have hk:kept.length < 10000:=by omega
    simp [cV,exs,ex,ev,evB,put,q,i5,hk]
theorem zt (n:Nat) (s:List Int) (hs:s.length <= 60) (c:Int):∃ u,u.Sublist s/\aa defs (n + 2) 21 [.val (ofS s),.val (.int c)]=some (ofS u):=by
 rw [ay (d:=gB) rfl rfl]
 have em:=mF n c 912559489304765219
 obtain ⟨u,l',y',h1,h2⟩:=iR (n + 1) s c s [] (bJ c 912559489304765219) none (by simp;omega)
 refine ⟨u,h1,?_⟩
 show cj (exs (aa defs (n + 1)) (_::_::.for1 _ _ _ _::[_]) [some (.val (ofS s)),some (.val (.int c)),none,none,none])=_
 refine fJ (aw (vs:=[.val (.int c),.val (.int 912559489304765219)]) (by simp [evA,ev]) em) ?_
 refine iQ (ρ':=[some (.val (ofS s)),some (.val (.int c)),some (.val (.int (bJ c 912559489304765219))),some (.own []),none]) (by simp [ex,ev,evs,put]) ?_
 refine iQ (ρ':=[some (.val (ofS s)),some (.val (.int c)),some (.val (.int l')),some (.own (([] ++ u).map .int)),y']) (by
  rw [jj (xs:=s.map .int) (by simp [evs,ev]),show bc [(.bor 0)] [some (.val (ofS s)),some (.val (.int c)),some (.val (.int (bJ c 912559489304765219))),some (.own []),none]=[some (.val (ofS s)),some (.val (.int c)),some (.val (.int (bJ c 912559489304765219))),some (.own []),none] from rfl]
  rw [show (some (MV.own []):Option MV)=some (MV.own (([]:List Int).map .int)) from rfl,h2]
  rfl) ?_
 refine uU ?_
 simp [ev,evs]
noncomputable def frK (R A:List (List Int)) (t w:Bool) (y:Option MV):Rho:=[some (.val (ofR R)),some (.val (ofR A)),some (.val (.str (af t))),some (.val (.str (af w))),y]
theorem rj (n:Nat) {R A:List (List Int)} (s:fg R) (t:Bool) {x:Int} (hx:x ∈ ae R) (y:Option MV):∃ y',exs (aa defs (n + 20)) eZ (put (frK R A t (won R t) y) 4 (.val (.int x)))=.next (frK R A t (won R t) y'):=by
 refine ⟨some (.val (.int x)),?_⟩
 have k1:=lA (n + 18) R x s.g
 have k2:=nN (n + 19) R x (by have:=s.g.2.2;omega)
 have s1:fg (fb x R):=s.move (t:=false) hx
 have s2:fg (dy x R):=s.move (t:=true) hx
 have t1:=eK (n + 2) (fb x R) t s1.g s1.f s1.h
 have t2:=eK (n + 2) (dy x R) t s2.g s2.f s2.h
 have w1:won R t=false->won (fb x R) t=false:=λe=>fI (kf x R) e
 have w2:won R t=true->won (dy x R) t=true:=λe=>by
  cases q:won (dy x R) t with
  | true=>rfl
  | false=>rw [fI (uP x R) q] at e;cases e
 show exs (aa defs (n + 20)) (.ite _ _ _::[.ite _ _ _]) (frK R A t (won R t) (some (.val (.int x))))=_
 have ea:ev (aa defs (n + 20)) (.call 13 [(.call 2 [(.bor 0),(.bor 4)]),(.bor 2)]) (frK R A t (won R t) (some (.val (.int x))))=some (.str (af (won (fb x R) t))):=aw (vs:=[.val (ofR (fb x R)),.val (.str (af t))]) (by
  have:=aw (cal:=aa defs (n + 20)) (f:=2) (es:=[(.bor 0),(.bor 4)]) (ρ:=frK R A t (won R t) (some (.val (.int x)))) (vs:=[.val (ofR R),.val (.int x)]) (by simp [evA,frK]) k1
  simp only [evA,this]
  rfl) t1
 have eb:ev (aa defs (n + 20)) (.call 13 [(.call 3 [(.bor 0),(.bor 4)]),(.bor 2)]) (frK R A t (won R t) (some (.val (.int x))))=some (.str (af (won (dy x R) t))):=aw (vs:=[.val (ofR (dy x R)),.val (.str (af t))]) (by
  have:=aw (cal:=aa defs (n + 20)) (f:=3) (es:=[(.bor 0),(.bor 4)]) (ρ:=frK R A t (won R t) (some (.val (.int x)))) (vs:=[.val (ofR R),.val (.int x)]) (by simp [evA,frK]) k2
  simp only [evA,this]
  rfl) t2
 have e3:ev (aa defs (n + 20)) (.bor 3) (frK R A t (won R t) (some (.val (.int x))))=some (.str (af (won R t))):=by rw [ev];rfl
 have c1:ev (aa defs (n + 20)) (.and (.cmp .eq (.bor 3) (.cst (.str "weaver"))) (.cmp .ne (.call 13 [(.call 2 [(.bor 0),(.bor 4)]),(.bor 2)]) (.cst (.str "weaver")))) (frK R A t (won R t) (some (.val (.int x))))=some (.bl false):=by
  have q1:=cI (op:=.eq) e3 (b_ (aa defs (n + 20)) (.str "weaver") (frK R A t (won R t) (some (.val (.int x)))))
  have q2:=cI (op:=.ne) ea (b_ (aa defs (n + 20)) (.str "weaver") (frK R A t (won R t) (some (.val (.int x)))))
  rw [ev,q1,q2]
  cases e:won R t with
  | false=>simp [w1 e,af,cA,i5]
  | true=>simp [af,cA]
 have c2:ev (aa defs (n + 20)) (.and (.cmp .eq (.bor 3) (.cst (.str "moth"))) (.cmp .ne (.call 13 [(.call 3 [(.bor 0),(.bor 4)]),(.bor 2)]) (.cst (.str "moth")))) (frK R A t (won R t) (some (.val (.int x))))=some (.bl false):=by
  have q1:=cI (op:=.eq) e3 (b_ (aa defs (n + 20)) (.str "moth") (frK R A t (won R t) (some (.val (.int x)))))
  have q2:=cI (op:=.ne) eb (b_ (aa defs (n + 20)) (.str "moth") (frK R A t (won R t) (some (.val (.int x)))))
  rw [ev,q1,q2]
  cases e:won R t with
  | true=>simp [w2 e,af,cA,i5]
  | false=>simp [af,cA]
 refine zq (ρ':=frK R A t (won R t) (some (.val (.int x)))) (by rw [ki c1,if_neg (by decide),exs]) ?_
 refine Bk (by rw [ki c2,if_neg (by decide),exs])
theorem zu (n:Nat) {R A:List (List Int)} (s:fg R) (sA:fg A) (d:Dom R A) (t:Bool):aa defs (n + 21) 23 [.val (ofR R),.val (ofR A),.val (.str (af t))]=some (.bl true):=by
 rw [ay (d:=gC) rfl rfl]
 have t1:=eK (n + 2) R t s.g s.f s.h
 have t2:=eK (n + 2) A t sA.g sA.f sA.h
 have t3:=eK (n + 2) (thin R) t s.thin.g s.thin.f s.thin.h
 rw [uY s.g.1] at t3
 have eh:=rg (n + 17) R s.g
 show cj (exs (aa defs (n + 20)) (.set 3 _::.ite _ _ _::.ite _ _ _::.for1 _ _ _ _::[_]) [some (.val (ofR R)),some (.val (ofR A)),some (.val (.str (af t))),none,none])=_
 refine fJ (aw (vs:=[.val (ofR R),.val (.str (af t))]) (by simp [evA]) t1) ?_
 have e3:ev (aa defs (n + 20)) (.bor 3) (frK R A t (won R t) none)=some (.str (af (won R t))):=by rw [ev];rfl
 refine iQ (ρ':=frK R A t (won R t) none) (by
  have q1:=cI (op:=.ne) e3 (b_ (aa defs (n + 20)) (.str "weaver") (frK R A t (won R t) none))
  have q2:=cI (op:=.ne) e3 (b_ (aa defs (n + 20)) (.str "moth") (frK R A t (won R t) none))
  have c:ev (aa defs (n + 20)) (.and (.cmp .ne (.bor 3) (.cst (.str "weaver"))) (.cmp .ne (.bor 3) (.cst (.str "moth")))) (frK R A t (won R t) none)=some (.bl false):=by
   rw [ev,q1,q2]
   cases won R t <;> simp [af,cA,i5]
  show ex (aa defs (n + 20)) _ (frK R A t (won R t) none)=_
  rw [ki c,if_neg (by decide),exs]) ?_
 refine iQ (ρ':=frK R A t (won R t) none) (by
  have ea:ev (aa defs (n + 20)) (.call 13 [(.bor 1),(.bor 2)]) (frK R A t (won R t) none)=some (.str (af (won A t))):=aw (vs:=[.val (ofR A),.val (.str (af t))]) (by simp [evA,frK]) t2
  have q1:=cI (op:=.eq) e3 (b_ (aa defs (n + 20)) (.str "weaver") (frK R A t (won R t) none))
  have q2:=cI (op:=.ne) ea (b_ (aa defs (n + 20)) (.str "weaver") (frK R A t (won R t) none))
  have c:ev (aa defs (n + 20)) (.and (.cmp .eq (.bor 3) (.cst (.str "weaver"))) (.cmp .ne (.call 13 [(.bor 1),(.bor 2)]) (.cst (.str "weaver")))) (frK R A t (won R t) none)=some (.bl false):=by
   rw [ev,q1,q2]
   cases e:won R t with
   | false=>simp [fI d e,af,cA,i5]
   | true=>simp [af,cA]
  rw [ki c,if_neg (by decide),exs]) ?_
 obtain ⟨ρ',⟨y',rfl⟩,e9⟩:=lE (g:=PV.int) (xs:=ae R) (body:=λx ρ'=>exs (aa defs (n + 20)) eZ (put ρ' 4 (.val x))) (I:=λρ=>∃ y,ρ=frK R A t (won R t) y) (ρ:=frK R A t (won R t) none) ⟨none,rfl⟩ (by
  rintro x hx ρ ⟨y,rfl⟩
  obtain ⟨y',e⟩:=rj n (A:=A) s t hx y
  exact ⟨_,⟨y',rfl⟩,e⟩)
 refine iQ (ρ':=frK R A t (won R t) y') (by
  rw [jj (xs:=(ae R).map PV.int) (by rw [evs,aw (vs:=[.val (ofR R)]) (by simp [evA,frK]) (wO (n + 19) R s.g.1)];simp [evs]),show bc [(.call 22 [(.bor 0)])] (frK R A t (won R t) none)=frK R A t (won R t) none from rfl,e9]
  rfl) ?_
 refine uU ?_
 have ea:ev (aa defs (n + 20)) (.call 13 [(.call 16 [(.bor 0)]),(.bor 2)]) (frK R A t (won R t) y')=some (.str (af (won R t))):=aw (vs:=[.val (ofR (thin R)),.val (.str (af t))]) (by
  have:=aw (cal:=aa defs (n + 20)) (f:=16) (es:=[(.bor 0)]) (ρ:=frK R A t (won R t) y') (vs:=[.val (ofR R)]) (by simp [evA,frK]) eh
  simp only [evA,this]
  rfl) t3
 rw [cI ea (show ev (aa defs (n + 20)) (.bor 3) (frK R A t (won R t) y')=some (.str (af (won R t))) from by rw [ev];rfl),mz,mB,beq_self_eq_true]
 rfl
theorem p5 {n:Nat}{ns:List Int}{i:Nat}{ρ:Rho}{D:List (List Int)}{sh:Int} (hi:(ρ[i]?).join=some (.val (.lst (D.map ofS)))) (hs:(ρ[3]?).join=some (.val (.int sh))) (hD:∀ t ∈ D,t.length <= 100) (hl:D.length < 64) :
  ev (aa defs n) (.blt .tupleOf [(.blt .sorted [(.comp .seq [(.bor i)] [3] (.cst (.bl true)) (.blt .tupleOf [(.comp .seq [(.bor 0)] [1] (.cst (.bl true)) (.bin .add (.bor 0) (.bor 1)))]))])]) ρ=some (ofR (sortT (D.map λt=>t.map λx=>x + sh))):=by
 refine (cW (v:=.lst ((sortT (D.map λt=>t.map λx=>x + sh)).map ofS)) ?_).trans rfl
 have e1:ev (aa defs n) (.comp .seq [(.bor i)] [3] (.cst (.bl true)) (.blt .tupleOf [(.comp .seq [(.bor 0)] [1] (.cst (.bl true)) (.bin .add (.bor 0) (.bor 1)))])) ρ=some (.lst ((D.map λt=>t.map λx=>x + sh).map ofS)):=by
  rw [List.map_map]
  refine ic (vs:=[.lst (D.map ofS)]) (g:=ofS) (h:=ofS ∘ λt=>t.map λx=>x + sh) (by simp [evs,ev,hi]) (by simp) (by omega) λt ht=>?_
  refine (cW (v:=.lst (t.map λx=>.int (x + sh))) ?_).trans (by show some (PV.tup _)=some (PV.tup _);rw [List.map_map];rfl)
  exact ic (vs:=[ofS t]) (g:=PV.int) (by simp [evs,ev,ce]) (by simp) (by have:=hD t ht;omega) λx _=>by simp [ev,ce,hs]
 rw [cW e1,oP,pS,Option.bind_some,lz (by rw [List.length_map];omega)]
theorem uZ (ns:List Int) (hl:ns.length <= 63):aa defs 40 24 [.brw (ns.map .int)]=some (.bl true):=by
 rw [ay (d:=pT) rfl rfl]
 have ec:∀ (r:Rho),ev (aa defs 39) (.call 17 [(.bor 0),(.cst (.int 0))]) (some (.brw (ns.map .int))::r)=some (.int (cellOf ns 0)):=λr=>aw (vs:=[.brw (ns.map .int),.val (.int 0)]) (by simp [evA,ev]) (uS 38 (.brw (ns.map .int)) ns 0 rfl (by decide))
 generalize cellOf ns 0=z at ec
 obtain ⟨a,ha⟩:∃ a,a=z % 9:=⟨_,rfl⟩
 obtain ⟨sh,hsh⟩:∃ a,a=z / 36 % 55:=⟨_,rfl⟩
 have a0:0 <= a/\a <= 8:=by omega
 have s0:0 <= sh/\sh <= 54:=by omega
 obtain ⟨many,m0,hm⟩:∃ many:Int,(3 <= many/\many <= 5)/\jN (.lst [.int 4,.int 5,.int 3,.int 5]) (.int (z / 9 % 4))=some (.int many):=by
  have:z / 9 % 4=0 \/ z / 9 % 4=1 \/ z / 9 % 4=2 \/ z / 9 % 4=3:=by omega
  rcases this with h|h|h|h <;> rw [h]
  ·exact ⟨4,by decide,rfl⟩
  ·exact ⟨5,by decide,rfl⟩
  ·exact ⟨3,by decide,rfl⟩
  ·exact ⟨5,by decide,rfl⟩
 have hsome:=λc=>zp 36 c many (by omega) (by omega)
 obtain ⟨f,hf⟩:∃ f:Int->List Int,∀ c,InS many (f c)/\aa defs 39 20 [.val (.int c),.val (.int many)]=some (ofS (f c)):=⟨λc=>Classical.choose (hsome c),λc=>Classical.choose_spec (hsome c)⟩
 have eC:∀ (y:Option MV) (q:Option MV),ev (aa defs 39) (.slice (.bor 0) (.cst (.int 1)) (.bin .add (.cst (.int 1)) (.bor 1))) [some (.brw (ns.map .int)),some (.val (.int a)),y,q,none,none,none,none]=some (ofL (fh ns (some 1) (some (1 + a)))):=λy q=>by simp [ev,bnd]
 have hC:(fh ns (some 1) (some (1 + a))).length <= 8:=by
  have:=j5 ns (a:=1) (b:=1 + a) (by decide) (by omega)
  omega
 generalize fh ns (some 1) (some (1 + a))=C at eC hC
 have eD:ev (aa defs 39) (.comp .seq [(.slice (.bor 0) (.cst (.int 1)) (.bin .add (.cst (.int 1)) (.bor 1)))] [2] (.cst (.bl true)) (.call 20 [(.bor 0),(.bor 1)])) [some (.brw (ns.map .int)),some (.val (.int a)),some (.val (.int many)),some (.val (.int sh)),none,none,none,none]=some (.lst ((C.map f).map ofS)):=by
  rw [List.map_map]
  refine ic (vs:=[ofL C]) (g:=PV.int) (h:=ofS ∘ f) (by rw [evs,eC];simp [evs]) (by simp) (by omega) λc _=>?_
  exact aw (vs:=[.val (.int c),.val (.int many)]) (by simp [evA,ce]) (hf c).2
 have hD:∀ t ∈ C.map f,InS many t:=λt ht=>by
  obtain ⟨c,_,rfl⟩:=List.mem_map.mp ht
  exact (hf c).1
 have hDl:(C.map f).length <= 8:=by rw [List.length_map];exact hC
 generalize C.map f=D at eD hD hDl
 have eE:ev (aa defs 39) (.slice (.bor 0) (.bin .add (.cst (.int 1)) (.bor 1)) (.cst .non)) [some (.brw (ns.map .int)),some (.val (.int a)),some (.val (.int many)),some (.val (.int sh)),some (.val (.lst (D.map ofS))),none,none,none]=some (ofL (fh ns (some (1 + a)) none)):=by simp [ev,bnd]
 generalize fh ns (some (1 + a)) none=E at eE
 have hg0:∀ k:Nat,∃ u,u.Sublist (D.getD k [])/\aa defs 39 21 [.val (ofS (D.getD k [])),.val (.int (cellOf E k))]=some (ofS u):=λk=>zt 37 _ (by
  by_cases h:k < D.length
  ·rw [List.getD_eq_getElem?_getD,List.getElem?_eq_getElem h,Option.getD_some]
   have:=(hD _ (List.getElem_mem h)).2.2
   omega
  ·rw [List.getD_eq_getElem?_getD,List.getElem?_eq_none (by omega)]
   exact Nat.zero_le _) _
 obtain ⟨g,hg⟩:∃ g:Nat->List Int,∀ k,(g k).Sublist (D.getD k [])/\aa defs 39 21 [.val (ofS (D.getD k [])),.val (.int (cellOf E k))]=some (ofS (g k)):=⟨λk=>Classical.choose (hg0 k),λk=>Classical.choose_spec (hg0 k)⟩
 have eU:ev (aa defs 39) (.comp .rng [(.blt .len [(.bor 4)])] [4,5] (.cst (.bl true)) (.call 21 [(.idx (.bor 1) (.bor 0)),(.call 17 [(.bor 2),(.bor 0)])])) [some (.brw (ns.map .int)),some (.val (.int a)),some (.val (.int many)),some (.val (.int sh)),some (.val (.lst (D.map ofS))),some (.val (ofL E)),none,none]=some (.lst (((List.range D.length).map g).map ofS)):=by
  rw [List.map_map]
  have e1:ev (aa defs 39) (.blt .len [(.bor 4)]) [some (.brw (ns.map .int)),some (.val (.int a)),some (.val (.int many)),some (.val (.int sh)),some (.val (.lst (D.map ofS))),some (.val (ofL E)),none,none]=some (.int (D.length:Int)):=by
   rw [cW (v:=.lst (D.map ofS)) (by simp [ev])]
   simp
  refine ic (vs:=[.int (D.length:Int)]) (xs:=List.range D.length) (g:=λk:Nat=>PV.int (k:Int)) (h:=ofS ∘ g) (by rw [evs,e1];rfl) (by rw [j3 (by omega) (by omega),Int.toNat_natCast]) (by rw [List.length_range];omega) λk hk=>?_
  have hk':k < D.length:=List.mem_range.mp hk
  have i1:ev (aa defs 39) (.idx (.bor 1) (.bor 0)) (ce [4,5] [some (.brw (ns.map .int)),some (.val (.int a)),some (.val (.int many)),some (.val (.int sh)),some (.val (.lst (D.map ofS))),some (.val (ofL E)),none,none] (.int (k:Int)))=some (ofS (D.getD k [])):=by
   rw [uH (x:=.lst (D.map ofS)) (y:=.int (k:Int)) (by simp [ev,ce]) (by simp [ev,ce])]
   simp [place,hk',List.getD_eq_getElem?_getD]
  have i2:ev (aa defs 39) (.call 17 [(.bor 2),(.bor 0)]) (ce [4,5] [some (.brw (ns.map .int)),some (.val (.int a)),some (.val (.int many)),some (.val (.int sh)),some (.val (.lst (D.map ofS))),some (.val (ofL E)),none,none] (.int (k:Int)))=some (.int (cellOf E k)):=aw (vs:=[.val (ofL E),.val (.int (k:Int))]) (by simp [evA,ce]) (uS 38 (.val (ofL E)) E k rfl (by omega))
  exact aw (vs:=[.val (ofS (D.getD k [])),.val (.int (cellOf E k))]) (by simp only [evA,i1,i2];rfl) (hg k).2
 have hU:∀ t ∈ (List.range D.length).map g,InS many t:=λt ht=>by
  obtain ⟨k,hk,rfl⟩:=List.mem_map.mp ht
  have hk':k < D.length:=List.mem_range.mp hk
  have s:=(hg k).1
  rw [List.getD_eq_getElem?_getD,List.getElem?_eq_getElem hk',Option.getD_some] at s
  have i:=hD _ (List.getElem_mem hk')
  exact ⟨i.1.sublist s,λx hx=>i.2.1 x (s.mem hx),Nat.le_trans s.length_le i.2.2⟩
 have dU:Dom D ((List.range D.length).map g):=λt ht=>by
  obtain ⟨k,hk,e⟩:=List.mem_iff_getElem.mp ht
  have s:=(hg k).1
  rw [List.getD_eq_getElem?_getD,List.getElem?_eq_getElem hk,Option.getD_some,e] at s
  exact ⟨g k,List.mem_map.mpr ⟨k,List.mem_range.mpr hk,rfl⟩,λx hx=>s.mem hx⟩
 have hUl:((List.range D.length).map g).length <= 8:=by rw [List.length_map,List.length_range];exact hDl
 generalize (List.range D.length).map g=U at eU hU dU hUl
 have eV:ev (aa defs 39) (.bin .add (.bor 6) (.comp .seq [(.slice (.bor 5) (.blt .len [(.bor 4)]) (.bin .add (.blt .len [(.bor 4)]) (.cst (.int 12))))] [2] (.cst (.bl true)) (.call 20 [(.bor 0),(.bor 1)]))) [some (.brw (ns.map .int)),some (.val (.int a)),some (.val (.int many)),some (.val (.int sh)),some (.val (.lst (D.map ofS))),some (.val (ofL E)),some (.val (.lst (U.map ofS))),none]=some (.lst ((U ++ (fh E (some (D.length:Int)) (some ((D.length:Int) + 12))).map f).map ofS)):=by
  have hlV:(fh E (some (D.length:Int)) (some ((D.length:Int) + 12))).length <= 12:=by
   have:=j5 E (a:=(D.length:Int)) (b:=(D.length:Int) + 12) (by omega) (by omega)
   omega
  have e1:ev (aa defs 39) (.slice (.bor 5) (.blt .len [(.bor 4)]) (.bin .add (.blt .len [(.bor 4)]) (.cst (.int 12)))) [some (.brw (ns.map .int)),some (.val (.int a)),some (.val (.int many)),some (.val (.int sh)),some (.val (.lst (D.map ofS))),some (.val (ofL E)),some (.val (.lst (U.map ofS))),none]=some (ofL (fh E (some (D.length:Int)) (some ((D.length:Int) + 12)))):=by simp [ev,evs,bnd]
  have e2:ev (aa defs 39) (.comp .seq [(.slice (.bor 5) (.blt .len [(.bor 4)]) (.bin .add (.blt .len [(.bor 4)]) (.cst (.int 12))))] [2] (.cst (.bl true)) (.call 20 [(.bor 0),(.bor 1)])) [some (.brw (ns.map .int)),some (.val (.int a)),some (.val (.int many)),some (.val (.int sh)),some (.val (.lst (D.map ofS))),some (.val (ofL E)),some (.val (.lst (U.map ofS))),none]=some (.lst (((fh E (some (D.length:Int)) (some ((D.length:Int) + 12))).map f).map ofS)):=by
   rw [List.map_map]
   refine ic (vs:=[ofL (fh E (some (D.length:Int)) (some ((D.length:Int) + 12)))]) (g:=PV.int) (h:=ofS ∘ f) (by rw [evs,e1];simp [evs]) (by simp) (by omega) λc _=>?_
   exact aw (vs:=[.val (.int c),.val (.int many)]) (by simp [evA,ce]) (hf c).2
  rw [fG (x:=.lst (U.map ofS)) (by simp [ev]) e2,pR,if_pos (by simp only [List.length_map];omega),List.map_append]
 have hV:∀ t ∈ U ++ (fh E (some (D.length:Int)) (some ((D.length:Int) + 12))).map f,InS many t:=λt ht=>by
  rcases List.mem_append.mp ht with ht|ht
  ·exact hU t ht
  ·obtain ⟨c,_,rfl⟩:=List.mem_map.mp ht
   exact (hf c).1
 have hVl:(U ++ (fh E (some (D.length:Int)) (some ((D.length:Int) + 12))).map f).length <= 20:=by
  have:=j5 E (a:=(D.length:Int)) (b:=(D.length:Int) + 12) (by omega) (by omega)
  rw [List.length_append,List.length_map]
  omega
 have dV:Dom D (U ++ (fh E (some (D.length:Int)) (some ((D.length:Int) + 12))).map f):=λt ht=>by
  obtain ⟨u,hu,h⟩:=dU t ht
  exact ⟨u,List.mem_append_left _ hu,h⟩
 generalize U ++ (fh E (some (D.length:Int)) (some ((D.length:Int) + 12))).map f=V at eV hV hVl dV
 have sR:=kj hD (by omega) m0.2 s0.1 s0.2
 have sA:=kj hV hVl m0.2 s0.1 s0.2
 have dA:Dom (sortT (D.map λt=>t.map λx=>x + sh)) (sortT (V.map λt=>t.map λx=>x + sh)):=λt ht=>by
  obtain ⟨u,hu,rfl⟩:=List.mem_map.mp (c9.mp ht)
  obtain ⟨v,hv,h⟩:=dV u hu
  refine ⟨v.map λx=>x + sh,c9.mpr (List.mem_map.mpr ⟨v,hv,rfl⟩),λx hx=>?_⟩
  obtain ⟨y,hy,rfl⟩:=List.mem_map.mp hx
  exact List.mem_map.mpr ⟨y,h y hy,rfl⟩
 have eR:=p5 (n:=39) (ns:=ns) (i:=4) (ρ:=[some (.brw (ns.map .int)),some (.val (.int a)),some (.val (.int many)),some (.val (.int sh)),some (.val (.lst (D.map ofS))),some (.val (ofL E)),some (.val (.lst (V.map ofS))),none]) (D:=D) (sh:=sh) rfl rfl (λt ht=>by have:=(hD t ht).2.2;omega) (by omega)
 have eA:=p5 (n:=39) (ns:=ns) (i:=6) (ρ:=[some (.brw (ns.map .int)),some (.val (.int a)),some (.val (.int many)),some (.val (.int sh)),some (.val (.lst (D.map ofS))),some (.val (ofL E)),some (.val (.lst (V.map ofS))),some (.val (ofR (sortT (D.map λt=>t.map λx=>x + sh))))]) (D:=V) (sh:=sh) rfl rfl (λt ht=>by have:=(hV t ht).2.2;omega) (by omega)
 generalize sortT (D.map λt=>t.map λx=>x + sh)=R at eR eA sR dA
 generalize sortT (V.map λt=>t.map λx=>x + sh)=A at eA sA dA
 show cj (exs (aa defs 39) (.set 1 _::.set 2 _::.set 3 _::.set 4 _::.set 5 _::.set 6 _::.set 6 _::.set 7 _::.set 6 _::.ite _ _ _::[_]) [some (.brw (ns.map .int)),none,none,none,none,none,none,none])=_
 refine fJ (v:=.int a) (by rw [fG (ec _) (b_ _ _ _),hZ,if_pos (by decide),ha]) ?_
 refine fJ (v:=.int many) (by
  rw [uH (x:=.lst [.int 4,.int 5,.int 3,.int 5]) (y:=.int (z / 9 % 4)) (by simp [ev,evs]) (by
   rw [show put [some (.brw (ns.map .int)),none,none,none,none,none,none,none] 1 (.val (.int a))=some (.brw (ns.map .int))::[some (.val (.int a)),none,none,none,none,none,none] from rfl,fG (pV (ec _) (by decide)) (b_ _ _ _),hZ,if_pos (by decide)])]
  exact hm) ?_
 refine fJ (v:=.int sh) (by rw [show put (put [some (.brw (ns.map .int)),none,none,none,none,none,none,none] 1 (.val (.int a))) 2 (.val (.int many))=some (.brw (ns.map .int))::[some (.val (.int a)),some (.val (.int many)),none,none,none,none,none] from rfl,fG (pV (ec _) (by decide)) (b_ _ _ _),hZ,if_pos (by decide),hsh]) ?_
 refine fJ eD ?_
 refine fJ eE ?_
 refine fJ eU ?_
 refine fJ eV ?_
 refine fJ eR ?_
 refine fJ eA ?_
 have kp:∀ t:Bool,ev (aa defs 39) (.not (.call 23 [(.bor 7),(.bor 6),(.cst (.str (af t)))])) [some (.brw (ns.map .int)),some (.val (.int a)),some (.val (.int many)),some (.val (.int sh)),some (.val (.lst (D.map ofS))),some (.val (ofL E)),some (.val (ofR A)),some (.val (ofR R))]=some (.bl false):=λt=>by
  have:=aw (cal:=aa defs 39) (f:=23) (es:=[(.bor 7),(.bor 6),(.cst (.str (af t)))]) (ρ:=[some (.brw (ns.map .int)),some (.val (.int a)),some (.val (.int many)),some (.val (.int sh)),some (.val (.lst (D.map ofS))),some (.val (ofL E)),some (.val (ofR A)),some (.val (ofR R))]) (vs:=[.val (ofR R),.val (ofR A),.val (.str (af t))]) (by simp [evA,ev]) (zu 18 sR sA dA t)
  rw [ev,this]
  rfl
 have k1:=kp false
 have k2:=kp true
 refine iQ (ρ':=[some (.brw (ns.map .int)),some (.val (.int a)),some (.val (.int many)),some (.val (.int sh)),some (.val (.lst (D.map ofS))),some (.val (ofL E)),some (.val (ofR A)),some (.val (ofR R))]) (by
  have c:ev (aa defs 39) (.or (.not (.call 23 [(.bor 7),(.bor 6),(.cst (.str "weaver"))])) (.not (.call 23 [(.bor 7),(.bor 6),(.cst (.str "moth"))]))) [some (.brw (ns.map .int)),some (.val (.int a)),some (.val (.int many)),some (.val (.int sh)),some (.val (.lst (D.map ofS))),some (.val (ofL E)),some (.val (ofR A)),some (.val (ofR R))]=some (.bl false):=by
   rw [ev,show ev (aa defs 39) (.not (.call 23 [(.bor 7),(.bor 6),(.cst (.str "weaver"))])) _=some (.bl false) from k1,show ev (aa defs 39) (.not (.call 23 [(.bor 7),(.bor 6),(.cst (.str "moth"))])) _=some (.bl false) from k2]
   rfl
  show ex (aa defs 39) _ [some (.brw (ns.map .int)),some (.val (.int a)),some (.val (.int many)),some (.val (.int sh)),some (.val (.lst (D.map ofS))),some (.val (ofL E)),some (.val (ofR A)),some (.val (ofR R))]=_
  rw [ki c,if_neg (by decide),exs]) ?_
 refine uU ?_
 have tr:∀ t:Bool,ev (aa defs 39) (.cmp .eq (.call 13 [(.bor 7),(.cst (.str (af t)))]) (.cst (.str (af t)))) [some (.brw (ns.map .int)),some (.val (.int a)),some (.val (.int many)),some (.val (.int sh)),some (.val (.lst (D.map ofS))),some (.val (ofL E)),some (.val (ofR A)),some (.val (ofR R))]=some (.bl (won R t == t)):=λt=>by
  rw [cI (aw (vs:=[.val (ofR R),.val (.str (af t))]) (by simp [evA,ev]) (eK 21 R t sR.g sR.f sR.h)) (b_ _ _ _),mz,mB,mE]
  rfl
 rw [ev,show ev (aa defs 39) (.cmp .eq (.call 13 [(.bor 7),(.cst (.str "moth"))]) (.cst (.str "moth"))) _=some (.bl (won R true == true)) from tr true,show ev (aa defs 39) (.cmp .eq (.call 13 [(.bor 7),(.cst (.str "weaver"))]) (.cst (.str "weaver"))) _=some (.bl (won R false == false)) from tr false]
 cases e:won R true with
 | true=>rfl
 | false=>rw [uR e];rfl
noncomputable def top (i:Nat):Stmt:=PySem.Challenge.pw_mothloom_k52_more_never_harms.main.body.getD i (.Pass ⟨0,0,0,0⟩)
theorem zv {l:PySem.W.OpenLaw}{w:World}{K:PySem.W.Frag}{h:Heap}{mg:Str->Option Value}{fa:Addr} (X:K.In h) (G:h.Ns mainGlobals mg) (hfa:mg "law"=some (.ref fa))
  (h0:HD K "members_of" (top 4) cR) (h1:HD K "strip_without" (top 5) b6) (h2:HD K "knotted" (top 6) fM) (h3:HD K "bitten" (top 7) h_) (h4:HD K "holes_of" (top 8) eW) (h5:HD K "is_whole" (top 9) eX) (h6:HD K "is_bare" (top 10) eI) (h7:HD K "other_hand" (top 12) cT) (h8:HD K "behind" (top 13) fF) (h9:HD K "can_be_tried" (top 16) dq) (h10:HD K "check_size" (top 17) cU) (h11:HD K "winning_hole" (top 18) dt) (h12:HD K "winner_known" (top 19) aI) (h13:HD K "winner_by_trying" (top 20) b9) (h14:HD K "has_all" (top 22) fN) (h15:HD K "is_needless" (top 23) dZ) (h16:HD K "thinned" (top 24) iL) (h17:HD K "_law_cell" (top 26) eY) (h18:HD K "_law_mixed" (top 27) dL) (h19:HD K "_law_strip" (top 28) dM) (h20:HD K "_law_some_strip" (top 29) cw) (h21:HD K "_law_less" (top 30) gB) (h22:HD K "_law_holes" (top 31) dO) (h23:HD K "_law_kept" (top 32) gC) (h24:HD K "law" (top 33) pT λfd=>∀ (s:Shared) (v:Value),BindsTo s fd ⟨[v],[]⟩ [("script",v)])
  (zs:∀ x ∈ gZ,PySem.W.nsIn K mainGlobals x=some none)
  {gv0:Value} (g0:PySem.W.nsIn K mainGlobals "MOST_TRIED"=some (some gv0)) (r0:ak (toV (.int 6)) gv0)
 :∃ fd:FuncData,(∀ (s:Shared) (v:Value),BindsTo s fd ⟨[v],[]⟩ [("script",v)])/\∀ base:Heap,K.In base->base.Ns mainGlobals mg->dQ l.prog w K mg base CX0 40 fa fd ["script"] (spM K (aa defs 40) 24):=by
 obtain ⟨_,e0,D0,q0⟩:=aL (T:=tab) X G h0 (by kernel_rfl)
 obtain ⟨_,e1,D1,q1⟩:=aL (T:=tab) X G h1 (by kernel_rfl)
 obtain ⟨_,e2,D2,q2⟩:=aL (T:=tab) X G h2 (by kernel_rfl)
 obtain ⟨_,e3,D3,q3⟩:=aL (T:=tab) X G h3 (by kernel_rfl)
 obtain ⟨_,e4,D4,q4⟩:=aL (T:=tab) X G h4 (by kernel_rfl)
 obtain ⟨_,e5,D5,q5⟩:=aL (T:=tab) X G h5 (by kernel_rfl)
 obtain ⟨_,e6,D6,q6⟩:=aL (T:=tab) X G h6 (by kernel_rfl)
 obtain ⟨_,e7,D7,q7⟩:=aL (T:=tab) X G h7 (by kernel_rfl)
 obtain ⟨_,e8,D8,q8⟩:=aL (T:=tab) X G h8 (by kernel_rfl)
 obtain ⟨_,e9,D9,q9⟩:=aL (T:=tab) X G h9 (by kernel_rfl)
 obtain ⟨_,e10,D10,q10⟩:=aL (T:=tab) X G h10 (by kernel_rfl)
 obtain ⟨_,e11,D11,q11⟩:=aL (T:=tab) X G h11 (by kernel_rfl)
 obtain ⟨_,e12,D12,q12⟩:=aL (T:=tab) X G h12 (by kernel_rfl)
 obtain ⟨_,e13,D13,q13⟩:=aL (T:=tab) X G h13 (by kernel_rfl)
 obtain ⟨_,e14,D14,q14⟩:=aL (T:=tab) X G h14 (by kernel_rfl)
 obtain ⟨_,e15,D15,q15⟩:=aL (T:=tab) X G h15 (by kernel_rfl)
 obtain ⟨_,e16,D16,q16⟩:=aL (T:=tab) X G h16 (by kernel_rfl)
 obtain ⟨_,e17,D17,q17⟩:=aL (T:=tab) X G h17 (by kernel_rfl)
 obtain ⟨_,e18,D18,q18⟩:=aL (T:=tab) X G h18 (by kernel_rfl)
 obtain ⟨_,e19,D19,q19⟩:=aL (T:=tab) X G h19 (by kernel_rfl)
 obtain ⟨_,e20,D20,q20⟩:=aL (T:=tab) X G h20 (by kernel_rfl)
 obtain ⟨_,e21,D21,q21⟩:=aL (T:=tab) X G h21 (by kernel_rfl)
 obtain ⟨_,e22,D22,q22⟩:=aL (T:=tab) X G h22 (by kernel_rfl)
 obtain ⟨_,e23,D23,q23⟩:=aL (T:=tab) X G h23 (by kernel_rfl)
 obtain ⟨_,e24,D24,q24⟩:=aL (T:=tab) X G h24 (by kernel_rfl)
 cases hfa.symm.trans D24.named
 have pr:y0 tab K mg defs:=by
  refine ⟨rfl,⟨⟨_,_,_,D0,_,D0.binds,.nil⟩,⟨_,_,_,D1,_,D1.binds,.nil⟩,⟨_,_,_,D2,_,D2.binds,.nil⟩,⟨_,_,_,D3,_,D3.binds,.nil⟩,⟨_,_,_,D4,_,D4.binds,.nil⟩,⟨_,_,_,D5,_,D5.binds,.nil⟩,⟨_,_,_,D6,_,D6.binds,.nil⟩,⟨_,_,_,D7,_,D7.binds,.nil⟩,⟨_,_,_,D8,_,D8.binds,.nil⟩,⟨_,_,_,D9,_,D9.binds,.nil⟩,⟨_,_,_,D10,_,D10.binds,.nil⟩,⟨_,_,_,D11,_,D11.binds,.nil⟩,⟨_,_,_,D12,_,D12.binds,.nil⟩,⟨_,_,_,D13,_,D13.binds,.nil⟩,⟨_,_,_,D14,_,D14.binds,.nil⟩,⟨_,_,_,D15,_,D15.binds,.nil⟩,⟨_,_,_,D16,_,D16.binds,.nil⟩,⟨_,_,_,D17,_,D17.binds,.nil⟩,⟨_,_,_,D18,_,D18.binds,.nil⟩,⟨_,_,_,D19,_,D19.binds,.nil⟩,⟨_,_,_,D20,_,D20.binds,.nil⟩,⟨_,_,_,D21,_,D21.binds,.nil⟩,⟨_,_,_,D22,_,D22.binds,.nil⟩,⟨_,_,_,D23,_,D23.binds,.nil⟩,⟨_,_,_,D24,_,D24.binds,.nil⟩,trivial⟩,λx hx=>PySem.W.mg_none_of X G (zs x hx),λp hp=>?_⟩
  ·simp only [tab,List.mem_cons,List.not_mem_nil,or_false] at hp
   rcases hp with rfl
   ·exact ⟨_,PySem.W.mg_of X G g0,r0⟩
 exact ⟨e24,q24,λbase _ _=>A2 (by decide) pr 40 24 pT rfl _ _ _ D24⟩
theorem Cd {l:PySem.W.OpenLaw}{q:Program}{loose:List Str}{XP:(Str->Option Value)->Heap->Prop}{YP:World->Heap->Prop}{d:DefRec}{K:Params->PySem.W.Frag} (hn:l.most=some 63) (hdf:d.params.defaults=[])
  (hY:∀ (w:World) (h:Heap),YP w h->(K w.params).In h)
  (F:∀ (w:World) (mg:Str->Option Value) (fa:Addr) (h:Heap),(K w.params).In h->h.Ns mainGlobals mg->mg d.name=some (.ref fa) ->
   ∃ fd:FuncData,(∀ (s:Shared) (u:Value),BindsTo s fd ⟨[u],[]⟩ [("script",u)])/\∀ base:Heap,(K w.params).In base->base.Ns mainGlobals mg->dQ l.prog w (K w.params) mg base CX0 40 fa fd ["script"] (spM (K w.params) (aa defs 40) 24)) :
  PySem.W.WalkO q loose XP YP l.row.toRowW d [] (λf vs=>PySem.call f vs) :=
 L2.vC (n:=63) (k:=40) (x:="script") (CX:=λ_=>CX0) (sp:=λw=>spM (K w.params) (aa defs 40) 24) hn (by decide) hdf ⟨rfl,by decide,by decide⟩ hY F (λ_ _ a ns hl _ hS=>y2 (uZ ns hl) hS) λ_ _ _ _ _ z=>z
end My
open PySem PySem.W PyProof.Rows
set_option maxRecDepth 100000 in
set_option maxHeartbeats 0 in
theorem PySem.Challenge.cw_mothloom_k52_more_never_harms_holds : PySem.Challenge.rw_mothloom_k52_more_never_harms.Holds := by
 w_on;o_law;k_head;(case hw=>w_witness2)
 k_fill
 refine My.Cd (l:=PySem.Challenge.rw_mothloom_k52_more_never_harms) rfl rfl (λw h Y=>PySem.W.kIn_of Y) ?F
 case F =>
  intro w mg fa h KX G hmg
  refine' My.zv KX G hmg ?h0 ?h1 ?h2 ?h3 ?h4 ?h5 ?h6 ?h7 ?h8 ?h9 ?h10 ?h11 ?h12 ?h13 ?h14 ?h15 ?h16 ?h17 ?h18 ?h19 ?h20 ?h21 ?h22 ?h23 ?h24 ?zs ?gq0 ?rq0
  (case h0|h4|h5|h6|h7|h9|h10|h16|h22=>refine' ⟨rfl,_,_,?ka,.mk' (d0:=.none) ?kl ?kc ?kk,MM.bn1 λ_=>rfl,trivial⟩;(case ka=>k_is);(case kl=>k_is);(case kc=>k_is);(case kk=>k_is))
  (case h1|h2|h3|h13|h14|h15|h17|h18|h20|h21=>refine' ⟨rfl,_,_,?ka,.mk' (d0:=.none) ?kl ?kc ?kk,MM.bn2 λ_ _=>rfl,trivial⟩;(case ka=>k_is);(case kl=>k_is);(case kc=>k_is);(case kk=>k_is))
  (case h8|h11|h12|h19|h23=>refine' ⟨rfl,_,_,?ka,.mk' (d0:=.none) ?kl ?kc ?kk,MM.bn3 λ_ _ _=>rfl,trivial⟩;(case ka=>k_is);(case kl=>k_is);(case kc=>k_is);(case kk=>k_is))
  (case h24=>refine' ⟨rfl,_,_,?ka,.mk' (d0:=.none) ?kl ?kc ?kk,MM.bn1 λ_=>rfl,λs v=>.of_eq rfl⟩;(case ka=>k_is);(case kl=>k_is);(case kc=>k_is);(case kk=>k_is))
  (case zs=>intro x hx;simp only [MM.gZ,List.mem_cons,List.not_mem_nil,or_false] at hx;rcases hx with rfl|rfl|rfl|rfl|rfl|rfl|rfl|rfl|rfl|rfl|rfl|rfl|rfl|rfl|rfl|rfl|rfl <;> k_is)
  (case gq0=>k_is);(case rq0=>exact ⟨_,rfl⟩)
