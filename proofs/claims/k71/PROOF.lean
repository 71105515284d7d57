import PyProof.Rows.All
import Wide.All
import OpenK.AllK
import Wide.FinOn
import Lean
import PyProof.EqAt
import PyProof.EqKinds
import PyProof.TupleCall
import PyProof.ZipIter
import KE.KIntText
import PySem.Challenge.RW_mothloom_k71_deep_papers
set_option Elab.async false
set_option linter.all false
set_option maxRecDepth 100000
set_option genSizeOf false
set_option backward.eqns.nonrecursive false
set_option bootstrap.genMatcherCode false
def ek:=@Bool.and_eq_true_iff
def kx:=@PySem.wpAny_bind
def l0:=@Option.bind_eq_some_iff
def mu:=@PySem.Heap.get?_push_of_some
def n4:=@Bool.and_eq_true
def ow:=@Bool.false_ne_true
def pb:=@PySem.wpAny_pure
def pf:=@Option.map_eq_some_iff
def ro:=@PySem.Heap.get?_push_size
def u3:=@List.size_toArray
def vl:=@PySem.Heap.lt_size
def vr:=@Nat.le_refl
def wh:=@Option.some.injEq
def y1:=@List.mem_cons
def D2:=@List.getElem?_eq_some_iff
def FU:=@Nat.lt_of_lt_of_le
def FV:=@Option.some.inj
def FW:=@beq_iff_eq
def FX:=@Nat.ne_of_lt
def FY:=@List.length_map
def FZ:=@List.length_append
def F0:=@List.map_cons
def F1:=@List.getElem?_set_ne
def F2:=@Bool.not_eq_true'
def F4:=@List.not_mem_nil
def F5:=@List.getElem?_eq_getElem
def F6:=@List.mem_singleton
def F7:=@PySem.Heap.size_push
def F8:=@PySem.wpAny_mono
def F9:=@PySem.Heap.SameBut.update
def Ga:=@List.getElem?_map
def Gb:=@PySem.wpAny_loadPart'
def Ge:=@PySem.Heap.get?_update_self
def Gg:=@Nat.le_trans
def Gh:=@List.mem_append_right
def Gi:=@or_false
def Gj:=@List.append_nil
def Gk:=@Nat.lt_irrefl
def Gm:=@PySem.wpAny_newObj_type
def Gn:=@PySem.Heap.get?_update_other
def Gp:=@List.mem_cons_of_mem
def Gq:=@PySem.wpAny_callSpecial?_slot
def Gr:=@PySem.wpAny_ite_split
def Gs:=@PySem.wpAny_call_entry
def Gu:=@List.getElem?_set_self
def Gv:=@Nat.zero_le
def Gw:=@Nat.le_succ
def Gx:=@of_decide_eq_true
def Gy:=@PyProof.Rows.slot_tuple_getitem
def Gz:=@List.append_assoc
def GA:=@Nat.lt_succ_of_lt
def GB:=@decide_eq_true_eq
def GC:=@PyProof.Rows.callWith_type1
def GD:=@Nat.add_sub_cancel
def GF:=@PySem.lookup_relabel_local
def GG:=@List.mem_cons_self
def GH:=@Nat.ne_of_gt
def GI:=@PySem.wpAny_truthy_bool
def GJ:=@beq_eq_false_iff_ne
def GK:=@List.length_set
def GL:=@congrArg
def GN:=@PySem.wpAny_Call_Name_kw
def GO:=@Bool.false_eq_true
def GP:=@PySem.sizeLine_eq
def GQ:=@List.getElem?_append_left
def GR:=@Ne.symm
def GS:=@List.sublist_flatten_of_mem
def GU:=@Nat.lt_succ_self
def GV:=@List.getElem?_eq_none
def GW:=@Array.getElem?_toList
def GX:=@List.isEmpty_iff
def GY:=@List.map_map
def GZ:=@List.drop_eq_getElem_cons
def G0:=@PySem.wpAny_holding
def G1:=@List.mem_map_of_mem
def G2:=@PySem.wpAny_isInstance
def G3:=@beq_self_eq_true
def G4:=@PySem.codeAny_mono
def G5:=@PySem.wpAny_setField_rec
def G6:=@Int.emod_lt_of_pos
def G7:=@PySem.wpAny_execs_nil
def G8:=@Bool.eq_iff_iff
def G9:=@List.getElem?_append_right
def Ha:=@Int.emod_nonneg
def Hb:=@PySem.wpAny_setState_of
def Hc:=@Nat.le_add_right
def Hd:=@PySem.wpAny_comprehension_free
def He:=@List.all_eq_true
def Hf:=@List.mem_of_getElem?
def Hg:=@Nat.not_lt
def Hh:=@Nat.lt_of_le_of_lt
def Hi:=@PySem.wpAny_field
def Hj:=@PySem.wpAny_typeOf
def Hk:=@PySem.builtinLookup_eq_fast
def Hl:=@decide_eq_true
def Hm:=@PySem.wpAny_setField
def Hn:=@PySem.call_meets
def Ho:=@List.mem_of_find?_eq_some
def Hq:=@PySem.wpAny_attempt
def Hr:=@Array.getElem?_eq_some_iff
def Hs:=@PySem.wpAny_passesOwn
def Ht:=@Array.getElem?_eq_getElem
def Hu:=@Nat.le_of_lt
def Hv:=@PySem.wpAny_pyIter_tuple
def Hw:=@Nat.le_of_eq
def Hx:=@List.getElem?_replicate
def Hy:=@List.length_eq_zero_iff
def Hz:=@Option.isNone_iff_eq_none
def HB:=@Nat.exists_eq_add_of_lt
def HC:=@PySem.wpAny_pyIter_list
def HF:=@List.length_eq_one_iff
def HG:=@Array.getElem?_eq_none
def HI:=@PySem.richCompare_meets_room
def HJ:=@PySem.plainId_quiet
def HK:=@PySem.wpAny_execs_cons
def HL:=@if_false
def HM:=@List.any_eq_true
def HN:=@List.getD_eq_getElem?_getD
def HP:=@Array.getElem?_setIfInBounds_ne
def HR:=@List.mem_filter
def HS:=@List.nodup_cons
def HU:=@decide_eq_false
def HV:=@PySem.wpAny_specialOf
def HW:=@Nat.lt_trans
def HX:=@Nat.min_eq_left
def HY:=@PySem.codeAny_builtin
def HZ:=@PySem.Around.under_plainId
def H0:=@PySem.typeLookup_type
def H7:=@PySem.wpAny_updateSeq
def Ia:=@PySem.F.slot_zip_next
def Ib:=@PySem.isSubtype_type
def Ic:=@PySem.wpAny_fieldsOf
def Ie:=@Nat.lt_or_eq_of_le
def Ig:=@Array.size_extract
def Ih:=@PySem.F.args_str_split_2
def Ii:=@PySem.Obj.data_mapFields
def Ij:=@Int.fdiv_eq_ediv_of_nonneg
def Ik:=@Array.getElem?_append_left
def Il:=@PySem.Value.isInt_shape
def Im:=@Nat.lt_trichotomy
def Io:=@bne_self_eq_false
def Ip:=@PySem.wpAny_setEpoch_of
def Iq:=@PySem.F.entry_str_split
def Ir:=@PySem.wpAny_rule
def Iu:=@PySem.concat_meets
def Iv:=@PySem.noFill_tuple_add
def Iw:=@List.ext_getElem?
def Iy:=@PySem.F.slot_str_split
def Iz:=@List.cons.injEq
def IA:=@exists_eq_right
def IB:=@Bool.or_eq_true
def IC:=@List.length_take
def ID:=@List.drop_length
def IE:=@Nat.add_assoc
abbrev IF:=PySem.W.Frag
def bq{P:Prop}(h:∀Q:Prop,(P->Q)->Q):P:=h P id
namespace L2
open PySem PySem.Spec PyProof.Rows List Option
noncomputable abbrev Key:=Sum Int Str
noncomputable def lA:Key->Value->Bool
 | .inl k,v=>Value.isInt k v
 | .inr x,v=>Value.isStrOf x v
noncomputable def EZ(w:World):Key->Int
 | .inl k=>hashInt k
 | .inr x=>hashStr w x
def bv:∀{k}{v},lA k v=true->(∃i t,k=Sum.inl i/\v=Value.int i t)\/(∃x t,k=Sum.inr x/\v=Value.str x t)
 | .inl i,v,h=>by
  obtain⟨t,e⟩:=Il (k:=i) (v:=v) h;exact .inl ⟨i,t,rfl,e⟩
 | .inr x,v,h=>by
  obtain⟨t,e⟩:=Value.isStrOf_shape (x:=x) (v:=v) h;exact .inr ⟨x,t,rfl,e⟩
def rK(i)(t):lA (.inl i) (.int i t)=true:=by simp[lA,Value.isInt]
def rL(x)(t):lA (.inr x) (.str x t)=true:=by simp[lA,Value.isStrOf]
def zA(a b):decide ((Sum.inl a:Key)=Sum.inl b)=(a==b):=by
 by_cases e:a=b
 .subst e;simp
 .simp_all
def zB(a b):decide ((Sum.inr a:Key)=Sum.inr b)=decide (a=b):=by simp
def zC(a)(b):decide ((Sum.inl a:Key)=Sum.inr b)=false:=rfl
def zD(a)(b):decide ((Sum.inr a:Key)=Sum.inl b)=false:=rfl
noncomputable def de(prog)(w):PySem.KeyKind prog w Key where
 is:=lA
 hash:=EZ w
 inj:=λv a b J G=>by
  rcases bv J with⟨i,t,rfl,rfl⟩|⟨x,t,rfl,rfl⟩
  .rcases bv G with⟨j,u,rfl,e⟩|⟨y,u,rfl,e⟩
   .injection e with z _;rw[z]
   .exact nomatch e
  .rcases bv G with⟨j,u,rfl,e⟩|⟨y,u,rfl,e⟩
   .exact nomatch e
   .injection e with z _;rw[z]
 byValue:=λk v h=>by
  rcases bv h with⟨i,t,rfl,rfl⟩|⟨x,t,rfl,rfl⟩<;>rfl
 pyHash:=λD h=>by
  rcases bv D with⟨i,t,rfl,rfl⟩|⟨x,t,rfl,rfl⟩
  .exact wpAny_pyHash_int h
  .exact wpAny_pyHash_str h
 eqBool:=λU D h=>by
  rcases bv U with⟨i,t,rfl,rfl⟩|⟨x,t,rfl,rfl⟩
  .rcases bv D with⟨j,u,rfl,rfl⟩|⟨y,u,rfl,rfl⟩
   .rw[zA]at h;exact wpAny_eqBool_int h
   .rw[zC]at h;exact SeqAt.EqAt.int_str i t y u _ _ _ _ h
  .rcases bv D with⟨j,u,rfl,rfl⟩|⟨y,u,rfl,rfl⟩
   .rw[zD]at h;exact SeqAt.EqAt.str_int x t j u _ _ _ _ h
   .rw[zB]at h;exact wpAny_eqBool_str h
 «strs»:=λk x t v h=>by
  rcases bv h with⟨i,u,rfl,e⟩|⟨y,u,rfl,e⟩
  .exact nomatch e
  .injection e with z _
   subst z;cases v<;>rfl
def nq(prog)(w)(i)(t):(de prog w).is (.inl i) (.int i t)=true:=rK i t
def nr(prog)(w)(x)(t):(de prog w).is (.inr x) (.str x t)=true:=rL x t
inductive V where
 | non|bl (b:Bool)|int (i:Int)|str (x:Str)|byt (b:Array UInt8)|flt (b:UInt64)|ref (a:Addr)|ty (n:String)
 deriving DecidableEq
def aE:V->Value->Prop
 | .non,u=>u=Value.none
 | .bl b,u=>u=Value.bool b
 | .int i,u=>∃t,u=Value.int i t
 | .str x,u=>∃t,u=Value.str x t
 | .byt b,u=>∃t,u=Value.bytes b t
 | .flt b,u=>∃t,u=Value.float b t
 | .ref a,u=>u=Value.ref a
 | .ty n,u=>u=Value.type n
abbrev aA:List V->List Value->Prop:=Paired aE
theorem aA.length(r:aA xs us):xs.length=us.length:=Paired.length r
theorem aA.get:∀{xs}{us}{i:Nat}{x},aA xs us->xs[i]?=some x->∃u,us[i]?=some u/\aE x u
 | _,_,_,_,.nil,e=>by simp at e
 | _,_,0,_,.cons r _,e=>by simp at e;subst e;exact⟨_,rfl,r⟩
 | _,_,i+1,x,.cons _ t,e=>by
  obtain⟨u,h1,h2⟩:=aA.get (i:=i) (x:=x) t (by simpa using e);exact⟨u,by simpa using h1,h2⟩
theorem aA.append:∀{xs ys}{us ws},aA xs us->aA ys ws->aA (xs++ys) (us++ws)
 | _,_,_,_,.nil,s=>s
 | _,_,_,_,.cons r t,s=>.cons r (aA.append t s)
theorem aA.take:∀{xs}{us} n,aA xs us->aA (xs.take n) (us.take n)
 | _,_,0,_=>.nil
 | _,_,_+1,.nil=>.nil
 | _,_,n+1,.cons r t=>.cons r (aA.take n t)
theorem aA.drop:∀{xs}{us} n,aA xs us->aA (xs.drop n) (us.drop n)
 | _,_,0,r=>r
 | _,_,_+1,.nil=>.nil
 | _,_,n+1,.cons _ t=>aA.drop n t
def lf:Option V->Option Value->Prop
 |some v,some u=>aE v u
 |none,none=>True
 | _,_=>False
def KV :List (κ×V)->List (κ×Value)->Prop:=Paired λp q=>p.1=q.1/\aE p.2 q.2
noncomputable def kV:Key->V
 | .inl i=>.int i
 | .inr x=>.str x
inductive HO where
 | lst (xs:List V)
 | tup (xs:List V)
 | dK (kvs:List (Key×V))|dT (kvs:List (List Key×V))
 | set (S:Int->Bool) (n:Nat)
 | ins (C dx:Addr) (fs:List (Str×V))
 | own (x:Addr)
 | xd (fs:List (Str×V))
 | met (f x:Addr)
 | rng (lo hi:Int)
 | frz (o:Obj) (u:HO)
 | tbl (ps:Array Value)
 | ext (φ:Heap->Prop)
noncomputable abbrev Hp:=Addr->Option HO
noncomputable def upd(H:Hp)(a:Addr)(o:HO):Hp:=λb=>if b=a then some o else H b
def aq :upd H a o a=some o:=by unfold upd;rw[if_pos rfl]
def az(h:b≠a):upd H a o b=H b:=by unfold upd;rw[if_neg h]
def a8{H:Hp}{a b:Addr}{o:HO}(h:H a=some o)(h':H b=none):a≠b:=by
 intro e;subst e;rw[h]at h';cases h'
section
variable(P:Program)(w:World)
def bN(H:Hp)(h:Heap)(a:Addr):HO->Prop
 | .lst xs=>xs.length<=sizeLine/\∃its n,aA xs its/\h.get? a=some { cls:=.type "list",data:=.seq its.toArray n }
 | .tup xs=>xs.length<=sizeLine/\∃its,aA xs its/\IsTup h a its.toArray
 | .dK kvs=>kvs.length<=sizeLine/\(a==sysModules)=false/\∃vs,KV kvs vs/\h.DictOf (de P w) a vs
 | .dT kvs=>kvs.length<=sizeLine/\(a==sysModules)=false/\∃xs,
   Paired (λp q=>p.1=q.1/\H q.2.1=some (.tup (p.1.map kV))/\aE p.2 q.2.2) kvs xs /\
   ∃o es ep,h.get? a=some o/\o.ExactDict/\o.data=.dict es ep/\es.toList=xs.map (entryOfKey (tupleKind (de P w)))/\(xs.map (·.1)).Nodup
 | .set S n=>h.SetOf (intKind P w) a S n
 | .ins C dx fs=>H dx=some (.own a)/\fs.length<=1000/\dx≠a/\h.get? a=some (PySem.W.instObj C dx) /\
   ∃mA,h.Ns1 dx mA/\(∀f,lf (fs.lookup f) (mA f))/\PySem.Within mA (fs.map (·.1))
 | .own _=>∃o,h.get? a=some o
 | .xd fs=>∃mA,h.Ns1 a mA/\∀f,lf (fs.lookup f) (mA f)
 | .rng lo hi=>∃t u v,h.get? a=some { cls:=.type "range",data:=.fields #[.int lo t,.int hi u,.int 1 v] }
 | .frz o u=>h.get? a=some o/\bN H h a u
 | .tbl ps=>h.get? a=some { cls:=.none,data:=.fields ps }
 | .met f x=>h.get? a=some (PySem.W.methodObj (.ref f) (.ref x))
 | .ext z=>z h/\(∃o,h.get? a=some o)/\∀h1 h2,z h1->(∀o,h1.get? a=some o->h2.get? a=some o)->z h2
def HOk(H:Hp)(h:Heap):Prop:=∀a o,H a=some o->bN P w H h a o
end
section
variable{P:Program}{w:World}{H H':Hp}{h h':Heap}{a:Addr}{o:HO}
theorem bN.lt(x:bN P w H h a o):a<h.objs.size:=by
 cases o with
 |own y=>obtain⟨_,e⟩:=x;exact vl e
 |xd fs=>obtain⟨_,⟨_,_,_,e,_⟩,_⟩:=x;exact vl e
 |ext z=>obtain⟨_,⟨_,e⟩,_⟩:=x;exact vl e
 |lst xs=>obtain⟨_,_,_,_,e⟩:=x;exact vl e
 |tup xs=>obtain⟨_,_,_,p⟩:=x;exact p.lt
 |set S n=>obtain⟨o,_,_,_,e,_⟩:=x;exact vl e
 |frz D u=>obtain⟨e,_⟩:=x;exact vl e
 |rng lo hi=>obtain⟨_,_,_,e⟩:=x;exact vl e
 |ins C dx fs=>obtain⟨_,_,_,e,_⟩:=x;exact vl e
 |dK kvs|dT kvs=>obtain⟨_,_,_,_,o,_,_,e,_⟩:=x;exact vl e
 | _=>exact vl (show h.get? a=some _ from x)
theorem Paired.mapP :∀{z}{D},Paired F z D->(∀a b,F a b->G a b)->Paired G z D
 | _,_,.nil,_=>.nil
 | _,_,.cons r t,f=>.cons (f _ _ r) (Paired.mapP t f)
def bN.stay(x:bN P w H h a o)(k:∀b u,(b=a\/H b=some (.own a))->h.get? b=some u->h'.get? b=some u)
  (J:∀b,H b=some (.own a)->H' b=some (.own a)) (U:∀b xs,H b=some (.tup xs)->H' b=some (.tup xs)):bN P w H' h' a o:=by
 induction o with
 |lst xs=>obtain⟨z,its,n,r,e⟩:=x;exact⟨z,its,n,r,k _ _ (.inl rfl) e⟩
 |tup xs=>obtain⟨z,its,r,D,e,c⟩:=x;exact⟨z,its,r,D,k _ _ (.inl rfl) e,c⟩
 |dK kvs=>obtain⟨z,y,vs,r,D,es,ep,e,c⟩:=x;exact⟨z,y,vs,r,D,es,ep,k _ _ (.inl rfl) e,c⟩
 |dT kvs =>
  obtain⟨z,y,xs,r,D,es,ep,e,c⟩:=x;exact⟨z,y,xs,Paired.mapP r λp q z=>⟨z.1,U _ _ z.2.1,z.2.2⟩,D,es,ep,k _ _ (.inl rfl) e,c⟩
 |set S n=>obtain⟨D,es,ep,t,e,c⟩:=x;exact⟨D,es,ep,t,k _ _ (.inl rfl) e,c⟩
 |ins C dx fs =>
  obtain⟨d,z,ne,e,mA,⟨G,es,ep,Y,c⟩,r⟩:=x;exact⟨J _ d,z,ne,k _ _ (.inl rfl) e,mA,⟨G,es,ep,k _ _ (.inr d) Y,c⟩,r⟩
 |own y=>obtain⟨D,e⟩:=x;exact⟨D,k _ _ (.inl rfl) e⟩
 |xd fs=>obtain⟨mA,⟨G,es,ep,e,c⟩,r⟩:=x;exact⟨mA,⟨G,es,ep,k _ _ (.inl rfl) e,c⟩,r⟩
 |rng lo hi=>obtain⟨t,u,v,e⟩:=x;exact⟨t,u,v,k _ _ (.inl rfl) e⟩
 |frz D u ih=>obtain⟨e,q⟩:=x;exact⟨k _ _ (.inl rfl) e,ih q⟩
 |tbl ps =>
  have e:=x;exact k a _ (.inl rfl) e
 |met f y =>
  have e:=x;exact k a _ (.inl rfl) e
 |ext Z=>obtain⟨p,⟨o,e⟩,st⟩:=x;exact⟨st _ _ p λo q=>k _ _ (.inl rfl) q,⟨o,k _ _ (.inl rfl) e⟩,st⟩
theorem HOk.lt(x:HOk P w H h)(e:H a=some o):a<h.objs.size:=(x a o e).lt
def HOk.fresh(x:HOk P w H h)(e:h.objs.size<=a):H a=none:=by
 cases q:H a<;>first|rfl|exact absurd (FU (x.lt q) e) (Gk _)
theorem HOk.kept(x:HOk P w H h)(k:∀b u,h.get? b=some u->h'.get? b=some u):HOk P w H h':=λa o e =>
 (x a o e).stay (λb u _ q=>k b u q) (λ_ q=>q) λ_ _ q=>q
theorem HOk.laid(x:HOk P w H h)(k:∀b u,h.get? b=some u->h'.get? b=some u)(G:h.objs.size<=a)(new:bN P w (upd H a o) h' a o):HOk P w (upd H a o) h':=λb u e=>by
 have z:=x.fresh G;by_cases D:b=a
 .subst D;rw[aq]at e;cases e;exact new
 .rw[az D]at e;exact(x b u e).stay (λc v _ q=>k c v q) (λc q=>by rw[az (a8 q z)];exact q) λc xs q=>by rw[az (a8 q z)];exact q
end
def Rd(H:Hp)(a:Addr)(u:HO):Prop:=H a=some u\/∃o,H a=some (.frz o u)
theorem Rd.ok(r:Rd H a u)(x:HOk P w H h):bN P w H h a u:=by
 rcases r with r|⟨o,r⟩
 .exact x a u r
 .obtain⟨_,q⟩:=x a _ r;exact q
def Mut:Option HO->Prop
 |some (.lst _)=>True
 |some (.dK _)=>True
 |some (.dT _)=>True
 |some (.set _ _)=>True
 |some (.ins _ _ _)=>True
 |some (.ext _)=>True
 | _=>False
section
variable{P:Program}{w:World}{H:Hp}{h h':Heap}{x e:Addr}{o':HO}
def HOk.write(ok:HOk P w H h)(U:Mut (H x))(he:e=x\/H e=some (.own x))(k:∀b u,b≠e->h.get? b=some u->h'.get? b=some u)(Y:∃u,h'.get? e=some u)
  (new:bN P w (upd H x o') h' x o'):HOk P w (upd H x o') h':=λb u q=>by
 have G:∀c y,H c=some (.own y)->c≠x:=λc y r z=>by subst z;rw[r]at U;exact U
 have J:∀c xs,H c=some (.tup xs)->c≠x:=λc xs r z=>by subst z;rw[r]at U;exact U
 by_cases Z:b=x
 .subst Z;rw[aq]at q;cases q;exact new
 .rw[az Z]at q;by_cases D:b=e
  .have q':H b=some (.own x):=by
    rcases he with z|z
    .exact absurd (D.trans z) Z
    .rw[D];exact z
   rw[q]at q';cases q'
   obtain⟨v,hv⟩:=Y;exact⟨v,by rw[D];exact hv⟩
  .refine(ok b u q).stay (λc v hc r=>k c v ?_ r) (λc r=>by rw[az (G c b r)];exact r) λc xs r=>by rw[az (J c xs r)];exact r
   rcases hc with rfl|hc
   .exact D
   .rintro rfl
    simp_all
end
structure Un(fs ex:List Addr)(H H':Hp)(h h':Heap):Prop where
 keep:∀b o,h.get? b=some o->H b=none->b∉fs->b∉ex->h'.get? b=some o
 slot:∀b o,h.get? b=some o->H b=none->b∈fs->b∉ex->∃sl,h'.get? b=some { o with slots:=sl }
 free:∀b o,h.get? b=some o->H b=none->b∉ex->H' b=none
 there:∀b o,h.get? b=some o->b∉ex->∃o',h'.get? b=some o'
 tups:∀b xs,H b=some (.tup xs)->H' b=some (.tup xs)
 frzs:∀b o u,H b=some (.frz o u)->H' b=some (.frz o u)
 tbls:∀b ps,H b=some (.tbl ps)->∃more,H' b=some (.tbl (ps++more))
section
variable{fs fs' ex ex':List Addr}{H H1 H2:Hp}{h h1 h2 h':Heap}{a x e:Addr}{o:HO}
theorem Un.any(u:Un fs ex H H1 h h1)(q:h.get? b=some z)(n:H b=none)(hx:b∉ex):∃G,h1.get? b=some { z with slots:=G }:=by
 by_cases D:b∈fs
 .exact u.slot b z q n D hx
 .exact⟨z.slots,u.keep b z q n D hx⟩
def Un.kept(k:∀b u,h.get? b=some u->h'.get? b=some u):Un fs ex H H h h':=
 ⟨λb z q _ _ _=>k b z q,λb z q _ _ _=>⟨z.slots,k b z q⟩,λ_ _ _ n _=>n,λb z q _=>⟨z,k b z q⟩,λ_ _ q=>q,λ_ _ _ q=>q,λ_ ps q=>⟨#[],by rw[q];simp⟩⟩
def Un.refl:Un fs ex H H h h:=Un.kept λ_ _ q=>q
def Un.laid(k:∀b u,h.get? b=some u->h'.get? b=some u)(D:h.objs.size<=a)(z:H a=none):Un fs ex H (upd H a o) h h' where
 keep:=λb u q _ _ _=>k b u q
 slot:=λb u q _ _ _=>⟨u.slots,k b u q⟩
 free:=λb u q n _=>by rw[az (FX (FU (vl q) D))];exact n
 there:=λb u q _=>⟨u,k b u q⟩
 tups:=λb xs q=>by rw[az (a8 q z)];exact q
 frzs:=λb u xs q=>by rw[az (a8 q z)];exact q
 tbls:=λb ps q=>⟨#[],by rw[az (a8 q z),q];simp⟩
def Un.write(G:Mut (H x))(Z:e=x\/H e=some (.own x))(k:∀b u,b≠e->h.get? b=some u->h'.get? b=some u)(J:∃u,h'.get? e=some u):Un fs ex H (upd H x o) h h':=by
 have hx:∀b,H b=none->b≠x:=λb n z=>by subst z;rw[n]at G;exact G
 have Y:∀b,H b=none->b≠e:=λb n z=>by
  simp_all
 have U:∀b u,H b=some u->¬ Mut (some u)->b≠x:=λb u q nm z=>by subst z;rw[q]at G;exact nm G
 refine⟨λb u q n _ _=>k b u (Y b n) q,λb u q n _ _=>⟨u.slots,k b u (Y b n) q⟩,λb u q n _=>by rw[az (hx b n)];exact n,λb u q _=>?_,
  λb xs q=>by rw[az (U b _ q λz=>z)];exact q,λb u xs q=>by rw[az (U b _ q λz=>z)];exact q,λb ps q=>⟨#[],by rw[az (U b _ q λz=>z),q];simp⟩⟩
 by_cases D:b=e
 .subst D;exact J
 .exact⟨u,k b u D q⟩
end
noncomputable def trk(h:Heap)(H:Hp):List Addr:=(range h.objs.size).filter λa=>(H a).isSome
noncomputable def mq(h:Heap)(H:Hp):Heap:=PySem.W.hideAll h (trk h H)
def rM(h)(H):(mq h H).objs.size=h.objs.size:=PySem.W.hideAll_size _ _
theorem tw{H:Hp}{b:Addr}{o:Obj}(e:h.get? b=some o)(n:H b=none):(mq h H).get? b=some o:=
 PySem.W.hideAll_get _ e λhm=>by
  have q:=(HR.mp hm).2;rw[n]at q;simp at q
def wH(e:(mq h H).get? b=some o):h.get? b=some o/\H b=none:=by
 have e':=PySem.W.of_hideAll _ e;refine⟨e',?_⟩;cases q:H b with
 |none=>rfl
 |some x =>
  have D:b∈trk h H:=HR.mpr ⟨mem_range.mpr (vl e'),by simp[q]⟩;have z:(mq h H).get? b=none:=PySem.W.hideAll_none _ D;rw[z]at e;cases e
noncomputable def wI(g h:Heap)(L:Addr):List (Addr×Obj):=(range h.objs.size).filterMap λa=>if a=L\/(g.get? a).isSome=true then none else(h.get? a).map λo=>(a,o)
noncomputable def bz(g h:Heap)(L d:Addr):List (Addr×Obj):=(wI g h L).filter λp=>decide (p.1≠d)
structure Mod(K:IF)(mg:Str->Option Value)(base:Heap):Prop where
 kin:K.In base
 glob:base.Ns mainGlobals mg
 blt:∃mb,base.Ns builtinsNs mb/\∀x:Str,x ≠ "__name__"->mb x=bootBuiltins x
 nolimit:base.NoLimit
structure Cx where
 prog:Program
 w:World
 K:IF
 mg:Str->Option Value
 base:Heap
 A:Around
 N:List Str
 s₀:Shared
 H₀:Hp
 env:Env
 outer:List Env
 stack:List Env
 ex:List Addr
 fn:Str->Bool
 calm:Bool
 pn:List (Addr×Obj)
 xe:Value->Shared->Prop
noncomputable def frs(l:List Env):List Addr:=l.filterMap (·.frame)
noncomputable abbrev Cx.fs(X:Cx):List Addr:=frs X.outer
def Vis(sc:Scope)(x:Str):Prop:=sc.names.lookup x=some .local\/sc.names.lookup x=some .cell\/sc.names.lookup x=some .free
def Loc(sc:Scope)(x:Str):Prop:=sc.names.lookup x=some .local\/sc.names.lookup x=some .cell
def E1(env:Env)(h:Heap)(m:Str->Option Value)(x:Str)(u:Value):Prop:=
 (env.kindOf x=some .local/\m x=some u)\/((env.kindOf x=some .cell\/env.kindOf x=some .free)/\∃c,env.cells.lookup x=some c/\h.IsCell c (some u))
structure Cx.Ok(X:Cx):Prop where
 mod:Mod X.K X.mg X.base
 kind:X.env.scope.kind=.function
 glob:X.env.globals=mainGlobals
 blt:X.env.builtins=builtinsNs
 above:X.s₀.heap.objs.size<=X.env.locals
 inj:∀x y c,X.env.cells.lookup x=some c->X.env.cells.lookup y=some c->x=y
 has:∀x,(X.env.kindOf x=some .cell\/X.env.kindOf x=some .free)->∃c,X.env.cells.lookup x=some c
 cab:∀x c,X.fn x=true->X.env.cells.lookup x=some c->X.s₀.heap.objs.size<=c
 hd:X.calm=true->X.A.handled=none
 frames:X.A.frames=some X.stack
 stk:X.stack=X.outer\/(X.stack=X.env::X.outer/\X.env.frame=some X.env.locals)
 exf:∀b∈X.ex,b≠X.env.locals/\∀x c,X.env.cells.lookup x=some c->c≠b
 bs:∀b o,X.base.get? b=some o->X.s₀.heap.get? b=some o/\X.H₀ b=none
 bsz:X.base.objs.size<=X.s₀.heap.objs.size
 noex:∀b o,X.base.get? b=some o->b∉X.ex
 exfs:∀b∈X.ex,b∉X.fs
 funs:X.s₀.heap.FunFrames X.base X.outer
 frf:∀b∈X.fs,X.H₀ b=none
structure Inv(X:Cx)(pins:List (Addr×Obj))(σ:List (Option V))(H:Hp)(s:Shared):Prop where
 ok:X.Ok
 os:s.os=X.s₀.os
 bare:AllBare s.gens
 base:Un X.fs X.ex X.H₀ H X.s₀.heap s.heap
 loc:∃m,s.heap.Ns X.env.locals m/\∀(i:Nat) (x:Str) (v:V),X.N[i]?=some x->σ[i]?=some (some v)->Vis X.env.scope x->∃u,aE v u/\E1 X.env s.heap m x u
 cell:∀x c,X.env.cells.lookup x=some c->∃v,s.heap.IsCell c v
 free:H X.env.locals=none
 freeC:∀x c,X.env.cells.lookup x=some c->H c=none
 pin:∀p∈X.pn++pins,s.heap.get? p.1=some p.2/\H p.1=none/\p.1≠X.env.locals/\p.1∉X.fs/\∀v,p.2.data≠.cell v
 hok:HOk X.prog X.w H s.heap
 len:σ.length=X.N.length
section
variable{X:Cx}{pins:List (Addr×Obj)}{σ:List (Option V)}{H H':Hp}{s:Shared}{h':Heap}
theorem Cx.Ok.nofr(ok:X.Ok)(e:X.base.get? b=some o):b∉X.fs:=λz=>by
 have:=(ok.funs.mem z).1;rw[e]at this;cases this
theorem Inv.bs(I:Inv X pins σ H s):∀b o,X.base.get? b=some o->s.heap.get? b=some o/\H b=none:=λb o e =>
 ⟨I.base.keep b o (I.ok.bs b o e).1 (I.ok.bs b o e).2 (I.ok.nofr e) (I.ok.noex b o e),I.base.free b o (I.ok.bs b o e).1 (I.ok.bs b o e).2 (I.ok.noex b o e)⟩
theorem Inv.bk(I:Inv X pins σ H s):∀b o,X.base.get? b=some o->s.heap.get? b=some o:=λb o e=>(I.bs b o e).1
theorem Inv.mod(I:Inv X pins σ H s):Mod X.K X.mg X.base:=I.ok.mod
theorem Inv.kIn(I:Inv X pins σ H s):X.K.In s.heap:=I.ok.mod.kin.keeps I.bk
theorem Inv.lt(I:Inv X pins σ H s):X.env.locals<s.heap.objs.size:=let ⟨_,z,_⟩:=I.loc;z.lt
theorem Inv.sz(I:Inv X pins σ H s):X.s₀.heap.objs.size<=s.heap.objs.size:=Gg I.ok.above (Hu I.lt)
theorem Inv.nofs(I:Inv X pins σ H s)(h:s.heap.objs.size<=a):a∉X.fs:=λz=>by
 obtain⟨_,o,D,_⟩:=I.ok.funs.mem z;exact absurd (FU (vl D) (Gg I.sz h)) (Gk _)
theorem Inv.cne(I:Inv X pins σ H s):∀x c,X.env.cells.lookup x=some c->c≠X.env.locals:=λx c e z=>by
 obtain⟨v,o,J,hd⟩:=I.cell x c e;obtain⟨m,⟨o',es,ep,D,G,_⟩,_⟩:=I.loc
 simp_all
theorem Inv.funs(I:Inv X pins σ H s):s.heap.FunFrames X.base X.outer:=by
 have all:∀l,(∀b∈frs l,b∈X.fs)->X.s₀.heap.FunFrames X.base l->s.heap.FunFrames X.base l:=by
  intro l
  induction l with
  |nil=>intro _ _;trivial
  |cons env r ih =>
   intro hs J;obtain⟨U,⟨L,o,D,Y,Z,hd⟩,hr⟩:=J;have hL:=hs L (by unfold frs;rw[filterMap_cons,D];exact GG);obtain⟨sl,e⟩:=I.base.slot L o Z (I.ok.frf L hL) hL λz=>I.ok.exfs L z hL
   exact⟨U,⟨L,_,D,Y,e,hd⟩,ih (λb G=>hs b (by unfold frs;rw[filterMap_cons,D];exact Gp _ G)) hr⟩
 exact all X.outer (λ_ G=>G) I.ok.funs
theorem Inv.stack(I:Inv X pins σ H s):s.heap.FunFrames X.base X.stack:=by
 rcases I.ok.stk with e|⟨e,z⟩
 .rw[e];exact I.funs
 .rw[e];obtain⟨m,D,_⟩:=I.loc;refine .cons (by rw[I.ok.kind];decide) z D ?_ I.funs;exact Heap.get?_none_of_le (Gg I.ok.bsz I.ok.above)
def Inv.stkSub(I:Inv X pins σ H s):∀b∈frs X.stack,b∈X.env.locals::X.fs:=λb z=>by
 rcases I.ok.stk with e|⟨e,D⟩
 .rw[e]at z;exact Gp _ z
 .rw[e]at z;unfold frs at z;rw[filterMap_cons,D]at z;exact z
def Inv.stkFree(I:Inv X pins σ H s):∀b∈frs X.stack,H b=none:=λb D=>by
 rcases y1.mp (I.stkSub b D)with e|D
 .rw[e];exact I.free
 .obtain⟨_,o,G,_⟩:=I.ok.funs.mem D;exact I.base.free b o G (I.ok.frf b D) λz=>I.ok.exfs b z D
theorem Inv.step{ch:List Addr}(I:Inv X pins σ H s)
  (D:∀b∈ch,(b∈X.ex\/X.s₀.heap.objs.size<=b)/\b≠X.env.locals/\(∀x c,X.env.cells.lookup x=some c->c≠b)/\∀p∈X.pn++pins,p.1≠b)
  (keep:∀b o,b≠X.env.locals->b∉X.fs->b∉ch->s.heap.get? b=some o->H b=none->h'.get? b=some o)
  (slot:∀b o,b≠X.env.locals->b∈X.fs->b∉ch->s.heap.get? b=some o->H b=none->∃sl,h'.get? b=some { o with slots:=sl }) (free:∀b o,b∉ch->s.heap.get? b=some o->H b=none->H' b=none)
  (there:∀b o,b∉ch->s.heap.get? b=some o->∃o',h'.get? b=some o')
  (tups:∀b xs,H b=some (.tup xs)->H' b=some (.tup xs)) (frzs:∀b o u,H b=some (.frz o u)->H' b=some (.frz o u)) (tbls:∀b ps,H b=some (.tbl ps)->∃ap,H' b=some (.tbl (ps++ap)))
  (ns:∀m,s.heap.Ns X.env.locals m->h'.Ns X.env.locals m) (hok:HOk X.prog X.w H' h') (hg:AllBare g') :
  Inv X pins σ H' { s with heap:=h',gens:=g',drawn:=d',toks:=t' }:=by
 have aO:∀b o,X.s₀.heap.get? b=some o->b≠X.env.locals:=λb o e=>FX (FU (vl e) I.ok.above)
 have U:∀b o,X.s₀.heap.get? b=some o->b∉X.ex->b∉ch:=λb o e hx Z=>by
  rcases(D b Z).1 with z|z
  .exact hx z
  .exact absurd (FU (vl e) z) (Gk _)
 have G:∀x c,X.env.cells.lookup x=some c->∀v,s.heap.IsCell c v->h'.IsCell c v:=λx c e v ⟨o,ho,hd⟩=>by
  have J:c∉ch:=λz=>(D c z).2.2.1 x c e rfl
  by_cases hc:c∈X.fs
  .obtain⟨sl,q⟩:=slot c o (I.cne x c e) hc J ho (I.freeC x c e);exact⟨_,q,hd⟩
  .exact⟨o,keep c o (I.cne x c e) hc J ho (I.freeC x c e),hd⟩
 refine⟨I.ok,I.os,hg,⟨λb o e n Z hx=>?_,λb o e n Z hx=>?_,λb o e n hx=>?_,λb o e hx=>?_,λb xs e=>tups b xs (I.base.tups b xs e),λb o xs e=>frzs b o xs (I.base.frzs b o xs e),λb ps e=>?_⟩,?_,λx c e=>?_,?_,λx c e=>?_,λp hp=>?_,hok,I.len⟩
 .exact keep b o (aO b o e) Z (U b o e hx) (I.base.keep b o e n Z hx) (I.base.free b o e n hx)
 .obtain⟨sl,Y⟩:=I.base.slot b o e n Z hx;obtain⟨a3,e2⟩:=slot b _ (aO b o e) Z (U b o e hx) Y (I.base.free b o e n hx);exact⟨a3,e2⟩
 .obtain⟨o',Y⟩:=I.base.there b o e hx;exact free b o' (U b o e hx) Y (I.base.free b o e n hx)
 .obtain⟨o',Y⟩:=I.base.there b o e hx;exact there b o' (U b o e hx) Y
 .obtain⟨m1,Y⟩:=I.base.tbls b ps e;obtain⟨m2,e2⟩:=tbls b _ Y;exact⟨m1++m2,by rw[e2,Array.append_assoc]⟩
 .obtain⟨m,hn,hl⟩:=I.loc;refine⟨m,ns m hn,λi x v Y e2 e3=>?_⟩;obtain⟨u,r,l⟩:=hl i x v Y e2 e3;refine⟨u,r,?_⟩;rcases l with l|⟨k,c,e,z⟩
  .exact .inl l
  .exact .inr ⟨k,c,e,G x c e _ z⟩
 .obtain⟨v,z⟩:=I.cell x c e;exact⟨v,G x c e v z⟩
 .obtain⟨m,⟨o,_,_,ho,_⟩,_⟩:=I.loc;exact free _ o (λz=>(D _ z).2.1 rfl) ho I.free
 .obtain⟨v,o,ho,hd⟩:=I.cell x c e;exact free c o (λz=>(D c z).2.2.1 x c e rfl) ho (I.freeC x c e)
 .obtain⟨e,n,ne,nf,d⟩:=I.pin p hp;have J:p.1∉ch:=λz=>(D p.1 z).2.2.2 p hp rfl
  exact⟨keep p.1 p.2 ne nf J e n,free p.1 p.2 J e n,ne,nf,d⟩
theorem Inv.un(I:Inv X pins σ H s)(u:Un X.fs [] H H' s.heap h')(hok:HOk X.prog X.w H' h'):Inv X pins σ H' { s with heap:=h',toks:=t' }:=by
 obtain⟨m,⟨o,es,ep,Y,r⟩,_⟩:=id I.loc;obtain⟨sl,hL⟩:=u.any Y I.free (by simp);exact I.step (ch:=[]) (λ_ z=>nomatch z) (λb o _ G _ e n=>u.keep b o e n G (by simp)) (λb o _ G _ e n=>u.slot b o e n G (by simp)) (λb o _ e n=>u.free b o e n (by simp)) (λb o _ e=>u.there b o e (by simp)) u.tups u.frzs u.tbls (λm' Z=>by
  obtain⟨o',J,U,D,r'⟩:=Z;rw[Y]at D;cases D
  exact⟨_,J,U,hL,r'⟩) hok I.bare
theorem Inv.call(I:Inv X pins σ H s)(u:Un (frs X.stack) ch H H' s.heap h')(hok:HOk X.prog X.w H' h')(Z:AllBare g')
  (D:∀b∈ch,(b∈X.ex\/X.s₀.heap.objs.size<=b)/\b≠X.env.locals/\(∀x c,X.env.cells.lookup x=some c->c≠b)/\∀p∈X.pn++pins,p.1≠b) :
  Inv X pins σ H' { s with heap:=h',gens:=g',drawn:=d',toks:=t' }:=by
 obtain⟨m,⟨o,es,ep,Y,r⟩,_⟩:=id I.loc;obtain⟨sl,hL⟩:=u.any Y I.free λz=>(D _ z).2.1 rfl
 exact I.step D (λb o hL hb hc e n=>u.keep b o e n (λz=>(y1.mp (I.stkSub b z)).elim hL hb) hc) (λb o _ _ hc e n=>u.any e n hc) (λb o hc e n=>u.free b o e n hc) (λb o hc e=>u.there b o e hc) u.tups u.frzs u.tbls (λm' hm=>by
  obtain⟨o',J,U,G,r'⟩:=hm;rw[Y]at G;cases G
  exact⟨_,J,U,hL,r'⟩) hok Z
def Inv.turned(I:Inv X pins σ H s)(k:∀b o,b≠it->s.heap.get? b=some o->h'.get? b=some o)(G:H it=none)(hL:it≠X.env.locals)
  (h1:it∈X.ex\/X.s₀.heap.objs.size<=it) (h2:∀x c,X.env.cells.lookup x=some c->c≠it) (J:∀p∈X.pn++pins,p.1≠it):Inv X pins σ H { s with heap:=h',toks:=t' }:=by
 have D:∀b u,H b=some u->b≠it:=λb u e z=>by rw[z,G]at e;cases e
 refine I.step (ch:=[it]) (λb U=>?_) (λb o _ _ hc e _=>k b o (λz=>hc (by simp[z])) e) (λb o _ _ hc e _=>⟨o.slots,k b o (λz=>hc (by simp[z])) e⟩) (λ_ _ _ _ n=>n)
  (λb o hc e=>⟨o,k b o (λz=>hc (by simp[z])) e⟩) (λ_ _ e=>e) (λ_ _ _ e=>e) (λb ps e=>⟨#[],by rw[e];simp⟩) (λm Y=>?_) (λb u e=>?_) I.bare
 .have e:b=it:=by simpa using U
  subst e;exact⟨h1,hL,h2,J⟩
 .obtain⟨o,es,ep,Z,r⟩:=Y;exact⟨o,es,ep,k _ o (GR hL) Z,r⟩
 .refine(I.hok b u e).stay (λc v hc q=>k c v ?_ q) (λ_ q=>q) λ_ _ q=>q
  rcases hc with z|z
  .rw[z];exact D b u e
  .exact D c _ z
theorem Inv.tok(I:Inv X pins σ H s)(t):Inv X pins σ H { s with toks:=t }:=I.un (h':=s.heap) (t':=t) Un.refl I.hok
theorem Inv.kept(I:Inv X pins σ H s)(k:∀b u,s.heap.get? b=some u->h'.get? b=some u):Inv X pins σ H { s with heap:=h',toks:=t' }:=I.un (Un.kept k) (I.hok.kept k)
theorem Inv.laid(I:Inv X pins σ H s)(k:∀b u,s.heap.get? b=some u->h'.get? b=some u)(z:s.heap.objs.size<=a)(new:bN X.prog X.w (upd H a o) h' a o) :
  Inv X pins σ (upd H a o) { s with heap:=h',toks:=t' }:=I.un (Un.laid k z (I.hok.fresh z)) (I.hok.laid k z new)
theorem Inv.write(I:Inv X pins σ H s)(D:Mut (H x))(G:e=x\/H e=some (.own x))(k:∀b u,b≠e->s.heap.get? b=some u->h'.get? b=some u)(z:∃u,h'.get? e=some u)
  (new:bN X.prog X.w (upd H x o) h' x o):Inv X pins σ (upd H x o) { s with heap:=h',toks:=t' }:=I.un (Un.write D G k z) (I.hok.write D G k z new)
def Inv.pins_of{D:List (Addr×Obj)}(I:Inv X pins σ H s)(h:∀p∈D,s.heap.get? p.1=some p.2/\H p.1=none/\p.1≠X.env.locals/\p.1∉X.fs/\∀v,p.2.data≠.cell v):Inv X D σ H s:=
 ⟨I.ok,I.os,I.bare,I.base,I.loc,I.cell,I.free,I.freeC,λp G=>(mem_append.mp G).elim (λz=>I.pin p (mem_append_left _ z)) (h p),I.hok,I.len⟩
def jQ{N:List Str}(z:N.Nodup){i j:Nat}(a:N[i]?=some x)(b:N[j]?=some x):i=j:=by
 obtain⟨h1,D⟩:=D2.mp a;obtain⟨h2,G⟩:=D2.mp b;exact(getElem_inj z).mp (D.trans G.symm)
def lB{i:Nat}{x:Str}{v:V}{u:Value}{Q:Unit->Shared->Prop}(I:Inv X pins σ H s)(hN:X.N.Nodup)(hi:X.N[i]?=some x)(hx:Loc X.env.scope x)(r:aE v u)
  (h:∀s',Inv X pins (σ.set i (some v)) H s'->(∃a,Heap.SameBut a s.heap s'.heap/\(a=X.env.locals\/X.env.cells.lookup x=some a))->Q () s') (hf:X.fn x=true\/X.env.scope.names.lookup x=some .local:=by first|exact .inl rfl|exact .inr rfl|assumption):wpAny M A (storeName X.env x u) Q E s:=by
 obtain⟨m,hn,hl⟩:=id I.loc;have a1:(X.env.scope.kind==.class||(X.env.scope.kind==.module&&X.env.locals != X.env.globals))=false:=by rw[I.ok.kind];rfl
 have Y:i<σ.length:=by rw[I.len];exact(D2.mp hi).1
 have cne:=I.cne;have D:∀{a}{h'},(∃o,s.heap.get? a=some o/\H a=none)->Heap.SameBut a s.heap h'->HOk X.prog X.w H h':=λ{a h'} ha hs b ob e=>by
  obtain⟨_,_,J⟩:=ha;refine(I.hok b ob e).stay (λc w' hc q=>(hs.2 c ?_).trans q) (λ_ q=>q) λ_ _ q=>q
  rintro rfl;rcases hc with rfl|hc
  .rw[J]at e;cases e
  .rw[J]at hc;cases hc
 rcases hx with Z|Z
 .refine wpAny_storeName_local Z hn (λh' be hs=>?_) a1;obtain⟨oL,_,_,bj,_⟩:=id hn;refine h _ ⟨I.ok,I.os,I.bare,⟨λb o e n hb hx=>?_,λb o e n hb hx=>?_,I.base.free,λb o e hx=>?_,I.base.tups,I.base.frzs,I.base.tbls⟩,⟨_,be,λj y v' G U e3=>?_⟩,λy c e=>?_,I.free,I.freeC,λp hp=>?_,D ⟨oL,bj,I.free⟩ hs,by simpa using I.len⟩ ⟨_,hs,.inl rfl⟩
  .exact(hs.2 b (FX (FU (vl e) I.ok.above))).trans (I.base.keep b o e n hb hx)
  .obtain⟨sl,G⟩:=I.base.slot b o e n hb hx;exact⟨sl,(hs.2 b (FX (FU (vl e) I.ok.above))).trans G⟩
  .obtain⟨o',G⟩:=I.base.there b o e hx;exact⟨o',(hs.2 b (FX (FU (vl e) I.ok.above))).trans G⟩
  .by_cases hj:j=i
   .subst hj;rw[hi]at G;cases G
    rw[Gu Y]at U;cases U;exact⟨u,r,.inl ⟨Z,by simp⟩⟩
   .rw[F1 (GR hj)]at U;obtain⟨u',r',q⟩:=hl j y v' G U e3;refine⟨u',r',?_⟩;rcases q with⟨k,e⟩|⟨k,c,e,z⟩
    .refine .inl ⟨k,?_⟩;have:y≠x:=λe=>hj (jQ hN G (e▸hi))
     simp[this,e]
    .exact .inr ⟨k,c,e,z.sameBut hs (cne y c e)⟩
  .obtain⟨w',z⟩:=I.cell y c e;exact⟨w',z.sameBut hs (cne y c e)⟩
  .obtain⟨e,n,ne,nf,d⟩:=I.pin p hp;exact⟨(hs.2 p.1 ne).trans e,n,ne,nf,d⟩
 .have aO:X.fn x=true:=by
   rcases hf with z|z
   .exact z
   .rw[z]at Z;cases Z
  obtain⟨c,hc⟩:=I.ok.has x (.inl Z);obtain⟨w',z⟩:=I.cell x c hc;refine wpAny_storeName_cell I.ok.kind Z hc z (λh' a2 hs=>?_);obtain⟨oc,a3,a4⟩:=id z;refine h { s with heap:=h' } ⟨I.ok,I.os,I.bare,⟨λb o e n hb hx=>?_,λb o e n hb hx=>?_,I.base.free,λb o e hx=>?_,I.base.tups,I.base.frzs,I.base.tbls⟩,⟨m,hn.sameBut hs (GR (cne x c hc)),λj y v' G U e3=>?_⟩,λy c' e=>?_,I.free,I.freeC,λp hp=>?_,D ⟨oc,a3,I.freeC x c hc⟩ hs,by simpa using I.len⟩ ⟨c,hs,.inr hc⟩
  .exact(hs.2 b (FX (FU (vl e) (I.ok.cab x c aO hc)))).trans (I.base.keep b o e n hb hx)
  .obtain⟨sl,G⟩:=I.base.slot b o e n hb hx;exact⟨sl,(hs.2 b (FX (FU (vl e) (I.ok.cab x c aO hc)))).trans G⟩
  .obtain⟨o',G⟩:=I.base.there b o e hx;exact⟨o',(hs.2 b (FX (FU (vl e) (I.ok.cab x c aO hc)))).trans G⟩
  .by_cases hj:j=i
   .subst hj;rw[hi]at G;cases G
    rw[Gu Y]at U;cases U;exact⟨u,r,.inr ⟨.inl Z,c,hc,a2⟩⟩
   .rw[F1 (GR hj)]at U;obtain⟨u',r',q⟩:=hl j y v' G U e3;refine⟨u',r',?_⟩;rcases q with q|⟨k,c',e,z'⟩
    .exact .inl q
    .refine .inr ⟨k,c',e,z'.sameBut hs ?_⟩;rintro rfl;exact hj (jQ hN G (I.ok.inj _ _ _ e hc▸hi))
  .by_cases a5:c'=c
   .subst a5;exact⟨_,a2⟩
   .obtain⟨w2,z2⟩:=I.cell y c' e;exact⟨w2,z2.sameBut hs a5⟩
  .obtain⟨e,n,ne,nf,d⟩:=I.pin p hp;refine⟨(hs.2 p.1 ?_).trans e,n,ne,nf,d⟩;intro q;rw[q,a3]at e;have q':=FV e;exact d w' (by rw[<- q'];exact a4)
def gY{i:Nat}{x:Str}{v:V}{u:Value}{Q:Unit->Shared->Prop}(I:Inv X pins σ H s)(z:X.N.Nodup)(hi:X.N[i]?=some x)(hx:Loc X.env.scope x)(r:aE v u)
  (h:∀s',Inv X pins (σ.set i (some v)) H s'->Q () s') (D:X.fn x=true\/X.env.scope.names.lookup x=some .local:=by first|exact .inl rfl|exact .inr rfl|assumption):wpAny M A (storeName X.env x u) Q E s:=
 lB I z hi hx r (λs' G _=>h s' G) D
def Inv.call'(I:Inv X pins σ H s)(D:s'.os=s.os)(u:Un (frs X.stack) ch H H' s.heap s'.heap)(hok:HOk X.prog X.w H' s'.heap)(G:AllBare s'.gens)
  (z:∀b∈ch,(b∈X.ex\/X.s₀.heap.objs.size<=b)/\b≠X.env.locals/\(∀x c,X.env.cells.lookup x=some c->c≠b)/\∀p∈X.pn++pins,p.1≠b):Inv X pins σ H' s':=by
 obtain⟨h',g',d',t',o'⟩:=s';have e:=D;subst e;exact I.call u hok G z
end
noncomputable abbrev XK:=Value->Option Addr->Hp->Prop
noncomputable abbrev St:=List (Option V)
noncomputable abbrev VK:=V->Hp->Prop
noncomputable abbrev TE:=St->Hp->VK->Prop
noncomputable abbrev TT:=St->Hp->(Bool->Hp->Prop)->Prop
noncomputable abbrev TA:=St->Hp->(List V->Hp->Prop)->Prop
structure nt where
 nx:St->Hp->Prop
 rt:VK
 bk:St->Hp->Prop:=λ_ _=>False
 ct:St->Hp->Prop:=λ_ _=>False
noncomputable abbrev TS:=nt->St->Hp->Prop
def EP(X:Cx)(pins:List (Addr×Obj))(σ:St)(Q:VK)(u:Value)(s':Shared):Prop:=∃v H',Inv X pins σ H' s'/\aE v u/\Q v H'
def TP(X:Cx)(pins:List (Addr×Obj))(σ:St)(Q:Bool->Hp->Prop)(b:Bool)(s':Shared):Prop:=∃H',Inv X pins σ H' s'/\Q b H'
def AP(X:Cx)(pins:List (Addr×Obj))(σ:St)(Q:List V->Hp->Prop)(us:List Value)(s':Shared):Prop:=∃vs H',Inv X pins σ H' s'/\aA vs us/\Q vs H'
def SP(X:Cx)(pins:List (Addr×Obj))(D:nt)(f:Flow)(s':Shared):Prop:=
 match f with
 | .next=>∃M H',Inv X pins M H' s'/\D.nx M H'
 | .brk=>∃M H',Inv X pins M H' s'/\D.bk M H'
 | .cont=>∃M H',Inv X pins M H' s'/\D.ct M H'
 | .ret u=>∃v M H',Inv X pins M H' s'/\aE v u/\D.rt v H'
def PE(X:Cx)(e:Expr)(t:TE):Prop:=
 ∀pins s (σ:St) H Q,Inv X pins σ H s->t σ H Q->wpAny (model X.prog X.w) X.A (eval e X.env) (EP X pins σ Q) X.xe s
def PT(X:Cx)(e:Expr)(t:TT):Prop:=
 ∀pins s (σ:St) H Q,Inv X pins σ H s->t σ H Q->wpAny (model X.prog X.w) X.A (isTrue e X.env (eval e X.env)) (TP X pins σ Q) X.xe s
def PW(X:Cx)(e:Expr)(t:TT):Prop:=
 ∀whole pins s (σ:St) H Q,Inv X pins σ H s->t σ H Q->wpAny (model X.prog X.w) X.A (isTrue e X.env whole) (TP X pins σ Q) X.xe s
theorem PW.pt(h:PW X e t):PT X e t:=h _
def PA(X:Cx)(es:List Expr)(t:TA):Prop:=
 ∀pos pins s (σ:St) H Q,Inv X pins σ H s->t σ H Q->wpAny (model X.prog X.w) X.A (spliced (backTo pos (starEach es X.env))) (AP X pins σ Q) X.xe s
def PS(X:Cx)(st:Stmt)(t:TS):Prop:=
 ∀pins s (σ:St) H D,Inv X pins σ H s->t D σ H->wpAny (model X.prog X.w) X.A (exec st X.env) (SP X pins D) X.xe s
def PSs(X:Cx)(st:List Stmt)(t:TS):Prop:=
 ∀pins s (σ:St) H D,Inv X pins σ H s->t D σ H->wpAny (model X.prog X.w) X.A (execs st X.env) (SP X pins D) X.xe s
def thn(h:wpAny M A t Q E s)(z:∀a s,Q a s->D a s):wpAny M A t D E s:=F8 h z λ_ _ x=>x
section
variable{X:Cx}
def bin(J:PE X a ta)(U:PE X b tb){σ:St}{R:V->V->Hp->Prop}(I:Inv X pins σ H s)(h:ta σ H λx H1=>tb σ H1 λy H2=>R x y H2)
  {f:Value->Value->Sem α}
  (Y:∀v u G x y H2,Inv X pins σ H2 G->aE x v->aE y u->R x y H2->wpAny (model X.prog X.w) X.A (f v u) Q X.xe G) :
  wpAny (model X.prog X.w) X.A (eval a X.env) (λv z=>wpAny (model X.prog X.w) X.A (eval b X.env) (λu D=>wpAny (model X.prog X.w) X.A (f v u) Q X.xe D) X.xe z) X.xe s:=by
 refine thn (J pins s σ H _ I h) λv s1 ⟨x,H1,Z,r1,q1⟩=>?_
 refine thn (U pins s1 σ H1 _ Z q1) λu G ⟨y,H2,I2,r2,q2⟩=>?_
 exact Y v u G x y H2 I2 r1 r2 q2
noncomputable def zE(i:Nat):TE:=λσ H Q=>∃v,σ[i]?=some (some v)/\Q v H
noncomputable def tC(v:V):TE:=λ_ H Q=>Q v H
def tz (J:X.N[i]?=some x) (U:Vis X.env.scope x) (hd:(x==("__debug__":Str))=false:=by decide) (G:(x==("__classdict__":Str))=false:=by decide):PE X (.Name x pos) (zE i):=by
 intro pins s σ H Q I h;obtain⟨v,e,h⟩:=h;obtain⟨m,Y,Z⟩:=I.loc;obtain⟨u,r,l⟩:=Z i x v J e U;have fin:EP X pins σ Q u s:=⟨v,H,I,r,h⟩;rcases l with⟨D,hm⟩|⟨D,c,hc,z⟩
 .exact wpAny_Name (wpAny_loadName_local I.ok.kind D Y hm fin) hd
 .rcases D with D|D
  .exact wpAny_Name (wpAny_loadName_cell I.ok.kind D hc z fin) hd
  .exact wpAny_Name (wpAny_loadName_free I.ok.kind D hc z fin G) hd
def mr{i j pos}:PE X (.Constant (.int i) j pos) (tC (.int i)):=λ_ _ _ H _ I h=>wpAny_Constant_int ⟨.int i,H,I.tok _,⟨_,rfl⟩,h⟩
def yO{b j pos}:PE X (.Constant (.bool b) j pos) (tC (.bl b)):=λ_ _ _ H _ I h=>Constant_bool ⟨.bl b,H,I,rfl,h⟩
def zF{j pos}:PE X (.Constant .none j pos) (tC .non):=λ_ _ _ H _ I h=>Constant_none ⟨.non,H,I,rfl,h⟩
def jR{x j pos}:PE X (.Constant (.str x) j pos) (tC (.str x)):=λ_ _ _ H _ I h=>Calls.Constant_str ⟨.str x,H,I.tok _,⟨_,rfl⟩,h⟩
def Gl(X:Cx)(x:Str):Prop:=X.env.kindOf x=some .globalImplicit
def d9{pins:List (Addr×Obj)}{s:Shared}{σ:St}{H:Hp}{x:Str}{u:Value}{pos:Pos}{Q:Value->Shared->Prop}(I:Inv X pins σ H s)(z:Gl X x)(D:X.mg x=some u)(h:Q u s)
  (hd:(x==("__debug__":Str))=false:=by decide):wpAny (model X.prog X.w) X.A (eval (.Name x pos) X.env) Q E s:=
 Calls.Name_function_global I.ok.kind z (Calls.loadGlobal_global (by rw[I.ok.glob];exact I.mod.glob.keeps I.bk) D h) hd
def fG{E:Value->Shared->Prop}{pins:List (Addr×Obj)}{s:Shared}{σ:St}{H:Hp}{x:Str}{u:Value}{pos:Pos}{Q:Value->Shared->Prop}(I:Inv X pins σ H s)(z:Gl X x)(D:X.mg x=none)(G:bootBuiltins x=some u)(h:Q u s)
  (J:x ≠ "__name__":=by decide) (hd:(x==("__debug__":Str))=false:=by decide):wpAny (model X.prog X.w) X.A (eval (.Name x pos) X.env) Q E s:=by
 obtain⟨U,h1,h2⟩:=I.mod.blt;exact Calls.Name_function_global I.ok.kind z (Calls.loadGlobal_builtin (by rw[I.ok.glob];exact I.mod.glob.keeps I.bk) D (by rw[I.ok.blt];exact h1.keeps I.bk) ((h2 x J).trans G) h) hd
def qz (z:Gl X x) (D:X.mg x=some u) (r:aE v u) (hd:(x==("__debug__":Str))=false:=by decide):PE X (.Name x pos) (tC v):=
 λ_ _ _ H _ I h=>d9 I z D ⟨v,H,I,r,h⟩ hd
def wJ (z:Gl X x) (D:X.mg x=none) (G:bootBuiltins x=some u) (r:aE v u) (J:x ≠ "__name__":=by decide) (hd:(x==("__debug__":Str))=false:=by decide):PE X (.Name x pos) (tC v):=
 λ_ _ _ H _ I h=>fG I z D G ⟨v,H,I,r,h⟩ J hd
variable{a b:Expr}{ta tb:TE}{pos:Pos}
noncomputable def tB(t:TE):TT:=λσ H Q=>t σ H λx H1=>∃c,x=.bl c/\Q c H1
def o9(h:PE X e t)(z:∀whole,isTrue e X.env whole=(do let v <- whole;standAt e.pos;holding [v] (truthy v)):=by intro _;rfl):PT X e (tB t):=by
 intro pins s σ H Q I hw;refine isTrue_plain (thn (h pins s σ H _ I hw) λv s1 ⟨x,H1,D,G,J⟩=>?_) (z _);obtain⟨d,rfl,q⟩:=J;cases G;exact GI ⟨H1,D,q⟩
variable{tA tB':TT}{bz:List Expr}
noncomputable def E2(t u:TT):TT:=λσ H Q=>t σ H λc H1=>if c=true then u σ H1 Q else Q false H1
noncomputable def tOr(t u:TT):TT:=λσ H Q=>t σ H λc H1=>if c=true then Q true H1 else u σ H1 Q
noncomputable def E3(t:TT):TT:=λσ H Q=>t σ H λc H1=>Q (!c) H1
def wK(z:PT X a tA):PW X (.BoolOp .And [a] pos) tA:=by
 intro D pins s σ H Q I h;refine isTrue_and (thn (z pins s σ H Q I h) λc s1 e=>?_);cases c<;>first|exact isTrue_and_nil e|exact e
def zG(z:PT X a tA):PW X (.BoolOp .Or [a] pos) tA:=by
 intro D pins s σ H Q I h;refine isTrue_or (thn (z pins s σ H Q I h) λc s1 e=>?_);cases c<;>first|exact isTrue_or_nil e|exact e
def zH(G:PT X a tA)(J:PW X (.BoolOp .And (b::bz) pos) tB'):PW X (.BoolOp .And (a::b::bz) pos) (E2 tA tB'):=by
 intro U pins s σ H Q I h;refine isTrue_and (thn (G pins s σ H _ I h) λc s1 ⟨H1,z,D⟩=>?_);cases c<;>first|exact J U pins s1 σ H1 Q z D|exact⟨H1,z,D⟩
def Ck(G:PT X a tA)(J:PW X (.BoolOp .Or (b::bz) pos) tB'):PW X (.BoolOp .Or (a::b::bz) pos) (tOr tA tB'):=by
 intro U pins s σ H Q I h;refine isTrue_or (thn (G pins s σ H _ I h) λc s1 ⟨H1,z,D⟩=>?_);cases c<;>first|exact⟨H1,z,D⟩|exact J U pins s1 σ H1 Q z D
def tD(z:PT X a tA):PT X (.UnaryOp .Not a pos) (E3 tA):=by
 intro pins s σ H Q I h;exact isTrue_not (z pins s σ H (λc H1=>Q _ H1) I h)
noncomputable def Cl(ta tb:TE):TE:=λσ H Q=>ta σ H λx H1=>∃c,x=.bl c/\if c=true then tb σ H1 Q else Q (.bl false) H1
noncomputable def E4(ta tb:TE):TE:=λσ H Q=>ta σ H λx H1=>∃c,x=.bl c/\if c=true then Q (.bl true) H1 else tb σ H1 Q
noncomputable def Cm(ta:TE):TE:=λσ H Q=>ta σ H λx H1=>∃c,x=.bl c/\Q (.bl (!c)) H1
def tG{op}(h:PE X a t):PE X (.BoolOp op [a] pos) t:=λpins s σ H Q I hw=>BoolOp_one (h pins s σ H Q I hw)
def zI(G:PE X a ta)(J:PE X (.BoolOp .And (b::bz) pos) tb):PE X (.BoolOp .And (a::b::bz) pos) (Cl ta tb):=by
 intro pins s σ H Q I h;refine BoolOp_and (thn (G pins s σ H _ I h) λv s1 ⟨x,H1,D,U,z⟩=>?_);obtain⟨c,rfl,z⟩:=z;cases U;refine GI ?_;cases c<;>first|exact J pins s1 σ H1 Q D z|exact⟨.bl false,H1,D,rfl,z⟩
def Cn(G:PE X a ta)(J:PE X (.BoolOp .Or (b::bz) pos) tb):PE X (.BoolOp .Or (a::b::bz) pos) (E4 ta tb):=by
 intro pins s σ H Q I h;refine BoolOp_or (thn (G pins s σ H _ I h) λv s1 ⟨x,H1,D,U,z⟩=>?_);obtain⟨c,rfl,z⟩:=z;cases U;refine GI ?_;cases c<;>first|exact J pins s1 σ H1 Q D z|exact⟨.bl true,H1,D,rfl,z⟩
def zJ(D:PE X a ta):PE X (.UnaryOp .Not a pos) (Cm ta):=by
 intro pins s σ H Q I h;refine UnaryOp_ (thn (D pins s σ H _ I h) λv s1 ⟨x,H1,G,J,z⟩=>?_);obtain⟨c,rfl,z⟩:=z;cases J;exact not_of (GI ⟨.bl _,H1,G,rfl,z⟩)
noncomputable def tIf(t:TT)(ta tb:TE):TE:=λσ H Q=>t σ H λc H1=>if c=true then ta σ H1 Q else tb σ H1 Q
def tH(hc:PT X c tA)(G:PE X a ta)(J:PE X b tb):PE X (.IfExp c a b pos) (tIf tA ta tb):=by
 intro pins s σ H Q I h;refine wpAny_IfExp (thn (hc pins s σ H _ I h) λd s1 ⟨H1,z,D⟩=>?_);cases d<;>first|exact G pins s1 σ H1 Q z D|exact J pins s1 σ H1 Q z D
end
def SqL(K:IF)(H:Hp)(a:Addr)(xs:List V):Prop:=
 Rd H a (.lst xs) \/
  ∃o its n,K.lookup a=some o/\o.cls=.type "list"/\o.dict=none/\o.data=.seq its n/\its.size<=sizeLine/\aA xs its.toList
def SqT(K:IF)(H:Hp)(a:Addr)(xs:List V):Prop:=
 Rd H a (.tup xs) \/
  ∃o its n,K.lookup a=some o/\o.cls=.type "tuple"/\o.data=.seq its n/\its.size<=sizeLine/\aA xs its.toList
noncomputable def E5:Value->Option V
 | .none=>some .non
 | .bool b=>some (.bl b)
 | .int i _=>some (.int i)
 | .str x _=>some (.str x)
 | .bytes b _=>some (.byt b)
 | .float b _=>some (.flt b)
 | .ref a=>some (.ref a)
 | .type n=>some (.ty n)
 | _=>none
theorem aE.abs(r:aE x u):E5 u=some x:=by
 cases x<;>first|(cases r;rfl)|(obtain⟨t,rfl⟩:=r;rfl)
theorem aE.inj(r:aE x u)(q:aE y u):x=y:=FV (r.abs.symm.trans q.abs)
theorem aA.inj:∀{xs ys}{us},aA xs us->aA ys us->xs=ys
 | _,_,_,.nil,.nil=>rfl
 | _,_,_,.cons r t,.cons z t'=>by rw[r.inj z,aA.inj t t']
section
variable{X:Cx}{pins:List (Addr×Obj)}{σ:St}{H:Hp}{s:Shared}{a:Addr}{xs ys:List V}
theorem SqL.of{K:IF}(h:H a=some (.lst xs)):SqL K H a xs:=.inl (.inl h)
theorem SqT.of{K:IF}(h:H a=some (.tup xs)):SqT K H a xs:=.inl (.inl h)
theorem Inv.list(I:Inv X pins σ H s)(h:SqL X.K H a xs):∃its,aA xs its/\PlainL s.heap a its.toArray/\xs.length<=sizeLine:=by
 rcases h with h|⟨o,its,n,D,hc,hd,hs,hz,r⟩
 .obtain⟨z,its,n,r,e⟩:=h.ok I.hok;exact⟨its,r,⟨_,n,e,rfl,rfl,rfl⟩,z⟩
 .refine⟨its.toList,r,⟨o,n,I.kIn a o D,hc,hd,by simpa using hs⟩,?_⟩;have e:=r.length
  simp_all
def Inv.tuple(I:Inv X pins σ H s)(h:SqT X.K H a xs):∃its,aA xs its/\IsTup s.heap a its.toArray/\xs.length<=sizeLine:=by
 rcases h with h|⟨o,its,n,D,hc,hs,hz,r⟩
 .obtain⟨z,its,r,p⟩:=h.ok I.hok;exact⟨its,r,p,z⟩
 .refine⟨its.toList,r,⟨o,I.kIn a o D,hc,n,by simpa using hs⟩,?_⟩;have e:=r.length
  simp_all
def Inv.list_inj(I:Inv X pins σ H s)(h:SqL X.K H a xs)(h':SqL X.K H a ys):xs=ys:=by
 obtain⟨its,r,⟨o,n,e,_,_,d⟩,_⟩:=I.list h;obtain⟨its',z,⟨o',n',e',_,_,d'⟩,_⟩:=I.list h';rw[e]at e';cases e'
 rw[d]at d';injection d' with D _
 have:its=its':=by simpa using GL Array.toList D
 subst this;exact r.inj z
def Inv.tuple_inj(I:Inv X pins σ H s)(h:SqT X.K H a xs)(h':SqT X.K H a ys):xs=ys:=by
 obtain⟨its,r,⟨o,e,_,n,d⟩,_⟩:=I.tuple h;obtain⟨its',z,⟨o',e',_,n',d'⟩,_⟩:=I.tuple h';rw[e]at e';cases e'
 rw[d]at d';injection d' with D _
 have:its=its':=by simpa using GL Array.toList D
 subst this;exact r.inj z
end
noncomputable abbrev Cx.wish(X:Cx)(E:Value->Shared->Prop):Cx:={ X with xe:=E }
noncomputable abbrev Cx.nox(X:Cx):Cx:=X.wish λ_ _=>False
theorem Cx.Ok.wish{X:Cx}(ok:X.Ok)(E:Value->Shared->Prop):(X.wish E).Ok:=
 ⟨ok.mod,ok.kind,ok.glob,ok.blt,ok.above,ok.inj,ok.has,ok.cab,ok.hd,ok.frames,ok.stk,ok.exf,ok.bs,ok.bsz,ok.noex,ok.exfs,ok.funs,ok.frf⟩
theorem Cx.Ok.unwish{X:Cx}{E:Value->Shared->Prop}(ok:(X.wish E).Ok):X.Ok:=
 ⟨ok.mod,ok.kind,ok.glob,ok.blt,ok.above,ok.inj,ok.has,ok.cab,ok.hd,ok.frames,ok.stk,ok.exf,ok.bs,ok.bsz,ok.noex,ok.exfs,ok.funs,ok.frf⟩
section
variable{X:Cx}{pins:List (Addr×Obj)}{σ:St}{H:Hp}{s:Shared}{E:Value->Shared->Prop}
theorem Inv.wish(I:Inv X pins σ H s)(E:Value->Shared->Prop):Inv (X.wish E) pins σ H s:=⟨I.ok.wish E,I.os,I.bare,I.base,I.loc,I.cell,I.free,I.freeC,I.pin,I.hok,I.len⟩
theorem Inv.unwish(I:Inv (X.wish E) pins σ H s):Inv X pins σ H s:=⟨I.ok.unwish,I.os,I.bare,I.base,I.loc,I.cell,I.free,I.freeC,I.pin,I.hok,I.len⟩
theorem SP.unwish(h:SP (X.wish E) pins D f s'):SP X pins D f s':=by
 cases f<;>first|(obtain⟨M,H',I,q⟩:=h;exact⟨M,H',I.unwish,q⟩)|(obtain⟨v,M,H',I,r,q⟩:=h;exact⟨v,M,H',I.unwish,r,q⟩)
theorem PSs.nox{st:List Stmt}(h:PSs X.nox st t):PSs X st t:=λpins s σ H D I hw =>
 F8 (h pins s σ H D (I.wish _) hw) (λ_ _ q=>q.unwish) λ_ _ z=>False.elim z
end
section
variable{X:Cx}{st:Stmt}{bz:List Stmt}{t u:TS}{e:Expr}{te:TE}{pos:Pos}
noncomputable def Co:TS:=λD σ H=>D.nx σ H
noncomputable def E6(t u:TS):TS:=λD σ H=>t { D with nx:=u D } σ H
def gZ:PSs X [] Co:=λ_ _ σ H _ I h=>G7 ⟨σ,H,I,h⟩
def fH(h1:PS X st t)(h2:PSs X bz u):PSs X (st::bz) (E6 t u):=by
 intro pins s σ H D I h;refine HK (thn (h1 pins s σ H { D with nx:=u D } I h) λf s1 q=>?_);cases f with
 |next =>
  obtain⟨M,H',z,q⟩:=q;exact h2 pins s1 M H' D z q
 | _=>exact q
def jz(h1:PS X st t):PSs X [st] t:=by
 intro pins s σ H D I h;refine HK (thn (h1 pins s σ H D I h) λf s1 q=>?_);cases f with
 |next=>exact G7 q
 |ret v=>exact q
 |brk=>exact q
 |cont=>exact q
def Inv.quiet(I:Inv X pins σ H s):interactive X.env=false:=by simp[interactive,I.ok.kind]
noncomputable def Cq(te:TE):TS:=λD σ H=>te σ H λ_ H1=>D.nx σ H1
def mv(z:PE X e te)(hs:swapsWith e none pos.line X.env=pure false:=by rfl):PS X (.Expr e pos) (Cq te):=by
 intro pins s σ H D I h;exact wpAny_Expr_any (thn (z pins s σ H _ I h) λv s1 ⟨x,H1,G,U,J⟩=>⟨σ,H1,G,J⟩) I.quiet hs
noncomputable def E7(te:TE):TS:=λD σ H=>te σ H D.rt
def gC(z:PE X e te):PS X (.Return (some e) pos) (E7 te):=by
 intro pins s σ H D I h;exact wpAny_Return_some (thn (z pins s σ H _ I h) λv s1 ⟨x,H1,G,J,U⟩=>⟨x,σ,H1,G,J,U⟩)
noncomputable def E8(c:TT)(t u:TS):TS:=λD σ H=>c σ H λb H1=>if b=true then t D σ H1 else u D σ H1
def nu(hc:PT X c tc)(J:PSs X a t)(U:PSs X b u):PS X (.If c a b pos) (E8 tc t u):=by
 intro pins s σ H D I h;refine wpAny_If (thn (hc pins s σ H _ I h) λd s1 ⟨H1,z,G⟩=>?_);cases d<;>first|exact J pins s1 σ H1 D z G|exact U pins s1 σ H1 D z G
noncomputable def zK:TS:=λ_ _ _=>False
def nv:PS X st zK:=λ_ _ _ _ _ _ h=>h.elim
end
noncomputable abbrev TG:=V->St->Hp->(St->Hp->Prop)->Prop
noncomputable abbrev TGs:=List V->St->Hp->(St->Hp->Prop)->Prop
def PG(X:Cx)(target:Expr)(t:TG):Prop:=
 ∀pins s (σ:St) H v u Q,Inv X pins σ H s->aE v u->t v σ H Q ->
  wpAny (model X.prog X.w) X.A (assign target X.env u) (λ_ s'=>∃M H',Inv X pins M H' s'/\Q M H') X.xe s
def PGs(X:Cx)(ts:List Expr)(t:TGs):Prop:=
 ∀pins s (σ:St) H vs us Q,Inv X pins σ H s->aA vs us->t vs σ H Q ->
  wpAny (model X.prog X.w) X.A (assignInOrder ((assignEach ts X.env).map (·.2)) us) (λ_ s'=>∃M H',Inv X pins M H' s'/\Q M H') X.xe s
section
variable{X:Cx}{pos:Pos}
noncomputable def d_(i:Nat):TG:=λv σ H Q=>Q (σ.set i (some v)) H
def f_(z:X.N.Nodup)(hi:X.N[i]?=some x)(hx:Loc X.env.scope x)(D:X.fn x=true\/X.env.scope.names.lookup x=some .local:=by first|exact .inl rfl|exact .inr rfl|assumption):PG X (.Name x pos) (d_ i):=by
 intro pins s σ H v u Q I r h;exact wpAny_assign_Name (gY I z hi hx r (λs' G=>⟨_,H,G,h⟩) D)
noncomputable def wL:TGs:=λvs σ H Q=>vs=[]/\Q σ H
noncomputable def qA(t:TG)(u:TGs):TGs:=λvs σ H Q=>∃v r,vs=v::r/\t v σ H λM H'=>u r M H' Q
def wM:PGs X [] wL:=by
 intro pins s σ H vs us Q I r h;obtain⟨e,h⟩:=h;subst e;cases r;exact assignInOrder_nil ⟨σ,H,I,h⟩
def nw(h1:PG X e t)(h2:PGs X es u)
  (hs:(assignEach (e::es) X.env).map (·.2)=assign e X.env::(assignEach es X.env).map (·.2):=by rfl):PGs X (e::es) (qA t u):=by
 intro pins s σ H vs us Q I r h;obtain⟨v,Y,D,h⟩:=h;subst D;cases r with
 |cons r G =>
  rw[hs];refine assignInOrder_cons (thn (h1 pins s σ H _ _ _ I r h) λ_ s1 ⟨z,H1,J,U⟩=>?_);exact h2 pins s1 z H1 _ _ Q J G U
noncomputable def Cr(K:IF)(n:Nat)(t:TGs):TG:=λv σ H Q=>∃a xs,v=.ref a/\SqT K H a xs/\xs.length=n/\t xs σ H Q
def zL{k:Nat}(hc:X.calm=true)(h:PGs X es t)
  (G:(assignEach es X.env).length=n:=by rfl) (z:(assignEach es X.env).findIdx? (·.1)=none:=by rfl):PG X (.Tuple es k pos) (Cr X.K n t):=by
 intro pins s σ H v u Q I r hw;refine bq λZq J=>?_
 obtain⟨a,xs,U,Y,Z,hw⟩:=hw;subst U;cases r;obtain⟨its,D,ht,hz⟩:=I.tuple Y;refine J ?_;refine assign_Tuple_tuple (I.ok.hd hc) ht (by simp[G,<- Z,D.length]) z λh' hx=>?_
 have I1:=I.kept (t':=s.toks) λb o e=>hx b o (FX (vl e)) e
 exact h pins _ σ H xs _ Q I1 (by simpa using D) hw
noncomputable def rN(te:TE)(g:TG):TS:=λD σ H=>te σ H λx H1=>g x σ H1 D.nx
def gE(z:X.N.Nodup)(hi:X.N[i]?=some x)(hx:Loc X.env.scope x)(G:PE X e te)(hs:swapsWith e (some (.Name x pos')) pos.line X.env=pure false:=by rfl)(J:X.fn x=true\/X.env.scope.names.lookup x=some .local:=by first|exact .inl rfl|exact .inr rfl|assumption) :
  PS X (.Assign [.Name x pos'] e pos) (rN te (d_ i)):=by
 intro pins s σ H D I h;refine wpAny_Assign_Name (thn (G pins s σ H _ I h) λv s1 ⟨y,H1,U,Y,Z⟩=>?_) hs;exact gY U z hi hx Y (λs2 I2=>⟨_,H1,I2,Z⟩) J
end
structure It where
 go:Nat->Hp->Prop
 yld:Nat->Hp->V->Hp->Prop
 stop:Nat->Hp->Prop
def jq(X:Cx)(pins:List (Addr×Obj))(H:Hp)(b:Addr):Prop:=
 H b=none/\b≠X.env.locals/\b∉X.fs/\(b∈X.ex\/X.s₀.heap.objs.size<=b)/\(∀x c,X.env.cells.lookup x=some c->c≠b)/\∀p∈X.pn++pins,p.1≠b
theorem Inv.fpOk{σ:St}{H H':Hp}{s:Shared}{b:Addr}(I:Inv X pins σ H s)(D:s.heap.objs.size<=b)(G:H' b=none):jq X pins H' b:=by
 refine⟨G,GH (FU I.lt D),I.nofs D,.inr (Gg I.sz D),λx c e z=>?_,λp J z=>?_⟩
 .obtain⟨v,q⟩:=I.cell x c e;exact absurd (FU q.lt (by rw[z];exact D)) (Gk _)
 .exact absurd (FU (vl (I.pin p J).1) (by rw[z];exact D)) (Gk _)
structure ny(P:Program)(w:World)(K:IF)(tg:Expr)(J:It)(fp:List Addr)(it:Addr)(tn:Nat->Heap->Prop):Prop where
 mem:it∈fp
 obj:∀i h,tn i h->∀b∈fp,∃o,h.get? b=some o/\∀v,o.data≠.cell v
 keep:∀i h h',tn i h->(∀b∈fp,∀o,h.get? b=some o->h'.get? b=some o)->tn i h'
 item:∀(X:Cx),X.prog=P->X.w=w->X.K=K->X.calm=true->∀(i:Nat) (pins:List (Addr×Obj)) (s:Shared) (σ:St) (H:Hp) (E:Value->Shared->Prop),Inv X pins σ H s->(∀b∈fp,jq X pins H b)->tn i s.heap->J.go i H ->
  wpAny (model P w) X.A (pyNext (.ref it)) (λr s1=>∃u,r=some u /\
   wpAny (model P w) X.A (letOwnedTupleGo tg (.ref it) u) (λ_ s2=>∃x H',Inv X pins σ H' s2/\aE x u/\J.yld i H x H'/\tn (i+1) s2.heap/\∀b∈fp,H' b=none) E s1) E s
 done:∀(X:Cx),X.prog=P->X.w=w->X.K=K->X.calm=true->∀(i:Nat) (pins:List (Addr×Obj)) (s:Shared) (σ:St) (H:Hp) (E:Value->Shared->Prop),Inv X pins σ H s->(∀b∈fp,jq X pins H b)->tn i s.heap->J.stop i H ->
  wpAny (model P w) X.A (pyNext (.ref it)) (λr s1=>r=none/\Inv X pins σ H s1) E s
 self:∀(A:Around) (i:Nat) (s:Shared) (Q:Value->Shared->Prop) (E:Value->Shared->Prop),tn i s.heap->Q (.ref it) s->wpAny (model P w) A (pyIter (.ref it)) Q E s
noncomputable abbrev TI:=St->Hp->(It->Hp->Prop)->Prop
def PIE(X:Cx)(pins:List (Addr×Obj))(σ:St)(tg:Expr)(R:It->Hp->Prop)(z:Value)(D:Shared):Prop:=
 ∃it fp G J H',z=.ref it/\Inv X pins σ H' D/\ny X.prog X.w X.K tg J fp it G/\G 0 D.heap/\(∀b∈fp,jq X pins H' b)/\R J H'
def PI(X:Cx)(tg iter:Expr)(wi:TI):Prop:=
 ∀pins s (σ:St) H R,Inv X pins σ H s->wi σ H R ->
  wpAny (model X.prog X.w) X.A (eval iter X.env) (λv s1=>wpAny (model X.prog X.w) X.A (pyIter v) (PIE X pins σ tg R) X.xe s1) X.xe s
def qB{s:Shared}{tg:Expr}{it:Addr}{u:Value}{o:Obj}{n:String}{vs:Array Value}{Q:Unit->Shared->Prop}(ho:s.heap.get? it=some o)(hc:o.cls=.type n)(hd:o.data=.fields vs)
    (hn:["enumerate","zip","dict_itemiterator","dict_reverseitemiterator","odict_iterator","itertools.zip_longest","itertools.pairwise"].contains n=false) (hQ:Q () s):wpAny M A (letOwnedTupleGo tg (.ref it) u) Q E s:=by
  unfold letOwnedTupleGo;cases tg<;>first
    | exact pb hQ
    | (cases u<;>first
        | exact pb hQ
        | (refine kx (wpAny_load ho ?_)
           rw[hc,hd];show wpAny M A (if (["enumerate","zip","dict_itemiterator","dict_reverseitemiterator","odict_iterator","itertools.zip_longest","itertools.pairwise"].contains n&&vs[0]?==some (rawInt _))=true then _ else _) Q E s;rw[if_neg (by intro h;rw[hn,Bool.false_and]at h;cases h)];exact pb hQ))
noncomputable def Itl(K:IF)(a:Addr):It:=
 ⟨λi H=>∃xs x,SqL K H a xs/\xs[i]?=some x,λi H x H'=>H'=H/\∀xs,SqL K H a xs->xs[i]?=some x,λi H=>∃xs,SqL K H a xs/\xs.length<=i⟩
noncomputable def Itt(K:IF)(a:Addr):It:=
 ⟨λi H=>∃xs x,SqT K H a xs/\xs[i]?=some x,λi H x H'=>H'=H/\∀xs,SqT K H a xs->xs[i]?=some x,λi H=>∃xs,SqT K H a xs/\xs.length<=i⟩
noncomputable def Itr(lo:Int)(n:Nat):It:=⟨λi _=>i<n,λi H x H'=>H'=H/\x=.int (lo+i),λi _=>n<=i⟩
def rO{K:IF}(a it):ny P w K tg (Itl K a) [it] it (λi h=>h.IsListIter it a i) where
 mem:=by simp
 obj:=λi h st b z=>by
  obtain⟨o,e,c,d⟩:=st
  simp_all
 keep:=λi h h' st k=>st.at λo e=>k it (by simp) o e
 item:=by
  intro X U hw Y hc i pins s σ H E I G st Z;refine bq λZq kq=>?_
  subst U hw Y;obtain⟨xs,x,J,hx⟩:=Z;obtain⟨its,rv,p,hz⟩:=I.list J;obtain⟨u,hu,ru⟩:=rv.get hx;obtain⟨f0,f1,f2,f3,f4,f5⟩:=G it (by simp);refine kq ?_;refine wpAny_pyNext_list_item st p.isList (by simpa using hu) λh' D sb=>?_
  have I1:=I.turned (t':=s.toks) (λb o z e=>(sb.2 b z).trans e) f0 f1 f3 f4 f5;obtain⟨o,e,c,d⟩:=id D;exact⟨u,rfl,qB e c d (by decide) ⟨x,H,I1,ru,⟨rfl,λys hy=>by rw[I.list_inj hy J];exact hx⟩,D,λb z=>(G b z).1⟩⟩
 done:=by
  intro X U hw Y hc i pins s σ H E I G st Z;refine bq λZq kq=>?_
  subst U hw Y;obtain⟨xs,J,hx⟩:=Z;obtain⟨its,rv,p,hz⟩:=I.list J;obtain⟨f0,f1,f2,f3,f4,f5⟩:=G it (by simp);have hl:=rv.length;refine kq ?_;exact wpAny_pyNext_list_end (I.ok.hd hc) st p.isList (by simp;omega) λh' eb=>⟨rfl,I.turned (λb o z e=>eb b o z e) f0 f1 f3 f4 f5⟩
 self:=λ_ _ _ _ _ st h=>wpAny_pyIter_listiter st h
def o_{K:IF}(a it):ny P w K tg (Itt K a) [it] it (λi h=>h.IsTupleIter it a i) where
 mem:=by simp
 obj:=λi h st b z=>by
  obtain⟨o,e,c,d⟩:=st
  simp_all
 keep:=λi h h' st k=>st.at λo e=>k it (by simp) o e
 item:=by
  intro X U hw Y hc i pins s σ H E I G st Z;refine bq λZq kq=>?_
  subst U hw Y;obtain⟨xs,x,J,hx⟩:=Z;obtain⟨its,rv,p,hz⟩:=I.tuple J;obtain⟨u,hu,ru⟩:=rv.get hx;obtain⟨f0,f1,f2,f3,f4,f5⟩:=G it (by simp);refine kq ?_;refine wpAny_pyNext_tuple_item st (show s.heap.IsTuple a its.toArray from p) (by simpa using hu) λh' D sb=>?_
  have I1:=I.turned (t':=s.toks) (λb o z e=>(sb.2 b z).trans e) f0 f1 f3 f4 f5;obtain⟨o,e,c,d⟩:=id D;exact⟨u,rfl,qB e c d (by decide) ⟨x,H,I1,ru,⟨rfl,λys hy=>by rw[I.tuple_inj hy J];exact hx⟩,D,λb z=>(G b z).1⟩⟩
 done:=by
  intro X U hw Y hc i pins s σ H E I G st Z;refine bq λZq kq=>?_
  subst U hw Y;obtain⟨xs,J,hx⟩:=Z;obtain⟨its,rv,p,hz⟩:=I.tuple J;obtain⟨f0,f1,f2,f3,f4,f5⟩:=G it (by simp);have hl:=rv.length;refine kq ?_;exact wpAny_pyNext_tuple_end (I.ok.hd hc) st (show s.heap.IsTuple a its.toArray from p) (by simp;omega) λh' eb=>⟨rfl,I.turned (λb o z e=>eb b o z e) f0 f1 f3 f4 f5⟩
 self:=λ_ _ _ _ _ st h=>wpAny_pyIter_tupleiter st h
def pd{K:IF}(it)(lo)(n):ny P w K tg (Itr lo n) [it] it (λi h=>IsRangeIter h it (lo+(i:Nat)*1) ((n:Int)-(i:Nat)) 1) where
 mem:=by simp
 obj:=λi h st b z=>by
  simp_all
 keep:=λi h h' st k=>k it (by simp) _ st
 item:=by
  intro X hP hw hK hc i pins s σ H E I G st J;subst hP hw hK;obtain⟨U,Y,f2,Z,f4,f5⟩:=G it (by simp);have W:=Walks.range (prog:=X.prog) (w:=X.w) (I.ok.hd hc) it lo 1 n;refine W.item i s _ _ J st λv h' tk hv D kk=>?_
  obtain⟨t,rfl⟩:=hv;have I1:Inv X pins σ H { s with heap:=h',toks:=tk }:=I.turned (λb o z e=>kk b o (by simpa using z) e) U Y Z f4 f5;refine⟨_,rfl,qB D rfl rfl (by decide) ⟨.int _,H,I1,⟨t,?_⟩,⟨rfl,rfl⟩,D,λb z=>(G b z).1⟩⟩;rw[Int.mul_one]
 done:=by
  intro X hP hw hK hc i pins s σ H E I G st J;obtain⟨U,Y,f2,Z,f4,f5⟩:=G it (by simp);exact wpAny_pyNext_range_end (I.ok.hd hc) st (by have:n<=i:=J;omega) λh' eb=>⟨rfl,I.turned (λb o z e=>eb b o z e) U Y Z f4 f5⟩
 self:=λ_ _ _ _ _ st h=>wpAny_pyIter_rangeiter st h
section
variable{X:Cx}{tg:Expr}
noncomputable def Cs(K:IF)(tl:TE):TI:=λσ H R=>tl σ H λx H1=>∃a,x=.ref a/\(∃xs,SqL K H1 a xs)/\R (Itl K a) H1
noncomputable def E9(K:IF)(tl:TE):TI:=λσ H R=>tl σ H λx H1=>∃a,x=.ref a/\(∃xs,SqT K H1 a xs)/\R (Itt K a) H1
def qC(D:PE X l tl):PI X tg l (Cs X.K tl):=by
 intro pins s σ H R I h;refine thn (D pins s σ H _ I h) λv s1 ⟨x,H1,z,G,J⟩=>?_
 obtain⟨a,e,⟨xs,U⟩,q⟩:=J;subst e;cases G;obtain⟨its,Z,p,hz⟩:=z.list U;refine HC p.isList ?_;refine⟨s1.heap.objs.size,[s1.heap.objs.size],_,_,H1,rfl,z.kept (t':=s1.toks) λb o e=>mu _ e,rO a _,⟨_,ro _ rfl,rfl,rfl⟩,λb Y=>?_,q⟩;have e:b=s1.heap.objs.size:=by simpa using Y
 subst e;exact z.fpOk (vr _) (z.hok.fresh (vr _))
def tI(D:PE X l tl):PI X tg l (E9 X.K tl):=by
 intro pins s σ H R I h;refine thn (D pins s σ H _ I h) λv s1 ⟨x,H1,z,G,J⟩=>?_
 obtain⟨a,e,⟨xs,U⟩,q⟩:=J;subst e;cases G;obtain⟨its,Z,p,hz⟩:=z.tuple U;refine Hv (show s1.heap.IsTuple a its.toArray from p) ?_;refine⟨s1.heap.objs.size,[s1.heap.objs.size],_,_,H1,rfl,z.kept λb o e=>mu _ e,o_ a _,⟨_,ro _ rfl,rfl,rfl⟩,λb Y=>?_,q⟩;have e:b=s1.heap.objs.size:=by simpa using Y
 subst e;exact z.fpOk (vr _) (z.hok.fresh (vr _))
def nA{σ:St}{H:Hp}{s:Shared}{R:It->Hp->Prop}{E:Value->Shared->Prop}{lo hi:Int}{t u v:Tok}{tk:Nat}(I:Inv X pins σ H s)(h1:-(2 ^ 62)<=lo)(h2:lo<2 ^ 62)(D:-(2 ^ 62)<=hi)(G:hi<2 ^ 62)
  (q:R (Itr lo (hi-lo).toNat) H):wpAny (model X.prog X.w) X.A (pyIter (.ref s.heap.objs.size)) (PIE X pins σ tg R) E { s with heap:=s.heap.push { cls:=.type "range",data:=.fields #[.int lo t,.int hi u,.int 1 v] },toks:=tk }:=by
 refine wpAny_pyIter_range (IsRange.new ..) (small_one h1 h2 D G) ?_;have z:Inv X pins σ H { s with heap:=s.heap.push { cls:=.type "range",data:=.fields #[.int lo t,.int hi u,.int 1 v] },toks:=tk }:=I.kept λb o e=>mu _ e
 refine⟨(s.heap.push { cls:=.type "range",data:=.fields #[.int lo t,.int hi u,.int 1 v] }).objs.size,[(s.heap.push { cls:=.type "range",data:=.fields #[.int lo t,.int hi u,.int 1 v] }).objs.size],_,_,H,rfl,
  z.kept (t':=tk) λb o e=>mu _ e,pd _ lo (hi-lo).toNat,?_,λb J=>?_,q⟩
 .have U:lo+((0:Nat):Int)*1=lo:=by simp
  have Y:(((hi-lo).toNat:Nat):Int)-((0:Nat):Int)=Builtin.Range.rangeSize lo hi 1:=by rw[rangeSize_one];split<;>omega
  show IsRangeIter _ _ (lo+((0:Nat):Int)*1) ((((hi-lo).toNat:Nat):Int)-((0:Nat):Int)) 1;rw[U,Y];exact ro _ rfl
 .have e:b=(s.heap.push { cls:=.type "range",data:=.fields #[.int lo t,.int hi u,.int 1 v] }).objs.size:=by simpa using J
  subst e;exact z.fpOk (vr _) (z.hok.fresh (vr _))
noncomputable def Ct(ta:TA):TI:=λσ H R=>ta σ H λvs H1=>∃j,vs=[.int j]/\-(2 ^ 62)<=j/\j<2 ^ 62/\R (Itr 0 j.toNat) H1
noncomputable def Cu(ta:TA):TI:=λσ H R=>ta σ H λvs H1=>∃i j,vs=[.int i,.int j]/\(-(2 ^ 62)<=i/\i<2 ^ 62/\-(2 ^ 62)<=j/\j<2 ^ 62)/\R (Itr i (j-i).toNat) H1
def lC (D:Gl X "range") (G:X.mg "range"=none) (J:PA X [a] ta) (hs:starEach [a] X.env=[(false,eval a X.env)]:=by rfl):PI X tg (.Call (.Name "range" p) [a] [] pos) (Ct ta):=by
 intro pins s σ H R I h;refine Call_ (fG I D G boot_range (GC (thn (J pos pins s σ H _ I h) λus s1 ⟨vs,H1,U,Y,z⟩=>?_) hs rfl));obtain⟨j,e,z,Z,q⟩:=z;subst e;cases Y with
 |cons r rr =>
  cases rr;obtain⟨t,rfl⟩:=r;exact call_range_1 (nA U (by omega) (by omega) z Z (by simpa using q))
def rP (J:Gl X "range") (U:X.mg "range"=none) (Y:PA X [a,b] ta) (hs:starEach [a,b] X.env=[(false,eval a X.env),(false,eval b X.env)]:=by rfl) (z:starEach [b] X.env=[(false,eval b X.env)]:=by rfl) :
  PI X tg (.Call (.Name "range" p) [a,b] [] pos) (Cu ta):=by
 intro pins s σ H R I h;refine Call_ (fG I J U boot_range (GC (thn (Y pos pins s σ H _ I h) λus s1 ⟨vs,H1,Z,r1,D⟩=>?_) (by rw[hs,z]) (by rw[z];rfl)));obtain⟨i,j,e,⟨D,q2,q3,q4⟩,q⟩:=D;subst e;cases r1 with
 |cons r G =>
  cases G with
  |cons r' G =>
   cases G;obtain⟨t,rfl⟩:=r;obtain⟨t',rfl⟩:=r';exact call_range_2 (nA Z D q2 q3 q4 q)
noncomputable def zM(wi:TI)(g:TG)(tb:TS):TS:=λD σ H=>wi σ H λJ H1=>∃W:Nat->Nat->St->Hp->Prop,(∃m,W 0 m σ H1)/\∀i m σ H,W i m σ H ->
 (J.stop i H/\D.nx σ H)\/(J.go i H/\∃N,(∀M H',N M H'->∃G,G<m/\W (i+1) G M H')/\∀x H',J.yld i H x H'->g x σ H' λz H2=>tb { D with nx:=N,ct:=N,bk:=D.nx } z H2)
noncomputable def iJ(fp:List Addr)(h:Heap):List (Addr×Obj):=fp.filterMap λb=>(h.get? b).map λo=>(b,o)
def cD(z:b∈fp)(e:h.get? b=some o):(b,o)∈iJ fp h:=mem_filterMap.mpr ⟨b,z,by rw[e];rfl⟩
def rQ(z:p∈iJ fp h):p.1∈fp/\h.get? p.1=some p.2:=by
 obtain⟨b,D,e⟩:=mem_filterMap.mp z;cases q:h.get? b with
 |none=>rw[q]at e;cases e
 |some o =>
  rw[q]at e;have e':=FV e;subst e';exact⟨D,q⟩
def Inv.pinned(I:Inv X pins σ H s)(G:∀b∈fp,jq X pins H b)(J:∀b∈fp,∃o,s.heap.get? b=some o/\∀v,o.data≠.cell v):Inv X (pins++iJ fp s.heap) σ H s:=
 I.pins_of λp U=>(mem_append.mp U).elim (λz=>I.pin p (Gh _ z)) λz=>by
  obtain⟨D,e⟩:=rQ z;obtain⟨Y,Z,f2,_⟩:=G p.1 D;obtain⟨o,e',d⟩:=J p.1 D
  simp_all
def Inv.unpinned(I:Inv X (pins++pl) σ H s):Inv X pins σ H s:=I.pins_of λp z=>I.pin p (Gh _ (mem_append_left _ z))
def tJ{iter:Expr}(hp:PassesOwn (model X.prog X.w) X.A X.env X.xe)(hc:X.calm=true)(hi:PI X tg iter wi)(hg:PG X tg g)(G:PSs X body tb)(hs:∀x,foldedSetIterable iter X.env x=pure x:=by intro _;rfl):PS X (.For tg iter body [] pos) (zM wi g tb):=by
 intro pins s σ H D I h;refine wpAny_For (thn (hi pins s σ H _ I h) λv s1 h1=>thn h1 λce s2 h2=>?_) hs;refine bq λZq kq=>?_
 obtain⟨it,fp,tn,J,H2,e,I2,T,a5,f2,W,⟨m0,w0⟩,a2⟩:=h2;subst e;have U:∀{H'},(∀b∈fp,H' b=none)->∀b∈fp,jq X pins H' b:=λhn b G=>⟨hn b G,(f2 b G).2⟩
 refine kq ?_;refine codeAny_forLoop_any (λn s'=>∃i M H',Inv X pins M H' s'/\tn i s'.heap/\(∀b∈fp,H' b=none)/\W i n M H') ?_ m0 ⟨0,σ,H2,I2,a5,λb G=>(f2 b G).1,w0⟩;rintro n s3 ⟨i,Y,H3,I3,a3,a4,w3⟩;rcases a2 i n Y H3 w3 with⟨stop,qn⟩|⟨go,N,hN,step⟩
 .refine Hs hp (thn (T.done X rfl rfl rfl hc i pins s3 Y H3 X.xe I3 (U a4) a3 stop) λr s4 ⟨hr,I4⟩=>?_);subst hr;exact G7 ⟨Y,H3,I4,qn⟩
 .refine Hs hp (thn (T.item X rfl rfl rfl hc i pins s3 Y H3 X.xe I3 (U a4) a3 go) λr s4 ⟨u,hr,h4⟩=>?_);subst hr;refine Hs hp (thn h4 λ_ s5 ⟨x,H5,I5,r5,y5,ap,a7⟩=>?_);have be:=I5.pinned (U a7) (T.obj _ _ ap);refine Hs hp (thn (hg _ s5 Y H5 x u _ be r5 (step x H5 y5)) λ_ s6 ⟨bj,H6,I6,q6⟩=>?_);refine Hs hp (thn (G _ s6 bj H6 _ I6 q6) λf s7 q7=>?_);have again:∀{z}{Z},Inv X (pins++iJ fp s5.heap) z Z s7->N z Z->∃m,m<n/\∃i M H',Inv X pins M H' s7/\tn i s7.heap/\(∀b∈fp,H' b=none)/\W i m M H':=λ{z Z} I7 n7=>by
   obtain⟨m',hm,w7⟩:=hN z Z n7;refine⟨m',hm,i+1,z,Z,I7.unpinned,T.keep _ _ _ ap λb G o e=>(I7.pin (b,o) (Gh _ (Gh _ (cD G e)))).1,λb G=>?_,w7⟩;obtain⟨o,e,d⟩:=T.obj _ _ ap b G;exact(I7.pin (b,o) (Gh _ (Gh _ (cD G e)))).2.1
  cases f<;>first|(obtain⟨z,Z,I7,n7⟩:=q7;exact again I7 n7)|(obtain⟨z,Z,I7,q7⟩:=q7;exact⟨z,Z,I7.unpinned,q7⟩)|(obtain⟨x7,z,Z,I7,r7,q7⟩:=q7;exact⟨x7,z,Z,I7.unpinned,r7,q7⟩)
end
noncomputable abbrev R2:=V->V->Hp->VK->Prop
def OpR(X:Cx)(f:Value->Value->Sem Value)(r:R2):Prop:=
 ∀pins s (σ:St) H x y v u Q,Inv X pins σ H s->aE x v->aE y u->r x y H Q ->
  wpAny (model X.prog X.w) X.A (f v u) (EP X pins σ Q) X.xe s
def bG(X:Cx)(f:Value)(r:List V->Hp->VK->Prop):Prop:=
 ∀pins s (σ:St) H xs us Q,Inv X pins σ H s->aA xs us->r xs H Q ->
  wpAny (model X.prog X.w) X.A (call f us) (EP X pins σ Q) X.xe s
noncomputable def tOp(r:R2)(ta tb:TE):TE:=λσ H Q=>ta σ H λx H1=>tb σ H1 λy H2=>r x y H2 Q
noncomputable def rI(C:Int->Int->Prop)(g:Int->Int->V):R2:=λx y H Q=>∃i j,x=.int i/\y=.int j/\C i j/\Q (g i j) H
noncomputable def rI0(g:Int->Int->V):R2:=λx y H Q=>∃i j,x=.int i/\y=.int j/\Q (g i j) H
section
variable{X:Cx}{a b c:Expr}{ta tb tc:TE}{pos:Pos}
def zN(J:PE X a ta)(U:PE X b tb){R:V->V->Hp->Prop}(I:Inv X pins σ H s)
  (h:ta σ H λx H1=>tb σ H1 λy H2=>R x y H2) {f:Value->Value->Sem Value}
  (Y:∀v u G x y H2,Inv X pins σ H2 G->aE x v->aE y u->R x y H2->wpAny (model X.prog X.w) X.A (f v u) Q X.xe G) :
  wpAny (model X.prog X.w) X.A (eval a X.env) (λv z=>wpAny (model X.prog X.w) X.A (eval b X.env) (λu D=>wpAny (model X.prog X.w) X.A (f v u) Q X.xe D) X.xe z) X.xe s:=by
 refine thn (J pins s σ H _ I h) λv s1 ⟨x,H1,Z,r1,q1⟩=>?_
 refine thn (U pins s1 σ H1 _ Z q1) λu G ⟨y,H2,I2,r2,q2⟩=>?_
 exact Y v u G x y H2 I2 r1 r2 q2
def jS(z:OpR X (binaryOp op) r)(D:PE X a ta)(G:PE X b tb):PE X (.BinOp a op b pos) (tOp r ta tb):=by
 intro pins s σ H Q I h;exact wpAny_BinOp (zN D G I h λv u J x y H2 U Y Z q=>z pins J σ H2 x y v u Q U Y Z q)
def opI{C:Int->Int->Prop}{g:Int->Int->Int}
  (rule:∀i j t u s Q E,C i j->Q (.int (g i j) s.toks) { s with toks:=s.toks+1 }->wpAny (model X.prog X.w) X.A (f (.int i t) (.int j u)) Q E s) :
  OpR X f (rI C λi j=>.int (g i j)):=by
 intro pins s σ H x y v u Q I z D h;obtain⟨i,j,rfl,rfl,hc,q⟩:=h;obtain⟨t,rfl⟩:=z;obtain⟨t',rfl⟩:=D;exact rule i j t t' s _ _ hc ⟨.int (g i j),H,I.tok _,⟨_,rfl⟩,q⟩
def Cv{g:Int->Int->Int}
  (rule:∀i j t u s Q E,Q (.int (g i j) s.toks) { s with toks:=s.toks+1 }->wpAny (model X.prog X.w) X.A (f (.int i t) (.int j u)) Q E s) :
  OpR X f (rI0 λi j=>.int (g i j)):=by
 intro pins s σ H x y v u Q I z D h;obtain⟨i,j,rfl,rfl,q⟩:=h;obtain⟨t,rfl⟩:=z;obtain⟨t',rfl⟩:=D;exact rule i j t t' s _ _ ⟨.int _,H,I.tok _,⟨_,rfl⟩,q⟩
def wN{g:Int->Int->Bool}
  (rule:∀i j t u s Q E,Q (.bool (g i j)) s->wpAny (model X.prog X.w) X.A (f (.int i t) (.int j u)) Q E s) :
  OpR X f (rI0 λi j=>.bl (g i j)):=by
 intro pins s σ H x y v u Q I z D h;obtain⟨i,j,rfl,rfl,q⟩:=h;obtain⟨t,rfl⟩:=z;obtain⟨t',rfl⟩:=D;exact rule i j t t' s _ _ ⟨.bl _,H,I,rfl,q⟩
def E_(i j:Int):Prop:=0<j/\j<1073741824
def Fa(i j:Int):Prop:=0<=j/\j<=1000000/\i.natAbs<2 ^ 64
def zO(i j:Int):Prop:=(-(2 ^ 64)<i/\i<2 ^ 64)\/(-(2 ^ 64)<j/\j<2 ^ 64)
theorem zO.ok(h:zO i j):IntMulOk i j:=by
 rcases h with⟨h1,h2⟩|⟨h1,h2⟩
 .exact .of_left (intBits_le_64 h1 h2)
 .exact .of_right (intBits_le_64 h1 h2)
def pe(k):(0:Int)<=2 ^ k:=
  Int.natCast_nonneg _
def zP:OpR X (binaryOp .Add) (rI0 λi j=>.int (i+j)):=Cv λ_ _ _ _ _ _ _ q=>add_int q
def tK:OpR X (binaryOp .Sub) (rI0 λi j=>.int (i-j)):=Cv λ_ _ _ _ _ _ _ q=>sub_int q
def zQ:OpR X (binaryOp .Mult) (rI zO λi j=>.int (i*j)):=opI λ_ _ _ _ _ _ _ hc q=>mul_int q hc.ok
def wO:OpR X (binaryOp .FloorDiv) (rI E_ λi j=>.int (i / j)):=opI λi j _ _ _ _ _ hc q=>by
 have h1:=hc.1;have h2:=hc.2;exact floordiv_int (by omega) (by rw[Ij i (by omega)];exact q) (.inl (PyProof.noPylong_small (by omega)))
def zR:OpR X (binaryOp .Mod) (rI (λ_ j=>0<j) λi j=>.int (i % j)):=opI λi j _ _ _ _ _ hc q=>by
 exact mod_int' (by omega) (by rw[Int.fmod_eq_emod_of_nonneg i (by omega)];exact q)
def zS:OpR X (binaryOp .Pow) (rI Fa λi j=>.int (i ^ j.toNat)):=opI λ_ _ _ _ _ _ _ hc q=>pow_int_small hc.1 hc.2.1 hc.2.2 q
def zT:OpR X (binaryOp .RShift) (rI (λ_ j=>0<=j) λi j=>.int (i / 2 ^ j.toNat)):=opI λi j _ _ _ _ _ hc q =>
 rshift_int hc (by rw[Ij i (pe _)];exact q)
end
noncomputable def scal:V->V->Bool
 | .non,.non=>true|.non,.int _=>true|.int _,.non=>true|.non,.bl _=>true|.bl _,.non=>true|.non,.str _=>true|.str _,.non=>true
 | .int _,.int _=>true|.bl _,.bl _=>true|.str _,.str _=>true|.byt _,.byt _=>true
 | .int _,.str _=>true|.str _,.int _=>true|.bl _,.str _=>true|.str _,.bl _=>true
 | _,_=>false
noncomputable def rNe:R2:=λx y H Q=>scal x y=true/\Q (.bl (!decide (x=y))) H
def qD :decide (V.int i=V.int j)=(i==j):=by
 rw[G8];simp
def tL :decide (V.bl i=V.bl j)=(i==j):=by
 rw[G8];simp
def qE :decide (V.str i=V.str j)=(i==j):=by
 rw[G8];simp
def wQ :decide (V.byt i=V.byt j)=(i.toList==j.toList):=by
 rw[G8];cases i;cases j;simp
section
variable{X:Cx}{a b c:Expr}{ta tb tc:TE}{pos:Pos}
def bA{σ:St}{H:Hp}{s:Shared}{Q:VK}{k z:Bool}(I:Inv X pins σ H s)(q:Q (.bl k) H)(e:k=z):EP X pins σ Q (.bool z) s:=by
 subst e;exact⟨.bl k,H,I,rfl,q⟩
def Cw:OpR X (compareOp .NotEq) rNe:=by
 intro pins s σ H x y v u Q I D z h;obtain⟨hs,q⟩:=h;cases x with
 |non =>
  cases D;cases y with
  |non=>cases z;exact PySem.EqNone.ne_none_none (bA I q (by simp))
  |bl j=>cases z;exact PySem.EqNone.ne_none_bool (bA I q (by simp))
  |int j=>obtain⟨t',rfl⟩:=z;exact PySem.EqNone.ne_none_int (bA I q (by simp))
  |str j=>obtain⟨t',rfl⟩:=z;exact PySem.EqNone.ne_none_str (bA I q (by simp))
  | _=>exact absurd (show false=true from hs) ow
 |bl i =>
  cases D;cases y with
  |non=>cases z;exact PySem.EqNone.ne_bool_none (bA I q (by simp))
  |bl j=>cases z;exact ne_bool (bA I q (GL not tL))
  |str j=>obtain⟨t',rfl⟩:=z;exact PySem.EqMixed.ne_bool_str (bA I q (by simp))
  | _=>exact absurd (show false=true from hs) ow
 |int i =>
  obtain⟨t,rfl⟩:=D;cases y with
  |non=>cases z;exact PySem.EqNone.ne_int_none (bA I q (by simp))
  |int j=>obtain⟨t',rfl⟩:=z;exact ne_int (bA I q (GL not qD))
  |str j=>obtain⟨t',rfl⟩:=z;exact PySem.EqMixed.ne_int_str (bA I q (by simp))
  | _=>exact absurd (show false=true from hs) ow
 |str i =>
  obtain⟨t,rfl⟩:=D;cases y with
  |non=>cases z;exact PySem.EqNone.ne_str_none (bA I q (by simp))
  |bl j=>cases z;exact PySem.EqMixed.ne_str_bool (bA I q (by simp))
  |int j=>obtain⟨t',rfl⟩:=z;exact PySem.EqMixed.ne_str_int (bA I q (by simp))
  |str j=>obtain⟨t',rfl⟩:=z;exact ne_str (bA I q (GL not qE))
  | _=>exact absurd (show false=true from hs) ow
 |byt i =>
  obtain⟨t,rfl⟩:=D;cases y with
  |byt j=>obtain⟨t',rfl⟩:=z;exact PySem.W.ne_bytes (bA I q (GL not wQ))
  | _=>exact absurd (show false=true from hs) ow
 | _=>cases y<;>exact absurd (show false=true from hs) ow
def yP:OpR X (compareOp .Lt) (rI0 λi j=>.bl (decide (i<j))):=wN λ_ _ _ _ _ _ _ q=>lt_int q
def Cy:OpR X (compareOp .LtE) (rI0 λi j=>.bl (decide (i<=j))):=wN λ_ _ _ _ _ _ _ q=>le_int q
def Cz:OpR X (compareOp .Gt) (rI0 λi j=>.bl (decide (j<i))):=wN λ_ _ _ _ _ _ _ q=>gt_int q
def CA:OpR X (compareOp .GtE) (rI0 λi j=>.bl (decide (j<=i))):=wN λ_ _ _ _ _ _ _ q=>ge_int q
def rR:OpR X (compareOp .In) (λx y H Q=>∃i j,x=.str i/\y=.str j/\Q (.bl (!(Builtin.Str.occurrences j i 0 j.length 1).isEmpty)) H):=by
 intro pins s σ H x y v u Q I z D h;obtain⟨i,j,rfl,rfl,q⟩:=h;obtain⟨t,rfl⟩:=z;obtain⟨t',rfl⟩:=D;exact in_str (bA I q rfl)
def zU:OpR X (compareOp .Is) (λx y H Q=>y=.non/\Q (.bl (decide (x=.non))) H):=by
 intro pins s σ H x y v u Q I z D h;obtain⟨rfl,q⟩:=h;cases D;refine is_none_gen (bA I q ?_);cases x<;>first
  | (cases z;rfl)
  | (obtain⟨t,rfl⟩:=z;rfl)
def wT:OpR X (compareOp .IsNot) (λx y H Q=>y=.non/\Q (.bl (!decide (x=.non))) H):=by
 intro pins s σ H x y v u Q I z D h;obtain⟨rfl,q⟩:=h;cases D;refine isnot_none_gen (bA I q ?_);cases x<;>first
  | (cases z;rfl)
  | (obtain⟨t,rfl⟩:=z;rfl)
def mw:OpR X (compareOp .NotIn) (λx y H Q=>∃i j,x=.str i/\y=.str j/\Q (.bl (!(!(Builtin.Str.occurrences j i 0 j.length 1).isEmpty))) H):=by
 intro pins s σ H x y v u Q I z D h;obtain⟨i,j,rfl,rfl,q⟩:=h;obtain⟨t,rfl⟩:=z;obtain⟨t',rfl⟩:=D;exact notIn_str (bA I q rfl)
def zV(b:Expr){op:CmpOp}(h:op≠.In:=by decide)(h2:op≠.NotIn:=by decide):behindInMarks op b=false:=by
 have z:(op==CmpOp.In)=false:=by cases op<;>first|rfl|exact absurd rfl h
 have D:(op==CmpOp.NotIn)=false:=by cases op<;>first|rfl|exact absurd rfl h2
 cases b<;>simp[behindInMarks,z,D]
def qF(z:OpR X (compareOp op) r)(D:PE X a ta)(G:PE X b tb)(J:behindInMarks op b=false):PE X (.Compare a [op] [b] pos) (tOp r ta tb):=by
 intro pins s σ H Q I h;exact wpAny_Compare1 (zN D G I h λv u U x y H2 Y Z ry q=>z pins U σ H2 x y v u Q Y Z ry q) J
noncomputable def yQ(t:TE):TT:=λσ H Q=>t σ H λx H'=>∃k,x=.bl k/\Q k H'
def qG(D:OpR X (compareOp op) r)(G:PE X a ta)(J:PE X b tb)(U:behindInMarks op b=false):PT X (.Compare a [op] [b] pos) (yQ (tOp r ta tb)):=by
 intro pins s σ H Q I h;refine wpAny_isTrue_Compare1 (thn (G pins s σ H _ I h) λv s1 ⟨x,H1,Y,Z,q1⟩=>thn (J pins s1 σ H1 _ Y q1) λu s2 ⟨y,H2,I2,r2,q2⟩ =>
  thn (D pins s2 σ H2 x y v u _ I2 Z r2 q2) λc s3 ⟨z,H3,I3,r3,k,e,q3⟩=>?_) U
 subst e;cases r3;exact GI ⟨H3,I3,q3⟩
noncomputable def tM(r D:R2)(ta tb tc:TE):TE:=λσ H Q=>ta σ H λx H1=>tb σ H1 λy H2=>r x y H2 λz H3=>∃k,z=.bl k /\
 (if k=true then tc σ H3 λw' H4=>D y w' H4 Q else Q (.bl false) H3)
def tN{op D:CmpOp}{r J:R2}(ho:OpR X (compareOp op) r)(G:OpR X (compareOp D) J)(ha:PE X a ta)(hb:PE X b tb)(hc:PE X c tc)
  (hm:lastMarks [op,D] [b,c]=false:=by with_unfolding_all rfl):PE X (.Compare a [op,D] [b,c] pos) (tM r J ta tb tc):=by
 intro pins s σ H Q I h;refine Compare_chain (thn (ha pins s σ H _ I h) λv s1 ⟨x,H1,I1,r1,q1⟩=>chain_link (thn (hb pins s1 σ H1 _ I1 q1) λu s2 ⟨y,H2,I2,U,q2⟩ =>
  thn (ho pins s2 σ H2 x y v u _ I2 r1 U q2) λd s3 ⟨z,H3,Y,r3,k,e,Z⟩=>?_)) hm
 subst e;cases r3;refine GI ?_;cases k with
 |false=>exact ite_ff ⟨.bl false,H3,Y,rfl,Z⟩
 |true=>exact ite_tt (chain_last (thn (hc pins s3 σ H3 _ Y Z) λw' s4 ⟨z',H4,I4,r4,q4⟩=>G pins s4 σ H4 y z' u w' Q I4 U r4 q4))
def tO{op D:CmpOp}{r J:R2}(ho:OpR X (compareOp op) r)(G:OpR X (compareOp D) J)(ha:PE X a ta)(hb:PE X b tb)(hc:PE X c tc)
  (hm:lastMarks [op,D] [b,c]=false:=by with_unfolding_all rfl):PT X (.Compare a [op,D] [b,c] pos) (yQ (tM r J ta tb tc)):=by
 intro pins s σ H Q I h;refine isTrue_chain (thn (ha pins s σ H _ I h) λv s1 ⟨x,H1,I1,r1,q1⟩=>test_link (thn (hb pins s1 σ H1 _ I1 q1) λu s2 ⟨y,H2,I2,U,q2⟩ =>
  thn (ho pins s2 σ H2 x y v u _ I2 r1 U q2) λd s3 ⟨z,H3,Y,r3,k,e,Z⟩=>?_)) hm
 subst e;cases r3;refine GI ?_;cases k with
 |false =>
  obtain⟨k',e',q'⟩:=Z;cases e';exact ite_ff ⟨H3,Y,q'⟩
 |true =>
  refine ite_tt (test_last (thn (hc pins s3 σ H3 _ Y Z) λw' s4 ⟨z',H4,I4,r4,q4⟩=>thn (G pins s4 σ H4 y z' u w' _ I4 U r4 q4) λd' s5 ⟨z2,H5,I5,r5,k2,e2,q5⟩=>?_));subst e2;cases r5;exact GI ⟨H5,I5,q5⟩
def iK:(sizeLine:Nat)<2 ^ 63:=by simp_all [GP]
def pi:OpR X (binaryOp .Add) (λx y H Q=>∃i j,x=.str i/\y=.str j/\i.length+j.length<=sizeLine/\Q (.str (i++j)) H):=by
 intro pins s σ H x y v u Q I z D h;obtain⟨i,j,rfl,rfl,hz,q⟩:=h;obtain⟨t,rfl⟩:=z;obtain⟨t',rfl⟩:=D;exact add_str (λt' tk=>⟨.str _,H,I.tok _,⟨_,rfl⟩,q⟩) hz
def eT(r:aA [x] us):∃u,us=[u]/\aE x u:=by
 cases r with
 |cons z D=>cases D;exact⟨_,rfl,z⟩
def CB(r:aA [x,y] us):∃u w',us=[u,w']/\aE x u/\aE y w':=by
 cases r with
 |cons z D =>
  cases D with
  |cons G J=>cases J;exact⟨_,_,rfl,z,G⟩
def lD:bG X (.type "int") (λxs H Q=>(∃i,xs=[.int i]/\Q (.int i) H)\/∃k,xs=[.bl k]/\Q (.int (if k then 1 else 0)) H):=by
 intro pins s σ H xs us Q I r h;rcases h with⟨i,rfl,q⟩|⟨k,rfl,q⟩
 .obtain⟨u,rfl,t,rfl⟩:=eT r;exact call_int_int ⟨.int i,H,I,⟨_,rfl⟩,q⟩
 .obtain⟨u,rfl,z⟩:=eT r;cases z;exact call_int_bool ⟨.int _,H,I.tok _,⟨_,rfl⟩,q⟩
end
structure pj(h:Heap)(x dx C:Addr)(mA:Str->Option Value):Prop where
 obj:h.get? x=some (PySem.W.instObj C dx)
 ns:h.Ns1 dx mA
 ne:dx≠x
def rS{h:Heap}{dx:Addr}{mA:Str->Option Value}(n:h.Ns1 dx mA):∃G,h.get? dx=some G/\∀name,PySem.W.lookIn name G=some (mA name):=by
 obtain⟨o,es,ep,J,hd,U,_,Y⟩:=n;refine⟨o,J,λname=>?_⟩;have e:=Y name;unfold nsFind findBy at e;rw[<- Array.find?_toList]at e;unfold PySem.W.lookIn;rw[hd];dsimp only;split
 .rename_i y q;rw[q]at e;exact GL some e
 .rename_i q;rw[q]at e;have a:es.toList.any (·.refKey)=false:=by
   rw[List.any_eq_false];intro y Z;obtain⟨z,t,D⟩:=U y (Array.mem_toList_iff.mp Z);simp[DictEntry.refKey,D]
  have a':¬ es.toList.any (·.refKey)=true:=by rw[a];exact ow
  rw[if_neg a'];exact GL some e
def pj.look{h:Heap}{x dx C:Addr}{mA:Str->Option Value}(I:pj h x dx C mA):∃z,PySem.W.InstAt h x (PySem.W.instObj C dx) C (some z)/\∀name,PySem.W.lookIn name z=some (mA name):=
 let ⟨z,D,G⟩:=rS I.ns
 ⟨z,⟨I.obj,rfl,rfl,D⟩,G⟩
section
variable{prog:Program}{w:World}{A:Around}{E:Value->Shared->Prop}{s:Shared}{K:IF}{x dx C f:Addr}{mA:Str->Option Value}{name:Str}{v:Value}
def wU{expr:Bool}{Q:Value->Shared->Prop}(X:K.In s.heap)(I:pj s.heap x dx C mA)(D:PySem.W.plainGet K C name=true)(hh:PySem.W.hasDictIn K C=true)
  (G:PySem.W.findIn K (.ref C) name=some none) (U:mA name=some v) (z:PySem.W.handedIn v=true) (h:Q v { s with toks:=s.toks+1 }) :
  wpAny (model prog w) A (getAttr (.ref x) name expr) Q E s:=by
 obtain⟨Z,J,Y⟩:=I.look;exact PySem.W.get_value X J (PySem.W.plainGet_of D).1 (PySem.W.findObj_own hh G rfl (by rw[Y,U])) z h
def tP{pl:Sem Bool}{Q:Value×List Value->Shared->Prop}(X:K.In s.heap)(I:pj s.heap x dx C mA)(z:PySem.W.plainGet K C name=true)
  (D:PySem.W.findIn K (.ref C) name=some (some (.ref f))) (G:PySem.W.isFn K (.ref f)=true) (U:mA name=none) (h:Q (.ref f,[.ref x]) s) :
  wpAny (model prog w) A (getMethod (.ref x) name pl) Q E s:=by
 obtain⟨Y,J,Z⟩:=I.look;exact PySem.W.method_fn X J (PySem.W.plainGet_of z).1 (PySem.W.plainGet_of z).2 D (FW.mp G) (by show(PySem.W.lookIn name Y).map (·.isSome)=some false;rw[Z,U];rfl) h
def wV{ns:List Str}{Q:Unit->Shared->Prop}(X:K.In s.heap)(I:pj s.heap x dx C mA)
  (hs:PySem.W.findIn K (.ref C) "__setattr__"=some (some (.builtin "object.__setattr__"))) (hp:PySem.W.plainOver K C=true) (ht:PySem.W.takerIn K C name=some none) (hh:PySem.W.hasDictIn K C=true)
  (hw:PySem.Within mA ns) (aO:ns.length<=sizeLine)
  (h:∀h',pj h' x dx C (λy=>if y=name then some v else mA y)->Heap.SameBut dx s.heap h'->Q () { s with heap:=h',toks:=s.toks+2 }) :
  wpAny (model prog w) A (setAttr (.ref x) name v) Q E s:=by
 obtain⟨od,J,hl⟩:=I.look;refine PySem.W.set_plain X J hs (PySem.W.osa_open (s:={ s with toks:=s.toks+1 }) (r:=none) X J hp ht λb=>?_);obtain⟨cd,hc,G⟩:=PySem.W.any_some hh;have hx:s.heap.get? x=some ⟨.ref C,some dx,.plain,#[]⟩:=I.obj;refine kx (pb (kx (kx (wpAny_loadPart hx (kx (PySem.W.Looks.here (s:={ s with toks:=s.toks+1 }) (PySem.W.looks_clsIn X hc) ?_))))));rw[G];refine pb (a:=some dx) (kx (pb (kx ?_)));refine wpAny_nsSet1 (s:={ s with toks:=s.toks+1 }) I.ns λh' z D=>?_
 obtain⟨oD,a1,a2,U,Y,Z⟩:=z.count (PySem.Within.cons name v hw);refine kx (wpAny_lookBehind U (by rw[Y];exact pastItsLine_dict (Gg Z (by rw[length_cons];omega))) ?_);exact pb (h _ ⟨(D.2 _ (GR I.ne)).trans I.obj,z,I.ne⟩ D)
def tQ{R:Result->Shared->Prop}{vs:List Value}{z:List (Str×Value)}(X:K.In s.heap)(D:PySem.W.makesIn K C=true)
  (hi:PySem.W.findIn K (.ref C) "__init__"=some (some (.ref f))) (G:PySem.W.typeIn K (.ref f)=some (.type "function"))
  (h:codeAny (model prog w) (A.under (.builtin "type.__call__" ⟨.ref C::vs,z⟩)) (.call (.ref f) ⟨.ref (s.heap.objs.size+1)::vs,z⟩) (PySem.W.InitBack (s.heap.objs.size+1) R)
   { s with heap:=(s.heap.push PySem.W.emptyDict).push (PySem.W.instObj C s.heap.objs.size) }) :
  codeAny (model prog w) A (.call (.ref C) ⟨vs,z⟩) R s:=by
 obtain⟨hh,g,d,t,os⟩:=s;exact PySem.W.make_core (PySem.W.makes_of X D) (PySem.W.looks_findIn X hi) (λself=>PySem.W.bind_fn X self G) (.inl rfl) h
end
noncomputable def fJ(f:Str)(v:V):List (Str×V)->List (Str×V)
 | []=>[(f,v)]
 | (g,x)::r=>if g=f then(g,v)::r else(g,x)::fJ f v r
theorem jb(f g:Str)(v:V):∀fs:List (Str×V),(fJ f v fs).lookup g=if g=f then some v else fs.lookup g
 | []=>by
  show List.lookup g [(f,v)]=_;by_cases h:g=f
  .have z:(g==f)=true:=FW.mpr h;simp only[List.lookup,z,if_pos h]
  .have z:(g==f)=false:=GJ.mpr h;simp only[List.lookup,z,if_neg h]
 | (k,x)::r=>by
  have ih:=jb f g v r;rw[show fJ f v ((k,x)::r)=(if k=f then(k,v)::r else(k,x)::fJ f v r)from rfl];by_cases D:k=f
  .rw[if_pos D];by_cases h:g=k
   .have z:(g==k)=true:=FW.mpr h;simp only[List.lookup,z,if_pos (h.trans D)]
   .have z:(g==k)=false:=GJ.mpr h;simp only[List.lookup,z,if_neg (λe:g=f=>h (e.trans D.symm))]
  .rw[if_neg D];by_cases h:g=k
   .have z:(g==k)=true:=FW.mpr h;simp only[List.lookup,z,if_neg (λe:g=f=>D (h.symm.trans e))]
   .have z:(g==k)=false:=GJ.mpr h;simp only[List.lookup,z];exact ih
theorem iL(f:Str)(v:V):∀fs:List (Str×V),f∈(fJ f v fs).map (·.1)/\∀g,g∈fs.map (·.1)->g∈(fJ f v fs).map (·.1)
 | []=>⟨by simp[fJ],λg h=>by simp at h⟩
 | (k,x)::r=>by
  obtain⟨D,G⟩:=iL f v r;rw[show fJ f v ((k,x)::r)=(if k=f then(k,v)::r else(k,x)::fJ f v r)from rfl];by_cases z:k=f
  .rw[if_pos z];subst z;exact⟨by simp,λg h=>by simpa using h⟩
  .rw[if_neg z];refine⟨?_,λg h=>?_⟩
   .rw[F0];exact Gp _ D
   .rw[F0]at h ⊢;rcases y1.mp h with e|e
    .exact y1.mpr (.inl e)
    .exact Gp _ (G g e)
theorem jc(f:Str)(v:V):∀fs:List (Str×V),(fJ f v fs).length<=fs.length+1
 | []=>by simp[fJ]
 | (k,x)::r=>by
  have ih:=jc f v r;rw[show fJ f v ((k,x)::r)=(if k=f then(k,v)::r else(k,x)::fJ f v r)from rfl];by_cases z:k=f
  .rw[if_pos z,length_cons,length_cons];omega
  .rw[if_neg z,length_cons,length_cons];omega
def lf.some_of(r:lf (some v) o):∃u,o=some u/\aE v u:=by
 cases o with
 |none=>exact(show False from r).elim
 |some u=>exact⟨u,rfl,r⟩
def lf.none_of{o:Option Value}(r:lf none o):o=none:=by
 cases o with
 |none=>rfl
 |some u=>exact(show False from r).elim
def rT{v:V}{u:Value}(r:aE v u):PySem.W.handedIn u=true:=by
 cases v with
 |non=>cases (show u=Value.none from r);rfl
 |bl b=>cases (show u=Value.bool b from r);rfl
 |int i=>obtain⟨t,e⟩:=(show ∃t,u=Value.int i t from r);cases e;rfl
 |str x=>obtain⟨t,e⟩:=(show ∃t,u=Value.str x t from r);cases e;rfl
 |byt b=>obtain⟨t,e⟩:=(show ∃t,u=Value.bytes b t from r);cases e;rfl
 |flt b=>obtain⟨t,e⟩:=(show ∃t,u=Value.float b t from r);cases e;rfl
 |ref a=>cases (show u=Value.ref a from r);rfl
 |ty n=>cases (show u=Value.type n from r);rfl
section
variable{P:Program}{w:World}{H H':Hp}{h h':Heap}{a C dx:Addr}{fs fs':List (Str×V)}
def mx(hok:HOk P w H h)(e:H a=some (.ins C dx fs)):∃mA,pj h a dx C mA/\(∀f,lf (fs.lookup f) (mA f))/\PySem.Within mA (fs.map (·.1))/\fs.length<=1000/\H dx=some (.own a):=by
 obtain⟨d,z,ne,D,mA,n,r,q⟩:=(show bN P w H h a (.ins C dx fs)from hok a _ e);exact⟨mA,⟨D,n,ne⟩,r,q,z,d⟩
end
structure Cls(K:IF)(C:Addr):Prop where
 pg:PySem.W.plainGet K C Str.empty=true
 hd:PySem.W.hasDictIn K C=true
 po:PySem.W.plainOver K C=true
 sa:PySem.W.findIn K (.ref C) "__setattr__"=some (some (.builtin "object.__setattr__"))
theorem Cls.get{K:IF}{C:Addr}(c:Cls K C)(f:Str):PySem.W.plainGet K C f=true:=c.pg
def cZ(K:IF)(C:Addr)(f:Str):Prop:=PySem.W.findIn K (.ref C) f=some none
def cZ.taker{K:IF}{C:Addr}{f:Str}(n:cZ K C f):PySem.W.takerIn K C f=some none:=by
 unfold PySem.W.takerIn;rw[show PySem.W.findIn K (.ref C) f=some none from n]
 rfl
structure nB(K:IF)(C:Addr)(m:Str)(f:Addr):Prop where
 at_:PySem.W.findIn K (.ref C) m=some (some (.ref f))
 fn:PySem.W.isFn K (.ref f)=true
 kp:PySem.W.keepIn K (.ref f)=true
section
variable{X:Cx}{pins:List (Addr×Obj)}{σ:St}{H:Hp}{s:Shared}{a C dx:Addr}{fs:List (Str×V)}{f:Str}{v:V}{A:Around}{E:Value->Shared->Prop}
def jT{b:Bool}{Q:Value->Shared->Prop}(I:Inv X pins σ H s)(e:H a=some (.ins C dx fs))(c:Cls X.K C)(n:cZ X.K C f)(l:fs.lookup f=some v)
  (h:∀u s',Inv X pins σ H s'->aE v u->Q u s'):wpAny (model X.prog X.w) A (getAttr (.ref a) f b) Q E s:=by
 obtain⟨mA,O,r,_,_,_⟩:=mx I.hok e;obtain⟨u,D,z⟩:=lf.some_of (v:=v) (o:=mA f) (by rw[<- l];exact r f);exact wU I.kIn O (c.get f) c.hd n D (rT z) (h u _ (I.tok _) z)
def pk{m:Str}{g:Addr}{pl:Sem Bool}{Q:Value×List Value->Shared->Prop}(I:Inv X pins σ H s)(e:H a=some (.ins C dx fs))(c:Cls X.K C)(k:nB X.K C m g)(l:fs.lookup m=none)
  (h:Q (.ref g,[.ref a]) s):wpAny (model X.prog X.w) A (getMethod (.ref a) m pl) Q E s:=by
 obtain⟨mA,O,r,_,_,_⟩:=mx I.hok e;have z:mA m=none:=lf.none_of (by rw[<- l];exact r m);exact tP I.kIn O (c.get m) k.at_ k.fn z h
def jU{y:V}{u:Value}{Q:Unit->Shared->Prop}(I:Inv X pins σ H s)(e:H a=some (.ins C dx fs))(c:Cls X.K C)(n:cZ X.K C f)(hl:fs.length<1000)(J:aE y u)
  (h:∀s',Inv X pins σ (upd H a (.ins C dx (fJ f y fs))) s'->Q () s'):wpAny (model X.prog X.w) A (setAttr (.ref a) f u) Q E s:=by
 obtain⟨mA,O,r,wi,_,G⟩:=mx I.hok e;have hz:(fs.map (·.1)).length<=sizeLine:=by rw[FY,GP];omega
 refine wV I.kIn O c.sa c.po n.taker c.hd wi hz λh' D U=>h _ ?_
 have hd:∃o,h'.get? dx=some o:=let ⟨o,_,_,e',_⟩:=D.ns;⟨o,e'⟩
 refine I.write (x:=a) (e:=dx) (by rw[e];exact True.intro) (.inr G) (λb q Y z=>(U.2 b Y).trans z) hd ?_;refine⟨by rw[az O.ne];exact G,?_,O.ne,D.obj,_,D.ns,λg=>?_,λg Z=>?_⟩
 .have:=jc f y fs;omega
 .show lf ((fJ f y fs).lookup g) (if g=f then some u else mA g);rw[jb];by_cases q:g=f
  .rw[if_pos q,if_pos q];exact J
  .rw[if_neg q,if_neg q];exact r g
 .by_cases q:g=f
  .rw[q];exact(iL f y fs).1
  .refine(iL f y fs).2 g (wi g λz=>Z ?_);show(if g=f then some u else mA g)=none;rw[if_neg q];exact z
theorem Inv.made(I:Inv X pins σ H s):Inv X pins σ (upd (upd H s.heap.objs.size (.own (s.heap.objs.size+1))) (s.heap.objs.size+1) (.ins C s.heap.objs.size []))
  { s with heap:=(s.heap.push PySem.W.emptyDict).push (PySem.W.instObj C s.heap.objs.size) }:=by
 have z:(s.heap.push PySem.W.emptyDict).get? s.heap.objs.size=some PySem.W.emptyDict:=ro s.heap rfl;have D:((s.heap.push PySem.W.emptyDict).push (PySem.W.instObj C s.heap.objs.size)).get? (s.heap.objs.size+1)=some (PySem.W.instObj C s.heap.objs.size):=by
  have:=ro (s.heap.push PySem.W.emptyDict) (o:=PySem.W.instObj C s.heap.objs.size) rfl;rwa[F7]at this
 have G:(s.heap.push PySem.W.emptyDict).Ns s.heap.objs.size (λ_=>none):=⟨PySem.W.emptyDict,#[],_,z,rfl,(λe J=>absurd J (by simp)),λ_=>rfl⟩;have U:=I.laid (a:=s.heap.objs.size) (o:=.own (s.heap.objs.size+1)) (h':=s.heap.push PySem.W.emptyDict) (t':=s.toks) (λb u q=>mu _ q) (vr _) ⟨_,z⟩;refine U.laid (a:=s.heap.objs.size+1) (o:=.ins C s.heap.objs.size []) (t':=s.toks) (λb u q=>mu _ q) (Hw (F7 _ _)) ?_;have ne:s.heap.objs.size≠s.heap.objs.size+1:=FX (GU _);refine⟨by rw[az ne,aq],Gv _,ne,D,λ_=>none,(Heap.Ns1.of_empty G).at λo q=>mu _ q,λ_=>True.intro,λy Y=>absurd rfl Y⟩
def wW{prog:Program}{w:World}{env:Env}{e:Expr}{f:Str}{pos:Pos}{s:Shared}{Q:Value->Shared->Prop}(D:attributeBase e f env (eval e env)=eval e env)
  (h:wpAny (model prog w) A (eval e env) (λo z=>wpAny (model prog w) A (getAttr o f true) Q E z) E s):wpAny (model prog w) A (eval (.Attribute e f pos) env) Q E s:=
 Attribute_any_ h (by rw[arm_eval_Attribute,D])
end
noncomputable def Fb(K:IF)(ta:TE)(f:Str):TE:=λσ H Q=>ta σ H λx H1=>∃a C dx fs v,x=.ref a/\H1 a=some (.ins C dx fs)/\Cls K C/\cZ K C f/\fs.lookup f=some v/\Q v H1
noncomputable def Fc(K:IF)(ta tv:TE)(f:Str):TS:=λD σ H=>tv σ H λy H1=>ta σ H1 λx H2=>∃a C dx fs,x=.ref a/\H2 a=some (.ins C dx fs)/\Cls K C/\cZ K C f/\fs.length<1000 /\
 D.nx σ (upd H2 a (.ins C dx (fJ f y fs)))
def CC(X:Cx)(op:Operator)(rd:V->V->Hp->VK->Prop):Prop:=
 ∀(pins:List (Addr×Obj)) (s:Shared) (σ:St) (H:Hp) (x y:V) (u v:Value) (Q:VK),Inv X pins σ H s->aE x u->aE y v->rd x y H Q->wpAny (model X.prog X.w) X.A (inplaceOp op u v) (EP X pins σ Q) X.xe s
noncomputable def wX(K:IF)(ta tv:TE)(rd:V->V->Hp->VK->Prop)(f:Str):TS:=λD σ H=>ta σ H λx H1=>∃a C dx fs v,x=.ref a/\H1 a=some (.ins C dx fs)/\Cls K C/\cZ K C f/\fs.lookup f=some v /\
 tv σ H1 λy H2=>rd v y H2 λz H3=>∃G fs',H3 a=some (.ins C G fs')/\fs'.length<1000/\D.nx σ (upd H3 a (.ins C G (fJ f z fs')))
section
variable{X:Cx}{o e value:Expr}{f:Str}{pos pos' tpos:Pos}{ta tv:TE}
def my(z:PE X e ta)(D:attributeBase e f X.env (eval e X.env)=eval e X.env):PE X (.Attribute e f pos) (Fb X.K ta f):=by
 intro pins s σ H Q I h;refine wW D (thn (z pins s σ H _ I h) λu s1 ⟨x,H1,G,J,a,C,dx,fs,v,ex,ea,c,n,l,q⟩=>?_);subst ex;obtain rfl:u=Value.ref a:=J;exact jT G ea c n l λZ s2 U Y=>⟨v,H1,U,Y,q⟩
def tR(z:PE X o ta)(G:PE X value tv)(hs:swapsWith value (some (.Attribute o f pos')) pos.line X.env=pure false):PS X (.Assign [.Attribute o f pos'] value pos) (Fc X.K ta tv f):=by
 intro pins s σ H D I h;refine plainObj_wpAny_Assign_Attribute (thn (G pins s σ H _ I h) λu s1 ⟨y,H1,J,U,q⟩=>thn (z pins s1 σ H1 _ J q) λY s2 ⟨x,H2,Z,rx,a,C,dx,fs,ex,ea,c,n,l,q2⟩=>?_) hs;subst ex;obtain rfl:Y=Value.ref a:=rx;exact jU Z ea c n l U λs3 I3=>⟨σ,_,I3,q2⟩
def rU{op:Operator}{rd:V->V->Hp->VK->Prop}(U:PE X o ta)(Y:PE X value tv)(G:CC X op rd):PS X (.AugAssign (.Attribute o f tpos) op value pos) (wX X.K ta tv rd f):=by
 intro pins s σ H D I h;refine wpAny_AugAssign_AttributeAny (thn (U pins s σ H _ I h) λZ s1 ⟨x,H1,I1,rx,a,C,dx,fs,v,ex,ea,c,n,l,q⟩=>?_);subst ex;obtain rfl:Z=Value.ref a:=rx;refine jT I1 ea c n l λu s2 I2 ru=>thn (Y pins s2 σ H1 _ I2 q) λw3 s3 ⟨y,H2,I3,ry,q3⟩=>thn (G pins s3 σ H2 v y u w3 _ I3 ru ry q3) λw4 s4 ⟨z,H3,I4,rz,bj,fs',J,l',q4⟩=>?_
 exact jU I4 J c n l' rz λs5 I5=>⟨σ,_,I5,q4⟩
def Fd:V->V->Hp->VK->Prop:=λx y H Q=>∃i j,x=.int i/\y=.int j/\Q (.int (i+j)) H
def zW:CC X .Add Fd:=by
 rintro pins s σ H x y u v Q I z D ⟨i,j,rfl,rfl,q⟩;obtain⟨t,rfl⟩:=(show ∃t,u=Value.int i t from z);obtain⟨t',rfl⟩:=(show ∃t',v=Value.int j t' from D);exact PyProof.Rows.iadd_int ⟨.int (i+j),H,I.tok _,⟨_,rfl⟩,q⟩
end
section
variable{X:Cx}{pins:List (Addr×Obj)}{σ:St}{H:Hp}{s:Shared}{A:Around}{E:Value->Shared->Prop}{Q:Value->Shared->Prop}{c:Value}{b:Bool}
end
structure cI(k:Nat)(A:Around):Prop where
 hd:A.handled=none
 dp:A.depth+3*k+5<recursionLimit
 un:A.units+16*k+200<cLine
def cI.mono{j k:Nat}{A:Around}(r:cI k A)(h:j<=k):cI j A:=⟨r.hd,by have:=r.dp;omega,by have:=r.un;omega⟩
theorem cI.deeper(r:cI (k+1) A)(env):cI k (A.deeper env):=
 ⟨r.hd,by have:=r.dp;show A.depth+1+3*k+5<_;omega,by have:=r.un;show A.units+3+16*k+200<_;omega⟩
def pp {A:Around}{C:Addr}{us:List Value}{z:List (Str×Value)}:(A.under (.builtin "type.__call__" ⟨.ref C::us,z⟩)).depth=A.depth+1:=by
 first|rfl|simp[Around.under,Code.weight,Code.isCreation,Code.isGuard,Code.isCaller,Code.frames,Code.isFrame,guardIds]
def pq {A:Around}{C:Addr}{us:List Value}{z:List (Str×Value)}:(A.under (.builtin "type.__call__" ⟨.ref C::us,z⟩)).units=A.units+1:=by
 first|rfl|simp[Around.under,Code.cUnits,Code.frames,Code.isFrame]
def cI.make {k:Nat}{A:Around} (r:cI (k+1) A) (C:Addr) (us:List Value) (z:List (Str×Value)):cI k (A.under (.builtin "type.__call__" ⟨.ref C::us,z⟩)):=
 ⟨r.hd,by have:=r.dp;rw[pp];omega,by have:=r.un;rw[pq];omega⟩
theorem cI.depth(r:cI k A):A.depth<recursionLimit:=by have:=r.dp;omega
noncomputable def tU:TA:=λ_ H Q=>Q [] H
noncomputable def tV(ta:TE)(tr:TA):TA:=λσ H Q=>ta σ H λx H1=>tr σ H1 λxs H2=>Q (x::xs) H2
section
variable{X:Cx}{e:Expr}{es:List Expr}{te:TE}{t:TA}{pos:Pos}
def bn:PA X [] tU:=λ_ _ _ _ H Q I h=>Calls.spliced_nil ⟨[],H,I,.nil,h⟩
def aI(z:PE X e te)(D:PA X es t)(hs:starEach (e::es) X.env=(false,eval e X.env)::starEach es X.env:=by rfl):PA X (e::es) (tV te t):=by
 intro pos pins s σ H Q I h;rw[hs];show wpAny _ _ (spliced ((false,eval e X.env)::backTo pos _)) _ _ s;refine Calls.spliced_cons (thn (z pins s σ H _ I h) λu s1 ⟨x,H1,G,J,U⟩=>?_);exact thn (D pos pins s1 σ H1 _ G U) λus s2 ⟨xs,H2,Y,Z,q2⟩=>⟨x::xs,H2,Y,.cons J Z,q2⟩
noncomputable def Fe(t:TA):TE:=λσ H Q=>t σ H λxs H1=>xs.length<=sizeLine/\∀p,H1 p=none->Q (.ref p) (upd H1 p (.tup xs))
noncomputable def CD(t:TA):TE:=λσ H Q=>t σ H λxs H1=>xs.length<=sizeLine/\∀p,H1 p=none->Q (.ref p) (upd H1 p (.lst xs))
def pw{G}(h:PA X es t):PE X (.Tuple es G pos) (Fe t):=by
 intro pins s σ H Q I J;refine wpAny_Tuple_spliced (thn (h pos pins s σ H _ I J) λus s1 ⟨xs,H1,D,r,z,q⟩=>⟨by rw[<- r.length];exact z,?_⟩);have U:=D.hok.fresh (vr _);refine⟨.ref s1.heap.objs.size,upd H1 s1.heap.objs.size _,D.laid (λb u e=>mu _ e) (vr _) ?_,rfl,q _ U⟩;exact⟨z,us,r,⟨_,ro _ rfl,rfl,_,rfl⟩⟩
def pz(h:PA X es t):PE X (.List es pos) (CD t):=by
 intro pins s σ H Q I G;refine wpAny_List_spliced (thn (h pos pins s σ H _ I G) λus s1 ⟨xs,H1,D,r,z,q⟩=>⟨by rw[<- r.length];exact z,?_⟩);have J:=D.hok.fresh (vr _);refine⟨.ref s1.heap.objs.size,upd H1 s1.heap.objs.size _,D.laid (λb u e=>mu _ e) (vr _) ?_,rfl,q _ J⟩;exact⟨z,us,0,r,ro _ rfl⟩
end
noncomputable abbrev Sp:=List V->Hp->VK->XK->Prop
noncomputable abbrev CXT:=List Env->Hp->Shared->XK->Value->Shared->Prop
structure pA(P:Program)(w:World)(K:IF)(mg:Str->Option Value)(base:Heap)(A:Around)(outer:List Env)(s:Shared)(H:Hp):Prop where
 frames:A.frames=some outer
 mod:Mod K mg base
 bs:∀b o,base.get? b=some o->s.heap.get? b=some o/\H b=none
 bsz:base.objs.size<=s.heap.objs.size
 funs:s.heap.FunFrames base outer
 frf:∀b∈frs outer,H b=none
 hok:HOk P w H s.heap
 bare:AllBare s.gens
def CE(outer:List Env)(P:Program)(w:World)(H:Hp)(s:Shared)(Q:VK)(u:Value)(s':Shared):Prop:=
 ∃v H',s'.os=s.os/\AllBare s'.gens/\Un (frs outer) [] H H' s.heap s'.heap/\HOk P w H' s'.heap/\aE v u/\Q v H'
def CR(CX:CXT)(outer:List Env)(P:Program)(w:World)(H:Hp)(s:Shared)(Q:VK)(E:XK)(r:Result)(s':Shared):Prop:=
 match r with
 | .ok (.ret u)=>CE outer P w H s Q u s'
 | .ok _=>False
 | .error e=>CX outer H s E e s'
structure b9(P:Program)(w:World)(K:IF)(mg:Str->Option Value)(base:Heap)(CX:CXT)(k:Nat)(f:Addr)(fd:FuncData)(ps:List Str)(sp:Sp):Prop where
 len:∀vs H Q E,sp vs H Q E->vs.length=ps.length
 run:∀(A:Around) (outer:List Env) (s:Shared) (H:Hp) (args:Args) (us:List Value) (vs:List V) (Q:VK) (E:XK),cI k A->pA P w K mg base A outer s H->BindsTo s fd args (ps.zip us)->aA vs us->sp vs H Q E ->
  codeAny (model P w) A (.call (.ref f) args) (CR CX outer P w H s Q E) s
def pA.make{P:Program}{w:World}{K:IF}{mg:Str->Option Value}{base:Heap}{A:Around}{outer:List Env}{s:Shared}{H:Hp}(e:pA P w K mg base A outer s H)(C:Addr)(us:List Value)(z:List (Str×Value)) :
  pA P w K mg base (A.under (.builtin "type.__call__" ⟨.ref C::us,z⟩)) outer s H:=⟨by first|exact e.frames|(simpa[Around.under,Code.envs,Code.isFrame,pushEnvs]using e.frames),e.mod,e.bs,e.bsz,e.funs,e.frf,e.hok,e.bare⟩
section
variable{X:Cx}{pins:List (Addr×Obj)}{σ:St}{H:Hp}{s s':Shared}
theorem Inv.env0(I:Inv X pins σ H s):pA X.prog X.w X.K X.mg X.base X.A X.stack s H:=
 ⟨I.ok.frames,I.ok.mod,I.bs,Gg I.ok.bsz I.sz,I.stack,I.stkFree,I.hok,I.bare⟩
def Inv.after(I:Inv X pins σ H s)(h:CE X.stack X.prog X.w H s Q u s'):EP X pins σ Q u s':=by
 obtain⟨v,H',os,bare,un,hok,r,q⟩:=h;obtain⟨hh,g,d,t,D⟩:=s';obtain rfl:D=s.os:=os;exact⟨v,H',I.call un hok bare (λb z=>absurd z (by simp)),r,q⟩
end
noncomputable def tY(sp:Sp)(dvs:List V)(E:XK)(t:TA):TE:=λσ H Q=>t σ H λvs H1=>sp (vs++dvs) H1 Q E
noncomputable def CF(C:Addr)(m:Str)(sp:Sp)(dvs:List V)(E:XK)(ta:TE)(t:TA):TE:=λσ H Q=>ta σ H λx H1=>∃a dx fs,x=.ref a/\H1 a=some (.ins C dx fs)/\fs.lookup m=none /\
 t σ H1 λvs H2=>sp (x::(vs++dvs)) H2 Q E
noncomputable def CG(C:Addr)(sp:Sp)(dvs:List V)(E:XK)(t:TA):TE:=λσ H Q=>t σ H λvs H1=>∀x dx,H1 x=none->H1 dx=none->dx≠x ->
 sp (.ref x::(vs++dvs)) (upd (upd H1 dx (.own x)) x (.ins C dx [])) (λv H2=>v=.non/\Q (.ref x) H2) E
def bb(K:IF)(fd:FuncData)(ps:List Str)(ds:List Value):Prop:=
 ∀(s:Shared) (us:List Value),K.In s.heap->(us++ds).length=ps.length->BindsTo s fd ⟨us,[]⟩ (ps.zip (us++ds))
theorem bb.all{K:IF}(h:∀us,us.length=ps.length->bindArgs fd ⟨us,[]⟩=pure (ps.zip us)):bb K fd ps []:=λs us _ z=>by
 rw[Gj]at z ⊢;exact .of_eq (h us z)
def gF(CX:CXT)(X:Cx)(E:XK):Prop:=∀pins (σ:St) H s e s',Inv X pins σ H s->CX X.stack H s E e s'->X.xe e s'
section
variable{X:Cx}{CX:CXT}{k:Nat}{f C:Addr}{fd:FuncData}{ps:List Str}{sp:Sp}{dvs:List V}{ds:List Value}{E:XK}{x m:Str}{p pos apos:Pos}{e o:Expr}{es:List Expr}{ta:TE}{t:TA}
def pB(F:b9 X.prog X.w X.K X.mg X.base CX k f fd ps sp)(G:cI k X.A)(J:bb X.K fd ps ds)(hd:aA dvs ds)(hx:gF CX X E)
  (I:Inv X pins σ H s) (r:aA vs us) (h:sp (vs++dvs) H Q E):wpAny (model X.prog X.w) X.A (call (.ref f) us) (EP X pins σ Q) X.xe s:=by
 have D:=r.append hd;have U:(us++ds).length=ps.length:=by rw[<- D.length];exact F.len _ _ _ _ h
 refine wpAny_call (G4 (F.run X.A X.stack s H ⟨us,[]⟩ (us++ds) (vs++dvs) Q E G I.env0 (J s us I.kIn U) D h) λr s' z=>?_);cases r with
 |error e=>exact hx pins σ H s e s' I z
 |ok fl =>
  cases fl with
  |ret u=>exact I.after z
  |next=>exact False.elim z
  |brk=>exact False.elim z
  |cont=>exact False.elim z
def jA(F:b9 X.prog X.w X.K X.mg X.base CX k f fd ps sp)(J:cI k X.A)(U:Gl X x)(Y:X.mg x=some (.ref f))(Z:PySem.W.keepIn X.K (.ref f)=true)(hb:bb X.K fd ps ds)(hd:aA dvs ds)(hx:gF CX X E)
  (ha:PA X (e::es) t) (z:(x==("__debug__":Str))=false:=by decide) (he:starEach (e::es) X.env=(false,eval e X.env)::starEach es X.env:=by rfl) (D:(backTo pos (starEach es X.env)).any (·.1)=false:=by rfl) :
  PE X (.Call (.Name x p) (e::es) [] pos) (tY sp dvs E t):=by
 intro pins s σ H Q I h;refine GN (d9 I U Y ?_ z);refine PySem.W.callWith_K I.ok.mod.kin Z (thn (ha pos pins s σ H _ I h) λus s1 ⟨vs,H1,G,r,q⟩=>⟨G.kIn,?_⟩) he D;exact pB F J hb hd hx G r q
def tZ(F:b9 X.prog X.w X.K X.mg X.base CX k f fd ps sp)(D:cI k X.A)(G:Gl X x)(J:X.mg x=some (.ref f))(U:PySem.W.keepIn X.K (.ref f)=true)(Y:bb X.K fd ps ds)(hd:aA dvs ds)(hx:gF CX X E)
  (z:(x==("__debug__":Str))=false:=by decide):PE X (.Call (.Name x p) [] [] pos) (tY sp dvs E tU):=by
 intro pins s σ H Q I h;refine GN (d9 I G J ?_ z);exact PySem.W.callWith_K0 I.kIn U (pB (us:=[]) F D Y hd hx I .nil h)
def jV{pl:Sem Bool}(J:PE X o ta)(c:Cls X.K C)(D:nB X.K C m f)(F:b9 X.prog X.w X.K X.mg X.base CX k f fd ps sp)(U:cI k X.A)(Y:bb X.K fd ps ds)(hd:aA dvs ds)(hx:gF CX X E)
  (Z:eval (.Call (.Attribute o m apos) [] [] pos) X.env=(do
   let G <- eval o X.env
   standAt apos.atName
   let (f,first) <- holding [G] (getMethod G m pl)
   callWith pos f first (backTo pos (starEach [] X.env)) (backToKw pos (keywordEach [] X.env))):=by rfl) :
  PE X (.Call (.Attribute o m apos) [] [] pos) (CF C m sp dvs E ta tU):=by
 intro pins s σ H Q I h;refine PySem.W.methodCall_KW (pl:=pl) (thn (J pins s σ H _ I h) λu s1 ⟨x,H1,z,rx,a,dx,fs,ex,ea,l,q⟩=>?_) Z;subst ex;obtain rfl:u=Value.ref a:=rx;refine pk z ea c D l ?_;exact PySem.W.callWith_K0 (first:=[.ref a]) z.kIn D.kp (pB (us:=[.ref a]) (vs:=[.ref a]) F U Y hd hx z (.cons rfl .nil) q)
structure Mk(K:IF)(C f:Addr):Prop where
 makes:PySem.W.makesIn K C=true
 init:PySem.W.findIn K (.ref C) "__init__"=some (some (.ref f))
 fn:PySem.W.isFn K (.ref f)=true
 kp:PySem.W.keepIn K (.ref C)=true
def t7{pins:List (Addr×Obj)}{σ:St}{H:Hp}{s:Shared}{Q:VK}{us:List Value}{vs:List V}(M:Mk X.K C f)(F:b9 X.prog X.w X.K X.mg X.base CX k f fd ps sp)(U:cI (k+1) X.A)(Y:bb X.K fd ps ds)(hd:aA dvs ds)
  (hx:gF CX X E) (I:Inv X pins σ H s) (r:aA vs us)
  (h:∀x dx,H x=none->H dx=none->dx≠x->sp (.ref x::(vs++dvs)) (upd (upd H dx (.own x)) x (.ins C dx [])) (λv H2=>v=.non/\Q (.ref x) H2) E) :
  wpAny (model X.prog X.w) X.A (call (.ref C) us) (EP X pins σ Q) X.xe s:=by
 have G:=h (s.heap.objs.size+1) s.heap.objs.size (I.hok.fresh (Gw _)) (I.hok.fresh (vr _)) (FX (GU _));have D:=Inv.made (C:=C) I;have J:aA (V.ref (s.heap.objs.size+1)::(vs++dvs)) (Value.ref (s.heap.objs.size+1)::(us++ds)):=.cons rfl (r.append hd);have Z:(Value.ref (s.heap.objs.size+1)::us++ds).length=ps.length:=by
  have e:=J.length;rw[F.len _ _ _ _ G]at e;exact e.symm
 refine wpAny_call (tQ (f:=f) I.kIn M.makes M.init (FW.mp M.fn) (G4 (F.run _ X.stack _ _ ⟨Value.ref (s.heap.objs.size+1)::us,[]⟩ (Value.ref (s.heap.objs.size+1)::(us++ds)) _ _ E (U.make C us [])
  (D.env0.make C us []) (Y _ (Value.ref (s.heap.objs.size+1)::us) D.kIn Z) J G) λr s' z=>?_))
 cases r with
 |error e=>exact hx pins σ _ _ e s' D z
 |ok fl =>
  cases fl with
  |ret u =>
   obtain⟨v,H',I3,rv,ev,q3⟩:=D.after z;subst ev;exact⟨rv,⟨V.ref (s.heap.objs.size+1),H',I3,rfl,q3⟩⟩
  |next=>exact False.elim z
  |brk=>exact False.elim z
  |cont=>exact False.elim z
def wY(M:Mk X.K C f)(F:b9 X.prog X.w X.K X.mg X.base CX k f fd ps sp)(J:cI (k+1) X.A)(U:Gl X x)(Y:X.mg x=some (.ref C))(Z:bb X.K fd ps ds)(hd:aA dvs ds)(hx:gF CX X E)
  (ha:PA X (e::es) t) (z:(x==("__debug__":Str))=false:=by decide) (he:starEach (e::es) X.env=(false,eval e X.env)::starEach es X.env:=by rfl) (D:(backTo pos (starEach es X.env)).any (·.1)=false:=by rfl) :
  PE X (.Call (.Name x p) (e::es) [] pos) (CG C sp dvs E t):=by
 intro pins s σ H Q I h;refine GN (d9 I U Y ?_ z);refine PySem.W.callWith_K (h₀:=X.base) I.ok.mod.kin M.kp (thn (ha pos pins s σ H _ I h) λus s1 ⟨vs,H1,G,r,q⟩=>⟨G.kIn,?_⟩) he D;exact t7 M F J Z hd hx G r q
end
section
variable{X:Cx}{CX:CXT}{k:Nat}{f C:Addr}{fd:FuncData}{ps ks:List Str}{sp:Sp}{E:XK}{x m:Str}{p pos apos kpos:Pos}{e o:Expr}{es:List Expr}{kws:List Keyword}{te ta:TE}{t tk:TA}{nm:Option Str}
variable{g:List Value->List Value->List Value}{gV:List V->List V->List V}
end
structure gb(N P:List Str)(sc:Scope):Prop where
 kind:sc.kind=.function
 co:sc.isCoroutine=false
 gen:sc.isGenerator=false
 nd:N.Nodup
 pre:N.take P.length=P
 par:∀x∈P,sc.names.lookup x=some .local\/sc.names.lookup x=some .cell
 nofree:∀y∈sc.names,y.2≠.free
theorem lE{kindOf:Str->Option NameKind} :∀{binds}{m},(∀v,(x,v)∉binds)->bindL kindOf binds m x=m x
 | [],_,_=>rfl
 | (n,v)::r,m,h=>by
  unfold bindL;rw[lE λw hw=>h w (Gp _ hw)];split
  .have:x≠n:=by rintro rfl;exact h v GG
   simp[this]
  .rfl
theorem lF{kindOf:Str->Option NameKind} :∀{binds}{m},(∀v,(x,v)∉binds)->bindC kindOf binds m x=m x
 | [],_,_=>rfl
 | (n,v)::r,m,h=>by
  unfold bindC;rw[lF λw hw=>h w (Gp _ hw)];split
  .rfl
  .have:x≠n:=by rintro rfl;exact h v GG
   simp[this]
theorem lG{kindOf:Str->Option NameKind}{x:Str}{v:Value}:∀{P:List Str}{vs}{i:Nat}{m},P.Nodup->P[i]?=some x->vs[i]?=some v->kindOf x=some .local ->
  bindL kindOf (P.zip vs) m x=some v
 | [],_,_,_,_,h,_,_=>by simp at h
 | _::_,[],_,_,_,_,h,_=>by simp at h
 |p::P,w::vs,0,m,nd,h1,h2,z=>by
  simp at h1 h2;subst h1;subst h2
  show bindL kindOf ((p,w)::P.zip vs) m p=_;unfold bindL;rw[lE λv D=>(HS.mp nd).1 (of_mem_zip D).1,if_pos z];simp
 |p::P,w::vs,i+1,m,nd,h1,h2,z=>by
  show bindL kindOf ((p,w)::P.zip vs) m x=_;exact lG (i:=i) (HS.mp nd).2 (by simpa using h1) (by simpa using h2) z
theorem lH{kindOf:Str->Option NameKind}{x:Str}{v:Value}:∀{P:List Str}{vs}{i:Nat}{m},P.Nodup->P[i]?=some x->vs[i]?=some v->kindOf x≠some .local ->
  bindC kindOf (P.zip vs) m x=some v
 | [],_,_,_,_,h,_,_=>by simp at h
 | _::_,[],_,_,_,_,h,_=>by simp at h
 |p::P,w::vs,0,m,nd,h1,h2,z=>by
  simp at h1 h2;subst h1;subst h2
  show bindC kindOf ((p,w)::P.zip vs) m p=_;unfold bindC;rw[lF λv D=>(HS.mp nd).1 (of_mem_zip D).1,if_neg z];simp
 |p::P,w::vs,i+1,m,nd,h1,h2,z=>by
  show bindC kindOf ((p,w)::P.zip vs) m x=_;exact lH (i:=i) (HS.mp nd).2 (by simpa using h1) (by simpa using h2) z
noncomputable def cY(N:List Str)(vs:List V):St:=vs.map some++replicate (N.length-vs.length) none
noncomputable def jr(CX:CXT)(P:Program)(w:World)(K:IF)(mg:Str->Option Value)(base:Heap)(N:List Str)(qual:Str)(scope:Scope)(f:Addr)(D:Value)(A:Around)(outer:List Env)(s:Shared)(H:Hp)(E:XK):Cx where
 prog:=P
 w:=w
 K:=K
 mg:=mg
 base:=base
 A:=A.deeper (envOfC qual scope s.heap.objs.size f D)
 N:=N
 s₀:=s
 H₀:=H
 env:=envOfC qual scope s.heap.objs.size f D
 outer:=outer
 stack:=envOfC qual scope s.heap.objs.size f D::outer
 ex:=[]
 calm:=true
 fn:=λ_=>true
 pn:=[]
 xe:=λe s'=>wpAny (model P w) (A.deeper (envOfC qual scope s.heap.objs.size f D)) (leaving (envOfC qual scope s.heap.objs.size f D) e) (λ_ z=>CX outer H s E e z) (λe' z=>CX outer H s E e' z) s'
def nD{sc:Scope}(h:sc.names.lookup x=some .cell):∃c,(cellsFrom n sc.names []).lookup x=some c:=by
 have q:=PySem.W.cellsFrom_some sc.names n [] (.inl h);exact isSome_iff_exists.mp q
def rV{K:IF} 
  (S:gb N ps scope) (hd:A.handled=none) (D:pA P w K mg base A outer s H) (hl:vs.length=ps.length) (r:aA vs us)
  (x:InCallC s s.heap.objs.size (bindL (envOfC qual scope s.heap.objs.size f cd).kindOf (ps.zip us) λ_=>none) (cellsFrom (s.heap.objs.size+1) scope.names []) (bindC (envOfC qual scope s.heap.objs.size f cd).kindOf (ps.zip us) λ_=>none) s1) :
  Inv (jr CX P w K mg base N qual scope f cd A outer s H E) [] (cY N vs) H s1:=by
 have ap:ps.length<=N.length:=by have:=GL List.length S.pre;rw[IC]at this;omega
 obtain⟨h1,tk,rfl,Z⟩:=x.done;have G:∀b,b∉(jr CX P w K mg base N qual scope f cd A outer s H E).ex:=λb z=>absurd (show b∈([]:List Addr)from z) (by simp)
 refine⟨⟨D.mod,S.kind,rfl,rfl,vr _,λy z c h1 h2=>?_,λy J=>?_,λy c _ h=>?_,λ_=>hd,Around.frames_deeper D.frames,.inr ⟨rfl,rfl⟩,λb z=>absurd z (G b),D.bs,D.bsz,λb _ _=>G b,λb z=>absurd z (G b),D.funs,D.frf⟩,
  rfl,D.bare,Un.kept Z,⟨_,x.toInCall.ns,λi y v h1 h2 h3=>?_⟩,λy c h=>⟨_,x.cell y c h⟩,D.hok.fresh (vr _),λy c h=>?_,λp U=>absurd (show p∈([]:List (Addr×Obj))from U) (by simp),D.hok.kept Z,?_⟩
 .exact name_of_addr x.apart (PySem.mem_of_lookup h1) (PySem.mem_of_lookup h2)
 .have J:=J;rcases J with J|J
  .exact nD J
  .exact absurd rfl (S.nofree _ (PySem.mem_of_lookup J))
 .exact Hu (x.above y c (PySem.mem_of_lookup h))
 .have hi:i<vs.length:=by
   unfold cY at h2;by_cases hi:i<vs.length
   .exact hi
   .rw[G9 (by simpa using hi)]at h2;rw[Hx]at h2;split at h2<;>cases h2
  have ha:vs[i]?=some v:=by
   unfold cY at h2;rw[GQ (by simpa using hi),Ga]at h2;cases e:vs[i]?<;>simp_all
  obtain⟨u,hu,rv⟩:=r.get ha;have U:ps[i]?=some y:=by
   rw[<- S.pre,getElem?_take_of_lt (by omega)];exact h1
  have Y:ps.Nodup:=by rw[<- S.pre];exact S.nd.sublist (take_sublist _ _)
  refine⟨u,rv,?_⟩;rcases S.par y (Hf U)with k|k
  .exact .inl ⟨k,lG Y U hu k⟩
  .obtain⟨c,e⟩:=nD (n:=s.heap.objs.size+1) k;refine .inr ⟨.inl k,c,e,?_⟩;have q:=x.cell y c e;rw[lH Y U hu (by show scope.names.lookup y≠_;rw[k];decide)]at q;exact q
 .exact D.hok.fresh (Hu (x.above y c (PySem.mem_of_lookup h)))
 .unfold cY;show _=N.length;rw[FZ,FY,length_replicate];omega
def jd{K:IF}{dV kV U pm z ct oc:Value} 
  (lk:K.lookup f=some ⟨oc,od,.func (PySem.W.fnOf name qual params body scope dV kV U pm an z ct),a5⟩) (ao:PySem.W.codeIn K z qual=true) (S:gb N ps scope)
  (len:∀vs H Q E,sp vs H Q E->vs.length=ps.length)
  (D:∀A outer s H vs Q E,cI k (A.deeper (envOfC qual scope s.heap.objs.size f z))->sp vs H Q E ->
   ∃t,PSs (jr CX P w K mg base N qual scope f z A outer s H E) body t/\t { nx:=λ_ H'=>Q .non H',rt:=Q } (cY N vs) H) :
  b9 P w K mg base CX (k+1) f (PySem.W.fnOf name qual params body scope dV kV U pm an z ct) ps sp:=by
 refine⟨len,λA outer s H args us vs Q E hr Y hb r Z=>?_⟩;have hl:=len _ _ _ _ Z;have KX:=Y.mod.kin.keeps λb o e=>(Y.bs b o e).1
 have aO:=Y.mod.nolimit.keeps λb o e=>(Y.bs b o e).1
 have G:∀y∈ps.zip us,scope.names.lookup y.1=some .local\/(scope.names.lookup y.1=some .cell/\((cellsFrom (s.heap.objs.size+1) scope.names []).lookup y.1).isSome=true):=λ⟨n,v⟩ hy=>by
  rcases S.par n (of_mem_zip hy).1 with q|q
  .exact .inl q
  .exact .inr ⟨q,PySem.W.cellsFrom_some _ _ _ (.inl q)⟩
 refine codeAny_call_function hr.depth (KX _ _ lk) rfl S.co S.gen rfl (PySem.W.codeRec_of KX ao) (hb _ _ _ _ ?_);refine wpAny_newFunctionEnv_cells S.kind G λenv he s1 x=>?_
 subst he;refine⟨aO.keeps x.toInCall.keep,codeAny_func ?_⟩;obtain⟨t,ht,hq⟩:=D A outer s H vs Q E (hr.deeper _) Z;have I:Inv (jr CX P w K mg base N qual scope f z A outer s H E) [] (cY N vs) H s1:=rV S hr.hd Y hl r x;refine F8 (ht [] s1 (cY N vs) H _ I hq) (λfl s' hs=>?_) λe s' hs=>hs
 have fin:∀{M}{H'}{v}{u},Inv (jr CX P w K mg base N qual scope f z A outer s H E) [] M H' s'->aE v u->Q v H'->CE outer P w H s Q u s':=
  λ{M H' v u} J rv q=>⟨v,H',J.os,J.bare,J.base,J.hok,rv,q⟩
 cases fl with
 |next =>
  obtain⟨M,H',J,q⟩:=hs;exact fin (v:=V.non) (u:=Value.none) J rfl q
 |ret u =>
  obtain⟨v,M,H',J,rv,q⟩:=hs;exact fin J rv q
 | _ =>
  obtain⟨_,_,_,q⟩:=hs;exact False.elim q
section
variable{X:Cx}{x:Str}{p pos:Pos}{e:Expr}{es:List Expr}{t:TA}{id T:String}{r:List V->Hp->VK->Prop}
noncomputable def tCB(r:List V->Hp->VK->Prop)(t:TA):TE:=λσ H Q=>t σ H λvs H1=>r vs H1 Q
def eU (hc:bG X (.builtin id) r) (G:Gl X x) (J:X.mg x=none) (U:bootBuiltins x=some (.builtin id)) (Y:PA X (e::es) t) (Z:x ≠ "__name__":=by decide) (z:(x==("__debug__":Str))=false:=by decide)
  (he:starEach (e::es) X.env=(false,eval e X.env)::starEach es X.env:=by rfl) (D:(backTo pos (starEach es X.env)).any (·.1)=false:=by rfl):PE X (.Call (.Name x p) (e::es) [] pos) (tCB r t):=by
 intro pins s σ H Q I h;refine GN (fG I G J U ?_ Z z);exact PyProof.Rows.callWith_builtin1 (thn (Y pos pins s σ H _ I h) λus s1 ⟨vs,H1,I1,r1,q1⟩=>hc pins s1 σ H1 vs us Q I1 r1 q1) he D
def eV (hc:bG X (.type T) r) (G:Gl X x) (J:X.mg x=none) (U:bootBuiltins x=some (.type T)) (Y:PA X (e::es) t) (Z:x ≠ "__name__":=by decide) (z:(x==("__debug__":Str))=false:=by decide)
  (he:starEach (e::es) X.env=(false,eval e X.env)::starEach es X.env:=by rfl) (D:(backTo pos (starEach es X.env)).any (·.1)=false:=by rfl):PE X (.Call (.Name x p) (e::es) [] pos) (tCB r t):=by
 intro pins s σ H Q I h;refine GN (fG I G J U ?_ Z z);exact GC (thn (Y pos pins s σ H _ I h) λus s1 ⟨vs,H1,I1,r1,q1⟩=>hc pins s1 σ H1 vs us Q I1 r1 q1) he D
end
end L2
namespace HT
open PySem PyProof.Rows List Option
section
open PySem.SeqAt List Option
open PySem.AutoSeq1 (wpAny_loadPart')
open PySem.MeetsSeq PySem.MeetsSeq2 PySem.MeetsSeq3 List Option
end
section
variable{prog:Program}{w:World}{A:Around}{E:Value->Shared->Prop}{s:Shared}
def cat_tup(ht:IsTup s.heap t vs.toArray)(hb:IsTup s.heap b ws.toArray)(hv:vs≠[])
  (h1:ws=[]->Q (.ref t) s) (h2:ws≠[]->Q (.ref s.heap.objs.size) { s with heap:=s.heap.push { cls:=.type "tuple",data:=.seq (vs++ws).toArray } })
  (Z:vs.length+ws.length<=sizeLine):wpAny (model prog w) A (binaryOp .Add (.ref t) (.ref b)) Q E s:=by
 refine bq λZq kq=>?_
 obtain⟨⟨cls,dd,data,sl⟩,Y,hc,n,hd⟩:=id ht;obtain⟨⟨aO,D,data2,G⟩,z,J,n2,U⟩:=id hb;simp only at hc hd J U;subst hc hd J U;have e:vs.toArray++ws.toArray=(vs++ws).toArray:=by simp
 refine kq ?_;by_cases hw:ws=[]
 .exact Iu ⟨_,Y,rfl⟩ ⟨_,z,rfl⟩ Iv seq_tuple_add PySem.F.slot_tuple_add PySem.F.entry_tuple_add (PySem.F.args_tuple_add_2 _ _)
   (tuple_addW1 t b vs.toArray ws.toArray n n2 dd D sl G (by simpa using hv) (by simp[hw])) ⟨Y,z,h1 hw⟩
 .refine Iu ⟨_,Y,rfl⟩ ⟨_,z,rfl⟩ Iv seq_tuple_add PySem.F.slot_tuple_add PySem.F.entry_tuple_add (PySem.F.args_tuple_add_2 _ _)
   (tuple_addW2 t b vs.toArray ws.toArray n n2 dd D sl G (by simpa using hv) (by simpa using hw) (by rw[u3,u3];exact Z)) ⟨Y,z,?_⟩
  rw[e];exact h2 hw
noncomputable def sIx(n d:Nat):Option Int->Nat
 |none=>d
 |some v=>if v<0 then(v+(n:Int)).toNat else min v.toNat n
def zX(n d)(hd:d<=n)(o):sIx n d o<=n:=by
 cases o with
 |none=>exact hd
 |some v =>
  show(if v<0 then(v+_).toNat else min v.toNat n)<=n
  grind
def qH(v)(n d:Nat):(if v<0 then max (v+(n:Int)) 0 else min v (n:Int))=((sIx n d (some v):Nat):Int):=by
 show(if v<0 then max _ 0 else min v _)=(((if v<0 then(v+_).toNat else min v.toNat n):Nat):Int)
 grind
def pC(lo hi)(n:Nat):Builtin.Slice.sliceAdjust lo hi 1 (n:Int)=(((sIx n 0 lo:Nat):Int),((sIx n n hi:Nat):Int)):=by
 refine Prod.ext ?_ ?_
 .cases lo with
  |none=>rfl
  |some v=>exact qH v n 0
 .cases hi with
  |none=>rfl
  |some v=>exact qH v n n
def pD(i j:Nat):Builtin.Slice.slicePlaces (i:Int) (j:Int) 1=j-i:=by
 unfold Builtin.Slice.slicePlaces
 grind
def jW(p:IsPart v o)(h:Q o s):wpAny (model prog w) A (Builtin.Slice.slicePartIndex v) Q E s:=by
 cases p<;>first|exact slicePart_none h|exact slicePart_int h
def eW{lo hi:Option Int}{n:Nat}{Q:Int×Int×Nat->Shared->Prop}(hs:s.heap.IsSliceOf U G J .none)(pl:IsPart G lo)(Y:IsPart J hi)
  (h:Q (((sIx n 0 lo:Nat):Int),1,sIx n n hi-sIx n 0 lo) s):wpAny (model prog w) A (Builtin.Slice.sliceApplied (.ref U) (pure (n:Int))) Q E s:=by
 obtain⟨os,z,Z,D⟩:=id hs;unfold Builtin.Slice.sliceApplied Builtin.Slice.sliceFields;refine kx (kx (Hi z D (x:=G) rfl (kx (Hi z D (x:=J) rfl (kx (Hi z D (x:=.none) rfl (pb ?_)))))));refine kx (slicePart_none ?_);show wpAny _ _ (if _=true then _ else _) _ _ s;rw[if_neg (by decide)];refine kx (jW pl (kx (jW Y (kx (pb ?_)))));show wpAny _ _ (match Builtin.Slice.sliceAdjust lo hi 1 _ with|(lo,hi)=>pure (lo,_,Builtin.Slice.slicePlaces lo hi 1)) _ _ s;rw[pC lo hi n];show wpAny _ _ (pure (((sIx n 0 lo:Nat):Int),_,Builtin.Slice.slicePlaces _ _ 1)) _ _ s;rw[pD];exact pb h
def t8(xs:Array Value)(i k:Nat):((range k).filterMap λ(m:Nat)=>xs[((i:Int)+(m:Int)*1).toNat]?).toArray=((xs.toList.drop i).take k).toArray:=by
 have e:(λ(m:Nat)=>xs[((i:Int)+(m:Int)*1).toNat]?)=λm=>xs[i+m]?:=by
  funext m
  have:((i:Int)+(m:Int)*1).toNat=i+m:=by omega
  rw[this]
 rw[e];have:=pick_run xs i k;rw[filterMap_map]at this;have z:((λx=>xs[x]?)∘λx=>i+x)=λm=>xs[i+m]?:=rfl
 rw[z]at this;rw[this]
def getItem_tuple_cut{items:Array Value}{Z vu:Value}{lo hi:Option Int}{Q:Value->Shared->Prop}(D:IsTup s.heap t items)(hs:s.heap.IsSliceOf sl Z vu .none)(pl:IsPart Z lo)(pu:IsPart vu hi)
  (hw:¬ (sIx items.size 0 lo=0/\sIx items.size items.size hi=items.size))
  (h:Q (.ref s.heap.objs.size) { s with heap:=s.heap.push { cls:=.type "tuple",data:=.seq ((items.toList.drop (sIx items.size 0 lo)).take (sIx items.size items.size hi-sIx items.size 0 lo)).toArray } })
  (a1:items.size<=sizeLine):wpAny (model prog w) A (getItem (.ref t) (.ref sl)) Q E s:=by
 have z:sizeOk (.seq ((items.toList.drop (sIx items.size 0 lo)).take (sIx items.size items.size hi-sIx items.size 0 lo)).toArray):=by
  show((items.toList.drop (sIx items.size 0 lo)).take (sIx items.size items.size hi-sIx items.size 0 lo)).toArray.size<=sizeLine;rw[u3,IC,length_drop,Array.length_toList];omega
 have hj:sIx items.size items.size hi<=items.size:=zX _ _ (vr _) hi;obtain⟨os,G,J,a2⟩:=id hs;have U:s.TypeIs (.ref sl) "slice":=⟨os,G,J⟩;unfold getItem
 try with_reducible refine G0 ?_
 first|refine kx (pb ?_)|skip
 refine kx (wpAny_sequenceKey D.typeIs (by decide) ?_);refine kx (Gq (name:=Str.ofString "__getitem__") D.typeIs Gy
  (Gs Gy D.typeIs entry_tuple_getitem ?_ (args_tuple_getitem _ _)))
 show wpAny _ _ (Builtin.Tuple.tupleItemsOf (.ref t) >>= _) _ _ s;refine kx (tupleItemsOf_ D ?_);refine kx (Hj U ?_);rw[if_pos (by decide)];refine kx (eW hs pl pu ?_);have Y:¬ ((((sIx items.size 0 lo:Nat):Int)==0&&(1:Int)==1&&(sIx items.size items.size hi-sIx items.size 0 lo)==items.size)=true):=by
  simp_all
 show wpAny _ _ (if (((sIx items.size 0 lo:Nat):Int)==0&&(1:Int)==1&&(sIx items.size items.size hi-sIx items.size 0 lo)==items.size)=true then _ else _) _ _ s;rw[if_neg Y,t8]
 first
  | exact kx (m:=Builtin.Tuple.tupleExact _) (Gm (pb ⟨_,rfl,pb h⟩) z)
  | exact kx (m:=Builtin.Tuple.tupleExact _) (Gm (kx (pb (pb ⟨_,rfl,pb h⟩))) z)
  | exact kx (kx (m:=Builtin.Tuple.tupleExact _) (Gm (pb (pb ⟨_,rfl,pb h⟩)) z))
  | exact kx (kx (m:=Builtin.Tuple.tupleExact _) (Gm (pb ⟨_,rfl,pb h⟩) z))
end
end HT
namespace L2
open PySem PySem.Spec PyProof.Rows List Option
noncomputable abbrev TO:=St->Hp->(Option Int->Hp->Prop)->Prop
def PO(X:Cx)(e:Option Expr)(t:TO):Prop:=
 ∀pins s (σ:St) H Q,Inv X pins σ H s->t σ H Q ->
  wpAny (model X.prog X.w) X.A (evalPart e X.env) (λu s'=>∃o H',Inv X pins σ H' s'/\IsPart u o/\Q o H') X.xe s
noncomputable def wZ:TO:=λ_ H Q=>Q none H
noncomputable def CH(t:TE):TO:=λσ H Q=>t σ H λx H1=>∃i,x=.int i/\Q (some i) H1
def jX :∀{us},aA (ns.map V.int) us->IntsAre us ns:=by
 induction ns with
 |nil=>intro us r;rw[map_nil]at r;cases r;exact .nil
 |cons n ns ih =>
  intro us r;cases r with
  |cons z D =>
   obtain⟨t,e⟩:=z;subst e;exact .cons n t (ih D)
section
variable{X:Cx}{e:Expr}{te:TE}{lo hi:Option Expr}{tl th:TO}{pos p2:Pos}
def w5:PO X none wZ:=by
 intro pins s σ H Q I h;rw[evalPart_none];exact pb ⟨none,H,I,.none,h⟩
def w8(h:PE X e te):PO X (some e) (CH te):=by
 intro pins s σ H Q I hw;rw[evalPart_some];refine thn (h pins s σ H _ I hw) λu s1 ⟨x,H1,z,D,G⟩=>?_
 obtain⟨i,rfl,q⟩:=G;obtain⟨t,rfl⟩:=D;exact⟨some i,H1,z,.int i t,q⟩
def SlR(X:Cx)(r:V->Option Int->Option Int->Hp->VK->Prop):Prop:=
 ∀pins s (σ:St) H x v z D lo hi G Q,Inv X pins σ H s->aE x v->s.heap.IsSliceOf G z D .none->IsPart z lo->IsPart D hi->r x lo hi H Q ->
  ∃T id,typeLookup (.type T) "__getitem__"=pure (some (.builtin id))/\s.TypeIs v T/\wpAny (model X.prog X.w) X.A (getItem v (.ref G)) (EP X pins σ Q) X.xe s
noncomputable def tSl(r:V->Option Int->Option Int->Hp->VK->Prop)(te:TE)(tl th:TO):TE:=λσ H Q=>te σ H λx H1=>tl σ H1 λl H2=>th σ H2 λu H3=>r x l u H3 Q
def t9(G:SlR X r)(J:PE X e te)(U:PO X lo tl)(Y:PO X hi th):PE X (.Subscript e (.Slice lo hi none p2) pos) (tSl r te tl th):=by
 intro pins s σ H Q I h;refine Subscript_ (thn (J pins s σ H _ I h) λv s1 ⟨x,H1,Z,r1,q1⟩=>?_);refine wpAny_Slice (thn (U pins s1 σ H1 _ Z q1) λz s2 ⟨l,H2,I2,pl,q2⟩=>thn (Y pins s2 σ H2 _ I2 q2) λD s3 ⟨u,H3,I3,pu,q3⟩=>?_);rw[evalPart_none];refine pb ?_;have I4:Inv X pins σ H3 { s3 with heap:=s3.heap.push { cls:=.type "slice",data:=.fields #[z,D,.none] } }:=I3.kept (t':=s3.toks) λb ob q=>mu _ q
 obtain⟨T,id,hT,ht,hg⟩:=G pins { s3 with heap:=s3.heap.push { cls:=.type "slice",data:=.fields #[z,D,.none] } } σ H3 x v z D l u s3.heap.objs.size Q I4 r1 (Heap.IsSliceOf.new ..) pl pu q3;show wpAny (model X.prog X.w) X.A (subscriptTail e (.Slice lo hi none p2) v (.ref s3.heap.objs.size)) _ X.xe { s3 with heap:=s3.heap.push { cls:=.type "slice",data:=.fields #[z,D,.none] } };exact tail_any ht hT hg (by with_unfolding_all rfl)
noncomputable def nE(xs:List V)(lo hi:Option Int):List V:=(xs.drop (HT.sIx xs.length 0 lo)).take (HT.sIx xs.length xs.length hi-HT.sIx xs.length 0 lo)
def je(xs)(lo hi):(nE xs lo hi).length<=xs.length:=by
 unfold nE;rw[IC,length_drop];omega
def Ff(K:IF):V->Option Int->Option Int->Hp->VK->Prop:=λx lo hi H Q=>∃a xs,x=.ref a/\SqT K H a xs /\
 ¬ (HT.sIx xs.length 0 lo=0/\HT.sIx xs.length xs.length hi=xs.length)/\∀p,H p=none->Q (.ref p) (upd H p (.tup (nE xs lo hi)))
def zY:SlR X (Ff X.K):=by
 intro pins s σ H x v U Y lo hi Z Q I G hs pl J h;obtain⟨a,xs,rfl,hx,hw,q⟩:=h;cases G;obtain⟨its,r,D,hz⟩:=I.tuple hx;have z:its.toArray.size=xs.length:=by rw[u3];exact r.length.symm
 refine⟨"tuple",_,Gy.lookup,D.typeIs,?_⟩;refine HT.getItem_tuple_cut D hs pl J (by rw[z];exact hw) ?_ (by rw[z];exact hz);rw[z];refine⟨.ref s.heap.objs.size,_,I.laid (t':=s.toks) (o:=.tup (nE xs lo hi)) (λb ob q=>mu _ q) (vr _) ?_,rfl,q _ (I.hok.fresh (vr _))⟩;exact⟨Gg (je xs lo hi) hz,_,(r.drop (HT.sIx xs.length 0 lo)).take (HT.sIx xs.length xs.length hi-HT.sIx xs.length 0 lo),IsTup.new _ _⟩
noncomputable def CI(K:IF):R2:=λx y H Q=>∃a b xs ys,x=.ref a/\y=.ref b/\SqT K H a xs/\SqT K H b ys/\xs≠[]/\xs.length+ys.length<=sizeLine /\
 (ys=[]->Q (.ref a) H)/\(ys≠[]->∀p,H p=none->Q (.ref p) (upd H p (.tup (xs++ys))))
def aA.nil_iff(r:aA xs us):us=[] ↔ xs=[]:=by
 cases r<;>simp_all
def w9:OpR X (binaryOp .Add) (CI X.K):=by
 intro pins s σ H x y v u Q I U Y h;obtain⟨a,b,xs,ys,rfl,rfl,Z,hb,hx,hz,q1,q2⟩:=h;cases U;cases Y;obtain⟨its,G,p1,_⟩:=I.tuple Z;obtain⟨J,D,p2,_⟩:=I.tuple hb;refine HT.cat_tup p1 p2 (λz=>hx (G.nil_iff.mp z)) (λz=>⟨.ref a,H,I,rfl,q1 (D.nil_iff.mp z)⟩) (λz=>?_) (by rw[<- G.length,<- D.length];exact hz);refine⟨.ref s.heap.objs.size,_,I.laid (t':=s.toks) (o:=.tup (xs++ys)) (λb ob q=>mu _ q) (vr _) ?_,rfl,q2 (λw=>z (D.nil_iff.mpr w)) _ (I.hok.fresh (vr _))⟩;exact⟨by rw[FZ];exact hz,_,G.append D,IsTup.new _ _⟩
end
noncomputable def ixN(n:Nat)(i:Int):Option Nat:=if 0<=i then(if i<n then some i.toNat else none)else if -(n:Int)<=i then some (i+n).toNat else none
noncomputable def atI{α:Type}(xs:List α)(i:Int):Option α:=(ixN xs.length i).bind λj=>xs[j]?
def w_(h:ixN n i=some j):seqIndex? i n=some j/\j<n/\-(n:Int)<=i/\i<n:=by
 unfold ixN at h;by_cases z:0<=i
 .rw[if_pos z]at h;by_cases h1:i<n
  .rw[if_pos h1]at h;have e:=FV h;exact⟨by rw[seqIndex_of z h1,e],by omega,by omega,h1⟩
  .simp_all
 .rw[if_neg z]at h;by_cases h1:-(n:Int)<=i
  .rw[if_pos h1]at h;have e:=FV h;exact⟨by rw[seqIndex_neg (by omega) h1,e],by omega,h1,by omega⟩
  .simp_all
def mz(h:atI xs i=some v):∃j,seqIndex? i xs.length=some j/\xs[j]?=some v/\j<xs.length/\-(xs.length:Int)<=i/\i<xs.length:=by
 unfold atI at h;cases e:ixN xs.length i with
 |none=>rw[e]at h;cases h
 |some j =>
  rw[e]at h;obtain⟨h1,h2,z,D⟩:=w_ e;exact⟨j,h1,h,h2,z,D⟩
def qI(b:Expr):Prop:=∀o i,subscripted b false o i=operate [o,i] (getItem o i)
def IxR(X:Cx)(r:R2):Prop:=
 ∀value slice pins s (σ:St) H x y v u Q,Inv X pins σ H s->aE x v->aE y u->r x y H Q ->
  subscripted slice false v u=operate [v,u] (getItem v u)->wpAny (model X.prog X.w) X.A (subscriptTail value slice v u) (EP X pins σ Q) X.xe s
def MtR(X:Cx)(id:String)(r:V->List V->Hp->VK->Prop):Prop:=
 ∀pins s (σ:St) H x xs v us Q,Inv X pins σ H s->aE x v->aA xs us->r x xs H Q ->
  wpAny (model X.prog X.w) X.A (call (.builtin id) (v::us)) (EP X pins σ Q) X.xe s
section
variable{X:Cx}{a b:Expr}{ta tb:TE}{pos:Pos}
theorem IxR.or(h:IxR X r)(h':IxR X G):IxR X (λx y H Q=>r x y H Q\/G x y H Q):=by
 intro value slice pins s σ H x y v u Q I z D q hs;rcases q with q|q
 .exact h value slice pins s σ H x y v u Q I z D q hs
 .exact h' value slice pins s σ H x y v u Q I z D q hs
def yR(z:IxR X r)(D:PE X a ta)(G:PE X b tb)(hs:qI b):PE X (.Subscript a b pos) (tOp r ta tb):=by
 intro pins s σ H Q I h;exact Subscript_ (zN D G I h λv u J x y H2 U Y Z q=>z a b pins J σ H2 x y v u Q U Y Z q (hs _ _))
noncomputable def CJ(K:IF):R2:=λx y H Q=>∃p xs i v,x=.ref p/\y=.int i/\SqL K H p xs/\atI xs i=some v/\Q v H
noncomputable def CK(K:IF):R2:=λx y H Q=>∃p xs i v,x=.ref p/\y=.int i/\SqT K H p xs/\atI xs i=some v/\Q v H
noncomputable def CL:R2:=λx y H Q=>∃z i c,x=.str z/\y=.int i/\z.length<=sizeLine/\atI z.cps.toList i=some c/\Q (.str ⟨#[c]⟩) H
def qJ:IxR X (CJ X.K):=by
 intro value slice pins s σ H x y v u Q I Y Z h hs;obtain⟨p,xs,i,z,rfl,rfl,hq,he,q⟩:=h;cases Y;obtain⟨t,rfl⟩:=Z;obtain⟨its,r,pl,hz⟩:=I.list hq;obtain⟨j,h1,h2,h3,h4,h5⟩:=mz he;obtain⟨w,J,D⟩:=r.get h2;have hl:=r.length;have hn:=iK;have fin:EP X pins σ Q w s:=⟨z,H,I,D,q⟩;by_cases U:0<=i
 .have G:i.toNat=j:=by
   rw[seqIndex_of U h5]at h1;exact FV h1
  exact item_listR pl.isList U (by omega) (by rw[G];simpa using J) fin hs
 .have G:(i+(its.toArray.size:Int)).toNat=j:=by
   rw[seqIndex_neg (by omega) h4]at h1;rw[u3,<- hl];exact FV h1
  exact subscriptTail_builtinR (x:=w) pl.isList.typeIs slot_list_getitem.lookup
   (wpAny_getItem_list_neg (Q:=λr s'=>r=w/\EP X pins σ Q r s') pl.isList (by omega) (by rw[u3]<;>omega) (by omega) (by rw[G];simpa using J) ⟨rfl,fin⟩) hs
def zZ:IxR X (CK X.K):=by
 intro value slice pins s σ H x y v u Q I G J h hs;refine bq λZq U=>?_
 obtain⟨p,xs,i,z,rfl,rfl,Y,Z,q⟩:=h;cases G;obtain⟨t,rfl⟩:=J;obtain⟨its,r,pl,hz⟩:=I.tuple Y;obtain⟨j,h1,h2,h3,h4,h5⟩:=mz Z;obtain⟨w,ew,D⟩:=r.get h2;have hl:=r.length;have hn:=iK;have fin:EP X pins σ Q w s:=⟨z,H,I,D,q⟩;refine U ?_;exact subscriptTail_builtinR pl.typeIs slot_tuple_getitem.lookup
  (getItem_tuple pl (by omega) (by omega) (by rw[u3,<- hl];exact h1) (by simpa using ew) ⟨rfl,fin⟩) hs
def z9:IxR X CL:=by
 intro value slice pins s σ H x y v u Q I D G h hs;refine bq λZq J=>?_
 obtain⟨z,i,c,rfl,rfl,hz,U,q⟩:=h;obtain⟨t,rfl⟩:=D;obtain⟨t',rfl⟩:=G;obtain⟨j,h1,h2,h3,Y,Z⟩:=mz U;have hl:z.cps.toList.length=z.length:=by simp[Str.length]
 rw[hl]at h1 Y Z;have hn:=iK;refine J ?_;exact tail_any (typeIs_str s z t) slot_str_getitem.lookup (getItem_str (by
  have e1:decide (i < -(2 ^ 63:Int))=false:=HU (by omega);have e2:decide (i>=2 ^ 63)=false:=HU (by omega);rw[e1,e2,Bool.or_false]) (by rw[h1];simpa using h2) ⟨.str ⟨#[c]⟩,H,I.tok _,⟨_,rfl⟩,q⟩) hs
noncomputable def rIx(K:IF):R2:=λx y H Q=>CJ K x y H Q\/CK K x y H Q\/CL x y H Q
def pE:IxR X (rIx X.K):=qJ.or (zZ.or z9)
def mB(lo hi)(n):(sliceBounds lo hi none n).1=((HT.sIx n 0 lo:Nat):Int)/\(sliceBounds lo hi none n).2.1=((HT.sIx n n hi:Nat):Int)/\(sliceBounds lo hi none n).2.2=1:=by
 refine⟨?_,?_,rfl⟩
 .cases lo with
  |none=>simp[sliceBounds,HT.sIx]
  |some i =>
   simp[sliceBounds,HT.sIx,getD_none,show(1:Int) > 0 by decide,if_true];by_cases h:i<0
   .simp[h,if_true]<;>omega
   .simp[h,HL]<;>omega
 .cases hi with
  |none=>simp[sliceBounds,HT.sIx]
  |some i =>
   simp[sliceBounds,HT.sIx,getD_none,show(1:Int) > 0 by decide,if_true];by_cases h:i<0
   .simp[h,if_true]<;>omega
   .simp[h,HL]<;>omega
def lh(its:List Value)(lo hi:Option Int):slicePick its.toArray lo hi none=((its.drop (HT.sIx its.length 0 lo)).take (HT.sIx its.length its.length hi-HT.sIx its.length 0 lo)).toArray:=by
 obtain⟨h1,h2,z⟩:=mB lo hi its.toArray.size;unfold slicePick;rw[h1,h2,z];simp only[sliceRange_one,pick_run,u3]<;>rfl
def Fg(K:IF):V->Option Int->Option Int->Hp->VK->Prop:=λx lo hi H Q=>∃a xs,x=.ref a/\SqL K H a xs/\∀p,H p=none->Q (.ref p) (upd H p (.lst (nE xs lo hi)))
def xa:SlR X (Fg X.K):=by
 intro pins s σ H x v U Y lo hi Z Q I G hs pl J h;obtain⟨a,xs,rfl,hx,q⟩:=h;cases G;obtain⟨its,r,D,hz⟩:=I.list hx;have z:=r.length;refine⟨"list",_,slot_list_getitem.lookup,D.isList.typeIs,?_⟩;refine wpAny_getItem_list_slice D.isList hs pl J .none (by simp) ?_ (by rw[u3]<;>omega);rw[lh,<- z];refine⟨.ref s.heap.objs.size,_,I.laid (t':=s.toks) (o:=.lst (nE xs lo hi)) (λb ob q=>mu _ q) (vr _) ?_,rfl,q _ (I.hok.fresh (vr _))⟩;exact⟨Gg (je xs lo hi) hz,_,0,(r.drop (HT.sIx xs.length 0 lo)).take (HT.sIx xs.length xs.length hi-HT.sIx xs.length 0 lo),ro _ rfl⟩
noncomputable def fK:V->Bool
 | .non=>true
 | .bl _=>true
 | .int _=>true
 | .str _=>true
 | _=>false
noncomputable def eqV:V->V->Bool
 | .non,.non=>true
 | .bl a,.bl b=>a==b
 | .bl a,.int b=>(if a then 1 else 0)==b
 | .int a,.bl b=>a==(if b then 1 else 0)
 | .int a,.int b=>a==b
 | .str a,.str b=>a==b
 | _,_=>false
def t_(D:aE y u)(z:aE x v)(J:fK y=true)(G:fK x=true):SeqAt.EqAt A s u v (eqV y x):=by
 cases y with
 |non =>
  cases D;cases x with
  |non=>cases z;exact SeqAt.EqAt.same _
  |bl b=>cases z;exact SeqAt.EqAt.none_bool b
  |int b=>obtain⟨t,rfl⟩:=z;exact SeqAt.EqAt.none_int b t
  |str b=>obtain⟨t,rfl⟩:=z;exact SeqAt.EqAt.none_str b t
  | _=>exact absurd (show false=true from G) ow
 |bl a =>
  cases D;cases x with
  |non=>cases z;exact SeqAt.EqAt.bool_none a
  |bl b=>cases z;exact SeqAt.EqAt.bool_bool a b
  |int b=>obtain⟨t,rfl⟩:=z;exact SeqAt.EqAt.bool_int a b t
  |str b=>obtain⟨t,rfl⟩:=z;exact SeqAt.EqAt.bool_str a b t
  | _=>exact absurd (show false=true from G) ow
 |int a =>
  obtain⟨t',rfl⟩:=D;cases x with
  |non=>cases z;exact SeqAt.EqAt.int_none a t'
  |bl b=>cases z;exact SeqAt.EqAt.int_bool a t' b
  |int b=>obtain⟨t,rfl⟩:=z;exact SeqAt.EqAt.int_int a t' b t
  |str b=>obtain⟨t,rfl⟩:=z;exact SeqAt.EqAt.int_str a t' b t
  | _=>exact absurd (show false=true from G) ow
 |str a =>
  obtain⟨t',rfl⟩:=D;cases x with
  |non=>cases z;exact SeqAt.EqAt.str_none a t'
  |bl b=>cases z;exact SeqAt.EqAt.str_bool a t' b
  |int b=>obtain⟨t,rfl⟩:=z;exact SeqAt.EqAt.str_int a t' b t
  |str b=>obtain⟨t,rfl⟩:=z;exact SeqAt.EqAt.str_str a t' b t
  | _=>exact absurd (show false=true from G) ow
 | _=>exact absurd (show false=true from J) ow
def dr:bG X (.builtin "len") (λxs H Q=>∃p ys,xs=[.ref p]/\(SqL X.K H p ys\/SqT X.K H p ys)/\Q (.int ys.length) H):=by
 intro pins s σ H xs us Q I r h;obtain⟨p,ys,rfl,D,q⟩:=h;obtain⟨u,rfl,J⟩:=eT r;cases J;have U:=iK;rcases D with D|D
 .obtain⟨its,G,pl,hz⟩:=I.list D;have z:=G.length;exact Calls.call_len_list pl.isList (by simp[u3]<;>omega) ⟨.int ys.length,H,I.tok _,⟨s.toks+1,by rw[u3,z]⟩,q⟩
 .obtain⟨its,G,pl,hz⟩:=I.tuple D;have z:=G.length;exact len_tuple pl (by simp[u3]<;>omega) ⟨.int ys.length,H,I.tok _,⟨s.toks+1,by rw[u3,z]⟩,q⟩
def mC:bG X (.builtin "len") (λxs H Q=>∃z,xs=[.str z]/\z.length<=sizeLine/\Q (.int z.length) H):=by
 intro pins s σ H xs us Q I r h;obtain⟨z,rfl,hz,q⟩:=h;obtain⟨u,rfl,t,rfl⟩:=eT r;have D:=iK;exact len_str (by omega) ⟨.int z.length,H,I.tok _,⟨_,rfl⟩,q⟩
def mD:bG X (.type "list") (λxs H Q=>∃p ys,xs=[.ref p]/\(SqL X.K H p ys\/SqT X.K H p ys)/\∀l,H l=none->Q (.ref l) (upd H l (.lst ys))):=by
 intro pins s σ H xs us Q I r h;obtain⟨p,ys,rfl,G,q⟩:=h;obtain⟨u,rfl,Y⟩:=eT r;cases Y;have fin:∀its,aA ys its->ys.length<=sizeLine->∀h' z,(∀b o',s.heap.get? b=some o'->h'.get? b=some o') ->
   h'.get? s.heap.objs.size=some { cls:=.type "list",dict:=none,data:=.seq its.toArray z,slots:=#[] }->EP X pins σ Q (.ref s.heap.objs.size) { s with heap:=h' }:=λits D hz h' z kp e =>
  ⟨.ref s.heap.objs.size,_,I.laid (t':=s.toks) kp (vr _) (show bN X.prog X.w _ h' _ (.lst ys)from⟨hz,its,z,D,e⟩),rfl,q _ (I.hok.fresh (vr _))⟩
 rcases G with G|G
 .obtain⟨its,D,pl,hz⟩:=I.list G;have J:=D.length;obtain⟨o,U,hc,n,hd⟩:=pl.isList;exact call_list_seq p (.inl rfl) U hc hd (λh' z kp e=>fin its D hz h' z kp e) (by simp only[u3]<;>omega)
 .obtain⟨its,D,pl,hz⟩:=I.tuple G;have J:=D.length;obtain⟨o,U,hc,n,hd⟩:=pl;exact call_list_seq p (.inr rfl) U hc hd (λh' z kp e=>fin its D hz h' z kp e) (by simp only[u3]<;>omega)
def gq:bG X (.type "tuple") (λxs H Q=>∃p ys,xs=[.ref p]/\((SqL X.K H p ys/\∀l,H l=none->Q (.ref l) (upd H l (.tup ys)))\/(SqT X.K H p ys/\Q (.ref p) H))):=by
 intro pins s σ H xs us Q I r h;obtain⟨p,ys,rfl,h⟩:=h;obtain⟨u,rfl,U⟩:=eT r;cases U;rcases h with⟨z,q⟩|⟨z,q⟩
 .obtain⟨its,D,pl,hz⟩:=I.list z;have G:=D.length;refine call_tuple_list pl.isList (λh' kp=>?_) (by simp[u3]<;>omega);have J:=I.kept (t':=s.toks) kp;have Y:Inv X pins σ (upd H h'.objs.size (.tup ys)) { s with heap:=h'.push { cls:=.type "tuple",data:=.seq its.toArray } }:=
   J.laid (λb o e=>mu _ e) (vr _) (show bN X.prog X.w _ _ _ _ from⟨hz,its,D,IsTup.new _ _⟩)
  exact⟨.ref h'.objs.size,_,Y,rfl,q _ (J.hok.fresh (vr _))⟩
 .obtain⟨its,D,pl,hz⟩:=I.tuple z;exact call_tuple_same pl ⟨.ref p,H,I,rfl,q⟩
def tyV(K:IF)(T:String)(x:V)(H:Hp):Prop:=match x with
 | .str _=>T="str"
 | .int _=>T="int"
 | .ref p=>(T="list"/\∃xs,SqL K H p xs)\/(T="tuple"/\∃o,K.lookup p=some o/\o.cls=.type "tuple"/\o.dict=none) \/
   (T="dict"/\((∃kvs,H p=some (.dK kvs))\/∃kvs,H p=some (.dT kvs)))\/(T="set"/\∃S n,H p=some (.set S n))
 | _=>False
def ua(I:Inv X pins σ H s)(r:aE x v)(ty:tyV X.K T x H) :
  s.TypeIs v T/\∀a,v=.ref a->∃J,s.heap.get? a=some J/\J.dict=none:=by
 cases x with
 |str z =>
  obtain⟨t,rfl⟩:=r;cases (show T="str" from ty);exact⟨typeIs_str s z t,λ_ e=>nomatch e⟩
 |int i =>
  obtain⟨t,rfl⟩:=r;cases (show T="int" from ty);exact⟨typeIs_int s i t,λ_ e=>nomatch e⟩
 |ref p =>
  cases r;rcases ty with⟨rfl,xs,U⟩|⟨rfl,o,D,hc,hd⟩|⟨rfl,D⟩|⟨rfl,S,n,D⟩
  .obtain⟨its,_,pl,_⟩:=I.list U;refine⟨pl.isList.typeIs,λa e=>?_⟩;cases e;obtain⟨o,n,e,c,hd,_⟩:=pl;exact⟨o,e,hd⟩
  .refine⟨⟨o,I.kIn p o D,hc⟩,λa e=>?_⟩;cases e;exact⟨o,I.kIn _ o D,hd⟩
  .have z:∃o,s.heap.get? p=some o/\o.ExactDict:=by
    rcases D with⟨kvs,D⟩|⟨kvs,D⟩
    .obtain⟨_,_,_,_,o,_,_,e,ex,_⟩:=I.hok p _ D;exact⟨o,e,ex⟩
    .obtain⟨_,_,_,_,o,_,_,e,ex,_⟩:=I.hok p _ D;exact⟨o,e,ex⟩
   obtain⟨o,e,ex⟩:=z;refine⟨⟨o,e,ex.1⟩,λa G=>?_⟩;cases G;exact⟨o,e,ex.2.1⟩
  .obtain⟨o,_,_,_,e,ex,_⟩:=I.hok p _ D;refine⟨⟨o,e,ex.1⟩,λa G=>?_⟩;cases G;exact⟨o,e,ex.2.1⟩
 | _=>exact False.elim ty
noncomputable def Fh(K:IF)(T:String)(r:V->List V->Hp->VK->Prop)(to:TE):TE:=λσ H Q=>to σ H λx H1=>tyV K T x H1/\r x [] H1 Q
noncomputable def tBM(K:IF)(T:String)(r:V->List V->Hp->VK->Prop)(to:TE)(t:TA):TE:=λσ H Q=>to σ H λx H1=>tyV K T x H1/\t σ H1 λxs H2=>r x xs H2 Q
variable{o e:Expr}{es:List Expr}{to:TE}{t:TA}{name:Str}{apos cpos:Pos}{T id:String}{r:V->List V->Hp->VK->Prop}
def z_ (Y:PlainAttrs T) (slot:Slot T name id) (G:typeOf (.builtin id)=pure (.type "method_descriptor")) (Z:MtR X id r) (ho:PE X o to)
  (z:attributeBase o name X.env (eval o X.env)=eval o X.env:=by rfl) (D:(apos.endLine==cpos.line)=true:=by rfl):PE X (.Call (.Attribute o name apos) [] [] cpos) (Fh X.K T r to):=by
 intro pins s σ H Q I h;refine wpAny_Call_method0_late z D (thn (ho pins s σ H _ I h) λv s1 ⟨x,H1,J,U,ty,q1⟩=>?_);obtain⟨h1,h2⟩:=ua J U ty;exact⟨T,id,Y,slot,G,h1,h2,Calls.callWith_builtin rfl (PySem.evalArgs_none (Z pins s1 σ H1 x [] v [] Q J U .nil q1))⟩
def nF (pa:PlainAttrs T) (slot:Slot T name id) (U:typeOf (.builtin id)=pure (.type "method_descriptor")) (hm:MtR X id r) (ho:PE X o to) (ha:PA X (e::es) t)
  (D:attributeBase o name X.env (eval o X.env)=eval o X.env:=by rfl)
  (J:((backTo cpos (starEach (e::es) X.env)).all (λx=>!x.1)&&(backToKw cpos (keywordEach [] X.env)).all (λx=>x.1.isSome)
  &&decide ((e::es).length+([]:List Keyword).length+(if ([]:List Keyword).isEmpty then 0 else 1)<30))=true:=by rfl)
  (G:(apos.endLine==cpos.line)=true:=by rfl) (hs:starEach (e::es) X.env=(false,eval e X.env)::starEach es X.env:=by rfl) (z:(backTo cpos (starEach es X.env)).any (·.1)=false:=by rfl) :
  PE X (.Call (.Attribute o name apos) (e::es) [] cpos) (tBM X.K T r to t):=by
 intro pins s σ H Q I h;refine wpAny_Call_method_late D J G rfl (thn (ho pins s σ H _ I h) λv s1 ⟨x,H1,Y,Z,ty,q1⟩=>?_);obtain⟨h1,h2⟩:=ua Y Z ty;refine⟨T,id,pa,slot,U,h1,h2,?_⟩;have hA:=ha cpos pins s1 σ H1 _ Y q1;rw[hs]at hA ⊢;refine Calls.callWith_builtin (by show(false||(backTo cpos (starEach es X.env)).any (·.1))=false;rw[z]<;>rfl) (Calls.evalArgs_plain ?_);exact thn hA λus s2 ⟨vs,H2,I2,r2,q2⟩=>hm pins s2 σ H2 x vs v us Q I2 Z r2 q2
end
def MtM(X:Cx)(id:String)(r:V->List V->Hp->VK->Prop):Prop:=
 ∀pins s (σ:St) H x xs v us Q,Inv X pins σ H s->aE x v->aA xs us->r x xs H Q ->
  wpAny (model X.prog X.w) X.A (call (.builtin id) (v::us)) (EP X pins σ Q) X.xe s
theorem aA.one:∀{x}{us},aA [x] us->∃u,us=[u]/\aE x u
 | _,_,.cons r .nil=>⟨_,rfl,r⟩
def aA.zero:∀{us},aA [] us->us=[]
 | _,.nil=>rfl
theorem aA.dropLast(h:aA xs us):aA xs.dropLast us.dropLast:=by
 induction h with
 |nil=>exact .nil
 |cons r t ih =>
  cases t<;>first|exact .nil|exact .cons r ih
theorem aA.reverse(h:aA xs us):aA xs.reverse us.reverse:=by
 induction h with
 |nil=>exact .nil
 |cons r t ih=>rw[reverse_cons,reverse_cons];exact aA.append ih (.cons r .nil)
def Aa{α:Type}(l:List α):l.eraseIdx (l.length-1)=l.dropLast:=by simp
section
variable{X:Cx}{pins:List (Addr×Obj)}{σ:St}{H:Hp}{s:Shared}{l b:Addr}{xs ys zs:List V}
theorem Inv.lset{its its':List Value}{n:Nat}{f:Array Value->Array Value}{t':Nat}(I:Inv X pins σ H s)(z:H l=some (.lst xs))
  (e:s.heap.get? l=some { cls:=.type "list",data:=.seq its.toArray n }) (D:f its.toArray=its'.toArray) (G:aA ys its') (hz:ys.length<=sizeLine) :
  Inv X pins σ (upd H l (.lst ys)) { s with heap:=s.heap.update l (Obj.mapSeq f),toks:=t' }:=by
 have q:=PySem.IsL.update e f;rw[D]at q;refine I.write (x:=l) (e:=l) (by rw[z];exact trivial) (.inl rfl) (λY u J U=>(Gn s.heap (Obj.mapSeq f) (GR J)).trans U) ⟨_,q⟩ ?_;exact⟨hz,its',_,G,q⟩
theorem Inv.lnew(I:Inv X pins σ H s)(z:aA ys its)(hz:ys.length<=sizeLine) :
  Inv X pins σ (upd H s.heap.objs.size (.lst ys)) { s with heap:=s.heap.push { cls:=.type "list",data:=.seq its.toArray },toks:=t' }:=
 I.laid (λ_ _ q=>mu _ q) (vr _) ⟨hz,its,0,z,ro _ rfl⟩
theorem Inv.fresh(I:Inv X pins σ H s):H s.heap.objs.size=none:=I.hok.fresh (vr _)
theorem Inv.lstM (I:Inv X pins σ H s) (D:H l=some (.lst xs)):xs.length<=sizeLine/\∃its n,aA xs its/\xs.length=its.length/\s.heap.get? l=some { cls:=.type "list",data:=.seq its.toArray n }:=by
 obtain⟨z,its,n,r,e⟩:=I.hok l _ D;exact⟨z,its,n,r,r.length,e⟩
def nG(h:n<=sizeLine):Builtin.List.listTooLong n=false:=by simp_all [Builtin.List.listTooLong]
end
section
variable{X:Cx}
def xb:V->List V->Hp->VK->Prop:=λx vs H Q=>∃l xs y,x=.ref l/\vs=[y]/\H l=some (.lst xs)/\xs.length<sizeLine/\Q .non (upd H l (.lst (xs++[y])))
def gc:MtM X "list.append" xb:=by
 intro pins s σ H x vs v us Q I G J h;refine bq λZ U=>?_
 obtain⟨l,xs,y,rfl,rfl,D,hz,q⟩:=h;cases G;obtain⟨u,rfl,Y⟩:=J.one;obtain⟨z,its,n,r,hl,e⟩:=I.lstM D;refine U ?_;refine Hn F.slot_list_append ⟨_,e,rfl⟩ F.entry_list_append (F.args_list_append_2 _ _) (PySem.list_append l its.toArray n u (by rw[u3];omega)) ⟨e,?_⟩;refine⟨.non,_,I.lset D e (by simp) (r.append (.cons Y .nil)) ?_,rfl,q⟩
 grind
def Fi:V->List V->Hp->VK->Prop:=λx vs H Q=>∃l xs y,x=.ref l/\vs=[]/\H l=some (.lst xs)/\xs[xs.length-1]?=some y/\Q y (upd H l (.lst xs.dropLast))
def Ab:MtM X "list.pop" Fi:=by
 intro pins s σ H x vs v us Q I U Y h;refine bq λZq Z=>?_
 obtain⟨l,xs,y,rfl,rfl,J,hy,q⟩:=h;cases U;have D:=Y.zero;subst D;obtain⟨z,its,n,r,hl,e⟩:=I.lstM J;obtain⟨u,hu,ru⟩:=r.get hy;have G:its.toArray[its.toArray.size-1]?=some u:=by
  simp_all
 refine Z ?_;refine Hn F.slot_list_pop ⟨_,e,rfl⟩ F.entry_list_pop (F.args_list_pop_1 _) (MeetsSeq.list_pop_last l its.toArray n u G (by rw[u3];omega)) ⟨e,?_⟩;refine⟨y,_,I.lset J e ?_ r.dropLast ?_,ru,q⟩
 .simp_all
 .rw[length_dropLast];omega
end
section
variable{prog:Program}{w:World}{A:Around}{E:Value->Shared->Prop}{s:Shared}
end
section
variable{X:Cx}
end
end L2
namespace Att
open PySem PySem.W PySem.Calls PyProof.Rows List Option
def jt :∀ns vs,WellAll P h vs (ns.map WData.int)->IntsAre vs ns:=by
 intro ns
 induction ns with
 |nil =>
  intro vs w;cases w;exact .nil
 |cons n ns ih =>
  intro vs w;cases w with
  |cons a b =>
   cases a;exact .cons _ _ (ih _ b)
def rW{l:OpenLaw}(Z:l.most=some n) 
  (z:l.row.toRowW.claim.pre args=true) (U:WellAll P h vals args) :
  ∃a vs ns,vals=[Value.ref a]/\args=[WData.list (ns.map WData.int)]/\h.get? a=some { cls:=.type "list",data:=.seq vs.toArray }/\IntsAre vs ns/\ns.length<=n:=by
 have Y:WShape.hasAll [] args [.list .int]=true:=(pre_splitW z).1;have hc:l.pre.holds [] { args:=args }=true:=(pre_splitW z).2;obtain⟨d,r,rfl,h1,h2⟩:=hasAllW_cons Y;obtain rfl:=hasAllW_nil h2;obtain⟨xs,rfl,h3⟩:=hasW_list h1;obtain⟨ns,rfl⟩:=items_int h3;have D:ns.length<=n:=by
  have J:(WTm.not (.lt (.lit (.int (n:Int))) (.len (.arg 0)))).holds [] { args:=[.list (ns.map .int)] }=true:=by
   have J:=(holds_andW hc).1;rw[Z]at J;exact J
  have h5:=condW_of J (w_not (w_lt w_lit (w_len_list (w_arg rfl))))
  simp_all
 cases U with
 |cons w1 w2 =>
  cases w2;cases w1 with
  |list ho G=>exact⟨_,_,ns,rfl,rfl,ho,jt ns _ G,D⟩
def rX(l:OpenLaw)(args):l.row.toRowW.claim.post args (.bool true) args=true:=
 postW_of (r:=l.row.toRowW) (X:=(true==true))
  (show WShape.has [] (.bool true) .bool=true by first|rfl|decide|simp[WShape.arms])
  (show(WTm.eq .res (.lit (.bool true))).value [] { args:=args,res:=some (.bool true),after:=args }=some (.bool (true==true))from w_eq_bool (w_res rfl) w_lit) rfl
def attach_call{l:OpenLaw}{n:Nat}{q:Program}{D:List Str}{XP:(Str->Option Value)->Heap->Prop}{YP:World->Heap->Prop}{d:DefRec}
  (hn:l.most=some n) (a2:d.params.defaults=[])
  (call:∀w s₀ z mg mb Z o pm cd J a vs ns,
   Ground q D [] XP w s₀ mg mb z.heap->YP w z.heap ->
   z.heap.get? Z=some o->o.data=.func (docDef d.name d.params d.body d.scope pm cd J)->z.heap.CodeRec cd d.name->mg d.name=some (.ref Z) ->
   z.heap.get? a=some { cls:=.type "list",data:=.seq vs.toArray }->IntsAre vs ns->ns.length<=n->z.gens=#[] ->
   codeAny (model l.prog w) callerA (.call (.ref Z) ⟨[.ref a],[]⟩) (λr s'=>r=.ok (.ret (.bool true))/\OldK z.heap s'.heap/\s'.os=z.os/\AllBare s'.gens) z) :
  WalkO q D XP YP l.row.toRowW d [] (λf vs=>PySem.call f vs):=by
 intro w s₀ z mg mb G Y Z o pm cd J dV kV ho hd a4 hD a5 hg args vals as ao bp ca a6 ce;obtain rfl:dV=.none:=Dflts.none hD a2;obtain rfl:kV=.none:=Dflts.noKw hD;obtain⟨a,vs,ns,rfl,rfl,ap,U,aO⟩:=rW hn ao a6;refine enter_call (G4 (call w s₀ z mg mb Z o pm cd J a vs ns G Y ho (fd_plain hd) a4 a5 ap U aO hg) λr s' hq=>?_);obtain⟨rfl,h2,h3,h4⟩:=hq;exact⟨.inl ⟨.bool true,.bool true,[],rfl,λ_=>rfl,.bool true,rX l _,λ_=>⟨Pairwise.nil,λ_ hm=>(nomatch hm)⟩⟩,h2,h3,h4⟩
section
variable{prog:Program}{w:World}{A:Around}{E:Value->Shared->Prop}{s:Shared}{K:Frag}
end
end Att
namespace L2
open PySem PySem.Spec PyProof.Rows List Option
theorem iM:∀{vs}{ns},IntsAre vs ns->aA (ns.map V.int) vs
 | _,_,.nil=>.nil
 | _,_,.cons n t h=>.cons ⟨t,rfl⟩ (iM h)
def Ac(H:Hp):Prop:=∀b,H b=none\/∃o xs,H b=some (.frz o (.lst xs))
def ub{K:IF} 
  (KX:K.In D.heap) (ao:D.heap.Ns mainGlobals mg) (J:D.heap.Ns builtinsNs mb) (a5:∀x:Str,x ≠ "__name__"->mb x=bootBuiltins x) (ap:D.heap.NoLimit) (hg:D.gens=#[])
  (ha:D.heap.get? a=some { cls:=.type "list",data:=.seq vs.toArray }) (hi:IntsAre vs ns) (hl:ns.length<=sizeLine) (hr:cI k callerA)
  (F:∀base,K.In base->base.Ns mainGlobals mg->b9 P w K mg base CX k fa fd [x] sp) (Z:∀s u,BindsTo s fd ⟨[u],[]⟩ [(x,u)])
  (a6:∀H,Ac H->SqL K H a (ns.map V.int)->sp [.ref a] H (λv _=>v=.bl true) λ_ _ _=>False)
  (a7:∀H e s',CX [] H D (λ_ _ _=>False) e s'->False) :
  codeAny (model P w) callerA (.call (.ref fa) ⟨[.ref a],[]⟩) (λr s'=>r=.ok (.ret (.bool true))/\OldK D.heap s'.heap/\s'.os=D.os/\AllBare s'.gens) D:=by
 have rv:=iM hi;have aO:=hi.length;have Y:∀H,Ac H->SqL K H a (ns.map V.int)->HOk P w H D.heap->(∀b,H b≠none->b=a)->(H a≠none->K.lookup a=none) ->
   codeAny (model P w) callerA (.call (.ref fa) ⟨[.ref a],[]⟩) (λr s'=>r=.ok (.ret (.bool true))/\OldK D.heap s'.heap/\s'.os=D.os/\AllBare s'.gens) D:=by
  intro H hO hS hok hA hK;have G:∀{b}{o},D.heap.get? b=some o->H b=none->(mq D.heap H).get? b=some o:=λe n=>tw e n
  have be:∀{b}{o}{es}{ep},D.heap.get? b=some o->o.data=.dict es ep->H b=none:=λ{b o es ep} e d=>by
   cases q:H b with
   |none=>rfl
   |some u =>
    have e':=hA b (by rw[q];simp);subst e';rw[ha]at e;cases e
    have d':=d;cases d'
  have U:∀{b}{m},D.heap.Ns b m->(mq D.heap H).Ns b m:=λ{b m} ⟨o,es,ep,e,d,r⟩=>⟨o,es,ep,G e (be e d),d,r⟩
  have a1:K.In (mq D.heap H):=λb o e=>G (KX b o e) (by
   cases q:H b with
   |none=>rfl
   |some u =>
    have e':=hA b (by rw[q];simp);subst e';rw[hK (by rw[q];simp)]at e;cases e)
  have hM:Mod K mg (mq D.heap H):=⟨a1,U ao,⟨mb,U J,a5⟩,let ⟨mc,h1,h2⟩:=ap;⟨mc,U h1,h2⟩⟩;have e0:pA P w K mg (mq D.heap H) callerA [] D H:=⟨rfl,hM,λb o e=>wH e,Hw (rM _ _),trivial,λb J=>absurd (show b∈([]:List Addr)from J) (by simp),hok,.of_eq hg⟩;refine G4 ((F _ a1 (U ao)).run callerA [] D H ⟨[.ref a],[]⟩ [.ref a] [.ref a] _ _ hr e0 (Z D (.ref a)) (.cons rfl .nil) (a6 H hO hS)) λr s' h=>?_
  cases r with
  |error e=>exact(a7 H e s' h).elim
  |ok fl =>
   cases fl with
   |ret u =>
    obtain⟨v,H',os,bare,un,a2,r',q⟩:=h;have q':=q;subst q';obtain rfl:u=Value.bool true:=r';refine⟨rfl,OldK.of_keep λb o e=>?_,os,bare⟩;cases q:H b with
    |none=>exact un.keep b o e q (by intro z;exact absurd (show b∈([]:List Addr)from z) (by simp)) (by simp)
    |some u =>
     rcases hO b with z|⟨ob,xs,z⟩
     .rw[q]at z;cases z
     .have z2:=un.frzs b ob _ z;obtain⟨e1,_⟩:=hok b _ z;obtain⟨e2,_⟩:=a2 b _ z2;rw[e]at e1;cases e1
      exact e2
   | _=>exact False.elim h
 cases hk:K.lookup a with
 |some o =>
  have e:=KX a o hk;rw[ha]at e;cases e;refine Y (λ_=>none) (λ_=>.inl rfl) (.inr ⟨_,vs.toArray,_,hk,rfl,rfl,rfl,by rw[u3,aO];exact hl,by simpa using rv⟩) (λb u z=>by have z':=z;cases z') (λb z=>absurd rfl z) λz=>absurd rfl z
 |none =>
  refine Y (λb=>if b=a then some (.frz { cls:=.type "list",data:=.seq vs.toArray } (.lst (ns.map V.int)))else none) (λb=>?_) (.inl (.inr ⟨{ cls:=.type "list",data:=.seq vs.toArray },if_pos rfl⟩)) (λb u z=>?_) (λb z=>?_) λ_=>hk
  .by_cases J:b=a
   .exact .inr ⟨_,_,if_pos J⟩
   .exact .inl (if_neg J)
  .by_cases J:b=a
   .have z':=(if_pos J).symm.trans z;cases z';subst J;exact⟨ha,by rw[FY];exact hl,vs,_,rv,ha⟩
   .have z':=(if_neg J).symm.trans z;cases z'
  .by_cases J:b=a
   .exact J
   .exact absurd (if_neg J) z
def xc{l:PySem.W.OpenLaw}{n k:Nat}{q:Program}{D:List Str}{XP:(Str->Option Value)->Heap->Prop}{YP:World->Heap->Prop}{d:DefRec}{K:Params->IF}{CX:World->CXT}{sp:World->Sp}{x:Str}
  (hn:l.most=some n) (ap:n<=sizeLine) (aO:d.params.defaults=[]) (hr:cI k callerA)
  (hY:∀w h,YP w h->(K w.params).In h)
  (F:∀w mg fa h,(K w.params).In h->h.Ns mainGlobals mg->mg d.name=some (.ref fa) ->
   ∃fd,(∀s u,BindsTo s fd ⟨[u],[]⟩ [(x,u)]) /\
    ∀base,(K w.params).In base->base.Ns mainGlobals mg->b9 l.prog w (K w.params) mg base (CX w) k fa fd [x] (sp w))
  (a1:∀w H a (ns:List Int),ns.length<=n->Ac H->SqL (K w.params) H a (ns.map V.int)->sp w [.ref a] H (λv _=>v=.bl true) λ_ _ _=>False)
  (a2:∀w H s e s',CX w [] H s (λ_ _ _=>False) e s'->False) :
  PySem.W.WalkO q D XP YP l.row.toRowW d [] (λf vs=>PySem.call f vs):=by
 refine Att.attach_call hn aO λw s₀ U mg mb fa o pm cd bp a vs ns G Y ho hd b1 a3 Z J z hg=>?_
 have KX:=hY w _ Y;obtain⟨fd,hb,hF⟩:=F w mg fa _ KX G.T.g a3;exact ub KX G.T.g G.T.b G.T.builtins G.T.nolimit hg Z J (Gg z ap) hr hF hb (λH hO hS=>a1 w H a ns z hO hS) λH e s'=>a2 w H U e s'
noncomputable def mE(s:Stmt)(j:Nat):Stmt:=match s with
 | .ClassDef _ _ _ body _ _ _ _ _ _ _=>body.getD j (.Pass ⟨0,0,0,0⟩)
 | _=>.Pass ⟨0,0,0,0⟩
noncomputable def mF(s:Stmt):Arguments:=match s with
 | .FunctionDef _ a _ _ _ _ _ _ _ _=>a
 | _=>{ posonlyargs:=[],args:=[],vararg:=none,kwonlyargs:=[],kw_defaults:=[],kwarg:=none,defaults:=[] }
noncomputable def dg(s:Stmt):List Stmt:=match s with
 | .FunctionDef _ _ b _ _ _ _ _ _ _=>b
 | _=>[]
noncomputable def aK(s:Stmt):Scope:=match s with
 | .FunctionDef _ _ _ _ _ _ sc _ _ _=>sc
 | _=>{ kind:=.function,names:=[],isGenerator:=false,isCoroutine:=false }
noncomputable abbrev CX0:CXT:=λ_ _ _ _ _ _=>False
noncomputable abbrev E0:XK:=λ_ _ _=>False
def g5 :gF CX0 X E0:=λ_ _ _ _ _ _ _ h=>h.elim
section
variable{P:Program}{w:World}{K:IF}{mg:Str->Option Value}{base:Heap}
end
section
variable{X:Cx}
def pv (i:Nat) {x:Str}{pos:Pos} (D:X.N[i]?=some x:=by rfl) (G:Vis X.env.scope x:=by first|exact Or.inl rfl|exact Or.inr (Or.inl rfl)|exact Or.inr (Or.inr rfl)) (hd:(x==("__debug__":Str))=false:=by decide)
  (z:(x==("__classdict__":Str))=false:=by decide):PE X (.Name x pos) (zE i):=tz D G hd z
end
def Fj{A B:Prop}(h:B):if false=true then A else B:=by
 rw[if_neg ow];exact h
def ae(H H':Hp):Prop:=∀b o,H b=some o->H' b=some o
def ae.refl(H):ae H H:=λ_ _ h=>h
def ae.trans(a:ae H H1)(b:ae H1 H2):ae H H2:=λc o h=>b c o (a c o h)
def ae.free(e:ae H H')(h:H' l=Option.none):H l=Option.none:=by
 cases q:H l with
 |none=>rfl
 |some o =>
  rw[e l o q]at h;cases h
theorem ae.seq{K:IF}(e:ae H H')(h:SqL K H a xs):SqL K H' a xs:=by
 rcases h with(h|⟨o,h⟩)|h
 .exact .inl (.inl (e _ _ h))
 .exact .inl (.inr ⟨o,e _ _ h⟩)
 .exact .inr h
section
variable{κ:Type} [DecidableEq κ]
theorem KV.length(r:KV kvs vs):kvs.length=vs.length:=Paired.length r
end
def CM(r:aE (kV k) u):(de P w).is k u=true:=by
 cases k with
 |inl i=>obtain⟨t,e⟩:=(show ∃t,u=Value.int i t from r);subst e;exact nq P w i t
 |inr x=>obtain⟨t,e⟩:=(show ∃t,u=Value.str x t from r);subst e;exact nr P w x t
theorem lI :∀{ks}{us},aA (ks.map kV) us->ItemsAre (de P w) ks us
 | [],_,r=>by rw[map_nil]at r;cases r;exact .nil
 |k::ks,_,r=>by
  cases r with
  |cons h t=>exact .cons (CM h) (lI t)
abbrev KT(H:Hp):List (List Key×V)->List (List Key×Addr×Value)->Prop:=Paired λp q=>p.1=q.1/\H q.2.1=some (.tup (p.1.map kV))/\aE p.2 q.2.2
section
variable{P:Program}{w:World}{H:Hp}{h:Heap}{a:Addr}
def yS(ok:HOk P w H h)(e:Rd H a u):bN P w H h a u:=e.ok ok
def yT(ok:HOk P w H h)(e:Rd H a (.dK kvs)):kvs.length<=sizeLine/\(a==sysModules)=false/\∃vs,KV kvs vs/\h.DictOf (de P w) a vs:=
 show bN P w H h a (.dK kvs)from yS ok e
def Ad(ok:HOk P w H h)(e:H a=some (.tup (ks.map kV))):(tupleKind (de P w)).is h ks a:=by
 obtain⟨_,its,r,o,h1,h2,n,z⟩:=(show bN P w H h a _ from ok a _ e);exact⟨o,its.toArray,n,h1,h2,z,by simpa using lI r⟩
def CN(ok:HOk P w H h)(e:Rd H a (.dT kvs)):kvs.length<=sizeLine/\(a==sysModules)=false /\
  ∃xs,KT H kvs xs/\h.DictOfH (tupleKind (de P w)) a xs:=by
 refine bq λZ G=>?_
 obtain⟨z,y,xs,r,o,es,ep,h1,h2,J,U,Y⟩:=(show bN P w H h a _ from yS ok e);refine G ?_;refine⟨z,y,xs,r,o,es,ep,h1,h2,J,U,λx hx=>?_,Y⟩;have all:∀{l}{m},KT H l m->∀x∈m,(tupleKind (de P w)).is h x.1 x.2.1:=by
  intro l m q
  induction q with
  |nil=>intro x hx;exact nomatch hx
  | @cons p q ps qs D t ih =>
   intro x hx;rcases y1.mp hx with e|hx
   .subst e;exact Ad ok (by rw[<- D.1];exact D.2.1)
   .exact ih x hx
 exact all r x hx
end
section
variable{X:Cx}{pins:List (Addr×Obj)}{σ:St}{H:Hp}{s:Shared}{a:Addr}{y v:V}{u r:Value}{o:Option V}{A:Around}{E:Value->Shared->Prop}
end
section
variable{X:Cx}{pins:List (Addr×Obj)}{σ:St}{H:Hp}{s:Shared}{a:Addr}{kvs:List (Key×V)}{k:Key}{u:Value}{A:Around}{E:Value->Shared->Prop}
end
def Ae(i:Expr):Prop:=∀z D,subscripted i false z D=operate [z,D] (getItem z D)
def xg{T id:String} 
  (hl:typeLookup (.type T) "__getitem__"=pure (some (.builtin id))) (hs:Ae slice)
  (h:wpAny (model prog w) A (eval value env) (λo G=>wpAny (model prog w) A (eval slice env) (λi z=>z.TypeIs o T/\wpAny (model prog w) A (getItem o i) Q E z) E G) E s) :
  wpAny (model prog w) A (eval (.Subscript value slice pos) env) Q E s:=by
 refine Subscript_ (F8 h (λo G U=>F8 U (λi z D=>?_) λ_ _ x=>x) λ_ _ x=>x);obtain⟨Z,D⟩:=D;unfold subscriptTail;refine kx ?_;rw[getitemInPython_of_ne Z.not_modules];refine kx (HV Z hl ?_);have fin:wpAny (model prog w) A (subscripted slice false o i) (λr J=>wpAny (model prog w) A (letTemporaryGo value o r >>= λ_=>pure r) Q E J) E z:=by
  rw[hs o i];exact wpAny_operating (F8 D (λr J Y=>kx (wpAny_letTemporaryGo (pb Y))) λ_ _ x=>x)
 first
  | exact pb (kx fin)
  | exact kx (pb _)
  | exact kx fin
section
variable{X:Cx}{o i e value:Expr}{pos pos' tpos:Pos}{td ty tv:TE}
end
section
variable{X:Cx}{pos:Pos}
end
def IsD(H:Hp)(a:Addr):Prop:=(∃kvs,Rd H a (.dK kvs))\/∃kvs,Rd H a (.dT kvs)
def Af(I:Inv X pins σ H s)(d:IsD H a) :
  s.TypeIs (.ref a) "dict"/\(∀b,Value.ref a=.ref b->∃z,s.heap.get? b=some z/\z.dict=none)/\(a==sysModules)=false:=by
 rcases d with⟨kvs,e⟩|⟨kvs,e⟩
 .obtain⟨_,hd,vs,_,dd⟩:=yT I.hok e;refine⟨dd.typeIs,λb q=>?_,hd⟩;cases q;obtain⟨z,_,_,h1,h2,_⟩:=dd;exact⟨z,h1,h2.2.1⟩
 .obtain⟨_,hd,xs,_,dd⟩:=CN I.hok e;refine⟨dd.typeIs,λb q=>?_,hd⟩;cases q;obtain⟨z,_,_,h1,h2,_⟩:=dd;exact⟨z,h1,h2.2.1⟩
section
variable{X:Cx}{pins:List (Addr×Obj)}{σ:St}{H:Hp}{s:Shared}{a:Addr}{y d:V}{u r:Value}{o:Option V}{A:Around}{E:Value->Shared->Prop}
end
section
variable{X:Cx}{o e f:Expr}{apos cpos:Pos}{td ty tx:TE}
end
section
variable{X:Cx}{pins:List (Addr×Obj)}{σ:St}{H:Hp}{s:Shared}{a:Addr}{kvs:List (Key×V)}{A:Around}{E:Value->Shared->Prop}
end
section
variable{X:Cx}{pins:List (Addr×Obj)}{σ:St}{H:Hp}{s:Shared}{a:Addr}{y:V}{u:Value}{A:Around}{E:Value->Shared->Prop}
end
end L2
namespace L2.Srt
open PySem PySem.W PyProof.Rows List Option
section
variable{O:KeyOrd}{key:Nat->O.α}{N:Nat}{cmp:Nat->Nat->(Bool->Shared->Prop)->Shared->Prop}{s:Shared}
variable(hc:∀a b C,a<N->b<N->C (O.blt (key a) (key b)) s->cmp a b C s)
include hc
end
end L2.Srt
namespace L2.Srt
open PySem PyProof.Rows List Option
section
variable(O:KeyOrd)
end
def lJ{α:Type}(xs)(d:α):(range xs.length).map (λi=>xs.getD i d)=xs:=by
 apply Iw;intro i;rw[Ga];by_cases q:i<xs.length
 .simp_all
 .simp_all
end L2.Srt
namespace L2.Srt
open PySem PySem.W PySem.Calls PyProof.Rows List Option
section
variable{prog:Program}{w:World}{A:Around}{E:Value->Shared->Prop}{s:Shared}
end
end L2.Srt
namespace L2.St
open PySem PyProof.Rows List Option
section
variable{P:Program}{w:World}{A:Around}{E:Value->Shared->Prop}{s:Shared}
def qK{items:Array Value}(hi:IntsAre items.toList ns):∀i (v:Value),items[i]?=some v->∃t,v=.int (ns.getD i 0) t:=
 λi v e=>IntsAre.int_at hi i v (by rw[GW];exact e)
def lK{v:Value}{vs:Array Value}{it:Addr}{Q:Option Value->Shared->Prop}(hh:A.handled=none){R:Value->Shared->Prop}
  (z:∀e s',(∀b o,s.heap.get? b=some o->s'.heap.get? b=some o)->(∃h',s'={ s with heap:=h' })->s'.TypeIs e "StopIteration"->R e s') {D:PySem.Fin->Shared->Prop} :
  wpAny (model P w) A (newExc (.type "StopIteration") [] >>= λe=>(raiseNew e:Sem PySem.Fin)) D R s:=by
 refine wpAny_bind ?_;simp only[newExc,newTuple];refine wpAny_bind (wpAny_newObj_type ?_ (by size_fits));refine wpAny_bind (m:=firstArgMember _ _) (wpAny_of_eq (a:=Value.none) (by first|rfl|(simp only[firstArgMember];rfl)) ?_);refine wpAny_newObj_type ?_ (by size_fits);simp only[raiseNew];refine wpAny_bind (wpAny_handled ?_);rw[hh];refine wpAny_bind (wpAny_pure (wpAny_throw ?_));exact z _ _ (λb o e=>Heap.get?_push_of_some _ (Heap.get?_push_of_some _ e)) ⟨_,rfl⟩ ⟨_,Heap.get?_push_size _ rfl,rfl⟩
end
end L2.St
namespace L2.St
open PySem List Option
def ju(xs:Array Nat):Prop:=∀i j,i<j->j<xs.size->xs.getD i 0<xs.getD j 0
def uc{xs:Array Nat}(h:i<xs.size)(d e):xs.getD i d=xs.getD i e:=by simp[Array.getD,h]
theorem jY(U:ju xs):∀D lo hi,hi<=lo+D->lo<=hi->hi<=xs.size->(∀i,i<lo->xs.getD i 0<j)->(∀i,hi<=i->i<xs.size->j<=xs.getD i 0) ->
  (SetTable.below.go xs j D lo hi<=xs.size/\(∀i,i<SetTable.below.go xs j D lo hi->xs.getD i 0<j)/\∀i,SetTable.below.go xs j D lo hi<=i->i<xs.size->j<=xs.getD i 0)
 |0,lo,hi,hf,h1,h2,a,b=>by
  have e:SetTable.below.go xs j 0 lo hi=lo:=rfl;rw[e];have:=Nat.le_antisymm h1 hf;subst this;exact⟨h2,a,b⟩
 |D+1,lo,hi,hf,h1,h2,a,b=>by
  have e:SetTable.below.go xs j (D+1) lo hi=if lo<hi then(if xs.getD ((lo+hi) / 2) j<j then SetTable.below.go xs j D ((lo+hi) / 2+1) hi else SetTable.below.go xs j D lo ((lo+hi) / 2))else lo:=rfl
  rw[e];by_cases Y:lo<hi
  .rw[if_pos Y];obtain⟨m,em,m1,m2⟩:∃m,(lo+hi) / 2=m/\lo<=m/\m<hi:=⟨_,rfl,by omega,by omega⟩;rw[em];have Z:=FU m2 h2;rw[uc Z j 0];by_cases J:xs.getD m 0<j
   .rw[if_pos J];refine jY U D _ hi (by omega) m2 h2 (λi G=>?_) b;rcases Ie (Nat.le_of_lt_succ G)with z|z
    .exact HW (U i m z Z) J
    .rw[z];exact J
   .rw[if_neg J];refine jY U D lo _ (by omega) m1 (Hu Z) a λi G hz=>?_
    rcases Ie G with z|z
    .exact Gg (Hg.mp J) (Hu (U m i z hz))
    .rw[<- z];exact Hg.mp J
  .rw[if_neg Y];have:=Nat.le_antisymm h1 (Hg.mp Y);subst this;exact⟨h2,a,b⟩
def gG(z:ju xs)(j):SetTable.below xs j<=xs.size/\(∀i,i<SetTable.below xs j->xs.getD i 0<j)/\∀i,SetTable.below xs j<=i->i<xs.size->j<=xs.getD i 0:=
 jY z xs.size 0 xs.size (Nat.le_add_left _ _) (Gv _) (vr _) (λi h=>absurd h (Nat.not_lt_zero i)) λi h1 h2=>absurd h2 (Hg.mpr h1)
def lj(xs)(p)(x:α)(z:p<=xs.size):(SetTable.insertAt xs p x).size=xs.size+1:=by grind [SetTable.insertAt]
def g6(xs)(p)(x:α)(z:p<=xs.size)(i):(SetTable.insertAt xs p x)[i]?=if i<p then xs[i]? else if i=p then some x else xs[i-1]?:=by
 unfold SetTable.insertAt;have hz:((xs.extract 0 p).push x).size=p+1:=by rw[Array.size_push,Ig,HX z,Nat.sub_zero]
 rcases Im i p with h1|h1|h1
 .rw[if_pos h1,Ik (by rw[hz];exact GA h1)];rw[Array.getElem?_push,if_neg (by rw[Ig,HX z];exact FX h1),Array.getElem?_extract,if_pos (by rw[HX z];exact h1),Nat.zero_add]
 .subst h1;rw[if_neg (Gk _),if_pos rfl,Ik (by rw[hz];exact GU _)];rw[Array.getElem?_push,if_pos (by rw[Ig,HX z];rfl)]
 .obtain⟨k,rfl⟩:=HB h1;rw[if_neg (Nat.lt_asymm h1),if_neg (GH h1),Array.getElem?_append_right (by rw[hz];exact h1),hz,Array.getElem?_extract,Nat.add_right_comm,Nat.add_sub_cancel_left,Nat.min_self,Nat.add_right_comm,GD];by_cases D:k<xs.size-p
  .rw[if_pos D]
  .rw[if_neg D,HG (Nat.sub_le_iff_le_add'.mp (Hg.mp D))]
def dt{xs:Array Nat} :xs.getD i 0=(xs[i]?).getD 0:=Array.getD_eq_getD_getElem?
def nH(J:ju xs)(hn:xs[SetTable.below xs j]?≠some j):ju (SetTable.insertAt xs (SetTable.below xs j) j):=by
 obtain⟨U,ha,Z⟩:=gG J j;generalize SetTable.below xs j=p at *
 have Y:∀i,p<=i->i<xs.size->j<xs.getD i 0:=λi h1 h2=>by
  rcases Ie h1 with z|z
  .exact Hh (Z p (vr _) (HW z h2)) (J p i z h2)
  .subst z;have e:xs[p]?=some (xs.getD p 0):=by rw[Ht h2];simp[Array.getD,h2]
   exact Nat.lt_of_le_of_ne (Z p h1 h2) λz=>hn (by rw[e,<- z])
 intro i k G hk;rw[lj _ _ _ U]at hk;rw[dt,dt,g6 _ _ _ U,g6 _ _ _ U];rcases Im k p with h1|h1|h1
 .rw[if_pos h1,if_pos (HW G h1),<- dt,<- dt];exact J i k G (FU h1 U)
 .simp_all
 .obtain⟨c,rfl⟩:=HB h1;have hc:=Nat.lt_of_succ_lt_succ hk;rw[if_neg (Nat.lt_asymm h1),if_neg (GH h1),GD];rcases Im i p with D|D|D
  .rw[if_pos D,<- dt,<- dt];exact J i (p+c) (FU D (Hc p c)) hc
  .rw[if_neg (D▸Gk p),if_pos D,<- dt];exact Y (p+c) (Hc p c) hc
  .obtain⟨b,rfl⟩:=HB D;rw[if_neg (Nat.lt_asymm D),if_neg (GH D),GD,<- dt,<- dt];exact J (p+b) (p+c) (Nat.lt_of_succ_lt_succ G) hc
def pF(n):ju (Array.range n):=λi j h1 h2=>by
 rw[Array.size_range]at h2;simp[Array.getD,h2,HW h1 h2];exact h1
def ud:ju #[]:=λi j _ h=>by simp at h
structure Gd(L:Bool)(t:SetTable):Prop where
 led:t.led=L
 dum:t.dummies=#[]
 rise:ju t.place
theorem Gd.fresh(L):Gd L (.fresh 0 0 L):=⟨rfl,rfl,ud⟩
theorem Gd.standIn(h:Gd L t)(n):Gd L (t.standIn n):=⟨h.led,rfl,pF n⟩
theorem Gd.orStandIn(h:Gd L t)(n):Gd L (t.orStandIn n):=by
 unfold SetTable.orStandIn;split
 .exact h
 .exact h.standIn n
def Gd.unplain(h:Gd L t):Gd L { t with plain:=false }:=⟨h.led,h.dum,h.rise⟩
def mG{t:SetTable}(hd:t.dummies=#[])(j):t.slot j≠.dummy:=by
 unfold SetTable.slot SetTable.has;rw[hd];dsimp only;split
 .simp
 .simp
def pG{t:SetTable}(h:t.slot j=.empty):t.place[SetTable.below t.place j]?≠some j:=by
 intro e;unfold SetTable.slot at h
 simp_all
theorem nI(hd:t.dummies=#[]) :∀z p,p.dummy=none->∀j d,SetTable.probe.go t D h z p=some (.empty j d)->d=none/\t.slot j=.empty
 |0,p,G,j,d,e=>by
  have:SetTable.probe.go t D h 0 p=none:=rfl;rw[this]at e;cases e
 |z+1,p,G,j,d,e=>by
  have step:SetTable.probe.go t D h (z+1) p=(match t.slot p.j with
   | .empty=>some (.empty p.j p.dummy)
   | .dummy=>SetTable.probe.go t D h z (t.advance { p with dummy:=some p.j })
   | .live i=>if D i==h then some (.candidate p.j i (t.advance p))else SetTable.probe.go t D h z (t.advance p)):=rfl
  rw[step]at e;have J:(t.advance p).dummy=none:=by unfold SetTable.advance;split<;>simp[G]
  cases hs:t.slot p.j with
  |empty =>
   rw[hs]at e;dsimp only at e;cases e;exact⟨G,hs⟩
  |dummy=>exact absurd hs (mG hd _)
  |live i =>
   rw[hs]at e;dsimp only at e;split at e
   .cases e
   .exact nI hd z _ J j d e
def rY{t:SetTable}(hd:t.dummies=#[])(e:t.freeSlot h=some (j,b)):t.slot j=.empty:=by
 unfold SetTable.freeSlot at e;split at e
 .rename_i z d D;obtain⟨rfl,hs⟩:=nI hd _ _ rfl z d D
  simp_all
 .cases e
theorem Gd.put(h:Gd L t)(hs:t.slot j=.empty):Gd L (t.put j).1:=by
 refine⟨h.led,?_,nH h.rise (pG hs)⟩;show(if SetTable.has t.dummies j then _ else t.dummies)=#[];rw[if_neg (by unfold SetTable.has;rw[h.dum];simp)];exact h.dum
theorem Gd.layNew(g:Gd L t)(es)(h)(x):Gd L (layNew t es h x).2.1:=by
 unfold PySem.layNew;cases e:t.freeSlot h with
 |none=>exact g.standIn _
 |some q =>
  exact(g.put (rY g.dum e)).orStandIn _
def ue(f:Nat->Option Nat)(n):ju ((((range n).filterMap λj=>(f j).map λi=>(j,i)).map λq:Nat×Nat=>q.1).toArray):=by
 have e:((range n).filterMap λj=>(f j).map λi=>(j,i)).map (λq:Nat×Nat=>q.1)=(range n).filter λj=>(f j).isSome:=by
  generalize range n=l
  induction l with
  |nil=>rfl
  |cons a l ih =>
   cases h:f a<;>simp[filterMap_cons,filter_cons,h,ih]
 rw[e];have J:((range n).filter λj=>(f j).isSome).Pairwise (· < ·):=Pairwise.filter _ pairwise_lt_range;intro i j D U;have z:j<((range n).filter λj=>(f j).isSome).length:=by simpa using U
 have G:i<((range n).filter λj=>(f j).isSome).length:=HW D z;have:=pairwise_iff_getElem.mp J i j G z D;simpa[Array.getD,z,G]using this
theorem Gd.relaid(g:Gd L t)(e:t.relaid hs n=some (t',o)):Gd L t':=by
 unfold SetTable.relaid SetTable.laid at e;cases h:SetTable.layClean (SetTable.sizeAbove n-1) hs with
 |none=>rw[h]at e;cases e
 |some z =>
  rw[h]at e;cases e;exact⟨g.led,rfl,ue (λj=>z.getD j none) _⟩
theorem Gd.relayAll(g:Gd L t)(es)(n):Gd L (relayAll t es n).2.1:=by
 unfold PySem.relayAll;cases e:t.relaid (es.map (·.1)) n with
 |none=>exact g.standIn _
 |some q =>
  obtain⟨t',o⟩:=q;dsimp only;split
  .exact g.relaid e
  .exact g.standIn _
end L2.St
namespace L2.St
open PySem PyProof.Rows List Option
noncomputable def byT (w:World):Bool:=w.params.followText "set-order"
structure Arr(P:Program)(w:World)(ks:List Int)(es:Array (Int×Value))(t:SetTable):Prop where
 el:ElemsOf (intKind P w) es.toList
 pm:(es.toList.map λe=>numOf e.2).Perm ks
 nd:ks.Nodup
 bd:es.size<scanBound
 fi:t.fits es.size=true
 gd:Gd (!byT w) t
def dF(P:Program)(w:World)(h:Heap)(a:Addr)(ks:List Int):Prop:=
 ∃o es ep t,h.get? a=some o/\o.ExactSet/\o.data=.set es ep t/\ElemsOf (intKind P w) es.toList/\(es.toList.map λe=>numOf e.2).Perm ks/\ks.Nodup/\es.size<scanBound/\t.fits es.size=true/\Gd (!byT w) t
section
variable{P:Program}{w:World}{h h':Heap}{a:Addr}{ks ks':List Int}{o:Obj}{es:Array (Int×Value)}{ep:Nat}{t:SetTable}
theorem dF.arr(g:dF P w h a ks):∃o es ep t,(h.get? a=some o/\o.ExactSet/\o.data=.set es ep t)/\Arr P w ks es t:=by
 obtain⟨o,es,ep,t,D,z,hd,c1,c2,c3,c4,c5,c6⟩:=g;exact⟨o,es,ep,t,⟨D,z,hd⟩,⟨c1,c2,c3,c4,c5,c6⟩⟩
theorem Arr.set(r:Arr P w ks es t)(D:h.get? a=some o)(z:o.ExactSet)(hd:o.data=.set es ep t):dF P w h a ks:=
 ⟨o,es,ep,t,D,z,hd,r.el,r.pm,r.nd,r.bd,r.fi,r.gd⟩
theorem Arr.len(r:Arr P w ks es t):es.size=ks.length:=by simpa using r.pm.length_eq
theorem Arr.bare(r:Arr P w ks es t)(b:Bool):Arr P w ks es (if b=true then t else { t with plain:=false }):=by
 cases b
 .exact⟨r.el,r.pm,r.nd,r.bd,SetTable.fits_plain_off r.fi,r.gd.unplain⟩
 .exact r
theorem Arr.lay(r:Arr P w ks es t)(tk)(D:k∉ks)(G:ks.length+1<scanBound):Arr P w (k::ks) (layNew t es (hashInt k) (.int k tk)).1 (layNew t es (hashInt k) (.int k tk)).2.1:=by
 have p:(layNew t es (hashInt k) (.int k tk)).1.toList.Perm (es.toList++[(hashInt k,.int k tk)]):=by simpa using layNew_perm t es _ _
 have z:=p.length_eq;have l:=r.len;constructor
 .exact ElemsOf.perm (r.el.push (intKind_is _ _ _ _) rfl) p
 .have q:((es.toList++[(hashInt k,Value.int k tk)]).map λe=>numOf e.2).Perm (k::ks):=by
   rw[map_append];exact perm_append_comm.trans (r.pm.cons k)
  exact(p.map _).trans q
 .exact HS.mpr ⟨D,r.nd⟩
 .simp at z;omega
 .exact layNew_fits _ _ _ _
 .exact r.gd.layNew _ _ _
def Arr.relay(r:Arr P w ks es t)(n):Arr P w ks (relayAll t es n).1 (relayAll t es n).2.1:=by
 have p:=relayAll_perm t es n;have z:=p.length_eq;have b:=r.bd;exact⟨r.el.perm p,(p.map _).trans r.pm,r.nd,by simp at z;omega,relayAll_fits t es n,r.gd.relayAll es n⟩
theorem dF.at(g:dF P w h a ks)(k:∀o,h.get? a=some o->h'.get? a=some o):dF P w h' a ks:=by
 obtain⟨o,es,ep,t,⟨D,z,hd⟩,r⟩:=g.arr;exact r.set (k o D) z hd
end
def lL(h:ElemsOf (intKind P w) es):∀e∈es,∃t,e.2=.int (numOf e.2) t:=λe z=>by
 obtain⟨⟨k,D,_⟩,_⟩:=h e z;obtain⟨t,q⟩:=Il (show Value.isInt k e.2=true from D);exact⟨t,by rw[q];rfl⟩
def uf(h:ElemsOf (intKind P w) es)(D:e∈es)(k):(intKind P w).is k e.2=true ↔ numOf e.2=k:=by
 obtain⟨t,q⟩:=lL h e D;constructor
 .intro z;obtain⟨t',G⟩:=Il (show Value.isInt k e.2=true from z);rw[G];rfl
 .intro z;rw[q,z];exact intKind_is _ _ _ _
section
variable{P:Program}{w:World}{A:Around}{E:Value->Shared->Prop}{s:Shared}
def Now(P:Program)(w:World)(a:Addr)(s:Shared)(ks:List Int)(s':Shared):Prop:=
 ∃h',s'={ s with heap:=h' }/\Heap.SameBut a s.heap h'/\dF P w h' a ks
theorem Now.stay(g:dF P w s.heap a ks):Now P w a s ks s:=⟨s.heap,rfl,Heap.SameBut.refl a s.heap,g⟩
def xh{h:Heap}{a:Addr}{o:Obj}{es:Array (Int×Value)}{ep:Nat}{t:SetTable}(G:h.get? a=some o)(D:o.ExactSet)(hd:o.data=.set es ep t)
  {z:Array (Int×Value)}{t':SetTable}{ks:List Int} (r:Arr P w ks z t'):dF P w (h.update a (Obj.putSet z t')) a ks:=by
 refine r.set (o:={ o with data:=.set z (ep+1) t' }) (ep:=ep+1) ?_ D rfl;have e:Obj.putSet z t' o={ o with data:=.set z (ep+1) t' }:=putSet_of z t' hd;rw[<- e];exact Ge _ G (by rw[e];rfl)
theorem Now.put{s':Shared}(n:Now P w a s ks s'){es:Array (Int×Value)}{t:SetTable}(r:Arr P w ks' es t){Q:Unit->Shared->Prop}(h:∀z,Now P w a s ks' z->Q () z) :
  wpAny (model P w) A (storeSet a es t) Q E s':=by
 refine bq λY J=>?_
 obtain⟨h',rfl,U,g⟩:=n;obtain⟨o,_,_,_,⟨G,D,hd⟩,_⟩:=g.arr;refine J ?_;exact wpAny_storeSet_of G hd (h _ ⟨_,rfl,U.trans (F9 h' a _),xh G D hd r⟩) (fits_of_scanBound r.bd)
def CO{Q:Unit->Shared->Prop}(z:m=pure ()\/∃n,m=rule n)(h:Q () s'):wpAny (model P w) A m Q E s':=by
 rcases z with rfl|⟨n,rfl⟩
 .exact pb h
 .exact Ir h
def CP(k)(tk)(c)(h:∀b,wpAny (model P w) A (f b) Q E s') :
  wpAny (model P w) A (if c=true then hashByValue 8 (.int k tk) >>= f else(pure true:Sem Bool) >>= f) Q E s':=by
 cases c
 .exact kx (pb (h true))
 .rw[if_pos rfl,hashByValue_scannable 8 (show(Value.int k tk).scannable=true from rfl)];exact kx (pb (h _))
def rZ{Q:Bool->Shared->Prop}(hS:dF P w s.heap a ks)(D:ks.length+1<scanBound)
  (h:∀h' b,Heap.SameBut a s.heap h'->dF P w h' a (if k∈ks then ks else k::ks)->Q b { s with heap:=h' }) :
  wpAny (model P w) A (setAddHashed a (.int k tk) (hashInt k)) Q E s:=by
 have fin:∀b s',Now P w a s (if k∈ks then ks else k::ks) s'->Q b s':=by
  rintro b _ ⟨h',rfl,sb,g⟩;exact h h' b sb g
 have J:=Now.stay hS;obtain⟨o,es,ep,t,⟨ho,a6,hd⟩,r⟩:=hS.arr;have here:k∈ks ↔ ((es.toList.findIdx? λe=>(intKind P w).is k e.2).isSome=true):=by
  rw[findIdx?_isSome,HM,<- r.pm.mem_iff,mem_map];exact⟨λ⟨e,U,q⟩=>⟨e,U,(uf r.el U k).mpr q⟩,λ⟨e,U,q⟩=>⟨e,U,(uf r.el U k).mp q⟩⟩
 unfold setAddHashed setAddHashedIn;refine G0 (kx (Hb ho hd r.fi ?_));dsimp only;rw[byScan_of (x:=.int k tk) rfl r.bd r.el,if_pos rfl];refine kx ?_;unfold setAddByScan;refine kx (Ir (kx (wpAny_setScan_of (knd:=intKind P w) (intKind_is _ _ _ _) ho hd r.fi r.el ?_)));rcases Y:es.toList.findIdx? λe=>(intKind P w).is k e.2 with _|j
 .rw[Y];have Z:k∉ks:=λz=>by rw[here,Y]at z;exact Bool.noConfusion z
  rw[if_neg Z]at fin;have r1:=r.lay tk Z D;rcases hl:layNew t es (hashInt k) (.int k tk)with⟨G,t1,dm,gv⟩
  rw[hl]at r1;dsimp only at r1 ⊢;refine kx (CO ?_ ?_)
  .cases gv
   .exact .inl rfl
   .exact .inr ⟨_,rfl⟩
  refine CP k tk _ λb=>?_
  have r2:=r1.bare b;generalize (if b=true then t1 else _)=t2 at r2 ⊢;refine kx (J.put r2 λs2 n2=>?_);refine Gr (λ_=>?_) (λ_=>pb (pb (fin _ _ n2)));have r3:=r2.relay (SetTable.grown G.size);rcases hm:relayAll t2 G (SetTable.grown G.size)with⟨b2,t3,a1⟩
  rw[hm]at r3;dsimp only at r3 ⊢;refine kx (CO ?_ ?_)
  .cases a1
   .exact .inl rfl
   .exact .inr ⟨_,rfl⟩
  exact kx (n2.put r3 λs3 n3=>pb (pb (fin _ _ n3)))
 .rw[Y];have Z:=here.mpr (by rw[Y];rfl);rw[if_pos Z]at fin;exact pb (pb (fin _ _ J))
end
noncomputable def dd:List Int->List Int
 | []=>[]
 |k::r=>if k∈dd r then dd r else k::dd r
theorem ug:∀l,(dd l).length<=l.length
 | []=>vr _
 |x::r=>by
  show(if x∈dd r then dd r else x::dd r).length<=_;have:=ug r
  grind
def But(ws:List Addr)(s s':Shared):Prop:=
 ∃h' tk,s'={ s with heap:=h',toks:=tk }/\∀b o,b∉ws->s.heap.get? b=some o->h'.get? b=some o
theorem But.on(x:But ws s s')(y:But vs s' D)(hs:∀b∈ws,b∈vs):But vs s D:=by
 obtain⟨h1,U,rfl,k1⟩:=x;obtain⟨h2,J,rfl,k2⟩:=y;exact⟨h2,J,rfl,λb o G e=>k2 b o G (k1 b o (λz=>G (hs b z)) e)⟩
section
variable{P:Program}{w:World}{A:Around}{R:Result->Shared->Prop}{I S:Addr}{fp wr:List Addr}{n:Nat}{Pv:Nat->Value->Prop}{St:Nat->Heap->Prop}
noncomputable abbrev upd (S I:Addr):Code:=.builtin "set.update.loop" ⟨[.ref S,.ref I],[]⟩
def nJ (h:wpAny (model P w) A.in1 (pyNext (.ref I)) (λv s'=>match v with
   |none=>R (.ok (.ret .none)) s'
   |some x=>wpAny (model P w) A.in1 (setAdd S x) (λ_ z=>codeAny (model P w) A (upd S I) R z) (λe z=>R (.error e) z) s') (λe s'=>R (.error e) s') s) :
  codeAny (model P w) A (upd S I) R s:=by
 have pl:=PyProof.Rows.F.plain_set_update_loop;apply HY PyProof.Rows.F.entry_set_update_loop;rw[HZ pl];apply kx (m:=pyNext _);refine F8 h (λv s' D=>?_) λ_ _ x=>x
 cases v with
 |none=>exact pb D
 |some x =>
  refine kx (G0 (F8 D (λ_ z hc=>?_) λ_ _ x=>x));exact pb ⟨HJ pl _,hc⟩
def add_int(g:dF P w s.heap S ks)(room:ks.length+1<scanBound) 
  (h:∀b s',But [S] s s'->dF P w s'.heap S (if k∈ks then ks else k::ks)->(∀b,b≠S->s'.heap.get? b=s.heap.get? b)->Q b s'):wpAny (model P w) B (setAdd S (.int k t)) Q E s:=by
 refine G0 (kx ((intKind P w).pyHash (intKind_is _ _ _ _) ?_));refine rZ g room λh' b z g'=>h b _ ⟨h',_,rfl,λc o hc e=>?_⟩ g' λc hc=>?_
 .rw[z.2 c (by simpa using hc)];exact e
 .exact z.2 c hc
theorem qL(W:Walks P w A.in1 I fp wr n Pv St)(J:S∉fp)(xs:List Int)(hn:xs.length=n)(Z:∀i v,Pv i v->∃t,v=.int (xs.getD i 0) t)(hb:n+1<scanBound) :
  ∀m i s,i+m=n->St i s.heap->dF P w s.heap S (dd (xs.take i).reverse)->(∀s',But (S::wr) s s'->dF P w s'.heap S (dd xs.reverse)->R (.ok (.ret .none)) s') ->
   codeAny (model P w) A (upd S I) R s
 |0,i,s,e,st,g,h=>by
  have hi:i=n:=e;subst hi;refine nJ (W.done s _ _ st λh' tk kp=>h _ ⟨h',tk,rfl,λb o D=>kp b o λz=>D (.tail _ z)⟩ ?_);rw[take_of_length_le (by omega)]at g;exact g.at λo=>kp S o λz=>J (W.sub S z)
 |m+1,i,s,e,st,g,h=>by
  have hi:i<n:=by omega
  refine nJ (W.item i s _ _ hi st λv h1 G pv U kp=>?_);obtain⟨t,rfl⟩:=Z i v pv;have b1:But wr s { s with heap:=h1,toks:=G }:=⟨h1,G,rfl,kp⟩;have l:(dd (xs.take i).reverse).length+1<scanBound:=by
   have:=ug (xs.take i).reverse;simp at this;omega
  refine add_int (g.at λo=>kp S o λz=>J (W.sub S z)) l λ_ s2 b2 g2 Y=>?_
  refine qL W J xs hn Z hb m _ s2 (by omega) (W.frame _ h1 _ U λb D o e'=>?_) ?_ λs3 b3 g3=>h s3 ?_ g3
  .rw[Y b λz=>J (z▸D)];exact e'
  .have:xs.take (i+1)=xs.take i++[xs.getD i 0]:=by
    simp_all
   rw[this,reverse_append];exact g2
  .exact(b1.on (b2.on b3 (by simp)) λb z=>.tail _ z)
end
section
variable{P:Program}{w:World}{A:Around}{E:Value->Shared->Prop}{s:Shared}
def eX(h:Q (byT w) s):wpAny (model P w) A setsByText Q E s:=
  kx (wpAny_askSetting (pb h))
noncomputable abbrev iN (w:World):Obj:={ cls:=.type "set",dict:=none,data:=.set #[] 0 (.fresh 0 0 (!byT w)) }
noncomputable abbrev aZ(w:World)(s:Shared):Shared:={ s with heap:=s.heap.push (iN w) }
def xi (h:Q (.ref s.heap.objs.size) (aZ w s)):wpAny (model P w) A (newSet (.type "set")) Q E s:=by
 refine kx (eX ?_);exact kx (wpAny_alloc (pb h))
def uh(h:Heap):dF P w (h.push (iN w)) h.objs.size []:=
 Arr.set (es:=#[]) (ep:=0) ⟨λe z=>by simp at z,by simp,nodup_nil,by decide,rfl,Gd.fresh _⟩ (ro _ rfl) ⟨rfl,rfl,rfl⟩ rfl
def xj (x) {Q:Value->Shared->Prop} (h:Q (.ref s.heap.objs.size) (aZ w s)):codeAny (model P w) A (.call (.builtin "set.__new__") ⟨[.type "set",x],[]⟩) (wants Q E) s:=by
 refine codeAny_call_builtin PySem.F.plain_set_new PySem.F.entry_set_new (wpAny_of_eq (PySem.F.newCall_set_1 x) ?_);have cls:∀{R}{F},R (.type "set",[x]) s->wpAny (model P w) A.in1 (Builtin.Frozenset.newClass "set" ⟨[.type "set",x],[]⟩) R F s:=by
  intro R F D;have z:=sub_set_self
  wp_walk
  exact D
 exact kx (cls (kx (xi (pb h))))
def ui(x){Q:Value->Shared->Prop}
  (hU:∀B,B.handled=A.handled->wpAny (model P w) B (Builtin.Frozenset.updateFrom "set.__init__" s.heap.objs.size x) (λ_ s'=>Q (.ref s.heap.objs.size) s') E (aZ w s)) :
  wpAny (model P w) A (call (.type "set") [x]) Q E s:=by
 have G:(aZ w s).heap.get? s.heap.objs.size=some (iN w):=ro _ rfl;have init:codeAny (model P w) A.in1 (.call (.builtin "set.__init__") ⟨[.ref s.heap.objs.size,x],[]⟩) (wants (λr s'=>r=.none/\Q (.ref s.heap.objs.size) s') E) (aZ w s):=by
  refine codeAny_call_builtin PySem.F.called_set.init.plain PySem.F.entry_set_init (check_set_init_1 ⟨_,G,rfl⟩ ?_);have Y:=hU A.in1.in1 (by simp);generalize hw:aZ w s=s1 at G Y ⊢;generalize s.heap.objs.size=S at G Y ⊢;obtain⟨hp,g,d,tk,os⟩:=s1;unfold Builtin.«set.__init__» noKeywords;generalize Builtin.Frozenset.updateFrom=U at Y ⊢
  wp_walk
  exact F8 Y (λ_ s' Z=>pb ⟨rfl,Z⟩) λ_ _ z=>z
 have J:=PySem.F.called_set;refine wpAny_call (codeAny_of_tree (pb ⟨Code.quiet_builtin _ (by decide +kernel),HY PySem.F.entry_type_call ?_⟩));rw[Around.under_plain (weight_type_call_type "set" [x] []) rfl];have f1:=J.notType;have f2:=J.canCreate;have f3:=J.made;have f4:=J.sub
 have f5:=PySem.F.typeCall_set_1 x;obtain⟨c,tl,f6⟩:=J.mro
 repeat (any_goals (first|assumption|wp_step))
 refine G4 (xj x (E:=E) (Q:=λv s'=>v=.ref s.heap.objs.size/\s'=aZ w s) ⟨rfl,rfl⟩) λr s1 D=>?_
 match r,D with
 | .error e,D=>exact D
 | .ok (.ret v),D =>
  obtain⟨rfl,rfl⟩:=D;have f7:Shared.TypeIs (aZ w s) (.ref s.heap.objs.size) "set":=⟨_,G,rfl⟩;have f8:=J.init.lookup;have f9:=J.init.bind (.ref s.heap.objs.size)
  repeat (any_goals (first|assumption|wp_step))
  refine G4 init λr s2 D=>?_
  match r,D with
  | .error e,D=>exact D
  | .ok (.ret v),D =>
   obtain⟨rfl,Z⟩:=D;show wpAny _ A.in1 (pure (some Value.none)) _ _ _;exact pb (pb Z)
def jZ {o:Obj} (x:s.heap.get? l=some o) (hc:o.cls=.type z) (hd:(Value.type z==.type "dict")=false)
  (G:isSubtype (.type z) (.type "set")=pure false) (J:isSubtype (.type z) (.type "frozenset")=pure false)
  {ns:List Int}{Pv:Nat->Value->Prop}{St:Nat->Heap->Prop} (hv:∀i v,Pv i v->∃t,v=.int (ns.getD i 0) t) (D:ns.length+1<scanBound) {U:Obj}
  (W:∀B,B.handled=A.handled->Walks P w B ((aZ w s).heap.objs.size) [(aZ w s).heap.objs.size,l] [(aZ w s).heap.objs.size] ns.length Pv St)
  (it:∀B E' R,R (.ref (aZ w s).heap.objs.size) { s with heap:=(aZ w s).heap.push U }->wpAny (model P w) B (pyIter (.ref l)) R E' (aZ w s))
  (st:St 0 ((aZ w s).heap.push U)) {Q:Value->Shared->Prop}
  (h:∀h' tk,dF P w h' s.heap.objs.size (dd ns.reverse)->(∀b o,s.heap.get? b=some o->h'.get? b=some o)->Q (.ref s.heap.objs.size) { s with heap:=h',toks:=tk }) :
  wpAny (model P w) A (call (.type "set") [.ref l]) Q E s:=by
 have z1:(aZ w s).heap.objs.size=s.heap.objs.size+1:=F7 ..;have Y:∀b,b<s.heap.objs.size->b∉[s.heap.objs.size,(aZ w s).heap.objs.size]:=λb D=>by
  rw[z1];simp only[y1,F4,Gi,not_or];exact⟨FX D,FX (GA D)⟩
 have kept:∀b o,s.heap.get? b=some o->((aZ w s).heap.push U).get? b=some o:=λb o e=>mu _ (mu _ e)
 refine ui _ λB hB=>?_
 have Z:(aZ w s).TypeIs (.ref l) z:=⟨o,mu _ x,hc⟩;unfold Builtin.Frozenset.updateFrom Builtin.Frozenset.isAnySet;refine kx (kx (G2 Z G ?_));show wpAny _ _ (isInstance (.ref l) (.type "frozenset")) _ _ _;refine G2 Z J ?_;rw[if_neg ow];refine kx (Hj Z ?_);rw[hd,if_neg ow];refine kx (it _ _ _ (kx (wpAny_runValue ?_)));have hS:s.heap.objs.size∉[(aZ w s).heap.objs.size,l]:=by
  have:=vl x;rw[z1];simp only[y1,F4,Gi,not_or];exact⟨FX (GU _),GH this⟩
 refine qL (W _ (by simpa using hB)) hS ns rfl hv D ns.length 0 _ (by omega) st ((uh s.heap).at λo e=>mu _ e) ?_;rintro s' ⟨h',tk,rfl,kp⟩ g;exact pb (h h' tk g λb o e=>kp b o (Y b (vl e)) (kept b o e))
def uj 
  (hh:A.handled=none) (J:s.heap.IsList l items) (hi:IntsAre items.toList ns) (U:items.size+1<scanBound)
  (h:∀h' tk,dF P w h' s.heap.objs.size (dd ns.reverse)->(∀b o,s.heap.get? b=some o->h'.get? b=some o)->Q (.ref s.heap.objs.size) { s with heap:=h',toks:=tk }) :
  wpAny (model P w) A (call (.type "set") [.ref l]) Q E s:=by
 have z:items.size=ns.length:=by simpa using IntsAre.length hi
 obtain⟨o,D,hc,Y⟩:=J;have G:(aZ w s).heap.IsList l items:=⟨o,mu _ D,hc,Y⟩;refine jZ D hc (by decide) PySem.F.sub_list_set PySem.F.sub_list_frozenset (qK hi) (z▸U) (λB Z=>z▸Walks.list (Z.trans hh) _ l ?_ items)
  (λB E' R=>HC G) ⟨⟨_,ro _ rfl,rfl,rfl⟩,G.push _⟩ h
 exact FX (Nat.lt_of_lt_of_eq (GA (vl D)) (F7 ..).symm)
def r6 
  (hh:A.handled=none) (J:s.heap.IsTuple l items) (hi:IntsAre items.toList ns) (U:items.size+1<scanBound)
  (h:∀h' tk,dF P w h' s.heap.objs.size (dd ns.reverse)->(∀b o,s.heap.get? b=some o->h'.get? b=some o)->Q (.ref s.heap.objs.size) { s with heap:=h',toks:=tk }) :
  wpAny (model P w) A (call (.type "set") [.ref l]) Q E s:=by
 have z:items.size=ns.length:=by simpa using IntsAre.length hi
 obtain⟨o,D,hc,Y⟩:=J;have G:(aZ w s).heap.IsTuple l items:=⟨o,mu _ D,hc,Y⟩;refine jZ D hc (by decide) PySem.F.sub_tuple_set PySem.F.sub_tuple_frozenset (qK hi) (z▸U) (λB Z=>z▸Walks.tuple (Z.trans hh) _ l ?_ items)
  (λB E' R=>Hv G) ⟨⟨_,ro _ rfl,rfl,rfl⟩,G.push _⟩ h
 exact FX (Nat.lt_of_lt_of_eq (GA (vl D)) (F7 ..).symm)
end
set_option maxRecDepth 100000 in
def j0:entryFor table "set.__iter__"=some Builtin.«frozenset.__iter__»:=
 entryFor_alias (id':="frozenset.__iter__") (by kernel_rfl) rfl (by decide +kernel) (by kernel_rfl)
set_option maxRecDepth 100000 in
def lM:Manifest.owners.lookup (String.ofList ['r','o','t','a','r','e','t','i','_','t','e','s'].reverse)=some Manifest.sig_set_iterator:=by kernel_rfl
set_option maxRecDepth 100000 in
def aL:Slot "set_iterator" "__next__" "set_iterator.__next__":=
 .of (owner:="set_iterator") (n:="__next__") (by rw[H0,Hk];kernel_rfl) (by decide +kernel) (by decide +kernel) (by decide +kernel)
  (by first|exact .inl (by decide +kernel)|exact .inr (by decide +kernel)) (by rw[Ib];kernel_rfl)
set_option maxRecDepth 100000 in
def cJ:entryFor table "set_iterator.__next__"=some Builtin.«set_iterator.__next__»:=entryFor_of_tree (by kernel_rfl)
set_option maxRecDepth 100000 in
def dh (a):argsOk "set_iterator.__next__" ⟨[a],[]⟩:=by
 unfold argsOk;rw[signature?_of (n:=['_','_','t','x','e','n','_','_']) (by kernel_rfl) lM];kernel_rfl
set_option maxRecDepth 100000 in
def gr:Slot "set_iterator" "__iter__" "set_iterator.__iter__":=
 .of (owner:="set_iterator") (n:="__iter__") (by rw[H0,Hk];kernel_rfl) (by decide +kernel) (by decide +kernel) (by decide +kernel)
  (by first|exact .inl (by decide +kernel)|exact .inr (by decide +kernel)) (by rw[Ib];kernel_rfl)
set_option maxRecDepth 100000 in
def j3:entryFor table "set_iterator.__iter__"=some Builtin.«dict_keyiterator.__iter__»:=
 entryFor_alias (id':="dict_keyiterator.__iter__") (by kernel_rfl) rfl (by decide +kernel) (by kernel_rfl)
set_option maxRecDepth 100000 in
def lm (a):argsOk "set_iterator.__iter__" ⟨[a],[]⟩:=by
 unfold argsOk;rw[signature?_of (n:=['_','_','r','e','t','i','_','_']) (by kernel_rfl) lM];kernel_rfl
def uk {s:Shared}{I:Addr}{Q:Value->Shared->Prop} (z:s.TypeIs (.ref I) "set_iterator") (h:Q (.ref I) s):wpAny (model P w) A (pyIter (.ref I)) Q E s:=by
 refine wpAny_pyIter_slot z gr (Gs gr z j3 ?_ (lm _));exact pb ⟨_,rfl,"set_iterator",_,z,aL.lookup,h⟩
theorem gH{α:Type}:∀{l}{i}{x:α},l[i]?=some x->(x::l.eraseIdx i).Perm l
 | [],i,x,h=>by simp at h
 |a::l,0,x,h=>by
  simp_all
 |a::l,i+1,x,h=>by
  have h':l[i]?=some x:=by simpa using h
  exact(Perm.swap a x _).trans (.cons a (gH h'))
theorem qM(next):∀z k left (out:Array α),z=left.length->(pickOrder.go next z k left out).toList.Perm (out.toList++left)
 |0,k,left,out,h=>by
  have:=Hy.mp h.symm;subst this;rw[Gj];exact .refl _
 |z+1,k,left,out,h=>by
  have D:next k % left.length<left.length:=Nat.mod_lt _ (by omega);obtain⟨x,hx⟩:∃x,left[next k % left.length]?=some x:=⟨_,F5 D⟩;have e:pickOrder.go next (z+1) k left out=pickOrder.go next z (k+1) (left.eraseIdx (next k % left.length)) (out.push x):=by
   show(match left[next k % left.length]? with
    |some x=>pickOrder.go next z _ (left.eraseIdx _) _
    |none=>out)=_
   rw[hx]
  rw[e];refine(qM next z _ _ _ (by rw[length_eraseIdx_of_lt D];omega)).trans ?_;rw[Array.toList_push,Gz];exact Perm.append_left _ (gH hx)
def r9(next)(xs:Array α):(pickOrder next xs).toList.Perm xs.toList:=by
 have:=qM next xs.size 0 xs.toList #[] (by simp);simpa[pickOrder]using this
section
variable{M:Model}{A:Around}{E:Value->Shared->Prop}{s:Shared}
def pH{n:Nat}{Q:Nat->Shared->Prop}(z:n≠0)(h:∀i d',i<n->Q i { s with drawn:=d' }):wpAny M A (choose src n) Q E s:=λ_ _ _ =>
 ⟨z,h _ _ (Nat.mod_lt _ (Nat.pos_of_ne_zero z))⟩
theorem j4 :∀n xs s {Q:List α->Shared->Prop},n=xs.length->(∀ys d',ys.Perm xs->Q ys { s with drawn:=d' })->wpAny M A (drawOrder n xs) Q E s
 |0,xs,s,Q,h,q=>by
  have:=Hy.mp h.symm;subst this;exact pb (q [] s.drawn (.refl _))
 |n+1,[],s,Q,h,q=>by simp at h
 |n+1,x::r,s,Q,h,q=>by
  refine kx (pH (by simp) λi d' hi=>?_);obtain⟨y,D⟩:∃y,(x::r)[i]?=some y:=⟨_,F5 hi⟩;rw[D];refine kx (j4 n _ _ (by rw[length_eraseIdx_of_lt hi];simp at h ⊢;omega) λys z G=>pb ?_);exact q (y::ys) z ((Perm.cons y G).trans (gH D))
end
def SIt(h:Heap)(I S:Addr)(o:Obj)(f:Value)(i n ep:Nat):Prop:=
 h.get? I=some { cls:=.type "set_iterator",dict:=none,data:=.fields #[f,.int i 0,.ref S,.int n 0,.int ep 0],slots:=#[] }/\h.get? S=some o
theorem SIt.type {s:Shared} (h:SIt s.heap I S o f i n ep):s.TypeIs (.ref I) "set_iterator":=⟨_,h.1,rfl⟩
section
variable{P:Program}{w:World}{A:Around}{E:Value->Shared->Prop}{s:Shared}
def dG(z:s.heap.get? S=some o)(hd:o.data=.set es ep t)(D:t.fits es.size=true)(h:Q es s) :
  wpAny (model P w) A (setEntries S) Q E s:=wpAny_setEntries_of z hd D h
def lN{ep slot i:Nat}{t:SetTable}{Q:Option (Value×Nat)->Shared->Prop}(z:s.heap.get? S=some o)(hd:o.data=.set es ep t)(D:t.fits es.size=true)(G:byT w=true)
  (h:Q (((pickOrder (w.params.setOrder S ep) es)[i]?).map λe=>(e.2,slot)) s):wpAny (model P w) A (setNext S slot i ep) Q E s:=by
 unfold setNext;refine kx (Hb z hd D ?_);dsimp only;refine kx (eX ?_);rw[if_pos G];simp only[Io,GO,HL];refine kx ?_;unfold setWalk;refine kx (Hb z hd D ?_);dsimp only;refine kx (eX ?_);rw[if_pos G];refine kx (wpAny_askSetting (pb ?_));exact pb h
def j5{t:SetTable}{Q:Option (Value×Nat)->Shared->Prop}(J:s.heap.get? S=some o)(hd:o.data=.set es ep t)(U:t.fits es.size=true)(Y:byT w=false)
  (D:(!t.plain&&decide (es.size > 1))=false) (z:t.led=true)
  (h:Q (match es[SetTable.below t.place slot]?,t.place[SetTable.below t.place slot]? with|some (_,x),some j=>some (x,j+1)|_,_=>none) s):wpAny (model P w) A (setNext S slot i ep) Q E s:=by
 unfold setNext;refine kx (Hb J hd U ?_);dsimp only;refine kx (eX ?_);rw[if_neg (by rw[Y];simp)];refine Gr (λG=>absurd (show(!t.plain&&decide (es.size > 1))=true from G) (by rw[D];simp)) (λ_=>?_);refine kx ?_;show wpAny _ _ (if (!t.led&&!es.isEmpty)=true then _ else _) _ _ s;rw[if_neg (by rw[z];simp)];exact pb (pb h)
def ul(z:ju xs)(hi:i<xs.size):SetTable.below xs (xs.getD i 0+1)=i+1:=by
 obtain⟨h1,h2,D⟩:=gG z _;have a:i<SetTable.below xs (xs.getD i 0+1):=by
  by_cases q:SetTable.below xs (xs.getD i 0+1)<=i
  .have:=D i q hi;omega
  .omega
 have b:SetTable.below xs (xs.getD i 0+1)<=i+1:=by
  by_cases q:i+1<SetTable.below xs (xs.getD i 0+1)
  .have:=h2 _ q;have:=z i (i+1) (by omega) (by omega);omega
  .omega
 omega
def pI(xs)(z:ju xs):SetTable.below xs 0=0:=by
 obtain⟨h1,h2,D⟩:=gG z 0;by_cases q:0<SetTable.below xs 0
 .have:=h2 0 q;omega
 .omega
end
section
variable{P:Program}{w:World}{A:Around}{E:Value->Shared->Prop}{s:Shared}{I S:Addr}{o:Obj}{es:Array (Int×Value)}{t:SetTable}{i n ep:Nat}
def ln{slot nx:Nat}{x:Value}{Q:Option Value->Shared->Prop}(z:SIt s.heap I S o (.int slot 0) i n ep)(hd:o.data=.set es ep t)(Z:t.fits es.size=true)(hn:es.size=n)(J:S≠I)
  (U:∀A' s' Y E',s'.heap.get? S=some o->Y (some (x,nx)) s'->wpAny (model P w) A' (setNext S slot i ep) Y E' s')
  (hQ:∀h',SIt h' I S o (.int nx 0) (i+1) n ep->Heap.SameBut I s.heap h'->Q (some x) { s with heap:=h' }):wpAny (model P w) A (pyNext (.ref I)) Q E s:=by
 unfold pyNext;refine kx (Hq (Gq (name:=Str.ofString "__next__") z.type aL (Gs aL z.type cJ ?_ (dh _))));unfold Builtin.«set_iterator.__next__»;refine kx (m:=slotArgs "__next__" 0 _) (pb ?_);refine kx (Ic z.1 rfl ?_);dsimp only;refine kx (dG z.2 hd Z ?_);rw[if_neg (by simp[hn])]
 try dsimp only
 simp only[Int.toNat_natCast];refine kx (U _ _ _ _ z.2 ?_);dsimp only;refine kx (G5 z.1 (by simp) λh1 e1 D=>?_);refine kx (G5 e1 (by simp) λh2 e2 G=>?_);refine pb ⟨x,rfl,pb (hQ h2 ⟨?_,?_⟩ (D.trans G))⟩
 .simpa[rawInt]using e2
 .exact((D.trans G).2 S J).trans z.2
def lq{slot:Nat}{Q:Option Value->Shared->Prop}(hh:A.handled=none)(z:SIt s.heap I S o (.int slot 0) i n ep)(hd:o.data=.set es ep t)(U:t.fits es.size=true)(Y:es.size=n)
  (D:∀Z s' J E',s'.heap.get? S=some o->J none s'->wpAny (model P w) Z (setNext S slot i ep) J E' s')
  (hQ:∀h',(∀b o,b≠I->s.heap.get? b=some o->h'.get? b=some o)->Q none { s with heap:=h' }):wpAny (model P w) A (pyNext (.ref I)) Q E s:=by
 unfold pyNext;refine kx (Hq (Gq (name:=Str.ofString "__next__") z.type aL (Gs aL z.type cJ ?_ (dh _))));unfold Builtin.«set_iterator.__next__»;refine kx (m:=slotArgs "__next__" 0 _) (pb ?_);refine kx (Ic z.1 rfl ?_);dsimp only;refine kx (dG z.2 hd U ?_);rw[if_neg (by simp[Y])]
 try dsimp only
 simp[Int.toNat_natCast];refine kx (D _ _ _ _ z.2 ?_);dsimp only;refine kx (G5 z.1 (by simp) λh1 e1 G=>?_);refine lK (v:=.none) (vs:=#[]) (it:=0) (Q:=λ_ _=>True) (by first|exact hh|simpa using hh) λe s' kp ⟨h',eq⟩ hT=>?_
 subst eq;refine kx (G2 hT isSubtype_stop ?_);exact pb (hQ h' λb o hb q=>kp b o ((G.2 b hb).trans q))
def j6{pn place:Nat}{pt:Tok}{hx:Int}{x:Value}{Q:Option Value->Shared->Prop}(z:SIt s.heap I S o (.ref Z) i n ep)(hd:o.data=.set es ep t)(hf:t.fits es.size=true)(hn:es.size=n)(G:S≠I)
  (J:s.heap.get? Z=some ot) (U:ot.data=.seq ps pn) (hp:ps[i]?=some (.int place pt)) (Y:es[place]?=some (hx,x))
  (hQ:∀h',SIt h' I S o (.ref Z) (i+1) n ep->Heap.SameBut I s.heap h'->Q (some x) { s with heap:=h' }):wpAny (model P w) A (pyNext (.ref I)) Q E s:=by
 unfold pyNext;refine kx (Hq (Gq (name:=Str.ofString "__next__") z.type aL (Gs aL z.type cJ ?_ (dh _))));unfold Builtin.«set_iterator.__next__»;refine kx (m:=slotArgs "__next__" 0 _) (pb ?_);refine kx (Ic z.1 rfl ?_);dsimp only;refine kx (dG z.2 hd hf ?_);rw[if_neg (by simp[hn])]
 try dsimp only
 refine kx (wpAny_seqItems J U ?_);dsimp only;simp only[Int.toNat_natCast,hp];refine kx ?_;unfold setNextDrawn;refine kx (Hb z.2 hd hf ?_);dsimp only;simp only[Io,GO,HL,Int.toNat_natCast,Y];refine pb ?_;refine kx (G5 z.1 (by simp) λh1 e1 D=>?_);refine pb ⟨x,rfl,pb (hQ h1 ⟨?_,?_⟩ D)⟩
 .simpa[rawInt]using e1
 .exact(D.2 S G).trans z.2
def j7(hh:A.handled=none)(z:SIt s.heap I S o (.ref Y) i n ep)(hd:o.data=.set es ep t)(Z:t.fits es.size=true)(hn:es.size=n)
  (D:s.heap.get? Y=some ot) (G:ot.data=.seq ps pn) (hp:ps[i]?=none)
  (hQ:∀h',(∀b o,b≠I->s.heap.get? b=some o->h'.get? b=some o)->Q none { s with heap:=h' }):wpAny (model P w) A (pyNext (.ref I)) Q E s:=by
 refine kx (Hq (Gq z.type aL (Gs aL z.type cJ ?_ (dh _))));refine kx (pb ?_);refine kx (Ic z.1 rfl ?_);dsimp only;refine kx (dG z.2 hd Z ?_);rw[if_neg (by simp[hn])]
 try dsimp only
 refine kx (wpAny_seqItems D G ?_);simp[Int.toNat_natCast,hp];refine kx (G5 z.1 (by simp) λh1 e1 J=>?_);refine kx (G5 e1 (by simp) λh2 e2 U=>?_);refine lK (v:=.none) (vs:=#[]) (it:=0) (Q:=λ_ _=>True) (by first|exact hh|simpa using hh) λe s' kp ⟨h',eq⟩ hT=>?_
 subst eq;refine kx (G2 hT isSubtype_stop ?_);exact pb (hQ h' λb o hb q=>kp b o (((J.trans U).2 b hb).trans q))
end
def um(xs:List Value):(range xs.length).map (λi=>xs.getD i .none)=xs:=by
 apply Iw;intro i;by_cases q:i<xs.length
 .simp_all
 .simp_all
structure j8(P:Program)(w:World)(I:Addr)(fp:List Addr)(order:List Value)(St:Nat->Heap->Prop):Prop where
 mem:I∈fp
 ty:∀i h,St i h->∃o,h.get? I=some o/\o.cls=.type "set_iterator"
 frame:∀i h h',St i h->(∀b∈fp,∀o,h.get? b=some o->h'.get? b=some o)->St i h'
 item:∀(A:Around) i (s:Shared) (Q:Option Value->Shared->Prop) (E:Value->Shared->Prop),i<order.length->St i s.heap ->
  (∀h',St (i+1) h'->(∀b o,b≠I->s.heap.get? b=some o->h'.get? b=some o)->Q (some (order.getD i .none)) { s with heap:=h' })->wpAny (model P w) A (pyNext (.ref I)) Q E s
 done:∀(A:Around) (s:Shared) (Q:Option Value->Shared->Prop) (E:Value->Shared->Prop),A.handled=none->St order.length s.heap ->
  (∀h',(∀b o,b≠I->s.heap.get? b=some o->h'.get? b=some o)->Q none { s with heap:=h' })->wpAny (model P w) A (pyNext (.ref I)) Q E s
def j8.walks{St:Nat->Heap->Prop}(W:j8 P w I fp order St)(hh:A.handled=none) :
  Walks P w A I fp [I] order.length (λi v=>v=order.getD i .none) St where
 sub:=λb D=>by rw[F6.mp D];exact W.mem
 frame:=W.frame
 item:=λi s Q E hi st G=>W.item A i s Q E hi st λh' J kp=>G _ h' s.toks rfl J λb o D e=>kp b o (λz=>D (by rw[z];exact F6.mpr rfl)) e
 done:=λs Q E st G=>W.done A s Q E hh st λh' kp=>G h' s.toks λb o D e=>kp b o (λz=>D (by rw[z];exact F6.mpr rfl)) e
 self:=λi s Q E st h=>by
  obtain⟨o,e,c⟩:=W.ty i _ st;exact uk ⟨o,e,c⟩ h
section
variable{P:Program}{w:World}{A:Around}{E:Value->Shared->Prop}{s:Shared}
def g7{l:List (Int×Value)}(h:l[i]?=some e):(l.map λe=>e.2).getD i .none=e.2:=by simp_all
set_option maxRecDepth 100000 in
def uo(ho:s.heap.get? S=some o)(cp:o.ExactSet)(hd:o.data=.set es ep t)(U:es.size<scanBound)(Y:t.fits es.size=true)(hl:t.led=!byT w)(ce:ju t.place)
  (hQ:∀(I:Addr) h' d' fp D St,D.Perm (es.toList.map λe=>e.2)->(∀b o,s.heap.get? b=some o->h'.get? b=some o)->s.heap.objs.size<=I->(∀b∈fp,b=S\/s.heap.objs.size<=b)->(∀b∈fp,b<h'.objs.size) ->
   j8 P w I fp D St->St 0 h'->Q (.ref I) { s with heap:=h',drawn:=d' }):wpAny (model P w) A (pyIter (.ref S)) Q E s:=by
 have hT:s.TypeIs (.ref S) "set":=⟨o,ho,cp.1⟩;have ao:=vl ho;have cr:t.place.size=es.size:=by simp[SetTable.fits]at Y;exact Y.1
 refine wpAny_pyIter_slot hT PySem.F.slot_set_iter (Gs PySem.F.slot_set_iter hT j0 ?_ (PySem.F.args_set_iter_1 _));unfold Builtin.«frozenset.__iter__»;refine kx (m:=Builtin.Frozenset.slot0 "__iter__" _) (pb ?_);refine kx (m:=Builtin.Frozenset.sizeOf S) (kx (dG ho hd Y (pb ?_)));refine kx (m:=setDrawn S) ?_;unfold setDrawn;refine kx (Hb ho hd Y ?_);dsimp only;refine kx (eX (pb ?_));have J:∀(D:List (Int×Value)) (fs:Nat->Nat),D.Perm es.toList->fs 0=0 ->
   (∀A' i (s':Shared) (Q':Option (Value×Nat)->Shared->Prop) (E':Value->Shared->Prop) e,D[i]?=some e->s'.heap.get? S=some o->Q' (some (e.2,fs (i+1))) s'->wpAny (model P w) A' (setNext S (fs i) i ep) Q' E' s') ->
   (∀A' s' Q' E',s'.heap.get? S=some o->Q' none s'->wpAny (model P w) A' (setNext S (fs D.length) D.length ep) Q' E' s') ->
   Q (.ref s.heap.objs.size) { s with heap:=s.heap.push { cls:=.type "set_iterator",data:=.fields #[.int 0 0,.int 0 0,.ref S,.int (es.size:Nat) 0,.int (ep:Nat) 0] } }:=by
  intro D fs hp h0 bp ck;have cS:D.length=es.size:=by have:=hp.length_eq;simpa using this
  refine hQ s.heap.objs.size _ s.drawn [s.heap.objs.size,S] (D.map λe=>e.2) (λi h=>SIt h s.heap.objs.size S o (.int (fs i) 0) i es.size ep) (hp.map _) (λb o e=>mu _ e) (vr _) (λb U=>?_) (λb U=>?_) ?_ ?_
  .rcases y1.mp U with e|e
   .exact .inr (Hw e.symm)
   .exact .inl (F6.mp e)
  .rw[F7];rcases y1.mp U with e|e
   .rw[e];exact GU _
   .rw[F6.mp e];exact GA ao
  .refine⟨.head _,λi h st=>⟨_,st.1,rfl⟩,λi h h' st k=>⟨k _ (.head _) _ st.1,k _ (.tail _ (.head _)) _ st.2⟩,λA' i s' Q' E' hi st hq=>?_,λA' s' Q' E' hh st hq=>?_⟩
   .rw[FY]at hi;obtain⟨e,he⟩:∃e,D[i]?=some e:=⟨_,F5 hi⟩;rw[g7 he]at hq;refine ln (slot:=fs i) (nx:=fs (i+1)) (x:=e.2) st hd Y rfl (FX ao) (λb1 b2 b3 b4 a2 q=>bp b1 i b2 b3 b4 e he a2 q) λh' ca sb=>?_
    exact hq h' ca λb o U q=>(sb.2 b U).trans q
   .rw[FY]at st;exact lq (slot:=fs D.length) hh st hd Y rfl (λb1 b2 b3 b4 a2 q=>ck b1 b2 b3 b4 a2 q) hq
  .refine⟨?_,mu _ ho⟩;rw[h0];exact ro _ rfl
 cases a3:byT w with
 |true =>
  simp only[Bool.not_true,Bool.false_and,GO,HL];refine kx (pb ?_);refine kx (Ip ho hd Y ?_);refine kx (Gm (pb ⟨_,rfl,"set_iterator",_,⟨_,ro _ rfl,rfl⟩,aL.lookup,?_⟩));have q:=J (pickOrder (w.params.setOrder S ep) es).toList (λ_=>0) (r9 _ _) rfl
   (λA' i s' Q' E' e he Z q=>lN Z hd Y a3 (by rw[<- GW,he];exact q))
   (λA' s' Q' E' Z q=>lN Z hd Y a3 (by rw[HG (by simp)];exact q))
  simpa[rawInt]using q
 |false =>
  cases a7:(!t.plain&&decide (es.size > 1))with
  |false =>
   refine Gr (λcd=>absurd (show(!false&&(!t.plain&&decide (es.size > 1)))=true from cd) (by rw[a7];simp)) (λ_=>?_);refine kx (pb ?_);refine kx (Ip ho hd Y ?_);refine kx (Gm (pb ⟨_,rfl,"set_iterator",_,⟨_,ro _ rfl,rfl⟩,aL.lookup,?_⟩));have bj:t.led=true:=by rw[hl,a3];rfl
   have cl:∀i,i<=t.place.size->SetTable.below t.place (match i with|0=>0|j+1=>t.place.getD j 0+1)=i:=λi hi=>by
    cases i<;>first|exact pI _ ce|exact ul ce (by omega)
   have q:=J es.toList (λi=>match i with|0=>0|j+1=>t.place.getD j 0+1) (.refl _) rfl
    (λA' i s' Q' E' e he Z q=>j5 Z hd Y a3 a7 bj (by
     have hi:i<es.size:=by have:=(D2.mp he).1;simpa using this
     rw[cl i (by omega)];rw[<- GW,he,Ht (by omega:i<t.place.size)];have e2:t.place.getD i 0=t.place[i]:=by simp[Array.getD,(by omega:i<t.place.size)]
     dsimp only at q ⊢;rw[e2]at q;exact q))
    (λA' s' Q' E' Z q=>j5 Z hd Y a3 a7 bj (by
     rw[cl _ (by simp[cr]),HG (by simp)];exact q))
   simpa[rawInt]using q
  |true =>
   refine Gr (λ_=>?_) (λcd=>absurd (show(!false&&(!t.plain&&decide (es.size > 1)))=true by rw[a7];rfl) cd);refine kx (j4 _ _ _ (by simp) λz d' G=>?_);refine kx (wpAny_newTuple ?_ (by simp;have:=G.length_eq;simp at this;rw[this,GP];unfold scanBound at U;omega));refine kx (Ip (mu _ ho) hd Y ?_);refine kx (Gm (pb ⟨_,rfl,"set_iterator",_,⟨_,ro _ rfl,rfl⟩,aL.lookup,?_⟩));have dm:z.length=es.size:=by have:=G.length_eq;simpa using this
   have cv:∀p∈z,p<es.size:=λp hp=>by have:=G.mem_iff.mp hp;simpa using this
   have cx:((s.heap.push { cls:=.type "tuple",data:=.seq (map (λ(i:Nat)=>rawInt i) z).toArray }).push { cls:=.type "set_iterator",data:=.fields #[.ref s.heap.objs.size,.int 0 0,.ref S,.int (es.size:Nat) 0,.int (ep:Nat) 0] }).get? s.heap.objs.size=some { cls:=.type "tuple",data:=.seq (map (λ(i:Nat)=>rawInt i) z).toArray }:=
    mu _ (ro _ rfl)
   have q:=hQ (s.heap.push { cls:=.type "tuple",data:=.seq (map (λ(i:Nat)=>rawInt i) z).toArray }).objs.size
    ((s.heap.push { cls:=.type "tuple",data:=.seq (map (λ(i:Nat)=>rawInt i) z).toArray }).push { cls:=.type "set_iterator",data:=.fields #[.ref s.heap.objs.size,.int 0 0,.ref S,.int (es.size:Nat) 0,.int (ep:Nat) 0] }) d'
    [(s.heap.push { cls:=.type "tuple",data:=.seq (map (λ(i:Nat)=>rawInt i) z).toArray }).objs.size,S,s.heap.objs.size]
    (z.map λp=>(es.toList.map λe=>e.2).getD p .none)
    (λi h=>SIt h (s.heap.push { cls:=.type "tuple",data:=.seq (map (λ(i:Nat)=>rawInt i) z).toArray }).objs.size S o (.ref s.heap.objs.size) i es.size ep/\h.get? s.heap.objs.size=some { cls:=.type "tuple",data:=.seq (map (λ(i:Nat)=>rawInt i) z).toArray })
    ?p1 (λb o e=>mu _ (mu _ e)) (by rw[F7];exact Gw _) ?p2 ?p3 ?p4 ⟨⟨ro _ rfl,mu _ (mu _ ho)⟩,cx⟩
   .simpa[rawInt]using q
   case p1 =>
    have e1:(es.toList.map λe=>e.2).length=es.size:=by simp
    have h1:=G.map λp=>(es.toList.map λe=>e.2).getD p .none
    rw[<- e1,um]at h1;exact h1
   case p2 =>
    intro b U;simp only[y1,F4,Gi]at U;rcases U with e|e|e
    .exact .inr (by rw[e,F7];exact Gw _)
    .exact .inl e
    .exact .inr (Hw e.symm)
   case p3 =>
    intro b U;rw[F7];simp only[y1,F4,Gi]at U;rcases U with e|e|e
    .rw[e];exact GU _
    .rw[e,F7];exact GA (GA ao)
    .rw[e,F7];exact GA (GU _)
   case p4 =>
    refine⟨.head _,λi h st=>⟨_,st.1.1,rfl⟩,λi h h' st k=>⟨⟨k _ (.head _) _ st.1.1,k _ (.tail _ (.head _)) _ st.1.2⟩,k _ (.tail _ (.tail _ (.head _))) _ st.2⟩,λA' i s' Q' E' hi st hq=>?_,λA' s' Q' E' hh st hq=>?_⟩
    .rw[FY]at hi;obtain⟨p,hp⟩:∃p,z[i]?=some p:=⟨_,F5 hi⟩;have cC:=cv p (Hf hp);obtain⟨e,he⟩:∃e,es.toList[p]?=some e:=⟨_,F5 (by simpa using cC)⟩;have e3:(z.map λp=>(es.toList.map λe=>e.2).getD p .none).getD i .none=e.2:=by
      rw[HN,Ga,hp];exact g7 he
     rw[e3]at hq;refine j6 (place:=p) (pt:=0) (hx:=e.1) (x:=e.2) st.1 hd Y rfl (by rw[F7];exact FX (GA ao)) st.2 rfl (by simp[hp,rawInt]) (by rw[<- GW,he]) λh' ca sb=>?_
     exact hq h' ⟨ca,(sb.2 _ (by rw[F7];exact FX (GU _))).trans st.2⟩ λb o U q=>(sb.2 b U).trans q
    .rw[FY]at st;exact j7 hh st.1 hd Y rfl st.2 rfl (by simp) hq
def uq (G:s.TypeIs (.ref r) "set") (h:Q false s):wpAny (model P w) A (Builtin.List.listLengthHint (.ref r)) Q E s:=by
 unfold Builtin.List.listLengthHint;refine kx (HV G PySem.F.slot_set_len.lookup ?_);generalize D:("set.__len__":String)=J
 wp_delta
 rw[show splitId J=some ("set","__len__")from by subst D;decide +kernel];subst D;refine kx (G2 (T:="set") (b:=true) G (by rw[Ib];kernel_rfl) ?_);refine Gr (λz=>absurd z (by decide)) (λ_=>?_);refine Gr (λ_=>?_) (λz=>absurd (by decide +kernel) z);refine kx (Hj G ?_);exact pb h
end
def lr(h:ItemsOf (λi v=>v=order.getD i .none) acc order.length):acc.toList=order:=by
 obtain⟨hz,z⟩:=h;refine Iw λi=>?_
 by_cases q:i<order.length
 .have D:i<acc.size:=by omega
  have:=z i acc[i] (Ht D)
  simp_all
 .simp_all
section
variable{P:Program}{w:World}{A:Around}{E:Value->Shared->Prop}{s:Shared}
set_option maxRecDepth 100000 in
def nK(hh:A.handled=none)(ho:s.heap.get? S=some o)(a3:o.ExactSet)(hd:o.data=.set es ep t)(Z:es.size<scanBound)(hf:t.fits es.size=true)(hl:t.led=!byT w)(b2:ju t.place)
  (h:∀h' tk d' acc,(∀b o,s.heap.get? b=some o->h'.get? b=some o)->acc.Perm (es.toList.map λe=>e.2)->R acc { s with heap:=h',toks:=tk,drawn:=d' }) :
  wpAny (model P w) A (collect (.ref S)) R E s:=by
 have J:=vl ho;unfold collect;refine kx (wpAny_runValue (HY entry_proto_collect' ?_));rw[HZ PySem.F.plain_proto_collect _];show wpAny _ A.in1 (newList [] >>= λl=>again (.builtin "list.__iadd__" ⟨[l,.ref S],[]⟩)) _ _ s;refine kx (Gm ?_);refine pb ⟨HJ PySem.F.plain_list_iadd _,HY entry_list_iadd' ?_⟩;rw[HZ PySem.F.plain_list_iadd _];have b3:(s.heap.push { cls:=.type "list",data:=.seq ([]:List Value).toArray }).get? s.heap.objs.size=some { cls:=.type "list",data:=.seq #[] }:=ro _ rfl;show wpAny _ A.in1 (Builtin.List.listExtendWith (.ref s.heap.objs.size) (.ref S) (.ref s.heap.objs.size)) _ _ _;have a4:(s.heap.push { cls:=.type "list",data:=.seq ([]:List Value).toArray }).get? S=some o:=mu _ ho;have hT:Shared.TypeIs { s with heap:=s.heap.push { cls:=.type "list",data:=.seq ([]:List Value).toArray } } (.ref S) "set":=⟨o,a4,a3.1⟩;unfold Builtin.List.listExtendWith;refine kx (Hj (T:="set") hT ?_);have q1:Builtin.List.listSameRef (.ref s.heap.objs.size) (.ref S)=false:=by simp[Builtin.List.listSameRef,GH J]
 have q2:(Value.type "set" == Value.type "list")=false:=by decide
 have q3:(Value.type "set" == Value.type "tuple")=false:=by decide
 simp only[q1,q2,q3,Bool.or_false,GO,HL];refine kx (uo a4 a3 hd Z hf hl b2 λI h1 d1 fp G St U kp hI b4 cS W st=>?_);have a5:(s.heap.push { cls:=.type "list",data:=.seq ([]:List Value).toArray }).objs.size=s.heap.objs.size+1:=F7 ..;have a6:s.heap.objs.size∉fp:=λhm=>by
  rcases b4 _ hm with e|e
  .exact Gk _ (by rw[<- e]at J;exact J)
  .dsimp only at e;rw[a5]at e;exact Nat.not_succ_le_self _ e
 have ca:G.length<=sizeLine:=by
  have:=U.length_eq;rw[this,FY,Array.length_toList];exact fits_of_scanBound Z
 have cd:Shared.TypeIs { s with heap:=h1,drawn:=d1 } (.ref S) "set":=by
  obtain⟨o,e,c⟩:=hT;exact⟨o,kp S o e,c⟩
 refine kx (G0 (uq cd ?_));have WS:=(W.walks (A:=A.in1) (by first|exact hh|simpa using hh)).toS;have fin:∀h2 c1,St 0 h2->(∀b o,b≠s.heap.objs.size->h1.get? b=some o->h2.get? b=some o)->h2.get? s.heap.objs.size=some { cls:=.type "list",dict:=none,data:=.seq #[] c1,slots:=#[] } ->
   codeAny (model P w) A (.builtin "list.extend.loop" ⟨[.ref s.heap.objs.size,.ref I,.ref s.heap.objs.size],[]⟩)
    (λr s'=>∃h' tk D c',r=.ok (.ret (.ref s.heap.objs.size))/\s'={ s with heap:=h',toks:=tk,drawn:=d1 }/\(∀b o,s.heap.get? b=some o->h'.get? b=some o) /\
     h'.get? s.heap.objs.size=some { cls:=.type "list",dict:=none,data:=.seq D c',slots:=#[] }/\D.toList=G) { s with heap:=h2,drawn:=d1 }:=by
  intro h2 c1 ce k2 Y;refine codeAny_extend_loopS WS ca s.heap.objs.size a6 _ G.length 0 _ #[] c1 rfl (Gv _) ce Y (ItemsOf.nil _) λs' D c' hm ao a7=>?_
  refine⟨s'.heap,s'.toks,D,c',rfl,(by
   obtain⟨h',g',ck,dm,cl⟩:=s';have eg:g'=s.gens:=hm.gens;have ed:ck=d1:=hm.drawn;have eo:cl=s.os:=hm.os;subst eg;subst ed;subst eo;rfl),λb o e=>?_,ao,lr a7⟩
  have be:=FX (vl e);refine hm.heap b o (λbj=>?_) (k2 b o be (kp b o (mu _ e)));rcases y1.mp bj with z|z
  .exact be z
  .have cn:=F6.mp z;rw[cn]at e;have bp:=hI;rw[a5]at bp;exact absurd (FU (vl e) (Nat.le_of_succ_le bp)) (Gk _)
 have done:∀r s',(∃h' tk D c',r=.ok (.ret (.ref s.heap.objs.size))/\s'={ s with heap:=h',toks:=tk,drawn:=d1 }/\(∀b o,s.heap.get? b=some o->h'.get? b=some o) /\
     h'.get? s.heap.objs.size=some { cls:=.type "list",dict:=none,data:=.seq D c',slots:=#[] }/\D.toList=G) ->
   wants (λv s'=>wpAny (model P w) A (match v with
    |Value.ref a=>do
     match (<- load a).data with
      |Data.seq xs _=>pure xs.toList
      | _=>unsupported "internal:collect"
    | _=>unsupported "internal:collect") R E s') E r s':=by
  rintro r s' ⟨h',tk,D,c',rfl,rfl,k',ao,hi⟩;show wpAny _ A (load s.heap.objs.size >>= _) _ _ _;refine kx (wpAny_load ao ?_);exact pb (h h' tk d1 D.toList k' (by rw[hi];exact U))
 have ap:=kp _ _ b3;refine Gr (λ_=>?_) (λ_=>pb ⟨HJ PySem.F.plain_extend_loop _,G4 (fin h1 0 st (λ_ _ _ e=>e) ap) done⟩);refine kx (Ir ?_);refine kx ?_;show wpAny _ _ (updateSeq s.heap.objs.size (·.push .none) >>= λ_=>updateSeq s.heap.objs.size (·.pop)) _ _ _;refine kx (H7 ap rfl ?_);have Y:=Ge (Obj.mapSeq (·.push Value.none)) ap rfl;refine H7 (hz:=by seq_fits) Y rfl ?_;have cp:=Ge (Obj.mapSeq (·.pop)) Y rfl;refine pb ⟨HJ PySem.F.plain_extend_loop _,G4 (fin _ _ ?_ (λb o Z e=>?_) cp) done⟩
 .refine W.frame 0 _ _ st λb Z o e=>?_
  have b1:b≠s.heap.objs.size:=λz=>a6 (z▸Z)
  exact(Gn _ _ (GR b1)).trans ((Gn _ _ (GR b1)).trans e)
 .exact(Gn _ _ (GR Z)).trans ((Gn _ _ (GR Z)).trans e)
end
def nL{s:Shared}{S:Addr}{ks:List Int}{R:List Value->Shared->Prop}(hh:A.handled=none)(g:dF P w s.heap S ks)
  (h:∀h' tk d' acc z,(∀b o,s.heap.get? b=some o->h'.get? b=some o)->z.Perm ks->IntsAre acc z->R acc { s with heap:=h',toks:=tk,drawn:=d' }) :
  wpAny (model P w) A (collect (.ref S)) R E s:=by
 obtain⟨o,es,ep,t,ho,J,hd,U,Y,ap,hb,hf,D⟩:=g;refine nK hh ho J hd hb hf D.led D.rise λh' tk d' acc kp Z=>h h' tk d' acc (acc.map numOf) kp ((Z.map numOf).trans (by rw[GY];exact Y)) ?_
 have key:∀l,(∀v∈l,∃t,v=.int (numOf v) t)->IntsAre l (l.map numOf):=λl=>by
  induction l with
  |nil=>exact λ_=>.nil
  |cons v l ih =>
   intro G;obtain⟨t,e⟩:=G v (.head _);have:=IntsAre.cons (numOf v) t (ih λu hu=>G u (.tail _ hu));rw[<- e]at this;exact this
 refine key acc λv G=>?_
 obtain⟨e,he,rfl⟩:=mem_map.mp (Z.mem_iff.mp G);exact lL U e he
end L2.St
namespace L2
open PySem PySem.Spec PyProof.Rows List Option
noncomputable def d6(scope osc:Scope):Scope:=
 { scope with names:=scope.names.map λ(n,k)=>if (k==.free&&osc.kind==.function&&osc.names.lookup n==some .cell)then(n,.cell)else(n,k) }
noncomputable def lu(osc:Scope)(n:Str)(k:NameKind):NameKind:=if (k==.free&&osc.kind==.function&&osc.names.lookup n==some .cell)then .cell else k
def gI(scope osc):(d6 scope osc).names=scope.names.map λq=>(q.1,lu osc q.1 q.2):=by
 refine map_congr_left λq _=>?_
 obtain⟨n,k⟩:=q;show(if _=true then _ else _)=(n,lu osc n k);unfold lu;split<;>rfl
theorem eh{α z:Type}(g:Str->α->z)(y):∀names:List (Str×α),(names.map λq=>(q.1,g q.1 q.2)).lookup y=(names.lookup y).map (g y)
 | []=>rfl
 | (n,k)::r=>by
  cases hx:y==n with
  |true =>
   simp[lookup_cons,hx,map_some];rw[eq_of_beq hx]
  |false =>
   simp[lookup_cons,hx];exact eh g y r
def r_(osc)(n):lu osc n .free=.cell\/lu osc n .free=.free:=by
 unfold lu;split
 .exact .inl rfl
 .exact .inr rfl
def sd(z:k≠.cell)(h:lu osc n k=.cell\/lu osc n k=.free):k=.free:=by
 unfold lu at h;by_cases hc:(k==NameKind.free&&osc.kind==.function&&osc.names.lookup n==some .cell)=true
 .simp_all
 .simp_all
theorem fj{α:Type}{k:α}:∀{l:List (Str×α)},l.lookup y=some k->(y,k)∈l
 | [],h=>by simp at h
 | (n,z)::r,h=>by
  cases hx:y==n with
  |true =>
   simp only[lookup_cons,hx]at h;rw[eq_of_beq hx,FV h];exact .head _
  |false =>
   simp[lookup_cons,hx]at h;exact .tail _ (fj h)
def lO(h:scope.names.lookup y=some .free):(d6 scope osc).names.lookup y=some .cell\/(d6 scope osc).names.lookup y=some .free:=by
 rw[gI,eh,h,map_some];rcases r_ osc y with e|e
 .exact .inl (by rw[e])
 .exact .inr (by rw[e])
def lP(G:∀z∈scope.names,z.2=.cell->z.1=x)(h:(d6 scope osc).names.lookup y=some .cell\/(d6 scope osc).names.lookup y=some .free):(y,NameKind.free)∈scope.names\/(y=x/\scope.names.lookup x=some .cell):=by
 rw[gI,eh]at h;cases e:scope.names.lookup y with
 |none=>rw[e]at h;rcases h with h|h<;>cases h
 |some k =>
  rw[e,map_some]at h;have D:=fj e;by_cases hc:k=.cell
  .subst hc;have q:=G _ D rfl;exact .inr ⟨q,by rw[<- q];exact e⟩
  .have J:=sd hc (h.elim (λz=>.inl (FV z)) λz=>.inr (FV z));rw[J]at D;exact .inl D
def lQ(h:scope.names.lookup y=some .cell):(d6 scope osc).names.lookup y=some .cell:=by
 rw[gI,eh,h,map_some];unfold lu;split
 .rfl
 .rfl
noncomputable def cK(env:Env):List (Str×NameKind)->List (Str×Addr)->List (Str×Addr)
 | [],acc=>acc
 | (n,k)::r,acc=>if k==.free then cK env r ((n,(env.cells.lookup n).getD 0)::acc)else cK env r acc
theorem iO :∀names acc,(∀y∈names,y.2=.free->∃c,env.cells.lookup y.1=some c) ->
  (forIn names acc λx r=>(match x with|(name,kind)=>if (kind==NameKind.free)=true then do let c <- cellOf env name;pure (ForInStep.yield ((name,c)::r))else pure (ForInStep.yield r)):Sem (List (Str×Addr)))=pure (cK env names acc)
 | [],acc,_=>rfl
 | (n,k)::r,acc,h=>by
  rw[forIn_cons];have D:∀y∈r,y.2=.free->∃c,env.cells.lookup y.1=some c:=λy G=>h y (.tail _ G)
  by_cases z:(k==NameKind.free)=true
  .obtain⟨c,hc⟩:=h (n,k) (.head _) (eq_of_beq z);dsimp only;rw[if_pos z];have J:cellOf env n=pure c:=by unfold cellOf;rw[hc]
   rw[J];simp only[pure_bind];rw[iO r _ D];show _=pure (if _=true then _ else _);rw[if_pos z,hc]
   all_goals rfl
  .dsimp only;rw[if_neg z];simp only[pure_bind];rw[iO r _ D];show _=pure (if _=true then _ else _);rw[if_neg z]
def fk(h:∀y∈scope.names,y.2=.free->∃c,env.cells.lookup y.1=some c):closureFor scope env=pure (cK env scope.names []):=by
 unfold closureFor;have:=iO scope.names [] h
 first
  | exact this
  | (rw[bind_pure];exact this)
  | simpa using this
theorem g8 :∀names acc,(∀z∈names,z.2=.free->∃c,env.cells.lookup z.1=some c)->(∀c,acc.lookup y=some c->env.cells.lookup y=some c) ->
  (cK env names acc).lookup y=some c->env.cells.lookup y=some c
 | [],acc,_,D,e=>D c e
 | (n,k)::r,acc,h,D,e=>by
  have J:∀y∈r,y.2=.free->∃c,env.cells.lookup y.1=some c:=λy U=>h y (.tail _ U)
  have e':(if (k==NameKind.free)=true then cK env r ((n,(env.cells.lookup n).getD 0)::acc)else cK env r acc).lookup y=some c:=e;by_cases G:(k==NameKind.free)=true
  .rw[if_pos G]at e';refine g8 r _ J (λY q=>?_) e';cases hx:y==n with
   |true =>
    obtain⟨c0,Z⟩:=h (n,k) (.head _) (eq_of_beq G)
    simp_all
   |false =>
    simp[lookup_cons,hx]at q;exact D Y q
  .rw[if_neg G]at e';exact g8 r _ J D e'
theorem eY :∀names acc,((y,NameKind.free)∈names\/∃c,acc.lookup y=some c)->∃c,(cK env names acc).lookup y=some c
 | [],acc,h=>by
  rcases h with h|h
  .simp at h
  .exact h
 | (n,k)::r,acc,h=>by
  show ∃c,(if (k==NameKind.free)=true then cK env r ((n,(env.cells.lookup n).getD 0)::acc)else cK env r acc).lookup y=some c;by_cases D:(k==NameKind.free)=true
  .rw[if_pos D];refine eY r _ ?_;cases hx:y==n with
   |true=>exact .inr ⟨(env.cells.lookup n).getD 0,by simp[lookup_cons,hx]⟩
   |false =>
    rcases h with h|⟨c,h⟩
    .simp_all
    .exact .inr ⟨c,by simp[lookup_cons,hx];exact h⟩
  .rw[if_neg D];refine eY r _ ?_;rcases h with h|h
   .rcases y1.mp h with z|z
    .have:=(Prod.mk.inj z).2
     simp_all
    .exact .inl z
   .exact .inr h
structure gJ(osc:Scope)(N:List Str)(scope:Scope)(x:Str)(fvs:List Str)(js:List Nat):Prop where
 cells:∀y∈scope.names,y.2=.cell->y.1=x
 once:scope.names.lookup x=some .local/\(scope.names.filter λy=>y.2==.cell)=[]\/scope.names.lookup x=some .cell/\(scope.names.filter λy=>y.2==.cell)=[(x,.cell)]
 xf:∀y∈scope.names,y.2=.free->y.1≠x
 kind:scope.kind=.function
 names:∀y∈scope.names,y.2=.local->scope.names.lookup y.1=some .local
 nd:(x::fvs).Nodup
 out:∀y∈scope.names,y.2=.free->osc.names.lookup y.1=some .cell\/osc.names.lookup y.1=some .free
 slots:(js.map λj=>N[j]?)=fvs.map some
 free:∀y∈fvs,scope.names.lookup y=some .free
structure jC(osc:Scope)(N:List Str)(scope:Scope)(x:Str)(ys fvs:List Str)(js:List Nat):Prop where
 cells:∀y∈scope.names,y.2=.cell->y.1=x
 once:scope.names.lookup x=some .local/\(scope.names.filter λy=>y.2==.cell)=[]\/scope.names.lookup x=some .cell/\(scope.names.filter λy=>y.2==.cell)=[(x,.cell)]
 xf:∀y∈scope.names,y.2=.free->y.1≠x
 kind:scope.kind=.function
 names:∀y∈scope.names,y.2=.local->scope.names.lookup y.1=some .local
 nd:(x::(ys++fvs)).Nodup
 out:∀y∈scope.names,y.2=.free->osc.names.lookup y.1=some .cell\/osc.names.lookup y.1=some .free
 slots:(js.map λj=>N[j]?)=fvs.map some
 free:∀y∈fvs,scope.names.lookup y=some .free
theorem gJ.g{osc:Scope}{N:List Str}{scope:Scope}{x:Str}{fvs:List Str}{js:List Nat}(h:gJ osc N scope x fvs js):jC osc N scope x [] fvs js:=⟨h.cells,h.once,h.xf,h.kind,h.names,h.nd,h.out,h.slots,h.free⟩
noncomputable def d7(scope:Scope)(x:Str)(C:Addr):List (Str×Addr):=if scope.names.lookup x=some .cell then [(x,C+1)]else []
noncomputable def Cx.blk(X:Cx)(x:Str)(fvs:List Str)(scope:Scope)(z:Shared)(D:Hp)(C:Addr)(fp:List Addr):Cx:=
 { X with N:=x::fvs,s₀:=z,H₀:=D,env:=compEnvC scope (d7 scope x C++cK X.env scope.names []) C X.env,outer:=X.stack,ex:=fp,fn:=λy=>decide (y=x/\scope.names.lookup x=some .cell),pn:=[],xe:=λ_ _=>False }
theorem j9 :∀{names:List (Str×NameKind)}{acc}{s}{Q},(names.filter λy=>y.2==.cell)=[]->Q acc s ->
  wpAny M A (forIn names acc λx r=>(match x with|(name,kind)=>if (kind==NameKind.cell)=true then do let c <- alloc { cls:=.type "cell",data:=.cell none };pure (ForInStep.yield ((name,c)::r))else pure (ForInStep.yield r)):Sem (List (Str×Addr))) Q E s
 | [],_,_,_,_,h=>pb h
 | (n,k)::r,acc,s,Q,hf,h=>by
  rw[forIn_cons];have z:(k==NameKind.cell)=false:=by
   simp_all
  rw[filter_cons_of_neg (by rw[z];decide)]at hf;dsimp only;rw[if_neg (by rw[z];decide)];exact kx (pb (j9 hf h))
theorem lR{x:Str}:∀{names:List (Str×NameKind)}{acc}{s}{Q},(names.filter λy=>y.2==.cell)=[(x,.cell)] ->
  Q ((x,s.heap.objs.size)::acc) { s with heap:=s.heap.push { cls:=.type "cell",data:=.cell none } } ->
  wpAny M A (forIn names acc λx r=>(match x with|(name,kind)=>if (kind==NameKind.cell)=true then do let c <- alloc { cls:=.type "cell",data:=.cell none };pure (ForInStep.yield ((name,c)::r))else pure (ForInStep.yield r)):Sem (List (Str×Addr))) Q E s
 | [],_,_,_,hf,_=>by cases hf
 | (n,k)::r,acc,s,Q,hf,h=>by
  rw[forIn_cons];dsimp only;cases z:(k==NameKind.cell)with
  |false =>
   rw[filter_cons_of_neg (by rw[z];decide)]at hf;exact kx (pb (lR hf h))
  |true =>
   rw[filter_cons_of_pos (by exact z)]at hf;obtain⟨D,G⟩:=List.cons.inj hf;cases D;exact kx (kx (wpAny_alloc (pb (j9 G h))))
def j_{scope:Scope}{x:Str}{globals:Addr}{U:List (Str×Addr)}{qual:Str}{env:Env}{s:Shared}{Q:Env->Shared->Prop}(Y:scope.kind=.function)
  (Z:scope.names.lookup x=some .local/\(scope.names.filter λy=>y.2==.cell)=[]\/scope.names.lookup x=some .cell/\(scope.names.filter λy=>y.2==.cell)=[(x,.cell)])
  (h:∀h' m,h'.Ns s.heap.objs.size m->(∀b u,s.heap.get? b=some u->h'.get? b=some u)->(scope.names.lookup x=some .cell->h'.IsCell (s.heap.objs.size+1) none)->Q (newEnv scope s.heap.objs.size globals (d7 scope x s.heap.objs.size++U) qual none .none (some env) builtinsNs) { s with heap:=h' }) :
  wpAny M A (newFunctionEnv scope globals U [] qual none .none (some env)) Q E s:=by
 rcases Z with⟨h1,h2⟩|⟨h1,h2⟩
 .refine wpAny_newFunctionEnv (λy D z=>?_) (by intro y D;simp at D) (λh' G J=>?_) Y
  .have:y∈scope.names.filter λy=>y.2==.cell:=HR.mpr ⟨D,by rw[z];rfl⟩
   rw[h2]at this;cases this
  .have q:=h h' _ G (λb u e=>J.extBut b u (FX (vl e)) (mu _ e)) λz=>by rw[h1]at z;cases z
   unfold d7 at q
   simp_all
 .unfold newFunctionEnv;refine kx (wpAny_alloc (kx (lR h2 ?_)));have hn:=Heap.Ns.new s.heap (.type "dict");have hs:(s.heap.push { cls:=.type "dict",data:=.dict #[] }).objs.size=s.heap.objs.size+1:=F7 _ _;have q:=h ((s.heap.push { cls:=.type "dict",data:=.dict #[] }).push { cls:=.type "cell",data:=.cell none }) _ (hn.keeps λb o e=>mu _ e) (λb u e=>mu _ (mu _ e)) λ_=>⟨_,by rw[<- hs];exact ro _ rfl,rfl⟩
  unfold d7 at q;rw[if_pos h1]at q;rw[<- hs]at q;exact kx (pb (pb q))
noncomputable def bZ(js:List Nat)(σ:St):St:=none::js.map λj=>(σ[j]?).join
noncomputable def nM(n:Nat)(js:List Nat)(σ:St):St:=none::(replicate n none++js.map λj=>(σ[j]?).join)
def PF(X:Cx)(ifs:List Expr)(t:TT):Prop:=
 ∀pins s (σ:St) H Q,Inv X pins σ H s->t σ H Q ->
  wpAny (model X.prog X.w) X.A (forIn ifs true λc r=>if r=true then do let ok <- isTrue c X.env (eval c X.env);pure (ForInStep.yield ok)else pure (ForInStep.yield r)) (TP X pins σ Q) X.xe s
noncomputable def Fk:TT:=λ_ H Q=>Q true H
def Ag :PF X [] Fk:=λ_ _ _ H _ I h=>wpAny_tests_nil ⟨H,I,h⟩
def Ah(h:PT X c t):PF X [c] t:=λpins s σ H Q I q=>wpAny_tests_one (h pins s σ H Q I q)
section
variable{prog:Program}{w:World}{A:Around}{R:Result->Shared->Prop}{s:Shared}
def se{elt target iter:Expr}{ifs:List Expr}{scope:Scope}{pos:Pos}{it acc:Value}{env:Env}(J:Nat->Shared->Prop)
  (G:∀n s,J n s->wpAny (model prog w) A (pyNext it) (λr s1=>match r with
   |none=>R (.ok .next) s1
   |some v=>wpAny (model prog w) A (letOwnedTupleGo target it v) (λ_ Y=>wpAny (model prog w) A (assign target env v) (λ_ s3 =>
     wpAny (model prog w) A (forIn ifs true λc r=>if r=true then do let ok <- isTrue c env (eval c env);pure (ForInStep.yield ok)else pure (ForInStep.yield r)) (λok U =>
      if ok=true then wpAny (model prog w) A (eval elt env) (λx Z =>
       wpAny (model prog w) A (call (.builtin "list.append") [acc,x]) (λ_ s6=>∃m,m<n/\J m s6) (λ_ _=>False) Z) (λ_ _=>False) U
      else ∃m,m<n/\J m U) (λ_ _=>False) s3) (λ_ _=>False) Y) (λ_ _=>False) s1) (λ_ _=>False) s)
  (n) (h:J n s):codeAny (model prog w) A (.compLoop (.ListComp elt [⟨target,iter,ifs,0⟩] scope pos) 0 it acc env) R s:=by
 have D:∀{α}{t}{Q:α->Shared->Prop}{E}{s},wpAny (model prog w) A t Q (λ_ _=>False) s->wpAny (model prog w) A t Q E s:=λq=>F8 q (λ_ _ z=>z) λ_ _ z=>z.elim
 refine codeAny_loop rfl J (λn s hJ=>?_) n h;show wpAny _ A ((compTurn (.ListComp elt [⟨target,iter,ifs,0⟩] scope pos) 0 it acc env).onRaise (λx=>do noteFrame x env;theTreesLotGoes x)) _ _ s;refine wpAny_noted ?_;rw[compTurn_list];refine kx (wpAny_standAt (kx (F8 (D (G n s hJ)) (λr s1 h1=>?_) λ_ _ z=>z)));cases r with
 |none=>exact pb h1
 |some v =>
  refine kx (F8 (D h1) (λ_ Y h2=>?_) λ_ _ z=>z);refine kx (F8 (D h2) (λ_ s3 h3=>kx (F8 (D h3) (λok U h4=>?_) λ_ _ z=>z)) λ_ _ z=>z);cases ok<;>first|exact pb ⟨rfl,h4⟩|exact kx (kx (F8 (D h4) (λx Z h5=>kx (F8 (D h5) (λ_ s6 h6=>pb (pb ⟨rfl,h6⟩)) λ_ _ z=>z)) λ_ _ z=>z))
end
def nN(J:It)(G:St)(H1:Hp)(tt:TT)(te:TE)(D:Addr)(Q:VK):Prop:=
 ∃W:Nat->Nat->St->Hp->Prop,(∃m,W 0 m G (upd H1 D (.lst [])))/\∀i m M H',W i m M H' ->
  (J.stop i H'/\Q (.ref D) H')\/(J.go i H'/\∃N:St->Hp->Prop,(∀z H2,N z H2->∃U,U<m/\W (i+1) U z H2)/\∀x H2,J.yld i H' x H2 ->
   tt (M.set 0 (some x)) H2 λb H3=>if b=true then te (M.set 0 (some x)) H3 λy H4=>∃ys,H4 D=some (.lst ys)/\ys.length<sizeLine/\N (M.set 0 (some x)) (upd H4 D (.lst (ys++[y])))else N (M.set 0 (some x)) H3)
def pJ(J:It)(g:TG)(U:St)(H1:Hp)(tt:TT)(te:TE)(D:Addr)(Q:VK):Prop:=
 ∃W:Nat->Nat->St->Hp->Prop,(∃m,W 0 m U (upd H1 D (.lst [])))/\∀i m M H',W i m M H' ->
  (J.stop i H'/\Q (.ref D) H')\/(J.go i H'/\∃N:St->Hp->Prop,(∀G H2,N G H2->∃Y,Y<m/\W (i+1) Y G H2)/\∀x H2,J.yld i H' x H2 ->
   g x M H2 λz H3=>tt z H3 λb H4=>if b=true then te z H4 λy H5=>∃ys,H5 D=some (.lst ys)/\ys.length<sizeLine/\N z (upd H5 D (.lst (ys++[y])))else N z H4)
theorem nN.g(h:nN J z H1 tt te D Q):pJ J (d_ 0) z H1 tt te D Q:=h
noncomputable def ur(wi:TI)(js:List Nat)(tt:TT)(te:TE):TE:=λσ H Q=>wi σ H λJ H1=>∀D,H1 D=none->nN J (bZ js σ) H1 tt te D Q
section
variable{X:Cx}{elt iter:Expr}{x:Str}{px:Pos}{ifs:List Expr}{scope:Scope}{pos:Pos}{fvs:List Str}{js:List Nat}{wi:TI}{tt:TT}{te:TE}
def kf{ys:List Str}(Z:jC X.env.scope X.N scope x ys fvs js)(hc:X.calm=true)(hg:∀ap aO C fp,PG (X.blk x (ys++fvs) scope ap aO C fp) tg g)
  (ht:∀ap aO C fp,PF (X.blk x (ys++fvs) scope ap aO C fp) ifs tt) (he:∀ap aO C fp,PE (X.blk x (ys++fvs) scope ap aO C fp) elt te)
  {pins:List (Addr×Obj)}{σ:St}{H2:Hp}{U:Shared}{Q:VK}{it:Addr}{fp:List Addr}{tn:Nat->Heap->Prop}{J:It}{RR:Value->Addr->Result->Shared->Prop}
  (I2:Inv X pins σ H2 U) (T:ny X.prog X.w X.K tg J fp it tn) (d1:tn 0 U.heap) (f2:∀b∈fp,jq X pins H2 b)
  (hh:∀D,H2 D=none->pJ J g (nM ys.length js σ) H2 tt te D Q)
  (fin:∀D C H' s',Inv X pins σ H' s'->(∃m,s'.heap.Ns C m)->H' C=none->C≠X.env.locals->X.s₀.heap.objs.size<=C->(∀y c,X.env.cells.lookup y=some c->c≠C)->(∀p∈X.pn++pins,p.1≠C)->Q (.ref D) H' ->
   RR (.ref D) C (.ok .next) s') {E:Value->Shared->Prop} :
  wpAny (model X.prog X.w) X.A (newList []) (λacc s3=>wpAny (model X.prog X.w) X.A (newFunctionEnv scope X.env.globals (cK X.env scope.names []) [] X.env.qual none .none (some X.env)) (λcl s4 =>
   codeAny (model X.prog X.w) X.A (.compStart (.ListComp elt [⟨tg,iter,ifs,0⟩] scope pos) 0 (.ref it) acc { cl with scope:=relabel scope X.env }) (RR acc cl.locals) s4) E s3) E U:=by
 have fr:∀y∈scope.names,y.2=.free->∃c,X.env.cells.lookup y.1=some c:=λy hy hk=>I2.ok.has y.1 (Z.out y hy hk)
 have sub:∀y c,(cK X.env scope.names []).lookup y=some c->X.env.cells.lookup y=some c:=λy c e=>g8 scope.names [] fr (λ_ q=>by simp at q) e
 refine Gm (j_ (x:=x) Z.kind Z.once λh1 m1 a5 a6 a7=>?_);dsimp only at a5 a6 a7 ⊢;have Y:Inv X pins σ (upd H2 U.heap.objs.size (.lst [])) { U with heap:=U.heap.push { cls:=.type "list",data:=.seq ([]:List Value).toArray },toks:=U.toks }:=I2.lnew (ys:=[]) (its:=[]) .nil (Gv _);generalize hG:U.heap.push { cls:=.type "list",dict:=none,data:=.seq ([]:List Value).toArray }=G at a5 a6 a7 Y ⊢;have hC:G.objs.size=U.heap.objs.size+1:=by rw[<- hG,F7]
 obtain⟨W,⟨m0,w0⟩,d2⟩:=hh U.heap.objs.size I2.fresh;have up:=a6;have look:∀{y}{c},(d7 scope x G.objs.size++cK X.env scope.names []).lookup y=some c->(y=x/\scope.names.lookup x=some .cell/\c=G.objs.size+1)\/(cK X.env scope.names []).lookup y=some c:=λ{y c} e=>by
  unfold d7 at e;by_cases q:scope.names.lookup x=some .cell
  .rw[if_pos q]at e;by_cases z:(y==x)=true
   .rw[cons_append,lookup_cons,z]at e;exact .inl ⟨eq_of_beq z,q,(FV e).symm⟩
   .rw[cons_append,lookup_cons,(Bool.not_eq_true _).mp z]at e;exact .inr e
  .rw[if_neg q]at e;exact .inr e
 have ha:∀{H'}{s'},Inv X pins σ H' s'->True:=λ_=>trivial
 have nC:(upd H2 U.heap.objs.size (.lst [])) G.objs.size=none:=Y.hok.fresh (vr _);have cL:G.objs.size≠X.env.locals:=GH Y.lt;have cS:X.s₀.heap.objs.size<=G.objs.size:=Y.sz;have cC:∀y c,X.env.cells.lookup y=some c->c≠G.objs.size:=λy c e z=>by
  obtain⟨v,q⟩:=Y.cell y c e;exact absurd (show c<G.objs.size from q.lt) (by rw[z];exact Gk _)
 have cP:∀p∈X.pn++pins,p.1≠G.objs.size:=λp hp z=>absurd (show p.1<G.objs.size from vl (Y.pin p hp).1) (by rw[z];exact Gk _)
 have cr:∀b∈fp,b<U.heap.objs.size:=λb hb=>by
  obtain⟨o,e,_⟩:=T.obj 0 _ d1 b hb;exact vl e
 have ok:(X.blk x (ys++fvs) scope { U with heap:=G,toks:=U.toks } (upd H2 U.heap.objs.size (.lst [])) G.objs.size fp).Ok:=by
  have hb:∀b∈fp,b∉frs X.stack:=λb hb z=>(y1.mp (I2.stkSub b z)).elim (f2 b hb).2.1 (f2 b hb).2.2.1
  exact {
   mod:=Y.ok.mod
   kind:=by show(relabel scope X.env).kind=_;exact Z.kind
   glob:=Y.ok.glob
   blt:=Y.ok.blt
   above:=vr _
   inj:=λy z c e1 e2=>by
    have lt:∀{y},(cK X.env scope.names []).lookup y=some c->c<G.objs.size:=λ{y} e=>by
     obtain⟨v,q⟩:=Y.cell y c (sub y c e);exact q.lt
    rcases look e1 with⟨a1,_,a2⟩|a1
    .rcases look e2 with⟨b1,_,_⟩|b1
     .rw[a1,b1]
     .exact absurd (lt b1) (by rw[a2];exact Hg.mpr (Gw _))
    .rcases look e2 with⟨_,_,b2⟩|b1
     .exact absurd (lt a1) (by rw[b2];exact Hg.mpr (Gw _))
     .exact Y.ok.inj y z c (sub y c a1) (sub z c b1)
   has:=λy hy=>by
    show ∃c,(d7 scope x G.objs.size++cK X.env scope.names []).lookup y=some c;unfold d7;rcases lP Z.cells hy with hm|⟨e,q⟩
    .obtain⟨c,ec⟩:=eY (env:=X.env) scope.names [] (.inl hm);by_cases q:scope.names.lookup x=some .cell
     .have z:(y==x)=false:=GJ.mpr (Z.xf _ hm rfl);exact⟨c,by rw[if_pos q,cons_append,lookup_cons,z];exact ec⟩
     .exact⟨c,by rw[if_neg q];exact ec⟩
    .subst e;exact⟨G.objs.size+1,by rw[if_pos q,cons_append,lookup_cons,G3]⟩
   cab:=λy c h e=>by
    obtain⟨h1,h2⟩:=Gx h;have e':(d7 scope x G.objs.size++cK X.env scope.names []).lookup y=some c:=e;unfold d7 at e';rw[if_pos h2,h1,cons_append,lookup_cons,G3]at e';rw[<- FV e'];exact Gw _
   hd:=Y.ok.hd
   frames:=Y.ok.frames
   stk:=.inl rfl
   exf:=λb be=>⟨FX (show b<G.objs.size from FU (cr b be) (by rw[hC];exact Gw _)),λy c e=>by
    rcases look e with⟨_,_,a⟩|a
    .rw[a,hC];exact GH (FU (cr b be) (Gg (Gw _) (Gw _)))
    .exact(f2 b be).2.2.2.2.1 y c (sub y c a)⟩
   bs:=Y.bs
   bsz:=Gg Y.ok.bsz Y.sz
   noex:=λb o e be=>by
    have q:=(f2 b be).2.2.2.1;rcases q with q|q
    .exact Y.ok.noex b o e q
    .exact absurd (FU (vl e) (Gg Y.ok.bsz q)) (Gk _)
   exfs:=hb
   funs:=Y.stack
   frf:=Y.stkFree }
 have ee:(nM ys.length js σ).length=(x::(ys++fvs)).length:=by
  have e:=GL List.length Z.slots;simp only[FY]at e;simp[nM,e]
 have I4:Inv (X.blk x (ys++fvs) scope { U with heap:=G,toks:=U.toks } (upd H2 U.heap.objs.size (.lst [])) G.objs.size fp) [] (nM ys.length js σ) (upd H2 U.heap.objs.size (.lst [])) { U with heap:=h1,toks:=U.toks }:=by
  refine⟨ok,rfl,Y.bare,Un.kept up,⟨_,a5,λi y v e1 e2 e3=>?_⟩,λy c e=>?_,nC,λy c e=>(look e).elim (λ⟨_,_,a⟩=>by rw[a];exact Y.hok.fresh (Gw _)) λa=>Y.freeC y c (sub y c a),λp hp=>by simp[Cx.blk]at hp,Y.hok.kept up,ee⟩
  .cases i with
   |zero=>simp[nM]at e2
   |succ i0 =>
    have cv:(ys++fvs)[i0]?=some y:=e1;have bj:(replicate ys.length none++js.map λj=>(σ[j]?).join)[i0]?=some (some v):=by simpa[nM]using e2
    by_cases ca:i0<ys.length
    .rw[GQ (by simpa using ca),Hx,if_pos ca]at bj;cases bj
    rw[G9 (by simpa using Nat.le_of_not_lt ca),length_replicate]at bj;rw[G9 (Nat.le_of_not_lt ca)]at cv;generalize i0-ys.length=i at cv bj;have ef:fvs[i]?=some y:=cv;have hm:y∈fvs:=Hf ef;have eg:=Z.free y hm;have cx:(y,NameKind.free)∈scope.names:=fj eg;have bp:(js.map λj=>(σ[j]?).join)[i]?=some (some v):=bj;rw[Ga]at bp;cases ej:js[i]? with
    |none=>rw[ej]at bp;cases bp
    |some j =>
     rw[ej]at bp;have cd:(σ[j]?).join=some v:=FV bp;have e4:σ[j]?=some (some v):=by
      cases q:σ[j]? with
      |none=>rw[q]at cd;cases cd
      |some z=>rw[q]at cd;exact GL some cd
     have e5:X.N[j]?=some y:=by
      have q:=GL (λl=>l[i]?) Z.slots;simp only[Ga,ej,ef,map_some]at q;exact FV q
     obtain⟨m,hn,hl⟩:=Y.loc;have cn:=Z.out (y,.free) cx rfl;obtain⟨u,ru,lk⟩:=hl j y v e5 e4 (.inr cn);refine⟨u,ru,.inr ⟨?_,?_⟩⟩
     .show(relabel scope X.env).names.lookup y=_\/(relabel scope X.env).names.lookup y=_;exact lO (osc:=X.env.scope) eg
     .obtain⟨c,ec⟩:=eY (env:=X.env) scope.names [] (.inl cx);have nx:(y==x)=false:=GJ.mpr (Z.xf _ cx rfl);refine⟨c,?_,?_⟩
      .show(d7 scope x G.objs.size++cK X.env scope.names []).lookup y=some c;unfold d7;split
       .rw[cons_append,lookup_cons,nx];exact ec
       .exact ec
      rcases lk with⟨z,_⟩|⟨_,c',eS,q⟩
      .have z':X.env.scope.names.lookup y=some .local:=z;rcases cn with w|w
       .rw[show X.env.scope.names.lookup y=some .cell from w]at z';cases z'
       .rw[show X.env.scope.names.lookup y=some .free from w]at z';cases z'
      .have:=sub y c ec;rw[eS]at this;cases this;obtain⟨o,ho,hd⟩:=q;exact⟨o,up _ _ ho,hd⟩
  .rcases look e with⟨_,q,a⟩|a
   .exact⟨none,by rw[a];exact a7 q⟩
   .obtain⟨v,o,ho,hd⟩:=Y.cell y c (sub y c a);exact⟨v,o,up _ _ ho,hd⟩
 have ei:tn 0 h1:=T.keep 0 _ _ d1 λb hb o e=>up b o (by rw[<- hG];exact mu _ e)
 have e6:∀b∈fp,(upd H2 U.heap.objs.size (.lst [])) b=none:=λb hb=>by
  rw[az (FX (cr b hb))];exact(f2 b hb).1
 have b3:∀{H'},(∀b∈fp,H' b=none)->∀b∈fp,jq (X.blk x (ys++fvs) scope { U with heap:=G,toks:=U.toks } (upd H2 U.heap.objs.size (.lst [])) G.objs.size fp) [] H' b:=λhn b hb =>
  ⟨hn b hb,(ok.exf b hb).1,ok.exfs b hb,.inl hb,(ok.exf b hb).2,λp hp=>by simp[Cx.blk]at hp⟩
 have e7:∀b∈fp,(b∈X.ex\/X.s₀.heap.objs.size<=b)/\b≠X.env.locals/\(∀x c,X.env.cells.lookup x=some c->c≠b)/\∀p∈X.pn++pins,p.1≠b:=λb hb =>
  let ⟨_,q1,_,q2,q3,q4⟩:=f2 b hb;⟨q2,q1,q3,q4⟩
 have cp:∀s5,s5={ U with heap:=h1,toks:=U.toks } ->
   codeAny (model X.prog X.w) X.A (.compLoop (.ListComp elt [⟨tg,iter,ifs,0⟩] scope pos) 0 (.ref it) (.ref U.heap.objs.size) (compEnvC scope (d7 scope x G.objs.size++cK X.env scope.names []) G.objs.size X.env)) (RR (.ref U.heap.objs.size) G.objs.size) s5:=by
  rintro s5 rfl;refine se (λn s'=>∃i M H',Inv (X.blk x (ys++fvs) scope { U with heap:=G,toks:=U.toks } (upd H2 U.heap.objs.size (.lst [])) G.objs.size fp) [] M H' s'/\tn i s'.heap/\(∀b∈fp,H' b=none)/\W i n M H') ?_ m0 ⟨0,_,_,I4,ei,e6,w0⟩;rintro n s6 ⟨i,ce,H6,I6,em,en,w6⟩;rcases d2 i n ce H6 w6 with⟨stop,qn⟩|⟨go,N,hN,step⟩
  .refine thn (T.done (X.blk x (ys++fvs) scope { U with heap:=G,toks:=U.toks } (upd H2 U.heap.objs.size (.lst [])) G.objs.size fp) rfl rfl rfl hc i [] s6 ce H6 _ I6 (b3 en) em stop) λr s7 ⟨hr,I7⟩=>?_
   subst hr;have I8:Inv X pins σ H6 s7:=Y.call' (ch:=fp) I7.os I7.base I7.hok I7.bare e7;obtain⟨m,hn,_⟩:=I7.loc;exact fin _ _ H6 s7 I8 ⟨m,hn⟩ I7.free cL cS cC cP qn
  .refine thn (T.item (X.blk x (ys++fvs) scope { U with heap:=G,toks:=U.toks } (upd H2 U.heap.objs.size (.lst [])) G.objs.size fp) rfl rfl rfl hc i [] s6 ce H6 _ I6 (b3 en) em go) λr s7 ⟨u,hr,h7⟩=>?_
   subst hr;refine thn h7 λ_ s8 ⟨x8,H8,I8,r8,y8,cF,fu⟩=>?_
   have fx:=I8.pinned (b3 fu) (T.obj _ _ cF);refine thn (hg _ _ _ _ _ s8 ce H8 x8 u _ fx r8 (step x8 H8 y8)) λ_ s9 ⟨σ9,H9,I9,q9⟩=>?_
   refine thn (ht _ _ _ _ _ s9 _ H9 _ I9 q9) λfy fI ⟨f0,eo,ck⟩=>?_
   have again:∀{a4}{a3},Inv (X.blk x (ys++fvs) scope { U with heap:=G,toks:=U.toks } (upd H2 U.heap.objs.size (.lst [])) G.objs.size fp) ([]++iJ fp s8.heap) σ9 a3 a4->N σ9 a3 ->
     ∃m,m<n/\∃i M H',Inv (X.blk x (ys++fvs) scope { U with heap:=G,toks:=U.toks } (upd H2 U.heap.objs.size (.lst [])) G.objs.size fp) [] M H' a4/\tn i a4.heap/\(∀b∈fp,H' b=none)/\W i m M H':=λ{a4 a3} b4 cN=>by
    obtain⟨m',hm,f1⟩:=hN _ a3 cN;refine⟨m',hm,i+1,_,a3,b4.unpinned,T.keep _ _ _ cF λb hb o e=>(b4.pin (b,o) (Gh _ (Gh _ (cD hb e)))).1,λb hb=>?_,f1⟩;obtain⟨o,e,d⟩:=T.obj _ _ cF b hb;exact(b4.pin (b,o) (Gh _ (Gh _ (cD hb e)))).2.1
   cases fy with
   |false =>
    rw[if_neg (by simp)]at ck ⊢;exact again eo ck
   |true =>
    rw[if_pos rfl]at ck ⊢;refine thn (he _ _ _ _ _ fI _ f0 _ eo ck) λy a4 ⟨yv,a3,b4,ry,ys,f3,hl,cN⟩=>?_
    refine thn (gc _ a4 _ a3 (.ref U.heap.objs.size) [yv] (.ref U.heap.objs.size) [y] (λ_ et=>N σ9 et) b4 rfl (.cons ry .nil) ⟨_,ys,yv,rfl,rfl,f3,hl,cN⟩) λ_ h5 ⟨_,et,f4,_,f5⟩=>again f4 f5
 exact codeAny_compStart_list (cp _ rfl) (T.self _ 0 _ _ _ ei (cp _ rfl))
def lS(U:gJ X.env.scope X.N scope x fvs js)(hc:X.calm=true)
  (ht:∀z G C fp,PF (X.blk x fvs scope z G C fp) ifs tt) (he:∀z G C fp,PE (X.blk x fvs scope z G C fp) elt te)
  {pins:List (Addr×Obj)}{σ:St}{H2:Hp}{Z:Shared}{Q:VK}{it:Addr}{fp:List Addr}{tn:Nat->Heap->Prop}{J:It}{RR:Value->Addr->Result->Shared->Prop}
  (I2:Inv X pins σ H2 Z) (T:ny X.prog X.w X.K (.Name x px) J fp it tn) (ao:tn 0 Z.heap) (f2:∀b∈fp,jq X pins H2 b)
  (hh:∀D,H2 D=none->nN J (bZ js σ) H2 tt te D Q)
  (fin:∀(D C:Addr) (H':Hp) (s':Shared),Inv X pins σ H' s'->(∃m,s'.heap.Ns C m)->H' C=none->C≠X.env.locals->X.s₀.heap.objs.size<=C->(∀y c,X.env.cells.lookup y=some c->c≠C)->(∀p∈X.pn++pins,p.1≠C)->Q (.ref D) H' ->
   RR (.ref D) C (.ok .next) s') {E:Value->Shared->Prop} :
  wpAny (model X.prog X.w) X.A (newList []) (λacc s3=>wpAny (model X.prog X.w) X.A (newFunctionEnv scope X.env.globals (cK X.env scope.names []) [] X.env.qual none .none (some X.env)) (λY s4 =>
   codeAny (model X.prog X.w) X.A (.compStart (.ListComp elt [⟨.Name x px,iter,ifs,0⟩] scope pos) 0 (.ref it) acc { Y with scope:=relabel scope X.env }) (RR acc Y.locals) s4) E s3) E Z:=
 kf (ys:=[]) U.g hc (λz G C fp=>f_ (X:=X.blk x fvs scope z G C fp) (i:=0) (x:=x) (pos:=px) U.nd rfl (U.once.elim (λq=>.inl (GF q.1)) λq=>.inr (lQ q.1)) (U.once.elim (λq=>.inr (GF q.1)) λq=>.inl (Hl ⟨rfl,q.1⟩))) ht he I2 T ao f2 (λD hD=>(hh D hD).g) fin
def mH(U:gJ X.env.scope X.N scope x fvs js)(hc:X.calm=true)(hi:PI X (.Name x px) iter wi)
  (ht:∀z G C fp,PF (X.blk x fvs scope z G C fp) ifs tt) (he:∀z G C fp,PE (X.blk x fvs scope z G C fp) elt te)
  (hs:∀v,foldedSetIterable iter X.env v=pure v:=by intro _;rfl):PE X (.ListComp elt [⟨.Name x px,iter,ifs,0⟩] scope pos) (ur wi js tt te):=by
 intro pins s σ H Q I h;have fr:∀y∈scope.names,y.2=.free->∃c,X.env.cells.lookup y.1=some c:=λy hy hk=>I.ok.has y.1 (U.out y hy hk)
 rw[eval_ListComp];refine Hd (use:=none) rfl hs (fk fr) U.kind U.names (thn (hi pins s σ H _ I h) λv s1 h1=>thn h1 λa3 s2 h2=>?_);obtain⟨it,fp,tn,J,H2,e,I2,T,Y,f2,hh⟩:=h2;subst e;refine lS (RR:=λacc C=>compPost (model X.prog X.w) X.A X.xe none (EP X pins σ Q) acc C) U hc ht he I2 T Y f2 hh λD C H' s' I' Z nC cL cS cC cP q=>?_
 obtain⟨m,Z⟩:=Z;refine⟨m,Z,λh' sb=>⟨.ref D,H',?_,rfl,q⟩⟩;exact I'.turned (t':=s'.toks) (λb o hb e=>(sb.2 b hb).trans e) nC cL (.inr cS) cC cP
noncomputable def ut(wi:TI)(g:TG)(n:Nat)(js:List Nat)(tt:TT)(te:TE):TE:=λσ H Q=>wi σ H λJ H1=>∀D,H1 D=none->pJ J g (nM n js σ) H1 tt te D Q
def uu{tg:Expr}{g:TG}{ys:List Str}(U:jC X.env.scope X.N scope x ys fvs js)(hc:X.calm=true)(hg:∀z G C fp,PG (X.blk x (ys++fvs) scope z G C fp) tg g)(hi:PI X tg iter wi)
  (ht:∀z G C fp,PF (X.blk x (ys++fvs) scope z G C fp) ifs tt) (he:∀z G C fp,PE (X.blk x (ys++fvs) scope z G C fp) elt te)
  (hs:∀v,foldedSetIterable iter X.env v=pure v:=by intro _;rfl):PE X (.ListComp elt [⟨tg,iter,ifs,0⟩] scope pos) (ut wi g ys.length js tt te):=by
 intro pins s σ H Q I h;have fr:∀y∈scope.names,y.2=.free->∃c,X.env.cells.lookup y.1=some c:=λy hy hk=>I.ok.has y.1 (U.out y hy hk)
 rw[eval_ListComp];refine Hd (use:=none) rfl hs (fk fr) U.kind U.names (thn (hi pins s σ H _ I h) λv s1 h1=>thn h1 λa4 s2 h2=>?_);obtain⟨it,fp,tn,J,H2,e,I2,T,Y,f2,hh⟩:=h2;subst e;refine kf (RR:=λacc C=>compPost (model X.prog X.w) X.A X.xe none (EP X pins σ Q) acc C) U hc hg ht he I2 T Y f2 hh λD C H' s' I' Z nC cL cS cC cP q=>?_
 obtain⟨m,Z⟩:=Z;refine⟨m,Z,λh' sb=>⟨.ref D,H',?_,rfl,q⟩⟩;exact I'.turned (t':=s'.toks) (λb o hb e=>(sb.2 b hb).trans e) nC cL (.inr cS) cC cP
def pK{py Z:Pos}(hN:X.N.Nodup)(ap:X.N[i]?=some y)(hy:Loc X.env.scope y)(Y:gJ X.env.scope X.N scope x fvs js)(hc:X.calm=true)(hi:PI X (.Name x px) iter wi)
  (ht:∀G U C fp,PF (X.blk x fvs scope G U C fp) ifs tt) (he:∀G U C fp,PE (X.blk x fvs scope G U C fp) elt te)
  (a1:swapsWith (.ListComp elt [⟨.Name x px,iter,ifs,0⟩] scope pos) (some (.Name y py)) Z.line X.env=pure true:=by rfl)
  (hs:∀v,foldedSetIterable iter X.env v=pure v:=by intro _;rfl) (hf:X.fn y=true\/X.env.scope.names.lookup y=some .local:=by first|exact .inl rfl|exact .inr rfl|assumption) :
  PS X (.Assign [.Name y py] (.ListComp elt [⟨.Name x px,iter,ifs,0⟩] scope pos) Z) (rN (ur wi js tt te) (d_ i)):=by
 intro pins s σ H D I h;have fr:∀y∈scope.names,y.2=.free->∃c,X.env.cells.lookup y.1=some c:=λy hy hk=>I.ok.has y.1 (Y.out y hy hk)
 rw[exec_Assign_Name_used _ _ _ _ a1];refine kx (wpAny_standAt (kx ?_));show wpAny _ X.A (do let _ <- comprehension (.ListComp elt [⟨.Name x px,iter,ifs,0⟩] scope pos) scope X.env _ (newList []) false (eval iter X.env) (some (assign (.Name y py) X.env))) _ _ s;refine kx (thn (Hd (use:=some (assign (.Name y py) X.env)) (Q:=λ_ s'=>SP X pins D .next s') rfl hs (fk fr) Y.kind Y.names (thn (hi pins s σ H _ I h) λv s1 h1=>thn h1 λcd s2 h2=>?_)) λ_ s' q=>?_)
 .refine bq λZq kq=>?_
  obtain⟨it,fp,tn,J,H2,e,I2,T,a2,f2,hh⟩:=h2;subst e;refine kq ?_;refine lS (RR:=λacc C=>compPost (model X.prog X.w) X.A X.xe (some (assign (.Name y py) X.env)) (λ_ s'=>SP X pins D .next s') acc C) (Q:=λv H'=>d_ i v σ H' D.nx) Y hc ht he I2 T a2 f2 hh λD' C H' s' I' hn nC cL cS cC cP q=>?_
  obtain⟨m,hn⟩:=hn;show wpAny _ _ (assign (.Name y py) X.env (.ref D')) _ _ s';refine wpAny_assign_Name (lB I' hN ap hy (v:=.ref D') rfl (λa4 a5 ⟨a,sb,ha⟩=>?_) hf);have ne:C≠a:=by
   rcases ha with z|z
   .rw[z];exact cL
   .exact λw=>cC y a z w.symm
  refine⟨m,hn.sameBut sb ne,λh' a6=>?_⟩;exact⟨_,H',a5.turned (t':=a4.toks) (λb o hb e=>(a6.2 b hb).trans e) nC cL (.inr cS) cC cP,q⟩
 .exact pb (pb q)
end
def aU(h:H p=none)(o):ae H (upd H p o):=λb u q=>by rw[az (a8 q h)];exact q
def ae.seqT{K:IF}(e:ae H H')(h:SqT K H a xs):SqT K H' a xs:=by
 rcases h with(h|⟨o,h⟩)|h
 .exact .inl (.inl (e _ _ h))
 .exact .inl (.inr ⟨o,e _ _ h⟩)
 .exact .inr h
section
variable{X:Cx}{pins:List (Addr×Obj)}{σ:St}{H:Hp}{s:Shared}
def Inv.laidD(I:Inv X pins σ H s)(k:∀b u,s.heap.get? b=some u->h'.get? b=some u)(D:s.heap.objs.size<=a)(new:bN X.prog X.w (upd H a o) h' a o) :
  Inv X pins σ (upd H a o) { s with heap:=h',toks:=t',drawn:=d' }:=
 I.call (g':=s.gens) (d':=d') (t':=t') (ch:=[]) (Un.laid k D (I.hok.fresh D)) (I.hok.laid k D new) I.bare λ_ z=>nomatch z
end
noncomputable def kg(P:Program)(w:World)(a:Addr)(ks:List Int):HO:=.ext λh=>St.dF P w h a ks
def nO(g:St.dF P w h a ks):bN P w H h a (kg P w a ks):=by
 obtain⟨o,es,ep,t,z,r⟩:=id g;exact⟨g,⟨o,z⟩,λh1 h2 D k=>D.at k⟩
theorem Inv.set(I:Inv X pins σ H s)(h:H a=some (kg X.prog X.w a ks)):St.dF X.prog X.w s.heap a ks:=
 (show bN X.prog X.w H s.heap a (kg X.prog X.w a ks)from I.hok a _ h).1
section
variable{X:Cx}
def uv (hc:X.calm=true):bG X (.type "set") (λxs H Q=>∃(p:Addr) (ns:List Int),xs=[.ref p]/\(SqL X.K H p (ns.map V.int)\/SqT X.K H p (ns.map V.int))/\ns.length<=4000/\∀l,H l=none->Q (.ref l) (upd H l (kg X.prog X.w l (St.dd ns.reverse)))):=by
 intro pins s σ H xs us Q I r h;obtain⟨p,ns,rfl,z,hz,q⟩:=h;obtain⟨u,rfl,G⟩:=eT r;cases G;have hh:=I.ok.hd hc;rcases z with z|z
 .obtain⟨its,D,pl,_⟩:=I.list z;have hi:=jX D;have J:=hi.length;refine St.uj hh pl.isList (ns:=ns) (by simpa using hi) (by simp;unfold scanBound;omega) λh' tk g kp=>?_
  exact⟨.ref s.heap.objs.size,_,I.laidD (d':=s.drawn) kp (vr _) (nO g),rfl,q _ (I.hok.fresh (vr _))⟩
 .obtain⟨its,D,pl,_⟩:=I.tuple z;have hi:=jX D;have J:=hi.length;refine St.r6 hh (show s.heap.IsTuple p its.toArray from pl) (ns:=ns) (by simpa using hi) (by simp;unfold scanBound;omega) λh' tk g kp=>?_
  exact⟨.ref s.heap.objs.size,_,I.laidD (d':=s.drawn) kp (vr _) (nO g),rfl,q _ (I.hok.fresh (vr _))⟩
end
namespace Srt
section
variable{P:Program}{w:World}{A:Around}{E:Value->Shared->Prop}{s:Shared}
end
end Srt
section
variable{X:Cx}
def Inv.keptD(I:Inv X pins σ H s)(k:∀b u,s.heap.get? b=some u->h'.get? b=some u):Inv X pins σ H { s with heap:=h',toks:=t',drawn:=d' }:=
 I.call (g':=s.gens) (d':=d') (t':=t') (ch:=[]) (Un.kept k) (I.hok.kept k) I.bare λ_ z=>nomatch z
def sf:∀{vs}{ns},IntsAre vs ns->aA (ns.map V.int) vs:=iM
end
end L2
namespace L2.St
open PySem PyProof.Rows List Option
section
variable{P:Program}{w:World}{A:Around}{E:Value->Shared->Prop}{s:Shared}
variable{a:Addr}{ks:List Int}{o:Obj}{es:Array (Int×Value)}{ep:Nat}{t:SetTable}
end
section
variable{P:Program}{w:World}{A:Around}{E:Value->Shared->Prop}{s:Shared}
end
noncomputable def lp(m:Nat):Nat->Nat×Nat->Nat×Nat
 |0,p=>p
 |t+1,p=>lp m t (SetTable.leap m p.1 p.2)
noncomputable def vals(m:Nat)(z:Array (Option Nat)):List Nat:=(range (m+1)).filterMap λj=>z.getD j none
section
variable{P:Program}{w:World}{A:Around}{E:Value->Shared->Prop}{s:Shared}
variable{a:Addr}{ks:List Int}{o:Obj}{es:Array (Int×Value)}{ep:Nat}{t:SetTable}
end
section
variable{P:Program}{w:World}{A:Around}{E:Value->Shared->Prop}{s:Shared}
end
end L2.St
namespace L2
open PySem PySem.Spec PyProof.Rows List Option
section
variable{X:Cx}
end
end L2
namespace L2.En
open PySem PyProof.Rows List Option
open AutoSeq1 (wpAny_loadPart')
section
variable{P:Program}{w:World}{A:Around}{E:Value->Shared->Prop}{s:Shared}
def pL(D:s.heap.IsTupleIter it t i)
  (h:wpAny (model P w) A.in1 (Builtin.«tuple_iterator.__next__» ⟨[.ref it],[]⟩) (λfin s'=>∃v,fin=.done (.ret v)/\Q v s') E s):wpAny (model P w) A (Builtin.SmallTypes.nextOf (.ref it)) Q E s:=by
 refine kx (Gq D.typeIs F.slot_tuple_iterator_next ?_);refine Gs F.slot_tuple_iterator_next D.typeIs F.entry_tuple_iterator_next ?_ (F.args_tuple_iterator_next_1 _);refine F8 h (λfin s' G=>?_) λ_ _ z=>z
 obtain⟨v,rfl,q⟩:=G;exact⟨v,rfl,pb q⟩
def CQ (hh:A.handled=none) (h:∀h' e,(∀b o,s.heap.get? b=some o->h'.get? b=some o)->(∃o,h'.get? e=some o/\o.cls=.type "StopIteration")->E (.ref e) { s with heap:=h' }) :
  wpAny (model P w) A (Builtin.SmallTypes.stopIteration:Sem α) Q E s:=by
 wp_walk
 exact wpAny_raiseNew_none hh (h _ _ (λb o q=>mu _ (mu _ q)) ⟨_,ro _ rfl,rfl⟩)
def next_item(hh:A.handled=none)(z:s.heap.IsTupleIter it t i)(G:s.heap.IsTuple t items)
  (J:∀x h',items[i]?=some x->h'.IsTupleIter it t (i+1)->Heap.SameBut it s.heap h'->Q x { s with heap:=h' })
  (U:∀h' e,items[i]?=none->Heap.ExtBut it s.heap h'->(∃o,h'.get? e=some o/\o.cls=.type "StopIteration")->E (.ref e) { s with heap:=h' }):wpAny (model P w) A (Builtin.SmallTypes.nextOf (.ref it)) Q E s:=by
 refine pL z ?_;refine bq λZq Y=>?_
 obtain⟨⟨c1,Z,t1,l1⟩,h1,e1,e2⟩:=z;obtain⟨⟨c2,d2,t2,l2⟩,h2,e3,n2,e4⟩:=G;cases e1;cases e2;cases e3;cases e4;obtain⟨D,g,d,tk,os⟩:=s;refine Y ?_
 wp_walk using wpAny_loadPart' h1,wpAny_loadPart' h2
 have self:∀k v,(D.update it (Obj.mapFields (·.setIfInBounds k v))).get? it=some { cls:=.type "tuple_iterator",dict:=Z,data:=.fields _,slots:=l1 }:=λk v=>Ge _ h1 rfl
 rw[Int.toNat_natCast];cases hx:items[i]? with
 |some x =>
  refine kx (Hm h1 rfl (by simp) (pb ⟨x,rfl,J x _ hx ⟨_,self 1 _,rfl,?_⟩ (F9 ..)⟩));simp[rawInt]
 |none =>
  refine kx (Ir (kx (Hm h1 rfl (by simp) (CQ (by simpa using hh) λh' e k st=>?_))));exact U h' e hx (λb o hb q=>k b o ((F9 D it _).extBut b o hb q)) st
end
end L2.En
namespace L2.Dv
open PySem PyProof.Rows List Option
open AutoSeq1 (wpAny_loadPart')
section
variable{P:Program}{w:World}{A:Around}{E:Value->Shared->Prop}{s:Shared}
end
end L2.Dv
namespace HT
open PySem PyProof.Rows List Option
section
variable{prog:Program}{w:World}{A:Around}{E:Value->Shared->Prop}{s:Shared}
def getItem_tuple_whole{items:Array Value}{U Y:Value}{lo hi:Option Int}{Q:Value->Shared->Prop}(z:IsTup s.heap t items)(hs:s.heap.IsSliceOf Z U Y .none)(pl:IsPart U lo)(pu:IsPart Y hi)
  (h0:sIx items.size 0 lo=0) (h1:sIx items.size items.size hi=items.size) (h:Q (.ref t) s):wpAny (model prog w) A (getItem (.ref t) (.ref Z)) Q E s:=by
 have D:s.TypeIs (.ref Z) "slice":=by obtain⟨os,G,J,_⟩:=hs;exact⟨os,G,J⟩
 unfold getItem
 try with_reducible refine G0 ?_
 first|refine kx (pb ?_)|skip
 refine kx (wpAny_sequenceKey z.typeIs (by decide) ?_);refine kx (Gq (name:=Str.ofString "__getitem__") z.typeIs Gy
  (Gs Gy z.typeIs entry_tuple_getitem ?_ (args_tuple_getitem _ _)))
 show wpAny _ _ (Builtin.Tuple.tupleItemsOf _ >>= _) _ _ s;refine kx (tupleItemsOf_ z ?_);refine kx (Hj D ?_);rw[if_pos (by decide)];refine kx (eW hs pl pu ?_);show wpAny _ _ (if (((sIx items.size 0 lo:Nat):Int)==0&&_==1&&_==items.size)=true then _ else _) _ _ s;rw[h0,h1,if_pos (by simp)];unfold Builtin.Tuple.tupleIsExact;refine kx (kx (Hj z.typeIs (pb ?_)));rw[if_pos (by decide)];refine kx (Ir ?_);exact pb ⟨_,rfl,pb h⟩
end
end HT
namespace L2
open PySem PySem.Spec PyProof.Rows List Option
section
variable{X:Cx}
def xk:SlR X (λx lo hi H Q=>∃a xs,x=.ref a/\SqT X.K H a xs/\HT.sIx xs.length 0 lo=0/\HT.sIx xs.length xs.length hi=xs.length/\Q (.ref a) H):=by
 intro pins s σ H x v Y Z lo hi sl Q I G hs pl J h;obtain⟨a,xs,rfl,hx,U,h1,q⟩:=h;cases G;obtain⟨its,r,D,hz⟩:=I.tuple hx;have z:its.toArray.size=xs.length:=by rw[u3];exact r.length.symm
 refine⟨"tuple",_,Gy.lookup,D.typeIs,?_⟩;exact HT.getItem_tuple_whole D hs pl J (by rw[z];exact U) (by rw[z];exact h1) ⟨.ref a,H,I,rfl,q⟩
end
end L2
namespace L2.Rv
open PySem PyProof.Rows List Option
section
variable{P:Program}{w:World}{A:Around}{E:Value->Shared->Prop}{s:Shared}
def Ai:typeLookup (.type "list_reverseiterator") "__len__"=pure none:=by rw[H0,Hk];kernel_rfl
def uA:typeLookup (.type "list_reverseiterator") "__length_hint__"=pure (some (.builtin "list_reverseiterator.__length_hint__")):=by rw[H0,Hk];kernel_rfl
def uB (G:s.TypeIs (.ref it) "list_reverseiterator") (h:Q false s):wpAny (model P w) A (Builtin.List.listLengthHint (.ref it)) Q E s:=by
 unfold Builtin.List.listLengthHint;refine kx (HV G Ai ?_);refine Gr (λz=>absurd z (by decide)) (λ_=>?_);refine Gr (λz=>absurd z (by decide)) (λ_=>?_);refine kx (HV G uA ?_);generalize D:("list_reverseiterator.__length_hint__":String)=J
 wp_delta
 rw[show splitId J=some ("list_reverseiterator","__length_hint__")from by subst D;decide +kernel];subst D;refine kx (G2 (T:="list_reverseiterator") (b:=true) G (by rw[Ib];kernel_rfl) ?_);refine Gr (λz=>absurd z (by decide)) (λ_=>?_);refine Gr (λ_=>?_) (λz=>absurd (by decide +kernel) z);refine Gr (λz=>absurd z (by decide +kernel)) (λ_=>?_);exact pb h
def Drawn(items:Array Value)(i:Nat)(v:Value):Prop:=items[items.size-1-i]?=some v
def pM{it l S:Addr}{items:Array Value}(hh:A.handled=none)(U:l≠it)(D:s.heap.IsRevIter it l ((items.size:Int)-1))(hl:s.heap.IsList l items)(hn:items.size<=sizeLine)(G:S≠it)(Y:S≠l)(res)
  (hS:s.heap.get? S=some { cls:=.type "list",data:=.seq #[] })
  (hR:∀h' tk acc c,(∀b o,b≠S->b≠it->s.heap.get? b=some o->h'.get? b=some o)->h'.get? S=some { cls:=.type "list",dict:=none,data:=.seq acc c,slots:=#[] }->ItemsOf (Drawn items) acc items.size->R (.ok (.ret res)) { s with heap:=h',toks:=tk }) :
  wpAny (model P w) A.in1 (Builtin.List.listExtendWith (.ref S) (.ref it) res)
   (λfin s'=>match fin with|.done f=>R (.ok f) s'|.again c'=>c'.quiet=true/\codeAny (model P w) A c' R s') (λe s'=>R (.error e) s') s:=by
 have hT:=D.typeIs;have W:=Walks.listRev (prog:=P) (w:=w) (A:=A.in1) (by simpa using hh) it l U items;have Z:S∉[it,l]:=by simp[G,Y]
 unfold Builtin.List.listExtendWith;refine kx (Hj hT ?_);have h1:Builtin.List.listSameRef (.ref S) (.ref it)=false:=by simp[Builtin.List.listSameRef,G]
 rw[if_neg (by rw[h1];decide)];refine kx (wpAny_pyIter_revIter D ?_);refine kx (G0 (uB hT ?_));refine Gr (λao=>absurd ao (by decide)) (λ_=>?_);refine pb ⟨HJ PySem.F.plain_extend_loop _,?_⟩;refine codeAny_extend_loopS W.toS hn S Z res items.size 0 s #[] 0 rfl (Gv _) ⟨Gv _,by simpa using D,hl⟩ hS (ItemsOf.nil _) λs' acc c hm ap J=>?_
 rw[Moved.eq_with hm];refine hR s'.heap s'.toks acc c (λb o hb a7 e=>hm.heap b o (λz=>?_) e) ap J
 simp_all
end
end L2.Rv
namespace L2
open PySem PySem.Spec PyProof.Rows List Option
section
variable{X:Cx}
def pN{its:List Value}(h:ItemsOf (Rv.Drawn its.toArray) acc its.toArray.size):acc.toList=its.reverse:=by
 have hs:acc.size=its.length:=by rw[h.1,u3]
 refine Iw λi=>?_
 rw[GW];by_cases hi:i<its.length
 .cases e:acc[i]? with
  |none=>rw[Array.getElem?_eq_none_iff]at e;omega
  |some v =>
   have:=h.2 i v e;unfold Rv.Drawn at this;rw[u3,getElem?_toArray]at this;rw[getElem?_reverse hi,<- this]
 .simp_all
end
end L2
namespace L2.Rg
open PySem PyProof.Rows List Option
section
variable{P:Program}{w:World}{A:Around}{E:Value->Shared->Prop}{s:Shared}
end
end L2.Rg
namespace L2
open PySem PySem.Spec PyProof.Rows List Option
section
variable{X:Cx}
end
end L2
namespace L2.Rv
open PySem PyProof.Rows List Option
open AutoSeq1 (wpAny_loadPart')
section
variable{P:Program}{w:World}{A:Around}{E:Value->Shared->Prop}{s:Shared}
def list_rev{it l:Addr}{items:Array Value}(hh:A.handled=none)(D:l≠it)(z:s.heap.IsRevIter it l ((items.size:Int)-1))(Y:s.heap.IsList l items)(hn:items.size<=sizeLine)
  (h:∀h' tk acc c,(∀b o,b≠it->s.heap.get? b=some o->h'.get? b=some o)->h'.get? s.heap.objs.size=some { cls:=.type "list",dict:=none,data:=.seq acc c,slots:=#[] }->ItemsOf (Drawn items) acc items.size->Q (.ref s.heap.objs.size) { s with heap:=h',toks:=tk }) :
  wpAny (model P w) A (call (.type "list") [.ref it]) Q E s:=by
 have Z:it<s.heap.objs.size:=by obtain⟨o,G,_⟩:=z;exact vl G
 have ll:l<s.heap.objs.size:=by obtain⟨o,G,_⟩:=Y;exact vl G
 refine callType_codes F.called_list (F.typeCall_list_1 _) F.entry_list_init (code_list_new (.ref it) (Q₁:=λobj s1=>obj=.ref s.heap.objs.size/\s1={ s with heap:=s.heap.push { cls:=.type "list",data:=.seq #[] } }) ⟨rfl,rfl⟩) λobj s1 h1=>?_
 obtain⟨rfl,rfl⟩:=h1;have J:(s.heap.push { cls:=.type "list",data:=.seq #[] }).get? s.heap.objs.size=some { cls:=.type "list",data:=.seq #[] }:=ro _ rfl;refine⟨⟨_,J,rfl⟩,F.args_list_init_2 _ _,?_⟩;unfold Builtin.«list.__init__»;generalize hX:Builtin.List.listExtendWith=X
 wp_walk using wpAny_loadPart' J
 subst hX;have g1:((s.heap.push { cls:=.type "list",data:=.seq #[] }).update s.heap.objs.size (Obj.mapSeq λ_=>#[])).get? s.heap.objs.size=some { cls:=.type "list",data:=.seq #[] }:=Ge _ J rfl;have kp:∀b o,b≠s.heap.objs.size->s.heap.get? b=some o->((s.heap.push { cls:=.type "list",data:=.seq #[] }).update s.heap.objs.size (Obj.mapSeq λ_=>#[])).get? b=some o:=λb o U e=>(F9 ..).extBut b o U (mu _ e)
 refine pM (A:=A.in1) (by simpa using hh) D (z.at λo e=>kp _ o (FX Z) e) (Y.at λo e=>kp _ o (FX ll) e) hn (GH Z) (GH ll) .none g1 λh' tk acc c k e i=>?_
 exact⟨rfl,h h' tk acc c (λb o U q=>k b o (FX (vl q)) U (kp b o (FX (vl q)) q)) e i⟩
end
end L2.Rv
namespace L2
open PySem PySem.Spec PyProof.Rows List Option
section
variable{X:Cx}
def pO (hc:X.calm=true) (hg:Gl X "list") (hm:X.mg "list"=none) (hv:bootBuiltins "list"=some (.type "list")) (Z:Gl X "reversed") (ao:X.mg "reversed"=none) (hl:PE X l tl) (hs:starEach [l] X.env=[(false,eval l X.env)]:=by rfl) :
  PE X (.Call (.Name "list" p) [.Call (.Name "reversed" p2) [l] [] pos2] [] pos) (λσ H Q=>tl σ H λx H1=>∃a xs,x=.ref a/\SqL X.K H1 a xs/\∀q,H1 q=none->Q (.ref q) (upd H1 q (.lst xs.reverse))):=by
 intro pins s σ H Q I h;refine GN (fG I hg hm hv ?_);refine GC (Calls.spliced_cons ?_) rfl rfl;refine GN (fG I Z ao PyProof.Rows.boot_reversed ?_);refine GC (thn (aI hl bn hs pos2 pins s σ H (λvs H1=>match vs with|[x]=>∃a xs,x=.ref a/\SqL X.K H1 a xs/\∀q,H1 q=none->Q (.ref q) (upd H1 q (.lst xs.reverse))|_=>False) I h) λus s1 ⟨vs,H1,U,r1,q1⟩=>?_) hs rfl;cases r1 with
 |nil=>exact q1.elim
 |cons r rr =>
  cases rr with
  |cons _ _=>exact q1.elim
  |nil =>
   refine bq λZq kq=>?_
   obtain⟨a,xs,e,hq,q⟩:=q1;subst e;cases r;obtain⟨its,rv,pl,hz⟩:=U.list hq;have la:a<s1.heap.objs.size:=by obtain⟨o,ho,_⟩:=pl.isList;exact vl ho
   have Y:its.toArray.size=xs.length:=by rw[u3];exact rv.length.symm
   refine kq ?_;refine call_reversed_list pl.isList (Calls.spliced_nil ?_);generalize G:revObj a ((its.toArray.size:Int)-1)=D;have aO:(s1.heap.push D).get? s1.heap.objs.size=some D:=ro _ (by rw[<- G];rfl);have I2:Inv X pins σ H1 { s1 with heap:=s1.heap.push D }:=U.kept (t':=s1.toks) λb o e=>mu _ e
   have hn:=U.hok.fresh (vr _);obtain⟨_,f1,_,f3,f4,f5⟩:=U.fpOk (vr _) hn;refine Rv.list_rev (s:={ s1 with heap:=s1.heap.push D }) (it:=s1.heap.objs.size) (l:=a) (items:=its.toArray) (U.ok.hd hc) (FX la) ⟨_,aO,by rw[<- G];rfl,by rw[<- G];rfl⟩ (pl.isList.at λo e=>mu _ e) (by rw[Y];exact hz) λh' tk acc c k e it=>?_
   have z:(s1.heap.push D).objs.size=s1.heap.objs.size+1:=F7 ..;have ne:(s1.heap.push D).objs.size≠s1.heap.objs.size:=by omega
   have g2:((s1.heap.push D).push { cls:=.type "list",data:=.seq acc c }).get? (s1.heap.push D).objs.size=some { cls:=.type "list",data:=.seq acc c }:=ro _ rfl;have I3:Inv X pins σ (upd H1 (s1.heap.push D).objs.size (.lst xs.reverse)) { s1 with heap:=(s1.heap.push D).push { cls:=.type "list",data:=.seq acc c },toks:=s1.toks }:=I2.laid (λb o e=>mu _ e) (vr _) ⟨by rw[length_reverse];exact hz,acc.toList,c,by rw[pN it];exact rv.reverse,by rw[Array.toArray_toList];exact g2⟩;have a1:H1 (s1.heap.push D).objs.size=none:=U.hok.fresh (by omega);have I4:=I3.turned (t':=tk) (it:=s1.heap.objs.size) (h':=h') (λb o hb J=>by
    by_cases eb:b=(s1.heap.push D).objs.size
    .subst eb;have J:=J;rw[g2]at J;cases J;exact e
    .refine k b o hb ?_;have J:=J;show(s1.heap.push D).get? b=some o;rw[<- Heap.get?_push_ne _ _ _ eb];exact J) (by rw[az ne.symm];exact hn) f1 f3 f4 f5
   exact⟨.ref (s1.heap.push D).objs.size,_,I4,rfl,q _ a1⟩
def uC:bG X (.type "str") (λus H Q=>∃i:Int,us=[.int i]/\i.natAbs<2 ^ 64/\Q (.str (Str.ofString (toString i))) H):=by
 intro pins s σ H xs us Q I r h;obtain⟨i,rfl,hi,q⟩:=h;obtain⟨u,rfl,D⟩:=eT r;obtain⟨t,rfl⟩:=D;refine PySem.P.str_of_int ?_ ⟨.str _,H,I.tok _,⟨s.toks,rfl⟩,q⟩;by_cases z:i.natAbs=0
 .rw[z];decide
 .have:=(Nat.log2_lt z (k:=64)).mpr hi;omega
def CS(K:IF):V->List V->Hp->VK->Prop:=λx vs H Q=>∃z a ws,x=.str z/\vs=[.ref a]/\SqL K H a (ws.map V.str)/\(ws.map λy=>y.length+z.length).sum<=1000000/\Q (.str (Builtin.Str.glued z ws)) H
theorem nP:∀{ws:List Str}{its:List Value},aA (ws.map V.str) its->∃l:List (Str×Tok),its=strValues l/\l.map (·.1)=ws
 | [],_,h=>by cases h;exact⟨[],rfl,rfl⟩
 |y::ws,_,h=>by
  cases h with
  |cons r t =>
   obtain⟨tk,rfl⟩:=r;obtain⟨l,rfl,e⟩:=nP t;exact⟨(y,tk)::l,rfl,by rw[F0,e]⟩
theorem nQ(g:Array Nat):∀(ps:List Str) (a:Array Nat),(ps.foldl (λacc (p:Str)=>acc++g++p.cps) a).size=a.size+(ps.map λp=>p.length+g.size).sum
 | [],a=>by simp
 |p::ps,a=>by
  rw[foldl_cons,nQ g ps,F0,sum_cons,Array.size_append,Array.size_append];show a.size+g.size+p.cps.size+_=a.size+(p.cps.size+g.size+_);omega
def nR(z:Str):∀(ws:List Str),(Builtin.Str.glued z ws).length<=(ws.map λy=>y.length+z.length).sum
 | []=>Gv _
 |w::ws=>by
  show(ws.foldl (λacc (p:Str)=>acc++z.cps++p.cps) w.cps).size<=_;rw[nQ,F0,sum_cons];show w.cps.size+_<=w.cps.size+z.cps.size+(ws.map λy=>y.length+z.cps.size).sum;omega
theorem nS(z:Str):∀(ws:List Str) (n:Nat),ws.foldl (λD G=>D+G.length+z.length) n=n+(ws.map λy=>y.length+z.length).sum
 | [],n=>rfl
 |w::ws,n=>by
  rw[foldl_cons,nS z ws,F0,sum_cons];omega
def xl:MtM X "str.join" (CS X.K):=by
 intro pins s σ H x vs v us Q I G J h;obtain⟨z,a,ws,rfl,rfl,U,hz,q⟩:=h;obtain⟨t,rfl⟩:=G;obtain⟨u,rfl,Y⟩:=J.one;cases Y;obtain⟨its,r,pl,_⟩:=I.list U;obtain⟨l,rfl,rfl⟩:=nP r;have Z:1000000<=sizeLine:=by rw[GP];decide
 have D:=nR z (l.map (·.1));refine Hn F.slot_str_join rfl F.entry_str_join (F.args_str_join_2 _ _) (meets_str_join_list z t a l ?_) ⟨pl.isList,?_⟩
 .unfold Builtin.Str.tooLong;rw[List.foldl_toArray,nS];refine HU ?_;omega
 .have gen:(Made.str (Builtin.Str.glued z (l.map (·.1)))).post (λv s'=>wants (EP X pins σ Q) X.xe (Except.ok (Flow.ret v)) s') s:=by
   simp only[Made.post];exact⟨by omega,⟨.str _,H,I.tok _,⟨s.toks,rfl⟩,q⟩⟩
  match l,q,gen with
  | [],_,gen=>exact gen
  | [p],q,_ =>
   show wants (EP X pins σ Q) X.xe (Except.ok (Flow.ret (Value.str p.1 p.2))) s;exact⟨.str p.1,H,I,⟨p.2,rfl⟩,q⟩
  | _::_::_,_,gen=>exact gen
end
end L2
namespace L2.Zp
open PySem PyProof.Rows List Option
open AutoSeq1 (wpAny_loadPart')
section
variable{P:Program}{w:World}{A:Around}{E:Value->Shared->Prop}{s:Shared}
structure Apart(z TI TO i1 i2 l1 l2:Addr):Prop where
 zTI:z≠TI
 zTO:z≠TO
 zi1:z≠i1
 zi2:z≠i2
 TITO:TI≠TO
 TIi1:TI≠i1
 TIi2:TI≠i2
 TOi1:TO≠i1
 TOi2:TO≠i2
 i12:i1≠i2
 l1z:l1≠z
 l1TO:l1≠TO
 l1i1:l1≠i1
 l1i2:l1≠i2
 l2z:l2≠z
 l2TO:l2≠TO
 l2i1:l2≠i1
 l2i2:l2≠i2
set_option maxHeartbeats 2000000 in
def uD{z TI TO Y Z l1 l2:Addr}{k:Nat}{xs ys:Array Value}{x y a b:Value}{Q:Value->Shared->Prop}(hh:A.handled=none)(G:Apart z TI TO Y Z l1 l2)(hz:IsZip s.heap z TI TO .none)(hI:IsPair s.heap TI (.ref Y) (.ref Z))(hO:IsPair s.heap TO a b)
  (h1:s.heap.IsTupleIter Y l1 k) (h2:s.heap.IsTupleIter Z l2 k) (t1:s.heap.IsTuple l1 xs) (t2:s.heap.IsTuple l2 ys) (e1:xs[k]?=some x) (e2:ys[k]?=some y)
  (hQ:∀h',IsZip h' z TI TO (rawInt s.heap.objs.size)->IsPair h' TO x y->h'.IsTupleIter Y l1 (k+1)->h'.IsTupleIter Z l2 (k+1)->IsPair h' s.heap.objs.size x y->h'.objs.size=s.heap.objs.size+1->(∀c o,c≠z->c≠TO->c≠Y->c≠Z->s.heap.get? c=some o->h'.get? c=some o)->Q (.ref s.heap.objs.size) { s with heap:=h' }) :
  wpAny (model P w) A (Builtin.«zip.__next__» ⟨[.ref z],[]⟩) (λfin s'=>∃v,fin=.done (.ret v)/\Q v s') E s:=by
 unfold Builtin.«zip.__next__»
 wp_walk using wpAny_loadPart' hz,wpAny_loadPart' hI
 generalize hA:s.heap.update z (Obj.mapFields λx=>x.setIfInBounds 0 Value.ellipsis)=U;have z1:U.get? z=some { cls:=.type "zip",data:=.fields #[.ellipsis,.bool false,.bool false,.ref TI,.ref TO] }:=by
  rw[<- hA];exact Ge _ hz rfl
 have o1:∀b,b≠z->U.get? b=s.heap.get? b:=λb hb=>by
  rw[<- hA];exact(F9 s.heap z _).2 b hb
 have n1:U.objs.size=s.heap.objs.size:=by
  rw[<- hA];exact(F9 s.heap z _).1
 have cF:U.IsTupleIter Y l1 k:=h1.at λo e=>(o1 Y G.zi1.symm).trans e
 have cL:U.IsTupleIter Z l2 k:=h2.at λo e=>(o1 Z G.zi2.symm).trans e
 have cN:U.IsTuple l1 xs:=t1.at λo e=>(o1 l1 G.l1z).trans e
 have cP:U.IsTuple l2 ys:=t2.at λo e=>(o1 l2 G.l2z).trans e
 show wpAny (model P w) A ((do let v <- Builtin.SmallTypes.nextOf (.ref Y);pure (some v)).onRaise λ_=>setField (.ref z) 0 .none) _ _ _;refine wpAny_onRaise (kx (En.next_item (s:={ s with heap:=U }) hh cF cN (λx' ao ex cS aO=>?_) λh' e en _ _=>absurd (en.symm.trans e1) (by simp)));obtain rfl:x'=x:=FV (ex.symm.trans e1);have cd:ao.get? TO=some { cls:=.type "tuple",data:=.seq #[a,b] }:=(aO.2 TO G.TOi1).trans ((o1 TO G.zTO.symm).trans hO);have eC:ao.get? TI=some { cls:=.type "tuple",data:=.seq #[.ref Y,.ref Z] }:=(aO.2 TI G.TIi1).trans ((o1 TI G.zTI.symm).trans hI)
 wp_walk using wpAny_loadPart' cd
 generalize hB:ao.update TO (Obj.mapSeq λv=>v.setIfInBounds 0 x')=a5;have o3:∀b,b≠TO->a5.get? b=ao.get? b:=λb hb=>by
  rw[<- hB];exact(F9 ao TO _).2 b hb
 have dn:a5.get? TO=some { cls:=.type "tuple",data:=.seq #[x',b] }:=by
  rw[<- hB];exact Ge _ cd rfl
 have n3:a5.objs.size=ao.objs.size:=by
  rw[<- hB];exact(F9 ao TO _).1
 have ck:a5.IsTupleIter Y l1 (k+1):=cS.at λo e=>(o3 Y G.TOi1.symm).trans e
 have cl:a5.IsTupleIter Z l2 k:=cL.at λo e=>(o3 Z G.TOi2.symm).trans ((aO.2 Z G.i12.symm).trans e)
 have cn:a5.IsTuple l2 ys:=cP.at λo e=>(o3 l2 G.l2TO).trans ((aO.2 l2 G.l2i1).trans e)
 show wpAny (model P w) A ((do let v <- Builtin.SmallTypes.nextOf (.ref Z);pure (some v)).onRaise λ_=>setField (.ref z) 0 .none) _ _ _;refine wpAny_onRaise (kx (En.next_item (s:={ s with heap:=a5 }) hh cl cn (λy' a6 ey dy be=>?_) λh' e en _ _=>absurd (en.symm.trans e2) (by simp)));obtain rfl:y'=y:=FV (ey.symm.trans e2);have b4:a6.get? TO=some { cls:=.type "tuple",data:=.seq #[x',b] }:=(be.2 TO G.TOi2).trans dn;have z4:a6.get? z=some { cls:=.type "zip",data:=.fields #[.ellipsis,.bool false,.bool false,.ref TI,.ref TO] }:=(be.2 z G.zi2).trans ((o3 z G.zTO).trans ((aO.2 z G.zi1).trans z1));have eS:(a6.update TO (Obj.mapSeq λv=>v.setIfInBounds 1 y')).get? TO=some { cls:=.type "tuple",data:=.seq #[x',y'] }:=Ge _ b4 rfl
 wp_walk using wpAny_loadPart' b4
 generalize hC:a6.update TO (Obj.mapSeq λv=>v.setIfInBounds (0+1) y')=D;have o5:∀b,b≠TO->D.get? b=a6.get? b:=λb hb=>by
  rw[<- hC];exact(F9 a6 TO _).2 b hb
 have d1:D.get? TO=some { cls:=.type "tuple",data:=.seq #[x',y'] }:=by
  rw[<- hC];exact Ge _ b4 rfl
 have n5:D.objs.size=s.heap.objs.size:=by
  rw[<- hC];exact(F9 a6 TO _).1.trans (be.1.trans (n3.trans (aO.1.trans n1)))
 have z5:D.get? z=some { cls:=.type "zip",data:=.fields #[.ellipsis,.bool false,.bool false,.ref TI,.ref TO] }:=(o5 z G.zTO).trans z4;have d2:∀c o,c≠z->c≠TO->c≠Y->c≠Z->s.heap.get? c=some o->D.get? c=some o:=λc o a1 a2 a3 a4 e=>(o5 c a2).trans ((be.2 c a4).trans ((o3 c a2).trans ((aO.2 c a3).trans ((o1 c a1).trans e))))
 have j1:D.IsTupleIter Y l1 (k+1):=ck.at λo e=>(o5 Y G.TOi1.symm).trans ((be.2 Y G.i12).trans e)
 have j2:D.IsTupleIter Z l2 (k+1):=dy.at λo e=>(o5 Z G.TOi2.symm).trans e
 generalize hD:D.push { cls:=.type "tuple",data:=.seq #[x',y'].toList.toArray }=J;have k6:∀b o,D.get? b=some o->J.get? b=some o:=λb o e=>by
  rw[<- hD];exact mu _ e
 have t6:J.get? D.objs.size=some { cls:=.type "tuple",data:=.seq #[x',y'] }:=by
  rw[<- hD];exact ro _ rfl
 have n6:J.objs.size=s.heap.objs.size+1:=by rw[<- hD,F7,n5]
 have z6:=k6 z _ z5;have z7:(J.update z (Obj.mapFields λv=>v.setIfInBounds 0 (rawInt D.objs.size))).get? z=some { cls:=.type "zip",data:=.fields #[rawInt D.objs.size,.bool false,.bool false,.ref TI,.ref TO] }:=Ge _ z6 rfl;have zn:z≠D.objs.size:=FX (vl z5)
 wp_walk using wpAny_load z6,wpAny_load z7
 have z8:((J.update z (Obj.mapFields λv=>v.setIfInBounds 0 (rawInt D.objs.size))).update z (Obj.mapFields λv=>v.setIfInBounds 1 (.bool false))).get? z=some { cls:=.type "zip",data:=.fields #[rawInt D.objs.size,.bool false,.bool false,.ref TI,.ref TO] }:=Ge _ z7 rfl;have o8:∀b,b≠z->((J.update z (Obj.mapFields λv=>v.setIfInBounds 0 (rawInt D.objs.size))).update z (Obj.mapFields λv=>v.setIfInBounds 1 (.bool false))).get? b=J.get? b:=λb hb=>((F9 _ z _).2 b hb).trans ((F9 J z _).2 b hb)
 have n8:((J.update z (Obj.mapFields λv=>v.setIfInBounds 0 (rawInt D.objs.size))).update z (Obj.mapFields λv=>v.setIfInBounds 1 (.bool false))).objs.size=s.heap.objs.size+1:=((F9 _ z _).1).trans ((F9 J z _).1.trans n6);rw[n5]at z8 o8 n8 t6 zn ⊢;exact⟨_,rfl,hQ _ z8 ((o8 TO G.zTO.symm).trans (k6 _ _ d1)) (j1.at λo e=>(o8 Y G.zi1.symm).trans (k6 _ _ e)) (j2.at λo e=>(o8 Z G.zi2.symm).trans (k6 _ _ e)) ((o8 _ zn.symm).trans t6) n8 λc o a1 a2 a3 a4 e=>(o8 c a1).trans (k6 _ _ (d2 c o a1 a2 a3 a4 e))⟩
set_option maxHeartbeats 2000000 in
def xm{z TI TO G U J l2:Addr}{k:Nat}{xs:Array Value}{a b:Value}{Q:Fin->Shared->Prop}(hh:A.handled=none)(Y:Apart z TI TO G U J l2)(hz:IsZip s.heap z TI TO .none)(hI:IsPair s.heap TI (.ref G) (.ref U))(hO:IsPair s.heap TO a b)
  (h1:s.heap.IsTupleIter G J k) (t1:s.heap.IsTuple J xs) (e1:xs[k]?=none)
  (hE:∀h' e,(∀c o,c≠z->c≠TO->c≠G->c≠U->s.heap.get? c=some o->h'.get? c=some o)->(∃o,h'.get? e=some o/\o.cls=.type "StopIteration")->E (.ref e) { s with heap:=h' }) :
  wpAny (model P w) A (Builtin.«zip.__next__» ⟨[.ref z],[]⟩) Q E s:=by
 unfold Builtin.«zip.__next__»
 wp_walk using wpAny_loadPart' hz,wpAny_loadPart' hI
 generalize hA:s.heap.update z (Obj.mapFields λx=>x.setIfInBounds 0 Value.ellipsis)=D;have z1:D.get? z=some { cls:=.type "zip",data:=.fields #[.ellipsis,.bool false,.bool false,.ref TI,.ref TO] }:=by
  rw[<- hA];exact Ge _ hz rfl
 have Z:∀b,b≠z->D.get? b=s.heap.get? b:=λb hb=>by
  rw[<- hA];exact(F9 s.heap z _).2 b hb
 have aO:D.IsTupleIter G J k:=h1.at λo e=>(Z G Y.zi1.symm).trans e
 have a5:D.IsTuple J xs:=t1.at λo e=>(Z J Y.l1z).trans e
 show wpAny (model P w) A ((do let v <- Builtin.SmallTypes.nextOf (.ref G);pure (some v)).onRaise λ_=>setField (.ref z) 0 .none) _ _ _;refine wpAny_onRaise (kx (En.next_item (s:={ s with heap:=D }) hh aO a5 (λx' ck ex _ _=>absurd (ex.symm.trans e1) (by simp)) λh' e _ eb st=>?_));have zz:=eb z _ Y.zi1 z1;refine Hm zz rfl (by simp) ?_;obtain⟨o,ho,hc⟩:=st;have oz:∀b,b≠z->(h'.update z (Obj.mapFields (·.setIfInBounds 0 .none))).get? b=h'.get? b:=λb hb=>(F9 h' z _).2 b hb
 refine hE _ e (λc o a1 a2 a3 a4 q=>(oz c a1).trans (eb c o a3 ((Z c a1).trans q))) ⟨o,(oz e λq=>?_).trans ho,hc⟩;rw[q,zz]at ho;cases ho;exact absurd (show Value.type "zip"=Value.type "StopIteration" from hc) (by decide)
end
section
variable{P:Program}{w:World}{A:Around}{E:Value->Shared->Prop}{s:Shared}
def next_item{z TI TO D G J U:Addr}{k:Nat}{xs ys:Array Value}{x y a b:Value}{Q:Option Value->Shared->Prop}(hh:A.handled=none)(Y:Apart z TI TO D G J U)(hz:IsZip s.heap z TI TO .none)(Z:IsPair s.heap TI (.ref D) (.ref G))(hO:IsPair s.heap TO a b)
  (h1:s.heap.IsTupleIter D J k) (h2:s.heap.IsTupleIter G U k) (t1:s.heap.IsTuple J xs) (t2:s.heap.IsTuple U ys) (e1:xs[k]?=some x) (e2:ys[k]?=some y)
  (hQ:∀h',IsZip h' z TI TO (rawInt s.heap.objs.size)->IsPair h' TO x y->h'.IsTupleIter D J (k+1)->h'.IsTupleIter G U (k+1)->IsPair h' s.heap.objs.size x y->h'.objs.size=s.heap.objs.size+1->(∀c o,c≠z->c≠TO->c≠D->c≠G->s.heap.get? c=some o->h'.get? c=some o)->Q (some (.ref s.heap.objs.size)) { s with heap:=h' }) :
  wpAny (model P w) A (pyNext (.ref z)) Q E s:=by
 have ty:s.TypeIs (.ref z) "zip":=⟨_,hz,rfl⟩;unfold pyNext;refine kx (Hq (Gq (name:=Str.ofString "__next__") ty Ia (Gs Ia ty F.entry_zip_next ?_ (F.args_zip_next_1 _))));refine F8 (uD (A:=A.in1) (by simpa using hh) Y hz Z hO h1 h2 t1 t2 e1 e2 (Q:=λv s'=>v=.ref s.heap.objs.size/\Q (some v) s') λh' a1 a2 a3 a4 a5 a6 a7=>⟨rfl,hQ h' a1 a2 a3 a4 a5 a6 a7⟩) (λfin s' hv=>?_) λ_ _ z=>z
 obtain⟨v,rfl,_,q⟩:=hv;exact⟨v,rfl,pb q⟩
def next_end{z TI TO D G J U:Addr}{k:Nat}{xs:Array Value}{a b:Value}{Q:Option Value->Shared->Prop}(hh:A.handled=none)(Y:Apart z TI TO D G J U)(hz:IsZip s.heap z TI TO .none)(Z:IsPair s.heap TI (.ref D) (.ref G))(hO:IsPair s.heap TO a b)
  (h1:s.heap.IsTupleIter D J k) (t1:s.heap.IsTuple J xs) (e1:xs[k]?=none)
  (hQ:∀h',(∀c o,c≠z->c≠TO->c≠D->c≠G->s.heap.get? c=some o->h'.get? c=some o)->Q none { s with heap:=h' }) :
  wpAny (model P w) A (pyNext (.ref z)) Q E s:=by
 have ty:s.TypeIs (.ref z) "zip":=⟨_,hz,rfl⟩;unfold pyNext;refine kx (Hq (Gq (name:=Str.ofString "__next__") ty Ia (Gs Ia ty F.entry_zip_next ?_ (F.args_zip_next_1 _))));refine xm (A:=A.in1) (by simpa using hh) Y hz Z hO h1 t1 e1 λh' e k st=>?_
 refine kx (G2 (T:="StopIteration") (b:=true) st isSubtype_stop ?_);exact pb (hQ h' k)
def apart_new{n a b:Nat}(z:a<n)(D:b<n):Apart (n+4) (n+2) (n+3) n (n+1) a b:=by
 constructor<;>exact λe=>by simp only[Addr]at e;omega
noncomputable abbrev ob1 (l:Addr):Obj:={ cls:=.type "tuple_iterator",data:=.fields #[.ref l,.int 0 0] }
noncomputable abbrev ob2 (a b:Value):Obj:={ cls:=.type "tuple",data:=.seq #[a,b] }
noncomputable abbrev ob3 (a b:Addr):Obj:={ cls:=.type "zip",data:=.fields #[.none,.bool false,.bool false,.ref a,.ref b] }
noncomputable def H2(h:Heap)(z D:Addr):Heap:=(h.push (ob1 z)).push (ob1 D)
noncomputable def H3(h:Heap)(z D:Addr):Heap:=(H2 h z D).push (ob2 (.ref h.objs.size) (.ref (h.push (ob1 z)).objs.size))
noncomputable def H4(h:Heap)(z D:Addr):Heap:=(H3 h z D).push (ob2 .none .none)
noncomputable def H5(h:Heap)(z D:Addr):Heap:=(H4 h z D).push (ob3 (H2 h z D).objs.size (H3 h z D).objs.size)
def xo(z D:Addr)(xs ys:Array Value) :
  Meets (Builtin.«zip.__new__» ⟨[.type "zip",.ref z,.ref D],[]⟩) (λ_ R s=>s.heap.IsTuple z xs/\s.heap.IsTuple D ys/\R (.ok (.ret (.ref (H4 s.heap z D).objs.size))) { s with heap:=H5 s.heap z D }):=by
 refine .of_wp λP w A R s h=>?_
 obtain⟨J,g,d,tk,os⟩:=s;obtain⟨U,Y,h⟩:=h;have G:Heap.IsTuple (Shared.heap ⟨J.push { cls:=.type "tuple_iterator",data:=.fields #[.ref z,.int 0 0] },g,d,tk,os⟩) D ys:=Heap.IsTuple.at (h:=J) Y λo e=>mu _ e
 have sz:=sub_zip;unfold Builtin.«zip.__new__»
 wp_walk using wpAny_pyIter_tuple U,wpAny_pyIter_tuple G
 exact⟨_,rfl,h⟩
def call_zip{z D:Addr}{xs ys:Array Value}{Q:Value->Shared->Prop}(t1:s.heap.IsTuple z xs)(t2:s.heap.IsTuple D ys)
  (h:∀h',IsZip h' (s.heap.objs.size+4) (s.heap.objs.size+2) (s.heap.objs.size+3) .none->IsPair h' (s.heap.objs.size+2) (.ref s.heap.objs.size) (.ref (s.heap.objs.size+1))->IsPair h' (s.heap.objs.size+3) .none .none ->
   h'.IsTupleIter s.heap.objs.size z 0->h'.IsTupleIter (s.heap.objs.size+1) D 0->(∀c o,s.heap.get? c=some o->h'.get? c=some o)->Q (.ref (s.heap.objs.size+4)) { s with heap:=h' }) :
  wpAny (model P w) A (call (.type "zip") [.ref z,.ref D]) Q E s:=by
 refine callType_new F.called_zip (by decide) (F.typeCall_zip_2 _ _) (F.newCall_zip_2 _ _) (λv=>F.args_object_init_3 v _ _) F.entry_zip_new (xo z D xs ys) ⟨t1,t2,?_⟩;have n1:(s.heap.push (ob1 z)).objs.size=s.heap.objs.size+1:=F7 ..;have J:(H2 s.heap z D).objs.size=s.heap.objs.size+2:=(F7 ..).trans (by rw[n1]);have U:(H3 s.heap z D).objs.size=s.heap.objs.size+3:=(F7 ..).trans (by rw[J]);have Y:(H4 s.heap z D).objs.size=s.heap.objs.size+4:=(F7 ..).trans (by rw[U]);have k0:∀b o,s.heap.get? b=some o->(s.heap.push (ob1 z)).get? b=some o:=λb o e=>mu _ e
 have k1:∀b o,(s.heap.push (ob1 z)).get? b=some o->(H2 s.heap z D).get? b=some o:=λb o e=>mu _ e
 have k2:∀b o,(H2 s.heap z D).get? b=some o->(H3 s.heap z D).get? b=some o:=λb o e=>mu _ e
 have k3:∀b o,(H3 s.heap z D).get? b=some o->(H4 s.heap z D).get? b=some o:=λb o e=>mu _ e
 have G:∀b o,(H4 s.heap z D).get? b=some o->(H5 s.heap z D).get? b=some o:=λb o e=>mu _ e
 have g0:(s.heap.push (ob1 z)).get? s.heap.objs.size=some (ob1 z):=ro _ rfl;have g1:(H2 s.heap z D).get? (s.heap.objs.size+1)=some (ob1 D):=by rw[<- n1];exact ro _ rfl
 have g2:(H3 s.heap z D).get? (s.heap.objs.size+2)=some (ob2 (.ref s.heap.objs.size) (.ref (s.heap.objs.size+1))):=by rw[<- J,<- n1];exact ro _ rfl
 have g3:(H4 s.heap z D).get? (s.heap.objs.size+3)=some (ob2 .none .none):=by rw[<- U];exact ro _ rfl
 have Z:(H5 s.heap z D).get? (s.heap.objs.size+4)=some (ob3 (s.heap.objs.size+2) (s.heap.objs.size+3)):=by rw[<- Y,<- J,<- U];exact ro _ rfl
 show Shared.TypeIs _ (.ref (H4 s.heap z D).objs.size) _/\Q (.ref (H4 s.heap z D).objs.size) _;rw[Y];exact⟨⟨_,Z,rfl⟩,h _ Z (G _ _ (k3 _ _ g2)) (G _ _ g3) ⟨_,G _ _ (k3 _ _ (k2 _ _ (k1 _ _ g0))),rfl,rfl⟩ ⟨_,G _ _ (k3 _ _ (k2 _ _ g1)),rfl,rfl⟩ λc o e=>G _ _ (k3 _ _ (k2 _ _ (k1 _ _ (k0 _ _ e))))⟩
end
end L2.Zp
namespace L2
open PySem PySem.Spec PyProof.Rows List Option
noncomputable def Itz(K:IF)(a b:Addr):It:=
 ⟨λi H=>∃xs ys,SqT K H a xs/\SqT K H b ys/\xs.length=ys.length/\i<xs.length,λi H x H'=>∃p,x=.ref p/\H p=none/\∃u v,H'=upd H p (.tup [u,v])/\(∀xs,SqT K H a xs->xs[i]?=some u)/\∀ys,SqT K H b ys->ys[i]?=some v,λi H=>∃xs,SqT K H a xs/\i=xs.length⟩
def Inv.turnedL{X:Cx}{pins:List (Addr×Obj)}{σ:St}{H:Hp}{s:Shared}{h':Heap}{t':Nat}{L:List Addr}(I:Inv X pins σ H s)(k:∀b o,b∉L->s.heap.get? b=some o->h'.get? b=some o)(G:∀b∈L,jq X pins H b):Inv X pins σ H { s with heap:=h',toks:=t' }:=by
 have out:∀b u,H b=some u->b∉L:=λb u e z=>by
  have:=(G b z).1;rw[e]at this;cases this
 have own:X.env.locals∉L:=λz=>(G _ z).2.1 rfl
 refine I.step (g':=s.gens) (d':=s.drawn) (ch:=L) (λb D=>⟨(G b D).2.2.2.1,(G b D).2.1,(G b D).2.2.2.2.1,(G b D).2.2.2.2.2⟩)
  (λb o _ _ D e _=>k b o D e) (λb o _ _ D e _=>⟨o.slots,k b o D e⟩) (λ_ _ _ _ n=>n) (λb o D e=>⟨o,k b o D e⟩)
  (λ_ _ e=>e) (λ_ _ _ e=>e) (λb ps e=>⟨#[],by rw[e];simp⟩) (λm J=>?_) (λb u e=>?_) I.bare
 .obtain⟨o,es,ep,U,r⟩:=J;exact⟨o,es,ep,k _ o own U,r⟩
 .refine(I.hok b u e).stay (λc v hc q=>k c v ?_ q) (λ_ q=>q) λ_ _ q=>q
  rcases hc with hc|hc
  .rw[hc];exact out b u e
  .exact out c _ hc
def uE{P:Program}{w:World}{K:IF}{ts:List Expr}{j:Nat}{tp:Pos}{z TI TO G J a b:Addr}(D:Zp.Apart z TI TO G J a b) :
  ny P w K (.Tuple ts j tp) (Itz K a b) [z,TI,TO,G,J] z (λi h=>IsZip h z TI TO .none/\IsPair h TI (.ref G) (.ref J)/\(∃p q,IsPair h TO p q)/\h.IsTupleIter G a i/\h.IsTupleIter J b i) where
 mem:=.head _
 obj:=λi h ⟨h1,h2,⟨p,q,U⟩,⟨o4,e4,_,d4⟩,⟨o5,e5,_,d5⟩⟩ c hc=>by
  simp only[y1,F4,Gi]at hc;rcases hc with rfl|rfl|rfl|rfl|rfl
  .exact⟨_,h1,λv e=>by cases e⟩
  .exact⟨_,h2,λv e=>by cases e⟩
  .exact⟨_,U,λv e=>by cases e⟩
  .exact⟨o4,e4,λv e=>by rw[d4]at e;cases e⟩
  .exact⟨o5,e5,λv e=>by rw[d5]at e;cases e⟩
 keep:=λi h h' ⟨h1,h2,⟨p,q,U⟩,Y,Z⟩ k=>⟨k _ (by simp) _ h1,k _ (by simp) _ h2,⟨p,q,k _ (by simp) _ U⟩,Y.at λo e=>k _ (by simp) o e,Z.at λo e=>k _ (by simp) o e⟩
 item:=by
  intro X hP hw hK hc i pins s σ H E I hf st hg;subst hP hw hK;obtain⟨h1,h2,⟨p,q,U⟩,Y,Z⟩:=st;obtain⟨xs,ys,hx,hy,hl,hi⟩:=hg;obtain⟨its,rv,t1,_⟩:=I.tuple hx;obtain⟨cd,ce,t2,_⟩:=I.tuple hy;obtain⟨x,ex,rx⟩:=rv.get (F5 hi);obtain⟨y,ey,ry⟩:=ce.get (F5 (hl▸hi));refine Zp.next_item (I.ok.hd hc) D h1 h2 U Y Z (show s.heap.IsTuple a its.toArray from t1) (show s.heap.IsTuple b cd.toArray from t2) (x:=x) (y:=y) (by simpa using ex) (by simpa using ey) λh' a1 a2 a3 a4 a5 a6 a7=>?_
  refine⟨_,rfl,wpAny_letOwnedTupleGo_zip (s:={ s with heap:=h' }) a1 λck b1 sb=>?_⟩;have fresh:H s.heap.objs.size=none:=I.hok.fresh (vr _);have ne:∀c o,s.heap.get? c=some o->c≠s.heap.objs.size:=λc o e=>FX (vl e)
  have I1:Inv X pins σ (upd H s.heap.objs.size (.tup [xs[i],ys[i]])) { s with heap:=s.heap.push { cls:=.type "tuple",data:=.seq #[x,y] } }:=
   I.laid (t':=s.toks) (λc o e=>mu _ e) (vr _) ⟨by show 2<=sizeLine;decide,_,.cons rx (.cons ry .nil),IsTup.new _ _⟩
  have live:∀c∈[z,TI,TO,G,J],c≠s.heap.objs.size:=λc hc=>by
   simp only[y1,F4,Gi]at hc;obtain⟨o4,e4,_⟩:=Y;obtain⟨o5,e5,_⟩:=Z;rcases hc with rfl|rfl|rfl|rfl|rfl
   .exact ne _ _ h1
   .exact ne _ _ h2
   .exact ne _ _ U
   .exact ne _ _ e4
   .exact ne _ _ e5
  have up:∀c∈[z,TI,TO,G,J],jq X pins (upd H s.heap.objs.size (.tup [xs[i],ys[i]])) c:=λc hc=>by
   obtain⟨f0,f⟩:=hf c hc;exact⟨by rw[az (live c hc)];exact f0,f⟩
  have zl:z≠s.heap.objs.size:=live z (.head _);have I2:=I1.turnedL (h':=ck) (t':=s.toks) (L:=[z,TI,TO,G,J]) (λc o hc e=>by
   simp only[y1,F4,Gi,not_or]at hc;rw[sb.2 c hc.1];rcases Heap.get?_push_cases e with⟨rfl,rfl⟩|e
   .exact a5
   .exact a7 c o hc.1 hc.2.2.1 hc.2.2.2.1 hc.2.2.2.2 e) up
  refine⟨.ref s.heap.objs.size,_,I2,rfl,⟨_,rfl,fresh,_,_,rfl,λxs' h=>?_,λed h=>?_⟩,⟨b1,(sb.2 TI D.zTI.symm).trans ?_,⟨x,y,(sb.2 TO D.zTO.symm).trans a2⟩,a3.at λo e=>(sb.2 G D.zi1.symm).trans e,a4.at λo e=>(sb.2 J D.zi2.symm).trans e⟩,λc hc=>(up c hc).1⟩
  .rw[I.tuple_inj h hx];exact F5 hi
  .rw[I.tuple_inj h hy];exact F5 (hl▸hi)
  .exact a7 TI _ D.zTI.symm D.TITO D.TIi1 D.TIi2 h2
 done:=by
  intro X hP hw hK hc i pins s σ H E I hf st hg;subst hP hw hK;obtain⟨h1,h2,⟨p,q,U⟩,Y,Z⟩:=st;obtain⟨xs,hx,rfl⟩:=hg;obtain⟨its,rv,t1,_⟩:=I.tuple hx;refine Zp.next_end (I.ok.hd hc) D h1 h2 U Y (show s.heap.IsTuple a its.toArray from t1) (by rw[rv.length];simp) λh' k=>⟨rfl,?_⟩
  exact I.turnedL (t':=s.toks) (L:=[z,TI,TO,G,J]) (λc o hc e=>by
   simp only[y1,F4,Gi,not_or]at hc;exact k c o hc.1 hc.2.2.1 hc.2.2.2.1 hc.2.2.2.2 e) hf
 self:=λ_ i s Q E ⟨h1,_⟩ h=>wpAny_pyIter_zip h1 h
noncomputable def Fl(K:IF)(ta:TA):TI:=λσ H R=>ta σ H λvs H1=>∃a b xs ys,vs=[.ref a,.ref b]/\SqT K H1 a xs/\SqT K H1 b ys/\xs.length=ys.length/\R (Itz K a b) H1
def Aj {X:Cx}{ts:List Expr}{j:Nat}{tp:Pos}{l r:Expr}{ta:TA}{p pos:Pos} (hg:Gl X "zip") (hm:X.mg "zip"=none) (ha:PA X [l,r] ta) (hs:starEach [l,r] X.env=[(false,eval l X.env),(false,eval r X.env)]) (z:starEach [r] X.env=[(false,eval r X.env)]) :
  PI X (.Tuple ts j tp) (.Call (.Name "zip" p) [l,r] [] pos) (Fl X.K ta):=by
 intro pins s σ H R I h;refine Call_ (fG I hg hm PyProof.Rows.boot_zip (GC (thn (ha pos pins s σ H _ I h) λus s1 ⟨vs,H1,D,r1,q1⟩=>?_) (by rw[hs,z]) (by rw[z];rfl)));obtain⟨a,b,xs,ys,e,hx,hy,hl,q⟩:=q1;subst e;cases r1 with
 |cons rx U =>
  cases U with
  |cons ry U =>
   cases U with
   |nil =>
    cases rx;cases ry;obtain⟨its,_,G,_⟩:=D.tuple hx;obtain⟨Y,_,J,_⟩:=D.tuple hy;have G:s1.heap.IsTuple a its.toArray:=G;have J:s1.heap.IsTuple b Y.toArray:=J;have la:a<s1.heap.objs.size:=let ⟨o,Z,_⟩:=G;vl Z
    have lb:b<s1.heap.objs.size:=let ⟨o,Z,_⟩:=J;vl Z
    refine Zp.call_zip G J λh' a1 a2 a3 a4 a5 k=>?_
    have I2:Inv X pins σ H1 { s1 with heap:=h' }:=D.kept (t':=s1.toks) k;have T:=uE (P:=X.prog) (w:=X.w) (K:=X.K) (ts:=ts) (j:=j) (tp:=tp) (Zp.apart_new la lb);refine wpAny_pyIter_zip (s:={ s1 with heap:=h' }) a1 ⟨_,_,_,_,H1,rfl,I2,T,⟨a1,a2,⟨_,_,a3⟩,a4,a5⟩,λc hc=>?_,q⟩;have hb:s1.heap.objs.size<=c:=by
     simp only[y1,F4,Gi]at hc;rcases hc with rfl|rfl|rfl|rfl|rfl
     .exact Hc _ _
     .exact Hc _ _
     .exact Hc _ _
     .exact vr _
     .exact Hc _ _
    exact D.fpOk hb (D.hok.fresh hb)
noncomputable def Itc(x:Str):It:=⟨λi _=>i<x.cps.size,λi H v H'=>H'=H/\∃c,x.cps[i]?=some c/\v=.str ⟨#[c]⟩,λi _=>x.cps.size<=i⟩
def uF {P:Program}{w:World}{K:IF}{tg:Expr} (it:Addr) (x:Str) (t:Tok):ny P w K tg (Itc x) [it] it (λi h=>h.IsStrIter it "str_ascii_iterator" x t i) where
 mem:=.head _
 obj:=λi h st b D=>by
  obtain rfl:=F6.mp D;obtain⟨o,h1,_,h2⟩:=st;exact⟨o,h1,λv z=>by rw[h2]at z;cases z⟩
 keep:=λi h h' st k=>let ⟨o,ho,r⟩:=st;⟨o,k it (.head _) o ho,r⟩
 item:=by
  intro X U hw Y hc i pins s σ H E I J st Z;subst U hw Y;have lt:i<x.cps.size:=Z;obtain⟨f0,f1,f2,f3,f4,f5⟩:=J it (.head _);refine wpAny_pyNext_ascii_item st (c:=x.cps[i]) (by simp[lt]) λh' G sb=>?_
  have I1:Inv X pins σ H { s with heap:=h',toks:=s.toks+1 }:=I.turned (λb o D e=>(sb.2 b D).trans e) f0 f1 f3 f4 f5;obtain⟨o,e,c,d⟩:=id G;exact⟨_,rfl,qB (s:={ s with heap:=h',toks:=s.toks+1 }) e c d (by decide) ⟨.str ⟨#[x.cps[i]]⟩,H,I1,⟨_,rfl⟩,⟨rfl,_,by simp[lt],rfl⟩,G,λb D=>(J b D).1⟩⟩
 done:=by
  intro X U hw Y hc i pins s σ H E I J st Z;subst U hw Y;have le:x.cps.size<=i:=Z;obtain⟨f0,f1,f2,f3,f4,f5⟩:=J it (.head _);exact wpAny_pyNext_ascii_end (I.ok.hd hc) st (by simp[le]) λh' eb=>⟨rfl,I.turned (t':=s.toks) (λb o D e=>eb b o D e) f0 f1 f3 f4 f5⟩
 self:=λ_ _ _ _ _ st h=>wpAny_pyIter_striter_ascii st h
section
variable{X:Cx}{tg:Expr}
noncomputable def Fm(tl:TE):TI:=λσ H R=>tl σ H λv H1=>∃x,v=.str x/\x.cps.all (· < 128)=true/\R (Itc x) H1
def Ak{l:Expr}{tl:TE}(D:PE X l tl):PI X tg l (Fm tl):=by
 intro pins s σ H R I h;refine thn (D pins s σ H _ I h) λv s1 ⟨y,H1,z,G,x,J,U,q⟩=>?_
 subst J;obtain⟨t,rfl⟩:=G;refine wpAny_pyIter_ascii U ⟨s1.heap.objs.size,[s1.heap.objs.size],_,_,H1,rfl,z.kept (t':=s1.toks) λb o e=>mu _ e,uF _ x t,⟨_,ro _ rfl,rfl,rfl⟩,λb Y=>?_,q⟩;obtain rfl:=F6.mp Y;exact z.fpOk (vr _) (z.hok.fresh (vr _))
def sg:bG X (.type "int") (λus H Q=>∃x n,us=[.str x]/\intText? x=some n/\x.length<=640/\Q (.int n) H):=by
 intro pins s σ H xs us Q I r h;obtain⟨x,n,rfl,z,D,q⟩:=h;obtain⟨u,rfl,G⟩:=eT r;obtain⟨t,rfl⟩:=G;exact PySem.W.KIN.call_text z D ⟨.int n,H,I.tok _,⟨_,rfl⟩,q⟩
def Al:V->List V->Hp->VK->Prop:=λx vs H Q=>∃z y,x=.str z/\vs=[.str y]/\(y.length==0)=false/\z.length<=1000000/\(Txt.split z y).length<=1000000/\∀p,H p=none->Q (.ref p) (upd H p (.lst ((Txt.split z y).map V.str)))
theorem nT:∀(l:List (Str×Tok)),aA ((l.map (·.1)).map V.str) (strValues l)
 | []=>.nil
 |p::l=>.cons ⟨p.2,rfl⟩ (nT l)
def uG:MtM X "str.split" Al:=by
 intro pins s σ H x vs v us Q I J U h;obtain⟨z,y,rfl,rfl,G,hz,hn,q⟩:=h;obtain⟨t,rfl⟩:=J;obtain⟨u,rfl,Y⟩:=U.one;obtain⟨D,rfl⟩:=Y;have Z:1000000<=sizeLine:=by rw[GP];decide
 have fin:∀(l:List (Str×Tok)) (tk c:Nat),l.map (·.1)=Txt.split z y->EP X pins σ Q (.ref s.heap.objs.size) { s with toks:=tk,heap:=s.heap.push { cls:=.type "list",data:=.seq (strValues l).toArray c } }:=λl tk c e=>by
  have hl:l.length=(Txt.split z y).length:=by rw[<- e,FY]
  refine⟨.ref s.heap.objs.size,_,I.laid (o:=.lst ((Txt.split z y).map V.str)) (λb o g=>mu _ g) (vr _) ⟨by rw[FY];omega,strValues l,c,by rw[<- e];exact nT l,ro _ rfl⟩,rfl,q _ (I.hok.fresh (vr _))⟩
 cases h1:(decide (z.length<y.length)||decide (Builtin.Str.strKind z<Builtin.Str.strKind y))with
 |true =>
  refine Hn Iy rfl Iq (Ih _ _) (meets_str_split_cannot_occur z y t D h1) ?_;exact fin [(z,t)] s.toks 0 (by unfold Txt.split;rw[if_pos h1];rfl)
 |false =>
  cases h2:(Builtin.Str.occurrences z y 0 z.length (z.length+1)).isEmpty with
  |true =>
   refine Hn Iy rfl Iq (Ih _ _) (meets_str_split_not_found z y t D h1 G h2) ?_;exact fin [(z,t)] s.toks 0 (by unfold Txt.split;rw[if_neg (by rw[h1];decide),if_pos h2];rfl)
  |false =>
   have es:Txt.split z y=Builtin.Str.partsBetween z (Builtin.Str.occurrences z y 0 z.length (z.length+1)) y.length:=by
    unfold Txt.split;rw[if_neg (by rw[h1];decide),if_neg (by rw[h2];decide)]
   refine Hn Iy rfl Iq (Ih _ _) (meets_str_split_sep z y t D h1 G h2 (by omega) (by rw[<- es];omega)) ?_;have g:=fin (numbered s.toks (Txt.split z y)) (s.toks+(Txt.split z y).length) 0 (numbered_texts _ _);rw[<- strsFrom_eq,es]at g;exact g
end
end L2
namespace L2.Srt
open PySem PySem.W PySem.Calls PyProof.Rows List Option
section
variable{P:Program}{w:World}{A:Around}{E:Value->Shared->Prop}{s:Shared}
def pP {a:Addr}{vs:List Value}{n:Nat}{R:PySem.Fin->Shared->Prop} (G:s.heap.get? a=some (seqObj "list" vs.toArray n)) (h1:vs.length<2)
  (h:R (.done (.ret .none)) { s with heap:=sortedHeap s.heap a vs vs.toArray }):wpAny (model P w) A (Builtin.«list.sort» ⟨[.ref a],[]⟩) R E s:=by
 rw[list_sort_plain];refine kx (listItems_at G rfl ?_);refine kx (listUpdate_at G rfl ?_ (by rw[u3,GP];omega) (Gv _));obtain⟨J,z⟩:∃J,(s.heap.update a (Obj.mapSeq λ_=>(#[]:Array Value))).get? a=some (seqObj "list" #[] J):=⟨_,get?_update_seq G λ_=>#[]⟩;refine kx (seqEpoch_at z rfl ?_);refine kx (wpAny_newTuple ?_ (by show vs.length<=_;rw[GP];omega));refine kx (wpAny_newList ?_ (Gv _));refine G0 ?_;have D:(((s.heap.update a (Obj.mapSeq λ_=>(#[]:Array Value))).push (seqObj "tuple" vs.toArray 0)).push (seqObj "list" #[] 0)).get? a=some (seqObj "list" #[] J):=mu _ (mu _ z);show wpAny (model P w) A _ R E { s with heap:=((s.heap.update a (Obj.mapSeq λ_=>(#[]:Array Value))).push (seqObj "tuple" vs.toArray 0)).push (seqObj "list" #[] 0) };dsimp only;have h2:vs.toArray.size<2:=by rw[u3];exact h1
 rw[if_pos h2,if_pos h2];refine kx (pb ?_);rw[StateT.run_pure];refine kx (pb ?_);dsimp only;refine kx (seqEpoch_at D rfl ?_);refine kx (listUpdate_at D rfl ?_ (Gv _) (by rw[Array.size_map];show(pairsOf vs).size<=_;rw[pairsOf_size,GP];omega));simp only[Io,GO,HL];have e:((arrOf (SortSt.mk' general' (vs.toArray.zip vs.toArray) #[] 7 none)).map (·.2))=vs.toArray:=by
  have U:(arrOf (SortSt.mk' general' (vs.toArray.zip vs.toArray) #[] 7 none))=vs.toArray.zip vs.toArray:=rfl;rw[U];apply Array.toList_inj.mp;simp[map_snd_zip]
 refine pb ?_;rw[<- e]at h;exact h
def pQ{x:Value}{Q:Value->Shared->Prop}
  (D:∀(G:List Value->Shared->Prop),(∀(h':Heap) (tk:Nat) (d':Drawn) (vs:List Value),(∀b o,s.heap.get? b=some o->h'.get? b=some o)->vs.length<2->(∀(h1 h2:Heap) (c:Nat),h1=h'->(∀b o,h1.get? b=some o->h2.get? b=some o)->h2.get? h1.objs.size=some { cls:=.type "list",data:=.seq vs.toArray c }->Q (.ref h1.objs.size) { s with heap:=h2,toks:=tk,drawn:=d' })->G vs { s with heap:=h',toks:=tk,drawn:=d' }) ->
   wpAny (model P w) A.in1 (collect x) G E s):wpAny (model P w) A (call (.builtin "sorted") [x]) Q E s:=by
 refine Calls.call_function_entry kind_sorted plain_sorted entry_sorted (args_sorted1 _) ?_;unfold Builtin.«sorted»;refine kx (m:=checkCount "sorted" 1 1 _) (pb ?_);refine kx (D _ λh1 tk Y vs kp U h=>?_);refine kx (wpAny_newList ?_ (by rw[GP];omega));have z:(h1.push (seqObj "list" vs.toArray 0)).get? h1.objs.size=some (seqObj "list" vs.toArray 0):=ro _ rfl;refine kx (G0 (Gs slot_list_sort ⟨_,z,rfl⟩ entry_list_sort (pP z U ⟨_,rfl,?_⟩) (args_list_sort _)));obtain⟨c,hc⟩:=sortedHeap_at (out:=vs.toArray) (vs:=vs) z;refine pb ⟨_,rfl,h h1 _ c rfl (λb o e=>?_) hc⟩;have J:b<h1.objs.size:=vl e;rw[sortedHeap_old (FX J) (by rw[F7];exact GA J)];exact mu _ e
end
end L2.Srt
namespace L2
open PySem PySem.Spec PyProof.Rows List Option
section
variable{X:Cx}
def g9 (hc:X.calm=true):bG X (.builtin "sorted") (λxs H Q=>∃(p:Addr) (vs:List V),xs=[.ref p]/\((SqL X.K H p vs\/SqT X.K H p vs)\/∃ks,vs=ks.map V.int/\H p=some (kg X.prog X.w p ks))/\vs.length<2/\∀l:Addr,H l=none->Q (.ref l) (upd H l (.lst vs))):=by
 intro pins s σ H xs us Q I r h;obtain⟨p,vs,rfl,D,Y,q⟩:=h;obtain⟨u,rfl,rx⟩:=eT r;cases rx;have hh:=I.ok.hd hc;refine Srt.pQ λQ' Z=>?_
 have fin:∀(h1:Heap) (tk:Nat) (d':Drawn) (its:List Value),(∀b o,s.heap.get? b=some o->h1.get? b=some o)->aA vs its->Q' its { s with heap:=h1,toks:=tk,drawn:=d' }:=λh1 tk d' its k1 z=>Z h1 tk d' its k1 (by have:=z.length;omega) λh0 h2 c e0 k2 e=>by
  subst e0;have I1:Inv X pins σ H { s with heap:=h0,toks:=tk,drawn:=d' }:=I.keptD k1;exact⟨.ref h0.objs.size,_,I1.laid (t':=tk) k2 (vr _) (show bN X.prog X.w _ h2 _ (.lst _)from⟨by rw[GP];omega,its,c,z,e⟩),rfl,q _ (I1.hok.fresh (vr _))⟩
 rcases D with(D|D)|⟨ks,rfl,D⟩
 .obtain⟨its,z,pl,hz⟩:=I.list D;obtain⟨o,ho,G,n,hd⟩:=pl.isList;exact wpAny_collect_seq p (.inl rfl) ho G hd (λh' kp=>by have:=fin h' s.toks s.drawn its kp z;simpa using this) (by have:=z.length;simp only[u3]<;>omega)
 .obtain⟨its,z,pl,hz⟩:=I.tuple D;obtain⟨o,ho,G,n,hd⟩:=pl;exact wpAny_collect_seq p (.inr rfl) ho G hd (λh' kp=>by have:=fin h' s.toks s.drawn its kp z;simpa using this) (by have:=z.length;simp only[u3]<;>omega)
 .refine St.nL (by first|exact hh|simpa using hh) (I.set D) λh' tk d' acc J kp U hi=>fin h' tk d' acc kp ?_
  have:J=ks:=by
   rw[FY]at Y
   match ks,Y,U with
   | [],_,U=>exact Perm.eq_nil U
   | [k],_,U=>exact perm_singleton.mp U
   | _::_::_,Y,_=>rw[length_cons,length_cons]at Y;omega
  subst this;exact sf hi
end
def Am(oe:Obj):Prop:=∃vs,oe.data=.fields vs/\vs[2]?=some .none
def gK(h:Heap)(e:Addr):Prop:=∃oe vs,h.get? e=some oe/\oe.data=.fields vs/\vs[2]?=some .none
def qN{h:Heap}{e:Addr}{oe:Obj}(c:gK h e)(D:h.get? e=some oe):Am oe:=by
 obtain⟨o,vs,z,G,J⟩:=c;rw[D]at z;cases z;exact⟨vs,G,J⟩
def fL(base:Heap)(l:List Env)(e:Addr)(cls a0 fl:Value)(h:Heap):Prop:=base.StaysIn h/\base.get? e=none/\h.FunFrames base l/\h.TracedAtW base e cls a0 fl
section
variable{M:Model}{A:Around}{E:Value->Shared->Prop}{s:Shared}{base:Heap}{e:Addr}{cls a0 fl:Value}{l:List Env}{Q:Unit->Shared->Prop}{env:Env}{outer:List Env}{L:Addr}{oe:Obj}{vs:Array Value}{head:Value}{nx:Bool}
def kj{f:Option Addr}(R:fL base l e cls a0 fl s.heap)(h:∀h' T,fL base l e cls a0 (f.elim Value.none λf=>rawInt f) h'->base.get? T=none->T∉frs l->(∃o ts,s.heap.get? T=some o/\o.data=.fields ts)->T≠e->(∀b,b≠T->h'.get? b=s.heap.get? b)->Q () { s with heap:=h' }) :
  wpAny M A (setFlight (.ref e) f) Q E s:=by
 obtain⟨aO,a1,hl,oe,vs,T,oT,ts,he,Y,hd,h1,J,U,hT,D,h3⟩:=R;have Z:3<ts.size:=(Hr.mp h3).1;have other:∀v b,b≠T->(s.heap.update T (Obj.mapFields (·.setIfInBounds 3 v))).get? b=s.heap.get? b:=λv b G=>Gn _ _ (GR G)
 have ne:∀b o,s.heap.get? b=some o->(∀ws,o.data≠.fields ws)->b≠T:=λb o G hn q=>by
  subst q;rw[hT]at G;cases G;exact hn ts D
 unfold setFlight;refine kx (Hi he hd h1 ?_);rw[if_pos (show(Value.ref T != Value.none)=true from by simp)];refine Hm hT D Z (h _ T ⟨λb o G=>(other _ b λq=>by rw[q,J]at G;cases G).trans (aO b o G),a1,hl.of_keeps λb o G hn=>⟨o,(other _ b (ne b o G hn)).trans G,rfl⟩,?_⟩ J (λz=>?_) ⟨_,_,hT,D⟩ U (other _))
 .exact⟨oe,vs,T,_,_,(other _ e (GR U)).trans he,Y,hd,h1,J,U,Ge _ hT (Obj.isFreed_of_fields (Ii D _)),Ii D _,by simp[Z]⟩
 .obtain⟨_,o,ho,hn⟩:=hl.mem z;exact ne T o ho hn rfl
def lT(aO:A.frames=some (env::outer))(hf:env.frame=some L)(hl:s.heap.FunFrames base (env::outer))(a1:base.StaysIn s.heap)(Y:base.get? e=none)(he:s.heap.get? e=some oe)(hd:oe.data=.fields vs)(h0:vs[0]?=some a0)(h2:vs[2]?=some .none)
  (h:∀h',fL base (env::outer) e oe.cls a0 (rawInt L) h'->gK h' e->s.heap.UpToSlots h'->Q () { s with heap:=h' }) :
  wpAny M A (do let a <- PySem.frameOf env;let pl <- entryPlaceOf L nx;let b <- EntryCells.newEntry head a .none (rawInt L) .none pl;setField (.ref e) 1 b) Q E s:=by
 have out:e∉(env::outer).filterMap (·.frame):=λz=>by
  obtain⟨_,o,ho,hn⟩:=hl.mem z;rw[he]at ho;cases ho;exact hn vs hd
 have sz:2<vs.size:=(Hr.mp h2).1;refine kx (wpAny_frameOf_fun aO hl hf λD G=>kx (wpAny_entryPlaceOf λpl hp=>?_));unfold EntryCells.newEntry newFields;refine kx (Gm ?_ (hp.sizeOk5 _ _ _ _ _));generalize hn:(([head,.ref L,.none,rawInt L,.none]++(if pl.isEmpty then replicate 6 Value.none else pl)).toArray:Array Value)=ts;have t3:ts[3]?=some (rawInt L):=by rw[<- hn];rfl
 have e1:D.get? e=some oe:=(G.2.1 e out).trans he;have ne:D.objs.size≠e:=GH (vl e1);have e2:=mu (h:=D) { cls:=.type "traceback",dict:=none,data:=.fields ts } e1;refine Hm e2 hd (by omega) (h _ ?_ ?_ λb o Z J=>?_)
 all_goals have U:=Ii hd (·.setIfInBounds 1 (Value.ref D.objs.size))
 all_goals have e3:=Ge (Obj.mapFields (·.setIfInBounds 1 (Value.ref D.objs.size))) e2 (Obj.isFreed_of_fields U)
 .have stay:∀b o,b≠e->D.get? b=some o->((D.push { cls:=.type "traceback",dict:=none,data:=.fields ts }).update e (Obj.mapFields (·.setIfInBounds 1 (Value.ref D.objs.size)))).get? b=some o:=λb o Z q =>
   (Gn _ _ (GR Z)).trans (mu _ q)
  have b1:base.StaysIn D:=λb o q=>(G.2.1 b λz=>by rw[(hl.mem z).1]at q;cases q).trans (a1 b o q)
  refine⟨λb o q=>stay b o (λz=>by rw[z,Y]at q;cases q) (b1 b o q),Y,hl.of_keeps λb o q J=>?_,⟨_,_,D.objs.size,_,ts,e3,⟨Obj.cls_mapFields _ _,by rw[HP (by decide)];exact h0⟩,U,by simp[show 1<vs.size from by omega],b1.fresh,ne,(Gn _ _ (GR ne)).trans (ro D rfl),rfl,t3⟩⟩;obtain⟨sl,q1⟩:=G.2.2 b o q;exact⟨_,stay b _ (λz=>by subst z;rw[he]at q;cases q;exact J vs hd) q1,rfl⟩
 .exact⟨_,_,e3,U,by rw[HP (by decide)];exact h2⟩
 .obtain⟨sl,q1⟩:=G.2.2 b o Z;have nb:b≠e:=λz=>by subst z;rw[he]at Z;cases Z;exact J vs hd
  exact⟨sl,(Gn _ _ (GR nb)).trans (mu _ q1)⟩
def uH(z:A.frames=some (env::outer))(J:env.frame=some L)(Y:s.heap.FunFrames base (env::outer))(D:base.StaysIn s.heap)(G:base.get? e=none)(U:s.heap.get? e=some oe)(hd:oe.data=.fields vs)(Z:vs[0]?=some a0)(h1:vs[1]?=some .none)(h2:vs[2]?=some .none)
  (h:∀h',fL base (env::outer) e oe.cls a0 (rawInt L) h'->gK h' e->s.heap.UpToSlots h'->Q () { s with heap:=h' }):wpAny M A (noteFrame (.ref e) env) Q E s:=by
 unfold noteFrame;simp only[J];refine kx (Hi U hd h1 ?_);rw[if_neg (by decide)];exact lT z J Y D G U hd Z h2 h
def km(Z:A.frames=some (env::outer))(hf:env.frame=some L)(R:fL base (env::outer) e cls a0 fl s.heap)(c:gK s.heap e)(h:∀h',fL base (env::outer) e cls a0 (rawInt L) h'->gK h' e->s.heap.UpToSlots h'->Q () { s with heap:=h' }):wpAny M A (noteFrame (.ref e) env) Q E s:=by
 obtain⟨oc,ws,c1,c2,c3⟩:=c;have R':=R;obtain⟨ap,aO,hl,oe,vs,T,oT,ts,Y,⟨U,h0⟩,hd,h1,a1,a2,hT,G,h3⟩:=R;rw[Y]at c1;cases c1;rw[hd]at c2;cases c2;by_cases q:fl=rawInt L
 .subst q;exact wpAny_noteFrame_againW hf R'.2.2.2 (h s.heap R' ⟨_,_,Y,hd,c3⟩ (.refl _))
 .subst U;have other:∀v b,b≠T->(s.heap.update T (Obj.mapFields (·.setIfInBounds 3 v))).get? b=s.heap.get? b:=λv b D=>Gn _ _ (GR D)
  have ne:∀b o,s.heap.get? b=some o->(∀ws,o.data≠.fields ws)->b≠T:=λb o D J z=>by
   subst z;rw[hT]at D;cases D;exact J ts G
  unfold noteFrame;simp only[hf];refine kx (Hi Y hd h1 ?_);rw[if_pos (show(Value.ref T != Value.none)=true from by simp)];refine kx (Hi hT G h3 ?_);rw[if_neg (by simpa using q)];refine kx (Hm hT G (Hr.mp h3).1 ?_);exact lT Z hf (hl.of_keeps λb o D J=>⟨o,(other _ b (ne b o D J)).trans D,rfl⟩) (λb o D=>(other _ b λz=>by rw[z,a1]at D;cases D).trans (ap b o D)) aO ((other _ e (GR a2)).trans Y) hd h0 c3
   λh' R2 C2 up=>h h' R2 C2 λb o D J=>up b o ((other _ b (ne b o D J)).trans D) J
def g_(R:fL base l e cls a0 fl s.heap)(c:gK s.heap e)(h:∀h',Heap.FlyingW base l e cls a0 h'->gK h' e->s.heap.UpToSlots h'->Q () { s with heap:=h' }):wpAny M A (setFlight (.ref e) none) Q E s:=by
 obtain⟨oe,vs,c1,c2,c3⟩:=c;refine kj (f:=none) R λh' T R2 _ _ J ne k=>h h' R2 ⟨oe,vs,(k e (GR ne)).trans c1,c2,c3⟩ λb o D U=>⟨o.slots,(k b λz=>?_).trans D⟩
 obtain⟨Z,ts,G,Y⟩:=J;subst z;rw[D]at G;cases G;exact U ts Y
def lU(z:A.frames=some (env::outer))(G:env.frame=some L)(R:fL base (env::outer) e cls a0 fl s.heap)(c:gK s.heap e)(h:∀h',Heap.FlyingW base outer e cls a0 h'->gK h' e->s.heap.UpToSlots h'->Q () { s with heap:=h' }):wpAny M A (leaving env (.ref e)) Q E s:=by
 unfold leaving;refine kx (km z G R c λh2 R2 J U=>g_ (s:={ s with heap:=h2 }) R2 J λY Z C3 D=>h Y ?_ C3 (U.trans D));obtain⟨k1,k2,k3,k4⟩:=Z;exact⟨k1,k2,k3.2.2,k4⟩
def sh(z:A.frames=some (env::outer))(U:env.frame=some L)(Y:s.heap.FunFrames base (env::outer))(D:base.StaysIn s.heap)(G:base.get? e=none)(Z:s.heap.get? e=some oe)(hd:oe.data=.fields vs)(h0:vs[0]?=some a0)(h1:vs[1]?=some .none)(h2:vs[2]?=some .none)
  (h:∀h',Heap.FlyingW base outer e oe.cls a0 h'->gK h' e->s.heap.UpToSlots h'->Q () { s with heap:=h' }):wpAny M A (leaving env (.ref e)) Q E s:=by
 unfold leaving;refine kx (uH z U Y D G Z hd h0 h1 h2 λh2 R2 C2 up=>g_ (s:={ s with heap:=h2 }) R2 C2 λh3 R3 C3 J=>h h3 ?_ C3 (up.trans J));obtain⟨k1,k2,k3,k4⟩:=R3;exact⟨k1,k2,k3.2.2,k4⟩
end
noncomputable abbrev bmV:List Value:=[.type "ValueError",.type "Exception",.type "BaseException",.type "object"]
noncomputable def fM(K:IF)(C:Addr)(ms:List Value):Bool:=match K.lookup C with
 | some ⟨.type "type",_,.cls cd,z⟩=>(match z.toList with
  | [_,_,_,_,some (.builtin n),_]=>cd.mro==.ref C::ms&&n == "ValueError.__new__"&&!cd.hasDel&&PySem.W.tailIn K bmV ms&&PySem.W.nsOkIn K cd.ns&&PySem.W.nsIn K cd.ns "__init__" == some none
  | _=>false)
 | _=>false
structure uI(h:Heap)(C:Addr)(ms:List Value):Prop where
 obj:∃N nm q bs hdct sn sub ab col dd k0 k1 k2 k3 k5 mN,h.get? C=some (excClassObj nm q C N bs ms hdct sn sub ab col dd k0 k1 k2 k3 k5 "ValueError.__new__")/\h.Ns N mN/\mN "__init__"=none
 tail:OwnTail h bmV ms
def pR{K:IF}{h:Heap}{C:Addr}{ms:List Value}(X:K.In h)(e:fM K C ms=true):uI h C ms:=by
 unfold fM at e;split at e
 .rename_i dd G J U;split at e
  .rename_i k0 k1 k2 k3 n k5 hs;simp only[n4,FW,F2]at e;obtain⟨⟨⟨⟨⟨Y,rfl⟩,Z⟩,e4⟩,D⟩,e6⟩:=e;obtain⟨nm,bs,mro,ns,qn,hd,sn,sub,ab,col,z⟩:=G;obtain rfl:mro=.ref C::ms:=Y;obtain rfl:z=false:=Z;obtain⟨l⟩:=J;obtain rfl:l=_:=hs;exact⟨⟨ns,nm,qn,bs,hd,sn,sub,ab,col,dd,k0,k1,k2,k3,k5,_,X _ _ U,.of_isNs (PySem.W.isNs_of_in X D),PySem.W.nsMap_none_of_in X D e6⟩,PySem.W.tail_of_in X e4⟩
  .cases e
 .cases e
section
variable{X:Cx}{x:Str}{C:Addr}{ms:List Value}{np cpos pos p1:Pos}{tx:Str}
noncomputable def An(X:Cx)(C:Addr):TS:=λ_ σ H=>∀pins s h' ea vs,Inv X pins σ H s->Heap.MadeExcOf s.heap h' ea (.ref C) vs->X.xe (.ref ea) { s with heap:=h' }
def uJ {j:Nat} (hc:X.calm=true) (hg:Gl X x) (hm:X.mg x=some (.ref C)) (he:fM X.K C ms=true) (hd:(x==("__debug__":Str))=false):PS X (.Raise (some (.Call (.Name x np) [.Constant (.str tx) j p1] [] cpos)) none pos) (An X C):=by
 intro pins s σ H D I h;obtain⟨⟨N,nm,q,bs,hdct,sn,sub,ab,col,dd,k0,k1,k2,k3,k5,mN,hC,hN,J⟩,Y⟩:=pR I.mod.kin he;refine wpAny_Raise_call_subT (C:=C) (nm:=nm) (q:=q) (N:=N) (bs:=bs) (bm:=ms) (hdct:=hdct) (sn:=sn) (sub:=sub) (ab:=ab) (col:=col) (dd:=dd) (k0:=k0) (k1:=k1) (k2:=k2) (k3:=k3) (k5:=k5)
  PySem.F.excBase_ValueError (mN:=mN) (Y.hasType PySem.F.excBase_ValueError.hasBase) (I.ok.hd hc) rfl J (d9 I hg hm ⟨rfl,?_⟩ hd)
 have U:PA X [.Constant (.str tx) j p1] (tV (tC (.str tx)) tU):=aI jR bn;have hs:starEach [Expr.Constant (.str tx) j p1] X.env=(false,eval (.Constant (.str tx) j p1) X.env)::starEach [] X.env:=rfl;have Z:=U cpos pins s σ H (λvs H1=>vs.length=1/\H1=H) I ⟨rfl,rfl⟩;rw[hs]at Z ⊢;refine Calls.evalArgs_plain (F8 Z (λus z ⟨vs,H1,G,r,hl,hH⟩=>?_) λ_ _ y=>y);subst hH;refine⟨rfl,?_,G.bk _ _ hC,hN.keeps G.bk,Y.keeps G.bk,λh' ea hx=>h pins z h' ea us G hx⟩;show us.length<=sizeLine;rw[<- r.length,hl]
 decide
end
def bN.there{P:Program}{w:World}{H:Hp}{h:Heap}{a:Addr}{o:HO}(x:bN P w H h a o):∃u,h.get? a=some u:=by
 cases o<;>first
  | exact⟨_,(show h.get? a=some _ from x)⟩
  | (obtain⟨_,e⟩:=x;exact⟨_,e⟩)
  | (obtain⟨e,_⟩:=x;exact⟨_,e⟩)
  | (obtain⟨_,_,_,e⟩:=x;exact⟨_,e⟩)
  | (obtain⟨_,_,_,_,e⟩:=x;exact⟨_,e⟩)
  | (obtain⟨_,_,_,e,_⟩:=x;exact⟨_,e⟩)
  | (obtain⟨_,⟨_,e⟩,_⟩:=x;exact⟨_,e⟩)
  | (obtain⟨_,_,_,_,e,_⟩:=x;exact⟨_,e⟩)
  | (obtain⟨_,⟨_,_,_,e,_⟩,_⟩:=x;exact⟨_,e⟩)
  | (obtain⟨_,_,_,_,_,_,_,e,_⟩:=x;exact⟨_,e⟩)
structure bO(P:Program)(w:World)(outer:List Env)(H:Hp)(s:Shared)(ea C:Addr)(H':Hp)(s':Shared):Prop where
 os:s'.os=s.os
 bare:AllBare s'.gens
 un:Un (frs outer) [] H H' s.heap s'.heap
 hok:HOk P w H' s'.heap
 fly:∃B a0,Heap.FlyingW B outer ea (.ref C) a0 s'.heap/\(∀b o,s'.heap.get? b=some o->B.get? b=some o\/b∈frs outer\/(s.heap.get? b=none/\H' b=none))
 new:s.heap.get? ea=none/\H' ea=none
 ctx:gK s'.heap ea
noncomputable def CXE(P:Program)(w:World):CXT:=λouter H s E e s'=>∃ea C H',e=.ref ea/\bO P w outer H s ea C H' s'/\E (.ref C) none H'
theorem dH{h b D:Heap}:∀{l:List Env},h.FunFrames b l->(∀a∈frs l,D.get? a=none)->h.FunFrames D l
 | [],_,_=>trivial
 |env::l,⟨G,⟨L,o,hf,_,J,hd⟩,U⟩,z=>by
  have e:frs (env::l)=L::frs l:=by unfold frs;rw[filterMap_cons,hf]
  rw[e]at z;exact⟨G,⟨L,o,hf,z L (.head _),J,hd⟩,dH U λa Y=>z a (.tail _ Y)⟩
theorem HOk.but{P:Program}{w:World}{H:Hp}{h h':Heap}{fs:List Addr}(x:HOk P w H h)(k:∀b u,b∉fs->h.get? b=some u->h'.get? b=some u)(G:∀b∈fs,H b=none):HOk P w H h':=λa o e =>
 (x a o e).stay (λb u D q=>k b u (λz=>by
  rcases D with rfl|D
  .rw[G b z]at e;cases e
  .rw[G b z]at D;cases D) q) (λ_ q=>q) λ_ _ q=>q
section
variable{X:Cx}{pins:List (Addr×Obj)}{σ:St}{H:Hp}{s:Shared}{C ea:Addr}{h':Heap}{vs:List Value}
def si(z:X.stack=X.env::X.outer)(D:X.env.frame=some X.env.locals):frs X.stack=X.env.locals::X.fs:=by rw[z];unfold frs Cx.fs frs;rw[filterMap_cons,D]
def iP{B h2:Heap}{a0:Value}(I:Inv X pins σ H s)(Z:X.stack=X.env::X.outer)(hf:X.env.frame=some X.env.locals)(ao:X.ex=[])(fl:Heap.FlyingW B X.outer ea (.ref C) a0 h2)
  (U:∀b o,s.heap.get? b=some o->B.get? b=some o\/b∈frs X.stack\/(X.s₀.heap.get? b=none/\H b=none)) (slot:∀b o,b∈frs X.stack->s.heap.get? b=some o->∃sl,h2.get? b=some { o with slots:=sl }) (e0:X.s₀.heap.get? ea=none/\H ea=none)
  (cx:gK h2 ea)
 :bO X.prog X.w X.outer X.H₀ X.s₀ ea C H { s with heap:=h2 }:=by
 have G:=si Z hf;have keep:∀b o,b∉frs X.stack->(X.s₀.heap.get? b≠none\/H b≠none)->s.heap.get? b=some o->h2.get? b=some o:=λb o D hn e=>by
  rcases U b o e with z|z|⟨z1,z2⟩
  .exact fl.1 b o z
  .exact absurd z D
  .exact(hn.elim (λq=>q z1) λq=>q z2).elim
 have old:∀b o,X.s₀.heap.get? b=some o->b≠X.env.locals:=λb o e z=>by
  rw[z]at e;exact absurd (FU (vl e) I.ok.above) (Gk _)
 have out:∀b o,X.s₀.heap.get? b=some o->b∉X.fs->b∉frs X.stack:=λb o e D z=>by
  rw[G]at z;rcases y1.mp z with z|z
  .exact old b o e z
  .exact D z
 have nx:∀b:Addr,b∉X.ex:=λb=>by rw[ao];simp
 refine⟨I.os,I.bare,⟨λb o e n D _=>keep b o (out b o e D) (.inl (by rw[e];simp)) (I.base.keep b o e n D (nx b)),λb o e n D _=>?_,λb o e n _=>I.base.free b o e n (nx b),λb o e _=>?_,I.base.tups,I.base.frzs,I.base.tbls⟩,
  λa o e=>(I.hok a o e).stay (λb u D q=>keep b u (λz=>?_) (.inr ?_) q) (λ_ q=>q) λ_ _ q=>q,⟨B,a0,fl,λb o e=>?_⟩,e0
  ,cx
  ⟩
 .obtain⟨sl,Y⟩:=I.base.slot b o e n D (nx b);obtain⟨aO,J⟩:=slot b _ (by rw[G];exact .tail _ D) Y;exact⟨aO,J⟩
 .obtain⟨o',Y⟩:=I.base.there b o e (nx b);by_cases D:b∈frs X.stack
  .obtain⟨sl,q⟩:=slot b o' D Y;exact⟨_,q⟩
  .exact⟨o',keep b o' D (.inl (by rw[e];simp)) Y⟩
 .have n:=I.stkFree b z;rcases D with rfl|D
  .rw[n]at e;cases e
  .rw[n]at D;cases D
 .rcases D with rfl|D
  .rw[e];simp
  .rw[D];simp
 .have e:h2.get? b=some o:=e;cases q:B.get? b with
  |some o' =>
   have:=fl.1 b o' q;rw[e]at this;exact .inl this.symm
  |none =>
   by_cases D:b∈frs X.stack
   .rw[G]at D;rcases y1.mp D with rfl|D
    .refine .inr (.inr ⟨?_,I.free⟩);cases q:X.s₀.heap.get? X.env.locals with
     |none=>rfl
     |some o'=>exact absurd rfl (old _ o' q)
    .exact .inr (.inl D)
   .refine .inr (.inr ?_);cases q':s.heap.get? b with
    |some o' =>
     rcases U b o' q' with z|z|z
     .rw[q]at z;cases z
     .exact absurd z D
     .exact z
    |none =>
     constructor
     .cases z:X.s₀.heap.get? b with
      |none=>rfl
      |some o' =>
       obtain⟨o2,J⟩:=I.base.there b o' z (nx b);rw[q']at J;cases J
     .cases z:H b with
      |none=>rfl
      |some u =>
       obtain⟨o2,J⟩:=(I.hok b u z).there;rw[q']at J;cases J
theorem Inv.gone{b:Addr}(I:Inv X pins σ H s)(z:X.ex=[])(e:s.heap.get? b=none):X.s₀.heap.get? b=none:=by
 cases q:X.s₀.heap.get? b with
 |none=>rfl
 |some o =>
  obtain⟨o',e'⟩:=I.base.there b o q (by rw[z];simp);rw[e]at e';cases e'
def kn{M:Model}{Q:Unit->Shared->Prop}{E:Value->Shared->Prop}(I:Inv X pins σ H s)(D:X.stack=X.env::X.outer)(Y:X.env.frame=some X.env.locals)(G:X.ex=[])(hx:Heap.MadeExcOf s.heap h' ea (.ref C) vs)
  (k:∀s',bO X.prog X.w X.outer X.H₀ X.s₀ ea C H s'->Q () s'):wpAny M X.A (leaving X.env (.ref ea)) Q E { s with heap:=h' }:=by
 have Z:∀b o,(PySem.W.hideAll s.heap (frs X.stack)).get? b=some o->s.heap.get? b=some o:=λb o e=>PySem.W.of_hideAll _ e
 have U:=I.stack;have fu:s.heap.FunFrames (PySem.W.hideAll s.heap (frs X.stack)) (X.env::X.outer):=D▸dH I.stack λb z=>PySem.W.hideAll_none _ z
 have hn:H ea=none:=by
  cases q:H ea with
  |none=>rfl
  |some o =>
   obtain⟨u,e⟩:=(I.hok ea o q).there;rw[hx.new]at e;cases e
 obtain⟨t,he,a1,ht⟩:=hx.there;have fresh:∀b,s.heap.get? b=none->(PySem.W.hideAll s.heap (frs X.stack)).get? b=none:=λb z=>by
  cases q:(PySem.W.hideAll s.heap (frs X.stack)).get? b with
  |none=>rfl
  |some o=>have:=Z b o q;rw[z]at this;cases this
 refine sh (s:={ s with heap:=h' }) (base:=PySem.W.hideAll s.heap (frs X.stack)) (outer:=X.outer) (a0:=.ref t) (by rw[I.ok.frames,D]) Y (fu.of_keeps λb o z _=>⟨o,hx.keeps b o z,rfl⟩) (λb o z=>hx.keeps b o (Z b o z)) (fresh ea hx.new) he rfl rfl rfl rfl λh2 fl cx up=>k _ (iP (s:=s) I D Y G fl (λb o e=>?_) (λb o z e=>?_) ⟨I.gone G hx.new,hn⟩ cx)
 .by_cases z:b∈frs X.stack
  .exact .inr (.inl z)
  .exact .inl (PySem.W.hideAll_get _ e z)
 .obtain⟨_,o',J,hd⟩:=U.mem z;rw[e]at J;cases J;exact up b o (hx.keeps b o e) hd
end
section
variable{P:Program}{w:World}{outer:List Env}{H H':Hp}{s s':Shared}{ea C:Addr}
theorem bO.on{B:Heap}{a0:Value}{h2:Heap}(F:bO P w outer H s ea C H' s')(fn:s'.heap.FunFrames B outer)(hB:∀b o,s'.heap.get? b=some o->B.get? b=some o\/b∈frs outer\/(s.heap.get? b=none/\H' b=none))
  (fl:Heap.FlyingW B outer ea (.ref C) a0 h2) (up:s'.heap.UpToSlots h2) (hf:∀b∈frs outer,H' b=none) (h0:∀b∈frs outer,H b=none)
  (cx:gK h2 ea)
 :bO P w outer H s ea C H' { s' with heap:=h2 }:=by
 have tr:∀b u,H' b=some u->∃o,s'.heap.get? b=some o:=λb u e=>(F.hok b u e).there
 have keep:∀b o,b∉frs outer->(H' b≠none\/s.heap.get? b≠none)->s'.heap.get? b=some o->h2.get? b=some o:=λb o D hn e=>by
  rcases hB b o e with z|z|⟨z1,z2⟩
  .exact fl.1 b o z
  .exact absurd z D
  .exact(hn.elim (λq=>q z2) λq=>q z1).elim
 have slot:∀b o,b∈frs outer->s'.heap.get? b=some o->∃Y,h2.get? b=some { o with slots:=Y }:=λb o D e=>by
  obtain⟨_,o',J,hd⟩:=fn.mem D;rw[e]at J;cases J;exact up b o e hd
 refine⟨F.os,F.bare,⟨λb o e n D hx=>keep b o D (.inr (by rw[e];simp)) (F.un.keep b o e n D hx),λb o e n D hx=>?_,F.un.free,λb o e hx=>?_,F.un.tups,F.un.frzs,F.un.tbls⟩,
  λa o e=>(F.hok a o e).stay (λb u D q=>keep b u (λz=>?_) (.inl ?_) q) (λ_ q=>q) λ_ _ q=>q,⟨B,a0,fl,λb o e=>?_⟩,F.new
  ,cx
  ⟩
 .obtain⟨Y,U⟩:=F.un.slot b o e n D hx;obtain⟨Z,G⟩:=slot b _ D U;exact⟨Z,G⟩
 .obtain⟨o',U⟩:=F.un.there b o e hx;by_cases D:b∈frs outer
  .obtain⟨Y,G⟩:=slot b o' D U;exact⟨_,G⟩
  .exact⟨o',keep b o' D (.inr (by rw[e];simp)) U⟩
 .rcases D with rfl|D
  .rw[hf b z]at e;cases e
  .rw[hf b z]at D;cases D
 .rcases D with rfl|D
  .rw[e];simp
  .rw[D];simp
 .have e:h2.get? b=some o:=e;cases q:B.get? b with
  |some o' =>
   have:=fl.1 b o' q;rw[e]at this;exact .inl this.symm
  |none =>
   by_cases D:b∈frs outer
   .exact .inr (.inl D)
   .refine .inr (.inr ?_);cases q':s'.heap.get? b with
    |some o' =>
     rcases hB b o' q' with z|z|z
     .rw[q]at z;cases z
     .exact absurd z D
     .exact z
    |none =>
     constructor
     .cases z:s.heap.get? b with
      |none=>rfl
      |some o' =>
       obtain⟨o2,G⟩:=F.un.there b o' z (by simp);rw[q']at G;cases G
     .cases z:H' b with
      |none=>rfl
      |some u =>
       obtain⟨o2,G⟩:=tr b u z;rw[q']at G;cases G
end
section
variable{X:Cx}{pins:List (Addr×Obj)}{σ:St}{H H':Hp}{s s':Shared}{ea C:Addr}
def Inv.caught(I:Inv X pins σ H s)(F:bO X.prog X.w X.stack H s ea C H' s'):Inv X pins σ H' s':=I.call' F.os F.un F.hok F.bare λb z=>absurd z (by simp)
def bO.next{h2:Heap}{B:Heap}{a0:Value}(I:Inv X pins σ H s)(F:bO X.prog X.w X.stack H s ea C H' s')(z:∀b o,s'.heap.get? b=some o->B.get? b=some o\/b∈frs X.stack\/(s.heap.get? b=none/\H' b=none))
  (D:s'.heap.FunFrames B X.stack) (fl:Heap.FlyingW B X.stack ea (.ref C) a0 h2) (G:s'.heap.UpToSlots h2)
  (J:gK h2 ea)
 :bO X.prog X.w X.stack H s ea C H' { s' with heap:=h2 }:=
 F.on D z fl G (I.caught F).stkFree I.stkFree J
def lV{M:Model}{Q:Unit->Shared->Prop}{E:Value->Shared->Prop}(I:Inv X pins σ H s)(D:X.stack=X.env::X.outer)(Z:X.env.frame=some X.env.locals)(G:X.ex=[])(F:bO X.prog X.w X.stack H s ea C H' s')
  (k:∀s2,bO X.prog X.w X.outer X.H₀ X.s₀ ea C H' s2->Q () s2):wpAny M X.A (leaving X.env (.ref ea)) Q E s':=by
 obtain⟨B,a0,fl,hB⟩:=F.fly;have J:=I.caught F;have Y:Heap.FlyingW B (X.env::X.outer) ea (.ref C) a0 s'.heap:=D▸fl;refine lU (outer:=X.outer) (fl:=.none) (by rw[I.ok.frames,D]) Z Y F.ctx λh2 fl2 cx up=>k _ (iP (s:=s') J D Z G fl2 (λb o e=>?_) (λb o hb e=>?_) ⟨I.gone G F.new.1,F.new.2⟩ cx)
 .rcases hB b o e with z|z|z
  .exact .inl z
  .exact .inr (.inl z)
  .exact .inr (.inr ⟨I.gone G z.1,z.2⟩)
 .obtain⟨_,o',U,hd⟩:=J.stack.mem hb;rw[e]at U;cases U;exact up b o e hd
def nU{M:Model}{Q:Flow->Shared->Prop}{E:Value->Shared->Prop}{hs:List ExceptHandler}(I:Inv X pins σ H s)(z:X.stack=X.env::X.outer)(hf:X.env.frame=some X.env.locals)(F:bO X.prog X.w X.stack H s ea C H' s')
  (k:∀s3,bO X.prog X.w X.stack H s ea C H' s3->wpAny M X.A (handleBy (.ref ea) X.env hs) Q E s3) :
  wpAny M X.A (noteFrame (.ref ea) X.env) (λ_ D=>wpAny M X.A (setFlight (.ref ea) none) (λ_ G=>wpAny M X.A (handleBy (.ref ea) X.env hs) Q E G) E D) E s':=by
 obtain⟨B,a0,fl,hB⟩:=F.fly;have J:Heap.FlyingW B (X.env::X.outer) ea (.ref C) a0 s'.heap:=z▸fl;refine km (outer:=X.outer) (fl:=.none) (by rw[I.ok.frames,z]) hf J F.ctx λh2 he cx up=>?_
 refine g_ (s:={ s' with heap:=h2 }) he cx λh3 U Y Z=>k _ ?_
 exact bO.next (s':=s') I F hB fl.2.2.1 (z▸U) (up.trans Z) Y
def jf{M:Model}{A:Around}{Q:Unit->Shared->Prop}{E:Value->Shared->Prop}(I:Inv X pins σ H s)(F:bO X.prog X.w X.stack H s ea C H' s')(k:∀s3,bO X.prog X.w X.stack H s ea C H' s3->Q () s3):wpAny M A (setFlight (.ref ea) none) Q E s':=by
 obtain⟨B,a0,fl,G⟩:=F.fly;exact g_ (fl:=.none) fl F.ctx λU z J D=>k _ (bO.next I F G fl.2.2.1 z D J)
noncomputable abbrev Cx.within(X:Cx)(ea:Addr)(oe:Obj):Cx:={ X with A:=X.A.mark (some (.ref ea)),calm:=false,xe:=λ_ _=>False,pn:=(ea,oe)::X.pn }
theorem Inv.within{oe:Obj}(I:Inv X pins σ H s)(h1:s.heap.get? ea=some oe)(h2:H ea=none)(G:ea≠X.env.locals)(J:ea∉X.fs)(U:∀v,oe.data≠.cell v):Inv (X.within ea oe) pins σ H s:=
 ⟨⟨I.ok.mod,I.ok.kind,I.ok.glob,I.ok.blt,I.ok.above,I.ok.inj,I.ok.has,I.ok.cab,λz=>(by cases z),I.ok.frames,I.ok.stk,I.ok.exf,I.ok.bs,I.ok.bsz,I.ok.noex,I.ok.exfs,I.ok.funs,I.ok.frf⟩,
  I.os,I.bare,I.base,I.loc,I.cell,I.free,I.freeC,λp D=>(y1.mp D).elim (λe=>by subst e;exact⟨h1,h2,G,J,U⟩) λD=>I.pin p D,I.hok,I.len⟩
def Inv.without{oe:Obj}(ok:X.Ok)(I:Inv (X.within ea oe) pins σ H s):Inv X pins σ H s:=⟨ok,I.os,I.bare,I.base,I.loc,I.cell,I.free,I.freeC,λp z=>I.pin p (.tail _ z),I.hok,I.len⟩
theorem SP.without{oe:Obj}{D:nt}{f:Flow}{s':Shared}(ok:X.Ok)(h:SP (X.within ea oe) pins D f s'):SP X pins D f s':=by
 cases f with
 |next=>obtain⟨M,H',I,q⟩:=h;exact⟨M,H',I.without ok,q⟩
 |brk=>obtain⟨M,H',I,q⟩:=h;exact⟨M,H',I.without ok,q⟩
 |cont=>obtain⟨M,H',I,q⟩:=h;exact⟨M,H',I.without ok,q⟩
 |ret u=>obtain⟨v,M,H',I,r,q⟩:=h;exact⟨v,M,H',I.without ok,r,q⟩
theorem bO.obj(I:Inv X pins σ H s)(F:bO X.prog X.w X.stack H s ea C H' s'):∃oe,s'.heap.get? ea=some oe/\oe.cls=.ref C/\ea≠X.env.locals/\ea∉X.fs/\∀v,oe.data≠.cell v:=by
 obtain⟨B,a0,fl,Y⟩:=F.fly;obtain⟨oe,vs,e,G,J,_⟩:=fl.first;obtain⟨m,⟨Z,_,_,U,_⟩,_⟩:=I.loc;refine⟨oe,e,G,λz=>?_,λz=>?_,λv q=>?_⟩
 .have:=F.new.1;rw[z,U]at this;cases this
 .obtain⟨_,o,D,_⟩:=I.funs.mem z;rw[F.new.1]at D;cases D
 .rw[J]at q;cases q
def nV{M:Model}{A:Around}{E:Value->Shared->Prop}{Q:Bool->Shared->Prop}{D:Addr}{oe:Obj}{ms ds:List Value}{h:Heap}{g:Array GenState}{d:Drawn}{t:Nat}{os:OsState}(c1:uI h C ms)(c2:uI h D ds)(Z:h.get? ea=some oe)(hc:oe.cls=.ref C)
  (G:Q ((Value.ref C::ms).contains (.ref D)) ⟨h,g,d,t,os⟩):wpAny M A (excMatches (.ref ea) (.ref D)) Q E ⟨h,g,d,t,os⟩:=by
 obtain⟨⟨N,nm,q,bs,hdct,sn,sub,ab,col,dd,k0,k1,k2,k3,k5,mN,hC,hN,ap⟩,TL⟩:=c1;obtain⟨⟨N',aO,q',a1,z,a2,J,a3,U,a4,a5,a6,a7,be,bj,bp,Y,_,_⟩,TD⟩:=c2;have hB:(Value.ref D::ds).contains (.type "BaseException")=true:=by rw[contains_cons,TD.hasType PySem.F.excBase_ValueError.hasBase,Bool.or_true]
 have f:=tc_notTuple;unfold excMatches;generalize hb:(Value.ref C::ms).contains (Value.ref D)=b at G;cases b <;>
 .repeat (first|(with_reducible refine wpAny_loadPart_at Z ?_;rw[hc])|with_reducible refine wpAny_loadPart_at Y ?_|(with_reducible refine wpAny_isSubtype_exc Y ?_;rw[hB])|(with_reducible refine wpAny_isSubtype_exc hC ?_;rw[hb])|wp_step)
  exact G
end
noncomputable abbrev TX:=St->Hp->VK->XK->Prop
def PX(X:Cx)(e:Expr)(t:TX):Prop:=∀(pins:List (Addr×Obj)) (s:Shared) (σ:St) (H:Hp) (Q:VK) (E:XK) (z:Value->Shared->Prop),Inv X pins σ H s->t σ H Q E ->
 (∀H1 s1 er s',Inv X pins σ H1 s1->CXE X.prog X.w X.stack H1 s1 E er s'->z er s')->wpAny (model X.prog X.w) X.A (eval e X.env) (EP X pins σ Q) z s
def PH(X:Cx)(hs:List ExceptHandler)(t:Addr->TS):Prop:=∀(pins:List (Addr×Obj)) (σ:St) (H:Hp) (s:Shared) (ea C:Addr) (H':Hp) (s':Shared) (D:nt),Inv X pins σ H s->bO X.prog X.w X.stack H s ea C H' s'->t C D σ H' ->
 wpAny (model X.prog X.w) X.A (handleBy (.ref ea) X.env hs) (SP X pins D) X.xe s'
section
variable{X:Cx}{k:Nat}{f:Addr}{fd:FuncData}{ps:List Str}{sp:Sp}{x:Str}{p pos:Pos}{e:Expr}{es:List Expr}{t:TA}
noncomputable def iQ(sp:Sp)(t:TA):TX:=λσ H Q E=>t σ H λvs H1=>sp vs H1 Q E
def xp{pins:List (Addr×Obj)}{σ:St}{H:Hp}{s:Shared}{Q:VK}{E:XK}{G:Value->Shared->Prop}{us:List Value}{vs:List V}(F:b9 X.prog X.w X.K X.mg X.base (CXE X.prog X.w) k f fd ps sp)(U:cI k X.A)(Y:bb X.K fd ps [])(J:Inv X pins σ H s)(r:aA vs us)(q:sp vs H Q E)
  (hx:∀H1 s1 er s',Inv X pins σ H1 s1->CXE X.prog X.w X.stack H1 s1 E er s'->G er s'):wpAny (model X.prog X.w) X.A (call (.ref f) us) (EP X pins σ Q) G s:=by
 have Z:us.length=ps.length:=by rw[<- r.length];exact F.len _ _ _ _ q
 have r2:aA vs (us++[]):=by rw[Gj];exact r
 have D:=Y s us J.kIn (by rw[Gj];exact Z);refine wpAny_call (G4 (F.run X.A X.stack s H ⟨us,[]⟩ (us++[]) vs Q E U J.env0 D r2 q) λr s' z=>?_);cases r with
 |error er=>exact hx H s er s' J z
 |ok fl =>
  cases fl with
  |ret u=>exact J.after z
  |next=>exact False.elim z
  |brk=>exact False.elim z
  |cont=>exact False.elim z
def qO(F:b9 X.prog X.w X.K X.mg X.base (CXE X.prog X.w) k f fd ps sp)(U:cI k X.A)(Y:Gl X x)(Z:X.mg x=some (.ref f))(hk:PySem.W.keepIn X.K (.ref f)=true)(hb:bb X.K fd ps [])(ha:PA X.nox (e::es) t)
  (D:(x==("__debug__":Str))=false) (he:starEach (e::es) X.env=(false,eval e X.env)::starEach es X.env) (G:(backTo pos (starEach es X.env)).any (·.1)=false):PX X (.Call (.Name x p) (e::es) [] pos) (iQ sp t):=by
 intro pins s σ H Q E Ex I h hx;refine GN (d9 I Y Z ?_ D);refine PySem.W.callWith_K (h₀:=X.base) I.ok.mod.kin hk (F8 (ha pos pins s σ H _ (I.wish _) h) (λus s1 ⟨vs,H1,I1,r,q⟩=>?_) λ_ _ z=>z.elim) he G;have J:Inv X pins σ H1 s1:=I1.unwish;exact⟨J.kIn,xp F U hb J r q hx⟩
variable{te:TX}{th:Addr->TS}{h₀:ExceptHandler}{hs:List ExceptHandler}
noncomputable def Fn(te:TX)(th:Addr->TS):TS:=λD σ H=>te σ H (λ_ H1=>D.nx σ H1) λc _ H1=>∃C,c=.ref C/\th C D σ H1
def Ao(J:X.stack=X.env::X.outer)(U:X.env.frame=some X.env.locals)(Y:PX X e te)(hh:PH X (h₀::hs) th)(hw:swapsWith e none p.line X.env=pure false):PS X (.Try [.Expr e p] (h₀::hs) [] [] pos) (Fn te th):=by
 intro pins s σ H D I h;refine wpAny_Try_except (HK (wpAny_Expr_any (F8 (Y pins s σ H _ _ _ I h λH1 s1 er s' G hx=>?_) (λv s1 ⟨y,H1,G,r1,Z⟩=>?_) λ_ _ z=>z) I.quiet hw))
 .obtain⟨ea,C,H',rfl,F,C',e',q⟩:=hx;cases e';exact nU G J U F λs3 F3=>hh pins σ H1 s1 ea C H' s3 D G F3 q
 .exact G7 (G7 ⟨σ,H1,G,Z⟩)
noncomputable def CT(i:Nat)(te:TX)(th:Addr->TS):TS:=λD σ H=>te σ H (λv H1=>D.nx (σ.set i (some v)) H1) λc _ H1=>∃C,c=.ref C/\th C D σ H1
def xq{i:Nat}{y:Str}{Y:Pos}(J:X.stack=X.env::X.outer)(Z:X.env.frame=some X.env.locals)(hN:X.N.Nodup)(hi:X.N[i]?=some y)(hy:Loc X.env.scope y)(U:X.fn y=true\/X.env.scope.names.lookup y=some .local)(he:PX X e te)(hh:PH X (h₀::hs) th)
  (hw:swapsWith e (some (.Name y Y)) p.line X.env=pure false):PS X (.Try [.Assign [.Name y Y] e p] (h₀::hs) [] [] pos) (CT i te th):=by
 intro pins s σ H D I h;refine wpAny_Try_except (HK (wpAny_Assign_Name (F8 (he pins s σ H _ _ _ I h λH1 s1 er s' G hx=>?_) (λv s1 ⟨z,H1,G,r1,q1⟩=>?_) λ_ _ z=>z) hw))
 .obtain⟨ea,C,H',rfl,F,C',e',q⟩:=hx;cases e';exact nU G J Z F λs3 F3=>hh pins σ H1 s1 ea C H' s3 D G F3 q
 .exact gY G hN hi hy r1 (λs2 I2=>G7 (G7 ⟨_,H1,I2,q1⟩)) U
end
section
variable{X:Cx}{x:Str}{Dc:Addr}{ds:List Value}{np pos:Pos}{b₀:Stmt}{suite:List Stmt}{bz:List ExceptHandler}{ts:Addr->Addr->Obj->TS}{tr:Addr->TS}
noncomputable def yU(K:IF)(Dc:Addr)(ts:Addr->Addr->Obj->TS)(tr:Addr->TS):Addr->TS:=λC D σ H=>∃ms,fM K C ms=true/\if (Value.ref C::ms).contains (.ref Dc)=true then ∀ea oe,oe.cls=.ref C->ts C ea oe D σ H else tr C D σ H
def lW {pins:List (Addr×Obj)}{σ:St}{H H':Hp}{s s':Shared}{ea C:Addr}{ms:List Value}{R:Result->Shared->Prop} (D:Gl X x) (G:X.mg x=some (.ref Dc)) (U:fM X.K Dc ds=true) (hd:(x==("__debug__":Str))=false)
  (I:Inv X pins σ H s) (F:bO X.prog X.w X.stack H s ea C H' s') (Y:fM X.K C ms=true) (k:R (.ok (if (Value.ref C::ms).contains (.ref Dc)=true then .brk else .next)) s') :
  codeAny (model X.prog X.w) (X.A.mark (some (.ref ea))) (.handlers (.ref ea) [.ExceptHandler (some (.Name x np)) none [] pos] X.env) R s':=by
 have J:=I.caught F;obtain⟨oe,z,Z,e3,e4,e5⟩:=F.obj I;have J':=J.within z F.new.2 e3 e4 e5;refine codeAny_handlers_test (d9 (X:=X.within ea oe) J' D G ?_ hd);obtain⟨h,g,d,t,os⟩:=s';exact nV (pR J.kIn Y) (pR J.kIn U) z Z k
def xr (hg:Gl X x) (hm:X.mg x=some (.ref Dc)) (hD:fM X.K Dc ds=true) (hd:(x==("__debug__":Str))=false)
  (hs:∀C ea oe,oe.cls=.ref C->Am oe->PSs
  (X.within ea oe) (b₀::suite) (ts C ea oe)) (hr:PH X bz tr) :
  PH X (.ExceptHandler (some (.Name x np)) none (b₀::suite) pos::bz) (yU X.K Dc ts tr):=by
 intro pins σ H s ea C H' s' D I F ⟨ms,hC,q⟩;refine wpAny_handleBy_cons (lW hg hm hD hd I F hC ?_) (by intro q;cases q);split at q
 .rename_i U;rw[if_pos U];refine codeAny_handlers_suite (jf I F λs3 G=>?_);obtain⟨oe,Y,Z,e3,e4,e5⟩:=G.obj I;have J:=(I.caught G).within Y G.new.2 e3 e4 e5;exact F8 (hs C ea oe Z (qN G.ctx Y) pins s3 σ H' D J (q ea oe Z)) (λfl s4 h4=>SP.without I.ok h4) λ_ _ z=>z.elim
 .rename_i U;rw[if_neg U];exact hr pins σ H s ea C H' s' D I F q
def Ap:PH X [] λ_ _ _ _=>False:=λ_ _ _ _ _ _ _ _ _ _ _ q=>q.elim
variable{n:Str}{i:Nat}
def sj{pins:List (Addr×Obj)}{σ:St}{H:Hp}{s:Shared}{M:Model}{A:Around}{E:Value->Shared->Prop}{Q:Unit->Shared->Prop}(I:Inv X pins σ H s)(hN:X.N.Nodup)(hi:X.N[i]?=some n)(hk:X.env.scope.names.lookup n=some .local)
  (k:∀s',Inv X pins (σ.set i none) H s'->Q () s'):wpAny M A (do bindName X.env n .none;unbindBehindTheSuite X.env n pos) Q E s:=by
 obtain⟨m,hn,hl⟩:=id I.loc;have J:(X.env.scope.kind==.class||(X.env.scope.kind==.module&&X.env.locals != X.env.globals))=false:=by rw[I.ok.kind];rfl
 obtain⟨oL,_,_,a3,_⟩:=id hn;refine wpAny_nameGoes_keeps hk hn J λh' v Z hs=>k _ ?_
 have ne:∀b o,X.s₀.heap.get? b=some o->b≠X.env.locals:=λb o e=>FX (FU (vl e) I.ok.above)
 refine⟨I.ok,I.os,I.bare,⟨λb o e n D hx=>(hs.2 b (ne b o e)).trans (I.base.keep b o e n D hx),λb o e n D hx=>?_,I.base.free,λb o e hx=>?_,I.base.tups,I.base.frzs,I.base.tbls⟩,⟨_,Z,λj y v' G Y e3=>?_⟩,λy c e=>?_,I.free,I.freeC,λp hp=>?_,?_,by rw[GK];exact I.len⟩
 .obtain⟨sl,G⟩:=I.base.slot b o e n D hx;exact⟨sl,(hs.2 b (ne b o e)).trans G⟩
 .obtain⟨o',G⟩:=I.base.there b o e hx;exact⟨o',(hs.2 b (ne b o e)).trans G⟩
 .by_cases hj:i=j
  .subst hj;have U:i<σ.length:=by rw[I.len];exact(D2.mp hi).1
   rw[Gu U]at Y;cases Y
  .rw[F1 hj]at Y;obtain⟨u,r,q⟩:=hl j y v' G Y e3;refine⟨u,r,?_⟩;rcases q with⟨k,e⟩|⟨k,c,e,z⟩
   .refine .inl ⟨k,?_⟩;show(if y=n then v else m y)=some u;rw[if_neg λ(z:y=n)=>hj (jQ hN (z.symm▸hi) G)];exact e
   .exact .inr ⟨k,c,e,z.sameBut hs (I.cne y c e)⟩
 .obtain⟨w',z⟩:=I.cell y c e;exact⟨w',z.sameBut hs (I.cne y c e)⟩
 .obtain⟨e,n,ne,nf,d⟩:=I.pin p hp;exact⟨(hs.2 p.1 ne).trans e,n,ne,nf,d⟩
 .exact I.hok.but (fs:=[X.env.locals]) (λb u D e=>(hs.2 b λz=>D (F6.mpr z)).trans e) λb D=>by rw[F6.mp D];exact I.free
noncomputable def Fo(i:Nat)(ts:Addr->Addr->Obj->TS):Addr->Addr->Obj->TS:=λC ea oe D σ H=>ts C ea oe { nx:=λM H'=>D.nx (M.set i none) H',rt:=λ_ _=>False } (σ.set i (some (.ref ea))) H
def CU (hg:Gl X x) (hm:X.mg x=some (.ref Dc)) (hD:fM X.K Dc ds=true) (hd:(x==("__debug__":Str))=false) (hN:X.N.Nodup) (hi:X.N[i]?=some n) (Y:X.env.scope.names.lookup n=some .local)
  (hs:∀C ea oe,oe.cls=.ref C->Am oe->PSs
  (X.within ea oe) (b₀::suite) (ts C ea oe)) (hr:PH X bz tr) :
  PH X (.ExceptHandler (some (.Name x np)) (some n) (b₀::suite) pos::bz) (yU X.K Dc (Fo i ts) tr):=by
 intro pins σ H s ea C H' s' D I F ⟨ms,hC,q⟩;refine wpAny_handleBy_cons (lW hg hm hD hd I F hC ?_) (by intro q;cases q);split at q
 .rename_i Z;rw[if_pos Z];refine codeAny_handlers_suite_as (jf I F λs3 G=>?_);obtain⟨oe,e1,e2,e3,e4,e5⟩:=G.obj I;have J:=(I.caught G).within e1 G.new.2 e3 e4 e5;refine gY (X:=X.within ea oe) (v:=.ref ea) J hN hi (.inl Y) rfl (λs4 J4=>?_) (.inr Y);refine F8 (hs C ea oe e2 (qN G.ctx e1) pins s4 _ H' _ J4 (q ea oe e2)) (λfl s5 U=>?_) λ_ _ z=>z.elim
  cases fl with
  |next =>
   obtain⟨M,H2,J5,q5⟩:=U;exact sj (J5.without I.ok) hN hi Y λs6 J6=>⟨_,H2,J6,q5⟩
  |ret u =>
   obtain⟨_,_,_,_,_,z⟩:=U;exact z.elim
  |brk =>
   obtain⟨_,_,_,z⟩:=U;exact z.elim
  |cont =>
   obtain⟨_,_,_,z⟩:=U;exact z.elim
 .rename_i Z;rw[if_neg Z];exact hr pins σ H s ea C H' s' D I F q
end
end L2
namespace L2
open PySem PySem.W PySem.Spec PySem.Calls PyProof.Rows Builtin.ObjectAttr Builtin.Getset_descriptor List Option
section
variable{prog:Program}{w:World}{A:Around}{E:Value->Shared->Prop}{K:Frag}{ea C:Addr}{oe:Obj}{ms:List Value}{hh:Heap}{g:Array GenState}{d:Drawn}{t:Nat}{os:OsState}
end
noncomputable def uK (K:Frag) (C:Addr):Bool:=findIn K (.ref C) "__getattribute__" == some (some (.builtin "BaseException.__getattribute__"))&&findIn K (.ref C) "__getattr__" == some none&&findIn K (.ref C) "__class__" == some (some (.builtin "object.__class__"))
&&specialIn K (.builtin "object.__class__") "__get__" == some (some (.builtin "getset_descriptor.__get__"))&&takesIn K (.builtin "object.__class__")==some true&&mroIn K C (.type "object")==some true
section
variable{K:Frag}{ea C:Addr}{oe:Obj}{ms:List Value}
end
section
variable{X:Cx}{ea C:Addr}{oe:Obj}{ms:List Value}
end
end L2
namespace L2
open PySem PySem.Spec PyProof.Rows List Option
section
variable{X:Cx}{pins:List (Addr×Obj)}{σ:St}{H:Hp}{s:Shared}{C ea:Addr}
structure nW(X:Cx)(pins:List (Addr×Obj))(σ:St)(ea C:Addr)(H:Hp)(s:Shared):Prop where
 inv:Inv X pins σ H s
 held:∃B a0 fl,fL B X.stack ea (.ref C) a0 fl s.heap/\∀b o,s.heap.get? b=some o->B.get? b=some o\/b∈frs X.stack\/(X.s₀.heap.get? b=none/\H b=none)
 new:X.s₀.heap.get? ea=none/\H ea=none
 ctx:gK s.heap ea
def jg{M:Model}{Q:Unit->Shared->Prop}{E:Value->Shared->Prop}(h:nW X pins σ ea C H s)(z:X.stack=X.env::X.outer)(Y:X.env.frame=some X.env.locals)(G:X.ex=[])
  (k:∀s',bO X.prog X.w X.outer X.H₀ X.s₀ ea C H s'->Q () s'):wpAny M X.A (leaving X.env (.ref ea)) Q E s:=by
 obtain⟨I,⟨B,a0,fl,R,J⟩,Z,cx⟩:=h;refine lU (outer:=X.outer) (by rw[I.ok.frames,z]) Y (z▸R) cx λh2 fl2 U up=>k _ (iP (s:=s) I z Y G fl2 J (λb o hb e=>?_) Z U)
 obtain⟨_,o',D,hd⟩:=I.stack.mem hb;rw[e]at D;cases D;exact up b o e hd
end
structure mI(P:Program)(w:World)(outer:List Env)(ch:List Addr)(H:Hp)(s:Shared)(H':Hp)(s':Shared):Prop where
 os:s'.os=s.os
 bare:AllBare s'.gens
 un:Un (frs outer) ch H H' s.heap s'.heap
 hok:HOk P w H' s'.heap
def mI.move{P:Program}{w:World}{outer:List Env}{ch:List Addr}{H H':Hp}{s s':Shared}{h2:Heap}(F:mI P w outer ch H s H' s')(Z:∀b∈frs outer,H' b=none)
  (keep:∀b o,b∉frs outer->(H' b≠none\/s.heap.get? b≠none)->s'.heap.get? b=some o->h2.get? b=some o) (slot:∀b o,b∈frs outer->s'.heap.get? b=some o->∃J,h2.get? b=some { o with slots:=J }) :
  mI P w outer ch H s H' { s' with heap:=h2 }:=by
 refine⟨F.os,F.bare,⟨λb o e n D hx=>keep b o D (.inr (by rw[e];simp)) (F.un.keep b o e n D hx),λb o e n D hx=>?_,F.un.free,λb o e hx=>?_,F.un.tups,F.un.frzs,F.un.tbls⟩,
  λa o e=>(F.hok a o e).stay (λb u D q=>keep b u (λz=>?_) (.inl ?_) q) (λ_ q=>q) λ_ _ q=>q⟩
 .obtain⟨J,G⟩:=F.un.slot b o e n D hx;obtain⟨U,Y⟩:=slot b _ D G;exact⟨U,Y⟩
 .obtain⟨o',G⟩:=F.un.there b o e hx;by_cases D:b∈frs outer
  .obtain⟨J,Y⟩:=slot b o' D G;exact⟨_,Y⟩
  .exact⟨o',keep b o' D (.inr (by rw[e];simp)) G⟩
 .rcases D with rfl|D
  .rw[Z b z]at e;cases e
  .rw[Z b z]at D;cases D
 .rcases D with rfl|D
  .rw[e];simp
  .rw[D];simp
def sk{env env':Env}(h:env'.frame=env.frame)(v:Value):noteFrame v env'=noteFrame v env:=by
 unfold noteFrame PySem.frameOf;rw[h]
section
variable{X:Cx}{pins pinsY:List (Addr×Obj)}{σ σ9:St}{H1 H3 H':Hp}{s1 s3 s':Shared}{C Ce ea:Addr}{fp:List Addr}{x:Str}{fvs:List Str}{scope:Scope}
def xt{acc:Value}{E:Value->Shared->Prop}{Q:Value->Shared->Prop}(Z:X.stack=X.env::X.outer)(ce:X.env.frame=some X.env.locals)(ao:X.ex=[])(I3:Inv X pins σ H3 s3)(IY:Inv (X.blk x fvs scope s3 H3 C fp) pinsY σ9 H1 s1)
  (F:bO X.prog X.w X.stack H1 s1 ea Ce H' s') (aO:∀b∈fp,(b∈X.ex\/X.s₀.heap.objs.size<=b)/\b≠X.env.locals/\(∀x c,X.env.cells.lookup x=some c->c≠b)/\∀p∈X.pn++pins,p.1≠b)
  (cl:∀b∈fp,∃o,s1.heap.get? b=some o) (cN:s3.heap.get? C=none) (cF:C∉frs X.stack) (k:∀J,nW X pins σ ea Ce H' J->E (.ref ea) J) :
  notedBy (model X.prog X.w) X.A (X.blk x fvs scope s3 H3 C fp).env (λv J=>compPost (model X.prog X.w) X.A E none Q acc C (.error v) J) (.ref ea) s':=by
 obtain⟨B,a0,fl,hB⟩:=F.fly;have J0:Inv (X.blk x fvs scope s3 H3 C fp) pinsY σ9 H' s':=Inv.caught (X:=X.blk x fvs scope s3 H3 C fp) IY F;have G:∀b∈frs X.stack,H' b=none:=λb D=>(I3.call' (ch:=fp) J0.os J0.base J0.hok J0.bare aO).stkFree b D
 have old:∀b,s1.heap.get? b=none->s3.heap.get? b=none:=λb e=>by
  cases q:s3.heap.get? b with
  |none=>rfl
  |some o =>
   by_cases D:b∈fp
   .obtain⟨o',e'⟩:=cl b D;rw[e]at e';cases e'
   .obtain⟨o',e'⟩:=IY.base.there b o q D;rw[e]at e';cases e'
 show wpAny _ X.A (noteFrame (.ref ea) (X.blk x fvs scope s3 H3 C fp).env) _ _ s';rw[sk (env:=X.env) (env':=(X.blk x fvs scope s3 H3 C fp).env) rfl];refine km (env:=X.env) (outer:=X.outer) (fl:=.none) (by rw[I3.ok.frames,Z]) ce (Z▸fl) F.ctx λh2 R2 cn up=>?_
 have R2:fL B X.stack ea (.ref Ce) a0 (rawInt X.env.locals) h2:=Z▸R2;have L2:mI X.prog X.w X.stack [] H1 s1 H' { s' with heap:=h2 }:=mI.move (s':=s') ⟨F.os,F.bare,F.un,F.hok⟩ G (λb o D hn e=>by
  rcases hB b o e with z|z|⟨z1,z2⟩
  .exact R2.1 b o z
  .exact absurd z D
  .exact(hn.elim (λq=>q z2) λq=>q z1).elim) λb o D e=>by
  obtain⟨_,o',a4,hd⟩:=fl.2.2.1.mem D;rw[e]at a4;cases a4;exact up b o e hd
 have JY:Inv (X.blk x fvs scope s3 H3 C fp) pinsY σ9 H' { s' with heap:=h2 }:=Inv.call' (X:=X.blk x fvs scope s3 H3 C fp) IY L2.os L2.un L2.hok L2.bare λb z=>absurd z (by simp)
 obtain⟨m,hn,_⟩:=JY.loc;have a5:∀b o,h2.get? b=some o->B.get? b=some o\/b∈frs X.stack\/(s3.heap.get? b=none/\H' b=none):=λb o e=>by
  cases q:B.get? b with
  |some o' =>
   have:=R2.1 b o' q;rw[e]at this;exact .inl this.symm
  |none =>
   by_cases D:b∈frs X.stack
   .exact .inr (.inl D)
   .refine .inr (.inr ?_);cases q':s'.heap.get? b with
    |some o' =>
     rcases hB b o' q' with z|z|z
     .rw[q]at z;cases z
     .exact absurd z D
     .exact⟨old b z.1,z.2⟩
    |none =>
     constructor
     .refine old b ?_;cases z:s1.heap.get? b with
      |none=>rfl
      |some o' =>
       obtain⟨o2,e2⟩:=F.un.there b o' z (by simp);rw[q']at e2;cases e2
     .cases z:H' b with
      |none=>rfl
      |some u =>
       obtain⟨o2,e2⟩:=(F.hok b u z).there;rw[q']at e2;cases e2
 refine⟨m,hn,λh3 U a7 _=>?_⟩;have hC:H' C=none:=JY.free;have L3:mI X.prog X.w X.stack fp H3 s3 H' { s' with heap:=h3 }:=mI.move (s':={ s' with heap:=h2 }) ⟨JY.os,JY.bare,JY.base,JY.hok⟩ G (λb o D a2 e=>(U.2 b λz=>by
   subst z;exact a2.elim (λq=>q hC) λq=>q cN).trans e) λb o D e=>⟨o.slots,(U.2 b λz=>cF (z▸D)).trans e⟩
 have I4:=I3.call' (ch:=fp) L3.os L3.un L3.hok L3.bare aO;obtain⟨oe,vs,T,oT,ts,he,hc,hd,h1,cr,cv,hT,bj,cx⟩:=R2.2.2.2;obtain⟨oc,es,ep,cC,bp,_,_⟩:=hn;have dict:∀b o ws,h2.get? b=some o->o.data=.fields ws->b≠C:=λb o ws e ed z=>by
  subst z;rw[show h2.get? b=some oc from cC]at e;cases e;rw[ed]at bp;cases bp
 have R3:fL (PySem.W.hideAll B [C]) X.stack ea (.ref Ce) a0 (rawInt X.env.locals) h3:=by
  refine⟨λb o e=>(U.2 b λz=>?_).trans (R2.1 b o (PySem.W.of_hideAll _ e)),?_,dH I4.stack λa ha=>?_,?_⟩
  .rw[z,PySem.W.hideAll_none [C] (.head _)]at e;cases e
  .cases q:(PySem.W.hideAll B [C]).get? ea with
   |none=>rfl
   |some o=>have:=PySem.W.of_hideAll _ q;rw[R2.2.1]at this;cases this
  .cases q:(PySem.W.hideAll B [C]).get? a with
   |none=>rfl
   |some o=>have:=PySem.W.of_hideAll _ q;rw[(R2.2.2.1.mem ha).1]at this;cases this
  .refine⟨oe,vs,T,oT,ts,(U.2 ea (dict ea oe vs he hd)).trans he,hc,hd,h1,?_,cv,(U.2 T (dict T oT ts hT bj)).trans hT,bj,cx⟩;cases q:(PySem.W.hideAll B [C]).get? T with
   |none=>rfl
   |some o=>have:=PySem.W.of_hideAll _ q;rw[cr]at this;cases this
 have Y:∀b o,h3.get? b=some o->(PySem.W.hideAll B [C]).get? b=some o\/b∈frs X.stack\/(s3.heap.get? b=none/\H' b=none):=λb o e=>by
  by_cases z:b=C
  .subst z;exact .inr (.inr ⟨cN,hC⟩)
  .rcases a5 b o ((U.2 b z).symm.trans e)with q|q
   .exact .inl (PySem.W.hideAll_get _ q (by simpa using z))
   .exact .inr q
 unfold PySem.passOn;refine kx (Hi (s:={ s' with heap:=h3 }) ((U.2 ea (dict ea oe vs he hd)).trans he) hd h1 ?_);rw[if_neg (show ¬ ((Value.ref T==Value.none)=true)from by simp)];have fin:wpAny (model X.prog X.w) X.A (do setFlight (.ref ea) a7.frame;throw (Value.ref ea):Sem Value) (λ_ _=>False) E { s' with heap:=h3 }:=by
  refine kx (kj (s:={ s' with heap:=h3 }) R3 λh4 T4 R4 t1 t2 t3 t4 other=>wpAny_throw (k _ ?_));obtain⟨cP,_,t3,_⟩:=t3;have t5:s3.heap.get? T4=none/\H' T4=none:=by
   rcases Y T4 cP t3 with q|q|q
   .rw[t1]at q;cases q
   .exact absurd q t2
   .exact q
  have L4:mI X.prog X.w X.stack fp H3 s3 H' { s' with heap:=h4 }:=mI.move (s':={ s' with heap:=h3 }) L3 G (λb o D a2 e=>(other b λz=>by
   subst z;exact a2.elim (λq=>q t5.2) λq=>q t5.1).trans e) λb o D e=>⟨o.slots,(other b λz=>t2 (z▸D)).trans e⟩
  refine⟨I3.call' (ch:=fp) L4.os L4.un L4.hok L4.bare aO,⟨_,a0,_,R4,λb o e=>?_⟩,⟨I3.gone ao (old ea F.new.1),F.new.2⟩,?_⟩
  rotate_left
  .obtain⟨ox,vx,x1,x2,x3⟩:=cn;exact⟨ox,vx,(other ea (GR t4)).trans ((U.2 ea (dict ea ox vx x1 x2)).trans x1),x2,x3⟩
  by_cases z:b=T4
  .subst z;exact .inr (.inr ⟨I3.gone ao t5.1,t5.2⟩)
  .rcases Y b o ((other b z).symm.trans e)with q|q|q
   .exact .inl q
   .exact .inr (.inl q)
   .exact .inr (.inr ⟨I3.gone ao q.1,q.2⟩)
 first
  | exact fin
  | exact kx (pb fin)
end
section
variable{prog:Program}{w:World}{A:Around}{R:Result->Shared->Prop}{s:Shared}
def pS{elt target iter:Expr}{scope:Scope}{pos:Pos}{it acc:Value}{env:Env}(J:Nat->Shared->Prop)
  (D:∀n s,J n s->wpAny (model prog w) A (pyNext it) (λr s1=>match r with
   |none=>R (.ok .next) s1
   |some v=>wpAny (model prog w) A (letOwnedTupleGo target it v) (λ_ U=>wpAny (model prog w) A (assign target env v) (λ_ s3 =>
     wpAny (model prog w) A (eval elt env) (λx Y =>
       wpAny (model prog w) A (call (.builtin "list.append") [acc,x]) (λ_ Z=>∃m,m<n/\J m Z) (λ_ _=>False) Y) (notedBy (model prog w) A env λv s'=>R (.error v) s') s3) (λ_ _=>False) U) (λ_ _=>False) s1) (λ_ _=>False) s)
  (n:Nat) (h:J n s):codeAny (model prog w) A (.compLoop (.ListComp elt [⟨target,iter,[],0⟩] scope pos) 0 it acc env) R s:=by
 have G:∀{α:Type}{t:Sem α}{Q:α->Shared->Prop}{E:Value->Shared->Prop}{s:Shared},wpAny (model prog w) A t Q (λ_ _=>False) s->wpAny (model prog w) A t Q E s:=λq=>F8 q (λ_ _ z=>z) λ_ _ z=>z.elim
 refine codeAny_loop rfl J (λn s hJ=>?_) n h;show wpAny _ A ((compTurn (.ListComp elt [⟨target,iter,[],0⟩] scope pos) 0 it acc env).onRaise (λx=>do noteFrame x env;theTreesLotGoes x)) _ _ s;refine wpAny_noted ?_;rw[compTurn_list];refine kx (wpAny_standAt (kx (F8 (G (D n s hJ)) (λr s1 h1=>?_) λ_ _ z=>z)));cases r with
 |none=>exact pb h1
 |some v =>
  refine kx (F8 (G h1) (λ_ U h2=>?_) λ_ _ z=>z);refine kx (F8 (G h2) (λ_ s3 h3=>kx (wpAny_tests_nil ?_)) λ_ _ z=>z);exact kx (kx (F8 h3 (λx Y h5=>kx (F8 (G h5) (λ_ Z h6=>pb (pb ⟨rfl,h6⟩)) λ_ _ z=>z)) λ_ _ z=>z))
end
def uL(J:It)(G:St)(H1:Hp)(te:TX)(D:Addr)(Q:VK)(Y:Addr->Hp->Prop):Prop:=
 ∃W:Nat->Nat->St->Hp->Prop,(∃m,W 0 m G (upd H1 D (.lst [])))/\∀i m M H',W i m M H' ->
  (J.stop i H'/\Q (.ref D) H')\/(J.go i H'/\∃N:St->Hp->Prop,(∀z H2,N z H2->∃U,U<m/\W (i+1) U z H2)/\∀x H2,J.yld i H' x H2 ->
   te (M.set 0 (some x)) H2 (λy H5=>∃ys,H5 D=some (.lst ys)/\ys.length<sizeLine/\N (M.set 0 (some x)) (upd H5 D (.lst (ys++[y])))) λc _ H5=>∃C,c=.ref C/\Y C H5)
noncomputable def Aq(X:Cx)(wi:TI)(js:List Nat)(te:TX):TE:=λσ H Q=>wi σ H λJ H1=>∀D,H1 D=none->uL J (bZ js σ) H1 te D Q λC H'=>∀pins M ea s',nW X pins M ea C H' s'->X.xe (.ref ea) s'
section
variable{X:Cx}{elt iter:Expr}{x:Str}{px:Pos}{scope:Scope}{pos:Pos}{fvs:List Str}{js:List Nat}{wi:TI}{te:TX}
def nX(U:gJ X.env.scope X.N scope x fvs js)(hc:X.calm=true)(en:X.stack=X.env::X.outer)(eo:X.env.frame=some X.env.locals)(et:X.ex=[])(hi:PI X (.Name x px) iter wi)(he:∀cx cF C fp,PX (X.blk x fvs scope cx cF C fp) elt te)
  (hs:∀v,foldedSetIterable iter X.env v=pure v:=by intro _;rfl):PE X (.ListComp elt [⟨.Name x px,iter,[],0⟩] scope pos) (Aq X wi js te):=by
 intro pins s σ H Q I h;have fr:∀y∈scope.names,y.2=.free->∃c,X.env.cells.lookup y.1=some c:=λy hy hk=>I.ok.has y.1 (U.out y hy hk)
 rw[eval_ListComp];refine Hd (use:=none) rfl hs (fk fr) U.kind U.names (thn (hi pins s σ H _ I h) λv s1 h1=>thn h1 λgB D h2=>?_);obtain⟨it,fp,tn,J,H2,e,I2,T,cN,f2,hh⟩:=h2;subst e;have sub:∀y c,(cK X.env scope.names []).lookup y=some c->X.env.cells.lookup y=some c:=λy c e=>g8 scope.names [] fr (λ_ q=>by simp at q) e
 refine Gm (j_ (x:=x) U.kind U.once λh1 m1 aO a3 a4=>?_);dsimp only at aO a3 a4 ⊢;have Y:Inv X pins σ (upd H2 D.heap.objs.size (.lst [])) { D with heap:=D.heap.push { cls:=.type "list",data:=.seq ([]:List Value).toArray },toks:=D.toks }:=I2.lnew (ys:=[]) (its:=[]) .nil (Gv _);generalize hG:D.heap.push { cls:=.type "list",dict:=none,data:=.seq ([]:List Value).toArray }=G at aO a3 a4 Y ⊢;have hC:G.objs.size=D.heap.objs.size+1:=by rw[<- hG,F7]
 obtain⟨W,⟨m0,w0⟩,df⟩:=hh D.heap.objs.size I2.fresh;have up:∀b u,G.get? b=some u->h1.get? b=some u:=a3;have look:∀{y:Str}{c:Addr},(d7 scope x G.objs.size++cK X.env scope.names []).lookup y=some c->(y=x/\scope.names.lookup x=some .cell/\c=G.objs.size+1)\/(cK X.env scope.names []).lookup y=some c:=λ{y c} e=>by
  unfold d7 at e;by_cases q:scope.names.lookup x=some .cell
  .rw[if_pos q]at e;by_cases z:(y==x)=true
   .rw[cons_append,lookup_cons,z]at e;exact .inl ⟨eq_of_beq z,q,(FV e).symm⟩
   .rw[cons_append,lookup_cons,(Bool.not_eq_true _).mp z]at e;exact .inr e
  .rw[if_neg q]at e;exact .inr e
 have g0:∀{H':Hp}{s':Shared},Inv X pins σ H' s'->True:=λ_=>trivial
 have nC:(upd H2 D.heap.objs.size (.lst [])) G.objs.size=none:=Y.hok.fresh (vr _);have cL:G.objs.size≠X.env.locals:=GH Y.lt;have cS:X.s₀.heap.objs.size<=G.objs.size:=Y.sz;have cC:∀y c,X.env.cells.lookup y=some c->c≠G.objs.size:=λy c e z=>by
  obtain⟨v,q⟩:=Y.cell y c e;exact absurd (show c<G.objs.size from q.lt) (by rw[z];exact Gk _)
 have cP:∀p∈X.pn++pins,p.1≠G.objs.size:=λp hp z=>absurd (show p.1<G.objs.size from vl (Y.pin p hp).1) (by rw[z];exact Gk _)
 have cd:∀b∈fp,b<D.heap.objs.size:=λb Z=>by
  obtain⟨o,e,_⟩:=T.obj 0 _ cN b Z;exact vl e
 have ok:(X.blk x fvs scope { D with heap:=G,toks:=D.toks } (upd H2 D.heap.objs.size (.lst [])) G.objs.size fp).Ok:=by
  have Z:∀b∈fp,b∉frs X.stack:=λb Z z=>(y1.mp (I2.stkSub b z)).elim (f2 b Z).2.1 (f2 b Z).2.2.1
  exact {
   mod:=Y.ok.mod
   kind:=by show(relabel scope X.env).kind=_;exact U.kind
   glob:=Y.ok.glob
   blt:=Y.ok.blt
   above:=vr _
   inj:=λy z c e1 e2=>by
    have lt:∀{y:Str},(cK X.env scope.names []).lookup y=some c->c<G.objs.size:=λ{y} e=>by
     obtain⟨v,q⟩:=Y.cell y c (sub y c e);exact q.lt
    rcases look e1 with⟨a1,_,a2⟩|a1
    .rcases look e2 with⟨b1,_,_⟩|b1
     .rw[a1,b1]
     .exact absurd (lt b1) (by rw[a2];exact Hg.mpr (Gw _))
    .rcases look e2 with⟨_,_,b2⟩|b1
     .exact absurd (lt a1) (by rw[b2];exact Hg.mpr (Gw _))
     .exact Y.ok.inj y z c (sub y c a1) (sub z c b1)
   has:=λy hy=>by
    show ∃c,(d7 scope x G.objs.size++cK X.env scope.names []).lookup y=some c;unfold d7;rcases lP U.cells hy with hm|⟨e,q⟩
    .obtain⟨c,ec⟩:=eY (env:=X.env) scope.names [] (.inl hm);by_cases q:scope.names.lookup x=some .cell
     .have z:(y==x)=false:=GJ.mpr (U.xf _ hm rfl);exact⟨c,by rw[if_pos q,cons_append,lookup_cons,z];exact ec⟩
     .exact⟨c,by rw[if_neg q];exact ec⟩
    .subst e;exact⟨G.objs.size+1,by rw[if_pos q,cons_append,lookup_cons,G3]⟩
   cab:=λy c h e=>by
    obtain⟨h1,h2⟩:=Gx h;have e':(d7 scope x G.objs.size++cK X.env scope.names []).lookup y=some c:=e;unfold d7 at e';rw[if_pos h2,h1,cons_append,lookup_cons,G3]at e';rw[<- FV e'];exact Gw _
   hd:=Y.ok.hd
   frames:=Y.ok.frames
   stk:=.inl rfl
   exf:=λb a5=>⟨FX (show b<G.objs.size from FU (cd b a5) (by rw[hC];exact Gw _)),λy c e=>by
    rcases look e with⟨_,_,a⟩|a
    .rw[a,hC];exact GH (FU (cd b a5) (Gg (Gw _) (Gw _)))
    .exact(f2 b a5).2.2.2.2.1 y c (sub y c a)⟩
   bs:=Y.bs
   bsz:=Gg Y.ok.bsz Y.sz
   noex:=λb o e a5=>by
    have q:=(f2 b a5).2.2.2.1;rcases q with q|q
    .exact Y.ok.noex b o e q
    .exact absurd (FU (vl e) (Gg Y.ok.bsz q)) (Gk _)
   exfs:=Z
   funs:=Y.stack
   frf:=Y.stkFree }
 have d1:(bZ js σ).length=(x::fvs).length:=by
  have e:=GL List.length U.slots;simp only[FY]at e;simp[bZ,e]
 have I4:Inv (X.blk x fvs scope { D with heap:=G,toks:=D.toks } (upd H2 D.heap.objs.size (.lst [])) G.objs.size fp) [] (bZ js σ) (upd H2 D.heap.objs.size (.lst [])) { D with heap:=h1,toks:=D.toks }:=by
  refine⟨ok,rfl,Y.bare,Un.kept up,⟨_,aO,λi y v e1 e2 e3=>?_⟩,λy c e=>?_,nC,λy c e=>(look e).elim (λ⟨_,_,a⟩=>by rw[a];exact Y.hok.fresh (Gw _)) λa=>Y.freeC y c (sub y c a),λp hp=>by simp[Cx.blk]at hp,Y.hok.kept up,d1⟩
  .cases i with
   |zero=>simp[bZ]at e2
   |succ i =>
    have d2:fvs[i]?=some y:=e1;have hm:y∈fvs:=Hf d2;have d4:=U.free y hm;have ce:(y,NameKind.free)∈scope.names:=fj d4;have a6:(js.map λj=>(σ[j]?).join)[i]?=some (some v):=by simpa[bZ]using e2
    rw[Ga]at a6;cases ej:js[i]? with
    |none=>rw[ej]at a6;cases a6
    |some j =>
     rw[ej]at a6;have bj:(σ[j]?).join=some v:=FV a6;have e4:σ[j]?=some (some v):=by
      cases q:σ[j]? with
      |none=>rw[q]at bj;cases bj
      |some z=>rw[q]at bj;exact GL some bj
     have e5:X.N[j]?=some y:=by
      have q:=GL (λl=>l[i]?) U.slots;simp only[Ga,ej,d2,map_some]at q;exact FV q
     obtain⟨m,hn,hl⟩:=Y.loc;have b4:=U.out (y,.free) ce rfl;obtain⟨u,ru,lk⟩:=hl j y v e5 e4 (.inr b4);refine⟨u,ru,.inr ⟨?_,?_⟩⟩
     .show(relabel scope X.env).names.lookup y=_\/(relabel scope X.env).names.lookup y=_;exact lO (osc:=X.env.scope) d4
     .obtain⟨c,ec⟩:=eY (env:=X.env) scope.names [] (.inl ce);have nx:(y==x)=false:=GJ.mpr (U.xf _ ce rfl);refine⟨c,?_,?_⟩
      .show(d7 scope x G.objs.size++cK X.env scope.names []).lookup y=some c;unfold d7;split
       .rw[cons_append,lookup_cons,nx];exact ec
       .exact ec
      rcases lk with⟨z,_⟩|⟨_,c',eD,q⟩
      .have z':X.env.scope.names.lookup y=some .local:=z;rcases b4 with w|w
       .rw[show X.env.scope.names.lookup y=some .cell from w]at z';cases z'
       .rw[show X.env.scope.names.lookup y=some .free from w]at z';cases z'
      .have:=sub y c ec;rw[eD]at this;cases this;obtain⟨o,ho,hd⟩:=q;exact⟨o,up _ _ ho,hd⟩
  .rcases look e with⟨_,q,a⟩|a
   .exact⟨none,by rw[a];exact a4 q⟩
   .obtain⟨v,o,ho,hd⟩:=Y.cell y c (sub y c a);exact⟨v,o,up _ _ ho,hd⟩
 have d5:tn 0 h1:=T.keep 0 _ _ cN λb Z o e=>up b o (by rw[<- hG];exact mu _ e)
 have eL:∀b∈fp,(upd H2 D.heap.objs.size (.lst [])) b=none:=λb Z=>by
  rw[az (FX (cd b Z))];exact(f2 b Z).1
 have a7:∀{H':Hp},(∀b∈fp,H' b=none)->∀b∈fp,jq (X.blk x fvs scope { D with heap:=G,toks:=D.toks } (upd H2 D.heap.objs.size (.lst [])) G.objs.size fp) [] H' b:=λhn b Z =>
  ⟨hn b Z,(ok.exf b Z).1,ok.exfs b Z,.inl Z,(ok.exf b Z).2,λp hp=>by simp[Cx.blk]at hp⟩
 have eb:∀b∈fp,(b∈X.ex\/X.s₀.heap.objs.size<=b)/\b≠X.env.locals/\(∀x c,X.env.cells.lookup x=some c->c≠b)/\∀p∈X.pn++pins,p.1≠b:=λb Z =>
  let ⟨_,q1,_,q2,q3,q4⟩:=f2 b Z;⟨q2,q1,q3,q4⟩
 have ca:∀s5:Shared,s5={ D with heap:=h1,toks:=D.toks } ->
   codeAny (model X.prog X.w) X.A (.compLoop (.ListComp elt [⟨.Name x px,iter,[],0⟩] scope pos) 0 (.ref it) (.ref D.heap.objs.size) (compEnvC scope (d7 scope x G.objs.size++cK X.env scope.names []) G.objs.size X.env)) (compPost (model X.prog X.w) X.A X.xe none (EP X pins σ Q) (.ref D.heap.objs.size) G.objs.size) s5:=by
  rintro s5 rfl;refine pS (λn s'=>∃i M H',Inv (X.blk x fvs scope { D with heap:=G,toks:=D.toks } (upd H2 D.heap.objs.size (.lst [])) G.objs.size fp) [] M H' s'/\tn i s'.heap/\(∀b∈fp,H' b=none)/\W i n M H') ?_ m0 ⟨0,_,_,I4,d5,eL,w0⟩;rintro n s6 ⟨i,bp,H6,I6,ee,ef,w6⟩;rcases df i n bp H6 w6 with⟨stop,qn⟩|⟨go,N,hN,step⟩
  .refine thn (T.done (X.blk x fvs scope { D with heap:=G,toks:=D.toks } (upd H2 D.heap.objs.size (.lst [])) G.objs.size fp) rfl rfl rfl hc i [] s6 bp H6 _ I6 (a7 ef) ee stop) λr s7 ⟨hr,I7⟩=>?_
   subst hr;have I8:Inv X pins σ H6 s7:=Y.call' (ch:=fp) I7.os I7.base I7.hok I7.bare eb;obtain⟨m,hn,_⟩:=I7.loc;exact⟨m,hn,λh' sb=>⟨.ref D.heap.objs.size,H6,I8.turned (t':=s7.toks) (λb o Z e=>(sb.2 b Z).trans e) I7.free cL (.inr cS) cC cP,rfl,qn⟩⟩
  .refine thn (T.item (X.blk x fvs scope { D with heap:=G,toks:=D.toks } (upd H2 D.heap.objs.size (.lst [])) G.objs.size fp) rfl rfl rfl hc i [] s6 bp H6 _ I6 (a7 ef) ee go) λr s7 ⟨u,hr,h7⟩=>?_
   subst hr;refine thn h7 λ_ s8 ⟨x8,H8,I8,r8,y8,b3,e8⟩=>?_
   have e9:=I8.pinned (a7 e8) (T.obj _ _ b3);refine thn (f_ (X:=X.blk x fvs scope { D with heap:=G,toks:=D.toks } (upd H2 D.heap.objs.size (.lst [])) G.objs.size fp) (i:=0) (x:=x) (pos:=px) U.nd rfl (U.once.elim (λq=>.inl (GF q.1)) λq=>.inr (lQ q.1)) (U.once.elim (λq=>.inr (GF q.1)) λq=>.inl (Hl ⟨rfl,q.1⟩)) _ s8 bp H8 x8 u (λσ9 ck=>te σ9 ck (λy H5=>∃ys,H5 D.heap.objs.size=some (.lst ys)/\ys.length<sizeLine/\N σ9 (upd H5 D.heap.objs.size (.lst (ys++[y])))) λc _ H5=>∃C,c=.ref C/\∀pins M ea s',nW X pins M ea C H5 s'->X.xe (.ref ea) s') e9 r8 (step x8 H8 y8)) λ_ fa ⟨σ9,ck,ft,fu⟩=>?_
   have again:∀{ap:Shared}{ao:Hp},Inv (X.blk x fvs scope { D with heap:=G,toks:=D.toks } (upd H2 D.heap.objs.size (.lst [])) G.objs.size fp) ([]++iJ fp s8.heap) σ9 ao ap->N σ9 ao ->
     ∃m,m<n/\∃i M H',Inv (X.blk x fvs scope { D with heap:=G,toks:=D.toks } (upd H2 D.heap.objs.size (.lst [])) G.objs.size fp) [] M H' ap/\tn i ap.heap/\(∀b∈fp,H' b=none)/\W i m M H':=λ{ap ao} be cl=>by
    obtain⟨m',hm,fx⟩:=hN _ ao cl;refine⟨m',hm,i+1,_,ao,be.unpinned,T.keep _ _ _ b3 λb Z o e=>(be.pin (b,o) (Gh _ (Gh _ (cD Z e)))).1,λb Z=>?_,fx⟩;obtain⟨o,e,d⟩:=T.obj _ _ b3 b Z;exact(be.pin (b,o) (Gh _ (Gh _ (cD Z e)))).2.1
   refine F8 (he _ _ _ _ _ fa _ ck _ _ _ ft fu λH1 s1 er s' I1 hx=>?_) (λy ap ⟨yv,ao,be,ry,ys,fy,hl,cl⟩=>?_) λ_ _ z=>z
   .obtain⟨ea,Ce,H',rfl,F,Cx,e',q'⟩:=hx;cases e';refine xt en eo et Y I1 F eb (λb Z=>?_) ?_ (λz=>?_) λfI hh=>q' _ _ ea fI hh
    .obtain⟨o,e,_⟩:=T.obj _ _ b3 b Z;exact⟨o,(I1.pin (b,o) (Gh _ (Gh _ (cD Z e)))).1⟩
    .exact Heap.get?_none_of_le (vr _)
    .obtain⟨_,o,e,_⟩:=Y.stack.mem z;exact absurd (vl e) (Gk _)
   .exact thn (gc _ ap _ ao (.ref D.heap.objs.size) [yv] (.ref D.heap.objs.size) [y] (λ_ eg=>N σ9 eg) be rfl (.cons ry .nil) ⟨_,ys,yv,rfl,rfl,fy,hl,cl⟩) λ_ hS ⟨_,eg,f0,_,f1⟩=>again f0 f1
 exact codeAny_compStart_list (ca _ rfl) (T.self _ 0 _ _ _ d5 (ca _ rfl))
end
end L2
namespace MM
open PySem List Option
inductive Sc where
 | non|bl (b:Bool)|int (i:Int)|str (x:Str)
 deriving Inhabited,DecidableEq
inductive DD where
 | k (kvs:List (Int×Sc))|t (kvs:List (List Int×Sc))
 | p (ns:List Int)
 | w (ws:List Str) (n:Nat)
 deriving Inhabited
inductive PV where
 | non|bl (b:Bool)|int (i:Int)|str (x:Str)|tup (xs:List PV)|lst (xs:List PV)|dI (d:DD)
 deriving Inhabited
noncomputable def Sc.pv:Sc->PV
 | .non=>.non
 | .bl b=>.bl b
 | .int i=>.int i
 | .str x=>.str x
noncomputable def sc?:PV->Option Sc
 | .non=>some .non
 | .bl b=>some (.bl b)
 | .int i=>some (.int i)
 | .str x=>some (.str x)
 | _=>none
noncomputable def yV{α:Type} [DecidableEq α] (kvs:List (α×Sc)) (k:α):Option Sc:=(kvs.find? λp=>decide (p.1=k)).map (·.2)
noncomputable def yW{α:Type} [DecidableEq α] (kvs:List (α×Sc)) (k:α) (v:Sc):List (α×Sc):=
 if (kvs.any λp=>decide (p.1=k))=true then kvs.map (λp=>if p.1=k then(p.1,v)else p)else kvs++[(k,v)]
noncomputable def eqL(f:PV->PV->Option Bool):List PV->List PV->Option Bool
 | [],[]=>some true
 |x::xs,y::ys=>(f x y).bind λp=>(eqL f xs ys).map λq=>p&&q
 | _,_=>some false
noncomputable def eqF:Nat->PV->PV->Option Bool
 | _,.non,.non=>some true
 | _,.bl a,.bl b=>some (a==b)
 | _,.bl a,.int b=>some ((if a then 1 else 0)==b)
 | _,.int a,.bl b=>some (a==(if b then 1 else 0))
 | _,.int a,.int b=>some (a==b)
 | _,.str a,.str b=>some (a==b)
 |0,.tup _,.tup _=>none
 |0,.lst _,.lst _=>none
 | _,.dI _,_=>none
 | _,_,.dI _=>none
 |n+1,.tup a,.tup b=>eqL (eqF n) a b
 |n+1,.lst a,.lst b=>if a.length=b.length then eqL (eqF n) a b else some false
 | _,_,_=>some false
noncomputable def sm:PV->PV->Bool
 | .tup _,.tup _=>true
 | .lst _,.lst _=>true
 | .tup _,_=>false
 | _,.tup _=>false
 | .lst _,_=>false
 | _,.lst _=>false
 | .bl _,.int _=>false
 | .int _,.bl _=>false
 | .dI _,_=>false
 | _,.dI _=>false
 | _,_=>true
noncomputable def inL(f:PV->Option Bool):List PV->Option Bool
 | []=>some false
 |y::ys=>(f y).bind λp=>(inL f ys).map λq=>p||q
inductive MV where
 | val (v:PV)|own (xs:List PV)|brw (xs:List PV)|ownD (d:DD)|brwD (d:DD)
 | mutD (d:DD)
 deriving Inhabited
noncomputable abbrev Rho:=List (Option MV)
inductive Op2 where
 | add|sub|mul|fdiv|mod|pow|shr
inductive Cp where
 | eq|ne|lt|le|gt|ge|isN|notN|isIn|notIn
inductive Blt where
 | len|tupleOf|listOf|sorted|any|all|sum|max1|min1|max2|min2|intOf|boolOf|isInt|isBool|isStr|isList|isTuple
 | sortedSet|lenSet|lenSetSub|sortedKeys|valuesOf|tupleRev
 | strOf
 deriving DecidableEq
inductive Sk where
 | seq|rng|enm|rev
 | zip
 | chr
noncomputable def sk2:Sk:=.zip
set_option genInjectivity false in
inductive ME where
 | var (i:Nat)
 | bor (i:Nat)
 | cst (v:PV)
 | glob (x:Str) (v:PV)
 | bin (op:Op2) (a b:ME)
 | neg (a:ME)
 | not (a:ME)
 | and (a b:ME)
 | or (a b:ME)
 | ite (c a b:ME)
 | cmp (op:Cp) (a b:ME)
 | chain (op op':Cp) (a b c:ME)
 | tup (es:List ME)
 | lst (es:List ME)
 | idx (a i:ME)
 | slice (a lo hi:ME)
 | blt (b:Blt) (es:List ME)
 | call (f:Nat) (es:List ME)
 | callD (f:Nat) (es:List ME) (d:List Sc)
 | comp (k:Sk) (src:List ME) (js:List Nat) (cond elt:ME)
 | dget (a k d:ME)
 | dat (a k:ME)
 | dIn (neg:Bool) (k a:ME)
 | lenP (i:Nat)
 | join (x:Str) (e:ME)
 | cdat (x:Str) (e:ME)
 | comp2 (src:List ME) (js:List Nat) (cond elt:ME)
 deriving Inhabited
noncomputable def cm:List PV->Option (List Int)
 | []=>some []
 | .int i::r=>(cm r).map (i::·)
 | _=>none
noncomputable def cM:List PV->Option (List Bool)
 | []=>some []
 | .bl i::r=>(cM r).map (i::·)
 | _=>none
noncomputable def dJ:List PV->Option (List Str)
 | []=>some []
 | .str i::r=>(dJ r).map (i::·)
 | _=>none
noncomputable def aF(n:Int):Str:=Str.ofString (toString n)
noncomputable def yX(x:Str):PV->Option PV
 | .lst xs=>(dJ xs).bind λws=>if (ws.map λy=>y.length+x.length).sum<=1000000 then some (.str (Builtin.Str.glued x ws))else none
 | _=>none
noncomputable def jv:List PV->List PV->List PV
 |a::as,b::bs=>.tup [a,b]::jv as bs
 | _,_=>[]
noncomputable def fm:List (Str×List (Str×PV)):=[("MEMBERS",[("bare",.tup []),("whole",.tup []),("weight",.tup []),("pairs",.tup [.tup [.str "hole",.str "hole"]]),("bite",.tup [.str "reply",.str "paper"]),("knot",.tup [.str "reply",.str "paper"]),("cases",.tup [.tup [.str "hole",.str "reply",.str "paper"]]),("parts",.tup [.tup [.str "rest",.str "paper"]]),("fewer",.tup [.str "rest",.str "paper"]),("either",.tup [.str "rest",.str "paper",.str "rest",.str "paper"])])]
noncomputable def eJ(x:Str):PV->Option PV
 | .str k=>((fm.find? λp=>decide (p.1=x)).bind λt=>t.2.find? λp=>decide (p.1=k)).map (·.2)
 | _=>none
noncomputable def xu:PV->PV->Option (Option Sc)
 | .dI (.k kvs),.int i=>some (yV kvs i)
 | .dI (.t _),.tup _=>none
 | _,_=>none
noncomputable def Ar:DD->PV->Sc->Option DD
 | .k kvs,.int i,s=>if kvs.length<10000 then some (.k (yW kvs i s))else none
 | .t _,.tup _,_=>none
 | _,_,_=>none
noncomputable def dSc:DD->List Sc
 | .k kvs=>kvs.map (·.2)
 | .t kvs=>kvs.map (·.2)
 | .p _=>[]
 | .w _ _=>[]
noncomputable def qP(d:DD):List PV:=(dSc d).map Sc.pv
noncomputable def CV(x:Int):List Int->List Int
 | []=>[x]
 |y::r=>if y<x then y::CV x r else x::y::r
noncomputable def uM:List Int->List Int
 | []=>[]
 |x::r=>CV x (uM r)
noncomputable def dd:List Int->List Int
 | []=>[]
 |x::r=>if x∈dd r then dd r else x::dd r
noncomputable def hV{α:Type}(f:Int->Int->Option α):PV->PV->Option α
 | .int i,.int j=>f i j
 | _,_=>none
noncomputable def uN:PV->PV->Option PV
 | .int i,.int j=>some (.int (i+j))
 | .lst a,.lst b=>if a.length+b.length<=10000 then some (.lst (a++b))else none
 | .tup a,.tup b=>if a.length+b.length<=10000 then some (.tup (a++b))else none
 | .str a,.str b=>if a.length+b.length<=1000000 then some (.str (a++b))else none
 | _,_=>none
noncomputable def ez(op:Op2):PV->PV->Option PV:=match op with
 | .add=>uN
 | .sub=>hV λi j=>some (.int (i-j))
 | .mul=>hV λi j=>if (-(2 ^ 64)<i/\i<2 ^ 64)\/(-(2 ^ 64)<j/\j<2 ^ 64)then some (.int (i*j))else none
 | .fdiv=>hV λi j=>if 0<j/\j<1073741824 then some (.int (i / j))else none
 | .mod=>hV λi j=>if 0<j then some (.int (i % j))else none
 | .pow=>hV λi j=>if 0<=j/\j<=1000000/\i.natAbs<2 ^ 64 then some (.int (i ^ j.toNat))else none
 | .shr=>hV λi j=>if 0<=j then some (.int (i / 2 ^ j.toNat))else none
noncomputable def gu:PV->Bool
 | .non=>true
 | _=>false
noncomputable def isIn(x:PV)(xs:List PV):Option Bool:=inL (λy=>eqF 100 y x) xs
noncomputable def CW(a b:PV):Option Bool:=match b with
 | .non=>some (gu a)
 | .bl q=>(match a with|.bl p=>some (p==q)|_=>none)
 | _=>none
noncomputable def bE:PV->Option (List PV)
 | .tup xs=>some xs
 | .lst xs=>some xs
 | _=>none
noncomputable def gp:PV->Option (List PV)
 | .lst xs=>some xs
 | _=>none
noncomputable def pT(a:PV):PV->Option Bool
 | .str y=>match a with|.str x=>some (!(Builtin.Str.occurrences y x 0 y.length 1).isEmpty)|_=>none
 |b=>(bE b).bind (isIn a)
noncomputable def cf(op:Cp):PV->PV->Option Bool:=match op with
 | .eq=>eqF 100
 | .ne=>λa b=>if sm a b=true then(eqF 100 a b).map λp=>!p else none
 | .lt=>hV λi j=>some (decide (i<j))
 | .le=>hV λi j=>some (decide (i<=j))
 | .gt=>hV λi j=>some (decide (j<i))
 | .ge=>hV λi j=>some (decide (j<=i))
 | .isN=>CW
 | .notN=>λa b=>(CW a b).map λp=>!p
 | .isIn=>pT
 | .notIn=>λa b=>(pT a b).map λp=>!p
noncomputable def place(n:Nat)(i:Int):Option Nat:=
 if 0<=i then(if i<n then some i.toNat else none)else if -(n:Int)<=i then some (i+n).toNat else none
noncomputable def lX:PV->PV->Option PV
 | .tup xs,.int i=>(place xs.length i).bind λj=>xs[j]?
 | .lst xs,.int i=>(place xs.length i).bind λj=>xs[j]?
 | .str x,.int i=>if x.length<=1000 then(place x.cps.toList.length i).bind λj=>(x.cps.toList[j]?).map λc=>.str ⟨#[c]⟩else none
 | _,_=>none
noncomputable def hW(n d:Nat):Option Int->Nat
 |none=>d
 |some i=>if i<0 then(i+n).toNat else min i.toNat n
noncomputable def cut(xs:List PV)(lo hi:Option Int):List PV:=(xs.drop (hW xs.length 0 lo)).take (hW xs.length xs.length hi-hW xs.length 0 lo)
noncomputable def hZ:PV->Option Int->Option Int->Option PV
 | .lst xs,lo,hi=>some (.lst (cut xs lo hi))
 | .tup xs,lo,hi=>some (.tup (cut xs lo hi))
 | _,_,_=>none
noncomputable def bnd:ME->PV->Option (Option Int)
 | .cst .non,_=>some none
 | _,.int i=>some (some i)
 | _,_=>none
noncomputable def CY:List Int->Option Int
 | []=>none
 |x::r=>some (r.foldl (λa b=>if a<b then b else a) x)
noncomputable def ko(xs:List PV):Option PV:=if xs.length<2 then some (.lst xs)else none
noncomputable def isT(b:Blt):PV->Bool
 | .int _=>b==.isInt
 | .bl _=>b==.isInt||b==.isBool
 | .str _=>b==.isStr
 | .lst _=>b==.isList
 | .tup _=>b==.isTuple
 | .non=>false
 | .dI _=>false
noncomputable def isD:PV->Bool
 | .dI _=>true
 | _=>false
noncomputable def b0(vs:List PV)(f:PV->Option PV):Option PV:=match vs with
 | [a]=>f a
 | _=>none
noncomputable def jw(vs:List PV)(f:PV->PV->Option PV):Option PV:=match vs with
 | [a,b]=>f a b
 | _=>none
noncomputable def fN(b:Blt)(vs:List PV):Option PV:=b0 vs λa=>if isD a=true then none else some (.bl (isT b a))
noncomputable def yY:PV->Option PV
 | .tup xs=>some (.int xs.length)
 | .lst xs=>some (.int xs.length)
 | .dI (.k kvs)=>some (.int kvs.length)
 | .str x=>if x.length<=1000 then some (.int x.length)else none
 | _=>none
noncomputable def ay(b:Blt)(vs:List PV):Option PV:=match b with
 | .len=>b0 vs yY
 | .tupleOf=>b0 vs λa=>(bE a).map .tup
 | .listOf=>b0 vs λa=>(bE a).map .lst
 | .sorted=>b0 vs λa=>(bE a).bind ko
 | .any=>b0 vs λa=>(gp a).bind λxs=>(cM xs).map λbs=>.bl (bs.any id)
 | .all=>b0 vs λa=>(gp a).bind λxs=>(cM xs).map λbs=>.bl (bs.all id)
 | .sum=>b0 vs λa=>(gp a).bind λxs=>(cm xs).map λns=>.int ns.sum
 | .max1=>b0 vs λa=>(gp a).bind λxs=>(cm xs).bind λns=>(CY ns).map .int
 | .min1=>none
 | .max2=>jw vs (hV λi j=>some (.int (if j > i then j else i)))
 | .min2=>jw vs (hV λi j=>some (.int (if j<i then j else i)))
 | .intOf=>b0 vs λa=>match a with|.int i=>some (.int i)|.bl b=>some (.int (if b then 1 else 0))|.str x=>if x.length<=640 then(intText? x).map .int else none|_=>none
 | .boolOf=>b0 vs λa=>match a with|.bl b=>some (.bl b)|_=>none
 | .isInt=>fN .isInt vs
 | .isBool=>fN .isBool vs
 | .isStr=>fN .isStr vs
 | .isList=>fN .isList vs
 | .isTuple=>fN .isTuple vs
 | .sortedSet=>b0 vs λa=>(bE a).bind λxs=>(cm xs).bind λns=>if ns.length<2 then some (.lst (ns.map .int))else none
 | .lenSet=>b0 vs λa=>(bE a).bind λxs=>(cm xs).bind λns=>if ns.length<=4000 then some (.int (dd ns).length)else none
 | .lenSetSub=>jw vs λa b=>(bE a).bind λxs=>(cm xs).bind λns=>(bE b).bind λys=>(cm ys).bind λms =>
   if ns.length<=4000/\ms.length<=4000/\(dd ns).length<=60 then some (.int ((dd ns).filter λn=>!decide (n∈ms)).length)else none
 | .sortedKeys=>b0 vs λa=>match a with|.dI (.k kvs)=>if kvs.length<64 then some (.lst ((uM (kvs.map (·.1))).map .int))else none|_=>none
 | .tupleRev=>b0 vs λa=>(gp a).map λxs=>.tup xs.reverse
 | .strOf=>b0 vs λa=>match a with|.int i=>if i.natAbs<2 ^ 64 then some (.str (aF i))else none|_=>none
 | .valuesOf=>b0 vs λa=>match a with|.dI d=>if (qP d).length<=10000 then some (.lst (qP d))else none|_=>none
noncomputable def nY(n:Nat):List PV->List PV
 | []=>[]
 |x::r=>.tup [.int (n:Nat),x]::nY (n+1) r
noncomputable def ba:Sk->List PV->Option (List PV)
 | .seq,[a]=>bE a
 | .rng,[.int j]=>if -(2 ^ 62)<=j/\j<2 ^ 62 then some ((range j.toNat).map λ(k:Nat)=>.int ((0:Int)+k))else none
 | .rng,[.int i,.int j]=>if -(2 ^ 62)<=i/\i<2 ^ 62/\-(2 ^ 62)<=j/\j<2 ^ 62 then some ((range (j-i).toNat).map λ(k:Nat)=>.int (i+k))else none
 | .enm,[a]=>(bE a).map (nY 0)
 | .zip,[.tup xs,.tup ys]=>if xs.length=ys.length then some (jv xs ys)else none
 | .rev,[.lst xs]=>some xs.reverse
 | .chr,[.str x]=>if x.cps.all (· < 128)=true then some (x.cps.toList.map λc=>.str ⟨#[c]⟩)else none
 | _,_=>none
noncomputable def cj(c:PV->Option Bool)(f:PV->Option PV):List PV->Option (List PV)
 | []=>some []
 |x::r=>(c x).bind λb=>if b=true then(f x).bind λy=>(cj c f r).map (y::·)else cj c f r
noncomputable def aQ:PV->Option Bool
 | .bl b=>some b
 | _=>none
noncomputable abbrev Cal:=Nat->List MV->Option PV
noncomputable def uO:Option MV->Option PV
 |some (.val v)=>some v
 | _=>none
noncomputable def lv:DD->Bool
 | .p _=>false
 | .w _ _=>false
 | _=>true
noncomputable def pU:DD->Bool
 | .w _ _=>false
 | _=>true
noncomputable def bT:Option MV->Option PV
 |some (.val v)=>some v
 |some (.own xs)=>some (.lst xs)
 |some (.brw xs)=>some (.lst xs)
 |some (.ownD kvs)=>if lv kvs=true then some (.dI kvs)else none
 |some (.brwD kvs)=>if lv kvs=true then some (.dI kvs)else none
 |some (.mutD kvs)=>if lv kvs=true then some (.dI kvs)else none
 |none=>none
noncomputable def dL:Option MV->Option MV
 |some (.val v)=>some (.val v)
 |some (.own xs)=>some (.brw xs)
 |some (.brw xs)=>some (.brw xs)
 |some (.ownD xs)=>if pU xs=true then some (.brwD xs)else none
 |some (.brwD xs)=>some (.brwD xs)
 |some (.mutD xs)=>if pU xs=true then some (.brwD xs)else none
 |none=>none
noncomputable def dl:Option MV->Option MV
 |some (.own xs)=>some (.brw xs)
 |some (.ownD xs)=>if pU xs=true then some (.brwD xs)else none
 |some (.mutD xs)=>if pU xs=true then some (.brwD xs)else none
 |o=>o
noncomputable def gL(js:List Nat)(ρ:Rho)(x:PV):Rho:=some (.val x)::js.map λj=>dl (ρ[j]?).join
noncomputable def As:Option MV->Option PV
 |some (.ownD (.p ns))=>some (.int ns.length)
 |some (.mutD (.p ns))=>some (.int ns.length)
 | _=>none
noncomputable def nZ(js:List Nat)(ρ:Rho):PV->Rho
 | .tup [a,b]=>some (.val a)::some (.val b)::js.map λj=>dl (ρ[j]?).join
 | _=>[]
mutual
noncomputable def ev(cal:Cal):ME->Rho->Option PV
 | .var i,ρ=>uO (ρ[i]?).join
 | .bor i,ρ=>bT (ρ[i]?).join
 | .cst v,_=>some v
 | .glob _ v,_=>some v
 | .bin op a b,ρ=>(ev cal a ρ).bind λx=>(ev cal b ρ).bind λy=>ez op x y
 | .neg a,ρ=>(ev cal a ρ).bind λx=>match x with|.int i=>some (.int (-i))|_=>none
 | .not a,ρ=>((ev cal a ρ).bind aQ).map λb=>.bl (!b)
 | .and a b,ρ=>((ev cal a ρ).bind aQ).bind λc=>if c=true then(ev cal b ρ).bind λy=>(aQ y).map .bl else some (.bl false)
 | .or a b,ρ=>((ev cal a ρ).bind aQ).bind λc=>if c=true then some (.bl true)else(ev cal b ρ).bind λy=>(aQ y).map .bl
 | .ite c a b,ρ=>((ev cal c ρ).bind aQ).bind λk=>if k=true then ev cal a ρ else ev cal b ρ
 | .cmp op a b,ρ=>(ev cal a ρ).bind λx=>(ev cal b ρ).bind λy=>(cf op x y).map .bl
 | .chain op D a b c,ρ=>(ev cal a ρ).bind λx=>(ev cal b ρ).bind λy=>(cf op x y).bind λk=>if k=true then(ev cal c ρ).bind λz=>(cf D y z).map .bl else some (.bl false)
 | .tup es,ρ=>(evs cal es ρ).bind λvs=>if vs.length<=10000 then some (.tup vs)else none
 | .lst es,ρ=>(evs cal es ρ).bind λvs=>if vs.length<=10000 then some (.lst vs)else none
 | .idx a i,ρ=>(ev cal a ρ).bind λx=>(ev cal i ρ).bind λy=>lX x y
 | .slice a lo hi,ρ=>(ev cal a ρ).bind λx=>((ev cal lo ρ).bind λl=>bnd lo l).bind λl=>((ev cal hi ρ).bind λh=>bnd hi h).bind λh=>hZ x l h
 | .blt b es,ρ=>(evs cal es ρ).bind λvs=>ay b vs
 | .call f es,ρ=>(evA cal es ρ).bind λvs=>cal f vs
 | .callD f es d,ρ=>(evA cal es ρ).bind λvs=>cal f (vs++d.map λx=>.val x.pv)
 | .comp k src js cond elt,ρ=>(evs cal src ρ).bind λvs=>(ba k vs).bind λxs =>
   if xs.length<=10000 then(cj (λx=>(ev cal cond (gL js ρ x)).bind aQ) (λx=>ev cal elt (gL js ρ x)) xs).map .lst else none
 | .dget a k d,ρ=>(ev cal a ρ).bind λx=>(ev cal k ρ).bind λy=>(ev cal d ρ).bind λz=>(xu x y).bind λo=>(sc? z).map λs=>(o.getD s).pv
 | .dat a k,ρ=>(ev cal a ρ).bind λx=>(ev cal k ρ).bind λy=>(xu x y).bind λo=>o.map Sc.pv
 | .dIn neg k a,ρ=>(ev cal k ρ).bind λy=>(ev cal a ρ).bind λx=>(xu x y).map λo=>.bl (if neg=true then !o.isSome else o.isSome)
 | .lenP i,ρ=>As (ρ[i]?).join
 | .join x e,ρ=>(ev cal e ρ).bind (yX x)
 | .cdat x e,ρ=>(ev cal e ρ).bind (eJ x)
 | .comp2 src js cond elt,ρ=>(evs cal src ρ).bind λvs=>(ba sk2 vs).bind λxs =>
   if xs.length<=10000 then(cj (λx=>(ev cal cond (nZ js ρ x)).bind aQ) (λx=>ev cal elt (nZ js ρ x)) xs).map .lst else none
noncomputable def evs(cal:Cal):List ME->Rho->Option (List PV)
 | [],_=>some []
 |e::es,ρ=>(ev cal e ρ).bind λv=>(evs cal es ρ).map (v::·)
noncomputable def evA(cal:Cal):List ME->Rho->Option (List MV)
 | [],_=>some []
 | .bor i::es,ρ=>(dL (ρ[i]?).join).bind λv=>(evA cal es ρ).map (v::·)
 |e::es,ρ=>(ev cal e ρ).bind λv=>(evA cal es ρ).map (MV.val v::·)
end
noncomputable def evB(cal:Cal)(e:ME)(ρ:Rho):Option Bool:=(ev cal e ρ).bind aQ
noncomputable def bo:Option MV->Option DD
 |some (.ownD d)=>some d
 |some (.mutD d)=>some d
 | _=>none
noncomputable def evM(cal:Cal):List Bool->List ME->Rho->Option (List MV)
 | [],[],_=>some []
 |true::bs,.bor i::es,ρ=>(bo (ρ[i]?).join).bind λd=>(evM cal bs es ρ).map (MV.mutD d::·)
 |false::bs,e::es,ρ=>(evA cal [e] ρ).bind λa=>match a with|[.val v]=>(evM cal bs es ρ).map (MV.val v::·)|_=>none
 | _,_,_=>none
noncomputable def b5(ρ:Rho)(i:Nat)(d:DD):Rho:=match (ρ[i]?).join with
 |some (.ownD _)=>ρ.set i (some (.ownD d))
 | _=>ρ.set i (some (.mutD d))
noncomputable def eK:List Bool->List ME->List PV->Rho->Option Rho
 | [],[],[],ρ=>some ρ
 |true::bs,.bor i::es,.dI d::ds,ρ=>eK bs es ds (b5 ρ i d)
 |false::bs,_::es,ds,ρ=>eK bs es ds ρ
 | _,_,_,_=>none
noncomputable def kv(cal:Cal)(f:Nat)(z:List Bool)(es:List ME)(ρ:Rho):Option (PV×Rho):=
 match (evM cal z es ρ).bind λvs=>cal (f+2000) vs with
 |some (.tup (v::ds))=>(eK z es ds ρ).map λE=>(v,E)
 | _=>none
inductive SK where
 | one|cat|pair
noncomputable def h_:SK->PV->PV->Option PV
 | .one,_,v=>some v
 | .cat,w,v=>ez .add w v
 | .pair,w,v=>some (.tup [w,v])
noncomputable def gM:Option MV->Option MV
 |some (.val v)=>some (.val v)
 |some (.brw xs)=>some (.brw xs)
 |some (.ownD d)=>some (.mutD d)
 |some (.mutD d)=>some (.mutD d)
 |some (.brwD d)=>some (.brwD d)
 | _=>none
noncomputable def dM(js:List Nat)(ρ:Rho)(x:PV):Rho:=some (.val x)::js.map λj=>gM (ρ[j]?).join
noncomputable def lx(js:List Nat):ME->ME
 | .bor i=>.bor (if i=0 then 0 else js.getD (i-1) 0)
 |e=>e
noncomputable def aJ(cal:Cal)(js:List Nat)(k:SK)(e:ME)(f:Nat)(z:List Bool)(es:List ME):List PV->Rho->Option (List PV×Rho)
 | [],ρ=>some ([],ρ)
 |x::xs,ρ=>(ev cal e (dM js ρ x)).bind λw=>match (evM cal z es (dM js ρ x)).bind λvs=>cal (f+2000) vs with
  |some (.tup (v::ds))=>(h_ k w v).bind λr=>(eK z (es.map (lx js)) ds ρ).bind λE=>(aJ cal js k e f z es xs E).map λp=>(r::p.1,p.2)
  | _=>none
inductive XE where
 | pure (e:ME)
 | call (f:Nat) (mask:List Bool) (es:List ME)
 | pop (i:Nat)
 | bin (op:Op2) (a:XE) (b:ME)
 | fn (g:Nat) (a:XE) (es:List ME)
 | tup (xs:List XE)
 | tupOf (a:XE)
 | lst (xs:List XE)
 | fn2 (g:Nat) (e:ME) (a:XE)
 | compS (src:ME) (js:List Nat) (k:SK) (e:ME) (f:Nat) (mask:List Bool) (es:List ME)
 | nextw (i:Nat)
 | binR (op:Op2) (a:ME) (x:XE)
 | compR (x:XE) (js:List Nat) (k:SK) (e:ME) (f:Nat) (mask:List Bool) (es:List ME)
 deriving Inhabited
noncomputable def ky(cal:Cal)(i:Nat)(ρ:Rho):Option (PV×Rho):=match bo (ρ[i]?).join with
 |some (.w ws n)=>if cal 4000 []=none then none else(ws[n]?).map λx=>(.str x,b5 ρ i (.w ws (n+1)))
 | _=>none
noncomputable def At(i:Nat)(ρ:Rho):Option (PV×Rho):=match bo (ρ[i]?).join with
 |some (.p ns)=>(ns.getLast?).map λn=>(.int n,b5 ρ i (.p ns.dropLast))
 | _=>none
mutual
noncomputable def evX(cal:Cal):XE->Rho->Option (PV×Rho)
 | .pure e,ρ=>(ev cal e ρ).map λv=>(v,ρ)
 | .call f mask es,ρ=>kv cal f mask es ρ
 | .pop i,ρ=>At i ρ
 | .bin op a b,ρ=>(evX cal a ρ).bind λp=>(ev cal b p.2).bind λy=>(ez op p.1 y).map λr=>(r,p.2)
 | .fn g a es,ρ=>(evX cal a ρ).bind λp=>(evA cal es p.2).bind λvs=>(cal g (.val p.1::vs)).map λr=>(r,p.2)
 | .tup xs,ρ=>(evXs cal xs ρ).bind λp=>if p.1.length<=10000 then some (.tup p.1,p.2)else none
 | .lst xs,ρ=>(evXs cal xs ρ).bind λp=>if p.1.length<=10000 then some (.lst p.1,p.2)else none
 | .fn2 g e a,ρ=>(ev cal e ρ).bind λw=>(evX cal a ρ).bind λp=>(cal g [.val w,.val p.1]).map λr=>(r,p.2)
 | .tupOf a,ρ=>(evX cal a ρ).bind λp=>(ay .tupleOf [p.1]).map λr=>(r,p.2)
 | .compS src js k e f mask es,ρ=>(evs cal [src] ρ).bind λvs=>(ba .seq vs).bind λxs=>if xs.length<=10000 then(aJ cal js k e f mask es xs ρ).map λp=>(.lst p.1,p.2)else none
 | .nextw i,ρ=>ky cal i ρ
 | .binR op a x,ρ=>(ev cal a ρ).bind λv=>(evX cal x ρ).bind λp=>(ez op v p.1).map λr=>(r,p.2)
 | .compR x js k e f mask es,ρ=>(evX cal x ρ).bind λq=>(ba .rng [q.1]).bind λxs=>if xs.length<=10000 then(aJ cal js k e f mask es xs q.2).map λp=>(.lst p.1,p.2)else none
noncomputable def evXs(cal:Cal):List XE->Rho->Option (List PV×Rho)
 | [],ρ=>some ([],ρ)
 |x::xs,ρ=>(evX cal x ρ).bind λp=>(evXs cal xs p.2).map λq=>(p.1::q.1,q.2)
end
set_option genInjectivity false in
inductive HA where
 | cst (v:PV)
 | isi (c:Str)
 | inc (i:Nat) (m:Int)
 deriving Inhabited
inductive HE where
 | one (a:HA)
 | lst (as:List HA)
 deriving Inhabited
structure HH where
 cls:Str
 e:Option Nat
 i:Nat
 v:HE
 deriving Inhabited
noncomputable def iR (c d:Str):Bool:=d==c||d==("LoomError":Str)
noncomputable def HA.val(c:Str)(ρ:Rho):HA->Option Sc
 | .cst v=>sc? v
 | .isi d=>some (.bl (d==("ValueError":Str)||iR c d))
 | .inc i m=>match (ρ[i]?).join with
  |some (.val (.int n))=>some (.int (n+m))
  | _=>none
noncomputable def HA.vals(c:Str)(ρ:Rho):List HA->Option (List Sc)
 | []=>some []
 |a::as=>(a.val c ρ).bind λs=>(HA.vals c ρ as).map (s::·)
noncomputable def HE.val(c:Str)(ρ:Rho):HE->Option PV
 | .one a=>(a.val c ρ).map Sc.pv
 | .lst as=>if as.length<=100 then(HA.vals c ρ as).map λss=>.lst (ss.map Sc.pv)else none
noncomputable def HH.free(ρ:Rho)(h:HH):Bool:=match h.e with
 |none=>true
 |some k=>(ρ[k]?).join.isNone
inductive MS where
 | set (i:Nat) (e:ME)
 | setOwn (i:Nat) (e:ME)
 | freeze (i:Nat)
 | append (i:Nat) (e:ME)
 | extend (i:Nat) (e:ME)
 | raise (c:Str)
 | tryC (j:Option Nat) (f:Nat) (es:List ME) (hs:List HH)
 | setIdx (i:Nat) (k v:ME)
 | unpack (is:List Nat) (e:ME)
 | expr (e:ME)
 | ite (c:ME) (a b:List MS)
 | for1 (i:Nat) (k:Sk) (src:List ME) (body:List MS)
 | forT (is:List Nat) (k:Sk) (src:List ME) (body:List MS)
 | while (n:Nat) (c:ME) (body:List MS)
 | ret (e:ME)
 | retOwn (i:Nat)
 | retN
 | brk
 | cont
 | pass
 | never
 | newD (m:Bool) (i:Nat)
 | retM (e:ME)
 | retF (e:ME)
 | setCall (i f:Nat) (es:List ME)
 | clear (i:Nat)
 | mkW (i:Nat) (e:ME)
 | nomore (i:Nat)
 | isKey (x:Str) (e:ME)
 | setP (i:Nat) (e:ME)
 | setX (i:Nat) (x:XE)
 | appX (i:Nat) (x:XE)
 | retXE (x:XE)
 | forX (i:Nat) (x:XE) (body:List MS)
 | dput (i:Nat) (k v:ME)
 deriving Inhabited
inductive R where
 | next (ρ:Rho)|brk (ρ:Rho)|cont (ρ:Rho)|ret (v:PV)|bad
 | retF (xs:List PV)
 | retM (v:PV) (ρ:Rho)
 deriving Inhabited
noncomputable def R.andThen:R->(Rho->R)->R
 | .next ρ,k=>k ρ
 |r,_=>r
noncomputable def put(ρ:Rho)(i:Nat)(v:MV):Rho:=ρ.set i (some v)
noncomputable def dq(o:Option PV)(k:PV->R):R:=match o with
 |some v=>k v
 |none=>.bad
noncomputable def uP(o:Option Bool)(k:Bool->R):R:=match o with
 |some v=>k v
 |none=>.bad
noncomputable def CZ:List Nat->List PV->Rho->Option Rho
 | [],[],ρ=>some ρ
 |i::is,v::vs,ρ=>CZ is vs (put ρ i (.val v))
 | _,_,_=>none
noncomputable def yZ(is:List Nat):PV->Rho->Option Rho
 | .tup vs,ρ=>CZ is vs ρ
 | _,_=>none
noncomputable def gw(o:Option Rho)(f:Rho->R):R:=match o with
 |some ρ=>f ρ
 |none=>.bad
noncomputable def bH(body:PV->Rho->R):List PV->Rho->R
 | [],ρ=>.next ρ
 |x::r,ρ=>match body x ρ with
  | .next E=>bH body r E
  | .cont E=>bH body r E
  | .brk E=>.next E
  | .ret v=>.ret v
  | .bad=>.bad
  | .retF xs=>.retF xs
  | .retM v E=>.retM v E
noncomputable def mJ(c:Rho->Option Bool)(body:Rho->R):Nat->Rho->R
 |0,_=>.bad
 |n+1,ρ=>match c ρ with
  |none=>.bad
  |some false=>.next ρ
  |some true=>match body ρ with
   | .next E=>mJ c body n E
   | .cont E=>mJ c body n E
   | .brk E=>.next E
   | .ret v=>.ret v
   | .bad=>.bad
   | .retF xs=>.retF xs
   | .retM v E=>.retM v E
noncomputable def bF(z:List ME)(ρ:Rho):Rho:=match z with
 | [.bor i]=>(match (ρ[i]?).join with|some (.own xs)=>put ρ i (.brw xs)|_=>ρ)
 | _=>ρ
noncomputable def bP(D:List ME)(z ρ:Rho):Rho:=match D with
 | [.bor i]=>(match (z[i]?).join,(ρ[i]?).join with|some (.own _),some (.brw xs)=>put ρ i (.own xs)|_,_=>ρ)
 | _=>ρ
noncomputable def R.back(D:List ME)(z:Rho):R->R
 | .next ρ=>.next (bP D z ρ)
 | .brk ρ=>.brk (bP D z ρ)
 | .cont ρ=>.cont (bP D z ρ)
 | .retM v ρ=>.retM v (bP D z ρ)
 |r=>r
mutual
noncomputable def ex(cal:Cal):MS->Rho->R
 | .set i e,ρ=>dq (ev cal e ρ) λv=>.next (put ρ i (.val v))
 | .setOwn i e,ρ=>dq (ev cal e ρ) λv=>match v with|.lst xs=>.next (put ρ i (.own xs))|_=>.bad
 | .freeze i,ρ=>match (ρ[i]?).join with|some (.own xs)=>.next (put ρ i (.val (.lst xs)))|some _=>.next ρ|none=>.bad
 | .append i e,ρ=>dq (ev cal e ρ) λv=>match (ρ[i]?).join with
  |some (.own xs)=>if xs.length<10000 then .next (put ρ i (.own (xs++[v])))else .bad
  | _=>.bad
 | .extend i e,ρ=>dq (ev cal e ρ) λv=>match (ρ[i]?).join,bE v with
  |some (.own xs),some ys=>if xs.length+ys.length<=10000 then .next (put ρ i (.own (xs++ys)))else .bad
  | _,_=>.bad
 | .raise _,_=>.bad
 | .tryC j f es hs,ρ=>match (evA cal es ρ).bind λvs=>cal (f+5000) vs with
  |some (.tup [v])=>(match j with
   |some j=>.next (put ρ j (.val v))
   |none=>.next ρ)
  |some (.str c)=>(match hs.find? λh=>iR c h.cls with
   |some h=>(match h.v.val c ρ with
    |some v=>if h.free ρ=true then .next (put ρ h.i (.val v))else .bad
    |none=>.bad)
   |none=>.bad)
  | _=>.bad
 | .setIdx i k v,ρ=>dq (ev cal v ρ) λv=>dq (ev cal k ρ) λk=>match (ρ[i]?).join,k with
  |some (.own xs),.int k=>(match place xs.length k with|some j=>.next (put ρ i (.own (xs.set j v)))|none=>.bad)
  | _,_=>.bad
 | .unpack is e,ρ=>dq (ev cal e ρ) λv=>gw (yZ is v ρ) .next
 | .expr e,ρ=>dq (ev cal e ρ) λ_=>.next ρ
 | .ite c a b,ρ=>uP (evB cal c ρ) λk=>if k=true then exs cal a ρ else exs cal b ρ
 | .for1 i k src body,ρ=>match (evs cal src ρ).bind (ba k)with
  |some xs=>(bH (λx E=>exs cal body (put E i (.val x))) xs (bF src ρ)).back src ρ
  |none=>.bad
 | .forT is k src body,ρ=>match (evs cal src ρ).bind (ba k)with
  |some xs=>(bH (λx E=>gw (yZ is x E) λz=>exs cal body z) xs (bF src ρ)).back src ρ
  |none=>.bad
 | .while n c body,ρ=>mJ (evB cal c) (λE=>exs cal body E) n ρ
 | .ret e,ρ=>dq (ev cal e ρ) .ret
 | .retOwn i,ρ=>match (ρ[i]?).join with|some (.own xs)=>.ret (.lst xs)|some (.ownD kvs)=>if lv kvs=true then .ret (.dI kvs)else .bad|some (.val v)=>.ret v|_=>.bad
 | .newD m i,ρ=>.next (put ρ i (.ownD (if m=true then .t []else .k [])))
 | .dput i k v,ρ=>dq (ev cal v ρ) λv=>dq (ev cal k ρ) λk=>match (ρ[i]?).join,sc? v with
  |some (.ownD d),some s=>match Ar d k s with|some d'=>.next (put ρ i (.ownD d'))|none=>.bad
  |some (.mutD d),some s=>match Ar d k s with|some d'=>.next (put ρ i (.mutD d'))|none=>.bad
  | _,_=>.bad
 | .retM e,ρ=>dq (ev cal e ρ) λv=>.retM v ρ
 | .retF e,ρ=>dq (ev cal e ρ) λv=>match v with|.lst xs=>.retF xs|_=>.bad
 | .setCall i f es,ρ=>dq ((evA cal es ρ).bind λvs=>cal (f+1000) vs) λv=>match v with|.lst xs=>.next (put ρ i (.own xs))|_=>.bad
 | .clear i,ρ=>match (ρ[i]?).join with|some (.own _)=>.next (put ρ i (.own []))|_=>.bad
 | .setP i e,ρ=>match ev cal e ρ with
  |some (.lst xs)=>(match cm xs with
   |some ns=>.next (put ρ i (.ownD (.p ns.reverse)))
   |none=>.bad)
  | _=>.bad
 | .mkW i e,ρ=>match ev cal e ρ with
  |some (.str x)=>if x.length<=1000000/\(Txt.split x (" ":Str)).length<=1000000/\cal 4000 []≠none then .next (put ρ i (.ownD (.w (Txt.split x (" ":Str)) 0)))else .bad
  | _=>.bad
 | .nomore i,ρ=>match bo (ρ[i]?).join with
  |some (.w ws n)=>if n=ws.length/\cal 4000 []≠none then .next ρ else .bad
  | _=>.bad
 | .isKey x e,ρ=>match (ev cal e ρ).bind (eJ x)with
  |some _=>.next ρ
  |none=>.bad
 | .setX i x,ρ=>match evX cal x ρ with
  |some (v,E)=>.next (put E i (.val v))
  |none=>.bad
 | .appX i x,ρ=>match (ρ[i]?).join with
  |some (.own _)=>(match evX cal x ρ with
   |some (v,E)=>(match (E[i]?).join with
    |some (.own xs)=>if xs.length<10000 then .next (put E i (.own (xs++[v])))else .bad
    | _=>.bad)
   |none=>.bad)
  | _=>.bad
 | .retXE x,ρ=>match evX cal x ρ with
  |some (v,E)=>.retM v E
  |none=>.bad
 | .forX i x body,ρ=>match evX cal x ρ with
  |some (v,E)=>(match ba .rng [v]with
   |some xs=>bH (λy z=>exs cal body (put z i (.val y))) xs E
   |none=>.bad)
  |none=>.bad
 | .retN,_=>.ret .non
 | .brk,ρ=>.brk ρ
 | .cont,ρ=>.cont ρ
 | .pass,ρ=>.next ρ
 | .never,_=>.bad
noncomputable def exs(cal:Cal):List MS->Rho->R
 | [],ρ=>.next ρ
 |s::ss,ρ=>(ex cal s ρ).andThen λE=>exs cal ss E
end
structure MD where
 name:Str
 params:List Str
 names:List Str
 body:List MS
 deriving Inhabited
noncomputable def c8:List MV->Rho->Option (List PV)
 | [],_=>some []
 | .mutD _::as,some (.mutD d)::ρ=>(c8 as ρ).map (.dI d::·)
 | .val _::as,_::ρ=>c8 as ρ
 | _,_=>none
inductive RE where
 | fin (r:R)|err (c:Str)
noncomputable def pV:MS->Bool
 | .freeze _=>true
 | _=>false
noncomputable def RE.back(D:List ME)(z:Rho):RE->RE
 | .fin r=>.fin (r.back D z)
 | .err c=>.err c
noncomputable def bU(cal:Cal)(js:List Nat)(e:ME)(f:Nat)(z:List Bool)(es:List ME):List PV->Rho->Option Str
 | [],_=>none
 |x::xs,ρ=>match aJ cal js .one e f z es [x] ρ with
  |some p=>bU cal js e f z es xs p.2
  |none=>(match (evM cal z es (dM js ρ x)).bind λvs=>cal (f+5000) vs with
   |some (.str c)=>some c
   | _=>none)
noncomputable def cq(cal:Cal):XE->Rho->Option Str
 | .call f mask es,ρ=>(match (evM cal mask es ρ).bind λvs=>cal (f+5000) vs with
  |some (.str c)=>some c
  | _=>none)
 | .tupOf x,ρ=>cq cal x ρ
 | .binR _ a x,ρ=>(ev cal a ρ).bind λ_=>cq cal x ρ
 | .compS src js .one e f mask es,ρ=>(evs cal [src] ρ).bind λvs=>(ba .seq vs).bind λxs=>if xs.length<=10000 then bU cal js e f mask es xs ρ else none
 | .compR x js .one e f mask es,ρ=>(evX cal x ρ).bind λq=>(ba .rng [q.1]).bind λxs=>if xs.length<=10000 then bU cal js e f mask es xs q.2 else none
 | _,_=>none
noncomputable def fO(cal:Cal)(x:XE)(ρ:Rho)(r:R):RE:=match evX cal x ρ with
 |some _=>.fin r
 |none=>(match cq cal x ρ with
  |some c=>.err c
  |none=>.fin .bad)
mutual
noncomputable def exE(cal:Cal):MS->Rho->RE
 | .raise k,_=>.err k
 | .setX i x,ρ=>fO cal x ρ (ex cal (.setX i x) ρ)
 | .retXE x,ρ=>fO cal x ρ (ex cal (.retXE x) ρ)
 | .ite c a b,ρ=>(match evB cal c ρ with
  |some k=>if k=true then exsE cal a ρ else exsE cal b ρ
  |none=>.fin .bad)
 |m,ρ=>.fin (ex cal m ρ)
noncomputable def exsE(cal:Cal):List MS->Rho->RE
 | [],ρ=>.fin (.next ρ)
 |m::ms,ρ=>if pV m=true then .fin .bad else(match exE cal m ρ with
  | .fin (.next E)=>exsE cal ms E
  |r=>r)
end
noncomputable def sr:RE->Option PV
 | .fin (.next _)=>some (.tup [.non])
 | .fin (.ret v)=>some (.tup [v])
 | .err c=>some (.str c)
 | _=>none
noncomputable def aa(ds:List MD):Nat->Cal
 |0,_,_=>none
 |n+1,f,args=>match ds[f]? with
  |none=>if 2000<=f then(
   if f=4000 then(if 4<=n then some (.bl true)else none)else
   if 5000<=f then(match ds[f-5000]? with
   |none=>none
   |some d=>if args.length=d.params.length then sr (exsE (aa ds n) d.body (args.map some++replicate (d.names.length-args.length) none))else none)else
   match ds[f-2000]? with
   |none=>none
   |some d=>if args.length=d.params.length then
     (match exs (aa ds n) d.body (args.map some++replicate (d.names.length-args.length) none)with
     | .retM v ρ=>(c8 args ρ).map λds=>.tup (v::ds)
     | _=>none)else none)else
   (match ds[f-1000]? with
   |none=>none
   |some d=>if args.length=d.params.length then
     (match exs (aa ds n) d.body (args.map some++replicate (d.names.length-args.length) none)with
     | .retF xs=>some (.lst xs)
     | _=>none)else none)
  |some d=>if args.length=d.params.length then
    (match exs (aa ds n) d.body (args.map some++replicate (d.names.length-args.length) none)with
    | .next _=>some .non
    | .ret v=>some v
    | .retF xs=>some (.lst xs)
    | _=>none)else none
end MM
namespace MM
open PySem PySem.Spec PyProof.Rows L2 List Option
noncomputable abbrev St:=L2.St
noncomputable def al(H:Hp)(O:List Addr):Hp:=λb=>if b∈O then none else H b
def cy(h:b∈O):al H O b=none:=if_pos h
def aG(h:b∉O):al H O b=H b:=if_neg h
theorem ae.rd(s:ae H H')(h:Rd H a u):Rd H' a u:=h.elim (λe=>.inl (s a _ e)) λ⟨o,e⟩=>.inr ⟨o,s a _ e⟩
def bB(H)(O):ae (al H O) H:=λb u e=>by
 unfold al at e
 simp_all
def bi(s:ae H H')(h:∀b∈G,b∈O\/H b=none):ae (al H O) (al H' G):=λb u e=>by
 have D:b∉O:=λz=>by rw[cy z]at e;cases e
 rw[aG D]at e;rw[aG]
 .exact s b u e
 .intro z;rcases h b z with q|q
  .exact D q
  .rw[q]at e;cases e
def ah(s:ae H H'):ae (al H O) (al H' O):=bi s λ_ h=>.inl h
noncomputable def Sc.v:Sc->V
 | .non=>.non
 | .bl b=>.bl b
 | .int i=>.int i
 | .str x=>.str x
noncomputable def pW(kvs:List (Int×Sc)):List (Key×V):=kvs.map λp=>(Sum.inl p.1,p.2.v)
noncomputable def xv(kvs:List (List Int×Sc)):List (List Key×V):=kvs.map λp=>(p.1.map Sum.inl,p.2.v)
noncomputable def ia:DD->HO
 | .k kvs=>.dK (pW kvs)
 | .t kvs=>.dT (xv kvs)
 | .p ns=>.lst (ns.map V.int)
 | .w _ _=>.lst []
def RdD(F:Hp)(a:Addr)(d:DD):Prop:=Rd F a (ia d)/\lv d=true
theorem RdD.rd(h:RdD F a d):Rd F a (ia d):=h.1
theorem ae.rdD(s:ae H H')(h:RdD H a d):RdD H' a d:=⟨ae.rd s h.1,h.2⟩
mutual
noncomputable def Rep(K:IF)(F:Hp):PV->V->Prop
 | .non,u=>u=.non
 | .bl b,u=>u=.bl b
 | .int i,u=>u=.int i
 | .str x,u=>u=.str x
 | .tup xs,u=>∃a us,u=.ref a/\SqT K F a us/\Reps K F xs us
 | .lst xs,u=>∃a us,u=.ref a/\SqL K F a us/\Reps K F xs us
 | .dI kvs,u=>∃a,u=.ref a/\RdD F a kvs
noncomputable def Reps(K:IF)(F:Hp):List PV->List V->Prop
 | [],us=>us=[]
 |x::xs,us=>∃u r,us=u::r/\Rep K F x u/\Reps K F xs r
end
section
variable{K:IF}{F F':Hp}
mutual
theorem Rep.mono(s:ae F F'):∀(x:PV) {u:V},Rep K F x u->Rep K F' x u
 | .non,_,h=>by simpa only[Rep]using h
 | .bl _,_,h=>by simpa only[Rep]using h
 | .int _,_,h=>by simpa only[Rep]using h
 | .str _,_,h=>by simpa only[Rep]using h
 | .tup xs,_,h=>by
  rw[Rep]at h ⊢;obtain⟨a,us,e,q,r⟩:=h;exact⟨a,us,e,s.seqT q,Reps.mono s xs r⟩
 | .lst xs,_,h=>by
  rw[Rep]at h ⊢;obtain⟨a,us,e,q,r⟩:=h;exact⟨a,us,e,s.seq q,Reps.mono s xs r⟩
 | .dI kvs,_,h=>by
  rw[Rep]at h ⊢;obtain⟨a,e,q⟩:=h;exact⟨a,e,ae.rdD s q⟩
theorem Reps.mono(s:ae F F'):∀(xs:List PV) {us:List V},Reps K F xs us->Reps K F' xs us
 | [],_,h=>by simpa only[Reps]using h
 |x::xs,_,h=>by
  rw[Reps]at h ⊢;obtain⟨u,r,e,q,t⟩:=h;exact⟨u,r,e,Rep.mono s x q,Reps.mono s xs t⟩
end
theorem Reps.nil:Reps K F [] []:=rfl
theorem Reps.cons{u:V}{us:List V}(h:Rep K F x u)(t:Reps K F xs us):Reps K F (x::xs) (u::us):=by
 rw[Reps];exact⟨u,us,rfl,h,t⟩
theorem Reps.length:∀{xs}{us},Reps K F xs us->xs.length=us.length
 | [],_,h=>by rw[Reps]at h;subst h;rfl
 |x::xs,_,h=>by
  obtain⟨u,r,e,_,t⟩:=h;subst e;simp[Reps.length t]
theorem Reps.get:∀{xs}{us}{i:Nat}{x},Reps K F xs us->xs[i]?=some x->∃u,us[i]?=some u/\Rep K F x u
 | [],_,_,_,_,e=>by simp at e
 |x::xs,_,i,y,h,e=>by
  obtain⟨u,r,rfl,q,t⟩:=h;cases i with
  |zero=>simp at e;subst e;exact⟨u,by simp,q⟩
  |succ i=>obtain⟨w,h1,h2⟩:=Reps.get (i:=i) t (by simpa using e);exact⟨w,by simpa using h1,h2⟩
theorem Reps.get':∀{xs}{us}{i:Nat}{u},Reps K F xs us->us[i]?=some u->∃x,xs[i]?=some x/\Rep K F x u
 | [],_,i,_,h,e=>by rw[Reps]at h;subst h;simp at e
 |x::xs,_,i,y,h,e=>by
  obtain⟨u,r,rfl,q,t⟩:=h;cases i with
  |zero=>simp at e;subst e;exact⟨x,by simp,q⟩
  |succ i=>obtain⟨w,h1,h2⟩:=Reps.get' (i:=i) t (by simpa using e);exact⟨w,by simpa using h1,h2⟩
theorem Reps.append:∀{xs ys}{us ws},Reps K F xs us->Reps K F ys ws->Reps K F (xs++ys) (us++ws)
 | [],_,_,_,h,g=>by rw[Reps]at h;subst h;exact g
 |x::xs,_,_,_,h,g=>by
  obtain⟨u,r,rfl,q,t⟩:=h;exact .cons q (Reps.append t g)
theorem Reps.snoc(h:Reps K F xs us)(g:Rep K F x u):Reps K F (xs++[x]) (us++[u]):=h.append (.cons g .nil)
theorem Reps.take:∀{xs}{us} n,Reps K F xs us->Reps K F (xs.take n) (us.take n)
 | _,_,0,_=>by simpa using Reps.nil
 | [],_,n+1,h=>by rw[Reps]at h;subst h;simpa using Reps.nil
 |x::xs,_,n+1,h=>by
  obtain⟨u,r,rfl,q,t⟩:=h;exact .cons q (Reps.take n t)
theorem Reps.drop:∀{xs}{us} n,Reps K F xs us->Reps K F (xs.drop n) (us.drop n)
 | _,_,0,h=>h
 | [],_,n+1,h=>by rw[Reps]at h;subst h;simpa using Reps.nil
 |x::xs,_,n+1,h=>by
  obtain⟨u,r,rfl,q,t⟩:=h;exact Reps.drop n t
theorem Reps.ints:∀{ns:List Int}{us},Reps K F (ns.map .int) us->us=ns.map V.int
 | [],_,h=>by simpa[Reps]using h
 |n::ns,_,h=>by
  obtain⟨u,r,rfl,q,t⟩:=h;rw[q,Reps.ints t];rfl
theorem Reps.of_ints:∀(ns:List Int),Reps K F (ns.map .int) (ns.map V.int)
 | []=>.nil
 |n::ns=>.cons (by rw[Rep]) (Reps.of_ints ns)
theorem kz:∀{xs}{ns},cm xs=some ns->xs=ns.map .int
 | [],_,h=>by simp[cm]at h;subst h;rfl
 | .int i::r,ns,h=>by
  simp[cm]at h;obtain⟨ms,h1,rfl⟩:=h;rw[kz h1];rfl
 | .non::_,_,h=>by simp[cm]at h
 | .bl _::_,_,h=>by simp[cm]at h
 | .str _::_,_,h=>by simp[cm]at h
 | .tup _::_,_,h=>by simp[cm]at h
 | .lst _::_,_,h=>by simp[cm]at h
 | .dI _::_,_,h=>by simp[cm]at h
theorem iS:∀{xs}{ns},cM xs=some ns->xs=ns.map .bl
 | [],_,h=>by simp[cM]at h;subst h;rfl
 | .bl i::r,ns,h=>by
  simp[cM]at h;obtain⟨ms,h1,rfl⟩:=h;rw[iS h1];rfl
 | .non::_,_,h=>by simp[cM]at h
 | .int _::_,_,h=>by simp[cM]at h
 | .str _::_,_,h=>by simp[cM]at h
 | .tup _::_,_,h=>by simp[cM]at h
 | .lst _::_,_,h=>by simp[cM]at h
 | .dI _::_,_,h=>by simp[cM]at h
end
def dN{K:IF}{H:Hp}{a:Addr}{us:List V}(h:SqT K H a us):SqT K H a us:=h
def bD(K:IF)(H:Hp)(O:List Addr)(v:PV)(u:V):Prop:=
 Rep K (al H O) v u\/(∃xs a us,v=.lst xs/\u=.ref a/\SqL K H a us/\Reps K (al H O) xs us)\/∃kvs a,v=.dI kvs/\u=.ref a/\RdD H a kvs
section
variable{K:IF}{H H':Hp}{O:List Addr}
theorem bD.mono(s:ae H H')(h:bD K H O v u):bD K H' O v u:=by
 rcases h with h|⟨xs,a,us,z,D,q,r⟩|⟨kvs,a,z,D,q⟩
 .exact .inl (Rep.mono (ah s) _ h)
 .exact .inr (.inl ⟨xs,a,us,z,D,s.seq q,Reps.mono (ah s) _ r⟩)
 .exact .inr (.inr ⟨kvs,a,z,D,ae.rdD s q⟩)
theorem bD.lst(h:bD K H O (.lst xs) u):∃a us,u=.ref a/\SqL K H a us/\Reps K (al H O) xs us:=by
 rcases h with h|⟨ys,a,us,z,D,q,r⟩|⟨kvs,a,z,D,q⟩
 .rw[Rep]at h;obtain⟨a,us,e,q,r⟩:=h;exact⟨a,us,e,(bB H O).seq q,r⟩
 .cases z;exact⟨a,us,D,q,r⟩
 .cases z
theorem bD.tup{xs:List PV}{u:V}(h:bD K H O (.tup xs) u):∃a us,u=.ref a/\SqT K H a us/\Reps K (al H O) xs us:=by
 rcases h with h|⟨ys,a,us,z,D,q,r⟩|⟨kvs,a,z,D,q⟩
 .rw[Rep]at h;obtain⟨a,us,e,q,r⟩:=h;exact⟨a,us,e,(bB H O).seqT q,r⟩
 .cases z
 .cases z
def bD.tupR(h:bD K H O (.tup xs) u):Rep K (al H O) (.tup xs) u:=by
 rcases h with h|⟨ys,a,us,z,D,q,r⟩|⟨kvs,a,z,D,q⟩
 .exact h
 .cases z
 .cases z
theorem bD.dI(h:bD K H O (.dI kvs) u):∃a,u=.ref a/\RdD H a kvs:=by
 rcases h with h|⟨ys,a,us,z,D,q,r⟩|⟨kvs,a,z,D,q⟩
 .rw[Rep]at h;obtain⟨a,e,q⟩:=h;exact⟨a,e,ae.rdD (bB H O) q⟩
 .cases z
 .simp_all
theorem bD.int(h:bD K H O (.int i) u):u=.int i:=by
 rcases h with h|⟨ys,a,us,z,D,q,r⟩|⟨kvs,a,z,D,q⟩
 .rw[Rep]at h;exact h
 .cases z
 .cases z
theorem bD.bl(h:bD K H O (.bl i) u):u=.bl i:=by
 rcases h with h|⟨ys,a,us,z,D,q,r⟩|⟨kvs,a,z,D,q⟩
 .rw[Rep]at h;exact h
 .cases z
 .cases z
theorem bD.str(h:bD K H O (.str i) u):u=.str i:=by
 rcases h with h|⟨ys,a,us,z,D,q,r⟩|⟨kvs,a,z,D,q⟩
 .rw[Rep]at h;exact h
 .cases z
 .cases z
theorem bD.non(h:bD K H O .non u):u=.non:=by
 rcases h with h|⟨ys,a,us,z,D,q,r⟩|⟨kvs,a,z,D,q⟩
 .rw[Rep]at h;exact h
 .cases z
 .cases z
theorem bD.seq(h:bD K H O v u)(e:bE v=some xs):∃a us,u=.ref a/\(SqL K H a us\/SqT K H a us)/\Reps K (al H O) xs us:=by
 cases v<;>first|(simp[bE]at e;subst e;obtain⟨a,us,e,q,r⟩:=h.lst;exact⟨a,us,e,.inl q,r⟩)|(simp[bE]at e;subst e;obtain⟨a,us,e,q,r⟩:=h.tup;exact⟨a,us,e,.inr q,r⟩)|simp[bE]at e
def bD.whole(h:bD K H O v u):Rep K H v u:=by
 rcases h with h|⟨xs,a,us,rfl,z,q,r⟩|⟨kvs,a,rfl,z,q⟩
 .exact Rep.mono (bB H O) _ h
 .rw[Rep];exact⟨a,us,z,q,Reps.mono (bB H O) _ r⟩
 .rw[Rep];exact⟨a,z,q⟩
end
def IsW (K:IF) (C:Addr):Prop:=PySem.W.nsIn K mainGlobals "Words"=some (some (.ref C))
def DAt(K:IF)(H:Hp)(O:List Addr)(a:Addr):DD->Prop
 | .w ws n=>∃C dx l,H a=some (.ins C dx [("words",.ref l),("place",.int (n:Nat))])/\IsW K C/\SqL K (al H O) l (ws.map V.str)
 |d=>H a=some (ia d)
theorem DAt.enc{K:IF}{H:Hp}{O:List Addr}{a:Addr}{d:DD}(h:DAt K H O a d)(hw:pU d=true):H a=some (ia d):=by
 cases d<;>first|exact h|cases hw
theorem DAt.np{K:IF}{H:Hp}{O:List Addr}{a:Addr}{d:DD}(h:DAt K H O a d)(hw:lv d=true):H a=some (ia d):=by
 cases d<;>first|exact h|cases hw
def ifW{d:DD}{m:MV}(e:(if pU d=true then some (MV.brwD d)else none)=some m):m=.brwD d/\pU d=true:=by
 split at e
 .rename_i h;exact⟨(FV e).symm,h⟩
 .cases e
theorem DAt.here{K:IF}{H:Hp}{O:List Addr}{a:Addr}{d:DD}(h:DAt K H O a d):∃o,H a=some o:=by
 cases d<;>first|exact⟨_,h⟩|exact let ⟨_,_,_,e,_⟩:=h;⟨_,e⟩
theorem DAt.move{K:IF}{H H':Hp}{O z:List Addr}{a:Addr}{d:DD}(h:DAt K H O a d)(e:∀o,H a=some o->H' a=some o)(v:ae (al H O) (al H' z)):DAt K H' z a d:=by
 cases d with
 |w ws n=>exact let ⟨C,dx,l,h1,h2,D⟩:=h;⟨C,dx,l,e _ h1,h2,v.seq D⟩
 |k _=>exact e _ h
 |t _=>exact e _ h
 |p _=>exact e _ h
def dO(K:IF)(B:Hp)(O:List Addr)(H:Hp):MV->V->Prop
 | .val v,u=>Rep K (al H O) v u
 | .own xs,u=>∃a us,u=.ref a/\H a=some (.lst us)/\Reps K (al H O) xs us/\a∈O/\B a=none
 | .brw xs,u=>∃a us,u=.ref a/\SqL K B a us/\Reps K (al H O) xs us
 | .ownD kvs,u=>∃a,u=.ref a/\DAt K H O a kvs/\a∈O/\B a=none
 | .mutD kvs,u=>∃a,u=.ref a/\DAt K H O a kvs/\a∈O/\B a=none
 | .brwD kvs,u=>∃a,u=.ref a/\Rd B a (ia kvs)
noncomputable def fP:MV->Bool
 | .own _=>true
 | .ownD _=>true
 | .mutD _=>true
 | _=>false
structure ar(K:IF)(B:Hp)(A O:List Addr)(H:Hp)(ρ:Rho)(σ:St):Prop where
 keep:ae B H
 here:∀a∈O,H a≠none
 sub:∀a∈A,a∈O
 old:∀a∈A,B a≠none
 len:ρ.length=σ.length
 slot:∀(i:Nat) (m:MV),ρ[i]?=some (some m)->∃u,σ[i]?=some (some u)/\dO K B O H m u
 apart:∀(i j:Nat) (m m':MV) (a:Addr),i≠j->ρ[i]?=some (some m)->ρ[j]?=some (some m')->fP m=true->fP m'=true->σ[i]?=some (some (.ref a))->σ[j]?≠some (some (.ref a))
section
variable{K:IF}{B H H':Hp}{A O:List Addr}{ρ:Rho}{σ:St}
theorem dO.mono(s:ae H H')(h:dO K B O H m u):dO K B O H' m u:=by
 cases m with
 |val v=>exact Rep.mono (ah s) _ h
 |own xs=>obtain⟨a,us,e,q,r,h1,h2⟩:=h;exact⟨a,us,e,s _ _ q,Reps.mono (ah s) _ r,h1,h2⟩
 |brw xs=>obtain⟨a,us,e,q,r⟩:=h;exact⟨a,us,e,q,Reps.mono (ah s) _ r⟩
 |brwD kvs=>exact h
 | _=>obtain⟨a,e,q,h1,h2⟩:=h;exact⟨a,e,q.move (s _) (ah s),h1,h2⟩
theorem ar.mono(s:ae H H')(h:ar K B A O H ρ σ):ar K B A O H' ρ σ where
 keep:=h.keep.trans s
 here:=λa z e=>h.here a z (s.free e)
 sub:=h.sub
 old:=h.old
 len:=h.len
 slot:=λi m e=>let ⟨u,D,q⟩:=h.slot i m e;⟨u,D,q.mono s⟩
 apart:=h.apart
theorem dO.bor(z:ae B H)(h:dO K B O H m u)(e:bT (some m)=some v):bD K H O v u:=by
 cases m with
 |val w=>simp[bT]at e;subst e;exact .inl h
 |own xs=>simp[bT]at e;subst e;obtain⟨a,us,e,q,r,_⟩:=h;exact .inr (.inl ⟨xs,a,us,rfl,e,SqL.of q,r⟩)
 |brw xs=>simp[bT]at e;subst e;obtain⟨a,us,e,q,r⟩:=h;exact .inr (.inl ⟨xs,a,us,rfl,e,z.seq q,r⟩)
 |ownD kvs|mutD kvs=>simp[bT]at e;obtain⟨np,rfl⟩:=e;obtain⟨a,e,q,_⟩:=h;exact .inr (.inr ⟨kvs,a,rfl,e,.inl (q.np np),np⟩)
 |brwD kvs=>simp[bT]at e;obtain⟨np,rfl⟩:=e;obtain⟨a,e,q⟩:=h;exact .inr (.inr ⟨kvs,a,rfl,e,ae.rd z q,np⟩)
end
def av{α:Type}{o:Option (Option α)}{x:α}(h:o.join=some x):o=some (some x):=by
 cases o<;>simp_all
def xw(h:bT (some (.ownD d))=some v):v=.dI d:=by simp_all [bT]
def xx(h:bT (some (.brwD d))=some v):v=.dI d:=by simp_all [bT]
def xy(h:bT (some (.mutD d))=some v):v=.dI d:=by simp_all [bT]
structure Tab where
 fs:List Str
 gs:List (Str×PV)
 ds:List (List Sc)
 es:List Str
noncomputable def Au(sc:Scope)(x:Str):Bool:=sc.names.lookup x==some .local||sc.names.lookup x==some .cell||sc.names.lookup x==some .free
noncomputable def d8(sc:Scope)(x:Str):Bool:=sc.names.lookup x==some .local||sc.names.lookup x==some .cell
noncomputable def glB(sc:Scope)(x:Str):Bool:=sc.names.lookup x==some .globalImplicit
noncomputable def aj (x:Str):Bool:=!(x==("__debug__":Str))&&!(x==("__classdict__":Str))&&!(x==("__name__":Str))
noncomputable def aR(N:List Str)(sc:Scope)(i:Nat)(x:Str):Bool:=N[i]?==some x&&Au sc x&&aj x
noncomputable def onQ{α:Type}:Option α->(α->Bool)->Bool
 |some a,f=>f a
 |none,_=>false
def ag(h:onQ o f=true):∃a,o=some a/\f a=true:=by
 cases o with
 |none=>cases h
 |some a=>exact⟨a,rfl,h⟩
def aM{α z:Type}{o:Option α}{f:α->Option z}{b:z}(h:o.bind f=some b):∃a,o=some a/\f a=some b:=l0.mp h
noncomputable def okQ{α:Type}(b:Bool)(x:α):Option α:=if b=true then some x else none
def dP(h:okQ b x=some y):b=true/\x=y:=by
 cases b with
 |false=>cases h
 |true=>cases h;exact⟨rfl,rfl⟩
noncomputable def fQ{α:Type}:List α->Option α
 | [x]=>some x
 | _=>none
def bJ(h:fQ l=some x):l=[x]:=by
 rcases l with _|⟨a,_|⟨b,l⟩⟩<;>cases h
 rfl
noncomputable def su{α:Type}:List α->Option (α×α)
 | [x,y]=>some (x,y)
 | _=>none
def ib(h:su l=some q):l=[q.1,q.2]:=by
 rcases l with _|⟨a,_|⟨b,_|⟨c,l⟩⟩⟩<;>cases h
 rfl
noncomputable def nmP:Expr->Option (Str×Pos)
 | .Name x p=>some (x,p)
 | _=>none
def bR(h:nmP e=some q):e=.Name q.1 q.2:=by
 cases e<;>cases h
 rfl
noncomputable def caP:Expr->Option (Expr×List Expr×List Keyword×Pos)
 | .Call f as ks p=>some (f,as,ks,p)
 | _=>none
def uQ(h:caP e=some q):e=.Call q.1 q.2.1 q.2.2.1 q.2.2.2:=by
 cases e<;>cases h
 rfl
noncomputable def atP:Expr->Option (Expr×Str×Pos)
 | .Attribute o m p=>some (o,m,p)
 | _=>none
def Av(h:atP e=some q):e=.Attribute q.1 q.2.1 q.2.2:=by
 cases e<;>cases h
 rfl
noncomputable def biP:Expr->Option (Expr×Operator×Expr×Pos)
 | .BinOp l o r p=>some (l,o,r,p)
 | _=>none
def mK(h:biP e=some q):e=.BinOp q.1 q.2.1 q.2.2.1 q.2.2.2:=by
 cases e<;>cases h
 rfl
noncomputable def suP:Expr->Option (Expr×Expr×Pos)
 | .Subscript v s p=>some (v,s,p)
 | _=>none
def pX(h:suP e=some q):e=.Subscript q.1 q.2.1 q.2.2:=by
 cases e<;>cases h
 rfl
noncomputable def lcP:Expr->Option (Expr×List Comprehension×Scope×Pos)
 | .ListComp e g s p=>some (e,g,s,p)
 | _=>none
def mM(h:lcP e=some q):e=.ListComp q.1 q.2.1 q.2.2.1 q.2.2.2:=by
 cases e<;>cases h
 rfl
noncomputable def coP:Expr->Option (Expr×List CmpOp×List Expr×Pos)
 | .Compare l o r p=>some (l,o,r,p)
 | _=>none
def Aw(h:coP e=some q):e=.Compare q.1 q.2.1 q.2.2.1 q.2.2.2:=by
 cases e<;>cases h
 rfl
noncomputable def ctP:Expr->Option (Const×Nat×Pos)
 | .Constant c j p=>some (c,j,p)
 | _=>none
def pY(h:ctP e=some q):e=.Constant q.1 q.2.1 q.2.2:=by
 cases e<;>cases h
 rfl
noncomputable def tuP:Expr->Option (List Expr×Nat×Pos)
 | .Tuple xs j p=>some (xs,j,p)
 | _=>none
def mO(h:tuP e=some q):e=.Tuple q.1 q.2.1 q.2.2:=by
 cases e<;>cases h
 rfl
noncomputable def liP:Expr->Option (List Expr×Pos)
 | .List xs p=>some (xs,p)
 | _=>none
def pZ(h:liP e=some q):e=.List q.1 q.2:=by
 cases e<;>cases h
 rfl
noncomputable def unP:Expr->Option (UnaryOp×Expr×Pos)
 | .UnaryOp o e p=>some (o,e,p)
 | _=>none
def Ax(h:unP e=some q):e=.UnaryOp q.1 q.2.1 q.2.2:=by
 cases e<;>cases h
 rfl
noncomputable def boP:Expr->Option (BoolOp×List Expr×Pos)
 | .BoolOp o vs p=>some (o,vs,p)
 | _=>none
def uR(h:boP e=some q):e=.BoolOp q.1 q.2.1 q.2.2:=by
 cases e<;>cases h
 rfl
noncomputable def ifP:Expr->Option (Expr×Expr×Expr×Pos)
 | .IfExp t x y p=>some (t,x,y,p)
 | _=>none
def Ay(h:ifP e=some q):e=.IfExp q.1 q.2.1 q.2.2.1 q.2.2.2:=by
 cases e<;>cases h
 rfl
noncomputable def slP:Expr->Option (Option Expr×Option Expr×Option Expr×Pos)
 | .Slice l u s p=>some (l,u,s,p)
 | _=>none
def Az(h:slP e=some q):e=.Slice q.1 q.2.1 q.2.2.1 q.2.2.2:=by
 cases e<;>cases h
 rfl
noncomputable def asP:Stmt->Option (List Expr×Expr×Pos)
 | .Assign ts v p=>some (ts,v,p)
 | _=>none
def p5(h:asP s=some q):s=.Assign q.1 q.2.1 q.2.2:=by
 cases s<;>cases h
 rfl
noncomputable def jx(e:Expr):Option (Str×List Expr):=(caP e).bind λc=>(nmP c.1).bind λx=>okQ c.2.2.1.isEmpty (x.1,c.2.1)
def cO(h:jx e=some q):∃p z,e=.Call (.Name q.1 p) q.2 [] z:=by
 obtain⟨c,h1,h⟩:=aM h;obtain⟨x,h2,h⟩:=aM h;obtain⟨D,rfl⟩:=dP h;exact⟨_,_,by rw[uQ h1,bR h2,GX.mp D]⟩
noncomputable def sw(e:Expr):Option (Str×Expr):=(jx e).bind λc=>(fQ c.2).bind λa=>some (c.1,a)
def ic(h:sw e=some q):∃p z,e=.Call (.Name q.1 p) [q.2] [] z:=by
 obtain⟨c,h1,h⟩:=aM h;obtain⟨a,h2,h⟩:=aM h;cases h;obtain⟨p,z,rfl⟩:=cO h1;exact⟨p,z,by rw[bJ h2]⟩
noncomputable def maP(e:Expr):Option (Expr×Str×Pos×List Expr×Pos):=(caP e).bind λc=>(atP c.1).bind λa=>okQ c.2.2.1.isEmpty (a.1,a.2.1,a.2.2,c.2.1,c.2.2.2)
def uS(h:maP e=some q):e=.Call (.Attribute q.1 q.2.1 q.2.2.1) q.2.2.2.1 [] q.2.2.2.2:=by
 obtain⟨c,h1,h⟩:=aM h;obtain⟨x,h2,h⟩:=aM h;obtain⟨z,rfl⟩:=dP h;rw[uQ h1,Av h2,GX.mp z]
noncomputable def maN(e:Expr):Option (Str×Str×Pos×List Expr×Pos):=(maP e).bind λa=>(nmP a.1).bind λx=>some (x.1,a.2.1,a.2.2.1,a.2.2.2.1,a.2.2.2.2)
def uT(h:maN e=some q):∃p,e=.Call (.Attribute (.Name q.1 p) q.2.1 q.2.2.1) q.2.2.2.1 [] q.2.2.2.2:=by
 obtain⟨c,h1,h⟩:=aM h;obtain⟨x,h2,h⟩:=aM h;cases h;exact⟨x.2,by rw[uS h1,bR h2]⟩
noncomputable def AA(e:Expr):Option (Expr×CmpOp×Expr):=(coP e).bind λc=>(fQ c.2.1).bind λo=>(fQ c.2.2.1).bind λr=>some (c.1,o,r)
def qQ(h:AA e=some q):∃pos,e=.Compare q.1 [q.2.1] [q.2.2] pos:=by
 obtain⟨c,h1,h⟩:=aM h;obtain⟨x,h2,h⟩:=aM h;obtain⟨y,z,h⟩:=aM h;cases h;exact⟨c.2.2.2,by rw[Aw h1,bJ h2,bJ z]⟩
noncomputable def C0(e:Expr):Option (Expr×Option Expr×Option Expr):=(suP e).bind λc=>(slP c.2.1).bind λs=>okQ s.2.2.1.isNone (c.1,s.1,s.2.1)
def xz(h:C0 e=some q):∃p pos,e=.Subscript q.1 (.Slice q.2.1 q.2.2 none p) pos:=by
 obtain⟨c,h1,h⟩:=aM h;obtain⟨x,h2,h⟩:=aM h;obtain⟨z,rfl⟩:=dP h;exact⟨_,_,by rw[pX h1,Az h2,Hz.mp z]⟩
noncomputable def p6(e:Expr):Option (Str×Str×Pos×Pos):=(maN e).bind λa=>okQ a.2.2.2.1.isEmpty (a.1,a.2.1,a.2.2.1,a.2.2.2.2)
def mP(h:p6 e=some q):∃p,e=.Call (.Attribute (.Name q.1 p) q.2.1 q.2.2.1) [] [] q.2.2.2:=by
 obtain⟨x,h1,h⟩:=aM h;obtain⟨h2,rfl⟩:=dP h;obtain⟨p,rfl⟩:=uT h1;exact⟨p,by rw[GX.mp h2]⟩
noncomputable def p7(e:Expr):Option (Expr×Str):=(AA e).bind λc=>(nmP c.2.2).bind λy=>okQ (c.2.1==.NotIn) (c.1,y.1)
def sx{e:Expr}{q:Expr×Str}(h:p7 e=some q):∃p pos,e=.Compare q.1 [.NotIn] [.Name q.2 p] pos:=by
 obtain⟨c,h1,h⟩:=aM h;obtain⟨y,h2,h⟩:=aM h;obtain⟨z,rfl⟩:=dP h;obtain⟨pos,rfl⟩:=qQ h1;exact⟨y.2,pos,by rw[bR h2,show c.2.1=.NotIn from eq_of_beq z]⟩
noncomputable def lcX(e:Expr):Option (Expr×Scope×(Str×Pos)×Expr×List Expr):=(lcP e).bind λc=>(fQ c.2.1).bind λg=>(nmP g.target).bind λx=>okQ (g.is_async==0) (c.1,c.2.2.1,x,g.iter,g.ifs)
def uU(h:lcX e=some q):∃pos,e=.ListComp q.1 [⟨.Name q.2.2.1.1 q.2.2.1.2,q.2.2.2.1,q.2.2.2.2,0⟩] q.2.1 pos:=by
 obtain⟨c,h1,h⟩:=aM h;obtain⟨⟨tg,it,is,as⟩,h2,h⟩:=aM h;obtain⟨x,z,h⟩:=aM h;obtain⟨D,rfl⟩:=dP h;exact⟨c.2.2.2,by rw[mM h1,bJ h2,bR (e:=tg) z,show as=0 from eq_of_beq D]⟩
noncomputable def exP:Stmt->Option (Expr×Pos)
 | .Expr e p=>some (e,p)
 | _=>none
def uV(h:exP s=some q):s=.Expr q.1 q.2:=by
 cases s<;>cases h
 rfl
noncomputable def reP:Stmt->Option (Option Expr×Pos)
 | .Return v p=>some (v,p)
 | _=>none
def AB(h:reP s=some q):s=.Return q.1 q.2:=by
 cases s<;>cases h
 rfl
noncomputable def AC:Const->Option Str
 | .str x=>some x
 | _=>none
def qR(h:AC c=some x):c=.str x:=by
 cases c<;>cases h
 rfl
noncomputable def C1(e:Expr):Option (Str×Expr×Expr):=(jx e).bind λc=>(su c.2).bind λa=>some (c.1,a.1,a.2)
def xA{e:Expr}{q:Str×Expr×Expr}(h:C1 e=some q):∃p pos,e=.Call (.Name q.1 p) [q.2.1,q.2.2] [] pos:=by
 obtain⟨c,h1,h⟩:=aM h;obtain⟨a,h2,h⟩:=aM h;cases h;obtain⟨p,pos,rfl⟩:=cO h1;exact⟨p,pos,by rw[ib h2]⟩
noncomputable def hdQ{α:Type}:List α->Option (α×List α)
 |x::l=>some (x,l)
 | _=>none
def AD(h:hdQ l=some q):l=q.1::q.2:=by
 cases l<;>cases h
 rfl
noncomputable def aw:ME->Bool
 | .bor _=>true
 | _=>false
noncomputable def iT:Op2->Operator
 | .add=>.Add|.sub=>.Sub|.mul=>.Mult|.fdiv=>.FloorDiv|.mod=>.Mod|.pow=>.Pow|.shr=>.RShift
noncomputable def gN:Cp->CmpOp
 | .eq=>.Eq|.ne=>.NotEq|.lt=>.Lt|.le=>.LtE|.gt=>.Gt|.ge=>.GtE|.isN=>.Is|.notN=>.IsNot|.isIn=>.In|.notIn=>.NotIn
noncomputable def p8:PV->Const->Bool
 | .non,.none=>true
 | .bl a,.bool b=>a==b
 | .int a,.int b=>a==b
 | .str a,.str b=>a==b
 | _,_=>false
noncomputable def y0:PV->PV->Bool
 | .non,.non=>true
 | .bl a,.bl b=>a==b
 | .int a,.int b=>a==b
 | .str a,.str b=>a==b
 | _,_=>false
noncomputable def y3(gs:List (Str×PV))(x:Str)(v:PV):Bool:=gs.any λp=>p.1==x&&y0 p.2 v
noncomputable def ac:Expr->Bool
 | .Starred ..=>false
 | _=>true
noncomputable def c9:Expr->Bool
 | .Set ..=>false
 | _=>true
noncomputable def eZ:Expr->Bool
 | .Slice ..=>false
 | _=>true
noncomputable def bC:Expr->Bool
 | .ListComp ..=>false
 | .SetComp ..=>false
 | .DictComp ..=>false
 | _=>true
noncomputable def iU:Expr->Bool
 | .UnaryOp .Not _ _=>false
 | .BoolOp ..=>false
 | .IfExp ..=>false
 | .Compare ..=>false
 | _=>true
noncomputable def n9:Blt->String
 | .strOf=>"str"
 | .len=>"len" | .tupleOf=>"tuple" | .listOf=>"list" | .sorted=>"sorted" | .any=>"any" | .all=>"all" | .sum=>"sum" | .max1=>"max" | .min1=>"min" | .max2=>"max" | .min2=>"min"
 | .intOf=>"int" | .boolOf=>"bool" | .isInt=>"isinstance" | .isBool=>"isinstance" | .isStr=>"isinstance" | .isList=>"isinstance" | .isTuple=>"isinstance" | .sortedKeys=>"sorted" | .valuesOf=>"list" | .sortedSet=>"sorted" | .lenSet=>"len" | .lenSetSub=>"len" | .tupleRev=>"tuple"
noncomputable def cQ:Blt->Option String
 | .isInt=>some "int" | .isBool=>some "bool" | .isStr=>some "str" | .isList=>some "list" | .isTuple=>some "tuple"
 | _=>none
noncomputable def iV:Blt->Option Nat
 | .len|.tupleOf|.listOf|.sorted|.any|.all|.sum|.intOf|.boolOf|.max1|.sortedKeys=>some 1
 | .strOf=>some 1
 | .max2|.min2=>some 2
 | _=>none
noncomputable def bV(osc:Scope)(N:List Str)(scope:Scope)(x:Str)(fvs:List Str)(js:List Nat):Bool:=
 decide (∀y∈scope.names,y.2=.cell->y.1=x)&&decide (scope.names.lookup x=some .local/\(scope.names.filter λy=>y.2==.cell)=[]\/scope.names.lookup x=some .cell/\(scope.names.filter λy=>y.2==.cell)=[(x,.cell)])
 &&decide (∀y∈scope.names,y.2=.free->y.1≠x)&&scope.kind==.function&&decide (∀y∈scope.names,y.2=.local->scope.names.lookup y.1=some .local)
 &&decide ((x::fvs).Nodup)&&decide (∀y∈scope.names,y.2=.free->osc.names.lookup y.1=some .cell\/osc.names.lookup y.1=some .free)&&decide ((js.map λj=>N[j]?)=fvs.map some)
 &&decide (∀y∈fvs,scope.names.lookup y=some .free)
noncomputable def aB(N:List Str)(js:List Nat):List Str:=js.map λj=>(N[j]?).getD Str.empty
noncomputable def e_(osc:Scope)(N:List Str)(scope:Scope)(x y:Str)(fvs:List Str)(js:List Nat):Bool:=
 decide ((scope.names.filter λy=>y.2==.cell)=[])&&decide (scope.names.lookup x=some .local)&&decide (scope.names.lookup y=some .local)
 &&decide (∀y∈scope.names,y.2=.free->y.1≠x)&&scope.kind==.function&&decide (∀y∈scope.names,y.2=.local->scope.names.lookup y.1=some .local)
 &&decide ((x::([y]++fvs)).Nodup)&&decide (∀y∈scope.names,y.2=.free->osc.names.lookup y.1=some .cell\/osc.names.lookup y.1=some .free)&&decide ((js.map λj=>N[j]?)=fvs.map some)
 &&decide (∀y∈fvs,scope.names.lookup y=some .free)
noncomputable def p_(e:Expr):Option (Expr×Expr×List Expr×Scope×Str×Str):=(lcP e).bind λc=>(fQ c.2.1).bind λg=>(tuP g.target).bind λt=>(su t.1).bind λz=>(nmP z.1).bind λx=>(nmP z.2).bind λy=>okQ (g.is_async==0) (c.1,g.iter,g.ifs,c.2.2.1,x.1,y.1)
def sy{e:Expr}{q:Expr×Expr×List Expr×Scope×Str×Str}(h:p_ e=some q):∃px D j tp pos,e=.ListComp q.1 [⟨.Tuple [.Name q.2.2.2.2.1 px,.Name q.2.2.2.2.2 D] j tp,q.2.1,q.2.2.1,0⟩] q.2.2.2.1 pos:=by
 obtain⟨c,h1,h⟩:=aM h;obtain⟨⟨tg,it,is,as⟩,h2,h⟩:=aM h;obtain⟨t,G,h⟩:=aM h;obtain⟨z,J,h⟩:=aM h;obtain⟨x,U,h⟩:=aM h;obtain⟨y,Y,h⟩:=aM h;obtain⟨Z,rfl⟩:=dP h;exact⟨x.2,y.2,t.2.1,t.2.2,c.2.2.2,by rw[mM h1,bJ h2,mO (e:=tg) G,ib J,bR U,bR Y,show as=0 from eq_of_beq Z]⟩
noncomputable def kA(sc:Scope)(tup:Bool)(f:List Expr->Bool):Sk->Expr->Bool
 | .seq,it=>c9 it&&f [it]
 | .rng,it=>onQ (jx it) λc=>c.1==("range":Str)&&glB sc c.1&&f c.2&&(c.2.length==1||c.2.length==2)
 | .rev,_=>false
 | .enm,_=>false
 | .chr,it=>c9 it&&f [it]
 | .zip,it=>onQ (C1 it) λc=>tup&&c.1==("zip":Str)&&glB sc c.1&&f [c.2.1,c.2.2]&&ac c.2.1&&ac c.2.2
noncomputable def n_(sc:Scope)(f:List Expr->Bool)(n:Nat)(c:String)(args:List Expr):Bool:=onQ (su args) λa=>onQ (nmP a.2) λt=>t.1==(c:Str)&&glB sc t.1&&f [a.1]&&n==1
noncomputable def uW(sc:Scope)(f:List Expr->Bool)(n:Nat)(g:Str)(args:List Expr):Bool:=onQ (fQ args) λa=>onQ (sw a) λc=>c.1==g&&glB sc c.1&&f [c.2]&&n==1
noncomputable def qS(sc:Scope)(f:List Expr->Bool)(n:Nat)(b:Blt)(args:List Expr):Bool:=match b with
 | .sortedSet=>uW sc f n "set" args
 | .lenSet=>false
 | .lenSetSub=>false
 | .tupleRev=>false
 | .valuesOf=>false
 | .sortedKeys=>false
 | .max1=>false
 | .sum=>false
 | .max2=>false
 | .min2=>false
 | .boolOf=>false
 | .isStr=>false
 | .isList=>false
 |b=>match cQ b with
  |some c=>n_ sc f n c args
  |none=>iV b==some n&&f args
noncomputable def gP:ME->Bool
 | .cst .non=>true
 | _=>false
noncomputable def mQ(f:Expr->Bool)(non:Bool):Option Expr->Bool
 |none=>non
 |some l=>f l&&!non
noncomputable def jh(f:Expr->Bool)(m:ME):List Expr->Bool
 | []=>(match m with|.cst (.bl true)=>true|_=>false)
 | [c]=>f c
 | _=>false
noncomputable def C4(f:Expr->Bool)(op:BoolOp)(pos:Pos)(y:Expr):List Expr->Bool
 | []=>f y
 |z::r=>f (.BoolOp op (y::z::r) pos)
noncomputable def AE(g f:Expr->Bool)(op:BoolOp)(pos:Pos):List Expr->Bool
 |x::y::r=>g x&&C4 f op pos y r
 | _=>false
def qT(h:AE g f op pos vs=true):(∃x y,vs=[x,y]/\g x=true/\f y=true)\/∃x y z r,vs=x::y::z::r/\g x=true/\f (.BoolOp op (y::z::r) pos)=true:=by
 rcases vs with _|⟨x,_|⟨y,_|⟨z,r⟩⟩⟩
 .cases h
 .cases h
 .exact .inl ⟨x,y,rfl,ek.mp h⟩
 .exact .inr ⟨x,y,z,r,rfl,ek.mp h⟩
noncomputable def uX(e:Expr):Option (Str×Str×Expr×Pos×Pos):=(maP e).bind λa=>(ctP a.1).bind λc=>(AC c.1).bind λx=>(fQ a.2.2.2.1).bind λv=>some (x,a.2.1,v,a.2.2.1,a.2.2.2.2)
def uY{e:Expr}{q:Str×Str×Expr×Pos×Pos}(h:uX e=some q):∃j p,e=.Call (.Attribute (.Constant (.str q.1) j p) q.2.1 q.2.2.2.1) [q.2.2.1] [] q.2.2.2.2:=by
 obtain⟨a,h1,h⟩:=aM h;obtain⟨c,h2,h⟩:=aM h;obtain⟨x,z,h⟩:=aM h;obtain⟨v,D,h⟩:=aM h;cases h;exact⟨c.2.1,c.2.2,by rw[uS h1,pY h2,qR z,bJ D]⟩
noncomputable def uZ(e:Expr):Option (Str×Expr):=(suP e).bind λc=>(nmP c.1).bind λx=>some (x.1,c.2.1)
def u0{e:Expr}{q:Str×Expr}(h:uZ e=some q):∃p pos,e=.Subscript (.Name q.1 p) q.2 pos:=by
 obtain⟨c,h1,h⟩:=aM h;obtain⟨x,h2,h⟩:=aM h;cases h;exact⟨x.2,c.2.2,by rw[pX h1,bR h2]⟩
noncomputable def y4(e:Expr):Option (Str×Str):=(sw e).bind λc=>(nmP c.2).bind λy=>some (c.1,y.1)
def xB(h:y4 e=some q):∃p p2 pos,e=.Call (.Name q.1 p) [.Name q.2 p2] [] pos:=by
 obtain⟨c,h1,h⟩:=aM h;obtain⟨y,h2,h⟩:=aM h;cases h;obtain⟨p,pos,rfl⟩:=ic h1;exact⟨p,y.2,pos,by rw[bR h2]⟩
mutual
noncomputable def chk(T:Tab):ME->List Str->Scope->Expr->Bool
 | .var i,N,sc,z=>onQ (nmP z) λx=>aR N sc i x.1
 | .bor i,N,sc,z=>onQ (nmP z) λx=>aR N sc i x.1
 | .cst v,_,_,z=>onQ (ctP z) λc=>p8 v c.1
 | .glob x v,_,sc,z=>onQ (nmP z) λy=>x==y.1&&glB sc x&&y3 T.gs x v&&aj x
 | .bin op a b,N,sc,z=>onQ (biP z) λq=>q.2.1==iT op&&chk T a N sc q.1&&chk T b N sc q.2.2.1
 | .neg _,_,_,_=>false
 | .not a,N,sc,z=>onQ (unP z) λq=>q.1==.Not&&chk T a N sc q.2.1
 | .and a b,N,sc,z=>onQ (boP z) λq=>q.1==.And&&AE (λe=>chk T a N sc e) (λe=>chk T b N sc e) .And q.2.2 q.2.1
 | .or a b,N,sc,z=>onQ (boP z) λq=>q.1==.Or&&AE (λe=>chk T a N sc e) (λe=>chk T b N sc e) .Or q.2.2 q.2.1
 | .ite c a b,N,sc,z=>onQ (ifP z) λq=>chk T c N sc q.1&&chk T a N sc q.2.1&&chk T b N sc q.2.2.1&&!aw a&&!aw b
 | .cmp op a b,N,sc,z=>onQ (AA z) λq=>q.2.1==gN op&&chk T a N sc q.1&&chk T b N sc q.2.2&&!behindInMarks q.2.1 q.2.2
 | .chain op D a b c,N,sc,z=>(match z with|.Compare l [o,o'] [m,r] _=>o==gN op&&o'==gN D&&chk T a N sc l&&chk T b N sc m&&chk T c N sc r&&!lastMarks [o,o'] [m,r]|_=>false)
 | .tup es,N,sc,z=>onQ (tuP z) λq=>chks T es N sc q.1&&es.all (λe=>!aw e)
 | .lst es,N,sc,z=>onQ (liP z) λq=>chks T es N sc q.1&&es.all (λe=>!aw e)
 | .idx a i,N,sc,z=>onQ (suP z) λq=>chk T a N sc q.1&&chk T i N sc q.2.1&&eZ q.2.1
 | .slice a lo hi,N,sc,z=>onQ (C0 z) λq=>chk T a N sc q.1&&mQ (λe=>chk T lo N sc e) (gP lo) q.2.1&&mQ (λe=>chk T hi N sc e) (gP hi) q.2.2
 | .blt b es,N,sc,z=>onQ (jx z) λq=>q.1==(n9 b:Str)&&glB sc q.1&&qS sc (λxs=>chks T es N sc xs) es.length b q.2
 | .call f es,N,sc,z=>onQ (jx z) λq=>T.fs[f]?==some q.1&&glB sc q.1&&aj q.1&&chks T es N sc q.2
 | .callD _ _ _,_,_,_=>false
 | .comp k src js cond elt,N,sc,z=>onQ (lcX z) λq=>bV sc N q.2.1 q.2.2.1.1 (aB N js) js&&kA sc false (λxs=>chks T src N sc xs) k q.2.2.2.1&&jh (λc=>chk T cond (q.2.2.1.1::aB N js) (d6 q.2.1 sc) c) cond q.2.2.2.2&&chk T elt (q.2.2.1.1::aB N js) (d6 q.2.1 sc) q.1&&!aw elt
 | .dget _ _ _,_,_,_=>false
 | .dat _ _,_,_,_=>false
 | .dIn _ _ _,_,_,_=>false
 | .join x e,N,sc,z=>onQ (uX z) λq=>q.1==x&&q.2.1==("join":Str)&&chk T e N sc q.2.2.1&&ac q.2.2.1&&q.2.2.2.1.endLine==q.2.2.2.2.line
 | .cdat x e,N,sc,z=>onQ (uZ z) λq=>q.1==x&&glB sc q.1&&aj q.1&&chk T e N sc q.2&&eZ q.2&&fm.any λt=>t.1==x
 | .comp2 src js cond elt,N,sc,z=>onQ (p_ z) λq=>e_ sc N q.2.2.2.1 q.2.2.2.2.1 q.2.2.2.2.2 (aB N js) js&&kA sc true (λxs=>chks T src N sc xs) sk2 q.2.1&&jh (λc=>chk T cond (q.2.2.2.2.1::([q.2.2.2.2.2]++aB N js)) (d6 q.2.2.2.1 sc) c) cond q.2.2.1&&chk T elt (q.2.2.2.2.1::([q.2.2.2.2.2]++aB N js)) (d6 q.2.2.2.1 sc) q.1&&!aw elt
 | .lenP i,N,sc,z=>onQ (y4 z) λq=>q.1==("len":Str)&&glB sc q.1&&aR N sc i q.2
noncomputable def chks(T:Tab):List ME->List Str->Scope->List Expr->Bool
 | [],_,_,[]=>true
 |m::ms,N,sc,e::es=>chk T m N sc e&&ac e&&chks T ms N sc es
 | _,_,_,_=>false
end
def u4(T:Tab)(op z:Cp)(a b c:ME)(N:List Str)(sc:Scope)(D:Expr):chk T (.chain op z a b c) N sc D=(match D with|.Compare l [o,o'] [m,r] _=>o==gN op&&o'==gN z&&chk T a N sc l&&chk T b N sc m&&chk T c N sc r&&!lastMarks [o,o'] [m,r]|_=>false):=rfl
def jD(h:chk T (.bor i) N sc e=true):∃x p,e=.Name x p/\aR N sc i x=true:=by
 replace h:=ag h
 obtain⟨x,h1,h⟩:=h;exact⟨x.1,x.2,bR h1,h⟩
def b6(h:chks T (m::ms) N sc (e::es)=true):(chk T m N sc e=true/\ac e=true)/\chks T ms N sc es=true:=by
 obtain⟨a,b⟩:=ek.mp h;exact⟨ek.mp a,b⟩
def iW{cond elt:ME}(h:chk T (.comp z src js cond elt) N sc D=true):∃e x px it ifs scope pos,D=.ListComp e [⟨.Name x px,it,ifs,0⟩] scope pos /\
  (bV sc N scope x (aB N js) js&&kA sc false (λxs=>chks T src N sc xs) z it&&jh (λc=>chk T cond (x::aB N js) (d6 scope sc) c) cond ifs&&chk T elt (x::aB N js) (d6 scope sc) e&&!aw elt)=true:=by
 replace h:=ag h
 obtain⟨q,w,h⟩:=h;obtain⟨pos,rfl⟩:=uU w;exact⟨_,_,_,_,_,_,_,rfl,h⟩
def mR(h:aw m=true):∃i,m=.bor i:=by
 cases m<;>first|(cases h;done)|exact⟨_,rfl⟩
noncomputable def fR:ME->Bool
 | .lst _=>true
 | .comp ..=>true
 | .blt .listOf _=>true
 | .blt .sorted _=>true
 | .blt .sortedSet _=>true
 | .blt .sortedKeys _=>true
 | .blt .valuesOf _=>true
 | _=>false
noncomputable def AF:ME->Bool
 | .bin .add _ _=>true
 | _=>false
noncomputable def y6(sc:Scope)(t:Str)(tpos:Pos)(e:Expr):Bool:=onQ (lcP e) λq=>sc.names.lookup t==some .local&&tpos.line==q.2.2.2.line&&!(q.2.2.1.names.any λ(n,k)=>n==t&&(k==.local||k==.cell))
noncomputable def Fp:ME->Bool
 | .comp2 ..=>true
 | _=>false
noncomputable def lY(sc:Scope)(t:Str)(tpos:Pos)(v:Expr)(e:ME):Bool:=y6 sc t tpos v&&!Fp e
noncomputable def gQ:List Bool->List ME->Bool
 | [],[]=>true
 |true::bs,e::es=>aw e&&gQ bs es
 |false::bs,_::es=>gQ bs es
 | _,_=>false
noncomputable def dQ:List Bool->List ME->List Nat
 |true::bs,.bor i::es=>i::dQ bs es
 | _::bs,_::es=>dQ bs es
 | _,_=>[]
noncomputable def cz(T:Tab)(f:Nat)(z:List Bool)(es:List ME)(N:List Str)(sc:Scope)(x:Expr):Bool:=onQ (jx x) λc=>T.fs[f]?==some c.1&&glB sc c.1&&aj c.1&&chks T es N sc c.2&&gQ z es&&decide (dQ z es).Nodup&&!c.2.isEmpty
def gR(h:cz T f mask es N sc e=true):∃g p args z,e=.Call (.Name g p) args [] z/\(T.fs[f]?==some g&&glB sc g&&aj g&&chks T es N sc args&&gQ mask es&&decide (dQ mask es).Nodup&&!args.isEmpty)=true:=by
 replace h:=ag h
 obtain⟨c,w,h⟩:=h;obtain⟨p,z,rfl⟩:=cO w;exact⟨c.1,p,c.2,z,rfl,h⟩
noncomputable def C5(e:Expr):Option (Expr×Expr):=(biP e).bind λc=>okQ (c.2.1==.Add) (c.1,c.2.2.1)
def xC(h:C5 e=some q):∃pos,e=.BinOp q.1 .Add q.2 pos:=by
 obtain⟨c,h1,h⟩:=aM h;obtain⟨h2,rfl⟩:=dP h;exact⟨c.2.2.2,by rw[mK h1,eq_of_beq h2]⟩
noncomputable def C6(e:Expr):Option (Expr×Expr):=(tuP e).bind λc=>su c.1
def xD(h:C6 e=some q):∃j pos,e=.Tuple [q.1,q.2] j pos:=by
 obtain⟨c,h1,h⟩:=aM h;exact⟨c.2.1,c.2.2,by rw[mO h1,ib h]⟩
noncomputable def kB:ME->Bool
 | .cst .non=>true
 | _=>false
noncomputable def mS(T:Tab)(k:SK)(e:ME)(f:Nat)(z:List Bool)(es:List ME)(N:List Str)(sc:Scope)(x:Expr):Bool:=match k with
 | .one=>kB e&&cz T f z es N sc x
 | .cat=>match C5 x with|some q=>chk T e N sc q.1&&!aw e&&cz T f z es N sc q.2|none=>false
 | .pair=>match C6 x with|some q=>chk T e N sc q.1&&!aw e&&ac q.1&&cz T f z es N sc q.2|none=>false
noncomputable def kC(e:Expr):Option (Expr×Scope×Str×Expr):=(lcX e).bind λc=>okQ c.2.2.2.2.isEmpty (c.1,c.2.1,c.2.2.1.1,c.2.2.2.1)
def ie(h:kC e=some q):∃z pos,e=.ListComp q.1 [⟨.Name q.2.2.1 z,q.2.2.2,[],0⟩] q.2.1 pos:=by
 obtain⟨c,h1,h⟩:=aM h;obtain⟨h2,rfl⟩:=dP h;obtain⟨pos,rfl⟩:=uU h1;exact⟨_,pos,by rw[GX.mp h2]⟩
noncomputable def AG(e:Expr):Option (Str×Str×Expr):=(sw e).bind λc=>(sw c.2).bind λd=>some (c.1,d.1,d.2)
def xE(h:AG e=some q):∃p p2 pos2 pos,e=.Call (.Name q.1 p) [.Call (.Name q.2.1 p2) [q.2.2] [] pos2] [] pos:=by
 obtain⟨c,h1,h⟩:=aM h;obtain⟨d,h2,h⟩:=aM h;cases h;obtain⟨p,pos,rfl⟩:=ic h1;obtain⟨p2,pos2,e⟩:=ic h2;exact⟨p,p2,pos2,pos,by rw[e]⟩
noncomputable def sA(e:Expr):Option (Expr×Operator×Expr):=(biP e).bind λc=>some (c.1,c.2.1,c.2.2.1)
def mT(h:sA e=some q):∃pos,e=.BinOp q.1 q.2.1 q.2.2 pos:=by
 obtain⟨c,h1,h⟩:=aM h;cases h;exact⟨c.2.2.2,mK h1⟩
noncomputable def fnQ(e:Expr):Option (Str×Expr×List Expr):=(jx e).bind λc=>(hdQ c.2).bind λa=>some (c.1,a.1,a.2)
def iX(h:fnQ e=some q):∃p pos,e=.Call (.Name q.1 p) (q.2.1::q.2.2) [] pos:=by
 obtain⟨c,h1,h⟩:=aM h;obtain⟨a,h2,h⟩:=aM h;cases h;obtain⟨p,pos,rfl⟩:=cO h1;exact⟨p,pos,by rw[AD h2]⟩
noncomputable def AH(e:Expr):Option (List Expr):=(tuP e).bind λc=>some c.1
def xF(h:AH e=some q):∃j pos,e=.Tuple q j pos:=by
 obtain⟨c,h1,h⟩:=aM h;cases h;exact⟨c.2.1,c.2.2,mO h1⟩
noncomputable def AI(e:Expr):Option (List Expr):=(liP e).bind λc=>some c.1
def xG(h:AI e=some q):∃pos,e=.List q pos:=by
 obtain⟨c,h1,h⟩:=aM h;cases h;exact⟨c.2,pZ h1⟩
noncomputable def AJ(e:Expr):Option (Str×Expr×Expr):=(jx e).bind λc=>(su c.2).bind λa=>some (c.1,a.1,a.2)
def xH(h:AJ e=some q):∃p pos,e=.Call (.Name q.1 p) [q.2.1,q.2.2] [] pos:=by
 obtain⟨c,h1,h⟩:=aM h;obtain⟨a,h2,h⟩:=aM h;cases h;obtain⟨p,pos,rfl⟩:=cO h1;exact⟨p,pos,by rw[ib h2]⟩
mutual
noncomputable def br(T:Tab):XE->List Str->Scope->Expr->Bool
 | .pure e,N,sc,x=>chk T e N sc x&&!aw e&&bC x
 | .call f mask es,N,sc,x=>cz T f mask es N sc x
 | .pop i,N,sc,x=>onQ (p6 x) λq=>aR N sc i q.1&&q.2.1==("pop":Str)&&q.2.2.1.endLine==q.2.2.2.line
 | .bin op a b,N,sc,x=>onQ (sA x) λq=>q.2.1==iT op&&br T a N sc q.1&&chk T b N sc q.2.2
 | .fn g a es,N,sc,x=>onQ (fnQ x) λq=>T.fs[g]?==some q.1&&glB sc q.1&&aj q.1&&br T a N sc q.2.1&&ac q.2.1&&chks T es N sc q.2.2
 | .tup xs,N,sc,x=>onQ (AH x) λq=>chkXEs T xs N sc q
 | .lst xs,N,sc,x=>onQ (AI x) λq=>chkXEs T xs N sc q
 | .fn2 g e a,N,sc,x=>onQ (AJ x) λq=>T.fs[g]?==some q.1&&glB sc q.1&&aj q.1&&chk T e N sc q.2.1&&!aw e&&ac q.2.1&&br T a N sc q.2.2&&ac q.2.2
 | .tupOf a,N,sc,x=>onQ (fnQ x) λq=>q.1==("tuple":Str)&&glB sc q.1&&q.2.2.isEmpty&&br T a N sc q.2.1&&ac q.2.1
 | .compS src js k e f mask es,N,sc,x=>onQ (kC x) λc=>bV sc N c.2.1 c.2.2.1 (aB N js) js&&kA sc false (λxs=>chks T [src] N sc xs) .seq c.2.2.2&&!aw src&&mS T k e f mask es (c.2.2.1::aB N js) (d6 c.2.1 sc) c.1&&decide js.Nodup
 | .nextw i,N,sc,x=>onQ (p6 x) λq=>aR N sc i q.1&&q.2.1==("next_word":Str)&&q.2.2.1.endLine==q.2.2.2.line
 | .binR op a y,N,sc,x=>onQ (sA x) λq=>q.2.1==iT op&&chk T a N sc q.1&&!aw a&&br T y N sc q.2.2
 | .compR y js k e f mask es,N,sc,x=>onQ (kC x) λc=>bV sc N c.2.1 c.2.2.1 (aB N js) js&&onQ (fnQ c.2.2.2) (λq=>q.1==("range":Str)&&glB sc q.1&&q.2.2.isEmpty&&br T y N sc q.2.1&&ac q.2.1)&&mS T k e f mask es (c.2.2.1::aB N js) (d6 c.2.1 sc) c.1&&decide js.Nodup
noncomputable def chkXEs(T:Tab):List XE->List Str->Scope->List Expr->Bool
 | [],_,_,[]=>true
 |x::xs,N,sc,e::es=>br T x N sc e&&ac e&&chkXEs T xs N sc es
 | _,_,_,_=>false
end
noncomputable def ly(s:Stmt):Option (Str×Pos×Expr):=(asP s).bind λc=>(fQ c.1).bind λu=>(nmP u).bind λx=>some (x.1,x.2,c.2.1)
def gf(h:ly s=some q):∃pos,s=.Assign [.Name q.1 q.2.1] q.2.2 pos:=by
 obtain⟨c,h1,h⟩:=aM h;obtain⟨u,h2,h⟩:=aM h;obtain⟨x,z,h⟩:=aM h;cases h;exact⟨c.2.2,by rw[p5 h1,bJ h2,bR z]⟩
noncomputable def u5(s:Stmt):Option (Str×Str×Pos×List Expr×Pos):=(exP s).bind λa=>maN a.1
def mU(h:u5 s=some q):∃p pos,s=.Expr (.Call (.Attribute (.Name q.1 p) q.2.1 q.2.2.1) q.2.2.2.1 [] q.2.2.2.2) pos:=by
 obtain⟨x,h1,h⟩:=aM h;obtain⟨p,e⟩:=uT h;exact⟨p,x.2,by rw[uV h1,e]⟩
noncomputable def qa(s:Stmt):Option (Expr):=(reP s).bind λc=>c.1
def ig(h:qa s=some v):∃pos,s=.Return (some v) pos:=by
 obtain⟨c,h1,h⟩:=aM h;exact⟨c.2,by rw[AB h1,h]⟩
noncomputable def ifQ:Stmt->Option Expr
 | .If t _ [] _=>some t
 | _=>none
def u6{s:Stmt}{t:Expr}(h:ifQ s=some t):∃a pos,s=.If t a [] pos:=by
 unfold ifQ at h;split at h
 .cases h;exact⟨_,_,rfl⟩
 .cases h
noncomputable def y7(e:Expr):Option (Str):=(nmP e).bind λx=>some x.1
def u7(h:y7 e=some x):∃p,e=.Name x p:=by
 obtain⟨x,h1,h⟩:=aM h;cases h;exact⟨x.2,bR h1⟩
noncomputable def C7:Stmt->Option (List Stmt×List ExceptHandler×List Stmt×List Stmt×Pos)
 | .Try a b c d p=>some (a,b,c,d,p)
 | _=>none
def xI{s:Stmt}{q:List Stmt×List ExceptHandler×List Stmt×List Stmt×Pos}(h:C7 s=some q):s=.Try q.1 q.2.1 q.2.2.1 q.2.2.2.1 q.2.2.2.2:=by
 cases s<;>cases h
 rfl
noncomputable def y9{α:Type}:List α->Option (α×List α)
 |x::r=>some (x,r)
 | _=>none
def u8{α:Type}{l:List α}{q:α×List α}(h:y9 l=some q):l=q.1::q.2:=by
 cases l<;>cases h
 rfl
noncomputable def C8(s:Stmt):Option (Stmt×ExceptHandler×List ExceptHandler):=(C7 s).bind λc=>(fQ c.1).bind λb=>(y9 c.2.1).bind λh=>okQ (c.2.2.1.isEmpty&&c.2.2.2.1.isEmpty) (b,h.1,h.2)
def xJ{s:Stmt}{q:Stmt×ExceptHandler×List ExceptHandler}(h:C8 s=some q):∃pos,s=.Try [q.1] (q.2.1::q.2.2) [] [] pos:=by
 obtain⟨c,h1,h⟩:=aM h;obtain⟨b,h2,h⟩:=aM h;obtain⟨x,D,h⟩:=aM h;obtain⟨z,rfl⟩:=dP h;obtain⟨z,G⟩:=ek.mp z;exact⟨c.2.2.2.2,by rw[xI h1,bJ h2,u8 D,GX.mp z,GX.mp G]⟩
noncomputable def AK(s:Stmt):Option (Option (Str×Pos)×Expr×Pos):=match exP s with
 |some q=>some (none,q)
 |none=>(asP s).bind λc=>(fQ c.1).bind λt=>(nmP t).bind λx=>some (some x,c.2)
def xK{s:Stmt}{q:Option (Str×Pos)×Expr×Pos}(h:AK s=some q):(q.1=none/\s=.Expr q.2.1 q.2.2)\/∃x px,q.1=some (x,px)/\s=.Assign [.Name x px] q.2.1 q.2.2:=by
 unfold AK at h;cases e:exP s with
 |some r=>rw[e]at h;cases h;exact .inl ⟨rfl,uV e⟩
 |none =>
  rw[e]at h;obtain⟨c,h1,h⟩:=aM h;obtain⟨t,h2,h⟩:=aM h;obtain⟨x,z,h⟩:=aM h;cases h;exact .inr ⟨x.1,x.2,rfl,by rw[p5 h1,bJ h2,bR z]⟩
noncomputable def jB(N:List Str)(sc:Scope):Option Nat->Option (Str×Pos)->Bool
 |none,none=>true
 |some j,some q=>N[j]?==some q.1&&d8 sc q.1&&aj q.1
 | _,_=>false
noncomputable def y_:ExceptHandler->Option (Str×Option Str×Str×Expr)
 | .ExceptHandler t nm b _=>t.bind λt=>(nmP t).bind λx=>(fQ b).bind λs=>(asP s).bind λc=>(fQ c.1).bind λy=>(nmP y).bind λy=>some (x.1,nm,y.1,c.2.1)
def u9{e:ExceptHandler}{q:Str×Option Str×Str×Expr}(h:y_ e=some q):∃np D p pos,e=.ExceptHandler (some (.Name q.1 np)) q.2.1 [.Assign [.Name q.2.2.1 D] q.2.2.2 p] pos:=by
 obtain⟨t,nm,b,p⟩:=e;obtain⟨t',rfl,h⟩:=aM h;obtain⟨x,h1,h⟩:=aM h;obtain⟨s,h2,h⟩:=aM h;obtain⟨c,G,h⟩:=aM h;obtain⟨y,J,h⟩:=aM h;obtain⟨z,U,h⟩:=aM h;cases h;exact⟨x.2,z.2,c.2.2,p,by rw[bR h1,bJ h2,p5 G,bJ J,bR U]⟩
noncomputable def nmB(N:List Str)(sc:Scope):Option Nat->Option Str->Bool
 |none,none=>true
 |some k,some n=>N[k]?==some n&&sc.names.lookup n==some .local
 | _,_=>false
noncomputable def AL:Expr->Option Sc
 | .Constant (.bool b) _ _=>some (.bl b)
 | .Constant (.str x) _ _=>some (.str x)
 | _=>none
def xL{e:Expr}{v:Sc}(h:AL e=some v):(∃b j p,v=.bl b/\e=.Constant (.bool b) j p)\/∃x j p,v=.str x/\e=.Constant (.str x) j p:=by
 unfold AL at h;split at h
 .cases h;exact .inl ⟨_,_,_,rfl,rfl⟩
 .cases h;exact .inr ⟨_,_,_,rfl,rfl⟩
 .cases h
noncomputable def AM(es:List Str)(N:List Str)(sc:Scope)(e:Option Nat):HA->Expr->Bool
 | .cst v,x=>onQ (AL x) λa=>decide (sc? v=some a)
 | .inc _ _,_=>false
 | .isi _,_=>false
noncomputable def AN:Expr->Option (List Expr×Pos)
 | .List xs p=>some (xs,p)
 | _=>none
def xM{e:Expr}{q:List Expr×Pos}(h:AN e=some q):e=.List q.1 q.2:=by
 unfold AN at h;split at h
 .cases h;rfl
 .cases h
noncomputable def u_(es:List Str)(N:List Str)(sc:Scope)(e:Option Nat):List HA->List Expr->Bool
 | [],[]=>true
 |a::as,x::xs=>AM es N sc e a x&&u_ es N sc e as xs
 | _,_=>false
noncomputable def C9(es:List Str)(N:List Str)(sc:Scope)(e:Option Nat):HE->Expr->Bool
 | .one a,x=>AM es N sc e a x
 | .lst as,x=>onQ (AN x) λq=>u_ es N sc e as q.1
noncomputable def C_(es:List Str)(N:List Str)(sc:Scope)(h:HH)(x:ExceptHandler):Bool:=onQ (y_ x) λq=>q.1==h.cls&&glB sc q.1&&aj q.1&&es.contains q.1&&N[h.i]?==some q.2.2.1&&d8 sc q.2.2.1&&aj q.2.2.1&&nmB N sc h.e q.2.1&&decide (h.e≠some h.i)&&C9 es N sc h.e h.v q.2.2.2
noncomputable def qU(es:List Str)(N:List Str)(sc:Scope):List HH->List ExceptHandler->Bool
 | [],[]=>true
 |h::hs,x::xs=>C_ es N sc h x&&qU es N sc hs xs
 | _,_=>false
noncomputable def raP:Stmt->Option (Option Expr×Option Expr×Pos)
 | .Raise e c p=>some (e,c,p)
 | _=>none
def AO{s:Stmt}{q:Option Expr×Option Expr×Pos}(h:raP s=some q):s=.Raise q.1 q.2.1 q.2.2:=by
 cases s<;>cases h
 rfl
noncomputable def Da(s:Stmt):Option Str:=(raP s).bind λr=>r.1.bind λe=>(sw e).bind λc=>(ctP c.2).bind λk=>(AC k.1).bind λ_=>okQ r.2.1.isNone c.1
def xN{s:Stmt}{x:Str}(h:Da s=some x):∃np tx j p1 cpos pos,s=.Raise (some (.Call (.Name x np) [.Constant (.str tx) j p1] [] cpos)) none pos:=by
 obtain⟨r,h1,h⟩:=aM h;obtain⟨e,h2,h⟩:=aM h;obtain⟨c,z,h⟩:=aM h;obtain⟨k,D,h⟩:=aM h;obtain⟨tx,G,h⟩:=aM h;obtain⟨J,rfl⟩:=dP h;obtain⟨p,U,rfl⟩:=ic z;exact⟨p,tx,k.2.1,k.2.2,U,r.2.2,by rw[AO h1,h2,pY D,qR G,Hz.mp J]⟩
mutual
noncomputable def dR(T:Tab)(N:List Str)(sc:Scope):MS->Stmt->Bool
 | .set i e,s0=>onQ (ly s0) λq=>N[i]?==some q.1&&d8 sc q.1&&aj q.1&&chk T e N sc q.2.2&&!aw e&&(bC q.2.2||lY sc q.1 q.2.1 q.2.2 e)
 | .setOwn i e,s0=>onQ (ly s0) λq=>N[i]?==some q.1&&d8 sc q.1&&aj q.1&&chk T e N sc q.2.2&&(fR e||AF e)&&(bC q.2.2||lY sc q.1 q.2.1 q.2.2 e)
 | .append i e,s0=>onQ (u5 s0) λq=>onQ (fQ q.2.2.2.1) λv=>aR N sc i q.1&&q.2.1==("append":Str)&&chk T e N sc v&&!aw e&&ac v&&q.2.2.1.endLine==q.2.2.2.2.line
 | .extend i e,s0=>onQ (u5 s0) λq=>onQ (fQ q.2.2.2.1) λv=>aR N sc i q.1&&q.2.1==("extend":Str)&&chk T e N sc v&&ac v&&q.2.2.1.endLine==q.2.2.2.2.line
 | .setIdx _ _ _,_=>false
 | .unpack _ _,_=>false
 | .ite c a b,s0=>(match s0 with|.If t x y _=>chk T c N sc t&&chkSs T N sc a x&&chkSs T N sc b y|_=>false)
 | .for1 i k src body,s0=>(match s0 with|.For (.Name x _) it b [] _=>N[i]?==some x&&d8 sc x&&aj x&&kA sc false (λxs=>chks T src N sc xs) k it&&chkSs T N sc body b|_=>false)
 | .ret e,s0=>onQ (qa s0) λv=>chk T e N sc v&&!aw e
 | .retOwn i,s0=>onQ (qa s0) λv=>onQ (y7 v) λx=>aR N sc i x
 | .retM e,s0=>onQ (qa s0) λv=>chk T e N sc v&&!aw e
 | .mkW i e,s0=>onQ (ly s0) λq=>onQ (jx q.2.2) λc=>N[i]?==some q.1&&d8 sc q.1&&aj q.1&&c.1==("Words":Str)&&glB sc c.1&&chks T [e] N sc c.2&&!aw e
 | .nomore i,s0=>onQ (ifQ s0) λt=>onQ (p6 t) λq=>aR N sc i q.1&&q.2.1==("are_left":Str)&&q.2.2.1.endLine==q.2.2.2.line
 | .isKey x e,s0=>onQ (ifQ s0) λt=>onQ (p7 t) λq=>q.2==x&&glB sc q.2&&aj q.2&&chk T e N sc q.1&&!aw e&&fm.any λt=>t.1==x
 | .setP i e,s0=>onQ (ly s0) λq=>N[i]?==some q.1&&d8 sc q.1&&aj q.1&&onQ (AG q.2.2) λr=>r.1==("list":Str)&&r.2.1==("reversed":Str)&&glB sc r.1&&glB sc r.2.1&&chk T e N sc r.2.2&&ac r.2.2
 | .setX i x,s0=>onQ (ly s0) λq=>N[i]?==some q.1&&d8 sc q.1&&aj q.1&&br T x N sc q.2.2&&bC q.2.2
 | .appX i x,s0=>onQ (u5 s0) λq=>onQ (fQ q.2.2.2.1) λv=>aR N sc i q.1&&q.2.1==("append":Str)&&br T x N sc v&&ac v&&q.2.2.1.endLine==q.2.2.2.2.line
 | .retXE x,s0=>onQ (qa s0) λv=>br T x N sc v
 | .forX i x body,s0=>(match s0 with|.For (.Name y _) it b [] _=>N[i]?==some y&&d8 sc y&&aj y&&onQ (fnQ it) (λq=>q.1==("range":Str)&&glB sc q.1&&q.2.2.isEmpty&&br T x N sc q.2.1&&ac q.2.1)&&chkSs T N sc body b|_=>false)
 | .never,_=>true
 | .raise c,s0=>onQ (Da s0) λx=>x==c&&glB sc x&&aj x&&T.es.contains x
 | .tryC j f es hs,s0=>onQ (C8 s0) λq=>onQ (AK q.1) λb=>onQ (jx b.2.1) λc=>jB N sc j b.1&&T.fs[f]?==some c.1&&glB sc c.1&&aj c.1&&chks T es N sc c.2&&!c.2.isEmpty&&qU T.es N sc hs (q.2.1::q.2.2)
 | _,_=>false
noncomputable def chkSs(T:Tab)(N:List Str)(sc:Scope):List MS->List Stmt->Bool
 | [],[]=>true
 | .freeze _::_,_=>false
 |m::ms,s::ss=>dR T N sc m s&&chkSs T N sc ms ss
 | _,_=>false
end
def xO (T) (N) (sc) (i) (x) (body) (s0):dR T N sc (.forX i x body) s0=(match s0 with|.For (.Name y _) it b [] _=>N[i]?==some y&&d8 sc y&&aj y&&onQ (fnQ it) (λq=>q.1==("range":Str)&&glB sc q.1&&q.2.2.isEmpty&&br T x N sc q.2.1&&ac q.2.1)&&chkSs T N sc body b|_=>false):=rfl
def xP(T)(N)(sc)(i)(k)(src)(body)(s0):dR T N sc (.for1 i k src body) s0=(match s0 with|.For (.Name x _) it b [] _=>N[i]?==some x&&d8 sc x&&aj x&&kA sc false (λxs=>chks T src N sc xs) k it&&chkSs T N sc body b|_=>false):=rfl
theorem kD(z:∀x b,f x x=some b->b=true):∀xs {b},eqL f xs xs=some b->b=true
 | [],b,h=>by simp[eqL]at h;exact h
 |x::xs,b,h=>by
  simp only[eqL,l0,pf]at h;obtain⟨p,h1,q,h2,rfl⟩:=h;rw[z x p h1,kD z xs h2];rfl
theorem ij:∀n x {b},eqF n x x=some b->b=true
 |n,.non,b,h=>by cases n<;>cases h<;>rfl
 |n,.bl x,b,h=>by cases n<;>cases h<;>exact G3 x
 |n,.int x,b,h=>by cases n<;>cases h<;>exact G3 x
 |n,.str x,b,h=>by cases n<;>cases h<;>exact G3 x
 |0,.tup _,b,h=>by cases h
 |0,.lst _,b,h=>by cases h
 |n+1,.tup xs,b,h=>kD (λx b=>ij n x) xs h
 |n+1,.lst xs,b,h=>kD (λx b=>ij n x) xs ((if_pos rfl).symm.trans h)
 |n,.dI _,b,h=>by cases n<;>cases h
def eM(h:eqF n x y=some b):isD x=false/\isD y=false:=by
 cases x<;>cases y<;>first|exact⟨rfl,rfl⟩|(cases n<;>cases h)
noncomputable def AQ:PV->Bool
 | .tup _=>true
 | .lst _=>true
 | _=>false
def eE(h:eqF n x y=some b)(e:AQ x=!AQ y):b=false:=by
 cases x<;>cases y<;>first|(cases e;done)|(cases n<;>cases h<;>rfl)
theorem ik :∀xs ys {b},eqL f xs ys=some b ->
  (∀(j:Nat) x y,xs[j]?=some x->ys[j]?=some y->∃c,f x y=some c) /\
   b=((range (min xs.length ys.length)).all (λj=>(f (xs.getD j .non) (ys.getD j .non)).getD false)&&xs.length==ys.length)
 | [],[],b,h=>by simp[eqL]at h;subst h;simp
 | [],y::ys,b,h=>by simp[eqL]at h;subst h;simp
 |x::xs,[],b,h=>by simp[eqL]at h;subst h;simp
 |x::xs,y::ys,b,h=>by
  simp only[eqL,l0,pf]at h;obtain⟨p,h1,q,h2,rfl⟩:=h;obtain⟨z,D⟩:=ik xs ys h2;refine⟨λj U Y G J=>?_,?_⟩
  .cases j with
   |zero=>simp at G J;subst G J;exact⟨p,h1⟩
   |succ j=>exact z j U Y (by simpa using G) (by simpa using J)
  .rw[D];have Z:min (x::xs).length (y::ys).length=min xs.length ys.length+1:=by simp only[length_cons];omega
   rw[Z,range_succ_eq_map,all_cons,List.all_map];have hl:((x::xs).length==(y::ys).length)=(xs.length==ys.length):=by
    simp_all
   rw[hl,Bool.and_assoc];simp only[getD_cons_zero,h1,getD_some,Function.comp_def,getD_cons_succ]
theorem qV :∀xs {b},inL f xs=some b->(∀x∈xs,∃c,f x=some c)/\b=xs.any λx=>(f x).getD false
 | [],b,h=>by simp[inL]at h;subst h;simp
 |x::xs,b,h=>by
  simp only[inL,l0,pf]at h;obtain⟨p,h1,q,h2,rfl⟩:=h;obtain⟨z,G⟩:=qV xs h2;refine⟨λy D=>?_,?_⟩
  .rcases y1.mp D with rfl|D
   .exact⟨p,h1⟩
   .exact z y D
  .simp_all
section
variable{X:Cx}{pins:List (Addr×Obj)}{σ:St}{H:Hp}{s:Shared}
def oa(I:Inv X pins σ H s)(h1:SqL X.K H a xs)(h2:SqT X.K H a ys):False:=by
 obtain⟨its,_,p,_⟩:=I.list h1;obtain⟨z,_,q,_⟩:=I.tuple h2;exact SeqAt.ne_of_list_tuple p.isList (show s.heap.IsTuple a z.toArray from q) rfl
def xQ{H:Hp}{a:Addr}{d:DD}(h:RdD H a d):IsD H a:=by
 cases d with
 |k kvs=>exact .inl ⟨_,h.rd⟩
 |t kvs=>exact .inr ⟨_,h.rd⟩
 |p ns=>exact absurd h.2 ow
 |w _ _=>exact absurd h.2 ow
def jE(I:Inv X pins σ H s)(h1:SqL X.K H a xs\/SqT X.K H a xs)(h2:RdD H a d):False:=by
 obtain⟨o,G,hc⟩:=(Af I (xQ h2)).1;rcases h1 with h1|h1
 .obtain⟨its,_,p,_⟩:=I.list h1;obtain⟨o',z,D,_⟩:=p.isList;rw[G]at z;cases z;rw[hc]at D;exact absurd D (by decide)
 .obtain⟨its,_,⟨o',z,D,_⟩,_⟩:=I.tuple h1;rw[G]at z;cases z;rw[hc]at D;exact absurd D (by decide)
def Sc.v_inj:∀{a b:Sc},a.v=b.v->a=b:=by
 intro a b h;cases a<;>cases b<;>simp[Sc.v]at h ⊢<;>exact h
theorem og:∀{a b},pW a=pW b->a=b
 | [],[],_=>rfl
 | [],_::_,h=>by cases h
 | _::_,[],h=>by cases h
 | (k,v)::a,(D,G)::b,h=>by
  simp[pW,F0,Prod.mk.injEq]at h;obtain⟨⟨h1,h2⟩,z⟩:=h;rw[h1,Sc.v_inj h2,og z]
theorem qW:∀{a b:List Int},(a.map Sum.inl:List Key)=b.map Sum.inl->a=b
 | [],[],_=>rfl
 | [],_::_,h=>by cases h
 | _::_,[],h=>by cases h
 |x::a,y::b,h=>by
  simp[Iz]at h;rw[h.1,qW h.2]
theorem oh:∀{a b},xv a=xv b->a=b
 | [],[],_=>rfl
 | [],_::_,h=>by cases h
 | _::_,[],h=>by cases h
 | (k,v)::a,(D,G)::b,h=>by
  simp[xv,F0]at h;obtain⟨⟨h1,h2⟩,z⟩:=h;rw[qW h1,Sc.v_inj h2,oh z]
def oi{a b:DD}(z:lv a=true)(D:lv b=true)(h:ia a=ia b):a=b:=by
 cases a<;>first|(cases z;done)|(cases b<;>first|(cases D;done)|(cases h;done)|(rw[og (HO.dK.inj h)];done)|rw[oh (HO.dT.inj h)])
def AR{H:Hp}{a:Addr}{x y:DD}(h:RdD H a x)(g:RdD H a y):x=y:=by
 have ne:∀(x:DD) (o:Obj) (u:HO),ia x≠.frz o u:=λx o u e=>by cases x<;>cases e
 obtain⟨h,h2⟩:=h;obtain⟨g,g2⟩:=g;rcases h with h|⟨o,h⟩<;>rcases g with g|⟨o',g⟩
 .rw[h]at g;exact oi h2 g2 (FV g)
 .rw[h]at g;exact absurd (FV g) (ne x _ _)
 .rw[g]at h;exact absurd (FV h) (ne y _ _)
 .rw[h]at g;exact oi h2 g2 (HO.frz.inj (FV g)).2
mutual
theorem jF(I:Inv X pins σ H s):∀(x y:PV) {u:V},Rep X.K H x u->Rep X.K H y u->x=y
 | .non,y,u,h,g=>by rw[Rep]at h;subst h;cases y<;>simp[Rep]at g ⊢
 | .bl b,y,u,h,g=>by rw[Rep]at h;subst h;cases y<;>simp[Rep]at g ⊢;exact g
 | .int b,y,u,h,g=>by rw[Rep]at h;subst h;cases y<;>simp[Rep]at g ⊢;exact g
 | .str b,y,u,h,g=>by rw[Rep]at h;subst h;cases y<;>simp[Rep]at g ⊢;exact g
 | .tup xs,y,u,h,g=>by
  rw[Rep]at h;obtain⟨a,us,rfl,q,r⟩:=h;cases y with
  |tup ys =>
   rw[Rep]at g;obtain⟨b,vs,e,z,D⟩:=g;cases e;have:=I.tuple_inj (dN q) (dN z);subst this;rw[reps_inj I xs ys r D]
  |lst ys =>
   rw[Rep]at g;obtain⟨b,vs,e,z,D⟩:=g;cases e;exact(oa I z (dN q)).elim
  |dI kvs =>
   rw[Rep]at g;obtain⟨b,e,z⟩:=g;cases e;exact(jE I (.inr (dN q)) z).elim
  | _=>simp[Rep]at g
 | .lst xs,y,u,h,g=>by
  rw[Rep]at h;obtain⟨a,us,rfl,q,r⟩:=h;cases y with
  |lst ys =>
   rw[Rep]at g;obtain⟨b,vs,e,z,D⟩:=g;cases e;have:=I.list_inj q z;subst this;rw[reps_inj I xs ys r D]
  |tup ys =>
   rw[Rep]at g;obtain⟨b,vs,e,z,D⟩:=g;cases e;exact(oa I q (dN z)).elim
  |dI kvs =>
   rw[Rep]at g;obtain⟨b,e,z⟩:=g;cases e;exact(jE I (.inl q) z).elim
  | _=>simp[Rep]at g
 | .dI kvs,y,u,h,g=>by
  rw[Rep]at h;obtain⟨a,rfl,q⟩:=h;cases y with
  |dI ks =>
   rw[Rep]at g;obtain⟨b,e,z⟩:=g;cases e;rw[AR q z]
  |tup ys =>
   rw[Rep]at g;obtain⟨b,vs,e,z,D⟩:=g;cases e;exact(jE I (.inr (dN z)) q).elim
  |lst ys =>
   rw[Rep]at g;obtain⟨b,vs,e,z,D⟩:=g;cases e;exact(jE I (.inl z) q).elim
  | _=>simp[Rep]at g
theorem reps_inj(I:Inv X pins σ H s):∀(xs ys:List PV) {us:List V},Reps X.K H xs us->Reps X.K H ys us->xs=ys
 | [],ys,us,h,g=>by
  rw[Reps]at h;subst h
  cases ys with
  |nil=>rfl
  |cons y ys=>rw[Reps]at g;obtain⟨_,_,e,_⟩:=g;cases e
 |x::xs,ys,us,h,g=>by
  rw[Reps]at h;obtain⟨u,r,rfl,q,t⟩:=h;cases ys with
  |nil=>rw[Reps]at g;cases g
  |cons y ys =>
   rw[Reps]at g;obtain⟨D,G,e,z,t'⟩:=g;cases e;rw[jF I x y q z,reps_inj I xs ys t t']
end
def Rep.tupAt(I:Inv X pins σ H s)(h:Rep X.K H (.tup xs) u)(r:aE u v) :
  ∃(a:Addr) (us:List V) (its:List Value),u=.ref a/\v=.ref a/\Reps X.K H xs us/\aA us its/\s.heap.IsTuple a its.toArray/\xs.length=its.length:=by
 rw[Rep]at h;obtain⟨a,us,rfl,q,t⟩:=h;obtain⟨its,z,p,_⟩:=I.tuple (dN q);exact⟨a,us,its,rfl,r,t,z,p,t.length.trans z.length⟩
def Rep.lstAt(I:Inv X pins σ H s)(h:Rep X.K H (.lst xs) u)(r:aE u v) :
  ∃a us its,u=.ref a/\v=.ref a/\Reps X.K H xs us/\aA us its/\s.heap.IsList a its.toArray/\xs.length=its.length:=by
 obtain⟨a,us,rfl,q,t⟩:=h;obtain⟨its,z,p,_⟩:=I.list q;exact⟨a,us,its,rfl,r,t,z,p.isList,t.length.trans z.length⟩
def il{A:Around}(ih:∀x y {J U}{D G}{b}{A},A.units+n<cLine->eqF n x y=some b->Rep X.K H x J->Rep X.K H y U->aE J D->aE U G->SeqAt.EqAt A s D G b)
  (hu:A.units+(n+1)<cLine) (rx:Reps X.K H xs us) (ry:Reps X.K H ys ws) (D:aA us its) (G:aA ws z)
  (hs:∀(j:Nat) x y,xs[j]?=some x->ys[j]?=some y->∃c,eqF n x y=some c) :
  ∀j (h1:j<its.toArray.size) (h2:j<z.toArray.size),SeqAt.EqAt A.in1 s its.toArray[j] z.toArray[j] ((eqF n (xs.getD j .non) (ys.getD j .non)).getD false):=λj h1 h2=>by
 have l1:=rx.length.trans D.length;have l2:=ry.length.trans G.length;simp only[u3]at h1 h2;have Y:xs[j]?=some xs[j]:=F5 (by omega);have Z:ys[j]?=some ys[j]:=F5 (by omega);obtain⟨J,q1,p1⟩:=rx.get Y;obtain⟨U,q2,p2⟩:=ry.get Z;obtain⟨wx,q3,p3⟩:=D.get q1;obtain⟨wy,q4,p4⟩:=G.get q2;obtain⟨c,hc⟩:=hs j _ _ Y Z;have d1:xs.getD j .non=xs[j]:=by simp[List.getD,Y]
 have d2:ys.getD j .non=ys[j]:=by simp[List.getD,Z]
 have g1:its.toArray[j]=wx:=by
  simp_all
 have g2:z.toArray[j]=wy:=by
  simp_all
 rw[d1,d2,hc,g1,g2];exact ih _ _ (show A.units+1+n<cLine by omega) hc p1 p2 p3 p4
def xR(I:Inv X pins σ H s)(ih:∀x y {z D}{G J}{b}{A},A.units+n<cLine->eqF n x y=some b->Rep X.K H x z->Rep X.K H y D->aE z G->aE D J->SeqAt.EqAt A s G J b)
  (hu:A.units+(n+1)<cLine):(∀{xs ys}{z D}{G J}{b},eqF (n+1) (.tup xs) (.tup ys)=some b->Rep X.K H (.tup xs) z->Rep X.K H (.tup ys) D->aE z G->aE D J->SeqAt.RcAt A s G J b) /\
   (∀{xs ys}{z D}{G J}{b},eqF (n+1) (.lst xs) (.lst ys)=some b->Rep X.K H (.lst xs) z->Rep X.K H (.lst ys) D->aE z G->aE D J->SeqAt.RcAt A s G J b):=by
 refine⟨λ{xs ys z D G J b} h Y Z r1 r2=>?_,λ{xs ys z D G J b} h Y Z r1 r2=>?_⟩
 .obtain⟨a,us,its,rfl,rfl,t1,w1,p1,l1⟩:=Y.tupAt I r1;obtain⟨c,ws,U,rfl,rfl,t2,w2,p2,l2⟩:=Z.tupAt I r2;have h:=h;obtain⟨hs,hb⟩:=ik xs ys h;have q:=SeqAt.RcAt.tuples (A:=A) p1 p2 (by omega) (il ih hu t1 t2 w1 w2 hs);rw[hb];simpa[l1,l2]using q
 .obtain⟨a,us,its,rfl,rfl,t1,w1,p1,l1⟩:=Y.lstAt I r1;obtain⟨c,ws,U,rfl,rfl,t2,w2,p2,l2⟩:=Z.lstAt I r2;have h:(if xs.length=ys.length then eqL (eqF n) xs ys else some false)=some b:=h;by_cases hl:xs.length=ys.length
  .rw[if_pos hl]at h;obtain⟨hs,hb⟩:=ik xs ys h;have q:=SeqAt.RcAt.lists (A:=A) p1 p2 (by simp only[u3];omega) (by omega) (il ih hu t1 t2 w1 w2 hs)
   simp_all
  .rw[if_neg hl]at h;cases h;exact SeqAt.RcAt.lists_lengths (A:=A) p1 p2 (by simp only[u3,bne_iff_ne];omega) (by omega)
def cu(hd:isD x=false)(h:Rep X.K H x u):(∃xs,x=.tup xs)\/(∃xs,x=.lst xs)\/fK u=true:=by
 cases x with
 |dI _=>cases hd
 |tup xs=>exact .inl ⟨xs,rfl⟩
 |lst xs=>exact .inr (.inl ⟨xs,rfl⟩)
 | _=>rw[Rep]at h;subst h;exact .inr (.inr rfl)
def fo(z:A.units<cLine)(f:fK u=true)(r:aE u v)(p:s.heap.IsTuple a its) :
  SeqAt.EqAt A s v (.ref a) false/\SeqAt.EqAt A s (.ref a) v false/\SeqAt.RcAt A s v (.ref a) false/\SeqAt.RcAt A s (.ref a) v false:=by
 cases u with
 |non=>cases r;exact⟨.none_tuple p z,.tuple_none p z,.none_tuple p z,.tuple_none p z⟩
 |bl b=>cases r;exact⟨.bool_tuple b p z,.tuple_bool b p z,.bool_tuple b p z,.tuple_bool b p z⟩
 |int b=>obtain⟨t,rfl⟩:=r;exact⟨.int_tuple b t p z,.tuple_int b t p z,.int_tuple b t p z,.tuple_int b t p z⟩
 |str b=>obtain⟨t,rfl⟩:=r;exact⟨.str_tuple b t p z,.tuple_str b t p z,.str_tuple b t p z,.tuple_str b t p z⟩
 | _=>exact absurd (show false=true from f) ow
def gh(z:A.units<cLine)(f:fK u=true)(r:aE u v)(p:s.heap.IsList a its) :
  SeqAt.EqAt A s v (.ref a) false/\SeqAt.EqAt A s (.ref a) v false/\SeqAt.RcAt A s v (.ref a) false/\SeqAt.RcAt A s (.ref a) v false:=by
 cases u with
 |non=>cases r;exact⟨.none_list p z,.list_none p z,.none_list p z,.list_none p z⟩
 |bl b=>cases r;exact⟨.bool_list b p z,.list_bool b p z,.bool_list b p z,.list_bool b p z⟩
 |int b=>obtain⟨t,rfl⟩:=r;exact⟨.int_list b t p z,.list_int b t p z,.int_list b t p z,.list_int b t p z⟩
 |str b=>obtain⟨t,rfl⟩:=r;exact⟨.str_list b t p z,.list_str b t p z,.str_list b t p z,.list_str b t p z⟩
 | _=>exact absurd (show false=true from f) ow
def va(D:aE y u)(z:aE x v)(J:fK y=true)(G:fK x=true):SeqAt.RcAt A s u v (eqV y x):=by
 cases y with
 |non =>
  cases D;cases x with
  |non=>cases z;exact SeqAt.RcAt.none_none
  |bl b=>cases z;exact SeqAt.RcAt.none_bool b
  |int b=>obtain⟨t,rfl⟩:=z;exact SeqAt.RcAt.none_int b t
  |str b=>obtain⟨t,rfl⟩:=z;exact SeqAt.RcAt.none_str b t
  | _=>exact absurd (show false=true from G) ow
 |bl a =>
  cases D;cases x with
  |non=>cases z;exact SeqAt.RcAt.bool_none a
  |bl b=>cases z;exact SeqAt.RcAt.bool_bool a b
  |int b=>obtain⟨t,rfl⟩:=z;exact SeqAt.RcAt.bool_int a b t
  |str b=>obtain⟨t,rfl⟩:=z;exact SeqAt.RcAt.bool_str a b t
  | _=>exact absurd (show false=true from G) ow
 |int a =>
  obtain⟨t',rfl⟩:=D;cases x with
  |non=>cases z;exact SeqAt.RcAt.int_none a t'
  |bl b=>cases z;exact SeqAt.RcAt.int_bool a t' b
  |int b=>obtain⟨t,rfl⟩:=z;exact SeqAt.RcAt.int_int a t' b t
  |str b=>obtain⟨t,rfl⟩:=z;exact SeqAt.RcAt.int_str a t' b t
  | _=>exact absurd (show false=true from G) ow
 |str a =>
  obtain⟨t',rfl⟩:=D;cases x with
  |non=>cases z;exact SeqAt.RcAt.str_none a t'
  |bl b=>cases z;exact SeqAt.RcAt.str_bool a t' b
  |int b=>obtain⟨t,rfl⟩:=z;exact SeqAt.RcAt.str_int a t' b t
  |str b=>obtain⟨t,rfl⟩:=z;exact SeqAt.RcAt.str_str a t' b t
  | _=>exact absurd (show false=true from G) ow
 | _=>exact absurd (show false=true from J) ow
def kE(z:Rep X.K H x u)(D:Rep X.K H y v)(G:fK u=true)(J:fK v=true)(h:eqF n x y=some b):b=eqV u v:=by
 cases x<;>cases y<;>simp[Rep]at z D
 all_goals first
  | (obtain⟨_,_,rfl,_⟩:=z;exact absurd (show false=true from G) ow)
  | (obtain⟨_,_,rfl,_⟩:=D;exact absurd (show false=true from J) ow)
  | (obtain⟨_,rfl,_⟩:=z;exact absurd (show false=true from G) ow)
  | (obtain⟨_,rfl,_⟩:=D;exact absurd (show false=true from J) ow)
  | (subst z D;cases n<;>cases h<;>rfl)
def eF(r:Rep X.K H y v)(f:fK v=true):AQ y=false:=by
 cases y with
 |tup _|lst _=>obtain⟨_,_,rfl,_⟩:=r;cases f
 | _=>rfl
def mV(I:Inv X pins σ H s):∀n x y {ux uy}{vx vy}{b}{A},A.units+n<cLine->eqF n x y=some b->Rep X.K H x ux->Rep X.K H y uy->aE ux vx->aE uy vy ->
  SeqAt.EqAt A s vx vy b/\SeqAt.RcAt A s vx vy b:=by
 intro n
 induction n with
 |zero =>
  intro x y ux uy vx vy b A hu h Y G Z J;have z:A.units<cLine:=by omega
  rcases cu (eM h).1 Y with⟨xs,rfl⟩|⟨xs,rfl⟩|fx
  .obtain⟨a,us,its,rfl,rfl,t1,w1,p1,l1⟩:=Y.tupAt I Z;rcases cu (eM h).2 G with⟨ys,rfl⟩|⟨ys,rfl⟩|U
   .cases h
   .obtain⟨c,ws,D,rfl,rfl,t2,w2,p2,l2⟩:=G.lstAt I J;cases h;exact⟨.tuple_list p1 p2 z,.tuple_list p1 p2 z⟩
   .obtain⟨z1,z2,z3,z4⟩:=fo z U J p1;have:=eE h (by rw[eF G U];rfl);subst this;exact⟨z2,z4⟩
  .obtain⟨a,us,its,rfl,rfl,t1,w1,p1,l1⟩:=Y.lstAt I Z;rcases cu (eM h).2 G with⟨ys,rfl⟩|⟨ys,rfl⟩|U
   .obtain⟨c,ws,D,rfl,rfl,t2,w2,p2,l2⟩:=G.tupAt I J;cases h;exact⟨.list_tuple p1 p2 z,.list_tuple p1 p2 z⟩
   .cases h
   .obtain⟨z1,z2,z3,z4⟩:=gh z U J p1;have:=eE h (by rw[eF G U];rfl);subst this;exact⟨z2,z4⟩
  .rcases cu (eM h).2 G with⟨ys,rfl⟩|⟨ys,rfl⟩|U
   .obtain⟨c,ws,D,rfl,rfl,t2,w2,p2,l2⟩:=G.tupAt I J;obtain⟨z1,z2,z3,z4⟩:=fo z fx Z p2;have:=eE h (by rw[eF Y fx];rfl);subst this;exact⟨z1,z3⟩
   .obtain⟨c,ws,D,rfl,rfl,t2,w2,p2,l2⟩:=G.lstAt I J;obtain⟨z1,z2,z3,z4⟩:=gh z fx Z p2;have:=eE h (by rw[eF Y fx];rfl);subst this;exact⟨z1,z3⟩
   .rw[kE Y G fx U h];exact⟨t_ Z J fx U,va Z J fx U⟩
 |succ n ih =>
  intro x y ux uy vx vy b A hu h Y G Z J;have z:A.units<cLine:=by omega
  obtain⟨kt,kl⟩:=xR I (λx y {_ _ _ _ _ _} a1 a2 a3 a4 a5 a6=>(ih x y a1 a2 a3 a4 a5 a6).1) hu;rcases cu (eM h).1 Y with⟨xs,rfl⟩|⟨xs,rfl⟩|fx
  .obtain⟨a,us,its,e1,ap,t1,w1,p1,l1⟩:=Y.tupAt I Z;rcases cu (eM h).2 G with⟨ys,rfl⟩|⟨ys,rfl⟩|U
   .have q:=kt h Y G Z J;obtain⟨c,ws,D,e2,aO,t2,w2,p2,l2⟩:=G.tupAt I J;subst e1 ap e2 aO;refine⟨?_,q⟩;by_cases b1:a=c
    .subst b1;have e:=jF I _ _ Y G;rw[e]at h;rw[ij _ _ h];exact .same _
    .exact .of_refs b1 q
   .obtain⟨c,ws,D,e2,aO,t2,w2,p2,l2⟩:=G.lstAt I J;subst e1 ap e2 aO;cases h;exact⟨.tuple_list p1 p2 z,.tuple_list p1 p2 z⟩
   .subst e1 ap;obtain⟨z1,z2,z3,z4⟩:=fo z U J p1;have:=eE h (by rw[eF G U];rfl);subst this;exact⟨z2,z4⟩
  .obtain⟨a,us,its,e1,ap,t1,w1,p1,l1⟩:=Y.lstAt I Z;rcases cu (eM h).2 G with⟨ys,rfl⟩|⟨ys,rfl⟩|U
   .obtain⟨c,ws,D,e2,aO,t2,w2,p2,l2⟩:=G.tupAt I J;subst e1 ap e2 aO;cases h;exact⟨.list_tuple p1 p2 z,.list_tuple p1 p2 z⟩
   .have q:=kl h Y G Z J;obtain⟨c,ws,D,e2,aO,t2,w2,p2,l2⟩:=G.lstAt I J;subst e1 ap e2 aO;refine⟨?_,q⟩;by_cases b1:a=c
    .subst b1;have e:=jF I _ _ Y G;rw[e]at h;rw[ij _ _ h];exact .same _
    .exact .of_refs b1 q
   .subst e1 ap;obtain⟨z1,z2,z3,z4⟩:=gh z U J p1;have:=eE h (by rw[eF G U];rfl);subst this;exact⟨z2,z4⟩
  .rcases cu (eM h).2 G with⟨ys,rfl⟩|⟨ys,rfl⟩|U
   .obtain⟨c,ws,D,rfl,rfl,t2,w2,p2,l2⟩:=G.tupAt I J;obtain⟨z1,z2,z3,z4⟩:=fo z fx Z p2;have:=eE h (by rw[eF Y fx];rfl);subst this;exact⟨z1,z3⟩
   .obtain⟨c,ws,D,rfl,rfl,t2,w2,p2,l2⟩:=G.lstAt I J;obtain⟨z1,z2,z3,z4⟩:=gh z fx Z p2;have:=eE h (by rw[eF Y fx];rfl);subst this;exact⟨z1,z3⟩
   .rw[kE Y G fx U h];exact⟨t_ Z J fx U,va Z J fx U⟩
end
section
variable{X:Cx}
def AS(Z:X.A.units+101<cLine):OpR X (compareOp .Eq) (λz D H Q=>∃x y b,Rep X.K H x z/\Rep X.K H y D/\eqF 100 x y=some b/\Q (.bl b) H):=by
 intro pins s σ H z D v u Q I G J h;obtain⟨x,y,b,U,Y,e,q⟩:=h;exact(mV I 100 x y (by omega) e U Y G J).2 _ _ _ _ ⟨.bl b,H,I,rfl,q⟩
def AT(hu:X.A.units+101<cLine):OpR X (compareOp .NotEq) (λux uy H Q=>∃x y b,Rep X.K H x ux/\Rep X.K H y uy/\sm x y=true/\eqF 100 x y=some b/\Q (.bl (!b)) H):=by
 intro pins s σ H ux uy v u Q I rx ry h;obtain⟨x,y,b,J,r2,ok,e,q⟩:=h;rcases cu (eM e).1 J with⟨xs,rfl⟩|⟨xs,rfl⟩|fx
 .cases y with
  |tup ys =>
   obtain⟨a,us,its,rfl,rfl,t1,w1,p1,l1⟩:=J.tupAt I rx;obtain⟨c,ws,G,rfl,rfl,t2,w2,p2,l2⟩:=r2.tupAt I ry;have e:eqL (eqF 99) xs ys=some b:=e;obtain⟨hs,hb⟩:=ik xs ys e;obtain⟨⟨cls,dd,data,sl⟩,ho,hc,n,hd⟩:=id p1;obtain⟨⟨b1,Z,data2,ao⟩,D,U,n2,Y⟩:=id p2;simp only at hc hd U Y;subst hc hd U Y;refine HI (op:=.NotEq) ⟨_,ho,rfl⟩ ⟨_,D,rfl⟩ PySem.F.slot_tuple_ne PySem.F.entry_tuple_ne (PySem.F.args_tuple_ne_2 _ _) (SeqAt.tuple_neAt a c its.toArray G.toArray n n2 dd Z sl ao _)
    ⟨ho,D,il (n:=99) (λx y {_ _ _ _ _ _} a1 a2 a3 a4 a5 a6=>(mV I 99 x y a1 a2 a3 a4 a5 a6).1) (by omega) t1 t2 w1 w2 hs,?_⟩ (by omega)
   refine⟨(λx=>nomatch x),⟨.bl (!b),H,I,?_,q⟩⟩;rw[hb];simp[l1,l2,L2.aE]
  | _=>cases ok
 .cases y with
  |lst ys =>
   obtain⟨a,us,its,rfl,rfl,t1,w1,p1,l1⟩:=J.lstAt I rx;obtain⟨c,ws,G,rfl,rfl,t2,w2,p2,l2⟩:=r2.lstAt I ry;have e:(if xs.length=ys.length then eqL (eqF 99) xs ys else some false)=some b:=e;obtain⟨⟨cls,dd,data,sl⟩,ho,hc,n,hd⟩:=id p1;obtain⟨⟨b1,Z,data2,ao⟩,D,U,n2,Y⟩:=id p2;simp only at hc hd U Y;subst hc hd U Y;by_cases hl:xs.length=ys.length
   .rw[if_pos hl]at e;obtain⟨hs,hb⟩:=ik xs ys e;refine HI (op:=.NotEq) ⟨_,ho,rfl⟩ ⟨_,D,rfl⟩ PySem.F.slot_list_ne PySem.F.entry_list_ne (PySem.F.args_list_ne_2 _ _) (SeqAt.list_neAt a c its.toArray G.toArray n n2 dd Z sl ao (by simp only[u3];omega) _)
     ⟨ho,D,il (n:=99) (λx y {_ _ _ _ _ _} a1 a2 a3 a4 a5 a6=>(mV I 99 x y a1 a2 a3 a4 a5 a6).1) (by omega) t1 t2 w1 w2 hs,?_⟩ (by omega)
    refine⟨(λx=>nomatch x),⟨.bl (!b),H,I,?_,q⟩⟩;rw[hb,hl,Nat.min_self];simp[<- l1,hl,L2.aE]
   .rw[if_neg hl]at e;cases e;refine HI (op:=.NotEq) ⟨_,ho,rfl⟩ ⟨_,D,rfl⟩ PySem.F.slot_list_ne PySem.F.entry_list_ne (PySem.F.args_list_ne_2 _ _) (SeqAt.list_ne_lengthsAt a c its.toArray G.toArray n n2 dd Z sl ao (by simp only[u3,bne_iff_ne];omega)) ⟨ho,D,?_⟩ (by omega);exact⟨(λx=>nomatch x),⟨.bl true,H,I,rfl,q⟩⟩
  | _=>cases ok
 .have fy:fK uy=true:=by
   rcases cu (eM e).2 r2 with⟨ys,rfl⟩|⟨ys,rfl⟩|fy
   .cases x<;>cases ok
    obtain⟨_,_,rfl,_⟩:∃a us,ux=V.ref a/\_:=by rw[Rep]at J;exact J
    exact absurd (show false=true from fx) ow
   .cases x<;>cases ok
    obtain⟨_,_,rfl,_⟩:∃a us,ux=V.ref a/\_:=by rw[Rep]at J;exact J
    exact absurd (show false=true from fx) ow
   .exact fy
  have hb:=kE J r2 fx fy e;subst hb;refine Cw pins s σ H ux uy v u Q I rx ry ?_;have key:scal ux uy=true/\decide (ux=uy)=eqV ux uy:=by
   cases x<;>cases y<;>simp only[Rep]at J r2<;>first
    | (obtain⟨_,_,rfl,_⟩:=J;exact absurd (show false=true from fx) ow)
    | (obtain⟨_,_,rfl,_⟩:=r2;exact absurd (show false=true from fy) ow)
    | (obtain⟨_,rfl,_⟩:=J;exact absurd (show false=true from fx) ow)
    | (obtain⟨_,rfl,_⟩:=r2;exact absurd (show false=true from fy) ow)
    | (subst J r2;first|(cases ok;done)|exact⟨rfl,by first|exact qD|exact tL|exact qE|exact Hl rfl|exact HU (λz=>by cases z)⟩)
  exact⟨key.1,by rw[key.2];exact q⟩
def im(I:Inv X pins σ H s)(hu:X.A.units+101<cLine)(rx:Rep X.K H x ux)(r1:aE ux vx)(t:Reps X.K H xs us)(w:aA us its)(h:isIn x xs=some b) :
  ∃e,(∀y,y∈its.toArray->SeqAt.EqAt X.A.in1 s y vx (e y))/\its.toArray.any e=b:=by
 obtain⟨h1,h2⟩:=qV xs h
 classical
 have D:∀z u y,aE u y->Rep X.K H z u->∀p:(∃z u,aE u y/\Rep X.K H z u),p.choose=z:=λz u y r q p=>by
  obtain⟨u',r',q'⟩:=p.choose_spec;have e:=r.inj r';subst e;exact jF I _ _ q' q
 refine⟨λy=>if p:∃z u,aE u y/\Rep X.K H z u then(eqF 100 p.choose x).getD false else false,?_,?_⟩
 .intro y hy;refine bq λZq kq=>?_
  obtain⟨j,hj,e⟩:=getElem_of_mem (by simpa using hy:y∈its);have ej:its[j]?=some y:=by rw[F5 hj,e]
  have l1:=w.length;obtain⟨G,Y⟩:∃G,us[j]?=some G:=⟨_,F5 (by omega)⟩;obtain⟨wy,Z,J⟩:=w.get Y;rw[ej]at Z;cases Z;obtain⟨z,e3,U⟩:=t.get' Y;obtain⟨c,hc⟩:=h1 z (Hf e3);have q:=(mV I 100 z x (A:=X.A.in1) (show X.A.units+1+100<cLine by omega) hc U rx J r1).1;have p:∃z u,aE u y/\Rep X.K H z u:=⟨z,G,J,U⟩;have e4:=D z G y J U p;refine kq ?_
  simp_all
 .rw[h2];simp only[any_toArray];clear h h1 h2
  induction xs generalizing us its with
  |nil =>
   rw[Reps]at t;subst t;cases w
   rfl
  |cons z zs ih =>
   rw[Reps]at t;obtain⟨u,r,rfl,q,t⟩:=t;cases w with
   |cons rv w =>
    rename_i y ys;have p:∃z u,aE u y/\Rep X.K H z u:=⟨z,u,rv,q⟩;have e4:=D z u y rv q p;rw[any_cons,any_cons,ih t w];simp only[p,dite_true,e4]
def AU(D:X.A.units+101<cLine):OpR X (compareOp .In) (λG J H Q=>∃x xs a us b,Rep X.K H x G/\J=.ref a/\(SqL X.K H a us\/SqT X.K H a us)/\Reps X.K H xs us/\isIn x xs=some b/\Q (.bl b) H):=by
 intro pins s σ H G J v u Q I U ry h;obtain⟨x,xs,a,us,b,Y,rfl,z,Z,e,q⟩:=h;cases ry;rcases z with z|z
 .obtain⟨its,r,pl,hz⟩:=I.list z;obtain⟨f,h1,h2⟩:=im I D Y U Z r e;refine SeqAt.in_listAt f pl.isList h1 ?_;rw[h2];exact⟨.bl b,H,I,rfl,q⟩
 .obtain⟨its,r,pl,hz⟩:=I.tuple z;obtain⟨f,h1,h2⟩:=im I D Y U Z r e;refine SeqAt.in_tupleAt f pl h1 ?_;rw[h2];exact⟨.bl b,H,I,rfl,q⟩
def sB(D:X.A.units+101<cLine):OpR X (compareOp .NotIn) (λG J H Q=>∃x xs a us b,Rep X.K H x G/\J=.ref a/\(SqL X.K H a us\/SqT X.K H a us)/\Reps X.K H xs us/\isIn x xs=some b/\Q (.bl (!b)) H):=by
 intro pins s σ H G J v u Q I U ry h;obtain⟨x,xs,a,us,b,Y,rfl,z,Z,e,q⟩:=h;cases ry;rcases z with z|z
 .obtain⟨its,r,pl,hz⟩:=I.list z;obtain⟨f,h1,h2⟩:=im I D Y U Z r e;refine SeqAt.notIn_listAt f pl.isList h1 ?_;rw[h2];exact⟨.bl (!b),H,I,rfl,q⟩
 .obtain⟨its,r,pl,hz⟩:=I.tuple z;obtain⟨f,h1,h2⟩:=im I D Y U Z r e;refine SeqAt.notIn_tupleAt f pl h1 ?_;rw[h2];exact⟨.bl (!b),H,I,rfl,q⟩
end
end MM
namespace L2
open PySem PySem.Spec PyProof.Rows List Option
theorem PE.imp(h:PE X e t)(i:∀σ H Q,t' σ H Q->t σ H Q):PE X e t':=λpins s σ H Q I q=>h pins s σ H Q I (i σ H Q q)
theorem PT.imp(h:PT X e t)(i:∀σ H Q,t' σ H Q->t σ H Q):PT X e t':=λpins s σ H Q I q=>h pins s σ H Q I (i σ H Q q)
theorem PA.imp(h:PA X e t)(i:∀σ H Q,t' σ H Q->t σ H Q):PA X e t':=λpos pins s σ H Q I q=>h pos pins s σ H Q I (i σ H Q q)
theorem PS.imp(h:PS X e t)(i:∀D σ H,t' D σ H->t D σ H):PS X e t':=λpins s σ H D I q=>h pins s σ H D I (i D σ H q)
theorem PSs.imp(h:PSs X e t)(i:∀D σ H,t' D σ H->t D σ H):PSs X e t':=λpins s σ H D I q=>h pins s σ H D I (i D σ H q)
theorem PI.imp(h:PI X tg e t)(i:∀σ H R,t' σ H R->t σ H R):PI X tg e t':=λpins s σ H R I q=>h pins s σ H R I (i σ H R q)
end L2
namespace MM
open PySem PySem.Spec PyProof.Rows L2 List Option
noncomputable def fD(H:Hp)(ms:List Addr):Hp:=λb=>if b∈ms then none else H b
def ip(K:IF)(O:List Addr)(H:Hp):MV->V->Prop
 | .val v,u=>Rep K (al H O) v u
 | .brw xs,u=>∃a us,u=.ref a/\SqL K H a us/\Reps K (al H O) xs us
 | .own _,_=>False
 | .ownD _,_=>False
 | .mutD _,_=>False
 | .brwD kvs,u=>∃a,u=.ref a/\Rd H a (ia kvs)
noncomputable def spM(K:IF)(cal:Cal)(f:Nat):Sp:=λvs H Q _ =>
 ∃O args r,(∀a∈O,H a≠none)/\Paired (ip K O H) args vs/\cal f args=some r/\∀u H',ae H H'->Rep K (al H' O) r u->Q u H'
noncomputable def spF(K:IF)(cal:Cal)(f:Nat):Sp:=λvs H Q _ =>
 ∃O args xs,(∀a∈O,H a≠none)/\Paired (ip K O H) args vs/\cal (f+1000) args=some (.lst xs)/\∀p us H',ae H H'->H p=none->H' p=some (.lst us)->Reps K (al H' (p::O)) xs us->Q (.ref p) H'
def xS(K:IF)(O:List Addr)(H:Hp):MV->V->Prop
 | .val v,u=>Rep K (al H O) v u
 | .mutD d,u=>∃a,u=.ref a/\DAt K H O a d/\a∈O
 | _,_=>False
inductive bQ(K:IF)(O:List Addr)(H':Hp):List MV->List V->List PV->List Addr->Prop where
 | nil:bQ K O H' [] [] [] []
 | mutd {d d':DD}{a:Addr}{as:List MV}{vs:List V}{ds:List PV}{ms:List Addr} (h:DAt K H' O a d') (hn:a∉ms) (t:bQ K O H' as vs ds ms):bQ K O H' (.mutD d::as) (.ref a::vs) (.dI d'::ds) (a::ms)
 | other {m:MV}{v:V}{as:List MV}{vs:List V}{ds:List PV}{ms:List Addr} (h:∀d,m≠.mutD d) (t:bQ K O H' as vs ds ms):bQ K O H' (m::as) (v::vs) ds ms
noncomputable def spD(K:IF)(cal:Cal)(f:Nat):Sp:=λvs H Q _ =>
 ∃O args v ds z ms,(∀a∈O,H a≠none)/\Paired (xS K O H) args vs/\bQ K O H args vs z ms/\cal (f+2000) args=some (.tup (v::ds)) /\
  ∀u H',(∀b o,b∉ms->H b=some o->H' b=some o)->bQ K O H' args vs ds ms->Rep K (al H' O) v u->Q u H'
noncomputable def spE(K:IF)(mg:Str->Option Value)(es:List Str)(cal:Cal)(f:Nat):Sp:=λvs H Q E =>
 ∃(O:List Addr) (args:List MV) (r:PV),(∀a∈O,H a≠none)/\Paired (ip K O H) args vs/\cal (f+5000) args=some r /\
  ((∃v,r=.tup [v]/\∀u H',ae H H'->Rep K (al H' O) v u->Q u H')\/∃c,r=.str c/\∀C H',es.contains c=true->mg c=some (.ref C)->ae H H'->E (.ref C) none H')
noncomputable def spX(K:IF)(mg:Str->Option Value)(es:List Str)(cal:Cal)(f:Nat):Sp:=λvs H _ E =>
 ∃(O:List Addr) (args:List MV) (c:Str) (z:List PV) (ms:List Addr),(∀a∈O,H a≠none)/\Paired (xS K O H) args vs/\bQ K O H args vs z ms/\cal (f+5000) args=some (.str c) /\
  ∀C H',es.contains c=true->mg c=some (.ref C)->(∀b o,b∉ms->H b=some o->H' b=some o)->E (.ref C) none H'
noncomputable def Fq(K:IF)(C:Addr):Option (List Value):=match K.lookup C with
 |some ⟨_,_,.cls cd,_⟩=>(match cd.mro with
  | _::ms=>some ms
  | []=>none)
 | _=>none
noncomputable def Db(K:IF)(c d:Str)(C:Addr)(ms:List Value):Bool:=match PySem.W.nsIn K mainGlobals d with
 |some (some (.ref D))=>(Value.ref C::ms).contains (.ref D)==iR c d&&PySem.W.kitOne K (.ref C) (.ref D)==some (iR c d)
 | _=>false
noncomputable def qX (K:IF) (es:List Str):Bool:=PySem.W.nsIn K mainGlobals "ValueError" == some none&&es.all λc=>match PySem.W.nsIn K mainGlobals c with
 |some (some (.ref C))=>(match Fq K C with
  |some ms=>fM K C ms&&uK K C&&PySem.W.kitOne K (.ref C) (.type "ValueError")==some true&&es.all λd=>Db K c d C ms
  |none=>false)
 | _=>false
noncomputable def iq:List String:=["len","tuple","list","sorted","any","all","sum","max","min","int","bool","str","isinstance","set","range","enumerate","reversed"
 ,"zip"
 ]
noncomputable def toV:PV->V
 | .non=>.non
 | .bl b=>.bl b
 | .int i=>.int i
 | .str x=>.str x
 | _=>.non
def xT(K:IF)(mg:Str->Option Value)(w:World):Prop:=∀t∈fm,∃(d:Addr) (o:Obj) (es:Array DictEntry) (ep:Nat),(d==sysModules)=false/\mg t.1=some (.ref d)/\List.lookup d K=some o/\o.ExactDict/\o.data=.dict es ep/\(∀e∈es,∃k,Value.isStrOf k e.key=true/\e.hash=hashStr w k) /\
 ∀p∈t.2,∃(val:Value) (u:V),findBy Value.isStrOf es p.1=some val/\aE u val/\∀F,Rep K F p.2 u
noncomputable abbrev wGs (l:Addr) (n:Int):List (Str×V):=[("words",.ref l),("place",.int n)]
noncomputable def spL(K:IF)(C:Addr):Sp:=λvs H Q _=>∃a dx l n ws,vs=[.ref a]/\H a=some (.ins C dx (wGs l n))/\SqL K H l ws/\Q (.bl (decide (n<ws.length))) H
noncomputable def spN(K:IF)(C:Addr):Sp:=λvs H Q _=>∃a dx l n ws u,vs=[.ref a]/\H a=some (.ins C dx (wGs l (n:Nat)))/\SqL K H l ws/\ws[n]?=some u/\Q u (upd H a (.ins C dx (wGs l (n+1:Nat))))
noncomputable def spW (C:Addr):Sp:=λvs H Q _=>∃x dx t,vs=[.ref x,.str t]/\H x=some (.ins C dx [])/\t.length<=1000000/\(Txt.split t (" ":Str)).length<=1000000 /\
 ∀l H',H l=none->H' x=some (.ins C dx (wGs l (0:Nat)))->H' l=some (.lst ((Txt.split t (" ":Str)).map V.str))->(∀b o,b≠x->H b=some o->H' b=some o)->Q .non H'
structure Gf(X:Cx)(T:Tab)(k:Nat)(cal:Cal):Prop where
 calm:X.calm=true
 room:cI k X.A
 fns:∀(f:Nat) (x:Str),T.fs[f]?=some x->∃(fa:Addr) (fd:FuncData) (ps:List Str),X.mg x=some (.ref fa)/\PySem.W.keepIn X.K (.ref fa)=true/\bb X.K fd ps []/\b9 X.prog X.w X.K X.mg X.base CX0 k fa fd ps (spM X.K cal f)/\∀l,T.ds[f]?=some l->∃vs,bb X.K fd ps vs/\aA (l.map Sc.v) vs
 blt:∀x∈iq,X.mg (x:Str)=none
 gs:∀p∈T.gs,∃u,X.mg p.1=some u/\aE (toV p.2) u
 ct:xT X.K X.mg X.w
 wlvl:cal 4000 []≠none->cI 3 X.A
 wcls:∀C,IsW X.K C->Cls X.K C/\(∃(fa:Addr) (fd:FuncData) (ps:List Str),nB X.K C "are_left" fa/\bb X.K fd ps []/\b9 X.prog X.w X.K X.mg X.base CX0 1 fa fd ps (spL X.K C)) /\
  (∃(fa:Addr) (fd:FuncData) (ps:List Str),nB X.K C "next_word" fa/\bb X.K fd ps []/\b9 X.prog X.w X.K X.mg X.base CX0 2 fa fd ps (spN X.K C))
 wini:∃C,IsW X.K C/\X.mg ("Words":Str)=some (.ref C)/\∃(fa:Addr) (fd:FuncData) (ps:List Str),Mk X.K C fa/\bb X.K fd ps []/\b9 X.prog X.w X.K X.mg X.base CX0 1 fa fd ps (spW C)
 fnsF:∀(f:Nat) (x:Str),T.fs[f]?=some x->∃(fa:Addr) (fd:FuncData) (ps:List Str),X.mg x=some (.ref fa)/\PySem.W.keepIn X.K (.ref fa)=true/\bb X.K fd ps []/\b9 X.prog X.w X.K X.mg X.base CX0 k fa fd ps (spF X.K cal f)
 fnsD:∀(f:Nat) (x:Str),T.fs[f]?=some x->∃(fa:Addr) (fd:FuncData) (ps:List Str),X.mg x=some (.ref fa)/\PySem.W.keepIn X.K (.ref fa)=true/\bb X.K fd ps []/\b9 X.prog X.w X.K X.mg X.base CX0 k fa fd ps (spD X.K cal f)
 errs:qX X.K T.es=true
 mgs:∀c u,PySem.W.nsIn X.K mainGlobals c=some u->X.mg c=u
 fnsE:∀(f:Nat) (x:Str),T.fs[f]?=some x->∃(fa:Addr) (fd:FuncData) (ps:List Str),X.mg x=some (.ref fa)/\PySem.W.keepIn X.K (.ref fa)=true/\bb X.K fd ps []/\b9 X.prog X.w X.K X.mg X.base (CXE X.prog X.w) k fa fd ps (spE X.K X.mg T.es cal f)
 fnsX:∀(f:Nat) (x:Str),T.fs[f]?=some x->∃(fa:Addr) (fd:FuncData) (ps:List Str),X.mg x=some (.ref fa)/\PySem.W.keepIn X.K (.ref fa)=true/\bb X.K fd ps []/\b9 X.prog X.w X.K X.mg X.base (CXE X.prog X.w) k fa fd ps (spX X.K X.mg T.es cal f)
theorem Gf.units(g:Gf X T k cal):X.A.units+200<cLine:=by have:=g.room.un;omega
def Got(K:IF)(H:Hp)(O:List Addr)(z:ME)(v:PV)(u:V):Prop:=bD K H O v u/\(aw z=false->Rep K (al H O) v u)
noncomputable def tE(K:IF)(cal:Cal)(z:ME):TE:=λσ H Q=>∃B A O ρ v,ar K B A O H ρ σ/\ev cal z ρ=some v/\∀u H',ae H H'->Got K H' O z v u->Q u H'
noncomputable def tT(K:IF)(cal:Cal)(z:ME):TT:=λσ H Q=>∃B A O ρ b,ar K B A O H ρ σ/\evB cal z ρ=some b/\∀H',ae H H'->Q b H'
def Fr(K:IF)(H:Hp)(O:List Addr)(ms:List ME)(vs:List PV)(us:List V):Prop:=Paired (bD K H O) vs us/\((ms.all λm=>!aw m)=true->Reps K (al H O) vs us)
noncomputable def tEs(K:IF)(cal:Cal)(ms:List ME):TA:=λσ H Q=>∃B A O ρ vs,ar K B A O H ρ σ/\evs cal ms ρ=some vs/\∀us H',ae H H'->Fr K H' O ms vs us->Q us H'
noncomputable def tAs(K:IF)(cal:Cal)(ms:List ME):TA:=λσ H Q=>∃B A O ρ vs,ar K B A O H ρ σ/\evA cal ms ρ=some vs/\∀us H',ae H H'->Paired (ip K O H') vs us->Q us H'
section
variable{K:IF}{H H':Hp}{O:List Addr}
theorem Got.of(h:Rep K (al H O) v u):Got K H O z v u:=⟨.inl h,λ_=>h⟩
theorem Got.scal(h:∀F,Rep K F v u):Got K H O z v u:=.of (h _)
theorem Got.mono(s:ae H H')(h:Got K H O z v u):Got K H' O z v u:=⟨h.1.mono s,λe=>Rep.mono (ah s) _ (h.2 e)⟩
def c_(F)(b):Rep K F (.bl b) (.bl b):=rfl
def b_(F)(b):Rep K F (.int b) (.int b):=rfl
def ir(F)(b):Rep K F (.str b) (.str b):=rfl
def jG(F):Rep K F .non .non:=rfl
def fb{H1:Hp}{p:Addr}{xs:List PV}{us:List V}(G:∀a∈O,H1 a≠none)(D:H1 p=none)(h:Reps K (al H1 O) xs us):Rep K (al (upd H1 p (.tup us)) O) (.tup xs) (.ref p):=by
 rw[Rep];refine⟨p,us,rfl,SqT.of ?_,Reps.mono (ah (aU D _)) _ h⟩;rw[aG (λz=>G p z D)];exact aq
def iu(G:∀a∈O,H1 a≠none)(D:H1 p=none)(h:Reps K (al H1 O) xs us):Rep K (al (upd H1 p (.lst us)) O) (.lst xs) (.ref p):=by
 refine⟨p,us,rfl,SqL.of ?_,Reps.mono (ah (aU D _)) _ h⟩;rw[aG (λz=>G p z D)];exact aq
def aS(s:ae H H')(h:∀a∈O,H a≠none):∀a∈O,H' a≠none:=λa z e=>h a z (s.free e)
def cb(h:n<=10000):n<=sizeLine:=Gg h (by decide)
end
section
variable{X:Cx}{T:Tab}{k:Nat}{cal:Cal}
def Dd(h:Au sc x=true):Vis sc x:=by
 unfold Au at h;simp[FW]at h;rcases h with(h|h)|h
 .exact .inl h
 .exact .inr (.inl h)
 .exact .inr (.inr h)
def fc(h:d8 sc x=true):Loc sc x:=by
 unfold d8 at h;simp[FW]at h;exact h
def bW (h:aj x=true):(x==("__debug__":Str))=false/\(x==("__classdict__":Str))=false/\x ≠ "__name__":=by simp_all [aj]
def cw(h:glB X.env.scope x=true):Gl X x:=by
 unfold glB at h;simp at h;exact h
def bK(h:aR X.N X.env.scope i x=true):PE X (.Name x pos) (zE i):=by
 unfold aR at h;simp[n4,FW]at h;obtain⟨⟨h1,h2⟩,z⟩:=h;obtain⟨p1,p2,_⟩:=bW z;exact tz h1 (Dd h2) p1 p2
def aT{K:IF}(st:ar K B A O H ρ σ){i:Nat}(e:(ρ[i]?).join=some m):∃u,σ[i]?=some (some u)/\dO K B O H m u:=st.slot i m (av e)
def za(h:aR X.N X.env.scope i x=true):PE X (.Name x pos) (tE X.K cal (.var i)):=by
 refine(bK h).imp λσ H Q G=>?_
 obtain⟨B,A,O,ρ,v,st,z,q⟩:=G;rw[ev]at z;cases D:(ρ[i]?).join with
 |none=>rw[D]at z;cases z
 |some m =>
  rw[D]at z;cases m with
  |val w =>
   simp[uO]at z;subst z;obtain⟨u,J,r⟩:=aT st D;exact⟨u,J,q u H (ae.refl H) (.of r)⟩
  | _=>cases z
def zb(h:aR X.N X.env.scope i x=true):PE X (.Name x pos) (tE X.K cal (.bor i)):=by
 refine(bK h).imp λσ H Q J=>?_
 obtain⟨B,A,O,ρ,v,st,D,q⟩:=J;rw[ev]at D;cases G:(ρ[i]?).join with
 |none=>rw[G]at D;cases D
 |some m =>
  rw[G]at D;obtain⟨u,U,r⟩:=aT st G;exact⟨u,U,q u H (ae.refl H) ⟨r.bor st.keep D,λz=>by cases z⟩⟩
def zc(h:p8 v c=true):PE X (.Constant c j pos) (tE X.K cal (.cst v)):=by
 have key:∀u,(∀F,Rep X.K F v u)->PE X (.Constant c j pos) _->PE X _ (tE X.K cal (.cst v)):=λu r p=>p.imp λσ H Q D=>by
  obtain⟨B,A,O,ρ,w,st,z,q⟩:=D;rw[ev]at z;cases z;exact q u H (ae.refl H) (.scal r)
 cases v<;>cases c<;>simp[p8,GO,FW]at h
 .exact key .non (λF=>jG F) zF
 .subst h;exact key _ (λF=>c_ F _) yO
 .subst h;exact key _ (λF=>b_ F _) mr
 .subst h;exact key _ (λF=>ir F _) jR
def vb(g:Gf X T k cal)(h:(x==y&&glB X.env.scope x&&y3 T.gs x v&&aj x)=true):PE X (.Name y pos) (tE X.K cal (.glob x v)):=by
 simp[n4,FW]at h;obtain⟨⟨⟨rfl,U⟩,hs⟩,Y⟩:=h;obtain⟨p,J,G⟩:=HM.mp hs;simp[n4,FW]at G;obtain⟨rfl,D⟩:=G;obtain⟨u,Z,r⟩:=g.gs p J;have e:p.2=v/\∀F,Rep X.K F v (toV v):=by
  revert D;generalize p.2=z;intro D;cases z<;>cases v<;>simp[y0,GO,FW]at D
  .exact⟨rfl,λF=>jG F⟩
  .subst D;exact⟨rfl,λF=>c_ F _⟩
  .subst D;exact⟨rfl,λF=>b_ F _⟩
  .subst D;exact⟨rfl,λF=>ir F _⟩
 rw[e.1]at r;refine(qz (cw U) Z r (bW Y).1).imp λσ H Q hq=>?_
 obtain⟨B,A,O,ρ,w,st,he,q⟩:=hq;cases he;exact q _ H (ae.refl H) (.scal e.2)
end
section
variable{X:Cx}
noncomputable def R2M(K:IF)(f:PV->PV->Option PV):R2:=λz D H Q =>
 ∃O x y v,(∀a∈O,H a≠none)/\bD K H O x z/\bD K H O y D/\f x y=some v/\∀u H',ae H H'->Rep K (al H' O) v u->Q u H'
def iY{g:Int->Int->Int}(h:OpR X (binaryOp op) (rI C λi j=>.int (g i j)))
  (z:∀x y v,f x y=some v->∃i j,x=.int i/\y=.int j/\C i j/\v=.int (g i j)):OpR X (binaryOp op) (R2M X.K f):=by
 intro pins s σ H ux uy v u Q I D G J;refine bq λZq U=>?_
 obtain⟨O,x,y,w,hO,Y,Z,e,q⟩:=J;obtain⟨i,j,rfl,rfl,c,rfl⟩:=z x y w e;have e1:=Y.int;have e2:=Z.int;subst e1 e2;refine U ?_;exact h pins s σ H _ _ v u Q I D G ⟨i,j,rfl,rfl,c,q _ H (ae.refl H) (b_ _ _)⟩
def qY:OpR X (binaryOp .Add) (λx y H Q=>∃l b xs zs,x=.ref l/\y=.ref b/\SqL X.K H l xs/\SqL X.K H b zs/\xs.length+zs.length<=sizeLine/\∀p,H p=none->Q (.ref p) (upd H p (.lst (xs++zs)))):=by
 intro pins s σ H x y v u Q I rx ry h;obtain⟨l,b,xs,zs,rfl,rfl,hH,hB,hz,q⟩:=h;cases rx;cases ry;obtain⟨its,r,pl,_⟩:=I.list hH;obtain⟨z,r2,U,_⟩:=I.list hB;have l1:=r.length;have l2:=r2.length;obtain⟨⟨cls,dd,data,sl⟩,ho,hc,n,hd⟩:=pl.isList;obtain⟨⟨aO,Y,data2,Z⟩,D,G,n2,J⟩:=U.isList;simp only at hc hd G J;subst hc hd G J;have e:its.toArray++z.toArray=(its++z).toArray:=by simp
 refine Iu ⟨_,ho,rfl⟩ ⟨_,D,rfl⟩ noFill_list_add seq_list_add PySem.F.slot_list_add PySem.F.entry_list_add (PySem.F.args_list_add_2 _ _) (list_addW l b its.toArray z.toArray n n2 dd Y sl Z (by rw[u3,u3];omega)) ⟨ho,D,?_⟩;rw[e];exact⟨.ref _,_,I.lnew (t':=s.toks) (r.append r2) (by rw[FZ];omega),rfl,q _ I.fresh⟩
def xU:OpR X (binaryOp .Add) (λx y H Q=>∃a b ys,x=.ref a/\y=.ref b/\SqT X.K H a []/\SqT X.K H b ys/\Q (.ref b) H):=by
 intro pins s σ H x y v u Q I rx ry h;refine bq λZq kq=>?_
 obtain⟨a,b,ys,rfl,rfl,ha,hb,q⟩:=h;cases rx;cases ry;obtain⟨its,r1,⟨⟨c1,d1,t1,l1⟩,Z,hc,n,hd⟩,_⟩:=I.tuple ha;obtain⟨G,r2,⟨⟨c2,d2,t2,l2⟩,J,U,n2,Y⟩,_⟩:=I.tuple hb;cases hc;cases hd;cases U;cases Y;have z:=r1.nil_iff.mpr rfl;have D:=tuple_addW0 a b its.toArray G.toArray n n2 d1 d2 l1 l2 (by simp[z]);refine kq ?_;exact Iu ⟨_,Z,rfl⟩ ⟨_,J,rfl⟩ Iv seq_tuple_add PySem.F.slot_tuple_add PySem.F.entry_tuple_add (PySem.F.args_tuple_add_2 _ _) D ⟨Z,J,.ref b,H,I,rfl,q⟩
def dz(h:hV f x y=some v):∃i j,x=.int i/\y=.int j/\f i j=some v:=by
 cases x<;>try (cases h;done)
 cases y<;>try (cases h;done)
 exact⟨_,_,rfl,rfl,h⟩
def iw{C:Int->Int->Prop} [∀i j,Decidable (C i j)] {g:Int->Int->Int}{x y v:PV} (h:hV (λi j=>if C i j then some (.int (g i j))else none) x y=some v):∃i j,x=.int i/\y=.int j/\C i j/\v=.int (g i j):=by
 obtain⟨i,j,D,G,z⟩:=dz h;by_cases c:C i j
 .rw[if_pos c]at z;exact⟨i,j,D,G,c,(FV z).symm⟩
 .rw[if_neg c]at z;cases z
def kF(op):OpR X (binaryOp (iT op)) (R2M X.K (ez op)):=by
 cases op with
 |sub=>exact iY (C:=λ_ _=>True) (g:=λi j=>i-j) (λpins s σ H x y v u Q I D G h=>tK pins s σ H x y v u Q I D G (by obtain⟨i,j,J,U,_,q⟩:=h;exact⟨i,j,J,U,q⟩)) (λx y v h=>by
   obtain⟨i,j,J,U,e3⟩:=dz h;exact⟨i,j,J,U,trivial,(FV e3).symm⟩)
 |mul=>exact iY zQ λx y v h=>by have q:=iw h;exact q
 |fdiv=>exact iY wO λx y v h=>by have q:=iw h;exact q
 |mod=>exact iY zR λx y v h=>by have q:=iw h;exact q
 |pow=>exact iY zS λx y v h=>by have q:=iw h;exact q
 |shr=>exact iY zT λx y v h=>by have q:=iw h;exact q
 |add =>
  intro pins s σ H ux uy v u Q I D G hq;obtain⟨O,x,y,w,hO,Y,Z,e,q⟩:=hq;cases x<;>try (cases e;done)
  all_goals (cases y<;>simp only[ez,uN]at e<;>try (cases e;done))
  .cases e;have J:=Y.int;have U:=Z.int;subst J U;exact zP pins s σ H _ _ v u Q I D G ⟨_,_,rfl,rfl,q _ H (ae.refl H) (b_ _ _)⟩
  .split at e
   .rename_i c;cases e;have J:=Y.str;have U:=Z.str;subst J U;exact pi pins s σ H _ _ v u Q I D G ⟨_,_,rfl,rfl,Gg c (by decide),q _ H (ae.refl H) (ir _ _)⟩
   .cases e
  .split at e
   .rename_i c;cases e;obtain⟨a,us,rfl,s1,t1⟩:=Y.tup;obtain⟨b,ws,rfl,s2,t2⟩:=Z.tup;have l1:=t1.length;have l2:=t2.length;have w1:=Y.tupR;have w2:=Z.tupR;by_cases z0:us=[]
    .subst z0;have z1:=eq_nil_of_length_eq_zero l1;subst z1;exact xU pins s σ H _ _ v u Q I D G ⟨a,b,ws,rfl,rfl,s1,s2,q _ H (ae.refl H) w2⟩
    refine w9 pins s σ H _ _ v u Q I D G ⟨a,b,us,ws,rfl,rfl,s1,s2,z0,cb (by omega),λz=>?_,λz p hp=>?_⟩
    .rw[z,length_nil]at l2;have z1:=eq_nil_of_length_eq_zero l2;subst z1;rw[Gj]at q;exact q _ H (ae.refl H) w1
    .exact q _ _ (aU hp _) (fb hO hp (t1.append t2))
   .cases e
  .split at e
   .rename_i c;cases e;obtain⟨a,us,rfl,s1,t1⟩:=Y.lst;obtain⟨b,ws,rfl,s2,t2⟩:=Z.lst;have l1:=t1.length;have l2:=t2.length;exact qY pins s σ H _ _ v u Q I D G ⟨a,b,us,ws,rfl,rfl,s1,s2,cb (by omega),λp hp=>q _ _ (aU hp _) (iu hO hp (t1.append t2))⟩
   .cases e
noncomputable def R2C(K:IF)(f:PV->PV->Option Bool):R2:=λz D H Q =>
 ∃O x y b,bD K H O x z/\bD K H O y D/\f x y=some b/\Q (.bl b) H
def jH{g:Int->Int->Bool}(h:OpR X (compareOp op) (rI0 λi j=>.bl (g i j)))
  (z:∀x y v,f x y=some v->∃i j,x=.int i/\y=.int j/\v=g i j):OpR X (compareOp op) (R2C X.K f):=by
 intro pins s σ H ux uy v u Q I D G J;refine bq λZq U=>?_
 obtain⟨O,x,y,w,Y,Z,e,q⟩:=J;obtain⟨i,j,rfl,rfl,rfl⟩:=z x y w e;have e1:=Y.int;have e2:=Z.int;subst e1 e2;refine U ?_;exact h pins s σ H _ _ v u Q I D G ⟨i,j,rfl,rfl,q⟩
def AV:OpR X (compareOp .Is) (λx y H Q=>∃p q,x=.bl p/\y=.bl q/\Q (.bl (p==q)) H):=by
 rintro pins s σ H x y v u Q I z D ⟨p,q,rfl,rfl,G⟩;cases z;cases D;exact pb (bA I G (by cases p<;>cases q<;>rfl))
def sC:OpR X (compareOp .IsNot) (λx y H Q=>∃p q,x=.bl p/\y=.bl q/\Q (.bl (!(p==q))) H):=by
 rintro pins s σ H x y v u Q I z D ⟨p,q,rfl,rfl,G⟩;cases z;cases D;exact pb (bA I G (by cases p<;>cases q<;>rfl))
def qZ{K:IF}{x:PV}{u:V}(r:bD K H O x u):decide (u=.non)=gu x:=by
 cases x with
 |non=>rw[r.non];rfl
 |bl b=>rw[r.bl];rfl
 |int b=>rw[r.int];rfl
 |str b=>rw[r.str];rfl
 |tup xs=>obtain⟨a,us,rfl,_⟩:=r.tup;rfl
 |lst xs=>obtain⟨a,us,rfl,_⟩:=r.lst;rfl
 |dI kvs=>obtain⟨a,rfl,_⟩:=r.dI;rfl
def q0{x y:PV}{b:Bool}(h:pT x y=some b):(∃i j,x=.str i/\y=.str j/\b=!(Builtin.Str.occurrences j i 0 j.length 1).isEmpty)\/∃xs,bE y=some xs/\isIn x xs=some b:=by
 unfold pT at h;split at h
 .split at h
  .cases h;exact .inl ⟨_,_,rfl,rfl,rfl⟩
  .cases h
 .rw[l0]at h;exact .inr h
def iZ(hu:X.A.units+200<cLine)(op:Cp):OpR X (compareOp (gN op)) (R2C X.K (cf op)):=by
 cases op with
 |lt=>exact jH yP λx y v h=>by obtain⟨i,j,D,z,e3⟩:=dz h;exact⟨i,j,D,z,(FV e3).symm⟩
 |le=>exact jH Cy λx y v h=>by obtain⟨i,j,D,z,e3⟩:=dz h;exact⟨i,j,D,z,(FV e3).symm⟩
 |gt=>exact jH Cz λx y v h=>by obtain⟨i,j,D,z,e3⟩:=dz h;exact⟨i,j,D,z,(FV e3).symm⟩
 |ge=>exact jH CA λx y v h=>by obtain⟨i,j,D,z,e3⟩:=dz h;exact⟨i,j,D,z,(FV e3).symm⟩
 |eq =>
  intro pins s σ H Z uy v u Q I G J hq;obtain⟨O,x,y,w,U,Y,e,q⟩:=hq;exact AS (by omega) pins s σ H Z uy v u Q I G J ⟨x,y,w,U.whole,Y.whole,e,q⟩
 |ne =>
  intro pins s σ H Z uy v u Q I G J hq;obtain⟨O,x,y,w,U,Y,e,q⟩:=hq;simp only[cf]at e;split at e
  .rename_i c;simp only[pf]at e;obtain⟨b,e,rfl⟩:=e;exact AT (by omega) pins s σ H Z uy v u Q I G J ⟨x,y,b,U.whole,Y.whole,c,e,q⟩
  .cases e
 |isN =>
  intro pins s σ H Z uy v u Q I G J hq;obtain⟨O,x,y,w,U,Y,e,q⟩:=hq;cases y<;>try (cases e;done)
  .have z:=Y.non;subst z;refine zU pins s σ H Z _ v u Q I G J ⟨rfl,?_⟩;have e:some (gu x)=some w:=e;rw[qZ U,FV e];exact q
  .cases x<;>try (cases e;done)
   have D:=U.bl;have z:=Y.bl;subst D z;exact AV pins s σ H _ _ v u Q I G J ⟨_,_,rfl,rfl,by rw[FV e];exact q⟩
 |notN =>
  intro pins s σ H Z uy v u Q I G J hq;obtain⟨O,x,y,w,U,Y,e,q⟩:=hq;cases y<;>try (cases e;done)
  .have z:=Y.non;subst z;refine wT pins s σ H Z _ v u Q I G J ⟨rfl,?_⟩;have e:some (!gu x)=some w:=e;rw[qZ U,FV e];exact q
  .cases x<;>try (cases e;done)
   have D:=U.bl;have z:=Y.bl;subst D z;cases e;exact sC pins s σ H _ _ v u Q I G J ⟨_,_,rfl,rfl,q⟩
 |isIn =>
  intro pins s σ H Z uy v u Q I G J hq;obtain⟨O,x,y,w,U,Y,e,q⟩:=hq;rcases q0 (show pT x y=some w from e)with⟨i,j,rfl,rfl,rfl⟩|⟨xs,D,z⟩
  .have z1:=U.str;have z2:=Y.str;subst z1 z2;exact rR pins s σ H _ _ v u Q I G J ⟨i,j,rfl,rfl,q⟩
  obtain⟨a,us,rfl,s2,t2⟩:=Y.seq D;exact AU (by omega) pins s σ H Z _ v u Q I G J ⟨x,_,a,us,w,U.whole,rfl,s2,Reps.mono (bB H O) _ t2,z,q⟩
 |notIn =>
  intro pins s σ H Z uy v u Q I G J hq;obtain⟨O,x,y,w,U,Y,e,q⟩:=hq;obtain⟨b,e9,rfl⟩:=pf.mp (show(pT x y).map _=some w from e);rcases q0 e9 with⟨i,j,rfl,rfl,rfl⟩|⟨xs,D,z⟩
  .have z1:=U.str;have z2:=Y.str;subst z1 z2;exact mw pins s σ H _ _ v u Q I G J ⟨i,j,rfl,rfl,q⟩
  obtain⟨a,us,rfl,s2,t2⟩:=Y.seq D;exact sB (by omega) pins s σ H Z _ v u Q I G J ⟨x,_,a,us,b,U.whole,rfl,s2,Reps.mono (bB H O) _ t2,z,q⟩
def kG(n)(i):place n i=ixN n i:=rfl
def AW:IxR X (R2M X.K lX):=by
 intro value slice pins s σ H ux uy v u Q I Z ry hq z;obtain⟨O,x,y,w,hO,r1,r2,e,q⟩:=hq;cases x<;>cases y<;>simp only[lX]at e<;>try (cases e;done)
 .split at e
  .rename_i hz;simp only[l0,pf]at e;obtain⟨j,G,c,J,rfl⟩:=e;have z1:=r1.str;have z2:=r2.int;subst z1 z2;refine pE value slice pins s σ H _ _ v u Q I Z ry (.inr (.inr ⟨_,_,c,rfl,rfl,Gg hz (by rw[GP];decide),?_,q _ H (ae.refl H) (ir _ _)⟩)) z;unfold atI;rw[<- kG,G];exact J
  .cases e
 .simp only[l0]at e;obtain⟨j,G,J⟩:=e;obtain⟨a,us,rfl,s1,U⟩:=r1.tup;have e3:=r2.int;subst e3;obtain⟨Y,e4,D⟩:=U.get J;refine pE value slice pins s σ H _ _ v u Q I Z ry (.inr (.inl ⟨a,us,_,Y,rfl,rfl,s1,?_,q Y H (ae.refl H) D⟩)) z;unfold atI;rw[<- U.length,<- kG,G];exact e4
 .simp only[l0]at e;obtain⟨j,G,J⟩:=e;obtain⟨a,us,rfl,s1,U⟩:=r1.lst;have e3:=r2.int;subst e3;obtain⟨Y,e4,D⟩:=U.get J;refine pE value slice pins s σ H _ _ v u Q I Z ry (.inl ⟨a,us,_,Y,rfl,rfl,s1,?_,q Y H (ae.refl H) D⟩) z;unfold atI;rw[<- U.length,<- kG,G];exact e4
def qb(h:eZ b=true):qI b:=by
 intro o i;cases b<;>first|rfl|(simp[eZ]at h)
def oj{K:IF}(h:Reps K F xs us)(lo hi):Reps K F (cut xs lo hi) (nE us lo hi):=by
 have z:=h.length;have e:∀n d o,hW n d o=HT.sIx n d o:=λn d o=>by cases o<;>rfl
 unfold cut nE;rw[e,e,z];exact(h.drop _).take _
def AX:SlR X (λx lo hi H Q=>∃O v w,(∀a∈O,H a≠none)/\bD X.K H O v x/\hZ v lo hi=some w/\∀u H',ae H H'->Rep X.K (al H' O) w u->Q u H'):=by
 intro pins s σ H x v J U lo hi Y Q I Z hs pl pu hq;obtain⟨O,pv,w,hO,r1,e,q⟩:=hq;cases pv<;>simp only[hZ]at e<;>try (cases e;done)
 .rename_i xs;cases e;obtain⟨a,us,rfl,s1,z⟩:=r1.tup;have e:∀n d o,hW n d o=HT.sIx n d o:=λn d o=>by cases o<;>rfl
  by_cases D:HT.sIx us.length 0 lo=0/\HT.sIx us.length us.length hi=us.length
  .refine xk pins s σ H _ v J U lo hi Y Q I Z hs pl pu ⟨a,us,rfl,s1,D.1,D.2,q _ _ (ae.refl H) ?_⟩;have:cut xs lo hi=xs:=by
    unfold cut;rw[e,e,z.length,D.1,D.2,drop_zero,<- z.length,Nat.sub_zero,take_length]
   rw[this];exact r1.tupR
  .exact zY pins s σ H _ v J U lo hi Y Q I Z hs pl pu ⟨a,us,rfl,s1,D,λp G=>q _ _ (aU G _) (fb hO G (oj z lo hi))⟩
 .cases e;obtain⟨a,us,rfl,s1,z⟩:=r1.lst;exact xa pins s σ H _ v J U lo hi Y Q I Z hs pl pu ⟨a,us,rfl,s1,λp G=>q _ _ (aU G _) (iu hO G (oj z lo hi))⟩
end
def q8{ns:List Int}(h:ns.length<2):St.dd ns.reverse=ns:=by
 match ns,h with
 | [],_=>rfl
 | [k],_=>rfl
 | _::_::_,h=>rw[length_cons,length_cons]at h;omega
section
variable{X:Cx}{T:Tab}{k:Nat}{cal:Cal}
def RBM(K:IF)(f:List PV->Option PV):List V->Hp->VK->Prop:=λus H Q =>
 ∃O vs v,(∀a∈O,H a≠none)/\Paired (bD K H O) vs us/\f vs=some v/\∀u H',ae H H'->Rep K (al H' O) v u->Q u H'
def p1{K:IF}(h:Paired (bD K H O) [x] us):∃u,us=[u]/\bD K H O x u:=by
 cases h with
 |cons r t=>cases t;exact⟨_,rfl,r⟩
def p2{K:IF}(h:Paired (bD K H O) [x,y] us):∃u w,us=[u,w]/\bD K H O x u/\bD K H O y w:=by
 cases h with
 |cons r t=>cases t with
  |cons z t'=>cases t';exact⟨_,_,rfl,r,z⟩
def da(h:ay f vs=some v)(z:iV f=some 1\/(cQ f).isSome=true\/f=.sortedSet\/f=.lenSet\/f=.valuesOf):∃x,vs=[x]:=by
 cases vs with
 |nil=>cases f<;>simp[ay,b0,jw,fN]at h
 |cons x r=>cases r<;>first|exact⟨x,rfl⟩|(cases f<;>simp[ay,b0,fN,iV,cQ]at h z)
def De:bG X (.builtin "len") (RBM X.K (ay .len)):=by
 intro pins s σ H xs us Q I r h;obtain⟨O,vs,v,hO,Y,e,q⟩:=h;obtain⟨x,rfl⟩:=da e (.inl rfl);obtain⟨u,rfl,G⟩:=p1 Y;cases x<;>simp only[ay,b0,yY]at e<;>try (cases e;done)
 .split at e
  .rename_i hz;cases e;have z:=G.str;subst z;exact mC pins s σ H _ us Q I r ⟨_,rfl,Gg hz (by rw[GP];decide),q _ H (ae.refl H) (b_ _ _)⟩
  .cases e
 .cases e;obtain⟨a,ws,rfl,s1,J⟩:=G.tup;exact dr pins s σ H _ us Q I r ⟨a,ws,rfl,.inr s1,by rw[<- J.length];exact q _ H (ae.refl H) (b_ _ _)⟩
 .cases e;obtain⟨a,ws,rfl,s1,J⟩:=G.lst;exact dr pins s σ H _ us Q I r ⟨a,ws,rfl,.inl s1,by rw[<- J.length];exact q _ H (ae.refl H) (b_ _ _)⟩
 .rename_i d;cases d with
  |t kvs=>cases e
  |p ns=>cases e
  |w _ _=>cases e
  |k kvs =>
   cases e;obtain⟨a,rfl,Z⟩:=G.dI;obtain⟨u,rfl,ru⟩:=eT r;cases ru;obtain⟨hz,hs,ws,U,dd⟩:=yT I.hok (show Rd H a (.dK (pW kvs))from Z.rd);have D:ws.length=kvs.length:=by rw[<- U.length];unfold pW;rw[FY]
   have hz:kvs.length<=sizeLine:=by unfold pW at hz;rw[FY]at hz;exact hz
   have hn:=iK;exact call_len_dict hs dd (by rw[D];omega) ⟨.int kvs.length,H,I.tok _,⟨s.toks+1,by rw[D]⟩,q _ H (ae.refl H) (b_ _ _)⟩
def mW:bG X (.type "tuple") (RBM X.K (ay .tupleOf)):=by
 intro pins s σ H xs us Q I r h;obtain⟨O,vs,v,J,U,e,q⟩:=h;obtain⟨x,rfl⟩:=da e (.inl rfl);obtain⟨u,rfl,z⟩:=p1 U;simp only[ay,b0,jw,gp,fN,pf]at e;obtain⟨ys,e,rfl⟩:=e;cases x<;>simp[bE]at e
 .subst e;obtain⟨a,ws,rfl,s1,D⟩:=z.tup;refine gq pins s σ H _ us Q I r ⟨a,ws,rfl,.inr ⟨s1,q _ H (ae.refl H) ?_⟩⟩;exact z.tupR
 .subst e;obtain⟨a,ws,rfl,s1,D⟩:=z.lst;exact gq pins s σ H _ us Q I r ⟨a,ws,rfl,.inl ⟨s1,λl G=>q _ _ (aU G _) (fb J G D)⟩⟩
def RBF(K:IF)(f:List PV->Option PV):List V->Hp->VK->Prop:=λus H Q =>
 ∃O vs xs,(∀a∈O,H a≠none)/\Paired (bD K H O) vs us/\f vs=some (.lst xs)/\∀l ws,H l=none->Reps K (al H O) xs ws->Q (.ref l) (upd H l (.lst ws))
def AY:bG X (.type "list") (RBF X.K (ay .listOf)):=by
 intro pins s σ H xs us Q I r h;obtain⟨O,vs,v,U,z,e,q⟩:=h;obtain⟨x,rfl⟩:=da e (.inl rfl);obtain⟨u,rfl,D⟩:=p1 z;simp only[ay,b0,jw,gp,fN,pf,PV.lst.injEq,IA]at e;obtain⟨a,ws,rfl,s1,G⟩:=D.seq e;exact mD pins s σ H _ us Q I r ⟨a,ws,rfl,s1,λl J=>q l ws J G⟩
def vc (g:Gf X T k cal):bG X (.builtin "sorted") (RBF X.K (ay .sorted)):=by
 intro pins s σ H xs us Q I r h;obtain⟨O,vs,v,Y,J,e,q⟩:=h;obtain⟨x,rfl⟩:=da e (.inl rfl);obtain⟨u,rfl,U⟩:=p1 J;simp only[ay,b0,jw,gp,fN,l0]at e;obtain⟨ys,e,z⟩:=e;obtain⟨a,ws,rfl,s1,G⟩:=U.seq e;unfold ko at z;split at z
 .rename_i D;cases z;exact g9 g.calm pins s σ H _ us Q I r ⟨a,ws,rfl,.inl s1,by rw[<- G.length];exact D,λl D=>q l _ D G⟩
 .cases z
def Dg:bG X (.type "int") (RBM X.K (ay .intOf)):=by
 intro pins s σ H xs us Q I r h;obtain⟨O,vs,v,U,G,e,q⟩:=h;obtain⟨x,rfl⟩:=da e (.inl rfl);obtain⟨u,rfl,D⟩:=p1 G;cases x<;>simp only[ay,b0,jw,gp,fN]at e<;>try (cases e;done)
 .cases e;have:=D.bl;subst this;exact lD pins s σ H _ us Q I r (.inr ⟨_,rfl,q _ H (ae.refl H) (b_ _ _)⟩)
 .cases e;have:=D.int;subst this;exact lD pins s σ H _ us Q I r (.inl ⟨_,rfl,q _ H (ae.refl H) (b_ _ _)⟩)
 .split at e
  .rename_i hz;rw[pf]at e;obtain⟨n,J,rfl⟩:=e;have z:=D.str;subst z;exact sg pins s σ H _ us Q I r ⟨_,n,rfl,J,hz,q _ H (ae.refl H) (b_ _ _)⟩
  .cases e
def Dh:bG X (.type "str") (RBM X.K (ay .strOf)):=by
 intro pins s σ H xs us Q I r h;obtain⟨O,vs,v,G,z,e,q⟩:=h;obtain⟨x,rfl⟩:=da e (.inl rfl);obtain⟨u,rfl,D⟩:=p1 z;cases x<;>simp only[ay,b0]at e<;>try (cases e;done)
 split at e
 .rename_i i hi;cases e;have:=D.int;subst this;exact uC pins s σ H _ us Q I r ⟨_,rfl,hi,q _ H (ae.refl H) (by rw[Rep];rfl)⟩
 .cases e
def q_(h:gp x=some ys):x=.lst ys:=by
 cases x<;>cases h
 rfl
def AZ (D:cQ b=some c):bG X (.builtin "isinstance") (λus H Q=>∃O v u,us=[u,.ty c]/\isD v=false/\bD X.K H O v u/\Q (.bl (isT b v)) H):=by
 intro pins s σ H xs us Q I r h;obtain⟨O,v,x,rfl,nd,G,q⟩:=h;obtain⟨u,t,rfl,J,Y⟩:=CB r;have U:=Y;subst U;have fin:∀z tk,z=isT b v->EP X pins σ Q (.bool z) { s with toks:=tk }:=λz tk e=>⟨.bl z,H,I.tok tk,rfl,by rw[e];exact q⟩
 cases v with
 |dI _=>cases nd
 |non =>
  have e:=G.non;subst e;cases (show u=Value.none from J);cases b<;>simp only[cQ,wh,reduceCtorEq]at D<;>subst D <;>
   exact PySem.W.kia_one PySem.W.kitx_none I.kIn True.intro (b:=false) (by first|rfl|kernel_rfl|decide) (λz=>nomatch z) λtk=>fin _ tk rfl
 |bl y =>
  have e:=G.bl;subst e;cases (show u=Value.bool y from J);cases b<;>simp only[cQ,wh,reduceCtorEq]at D<;>subst D<;>first
   |exact PySem.W.kia_one PySem.W.kitx_bool I.kIn True.intro (b:=true) (by first|rfl|kernel_rfl|decide) (λz=>nomatch z) λtk=>fin _ tk rfl
   |exact PySem.W.kia_one PySem.W.kitx_bool I.kIn True.intro (b:=false) (by first|rfl|kernel_rfl|decide) (λz=>nomatch z) λtk=>fin _ tk rfl
 |int y =>
  have e:=G.int;subst e;obtain⟨t,z⟩:=(show ∃t,u=Value.int y t from J);cases z;cases b<;>simp only[cQ,wh,reduceCtorEq]at D<;>subst D<;>first
   |exact PySem.W.kia_one PySem.W.kitx_int I.kIn True.intro (b:=true) (by first|rfl|kernel_rfl|decide) (λz=>nomatch z) λtk=>fin _ tk rfl
   |exact PySem.W.kia_one PySem.W.kitx_int I.kIn True.intro (b:=false) (by first|rfl|kernel_rfl|decide) (λz=>nomatch z) λtk=>fin _ tk rfl
 |str y =>
  have e:=G.str;subst e;obtain⟨t,z⟩:=(show ∃t,u=Value.str y t from J);cases z;cases b<;>simp only[cQ,wh,reduceCtorEq]at D<;>subst D<;>first
   |exact PySem.W.kia_one PySem.W.kitx_str I.kIn True.intro (b:=true) (by first|rfl|kernel_rfl|decide) (λz=>nomatch z) λtk=>fin _ tk rfl
   |exact PySem.W.kia_one PySem.W.kitx_str I.kIn True.intro (b:=false) (by first|rfl|kernel_rfl|decide) (λz=>nomatch z) λtk=>fin _ tk rfl
 |lst ys =>
  obtain⟨a,us,rfl,s1,Z⟩:=G.lst;cases (show u=Value.ref a from J);obtain⟨its,_,p,_⟩:=I.list s1;obtain⟨o,h1,h2,_⟩:=p.isList;cases b<;>simp only[cQ,wh,reduceCtorEq]at D<;>subst D<;>first
   |exact PySem.W.kia_one PySem.W.kitx_list I.kIn ⟨o,h1,h2⟩ (b:=true) (by first|rfl|kernel_rfl|decide) (λz=>nomatch z) λtk=>fin _ tk rfl
   |exact PySem.W.kia_one PySem.W.kitx_list I.kIn ⟨o,h1,h2⟩ (b:=false) (by first|rfl|kernel_rfl|decide) (λz=>nomatch z) λtk=>fin _ tk rfl
 |tup ys =>
  obtain⟨a,us,rfl,s1,Z⟩:=G.tup;cases (show u=Value.ref a from J);obtain⟨its,_,p,_⟩:=I.tuple s1;obtain⟨o,h1,h2,_⟩:=p;cases b<;>simp only[cQ,wh,reduceCtorEq]at D<;>subst D<;>first
   |exact PySem.W.kia_one PySem.W.kitx_tuple I.kIn ⟨o,h1,h2⟩ (b:=true) (by first|rfl|kernel_rfl|decide) (λz=>nomatch z) λtk=>fin _ tk rfl
   |exact PySem.W.kia_one PySem.W.kitx_tuple I.kIn ⟨o,h1,h2⟩ (b:=false) (by first|rfl|kernel_rfl|decide) (λz=>nomatch z) λtk=>fin _ tk rfl
theorem gS{K:IF} :∀{bs:List Bool}{us}{its},Reps K F (bs.map .bl) us->aA us its->its=bs.map Value.bool
 | [],_,_,h,w=>by rw[map_nil,Reps]at h;subst h;cases w;rfl
 |b::bs,_,_,h,w=>by
  obtain⟨u,r,rfl,q,t⟩:=h;subst q;cases w with
  |cons z D =>
   cases z;rw[gS t D];rfl
def sD(bs:List Bool):(range bs.length).all (λi=>bs.getD i false)=bs.all id:=by
 conv=>rhs;rw[<- Srt.lJ bs false]
 rw[List.all_map]
 rfl
def sE(bs:List Bool):(range bs.length).any (λi=>bs.getD i false)=bs.any id:=by
 conv=>rhs;rw[<- Srt.lJ bs false]
 rw[List.any_map]
 rfl
def ji(bs:List Bool):TruthOf P w A (λi v=>(bs.map Value.bool).toArray[i]?=some v) (λi=>bs.getD i false):=by
 intro i v s Q E h q;simp only[getElem?_toArray,Ga,pf]at h;obtain⟨b,e,rfl⟩:=h;have:bs.getD i false=b:=by rw[HN,e];rfl
 have z:Q (bs.getD i false) s:=q;rw[this]at z;exact GI z
def Di (hc:X.calm=true):bG X (.builtin "any") (RBM X.K (ay .any)):=by
 intro pins s σ H xs us Q I r h;obtain⟨O,vs,v,hO,D,e,q⟩:=h;obtain⟨x,rfl⟩:=da e (.inl rfl);obtain⟨u,rfl,G⟩:=p1 D;simp only[ay,b0,l0,pf]at e;obtain⟨ys,J,bs,e,rfl⟩:=e;obtain rfl:=q_ J;have:=iS e;subst this;obtain⟨a,ws,rfl,s1,U⟩:=G.lst;obtain⟨u,rfl,Y⟩:=eT r;cases Y;obtain⟨its,Z,pl,hz⟩:=I.list s1;have:=gS U Z;subst this;have z:a<s.heap.objs.size:=by obtain⟨o,ho,_⟩:=pl.isList;exact vl ho
 refine call_any_walk (HC pl.isList ?_);refine⟨s.heap.objs.size,_,_,_,_,_,λi=>bs.getD i false,rfl,Walks.list (by first|exact I.ok.hd hc|simpa using I.ok.hd hc) s.heap.objs.size a (FX z) (bs.map Value.bool).toArray,⟨⟨_,ro _ rfl,rfl,rfl⟩,pl.isList.push _⟩,ji bs,λh' tk hk=>?_⟩;have e2:(range (bs.map Value.bool).toArray.size).any (λi=>bs.getD i false)=bs.any id:=by
  rw[u3,FY];exact sE bs
 rw[e2];refine⟨.bl _,H,?_,rfl,q _ H (ae.refl H) (c_ _ _)⟩;refine I.kept (t':=tk) λb o e=>hk b o ?_ (mu _ e)
 intro hm;have hb:=vl e
 simp_all
def Dj (hc:X.calm=true):bG X (.builtin "all") (RBM X.K (ay .all)):=by
 intro pins s σ H xs us Q I r h;obtain⟨O,vs,v,hO,G,e,q⟩:=h;obtain⟨x,rfl⟩:=da e (.inl rfl);obtain⟨u,rfl,J⟩:=p1 G;simp only[ay,b0,l0,pf]at e;obtain⟨ys,U,bs,e,rfl⟩:=e;obtain rfl:=q_ U;have:=iS e;subst this;obtain⟨a,ws,rfl,s1,Y⟩:=J.lst;obtain⟨u,rfl,Z⟩:=eT r;cases Z;obtain⟨its,r',pl,hz⟩:=I.list s1;have:=gS Y r';subst this;have z:a<s.heap.objs.size:=by obtain⟨o,ho,_⟩:=pl.isList;exact vl ho
 refine call_all_walk (HC pl.isList ?_);refine⟨s.heap.objs.size,_,_,_,_,_,λi=>bs.getD i false,rfl,Walks.list (by first|exact I.ok.hd hc|simpa using I.ok.hd hc) s.heap.objs.size a (FX z) (bs.map Value.bool).toArray,⟨⟨_,ro _ rfl,rfl,rfl⟩,pl.isList.push _⟩,ji bs,λh' tk hk=>?_⟩;have e2:(range (bs.map Value.bool).toArray.size).all (λi=>bs.getD i false)=bs.all id:=by
  rw[u3,FY];exact sD bs
 rw[e2];refine⟨.bl _,H,?_,rfl,q _ H (ae.refl H) (c_ _ _)⟩;refine I.kept (t':=tk) λb o e=>hk b o ?_ (mu _ e)
 intro D;have hb:=vl e;simp at D;exact absurd D (FX hb)
def Dk (hc:X.calm=true):bG X (.type "set") (λus H Q=>∃O v u ns,us=[u]/\bD X.K H O v u/\((bE v).bind cm)=some ns/\ns.length<=4000/\∀l,H l=none->Q (.ref l) (upd H l (kg X.prog X.w l (St.dd ns.reverse)))):=by
 intro pins s σ H xs us Q I r h;obtain⟨O,v,u,ns,rfl,D,e,z,q⟩:=h;simp only[l0]at e;obtain⟨ys,G,J⟩:=e;obtain⟨a,ws,rfl,s1,U⟩:=D.seq G;have:=kz J;subst this;have Y:=U.ints;subst Y;exact uv hc pins s σ H _ us Q I r ⟨a,ns,rfl,s1,z,λl Z=>q l Z⟩
def oo (hc:X.calm=true):bG X (.builtin "sorted") (λus H Q=>∃(l:Addr) (ks:List Int),us=[.ref l]/\H l=some (kg X.prog X.w l ks)/\ks.length<2/\∀p,H p=none->Q (.ref p) (upd H p (.lst (ks.map V.int)))):=by
 intro pins s σ H xs us Q I r h;obtain⟨l,ks,rfl,e,z,q⟩:=h;exact g9 hc pins s σ H _ us Q I r ⟨l,_,rfl,.inr ⟨ks,rfl,e⟩,by rw[FY];exact z,q⟩
end
end MM
namespace L2
open PySem PySem.Spec PyProof.Rows List Option
end L2
namespace MM
open PySem PySem.Spec PyProof.Rows L2 List Option
structure i3(K:IF)(J:It)(xs:List PV)(V G:Hp):Prop where
 stop:∀H',ae G H'->J.stop xs.length H'
 go:∀(i:Nat) x H',ae G H'->xs[i]?=some x->J.go i H'
 yld:∀(i:Nat) x H' u H2,ae G H'->xs[i]?=some x->J.yld i H' u H2->ae H' H2/\∀O',(∀a∈O',H' a≠none)->ae V (al H2 O')->Rep K (al H2 O') x u
def i3.weak{K:IF}{V G z:Hp}(h:i3 K J xs V G)(s:ae G z):i3 K J xs V z:=
 ⟨λH' s'=>h.stop H' (s.trans s'),λi x H' s'=>h.go i x H' (s.trans s'),λi x H' u H2 s'=>h.yld i x H' u H2 (s.trans s')⟩
noncomputable def aX(ms:List ME)(ρ:Rho)(σ:St):List Addr:=match ms with
 | [.bor i]=>(match (ρ[i]?).join,(σ[i]?).join with|some (.own _),some (.ref a)=>[a]|_,_=>[])
 | _=>[]
noncomputable def aN(B:Hp)(O:List Addr)(H:Hp)(L:List Addr):Hp:=λb=>if b∈O then(if b∈L then H b else B b)else H b
section
variable{K:IF}{B H:Hp}{O L:List Addr}
def fS(s:ae B H):ae (aN B O H L) H:=λb u e=>by
 unfold aN at e;split at e
 .split at e
  .exact e
  .exact s b u e
 .exact e
def di(s:ae B H):ae B (aN B O H L):=λb u e=>by
 unfold aN;split
 .split
  .exact s b u e
  .exact e
 .exact s b u e
def cE:ae (al H O) (aN B O H L):=λb u e=>by
 have D:b∉O:=λz=>by rw[cy z]at e;cases e
 unfold aN;rw[if_neg D];rw[aG D]at e;exact e
end
def jI{K:IF}{V G:Hp}(h:SqL K G a us)(r:Reps K V xs us):i3 K (Itl K a) xs V G where
 stop:=λH' s=>⟨us,s.seq h,Hw r.length.symm⟩
 go:=λi x H' s e=>by
  obtain⟨u,z,_⟩:=r.get e;exact⟨us,u,s.seq h,z⟩
 yld:=λi x H' u H2 s e y=>by
  obtain⟨rfl,y⟩:=y;obtain⟨w,z,q⟩:=r.get e;have D:=y us (s.seq h);rw[z]at D;cases D;exact⟨ae.refl _,λJ _ sv=>Rep.mono sv _ q⟩
def vd{K:IF}{V G:Hp}(h:SqT K G a us)(r:Reps K V xs us):i3 K (Itt K a) xs V G where
 stop:=λH' s=>⟨us,s.seqT h,Hw r.length.symm⟩
 go:=λi x H' s e=>by
  obtain⟨u,z,_⟩:=r.get e;exact⟨us,u,s.seqT h,z⟩
 yld:=λi x H' u H2 s e y=>by
  obtain⟨rfl,y⟩:=y;obtain⟨w,z,q⟩:=r.get e;have D:=y us (s.seqT h);rw[z]at D;cases D;exact⟨ae.refl _,λJ _ sv=>Rep.mono sv _ q⟩
def A0{K:IF}{V G:Hp}{x:Str}:i3 K (Itc x) (x.cps.toList.map λc=>.str ⟨#[c]⟩) V G where
 stop:=λH' s=>by simp[Itc]
 go:=λi y H' s e=>by
  have:=(D2.mp e).1;simpa[Itc]using this
 yld:=λi y H' u H2 s e z=>by
  obtain⟨rfl,c,hc,rfl⟩:=z;refine⟨ae.refl _,λD _ sv=>?_⟩;rw[Ga,GW,hc]at e;cases e;rw[Rep]
def kH{K:IF}{V G:Hp}{lo:Int} :i3 K (Itr lo n) ((range n).map λ(k:Nat)=>.int (lo+k)) V G where
 stop:=λH' s=>by simp[Itr]
 go:=λi x H' s e=>by
  have:=(D2.mp e).1;simpa[Itr]using this
 yld:=λi x H' u H2 s e y=>by
  obtain⟨rfl,rfl⟩:=y;refine⟨ae.refl _,λz _ sv=>?_⟩;have hi:i<n:=by have:=(D2.mp e).1;simpa using this
  rw[Ga,getElem?_range hi]at e;cases e;rw[Rep]
def A1{K:IF}{H:Hp}{O:List Addr}{p:Addr}{xs:List PV}{us:List V}(D:∀a∈O,H a≠none)(G:H p=none)(h:Reps K (al (upd H p (.tup us)) O) xs us):Rep K (al (upd H p (.tup us)) O) (.tup xs) (.ref p):=by
 rw[Rep];refine⟨p,us,rfl,SqT.of ?_,h⟩;rw[aG λz=>D p z G];exact aq ..
theorem mX:∀{xs ys:List PV},xs.length=ys.length->(jv xs ys).length=xs.length
 | [],[],_=>rfl
 | _::_,_::_,h=>by
  rw[jv,length_cons,length_cons,mX (by simpa using h)]
theorem qc:∀{xs ys:List PV}{i:Nat}{z:PV},(jv xs ys)[i]?=some z->∃a b,xs[i]?=some a/\ys[i]?=some b/\z=.tup [a,b]
 | [],_,i,z,h=>by simp[jv]at h
 | _::_,[],i,z,h=>by simp[jv]at h
 |x::xs,y::ys,0,z,h=>by
  simp[jv]at h;exact⟨x,y,rfl,rfl,h.symm⟩
 |x::xs,y::ys,i+1,z,h=>by
  rw[jv,getElem?_cons_succ]at h;obtain⟨a,b,h1,h2,D⟩:=qc h;exact⟨a,b,by simpa using h1,by simpa using h2,D⟩
def A2{K:IF}{V G:Hp}{a b:Addr}{xs ys:List PV}{us ws:List L2.V}(h1:∀H',ae G H'->SqT K H' a us)(h2:∀H',ae G H'->SqT K H' b ws)(z:Reps K V xs us)(J:Reps K V ys ws)(D:xs.length=ys.length):i3 K (Itz K a b) (jv xs ys) V G where
 stop:=λH' s=>⟨us,h1 H' s,by rw[mX D];exact z.length⟩
 go:=λi x H' s e=>by
  refine⟨us,ws,h1 H' s,h2 H' s,by rw[<- z.length,<- J.length];exact D,?_⟩;have:=(D2.mp e).1;rw[mX D]at this;rw[<- z.length];exact this
 yld:=λi x H' u H2 s e y=>by
  obtain⟨p,rfl,U,v,w,rfl,Z,y2⟩:=y;obtain⟨z1,z2,e1,e2,rfl⟩:=qc e;obtain⟨w1,f1,q1⟩:=z.get e1;obtain⟨w2,f2,q2⟩:=J.get e2;have Y:=Z us (h1 H' s);have g2:=y2 ws (h2 H' s);rw[f1]at Y;rw[f2]at g2;cases Y;cases g2;exact⟨aU U _,λO' hO sv=>A1 hO U (.cons (Rep.mono sv _ q1) (.cons (Rep.mono sv _ q2) .nil))⟩
noncomputable def tW(K:IF)(cal:Cal)(k:Sk)(ms:List ME):TI:=λσ H R =>
 ∃B A O ρ vs xs,ar K B A O H ρ σ/\evs cal ms ρ=some vs/\ba k vs=some xs/\∀J H1,ae H H1->i3 K J xs (al H1 O) (aN B O H1 (aX ms ρ σ))->R J H1
section
variable{X:Cx}{cal:Cal}{tg:Expr}
theorem PI.or(h:PI X tg e t)(g:PI X tg e u):PI X tg e (λσ H R=>t σ H R\/u σ H R):=λpins s σ H R I q=>q.elim (h pins s σ H R I) (g pins s σ H R I)
theorem mY:∀{ms}{ρ}{vs},evs cal ms ρ=some vs->vs.length=ms.length
 | [],_,_,h=>by simp[evs]at h;subst h;rfl
 |m::ms,_,_,h=>by
  simp[evs,l0]at h;obtain⟨v,_,w,z,rfl⟩:=h;simp[mY z]
def ve(h:evs cal [m] ρ=some vs):∃v,vs=[v]/\ev cal m ρ=some v:=by
 simp[evs,l0]at h;obtain⟨v,e,w,z,rfl⟩:=h
 simp_all
def xV{K:IF}(h:Rep K F v u)(e:bE v=some xs):∃a us,u=.ref a/\Reps K F xs us/\((v=.lst xs/\SqL K F a us)\/(v=.tup xs/\SqT K F a us)):=by
 cases v<;>first|(simp[bE]at e;subst e;rw[Rep]at h;obtain⟨a,us,e,q,r⟩:=h;exact⟨a,us,e,r,.inl ⟨rfl,q⟩⟩)|(simp[bE]at e;subst e;rw[Rep]at h;obtain⟨a,us,e,q,r⟩:=h;exact⟨a,us,e,r,.inr ⟨rfl,dN q⟩⟩)|simp[bE]at e
def Dl(G:aw m=false)(h:PE X e (tE X.K cal m)):PI X tg e (tW X.K cal .seq [m]):=by
 refine(PI.or (qC h) (tI h)).imp λσ H R q=>?_
 obtain⟨B,A,O,ρ,vs,xs,st,Y,Z,q⟩:=q;obtain⟨v,rfl,U⟩:=ve Y;have z:bE v=some xs:=Z;have hl:aX [m] ρ σ=[]:=by cases m<;>first|rfl|cases G
 rw[hl]at q;cases v with
 |lst ys =>
  simp[bE]at z;subst z
  refine .inl ⟨B,A,O,ρ,_,st,U,λu H' s g=>?_⟩;have r:=g.2 G;rw[Rep]at r;obtain⟨a,us,rfl,D,J⟩:=r;exact⟨a,rfl,⟨us,(bB H' O).seq D⟩,q _ _ s (jI (cE.seq D) J)⟩
 |tup ys =>
  simp[bE]at z;subst z
  refine .inr ⟨B,A,O,ρ,_,st,U,λu H' s g=>?_⟩;have r:=g.2 G;obtain⟨a,us,rfl,D,J⟩:=r;exact⟨a,rfl,⟨us,(bB H' O).seqT (dN D)⟩,q _ _ s (vd (cE.seqT (dN D)) J)⟩
 | _=>simp[bE]at z
def Dm(h:aR X.N X.env.scope i x=true):PI X tg (.Name x pos) (tW X.K cal .seq [.bor i]):=by
 refine(PI.or (qC (bK h)) (tI (bK h))).imp λσ H R q=>?_
 refine bq λZq kq=>?_
 obtain⟨B,A,O,ρ,vs,xs,st,e1,e2,q⟩:=q;obtain⟨v,rfl,D⟩:=ve e1;have G:bE v=some xs:=e2;rw[ev]at D;refine kq ?_;cases Z:(ρ[i]?).join with
 |none=>rw[Z]at D;cases D
 |some m =>
  rw[Z]at D;obtain⟨u,Y,so⟩:=aT st Z;cases m with
  |val w =>
   simp only[bT,wh]at D;subst D;have ap:=so;obtain⟨a,us,rfl,U,z⟩:=xV ap G;rcases z with⟨rfl,J⟩|⟨rfl,J⟩
   .exact .inl ⟨_,Y,a,rfl,⟨us,(bB H O).seq J⟩,q _ _ (ae.refl H) (jI (cE.seq J) U)⟩
   .exact .inr ⟨_,Y,a,rfl,⟨us,(bB H O).seqT J⟩,q _ _ (ae.refl H) (vd (cE.seqT J) U)⟩
  |own ys =>
   simp only[bT,wh]at D;subst D;simp[bE]at G;subst G
   obtain⟨a,us,rfl,ha,U,hO,_⟩:=so;refine .inl ⟨_,Y,a,rfl,⟨us,SqL.of ha⟩,q _ _ (ae.refl H) (jI (SqL.of ?_) U)⟩;have hl:aX [.bor i] ρ σ=[a]:=by simp[aX,Z,Y]
   unfold aN
   simp_all
  |brw ys =>
   simp only[bT,wh]at D;subst D;simp[bE]at G;subst G
   obtain⟨a,us,rfl,J,U⟩:=so;exact .inl ⟨_,Y,a,rfl,⟨us,st.keep.seq J⟩,q _ _ (ae.refl H) (jI ((di st.keep).seq J) U)⟩
  |ownD ys =>
   have D:=xw D;subst D;simp[bE]at G
  |mutD ys =>
   have D:=xy D;subst D;simp[bE]at G
  |brwD ys =>
   have D:=xx D;subst D;simp[bE]at G
def Dn {T:Tab}{k:Nat}{ms:List ME}{a b:Expr}{f:Str}{ts:List Expr}{j:Nat}{tp p pos:Pos} (g:Gf X T k cal) (hf:f=("zip":Str)) (hg:glB X.env.scope f=true) (ha:PA X [a,b] (tEs X.K cal ms)) (U:ac a=true) (J:ac b=true) (hm:ms.length=2) :
  PI X (.Tuple ts j tp) (.Call (.Name f p) [a,b] [] pos) (tW X.K cal .zip ms):=by
 subst hf;have D:∀e,ac e=true->∀es env,starEach (e::es) env=(false,eval e env)::starEach es env:=λe he es env=>by
  cases e<;>first|rfl|(simp[ac]at he)
 refine(Aj (cw hg) (g.blt "zip" (by decide)) ha (by rw[D a U,D b J];rfl) (by rw[D b J];rfl)).imp λσ H R q=>?_
 obtain⟨B,A,O,ρ,vs,xs,st,e1,G,q⟩:=q;refine⟨B,A,O,ρ,vs,st,e1,λus H' s gs=>?_⟩;have hl:aX ms ρ σ=[]:=by
  match ms,hm with
  | [m1,m2],_=>cases m1<;>rfl
 rw[hl]at q
 match vs,G,gs with
 | [.tup ys,.tup zs],G,gs =>
  simp only[ba]at G;split at G
  .rename_i c;cases G;obtain⟨u,u',rfl,ru,Y⟩:=p2 gs.1;have r1:=ru.tupR;have r2:=Y.tupR;rw[Rep]at r1 r2;obtain⟨a1,Z,rfl,s1,t1⟩:=r1;obtain⟨a2,ao,rfl,s2,t2⟩:=r2;exact⟨a1,a2,Z,ao,rfl,(bB H' O).seqT s1,(bB H' O).seqT s2,by rw[<- t1.length,<- t2.length];exact c,q _ _ s (A2 (λH2 z=>z.seqT (cE.seqT s1)) (λH2 z=>z.seqT (cE.seqT s2)) t1 t2 c)⟩
  .cases G
def Do{m:ME}{e:Expr}(h:PE X e (tE X.K cal m)):PI X tg e (tW X.K cal .chr [m]):=by
 refine(Ak h).imp λσ H R q=>?_
 obtain⟨B,A,O,ρ,vs,xs,st,G,D,q⟩:=q;obtain⟨v,rfl,J⟩:=ve G;cases v with
 |str x =>
  have z:(if x.cps.all (· < 128)=true then some (x.cps.toList.map λc=>PV.str ⟨#[c]⟩)else none)=some xs:=D;split at z
  .rename_i U;cases z;exact⟨B,A,O,ρ,_,st,J,λu H' s g=>⟨x,g.1.str,U,q _ _ s A0⟩⟩
  .cases z
 | _=>cases D
abbrev Fs(as:List Expr):Prop:=as.length=1\/as.length=2
def xW (g:Gf X T k cal) (hf:f=("range":Str)) (Z:glB X.env.scope f=true) (ha:PA X args (tEs X.K cal ms)) (hn:Fs args) (hs:args.all ac=true) (hm:ms.length=args.length) :
  PI X tg (.Call (.Name f p) args [] pos) (tW X.K cal .rng ms):=by
 subst hf;have D:∀e,ac e=true->∀es env,starEach (e::es) env=(false,eval e env)::starEach es env:=λe he es env=>by
  cases e<;>first|rfl|(simp[ac]at he)
 match args,hn with
 | [a],_ =>
  simp only[all_cons,all_nil,Bool.and_true]at hs;refine(lC (cw Z) (g.blt "range" (by decide)) ha (by rw[D a hs];rfl)).imp λσ H R q=>?_
  obtain⟨B,A,O,ρ,vs,xs,st,G,z,q⟩:=q;refine⟨B,A,O,ρ,vs,st,G,λus H' s gs=>?_⟩
  match vs,z,gs with
  | [.int j],z,gs =>
   simp only[ba]at z;split at z
   .rename_i c;cases z;obtain⟨u,rfl,J⟩:=p1 gs.1;have U:=J.int;subst U;exact⟨j,rfl,c.1,c.2,q _ _ s kH⟩
   .cases z
  | [.int j,.int j'],z,gs =>
   have:=mY G
   simp_all
 | [a,b],_ =>
  simp only[all_cons,all_nil,Bool.and_true,n4]at hs;refine(rP (cw Z) (g.blt "range" (by decide)) ha (by rw[D a hs.1,D b hs.2];rfl) (by rw[D b hs.2];rfl)).imp λσ H R q=>?_
  obtain⟨B,A,O,ρ,vs,xs,st,G,z,q⟩:=q;refine⟨B,A,O,ρ,vs,st,G,λus H' s gs=>?_⟩
  match vs,z,gs with
  | [.int i,.int j],z,gs =>
   simp only[ba]at z;split at z
   .rename_i c;cases z;obtain⟨u,u',rfl,J,Y⟩:=p2 gs.1;have U:=J.int;have e4:=Y.int;subst U e4;exact⟨i,j,rfl,c,q _ _ s kH⟩
   .cases z
  | [.int j],z,gs =>
   have:=mY G;simp at this hm;omega
end
noncomputable def tF(K:IF)(cal:Cal)(z:ME):TE:=λσ H Q=>∃B A O ρ xs,ar K B A O H ρ σ/\ev cal z ρ=some (.lst xs) /\
 ∀p us H',ae H H'->H p=none->H' p=some (.lst us)->Reps K (al H' (p::O)) xs us->Q (.ref p) H'
def fq :ae (al H (p::O)) (al H O):=bi (ae.refl H) λb z=>.inl (Gp _ z)
def dS(h:p∈O):al (upd H p o) O=al H O:=by
 funext b
 unfold al;split
 .rfl
 .rename_i D;exact az λz=>D (by rw[z];exact h)
def ra{K:IF}{H H':Hp}{O:List Addr}{D:ME}{xs:List PV}{p:Addr}{us:List V}(G:∀a∈O,H a≠none)(J:H p=none)(e:H' p=some (.lst us))(r:Reps K (al H' (p::O)) xs us):Got K H' O D (.lst xs) (.ref p):=by
 refine .of ?_;refine⟨p,us,rfl,SqL.of ?_,Reps.mono fq _ r⟩;rw[aG λz=>G p z J];exact e
section
variable{X:Cx}{T:Tab}{k:Nat}{cal:Cal}
def dA(G:∀ρ v,ev cal z ρ=some v->∃xs,v=.lst xs)(h:PE X e (tF X.K cal z)):PE X e (tE X.K cal z):=by
 refine h.imp λσ H Q q=>?_
 obtain⟨B,A,O,ρ,v,st,D,q⟩:=q;obtain⟨xs,rfl⟩:=G ρ v D;exact⟨B,A,O,ρ,xs,st,D,λp us H' s J U r=>q _ _ s (ra st.here J U r)⟩
theorem Gf.blk(g:Gf X T k cal)(x)(fvs)(scope)(z)(D)(C)(fp):Gf (X.blk x fvs scope z D C fp) T k cal:={ g with }
def dB(h:bV osc N scope x fvs js=true):gJ osc N scope x fvs js:=by
 unfold bV at h;simp only[n4,FW,GB]at h;obtain⟨⟨⟨⟨⟨⟨⟨⟨h1,h2⟩,z⟩,D⟩,G⟩,J⟩,U⟩,Y⟩,Z⟩:=h;exact⟨h1,h2,z,D,G,J,U,Y,Z⟩
def vf{K:IF}{B H H1 H2:Hp}{A O:List Addr}{ρ:Rho}{σ M:St}{js:List Nat}{D:Addr}{x:PV}{ux:V}(st:ar K B A O H ρ σ)(s1:ae H H1)(s2:ae H1 H2)(hD:H1 D=none)(aO:H2 D≠none)
  (a1:∀z,M.set 0 z=(bZ js σ).set 0 z) (hl:0<M.length) (hx:Rep K (al H2 (D::O)) x ux):ar K H1 [] (D::O) H2 (gL js ρ x) (M.set 0 (some ux)):=by
 have hv:ae (al H O) (al H2 (D::O)):=bi (s1.trans s2) λb hb=>by
  rcases y1.mp hb with rfl|hb
  .exact .inr (s1.free hD)
  .exact .inl hb
 rw[a1];have J:∀(i:Nat) (m:MV),fP m=true->(gL js ρ x)[i]?≠some (some m):=λi m Z e=>by
  unfold gL at e;cases i with
  |zero =>
   simp at e;subst e;cases Z
  |succ i =>
   simp only[getElem?_cons_succ,Ga,pf]at e;obtain⟨j,_,e⟩:=e;cases U:(ρ[j]?).join with
   |none=>rw[U]at e;cases e
   |some mm =>
    rw[U]at e;cases mm<;>first|(simp[dl]at e;done)|(obtain⟨rfl,_⟩:=ifW e;cases Z;done)|(simp only[dl,wh]at e;subst e;cases Z)
 refine⟨s2,λa G=>?_,λa G=>by simp at G,λa G=>by simp at G,?_,λi m e=>?_,λi j m m' a _ e _ Z=>absurd e (J i m Z)
  ⟩
 .rcases y1.mp G with rfl|G
  .exact aO
  .exact λe=>st.here a G ((s1.trans s2).free e)
 .simp[gL,bZ]
 .cases i with
  |zero =>
   simp only[gL,getElem?_cons_zero,wh]at e;subst e;exact⟨ux,by simp[bZ],hx⟩
  |succ i =>
   simp only[gL,getElem?_cons_succ,Ga,pf]at e;obtain⟨j,ej,e⟩:=e;cases U:(ρ[j]?).join with
   |none=>rw[U]at e;cases e
   |some mm =>
    rw[U]at e;obtain⟨u,eu,Y⟩:=aT st U;have a4:((bZ js σ).set 0 (some ux))[i+1]?=some (some u):=by
     simp[bZ,ej,eu]
    refine⟨u,a4,?_⟩;cases mm with
    |val w =>
     simp only[dl,wh]at e;subst e;exact Rep.mono hv _ Y
    |own ys =>
     simp only[dl,wh]at e;subst e;obtain⟨a,us,rfl,G,rs,hO,_⟩:=Y;exact⟨a,us,rfl,SqL.of (s1 _ _ G),Reps.mono hv _ rs⟩
    |brw ys =>
     simp only[dl,wh]at e;subst e;obtain⟨a,us,rfl,sq,rs⟩:=Y;exact⟨a,us,rfl,(st.keep.trans s1).seq sq,Reps.mono hv _ rs⟩
    |ownD kvs =>
     obtain⟨rfl,hw⟩:=ifW e;obtain⟨a,rfl,G,_⟩:=Y;have G:=G.enc hw;exact⟨a,rfl,.inl (s1 _ _ G)⟩
    |mutD kvs =>
     obtain⟨rfl,hw⟩:=ifW e;obtain⟨a,rfl,G,_⟩:=Y;have G:=G.enc hw;exact⟨a,rfl,.inl (s1 _ _ G)⟩
    |brwD kvs =>
     simp only[dl,wh]at e;subst e;obtain⟨a,rfl,G⟩:=Y;exact⟨a,rfl,ae.rd (st.keep.trans s1) G⟩
def kI{osc:Scope}{N:List Str}{scope:Scope}{x y:Str}{fvs:List Str}{js:List Nat}(h:e_ osc N scope x y fvs js=true):jC osc N scope x [y] fvs js/\scope.names.lookup x=some .local/\scope.names.lookup y=some .local:=by
 unfold e_ at h;simp only[n4,FW,GB]at h;obtain⟨⟨⟨⟨⟨⟨⟨⟨⟨h1,h2⟩,D⟩,G⟩,J⟩,U⟩,Y⟩,Z⟩,h9⟩,z⟩:=h;refine⟨⟨λy hy e=>?_,.inl ⟨h2,h1⟩,G,J,U,Y,Z,h9,z⟩,h2,D⟩;have:y∈scope.names.filter λy=>y.2==.cell:=HR.mpr ⟨hy,by rw[e];rfl⟩
 rw[h1]at this;cases this
def ar.fill{K:IF}{B H:Hp}{A O:List Addr}{ρ:Rho}{σ:St}(st:ar K B A O H ρ σ){i:Nat}{v:PV}{u:V}(hi:i<σ.length)(r:Rep K (al H O) v u):ar K B A O H (ρ.set i (some (.val v))) (σ.set i (some u)):=by
 have J:i<ρ.length:=by rw[st.len];exact hi
 have self:(ρ.set i (some (MV.val v)))[i]?=some (some (.val v)):=Gu J;refine⟨st.keep,st.here,st.sub,st.old,by rw[GK,GK];exact st.len,λj m e=>?_,λa b xs ys ad U D G Z o2 e3 e4=>?_⟩
 .by_cases Y:i=j
  .subst Y;rw[self]at e;cases e;exact⟨u,Gu hi,r⟩
  .rw[F1 Y]at e;obtain⟨w,D,q⟩:=st.slot j m e;exact⟨w,by rw[F1 Y];exact D,q⟩
 .have h1:i≠a:=λz=>by subst z;rw[self]at D;cases D;cases Z
  have h2:i≠b:=λz=>by subst z;rw[self]at G;cases G;cases o2
  rw[F1 h1]at D e3;rw[F1 h2]at G e4;exact st.apart a b xs ys ad U D G Z o2 e3 e4
def sF{vs xs:List PV}(h:ba sk2 vs=some xs):∀x∈xs,∃a b,x=.tup [a,b]:=by
 have h:ba .zip vs=some xs:=h
 match vs,h with
 | [.tup ys,.tup zs],h =>
  simp only[ba]at h;split at h
  .cases h;intro x hx;obtain⟨i,hi⟩:=mem_iff_getElem?.mp hx;obtain⟨a,b,_,_,e⟩:=qc hi;exact⟨a,b,e⟩
  .cases h
noncomputable def g2(K:IF):TG:=Cr K 2 (qA (d_ 0) (qA (d_ 1) wL))
def xX{ms:List ME}{js:List Nat}{cond elt:ME}{e it tg:Expr}{x y:Str}{ifs:List Expr}{scope:Scope}{pos:Pos}(g:Gf X T k cal)(G:e_ X.env.scope X.N scope x y (aB X.N js) js=true)
  (U:∀z D C fp,PG (X.blk x ([y]++aB X.N js) scope z D C fp) tg (g2 X.K)) (hw:PI X tg it (tW X.K cal sk2 ms)) (J:c9 it=true)
  (hc:∀z D C fp,PF (X.blk x ([y]++aB X.N js) scope z D C fp) ifs (tT X.K cal cond)) (Y:∀z D C fp,PE (X.blk x ([y]++aB X.N js) scope z D C fp) e (tE X.K cal elt)) (Z:aw elt=false) :
  PE X (.ListComp e [⟨tg,it,ifs,0⟩] scope pos) (tF X.K cal (.comp2 ms js cond elt)):=by
 refine(uu (kI G).1 g.calm U hw hc Y (by intro v;cases it<;>first|rfl|(simp[c9]at J))).imp λσ H Q q=>?_
 exact comp_go2 Z q
where
 comp_go2 {ms:List ME}{js:List Nat}{cond elt:ME}{K:IF}{σ:St}{H:Hp}{Q:VK} (hb:aw elt=false) (q:tF K cal (.comp2 ms js cond elt) σ H Q):ut (tW K cal sk2 ms) (g2 K) 1 js (tT K cal cond) (tE K cal elt) σ H Q:=by
  obtain⟨B,A,O,ρ,ws,st,e1,q⟩:=q;rw[ev]at e1;simp only[l0]at e1;obtain⟨vs,e1,xs,e2,e3⟩:=e1;split at e3
  .rename_i hlen;simp only[pf,PV.lst.injEq,IA]at e3;refine⟨B,A,O,ρ,vs,xs,st,e1,e2,λJ H1 s1 it D hD=>?_⟩;have hDO:D∉O:=λz=>aS s1 st.here D z hD
   have it1:=it.weak (fS (st.keep.trans s1));refine⟨λi m M H'=>m=xs.length-i/\i<=xs.length/\ae H1 H'/\(∀z z',(M.set 0 z).set 1 z'=z::z'::js.map λj=>(σ[j]?).join)/\1<M.length/\∃done bz ys,cj (λx=>(ev cal cond (nZ js ρ x)).bind aQ) (λx=>ev cal elt (nZ js ρ x)) (xs.drop i)=some bz/\ws=done++bz/\done.length<=i/\H' D=some (.lst ys)/\Reps K (al H' (D::O)) done ys,⟨xs.length,by simp,Gv _,aU hD _,λ_ _=>rfl,by simp[nM],[],ws,[],by simpa using e3,rfl,vr _,aq,.nil⟩,?_⟩;rintro i m M H' ⟨rfl,hi,s2,hσ,hl,done,bz,ys,eg,ew,hdl,hDy,rs⟩;by_cases hlt:i<xs.length
   .right;have ex:xs[i]?=some xs[i]:=F5 hlt;refine⟨it1.go i _ H' s2 ex,λσ2 H2=>∃m',m'<xs.length-i/\(m'=xs.length-(i+1)/\i+1<=xs.length/\ae H1 H2/\(∀z z',(σ2.set 0 z).set 1 z'=z::z'::js.map λj=>(σ[j]?).join)/\1<σ2.length/\∃done bz ys,cj (λx=>(ev cal cond (nZ js ρ x)).bind aQ) (λx=>ev cal elt (nZ js ρ x)) (xs.drop (i+1))=some bz/\ws=done++bz/\done.length<=i+1/\H2 D=some (.lst ys)/\Reps K (al H2 (D::O)) done ys),λσ2 H2 z=>z,λux H2 y=>?_⟩;obtain⟨s3,hr⟩:=it1.yld i _ H' ux H2 s2 ex y;have sv:ae (al H1 O) (al H2 (D::O)):=bi (s2.trans s3) λb hb=>by
     rcases y1.mp hb with rfl|hb
     .exact .inr hD
     .exact .inl hb
    have hx:=hr (D::O) (λa ha=>by
     rcases y1.mp ha with rfl|ha
     .rw[hDy];simp
     .exact λz=>aS s1 st.here a ha (s2.free z)) sv
    have hD2:H2 D=some (.lst ys):=s3 _ _ hDy;obtain⟨p,w,exi⟩:=sF e2 _ (Hf ex);rw[exi,Rep]at hx;obtain⟨ta,tus,rfl,tt1,tt2⟩:=hx;rw[Reps]at tt2;obtain⟨up,r1,rfl,rp,tt2⟩:=tt2;rw[Reps]at tt2;obtain⟨uw,r2,rfl,rw2,tt2⟩:=tt2;rw[Reps]at tt2;subst tt2;have hσ0:∀z,(M.set 1 none).set 0 z=(bZ (σ.length::js) σ).set 0 z:=λz=>by
     rw[set_comm _ _ (by decide),hσ];show _=z::(σ[σ.length]?).join::_;rw[GV (vr _)]
     rfl
    have stb0:=vf (js:=σ.length::js) (ρ:=ρ) (M:=M.set 1 none) st s1 (s2.trans s3) hD (by rw[hD2];simp) hσ0 (by rw[GK];omega) rp;have stb1:=stb0.fill (i:=1) (by rw[GK,GK];exact hl) rw2;rw[set_comm (i:=1) (j:=0) _ _ (by decide),set_set]at stb1;have stb:ar K H1 [] (D::O) H2 (nZ js ρ xs[i]) ((M.set 0 (some up)).set 1 (some uw)):=by rw[exi];exact stb1
    refine⟨ta,[up,uw],rfl,(bB _ _).seqT (dN tt1),rfl,up,[uw],rfl,?_⟩;show qA (d_ 1) wL [uw] (M.set 0 (some up)) H2 _;refine⟨uw,[],rfl,?_⟩;unfold d_ wL;refine⟨rfl,?_⟩;rw[GZ hlt,cj]at eg;simp only[l0]at eg;obtain⟨b,eb,eg⟩:=eg;refine⟨H1,[],D::O,_,b,stb,by simpa[evB,l0]using eb,λH3 s4=>?_⟩;have hσ2:∀z z',(((M.set 0 (some up)).set 1 (some uw)).set 0 z).set 1 z'=z::z'::js.map λj=>(σ[j]?).join:=λz z'=>by
     rw[set_comm (i:=1) (j:=0) _ _ (by decide),set_set,set_set];exact hσ z z'
    have hl2:1<((M.set 0 (some up)).set 1 (some uw)).length:=by rw[GK,GK];exact hl
    cases b with
    |false =>
     rw[if_neg (by simp)]at eg;dsimp only;rw[if_neg (by simp)];refine⟨_,by omega,rfl,hlt,(s2.trans s3).trans s4,hσ2,hl2,done,bz,ys,eg,ew,by omega,s4 _ _ hD2,Reps.mono ?_ _ rs⟩;exact(ah s3).trans (ah s4)
    |true =>
     rw[if_pos rfl]at eg;dsimp only;rw[if_pos rfl];simp only[l0,pf]at eg;obtain⟨y',ey,rest',eg,rfl⟩:=eg;refine⟨H1,[],D::O,_,y',stb.mono s4,ey,λuy H4 s5 gy=>?_⟩;have hD4:H4 D=some (.lst ys):=s5 _ _ (s4 _ _ hD2);have ry:=gy.2 hb;have rs4:Reps K (al H4 (D::O)) done ys:=Reps.mono (((ah s3).trans (ah s4)).trans (ah s5)) _ rs;have hyl:ys.length<=10000:=by rw[<- rs.length];omega
     refine⟨ys,hD4,Hh hyl (by decide),_,by omega,rfl,hlt,?_,hσ2,hl2,done++[y'],rest',ys++[uy],eg,by simp[ew],by simp;omega,aq,?_⟩
     .intro b u eb;rw[az (a8 eb hD)];exact s5 _ _ (s4 _ _ ((s2.trans s3) _ _ eb))
     .rw[dS (GG)];exact rs4.snoc ry
   .left;have ei:i=xs.length:=by omega
    subst ei;rw[ID,cj]at eg;cases eg;rw[Gj]at ew;subst ew;exact⟨it1.stop H' s2,q D ys H' (s1.trans s2) (s1.free hD) hDy rs⟩
  .cases e3
def qd{cond elt:ME}(g:Gf X T k cal)(G:bV X.env.scope X.N scope x (aB X.N js) js=true)
  (hw:PI X (.Name x px) it (tW X.K cal U ms)) (J:c9 it=true)
  (hc:∀z D C fp,PF (X.blk x (aB X.N js) scope z D C fp) ifs (tT X.K cal cond)) (Y:∀z D C fp,PE (X.blk x (aB X.N js) scope z D C fp) e (tE X.K cal elt)) (Z:aw elt=false) :
  PE X (.ListComp e [⟨.Name x px,it,ifs,0⟩] scope pos) (tF X.K cal (.comp U ms js cond elt)):=by
 refine(mH (dB G) g.calm hw hc Y (by intro v;cases it<;>first|rfl|(simp[c9]at J))).imp λσ H Q q=>?_
 exact comp_go Z q
where
 comp_go {k':Sk}{ms:List ME}{js:List Nat}{cond elt:ME}{K:IF}{σ:St}{H:Hp}{Q:VK} (hb:aw elt=false) (q:tF K cal (.comp k' ms js cond elt) σ H Q):ur (tW K cal k' ms) js (tT K cal cond) (tE K cal elt) σ H Q:=by
  refine bq λZq kq=>?_
  obtain⟨B,A,O,ρ,ws,st,e1,q⟩:=q;rw[ev]at e1;simp only[l0]at e1;obtain⟨vs,e1,xs,e2,e3⟩:=e1;refine kq ?_;split at e3
  .rename_i hlen;simp only[pf,PV.lst.injEq,IA]at e3;refine⟨B,A,O,ρ,vs,xs,st,e1,e2,λJ H1 s1 it D hD=>?_⟩;have hDO:D∉O:=λz=>aS s1 st.here D z hD
   have it1:=it.weak (fS (st.keep.trans s1));refine⟨λi m M H'=>m=xs.length-i/\i<=xs.length/\ae H1 H'/\(∀z,M.set 0 z=(bZ js σ).set 0 z)/\0<M.length/\∃done bz ys,cj (λx=>(ev cal cond (gL js ρ x)).bind aQ) (λx=>ev cal elt (gL js ρ x)) (xs.drop i)=some bz/\ws=done++bz/\done.length<=i/\H' D=some (.lst ys)/\Reps K (al H' (D::O)) done ys,⟨xs.length,by simp,Gv _,aU hD _,λ_=>rfl,by simp[bZ],[],ws,[],by simpa using e3,rfl,vr _,aq,.nil⟩,?_⟩;rintro i m M H' ⟨rfl,hi,s2,hσ,hl,done,bz,ys,eg,ew,hdl,hDy,rs⟩;by_cases hlt:i<xs.length
   .right;have ex:=F5 hlt;refine⟨it1.go i _ H' s2 ex,λσ2 H2=>∃m',m'<xs.length-i/\(m'=xs.length-(i+1)/\i+1<=xs.length/\ae H1 H2/\(∀z,σ2.set 0 z=(bZ js σ).set 0 z)/\0<σ2.length/\∃done bz ys,cj (λx=>(ev cal cond (gL js ρ x)).bind aQ) (λx=>ev cal elt (gL js ρ x)) (xs.drop (i+1))=some bz/\ws=done++bz/\done.length<=i+1/\H2 D=some (.lst ys)/\Reps K (al H2 (D::O)) done ys),λσ2 H2 z=>z,λux H2 y=>?_⟩;obtain⟨s3,hr⟩:=it1.yld i _ H' ux H2 s2 ex y;have sv:ae (al H1 O) (al H2 (D::O)):=bi (s2.trans s3) λb hb=>by
     rcases y1.mp hb with rfl|hb
     .exact .inr hD
     .exact .inl hb
    have hx:=hr (D::O) (λa ha=>by
     rcases y1.mp ha with rfl|ha
     .rw[hDy];simp
     .exact λz=>aS s1 st.here a ha (s2.free z)) sv
    have hD2:=s3 _ _ hDy;have stb:=vf (js:=js) (ρ:=ρ) st s1 (s2.trans s3) hD (by rw[hD2];simp) hσ hl hx;rw[GZ hlt,cj]at eg;simp only[l0]at eg;obtain⟨b,eb,eg⟩:=eg;refine⟨H1,[],D::O,_,b,stb,by simpa[evB,l0]using eb,λH3 s4=>?_⟩;have hσ2:∀z,(M.set 0 (some ux)).set 0 z=(bZ js σ).set 0 z:=λz=>by rw[set_set];exact hσ z
    have hl2:0<(M.set 0 (some ux)).length:=by rw[GK];exact hl
    cases b with
    |false =>
     rw[if_neg (by simp)]at eg;dsimp only;rw[if_neg (by simp)];refine⟨_,by omega,rfl,hlt,(s2.trans s3).trans s4,hσ2,hl2,done,bz,ys,eg,ew,by omega,s4 _ _ hD2,Reps.mono ?_ _ rs⟩;exact(ah s3).trans (ah s4)
    |true =>
     rw[if_pos rfl]at eg;dsimp only;rw[if_pos rfl];refine bq λZq kq=>?_
     simp only[l0,pf]at eg;obtain⟨y',ey,rest',eg,rfl⟩:=eg;refine kq ?_;refine⟨H1,[],D::O,_,y',stb.mono s4,ey,λuy H4 s5 gy=>?_⟩;have hD4:=s5 _ _ (s4 _ _ hD2);have ry:=gy.2 hb;have rs4:=Reps.mono (((ah s3).trans (ah s4)).trans (ah s5)) _ rs;have hyl:ys.length<=10000:=by rw[<- rs.length];omega
     refine⟨ys,hD4,Hh hyl (by decide),_,by omega,rfl,hlt,?_,hσ2,hl2,done++[y'],rest',ys++[uy],eg,by simp[ew],by simp;omega,aq,?_⟩
     .intro b u eb;rw[az (a8 eb hD)];exact s5 _ _ (s4 _ _ ((s2.trans s3) _ _ eb))
     .rw[dS (GG)];exact rs4.snoc ry
   .left;have ei:i=xs.length:=by omega
    subst ei;rw[ID,cj]at eg;cases eg;rw[Gj]at ew;subst ew;exact⟨it1.stop H' s2,q D ys H' (s1.trans s2) (s1.free hD) hDy rs⟩
  .cases e3
def aP(z:ac e=true)(es)(env):starEach (e::es) env=(false,eval e env)::starEach es env:=by
 cases e<;>first|rfl|(simp[ac]at z)
theorem aV :∀{es},es.all ac=true->(backTo pos (starEach es env)).any (·.1)=false
 | [],_=>rfl
 |e::es,h=>by
  simp only[all_cons,n4]at h;rw[aP h.1];show(false||(backTo pos (starEach es env)).any (·.1))=false;rw[aV h.2];rfl
theorem aY:∀{ms}{N}{sc}{es},chks T ms N sc es=true->es.all ac=true/\ms.length=es.length
 | [],_,_,[],_=>⟨rfl,rfl⟩
 | [],_,_,_::_,h=>by simp[chks]at h
 | _::_,_,_,[],h=>by simp[chks]at h
 |m::ms,N,sc,e::es,h=>by
  simp[chks]at h;obtain⟨h1,h2⟩:=aY h.2;exact⟨by simp[h.1.2,h1],by simp[h2]⟩
def bc(h:PE X e (tE X.K cal J))(D:iU e=true):PT X e (tT X.K cal J):=by
 refine(o9 h (by intro w;cases e<;>first|rfl|(simp[iU]at D;done)|(rename_i op _ _;cases op<;>first|rfl|(simp[iU]at D)))).imp λσ H Q q=>?_
 obtain⟨B,A,O,ρ,b,st,z,q⟩:=q;simp[evB,l0]at z;obtain⟨v,z,G⟩:=z;refine⟨B,A,O,ρ,v,st,z,λu H' s g=>?_⟩;cases v<;>simp[aQ]at G
 subst G;exact⟨_,g.1.bl,q H' s⟩
def vg(h:PE X e (tE X.K cal m))(hs:PA X es (tEs X.K cal ms))(U:ac e=true):PA X (e::es) (tEs X.K cal (m::ms)):=by
 refine(aI h hs (aP U es _)).imp λσ H Q q=>?_
 obtain⟨B,A,O,ρ,vs,st,z,q⟩:=q;simp[evs,l0,pf]at z;obtain⟨v,z,ws,Y,rfl⟩:=z;refine⟨B,A,O,ρ,v,st,z,λu H1 s1 J=>⟨B,A,O,ρ,ws,st.mono s1,Y,λus H2 D g2=>q _ H2 (s1.trans D) ⟨.cons (J.1.mono D) g2.1,λG=>?_⟩⟩⟩;simp only[all_cons,n4,F2]at G;exact .cons ((J.mono D).2 G.1) (g2.2 G.2)
def xY:PA X [] (tEs X.K cal []):=by
 refine bn.imp λσ H Q q=>?_
 obtain⟨B,A,O,ρ,vs,st,z,q⟩:=q;simp only[evs,wh]at z;subst z;exact q [] H (ae.refl H) ⟨.nil,λ_=>.nil⟩
def vh:PA X [] (tAs X.K cal []):=by
 refine bn.imp λσ H Q q=>?_
 obtain⟨B,A,O,ρ,vs,st,z,q⟩:=q;simp only[evA,wh]at z;subst z;exact q [] H (ae.refl H) .nil
def vi{K:IF}(s:ae H H')(h:ip K O H m u):ip K O H' m u:=by
 cases m<;>first|exact Rep.mono (ah s) _ h|exact h|(obtain⟨a,us,e,q,r⟩:=h;exact⟨a,us,e,s.seq q,Reps.mono (ah s) _ r⟩)|(obtain⟨a,e,q⟩:=h;exact⟨a,e,ae.rd s q⟩)
def sH(D:aw m=false)(h:PE X e (tE X.K cal m))(hs:PA X es (tAs X.K cal ms))(J:ac e=true):PA X (e::es) (tAs X.K cal (m::ms)):=by
 refine(aI h hs (aP J es _)).imp λσ H Q q=>?_
 obtain⟨B,A,O,ρ,vs,st,U,q⟩:=q;have z:(ev cal m ρ).bind (λv=>(evA cal ms ρ).map (MV.val v::·))=some vs:=by
  rw[<- U];cases m<;>first|(cases D;done)|(simp;done)|rfl
 simp[l0]at z;obtain⟨v,Y,ws,Z,rfl⟩:=z;exact⟨B,A,O,ρ,v,st,Y,λu H1 s1 g1=>⟨B,A,O,ρ,ws,st.mono s1,Z,λus H2 G g2=>q _ H2 (s1.trans G) (.cons ((g1.mono G).2 D) g2)⟩⟩
def vj{i:Nat}{ms:List ME}{x:Str}{pos:Pos}{es:List Expr}(h:aR X.N X.env.scope i x=true)(hs:PA X es (tAs X.K cal ms)):PA X (.Name x pos::es) (tAs X.K cal (.bor i::ms)):=by
 refine(aI (bK h) hs rfl).imp λσ H Q q=>?_
 obtain⟨B,A,O,ρ,vs,st,z,q⟩:=q;rw[evA]at z;simp only[l0,pf]at z;obtain⟨Z,z,ws,e2,rfl⟩:=z;cases J:(ρ[i]?).join with
 |none=>rw[J]at z;cases z
 |some m =>
  rw[J]at z;obtain⟨u,eu,G⟩:=aT st J;have ao:ip X.K O H Z u:=by
   cases m with
   |val w=>simp only[dL,wh]at z;subst z;exact G
   |own ys=>simp only[dL,wh]at z;subst z;obtain⟨a,us,rfl,D,U,_⟩:=G;exact⟨a,us,rfl,SqL.of D,U⟩
   |brw ys=>simp only[dL,wh]at z;subst z;obtain⟨a,us,rfl,sq,U⟩:=G;exact⟨a,us,rfl,st.keep.seq sq,U⟩
   |ownD kvs=>obtain⟨rfl,hw⟩:=ifW z;obtain⟨a,rfl,D,_⟩:=G;exact⟨a,rfl,.inl (D.enc hw)⟩
   |mutD kvs=>obtain⟨rfl,hw⟩:=ifW z;obtain⟨a,rfl,D,_⟩:=G;exact⟨a,rfl,.inl (D.enc hw)⟩
   |brwD kvs=>simp only[dL,wh]at z;subst z;obtain⟨a,rfl,D⟩:=G;exact⟨a,rfl,ae.rd st.keep D⟩
  exact⟨u,eu,⟨B,A,O,ρ,ws,st,e2,λus H2 Y g2=>q (u::us) H2 Y (.cons (vi Y ao) g2)⟩⟩
def Dq(G:PE X l (tE X.K cal a))(J:PE X r (tE X.K cal b)):PE X (.BinOp l (iT op) r pos) (tE X.K cal (.bin op a b)):=by
 refine(jS (kF op) G J).imp λσ H Q q=>?_
 obtain⟨B,A,O,ρ,v,st,z,q⟩:=q;rw[ev]at z;simp only[l0]at z;obtain⟨x,z,y,U,Y⟩:=z;exact⟨B,A,O,ρ,x,st,z,λux H1 s1 Z=>⟨B,A,O,ρ,y,st.mono s1,U,λuy H2 D g2=>⟨O,x,y,v,aS (s1.trans D) st.here,Z.1.mono D,g2.1,Y,λu H3 s3 r=>q u H3 ((s1.trans D).trans s3) (.of r)⟩⟩⟩
def Dr{a b:ME}{l r:Expr}{pos:Pos}(ha:PE X l (tE X.K cal a))(D:PE X r (tE X.K cal b)):PE X (.BinOp l .Add r pos) (tF X.K cal (.bin .add a b)):=by
 refine(jS qY ha D).imp λσ H Q q=>?_
 obtain⟨B,A,O,ρ,xs,st,G,q⟩:=q;rw[ev]at G;simp only[l0]at G;obtain⟨x,G,y,e2,z⟩:=G;have hl:∃J U,x=.lst J/\y=.lst U/\J.length+U.length<=10000/\xs=J++U:=by
  cases x<;>try (cases z;done)
  all_goals (cases y<;>simp only[ez,uN]at z<;>try (cases z;done))
  all_goals (split at z<;>try (cases z;done))
  rename_i c;cases z;exact⟨_,_,rfl,rfl,c,rfl⟩
 obtain⟨J,U,rfl,rfl,hc,rfl⟩:=hl;refine⟨B,A,O,ρ,_,st,G,λux H1 s1 g1=>⟨B,A,O,ρ,_,st.mono s1,e2,λuy H2 Y g2=>?_⟩⟩;obtain⟨a',us,rfl,q1,t1⟩:=(g1.1.mono Y).lst;obtain⟨b',ws,rfl,q2,t2⟩:=g2.1.lst;have l1:=t1.length;have l2:=t2.length;refine⟨a',b',us,ws,rfl,rfl,q1,q2,cb (by omega),λp Z=>q p _ _ ((s1.trans Y).trans (aU Z _)) ((s1.trans Y).free Z) aq ?_⟩;rw[dS (GG)];refine Reps.mono (bi (ae.refl H2) λb D=>?_) _ (t1.append t2);rcases y1.mp D with rfl|D
 .exact .inr Z
 .exact .inl D
def Ds(G:PE X e (tE X.K cal a)):PE X (.UnaryOp .Not e pos) (tE X.K cal (.not a)):=by
 refine(zJ G).imp λσ H Q q=>?_
 obtain⟨B,A,O,ρ,v,st,z,q⟩:=q;rw[ev]at z;simp only[l0,pf]at z;obtain⟨b,⟨x,z,D⟩,rfl⟩:=z;cases x<;>simp[aQ,wh,reduceCtorEq]at D
 subst D;exact⟨B,A,O,ρ,_,st,z,λU H1 s1 J=>⟨_,J.1.bl,q _ H1 s1 (.of (c_ _ _))⟩⟩
def Dt(G:PT X e (tT X.K cal a)):PT X (.UnaryOp .Not e pos) (tT X.K cal (.not a)):=by
 refine(tD G).imp λσ H Q q=>?_
 obtain⟨B,A,O,ρ,b,st,z,q⟩:=q;simp only[evB,ev,l0,pf]at z;obtain⟨v,⟨c,⟨x,z,J⟩,rfl⟩,D⟩:=z;simp only[aQ,wh]at D;subst D;exact⟨B,A,O,ρ,c,st,by simp[evB,z,J],λH' s=>q H' s⟩
def zd(Y:PE X x (tE X.K cal a))(Z:PE X (.BoolOp .And (y::r) pos) (tE X.K cal b)):PE X (.BoolOp .And (x::y::r) pos) (tE X.K cal (.and a b)):=by
 refine(zI Y Z).imp λσ H Q q=>?_
 obtain⟨B,A,O,ρ,v,st,G,q⟩:=q;rw[ev]at G;simp only[l0]at G;obtain⟨c,⟨z,G,J⟩,D⟩:=G;cases z<;>simp[aQ,wh,reduceCtorEq]at J
 subst J;refine⟨B,A,O,ρ,_,st,G,λux H1 s1 g1=>⟨_,g1.1.bl,?_⟩⟩;split at D
 .rename_i h;rw[if_pos h];simp only[l0,pf]at D;obtain⟨z',D,c',U,rfl⟩:=D;cases z'<;>simp[aQ,wh,reduceCtorEq]at U
  subst U;exact⟨B,A,O,ρ,_,st.mono s1,D,λu H2 s2 g2=>q u H2 (s1.trans s2) (by rw[g2.1.bl];exact .of (c_ _ _))⟩
 .rename_i h;rw[if_neg h];cases D;exact q _ H1 s1 (.of (c_ _ _))
def Du(Y:PE X x (tE X.K cal a))(Z:PE X (.BoolOp .Or (y::r) pos) (tE X.K cal b)):PE X (.BoolOp .Or (x::y::r) pos) (tE X.K cal (.or a b)):=by
 refine(Cn Y Z).imp λσ H Q q=>?_
 obtain⟨B,A,O,ρ,v,st,G,q⟩:=q;rw[ev]at G;simp only[l0]at G;obtain⟨c,⟨z,G,J⟩,D⟩:=G;cases z<;>simp[aQ,wh,reduceCtorEq]at J
 subst J;refine⟨B,A,O,ρ,_,st,G,λux H1 s1 g1=>⟨_,g1.1.bl,?_⟩⟩;split at D
 .rename_i h;rw[if_pos h];cases D;exact q _ H1 s1 (.of (c_ _ _))
 .rename_i h;rw[if_neg h];simp only[l0,pf]at D;obtain⟨z',D,c',U,rfl⟩:=D;cases z'<;>simp[aQ,wh,reduceCtorEq]at U
  subst U;exact⟨B,A,O,ρ,_,st.mono s1,D,λu H2 s2 g2=>q u H2 (s1.trans s2) (by rw[g2.1.bl];exact .of (c_ _ _))⟩
def ze(h:PT X (.BoolOp op vs pos) t):PW X (.BoolOp op vs pos) t:=λw pins s σ H Q I q=>by
 have:=h pins s σ H Q I q;exact this
def zf(U:PT X x (tT X.K cal a))(Y:PW X (.BoolOp .And (y::r) pos) (tT X.K cal b)):PT X (.BoolOp .And (x::y::r) pos) (tT X.K cal (.and a b)):=by
 refine(zH U Y).pt.imp λσ H Q q=>?_
 obtain⟨B,A,O,ρ,v,st,G,q⟩:=q;simp only[evB,ev,l0]at G;obtain⟨w,⟨c,⟨z,G,Z⟩,D⟩,J⟩:=G;refine⟨B,A,O,ρ,c,st,by simp[evB,G,Z],λH1 s1=>?_⟩;split at D
 .rename_i h;rw[if_pos h];simp only[l0,pf]at D;obtain⟨z',D,c',e5,rfl⟩:=D;simp only[aQ,wh]at J;subst J;exact⟨B,A,O,ρ,_,st.mono s1,by simp[evB,D,e5],λH2 s2=>q H2 (s1.trans s2)⟩
 .rename_i h;rw[if_neg h];cases D;cases J;exact q H1 s1
def Dw(U:PT X x (tT X.K cal a))(Y:PW X (.BoolOp .Or (y::r) pos) (tT X.K cal b)):PT X (.BoolOp .Or (x::y::r) pos) (tT X.K cal (.or a b)):=by
 refine(Ck U Y).pt.imp λσ H Q q=>?_
 obtain⟨B,A,O,ρ,v,st,G,q⟩:=q;simp only[evB,ev,l0]at G;obtain⟨w,⟨c,⟨z,G,Z⟩,D⟩,J⟩:=G;refine⟨B,A,O,ρ,c,st,by simp[evB,G,Z],λH1 s1=>?_⟩;split at D
 .rename_i h;rw[if_pos h];cases D;cases J;exact q H1 s1
 .rename_i h;rw[if_neg h];simp only[l0,pf]at D;obtain⟨z',D,c',e5,rfl⟩:=D;simp[aQ,wh]at J;subst J;exact⟨B,A,O,ρ,_,st.mono s1,by simp[evB,D,e5],λH2 s2=>q H2 (s1.trans s2)⟩
def Dx(hc:PT X t (tT X.K cal c))(J:PE X x (tE X.K cal a))(U:PE X y (tE X.K cal b))(Y:aw a=false)(Z:aw b=false):PE X (.IfExp t x y pos) (tE X.K cal (.ite c a b)):=by
 refine(tH hc J U).imp λσ H Q q=>?_
 obtain⟨B,A,O,ρ,v,st,z,q⟩:=q;rw[ev]at z;simp only[l0]at z;obtain⟨k',z,D⟩:=z;refine⟨B,A,O,ρ,k',st,by simpa[evB,l0]using z,λH1 s1=>?_⟩;split at D
 .rename_i h;rw[if_pos h];exact⟨B,A,O,ρ,v,st.mono s1,D,λu H2 G g2=>q u H2 (s1.trans G) (.of (g2.2 Y))⟩
 .rename_i h;rw[if_neg h];exact⟨B,A,O,ρ,v,st.mono s1,D,λu H2 G g2=>q u H2 (s1.trans G) (.of (g2.2 Z))⟩
def Dy(hc:PT X t (tT X.K cal c))(Z:PT X x (tT X.K cal a))(hb:PT X y (tT X.K cal b)):PT X (.IfExp t x y pos) (tT X.K cal (.ite c a b)):=by
 intro pins s σ H Q I q;refine bq λZq kq=>?_
 obtain⟨B,A,O,ρ,v,st,z,q⟩:=q;simp only[evB,ev,l0]at z;obtain⟨w,⟨J,z,D⟩,U⟩:=z;refine kq ?_;refine isTrue_IfExp (thn (hc pins s σ H (λb H1=>b=J/\ae H H1) I ⟨B,A,O,ρ,J,st,by simpa[evB,l0]using z,λH1 s1=>⟨rfl,s1⟩⟩) λb s1 ⟨H1,Y,eb,hs⟩=>?_);subst eb;split at D
 .rename_i h;subst h;exact Z pins s1 σ H1 Q Y ⟨B,A,O,ρ,v,st.mono hs,by simp[evB,D,U],λH2 G=>q H2 (hs.trans G)⟩
 .rename_i h;have:b=false:=by cases b<;>simp at h ⊢
  subst this;exact hb pins s1 σ H1 Q Y ⟨B,A,O,ρ,v,st.mono hs,by simp[evB,D,U],λH2 G=>q H2 (hs.trans G)⟩
def Dz(g:Gf X T k cal)(Y:PE X l (tE X.K cal a))(Z:PE X r (tE X.K cal b))(hm:behindInMarks (gN op) r=false):PE X (.Compare l [gN op] [r] pos) (tE X.K cal (.cmp op a b))/\PT X (.Compare l [gN op] [r] pos) (tT X.K cal (.cmp op a b)):=by
 refine⟨(qF (iZ g.units op) Y Z hm).imp λσ H Q q=>?_,(qG (iZ g.units op) Y Z hm).imp λσ H Q q=>?_⟩
 .obtain⟨B,A,O,ρ,v,st,z,q⟩:=q;rw[ev]at z;simp only[l0,pf]at z;obtain⟨x,z,y,G,c,J,rfl⟩:=z;exact⟨B,A,O,ρ,x,st,z,λux H1 s1 U=>⟨B,A,O,ρ,y,st.mono s1,G,λuy H2 D g2=>⟨O,x,y,c,U.1.mono D,g2.1,J,q _ H2 (s1.trans D) (.of (c_ _ _))⟩⟩⟩
 .obtain⟨B,A,O,ρ,v,st,z,q⟩:=q;simp only[evB,ev,l0,pf]at z;obtain⟨w,⟨x,z,y,G,c,J,rfl⟩,e4⟩:=z;simp[aQ,wh]at e4;subst e4;exact⟨B,A,O,ρ,x,st,z,λux H1 s1 U=>⟨B,A,O,ρ,y,st.mono s1,G,λuy H2 D g2=>⟨O,x,y,c,U.1.mono D,g2.1,J,_,rfl,q H2 (s1.trans D)⟩⟩⟩
def xZ{op D:Cp}{a b c:ME}{l m r:Expr}{pos:Pos}(g:Gf X T k cal)(ha:PE X l (tE X.K cal a))(hb:PE X m (tE X.K cal b))(hc:PE X r (tE X.K cal c))(hm:lastMarks [gN op,gN D] [m,r]=false) :
  PE X (.Compare l [gN op,gN D] [m,r] pos) (tE X.K cal (.chain op D a b c))/\PT X (.Compare l [gN op,gN D] [m,r] pos) (tT X.K cal (.chain op D a b c)):=by
 refine⟨(tN (iZ g.units op) (iZ g.units D) ha hb hc hm).imp λσ H Q q=>?_,(tO (iZ g.units op) (iZ g.units D) ha hb hc hm).imp λσ H Q q=>?_⟩
 .obtain⟨B,A,O,ρ,v,st,J,q⟩:=q;rw[ev]at J;simp only[l0]at J;obtain⟨x,J,y,Y,Z,e3,G⟩:=J;refine⟨B,A,O,ρ,x,st,J,λux H1 s1 g1=>⟨B,A,O,ρ,y,st.mono s1,Y,λuy H2 U g2=>⟨O,x,y,Z,g1.1.mono U,g2.1,e3,_,rfl,?_⟩⟩⟩;split at G
  .rename_i h;rw[if_pos h];simp only[l0,pf]at G;obtain⟨z,G,d,e5,rfl⟩:=G;exact⟨B,A,O,ρ,z,(st.mono s1).mono U,G,λuz H3 s3 g3=>⟨O,y,z,d,g2.1.mono s3,g3.1,e5,q _ H3 ((s1.trans U).trans s3) (.of (c_ _ _))⟩⟩
  .rename_i h;rw[if_neg h];cases G;exact q _ H2 (s1.trans U) (.of (c_ _ _))
 .obtain⟨B,A,O,ρ,v,st,J,q⟩:=q;simp only[evB,ev,l0]at J;obtain⟨w,⟨x,J,y,Y,Z,e3,G⟩,e6⟩:=J;refine⟨B,A,O,ρ,x,st,J,λux H1 s1 g1=>⟨B,A,O,ρ,y,st.mono s1,Y,λuy H2 U g2=>⟨O,x,y,Z,g1.1.mono U,g2.1,e3,_,rfl,?_⟩⟩⟩;split at G
  .rename_i h;rw[if_pos h];simp only[l0,pf]at G;obtain⟨z,G,d,e5,rfl⟩:=G;simp only[aQ,wh]at e6;subst e6;exact⟨B,A,O,ρ,z,(st.mono s1).mono U,G,λuz H3 s3 g3=>⟨O,y,z,d,g2.1.mono s3,g3.1,e5,_,rfl,q H3 ((s1.trans U).trans s3)⟩⟩
  .rename_i h;rw[if_neg h];cases G;cases e6;exact⟨_,rfl,q H2 (s1.trans U)⟩
def DA(h:PA X es (tEs X.K cal ms))(G:(ms.all λm=>!aw m)=true):PE X (.Tuple es j pos) (tE X.K cal (.tup ms)):=by
 refine(pw h).imp λσ H Q q=>?_
 obtain⟨B,A,O,ρ,v,st,z,q⟩:=q;rw[ev]at z;simp only[l0]at z;obtain⟨vs,z,D⟩:=z;split at D
 .rename_i Y;cases D;refine⟨B,A,O,ρ,vs,st,z,λus H1 s1 J=>⟨?_,λp U=>?_⟩⟩
  .rw[<- (J.2 G).length];exact cb Y
  .exact q _ _ (s1.trans (aU U _)) (.of (fb (aS s1 st.here) U (J.2 G)))
 .cases D
def zg(h:PA X es (tEs X.K cal ms))(z:(ms.all λm=>!aw m)=true):PE X (.List es pos) (tF X.K cal (.lst ms)):=by
 refine(pz h).imp λσ H Q q=>?_
 obtain⟨B,A,O,ρ,xs,st,D,q⟩:=q;rw[ev]at D;simp only[l0]at D;obtain⟨vs,D,G⟩:=D;split at G
 .rename_i Y;cases G;refine⟨B,A,O,ρ,xs,st,D,λus H1 s1 U=>⟨?_,λp J=>?_⟩⟩
  .rw[<- (U.2 z).length];exact cb Y
  .refine q p us _ (s1.trans (aU J _)) (s1.free J) aq ?_;rw[dS (GG)];refine Reps.mono (bi (ae.refl H1) λb z=>?_) _ (U.2 z);rcases y1.mp z with rfl|z
   .exact .inr J
   .exact .inl z
 .cases G
def DB(G:PE X v (tE X.K cal a))(hi:PE X s (tE X.K cal i))(hs:eZ s=true):PE X (.Subscript v s pos) (tE X.K cal (.idx a i)):=by
 refine(yR AW G hi (qb hs)).imp λσ H Q q=>?_
 obtain⟨B,A,O,ρ,v,st,z,q⟩:=q;rw[ev]at z;simp[l0]at z;obtain⟨x,z,y,J,U⟩:=z;exact⟨B,A,O,ρ,x,st,z,λZ H1 s1 Y=>⟨B,A,O,ρ,y,st.mono s1,J,λuy H2 D g2=>⟨O,x,y,v,aS (s1.trans D) st.here,Y.1.mono D,g2.1,U,λu H3 s3 r=>q u H3 ((s1.trans D).trans s3) (.of r)⟩⟩⟩
noncomputable def tB1(K:IF)(cal:Cal)(z:ME):TO:=λσ H Q=>∃B A O ρ o,ar K B A O H ρ σ/\((ev cal z ρ).bind λv=>bnd z v)=some o/\∀H',ae H H'->Q o H'
def A3(h:gP m=true):PO X none (tB1 X.K cal m):=by
 have e:m=.cst .non:=by
  unfold gP at h;split at h
  .rfl
  .cases h
 subst e;intro pins s σ H Q I q;refine bq λG D=>?_
 obtain⟨B,A,O,ρ,o,st,z,q⟩:=q;simp[ev,bind_some,bnd]at z;subst z;refine D ?_;exact w5 pins s σ H Q I (q H (ae.refl H))
def A4(h:PE X l (tE X.K cal m))(G:gP m=false):PO X (some l) (tB1 X.K cal m):=by
 intro pins s σ H Q I q;refine bq λU J=>?_
 obtain⟨B,A,O,ρ,o,st,z,q⟩:=q;simp[l0]at z;obtain⟨v,z,D⟩:=z;obtain⟨i,rfl,rfl⟩:∃i,v=.int i/\o=some i:=by
  unfold bnd at D;split at D
  .simp[gP]at G
  .simp_all
  .cases D
 refine J ?_;exact w8 h pins s σ H Q I ⟨B,A,O,ρ,_,st,z,λu H' s' g=>⟨i,g.1.int,q H' s'⟩⟩
def x0{a lo hi:ME}{p2 pos:Pos}(Z:PE X v (tE X.K cal a))(hl:PO X l (tB1 X.K cal lo))(hu:PO X u (tB1 X.K cal hi)):PE X (.Subscript v (.Slice l u none p2) pos) (tE X.K cal (.slice a lo hi)):=by
 refine(t9 AX Z hl hu).imp λσ H Q q=>?_
 refine bq λZq kq=>?_
 obtain⟨B,A,O,ρ,w,st,z,q⟩:=q;rw[ev,l0]at z;obtain⟨x,z,D⟩:=z;rw[l0]at D;obtain⟨U,D,G⟩:=D;rw[l0]at G;obtain⟨Y,G,e4⟩:=G;refine kq ?_;exact⟨B,A,O,ρ,x,st,z,λux H1 s1 g1=>⟨B,A,O,ρ,U,st.mono s1,D,λH2 J=>⟨B,A,O,ρ,Y,(st.mono s1).mono J,G,λH3 s3 =>
  ⟨O,x,w,aS ((s1.trans J).trans s3) st.here,g1.1.mono (J.trans s3),e4,λu H4 s4 r=>q u H4 (((s1.trans J).trans s3).trans s4) (.of r)⟩⟩⟩⟩
def vk {id:String} (hc:bG X (.builtin id) (RBM X.K (ay f))) (D:glB X.env.scope x=true) (G:X.mg x=none) (J:bootBuiltins x=some (.builtin id)) (U:x ≠ "__name__") (hd:(x==("__debug__":Str))=false)
  (Y:PA X (e::es) (tEs X.K cal ms)) (hs:(e::es).all ac=true):PE X (.Call (.Name x p) (e::es) [] pos) (tE X.K cal (.blt f ms)):=by
 simp only[all_cons,n4]at hs;refine(eU hc (cw D) G J Y U hd (aP hs.1 es _) (aV hs.2)).imp λσ H Q q=>?_
 obtain⟨B,A,O,ρ,v,st,z,q⟩:=q;rw[ev,l0]at z;obtain⟨vs,z,Z⟩:=z;exact⟨B,A,O,ρ,vs,st,z,λus H1 s1 g1=>⟨O,vs,v,aS s1 st.here,g1.1,Z,λu H2 s2 r=>q u H2 (s1.trans s2) (.of r)⟩⟩
def qe {id:String} (hc:bG X (.type id) (RBM X.K (ay f))) (D:glB X.env.scope x=true) (G:X.mg x=none) (J:bootBuiltins x=some (.type id)) (U:x ≠ "__name__") (hd:(x==("__debug__":Str))=false)
  (Y:PA X (e::es) (tEs X.K cal ms)) (hs:(e::es).all ac=true):PE X (.Call (.Name x p) (e::es) [] pos) (tE X.K cal (.blt f ms)):=by
 simp only[all_cons,n4]at hs;refine(eV hc (cw D) G J Y U hd (aP hs.1 es _) (aV hs.2)).imp λσ H Q q=>?_
 obtain⟨B,A,O,ρ,v,st,z,q⟩:=q;rw[ev,l0]at z;obtain⟨vs,z,Z⟩:=z;exact⟨B,A,O,ρ,vs,st,z,λus H1 s1 g1=>⟨O,vs,v,aS s1 st.here,g1.1,Z,λu H2 s2 r=>q u H2 (s1.trans s2) (.of r)⟩⟩
def lZ{K:IF}(q:tF K cal (.blt f ms) σ H Q):tCB (RBF K (ay f)) (tEs K cal ms) σ H Q:=by
 obtain⟨B,A,O,ρ,xs,st,z,q⟩:=q;rw[ev,l0]at z;obtain⟨vs,z,J⟩:=z;refine⟨B,A,O,ρ,vs,st,z,λus H1 s1 U=>⟨O,vs,xs,aS s1 st.here,U.1,J,λl ws D r=>q l ws _ (s1.trans (aU D _)) (s1.free D) aq ?_⟩⟩;rw[dS (GG)];refine Reps.mono (bi (ae.refl H1) λb G=>?_) _ r;rcases y1.mp G with rfl|G
 .exact .inr D
 .exact .inl G
def A5 {id:String} (hc:bG X (.builtin id) (RBF X.K (ay f))) (z:glB X.env.scope x=true) (D:X.mg x=none) (G:bootBuiltins x=some (.builtin id)) (J:x ≠ "__name__") (hd:(x==("__debug__":Str))=false)
  (U:PA X (e::es) (tEs X.K cal ms)) (hs:(e::es).all ac=true):PE X (.Call (.Name x p) (e::es) [] pos) (tF X.K cal (.blt f ms)):=by
 simp only[all_cons,n4]at hs;exact(eU hc (cw z) D G U J hd (aP hs.1 es _) (aV hs.2)).imp λσ H Q q=>lZ q
def x4 {id:String} (hc:bG X (.type id) (RBF X.K (ay f))) (z:glB X.env.scope x=true) (D:X.mg x=none) (G:bootBuiltins x=some (.type id)) (J:x ≠ "__name__") (hd:(x==("__debug__":Str))=false)
  (U:PA X (e::es) (tEs X.K cal ms)) (hs:(e::es).all ac=true):PE X (.Call (.Name x p) (e::es) [] pos) (tF X.K cal (.blt f ms)):=by
 simp only[all_cons,n4]at hs;exact(eV hc (cw z) D G U J hd (aP hs.1 es _) (aV hs.2)).imp λσ H Q q=>lZ q
def A6(g:Gf X T k cal)(U:T.fs[f]?=some x)(D:glB X.env.scope x=true)(G:aj x=true)(Y:PA X es (tAs X.K cal ms))(hs:es.all ac=true)(Z:ms.length=es.length):PE X (.Call (.Name x p) es [] pos) (tE X.K cal (.call f ms)):=by
 obtain⟨fa,fd,ps,h1,h2,J,F,_⟩:=g.fns f x U;have key:∀σ H Q,tE X.K cal (.call f ms) σ H Q->tY (spM X.K cal f) [] E0 (tAs X.K cal ms) σ H Q:=λσ H Q q=>by
  obtain⟨B,A,O,ρ,v,st,z,q⟩:=q;rw[ev,l0]at z;obtain⟨vs,z,e2⟩:=z;refine⟨B,A,O,ρ,vs,st,z,λus H1 s1 g1=>⟨O,vs,v,aS s1 st.here,?_,e2,λu H2 s2 r=>q u H2 (s1.trans s2) (.of r)⟩⟩
  simp_all
 cases es with
 |nil =>
  refine(tZ F g.room (cw D) h1 h2 J .nil g5 (bW G).1).imp λσ H Q q=>?_
  obtain⟨B,A,O,ρ,vs,st,z,q⟩:=key σ H Q q;cases ms with
  |nil =>
   simp only[evA,wh]at z;subst z;exact q [] H (ae.refl H) .nil
  |cons m ms=>simp at Z
 |cons e es =>
  simp only[all_cons,n4]at hs;exact(jA F g.room (cw D) h1 h2 J .nil g5 Y (bW G).1 (aP hs.1 es _) (aV hs.2)).imp key
end
section
variable{K:IF}{H:Hp}{O:List Addr}
end
section
variable{X:Cx}{pins:List (Addr×Obj)}{σ:St}{H:Hp}{s:Shared}
end
section
variable{X:Cx}{T:Tab}{k:Nat}{cal:Cal}
end
def qf:bootBuiltins "len"=some (.builtin "len"):=by decide +kernel
def iy:bootBuiltins "tuple"=some (.type "tuple"):=by decide +kernel
def rb:bootBuiltins "list"=some (.type "list"):=by decide +kernel
def l4:bootBuiltins "sorted"=some (.builtin "sorted"):=by decide +kernel
def A7:bootBuiltins "any"=some (.builtin "any"):=by decide +kernel
def A8:bootBuiltins "all"=some (.builtin "all"):=by decide +kernel
def vm:bootBuiltins "int"=some (.type "int"):=by decide +kernel
def x5:bootBuiltins "bool"=some (.type "bool"):=by decide +kernel
def A9:bootBuiltins "set"=some (.type "set"):=by decide +kernel
def lz:bootBuiltins "isinstance"=some (.builtin "isinstance"):=by decide +kernel
section
variable{X:Cx}{T:Tab}{k:Nat}{cal:Cal}
def A_ {p p2 pos:Pos} (g:Gf X T k cal) (G:cQ f=some c) (hg:glB X.env.scope "isinstance"=true) (ht:t=(c:Str)) (J:glB X.env.scope t=true)
  (U:bootBuiltins c=some (.type c)) (Y:X.mg c=none) (hn:(c:Str) ≠ "__name__") (hd:((c:Str)==("__debug__":Str))=false) (h:PE X e (tE X.K cal m)) (hs:ac e=true):PE X (.Call (.Name "isinstance" p) [e,.Name t p2] [] pos) (tE X.K cal (.blt f [m])):=by
 subst ht;refine(eU (AZ G) (cw hg) (g.blt "isinstance" (by decide)) lz (aI h (aI (wJ (v:=.ty c) (cw J) Y U rfl hn hd) bn rfl) (aP hs _ _)) (by decide) (by decide) (aP hs _ _) rfl).imp λσ H Q q=>?_
 obtain⟨B,A,O,ρ,v,st,z,q⟩:=q;rw[ev,l0]at z;obtain⟨vs,z,D⟩:=z;obtain⟨w,rfl,e3⟩:=ve z;have Z:isD w=false/\v=.bl (isT f w):=by
  cases hd:isD w with
  |true=>cases f<;>simp[cQ,reduceCtorEq]at G<;>(simp only[ay,b0,gp,fN,hd]at D;cases D)
  |false=>cases f<;>simp[cQ,reduceCtorEq]at G<;>(simp[ay,b0,gp,fN,hd,GO,HL,wh]at D;exact⟨rfl,D.symm⟩)
 obtain⟨Z,rfl⟩:=Z;refine⟨B,A,O,ρ,w,st,e3,λu H1 s1 g1=>⟨O,w,u,rfl,Z,g1.1,q _ H1 s1 (.of (c_ _ _))⟩⟩
def oq {m:ME}{e:Expr}{x y:Str}{p p2 pos pos2:Pos} (g:Gf X T k cal) (hx:x=("sorted":Str)) (Z:y=("set":Str)) (hg:glB X.env.scope x=true) (G:glB X.env.scope y=true) (h:PE X e (tE X.K cal m)) (hs:ac e=true):PE X (.Call (.Name x p) [.Call (.Name y p2) [e] [] pos2] [] pos) (tF X.K cal (.blt .sortedSet [m])):=by
 subst hx Z;refine(eU (oo g.calm) (cw hg) (g.blt "sorted" (by decide)) l4 (aI (eV (Dk g.calm) (cw G) (g.blt "set" (by decide)) A9 (aI h bn (aP hs _ _)) (by decide) (by decide) (aP hs _ _) rfl) bn rfl) (by decide) (by decide) rfl rfl).imp λσ H Q q=>?_
 obtain⟨B,A,O,ρ,xs,st,D,q⟩:=q;rw[ev,l0]at D;obtain⟨vs,D,U⟩:=D;obtain⟨w,rfl,e3⟩:=ve D;simp only[ay,b0,jw,gp,fN,l0]at U;obtain⟨ys,e4,ns,e5,J⟩:=U;split at J
 .rename_i hc;cases J;refine⟨B,A,O,ρ,w,st,e3,λu H1 s1 g1=>⟨O,w,u,ns,rfl,g1.1,by simp[e4,e5],by omega,λl Y=>⟨l,_,rfl,aq,?_,λp' z=>?_⟩⟩⟩
  .rw[q8 hc];exact hc
  .rw[q8 hc]at z ⊢;refine q p' _ _ ((s1.trans (aU Y _)).trans (aU z _)) (s1.free ((aU Y _).free z)) aq (.of_ints _)
 .cases J
theorem ou:∀{xs:List PV}{ws:List Str},dJ xs=some ws->xs=ws.map .str
 | [],_,h=>by simp[dJ]at h;subst h;rfl
 | .str i::r,ns,h=>by
  simp only[dJ,pf]at h;obtain⟨ms,h1,rfl⟩:=h;rw[ou h1];rfl
 | .non::_,_,h=>by simp[dJ]at h
 | .bl _::_,_,h=>by simp[dJ]at h
 | .int _::_,_,h=>by simp[dJ]at h
 | .tup _::_,_,h=>by simp[dJ]at h
 | .lst _::_,_,h=>by simp[dJ]at h
 | .dI _::_,_,h=>by simp[dJ]at h
theorem l5{K:IF}{F:Hp}:∀{ws:List Str}{us:List V},Reps K F (ws.map .str) us->us=ws.map V.str
 | [],_,h=>by simpa[Reps]using h
 |n::ns,_,h=>by
  rw[F0,Reps]at h;obtain⟨u,r,rfl,q,t⟩:=h;rw[Rep]at q;rw[q,l5 t];rfl
def Ba {x:Str}{m:ME}{e:Expr}{j:Nat}{p J U:Pos} (h:PE X e (tE X.K cal m)) (hs:ac e=true) (Y:(J.endLine==U.line)=true):PE X (.Call (.Attribute (.Constant (.str x) j p) "join" J) [e] [] U) (tE X.K cal (.join x m)):=by
 refine(nF PySem.F.plainAttrs_str PySem.F.slot_str_join PySem.F.type_str_join xl jR (aI h bn (aP hs _ _)) rfl (by rw[aP hs];rfl) Y (aP hs _ _) rfl).imp λσ H Q q=>?_
 obtain⟨B,A,O,ρ,v,st,D,q⟩:=q;rw[ev,l0]at D;obtain⟨w,D,z⟩:=D;cases w with
 |lst xs =>
  have z:((dJ xs).bind λws=>if (ws.map λy=>y.length+x.length).sum<=1000000 then some (PV.str (Builtin.Str.glued x ws))else none)=some v:=z;rw[l0]at z;obtain⟨ws,Z,G⟩:=z;split at G
  .rename_i hz;cases G;have e5:=ou Z;subst e5;refine⟨rfl,B,A,O,ρ,_,st,D,λu H1 s1 g1=>?_⟩;obtain⟨a,us,rfl,sq,rs⟩:=g1.1.lst;have e6:=l5 rs;subst e6;exact⟨x,a,ws,rfl,rfl,sq,hz,q _ H1 s1 (.of (by rw[Rep]))⟩
  .cases G
 | _=>cases z
def DC {x:Str}{d:Addr}{o:Obj}{es:Array DictEntry}{ep:Nat}{i:Expr}{ty:TE}{p pos:Pos} (G:Gl X x) (J:(x==("__debug__":Str))=false) (U:X.mg x=some (.ref d)) (Y:List.lookup d X.K=some o) (hx:o.ExactDict) (hd:o.data=.dict es ep) (hh:∀e∈es,∃k,Value.isStrOf k e.key=true/\e.hash=hashStr X.w k) (hi:PE X i ty) (hs:Ae i) :
  PE X (.Subscript (.Name x p) i pos) (λσ H Q=>ty σ H λy H1=>∃k val v,y=.str k/\findBy Value.isStrOf es k=some val/\aE v val/\Q v H1):=by
 intro pins s σ H Q I h;refine xg PySem.F.slot_dict_getitem.lookup hs (d9 I G U (thn (hi pins s σ H _ I h) λiv s2 ⟨y,H2,z,Z,k,val,v,ey,ef,rv,q2⟩=>?_) J);subst ey;obtain⟨t,rfl⟩:=Z;have D:=z.kIn d o Y;refine⟨⟨o,D,hx.1⟩,wpAny_getItem_of (knd:=strKind X.prog X.w) (k:=k) (f:=findBy Value.isStrOf es) (by show Value.isStrOf k (.str k t)=true;simp[Value.isStrOf]) ⟨o,es,ep,D,hx,hd,hh,λ_=>rfl⟩ ef ⟨v,H2,z.tok _,rv,q2⟩⟩
def Bb{x:Str}{m:ME}{i:Expr}{p pos:Pos}(g:Gf X T k cal)(Z:glB X.env.scope x=true)(hn:aj x=true)(hc:(fm.any λt=>t.1==x)=true)(h:PE X i (tE X.K cal m))(hs:Ae i):PE X (.Subscript (.Name x p) i pos) (tE X.K cal (.cdat x m)):=by
 have hx:∃t∈fm,t.1=x:=by
  obtain⟨t,h1,h2⟩:=HM.mp hc;exact⟨t,h1,eq_of_beq h2⟩
 .obtain⟨t,D,rfl⟩:=hx;obtain⟨d,o,es,ep,h0,h1,h2,h3,h4,h5,h6⟩:=g.ct t D;refine(DC (cw Z) (bW hn).1 h1 h2 h3 h4 h5 h hs).imp λσ H Q q=>?_
  obtain⟨B,A,O,ρ,v,st,G,q⟩:=q;rw[ev,l0]at G;obtain⟨w,G,z⟩:=G;cases w with
  |str k =>
   have z:(((fm.find? λp=>decide (p.1=t.1)).bind λt=>t.2.find? λp=>decide (p.1=k)).map (·.2))=some v:=z;have et:fm.find? (λp=>decide (p.1=t.1))=some t:=by
    unfold fm at D ⊢;simp only[y1,F4,Gi]at D;subst D;simp
   rw[et,bind_some,pf]at z;obtain⟨U,Y,rfl⟩:=z;have hm:=Ho Y;have J:=find?_some Y;have J:U.1=k:=Gx J;obtain⟨val,u,f1,f2,f3⟩:=h6 U hm;refine⟨B,A,O,ρ,_,st,G,λuy H1 s1 g1=>?_⟩;have ey:=g1.1.str;subst ey;exact⟨k,val,u,rfl,by rw[<- J];exact f1,f2,q _ H1 s1 (.of (f3 _))⟩
  | _=>cases z
def Bc (g:Gf X T k cal) (U:glB X.env.scope ("len":Str)=true) (Y:aR X.N X.env.scope i y=true):PE X (.Call (.Name ("len":Str) p) [.Name y yp] [] pos) (tE X.K cal (.lenP i)):=by
 refine(eU dr (cw U) (g.blt "len" (by decide)) qf (aI (bK Y) bn rfl) (by decide) (by decide) rfl rfl).imp λσ H Q q=>?_
 refine bq λZq Z=>?_
 obtain⟨B,A,O,ρ,v,st,z,q⟩:=q;rw[ev]at z;have fin:∀ns a,H a=some (ia (.p ns))->v=.int ns.length->σ[i]?=some (some (.ref a))->∃u,σ[i]?=some (some u)/\∃a ws,[u]=[V.ref a]/\(SqL X.K H a ws\/SqT X.K H a ws)/\Q (.int ws.length) H:=λns a D hv G=>by
  refine⟨_,G,a,ns.map V.int,rfl,.inl (SqL.of D),?_⟩;rw[FY];subst hv;exact q _ H (ae.refl H) (.of (b_ _ _))
 refine Z ?_;cases J:(ρ[i]?).join with
 |none=>rw[J]at z;cases z
 |some m =>
  rw[J]at z;obtain⟨u,G,so⟩:=aT st J;cases m with
  |ownD d|mutD d =>
   cases d with
   |p ns =>
    cases z;obtain⟨a,rfl,D,_⟩:=so;exact fin ns a D rfl G
   | _=>cases z
  | _=>cases z
def oA{cond elt:ME}:∀ρ v,ev cal (.comp D src js cond elt) ρ=some v->∃xs,v=.lst xs:=λρ v z=>by
 rw[ev,l0]at z;obtain⟨vs,_,z⟩:=z;rw[l0]at z;obtain⟨xs,_,z⟩:=z;split at z
 .simp at z;obtain⟨ys,_,rfl⟩:=z;exact⟨_,rfl⟩
 .cases z
def eG{f:Blt}(D:f=.listOf\/f=.sorted\/f=.sortedSet\/f=.sortedKeys\/f=.valuesOf){ms:List ME}:∀ρ v,ev cal (.blt f ms) ρ=some v->∃xs,v=.lst xs:=λρ v z=>by
 rw[ev,l0]at z;obtain⟨vs,_,z⟩:=z;rcases D with rfl|rfl|rfl|rfl|rfl
 .obtain⟨x,rfl⟩:=da z (.inl rfl);simp only[ay,b0,jw,gp,fN,pf]at z;obtain⟨ys,_,rfl⟩:=z;exact⟨_,rfl⟩
 .obtain⟨x,rfl⟩:=da z (.inl rfl);simp only[ay,b0,jw,gp,fN,l0]at z;obtain⟨ys,_,z⟩:=z;unfold ko at z;split at z
  .cases z;exact⟨_,rfl⟩
  .cases z
 .obtain⟨x,rfl⟩:=da z (.inr (.inr (.inl rfl)));simp only[ay,b0,jw,gp,fN,l0]at z;obtain⟨ys,_,ns,_,z⟩:=z;split at z
  .cases z;exact⟨_,rfl⟩
  .cases z
 .obtain⟨x,rfl⟩:=da z (.inl rfl);simp only[ay,b0]at z;split at z
  .split at z
   .cases z;exact⟨_,rfl⟩
   .cases z
  .cases z
 .obtain⟨x,rfl⟩:=da z (.inr (.inr (.inr (.inr rfl))));simp only[ay,b0]at z;split at z
  .split at z
   .cases z;exact⟨_,rfl⟩
   .cases z
  .cases z
def i4{cond:ME}(h:jh f cond ifs=true)(hc:∀c,f c=true->PT X c (tT X.K cal cond)):PF X ifs (tT X.K cal cond):=by
 match ifs,h with
 | [],h =>
  have e:cond=.cst (.bl true):=by
   simp[jh]at h;split at h
   .rfl
   .cases h
  subst e;intro pins s σ H Q I q;refine bq λG D=>?_
  obtain⟨B,A,O,ρ,b,st,z,q⟩:=q;simp only[evB,ev,bind_some,aQ,wh]at z;subst z;refine D ?_;exact Ag pins s σ H Q I (q H (ae.refl H))
 | [c],h=>exact Ah (hc c h)
def sI{D:List ME}{js:List Nat}{cond elt:ME}:∀ρ v,ev cal (.comp2 D js cond elt) ρ=some v->∃xs,v=.lst xs:=λρ v z=>by
 rw[ev,l0]at z;obtain⟨vs,_,z⟩:=z;rw[l0]at z;obtain⟨xs,_,z⟩:=z;split at z
 .simp only[pf]at z;obtain⟨ys,_,rfl⟩:=z;exact⟨_,rfl⟩
 .cases z
def Bd{js:List Nat}{x y:Str}{px U tp:Pos}{j:Nat}{scope:Scope}{z:Shared}{D:Hp}{C:Addr}{fp:List Addr}(g:Gf X T k cal)(h:e_ X.env.scope X.N scope x y (aB X.N js) js=true):PG (X.blk x ([y]++aB X.N js) scope z D C fp) (.Tuple [.Name x px,.Name y U] j tp) (g2 X.K):=by
 obtain⟨c,G,J⟩:=kI h;exact zL g.calm (nw (f_ (i:=0) c.nd rfl (.inl (GF G)) (.inr (GF G))) (nw (f_ (i:=1) c.nd rfl (.inl (GF J)) (.inr (GF J))) wM)) rfl rfl
def mZ{x m:Str}{es:List Expr}{p D pos:Pos}{env:Env}(hs:es.all ac=true)(J:decide (es.length<30)=true)(z:(D.endLine==pos.line)=true):eval (.Call (.Attribute (.Name x p) m D) es [] pos) env=(do
   let G <- eval (.Name x p) env
   standAt D.atName
   let (f,first) <- holding [G] (getMethod G m (do return (<- importBound (.Name x p) env).getD true))
   callWith pos f first (backTo pos (starEach es env)) (backToKw pos (keywordEach [] env))):=by
 have U:methodCallForm (es.length+([]:List Keyword).length) (backTo pos (starEach es env)) (backToKw pos (keywordEach [] env))=true:=by
  unfold methodCallForm;have h1:((backTo pos (starEach es env)).all λx=>!x.1)=true:=by
   have:=aV (pos:=pos) (env:=env) hs;rw[List.any_eq_false]at this;rw[He];intro x hx;have:=this x hx;simpa using this
  rw[h1];exact J
 rw[arm_eval_Call];unfold methodCall calleeOf methodCallPos;rw[U,z]
 rfl
def gT{J:Sk}{z:List ME}{it tg:Expr}{tup:Bool}(U:tup=true->∃ts j tp,tg=.Tuple ts j tp)(g:Gf X T k cal)(h:kA X.env.scope tup (λxs=>chks T z X.N X.env.scope xs) J it=true)(hs:∀xs,chks T z X.N X.env.scope xs=true->PA X xs (tEs X.K cal z)/\xs.all ac=true/\z.length=xs.length)
  (h1:∀m x,z=[m]->chks T z X.N X.env.scope [x]=true->PE X x (tE X.K cal m)):PI X tg it (tW X.K cal J z)/\c9 it=true:=by
 cases J with
 |seq =>
  replace h:=ek.mp h
  obtain⟨D,h⟩:=h;refine⟨?_,D⟩;obtain⟨_,_,G⟩:=hs _ h;obtain⟨m,rfl⟩:=HF.mp G;cases hb:aw m with
  |false=>exact Dl hb (h1 m it rfl h)
  |true =>
   have q1:=(b6 h).1.1;obtain⟨i,rfl⟩:=mR hb;obtain⟨x,p,rfl,q⟩:=jD q1;exact Dm q
 |chr =>
  replace h:=ek.mp h
  obtain⟨D,h⟩:=h;refine⟨?_,D⟩;obtain⟨_,_,G⟩:=hs _ h;obtain⟨m,rfl⟩:=HF.mp G;exact Do (h1 m it rfl h)
 |rng =>
  replace h:=ag h
  obtain⟨c,Y,h⟩:=h;obtain⟨p,pos,rfl⟩:=cO Y;simp only[n4,FW,IB]at h;obtain⟨⟨⟨hx,Z⟩,ha⟩,D⟩:=h;obtain⟨q,ap,G⟩:=hs _ ha;exact⟨xW g hx Z q D ap G,rfl⟩
 |enm=>cases h
 |zip =>
  replace h:=ag h
  obtain⟨⟨x,a,b⟩,Y,h⟩:=h;obtain⟨p,pos,rfl⟩:=xA Y;simp only[n4,FW]at h;obtain⟨⟨⟨⟨⟨ht,hx⟩,Z⟩,ha⟩,D⟩,aO⟩:=h;obtain⟨ts,j,tp,rfl⟩:=U ht;obtain⟨q,_,G⟩:=hs _ ha;exact⟨Dn g hx Z q D aO G,rfl⟩
 |rev=>cases h
def vn(K)(F)(s:Sc):Rep K F s.pv s.v:=by cases s<;>simp[Sc.pv,Sc.v,Rep]
theorem re(K)(F):∀ss:List Sc,Reps K F (ss.map Sc.pv) (ss.map Sc.v)
 | []=>rfl
 |s::ss=>⟨_,_,rfl,vn K F s,re K F ss⟩
def oB{b:Blt}{es:List ME}{x:Str}{args:List Expr}{p pos:Pos}(g:Gf X T k cal)(hx:x=(n9 b:Str))(U:glB X.env.scope x=true)(D:qS X.env.scope (λxs=>chks T es X.N X.env.scope xs) es.length b args=true)
  (hs:∀xs,chks T es X.N X.env.scope xs=true->PA X xs (tEs X.K cal es)/\xs.all ac=true/\es.length=xs.length)
  (h1:∀m x,es=[m]->chks T es X.N X.env.scope [x]=true->PE X x (tE X.K cal m))
  (be:∀m m' x x',es=[m,m']->chks T es X.N X.env.scope [x,x']=true->PE X x (tE X.K cal m)/\PE X x' (tE X.K cal m')) :
  (fR (.blt b es)=true->PE X (.Call (.Name x p) args [] pos) (tF X.K cal (.blt b es)))/\PE X (.Call (.Name x p) args [] pos) (tE X.K cal (.blt b es)):=by
 subst hx;have inst:∀{b:Blt}{args:List Expr} (c:String),glB X.env.scope (n9 b)=true->cQ b=some c->n9 b="isinstance"->bootBuiltins c=some (.type c)->X.mg c=none->(c:Str) ≠ "__name__"->((c:Str)==("__debug__":Str))=false->n_ X.env.scope (λxs=>chks T es X.N X.env.scope xs) es.length c args=true ->
   PE X (.Call (.Name (n9 b) p) args [] pos) (tE X.K cal (.blt b es)):=λ{b args} c U hc hb ap hm hn hd D=>by
  replace D:=ag D
  obtain⟨⟨y,t0⟩,e1,D⟩:=D
  replace D:=ag D
  obtain⟨⟨t,p2⟩,e2,D⟩:=D;obtain rfl:=ib e1;obtain rfl:=bR (e:=t0) e2;simp only[n4,FW]at D;obtain⟨⟨⟨h2,Z⟩,h4⟩,h5⟩:=D;obtain⟨m,rfl⟩:=HF.mp h5;rw[hb]at U ⊢;exact A_ g hc U h2 Z ap hm hn hd (h1 m y rfl h4) (b6 h4).1.2
 have c1:∀{nm:Str},uW X.env.scope (λxs=>chks T es X.N X.env.scope xs) es.length nm args=true->∃m y Y p2 pos2,es=[m]/\args=[.Call (.Name Y p2) [y] [] pos2]/\Y=nm/\glB X.env.scope Y=true/\PE X y (tE X.K cal m)/\ac y=true:=λ{nm} D=>by
  replace D:=ag D
  obtain⟨a,e1,D⟩:=D
  replace D:=ag D
  obtain⟨⟨Y,y⟩,e2,D⟩:=D;obtain⟨p2,pos2,rfl⟩:=ic e2;simp only[n4,FW]at D;obtain⟨⟨⟨h2,Z⟩,h4⟩,h5⟩:=D;obtain⟨m,rfl⟩:=HF.mp h5;exact⟨m,y,Y,p2,pos2,rfl,bJ e1,h2,Z,h1 m y rfl h4,(b6 h4).1.2⟩
 have plain:∀{args:List Expr} (n:Nat),0<n->(some n==some es.length&&chks T es X.N X.env.scope args)=true->∃e r,args=e::r/\PA X (e::r) (tEs X.K cal es)/\(e::r).all ac=true:=λ{args} n a6 D=>by
  simp only[n4,FW,wh]at D;obtain⟨G,J,q3⟩:=hs _ D.2;cases args with
  |nil=>rw[<- D.1]at q3;simp at q3;omega
  |cons e r=>exact⟨e,r,rfl,G,J⟩
 cases b with
 |len =>
  obtain⟨e,r,er,G,J⟩:=plain 1 (by decide) D;rw[er];exact⟨λz=>(by cases z),vk De U (g.blt "len" (by decide)) qf (by decide) (by decide) G J⟩
 |tupleOf =>
  obtain⟨e,r,er,G,J⟩:=plain 1 (by decide) D;rw[er];exact⟨λz=>(by cases z),qe mW U (g.blt "tuple" (by decide)) iy (by decide) (by decide) G J⟩
 |listOf =>
  obtain⟨e,r,er,G,J⟩:=plain 1 (by decide) D;rw[er];have q:=x4 (p:=p) (pos:=pos) AY U (g.blt "list" (by decide)) rb (by decide) (by decide) G J;exact⟨λ_=>q,dA (eG (.inl rfl)) q⟩
 |sorted =>
  obtain⟨e,r,er,G,J⟩:=plain 1 (by decide) D;rw[er];have q:=A5 (p:=p) (pos:=pos) (vc g) U (g.blt "sorted" (by decide)) l4 (by decide) (by decide) G J;exact⟨λ_=>q,dA (eG (.inr (.inl rfl))) q⟩
 |any =>
  obtain⟨e,r,er,G,J⟩:=plain 1 (by decide) D;rw[er];exact⟨λz=>(by cases z),vk (Di g.calm) U (g.blt "any" (by decide)) A7 (by decide) (by decide) G J⟩
 |all =>
  obtain⟨e,r,er,G,J⟩:=plain 1 (by decide) D;rw[er];exact⟨λz=>(by cases z),vk (Dj g.calm) U (g.blt "all" (by decide)) A8 (by decide) (by decide) G J⟩
 |strOf =>
  obtain⟨e,r,er,G,J⟩:=plain 1 (by decide) D;rw[er];exact⟨λz=>(by cases z),qe Dh U (g.blt "str" (by decide)) PyProof.Rows.boot_str (by decide) (by decide) G J⟩
 |intOf =>
  obtain⟨e,r,er,G,J⟩:=plain 1 (by decide) D;rw[er];exact⟨λz=>(by cases z),qe Dg U (g.blt "int" (by decide)) vm (by decide) (by decide) G J⟩
 |boolOf=>exact absurd D ow
 |max2=>exact absurd D ow
 |min2=>exact absurd D ow
 |isInt=>exact⟨λz=>(by cases z),inst "int" U rfl rfl vm (g.blt "int" (by decide)) (by decide) (by decide) D⟩
 |isBool=>exact⟨λz=>(by cases z),inst "bool" U rfl rfl x5 (g.blt "bool" (by decide)) (by decide) (by decide) D⟩
 |isStr=>exact absurd D ow
 |isList=>exact absurd D ow
 |isTuple=>exact⟨λz=>(by cases z),inst "tuple" U rfl rfl iy (g.blt "tuple" (by decide)) (by decide) (by decide) D⟩
 |sortedSet =>
  obtain⟨m,y,Y,p2,pos2,ee,ea,h2,Z,hp,a3⟩:=c1 D;rw[ee,ea];have q:=oq (p:=p) (p2:=p2) (pos:=pos) (pos2:=pos2) g rfl h2 U Z hp a3;exact⟨λ_=>q,dA (eG (.inr (.inr (.inl rfl)))) q⟩
 |sum=>exact absurd D ow
 |max1=>exact absurd D ow
 |sortedKeys=>exact absurd D ow
 |valuesOf=>exact absurd D ow
 |min1=>cases D
 |tupleRev=>cases D
 |lenSet=>cases D
 |lenSetSub=>cases D
end
mutual
theorem am{T:Tab}{k:Nat}{cal:Cal}:∀(me:ME) {X:Cx}{e:Expr},Gf X T k cal->chk T me X.N X.env.scope e=true->PE X e (tE X.K cal me)/\PT X e (tT X.K cal me)
 | .var i,X,e,g,h=>by
  replace h:=ag h
  obtain⟨x,w,h⟩:=h;obtain rfl:=bR w;exact⟨za h,bc (za h) rfl⟩
 | .bor i,X,e,g,h=>by
  replace h:=ag h
  obtain⟨x,w,h⟩:=h;obtain rfl:=bR w;exact⟨zb h,bc (zb h) rfl⟩
 | .cst v,X,e,g,h=>by
  replace h:=ag h
  obtain⟨x,w,h⟩:=h;obtain rfl:=pY w;exact⟨zc h,bc (zc h) rfl⟩
 | .glob x v,X,e,g,h=>by
  replace h:=ag h
  obtain⟨y,w,h⟩:=h;obtain rfl:=bR w;exact⟨vb g h,bc (vb g h) rfl⟩
 | .bin op a b,X,e,g,h=>by
  replace h:=ag h
  obtain⟨⟨l,o,r,pos⟩,w,h⟩:=h;obtain rfl:=mK w;simp only[n4,FW]at h;obtain⟨⟨rfl,h1⟩,h2⟩:=h;have p:=Dq (op:=op) (pos:=pos) (am a g h1).1 (am b g h2).1;exact⟨p,bc p rfl⟩
 | .neg _,X,e,g,h=>absurd (show false=true from h) ow
 | .not a,X,e,g,h=>by
  replace h:=ag h
  obtain⟨⟨o,x,pos⟩,w,h⟩:=h;obtain rfl:=Ax w
  replace h:=ek.mp h
  obtain⟨h2,h⟩:=h;obtain rfl:=eq_of_beq h2;exact⟨Ds (am a g h).1,Dt (am a g h).2⟩
 | .and a b,X,e,g,h=>by
  replace h:=ag h
  obtain⟨⟨o,vs,pos⟩,w,h⟩:=h;obtain rfl:=uR w
  replace h:=ek.mp h
  obtain⟨h2,h⟩:=h;obtain rfl:=eq_of_beq h2;rcases qT h with⟨x,y,rfl,h1,h2⟩|⟨x,y,z,r,rfl,h1,h2⟩
  .exact⟨zd (am a g h1).1 (tG (am b g h2).1),zf (am a g h1).2 (wK (am b g h2).2)⟩
  .exact⟨zd (am a g h1).1 (am b g h2).1,zf (am a g h1).2 (ze (am b g h2).2)⟩
 | .or a b,X,e,g,h=>by
  replace h:=ag h
  obtain⟨⟨o,vs,pos⟩,w,h⟩:=h;obtain rfl:=uR w
  replace h:=ek.mp h
  obtain⟨h2,h⟩:=h;obtain rfl:=eq_of_beq h2;rcases qT h with⟨x,y,rfl,h1,h2⟩|⟨x,y,z,r,rfl,h1,h2⟩
  .exact⟨Du (am a g h1).1 (tG (am b g h2).1),Dw (am a g h1).2 (zG (am b g h2).2)⟩
  .exact⟨Du (am a g h1).1 (am b g h2).1,Dw (am a g h1).2 (ze (am b g h2).2)⟩
 | .ite c a b,X,e,g,h=>by
  replace h:=ag h
  obtain⟨q,w,h⟩:=h;obtain rfl:=Ay w;simp only[n4,F2]at h;obtain⟨⟨⟨⟨h1,h2⟩,J⟩,Y⟩,Z⟩:=h;exact⟨Dx (am c g h1).2 (am a g h2).1 (am b g J).1 Y Z,Dy (am c g h1).2 (am a g h2).2 (am b g J).2⟩
 | .cmp op a b,X,e,g,h=>by
  replace h:=ag h
  obtain⟨⟨l,o,r⟩,w,h⟩:=h;obtain⟨pos,rfl⟩:=qQ w;simp only[n4,FW,F2]at h;obtain⟨⟨⟨rfl,h1⟩,h2⟩,J⟩:=h;exact Dz g (am a g h1).1 (am b g h2).1 J
 | .chain op b1 a b c,X,e,g,h=>by
  cases e with
  |Compare l ops rs pos =>
   match ops,rs,h with
   | [o,o'],[m,r],h =>
    simp only[u4,n4,FW,F2]at h;obtain⟨⟨⟨⟨⟨rfl,rfl⟩,h1⟩,h2⟩,J⟩,Y⟩:=h;exact xZ g (am a g h1).1 (am b g h2).1 (am c g J).1 Y
   | [],_,h=>cases (show false=true from h)
   | [_],_,h=>cases (show false=true from h)
   | [_,_],[],h=>cases (show false=true from h)
   | [_,_],[_],h=>cases (show false=true from h)
   | [_,_],_::_::_::_,h=>cases (show false=true from h)
   | _::_::_::_,_,h=>cases (show false=true from h)
  | _=>cases (show false=true from h)
 | .tup es,X,e,g,h=>by
  replace h:=ag h
  obtain⟨q,w,h⟩:=h;obtain rfl:=mO w;obtain⟨h1,h2⟩:=ek.mp h;have p:=DA (j:=q.2.1) (pos:=q.2.2) (sounds es g h1) h2;exact⟨p,bc p rfl⟩
 | .lst es,X,e,g,h=>by
  replace h:=ag h
  obtain⟨q,w,h⟩:=h;obtain rfl:=pZ w
  replace h:=ek.mp h
  have p:=λ(pos:Pos)=>dA (λρ v hv=>by
   rw[ev,l0]at hv;obtain⟨vs,_,hv⟩:=hv;split at hv
   .cases hv;exact⟨_,rfl⟩
   .cases hv) (zg (pos:=pos) (sounds es g h.1) h.2)
  exact⟨p _,bc (p _) rfl⟩
 | .idx a i,X,e,g,h=>by
  replace h:=ag h
  obtain⟨q,w,h⟩:=h;obtain rfl:=pX w;simp only[n4]at h;have p:=DB (pos:=q.2.2) (am a g h.1.1).1 (am i g h.1.2).1 h.2;exact⟨p,bc p rfl⟩
 | .slice a lo hi,X,e,g,h=>by
  replace h:=ag h
  obtain⟨⟨v,l,u⟩,w,h⟩:=h;obtain⟨p2,pos,rfl⟩:=xz w;simp only[n4]at h;obtain⟨⟨h1,h2⟩,J⟩:=h;have bd:∀{b:ME}{o:Option Expr},(∀e,chk T b X.N X.env.scope e=true->PE X e (tE X.K cal b))->mQ (λe=>chk T b X.N X.env.scope e) (gP b) o=true->PO X o (tB1 X.K cal b):=λ{b o} hb h2=>by
   cases o with
   |none=>exact A3 h2
   |some l =>
    simp only[mQ,n4,F2]at h2;exact A4 (hb l h2.1) h2.2
  have p:=x0 (p2:=p2) (pos:=pos) (am a g h1).1 (bd (λe he=>(am lo g he).1) h2) (bd (λe he=>(am hi g he).1) J);exact⟨p,bc p rfl⟩
 | .blt b es,X,e,g,h=>by
  replace h:=ag h
  obtain⟨⟨x,args⟩,w,h⟩:=h;obtain⟨p,pos,rfl⟩:=cO w;simp only[n4,FW]at h;obtain⟨⟨hx,hg⟩,ha⟩:=h;have q:=(oB (p:=p) (pos:=pos) g hx hg ha (λxs U=>⟨sounds es g U,aY U⟩) (λm x hm hx=>match es,hm with|[m'],rfl=>(am m' g (b6 hx).1.1).1) (λa b x x' hm hx=>match es,hm with|[m1,m2],rfl=>⟨(am m1 g (b6 hx).1.1).1,(am m2 g (b6 (b6 hx).2).1.1).1⟩)).2;exact⟨q,bc q rfl⟩
 | .call f es,X,e,g,h=>by
  replace h:=ag h
  obtain⟨⟨x,args⟩,w,h⟩:=h;obtain⟨p,pos,rfl⟩:=cO w;simp only[n4,FW]at h;obtain⟨⟨⟨h1,h2⟩,J⟩,Y⟩:=h;obtain⟨hs,hl⟩:=aY Y;have q:=A6 (p:=p) (pos:=pos) g h1 h2 J (soundA es g Y) hs hl;exact⟨q,bc q rfl⟩
 | .callD _ _ _,X,e,g,h=>absurd (show false=true from h) ow
 | .join x m,X,e,g,h=>by
  obtain⟨q,e1,h⟩:=ag (show onQ (uX e) (λq=>q.1==x&&q.2.1==("join":Str)&&chk T m X.N X.env.scope q.2.2.1&&ac q.2.2.1&&q.2.2.2.1.endLine==q.2.2.2.2.line)=true from h);obtain⟨y,md,a,ap,cp⟩:=q;obtain⟨j,p,rfl⟩:=uY e1;obtain⟨a1,Z⟩:=ek.mp h;obtain⟨a2,Y⟩:=ek.mp a1;obtain⟨a3,J⟩:=ek.mp a2;obtain⟨h1,h2⟩:=ek.mp a3;obtain rfl:y=x:=eq_of_beq h1;obtain rfl:md=("join":Str):=eq_of_beq h2;have q:PE X (.Call (.Attribute (.Constant (.str y) j p) "join" ap) [a] [] cp) (tE X.K cal (.join y m)):=Ba (am m g J).1 Y Z;exact⟨q,bc q rfl⟩
 | .cdat x m,X,e,g,h=>by
  obtain⟨q,e1,h⟩:=ag (show onQ (uZ e) (λq=>q.1==x&&glB X.env.scope q.1&&aj q.1&&chk T m X.N X.env.scope q.2&&eZ q.2&&fm.any λt=>t.1==x)=true from h);obtain⟨y,a⟩:=q;obtain⟨p,pos,rfl⟩:=u0 e1;obtain⟨a0,h6⟩:=ek.mp h;obtain⟨a1,Z⟩:=ek.mp a0;obtain⟨a2,Y⟩:=ek.mp a1;obtain⟨a3,J⟩:=ek.mp a2;obtain⟨h1,h2⟩:=ek.mp a3;obtain rfl:y=x:=eq_of_beq h1;have q:PE X (.Subscript (.Name y p) a pos) (tE X.K cal (.cdat y m)):=Bb g h2 J h6 (am m g Y).1 (by intro ov iv;cases a<;>first|rfl|(cases Z;done));exact⟨q,bc q rfl⟩
 | .comp2 src js cond elt,X,e,g,h=>by
  obtain⟨z,e1,h⟩:=ag (show onQ (p_ e) (λq=>e_ X.env.scope X.N q.2.2.2.1 q.2.2.2.2.1 q.2.2.2.2.2 (aB X.N js) js&&kA X.env.scope true (λxs=>chks T src X.N X.env.scope xs) sk2 q.2.1&&jh (λc=>chk T cond (q.2.2.2.2.1::([q.2.2.2.2.2]++aB X.N js)) (d6 q.2.2.2.1 X.env.scope) c) cond q.2.2.1&&chk T elt (q.2.2.2.2.1::([q.2.2.2.2.2]++aB X.N js)) (d6 q.2.2.2.1 X.env.scope) q.1&&!aw elt)=true from h);obtain⟨px,py,j,tp,pos,rfl⟩:=sy e1;obtain⟨a1,Z⟩:=ek.mp h;obtain⟨a2,Y⟩:=ek.mp a1;obtain⟨a3,J⟩:=ek.mp a2;obtain⟨h1,h2⟩:=ek.mp a3;have Z:aw elt=false:=by simpa using Z
  have hw:=gT (tg:=.Tuple [.Name z.2.2.2.2.1 px,.Name z.2.2.2.2.2 py] j tp) (λ_=>⟨_,_,_,rfl⟩) g h2 (λxs U=>⟨sounds src g U,aY U⟩) (λm x hm hx=>match src,hm with|[m'],rfl=>(am m' g (b6 hx).1.1).1);have q:=dA sI (xX (pos:=pos) g h1 (λD G C fp=>Bd g h1) hw.1 hw.2 (λD G C fp=>i4 J λc hc=>(am cond (g.blk z.2.2.2.2.1 ([z.2.2.2.2.2]++aB X.N js) z.2.2.2.1 D G C fp) hc).2) (λD G C fp=>(am elt (g.blk z.2.2.2.2.1 ([z.2.2.2.2.2]++aB X.N js) z.2.2.2.1 D G C fp) Y).1) Z);exact⟨q,bc q rfl⟩
 | .lenP i,X,e,g,h=>by
  replace h:=ag h
  obtain⟨⟨x,y⟩,w,h⟩:=h;obtain⟨p,yp,pos,rfl⟩:=xB w;simp only[n4,FW]at h;obtain⟨⟨rfl,h2⟩,J⟩:=h;have q:PE X (.Call (.Name ("len":Str) p) [.Name y yp] [] pos) (tE X.K cal (.lenP i)):=Bc g h2 J;exact⟨q,bc q rfl⟩
 | .dIn _ _ _,X,e,g,h=>absurd (show false=true from h) ow
 | .dat _ _,X,e,g,h=>absurd (show false=true from h) ow
 | .dget _ _ _,X,e,g,h=>absurd (show false=true from h) ow
 | .comp k' src js cond elt,X,e,g,h=>by
  replace h:=iW h
  obtain⟨e,x,px,it,ifs,scope,pos,rfl,h⟩:=h;simp only[n4,F2]at h;obtain⟨⟨⟨⟨h1,h2⟩,J⟩,Y⟩,Z⟩:=h;have hw:=gT (tg:=.Name x px) (λz=>by cases z) g h2 (λxs U=>⟨sounds src g U,aY U⟩) (λm x hm hx=>match src,hm with|[m'],rfl=>(am m' g (b6 hx).1.1).1);have q:=dA oA (qd (pos:=pos) g h1 hw.1 hw.2 (λD G C fp=>i4 J λc hc=>(am cond (g.blk x (aB X.N js) scope D G C fp) hc).2) (λD G C fp=>(am elt (g.blk x (aB X.N js) scope D G C fp) Y).1) Z);exact⟨q,bc q rfl⟩
theorem sounds{T:Tab}{k:Nat}{cal:Cal}:∀(ms:List ME) {X:Cx}{es:List Expr},Gf X T k cal->chks T ms X.N X.env.scope es=true->PA X es (tEs X.K cal ms)
 | [],X,es,g,h=>by
  cases es with
  |nil=>exact xY
  |cons _ _=>cases h
 |m::ms,X,es,g,h=>by
  cases es with
  |nil=>cases h
  |cons e es =>
   replace h:=b6 h
   exact vg (am m g h.1.1).1 (sounds ms g h.2) h.1.2
theorem soundA{T:Tab}{k:Nat}{cal:Cal}:∀(ms:List ME) {X:Cx}{es:List Expr},Gf X T k cal->chks T ms X.N X.env.scope es=true->PA X es (tAs X.K cal ms)
 | [],X,es,g,h=>by
  cases es with
  |nil=>exact vh
  |cons _ _=>cases h
 |m::ms,X,es,g,h=>by
  cases es with
  |nil=>cases h
  |cons e es =>
   replace h:=b6 h
   have hs:=soundA ms g h.2;cases z:aw m with
   |false=>exact sH z (am m g h.1.1).1 hs h.1.2
   |true =>
    obtain⟨i,rfl⟩:=mR z;obtain⟨x,p,rfl,h1⟩:=jD h.1.1;exact vj h1 hs
end
def Be(g:Gf X T k cal)(h:chk T Y X.N X.env.scope e=true)(hf:fR Y=true):PE X e (tF X.K cal Y):=by
 cases Y with
 |lst es =>
  replace h:=ag h
  obtain⟨q,w,h⟩:=h;obtain rfl:=pZ w
  replace h:=ek.mp h
  exact zg (sounds es g h.1) h.2
 |blt b es =>
  replace h:=ag h
  obtain⟨⟨x,args⟩,w,h⟩:=h;obtain⟨p,pos,rfl⟩:=cO w;simp only[n4,FW]at h;obtain⟨⟨hx,hg⟩,ha⟩:=h;exact(oB (p:=p) (pos:=pos) g hx hg ha (λxs D=>⟨sounds es g D,aY D⟩) (λm x U hx=>match es,U with|[Z],rfl=>(am Z g (b6 hx).1.1).1) (λa b x x' U hx=>match es,U with|[m1,m2],rfl=>⟨(am m1 g (b6 hx).1.1).1,(am m2 g (b6 (b6 hx).2).1.1).1⟩)).1 hf
 |comp k' src js cond elt =>
  replace h:=iW h
  obtain⟨e,x,px,it,ifs,scope,pos,rfl,h⟩:=h;simp only[n4,F2]at h;obtain⟨⟨⟨⟨h1,h2⟩,h3⟩,h4⟩,h5⟩:=h;have hw:=gT (tg:=.Name x px) (λz=>by cases z) g h2 (λxs D=>⟨sounds src g D,aY D⟩) (λm x U hx=>match src,U with|[Z],rfl=>(am Z g (b6 hx).1.1).1);exact qd (pos:=pos) g h1 hw.1 hw.2 (λG J C fp=>i4 h3 λc hc=>(am cond (g.blk x (aB X.N js) scope G J C fp) hc).2) (λG J C fp=>(am elt (g.blk x (aB X.N js) scope G J C fp) h4).1) h5
 | _=>cases hf
def Bf{T:Tab}{k:Nat}{cal:Cal}{z:ME}{X:Cx}{e:Expr}(g:Gf X T k cal)(h:chk T z X.N X.env.scope e=true)(D:AF z=true):PE X e (tF X.K cal z):=by
 cases z with
 |bin op a b =>
  cases op with
  |add =>
   replace h:=ag h
   obtain⟨⟨l,o,r,pos⟩,w,h⟩:=h;obtain rfl:=mK w;simp only[n4,FW]at h;obtain⟨⟨h1,h2⟩,G⟩:=h;subst h1;exact Dr (am a g h2).1 (am b g G).1
  | _=>cases D
 | _=>cases D
noncomputable def DE:MV->Bool
 | .brw _=>true
 | .brwD _=>true
 | _=>false
def rf(h1:fP m=true)(h2:DE m=true):False:=by cases m<;>first|(cases h2;done)|(cases h1;done)
structure aW(B:Hp)(O O':List Addr)(ρ E:Rho)(σ M:St):Prop where
 stay:∀a,B a≠none->a∈O->a∈O'
 new:∀a∈O',a∈O\/B a=none
 brw:∀(i:Nat) (m:MV),DE m=true->E[i]?=some (some m)->ρ[i]?=some (some m)/\M[i]?=σ[i]?
 len:E.length=ρ.length
 mutK:∀(i:Nat) (d':DD),E[i]?=some (some (.mutD d'))->(∃d,ρ[i]?=some (some (.mutD d)))/\M[i]?=σ[i]?
def aW.refl :aW B O O ρ ρ σ σ:=⟨λ_ _ h=>h,λ_ h=>.inl h,λ_ _ _ h=>⟨h,rfl⟩,rfl,λ_ d' h=>⟨⟨d',h⟩,rfl⟩⟩
theorem aW.trans(a:aW B O O1 ρ z σ D)(b:aW B O1 O2 z G D J):aW B O O2 ρ G σ J where
 stay:=λx h1 h2=>b.stay x h1 (a.stay x h1 h2)
 new:=λx h=>(b.new x h).elim (a.new x) .inr
 brw:=λi xs Z h=>by
  obtain⟨h1,U⟩:=b.brw i xs Z h;obtain⟨h2,Y⟩:=a.brw i xs Z h1;exact⟨h2,U.trans Y⟩
 len:=b.len.trans a.len
 mutK:=λi d' h=>by
  obtain⟨⟨d1,h1⟩,U⟩:=b.mutK i d' h;obtain⟨h2,Y⟩:=a.mutK i d1 h1;exact⟨h2,U.trans Y⟩
def dU(K:IF)(B:Hp)(A O:List Addr)(ρ:Rho)(σ:St)(D:nt):R->Prop
 | .next E=>∀M H' z,ar K B A z H' E M->aW B O z ρ E σ M->D.nx M H'
 | .brk E=>∀M H' z,ar K B A z H' E M->aW B O z ρ E σ M->D.bk M H'
 | .cont E=>∀M H' z,ar K B A z H' E M->aW B O z ρ E σ M->D.ct M H'
 | .ret v=>∀u H',ae B H'->Rep K (al H' A) v u->D.rt u H'
 | .retM v E=>∀u M H' z,ar K B A z H' E M->aW B O z ρ E σ M->Rep K (al H' z) v u->D.rt u H'
 | .retF xs=>∀p us H',ae B H'->B p=none->H' p=some (.lst us)->Reps K (al H' (p::A)) xs us->D.rt (.ref p) H'
 | .bad=>False
theorem dU.trans{K:IF}(h:dU K B A O ρ σ D r)(k:aW B O J ρ E σ M):dU K B A J E M D r:=by
 cases r<;>first|exact λz H2 G st k2=>h z H2 G st (k.trans k2)|exact h|exact λu z H2 G st k2=>h u z H2 G st (k.trans k2)
noncomputable def tS(K:IF)(cal:Cal)(m:MS):TS:=λD σ H=>∃B A O ρ,ar K B A O H ρ σ/\dU K B A O ρ σ D (ex cal m ρ)
noncomputable def tSs(K:IF)(cal:Cal)(ms:List MS):TS:=λD σ H=>∃B A O ρ,ar K B A O H ρ σ/\dU K B A O ρ σ D (exs cal ms ρ)
section
variable{K:IF}{B H H':Hp}{A O:List Addr}{ρ:Rho}{σ:St}
def ak(h:i<ρ.length):(put ρ i m)[i]?=some (some m):=by unfold put;exact Gu h
def af(h:i≠j):(put ρ i m)[j]?=ρ[j]?:=by unfold put;exact F1 h
def cR :(put ρ i m).length=ρ.length:=by unfold put;exact GK
def ar.store(st:ar K B A O H ρ σ){i:Nat}{v:PV}{u:V}(hi:i<σ.length)(r:Rep K (al H O) v u):ar K B A O H (put ρ i (.val v)) (σ.set i (some u))/\aW B O O ρ (put ρ i (.val v)) σ (σ.set i (some u)):=by
 have D:i<ρ.length:=by rw[st.len];exact hi
 refine⟨⟨st.keep,st.here,st.sub,st.old,by rw[cR,GK];exact st.len,λj m e=>?_,λa b xs ys ad Y J U o1 o2 e3 e4=>?_
  ⟩,⟨λ_ _ h=>h,λ_ h=>.inl h,λj xs Z e=>?_,cR
  ,λj d' e=>?_
  ⟩⟩
 .by_cases G:i=j
  .subst G;rw[ak D]at e;cases e;exact⟨u,Gu hi,r⟩
  .rw[af G]at e;obtain⟨w,J,q⟩:=st.slot j m e;exact⟨w,by rw[F1 G];exact J,q⟩
 .have h1:i≠a:=λz=>by subst z;rw[ak D]at J;cases J;cases o1
  have h2:i≠b:=λz=>by subst z;rw[ak D]at U;cases U;cases o2
  rw[af h1]at J;rw[af h2]at U;rw[F1 h1]at e3;rw[F1 h2]at e4;exact st.apart a b xs ys ad Y J U o1 o2 e3 e4
 .have G:i≠j:=λz=>by subst z;rw[ak D]at e;cases e;cases Z
  rw[af G]at e;exact⟨e,F1 G⟩
 .have G:i≠j:=λz=>by subst z;rw[ak D]at e;cases e
  rw[af G]at e;exact⟨⟨d',e⟩,F1 G⟩
def ar.storeM(st:ar K B A O H ρ σ){i:Nat}{mm:MV}{p:Addr}(hi:i<σ.length)(s:ae H H')(hp:H p=none)(e:H' p≠none)(hm:fP mm=true)
  (a7:∀d,mm≠.mutD d)
  (r:B p=none->dO K B (p::O) H' mm (.ref p))
  :
  ar K B A (p::O) H' (put ρ i mm) (σ.set i (some (.ref p)))/\aW B O (p::O) ρ (put ρ i mm) σ (σ.set i (some (.ref p))):=by
 have ap:i<ρ.length:=by rw[st.len];exact hi
 have a3:B p=none:=st.keep.free hp;have U:ae (al H O) (al H' (p::O)):=bi s λb Y=>by
  rcases y1.mp Y with rfl|Y
  .exact .inr hp
  .exact .inl Y
 refine⟨⟨st.keep.trans s,λa G=>?_,λa G=>Gp _ (st.sub a G),st.old,by rw[cR,GK];exact st.len,λj m J=>?_,λa b xs ys ad a4 Z D o1 o2 e3 e4=>?_
  ⟩,⟨λ_ _ h=>Gp _ h,λa G=>?_,λj xs be J=>?_,cR
  ,λj d' J=>?_
  ⟩⟩
 .rcases y1.mp G with rfl|G
  .exact e
  .exact λz=>st.here a G (s.free z)
 .by_cases hj:i=j
  .subst hj;rw[ak ap]at J;cases J;exact⟨_,Gu hi,r a3⟩
  .rw[af hj]at J;obtain⟨w,Z,q⟩:=st.slot j m J;refine⟨w,by rw[F1 hj];exact Z,?_⟩;cases m with
   |val v=>exact Rep.mono U _ q
   |own ys=>obtain⟨a,ws,D,h1,h2,h3,h4⟩:=q;exact⟨a,ws,D,s _ _ h1,Reps.mono U _ h2,Gp _ h3,h4⟩
   |brw ys=>obtain⟨a,ws,D,h1,h2⟩:=q;exact⟨a,ws,D,h1,Reps.mono U _ h2⟩
   |ownD ys=>obtain⟨a,D,h1,h3,h4⟩:=q;exact⟨a,D,h1.move (s _) U,Gp _ h3,h4⟩
   |mutD ys=>obtain⟨a,D,h1,h3,h4⟩:=q;exact⟨a,D,h1.move (s _) U,Gp _ h3,h4⟩
   |brwD ys=>exact q
 .have other:∀(j:Nat) (zs:MV) (ad:Addr),ρ[j]?=some (some zs)->fP zs=true->σ[j]?=some (some (.ref ad))->ad≠p:=λj zs ad h1 ho h2 z=>by
   obtain⟨w,Z,q⟩:=st.slot j _ h1;rw[h2]at Z;cases Z;cases zs with
   |own zs =>
    obtain⟨a,ws,D,h1,_⟩:=q;cases D;rw[z,hp]at h1;cases h1
   |ownD zs =>
    obtain⟨a,D,h1,_⟩:=q;cases D;obtain⟨o,h1⟩:=h1.here;rw[z,hp]at h1;cases h1
   |mutD zs =>
    obtain⟨a,D,h1,_⟩:=q;cases D;obtain⟨o,h1⟩:=h1.here;rw[z,hp]at h1;cases h1
   |val _=>cases ho
   |brw _=>cases ho
   |brwD _=>cases ho
  by_cases G:i=a
  .subst G;have Y:i≠b:=a4;rw[Gu hi]at e3;rw[af Y]at D;rw[F1 Y]at e4;cases e3;exact other b ys _ D o2 e4 rfl
  .by_cases Y:i=b
   .subst Y;rw[Gu hi]at e4;rw[af G]at Z;rw[F1 G]at e3;cases e4;exact other a xs _ Z o1 e3 rfl
   .rw[af G]at Z;rw[af Y]at D;rw[F1 G]at e3;rw[F1 Y]at e4;exact st.apart a b _ _ ad a4 Z D o1 o2 e3 e4
 .rcases y1.mp G with rfl|G
  .exact .inr a3
  .exact .inl G
 .have hj:i≠j:=λz=>by subst z;rw[ak ap]at J;cases J;exact rf hm be
  rw[af hj]at J;exact⟨J,F1 hj⟩
 .have hj:i≠j:=λz=>by subst z;rw[ak ap]at J;cases J;exact a7 d' rfl
  rw[af hj]at J;exact⟨⟨d',J⟩,F1 hj⟩
def ar.storeOwn(st:ar K B A O H ρ σ)(hi:i<σ.length)(s:ae H H')(D:H p=none)(e:H' p=some (.lst us))(r:Reps K (al H' (p::O)) xs us) :
  ar K B A (p::O) H' (put ρ i (.own xs)) (σ.set i (some (.ref p)))/\aW B O (p::O) ρ (put ρ i (.own xs)) σ (σ.set i (some (.ref p))):=
 st.storeM hi s D (by rw[e];simp) rfl (λ_ z=>by cases z) λG=>⟨p,us,rfl,e,r,GG,G⟩
def ar.changeM(st:ar K B A O H ρ σ){i:Nat}{m0 m1:MV}{a:Addr}{ob:HO}(e:ρ[i]?=some (some m0))(o0:fP m0=true)(o1:fP m1=true)
  (om:∀d',m1=.mutD d'->∃d,m0=.mutD d)
  (es:σ[i]?=some (some (.ref a))) (h3:a∈O) (h4:B a=none) (r:al (upd H a ob) O=al H O->dO K B O (upd H a ob) m1 (.ref a))
  :
  ar K B A O (upd H a ob) (put ρ i m1) σ/\aW B O O ρ (put ρ i m1) σ σ:=by
 have Y:i<ρ.length:=(D2.mp e).1;have J:al (upd H a ob) O=al H O:=dS h3;have other:∀(j:Nat) (zs:MV) (ad:Addr),i≠j->ρ[j]?=some (some zs)->fP zs=true->σ[j]?=some (some (.ref ad))->ad≠a:=λj zs ad G U o2 Z z=>by
  subst z;exact st.apart i j m0 zs ad G e U o0 o2 es Z
 refine⟨⟨λb u eb=>?_,λb hb=>?_,st.sub,st.old,by rw[cR];exact st.len,λj m D=>?_,λc d ps qs ad a4 e1 e2 p1 p2 e3 e4=>?_
  ⟩,⟨λ_ _ h=>h,λ_ h=>.inl h,λj zs a7 D=>?_,cR
  ,λj d' D=>?_
  ⟩⟩
 .rw[az (a8 eb h4)];exact st.keep b u eb
 .unfold upd;split
  .simp
  .exact st.here b hb
 .by_cases G:i=j
  .subst G;rw[ak Y]at D;cases D;exact⟨_,es,r J⟩
  .rw[af G]at D;obtain⟨w,ew,q⟩:=st.slot j m D;refine⟨w,ew,?_⟩;cases m with
   |val v=>show Rep K (al (upd H a ob) O) v w;rw[J];exact q
   |own zs =>
    obtain⟨ad,ws,rfl,U,Z,q3,q4⟩:=q;refine⟨ad,ws,rfl,?_,by rw[J];exact Z,q3,q4⟩;rw[az (other j (.own zs) ad G D rfl ew)];exact U
   |ownD zs =>
    obtain⟨ad,rfl,U,q3,q4⟩:=q;refine⟨ad,rfl,U.move (λo eo=>?_) (by rw[J];exact ae.refl _),q3,q4⟩;rw[az (other j (.ownD zs) ad G D rfl ew)];exact eo
   |mutD zs =>
    obtain⟨ad,rfl,U,q3,q4⟩:=q;refine⟨ad,rfl,U.move (λo eo=>?_) (by rw[J];exact ae.refl _),q3,q4⟩;rw[az (other j (.mutD zs) ad G D rfl ew)];exact eo
   |brwD zs=>exact q
   |brw zs=>obtain⟨ad,ws,rfl,U,Z⟩:=q;exact⟨ad,ws,rfl,U,by rw[J];exact Z⟩
 .have h1:∀(j:Nat) (zs:MV),(put ρ i m1)[j]?=some (some zs)->fP zs=true->∃zs,ρ[j]?=some (some zs)/\fP zs=true:=λj zs q oz=>by
   by_cases G:i=j
   .subst G;exact⟨m0,e,o0⟩
   .rw[af G]at q;exact⟨zs,q,oz⟩
  obtain⟨U,e1,p1⟩:=h1 c ps e1 p1;obtain⟨Z,e2,p2⟩:=h1 d qs e2 p2;exact st.apart c d U Z ad a4 e1 e2 p1 p2 e3 e4
 .have G:i≠j:=λz=>by subst z;rw[ak Y]at D;cases D;exact rf o1 a7
  rw[af G]at D;exact⟨D,rfl⟩
 .by_cases G:i=j
  .subst G;rw[ak Y]at D;cases D;obtain⟨d,rfl⟩:=om d' rfl;exact⟨⟨d,e⟩,rfl⟩
  .rw[af G]at D;exact⟨⟨d',D⟩,rfl⟩
def ar.change(st:ar K B A O H ρ σ)(e:ρ[i]?=some (some (.own xs)))(es:σ[i]?=some (some (.ref a)))(r:Reps K (al H O) ys us) :
  ar K B A O (upd H a (.lst us)) (put ρ i (.own ys)) σ/\aW B O O ρ (put ρ i (.own ys)) σ σ:=by
 refine bq λZq Y=>?_
 obtain⟨w,G,a',Z,e2,h1,h2,J,U⟩:=st.slot i _ e;rw[es]at G;cases G;cases e2;refine Y ?_;exact st.changeM e rfl rfl (λ_ z=>by cases z) es J U λD=>⟨a,us,rfl,aq,by rw[D];exact r,J,U⟩
def ar.changeD(st:ar K B A O H ρ σ)(e:ρ[i]?=some (some (.ownD xs)))(es:σ[i]?=some (some (.ref a)))(hd:al (upd H a G) O=al H O->DAt K (upd H a G) O a ys) :
  ar K B A O (upd H a G) (put ρ i (.ownD ys)) σ/\aW B O O ρ (put ρ i (.ownD ys)) σ σ:=by
 refine bq λZq Z=>?_
 obtain⟨w,J,a',e2,h1,U,Y⟩:=st.slot i _ e;rw[es]at J;cases J;cases e2;refine Z ?_;exact st.changeM e rfl rfl (λ_ z=>by cases z) es U Y λD=>⟨a,rfl,hd D,U,Y⟩
def ar.changeU(st:ar K B A O H ρ σ)(e:ρ[i]?=some (some (.mutD xs)))(es:σ[i]?=some (some (.ref a)))(hd:al (upd H a D) O=al H O->DAt K (upd H a D) O a ys) :
  ar K B A O (upd H a D) (put ρ i (.mutD ys)) σ/\aW B O O ρ (put ρ i (.mutD ys)) σ σ:=by
 refine bq λZq Y=>?_
 obtain⟨w,G,a',Z,h1,J,U⟩:=st.slot i _ e;rw[es]at G;cases G;cases Z;refine Y ?_;exact st.changeM e rfl rfl (λ_ _=>⟨_,rfl⟩) es J U λz=>⟨a,rfl,hd z,J,U⟩
end
section
open AutoSeq1 (wpAny_loadPart')
open MeetsSeq MeetsSeq2 MeetsSeq3 SeqRoads2 AutoSeq1
def m4(l)(items)(n)(b)(z)(Y)(D)(G)(Z:¬(!items.isEmpty&&Builtin.List.listTooLong (items.size+z.size))=true)(J:items.size<=sizeLine)(ao:items.size+z.size<=sizeLine+1) :
  Meets (Builtin.«list.extend» ⟨[.ref l,.ref b],[]⟩) (λ_ R s=>s.heap.get? l=some { cls:=.type "list",dict:=none,data:=.seq items n,slots:=#[] }/\s.heap.get? b=some { cls:=.type "tuple",dict:=D,data:=.seq z Y,slots:=G }/\R (.ok (.ret Value.none)) { s with heap:=s.heap.update l (Obj.mapSeq λx=>x++z),toks:=s.toks }):=
 .of_wp λprog w A R s h=>by
  obtain⟨hp,g,d,tk,os⟩:=s;obtain⟨U,hb,h⟩:=h;have f1:=AutoSeq1.idx_int;have f2:=AutoSeq1.sub_tuple_tuple;have f3:=AutoSeq1.sub_list_list;have f4:=AutoSeq1.sub_tuple_list;have f5:=AutoSeq1.sub_list_tuple;
  wp_walk using (wpAny_updateSeq U rfl (hz:=J)),wpAny_loadPart' U,wpAny_loadPart' hb;exact⟨_,rfl,h⟩
def m5(l)(items)(n)(b)(z)(Y)(D)(G)(Z:¬(!items.isEmpty&&Builtin.List.listTooLong (items.size+z.size))=true)(J:items.size<=sizeLine)(ao:items.size+z.size<=sizeLine+1) :
  Meets (Builtin.«list.extend» ⟨[.ref l,.ref b],[]⟩) (λ_ R s=>s.heap.get? l=some { cls:=.type "list",dict:=none,data:=.seq items n,slots:=#[] }/\s.heap.get? b=some { cls:=.type "list",dict:=D,data:=.seq z Y,slots:=G }/\R (.ok (.ret Value.none)) { s with heap:=s.heap.update l (Obj.mapSeq λx=>x++z),toks:=s.toks }):=
 .of_wp λprog w A R s h=>by
  obtain⟨hp,g,d,tk,os⟩:=s;obtain⟨U,hb,h⟩:=h;have f1:=AutoSeq1.idx_int;have f2:=AutoSeq1.sub_tuple_tuple;have f3:=AutoSeq1.sub_list_list;have f4:=AutoSeq1.sub_tuple_list;have f5:=AutoSeq1.sub_list_tuple;
  wp_walk using (wpAny_updateSeq U rfl (hz:=J)),wpAny_loadPart' U,wpAny_loadPart' hb;exact⟨_,rfl,h⟩
end
section
variable{X:Cx}{T:Tab}{k:Nat}{cal:Cal}
def qg:MtM X "list.extend" (λx vs H Q=>∃l b xs zs,x=.ref l/\vs=[.ref b]/\H l=some (.lst xs)/\(SqL X.K H b zs\/SqT X.K H b zs)/\xs.length+zs.length<=sizeLine/\Q .non (upd H l (.lst (xs++zs)))):=by
 intro pins s σ H x vs v us Q I rx rv h;refine bq λZq kq=>?_
 obtain⟨l,b,xs,zs,rfl,rfl,hH,Y,hz,q⟩:=h;cases rx;obtain⟨u,rfl,ru⟩:=rv.one;cases ru;obtain⟨z,its,n,r,hl,e⟩:=I.lstM hH;have fin:∀D,aA zs D->EP X pins σ Q .none { s with heap:=s.heap.update l (Obj.mapSeq λx=>x++D.toArray),toks:=s.toks }:=λD J =>
  ⟨.non,_,I.lset (its':=its++D) hH e (by simp) (r.append J) (by rw[FZ];omega),rfl,q⟩
 refine kq ?_;rcases Y with Y|Y
 .obtain⟨D,J,pl,z2⟩:=I.list Y;have Z:=J.length;have U:its.toArray.size+D.toArray.size<=sizeLine:=by rw[u3,u3];omega
  have G:¬ (!its.toArray.isEmpty&&Builtin.List.listTooLong (its.toArray.size+D.toArray.size))=true:=by
   rw[nG U,Bool.and_false];exact ow
  obtain⟨⟨cls,dd,data,sl⟩,ho,hc,n2,hd⟩:=pl.isList;simp only at hc hd;subst hc hd;exact Hn PySem.F.slot_list_extend ⟨_,e,rfl⟩ PySem.F.entry_list_extend (PySem.F.args_list_extend_2 _ _) (m5 l its.toArray n b D.toArray n2 dd sl G (by rw[u3];omega) (by omega)) ⟨e,ho,fin D J⟩
 .obtain⟨D,J,pl,z2⟩:=I.tuple Y;have Z:=J.length;have U:its.toArray.size+D.toArray.size<=sizeLine:=by rw[u3,u3];omega
  have G:¬ (!its.toArray.isEmpty&&Builtin.List.listTooLong (its.toArray.size+D.toArray.size))=true:=by
   rw[nG U,Bool.and_false];exact ow
  obtain⟨⟨cls,dd,data,sl⟩,ho,hc,n2,hd⟩:=pl;simp only at hc hd;subst hc hd;exact Hn PySem.F.slot_list_extend ⟨_,e,rfl⟩ PySem.F.entry_list_extend (PySem.F.args_list_extend_2 _ _) (m4 l its.toArray n b D.toArray n2 dd sl G (by rw[u3];omega) (by omega)) ⟨e,ho,fin D J⟩
structure Df(X:Cx):Prop where
 nd:X.N.Nodup
 fn:∀x,X.fn x=true
 own:PassesOwn (model X.prog X.w) X.A X.env X.xe
 blk:(X.env.blockKind==.function)=true
 stk:X.stack=X.env::X.outer/\X.env.frame=some X.env.locals
 exn:X.ex=[]
def cG(h:bC v=true)(t)(n)(env):swapsWith v t n env=pure false:=by
 cases v<;>first|rfl|(simp[bC]at h)
def sJ(d:Df X)(h:y6 X.env.scope x px v=true):swapsWith v (some (.Name x px)) n X.env=pure true:=by
 obtain⟨⟨e,gs,s,p⟩,w,h⟩:=ag h;obtain rfl:=mM w;show pure _=pure true;rw[d.blk,Bool.true_and];exact GL pure h
def PS.imp'(h:PS X e t)(i:∀D σ H,σ.length=X.N.length->t' D σ H->t D σ H):PS X e t':=λpins s σ H D I q=>h pins s σ H D I (i D σ H I.len q)
def ltN{N:List Str}{σ:St}(h:N[i]?=some x)(z:σ.length=N.length):i<σ.length:=by rw[z];exact(D2.mp h).1
def dC{K:IF}(h:dU K B A O ρ σ D (dq o f)):∃v,o=some v/\dU K B A O ρ σ D (f v):=by
 cases o with
 |none=>exact(show False from h).elim
 |some v=>exact⟨v,rfl,h⟩
def sK{K:IF}(h:dU K B A O ρ σ D (uP o f)):∃v,o=some v/\dU K B A O ρ σ D (f v):=by
 cases o with
 |none=>exact(show False from h).elim
 |some v=>exact⟨v,rfl,h⟩
def vo{K:IF}(hi:i<σ.length)(J:aw G=false)(q:tS K cal (.set i G) D σ H):rN (tE K cal G) (d_ i) D σ H:=by
 obtain⟨B,A,O,ρ,st,q⟩:=q;obtain⟨w,e,q⟩:=dC q;refine⟨B,A,O,ρ,w,st,e,λu H' s g=>?_⟩;obtain⟨z,U⟩:=(st.mono s).store hi (g.2 J);exact q _ H' O z U
def DF(d:Df X)(hi:X.N[i]?=some x)(hx:Loc X.env.scope x)(h:PE X v (tE X.K cal z))(G:aw z=false)(hc:bC v=true):PS X (.Assign [.Name x px] v pos) (tS X.K cal (.set i z)):=
 PS.imp' (gE d.nd hi hx h (cG hc _ _ _) (.inl (d.fn x))) λD σ H J q=>vo (ltN hi J) G q
def vp{K:IF}(hi:i<σ.length)(q:tS K cal (.setOwn i G) D σ H):rN (tF K cal G) (d_ i) D σ H:=by
 obtain⟨B,A,O,ρ,st,q⟩:=q;obtain⟨w,e,q⟩:=dC q;cases w with
 |lst xs =>
  refine⟨B,A,O,ρ,xs,st,e,λp us H' s J U r=>?_⟩;obtain⟨z,Y⟩:=st.storeOwn hi s J U r;exact q _ H' _ z Y
 | _=>exact(show False from q).elim
def zh(d:Df X)(hi:X.N[i]?=some x)(hx:Loc X.env.scope x)(h:PE X v (tF X.K cal z))(hc:bC v=true):PS X (.Assign [.Name x px] v pos) (tS X.K cal (.setOwn i z)):=
 PS.imp' (gE d.nd hi hx h (cG hc _ _ _) (.inl (d.fn x))) λD σ H G q=>vp (ltN hi G) q
def vq(h:PE X v (tE X.K cal U))(hn:aR X.N X.env.scope i x=true)(hb:aw U=false)(hs:ac v=true)(z:(apos.endLine==cpos.line)=true) :
  PS X (.Expr (.Call (.Attribute (.Name x p) "append" apos) [v] [] cpos) pos) (tS X.K cal (.append i U)):=by
 refine(mv (nF PySem.F.plainAttrs_list PySem.F.slot_list_append PySem.F.type_list_append gc (bK hn) (aI h bn (aP hs _ _)) rfl (by rw[aP hs];rfl) z (aP hs _ _) rfl) rfl).imp λD σ H q=>?_
 obtain⟨B,A,O,ρ,st,q⟩:=q;obtain⟨w,e,q⟩:=dC q;cases G:(ρ[i]?).join with
 |none=>rw[G]at q;exact(show False from q).elim
 |some m =>
  rw[G]at q;cases m with
  |own xs =>
   dsimp only at q;split at q
   .rename_i hl;obtain⟨u,Y,a,us,rfl,Z,rs,hO,hB⟩:=aT st G;refine⟨_,Y,.inl ⟨rfl,us,SqL.of Z⟩,B,A,O,ρ,w,st,e,λu H1 s g=>⟨a,us,u,rfl,rfl,s _ _ Z,?_,?_⟩⟩
    .rw[<- rs.length];exact FU hl (by decide)
    .obtain⟨J,k'⟩:=(st.mono s).change (av G) Y ((Reps.mono (ah s) _ rs).snoc (g.2 hb));exact q _ _ _ J k'
   .exact(show False from q).elim
  | _=>exact(show False from q).elim
def vt(h:PE X v (tE X.K cal me))(hn:aR X.N X.env.scope i x=true)(hs:ac v=true)(z:(apos.endLine==cpos.line)=true) :
  PS X (.Expr (.Call (.Attribute (.Name x p) "extend" apos) [v] [] cpos) pos) (tS X.K cal (.extend i me)):=by
 refine(mv (nF PySem.F.plainAttrs_list PySem.F.slot_list_extend PySem.F.type_list_extend qg (bK hn) (aI h bn (aP hs _ _)) rfl (by rw[aP hs];rfl) z (aP hs _ _) rfl) rfl).imp λD σ H q=>?_
 refine bq λZq U=>?_
 obtain⟨B,A,O,ρ,st,q⟩:=q;rw[ex]at q;obtain⟨w,e,q⟩:=dC q;refine U ?_;cases J:(ρ[i]?).join with
 |none=>rw[J]at q;exact(show False from q).elim
 |some m =>
  rw[J]at q;cases m with
  |own xs =>
   cases hw:bE w with
   |none=>rw[hw]at q;exact(show False from q).elim
   |some ys =>
    rw[hw]at q;dsimp only at q;split at q
    .refine bq λZq U=>?_
     rename_i hl;obtain⟨u,Z,a,us,rfl,ha,rs,hO,hB⟩:=aT st J;refine U ?_;refine⟨_,Z,.inl ⟨rfl,us,SqL.of ha⟩,B,A,O,ρ,w,st,e,λu H1 s g=>?_⟩;obtain⟨b,ws,rfl,sq,G⟩:=g.1.seq hw;refine⟨a,b,us,ws,rfl,rfl,s _ _ ha,sq,?_,?_⟩
     .rw[<- rs.length,<- G.length];exact cb hl
     .obtain⟨Y,k'⟩:=(st.mono s).change (av J) Z ((Reps.mono (ah s) _ rs).append G);exact q _ _ _ Y k'
    .exact(show False from q).elim
  | _=>exact(show False from q).elim
def DG(h:PE X v (tE X.K cal G))(z:aw G=false):PS X (.Return (some v) pos) (tS X.K cal (.ret G)):=by
 refine(gC h).imp λD σ H q=>?_
 obtain⟨B,A,O,ρ,st,q⟩:=q;obtain⟨w,e,q⟩:=dC q;exact⟨B,A,O,ρ,w,st,e,λu H' s g=>q u H' (st.keep.trans s) (Rep.mono (bi (ae.refl H') λb z=>.inl (st.sub b z)) _ (g.2 z))⟩
def Bg(h:PE X v (tE X.K cal z))(G:aw z=false):PS X (.Return (some v) pos) (tS X.K cal (.retM z)):=by
 refine(gC h).imp λD σ H q=>?_
 obtain⟨B,A,O,ρ,st,q⟩:=q;obtain⟨w,e,q⟩:=dC q;exact⟨B,A,O,ρ,w,st,e,λu H' s g=>q u σ H' O (st.mono s) .refl (g.2 G)⟩
def vv(hn:aR X.N X.env.scope i x=true):PS X (.Return (some (.Name x p)) pos) (tS X.K cal (.retOwn i)):=by
 refine(gC (bK hn)).imp λD σ H q=>?_
 obtain⟨B,A,O,ρ,st,q⟩:=q;rw[ex]at q;have G:=bi (ae.refl H) λb hb=>.inl (st.sub b hb)
 cases J:(ρ[i]?).join with
 |none=>rw[J]at q;exact(show False from q).elim
 |some m =>
  rw[J]at q;cases m with
  |val v =>
   obtain⟨u,U,so⟩:=aT st J;exact⟨_,U,q _ H st.keep (Rep.mono G _ so)⟩
  |own xs =>
   obtain⟨u,U,a,us,rfl,Y,rs,hO,Z⟩:=aT st J;refine⟨_,U,q _ H st.keep ?_⟩;rw[Rep];refine⟨a,us,rfl,SqL.of ?_,Reps.mono G _ rs⟩;rw[aG λz=>st.old a z Z];exact Y
  |ownD kvs =>
   dsimp only at q;split at q
   .rename_i np;obtain⟨u,U,a,rfl,Y,hO,Z⟩:=aT st J;refine⟨_,U,q _ H st.keep ?_⟩;rw[Rep];refine⟨a,rfl,.inl ?_,np⟩;rw[aG λz=>st.old a z Z];exact Y.np np
   .exact(show False from q).elim
  | _=>exact(show False from q).elim
def Ft(hc:PT X t (tT X.K cal c))(z:PSs X x (tSs X.K cal a))(G:PSs X y (tSs X.K cal b)):PS X (.If t x y pos) (tS X.K cal (.ite c a b)):=by
 refine(nu hc z G).imp λD σ H q=>?_
 obtain⟨B,A,O,ρ,st,q⟩:=q;obtain⟨w,e,q⟩:=sK q;refine⟨B,A,O,ρ,w,st,e,λH' s=>?_⟩;cases w<;>first|(rw[if_pos rfl]at q ⊢;exact⟨B,A,O,ρ,st.mono s,q⟩)|(rw[if_neg (by simp)]at q ⊢;exact⟨B,A,O,ρ,st.mono s,q⟩)
def Bh{st:Stmt}(h1:PS X st (tS X.K cal m))(h2:PSs X ss (tSs X.K cal ms)):PSs X (st::ss) (tSs X.K cal (m::ms)):=by
 refine(fH h1 h2).imp λD σ H q=>?_
 obtain⟨B,A,O,ρ,st,q⟩:=q;refine⟨B,A,O,ρ,st,?_⟩;rw[exs]at q;cases e:ex cal m ρ with
 |next E=>rw[e]at q;exact λM H' G z k=>⟨B,A,G,E,z,dU.trans q k⟩
 | _=>rw[e]at q;exact q
def DH:PSs X [] (tSs X.K cal []):=by
 refine gZ.imp λD σ H q=>?_
 obtain⟨B,A,O,ρ,st,q⟩:=q;exact q σ H O st .refl
end
inductive bX(σ:St)(ρ:Rho):List Bool->List ME->List MV->List V->List Addr->List Nat->Prop where
 | nil:bX σ ρ [] [] [] [] [] []
 | mutd {i:Nat}{d:DD}{a:Addr}{bs:List Bool}{es:List ME}{as:List MV}{vs:List V}{ms:List Addr}{is:List Nat} (hd:bo (ρ[i]?).join=some d) (hσ:σ[i]?=some (some (.ref a))) (hi:i∉is) (ha:a∉ms) (t:bX σ ρ bs es as vs ms is):bX σ ρ (true::bs) (.bor i::es) (.mutD d::as) (.ref a::vs) (a::ms) (i::is)
 | other {e:ME}{m:MV}{v:V}{bs:List Bool}{es:List ME}{as:List MV}{vs:List V}{ms:List Addr}{is:List Nat} (hm:∀d,m≠.mutD d) (t:bX σ ρ bs es as vs ms is):bX σ ρ (false::bs) (e::es) (m::as) (v::vs) ms is
def cT(h:bo o=some d):o=some (.ownD d)\/o=some (.mutD d):=by
 match o,h with
 |some (.ownD _),rfl=>exact .inl rfl
 |some (.mutD _),rfl=>exact .inr rfl
section
variable{σ:St}{ρ:Rho}{bs:List Bool}{es:List ME}{as:List MV}{vs:List V}{ms:List Addr}{is:List Nat}
def bX.addr(h:bX σ ρ bs es as vs ms is):∀a∈ms,∃j∈is,σ[j]?=some (some (.ref a))/\∃d,bo (ρ[j]?).join=some d:=by
 induction h with
 |nil=>intro a G;cases G
 |mutd hd z hi G t ih =>
  intro b D;rcases y1.mp D with rfl|D
  .exact⟨_,.head _,z,_,hd⟩
  .obtain⟨j,h1,h2⟩:=ih b D;exact⟨j,.tail _ h1,h2⟩
 |other hm t ih=>exact ih
theorem bX.put(h:bX σ ρ bs es as vs ms is)(hi:i∉is):bX σ (b5 ρ i d) bs es as vs ms is:=by
 induction h with
 |nil=>exact .nil
 |mutd hd D G U t ih =>
  rename_i j _ _ _ _ _ _ _ is;refine .mutd ?_ D G U (ih λz=>hi (.tail _ z));have J:i≠j:=λz=>hi (z ▸ .head _)
  have:(b5 ρ i d)[j]?=ρ[j]?:=by
   unfold b5;split<;>exact F1 J
  rw[this];exact hd
 |other hm t ih=>exact .other hm (ih hi)
theorem bX.at{K:IF}(st:ar K B A O H ρ σ)(h:bX σ ρ bs es as vs ms is):∃ds,bQ K O H as vs ds ms:=by
 induction h with
 |nil=>exact⟨[],.nil⟩
 |mutd hd z hi J t ih =>
  obtain⟨ds,q⟩:=ih;rename_i i d a bs es as vs ms is;refine⟨.dI d::ds,.mutd ?_ J q⟩;rcases cT hd with e|e
  .obtain⟨u,D,U,G,h1,_⟩:=st.slot _ _ (av e);rw[z]at D;cases D;cases G;exact h1
  .obtain⟨u,D,U,G,h1,_⟩:=st.slot _ _ (av e);rw[z]at D;cases D;cases G;exact h1
 |other hm t ih =>
  obtain⟨ds,q⟩:=ih;exact⟨ds,.other hm q⟩
theorem bX.inO{K:IF}(st:ar K B A O H ρ σ)(h:bX σ ρ bs es as vs ms is):∀a∈ms,a∈O:=λa G=>by
 obtain⟨j,_,D,d,J⟩:=h.addr a G;rcases cT J with e|e
 .obtain⟨u,z,U,rfl,_,h2,_⟩:=aT st e;rw[D]at z;cases z;exact h2
 .obtain⟨u,z,U,rfl,_,h2,_⟩:=aT st e;rw[D]at z;cases z;exact h2
theorem kJ{K:IF}{B H':Hp}{A O:List Addr}:∀{bs}{es}{as}{vs}{ms}{is}{ρ E}{H}{ds},bX σ ρ bs es as vs ms is->ar K B A O H ρ σ->(∀b,b∉ms->H b=H' b)->bQ K O H' as vs ds ms->eK bs es ds ρ=some E->ar K B A O H' E σ/\aW B O O ρ E σ σ
 | _,_,_,_,_,_,ρ,E,H,ds,.nil,st,G,hm,e=>by
  cases hm;rw[eK]at e;cases e;have hh:H=H':=funext λb=>G b λz=>nomatch z
  subst hh;exact⟨st,.refl⟩
 | _,_,_,_,_,_,ρ,E,H,ds,.other hn t,st,G,hm,e=>by
  cases hm with
  |mutd=>exact absurd rfl (hn _)
  |other _ hm =>
   rw[eK]at e;exact kJ t st G hm e
 | _,_,_,_,_,_,ρ,E,H,ds,.mutd (i:=i) (a:=a) hd D hi ha t,st,G,hm,e=>by
  cases hm with
  |other h0=>exact absurd rfl (h0 _)
  |mutd h1 h2 hm =>
   rename_i d' ds;rw[eK]at e;obtain⟨o,ho⟩:=h1.here;have inO:=t.inO st;have aO:a∈O:=(bX.mutd hd D hi ha t).inO st a (.head _);have dd:DAt K (upd H a o) O a d':=h1.move (λu eu=>by rw[ho]at eu;cases eu;exact aq) λb u U=>by
    have J:b∉O:=λz=>by rw[cy z]at U;cases U
    rw[aG J]at U ⊢;have ne:b≠a:=λz=>J (by rw[z];exact aO)
    rw[az ne,G b λw=>(y1.mp w).elim ne λz=>J (inO b z)];exact U
   have key:ar K B A O (upd H a o) (b5 ρ i d') σ/\aW B O O ρ (b5 ρ i d') σ σ:=by
    rcases cT hd with q|q
    .have Y:b5 ρ i d'=put ρ i (.ownD d'):=by unfold b5;rw[q];rfl
     rw[Y];exact st.changeD (av q) D λ_=>dd
    .have Y:b5 ρ i d'=put ρ i (.mutD d'):=by unfold b5;rw[q];rfl
     rw[Y];exact st.changeU (av q) D λ_=>dd
   obtain⟨Z,k1⟩:=key;obtain⟨ao,k2⟩:=kJ (t.put hi) Z (λb J=>by
    by_cases z:b=a
    .subst z;rw[aq,ho]
    .rw[az z];exact G b λw=>(y1.mp w).elim z J) hm e
   exact⟨ao,k1.trans k2⟩
def m6{K:IF}(G:bX σ ρ bs es as vs ms is)(st:ar K B A O H ρ σ)(J:∀b o,b∉ms->H b=some o->H' b=some o)(U:bQ K O H' as vs ds ms)(e:eK bs es ds ρ=some E):ar K B A O H' E σ/\aW B O O ρ E σ σ:=
 kJ G (st.mono (H':=λb=>if b∈ms then H b else H' b) λb o D=>by
  by_cases z:b∈ms
  .exact(if_pos z).trans D
  .exact(if_neg z).trans (J b o z D)) (λb Y=>if_neg Y) U e
end
noncomputable def tAM(K:IF)(cal:Cal)(z:List Bool)(ms:List ME):TA:=λσ H Q=>∃B A O ρ vs,ar K B A O H ρ σ/\evM cal z ms ρ=some vs/\∀us H' as,ae H H'->Paired (xS K O H') vs us->bX σ ρ z ms vs us as (dQ z ms)->Q us H'
section
variable{X:Cx}{T:Tab}{k:Nat}{cal:Cal}
def sL:PA X [] (tAM X.K cal [] []):=by
 refine bn.imp λσ H Q q=>?_
 obtain⟨B,A,O,ρ,vs,st,z,q⟩:=q;cases z;exact q [] H [] (ae.refl H) .nil .nil
def vz(h:aR X.N X.env.scope i x=true)(hi:i∉dQ bs ms)(hs:PA X es (tAM X.K cal bs ms)):PA X (.Name x pos::es) (tAM X.K cal (true::bs) (.bor i::ms)):=by
 refine(aI (bK h) hs rfl).imp λσ H Q q=>?_
 refine bq λZq kq=>?_
 obtain⟨B,A,O,ρ,vs,st,G,q⟩:=q;rw[evM]at G;simp[l0,pf]at G;obtain⟨d,G,ws,e2,rfl⟩:=G;obtain⟨m,hj,om,so⟩:∃m,(ρ[i]?).join=some m/\fP m=true/\∃a,σ[i]?=some (some (.ref a))/\DAt X.K H O a d/\a∈O:=by
  rcases cT G with e|e
  .obtain⟨u,D,a,rfl,h1,h2,_⟩:=aT st e;exact⟨_,e,rfl,a,D,h1,h2⟩
  .obtain⟨u,D,a,rfl,h1,h2,_⟩:=aT st e;exact⟨_,e,rfl,a,D,h1,h2⟩
 obtain⟨a,D,h1,h2⟩:=so;refine kq ?_;refine⟨_,D,B,A,O,ρ,ws,st,e2,λus H2 as U g2 ma=>q _ H2 _ U (.cons ⟨a,rfl,h1.move (U _) (ah U),h2⟩ g2) (.mutd G D hi (λz=>?_) ma)⟩;obtain⟨j,Y,ej,d2,Z⟩:=ma.addr a z;have J:i≠j:=λw=>hi (w▸Y)
 rcases cT Z with e|e
 .exact st.apart i j m _ a J (av hj) (av e) om rfl D ej
 .exact st.apart i j m _ a J (av hj) (av e) om rfl D ej
def qh(J:aw m=false)(h:PE X e (tE X.K cal m))(hs:PA X es (tAM X.K cal bs ms))(Y:ac e=true):PA X (e::es) (tAM X.K cal (false::bs) (m::ms)):=by
 refine(aI h hs (aP Y es _)).imp λσ H Q q=>?_
 obtain⟨B,A,O,ρ,vs,st,D,q⟩:=q;rw[evM,l0]at D;obtain⟨a,Z,D⟩:=D;have G:(ev cal m ρ).bind (λv=>some [MV.val v])=some a:=by
  rw[<- Z];cases m<;>first|(cases J;done)|(simp only[evA];rfl)
 rw[l0]at G;obtain⟨v,e9,e8⟩:=G;cases e8;rw[pf]at D;obtain⟨ws,e2,rfl⟩:=D;exact⟨B,A,O,ρ,v,st,e9,λu H1 s1 g1=>⟨B,A,O,ρ,ws,st.mono s1,e2,λus H2 as U g2 ma=>q _ H2 as (s1.trans U) (.cons (show Rep X.K _ v u from(g1.mono U).2 J) g2) (.other (λ_ z=>by cases z) ma)⟩⟩
def sM{i:Nat}{bs:List Bool}{ms:List ME}{x:Str}{pos:Pos}{es:List Expr}(h:aR X.N X.env.scope i x=true)(hs:PA X es (tAM X.K cal bs ms)):PA X (.Name x pos::es) (tAM X.K cal (false::bs) (.bor i::ms)):=by
 refine(aI (bK h) hs rfl).imp λσ H Q q=>?_
 obtain⟨B,A,O,ρ,vs,st,G,q⟩:=q;rw[evM,l0]at G;obtain⟨a,D,G⟩:=G;rw[evA,evA]at D;cases J:(ρ[i]?).join with
 |none=>rw[J]at D;cases D
 |some m =>
  rw[J]at D;obtain⟨u,Y,Z⟩:=aT st J;cases m with
  |val w =>
   cases D;dsimp only at G;rw[pf]at G;obtain⟨ws,e2,rfl⟩:=G;exact⟨u,Y,⟨B,A,O,ρ,ws,st,e2,λus H2 as U g2 ma=>q (u::us) H2 as U (.cons (show Rep X.K (al H2 O) w u from Rep.mono (ah U) _ Z) g2) (.other (λ_ z=>by cases z) ma)⟩⟩
  |own ys=>cases D;cases G
  |brw ys=>cases D;cases G
  |ownD ys =>
   cases hz:dL (some (.ownD ys))with
   |none=>rw[hz]at D;cases D
   |some z=>rw[hz]at D;cases D;obtain⟨rfl,_⟩:=ifW hz;cases G
  |mutD ys =>
   cases hz:dL (some (.mutD ys))with
   |none=>rw[hz]at D;cases D
   |some z=>rw[hz]at D;cases D;obtain⟨rfl,_⟩:=ifW hz;cases G
  |brwD ys=>cases D;cases G
theorem kK(g:Gf X T k cal):∀bs ms es,chks T ms X.N X.env.scope es=true->gQ bs ms=true->(dQ bs ms).Nodup->PA X es (tAM X.K cal bs ms)
 | [],[],es,h,_,_=>by
  cases es<;>first|exact sL|simp[chks]at h
 | [],_::_,_,_,h2,_=>by cases h2
 |true::_,[],_,_,h2,_=>by cases h2
 |false::_,[],_,_,h2,_=>by cases h2
 |b::bs,m::ms,es,h,h2,G=>by
  cases es with
  |nil=>simp[chks]at h
  |cons e es =>
   simp[chks,n4]at h;cases b with
   |true =>
    have z:(aw m&&gQ bs ms)=true:=h2;rw[n4]at z;have D:=z.1;obtain⟨i,rfl⟩:=mR D;obtain⟨x,p,rfl,h1⟩:=jD h.1.1;obtain⟨n1,J⟩:=HS.mp (show(_::dQ bs ms).Nodup from G);exact vz h1 n1 (kK g bs ms es h.2 z.2 J)
   |false =>
    have hs:=kK g bs ms es h.2 (show gQ bs ms=true from h2) (show(dQ bs ms).Nodup from G);cases D:aw m with
    |false=>exact qh D (am m g h.1.1).1 hs h.1.2
    |true =>
     obtain⟨i,rfl⟩:=mR D;obtain⟨x,p,rfl,h1⟩:=jD h.1.1;exact sM h1 hs
end
def sN(h:kv cal f mask ms ρ=some (v,E)):∃ds,((evM cal mask ms ρ).bind λvs=>cal (f+2000) vs)=some (.tup (v::ds))/\eK mask ms ds ρ=some E:=by
 unfold kv at h;split at h
 .rename_i v ds e
  simp_all
 .cases h
section
variable{X:Cx}{T:Tab}{k:Nat}{cal:Cal}
noncomputable def tMr(K:IF)(cal:Cal)(f:Nat)(z:List Bool)(ms:List ME):TE:=λσ H Q=>∃B A O ρ vs v ds,ar K B A O H ρ σ/\evM cal z ms ρ=some vs/\cal (f+2000) vs=some (.tup (v::ds)) /\
 ∀u us as H1 H',ae H H1->bX σ ρ z ms vs us as (dQ z ms)->(∀b o,b∉as->H1 b=some o->H' b=some o)->bQ K O H' vs us ds as->Rep K (al H' O) v u->Q u H'
def rg(g:Gf X T k cal)(J:T.fs[f]?=some x)(U:glB X.env.scope x=true)(Y:aj x=true)(Z:PA X (e::es) (tAM X.K cal mask ms))(hs:(e::es).all ac=true):PE X (.Call (.Name x p) (e::es) [] pos) (tMr X.K cal f mask ms):=by
 obtain⟨fa,fd,ps,h1,h2,h3,F⟩:=g.fnsD f x J;simp only[all_cons,n4]at hs;refine(jA F g.room (cw U) h1 h2 h3 .nil g5 Z (bW Y).1 (aP hs.1 es _) (aV hs.2)).imp λσ H Q q=>?_
 obtain⟨B,A,O,ρ,vs,v,ds,st,e1,e3,q⟩:=q;refine⟨B,A,O,ρ,vs,st,e1,λus H1 as s1 g1 G=>?_⟩;show spD X.K cal f (us++[]) H1 Q E0;rw[Gj];obtain⟨z,D⟩:=G.at (st.mono s1);exact⟨O,vs,v,ds,z,as,aS s1 st.here,g1,D,e3,λu H' hk hm ru=>q u us as H1 H' s1 G hk hm ru⟩
end
def bQ.mono{K:IF}(h:bQ K O H args vs ds ms)(s:∀a∈ms,∀o,H a=some o->H' a=some o)(v:ae (al H O) (al H' z)):bQ K z H' args vs ds ms:=by
 induction h with
 |nil=>exact .nil
 |mutd h D t ih=>exact .mutd (h.move (s _ (.head _)) v) D (ih λa G=>s a (.tail _ G))
 |other h t ih=>exact .other h (ih s)
theorem bQ.here{K:IF}{O:List Addr}{H:Hp}{args:List MV}{vs:List V}{ds:List PV}{ms:List Addr}(h:bQ K O H args vs ds ms):∀a∈ms,H a≠none:=by
 induction h with
 |nil=>intro a z;cases z
 |mutd h D t ih =>
  obtain⟨o,h⟩:=h.here
  simp_all
 |other h t ih=>exact ih
theorem bX.own{K:IF}(st:ar K B A O H ρ σ)(h:bX σ ρ bs es as vs ms is):∀a∈ms,a∈O/\B a=none/\∃o,H a=some o:=λa J=>by
 obtain⟨j,_,G,d,U⟩:=h.addr a J;rcases cT U with e|e
 .obtain⟨u,z,Y,rfl,h1,h2,D⟩:=aT st e;rw[G]at z;cases z;exact⟨h2,D,h1.here⟩
 .obtain⟨u,z,Y,rfl,h1,h2,D⟩:=aT st e;rw[G]at z;cases z;exact⟨h2,D,h1.here⟩
def gi{O as:List Addr}(h:∀a∈as,a∈O)(G:∀b o,b∉as->H1 b=some o->H' b=some o):ae (al H1 O) (al H' O):=λb o e=>by
 have D:b∉O:=λz=>by rw[cy z]at e;cases e
 rw[aG D]at e ⊢;exact G b o (λz=>D (h b z)) e
section
variable{X:Cx}{T:Tab}{k:Nat}{cal:Cal}
noncomputable def tSr(K:IF)(cal:Cal)(j:SK)(e:ME)(f:Nat)(z:List Bool)(ms:List ME):TE:=λσ H Q=>∃B A O ρ w vs v ds r,ar K B A O H ρ σ/\ev cal e ρ=some w/\evM cal z ms ρ=some vs/\cal (f+2000) vs=some (.tup (v::ds))/\h_ j w v=some r /\
 ∀u us as H1 H',ae H H1->bX σ ρ z ms vs us as (dQ z ms)->(∀b o,b∉as->H1 b=some o->H' b=some o)->bQ K O H' vs us ds as->Rep K (al H' O) r u->Q u H'
def l6{K:IF}(st:ar K B A O H ρ σ)(s1:ae H H1)(D:∀b o,b∉as->H1 b=some o->H' b=some o)(G:bQ K O H' args vs ds as):∀a∈O,H' a≠none:=λa J=>by
 by_cases z:a∈as
 .exact G.here a z
 .cases e:H1 a with
  |none=>exact absurd (s1.free e) (st.here a J)
  |some o=>rw[D a o z e];simp
def DJ(h:PE X c (tMr X.K cal f mask ms)):PE X c (tSr X.K cal .one (.cst .non) f mask ms):=by
 refine h.imp λσ H Q q=>?_
 obtain⟨B,A,O,ρ,w,vs,v,ds,r,st,J,z,D,G,q⟩:=q;cases G;exact⟨B,A,O,ρ,vs,v,ds,st,z,D,q⟩
def Bi(z:aw e=false)(Y:PE X l (tE X.K cal e))(h:PE X c (tMr X.K cal f mask ms)):PE X (.BinOp l .Add c pos) (tSr X.K cal .cat e f mask ms):=by
 refine(jS (kF .add) Y h).imp λσ H Q q=>?_
 refine bq λZq Z=>?_
 obtain⟨B,A,O,ρ,w,vs,v,ds,r,st,e1,e2,e3,e4,q⟩:=q;refine Z ?_;refine⟨B,A,O,ρ,w,st,e1,λux H1 s1 g1=>⟨B,A,O,ρ,vs,v,ds,st.mono s1,e2,e3,λuy us as H2 H' D J G U ry=>?_⟩⟩;have own:=J.own (st.mono s1);have rx:=Rep.mono ((ah D).trans (gi (λa h=>(own a h).1) G)) _ (g1.2 z);exact⟨O,w,v,r,l6 (st.mono s1) D G U,.inl rx,.inl ry,e4,λu H3 s3 ru=>q u us as H2 H3 (s1.trans D) J (λb o z eb=>s3 b o (G b o z eb)) (U.mono (λa _ o e=>s3 a o e) (ah s3)) ru⟩
def x6(z:aw e=false)(Z:ac l=true)(hc:ac c=true)(ha:PE X l (tE X.K cal e))(h:PE X c (tMr X.K cal f mask ms)):PE X (.Tuple [l,c] j pos) (tSr X.K cal .pair e f mask ms):=by
 refine(pw (aI ha (aI h bn (aP hc _ _)) (aP Z _ _))).imp λσ H Q q=>?_
 refine bq λZq kq=>?_
 obtain⟨B,A,O,ρ,w,vs,v,ds,r,st,e1,e2,e3,e4,q⟩:=q;cases e4;refine kq ?_;refine⟨B,A,O,ρ,w,st,e1,λux H1 s1 g1=>⟨B,A,O,ρ,vs,v,ds,st.mono s1,e2,e3,λuy us as H2 H' D J G U ry=>⟨cb (show 2<=10000 by decide),λp Y=>?_⟩⟩⟩;have own:=J.own (st.mono s1);have rx:=Rep.mono ((ah D).trans (gi (λa h=>(own a h).1) G)) _ (g1.2 z);have s3:ae H' (upd H' p (.tup [ux,uy])):=aU Y _;exact q _ us as H2 _ (s1.trans D) J (λb o z eb=>s3 b o (G b o z eb)) (U.mono (λa _ o e=>s3 a o e) (ah s3)) (fb (l6 (st.mono s1) D G U) Y (.cons rx (.cons ry .nil)))
def m7(g:Gf X T k cal)(h:mS T j e f mask ms X.N X.env.scope v=true):PE X v (tSr X.K cal j e f mask ms):=by
 have call:∀c,cz T f mask ms X.N X.env.scope c=true->PE X c (tMr X.K cal f mask ms)/\ac c=true:=λc hc=>by
  obtain⟨y,p,args,cp,rfl,z⟩:=gR hc;simp only[n4,FW,GB,F2]at z;obtain⟨⟨⟨⟨⟨⟨G,J⟩,U⟩,D⟩,Y⟩,Z⟩,q7⟩:=z;cases args with
  |nil=>cases q7
  |cons a args=>exact⟨rg g G J U (kK g mask ms (a::args) D Y Z) (aY D).1,rfl⟩
 cases j with
 |one =>
  have h:(kB e&&cz T f mask ms X.N X.env.scope v)=true:=h;rw[n4]at h;have e0:e=.cst .non:=by
   have h1:=h.1;unfold kB at h1;split at h1
   .rfl
   .cases h1
  subst e0;exact DJ (call v h.2).1
 |cat =>
  unfold mS at h;dsimp only at h;split at h
  .rename_i q z;obtain⟨pos,rfl⟩:=xC z;simp only[n4,F2]at h;exact Bi h.1.2 (am e g h.1.1).1 (call _ h.2).1
  .cases h
 |pair =>
  unfold mS at h;dsimp only at h;split at h
  .rename_i q z;obtain⟨i,pos,rfl⟩:=xD z;simp only[n4,F2]at h;exact x6 h.1.1.2 h.1.2 (call _ h.2).2 (am e g h.1.1.1).1 (call _ h.2).1
  .cases h
noncomputable def bt(H:Hp)(D:Addr):Hp:=λb=>if b=D then none else H b
def dW(H)(D):ae (bt H D) H:=λb o e=>by
 unfold bt at e
 simp_all
def fe(h:b≠D):bt H D b=H b:=if_neg h
def kL(s:ae H H'):ae (bt H D) (bt H' D):=λb o e=>by
 unfold bt at e ⊢;split at e
 .cases e
 .rename_i z;rw[if_neg z];exact s b o e
def cH :bt (upd H D o) D=bt H D:=by
 funext b
 unfold bt;split
 .rfl
 .rename_i z;exact az z
def fv(h:H D=none):bt H D=H:=by
 funext b
 unfold bt
 simp_all
def l7(U:js.Nodup)(Y:∀i D u,js[i]?=some D->Z[i+1]?=some (some u)->σ[D]?=some (some u))(h:bX Z (dM js ρ x) bs es as vs ms is) :
  ∃G,bX σ ρ bs (es.map (lx js)) as vs ms G/\∀D∈G,∃i,i+1∈is/\js[i]?=some D:=by
 induction h with
 |nil=>exact⟨[],.nil,λD h=>by cases h⟩
 |mutd hd hs hi ha t ih =>
  rename_i i d a bs es as vs ms is;obtain⟨G,m',h'⟩:=ih;cases i with
  |zero=>cases hd
  |succ i =>
   unfold dM at hd;rw[getElem?_cons_succ,Ga]at hd;cases J:js[i]? with
   |none=>rw[J]at hd;cases hd
   |some D =>
    rw[J]at hd;have e1:bo (ρ[D]?).join=some d:=by
     have hd:bo (gM (ρ[D]?).join)=some d:=hd;cases hj:(ρ[D]?).join with
     |none=>rw[hj]at hd;cases hd
     |some m=>rw[hj]at hd;cases m<;>first|(cases hd;done)|exact hd
    have e2:js.getD i 0=D:=by rw[HN,J];rfl
    refine⟨D::G,?_,λj2 h2=>?_⟩
    .rw[F0,show lx js (.bor (i+1))=.bor D from by show ME.bor (if i+1=0 then 0 else js.getD (i+1-1) 0)=.bor D;rw[if_neg (by omega),GD,e2]];refine .mutd e1 (Y i D _ J hs) (λz=>?_) ha m';obtain⟨i2,h3,h4⟩:=h' D z;have hl:=(D2.mp J).1;have:=(getElem?_inj hl U).mp (J.trans h4.symm);exact hi (this▸h3)
    .rcases y1.mp h2 with rfl|h2
     .exact⟨i,.head _,J⟩
     .obtain⟨i2,h3,h4⟩:=h' j2 h2;exact⟨i2,.tail _ h3,h4⟩
 |other hm t ih =>
  obtain⟨G,m',h'⟩:=ih;exact⟨G,.other hm m',h'⟩
def rh{K:IF}{σ M:St}(a5:js.Nodup)(st:ar K B A O H ρ σ)(s:ae H H2)(hG:ae G H2)(hB:ae B G)(hO:∀a∈O,B a=none->G a=none)(hD:H D=none)(a6:H2 D≠none)
  (a7:∀z,M.set 0 z=(bZ js σ).set 0 z) (hx:Rep K (al H2 (D::O)) x ux):ar K G [] (D::O) H2 (dM js ρ x) (M.set 0 (some ux)):=by
 have hv:ae (al H O) (al H2 (D::O)):=bi s λb hb=>by
  rcases y1.mp hb with rfl|hb
  .exact .inr hD
  .exact .inl hb
 rw[a7];have get:∀i m,(dM js ρ x)[i+1]?=some (some m)->∃jj U u,js[i]?=some jj/\(ρ[jj]?).join=some U/\gM (some U)=some m/\σ[jj]?=some (some u)/\dO K B O H U u/\((bZ js σ).set 0 (some ux))[i+1]?=some (some u):=λi m e=>by
  simp only[dM,getElem?_cons_succ,Ga,pf]at e;obtain⟨j,ej,e⟩:=e;cases hj:(ρ[j]?).join with
  |none=>rw[hj]at e;cases e
  |some mm =>
   rw[hj]at e;obtain⟨u,eu,Z⟩:=aT st hj;exact⟨j,mm,u,ej,hj,e,eu,Z,by simp[bZ,ej,eu]⟩
 refine⟨hG,λa J=>?_,λa J=>by simp at J,λa J=>by simp at J,by simp[dM,bZ],λi m e=>?_,λi i2 m m' a b4 e e' om ap es aO=>?_⟩
 .rcases y1.mp J with rfl|J
  .exact a6
  .exact λe=>st.here a J (s.free e)
 .cases i with
  |zero =>
   simp only[dM,getElem?_cons_zero,wh]at e;subst e;exact⟨ux,by simp[bZ],hx⟩
  |succ i =>
   obtain⟨jj,U,u,ej,hj,e,eu,Z,ca⟩:=get i m e;refine⟨u,ca,?_⟩;cases U with
   |val w =>
    cases e;exact Rep.mono hv _ Z
   |own ys=>cases e
   |brw ys =>
    cases e;obtain⟨a,us,rfl,sq,rs⟩:=Z;exact⟨a,us,rfl,hB.seq sq,Reps.mono hv _ rs⟩
   |brwD kvs =>
    cases e;obtain⟨a,rfl,J⟩:=Z;exact⟨a,rfl,ae.rd hB J⟩
   | _ =>
    cases e;obtain⟨a,rfl,J,h1,h2⟩:=Z;exact⟨a,rfl,J.move (s _) hv,Gp _ h1,hO a h1 h2⟩
 .have zero:∀m,(dM js ρ x)[0]?=some (some m)->fP m=true->False:=λm e o=>by
   simp only[dM,getElem?_cons_zero,wh]at e;subst e;cases o
  have Y:∀U m,gM (some U)=some m->fP m=true->fP U=true:=λU m e o=>by
   cases U<;>first|rfl|(cases e;cases o;done)|(cases e;done)
  cases i with
  |zero=>exact zero m e om
  |succ i =>
   cases i2 with
   |zero=>exact zero m' e' ap
   |succ i2 =>
    obtain⟨j1,n1,u1,a1,cd,c1,ce,_,a2⟩:=get i m e;obtain⟨j2,n2,u2,ck,cl,c2,cn,_,a3⟩:=get i2 m' e';rw[a2]at es;rw[a3]at aO;cases es;cases aO;refine st.apart j1 j2 n1 n2 a (λz=>b4 ?_) (av cd) (av cl) (Y _ _ c1 om) (Y _ _ c2 ap) ce cn;subst z;have hl:=(D2.mp a1).1;rw[(getElem?_inj hl a5).mp (a1.trans ck.symm)]
def jk{K:IF}{B H H1:Hp}{A O:List Addr}{ρ E:Rho}{σ:St}{J:It}{xs ws:List PV}{D:Addr}{Q:VK}(b1:js.Nodup)(st:ar K B A O H ρ σ)(s1:ae H H1)(a3:i3 K J xs (al H1 O) (aN B O H1 []))(dn:xs.length<=10000)
  (e3:aJ cal js j e f mask ms xs ρ=some (ws,E)) (hD:H1 D=none) (q:∀H',ae (al H O) (al H' O)->ar K B A O H' E σ->aW B O O ρ E σ σ->Rep K (al H' O) (.lst ws) (.ref D)->Q (.ref D) H'):nN J (bZ js σ) H1 (tT K cal (.cst (.bl true))) (tSr K cal j e f mask ms) D Q:=by
 have a4:D∉O:=λz=>aS s1 st.here D z hD
 have ao:=st.keep.trans s1;have gB:ae B (aN B O H1 []):=di ao;have gO:∀a∈O,B a=none->aN B O H1 [] a=none:=λa ha Y=>by
  unfold aN;rw[if_pos ha,if_neg (λz=>nomatch z)];exact Y
 have gD:aN B O H1 [] D=none:=by
  unfold aN;rw[if_neg a4];exact hD
 refine⟨λi m M H'=>m=xs.length-i/\i<=xs.length/\(∀z,M.set 0 z=(bZ js σ).set 0 z)/\0<M.length/\∃U done bz ys,ar K B A O (bt H' D) U σ/\aW B O O ρ U σ σ/\ae (aN B O H1 []) (bt H' D)/\aJ cal js j e f mask ms (xs.drop i) U=some (bz,E)/\ws=done++bz/\done.length<=i/\H' D=some (.lst ys)/\Reps K (al H' (D::O)) done ys,⟨xs.length,by simp,Gv _,λ_=>rfl,by simp[bZ],ρ,[],ws,[],?_,.refl,?_,by simpa using e3,rfl,vr _,aq,.nil⟩,?_⟩
 .rw[cH,fv hD];exact st.mono s1
 .rw[cH,fv hD];exact fS ao
 rintro i m M H' ⟨rfl,hi,a5,hl,U,done,bz,ys,ap,ki,sG,eg,ew,em,a6,rs⟩;have Z:=sG.trans (dW H' D);by_cases a7:i<xs.length
 .right;have ex:=F5 a7;refine⟨a3.go i _ H' Z ex,λbe H2=>∃m',m'<xs.length-i/\(m'=xs.length-(i+1)/\i+1<=xs.length/\(∀z,be.set 0 z=(bZ js σ).set 0 z)/\0<be.length/\∃U done bz ys,ar K B A O (bt H2 D) U σ/\aW B O O ρ U σ σ/\ae (aN B O H1 []) (bt H2 D)/\aJ cal js j e f mask ms (xs.drop (i+1)) U=some (bz,E)/\ws=done++bz/\done.length<=i+1/\H2 D=some (.lst ys)/\Reps K (al H2 (D::O)) done ys),λbe H2 z=>z,λux H2 y=>?_⟩;obtain⟨s3,hr⟩:=a3.yld i _ H' ux H2 Z ex y;have sv:ae (al H1 O) (al H2 (D::O)):=λb o G=>by
   have Y:b∉O:=λz=>by rw[cy z]at G;cases G
   rw[aG Y]at G;have bj:b≠D:=λz=>by rw[z,hD]at G;cases G
   rw[aG λz=>(y1.mp z).elim bj Y];refine s3 b o (Z b o ?_);unfold aN;rw[if_neg Y];exact G
  have hx:=hr (D::O) (λa ha=>by
   rcases y1.mp ha with rfl|ha
   .rw[a6];simp
   .exact λz=>ap.here a ha ((dW H' D).free z)) sv
  have b3:=s3 _ _ a6;have cv:=(dW H' D).trans s3;have bp:=rh (M:=M) b1 ap cv (Z.trans s3) gB gO (if_pos rfl) (by rw[b3];simp) a5 hx;rw[GZ a7,aJ]at eg;simp only[l0]at eg;obtain⟨w,e1,eg⟩:=eg;refine⟨_,[],D::O,_,true,bp,by simp[evB,ev,aQ],λH3 s4=>?_⟩;dsimp only;rw[if_pos rfl];split at eg
  .refine bq λZq kq=>?_
   rename_i v ds ec;simp only[l0,pf]at eg ec;obtain⟨r,e4,cx,e5,⟨cC,eC⟩,e6,e7⟩:=eg;obtain⟨vs,e2,ec⟩:=ec;cases e7;refine kq ?_;refine⟨_,[],D::O,_,w,vs,v,ds,r,bp.mono s4,e1,e2,ec,e4,λu us as H4 H5 s5 ma hk hm ru=>?_⟩;have own:=ma.own (bp.mono s4);obtain⟨e8,mo,_⟩:=l7 (σ:=σ) (ρ:=U) (js:=js) b1 (λi jj u ej eu=>by
    rw[a5]at eu;have:(σ[jj]?).join=some u:=by simpa[bZ,ej]using eu
    exact av this) ma
   have aO:∀a∈as,a∈O:=λa ha=>(mo.own ap a ha).1
   have ca:D∉as:=λz=>a4 (aO D z)
   have cN:=hk D _ ca (s5 _ _ (s4 _ _ b3));have cd:∀z,(M.set 0 (some ux)).set 0 z=(bZ js σ).set 0 z:=λz=>by rw[set_set];exact a5 z
   have cP:0<(M.set 0 (some ux)).length:=by rw[GK];exact hl
   have vw:ae (al H' (D::O)) (al H5 (D::O)):=((ah s3).trans ((ah s4).trans (ah s5))).trans (gi (λa h=>Gp _ (aO a h)) hk);have cS:ys.length<=10000:=by rw[<- rs.length];omega
   have ce:∀b o,b∉as->bt H4 D b=some o->bt H5 D b=some o:=λb o Y G=>by
    have bj:b≠D:=λz=>by rw[z]at G;unfold bt at G;rw[if_pos rfl]at G;cases G
    rw[fe bj]at G ⊢;exact hk b o Y G
   have ck:ae (bt H' D) (bt H4 D):=kL ((s3.trans s4).trans s5);obtain⟨df,k6⟩:=m6 mo (ap.mono ck) ce (hm.mono (λa ha o eo=>by
    have dm:a≠D:=λz=>by rw[z]at ha;exact ca ha
    rw[fe dm];exact eo) λb o G=>by
    have Y:b∉D::O:=λz=>by rw[cy z]at G;cases G
    rw[aG Y]at G;rw[aG λz=>Y (.tail _ z),fe (show b≠D from λz=>Y (by rw[z];exact .head _))];exact G) e5
   refine⟨ys,cN,Hh cS (by decide),_,by omega,rfl,a7,cd,cP,cx,done++[r],cC,ys++[u],?_,ki.trans k6,?_,e6,by rw[ew];simp,by simp;omega,aq,?_⟩
   .rw[cH];exact df
   .rw[cH];intro b o G;refine ce b o (λz=>?_) (ck b o (sG b o G));have:=(own b z).2.1;rw[this]at G;cases G
   .rw[dS (GG)];exact(Reps.mono vw _ rs).snoc ru
  .cases eg
 .left;have ei:i=xs.length:=by omega
  subst ei;rw[ID,aJ]at eg;cases eg;rw[Gj]at ew;subst ew;refine⟨a3.stop H' Z,q H' (λb o G=>?_) (ap.mono (dW H' D)) ki ?_⟩
  .have Y:b∉O:=λz=>by rw[cy z]at G;cases G
   rw[aG Y]at G ⊢;refine Z b o ?_;unfold aN;rw[if_neg Y];exact s1 b o G
  rw[Rep];refine⟨D,ys,rfl,SqL.of ?_,Reps.mono fq _ rs⟩;rw[aG a4];exact a6
theorem Gf.nox(g:Gf X T k cal):Gf X.nox T k cal:=by cases g;constructor<;>assumption
def Gf.unnox(g:Gf X.nox T k cal):Gf X T k cal:=by cases g;constructor<;>assumption
def vA{st:Stmt}{t:TS}(h:PS X.nox st t):PS X st t:=λpins s σ H D I hw=>F8 (h pins s σ H D (I.wish _) hw) (λ_ _ q=>q.unwish) λ_ _ z=>False.elim z
theorem Df.nox(d:Df X):Df X.nox:=⟨d.nd,d.fn,PassesOwn.never,d.blk,d.stk,d.exn⟩
def qi (g:Gf X T k cal) {c:Str} (h:T.es.contains c=true):∃C ms,X.mg c=some (.ref C)/\fM X.K C ms=true/\uK X.K C=true/\PySem.W.kitOne X.K (.ref C) (.type "ValueError")=some true /\
  ∀d D,T.es.contains d=true->X.mg d=some (.ref D)->(Value.ref C::ms).contains (.ref D)=iR c d/\PySem.W.kitOne X.K (.ref C) (.ref D)=some (iR c d):=by
 have e:=g.errs;unfold qX at e;rw[n4,He]at e;have q:=e.2 c (contains_iff_mem.mp h);split at q
 .rename_i C J;split at q
  .rename_i ms Y;simp only[n4,FW,He]at q;refine⟨C,ms,g.mgs c _ J,q.1.1.1,q.1.1.2,q.1.2,λd D hd U=>?_⟩;have z:=q.2 d (contains_iff_mem.mp hd);unfold Db at z;split at z
   .rename_i Z G;have w:=g.mgs d _ G;rw[U]at w;cases w;simp only[n4,FW]at z;exact z
   .cases z
  .cases q
 .cases q
def oC(ρ:Rho)(σ:St):Prop:=∀(i:Nat) (n:Int),(ρ[i]?).join=some (MV.val (PV.int n))->σ[i]?=some (some (V.int n))
noncomputable def sO(h:HH)(σ:St)(u:V):St:=match h.e with
 |none=>σ.set h.i (some u)
 |some k=>(σ.set h.i (some u)).set k none
def zi(g:Gf X T k cal){e:Option Nat}{a:HA}{v:Expr}(hc:AM T.es X.N X.env.scope e a v=true):∃t:Addr->Addr->Obj->TE,(∀c C ea oe,T.es.contains c=true->X.mg c=some (.ref C)->oe.cls=.ref C->PE (X.within ea oe) v (t C ea oe))/\bC v=true/\ac v=true /\
  ∀c C ea oe ρ σ H Q s,T.es.contains c=true->X.mg c=some (.ref C)->oe.cls=.ref C->(∀k,e=some k->σ[k]?=some (some (.ref ea)))->oC ρ σ->a.val c ρ=some s->Q s.v H->t C ea oe σ H Q:=by
 cases a with
 |cst w =>
  obtain⟨G,D,z⟩:=ag hc;have z:=Gx z;rcases xL D with⟨b,j,p,rfl,rfl⟩|⟨x,j,p,rfl,rfl⟩
  .refine⟨λ_ _ _=>tC (.bl b),λ_ _ _ _ _ _ _=>yO,rfl,rfl,λc C ea oe ρ σ H Q s _ _ _ _ _ hs q=>?_⟩;have:s=.bl b:=by
    have hs:sc? w=some s:=hs;rw[z]at hs;cases hs
    rfl
   subst this;exact q
  .refine⟨λ_ _ _=>tC (.str x),λ_ _ _ _ _ _ _=>jR,rfl,rfl,λc C ea oe ρ σ H Q s _ _ _ _ _ hs q=>?_⟩;have:s=.str x:=by
    have hs:sc? w=some s:=hs;rw[z]at hs;cases hs
    rfl
   subst this;exact q
 |isi J=>cases hc
 |inc i m=>cases hc
theorem vB(g:Gf X T k cal){e:Option Nat}:∀{as:List HA}{vs:List Expr},u_ T.es X.N X.env.scope e as vs=true->∃t:Addr->Addr->Obj->TA,(∀c C ea oe,T.es.contains c=true->X.mg c=some (.ref C)->oe.cls=.ref C->PA (X.within ea oe) vs (t C ea oe)) /\
  ∀c C ea oe ρ σ H Q ss,T.es.contains c=true->X.mg c=some (.ref C)->oe.cls=.ref C->(∀k,e=some k->σ[k]?=some (some (.ref ea)))->oC ρ σ->HA.vals c ρ as=some ss->Q (ss.map Sc.v) H->t C ea oe σ H Q
 | [],[],_=>⟨λ_ _ _=>tU,λ_ _ _ _ _ _ _=>bn,λc C ea oe ρ σ H Q ss _ _ _ _ _ hs q=>by
   have hs:some ([]:List Sc)=some ss:=hs;cases hs;exact q⟩
 | [],_::_,z=>by cases z
 | _::_,[],z=>by cases z
 |a::as,v::vs,hc=>by
  obtain⟨c1,c2⟩:=ek.mp hc;obtain⟨Z,p1,_,ns,q1⟩:=zi g c1;obtain⟨t2,p2,q2⟩:=vB g c2;refine⟨λC ea oe=>tV (Z C ea oe) (t2 C ea oe),λc C ea oe hc D G=>aI (p1 c C ea oe hc D G) (p2 c C ea oe hc D G) (aP ns vs _),λc C ea oe ρ σ H Q ss hc D G Y J hs q=>?_⟩;have hs:((a.val c ρ).bind λs=>(HA.vals c ρ as).map (s::·))=some ss:=hs;obtain⟨s,e1,e2⟩:=l0.mp hs;obtain⟨U,e3,rfl⟩:=pf.mp e2;exact q1 c C ea oe ρ σ H _ s hc D G Y J e1 (q2 c C ea oe ρ σ H _ U hc D G Y J e3 q)
def DK(g:Gf X T k cal){e:Option Nat}{a:HE}{v:Expr}(hc:C9 T.es X.N X.env.scope e a v=true):∃t:Addr->Addr->Obj->TE,(∀c C ea oe,T.es.contains c=true->X.mg c=some (.ref C)->oe.cls=.ref C->PE (X.within ea oe) v (t C ea oe))/\bC v=true /\
  ∀c C ea oe ρ σ H Q w,T.es.contains c=true->X.mg c=some (.ref C)->oe.cls=.ref C->(∀k,e=some k->σ[k]?=some (some (.ref ea)))->oC ρ σ->a.val c ρ=some w->(∀u H2,ae H H2->(∀O,(∀a∈O,H a≠none)->Rep X.K (al H2 O) w u)->Q u H2)->t C ea oe σ H Q:=by
 cases a with
 |one a =>
  obtain⟨t,p,n,_,q⟩:=zi g hc;refine⟨t,p,n,λc C ea oe ρ σ H Q w hc D G Y z hs Z=>?_⟩;obtain⟨s,e1,rfl⟩:=pf.mp (show(a.val c ρ).map Sc.pv=some w from hs);exact q c C ea oe ρ σ H Q s hc D G Y z e1 (Z _ H (ae.refl H) λO _=>vn X.K _ s)
 |lst as =>
  obtain⟨⟨xs,lp⟩,e1,ap⟩:=ag hc;have e2:=xM e1;subst e2;obtain⟨t,p,q⟩:=vB g ap;refine⟨λC ea oe=>CD (t C ea oe),λc C ea oe hc D G=>pz (p c C ea oe hc D G),rfl,λc C ea oe ρ σ H Q w hc D G Y z hs Z=>?_⟩;have hs:(if as.length<=100 then(HA.vals c ρ as).map λss=>PV.lst (ss.map Sc.pv)else none)=some w:=hs;split at hs
  .rename_i hl;obtain⟨ss,U,rfl⟩:=pf.mp hs;refine q c C ea oe ρ σ H _ ss hc D G Y z U ⟨?_,λp hp=>Z _ _ (aU hp _) λO hO=>iu hO hp (re X.K _ ss)⟩;have J:∀{as:List HA}{ss:List Sc},HA.vals c ρ as=some ss->ss.length=as.length:=by
    intro as
    induction as with
    |nil=>intro ss h;cases (show some ([]:List Sc)=some ss from h);rfl
    |cons a as ih =>
     intro ss h;obtain⟨s,_,e2⟩:=l0.mp (show((a.val c ρ).bind λs=>(HA.vals c ρ as).map (s::·))=some ss from h);obtain⟨a4,U,rfl⟩:=pf.mp e2;rw[length_cons,length_cons,ih U]
   rw[FY,J U];exact Gg hl (by decide)
  .cases hs
def vC{σ:St}{i j:Nat}{a b c:Option V}(h:i≠j):((σ.set i a).set j b).set i c=(σ.set j b).set i c:=by
 rw[set_comm _ _ h,set_set]
def x9(g:Gf X T k cal)(d:Df X){h:HH}{x:ExceptHandler}{bz:List ExceptHandler}{tr:Addr->TS}(hc:C_ T.es X.N X.env.scope h x=true)(hr:PH X bz tr):∃th:Addr->TS,PH X (x::bz) th /\
  ∀c C D ρ σ H,T.es.contains c=true->X.mg c=some (.ref C)->σ.length=X.N.length->oC ρ σ->(iR c h.cls=true->h.free ρ=true/\∃w,h.v.val c ρ=some w/\∀u H2,ae H H2->(∀O,(∀a∈O,H a≠none)->Rep X.K (al H2 O) w u)->D.nx (sO h σ u) H2)->(iR c h.cls=false->tr C D σ H)->th C D σ H:=by
 obtain⟨⟨cn,nm,y,v⟩,e1,a1⟩:=ag hc;simp only[n4,FW]at a1;obtain⟨⟨⟨⟨⟨⟨⟨⟨⟨rfl,h2⟩,h3⟩,h4⟩,h5⟩,h6⟩,h7⟩,G⟩,h9⟩,a5⟩:=a1;obtain⟨np,py,p,pos,rfl⟩:=u9 e1;obtain⟨Dc,ds,m1,m2,_,_,_⟩:=qi g h4;obtain⟨t,ht,hn,hv⟩:=DK g a5;have ao:∀C ea oe,oe.cls=.ref C->PSs (X.within ea oe) [.Assign [.Name y py] v p] (λD σ H=>(∃c,T.es.contains c=true/\X.mg c=some (.ref C))/\rN (t C ea oe) (d_ h.i) D σ H):=λC ea oe Z pins s σ H D I q=>by
  obtain⟨⟨c,hc,J⟩,q⟩:=q;exact jz (gE (X:=X.within ea oe) d.nd h5 (fc h6) (ht c C ea oe hc J Z) (cG hn _ _ _) (.inl (d.fn y))) pins s σ H D I q
 have key:∀c C,T.es.contains c=true->X.mg c=some (.ref C)->∃ms,fM X.K C ms=true/\(Value.ref C::ms).contains (.ref Dc)=iR c h.cls:=λc C hc J=>by
  obtain⟨C',ms,n1,n2,_,_,n3⟩:=qi g hc;rw[J]at n1;cases n1;exact⟨ms,n2,(n3 _ Dc h4 m1).1⟩
 cases nm with
 |none =>
  have he:h.e=none:=by
   cases z:h.e with
   |none=>rfl
   |some k=>rw[z]at G;cases G
  refine⟨_,xr (cw h2) m1 m2 (bW h3).1 (λC ea oe Z _=>ao C ea oe Z) hr,λc C D ρ σ H hc J hl aO k1 k2=>?_⟩;obtain⟨ms,n2,n3⟩:=key c C hc J;refine⟨ms,n2,?_⟩;rw[n3];split
  .rename_i z;intro ea oe Z;obtain⟨_,s,e2,q⟩:=k1 z;refine⟨⟨c,hc,J⟩,hv c C ea oe ρ σ H _ s hc J Z (λk z=>by rw[he]at z;cases z) aO e2 λu H2 s2 ru=>?_⟩;have q:=q u H2 s2 ru;unfold sO at q;rw[he]at q;exact q
  .rename_i z;exact k2 (Bool.eq_false_iff.mpr z)
 |some n =>
  have⟨U,he⟩:∃U,h.e=some U:=by
   cases z:h.e with
   |none=>rw[z]at G;cases G
   |some k=>exact⟨k,rfl⟩
  rw[he]at G h9;have G:(X.N[U]?==some n&&X.env.scope.names.lookup n==some .local)=true:=G;simp only[n4,FW]at G;have bp:U≠h.i:=λz=>(Gx h9) (by rw[z])
  refine⟨_,CU (cw h2) m1 m2 (bW h3).1 d.nd G.1 G.2 (λC ea oe Z _=>ao C ea oe Z) hr,λc C D ρ σ H hc J hl aO k1 k2=>?_⟩;obtain⟨ms,n2,n3⟩:=key c C hc J;refine⟨ms,n2,?_⟩;rw[n3];split
  .rename_i z;intro ea oe Z;obtain⟨Y,s,e2,q⟩:=k1 z;unfold HH.free at Y;rw[he]at Y;have Y:(ρ[U]?).join=none:=Hz.mp Y;have a4:oC ρ (σ.set U (some (.ref ea))):=λi n e=>by
    rw[F1 λ(z:U=i)=>by rw[<- z,Y]at e;cases e];exact aO i n e
   have b1:U<σ.length:=by rw[hl];exact(D2.mp G.1).1
   refine⟨⟨c,hc,J⟩,hv c C ea oe ρ (σ.set U (some (.ref ea))) H _ s hc J Z (λk z=>?_) a4 e2 λu H2 s2 ru=>?_⟩
   .rw[he]at z;cases z;exact Gu b1
   .have q:=q u H2 s2 ru;unfold sO at q;rw[he]at q;show D.nx (((σ.set U (some (.ref ea))).set h.i (some u)).set U none) H2;rw[vC bp];exact q
  .rename_i z;exact k2 (Bool.eq_false_iff.mpr z)
theorem oE(g:Gf X T k cal)(d:Df X):∀{hs:List HH}{xs:List ExceptHandler},qU T.es X.N X.env.scope hs xs=true->∃th:Addr->TS,PH X xs th /\
  ∀c C D ρ σ H h,T.es.contains c=true->X.mg c=some (.ref C)->σ.length=X.N.length->oC ρ σ->(hs.find? λh=>iR c h.cls)=some h->(h.free ρ=true/\∃w,h.v.val c ρ=some w/\∀u H2,ae H H2->(∀O,(∀a∈O,H a≠none)->Rep X.K (al H2 O) w u)->D.nx (sO h σ u) H2)->th C D σ H
 | [],[],_=>⟨_,Ap,λc C D ρ σ H h _ _ _ _ z=>by cases z⟩
 | [],_::_,z=>by cases z
 | _::_,[],z=>by cases z
 |h::hs,x::xs,hc=>by
  obtain⟨c1,c2⟩:=ek.mp hc;obtain⟨tr,Z,kr⟩:=oE g d c2;obtain⟨th,ph,kh⟩:=x9 g d c1 Z;refine⟨th,ph,λc C D ρ σ H h' hc U Y G J q=>kh c C D ρ σ H hc U Y G (λz=>?_) λz=>?_⟩
  .rw[find?_cons_of_pos (p:=λh:HH=>iR c h.cls) z]at J;cases J;exact q
  .rw[find?_cons_of_neg (p:=λh:HH=>iR c h.cls) (by rw[z];simp)]at J;exact kr c C D ρ σ H h' hc U Y G J q
theorem oF:∀{hs:List HH}{xs:List ExceptHandler},qU T.es X.N X.env.scope hs xs=true->∀h∈hs,h.i<X.N.length/\h.e≠some h.i
 | [],[],_=>λh hh=>by cases hh
 | [],_::_,z=>by cases z
 | _::_,[],z=>by cases z
 |h::hs,x::xs,hc=>λh' hh=>by
  obtain⟨c1,c2⟩:=ek.mp hc;rcases y1.mp hh with rfl|hh
  .obtain⟨q,D,c1⟩:=ag c1;simp only[n4,FW]at c1;exact⟨(D2.mp c1.1.1.1.1.1.2).1,Gx c1.1.2⟩
  .exact oF c2 h' hh
def ar.forget{K:IF}{B H:Hp}{A O:List Addr}{ρ:Rho}{σ:St}{j:Nat}(st:ar K B A O H ρ σ)(G:(ρ[j]?).join=none):ar K B A O H ρ (σ.set j none):=by
 have ne:∀(i:Nat) (m:MV),ρ[i]?=some (some m)->j≠i:=λi m e z=>by
  subst z;rw[e]at G;cases G
 refine⟨st.keep,st.here,st.sub,st.old,by rw[GK];exact st.len,λi m e=>?_,λi J m U a D Y Z o1 o2 e3 e4=>?_
  ⟩
 .rw[F1 (ne i m e)];exact st.slot i m e
 .rw[F1 (ne i m Y)]at e3;rw[F1 (ne J U Z)]at e4;exact st.apart i J m U a D Y Z o1 o2 e3 e4
def aW.forget{B:Hp}{O D:List Addr}{ρ E:Rho}{σ M:St}{j:Nat}(k:aW B O D ρ E σ M)(G:(E[j]?).join=none):aW B O D ρ E σ (M.set j none):=by
 have ne:∀(i:Nat) (m:MV),E[i]?=some (some m)->j≠i:=λi m e z=>by
  subst z;rw[e]at G;cases G
 refine⟨k.stay,k.new,λi m b e=>?_,k.len
  ,λi d e=>?_
  ⟩
 .rw[F1 (ne i m e)];exact k.brw i m b e
 .rw[F1 (ne i _ e)];exact k.mutK i d e
def x_{K:IF}{B H:Hp}{A O:List Addr}{ρ:Rho}{σ:St}(st:ar K B A O H ρ σ):oC ρ σ:=λi n e=>by
 obtain⟨u,z,r⟩:=st.slot i _ (av e);have r:Rep K (al H O) (.int n) u:=r;rw[z,show u=.int n from by simpa only[Rep]using r]
def vD{j:Option Nat}{f:Nat}{ms:List ME}{hs:List HH}{th:Addr->TS}{D:nt}{σ:St}{H:Hp}(Z:σ.length=X.N.length)(hj:∀i,j=some i->i<X.N.length)(hi:∀h∈hs,h.i<X.N.length/\h.e≠some h.i)
  (kh:∀c C D ρ σ H h,T.es.contains c=true->X.mg c=some (.ref C)->σ.length=X.N.length->oC ρ σ->(hs.find? λh=>iR c h.cls)=some h->(h.free ρ=true/\∃w,h.v.val c ρ=some w/\∀u H2,ae H H2->(∀O,(∀a∈O,H a≠none)->Rep X.K (al H2 O) w u)->D.nx (sO h σ u) H2)->th C D σ H) (q:tS X.K cal (.tryC j f ms hs) D σ H) :
  tAs X.K cal ms σ H λvs H1=>spE X.K X.mg T.es cal f vs H1 (λu H2=>match j with|none=>D.nx σ H2|some i=>D.nx (σ.set i (some u)) H2) λc _ H2=>∃C,c=.ref C/\th C D σ H2:=by
 obtain⟨B,A,O,ρ,st,q⟩:=q;rw[ex]at q;cases e:(evA cal ms ρ).bind λvs=>cal (f+5000) vs with
 |none=>rw[e]at q;exact(show False from q).elim
 |some r =>
  rw[e]at q;obtain⟨vs,e1,e2⟩:=l0.mp e;refine⟨B,A,O,ρ,vs,st,e1,λus H1 s1 pa=>⟨O,vs,r,aS s1 st.here,pa,e2,?_⟩⟩;clear e e1 e2;split at q
  .rename_i v hr;cases hr;refine .inl ⟨v,rfl,λu H2 s2 ru=>?_⟩;have J:=(st.mono s1).mono s2;cases j with
   |none=>exact q σ H2 O J .refl
   |some i =>
    obtain⟨U,k2⟩:=J.store (i:=i) (by rw[Z];exact hj i rfl) ru;exact q _ H2 O U k2
  .rename_i c hr;cases hr;split at q
   .rename_i h hf;split at q
    .rename_i s hv;split at q
     .rename_i G;refine .inr ⟨c,rfl,λC H2 hc hm s2=>⟨C,rfl,kh c C D ρ σ H2 h hc hm Z (x_ st) hf ⟨G,s,hv,λu H3 s3 ru=>?_⟩⟩⟩;have Y:=(st.mono s1).mono s2;have J:=Y.mono s3;have a2:h.i<σ.length:=by rw[Z];exact(hi h (Ho hf)).1
      obtain⟨U,k2⟩:=J.store (i:=h.i) a2 (ru O Y.here);unfold sO;unfold HH.free at G;cases he:h.e with
      |none=>exact q _ H3 O U k2
      |some ke =>
       rw[he]at G;have hn:(ρ[ke]?).join=none:=Hz.mp G;have hp:((put ρ h.i (.val s))[ke]?).join=none:=by
        rw[af λz=>(hi h (Ho hf)).2 (by rw[he,z])];exact hn
       exact q _ H3 O (U.forget hp) (k2.forget hp)
     .exact(show False from q).elim
    .exact(show False from q).elim
   .exact(show False from q).elim
  .exact(show False from q).elim
def Bj{j:Option Nat}{f:Nat}{ms:List ME}{hs:List HH}{s:Stmt}(g:Gf X T k cal)(d:Df X)(hc:dR T X.N X.env.scope (.tryC j f ms hs) s=true)(ha:∀es,chks T ms X.N X.env.scope es=true->PA X.nox es (tAs X.K cal ms)/\es.all ac=true):PS X s (tS X.K cal (.tryC j f ms hs)):=by
 obtain⟨q,e1,hc⟩:=ag hc;obtain⟨b,U,hc⟩:=ag hc;obtain⟨Y,e3,hc⟩:=ag hc;obtain⟨pos,rfl⟩:=xJ e1;obtain⟨bs,h0,ht⟩:=q;obtain⟨bj,be,bp⟩:=b;obtain⟨cp,cpos,Z⟩:=cO e3;have Z:be=.Call (.Name Y.1 cp) Y.2 [] cpos:=Z;subst Z;simp only[n4,FW,F2]at hc;obtain⟨⟨⟨⟨⟨⟨h1,h2⟩,h3⟩,h4⟩,h5⟩,h6⟩,h7⟩:=hc;obtain⟨fn,args⟩:=Y;obtain⟨fa,fd,ps,m1,m2,m3,F⟩:=g.fnsE f fn h2;obtain⟨pa,G⟩:=ha args h5;obtain⟨th,ph,kh⟩:=oE g d h7;have hi:∀h∈hs,h.i<X.N.length/\h.e≠some h.i:=oF h7
 match args,h6,pa,G,U with
 | [],h6,_,_,_=>cases h6
 |e::es,_,pa,G,U =>
  have J:=all_cons (f:=ac)▸G;rw[n4]at J;have px:=qO (X:=X) (p:=cp) (pos:=cpos) F g.room (cw h3) m1 m2 m3 pa (bW h4).1 (aP J.1 es _) (aV J.2);rcases xK U with⟨z,rfl⟩|⟨x,aO,z,rfl⟩
  .have z:bj=none:=z;subst z;have hj:j=none:=by
    cases j with
    |none=>rfl
    |some i=>cases h1
   subst hj;exact PS.imp' (Ao d.stk.1 d.stk.2 px ph rfl) λD σ H hl q=>vD hl (λi z=>by cases z) hi kh q
  .have z:bj=some (x,aO):=z;subst z;cases j with
   |none=>cases h1
   |some i =>
    have h1:(X.N[i]?==some x&&d8 X.env.scope x&&aj x)=true:=h1;simp only[n4,FW]at h1;exact PS.imp' (xq d.stk.1 d.stk.2 d.nd h1.1.1 (fc h1.1.2) (.inl (d.fn x)) px ph rfl) λD σ H hl q=>vD hl (λi' z=>by cases z;exact(D2.mp h1.1.1).1) hi kh q
noncomputable def tX(K:IF)(cal:Cal)(x:XE):TE:=λσ H Q=>∃B A O ρ v E,ar K B A O H ρ σ/\evX cal x ρ=some (v,E) /\
 ∀u H',ae (al H O) (al H' O)->ar K B A O H' E σ->aW B O O ρ E σ σ->Rep K (al H' O) v u->Q u H'
noncomputable def tXs(K:IF)(cal:Cal)(xs:List XE):TA:=λσ H Q=>∃B A O ρ vs E,ar K B A O H ρ σ/\evXs cal xs ρ=some (vs,E) /\
 ∀us H',ae (al H O) (al H' O)->ar K B A O H' E σ->aW B O O ρ E σ σ->Reps K (al H' O) vs us->Q us H'
def Bk(D:aw m=false)(h:PE X e (tE X.K cal m)):PE X e (tX X.K cal (.pure m)):=by
 refine h.imp λσ H Q q=>?_
 obtain⟨B,A,O,ρ,v,E,st,z,q⟩:=q;rw[evX,pf]at z;obtain⟨w,z,G⟩:=z;cases G;exact⟨B,A,O,ρ,v,st,z,λu H' s g=>q u H' (ah s) (st.mono s) .refl (g.2 D)⟩
def Bl(h:PE X e (tMr X.K cal f mask ms)):PE X e (tX X.K cal (.call f mask ms)):=by
 refine h.imp λσ H Q q=>?_
 obtain⟨B,A,O,ρ,v,E,st,U,q⟩:=q;obtain⟨ds,z,Y⟩:=sN (show kv cal f mask ms ρ=some _ from U);rw[l0]at z;obtain⟨vs,z,Z⟩:=z;refine⟨B,A,O,ρ,vs,v,ds,st,z,Z,λu us as H1 H' s1 G J hm ru=>?_⟩;obtain⟨D,k'⟩:=m6 G (st.mono s1) J hm Y;have own:=G.own (st.mono s1);exact q u H' ((ah s1).trans (gi (λa h=>(own a h).1) J)) D k' ru
def vE:∀{ns:List Int}{n},ns.getLast?=some n->(ns.map V.int).getLast?=some (V.int n):=by
 intro ns n h
 simp_all
def DL (hn:aR X.N X.env.scope i x=true) (G:(apos.endLine==cpos.line)=true):PE X (.Call (.Attribute (.Name x p) "pop" apos) [] [] cpos) (tX X.K cal (.pop i)):=by
 refine(z_ PySem.F.plainAttrs_list PySem.F.slot_list_pop PySem.F.type_list_pop Ab (bK hn) rfl G).imp λσ H Q q=>?_
 obtain⟨B,A,O,ρ,v,E,st,D,q⟩:=q;have D:At i ρ=some (v,E):=D;unfold At at D;cases hd:bo (ρ[i]?).join with
 |none=>rw[hd]at D;cases D
 |some d =>
  rw[hd]at D;cases d with
  |p ns =>
   rw[pf]at D;obtain⟨n,el,U⟩:=D;cases U;obtain⟨a,J,ha,hO,key⟩:∃a,σ[i]?=some (some (.ref a))/\H a=some (ia (.p ns))/\a∈O/\(ar X.K B A O (upd H a (ia (.p ns.dropLast))) (b5 ρ i (.p ns.dropLast)) σ/\aW B O O ρ (b5 ρ i (.p ns.dropLast)) σ σ):=by
    rcases cT hd with e|e
    .obtain⟨u,J,a,rfl,h1,h2,h3⟩:=aT st e;refine⟨a,J,h1,h2,?_⟩;have U:b5 ρ i (.p ns.dropLast)=put ρ i (.ownD (.p ns.dropLast)):=by unfold b5;rw[e];rfl
     rw[U];exact st.changeD (av e) J λ_=>aq
    .obtain⟨u,J,a,rfl,h1,h2,h3⟩:=aT st e;refine⟨a,J,h1,h2,?_⟩;have U:b5 ρ i (.p ns.dropLast)=put ρ i (.mutD (.p ns.dropLast)):=by unfold b5;rw[e];rfl
     rw[U];exact st.changeU (av e) J λ_=>aq
   have Y:ae (al H O) (al (upd H a (ia (.p ns.dropLast))) O):=λb o e=>by
    have hb:b∉O:=λz=>by rw[cy z]at e;cases e
    rw[aG hb]at e ⊢;rw[az (show b≠a from λz=>hb (z▸hO))];exact e
   have fin:=q (.int n) _ Y key.1 key.2 (b_ _ _);have Z:(ns.map V.int)[(ns.map V.int).length-1]?=some (V.int n):=by
    rw[<- getLast?_eq_getElem?];exact vE el
   refine⟨_,J,.inl ⟨rfl,ns.map V.int,SqL.of ha⟩,a,ns.map V.int,.int n,rfl,rfl,ha,Z,?_⟩;have e9:(ns.map V.int).dropLast=ns.dropLast.map V.int:=map_dropLast.symm;rw[e9];exact fin
  | _=>cases D
def DM(U:PE X l (tX X.K cal a))(Y:PE X r (tE X.K cal b)):PE X (.BinOp l (iT op) r pos) (tX X.K cal (.bin op a b)):=by
 refine(jS (kF op) U Y).imp λσ H Q q=>?_
 refine bq λZq Z=>?_
 obtain⟨B,A,O,ρ,v,E,st,D,q⟩:=q;rw[evX]at D;simp only[l0,pf]at D;obtain⟨⟨x,G⟩,D,y,e2,r,e3,e4⟩:=D;cases e4;refine Z ?_;exact⟨B,A,O,ρ,x,G,st,D,λux H1 v1 z k1 rx=>⟨B,A,O,G,y,z,e2,λuy H2 J g2=>⟨O,x,y,v,aS J z.here,.inl (Rep.mono (ah J) _ rx),g2.1,e3,λu H3 s3 ru=>q u H3 (v1.trans (ah (J.trans s3))) (z.mono (J.trans s3)) k1 ru⟩⟩⟩
def Fu(g:Gf X T k cal)(Y:T.fs[f]?=some x)(Z:glB X.env.scope x=true)(hn:aj x=true)(ha:PE X e (tX X.K cal a))(has:PA X es (tAs X.K cal ms))(D:ac e=true)(hs:es.all ac=true):PE X (.Call (.Name x p) (e::es) [] pos) (tX X.K cal (.fn f a ms)):=by
 obtain⟨fa,fd,ps,h1,h2,h3,F,_⟩:=g.fns f x Y;refine(jA F g.room (cw Z) h1 h2 h3 .nil g5 (aI ha has (aP D es _)) (bW hn).1 (aP D es _) (aV hs)).imp λσ H Q q=>?_
 refine bq λZq kq=>?_
 obtain⟨B,A,O,ρ,v,E,st,G,q⟩:=q;rw[evX]at G;simp only[l0,pf]at G;obtain⟨⟨w,J⟩,G,vs,e2,r,e3,e4⟩:=G;cases e4;refine kq ?_;refine⟨B,A,O,ρ,w,J,st,G,λux H1 v1 z k1 rx=>⟨B,A,O,J,vs,z,e2,λus H2 U g2=>⟨O,.val w::vs,v,aS U z.here,?_,e3,λu H3 s3 ru=>q u H3 (v1.trans (ah (U.trans s3))) (z.mono (U.trans s3)) k1 ru⟩⟩⟩;rw[Gj];exact .cons (show Rep X.K (al H2 O) w ux from Rep.mono (ah U) _ rx) g2
def DN:PA X [] (tXs X.K cal []):=by
 refine bn.imp λσ H Q q=>?_
 obtain⟨B,A,O,ρ,vs,E,st,z,q⟩:=q;cases z;exact q [] H (ae.refl _) st .refl .nil
def Bm(h:PE X e (tX X.K cal x))(hs:PA X es (tXs X.K cal xs))(Y:ac e=true):PA X (e::es) (tXs X.K cal (x::xs)):=by
 refine(aI h hs (aP Y es _)).imp λσ H Q q=>?_
 refine bq λZq Z=>?_
 obtain⟨B,A,O,ρ,vs,E,st,z,q⟩:=q;rw[evXs]at z;simp only[l0,pf]at z;obtain⟨⟨v,D⟩,z,⟨ws,ao⟩,e2,e3⟩:=z;cases e3;refine Z ?_;exact⟨B,A,O,ρ,v,D,st,z,λu H1 v1 G k1 ru=>⟨B,A,O,D,ws,_,G,e2,λus H2 U J k2 rs=>q _ H2 (v1.trans U) J (k1.trans k2) (.cons (Rep.mono U _ ru) rs)⟩⟩
def DO(h:PA X es (tXs X.K cal xs)):PE X (.Tuple es j pos) (tX X.K cal (.tup xs)):=by
 refine(pw h).imp λσ H Q q=>?_
 obtain⟨B,A,O,ρ,v,E,st,D,q⟩:=q;rw[evX,l0]at D;obtain⟨⟨vs,Z⟩,D,G⟩:=D;dsimp only at G;split at G
 .rename_i hl;cases G;refine⟨B,A,O,ρ,vs,_,st,D,λus H1 v1 z k1 J=>⟨?_,λp U=>?_⟩⟩
  .rw[<- J.length];exact cb hl
  .have Y:ae H1 (upd H1 p (.tup us)):=aU U _;exact q _ _ (v1.trans (ah Y)) (z.mono Y) k1 (fb z.here U J)
 .cases G
def ya (g:Gf X T k cal) (U:glB X.env.scope ("tuple":Str)=true) (Y:PE X e (tX X.K cal a)) (hs:ac e=true):PE X (.Call (.Name ("tuple":Str) p) [e] [] pos) (tX X.K cal (.tupOf a)):=by
 refine(eV mW (cw U) (g.blt "tuple" (by decide)) iy (aI Y bn (aP hs _ _)) (by decide) (by decide) (aP hs [] _) (aV rfl)).imp λσ H Q q=>?_
 refine bq λZq Z=>?_
 obtain⟨B,A,O,ρ,v,E,st,z,q⟩:=q;rw[evX]at z;simp only[l0,pf]at z;obtain⟨⟨w,G⟩,z,r,e2,e3⟩:=z;cases e3;refine Z ?_;exact⟨B,A,O,ρ,w,G,st,z,λu H1 v1 D k1 ru=>⟨O,[w],_,D.here,.cons (.inl ru) .nil,e2,λu2 H2 J r2=>q u2 H2 (v1.trans (ah J)) (D.mono J) k1 r2⟩⟩
def DP(h:PA X es (tXs X.K cal xs)):PE X (.List es pos) (tX X.K cal (.lst xs)):=by
 refine(pz h).imp λσ H Q q=>?_
 obtain⟨B,A,O,ρ,v,E,st,D,q⟩:=q;rw[evX,l0]at D;obtain⟨⟨vs,Z⟩,D,G⟩:=D;dsimp only at G;split at G
 .rename_i hl;cases G;refine⟨B,A,O,ρ,vs,_,st,D,λus H1 v1 z k1 J=>⟨?_,λp U=>?_⟩⟩
  .rw[<- J.length];exact cb hl
  .have Y:ae H1 (upd H1 p (.lst us)):=aU U _;exact q _ _ (v1.trans (ah Y)) (z.mono Y) k1 (iu z.here U J)
 .cases G
def DQ(g:Gf X T k cal)(Z:T.fs[f]?=some x)(hg:glB X.env.scope x=true)(hn:aj x=true)(hm:PE X l (tE X.K cal m))(hb:aw m=false)(ha:PE X r (tX X.K cal a))(z:ac l=true)(D:ac r=true):PE X (.Call (.Name x p) [l,r] [] pos) (tX X.K cal (.fn2 f m a)):=by
 obtain⟨fa,fd,ps,h1,h2,h3,F,_⟩:=g.fns f x Z;refine(jA F g.room (cw hg) h1 h2 h3 .nil g5 (aI hm (aI ha bn (aP D _ _)) (aP z _ _)) (bW hn).1 (aP z [r] _) (aV (by rw[all_cons,D];rfl))).imp λσ H Q q=>?_
 refine bq λZq kq=>?_
 obtain⟨B,A,O,ρ,v,E,st,G,q⟩:=q;rw[evX]at G;simp only[l0,pf]at G;obtain⟨w,G,⟨U,a5⟩,e2,r,e3,e4⟩:=G;cases e4;refine kq ?_;refine⟨B,A,O,ρ,w,st,G,λux H1 s1 g1=>⟨B,A,O,ρ,U,_,st.mono s1,e2,λuy H2 Y J k2 ry=>⟨O,[.val w,.val U],v,J.here,?_,e3,λu H3 s3 ru=>q u H3 ((ah s1).trans (Y.trans (ah s3))) (J.mono s3) k2 ru⟩⟩⟩;rw[Gj];exact .cons (show Rep X.K _ w ux from Rep.mono Y _ (g1.2 hb)) (.cons (show Rep X.K _ U uy from ry) .nil)
def yb(g:Gf X T k cal)
  (ao:bV X.env.scope X.N scope y (aB X.N js) js=true) (hw:PI X (.Name y py) it (tW X.K cal .seq [src])) (ap:c9 it=true) (hb:aw src=false) (aO:js.Nodup) (he:∀z D C fp,PE (X.blk y (aB X.N js) scope z D C fp) el (tSr X.K cal j e f mask ms)) :
  PE X (.ListComp el [⟨.Name y py,it,[],0⟩] scope cpos) (tX X.K cal (.compS src js j e f mask ms)):=by
 refine(mH (tt:=tT X.K cal (.cst (.bl true))) (dB ao) g.calm hw (λz D C fp=>i4 (show jh (λ_=>false) (.cst _) []=true from rfl) λc hc=>nomatch hc) he (by intro v;cases it<;>first|rfl|(simp[c9]at ap))).imp λσ H Q q=>?_
 obtain⟨B,A,O,ρ,v,E,st,G,q⟩:=q;rw[evX]at G;simp only[l0]at G;obtain⟨vs,e2,xs,e3,G⟩:=G;split at G
 .rename_i U;rw[pf]at G;obtain⟨⟨ws,a6⟩,e1,e4⟩:=G;cases e4;have Y:aX [src] ρ σ=[]:=by
   cases src<;>first|rfl|(cases hb;done)
  refine⟨B,A,O,ρ,vs,xs,st,e2,e3,λJ H1 s1 Z D' hD=>?_⟩;rw[Y]at Z;exact jk aO st s1 Z U e1 hD λH' v' a1 k' ru=>q _ H' v' a1 k' ru
 .cases G
noncomputable def tWX(K:IF)(cal:Cal)(y:XE):TI:=λσ H R =>
 ∃B A O ρ v E xs,ar K B A O H ρ σ/\evX cal y ρ=some (v,E)/\ba .rng [v]=some xs/\∀J H1,ae (al H O) (al H1 O)->ar K B A O H1 E σ->aW B O O ρ E σ σ->i3 K J xs (al H1 O) (aN B O H1 (aX [.cst v] E σ))->R J H1
def kM (g:Gf X T k cal) (J:glB X.env.scope ("range":Str)=true) (h:PE X e (tX X.K cal y)) (hs:ac e=true):PI X tg (.Call (.Name ("range":Str) p) [e] [] pos) (tWX X.K cal y):=by
 refine(lC (cw J) (g.blt "range" (by decide)) (aI h bn (aP hs _ _)) (aP hs _ _)).imp λσ H R q=>?_
 obtain⟨B,A,O,ρ,v,E,xs,st,U,z,q⟩:=q;refine⟨B,A,O,ρ,v,E,st,U,λu H1 Y D k1 G=>?_⟩;cases v with
 |int j =>
  simp only[ba]at z;split at z
  .rename_i c;cases z;rw[Rep]at G;subst G;exact⟨j,rfl,c.1,c.2,q _ _ Y D k1 kH⟩
  .cases z
 | _=>simp[ba]at z
def yc{y:XE}{js:List Nat}{j:SK}{e:ME}{f:Nat}{D:List Bool}{ms:List ME}{z:Str}{py p rp cpos:Pos}{el a:Expr}{scope:Scope}(g:Gf X T k cal)
  (ao:bV X.env.scope X.N scope z (aB X.N js) js=true) (hg:glB X.env.scope ("range":Str)=true) (h:PE X a (tX X.K cal y)) (hs:ac a=true) (ap:js.Nodup) (he:∀G U C fp,PE (X.blk z (aB X.N js) scope G U C fp) el (tSr X.K cal j e f D ms)) :
  PE X (.ListComp el [⟨.Name z py,.Call (.Name ("range":Str) p) [a] [] rp,[],0⟩] scope cpos) (tX X.K cal (.compR y js j e f D ms)):=by
 refine(mH (tt:=tT X.K cal (.cst (.bl true))) (dB ao) g.calm (kM g hg h hs) (λG U C fp=>i4 (show jh (λ_=>false) (.cst (.bl true)) []=true from rfl) λc hc=>nomatch hc) he (by intro v;rfl)).imp λσ H Q q=>?_
 obtain⟨B,A,O,ρ,v,E,st,Y,q⟩:=q;rw[evX]at Y;simp only[l0]at Y;obtain⟨⟨w,aO⟩,e1,xs,e2,Y⟩:=Y;split at Y
 .rename_i Z;rw[pf]at Y;obtain⟨⟨ws,bp⟩,e3,e4⟩:=Y;cases e4;exact⟨B,A,O,ρ,w,aO,xs,st,e1,e2,λJ H1 v1 a1 k1 a2 D' hD=>jk ap a1 (ae.refl H1) a2 Z e3 hD λH' v' a3 k' ru=>q _ H' (v1.trans v') a3 (k1.trans k') ru⟩
 .cases Y
def Bn{op:Op2}{a:ME}{b:XE}{l r:Expr}{pos:Pos}(J:aw a=false)(U:PE X l (tE X.K cal a))(Y:PE X r (tX X.K cal b)):PE X (.BinOp l (iT op) r pos) (tX X.K cal (.binR op a b)):=by
 refine(jS (kF op) U Y).imp λσ H Q q=>?_
 obtain⟨B,A,O,ρ,v,E,st,z,q⟩:=q;rw[evX]at z;simp only[l0,pf]at z;obtain⟨x,z,⟨y,Z⟩,e2,r,e3,e4⟩:=z;cases e4;exact⟨B,A,O,ρ,x,st,z,λux H1 s1 g1=>⟨B,A,O,ρ,y,_,st.mono s1,e2,λuy H2 G D k2 ry=>⟨O,x,y,v,D.here,.inl (Rep.mono G _ (g1.2 J)),.inl ry,e3,λu H3 s3 ru=>q u H3 ((ah s1).trans (G.trans (ah s3))) (D.mono s3) k2 ru⟩⟩⟩
def yd {i:Nat}{x:Str}{p apos cpos:Pos} (g:Gf X T k cal) (hn:aR X.N X.env.scope i x=true) (J:(apos.endLine==cpos.line)=true):PE X (.Call (.Attribute (.Name x p) ("next_word":Str) apos) [] [] cpos) (tX X.K cal (.nextw i)):=by
 obtain⟨C,hC,_⟩:=g.wini;have one:∀G,IsW X.K G->G=C:=λG h=>by
  have:=h.symm.trans hC;cases this
  rfl
 by_cases hL:cal 4000 []=none
 .intro pins s σ H Q I q;obtain⟨B,A,O,ρ,v,E,st,D,q⟩:=q;have D:ky cal i ρ=some (v,E):=D;unfold ky at D;split at D
  .rw[if_pos hL]at D;cases D
  .cases D
 .obtain⟨c1,_,fa,fd,ps,h1,h3,F⟩:=g.wcls C hC;refine(jV (bK hn) c1 h1 F (cI.mono (g.wlvl hL) (by decide)) h3 .nil g5 (mZ rfl (by decide) J)).imp λσ H Q q=>?_
  obtain⟨B,A,O,ρ,v,E,st,D,q⟩:=q;have D:ky cal i ρ=some (v,E):=D;unfold ky at D;split at D
  .rename_i ws n hd;rw[if_neg hL,pf]at D;obtain⟨y,ey,Y⟩:=D;cases Y;obtain⟨a,U,dat,hO,key⟩:∃a,σ[i]?=some (some (.ref a))/\DAt X.K H O a (.w ws n)/\a∈O/\∀Z,(al (upd H a Z) O=al H O->DAt X.K (upd H a Z) O a (.w ws (n+1)))->ar X.K B A O (upd H a Z) (b5 ρ i (.w ws (n+1))) σ/\aW B O O ρ (b5 ρ i (.w ws (n+1))) σ σ:=by
    rcases cT hd with e|e
    .obtain⟨u,U,a,rfl,h1,h2,h3⟩:=aT st e;refine⟨a,U,h1,h2,λZ hd=>?_⟩;have Y:b5 ρ i (.w ws (n+1))=put ρ i (.ownD (.w ws (n+1))):=by unfold b5;rw[e];rfl
     rw[Y];exact st.changeD (av e) U hd
    .obtain⟨u,U,a,rfl,h1,h2,h3⟩:=aT st e;refine⟨a,U,h1,h2,λZ hd=>?_⟩;have Y:b5 ρ i (.w ws (n+1))=put ρ i (.mutD (.w ws (n+1))):=by unfold b5;rw[e];rfl
     rw[Y];exact st.changeU (av e) U hd
   obtain⟨G,dx,l,h4,h5,h6⟩:=dat;obtain rfl:=one G h5;have ap:ae (al H O) (al (upd H a (.ins G dx (wGs l (n+1:Nat)))) O):=λb o e=>by
    have hb:b∉O:=λz=>by rw[cy z]at e;cases e
    rw[aG hb]at e ⊢;rw[az (show b≠a from λz=>hb (z▸hO))];exact e
   obtain⟨aO,k'⟩:=key (.ins G dx (wGs l (n+1:Nat))) λa1=>⟨G,dx,l,aq,h5,by rw[a1];exact h6⟩
   exact⟨_,U,a,dx,_,rfl,h4,rfl,a,dx,l,n,ws.map V.str,.str y,rfl,h4,(bB H O).seq h6,by rw[Ga,ey];rfl,q _ _ ap aO k' (ir _ _)⟩
  .cases D
mutual
theorem cA(g:Gf X T k cal):∀(x:XE) (e:Expr),br T x X.N X.env.scope e=true->PE X e (tX X.K cal x)
 | .pure m,e,h=>by
  have h:(chk T m X.N X.env.scope e&&!aw m&&bC e)=true:=h;simp only[n4,F2]at h;exact Bk h.1.2 (am m g h.1.1).1
 | .call f mask ms,e,h=>by
  obtain⟨y,p,args,cp,rfl,hq⟩:=gR (show cz T f mask ms X.N X.env.scope e=true from h);simp only[n4,FW,GB,F2]at hq;obtain⟨⟨⟨⟨⟨⟨q1,q2⟩,q3⟩,q4⟩,q5⟩,q6⟩,q7⟩:=hq;cases args with
  |nil=>cases q7
  |cons a args=>exact Bl (rg g q1 q2 q3 (kK g mask ms (a::args) q4 q5 q6) (aY q4).1)
 | .pop i,e,h=>by
  obtain⟨q,D,h⟩:=ag (show onQ (p6 e) (λq=>aR X.N X.env.scope i q.1&&q.2.1==("pop":Str)&&q.2.2.1.endLine==q.2.2.2.line)=true from h);obtain⟨y,m,ap,cp⟩:=q;obtain⟨p,rfl⟩:=mP D;obtain⟨G,J⟩:=ek.mp h;obtain⟨h1,h2⟩:=ek.mp G;obtain rfl:m=("pop":Str):=eq_of_beq h2;exact DL h1 J
 | .bin op a b,e,h=>by
  obtain⟨q,D,h⟩:=ag (show onQ (sA e) (λq=>q.2.1==iT op&&br T a X.N X.env.scope q.1&&chk T b X.N X.env.scope q.2.2)=true from h);obtain⟨l,o,r⟩:=q;obtain⟨pos,rfl⟩:=mT D;obtain⟨G,J⟩:=ek.mp h;obtain⟨h1,h2⟩:=ek.mp G;obtain rfl:o=iT op:=eq_of_beq h1;exact DM (cA g a l h2) (am b g J).1
 | .fn f a ms,e,h=>by
  obtain⟨q,D,h⟩:=ag (show onQ (fnQ e) (λq=>T.fs[f]?==some q.1&&glB X.env.scope q.1&&aj q.1&&br T a X.N X.env.scope q.2.1&&ac q.2.1&&chks T ms X.N X.env.scope q.2.2)=true from h);obtain⟨y,l,r⟩:=q;obtain⟨p,pos,rfl⟩:=iX D;obtain⟨G,U⟩:=ek.mp h;obtain⟨a2,h5⟩:=ek.mp G;obtain⟨a3,h4⟩:=ek.mp a2;obtain⟨a4,J⟩:=ek.mp a3;obtain⟨h1,h2⟩:=ek.mp a4;exact Fu g (eq_of_beq h1) h2 J (cA g a l h4) (soundA ms g U) h5 (aY U).1
 | .tup xs,e,h=>by
  obtain⟨q,D,h⟩:=ag (show onQ (AH e) (λq=>chkXEs T xs X.N X.env.scope q)=true from h);obtain⟨j,pos,rfl⟩:=xF D;exact DO (soundXEs g xs q h)
 | .lst xs,e,h=>by
  obtain⟨q,D,h⟩:=ag (show onQ (AI e) (λq=>chkXEs T xs X.N X.env.scope q)=true from h);obtain⟨pos,rfl⟩:=xG D;exact DP (soundXEs g xs q h)
 | .fn2 f m a,e,h=>by
  obtain⟨q,D,h⟩:=ag (show onQ (AJ e) (λq=>T.fs[f]?==some q.1&&glB X.env.scope q.1&&aj q.1&&chk T m X.N X.env.scope q.2.1&&!aw m&&ac q.2.1&&br T a X.N X.env.scope q.2.2&&ac q.2.2)=true from h);obtain⟨y,l,r⟩:=q;obtain⟨p,pos,rfl⟩:=xH D;obtain⟨G,h8⟩:=ek.mp h;obtain⟨a2,h7⟩:=ek.mp G;obtain⟨a3,U⟩:=ek.mp a2;obtain⟨a4,h5⟩:=ek.mp a3;obtain⟨a5,h4⟩:=ek.mp a4;obtain⟨a6,J⟩:=ek.mp a5;obtain⟨h1,h2⟩:=ek.mp a6;exact DQ g (eq_of_beq h1) h2 J (am m g h4).1 (by simpa using h5) (cA g a r h7) U h8
 | .tupOf a,e,h=>by
  obtain⟨q,D,h⟩:=ag (show onQ (fnQ e) (λq=>q.1==("tuple":Str)&&glB X.env.scope q.1&&q.2.2.isEmpty&&br T a X.N X.env.scope q.2.1&&ac q.2.1)=true from h);obtain⟨y,l,r⟩:=q;obtain⟨p,pos,rfl⟩:=iX D;obtain⟨G,h5⟩:=ek.mp h;obtain⟨a2,h4⟩:=ek.mp G;obtain⟨a3,J⟩:=ek.mp a2;obtain⟨h1,h2⟩:=ek.mp a3;obtain rfl:y=("tuple":Str):=eq_of_beq h1;obtain rfl:r=[]:=GX.mp J;exact ya g h2 (cA g a l h4) h5
 | .compS src js j m f mask ms,e,h=>by
  obtain⟨c,e2,h2⟩:=ag (show onQ (kC e) (λc=>bV X.env.scope X.N c.2.1 c.2.2.1 (aB X.N js) js&&kA X.env.scope false (λxs=>chks T [src] X.N X.env.scope xs) .seq c.2.2.2&&!aw src&&mS T j m f mask ms (c.2.2.1::aB X.N js) (d6 c.2.1 X.env.scope) c.1&&decide js.Nodup)=true from h);obtain⟨py,cpos,rfl⟩:=ie e2;obtain⟨el,scope,y,it⟩:=c;simp only[n4,F2,GB]at h2;obtain⟨⟨⟨⟨h5,U⟩,h7⟩,h8⟩,h9⟩:=h2;have hw:=gT (tg:=.Name y py) (λz=>by cases z) g U (λxs bp=>⟨sounds [src] g bp,aY bp⟩) (λm x hm hx=>by cases hm;exact(am src g (by simp only[chks,n4]at hx;exact hx.1.1)).1);exact yb g h5 hw.1 hw.2 h7 h9 λY Z C fp=>m7 (g.blk y (aB X.N js) scope Y Z C fp) h8
 | .nextw i,e,h=>by
  obtain⟨q,D,h⟩:=ag (show onQ (p6 e) (λq=>aR X.N X.env.scope i q.1&&q.2.1==("next_word":Str)&&q.2.2.1.endLine==q.2.2.2.line)=true from h);obtain⟨y,m,ap,cp⟩:=q;obtain⟨p,rfl⟩:=mP D;obtain⟨G,J⟩:=ek.mp h;obtain⟨h1,h2⟩:=ek.mp G;obtain rfl:m=("next_word":Str):=eq_of_beq h2;exact yd g h1 J
 | .binR op a b,e,h=>by
  obtain⟨q,D,h⟩:=ag (show onQ (sA e) (λq=>q.2.1==iT op&&chk T a X.N X.env.scope q.1&&!aw a&&br T b X.N X.env.scope q.2.2)=true from h);obtain⟨l,o,r⟩:=q;obtain⟨pos,rfl⟩:=mT D;obtain⟨G,h4⟩:=ek.mp h;obtain⟨a2,J⟩:=ek.mp G;obtain⟨h1,h2⟩:=ek.mp a2;obtain rfl:o=iT op:=eq_of_beq h1;exact Bn (by simpa using J) (am a g h2).1 (cA g b r h4)
 | .compR y js j m f mask ms,e,h=>by
  obtain⟨c,e2,h2⟩:=ag (show onQ (kC e) (λc=>bV X.env.scope X.N c.2.1 c.2.2.1 (aB X.N js) js&&onQ (fnQ c.2.2.2) (λq=>q.1==("range":Str)&&glB X.env.scope q.1&&q.2.2.isEmpty&&br T y X.N X.env.scope q.2.1&&ac q.2.1)&&mS T j m f mask ms (c.2.2.1::aB X.N js) (d6 c.2.1 X.env.scope) c.1&&decide js.Nodup)=true from h);obtain⟨py,cpos,rfl⟩:=ie e2;obtain⟨el,scope,z,it⟩:=c;simp only[n4,GB]at h2;obtain⟨⟨⟨h5,U⟩,h8⟩,h9⟩:=h2;obtain⟨q,e3,U⟩:=ag U;obtain⟨r,a,as⟩:=q;obtain⟨p,rp,e4⟩:=iX e3;simp only[n4,FW]at U;obtain⟨⟨⟨⟨k1,k2⟩,k3⟩,k4⟩,k5⟩:=U;dsimp only at e4 k1 k2 k3 k4 k5;obtain rfl:as=[]:=GX.mp k3;subst k1;subst e4;exact yc g h5 k2 (cA g y a k4) k5 h9 λY Z C fp=>m7 (g.blk z (aB X.N js) scope Y Z C fp) h8
theorem soundXEs(g:Gf X T k cal):∀(xs:List XE) (es:List Expr),chkXEs T xs X.N X.env.scope es=true->PA X es (tXs X.K cal xs)
 | [],es,h=>by
  cases es with
  |nil=>exact DN
  |cons _ _=>cases h
 |x::xs,es,h=>by
  cases es with
  |nil=>cases h
  |cons e es =>
   have h:(br T x X.N X.env.scope e&&ac e&&chkXEs T xs X.N X.env.scope es)=true:=h;simp only[n4]at h;exact Bm (cA g x e h.1.1) (soundXEs g xs es h.2) h.1.2
end
def Bo(d:Df X)(hi:X.N[i]?=some x)(hx:Loc X.env.scope x)(h:PE X v (tX X.K cal y))(hc:bC v=true):PS X (.Assign [.Name x px] v pos) (tS X.K cal (.setX i y)):=
 PS.imp' (gE d.nd hi hx h (cG hc _ _ _) (.inl (d.fn x))) λD σ H J q=>by
  obtain⟨B,A,O,ρ,st,q⟩:=q;rw[ex]at q;cases e:evX cal y ρ with
  |none=>rw[e]at q;exact(show False from q).elim
  |some cr =>
   obtain⟨s,E⟩:=cr;rw[e]at q;refine⟨B,A,O,ρ,s,E,st,e,λu H' _ z U Y=>?_⟩;obtain⟨G,k2⟩:=z.store (ltN hi J) Y;exact q _ H' O G (U.trans k2)
def ye(h:PE X v (tX X.K cal y)):PS X (.Return (some v) pos) (tS X.K cal (.retXE y)):=by
 refine(gC h).imp λD σ H q=>?_
 obtain⟨B,A,O,ρ,st,q⟩:=q;rw[ex]at q;cases e:evX cal y ρ with
 |none=>rw[e]at q;exact(show False from q).elim
 |some cr =>
  obtain⟨s,E⟩:=cr;rw[e]at q;exact⟨B,A,O,ρ,s,E,st,e,λu H' _ z G J=>q u σ H' O z G J⟩
def Bp(h:PE X v (tX X.K cal y))(hn:aR X.N X.env.scope i x=true)(hs:ac v=true)(G:(apos.endLine==cpos.line)=true) :
  PS X (.Expr (.Call (.Attribute (.Name x p) "append" apos) [v] [] cpos) pos) (tS X.K cal (.appX i y)):=by
 refine(mv (nF PySem.F.plainAttrs_list PySem.F.slot_list_append PySem.F.type_list_append gc (bK hn) (aI h bn (aP hs _ _)) rfl (by rw[aP hs];rfl) G (aP hs _ _) rfl) rfl).imp λD σ H q=>?_
 obtain⟨B,A,O,ρ,st,q⟩:=q;rw[ex]at q;cases Z:(ρ[i]?).join with
 |none=>rw[Z]at q;exact(show False from q).elim
 |some m =>
  rw[Z]at q;cases m with
  |own ao =>
   dsimp only at q;obtain⟨a3,eu,a,J,rfl,ha,_,hO,_⟩:=aT st Z;cases e:evX cal y ρ with
   |none=>rw[e]at q;exact(show False from q).elim
   |some cr =>
    obtain⟨w,E⟩:=cr;rw[e]at q;dsimp only at q;cases z:(E[i]?).join with
    |none=>rw[z]at q;exact(show False from q).elim
    |some m' =>
     rw[z]at q;cases m' with
     |own xs =>
      dsimp only at q;split at q
      .rename_i hl;refine⟨_,eu,.inl ⟨rfl,J,SqL.of ha⟩,B,A,O,ρ,w,E,st,e,λu H1 v1 U k1 ru=>?_⟩;refine bq λZq kq=>?_
       obtain⟨u1,Y,a1,us,e5,aO,rs,_,_⟩:=aT U z;rw[eu]at Y;cases Y;cases e5;refine kq ?_;refine⟨a,us,u,rfl,rfl,aO,?_,?_⟩
       .rw[<- rs.length];exact FU hl (by decide)
       .obtain⟨a2,k2⟩:=U.change (us:=us++[u]) (ys:=xs++[w]) (av z) eu (rs.snoc ru);exact q _ _ _ a2 (k1.trans k2)
      .exact(show False from q).elim
     | _=>exact(show False from q).elim
  | _=>exact(show False from q).elim
def ar.storeP{K:IF}(st:ar K B A O H ρ σ)(hi:i<σ.length)(s:ae H H')(G:H p=none)(D:H' p=some (.lst us))(r:Reps K (al H' (p::O)) (ns.map .int) us):ar K B A (p::O) H' (put ρ i (.ownD (.p ns))) (σ.set i (some (.ref p)))/\aW B O (p::O) ρ (put ρ i (.ownD (.p ns))) σ (σ.set i (some (.ref p))):=by
 have J:=r.ints;subst J;exact st.storeM hi s G (by rw[D];simp) rfl (λ_ z=>by cases z) λU=>⟨p,rfl,D,GG,U⟩
def Bq {px p p2 pos2 Z pos:Pos} (g:Gf X T k cal) (d:Df X) (hi:X.N[i]?=some x) (hx:Loc X.env.scope x) (h1:glB X.env.scope ("list":Str)=true) (h2:glB X.env.scope ("reversed":Str)=true) (h:PE X e (tE X.K cal Y)) (hs:ac e=true):PS X (.Assign [.Name x px] (.Call (.Name ("list":Str) p) [.Call (.Name ("reversed":Str) p2) [e] [] pos2] [] Z) pos) (tS X.K cal (.setP i Y)):=by
 refine PS.imp' (gE d.nd hi hx (pO g.calm (cw h1) (g.blt "list" (by decide)) rb (cw h2) (g.blt "reversed" (by decide)) h (aP hs _ _)) (cG (v:=.Call _ _ _ _) rfl _ _ _) (.inl (d.fn x))) λD σ H hl q=>?_
 obtain⟨B,A,O,ρ,st,q⟩:=q;rw[ex]at q;cases G:ev cal Y ρ with
 |none=>rw[G]at q;exact(show False from q).elim
 |some w =>
  rw[G]at q;cases w with
  |lst xs =>
   dsimp only at q;cases J:cm xs with
   |none=>rw[J]at q;exact(show False from q).elim
   |some ns =>
    rw[J]at q;have e3:=kz J;subst e3;refine⟨B,A,O,ρ,_,st,G,λu H1 s1 g1=>?_⟩;obtain⟨a,us,rfl,sq,rs⟩:=g1.1.lst;have e4:=rs.ints;subst e4;refine⟨a,_,rfl,sq,λl z=>?_⟩;rw[show(ns.map V.int).reverse=ns.reverse.map V.int from map_reverse.symm];obtain⟨U,k'⟩:=st.storeP (ns:=ns.reverse) (ltN hi hl) (s1.trans (aU z (.lst (ns.reverse.map V.int)))) (s1.free z) aq (Reps.of_ints _);exact q _ _ _ U k'
  | _=>exact(show False from q).elim
def kN{ss:List Stmt}:PSs X ss (λ_ _ _=>False):=λ_ _ _ _ _ _ h=>h.elim
def vF {i:Nat}{x:Str}{p Y Z pos:Pos}{a:List Stmt} (g:Gf X T k cal) (hn:aR X.N X.env.scope i x=true) (G:(Y.endLine==Z.line)=true):PS X (.If (.Call (.Attribute (.Name x p) ("are_left":Str) Y) [] [] Z) a [] pos) (tS X.K cal (.nomore i)):=by
 obtain⟨C,hC,_⟩:=g.wini;have one:∀J,IsW X.K J->J=C:=λJ h=>by
  have:=h.symm.trans hC;cases this
  rfl
 by_cases hL:cal 4000 []≠none
 .obtain⟨c1,⟨fa,fd,ps,h1,h3,F⟩,_⟩:=g.wcls C hC;refine(nu (o9 (jV (bK hn) c1 h1 F (cI.mono (g.wlvl hL) (by decide)) h3 .nil g5 (mZ rfl (by decide) G)) (by intro w;rfl)) kN gZ).imp λD σ H q=>?_
  obtain⟨B,A,O,ρ,st,q⟩:=q;rw[ex]at q;split at q
  .rename_i ws n hd;split at q
   .rename_i hc;obtain⟨a,U,dat⟩:∃a,σ[i]?=some (some (.ref a))/\DAt X.K H O a (.w ws n):=by
     rcases cT hd with e|e
     .obtain⟨u,U,a,rfl,h1,_⟩:=aT st e;exact⟨a,U,h1⟩
     .obtain⟨u,U,a,rfl,h1,_⟩:=aT st e;exact⟨a,U,h1⟩
    obtain⟨J,dx,l,h4,h5,h6⟩:=dat;obtain rfl:=one J h5;refine⟨_,U,a,dx,_,rfl,h4,rfl,a,dx,l,(n:Nat),ws.map V.str,rfl,h4,(bB H O).seq h6,false,?_,?_⟩
    .rw[FY,hc.1];simp
    .exact q σ H O st .refl
   .exact(show False from q).elim
  .exact(show False from q).elim
 .intro pins s σ H D I q;obtain⟨B,A,O,ρ,st,q⟩:=q;rw[ex]at q;split at q
  .rw[if_neg λz=>hL z.2]at q;exact(show False from q).elim
  .exact(show False from q).elim
def Br{d:Addr}{o:Obj}{es:Array DictEntry}{ep:Nat}(z:(d==sysModules)=false)(D:List.lookup d X.K=some o)(hx:o.ExactDict)(hd:o.data=.dict es ep)(hh:∀e∈es,∃k,Value.isStrOf k e.key=true/\e.hash=hashStr X.w k) :
  OpR X (compareOp .NotIn) (λx y H Q=>∃k,x=.str k/\y=.ref d/\Q (.bl (!(findBy Value.isStrOf es k).isSome)) H):=by
 rintro pins s σ H x y v u Q I G J ⟨k,rfl,rfl,q⟩;obtain⟨t,rfl⟩:=G;cases J;exact wpAny_notIn_of (knd:=strKind X.prog X.w) (k:=k) (f:=findBy Value.isStrOf es) (by show Value.isStrOf k (.str k t)=true;simp[Value.isStrOf]) z ⟨o,es,ep,I.kIn d o D,hx,hd,hh,λ_=>rfl⟩ ⟨.bl _,H,I.tok _,rfl,q⟩
def yf{x:Str}{m:ME}{l:Expr}{p cp pos:Pos}{a:List Stmt}(g:Gf X T k cal)(hg:glB X.env.scope x=true)(hn:aj x=true)(hc:(fm.any λt=>t.1==x)=true)(h:PE X l (tE X.K cal m)):PS X (.If (.Compare l [.NotIn] [.Name x p] cp) a [] pos) (tS X.K cal (.isKey x m)):=by
 obtain⟨t,G,rfl⟩:∃t∈fm,t.1=x:=by
  obtain⟨t,h1,h2⟩:=HM.mp hc;exact⟨t,h1,eq_of_beq h2⟩
 obtain⟨d,o,es,ep,h0,h1,h2,h3,h4,h5,h6⟩:=g.ct t G;refine(nu (qG (Br h0 h2 h3 h4 h5) h (qz (v:=.ref d) (cw hg) h1 rfl (bW hn).1) (by with_unfolding_all rfl)) kN gZ).imp λD σ H q=>?_
 obtain⟨B,A,O,ρ,st,q⟩:=q;rw[ex]at q;split at q
 .rename_i r J;rw[l0]at J;obtain⟨w,J,z⟩:=J;cases w with
  |str k =>
   have z:(((fm.find? λp=>decide (p.1=t.1)).bind λt=>t.2.find? λp=>decide (p.1=k)).map (·.2))=some r:=z;have et:fm.find? (λp=>decide (p.1=t.1))=some t:=by
    unfold fm at G ⊢;simp only[y1,F4,Gi]at G;subst G;simp
   rw[et,bind_some,pf]at z;obtain⟨Y,Z,rfl⟩:=z;obtain⟨val,u,f1,_⟩:=h6 Y (Ho Z);have U:=find?_some Z;have U:Y.1=k:=Gx U;refine⟨B,A,O,ρ,_,st,J,λuy H1 s1 g1=>⟨k,g1.1.str,rfl,false,?_,?_⟩⟩
   .rw[<- U,f1];rfl
   .exact q σ H1 O (st.mono s1) .refl
  | _=>cases z
 .exact(show False from q).elim
def DR {i:Nat}{m:ME}{e:Expr}{x:Str}{px p cp pos:Pos} (g:Gf X T k cal) (d:Df X) (hi:X.N[i]?=some x) (hx:Loc X.env.scope x) (hg:glB X.env.scope ("Words":Str)=true) (h:PE X e (tE X.K cal m)) (hs:ac e=true) :
  PS X (.Assign [.Name x px] (.Call (.Name ("Words":Str) p) [e] [] cp) pos) (tS X.K cal (.mkW i m)):=by
 by_cases hL:cal 4000 []≠none
 .obtain⟨C,hC,hm,fa,fd,ps,M,J,F⟩:=g.wini;refine PS.imp' (gE d.nd hi hx (wY M F (cI.mono (g.wlvl hL) (by decide)) (cw hg) hm J .nil g5 (aI h bn (aP hs _ _)) (by decide) (aP hs _ _) (aV rfl)) (cG (v:=.Call (.Name ("Words":Str) p) [e] [] cp) rfl _ _ _) (.inl (d.fn x))) λD σ H hl q=>?_
  obtain⟨B,A,O,ρ,st,q⟩:=q;rw[ex]at q;split at q
  .rename_i t e1;split at q
   .rename_i hc;refine⟨B,A,O,ρ,_,st,e1,λu H1 s1 g1 a dx U nd ne=>?_⟩;obtain rfl:=g1.1.str;have s2:ae H1 (upd (upd H1 dx (.own a)) a (.ins C dx [])):=λb u G=>by rw[az (a8 G U),az (a8 G nd)];exact G
    refine⟨a,dx,t,rfl,aq,hc.1,hc.2.1,λl H' Y ea el kp=>⟨rfl,?_⟩⟩;have Z:a≠l:=λz=>by rw[<- z,aq]at Y;cases Y
    have s3:ae H1 H':=λb u G=>kp b u (a8 G U) (s2 b u G)
    have ao:l∉a::O:=λz=>by
     rcases y1.mp z with z|z
     .exact Z z.symm
     .exact st.here l z (s1.free (s2.free Y))
    obtain⟨ap,k'⟩:=st.storeM (mm:=.ownD (.w (Txt.split t (" ":Str)) 0)) (ltN hi hl) (s1.trans s3) (s1.free U) (by rw[ea];simp) rfl (λ_ z=>by cases z) λhB=>⟨a,rfl,⟨C,dx,l,ea,hC,SqL.of (by rw[aG ao];exact el)⟩,GG,hB⟩
    exact q _ _ _ ap k'
   .exact(show False from q).elim
  .exact(show False from q).elim
 .intro pins s σ H D I q;obtain⟨B,A,O,ρ,st,q⟩:=q;rw[ex]at q;split at q
  .rw[if_neg λz=>hL z.2.2]at q;exact(show False from q).elim
  .exact(show False from q).elim
end
section
variable{K:IF}{B H:Hp}{A O:List Addr}{ρ:Rho}{σ:St}
def DS(D:ar K (aN B O H1 L) A G H' E M)(k:aW (aN B O H1 L) O G ρ E σ M):ae (al H1 O) (al H' G):=λb u e=>by
 have U:b∉O:=λz=>by rw[cy z]at e;cases e
 have J:aN B O H1 L b=some u:=cE b u e;rw[aG]
 .exact D.keep b u J
 .intro z;rcases k.new b z with q|q
  .exact U q
  .rw[J]at q;cases q
def yg{ms:List ME}(st:ar K B A O H ρ σ):ar K (aN B O H (aX ms ρ σ)) A O H (bF ms ρ) σ/\(bF ms ρ).length=ρ.length:=by
 have base:∀L:List Addr,(∀a∈L,∀(j:Nat) (ys:MV),(bF ms ρ)[j]?=some (some ys)->fP ys=true->σ[j]?≠some (some (.ref a)))->(∀(j:Nat) (m:MV),(bF ms ρ)[j]?=some (some m)->(∃ys,m=.brw ys/\ρ[j]?=some (some (.own ys))/\∃a,σ[j]?=some (some (.ref a))/\a∈L)\/ρ[j]?=some (some m))->(bF ms ρ).length=ρ.length ->
   ar K (aN B O H L) A O H (bF ms ρ) σ:=λL h1 h2 h3=>by
  have gl:=fS (O:=O) (L:=L) st.keep;have lg:=di (O:=O) (L:=L) st.keep;refine⟨gl,st.here,st.sub,λa ha z=>st.old a ha (lg.free z),h3.trans st.len,λj m e=>?_,λc d ps qs ad a7 e1 Z p1 p2 e3 e4=>?_
   ⟩
  .rcases h2 j m e with⟨ys,rfl,Z,a,ea,D⟩|Z
   .obtain⟨u,U,a',us,rfl,J,q2,Y,q4⟩:=st.slot j _ Z;rw[ea]at U;cases U;refine⟨_,ea,a,us,rfl,SqL.of ?_,q2⟩;unfold aN;rw[if_pos Y,if_pos D];exact J
   .obtain⟨u,U,q⟩:=st.slot j m Z;refine⟨u,U,?_⟩;cases m with
    |val v=>exact q
    |own ys =>
     obtain⟨a,us,rfl,J,q2,Y,q4⟩:=q;refine⟨a,us,rfl,J,q2,Y,?_⟩;unfold aN;rw[if_pos Y,if_neg λD=>h1 a D j (.own ys) e rfl U];exact q4
    |ownD ys =>
     obtain⟨a,rfl,J,Y,q4⟩:=q;refine⟨a,rfl,J,Y,?_⟩;unfold aN;rw[if_pos Y,if_neg λD=>h1 a D j (.ownD ys) e rfl U];exact q4
    |mutD ys =>
     obtain⟨a,rfl,J,Y,q4⟩:=q;refine⟨a,rfl,J,Y,?_⟩;unfold aN;rw[if_pos Y,if_neg λD=>h1 a D j (.mutD ys) e rfl U];exact q4
    |brwD ys=>obtain⟨a,rfl,J⟩:=q;exact⟨a,rfl,ae.rd lg J⟩
    |brw ys=>obtain⟨a,us,rfl,J,q2⟩:=q;exact⟨a,us,rfl,lg.seq J,q2⟩
  .rcases h2 c _ e1 with⟨_,rfl,_⟩|e1
   .cases p1
   .rcases h2 d _ Z with⟨_,rfl,_⟩|Z
    .cases p2
    .exact st.apart c d ps qs ad a7 e1 Z p1 p2 e3 e4
 have plain:bF ms ρ=ρ->aX ms ρ σ=[]->ar K (aN B O H (aX ms ρ σ)) A O H (bF ms ρ) σ/\(bF ms ρ).length=ρ.length:=λe1 Z=>by
  rw[Z];exact⟨base [] (λa ha=>by simp at ha) (λj m e=>.inr (by rw[e1]at e;exact e)) (by rw[e1]),by rw[e1]⟩
 match ms with
 | []=>exact plain rfl rfl
 | [.bor i] =>
  cases G:(ρ[i]?).join with
  |none=>exact plain (by simp[bF,G]) (by simp[aX,G])
  |some m =>
   cases m with
   |val _=>exact plain (by simp[bF,G]) (by simp[aX,G])
   |brw _=>exact plain (by simp[bF,G]) (by simp[aX,G])
   |ownD _=>exact plain (by simp[bF,G]) (by simp[aX,G])
   |mutD _=>exact plain (by simp[bF,G]) (by simp[aX,G])
   |brwD _=>exact plain (by simp[bF,G]) (by simp[aX,G])
   |own xs =>
    have el:bF [.bor i] ρ=put ρ i (.brw xs):=by simp[bF,G]
    have e0:=av G;obtain⟨u,U,a,us,rfl,J,q2,Y,q4⟩:=st.slot i _ e0;have eL:aX [.bor i] ρ σ=[a]:=by simp[aX,G,U]
    have a1:i<ρ.length:=(D2.mp e0).1;rw[eL];refine⟨base [a] (λb hb j ys e oy z=>?_) (λj m e=>?_) (by rw[el,cR]),by rw[el,cR]⟩
    .have:b=a:=by simpa using hb
     subst this;rw[el]at e;have a2:i≠j:=λz=>by subst z;rw[ak a1]at e;cases e;cases oy
     rw[af a2]at e;exact st.apart i j (.own xs) ys b a2 e0 e rfl oy U z
    .rw[el]at e;by_cases a3:i=j
     .subst a3;rw[ak a1]at e;cases e;exact .inl ⟨xs,rfl,e0,a,U,by simp⟩
     .rw[af a3]at e;exact .inr e
 | .var _::_=>exact plain rfl rfl
 | .cst _::_=>exact plain rfl rfl
 | .glob _ _::_=>exact plain rfl rfl
 | .bin _ _ _::_=>exact plain rfl rfl
 | .neg _::_=>exact plain rfl rfl
 | .not _::_=>exact plain rfl rfl
 | .and _ _::_=>exact plain rfl rfl
 | .or _ _::_=>exact plain rfl rfl
 | .ite _ _ _::_=>exact plain rfl rfl
 | .cmp _ _ _::_=>exact plain rfl rfl
 | .chain _ _ _ _ _::_=>exact plain rfl rfl
 | .tup _::_=>exact plain rfl rfl
 | .lst _::_=>exact plain rfl rfl
 | .idx _ _::_=>exact plain rfl rfl
 | .slice _ _ _::_=>exact plain rfl rfl
 | .blt _ _::_=>exact plain rfl rfl
 | .call _ _::_=>exact plain rfl rfl
 | .callD _ _ _::_=>exact plain rfl rfl
 | .comp _ _ _ _ _::_=>exact plain rfl rfl
 | .dget _ _ _::_=>exact plain rfl rfl
 | .dat _ _::_=>exact plain rfl rfl
 | .dIn _ _ _::_=>exact plain rfl rfl
 | .lenP _::_=>exact plain rfl rfl
 | .join _ _::_=>exact plain rfl rfl
 | .cdat _ _::_=>exact plain rfl rfl
 | .comp2 _ _ _ _::_=>exact plain rfl rfl
 | .bor _::_::_=>exact plain rfl rfl
def iz(h:(bF ms ρ)[j]?=some (some (.brw ys))):ρ[j]?=some (some (.brw ys))\/(ms=[.bor j]/\ρ[j]?=some (some (.own ys))):=by
 unfold bF at h;split at h
 .rename_i i;split at h
  .rename_i xs G;have J:=av G;have D:=(D2.mp J).1;by_cases z:i=j
   .subst z;rw[ak D]at h
    simp_all
   .rw[af z]at h;exact .inl h
  .exact .inl h
 .exact .inl h
def i5{j:Nat}(h:(bF ms ρ)[j]?=some (some (.brwD ys))):ρ[j]?=some (some (.brwD ys)):=by
 unfold bF at h;split at h
 .rename_i i;split at h
  .rename_i xs G;have J:=av G;have D:=(D2.mp J).1;by_cases z:i=j
   .subst z;rw[ak D]at h;cases h
   .rw[af z]at h;exact h
  .exact h
 .exact h
def sP{j:Nat}(h:(bF ms ρ)[j]?=some (some (.mutD ys))):ρ[j]?=some (some (.mutD ys)):=by
 unfold bF at h;split at h
 .rename_i i;split at h
  .rename_i xs G;have J:=av G;have D:=(D2.mp J).1;by_cases z:i=j
   .subst z;rw[ak D]at h;cases h
   .rw[af z]at h;exact h
  .exact h
 .exact h
def kO :(bF ms ρ).length=ρ.length:=by
 unfold bF;split
 .split
  .exact cR
  .rfl
 .rfl
def m8(st:ar K B A O H1 ρ σ)(D:ar K (aN B O H1 (aX ms ρ σ)) A O' H' E M)(k:aW (aN B O H1 (aX ms ρ σ)) O O' (bF ms ρ) E σ M) :
  ar K B A O' H' (bP ms ρ E) M/\aW B O O' ρ (bP ms ρ E) σ M:=by
 have lg:=di (O:=O) (L:=aX ms ρ σ) st.keep;have a6:=DS D k;have stay:∀a,B a≠none->a∈O->a∈O':=λa h1 h2=>k.stay a (λz=>h1 (lg.free z)) h2
 have new:∀a∈O',a∈O\/B a=none:=λa h=>(k.new a h).imp id lg.free
 have mutK:∀(j:Nat) d',E[j]?=some (some (.mutD d'))->(∃d,ρ[j]?=some (some (.mutD d)))/\M[j]?=σ[j]?:=λj d' e=>by
  obtain⟨⟨d,Z⟩,G⟩:=k.mutK j d' e;exact⟨⟨d,sP Z⟩,G⟩
 have slot:∀j m,E[j]?=some (some m)->(∀ys,m=.brw ys->¬ (ms=[.bor j]/\ρ[j]?=some (some (.own ys))))->∃u,M[j]?=some (some u)/\dO K B O' H' m u:=λj m e hn=>by
  obtain⟨u,eu,q⟩:=D.slot j m e;refine⟨u,eu,?_⟩;cases m with
  |val v=>exact q
  |own ys=>obtain⟨a,us,rfl,q1,q2,q3,q4⟩:=q;exact⟨a,us,rfl,q1,q2,q3,lg.free q4⟩
  |brw ys =>
   obtain⟨Z,G⟩:=k.brw j (.brw ys) rfl e;rcases iz Z with U|U
   .obtain⟨w,ew,a,us,rfl,q1,q2⟩:=st.slot j _ U;rw[eu,ew]at G;cases G;exact⟨a,us,rfl,q1,Reps.mono a6 _ q2⟩
   .exact absurd U (hn ys rfl)
  |brwD ys =>
   obtain⟨Z,G⟩:=k.brw j (.brwD ys) rfl e;obtain⟨w,ew,a,rfl,q1⟩:=st.slot j _ (i5 Z);rw[eu,ew]at G;cases G;exact⟨a,rfl,q1⟩
  | _=>obtain⟨a,rfl,q1,q3,q4⟩:=q;exact⟨a,rfl,q1,q3,lg.free q4⟩
 by_cases hA:∃i ao xs,ms=[.bor i]/\(ρ[i]?).join=some (.own ao)/\(E[i]?).join=some (.brw xs)
 .obtain⟨i,ao,xs,rfl,h0,h1⟩:=hA;have eb:bP [.bor i] ρ E=put E i (.own xs):=by simp[bP,h0,h1]
  rw[eb];have e0:=av h0;have Z:=av h1;have a1:=(D2.mp Z).1;obtain⟨el,es⟩:=k.brw i (.brw xs) rfl Z;have exs:xs=ao:=by
   rcases iz el with U|⟨_,U⟩
   .rw[e0]at U;cases U
   .rw[e0]at U;cases U;rfl
  subst exs;obtain⟨w,ew,a,us,rfl,q1,q2,q3,q4⟩:=st.slot i _ e0;have eL:aX [.bor i] ρ σ=[a]:=by simp[aX,h0,ew]
  have ga:aN B O H1 (aX [.bor i] ρ σ) a=some (.lst us):=by
   unfold aN;rw[eL,if_pos q3,if_pos (by simp)];exact q1
  have other:∀(j:Nat) ys ad,E[j]?=some (some ys)->fP ys=true->M[j]?=some (some (.ref ad))->ad≠a:=λj ys ad h1 oy h2 z=>by
   obtain⟨u,eu,qq⟩:=D.slot j _ h1;rw[h2]at eu;cases eu;cases ys with
   |own ys =>
    obtain⟨b,_,G,_,_,_,q⟩:=qq;cases G;rw[z,ga]at q;cases q
   |ownD ys|mutD ys =>
    obtain⟨b,G,_,_,q⟩:=qq;cases G;rw[z,ga]at q;cases q
   | _=>cases oy
  refine⟨⟨lg.trans D.keep,D.here,D.sub,st.old,by rw[cR];exact D.len,λj m e=>?_,λc d ps qs ad bp Z G p1 p2 U e4=>?_
   ⟩,⟨stay,new,λj ys Y e=>?_,by rw[cR];exact k.len.trans kO
   ,λj d' e=>?_
   ⟩⟩
  .by_cases J:i=j
   .subst J;rw[ak a1]at e;cases e;refine⟨_,by rw[es];exact ew,a,us,rfl,D.keep _ _ ga,Reps.mono a6 _ q2,k.stay a (by rw[ga];simp) q3,q4⟩
   .rw[af J]at e;exact slot j m e λys _ ⟨z,_⟩=>J (by cases z;rfl)
  .by_cases hc:i=c
   .subst hc;rw[es,ew]at U;cases U;rw[af bp]at G;exact other d qs _ G p2 e4 rfl
   .rw[af hc]at Z;by_cases hd:i=d
    .subst hd;rw[es,ew]at e4;cases e4;exact other c ps _ Z p1 U rfl
    .rw[af hd]at G;exact D.apart c d ps qs ad bp Z G p1 p2 U e4
  .by_cases J:i=j
   .subst J;rw[ak a1]at e;cases e;cases Y
   .rw[af J]at e;obtain⟨Z,G⟩:=k.brw j ys Y e;cases ys with
    |brw ys =>
     rcases iz Z with U|⟨z,_⟩
     .exact⟨U,G⟩
     .cases z;exact absurd rfl J
    |brwD ys=>exact⟨i5 Z,G⟩
    | _=>cases Y
  .by_cases J:i=j
   .subst J;rw[ak a1]at e;cases e
   .rw[af J]at e;exact mutK j d' e
 .have eb:bP ms ρ E=E:=by
   unfold bP;split
   .rename_i i;split
    .rename_i ao xs h0 h1;exact absurd ⟨i,ao,xs,rfl,h0,h1⟩ hA
    .rfl
   .rfl
  rw[eb];have no:∀j ys,E[j]?=some (some (.brw ys))->¬ (ms=[.bor j]/\ρ[j]?=some (some (.own ys))):=λj ys e ⟨h1,h2⟩=>hA ⟨j,ys,ys,h1,by rw[h2];rfl,by rw[e];rfl⟩
  refine⟨⟨lg.trans D.keep,D.here,D.sub,st.old,D.len,λj m e=>slot j m e λys z=>no j ys (by rw[e,z]),D.apart
   ⟩,⟨stay,new,λj ys Y e=>?_,k.len.trans kO
   ,λj d' e=>mutK j d' e
   ⟩⟩
  obtain⟨Z,G⟩:=k.brw j ys Y e;cases ys with
  |brw ys =>
   rcases iz Z with U|U
   .exact⟨U,G⟩
   .exact absurd U (no j ys e)
  |brwD ys=>exact⟨i5 Z,G⟩
  |val _=>cases Y
  |own _=>cases Y
  |ownD _=>cases Y
  |mutD _=>cases Y
end
section
variable{X:Cx}{T:Tab}{k:Nat}{cal:Cal}
def Bs(K:IF)(n:Nat)(g:TG)(tk:PV->Rho->Option Rho):Prop:=
 ∀B A O H ρ E σ x u (Q:St->Hp->Prop),σ.length=n->ar K B A O H ρ σ->Rep K (al H O) x u->tk x ρ=some E ->
  (∀M,ar K B A O H E M->aW B O O ρ E σ M->Q M H)->g u σ H Q
def oG{K:IF}(hn:σ.length=n)(hg:Bs K n g tk)(U:ar K B A O H1 ρ σ)(it:i3 K J xs (al H1 O) (aN B O H1 (aX ms ρ σ)))
  (q:dU K B A O ρ σ D ((bH (λx E=>gw (tk x E) λG=>exs cal body G) xs (bF ms ρ)).back ms ρ)):zM (λ_ _ R=>R J H1) g (tSs K cal body) D σ H1:=by
 obtain⟨bj,_⟩:=yg (ms:=ms) U;refine⟨λi m M H'=>m=xs.length-i/\i<=xs.length/\∃E O',ar K (aN B O H1 (aX ms ρ σ)) A O' H' E M/\aW (aN B O H1 (aX ms ρ σ)) O O' (bF ms ρ) E σ M /\
  bH (λx E=>gw (tk x E) λG=>exs cal body G) (xs.drop i) E=bH (λx E=>gw (tk x E) λG=>exs cal body G) xs (bF ms ρ),⟨xs.length,by simp,Gv _,bF ms ρ,O,bj,.refl,by simp⟩,?_⟩
 rintro i m M H' ⟨rfl,hi,E,O',Y,k',eq⟩;by_cases a4:i<xs.length
 .right;have ex:=F5 a4;refine⟨it.go i _ H' Y.keep ex,λa1 H2=>∃m',m'<xs.length-i/\(m'=xs.length-(i+1)/\i+1<=xs.length/\∃E O',ar K (aN B O H1 (aX ms ρ σ)) A O' H2 E a1/\aW (aN B O H1 (aX ms ρ σ)) O O' (bF ms ρ) E σ a1 /\
   bH (λx E=>gw (tk x E) λG=>exs cal body G) (xs.drop (i+1)) E=bH (λx E=>gw (tk x E) λG=>exs cal body G) xs (bF ms ρ)),λa1 H2 z=>z,λu H2 y=>?_⟩
  obtain⟨s2,hr⟩:=it.yld i _ H' u H2 Y.keep ex y;have bp:=DS Y k';have hx:=hr O' Y.here (bp.trans (ah s2));rw[GZ a4,bH]at eq;cases et:tk xs[i] E with
  |none =>
   rw[et]at eq;rw[<- eq]at q;exact(show False from q).elim
  |some Z =>
   rw[et,show gw (some Z) (λG=>exs cal body G)=exs cal body Z from rfl]at eq;have a5:M.length=n:=by rw[<- Y.len,k'.len,kO,U.len];exact hn
   refine hg _ A O' H2 E Z M _ u _ a5 (Y.mono s2) hx et λa1 b2 k2=>?_
   refine⟨_,A,O',Z,b2,?_⟩;have kk:=k'.trans k2;cases er:exs cal body Z with
   |next a2|cont a2 =>
    rw[er]at eq;exact λa3 H3 O3 ao k3=>⟨_,by omega,rfl,a4,a2,O3,ao,kk.trans k3,eq⟩
   |brk a2 =>
    rw[er]at eq;rw[<- eq]at q;exact λa3 H3 O3 ao k3=>by
     obtain⟨ap,kb⟩:=m8 U ao (kk.trans k3);exact q a3 H3 O3 ap kb
   |ret v =>
    rw[er]at eq;rw[<- eq]at q;exact λw H3 s3 r=>q w H3 ((di U.keep).trans s3) r
   |retM v a2 =>
    rw[er]at eq;rw[<- eq]at q;exact λu a3 H3 O3 ao k3 ru=>by
     obtain⟨ap,kb⟩:=m8 U ao (kk.trans k3);exact q u a3 H3 O3 ap kb ru
   |retF ys =>
    rw[er]at eq;rw[<- eq]at q;exact λp us H3 s3 hp he r=>q p us H3 ((di U.keep).trans s3) ((di U.keep).free hp) he r
   |bad =>
    rw[er]at eq;rw[<- eq]at q;exact(show False from q).elim
 .left;have ei:i=xs.length:=by omega
  subst ei;rw[ID,bH]at eq;rw[<- eq]at q;obtain⟨ap,kb⟩:=m8 U Y k';exact⟨it.stop H' Y.keep,q M H' O' ap kb⟩
def Bt{K:IF}(G:σ.length=n)(U:Bs K n g tk)(st:ar K B A O H ρ σ)(Y:evs cal ms ρ=some vs)(Z:ba k' vs=some xs)
  (q:dU K B A O ρ σ D ((bH (λx E=>gw (tk x E) λz=>exs cal body z) xs (bF ms ρ)).back ms ρ)):zM (tW K cal k' ms) g (tSs K cal body) D σ H:=by
 exact⟨B,A,O,ρ,vs,xs,st,Y,Z,λJ H1 s1 it=>oG G U (st.mono s1) it q⟩
def ri{K:IF}(hi:i<n):Bs K n (d_ i) (λx ρ=>some (put ρ i (.val x))):=by
 intro B A O H ρ E σ x u Q G st r e q;cases e;obtain⟨z,D⟩:=st.store (i:=i) (by omega) r;exact q _ z D
def Bu(g:Gf X T k cal)(d:Df X)(hi:X.N[i]?=some x)(hx:Loc X.env.scope x)(hw:PI X (.Name x px) it (tW X.K cal G src))(z:c9 it=true)(J:PSs X b (tSs X.K cal body)) :
  PS X (.For (.Name x px) it b [] pos) (tS X.K cal (.for1 i G src body)):=by
 refine PS.imp' (tJ d.own g.calm hw (f_ d.nd hi hx (.inl (d.fn x))) J (by intro v;cases it<;>first|rfl|(simp[c9]at z))) λD σ H U q=>?_
 obtain⟨B,A,O,ρ,st,q⟩:=q;rw[ex]at q;cases e:(evs cal src ρ).bind (ba G)with
 |none=>rw[e]at q;exact(show False from q).elim
 |some xs =>
  rw[e]at q;simp only[l0]at e;obtain⟨vs,Y,Z⟩:=e;exact Bt (tk:=λx ρ=>some (put ρ i (.val x))) rfl (ri (ltN hi U)) st Y Z q
def Bv (g:Gf X T k cal) (d:Df X) (hi:X.N[i]?=some x) (hx:Loc X.env.scope x) (Y:glB X.env.scope ("range":Str)=true) (h:PE X e (tX X.K cal y)) (hs:ac e=true) (Z:PSs X b (tSs X.K cal body)) :
  PS X (.For (.Name x px) (.Call (.Name ("range":Str) p) [e] [] rp) b [] pos) (tS X.K cal (.forX i y body)):=by
 refine PS.imp' (tJ d.own g.calm (kM g Y h hs) (f_ d.nd hi hx (.inl (d.fn x))) Z (by intro v;rfl)) λD σ H hl q=>?_
 obtain⟨B,A,O,ρ,st,q⟩:=q;rw[ex]at q;cases z:evX cal y ρ with
 |none=>rw[z]at q;exact(show False from q).elim
 |some pr =>
  obtain⟨v,E⟩:=pr;rw[z]at q;dsimp only at q;cases G:ba .rng [v]with
  |none=>rw[G]at q;exact(show False from q).elim
  |some xs =>
   rw[G]at q;refine⟨B,A,O,ρ,v,E,xs,st,z,G,λJ H1 _ U k1 it=>?_⟩;refine oG (ms:=[.cst v]) (tk:=λx ρ=>some (put ρ i (.val x))) rfl (ri (ltN hi hl)) U it ?_;have q2:=dU.trans q k1;have back:∀r:R,r.back [.cst v] E=r:=λr=>by cases r<;>rfl
   rw[back];exact q2
def rj{i:Nat}{J:ME}{x:Str}{v:Expr}{px pos:Pos}(g:Gf X T k cal)(d:Df X)(hi:X.N[i]?=some x)(hx:Loc X.env.scope x)(hc:chk T J X.N X.env.scope v=true)(hs:lY X.env.scope x px v J=true):∃t,PS X (.Assign [.Name x px] v pos) (rN t (d_ i))/\(∀σ H Q,tF X.K cal J σ H Q->t σ H Q)/\fR J=true:=by
 unfold lY at hs;rw[n4]at hs;obtain⟨hs,Y⟩:=hs;have Z:=ag hs;obtain⟨c,w,_⟩:=Z;obtain rfl:=mM w;cases J with
 |comp2 _ _ _ _=>cases Y
 |comp k' src js cond elt =>
  obtain⟨e,y,py,it,ifs,scope,cpos,e0,h⟩:=iW hc;rw[e0]at hs ⊢;simp only[n4,F2]at h;obtain⟨⟨⟨⟨h1,h2⟩,h3⟩,h4⟩,h5⟩:=h;have hw:=gT (tg:=.Name y py) (λz=>by cases z) g h2 (λxs U=>⟨sounds src g U,aY U⟩) (λm x hm hx=>match src,hm with|[m'],rfl=>(am m' g (b6 hx).1.1).1);exact⟨_,pK d.nd hi hx (dB h1) g.calm hw.1 (λD G C fp=>i4 h3 λc hc=>(am cond (g.blk y (aB X.N js) scope D G C fp) hc).2) (λD G C fp=>(am elt (g.blk y (aB X.N js) scope D G C fp) h4).1) (sJ d hs) (by have:=hw.2;intro v;cases it<;>first|rfl|(simp[c9]at this)) (.inl (d.fn x)),
   λσ H Q q=>qd.comp_go h5 q,rfl⟩
 | _=>cases (show false=true from hc)
def DT(J:fR G=true){K:IF}(q:tE K cal G σ H Q):tF K cal G σ H Q:=by
 obtain⟨B,A,O,ρ,v,st,z,q⟩:=q;have D:∃xs,v=.lst xs:=by
  cases G with
  |lst es =>
   rw[ev,l0]at z;obtain⟨vs,_,D⟩:=z;split at D
   .cases D;exact⟨_,rfl⟩
   .cases D
  |comp _ _ _ _ _=>exact oA ρ v z
  |blt b es=>cases b<;>first|exact eG (.inl rfl) ρ v z|exact eG (.inr (.inl rfl)) ρ v z|exact eG (.inr (.inr (.inl rfl))) ρ v z|exact eG (.inr (.inr (.inr (.inl rfl)))) ρ v z|exact eG (.inr (.inr (.inr (.inr rfl)))) ρ v z|(simp[fR]at J)
  | _=>simp[fR]at J
 obtain⟨xs,rfl⟩:=D;exact⟨B,A,O,ρ,xs,st,z,λp us H' s U Y r=>q _ _ s (ra st.here U Y r)⟩
end
section
variable{T:Tab}{N:List Str}{sc:Scope}
def yh(h:dR T N sc (.set i e) s=true):∃x px v pos,s=.Assign [.Name x px] v pos/\(N[i]?==some x&&d8 sc x&&aj x&&chk T e N sc v&&!aw e&&(bC v||lY sc x px v e))=true:=by
 obtain⟨q,z,h1⟩:=ag h;obtain⟨pos,rfl⟩:=gf z;exact⟨_,_,_,_,rfl,h1⟩
def yi{i:Nat}{e:ME}{s:Stmt}(h:dR T N sc (.setOwn i e) s=true):∃x px v pos,s=.Assign [.Name x px] v pos/\(N[i]?==some x&&d8 sc x&&aj x&&chk T e N sc v&&(fR e||AF e)&&(bC v||lY sc x px v e))=true:=by
 obtain⟨q,z,h1⟩:=ag h;obtain⟨pos,rfl⟩:=gf z;exact⟨_,_,_,_,rfl,h1⟩
def qj (h:dR T N sc (.append i e) s=true):∃x p m z v D pos,s=.Expr (.Call (.Attribute (.Name x p) m z) [v] [] D) pos/\(aR N sc i x&&m==("append":Str)&&chk T e N sc v&&!aw e&&ac v&&z.endLine==D.line)=true:=by
 obtain⟨q,G,h1⟩:=ag h;obtain⟨v,J,h2⟩:=ag h1;obtain⟨p,pos,rfl⟩:=mU G;rw[bJ J];exact⟨_,_,_,_,_,_,_,rfl,h2⟩
def qk (h:dR T N sc (.extend i e) s=true):∃x p m z v D pos,s=.Expr (.Call (.Attribute (.Name x p) m z) [v] [] D) pos/\(aR N sc i x&&m==("extend":Str)&&chk T e N sc v&&ac v&&z.endLine==D.line)=true:=by
 obtain⟨q,G,h1⟩:=ag h;obtain⟨v,J,h2⟩:=ag h1;obtain⟨p,pos,rfl⟩:=mU G;rw[bJ J];exact⟨_,_,_,_,_,_,_,rfl,h2⟩
def rk(h:dR T N sc (.ite c a b) s=true):∃t x y pos,s=.If t x y pos/\(chk T c N sc t&&chkSs T N sc a x&&chkSs T N sc b y)=true:=by
 cases s with
 |If t x y pos=>exact⟨t,x,y,pos,rfl,h⟩
 | _=>cases (show false=true from h)
def vG (h:dR T N sc (.forX i y body) s=true):∃x px it b pos,s=.For (.Name x px) it b [] pos/\(N[i]?==some x&&d8 sc x&&aj x&&onQ (fnQ it) (λq=>q.1==("range":Str)&&glB sc q.1&&q.2.2.isEmpty&&br T y N sc q.2.1&&ac q.2.1)&&chkSs T N sc body b)=true:=by
 rw[xO]at h;split at h
 .exact⟨_,_,_,_,_,rfl,h⟩
 .cases h
def vH(h:dR T N sc (.for1 i k src body) s=true):∃x px it b pos,s=.For (.Name x px) it b [] pos/\(N[i]?==some x&&d8 sc x&&aj x&&kA sc false (λxs=>chks T src N sc xs) k it&&chkSs T N sc body b)=true:=by
 simp[xP]at h;split at h<;>first|(cases h;done)|(rename_i z;cases z;exact⟨_,_,_,_,_,rfl,h⟩)|(injections;done)|(injections;subst_vars;exact⟨_,_,_,_,_,rfl,h⟩)
def vI(h:dR T N sc (.retM e) s=true):∃v pos,s=.Return (some v) pos/\(chk T e N sc v&&!aw e)=true:=by
 obtain⟨v,z,h1⟩:=ag h;obtain⟨pos,rfl⟩:=ig z;exact⟨_,_,rfl,h1⟩
def yj(h:dR T N sc (.ret e) s=true):∃v pos,s=.Return (some v) pos/\(chk T e N sc v&&!aw e)=true:=by
 obtain⟨v,z,h1⟩:=ag h;obtain⟨pos,rfl⟩:=ig z;exact⟨_,_,rfl,h1⟩
def ql(h:dR T N sc (.retOwn i) s=true):∃x p pos,s=.Return (some (.Name x p)) pos/\(aR N sc i x)=true:=by
 obtain⟨v,z,h1⟩:=ag h;obtain⟨x,D,h2⟩:=ag h1;obtain⟨pos,rfl⟩:=ig z;obtain⟨p,rfl⟩:=u7 D;exact⟨_,_,_,rfl,h2⟩
end
def sQ(g:Gf X T k cal)(d:Df X)(h:dR T X.N X.env.scope (.set i e) s=true):PS X s (tS X.K cal (.set i e)):=by
 obtain⟨x,px,v,pos,rfl,hc⟩:=yh h;simp only[n4,IB,FW,F2]at hc;obtain⟨⟨⟨⟨⟨h1,h2⟩,h3⟩,G⟩,J⟩,z⟩:=hc;rcases z with z|z
 .exact DF d h1 (fc h2) (am e g G).1 J z
 .obtain⟨t,p,U,Y⟩:=rj (pos:=pos) g d h1 (fc h2) G z;exact PS.imp' p λD σ H Z q=>U _ _ _ (DT Y (vo (ltN h1 Z) J q))
noncomputable def Bw:MS->Bool
 | .freeze _=>true
 | _=>false
mutual
theorem m9{T:Tab}{k:Nat}{cal:Cal}{X:Cx}(g:Gf X T k cal)(d:Df X):∀(m:MS) (s:Stmt),dR T X.N X.env.scope m s=true->PS X s (tS X.K cal m)
 | .set i e,s,h=>sQ g d h
 | .setOwn i e,s,h=>by
  obtain⟨x,px,v,pos,rfl,hc⟩:=yi h;simp only[n4,IB,FW]at hc;obtain⟨⟨⟨⟨⟨h1,h2⟩,Y⟩,U⟩,J⟩,G⟩:=hc;rcases G with G|G
  .rcases J with J|J
   .exact zh d h1 (fc h2) (Be g U J) G
   .exact zh d h1 (fc h2) (Bf g U J) G
  .obtain⟨t,p,hp,hf⟩:=rj (pos:=pos) g d h1 (fc h2) U G;exact PS.imp' p λD σ H hl q=>hp _ _ _ (vp (ltN h1 hl) q)
 | .append i e,s,h=>by
  obtain⟨x,p,m,ap,v,cp,pos,rfl,hc⟩:=qj h;simp only[n4,FW,F2]at hc;obtain⟨⟨⟨⟨⟨h1,rfl⟩,Y⟩,U⟩,J⟩,G⟩:=hc;exact vq (am e g Y).1 h1 U J (FW.mpr G)
 | .extend i e,s,h=>by
  obtain⟨x,p,m,ap,v,cp,pos,rfl,hc⟩:=qk h;simp only[n4,FW]at hc;obtain⟨⟨⟨⟨h1,rfl⟩,Y⟩,J⟩,G⟩:=hc;exact vt (am e g Y).1 h1 J (FW.mpr G)
 | .setIdx _ _ _,s,h=>absurd (show false=true from h) ow
 | .unpack _ _,s,h=>absurd (show false=true from h) ow
 | .expr _,s,h=>absurd (show false=true from h) ow
 | .ite c a b,s,h=>by
  obtain⟨t,x,y,pos,rfl,hc⟩:=rk h;simp only[n4]at hc;exact Ft (am c g hc.1.1).2 (soundSs g d a x hc.1.2) (soundSs g d b y hc.2)
 | .for1 i k' src body,s,h=>by
  obtain⟨x,px,it,b,pos,rfl,hc⟩:=vH h;simp only[n4,FW]at hc;obtain⟨⟨⟨⟨h1,h2⟩,Y⟩,U⟩,J⟩:=hc;have hw:=gT (tg:=.Name x px) (λz=>by cases z) g U (λxs bp=>⟨sounds src g bp,aY bp⟩) (λm x hm hx=>match src,hm with|[m'],rfl=>(am m' g (by simp only[chks,n4]at hx;exact hx.1.1)).1);exact Bu g d h1 (fc h2) hw.1 hw.2 (soundSs g d body b J)
 | .forT _ _ _ _,s,h=>absurd (show false=true from h) ow
 | .while _ _ _,s,h=>absurd (show false=true from h) ow
 | .ret e,s,h=>by
  obtain⟨v,pos,rfl,hc⟩:=yj h;simp only[n4,F2]at hc;exact DG (am e g hc.1).1 hc.2
 | .mkW i m,s,h=>by
  obtain⟨q,Z,hc⟩:=ag (show onQ (ly s) (λq=>onQ (jx q.2.2) λc=>X.N[i]?==some q.1&&d8 X.env.scope q.1&&aj q.1&&c.1==("Words":Str)&&glB X.env.scope c.1&&chks T [m] X.N X.env.scope c.2&&!aw m)=true from h);obtain⟨x,px,v⟩:=q;obtain⟨pos,rfl⟩:=gf Z;obtain⟨c,e2,hc⟩:=ag hc;obtain⟨f,args⟩:=c;obtain⟨p,cp,rfl⟩:=cO e2;obtain⟨a1,h7⟩:=ek.mp hc;obtain⟨a2,G⟩:=ek.mp a1;obtain⟨a3,J⟩:=ek.mp a2;obtain⟨a4,U⟩:=ek.mp a3;obtain⟨a5,Y⟩:=ek.mp a4;obtain⟨h1,h2⟩:=ek.mp a5;obtain rfl:f=("Words":Str):=eq_of_beq U
  match args,G with
  | [a],G =>
   simp only[chks,n4]at G;exact DR g d (eq_of_beq h1) (fc h2) J (am m g G.1.1).1 G.1.2
  | [],G=>simp[chks]at G
  | _::_::_,G=>simp[chks]at G
 | .nomore i,s,h=>by
  obtain⟨t,Z,hc⟩:=ag (show onQ (ifQ s) (λt=>onQ (p6 t) λq=>aR X.N X.env.scope i q.1&&q.2.1==("are_left":Str)&&q.2.2.1.endLine==q.2.2.2.line)=true from h);obtain⟨a,pos,rfl⟩:=u6 Z;obtain⟨q,e2,hc⟩:=ag hc;obtain⟨y,m,ap,cp⟩:=q;obtain⟨p,rfl⟩:=mP e2;obtain⟨a1,Y⟩:=ek.mp hc;obtain⟨h1,h2⟩:=ek.mp a1;obtain rfl:m=("are_left":Str):=eq_of_beq h2;exact vF g h1 Y
 | .isKey x m,s,h=>by
  obtain⟨t,Z,hc⟩:=ag (show onQ (ifQ s) (λt=>onQ (p7 t) λq=>q.2==x&&glB X.env.scope q.2&&aj q.2&&chk T m X.N X.env.scope q.1&&!aw m&&fm.any λt=>t.1==x)=true from h);obtain⟨a,pos,rfl⟩:=u6 Z;obtain⟨q,e2,hc⟩:=ag hc;obtain⟨l,y⟩:=q;obtain⟨p,cp,rfl⟩:=sx e2;obtain⟨a1,G⟩:=ek.mp hc;obtain⟨a2,J⟩:=ek.mp a1;obtain⟨a3,U⟩:=ek.mp a2;obtain⟨a4,Y⟩:=ek.mp a3;obtain⟨h1,h2⟩:=ek.mp a4;obtain rfl:y=x:=eq_of_beq h1;exact yf g h2 Y G (am m g U).1
 | .setP i e,s,h=>by
  obtain⟨q,Z,hc⟩:=ag (show onQ (ly s) (λq=>X.N[i]?==some q.1&&d8 X.env.scope q.1&&aj q.1&&onQ (AG q.2.2) λr=>r.1==("list":Str)&&r.2.1==("reversed":Str)&&glB X.env.scope r.1&&glB X.env.scope r.2.1&&chk T e X.N X.env.scope r.2.2&&ac r.2.2)=true from h);obtain⟨x,px,v⟩:=q;obtain⟨pos,rfl⟩:=gf Z;obtain⟨a1,U⟩:=ek.mp hc;obtain⟨a2,Y⟩:=ek.mp a1;obtain⟨h1,h2⟩:=ek.mp a2;obtain⟨r,e2,hr⟩:=ag U;obtain⟨f,f2,w⟩:=r;obtain⟨p,p2,pos2,cp,rfl⟩:=xE e2;obtain⟨b1,c6⟩:=ek.mp hr;obtain⟨b2,c5⟩:=ek.mp b1;obtain⟨b3,c4⟩:=ek.mp b2;obtain⟨b4,c3⟩:=ek.mp b3;obtain⟨c1,c2⟩:=ek.mp b4;obtain rfl:f=("list":Str):=eq_of_beq c1;obtain rfl:f2=("reversed":Str):=eq_of_beq c2;exact Bq g d (eq_of_beq h1) (fc h2) c3 c4 (am e g c5).1 c6
 | .setX i y,s,h=>by
  obtain⟨q,Z,hc⟩:=ag (show onQ (ly s) (λq=>X.N[i]?==some q.1&&d8 X.env.scope q.1&&aj q.1&&br T y X.N X.env.scope q.2.2&&bC q.2.2)=true from h);obtain⟨pos,rfl⟩:=gf Z;obtain⟨a2,J⟩:=ek.mp hc;obtain⟨a3,U⟩:=ek.mp a2;obtain⟨a4,Y⟩:=ek.mp a3;obtain⟨h1,h2⟩:=ek.mp a4;exact Bo d (eq_of_beq h1) (fc h2) (cA g y _ U) J
 | .appX i y,s,h=>by
  obtain⟨q,Z,hc⟩:=ag (show onQ (u5 s) (λq=>onQ (fQ q.2.2.2.1) λv=>aR X.N X.env.scope i q.1&&q.2.1==("append":Str)&&br T y X.N X.env.scope v&&ac v&&q.2.2.1.endLine==q.2.2.2.2.line)=true from h);obtain⟨v,e2,hc⟩:=ag hc;obtain⟨x,m,ap,as,cp⟩:=q;obtain⟨p,pos,rfl⟩:=mU Z;have e3:as=[v]:=bJ e2;subst e3;obtain⟨a2,J⟩:=ek.mp hc;obtain⟨a3,U⟩:=ek.mp a2;obtain⟨a4,Y⟩:=ek.mp a3;obtain⟨h1,h2⟩:=ek.mp a4;obtain rfl:m=("append":Str):=eq_of_beq h2;exact Bp (cA g y _ Y) h1 U J
 | .retXE y,s,h=>by
  obtain⟨v,Z,hc⟩:=ag (show onQ (qa s) (λv=>br T y X.N X.env.scope v)=true from h);obtain⟨pos,rfl⟩:=ig Z;exact ye (cA g y _ hc)
 | .forX i y body,s,h=>by
  obtain⟨x,px,it,b,pos,rfl,h⟩:=vG h;obtain⟨a1,J⟩:=ek.mp h;obtain⟨a2,U⟩:=ek.mp a1;obtain⟨a3,Y⟩:=ek.mp a2;obtain⟨h1,h2⟩:=ek.mp a3;obtain⟨q,Z,hc⟩:=ag U;obtain⟨f,e,es⟩:=q;obtain⟨p,rp,rfl⟩:=iX Z;obtain⟨b1,c5⟩:=ek.mp hc;obtain⟨b2,c4⟩:=ek.mp b1;obtain⟨b3,c3⟩:=ek.mp b2;obtain⟨c1,c2⟩:=ek.mp b3;obtain rfl:f=("range":Str):=eq_of_beq c1;have e3:es=[]:=GX.mp c3;subst e3;exact Bv g d (eq_of_beq h1) (fc h2) c2 (cA g y _ c4) c5 (soundSs g d body b J)
 | .retM e,s,h=>by
  obtain⟨v,pos,rfl,hc⟩:=vI h;simp only[n4,F2]at hc;exact Bg (am e g hc.1).1 hc.2
 | .retF _,s,h=>absurd (show false=true from h) ow
 | .setCall _ _ _,s,h=>absurd (show false=true from h) ow
 | .clear _,s,h=>absurd (show false=true from h) ow
 | .retOwn i,s,h=>by
  obtain⟨x,p,pos,rfl,hc⟩:=ql h;exact vv hc
 | .retN,s,h=>absurd (show false=true from h) ow
 | .brk,s,h=>absurd (show false=true from h) ow
 | .cont,s,h=>absurd (show false=true from h) ow
 | .pass,s,h=>absurd (show false=true from h) ow
 | .never,s,h=>by
  refine nv.imp λD σ H q=>?_
  obtain⟨B,A,O,ρ,st,q⟩:=q;rw[ex]at q;exact q
 | .raise c,s,h=>by
  refine nv.imp λD σ H q=>?_
  obtain⟨B,A,O,ρ,st,q⟩:=q;rw[ex]at q;exact q
 | .tryC j f es hs,s,h=>Bj g d h λxs hx=>⟨soundA es g.nox hx,(aY hx).1⟩
 | .newD _ _,s,h=>absurd (show false=true from h) ow
 | .dput _ _ _,s,h=>absurd (show false=true from h) ow
 | .freeze _,s,h=>absurd (show false=true from h) ow
theorem soundSs{T:Tab}{k:Nat}{cal:Cal}{X:Cx}(g:Gf X T k cal)(d:Df X):∀(ms:List MS) (ss:List Stmt),chkSs T X.N X.env.scope ms ss=true->PSs X ss (tSs X.K cal ms)
 | [],ss,h=>by
  cases ss with
  |nil=>exact DH
  |cons _ _=>cases h
 |m::ms,ss,h=>by
  cases hm:Bw m with
  |true =>
   cases m<;>simp[Bw]at hm
   cases h
  |false =>
   cases ss with
   |nil=>cases m<;>first|(cases h;done)|cases hm
   |cons s ss =>
    have h:(dR T X.N X.env.scope m s&&chkSs T X.N X.env.scope ms ss)=true:=by cases m<;>first|exact h|(simp[Bw]at hm)
    simp only[n4]at h;exact Bh (m9 g d m s h.1) (soundSs g d ms ss h.2)
end
def qm(X:Cx)(C:Addr)(H':Hp):Prop:=(∀pins s M h' ea vs,Inv X pins M H' s->Heap.MadeExcOf s.heap h' ea (.ref C) vs->X.xe (.ref ea) { s with heap:=h' }) /\
 (∀pins M H1 s1 ea s',Inv X pins M H1 s1->bO X.prog X.w X.stack H1 s1 ea C H' s'->X.xe (.ref ea) s')/\∀pins M ea s',nW X pins M ea C H' s'->X.xe (.ref ea) s'
def sR(es:List Str)(X:Cx)(B:Hp)(A O:List Addr)(ρ:Rho)(σ:St)(D:nt):RE->Prop
 | .fin r=>dU X.K B A O ρ σ D r
 | .err c=>∀C H',es.contains c=true->X.mg c=some (.ref C)->ae B H'->qm X C H'
theorem sR.trans{es:List Str}{X:Cx}{B:Hp}{A O z:List Addr}{ρ E:Rho}{σ M:St}{D:nt}{r:RE}(h:sR es X B A O ρ σ D r)(k:aW B O z ρ E σ M):sR es X B A z E M D r:=by
 cases r with
 |fin r=>exact dU.trans h k
 |err c=>exact h
noncomputable def tEX(es:List Str)(X:Cx)(cal:Cal)(ms:List MS):TS:=λD σ H=>∃B A O ρ,ar X.K B A O H ρ σ/\sR es X B A O ρ σ D (exsE cal ms ρ)
noncomputable def sS(es:List Str)(X:Cx)(cal:Cal)(m:MS):TS:=λD σ H=>∃B A O ρ,ar X.K B A O H ρ σ/\sR es X B A O ρ σ D (exE cal m ρ)
noncomputable def isX:MS->Bool
 | .raise _=>true
 | .setX _ _=>true
 | .retXE _=>true
 | .ite _ _ _=>true
 | _=>false
def dD{cal:Cal}{m:MS}{ρ:Rho}(h:isX m=false):exE cal m ρ=.fin (ex cal m ρ):=by
 cases m<;>first|(cases h;done)|rfl
def aH{T:Tab}{k:Nat}{cal:Cal}{X:Cx}(g:Gf X T k cal)(d:Df X){m:MS}{s:Stmt}(z:isX m=false)(h:dR T X.N X.env.scope m s=true):PS X s (sS T.es X cal m):=by
 refine PS.imp (vA (m9 g.nox d.nox m s h)) λD σ H q=>?_
 obtain⟨B,A,O,ρ,st,q⟩:=q;rw[dD z]at q;exact⟨B,A,O,ρ,st,q⟩
noncomputable def tFl(es:List Str)(X:Cx)(cal:Cal)(x:XE):TE:=λσ H _=>∃B A O ρ c,ar X.K B A O H ρ σ/\cq cal x ρ=some c/\∀C H',es.contains c=true->X.mg c=some (.ref C)->ae B H'->qm X C H'
def vJ{T:Tab}{k:Nat}{cal:Cal}{X:Cx}(g:Gf X T k cal){f:Nat}{z:List Bool}{ms:List ME}{e:Expr}(h:cz T f z ms X.N X.env.scope e=true):PX X e (iQ (spX X.K X.mg T.es cal f) (tAM X.K cal z ms)):=by
 obtain⟨y,p,args,U,rfl,G⟩:=gR h;simp only[n4,FW,GB,F2]at G;obtain⟨⟨⟨⟨⟨⟨Y,Z⟩,q3⟩,J⟩,q5⟩,q6⟩,q7⟩:=G;cases args with
 |nil=>cases q7
 |cons a args =>
  obtain⟨fa,fd,ps,m1,m2,m3,F⟩:=g.fnsX f y Y;have D:=all_cons (f:=ac)▸(aY J).1;rw[n4]at D;exact qO (X:=X) (p:=p) (pos:=U) F g.room (cw Z) m1 m2 m3 (kK g.nox z ms (a::args) J q5 q6) (bW q3).1 (aP D.1 args _) (aV D.2)
def zj{T:Tab}{cal:Cal}{X:Cx}{f:Nat}{D:List Bool}{ms:List ME}{B H:Hp}{A O:List Addr}{ρ:Rho}{σ:St}{c:Str}{E:XK}{Q:VK}(st:ar X.K B A O H ρ σ)(e:((evM cal D ms ρ).bind λvs=>cal (f+5000) vs)=some (.str c))
  (th:∀C H',T.es.contains c=true->X.mg c=some (.ref C)->ae B H'->E (.ref C) none H'):iQ (spX X.K X.mg T.es cal f) (tAM X.K cal D ms) σ H Q E:=by
 obtain⟨vs,Z,e2⟩:=l0.mp e;refine⟨B,A,O,ρ,vs,st,Z,λus H1 as s1 pa Y=>?_⟩;obtain⟨G,J⟩:=Y.at (st.mono s1);have own:=Y.own (st.mono s1);refine⟨O,vs,c,G,as,aS s1 st.here,pa,J,e2,λC H' hc hm hk=>th C H' hc hm λb o U=>hk b o (λz=>?_) (s1 b o (st.keep b o U))⟩;rw[(own b z).2.1]at U;cases U
def yk{T:Tab}{k:Nat}{cal:Cal}{X:Cx}(g:Gf X T k cal){f:Nat}{D:List Bool}{ms:List ME}{e:Expr}(h:cz T f D ms X.N X.env.scope e=true):PE X e (tFl T.es X cal (.call f D ms)):=by
 intro pins s σ H Q I q;obtain⟨B,A,O,ρ,c,st,G,q⟩:=q;rw[cq]at G;split at G
 .rename_i Z J;cases G;refine vJ g h pins s σ H Q (λc _ H1=>∃C,c=.ref C/\qm X C H1) X.xe I (zj st J λC H' hc U s1=>⟨C,rfl,q C H' hc U s1⟩) λH1 s1 er s' Y hx=>?_
  obtain⟨ea,C,H2,rfl,F,C',e',z⟩:=hx;cases e';exact z.2.1 pins σ H1 s1 ea s' Y F
 .cases G
theorem PX.or{X:Cx}{e:Expr}{t:TE}{t':TX}(h:PE X.nox e t)(h':PX X e t'):PX X e λσ H Q E=>t σ H Q\/t' σ H Q E:=by
 intro pins s σ H Q E D I q hx;rcases q with q|q
 .exact F8 (h pins s σ H Q (I.wish _) q) (λ_ _ ⟨v,H',G,r,q⟩=>⟨v,H',G.unwish,r,q⟩) λ_ _ z=>z.elim
 .exact h' pins s σ H Q E D I q hx
def jl{js:List Nat}{e:ME}{f:Nat}{U:List Bool}{ms:List ME}{T:Tab}{cal:Cal}{X:Cx}{B H H1:Hp}{A O:List Addr}{ρ:Rho}{σ:St}{J:It}{xs:List PV}{c:Str}{D:Addr}{Q:VK}{Er:Addr->Hp->Prop}(bp:js.Nodup)(st:ar X.K B A O H ρ σ)(s1:ae H H1)(b1:i3 X.K J xs (al H1 O) (aN B O H1 []))(df:xs.length<=10000)
  (e3:bU cal js e f U ms xs ρ=some c) (hD:H1 D=none) (th:∀C H',T.es.contains c=true->X.mg c=some (.ref C)->ae B H'->Er C H'):uL J (bZ js σ) H1 (λσ H Q E=>tSr X.K cal .one e f U ms σ H Q\/iQ (spX X.K X.mg T.es cal f) (tAM X.K cal U ms) σ H Q E) D Q Er:=by
 have cp:D∉O:=λz=>aS s1 st.here D z hD
 have ao:ae B H1:=st.keep.trans s1;have gB:ae B (aN B O H1 []):=di ao;have gO:∀a∈O,B a=none->aN B O H1 [] a=none:=λa ha hb=>by
  unfold aN;rw[if_pos ha,if_neg (λz=>nomatch z)];exact hb
 refine⟨λi m M H'=>m=xs.length-i/\i<=xs.length/\(∀z,M.set 0 z=(bZ js σ).set 0 z)/\0<M.length/\∃Y ys,ar X.K B A O (bt H' D) Y σ/\ae (aN B O H1 []) (bt H' D)/\bU cal js e f U ms (xs.drop i) Y=some c/\H' D=some (.lst ys)/\ys.length<=i,⟨xs.length,by simp,Gv _,λ_=>rfl,by simp[bZ],ρ,[],?_,?_,by simpa using e3,aq,vr _⟩,?_⟩
 .rw[cH,fv hD];exact st.mono s1
 .rw[cH,fv hD];exact fS ao
 rintro i m M H' ⟨rfl,hi,a4,hl,Y,ys,a2,sG,Z,b2,ei⟩;have a3:ae (aN B O H1 []) H':=sG.trans (dW H' D);by_cases a5:i<xs.length
 .right;have ex:xs[i]?=some xs[i]:=F5 a5;refine⟨b1.go i _ H' a3 ex,λa6 H2=>∃m',m'<xs.length-i/\(m'=xs.length-(i+1)/\i+1<=xs.length/\(∀z,a6.set 0 z=(bZ js σ).set 0 z)/\0<a6.length/\∃Y ys,ar X.K B A O (bt H2 D) Y σ/\ae (aN B O H1 []) (bt H2 D)/\bU cal js e f U ms (xs.drop (i+1)) Y=some c/\H2 D=some (.lst ys)/\ys.length<=i+1),λa6 H2 z=>z,λux H2 y=>?_⟩;obtain⟨s3,hr⟩:=b1.yld i _ H' ux H2 a3 ex y;have sv:ae (al H1 O) (al H2 (D::O)):=λb o G=>by
   have hb:b∉O:=λz=>by rw[cy z]at G;cases G
   rw[aG hb]at G;have a7:b≠D:=λz=>by rw[z,hD]at G;cases G
   rw[aG λz=>(y1.mp z).elim a7 hb];refine s3 b o (a3 b o ?_);unfold aN;rw[if_neg hb];exact G
  have hx:=hr (D::O) (λa ha=>by
   rcases y1.mp ha with rfl|ha
   .rw[b2];simp
   .exact λz=>a2.here a ha ((dW H' D).free z)) sv
  have b3:H2 D=some (.lst ys):=s3 _ _ b2;have cv:ae (bt H' D) H2:=(dW H' D).trans s3;have be:=rh (M:=M) bp a2 cv (a3.trans s3) gB gO (if_pos rfl) (by rw[b3];simp) a4 hx;rw[GZ a5,bU]at Z;split at Z
  rotate_left
  .split at Z
   .rename_i c' ec;cases Z;exact .inr (zj (T:=T) (X:=X) be ec λC H5 hc hm s5=>⟨C,rfl,th C H5 hc hm (gB.trans s5)⟩)
   .cases Z
  .rename_i p9 e6;obtain⟨ws,em⟩:=p9;have cC:=Z;simp only[aJ,l0]at e6;obtain⟨w,e1,Z⟩:=e6;split at Z
   .rename_i v ds ec;simp only[l0,pf]at Z ec;obtain⟨r,e4,ew,e5,p9,e7,e8⟩:=Z;obtain⟨vs,e2,ec⟩:=ec;cases e7;cases e8;have e6:=cC;refine .inl ⟨_,[],D::O,_,w,vs,v,ds,r,be,e1,e2,ec,e4,λu us as H4 H5 s5 ma hk hm ru=>?_⟩;have own:=ma.own be;obtain⟨eD,mo,_⟩:=l7 (σ:=σ) (ρ:=Y) (js:=js) bp (λi jj u ej eu=>by
     rw[a4]at eu;have:(σ[jj]?).join=some u:=by simpa[bZ,ej]using eu
     exact av this) ma
    have aO:∀a∈as,a∈O:=λa ha=>(mo.own a2 a ha).1
    have b4:D∉as:=λz=>cp (aO D z)
    have cF:H5 D=some (.lst ys):=hk D _ b4 (s5 _ _ b3);have ca:∀z,(M.set 0 (some ux)).set 0 z=(bZ js σ).set 0 z:=λz=>by rw[set_set];exact a4 z
    have cL:0<(M.set 0 (some ux)).length:=by rw[GK];exact hl
    have cd:∀b o,b∉as->bt H4 D b=some o->bt H5 D b=some o:=λb o hb G=>by
     have a7:b≠D:=λz=>by rw[z]at G;unfold bt at G;rw[if_pos rfl]at G;cases G
     rw[fe a7]at G ⊢;exact hk b o hb G
    have ce:ae (bt H' D) (bt H4 D):=kL (s3.trans s5);obtain⟨cN,k6⟩:=m6 mo (a2.mono ce) cd (hm.mono (λa ha o eo=>by
     have cP:a≠D:=λz=>by rw[z]at ha;exact b4 ha
     rw[fe cP];exact eo) λb o G=>by
     have hb:b∉D::O:=λz=>by rw[cy z]at G;cases G
     rw[aG hb]at G;rw[aG λz=>hb (.tail _ z),fe (show b≠D from λz=>hb (by rw[z];exact .head _))];exact G) e5
    refine⟨ys,cF,Hh (by omega:ys.length<=10000) (by decide),_,by omega,rfl,a5,ca,cL,_,ys++[u],?_,?_,e6,aq,by simp;omega⟩
    .rw[cH];exact cN
    .rw[cH];intro b o G;refine cd b o (λz=>?_) (ce b o (sG b o G));have:=(own b z).2.1;rw[this]at G;cases G
   .cases Z
 .rw[drop_eq_nil_of_le (by omega),bU]at Z;cases Z
def cB{T:Tab}{cal:Cal}{X:Cx}{x:XE}{e:Expr}(h:∀ρ,cq cal x ρ=none):PE X e (tFl T.es X cal x):=by
 intro pins s σ H Q I q;obtain⟨B,A,O,ρ,c,st,z,q⟩:=q;rw[h]at z;cases z
def vK {T:Tab}{k:Nat}{cal:Cal}{X:Cx}{a:XE}{e:Expr}{p pos:Pos} (g:Gf X T k cal) (D:glB X.env.scope ("tuple":Str)=true) (G:PE X e (tFl T.es X cal a)) (hs:ac e=true):PE X (.Call (.Name ("tuple":Str) p) [e] [] pos) (tFl T.es X cal (.tupOf a)):=by
 refine(eV mW (cw D) (g.blt "tuple" (by decide)) iy (aI G bn (aP hs _ _)) (by decide) (by decide) (aP hs [] _) (aV rfl)).imp λσ H Q q=>?_
 obtain⟨B,A,O,ρ,c,st,z,q⟩:=q;rw[cq]at z;exact⟨B,A,O,ρ,c,st,z,q⟩
def vL{T:Tab}{k:Nat}{cal:Cal}{X:Cx}{y:XE}{js:List Nat}{m:ME}{f:Nat}{D:List Bool}{ms:List ME}{z:Str}{py p rp cpos:Pos}{el a:Expr}{scope:Scope}(g:Gf X T k cal)(d:Df X)
  (ao:bV X.env.scope X.N scope z (aB X.N js) js=true) (hg:glB X.env.scope ("range":Str)=true) (h:PE X a (tX X.K cal y)) (hs:ac a=true) (ap:js.Nodup) (he:∀U Y C fp,PX (X.blk z (aB X.N js) scope U Y C fp) el (λσ H Q E=>tSr X.K cal .one m f D ms σ H Q\/iQ (spX X.K X.mg T.es cal f) (tAM X.K cal D ms) σ H Q E)) :
  PE X (.ListComp el [⟨.Name z py,.Call (.Name ("range":Str) p) [a] [] rp,[],0⟩] scope cpos) (tFl T.es X cal (.compR y js .one m f D ms)):=by
 refine(nX (dB ao) g.calm d.stk.1 d.stk.2 d.exn (kM g hg h hs) he (by intro v;rfl)).imp λσ H Q q=>?_
 obtain⟨B,A,O,ρ,c,st,G,q⟩:=q;simp only[cq,l0]at G;obtain⟨⟨w,aO⟩,e1,xs,e2,G⟩:=G;split at G
 .rename_i Z;exact⟨B,A,O,ρ,w,aO,xs,st,e1,e2,λJ H1 v1 a1 k1 a2 D' hD=>jl (T:=T) (X:=X) ap a1 (ae.refl H1) a2 Z G hD λC H' hc hm s2=>(q C H' hc hm s2).2.2⟩
 .cases G
theorem jJ{T:Tab}{k:Nat}{cal:Cal}{X:Cx}(g:Gf X T k cal)(d:Df X):∀(x:XE) (e:Expr),br T x X.N X.env.scope e=true->PE X e (tFl T.es X cal x)
 | .call f mask ms,e,h=>yk g h
 | .tupOf a,e,h=>by
  obtain⟨q,U,h⟩:=ag (show onQ (fnQ e) (λq=>q.1==("tuple":Str)&&glB X.env.scope q.1&&q.2.2.isEmpty&&br T a X.N X.env.scope q.2.1&&ac q.2.1)=true from h);obtain⟨y,l,r⟩:=q;obtain⟨p,pos,rfl⟩:=iX U;obtain⟨a1,h5⟩:=ek.mp h;obtain⟨a2,h4⟩:=ek.mp a1;obtain⟨a3,h3⟩:=ek.mp a2;obtain⟨h1,h2⟩:=ek.mp a3;obtain rfl:y=("tuple":Str):=eq_of_beq h1;obtain rfl:r=[]:=GX.mp h3;exact vK g h2 (jJ g d a l h4) h5
 | .binR op a b,e,h=>by
  obtain⟨q,U,h⟩:=ag (show onQ (sA e) (λq=>q.2.1==iT op&&chk T a X.N X.env.scope q.1&&!aw a&&br T b X.N X.env.scope q.2.2)=true from h);obtain⟨l,o,r⟩:=q;obtain⟨pos,rfl⟩:=mT U;obtain⟨a1,h4⟩:=ek.mp h;obtain⟨a2,h3⟩:=ek.mp a1;obtain⟨h1,h2⟩:=ek.mp a2;obtain rfl:o=iT op:=eq_of_beq h1;refine(jS (kF op) (am a g h2).1 (jJ g d b r h4)).imp λσ H Q q=>?_
  obtain⟨B,A,O,ρ,c,st,U,q⟩:=q;rw[cq,l0]at U;obtain⟨v,U,Y⟩:=U;exact⟨B,A,O,ρ,v,st,U,λux H1 s1 g1=>⟨B,A,O,ρ,c,st.mono s1,Y,q⟩⟩
 | .compS src js .one m f mask ms,e,h=>by
  obtain⟨c,Y,h2⟩:=ag (show onQ (kC e) (λc=>bV X.env.scope X.N c.2.1 c.2.2.1 (aB X.N js) js&&kA X.env.scope false (λxs=>chks T [src] X.N X.env.scope xs) .seq c.2.2.2&&!aw src&&mS T .one m f mask ms (c.2.2.1::aB X.N js) (d6 c.2.1 X.env.scope) c.1&&decide js.Nodup)=true from h);obtain⟨py,cpos,rfl⟩:=ie Y;obtain⟨el,scope,y,it⟩:=c;simp only[n4,F2,GB]at h2;obtain⟨⟨⟨⟨h5,h6⟩,h7⟩,h8⟩,h9⟩:=h2;have hw:=gT (tg:=.Name y py) (λz=>by cases z) g h6 (λxs a5=>⟨sounds [src] g a5,aY a5⟩) (λm x hm hx=>by cases hm;exact(am src g (by simp only[chks,n4]at hx;exact hx.1.1)).1);have b4:=hw.2;have Z:(kB m&&cz T f mask ms (y::aB X.N js) (d6 scope X.env.scope) el)=true:=h8;have pc:=nX (pos:=cpos) (elt:=el) (te:=λσ H Q E=>tSr X.K cal .one m f mask ms σ H Q\/iQ (spX X.K X.mg T.es cal f) (tAM X.K cal mask ms) σ H Q E) (dB h5) g.calm d.stk.1 d.stk.2 d.exn hw.1 (λD G C fp=>PX.or (m7 (g.blk y (aB X.N js) scope D G C fp).nox h8) (vJ (g.blk y (aB X.N js) scope D G C fp) (ek.mp Z).2)) (by intro v;cases it<;>first|rfl|(simp[c9]at b4));refine pc.imp λσ H Q q=>?_
  obtain⟨B,A,O,ρ,c,st,e0,q⟩:=q;simp only[cq,l0]at e0;obtain⟨vs,Y,xs,e3,e0⟩:=e0;split at e0
  .rename_i a6;have a7:aX [src] ρ σ=[]:=by
    cases src<;>first|rfl|(cases h7;done)
   refine⟨B,A,O,ρ,vs,xs,st,Y,e3,λJ H1 s1 be D' hD=>?_⟩;rw[a7]at be;exact jl (T:=T) (X:=X) h9 st s1 be a6 e0 hD λC H' hc hm s2=>(q C H' hc hm s2).2.2
  .cases e0
 | .compR y js .one m f mask ms,e,h=>by
  obtain⟨c,Y,h2⟩:=ag (show onQ (kC e) (λc=>bV X.env.scope X.N c.2.1 c.2.2.1 (aB X.N js) js&&onQ (fnQ c.2.2.2) (λq=>q.1==("range":Str)&&glB X.env.scope q.1&&q.2.2.isEmpty&&br T y X.N X.env.scope q.2.1&&ac q.2.1)&&mS T .one m f mask ms (c.2.2.1::aB X.N js) (d6 c.2.1 X.env.scope) c.1&&decide js.Nodup)=true from h);obtain⟨py,cpos,rfl⟩:=ie Y;obtain⟨el,scope,z,it⟩:=c;simp only[n4,GB]at h2;obtain⟨⟨⟨h5,h6⟩,h8⟩,h9⟩:=h2;obtain⟨q,e3,h6⟩:=ag h6;obtain⟨r,a,as⟩:=q;obtain⟨p,rp,e4⟩:=iX e3;simp only[n4,FW]at h6;obtain⟨⟨⟨⟨k1,k2⟩,k3⟩,k4⟩,k5⟩:=h6;dsimp only at e4 k1 k2 k3 k4 k5;obtain rfl:as=[]:=GX.mp k3;subst k1;subst e4;have Z:(kB m&&cz T f mask ms (z::aB X.N js) (d6 scope X.env.scope) el)=true:=h8;exact vL g d h5 k2 (cA g y a k4) k5 h9 λD G C fp=>PX.or (m7 (g.blk z (aB X.N js) scope D G C fp).nox h8) (vJ (g.blk z (aB X.N js) scope D G C fp) (ek.mp Z).2)
 | .pure _,_,_=>cB (λ_=>rfl)
 | .pop _,_,_=>cB (λ_=>rfl)
 | .bin _ _ _,_,_=>cB (λ_=>rfl)
 | .fn _ _ _,_,_=>cB (λ_=>rfl)
 | .tup _,_,_=>cB (λ_=>rfl)
 | .lst _,_,_=>cB (λ_=>rfl)
 | .fn2 _ _ _,_,_=>cB (λ_=>rfl)
 | .nextw _,_,_=>cB (λ_=>rfl)
 | .compS _ _ .cat _ _ _ _,_,_=>cB (λ_=>rfl)
 | .compS _ _ .pair _ _ _ _,_,_=>cB (λ_=>rfl)
 | .compR _ _ .cat _ _ _ _,_,_=>cB (λ_=>rfl)
 | .compR _ _ .pair _ _ _ _,_,_=>cB (λ_=>rfl)
def DU{T:Tab}{k:Nat}{cal:Cal}{X:Cx}{x:XE}{m:MS}{s:Stmt}(pn:PS X.nox s (tS X.K cal m))(J:∀ρ,exE cal m ρ=fO cal x ρ (ex cal m ρ))(U:PS X s λ_ σ H=>tFl T.es X cal x σ H λ_ _=>False):PS X s (sS T.es X cal m):=by
 intro pins G σ H D I q;obtain⟨B,A,O,ρ,st,q⟩:=q;rw[J]at q;unfold fO at q;cases e:evX cal x ρ with
 |some p =>
  rw[e]at q;exact vA pn pins G σ H D I ⟨B,A,O,ρ,st,q⟩
 |none =>
  rw[e]at q;dsimp only at q;cases z:cq cal x ρ with
  |none=>rw[z]at q;exact(show False from q).elim
  |some c =>
   rw[z]at q;exact U pins G σ H D I ⟨B,A,O,ρ,c,st,z,q⟩
def yl{T:Tab}{k:Nat}{cal:Cal}{X:Cx}(g:Gf X T k cal)(d:Df X){i:Nat}{y:XE}{s:Stmt}(h:dR T X.N X.env.scope (.setX i y) s=true):PS X s (sS T.es X cal (.setX i y)):=by
 have pn:=m9 g.nox d.nox (.setX i y) s h;obtain⟨q,z,hc⟩:=ag (show onQ (ly s) (λq=>X.N[i]?==some q.1&&d8 X.env.scope q.1&&aj q.1&&br T y X.N X.env.scope q.2.2&&bC q.2.2)=true from h);obtain⟨pos,rfl⟩:=gf z;obtain⟨G,J⟩:=ek.mp hc;obtain⟨U,Y⟩:=ek.mp G;obtain⟨Z,h3⟩:=ek.mp U;obtain⟨h1,h2⟩:=ek.mp Z;exact DU (k:=k) pn (λ_=>rfl) ((gE d.nd (eq_of_beq h1) (fc h2) (jJ g d y _ Y) (cG J _ _ _) (.inl (d.fn _))).imp λD σ H q=>q)
def ym{T:Tab}{k:Nat}{cal:Cal}{X:Cx}(g:Gf X T k cal)(d:Df X){y:XE}{s:Stmt}(h:dR T X.N X.env.scope (.retXE y) s=true):PS X s (sS T.es X cal (.retXE y)):=by
 have pn:=m9 g.nox d.nox (.retXE y) s h;obtain⟨v,z,hc⟩:=ag (show onQ (qa s) (λv=>br T y X.N X.env.scope v)=true from h);obtain⟨pos,rfl⟩:=ig z;exact DU (k:=k) pn (λ_=>rfl) ((gC (jJ g d y _ hc)).imp λD σ H q=>q)
def yn{T:Tab}{k:Nat}{cal:Cal}{X:Cx}(g:Gf X T k cal){G:Str}{s:Stmt}(h:dR T X.N X.env.scope (.raise G) s=true):PS X s (sS T.es X cal (.raise G)):=by
 obtain⟨xn,Y,z⟩:=ag h;simp only[n4,FW]at z;obtain⟨⟨⟨rfl,Z⟩,h7⟩,J⟩:=z;obtain⟨np,tx,j,p1,cpos,pos',rfl⟩:=xN Y;obtain⟨C,ap,U,m2,_,_,_⟩:=qi g J;refine PS.imp (uJ g.calm (cw Z) U m2 (bW h7).1) λD σ H q=>?_
 obtain⟨B,A,O,ρ,st,q⟩:=q;rw[exE]at q;exact λpins s0 h' ea vs I hx=>(q C H J U st.keep).1 pins s0 σ h' ea vs I hx
mutual
theorem yo{T:Tab}{k:Nat}{cal:Cal}{X:Cx}(g:Gf X T k cal)(d:Df X):∀(m:MS) (s:Stmt),pV m=false->dR T X.N X.env.scope m s=true->PS X s (sS T.es X cal m)
 | .raise z,s,_,h=>yn g h
 | .ite c a b,s,_,h=>by
  obtain⟨t,x,y,pos,rfl,hc⟩:=rk h;simp only[n4]at hc;refine PS.imp (nu (am c g hc.1.1).2 (soundE g d a x hc.1.2) (soundE g d b y hc.2)) λD σ H q=>?_
  obtain⟨B,A,O,ρ,st,q⟩:=q;rw[exE]at q;cases e:evB cal c ρ with
  |none=>rw[e]at q;exact(show False from q).elim
  |some k =>
   rw[e]at q;refine⟨B,A,O,ρ,k,st,e,λH' s'=>?_⟩;cases k with
   |true=>exact⟨B,A,O,ρ,st.mono s',q⟩
   |false=>exact⟨B,A,O,ρ,st.mono s',q⟩
 | .for1 _ _ _ _,s,hz,h=>aH g d rfl h
 | .expr _,s,hz,h=>aH g d rfl h
 | .set _ _,s,hz,h=>aH g d rfl h
 | .setOwn _ _,s,hz,h=>aH g d rfl h
 | .freeze _,s,hz,h=>aH g d rfl h
 | .append _ _,s,hz,h=>aH g d rfl h
 | .extend _ _,s,hz,h=>aH g d rfl h
 | .tryC _ _ _ _,s,hz,h=>aH g d rfl h
 | .setIdx _ _ _,s,hz,h=>aH g d rfl h
 | .unpack _ _,s,hz,h=>aH g d rfl h
 | .forT _ _ _ _,s,hz,h=>aH g d rfl h
 | .while _ _ _,s,hz,h=>aH g d rfl h
 | .ret _,s,hz,h=>aH g d rfl h
 | .retOwn _,s,hz,h=>aH g d rfl h
 | .retN,s,hz,h=>aH g d rfl h
 | .brk,s,hz,h=>aH g d rfl h
 | .cont,s,hz,h=>aH g d rfl h
 | .pass,s,hz,h=>aH g d rfl h
 | .never,s,hz,h=>aH g d rfl h
 | .newD _ _,s,hz,h=>aH g d rfl h
 | .retM _,s,hz,h=>aH g d rfl h
 | .retF _,s,hz,h=>aH g d rfl h
 | .setCall _ _ _,s,hz,h=>aH g d rfl h
 | .clear _,s,hz,h=>aH g d rfl h
 | .dput _ _ _,s,hz,h=>aH g d rfl h
 | .setP _ _,s,hz,h=>aH g d rfl h
 | .setX i x,s,hz,h=>yl g d h
 | .retXE x,s,hz,h=>ym g d h
 | .appX _ _,s,hz,h=>aH g d rfl h
 | .forX _ _ _,s,hz,h=>aH g d rfl h
 | .mkW _ _,s,hz,h=>aH g d rfl h
 | .nomore _,s,hz,h=>aH g d rfl h
 | .isKey _ _,s,hz,h=>aH g d rfl h
theorem soundE{T:Tab}{k:Nat}{cal:Cal}{X:Cx}(g:Gf X T k cal)(d:Df X):∀(ms:List MS) (ss:List Stmt),chkSs T X.N X.env.scope ms ss=true->PSs X ss (tEX T.es X cal ms)
 | [],ss,h=>by
  cases ss with
  |nil =>
   refine PSs.imp gZ λD σ H q=>?_
   obtain⟨B,A,O,ρ,st,q⟩:=q;exact q σ H O st .refl
  |cons _ _=>cases h
 |m::ms,ss,h=>by
  cases hz:pV m with
  |true =>
   refine PSs.imp (t:=λ_ _ _=>False) (λ_ _ _ _ _ _ z=>z.elim) λD σ H q=>?_
   obtain⟨B,A,O,ρ,st,q⟩:=q;rw[exsE,hz]at q;exact q
  |false =>
   cases ss with
   |nil=>cases m<;>first|(cases h;done)|cases hz
   |cons s ss =>
    have h:(dR T X.N X.env.scope m s&&chkSs T X.N X.env.scope ms ss)=true:=by cases m<;>first|exact h|cases hz
    obtain⟨h1,h2⟩:=ek.mp h;refine PSs.imp (fH (yo g d m s hz h1) (soundE g d ms ss h2)) λD σ H q=>?_
    obtain⟨B,A,O,ρ,st,q⟩:=q;rw[exsE,hz,if_neg (by decide)]at q;refine⟨B,A,O,ρ,st,?_⟩;cases e:exE cal m ρ with
    |err c=>rw[e]at q;exact q
    |fin r =>
     rw[e]at q;cases r with
     |next E=>exact λM H' J G U=>⟨B,A,J,E,G,sR.trans q U⟩
     |brk _=>exact q
     |cont _=>exact q
     |ret _=>exact q
     |bad=>exact q
     |retF _=>exact q
     |retM _ _=>exact q
end
structure FnD(K:IF)(x y:Str)(st:Stmt)(fa:Addr)(fd:FuncData):Prop where
 it:∃(c0 d0 k0 o0 m0:Value) (a0:Option Addr) (c1 t1:Value) (a1:Option Addr) (sl:Array (Option Value)),
  K.lookup fa=some ⟨c0,a1,.func fd,sl⟩/\PySem.W.codeIn K c1 y=true/\fd=PySem.W.fnOf x y (mF st) (dg st) (aK st) d0 k0 o0 m0 a0 c1 t1
 kp:PySem.W.keepIn K (.ref fa)=true
theorem FnD.mk'{K:IF}{st:Stmt} 
  (l:K.lookup z=some ⟨c0,a1,.func (PySem.W.fnOf x y (mF st) (dg st) (aK st) d0 k0 o0 m0 a0 c1 t1),D⟩) (c:PySem.W.codeIn K c1 y=true) (k:PySem.W.keepIn K (.ref z)=true) :
  FnD K x y st z (PySem.W.fnOf x y (mF st) (dg st) (aK st) d0 k0 o0 m0 a0 c1 t1):=⟨⟨_,_,_,_,_,_,_,_,_,_,l,c,rfl⟩,k⟩
structure oH(T:Tab)(K:IF)(mg:Str->Option Value)(st:Stmt)(d:MD)(fa:Addr)(fd:FuncData):Prop where
 fn:FnD K d.name d.name st fa fd
 binds:bb K fd d.params []
 named:mg d.name=some (.ref fa)
 scope:gb d.names d.params (aK st)
 body:chkSs T d.names (aK st) d.body (dg st)=true
def i6{α:Type} :∀{us:List α},us.length=n+1->∃a t,us=a::t/\t.length=n
 | _::_,h=>⟨_,_,rfl,Nat.succ.inj h⟩
def bn1{K:IF}(h:∀a,bindArgs fd ⟨[a],[]⟩=pure [(z,a)]):bb K fd [z] []:=.all λus D=>by
 obtain⟨a,G,rfl,h1⟩:=i6 D;obtain rfl:=Hy.mp h1;exact h a
def bn2{K:IF}(h:∀a b,bindArgs fd ⟨[a,b],[]⟩=pure [(z,a),(D,b)]):bb K fd [z,D] []:=.all λus G=>by
 obtain⟨a,J,rfl,h1⟩:=i6 G;obtain⟨b,U,rfl,h2⟩:=i6 h1;obtain rfl:=Hy.mp h2;exact h a b
def bn3{K:IF}(h:∀a b c,bindArgs fd ⟨[a,b,c],[]⟩=pure [(z,a),(D,b),(pc,c)]):bb K fd [z,D,pc] []:=.all λus G=>by
 obtain⟨a,J,rfl,h1⟩:=i6 G;obtain⟨b,U,rfl,h2⟩:=i6 h1;obtain⟨c,Y,rfl,Z⟩:=i6 h2
 simp_all
def HD(K:IF)(x:Str)(st:Stmt)(d:MD)(q:FuncData->Prop:=λ_=>True):Prop:=d.name=x/\∃z fd,PySem.W.nsIn K mainGlobals x=some (some (.ref z))/\FnD K x x st z fd/\bb K fd d.params []/\q fd
noncomputable def okD(T:Tab)(st:Stmt)(d:MD):Bool:=
 decide ((aK st).kind=.function/\(aK st).isCoroutine=false/\(aK st).isGenerator=false/\d.names.Nodup/\d.names.take d.params.length=d.params/\(∀x∈d.params,(aK st).names.lookup x=some .local\/(aK st).names.lookup x=some .cell)/\∀y∈(aK st).names,y.2≠.free)
 &&chkSs T d.names (aK st) d.body (dg st)
def vM{K:IF}{st:Stmt}(X:K.In h)(G:h.Ns mainGlobals mg)(hd:HD K x st d q)(D:okD T st d=true):∃J fd,oH T K mg st d J fd/\q fd:=by
 refine bq λZq U=>?_
 obtain⟨e,_,_,n,f,b,z⟩:=hd;obtain⟨c1,c2⟩:=ek.mp D;obtain⟨s1,Y,s3,Z,s5,s6,s7⟩:=Gx c1;subst e;refine U ?_;exact⟨_,_,⟨f,b,PySem.W.mg_of X G n,⟨s1,Y,s3,Z,s5,s6,s7⟩,c2⟩,z⟩
def sT(T:Tab)(K:IF)(mg:Str->Option Value):List MD->List (List Sc)->Prop
 | [],[]=>True
 |d::ds,l::ls=>(∃st z fd,oH T K mg st d z fd/\∃vs,bb K fd d.params vs/\aA (l.map Sc.v) vs)/\sT T K mg ds ls
 | _,_=>False
theorem sT.get{K:IF} :∀{ds}{D}{f:Nat}{d},sT T K mg ds D->ds[f]?=some d->∃l st z fd,D[f]?=some l/\oH T K mg st d z fd/\∃vs,bb K fd d.params vs/\aA (l.map Sc.v) vs
 | [],_,f,d,_,e=>by simp at e
 | _::_,[],f,d,h,e=>h.elim
 |d0::ds,l::D,0,d,h,e=>by
  cases e;obtain⟨⟨st,z,fd,r⟩,_⟩:=h;exact⟨l,st,z,fd,rfl,r⟩
 |d0::ds,l::D,f+1,d,h,e=>by
  obtain⟨k,st,z,fd,q,r⟩:=sT.get h.2 (show ds[f]?=some d from by simpa using e);exact⟨k,st,z,fd,by simpa using q,r⟩
noncomputable def sU(K:IF):Nat->PV->Value->Bool
 | _,.str x,.str y _=>x==y
 |n+1,.tup xs,.ref a=>(match List.lookup a K with
  |some o=>(match o.cls,o.data with
   | .type t,.seq its _=>t == "tuple"&&decide (its.size<=10000)&&xs.length==its.size&&(xs.zip its.toList).all λp=>sU K n p.1 p.2
   | _,_=>false)
  |none=>false)
 | _,_,_=>false
theorem rl{K:IF}{n:Nat}(ih:∀(v:PV) (val:Value),sU K n v val=true->∃u,aE u val/\∀F,Rep K F v u):∀(xs:List PV) (its:List Value),xs.length=its.length->((xs.zip its).all λp=>sU K n p.1 p.2)=true->∃us,aA us its/\∀F,Reps K F xs us
 | [],[],_,_=>⟨[],.nil,λ_=>.nil⟩
 | [],_::_,h,_=>by cases h
 | _::_,[],h,_=>by cases h
 |x::xs,v::vs,h,z=>by
  rw[zip_cons_cons,all_cons,n4]at z;obtain⟨u,r,q⟩:=ih x v z.1;obtain⟨us,D,G⟩:=rl ih xs vs (by simpa using h) z.2;exact⟨u::us,.cons r D,λF=>.cons (q F) (G F)⟩
theorem rm{K:IF}:∀(n:Nat) (v:PV) (val:Value),sU K n v val=true->∃u,aE u val/\∀F,Rep K F v u
 |n,.str x,val,h=>by
  cases val with
  |str y t =>
   have h:(x==y)=true:=by cases n<;>exact h
   obtain rfl:=eq_of_beq h;exact⟨.str x,⟨t,rfl⟩,λF=>by rw[Rep]⟩
  | _=>cases n<;>cases h
 |n+1,.tup xs,val,h=>by
  cases val with
  |ref a =>
   have h:(match List.lookup a K with|some o=>(match o.cls,o.data with|.type t,.seq its _=>t == "tuple"&&decide (its.size<=10000)&&xs.length==its.size&&(xs.zip its.toList).all λp=>sU K n p.1 p.2|_,_=>false)|none=>false)=true:=h;split at h
   .rename_i o z;split at h
    .rename_i t its m hc hd;simp only[n4,FW,GB]at h;obtain⟨⟨⟨rfl,h1⟩,h2⟩,D⟩:=h;obtain⟨us,G,J⟩:=rl (rm n) xs its.toList (by simpa using h2) D;refine⟨.ref a,rfl,λF=>?_⟩;rw[Rep];exact⟨a,us,rfl,.inr ⟨o,its,m,z,hc,hd,by rw[GP];omega,G⟩,J F⟩
    .cases h
   .cases h
  | _=>cases h
 |0,.tup _,val,h=>by cases val<;>cases h
 |n,.non,val,h=>by cases n<;>cases val<;>cases h
 |n,.bl _,val,h=>by cases n<;>cases val<;>cases h
 |n,.int _,val,h=>by cases n<;>cases val<;>cases h
 |n,.lst _,val,h=>by cases n<;>cases val<;>cases h
 |n,.dI _,val,h=>by cases n<;>cases val<;>cases h
def jK(w:World):List DictEntry->Prop
 | []=>True
 |e::r=>(match e.key with|.str x _=>e.hash=hashStr w x|_=>False)/\jK w r
theorem rn{w:World}:∀{es:List DictEntry},jK w es->∀e∈es,∃k,Value.isStrOf k e.key=true/\e.hash=hashStr w k
 | [],_,e,z=>by cases z
 |d::es,h,e,z=>by
  rcases y1.mp z with rfl|z
  .have h1:(match e.key with|.str x _=>e.hash=hashStr w x|_=>False):=h.1;split at h1
   .rename_i x t D;exact⟨x,by rw[D];simp[Value.isStrOf],h1⟩
   .exact h1.elim
  .exact rn h.2 e z
noncomputable def DV(K:IF)(es:Array DictEntry)(tbl:List (Str×PV)):Bool:=tbl.all λp=>match findBy Value.isStrOf es p.1 with|some val=>sU K 4 p.2 val|none=>false
def DW {K:IF}{mg:Str->Option Value}{w:World}{d:Addr}{o:Obj}{es:Array DictEntry}{ep:Nat} (h1:mg ("MEMBERS":Str)=some (.ref d)) (h2:List.lookup d K=some o) (G:o.ExactDict) (J:o.data=.dict es ep) (U:jK w es.toList) (Y:(d==sysModules)=false) (Z:(fm.all λt=>DV K es t.2)=true):xT K mg w:=λt z=>by
 have h7:=He.mp Z t z;refine⟨d,o,es,ep,Y,?_,h2,G,J,λe he=>rn U e (by simpa using he),λp hp=>?_⟩
 .unfold fm at z;simp only[y1,F4,Gi]at z;subst z;exact h1
 .have D:=He.mp h7 p hp;split at D
  .rename_i val hv;obtain⟨u,r,q⟩:=rm _ _ _ D;exact⟨val,u,hv,r,q⟩
  .cases D
def HQ(K:IF)(d:MD)(fd:FuncData):List Sc->Prop
 | []=>True
 |l=>∃vs,bb K fd d.params vs/\aA (l.map Sc.v) vs
inductive qo(K:IF)(tp:Nat->Stmt):List MD->List Nat->List (List Sc)->Prop
 | nil:qo K tp [] [] []
 |cons {d:MD}{ds:List MD}{i:Nat}{is:List Nat}{l:List Sc}{ls:List (List Sc)}:HD K d.name (tp i) d (λfd=>HQ K d fd l)->qo K tp ds is ls->qo K tp (d::ds) (i::is) (l::ls)
noncomputable def DX(T:Tab)(tp:Nat->Stmt):List MD->List Nat->Bool
 |d::ds,i::is=>okD T (tp i) d&&DX T tp ds is
 | _,_=>true
def Bx{K:IF}(X:K.In h)(G:h.Ns mainGlobals mg)(a:qo K tp ds is ls)(z:DX T tp ds is=true):sT T K mg ds ls:=by
 induction a with
 |nil=>trivial
 | @cons d ds i is l ls hd _ ih =>
  obtain⟨c1,c2⟩:=ek.mp z;obtain⟨J,fd,D,q⟩:=vM X G hd c1;refine⟨⟨_,J,fd,D,?_⟩,ih c2⟩;cases l<;>first|exact⟨_,D.binds,.nil⟩|exact q
structure By(T:Tab)(K:IF)(mg:Str->Option Value)(ds:List MD)
  (w:World)
 :Prop where
 tab:T.fs=ds.map (·.name)
 defs:sT T K mg ds T.ds
 blt:∀x∈iq,mg (x:Str)=none
 gs:∀p∈T.gs,∃u,mg p.1=some u/\aE (toV p.2) u
 ct:xT K mg w
 wcls:∀C,IsW K C->Cls K C/\(∃(fa:Addr) (fd:FuncData) (ps:List Str),nB K C "are_left" fa/\bb K fd ps []/\∀P w base,b9 P w K mg base CX0 1 fa fd ps (spL K C)) /\
  (∃(fa:Addr) (fd:FuncData) (ps:List Str),nB K C "next_word" fa/\bb K fd ps []/\∀P w base,b9 P w K mg base CX0 2 fa fd ps (spN K C))
 wini:∃C,IsW K C/\mg ("Words":Str)=some (.ref C)/\∃(fa:Addr) (fd:FuncData) (ps:List Str),Mk K C fa/\bb K fd ps []/\∀P w base,b9 P w K mg base CX0 1 fa fd ps (spW C)
 errs:qX K T.es=true
 mgs:∀c u,PySem.W.nsIn K mainGlobals c=some u->mg c=u
def Bz{K:IF}{h:Heap}{mg:Str->Option Value}{c:Str}{u:Option Value}(X:K.In h)(G:h.Ns mainGlobals mg)(e:PySem.W.nsIn K mainGlobals c=some u):mg c=u:=by
 cases u with
 |none=>exact PySem.W.mg_none_of X G e
 |some v=>exact PySem.W.mg_of X G e
def gj{ds:List MD}{n f:Nat}{d:MD}{args:List MV}{r:PV}(D:ds[f+5000]?=none)(hd:ds[f]?=some d)
  (h:aa ds (n+1) (f+5000) args=some r):args.length=d.params.length /\
  sr (exsE (aa ds n) d.body (args.map some++replicate (d.names.length-args.length) none))=some r:=by
 rw[aa,D]at h;dsimp only at h;rw[if_pos (by omega)]at h;rw[if_neg (by omega)]at h;rw[if_pos (by omega)]at h;rw[GD,hd]at h;dsimp only at h;by_cases z:args.length=d.params.length
 .rw[if_pos z]at h;exact⟨z,h⟩
 .rw[if_neg z]at h;cases h
def kP(hd:ds[f]?=some d)(h:aa ds (n+1) f args=some r):args.length=d.params.length /\
  ((∃ρ,exs (aa ds n) d.body (args.map some++replicate (d.names.length-args.length) none)=.next ρ/\r=.non)\/exs (aa ds n) d.body (args.map some++replicate (d.names.length-args.length) none)=.ret r \/
   ∃xs,exs (aa ds n) d.body (args.map some++replicate (d.names.length-args.length) none)=.retF xs/\r=.lst xs):=by
 rw[aa,hd]at h;dsimp only at h;by_cases z:args.length=d.params.length
 .rw[if_pos z]at h;refine⟨z,?_⟩;cases he:exs _ d.body _<;>simp_all
 .simp_all
def jm(G:f<1000)(D:ds[f+1000]?=none)(hd:ds[f]?=some d)(h:aa ds (n+1) (f+1000) args=some r):args.length=d.params.length /\
  ∃xs,exs (aa ds n) d.body (args.map some++replicate (d.names.length-args.length) none)=.retF xs/\r=.lst xs:=by
 rw[aa,D]at h;dsimp only at h;rw[if_neg (by omega),GD,hd]at h;dsimp only at h;by_cases z:args.length=d.params.length
 .rw[if_pos z]at h;refine⟨z,?_⟩;cases he:exs (aa ds n) d.body (args.map some++replicate _ none)<;>simp_all
 .simp_all
def Fv{ds:List MD}{n:Nat}(z:ds.length<=1000)(h:aa ds n 4000 []≠none):3<=n:=by
 match n,h with
 |0,h=>exact absurd rfl h
 |n+1,h =>
  by_cases c:4<=n
  .omega
  .refine absurd ?_ h;rw[aa,GV (by omega)];dsimp only;rw[if_pos (by decide),if_pos rfl,if_neg c]
def HMW(K:IF)(C:Addr)(x y:Str)(st:Stmt)(ps:List Str):Prop:=∃z fd,nB K C x z/\FnD K x y st z fd/\bb K fd ps []
def l8{ds:List MD}{n f:Nat}{d:MD}{args:List MV}{r:PV}(U:f<1000)(D:ds[f+2000]?=none)(hd:ds[f]?=some d)(h:aa ds (n+1) (f+2000) args=some r):args.length=d.params.length /\
  ∃v ρ ms,exs (aa ds n) d.body (args.map some++replicate (d.names.length-args.length) none)=.retM v ρ/\c8 args ρ=some ms/\r=.tup (v::ms):=by
 rw[aa,D]at h;dsimp only at h;rw[if_pos (by omega)]at h;rw[if_neg (by omega)]at h;rw[if_neg (by omega)]at h;rw[GD,hd]at h;dsimp only at h;by_cases z:args.length=d.params.length
 .rw[if_pos z]at h;refine⟨z,?_⟩;cases he:exs (aa ds n) d.body (args.map some++replicate (d.names.length-args.length) none)with
  |retM v ρ =>
   rw[he]at h;dsimp only at h;rw[pf]at h;obtain⟨ms,G,J⟩:=h;exact⟨v,ρ,ms,rfl,G,J.symm⟩
  |next ρ=>rw[he]at h;cases h
  |ret v=>rw[he]at h;cases h
  |retF xs=>rw[he]at h;cases h
  |brk ρ=>rw[he]at h;cases h
  |cont ρ=>rw[he]at h;cases h
  |bad=>rw[he]at h;cases h
 .rw[if_neg z]at h;cases h
def i7{K:IF}(h:bQ K O H args vs ds ms):∀(i:Nat) d a,args[i]?=some (.mutD d)->vs[i]?=some (.ref a)->a∈ms:=by
 induction h with
 |nil=>intro i d a e;simp at e
 |mutd h G t ih =>
  intro i d a z D;cases i with
  |zero=>simp at D;subst D;exact .head _
  |succ i=>exact .tail _ (ih i d a (by simpa using z) (by simpa using D))
 |other hm t ih =>
  intro i d a z D;cases i with
  |zero=>simp at z;exact absurd z (hm d)
  |succ i=>exact ih i d a (by simpa using z) (by simpa using D)
def oI{K:IF}(h:bQ K O H args vs ds ms):∀(i j:Nat) d d' a,i≠j->args[i]?=some (.mutD d)->args[j]?=some (.mutD d')->vs[i]?=some (.ref a)->vs[j]?≠some (.ref a):=by
 induction h with
 |nil=>intro i j d d' a _ e;simp at e
 |mutd h Y t ih =>
  intro i j d d' a U z D G J;cases i with
  |zero =>
   cases j with
   |zero=>exact U rfl
   |succ j =>
    simp at G;subst G;exact Y (i7 t j d' _ (by simpa using D) (by simpa using J))
  |succ i =>
   cases j with
   |zero =>
    simp at J;subst J;exact Y (i7 t i d _ (by simpa using z) (by simpa using G))
   |succ j=>exact ih i j d d' a (by omega) (by simpa using z) (by simpa using D) (by simpa using G) (by simpa using J)
 |other hm t ih =>
  intro i j d d' a U z D G J;cases i with
  |zero=>simp at z;exact hm d z
  |succ i =>
   cases j with
   |zero=>simp at D;exact hm d' D
   |succ j=>exact ih i j d d' a (by omega) (by simpa using z) (by simpa using D) (by simpa using G) (by simpa using J)
def qp{K:IF}(h:bQ K O H args vs ds ms):∀{ρ}{z},c8 args ρ=some z->∀a∈ms,∃(i:Nat) (d:DD),vs[i]?=some (.ref a)/\ρ[i]?=some (some (.mutD d)):=by
 induction h with
 |nil=>intro ρ z _ a G;cases G
 |mutd h Y t ih =>
  intro ρ z e b D
  match ρ,e with
  |some (.mutD d')::ρ,e =>
   rw[c8,pf]at e;obtain⟨J,U,rfl⟩:=e;rcases y1.mp D with rfl|D
   .exact⟨0,d',rfl,rfl⟩
   .obtain⟨i,d,h1,h2⟩:=ih U b D;exact⟨i+1,d,by simpa using h1,by simpa using h2⟩
 |other hm t ih =>
  intro ρ z e b D;rename_i m v as vs ds ms
  match m,ρ,e,hm with
  | .val _,r::ρ,e,hm =>
   obtain⟨i,d,h1,h2⟩:=ih e b D;exact⟨i+1,d,by simpa using h1,by simpa using h2⟩
  | .mutD d,_,_,hm=>exact absurd rfl (hm d)
def sV{K:IF}(h:bQ K O H args vs ds ms):∀{ρ}{z},c8 args ρ=some z->(∀(i:Nat) d d' a,args[i]?=some (.mutD d)->ρ[i]?=some (some (.mutD d'))->vs[i]?=some (.ref a)->DAt K H' Z a d')->bQ K Z H' args vs z ms:=by
 induction h with
 |nil=>intro ρ z e _;rw[c8]at e;cases e;exact .nil
 |mutd h hn t ih =>
  intro ρ z e D
  match ρ,e with
  |some (.mutD d')::ρ,e =>
   rw[c8,pf]at e;obtain⟨ap,e0,rfl⟩:=e;exact .mutd (D 0 _ d' _ rfl rfl rfl) hn (ih e0 λi d G a J U Y=>D (i+1) d G a (by simpa using J) (by simpa using U) (by simpa using Y))
 |other hm t ih =>
  intro ρ z e D;rename_i m v as vs ds ms
  match m,ρ,e,hm with
  | .val _,r::ρ,e,hm =>
   exact .other hm (ih e λi d G a J U Y=>D (i+1) d G a (by simpa using J) (by simpa using U) (by simpa using Y))
  | .mutD d,_,_,hm=>exact absurd rfl (hm d)
theorem gU :∀{xs}{ys}{i:Nat}{x},Paired F xs ys->xs[i]?=some x->∃y,ys[i]?=some y/\F x y
 | _,_,_,_,.nil,e=>by simp at e
 | _,_,0,_,.cons r _,e=>by simp at e;subst e;exact⟨_,rfl,r⟩
 | _,_,i+1,x,.cons _ t,e=>by
  obtain⟨u,h1,h2⟩:=gU (i:=i) (x:=x) t (by simpa using e);exact⟨u,by simpa using h1,h2⟩
def kQ{K:IF}(D:∀a∈O,H a≠none)(h:Paired (ip K O H) args vs):ar K H O O H (args.map some++replicate (N.length-args.length) none) (cY N vs):=by
 have G:=Paired.length h;have get:∀i m,(args.map some++replicate (N.length-args.length) none)[i]?=some (some m)->∃u,(cY N vs)[i]?=some (some u)/\ip K O H m u:=λi m e=>by
  by_cases hi:i<args.length
  .rw[GQ (by simpa using hi),Ga]at e;cases ea:args[i]? with
   |none=>rw[ea]at e;cases e
   |some Y =>
    rw[ea]at e;cases e;obtain⟨u,z,q⟩:=gU h ea;refine⟨u,?_,q⟩;unfold L2.cY;rw[GQ (by rw[FY,<- G];exact hi),Ga,z]
    rfl
  .rw[G9 (by simpa using hi),Hx]at e;split at e<;>cases e
 refine⟨ae.refl H,D,λa J=>J,D,by unfold L2.cY;simp[G],λi m e=>?_,λi j xs ys a _ e _ U _=>?_
  ⟩
 .obtain⟨u,z,q⟩:=get i m e;refine⟨u,z,?_⟩;cases m<;>first|exact q|exact q.elim
 .obtain⟨u,z,q⟩:=get i _ e;cases xs<;>first|exact q.elim|cases U
def i8(h:Paired F args vs):∀(i:Nat) m,(args.map some++replicate (N.length-args.length) none)[i]?=some (some m)->args[i]?=some m/\∃u,vs[i]?=some u/\(cY N vs)[i]?=some (some u)/\F m u:=λi m e=>by
 have D:=Paired.length h;by_cases hi:i<args.length
 .rw[GQ (by simpa using hi),Ga]at e;cases ea:args[i]? with
  |none=>rw[ea]at e;cases e
  |some G =>
   rw[ea]at e;cases e;obtain⟨u,z,q⟩:=gU h ea;refine⟨rfl,u,z,?_,q⟩;unfold L2.cY;rw[GQ (by rw[FY,<- D];exact hi),Ga,z]
   rfl
 .rw[G9 (by simpa using hi),Hx]at e;split at e<;>cases e
def l9{K:IF}(Z:∀a∈O,H a≠none)(h:Paired (xS K O H) args vs)(hm:bQ K O H args vs ds ms):ar K (fD H ms) (O.filter λb=>decide (b∉ms)) O H (args.map some++replicate (N.length-args.length) none) (cY N vs):=by
 have hl:=Paired.length h;have le:ae (fD H ms) H:=λb u e=>by
  unfold fD at e;split at e
  .cases e
  .exact e
 refine⟨le,Z,λa z=>(HR.mp z).1,λa z=>?_,by unfold L2.cY;simp[hl],λi m e=>?_,λi j x y a D e1 e2 ox oy s1 s2=>?_
  ⟩
 .obtain⟨h1,h2⟩:=HR.mp z;unfold fD;rw[if_neg (Gx h2)];exact Z a h1
 .obtain⟨ea,u,G,J,q⟩:=i8 h i m e;refine⟨u,J,?_⟩;cases m with
  |val v=>exact q
  |mutD d =>
   obtain⟨a,rfl,h1,h2⟩:=q;refine⟨a,rfl,h1,h2,?_⟩;unfold fD;rw[if_pos (i7 hm i d a ea G)]
  | _=>exact q.elim
 .obtain⟨ea,u,U,J,q⟩:=i8 h i x e1;obtain⟨eb,w,Y,ew,q'⟩:=i8 h j y e2;rw[J]at s1;cases s1;rw[ew]at s2;cases s2;cases x with
  |val _=>cases ox
  |mutD d =>
   cases y with
   |val _=>cases oy
   |mutD d'=>exact oI hm i j d d' a D ea eb U Y
   | _=>exact q'.elim
  | _=>exact q.elim
section
variable{T:Tab}{P:Program}{w:World}{K:IF}{mg:Str->Option Value}{base:Heap}{ds:List MD}
structure DY(T:Tab)(P:Program)(w:World)(K:IF)(mg:Str->Option Value)(base:Heap)(ds:List MD)(n g:Nat)(fa:Addr)(fd:FuncData)(ps:List Str):Prop where
 m:b9 P w K mg base CX0 n fa fd ps (spM K (aa ds n) g)
 f:b9 P w K mg base CX0 n fa fd ps (spF K (aa ds n) g)
 d:b9 P w K mg base CX0 n fa fd ps (spD K (aa ds n) g)
 e:b9 P w K mg base (CXE P w) n fa fd ps (spE K mg T.es (aa ds n) g)
 x:b9 P w K mg base (CXE P w) n fa fd ps (spX K mg T.es (aa ds n) g)
theorem gk(ao:ds.length<=1000)
  (pr:By T K mg ds w)
 :∀(n f:Nat) (d:MD),ds[f]?=some d->∀st fa fd,oH T K mg st d fa fd->DY T P w K mg base ds n f fa fd d.params
 |0,f,d,hd,st,fa,fd,D=>{
   m:=⟨λvs H Q E h=>(by obtain⟨O,args,r,_,_,e,_⟩:=h;exact absurd e (by simp[aa])),λA outer s H args us vs Q E _ _ _ _ h=>(by obtain⟨O,args,r,_,_,e,_⟩:=h;exact absurd e (by simp[aa]))⟩
   f:=⟨λvs H Q E h=>(by obtain⟨O,args,r,_,_,e,_⟩:=h;exact absurd e (by simp[aa])),λA outer s H args us vs Q E _ _ _ _ h=>(by obtain⟨O,args,r,_,_,e,_⟩:=h;exact absurd e (by simp[aa]))⟩
   d:=⟨λvs H Q E h=>(by obtain⟨O,args,v,ds,G,ms,_,_,_,e,_⟩:=h;exact absurd e (by simp[aa])),λA outer s H args us vs Q E _ _ _ _ h=>(by obtain⟨O,args,v,ds,G,ms,_,_,_,e,_⟩:=h;exact absurd e (by simp[aa]))⟩
   e:=⟨λvs H Q E h=>(by obtain⟨O,args,r,_,_,e,_⟩:=h;exact absurd e (by simp[aa])),λA outer s H args us vs Q E _ _ _ _ h=>(by obtain⟨O,args,r,_,_,e,_⟩:=h;exact absurd e (by simp[aa]))⟩
   x:=⟨λvs H Q E h=>(by obtain⟨O,args,c,G,ms,_,_,_,e,_⟩:=h;exact absurd e (by simp[aa])),λA outer s H args us vs Q E _ _ _ _ h=>(by obtain⟨O,args,c,G,ms,_,_,_,e,_⟩:=h;exact absurd e (by simp[aa]))⟩
   }
 |n+1,f,d,hd,st,fa,fd,D=>by
  obtain⟨c0,d0,k0,o0,m0,a0,a5,t1,a1,sl,lk,hc,rfl⟩:=D.fn.it;have hf:f<1000:=FU (D2.mp hd).1 ao;have hn:ds[f+1000]?=none:=GV (by omega);have cn:ds[f+2000]?=none:=GV (by omega);have b2:ds[f+5000]?=none:=GV (by omega);have gg:∀{CX:CXT}{A:Around}{outer:_}{s:Shared}{H:Hp}{E:_},_->Gf (jr CX P w K mg base d.names d.name (aK st) fa a5 A outer s H E).nox T n (aa ds n):=λ{CX A outer s H E} hr=>{
   calm:=rfl
   room:=hr
   fns:=λf' x hx=>by
    rw[pr.tab,Ga]at hx;cases hd2:ds[f']? with
    |none=>rw[hd2]at hx;cases hx
    |some d2 =>
     rw[hd2]at hx;cases hx;obtain⟨l2,aO,J,U,el,Z,bd⟩:=pr.defs.get hd2;exact⟨J,U,d2.params,Z.named,Z.fn.kp,Z.binds,(gk ao pr n f' d2 hd2 aO J U Z).m,λl hl=>by rw[el]at hl;cases hl;exact bd⟩
   blt:=pr.blt
   gs:=pr.gs
   ct:=pr.ct
   wlvl:=λh=>cI.mono hr (Fv ao h)
   wcls:=λC hC=>by
    obtain⟨h1,⟨fa,fd,ps,h2,h3,h4⟩,dn,dV,d4,k2,k3,k4⟩:=pr.wcls C hC;exact⟨h1,⟨fa,fd,ps,h2,h3,h4 _ _ _⟩,dn,dV,d4,k2,k3,k4 _ _ _⟩
   wini:=by
    obtain⟨C,h1,h2,fa,fd,ps,h3,h4,h5⟩:=pr.wini;exact⟨C,h1,h2,fa,fd,ps,h3,h4,h5 _ _ _⟩
   fnsF:=λf' x hx=>by
    rw[pr.tab,Ga]at hx;cases hd2:ds[f']? with
    |none=>rw[hd2]at hx;cases hx
    |some d2 =>
     rw[hd2]at hx;cases hx;obtain⟨l2,aO,J,U,el,Z,bd⟩:=pr.defs.get hd2;exact⟨J,U,d2.params,Z.named,Z.fn.kp,Z.binds,(gk ao pr n f' d2 hd2 aO J U Z).f⟩
   errs:=pr.errs
   mgs:=pr.mgs
   fnsE:=λf' x hx=>by
    rw[pr.tab,Ga]at hx;cases hd2:ds[f']? with
    |none=>rw[hd2]at hx;cases hx
    |some d2 =>
     rw[hd2]at hx;cases hx;obtain⟨l2,aO,J,U,el,Z,bd⟩:=pr.defs.get hd2;exact⟨J,U,d2.params,Z.named,Z.fn.kp,Z.binds,(gk ao pr n f' d2 hd2 aO J U Z).e⟩
   fnsX:=λf' x hx=>by
    rw[pr.tab,Ga]at hx;cases hd2:ds[f']? with
    |none=>rw[hd2]at hx;cases hx
    |some d2 =>
     rw[hd2]at hx;cases hx;obtain⟨l2,aO,J,U,el,Z,bd⟩:=pr.defs.get hd2;exact⟨J,U,d2.params,Z.named,Z.fn.kp,Z.binds,(gk ao pr n f' d2 hd2 aO J U Z).x⟩
   fnsD:=λf' x hx=>by
    rw[pr.tab,Ga]at hx;cases hd2:ds[f']? with
    |none=>rw[hd2]at hx;cases hx
    |some d2 =>
     rw[hd2]at hx;cases hx;obtain⟨l2,aO,J,U,el,Z,bd⟩:=pr.defs.get hd2;exact⟨J,U,d2.params,Z.named,Z.fn.kp,Z.binds,(gk ao pr n f' d2 hd2 aO J U Z).d⟩
   }
  have df:∀{CX:CXT}{A:Around}{outer:_}{s:Shared}{H:Hp}{E:_},Df (jr CX P w K mg base d.names d.name (aK st) fa a5 A outer s H E).nox:=λ{CX A outer s H E}=>⟨D.scope.nd,λ_=>rfl,PassesOwn.never,by
    have hk:(jr CX P w K mg base d.names d.name (aK st) fa a5 A outer s H E).nox.env.scope.kind=.function:=D.scope.kind;unfold Env.blockKind;rw[hk]
    rfl
    ,⟨rfl,rfl⟩
    ,rfl
    ⟩
  refine {
   m:=?_
   f:=?_
   d:=?_
   e:=?_
   x:=?_
   }
  .refine jd lk hc D.scope (λvs H Q E h=>?_) (λA outer s H vs Q E hr h=>?_)
   .obtain⟨O,args,r,_,hp,e,_⟩:=h;rw[<- (kP hd e).1];exact(Paired.length hp).symm
   .obtain⟨O,args,r,hO,hp,e,q⟩:=h;obtain⟨hl,d5⟩:=kP hd e;refine⟨_,(soundSs (gg hr) df d.body (dg st) D.body).nox,H,O,O,_,kQ hO hp,?_⟩;rcases d5 with⟨ρ,Y,rfl⟩|Y|⟨xs,Y,rfl⟩
    .rw[Y];exact λM H' O' a3 _=>q _ H' a3.keep (jG _)
    .rw[Y];exact λu H' s' r'=>q u H' s' r'
    .rw[Y];refine λp us H' s' ce ck r'=>q _ H' s' ?_
     rw[Rep];refine⟨p,us,rfl,SqL.of ?_,Reps.mono fq _ r'⟩;rw[aG λz=>hO p z ce];exact ck
  .refine jd lk hc D.scope (λvs H Q E h=>?_) (λA outer s H vs Q E hr h=>?_)
   .obtain⟨O,args,r,_,hp,e,_⟩:=h;rw[<- (jm hf hn hd e).1];exact(Paired.length hp).symm
   .obtain⟨O,args,xs,hO,hp,e,q⟩:=h;obtain⟨hl,ys,Y,ey⟩:=jm hf hn hd e;cases ey;refine⟨_,(soundSs (gg hr) df d.body (dg st) D.body).nox,H,O,O,_,kQ hO hp,?_⟩;rw[Y];exact λp us H' s' ce ck r'=>q p us H' s' ce ck r'
  .refine jd lk hc D.scope (λvs H Q E h=>?_) (λA outer s H vs Q E hr h=>?_)
   .obtain⟨O,args,v,es,G,ms,_,hp,_,e,_⟩:=h;rw[<- (l8 hf cn hd e).1];exact(Paired.length hp).symm
   .obtain⟨O,args,v,es,G,ms,hO,hp,hm,e,q⟩:=h;obtain⟨hl,v',ρ,eB,Y,cv,ey⟩:=l8 hf cn hd e;cases ey;refine⟨_,(soundSs (gg hr) df d.body (dg st) D.body).nox,fD H ms,_,O,_,l9 hO hp hm,?_⟩;rw[Y];have key:∀{M:St}{H':Hp}{O':List Addr},ar K (fD H ms) (O.filter λb=>decide (b∉ms)) O' H' ρ M->aW (fD H ms) O O' (args.map some++replicate (d.names.length-args.length) none) ρ (cY d.names vs) M->∀(i:Nat) (d':DD) (a:Addr),ρ[i]?=some (some (.mutD d'))->vs[i]?=some (.ref a)->DAt K H' O' a d'/\a∈O':=λ{M H' O'} a3 k' i d' a e2 e3=>by
     obtain⟨_,ed⟩:=k'.mutK i d' e2;obtain⟨u,eu,a',rfl,h1,h2,_⟩:=a3.slot i _ e2;have ei:(cY d.names vs)[i]?=some (some (.ref a)):=by
      have hi:i<vs.length:=(D2.mp e3).1;unfold L2.cY;rw[GQ (by simpa using hi),Ga,e3]
      rfl
     rw[ed,ei]at eu;cases eu;exact⟨h1,h2⟩
    refine λu M H' O' a3 k' ru=>?_
    have vw:ae (al H' O') (al H' O):=bi (ae.refl H') λb hb=>.inl (by
     by_cases z:b∈ms
     .obtain⟨i,d',h1,h2⟩:=qp hm cv b z;exact(key a3 k' i d' b h2 h1).2
     .refine k'.stay b ?_ hb;unfold fD;rw[if_neg z];exact hO b hb)
    refine q u H' (λb o hb eb=>a3.keep b o ?_) (sV hm cv λi d1 d' a e1 e2 e3=>(key a3 k' i d' a e2 e3).1.move (λ_ z=>z) vw) (Rep.mono vw _ ru);unfold fD;rw[if_neg hb];exact eb
  .refine jd lk hc D.scope (λvs H Q E h=>?_) (λA outer s H vs Q E hr h=>?_)
   .obtain⟨O,args,r,_,hp,e,_⟩:=h;rw[<- (gj b2 hd e).1];exact(Paired.length hp).symm
   .obtain⟨O,args,r,hO,hp,e,q⟩:=h;obtain⟨hl,Y⟩:=gj b2 hd e;have dy:Df (jr (CXE P w) P w K mg base d.names d.name (aK st) fa a5 A outer s H E).nox:=df;have dx:Df (jr (CXE P w) P w K mg base d.names d.name (aK st) fa a5 A outer s H E):=⟨dy.nd,dy.fn,PassesOwn.leaving,dy.blk,dy.stk,dy.exn⟩;refine⟨_,soundE (Gf.unnox (gg hr)) dx d.body (dg st) D.body,H,O,O,_,kQ hO hp,?_⟩;cases hx:exsE (aa ds n) d.body (args.map some++replicate (d.names.length-args.length) none)with
    |err c =>
     rw[hx]at Y;cases Y;rcases q with⟨v,z,_⟩|⟨c',z,q⟩
     .cases z
     .cases z;exact λC H' b1 hm s1=>⟨λpins s' M h' ea vs I hx=>kn I rfl rfl rfl hx λs2 fl=>⟨ea,C,H',rfl,fl,q C H' b1 hm s1⟩,λpins M H1 ef ea s' I fl=>lV I rfl rfl rfl fl λs2 fl2=>⟨ea,C,H',rfl,fl2,q C H' b1 hm s1⟩,λpins M ea s' hh=>jg hh rfl rfl rfl λs2 fl2=>⟨ea,C,H',rfl,fl2,q C H' b1 hm s1⟩⟩
    |fin r0 =>
     rw[hx]at Y;rcases q with⟨v,z,q⟩|⟨c',z,q⟩
     .subst z;cases r0 with
      |next ρ =>
       cases Y;exact λM H' O' a3 _=>q _ H' a3.keep (jG _)
      |ret u =>
       cases Y;exact λu H' s' r'=>q u H' s' r'
      |brk _=>cases Y
      |cont _=>cases Y
      |bad=>cases Y
      |retF _=>cases Y
      |retM _ _=>cases Y
     .subst z;cases r0<;>cases Y
  .refine jd lk hc D.scope (λvs H Q E h=>?_) (λA outer s H vs Q E hr h=>?_)
   .obtain⟨O,args,c,G,ms,_,hp,_,e,_⟩:=h;rw[<- (gj b2 hd e).1];exact(Paired.length hp).symm
   .obtain⟨O,args,c,G,ms,hO,hp,hm,e,q⟩:=h;obtain⟨hl,Y⟩:=gj b2 hd e;have dy:Df (jr (CXE P w) P w K mg base d.names d.name (aK st) fa a5 A outer s H E).nox:=df;have dx:Df (jr (CXE P w) P w K mg base d.names d.name (aK st) fa a5 A outer s H E):=⟨dy.nd,dy.fn,PassesOwn.leaving,dy.blk,dy.stk,dy.exn⟩;refine⟨_,soundE (Gf.unnox (gg hr)) dx d.body (dg st) D.body,fD H ms,_,O,_,l9 hO hp hm,?_⟩;cases hx:exsE (aa ds n) d.body (args.map some++replicate (d.names.length-args.length) none)with
    |err c' =>
     rw[hx]at Y;cases Y;exact λC H' b1 eg s1 =>
      have k:=q C H' b1 eg λb o hb eb=>s1 b o (by unfold fD;rw[if_neg hb];exact eb)
      ⟨λpins s' M h' ea vs I hx=>kn I rfl rfl rfl hx λs2 fl=>⟨ea,C,H',rfl,fl,k⟩,λpins M H1 ef ea s' I fl=>lV I rfl rfl rfl fl λs2 fl2=>⟨ea,C,H',rfl,fl2,k⟩,λpins M ea s' hh=>jg hh rfl rfl rfl λs2 fl=>⟨ea,C,H',rfl,fl,k⟩⟩
    |fin r0 =>
     rw[hx]at Y;cases r0<;>cases Y
def DZ(z:ds.length<=1000)
  (J:By T K mg ds w)
  (n f:Nat) (d:MD) (hd:ds[f]?=some d) (st:Stmt) (G:Addr) (fd:FuncData) (D:oH T K mg st d G fd):b9 P w K mg base CX0 n G fd d.params (spM K (aa ds n) f):=(gk z J n f d hd st G fd D).m
end
def BA{K:IF}{ns:List Int}(h:aa ds n li [.brw (ns.map .int)]=some (.bl true))(D:SqL K H a (ns.map V.int)):spM K (aa ds n) li [.ref a] H (λv _=>v=.bl true) λ_ _ _=>False:=
 ⟨[],[.brw (ns.map .int)],.bl true,λ_ z=>by simp at z,.cons ⟨a,_,rfl,D,.of_ints ns⟩ .nil,h,λu H' _ r=>by rw[Rep]at r;exact r⟩
end MM
namespace MM
open PySem List Option
noncomputable abbrev ofS(ts:List Int):PV:=.tup (ts.map .int)
noncomputable abbrev ofR(R:List (List Int)):PV:=.tup (R.map ofS)
noncomputable abbrev ofL(ns:List Int):PV:=.lst (ns.map .int)
theorem kR{α:Type}{g:α->PV}{c:PV->Option Bool}{f:PV->Option PV}{p:α->Bool}{h:α->PV}:∀{xs:List α},(∀x∈xs,c (g x)=some (p x))->(∀x∈xs,p x=true->f (g x)=some (h x))->cj c f (xs.map g)=some ((xs.filter p).map h)
 | [],_,_=>rfl
 |x::xs,hc,hf=>by
  rw[F0,cj,hc x (.head _),bind_some];have ih:=kR (xs:=xs) (λy z=>hc y (.tail _ z)) (λy z=>hf y (.tail _ z));cases D:p x<;>simp_all
def kS{α:Type}{g:α->PV}{c:PV->Option Bool}{f:PV->Option PV}{h:α->PV}{xs:List α}(hc:∀x∈xs,c (g x)=some true)(z:∀x∈xs,f (g x)=some (h x)):cj c f (xs.map g)=some (xs.map h):=by
 rw[kR (p:=λ_=>true) hc (λx hx _=>z x hx),filter_eq_self.mpr λ_ _=>rfl]
@[simp] theorem yq(n)(i j):eqF n (.int i) (.int j)=some (i==j):=by cases n<;>rfl
theorem oJ(n):∀a b:List Int,eqL (eqF n) (a.map .int) (b.map .int)=some (decide (a=b))
 | [],[]=>rfl
 | [],_::_=>rfl
 | _::_,[]=>rfl
 |x::a,y::b=>by
  rw[F0,F0,eqL,oJ n a b];simp only[yq,bind_some,map_some]
  congr 1
  rw[G8];simp
def D0(n)(a b):eqF (n+1) (ofS a) (ofS b)=some (decide (a=b)):=oJ n a b
theorem zk(n:Nat):∀a b:List (List Int),eqL (eqF (n+1)) (a.map ofS) (b.map ofS)=some (decide (a=b))
 | [],[]=>rfl
 | [],_::_=>rfl
 | _::_,[]=>rfl
 |x::a,y::b=>by
  rw[F0,F0,eqL,zk n a b,D0];simp only[bind_some,map_some,Iz]
  congr 1
  rw[G8];simp
def D1(n:Nat)(a b:List (List Int)):eqF (n+2) (ofR a) (ofR b)=some (decide (a=b)):=zk n a b
noncomputable def bu:R->Option PV
 | .next _=>some .non
 | .ret v=>some v
 | .retF xs=>some (.lst xs)
 | _=>none
def aD(hd:ds[f]?=some d)(z:args.length=d.params.length):aa ds (n+1) f args=bu (exs (aa ds n) d.body (args.map some++replicate (d.names.length-args.length) none)):=by
 rw[aa,hd];simp[z]
 rfl
noncomputable def yr(args:List MV):R->Option PV
 | .retM v ρ=>(c8 args ρ).map λds=>.tup (v::ds)
 | _=>none
def l_{ds:List MD}{n f:Nat}{d:MD}{args:List MV}(z:ds[f+2000]?=none)(hd:ds[f]?=some d)(D:args.length=d.params.length)
  (G:f<1000:=by decide)
 :aa ds (n+1) (f+2000) args=yr args (exs (aa ds n) d.body (args.map some++replicate (d.names.length-args.length) none)):=by
 rw[aa,z];dsimp only;rw[if_pos (by omega)];rw[if_neg (by omega)];rw[if_neg (by omega)];rw[GD,hd];simp only[D,if_true];unfold yr
 rfl
@[simp] theorem B2(v)(ρ)(k):(R.retM v ρ).andThen k=.retM v ρ:=rfl
@[simp] theorem BB(v:List (Int×Sc)):dL (some (.mutD (.k v)))=some (.brwD (.k v)):=rfl
@[simp] theorem zm(v:List Int):dL (some (.mutD (.p v)))=some (.brwD (.p v)):=rfl
@[simp] theorem BC(v:List (Int×Sc)):dl (some (.mutD (.k v)))=some (.brwD (.k v)):=rfl
@[simp] theorem zo(v:List Int):dl (some (.mutD (.p v)))=some (.brwD (.p v)):=rfl
def i9{ds:List MD}{n f:Nat}{d:MD}{args:List MV}(z:ds[f+5000]?=none)(hd:ds[f]?=some d)(D:args.length=d.params.length)
 :aa ds (n+1) (f+5000) args=sr (exsE (aa ds n) d.body (args.map some++replicate (d.names.length-args.length) none)):=by
 rw[aa,z];dsimp only;rw[if_pos (by omega)];rw[if_neg (by omega)];rw[if_pos (by omega)];rw[GD,hd];dsimp only;rw[if_pos D]
@[simp] theorem B3(xs)(k):(R.retF xs).andThen k=.retF xs:=rfl
@[simp] theorem B4(v):bT (some (.val v))=some v:=rfl
@[simp] theorem B5(v):bT (some (.own v))=some (.lst v):=rfl
@[simp] theorem B6(v):bT (some (.brw v))=some (.lst v):=rfl
@[simp] theorem BE(v):bT (some (.ownD (.k v)))=some (.dI (.k v)):=rfl
@[simp] theorem BF(v):bT (some (.ownD (.t v)))=some (.dI (.t v)):=rfl
@[simp] theorem BG(v):bT (some (.brwD (.k v)))=some (.dI (.k v)):=rfl
@[simp] theorem Fw(v):lv (.k v)=true:=rfl
@[simp] theorem Fx(v):lv (.t v)=true:=rfl
@[simp] theorem BH(v):bT (some (.brwD (.t v)))=some (.dI (.t v)):=rfl
@[simp] theorem BI(v:List (Int×Sc)):dL (some (.ownD (.k v)))=some (.brwD (.k v)):=rfl
@[simp] theorem zp(v:List Int):dL (some (.ownD (.p v)))=some (.brwD (.p v)):=rfl
@[simp] theorem BJ(v):dL (some (.brwD v))=some (.brwD v):=rfl
@[simp] theorem BK(v:List (Int×Sc)):dl (some (.ownD (.k v)))=some (.brwD (.k v)):=rfl
@[simp] theorem zq(v:List Int):dl (some (.ownD (.p v)))=some (.brwD (.p v)):=rfl
@[simp] theorem BL(v):dl (some (.brwD v))=some (.brwD v):=rfl
@[simp] theorem Fy(i):sc? (.int i)=some (.int i):=rfl
@[simp] theorem FQ(i):sc? (.bl i)=some (.bl i):=rfl
@[simp] theorem Fz:sc? .non=some .non:=rfl
@[simp] theorem FA(i):(Sc.int i).pv=.int i:=rfl
@[simp] theorem FR(i):(Sc.bl i).pv=.bl i:=rfl
@[simp] theorem B7(v):uO (some (.val v))=some v:=rfl
@[simp] theorem B8(v):dL (some (.val v))=some (.val v):=rfl
@[simp] theorem B9(v):dL (some (.own v))=some (.brw v):=rfl
@[simp] theorem B_(v):dL (some (.brw v))=some (.brw v):=rfl
@[simp] theorem Ca(v):dl (some (.val v))=some (.val v):=rfl
@[simp] theorem Cb(v):dl (some (.own v))=some (.brw v):=rfl
@[simp] theorem Cc(v):dl (some (.brw v))=some (.brw v):=rfl
@[simp] theorem sW(b):aQ (.bl b)=some b:=rfl
@[simp] theorem Ey(i j):ez .add (.int i) (.int j)=some (.int (i+j)):=rfl
@[simp] theorem Ez(i j):ez .sub (.int i) (.int j)=some (.int (i-j)):=rfl
@[simp] theorem EA(i j):ez .mul (.int i) (.int j)=if (-(2 ^ 64)<i/\i<2 ^ 64)\/(-(2 ^ 64)<j/\j<2 ^ 64)then some (.int (i*j))else none:=rfl
@[simp] theorem D3(i j):ez .fdiv (.int i) (.int j)=if 0<j/\j<1073741824 then some (.int (i / j))else none:=rfl
@[simp] theorem EB(i j):ez .mod (.int i) (.int j)=if 0<j then some (.int (i % j))else none:=rfl
@[simp] theorem EC(x y):ez .add (.lst x) (.lst y)=if x.length+y.length<=10000 then some (.lst (x++y))else none:=rfl
@[simp] theorem FB(i j):cf .lt (.int i) (.int j)=some (decide (i<j)):=rfl
@[simp] theorem FC(i j):cf .le (.int i) (.int j)=some (decide (i<=j)):=rfl
@[simp] theorem FE(i j):cf .gt (.int i) (.int j)=some (decide (j<i)):=rfl
@[simp] theorem FF(i j):cf .ge (.int i) (.int j)=some (decide (j<=i)):=rfl
@[simp] theorem FG(x y):cf .eq x y=eqF 100 x y:=rfl
@[simp] theorem FH(x y):cf .ne x y=if sm x y=true then(eqF 100 x y).map (λp=>!p)else none:=rfl
@[simp] theorem ED(x):cf .isN x .non=some (gu x):=rfl
@[simp] theorem D4(x):cf .notN x .non=some (!gu x):=rfl
@[simp] theorem EE(x)(xs):cf .isIn x (.tup xs)=isIn x xs:=rfl
@[simp] theorem EF(x)(xs):cf .isIn x (.lst xs)=isIn x xs:=rfl
@[simp] theorem D5(x)(xs):cf .notIn x (.tup xs)=(isIn x xs).map λp=>!p:=rfl
@[simp] theorem D6(x)(xs):cf .notIn x (.lst xs)=(isIn x xs).map λp=>!p:=rfl
@[simp] theorem FI(n)(i j):eqF n (.bl i) (.bl j)=some (i==j):=by cases n<;>rfl
@[simp] theorem EG(n)(i j):eqF n (.str i) (.str j)=some (i==j):=by cases n<;>rfl
@[simp] theorem EH(x y):sm (.tup x) (.tup y)=true:=rfl
@[simp] theorem EI(x y):sm (.lst x) (.lst y)=true:=rfl
@[simp] theorem EJ(x y):sm (.int x) (.int y)=true:=rfl
@[simp] theorem EK(x):bE (.tup x)=some x:=rfl
@[simp] theorem EL(x):bE (.lst x)=some x:=rfl
@[simp] theorem D7(x):ay .len [.tup x]=some (.int x.length):=rfl
@[simp] theorem D8(x):ay .len [.lst x]=some (.int x.length):=rfl
@[simp] theorem D9(x):ay .len [.dI (.k x)]=some (.int x.length):=rfl
@[simp] theorem EM(x):ay .tupleOf [x]=(bE x).map .tup:=rfl
@[simp] theorem D_(x):ay .listOf [x]=(bE x).map .lst:=rfl
@[simp] theorem BM(x):ay .sorted [x]=(bE x).bind ko:=rfl
@[simp] theorem EN(x):ay .any [.lst x]=(cM x).map λbs=>.bl (bs.any id):=rfl
@[simp] theorem EO(x):ay .all [.lst x]=(cM x).map λbs=>.bl (bs.all id):=rfl
@[simp] theorem Ea(i):ay .intOf [.int i]=some (.int i):=rfl
@[simp] theorem Eb(b):ay .intOf [.bl b]=some (.int (if b then 1 else 0)):=rfl
@[simp] theorem EQ(i):isD (.int i)=false:=rfl
@[simp] theorem FJ(i):isD (.bl i)=false:=rfl
@[simp] theorem ER(i):isD (.str i)=false:=rfl
@[simp] theorem ES(i):isD (.tup i)=false:=rfl
@[simp] theorem ET(i):isD (.lst i)=false:=rfl
@[simp] theorem EU:isD .non=false:=rfl
@[simp] theorem Cd(x):ay .isInt [x]=if isD x=true then none else some (.bl (isT .isInt x)):=rfl
@[simp] theorem wq(i):isT .isInt (.int i)=true:=rfl
@[simp] theorem yt(i):isT .isInt (.bl i)=true:=rfl
@[simp] theorem wt(i):isT .isInt (.str i)=false:=rfl
@[simp] theorem wu(i):isT .isInt (.lst i)=false:=rfl
@[simp] theorem wv(i):isT .isInt (.tup i)=false:=rfl
@[simp] theorem ww:isT .isInt .non=false:=rfl
@[simp] theorem BN(x):ay .isBool [x]=if isD x=true then none else some (.bl (isT .isBool x)):=rfl
@[simp] theorem vN(i):isT .isBool (.int i)=false:=rfl
@[simp] theorem wz(i):isT .isBool (.bl i)=true:=rfl
@[simp] theorem vO(i):isT .isBool (.str i)=false:=rfl
@[simp] theorem vQ(i):isT .isBool (.lst i)=false:=rfl
@[simp] theorem vR(i):isT .isBool (.tup i)=false:=rfl
@[simp] theorem vS:isT .isBool .non=false:=rfl
@[simp] theorem Cf(x):ay .isStr [x]=if isD x=true then none else some (.bl (isT .isStr x)):=rfl
@[simp] theorem wA(i):isT .isStr (.int i)=false:=rfl
@[simp] theorem yu(i):isT .isStr (.bl i)=false:=rfl
@[simp] theorem wB(i):isT .isStr (.str i)=true:=rfl
@[simp] theorem wC(i):isT .isStr (.lst i)=false:=rfl
@[simp] theorem wD(i):isT .isStr (.tup i)=false:=rfl
@[simp] theorem wE:isT .isStr .non=false:=rfl
@[simp] theorem BO(x):ay .isList [x]=if isD x=true then none else some (.bl (isT .isList x)):=rfl
@[simp] theorem vT(i):isT .isList (.int i)=false:=rfl
@[simp] theorem wF(i):isT .isList (.bl i)=false:=rfl
@[simp] theorem vU(i):isT .isList (.str i)=false:=rfl
@[simp] theorem vV(i):isT .isList (.lst i)=true:=rfl
@[simp] theorem vW(i):isT .isList (.tup i)=false:=rfl
@[simp] theorem vX:isT .isList .non=false:=rfl
@[simp] theorem zr(x):ay .isTuple [x]=if isD x=true then none else some (.bl (isT .isTuple x)):=rfl
@[simp] theorem ti(i):isT .isTuple (.int i)=false:=rfl
@[simp] theorem vY(i):isT .isTuple (.bl i)=false:=rfl
@[simp] theorem tj(i):isT .isTuple (.str i)=false:=rfl
@[simp] theorem tm(i):isT .isTuple (.lst i)=false:=rfl
@[simp] theorem tq(i):isT .isTuple (.tup i)=true:=rfl
@[simp] theorem tu:isT .isTuple .non=false:=rfl
@[simp] theorem Ec(xs):ay .max1 [.lst xs]=(cm xs).bind λns=>(CY ns).map .int:=rfl
@[simp] theorem BP(d):ay .valuesOf [.dI d]=if (qP d).length<=10000 then some (.lst (qP d))else none:=rfl
@[simp] theorem vZ(kvs):ay .sortedKeys [.dI (.k kvs)]=if kvs.length<64 then some (ofL (uM (kvs.map (·.1))))else none:=rfl
@[simp] theorem FK(kvs)(i):xu (.dI (.k kvs)) (.int i)=some (yV kvs i):=rfl
@[simp] theorem FL(kvs)(i)(s):Ar (.k kvs) (.int i) s=if kvs.length<10000 then some (.k (yW kvs i s))else none:=rfl
@[simp] theorem EV(p q):cf .isN (.bl p) (.bl q)=some (p==q):=rfl
@[simp] theorem Ed(p q):cf .notN (.bl p) (.bl q)=some (!(p==q)):=rfl
@[simp] theorem yw(xs):ay .tupleRev [.lst xs]=some (.tup xs.reverse):=rfl
@[simp] theorem wG(x:PV):ay .sortedSet [x]=(bE x).bind λxs=>(cm xs).bind λns=>if ns.length<2 then some (.lst (ns.map .int))else none:=rfl
@[simp] theorem FS(x)(i):lX (.lst x) (.int i)=(place x.length i).bind λj=>x[j]?:=rfl
@[simp] theorem FT(x)(i):lX (.tup x) (.int i)=(place x.length i).bind λj=>x[j]?:=rfl
@[simp] theorem EW(x)(lo hi):hZ (.lst x) lo hi=some (.lst (cut x lo hi)):=rfl
@[simp] theorem EX(i j):bnd (.cst (.int i)) (.int j)=some (some j):=rfl
@[simp] theorem EY(x):ba .seq [x]=bE x:=rfl
def yx(j):ba .rng [.int j]=if -(2 ^ 62)<=j/\j<2 ^ 62 then some ((range j.toNat).map λk=>.int ((0:Int)+k))else none:=rfl
@[simp] theorem gm(ρ)(k):(R.next ρ).andThen k=k ρ:=rfl
@[simp] theorem Ee(v)(k):(R.ret v).andThen k=.ret v:=rfl
@[simp] theorem v0(k):R.bad.andThen k=.bad:=rfl
@[simp] theorem Ef(ρ)(k):(R.brk ρ).andThen k=.brk ρ:=rfl
@[simp] theorem Cg(ρ)(k):(R.cont ρ).andThen k=.cont ρ:=rfl
@[simp] theorem BQ(v)(k):dq (some v) k=k v:=rfl
@[simp] theorem qr(v)(k):uP (some v) k=k v:=rfl
@[simp] theorem BR(v)(k):gw (some v) k=k v:=rfl
@[simp] theorem Ch(v):bu (.ret v)=some v:=rfl
@[simp] theorem BS(ρ):bu (.next ρ)=some .non:=rfl
@[simp] theorem bw(a)(l)(m):put (a::l) 0 m=some m::l:=rfl
@[simp] theorem bx(a)(l)(n)(m):put (a::l) (n+1) m=a::put l n m:=rfl
@[simp] theorem Ci(src)(z ρ):(R.next ρ).back src z=.next (bP src z ρ):=rfl
@[simp] theorem Eg(src)(z)(v):(R.ret v).back src z=.ret v:=rfl
@[simp] theorem Cj(body)(ρ):bH body [] ρ=.next ρ:=rfl
def kT(z:0<=j)(h1:j<4611686018427387904):ba .rng [.int j]=some ((range j.toNat).map λk=>.int (k:Int)):=by
 rw[yx,if_pos ⟨by omega,by omega⟩]
 congr 1
 simp_all
def v3{n:Nat}{i:Int}(z:0<=i)(h:i<n):place n i=some i.toNat:=by unfold place;rw[if_pos z,if_pos h]
noncomputable def Eh(ns:List Int)(lo hi:Option Int):List Int:=(ns.drop (hW ns.length 0 lo)).take (hW ns.length ns.length hi-hW ns.length 0 lo)
@[simp] theorem Ei(ns)(lo hi):cut (ns.map .int) lo hi=(Eh ns lo hi).map .int:=by
 unfold cut Eh
 simp_all
end MM
structure PySem.W.Fast:Prop where (tw10017797110465399567 tw7649560599699403782 tw10411724406065161676 tw7203255876993132346 tw10731917931175917443 tw17402117749296882007 tw17932638629668628425 tw11257458320776508697 tw1526711814344066375 tw4306846707298827690 tw16912711789759618110 tw1907584762358403556 tw12634910442480752441 tw12627359582814545247 tw14300994532743931626 tw17998085424492356481 tw13015293936413907033 tw2976387754841143315 tw7624961014882244608 tw7116847717419104971 tw5763565053746530587 tw17981829125977294069 tw18373916782468108713 tw14305419861861409031 tw17703380274225835437 tw7250250618357738896 tw14261950721056811739 tw14027095996463813803 tw7619314777588027165 tw59630571765546032 tw9250840402877067899 tw13715612196236435811 tw5375834649546405370 tw1998291624272811998 tw15277460781564108480 tw7053834260959108363 tw13474427261958624727 tw1519570606416408979 tw13560166110070170326 tw9580363005107888847 tw4175793617626299935 tw12994793535015481867 tw17376307403903700753 tw15377734588378983330 tw6113692218920566370 tw5809753541827673616 tw8323758690870017439 tw15646117906277937382 tw12171685101625676048 tw6204502824849969527 tw1466354404203437534 tw17840600596606648371 tw7695797767227178945 tw15797364779074460460 tw906576091271472655 tw14209831160216304053 tw6293064658156645929 tw12067378571125786744 tw14703054399576406951 tw15067644600269410473 tw15610021130118253226 tw5673175389263058186 tw8556994369882028895 tw731137837129934589 tw9017554519856857959 tw2766065658739603228 tw11790718523246564609 tw6593721553165879615 tw5561526243906778040 tw14091246179142952053 tw6843457789030957738 tw6412271758120134142 tw3474623834201143957 tw8101073950208069482 tw12265895008947558521 tw4031759627281262354 tw2725227399928897718 tw3447868489745530071 tw13643882248350000976 tw7360748557687712764 tw12712691326438356455 tw14832450308987789392 tw1180528122921432676 tw4259893817497926268 tw13977266123578760119 tw10457931534751253233 tw8323867043913586517 tw10256493149988092240 tw9174338071362103933 tw8024563139782040224 tw2523311123967189239 tw14232435222208444126 tw420337888222484621 tw9615143204017127637 tw6800990984765597989 tw3023353350740306914 tw14587229079002515740 tw17673827980579505637 tw6469934864369200899 tw7095282410252491768 tw7003816249841380164 tw11846793180968988432 tw16328960589389225291 tw12954083751208704604 tw9717065361832303102 tw1926478264283809246 tw7943405844903906387 tw83858539084295658 tw7466010416515343579 tw7453362270126346508 tw13461212254410653971 tw17126385602538967448 tw15853198570454382789 tw12046428046489288359 tw6828303551746916207 tw16147055647232068315 tw11562483043679587153 tw3728938210096804950 tw438146636564688209 tw9834827860781135568 tw15649970634763903238 tw15626846912084482719 tw10346977960045072166 tw9253072690539787498 tw7356363586201475263 tw13606393178341594709 tw15859118685166025738 tw1997759409299332537 tw5300302590659453251 tw2614277313921785110 tw2834358630418080775 tw9474285822189573725 tw6574861637403156444 tw12053462231763468227 tw1110579470900219393 tw9049232544923329471 tw17690882588098892464 tw13679979443328906460 tw9270275642784711939 tw1202381088591718763 tw9356712416789377830 tw7479287017535209219 tw9434012328639122885 tw1887885397004662478 tw5474854910156040917 tw12135113710771504286 tw5999825340645878531 tw172604964705407737 tw9133573052126823421 tw12862280854366151070 tw4409285286546466280 tw4681042196317975006 tw6051564953565519632 tw5258388699762871928 tw11368965207926203268 tw8637571564540824906 tw8903530172235988575 tw3485798489404046242 tw18023293507678725806 tw8920747587983164583 tw10932861697640888350 tw999186565044871811 tw9096320261532602460 tw11771324328329507558 tw1571922076935057654 tw4950257272754604954 tw4507227748128793585 tw12606947165698342461 tw4101240279696784967 tw5055954415915868431 tw9128686268598241649 tw440517021182054388 tw16403940685034489369 tw13261085642810612144 tw11094839142216259247 tw4848546860768022924 tw14342960455500481714 tw10246528251081638229 tw7280965880895346986 tw11387242200326091862 tw14254322003009544417 tw587191459981125512 tw15560754469219308576 tw4017719342568915198 tw14159963758459004846 tw15283574543349647710 tw2662141865760645341 tw5004808562229197623 tw6378881723903777417 tw3182235485892576137 tw16802357096394168274 tw6786077234941327864 tw2207428605857587950 tw7924216510579324960 tw9106191710610104934 tw14201768169049887054 tw8874948959634208031 tw1016234737063285541 tw10310820603184655735 tw2892775271115165117 tw6352258429100002614 tw6154042288943902608 tw15091302654125652823 tw18115276397432840442 tw9021592125671924094 tw16229157571546388996 tw16376890695880183699 tw16539325947491754118 tw11518540478362329601 tw16446484481596045956 tw17524279551196635571 tw16651987728762948403 tw15655235884442072916 tw3097743380172503253 tw3440939221396017044 tw371863340116227087 tw18398320412101377363 tw16671419539707822833 tw18168879205760729836 tw4365538926370682165 tw3210943992122662884 tw14290390369656655395 tw11803901128454597728 tw13226206607588233525 tw9946077065321017183 tw13062849724636366781 tw8743937279055723816 tw14344495691572575464 tw17192626620294782702 tw5212801399544219212 tw14816821173002750681 tw2284397478230108310 tw4626065821892432973 tw10722729530164731223 tw9352263175843673470 tw13839490801237098932 tw5037549502795789104 tw16893880541880416798 tw14672481682548357547 tw13969391716132092952 tw12912263126207101031 tw13239382095268559228 tw11823395169304052277 tw16196257499185659809 tw3699784377005123222 tw9747550773733701417 tw4448271591249951384 tw15645845859295756295 tw13863330352469898747 tw2781492998507288300 tw16413264085516753746 tw12774921576190816758 tw1742095573186150668 tw15824857843083018995 tw13721109887350910164 tw4591601546323943907 tw16138536491668754208 tw6548760097964298310 tw7694873462894672122 tw7981908838922594837 tw14466515451424434077:True)
namespace My
open PySem L2 MM List Option
noncomputable abbrev ix(a:Nat)(b:Int):ME:=.idx (.bor a) (.cst (.int b))
noncomputable abbrev sv(x:PV):Option MV:=some (.val x)
abbrev LL:=List (List Int)
noncomputable abbrev ci(x:Int):ME:=.cst (.int x)
noncomputable abbrev cs(x:Str):ME:=.cst (.str x)
noncomputable def eN:MD:=⟨"number_read",["word"],["word"],
  [.ite (.or (.cmp .notIn (.blt .len [.bor 0]) (.tup [(ci 1),(ci 2)])) (.not (.blt .all [(.comp .chr [.bor 0] [] (.cst (.bl true)) (.cmp .isIn (.bor 0) (.glob "FIGURES" (.str "0123456789"))))])))
   [.ret (.cst .non)]
   [],
  .ite (.and (.cmp .eq (.blt .len [.bor 0]) (ci 2)) (.cmp .eq (ix 0 0) (cs "0")))
   [.ret (.cst .non)]
   [],
  .ret (.blt .intOf [.bor 0])]⟩
noncomputable def cU:MD:=⟨"is_number_below",["thing","bound"],["thing","bound"],
  [.ite (.or (.blt .isBool [.bor 0]) (.not (.blt .isInt [.bor 0])))
   [.ret (.cst (.bl false))]
   [],
  .ret (.chain .le .lt (ci 0) (.bor 0) (.bor 1))]⟩
noncomputable def cV:List MS:=[.extend 1 (.bor 2)]
noncomputable def fw:MD:=⟨"members_of",["rows"],["rows","members","row"],
  [.setOwn 1 (.lst []),
  .for1 2 .seq [.bor 0] cV,
  .retOwn 1]⟩
noncomputable def dX:List MS:=[.ite (.not (.call 1 [.bor 1,(.glob "HOLE_COUNT" (.int 60))]))
   [.raise "NoRest"]
   []]
noncomputable def iA:MD:=⟨"strip_made",["row"],["row","thing"],
  [.for1 1 .seq [.bor 0] dX,
  .ret (.blt .tupleOf [(.blt .sortedSet [.bor 0])])]⟩
noncomputable def fT:MD:=⟨"rest_made",["strips"],["strips"],
  [.ite (.cmp .gt (.blt .len [.bor 0]) (.glob "MOST_STRIPS" (.int 60)))
   [.raise "NoRest"]
   [],
  .ret (.blt .tupleOf [(.blt .sorted [(.comp .seq [.bor 0] [] (.cst (.bl true)) (.call 3 [.bor 0]))])])]⟩
noncomputable def mf:MD:=⟨"counted",["rows"],["rows"],
  [.ret (.bin .add (.lst [(.blt .strOf [(.blt .len [.bor 0])])]) (.call 2 [.bor 0]))]⟩
noncomputable def gx:MD:=⟨"strip_words",["strip"],["strip"],
  [.ret (.call 5 [(.comp .seq [.bor 0] [] (.cst (.bl true)) (.lst [(.blt .strOf [.bor 0])]))])]⟩
noncomputable def a_:MD:=⟨"member_words",["member","kind"],["member","kind"],
  [.ite (.or (.cmp .eq (.bor 1) (cs "hole")) (.cmp .eq (.bor 1) (cs "reply")))
   [.ret (.lst [(.ite (.cmp .isN (.bor 0) (.cst .non)) (.cst (.str "-")) (.blt .strOf [.bor 0]))])]
   [],
  .ite (.cmp .eq (.bor 1) (cs "rest"))
   [.ret (.call 5 [(.comp .seq [.bor 0] [] (.cst (.bl true)) (.call 6 [.bor 0]))])]
   [],
  .ite (.cmp .eq (.bor 1) (cs "paper"))
   [.ret (.call 9 [.bor 0])]
   [],
  .ret (.call 5 [(.comp .seq [.bor 0] [1] (.cst (.bl true)) (.call 8 [.bor 0,.bor 1]))])]⟩
noncomputable def fE:MD:=⟨"members_words",["members","kinds"],["members","kinds"],
  [.ret (.call 2 [(.comp2 [.bor 0,.bor 1] [] (.cst (.bl true)) (.call 7 [.bor 0,.bor 1]))])]⟩
noncomputable def gz:MD:=⟨"paper_words",["paper"],["paper"],
  [.ret (.bin .add (.lst [(ix 0 0)]) (.call 8 [(.slice (.bor 0) (ci 1) (.cst .non)),(.cdat "MEMBERS" (ix 0 0))]))]⟩
noncomputable def fF:MD:=⟨"paper_written",["paper"],["paper"],
  [.ret (.join " " (.call 9 [.bor 0]))]⟩
noncomputable def dY:MD:=⟨"number_below",["word","bound"],["word","bound","number"],
  [.set 2 (.call 0 [.bor 0]),
  .ite (.not (.call 1 [.bor 2,.bor 1]))
   [.raise "NoPaper"]
   [],
  .ret (.var 2)]⟩
noncomputable def fU:MD:=⟨"hole_from",["words"],["words"],
  [.retXE (.fn 11 (.nextw 0) [(.glob "HOLE_COUNT" (.int 60))])]⟩
noncomputable def iB:MD:=⟨"reply_from",["words"],["words","word"],
  [.setX 1 (.nextw 0),
  .retM (.ite (.cmp .eq (.bor 1) (.cst (.str "-"))) (.cst .non) (.call 11 [.bor 1,(.glob "HOLE_COUNT" (.int 60))]))]⟩
noncomputable def fz:MD:=⟨"count_from",["words"],["words"],
  [.retXE (.fn 11 (.nextw 0) [(.bin .add (.glob "MOST_COUNT" (.int 60)) (ci 1))])]⟩
noncomputable def iC:MD:=⟨"strip_from",["words"],["words"],
  [.retXE (.tupOf (.compR (.call 14 [true] [.bor 0]) [0] .one (.cst .non) 12 [true] [.bor 1]))]⟩
noncomputable def jn:MD:=⟨"rest_from",["words"],["words","rest"],
  [.setX 1 (.tupOf (.compR (.call 14 [true] [.bor 0]) [0] .one (.cst .non) 15 [true] [.bor 1])),
  .ite (.cmp .ne (.call 4 [.bor 1]) (.bor 1))
   [.raise "NoPaper"]
   [],
  .retM (.var 1)]⟩
noncomputable def bh:MD:=⟨"member_from",["words","kind","room"],["words","kind","room"],
  [.ite (.cmp .eq (.bor 1) (cs "hole"))
   [.retXE (.call 12 [true] [.bor 0])]
   [],
  .ite (.cmp .eq (.bor 1) (cs "reply"))
   [.retXE (.call 13 [true] [.bor 0])]
   [],
  .ite (.cmp .eq (.bor 1) (cs "rest"))
   [.retXE (.call 16 [true] [.bor 0])]
   [],
  .ite (.cmp .eq (.bor 1) (cs "paper"))
   [.retXE (.call 19 [true,false] [.bor 0,.bor 2])]
   [],
  .retXE (.tupOf (.compR (.call 14 [true] [.bor 0]) [0,1,2] .one (.cst .non) 18 [true,false,false] [.bor 1,.bor 2,.bor 3]))]⟩
noncomputable def dZ:MD:=⟨"members_from",["words","kinds","room"],["words","kinds","room"],
  [.retXE (.tupOf (.compS (.var 1) [0,2] .one (.cst .non) 17 [true,false,false] [.bor 1,.bor 0,.bor 2]))]⟩
noncomputable def du:MD:=⟨"paper_from",["words","room"],["words","room","word"],
  [.ite (.cmp .eq (.bor 1) (ci 0))
   [.raise "NoPaper"]
   [],
  .setX 2 (.nextw 0),
  .isKey "MEMBERS" (.var 2),
  .retXE (.binR .add (.tup [.var 2]) (.call 18 [true,false,false] [.bor 0,(.cdat "MEMBERS" (.bor 2)),(.bin .sub (.bor 1) (ci 1))]))]⟩
noncomputable def cW:MD:=⟨"paper_read",["text"],["text","words","paper"],
  [.mkW 1 (.var 0),
  .setX 2 (.call 19 [true,false] [.bor 1,(.glob "MOST_DEEP" (.int 30))]),
  .nomore 1,
  .ret (.var 2)]⟩
noncomputable def gW:MD:=⟨"_law_cell",["script","k"],["script","k"],
  [.ite (.cmp .lt (.bor 1) (.blt .len [.bor 0]))
   [.ret (.idx (.bor 0) (.bor 1))]
   [],
  .ret (ci 0)]⟩
noncomputable def fV:MD:=⟨"_law_mixed",["cell","by"],["cell","by"],
  [.ret (.bin .mod (.bin .mul (.bin .mod (.bor 0) (ci 2305843009213693951)) (.bor 1)) (ci 2305843009213693951))]⟩
noncomputable def bL:List MS:=[.set 1 (.bin .add (.bin .add (.bor 1) (.lst [(.blt .strOf [(.blt .len [.bor 2])])])) (.comp .seq [.bor 2] [] (.cst (.bl true)) (.blt .strOf [.bor 0])))]
noncomputable def ff:MD:=⟨"_law_rest_words",["rest"],["rest","words","strip"],
  [.set 1 (.lst [(.blt .strOf [(.blt .len [.bor 0])])]),
  .for1 2 .seq [.bor 0] bL,
  .ret (.var 1)]⟩
noncomputable def cc:MD:=⟨"_law_reply_word",["reply"],["reply"],
  [.ite (.cmp .isN (.bor 0) (.cst .non))
   [.ret (.cst (.str "-"))]
   [],
  .ret (.blt .strOf [.bor 0])]⟩
noncomputable def eO:List MS:=[.ite (.cmp .eq (.bor 1) (cs "pairs"))
   [.setOwn 2 (.bin .add (.bor 2) (.lst [(.blt .strOf [(ix 3 0)]),(.blt .strOf [(ix 3 1)])]))]
   [.ite (.cmp .eq (.bor 1) (cs "cases"))
    [.setOwn 2 (.bin .add (.bin .add (.bor 2) (.lst [(.blt .strOf [(ix 3 0)]),(.call 24 [(ix 3 1)])])) (.call 25 [(ix 3 2)]))]
    [.setOwn 2 (.bin .add (.bin .add (.bor 2) (.call 23 [(ix 3 0)])) (.call 25 [(ix 3 1)]))]]]
noncomputable def ax:MD:=⟨"_law_words",["paper"],["paper","word","words","row"],
  [.set 1 (ix 0 0),
  .setOwn 2 (.lst [.var 1]),
  .ite (.or (.cmp .eq (.bor 1) (cs "pairs")) (.or (.cmp .eq (.bor 1) (cs "cases")) (.cmp .eq (.bor 1) (cs "parts"))))
   [.append 2 (.blt .strOf [(.blt .len [(ix 0 1)])]),
   .for1 3 .seq [(ix 0 1)] eO]
   [],
  .ite (.or (.cmp .eq (.bor 1) (cs "bite")) (.cmp .eq (.bor 1) (cs "knot")))
   [.setOwn 2 (.bin .add (.bin .add (.bor 2) (.lst [(.call 24 [(ix 0 1)])])) (.call 25 [(ix 0 2)]))]
   [],
  .ite (.or (.cmp .eq (.bor 1) (cs "fewer")) (.cmp .eq (.bor 1) (cs "either")))
   [.setOwn 2 (.bin .add (.bin .add (.bor 2) (.call 23 [(ix 0 1)])) (.call 25 [(ix 0 2)]))]
   [],
  .ite (.cmp .eq (.bor 1) (cs "either"))
   [.setOwn 2 (.bin .add (.bin .add (.bor 2) (.call 23 [(ix 0 3)])) (.call 25 [(ix 0 4)]))]
   [],
  .retOwn 2]⟩
noncomputable def eP:MD:=⟨"_law_wrapped",["paper","pick"],["paper","pick","hole","rest","way"],
  [.set 2 (.bin .mod (.bin .fdiv (.bor 1) (ci 8)) (ci 60)),
  .set 3 (.tup [(.tup [.var 2])]),
  .set 4 (.bin .mod (.bor 1) (ci 8)),
  .ite (.cmp .eq (.bor 4) (ci 0))
   [.ret (.tup [(cs "bite"),.var 2,.var 0])]
   [],
  .ite (.cmp .eq (.bor 4) (ci 1))
   [.ret (.tup [(cs "knot"),.cst .non,.var 0])]
   [],
  .ite (.cmp .eq (.bor 4) (ci 2))
   [.ret (.tup [(cs "cases"),(.tup [(.tup [.var 2,(.bin .mod (.bin .fdiv (.bor 1) (ci 480)) (ci 60)),.var 0])])])]
   [],
  .ite (.cmp .eq (.bor 4) (ci 3))
   [.ret (.tup [(cs "parts"),(.tup [(.tup [.var 3,.var 0])])])]
   [],
  .ite (.cmp .eq (.bor 4) (ci 4))
   [.ret (.tup [(cs "fewer"),.var 3,.var 0])]
   [],
  .ite (.cmp .eq (.bor 4) (ci 5))
   [.ret (.tup [(cs "either"),.var 3,.var 0,(.tup []),(.tup [(cs "weight")])])]
   [],
  .ite (.cmp .eq (.bor 4) (ci 6))
   [.ret (.tup [(cs "either"),(.tup []),(.tup [(cs "whole")]),.var 3,.var 0])]
   [],
  .ret (.tup [(cs "parts"),(.tup [(.tup [(.tup []),(.tup [(cs "bare")])]),(.tup [.var 3,.var 0])])])]⟩
noncomputable def m_:List MS:=[.set 3 (.call 26 [.bor 3,(.call 22 [(.bin .add (.call 21 [.bor 0,(.bin .add (ci 1) (.bor 4))]) (.bin .mul (.bor 4) (.bor 4))),(ci 2049848353892358983)])])]
noncomputable def oK:MD:=⟨"law",["script"],["script","by","deep","paper","k","written","found","refused"],
  [.set 1 (.call 22 [(.call 21 [.bor 0,(ci 0)]),(ci 1442695040888963407)]),
  .set 2 (.bin .add (ci 26) (.bin .mod (.bor 1) (ci 9))),
  .set 3 (.idx (.lst [(.tup [(cs "bare")]),(.tup [(cs "whole")]),(.tup [(cs "weight")])]) (.bin .mod (.bin .fdiv (.bor 1) (ci 9)) (ci 3))),
  .for1 4 .rng [(.bin .sub (.bor 2) (ci 1))] m_,
  .set 5 (.join " " (.call 25 [.bor 3])),
  .set 6 (.cst .non),
  .set 7 (.cst (.bl false)),
  .tryC (some 6) 20 [.bor 5] [⟨"NoPaper",none,7,(.one (.cst (.bl true)))⟩],
  .ite (.cmp .gt (.bor 2) (ci 30))
   [.ret (.var 7)]
   [],
  .ite (.or (.bor 7) (.cmp .ne (.bor 6) (.bor 3)))
   [.ret (.cst (.bl false))]
   [],
  .ret (.cmp .eq (.call 10 [.bor 3]) (.bor 5))]⟩
noncomputable def defs:List MD:=[eN,cU,fw,iA,fT,mf,gx,a_,fE,gz,fF,dY,fU,iB,fz,iC,jn,bh,dZ,du,cW,gW,fV,ff,cc,ax,eP,oK]
noncomputable def tab:Tab:=⟨defs.map (·.name),[("FIGURES",(.str "0123456789")),("HOLE_COUNT",(.int 60)),("MOST_STRIPS",(.int 60)),("MOST_COUNT",(.int 60)),("MOST_DEEP",(.int 30))],[[],[],[],[],[],[],[],[],[],[],[],[],[],[],[],[],[],[],[],[],[],[],[],[],[],[],[],[]],["LoomError","NoRest","NoPaper"]⟩
noncomputable def kU(c b:Int):Int:=c % 2305843009213693951*b % 2305843009213693951
def iD(c b):0<=kU c b:=Ha _ (by decide)
def rq(n:Nat)(c b:Int):aa defs (n+1) 22 [.val (.int c),.val (.int b)]=some (.int (kU c b)):=by
 rw[aD (d:=fV) rfl rfl];have h1:0<=c % 2305843009213693951:=Ha _ (by decide);have h2:c % 2305843009213693951<2305843009213693951:=G6 _ (by decide);have z:(-18446744073709551616<c % 2305843009213693951/\c % 2305843009213693951<18446744073709551616\/-18446744073709551616<b/\b<18446744073709551616):=.inl ⟨by omega,by omega⟩;simp[fV,exs,ex,ev,evs,z,kU]
def jL(h:(evs cal src ρ).bind (ba k)=some xs):ex cal (.for1 i k src body) ρ=(bH (λx E=>exs cal body (put E i (.val x))) xs (bF src ρ)).back src ρ:=by
 rw[ex,h]
def bf(cal)(m)(ms)(ρ):exs cal (m::ms) ρ=(ex cal m ρ).andThen λE=>exs cal ms E:=rfl
def bY(h:ev cal e ρ=some v):ev cal (.blt b [e]) ρ=ay b [v]:=by
 rw[ev,evs,h,bind_some,evs,map_some,bind_some]
def v4(h:ev cal e ρ=some v):ex cal (.set i e) ρ=.next (put ρ i (.val v)):=by
 rw[ex,h];rfl
def v5(h:ev cal e ρ=some v):ex cal (.ret e) ρ=.ret v:=by
 rw[ex,h];rfl
def bM(h:evA cal es ρ=some vs)(h':cal f vs=some v):ev cal (.call f es) ρ=some v:=by
 rw[ev,h,bind_some,h']
def mh(h:ev cal e ρ=some (.lst xs)):ex cal (.setOwn i e) ρ=.next (put ρ i (.own xs)):=by
 rw[ex,h];rfl
def iE{α:Type}{xs:List α}{g h:α->PV}(h1:evs cal src ρ=some vs)(h2:ba k vs=some (xs.map g))(z:xs.length<=10000)
  (D:∀x∈xs,ev cal elt (gL js ρ (g x))=some (h x)):ev cal (.comp k src js (.cst (.bl true)) elt) ρ=some (.lst (xs.map h)):=by
 rw[ev,h1,bind_some,h2,bind_some,if_pos (by simpa using z),kS (h:=h) (λx _=>by simp[ev]) D]
 rfl
def nc(h:ev cal a ρ=some x)(h':ev cal b ρ=some y):ev cal (.cmp op a b) ρ=(cf op x y).map .bl:=by
 rw[ev,h,bind_some,h',bind_some]
def qt(h:ev cal a ρ=some (.bl b)):evB cal a ρ=some b:=by simp_all [evB]
def yy(z:∀i,e≠.bor i)(h:ev cal e ρ=some v):evA cal [e] ρ=some [.val v]:=by simp_all [evA]
def bg(z:∀i,e≠.bor i)(h:ev cal e ρ=some v)(h':cal f [.val v]=some r):ev cal (.call f [e]) ρ=some r:=bM (yy z h) h'
def qu(h:body x ρ=.next z):bH body (x::xs) ρ=bH body xs z:=by rw[bH,h]
def fW(h:ev cal e ρ=some v)(k:bu (exs cal ms (put ρ i (.val v)))=X):bu (exs cal (.set i e::ms) ρ)=X:=by simp_all [bf,v4]
def fX(h:ex cal m ρ=.next E)(k:bu (exs cal ms E)=X):bu (exs cal (m::ms) ρ)=X:=by simp_all [bf]
def gA(h:ev cal e ρ=some v):bu (exs cal (.ret e::ms) ρ)=some v:=by
 rw[bf,v5 h];rfl
def BT(h:ex cal m ρ=.next E)(k:exs cal ms E=r):exs cal (m::ms) ρ=r:=by simp_all [bf]
def fg(h:ex cal m ρ=.next E):exs cal [m] ρ=.next E:=by
 rw[bf,h,gm,exs]
def db(h:ev cal c ρ=some (.bl p)):ex cal (.ite c a b) ρ=if p=true then exs cal a ρ else exs cal b ρ:=by
 rw[ex,qt h,qr]
def fA(a b):((PySem.Str.ofString a)==(PySem.Str.ofString b))=(a==b):=by
 rw[G8,FW,FW];refine⟨λh=>?_,λh=>by rw[h]⟩;rw[PySem.Str.ofString_eq_byList]at h;unfold PySem.Str.ofStringByList at h;have h1:(a.toList.map Char.toNat).toArray=(b.toList.map Char.toNat).toArray:=by injection h
 have h2:a.toList.map Char.toNat=b.toList.map Char.toNat:=by simpa using h1
 have key:∀xs ys:List Char,xs.map Char.toNat=ys.map Char.toNat->xs=ys:=by
  intro xs
  induction xs with
  |nil=>intro ys h;cases ys with|nil=>rfl|cons=>simp at h
  |cons x xs ih=>intro ys h;cases ys with
   |nil=>simp at h
   |cons y ys =>
    simp only[F0,Iz]at h;rw[ih ys h.2,Char.toNat_inj.mp h.1]
 exact String.toList_inj.mp (key _ _ h2)
noncomputable def lw(ws:List Str):PV:=.lst (ws.map .str)
noncomputable def wS(s:List Int):List Str:=aF s.length::s.map aF
noncomputable def wR(R:LL):List Str:=aF R.length::(R.map wS).flatten
noncomputable def wP:Option Int->Str
 |none=>"-"
 |some i=>aF i
noncomputable def vP:Option Int->PV
 |none=>.non
 |some i=>.int i
def Sm(i:Int):Prop:=0<=i/\i<60
def rA{i:Int}(h:i.natAbs<2 ^ 64):ay .strOf [.int i]=some (.str (aF i)):=if_pos h
def jM(n:Nat)(h:n<=10000):ay .strOf [.int (n:Int)]=some (.str (aF n)):=rA (by omega)
def kW{i:Int}(h:Sm i):ay .strOf [.int i]=some (.str (aF i)):=rA (by unfold Sm at h;omega)
theorem oM(cal:Cal)(a:MV):∀(R:List (List Str)) (acc:List Str) (s:Option MV),acc.length+R.flatten.length<=10000 ->
  ∃s',bH (λx E=>exs cal cV (put E 2 (.val x))) (R.map lw) [some a,some (.own (acc.map .str)),s]=.next [some a,some (.own ((acc++R.flatten).map .str)),s']
 | [],acc,s,_=>⟨s,by simp⟩
 |t::R,acc,s,h=>by
  rw[F0,bH];rw[flatten_cons,FZ]at h;have h2:acc.length+t.length<=10000:=by omega
  have e:exs cal cV (put [some a,some (.own (acc.map .str)),s] 2 (.val (lw t)))=.next [some a,some (.own ((acc++t).map .str)),sv (lw t)]:=by
   simp[cV,exs,ex,ev,lw,h2]
  rw[e];obtain⟨s',z⟩:=oM cal a R (acc++t) (sv (lw t)) (by rw[FZ];omega);exact⟨s',by rw[flatten_cons,<- Gz];exact z⟩
def zt(n:Nat)(R:List (List Str))(z:R.flatten.length<=10000):aa defs (n+1) 2 [.val (.lst (R.map lw))]=some (lw R.flatten):=by
 rw[aD (d:=fw) rfl rfl];obtain⟨s',e⟩:=oM (aa defs n) (.val (.lst (R.map lw))) R [] none (by simpa using z);simp only[map_nil,nil_append]at e;simp[fw,exs,ex,ev,evs,bF,e,bP,lw,-map_flatten]
def i_(n:Nat)(R:List (List Str))(z:R.flatten.length<10000)(D:R.length<=10000):aa defs (n+2) 5 [.val (.lst (R.map lw))]=some (lw (aF R.length::R.flatten)):=by
 rw[aD (d:=mf) rfl rfl];have G:=zt n R (Hu z);have J:=jM R.length D;have U:1+R.flatten.length<=10000:=by omega
 have Y:ev (aa defs (n+1)) (.call 2 [.bor 0]) [sv (.lst (R.map lw))]=some (lw R.flatten):=bM (vs:=[.val (.lst (R.map lw))]) rfl G;have Z:ev (aa defs (n+1)) (.blt .strOf [.blt .len [.bor 0]]) [sv (.lst (R.map lw))]=some (.str (aF R.length)):=by
  rw[bY (v:=.int R.length) (by rw[bY (v:=.lst (R.map lw)) rfl];simp),J]
 refine gA (ρ:=[sv (.lst (R.map lw))]) ?_;rw[ev,Y,ev,evs,Z];simp[evs,lw,U,-map_flatten,-length_flatten]
def oN(s:List Int):(s.map λi=>[aF i]).flatten=s.map aF:=by
 induction s with
 |nil=>rfl
 |cons x s ih=>rw[F0,flatten_cons,ih];rfl
def yz(n:Nat)(s:List Int)(hs:∀i∈s,Sm i)(G:s.length<10000):aa defs (n+3) 6 [.val (ofS s)]=some (lw (wS s)):=by
 rw[aD (d:=gx) rfl rfl];have J:ev (aa defs (n+2)) (.comp .seq [.bor 0] [] (.cst (.bl true)) (.lst [(.blt .strOf [.bor 0])])) [sv (ofS s)]=some (.lst (s.map λi=>lw [aF i])):=by
  refine iE (vs:=[ofS s]) (xs:=s) (g:=PV.int) rfl rfl (by omega) λi hi=>?_
  rw[ev,evs,bY (v:=.int i) rfl,kW (hs i hi)];simp[evs,lw]
 have D:=i_ n (s.map λi=>[aF i]) (by rw[oN,FY];exact G) (by rw[FY];omega);rw[oN,FY,GY]at D;exact gA (bg (λi z=>by cases z) J D)
structure ROk(R:LL):Prop where
 l:R.length<=4
 s:∀t∈R,t.length<=4
 m:∀t∈R,∀i∈t,Sm i
 g:R=[]\/∃i,(0<=i/\i<60)/\R=[[i]]
def b7{R:LL}(h:ROk R):(wR R).length<=21:=by
 have:∀(R:LL),(∀t∈R,t.length<=4)->(R.map wS).flatten.length<=5*R.length:=by
  intro R
  induction R with
  |nil=>intro _;simp
  |cons t R ih =>
   intro h;have h1:=h t (.head _);have h2:=ih λu z=>h u (.tail _ z)
   rw[F0,flatten_cons,FZ,length_cons];have:(wS t).length=t.length+1:=by simp[wS]
   omega
 have h1:=this R h.s;have h2:=h.l;show(R.map wS).flatten.length+1<=21;omega
def kX (n:Nat) (r:Option Int) (D:∀i,r=some i->Sm i) (k:Str) (z:k="hole" \/ k="reply"):aa defs (n+1) 7 [.val (vP r),.val (.str k)]=some (lw [wP r]):=by
 rw[aD (d:=a_) rfl rfl];cases r with
 |none =>
  rcases z with rfl|rfl<;>simp[a_,exs,ex,ev,evs,evB,fA,vP,wP,lw,gu]
 |some i =>
  have e:=kW (D i rfl);rcases z with rfl|rfl<;>simp[a_,exs,ex,ev,evs,evB,fA,vP,wP,lw,gu,e]
def dE (n:Nat) (v w:PV) (h:aa defs n 9 [.val v]=some w):aa defs (n+1) 7 [.val v,.val (.str "paper")]=some w:=by
 rw[aD (d:=a_) rfl rfl];simp[a_,exs,ex,ev,evs,evA,evB,fA,h]
def eQ{cal:Cal}{c:ME}{a ms:List MS}{ρ:Rho}{X:Option PV}(h:ev cal c ρ=some (.bl false))(k:bu (exs cal ms ρ)=X):bu (exs cal (.ite c a []::ms) ρ)=X:=by
 rw[bf,db h,if_neg (by decide),exs,gm,k]
def rB{cal:Cal}{c e:ME}{b ms:List MS}{ρ:Rho}{v:PV}(h:ev cal c ρ=some (.bl true))(k:ev cal e ρ=some v):bu (exs cal (.ite c [.ret e] b::ms) ρ)=some v:=by
 rw[bf,db h,if_pos rfl,bf,v5 k]
 rfl
def iF (n:Nat) (R:LL) (h:ROk R):aa defs (n+4) 7 [.val (ofR R),.val (.str "rest")]=some (lw (wR R)):=by
 rw[aD (d:=a_) rfl rfl];have Y:=b7 h;have J:=h.l;have U:ev (aa defs (n+3)) (.comp .seq [.bor 0] [] (.cst (.bl true)) (.call 6 [.bor 0])) [sv (ofR R),sv (.str "rest")]=some (.lst (R.map λt=>lw (wS t))):=by
  refine iE (vs:=[ofR R]) (xs:=R) (g:=ofS) rfl rfl (by omega) λt D=>?_
  exact bM (vs:=[.val (ofS t)]) rfl (yz n t (h.m t D) (by have:=h.s t D;omega))
 have G:=i_ (n+1) (R.map wS) (by have:(wR R).length=(R.map wS).flatten.length+1:=rfl;omega) (by rw[FY];omega);rw[FY,GY]at G;exact eQ (ρ:=[sv (ofR R),sv (.str "rest")]) (by simp[ev,fA]) (rB (by simp[ev,fA]) (bg (f:=5) (λi z=>by cases z) U G))
theorem oO{α:Type}(f g:α->PV):∀(z:List α),jv (z.map f) (z.map g)=z.map λr=>.tup [f r,g r]
 | []=>rfl
 |r::z=>by rw[F0,F0,jv,oO f g z,F0]
def Ej{α:Type}(n:Nat)(f g:α->PV)(w:α->List Str)(D:List α)(J:D.length<=10000)(hw:(D.map w).flatten.length<=10000)(h:∀r∈D,aa defs (n+1) 7 [.val (f r),.val (g r)]=some (lw (w r))) :
  aa defs (n+2) 8 [.val (.tup (D.map f)),.val (.tup (D.map g))]=some (lw (D.map w).flatten):=by
 rw[aD (d:=fE) rfl rfl];have U:ev (aa defs (n+1)) (.comp2 [.bor 0,.bor 1] [] (.cst (.bl true)) (.call 7 [.bor 0,.bor 1])) [sv (.tup (D.map f)),sv (.tup (D.map g))]=some (.lst (D.map λr=>lw (w r))):=by
  have s1:ba sk2 [.tup (D.map f),.tup (D.map g)]=some (D.map λr=>.tup [f r,g r]):=by
   show(if _ then _ else _)=_;rw[if_pos (by rw[FY,FY]),oO]
  rw[ev,show evs (aa defs (n+1)) [.bor 0,.bor 1] [sv (.tup (D.map f)),sv (.tup (D.map g))]=some [.tup (D.map f),.tup (D.map g)]from rfl,bind_some,s1,bind_some,if_pos (by rw[FY];exact J),
   kS (h:=λr=>lw (w r)) (λx _=>by simp[ev]) λr Y=>bM (vs:=[.val (f r),.val (g r)]) (by simp[evA,nZ]) (h r Y)]
  rfl
 have G:=zt n (D.map w) hw;rw[GY]at G;exact gA (ρ:=[sv (.tup (D.map f)),sv (.tup (D.map g))]) (bg (λi z=>by cases z) U G)
def oP{α:Type}(n:Nat)(f:α->PV)(w:α->List Str)(D:List α)(ks:List PV)(J:D.length<=10000)(hw:(D.map w).flatten.length<10000)(h:∀r∈D,aa defs (n+2) 8 [.val (f r),.val (.tup ks)]=some (lw (w r))) :
  aa defs (n+3) 7 [.val (.tup (D.map f)),.val (.tup ks)]=some (lw (aF D.length::(D.map w).flatten)):=by
 rw[aD (d:=a_) rfl rfl];have Y:ev (aa defs (n+2)) (.comp .seq [.bor 0] [1] (.cst (.bl true)) (.call 8 [.bor 0,.bor 1])) [sv (.tup (D.map f)),sv (.tup ks)]=some (.lst (D.map λr=>lw (w r))):=by
  refine iE (vs:=[.tup (D.map f)]) (xs:=D) (g:=f) rfl rfl J λr Z=>?_
  exact bM (vs:=[.val (f r),.val (.tup ks)]) rfl (h r Z)
 have U:=i_ n (D.map w) hw (by rw[FY];exact J);rw[FY,GY]at U;have G:∀k:Str,ev (aa defs (n+2)) (.cmp .eq (.bor 1) (.cst (.str k))) [sv (.tup (D.map f)),sv (.tup ks)]=some (.bl false):=λk=>by
  simp[ev,eqF]
 refine eQ (ρ:=[sv (.tup (D.map f)),sv (.tup ks)]) (by rw[ev,G,G];simp) (eQ (G _) (eQ (G _) (gA (bg (λi z=>by cases z) Y U))))
def sX (n:Nat) (k:Str) (vs ks:List PV) (ws:List Str) (D:eJ "MEMBERS" (.str k)=some (.tup ks)) (Y:vs.length<=9999) (hw:ws.length<10000) (h:aa defs n 8 [.val (.tup vs),.val (.tup ks)]=some (lw ws)):aa defs (n+1) 9 [.val (.tup (.str k::vs))]=some (lw (k::ws)):=by
 rw[aD (d:=gz) rfl rfl];have z:ev (aa defs n) (ix 0 0) [sv (.tup (.str k::vs))]=some (.str k):=by simp[ev,place]
 have G:ev (aa defs n) (.slice (.bor 0) (ci 1) (.cst .non)) [sv (.tup (.str k::vs))]=some (.tup vs):=by
  simp[ev,bnd,hZ,cut,hW]
 have J:ev (aa defs n) (.cdat "MEMBERS" (ix 0 0)) [sv (.tup (.str k::vs))]=some (.tup ks):=by rw[ev,z,bind_some,D]
 have U:ev (aa defs n) (.call 8 [(.slice (.bor 0) (ci 1) (.cst .non)),(.cdat "MEMBERS" (ix 0 0))]) [sv (.tup (.str k::vs))]=some (lw ws):=bM (vs:=[.val (.tup vs),.val (.tup ks)]) (by simp[evA,G,J]) h;refine gA (ρ:=[sv (.tup (.str k::vs))]) ?_;rw[ev,U,ev,evs,z];have:1+ws.length<=10000:=by omega
 simp[evs,lw,this]
inductive Pap:Nat->PV->List Str->Prop where
 | leaf {d:Nat} (k:Str) (hk:k="bare" \/ k="whole" \/ k="weight"):Pap d (.tup [.str k]) [k]
 | one {d:Nat}{v:PV}{ws:List Str} (k:Str) (hk:k="bite" \/ k="knot") (r:Option Int) (hr:∀i,r=some i->Sm i) (h:Pap d v ws):Pap (d+1) (.tup [.str k,vP r,v]) (k::wP r::ws)
 | cases {d:Nat} (rows:List (Int×Option Int×PV×List Str)) (hl:rows.length<=3) (h1:∀r∈rows,Sm r.1) (h2:∀r∈rows,∀i,r.2.1=some i->Sm i) (h3:∀r∈rows,Pap d r.2.2.1 r.2.2.2):Pap (d+1) (.tup [.str "cases",.tup (rows.map λr=>.tup [.int r.1,vP r.2.1,r.2.2.1])]) ("cases"::aF rows.length::(rows.map λr=>aF r.1::wP r.2.1::r.2.2.2).flatten)
 | parts {d:Nat} (rows:List (LL×PV×List Str)) (hl:rows.length<=3) (h1:∀r∈rows,ROk r.1) (h3:∀r∈rows,Pap d r.2.1 r.2.2):Pap (d+1) (.tup [.str "parts",.tup (rows.map λr=>.tup [ofR r.1,r.2.1])]) ("parts"::aF rows.length::(rows.map λr=>wR r.1++r.2.2).flatten)
 | fewer {d:Nat}{v:PV}{ws:List Str} (R:LL) (hR:ROk R) (h:Pap d v ws):Pap (d+1) (.tup [.str "fewer",ofR R,v]) ("fewer"::(wR R++ws))
 | either {d:Nat}{v v':PV}{ws ws':List Str} (R S:LL) (hR:ROk R) (hS:ROk S) (h:Pap d v ws) (h':Pap d v' ws'):Pap (d+1) (.tup [.str "either",ofR R,v,ofR S,v']) ("either"::(wR R++ws++(wR S++ws')))
noncomputable abbrev Row:=PV×PV×List Str
def jo(n:Nat)(z:List Row)(D:z.length<=10000)(hw:(z.map λr=>r.2.2).flatten.length<=10000)(h:∀r∈z,aa defs (n+1) 7 [.val r.1,.val r.2.1]=some (lw r.2.2)) :
  aa defs (n+2) 8 [.val (.tup (z.map λr=>r.1)),.val (.tup (z.map λr=>r.2.1))]=some (lw (z.map λr=>r.2.2).flatten):=by
 have e:=Ej (α:=Row) n (λr=>r.1) (λr=>r.2.1) (λr=>r.2.2) z D hw h;exact e
def rC:eJ "MEMBERS" (.str "bare")=some (.tup []):=by rfl
def oQ:eJ "MEMBERS" (.str "whole")=some (.tup []):=by rfl
def mi:eJ "MEMBERS" (.str "weight")=some (.tup []):=by rfl
def ng:eJ "MEMBERS" (.str "bite")=some (.tup [.str "reply",.str "paper"]):=by rfl
def nh:eJ "MEMBERS" (.str "knot")=some (.tup [.str "reply",.str "paper"]):=by rfl
def kY:eJ "MEMBERS" (.str "cases")=some (.tup [.tup [.str "hole",.str "reply",.str "paper"]]):=by rfl
def fY:eJ "MEMBERS" (.str "parts")=some (.tup [.tup [.str "rest",.str "paper"]]):=by rfl
def kZ:eJ "MEMBERS" (.str "fewer")=some (.tup [.str "rest",.str "paper"]):=by rfl
def fh:eJ "MEMBERS" (.str "either")=some (.tup [.str "rest",.str "paper",.str "rest",.str "paper"]):=by rfl
def oR{d:Nat}{v:PV}{ws:List Str}(h:Pap d v ws):ws.length<=8060->∀N,5*d+6<=N->aa defs N 9 [.val v]=some (lw ws):=by
 induction h with
 | @leaf d k hk =>
  intro _ N Z;obtain⟨n,rfl⟩:∃n,N=n+3:=⟨N-3,by omega⟩;have e:=jo n [] (by simp) (by simp) (λr D=>by cases D);have hg:eJ "MEMBERS" (.str k)=some (.tup []):=by
   rcases hk with rfl|rfl|rfl
   .exact rC
   .exact oQ
   .exact mi
  exact sX (n+2) k [] [] [] hg (by simp) (by simp) e
 | @one d v ws k hk r D h ih =>
  intro hd N Z;obtain⟨n,rfl⟩:∃n,N=n+3:=⟨N-3,by omega⟩;simp only[length_cons,FZ]at hd;have U:ws.length<=8060:=by omega
  have G:=jo n [(vP r,.str "reply",[wP r]),(v,.str "paper",ws)] (by simp) (by simp only[F0,map_nil,flatten_cons,flatten_nil,Gj,FZ,length_cons,length_nil];omega) λq Y=>by
   simp only[y1,F4,Gi]at Y;rcases Y with rfl|rfl
   .exact kX n r D "reply" (.inr rfl)
   .exact dE n v _ (ih (by omega) n (by omega))
  simp only[F0,map_nil,flatten_cons,flatten_nil,Gj,singleton_append]at G;have hg:eJ "MEMBERS" (.str k)=some (.tup [.str "reply",.str "paper"]):=by
   rcases hk with rfl|rfl
   .exact ng
   .exact nh
  exact sX (n+2) k _ _ _ hg (by simp) (by simp only[length_cons];omega) G
 | @cases d z hl h1 h2 h3 ih =>
  intro hd N Z;obtain⟨n,rfl⟩:∃n,N=n+6:=⟨N-6,by omega⟩;have hf:(z.map λr:Int×Option Int×PV×List Str=>aF r.1::wP r.2.1::r.2.2.2).flatten.length<=8058:=by
   simp only[length_cons]at hd;omega
  have U:∀r∈z,r.2.2.2.length<=8056:=λr D=>by
   have:=(GS (G1 (f:=λr:Int×Option Int×PV×List Str=>aF r.1::wP r.2.1::r.2.2.2) D)).length_le;simp only[length_cons]at this;omega
  have G:=oP (n+1) (λr:Int×Option Int×PV×List Str=>.tup [.int r.1,vP r.2.1,r.2.2.1]) (λr=>aF r.1::wP r.2.1::r.2.2.2) z [.str "hole",.str "reply",.str "paper"] (by omega) (by omega) λp J=>by
   have a4:=U p J;have:=jo (n+1) [(.int p.1,.str "hole",[aF p.1]),(vP p.2.1,.str "reply",[wP p.2.1]),(p.2.2.1,.str "paper",p.2.2.2)] (by simp) (by simp only[F0,map_nil,flatten_cons,flatten_nil,Gj,FZ,length_cons,length_nil];omega) λr D=>by
    simp only[y1,F4,Gi]at D;rcases D with rfl|rfl|rfl
    .exact kX (n+1) (some p.1) (λi e=>by cases e;exact h1 p J) "hole" (.inl rfl)
    .exact kX (n+1) p.2.1 (h2 p J) "reply" (.inr rfl)
    .exact dE (n+1) _ _ (ih p J (by have:=U p J;omega) (n+1) (by omega))
   simpa using this
  have e2:=jo (n+3) [(.tup (z.map λr=>.tup [.int r.1,vP r.2.1,r.2.2.1]),.tup [.str "hole",.str "reply",.str "paper"],aF z.length::(z.map λr=>aF r.1::wP r.2.1::r.2.2.2).flatten)] (by simp) (by simp only[F0,map_nil,flatten_cons,flatten_nil,Gj,length_cons];omega) λr D=>by
   simp only[y1,F4,Gi]at D;subst D;exact G
  simp only[F0,map_nil,flatten_cons,flatten_nil,Gj]at e2;exact sX (n+5) "cases" _ _ _ kY (by simp) (by simp only[length_cons];omega) e2
 | @parts d z hl h1 h3 ih =>
  intro hd N Z;obtain⟨n,rfl⟩:∃n,N=n+6:=⟨N-6,by omega⟩;have hf:(z.map λr:LL×PV×List Str=>wR r.1++r.2.2).flatten.length<=8058:=by
   simp only[length_cons]at hd;omega
  have U:∀r∈z,r.2.2.length<=8058:=λr D=>by
   have:=(GS (G1 (f:=λr:LL×PV×List Str=>wR r.1++r.2.2) D)).length_le;rw[FZ]at this;omega
  have G:=oP (n+1) (λr:LL×PV×List Str=>.tup [ofR r.1,r.2.1]) (λr=>wR r.1++r.2.2) z [.str "rest",.str "paper"] (by omega) (by omega) λp J=>by
   have a4:=U p J;have ap:=b7 (h1 p J);have:=jo (n+1) [(ofR p.1,.str "rest",wR p.1),(p.2.1,.str "paper",p.2.2)] (by simp) (by simp only[F0,map_nil,flatten_cons,flatten_nil,Gj,FZ];omega) λr D=>by
    simp only[y1,F4,Gi]at D;rcases D with rfl|rfl
    .obtain⟨m,rfl⟩:∃m,n=m+2:=⟨n-2,by omega⟩;exact iF m p.1 (h1 p J)
    .exact dE (n+1) _ _ (ih p J (by have:=U p J;omega) (n+1) (by omega))
   simpa using this
  have e2:=jo (n+3) [(.tup (z.map λr=>.tup [ofR r.1,r.2.1]),.tup [.str "rest",.str "paper"],aF z.length::(z.map λr=>wR r.1++r.2.2).flatten)] (by simp) (by simp only[F0,map_nil,flatten_cons,flatten_nil,Gj,length_cons];omega) λr D=>by
   simp only[y1,F4,Gi]at D;subst D;exact G
  simp only[F0,map_nil,flatten_cons,flatten_nil,Gj]at e2;exact sX (n+5) "parts" _ _ _ fY (by simp) (by simp only[length_cons];omega) e2
 | @fewer d v ws R hR h ih =>
  intro hd N Z;obtain⟨n,rfl⟩:∃n,N=n+6:=⟨N-6,by omega⟩;simp only[length_cons,FZ]at hd;have U:ws.length<=8060:=by omega
  have ap:=b7 hR;have G:=jo (n+3) [(ofR R,.str "rest",wR R),(v,.str "paper",ws)] (by simp) (by simp only[F0,map_nil,flatten_cons,flatten_nil,Gj,FZ];omega) λq Y=>by
   simp only[y1,F4,Gi]at Y;rcases Y with rfl|rfl
   .exact iF n R hR
   .exact dE (n+3) v _ (ih (by omega) (n+3) (by omega))
  simp only[F0,map_nil,flatten_cons,flatten_nil,Gj]at G;exact sX (n+5) "fewer" _ _ _ kZ (by simp) (by rw[FZ];omega) G
 | @either d v v' ws a1 R S hR hS h h' ih a5 =>
  intro hd N Z;obtain⟨n,rfl⟩:∃n,N=n+6:=⟨N-6,by omega⟩;simp only[length_cons,FZ]at hd;have U:ws.length<=8060:=by omega
  have b1:a1.length<=8060:=by omega
  have ap:=b7 hR;have b2:=b7 hS;have G:=jo (n+3) [(ofR R,.str "rest",wR R),(v,.str "paper",ws),(ofR S,.str "rest",wR S),(v',.str "paper",a1)] (by simp) (by simp only[F0,map_nil,flatten_cons,flatten_nil,Gj,FZ];omega) λq Y=>by
   simp only[y1,F4,Gi]at Y;rcases Y with rfl|rfl|rfl|rfl
   .exact iF n R hR
   .exact dE (n+3) v _ (ih (by omega) (n+3) (by omega))
   .exact iF n S hS
   .exact dE (n+3) v' _ (a5 (by omega) (n+3) (by omega))
  simp only[F0,map_nil,flatten_cons,flatten_nil,Gj]at G;rw[<- Gz]at G;exact sX (n+5) "either" _ _ _ fh (by simp) (by simp only[FZ];omega) G
theorem k7(cal:Cal)(a:Option MV):∀(R:LL) (acc:List Str) (s:Option MV),(∀t∈R,∀i∈t,Sm i)->acc.length+(R.map wS).flatten.length<=10000 ->
  ∃s',bH (λx E=>exs cal bL (put E 2 (.val x))) (R.map ofS) [a,sv (lw acc),s]=.next [a,sv (lw (acc++(R.map wS).flatten)),s']
 | [],acc,s,_,_=>⟨s,by simp⟩
 |t::R,acc,s,hs,h=>by
  rw[F0,bH];rw[F0,flatten_cons,FZ]at h;have hw:(wS t).length=t.length+1:=by simp[wS]
  have z:ev cal (.comp .seq [.bor 2] [] (.cst (.bl true)) (.blt .strOf [.bor 0])) [a,sv (lw acc),sv (ofS t)]=some (.lst (t.map λi=>.str (aF i))):=by
   refine iE (vs:=[ofS t]) (xs:=t) (g:=PV.int) rfl rfl (by omega) λi hi=>?_
   rw[bY (v:=.int i) rfl,kW (hs t (.head _) i hi)]
  have D:ev cal (.lst [(.blt .strOf [(.blt .len [.bor 2])])]) [a,sv (lw acc),sv (ofS t)]=some (.lst [.str (aF t.length)]):=by
   rw[ev,evs,bY (v:=.int t.length) (by rw[bY (v:=ofS t) rfl];simp[ofS]),jM _ (by omega)];simp[evs]
  have c1:acc.length+1<=10000:=by omega
  have c2:acc.length+1+t.length<=10000:=by omega
  have G:ev cal (.bin .add (.bin .add (.bor 1) (.lst [(.blt .strOf [(.blt .len [.bor 2])])])) (.comp .seq [.bor 2] [] (.cst (.bl true)) (.blt .strOf [.bor 0]))) [a,sv (lw acc),sv (ofS t)]=some (lw (acc++wS t)):=by
   rw[ev,z,ev,D];simp[ev,lw,c1,c2,wS]
  have e:exs cal bL (put [a,sv (lw acc),s] 2 (.val (ofS t)))=.next [a,sv (lw (acc++wS t)),sv (ofS t)]:=by
   simp only[bx,bw,bL];exact fg (v4 G)
  rw[e];obtain⟨s',J⟩:=k7 cal a R (acc++wS t) (sv (ofS t)) (λu U=>hs u (.tail _ U)) (by rw[FZ];omega);exact⟨s',by rw[F0,flatten_cons,<- Gz];exact J⟩
def jN(n:Nat)(R:LL)(h:ROk R):aa defs (n+1) 23 [.val (ofR R)]=some (lw (wR R)):=by
 rw[aD (d:=ff) rfl rfl];have G:=b7 h;have z:=h.l;have hw:(wR R).length=(R.map wS).flatten.length+1:=rfl;obtain⟨s',e⟩:=k7 (aa defs n) (sv (ofR R)) R [aF R.length] none h.m (by simp only[length_singleton];omega);have D:ev (aa defs n) (.lst [(.blt .strOf [(.blt .len [.bor 0])])]) [sv (ofR R),none,none]=some (lw [aF R.length]):=by
  rw[ev,evs,bY (v:=.int R.length) (by rw[bY (v:=ofR R) rfl];simp[ofR]),jM _ (by omega)];simp[evs,lw]
 refine fW (ρ:=[sv (ofR R),none,none]) D (fX (E:=[sv (ofR R),sv (lw (wR R)),s']) ?_ (gA rfl));simp only[bw,bx];rw[jL (xs:=R.map ofS) rfl];rw[show bF [ME.bor 0] [sv (ofR R),sv (lw [aF R.length]),none]=[sv (ofR R),sv (lw [aF R.length]),none]from rfl,e]
 rfl
def oS(n:Nat)(r:Option Int)(z:∀i,r=some i->Sm i):aa defs (n+1) 24 [.val (vP r)]=some (.str (wP r)):=by
 rw[aD (d:=cc) rfl rfl];cases r with
 |none=>simp[cc,exs,ex,ev,evs,evB,vP,wP,gu]
 |some i =>
  have e:=kW (z i rfl);simp[cc,exs,ex,ev,evs,evB,vP,wP,gu,e]
def k8{cal:Cal}{c:ME}{a b ms:List MS}{ρ E:Rho}{X:Option PV}(h:ev cal c ρ=some (.bl true))(g:exs cal a ρ=.next E)(k:bu (exs cal ms E)=X):bu (exs cal (.ite c a b::ms) ρ)=X:=by
 rw[bf,db h,if_pos rfl,g,gm,k]
def cg(cal:Cal)(k z:String)(p:Option MV)(r:Rho):ev cal (.cmp .eq (.bor 1) (.cst (.str z))) (p::sv (.str k)::r)=some (.bl (k==z)):=by
 simp[ev,fA]
def fB{cal:Cal}{a b:ME}{ρ:Rho}{p q:Bool}(h:ev cal a ρ=some (.bl p))(h':ev cal b ρ=some (.bl q)):ev cal (.or a b) ρ=some (.bl (p||q)):=by
 rw[ev,h,bind_some,sW,bind_some,h'];cases p<;>simp
def ja{cal:Cal}{e e':ME}{ρ:Rho}{acc a b:List Str}(z:(ρ[(2:Nat)]?).join=some (.own (acc.map .str)))(h1:ev cal e ρ=some (lw a))(h2:ev cal e' ρ=some (lw b))(D:acc.length+a.length+b.length<=10000):ex cal (.setOwn 2 (.bin .add (.bin .add (.bor 2) e) e')) ρ=.next (put ρ 2 (.own ((acc++a++b).map .str))):=by
 refine mh ?_;have c1:acc.length+a.length<=10000:=by omega
 rw[ev,h2,ev,h1];simp[ev,z,lw,c1,D]
def fZ(cal:Cal)(k:String)(vs:List PV){X:Option PV}(h:bu (exs cal (ax.body.drop 2) [sv (.tup (.str k::vs)),sv (.str k),some (.own [.str k]),none])=X):bu (exs cal ax.body [sv (.tup (.str k::vs)),none,none,none])=X:=by
 refine fW (v:=.str k) (by simp[ev,place]) (fX (E:=[sv (.tup (.str k::vs)),sv (.str k),some (.own [.str k]),none]) ?_ h);simp only[bw,bx];exact mh rfl
def ni (cal:Cal) (k:String) (v:PV) (o s:Option MV) {X:Option PV} (z:(k == "pairs" || (k == "cases" || k == "parts"))=false) (h:bu (exs cal (ax.body.drop 3) [sv v,sv (.str k),o,s])=X):bu (exs cal (ax.body.drop 2) [sv v,sv (.str k),o,s])=X:=
 eQ ((fB (cg ..) (fB (cg ..) (cg ..))).trans (by rw[z])) h
def nj (cal:Cal) (k:String) (v:PV) (o s:Option MV) {X:Option PV} (z:(k == "bite" || k == "knot")=false) (h:bu (exs cal (ax.body.drop 4) [sv v,sv (.str k),o,s])=X):bu (exs cal (ax.body.drop 3) [sv v,sv (.str k),o,s])=X:=
 eQ ((fB (cg ..) (cg ..)).trans (by rw[z])) h
def qv (cal:Cal) (k:String) (v:PV) (o s:Option MV) {X:Option PV} (z:(k == "fewer" || k == "either")=false) (h:bu (exs cal (ax.body.drop 5) [sv v,sv (.str k),o,s])=X):bu (exs cal (ax.body.drop 4) [sv v,sv (.str k),o,s])=X:=
 eQ ((fB (cg ..) (cg ..)).trans (by rw[z])) h
def nk (cal:Cal) (k:String) (v:PV) (acc:List Str) (s:Option MV) (z:(k == "either")=false):bu (exs cal (ax.body.drop 5) [sv v,sv (.str k),some (.own (acc.map .str)),s])=some (lw acc):=by
 refine eQ ((cg ..).trans (by rw[z])) ?_;simp[exs,ex,lw]
def BU(cal:Cal)(p q s:Option MV)(acc:List Str):bu (exs cal (ax.body.drop 6) [p,q,some (.own (acc.map .str)),s])=some (lw acc):=by
 show bu (exs cal [.retOwn 2] _)=_;simp[exs,ex,lw]
def rD {α:Type} (cal:Cal) (k:String) (f:α->PV) (w:α->List Str) (D:List α) (U:(k == "pairs" || (k == "cases" || k == "parts"))=true) (J:D.length<=3) (hw:(D.map w).flatten.length<=9990)
  (h:∀r∈D,∀(acc:List Str) (v:PV),acc.length+(w r).length<=10000->exs cal eO [sv v,sv (.str k),some (.own (acc.map .str)),sv (f r)]=.next [sv v,sv (.str k),some (.own ((acc++w r).map .str)),sv (f r)])
  (h2:(k == "bite" || k == "knot")=false) (Y:(k == "fewer" || k == "either")=false) (Z:(k == "either")=false) (ao:∀r∈D,(w r).length<=(D.map w).flatten.length) :
  bu (exs cal ax.body [sv (.tup [.str k,.tup (D.map f)]),none,none,none])=some (lw (k::aF D.length::(D.map w).flatten)):=by
 have e0:∀o s,ev cal (.blt .strOf [(.blt .len [(ix 0 1)])]) [sv (.tup [.str k,.tup (D.map f)]),sv (.str k),o,s]=some (.str (aF D.length)):=λo s=>by
  rw[bY (v:=.int D.length) (by rw[bY (v:=.tup (D.map f)) rfl];simp),jM _ (by omega)]
 have lp:∀(G:List α) (acc:List Str) (s:Option MV),(∀r∈G,r∈D)->acc.length+(G.map w).flatten.length<=9992 ->
   ∃s',bH (λx E=>exs cal eO (put E 3 (.val x))) (G.map f) [sv (.tup [.str k,.tup (D.map f)]),sv (.str k),some (.own (acc.map .str)),s]=.next [sv (.tup [.str k,.tup (D.map f)]),sv (.str k),some (.own ((acc++(G.map w).flatten).map .str)),s']:=by
  intro G
  induction G with
  |nil=>intro acc s _ _;exact⟨s,by simp⟩
  |cons r G ih =>
   intro acc s hs J;rw[F0,flatten_cons,FZ]at J;rw[F0,bH];have e:=h r (hs r (.head _)) acc (.tup [.str k,.tup (D.map f)]) (by omega);rw[show put [some (MV.val (.tup [.str k,.tup (D.map f)])),sv (.str k),some (.own (acc.map .str)),s] 3 (.val (f r))=[sv (.tup [.str k,.tup (D.map f)]),sv (.str k),some (.own (acc.map .str)),sv (f r)]from rfl,e];obtain⟨s',e2⟩:=ih (acc++w r) (sv (f r)) (λx hx=>hs x (.tail _ hx)) (by rw[FZ];omega);exact⟨s',by rw[F0,flatten_cons,<- Gz];exact e2⟩
 obtain⟨s',e1⟩:=lp D [Str.ofString k,aF D.length] none (λ_ z=>z) (by simp only[length_cons,length_nil];omega);refine fZ cal k _ (k8 ((fB (cg ..) (fB (cg ..) (cg ..))).trans (by rw[U])) (E:=[sv (.tup [.str k,.tup (D.map f)]),sv (.str k),some (.own ((Str.ofString k::aF D.length::(D.map w).flatten).map .str)),s']) ?_ (nj cal k _ _ _ h2 (qv cal k _ _ _ Y (nk cal k _ _ _ Z))));refine BT (E:=[sv (.tup [.str k,.tup (D.map f)]),sv (.str k),some (.own ([Str.ofString k,aF D.length].map .str)),none]) ?_ (fg ?_)
 .rw[ex,e0];simp
 .rw[jL (xs:=D.map f) (by rw[evs,show ev cal (ix 0 1) [sv (.tup [.str k,.tup (D.map f)]),sv (.str k),some (.own ([Str.ofString k,aF D.length].map .str)),none]=some (.tup (D.map f))from rfl];simp[evs,ba])];rw[show bF [ME.idx (.bor 0) (ci 1)] [some (MV.val (.tup [.str k,.tup (D.map f)])),sv (.str k),some (.own ([Str.ofString k,aF D.length].map .str)),none]=[sv (.tup [.str k,.tup (D.map f)]),sv (.str k),some (.own ([Str.ofString k,aF D.length].map .str)),none]from rfl,e1]
  rfl
def yA{d:Nat}{v:PV}{ws:List Str}(h:Pap d v ws):ws.length<=8060->∀N,d+3<=N->aa defs N 25 [.val v]=some (lw ws):=by
 induction h with
 | @leaf d k hk =>
  intro _ N Z;obtain⟨n,rfl⟩:∃n,N=n+1:=⟨N-1,by omega⟩;rw[aD (d:=ax) rfl rfl];have go:∀k:String,(k == "pairs" || (k == "cases" || k == "parts"))=false->(k == "bite" || k == "knot")=false->(k == "fewer" || k == "either")=false->(k == "either")=false->bu (exs (aa defs n) ax.body [sv (.tup [.str k]),none,none,none])=some (lw [Str.ofString k]):=λk a b c e =>
   fZ _ k [] (ni _ k _ _ _ a (nj _ k _ _ _ b (qv _ k _ _ _ c (nk _ k _ [Str.ofString k] _ e))))
  rcases hk with rfl|rfl|rfl
  .exact go "bare" (by decide) (by decide) (by decide) (by decide)
  .exact go "whole" (by decide) (by decide) (by decide) (by decide)
  .exact go "weight" (by decide) (by decide) (by decide) (by decide)
 | @one d v ws k hk r G h ih =>
  intro hd N Z;obtain⟨n,rfl⟩:∃n,N=n+2:=⟨N-2,by omega⟩;rw[aD (d:=ax) rfl rfl];simp only[length_cons,FZ]at hd;have Y:ws.length<=8060:=by omega
  have go:∀k:String,(k == "pairs" || (k == "cases" || k == "parts"))=false->(k == "bite" || k == "knot")=true->(k == "fewer" || k == "either")=false->(k == "either")=false->bu (exs (aa defs (n+1)) ax.body [sv (.tup [.str k,vP r,v]),none,none,none])=some (lw (Str.ofString k::wP r::ws)):=λk a b c e=>by
   refine fZ _ k _ (ni _ k _ _ _ a (k8 ((fB (cg ..) (cg ..)).trans (by rw[b])) (E:=[sv (.tup [.str k,vP r,v]),sv (.str k),some (.own ((Str.ofString k::wP r::ws).map .str)),none]) (fg ?_) (qv _ k _ _ _ c (nk _ k _ _ _ e))));refine ja (acc:=[Str.ofString k]) (a:=[wP r]) (b:=ws) rfl ?_ ?_ (by simp only[length_singleton];omega)
   .rw[ev,evs,bg (v:=vP r) (r:=.str (wP r)) (λi z=>by cases z) rfl (oS n r G)];simp[evs,lw]
   .exact bg (v:=v) (λi z=>by cases z) rfl (ih (by omega) (n+1) (by omega))
  rcases hk with rfl|rfl
  .exact go "bite" (by decide) (by decide) (by decide) (by decide)
  .exact go "knot" (by decide) (by decide) (by decide) (by decide)
 | @cases d D hl h1 h2 h3 ih =>
  intro hd N Z;obtain⟨n,rfl⟩:∃n,N=n+2:=⟨N-2,by omega⟩;rw[aD (d:=ax) rfl rfl];have hf:(D.map λr:Int×Option Int×PV×List Str=>aF r.1::wP r.2.1::r.2.2.2).flatten.length<=8058:=by
   simp only[length_cons]at hd;omega
  have Y:∀r∈D,r.2.2.2.length<=8056:=λr G=>by
   have:=(GS (G1 (f:=λr:Int×Option Int×PV×List Str=>aF r.1::wP r.2.1::r.2.2.2) G)).length_le;simp only[length_cons]at this;omega
  refine rD (aa defs (n+1)) "cases" (λr:Int×Option Int×PV×List Str=>.tup [.int r.1,vP r.2.1,r.2.2.1]) (λr=>aF r.1::wP r.2.1::r.2.2.2) D (by decide) hl (by omega) (λp J acc v ha=>?_) (by decide) (by decide) (by decide) (λr G=>(GS (G1 (f:=λr:Int×Option Int×PV×List Str=>aF r.1::wP r.2.1::r.2.2.2) G)).length_le);have a1:=kW (h1 p J);have e1:ev (aa defs (n+1)) (.lst [(.blt .strOf [(ix 3 0)]),(.call 24 [(ix 3 1)])]) [sv v,sv (.str "cases"),some (.own (acc.map .str)),sv (.tup [.int p.1,vP p.2.1,p.2.2.1])]=some (lw [aF p.1,wP p.2.1]):=by
   rw[ev,evs,bY (v:=.int p.1) rfl,a1,evs,bg (v:=vP p.2.1) (r:=.str (wP p.2.1)) (λi z=>by cases z) rfl (oS n _ (h2 p J))];simp[evs,lw]
  have e2:ev (aa defs (n+1)) (.call 25 [(ix 3 2)]) [sv v,sv (.str "cases"),some (.own (acc.map .str)),sv (.tup [.int p.1,vP p.2.1,p.2.2.1])]=some (lw p.2.2.2):=bg (v:=p.2.2.1) (λi z=>by cases z) rfl (ih p J (by have:=Y p J;omega) (n+1) (by omega));show exs _ [.ite _ _ _] _=_;refine fg ?_;rw[db (p:=false) (by rw[cg];rfl),if_neg (by decide)];refine fg ?_;rw[db (p:=true) (by rw[cg];rfl),if_pos rfl];refine fg ?_;simp only[length_cons]at ha;have q:=ja (acc:=acc) rfl e1 e2 (by simp only[length_cons,length_nil];omega);rw[Gz]at q;exact q
 | @parts d D hl h1 h3 ih =>
  intro hd N Z;obtain⟨n,rfl⟩:∃n,N=n+2:=⟨N-2,by omega⟩;rw[aD (d:=ax) rfl rfl];have hf:(D.map λr:LL×PV×List Str=>wR r.1++r.2.2).flatten.length<=8058:=by
   simp only[length_cons]at hd;omega
  have Y:∀r∈D,r.2.2.length<=8058:=λr G=>by
   have:=(GS (G1 (f:=λr:LL×PV×List Str=>wR r.1++r.2.2) G)).length_le;rw[FZ]at this;omega
  refine rD (aa defs (n+1)) "parts" (λr:LL×PV×List Str=>.tup [ofR r.1,r.2.1]) (λr=>wR r.1++r.2.2) D (by decide) hl (by omega) (λp J acc v ha=>?_) (by decide) (by decide) (by decide) (λr G=>(GS (G1 (f:=λr:LL×PV×List Str=>wR r.1++r.2.2) G)).length_le);have e1:ev (aa defs (n+1)) (.call 23 [(ix 3 0)]) [sv v,sv (.str "parts"),some (.own (acc.map .str)),sv (.tup [ofR p.1,p.2.1])]=some (lw (wR p.1)):=bg (v:=ofR p.1) (λi z=>by cases z) rfl (jN n p.1 (h1 p J));have e2:ev (aa defs (n+1)) (.call 25 [(ix 3 1)]) [sv v,sv (.str "parts"),some (.own (acc.map .str)),sv (.tup [ofR p.1,p.2.1])]=some (lw p.2.2):=bg (v:=p.2.1) (λi z=>by cases z) rfl (ih p J (by have:=Y p J;omega) (n+1) (by omega));show exs _ [.ite _ _ _] _=_;refine fg ?_;rw[db (p:=false) (by rw[cg];rfl),if_neg (by decide)];refine fg ?_;rw[db (p:=false) (by rw[cg];rfl),if_neg (by decide)];refine fg ?_;rw[FZ]at ha;have q:=ja (acc:=acc) rfl e1 e2 (by omega);rw[Gz]at q;exact q
 | @fewer d v ws R hR h ih =>
  intro hd N Z;obtain⟨n,rfl⟩:∃n,N=n+2:=⟨N-2,by omega⟩;rw[aD (d:=ax) rfl rfl];simp only[length_cons,FZ]at hd;have Y:ws.length<=8060:=by omega
  have a6:=b7 hR;refine fZ _ "fewer" _ (ni _ "fewer" _ _ _ (by decide) (nj _ "fewer" _ _ _ (by decide) (k8 ((fB (cg ..) (cg ..)).trans rfl) (E:=[sv (.tup [.str "fewer",ofR R,v]),sv (.str "fewer"),some (.own ((Str.ofString "fewer"::(wR R++ws)).map .str)),none]) (fg ?_) (nk _ "fewer" _ _ _ (by decide)))));refine ja (acc:=[Str.ofString "fewer"]) (a:=wR R) (b:=ws) rfl ?_ ?_ (by simp only[length_singleton];omega)
  .exact bg (v:=ofR R) (λi z=>by cases z) rfl (jN n R hR)
  .exact bg (v:=v) (λi z=>by cases z) rfl (ih (by omega) (n+1) (by omega))
 | @either d v v' ws U R S hR hS h h' ih a7 =>
  intro hd N Z;obtain⟨n,rfl⟩:∃n,N=n+2:=⟨N-2,by omega⟩;rw[aD (d:=ax) rfl rfl];simp only[length_cons,FZ]at hd;have Y:ws.length<=8060:=by omega
  have b2:U.length<=8060:=by omega
  have a6:=b7 hR;have b3:=b7 hS;refine fZ _ "either" _ (ni _ "either" _ _ _ (by decide) (nj _ "either" _ _ _ (by decide) (k8 ((fB (cg ..) (cg ..)).trans rfl) (E:=[sv (.tup [.str "either",ofR R,v,ofR S,v']),sv (.str "either"),some (.own ((Str.ofString "either"::(wR R++ws)).map .str)),none]) (fg ?_) (k8 ((cg ..).trans rfl) (E:=[sv (.tup [.str "either",ofR R,v,ofR S,v']),sv (.str "either"),some (.own ((Str.ofString "either"::(wR R++ws++(wR S++U))).map .str)),none]) (fg ?_) (BU _ _ _ _ _)))))
  .refine ja (acc:=[Str.ofString "either"]) (a:=wR R) (b:=ws) rfl ?_ ?_ (by simp only[length_singleton];omega)
   .exact bg (v:=ofR R) (λi z=>by cases z) rfl (jN n R hR)
   .exact bg (v:=v) (λi z=>by cases z) rfl (ih (by omega) (n+1) (by omega))
  .have q:=ja (cal:=aa defs (n+1)) (ρ:=[sv (.tup [.str "either",ofR R,v,ofR S,v']),sv (.str "either"),some (.own ((Str.ofString "either"::(wR R++ws)).map .str)),none]) (e:=.call 23 [(ix 0 3)]) (e':=.call 25 [(ix 0 4)]) (acc:=Str.ofString "either"::(wR R++ws)) (a:=wR S) (b:=U) rfl
    (bg (v:=ofR S) (λi z=>by cases z) rfl (jN n S hS)) (bg (v:=v') (λi z=>by cases z) rfl (a7 (by omega) (n+1) (by omega))) (by simp only[length_cons,FZ];omega)
   rw[Gz]at q;exact q
abbrev Wk(w:Str):Prop:=w.length<=6/\32∉w.cps.toList
def yB{i:Int}(h:Sm i):Wk (aF i):=by
 have z:=h.1;have h1:=h.2;obtain⟨n,rfl⟩:∃n:Nat,i=n:=⟨i.toNat,by omega⟩;have q:∀n:Fin 60,Wk (aF (n.val:Int)):=by decide
 exact q ⟨n,by omega⟩
def yC{n:Nat}(h:n<=4):Wk (aF (n:Int)):=yB ⟨by omega,by omega⟩
def w_P{r:Option Int}(h:∀i,r=some i->Sm i):Wk (wP r):=by
 cases r with
 |none=>decide
 |some i=>exact yB (h i rfl)
def w_R{R:LL}(h:ROk R):∀w∈wR R,Wk w:=by
 intro w hw;rcases y1.mp hw with rfl|hw
 .exact yC h.l
 .obtain⟨l,D,hw⟩:=mem_flatten.mp hw;obtain⟨t,z,rfl⟩:=mem_map.mp D;rcases y1.mp hw with rfl|hw
  .exact yC (h.s t z)
  .obtain⟨i,hi,rfl⟩:=mem_map.mp hw;exact yB (h.m t z i hi)
def v6{α:Type}{f:α->List Str}{z:List α}(h:∀r∈z,∀w∈f r,Wk w):∀w∈(z.map f).flatten,Wk w:=by
 intro w hw;obtain⟨l,D,hw⟩:=mem_flatten.mp hw;obtain⟨r,G,rfl⟩:=mem_map.mp D;exact h r G w hw
def d3{x:Str}{ws:List Str}(h:Wk x)(k:∀w∈ws,Wk w):∀w∈x::ws,Wk w:=by
 intro w hw;rcases y1.mp hw with rfl|hw
 .exact h
 .exact k w hw
def oU{a b:List Str}(h:∀w∈a,Wk w)(k:∀w∈b,Wk w):∀w∈a++b,Wk w:=λw hw=>(mem_append.mp hw).elim (h w) (k w)
def Ek:∀w∈([]:List Str),Wk w:=λw hw=>by cases hw
def v7{d:Nat}{v:PV}{ws:List Str}(h:Pap d v ws):∀w∈ws,Wk w:=by
 induction h with
 |leaf k D=>exact d3 (by rcases D with rfl|rfl|rfl<;>decide) Ek
 |one k D r U h ih=>exact d3 (by rcases D with rfl|rfl<;>decide) (d3 (w_P U) ih)
 |cases rows Y h1 h2 Z ih=>exact d3 (by decide) (d3 (yC (by omega)) (v6 λp z=>d3 (yB (h1 p z)) (d3 (w_P (h2 p z)) (ih p z))))
 |parts rows Y h1 Z ih=>exact d3 (by decide) (d3 (yC (by omega)) (v6 λp z=>oU (w_R (h1 p z)) (ih p z)))
 |fewer R G h ih=>exact d3 (by decide) (oU (w_R G) ih)
 |either R S G hS h h' ih J=>exact d3 (by decide) (oU (oU (w_R G) ih) (oU (w_R hS) J))
theorem oV:∀ws:List Str,dJ (ws.map .str)=some ws
 | []=>rfl
 |w::ws=>by rw[F0,dJ,oV ws];rfl
theorem BV:∀{ws:List Str},(∀w∈ws,Wk w)->(ws.map λy=>y.length+1).sum<=7*ws.length
 | [],_=>vr _
 |w::ws,h=>by
  have h1:=(h w (.head _)).1;have h2:=BV (ws:=ws) λx hx=>h x (.tail _ hx)
  rw[F0,sum_cons,length_cons];omega
def mj {d:Nat}{v:PV}{ws:List Str} (h:Pap d v ws) (h1:ws.length<=8060):yX " " (lw ws)=some (.str (Builtin.Str.glued " " ws)):=by
 have h2:=BV (v7 h);show(dJ (ws.map .str)).bind _=_;rw[oV,bind_some];exact if_pos (Gg h2 (by omega))
theorem El{c:Nat}:∀{a b p q:List Nat},c∉a->c∉b->a++c::p=b++c::q->a=b/\p=q
 | [],[],_,_,_,_,h=>by cases h;exact⟨rfl,rfl⟩
 | [],y::b,_,_,_,D,h=>by
  rw[nil_append,cons_append]at h;cases h;exact absurd (.head _) D
 |x::a,[],_,_,G,_,h=>by
  rw[nil_append,cons_append]at h;cases h;exact absurd (.head _) G
 |x::a,y::b,p,q,G,D,h=>by
  rw[cons_append,cons_append]at h;obtain⟨e,h'⟩:=List.cons.inj h;obtain⟨J,U⟩:=El (λz=>G (.tail _ z)) (λz=>D (.tail _ z)) h';exact⟨by rw[e,J],U⟩
def rE(c:Nat)(x y:Str)(r:List Str):(Str.join ⟨#[c]⟩ (x::y::r)).cps.toList=x.cps.toList++c::(Str.join ⟨#[c]⟩ (y::r)).cps.toList:=by
 show((x.cps ++ #[c])++(Str.join ⟨#[c]⟩ (y::r)).cps).toList=_;simp
def rF{x y:Str}(h:x.cps.toList=y.cps.toList):x=y:=by
 cases x;cases y
 congr 1
 exact Array.toList_inj.mp h
theorem oW{c:Nat}:∀{us vs:List Str},us≠[]->vs≠[]->(∀u∈us,c∉u.cps.toList)->(∀v∈vs,c∉v.cps.toList)->(Str.join ⟨#[c]⟩ us).cps.toList=(Str.join ⟨#[c]⟩ vs).cps.toList->us=vs
 | [],_,h,_,_,_,_=>absurd rfl h
 | _,[],_,h,_,_,_=>absurd rfl h
 | [x],[y],_,_,_,_,h=>by
  have h:x.cps.toList=y.cps.toList:=h;rw[rF h]
 | [x],y::z::r,_,_,hx,_,h=>by
  rw[rE]at h;have h:x.cps.toList=_:=h;exact absurd (by rw[h];simp) (hx x (.head _))
 |y::z::r,[x],_,_,_,hx,h=>by
  rw[rE]at h;have h:_=x.cps.toList:=h;exact absurd (by rw[<- h];simp) (hx x (.head _))
 |x::J::r,y::U::q,_,_,hx,G,h=>by
  rw[rE,rE]at h;obtain⟨h1,h2⟩:=El (hx x (.head _)) (G y (.head _)) h;have Y:=oW (us:=J::r) (vs:=U::q) (λz=>nomatch z) (λz=>nomatch z) (λu D=>hx u (.tail _ D)) (λu D=>G u (.tail _ D)) h2;rw[rF h1,Y]
def oX {ws:List Str} (D:ws≠[]) (h:∀w∈ws,32∉w.cps.toList):Txt.split (Builtin.Str.glued " " ws) (" ":Str)=ws:=by
 have G:(" ":Str)=⟨#[32]⟩:=by decide
 rw[PySem.StrLaws.glued_eq_join,G];refine oW (c:=32) (λz=>?_) D (PySem.StrLaws.split_free _ 32) h (by rw[PySem.StrLaws.join_split]);have e:=PySem.StrLaws.join_split (Str.join ⟨#[32]⟩ ws) ⟨#[32]⟩;rw[z]at e;rw[<- e]at z;revert z
 decide
def v8(n:Nat)(i b:Int)(h:0<=i/\i<b):aa defs (n+1) 1 [.val (.int i),.val (.int b)]=some (.bl true):=by
 rw[aD (d:=cU) rfl rfl];simp[cU,exs,ex,ev,evs,evB,h.1,h.2]
def v9(n:Nat)(i:Int)(h:0<=i/\i<60):aa defs (n+2) 3 [.val (ofS [i])]=some (ofS [i]):=by
 rw[aD (d:=iA) rfl rfl];have e:exs (aa defs (n+1)) dX [sv (ofS [i]),sv (.int i)]=.next [sv (ofS [i]),sv (.int i)]:=by
  have e:=v8 n i 60 h;simp[dX,exs,ex,ev,evB,evA,e]
 refine fX (ρ:=[sv (ofS [i]),none]) (E:=[sv (ofS [i]),sv (.int i)]) ?_ (gA rfl);rw[jL (xs:=[.int i]) rfl,qu e]
 rfl
def oY(n:Nat){R:LL}(h:R=[]\/∃i,(0<=i/\i<60)/\R=[[i]]):aa defs (n+3) 4 [.val (ofR R)]=some (ofR R):=by
 rw[aD (d:=fT) rfl rfl];rcases h with rfl|⟨i,h,rfl⟩
 .rfl
 .have e:=v9 n i h;simp[fT,exs,ex,ev,evs,evA,evB,gL,cj,e,ko]
noncomputable def shp(x:Str):Bool:=match x.cps.toList with
 | [c]=>decide (48<=c/\c<=57)
 | [c,d]=>decide (49<=c/\c<=57/\48<=d/\d<=57)
 | _=>false
def yD:∀n:Fin 61,shp (aF (n.val:Int))=true:=by decide +kernel
def fig {c:Nat} (h:48<=c/\c<=57):pT (.str ⟨#[c]⟩) (.str "0123456789")=some true:=by
 show some (!(Builtin.Str.occurrences _ _ 0 _ 1).isEmpty)=_;rw[PySem.StrLaws.found_one]
 congr 1
 refine Hl ?_;have:∀k:Fin 10,(48+k.val)∈("0123456789":Str).cps.toList:=by decide
 have:=this ⟨c-48,by omega⟩;rwa[show 48+(c-48)=c by omega]at this
def zu(cal:Cal){x:Str}{zs:List Nat}{m:Int}(ex:x.cps.toList=zs)(D:zs.length=1\/zs.length=2)(hd:∀c∈zs,48<=c/\c<=57)(J:zs.length=2->zs.head?≠some 48)(hi:intText? x=some m):bu (exs cal eN.body [sv (.str x)])=some (.int m):=by
 have hz:x.length=zs.length:=by rw[<- ex,Array.length_toList];rfl
 have G:ev cal (.blt .len [.bor 0]) [sv (.str x)]=some (.int zs.length):=by
  rw[bY (v:=.str x) rfl];show(if x.length<=1000 then _ else _)=_;rw[hz,if_pos (by omega)]
 have U:ba .chr [.str x]=some (zs.map λc=>.str ⟨#[c]⟩):=by
  show(if x.cps.all (· < 128)=true then _ else _)=_;rw[if_pos,ex];rw[<- Array.all_toList,ex,He];exact λc hc=>Hl (by have:=hd c hc;omega)
 have Y:ev cal (.comp .chr [.bor 0] [] (.cst (.bl true)) (.cmp .isIn (.bor 0) (.glob "FIGURES" (.str "0123456789")))) [sv (.str x)]=some (.lst (zs.map λ_=>.bl true)):=by
  refine iE (vs:=[.str x]) (xs:=zs) (g:=λc=>.str ⟨#[c]⟩) rfl U (by omega) λc hc=>?_
  have f:=fig (hd c hc);simp[ev,gL,cf,f]
 have Z:ev cal (.blt .all [(.comp .chr [.bor 0] [] (.cst (.bl true)) (.cmp .isIn (.bor 0) (.glob "FIGURES" (.str "0123456789"))))]) [sv (.str x)]=some (.bl true):=by
  rw[bY Y];rcases zs with _|⟨a,_|⟨b,_|⟨c,zs⟩⟩⟩<;>first|rfl|(simp at D;done)
 have eA:ev cal (.cmp .notIn (.blt .len [.bor 0]) (.tup [(ci 1),(ci 2)])) [sv (.str x)]=some (.bl false):=by
  rw[ev,G];rcases D with D|D<;>rw[D]<;>rfl
 have eD:ev cal (.and (.cmp .eq (.blt .len [.bor 0]) (ci 2)) (.cmp .eq (ix 0 0) (cs "0"))) [sv (.str x)]=some (.bl false):=by
  rcases D with D|D
  .rw[ev,ev,G,D]
   rfl
  .obtain⟨c,r,rfl⟩:∃c r,zs=c::r:=by
    cases zs with
    |nil=>cases D
    |cons c r=>exact⟨c,r,rfl⟩
   have nz:((⟨#[c]⟩:Str)==("0":Str))=false:=by
    rw[GJ];intro z;have e:("0":Str)=⟨#[48]⟩:=by decide
    rw[e]at z;cases z;exact J D rfl
   have eI:ev cal (ix 0 0) [sv (.str x)]=some (.str ⟨#[c]⟩):=by
    rw[ev];show(some (PV.str x)).bind (λa=>(some (PV.int 0)).bind (lX a))=_;show(if x.length<=1000 then _ else _)=_;rw[if_pos (by omega),ex,D]
    rfl
   have e2:=nc (op:=.eq) eI (show ev cal (cs "0") [sv (.str x)]=some (.str "0")from by rw[ev]);have e3:(cf .eq (.str ⟨#[c]⟩) (.str "0")).map PV.bl=some (.bl false):=by
    show(some ((⟨#[c]⟩:Str)==("0":Str))).map PV.bl=_;rw[nz]
    rfl
   rw[ev,e2,e3,ev,G,D]
   rfl
 refine fX (E:=[sv (.str x)]) ?_ (fX (E:=[sv (.str x)]) ?_ (gA ?_))
 .rw[db (p:=false) ?_,if_neg (by decide),exs];rw[ev,eA,ev,Z]
  rfl
 .rw[db (p:=false) eD,if_neg (by decide),exs]
 .rw[bY (v:=.str x) rfl];show(if x.length<=640 then _ else _)=_;rw[hz,if_pos (by omega),hi]
  rfl
def sY(n:Nat){i:Int}(G:0<=i)(h1:i<=60):aa defs (n+1) 0 [.val (.str (aF i))]=some (.int i):=by
 obtain⟨m,rfl⟩:∃m:Nat,i=m:=⟨i.toNat,by omega⟩;rw[aD (d:=eN) rfl rfl];have hs:=yD ⟨m,by omega⟩;have hi:intText? (aF (m:Int))=some (m:Int):=PySem.W.KIN.num_reads G (by omega);dsimp only at hs;unfold shp at hs;split at hs
 .rename_i c e;have h:=Gx hs;exact zu _ e (.inl rfl) (λd hd=>by rw[F6.mp hd];exact h) (λz=>by cases z) hi
 .rename_i c d e;have h:=Gx hs;refine zu _ e (.inr rfl) (λa D=>?_) (λ_ z=>?_) hi
  .simp only[y1,F4,Gi]at D;rcases D with rfl|rfl<;>omega
  .cases z;omega
 .cases hs
def gX(n:Nat){i b:Int}(z:0<=i)(h1:i<=60)(h2:i<b):aa defs (n+2) 11 [.val (.str (aF i)),.val (.int b)]=some (.int i):=by
 rw[aD (d:=dY) rfl rfl];have D:=sY n z h1;have G:=v8 n i b ⟨z,h2⟩;simp[dY,exs,ex,ev,evs,evB,evA,D,G]
def v_(h:ev cal e ρ=some v):exs cal (.retM e::ms) ρ=.retM v ρ:=by
 rw[bf,ex,h];rfl
def eR(h:evX cal x ρ=some (v,E)):exs cal (.retXE x::ms) ρ=.retM v E:=by
 rw[bf,ex,h];rfl
def jy(h:ev cal c ρ=some (.bl false))(k:exs cal ms ρ=r):exs cal (.ite c a []::ms) ρ=r:=by simp_all [db,exs]
def rG(h:ev cal c ρ=some (.bl true))(k:exs cal a ρ=.retM v E):exs cal (.ite c a b::ms) ρ=.retM v E:=by
 rw[bf,db h,if_pos rfl,k];rfl
def qw(h:evX cal x ρ=some (v,E))(k:exs cal ms (put E i (.val v))=r):exs cal (.setX i x::ms) ρ=r:=by
 rw[bf,ex,h];exact k
def RD(cal:Cal)(f:Nat)(es:List MV)(v:PV)(ws:List Str):Prop:=∀(W:List Str) (n:Nat) (r:List Str),W.drop n=ws++r->cal (f+2000) (.mutD (.w W n)::es)=some (.tup [v,.dI (.w W (n+ws.length))])
def fC(n:Nat):aa defs (n+5) 4000 []≠none:=by
 rw[aa,show defs[4000]?=none from rfl];dsimp only;rw[if_pos (by decide),if_pos rfl,if_pos (by omega)];exact λz=>nomatch z
def wa{W:List Str}{n:Nat}{x:Str}{r:List Str}(h:W.drop n=x::r):W[n]?=some x/\W.drop (n+1)=r:=by
 constructor
 .have:=GL (λl=>l[0]?) h;simpa using this
 .rw[<- drop_drop,h];rfl
def b8{W:List Str}{n:Nat}{a b:List Str}(h:W.drop n=a++b):W.drop (n+a.length)=b:=by
 rw[<- drop_drop,h,drop_left]
def wb{cal:Cal}(hc:cal 4000 []≠none){W:List Str}{n:Nat}{x:Str}{r:List Str}(h:W.drop n=x::r){ρ:Rho}:evX cal (.nextw 0) (some (.mutD (.w W n))::ρ)=some (.str x,some (.mutD (.w W (n+1)))::ρ):=by
 show ky cal 0 _=_;unfold ky;show(if cal 4000 []=none then none else(W[n]?).map _)=_;rw[if_neg hc,(wa h).1]
 rfl
def dk{n f:Nat}{d:MD}{es:List MV}{v:PV}{ws:List Str}(D:f<1000)(hd:defs[f]?=some d)(G:es.length+1=d.params.length)(h:∀(W:List Str) (k:Nat) (r:List Str),W.drop k=ws++r->∃ρ,exs (aa defs n) d.body (some (.mutD (.w W k))::(es.map some++replicate (d.names.length-(es.length+1)) none))=.retM v (some (.mutD (.w W (k+ws.length)))::ρ)/\c8 es ρ=some []):RD (aa defs (n+1)) f es v ws:=λW k r hw=>by
 have z:defs.length<=100:=by decide
 rw[l_ (d:=d) (GV (by omega)) hd (by simpa using G) D];obtain⟨ρ,e,J⟩:=h W k r hw;show yr _ (exs _ _ (some (.mutD (.w W k))::(es.map some++replicate (d.names.length-(es.length+1)) none)))=_;rw[e];show(c8 (.mutD (.w W k)::es) _).map _=_;rw[c8,J]
 rfl
def rH(m:Nat){i:Int}(h:Sm i):RD (aa defs (m+6)) 12 [] (.int i) [aF i]:=
 dk (d:=fU) (by decide) rfl rfl λW k r hw=>by
  refine⟨[],eR ?_,rfl⟩;rw[evX,show(map some ([]:List MV)++replicate (fU.names.length-(([]:List MV).length+1)) none)=[]from rfl,wb (fC m) hw];have e:=gX (m+3) (i:=i) (b:=60) h.1 (by have:=h.2;omega) h.2;simp[evA,ev,e]
def iG(m:Nat){k:Nat}(h:k<=60):RD (aa defs (m+6)) 14 [] (.int k) [aF k]:=
 dk (d:=fz) (by decide) rfl rfl λW n r hw=>by
  refine⟨[],eR ?_,rfl⟩;rw[evX,show(map some ([]:List MV)++replicate (fz.names.length-(([]:List MV).length+1)) none)=[]from rfl,wb (fC m) hw];have e:=gX (m+3) (i:=k) (b:=61) (by omega) (by omega) (by omega);simp[evA,ev,e]
def wc(m:Nat){o:Option Int}(h:∀i,o=some i->Sm i):RD (aa defs (m+6)) 13 [] (vP o) [wP o]:=
 dk (d:=iB) (by decide) rfl rfl λW k r hw=>by
  show ∃ρ,exs _ _ [some (.mutD (.w W k)),none]=_/\_;refine⟨[sv (.str (wP o))],qw (wb (fC m) hw) (v_ ?_),rfl⟩;cases o with
  |none=>simp[ev,bw,bx,wP,vP]
  |some i =>
   have hi:=h i rfl;have e:=gX (m+3) (i:=i) (b:=60) hi.1 (by have:=hi.2;omega) hi.2;have ne:((aF i)==("-":Str))=false:=by
    obtain⟨n,rfl⟩:∃n:Nat,i=n:=⟨i.toNat,by have:=hi.1;omega⟩;have q:∀n:Fin 60,((aF (n.val:Int))==("-":Str))=false:=by decide +kernel
    exact q ⟨n,by have:=hi.2;omega⟩
   simp[ev,bw,bx,wP,vP,ne,evA,e]
theorem goA{cal:Cal}{f:Nat}:∀(xs:List PV) (L:List (PV×List Str)),xs.length=L.length->(∀p∈L,RD cal f [] p.1 p.2)->∀(W:List Str) (n:Nat) (s:List Str) (r:Rho),W.drop n=(L.map (·.2)).flatten++s ->
  aJ cal [0] .one (.cst .non) f [true] [.bor 1] xs (some (.mutD (.w W n))::r)=some (L.map (·.1),some (.mutD (.w W (n+(L.map (·.2)).flatten.length)))::r)
 | [],[],_,_,W,n,s,r,_=>by rw[aJ];simp
 | [],_::_,h,_,_,_,_,_,_=>by cases h
 | _::_,[],h,_,_,_,_,_,_=>by cases h
 |x::xs,p::L,z,h,W,n,s,r,hw=>by
  rw[F0,flatten_cons,Gz]at hw;have e:=h p (.head _) W n _ hw;have D:=goA xs L (by simpa using z) (λq G=>h q (.tail _ G)) W (n+p.2.length) s r (b8 hw);rw[aJ];simp[ev,dM,gM,evM,bo,e,h_,lx,eK,b5,D,IE]
theorem goB{cal:Cal}{f:Nat}{k m:PV}:∀(xs:List PV) (L:List (PV×List Str)),xs.length=L.length->(∀p∈L,RD cal f [.val k,.val m] p.1 p.2)->∀(W:List Str) (n:Nat) (s:List Str) (r:Rho),W.drop n=(L.map (·.2)).flatten++s ->
  aJ cal [0,1,2] .one (.cst .non) f [true,false,false] [.bor 1,.bor 2,.bor 3] xs (some (.mutD (.w W n))::sv k::sv m::r)=some (L.map (·.1),some (.mutD (.w W (n+(L.map (·.2)).flatten.length)))::sv k::sv m::r)
 | [],[],_,_,W,n,s,r,_=>by rw[aJ];simp
 | [],_::_,h,_,_,_,_,_,_=>by cases h
 | _::_,[],h,_,_,_,_,_,_=>by cases h
 |x::xs,p::L,z,h,W,n,s,r,hw=>by
  rw[F0,flatten_cons,Gz]at hw;have e:=h p (.head _) W n _ hw;have D:=goB xs L (by simpa using z) (λq G=>h q (.tail _ G)) W (n+p.2.length) s r (b8 hw);rw[aJ];simp[ev,dM,gM,evM,evA,bo,e,h_,lx,eK,b5,D,IE]
theorem goC{cal:Cal}{f:Nat}{m:PV}:∀(L:List (PV×PV×List Str)),(∀p∈L,RD cal f [.val p.1,.val m] p.2.1 p.2.2)->∀(W:List Str) (n:Nat) (s:List Str) (a:Option MV) (r:Rho),W.drop n=(L.map (·.2.2)).flatten++s ->
  aJ cal [0,2] .one (.cst .non) f [true,false,false] [.bor 1,.bor 0,.bor 2] (L.map (·.1)) (some (.mutD (.w W n))::a::sv m::r)=some (L.map (·.2.1),some (.mutD (.w W (n+(L.map (·.2.2)).flatten.length)))::a::sv m::r)
 | [],_,W,n,s,a,r,_=>by rw[map_nil,aJ];simp
 |p::L,h,W,n,s,a,r,hw=>by
  rw[F0,flatten_cons,Gz]at hw;have e:=h p (.head _) W n _ hw;have z:=goC L (λq D=>h q (.tail _ D)) W (n+p.2.2.length) s a r (b8 hw);rw[F0,aJ];simp[ev,dM,gM,evM,evA,bo,e,h_,lx,eK,b5,z,IE]
def zv(k:Nat)(h:k<=60):∃xs:List PV,ba .rng [.int (k:Int)]=some xs/\xs.length=k:=by
 refine⟨_,kT (by omega) (by omega),?_⟩;simp
def xw1{cal:Cal}{f:Nat}{W:List Str}{n n':Nat}{v:PV}{r:Rho}(h:cal (f+2000) [.mutD (.w W n)]=some (.tup [v,.dI (.w W n')])):evX cal (.call f [true] [.bor 0]) (some (.mutD (.w W n))::r)=some (v,some (.mutD (.w W n'))::r):=by
 simp[evX,kv,evM,bo,h,eK,b5]
def qx{cal:Cal}{f g:Nat}{js:List Nat}{z:List Bool}{es:List ME}{W:List Str}{n n':Nat}{k:Nat}{vs:List PV}{r:Rho}(D:k<=60)(h:cal (f+2000) [.mutD (.w W n)]=some (.tup [.int (k:Int),.dI (.w W (n+1))]))(Y:vs.length<=10000)
  (G:∀xs:List PV,xs.length=k->aJ cal js .one (.cst .non) g z es xs (some (.mutD (.w W (n+1)))::r)=some (vs,some (.mutD (.w W n'))::r)):evX cal (.tupOf (.compR (.call f [true] [.bor 0]) js .one (.cst .non) g z es)) (some (.mutD (.w W n))::r)=some (.tup vs,some (.mutD (.w W n'))::r):=by
 obtain⟨xs,J,U⟩:=zv k D;rw[evX,evX,xw1 h,bind_some];dsimp only;rw[J,bind_some,if_pos (by omega),G xs U]
 rfl
theorem fl1:∀t:List Int,((t.map λi=>(PV.int i,[aF i])).map (·.2)).flatten=t.map aF
 | []=>rfl
 |i::t=>by
  have:=fl1 t;simp only[F0,flatten_cons,singleton_append]at this ⊢;rw[this]
def wd(m:Nat){t:List Int}(z:t.length<=60)(h:∀i∈t,Sm i):RD (aa defs (m+7)) 15 [] (ofS t) (wS t):=
 dk (d:=iC) (by decide) rfl rfl λW n r hw=>by
  have hw:W.drop n=[aF t.length]++(t.map aF++r):=hw;refine⟨[],eR ?_,rfl⟩;refine qx (g:=12) (r:=[]) (vs:=t.map .int) z (iG m z W n _ hw) (by rw[FY];omega) λxs hx=>?_
  have key:=goA (f:=12) xs (t.map λi=>(PV.int i,[aF i])) (by rw[FY];exact hx) (λp D=>by
   obtain⟨i,hi,rfl⟩:=mem_map.mp D;exact rH m (h i hi)) W (n+1) r [] (by rw[fl1];exact b8 hw)
  rw[fl1,GY,FY]at key;rw[show n+(wS t).length=n+1+t.length by simp[wS];omega];exact key
def fl2:∀R:LL,((R.map λt=>(ofS t,wS t)).map (·.2)).flatten=(R.map wS).flatten:=λR=>by rw[GY];rfl
def yE(m:Nat){R:LL}(h:ROk R):RD (aa defs (m+8)) 16 [] (ofR R) (wR R):=
 dk (d:=jn) (by decide) rfl rfl λW n r hw=>by
  have J:=h.l;have hw:W.drop n=[aF R.length]++((R.map wS).flatten++r):=hw;show ∃ρ,exs _ _ [some (.mutD (.w W n)),none]=_/\_;refine⟨[sv (ofR R)],qw (qx (n':=n+(wR R).length) (g:=15) (r:=[none]) (vs:=R.map ofS) (k:=R.length) (by omega) (iG (m+1) (by omega) W n _ hw) (by rw[FY];omega) λxs hx=>?_) (jy ?_ (v_ (by simp[ev,bw,bx,ofR]))),rfl⟩
  .have key:=goA (f:=15) xs (R.map λt=>(ofS t,wS t)) (by rw[FY];exact hx) (λp D=>by
    obtain⟨t,z,rfl⟩:=mem_map.mp D;exact wd m (by have:=h.s t z;omega) (h.m t z)) W (n+1) r [none] (by rw[fl2];exact b8 hw)
   rw[fl2,GY]at key;rw[show n+(wR R).length=n+1+(R.map wS).flatten.length by simp only[wR,length_cons];omega];exact key
  .have e:=oY (m+4) h.g;have G:=D1 98 R R;simp only[bw,bx];rw[nc (bM (vs:=[.val (ofR R)]) rfl e) (show ev _ (.bor 1) _=some (ofR R)from by simp[ev,ofR])];show((eqF 100 (ofR R) (ofR R)).map λp=>!p).map PV.bl=_;rw[G];simp
def eH(cal:Cal)(k z:String)(p:Option MV)(r:Rho):ev cal (.cmp .eq (.bor 1) (.cst (.str z))) (p::sv (.str k)::r)=some (.bl (k==z)):=by
 simp[ev,fA]
def jp(cal:Cal)(ks:List PV)(z:String)(p:Option MV)(r:Rho):ev cal (.cmp .eq (.bor 1) (.cst (.str z))) (p::sv (.tup ks)::r)=some (.bl false):=by
 simp[ev,eqF]
def xw2{cal:Cal}{f:Nat}{W:List Str}{n n':Nat}{v w:PV}{e:ME}{r:Rho}(z:evA cal [e] (some (.mutD (.w W n))::r)=some [.val w])(h:cal (f+2000) [.mutD (.w W n),.val w]=some (.tup [v,.dI (.w W n')])):evX cal (.call f [true,false] [.bor 0,e]) (some (.mutD (.w W n))::r)=some (v,some (.mutD (.w W n'))::r):=by
 simp[evX,kv,evM,bo,z,h,eK,b5]
def xw3{cal:Cal}{f:Nat}{W:List Str}{n n':Nat}{v w w':PV}{e e':ME}{r:Rho}(D:evA cal [e] (some (.mutD (.w W n))::r)=some [.val w])(z:evA cal [e'] (some (.mutD (.w W n))::r)=some [.val w'])(h:cal (f+2000) [.mutD (.w W n),.val w,.val w']=some (.tup [v,.dI (.w W n')])):evX cal (.call f [true,false,false] [.bor 0,e,e']) (some (.mutD (.w W n))::r)=some (v,some (.mutD (.w W n'))::r):=by
 simp[evX,kv,evM,bo,D,z,h,eK,b5]
section
variable{n:Nat}{room:PV}{v:PV}{ws:List Str}
def yF (h:RD (aa defs n) 12 [] v ws):RD (aa defs (n+1)) 17 [.val (.str "hole"),.val room] v ws:=
 dk (d:=bh) (by decide) rfl rfl λW k r hw=>⟨[sv (.str "hole"),sv room],rG (eH _ "hole" "hole" _ _) (eR (xw1 (h W k r hw))),rfl⟩
def we (h:RD (aa defs n) 13 [] v ws):RD (aa defs (n+1)) 17 [.val (.str "reply"),.val room] v ws:=
 dk (d:=bh) (by decide) rfl rfl λW k r hw=>⟨[sv (.str "reply"),sv room],jy (eH _ "reply" "hole" _ _) (rG (eH _ "reply" "reply" _ _) (eR (xw1 (h W k r hw)))),rfl⟩
def yG (h:RD (aa defs n) 16 [] v ws):RD (aa defs (n+1)) 17 [.val (.str "rest"),.val room] v ws:=
 dk (d:=bh) (by decide) rfl rfl λW k r hw=>⟨[sv (.str "rest"),sv room],jy (eH _ "rest" "hole" _ _) (jy (eH _ "rest" "reply" _ _) (rG (eH _ "rest" "rest" _ _) (eR (xw1 (h W k r hw))))),rfl⟩
def dj (h:RD (aa defs n) 19 [.val room] v ws):RD (aa defs (n+1)) 17 [.val (.str "paper"),.val room] v ws:=
 dk (d:=bh) (by decide) rfl rfl λW k r hw=>⟨[sv (.str "paper"),sv room],jy (eH _ "paper" "hole" _ _) (jy (eH _ "paper" "reply" _ _) (jy (eH _ "paper" "rest" _ _) (rG (eH _ "paper" "paper" _ _) (eR (xw2 (w:=room) rfl (h W k r hw)))))),rfl⟩
def yH{ks:List PV}{L:List (PV×List Str)}(z:L.length<=60)(D:RD (aa defs n) 14 [] (.int L.length) [aF L.length])(h:∀p∈L,RD (aa defs n) 18 [.val (.tup ks),.val room] p.1 p.2):RD (aa defs (n+1)) 17 [.val (.tup ks),.val room] (.tup (L.map (·.1))) (aF L.length::(L.map (·.2)).flatten):=
 dk (d:=bh) (by decide) rfl rfl λW k r hw=>by
  have hw:W.drop k=[aF L.length]++((L.map (·.2)).flatten++r):=hw;refine⟨[sv (.tup ks),sv room],jy (jp _ ks "hole" _ _) (jy (jp _ ks "reply" _ _) (jy (jp _ ks "rest" _ _) (jy (jp _ ks "paper" _ _) (eR ?_)))),rfl⟩;refine qx (g:=18) (r:=[sv (.tup ks),sv room]) z (D W k _ hw) (by rw[FY];omega) λxs hx=>?_
  have key:=goB (f:=18) xs L hx h W (k+1) r [] (b8 hw);rw[show k+(aF L.length::(L.map (·.2)).flatten).length=k+1+(L.map (·.2)).flatten.length by rw[length_cons];omega];exact key
def iH{L:List (PV×PV×List Str)}(z:L.length<=60)(h:∀p∈L,RD (aa defs n) 17 [.val p.1,.val room] p.2.1 p.2.2):RD (aa defs (n+1)) 18 [.val (.tup (L.map (·.1))),.val room] (.tup (L.map (·.2.1))) (L.map (·.2.2)).flatten:=
 dk (d:=dZ) (by decide) rfl rfl λW k r hw=>by
  refine⟨[sv (.tup (L.map (·.1))),sv room],eR ?_,rfl⟩;have key:=goC (f:=17) L h W k r (sv (.tup (L.map (·.1)))) [] hw;show evX _ (.tupOf (.compS (.var 1) [0,2] .one (.cst .non) 17 [true,false,false] [.bor 1,.bor 0,.bor 2])) [some (.mutD (.w W k)),sv (.tup (L.map (·.1))),sv room]=_;rw[evX,evX,show evs (aa defs n) [.var 1] [some (.mutD (.w W k)),sv (.tup (L.map (·.1))),sv room]=some [.tup (L.map (·.1))]from rfl,bind_some,show ba .seq [.tup (L.map (·.1))]=some (L.map (·.1))from rfl,bind_some,if_pos (by rw[FY];omega),key]
  rfl
def ml {k:Str}{D vs:List PV}{m:Nat} (J:eJ "MEMBERS" (.str k)=some (.tup D)) (Z:vs.length<=60) (h:RD (aa defs (n+5)) 18 [.val (.tup D),.val (.int (m:Int))] (.tup vs) ws):RD (aa defs (n+6)) 19 [.val (.int (m+1:Nat))] (.tup (.str k::vs)) (k::ws):=
 dk (d:=du) (by decide) rfl rfl λW j r hw=>by
  have hw:W.drop j=[k]++(ws++r):=hw;show ∃ρ,exs _ _ [some (.mutD (.w W j)),sv (.int (m+1:Nat)),none]=_/\_;refine⟨[sv (.int (m+1:Nat)),sv (.str k)],jy ?_ (qw (wb (fC n) hw) ?_),rfl⟩
  .have:¬ ((m:Int)+1=0):=by omega
   simp[ev,this]
  .simp only[bw,bx];rw[bf,ex,show(ev (aa defs (n+5)) (.var 2) [some (.mutD (.w W (j+1))),sv (.int (m+1:Nat)),sv (.str k)]).bind (eJ "MEMBERS")=some (.tup D)from by rw[ev];exact J];refine eR ?_;have U:=h W (j+1) r (b8 hw);have Y:=xw3 (f:=18) (e:=.cdat "MEMBERS" (.bor 2)) (e':=.bin .sub (.bor 1) (ci 1)) (r:=[sv (.int (m+1:Nat)),sv (.str k)]) (w:=.tup D) (w':=.int (m:Int)) (by
    have:ev (aa defs (n+5)) (.cdat "MEMBERS" (.bor 2)) [some (.mutD (.w W (j+1))),sv (.int (m+1:Nat)),sv (.str k)]=some (.tup D):=by rw[ev];exact J
    rw[evA]
    .rw[this];rfl
    .intro i z;cases z) (by simp[evA,ev]) U
   rw[evX,Y,ev,evs,show ev (aa defs (n+5)) (.var 2) [some (.mutD (.w W (j+1))),sv (.int (m+1:Nat)),sv (.str k)]=some (.str k)from rfl];have G:ez .add (.tup [.str k]) (.tup vs)=some (.tup (.str k::vs)):=if_pos (by rw[length_singleton];omega);rw[show j+(k::ws).length=j+1+ws.length by rw[length_cons];omega];simp[evs,G]
end
def dv{cal:Cal}{f:Nat}{es:List MV}{v D:PV}{ws z:List Str}(h:RD cal f es v ws)(G:v=D)(hw:ws=z):RD cal f es D z:=by
 subst G hw;exact h
section
variable{N:Nat}{room:PV}
def wf (z:7<=N) {i:Int} (h:Sm i):RD (aa defs N) 17 [.val (.str "hole"),.val room] (.int i) [aF i]:=by
 obtain⟨m,rfl⟩:∃m,N=m+7:=⟨N-7,by omega⟩;exact yF (rH m h)
def jO (z:7<=N) {o:Option Int} (h:∀i,o=some i->Sm i):RD (aa defs N) 17 [.val (.str "reply"),.val room] (vP o) [wP o]:=by
 obtain⟨m,rfl⟩:∃m,N=m+7:=⟨N-7,by omega⟩;exact we (wc m h)
def dc (z:9<=N) {R:LL} (h:ROk R):RD (aa defs N) 17 [.val (.str "rest"),.val room] (ofR R) (wR R):=by
 obtain⟨m,rfl⟩:∃m,N=m+9:=⟨N-9,by omega⟩;exact yG (yE m h)
def wg{n:Nat}(J:6<=n){α:Type}{ks:List PV}{L:List α}{f:α->PV}{w:α->List Str}(z:L.length<=60)(h:∀p∈L,RD (aa defs n) 18 [.val (.tup ks),.val room] (f p) (w p)):RD (aa defs (n+1)) 17 [.val (.tup ks),.val room] (.tup (L.map f)) (aF L.length::(L.map w).flatten):=by
 have e:=yH (n:=n) (room:=room) (ks:=ks) (L:=L.map λp=>(f p,w p)) (by rw[FY];exact z) (by
  obtain⟨m,rfl⟩:∃m,n=m+6:=⟨n-6,by omega⟩;exact iG m (by rw[FY];exact z)) λq D=>by
   obtain⟨p,G,rfl⟩:=mem_map.mp D;exact h p G
 refine dv e ?_ ?_
 .rw[GY];rfl
 .rw[GY,FY];rfl
end
def k9{d:Nat}{v:PV}{ws:List Str}(h:Pap d v ws):∀(N m:Nat),5*d+14<=N->d<=m->RD (aa defs N) 19 [.val (.int (m+1:Nat))] v ws:=by
 induction h with
 | @leaf d k Y =>
  intro N m J U;obtain⟨n,rfl⟩:∃n,N=n+6:=⟨N-6,by omega⟩;have Z:eJ "MEMBERS" (.str k)=some (.tup []):=by
   rcases Y with rfl|rfl|rfl
   .exact rC
   .exact oQ
   .exact mi
  exact ml Z (by decide) (iH (L:=[]) (by decide) λp D=>by cases D)
 | @one d v ws k Y r G h ih =>
  intro N m J U;obtain⟨n,rfl⟩:∃n,N=n+6:=⟨N-6,by omega⟩;obtain⟨m,rfl⟩:∃j,m=j+1:=⟨m-1,by omega⟩;have Z:eJ "MEMBERS" (.str k)=some (.tup [.str "reply",.str "paper"]):=by
   rcases Y with rfl|rfl
   .exact ng
   .exact nh
  refine ml Z (by simp) (dv (iH (L:=[(.str "reply",vP r,[wP r]),(.str "paper",v,ws)]) (by simp) λq z=>?_) rfl (by simp));simp only[y1,F4,Gi]at z;rcases z with rfl|rfl
  .exact jO (by omega) G
  .exact dj (ih (n+3) m (by omega) (by omega))
 | @cases d rows hl h1 h2 h3 ih =>
  intro N m J U;obtain⟨n,rfl⟩:∃n,N=n+6:=⟨N-6,by omega⟩;obtain⟨m,rfl⟩:∃j,m=j+1:=⟨m-1,by omega⟩;refine ml kY (by simp) (dv (iH (L:=[(.tup [.str "hole",.str "reply",.str "paper"],.tup (rows.map λr=>.tup [.int r.1,vP r.2.1,r.2.2.1]),aF rows.length::(rows.map λr=>aF r.1::wP r.2.1::r.2.2.2).flatten)]) (by simp) λq z=>?_) rfl (by simp));rw[F6.mp z];refine wg (n:=n+3) (by omega) (by omega) λp D=>dv (iH (L:=[(.str "hole",.int p.1,[aF p.1]),(.str "reply",vP p.2.1,[wP p.2.1]),(.str "paper",p.2.2.1,p.2.2.2)]) (by simp) λr G=>?_) rfl (by simp)
  simp only[y1,F4,Gi]at G;rcases G with rfl|rfl|rfl
  .exact wf (by omega) (h1 p D)
  .exact jO (by omega) (h2 p D)
  .exact dj (ih p D (n+1) m (by omega) (by omega))
 | @parts d rows hl h1 h3 ih =>
  intro N m J U;obtain⟨n,rfl⟩:∃n,N=n+6:=⟨N-6,by omega⟩;obtain⟨m,rfl⟩:∃j,m=j+1:=⟨m-1,by omega⟩;refine ml fY (by simp) (dv (iH (L:=[(.tup [.str "rest",.str "paper"],.tup (rows.map λr=>.tup [ofR r.1,r.2.1]),aF rows.length::(rows.map λr=>wR r.1++r.2.2).flatten)]) (by simp) λq z=>?_) rfl (by simp));rw[F6.mp z];refine wg (n:=n+3) (by omega) (by omega) λp D=>dv (iH (L:=[(.str "rest",ofR p.1,wR p.1),(.str "paper",p.2.1,p.2.2)]) (by simp) λr G=>?_) rfl (by simp)
  simp only[y1,F4,Gi]at G;rcases G with rfl|rfl
  .exact dc (by omega) (h1 p D)
  .exact dj (ih p D (n+1) m (by omega) (by omega))
 | @fewer d v ws R hR h ih =>
  intro N m J U;obtain⟨n,rfl⟩:∃n,N=n+6:=⟨N-6,by omega⟩;obtain⟨m,rfl⟩:∃j,m=j+1:=⟨m-1,by omega⟩;refine ml kZ (by simp) (dv (iH (L:=[(.str "rest",ofR R,wR R),(.str "paper",v,ws)]) (by simp) λq z=>?_) rfl (by simp));simp only[y1,F4,Gi]at z;rcases z with rfl|rfl
  .exact dc (by omega) hR
  .exact dj (ih (n+3) m (by omega) (by omega))
 | @either d v v' ws ap R S hR hS h h' ih aO =>
  intro N m J U;obtain⟨n,rfl⟩:∃n,N=n+6:=⟨N-6,by omega⟩;obtain⟨m,rfl⟩:∃j,m=j+1:=⟨m-1,by omega⟩;refine ml fh (by simp) (dv (iH (L:=[(.str "rest",ofR R,wR R),(.str "paper",v,ws),(.str "rest",ofR S,wR S),(.str "paper",v',ap)]) (by simp) λq z=>?_) rfl (by simp));simp only[y1,F4,Gi]at z;rcases z with rfl|rfl|rfl|rfl
  .exact dc (by omega) hR
  .exact dj (ih (n+3) m (by omega) (by omega))
  .exact dc (by omega) hS
  .exact dj (aO (n+3) m (by omega) (by omega))
def BW{d:Nat}{v:PV}{ws:List Str}(h:Pap d v ws):ws≠[]:=by cases h<;>exact λz=>nomatch z
def sZ {d:Nat}{v:PV}{ws:List Str} (h:Pap d v ws):Txt.split (Builtin.Str.glued " " ws) (" ":Str)=ws:=oX (BW h) λw hw=>(v7 h w hw).2
def xwo{cal:Cal}{f:Nat}{W:List Str}{n n':Nat}{v w:PV}{e:ME}{a:Option MV}{r:Rho}(z:evA cal [e] (a::some (.ownD (.w W n))::r)=some [.val w])(h:cal (f+2000) [.mutD (.w W n),.val w]=some (.tup [v,.dI (.w W n')])):evX cal (.call f [true,false] [.bor 1,e]) (a::some (.ownD (.w W n))::r)=some (v,a::some (.ownD (.w W n'))::r):=by
 simp[evX,kv,evM,bo,z,h,eK,b5]
def FD (cal:Cal) (f:Nat) (es:List MV) (ws:List Str):Prop:=∀(W:List Str) (n:Nat) (r:List Str),W.drop n=ws++r->cal (f+2000) (.mutD (.w W n)::es)=none/\cal (f+5000) (.mutD (.w W n)::es)=some (.str "NoPaper")
def BD (cal:Cal) (ms:List MS) (ρ:Rho):Prop:=exs cal ms ρ=.bad/\exsE cal ms ρ=.err "NoPaper"
def XF (cal:Cal) (x:XE) (ρ:Rho):Prop:=evX cal x ρ=none/\cq cal x ρ=some ("NoPaper":Str)
section
variable{cal:Cal}{ρ E:Rho}{ms:List MS}
def qy{m:MS}(hz:pV m=false)(h:ex cal m ρ=.next E)(h':exE cal m ρ=.fin (.next E))(k:BD cal ms E):BD cal (m::ms) ρ:=by
 refine⟨by rw[bf,h,gm];exact k.1,?_⟩;rw[exsE,hz,if_neg (by decide),h'];exact k.2
def rJ {m:MS} (hz:pV m=false) (h:ex cal m ρ=.bad) (h':exE cal m ρ=.err "NoPaper"):BD cal (m::ms) ρ:=by
 refine⟨by rw[bf,h,v0],?_⟩;rw[exsE,hz,if_neg (by decide),h']
def oZ{c:ME}{a:List MS}(h:ev cal c ρ=some (.bl false))(k:BD cal ms ρ):BD cal (.ite c a []::ms) ρ:=
 qy rfl (by rw[db h,if_neg (by decide),exs]) (by rw[exE,qt h];dsimp only;rw[if_neg (by decide),exsE]) k
def zw{c:ME}{a b:List MS}(h:ev cal c ρ=some (.bl true))(k:BD cal a ρ):BD cal (.ite c a b::ms) ρ:=
 rJ rfl (by rw[db h,if_pos rfl,k.1]) (by rw[exE,qt h];dsimp only;rw[if_pos rfl,k.2])
def BX{i:Nat}{x:XE}{v:PV}(h:evX cal x ρ=some (v,E))(k:BD cal ms (put E i (.val v))):BD cal (.setX i x::ms) ρ:=
 qy rfl (by rw[ex,h]) (by rw[exE,fO,h,ex,h]) k
def BY{i:Nat}{x:XE}(h:XF cal x ρ):BD cal (.setX i x::ms) ρ:=
 rJ rfl (by rw[ex,h.1]) (by rw[exE,fO,h.1];dsimp only;rw[h.2])
def nn{x:XE}(h:XF cal x ρ):BD cal (.retXE x::ms) ρ:=
 rJ rfl (by rw[ex,h.1]) (by rw[exE,fO,h.1];dsimp only;rw[h.2])
def zx{x:XE}(h:XF cal x ρ):XF cal (.tupOf x) ρ:=⟨by rw[evX,h.1];rfl,by rw[cq,h.2]⟩
def yI {f:Nat}{W:List Str}{n:Nat}{w:PV}{e:ME}{r:Rho} (z:evA cal [e] (some (.mutD (.w W n))::r)=some [.val w]) (h:cal (f+2000) [.mutD (.w W n),.val w]=none/\cal (f+5000) [.mutD (.w W n),.val w]=some (.str "NoPaper")):XF cal (.call f [true,false] [.bor 0,e]) (some (.mutD (.w W n))::r):=by
 constructor
 .simp[evX,kv,evM,bo,z,h.1]
 .simp[cq,evM,bo,z,h.2]
def yJ {f:Nat}{W:List Str}{n:Nat}{w w':PV}{e e':ME}{r:Rho} (D:evA cal [e] (some (.mutD (.w W n))::r)=some [.val w]) (z:evA cal [e'] (some (.mutD (.w W n))::r)=some [.val w']) (h:cal (f+2000) [.mutD (.w W n),.val w,.val w']=none/\cal (f+5000) [.mutD (.w W n),.val w,.val w']=some (.str "NoPaper")):XF cal (.call f [true,false,false] [.bor 0,e,e']) (some (.mutD (.w W n))::r):=by
 constructor
 .simp[evX,kv,evM,bo,D,z,h.1]
 .simp[cq,evM,bo,D,z,h.2]
end
def k_{n f:Nat}{d:MD}{es:List MV}{ws:List Str}(G:f<1000)(hd:defs[f]?=some d)(z:es.length+1=d.params.length)(h:∀(W:List Str) (k:Nat) (r:List Str),W.drop k=ws++r->BD (aa defs n) d.body (some (.mutD (.w W k))::(es.map some++replicate (d.names.length-(es.length+1)) none))):FD (aa defs (n+1)) f es ws:=λW k r hw=>by
 have D:defs.length<=100:=by decide
 obtain⟨J,U⟩:=h W k r hw;constructor
 .rw[l_ (d:=d) (GV (by omega)) hd (by simpa using z) G];show yr _ (exs _ _ (some (.mutD (.w W k))::(es.map some++replicate (d.names.length-(es.length+1)) none)))=_;rw[J]
  rfl
 .rw[i9 (d:=d) (GV (by omega)) hd (by simpa using z)];show sr (exsE _ _ (some (.mutD (.w W k))::(es.map some++replicate (d.names.length-(es.length+1)) none)))=_;rw[U]
  rfl
theorem Em{cal:Cal}{f:Nat}{m kd:PV}{ks:List PV}{ws:List Str}(z:FD cal f [.val kd,.val m] ws):∀(L:List (PV×PV×List Str)),(∀p∈L,RD cal f [.val p.1,.val m] p.2.1 p.2.2)->∀(W:List Str) (n:Nat) (s:List Str) (a:Option MV) (r:Rho),W.drop n=(L.map (·.2.2)).flatten++(ws++s) ->
  aJ cal [0,2] .one (.cst .non) f [true,false,false] [.bor 1,.bor 0,.bor 2] (L.map (·.1)++kd::ks) (some (.mutD (.w W n))::a::sv m::r)=none/\bU cal [0,2] (.cst .non) f [true,false,false] [.bor 1,.bor 0,.bor 2] (L.map (·.1)++kd::ks) (some (.mutD (.w W n))::a::sv m::r)=some ("NoPaper":Str)
 | [],_,W,n,s,a,r,hw=>by
  obtain⟨D,G⟩:=z W n s hw;constructor
  .simp[aJ,ev,dM,gM,evM,evA,bo,D]
  .simp[bU,aJ,ev,dM,gM,evM,evA,bo,D,G]
 |p::L,h,W,n,s,a,r,hw=>by
  rw[F0,flatten_cons,Gz]at hw;have e:=h p (.head _) W n _ hw;obtain⟨J,U⟩:=Em (ks:=ks) z L (λq Y=>h q (.tail _ Y)) W (n+p.2.2.length) s a r (b8 hw);constructor
  .rw[F0,cons_append,aJ];simp[ev,dM,gM,evM,evA,bo,e,h_,lx,eK,b5,J]
  .rw[F0,cons_append,bU];simp[aJ,ev,dM,gM,evM,evA,bo,e,h_,lx,eK,b5,U]
theorem Eo{cal:Cal}{f:Nat}{k m:PV}{x:PV}{xs':List PV}{ws:List Str}(z:FD cal f [.val k,.val m] ws):∀(xs:List PV) (L:List (PV×List Str)),xs.length=L.length->(∀p∈L,RD cal f [.val k,.val m] p.1 p.2)->∀(W:List Str) (n:Nat) (s:List Str) (r:Rho),W.drop n=(L.map (·.2)).flatten++(ws++s) ->
  aJ cal [0,1,2] .one (.cst .non) f [true,false,false] [.bor 1,.bor 2,.bor 3] (xs++x::xs') (some (.mutD (.w W n))::sv k::sv m::r)=none/\bU cal [0,1,2] (.cst .non) f [true,false,false] [.bor 1,.bor 2,.bor 3] (xs++x::xs') (some (.mutD (.w W n))::sv k::sv m::r)=some ("NoPaper":Str)
 | [],[],_,_,W,n,s,r,hw=>by
  obtain⟨D,G⟩:=z W n s hw;constructor
  .simp[aJ,ev,dM,gM,evM,evA,bo,D]
  .simp[bU,aJ,ev,dM,gM,evM,evA,bo,D,G]
 | [],_::_,h,_,_,_,_,_,_=>by cases h
 | _::_,[],h,_,_,_,_,_,_=>by cases h
 |y::xs,p::L,J,h,W,n,s,r,hw=>by
  rw[F0,flatten_cons,Gz]at hw;have e:=h p (.head _) W n _ hw;obtain⟨U,Y⟩:=Eo (x:=x) (xs':=xs') z xs L (by simpa using J) (λq Z=>h q (.tail _ Z)) W (n+p.2.length) s r (b8 hw);constructor
  .rw[cons_append,aJ];simp[ev,dM,gM,evM,evA,bo,e,h_,lx,eK,b5,U]
  .rw[cons_append,bU];simp[aJ,ev,dM,gM,evM,evA,bo,e,h_,lx,eK,b5,Y]
def dw{cal:Cal}{f:Nat}{es:List MV}{ws z:List Str}(h:FD cal f es ws)(hw:ws=z):FD cal f es z:=hw▸h
section
variable{n:Nat}{room:PV}{ws:List Str}
def yK:FD (aa defs (n+1)) 19 [.val (.int 0)] ws:=
 k_ (d:=du) (by decide) rfl rfl λW j r hw=>by
  show BD _ _ [some (.mutD (.w W j)),sv (.int 0),none];exact zw rfl (rJ rfl (by rw[ex]) (by rw[exE]))
def cX (h:FD (aa defs n) 19 [.val room] ws):FD (aa defs (n+1)) 17 [.val (.str "paper"),.val room] ws:=
 k_ (d:=bh) (by decide) rfl rfl λW k r hw=>oZ (eH _ "paper" "hole" _ _) (oZ (eH _ "paper" "reply" _ _) (oZ (eH _ "paper" "rest" _ _) (zw (eH _ "paper" "paper" _ _) (nn (yI (w:=room) rfl (h W k r hw))))))
def jP{ks:List PV}{L:List (PV×List Str)}{c:Nat}(hc:L.length<c)(G:c<=60)(J:RD (aa defs n) 14 [] (.int c) [aF c])(h:∀p∈L,RD (aa defs n) 18 [.val (.tup ks),.val room] p.1 p.2)(U:FD (aa defs n) 18 [.val (.tup ks),.val room] ws):FD (aa defs (n+1)) 17 [.val (.tup ks),.val room] (aF c::((L.map (·.2)).flatten++ws)):=
 k_ (d:=bh) (by decide) rfl rfl λW k r hw=>by
  have hw:W.drop k=[aF c]++((L.map (·.2)).flatten++(ws++r)):=by rw[hw];simp
  refine oZ (jp _ ks "hole" _ _) (oZ (jp _ ks "reply" _ _) (oZ (jp _ ks "rest" _ _) (oZ (jp _ ks "paper" _ _) (nn (zx ?_)))));obtain⟨xs,z,Y⟩:=zv c G;have D:=xw1 (r:=[sv (.tup ks),sv room]) (J W k _ hw);have hx:xs=xs.take L.length++xs[L.length]'(by omega)::xs.drop (L.length+1):=by
   rw[<- GZ,take_append_drop]
  have key:=Eo (x:=xs[L.length]'(by omega)) (xs':=xs.drop (L.length+1)) U (xs.take L.length) L (by rw[IC];omega) h W (k+1) r [] (b8 hw);rw[<- hx]at key;constructor
  .show evX _ (.compR (.call 14 [true] [.bor 0]) [0,1,2] .one (.cst .non) 18 [true,false,false] [.bor 1,.bor 2,.bor 3]) [some (.mutD (.w W k)),sv (.tup ks),sv room]=_;rw[evX,D,bind_some];dsimp only;rw[z,bind_some,if_pos (by omega),show k + [aF (c:Int)].length=k+1 from rfl,key.1]
   rfl
  .show cq _ (.compR (.call 14 [true] [.bor 0]) [0,1,2] .one (.cst .non) 18 [true,false,false] [.bor 1,.bor 2,.bor 3]) [some (.mutD (.w W k)),sv (.tup ks),sv room]=_;rw[cq,D,bind_some];dsimp only;rw[z,bind_some,if_pos (by omega),show k + [aF (c:Int)].length=k+1 from rfl,key.2]
def a9{L:List (PV×PV×List Str)}{kd:PV}{ks:List PV}(G:L.length+ks.length<60)(h:∀p∈L,RD (aa defs n) 17 [.val p.1,.val room] p.2.1 p.2.2)(D:FD (aa defs n) 17 [.val kd,.val room] ws):FD (aa defs (n+1)) 18 [.val (.tup (L.map (·.1)++kd::ks)),.val room] ((L.map (·.2.2)).flatten++ws):=
 k_ (d:=dZ) (by decide) rfl rfl λW k r hw=>by
  rw[Gz]at hw;have key:=Em (ks:=ks) D L h W k r (sv (.tup (L.map (·.1)++kd::ks))) [] hw;have es:evs (aa defs n) [.var 1] [some (.mutD (.w W k)),sv (.tup (L.map (·.1)++kd::ks)),sv room]=some [.tup (L.map (·.1)++kd::ks)]:=by simp[evs,ev]
  have z:(L.map (·.1)++kd::ks).length<=10000:=by rw[FZ,FY,length_cons];omega
  refine nn (zx ⟨?_,?_⟩)
  .show evX _ (.compS (.var 1) [0,2] .one (.cst .non) 17 [true,false,false] [.bor 1,.bor 0,.bor 2]) [some (.mutD (.w W k)),sv (.tup (L.map (·.1)++kd::ks)),sv room]=_;rw[evX,es,bind_some,show ba .seq [.tup (L.map (·.1)++kd::ks)]=some (L.map (·.1)++kd::ks)from rfl,bind_some,if_pos z,key.1]
   rfl
  .show cq _ (.compS (.var 1) [0,2] .one (.cst .non) 17 [true,false,false] [.bor 1,.bor 0,.bor 2]) [some (.mutD (.w W k)),sv (.tup (L.map (·.1)++kd::ks)),sv room]=_;rw[cq,es,bind_some,show ba .seq [.tup (L.map (·.1)++kd::ks)]=some (L.map (·.1)++kd::ks)from rfl,bind_some,if_pos z,key.2]
def iI {k:Str}{D:List PV}{m:Nat} (G:eJ "MEMBERS" (.str k)=some (.tup D)) (h:FD (aa defs (n+5)) 18 [.val (.tup D),.val (.int (m:Int))] ws):FD (aa defs (n+6)) 19 [.val (.int (m+1:Nat))] (k::ws):=
 k_ (d:=du) (by decide) rfl rfl λW j r hw=>by
  have hw:W.drop j=[k]++(ws++r):=hw;show BD _ _ [some (.mutD (.w W j)),sv (.int (m+1:Nat)),none];refine oZ ?_ (BX (wb (fC n) hw) ?_)
  .have:¬ ((m:Int)+1=0):=by omega
   simp[ev,this]
  .simp only[bw,bx];have J:(ev (aa defs (n+5)) (.var 2) [some (.mutD (.w W (j+1))),sv (.int (m+1:Nat)),sv (.str k)]).bind (eJ "MEMBERS")=some (.tup D):=by rw[ev];exact G
   refine qy rfl (by rw[ex,J]) (by rw[dD rfl,ex,J]) (nn ?_);have U:=yJ (f:=18) (e:=.cdat "MEMBERS" (.bor 2)) (e':=.bin .sub (.bor 1) (ci 1)) (r:=[sv (.int (m+1:Nat)),sv (.str k)]) (w:=.tup D) (w':=.int (m:Int)) (by
    have:ev (aa defs (n+5)) (.cdat "MEMBERS" (.bor 2)) [some (.mutD (.w W (j+1))),sv (.int (m+1:Nat)),sv (.str k)]=some (.tup D):=by rw[ev];exact G
    rw[evA]
    .rw[this];rfl
    .intro i z;cases z) (by simp[evA,ev]) (h W (j+1) r (b8 hw))
   have ea:ev (aa defs (n+5)) (.tup [.var 2]) [some (.mutD (.w W (j+1))),sv (.int (m+1:Nat)),sv (.str k)]=some (.tup [.str k]):=by simp[ev,evs]
   exact⟨by rw[evX,ea,bind_some,U.1];rfl,by rw[cq,ea,bind_some,U.2]⟩
end
inductive Dp:Nat->PV->List Str->Prop where
 | leaf (k:Str) (hk:k="bare" \/ k="whole" \/ k="weight"):Dp 0 (.tup [.str k]) [k]
 | one {d:Nat}{v:PV}{ws:List Str} (k:Str) (hk:k="bite" \/ k="knot") (r:Option Int) (hr:∀i,r=some i->Sm i) (h:Dp d v ws):Dp (d+1) (.tup [.str k,vP r,v]) (k::wP r::ws)
 | cases {d:Nat}{v:PV}{ws:List Str} (i:Int) (hi:Sm i) (r:Option Int) (hr:∀i,r=some i->Sm i) (h:Dp d v ws):Dp (d+1) (.tup [.str "cases",.tup [.tup [.int i,vP r,v]]]) ("cases"::aF (1:Nat)::aF i::wP r::ws)
 | parts {d:Nat}{v:PV}{ws:List Str} (R:LL) (hR:ROk R) (h:Dp d v ws):Dp (d+1) (.tup [.str "parts",.tup [.tup [ofR R,v]]]) ("parts"::aF (1:Nat)::(wR R++ws))
 | parts2 {d:Nat}{v:PV}{ws:List Str} (R S:LL) (hR:ROk R) (hS:ROk S) (h:Dp d v ws):Dp (d+1) (.tup [.str "parts",.tup [.tup [ofR S,.tup [.str "bare"]],.tup [ofR R,v]]]) ("parts"::aF (2:Nat)::(wR S++("bare":Str)::(wR R++ws)))
 | fewer {d:Nat}{v:PV}{ws:List Str} (R:LL) (hR:ROk R) (h:Dp d v ws):Dp (d+1) (.tup [.str "fewer",ofR R,v]) ("fewer"::(wR R++ws))
 | eitherL {d:Nat}{v:PV}{ws:List Str} (R S:LL) (hR:ROk R) (hS:ROk S) (h:Dp d v ws):Dp (d+1) (.tup [.str "either",ofR R,v,ofR S,.tup [.str "weight"]]) ("either"::(wR R++ws++(wR S++[("weight":Str)])))
 | eitherR {d:Nat}{v:PV}{ws:List Str} (R S:LL) (hR:ROk R) (hS:ROk S) (h:Dp d v ws):Dp (d+1) (.tup [.str "either",ofR R,.tup [.str "whole"],ofR S,v]) ("either"::(wR R++[("whole":Str)]++(wR S++ws)))
def lc{d:Nat}{v D:PV}{ws z:List Str}(h:Pap d v ws)(G:v=D)(hw:ws=z):Pap d D z:=by
 subst G hw;exact h
def wj{d:Nat}{v:PV}{ws:List Str}(h:Dp d v ws):Pap d v ws/\ws.length<=50*d+1:=by
 induction h with
 |leaf k G=>exact⟨.leaf k G,vr _⟩
 |one k G r J h ih=>exact⟨.one k G r J ih.1,by have:=ih.2;simp only[length_cons];omega⟩
 | @cases d v ws i hi r J h ih =>
  refine⟨lc (.cases [(i,r,v,ws)] (by simp) (λx hx=>?_) (λx hx=>?_) λx hx=>?_) rfl (by simp),by have:=ih.2;simp only[length_cons];omega⟩
  .rw[F6.mp hx];exact hi
  .rw[F6.mp hx];exact J
  .rw[F6.mp hx];exact ih.1
 | @parts d v ws R z h ih =>
  refine⟨lc (.parts [(R,v,ws)] (by simp) (λx hx=>?_) λx hx=>?_) rfl (by simp),by have:=ih.2;have:=b7 z;simp only[length_cons,FZ];omega⟩
  .rw[F6.mp hx];exact z
  .rw[F6.mp hx];exact ih.1
 | @parts2 d v ws R S z D h ih =>
  refine⟨lc (.parts [(S,.tup [.str "bare"],[("bare":Str)]),(R,v,ws)] (by simp) (λx hx=>?_) λx hx=>?_) rfl (by simp),by have:=ih.2;have:=b7 z;have:=b7 D;simp only[length_cons,FZ];omega⟩
  .simp only[y1,F4,Gi]at hx;rcases hx with rfl|rfl
   .exact D
   .exact z
  .simp only[y1,F4,Gi]at hx;rcases hx with rfl|rfl
   .exact .leaf _ (.inl rfl)
   .exact ih.1
 |fewer R z h ih=>exact⟨.fewer R z ih.1,by have:=ih.2;have:=b7 z;simp only[length_cons,FZ];omega⟩
 |eitherL R S z D h ih=>exact⟨.either R S z D ih.1 (.leaf _ (.inr (.inr rfl))),by have:=ih.2;have:=b7 z;have:=b7 D;simp only[length_cons,FZ,length_nil];omega⟩
 |eitherR R S z D h ih=>exact⟨.either R S z D (.leaf _ (.inr (.inl rfl))) ih.1,by have:=ih.2;have:=b7 z;have:=b7 D;simp only[length_cons,FZ,length_nil];omega⟩
def gn{N k:Nat}(z:6<=N)(h:k<=60):RD (aa defs N) 14 [] (.int k) [aF k]:=by
 obtain⟨m,rfl⟩:∃m,N=m+6:=⟨N-6,by omega⟩;exact iG m h
def yL{d:Nat}{v:PV}{ws:List Str}(h:Dp d v ws):∀(N m:Nat),5*d+14<=N->m<=d->FD (aa defs N) 19 [.val (.int (m:Nat))] ws:=by
 have zero:∀{N:Nat}{ws:List Str},1<=N->FD (aa defs N) 19 [.val (.int (0:Nat))] ws:=λ{N ws} G=>by
  obtain⟨n,rfl⟩:∃n,N=n+1:=⟨N-1,by omega⟩;exact yK
 have st:∀{d:Nat}{ws:List Str},(∀n m,5*d+13<=n->m<=d->FD (aa defs (n+6)) 19 [.val (.int (m+1:Nat))] ws)->∀N m,5*(d+1)+14<=N->m<=d+1->FD (aa defs N) 19 [.val (.int (m:Nat))] ws:=λ{d ws} h N m G J=>by
  cases m with
  |zero=>exact zero (by omega)
  |succ m =>
   obtain⟨n,rfl⟩:∃n,N=n+6:=⟨N-6,by omega⟩;exact h n m (by omega) (by omega)
 induction h with
 |leaf k hk =>
  intro N m G J;obtain rfl:m=0:=by omega
  exact zero (by omega)
 | @one d v ws k hk r Z h ih =>
  refine st λn m G J=>?_
  have hg:eJ "MEMBERS" (.str k)=some (.tup [.str "reply",.str "paper"]):=by
   rcases hk with rfl|rfl
   .exact ng
   .exact nh
  refine iI hg (dw (a9 (L:=[(.str "reply",vP r,[wP r])]) (kd:=.str "paper") (ks:=[]) (by simp) (λq z=>?_) (cX (ih (n+3) m (by omega) (by omega)))) (by simp));rw[F6.mp z];exact jO (by omega) Z
 | @cases d v ws i hi r Z h ih =>
  refine st λn m G J=>?_
  refine iI kY (dw (a9 (L:=[]) (kd:=.tup [.str "hole",.str "reply",.str "paper"]) (ks:=[]) (by simp) (λq z=>nomatch z) (jP (n:=n+3) (L:=[]) (c:=1) (by simp) (by simp) (gn (by omega) (by simp)) (λq z=>nomatch z) (a9 (L:=[(.str "hole",.int i,[aF i]),(.str "reply",vP r,[wP r])]) (kd:=.str "paper") (ks:=[]) (by simp) (λq z=>?_) (cX (ih (n+1) m (by omega) (by omega)))))) (by simp));simp only[y1,F4,Gi]at z;rcases z with rfl|rfl
  .exact wf (by omega) hi
  .exact jO (by omega) Z
 | @parts d v ws R D h ih =>
  refine st λn m G J=>?_
  refine iI fY (dw (a9 (L:=[]) (kd:=.tup [.str "rest",.str "paper"]) (ks:=[]) (by simp) (λq z=>nomatch z) (jP (n:=n+3) (L:=[]) (c:=1) (by simp) (by simp) (gn (by omega) (by simp)) (λq z=>nomatch z) (a9 (L:=[(.str "rest",ofR R,wR R)]) (kd:=.str "paper") (ks:=[]) (by simp) (λq z=>?_) (cX (ih (n+1) m (by omega) (by omega)))))) (by simp));rw[F6.mp z];exact dc (by omega) D
 | @parts2 d v ws R S D Y h ih =>
  refine st λn m G J=>?_
  by_cases U:m=0
  .subst U;refine iI fY (dw (a9 (L:=[]) (kd:=.tup [.str "rest",.str "paper"]) (ks:=[]) (by simp) (λq z=>nomatch z) (jP (n:=n+3) (L:=[]) (c:=2) (by simp) (by simp) (gn (by omega) (by simp)) (λq z=>nomatch z) (a9 (L:=[(.str "rest",ofR S,wR S)]) (kd:=.str "paper") (ks:=[]) (by simp) (λq z=>?_) (cX (zero (N:=n+1) (ws:=("bare":Str)::(wR R++ws)) (by omega)))))) (by simp));rw[F6.mp z];exact dc (by omega) Y
  .obtain⟨m,rfl⟩:∃j,m=j+1:=⟨m-1,by omega⟩;refine iI fY (dw (a9 (L:=[]) (kd:=.tup [.str "rest",.str "paper"]) (ks:=[]) (by simp) (λq z=>nomatch z) (jP (n:=n+3) (L:=[(.tup [ofR S,.tup [.str "bare"]],wR S++[("bare":Str)])]) (c:=2) (by simp) (by simp) (gn (by omega) (by simp)) (λq z=>?_) (a9 (L:=[(.str "rest",ofR R,wR R)]) (kd:=.str "paper") (ks:=[]) (by simp) (λq z=>?_) (cX (ih (n+1) (m+1) (by omega) (by omega)))))) (by simp))
   .rw[F6.mp z];refine dv (iH (L:=[(.str "rest",ofR S,wR S),(.str "paper",.tup [.str "bare"],[("bare":Str)])]) (by simp) λx hx=>?_) rfl (by simp);simp only[y1,F4,Gi]at hx;rcases hx with rfl|rfl
    .exact dc (by omega) Y
    .exact dj (k9 (d:=0) (.leaf _ (.inl rfl)) (n+1) m (by omega) (by omega))
   .rw[F6.mp z];exact dc (by omega) D
 | @fewer d v ws R D h ih =>
  refine st λn m G J=>?_
  refine iI kZ (dw (a9 (L:=[(.str "rest",ofR R,wR R)]) (kd:=.str "paper") (ks:=[]) (by simp) (λq z=>?_) (cX (ih (n+3) m (by omega) (by omega)))) (by simp));rw[F6.mp z];exact dc (by omega) D
 | @eitherL d v ws R S D Y h ih =>
  refine st λn m G J=>?_
  have key:FD (aa defs (n+3)) 19 [.val (.int (m:Nat))] (ws++(wR S++[("weight":Str)])):=λW j r hw=>ih (n+3) m (by omega) (by omega) W j (wR S++[("weight":Str)]++r) (by rw[hw,Gz])
  refine iI fh (dw (a9 (L:=[(.str "rest",ofR R,wR R)]) (kd:=.str "paper") (ks:=[.str "rest",.str "paper"]) (by simp) (λq z=>?_) (cX key)) (by simp));rw[F6.mp z];exact dc (by omega) D
 | @eitherR d v ws R S D Y h ih =>
  refine st λn m G J=>?_
  by_cases U:m=0
  .subst U;refine iI fh (dw (a9 (L:=[(.str "rest",ofR R,wR R)]) (kd:=.str "paper") (ks:=[.str "rest",.str "paper"]) (by simp) (λq z=>?_) (cX (zero (N:=n+3) (ws:=[("whole":Str)]++(wR S++ws)) (by omega)))) (by simp));rw[F6.mp z];exact dc (by omega) D
  .obtain⟨m,rfl⟩:∃j,m=j+1:=⟨m-1,by omega⟩;refine iI fh (dw (a9 (L:=[(.str "rest",ofR R,wR R),(.str "paper",.tup [.str "whole"],[("whole":Str)]),(.str "rest",ofR S,wR S)]) (kd:=.str "paper") (ks:=[]) (by simp) (λq z=>?_) (cX (ih (n+3) (m+1) (by omega) (by omega)))) (by simp));simp only[y1,F4,Gi]at z;rcases z with rfl|rfl|rfl
   .exact dc (by omega) D
   .exact dj (k9 (d:=0) (.leaf _ (.inr (.inl rfl))) (n+3) m (by omega) (by omega))
   .exact dc (by omega) Y
def yM{cal:Cal}{m:MS}{ms:List MS}{ρ E:Rho}{r:RE}(hz:pV m=false)(h:exE cal m ρ=.fin (.next E))(k:exsE cal ms E=r):exsE cal (m::ms) ρ=r:=by
 rw[exsE,hz,if_neg (by decide),h];exact k
def wk {d:Nat}{v:PV}{ws:List Str} (h:Pap d v ws) (z:ws.length<=8060):(Builtin.Str.glued " " ws).length<=1000000:=by
 have h1:=L2.nR (" ":Str) ws;have h2:=BV (v7 h);have D:(ws.map λy=>y.length+(" ":Str).length).sum<=7*ws.length:=h2;omega
def wl (N:Nat) {d:Nat}{v:PV}{ws:List Str} (h:Pap d v ws) (D:ws.length<=8060):ex (aa defs (N+5)) (.mkW 1 (.var 0)) [sv (.str (Builtin.Str.glued " " ws)),none,none]=.next [sv (.str (Builtin.Str.glued " " ws)),some (.ownD (.w ws 0)),none]:=by
 have hs:=sZ h;have z:=wk h D;generalize Builtin.Str.glued " " ws=g at hs z;rw[ex,show ev (aa defs (N+5)) (.var 0) [sv (.str g),none,none]=some (.str g)from rfl];dsimp only;rw[hs,if_pos ⟨z,by omega,fC N⟩]
 rfl
def wm (N:Nat) {d:Nat}{v:PV}{ws:List Str} (h:Pap d v ws) (D:ws.length<=8060) (hd:d<=29) (G:5*d+14<=N+5):aa defs (N+6) (20+5000) [.val (.str (Builtin.Str.glued " " ws))]=some (.tup [v]):=by
 rw[i9 (d:=cW) (by decide) rfl rfl];have e:=k9 h (N+5) 29 G hd ws 0 [] (by simp);rw[Nat.zero_add]at e;have J:=wl N h D;have z:evX (aa defs (N+5)) (.call 19 [true,false] [.bor 1,.glob "MOST_DEEP" (.int 30)]) [sv (.str (Builtin.Str.glued " " ws)),some (.ownD (.w ws 0)),none]=some (v,[sv (.str (Builtin.Str.glued " " ws)),some (.ownD (.w ws ws.length)),none]):=xwo (w:=.int 30) rfl e;have key:exsE (aa defs (N+5)) cW.body [sv (.str (Builtin.Str.glued " " ws)),none,none]=.fin (.ret v):=by
  refine yM rfl (by rw[dD rfl,J]) (yM rfl (E:=[sv (.str (Builtin.Str.glued " " ws)),some (.ownD (.w ws ws.length)),sv v]) ?_ (yM rfl (E:=[sv (.str (Builtin.Str.glued " " ws)),some (.ownD (.w ws ws.length)),sv v]) ?_ ?_))
  .rw[exE,fO,z,ex,z];rfl
  .rw[dD rfl,ex];show RE.fin (if ws.length=ws.length/\aa defs (N+5) 4000 []≠none then R.next _ else _)=_;rw[if_pos ⟨rfl,fC N⟩]
  .rw[exsE,show pV (.ret (.var 2))=false from rfl,if_neg (by decide),dD rfl,ex,show ev (aa defs (N+5)) (.var 2) [sv (.str (Builtin.Str.glued " " ws)),some (.ownD (.w ws ws.length)),sv v]=some v from rfl]
   rfl
 show sr (exsE _ _ [sv (.str (Builtin.Str.glued " " ws)),none,none])=_;rw[key]
 rfl
def s_ (N:Nat) {d:Nat}{v:PV}{ws:List Str} (h:Dp d v ws) (z:ws.length<=8060) (hd:30<=d) (D:5*d+14<=N+5):aa defs (N+6) (20+5000) [.val (.str (Builtin.Str.glued " " ws))]=some (.str "NoPaper"):=by
 rw[i9 (d:=cW) (by decide) rfl rfl];obtain⟨G,J⟩:=yL h (N+5) 30 D hd ws 0 [] (by simp);have U:=wl N (wj h).1 z;have key:exsE (aa defs (N+5)) cW.body [sv (.str (Builtin.Str.glued " " ws)),none,none]=.err "NoPaper":=by
  refine yM rfl (by rw[dD rfl,U]) ?_;refine(BY (ms:=[.nomore 1,.ret (.var 2)]) ⟨?_,?_⟩).2
  .generalize Builtin.Str.glued " " ws=g;simp[evX,kv,evM,bo,evA,ev];rw[show aa defs (N+5) (19+2000) [.mutD (.w ws 0),.val (.int 30)]=none from G]
  .generalize Builtin.Str.glued " " ws=g;rw[cq,show evM (aa defs (N+5)) [true,false] [.bor 1,.glob "MOST_DEEP" (.int 30)] [sv (.str g),some (.ownD (.w ws 0)),none]=some [.mutD (.w ws 0),.val (.int 30)]from by simp[evM,bo,evA,ev],bind_some,show aa defs (N+5) (19+5000) [.mutD (.w ws 0),.val (.int 30)]=some (.str "NoPaper")from J]
 show sr (exsE _ _ [sv (.str (Builtin.Str.glued " " ws)),none,none])=_;rw[key]
 rfl
inductive PL:Nat->PV->Prop where
 | int {n:Nat} (i:Int):PL n (.int i)
 | str {n:Nat} (x:Str):PL n (.str x)
 | non {n:Nat}:PL n .non
 | tup {n:Nat}{vs:List PV} (h:∀v∈vs,PL n v):PL (n+1) (.tup vs)
theorem o6{f:PV->PV->Option Bool}:∀{vs:List PV},(∀v∈vs,f v v=some true)->eqL f vs vs=some true
 | [],_=>rfl
 |v::vs,h=>by
  rw[eqL,h v (.head _),o6 λw hw=>h w (.tail _ hw)]
  rfl
def Ep{n:Nat}{v:PV}(h:PL n v):∀m,n<=m->eqF m v v=some true:=by
 induction h with
 |int i=>intro m _;simp[eqF]
 |str x=>intro m _;simp[eqF]
 |non=>intro m _;simp[eqF]
 | @tup n vs h ih =>
  intro m D;obtain⟨k,rfl⟩:∃k,m=k+1:=⟨m-1,by omega⟩;rw[eqF];exact o6 λv z=>ih v z k (by omega)
def ld{n:Nat}{v:PV}(h:PL n v):∀{m:Nat},n<=m->PL m v:=by
 induction h with
 |int i=>exact λ_=>.int i
 |str x=>exact λ_=>.str x
 |non=>exact λ_=>.non
 | @tup n vs h ih =>
  intro m D;obtain⟨k,rfl⟩:∃k,m=k+1:=⟨m-1,by omega⟩;exact .tup λv z=>ih v z (by omega)
def Es{n:Nat}(r:Option Int):PL n (vP r):=by
 cases r with
 |none=>exact .non
 |some i=>exact .int i
def o7{n:Nat}(R:LL):PL (n+2) (ofR R):=by
 refine .tup λv z=>?_
 obtain⟨t,D,rfl⟩:=mem_map.mp z;refine .tup λv z=>?_
 obtain⟨i,hi,rfl⟩:=mem_map.mp z;exact .int i
def bS{n:Nat}:∀v∈([]:List PV),PL n v:=λ_ h=>nomatch h
def au{n:Nat}{v:PV}{vs:List PV}(h:PL n v)(k:∀v∈vs,PL n v):∀w∈v::vs,PL n w:=λw hw=>by
 rcases y1.mp hw with rfl|hw
 .exact h
 .exact k w hw
def Et{d:Nat}{v:PV}{ws:List Str}(h:Dp d v ws):PL (3*d+4) v:=by
 induction h with
 |leaf k G=>exact .tup (au (.str k) bS)
 |one k G r J h ih=>exact .tup (au (.str k) (au (Es r) (au (ld ih (by omega)) bS)))
 |cases i hi r J h ih=>exact .tup (au (.str _) (au (.tup (au (.tup (au (.int i) (au (Es r) (au (ld ih (by omega)) bS)))) bS)) bS))
 |parts R z h ih=>exact .tup (au (.str _) (au (.tup (au (.tup (au (o7 R) (au (ld ih (by omega)) bS))) bS)) bS))
 |parts2 R S z D h ih=>exact .tup (au (.str _) (au (.tup (au (.tup (au (o7 S) (au (.tup (au (.str _) bS)) bS))) (au (.tup (au (o7 R) (au (ld ih (by omega)) bS))) bS))) bS))
 |fewer R z h ih=>exact .tup (au (.str _) (au (o7 R) (au (ld ih (by omega)) bS)))
 |eitherL R S z D h ih=>exact .tup (au (.str _) (au (o7 R) (au (ld ih (by omega)) (au (o7 S) (au (.tup (au (.str _) bS)) bS)))))
 |eitherR R S z D h ih=>exact .tup (au (.str _) (au (o7 R) (au (.tup (au (.str _) bS)) (au (o7 S) (au (ld ih (by omega)) bS)))))
def Eu{i:Int}(h:Sm i):ROk [[i]]:=⟨by simp,by simp,by simpa using h,.inr ⟨i,h,rfl⟩⟩
def wn:ROk []:=⟨Gv _,(λ_ h=>nomatch h),(λ_ h=>nomatch h),.inl rfl⟩
def BZ(N:Nat){d:Nat}{v:PV}{ws:List Str}(h:Dp d v ws)(p:Int)(Y:0<=p):∃G D,aa defs (N+1) 26 [.val v,.val (.int p)]=some G/\Dp (d+1) G D:=by
 have h1:Sm (p / 8 % 60):=⟨Ha _ (by decide),G6 _ (by decide)⟩;have h2:Sm (p / 480 % 60):=⟨Ha _ (by decide),G6 _ (by decide)⟩;have J:0<=p % 8:=Ha _ (by decide);have U:p % 8<8:=G6 _ (by decide);have z:∀X,bu (exs (aa defs N) (eP.body.drop 3) [sv v,sv (.int p),sv (.int (p / 8 % 60)),sv (ofR [[p / 8 % 60]]),sv (.int (p % 8))])=X->aa defs (N+1) 26 [.val v,.val (.int p)]=X:=λX h=>by
  rw[aD (d:=eP) rfl rfl];exact fW rfl (fW rfl (fW rfl h))
 have R:=Eu h1;generalize p % 8=w at J U z;have hh:w=0\/w=1\/w=2\/w=3\/w=4\/w=5\/w=6\/w=7:=by omega
 rcases hh with rfl|rfl|rfl|rfl|rfl|rfl|rfl|rfl
 .exact⟨_,_,z _ rfl,.one "bite" (.inl rfl) (some _) (λx e=>by cases e;exact h1) h⟩
 .exact⟨_,_,z _ rfl,.one "knot" (.inr rfl) none (λx e=>by cases e) h⟩
 .exact⟨_,_,z _ rfl,.cases _ h1 (some _) (λx e=>by cases e;exact h2) h⟩
 .exact⟨_,_,z _ rfl,.parts [[_]] R h⟩
 .exact⟨_,_,z _ rfl,.fewer [[_]] R h⟩
 .exact⟨_,_,z _ rfl,.eitherL [[_]] [] R wn h⟩
 .exact⟨_,_,z _ rfl,.eitherR [] [[_]] wn R h⟩
 .exact⟨_,_,z _ rfl,.parts2 [[_]] [] R wn h⟩
noncomputable def cellOf(ns:List Int)(k:Int):Int:=ns.getD k.toNat 0
def wo(n:Nat)(m:MV)(ns:List Int)(k:Int)(z:bT (some m)=some (ofL ns))(D:0<=k):aa defs (n+1) 21 [m,.val (.int k)]=some (.int (cellOf ns k)):=by
 rw[aD (d:=gW) rfl rfl];unfold cellOf;simp[gW,exs,ex,ev,evs,evB,z];by_cases h:k<(ns.length:Int)
 .have h2:k.toNat<ns.length:=by omega
  simp[h,v3 D h,h2]
 .have h2:ns.length<=k.toNat:=by omega
  simp[h,h2]
def B0{d:Nat}{v:PV}{ws:List Str}(h:Dp d v ws):∃vs,v=.tup vs:=by cases h<;>exact⟨_,rfl⟩
def tf(ns:List Int){d:Nat}{v:PV}{ws:List Str}(h:Dp d v ws)(k:Int)(hk:0<=k)(J:k<100)(a b:Option MV)(s:Option MV):∃G D,Dp (d+1) G D/\exs (aa defs 189) m_ (put [some (.brw (ns.map .int)),a,b,sv v,s,none,none,none] 4 (.val (.int k)))=.next [some (.brw (ns.map .int)),a,b,sv G,sv (.int k),none,none,none]:=by
 obtain⟨G,D,e,hd⟩:=BZ 188 h (kU (cellOf ns (1+k)+k*k) 2049848353892358983) (iD _ _);refine⟨G,D,hd,?_⟩;simp only[bw,bx];have U:ev (aa defs 189) (.call 21 [.bor 0,.bin .add (ci 1) (.bor 4)]) [some (.brw (ns.map .int)),a,b,sv v,sv (.int k),none,none,none]=some (.int (cellOf ns (1+k))):=bM (vs:=[.brw (ns.map .int),.val (.int (1+k))]) (by simp[evA,ev]) (wo 188 _ ns _ rfl (by omega));have Y:ev (aa defs 189) (.call 22 [.bin .add (.call 21 [.bor 0,.bin .add (ci 1) (.bor 4)]) (.bin .mul (.bor 4) (.bor 4)),ci 2049848353892358983]) [some (.brw (ns.map .int)),a,b,sv v,sv (.int k),none,none,none]=some (.int (kU (cellOf ns (1+k)+k*k) 2049848353892358983)):=by
  refine bM (vs:=[.val (.int (cellOf ns (1+k)+k*k)),.val (.int 2049848353892358983)]) ?_ (rq 188 _ _);have Z:(-18446744073709551616<k/\k<18446744073709551616):=⟨by omega,by omega⟩;have eq:ev (aa defs 189) (.bin .add (.call 21 [.bor 0,.bin .add (ci 1) (.bor 4)]) (.bin .mul (.bor 4) (.bor 4))) [some (.brw (ns.map .int)),a,b,sv v,sv (.int k),none,none,none]=some (.int (cellOf ns (1+k)+k*k)):=by
   rw[ev,U];simp[ev,Z]
  rw[evA,eq,bind_some]
  .simp[evA,ev]
  .intro i z;cases z
 refine fg ?_;rw[ex,bM (f:=26) (vs:=[.val v,.val (.int (kU (cellOf ns (1+k)+k*k) 2049848353892358983))]) ?_ e]
 .simp[bw,bx]
 .rw[evA,evA,Y]
  .simp[evA]
  .intro i z;cases z
theorem mn(ns:List Int)(a b:Option MV):∀(ks:List Int) {d:Nat}{v:PV}{ws:List Str},Dp d v ws->(∀k∈ks,0<=k/\k<100)->∀s:Option MV,∃J z s',Dp (d+ks.length) J z/\bH (λx E=>exs (aa defs 189) m_ (put E 4 (.val x))) (ks.map .int) [some (.brw (ns.map .int)),a,b,sv v,s,none,none,none]=.next [some (.brw (ns.map .int)),a,b,sv J,s',none,none,none]
 | [],d,v,ws,h,_,s=>⟨v,ws,s,h,rfl⟩
 |k::ks,d,v,ws,h,D,s=>by
  obtain⟨v1,U,h1,Y⟩:=tf ns h k (D k (.head _)).1 (D k (.head _)).2 a b s;obtain⟨Z,G,s2,h2,e2⟩:=mn ns a b ks h1 (λx hx=>D x (.tail _ hx)) (sv (.int k));refine⟨Z,G,s2,by rw[length_cons,show d+(ks.length+1)=d+1+ks.length by omega];exact h2,?_⟩;rw[F0,bH,Y];exact e2
def wp(ns:List Int)(hl:ns.length<=63):aa defs 190 27 [.brw (ns.map .int)]=some (.bl true):=by
 rw[aD (d:=oK) rfl rfl];generalize hb:kU (cellOf ns 0) 1442695040888963407=b;have a1:0<=b:=hb▸iD _ _;have e1:ev (aa defs 189) (.call 22 [(.call 21 [.bor 0,(ci 0)]),(ci 1442695040888963407)]) [some (.brw (ns.map .int)),none,none,none,none,none,none,none]=some (.int b):=by
  have ec:ev (aa defs 189) (.call 21 [.bor 0,ci 0]) [some (.brw (ns.map .int)),none,none,none,none,none,none,none]=some (.int (cellOf ns 0)):=bM (vs:=[.brw (ns.map .int),.val (.int 0)]) (by simp[evA,ev]) (wo 188 _ ns _ rfl (by decide));rw[<- hb];refine bM (vs:=[.val (.int (cellOf ns 0)),.val (.int 1442695040888963407)]) ?_ (rq 188 _ _);rw[evA,ec,bind_some]
  .simp[evA,ev]
  .intro i z;cases z
 have h9:0<=b % 9:=Ha _ (by decide);have a4:b % 9<9:=G6 _ (by decide);obtain⟨q,hq⟩:∃q:Nat,b % 9=q:=⟨(b % 9).toNat,by omega⟩;have h3:0<=b / 9 % 3:=Ha _ (by decide);have J:b / 9 % 3<3:=G6 _ (by decide);obtain⟨p0,w0,e3,U⟩:∃v ws,ev (aa defs 189) (.idx (.lst [(.tup [(cs "bare")]),(.tup [(cs "whole")]),(.tup [(cs "weight")])]) (.bin .mod (.bin .fdiv (.bor 1) (ci 9)) (ci 3))) [some (.brw (ns.map .int)),sv (.int b),sv (.int (26+q:Nat)),none,none,none,none,none]=some v/\Dp 0 v ws:=by
  generalize hw:b / 9 % 3=w at h3 J;have hh:w=0\/w=1\/w=2:=by omega
  rcases hh with rfl|rfl|rfl
  .exact⟨_,_,by simp[ev,evs,hw,place]<;>rfl,.leaf "bare" (.inl rfl)⟩
  .exact⟨_,_,by simp[ev,evs,hw,place]<;>rfl,.leaf "whole" (.inr (.inl rfl))⟩
  .exact⟨_,_,by simp[ev,evs,hw,place]<;>rfl,.leaf "weight" (.inr (.inr rfl))⟩
 obtain⟨v,ws,s',hd,e4⟩:=mn ns (sv (.int b)) (sv (.int (26+q:Nat))) ((range (25+q)).map λk:Nat=>(k:Int)) U (λk hk=>by
  obtain⟨j,hj,rfl⟩:=mem_map.mp hk;have:=mem_range.mp hj;omega) none
 rw[FY,length_range,Nat.zero_add]at hd;obtain⟨G,ap⟩:=wj hd;have D:ws.length<=8060:=by omega
 have e5:ev (aa defs 189) (.join " " (.call 25 [.bor 3])) [some (.brw (ns.map .int)),sv (.int b),sv (.int (26+q:Nat)),sv v,s',none,none,none]=some (.str (Builtin.Str.glued " " ws)):=by
  rw[ev,bM (vs:=[.val v]) (by simp[evA]) (yA G D 189 (by omega)),bind_some];exact mj G D
 show bu (exs (aa defs 189) oK.body [some (.brw (ns.map .int)),none,none,none,none,none,none,none])=some (.bl true);refine fW e1 (fW (v:=.int (26+q:Nat)) ?_ (fW e3 (fX (E:=[some (.brw (ns.map .int)),sv (.int b),sv (.int (26+q:Nat)),sv v,s',none,none,none]) ?_ (fW e5 (fW (v:=.non) (by simp[ev]) (fW (v:=.bl false) (by simp[ev]) ?_))))))
 .simp[ev,bw,bx,hq]
 .simp only[bw,bx];rw[jL (xs:=((range (25+q)).map λk:Nat=>(k:Int)).map .int) ?_,show ∀ρ,bF [ME.bin .sub (.bor 2) (ci 1)] ρ=ρ from λ_=>rfl]
  .rw[e4]
   rfl
  .have eS:evs (aa defs 189) [.bin .sub (.bor 2) (ci 1)] [some (.brw (ns.map .int)),sv (.int b),sv (.int (26+q:Nat)),sv p0,none,none,none,none]=some [.int ((25+q:Nat):Int)]:=by
    rw[evs,show ev (aa defs 189) (.bin .sub (.bor 2) (ci 1)) _=some (.int ((25+q:Nat):Int))from by simp[ev]<;>omega];simp[evs]
   rw[eS,bind_some,kT (by omega) (by omega)];simp;rw[show((25:Int)+q).toNat=25+q by omega]
   rfl
 .simp only[bw,bx];have ea:evA (aa defs 189) [.bor 5] [some (.brw (ns.map .int)),sv (.int b),sv (.int (26+q:Nat)),sv v,s',sv (.str (Builtin.Str.glued " " ws)),sv .non,sv (.bl false)]=some [.val (.str (Builtin.Str.glued " " ws))]:=by simp[evA]
  by_cases b4:q<=4
  .have er:=wm 183 G D (by omega) (by omega);have ew:aa defs 189 10 [.val v]=some (.str (Builtin.Str.glued " " ws)):=by
    rw[aD (d:=fF) rfl rfl];refine gA (ρ:=[sv v]) ?_;rw[ev,bM (vs:=[.val v]) (by simp[evA]) (oR G D 188 (by omega)),bind_some];exact mj G D
   obtain⟨vs,rfl⟩:=B0 hd;have Y:=Ep (Et hd) 100 (by omega);have Z:¬ (30<26+(q:Int)):=by omega
   generalize Builtin.Str.glued " " ws=g at ea er ew;refine fX (E:=[some (.brw (ns.map .int)),sv (.int b),sv (.int (26+q:Nat)),sv (.tup vs),s',sv (.str g),sv (.tup vs),sv (.bl false)]) ?_ (eQ ?_ (eQ ?_ (gA ?_)))
   .rw[ex,ea,bind_some,show aa defs 189 (20+5000) [.val (.str g)]=some (.tup [.tup vs])from er]
    rfl
   .simp[ev,Z]
   .have e6:ev (aa defs 189) (.cmp .ne (.bor 6) (.bor 3)) [some (.brw (ns.map .int)),sv (.int b),sv (.int (26+q:Nat)),sv (.tup vs),s',sv (.str g),sv (.tup vs),sv (.bl false)]=some (.bl false):=by
     rw[nc (x:=.tup vs) (y:=.tup vs) (by simp[ev]) (by simp[ev])];show((eqF 100 (.tup vs) (.tup vs)).map λp=>!p).map PV.bl=_;rw[Y]
     rfl
    rw[ev,e6];simp[ev]
   .rw[nc (x:=.str g) (y:=.str g) (bM (vs:=[.val (.tup vs)]) (by simp[evA]) ew) (by simp[ev])];simp
  .have er:=s_ 183 hd D (by omega) (by omega);have Z:30<26+(q:Int):=by omega
   generalize Builtin.Str.glued " " ws=g at ea er;refine fX (E:=[some (.brw (ns.map .int)),sv (.int b),sv (.int (26+q:Nat)),sv v,s',sv (.str g),sv .non,sv (.bl true)]) ?_ (rB ?_ ?_)
   .rw[ex,ea,bind_some,show aa defs 189 (20+5000) [.val (.str g)]=some (.str "NoPaper")from er]
    rfl
   .simp[ev,Z]
   .simp[ev]
noncomputable def top(i:Nat):Stmt:=PySem.Challenge.pw_mothloom_k71_deep_papers.main.body.getD i (.Pass ⟨0,0,0,0⟩)
noncomputable def sWi:Stmt:=mE (top 18) 0
noncomputable def sWl:Stmt:=mE (top 18) 1
noncomputable def sWn:Stmt:=mE (top 18) 2
def FM:gb ["self","text"] ["self","text"] (aK sWi):=⟨rfl,rfl,rfl,by decide +kernel,rfl,by decide +kernel,by decide +kernel⟩
def FN:gb ["self"] ["self"] (aK sWl):=⟨rfl,rfl,rfl,by decide +kernel,rfl,by decide +kernel,by decide +kernel⟩
def FO:gb ["self"] ["self"] (aK sWn):=⟨rfl,rfl,rfl,by decide +kernel,rfl,by decide +kernel,by decide +kernel⟩
section
variable{P:Program}{w:World}{K:IF}{mg:Str->Option Value}{base:Heap}{f C:Addr}{fd:FuncData}
def Ev (D:FnD K "__init__" "Words.__init__" sWi f fd) (c:Cls K C) (n0:cZ K C "words") (n1:cZ K C "place"):b9 P w K mg base CX0 1 f fd ["self","text"] (spW C):=by
 obtain⟨c0,d0,k0,Z,m0,a0,Y,t1,a1,sl,lk,hc,rfl⟩:=D.it;refine jd lk hc FM (λvs H Q E h=>?_) (λA outer s H vs Q E hr h=>?_)
 .obtain⟨x,dx,t,rfl,_⟩:=h
  rfl
 .obtain⟨x,dx,t,rfl,hx,h1,h2,k⟩:=h;refine⟨_,fH (tR (pv 0) (nF PySem.F.plainAttrs_str PySem.F.slot_str_split PySem.F.type_str_split uG (pv 1) (aI jR bn)) rfl) (jz (tR (pv 0) mr rfl)),?_⟩;refine⟨_,rfl,rfl,t," ",rfl,rfl,rfl,h1,h2,λl G=>?_⟩;have nx:x≠l:=λz=>by rw[z,G]at hx;cases hx
  refine⟨_,rfl,x,C,dx,[],rfl,(by rw[az nx];exact hx),c,n0,(by show 0<1000;decide),?_⟩;refine⟨_,rfl,x,C,dx,_,rfl,aq,c,n1,(by show 1<1000;decide),?_⟩;refine k l _ G aq (by rw[az nx.symm,az nx.symm,aq]) λb o J U=>?_
  rw[az J,az J,az (a8 U G)];exact U
def zy (D:FnD K "are_left" "Words.are_left" sWl f fd) (c:Cls K C) (n0:cZ K C "words") (n1:cZ K C "place") (G:mg "len"=none):b9 P w K mg base CX0 1 f fd ["self"] (spL K C):=by
 obtain⟨c0,d0,k0,U,Y,a0,J,Z,a1,sl,lk,hc,rfl⟩:=D.it;refine jd lk hc FN (λvs H Q E h=>?_) (λA outer s H vs Q E hr h=>?_)
 .obtain⟨a,dx,l,n,ws,rfl,_⟩:=h
  rfl
 .obtain⟨a,dx,l,n,ws,rfl,z,hs,q⟩:=h;refine⟨_,jz (gC (qF yP (my (pv 0) rfl) (eU dr (cw (show glB (aK sWl) "len"=true from by decide +kernel)) G qf (aI (my (pv 0) rfl) bn) (by decide) (by decide) rfl rfl) (zV _))),?_⟩;exact⟨_,rfl,a,C,dx,_,_,rfl,z,c,n1,rfl,_,rfl,a,C,dx,_,_,rfl,z,c,n0,rfl,l,ws,rfl,.inl hs,n,ws.length,rfl,rfl,q⟩
def yN{H:Hp}{D x dx:Addr}{us:List V}{gs:List (Str×V)}{o:HO}(h:SqL K H D us)(hx:H x=some (.ins C dx gs)):SqL K (upd H x o) D us:=by
 rcases h with(e|⟨o',e⟩)|e
 .have n:D≠x:=λz=>by rw[z,hx]at e;cases e
  exact .inl (.inl (by rw[az n];exact e))
 .have n:D≠x:=λz=>by rw[z,hx]at e;cases e
  exact .inl (.inr ⟨o',by rw[az n];exact e⟩)
 .exact .inr e
def Ew {fl:Addr}{z:FuncData}{G:List Str} (D:FnD K "next_word" "Words.next_word" sWn f fd) (c:Cls K C) (n0:cZ K C "words") (n1:cZ K C "place") (m:nB K C "are_left" fl) (b:bb K z G []) (F:b9 P w K mg base CX0 1 fl z G (spL K C)):b9 P w K mg base CX0 2 f fd ["self"] (spN K C):=by
 obtain⟨c0,d0,k0,o0,m0,a0,Z,t1,a1,sl,lk,hc,rfl⟩:=D.it;refine jd lk hc FO (λvs H Q E h=>?_) (λA outer s H vs Q E hr h=>?_)
 .obtain⟨a,dx,l,n,ws,u,rfl,_⟩:=h
  rfl
 .obtain⟨a,dx,l,n,ws,u,rfl,J,hs,Y,q⟩:=h;have lt:=(D2.mp Y).1;refine⟨_,fH (nu (tD (o9 (jV (pv 0) c m F hr b .nil g5 (mZ rfl (by decide) rfl)))) kN gZ) (fH (rU (pv 0) mr zW) (jz (gC (yR qJ (my (pv 0) rfl) (jS tK (my (pv 0) rfl) mr) (λ_ _=>rfl))))),?_⟩;refine⟨_,rfl,a,dx,_,rfl,J,rfl,a,dx,l,n,ws,rfl,J,hs,_,rfl,?_⟩;rw[Hl (by omega)];refine Fj ?_;refine⟨_,rfl,a,C,dx,_,_,rfl,J,c,n1,rfl,n,1,rfl,rfl,dx,_,J,(by show 2<1000;decide),?_⟩;have U:SqL K (upd H a (.ins C dx (wGs l (n+1:Nat)))) l ws:=yN hs J;refine⟨_,rfl,a,C,dx,_,_,rfl,aq,c,n0,rfl,_,rfl,a,C,dx,_,_,rfl,aq,c,n1,rfl,n+1,1,rfl,rfl,l,ws,_,u,rfl,rfl,U,?_,q⟩;have e:(n:Int)+1-1=n:=by omega
  unfold atI ixN;rw[e,if_pos (Int.natCast_nonneg n),if_pos (by omega)];exact Y
end
def B1 {l:PySem.W.OpenLaw}{w:World}{K:IF}{h:Heap}{mg:Str->Option Value}{fa:Addr} (X:K.In h) (G:h.Ns mainGlobals mg) (a1:mg "law"=some (.ref fa))
  {C fI:Addr}{D:FuncData} (aC:PySem.W.nsIn K mainGlobals "Words"=some (some (.ref C))) (pg:PySem.W.plainGet K C Str.empty=true) (hd:PySem.W.hasDictIn K C=true) (po:PySem.W.plainOver K C=true) (sa:PySem.W.findIn K (.ref C) "__setattr__"=some (some (.builtin "object.__setattr__"))) (mk:PySem.W.makesIn K C=true) (kc:PySem.W.keepIn K (.ref C)=true)
  (n0:PySem.W.findIn K (.ref C) "words"=some none) (n1:PySem.W.findIn K (.ref C) "place"=some none) (ai:PySem.W.findIn K (.ref C) "__init__"=some (some (.ref fI))) (ii:PySem.W.isFn K (.ref fI)=true) (DI:FnD K "__init__" "Words.__init__" sWi fI D) (bI:bb K D ["self","text"] [])
  (mL:HMW K C "are_left" "Words.are_left" sWl ["self"]) (mN:HMW K C "next_word" "Words.next_word" sWn ["self"])
  (hs:qo K top defs [6,10,11,12,13,19,20,21,22,23,24,25,26,27,28,29,30,31,32,33,34,36,37,38,39,40,41,42] tab.ds) (hL:HD K "law" (top 42) oK λfd=>∀(s:Shared) (v:Value),BindsTo s fd ⟨[v],[]⟩ [("script",v)]) (er:qX K ["LoomError","NoRest","NoPaper"]=true)
  (zs:∀x∈iq,PySem.W.nsIn K mainGlobals x=some none)
  {J:Value} (g0:PySem.W.nsIn K mainGlobals "FIGURES"=some (some J)) (r0:aE (toV (.str "0123456789")) J)
  {U:Value} (g1:PySem.W.nsIn K mainGlobals "HOLE_COUNT"=some (some U)) (r1:aE (toV (.int 60)) U)
  {Y:Value} (g2:PySem.W.nsIn K mainGlobals "MOST_STRIPS"=some (some Y)) (r2:aE (toV (.int 60)) Y)
  {Z:Value} (g3:PySem.W.nsIn K mainGlobals "MOST_COUNT"=some (some Z)) (r3:aE (toV (.int 60)) Z)
  {ao:Value} (g4:PySem.W.nsIn K mainGlobals "MOST_DEEP"=some (some ao)) (r4:aE (toV (.int 30)) ao)
  {cv:Value}{ca:Addr}{co:Obj}{ce:Array DictEntry}{cp:Nat} (c0:PySem.W.nsIn K mainGlobals "MEMBERS"=some (some cv)) (c1:cv=.ref ca) (c2:List.lookup ca K=some co) (c3:co.ExactDict) (c4:co.data=.dict ce cp) (c5:jK w ce.toList) (c6:(fm.all λt=>DV K ce t.2)=true) (c7:(ca==sysModules)=false)
 :∃fd:FuncData,(∀(s:Shared) (v:Value),BindsTo s fd ⟨[v],[]⟩ [("script",v)])/\∀base:Heap,K.In base->base.Ns mainGlobals mg->b9 l.prog w K mg base CX0 190 fa fd ["script"] (spM K (aa defs 190) 27):=by
 obtain⟨_,a4,ap,a5⟩:=vM (T:=tab) X G hL (by kernel_rfl);cases a1.symm.trans ap.named;have ct:xT K mg w:=DW ((PySem.W.mg_of X G c0).trans (GL some c1)) c2 c3 c4 c5 c7 c6;have pr:By tab K mg defs w:=by
  refine⟨rfl,Bx X G hs (by kernel_rfl),λx hx=>PySem.W.mg_none_of X G (zs x hx),λp hp=>?_,ct,λC' h'=>by
   cases aC.symm.trans h';obtain⟨fl,a6,l1,l2,l3⟩:=mL;obtain⟨fn,a7,k1,k2,k3⟩:=mN;have z:=PySem.W.mg_none_of X G (zs "len" (by decide));exact⟨⟨pg,hd,po,sa⟩,⟨fl,a6,_,l1,l3,λP w base=>zy l2 ⟨pg,hd,po,sa⟩ n0 n1 z⟩,fn,a7,_,k1,k3,λP w base=>Ew k2 ⟨pg,hd,po,sa⟩ n0 n1 l1 l3 (zy l2 ⟨pg,hd,po,sa⟩ n0 n1 z)⟩,⟨C,aC,PySem.W.mg_of X G aC,fI,D,_,⟨mk,ai,ii,kc⟩,bI,λP w base=>Ev DI ⟨pg,hd,po,sa⟩ n0 n1⟩,er,λc u e=>Bz X G e⟩
  .simp only[tab,y1,F4,Gi]at hp;rcases hp with rfl|rfl|rfl|rfl|rfl
   .exact⟨_,PySem.W.mg_of X G g0,r0⟩
   .exact⟨_,PySem.W.mg_of X G g1,r1⟩
   .exact⟨_,PySem.W.mg_of X G g2,r2⟩
   .exact⟨_,PySem.W.mg_of X G g3,r3⟩
   .exact⟨_,PySem.W.mg_of X G g4,r4⟩
 exact⟨a4,a5,λbase _ _=>DZ (by decide) pr 190 27 oK rfl _ _ _ ap⟩
def FP{l:PySem.W.OpenLaw}{q:Program}{D:List Str}{Y:(Str->Option Value)->Heap->Prop}{J:World->Heap->Prop}{d:DefRec}{K:Params->IF}(Z:l.most=some 63)(G:d.params.defaults=[])
  (hY:∀(w:World) (h:Heap),J w h->(K w.params).In h)
  (F:∀(w:World) (mg:Str->Option Value) (U:Addr) (h:Heap),(K w.params).In h->h.Ns mainGlobals mg->mg d.name=some (.ref U) ->
   ∃fd:FuncData,(∀(s:Shared) (u:Value),BindsTo s fd ⟨[u],[]⟩ [("script",u)])/\∀base:Heap,(K w.params).In base->base.Ns mainGlobals mg->b9 l.prog w (K w.params) mg base CX0 190 U fd ["script"] (spM (K w.params) (aa defs 190) 27)) :
  PySem.W.WalkO q D Y J l.row.toRowW d [] (λf vs=>PySem.call f vs):=
 L2.xc (n:=63) (k:=190) (x:="script") (CX:=λ_=>CX0) (sp:=λw=>spM (K w.params) (aa defs 190) 27) Z (by decide) G ⟨rfl,by decide,by decide⟩ hY F (λ_ _ a ns hl _ hS=>BA (wp ns hl) hS) λ_ _ _ _ _ z=>z
end My
open PySem PySem.W PyProof.Rows List Option
set_option maxRecDepth 100000 in
set_option maxHeartbeats 0 in
theorem PySem.Challenge.cw_mothloom_k71_deep_papers_holds : PySem.Challenge.rw_mothloom_k71_deep_papers.Holds := by
 w_on;o_law;k_head;(case hw=>w_witness2)
 k_fill
 refine My.FP (l:=PySem.Challenge.rw_mothloom_k71_deep_papers) rfl rfl (λw h Y=>PySem.W.kIn_of Y) ?F
 case F =>
  intro w mg fa h KX G hmg
  refine' My.B1 KX G hmg ?aC ?pg ?hd ?po ?sa ?mk ?kc ?n0 ?n1 ?ai ?ii ?DI ?bI ?mL ?mN ?hs ?hL ?er ?zs ?gq0 ?rq0 ?gq1 ?rq1 ?gq2 ?rq2 ?gq3 ?rq3 ?gq4 ?rq4 ?c0 ?c1 ?c2 ?c3 ?c4 ?c5 ?c6 ?c7
  (case er=>kernel_rfl)
  (case aC=>k_is)
  (case pg=>k_is)
  (case hd=>k_is)
  (case po=>k_is)
  (case sa=>k_is)
  (case mk=>k_is)
  (case kc=>k_is)
  (case n0=>k_is)
  (case n1=>k_is)
  (case ai=>k_is)
  (case ii=>k_is)
  (case DI=>refine' .mk' (d0:=.none) ?kl ?kc ?kk;(case kl=>k_is);(case kc=>k_is);(case kk=>k_is))
  (case bI=>exact MM.bn2 λ_ _=>rfl)
  (case mL=>refine' ⟨_,_,⟨?ka,?ki,?ku⟩,.mk' (d0:=.none) ?kl ?kc ?kk,MM.bn1 λ_=>rfl⟩;(case ka=>k_is);(case ki=>k_is);(case ku=>k_is);(case kl=>k_is);(case kc=>k_is);(case kk=>k_is))
  (case mN=>refine' ⟨_,_,⟨?ka,?ki,?ku⟩,.mk' (d0:=.none) ?kl ?kc ?kk,MM.bn1 λ_=>rfl⟩;(case ka=>k_is);(case ki=>k_is);(case ku=>k_is);(case kl=>k_is);(case kc=>k_is);(case kk=>k_is))
  (case hs =>
   repeat' first|exact MM.qo.nil|apply MM.qo.cons
   all_goals (conv=>arg 2;whnf)
   all_goals first
    | (refine' ⟨rfl,_,_,?ka,.mk' (d0:=.none) ?kl ?kc ?kk,MM.bn1 λ_=>rfl,trivial⟩;(case ka=>k_is);(case kl=>k_is);(case kc=>k_is);(case kk=>k_is))
    | (refine' ⟨rfl,_,_,?ka,.mk' (d0:=.none) ?kl ?kc ?kk,MM.bn2 λ_ _=>rfl,trivial⟩;(case ka=>k_is);(case kl=>k_is);(case kc=>k_is);(case kk=>k_is))
    | (refine' ⟨rfl,_,_,?ka,.mk' (d0:=.none) ?kl ?kc ?kk,MM.bn3 λ_ _ _=>rfl,trivial⟩;(case ka=>k_is);(case kl=>k_is);(case kc=>k_is);(case kk=>k_is)))
  (case hL=>refine' ⟨rfl,_,_,?ka,.mk' (d0:=.none) ?kl ?kc ?kk,MM.bn1 λ_=>rfl,λs v=>.of_eq rfl⟩;(case ka=>k_is);(case kl=>k_is);(case kc=>k_is);(case kk=>k_is))
  (case zs=>intro x hx;simp only[MM.iq,y1,F4,Gi]at hx;rcases hx with rfl|rfl|rfl|rfl|rfl|rfl|rfl|rfl|rfl|rfl|rfl|rfl|rfl|rfl|rfl|rfl|rfl|rfl<;>k_is)
  (case gq0=>k_is);(case rq0=>exact⟨_,rfl⟩)
  (case gq1=>k_is);(case rq1=>exact⟨_,rfl⟩)
  (case gq2=>k_is);(case rq2=>exact⟨_,rfl⟩)
  (case gq3=>k_is);(case rq3=>exact⟨_,rfl⟩)
  (case gq4=>k_is);(case rq4=>exact⟨_,rfl⟩)
  (case c0=>k_is);(case c1=>exact rfl);(case c2=>k_is);(case c3=>exact⟨rfl,rfl,rfl⟩);(case c4=>exact rfl)
  (case c5=>exact⟨rfl,rfl,rfl,rfl,rfl,rfl,rfl,rfl,rfl,rfl,trivial⟩);(case c6=>kernel_rfl);(case c7=>kernel_rfl)
